import PyProof.Rows.All
import Wide.All
import OpenK.AllK
import Wide.FinOn
import Lean
import PyProof.EqAt
import PyProof.EqKinds
import PyProof.TupleCall
import PySem.Str
import PySem.Sem
import PyProof.StrWalks
import PyProof.ReprReads
import PyProof.ReprRoads
import PyProof.NeData
import PyProof.WalkInts
import PyProof.Rows.RegStrFacts
import PyProof.StrBlockI
import KE.IntText
import KE.KRevIter
import PyProof.StrBlock2
import KE.KIntText
import PyProof.Rows.Range3
import PyProof.ZipIter
import PyProof.Draws
import PyProof.IsRules
import PySem.SetOps
import PyProof.SetKind
import PyProof.DictStraight
import KE.KDictSum
import PyProof.Rows.SetFrom
import PyProof.Rows.SortShell
import PyProof.ListRange
import PyProof.Rows.FactsT2
import PyProof.Rows.FactsT3
import PySem.Builtin.Str.Common
import PyProof.StrCalls
import PyProof.SumWalk
import KE.KLam
import PyProof.StrLawsIn
import PyProof.FitsReplace
import PyProof.ReprLen
import PySem.Challenge.RW_handwatch_k60_whole_watches
section
open PySem PySem.Spec PyProof.Rows
abbrev RT:=Option
abbrev RU:=Value
abbrev RV:=@wpAny_bind
abbrev RW:=PySem.W.Frag
abbrev RX:=Shared
abbrev RY:=Addr
abbrev RZ:=@Option.bind_some
abbrev R0:=@Heap.get?_push_of_some
abbrev R1:=@Bool.and_eq_true
abbrev R3:=@if_pos
abbrev R4:=@List.mem_singleton
abbrev R5:=@wpAny_pure
abbrev R6:=@Bool.false_ne_true
abbrev R7:=@List.length_map
abbrev R8:=@Nat.lt_of_lt_of_le
abbrev R9:=Program
abbrev R_:=@Heap.lt_size
abbrev Sa:=@if_neg
abbrev Sb:=@List.size_toArray
abbrev Sd:=@Heap.get?_push_size
abbrev Se:=@Nat.le_refl
abbrev Sf:=@List.mem_cons
abbrev Sg:=@List.getElem?_eq_some_iff
abbrev Sh:=@PySem.W.mg_of
abbrev Si:=@Option.some.inj
abbrev Sk:=World
abbrev Sl:=@List.length_append
abbrev Sm:=@absurd
abbrev Sn:=@Nat.ne_of_lt
abbrev So:=Stmt
abbrev Sq:=Heap
abbrev Sr:=Expr
abbrev Ss:=@List.mem_append_right
abbrev Su:=@List.mem_cons_of_mem
abbrev Sv:=Around
abbrev Sw:=@List.append_nil
abbrev Sx:=@Nat.le_trans
abbrev Sy:=@List.getElem?_append_right
abbrev Sz:=@decide_eq_false
abbrev SC:=@Heap.get?_update_other
abbrev SD:=@beq_eq_false_iff_ne
abbrev SF:=@List.all_eq_true
abbrev SH:=@List.getElem?_set_self
abbrev SJ:=@List.getD_eq_getElem?_getD
abbrev SK:=@Array.length_toList
abbrev SL:=@List.all_cons
abbrev SM:=@List.getElem?_set_ne
abbrev SN:=@Nat.lt_irrefl
abbrev SQ:=@Int.emod_nonneg
abbrev SR:=@Int.emod_lt_of_pos
abbrev SU:=@Nat.zero_le
abbrev SV:=FuncData
abbrev SX:=@List.getElem?_map
abbrev SY:=@List.mem_cons_self
abbrev SZ:=@List.getElem?_append_left
abbrev S0:=@Array.getElem?_eq_getElem
abbrev S2:=@List.mem_append_left
abbrev S3:=@List.map_cons
abbrev S4:=@List.length_set
abbrev S5:=@List.length_cons
abbrev S6:=@wpAny_newObj_type
abbrev S7:=@PySem.mem_of_lookup
abbrev S8:=@wpAny_Call_Name_kw
abbrev S9:=@decide_eq_true
abbrev S_:=@List.mem_of_getElem?
abbrev Ta:=@List.map_append
abbrev Tb:=@List.drop_eq_getElem_cons
abbrev Tc:=@of_decide_eq_true
abbrev Td:=@codeAny_builtin
abbrev Te:=@List.getElem?_eq_none
abbrev Tf:=@Heap.get?_update_self
abbrev Tg:=@wpAny_mono
abbrev Th:=@beq_iff_eq
abbrev Ti:=@List.mem_append
abbrev Tj:=@Nat.lt_succ_self
abbrev To:=@List.length_take
abbrev Tp:=@Nat.lt_of_le_of_lt
abbrev Tq:=@eq_of_beq
abbrev Tr:=@Int.add_zero
abbrev Ts:=@Int.zero_add
abbrev Tt:=@List.length_drop
end
set_option Elab.async false
noncomputable section
set_option linter.all false
set_option maxRecDepth 100000
namespace L2
open PySem PySem.Spec PyProof.Rows
abbrev Key:=Sum Int Str
noncomputable def Lv:Key->RU->Bool
 | .inl k,v=>Value.isInt k v
 | .inr x,v=>Value.isStrOf x v
def QR(w:Sk):Key->Int
 | .inl k=>hashInt k
 | .inr x=>hashStr w x
theorem ux:∀{k:Key} {v:RU},Lv k v=true->(∃i t,k=Sum.inl i/\v=Value.int i t)\/(∃x t,k=Sum.inr x/\v=Value.str x t)
 | .inl i,v,h=>by
  obtain⟨t,e⟩:=Value.isInt_shape (k:=i) (v:=v) h
  exact .inl ⟨i,t,rfl,e⟩
 | .inr x,v,h=>by
  obtain⟨t,e⟩:=Value.isStrOf_shape (x:=x) (v:=v) h
  exact .inr ⟨x,t,rfl,e⟩
theorem Nk(a b:Int):decide ((Sum.inl a:Key)=Sum.inl b)=(a==b):=by
 by_cases e:a=b
 ·subst e;simp
 ·have h:¬ (Sum.inl a:Key)=Sum.inl b:=fun q=>e (Sum.inl.inj q)
  rw[Sz h]
  exact(SD.mpr e).symm
theorem M3(a b:Str):decide ((Sum.inr a:Key)=Sum.inr b)=decide (a=b):=by
 by_cases e:a=b
 ·subst e;simp
 ·have h:¬ (Sum.inr a:Key)=Sum.inr b:=fun q=>e (Sum.inr.inj q)
  rw[Sz h,Sz e]
theorem Nf(a:Int)(b:Str):decide ((Sum.inl a:Key)=Sum.inr b)=false:=Sz (fun q=>nomatch q)
theorem LW(a:Str)(b:Int):decide ((Sum.inr a:Key)=Sum.inl b)=false:=Sz (fun q=>nomatch q)
def AQ(prog:R9)(w:Sk):PySem.KeyKind prog w Key where
 is:=Lv
 hash:=QR w
 inj:=fun v a b ha hb=>by
  rcases ux ha with ⟨i,t,rfl,rfl⟩ | ⟨x,t,rfl,rfl⟩
  ·rcases ux hb with ⟨j,u,rfl,e⟩ | ⟨y,u,rfl,e⟩
   ·injection e with e1 _;rw[e1]
   ·exact nomatch e
  ·rcases ux hb with ⟨j,u,rfl,e⟩ | ⟨y,u,rfl,e⟩
   ·exact nomatch e
   ·injection e with e1 _;rw[e1]
 byValue:=fun k v h=>by
  rcases ux h with ⟨i,t,rfl,rfl⟩ | ⟨x,t,rfl,rfl⟩<;>rfl
 pyHash:=fun hv h=>by
  rcases ux hv with ⟨i,t,rfl,rfl⟩ | ⟨x,t,rfl,rfl⟩
  ·exact wpAny_pyHash_int h
  ·exact wpAny_pyHash_str h
 eqBool:=fun hu hv h=>by
  rcases ux hu with ⟨i,t,rfl,rfl⟩ | ⟨x,t,rfl,rfl⟩
  ·rcases ux hv with ⟨j,u,rfl,rfl⟩ | ⟨y,u,rfl,rfl⟩
   ·rw[Nk] at h;exact wpAny_eqBool_int h
   ·rw[Nf] at h;exact SeqAt.EqAt.int_str i t y u _ _ _ _ h
  ·rcases ux hv with ⟨j,u,rfl,rfl⟩ | ⟨y,u,rfl,rfl⟩
   ·rw[LW] at h;exact SeqAt.EqAt.str_int x t j u _ _ _ _ h
   ·rw[M3] at h;exact wpAny_eqBool_str h
 «strs»:=fun k x t v h=>by
  rcases ux h with ⟨i,u,rfl,e⟩ | ⟨y,u,rfl,e⟩
  ·exact nomatch e
  ·injection e with e1 _
   subst e1
   cases v<;>rfl
end L2
namespace L2
open PySem PySem.Spec PyProof.Rows
inductive V where
 | non | bl (b:Bool) | int (i:Int) | str (x:Str) | byt (b:Array UInt8) | flt (b:UInt64) | ref (a:RY) | ty (n:String)
 deriving DecidableEq
def RelV:V->RU->Prop
 | .non,u=>u=Value.none
 | .bl b,u=>u=Value.bool b
 | .int i,u=>∃t,u=Value.int i t
 | .str x,u=>∃t,u=Value.str x t
 | .byt b,u=>∃t,u=Value.bytes b t
 | .flt b,u=>∃t,u=Value.float b t
 | .ref a,u=>u=Value.ref a
 | .ty n,u=>u=Value.type n
abbrev l6:List V->List RU->Prop:=Paired RelV
theorem l6.length{xs:List V}{us:List RU}(r:l6 xs us):xs.length=us.length:=Paired.length r
theorem l6.get:∀{xs:List V} {us:List RU} {i:Nat} {x:V},l6 xs us->xs[i]?=some x->∃u,us[i]?=some u/\RelV x u
 | _,_,_,_,.nil,e=>by simp at e
 | _,_,0,_,.cons r _,e=>by simp at e;subst e;exact⟨_,rfl,r⟩
 | _,_,i+1,x,.cons _ t,e=>by
  obtain⟨u,h1,h2⟩:=l6.get (i:=i) (x:=x) t (by simpa using e)
  exact⟨u,by simpa using h1,h2⟩
theorem l6.set{x:V}{u:RU}(r:RelV x u):∀{xs:List V} {us:List RU} (i:Nat),l6 xs us->l6 (xs.set i x) (us.set i u)
 | _,_,_,.nil=>.nil
 | _,_,0,.cons _ t=>.cons r t
 | _,_,i+1,.cons q t=>.cons q (l6.set r i t)
theorem l6.append:∀{xs ys:List V} {us ws:List RU},l6 xs us->l6 ys ws->l6 (xs++ys) (us++ws)
 | _,_,_,_,.nil,s=>s
 | _,_,_,_,.cons r t,s=>.cons r (l6.append t s)
theorem l6.take:∀{xs:List V} {us:List RU} (n:Nat),l6 xs us->l6 (xs.take n) (us.take n)
 | _,_,0,_=>.nil
 | _,_,_+1,.nil=>.nil
 | _,_,n+1,.cons r t=>.cons r (l6.take n t)
theorem l6.drop:∀{xs:List V} {us:List RU} (n:Nat),l6 xs us->l6 (xs.drop n) (us.drop n)
 | _,_,0,r=>r
 | _,_,_+1,.nil=>.nil
 | _,_,n+1,.cons _ t=>l6.drop n t
theorem l6.none_of:∀{xs:List V} {us:List RU} {i:Nat},l6 xs us->xs[i]?=none->us[i]?=none:=fun {xs us i} r e=>by
 have h1:=r.length
 have h2:xs.length<=i:=List.getElem?_eq_none_iff.mp e
 exact List.getElem?_eq_none_iff.mpr (by omega)
def yU:RT V->RT RU->Prop
 | some v,some u=>RelV v u
 | none,none=>True
 | _,_=>False
def KV{κ:Type}:List (κ×V)->List (κ×RU)->Prop:=Paired fun (p:κ×V) (q:κ×RU)=>p.1=q.1/\RelV p.2 q.2
def kV:Key->V
 | .inl i=>.int i
 | .inr x=>.str x
inductive HO where
 | lst (xs:List V)
 | tup (xs:List V)
 | dK (kvs:List (Key×V)) | dT (kvs:List (List Key×V))
 | set (S:Int->Bool) (n:Nat)
 | ins (C dx:RY) (fs:List (Str×V))
 | own (x:RY)
 | xd (fs:List (Str×V))
 | met (f x:RY)
 | rng (lo hi:Int)
 | frz (o:Obj) (u:HO)
 | tbl (q:Str) (c:Bool)
 | ext (φ:Sq->Prop)
abbrev Hp:=RY->RT HO
def upd(H:Hp)(a:RY)(o:HO):Hp:=fun b=>if b=a then some o else H b
theorem au{H:Hp}{a:RY}{o:HO}:upd H a o a=some o:=by unfold upd;rw[R3 rfl]
theorem aq{H:Hp}{a b:RY}{o:HO}(h:b≠a):upd H a o b=H b:=by unfold upd;rw[Sa h]
theorem uA{H:Hp}{a b:RY}{o:HO}(h:H a=some o)(h':H b=none):a≠b:=by
 intro e;subst e;rw[h] at h';cases h'
def wX(h:Sq)(a:RY)(its:Array RU):Prop:=∃o,h.get? a=some o/\o.cls=.type "tuple" /\ (∃n,o.data=.seq its n)/\o.dict=none
theorem wX.is{h:Sq}{a:RY}{its:Array RU}(x:wX h a its):IsTup h a its:=by obtain⟨o,e,c,d,_⟩:=x;exact⟨o,e,c,d⟩
theorem wX.lt{h:Sq}{a:RY}{its:Array RU}(x:wX h a its):a<h.objs.size:=x.is.lt
theorem wX.new(h:Sq)(its:Array RU):wX (h.push {cls:=.type "tuple",data:=.seq its}) h.objs.size its:=⟨_,Sd _ rfl,rfl,⟨_,rfl⟩,rfl⟩
section
variable(P:R9)(w:Sk)
def vn(H:Hp)(h:Sq)(a:RY):HO->Prop
 | .lst xs=>xs.length<=sizeLine/\∃(its:List RU) (n:Nat),l6 xs its/\h.get? a=some {cls:=.type "list",data:=.seq its.toArray n}
 | .tup xs=>xs.length<=sizeLine/\∃its:List RU,l6 xs its/\wX h a its.toArray
 | .dK kvs=>kvs.length<=sizeLine/\(a==sysModules)=false/\∃vs,KV kvs vs/\h.DictOf (AQ P w) a vs
 | .dT kvs=>kvs.length<=sizeLine/\(a==sysModules)=false/\∃xs:List (List Key×RY×RU),
   Paired (fun (p:List Key×V) (q:List Key×RY×RU)=>p.1=q.1/\H q.2.1=some (.tup (p.1.map kV))/\RelV p.2 q.2.2) kvs xs /\
   ∃o es ep,h.get? a=some o/\o.ExactDict/\o.data=.dict es ep/\es.toList=xs.map (entryOfKey (tupleKind (AQ P w)))/\(xs.map (·.1)).Nodup
 | .set S n=>h.SetOf (intKind P w) a S n
 | .ins C dx fs=>H dx=some (.own a)/\fs.length<=1000/\dx≠a/\h.get? a=some (PySem.W.instObj C dx) /\
   ∃mA,h.Ns1 dx mA/\(∀f,yU (fs.lookup f) (mA f))/\PySem.Within mA (fs.map (·.1))
 | .own _=>∃o,h.get? a=some o
 | .xd fs=>∃mA,h.Ns1 a mA/\∀f,yU (fs.lookup f) (mA f)
 | .rng lo hi=>∃t u v,h.get? a=some {cls:=.type "range",data:=.fields #[.int lo t,.int hi u,.int 1 v]}
 | .frz o u=>h.get? a=some o/\vn H h a u
 | .tbl q true=>h.CodeRec (.ref a) q
 | .tbl q false=>∃ts:Array RU,h.get? a=some {cls:=.none,data:=.fields ts}/\TriplesOk ts.toList/\∀(pos:Pos) (cv:RU),codeAmong pos ts.toList=some cv->∃c,cv=.ref c/\H c=some (.tbl q true)
 | .met f x=>h.get? a=some (PySem.W.methodObj (.ref f) (.ref x))
 | .ext φ=>φ h/\(∃o,h.get? a=some o)/\∀h1 h2:Sq,φ h1->(∀o,h1.get? a=some o->h2.get? a=some o)->φ h2
def y4(H:Hp)(h:Sq):Prop:=∀a o,H a=some o->vn P w H h a o
end
section
variable{P:R9}{w:Sk}{H H':Hp}{h h':Sq}{a:RY}{o:HO}
theorem vn.lt(x:vn P w H h a o):a<h.objs.size:=by
 cases o with
 | lst xs=>obtain⟨_,_,_,_,e⟩:=x;exact R_ e
 | tup xs=>obtain⟨_,_,_,p⟩:=x;exact p.lt
 | dK kvs=>obtain⟨_,_,_,_,o,_,_,e,_⟩:=x;exact R_ e
 | dT kvs=>obtain⟨_,_,_,_,o,_,_,e,_⟩:=x;exact R_ e
 | set S n=>obtain⟨o,_,_,_,e,_⟩:=x;exact R_ e
 | ins C dx fs=>obtain⟨_,_,_,e,_⟩:=x;exact R_ e
 | own y=>obtain⟨_,e⟩:=x;exact R_ e
 | xd fs=>obtain⟨_,⟨_,_,_,e,_⟩,_⟩:=x;exact R_ e
 | rng lo hi=>obtain⟨_,_,_,e⟩:=x;exact R_ e
 | frz ob u=>obtain⟨e,_⟩:=x;exact R_ e
 | tbl q c =>
  cases c with
  | true=>obtain⟨_,o,_,_,e,g,_⟩:=(show h.CodeRec (.ref a) q from x);cases e;exact R_ g
  | false=>obtain⟨_,e,_⟩:=x;exact R_ e
 | met f y=>exact R_ (show h.get? a=some _ from x)
 | ext φ=>obtain⟨_,⟨_,e⟩,_⟩:=x;exact R_ e
theorem Paired.mapP{α β:Type}{F G:α->β->Prop}:∀{l₁:List α} {l₂:List β},Paired F l₁ l₂->(∀a b,F a b->G a b)->Paired G l₁ l₂
 | _,_,.nil,_=>.nil
 | _,_,.cons r t,f=>.cons (f _ _ r) (Paired.mapP t f)
theorem vn.stay(x:vn P w H h a o)(k:∀b u,(b=a\/H b=some (.own a))->h.get? b=some u->h'.get? b=some u)
  (ho:∀b,H b=some (.own a)->H' b=some (.own a)) (ht:∀b xs,H b=some (.tup xs)->H' b=some (.tup xs)) (hc:∀b q c,H b=some (.tbl q c)->H' b=some (.tbl q c)):vn P w H' h' a o:=by
 induction o with
 | lst xs=>obtain⟨z,its,n,r,e⟩:=x;exact⟨z,its,n,r,k _ _ (.inl rfl) e⟩
 | tup xs=>obtain⟨z,its,r,ob,e,c⟩:=x;exact⟨z,its,r,ob,k _ _ (.inl rfl) e,c⟩
 | dK kvs=>obtain⟨z,y,vs,r,ob,es,ep,e,c⟩:=x;exact⟨z,y,vs,r,ob,es,ep,k _ _ (.inl rfl) e,c⟩
 | dT kvs =>
  obtain⟨z,y,xs,r,ob,es,ep,e,c⟩:=x
  exact⟨z,y,xs,Paired.mapP r fun p q z=>⟨z.1,ht _ _ z.2.1,z.2.2⟩,ob,es,ep,k _ _ (.inl rfl) e,c⟩
 | set S n=>obtain⟨ob,es,ep,t,e,c⟩:=x;exact⟨ob,es,ep,t,k _ _ (.inl rfl) e,c⟩
 | ins C dx fs =>
  obtain⟨d,z,ne,e,mA,⟨od,es,ep,e2,c⟩,r⟩:=x
  exact⟨ho _ d,z,ne,k _ _ (.inl rfl) e,mA,⟨od,es,ep,k _ _ (.inr d) e2,c⟩,r⟩
 | own y=>obtain⟨ob,e⟩:=x;exact⟨ob,k _ _ (.inl rfl) e⟩
 | xd fs=>obtain⟨mA,⟨od,es,ep,e,c⟩,r⟩:=x;exact⟨mA,⟨od,es,ep,k _ _ (.inl rfl) e,c⟩,r⟩
 | rng lo hi=>obtain⟨t,u,v,e⟩:=x;exact⟨t,u,v,k _ _ (.inl rfl) e⟩
 | frz ob u ih=>obtain⟨e,q⟩:=x;exact⟨k _ _ (.inl rfl) e,ih q⟩
 | tbl q c =>
  cases c with
  | true =>
   obtain⟨_,o,vs,t,e,g,r⟩:=(show h.CodeRec (.ref a) q from x)
   cases e
   exact⟨a,o,vs,t,rfl,k _ _ (.inl rfl) g,r⟩
  | false =>
   obtain⟨ts,e,t,r⟩:=x
   refine⟨ts,k _ _ (.inl rfl) e,t,fun pos cv hcv=>?_⟩
   obtain⟨c,e1,e2⟩:=r pos cv hcv
   exact⟨c,e1,hc _ _ _ e2⟩
 | met f y =>
  have e:h.get? a=some (PySem.W.methodObj (.ref f) (.ref y)):=x
  show h'.get? a=some (PySem.W.methodObj (.ref f) (.ref y))
  exact k a _ (.inl rfl) e
 | ext φ=>obtain⟨p,⟨o,e⟩,st⟩:=x;exact⟨st _ _ p fun o q=>k _ _ (.inl rfl) q,⟨o,k _ _ (.inl rfl) e⟩,st⟩
theorem y4.lt(x:y4 P w H h)(e:H a=some o):a<h.objs.size:=(x a o e).lt
theorem y4.fresh(x:y4 P w H h)(e:h.objs.size<=a):H a=none:=by
 cases q:H a with
 | none=>rfl
 | some u=>exact Sm (R8 (x.lt q) e) (SN _)
theorem y4.kept(x:y4 P w H h)(k:∀b u,h.get? b=some u->h'.get? b=some u):y4 P w H h':=fun a o e =>
 (x a o e).stay (fun b u _ q=>k b u q) (fun _ q=>q) (fun _ _ q=>q) fun _ _ _ q=>q
theorem y4.laid(x:y4 P w H h)(k:∀b u,h.get? b=some u->h'.get? b=some u)(hp:h.objs.size<=a)(new:vn P w (upd H a o) h' a o):y4 P w (upd H a o) h':=fun b u e=>by
 have hn:=x.fresh hp
 by_cases hb:b=a
 ·subst hb;rw[au] at e;cases e;exact new
 ·rw[aq hb] at e
  exact(x b u e).stay (fun c v _ q=>k c v q) (fun c q=>by rw[aq (uA q hn)];exact q) (fun c xs q=>by rw[aq (uA q hn)];exact q) fun c _ _ q=>by rw[aq (uA q hn)];exact q
end
def Rd(H:Hp)(a:RY)(u:HO):Prop:=H a=some u\/∃o,H a=some (.frz o u)
theorem Rd.of{H:Hp}{a:RY}{u:HO}(h:H a=some u):Rd H a u:=.inl h
theorem Rd.ok{P:R9}{w:Sk}{H:Hp}{h:Sq}{a:RY}{u:HO}(r:Rd H a u)(x:y4 P w H h):vn P w H h a u:=by
 rcases r with r | ⟨o,r⟩
 ·exact x a u r
 ·obtain⟨_,q⟩:=x a _ r
  exact q
def Px:RT HO->Prop
 | some (.lst _)=>True
 | some (.dK _)=>True
 | some (.dT _)=>True
 | some (.set _ _)=>True
 | some (.ins _ _ _)=>True
 | some (.ext _)=>True
 | some (.frz _ (.own _))=>True
 | _=>False
section
variable{P:R9}{w:Sk}{H:Hp}{h h':Sq}{x e:RY}{o':HO}
theorem y4.write(ok:y4 P w H h)(mu:Px (H x))(he:e=x\/H e=some (.own x))(k:∀b u,b≠e->h.get? b=some u->h'.get? b=some u)(heo:∃u,h'.get? e=some u)
  (new:vn P w (upd H x o') h' x o'):y4 P w (upd H x o') h':=fun b u q=>by
 have nown:∀c y,H c=some (.own y)->c≠x:=fun c y r z=>by subst z;rw[r] at mu;exact mu
 have ntup:∀c xs,H c=some (.tup xs)->c≠x:=fun c xs r z=>by subst z;rw[r] at mu;exact mu
 by_cases hb:b=x
 ·subst hb;rw[au] at q;cases q;exact new
 ·rw[aq hb] at q
  by_cases hbe:b=e
  ·have q':H b=some (.own x):=by
    rcases he with z | z
    ·exact Sm (hbe.trans z) hb
    ·rw[hbe];exact z
   rw[q] at q';cases q'
   obtain⟨v,hv⟩:=heo
   exact⟨v,by rw[hbe];exact hv⟩
  ·refine(ok b u q).stay (fun c v hc r=>k c v ?_ r) (fun c r=>by rw[aq (nown c b r)];exact r) (fun c xs r=>by rw[aq (ntup c xs r)];exact r) fun c q d r=>by rw[aq fun z=>by subst z;rw[r] at mu;exact mu];exact r
   rcases hc with rfl | hc
   ·exact hbe
   ·rintro rfl
    rcases he with z | z
    ·exact nown c b hc z
    ·rw[hc] at z;cases z;exact hb rfl
end
structure Un (fs ex:List RY) (H H':Hp) (h h':Sq):Prop where
 keep:∀b o,h.get? b=some o->H b=none->b∉fs->b∉ex->h'.get? b=some o
 slot:∀b o,h.get? b=some o->H b=none->b∈fs->b∉ex->∃sl,h'.get? b=some {o with slots:=sl}
 free:∀b o,h.get? b=some o->H b=none->b∉ex->H' b=none
 there:∀b o,h.get? b=some o->b∉ex->∃o',h'.get? b=some o'
 tups:∀b xs,H b=some (.tup xs)->H' b=some (.tup xs)
 frzs:∀b o u,(∀y,u≠.own y)->H b=some (.frz o u)->H' b=some (.frz o u)
 tbls:∀b q c,H b=some (.tbl q c)->H' b=some (.tbl q c)
section
variable{fs fs' ex ex':List RY}{H H1 H2:Hp}{h h1 h2 h':Sq}{a x e:RY}{o:HO}
theorem Un.any(u:Un fs ex H H1 h h1){b:RY}{ob:Obj}(q:h.get? b=some ob)(n:H b=none)(hx:b∉ex):∃sl,h1.get? b=some {ob with slots:=sl}:=by
 by_cases hb:b∈fs
 ·exact u.slot b ob q n hb hx
 ·exact⟨ob.slots,u.keep b ob q n hb hx⟩
theorem Un.trans(a:Un fs ex H H1 h h1)(b:Un fs ex H1 H2 h1 h2):Un fs ex H H2 h h2 where
 keep:=fun c ob q n hc hx=>b.keep c ob (a.keep c ob q n hc hx) (a.free c ob q n hx) hc hx
 slot:=fun c ob q n hc hx=>by
  obtain⟨sl,e1⟩:=a.slot c ob q n hc hx
  obtain⟨sl',e2⟩:=b.slot c _ e1 (a.free c ob q n hx) hc hx
  exact⟨sl',e2⟩
 free:=fun c ob q n hx=>by
  obtain⟨o',e1⟩:=a.there c ob q hx
  exact b.free c o' e1 (a.free c ob q n hx) hx
 there:=fun c ob q hx=>by
  obtain⟨o',e1⟩:=a.there c ob q hx
  exact b.there c o' e1 hx
 tups:=fun c xs q=>b.tups c xs (a.tups c xs q)
 frzs:=fun c ob xs ny q=>b.frzs c ob xs ny (a.frzs c ob xs ny q)
 tbls:=fun c ps d q=>b.tbls c ps d (a.tbls c ps d q)
theorem Un.kept(k:∀b u,h.get? b=some u->h'.get? b=some u):Un fs ex H H h h':=
 ⟨fun b ob q _ _ _=>k b ob q,fun b ob q _ _ _=>⟨ob.slots,k b ob q⟩,fun _ _ _ n _=>n,fun b ob q _=>⟨ob,k b ob q⟩,fun _ _ q=>q,fun _ _ _ _ q=>q,fun _ _ _ q=>q⟩
theorem Un.refl:Un fs ex H H h h:=Un.kept fun _ _ q=>q
theorem Un.laid(k:∀b u,h.get? b=some u->h'.get? b=some u)(hp:h.objs.size<=a)(hn:H a=none):Un fs ex H (upd H a o) h h' where
 keep:=fun b u q _ _ _=>k b u q
 slot:=fun b u q _ _ _=>⟨u.slots,k b u q⟩
 free:=fun b u q n _=>by rw[aq (Sn (R8 (R_ q) hp))];exact n
 there:=fun b u q _=>⟨u,k b u q⟩
 tups:=fun b xs q=>by rw[aq (uA q hn)];exact q
 frzs:=fun b u xs _ q=>by rw[aq (uA q hn)];exact q
 tbls:=fun b ps _ q=>by rw[aq (uA q hn)];exact q
theorem Un.write(mu:Px (H x))(he:e=x\/H e=some (.own x))(k:∀b u,b≠e->h.get? b=some u->h'.get? b=some u)(heo:∃u,h'.get? e=some u):Un fs ex H (upd H x o) h h':=by
 have hx:∀b,H b=none->b≠x:=fun b n z=>by subst z;rw[n] at mu;exact mu
 have hb:∀b,H b=none->b≠e:=fun b n z=>by
  subst z
  rcases he with r | r
  ·exact hx b n r
  ·rw[n] at r;cases r
 have hm:∀b u,H b=some u->¬ Px (some u)->b≠x:=fun b u q nm z=>by subst z;rw[q] at mu;exact nm mu
 refine⟨fun b u q n _ _=>k b u (hb b n) q,fun b u q n _ _=>⟨u.slots,k b u (hb b n) q⟩,fun b u q n _=>by rw[aq (hx b n)];exact n,fun b u q _=>?_,
  fun b xs q=>by rw[aq (hm b _ q fun z=>z)];exact q,fun b u xs ny q=>by rw[aq (hm b _ q (by intro z;cases xs<;>first | exact z | exact ny _ rfl))];exact q,fun b ps _ q=>by rw[aq (hm b _ q fun z=>z)];exact q⟩
 by_cases hbe:b=e
 ·subst hbe;exact heo
 ·exact⟨u,k b u hbe q⟩
theorem Un.mono(u:Un fs ex H H1 h h1)(hs:∀b∈fs,b∈fs')(hx:∀b∈ex,b∈ex'):Un fs' ex' H H1 h h1:=
 ⟨fun b ob q n hb he=>u.keep b ob q n (fun z=>hb (hs b z)) fun z=>he (hx b z),fun _ _ q n _ he=>u.any q n fun z=>he (hx _ z),fun b ob q n he=>u.free b ob q n fun z=>he (hx b z),fun b ob q he=>u.there b ob q fun z=>he (hx b z),u.tups,u.frzs,u.tbls⟩
end
def PF(h:Sq)(H:Hp):List RY:=(List.range h.objs.size).filter fun a=>(H a).isSome
def zl(h:Sq)(H:Hp):Sq:=PySem.W.hideAll h (PF h H)
theorem CG(h:Sq)(H:Hp):(zl h H).objs.size=h.objs.size:=PySem.W.hideAll_size _ _
theorem EA{h:Sq}{H:Hp}{b:RY}{o:Obj}(e:h.get? b=some o)(n:H b=none):(zl h H).get? b=some o:=
 PySem.W.hideAll_get _ e fun hm=>by
  have q:(H b).isSome=true:=(List.mem_filter.mp hm).2
  rw[n] at q;simp at q
theorem Gf{h:Sq}{H:Hp}{b:RY}{o:Obj}(e:(zl h H).get? b=some o):h.get? b=some o/\H b=none:=by
 have e':h.get? b=some o:=PySem.W.of_hideAll (PF h H) e
 refine⟨e',?_⟩
 cases q:H b with
 | none=>rfl
 | some x =>
  have hm:b∈PF h H:=List.mem_filter.mpr ⟨List.mem_range.mpr (R_ e'),by simp[q]⟩
  have z:(zl h H).get? b=none:=PySem.W.hideAll_none (PF h H) hm
  rw[z] at e;cases e
noncomputable def Jz(g h:Sq)(L:RY):List (RY×Obj):=(List.range h.objs.size).filterMap fun a=>if a=L\/(g.get? a).isSome=true then none else (h.get? a).map fun o=>(a,o)
def rest(g h:Sq)(L d:RY):List (RY×Obj):=(Jz g h L).filter fun p=>decide (p.1≠d)
end L2
namespace L2
open PySem PySem.Spec PyProof.Rows
structure Mod (K:RW) (mg:Str->RT RU) (base:Sq):Prop where
 kin:K.In base
 glob:base.Ns mainGlobals mg
 blt:∃mb,base.Ns builtinsNs mb/\∀x:Str,x ≠ "__name__" -> mb x=bootBuiltins x
 nolimit:base.NoLimit
structure Cx where
 prog:R9
 w:Sk
 K:RW
 mg:Str->RT RU
 base:Sq
 A:Sv
 N:List Str
 s₀:RX
 H₀:Hp
 env:Env
 outer:List Env
 stack:List Env
 ex:List RY
 fn:Str->Bool
 calm:Bool
 pn:List (RY×Obj)
 xe:RU->RX->Prop
noncomputable def xu(l:List Env):List RY:=l.filterMap (·.frame)
abbrev Cx.fs(X:Cx):List RY:=xu X.outer
def B0(sc:Scope)(x:Str):Prop:=sc.names.lookup x=some .local\/sc.names.lookup x=some .cell\/sc.names.lookup x=some .free
def Loc(sc:Scope)(x:Str):Prop:=sc.names.lookup x=some .local\/sc.names.lookup x=some .cell
def Look(env:Env)(h:Sq)(m:Str->RT RU)(x:Str)(u:RU):Prop:=
 (env.kindOf x=some .local/\m x=some u)\/((env.kindOf x=some .cell\/env.kindOf x=some .free)/\∃c,env.cells.lookup x=some c/\h.IsCell c (some u))
structure Cx.Ok (X:Cx):Prop where
 mod:Mod X.K X.mg X.base
 kind:X.env.scope.kind=.function
 glob:X.env.globals=mainGlobals
 blt:X.env.builtins=builtinsNs
 above:X.s₀.heap.objs.size<=X.env.locals
 inj:∀x y c,X.env.cells.lookup x=some c->X.env.cells.lookup y=some c->x=y
 has:∀x,(X.env.kindOf x=some .cell\/X.env.kindOf x=some .free)->∃c,X.env.cells.lookup x=some c
 cab:∀x c,X.fn x=true->X.env.cells.lookup x=some c->X.s₀.heap.objs.size<=c
 hd:X.calm=true->X.A.handled=none
 frames:X.A.frames=some X.stack
 stk:X.stack=X.outer\/(X.stack=X.env::X.outer/\X.env.frame=some X.env.locals)
 exf:∀b∈X.ex,b≠X.env.locals/\∀x c,X.env.cells.lookup x=some c->c≠b
 bs:∀b o,X.base.get? b=some o->X.s₀.heap.get? b=some o/\X.H₀ b=none
 bsz:X.base.objs.size<=X.s₀.heap.objs.size
 noex:∀b o,X.base.get? b=some o->b∉X.ex
 exfs:∀b∈X.ex,b∉X.fs
 funs:X.s₀.heap.FunFrames X.base X.outer
 frf:∀b∈X.fs,X.H₀ b=none
structure Inv (X:Cx) (pins:List (RY×Obj)) (σ:List (RT V)) (H:Hp) (s:RX):Prop where
 ok:X.Ok
 os:s.os=X.s₀.os
 bare:AllBare s.gens
 base:Un X.fs X.ex X.H₀ H X.s₀.heap s.heap
 loc:∃m,s.heap.Ns X.env.locals m/\∀(i:Nat) (x:Str) (v:V),X.N[i]?=some x->σ[i]?=some (some v)->B0 X.env.scope x->∃u,RelV v u/\Look X.env s.heap m x u
 cell:∀x c,X.env.cells.lookup x=some c->∃v,s.heap.IsCell c v
 free:H X.env.locals=none
 freeC:∀x c,X.env.cells.lookup x=some c->H c=none
 pin:∀p∈X.pn++pins,s.heap.get? p.1=some p.2/\H p.1=none/\p.1≠X.env.locals/\p.1∉X.fs/\∀v,p.2.data≠.cell v
 hok:y4 X.prog X.w H s.heap
 len:σ.length=X.N.length
section
variable{X:Cx}{pins:List (RY×Obj)}{σ:List (RT V)}{H H':Hp}{s:RX}{h':Sq}
theorem Cx.Ok.nofr(ok:X.Ok){b:RY}{o:Obj}(e:X.base.get? b=some o):b∉X.fs:=fun hb=>by
 have:=(ok.funs.mem hb).1
 rw[e] at this;cases this
theorem Inv.bs(I:Inv X pins σ H s):∀b o,X.base.get? b=some o->s.heap.get? b=some o/\H b=none:=fun b o e =>
 ⟨I.base.keep b o (I.ok.bs b o e).1 (I.ok.bs b o e).2 (I.ok.nofr e) (I.ok.noex b o e),I.base.free b o (I.ok.bs b o e).1 (I.ok.bs b o e).2 (I.ok.noex b o e)⟩
theorem Inv.bk(I:Inv X pins σ H s):∀b o,X.base.get? b=some o->s.heap.get? b=some o:=fun b o e=>(I.bs b o e).1
theorem Inv.mod(I:Inv X pins σ H s):Mod X.K X.mg X.base:=I.ok.mod
theorem Inv.kIn(I:Inv X pins σ H s):X.K.In s.heap:=I.ok.mod.kin.keeps I.bk
theorem Inv.nolimit(I:Inv X pins σ H s):s.heap.NoLimit:=I.ok.mod.nolimit.keeps I.bk
theorem Inv.fr(I:Inv X pins σ H s):∃m,Fr X.base X.env.locals s.heap m:=
 let ⟨m,hn,_⟩:=I.loc
 ⟨m,hn,I.bk,Sx I.ok.bsz I.ok.above⟩
theorem Inv.lt(I:Inv X pins σ H s):X.env.locals<s.heap.objs.size:=let ⟨_,hn,_⟩:=I.loc;hn.lt
theorem Inv.sz(I:Inv X pins σ H s):X.s₀.heap.objs.size<=s.heap.objs.size:=Sx I.ok.above (Nat.le_of_lt I.lt)
theorem Inv.nofs(I:Inv X pins σ H s){a:RY}(h:s.heap.objs.size<=a):a∉X.fs:=fun hb=>by
 obtain⟨_,o,ho,_⟩:=I.ok.funs.mem hb
 exact Sm (R8 (R_ ho) (Sx I.sz h)) (SN _)
theorem Inv.cne(I:Inv X pins σ H s):∀x c,X.env.cells.lookup x=some c->c≠X.env.locals:=fun x c e z=>by
 obtain⟨v,o,ho,hd⟩:=I.cell x c e
 obtain⟨m,⟨o',es,ep,ho',hd',_⟩,_⟩:=I.loc
 rw[z,ho'] at ho;cases ho;rw[hd'] at hd;cases hd
theorem Inv.funs(I:Inv X pins σ H s):s.heap.FunFrames X.base X.outer:=by
 have all:∀(l:List Env),(∀b∈xu l,b∈X.fs)->X.s₀.heap.FunFrames X.base l->s.heap.FunFrames X.base l:=by
  intro l
  induction l with
  | nil=>intro _ _;trivial
  | cons env r ih =>
   intro hs hl
   obtain⟨hk,⟨L,o,hf,hn,ho,hd⟩,hr⟩:=hl
   have hL:L∈X.fs:=hs L (by unfold xu;rw[List.filterMap_cons,hf];exact SY)
   obtain⟨sl,e⟩:=I.base.slot L o ho (I.ok.frf L hL) hL fun z=>I.ok.exfs L z hL
   exact⟨hk,⟨L,_,hf,hn,e,hd⟩,ih (fun b hb=>hs b (by unfold xu;rw[List.filterMap_cons,hf];exact Su _ hb)) hr⟩
 exact all X.outer (fun _ hb=>hb) I.ok.funs
theorem Inv.stack(I:Inv X pins σ H s):s.heap.FunFrames X.base X.stack:=by
 rcases I.ok.stk with e | ⟨e,hf⟩
 ·rw[e];exact I.funs
 ·rw[e]
  obtain⟨m,hn,_⟩:=I.loc
  refine .cons (by rw[I.ok.kind];decide) hf hn ?_ I.funs
  exact Heap.get?_none_of_le (Sx I.ok.bsz I.ok.above)
theorem Inv.stkSub(I:Inv X pins σ H s):∀b∈xu X.stack,b∈X.env.locals::X.fs:=fun b hb=>by
 rcases I.ok.stk with e | ⟨e,hf⟩
 ·rw[e] at hb;exact Su _ hb
 ·rw[e] at hb
  unfold xu at hb
  rw[List.filterMap_cons,hf] at hb
  exact hb
theorem Inv.stkFree(I:Inv X pins σ H s):∀b∈xu X.stack,H b=none:=fun b hb=>by
 rcases Sf.mp (I.stkSub b hb) with e | hb
 ·rw[e];exact I.free
 ·obtain⟨_,o,ho,_⟩:=I.ok.funs.mem hb
  exact I.base.free b o ho (I.ok.frf b hb) fun z=>I.ok.exfs b z hb
theorem Inv.step{g':Array GenState}{t':Nat}{d':Drawn}{ch:List RY}(I:Inv X pins σ H s)
  (hch:∀b∈ch,(b∈X.ex\/X.s₀.heap.objs.size<=b)/\b≠X.env.locals/\(∀x c,X.env.cells.lookup x=some c->c≠b)/\∀p∈X.pn++pins,p.1≠b)
  (keep:∀b o,b≠X.env.locals->b∉X.fs->b∉ch->s.heap.get? b=some o->H b=none->h'.get? b=some o)
  (slot:∀b o,b≠X.env.locals->b∈X.fs->b∉ch->s.heap.get? b=some o->H b=none->∃sl,h'.get? b=some {o with slots:=sl}) (free:∀b o,b∉ch->s.heap.get? b=some o->H b=none->H' b=none)
  (there:∀b o,b∉ch->s.heap.get? b=some o->∃o',h'.get? b=some o')
  (tups:∀b xs,H b=some (.tup xs)->H' b=some (.tup xs)) (frzs:∀b o u,(∀y,u≠.own y)->H b=some (.frz o u)->H' b=some (.frz o u)) (tbls:∀b q c,H b=some (.tbl q c)->H' b=some (.tbl q c))
  (ns:∀m,s.heap.Ns X.env.locals m->h'.Ns X.env.locals m) (hok:y4 X.prog X.w H' h') (hg:AllBare g') :
  Inv X pins σ H' {s with heap:=h',gens:=g',drawn:=d',toks:=t' }:=by
 have neL:∀b o,X.s₀.heap.get? b=some o->b≠X.env.locals:=fun b o e=>Sn (R8 (R_ e) I.ok.above)
 have neC:∀b o,X.s₀.heap.get? b=some o->b∉X.ex->b∉ch:=fun b o e hx hb=>by
  rcases(hch b hb).1 with z | z
  ·exact hx z
  ·exact Sm (R8 (R_ e) z) (SN _)
 have cellK:∀x c,X.env.cells.lookup x=some c->∀v,s.heap.IsCell c v->h'.IsCell c v:=fun x c e v ⟨o,ho,hd⟩=>by
  have nch:c∉ch:=fun z=>(hch c z).2.2.1 x c e rfl
  by_cases hc:c∈X.fs
  ·obtain⟨sl,q⟩:=slot c o (I.cne x c e) hc nch ho (I.freeC x c e)
   exact⟨_,q,hd⟩
  ·exact⟨o,keep c o (I.cne x c e) hc nch ho (I.freeC x c e),hd⟩
 refine⟨I.ok,I.os,hg,⟨fun b o e n hb hx=>?_,fun b o e n hb hx=>?_,fun b o e n hx=>?_,fun b o e hx=>?_,fun b xs e=>tups b xs (I.base.tups b xs e),fun b o xs ny e=>frzs b o xs ny (I.base.frzs b o xs ny e),fun b ps d e=>?_⟩,?_,fun x c e=>?_,?_,fun x c e=>?_,fun p hp=>?_,hok,I.len⟩
 ·exact keep b o (neL b o e) hb (neC b o e hx) (I.base.keep b o e n hb hx) (I.base.free b o e n hx)
 ·obtain⟨sl,e1⟩:=I.base.slot b o e n hb hx
  obtain⟨sl',e2⟩:=slot b _ (neL b o e) hb (neC b o e hx) e1 (I.base.free b o e n hx)
  exact⟨sl',e2⟩
 ·obtain⟨o',e1⟩:=I.base.there b o e hx
  exact free b o' (neC b o e hx) e1 (I.base.free b o e n hx)
 ·obtain⟨o',e1⟩:=I.base.there b o e hx
  exact there b o' (neC b o e hx) e1
 ·exact tbls b ps d (I.base.tbls b ps d e)
 ·obtain⟨m,hn,hl⟩:=I.loc
  refine⟨m,ns m hn,fun i x v e1 e2 e3=>?_⟩
  obtain⟨u,r,l⟩:=hl i x v e1 e2 e3
  refine⟨u,r,?_⟩
  rcases l with l | ⟨k,c,e,z⟩
  ·exact .inl l
  ·exact .inr ⟨k,c,e,cellK x c e _ z⟩
 ·obtain⟨v,z⟩:=I.cell x c e
  exact⟨v,cellK x c e v z⟩
 ·obtain⟨m,⟨o,_,_,ho,_⟩,_⟩:=I.loc
  exact free _ o (fun z=>(hch _ z).2.1 rfl) ho I.free
 ·obtain⟨v,o,ho,hd⟩:=I.cell x c e
  exact free c o (fun z=>(hch c z).2.2.1 x c e rfl) ho (I.freeC x c e)
 ·obtain⟨e,n,ne,nf,d⟩:=I.pin p hp
  have nch:p.1∉ch:=fun z=>(hch p.1 z).2.2.2 p hp rfl
  exact⟨keep p.1 p.2 ne nf nch e n,free p.1 p.2 nch e n,ne,nf,d⟩
theorem Inv.un{t':Nat}(I:Inv X pins σ H s)(u:Un X.fs [] H H' s.heap h')(hok:y4 X.prog X.w H' h'):Inv X pins σ H' {s with heap:=h',toks:=t' }:=by
 obtain⟨m,⟨o,es,ep,ho,r⟩,_⟩:=id I.loc
 obtain⟨sl,hL⟩:=u.any ho I.free (by simp)
 exact I.step (g':=s.gens) (d':=s.drawn) (ch:=[]) (fun _ z=>nomatch z) (fun b o _ hb _ e n=>u.keep b o e n hb (by simp)) (fun b o _ hb _ e n=>u.slot b o e n hb (by simp)) (fun b o _ e n=>u.free b o e n (by simp)) (fun b o _ e=>u.there b o e (by simp)) u.tups u.frzs u.tbls (fun m' hm=>by
  obtain⟨o',es',ep',ho',r'⟩:=hm
  rw[ho] at ho';cases ho'
  exact⟨_,es',ep',hL,r'⟩) hok I.bare
theorem Inv.call{g':Array GenState}{t':Nat}{d':Drawn}{ch:List RY}(I:Inv X pins σ H s)(u:Un (xu X.stack) ch H H' s.heap h')(hok:y4 X.prog X.w H' h')(hg:AllBare g')
  (hch:∀b∈ch,(b∈X.ex\/X.s₀.heap.objs.size<=b)/\b≠X.env.locals/\(∀x c,X.env.cells.lookup x=some c->c≠b)/\∀p∈X.pn++pins,p.1≠b) :
  Inv X pins σ H' {s with heap:=h',gens:=g',drawn:=d',toks:=t' }:=by
 obtain⟨m,⟨o,es,ep,ho,r⟩,_⟩:=id I.loc
 obtain⟨sl,hL⟩:=u.any ho I.free fun z=>(hch _ z).2.1 rfl
 exact I.step (ch:=ch) hch (fun b o hL hb hc e n=>u.keep b o e n (fun z=>(Sf.mp (I.stkSub b z)).elim hL hb) hc) (fun b o _ _ hc e n=>u.any e n hc) (fun b o hc e n=>u.free b o e n hc) (fun b o hc e=>u.there b o e hc) u.tups u.frzs u.tbls (fun m' hm=>by
  obtain⟨o',es',ep',ho',r'⟩:=hm
  rw[ho] at ho';cases ho'
  exact⟨_,es',ep',hL,r'⟩) hok hg
theorem Inv.turned{t':Nat}{it:RY}(I:Inv X pins σ H s)(k:∀b o,b≠it->s.heap.get? b=some o->h'.get? b=some o)(hn:H it=none)(hL:it≠X.env.locals)
  (h1:it∈X.ex\/X.s₀.heap.objs.size<=it) (h2:∀x c,X.env.cells.lookup x=some c->c≠it) (h3:∀p∈X.pn++pins,p.1≠it):Inv X pins σ H {s with heap:=h',toks:=t' }:=by
 have nit:∀b u,H b=some u->b≠it:=fun b u e z=>by rw[z,hn] at e;cases e
 refine I.step (g':=s.gens) (d':=s.drawn) (ch:=[it]) (fun b hb=>?_) (fun b o _ _ hc e _=>k b o (fun z=>hc (by simp[z])) e) (fun b o _ _ hc e _=>⟨o.slots,k b o (fun z=>hc (by simp[z])) e⟩) (fun _ _ _ _ n=>n)
  (fun b o hc e=>⟨o,k b o (fun z=>hc (by simp[z])) e⟩) (fun _ _ e=>e) (fun _ _ _ _ e=>e) (fun _ _ _ e=>e) (fun m hm=>?_) (fun b u e=>?_) I.bare
 ·have e:b=it:=by simpa using hb
  subst e
  exact⟨h1,hL,h2,h3⟩
 ·obtain⟨o,es,ep,ho,r⟩:=hm
  exact⟨o,es,ep,k _ o (Ne.symm hL) ho,r⟩
 ·refine(I.hok b u e).stay (fun c v hc q=>k c v ?_ q) (fun _ q=>q) (fun _ _ q=>q) fun _ _ _ q=>q
  rcases hc with z | z
  ·rw[z];exact nit b u e
  ·exact nit c _ z
theorem Inv.tok(I:Inv X pins σ H s)(t:Nat):Inv X pins σ H {s with toks:=t}:=I.un (h':=s.heap) (t':=t) Un.refl I.hok
theorem Inv.kept{t':Nat}(I:Inv X pins σ H s)(k:∀b u,s.heap.get? b=some u->h'.get? b=some u):Inv X pins σ H {s with heap:=h',toks:=t' }:=I.un (Un.kept k) (I.hok.kept k)
theorem Inv.laid{a:RY}{o:HO}{t':Nat}(I:Inv X pins σ H s)(k:∀b u,s.heap.get? b=some u->h'.get? b=some u)(hp:s.heap.objs.size<=a)(new:vn X.prog X.w (upd H a o) h' a o) :
  Inv X pins σ (upd H a o) {s with heap:=h',toks:=t' }:=I.un (Un.laid k hp (I.hok.fresh hp)) (I.hok.laid k hp new)
theorem Inv.write{x e:RY}{o:HO}{t':Nat}(I:Inv X pins σ H s)(mu:Px (H x))(he:e=x\/H e=some (.own x))(k:∀b u,b≠e->s.heap.get? b=some u->h'.get? b=some u)(heo:∃u,h'.get? e=some u)
  (new:vn X.prog X.w (upd H x o) h' x o):Inv X pins σ (upd H x o) {s with heap:=h',toks:=t' }:=I.un (Un.write mu he k heo) (I.hok.write mu he k heo new)
theorem Inv.pins_of{pins':List (RY×Obj)}(I:Inv X pins σ H s)(h:∀p∈pins',s.heap.get? p.1=some p.2/\H p.1=none/\p.1≠X.env.locals/\p.1∉X.fs/\∀v,p.2.data≠.cell v):Inv X pins' σ H s:=
 ⟨I.ok,I.os,I.bare,I.base,I.loc,I.cell,I.free,I.freeC,fun p hp=>(Ti.mp hp).elim (fun z=>I.pin p (S2 _ z)) (h p),I.hok,I.len⟩
theorem A2{N:List Str}(hN:N.Nodup){i j:Nat}{x:Str}(a:N[i]?=some x)(b:N[j]?=some x):i=j:=by
 obtain⟨h1,e1⟩:=Sg.mp a
 obtain⟨h2,e2⟩:=Sg.mp b
 exact(List.getElem_inj hN).mp (e1.trans e2.symm)
theorem Cz{M:Model}{A:Sv}{E:RU->RX->Prop}{i:Nat}{x:Str}{v:V}{u:RU}{Q:Unit->RX->Prop}(I:Inv X pins σ H s)(hN:X.N.Nodup)(hi:X.N[i]?=some x)(hx:Loc X.env.scope x)(r:RelV v u)
  (h:∀s',Inv X pins (σ.set i (some v)) H s'->(∃a,Heap.SameBut a s.heap s'.heap/\(a=X.env.locals\/X.env.cells.lookup x=some a))->Q () s') (hf:X.fn x=true\/X.env.scope.names.lookup x=some .local:=by first | exact .inl rfl | exact .inr rfl | assumption):wpAny M A (storeName X.env x u) Q E s:=by
 obtain⟨m,hn,hl⟩:=id I.loc
 have hcls:(X.env.scope.kind==.class||(X.env.scope.kind==.module&&X.env.locals != X.env.globals))=false:=by rw[I.ok.kind];rfl
 have hiσ:i<σ.length:=by rw[I.len];exact(Sg.mp hi).1
 have cne:=I.cne
 have tracked:∀{a:RY} {h':Sq},(∃o,s.heap.get? a=some o/\H a=none)->Heap.SameBut a s.heap h'->y4 X.prog X.w H h':=fun {a h'} ha hs b ob e=>by
  obtain⟨_,_,hfree⟩:=ha
  refine(I.hok b ob e).stay (fun c w' hc q=>(hs.2 c ?_).trans q) (fun _ q=>q) (fun _ _ q=>q) fun _ _ _ q=>q
  rintro rfl
  rcases hc with rfl | hc
  ·rw[hfree] at e;cases e
  ·rw[hfree] at hc;cases hc
 rcases hx with hk | hk
 ·refine wpAny_storeName_local hk hn (fun h' hn' hs=>?_) hcls
  obtain⟨oL,_,_,hoL,_⟩:=id hn
  refine h _ ⟨I.ok,I.os,I.bare,⟨fun b o e n hb hx=>?_,fun b o e n hb hx=>?_,I.base.free,fun b o e hx=>?_,I.base.tups,I.base.frzs,I.base.tbls⟩,⟨_,hn',fun j y v' e1 e2 e3=>?_⟩,fun y c e=>?_,I.free,I.freeC,fun p hp=>?_,tracked ⟨oL,hoL,I.free⟩ hs,by simpa using I.len⟩ ⟨_,hs,.inl rfl⟩
  ·exact(hs.2 b (Sn (R8 (R_ e) I.ok.above))).trans (I.base.keep b o e n hb hx)
  ·obtain⟨sl,e1⟩:=I.base.slot b o e n hb hx
   exact⟨sl,(hs.2 b (Sn (R8 (R_ e) I.ok.above))).trans e1⟩
  ·obtain⟨o',e1⟩:=I.base.there b o e hx
   exact⟨o',(hs.2 b (Sn (R8 (R_ e) I.ok.above))).trans e1⟩
  ·by_cases hj:j=i
   ·subst hj
    rw[hi] at e1;cases e1
    rw[SH hiσ] at e2
    cases e2
    exact⟨u,r,.inl ⟨hk,by simp⟩⟩
   ·rw[SM (Ne.symm hj)] at e2
    obtain⟨u',r',q⟩:=hl j y v' e1 e2 e3
    refine⟨u',r',?_⟩
    rcases q with ⟨k,e⟩ | ⟨k,c,e,z⟩
    ·refine .inl ⟨k,?_⟩
     have:y≠x:=fun e=>hj (A2 hN e1 (e ▸ hi))
     simp[this,e]
    ·exact .inr ⟨k,c,e,z.sameBut hs (cne y c e)⟩
  ·obtain⟨w',z⟩:=I.cell y c e
   exact⟨w',z.sameBut hs (cne y c e)⟩
  ·obtain⟨e,n,ne,nf,d⟩:=I.pin p hp
   exact⟨(hs.2 p.1 ne).trans e,n,ne,nf,d⟩
 ·have hfn:X.fn x=true:=by
   rcases hf with z | z
   ·exact z
   ·rw[z] at hk;cases hk
  obtain⟨c,hc⟩:=I.ok.has x (.inl hk)
  obtain⟨w',z⟩:=I.cell x c hc
  refine wpAny_storeName_cell I.ok.kind hk hc z (fun h' hc' hs=>?_)
  obtain⟨oc,hoc,hocd⟩:=id z
  refine h {s with heap:=h' } ⟨I.ok,I.os,I.bare,⟨fun b o e n hb hx=>?_,fun b o e n hb hx=>?_,I.base.free,fun b o e hx=>?_,I.base.tups,I.base.frzs,I.base.tbls⟩,⟨m,hn.sameBut hs (Ne.symm (cne x c hc)),fun j y v' e1 e2 e3=>?_⟩,fun y c' e=>?_,I.free,I.freeC,fun p hp=>?_,tracked ⟨oc,hoc,I.freeC x c hc⟩ hs,by simpa using I.len⟩ ⟨c,hs,.inr hc⟩
  ·exact(hs.2 b (Sn (R8 (R_ e) (I.ok.cab x c hfn hc)))).trans (I.base.keep b o e n hb hx)
  ·obtain⟨sl,e1⟩:=I.base.slot b o e n hb hx
   exact⟨sl,(hs.2 b (Sn (R8 (R_ e) (I.ok.cab x c hfn hc)))).trans e1⟩
  ·obtain⟨o',e1⟩:=I.base.there b o e hx
   exact⟨o',(hs.2 b (Sn (R8 (R_ e) (I.ok.cab x c hfn hc)))).trans e1⟩
  ·by_cases hj:j=i
   ·subst hj
    rw[hi] at e1;cases e1
    rw[SH hiσ] at e2
    cases e2
    exact⟨u,r,.inr ⟨.inl hk,c,hc,hc'⟩⟩
   ·rw[SM (Ne.symm hj)] at e2
    obtain⟨u',r',q⟩:=hl j y v' e1 e2 e3
    refine⟨u',r',?_⟩
    rcases q with q | ⟨k,c',e,z'⟩
    ·exact .inl q
    ·refine .inr ⟨k,c',e,z'.sameBut hs ?_⟩
     rintro rfl
     exact hj (A2 hN e1 (I.ok.inj _ _ _ e hc ▸ hi))
  ·by_cases hcc:c'=c
   ·subst hcc;exact⟨_,hc'⟩
   ·obtain⟨w2,z2⟩:=I.cell y c' e
    exact⟨w2,z2.sameBut hs hcc⟩
  ·obtain⟨e,n,ne,nf,d⟩:=I.pin p hp
   refine⟨(hs.2 p.1 ?_).trans e,n,ne,nf,d⟩
   intro q
   rw[q,hoc] at e
   have q':oc=p.2:=Si e
   exact d w' (by rw[<- q'];exact hocd)
theorem zC{M:Model}{A:Sv}{E:RU->RX->Prop}{i:Nat}{x:Str}{v:V}{u:RU}{Q:Unit->RX->Prop}(I:Inv X pins σ H s)(hN:X.N.Nodup)(hi:X.N[i]?=some x)(hx:Loc X.env.scope x)(r:RelV v u)
  (h:∀s',Inv X pins (σ.set i (some v)) H s'->Q () s') (hf:X.fn x=true\/X.env.scope.names.lookup x=some .local:=by first | exact .inl rfl | exact .inr rfl | assumption):wpAny M A (storeName X.env x u) Q E s:=
 Cz I hN hi hx r (fun s' I' _=>h s' I') hf
theorem Inv.call'{s':RX}{ch:List RY}(I:Inv X pins σ H s)(ho:s'.os=s.os)(u:Un (xu X.stack) ch H H' s.heap s'.heap)(hok:y4 X.prog X.w H' s'.heap)(hg:AllBare s'.gens)
  (hch:∀b∈ch,(b∈X.ex\/X.s₀.heap.objs.size<=b)/\b≠X.env.locals/\(∀x c,X.env.cells.lookup x=some c->c≠b)/\∀p∈X.pn++pins,p.1≠b):Inv X pins σ H' s':=by
 obtain⟨h',g',d',t',o'⟩:=s'
 have e:o'=s.os:=ho
 subst e
 exact I.call (g':=g') (t':=t') (d':=d') u hok hg hch
end
abbrev XK:=RU->RT RY->Hp->Prop
abbrev St:=List (RT V)
abbrev VK:=V->Hp->Prop
abbrev TE:=St->Hp->VK->Prop
abbrev TT:=St->Hp->(Bool->Hp->Prop)->Prop
abbrev TA:=St->Hp->(List V->Hp->Prop)->Prop
structure Ends where
 nx:St->Hp->Prop
 rt:VK
 bk:St->Hp->Prop:=fun _ _=>False
 ct:St->Hp->Prop:=fun _ _=>False
abbrev TS:=Ends->St->Hp->Prop
def EP(X:Cx)(pins:List (RY×Obj))(σ:St)(Q:VK)(u:RU)(s':RX):Prop:=∃v H',Inv X pins σ H' s'/\RelV v u/\Q v H'
def TP(X:Cx)(pins:List (RY×Obj))(σ:St)(Q:Bool->Hp->Prop)(b:Bool)(s':RX):Prop:=∃H',Inv X pins σ H' s'/\Q b H'
def AP(X:Cx)(pins:List (RY×Obj))(σ:St)(Q:List V->Hp->Prop)(us:List RU)(s':RX):Prop:=∃vs H',Inv X pins σ H' s'/\l6 vs us/\Q vs H'
def SP(X:Cx)(pins:List (RY×Obj))(D:Ends)(f:Flow)(s':RX):Prop:=
 match f with
 | .next=>∃ σ' H',Inv X pins σ' H' s'/\D.nx σ' H'
 | .brk=>∃ σ' H',Inv X pins σ' H' s'/\D.bk σ' H'
 | .cont=>∃ σ' H',Inv X pins σ' H' s'/\D.ct σ' H'
 | .ret u=>∃v σ' H',Inv X pins σ' H' s'/\RelV v u/\D.rt v H'
def PE(X:Cx)(e:Sr)(t:TE):Prop:=
 ∀(pins:List (RY×Obj)) (s:RX) (σ:St) (H:Hp) (Q:VK),Inv X pins σ H s->t σ H Q->wpAny (model X.prog X.w) X.A (eval e X.env) (EP X pins σ Q) X.xe s
def PT(X:Cx)(e:Sr)(t:TT):Prop:=
 ∀(pins:List (RY×Obj)) (s:RX) (σ:St) (H:Hp) (Q:Bool->Hp->Prop),Inv X pins σ H s->t σ H Q->wpAny (model X.prog X.w) X.A (isTrue e X.env (eval e X.env)) (TP X pins σ Q) X.xe s
def PW(X:Cx)(e:Sr)(t:TT):Prop:=
 ∀(whole:Sem RU) (pins:List (RY×Obj)) (s:RX) (σ:St) (H:Hp) (Q:Bool->Hp->Prop),Inv X pins σ H s->t σ H Q->wpAny (model X.prog X.w) X.A (isTrue e X.env whole) (TP X pins σ Q) X.xe s
theorem PW.pt{X:Cx}{e:Sr}{t:TT}(h:PW X e t):PT X e t:=h _
def PA(X:Cx)(es:List Sr)(t:TA):Prop:=
 ∀(pos:Pos) (pins:List (RY×Obj)) (s:RX) (σ:St) (H:Hp) (Q:List V->Hp->Prop),Inv X pins σ H s->t σ H Q->wpAny (model X.prog X.w) X.A (spliced (backTo pos (starEach es X.env))) (AP X pins σ Q) X.xe s
def PS(X:Cx)(st:So)(t:TS):Prop:=
 ∀(pins:List (RY×Obj)) (s:RX) (σ:St) (H:Hp) (D:Ends),Inv X pins σ H s->t D σ H->wpAny (model X.prog X.w) X.A (exec st X.env) (SP X pins D) X.xe s
def PSs(X:Cx)(st:List So)(t:TS):Prop:=
 ∀(pins:List (RY×Obj)) (s:RX) (σ:St) (H:Hp) (D:Ends),Inv X pins σ H s->t D σ H->wpAny (model X.prog X.w) X.A (execs st X.env) (SP X pins D) X.xe s
theorem uo{α:Type}{t:Sem α}{Q Q':α->RX->Prop}{M:Model}{A:Sv}{E:RU->RX->Prop}{s:RX}(h:wpAny M A t Q E s)(hQ:∀a s,Q a s->Q' a s):wpAny M A t Q' E s:=Tg h hQ fun _ _ x=>x
end L2
namespace L2
open PySem PySem.Spec PyProof.Rows
section
variable{X:Cx}
theorem bin{a b:Sr}{ta tb:TE}(ha:PE X a ta)(hb:PE X b tb){pins:List (RY×Obj)}{s:RX}{σ:St}{H:Hp}{R:V->V->Hp->Prop}(I:Inv X pins σ H s)(h:ta σ H fun x H1=>tb σ H1 fun y H2=>R x y H2)
  {α:Type} {Q:α->RX->Prop} {f:RU->RU->Sem α}
  (hf:∀v u s2 x y H2,Inv X pins σ H2 s2->RelV x v->RelV y u->R x y H2->wpAny (model X.prog X.w) X.A (f v u) Q X.xe s2) :
  wpAny (model X.prog X.w) X.A (eval a X.env) (fun v s₁=>wpAny (model X.prog X.w) X.A (eval b X.env) (fun u s₂=>wpAny (model X.prog X.w) X.A (f v u) Q X.xe s₂) X.xe s₁) X.xe s:=by
 refine uo (ha pins s σ H _ I h) fun v s1 ⟨x,H1,I1,r1,q1⟩=>?_
 refine uo (hb pins s1 σ H1 _ I1 q1) fun u s2 ⟨y,H2,I2,r2,q2⟩=>?_
 exact hf v u s2 x y H2 I2 r1 r2 q2
def MZ(i:Nat):TE:=fun σ H Q=>∃v,σ[i]?=some (some v)/\Q v H
def tC(v:V):TE:=fun _ H Q=>Q v H
theorem ju{i:Nat}{x:Str}{pos:Pos}(hN:X.N[i]?=some x)(hv:B0 X.env.scope x)(hd:(x==("__debug__" : Str))=false:=by decide)(hcd:(x==("__classdict__" : Str))=false:=by decide):PE X (.Name x pos) (MZ i):=by
 intro pins s σ H Q I h
 obtain⟨v,e,h⟩:=h
 obtain⟨m,hn,hl⟩:=I.loc
 obtain⟨u,r,l⟩:=hl i x v hN e hv
 have fin:EP X pins σ Q u s:=⟨v,H,I,r,h⟩
 rcases l with ⟨hk,hm⟩ | ⟨hk,c,hc,hcell⟩
 ·exact wpAny_Name (wpAny_loadName_local I.ok.kind hk hn hm fin) hd
 ·rcases hk with hk | hk
  ·exact wpAny_Name (wpAny_loadName_cell I.ok.kind hk hc hcell fin) hd
  ·exact wpAny_Name (wpAny_loadName_free I.ok.kind hk hc hcell fin hcd) hd
theorem LL{i j pos}:PE X (.Constant (.int i) j pos) (tC (.int i)):=fun _ _ _ H _ I h=>wpAny_Constant_int ⟨.int i,H,I.tok _,⟨_,rfl⟩,h⟩
theorem NN{b j pos}:PE X (.Constant (.bool b) j pos) (tC (.bl b)):=fun _ _ _ H _ I h=>Constant_bool ⟨.bl b,H,I,rfl,h⟩
theorem MT{j pos}:PE X (.Constant .none j pos) (tC .non):=fun _ _ _ H _ I h=>Constant_none ⟨.non,H,I,rfl,h⟩
theorem H_{x j pos}:PE X (.Constant (.str x) j pos) (tC (.str x)):=fun _ _ _ H _ I h=>Calls.Constant_str ⟨.str x,H,I.tok _,⟨_,rfl⟩,h⟩
def Gl(X:Cx)(x:Str):Prop:=X.env.kindOf x=some .globalImplicit
theorem eK{E:RU->RX->Prop}{pins:List (RY×Obj)}{s:RX}{σ:St}{H:Hp}{x:Str}{u:RU}{pos:Pos}{Q:RU->RX->Prop}(I:Inv X pins σ H s)(hg:Gl X x)(hm:X.mg x=some u)(h:Q u s)
  (hd:(x==("__debug__" : Str))=false:=by decide):wpAny (model X.prog X.w) X.A (eval (.Name x pos) X.env) Q E s:=
 Calls.Name_function_global I.ok.kind hg (Calls.loadGlobal_global (by rw[I.ok.glob];exact I.mod.glob.keeps I.bk) hm h) hd
theorem cJ{E:RU->RX->Prop}{pins:List (RY×Obj)}{s:RX}{σ:St}{H:Hp}{x:Str}{u:RU}{pos:Pos}{Q:RU->RX->Prop}(I:Inv X pins σ H s)(hg:Gl X x)(hm:X.mg x=none)(hv:bootBuiltins x=some u)(h:Q u s)
  (hn:x ≠ "__name__":=by decide) (hd:(x==("__debug__" : Str))=false:=by decide):wpAny (model X.prog X.w) X.A (eval (.Name x pos) X.env) Q E s:=by
 obtain⟨mb,h1,h2⟩:=I.mod.blt
 exact Calls.Name_function_global I.ok.kind hg (Calls.loadGlobal_builtin (by rw[I.ok.glob];exact I.mod.glob.keeps I.bk) hm (by rw[I.ok.blt];exact h1.keeps I.bk) ((h2 x hn).trans hv) h) hd
theorem lQ{x:Str}{v:V}{u:RU}{pos:Pos}(hg:Gl X x)(hm:X.mg x=some u)(r:RelV v u)(hd:(x==("__debug__" : Str))=false:=by decide):PE X (.Name x pos) (tC v):=
 fun _ _ _ H _ I h=>eK I hg hm ⟨v,H,I,r,h⟩ hd
theorem rQ{x:Str}{v:V}{u:RU}{pos:Pos}(hg:Gl X x)(hm:X.mg x=none)(hv:bootBuiltins x=some u)(r:RelV v u)(hn:x ≠ "__name__":=by decide)(hd:(x==("__debug__" : Str))=false:=by decide):PE X (.Name x pos) (tC v):=
 fun _ _ _ H _ I h=>cJ I hg hm hv ⟨v,H,I,r,h⟩ hn hd
variable{a b:Sr}{ta tb:TE}{pos:Pos}
variable{tA tB':TT}{rest:List Sr}
def P3(t u:TT):TT:=fun σ H Q=>t σ H fun c H1=>if c=true then u σ H1 Q else Q false H1
def RL(t u:TT):TT:=fun σ H Q=>t σ H fun c H1=>if c=true then Q true H1 else u σ H1 Q
def QD(t:TT):TT:=fun σ H Q=>t σ H fun c H1=>Q (!c) H1
theorem KQ(ha:PT X a tA):PW X (.BoolOp .And [a] pos) tA:=by
 intro wh pins s σ H Q I h
 refine isTrue_and (uo (ha pins s σ H Q I h) fun c s1 e=>?_)
 cases c with
 | true=>exact isTrue_and_nil e
 | false=>exact e
theorem MD(ha:PT X a tA):PW X (.BoolOp .Or [a] pos) tA:=by
 intro wh pins s σ H Q I h
 refine isTrue_or (uo (ha pins s σ H Q I h) fun c s1 e=>?_)
 cases c with
 | false=>exact isTrue_or_nil e
 | true=>exact e
theorem Nb(ha:PT X a tA)(hb:PW X (.BoolOp .And (b::rest) pos) tB'):PW X (.BoolOp .And (a::b::rest) pos) (P3 tA tB'):=by
 intro wh pins s σ H Q I h
 refine isTrue_and (uo (ha pins s σ H _ I h) fun c s1 ⟨H1,I1,q1⟩=>?_)
 cases c with
 | true=>exact hb wh pins s1 σ H1 Q I1 q1
 | false=>exact⟨H1,I1,q1⟩
theorem OP(ha:PT X a tA)(hb:PW X (.BoolOp .Or (b::rest) pos) tB'):PW X (.BoolOp .Or (a::b::rest) pos) (RL tA tB'):=by
 intro wh pins s σ H Q I h
 refine isTrue_or (uo (ha pins s σ H _ I h) fun c s1 ⟨H1,I1,q1⟩=>?_)
 cases c with
 | true=>exact⟨H1,I1,q1⟩
 | false=>exact hb wh pins s1 σ H1 Q I1 q1
theorem sS(ha:PT X a tA):PT X (.UnaryOp .Not a pos) (QD tA):=by
 intro pins s σ H Q I h
 exact isTrue_not (ha pins s σ H (fun c H1=>Q (!c) H1) I h)
def O6(ta tb:TE):TE:=fun σ H Q=>ta σ H fun x H1=>∃c,x=.bl c/\if c=true then tb σ H1 Q else Q (.bl false) H1
def N_(ta:TE):TE:=fun σ H Q=>ta σ H fun x H1=>∃c,x=.bl c/\Q (.bl (!c)) H1
theorem sX{op}{t:TE}(h:PE X a t):PE X (.BoolOp op [a] pos) t:=fun pins s σ H Q I hw=>BoolOp_one (h pins s σ H Q I hw)
theorem sO(ha:PE X a ta)(hb:PE X (.BoolOp .And (b::rest) pos) tb):PE X (.BoolOp .And (a::b::rest) pos) (O6 ta tb):=by
 intro pins s σ H Q I h
 refine BoolOp_and (uo (ha pins s σ H _ I h) fun v s1 ⟨x,H1,I1,r1,q1⟩=>?_)
 obtain⟨c,rfl,q1⟩:=q1
 cases r1
 refine wpAny_truthy_bool ?_
 cases c with
 | true=>exact hb pins s1 σ H1 Q I1 q1
 | false=>exact⟨.bl false,H1,I1,rfl,q1⟩
theorem tw(ha:PE X a ta):PE X (.UnaryOp .Not a pos) (N_ ta):=by
 intro pins s σ H Q I h
 refine UnaryOp_ (uo (ha pins s σ H _ I h) fun v s1 ⟨x,H1,I1,r1,q1⟩=>?_)
 obtain⟨c,rfl,q1⟩:=q1
 cases r1
 exact not_of (wpAny_truthy_bool ⟨.bl (!c),H1,I1,rfl,q1⟩)
def Rn(t:TT)(ta tb:TE):TE:=fun σ H Q=>t σ H fun c H1=>if c=true then ta σ H1 Q else tb σ H1 Q
theorem q_{c:Sr}(hc:PT X c tA)(ha:PE X a ta)(hb:PE X b tb):PE X (.IfExp c a b pos) (Rn tA ta tb):=by
 intro pins s σ H Q I h
 refine wpAny_IfExp (uo (hc pins s σ H _ I h) fun d s1 ⟨H1,I1,q1⟩=>?_)
 cases d with
 | true=>exact ha pins s1 σ H1 Q I1 q1
 | false=>exact hb pins s1 σ H1 Q I1 q1
end
end L2
namespace L2
open PySem PySem.Spec PyProof.Rows
def wj(K:RW)(H:Hp)(a:RY)(xs:List V):Prop:=
 Rd H a (.lst xs) \/
  ∃(o:Obj) (its:Array RU) (n:Nat),K.lookup a=some o/\o.cls=.type "list" /\ o.dict=none/\o.data=.seq its n/\its.size<=sizeLine/\l6 xs its.toList
def xn(K:RW)(H:Hp)(a:RY)(xs:List V):Prop:=
 Rd H a (.tup xs) \/
  ∃(o:Obj) (its:Array RU) (n:Nat),K.lookup a=some o/\o.cls=.type "tuple" /\ o.dict=none/\o.data=.seq its n/\its.size<=sizeLine/\l6 xs its.toList
def Qo:RU->RT V
 | .none=>some .non
 | .bool b=>some (.bl b)
 | .int i _=>some (.int i)
 | .str x _=>some (.str x)
 | .bytes b _=>some (.byt b)
 | .float b _=>some (.flt b)
 | .ref a=>some (.ref a)
 | .type n=>some (.ty n)
 | _=>none
theorem RelV.abs{x:V}{u:RU}(r:RelV x u):Qo u=some x:=by
 cases x with
 | non=>cases r;rfl
 | bl _=>cases r;rfl
 | int _=>obtain⟨t,rfl⟩:=r;rfl
 | str _=>obtain⟨t,rfl⟩:=r;rfl
 | byt _=>obtain⟨t,rfl⟩:=r;rfl
 | flt _=>obtain⟨t,rfl⟩:=r;rfl
 | ref _=>cases r;rfl
 | ty _=>cases r;rfl
theorem RelV.inj{x y:V}{u:RU}(r:RelV x u)(q:RelV y u):x=y:=Si (r.abs.symm.trans q.abs)
theorem l6.inj:∀{xs ys:List V} {us:List RU},l6 xs us->l6 ys us->xs=ys
 | _,_,_,.nil,.nil=>rfl
 | _,_,_,.cons r t,.cons r' t'=>by rw[r.inj r',l6.inj t t']
section
variable{X:Cx}{pins:List (RY×Obj)}{σ:St}{H:Hp}{s:RX}{a:RY}{xs ys:List V}
theorem wj.of{K:RW}(h:H a=some (.lst xs)):wj K H a xs:=.inl (.inl h)
theorem xn.of{K:RW}(h:H a=some (.tup xs)):xn K H a xs:=.inl (.inl h)
theorem Inv.list(I:Inv X pins σ H s)(h:wj X.K H a xs):∃its:List RU,l6 xs its/\PlainL s.heap a its.toArray/\xs.length<=sizeLine:=by
 rcases h with h | ⟨o,its,n,hk,hc,hd,hs,hz,r⟩
 ·obtain⟨z,its,n,r,e⟩:=h.ok I.hok
  exact⟨its,r,⟨_,n,e,rfl,rfl,rfl⟩,z⟩
 ·refine⟨its.toList,r,⟨o,n,I.kIn a o hk,hc,hd,by simpa using hs⟩,?_⟩
  have e:=r.length
  simp only[SK] at e
  omega
theorem Inv.tuple(I:Inv X pins σ H s)(h:xn X.K H a xs):∃its:List RU,l6 xs its/\IsTup s.heap a its.toArray/\xs.length<=sizeLine:=by
 rcases h with h | ⟨o,its,n,hk,hc,hd,hs,hz,r⟩
 ·obtain⟨z,its,r,p⟩:=h.ok I.hok
  exact⟨its,r,p.is,z⟩
 ·refine⟨its.toList,r,⟨o,I.kIn a o hk,hc,n,by simpa using hs⟩,?_⟩
  have e:=r.length
  simp only[SK] at e
  omega
theorem Inv.list_inj(I:Inv X pins σ H s)(h:wj X.K H a xs)(h':wj X.K H a ys):xs=ys:=by
 obtain⟨its,r,⟨o,n,e,_,_,d⟩,_⟩:=I.list h
 obtain⟨its',r',⟨o',n',e',_,_,d'⟩,_⟩:=I.list h'
 rw[e] at e';cases e'
 rw[d] at d'
 injection d' with d1 _
 have:its=its':=by simpa using congrArg Array.toList d1
 subst this
 exact r.inj r'
theorem Inv.tuple_inj(I:Inv X pins σ H s)(h:xn X.K H a xs)(h':xn X.K H a ys):xs=ys:=by
 obtain⟨its,r,⟨o,e,_,n,d⟩,_⟩:=I.tuple h
 obtain⟨its',r',⟨o',e',_,n',d'⟩,_⟩:=I.tuple h'
 rw[e] at e';cases e'
 rw[d] at d'
 injection d' with d1 _
 have:its=its':=by simpa using congrArg Array.toList d1
 subst this
 exact r.inj r'
end
abbrev Cx.wish(X:Cx)(E:RU->RX->Prop):Cx:={X with xe:=E}
abbrev Cx.nox(X:Cx):Cx:=X.wish fun _ _=>False
theorem Cx.Ok.wish{X:Cx}(ok:X.Ok)(E:RU->RX->Prop):(X.wish E).Ok:=
 ⟨ok.mod,ok.kind,ok.glob,ok.blt,ok.above,ok.inj,ok.has,ok.cab,ok.hd,ok.frames,ok.stk,ok.exf,ok.bs,ok.bsz,ok.noex,ok.exfs,ok.funs,ok.frf⟩
theorem Cx.Ok.unwish{X:Cx}{E:RU->RX->Prop}(ok:(X.wish E).Ok):X.Ok:=
 ⟨ok.mod,ok.kind,ok.glob,ok.blt,ok.above,ok.inj,ok.has,ok.cab,ok.hd,ok.frames,ok.stk,ok.exf,ok.bs,ok.bsz,ok.noex,ok.exfs,ok.funs,ok.frf⟩
section
variable{X:Cx}{pins:List (RY×Obj)}{σ:St}{H:Hp}{s:RX}{E:RU->RX->Prop}
theorem Inv.wish(I:Inv X pins σ H s)(E:RU->RX->Prop):Inv (X.wish E) pins σ H s:=⟨I.ok.wish E,I.os,I.bare,I.base,I.loc,I.cell,I.free,I.freeC,I.pin,I.hok,I.len⟩
theorem Inv.unwish(I:Inv (X.wish E) pins σ H s):Inv X pins σ H s:=⟨I.ok.unwish,I.os,I.bare,I.base,I.loc,I.cell,I.free,I.freeC,I.pin,I.hok,I.len⟩
theorem SP.unwish{D:Ends}{f:Flow}{s':RX}(h:SP (X.wish E) pins D f s'):SP X pins D f s':=by
 cases f with
 | next=>obtain⟨σ',H',I,q⟩:=h;exact⟨σ',H',I.unwish,q⟩
 | brk=>obtain⟨σ',H',I,q⟩:=h;exact⟨σ',H',I.unwish,q⟩
 | cont=>obtain⟨σ',H',I,q⟩:=h;exact⟨σ',H',I.unwish,q⟩
 | ret u=>obtain⟨v,σ',H',I,r,q⟩:=h;exact⟨v,σ',H',I.unwish,r,q⟩
theorem PE.nox{e:Sr}{t:TE}(h:PE X.nox e t):PE X e t:=fun pins s σ H Q I hw =>
 Tg (h pins s σ H Q (I.wish _) hw) (fun _ _ ⟨v,H',I',r,q⟩=>⟨v,H',I'.unwish,r,q⟩) fun _ _ z=>False.elim z
theorem PT.nox{e:Sr}{t:TT}(h:PT X.nox e t):PT X e t:=fun pins s σ H Q I hw =>
 Tg (h pins s σ H Q (I.wish _) hw) (fun _ _ ⟨H',I',q⟩=>⟨H',I'.unwish,q⟩) fun _ _ z=>False.elim z
theorem PSs.nox{st:List So}{t:TS}(h:PSs X.nox st t):PSs X st t:=fun pins s σ H D I hw =>
 Tg (h pins s σ H D (I.wish _) hw) (fun _ _ q=>q.unwish) fun _ _ z=>False.elim z
end
section
variable{X:Cx}{st:So}{rest:List So}{t u:TS}{e:Sr}{te:TE}{pos:Pos}
def OW:TS:=fun D σ H=>D.nx σ H
def QQ(t u:TS):TS:=fun D σ H=>t {D with nx:=u D} σ H
theorem zH:PSs X [] OW:=fun _ _ σ H _ I h=>wpAny_execs_nil ⟨σ,H,I,h⟩
theorem dw(h1:PS X st t)(h2:PSs X rest u):PSs X (st::rest) (QQ t u):=by
 intro pins s σ H D I h
 refine wpAny_execs_cons (uo (h1 pins s σ H {D with nx:=u D} I h) fun f s1 q=>?_)
 cases f with
 | next =>
  obtain⟨σ',H',I',q⟩:=q
  exact h2 pins s1 σ' H' D I' q
 | ret v=>exact q
 | brk=>exact q
 | cont=>exact q
theorem c_(h1:PS X st t):PSs X [st] t:=by
 intro pins s σ H D I h
 refine wpAny_execs_cons (uo (h1 pins s σ H D I h) fun f s1 q=>?_)
 cases f with
 | next=>exact wpAny_execs_nil q
 | ret v=>exact q
 | brk=>exact q
 | cont=>exact q
theorem Inv.quiet{pins:List (RY×Obj)}{σ:St}{H:Hp}{s:RX}(I:Inv X pins σ H s):interactive X.env=false:=by simp[interactive,I.ok.kind]
def O_(te:TE):TS:=fun D σ H=>te σ H fun _ H1=>D.nx σ H1
theorem oZ(he:PE X e te)(hs:swapsWith e none pos.line X.env=pure false:=by rfl):PS X (.Expr e pos) (O_ te):=by
 intro pins s σ H D I h
 exact wpAny_Expr_any (uo (he pins s σ H _ I h) fun v s1 ⟨x,H1,I1,r1,q1⟩=>⟨σ,H1,I1,q1⟩) I.quiet hs
def Qw(te:TE):TS:=fun D σ H=>te σ H D.rt
theorem lL(he:PE X e te):PS X (.Return (some e) pos) (Qw te):=by
 intro pins s σ H D I h
 exact wpAny_Return_some (uo (he pins s σ H _ I h) fun v s1 ⟨x,H1,I1,r1,q1⟩=>⟨x,σ,H1,I1,r1,q1⟩)
def Qc(c:TT)(t u:TS):TS:=fun D σ H=>c σ H fun b H1=>if b=true then t D σ H1 else u D σ H1
theorem jw{c:Sr}{a b:List So}{tc:TT}(hc:PT X c tc)(ha:PSs X a t)(hb:PSs X b u):PS X (.If c a b pos) (Qc tc t u):=by
 intro pins s σ H D I h
 refine wpAny_If (uo (hc pins s σ H _ I h) fun d s1 ⟨H1,I1,q1⟩=>?_)
 cases d with
 | true=>exact ha pins s1 σ H1 D I1 q1
 | false=>exact hb pins s1 σ H1 D I1 q1
end
abbrev TG:=V->St->Hp->(St->Hp->Prop)->Prop
abbrev QT:=List V->St->Hp->(St->Hp->Prop)->Prop
def PG(X:Cx)(target:Sr)(t:TG):Prop:=
 ∀(pins:List (RY×Obj)) (s:RX) (σ:St) (H:Hp) (v:V) (u:RU) (Q:St->Hp->Prop),Inv X pins σ H s->RelV v u->t v σ H Q ->
  wpAny (model X.prog X.w) X.A (assign target X.env u) (fun _ s'=>∃ σ' H',Inv X pins σ' H' s'/\Q σ' H') X.xe s
def PGs(X:Cx)(ts:List Sr)(t:QT):Prop:=
 ∀(pins:List (RY×Obj)) (s:RX) (σ:St) (H:Hp) (vs:List V) (us:List RU) (Q:St->Hp->Prop),Inv X pins σ H s->l6 vs us->t vs σ H Q ->
  wpAny (model X.prog X.w) X.A (assignInOrder ((assignEach ts X.env).map (·.2)) us) (fun _ s'=>∃ σ' H',Inv X pins σ' H' s'/\Q σ' H') X.xe s
section
variable{X:Cx}{pos:Pos}
def Lr(i:Nat):TG:=fun v σ H Q=>Q (σ.set i (some v)) H
theorem so{i:Nat}{x:Str}(hN:X.N.Nodup)(hi:X.N[i]?=some x)(hx:Loc X.env.scope x)(hf:X.fn x=true\/X.env.scope.names.lookup x=some .local:=by first | exact .inl rfl | exact .inr rfl | assumption):PG X (.Name x pos) (Lr i):=by
 intro pins s σ H v u Q I r h
 exact wpAny_assign_Name (zC I hN hi hx r (fun s' I'=>⟨_,H,I',h⟩) hf)
def Pd(te:TE)(g:TG):TS:=fun D σ H=>te σ H fun x H1=>g x σ H1 D.nx
theorem sV{tg e:Sr}{te:TE}{g:TG}(he:PE X e te)(hg:PG X tg g)(hs:swapsWithSole [tg] e pos.line X.env=pure false:=by rfl)(hw:swappedStores [tg] e X.env=pure none:=by rfl)
  (h1:(assignEach [tg] X.env).map (·.2)=[assign tg X.env]:=by rfl):PS X (.Assign [tg] e pos) (Pd te g):=by
 intro pins s σ H D I h
 refine wpAny_Assign_stores (uo (he pins s σ H _ I h) fun v s1 ⟨x,H1,I1,r1,q1⟩=>?_) hs hw
 rw[h1]
 exact uo (hg pins s1 σ H1 x v _ I1 r1 q1) fun _ s2 q=>q
theorem ib{i:Nat}{x:Str}{e:Sr}{te:TE}{pos':Pos}(hN:X.N.Nodup)(hi:X.N[i]?=some x)(hx:Loc X.env.scope x)(he:PE X e te)(hs:swapsWith e (some (.Name x pos')) pos.line X.env=pure false:=by rfl)(hf:X.fn x=true\/X.env.scope.names.lookup x=some .local:=by first | exact .inl rfl | exact .inr rfl | assumption) :
  PS X (.Assign [.Name x pos'] e pos) (Pd te (Lr i)):=by
 intro pins s σ H D I h
 refine wpAny_Assign_Name (uo (he pins s σ H _ I h) fun v s1 ⟨y,H1,I1,r1,q1⟩=>?_) hs
 exact zC I1 hN hi hx r1 (fun s2 I2=>⟨_,H1,I2,q1⟩) hf
end
section
variable{X:Cx}{pos:Pos}
def MV(c:TT)(tb:TS):TS:=fun D σ H=>∃W:Nat->St->Hp->Prop,(∃m,W m σ H)/\∀m σ H,W m σ H ->
 c σ H fun b H1=>if b=true then ∃N:St->Hp->Prop,(∀ σ' H',N σ' H'->∃m',m'<m/\W m' σ' H')/\tb {D with nx:=N,ct:=N,bk:=D.nx} σ H1 else D.nx σ H1
theorem qv{c:Sr}{body:List So}{tc:TT}{tb:TS}(hp:PassesOwn (model X.prog X.w) X.A X.env X.xe)(hc:PT X c tc)(hb:PSs X body tb):PS X (.While c body [] pos) (MV tc tb):=by
 intro pins s σ H D I h
 obtain⟨W,⟨m0,w0⟩,turn⟩:=h
 refine wpAny_While (codeAny_whileLoop (fun n s'=>∃ σ' H',Inv X pins σ' H' s'/\W n σ' H') ?_ m0 ⟨σ,H,I,w0⟩)
 rintro n s1 ⟨σ1,H1,I1,w1⟩
 refine wpAny_passesOwn hp (uo (hc pins s1 σ1 H1 _ I1 (turn n σ1 H1 w1)) fun b s2 ⟨H2,I2,q2⟩=>?_)
 cases b with
 | true =>
  obtain⟨N,hN,q2⟩:=q2
  rw[R3 rfl]
  refine wpAny_passesOwn hp (uo (hb pins s2 σ1 H2 _ I2 q2) fun f s3 q3=>?_)
  cases f with
  | next =>
   obtain⟨σ3,H3,I3,n3⟩:=q3
   obtain⟨m',hm,w3⟩:=hN σ3 H3 n3
   exact⟨m',hm,σ3,H3,I3,w3⟩
  | cont =>
   obtain⟨σ3,H3,I3,n3⟩:=q3
   obtain⟨m',hm,w3⟩:=hN σ3 H3 n3
   exact⟨m',hm,σ3,H3,I3,w3⟩
  | brk=>exact q3
  | ret v=>exact q3
 | false =>
  rw[Sa R6]
  exact wpAny_execs_nil ⟨σ1,H2,I2,q2⟩
end
structure It where
 go:Nat->Hp->Prop
 yld:Nat->Hp->V->Hp->Prop
 stop:Nat->Hp->Prop
def zF(X:Cx)(pins:List (RY×Obj))(H:Hp)(b:RY):Prop:=
 H b=none/\b≠X.env.locals/\b∉X.fs/\(b∈X.ex\/X.s₀.heap.objs.size<=b)/\(∀x c,X.env.cells.lookup x=some c->c≠b)/\∀p∈X.pn++pins,p.1≠b
theorem Inv.fpOk{X:Cx}{pins:List (RY×Obj)}{σ:St}{H H':Hp}{s:RX}{b:RY}(I:Inv X pins σ H s)(hb:s.heap.objs.size<=b)(hn:H' b=none):zF X pins H' b:=by
 refine⟨hn,Nat.ne_of_gt (R8 I.lt hb),I.nofs hb,.inr (Sx I.sz hb),fun x c e z=>?_,fun p hp z=>?_⟩
 ·obtain⟨v,q⟩:=I.cell x c e
  exact Sm (R8 q.lt (by rw[z];exact hb)) (SN _)
 ·exact Sm (R8 (R_ (I.pin p hp).1) (by rw[z];exact hb)) (SN _)
structure Turn (P:R9) (w:Sk) (K:RW) (tg:Sr) (J:It) (fp:List RY) (it:RY) (tn:Nat->Sq->Prop):Prop where
 mem:it∈fp
 obj:∀i h,tn i h->∀b∈fp,∃o,h.get? b=some o/\∀v,o.data≠.cell v
 keep:∀i h h',tn i h->(∀b∈fp,∀o,h.get? b=some o->h'.get? b=some o)->tn i h'
 item:∀(X:Cx),X.prog=P->X.w=w->X.K=K->X.calm=true->∀(i:Nat) (pins:List (RY×Obj)) (s:RX) (σ:St) (H:Hp) (E:RU->RX->Prop),Inv X pins σ H s->(∀b∈fp,zF X pins H b)->tn i s.heap->J.go i H ->
  wpAny (model P w) X.A (pyNext (.ref it)) (fun r s1=>∃u,r=some u /\
   wpAny (model P w) X.A (letOwnedTupleGo tg (.ref it) u) (fun _ s2=>∃x H',Inv X pins σ H' s2/\RelV x u/\J.yld i H x H'/\tn (i+1) s2.heap/\∀b∈fp,H' b=none) E s1) E s
 done:∀(X:Cx),X.prog=P->X.w=w->X.K=K->X.calm=true->∀(i:Nat) (pins:List (RY×Obj)) (s:RX) (σ:St) (H:Hp) (E:RU->RX->Prop),Inv X pins σ H s->(∀b∈fp,zF X pins H b)->tn i s.heap->J.stop i H ->
  wpAny (model P w) X.A (pyNext (.ref it)) (fun r s1=>r=none/\Inv X pins σ H s1) E s
 self:∀(A:Sv) (i:Nat) (s:RX) (Q:RU->RX->Prop) (E:RU->RX->Prop),tn i s.heap->Q (.ref it) s->wpAny (model P w) A (pyIter (.ref it)) Q E s
abbrev TI:=St->Hp->(It->Hp->Prop)->Prop
def Q8(X:Cx)(pins:List (RY×Obj))(σ:St)(tg:Sr)(R:It->Hp->Prop)(itv:RU)(s2:RX):Prop:=
 ∃(it:RY) (fp:List RY) (tn:Nat->Sq->Prop) (J:It) (H':Hp),itv=.ref it/\Inv X pins σ H' s2/\Turn X.prog X.w X.K tg J fp it tn/\tn 0 s2.heap/\(∀b∈fp,zF X pins H' b)/\R J H'
def PI(X:Cx)(tg iter:Sr)(wi:TI):Prop:=
 ∀(pins:List (RY×Obj)) (s:RX) (σ:St) (H:Hp) (R:It->Hp->Prop),Inv X pins σ H s->wi σ H R ->
  wpAny (model X.prog X.w) X.A (eval iter X.env) (fun v s1=>wpAny (model X.prog X.w) X.A (pyIter v) (Q8 X pins σ tg R) X.xe s1) X.xe s
theorem FV {M:Model} {A:Sv} {E:RU->RX->Prop} {s:RX} {tg:Sr} {it:RY} {u:RU} {o:Obj} {n:String} {vs:Array RU} {Q:Unit->RX->Prop} (ho:s.heap.get? it=some o) (hc:o.cls=.type n) (hd:o.data=.fields vs)
    (hn:["enumerate","zip","dict_itemiterator","dict_reverseitemiterator","odict_iterator","itertools.zip_longest","itertools.pairwise"].contains n=false) (hQ:Q () s):wpAny M A (letOwnedTupleGo tg (.ref it) u) Q E s:=by
  unfold letOwnedTupleGo
  cases tg<;>first
    | exact R5 hQ
    | (cases u<;>first
        | exact R5 hQ
        | (refine RV (wpAny_load ho ?_)
           rw[hc,hd]
           show wpAny M A (if (["enumerate","zip","dict_itemiterator","dict_reverseitemiterator","odict_iterator","itertools.zip_longest","itertools.pairwise"].contains n&&vs[0]?==some (rawInt _))=true then _ else _) Q E s
           rw[Sa (by intro h;rw[hn,Bool.false_and] at h;cases h)]
           exact R5 hQ))
noncomputable def PK(K:RW)(a:RY):It:=
 ⟨fun i H=>∃xs x,wj K H a xs/\xs[i]?=some x,fun i H x H'=>H'=H/\∀xs,wj K H a xs->xs[i]?=some x,fun i H=>∃xs,wj K H a xs/\xs.length<=i⟩
def PB(K:RW)(a:RY):It:=
 ⟨fun i H=>∃xs x,xn K H a xs/\xs[i]?=some x,fun i H x H'=>H'=H/\∀xs,xn K H a xs->xs[i]?=some x,fun i H=>∃xs,xn K H a xs/\xs.length<=i⟩
noncomputable def Nz(lo:Int)(n:Nat):It:=⟨fun i _=>i<n,fun i H x H'=>H'=H/\x=.int (lo+i),fun i _=>n<=i⟩
theorem Hc{P:R9}{w:Sk}{K:RW}{tg:Sr}(a it:RY):Turn P w K tg (PK K a) [it] it (fun i h=>h.IsListIter it a i) where
 mem:=by simp
 obj:=fun i h st b hb=>by
  have e:b=it:=by simpa using hb
  subst e
  obtain⟨o,e,c,d⟩:=st
  exact⟨o,e,fun v z=>by rw[d] at z;cases z⟩
 keep:=fun i h h' st k=>st.at fun o e=>k it (by simp) o e
 item:=by
  intro X hP hw hK hc i pins s σ H E I hf st hg
  subst hP hw hK
  obtain⟨xs,x,hq,hx⟩:=hg
  obtain⟨its,rv,p,hz⟩:=I.list hq
  obtain⟨u,hu,ru⟩:=rv.get hx
  obtain⟨f0,f1,f2,f3,f4,f5⟩:=hf it (by simp)
  refine wpAny_pyNext_list_item st p.isList (x:=u) (by simpa using hu) fun h' st' sb=>?_
  have I1:Inv X pins σ H {s with heap:=h' }:=I.turned (t':=s.toks) (fun b o hb e=>(sb.2 b hb).trans e) f0 f1 f3 f4 f5
  obtain⟨o,e,c,d⟩:=id st'
  exact⟨u,rfl,FV (s:={s with heap:=h' }) e c d (by decide) ⟨x,H,I1,ru,⟨rfl,fun ys hy=>by rw[I.list_inj hy hq];exact hx⟩,st',fun b hb=>(hf b hb).1⟩⟩
 done:=by
  intro X hP hw hK hc i pins s σ H E I hf st hg
  subst hP hw hK
  obtain⟨xs,hq,hx⟩:=hg
  obtain⟨its,rv,p,hz⟩:=I.list hq
  obtain⟨f0,f1,f2,f3,f4,f5⟩:=hf it (by simp)
  have hl:=rv.length
  exact wpAny_pyNext_list_end (I.ok.hd hc) st p.isList (by simp;omega) fun h' eb=>⟨rfl,I.turned (t':=s.toks) (fun b o hb e=>eb b o hb e) f0 f1 f3 f4 f5⟩
 self:=fun _ _ _ _ _ st h=>wpAny_pyIter_listiter st h
theorem Fi{P:R9}{w:Sk}{K:RW}{tg:Sr}(a it:RY):Turn P w K tg (PB K a) [it] it (fun i h=>h.IsTupleIter it a i) where
 mem:=by simp
 obj:=fun i h st b hb=>by
  have e:b=it:=by simpa using hb
  subst e
  obtain⟨o,e,c,d⟩:=st
  exact⟨o,e,fun v z=>by rw[d] at z;cases z⟩
 keep:=fun i h h' st k=>st.at fun o e=>k it (by simp) o e
 item:=by
  intro X hP hw hK hc i pins s σ H E I hf st hg
  subst hP hw hK
  obtain⟨xs,x,hq,hx⟩:=hg
  obtain⟨its,rv,p,hz⟩:=I.tuple hq
  obtain⟨u,hu,ru⟩:=rv.get hx
  obtain⟨f0,f1,f2,f3,f4,f5⟩:=hf it (by simp)
  refine wpAny_pyNext_tuple_item st (show s.heap.IsTuple a its.toArray from p) (x:=u) (by simpa using hu) fun h' st' sb=>?_
  have I1:Inv X pins σ H {s with heap:=h' }:=I.turned (t':=s.toks) (fun b o hb e=>(sb.2 b hb).trans e) f0 f1 f3 f4 f5
  obtain⟨o,e,c,d⟩:=id st'
  exact⟨u,rfl,FV (s:={s with heap:=h' }) e c d (by decide) ⟨x,H,I1,ru,⟨rfl,fun ys hy=>by rw[I.tuple_inj hy hq];exact hx⟩,st',fun b hb=>(hf b hb).1⟩⟩
 done:=by
  intro X hP hw hK hc i pins s σ H E I hf st hg
  subst hP hw hK
  obtain⟨xs,hq,hx⟩:=hg
  obtain⟨its,rv,p,hz⟩:=I.tuple hq
  obtain⟨f0,f1,f2,f3,f4,f5⟩:=hf it (by simp)
  have hl:=rv.length
  exact wpAny_pyNext_tuple_end (I.ok.hd hc) st (show s.heap.IsTuple a its.toArray from p) (by simp;omega) fun h' eb=>⟨rfl,I.turned (t':=s.toks) (fun b o hb e=>eb b o hb e) f0 f1 f3 f4 f5⟩
 self:=fun _ _ _ _ _ st h=>wpAny_pyIter_tupleiter st h
theorem Fw{P:R9}{w:Sk}{K:RW}{tg:Sr}(it:RY)(lo:Int)(n:Nat):Turn P w K tg (Nz lo n) [it] it (fun i h=>IsRangeIter h it (lo+(i:Nat)*1) ((n:Int) - (i:Nat)) 1) where
 mem:=by simp
 obj:=fun i h st b hb=>by
  have e:b=it:=by simpa using hb
  subst e
  exact⟨_,st,fun v z=>by
   have z':Data.fields _=Data.cell v:=z
   cases z'⟩
 keep:=fun i h h' st k=>k it (by simp) _ st
 item:=by
  intro X hP hw hK hc i pins s σ H E I hf st hg
  subst hP hw hK
  obtain⟨f0,f1,f2,f3,f4,f5⟩:=hf it (by simp)
  have W:=Walks.range (prog:=X.prog) (w:=X.w) (I.ok.hd hc) it lo 1 n
  refine W.item i s _ _ hg st fun v h' tk hv st' kk=>?_
  obtain⟨t,rfl⟩:=hv
  have I1:Inv X pins σ H {s with heap:=h',toks:=tk}:=I.turned (fun b o hb e=>kk b o (by simpa using hb) e) f0 f1 f3 f4 f5
  refine⟨_,rfl,FV (s:={s with heap:=h',toks:=tk}) (n:="range_iterator") st' rfl rfl (by decide) ⟨.int (lo+i),H,I1,⟨t,?_⟩,⟨rfl,rfl⟩,st',fun b hb=>(hf b hb).1⟩⟩
  rw[Int.mul_one]
 done:=by
  intro X hP hw hK hc i pins s σ H E I hf st hg
  subst hP hw hK
  obtain⟨f0,f1,f2,f3,f4,f5⟩:=hf it (by simp)
  exact wpAny_pyNext_range_end (I.ok.hd hc) st (by have:n<=i:=hg;omega) fun h' eb=>⟨rfl,I.turned (t':=s.toks) (fun b o hb e=>eb b o hb e) f0 f1 f3 f4 f5⟩
 self:=fun _ _ _ _ _ st h=>wpAny_pyIter_rangeiter st h
end L2
namespace L2
open PySem PySem.Spec PyProof.Rows
section
variable{X:Cx}{tg:Sr}
theorem IQ{pins:List (RY×Obj)}{σ:St}{H:Hp}{s:RX}{R:It->Hp->Prop}{E:RU->RX->Prop}{lo hi:Int}{t u v:Tok}{tk:Nat}(I:Inv X pins σ H s)(h1 : -(2 ^ 62)<=lo)(h2:lo<2 ^ 62)(h3 : -(2 ^ 62)<=hi)(h4:hi<2 ^ 62)
  (q:R (Nz lo (hi - lo).toNat) H):wpAny (model X.prog X.w) X.A (pyIter (.ref s.heap.objs.size)) (Q8 X pins σ tg R) E {s with heap:=s.heap.push {cls:=.type "range",data:=.fields #[.int lo t,.int hi u,.int 1 v]},toks:=tk}:=by
 refine wpAny_pyIter_range (IsRange.new ..) (small_one h1 h2 h3 h4) ?_
 have I1:Inv X pins σ H {s with heap:=s.heap.push {cls:=.type "range",data:=.fields #[.int lo t,.int hi u,.int 1 v]},toks:=tk}:=I.kept fun b o e=>R0 _ e
 refine⟨(s.heap.push {cls:=.type "range",data:=.fields #[.int lo t,.int hi u,.int 1 v]}).objs.size,[(s.heap.push {cls:=.type "range",data:=.fields #[.int lo t,.int hi u,.int 1 v]}).objs.size],_,_,H,rfl,
  I1.kept (t':=tk) fun b o e=>R0 _ e,Fw _ lo (hi - lo).toNat,?_,fun b hb=>?_,q⟩
 ·have e1:lo+((0:Nat):Int)*1=lo:=by simp
  have e2:(((hi - lo).toNat:Nat):Int) - ((0:Nat):Int)=Builtin.Range.rangeSize lo hi 1:=by rw[rangeSize_one];split<;>omega
  show IsRangeIter _ _ (lo+((0:Nat):Int)*1) ((((hi - lo).toNat:Nat):Int) - ((0:Nat):Int)) 1
  rw[e1,e2]
  exact Sd _ rfl
 ·have e:b=(s.heap.push {cls:=.type "range",data:=.fields #[.int lo t,.int hi u,.int 1 v]}).objs.size:=by simpa using hb
  subst e
  exact I1.fpOk (Se _) (I1.hok.fresh (Se _))
def OT(ta:TA):TI:=fun σ H R=>ta σ H fun vs H1=>∃j:Int,vs=[.int j] /\ -(2 ^ 62)<=j/\j<2 ^ 62/\R (Nz 0 j.toNat) H1
theorem kt{a:Sr}{ta:TA}{p pos:Pos}(hg:Gl X "range")(hm:X.mg "range" = none)(ha:PA X [a] ta)(hs:starEach [a] X.env=[(false,eval a X.env)]:=by rfl):PI X tg (.Call (.Name "range" p) [a] [] pos) (OT ta):=by
 intro pins s σ H R I h
 refine Call_ (cJ I hg hm boot_range (PyProof.Rows.callWith_type1 (uo (ha pos pins s σ H _ I h) fun us s1 ⟨vs,H1,I1,r1,q1⟩=>?_) hs rfl))
 obtain⟨j,e,q1,q2,q⟩:=q1
 subst e
 cases r1 with
 | cons r rr =>
  cases rr
  obtain⟨t,rfl⟩:=r
  exact call_range_1 (IQ I1 (by omega) (by omega) q1 q2 (by simpa using q))
noncomputable def QM(wi:TI)(g:TG)(tb:TS):TS:=fun D σ H=>wi σ H fun J H1=>∃W:Nat->Nat->St->Hp->Prop,(∃m,W 0 m σ H1)/\∀i m σ H,W i m σ H ->
 (J.stop i H/\D.nx σ H)\/(J.go i H/\∃N:St->Hp->Prop,(∀ σ' H',N σ' H'->∃m',m'<m/\W (i+1) m' σ' H')/\∀x H',J.yld i H x H'->g x σ H' fun σ2 H2=>tb {D with nx:=N,ct:=N,bk:=D.nx} σ2 H2)
def y8(fp:List RY)(h:Sq):List (RY×Obj):=fp.filterMap fun b=>(h.get? b).map fun o=>(b,o)
theorem du{fp:List RY}{h:Sq}{b:RY}{o:Obj}(hb:b∈fp)(e:h.get? b=some o):(b,o)∈y8 fp h:=List.mem_filterMap.mpr ⟨b,hb,by rw[e];rfl⟩
theorem Cf{fp:List RY}{h:Sq}{p:RY×Obj}(hp:p∈y8 fp h):p.1∈fp/\h.get? p.1=some p.2:=by
 obtain⟨b,hb,e⟩:=List.mem_filterMap.mp hp
 cases q:h.get? b with
 | none=>rw[q] at e;cases e
 | some o =>
  rw[q] at e
  have e':(b,o)=p:=Si e
  subst e'
  exact⟨hb,q⟩
theorem Inv.pinned{pins:List (RY×Obj)}{σ:St}{H:Hp}{s:RX}{fp:List RY}(I:Inv X pins σ H s)(hf:∀b∈fp,zF X pins H b)(ho:∀b∈fp,∃o,s.heap.get? b=some o/\∀v,o.data≠.cell v):Inv X (pins++y8 fp s.heap) σ H s:=
 I.pins_of fun p hp=>(Ti.mp hp).elim (fun z=>I.pin p (Ss _ z)) fun z=>by
  obtain⟨hb,e⟩:=Cf z
  obtain⟨f0,f1,f2,_⟩:=hf p.1 hb
  obtain⟨o,e',d⟩:=ho p.1 hb
  rw[e] at e';cases e'
  exact⟨e,f0,f1,f2,d⟩
theorem Inv.unpinned{pins pl:List (RY×Obj)}{σ:St}{H:Hp}{s:RX}(I:Inv X (pins++pl) σ H s):Inv X pins σ H s:=I.pins_of fun p hp=>I.pin p (Ss _ (S2 _ hp))
theorem nQ{iter:Sr}{body:List So}{wi:TI}{g:TG}{tb:TS}{pos:Pos}(hp:PassesOwn (model X.prog X.w) X.A X.env X.xe)(hc:X.calm=true)(hi:PI X tg iter wi)(hg:PG X tg g)(hb:PSs X body tb)
  (hs:∀x,foldedSetIterable iter X.env x=pure x:=by intro _;rfl):PS X (.For tg iter body [] pos) (QM wi g tb):=by
 intro pins s σ H D I h
 refine wpAny_For (uo (hi pins s σ H _ I h) fun v s1 h1=>uo h1 fun itv s2 h2=>?_) hs
 obtain⟨it,fp,tn,J,H2,e,I2,T,st2,f2,W,⟨m0,w0⟩,turn⟩:=h2
 subst e
 have stat:∀{H':Hp},(∀b∈fp,H' b=none)->∀b∈fp,zF X pins H' b:=fun hn b hb=>⟨hn b hb,(f2 b hb).2⟩
 refine codeAny_forLoop_any (fun n s'=>∃i σ' H',Inv X pins σ' H' s'/\tn i s'.heap/\(∀b∈fp,H' b=none)/\W i n σ' H') ?_ m0 ⟨0,σ,H2,I2,st2,fun b hb=>(f2 b hb).1,w0⟩
 rintro n s3 ⟨i,σ3,H3,I3,st3,fr3,w3⟩
 rcases turn i n σ3 H3 w3 with ⟨stop,qn⟩ | ⟨go,N,hN,step⟩
 ·refine wpAny_passesOwn hp (uo (T.done X rfl rfl rfl hc i pins s3 σ3 H3 X.xe I3 (stat fr3) st3 stop) fun r s4 ⟨hr,I4⟩=>?_)
  subst hr
  exact wpAny_execs_nil ⟨σ3,H3,I4,qn⟩
 ·refine wpAny_passesOwn hp (uo (T.item X rfl rfl rfl hc i pins s3 σ3 H3 X.xe I3 (stat fr3) st3 go) fun r s4 ⟨u,hr,h4⟩=>?_)
  subst hr
  refine wpAny_passesOwn hp (uo h4 fun _ s5 ⟨x,H5,I5,r5,y5,st5,fr5⟩=>?_)
  have I5':=I5.pinned (stat fr5) (T.obj _ _ st5)
  refine wpAny_passesOwn hp (uo (hg _ s5 σ3 H5 x u _ I5' r5 (step x H5 y5)) fun _ s6 ⟨σ6,H6,I6,q6⟩=>?_)
  refine wpAny_passesOwn hp (uo (hb _ s6 σ6 H6 _ I6 q6) fun f s7 q7=>?_)
  have again:∀{σ7:St} {H7:Hp},Inv X (pins++y8 fp s5.heap) σ7 H7 s7->N σ7 H7->∃m,m<n/\∃i σ' H',Inv X pins σ' H' s7/\tn i s7.heap/\(∀b∈fp,H' b=none)/\W i m σ' H':=fun {σ7 H7} I7 n7=>by
   obtain⟨m',hm,w7⟩:=hN σ7 H7 n7
   refine⟨m',hm,i+1,σ7,H7,I7.unpinned,T.keep _ _ _ st5 fun b hb o e=>(I7.pin (b,o) (Ss _ (Ss _ (du hb e)))).1,fun b hb=>?_,w7⟩
   obtain⟨o,e,d⟩:=T.obj _ _ st5 b hb
   exact(I7.pin (b,o) (Ss _ (Ss _ (du hb e)))).2.1
  cases f with
  | next=>obtain⟨σ7,H7,I7,n7⟩:=q7;exact again I7 n7
  | cont=>obtain⟨σ7,H7,I7,n7⟩:=q7;exact again I7 n7
  | brk=>obtain⟨σ7,H7,I7,q7⟩:=q7;exact⟨σ7,H7,I7.unpinned,q7⟩
  | ret v=>obtain⟨x7,σ7,H7,I7,r7,q7⟩:=q7;exact⟨x7,σ7,H7,I7.unpinned,r7,q7⟩
end
end L2
namespace L2
open PySem PySem.Spec PyProof.Rows
abbrev R2:=V->V->Hp->VK->Prop
def OpR(X:Cx)(f:RU->RU->Sem RU)(r:R2):Prop:=
 ∀(pins:List (RY×Obj)) (s:RX) (σ:St) (H:Hp) (x y:V) (v u:RU) (Q:VK),Inv X pins σ H s->RelV x v->RelV y u->r x y H Q ->
  wpAny (model X.prog X.w) X.A (f v u) (EP X pins σ Q) X.xe s
def UnR(X:Cx)(f:RU->Sem RU)(r:V->Hp->VK->Prop):Prop:=
 ∀(pins:List (RY×Obj)) (s:RX) (σ:St) (H:Hp) (x:V) (v:RU) (Q:VK),Inv X pins σ H s->RelV x v->r x H Q ->
  wpAny (model X.prog X.w) X.A (f v) (EP X pins σ Q) X.xe s
def CallR(X:Cx)(f:RU)(r:List V->Hp->VK->Prop):Prop:=
 ∀(pins:List (RY×Obj)) (s:RX) (σ:St) (H:Hp) (xs:List V) (us:List RU) (Q:VK),Inv X pins σ H s->l6 xs us->r xs H Q ->
  wpAny (model X.prog X.w) X.A (call f us) (EP X pins σ Q) X.xe s
def Qm(X:Cx)(r:V->Hp->(Bool->Hp->Prop)->Prop):Prop:=
 ∀(pins:List (RY×Obj)) (s:RX) (σ:St) (H:Hp) (x:V) (v:RU) (Q:Bool->Hp->Prop),Inv X pins σ H s->RelV x v->r x H Q ->
  wpAny (model X.prog X.w) X.A (truthy v) (TP X pins σ Q) X.xe s
def PH(r:R2)(ta tb:TE):TE:=fun σ H Q=>ta σ H fun x H1=>tb σ H1 fun y H2=>r x y H2 Q
def RH(r:V->Hp->VK->Prop)(ta:TE):TE:=fun σ H Q=>ta σ H fun x H1=>r x H1 Q
def rI(C:Int->Int->Prop)(g:Int->Int->V):R2:=fun x y H Q=>∃i j,x=.int i/\y=.int j/\C i j/\Q (g i j) H
def JN(g:Int->Int->V):R2:=fun x y H Q=>∃i j,x=.int i/\y=.int j/\Q (g i j) H
def rU(g:Int->V):V->Hp->VK->Prop:=fun x H Q=>∃i,x=.int i/\Q (g i) H
section
variable{X:Cx}{a b c:Sr}{ta tb tc:TE}{pos:Pos}
theorem Mc(ha:PE X a ta)(hb:PE X b tb){pins:List (RY×Obj)}{s:RX}{σ:St}{H:Hp}{R:V->V->Hp->Prop}(I:Inv X pins σ H s)
  (h:ta σ H fun x H1=>tb σ H1 fun y H2=>R x y H2) {Q:RU->RX->Prop} {f:RU->RU->Sem RU}
  (hf:∀v u s2 x y H2,Inv X pins σ H2 s2->RelV x v->RelV y u->R x y H2->wpAny (model X.prog X.w) X.A (f v u) Q X.xe s2) :
  wpAny (model X.prog X.w) X.A (eval a X.env) (fun v s₁=>wpAny (model X.prog X.w) X.A (eval b X.env) (fun u s₂=>wpAny (model X.prog X.w) X.A (f v u) Q X.xe s₂) X.xe s₁) X.xe s:=by
 refine uo (ha pins s σ H _ I h) fun v s1 ⟨x,H1,I1,r1,q1⟩=>?_
 refine uo (hb pins s1 σ H1 _ I1 q1) fun u s2 ⟨y,H2,I2,r2,q2⟩=>?_
 exact hf v u s2 x y H2 I2 r1 r2 q2
theorem tW{op:Operator}{r:R2}(ho:OpR X (binaryOp op) r)(ha:PE X a ta)(hb:PE X b tb):PE X (.BinOp a op b pos) (PH r ta tb):=by
 intro pins s σ H Q I h
 exact wpAny_BinOp (Mc ha hb I h fun v u s2 x y H2 I2 rx ry q=>ho pins s2 σ H2 x y v u Q I2 rx ry q)
theorem tR{op:UnaryOp}{r:V->Hp->VK->Prop}(ho:UnR X (unaryOp op) r)(ha:PE X a ta):PE X (.UnaryOp op a pos) (RH r ta):=by
 intro pins s σ H Q I h
 exact UnaryOp_ (uo (ha pins s σ H _ I h) fun v s1 ⟨x,H1,I1,r1,q1⟩=>ho pins s1 σ H1 x v Q I1 r1 q1)
theorem QN{f:RU->RU->Sem RU}{C:Int->Int->Prop}{g:Int->Int->Int}
  (rule:∀(i j:Int) (t u:Tok) (s:RX) (Q:RU->RX->Prop) (E:RU->RX->Prop),C i j->Q (.int (g i j) s.toks) {s with toks:=s.toks+1}->wpAny (model X.prog X.w) X.A (f (.int i t) (.int j u)) Q E s) :
  OpR X f (rI C fun i j=>.int (g i j)):=by
 intro pins s σ H x y v u Q I rx ry h
 obtain⟨i,j,rfl,rfl,hc,q⟩:=h
 obtain⟨t,rfl⟩:=rx
 obtain⟨t',rfl⟩:=ry
 exact rule i j t t' s _ _ hc ⟨.int (g i j),H,I.tok _,⟨_,rfl⟩,q⟩
theorem OZ{f:RU->RU->Sem RU}{g:Int->Int->Int}
  (rule:∀(i j:Int) (t u:Tok) (s:RX) (Q:RU->RX->Prop) (E:RU->RX->Prop),Q (.int (g i j) s.toks) {s with toks:=s.toks+1}->wpAny (model X.prog X.w) X.A (f (.int i t) (.int j u)) Q E s) :
  OpR X f (JN fun i j=>.int (g i j)):=by
 intro pins s σ H x y v u Q I rx ry h
 obtain⟨i,j,rfl,rfl,q⟩:=h
 obtain⟨t,rfl⟩:=rx
 obtain⟨t',rfl⟩:=ry
 exact rule i j t t' s _ _ ⟨.int (g i j),H,I.tok _,⟨_,rfl⟩,q⟩
theorem Kj{f:RU->RU->Sem RU}{g:Int->Int->Bool}
  (rule:∀(i j:Int) (t u:Tok) (s:RX) (Q:RU->RX->Prop) (E:RU->RX->Prop),Q (.bool (g i j)) s->wpAny (model X.prog X.w) X.A (f (.int i t) (.int j u)) Q E s) :
  OpR X f (JN fun i j=>.bl (g i j)):=by
 intro pins s σ H x y v u Q I rx ry h
 obtain⟨i,j,rfl,rfl,q⟩:=h
 obtain⟨t,rfl⟩:=rx
 obtain⟨t',rfl⟩:=ry
 exact rule i j t t' s _ _ ⟨.bl (g i j),H,I,rfl,q⟩
def PQ(i j:Int):Prop:=0<j/\j<1073741824
def Nd(i j:Int):Prop:=(-(2 ^ 64)<i/\i<2 ^ 64)\/(-(2 ^ 64)<j/\j<2 ^ 64)
theorem Nd.ok{i j:Int}(h:Nd i j):IntMulOk i j:=by
 rcases h with ⟨h1,h2⟩ | ⟨h1,h2⟩
 ·exact .of_left (intBits_le_64 h1 h2)
 ·exact .of_right (intBits_le_64 h1 h2)
theorem M5:OpR X (binaryOp .Add) (JN fun i j=>.int (i+j)):=OZ fun _ _ _ _ _ _ _ q=>add_int q
theorem L4:OpR X (binaryOp .Sub) (JN fun i j=>.int (i - j)):=OZ fun _ _ _ _ _ _ _ q=>sub_int q
theorem Ng:OpR X (binaryOp .Mult) (rI Nd fun i j=>.int (i*j)):=QN fun _ _ _ _ _ _ _ hc q=>mul_int q hc.ok
theorem KS:OpR X (binaryOp .FloorDiv) (rI PQ fun i j=>.int (i / j)):=QN fun i j _ _ _ _ _ hc q=>by
 have h1:(0:Int)<j:=hc.1
 have h2:j<1073741824:=hc.2
 exact floordiv_int (by omega) (by rw[Int.fdiv_eq_ediv_of_nonneg i (by omega)];exact q) (.inl (PyProof.noPylong_small (by omega)))
theorem Nc:OpR X (binaryOp .Mod) (rI (fun _ j=>0<j) fun i j=>.int (i%j)):=QN fun i j _ _ _ _ _ hc q=>by
 have h1:(0:Int)<j:=hc
 exact mod_int' (by omega) (by rw[Int.fmod_eq_emod_of_nonneg i (by omega)];exact q)
theorem RO{f:RU->Sem RU}{g:Int->Int}
  (rule:∀(i:Int) (t:Tok) (s:RX) (Q:RU->RX->Prop) (E:RU->RX->Prop),Q (.int (g i) s.toks) {s with toks:=s.toks+1}->wpAny (model X.prog X.w) X.A (f (.int i t)) Q E s) :
  UnR X f (rU fun i=>.int (g i)):=by
 intro pins s σ H x v Q I rx h
 obtain⟨i,rfl,q⟩:=h
 obtain⟨t,rfl⟩:=rx
 exact rule i t s _ _ ⟨.int (g i),H,I.tok _,⟨_,rfl⟩,q⟩
theorem M6:UnR X (unaryOp .USub) (rU fun i=>.int (-i)):=RO fun _ _ _ _ _ q=>neg_int q
end
noncomputable def IE:V->V->Bool
 | .non,.non=>true | .non,.int _=>true | .int _,.non=>true | .non,.bl _=>true | .bl _,.non=>true | .non,.str _=>true | .str _,.non=>true
 | .int _,.int _=>true | .bl _,.bl _=>true | .str _,.str _=>true | .byt _,.byt _=>true
 | .int _,.str _=>true | .str _,.int _=>true | .bl _,.str _=>true | .str _,.bl _=>true
 | _,_=>false
def Ri:R2:=fun x y H Q=>IE x y=true/\Q (.bl (decide (x=y))) H
def Rp:R2:=fun x y H Q=>IE x y=true/\Q (.bl (!decide (x=y))) H
theorem zX{i j:Int}:decide (V.int i=V.int j)=(i==j):=by
 rw[Bool.eq_iff_iff]
 simp
theorem Bm{i j:Bool}:decide (V.bl i=V.bl j)=(i==j):=by
 rw[Bool.eq_iff_iff]
 simp
theorem zJ{i j:Str}:decide (V.str i=V.str j)=(i==j):=by
 rw[Bool.eq_iff_iff]
 simp
theorem F_{i j:Array UInt8}:decide (V.byt i=V.byt j)=(i.toList==j.toList):=by
 rw[Bool.eq_iff_iff]
 cases i
 cases j
 simp
section
variable{X:Cx}{a b c:Sr}{ta tb tc:TE}{pos:Pos}
theorem s8{pins:List (RY×Obj)}{σ:St}{H:Hp}{s:RX}{Q:VK}{k k':Bool}(I:Inv X pins σ H s)(q:Q (.bl k) H)(e:k=k'):EP X pins σ Q (.bool k') s:=by
 subst e
 exact⟨.bl k,H,I,rfl,q⟩
theorem Lg:OpR X (compareOp .Eq) Ri:=by
 intro pins s σ H x y v u Q I rx ry h
 obtain⟨hs,q⟩:=h
 cases x with
 | non =>
  cases rx
  cases y with
  | non=>cases ry;exact PySem.EqNone.eq_none_none (s8 I q (by simp))
  | bl j=>cases ry;exact PySem.EqNone.eq_none_bool (s8 I q (by simp))
  | int j=>obtain⟨t',rfl⟩:=ry;exact PySem.EqNone.eq_none_int (s8 I q (by simp))
  | str j=>obtain⟨t',rfl⟩:=ry;exact PySem.EqNone.eq_none_str (s8 I q (by simp))
  | _=>exact Sm (show false=true from hs) R6
 | bl i =>
  cases rx
  cases y with
  | non=>cases ry;exact PySem.EqNone.eq_bool_none (s8 I q (by simp))
  | bl j=>cases ry;exact eq_bool (s8 I q Bm)
  | str j=>obtain⟨t',rfl⟩:=ry;exact PySem.EqMixed.eq_bool_str (s8 I q (by simp))
  | _=>exact Sm (show false=true from hs) R6
 | int i =>
  obtain⟨t,rfl⟩:=rx
  cases y with
  | non=>cases ry;exact PySem.EqNone.eq_int_none (s8 I q (by simp))
  | int j=>obtain⟨t',rfl⟩:=ry;exact eq_int (s8 I q zX)
  | str j=>obtain⟨t',rfl⟩:=ry;exact PySem.EqMixed.eq_int_str (s8 I q (by simp))
  | _=>exact Sm (show false=true from hs) R6
 | str i =>
  obtain⟨t,rfl⟩:=rx
  cases y with
  | non=>cases ry;exact PySem.EqNone.eq_str_none (s8 I q (by simp))
  | bl j=>cases ry;exact PySem.EqMixed.eq_str_bool (s8 I q (by simp))
  | int j=>obtain⟨t',rfl⟩:=ry;exact PySem.EqMixed.eq_str_int (s8 I q (by simp))
  | str j=>obtain⟨t',rfl⟩:=ry;exact eq_str (s8 I q zJ)
  | _=>exact Sm (show false=true from hs) R6
 | byt i =>
  obtain⟨t,rfl⟩:=rx
  cases y with
  | byt j=>obtain⟨t',rfl⟩:=ry;exact PySem.W.eq_bytes (s8 I q F_)
  | _=>exact Sm (show false=true from hs) R6
 | _=>cases y<;>exact Sm (show false=true from hs) R6
theorem OK:OpR X (compareOp .NotEq) Rp:=by
 intro pins s σ H x y v u Q I rx ry h
 obtain⟨hs,q⟩:=h
 cases x with
 | non =>
  cases rx
  cases y with
  | non=>cases ry;exact PySem.EqNone.ne_none_none (s8 I q (by simp))
  | bl j=>cases ry;exact PySem.EqNone.ne_none_bool (s8 I q (by simp))
  | int j=>obtain⟨t',rfl⟩:=ry;exact PySem.EqNone.ne_none_int (s8 I q (by simp))
  | str j=>obtain⟨t',rfl⟩:=ry;exact PySem.EqNone.ne_none_str (s8 I q (by simp))
  | _=>exact Sm (show false=true from hs) R6
 | bl i =>
  cases rx
  cases y with
  | non=>cases ry;exact PySem.EqNone.ne_bool_none (s8 I q (by simp))
  | bl j=>cases ry;exact ne_bool (s8 I q (congrArg not Bm))
  | str j=>obtain⟨t',rfl⟩:=ry;exact PySem.EqMixed.ne_bool_str (s8 I q (by simp))
  | _=>exact Sm (show false=true from hs) R6
 | int i =>
  obtain⟨t,rfl⟩:=rx
  cases y with
  | non=>cases ry;exact PySem.EqNone.ne_int_none (s8 I q (by simp))
  | int j=>obtain⟨t',rfl⟩:=ry;exact ne_int (s8 I q (congrArg not zX))
  | str j=>obtain⟨t',rfl⟩:=ry;exact PySem.EqMixed.ne_int_str (s8 I q (by simp))
  | _=>exact Sm (show false=true from hs) R6
 | str i =>
  obtain⟨t,rfl⟩:=rx
  cases y with
  | non=>cases ry;exact PySem.EqNone.ne_str_none (s8 I q (by simp))
  | bl j=>cases ry;exact PySem.EqMixed.ne_str_bool (s8 I q (by simp))
  | int j=>obtain⟨t',rfl⟩:=ry;exact PySem.EqMixed.ne_str_int (s8 I q (by simp))
  | str j=>obtain⟨t',rfl⟩:=ry;exact ne_str (s8 I q (congrArg not zJ))
  | _=>exact Sm (show false=true from hs) R6
 | byt i =>
  obtain⟨t,rfl⟩:=rx
  cases y with
  | byt j=>obtain⟨t',rfl⟩:=ry;exact PySem.W.ne_bytes (s8 I q (congrArg not F_))
  | _=>exact Sm (show false=true from hs) R6
 | _=>cases y<;>exact Sm (show false=true from hs) R6
theorem Pi:OpR X (compareOp .Lt) (JN fun i j=>.bl (decide (i<j))):=Kj fun _ _ _ _ _ _ _ q=>lt_int q
theorem O1:OpR X (compareOp .LtE) (JN fun i j=>.bl (decide (i<=j))):=Kj fun _ _ _ _ _ _ _ q=>le_int q
theorem O7:OpR X (compareOp .Gt) (JN fun i j=>.bl (decide (j<i))):=Kj fun _ _ _ _ _ _ _ q=>gt_int q
theorem OY:OpR X (compareOp .GtE) (JN fun i j=>.bl (decide (j<=i))):=Kj fun _ _ _ _ _ _ _ q=>ge_int q
theorem Mw:OpR X (compareOp .Is) (fun x y H Q=>y=.non/\Q (.bl (decide (x=.non))) H):=by
 intro pins s σ H x y v u Q I rx ry h
 obtain⟨rfl,q⟩:=h
 cases ry
 refine is_none_gen (s8 I q ?_)
 cases x<;>first
  | (cases rx;rfl)
  | (obtain⟨t,rfl⟩:=rx;rfl)
theorem Ku:OpR X (compareOp .IsNot) (fun x y H Q=>y=.non/\Q (.bl (!decide (x=.non))) H):=by
 intro pins s σ H x y v u Q I rx ry h
 obtain⟨rfl,q⟩:=h
 cases ry
 refine isnot_none_gen (s8 I q ?_)
 cases x<;>first
  | (cases rx;rfl)
  | (obtain⟨t,rfl⟩:=rx;rfl)
theorem OpR.or{f:RU->RU->Sem RU}{r r':R2}(h:OpR X f r)(h':OpR X f r'):OpR X f (fun x y H Q=>r x y H Q\/r' x y H Q):=by
 intro pins s σ H x y v u Q I rx ry q
 rcases q with q | q
 ·exact h pins s σ H x y v u Q I rx ry q
 ·exact h' pins s σ H x y v u Q I rx ry q
theorem Dn(b:Sr){op:CmpOp}(h:op≠.In:=by decide)(h2:op≠.NotIn:=by decide):behindInMarks op b=false:=by
 have e1:(op==CmpOp.In)=false:=by cases op<;>first | rfl | exact Sm rfl h
 have e2:(op==CmpOp.NotIn)=false:=by cases op<;>first | rfl | exact Sm rfl h2
 cases b<;>simp[behindInMarks,e1,e2]
theorem si{op:CmpOp}{r:R2}(ho:OpR X (compareOp op) r)(ha:PE X a ta)(hb:PE X b tb)(hm:behindInMarks op b=false):PE X (.Compare a [op] [b] pos) (PH r ta tb):=by
 intro pins s σ H Q I h
 exact wpAny_Compare1 (Mc ha hb I h fun v u s2 x y H2 I2 rx ry q=>ho pins s2 σ H2 x y v u Q I2 rx ry q) hm
def Ol(t:TE):TT:=fun σ H Q=>t σ H fun x H'=>∃k,x=.bl k/\Q k H'
theorem lM{op:CmpOp}{r:R2}(ho:OpR X (compareOp op) r)(ha:PE X a ta)(hb:PE X b tb)(hm:behindInMarks op b=false):PT X (.Compare a [op] [b] pos) (Ol (PH r ta tb)):=by
 intro pins s σ H Q I h
 refine wpAny_isTrue_Compare1 (uo (ha pins s σ H _ I h) fun v s1 ⟨x,H1,I1,r1,q1⟩=>uo (hb pins s1 σ H1 _ I1 q1) fun u s2 ⟨y,H2,I2,r2,q2⟩ =>
  uo (ho pins s2 σ H2 x y v u _ I2 r1 r2 q2) fun c s3 ⟨z,H3,I3,r3,k,e,q3⟩=>?_) hm
 subst e
 cases r3
 exact wpAny_truthy_bool ⟨H3,I3,q3⟩
def Mt(K:RW)(x:V)(H:Hp)(k:Bool):Prop:=
 match x with
 | .non=>k=false
 | .bl b=>k=b
 | .int i=>k=(i != 0)
 | .str y=>y.length<=sizeLine/\k=((y.length:Int) != 0)
 | .byt y=>y.size<=sizeLine/\k=((y.size:Int) != 0)
 | .ref p=>(∃xs,wj K H p xs/\k=!xs.isEmpty)\/(∃xs,xn K H p xs/\k=!xs.isEmpty)\/∃kvs,H p=some (.dK kvs)/\k=!kvs.isEmpty
 | _=>False
theorem EZ{κ:Type}{kvs:List (κ×V)}{vs:List (κ×RU)}(r:KV kvs vs):(!vs.isEmpty)=!kvs.isEmpty:=by
 cases r<;>rfl
theorem BC{xs:List V}{its:List RU}(r:l6 xs its):(!its.toArray.isEmpty)=!xs.isEmpty:=by
 cases r<;>simp
theorem Bx:(sizeLine:Nat)<2 ^ 63:=by rw[sizeLine_eq];decide
theorem LX:Qm X (fun x H Q=>∃k,Mt X.K x H k/\Q k H):=by
 intro pins s σ H x v Q I rx h
 obtain⟨k,e,q⟩:=h
 have hl:=Bx
 have hs:sizeLine=16777216:=sizeLine_eq
 cases x with
 | non =>
  cases rx
  have e':k=false:=e
  subst e'
  exact truthy_none ⟨H,I,q⟩
 | bl b =>
  cases rx
  have e':k=b:=e
  subst e'
  exact wpAny_truthy_bool ⟨H,I,q⟩
 | int i =>
  obtain⟨t,rfl⟩:=rx
  have e':k=(i != 0):=e
  subst e'
  exact PySem.P.truthy_int ⟨H,I,q⟩
 | str y =>
  obtain⟨t,rfl⟩:=rx
  obtain⟨hy,e'⟩:y.length<=sizeLine/\k=((y.length:Int) != 0):=e
  subst e'
  exact PySem.P.truthy_str (by omega) ⟨H,I.tok _,q⟩
 | byt y =>
  obtain⟨t,rfl⟩:=rx
  obtain⟨hy,e'⟩:y.size<=sizeLine/\k=((y.size:Int) != 0):=e
  subst e'
  exact PySem.W.truthy_bytes (by omega) ⟨H,I.tok _,q⟩
 | ref p =>
  cases rx
  have e':(∃xs,wj X.K H p xs/\k=!xs.isEmpty)\/(∃xs,xn X.K H p xs/\k=!xs.isEmpty)\/∃kvs,H p=some (.dK kvs)/\k=!kvs.isEmpty:=e
  rcases e' with ⟨xs,hx,e'⟩ | ⟨xs,hx,e'⟩ | ⟨kvs,hx,e'⟩
  ·subst e'
   obtain⟨its,r,pl,hz⟩:=I.list hx
   have hlen:=r.length
   exact wpAny_truthy_list pl.isList (by simp only[Sb];omega) ⟨H,I.tok _,by rw[BC r];exact q⟩
  ·subst e'
   obtain⟨its,r,pl,hz⟩:=I.tuple hx
   have hlen:=r.length
   exact truthy_tuple pl (by simp only[Sb];omega) ⟨H,I.tok _,by rw[BC r];exact q⟩
  ·subst e'
   obtain⟨hz,hS,vs,r,m⟩:kvs.length<=sizeLine/\(p==sysModules)=false/\∃vs,KV kvs vs/\s.heap.DictOf (AQ X.prog X.w) p vs:=I.hok p _ hx
   have hlen:kvs.length=vs.length:=Paired.length r
   exact wpAny_truthy_dict hS m (by omega) ⟨H,I.tok _,by rw[EZ r];exact q⟩
 | _=>exact(show False from e).elim
theorem qp(ha:PE X a ta)(he:∀whole,isTrue a X.env whole=(do let v <- whole;standAt a.pos;holding [v] (truthy v))) :
  PT X a (fun σ H Q=>ta σ H fun x H'=>∃k,Mt X.K x H' k/\Q k H'):=by
 intro pins s σ H Q I h
 exact isTrue_plain (uo (ha pins s σ H _ I h) fun v s1 ⟨x,H1,I1,r1,q1⟩=>LX pins s1 σ H1 x v Q I1 r1 q1) (he _)
theorem Fj:OpR X (binaryOp .Add) (fun x y H Q=>∃i j,x=.str i/\y=.str j/\i.length+j.length<=sizeLine/\Q (.str (i++j)) H):=by
 intro pins s σ H x y v u Q I rx ry h
 obtain⟨i,j,rfl,rfl,hz,q⟩:=h
 obtain⟨t,rfl⟩:=rx
 obtain⟨t',rfl⟩:=ry
 exact add_str (fun t' tk=>⟨.str (i++j),H,I.tok _,⟨_,rfl⟩,q⟩) hz
theorem vals1{x:V}{us:List RU}(r:l6 [x] us):∃u,us=[u]/\RelV x u:=by
 cases r with
 | cons r1 r2=>cases r2;exact⟨_,rfl,r1⟩
theorem vals2{x y:V}{us:List RU}(r:l6 [x,y] us):∃u w',us=[u,w']/\RelV x u/\RelV y w':=by
 cases r with
 | cons r1 r2 =>
  cases r2 with
  | cons r3 r4=>cases r4;exact⟨_,_,rfl,r1,r3⟩
theorem pM(hc:X.calm=true):CallR X (.builtin "max") (fun xs H Q=>∃i j,xs=[.int i,.int j]/\Q (.int (if j > i then j else i)) H):=by
 intro pins s σ H xs us Q I r h
 obtain⟨i,j,rfl,q⟩:=h
 obtain⟨u,w',rfl,⟨t,rfl⟩,⟨t',rfl⟩⟩:=vals2 r
 refine max_two_ints (I.ok.hd hc) fun h' tk k=>⟨_,H,I.kept k,?_,q⟩
 by_cases hj:j > i
 ·rw[R3 hj,R3 hj];exact⟨_,rfl⟩
 ·rw[Sa hj,Sa hj];exact⟨_,rfl⟩
theorem Hj:CallR X (.type "int") (fun xs H Q=>(∃i,xs=[.int i]/\Q (.int i) H)\/∃k,xs=[.bl k]/\Q (.int (if k then 1 else 0)) H):=by
 intro pins s σ H xs us Q I r h
 rcases h with ⟨i,rfl,q⟩ | ⟨k,rfl,q⟩
 ·obtain⟨u,rfl,t,rfl⟩:=vals1 r
  exact call_int_int ⟨.int i,H,I,⟨_,rfl⟩,q⟩
 ·obtain⟨u,rfl,r1⟩:=vals1 r
  cases r1
  exact call_int_bool ⟨.int (if k then 1 else 0),H,I.tok _,⟨_,rfl⟩,q⟩
theorem Du:CallR X (.type "str") (fun xs H Q=>∃i,xs=[.int i]/\i.natAbs.log2<1920/\Q (.str (toString i)) H):=by
 intro pins s σ H xs us Q I r h
 obtain⟨i,rfl,hz,q⟩:=h
 obtain⟨u,rfl,t,rfl⟩:=vals1 r
 exact PySem.P.str_of_int hz ⟨.str _,H,I.tok _,⟨_,rfl⟩,q⟩
end
end L2
namespace L2
open PySem PySem.Spec PyProof.Rows
structure Fb (h:Sq) (x dx C:RY) (mA:Str->RT RU):Prop where
 obj:h.get? x=some (PySem.W.instObj C dx)
 ns:h.Ns1 dx mA
 ne:dx≠x
theorem Hh{h:Sq}{dx:RY}{mA:Str->RT RU}(n:h.Ns1 dx mA):∃od,h.get? dx=some od/\∀name,PySem.W.lookIn name od=some (mA name):=by
 obtain⟨o,es,ep,ho,hd,hk,_,hm⟩:=n
 refine⟨o,ho,fun name=>?_⟩
 have e:=hm name
 unfold nsFind findBy at e
 rw[<- Array.find?_toList] at e
 unfold PySem.W.lookIn
 rw[hd]
 dsimp only
 split
 ·rename_i y q
  rw[q] at e
  exact congrArg some e
 ·rename_i q
  rw[q] at e
  have a:es.toList.any (·.refKey)=false:=by
   rw[List.any_eq_false]
   intro y hy
   obtain⟨z,t,hkey⟩:=hk y (Array.mem_toList_iff.mp hy)
   simp[DictEntry.refKey,hkey]
  have a':¬ es.toList.any (·.refKey)=true:=by rw[a];exact R6
  rw[Sa a']
  exact congrArg some e
theorem Fb.look{h:Sq}{x dx C:RY}{mA:Str->RT RU}(I:Fb h x dx C mA):∃od,PySem.W.InstAt h x (PySem.W.instObj C dx) C (some od)/\∀name,PySem.W.lookIn name od=some (mA name):=
 let ⟨od,ho,hl⟩:=Hh I.ns
 ⟨od,⟨I.obj,rfl,rfl,ho⟩,hl⟩
section
variable{prog:R9}{w:Sk}{A:Sv}{E:RU->RX->Prop}{s:RX}{K:RW}{x dx C f:RY}{mA:Str->RT RU}{name:Str}{v:RU}
theorem r_{expr:Bool}{Q:RU->RX->Prop}(X:K.In s.heap)(I:Fb s.heap x dx C mA)(hg:PySem.W.plainGet K C name=true)(hh:PySem.W.hasDictIn K C=true)
  (ha:PySem.W.findIn K (.ref C) name=some none) (hv:mA name=some v) (hv':PySem.W.handedIn v=true) (h:Q v {s with toks:=s.toks+1}) :
  wpAny (model prog w) A (getAttr (.ref x) name expr) Q E s:=by
 obtain⟨od,J,hl⟩:=I.look
 exact PySem.W.get_value X J (PySem.W.plainGet_of hg).1 (PySem.W.findObj_own hh ha rfl (by rw[hl,hv])) hv' h
theorem qL{pl:Sem Bool}{Q:RU×List RU->RX->Prop}(X:K.In s.heap)(I:Fb s.heap x dx C mA)(hg:PySem.W.plainGet K C name=true)
  (hf:PySem.W.findIn K (.ref C) name=some (some (.ref f))) (ht:PySem.W.isFn K (.ref f)=true) (hv:mA name=none) (h:Q (.ref f,[.ref x]) s) :
  wpAny (model prog w) A (getMethod (.ref x) name pl) Q E s:=by
 obtain⟨od,J,hl⟩:=I.look
 exact PySem.W.method_fn X J (PySem.W.plainGet_of hg).1 (PySem.W.plainGet_of hg).2 hf (Th.mp ht) (by show(PySem.W.lookIn name od).map (·.isSome)=some false;rw[hl,hv];rfl) h
theorem JA{ns:List Str}{Q:Unit->RX->Prop}(X:K.In s.heap)(I:Fb s.heap x dx C mA)
  (hs:PySem.W.findIn K (.ref C) "__setattr__" = some (some (.builtin "object.__setattr__"))) (hp:PySem.W.plainOver K C=true) (ht:PySem.W.takerIn K C name=some none) (hh:PySem.W.hasDictIn K C=true)
  (hw:PySem.Within mA ns) (hsz:ns.length<=sizeLine)
  (h:∀h',Fb h' x dx C (fun y=>if y=name then some v else mA y)->Heap.SameBut dx s.heap h'->Q () {s with heap:=h',toks:=s.toks+2}) :
  wpAny (model prog w) A (setAttr (.ref x) name v) Q E s:=by
 obtain⟨od,J,hl⟩:=I.look
 refine PySem.W.set_plain X J hs (PySem.W.osa_open (s:={s with toks:=s.toks+1}) (r:=none) X J hp ht fun b=>?_)
 obtain⟨cd,hc,hd'⟩:=PySem.W.any_some hh
 have hx:s.heap.get? x=some ⟨.ref C,some dx,.plain,#[]⟩:=I.obj
 refine RV (R5 (RV (RV (wpAny_loadPart hx (RV (PySem.W.Looks.here (s:={s with toks:=s.toks+1}) (PySem.W.looks_clsIn X hc) ?_))))))
 rw[hd']
 refine R5 (a:=some dx) (RV (R5 (RV ?_)))
 refine wpAny_nsSet1 (s:={s with toks:=s.toks+1}) I.ns fun h' hn2 hs2=>?_
 obtain⟨oD,esD,epD,hoD,hdD,hcD⟩:=hn2.count (PySem.Within.cons name v hw)
 refine RV (wpAny_lookBehind hoD (by rw[hdD];exact pastItsLine_dict (Sx hcD (by rw[S5];omega))) ?_)
 exact R5 (h _ ⟨(hs2.2 _ (Ne.symm I.ne)).trans I.obj,hn2,I.ne⟩ hs2)
theorem IZ {R:Result->RX->Prop} {vs:List RU} {kw:List (Str×RU)} (X:K.In s.heap) (hm:PySem.W.makesIn K C=true)
    (hi:PySem.W.findIn K (.ref C) "__init__" = some (some (.ref f))) (hf:PySem.W.typeIn K (.ref f)=some (.type "function"))
    (h:codeAny (model prog w) (A.under (.builtin "type.__call__" ⟨.ref C::vs,kw⟩)) (.call (.ref f) ⟨.ref (s.heap.objs.size+1)::vs,kw⟩) (PySem.W.InitBack (s.heap.objs.size+1) R)
      {s with heap:=(s.heap.push PySem.W.emptyDict).push (PySem.W.instObj C s.heap.objs.size)}) :
    codeAny (model prog w) A (.call (.ref C) ⟨vs,kw⟩) R s:=by
  obtain⟨hh,g,d,t,os⟩:=s
  exact PySem.W.make_core (PySem.W.makes_of X hm) (PySem.W.looks_findIn X hi) (fun self=>PySem.W.bind_fn X self hf) (.inl rfl) h
end
noncomputable def wu(f:Str)(v:V):List (Str×V)->List (Str×V)
 | []=>[(f,v)]
 | (g,x)::r=>if g=f then (g,v)::r else (g,x)::wu f v r
theorem Au(f g:Str)(v:V):∀fs:List (Str×V),(wu f v fs).lookup g=if g=f then some v else fs.lookup g
 | []=>by
  show List.lookup g [(f,v)]=_
  by_cases h:g=f
  ·have hb:(g==f)=true:=Th.mpr h
   simp only[List.lookup,hb,R3 h]
  ·have hb:(g==f)=false:=SD.mpr h
   simp only[List.lookup,hb,Sa h]
 | (k,x)::r=>by
  have ih:=Au f g v r
  rw[show wu f v ((k,x)::r)=(if k=f then (k,v)::r else (k,x)::wu f v r) from rfl]
  by_cases hk:k=f
  ·rw[R3 hk]
   by_cases h:g=k
   ·have hb:(g==k)=true:=Th.mpr h
    simp only[List.lookup,hb,R3 (h.trans hk)]
   ·have hb:(g==k)=false:=SD.mpr h
    simp only[List.lookup,hb,Sa (fun e:g=f=>h (e.trans hk.symm))]
  ·rw[Sa hk]
   by_cases h:g=k
   ·have hb:(g==k)=true:=Th.mpr h
    simp only[List.lookup,hb,Sa (fun e:g=f=>hk (h.symm.trans e))]
   ·have hb:(g==k)=false:=SD.mpr h
    simp only[List.lookup,hb]
    exact ih
theorem z_(f:Str)(v:V):∀fs:List (Str×V),f∈(wu f v fs).map (·.1)/\∀g,g∈fs.map (·.1)->g∈(wu f v fs).map (·.1)
 | []=>⟨by simp[wu],fun g h=>by simp at h⟩
 | (k,x)::r=>by
  obtain⟨i1,i2⟩:=z_ f v r
  rw[show wu f v ((k,x)::r)=(if k=f then (k,v)::r else (k,x)::wu f v r) from rfl]
  by_cases hk:k=f
  ·rw[R3 hk]
   subst hk
   exact⟨by simp,fun g h=>by simpa using h⟩
  ·rw[Sa hk]
   refine⟨?_,fun g h=>?_⟩
   ·rw[S3]
    exact Su _ i1
   ·rw[S3] at h ⊢
    rcases Sf.mp h with e | e
    ·exact Sf.mpr (.inl e)
    ·exact Su _ (i2 g e)
theorem Ax(f:Str)(v:V):∀fs:List (Str×V),(wu f v fs).length<=fs.length+1
 | []=>by simp[wu]
 | (k,x)::r=>by
  have ih:=Ax f v r
  rw[show wu f v ((k,x)::r)=(if k=f then (k,v)::r else (k,x)::wu f v r) from rfl]
  by_cases hk:k=f
  ·rw[R3 hk,S5,S5];omega
  ·rw[Sa hk,S5,S5];omega
theorem yU.some_of{v:V}{o:RT RU}(r:yU (some v) o):∃u,o=some u/\RelV v u:=by
 cases o with
 | none=>exact(show False from r).elim
 | some u=>exact⟨u,rfl,r⟩
theorem yU.none_of{o:RT RU}(r:yU none o):o=none:=by
 cases o with
 | none=>rfl
 | some u=>exact(show False from r).elim
theorem G2{v:V}{u:RU}(r:RelV v u):PySem.W.handedIn u=true:=by
 cases v with
 | non=>cases (show u=Value.none from r);rfl
 | bl b=>cases (show u=Value.bool b from r);rfl
 | int i=>obtain⟨t,e⟩:=(show ∃t,u=Value.int i t from r);cases e;rfl
 | str x=>obtain⟨t,e⟩:=(show ∃t,u=Value.str x t from r);cases e;rfl
 | byt b=>obtain⟨t,e⟩:=(show ∃t,u=Value.bytes b t from r);cases e;rfl
 | flt b=>obtain⟨t,e⟩:=(show ∃t,u=Value.float b t from r);cases e;rfl
 | ref a=>cases (show u=Value.ref a from r);rfl
 | ty n=>cases (show u=Value.type n from r);rfl
section
variable{P:R9}{w:Sk}{H H':Hp}{h h':Sq}{a C dx:RY}{fs fs':List (Str×V)}
theorem De(hok:y4 P w H h)(e:H a=some (.ins C dx fs)):∃mA,Fb h a dx C mA/\(∀f,yU (fs.lookup f) (mA f))/\PySem.Within mA (fs.map (·.1))/\fs.length<=1000/\H dx=some (.own a):=by
 obtain⟨d,z,ne,ob,mA,n,r,q⟩:=(show vn P w H h a (.ins C dx fs) from hok a _ e)
 exact⟨mA,⟨ob,n,ne⟩,r,q,z,d⟩
end
structure yH (K:RW) (C:RY):Prop where
 pg:PySem.W.plainGet K C Str.empty=true
 hd:PySem.W.hasDictIn K C=true
 po:PySem.W.plainOver K C=true
 sa:PySem.W.findIn K (.ref C) "__setattr__" = some (some (.builtin "object.__setattr__"))
theorem yH.get{K:RW}{C:RY}(c:yH K C)(f:Str):PySem.W.plainGet K C f=true:=c.pg
def t8(K:RW)(C:RY)(f:Str):Prop:=PySem.W.findIn K (.ref C) f=some none
theorem t8.taker{K:RW}{C:RY}{f:Str}(n:t8 K C f):PySem.W.takerIn K C f=some none:=by
 unfold PySem.W.takerIn
 rw[show PySem.W.findIn K (.ref C) f=some none from n]
 rfl
structure uZ (K:RW) (C:RY) (f:Str) (v:V) (u:RU):Prop where
 at_:PySem.W.findIn K (.ref C) f=some (some u)
 rel:RelV v u
 get:PySem.W.specialIn K u "__get__" = some none
 cp:PySem.W.copiedNames.contains f=false
structure DX (K:RW) (C:RY) (m:Str) (f:RY):Prop where
 at_:PySem.W.findIn K (.ref C) m=some (some (.ref f))
 fn:PySem.W.isFn K (.ref f)=true
 kp:PySem.W.keepIn K (.ref f)=true
section
variable{X:Cx}{pins:List (RY×Obj)}{σ:St}{H:Hp}{s:RX}{a C dx:RY}{fs:List (Str×V)}{f:Str}{v:V}{A:Sv}{E:RU->RX->Prop}
theorem Fp{b:Bool}{Q:RU->RX->Prop}(I:Inv X pins σ H s)(e:H a=some (.ins C dx fs))(c:yH X.K C)(n:t8 X.K C f)(l:fs.lookup f=some v)
  (h:∀u s',Inv X pins σ H s'->RelV v u->Q u s'):wpAny (model X.prog X.w) A (getAttr (.ref a) f b) Q E s:=by
 obtain⟨mA,O,r,_,_,_⟩:=De I.hok e
 obtain⟨u,hu,ru⟩:=yU.some_of (v:=v) (o:=mA f) (by rw[<- l];exact r f)
 exact r_ I.kIn O (c.get f) c.hd n hu (G2 ru) (h u _ (I.tok _) ru)
theorem zc{m:Str}{g:RY}{pl:Sem Bool}{Q:RU×List RU->RX->Prop}(I:Inv X pins σ H s)(e:H a=some (.ins C dx fs))(c:yH X.K C)(k:DX X.K C m g)(l:fs.lookup m=none)
  (h:Q (.ref g,[.ref a]) s):wpAny (model X.prog X.w) A (getMethod (.ref a) m pl) Q E s:=by
 obtain⟨mA,O,r,_,_,_⟩:=De I.hok e
 have hn:mA m=none:=yU.none_of (by rw[<- l];exact r m)
 exact qL I.kIn O (c.get m) k.at_ k.fn hn h
theorem E9{y:V}{u:RU}{Q:Unit->RX->Prop}(I:Inv X pins σ H s)(e:H a=some (.ins C dx fs))(c:yH X.K C)(n:t8 X.K C f)(hl:fs.length<1000)(ry:RelV y u)
  (h:∀s',Inv X pins σ (upd H a (.ins C dx (wu f y fs))) s'->Q () s'):wpAny (model X.prog X.w) A (setAttr (.ref a) f u) Q E s:=by
 obtain⟨mA,O,r,wi,_,ho⟩:=De I.hok e
 have hz:(fs.map (·.1)).length<=sizeLine:=by rw[R7,sizeLine_eq];omega
 refine JA I.kIn O c.sa c.po n.taker c.hd wi hz fun h' O' sb=>h _ ?_
 have hd:∃o,h'.get? dx=some o:=let ⟨o,_,_,e',_⟩:=O'.ns;⟨o,e'⟩
 refine I.write (x:=a) (e:=dx) (by rw[e];exact True.intro) (.inr ho) (fun b q hb z=>(sb.2 b hb).trans z) hd ?_
 refine⟨by rw[aq O.ne];exact ho,?_,O.ne,O'.obj,_,O'.ns,fun g=>?_,fun g hg=>?_⟩
 ·have:=Ax f y fs;omega
 ·show yU ((wu f y fs).lookup g) (if g=f then some u else mA g)
  rw[Au]
  by_cases q:g=f
  ·rw[R3 q,R3 q];exact ry
  ·rw[Sa q,Sa q];exact r g
 ·by_cases q:g=f
  ·rw[q];exact(z_ f y fs).1
  ·refine(z_ f y fs).2 g (wi g fun z=>hg ?_)
   show(if g=f then some u else mA g)=none
   rw[Sa q];exact z
theorem Inv.made(I:Inv X pins σ H s):Inv X pins σ (upd (upd H s.heap.objs.size (.own (s.heap.objs.size+1))) (s.heap.objs.size+1) (.ins C s.heap.objs.size []))
  {s with heap:=(s.heap.push PySem.W.emptyDict).push (PySem.W.instObj C s.heap.objs.size)}:=by
 have e1:(s.heap.push PySem.W.emptyDict).get? s.heap.objs.size=some PySem.W.emptyDict:=Sd s.heap rfl
 have e2:((s.heap.push PySem.W.emptyDict).push (PySem.W.instObj C s.heap.objs.size)).get? (s.heap.objs.size+1)=some (PySem.W.instObj C s.heap.objs.size):=by
  have:=Sd (s.heap.push PySem.W.emptyDict) (o:=PySem.W.instObj C s.heap.objs.size) rfl
  rwa [Heap.size_push] at this
 have e3:(s.heap.push PySem.W.emptyDict).Ns s.heap.objs.size (fun _=>none):=⟨PySem.W.emptyDict,#[],_,e1,rfl,(fun e he=>Sm he (by simp)),fun _=>rfl⟩
 have I1:=I.laid (a:=s.heap.objs.size) (o:=.own (s.heap.objs.size+1)) (h':=s.heap.push PySem.W.emptyDict) (t':=s.toks) (fun b u q=>R0 _ q) (Se _) ⟨_,e1⟩
 refine I1.laid (a:=s.heap.objs.size+1) (o:=.ins C s.heap.objs.size []) (t':=s.toks) (fun b u q=>R0 _ q) (Nat.le_of_eq (Heap.size_push _ _)) ?_
 have ne:s.heap.objs.size≠s.heap.objs.size+1:=Sn (Tj _)
 refine⟨by rw[aq ne,au],SU _,ne,e2,fun _=>none,(Heap.Ns1.of_empty e3).at fun o q=>R0 _ q,fun _=>True.intro,fun y hy=>Sm rfl hy⟩
theorem Kg{prog:R9}{w:Sk}{env:Env}{e:Sr}{f:Str}{pos:Pos}{s:RX}{Q:RU->RX->Prop}(hb:attributeBase e f env (eval e env)=eval e env)
  (h:wpAny (model prog w) A (eval e env) (fun o s₁=>wpAny (model prog w) A (getAttr o f true) Q E s₁) E s):wpAny (model prog w) A (eval (.Attribute e f pos) env) Q E s:=
 Attribute_any_ h (by rw[arm_eval_Attribute,hb])
end
def QH(K:RW)(ta:TE)(f:Str):TE:=fun σ H Q=>ta σ H fun x H1=>∃a C dx fs v,x=.ref a/\H1 a=some (.ins C dx fs)/\yH K C/\t8 K C f/\fs.lookup f=some v/\Q v H1
def P7(K:RW)(ta tv:TE)(f:Str):TS:=fun D σ H=>tv σ H fun y H1=>ta σ H1 fun x H2=>∃a C dx fs,x=.ref a/\H2 a=some (.ins C dx fs)/\yH K C/\t8 K C f/\fs.length<1000 /\
 D.nx σ (upd H2 a (.ins C dx (wu f y fs)))
section
variable{X:Cx}{o e value:Sr}{f:Str}{pos pos' tpos:Pos}{ta tv:TE}
theorem nv(he:PE X e ta)(hb:attributeBase e f X.env (eval e X.env)=eval e X.env):PE X (.Attribute e f pos) (QH X.K ta f):=by
 intro pins s σ H Q I h
 refine Kg hb (uo (he pins s σ H _ I h) fun u s1 ⟨x,H1,I1,rx,a,C,dx,fs,v,ex,ea,c,n,l,q⟩=>?_)
 subst ex
 obtain rfl:u=Value.ref a:=rx
 exact Fp I1 ea c n l fun u' s2 I2 ru=>⟨v,H1,I2,ru,q⟩
theorem p_(ha:PE X o ta)(hv:PE X value tv)(hs:swapsWith value (some (.Attribute o f pos')) pos.line X.env=pure false):PS X (.Assign [.Attribute o f pos'] value pos) (P7 X.K ta tv f):=by
 intro pins s σ H D I h
 refine plainObj_wpAny_Assign_Attribute (uo (hv pins s σ H _ I h) fun u s1 ⟨y,H1,I1,ry,q⟩=>uo (ha pins s1 σ H1 _ I1 q) fun ov s2 ⟨x,H2,I2,rx,a,C,dx,fs,ex,ea,c,n,l,q2⟩=>?_) hs
 subst ex
 obtain rfl:ov=Value.ref a:=rx
 exact E9 I2 ea c n l ry fun s3 I3=>⟨σ,_,I3,q2⟩
theorem Lz {pl:Sem Bool} {m:Str} {apos:Pos} {args:List Sr} {pins:List (RY×Obj)} {s:RX} {σ:St} {H:Hp} {Q:RU->RX->Prop} {te:TE} (he:PE X e te) (I:Inv X pins σ H s)
    (h:te σ H fun x H1=>∃a C dx fs g,x=.ref a/\H1 a=some (.ins C dx fs)/\yH X.K C/\DX X.K C m g/\fs.lookup m=none /\
      ∀s1,Inv X pins σ H1 s1->wpAny (model X.prog X.w) X.A (callWith pos (.ref g) [.ref a] (backTo pos (starEach args X.env)) (backToKw pos (keywordEach [] X.env))) Q X.xe s1)
    (ht:eval (.Call (.Attribute e m apos) args [] pos) X.env=(do
      let ov <- eval e X.env
      standAt apos.atName
      let (f,first) <- holding [ov] (getMethod ov m pl)
      callWith pos f first (backTo pos (starEach args X.env)) (backToKw pos (keywordEach [] X.env)))) :
    wpAny (model X.prog X.w) X.A (eval (.Call (.Attribute e m apos) args [] pos) X.env) Q X.xe s:=by
  refine PySem.W.methodCall_KW (pl:=pl) (uo (he pins s σ H _ I h) fun u s1 ⟨x,H1,I1,rx,a,C,dx,fs,g,ex,ea,c,k,l,q⟩=>?_) ht
  subst ex
  obtain rfl:u=Value.ref a:=rx
  exact zc I1 ea c k l (q s1 I1)
end
section
variable{X:Cx}{pins:List (RY×Obj)}{σ:St}{H:Hp}{s:RX}{A:Sv}{E:RU->RX->Prop}{Q:RU->RX->Prop}{c:RU}{b:Bool}
end
end L2
namespace L2
open PySem PySem.Spec PyProof.Rows
structure ua (k:Nat) (A:Sv):Prop where
 hd:A.handled=none
 dp:A.depth+3*k+5<recursionLimit
 un:A.units+16*k+200<cLine
 gd:A.guards=some []
theorem ua.mono{j k:Nat}{A:Sv}(r:ua k A)(h:j<=k):ua j A:=⟨r.hd,by have:=r.dp;omega,by have:=r.un;omega,r.gd⟩
theorem ua.deeper{k:Nat}{A:Sv}(r:ua (k+1) A)(env:Env):ua k (A.deeper env):=
 ⟨r.hd,by have:=r.dp;show A.depth+1+3*k+5<_;omega,by have:=r.un;show A.units+3+16*k+200<_;omega,r.gd⟩
theorem ua.in1{k:Nat}{A:Sv}(r:ua (k+1) A):ua k A.in1:=
 ⟨r.hd,by have:=r.dp;show A.depth+3*k+5<_;omega,by have:=r.un;show A.units+1+16*k+200<_;omega,r.gd⟩
theorem FA{A:Sv}{C:RY}{us:List RU}{kw:List (Str×RU)}:(A.under (.builtin "type.__call__" ⟨.ref C::us,kw⟩)).depth=A.depth+1:=by
 first | rfl | simp[Around.under,Code.weight,Code.isCreation,Code.isGuard,Code.isCaller,Code.frames,Code.isFrame,guardIds]
theorem EM{A:Sv}{C:RY}{us:List RU}{kw:List (Str×RU)}:(A.under (.builtin "type.__call__" ⟨.ref C::us,kw⟩)).units=A.units+1:=by
 first | rfl | simp[Around.under,Code.cUnits,Code.frames,Code.isFrame]
theorem ua.make{k:Nat}{A:Sv}(r:ua (k+1) A)(C:RY)(us:List RU)(kw:List (Str×RU)):ua k (A.under (.builtin "type.__call__" ⟨.ref C::us,kw⟩)):=
 ⟨r.hd,by have:=r.dp;rw[FA];omega,by have:=r.un;rw[EM];omega,by show pushGuards (Code.guards (.builtin "type.__call__" ⟨.ref C::us,kw⟩)) A.guards=_;rw[r.gd];first | rfl | simp[Code.guards,Code.isGuard,guardIds,pushGuards]⟩
theorem ua.depth{k:Nat}{A:Sv}(r:ua k A):A.depth<recursionLimit:=by have:=r.dp;omega
theorem ua.units{k:Nat}{A:Sv}(r:ua k A):A.units+64<cLine:=by have:=r.un;omega
def OJ:TA:=fun _ H Q=>Q [] H
def OG(ta:TE)(tr:TA):TA:=fun σ H Q=>ta σ H fun x H1=>tr σ H1 fun xs H2=>Q (x::xs) H2
section
variable{X:Cx}{e:Sr}{es:List Sr}{te:TE}{t:TA}{pos:Pos}
theorem AU:PA X [] OJ:=fun _ _ _ _ H Q I h=>Calls.spliced_nil ⟨[],H,I,.nil,h⟩
theorem eD(ha:PE X e te)(hr:PA X es t)(hs:starEach (e::es) X.env=(false,eval e X.env)::starEach es X.env:=by rfl):PA X (e::es) (OG te t):=by
 intro pos pins s σ H Q I h
 rw[hs]
 show wpAny _ _ (spliced ((false,eval e X.env)::backTo pos (starEach es X.env))) _ _ s
 refine Calls.spliced_cons (uo (ha pins s σ H _ I h) fun u s1 ⟨x,H1,I1,r1,q1⟩=>?_)
 exact uo (hr pos pins s1 σ H1 _ I1 q1) fun us s2 ⟨xs,H2,I2,r2,q2⟩=>⟨x::xs,H2,I2,.cons r1 r2,q2⟩
def PR(t:TA):TE:=fun σ H Q=>t σ H fun xs H1=>xs.length<=sizeLine/\∀p,H1 p=none->Q (.ref p) (upd H1 p (.tup xs))
def P9(t:TA):TE:=fun σ H Q=>t σ H fun xs H1=>xs.length<=sizeLine/\∀p,H1 p=none->Q (.ref p) (upd H1 p (.lst xs))
theorem nN{x1}(h:PA X es t):PE X (.Tuple es x1 pos) (PR t):=by
 intro pins s σ H Q I hq
 refine wpAny_Tuple_spliced (uo (h pos pins s σ H _ I hq) fun us s1 ⟨xs,H1,I1,r,z,q⟩=>⟨by rw[<- r.length];exact z,?_⟩)
 have hf:H1 s1.heap.objs.size=none:=I1.hok.fresh (Se _)
 refine⟨.ref s1.heap.objs.size,upd H1 s1.heap.objs.size (.tup xs),I1.laid (t':=s1.toks) (fun b u e=>R0 _ e) (Se _) ?_,rfl,q _ hf⟩
 exact⟨z,us,r,⟨_,Sd _ rfl,rfl,⟨_,rfl⟩,rfl⟩⟩
theorem nK(h:PA X es t):PE X (.List es pos) (P9 t):=by
 intro pins s σ H Q I hq
 refine wpAny_List_spliced (uo (h pos pins s σ H _ I hq) fun us s1 ⟨xs,H1,I1,r,z,q⟩=>⟨by rw[<- r.length];exact z,?_⟩)
 have hf:H1 s1.heap.objs.size=none:=I1.hok.fresh (Se _)
 refine⟨.ref s1.heap.objs.size,upd H1 s1.heap.objs.size (.lst xs),I1.laid (t':=s1.toks) (fun b u e=>R0 _ e) (Se _) ?_,rfl,q _ hf⟩
 exact⟨z,us,0,r,Sd _ rfl⟩
end
abbrev Sp:=List V->Hp->VK->XK->Prop
abbrev DU:=List Env->Hp->RX->XK->RU->RX->Prop
structure Ae (P:R9) (w:Sk) (K:RW) (mg:Str->RT RU) (base:Sq) (A:Sv) (outer:List Env) (s:RX) (H:Hp):Prop where
 frames:A.frames=some outer
 mod:Mod K mg base
 bs:∀b o,base.get? b=some o->s.heap.get? b=some o/\H b=none
 bsz:base.objs.size<=s.heap.objs.size
 funs:s.heap.FunFrames base outer
 frf:∀b∈xu outer,H b=none
 hok:y4 P w H s.heap
 bare:AllBare s.gens
def CE(outer:List Env)(P:R9)(w:Sk)(H:Hp)(s:RX)(Q:VK)(u:RU)(s':RX):Prop:=
 ∃v H',s'.os=s.os/\AllBare s'.gens/\Un (xu outer) [] H H' s.heap s'.heap/\y4 P w H' s'.heap/\RelV v u/\Q v H'
def CR(CX:DU)(outer:List Env)(P:R9)(w:Sk)(H:Hp)(s:RX)(Q:VK)(E:XK)(r:Result)(s':RX):Prop:=
 match r with
 | .ok (.ret u)=>CE outer P w H s Q u s'
 | .ok _=>False
 | .error e=>CX outer H s E e s'
structure k6 (P:R9) (w:Sk) (K:RW) (mg:Str->RT RU) (base:Sq) (CX:DU) (k:Nat) (f:RY) (fd:SV) (ps:List Str) (sp:Sp):Prop where
 len:∀vs H Q E,sp vs H Q E->vs.length=ps.length
 run:∀(A:Sv) (outer:List Env) (s:RX) (H:Hp) (args:Args) (us:List RU) (vs:List V) (Q:VK) (E:XK),ua k A->Ae P w K mg base A outer s H->BindsTo s fd args (ps.zip us)->l6 vs us->sp vs H Q E ->
  codeAny (model P w) A (.call (.ref f) args) (CR CX outer P w H s Q E) s
theorem k6.mono{P:R9}{w:Sk}{K:RW}{mg:Str->RT RU}{base:Sq}{CX:DU}{j k:Nat}{f:RY}{fd:SV}{ps:List Str}{sp:Sp}(F:k6 P w K mg base CX j f fd ps sp)(h:j<=k) :
  k6 P w K mg base CX k f fd ps sp:=⟨F.len,fun A outer s H args us vs Q E hr=>F.run A outer s H args us vs Q E (hr.mono h)⟩
theorem k6.imp{P:R9}{w:Sk}{K:RW}{mg:Str->RT RU}{base:Sq}{CX:DU}{k:Nat}{f:RY}{fd:SV}{ps:List Str}{sp sp':Sp}(F:k6 P w K mg base CX k f fd ps sp)
  (h:∀vs H Q E,sp' vs H Q E->sp vs H Q E):k6 P w K mg base CX k f fd ps sp':=
 ⟨fun vs H Q E q=>F.len vs H Q E (h _ _ _ _ q),fun A outer s H args us vs Q E hr he hb hv hs=>F.run A outer s H args us vs Q E hr he hb hv (h _ _ _ _ hs)⟩
theorem Ae.make{P:R9}{w:Sk}{K:RW}{mg:Str->RT RU}{base:Sq}{A:Sv}{outer:List Env}{s:RX}{H:Hp}(e:Ae P w K mg base A outer s H)(C:RY)(us:List RU)(kw:List (Str×RU)) :
  Ae P w K mg base (A.under (.builtin "type.__call__" ⟨.ref C::us,kw⟩)) outer s H:=⟨by first | exact e.frames | (simpa [Around.under,Code.envs,Code.isFrame,pushEnvs] using e.frames),e.mod,e.bs,e.bsz,e.funs,e.frf,e.hok,e.bare⟩
theorem Ae.in1{P:R9}{w:Sk}{K:RW}{mg:Str->RT RU}{base:Sq}{A:Sv}{outer:List Env}{s:RX}{H:Hp}(e:Ae P w K mg base A outer s H) :
  Ae P w K mg base A.in1 outer s H:=⟨e.frames,e.mod,e.bs,e.bsz,e.funs,e.frf,e.hok,e.bare⟩
section
variable{X:Cx}{pins:List (RY×Obj)}{σ:St}{H:Hp}{s s':RX}
theorem Inv.env0(I:Inv X pins σ H s):Ae X.prog X.w X.K X.mg X.base X.A X.stack s H:=
 ⟨I.ok.frames,I.ok.mod,I.bs,Sx I.ok.bsz I.sz,I.stack,I.stkFree,I.hok,I.bare⟩
theorem Inv.after{Q:VK}{u:RU}(I:Inv X pins σ H s)(h:CE X.stack X.prog X.w H s Q u s'):EP X pins σ Q u s':=by
 obtain⟨v,H',os,bare,un,hok,r,q⟩:=h
 obtain⟨hh,g,d,t,os'⟩:=s'
 obtain rfl:os'=s.os:=os
 exact⟨v,H',I.call (h':=hh) (g':=g) (d':=d) (t':=t) (ch:=[]) un hok bare (fun b z=>Sm z (by simp)),r,q⟩
end
def LF(sp:Sp)(dvs:List V)(E:XK)(t:TA):TE:=fun σ H Q=>t σ H fun vs H1=>sp (vs++dvs) H1 Q E
def IK(C:RY)(m:Str)(sp:Sp)(dvs:List V)(E:XK)(ta:TE)(t:TA):TE:=fun σ H Q=>ta σ H fun x H1=>∃a dx fs,x=.ref a/\H1 a=some (.ins C dx fs)/\fs.lookup m=none /\
 t σ H1 fun vs H2=>sp (x::(vs++dvs)) H2 Q E
def K7(C:RY)(sp:Sp)(dvs:List V)(E:XK)(t:TA):TE:=fun σ H Q=>t σ H fun vs H1=>∀x dx,H1 x=none->H1 dx=none->dx≠x ->
 sp (.ref x::(vs++dvs)) (upd (upd H1 dx (.own x)) x (.ins C dx [])) (fun v H2=>v=.non/\Q (.ref x) H2) E
def Binds(K:RW)(fd:SV)(ps:List Str)(ds:List RU):Prop:=
 ∀(s:RX) (us:List RU),K.In s.heap->(us++ds).length=ps.length->BindsTo s fd ⟨us,[]⟩ (ps.zip (us++ds))
theorem Binds.all{K:RW}{fd:SV}{ps:List Str}(h:∀us:List RU,us.length=ps.length->bindArgs fd ⟨us,[]⟩=pure (ps.zip us)):Binds K fd ps []:=fun s us _ hl=>by
 rw[Sw] at hl ⊢
 exact .of_eq (h us hl)
def yo(CX:DU)(X:Cx)(E:XK):Prop:=∀(pins:List (RY×Obj)) (σ:St) (H:Hp) (s:RX) (e:RU) (s':RX),Inv X pins σ H s->CX X.stack H s E e s'->X.xe e s'
section
variable{X:Cx}{CX:DU}{k:Nat}{f C:RY}{fd:SV}{ps:List Str}{sp:Sp}{dvs:List V}{ds:List RU}{E:XK}{x m:Str}{p pos apos:Pos}{e o:Sr}{es:List Sr}{ta:TE}{t:TA}
theorem Br{pins:List (RY×Obj)}{σ:St}{H:Hp}{s:RX}{Q:VK}{us:List RU}{vs:List V}(F:k6 X.prog X.w X.K X.mg X.base CX k f fd ps sp)(hr:ua k X.A)(hb:Binds X.K fd ps ds)(hd:l6 dvs ds)(hx:yo CX X E)
  (I:Inv X pins σ H s) (r:l6 vs us) (h:sp (vs++dvs) H Q E):wpAny (model X.prog X.w) X.A (call (.ref f) us) (EP X pins σ Q) X.xe s:=by
 have r2:l6 (vs++dvs) (us++ds):=r.append hd
 have hl:(us++ds).length=ps.length:=by rw[<- r2.length];exact F.len _ _ _ _ h
 refine wpAny_call (codeAny_mono (F.run X.A X.stack s H ⟨us,[]⟩ (us++ds) (vs++dvs) Q E hr I.env0 (hb s us I.kIn hl) r2 h) fun r s' hq=>?_)
 cases r with
 | error e=>exact hx pins σ H s e s' I hq
 | ok fl =>
  cases fl with
  | ret u=>exact I.after hq
  | next=>exact False.elim hq
  | brk=>exact False.elim hq
  | cont=>exact False.elim hq
theorem iP(F:k6 X.prog X.w X.K X.mg X.base CX k f fd ps sp)(hr:ua k X.A)(hg:Gl X x)(hm:X.mg x=some (.ref f))(hk:PySem.W.keepIn X.K (.ref f)=true)(hb:Binds X.K fd ps ds)(hd:l6 dvs ds)(hx:yo CX X E)
  (ha:PA X (e::es) t) (hdb:(x==("__debug__" : Str))=false:=by decide) (he:starEach (e::es) X.env=(false,eval e X.env)::starEach es X.env:=by rfl) (hpl:(backTo pos (starEach es X.env)).any (·.1)=false:=by rfl) :
  PE X (.Call (.Name x p) (e::es) [] pos) (LF sp dvs E t):=by
 intro pins s σ H Q I h
 refine S8 (eK I hg hm ?_ hdb)
 refine PySem.W.callWith_K (h₀:=X.base) I.ok.mod.kin hk (uo (ha pos pins s σ H _ I h) fun us s1 ⟨vs,H1,I1,r,q⟩=>⟨I1.kIn,?_⟩) he hpl
 exact Br F hr hb hd hx I1 r q
theorem oG {pl:Sem Bool} (he:PE X o ta) (c:yH X.K C) (hm:DX X.K C m f) (F:k6 X.prog X.w X.K X.mg X.base CX k f fd ps sp) (hr:ua k X.A) (hb:Binds X.K fd ps ds) (hd:l6 dvs ds) (hx:yo CX X E) (ha:PA X (e::es) t)
    (hst:starEach (e::es) X.env=(false,eval e X.env)::starEach es X.env:=by rfl) (hpl:(backTo pos (starEach es X.env)).any (·.1)=false:=by rfl)
    (ht:eval (.Call (.Attribute o m apos) (e::es) [] pos) X.env=(do
      let ov <- eval o X.env
      standAt apos.atName
      let (f,first) <- holding [ov] (getMethod ov m pl)
      callWith pos f first (backTo pos (starEach (e::es) X.env)) (backToKw pos (keywordEach [] X.env))):=by rfl) :
    PE X (.Call (.Attribute o m apos) (e::es) [] pos) (IK C m sp dvs E ta t):=by
  intro pins s σ H Q I h
  refine PySem.W.methodCall_KW (pl:=pl) (uo (he pins s σ H _ I h) fun u s1 ⟨x,H1,I1,rx,a,dx,fs,ex,ea,l,q⟩=>?_) ht
  subst ex
  obtain rfl:u=Value.ref a:=rx
  refine zc I1 ea c hm l ?_
  refine PySem.W.callWith_K (first:=[.ref a]) (h₀:=X.base) I.ok.mod.kin hm.kp (uo (ha pos pins s1 σ H1 _ I1 q) fun us s2 ⟨vs,H2,I2,r,q2⟩=>⟨I2.kIn,?_⟩) hst hpl
  exact Br (us:=.ref a::us) (vs:=.ref a::vs) F hr hb hd hx I2 (.cons rfl r) q2
theorem mt {pl:Sem Bool} (he:PE X o ta) (c:yH X.K C) (hm:DX X.K C m f) (F:k6 X.prog X.w X.K X.mg X.base CX k f fd ps sp) (hr:ua k X.A) (hb:Binds X.K fd ps ds) (hd:l6 dvs ds) (hx:yo CX X E)
    (ht:eval (.Call (.Attribute o m apos) [] [] pos) X.env=(do
      let ov <- eval o X.env
      standAt apos.atName
      let (f,first) <- holding [ov] (getMethod ov m pl)
      callWith pos f first (backTo pos (starEach [] X.env)) (backToKw pos (keywordEach [] X.env))):=by rfl) :
    PE X (.Call (.Attribute o m apos) [] [] pos) (IK C m sp dvs E ta OJ):=by
  intro pins s σ H Q I h
  refine PySem.W.methodCall_KW (pl:=pl) (uo (he pins s σ H _ I h) fun u s1 ⟨x,H1,I1,rx,a,dx,fs,ex,ea,l,q⟩=>?_) ht
  subst ex
  obtain rfl:u=Value.ref a:=rx
  refine zc I1 ea c hm l ?_
  exact PySem.W.callWith_K0 (first:=[.ref a]) I1.kIn hm.kp (Br (us:=[.ref a]) (vs:=[.ref a]) F hr hb hd hx I1 (.cons rfl .nil) q)
structure Mk (K:RW) (C f:RY):Prop where
 makes:PySem.W.makesIn K C=true
 init:PySem.W.findIn K (.ref C) "__init__" = some (some (.ref f))
 fn:PySem.W.isFn K (.ref f)=true
 kp:PySem.W.keepIn K (.ref C)=true
theorem Im{pins:List (RY×Obj)}{σ:St}{H:Hp}{s:RX}{Q:VK}{us:List RU}{vs:List V}(M:Mk X.K C f)(F:k6 X.prog X.w X.K X.mg X.base CX k f fd ps sp)(hr:ua (k+1) X.A)(hb:Binds X.K fd ps ds)(hd:l6 dvs ds)
  (hx:yo CX X E) (I:Inv X pins σ H s) (r:l6 vs us)
  (h:∀x dx,H x=none->H dx=none->dx≠x->sp (.ref x::(vs++dvs)) (upd (upd H dx (.own x)) x (.ins C dx [])) (fun v H2=>v=.non/\Q (.ref x) H2) E) :
  wpAny (model X.prog X.w) X.A (call (.ref C) us) (EP X pins σ Q) X.xe s:=by
 have hq:=h (s.heap.objs.size+1) s.heap.objs.size (I.hok.fresh (Nat.le_succ _)) (I.hok.fresh (Se _)) (Sn (Tj _))
 have I2:=Inv.made (C:=C) I
 have r2:l6 (V.ref (s.heap.objs.size+1)::(vs++dvs)) (Value.ref (s.heap.objs.size+1)::(us++ds)):=.cons rfl (r.append hd)
 have hl:(Value.ref (s.heap.objs.size+1)::us++ds).length=ps.length:=by
  have e:=r2.length
  rw[F.len _ _ _ _ hq] at e
  exact e.symm
 refine wpAny_call (IZ (f:=f) I.kIn M.makes M.init (Th.mp M.fn) (codeAny_mono (F.run _ X.stack _ _ ⟨Value.ref (s.heap.objs.size+1)::us,[]⟩ (Value.ref (s.heap.objs.size+1)::(us++ds)) _ _ E (hr.make C us [])
  (I2.env0.make C us []) (hb _ (Value.ref (s.heap.objs.size+1)::us) I2.kIn hl) r2 hq) fun r s' hq'=>?_))
 cases r with
 | error e=>exact hx pins σ _ _ e s' I2 hq'
 | ok fl =>
  cases fl with
  | ret u =>
   obtain⟨v,H',I3,rv,ev,q3⟩:=I2.after hq'
   subst ev
   exact⟨rv,⟨V.ref (s.heap.objs.size+1),H',I3,rfl,q3⟩⟩
  | next=>exact False.elim hq'
  | brk=>exact False.elim hq'
  | cont=>exact False.elim hq'
theorem oF(M:Mk X.K C f)(F:k6 X.prog X.w X.K X.mg X.base CX k f fd ps sp)(hr:ua (k+1) X.A)(hg:Gl X x)(hm:X.mg x=some (.ref C))(hb:Binds X.K fd ps ds)(hd:l6 dvs ds)(hx:yo CX X E)
  (ha:PA X (e::es) t) (hdb:(x==("__debug__" : Str))=false:=by decide) (he:starEach (e::es) X.env=(false,eval e X.env)::starEach es X.env:=by rfl) (hpl:(backTo pos (starEach es X.env)).any (·.1)=false:=by rfl) :
  PE X (.Call (.Name x p) (e::es) [] pos) (K7 C sp dvs E t):=by
 intro pins s σ H Q I h
 refine S8 (eK I hg hm ?_ hdb)
 refine PySem.W.callWith_K (h₀:=X.base) I.ok.mod.kin M.kp (uo (ha pos pins s σ H _ I h) fun us s1 ⟨vs,H1,I1,r,q⟩=>⟨I1.kIn,?_⟩) he hpl
 exact Im M F hr hb hd hx I1 r q
end
section
variable{X:Cx}{CX:DU}{k:Nat}{f C:RY}{fd:SV}{ps ks:List Str}{sp:Sp}{E:XK}{x m:Str}{p pos apos kpos:Pos}{e o:Sr}{es:List Sr}{kws:List Keyword}{te ta:TE}{t tk:TA}{nm:RT Str}
variable{g:List RU->List RU->List RU}{gV:List V->List V->List V}
end
structure c9 (N P:List Str) (sc:Scope):Prop where
 kind:sc.kind=.function
 co:sc.isCoroutine=false
 gen:sc.isGenerator=false
 nd:N.Nodup
 pre:N.take P.length=P
 par:∀x∈P,sc.names.lookup x=some .local\/sc.names.lookup x=some .cell
 nofree:∀y∈sc.names,y.2≠.free
theorem uM{N P:List Str}{sc:Scope}(h1:N.Nodup:=by decide +kernel)(h2:∀x∈P,sc.names.lookup x=some .local\/sc.names.lookup x=some .cell:=by decide +kernel)(h3:∀y∈sc.names,y.2≠.free:=by decide +kernel)(k:sc.kind=.function:=by rfl)(c:sc.isCoroutine=false:=by rfl)(g:sc.isGenerator=false:=by rfl)(p:N.take P.length=P:=by rfl):c9 N P sc:=⟨k,c,g,h1,p,h2,h3⟩
theorem CQ{kindOf:Str->RT NameKind}{x:Str}:∀{binds:List (Str×RU)} {m:Str->RT RU},(∀v,(x,v)∉binds)->bindL kindOf binds m x=m x
 | [],_,_=>rfl
 | (n,v)::r,m,h=>by
  unfold bindL
  rw[CQ fun w hw=>h w (Su _ hw)]
  split
  ·have:x≠n:=by rintro rfl;exact h v SY
   simp[this]
  ·rfl
theorem CD{kindOf:Str->RT NameKind}{x:Str}:∀{binds:List (Str×RU)} {m:Str->RT RU},(∀v,(x,v)∉binds)->bindC kindOf binds m x=m x
 | [],_,_=>rfl
 | (n,v)::r,m,h=>by
  unfold bindC
  rw[CD fun w hw=>h w (Su _ hw)]
  split
  ·rfl
  ·have:x≠n:=by rintro rfl;exact h v SY
   simp[this]
theorem Ck{kindOf:Str->RT NameKind}{x:Str}{v:RU}:∀{P:List Str} {vs:List RU} {i:Nat} {m:Str->RT RU},P.Nodup->P[i]?=some x->vs[i]?=some v->kindOf x=some .local ->
  bindL kindOf (P.zip vs) m x=some v
 | [],_,_,_,_,h,_,_=>by simp at h
 | _::_,[],_,_,_,_,h,_=>by simp at h
 | p::P,w::vs,0,m,nd,h1,h2,hk=>by
  simp at h1 h2;subst h1;subst h2
  show bindL kindOf ((p,w)::P.zip vs) m p=_
  unfold bindL
  rw[CQ fun v hv=>(List.nodup_cons.mp nd).1 (List.of_mem_zip hv).1,R3 hk]
  simp
 | p::P,w::vs,i+1,m,nd,h1,h2,hk=>by
  show bindL kindOf ((p,w)::P.zip vs) m x=_
  unfold bindL
  exact Ck (i:=i) (List.nodup_cons.mp nd).2 (by simpa using h1) (by simpa using h2) hk
theorem Cm{kindOf:Str->RT NameKind}{x:Str}{v:RU}:∀{P:List Str} {vs:List RU} {i:Nat} {m:Str->RT RU},P.Nodup->P[i]?=some x->vs[i]?=some v->kindOf x≠some .local ->
  bindC kindOf (P.zip vs) m x=some v
 | [],_,_,_,_,h,_,_=>by simp at h
 | _::_,[],_,_,_,_,h,_=>by simp at h
 | p::P,w::vs,0,m,nd,h1,h2,hk=>by
  simp at h1 h2;subst h1;subst h2
  show bindC kindOf ((p,w)::P.zip vs) m p=_
  unfold bindC
  rw[CD fun v hv=>(List.nodup_cons.mp nd).1 (List.of_mem_zip hv).1,Sa hk]
  simp
 | p::P,w::vs,i+1,m,nd,h1,h2,hk=>by
  show bindC kindOf ((p,w)::P.zip vs) m x=_
  unfold bindC
  exact Cm (i:=i) (List.nodup_cons.mp nd).2 (by simpa using h1) (by simpa using h2) hk
def start(N:List Str)(vs:List V):St:=vs.map some++List.replicate (N.length - vs.length) none
noncomputable def yj(CX:DU)(P:R9)(w:Sk)(K:RW)(mg:Str->RT RU)(base:Sq)(N:List Str)(qual:Str)(scope:Scope)(f:RY)(cd:RU)(A:Sv)(outer:List Env)(s:RX)(H:Hp)(E:XK):Cx where
 prog:=P
 w:=w
 K:=K
 mg:=mg
 base:=base
 A:=A.deeper (envOfC qual scope s.heap.objs.size f cd)
 N:=N
 s₀:=s
 H₀:=H
 env:=envOfC qual scope s.heap.objs.size f cd
 outer:=outer
 stack:=envOfC qual scope s.heap.objs.size f cd::outer
 ex:=[]
 calm:=true
 fn:=fun _=>true
 pn:=[]
 xe:=fun e s'=>wpAny (model P w) (A.deeper (envOfC qual scope s.heap.objs.size f cd)) (leaving (envOfC qual scope s.heap.objs.size f cd) e) (fun _ s''=>CX outer H s E e s'') (fun e' s''=>CX outer H s E e' s'') s'
theorem DW{sc:Scope}{n:Nat}{x:Str}(h:sc.names.lookup x=some .cell):∃c,(cellsFrom n sc.names []).lookup x=some c:=by
 have q:=PySem.W.cellsFrom_some sc.names n [] (.inl h)
 exact Option.isSome_iff_exists.mp q
theorem Hl{CX:DU}{P:R9}{w:Sk}{K:RW}{mg:Str->RT RU}{base:Sq}{N ps:List Str}{qual:Str}{scope:Scope}{f:RY}{cd:RU}{A:Sv}{outer:List Env}{s s1:RX}{H:Hp}{E:XK}{us:List RU}{vs:List V}
  (S:c9 N ps scope) (hd:A.handled=none) (e0:Ae P w K mg base A outer s H) (hl:vs.length=ps.length) (r:l6 vs us)
  (x:InCallC s s.heap.objs.size (bindL (envOfC qual scope s.heap.objs.size f cd).kindOf (ps.zip us) fun _=>none) (cellsFrom (s.heap.objs.size+1) scope.names []) (bindC (envOfC qual scope s.heap.objs.size f cd).kindOf (ps.zip us) fun _=>none) s1) :
  Inv (yj CX P w K mg base N qual scope f cd A outer s H E) [] (start N vs) H s1:=by
 have hpl:ps.length<=N.length:=by have:=congrArg List.length S.pre;rw[To] at this;omega
 obtain⟨h1,tk,rfl,hk⟩:=x.done
 have noA:∀b:RY,b∉(yj CX P w K mg base N qual scope f cd A outer s H E).ex:=fun b z=>Sm (show b∈([]:List RY) from z) (by simp)
 refine⟨⟨e0.mod,S.kind,rfl,rfl,Se _,fun y z c h1 h2=>?_,fun y hy=>?_,fun y c _ h=>?_,fun _=>hd,Around.frames_deeper e0.frames,.inr ⟨rfl,rfl⟩,fun b z=>Sm z (noA b),e0.bs,e0.bsz,fun b _ _=>noA b,fun b z=>Sm z (noA b),e0.funs,e0.frf⟩,
  rfl,e0.bare,Un.kept hk,⟨_,x.toInCall.ns,fun i y v h1 h2 h3=>?_⟩,fun y c h=>⟨_,x.cell y c h⟩,e0.hok.fresh (Se _),fun y c h=>?_,fun p hp=>Sm (show p∈([]:List (RY×Obj)) from hp) (by simp),e0.hok.kept hk,?_⟩
 ·exact name_of_addr x.apart (S7 h1) (S7 h2)
 ·have hy:scope.names.lookup y=some .cell\/scope.names.lookup y=some .free:=hy
  rcases hy with hy | hy
  ·exact DW hy
  ·exact Sm rfl (S.nofree _ (S7 hy))
 ·exact Nat.le_of_lt (x.above y c (S7 h))
 ·have hi:i<vs.length:=by
   unfold start at h2
   by_cases hi:i<vs.length
   ·exact hi
   ·rw[Sy (by simpa using hi)] at h2
    rw[List.getElem?_replicate] at h2
    split at h2<;>cases h2
  have ha:vs[i]?=some v:=by
   unfold start at h2
   rw[SZ (by simpa using hi),SX] at h2
   cases e:vs[i]? with
   | none=>rw[e] at h2;cases h2
   | some a=>rw[e] at h2;cases h2;rfl
  obtain⟨u,hu,rv⟩:=r.get ha
  have hp:ps[i]?=some y:=by
   rw[<- S.pre,List.getElem?_take_of_lt (by omega)];exact h1
  have ndP:ps.Nodup:=by rw[<- S.pre];exact S.nd.sublist (List.take_sublist _ _)
  refine⟨u,rv,?_⟩
  rcases S.par y (S_ hp) with k | k
  ·exact .inl ⟨k,Ck ndP hp hu k⟩
  ·obtain⟨c,e⟩:=DW (n:=s.heap.objs.size+1) k
   refine .inr ⟨.inl k,c,e,?_⟩
   have q:=x.cell y c e
   rw[Cm ndP hp hu (by show scope.names.lookup y≠_;rw[k];decide)] at q
   exact q
 ·exact e0.hok.fresh (Nat.le_of_lt (x.above y c (S7 h)))
 ·unfold start
  show _=N.length
  rw[Sl,R7,List.length_replicate]
  omega
theorem rq {CX:DU} {P:R9} {w:Sk} {K:RW} {mg:Str->RT RU} {base:Sq} {k:Nat} {f:RY} {name qual:Str} {params:Arguments} {body:List So} {scope:Scope} {dV kV doc pm cdv ct oc:RU} {an od:RT RY}
    {osl:Array (RT RU)} {N ps:List Str} {sp:Sp} (lk:K.lookup f=some ⟨oc,od,.func (PySem.W.fnOf name qual params body scope dV kV doc pm an cdv ct),osl⟩) (hcd:PySem.W.codeIn K cdv qual=true) (S:c9 N ps scope)
    (len:∀vs H Q E,sp vs H Q E->vs.length=ps.length)
    (hbody:∀(A:Sv) (outer:List Env) (s:RX) (H:Hp) (vs:List V) (Q:VK) (E:XK),ua k (A.deeper (envOfC qual scope s.heap.objs.size f cdv))->sp vs H Q E ->
      ∃t,PSs (yj CX P w K mg base N qual scope f cdv A outer s H E) body t/\t {nx:=fun _ H'=>Q .non H',rt:=Q} (start N vs) H) :
    k6 P w K mg base CX (k+1) f (PySem.W.fnOf name qual params body scope dV kV doc pm an cdv ct) ps sp:=by
  refine⟨len,fun A outer s H args us vs Q E hr e0 hb r hsp=>?_⟩
  have hl:=len _ _ _ _ hsp
  have KX:K.In s.heap:=e0.mod.kin.keeps fun b o e=>(e0.bs b o e).1
  have lim:s.heap.NoLimit:=e0.mod.nolimit.keeps fun b o e=>(e0.bs b o e).1
  have hkind:∀y∈ps.zip us,scope.names.lookup y.1=some .local\/(scope.names.lookup y.1=some .cell/\((cellsFrom (s.heap.objs.size+1) scope.names []).lookup y.1).isSome=true):=fun ⟨n,v⟩ hy=>by
    rcases S.par n (List.of_mem_zip hy).1 with q | q
    · exact .inl q
    · exact .inr ⟨q,PySem.W.cellsFrom_some _ _ _ (.inl q)⟩
  refine codeAny_call_function hr.depth (KX _ _ lk) rfl S.co S.gen rfl (PySem.W.codeRec_of KX hcd) (hb _ _ _ _ ?_)
  refine wpAny_newFunctionEnv_cells S.kind hkind fun env he s1 x=>?_
  subst he
  refine⟨lim.keeps x.toInCall.keep,codeAny_func ?_⟩
  obtain⟨t,ht,hq⟩:=hbody A outer s H vs Q E (hr.deeper _) hsp
  have I:Inv (yj CX P w K mg base N qual scope f cdv A outer s H E) [] (start N vs) H s1:=Hl S hr.hd e0 hl r x
  refine Tg (ht [] s1 (start N vs) H _ I hq) (fun fl s' hs=>?_) fun e s' hs=>hs
  have fin:∀{σ':St} {H':Hp} {v:V} {u:RU},Inv (yj CX P w K mg base N qual scope f cdv A outer s H E) [] σ' H' s'->RelV v u->Q v H'->CE outer P w H s Q u s':=
    fun {σ' H' v u} J rv q=>⟨v,H',J.os,J.bare,J.base,J.hok,rv,q⟩
  cases fl with
  | ret u =>
    obtain⟨v,σ',H',J,rv,q⟩:=hs
    exact fin J rv q
  | next =>
    obtain⟨σ',H',J,q⟩:=hs
    exact fin (v:=V.non) (u:=Value.none) J rfl q
  | brk =>
    obtain⟨_,_,_,q⟩:=hs
    exact False.elim q
  | cont =>
    obtain⟨_,_,_,q⟩:=hs
    exact False.elim q
end L2
namespace L2
open PySem PySem.Spec PyProof.Rows
section
variable{X:Cx}{x:Str}{p pos:Pos}{e:Sr}{es:List Sr}{t:TA}{id T:String}{r:List V->Hp->VK->Prop}
def Q2(r:List V->Hp->VK->Prop)(t:TA):TE:=fun σ H Q=>t σ H fun vs H1=>r vs H1 Q
theorem nh(hc:CallR X (.builtin id) r)(hg:Gl X x)(hm:X.mg x=none)(hv:bootBuiltins x=some (.builtin id))(ha:PA X (e::es) t)(hn:x ≠ "__name__":=by decide)(hdb:(x==("__debug__" : Str))=false:=by decide)
  (he:starEach (e::es) X.env=(false,eval e X.env)::starEach es X.env:=by rfl) (hpl:(backTo pos (starEach es X.env)).any (·.1)=false:=by rfl):PE X (.Call (.Name x p) (e::es) [] pos) (Q2 r t):=by
 intro pins s σ H Q I h
 refine S8 (cJ I hg hm hv ?_ hn hdb)
 exact PyProof.Rows.callWith_builtin1 (uo (ha pos pins s σ H _ I h) fun us s1 ⟨vs,H1,I1,r1,q1⟩=>hc pins s1 σ H1 vs us Q I1 r1 q1) he hpl
theorem pe(hc:CallR X (.type T) r)(hg:Gl X x)(hm:X.mg x=none)(hv:bootBuiltins x=some (.type T))(ha:PA X (e::es) t)(hn:x ≠ "__name__":=by decide)(hdb:(x==("__debug__" : Str))=false:=by decide)
  (he:starEach (e::es) X.env=(false,eval e X.env)::starEach es X.env:=by rfl) (hpl:(backTo pos (starEach es X.env)).any (·.1)=false:=by rfl):PE X (.Call (.Name x p) (e::es) [] pos) (Q2 r t):=by
 intro pins s σ H Q I h
 refine S8 (cJ I hg hm hv ?_ hn hdb)
 exact PyProof.Rows.callWith_type1 (uo (ha pos pins s σ H _ I h) fun us s1 ⟨vs,H1,I1,r1,q1⟩=>hc pins s1 σ H1 vs us Q I1 r1 q1) he hpl
end
end L2
namespace HT
open PySem PyProof.Rows
section
open PySem.SeqAt
open PySem.AutoSeq1 (wpAny_loadPart')
open PySem.MeetsSeq PySem.MeetsSeq2 PySem.MeetsSeq3
end
section
variable{prog:R9}{w:Sk}{A:Sv}{E:RU->RX->Prop}{s:RX}
theorem cat_tup{t b:RY}{vs ws:List RU}{Q:RU->RX->Prop}(ht:IsTup s.heap t vs.toArray)(hb:IsTup s.heap b ws.toArray)(hv:vs ≠ [])
  (h1:ws=[]->Q (.ref t) s) (h2:ws ≠ []->Q (.ref s.heap.objs.size) {s with heap:=s.heap.push {cls:=.type "tuple",data:=.seq (vs++ws).toArray} })
  (hsz:vs.length+ws.length<=sizeLine):wpAny (model prog w) A (binaryOp .Add (.ref t) (.ref b)) Q E s:=by
 obtain⟨⟨cls,dd,data,sl⟩,ho,hc,n,hd⟩:=id ht
 obtain⟨⟨cls2,dd2,data2,sl2⟩,ho2,hc2,n2,hd2⟩:=id hb
 simp only at hc hd hc2 hd2
 subst hc hd hc2 hd2
 have e:vs.toArray++ws.toArray=(vs++ws).toArray:=by simp
 by_cases hw:ws=[]
 ·exact concat_meets ⟨_,ho,rfl⟩ ⟨_,ho2,rfl⟩ noFill_tuple_add seq_tuple_add PySem.F.slot_tuple_add PySem.F.entry_tuple_add (PySem.F.args_tuple_add_2 _ _)
   (tuple_addW1 t b vs.toArray ws.toArray n n2 dd dd2 sl sl2 (by simpa using hv) (by simp[hw])) ⟨ho,ho2,h1 hw⟩
 ·refine concat_meets ⟨_,ho,rfl⟩ ⟨_,ho2,rfl⟩ noFill_tuple_add seq_tuple_add PySem.F.slot_tuple_add PySem.F.entry_tuple_add (PySem.F.args_tuple_add_2 _ _)
   (tuple_addW2 t b vs.toArray ws.toArray n n2 dd dd2 sl sl2 (by simpa using hv) (by simpa using hw) (by rw[Sb,Sb];exact hsz)) ⟨ho,ho2,?_⟩
  rw[e]
  exact h2 hw
noncomputable def sIx(n d:Nat):RT Int->Nat
 | none=>d
 | some v=>if v<0 then (v+(n:Int)).toNat else min v.toNat n
theorem L5(n d:Nat)(hd:d<=n)(o:RT Int):sIx n d o<=n:=by
 cases o with
 | none=>exact hd
 | some v =>
  show(if v<0 then (v+(n:Int)).toNat else min v.toNat n)<=n
  by_cases hv:v<0
  ·rw[R3 hv];omega
  ·rw[Sa hv];exact Nat.min_le_right _ _
theorem FW(v:Int)(n d:Nat):(if v<0 then max (v+(n:Int)) 0 else min v (n:Int))=((sIx n d (some v):Nat):Int):=by
 show(if v<0 then max (v+(n:Int)) 0 else min v (n:Int))=(((if v<0 then (v+(n:Int)).toNat else min v.toNat n):Nat):Int)
 by_cases hv:v<0
 ·simp only[R3 hv];omega
 ·simp only[Sa hv];omega
theorem E7(lo hi:RT Int)(n:Nat):Builtin.Slice.sliceAdjust lo hi 1 (n:Int)=(((sIx n 0 lo:Nat):Int),((sIx n n hi:Nat):Int)):=by
 have h1:¬ ((1:Int)<0):=by omega
 unfold Builtin.Slice.sliceAdjust
 simp only[h1,if_false]
 refine Prod.ext ?_ ?_
 ·cases lo with
  | none=>rfl
  | some v=>exact FW v n 0
 ·cases hi with
  | none=>rfl
  | some v=>exact FW v n n
theorem Fe(i j:Nat):Builtin.Slice.slicePlaces (i:Int) (j:Int) 1=j - i:=by
 unfold Builtin.Slice.slicePlaces
 have h1:(1:Int) > 0:=by omega
 simp only[h1,if_true,Int.ediv_one]
 split<;>omega
theorem Bq{v:RU}{o:RT Int}{Q:RT Int->RX->Prop}(p:IsPart v o)(h:Q o s):wpAny (model prog w) A (Builtin.Slice.slicePartIndex v) Q E s:=by
 cases p with
 | none=>exact slicePart_none h
 | int i t=>exact slicePart_int h
theorem sliceApplied_gen{sl:RY}{vl vu:RU}{lo hi:RT Int}{n:Nat}{Q:Int×Int×Nat->RX->Prop}(hs:s.heap.IsSliceOf sl vl vu .none)(pl:IsPart vl lo)(pu:IsPart vu hi)
  (h:Q (((sIx n 0 lo:Nat):Int),1,sIx n n hi - sIx n 0 lo) s):wpAny (model prog w) A (Builtin.Slice.sliceApplied (.ref sl) (pure (n:Int))) Q E s:=by
 obtain⟨os,hos,hcs,hds⟩:=id hs
 unfold Builtin.Slice.sliceApplied Builtin.Slice.sliceFields
 refine RV (RV (wpAny_field hos hds (x:=vl) rfl (RV (wpAny_field hos hds (x:=vu) rfl (RV (wpAny_field hos hds (x:=.none) rfl (R5 ?_)))))))
 refine RV (slicePart_none ?_)
 show wpAny _ _ (if ((1:Int)==0)=true then _ else _) _ _ s
 rw[Sa (by decide)]
 refine RV (Bq pl (RV (Bq pu (RV (R5 ?_)))))
 show wpAny _ _ (match Builtin.Slice.sliceAdjust lo hi 1 (n:Int) with | (lo,hi)=>pure (lo,(1:Int),Builtin.Slice.slicePlaces lo hi 1)) _ _ s
 rw[E7 lo hi n]
 show wpAny _ _ (pure (((sIx n 0 lo:Nat):Int),(1:Int),Builtin.Slice.slicePlaces ((sIx n 0 lo:Nat):Int) ((sIx n n hi:Nat):Int) 1)) _ _ s
 rw[Fe]
 exact R5 h
theorem HY(xs:Array RU)(i k:Nat):((List.range k).filterMap fun (m:Nat)=>xs[((i:Int)+(m:Int)*1).toNat]?).toArray=((xs.toList.drop i).take k).toArray:=by
 have e:(fun (m:Nat)=>xs[((i:Int)+(m:Int)*1).toNat]?)=fun m=>xs[i+m]?:=by
  funext m
  have:((i:Int)+(m:Int)*1).toNat=i+m:=by omega
  rw[this]
 rw[e]
 have:=pick_run xs i k
 rw[List.filterMap_map] at this
 have e2:((fun x=>xs[x]?) ∘ fun x=>i+x)=fun m=>xs[i+m]?:=rfl
 rw[e2] at this
 rw[this]
theorem getItem_tuple_cut{t sl:RY}{items:Array RU}{vl vu:RU}{lo hi:RT Int}{Q:RU->RX->Prop}(ht:IsTup s.heap t items)(hs:s.heap.IsSliceOf sl vl vu .none)(pl:IsPart vl lo)(pu:IsPart vu hi)
  (hw:¬ (sIx items.size 0 lo=0/\sIx items.size items.size hi=items.size))
  (h:Q (.ref s.heap.objs.size) {s with heap:=s.heap.push {cls:=.type "tuple",data:=.seq ((items.toList.drop (sIx items.size 0 lo)).take (sIx items.size items.size hi - sIx items.size 0 lo)).toArray} })
  (hsz:items.size<=sizeLine):wpAny (model prog w) A (getItem (.ref t) (.ref sl)) Q E s:=by
 have htake:sizeOk (.seq ((items.toList.drop (sIx items.size 0 lo)).take (sIx items.size items.size hi - sIx items.size 0 lo)).toArray):=by
  show((items.toList.drop (sIx items.size 0 lo)).take (sIx items.size items.size hi - sIx items.size 0 lo)).toArray.size<=sizeLine
  rw[Sb,To,Tt,SK]
  omega
 have hj:sIx items.size items.size hi<=items.size:=L5 _ _ (Se _) hi
 obtain⟨os,hos,hcs,hds⟩:=id hs
 have hTs:s.TypeIs (.ref sl) "slice":=⟨os,hos,hcs⟩
 unfold getItem
 try with_reducible refine wpAny_holding ?_
 first | refine RV (R5 ?_) | skip
 refine RV (wpAny_sequenceKey ht.typeIs (by decide) ?_)
 refine RV (wpAny_callSpecial?_slot (name:=Str.ofString "__getitem__") ht.typeIs PyProof.Rows.slot_tuple_getitem
  (wpAny_call_entry PyProof.Rows.slot_tuple_getitem ht.typeIs entry_tuple_getitem ?_ (args_tuple_getitem _ _)))
 show wpAny _ _ (Builtin.Tuple.tupleItemsOf (.ref t) >>= _) _ _ s
 refine RV (tupleItemsOf_ ht ?_)
 refine RV (wpAny_typeOf hTs ?_)
 rw[R3 (by decide)]
 refine RV (sliceApplied_gen hs pl pu ?_)
 have hno:¬ ((((sIx items.size 0 lo:Nat):Int)==0&&(1:Int)==1&&(sIx items.size items.size hi - sIx items.size 0 lo)==items.size)=true):=by
  intro q
  rw[R1,R1] at q
  have q1:((sIx items.size 0 lo:Nat):Int)=0:=Tq q.1.1
  have q2:sIx items.size items.size hi - sIx items.size 0 lo=items.size:=Tq q.2
  exact hw ⟨by omega,by omega⟩
 show wpAny _ _ (if (((sIx items.size 0 lo:Nat):Int)==0&&(1:Int)==1&&(sIx items.size items.size hi - sIx items.size 0 lo)==items.size)=true then _ else _) _ _ s
 rw[Sa hno,HY]
 first
  | exact RV (m:=Builtin.Tuple.tupleExact _) (S6 (R5 ⟨_,rfl,R5 h⟩) htake)
  | exact RV (m:=Builtin.Tuple.tupleExact _) (S6 (RV (R5 (R5 ⟨_,rfl,R5 h⟩))) htake)
  | exact RV (RV (m:=Builtin.Tuple.tupleExact _) (S6 (R5 (R5 ⟨_,rfl,R5 h⟩)) htake))
  | exact RV (RV (m:=Builtin.Tuple.tupleExact _) (S6 (R5 ⟨_,rfl,R5 h⟩) htake))
end
end HT
namespace L2
open PySem PySem.Spec PyProof.Rows
abbrev TO:=St->Hp->(RT Int->Hp->Prop)->Prop
def PO(X:Cx)(e:RT Sr)(t:TO):Prop:=
 ∀(pins:List (RY×Obj)) (s:RX) (σ:St) (H:Hp) (Q:RT Int->Hp->Prop),Inv X pins σ H s->t σ H Q ->
  wpAny (model X.prog X.w) X.A (evalPart e X.env) (fun u s'=>∃o H',Inv X pins σ H' s'/\IsPart u o/\Q o H') X.xe s
def J3:TO:=fun _ H Q=>Q none H
def OH(t:TE):TO:=fun σ H Q=>t σ H fun x H1=>∃i,x=.int i/\Q (some i) H1
section
variable{X:Cx}{e:Sr}{te:TE}{lo hi:RT Sr}{tl th:TO}{pos p2:Pos}
theorem JR:PO X none J3:=by
 intro pins s σ H Q I h
 rw[evalPart_none]
 exact R5 ⟨none,H,I,.none,h⟩
theorem KJ(h:PE X e te):PO X (some e) (OH te):=by
 intro pins s σ H Q I hw
 rw[evalPart_some]
 refine uo (h pins s σ H _ I hw) fun u s1 ⟨x,H1,I1,r1,q1⟩=>?_
 obtain⟨i,rfl,q⟩:=q1
 obtain⟨t,rfl⟩:=r1
 exact⟨some i,H1,I1,.int i t,q⟩
def LE(X:Cx)(r:V->RT Int->RT Int->Hp->VK->Prop):Prop:=
 ∀(pins:List (RY×Obj)) (s:RX) (σ:St) (H:Hp) (x:V) (v vl vu:RU) (lo hi:RT Int) (sl:RY) (Q:VK),Inv X pins σ H s->RelV x v->s.heap.IsSliceOf sl vl vu .none->IsPart vl lo->IsPart vu hi->r x lo hi H Q ->
  ∃T id,typeLookup (.type T) "__getitem__" = pure (some (.builtin id))/\s.TypeIs v T/\wpAny (model X.prog X.w) X.A (getItem v (.ref sl)) (EP X pins σ Q) X.xe s
theorem LE.or{r r':V->RT Int->RT Int->Hp->VK->Prop}(h:LE X r)(h':LE X r'):LE X (fun x lo hi H Q=>r x lo hi H Q\/r' x lo hi H Q):=by
 intro pins s σ H x v vl vu lo hi sl Q I rx hs pl pu q
 rcases q with q | q
 ·exact h pins s σ H x v vl vu lo hi sl Q I rx hs pl pu q
 ·exact h' pins s σ H x v vl vu lo hi sl Q I rx hs pl pu q
def RF(r:V->RT Int->RT Int->Hp->VK->Prop)(te:TE)(tl th:TO):TE:=fun σ H Q=>te σ H fun x H1=>tl σ H1 fun l H2=>th σ H2 fun u H3=>r x l u H3 Q
theorem qy{r:V->RT Int->RT Int->Hp->VK->Prop}(hr:LE X r)(he:PE X e te)(hl:PO X lo tl)(hu:PO X hi th):PE X (.Subscript e (.Slice lo hi none p2) pos) (RF r te tl th):=by
 intro pins s σ H Q I h
 refine Subscript_ (uo (he pins s σ H _ I h) fun v s1 ⟨x,H1,I1,r1,q1⟩=>?_)
 refine wpAny_Slice (uo (hl pins s1 σ H1 _ I1 q1) fun vl s2 ⟨l,H2,I2,pl,q2⟩=>uo (hu pins s2 σ H2 _ I2 q2) fun vu s3 ⟨u,H3,I3,pu,q3⟩=>?_)
 rw[evalPart_none]
 refine R5 ?_
 have I4:Inv X pins σ H3 {s3 with heap:=s3.heap.push {cls:=.type "slice",data:=.fields #[vl,vu,.none]} }:=I3.kept (t':=s3.toks) fun b ob q=>R0 _ q
 obtain⟨T,id,hT,ht,hg⟩:=hr pins {s3 with heap:=s3.heap.push {cls:=.type "slice",data:=.fields #[vl,vu,.none]} } σ H3 x v vl vu l u s3.heap.objs.size Q I4 r1 (Heap.IsSliceOf.new ..) pl pu q3
 show wpAny (model X.prog X.w) X.A (subscriptTail e (.Slice lo hi none p2) v (.ref s3.heap.objs.size)) (EP X pins σ Q) X.xe {s3 with heap:=s3.heap.push {cls:=.type "slice",data:=.fields #[vl,vu,.none]} }
 exact tail_any (ops:=[.ref s3.heap.objs.size,v]) ht hT hg (by with_unfolding_all rfl)
def AC(xs:List V)(lo hi:RT Int):List V:=(xs.drop (HT.sIx xs.length 0 lo)).take (HT.sIx xs.length xs.length hi - HT.sIx xs.length 0 lo)
theorem Ap(xs:List V)(lo hi:RT Int):(AC xs lo hi).length<=xs.length:=by
 unfold AC
 rw[To,Tt]
 omega
def Qg(K:RW):V->RT Int->RT Int->Hp->VK->Prop:=fun x lo hi H Q=>∃a xs,x=.ref a/\xn K H a xs /\
 ¬ (HT.sIx xs.length 0 lo=0/\HT.sIx xs.length xs.length hi=xs.length)/\∀p,H p=none->Q (.ref p) (upd H p (.tup (AC xs lo hi)))
theorem M1:LE X (Qg X.K):=by
 intro pins s σ H x v vl vu lo hi sl Q I rx hs pl pu h
 obtain⟨a,xs,rfl,hx,hw,q⟩:=h
 cases rx
 obtain⟨its,r,ht,hz⟩:=I.tuple hx
 have hlen:its.toArray.size=xs.length:=by rw[Sb];exact r.length.symm
 refine⟨"tuple",_,PyProof.Rows.slot_tuple_getitem.lookup,ht.typeIs,?_⟩
 refine HT.getItem_tuple_cut ht hs pl pu (by rw[hlen];exact hw) ?_ (by rw[hlen];exact hz)
 rw[hlen]
 refine⟨.ref s.heap.objs.size,_,I.laid (t':=s.toks) (o:=.tup (AC xs lo hi)) (fun b ob q=>R0 _ q) (Se _) ?_,rfl,q _ (I.hok.fresh (Se _))⟩
 exact⟨Sx (Ap xs lo hi) hz,_,(r.drop (HT.sIx xs.length 0 lo)).take (HT.sIx xs.length xs.length hi - HT.sIx xs.length 0 lo),wX.new _ _⟩
def Ov(K:RW):R2:=fun x y H Q=>∃a b xs ys,x=.ref a/\y=.ref b/\xn K H a xs/\xn K H b ys/\xs ≠ []/\xs.length+ys.length<=sizeLine /\
 (ys=[]->Q (.ref a) H)/\(ys ≠ []->∀p,H p=none->Q (.ref p) (upd H p (.tup (xs++ys))))
theorem l6.nil_iff{xs:List V}{us:List RU}(r:l6 xs us):us=[]↔xs=[]:=by
 cases r with
 | nil=>simp
 | cons _ _=>simp
theorem Kf:OpR X (binaryOp .Add) (Ov X.K):=by
 intro pins s σ H x y v u Q I rx ry h
 obtain⟨a,b,xs,ys,rfl,rfl,ha,hb,hx,hz,q1,q2⟩:=h
 cases rx
 cases ry
 obtain⟨its,r1,p1,_⟩:=I.tuple ha
 obtain⟨its2,r2,p2,_⟩:=I.tuple hb
 refine HT.cat_tup p1 p2 (fun z=>hx (r1.nil_iff.mp z)) (fun z=>⟨.ref a,H,I,rfl,q1 (r2.nil_iff.mp z)⟩) (fun z=>?_) (by rw[<- r1.length,<- r2.length];exact hz)
 refine⟨.ref s.heap.objs.size,_,I.laid (t':=s.toks) (o:=.tup (xs++ys)) (fun b ob q=>R0 _ q) (Se _) ?_,rfl,q2 (fun w=>z (r2.nil_iff.mpr w)) _ (I.hok.fresh (Se _))⟩
 exact⟨by rw[Sl];exact hz,_,r1.append r2,wX.new _ _⟩
end
end L2
namespace L2
open PySem PySem.Spec PyProof.Rows
noncomputable def N3(n:Nat)(i:Int):RT Nat:=if 0<=i then (if i<n then some i.toNat else none) else if -(n:Int)<=i then some (i+n).toNat else none
def LR{α:Type}(xs:List α)(i:Int):RT α:=(N3 xs.length i).bind fun j=>xs[j]?
theorem JF{n:Nat}{i:Int}{j:Nat}(h:N3 n i=some j):seqIndex? i n=some j/\j<n /\ -(n:Int)<=i/\i<n:=by
 unfold N3 at h
 by_cases h0:0<=i
 ·rw[R3 h0] at h
  by_cases h1:i<n
  ·rw[R3 h1] at h
   have e:i.toNat=j:=Si h
   exact⟨by rw[seqIndex_of h0 h1,e],by omega,by omega,h1⟩
  ·rw[Sa h1] at h;cases h
 ·rw[Sa h0] at h
  by_cases h1 : -(n:Int)<=i
  ·rw[R3 h1] at h
   have e:(i+n).toNat=j:=Si h
   exact⟨by rw[seqIndex_neg (by omega) h1,e],by omega,h1,by omega⟩
  ·rw[Sa h1] at h;cases h
theorem Dk{α:Type}{xs:List α}{i:Int}{v:α}(h:LR xs i=some v):∃j,seqIndex? i xs.length=some j/\xs[j]?=some v/\j<xs.length /\ -(xs.length:Int)<=i/\i<xs.length:=by
 unfold LR at h
 cases e:N3 xs.length i with
 | none=>rw[e] at h;cases h
 | some j =>
  rw[e] at h
  obtain⟨h1,h2,h3,h4⟩:=JF e
  exact⟨j,h1,h,h2,h3,h4⟩
def DE(b:Sr):Prop:=∀o i,subscripted b false o i=operate [o,i] (getItem o i)
def IxR(X:Cx)(r:R2):Prop:=
 ∀(value slice:Sr) (pins:List (RY×Obj)) (s:RX) (σ:St) (H:Hp) (x y:V) (v u:RU) (Q:VK),Inv X pins σ H s->RelV x v->RelV y u->r x y H Q ->
  subscripted slice false v u=operate [v,u] (getItem v u)->wpAny (model X.prog X.w) X.A (subscriptTail value slice v u) (EP X pins σ Q) X.xe s
def Jv(X:Cx)(id:String)(r:V->List V->Hp->VK->Prop):Prop:=
 ∀(pins:List (RY×Obj)) (s:RX) (σ:St) (H:Hp) (x:V) (xs:List V) (v:RU) (us:List RU) (Q:VK),Inv X pins σ H s->RelV x v->l6 xs us->r x xs H Q ->
  wpAny (model X.prog X.w) X.A (call (.builtin id) (v::us)) (EP X pins σ Q) X.xe s
section
variable{X:Cx}{a b:Sr}{ta tb:TE}{pos:Pos}
theorem IxR.or{r r':R2}(h:IxR X r)(h':IxR X r'):IxR X (fun x y H Q=>r x y H Q\/r' x y H Q):=by
 intro value slice pins s σ H x y v u Q I rx ry q hs
 rcases q with q | q
 ·exact h value slice pins s σ H x y v u Q I rx ry q hs
 ·exact h' value slice pins s σ H x y v u Q I rx ry q hs
theorem Jv.or{id:String}{r r':V->List V->Hp->VK->Prop}(h:Jv X id r)(h':Jv X id r'):Jv X id (fun x xs H Q=>r x xs H Q\/r' x xs H Q):=by
 intro pins s σ H x xs v us Q I rx rs q
 rcases q with q | q
 ·exact h pins s σ H x xs v us Q I rx rs q
 ·exact h' pins s σ H x xs v us Q I rx rs q
theorem sD{r:R2}(hr:IxR X r)(ha:PE X a ta)(hb:PE X b tb)(hs:DE b):PE X (.Subscript a b pos) (PH r ta tb):=by
 intro pins s σ H Q I h
 exact Subscript_ (Mc ha hb I h fun v u s2 x y H2 I2 rx ry q=>hr a b pins s2 σ H2 x y v u Q I2 rx ry q (hs _ _))
def Qt(K:RW):R2:=fun x y H Q=>∃p xs i v,x=.ref p/\y=.int i/\wj K H p xs/\LR xs i=some v/\Q v H
def PU(K:RW):R2:=fun x y H Q=>∃p xs i v,x=.ref p/\y=.int i/\xn K H p xs/\LR xs i=some v/\Q v H
def Qx:R2:=fun x y H Q=>∃z i c,x=.str z/\y=.int i/\z.length<=sizeLine/\LR z.cps.toList i=some c/\Q (.str ⟨#[c]⟩) H
theorem J1:IxR X (Qt X.K):=by
 intro value slice pins s σ H x y v u Q I rx ry h hs
 obtain⟨p,xs,i,z,rfl,rfl,hq,he,q⟩:=h
 cases rx
 obtain⟨t,rfl⟩:=ry
 obtain⟨its,r,pl,hz⟩:=I.list hq
 obtain⟨j,h1,h2,h3,h4,h5⟩:=Dk he
 obtain⟨w,ew,rw'⟩:=r.get h2
 have hl:=r.length
 have hn:=Bx
 have fin:EP X pins σ Q w s:=⟨z,H,I,rw',q⟩
 by_cases h0:0<=i
 ·have hj:i.toNat=j:=by
   rw[seqIndex_of h0 h5] at h1
   exact Si h1
  exact item_listR pl.isList h0 (by omega) (by rw[hj];simpa using ew) fin hs
 ·have hj:(i+(its.toArray.size:Int)).toNat=j:=by
   rw[seqIndex_neg (by omega) h4] at h1
   rw[Sb,<- hl]
   exact Si h1
  exact subscriptTail_builtinR (x:=w) pl.isList.typeIs slot_list_getitem.lookup
   (wpAny_getItem_list_neg (Q:=fun r s'=>r=w/\EP X pins σ Q r s') pl.isList (by omega) (by rw[Sb]<;>omega) (by omega) (by rw[hj];simpa using ew) ⟨rfl,fin⟩) hs
theorem MI:IxR X (PU X.K):=by
 intro value slice pins s σ H x y v u Q I rx ry h hs
 obtain⟨p,xs,i,z,rfl,rfl,hq,he,q⟩:=h
 cases rx
 obtain⟨t,rfl⟩:=ry
 obtain⟨its,r,pl,hz⟩:=I.tuple hq
 obtain⟨j,h1,h2,h3,h4,h5⟩:=Dk he
 obtain⟨w,ew,rw'⟩:=r.get h2
 have hl:=r.length
 have hn:=Bx
 have fin:EP X pins σ Q w s:=⟨z,H,I,rw',q⟩
 exact subscriptTail_builtinR (x:=w) pl.typeIs slot_tuple_getitem.lookup
  (getItem_tuple (j:=j) (Q:=fun r s'=>r=w/\EP X pins σ Q r s') pl (by omega) (by omega) (by rw[Sb,<- hl];exact h1) (by simpa using ew) ⟨rfl,fin⟩) hs
theorem M4:IxR X Qx:=by
 intro value slice pins s σ H x y v u Q I rx ry h hs
 obtain⟨z,i,c,rfl,rfl,hz,he,q⟩:=h
 obtain⟨t,rfl⟩:=rx
 obtain⟨t',rfl⟩:=ry
 obtain⟨j,h1,h2,h3,h4,h5⟩:=Dk he
 have hl:z.cps.toList.length=z.length:=by simp[Str.length]
 rw[hl] at h1 h4 h5
 have hn:=Bx
 exact tail_any (typeIs_str s z t) slot_str_getitem.lookup (getItem_str (c:=c) (by
  have e1:decide (i < -(2 ^ 63:Int))=false:=Sz (by omega)
  have e2:decide (i ≥ 2 ^ 63)=false:=Sz (by omega)
  rw[e1,e2,Bool.or_false]) (by rw[h1];simpa using h2) ⟨.str ⟨#[c]⟩,H,I.tok _,⟨_,rfl⟩,q⟩) hs
theorem Inv.lst{pins:List (RY×Obj)}{σ:St}{H:Hp}{s:RX}{p:RY}{xs:List V}(I:Inv X pins σ H s)(h:H p=some (.lst xs)) :
  ∃(its:List RU) (n:Nat),l6 xs its/\s.heap.get? p=some {cls:=.type "list",data:=.seq its.toArray n}/\xs.length<=sizeLine:=by
 obtain⟨z,its,n,r,e⟩:=I.hok p _ h
 exact⟨its,n,r,e,z⟩
theorem Dq(lo hi:RT Int)(n:Nat):(sliceBounds lo hi none n).1=((HT.sIx n 0 lo:Nat):Int)/\(sliceBounds lo hi none n).2.1=((HT.sIx n n hi:Nat):Int)/\(sliceBounds lo hi none n).2.2=1:=by
 refine⟨?_,?_,rfl⟩
 ·cases lo with
  | none=>simp[sliceBounds,HT.sIx]
  | some i =>
   simp only[sliceBounds,HT.sIx,Option.getD_none,show(1:Int) > 0 by decide,if_true]
   by_cases h:i<0
   ·simp only[h,if_true]<;>omega
   ·simp only[h,if_false]<;>omega
 ·cases hi with
  | none=>simp[sliceBounds,HT.sIx]
  | some i =>
   simp only[sliceBounds,HT.sIx,Option.getD_none,show(1:Int) > 0 by decide,if_true]
   by_cases h:i<0
   ·simp only[h,if_true]<;>omega
   ·simp only[h,if_false]<;>omega
theorem B5(its:List RU)(lo hi:RT Int):slicePick its.toArray lo hi none=((its.drop (HT.sIx its.length 0 lo)).take (HT.sIx its.length its.length hi - HT.sIx its.length 0 lo)).toArray:=by
 obtain⟨h1,h2,h3⟩:=Dq lo hi its.toArray.size
 unfold slicePick
 rw[h1,h2,h3]
 simp only[sliceRange_one,pick_run,Sb]<;>rfl
def Qa(K:RW):V->RT Int->RT Int->Hp->VK->Prop:=fun x lo hi H Q=>∃a xs,x=.ref a/\wj K H a xs/\∀p,H p=none->Q (.ref p) (upd H p (.lst (AC xs lo hi)))
theorem KN:LE X (Qa X.K):=by
 intro pins s σ H x v vl vu lo hi sl Q I rx hs pl pu h
 obtain⟨a,xs,rfl,hx,q⟩:=h
 cases rx
 obtain⟨its,r,ht,hz⟩:=I.list hx
 have hlen:=r.length
 refine⟨"list",_,slot_list_getitem.lookup,ht.isList.typeIs,?_⟩
 refine wpAny_getItem_list_slice ht.isList hs pl pu .none (by simp) ?_ (by rw[Sb]<;>omega)
 rw[B5,<- hlen]
 refine⟨.ref s.heap.objs.size,_,I.laid (t':=s.toks) (o:=.lst (AC xs lo hi)) (fun b ob q=>R0 _ q) (Se _) ?_,rfl,q _ (I.hok.fresh (Se _))⟩
 exact⟨Sx (Ap xs lo hi) hz,_,0,(r.drop (HT.sIx xs.length 0 lo)).take (HT.sIx xs.length xs.length hi - HT.sIx xs.length 0 lo),Sd _ rfl⟩
def CO:V->Bool
 | .non=>true
 | .bl _=>true
 | .int _=>true
 | .str _=>true
 | _=>false
noncomputable def NB:V->V->Bool
 | .non,.non=>true
 | .bl a,.bl b=>a==b
 | .bl a,.int b=>(if a then 1 else 0)==b
 | .int a,.bl b=>a==(if b then 1 else 0)
 | .int a,.int b=>a==b
 | .str a,.str b=>a==b
 | _,_=>false
theorem MJ{A:Sv}{s:RX}{y x:V}{u v:RU}(ry:RelV y u)(rx:RelV x v)(fy:CO y=true)(fx:CO x=true):SeqAt.EqAt A s u v (NB y x):=by
 cases y with
 | non =>
  cases ry
  cases x with
  | non=>cases rx;exact SeqAt.EqAt.same _
  | bl b=>cases rx;exact SeqAt.EqAt.none_bool b
  | int b=>obtain⟨t,rfl⟩:=rx;exact SeqAt.EqAt.none_int b t
  | str b=>obtain⟨t,rfl⟩:=rx;exact SeqAt.EqAt.none_str b t
  | _=>exact Sm (show false=true from fx) R6
 | bl a =>
  cases ry
  cases x with
  | non=>cases rx;exact SeqAt.EqAt.bool_none a
  | bl b=>cases rx;exact SeqAt.EqAt.bool_bool a b
  | int b=>obtain⟨t,rfl⟩:=rx;exact SeqAt.EqAt.bool_int a b t
  | str b=>obtain⟨t,rfl⟩:=rx;exact SeqAt.EqAt.bool_str a b t
  | _=>exact Sm (show false=true from fx) R6
 | int a =>
  obtain⟨t',rfl⟩:=ry
  cases x with
  | non=>cases rx;exact SeqAt.EqAt.int_none a t'
  | bl b=>cases rx;exact SeqAt.EqAt.int_bool a t' b
  | int b=>obtain⟨t,rfl⟩:=rx;exact SeqAt.EqAt.int_int a t' b t
  | str b=>obtain⟨t,rfl⟩:=rx;exact SeqAt.EqAt.int_str a t' b t
  | _=>exact Sm (show false=true from fx) R6
 | str a =>
  obtain⟨t',rfl⟩:=ry
  cases x with
  | non=>cases rx;exact SeqAt.EqAt.str_none a t'
  | bl b=>cases rx;exact SeqAt.EqAt.str_bool a t' b
  | int b=>obtain⟨t,rfl⟩:=rx;exact SeqAt.EqAt.str_int a t' b t
  | str b=>obtain⟨t,rfl⟩:=rx;exact SeqAt.EqAt.str_str a t' b t
  | _=>exact Sm (show false=true from fx) R6
 | _=>exact Sm (show false=true from fy) R6
def KL(x:V)(u:RU):Bool:=match u with
 | .none=>NB .non x
 | .bool b=>NB (.bl b) x
 | .int i _=>NB (.int i) x
 | .str z _=>NB (.str z) x
 | _=>false
theorem M7{x y:V}{u:RU}(r:RelV y u)(f:CO y=true):KL x u=NB y x:=by
 cases y with
 | non=>cases r;rfl
 | bl b=>cases r;rfl
 | int i=>obtain⟨t,rfl⟩:=r;rfl
 | str z=>obtain⟨t,rfl⟩:=r;rfl
 | _=>exact Sm (show false=true from f) R6
theorem je{A:Sv}{s:RX}{x:V}{v:RU}(rx:RelV x v)(fx:CO x=true):∀{xs:List V} {us:List RU},l6 xs us->xs.all CO=true->∀u∈us,SeqAt.EqAt A s u v (KL x u)
 | _,_,.nil,_=>fun u hu=>by cases hu
 | y::xs,u::us,.cons r t,f=>fun u' hu=>by
  rw[SL,R1] at f
  rcases Sf.mp hu with rfl | hu
  ·rw[M7 r f.1];exact MJ r rx f.1 fx
  ·exact je rx fx t f.2 u' hu
theorem C8:CallR X (.builtin "len") (fun xs H Q=>∃p ys,xs=[.ref p]/\(wj X.K H p ys\/xn X.K H p ys)/\Q (.int ys.length) H):=by
 intro pins s σ H xs us Q I r h
 obtain⟨p,ys,rfl,hq,q⟩:=h
 obtain⟨u,rfl,rx⟩:=vals1 r
 cases rx
 have hn:=Bx
 rcases hq with hq | hq
 ·obtain⟨its,r',pl,hz⟩:=I.list hq
  have hlen:=r'.length
  exact Calls.call_len_list pl.isList (by simp only[Sb]<;>omega) ⟨.int ys.length,H,I.tok _,⟨s.toks+1,by rw[Sb,hlen]⟩,q⟩
 ·obtain⟨its,r',pl,hz⟩:=I.tuple hq
  have hlen:=r'.length
  exact len_tuple pl (by simp only[Sb]<;>omega) ⟨.int ys.length,H,I.tok _,⟨s.toks+1,by rw[Sb,hlen]⟩,q⟩
theorem CallR.or{f:RU}{r r':List V->Hp->VK->Prop}(h:CallR X f r)(h':CallR X f r'):CallR X f (fun xs H Q=>r xs H Q\/r' xs H Q):=by
 intro pins s σ H xs us Q I rs q
 rcases q with q | q
 ·exact h pins s σ H xs us Q I rs q
 ·exact h' pins s σ H xs us Q I rs q
theorem B_:CallR X (.type "tuple") (fun xs H Q=>∃p ys,xs=[.ref p]/\((wj X.K H p ys/\∀l,H l=none->Q (.ref l) (upd H l (.tup ys)))\/(xn X.K H p ys/\Q (.ref p) H))):=by
 intro pins s σ H xs us Q I r h
 obtain⟨p,ys,rfl,h⟩:=h
 obtain⟨u,rfl,rx⟩:=vals1 r
 cases rx
 rcases h with ⟨hq,q⟩ | ⟨hq,q⟩
 ·obtain⟨its,r',pl,hz⟩:=I.list hq
  have hlen:=r'.length
  refine call_tuple_list pl.isList (fun h' kp=>?_) (by simp only[Sb]<;>omega)
  have I1:Inv X pins σ H {s with heap:=h' }:=I.kept (t':=s.toks) kp
  have I2:Inv X pins σ (upd H h'.objs.size (.tup ys)) {s with heap:=h'.push {cls:=.type "tuple",data:=.seq its.toArray} }:=
   I1.laid (t':=s.toks) (fun b o e=>R0 _ e) (Se _) (show vn X.prog X.w _ _ _ (.tup ys) from⟨hz,its,r',wX.new _ _⟩)
  exact⟨.ref h'.objs.size,_,I2,rfl,q _ (I1.hok.fresh (Se _))⟩
 ·obtain⟨its,r',pl,hz⟩:=I.tuple hq
  exact call_tuple_same pl ⟨.ref p,H,I,rfl,q⟩
def QA(K:RW)(T:String)(x:V)(H:Hp):Prop:=match x with
 | .str _=>T = "str"
 | .int _=>T = "int"
 | .ref p=>(T = "list" /\ ∃xs,wj K H p xs)\/(T = "tuple" /\ ∃o,K.lookup p=some o/\o.cls=.type "tuple" /\ o.dict=none) \/
   (T = "dict" /\ ((∃kvs,H p=some (.dK kvs))\/∃kvs,H p=some (.dT kvs)))\/(T = "set" /\ ∃S n,H p=some (.set S n))
 | _=>False
theorem Fx{pins:List (RY×Obj)}{σ:St}{H:Hp}{s:RX}{T:String}{x:V}{v:RU}(I:Inv X pins σ H s)(r:RelV x v)(ty:QA X.K T x H) :
  s.TypeIs v T/\∀a,v=.ref a->∃ob,s.heap.get? a=some ob/\ob.dict=none:=by
 cases x with
 | str z =>
  obtain⟨t,rfl⟩:=r
  cases (show T = "str" from ty)
  exact⟨typeIs_str s z t,fun _ e=>nomatch e⟩
 | int i =>
  obtain⟨t,rfl⟩:=r
  cases (show T = "int" from ty)
  exact⟨typeIs_int s i t,fun _ e=>nomatch e⟩
 | ref p =>
  cases r
  rcases ty with ⟨rfl,xs,hq⟩ | ⟨rfl,o,hk,hc,hd⟩ | ⟨rfl,hk⟩ | ⟨rfl,S,n,hk⟩
  ·obtain⟨its,_,pl,_⟩:=I.list hq
   refine⟨pl.isList.typeIs,fun a e=>?_⟩
   cases e
   obtain⟨o,n,e,c,hd,_⟩:=pl
   exact⟨o,e,hd⟩
  ·refine⟨⟨o,I.kIn p o hk,hc⟩,fun a e=>?_⟩
   cases e
   exact⟨o,I.kIn _ o hk,hd⟩
  ·have z:∃o,s.heap.get? p=some o/\o.ExactDict:=by
    rcases hk with ⟨kvs,hk⟩ | ⟨kvs,hk⟩
    ·obtain⟨_,_,_,_,o,_,_,e,ex,_⟩:=I.hok p _ hk
     exact⟨o,e,ex⟩
    ·obtain⟨_,_,_,_,o,_,_,e,ex,_⟩:=I.hok p _ hk
     exact⟨o,e,ex⟩
   obtain⟨o,e,ex⟩:=z
   refine⟨⟨o,e,ex.1⟩,fun a e2=>?_⟩
   cases e2
   exact⟨o,e,ex.2.1⟩
  ·obtain⟨o,_,_,_,e,ex,_⟩:=I.hok p _ hk
   refine⟨⟨o,e,ex.1⟩,fun a e2=>?_⟩
   cases e2
   exact⟨o,e,ex.2.1⟩
 | _=>exact False.elim ty
def Qi(K:RW)(T:String)(r:V->List V->Hp->VK->Prop)(to:TE):TE:=fun σ H Q=>to σ H fun x H1=>QA K T x H1/\r x [] H1 Q
def Rw(K:RW)(T:String)(r:V->List V->Hp->VK->Prop)(to:TE)(t:TA):TE:=fun σ H Q=>to σ H fun x H1=>QA K T x H1/\t σ H1 fun xs H2=>r x xs H2 Q
variable{o e:Sr}{es:List Sr}{to:TE}{t:TA}{name:Str}{apos cpos:Pos}{T id:String}{r:V->List V->Hp->VK->Prop}
theorem sZ(pa:PlainAttrs T)(slot:Slot T name id)(hty:typeOf (.builtin id)=pure (.type "method_descriptor"))(hm:Jv X id r)(ho:PE X o to)
  (hbase:attributeBase o name X.env (eval o X.env)=eval o X.env:=by rfl) (hline:(apos.endLine==cpos.line)=true:=by rfl):PE X (.Call (.Attribute o name apos) [] [] cpos) (Qi X.K T r to):=by
 intro pins s σ H Q I h
 refine wpAny_Call_method0_late hbase hline (uo (ho pins s σ H _ I h) fun v s1 ⟨x,H1,I1,r1,ty,q1⟩=>?_)
 obtain⟨h1,h2⟩:=Fx I1 r1 ty
 exact⟨T,id,pa,slot,hty,h1,h2,Calls.callWith_builtin rfl (PySem.evalArgs_none (hm pins s1 σ H1 x [] v [] Q I1 r1 .nil q1))⟩
theorem oN (pa:PlainAttrs T) (slot:Slot T name id) (hty:typeOf (.builtin id)=pure (.type "method_descriptor")) (hm:Jv X id r) (ho:PE X o to) (ha:PA X (e::es) t)
    (hbase:attributeBase o name X.env (eval o X.env)=eval o X.env:=by rfl)
    (hfew:((backTo cpos (starEach (e::es) X.env)).all (fun x=>!x.1)&&(backToKw cpos (keywordEach [] X.env)).all (fun x=>x.1.isSome)
      && decide ((e::es).length+([]:List Keyword).length+(if ([]:List Keyword).isEmpty then 0 else 1)<30))=true:=by rfl)
    (hline:(apos.endLine==cpos.line)=true:=by rfl) (hs:starEach (e::es) X.env=(false,eval e X.env)::starEach es X.env:=by rfl) (hplain:(backTo cpos (starEach es X.env)).any (·.1)=false:=by rfl) :
    PE X (.Call (.Attribute o name apos) (e::es) [] cpos) (Rw X.K T r to t):=by
  intro pins s σ H Q I h
  refine wpAny_Call_method_late hbase hfew hline rfl (uo (ho pins s σ H _ I h) fun v s1 ⟨x,H1,I1,r1,ty,q1⟩=>?_)
  obtain⟨h1,h2⟩:=Fx I1 r1 ty
  refine⟨T,id,pa,slot,hty,h1,h2,?_⟩
  have hA:=ha cpos pins s1 σ H1 _ I1 q1
  rw[hs] at hA ⊢
  refine Calls.callWith_builtin (by show(false||(backTo cpos (starEach es X.env)).any (·.1))=false;rw[hplain]<;>rfl) (Calls.evalArgs_plain ?_)
  exact uo hA fun us s2 ⟨vs,H2,I2,r2,q2⟩=>hm pins s2 σ H2 x vs v us Q I2 r1 r2 q2
/- xs.append(e),list.index on a module's tuple .. are Jv facts of 06m -/
end
end L2
namespace L2
open PySem PySem.Spec PyProof.Rows
def Py(X:Cx)(id:String)(r:V->List V->Hp->VK->Prop):Prop:=
 ∀(pins:List (RY×Obj)) (s:RX) (σ:St) (H:Hp) (x:V) (xs:List V) (v:RU) (us:List RU) (Q:VK),Inv X pins σ H s->RelV x v->l6 xs us->r x xs H Q ->
  wpAny (model X.prog X.w) X.A (call (.builtin id) (v::us)) (EP X pins σ Q) X.xe s
theorem l6.one:∀{x:V} {us:List RU},l6 [x] us->∃u,us=[u]/\RelV x u
 | _,_,h=>by cases h with | cons r t=>cases t;exact⟨_,rfl,r⟩
theorem l6.two:∀{x y:V} {us:List RU},l6 [x,y] us->∃u v,us=[u,v]/\RelV x u/\RelV y v
 | _,_,_,h=>by cases h with | cons r t=>cases t with | cons q t=>cases t;exact⟨_,_,rfl,r,q⟩
theorem l6.zero:∀{us:List RU},l6 [] us->us=[]
 | _,.nil=>rfl
theorem l6.dropLast{xs:List V}{us:List RU}(h:l6 xs us):l6 xs.dropLast us.dropLast:=by
 induction h with
 | nil=>exact .nil
 | cons r t ih =>
  cases t with
  | nil=>exact .nil
  | cons q t'=>exact .cons r ih
theorem l6.eraseIdx:∀{xs:List V} {us:List RU} (i:Nat),l6 xs us->l6 (xs.eraseIdx i) (us.eraseIdx i)
 | _,_,_,.nil=>.nil
 | _,_,0,.cons _ t=>t
 | _,_,i+1,.cons r t=>.cons r (l6.eraseIdx i t)
theorem l6.reverse{xs:List V}{us:List RU}(h:l6 xs us):l6 xs.reverse us.reverse:=by
 induction h with
 | nil=>exact .nil
 | cons r t ih=>rw[List.reverse_cons,List.reverse_cons];exact l6.append ih (.cons r .nil)
theorem FD{α:Type}(l:List α):l.eraseIdx (l.length - 1)=l.dropLast:=by
 induction l with
 | nil=>rfl
 | cons a r ih =>
  cases r with
  | nil=>rfl
  | cons b r =>
   have e:(a::b::r).length - 1=((b::r).length - 1)+1:=by
    have h1:(a::b::r).length=r.length+2:=rfl
    have h2:(b::r).length=r.length+1:=rfl
    omega
   rw[e,List.eraseIdx_cons_succ,ih]
   all_goals rfl
section
variable{X:Cx}{pins:List (RY×Obj)}{σ:St}{H:Hp}{s:RX}{l b:RY}{xs ys zs:List V}
theorem Inv.lset{its its':List RU}{n:Nat}{f:Array RU->Array RU}{t':Nat}(I:Inv X pins σ H s)(hH:H l=some (.lst xs))
  (e:s.heap.get? l=some {cls:=.type "list",data:=.seq its.toArray n}) (hf:f its.toArray=its'.toArray) (hv:l6 ys its') (hz:ys.length<=sizeLine) :
  Inv X pins σ (upd H l (.lst ys)) {s with heap:=s.heap.update l (Obj.mapSeq f),toks:=t' }:=by
 have q:=PySem.IsL.update e f
 rw[hf] at q
 refine I.write (x:=l) (e:=l) (by rw[hH];exact trivial) (.inl rfl) (fun b' u hb hu=>(SC s.heap (Obj.mapSeq f) (Ne.symm hb)).trans hu) ⟨_,q⟩ ?_
 exact⟨hz,its',_,hv,q⟩
theorem Inv.lnew{its:List RU}{t':Nat}(I:Inv X pins σ H s)(hv:l6 ys its)(hz:ys.length<=sizeLine) :
  Inv X pins σ (upd H s.heap.objs.size (.lst ys)) {s with heap:=s.heap.push {cls:=.type "list",data:=.seq its.toArray},toks:=t' }:=
 I.laid (fun _ _ q=>R0 _ q) (Se _) ⟨hz,its,0,hv,Sd _ rfl⟩
theorem Inv.fresh(I:Inv X pins σ H s):H s.heap.objs.size=none:=I.hok.fresh (Se _)
theorem Inv.lstM(I:Inv X pins σ H s)(hH:H l=some (.lst xs)):xs.length<=sizeLine/\∃(its:List RU) (n:Nat),l6 xs its/\xs.length=its.length/\s.heap.get? l=some {cls:=.type "list",data:=.seq its.toArray n}:=by
 obtain⟨z,its,n,r,e⟩:=I.hok l _ hH
 exact⟨z,its,n,r,r.length,e⟩
theorem HV{n:Nat}(h:n<=sizeLine):Builtin.List.listTooLong n=false:=by
 unfold Builtin.List.listTooLong
 exact Sz (by omega)
end
section
variable{X:Cx}
def KC:V->List V->Hp->VK->Prop:=fun x vs H Q=>∃l xs y,x=.ref l/\vs=[y]/\H l=some (.lst xs)/\xs.length<sizeLine/\Q .non (upd H l (.lst (xs++[y])))
theorem kA:Py X "list.append" KC:=by
 intro pins s σ H x vs v us Q I rx rv h
 obtain⟨l,xs,y,rfl,rfl,hH,hz,q⟩:=h
 cases rx
 obtain⟨u,rfl,ru⟩:=rv.one
 obtain⟨z,its,n,r,hl,e⟩:=I.lstM hH
 refine call_meets F.slot_list_append ⟨_,e,rfl⟩ F.entry_list_append (F.args_list_append_2 _ _) (PySem.list_append l its.toArray n u (by rw[Sb];omega)) ⟨e,?_⟩
 refine⟨.non,_,I.lset (its':=its++[u]) hH e (by simp) (r.append (.cons ru .nil)) ?_,rfl,q⟩
 rw[Sl,List.length_singleton]
 omega
def Kq:V->List V->Hp->VK->Prop:=fun x vs H Q=>∃l b xs zs,x=.ref l/\vs=[.ref b]/\H l=some (.lst xs)/\H b=some (.lst zs)/\xs.length+zs.length<=sizeLine/\Q .non (upd H l (.lst (xs++zs)))
theorem pP:Py X "list.extend" Kq:=by
 intro pins s σ H x vs v us Q I rx rv h
 obtain⟨l,b,xs,zs,rfl,rfl,hH,hB,hz,q⟩:=h
 cases rx
 obtain⟨u,rfl,ru⟩:=rv.one
 cases ru
 obtain⟨z,its,n,r,hl,e⟩:=I.lstM hH
 obtain⟨z2,its2,n2,r2,hl2,e2⟩:=I.lstM hB
 have hsz:its.toArray.size+its2.toArray.size<=sizeLine:=by rw[Sb,Sb];omega
 have hlong:¬ (!its.toArray.isEmpty&&Builtin.List.listTooLong (its.toArray.size+its2.toArray.size))=true:=by
  rw[HV hsz,Bool.and_false]
  exact R6
 refine call_meets F.slot_list_extend ⟨_,e,rfl⟩ F.entry_list_extend (F.args_list_extend_2 _ _)
  (AutoSeq1.list_extend_list_list_0 l its.toArray n b its2.toArray n2 hlong (by rw[Sb];omega) (by omega)) ⟨e,e2,?_⟩
 refine⟨.non,_,I.lset (its':=its++its2) hH e (by simp) (r.append r2) ?_,rfl,q⟩
 rw[Sl]
 omega
def QJ:V->List V->Hp->VK->Prop:=fun x vs H Q=>∃l xs y,x=.ref l/\vs=[]/\H l=some (.lst xs)/\xs[xs.length - 1]?=some y/\Q y (upd H l (.lst xs.dropLast))
theorem tJ:Py X "list.pop" QJ:=by
 intro pins s σ H x vs v us Q I rx rv h
 obtain⟨l,xs,y,rfl,rfl,hH,hy,q⟩:=h
 cases rx
 have hus:=rv.zero
 subst hus
 obtain⟨z,its,n,r,hl,e⟩:=I.lstM hH
 obtain⟨u,hu,ru⟩:=r.get hy
 have hy':its.toArray[its.toArray.size - 1]?=some u:=by
  show its.toArray[its.length - 1]?=some u
  rw[<- Array.getElem?_toList,<- hl]
  exact hu
 refine call_meets F.slot_list_pop ⟨_,e,rfl⟩ F.entry_list_pop (F.args_list_pop_1 _) (MeetsSeq.list_pop_last l its.toArray n u hy' (by rw[Sb];omega)) ⟨e,?_⟩
 refine⟨y,_,I.lset (its':=its.dropLast) hH e ?_ r.dropLast ?_,ru,q⟩
 ·show its.toArray.eraseIdxIfInBounds (its.toArray.size - 1)=its.dropLast.toArray
  rw[Sb,List.eraseIdxIfInBounds_toArray,FD]
 ·rw[List.length_dropLast]
  omega
def QE:R2:=fun x y H Q=>∃l b xs zs,x=.ref l/\y=.ref b/\H l=some (.lst xs)/\H b=some (.lst zs)/\xs.length+zs.length<=sizeLine/\∀p,H p=none->Q (.ref p) (upd H p (.lst (xs++zs)))
theorem Nl:OpR X (binaryOp .Add) QE:=by
 intro pins s σ H x y v u Q I rx ry h
 obtain⟨l,b,xs,zs,rfl,rfl,hH,hB,hz,q⟩:=h
 cases rx
 cases ry
 obtain⟨z,its,n,r,hl,e⟩:=I.lstM hH
 obtain⟨z2,its2,n2,r2,hl2,e2⟩:=I.lstM hB
 refine PySem.P.add_list e e2 ?_ (by rw[Sb,Sb];omega)
 have ea:its.toArray++its2.toArray=(its++its2).toArray:=by simp
 rw[ea]
 exact⟨.ref _,_,I.lnew (t':=s.toks) (r.append r2) (by rw[Sl];omega),rfl,q _ I.fresh⟩
end
section
variable{prog:R9}{w:Sk}{A:Sv}{E:RU->RX->Prop}{s:RX}
set_option maxRecDepth 100000 in
end
section
variable{X:Cx}
end
end L2
namespace Att
open PySem PySem.W PySem.Calls PyProof.Rows
theorem iF{P:Params}{h:Sq}:∀(ns:List Int) (vs:List RU),WellAll P h vs (ns.map WData.int)->IntsAre vs ns:=by
 intro ns
 induction ns with
 | nil =>
  intro vs w
  rw[List.map_nil] at w
  cases w
  exact .nil
 | cons n ns ih =>
  intro vs w
  rw[S3] at w
  cases w with
  | cons a b =>
   cases a
   exact .cons _ _ (ih _ b)
theorem GG{l:OpenLaw}{n:Nat}(hn:l.most=some n){P:Params}{h:Sq}{args:List WData}{vals:List RU}
  (hpre:l.row.toRowW.claim.pre args=true) (hwl:WellAll P h vals args) :
  ∃a vs ns,vals=[Value.ref a]/\args=[WData.list (ns.map WData.int)]/\h.get? a=some {cls:=.type "list",data:=.seq vs.toArray}/\IntsAre vs ns/\ns.length<=n:=by
 have hsh:WShape.hasAll [] args [.list .int]=true:=(pre_splitW hpre).1
 have hc:l.pre.holds [] {args:=args}=true:=(pre_splitW hpre).2
 obtain⟨d,r,rfl,h1,h2⟩:=hasAllW_cons hsh
 obtain rfl:=hasAllW_nil h2
 obtain⟨xs,rfl,h3⟩:=hasW_list h1
 obtain⟨ns,rfl⟩:=items_int h3
 have hlen:ns.length<=n:=by
  unfold OpenLaw.pre at hc
  have h4:(WTm.not (.lt (.lit (.int (n:Int))) (.len (.arg 0)))).holds [] {args:=[.list (ns.map .int)]}=true:=by
   have h4:=(holds_andW hc).1
   rw[hn] at h4
   exact h4
  have h5:=condW_of h4 (w_not (w_lt w_lit (w_len_list (w_arg rfl))))
  rw[R7] at h5
  refine Nat.le_of_not_lt fun q=>?_
  have q':(n:Int)<((ns.length:Nat):Int):=by omega
  first
   | (rw[S9 q'] at h5;exact Sm h5 (by decide))
   | (simp at h5;omega)
 cases hwl with
 | cons w1 w2 =>
  cases w2
  cases w1 with
  | list ho hall=>exact⟨_,_,ns,rfl,rfl,ho,iF ns _ hall,hlen⟩
theorem GV(l:OpenLaw)(args:List WData):l.row.toRowW.claim.post args (.bool true) args=true:=
 postW_of (r:=l.row.toRowW) (X:=(true==true))
  (show WShape.has [] (.bool true) .bool=true by first | rfl | decide | simp[WShape.has,WShape.arms,WShape.armsAll])
  (show(WTm.eq .res (.lit (.bool true))).value [] {args:=args,res:=some (.bool true),after:=args}=some (.bool (true==true)) from w_eq_bool (w_res rfl) w_lit) rfl
theorem attach_call {l:OpenLaw} {n:Nat} {q:R9} {loose:List Str} {XP:(Str->RT RU)->Sq->Prop} {YP:Sk->Sq->Prop} {d:DefRec}
    (hn:l.most=some n) (hdf:d.params.defaults=[])
    (call:∀(w:Sk) (s₀ s₁:RX) (mg mb:Str->RT RU) (fa:RY) (o:Obj) (pm cd doc:RU) (a:RY) (vs:List RU) (ns:List Int),
      Ground q loose [] XP w s₀ mg mb s₁.heap->YP w s₁.heap ->
      s₁.heap.get? fa=some o->o.data=.func (docDef d.name d.params d.body d.scope pm cd doc)->s₁.heap.CodeRec cd d.name->mg d.name=some (.ref fa) ->
      s₁.heap.get? a=some {cls:=.type "list",data:=.seq vs.toArray}->IntsAre vs ns->ns.length<=n->s₁.gens=#[] ->
      codeAny (model l.prog w) callerA (.call (.ref fa) ⟨[.ref a],[]⟩) (fun r s'=>r=.ok (.ret (.bool true))/\OldK s₁.heap s'.heap/\s'.os=s₁.os/\AllBare s'.gens) s₁) :
    WalkO q loose XP YP l.row.toRowW d [] (fun f vs=>PySem.call f vs):=by
  intro w s₀ s₁ mg mb G Y fa o pm cd doc dV kV ho hd hcd hD hmg hg args vals as hpre hlay hrd hwl hlo
  obtain rfl:dV=.none:=Dflts.none hD hdf
  obtain rfl:kV=.none:=Dflts.noKw hD
  obtain⟨a,vs,ns,rfl,rfl,hobj,hints,hlen⟩:=GG hn hpre hwl
  refine enter_call (codeAny_mono (call w s₀ s₁ mg mb fa o pm cd doc a vs ns G Y ho (fd_plain hd) hcd hmg hobj hints hlen hg) fun r s' hq=>?_)
  obtain⟨rfl,h2,h3,h4⟩:=hq
  exact⟨.inl ⟨.bool true,.bool true,[],rfl,fun _=>rfl,.bool true,GV l _,fun _=>⟨List.Pairwise.nil,fun _ hm=>(nomatch hm)⟩⟩,h2,h3,h4⟩
section
variable{prog:R9}{w:Sk}{A:Sv}{E:RU->RX->Prop}{s:RX}{K:Frag}
def ledger(h:Sq)(L d:RY):List (RY×Obj):=(List.range h.objs.size).filterMap fun a=>if a=L\/a=d then none else (h.get? a).map fun o=>(a,o)
end
end Att
namespace L2
open PySem PySem.Spec PyProof.Rows
theorem vals_ints:∀{vs:List RU} {ns:List Int},IntsAre vs ns->l6 (ns.map V.int) vs
 | _,_,.nil=>.nil
 | _,_,.cons n t h=>.cons ⟨t,rfl⟩ (vals_ints h)
def M_(H:Hp):Prop:=∀b,H b=none\/∃o xs,H b=some (.frz o (.lst xs))
theorem Jf{P:R9}{w:Sk}{K:RW}{mg mb:Str->RT RU}{CX:DU}{k:Nat}{fa a:RY}{fd:SV}{x:Str}{sp:Sp}{s₁:RX}{vs:List RU}{ns:List Int}
  (KX:K.In s₁.heap) (hns:s₁.heap.Ns mainGlobals mg) (hb:s₁.heap.Ns builtinsNs mb) (hbb:∀x:Str,x ≠ "__name__" -> mb x=bootBuiltins x) (hlim:s₁.heap.NoLimit) (hg:s₁.gens=#[])
  (ha:s₁.heap.get? a=some {cls:=.type "list",data:=.seq vs.toArray}) (hi:IntsAre vs ns) (hl:ns.length<=sizeLine) (hr:ua k callerA)
  (F:∀base:Sq,K.In base->base.Ns mainGlobals mg->k6 P w K mg base CX k fa fd [x] sp) (hbind:∀(s:RX) (u:RU),BindsTo s fd ⟨[u],[]⟩ [(x,u)])
  (hsp:∀H:Hp,M_ H->wj K H a (ns.map V.int)->sp [.ref a] H (fun v _=>v=.bl true) fun _ _ _=>False)
  (hCX:∀H e s',CX [] H s₁ (fun _ _ _=>False) e s'->False) :
  codeAny (model P w) callerA (.call (.ref fa) ⟨[.ref a],[]⟩) (fun r s'=>r=.ok (.ret (.bool true))/\OldK s₁.heap s'.heap/\s'.os=s₁.os/\AllBare s'.gens) s₁:=by
 have rv:=vals_ints hi
 have lenV:=hi.length
 have core:∀H:Hp,M_ H->wj K H a (ns.map V.int)->y4 P w H s₁.heap->(∀b,H b≠none->b=a)->(H a≠none->K.lookup a=none) ->
   codeAny (model P w) callerA (.call (.ref fa) ⟨[.ref a],[]⟩) (fun r s'=>r=.ok (.ret (.bool true))/\OldK s₁.heap s'.heap/\s'.os=s₁.os/\AllBare s'.gens) s₁:=by
  intro H hO hS hok hA hK
  have base_of:∀{b:RY} {o:Obj},s₁.heap.get? b=some o->H b=none->(zl s₁.heap H).get? b=some o:=fun e n=>EA e n
  have noA:∀{b:RY} {o:Obj} {es:Array DictEntry} {ep:Nat},s₁.heap.get? b=some o->o.data=.dict es ep->H b=none:=fun {b o es ep} e d=>by
   cases q:H b with
   | none=>rfl
   | some u =>
    have e':b=a:=hA b (by rw[q];simp)
    subst e'
    rw[ha] at e;cases e
    have d':Data.seq vs.toArray _=Data.dict es ep:=d
    cases d'
  have nsK:∀{b:RY} {m:Str->RT RU},s₁.heap.Ns b m->(zl s₁.heap H).Ns b m:=fun {b m} ⟨o,es,ep,e,d,r⟩=>⟨o,es,ep,base_of e (noA e d),d,r⟩
  have hKb:K.In (zl s₁.heap H):=fun b o e=>base_of (KX b o e) (by
   cases q:H b with
   | none=>rfl
   | some u =>
    have e':b=a:=hA b (by rw[q];simp)
    subst e'
    rw[hK (by rw[q];simp)] at e;cases e)
  have hM:Mod K mg (zl s₁.heap H):=⟨hKb,nsK hns,⟨mb,nsK hb,hbb⟩,let ⟨mc,h1,h2⟩:=hlim;⟨mc,nsK h1,h2⟩⟩
  have e0:Ae P w K mg (zl s₁.heap H) callerA [] s₁ H:=⟨rfl,hM,fun b o e=>Gf e,Nat.le_of_eq (CG _ _),trivial,fun b hb=>Sm (show b∈([]:List RY) from hb) (by simp),hok,.of_eq hg⟩
  refine codeAny_mono ((F _ hKb (nsK hns)).run callerA [] s₁ H ⟨[.ref a],[]⟩ [.ref a] [.ref a] _ _ hr e0 (hbind s₁ (.ref a)) (.cons rfl .nil) (hsp H hO hS)) fun r s' h=>?_
  cases r with
  | error e=>exact(hCX H e s' h).elim
  | ok fl =>
   cases fl with
   | next=>exact False.elim h
   | brk=>exact False.elim h
   | cont=>exact False.elim h
   | ret u =>
    obtain⟨v,H',os,bare,un,hok',r',q⟩:=h
    have q':v=.bl true:=q
    subst q'
    obtain rfl:u=Value.bool true:=r'
    refine⟨rfl,OldK.of_keep fun b o e=>?_,os,bare⟩
    cases q:H b with
    | none=>exact un.keep b o e q (by intro z;exact Sm (show b∈([]:List RY) from z) (by simp)) (by simp)
    | some u =>
     rcases hO b with z | ⟨ob,xs,z⟩
     ·rw[q] at z;cases z
     ·have z2:=un.frzs b ob _ (fun y q=>by cases q) z
      obtain⟨e1,_⟩:=hok b _ z
      obtain⟨e2,_⟩:=hok' b _ z2
      rw[e] at e1;cases e1
      exact e2
 cases hk:K.lookup a with
 | some o =>
  have e:=KX a o hk
  rw[ha] at e
  cases e
  refine core (fun _=>none) (fun _=>.inl rfl) (.inr ⟨_,vs.toArray,_,hk,rfl,rfl,rfl,by rw[Sb,lenV];exact hl,by simpa using rv⟩) (fun b u z=>by have z':(none:RT HO)=some u:=z;cases z') (fun b z=>Sm rfl z) fun z=>Sm rfl z
 | none =>
  refine core (fun b=>if b=a then some (.frz {cls:=.type "list",data:=.seq vs.toArray} (.lst (ns.map V.int))) else none) (fun b=>?_) (.inl (.inr ⟨{cls:=.type "list",data:=.seq vs.toArray},R3 rfl⟩)) (fun b u z=>?_) (fun b z=>?_) fun _=>hk
  ·by_cases hb:b=a
   ·exact .inr ⟨_,_,R3 hb⟩
   ·exact .inl (Sa hb)
  ·by_cases hb:b=a
   ·have z':=(R3 hb).symm.trans z
    cases z'
    subst hb
    exact⟨ha,by rw[R7];exact hl,vs,_,rv,ha⟩
   ·have z':=(Sa hb).symm.trans z
    cases z'
  ·by_cases hb:b=a
   ·exact hb
   ·exact Sm (Sa hb) z
end L2
namespace L2
open PySem PySem.Spec PyProof.Rows
abbrev KOf{K:RW}{h:Sq}(_:K.In h):RW:=K
theorem walk_of {l:PySem.W.OpenLaw} {n k:Nat} {q:R9} {loose:List Str} {XP:(Str->RT RU)->Sq->Prop} {YP:Sk->Sq->Prop} {d:DefRec} {K:Params->RW} {CX:Sk->DU} {sp:Sk->Sp} {x:Str}
    (hn:l.most=some n) (hn2:n<=sizeLine) (hdf:d.params.defaults=[]) (hr:ua k callerA)
    (hY:∀(w:Sk) (h:Sq),YP w h->(K w.params).In h)
    (F:∀(w:Sk) (mg:Str->RT RU) (fa:RY) (h:Sq),(K w.params).In h->h.Ns mainGlobals mg->mg d.name=some (.ref fa) ->
      ∃fd:SV,(∀(s:RX) (u:RU),BindsTo s fd ⟨[u],[]⟩ [(x,u)]) /\
        ∀base:Sq,(K w.params).In base->base.Ns mainGlobals mg->k6 l.prog w (K w.params) mg base (CX w) k fa fd [x] (sp w))
    (hsp:∀(w:Sk) (H:Hp) (a:RY) (ns:List Int),ns.length<=n->M_ H->wj (K w.params) H a (ns.map V.int)->sp w [.ref a] H (fun v _=>v=.bl true) fun _ _ _=>False)
    (hCX:∀(w:Sk) (H:Hp) (s:RX) (e:RU) (s':RX),CX w [] H s (fun _ _ _=>False) e s'->False) :
    PySem.W.WalkO q loose XP YP l.row.toRowW d [] (fun f vs=>PySem.call f vs):=by
  refine Att.attach_call hn hdf fun w s₀ s₁ mg mb fa o pm cd doc a vs ns G Y ho hd hcd hmg hobj hints hlen hg=>?_
  have KX:=hY w _ Y
  obtain⟨fd,hb,hF⟩:=F w mg fa _ KX G.T.g hmg
  exact Jf KX G.T.g G.T.b G.T.builtins G.T.nolimit hg hobj hints (Sx hlen hn2) hr hF hb (fun H hO hS=>hsp w H a ns hlen hO hS) fun H e s'=>hCX w H s₁ e s'
end L2
/- THE LAST THEOREM (shape;LID,My.* are yours):
  My.Adr: a structure of the addresses that your layer names (classes,functions);My.Txt K t: a structure (Prop) of the equations over K;
  My.txt_mk:{K} {implicit addresses ..} (e1:nsIn K mainGlobals "law" = some (some (.ref f))) (e2:K.lookup f=some ⟨oc,od,.func (fnOf "law" "law" params body scope dV kV doc pm an cdv ct),sl⟩) (e3:codeIn K cdv "law" = true) ..:∃t,My.Txt K t
set_option maxRecDepth 100000 in
set_option maxHeartbeats 0 in
theorem PySem.Challenge.cw_LID_holds : PySem.Challenge.rw_LID.Holds := by
 w_on;o_law;k_head;(case hw=>w_witness2)
 k_fill
 refine L2.walk_of (l:=PySem.Challenge.rw_LID) (n:=63) (k:=40) (x:="script") (CX:=fun w=>..) (sp:=fun _=>My.sp_law) rfl (by decide) rfl ⟨rfl,by decide,by decide⟩ (fun w h Y=>PySem.W.kIn_of Y) ?F ?S ?C
 case F =>
  intro w mg fa h KX G hmg
  have T:∃t,My.Txt (L2.KOf KX) t:=by
   dsimp only [L2.KOf]                          -- K must stand as «<heap const> w.params» for k_is
   refine' My.txt_mk ?e1 ?e2 ?e3 ..
   (case e1=>PySem.W.k_is)                    -- in the order: a name->its address->its object->its parts
   (case e2=>PySem.W.k_is)
   ..
  obtain⟨t,T⟩:=T
  have e0:=hmg.symm.trans (Sh KX G T.law)
  cases e0                                       -- fa is the law's own address
  exact⟨_,fun s u=>.of_eq rfl,fun base kb nb=>My.law_fn T kb nb⟩     -- if «.of_eq rfl» comes too early: refine' ⟨_,?b,fun base kb nb=>My.law_fn T kb nb⟩;exact fun s u=>.of_eq rfl
 case S=>exact fun w H a ns hl hO hS=>..
 case C=>exact ..
(the tactic k_is has no namespace: write k_is) -/
namespace L2
open PySem PySem.Spec PyProof.Rows
def inClass(s:So)(j:Nat):So:=match s with
 | .ClassDef _ _ _ body _ _ _ _ _ _ _=>body.getD j (.Pass ⟨0,0,0,0⟩)
 | _=>.Pass ⟨0,0,0,0⟩
def vf(s:So):Arguments:=match s with
 | .FunctionDef _ a _ _ _ _ _ _ _ _=>a
 | _=>{posonlyargs:=[],args:=[],vararg:=none,kwonlyargs:=[],kw_defaults:=[],kwarg:=none,defaults:=[]}
def uh(s:So):List So:=match s with
 | .FunctionDef _ _ b _ _ _ _ _ _ _=>b
 | _=>[]
def c6(s:So):Scope:=match s with
 | .FunctionDef _ _ _ _ _ _ sc _ _ _=>sc
 | _=>{kind:=.function,names:=[],isGenerator:=false,isCoroutine:=false}
abbrev ue:DU:=fun _ _ _ _ _ _=>False
abbrev E0:XK:=fun _ _ _=>False
theorem ym{X:Cx}:yo ue X E0:=fun _ _ _ _ _ _ _ h=>h.elim
structure uv (K:RW) (x qual:Str) (st:So) (f:RY) (fd:SV):Prop where
 ex:∃(oc:RU) (od:RT RY) (kV doc pm:RU) (an:RT RY) (cdv ct:RU) (osl:Array (RT RU)),
  fd=PySem.W.fnOf x qual (vf st) (uh st) (c6 st) .none kV doc pm an cdv ct/\K.lookup f=some ⟨oc,od,.func fd,osl⟩/\PySem.W.codeIn K cdv qual=true
 kp:PySem.W.keepIn K (.ref f)=true
section
variable{P:R9}{w:Sk}{K:RW}{mg:Str->RT RU}{base:Sq}
theorem uv.ok {x qual:Str} {st:So} {f:RY} {fd:SV} {N ps:List Str} {k:Nat} {sp:Sp} (F:uv K x qual st f fd) (S:c9 N ps (c6 st)) (len:∀ vs H Q E,sp vs H Q E->vs.length=ps.length)
    (hbody:∀(cdv:RU) (A:Sv) (outer:List Env) (s:RX) (H:Hp) (vs:List V) (Q:VK) (E:XK),ua k (A.deeper (envOfC qual (c6 st) s.heap.objs.size f cdv))->sp vs H Q E ->
      ∃t,PSs (yj ue P w K mg base N qual (c6 st) f cdv A outer s H E).nox (uh st) t/\t {nx:=fun _ H'=>Q .non H',rt:=Q} (start N vs) H):k6 P w K mg base ue (k+1) f fd ps sp:=by
  obtain⟨oc,od,kV,doc,pm,an,cdv,ct,osl,rfl,lk,hcd⟩:=F.ex
  refine rq lk hcd S len fun A outer s H vs Q E hr hsp=>?_
  obtain⟨t,h,q⟩:=hbody cdv A outer s H vs Q E hr hsp
  exact⟨t,h.nox,q⟩
theorem uv.binds{x qual:Str}{st:So}{f:RY}{fd:SV}{ps:List Str}(F:uv K x qual st f fd)
  (h:∀(kV doc pm:RU) (an:RT RY) (cdv ct:RU) (us:List RU),us.length=ps.length->bindArgs (PySem.W.fnOf x qual (vf st) (uh st) (c6 st) .none kV doc pm an cdv ct) ⟨us,[]⟩=pure (ps.zip us)):Binds K fd ps []:=by
 obtain⟨oc,od,kV,doc,pm,an,cdv,ct,osl,rfl,lk,hcd⟩:=F.ex
 exact .all (h kV doc pm an cdv ct)
theorem qF{x qual:Str}{st:So}{f:RY}{oc:RU}{od an:RT RY}{osl:Array (RT RU)}{kV doc pm cdv ct:RU}(l:K.lookup f=some ⟨oc,od,.func (PySem.W.fnOf x qual (vf st) (uh st) (c6 st) .none kV doc pm an cdv ct),osl⟩)
  (c:PySem.W.codeIn K cdv qual=true) (k:PySem.W.keepIn K (.ref f)=true):uv K x qual st f (PySem.W.fnOf x qual (vf st) (uh st) (c6 st) .none kV doc pm an cdv ct):=⟨⟨oc,od,kV,doc,pm,an,cdv,ct,osl,rfl,l,c⟩,k⟩
end
theorem yN{n:Nat}(h:n<=1000):n<sizeLine:=Tp h (by decide)
section
variable{X:Cx}
theorem pv(i:Nat){x:Str}{pos:Pos}(hN:X.N[i]?=some x:=by rfl)(hv:B0 X.env.scope x:=by first | exact Or.inl rfl | exact Or.inr (Or.inl rfl) | exact Or.inr (Or.inr rfl))(hd:(x==("__debug__" : Str))=false:=by decide)
  (hcd:(x==("__classdict__" : Str))=false:=by decide):PE X (.Name x pos) (MZ i):=ju hN hv hd hcd
end
def i6(H H':Hp):Prop:=∀b o,H b=some o->H' b=some o
theorem i6.refl(H:Hp):i6 H H:=fun _ _ h=>h
theorem i6.trans{H H1 H2:Hp}(a:i6 H H1)(b:i6 H1 H2):i6 H H2:=fun c o h=>b c o (a c o h)
theorem i6.free{H H':Hp}(e:i6 H H'){l:RY}(h:H' l=Option.none):H l=Option.none:=by
 cases q:H l with
 | none=>rfl
 | some o =>
  rw[e l o q] at h
  cases h
theorem i6.seq{K:RW}{H H':Hp}{a:RY}{xs:List V}(e:i6 H H')(h:wj K H a xs):wj K H' a xs:=by
 rcases h with (h | ⟨o,h⟩) | h
 ·exact .inl (.inl (e _ _ h))
 ·exact .inl (.inr ⟨o,e _ _ h⟩)
 ·exact .inr h
end L2
namespace HW
open PySem
inductive D where
 | non
 | bl (b:Bool)
 | int (i:Int)
 | str (x:Str)
 | tup (xs:List D)
 | lst (xs:List D)
 | fro (xs:List D)
 | obj (k a:Nat) (ks:List Str) (ds:List D)
 | rf (a:Nat)
 deriving Inhabited
abbrev R:=List (RT D)
abbrev OD:=RT D
abbrev LD:=List D
abbrev oS(x:String):Str:=Str.ofString x
@[simp] abbrev kI (n:Int):R->OD:=fun _=>some (.int n)
@[simp] abbrev kS (x:String):R->OD:=fun _=>some (.str (oS x))
inductive Out where
 | nx (ρ:R)
 | rt (d:D)
 | bk (ρ:R)
 | ct (ρ:R)
@[simp] noncomputable def MQ:D->RT Bool
 | .non=>some false
 | .bl b=>some b
 | .int i=>some (i != 0)
 | .str x=>if x.length<=sizeLine then some ((x.length:Int) != 0) else none
 | .tup xs=>some (!xs.isEmpty)
 | .lst xs=>some (!xs.isEmpty)
 | .fro xs=>some (!xs.isEmpty)
 | .obj ..=>none
 | .rf ..=>none
noncomputable def bI(b:Bool):Int:=if b then 1 else 0
def RI:D->RT Int
 | .int i=>some i
 | .bl b=>some (bI b)
 | _=>none
@[simp] noncomputable def nI:D->RT Int
 | .int i=>some i
 | _=>none
@[simp] def tI:D->RT LD
 | .tup xs=>some xs
 | _=>none
@[simp] def lI:D->RT LD
 | .lst xs=>some xs
 | _=>none
@[simp] def sI:D->RT Str
 | .str x=>some x
 | _=>none
@[simp] def bO:D->RT Bool
 | .bl b=>some b
 | _=>none
@[simp] def m9 (x y:D):OD:=match x with
 | .int i=>(nI y).map fun j=>.int (i+j)
 | .tup xs=>(tI y).bind fun ys=>if xs.length+ys.length<=sizeLine then some (.tup (xs++ys)) else none
 | .lst xs=>(lI y).bind fun ys=>if xs.length+ys.length<=sizeLine then some (.lst (xs++ys)) else none
 | .str x=>(sI y).bind fun y=>if x.length+y.length<=sizeLine then some (.str (x++y)) else none
 | _=>none
@[simp] def w9 (x y:D):OD:=(nI x).bind fun i=>(nI y).map fun j=>.int (i - j)
def uE(i j:Int):Bool:=(decide (-(2 ^ 64)<i)&&decide (i<2 ^ 64))||(decide (-(2 ^ 64)<j)&&decide (j<2 ^ 64))
@[simp] def yc (x y:D):OD:=(nI x).bind fun i=>(nI y).bind fun j=>if uE i j then some (.int (i*j)) else none
@[simp] def vV (x y:D):OD:=(nI x).bind fun i=>(nI y).bind fun j=>if 0<j/\j<1073741824 then some (.int (i / j)) else none
@[simp] def ui (x y:D):OD:=(nI x).bind fun i=>(nI y).bind fun j=>if 0<j then some (.int (i%j)) else none
@[simp] def DY (x:D):OD:=(nI x).map fun i=>.int (-i)
@[simp] def Ow (x y:D):RT Bool:=(nI x).bind fun i=>(nI y).map fun j=>decide (i<j)
@[simp] def LI (x y:D):RT Bool:=(nI x).bind fun i=>(nI y).map fun j=>decide (i<=j)
@[simp] def EF (x y:D):RT Bool:=(nI x).bind fun i=>(nI y).map fun j=>decide (j<i)
@[simp] def Nv (x y:D):RT Bool:=(nI x).bind fun i=>(nI y).map fun j=>decide (j<=i)
@[simp] def Ik (x y:D):RT Bool:=match x with
 | .int i=>(nI y).map fun j=>i==j
 | .str a=>(sI y).map fun b=>a==b
 | .bl a=>(bO y).map fun b=>a==b
 | _=>none
@[simp] def vY:D->D->RT Bool:=Ik
@[simp] def NC (x y:D):RT Bool:=(Ik x y).map (!·)
@[simp] noncomputable def J0:D->Bool
 | .non=>true
 | _=>false
@[simp] def zu (x y:D):RT Bool:=if J0 y then some (J0 x) else none
@[simp] def ww (x y:D):RT Bool:=(zu x y).map (!·)
def flat:D->Bool
 | .non=>true
 | .bl _=>true
 | .int _=>true
 | .str _=>true
 | _=>false
def PM:D->D->Bool
 | .non,.non=>true
 | .bl a,.bl b=>a==b
 | .bl a,.int b=>bI a==b
 | .int a,.bl b=>a==bI b
 | .int a,.int b=>a==b
 | .str a,.str b=>a==b
 | _,_=>false
@[simp] def Io:D->RT LD
 | .tup xs=>some xs
 | .lst xs=>some xs
 | .fro xs=>some xs
 | _=>none
mutual
def Ln:D->D->Bool
 | .non,.non=>true
 | .bl a,.bl b=>a==b
 | .bl a,.int b=>bI a==b
 | .int a,.bl b=>a==bI b
 | .int a,.int b=>a==b
 | .str a,.str b=>a==b
 | .tup xs,.tup ys=>B8 xs ys
 | .lst xs,.lst ys=>B8 xs ys
 | .lst xs,.fro ys=>B8 xs ys
 | .fro xs,.lst ys=>B8 xs ys
 | .fro xs,.fro ys=>B8 xs ys
 | _,_=>false
def B8:LD->LD->Bool
 | [],[]=>true
 | x::xs,y::ys=>Ln x y&&B8 xs ys
 | _,_=>false
end
mutual
def xq:D->Nat
 | .tup xs=>wa xs+1
 | .lst xs=>wa xs+1
 | .fro xs=>wa xs+1
 | _=>0
def wa:LD->Nat
 | []=>0
 | x::xs=>max (xq x) (wa xs)
end
mutual
def t4:D->Bool
 | .str x=>x.cps.all (·<0x110000)
 | .tup xs=>vv xs
 | .lst xs=>vv xs
 | .fro xs=>vv xs
 | .obj ..=>false
 | .rf ..=>false
 | _=>true
def vv:LD->Bool
 | []=>true
 | x::xs=>t4 x&&vv xs
end
mutual
def uC:D->Bool
 | .tup xs=>n5 xs
 | .lst xs=>n5 xs
 | .fro xs=>n5 xs
 | .obj ..=>false
 | .rf ..=>false
 | _=>true
def n5:LD->Bool
 | []=>true
 | x::xs=>uC x&&n5 xs
end
mutual
theorem bS:∀{d:D},t4 d=true->uC d=true
 | .non,_=>rfl
 | .bl _,_=>rfl
 | .int _,_=>rfl
 | .str _,_=>rfl
 | .tup xs,h=>gP (xs:=xs) h
 | .lst xs,h=>gP (xs:=xs) h
 | .fro xs,h=>gP (xs:=xs) h
 | .obj ..,h=>by cases h
 | .rf ..,h=>by cases h
theorem gP:∀{xs:LD},vv xs=true->n5 xs=true
 | [],_=>rfl
 | x::xs,h=>by
  have h':(t4 x&&vv xs)=true:=h
  rw[R1] at h'
  show(uC x&&n5 xs)=true
  rw[bS h'.1,gP h'.2];rfl
end
def yn(x y:D):RT Bool:=if xq x<=100/\t4 x=true/\t4 y=true then some (Ln x y) else none
def zj(x y:D):RT Bool:=(yn x y).map (!·)
noncomputable def OA(n:Nat)(i:Int):RT Nat:=if 0<=i then (if i<n then some i.toNat else none) else if -(n:Int)<=i then some (i+n).toNat else none
def H9(xs:LD)(i:Int):OD:=(OA xs.length i).bind fun j=>xs[j]?
@[simp] def i8:D->D->OD
 | .tup xs,.int i=>H9 xs i
 | .lst xs,.int i=>H9 xs i
 | .fro xs,.int i=>H9 xs i
 | .str x,.int i=>if x.length<=sizeLine then ((OA x.length i).bind fun j=>x.cps.toList[j]?).map fun c=>.str ⟨#[c]⟩ else none
 | _,_=>none
noncomputable def Hf(n d:Nat):RT Int->Nat
 | none=>d
 | some v=>if v<0 then (v+(n:Int)).toNat else min v.toNat n
def cutD(xs:LD)(lo hi:RT Int):LD:=(xs.drop (Hf xs.length 0 lo)).take (Hf xs.length xs.length hi - Hf xs.length 0 lo)
@[simp] def Pb:D->RT Int->RT Int->OD
 | .tup xs,lo,hi=>some (.tup (cutD xs lo hi))
 | .lst xs,lo,hi=>some (.lst (cutD xs lo hi))
 | _,_,_=>none
@[simp] def RC:D->RT (RT Int)
 | .int i=>some (some i)
 | _=>none
@[simp] noncomputable def Km:D->String
 | .non=>"NoneType"
 | .bl _=>"bool"
 | .int _=>"int"
 | .str _=>"str"
 | .tup _=>"tuple"
 | .lst _=>"list"
 | .fro _=>"list"
 | .obj ..=>"object"
 | .rf ..=>"object"
@[simp] def JV:D->Bool
 | .obj ..=>true
 | .rf ..=>true
 | _=>false
@[simp] def xF:D->Bool
 | .obj ..=>true
 | _=>false
@[simp] def LA (d:D) (n:String):Bool:=decide (Km d=n)||(decide (Km d = "bool")&&decide (n = "int"))
@[simp] def xi:LD->OD
 | [d]=>(Io d).map fun xs=>.int xs.length
 | _=>none
@[simp] def Re:LD->OD
 | [.tup xs]=>some (.lst xs)
 | [.lst xs]=>some (.lst xs)
 | _=>none
@[simp] def E2:LD->OD
 | [.tup xs]=>some (.tup xs)
 | [.lst xs]=>some (.tup xs)
 | _=>none
@[simp] def Fl:LD->OD
 | [.int i]=>if i.natAbs.log2<1920 then some (.str (toString i)) else none
 | _=>none
@[simp] def EU:LD->OD
 | [.int i,.int j]=>some (.int (if j > i then j else i))
 | _=>none
@[simp] def N5:LD->OD
 | [.int i]=>some (.int i)
 | [.bl b]=>some (.int (if b then 1 else 0))
 | _=>none
@[simp] def D_:LD->OD
 | [.lst []]=>some .non
 | [.lst [.int a]]=>some (.int a)
 | [.lst [.int a,.int b]]=>some (.int (if b > a then b else a))
 | _=>none
noncomputable def Ga(x:Str):RT Str:=if x=oS "a" then some (oS "A") else if x=oS "b" then some (oS "B") else if x=oS "c" then some (oS "C") else none
def PN:D->OD
 | .str x=>(Ga x).map .str
 | _=>none
def HI(ws:List Str):D->OD
 | .str x=>(ws.findIdx? (·==x)).map fun (j:Nat)=>.int (j:Int)
 | _=>none
def bools:LD->RT (List Bool)
 | []=>some []
 | .bl b::r=>(bools r).map (b::·)
 | _=>none
noncomputable def AA(st:D->R->RT R)(body:R->RT Out):LD->R->RT Out
 | [],ρ=>some (.nx ρ)
 | d::ds,ρ=>(st d ρ).bind fun ρ1=>(body ρ1).bind fun o=>match o with
  | .nx ρ2=>AA st body ds ρ2
  | .ct ρ2=>AA st body ds ρ2
  | .bk ρ2=>some (.nx ρ2)
  | .rt r=>some (.rt r)
noncomputable def vB(st:D->R->RT R)(c:R->RT Bool)(e:R->OD):LD->R->RT LD
 | [],_=>some []
 | d::ds,ρ=>(st d ρ).bind fun ρ1=>(c ρ1).bind fun b=>(if b then (e ρ1).map some else some none).bind fun x =>
   (vB st c e ds ρ).map fun r=>match x with
    | some y=>y::r
    | none=>r
@[simp] def l5 (f g:R->RT Out):R->RT Out:=fun ρ=>(f ρ).bind fun o=>match o with
 | .nx ρ2=>g ρ2
 | o=>some o
@[simp] noncomputable def c5 (i:Nat) (ρ:R):OD:=ρ.getD i none
@[simp] noncomputable def setAt (i:Nat) (d:D) (ρ:R):RT R:=if i<ρ.length then some (ρ.set i (some d)) else none
@[simp] def y3 (c:R->RT Bool) (f g:R->RT Out):R->RT Out:=fun ρ=>(c ρ).bind fun b=>if b then f ρ else g ρ
@[simp] def Bf (f g:R->OD):R->OD:=fun ρ=>(f ρ).bind fun x=>match x with
 | .bl true=>g ρ
 | .bl false=>some (.bl false)
 | _=>none
@[simp] def E_ (f:R->OD):R->OD:=fun ρ=>(f ρ).bind fun x=>match x with
 | .bl b=>some (.bl !b)
 | _=>none
@[simp] def AW (f g:R->RT Bool):R->RT Bool:=fun ρ=>(f ρ).bind fun b=>if b then g ρ else some false
@[simp] def C9 (f g:R->RT Bool):R->RT Bool:=fun ρ=>(f ρ).bind fun b=>if b then some true else g ρ
@[simp] def Fu (f:R->RT Bool):R->RT Bool:=fun ρ=>(f ρ).map (!·)
@[simp] def DD (c:R->RT Bool) (f g:R->OD):R->OD:=fun ρ=>(c ρ).bind fun b=>if b then f ρ else g ρ
@[simp] def i3 (F:D->D->OD) (f g:R->OD):R->OD:=fun ρ=>(f ρ).bind fun x=>(g ρ).bind fun y=>F x y
@[simp] def w8 (F:D->OD) (f:R->OD):R->OD:=fun ρ=>(f ρ).bind F
@[simp] def k7 (F:D->D->RT Bool) (f g:R->OD):R->RT Bool:=fun ρ=>(f ρ).bind fun x=>(g ρ).bind fun y=>F x y
@[simp] def CP (f:R->RT Bool):R->OD:=fun ρ=>(f ρ).map .bl
@[simp] def wY (f:R->OD):R->RT Bool:=fun ρ=>(f ρ).bind MQ
@[simp] def Q_ (n:String) (f:R->OD):R->OD:=fun ρ=>(f ρ).bind fun d=>if JV d then none else some (.bl (LA d n))
@[simp] def c7:R->RT LD:=fun _=>some []
@[simp] def c4 (f:R->OD) (g:R->RT LD):R->RT LD:=fun ρ=>(f ρ).bind fun d=>(g ρ).map fun ds=>d::ds
@[simp] def c8 (F:LD->OD) (g:R->RT LD):R->OD:=fun ρ=>(g ρ).bind F
@[simp] def l7 (g:R->RT LD):R->OD:=fun ρ=>(g ρ).map .tup
@[simp] def Ea (g:R->RT LD):R->OD:=fun ρ=>(g ρ).map .lst
@[simp] def Pe:R->RT (RT Int):=fun _=>some none
@[simp] def aP (f:R->OD):R->RT (RT Int):=fun ρ=>(f ρ).bind RC
@[simp] def LQ (f:R->OD) (l h:R->RT (RT Int)):R->OD:=fun ρ=>(f ρ).bind fun x=>(l ρ).bind fun a=>(h ρ).bind fun b=>Pb x a b
@[simp] def l4 (f:R->OD):R->RT Out:=fun ρ=>(f ρ).map .rt
@[simp] def l3 (f:R->OD) (st:D->R->RT R):R->RT Out:=fun ρ=>(f ρ).bind fun d=>(st d ρ).map .nx
@[simp] def uu:R->RT Out:=fun ρ=>some (.nx ρ)
@[simp] def Cs (it:R->RT LD) (st:D->R->RT R) (body:R->RT Out):R->RT Out:=fun ρ=>(it ρ).bind fun ds=>AA st body ds ρ
noncomputable def chars(x:Str):LD:=x.cps.toList.map fun c=>.str ⟨#[c]⟩
@[simp] def vt (f:R->OD):R->RT LD:=fun ρ=>(f ρ).bind fun d=>match d with
 | .tup xs=>some xs
 | .lst xs=>some xs
 | .str x=>if x.cps.all (·<128) then some (chars x) else none
 | _=>none
noncomputable def wQ(a b:Int):LD:=(List.range (b - a).toNat).map fun (k:Nat)=>D.int (a+(k:Int))
@[simp] def x6 (f:R->OD):R->RT LD:=fun ρ=>(f ρ).bind fun d=>match d with
 | .int j=>if -(2 ^ 62)<=j/\j<2 ^ 62 then some (wQ 0 j) else none
 | _=>none
def D5(k:Nat)(it:R->RT LD)(st:D->R->RT R)(c:R->RT Bool)(e:R->OD):R->OD:=fun ρ =>
 (it ρ).bind fun ds=>if ds.length<=sizeLine then (vB st c e ds (List.replicate k none++ρ)).map .lst else none
@[simp] def zd:R->RT Bool:=fun _=>some true
@[simp] def AO (n:Nat) (ds:LD):R:=ds.map some++List.replicate (n - ds.length) none
@[simp] def yr:RT Out->OD
 | some (.rt d)=>some d
 | some (.nx _)=>some .non
 | _=>none
@[simp] def z6 (u:R->RT Out):R->LD->RT (Out×LD):=fun ρ ds=>(u ρ).map fun o=>(o,ds)
@[simp] def B9 (i:Nat) (f:R->OD):R->LD->RT (Out×LD):=fun ρ ds=>(f ρ).bind fun d=>if ρ.length=i/\ds.length<sizeLine then some (.nx ρ,ds++[d]) else none
@[simp] def ER (i:Nat) (f:R->OD):R->LD->RT (Out×LD):=fun ρ ds=>(f ρ).bind fun d=>match d with
 | .lst es=>if ρ.length=i/\ds.length+es.length<=sizeLine then some (.nx ρ,ds++es) else none
 | _=>none
@[simp] def Av:R->LD->RT (Out×LD):=fun ρ ds=>some (.nx ρ,ds)
@[simp] def EV (p q:R->LD->RT (Out×LD)):R->LD->RT (Out×LD):=fun ρ ds=>(p ρ ds).bind fun r=>match r with
 | (.nx ρ2,ds2)=>q ρ2 ds2
 | r=>some r
@[simp] def Ju (c:R->RT Bool) (p q:R->LD->RT (Out×LD)):R->LD->RT (Out×LD):=fun ρ ds=>(c ρ).bind fun b=>if b then p ρ ds else q ρ ds
def BY(st:D->R->RT R)(p:R->LD->RT (Out×LD)):LD->R->LD->RT (Out×LD)
 | [],ρ,ds=>some (.nx ρ,ds)
 | d::es,ρ,ds=>(st d ρ).bind fun ρ1=>(p ρ1 ds).bind fun r=>match r with
  | (.nx ρ2,ds2)=>BY st p es ρ2 ds2
  | (.ct ρ2,ds2)=>BY st p es ρ2 ds2
  | (.bk ρ2,ds2)=>some (.nx ρ2,ds2)
  | r=>some r
@[simp] def Ia (it:R->RT LD) (st:D->R->RT R) (p:R->LD->RT (Out×LD)):R->LD->RT (Out×LD):=fun ρ ds=>(it ρ).bind fun es=>BY st p es ρ ds
@[simp] def GN (i:Nat) (F:R->RT LD) (q:R->LD->RT Out):R->RT Out:=fun ρ=>(F ρ).bind fun ds=>if ρ.length=i+1 then q (ρ.take i) ds else none
@[simp] def wB (p:R->LD->RT (Out×LD)) (q:R->LD->RT Out):R->LD->RT Out:=fun ρ ds=>(p ρ ds).bind fun r=>match r with
 | (.nx ρ2,ds2)=>q ρ2 ds2
 | (.rt d,_)=>some (.rt d)
 | _=>none
@[simp] def Ay (w:R->RT Out):R->LD->RT Out:=fun ρ ds=>w (ρ++[some (.lst ds)])
def NJ(i:Nat)(tab:List (Str×(LD->OD)))(f:R->OD)(g:(LD->OD)->R->RT Out):R->RT Out:=fun ρ=>(f ρ).bind fun d=>match d with
 | .str z=>(tab.lookup z).bind fun F=>if i<ρ.length then g F (ρ.set i none) else none
 | _=>none
def via(k n:Nat)(g:R->RT Out)(ds:LD):OD:=if ds.length=k then yr (g (AO n ds)) else none
theorem oB{k n:Nat}{g:R->RT Out}{ds:LD}{d:D}(h:via k n g ds=some d):ds.length=k:=by
 unfold via at h
 split at h
 ·assumption
 ·cases h
theorem sF{k n:Nat}{g:R->RT Out}{ds:LD}{d:D}(h:via k n g ds=some d):yr (g (AO n ds))=some d:=by
 unfold via at h
 split at h
 ·exact h
 ·cases h
theorem Co{i j:Int}(h1 : -(2 ^ 64)<j)(h2:j<2 ^ 64):uE i j=true:=by unfold uE;rw[S9 h1,S9 h2];simp
theorem vJ{i j:Int}(h1 : -(2 ^ 64)<i)(h2:i<2 ^ 64):uE i j=true:=by unfold uE;rw[S9 h1,S9 h2];simp
theorem Bi{st:D->R->RT R}{body:R->RT Out}(P:Nat->R->Prop):∀(ds:LD) (k:Nat) (ρ0:R),P k ρ0->(∀i d ρ,ds[i]?=some d->P (k+i) ρ->∃ ρ1 ρ2,st d ρ=some ρ1/\body ρ1=some (.nx ρ2)/\P (k+i+1) ρ2) ->
  ∃ ρ',AA st body ds ρ0=some (.nx ρ')/\P (k+ds.length) ρ'
 | [],k,ρ0,h0,_=>⟨ρ0,rfl,h0⟩
 | d::ds,k,ρ0,h0,hs=>by
  obtain⟨ρ1,ρ2,h1,h2,h3⟩:=hs 0 d ρ0 rfl h0
  obtain⟨ρ',h4,h5⟩:=Bi P ds (k+1) ρ2 h3 fun i d' ρ e p=>by
   have q:=hs (i+1) d' ρ (by simpa using e) (by rw[show k+(i+1)=k+1+i by omega];exact p)
   rw[show k+(i+1)+1=k+1+i+1 by omega] at q
   exact q
  refine⟨ρ',?_,?_⟩
  ·simp[AA,h1,h2,h4]
  ·rw[show k+(d::ds).length=k+1+ds.length by simp;omega];exact h5
theorem oQ{n:Int}{i:Nat}{d:D}(e:(wQ 0 n)[i]?=some d):d=.int i/\(i:Int)<n:=by
 unfold wQ at e
 rw[SX] at e
 cases q:(List.range (n - 0).toNat)[i]? with
 | none=>rw[q] at e;cases e
 | some k =>
  rw[q] at e
  obtain⟨h1,h2⟩:=Sg.mp q
  simp at h1 h2
  subst h2
  have e':D.int (0+(i:Int))=d:=Si e
  rw[Ts] at e'
  exact⟨e'.symm,by omega⟩
theorem lu(n:Int):(wQ 0 n).length=n.toNat:=by simp[wQ]
theorem zZ{xs:LD}{i:Int}(h0:0<=i)(h1:i<xs.length):∃x,x∈xs/\H9 xs i=some x:=by
 have h2:i.toNat<xs.length:=by omega
 refine⟨xs[i.toNat],List.getElem_mem h2,?_⟩
 unfold H9 OA
 rw[R3 h0,R3 h1]
 simp[h2]
inductive Fits:D->Prop
 | non:Fits .non
 | bl (b:Bool):Fits (.bl b)
 | int (i:Int):Fits (.int i)
 | str (x:Str):Fits (.str x)
 | tup {xs:LD}:xs.length<=1000->(∀x∈xs,Fits x)->Fits (.tup xs)
end HW
set_option maxHeartbeats 1000000
namespace HW
open PySem PySem.Spec PyProof.Rows L2
def Pa(x:Str):It:=⟨fun i _=>i<x.cps.size,fun i H v H'=>H'=H/\∃c,x.cps[i]?=some c/\v=.str ⟨#[c]⟩,fun i _=>x.cps.size<=i⟩
theorem Iy{P:R9}{w:Sk}{K:RW}{tg:Sr}(it:RY)(x:Str)(t:Tok):Turn P w K tg (Pa x) [it] it (fun i h=>h.IsStrIter it "str_ascii_iterator" x t i) where
 mem:=by simp
 obj:=fun i h st b hb=>by
  have e:b=it:=by simpa using hb
  subst e
  obtain⟨o,e,c,d⟩:=st
  exact⟨o,e,fun v z=>by rw[d] at z;cases z⟩
 keep:=fun i h h' st k=>by
  obtain⟨o,e,r⟩:=st
  exact⟨o,k it (by simp) o e,r⟩
 item:=by
  intro X hP hw hK hc i pins s σ H E I hf st hg
  subst hP hw hK
  have hg':i<x.cps.size:=hg
  obtain⟨f0,f1,f2,f3,f4,f5⟩:=hf it (by simp)
  refine wpAny_pyNext_ascii_item st (c:=x.cps[i]) (by simp[hg']) fun h' st' sb=>?_
  have I1:L2.Inv X pins σ H {s with heap:=h',toks:=s.toks+1}:=I.turned (t':=s.toks+1) (fun b o hb e=>(sb.2 b hb).trans e) f0 f1 f3 f4 f5
  obtain⟨o,e,c,d⟩:=id st'
  exact⟨_,rfl,FV (s:={s with heap:=h',toks:=s.toks+1}) e c d (by decide) ⟨.str ⟨#[x.cps[i]]⟩,H,I1,⟨_,rfl⟩,⟨rfl,_,by simp[hg'],rfl⟩,st',fun b hb=>(hf b hb).1⟩⟩
 done:=by
  intro X hP hw hK hc i pins s σ H E I hf st hg
  subst hP hw hK
  have hg':x.cps.size<=i:=hg
  obtain⟨f0,f1,f2,f3,f4,f5⟩:=hf it (by simp)
  exact wpAny_pyNext_ascii_end (I.ok.hd hc) st (by simp;omega) fun h' eb=>⟨rfl,I.turned (t':=s.toks) (fun b o hb e=>eb b o hb e) f0 f1 f3 f4 f5⟩
 self:=fun _ _ _ _ _ st h=>wpAny_pyIter_striter_ascii st h
def KI(H:Hp)(k a:Nat)(ks:List Str)(vs:List V):Prop:=match k with
 | 0=>vs.length<=sizeLine/\∃(its:List RU) (n:Nat),l6 vs its/\H a=some (.frz {cls:=.type "list",data:=.seq its.toArray n} (.own 0))
 | 1=>ks.length=vs.length/\H a=some (.dK ((ks.map Sum.inr).zip vs))
 | C+2=>ks.length=vs.length/\∃dx,H a=some (.ins C dx (ks.zip vs))
theorem KI.to{H H':Hp}{k a:Nat}{ks:List Str}{vs:List V}(h:KI H k a ks vs)(e:∀u,H a=some u->(∀ φ,u≠.ext φ)->H' a=some u):KI H' k a ks vs:=by
 match k,h with
 | 0,⟨z,its,n,r,q⟩=>exact⟨z,its,n,r,e _ q fun φ z=>by cases z⟩
 | 1,⟨z,q⟩=>exact⟨z,e _ q fun φ z=>by cases z⟩
 | C+2,⟨z,dx,q⟩=>exact⟨z,dx,e _ q fun φ z=>by cases z⟩
mutual
def Rep(K:RW)(H:Hp):D->V->Prop
 | .non,v=>v=.non
 | .bl b,v=>v=.bl b
 | .int i,v=>v=.int i
 | .str x,v=>v=.str x
 | .tup ds,v=>∃a xs,v=.ref a/\xn K H a xs/\i5 K H ds xs
 | .lst ds,v=>∃a xs,v=.ref a/\H a=some (.lst xs)/\i5 K H ds xs
 | .fro ds,v=>∃a xs,v=.ref a/\wj K H a xs/\i5 K H ds xs
 | .obj k a ks ds,v=>∃xs,v=.ref a/\KI H k a ks xs/\i5 K H ds xs
 | .rf a,v=>v=.ref a
def i5(K:RW)(H:Hp):LD->List V->Prop
 | [],vs=>vs=[]
 | d::ds,vs=>∃v r,vs=v::r/\Rep K H d v/\i5 K H ds r
end
theorem O0{K:RW}{H H':Hp}{a:RY}{xs:List V}(e:i6 H H')(h:xn K H a xs):xn K H' a xs:=by
 rcases h with (h | ⟨o,h⟩) | h
 ·exact .inl (.inl (e _ _ h))
 ·exact .inl (.inr ⟨o,e _ _ h⟩)
 ·exact .inr h
mutual
theorem Rep.mono{K:RW}{H H':Hp}(s:i6 H H'):∀{d:D} {v:V},Rep K H d v->Rep K H' d v
 | .non,_,h=>h
 | .bl _,_,h=>h
 | .int _,_,h=>h
 | .str _,_,h=>h
 | .tup ds,_,h=>by
  obtain⟨a,xs,e,q,r⟩:=h
  exact⟨a,xs,e,O0 s q,i5.mono s r⟩
 | .lst ds,_,h=>by
  obtain⟨a,xs,e,q,r⟩:=h
  exact⟨a,xs,e,s _ _ q,i5.mono s r⟩
 | .fro ds,_,h=>by
  obtain⟨a,xs,e,q,r⟩:=h
  exact⟨a,xs,e,s.seq q,i5.mono s r⟩
 | .obj k a ks ds,_,h=>by
  obtain⟨xs,e,q,r⟩:=h
  exact⟨xs,e,q.to fun u z _=>s _ u z,i5.mono s r⟩
 | .rf _,_,h=>h
theorem i5.mono{K:RW}{H H':Hp}(s:i6 H H'):∀{ds:LD} {vs:List V},i5 K H ds vs->i5 K H' ds vs
 | [],_,h=>h
 | d::ds,_,h=>by
  obtain⟨v,r,e,q,t⟩:=h
  exact⟨v,r,e,Rep.mono s q,i5.mono s t⟩
end
section
variable{K:RW}{H:Hp}
theorem i5.length:∀{ds:LD} {vs:List V},i5 K H ds vs->ds.length=vs.length
 | [],_,h=>by cases (show _=[] from h);rfl
 | d::ds,_,h=>by
  obtain⟨v,r,e,q,t⟩:=h
  subst e
  simp[i5.length t]
theorem i5.get:∀{ds:LD} {vs:List V} {i:Nat} {d:D},i5 K H ds vs->ds[i]?=some d->∃v,vs[i]?=some v/\Rep K H d v
 | [],_,_,_,_,e=>by simp at e
 | d::ds,_,0,_,h,e=>by
  obtain⟨v,r,e',q,t⟩:=h
  subst e'
  simp at e
  subst e
  exact⟨v,by simp,q⟩
 | d::ds,_,i+1,_,h,e=>by
  obtain⟨v,r,e',q,t⟩:=h
  subst e'
  obtain⟨u,h1,h2⟩:=i5.get (i:=i) t (by simpa using e)
  exact⟨u,by simpa using h1,h2⟩
theorem i5.append:∀{ds es:LD} {vs us:List V},i5 K H ds vs->i5 K H es us->i5 K H (ds++es) (vs++us)
 | [],_,_,_,h,t=>by cases (show _=[] from h);exact t
 | d::ds,_,_,_,h,t=>by
  obtain⟨v,r,e',q,t'⟩:=h
  subst e'
  exact⟨v,_,rfl,q,i5.append t' t⟩
theorem i5.drop:∀(n:Nat) {ds:LD} {vs:List V},i5 K H ds vs->i5 K H (ds.drop n) (vs.drop n)
 | 0,_,_,h=>by simpa using h
 | n+1,[],_,h=>by cases (show _=[] from h);exact rfl
 | n+1,d::ds,_,h=>by
  obtain⟨v,r,e',q,t'⟩:=h
  subst e'
  simpa using i5.drop n t'
theorem i5.take:∀(n:Nat) {ds:LD} {vs:List V},i5 K H ds vs->i5 K H (ds.take n) (vs.take n)
 | 0,_,_,h=>by simp only[List.take_zero];exact rfl
 | n+1,[],_,h=>by cases (show _=[] from h);exact rfl
 | n+1,d::ds,_,h=>by
  obtain⟨v,r,e',q,t'⟩:=h
  subst e'
  rw[List.take_succ_cons,List.take_succ_cons]
  exact⟨v,_,rfl,q,i5.take n t'⟩
theorem i5.one{d:D}{v:V}(h:Rep K H d v):i5 K H [d] [v]:=⟨v,[],rfl,h,rfl⟩
theorem i5.nil:i5 K H [] []:=rfl
theorem i5.cons{d:D}{v:V}{ds:LD}{vs:List V}(h:Rep K H d v)(t:i5 K H ds vs):i5 K H (d::ds) (v::vs):=⟨v,vs,rfl,h,t⟩
theorem i5.reverse:∀{ds:LD} {vs:List V},i5 K H ds vs->i5 K H ds.reverse vs.reverse
 | [],_,h=>by cases (show _=[] from h);exact rfl
 | d::ds,_,h=>by
  obtain⟨v,r,e',q,t'⟩:=h
  subst e'
  rw[List.reverse_cons,List.reverse_cons]
  exact i5.append (i5.reverse t') (i5.one q)
def ut(K:RW)(H:Hp)(ρ:R)(σ:L2.St):Prop:=ρ.length<=σ.length/\∀(i:Nat) (d:D),ρ[i]?=some (some d)->∃v,σ[i]?=some (some v)/\Rep K H d v
theorem ut.mono{H':Hp}{ρ:R}{σ:L2.St}(e:ut K H ρ σ)(s:i6 H H'):ut K H' ρ σ:=⟨e.1,fun i d h=>let ⟨v,a,b⟩:=e.2 i d h;⟨v,a,b.mono s⟩⟩
theorem ut.at{ρ:R}{σ:L2.St}(e:ut K H ρ σ){i:Nat}{d:D}(h:c5 i ρ=some d):∃v,σ[i]?=some (some v)/\Rep K H d v:=by
 refine e.2 i d ?_
 unfold c5 at h
 rw[SJ] at h
 cases q:ρ[i]? with
 | none=>rw[q] at h;cases h
 | some o=>rw[q] at h;cases (show o=some d from h);rfl
theorem ut.set{ρ:R}{σ:L2.St}(e:ut K H ρ σ){i:Nat}{d:D}{v:V}(r:Rep K H d v):ut K H (ρ.set i (some d)) (σ.set i (some v)):=by
 refine⟨by simpa using e.1,fun j c h=>?_⟩
 by_cases hj:i=j
 ·subst hj
  by_cases hi:i<ρ.length
  ·rw[SH hi] at h
   cases h
   exact⟨v,by rw[SH (R8 hi e.1)],r⟩
  ·rw[Te (by simpa using hi)] at h
   cases h
 ·rw[SM hj] at h ⊢
  exact e.2 j c h
theorem ut.front{ρ:R}{σ:L2.St}(e:ut K H ρ σ)(k:Nat)(τ:L2.St)(hk:τ.length=k):ut K H (List.replicate k none++ρ) (τ++σ):=by
 subst hk
 refine⟨by simpa using e.1,fun i d h=>?_⟩
 by_cases hi:i<τ.length
 ·rw[SZ (by simpa using hi),List.getElem?_replicate] at h
  split at h<;>cases h
 ·rw[Sy (by simpa using hi),List.length_replicate] at h
  rw[Sy (by simpa using hi)]
  exact e.2 _ d h
end
def uq(K:RW)(H:Hp)(ρ:R)(τ:L2.St)(σ:L2.St):Prop:=ut K H ρ σ/\σ.drop ρ.length=τ
theorem ut.t{K:RW}{H:Hp}{ρ:R}{σ:L2.St}(e:ut K H ρ σ):uq K H ρ (σ.drop ρ.length) σ:=⟨e,rfl⟩
theorem uq.mono{K:RW}{H H':Hp}{ρ:R}{τ σ:L2.St}(e:uq K H ρ τ σ)(s:i6 H H'):uq K H' ρ τ σ:=⟨e.1.mono s,e.2⟩
theorem uq.set{K:RW}{H:Hp}{ρ:R}{τ σ:L2.St}(e:uq K H ρ τ σ){i:Nat}{d:D}{v:V}(hi:i<ρ.length)(r:Rep K H d v):uq K H (ρ.set i (some d)) τ (σ.set i (some v)):=by
 refine⟨e.1.set r,?_⟩
 rw[S4,List.drop_set_of_lt hi]
 exact e.2
section
variable(K:RW)
def tD(f:R->OD):TE:=fun σ H Q=>∃ ρ d,ut K H ρ σ/\f ρ=some d/\∀v H',i6 H H'->Rep K H' d v->Q v H'
def NP(f:R->RT Bool):TT:=fun σ H Q=>∃ ρ b,ut K H ρ σ/\f ρ=some b/\∀H',i6 H H'->Q b H'
def Oq(f:R->RT LD):TA:=fun σ H Q=>∃ ρ ds,ut K H ρ σ/\f ρ=some ds/\∀vs H',i6 H H'->i5 K H' ds vs->Q vs H'
def RG(f:R->RT (RT Int)):TO:=fun σ H Q=>∃ ρ o,ut K H ρ σ/\f ρ=some o/\∀H',i6 H H'->Q o H'
def fin(E:Ends)(τ:L2.St)(o:Out)(H':Hp):Prop:=
 match o with
 | .nx ρ=>∀ σ,uq K H' ρ τ σ->E.nx σ H'
 | .rt d=>∀v,Rep K H' d v->E.rt v H'
 | .bk ρ=>∀ σ,uq K H' ρ τ σ->E.bk σ H'
 | .ct ρ=>∀ σ,uq K H' ρ τ σ->E.ct σ H'
def Lf(f:R->RT Out):TS:=fun E σ H=>∃ ρ τ o,uq K H ρ τ σ/\f ρ=some o/\∀H',i6 H H'->fin K E τ o H'
def Ru(st:D->R->RT R):TG:=fun v σ H Q=>∃ ρ τ d ρ',uq K H ρ τ σ/\Rep K H d v/\st d ρ=some ρ'/\∀ σ' H',i6 H H'->uq K H' ρ' τ σ'->Q σ' H'
def Kp(H H':Hp):Prop:=∀b u,H b=some u->(∀ φ,u≠.ext φ)->H' b=some u
def wW(J:It)(ds:LD)(H:Hp):Prop:=
 (∀(i:Nat) (d:D) (H2:Hp),Kp H H2->ds[i]?=some d->J.go i H2/\∀x H3,J.yld i H2 x H3->i6 H2 H3/\Rep K H3 d x)/\∀(i:Nat) (H2:Hp),Kp H H2->ds.length<=i->J.stop i H2
def RP(f:R->RT LD):TI:=fun σ H W=>∃ ρ ds,ut K H ρ σ/\f ρ=some ds/\∀J H',i6 H H'->wW K J ds H'->W J H'
def uP(F:LD->OD):Sp:=fun vs H Q _=>∃ds d,i5 K H ds vs/\F ds=some d/\∀v H',i6 H H'->Rep K H' d v->Q v H'
end
def SE(X:Cx)(e:Sr)(f:R->OD):Prop:=PE X e (tD X.K f)
def ST(X:Cx)(e:Sr)(f:R->RT Bool):Prop:=PT X e (NP X.K f)
def SW(X:Cx)(e:Sr)(f:R->RT Bool):Prop:=PW X e (NP X.K f)
def noStar:Sr->Bool
 | .Starred _ _=>false
 | _=>true
theorem aF{e:Sr}(es:List Sr)(env:Env)(h:noStar e=true):starEach (e::es) env=(false,eval e env)::starEach es env:=by
 cases e<;>first | rfl | cases h
theorem bv{pos:Pos}{env:Env}:∀{es:List Sr},es.all noStar=true->(backTo pos (starEach es env)).any (·.1)=false
 | [],_=>rfl
 | e::es,h=>by
  rw[SL,R1] at h
  rw[aF es env h.1]
  show(false||(backTo pos (starEach es env)).any (·.1))=false
  rw[bv h.2]
  rfl
def SA(X:Cx)(es:List Sr)(f:R->RT LD):Prop:=PA X es (Oq X.K f)/\(∀ ρ ds,f ρ=some ds->ds.length=es.length)/\es.all noStar=true
def SO(X:Cx)(e:RT Sr)(f:R->RT (RT Int)):Prop:=PO X e (RG X.K f)
def S1(X:Cx)(s:So)(f:R->RT Out):Prop:=PS X s (Lf X.K f)
def SS(X:Cx)(s:List So)(f:R->RT Out):Prop:=PSs X s (Lf X.K f)
def SG(X:Cx)(e:Sr)(st:D->R->RT R):Prop:=PG X e (Ru X.K st)
def SI(X:Cx)(tg iter:Sr)(f:R->RT LD):Prop:=PI X tg iter (RP X.K f)
section
variable{X:Cx}{e a b c:Sr}{es:List Sr}{pos p:Pos}
theorem _root_.L2.PE.imp{t t':TE}(h:PE X e t)(hi:∀ σ H Q,t' σ H Q->t σ H Q):PE X e t':=fun pins s σ H Q I q=>h pins s σ H Q I (hi σ H Q q)
theorem _root_.L2.PT.imp{t t':TT}(h:PT X e t)(hi:∀ σ H Q,t' σ H Q->t σ H Q):PT X e t':=fun pins s σ H Q I q=>h pins s σ H Q I (hi σ H Q q)
theorem _root_.L2.PW.imp{t t':TT}(h:PW X e t)(hi:∀ σ H Q,t' σ H Q->t σ H Q):PW X e t':=fun wh pins s σ H Q I q=>h wh pins s σ H Q I (hi σ H Q q)
theorem _root_.L2.PA.imp{t t':TA}(h:PA X es t)(hi:∀ σ H Q,t' σ H Q->t σ H Q):PA X es t':=fun pos pins s σ H Q I q=>h pos pins s σ H Q I (hi σ H Q q)
theorem _root_.L2.PO.imp{e:RT Sr}{t t':TO}(h:PO X e t)(hi:∀ σ H Q,t' σ H Q->t σ H Q):PO X e t':=fun pins s σ H Q I q=>h pins s σ H Q I (hi σ H Q q)
theorem _root_.L2.PS.imp{s:So}{t t':TS}(h:PS X s t)(hi:∀E σ H,t' E σ H->t E σ H):PS X s t':=fun pins s σ H E I q=>h pins s σ H E I (hi E σ H q)
theorem _root_.L2.PSs.imp{s:List So}{t t':TS}(h:PSs X s t)(hi:∀E σ H,t' E σ H->t E σ H):PSs X s t':=fun pins s σ H E I q=>h pins s σ H E I (hi E σ H q)
theorem _root_.L2.PG.imp{t t':TG}(h:PG X e t)(hi:∀v σ H Q,t' v σ H Q->t v σ H Q):PG X e t':=fun pins s σ H v u Q I r q=>h pins s σ H v u Q I r (hi v σ H Q q)
theorem _root_.L2.PGs.imp{t t':QT}(h:PGs X es t)(hi:∀v σ H Q,t' v σ H Q->t v σ H Q):PGs X es t':=fun pins s σ H v u Q I r q=>h pins s σ H v u Q I r (hi v σ H Q q)
theorem _root_.L2.PI.imp{tg:Sr}{t t':TI}(h:PI X tg e t)(hi:∀ σ H Q,t' σ H Q->t σ H Q):PI X tg e t':=fun pins s σ H W I q=>h pins s σ H W I (hi σ H W q)
theorem h9{α β:Type}{o:RT α}{f:α->RT β}{y:β}(h:o.bind f=some y):∃x,o=some x/\f x=some y:=by
 cases o with
 | none=>cases h
 | some x=>exact⟨x,rfl,h⟩
theorem t7{α β:Type}{o:RT α}{f:α->β}{y:β}(h:o.map f=some y):∃x,o=some x/\f x=y:=by
 cases o with
 | none=>cases h
 | some x=>exact⟨x,rfl,Si h⟩
theorem ad(i:Nat){x:Str}(hN:X.N[i]?=some x:=by rfl)(hv:B0 X.env.scope x:=by first | exact Or.inl rfl | exact Or.inr (Or.inl rfl) | exact Or.inr (Or.inr rfl))(hd:(x==("__debug__" : Str))=false:=by decide)
  (hcd:(x==("__classdict__" : Str))=false:=by decide):SE X (.Name x pos) (c5 i):=(ju hN hv hd hcd).imp fun σ H Q ⟨ρ,d,er,e,q⟩=>by
 obtain⟨v,h1,h2⟩:=er.at e
 exact⟨v,h1,q v H (i6.refl H) h2⟩
theorem ae{i j}:SE X (.Constant (.int i) j pos) (kI i):=LL.imp fun σ H Q ⟨ρ,d,er,e,q⟩=>by
 cases e
 exact q _ H (i6.refl H) rfl
theorem dG{b j}:SE X (.Constant (.bool b) j pos) (fun _=>some (.bl b)):=NN.imp fun σ H Q ⟨ρ,d,er,e,q⟩=>by
 cases e
 exact q _ H (i6.refl H) rfl
theorem aR{j}:SE X (.Constant .none j pos) (fun _=>some .non):=MT.imp fun σ H Q ⟨ρ,d,er,e,q⟩=>by
 cases e
 exact q _ H (i6.refl H) rfl
theorem aA{x j}:SE X (.Constant (.str x) j pos) (fun _=>some (.str x)):=H_.imp fun σ H Q ⟨ρ,d,er,e,q⟩=>by
 cases e
 exact q _ H (i6.refl H) rfl
def uZ(K:RW)(mg:Str->RT RU)(x:Str)(d:D):Prop:=∃u v,mg x=some u/\RelV v u/\∀H,Rep K H d v
theorem av{x:Str}{d:D}(h:uZ X.K X.mg x d)(hg:Gl X x:=by rfl)(hd:(x==("__debug__" : Str))=false:=by decide):SE X (.Name x pos) (fun _=>some d):=by
 obtain⟨u,v,hm,r,hr⟩:=h
 exact(lQ hg hm r hd).imp fun σ H Q ⟨ρ,d',er,e,q⟩=>by
  cases e
  exact q v H (i6.refl H) (hr H)
def Ny(X:Cx)(f:RU->RU->Sem RU)(F:D->D->OD):Prop:=
 OpR X f fun x y H Q=>∃dx dy d,Rep X.K H dx x/\Rep X.K H dy y/\F dx dy=some d/\∀v H',i6 H H'->Rep X.K H' d v->Q v H'
def EH(X:Cx)(op:CmpOp)(F:D->D->RT Bool):Prop:=
 OpR X (compareOp op) fun x y H Q=>∃dx dy b,Rep X.K H dx x/\Rep X.K H dy y/\F dx dy=some b/\Q (.bl b) H
def Q9(X:Cx)(f:RU->Sem RU)(F:D->OD):Prop:=
 UnR X f fun x H Q=>∃dx d,Rep X.K H dx x/\F dx=some d/\∀v H',i6 H H'->Rep X.K H' d v->Q v H'
def LO(X:Cx)(f:RU)(F:LD->OD):Prop:=
 CallR X f fun xs H Q=>∃ds d,i5 X.K H ds xs/\F ds=some d/\∀v H',i6 H H'->Rep X.K H' d v->Q v H'
theorem _root_.L2.OpR.imp{f:RU->RU->Sem RU}{r r':R2}(h:OpR X f r)(hi:∀x y H Q,r' x y H Q->r x y H Q):OpR X f r':=fun pins s σ H x y v u Q I rx ry q=>h pins s σ H x y v u Q I rx ry (hi x y H Q q)
theorem _root_.L2.UnR.imp{f:RU->Sem RU}{r r':V->Hp->VK->Prop}(h:UnR X f r)(hi:∀x H Q,r' x H Q->r x H Q):UnR X f r':=fun pins s σ H x v Q I rx q=>h pins s σ H x v Q I rx (hi x H Q q)
theorem _root_.L2.CallR.imp{f:RU}{r r':List V->Hp->VK->Prop}(h:CallR X f r)(hi:∀x H Q,r' x H Q->r x H Q):CallR X f r':=fun pins s σ H xs us Q I rx q=>h pins s σ H xs us Q I rx (hi xs H Q q)
variable{f g h:R->OD}
theorem two{σ:L2.St}{H:Hp}{Q:VK}{F:D->D->OD}(q:tD X.K (i3 F f g) σ H Q) :
  tD X.K f σ H fun x H1=>tD X.K g σ H1 fun y H2=>∃dx dy d,Rep X.K H2 dx x/\Rep X.K H2 dy y/\F dx dy=some d/\∀v H',i6 H2 H'->Rep X.K H' d v->Q v H':=by
 obtain⟨ρ,d,er,e,q⟩:=q
 obtain⟨x,e1,e⟩:=h9 e
 obtain⟨y,e2,e⟩:=h9 e
 exact⟨ρ,x,er,e1,fun v H1 s1 r1=>⟨ρ,y,er.mono s1,e2,fun u H2 s2 r2=>⟨x,y,d,r1.mono s2,r2,e,fun w H3 s3 r3=>q w H3 (s1.trans (s2.trans s3)) r3⟩⟩⟩
theorem al{op:Operator}{F:D->D->OD}(ho:Ny X (binaryOp op) F)(ha:SE X a f)(hb:SE X b g):SE X (.BinOp a op b pos) (i3 F f g):=(tW ho ha hb).imp fun σ H Q q=>two q
theorem qO{op:UnaryOp}{F:D->OD}(ho:Q9 X (unaryOp op) F)(ha:SE X a f):SE X (.UnaryOp op a pos) (w8 F f):=(tR ho ha).imp fun σ H Q ⟨ρ,d,er,e,q⟩=>by
 obtain⟨x,e1,e⟩:=h9 e
 exact⟨ρ,x,er,e1,fun v H1 s1 r1=>⟨x,d,r1,e,fun w H2 s2 r2=>q w H2 (s1.trans s2) r2⟩⟩
theorem QI{σ:L2.St}{H:Hp}{Q:Bool->Hp->Prop}{F:D->D->RT Bool}(q:NP X.K (k7 F f g) σ H Q) :
  tD X.K f σ H fun x H1=>tD X.K g σ H1 fun y H2=>∃dx dy b,Rep X.K H2 dx x/\Rep X.K H2 dy y/\F dx dy=some b/\Q b H2:=by
 obtain⟨ρ,d,er,e,q⟩:=q
 obtain⟨x,e1,e⟩:=h9 e
 obtain⟨y,e2,e⟩:=h9 e
 exact⟨ρ,x,er,e1,fun v H1 s1 r1=>⟨ρ,y,er.mono s1,e2,fun u H2 s2 r2=>⟨x,y,d,r1.mono s2,r2,e,q H2 (s1.trans s2)⟩⟩⟩
theorem LZ{σ:L2.St}{H:Hp}{Q:VK}{f:R->RT Bool}(q:tD X.K (CP f) σ H Q):NP X.K f σ H fun b H'=>Q (.bl b) H':=by
 obtain⟨ρ,d,er,e,q⟩:=q
 obtain⟨x,e1,e⟩:=t7 e
 subst e
 exact⟨ρ,x,er,e1,fun H1 s1=>q _ H1 s1 rfl⟩
theorem cD{op:CmpOp}{F:D->D->RT Bool}(ho:EH X op F)(ha:SE X a f)(hb:SE X b g)(hm:behindInMarks op b=false:=by first | exact Dn _ | with_unfolding_all rfl) :
  SE X (.Compare a [op] [b] pos) (CP (k7 F f g)):=(si ho ha hb hm).imp fun σ H Q q=>QI (LZ q)
theorem aE{op:CmpOp}{F:D->D->RT Bool}(ho:EH X op F)(ha:SE X a f)(hb:SE X b g)(hm:behindInMarks op b=false:=by first | exact Dn _ | with_unfolding_all rfl) :
  ST X (.Compare a [op] [b] pos) (k7 F f g):=(lM ho ha hb hm).imp fun σ H Q q=>by
 obtain⟨ρ,d,er,e,q⟩:=q
 obtain⟨x,e1,e⟩:=h9 e
 obtain⟨y,e2,e⟩:=h9 e
 exact⟨ρ,x,er,e1,fun v H1 s1 r1=>⟨ρ,y,er.mono s1,e2,fun u H2 s2 r2=>⟨x,y,d,r1.mono s2,r2,e,d,rfl,q H2 (s1.trans s2)⟩⟩⟩
theorem JJ{H:Hp}{d:D}{v:V}{b:Bool}{K:RW}(r:Rep K H d v)(e:MQ d=some b):Mt K v H b:=by
 cases d with
 | non=>cases (show v=_ from r);cases e;exact rfl
 | bl c=>cases (show v=_ from r);cases e;exact rfl
 | int i=>cases (show v=_ from r);cases e;exact rfl
 | str x =>
  cases (show v=_ from r)
  unfold MQ at e
  dsimp only at e
  split at e
  ·rename_i hx
   cases e
   exact⟨hx,rfl⟩
  ·cases e
 | tup ds =>
  obtain⟨a,xs,rfl,q,t⟩:=r
  cases e
  refine .inr (.inl ⟨xs,q,?_⟩)
  cases ds with
  | nil=>cases (show xs=[] from t);rfl
  | cons d ds=>obtain⟨_,_,rfl,_⟩:=t;rfl
 | lst ds =>
  obtain⟨a,xs,rfl,q,t⟩:=r
  cases e
  refine .inl ⟨xs,wj.of q,?_⟩
  cases ds with
  | nil=>cases (show xs=[] from t);rfl
  | cons d ds=>obtain⟨_,_,rfl,_⟩:=t;rfl
 | fro ds =>
  obtain⟨a,xs,rfl,q,t⟩:=r
  cases e
  refine .inl ⟨xs,q,?_⟩
  cases ds with
  | nil=>cases (show xs=[] from t);rfl
  | cons d ds=>obtain⟨_,_,rfl,_⟩:=t;rfl
 | obj k a ks ds=>cases e
 | rf a=>cases e
theorem cE(ha:SE X a f)(he:∀whole,isTrue a X.env whole=(do let v <- whole;standAt a.pos;holding [v] (truthy v)):=by intro _;rfl):ST X a (wY f):=(qp ha he).imp fun σ H Q ⟨ρ,b,er,e,q⟩=>by
 obtain⟨x,e1,e⟩:=h9 e
 exact⟨ρ,x,er,e1,fun v H1 s1 r1=>⟨b,JJ r1 e,q H1 s1⟩⟩
variable{s t:R->RT Bool}{rest:List Sr}
theorem fk{e:Sr}(h:SW X e s):ST X e s:=PW.pt h
theorem gR(ha:ST X a s):SW X (.BoolOp .And [a] pos) s:=KQ ha
theorem gl(ha:ST X a s):SW X (.BoolOp .Or [a] pos) s:=MD ha
theorem jl(ha:ST X a s)(hb:SW X (.BoolOp .And (b::rest) pos) t):SW X (.BoolOp .And (a::b::rest) pos) (AW s t):=(Nb ha hb).imp fun σ H Q ⟨ρ,k,er,e,q⟩=>by
 obtain⟨x,e1,e⟩:=h9 e
 refine⟨ρ,x,er,e1,fun H1 s1=>?_⟩
 cases x with
 | false=>cases e;rw[Sa R6];exact q H1 s1
 | true=>rw[R3 rfl] at e ⊢;exact⟨ρ,k,er.mono s1,e,fun H2 s2=>q H2 (s1.trans s2)⟩
theorem gJ(ha:ST X a s)(hb:SW X (.BoolOp .Or (b::rest) pos) t):SW X (.BoolOp .Or (a::b::rest) pos) (C9 s t):=(OP ha hb).imp fun σ H Q ⟨ρ,k,er,e,q⟩=>by
 obtain⟨x,e1,e⟩:=h9 e
 refine⟨ρ,x,er,e1,fun H1 s1=>?_⟩
 cases x with
 | true=>cases e;rw[R3 rfl];exact q H1 s1
 | false=>rw[Sa R6] at e ⊢;exact⟨ρ,k,er.mono s1,e,fun H2 s2=>q H2 (s1.trans s2)⟩
theorem lP(ha:ST X a s):ST X (.UnaryOp .Not a pos) (Fu s):=(sS ha).imp fun σ H Q ⟨ρ,k,er,e,q⟩=>by
 obtain⟨x,e1,e⟩:=t7 e
 subst e
 exact⟨ρ,x,er,e1,fun H1 s1=>q H1 s1⟩
theorem i_{op}(ha:SE X a f):SE X (.BoolOp op [a] pos) f:=sX ha
theorem gi(ha:SE X a f)(hb:SE X (.BoolOp .And (b::rest) pos) g):SE X (.BoolOp .And (a::b::rest) pos) (Bf f g):=(sO ha hb).imp fun σ H Q ⟨ρ,d,er,e,q⟩=>by
 obtain⟨x,e1,e⟩:=h9 e
 refine⟨ρ,x,er,e1,fun v H1 s1 r1=>?_⟩
 cases x with
 | bl c =>
  cases (show v=_ from r1)
  refine⟨c,rfl,?_⟩
  cases c with
  | false=>cases e;rw[Sa R6];exact q _ H1 s1 rfl
  | true=>rw[R3 rfl];exact⟨ρ,d,er.mono s1,e,fun v H2 s2 r2=>q v H2 (s1.trans s2) r2⟩
 | _=>cases e
theorem kE(ha:SE X a f):SE X (.UnaryOp .Not a pos) (E_ f):=(tw ha).imp fun σ H Q ⟨ρ,d,er,e,q⟩=>by
 obtain⟨x,e1,e⟩:=h9 e
 refine⟨ρ,x,er,e1,fun v H1 s1 r1=>?_⟩
 cases x with
 | bl c =>
  cases (show v=_ from r1)
  cases e
  exact⟨c,rfl,q _ H1 s1 rfl⟩
 | _=>cases e
theorem fm(hc:ST X c s)(ha:SE X a f)(hb:SE X b g):SE X (.IfExp c a b pos) (DD s f g):=(q_ hc ha hb).imp fun σ H Q ⟨ρ,d,er,e,q⟩=>by
 obtain⟨x,e1,e⟩:=h9 e
 refine⟨ρ,x,er,e1,fun H1 s1=>?_⟩
 cases x with
 | true=>rw[R3 rfl] at e ⊢;exact⟨ρ,d,er.mono s1,e,fun v H2 s2 r2=>q v H2 (s1.trans s2) r2⟩
 | false=>rw[Sa R6] at e ⊢;exact⟨ρ,d,er.mono s1,e,fun v H2 s2 r2=>q v H2 (s1.trans s2) r2⟩
variable{F:R->RT LD}
theorem af:SA X [] c7:=⟨AU.imp fun σ H Q ⟨ρ,d,er,e,q⟩=>by cases e;exact q [] H (i6.refl H) rfl,fun ρ ds e=>by cases e;rfl,rfl⟩
theorem ac(ha:SE X e f)(hr:SA X es F)(hs:noStar e=true:=by rfl):SA X (e::es) (c4 f F):=⟨(eD ha hr.1 (aF es X.env hs)).imp fun σ H Q ⟨ρ,ds,er,e,q⟩=>by
 obtain⟨x,e1,e⟩:=h9 e
 obtain⟨y,e2,e⟩:=t7 e
 subst e
 exact⟨ρ,x,er,e1,fun v H1 s1 r1=>⟨ρ,y,er.mono s1,e2,fun vs H2 s2 r2=>q _ H2 (s1.trans s2) (i5.cons (r1.mono s2) r2)⟩⟩,fun ρ ds e=>by
 obtain⟨x,e1,e⟩:=h9 e
 obtain⟨y,e2,e⟩:=t7 e
 subst e
 simp[hr.2.1 ρ y e2],by rw[SL,hs,hr.2.2];rfl⟩
theorem bh{H:Hp}{p:RY}(h:H p=none)(o:HO):i6 H (upd H p o):=fun b u q=>by rw[aq (uA q h)];exact q
theorem ax{k}(h:SA X es F)(hl:Nat.ble es.length 1000=true:=by rfl):SE X (.Tuple es k pos) (l7 F):=(nN h.1).imp fun σ H Q ⟨ρ,d,er,e,q⟩=>by
 obtain⟨ds,e1,e⟩:=t7 e
 subst e
 refine⟨ρ,ds,er,e1,fun vs H1 s1 r1=>⟨?_,fun p hp=>?_⟩⟩
 ·rw[<- r1.length,h.2.1 ρ ds e1];exact Nat.le_of_lt (yN (Nat.le_of_ble_eq_true hl))
 ·have s2:=bh hp (.tup vs)
  exact q _ _ (s1.trans s2) ⟨p,vs,rfl,xn.of au,r1.mono s2⟩
theorem hZ(h:SA X es F)(hl:Nat.ble es.length 1000=true:=by rfl):SE X (.List es pos) (Ea F):=(nK h.1).imp fun σ H Q ⟨ρ,d,er,e,q⟩=>by
 obtain⟨ds,e1,e⟩:=t7 e
 subst e
 refine⟨ρ,ds,er,e1,fun vs H1 s1 r1=>⟨?_,fun p hp=>?_⟩⟩
 ·rw[<- r1.length,h.2.1 ρ ds e1];exact Nat.le_of_lt (yN (Nat.le_of_ble_eq_true hl))
 ·have s2:=bh hp (.lst vs)
  exact q _ _ (s1.trans s2) ⟨p,vs,rfl,au,r1.mono s2⟩
structure l8 (P:R9) (w:Sk) (K:RW) (mg:Str->RT RU) (base:Sq) (k:Nat) (x:Str) (ps:List Str) (F:LD->OD):Prop where
 ex:∃f fd,k6 P w K mg base ue k f fd ps (uP K F)/\mg x=some (.ref f)/\W.keepIn K (.ref f)=true/\Binds K fd ps []
theorem l8.mono{P:R9}{w:Sk}{K:RW}{mg:Str->RT RU}{base:Sq}{j k:Nat}{x:Str}{ps:List Str}{F:LD->OD}(h:l8 P w K mg base j x ps F)(hk:j<=k):l8 P w K mg base k x ps F:=by
 obtain⟨f,fd,a,b⟩:=h.ex
 exact⟨f,fd,a.mono hk,b⟩
theorem l8.imp{P:R9}{w:Sk}{K:RW}{mg:Str->RT RU}{base:Sq}{k:Nat}{x:Str}{ps:List Str}{F G:LD->OD}(h:l8 P w K mg base k x ps F)(hi:∀ds d,G ds=some d->F ds=some d):l8 P w K mg base k x ps G:=by
 obtain⟨f,fd,a,b⟩:=h.ex
 exact⟨f,fd,a.imp fun vs H Q E ⟨ds,d,r,e,q⟩=>⟨ds,d,r,hi ds d e,q⟩,b⟩
theorem ai{k:Nat}{x:Str}{ps:List Str}{G:LD->OD}(C:l8 X.prog X.w X.K X.mg X.base k x ps G)(hr:ua k X.A)(ha:SA X (e::es) F)(hg:Gl X x:=by rfl)
  (hdb:(x==("__debug__" : Str))=false:=by decide) :
  SE X (.Call (.Name x p) (e::es) [] pos) (c8 G F):=by
 have hst:=ha.2.2
 rw[SL,R1] at hst
 have he:=aF es X.env hst.1
 have hpl:=bv (pos:=pos) (env:=X.env) hst.2
 obtain⟨f,fd,a,m,kp,bd⟩:=C.ex
 refine(iP a hr hg m kp bd .nil ym ha.1 hdb he hpl).imp fun σ H Q ⟨ρ,d,er,e,q⟩=>?_
 obtain⟨ds,e1,e⟩:=h9 e
 exact⟨ρ,ds,er,e1,fun vs H1 s1 r1=>⟨ds,d,by rw[Sw];exact r1,e,fun v H2 s2 r2=>q v H2 (s1.trans s2) r2⟩⟩
theorem bC{x:Str}{id:String}{G:LD->OD}(hc:LO X (.builtin id) G)(hm:X.mg x=none)(ha:SA X (e::es) F)(hv:bootBuiltins x=some (.builtin id):=by kernel_rfl)(hg:Gl X x:=by rfl)(hn:x ≠ "__name__":=by decide)(hdb:(x==("__debug__" : Str))=false:=by decide):SE X (.Call (.Name x p) (e::es) [] pos) (c8 G F):=
 (nh hc hg hm hv ha.1 hn hdb (aF es X.env (SF.mp ha.2.2 e SY)) (bv (SF.mpr fun x hx=>SF.mp ha.2.2 x (Su _ hx)))).imp fun σ H Q ⟨ρ,d,er,e,q⟩=>by
  obtain⟨ds,e1,e⟩:=h9 e
  exact⟨ρ,ds,er,e1,fun vs H1 s1 r1=>⟨ds,d,r1,e,fun v H2 s2 r2=>q v H2 (s1.trans s2) r2⟩⟩
theorem fT{x:Str}{T:String}{G:LD->OD}(hc:LO X (.type T) G)(hm:X.mg x=none)(ha:SA X (e::es) F)(hv:bootBuiltins x=some (.type T):=by kernel_rfl)(hg:Gl X x:=by rfl)(hn:x ≠ "__name__":=by decide)(hdb:(x==("__debug__" : Str))=false:=by decide):SE X (.Call (.Name x p) (e::es) [] pos) (c8 G F):=
 (pe hc hg hm hv ha.1 hn hdb (aF es X.env (SF.mp ha.2.2 e SY)) (bv (SF.mpr fun x hx=>SF.mp ha.2.2 x (Su _ hx)))).imp fun σ H Q ⟨ρ,d,er,e,q⟩=>by
  obtain⟨ds,e1,e⟩:=h9 e
  exact⟨ρ,ds,er,e1,fun vs H1 s1 r1=>⟨ds,d,r1,e,fun v H2 s2 r2=>q v H2 (s1.trans s2) r2⟩⟩
def RN(X:Cx)(F:D->D->OD):Prop:=IxR X fun x y H Q=>∃dx dy d,Rep X.K H dx x/\Rep X.K H dy y/\F dx dy=some d/\∀v H',i6 H H'->Rep X.K H' d v->Q v H'
theorem _root_.L2.IxR.imp{r r':R2}(h:IxR X r)(hi:∀x y H Q,r' x y H Q->r x y H Q):IxR X r':=fun value slice pins s σ H x y v u Q I rx ry q hs=>h value slice pins s σ H x y v u Q I rx ry (hi x y H Q q) hs
theorem Mh(n:Nat)(i:Int):OA n i=N3 n i:=rfl
theorem C1{K:RW}{H:Hp}{ds:LD}{xs:List V}{i:Int}{d:D}(r:i5 K H ds xs)(e:H9 ds i=some d):∃v,LR xs i=some v/\Rep K H d v:=by
 obtain⟨j,e1,e2⟩:=h9 e
 obtain⟨v,h1,h2⟩:=r.get e2
 refine⟨v,?_,h2⟩
 unfold LR
 rw[<- r.length,<- Mh,e1]
 exact h1
theorem P5:RN X i8:=(J1.or (MI.or M4)).imp fun x y H Q ⟨dx,dy,d,r1,r2,e,q⟩=>by
 cases dx with
 | tup ds =>
  cases dy with
  | int i =>
   obtain⟨a,xs,e1,hq,t⟩:=r1
   cases (show y=_ from r2)
   obtain⟨v,h1,h2⟩:=C1 t e
   exact .inr (.inl ⟨a,xs,i,v,e1,rfl,hq,h1,q v H (i6.refl H) h2⟩)
  | _=>cases e
 | lst ds =>
  cases dy with
  | int i =>
   obtain⟨a,xs,e1,hq,t⟩:=r1
   cases (show y=_ from r2)
   obtain⟨v,h1,h2⟩:=C1 t e
   exact .inl ⟨a,xs,i,v,e1,rfl,wj.of hq,h1,q v H (i6.refl H) h2⟩
  | _=>cases e
 | fro ds =>
  cases dy with
  | int i =>
   obtain⟨a,xs,e1,hq,t⟩:=r1
   cases (show y=_ from r2)
   obtain⟨v,h1,h2⟩:=C1 t e
   exact .inl ⟨a,xs,i,v,e1,rfl,hq,h1,q v H (i6.refl H) h2⟩
  | _=>cases e
 | str z =>
  cases dy with
  | int i =>
   cases (show x=_ from r1)
   cases (show y=_ from r2)
   unfold i8 at e
   dsimp only at e
   split at e
   ·rename_i hz
    obtain⟨c,e1,e2⟩:=t7 e
    subst e2
    exact .inr (.inr ⟨z,i,c,rfl,rfl,hz,(by rw[<- e1];rfl),q _ H (i6.refl H) rfl⟩)
   ·cases e
  | _=>cases e
 | _=>cases e
theorem ag(ha:SE X a f)(hb:SE X b g)(hs:DE b:=by intro _ _;rfl):SE X (.Subscript a b pos) (i3 i8 f g):=(sD P5 ha hb hs).imp fun σ H Q q=>two q
variable{st:So}{sts:List So}{u w:R->RT Out}
theorem aU:SS X [] uu:=zH.imp fun E σ H ⟨ρ,τ,o,er,e,q⟩=>by
 cases e
 exact q H (i6.refl H) σ er
theorem Mx{E:Ends}{σ:L2.St}{H:Hp}{K:RW}(q:Lf K (l5 u w) E σ H):Lf K u {E with nx:=Lf K w E} σ H:=by
 obtain⟨ρ,τ,o,er,e,q⟩:=q
 obtain⟨o1,e1,e⟩:=h9 e
 refine⟨ρ,τ,o1,er,e1,fun H1 s1=>?_⟩
 cases o1 with
 | nx ρ2=>exact fun σ2 er2=>⟨ρ2,τ,o,er2,e,fun H2 s2=>q H2 (s1.trans s2)⟩
 | rt d=>cases e;exact q H1 s1
 | bk ρ2=>cases e;exact q H1 s1
 | ct ρ2=>cases e;exact q H1 s1
theorem ak(h1:S1 X st u)(h2:SS X sts w):SS X (st::sts) (l5 u w):=(dw h1 h2).imp fun E σ H q=>Mx q
theorem ao(h1:S1 X st u):SS X [st] u:=c_ h1
theorem ay(ha:SE X a f):S1 X (.Return (some a) pos) (l4 f):=(lL ha).imp fun E σ H ⟨ρ,τ,o,er,e,q⟩=>by
 obtain⟨x,e1,e⟩:=t7 e
 subst e
 exact⟨ρ,x,er.1,e1,fun v H1 s1 r1=>q H1 s1 v r1⟩
theorem cQ{B1 B2:List So}(hc:ST X c s)(ha:SS X B1 u)(hb:SS X B2 w):S1 X (.If c B1 B2 pos) (y3 s u w):=(jw hc ha hb).imp fun E σ H ⟨ρ,τ,o,er,e,q⟩=>by
 obtain⟨x,e1,e⟩:=h9 e
 refine⟨ρ,x,er.1,e1,fun H1 s1=>?_⟩
 cases x with
 | true=>rw[R3 rfl] at e ⊢;exact⟨ρ,τ,o,er.mono s1,e,fun H2 s2=>q H2 (s1.trans s2)⟩
 | false=>rw[Sa R6] at e ⊢;exact⟨ρ,τ,o,er.mono s1,e,fun H2 s2=>q H2 (s1.trans s2)⟩
theorem aj(i:Nat){x:Str}(hN:X.N.Nodup)(hi:X.N[i]?=some x:=by rfl)(hx:Loc X.env.scope x:=by first | exact Or.inl rfl | exact Or.inr rfl)(hf:X.fn x=true\/X.env.scope.names.lookup x=some .local:=by first | exact .inl rfl | exact .inr rfl) :
  SG X (.Name x pos) (setAt i):=(so hN hi hx hf).imp fun v σ H Q ⟨ρ,τ,d,ρ',er,r,e,q⟩=>by
 unfold setAt at e
 split at e
 ·rename_i hlt
  cases e
  exact q _ H (i6.refl H) (er.set hlt r)
 ·cases e
variable{stf:D->R->RT R}{stfs:List (D->R->RT R)}
theorem aB{tg:Sr}(ha:SE X a f)(hg:SG X tg stf)(hs:swapsWithSole [tg] a pos.line X.env=pure false:=by rfl)(hw:swappedStores [tg] a X.env=pure none:=by rfl)(h1:(assignEach [tg] X.env).map (·.2)=[assign tg X.env]:=by rfl) :
  S1 X (.Assign [tg] a pos) (l3 f stf):=(sV ha hg hs hw h1).imp fun E σ H ⟨ρ,τ,o,er,e,q⟩=>by
 obtain⟨x,e1,e⟩:=h9 e
 obtain⟨ρ',e2,e⟩:=t7 e
 subst e
 exact⟨ρ,x,er.1,e1,fun v H1 s1 r1=>⟨ρ,τ,x,ρ',er.mono s1,r1,e2,fun σ2 H2 s2 er2=>q H2 (s1.trans s2) σ2 er2⟩⟩
theorem Kp.of{H H':Hp}(s:i6 H H'):Kp H H':=fun b u e _=>s b u e
theorem Kp.refl(H:Hp):Kp H H:=fun _ _ e _=>e
theorem Kp.seq{K:RW}{H H':Hp}{a:RY}{xs:List V}(s:Kp H H')(h:wj K H a xs):wj K H' a xs:=by
 rcases h with (h | ⟨o,h⟩) | h
 ·exact .inl (.inl (s _ _ h fun φ z=>nomatch z))
 ·exact .inl (.inr ⟨o,s _ _ h fun φ z=>nomatch z⟩)
 ·exact .inr h
theorem Kp.tup{K:RW}{H H':Hp}{a:RY}{xs:List V}(s:Kp H H')(h:xn K H a xs):xn K H' a xs:=by
 rcases h with (h | ⟨o,h⟩) | h
 ·exact .inl (.inl (s _ _ h fun φ z=>nomatch z))
 ·exact .inl (.inr ⟨o,s _ _ h fun φ z=>nomatch z⟩)
 ·exact .inr h
mutual
theorem Rep.kp{K:RW}{H H':Hp}(s:Kp H H'):∀{d:D} {v:V},Rep K H d v->Rep K H' d v
 | .non,_,h=>h
 | .bl _,_,h=>h
 | .int _,_,h=>h
 | .str _,_,h=>h
 | .tup ds,_,h=>by
  obtain⟨a,xs,e,q,r⟩:=h
  exact⟨a,xs,e,s.tup q,i5.kp s r⟩
 | .lst ds,_,h=>by
  obtain⟨a,xs,e,q,r⟩:=h
  exact⟨a,xs,e,s _ _ q (fun φ z=>by cases z),i5.kp s r⟩
 | .fro ds,_,h=>by
  obtain⟨a,xs,e,q,r⟩:=h
  exact⟨a,xs,e,s.seq q,i5.kp s r⟩
 | .obj k a ks ds,_,h=>by
  obtain⟨xs,e,q,r⟩:=h
  exact⟨xs,e,q.to fun u z n=>s _ u z n,i5.kp s r⟩
 | .rf _,_,h=>h
theorem i5.kp{K:RW}{H H':Hp}(s:Kp H H'):∀{ds:LD} {vs:List V},i5 K H ds vs->i5 K H' ds vs
 | [],_,h=>h
 | d::ds,_,h=>by
  obtain⟨v,r,e,q,t⟩:=h
  exact⟨v,r,e,Rep.kp s q,i5.kp s t⟩
end
theorem ut.kp{K:RW}{H H':Hp}{ρ:R}{σ:L2.St}(e:ut K H ρ σ)(s:Kp H H'):ut K H' ρ σ:=⟨e.1,fun i d h=>let ⟨v,a,b⟩:=e.2 i d h;⟨v,a,b.kp s⟩⟩
theorem uq.kp{K:RW}{H H':Hp}{ρ:R}{τ σ:L2.St}(e:uq K H ρ τ σ)(s:Kp H H'):uq K H' ρ τ σ:=⟨e.1.kp s,e.2⟩
theorem iy{K:RW}{H:Hp}{a:RY}{ds:LD}{xs:List V}(hq:wj K H a xs)(t:i5 K H ds xs):wW K (PK K a) ds H:=by
 refine⟨fun i d H2 s2 e=>?_,fun i H2 s2 hl=>⟨xs,s2.seq hq,by rw[<- t.length];exact hl⟩⟩
 obtain⟨v,h1,h2⟩:=t.get e
 refine⟨⟨xs,v,s2.seq hq,h1⟩,fun x H3 ⟨e3,y⟩=>?_⟩
 subst e3
 have:=(y xs (s2.seq hq)).symm.trans h1
 cases this
 exact⟨i6.refl _,h2.kp s2⟩
theorem nk{K:RW}{H:Hp}{a:RY}{ds:LD}{xs:List V}(hq:xn K H a xs)(t:i5 K H ds xs):wW K (PB K a) ds H:=by
 refine⟨fun i d H2 s2 e=>?_,fun i H2 s2 hl=>⟨xs,s2.tup hq,by rw[<- t.length];exact hl⟩⟩
 obtain⟨v,h1,h2⟩:=t.get e
 refine⟨⟨xs,v,s2.tup hq,h1⟩,fun x H3 ⟨e3,y⟩=>?_⟩
 subst e3
 have:=(y xs (s2.tup hq)).symm.trans h1
 cases this
 exact⟨i6.refl _,h2.kp s2⟩
theorem Je{a b:Int}{i:Nat}{d:D}(e:(wQ a b)[i]?=some d):i<(b - a).toNat/\d=.int (a+i):=by
 unfold wQ at e
 rw[SX] at e
 obtain⟨k,e1,e⟩:=t7 e
 obtain⟨h1,h2⟩:=Sg.mp e1
 rw[List.length_range] at h1
 rw[List.getElem_range] at h2
 subst h2
 exact⟨h1,e.symm⟩
theorem iX{K:RW}{H:Hp}{a b:Int}:wW K (Nz a (b - a).toNat) (wQ a b) H:=by
 refine⟨fun i d H2 s2 e=>?_,fun i H2 s2 hl=>by
  have z:(wQ a b).length=(b - a).toNat:=by simp[wQ]
  rw[z] at hl
  exact hl⟩
 obtain⟨h1,rfl⟩:=Je e
 refine⟨h1,fun x H3 ⟨e3,y⟩=>?_⟩
 subst e3
 exact⟨i6.refl _,y⟩
def QK(K:RW)(tl:TE):TI:=fun σ H W=>tl σ H fun x H1=>(∃a,x=.ref a/\(((∃xs,wj K H1 a xs)/\W (PK K a) H1)\/((∃xs,xn K H1 a xs)/\W (PB K a) H1)))\/∃z,x=.str z/\z.cps.all (·<128)=true/\W (Pa z) H1
theorem jJ{K:RW}{H:Hp}{x:Str}:wW K (Pa x) (chars x) H:=by
 have hl:(chars x).length=x.cps.size:=by simp[chars]
 refine⟨fun i d H2 s2 e=>?_,fun i H2 s2 h=>by rw[hl] at h;exact h⟩
 have hi:i<x.cps.size:=by rw[<- hl];exact(Sg.mp e).1
 refine⟨hi,fun v H3 ⟨e3,c,h1,h2⟩=>?_⟩
 subst e3
 refine⟨i6.refl _,?_⟩
 unfold chars at e
 rw[SX] at e
 obtain⟨c',e1,e⟩:=t7 e
 have h1':x.cps.toList[i]?=some c:=by simpa using h1
 rw[h1'] at e1
 cases e1
 subst e
 exact h2
theorem oj{tg l:Sr}{tl:TE}(hl:PE X l tl):PI X tg l (QK X.K tl):=by
 intro pins s σ H W I h
 refine uo (hl pins s σ H _ I h) fun v s1 ⟨x,H1,I1,r1,q1⟩=>?_
 rcases q1 with ⟨a,e,q1⟩ | ⟨z,e,hz,q⟩
 rotate_left
 ·subst e
  obtain⟨t,rfl⟩:=r1
  refine wpAny_pyIter_ascii hz ?_
  refine⟨s1.heap.objs.size,[s1.heap.objs.size],_,_,H1,rfl,I1.kept (t':=s1.toks) fun b o e=>R0 _ e,Iy _ z t,⟨_,Sd _ rfl,rfl,rfl⟩,fun b hb=>?_,q⟩
  have e:b=s1.heap.objs.size:=by simpa using hb
  subst e
  exact I1.fpOk (Se _) (I1.hok.fresh (Se _))
 subst e
 cases r1
 rcases q1 with ⟨⟨xs,hq⟩,q⟩ | ⟨⟨xs,hq⟩,q⟩
 ·obtain⟨its,rv,p,hz⟩:=I1.list hq
  refine wpAny_pyIter_list p.isList ?_
  refine⟨s1.heap.objs.size,[s1.heap.objs.size],_,_,H1,rfl,I1.kept (t':=s1.toks) fun b o e=>R0 _ e,Hc a _,⟨_,Sd _ rfl,rfl,rfl⟩,fun b hb=>?_,q⟩
  have e:b=s1.heap.objs.size:=by simpa using hb
  subst e
  exact I1.fpOk (Se _) (I1.hok.fresh (Se _))
 ·obtain⟨its,rv,p,hz⟩:=I1.tuple hq
  refine wpAny_pyIter_tuple (show s1.heap.IsTuple a its.toArray from p) ?_
  refine⟨s1.heap.objs.size,[s1.heap.objs.size],_,_,H1,rfl,I1.kept (t':=s1.toks) fun b o e=>R0 _ e,Fi a _,⟨_,Sd _ rfl,rfl,rfl⟩,fun b hb=>?_,q⟩
  have e:b=s1.heap.objs.size:=by simpa using hb
  subst e
  exact I1.fpOk (Se _) (I1.hok.fresh (Se _))
theorem gu{tg:Sr}(ha:SE X a f):SI X tg a (vt f):=(oj ha).imp fun σ H W ⟨ρ,ds,er,e,q⟩=>by
 obtain⟨x,e1,e⟩:=h9 e
 refine⟨ρ,x,er,e1,fun v H1 s1 r1=>?_⟩
 cases x with
 | tup xs =>
  cases e
  obtain⟨a,vs,ev,hq,t⟩:=r1
  exact .inl ⟨a,ev,.inr ⟨⟨vs,hq⟩,q _ H1 s1 (nk hq t)⟩⟩
 | lst xs =>
  cases e
  obtain⟨a,vs,ev,hq,t⟩:=r1
  exact .inl ⟨a,ev,.inl ⟨⟨vs,wj.of hq⟩,q _ H1 s1 (iy (wj.of hq) t)⟩⟩
 | str z =>
  dsimp only at e
  split at e
  ·rename_i hz
   cases e
   cases (show v=_ from r1)
   exact .inr ⟨z,rfl,hz,q _ H1 s1 jJ⟩
  ·cases e
 | _=>cases e
theorem oz{tg:Sr}(hm:X.mg "range" = none)(ha:SE X a f)(hg:Gl X "range":=by rfl)(hs:noStar a=true:=by rfl):SI X tg (.Call (.Name "range" p) [a] [] pos) (x6 f):=
 (kt hg hm (ac ha af hs).1 (aF [] X.env hs)).imp fun σ H W ⟨ρ,ds,er,e,q⟩=>by
  obtain⟨x,e1,e⟩:=h9 e
  cases x with
  | int j =>
   dsimp only at e
   split at e
   ·rename_i hj
    cases e
    refine⟨ρ,[.int j],er,by show(f ρ).bind _=_;rw[e1];rfl,fun vs H1 s1 r1=>?_⟩
    obtain⟨v,r,rfl,r2,r3⟩:=r1
    cases (show v=_ from r2)
    cases (show r=_ from r3)
    refine⟨j,rfl,hj.1,hj.2,q _ H1 s1 ?_⟩
    have z:=iX (K:=X.K) (H:=H1) (a:=0) (b:=j)
    rw[Int.sub_zero] at z
    exact z
   ·cases e
  | _=>cases e
theorem qP{tg iter:Sr}{B:List So}{it:R->RT LD}(hp:PassesOwn (model X.prog X.w) X.A X.env X.xe)(hc:X.calm=true)(hi:SI X tg iter it)(hg:SG X tg stf)(hb:SS X B u)
  (hs:∀x,foldedSetIterable iter X.env x=pure x:=by intro _;rfl):S1 X (.For tg iter B [] pos) (Cs it stf u):=(nQ hp hc hi hg hb hs).imp fun E σ H ⟨ρ,τ,o,er,e,q⟩=>by
 obtain⟨ds,e1,e⟩:=h9 e
 refine⟨ρ,ds,er.1,e1,fun J H1 s1 y=>?_⟩
 refine⟨fun i m σ' H'=>m=ds.length - i/\i<=ds.length/\i6 H1 H'/\∃ ρ',uq X.K H' ρ' τ σ'/\AA stf u (ds.drop i) ρ'=some o,⟨ds.length,by simp,SU _,i6.refl _,ρ,er.mono s1,by simpa using e⟩,?_⟩
 rintro i m σ' H' ⟨rfl,hi,s2,ρ',er',e'⟩
 by_cases hlt:i<ds.length
 ·refine .inr ?_
  have hd:ds[i]?=some ds[i]:=by simp[hlt]
  obtain⟨hgo,hy⟩:=y.1 i ds[i] H' (Kp.of s2) hd
  rw[Tb hlt] at e'
  obtain⟨ρ1,e2,e'⟩:=h9 e'
  obtain⟨o1,e3,e'⟩:=h9 e'
  refine⟨hgo,fun σ2 H2=>i+1<=ds.length/\i6 H1 H2/\∃ ρ',uq X.K H2 ρ' τ σ2/\AA stf u (ds.drop (i+1)) ρ'=some o,fun σ2 H2 n2=>⟨ds.length - (i+1),by omega,rfl,n2.1,n2.2⟩,fun x H3 yx=>?_⟩
  obtain⟨s3,rx⟩:=hy x H3 yx
  refine⟨ρ',τ,ds[i],ρ1,er'.mono s3,rx,e2,fun σ4 H4 s4 er4=>⟨ρ1,τ,o1,er4,e3,fun H5 s5=>?_⟩⟩
  have s15:i6 H1 H5:=s2.trans (s3.trans (s4.trans s5))
  cases o1 with
  | nx ρ2=>exact fun σ6 er6=>⟨hlt,s15,ρ2,er6,e'⟩
  | ct ρ2=>exact fun σ6 er6=>⟨hlt,s15,ρ2,er6,e'⟩
  | bk ρ2=>cases e';exact fun σ6 er6=>q H5 (s1.trans s15) σ6 er6
  | rt d=>cases e';exact q H5 (s1.trans s15)
 ·have e4:i=ds.length:=by omega
  subst e4
  rw[List.drop_length] at e'
  cases e'
  exact .inl ⟨y.2 _ H' (Kp.of s2) (Se _),q H' (s1.trans s2) σ' er'⟩
end
theorem zU{K:RW}{H:Hp}{N:List Str}{ds:LD}{vs:List V}(r:i5 K H ds vs):ut K H (AO N.length ds) (L2.start N vs):=by
 unfold AO L2.start
 refine⟨by simp[r.length],fun i d h=>?_⟩
 by_cases hi:i<ds.length
 ·rw[SZ (by simpa using hi),SX] at h
  obtain⟨d',e1,e⟩:=t7 h
  cases e
  obtain⟨v,h1,h2⟩:=r.get e1
  exact⟨v,by rw[SZ (by rw[R7,<- r.length];exact hi),SX,h1];rfl,h2⟩
 ·rw[Sy (by simpa using hi),List.getElem?_replicate] at h
  split at h<;>cases h
theorem sH{P:R9}{w:Sk}{K:RW}{mg:Str->RT RU}{base:Sq}{x qual:Str}{st:So}{f:RY}{fd:SV}{N ps:List Str}{k:Nat}{F:LD->OD}{g:R->RT Out}
  (Fn:uv K x qual st f fd) (S:c9 N ps (c6 st)) (hlen:∀ds d,F ds=some d->ds.length=ps.length)
  (hb:∀(cdv:RU) (A:Sv) (outer:List Env) (s:RX) (H:Hp) (E:XK),ua k (A.deeper (envOfC qual (c6 st) s.heap.objs.size f cdv))->SS (yj ue P w K mg base N qual (c6 st) f cdv A outer s H E).nox (uh st) g)
  (hF:∀ds d,F ds=some d->yr (g (AO N.length ds))=some d):k6 P w K mg base ue (k+1) f fd ps (uP K F):=by
 refine Fn.ok S (fun vs H Q E h=>?_) (fun cdv A outer s H vs Q E hr h=>?_)
 ·obtain⟨ds,d,r,e,_⟩:=h
  rw[<- r.length]
  exact hlen ds d e
 ·obtain⟨ds,d,r,e,q⟩:=h
  refine⟨_,hb cdv A outer s H E hr,?_⟩
  have z:=hF ds d e
  cases ho:g (AO N.length ds) with
  | none=>rw[ho] at z;cases z
  | some o =>
   rw[ho] at z
   refine⟨AO N.length ds,_,o,(zU r).t,ho,fun H1 s1=>?_⟩
   cases o with
   | rt d'=>cases (show d'=d from Si z);exact fun v rv=>q v H1 s1 rv
   | nx ρ=>cases (show D.non=d from Si z);exact fun σ _=>q .non H1 s1 rfl
   | bk ρ=>cases z
   | ct ρ=>cases z
theorem ar{P:R9}{w:Sk}{K:RW}{mg:Str->RT RU}{base:Sq}{x qual:Str}{st:So}{f:RY}{fd:SV}{N ps:List Str}{k:Nat}{n m:Nat}{g:R->RT Out}
  (Fn:uv K x qual st f fd) (S:c9 N ps (c6 st))
  (hb:∀(cdv:RU) (A:Sv) (outer:List Env) (s:RX) (H:Hp) (E:XK),ua k (A.deeper (envOfC qual (c6 st) s.heap.objs.size f cdv))->SS (yj ue P w K mg base N qual (c6 st) f cdv A outer s H E).nox (uh st) g)
  (h1:n=ps.length:=by rfl) (h2:m=N.length:=by rfl):k6 P w K mg base ue (k+1) f fd ps (uP K (via n m g)):=by
 subst h1 h2
 exact sH Fn S (fun _ _ h=>oB h) hb fun _ _ h=>sF h
theorem az{P:R9}{w:Sk}{K:RW}{mg:Str->RT RU}{base:Sq}{x qual:Str}{st:So}{f:RY}{fd:SV}{ps:List Str}{k:Nat}{F:LD->OD}(Fn:uv K x qual st f fd)(hm:mg x=some (.ref f))
  (hb:Binds K fd ps []) (h:k6 P w K mg base ue k f fd ps (uP K F)):l8 P w K mg base k x ps F:=⟨f,fd,h,hm,Fn.kp,hb⟩
section
variable{X:Cx}
theorem HH{prog:R9}{w:Sk}{A:Sv}{E:RU->RX->Prop}{s:RX}{t b:RY}{ws:List RU}{Q:RU->RX->Prop}(ht:IsTup s.heap t ([]:List RU).toArray)(hb:IsTup s.heap b ws.toArray)
  (h:Q (.ref b) s):wpAny (model prog w) A (binaryOp .Add (.ref t) (.ref b)) Q E s:=by
 obtain⟨⟨cls,dd,data,sl⟩,ho,hc,n,hd⟩:=id ht
 obtain⟨⟨cls2,dd2,data2,sl2⟩,ho2,hc2,n2,hd2⟩:=id hb
 simp only at hc hd hc2 hd2
 subst hc hd hc2 hd2
 exact concat_meets ⟨_,ho,rfl⟩ ⟨_,ho2,rfl⟩ noFill_tuple_add seq_tuple_add PySem.F.slot_tuple_add PySem.F.entry_tuple_add (PySem.F.args_tuple_add_2 _ _)
  (tuple_addW0 t b ([]:List RU).toArray ws.toArray n n2 dd dd2 sl sl2 (by simp)) ⟨ho,ho2,h⟩
theorem vI{K:RW}{H:Hp}{d:D}{v:V}{i:Int}(e:nI d=some i)(r:Rep K H d v):v=.int i:=by
 cases d<;>cases e
 exact r
theorem Ox{K:RW}{H:Hp}{d:D}{v:V}{xs:LD}(e:tI d=some xs)(r:Rep K H d v):Rep K H (.tup xs) v:=by
 cases d<;>cases e
 exact r
theorem Oi{K:RW}{H:Hp}{d:D}{v:V}{xs:LD}(e:lI d=some xs)(r:Rep K H d v):Rep K H (.lst xs) v:=by
 cases d<;>cases e
 exact r
theorem D8{K:RW}{H:Hp}{d:D}{v:V}{x:Str}(e:sI d=some x)(r:Rep K H d v):v=.str x:=by
 cases d<;>cases e
 exact r
theorem HP{K:RW}{H:Hp}{d:D}{v:V}{x:Bool}(e:bO d=some x)(r:Rep K H d v):v=.bl x:=by
 cases d<;>cases e
 exact r
theorem D3{α:Type}{p:Prop}[Decidable p]{x y:α}(h:(if p then some x else none)=some y):p/\x=y:=by
 split at h
 ·rename_i hp;exact⟨hp,Si h⟩
 ·cases h
theorem aD:Ny X (binaryOp .Add) m9:=by
 intro pins s σ H x y v u Q I rx ry h
 obtain⟨dx,dy,d,r1,r2,e,q⟩:=h
 cases dx with
 | int i =>
  obtain⟨j,e1,rfl⟩:=t7 e
  exact M5 pins s σ H x y v u Q I rx ry ⟨i,j,r1,vI e1 r2,q _ H (i6.refl H) rfl⟩
 | tup xs =>
  obtain⟨ys,e1,e⟩:=h9 e
  obtain⟨hz,rfl⟩:=D3 e
  obtain⟨a,vs,rfl,hq,t⟩:=r1
  obtain⟨b,us,rfl,hq2,t2⟩:=Ox e1 r2
  cases vs with
  | nil =>
   cases rx
   cases ry
   obtain⟨its,rr1,p1,_⟩:=I.tuple hq
   obtain⟨its2,rr2,p2,_⟩:=I.tuple hq2
   cases rr1
   refine HH p1 p2 ⟨.ref b,H,I,rfl,q _ H (i6.refl H) ⟨b,us,rfl,hq2,?_⟩⟩
   cases xs with
   | nil=>exact t2
   | cons x r=>obtain⟨_,_,z,_⟩:=t;cases z
  | cons v0 vr =>
   refine Kf pins s σ H _ _ v u Q I rx ry ⟨a,b,v0::vr,us,rfl,rfl,hq,hq2,by simp,by rw[<- t.length,<- t2.length];exact hz,fun z=>?_,fun z p hp=>?_⟩
   ·subst z
    refine q _ H (i6.refl H) ⟨a,v0::vr,rfl,hq,?_⟩
    have:ys=[]:=List.length_eq_zero_iff.mp t2.length
    subst this
    rw[Sw]
    exact t
   ·have s2:=bh hp (.tup (v0::vr++us))
    exact q _ _ s2 ⟨p,_,rfl,xn.of au,(t.append t2).mono s2⟩
 | lst xs =>
  obtain⟨ys,e1,e⟩:=h9 e
  obtain⟨hz,rfl⟩:=D3 e
  obtain⟨a,vs,rfl,hq,t⟩:=r1
  obtain⟨b,us,rfl,hq2,t2⟩:=Oi e1 r2
  refine Nl pins s σ H _ _ v u Q I rx ry ⟨a,b,vs,us,rfl,rfl,hq,hq2,by rw[<- t.length,<- t2.length];exact hz,fun p hp=>?_⟩
  have s2:=bh hp (.lst (vs++us))
  exact q _ _ s2 ⟨p,_,rfl,au,(t.append t2).mono s2⟩
 | str a =>
  obtain⟨b,e1,e⟩:=h9 e
  obtain⟨hz,rfl⟩:=D3 e
  exact Fj pins s σ H x y v u Q I rx ry ⟨a,b,r1,D8 e1 r2,hz,q _ H (i6.refl H) rfl⟩
 | _=>cases e
theorem b_:Ny X (binaryOp .Sub) w9:=by
 intro pins s σ H x y v u Q I rx ry h
 obtain⟨dx,dy,d,r1,r2,e,q⟩:=h
 obtain⟨i,e1,e⟩:=h9 e
 obtain⟨j,e2,rfl⟩:=t7 e
 exact L4 pins s σ H x y v u Q I rx ry ⟨i,j,vI e1 r1,vI e2 r2,q _ H (i6.refl H) rfl⟩
theorem dq:Ny X (binaryOp .Mult) yc:=by
 intro pins s σ H x y v u Q I rx ry h
 obtain⟨dx,dy,d,r1,r2,e,q⟩:=h
 obtain⟨i,e1,e⟩:=h9 e
 obtain⟨j,e2,e⟩:=h9 e
 obtain⟨hz,rfl⟩:=D3 e
 refine Ng pins s σ H x y v u Q I rx ry ⟨i,j,vI e1 r1,vI e2 r2,?_,q _ H (i6.refl H) rfl⟩
 unfold uE at hz
 rw[Bool.or_eq_true,R1,R1] at hz
 exact hz.imp (fun z=>⟨Tc z.1,Tc z.2⟩) fun z=>⟨Tc z.1,Tc z.2⟩
theorem bJ:Ny X (binaryOp .FloorDiv) vV:=by
 intro pins s σ H x y v u Q I rx ry h
 obtain⟨dx,dy,d,r1,r2,e,q⟩:=h
 obtain⟨i,e1,e⟩:=h9 e
 obtain⟨j,e2,e⟩:=h9 e
 obtain⟨hz,rfl⟩:=D3 e
 exact KS pins s σ H x y v u Q I rx ry ⟨i,j,vI e1 r1,vI e2 r2,hz,q _ H (i6.refl H) rfl⟩
theorem aI:Ny X (binaryOp .Mod) ui:=by
 intro pins s σ H x y v u Q I rx ry h
 obtain⟨dx,dy,d,r1,r2,e,q⟩:=h
 obtain⟨i,e1,e⟩:=h9 e
 obtain⟨j,e2,e⟩:=h9 e
 obtain⟨hz,rfl⟩:=D3 e
 exact Nc pins s σ H x y v u Q I rx ry ⟨i,j,vI e1 r1,vI e2 r2,hz,q _ H (i6.refl H) rfl⟩
theorem nT:Q9 X (unaryOp .USub) DY:=by
 intro pins s σ H x v Q I rx h
 obtain⟨dx,d,r1,e,q⟩:=h
 obtain⟨i,e1,rfl⟩:=t7 e
 exact M6 pins s σ H x v Q I rx ⟨i,vI e1 r1,q _ H (i6.refl H) rfl⟩
theorem PC{op:CmpOp}{p:Int->Int->Bool}{F:D->D->RT Bool}(ho:OpR X (compareOp op) (JN fun i j=>.bl (p i j)))(hF:∀x y,F x y=(nI x).bind fun i=>(nI y).map fun j=>p i j):EH X op F:=by
 intro pins s σ H x y v u Q I rx ry h
 obtain⟨dx,dy,b,r1,r2,e,q⟩:=h
 rw[hF] at e
 obtain⟨i,e1,e⟩:=h9 e
 obtain⟨j,e2,rfl⟩:=t7 e
 exact ho pins s σ H x y v u Q I rx ry ⟨i,j,vI e1 r1,vI e2 r2,q⟩
theorem oI:EH X .Lt Ow:=PC Pi fun _ _=>rfl
theorem rj:EH X .LtE LI:=PC O1 fun _ _=>rfl
theorem gh:EH X .Gt EF:=PC O7 fun _ _=>rfl
theorem sy:EH X .GtE Nv:=PC OY fun _ _=>rfl
theorem G6{K:RW}{H:Hp}{d:D}{v:V}{ys:LD}(r:Rep K H d v)(e:Io d=some ys):∃p xs,v=.ref p/\(wj K H p xs\/xn K H p xs)/\i5 K H ys xs:=by
 cases d with
 | tup ds=>cases e;obtain⟨a,xs,rfl,q,t⟩:=r;exact⟨a,xs,rfl,.inr q,t⟩
 | lst ds=>cases e;obtain⟨a,xs,rfl,q,t⟩:=r;exact⟨a,xs,rfl,.inl (wj.of q),t⟩
 | fro ds=>cases e;obtain⟨a,xs,rfl,q,t⟩:=r;exact⟨a,xs,rfl,.inl q,t⟩
 | _=>cases e
theorem BG{K:RW}{H:Hp}{d:D}{v:V}(r:Rep K H d v):J0 d=decide (v=.non):=by
 cases d with
 | tup c=>obtain⟨_,_,rfl,_⟩:=r;rfl
 | lst c=>obtain⟨_,_,rfl,_⟩:=r;rfl
 | fro c=>obtain⟨_,_,rfl,_⟩:=r;rfl
 | obj k a ks ds=>obtain⟨_,rfl,_⟩:=r;rfl
 | rf a=>cases (show v=_ from r);rfl
 | _=>cases (show v=_ from r);rfl
theorem GC{K:RW}{H:Hp}{d:D}{v:V}(r:Rep K H d v)(h:J0 d=true):v=.non:=by
 rw[BG r] at h
 exact Tc h
theorem gb:EH X .Is zu:=by
 intro pins s σ H x y v u Q I rx ry h
 obtain⟨dx,dy,b,r1,r2,e,q⟩:=h
 obtain⟨h1,rfl⟩:=D3 e
 exact Mw pins s σ H x y v u Q I rx ry ⟨GC r2 h1,by rw[<- BG r1];exact q⟩
theorem cx:EH X .IsNot ww:=by
 intro pins s σ H x y v u Q I rx ry h
 obtain⟨dx,dy,b,r1,r2,e,q⟩:=h
 obtain⟨k,e2,rfl⟩:=t7 e
 obtain⟨h1,rfl⟩:=D3 e2
 exact Ku pins s σ H x y v u Q I rx ry ⟨GC r2 h1,by rw[<- BG r1];exact q⟩
theorem gm:LO X (.builtin "len") xi:=C8.imp fun xs H Q ⟨ds,d,r,e,q⟩=>by
 match ds,e with
 | [x],e =>
  obtain⟨ys,e1,e2⟩:=t7 e
  subst e2
  obtain⟨v,r',rfl,r1,r2⟩:=r
  cases (show r'=[] from r2)
  obtain⟨p,vs,rfl,hq,t⟩:=G6 r1 e1
  exact⟨p,vs,rfl,hq,q _ H (i6.refl H) (by show V.int _=V.int _;rw[t.length])⟩
theorem mQ:LO X (.type "tuple") E2:=B_.imp fun xs H Q ⟨ds,d,r,e,q⟩=>by
 match ds,e with
 | [.tup ys],e =>
  cases e
  obtain⟨v,r',rfl,⟨a,vs,rfl,hq,t⟩,r2⟩:=r
  cases (show r'=[] from r2)
  exact⟨a,vs,rfl,.inr ⟨hq,q _ H (i6.refl H) ⟨a,vs,rfl,hq,t⟩⟩⟩
 | [.lst ys],e =>
  cases e
  obtain⟨v,r',rfl,⟨a,vs,rfl,hq,t⟩,r2⟩:=r
  cases (show r'=[] from r2)
  exact⟨a,vs,rfl,.inl ⟨wj.of hq,fun l hl=>q _ _ (bh hl _) ⟨l,vs,rfl,xn.of au,t.mono (bh hl _)⟩⟩⟩
theorem qg:LO X (.type "str") Fl:=Du.imp fun xs H Q ⟨ds,d,r,e,q⟩=>by
 match ds,e with
 | [.int i],e =>
  have e':(if i.natAbs.log2<1920 then some (D.str (toString i)) else none)=some d:=e
  split at e'
  ·rename_i hz
   cases e'
   obtain⟨v,r',rfl,r1,r2⟩:=r
   cases (show r'=[] from r2)
   cases (show v=_ from r1)
   exact⟨i,rfl,hz,q _ H (i6.refl H) rfl⟩
  ·cases e'
theorem Aa{K:RW}{H:Hp}:∀{ds:LD} {bs:List Bool} {vs:List V} {us:List RU},bools ds=some bs->i5 K H ds vs->l6 vs us->us=bs.map .bool
 | [],_,_,_,e,h,r=>by
  cases e
  cases (show _=[] from h)
  cases r
  rfl
 | d::ds,_,_,_,e,h,r=>by
  cases d with
  | bl b =>
   obtain⟨bs',e1,e2⟩:=t7 e
   subst e2
   obtain⟨v,vr,rfl,r1,r2⟩:=h
   cases (show v=_ from r1)
   cases r with
   | cons q t =>
    cases q
    rw[Aa e1 r2 t]
    rfl
  | _=>cases e
theorem Ms{pins:List (RY×Obj)}{σ:L2.St}{H:Hp}{s:RX}{Q:RU->RX->Prop}{E:RU->RX->Prop}{d:D}{x:V}{u:RU}{n:String}(I:L2.Inv X pins σ H s)(rx:RelV x u)(r:Rep X.K H d x)(ho:JV d=false)
  (e:W.kitOne X.K (.type (Km d)) (.type n)=some (LA d n)) (h:∀tk,Q (.bool (LA d n)) {s with toks:=tk}):wpAny (model X.prog X.w) X.A (call (.builtin "isinstance") [u,.type n]) Q E s:=by
 cases d with
 | non=>cases (show x=_ from r);cases rx;exact W.kia_one W.kitx_none I.kIn True.intro e (fun z=>nomatch z) h
 | bl y=>cases (show x=_ from r);cases rx;exact W.kia_one W.kitx_bool I.kIn True.intro e (fun z=>nomatch z) h
 | int i=>cases (show x=_ from r);obtain⟨t,rfl⟩:=rx;exact W.kia_one W.kitx_int I.kIn True.intro e (fun z=>nomatch z) h
 | str y=>cases (show x=_ from r);obtain⟨t,rfl⟩:=rx;exact W.kia_one W.kitx_str I.kIn True.intro e (fun z=>nomatch z) h
 | tup ds =>
  obtain⟨a,vs,rfl,hq,t⟩:=r
  cases rx
  obtain⟨its,_,⟨o,h1,h2,_⟩,_⟩:=I.tuple hq
  exact W.kia_one W.kitx_tuple I.kIn ⟨o,h1,h2⟩ e (fun z=>nomatch z) h
 | lst ds =>
  obtain⟨a,vs,rfl,hq,t⟩:=r
  cases rx
  obtain⟨_,_,n,_,_,h1⟩:=I.lstM hq
  exact W.kia_one W.kitx_list I.kIn ⟨_,h1,rfl⟩ e (fun z=>nomatch z) h
 | fro ds =>
  obtain⟨a,vs,rfl,hq,t⟩:=r
  cases rx
  obtain⟨its,_,⟨o,n,h1,h2,h3,h4⟩,_⟩:=I.list hq
  exact W.kia_one W.kitx_list I.kIn ⟨o,h1,h2⟩ e (fun z=>nomatch z) h
 | obj k a ks ds=>cases ho
 | rf a=>cases ho
def A4(K:RW)(n:String):Prop:=∀d:D,JV d=false->W.kitOne K (.type (Km d)) (.type n)=some (LA d n)
theorem Ki(K:RW):A4 K "int":=fun d h=>by cases d<;>first | rfl | cases h
theorem IV(K:RW):A4 K "bool":=fun d h=>by cases d<;>first | rfl | cases h
theorem JC(K:RW):A4 K "str":=fun d h=>by cases d<;>first | rfl | cases h
theorem kit_tuple(K:RW):A4 K "tuple":=fun d h=>by cases d<;>first | rfl | cases h
theorem Hz(K:RW):A4 K "list":=fun d h=>by cases d<;>first | rfl | cases h
theorem isi_call{n:String}(hk:A4 X.K n):CallR X (.builtin "isinstance") (fun xs H Q=>∃d x,xs=[x,.ty n]/\Rep X.K H d x/\JV d=false/\Q (.bl (LA d n)) H):=by
 intro pins s σ H xs us Q I r h
 obtain⟨d,x,rfl,rd,ho,q⟩:=h
 obtain⟨u,w',rfl,ru,rw'⟩:=vals2 r
 cases rw'
 exact Ms I ru rd ho (hk d ho) fun tk=>⟨.bl (LA d n),H,I.tok tk,rfl,q⟩
theorem pJ{n:String}{x:Str}{a:Sr}{f:R->OD}{p p2 pos:Pos}(hm:X.mg "isinstance" = none)(hmT:X.mg x=none)(ha:SE X a f)(hk:A4 X.K n:=by first | exact Ki _ | exact IV _ | exact JC _ | exact kit_tuple _ | exact Hz _)(hv:bootBuiltins x=some (.type n):=by kernel_rfl)
  (hg:Gl X "isinstance":=by rfl) (hgT:Gl X x:=by rfl) (hn:x ≠ "__name__":=by decide) (hd:(x==("__debug__" : Str))=false:=by decide)
  (hst:noStar a=true:=by rfl) (hv2:bootBuiltins "isinstance" = some (.builtin "isinstance"):=by kernel_rfl) :
  SE X (.Call (.Name "isinstance" p) [a,.Name x p2] [] pos) (Q_ n f):=
 (nh (isi_call hk) hg hm hv2 (eD ha (eD (rQ (v:=.ty n) hgT hmT hv rfl hn hd) AU) (aF [.Name x p2] X.env hst)) (by decide) (by decide) (aF [.Name x p2] X.env hst) rfl).imp fun σ H Q ⟨ρ,d,er,e,q⟩=>by
  obtain⟨y,e1,e2⟩:=h9 e
  split at e2
  ·cases e2
  ·rename_i ho
   cases e2
   exact⟨ρ,y,er,e1,fun v H1 s1 r1=>⟨y,v,rfl,r1,by simpa using ho,q _ H1 s1 rfl⟩⟩
theorem cC{k:Nat}(hr:ua k X.A):EH X .Eq vY:=by
 intro pins s σ H x y v u Q I rx ry h
 obtain⟨dx,dy,b,r1,r2,e,q⟩:=h
 have sc:IE x y=true->decide (x=y)=b->wpAny (model X.prog X.w) X.A (compareOp .Eq v u) (EP X pins σ Q) X.xe s:=fun z1 z2=>Lg pins s σ H x y v u Q I rx ry ⟨z1,by rw[z2];exact q⟩
 cases dx with
 | int i=>obtain⟨j,e1,e⟩:=t7 e;cases (show x=_ from r1);cases vI e1 r2;exact sc rfl (zX.trans e)
 | str i=>obtain⟨j,e1,e⟩:=t7 e;cases (show x=_ from r1);cases D8 e1 r2;exact sc rfl (zJ.trans e)
 | bl i=>obtain⟨j,e1,e⟩:=t7 e;cases (show x=_ from r1);cases HP e1 r2;exact sc rfl (Bm.trans e)
 | _=>cases e
theorem sE{k:Nat}(hr:ua k X.A):EH X .NotEq NC:=by
 intro pins s σ H x y v u Q I rx ry h
 obtain⟨dx,dy,b,r1,r2,e0,q⟩:=h
 obtain⟨c,e,rfl⟩:=t7 e0
 clear e0
 have sc:IE x y=true->decide (x=y)=c->wpAny (model X.prog X.w) X.A (compareOp .NotEq v u) (EP X pins σ Q) X.xe s:=fun z1 z2=>OK pins s σ H x y v u Q I rx ry ⟨z1,by rw[z2];exact q⟩
 cases dx with
 | int i=>obtain⟨j,e1,e⟩:=t7 e;cases (show x=_ from r1);cases vI e1 r2;exact sc rfl (zX.trans e)
 | str i=>obtain⟨j,e1,e⟩:=t7 e;cases (show x=_ from r1);cases D8 e1 r2;exact sc rfl (zJ.trans e)
 | bl i=>obtain⟨j,e1,e⟩:=t7 e;cases (show x=_ from r1);cases HP e1 r2;exact sc rfl (Bm.trans e)
 | _=>cases e
variable{a:Sr}{f:R->OD}{pos p2:Pos}{lo hi:RT Sr}{l h:R->RT (RT Int)}
theorem iM:SO X none Pe:=JR.imp fun σ H Q ⟨ρ,o,er,e,q⟩=>by
 cases e
 exact q H (i6.refl H)
theorem iO(ha:SE X a f):SO X (some a) (aP f):=(KJ ha).imp fun σ H Q ⟨ρ,o,er,e,q⟩=>by
 obtain⟨x,e1,e2⟩:=h9 e
 refine⟨ρ,x,er,e1,fun v H1 s1 r1=>?_⟩
 cases x with
 | int i=>cases e2;exact⟨i,r1,q H1 s1⟩
 | _=>cases e2
theorem Gi(n d:Nat)(o:RT Int):Hf n d o=HT.sIx n d o:=rfl
theorem B3{prog:R9}{w:Sk}{A:Sv}{E:RU->RX->Prop}{s:RX}{t sl:RY}{items:Array RU}{vl vu:RU}{lo hi:RT Int}{Q:RU->RX->Prop}(ht:IsTup s.heap t items)(hs:s.heap.IsSliceOf sl vl vu .none)(pl:IsPart vl lo)(pu:IsPart vu hi)
  (hw:HT.sIx items.size 0 lo=0/\HT.sIx items.size items.size hi=items.size) (h:Q (.ref t) s):wpAny (model prog w) A (getItem (.ref t) (.ref sl)) Q E s:=by
 obtain⟨os,hos,hcs,hds⟩:=id hs
 have hTs:s.TypeIs (.ref sl) "slice":=⟨os,hos,hcs⟩
 unfold getItem
 try with_reducible refine wpAny_holding ?_
 first | refine RV (R5 ?_) | skip
 refine RV (wpAny_sequenceKey ht.typeIs (by decide) ?_)
 refine RV (wpAny_callSpecial?_slot (name:=oS "__getitem__") ht.typeIs PyProof.Rows.slot_tuple_getitem
  (wpAny_call_entry PyProof.Rows.slot_tuple_getitem ht.typeIs entry_tuple_getitem ?_ (args_tuple_getitem _ _)))
 show wpAny _ _ (Builtin.Tuple.tupleItemsOf (.ref t) >>= _) _ _ s
 refine RV (tupleItemsOf_ ht ?_)
 refine RV (wpAny_typeOf hTs ?_)
 rw[R3 (by decide)]
 refine RV (HT.sliceApplied_gen hs pl pu ?_)
 have hyes:((((HT.sIx items.size 0 lo:Nat):Int)==0&&(1:Int)==1&&(HT.sIx items.size items.size hi - HT.sIx items.size 0 lo)==items.size)=true):=by
  rw[hw.1,hw.2];simp
 show wpAny _ _ (if (((HT.sIx items.size 0 lo:Nat):Int)==0&&(1:Int)==1&&(HT.sIx items.size items.size hi - HT.sIx items.size 0 lo)==items.size)=true then _ else _) _ _ s
 rw[R3 hyes]
 refine RV (m:=Builtin.Tuple.tupleIsExact _) (RV (wpAny_typeOf ht.typeIs (R5 ?_)))
 rw[R3 (by decide)]
 exact RV (wpAny_rule (R5 ⟨_,rfl,R5 h⟩))
theorem EQ{xs:List V}{lo hi:RT Int}(h:HT.sIx xs.length 0 lo=0/\HT.sIx xs.length xs.length hi=xs.length):AC xs lo hi=xs:=by
 unfold AC
 rw[h.1,h.2,List.drop_zero,Nat.sub_zero,List.take_length]
def Qz(K:RW):V->RT Int->RT Int->Hp->VK->Prop:=fun x lo hi H Q=>∃a xs,x=.ref a/\xn K H a xs/\∀p H',i6 H H'->xn K H' p (AC xs lo hi)->Q (.ref p) H'
theorem L3:LE X (Qz X.K):=by
 intro pins s σ H x v vl vu lo hi sl Q I rx hs pl pu h
 obtain⟨a,xs,rfl,hx,q⟩:=h
 by_cases hw:HT.sIx xs.length 0 lo=0/\HT.sIx xs.length xs.length hi=xs.length
 ·cases rx
  obtain⟨its,r,ht,hz⟩:=I.tuple hx
  have hlen:its.toArray.size=xs.length:=by rw[Sb];exact r.length.symm
  refine⟨"tuple",_,PyProof.Rows.slot_tuple_getitem.lookup,ht.typeIs,?_⟩
  exact B3 ht hs pl pu (by rw[hlen];exact hw) ⟨.ref a,H,I,rfl,q a H (i6.refl H) (by rw[EQ hw];exact hx)⟩
 ·exact M1 pins s σ H (.ref a) v vl vu lo hi sl Q I rx hs pl pu ⟨a,xs,rfl,hx,hw,fun p hp=>q p _ (bh hp _) (xn.of au)⟩
theorem oy{K:RW}{H:Hp}{ds:LD}{xs:List V}(t:i5 K H ds xs)(lo hi:RT Int):i5 K H (cutD ds lo hi) (AC xs lo hi):=by
 unfold cutD AC
 rw[t.length,Gi,Gi]
 exact(t.drop _).take _
theorem gB(ha:SE X a f)(hl:SO X lo l)(hh:SO X hi h):SE X (.Subscript a (.Slice lo hi none p2) pos) (LQ f l h):=(qy (L3.or KN) ha hl hh).imp fun σ H Q ⟨ρ,d,er,e,q⟩=>by
 obtain⟨x,e1,e⟩:=h9 e
 obtain⟨o1,e2,e⟩:=h9 e
 obtain⟨o2,e3,e⟩:=h9 e
 refine⟨ρ,x,er,e1,fun v H1 s1 r1=>⟨ρ,o1,er.mono s1,e2,fun H2 s2=>⟨ρ,o2,er.mono (s1.trans s2),e3,fun H3 s3=>?_⟩⟩⟩
 cases x with
 | tup xs =>
  cases e
  obtain⟨a,vs,rfl,hq,t⟩:=(r1.mono (s2.trans s3))
  exact .inl ⟨a,vs,rfl,hq,fun p H4 s4 sq=>q _ H4 (s1.trans (s2.trans (s3.trans s4))) ⟨p,_,rfl,sq,(oy t o1 o2).mono s4⟩⟩
 | lst xs =>
  cases e
  obtain⟨a,vs,rfl,hq,t⟩:=(r1.mono (s2.trans s3))
  refine .inr ⟨a,vs,rfl,wj.of hq,fun p hp=>?_⟩
  have s4:=bh hp (.lst (AC vs o1 o2))
  exact q _ _ (s1.trans (s2.trans (s3.trans s4))) ⟨p,_,rfl,au,(oy t o1 o2).mono s4⟩
 | _=>cases e
theorem mF:∀{xs:List V} {us:List RU},l6 xs us->l6 xs.reverse us.reverse
 | _,_,.nil=>.nil
 | _,_,.cons r t=>by
  rw[List.reverse_cons,List.reverse_cons]
  exact(mF t).append (.cons r .nil)
end
set_option maxHeartbeats 2000000
noncomputable def vW(names:List (Str×NameKind))(cells:List (Str×RY))(acc:List (Str×RY)):List (Str×RY):=
 match names with
 | []=>acc
 | (n,k)::r=>vW r cells (if k==.free then (match cells.lookup n with | some c=>(n,c)::acc | none=>acc) else acc)
theorem y_ {env:Env}:∀ (names:List (Str×NameKind)) (acc:List (Str×RY)),(∀ p∈names,p.2=.free->∃ c,env.cells.lookup p.1=some c) ->
    (forIn names acc fun x r=>(match x with
      | (name,kind)=>if (kind==NameKind.free)=true then do
          let c <- cellOf env name
          pure (ForInStep.yield ((name,c)::r))
        else pure (ForInStep.yield r):Sem (ForInStep (List (Str×RY)))))=(pure (vW names env.cells acc):Sem (List (Str×RY)))
  | [],acc,_=>rfl
  | (n,k)::r,acc,h=>by
    rw[List.forIn_cons]
    cases hk:(k==NameKind.free) with
    | false =>
      have ih:=y_ r acc fun p hp=>h p (Su _ hp)
      simp only[hk,vW,Bool.false_eq_true,if_false]
      exact ih
    | true =>
      obtain⟨c,hc⟩:=h (n,k) SY (by simpa using hk)
      have ih:=y_ r ((n,c)::acc) fun p hp=>h p (Su _ hp)
      have hcell:cellOf env n=pure c:=by unfold cellOf;rw[show env.cells.lookup n=some c from hc]
      simp only[hk,vW,if_true,hcell,show env.cells.lookup n=some c from hc]
      exact ih
theorem Ff{scope:Scope}{env:Env}(h:∀p∈scope.names,p.2=.free->∃c,env.cells.lookup p.1=some c):closureFor scope env=pure (vW scope.names env.cells []):=by
 unfold closureFor
 have:=y_ scope.names [] h
 simp only[bind_pure]
 exact this
theorem wy{β:Type}{y n:Str}{c:β}{l:List (Str×β)}:List.lookup y ((n,c)::l)=if y=n then some c else List.lookup y l:=by
 rw[List.lookup_cons]
 by_cases h:y=n
 ·subst h;simp
 ·have:(y==n)=false:=by simpa using h
  rw[this,Sa h]
theorem AH{cells:List (Str×RY)}:∀(names:List (Str×NameKind)) (acc:List (Str×RY)),(∀y c,acc.lookup y=some c->cells.lookup y=some c)->∀y c,(vW names cells acc).lookup y=some c->cells.lookup y=some c
 | [],acc,h=>h
 | (n,k)::r,acc,h=>by
  unfold vW
  refine AH r _ ?_
  split
  ·cases hc:cells.lookup n with
   | none=>exact h
   | some c0 =>
    intro y c hy
    rw[wy] at hy
    split at hy
    ·rename_i e
     subst e
     cases hy
     exact hc
    ·exact h y c hy
  ·exact h
theorem CA{cells:List (Str×RY)}{y:Str}:∀(names:List (Str×NameKind)) (acc:List (Str×RY)),(acc.lookup y).isSome=true->((vW names cells acc).lookup y).isSome=true
 | [],acc,h=>h
 | (n,k)::r,acc,h=>by
  unfold vW
  refine CA r _ ?_
  split
  ·cases hc:cells.lookup n with
   | none=>exact h
   | some c0 =>
    dsimp only
    rw[wy]
    split
    ·rfl
    ·exact h
  ·exact h
theorem Ej{cells:List (Str×RY)}{y:Str}{c:RY}(hc:cells.lookup y=some c):∀(names:List (Str×NameKind)) (acc:List (Str×RY)),(y,NameKind.free)∈names->((vW names cells acc).lookup y).isSome=true
 | (n,k)::r,acc,h=>by
  unfold vW
  rcases Sf.mp h with e | h
  ·cases e
   refine CA r _ ?_
   rw[R3 (show(NameKind.free==NameKind.free)=true by decide),hc]
   dsimp only
   rw[wy,R3 rfl]
   rfl
  ·exact Ej hc r _ h
theorem JE{cells:List (Str×RY)}{names:List (Str×NameKind)}{y:Str}{c:RY}(hc:cells.lookup y=some c)(h:(y,NameKind.free)∈names):(vW names cells []).lookup y=some c:=by
 obtain⟨c',e⟩:=Option.isSome_iff_exists.mp (Ej hc names [] h)
 have:=AH names [] (fun y c h=>by cases h) y c' e
 rw[hc] at this
 cases this
 exact e
theorem BB{env:Env}{y:Str}:∀(names:List (Str×NameKind)),(names.map fun (n,k)=>if (k==NameKind.free&&env.scope.kind==.function&&env.kindOf n==some .cell) then (n,NameKind.cell) else (n,k)).lookup y =
  (names.lookup y).map fun k=>if (k==NameKind.free&&env.scope.kind==.function&&env.kindOf y==some .cell) then NameKind.cell else k
 | []=>rfl
 | (n,k)::r=>by
  have hd:∀(c:Bool),(if c=true then (n,NameKind.cell) else (n,k))=(n,if c=true then NameKind.cell else k):=fun c=>by cases c<;>rfl
  rw[S3]
  show List.lookup y ((if (k==NameKind.free&&env.scope.kind==.function&&env.kindOf n==some .cell)=true then (n,NameKind.cell) else (n,k))::_)=_
  rw[hd,wy,wy]
  by_cases e:y=n
  ·subst e
   rw[R3 rfl,R3 rfl]
   rfl
  ·rw[Sa e,Sa e]
   exact BB r
noncomputable def AI(sc outer:Scope)(T N:List Str):Bool:=
 sc.kind==.function&&(sc.names.all fun p=>p.2 != .cell&&(p.2 != .local||(sc.names.lookup p.1==some .local&&(T.contains p.1||p.1==(".0" : Str))))&&(p.2 != .free||outer.names.lookup p.1==some .cell||outer.names.lookup p.1==some .free)) &&
  (T.all fun t=>sc.names.lookup t==some .local)&&!N.contains (".0" : Str)
structure C3 (sc outer:Scope) (T N:List Str):Prop where
 kind:sc.kind=.function
 nocell:∀y∈sc.names,y.2≠.cell
 names:∀y∈sc.names,y.2=.local->sc.names.lookup y.1=some .local
 loc:∀y,sc.names.lookup y=some .local->y∈T\/y=(".0" : Str)
 free:∀y∈sc.names,y.2=.free->outer.names.lookup y.1=some .cell\/outer.names.lookup y.1=some .free
 tg:∀t∈T,sc.names.lookup t=some .local
 no0:(".0" : Str)∉N
theorem Cg{sc outer:Scope}{T N:List Str}(h:AI sc outer T N=true):C3 sc outer T N:=by
 unfold AI at h
 rw[R1,R1,R1] at h
 obtain⟨⟨⟨h1,h2⟩,h3⟩,h4⟩:=h
 rw[SF] at h2 h3
 have g:∀y∈sc.names,y.2≠.cell/\(y.2=.local->sc.names.lookup y.1=some .local/\(y.1∈T\/y.1=(".0" : Str)))/\(y.2=.free->outer.names.lookup y.1=some .cell\/outer.names.lookup y.1=some .free):=fun y hy=>by
  have q:=h2 y hy
  rw[R1,R1] at q
  obtain⟨⟨q1,q2⟩,q3⟩:=q
  refine⟨by simpa using q1,fun hl=>?_,fun hf=>?_⟩
  ·rw[hl] at q2
   simpa using q2
  ·rw[hf] at q3
   simpa using q3
 refine⟨by simpa using h1,fun y hy=>(g y hy).1,fun y hy hl=>((g y hy).2.1 hl).1,fun y hy=>?_,fun y hy hf=>(g y hy).2.2 hf,fun t ht=>by simpa using h3 t ht,by simpa using h4⟩
 exact((g (y,.local) (S7 hy)).2.1 rfl).2
def B6(X:Cx)(T:List Str)(scope:Scope)(C:RY)(fp:List RY)(s₃:RX)(H₃:Hp):Cx where
 prog:=X.prog
 w:=X.w
 K:=X.K
 mg:=X.mg
 base:=X.base
 A:=X.A
 N:=T++X.N
 s₀:=s₃
 H₀:=H₃
 env:=compEnvC scope (vW scope.names X.env.cells []) C X.env
 outer:=X.stack
 stack:=X.stack
 ex:=fp
 fn:=fun _=>false
 calm:=X.calm
 pn:=[]
 xe:=fun _ _=>False
section
variable{X:Cx}{pins:List (RY×Obj)}{σ:L2.St}{H:Hp}{s:RX}{T:List Str}{scope:Scope}{C:RY}{fp:List RY}{h₁:Sq}{t:Nat}
theorem Iw(I:L2.Inv X pins σ H s)(ck:C3 scope X.env.scope T X.N)(hnd:(T++X.N).Nodup)(hf:∀b∈fp,zF X pins H b)(hfo:∀b∈fp,∃o,s.heap.get? b=some o)(hC:s.heap.objs.size<=C)
  (hk:∀b u,s.heap.get? b=some u->h₁.get? b=some u) (hns:h₁.Ns C (fun _=>none)) :
  L2.Inv (B6 X T scope C fp s H) [] (List.replicate T.length none++σ) H {s with heap:=h₁,toks:=t}:=by
 have hlt:∀b∈fp,b<s.heap.objs.size:=fun b hb=>let ⟨o,e⟩:=hfo b hb;R_ e
 have hcl:∀y c,(vW scope.names X.env.cells []).lookup y=some c->X.env.cells.lookup y=some c:=AH scope.names [] fun y c h=>by cases h
 have hfr:∀y,(y,NameKind.free)∈scope.names->(X.env.kindOf y=some .cell\/X.env.kindOf y=some .free)/\∃c,(vW scope.names X.env.cells []).lookup y=some c/\X.env.cells.lookup y=some c:=fun y hy=>by
  have k:=ck.free _ hy rfl
  obtain⟨c,hc⟩:=I.ok.has y k
  exact⟨k,c,JE hc hy,hc⟩
 have hkind:∀y,(compEnvC scope (vW scope.names X.env.cells []) C X.env).kindOf y=(scope.names.lookup y).map fun k=>if (k==NameKind.free&&X.env.scope.kind==.function&&X.env.kindOf y==some .cell) then NameKind.cell else k:=fun y=>BB scope.names
 have hvis:∀y,((compEnvC scope (vW scope.names X.env.cells []) C X.env).kindOf y=some .cell\/(compEnvC scope (vW scope.names X.env.cells []) C X.env).kindOf y=some .free)->(y,NameKind.free)∈scope.names:=fun y hy=>by
  rw[hkind] at hy
  cases hl:scope.names.lookup y with
  | none=>rw[hl] at hy;rcases hy with z | z<;>cases z
  | some k =>
   have hm:=S7 hl
   rw[hl] at hy
   cases k with
   | free=>exact hm
   | cell=>exact Sm rfl (ck.nocell _ hm)
   | «local»=>rcases hy with z | z<;>cases z
   | globalExplicit=>rcases hy with z | z<;>cases z
   | globalImplicit=>rcases hy with z | z<;>cases z
 refine⟨⟨I.ok.mod,ck.kind,I.ok.glob,I.ok.blt,hC,fun x y c h1 h2=>I.ok.inj x y c (hcl x c h1) (hcl y c h2),fun y hy=>?_,fun y c h=>Sm (show false=true from h) R6,I.ok.hd,I.ok.frames,.inl rfl,fun b hb=>⟨?_,fun x c h=>?_⟩,I.bs,
  Sx I.ok.bsz I.sz,fun b o e hb=>?_,fun b hb hz=>?_,I.stack,I.stkFree⟩,rfl,I.bare,Un.kept hk,⟨_,hns,fun i x v h1 h2 h3=>?_⟩,fun y c h=>?_,I.hok.fresh hC,fun y c h=>I.freeC y c (hcl y c h),fun p hp=>Sm (show p∈([]:List (RY×Obj)) from hp) (by simp),I.hok.kept hk,?_⟩
 ·obtain⟨_,c,h1,_⟩:=hfr y (hvis y hy)
  exact⟨c,h1⟩
 ·exact Sn (R8 (hlt b hb) hC)
 ·exact(hf b hb).2.2.2.2.1 x c (hcl x c h)
 ·rcases(hf b hb).2.2.2.1 with z | z
  ·exact I.ok.noex b o e z
  ·exact Sm (R8 (R_ e) (Sx I.ok.bsz z)) (SN _)
 ·rcases Sf.mp (I.stkSub b hz) with z | z
  ·exact(hf b hb).2.1 z
  ·exact(hf b hb).2.2.1 z
 ·by_cases hi:i<T.length
  ·rw[SZ (by simpa using hi),List.getElem?_replicate] at h2
   split at h2<;>cases h2
  ·rw[Sy (by simpa using hi),List.length_replicate] at h2
   have h1':X.N[i - T.length]?=some x:=by
    have z:(T++X.N)[i]?=some x:=h1
    rw[Sy (by omega)] at z
    exact z
   have hxN:x∈X.N:=S_ h1'
   have hxf:(x,NameKind.free)∈scope.names:=by
    rcases h3 with z | z | z
    ·have z':(compEnvC scope (vW scope.names X.env.cells []) C X.env).kindOf x=some .local:=z
     rw[hkind] at z'
     cases hl:scope.names.lookup x with
     | none=>rw[hl] at z';cases z'
     | some k =>
      rw[hl] at z'
      have hkl:k=.local:=by
       cases k with
       | «local»=>rfl
       | free=>simp at z';split at z'<;>cases z'
       | cell=>cases z'
       | globalExplicit=>cases z'
       | globalImplicit=>cases z'
      subst hkl
      rcases ck.loc x hl with q | q
      ·exact Sm rfl ((List.nodup_append.mp hnd).2.2 x q x hxN)
      ·exact Sm (q ▸ hxN) ck.no0
    ·exact hvis x (.inl z)
    ·exact hvis x (.inr z)
   obtain⟨hk2,c,hc1,hc2⟩:=hfr x hxf
   obtain⟨m,hm,hl⟩:=I.loc
   obtain⟨u,ru,lk⟩:=hl _ x v h1' h2 (hk2.elim (fun z=>.inr (.inl z)) fun z=>.inr (.inr z))
   refine⟨u,ru,.inr ⟨?_,c,hc1,?_⟩⟩
   ·rcases h3 with z | z | z
    ·exfalso
     have z':(compEnvC scope (vW scope.names X.env.cells []) C X.env).kindOf x=some .local:=z
     rw[hkind] at z'
     cases hl2:scope.names.lookup x with
     | none=>rw[hl2] at z';cases z'
     | some k =>
      rw[hl2] at z'
      have hkl:k=.local:=by
       cases k with
       | «local»=>rfl
       | free=>simp at z';split at z'<;>cases z'
       | cell=>cases z'
       | globalExplicit=>cases z'
       | globalImplicit=>cases z'
      subst hkl
      rcases ck.loc x hl2 with q | q
      ·exact Sm rfl ((List.nodup_append.mp hnd).2.2 x q x hxN)
      ·exact Sm (q ▸ hxN) ck.no0
    ·exact .inl z
    ·exact .inr z
   ·rcases lk with ⟨kl,_⟩ | ⟨_,c',hc',hcell⟩
    ·rcases hk2 with z | z
     ·rw[kl] at z;cases z
     ·rw[kl] at z;cases z
    ·rw[hc2] at hc'
     cases hc'
     obtain⟨o,ho,hd⟩:=hcell
     exact⟨o,hk _ _ ho,hd⟩
 ·obtain⟨v,o,ho,hd⟩:=I.cell y c (hcl y c h)
  exact⟨v,o,hk _ _ ho,hd⟩
 ·show(List.replicate T.length none++σ).length=(T++X.N).length
  rw[Sl,Sl,List.length_replicate,I.len]
end
theorem CY {prog:R9} {w:Sk} {A:Sv} {R':Result->RX->Prop} {s:RX} {elt target iter:Sr} {ifs:List Sr} {scope:Scope} {pos:Pos} {it acc:RU} {env:Env} (I:Nat->RX->Prop)
    (turn:∀n s,I n s->wpAny (model prog w) A (pyNext it) (fun r s₁=>match r with
      | none=>R' (.ok .next) s₁
      | some v=>wpAny (model prog w) A (letOwnedTupleGo target it v) (fun _ s₁'=>wpAny (model prog w) A (assign target env v) (fun _ s₂ =>
          wpAny (model prog w) A (forIn ifs true fun c r=>if r=true then do let ok <- isTrue c env (eval c env);pure (ForInStep.yield ok) else pure (ForInStep.yield r)) (fun ok s₃ =>
            if ok=true then wpAny (model prog w) A (eval elt env) (fun x s₄ =>
              wpAny (model prog w) A (call (.builtin "list.append") [acc,x]) (fun _ s₅=>∃m,m<n/\I m s₅) (fun _ _=>False) s₄) (fun _ _=>False) s₃
            else ∃m,m<n/\I m s₃) (fun _ _=>False) s₂) (fun _ _=>False) s₁') (fun _ _=>False) s₁) (fun _ _=>False) s)
    (n:Nat) (h:I n s):codeAny (model prog w) A (.compLoop (.ListComp elt [⟨target,iter,ifs,0⟩] scope pos) 0 it acc env) R' s:=by
  refine codeAny_loop rfl I (fun n s hI=>?_) n h
  show wpAny _ A ((compTurn (.ListComp elt [⟨target,iter,ifs,0⟩] scope pos) 0 it acc env).onRaise (fun x=>do noteFrame x env;theTreesLotGoes x)) _ _ s
  refine wpAny_noted ?_
  rw[compTurn_list]
  have ff:∀{E:RU->RX->Prop} (a:RU) (s:RX),False->E a s:=fun _ _ z=>z.elim
  refine RV (wpAny_standAt (RV (Tg (turn n s hI) (fun r s₁ h₁=>?_) ff)))
  cases r with
  | none=>exact R5 h₁
  | some v =>
    refine RV (Tg h₁ (fun _ s₁' h₁'=>?_) ff)
    refine RV (Tg h₁' (fun _ s₂ h₂=>RV (Tg h₂ (fun ok s₃ h₃=>?_) ff)) ff)
    cases ok with
    | false=>exact R5 ⟨rfl,h₃⟩
    | true =>
      exact RV (RV (Tg h₃ (fun x s₄ h₄=>RV (Tg h₄ (fun _ s₅ h₅=>R5 (R5 ⟨rfl,h₅⟩)) ff)) ff))
def Oy(X:Cx)(ifs:List Sr)(c:R->RT Bool):Prop:=
 ∀(pins:List (RY×Obj)) (s:RX) (σ:L2.St) (H:Hp) (Q:Bool->Hp->Prop),L2.Inv X pins σ H s->NP X.K c σ H Q ->
  wpAny (model X.prog X.w) X.A (forIn ifs true fun c r=>if r=true then do let ok <- isTrue c X.env (eval c X.env);pure (ForInStep.yield ok) else pure (ForInStep.yield r)) (TP X pins σ Q) X.xe s
theorem ll{X:Cx}:Oy X [] zd:=fun pins s σ H Q I ⟨ρ,b,er,e,q⟩=>by
 cases e
 exact wpAny_tests_nil ⟨H,I,q H (i6.refl H)⟩
theorem tN{X:Cx}{e:Sr}{c:R->RT Bool}(h:ST X e c):Oy X [e] c:=fun pins s σ H Q I q=>wpAny_tests_one (h pins s σ H Q I q)
section
variable{X:Cx}{pins:List (RY×Obj)}{σ:L2.St}{H:Hp}{s:RX}{T:List Str}{scope:Scope}
def Gu(k:Nat)(stf:D->R->RT R):Prop:=∀(d:D) (τ ρ ρ1:R),τ.length=k->stf d (τ++ρ)=some ρ1->∃ τ',τ'.length=k/\ρ1=τ'++ρ
theorem xl{k i:Nat}(h:i<k):Gu k (setAt i):=fun d τ ρ ρ1 hl e=>by
 unfold setAt at e
 split at e
 ·cases e
  exact⟨τ.set i (some d),by simp[hl],List.set_append_left _ _ (by omega)⟩
 ·cases e
theorem ut.forget{K:RW}{H:Hp}{τ ρ:R}{σ:L2.St}(e:ut K H (τ++ρ) σ):ut K H (List.replicate τ.length none++ρ) σ:=by
 refine⟨by have:=e.1;simpa using this,fun i d h=>?_⟩
 by_cases hi:i<τ.length
 ·rw[SZ (by simpa using hi),List.getElem?_replicate] at h
  split at h<;>cases h
 ·rw[Sy (by simpa using hi),List.length_replicate] at h
  exact e.2 i d (by rw[Sy (by omega)];exact h)
theorem O5{a:RY}{o:HO}(I:L2.Inv X pins σ H s)(f:zF X pins H a)(new:vn X.prog X.w (upd H a o) s.heap a o):L2.Inv X pins σ (upd H a o) s:=by
 obtain⟨f0,f1,f2,f3,f4,f5⟩:=f
 have ne:∀{b:RY} {u:HO},H b=some u->b≠a:=fun e z=>by rw[z,f0] at e;cases e
 refine⟨I.ok,I.os,I.bare,⟨I.base.keep,I.base.slot,fun b ob e n hx=>?_,I.base.there,fun b xs e=>?_,fun b ob u ny e=>?_,fun b ps d e=>?_⟩,I.loc,I.cell,?_,fun x c e=>?_,fun p hp=>?_,fun b u e=>?_,I.len⟩
 ·have hb:b≠a:=fun z=>by
   rcases f3 with q | q
   ·exact hx (z ▸ q)
   ·exact Sm (R8 (R_ e) (z ▸ q)) (SN _)
  rw[aq hb]
  exact I.base.free b ob e n hx
 ·have q:=I.base.tups b xs e
  rw[aq (ne q)]
  exact q
 ·have q:=I.base.frzs b ob u ny e
  rw[aq (ne q)]
  exact q
 ·have q:=I.base.tbls b ps d e
  rw[aq (ne q)]
  exact q
 ·rw[aq (Ne.symm f1)]
  exact I.free
 ·rw[aq (f4 x c e)]
  exact I.freeC x c e
 ·obtain⟨q1,q2,q3⟩:=I.pin p hp
  exact⟨q1,by rw[aq (f5 p hp)];exact q2,q3⟩
 ·by_cases hb:b=a
  ·subst hb
   rw[au] at e
   cases e
   exact new
  ·rw[aq hb] at e
   refine(I.hok b u e).stay (fun _ _ _ q=>q) (fun c q=>?_) (fun c xs q=>?_) fun c _ _ q=>?_
   ·rw[aq (ne q)];exact q
   ·rw[aq (ne q)];exact q
   ·rw[aq (ne q)];exact q
theorem K6{C:RY}{fp:List RY}{s₃:RX}{H₃ H':Hp}{b:RY}{pl:List (RY×Obj)}(hb:b∈fp\/s₃.heap.objs.size<=b)(hC:b≠C)(hfs:b∉xu X.stack)(hcells:∀x c,(vW scope.names X.env.cells []).lookup x=some c->c≠b)(hn:H' b=none)(hp:∀p∈pl,p.1≠b) :
  zF (B6 X T scope C fp s₃ H₃) pl H' b:=⟨hn,hC,hfs,hb,hcells,fun p hp'=>hp p hp'⟩
theorem m_{elt iter tg:Sr}{ifs:List Sr}{pos:Pos}{it:RY}{fp:List RY}{tn:Nat->Sq->Prop}{J:It}{E:RU->RX->Prop}{ρ:R}{ds out:LD}{stf:D->R->RT R}{cf:R->RT Bool}{ef:R->OD}
  (I:L2.Inv X pins σ H s) (hc:X.calm=true) (Tn:Turn X.prog X.w X.K tg J fp it tn) (st:tn 0 s.heap) (hf:∀b∈fp,zF X pins H b)
  (ck:C3 scope X.env.scope T X.N) (hnd:(T++X.N).Nodup) (hst:Gu T.length stf) (er:ut X.K H ρ σ) (y:wW X.K J ds H) (hz:ds.length<=sizeLine) (hout:vB stf cf ef ds (List.replicate T.length none++ρ)=some out)
  (hg:∀C s₃ H₃ fp,SG (B6 X T scope C fp s₃ H₃) tg stf) (hcnd:∀C s₃ H₃ fp,Oy (B6 X T scope C fp s₃ H₃) ifs cf) (he:∀C s₃ H₃ fp,SE (B6 X T scope C fp s₃ H₃) elt ef)
  {RR:RU->RY->Result->RX->Prop}
  (hRR:∀(a C:RY) (H':Hp) (s':RX) (vs:List V),i6 H H'->H' a=some (.lst vs)->i5 X.K H' out vs->L2.Inv X pins σ H' s'->zF X pins H' C->(∃m,s'.heap.Ns C m)->RR (.ref a) C (.ok .next) s') :
  wpAny (model X.prog X.w) X.A (newList []) (fun acc s₃=>wpAny (model X.prog X.w) X.A (newFunctionEnv scope X.env.globals (vW scope.names X.env.cells []) [] X.env.qual none .none (some X.env)) (fun cenv s₄ =>
   codeAny (model X.prog X.w) X.A (.compStart (.ListComp elt [⟨tg,iter,ifs,0⟩] scope pos) 0 (.ref it) acc {cenv with scope:=relabel scope X.env}) (RR acc cenv.locals) s₄) E s₃) E s:=by
 refine S6 (wpAny_newFunctionEnv ck.nocell (by intro y hy;simp at hy) (fun h₁ hns₁ hsb₁=>?_) ck.kind)
 dsimp only at hns₁ hsb₁ ⊢
 generalize hH2:s.heap.push {cls:=.type "list",dict:=none,data:=.seq ([]:List RU).toArray}=H2 at hns₁ hsb₁ ⊢
 generalize ha:s.heap.objs.size=a at *
 generalize hCe:H2.objs.size=C at hns₁ hsb₁ ⊢
 have hC:C=a+1:=by rw[<- hCe,<- hH2,Heap.size_push,ha]
 have haC':a<C:=by rw[hC];exact Tj a
 have haC:a≠C:=Sn haC'
 have hle:s.heap.objs.size<=a:=Nat.le_of_eq ha
 have hCle:s.heap.objs.size<=C:=Sx hle (Nat.le_of_lt haC')
 have hlta:∀{b:RY} {o:Obj},s.heap.get? b=some o->b<a:=fun e=>R8 (R_ e) hle
 have old:∀b o,s.heap.get? b=some o->h₁.get? b=some o:=fun b o e=>hsb₁.extBut b o (Sn (Nat.lt_trans (hlta e) haC')) (R0 _ (hH2 ▸ R0 _ e))
 have hacc:h₁.get? a=some {cls:=.type "list",data:=.seq ([]:List RU).toArray}:=hsb₁.extBut _ _ haC (R0 _ (hH2 ▸ (ha ▸ Sd _ rfl)))
 have hfo:∀b∈fp,∃o,s.heap.get? b=some o:=fun b hb=>let ⟨o,e,_⟩:=Tn.obj 0 _ st b hb;⟨o,e⟩
 have hlt:∀b∈fp,b<a:=fun b hb=>let ⟨o,e⟩:=hfo b hb;hlta e
 have hns:h₁.Ns C (fun _=>none):=hns₁
 have I0:L2.Inv (B6 X T scope C fp s H) [] (List.replicate T.length none++σ) H {s with heap:=h₁,toks:=s.toks+([]:List (Str×RU)).length}:=Iw I ck hnd hf hfo hCle old hns
 have hcl:∀y c,(vW scope.names X.env.cells []).lookup y=some c->X.env.cells.lookup y=some c:=AH scope.names [] fun y c h=>by cases h
 have hfs:∀b,a<=b->b∉xu X.stack:=fun b hb hz=>by
  rcases Sf.mp (I.stkSub b hz) with z | z
  ·exact Sm (R8 I.lt (Sx hle (z ▸ hb))) (SN _)
  ·exact I.nofs (Sx hle hb) z
 have hcells:∀b,a<=b->∀x c,(vW scope.names X.env.cells []).lookup x=some c->c≠b:=fun b hb x c h z=>by
  obtain⟨v,q⟩:=I.cell x c (hcl x c h)
  exact Sm (R8 q.lt (Sx hle (z ▸ hb))) (SN _)
 have hfpok:∀{H':Hp} {pl:List (RY×Obj)},(∀b∈fp,H' b=none)->(∀p∈pl,p.1∉fp)->∀b∈fp,zF (B6 X T scope C fp s H) pl H' b:=fun {H' pl} hn hp b hb =>
  K6 (.inl hb) (Sn (Nat.lt_trans (hlt b hb) haC')) (I0.ok.exfs b hb) (fun x c h=>(I0.ok.exf b hb).2 x c h) (hn b hb) fun p hp' z=>hp p hp' (z ▸ hb)
 have hAok:∀{H':Hp},H' a=none->∀b ∈ [a],zF (B6 X T scope C fp s H) [] H' b:=fun {H'} hn b hb=>by
  cases R4.mp hb
  exact K6 (.inr hle) haC (hfs a (Se _)) (hcells a (Se _)) hn fun p hp=>Sm hp (by simp)
 have hAfp:a∉fp:=fun z=>SN _ (hlt a z)
 have loop:codeAny (model X.prog X.w) X.A (.compLoop (.ListComp elt [⟨tg,iter,ifs,0⟩] scope pos) 0 (.ref it) (.ref a) (compEnvC scope (vW scope.names X.env.cells []) C X.env))
   (RR (.ref a) C) {s with heap:=h₁,toks:=s.toks+([]:List (Str×RU)).length}:=by
  refine CY (fun n s'=>∃i σ' H' vs its k done rest,n=ds.length - i/\i<=ds.length/\L2.Inv (B6 X T scope C fp s H) [] σ' H' s'/\tn i s'.heap/\(∀b∈fp,H' b=none)/\H' a=none/\i6 H H' /\
   s'.heap.get? a=some {cls:=.type "list",data:=.seq (its:List RU).toArray k}/\l6 vs its/\i5 X.K H' done vs/\vs.length<=i/\ut X.K H' (List.replicate T.length none++ρ) σ' /\
   vB stf cf ef (ds.drop i) (List.replicate T.length none++ρ)=some rest/\out=done++rest) ?_ ds.length
   ⟨0,_,H,[],[],0,[],out,by omega,SU _,I0,Tn.keep _ _ _ st (fun b hb o e=>old b o e),fun b hb=>(hf b hb).1,I.hok.fresh hle,i6.refl H,hacc,.nil,rfl,SU _,er.front T.length (List.replicate T.length none) (by simp),by simpa using hout,rfl⟩
  rintro n s' ⟨i,σ',H',vs,its,k,done,rest,rfl,hi,I',st',hn',hna,sm,ho,hv,hrd,hvl,er',hrest,hsum⟩
  have Ip:=I'.pinned (fp:=[a]) (hAok hna) fun b hb=>by
   cases R4.mp hb
   exact⟨_,ho,fun v z=>by cases z⟩
  generalize hP:([]:List (RY×Obj))++y8 [a] s'.heap=P at Ip
  have hPm:(a,({cls:=.type "list",data:=.seq its.toArray k}:Obj))∈P:=by rw[<- hP];exact Ss _ (du (by simp) ho)
  have hPa:∀p∈P,p.1∉fp:=fun p hp z=>by
   rw[<- hP] at hp
   obtain⟨q,_⟩:=Cf hp
   rw[R4.mp q] at z
   exact hAfp z
  by_cases hlt':i<ds.length
  ·have hd:ds[i]?=some ds[i]:=by simp[hlt']
   obtain⟨hgo,hy⟩:=y.1 i ds[i] H' (Kp.of sm) hd
   rw[Tb hlt'] at hrest
   obtain⟨ρ1,e1,hrest⟩:=h9 hrest
   obtain⟨b,e2,hrest⟩:=h9 hrest
   obtain⟨o,e3,hrest⟩:=h9 hrest
   obtain⟨rest',e4,e5⟩:=t7 hrest
   obtain⟨τ,hτ,hρ1⟩:=hst ds[i] (List.replicate T.length none) ρ ρ1 (by simp) e1
   refine uo (Tn.item (B6 X T scope C fp s H) rfl rfl rfl hc i P s' σ' H' (fun _ _=>False) Ip (hfpok hn' hPa) st' hgo) fun r s1 ⟨u,hr,h4⟩=>?_
   subst hr
   refine uo h4 fun _ s2 ⟨x,H2',I2,r2,y2,st2,fr2⟩=>?_
   obtain⟨s12,rx⟩:=hy x H2' y2
   have I3:=I2.pinned (fp:=fp) (hfpok fr2 hPa) (Tn.obj _ _ st2)
   refine uo (hg C s H fp _ s2 σ' H2' x u (fun σ3 H3=>i6 H2' H3/\ut X.K H3 ρ1 σ3) I3 r2 ⟨_,_,ds[i],ρ1,(er'.mono s12).t,rx,e1,fun σ3 H3 s3 er3=>⟨s3,er3.1⟩⟩) fun _ s3 ⟨σ3,H3,I4,s23,er3⟩=>?_
   refine uo (hcnd C s H fp _ s3 σ3 H3 (fun b' H4=>b'=b/\i6 H3 H4) I4 ⟨ρ1,b,er3,e2,fun H4 s4=>⟨rfl,s4⟩⟩) fun b' s4 ⟨H4,I5,hb',s34⟩=>?_
   subst hb'
   have fin:∀{H5:Hp} {s5:RX},L2.Inv (B6 X T scope C fp s H) (P++y8 fp s2.heap) σ3 H5 s5->(∀b∈fp,H5 b=none)/\H5 a=none/\s5.heap.get? a=some {cls:=.type "list",data:=.seq its.toArray k}/\(∀b∈fp,∀o,s2.heap.get? b=some o->s5.heap.get? b=some o):=fun {H5 s5} I6=>by
    refine⟨fun b hb=>?_,(I6.pin _ (Ss _ (S2 _ hPm))).2.1,(I6.pin _ (Ss _ (S2 _ hPm))).1,fun b hb o e=>(I6.pin (b,o) (Ss _ (Ss _ (du hb e)))).1⟩
    obtain⟨o,e,_⟩:=Tn.obj _ _ st2 b hb
    exact(I6.pin (b,o) (Ss _ (Ss _ (du hb e)))).2.1
   have unpin:∀{H5:Hp} {s5:RX},L2.Inv (B6 X T scope C fp s H) (P++y8 fp s2.heap) σ3 H5 s5->L2.Inv (B6 X T scope C fp s H) [] σ3 H5 s5:=fun I6=>I6.pins_of fun p hp=>Sm hp (by simp)
   have erb:∀{H5:Hp},i6 H3 H5->ut X.K H5 (List.replicate T.length none++ρ) σ3:=fun s5=>by
    have z:=er3.mono s5
    rw[hρ1] at z
    have z2:=z.forget
    rw[hτ] at z2
    exact z2
   cases b' with
   | false =>
    cases e3
    rw[Sa R6]
    obtain⟨q1,q2,q3,q4⟩:=fin I5
    have sm4:i6 H H4:=sm.trans (s12.trans (s23.trans s34))
    have smr:i6 H' H4:=s12.trans (s23.trans s34)
    exact⟨ds.length - (i+1),by omega,i+1,σ3,H4,vs,its,k,done,rest',rfl,hlt',unpin I5,Tn.keep _ _ _ st2 q4,q1,q2,sm4,q3,hv,hrd.mono smr,Nat.le_succ_of_le hvl,erb s34,e4,by rw[hsum,<- e5]⟩
   | true =>
    rw[R3 rfl] at e3 ⊢
    obtain⟨yv,e6,e7⟩:=t7 e3
    subst e7
    refine uo (he C s H fp _ s4 σ3 H4 (fun v H5=>i6 H4 H5/\Rep X.K H5 yv v) I5 ⟨ρ1,yv,er3.mono s34,e6,fun v H5 s5 r5=>⟨s5,r5⟩⟩) fun xv s5 ⟨v,H5,I6,rv,s45,ry⟩=>?_
    obtain⟨q1,q2,q3,q4⟩:=fin I6
    have hl:=hv.length
    refine call_meets F.slot_list_append ⟨_,q3,rfl⟩ F.entry_list_append (F.args_list_append_2 _ _) (PySem.list_append a its.toArray k xv (by rw[Sb];omega)) ⟨q3,?_⟩
    have q:=PySem.IsL.update q3 (fun xs=>xs.push xv)
    have sm5:i6 H H5:=sm.trans (s12.trans (s23.trans (s34.trans s45)))
    have smr:i6 H' H5:=s12.trans (s23.trans (s34.trans s45))
    have I7:L2.Inv (B6 X T scope C fp s H) [] σ3 H5 {s5 with heap:=s5.heap.update a (Obj.mapSeq fun xs=>xs.push xv),toks:=s5.toks}:=
     (unpin I6).turned (it:=a) (t':=s5.toks) (fun b ob hb hu=>(SC s5.heap _ (Ne.symm hb)).trans hu) q2 haC (.inr hle) (hcells a (Se _)) fun p hp=>Sm (show p∈([]:List (RY×Obj)) from hp) (by simp)
    refine⟨ds.length - (i+1),by omega,i+1,σ3,H5,vs++[v],its++[xv],(if (its.toArray.push xv).size==its.toArray.size then k else k+1),done++[yv],rest',rfl,hlt',I7,Tn.keep _ _ _ st2 fun b hb ob e=>?_,q1,q2,sm5,?_,hv.append (.cons rv .nil),(hrd.mono smr).append (i5.one ry),by simp;omega,erb (s34.trans s45),e4,by rw[hsum,<- e5];simp⟩
    ·have hne:b≠a:=fun z=>hAfp (z ▸ hb)
     exact(SC s5.heap _ (Ne.symm hne)).trans (q4 b hb ob e)
    ·have z:its.toArray.push xv=(its++[xv]).toArray:=by simp
     rw[<- z]
     exact q
  ·have ei:i=ds.length:=by omega
   subst ei
   rw[List.drop_length] at hrest
   cases hrest
   rw[Sw] at hsum
   subst hsum
   refine uo (Tn.done (B6 X T scope C fp s H) rfl rfl rfl hc ds.length P s' σ' H' (fun _ _=>False) Ip (hfpok hn' hPa) st' (y.2 _ H' (Kp.of sm) (Se _))) fun r s1 ⟨hr,I1⟩=>?_
   subst hr
   have ho1:=(I1.pin _ (Ss _ hPm)).1
   have IX:L2.Inv X pins σ H' s1:=I.call' (ch:=fp) I1.os I1.base I1.hok I1.bare fun b hb=>⟨(hf b hb).2.2.2.1,(hf b hb).2.1,(hf b hb).2.2.2.2.1,(hf b hb).2.2.2.2.2⟩
   have fA:zF X pins H' a:=I.fpOk hle hna
   have s2:=bh hna (.lst vs)
   refine hRR a C (upd H' a (.lst vs)) s1 vs (sm.trans s2) au (hrd.mono s2) (O5 IX fA ⟨Sx hvl hz,its,k,hv,ho1⟩) (I.fpOk hCle ?_) (let ⟨m,q,_⟩:=I1.loc;⟨m,q⟩)
   rw[aq (Ne.symm haC)]
   exact I1.free
 exact codeAny_compStart_list loop (Tn.self _ _ _ _ _ (Tn.keep _ _ _ st fun b hb o e=>old b o e) loop)
variable{elt iter tg:Sr}{ifs:List Sr}{pos p2:Pos}{itf:R->RT LD}{stf:D->R->RT R}{cf:R->RT Bool}{ef:R->OD}
theorem kC(I:L2.Inv X pins σ H s)(ck:C3 scope X.env.scope T X.N):closureFor scope X.env=pure (vW scope.names X.env.cells []):=Ff fun p hp hf=>I.ok.has p.1 (ck.free p hp hf)
theorem oV(hc:X.calm=true)(hi:SI X tg iter itf)(hg:∀C s₃ H₃ fp,SG (B6 X T scope C fp s₃ H₃) tg stf)(hcnd:∀C s₃ H₃ fp,Oy (B6 X T scope C fp s₃ H₃) ifs cf)(he:∀C s₃ H₃ fp,SE (B6 X T scope C fp s₃ H₃) elt ef)
  (hst:Gu T.length stf) (hnd:(T++X.N).Nodup) (ck:AI scope X.env.scope T X.N=true:=by rfl) (hs:∀x,foldedSetIterable iter X.env x=pure x:=by intro _;rfl) :
  SE X (.ListComp elt [⟨tg,iter,ifs,0⟩] scope pos) (D5 T.length itf stf cf ef):=by
 intro pins s σ H Q I hw
 obtain⟨ρ,d,er,e,q⟩:=hw
 obtain⟨ds,e1,e⟩:=h9 e
 have ck':=Cg ck
 split at e
 ·rename_i hz
  obtain⟨out,e2,e3⟩:=t7 e
  subst e3
  rw[eval_ListComp]
  refine wpAny_comprehension_free (use:=none) rfl hs (kC I ck') ck'.kind ck'.names ?_
  refine uo (hi pins s σ H (fun J H'=>i6 H H'/\wW X.K J ds H') I ⟨ρ,ds,er,e1,fun J H' s1 y=>⟨s1,y⟩⟩) fun v s1 h1=>uo h1 fun itv s2 h2=>?_
  obtain⟨it,fp,tn,J,H',ei,I2,Tn,st,hf,s12,y⟩:=h2
  subst ei
  refine m_ (RR:=fun acc C=>compPost (model X.prog X.w) X.A X.xe none (EP X pins σ Q) acc C) I2 hc Tn st hf ck' hnd hst (er.mono s12) y hz e2 hg hcnd he ?_
  intro a C H3 s' vs sm ha hr I3 fC hns
  obtain⟨m,hm⟩:=hns
  refine⟨m,hm,fun h' hsb=>⟨.ref a,H3,?_,rfl,q _ H3 (s12.trans sm) ⟨a,vs,rfl,ha,hr⟩⟩⟩
  obtain⟨f0,f1,f2,f3,f4,f5⟩:=fC
  exact I3.turned (it:=C) (t':=s'.toks) (fun b o hb eb=>(hsb.2 b hb).trans eb) f0 f1 f3 f4 f5
 ·cases e
theorem rO{i:Nat}{x:Str}{py:Pos}{spos:Pos}(hc:X.calm=true)(hN:X.N.Nodup)(hi:SI X tg iter itf)(hg:∀C s₃ H₃ fp,SG (B6 X T scope C fp s₃ H₃) tg stf)(hcnd:∀C s₃ H₃ fp,Oy (B6 X T scope C fp s₃ H₃) ifs cf)(he:∀C s₃ H₃ fp,SE (B6 X T scope C fp s₃ H₃) elt ef)
  (hst:Gu T.length stf) (hnd:(T++X.N).Nodup) (hix:X.N[i]?=some x:=by rfl) (hx:Loc X.env.scope x:=by first | exact Or.inl rfl | exact Or.inr rfl) (hfn:X.fn x=true\/X.env.scope.names.lookup x=some .local:=by first | exact .inl rfl | exact .inr rfl)
  (ck:AI scope X.env.scope T X.N=true:=by rfl) (hsw:swapsWith (.ListComp elt [⟨tg,iter,ifs,0⟩] scope pos) (some (.Name x py)) spos.line X.env=pure true:=by rfl) (hs:∀x,foldedSetIterable iter X.env x=pure x:=by intro _;rfl) :
  S1 X (.Assign [.Name x py] (.ListComp elt [⟨tg,iter,ifs,0⟩] scope pos) spos) (l3 (D5 T.length itf stf cf ef) (setAt i)):=by
 intro pins s σ H E I hw
 obtain⟨ρ,τ,o,er,e,q⟩:=hw
 obtain⟨d,e0,e⟩:=h9 e
 obtain⟨ρ',e9,e⟩:=t7 e
 subst e
 unfold setAt at e9
 split at e9
 case isFalse=>cases e9
 case isTrue hlt =>
 cases e9
 obtain⟨ds,e1,e⟩:=h9 e0
 have ck':=Cg ck
 split at e
 ·rename_i hz
  obtain⟨out,e2,e3⟩:=t7 e
  subst e3
  rw[exec_Assign_Name_used _ _ _ _ hsw]
  refine RV (wpAny_standAt (RV ?_))
  show wpAny _ X.A (do let _ <- comprehension (.ListComp elt [⟨tg,iter,ifs,0⟩] scope pos) scope X.env _ (newList []) false (eval iter X.env) (some (assign (.Name x py) X.env))) _ _ s
  refine RV (Tg (wpAny_comprehension_free (use:=some (assign (.Name x py) X.env)) (Q:=fun _ s'=>SP X pins E .next s') rfl hs (kC I ck') ck'.kind ck'.names ?_) (fun _ s' hq=>R5 (R5 hq)) fun _ _ z=>z)
  refine uo (hi pins s σ H (fun J H'=>i6 H H'/\wW X.K J ds H') I ⟨ρ,ds,er.1,e1,fun J H' s1 y=>⟨s1,y⟩⟩) fun v s1 h1=>uo h1 fun itv s2 h2=>?_
  obtain⟨it,fp,tn,J,H',ei,I2,Tn,st,hf,s12,y⟩:=h2
  subst ei
  refine m_ (RR:=fun acc C=>compPost (model X.prog X.w) X.A X.xe (some (assign (.Name x py) X.env)) (fun _ s'=>SP X pins E .next s') acc C) I2 hc Tn st hf ck' hnd hst (er.1.mono s12) y hz e2 hg hcnd he ?_
  intro a C H3 s' vs sm ha hr I3 fC hns
  obtain⟨m,hm⟩:=hns
  obtain⟨f0,f1,f2,f3,f4,f5⟩:=fC
  show wpAny _ X.A (assign (.Name x py) X.env (.ref a)) _ _ _
  refine wpAny_assign_Name (Cz (v:=.ref a) I3 hN hix hx rfl (fun s'' I4 ⟨b,hsb,hb⟩=>?_) hfn)
  have hCb:C≠b:=by
   rcases hb with z | z
   ·exact z ▸ f1
   ·exact Ne.symm (f4 x b z)
  refine⟨m,hm.sameBut hsb hCb,fun h' hsb2=>⟨σ.set i (some (.ref a)),H3,I4.turned (it:=C) (t':=s''.toks) (fun b o hb eb=>(hsb2.2 b hb).trans eb) f0 f1 f3 f4 f5,q H3 (s12.trans sm) _ ?_⟩⟩
  exact(er.mono (s12.trans sm)).set hlt ⟨a,vs,rfl,ha,hr⟩
 ·cases e
end
end HW
namespace HW
open PySem
mutual
def toPy:D->PyData
 | .non=>.none
 | .bl b=>.bool b
 | .int i=>.int i
 | .str x=>.str x
 | .tup xs=>.tuple (wD xs)
 | .lst xs=>.list (wD xs)
 | .fro xs=>.list (wD xs)
 | .obj ..=>.dict []
 | .rf ..=>.dict []
def wD:LD->List PyData
 | []=>[]
 | d::ds=>toPy d::wD ds
end
end HW
set_option maxHeartbeats 1000000
namespace HW
open PySem PySem.Spec PyProof.Rows L2
section
variable{X:Cx}
theorem ints2{K:RW}{H:Hp}{i j:Int}{xs:List V}(r:i5 K H [.int i,.int j] xs):xs=[.int i,.int j]:=by
 obtain⟨v,r',rfl,r1,w,r'',rfl,r2,r3⟩:=r
 cases (show v=_ from r1)
 cases (show w=_ from r2)
 cases (show r''=[] from r3)
 rfl
theorem jh(hc:X.calm=true):LO X (.builtin "max") EU:=(pM hc).imp fun xs H Q ⟨ds,d,r,e,q⟩=>by
 match ds,e with
 | [.int i,.int j],e =>
  cases e
  exact⟨i,j,ints2 r,q _ H (i6.refl H) rfl⟩
theorem sR:LO X (.type "int") N5:=Hj.imp fun xs H Q ⟨ds,d,r,e,q⟩=>by
 match ds,e with
 | [.int i],e =>
  cases e
  obtain⟨v,r',rfl,r1,r2⟩:=r
  cases (show v=_ from r1)
  cases (show r'=[] from r2)
  exact .inl ⟨i,rfl,q _ H (i6.refl H) rfl⟩
 | [.bl b],e =>
  cases e
  obtain⟨v,r',rfl,r1,r2⟩:=r
  cases (show v=_ from r1)
  cases (show r'=[] from r2)
  exact .inr ⟨b,rfl,q _ H (i6.refl H) rfl⟩
mutual
theorem x9{pins:List (RY×Obj)}{σ:L2.St}{H:Hp}{s:RX}(I:L2.Inv X pins σ H s):∀{d:D} {v:V} {u:RU},uC d=true->Rep X.K H d v->RelV v u->∃as,Reads s.heap u (toPy d) as
 | .non,v,u,hn,h,r=>by
  cases (show v=_ from h)
  cases (show u=_ from r)
  exact⟨_,.none⟩
 | .bl b,v,u,hn,h,r=>by
  cases (show v=_ from h)
  cases (show u=_ from r)
  exact⟨_,.bool b⟩
 | .int i,v,u,hn,h,r=>by
  cases (show v=_ from h)
  obtain⟨t,rfl⟩:=r
  exact⟨_,.int i t⟩
 | .str x,v,u,hn,h,r=>by
  cases (show v=_ from h)
  obtain⟨t,rfl⟩:=r
  exact⟨_,.str x t⟩
 | .tup ds,v,u,hn,h,r=>by
  obtain⟨a,xs,rfl,q,t⟩:=h
  cases (show u=_ from r)
  obtain⟨its,rv,⟨o,e,c,n,dd⟩,_⟩:=I.tuple q
  obtain⟨as,ra⟩:=yL I hn t rv
  exact⟨_,.tuple e c dd (by simpa using ra)⟩
 | .lst ds,v,u,hn,h,r=>by
  obtain⟨a,xs,rfl,q,t⟩:=h
  cases (show u=_ from r)
  obtain⟨its,rv,⟨o,n,e,c,_,dd⟩,_⟩:=I.list (wj.of q)
  obtain⟨as,ra⟩:=yL I hn t rv
  exact⟨_,.list e c dd (by simpa using ra)⟩
 | .fro ds,v,u,hn,h,r=>by
  obtain⟨a,xs,rfl,q,t⟩:=h
  cases (show u=_ from r)
  obtain⟨its,rv,⟨o,n,e,c,_,dd⟩,_⟩:=I.list q
  obtain⟨as,ra⟩:=yL I hn t rv
  exact⟨_,.list e c dd (by simpa using ra)⟩
 | .obj ..,v,u,hn,h,r=>by cases hn
 | .rf ..,v,u,hn,h,r=>by cases hn
theorem yL{pins:List (RY×Obj)}{σ:L2.St}{H:Hp}{s:RX}(I:L2.Inv X pins σ H s):∀{ds:LD} {vs:List V} {us:List RU},n5 ds=true->i5 X.K H ds vs->l6 vs us->∃as,ReadsAll s.heap us (wD ds) as
 | [],vs,us,hn,h,r=>by
  cases (show vs=[] from h)
  cases r
  exact⟨_,.nil⟩
 | d::ds,vs,us,hn,h,r=>by
  have hn':(uC d&&n5 ds)=true:=hn
  rw[R1] at hn'
  obtain⟨v,vr,rfl,h1,h2⟩:=h
  cases r with
  | cons r1 r2 =>
   obtain⟨as,q1⟩:=x9 I hn'.1 h1 r1
   obtain⟨bs,q2⟩:=yL I hn'.2 h2 r2
   exact⟨_,.cons q1 q2⟩
end
end
noncomputable def yl(a:RY)(xs:List V):HO:=.ext fun h=>xs.length<=sizeLine/\∃(its:List RU) (n:Nat),l6 xs its/\h.get? a=some {cls:=.type "list",data:=.seq its.toArray n}
section
variable{X:Cx}{pins:List (RY×Obj)}{σ:L2.St}{H:Hp}{s:RX}{a:RY}{xs:List V}
theorem oR(I:L2.Inv X pins σ H s)(h:H a=some (yl a xs)):xs.length<=sizeLine/\∃(its:List RU) (n:Nat),l6 xs its/\s.heap.get? a=some {cls:=.type "list",data:=.seq its.toArray n}:=(I.hok a _ h).1
theorem Fv(I:L2.Inv X pins σ H s)(h:H a=some (.lst xs)):L2.Inv X pins σ (upd H a (yl a xs)) s:=by
 obtain⟨z,its,n,r,e⟩:=I.hok a _ h
 have:=I.write (t':=s.toks) (h':=s.heap) (o:=yl a xs) (x:=a) (e:=a) (by rw[h];trivial) (.inl rfl) (fun _ _ _ q=>q) ⟨_,e⟩ ⟨⟨z,its,n,r,e⟩,⟨_,e⟩,fun h1 h2 ⟨z,its,n,r,e⟩ k=>⟨z,its,n,r,k _ e⟩⟩
 exact this
theorem ID(I:L2.Inv X pins σ H s)(h:H a=some (yl a xs)):L2.Inv X pins σ (upd H a (.lst xs)) s:=by
 obtain⟨z,its,n,r,e⟩:=oR I h
 have:=I.write (t':=s.toks) (h':=s.heap) (o:=.lst xs) (x:=a) (e:=a) (by rw[h];trivial) (.inl rfl) (fun _ _ _ q=>q) ⟨_,e⟩ ⟨z,its,n,r,e⟩
 exact this
def xp(a:RY)(H H':Hp):Prop:=∀b u,b≠a->H b=some u->H' b=some u
theorem xp.of{H H':Hp}(h:i6 H H'):xp a H H':=fun b u _ e=>h b u e
theorem xp.trans{H H1 H2:Hp}(h:xp a H H1)(h':xp a H1 H2):xp a H H2:=fun b u n e=>h' b u n (h b u n e)
theorem xp.upd{o:HO}:xp a H (upd H a o):=fun b u n e=>by rw[aq n];exact e
theorem xp.kp{H H':Hp}(h:xp a H H')(ho:H a=some (yl a xs)):Kp H H':=fun b u e n=>by
 by_cases hb:b=a
 ·subst hb
  rw[ho] at e
  cases e
  exact Sm rfl (n _)
 ·exact h b u hb e
end
section
variable(K:RW)
def QO(u:R->LD->RT (Out×LD)):TS:=fun E σ H=>∃ ρ τ a ds xs o ds',uq K H ρ (some (.ref a)::τ) σ/\H a=some (yl a xs)/\i5 K H ds xs/\u ρ ds=some (o,ds') /\
 ∀H' xs',xp a H H'->H' a=some (yl a xs')->i5 K H' ds' xs'->fin K E (some (.ref a)::τ) o H'
def RA(u:R->LD->RT Out):TS:=fun E σ H=>∃ ρ τ a ds xs o,uq K H ρ (some (.ref a)::τ) σ/\H a=some (yl a xs)/\i5 K H ds xs/\u ρ ds=some o/\∀H',xp a H H'->fin K E τ o H'
end
def OS(X:Cx)(st:So)(u:R->LD->RT (Out×LD)):Prop:=PS X st (QO X.K u)
def Lj(X:Cx)(sts:List So)(u:R->LD->RT (Out×LD)):Prop:=PSs X sts (QO X.K u)
def OB(X:Cx)(sts:List So)(u:R->LD->RT Out):Prop:=PSs X sts (RA X.K u)
section
variable{X:Cx}{st:So}{sts:List So}{u:R->RT Out}{p q:R->LD->RT (Out×LD)}{pos:Pos}
theorem GB{E:Ends}{σ:L2.St}{H:Hp}{K:RW}(h:QO K (z6 u) E σ H):Lf K u E σ H:=by
 obtain⟨ρ,τ,a,ds,xs,o,ds',er,ho,rp,e,q⟩:=h
 obtain⟨o1,e1,e2⟩:=t7 e
 cases e2
 exact⟨ρ,_,o,er,e1,fun H' s=>q H' xs (xp.of s) (s _ _ ho) (rp.mono s)⟩
theorem sj(h:S1 X st u):OS X st (z6 u):=PS.imp h fun E σ H z=>GB z
theorem ql(h:SS X sts u):Lj X sts (z6 u):=PSs.imp h fun E σ H z=>GB z
theorem iQ:Lj X [] Av:=zH.imp fun E σ H ⟨ρ,τ,a,ds,xs,o,ds',er,ho,rp,e,q⟩=>by
 cases e
 exact q H xs (xp.of (i6.refl H)) ho rp σ er
theorem mT(h1:OS X st p)(h2:Lj X sts q):Lj X (st::sts) (EV p q):=(dw h1 h2).imp fun E σ H ⟨ρ,τ,a,ds,xs,o,ds',er,ho,rp,e,qq⟩=>by
 obtain⟨⟨o1,ds1⟩,e1,e⟩:=h9 e
 refine⟨ρ,τ,a,ds,xs,o1,ds1,er,ho,rp,e1,fun H1 xs1 k1 ho1 rp1=>?_⟩
 cases o1 with
 | nx ρ2=>exact fun σ2 er2=>⟨ρ2,τ,a,ds1,xs1,o,ds',er2,ho1,rp1,e,fun H2 xs2 k2 ho2 rp2=>qq H2 xs2 (k1.trans k2) ho2 rp2⟩
 | rt d=>cases e;exact qq H1 xs1 k1 ho1 rp1
 | bk ρ2=>cases e;exact qq H1 xs1 k1 ho1 rp1
 | ct ρ2=>cases e;exact qq H1 xs1 k1 ho1 rp1
theorem gz(h:OS X st p):Lj X [st] p:=c_ h
theorem oP{c:Sr}{s:R->RT Bool}{B1 B2:List So}(hc:ST X c s)(ha:Lj X B1 p)(hb:Lj X B2 q):OS X (.If c B1 B2 pos) (Ju s p q):=(jw hc ha hb).imp fun E σ H ⟨ρ,τ,a,ds,xs,o,ds',er,ho,rp,e,qq⟩=>by
 obtain⟨x,e1,e⟩:=h9 e
 refine⟨ρ,x,er.1,e1,fun H1 s1=>?_⟩
 cases x with
 | true=>rw[R3 rfl] at e ⊢;exact⟨ρ,τ,a,ds,xs,o,ds',er.mono s1,s1 _ _ ho,rp.mono s1,e,fun H2 xs2 k2=>qq H2 xs2 ((xp.of s1).trans k2)⟩
 | false=>rw[Sa R6] at e ⊢;exact⟨ρ,τ,a,ds,xs,o,ds',er.mono s1,s1 _ _ ho,rp.mono s1,e,fun H2 xs2 k2=>qq H2 xs2 ((xp.of s1).trans k2)⟩
theorem qe{tg iter:Sr}{B:List So}{it:R->RT LD}{stf:D->R->RT R}(hp:PassesOwn (model X.prog X.w) X.A X.env X.xe)(hc:X.calm=true)(hi:SI X tg iter it)(hg:SG X tg stf)(hb:Lj X B p)
  (hs:∀x,foldedSetIterable iter X.env x=pure x:=by intro _;rfl):OS X (.For tg iter B [] pos) (Ia it stf p):=(nQ hp hc hi hg hb hs).imp fun E σ H ⟨ρ,τ,a,ls,xs,o,ls',er,ho,rp,e,q⟩=>by
 obtain⟨ds,e1,e⟩:=h9 e
 refine⟨ρ,ds,er.1,e1,fun J H1 s1 y=>?_⟩
 refine⟨fun i m σ' H'=>m=ds.length - i/\i<=ds.length/\xp a H1 H'/\∃ ρ' l xs',uq X.K H' ρ' (some (.ref a)::τ) σ'/\H' a=some (yl a xs')/\i5 X.K H' l xs'/\BY stf p (ds.drop i) ρ' l=some (o,ls'),
  ⟨ds.length,by simp,SU _,xp.of (i6.refl _),ρ,ls,xs,er.mono s1,s1 _ _ ho,rp.mono s1,by simpa using e⟩,?_⟩
 rintro i m σ' H' ⟨rfl,hi,s2,ρ',l,xs',er',ho',rp',e'⟩
 have kp:Kp H1 H':=s2.kp (s1 _ _ ho)
 by_cases hlt:i<ds.length
 ·refine .inr ?_
  have hd:ds[i]?=some ds[i]:=by simp[hlt]
  obtain⟨hgo,hy⟩:=y.1 i ds[i] H' kp hd
  rw[Tb hlt] at e'
  obtain⟨ρ1,e2,e'⟩:=h9 e'
  obtain⟨⟨o1,l1⟩,e3,e'⟩:=h9 e'
  refine⟨hgo,fun σ2 H2=>i+1<=ds.length/\xp a H1 H2/\∃ ρ' l xs',uq X.K H2 ρ' (some (.ref a)::τ) σ2/\H2 a=some (yl a xs')/\i5 X.K H2 l xs'/\BY stf p (ds.drop (i+1)) ρ' l=some (o,ls'),
   fun σ2 H2 n2=>⟨ds.length - (i+1),by omega,rfl,n2.1,n2.2⟩,fun x H3 yx=>?_⟩
  obtain⟨s3,rx⟩:=hy x H3 yx
  refine⟨ρ',_,ds[i],ρ1,er'.mono s3,rx,e2,fun σ4 H4 s4 er4=>⟨ρ1,τ,a,l,xs',o1,l1,er4,s4 _ _ (s3 _ _ ho'),(rp'.mono s3).mono s4,e3,fun H5 xs5 k5 ho5 rp5=>?_⟩⟩
  have s15:xp a H1 H5:=s2.trans ((xp.of s3).trans ((xp.of s4).trans k5))
  cases o1 with
  | nx ρ2=>exact fun σ6 er6=>⟨hlt,s15,ρ2,l1,xs5,er6,ho5,rp5,e'⟩
  | ct ρ2=>exact fun σ6 er6=>⟨hlt,s15,ρ2,l1,xs5,er6,ho5,rp5,e'⟩
  | bk ρ2=>cases e';exact fun σ6 er6=>q H5 xs5 ((xp.of s1).trans s15) ho5 rp5 σ6 er6
  | rt d=>cases e';exact q H5 xs5 ((xp.of s1).trans s15) ho5 rp5
 ·have e4:i=ds.length:=by omega
  subst e4
  rw[List.drop_length] at e'
  cases e'
  exact .inl ⟨y.2 _ H' kp (Se _),q H' xs' ((xp.of s1).trans s2) ho' rp' σ' er'⟩
theorem nR{K:RW}{H:Hp}{ρ:R}{v:V}{τ σ:L2.St}(er:uq K H ρ (some v::τ) σ):σ[ρ.length]?=some (some v):=by
 have:=er.2
 have h0:(σ.drop ρ.length)[0]?=some (some v):=by rw[this];rfl
 rw[List.getElem?_drop] at h0
 simpa using h0
theorem qX{x name:Str}{e:Sr}{px ap cp:Pos}{f:R->OD}{id:String}{r:V->List V->Hp->VK->Prop}{g:LD->D->RT LD}{u:R->LD->RT (Out×LD)}(i:Nat)(slot:Slot "list" name id)(hty:typeOf (.builtin id)=pure (.type "method_descriptor"))(hm:Py X id r)
  (hu:∀ ρ ds o ds',u ρ ds=some (o,ds')->ρ.length=i/\o=.nx ρ/\∃d,f ρ=some d/\g ds d=some ds')
  (hr:∀(H:Hp) (a:RY) (xs:List V) (v:V) (ds ds':LD) (d:D) (Q:VK),H a=some (yl a xs)->i5 X.K H ds xs->Rep X.K H d v->g ds d=some ds'->(∀xs',i5 X.K H ds' xs'->Q .non (upd (upd H a (.lst xs)) a (.lst xs')))->r (.ref a) [v] (upd H a (.lst xs)) Q)
  (he:SE X e f) (hN:X.N[i]?=some x:=by rfl) (hv:B0 X.env.scope x:=by first | exact Or.inl rfl | exact Or.inr (Or.inl rfl) | exact Or.inr (Or.inr rfl)) (hd:(x==("__debug__" : Str))=false:=by decide) (hcd:(x==("__classdict__" : Str))=false:=by decide)
  (hbase:attributeBase (.Name x px) name X.env (eval (.Name x px) X.env)=eval (.Name x px) X.env:=by rfl) (hst:noStar e=true:=by rfl)
  (hline:(ap.endLine==cp.line)=true:=by rfl) (hs:swapsWith (.Call (.Attribute (.Name x px) name ap) [e] [] cp) none pos.line X.env=pure false:=by rfl) :
  OS X (.Expr (.Call (.Attribute (.Name x px) name ap) [e] [] cp) pos) u:=by
 intro pins s σ H E I ⟨ρ,τ,a,ds,xs,o,ds',er,ho,rp,eu,qq⟩
 obtain⟨hi,rfl,d,e1,e2⟩:=hu ρ ds o ds' eu
 have hσ:=nR er
 rw[hi] at hσ
 have hst1:=aF [] X.env hst
 refine wpAny_Expr_any (wpAny_Call_method_late hbase ?_ hline rfl (uo ((pv i (pos:=px) hN hv hd hcd) pins s σ H (fun v H1=>v=.ref a/\H1=H) I ⟨.ref a,hσ,rfl,rfl⟩) fun v s1 ⟨y,H1,I1,r1,ey,eH⟩=>?_)) I.quiet hs
 ·rw[hst1]
  rfl
 subst ey eH
 cases (show v=_ from r1)
 obtain⟨z,its,n,rv,eo⟩:=oR I1 ho
 refine⟨"list",id,PySem.F.plainAttrs_list,slot,hty,⟨_,eo,rfl⟩,fun b eb=>?_,?_⟩
 ·cases eb
  exact⟨_,eo,rfl⟩
 have hA:=(ac he af hst).1 cp pins s1 σ H1 (fun vs H2=>i6 H1 H2/\i5 X.K H2 [d] vs) I1 ⟨ρ,[d],er.1,by show(f ρ).bind _=_;rw[e1];rfl,fun vs H2 s2 r2=>⟨s2,r2⟩⟩
 rw[hst1] at hA ⊢
 refine Calls.callWith_builtin rfl (Calls.evalArgs_plain ?_)
 refine uo hA fun us s2 ⟨vs,H2,I2,r2,s12,rd⟩=>?_
 obtain⟨w,w',rfl,rw1,rw2⟩:=rd
 cases (show w'=[] from rw2)
 have ho2:=s12 _ _ ho
 have I3:=ID I2 ho2
 refine uo (hm pins s2 σ (upd H2 a (.lst xs)) (.ref a) [w] (.ref a) us (fun v H3=>∃xs',i5 X.K H2 ds' xs'/\H3=upd (upd H2 a (.lst xs)) a (.lst xs')) I3 rfl r2 (hr H2 a xs w ds ds' d _ ho2 (rp.mono s12) rw1 e2 fun xs' rp'=>⟨xs',rp',rfl⟩)) fun v s3 ⟨v',H3,I4,_,xs',rp',e3⟩=>?_
 subst e3
 have I5:=Fv I4 au
 generalize hH5:upd (upd (upd H2 a (.lst xs)) a (.lst xs')) a (yl a xs')=H5 at I5
 have k25:xp a H2 H5:=by
  subst hH5
  exact xp.upd.trans (xp.upd.trans xp.upd)
 have ho5:H5 a=some (yl a xs'):=by subst hH5;exact au
 have k15:xp a H1 H5:=(xp.of s12).trans k25
 refine⟨σ,H5,I5,qq H5 xs' k15 ho5 (rp'.kp (k25.kp ho2)) σ (er.kp (k15.kp ho))⟩
theorem ji{x:Str}{e:Sr}{px ap cp:Pos}{f:R->OD}(i:Nat)(he:SE X e f)(hN:X.N[i]?=some x:=by rfl)(hv:B0 X.env.scope x:=by first | exact Or.inl rfl | exact Or.inr (Or.inl rfl) | exact Or.inr (Or.inr rfl))(hd:(x==("__debug__" : Str))=false:=by decide)(hcd:(x==("__classdict__" : Str))=false:=by decide)
  (hbase:attributeBase (.Name x px) "append" X.env (eval (.Name x px) X.env)=eval (.Name x px) X.env:=by rfl) (hst:noStar e=true:=by rfl)
  (hline:(ap.endLine==cp.line)=true:=by rfl) (hs:swapsWith (.Call (.Attribute (.Name x px) "append" ap) [e] [] cp) none pos.line X.env=pure false:=by rfl) :
  OS X (.Expr (.Call (.Attribute (.Name x px) "append" ap) [e] [] cp) pos) (B9 i f):=by
 refine qX (g:=fun ds d=>if ds.length<sizeLine then some (ds++[d]) else none) (f:=f) i PySem.F.slot_list_append PySem.F.type_list_append kA ?_ ?_ he hN hv hd hcd hbase hst hline hs
 ·intro ρ ds o ds' h
  obtain⟨d,e1,h⟩:=h9 h
  split at h
  ·rename_i hc
   cases h
   exact⟨hc.1,rfl,d,e1,R3 hc.2⟩
  ·cases h
 ·intro H a xs v ds ds' d Q ho rp rd e q
  split at e
  ·rename_i hc
   cases e
   exact⟨a,xs,v,rfl,rfl,au,by rw[<- rp.length];exact hc,q _ (rp.append (i5.one rd))⟩
  ·cases e
theorem qo{x:Str}{e:Sr}{px ap cp:Pos}{f:R->OD}(i:Nat)(he:SE X e f)(hN:X.N[i]?=some x:=by rfl)(hv:B0 X.env.scope x:=by first | exact Or.inl rfl | exact Or.inr (Or.inl rfl) | exact Or.inr (Or.inr rfl))(hd:(x==("__debug__" : Str))=false:=by decide)(hcd:(x==("__classdict__" : Str))=false:=by decide)
  (hbase:attributeBase (.Name x px) "extend" X.env (eval (.Name x px) X.env)=eval (.Name x px) X.env:=by rfl) (hst:noStar e=true:=by rfl)
  (hline:(ap.endLine==cp.line)=true:=by rfl) (hs:swapsWith (.Call (.Attribute (.Name x px) "extend" ap) [e] [] cp) none pos.line X.env=pure false:=by rfl) :
  OS X (.Expr (.Call (.Attribute (.Name x px) "extend" ap) [e] [] cp) pos) (ER i f):=by
 refine qX (g:=fun ds d=>match d with | .lst es=>if ds.length+es.length<=sizeLine then some (ds++es) else none | _=>none) (f:=f) i PySem.F.slot_list_extend PySem.F.type_list_extend pP ?_ ?_ he hN hv hd hcd hbase hst hline hs
 ·intro ρ ds o ds' h
  obtain⟨d,e1,h⟩:=h9 h
  cases d with
  | lst es =>
   dsimp only at h
   split at h
   ·rename_i hc
    cases h
    exact⟨hc.1,rfl,_,e1,R3 hc.2⟩
   ·cases h
  | _=>cases h
 ·intro H a xs v ds ds' d Q ho rp rd e q
  cases d with
  | lst es =>
   dsimp only at e
   split at e
   ·rename_i hc
    cases e
    obtain⟨b,zs,rfl,hb,rz⟩:=rd
    have hne:b≠a:=fun z=>by
     rw[z,ho] at hb
     cases hb
    exact⟨a,b,xs,zs,rfl,rfl,au,by rw[aq hne];exact hb,by rw[<- rp.length,<- rz.length];exact hc,q _ (rp.append rz)⟩
   ·cases e
  | _=>cases e
theorem eQ{w:R->LD->RT Out}(h1:OS X st p)(h2:OB X sts w):OB X (st::sts) (wB p w):=(dw h1 h2).imp fun E σ H ⟨ρ,τ,a,ds,xs,o,er,ho,rp,e,qq⟩=>by
 obtain⟨⟨o1,ds1⟩,e1,e⟩:=h9 e
 refine⟨ρ,τ,a,ds,xs,o1,ds1,er,ho,rp,e1,fun H1 xs1 k1 ho1 rp1=>?_⟩
 cases o1 with
 | nx ρ2=>exact fun σ2 er2=>⟨ρ2,τ,a,ds1,xs1,o,er2,ho1,rp1,e,fun H2 k2=>qq H2 (k1.trans k2)⟩
 | rt d=>cases e;exact qq H1 k1
 | bk ρ2=>cases e
 | ct ρ2=>cases e
theorem jv(h:SS X sts u):OB X sts (Ay u):=by
 intro pins s σ H E I ⟨ρ,τ,a,ds,xs,o,er,ho,rp,e,qq⟩
 have I2:=ID I ho
 have k:xp a H (upd H a (.lst xs)):=xp.upd
 have hσ:=nR er
 have er2:=er.kp (k.kp ho)
 refine h pins s σ _ E I2 ⟨ρ++[some (D.lst ds)],τ,o,⟨⟨?_,fun i d hd=>?_⟩,?_⟩,(show u (ρ++[some (D.lst ds)])=some o from e),fun H' s'=>qq H' (k.trans (xp.of s'))⟩
 ·have:=(Sg.mp hσ).1
  rw[Sl,List.length_singleton]
  exact this
 ·by_cases hi:i<ρ.length
  ·rw[SZ hi] at hd
   exact er2.1.2 i d hd
  ·by_cases hi2:i=ρ.length
   ·subst hi2
    rw[Sy (Se _),Nat.sub_self] at hd
    cases hd
    exact⟨_,hσ,a,xs,rfl,au,rp.kp (k.kp ho)⟩
   ·rw[Te (by simp;omega)] at hd
    cases hd
 ·rw[Sl,List.length_singleton,<- List.drop_drop,er.2]
  rfl
theorem jH{x:Str}{es:List Sr}{F:R->RT LD}{w:R->LD->RT Out}{px p1:Pos}(i:Nat)(hN:X.N.Nodup)(hF:SA X es F)(h2:OB X sts w)(hix:X.N[i]?=some x:=by rfl)(hx:Loc X.env.scope x:=by first | exact Or.inl rfl | exact Or.inr rfl)
  (hl:Nat.ble es.length 1000=true:=by rfl) (hs:swapsWith (.List es p1) (some (.Name x px)) pos.line X.env=pure false:=by rfl) (hf:X.fn x=true\/X.env.scope.names.lookup x=some .local:=by first | exact .inl rfl | exact .inr rfl) :
  SS X (.Assign [.Name x px] (.List es p1) pos::sts) (GN i F w):=by
 intro pins s σ H E I ⟨ρ,τ,o,er,e,qq⟩
 obtain⟨ds,e1,e⟩:=h9 e
 split at e
 case isFalse=>cases e
 case isTrue hlen =>
 refine wpAny_execs_cons (uo ((ib (i:=i) hN hix hx (nK hF.1) hs hf) pins s σ H {E with nx:=fun σ' H'=>∃a vs H1,σ'=σ.set i (some (.ref a))/\H'=upd H1 a (.lst vs)/\H1 a=none/\i6 H H1/\i5 X.K H1 ds vs} I ?_) fun f s1 q=>?_)
 ·refine⟨ρ,ds,er.1,e1,fun vs H1 s1 r1=>⟨?_,fun a ha=>⟨a,vs,H1,rfl,rfl,ha,s1,r1⟩⟩⟩
  rw[<- r1.length,hF.2.1 ρ ds e1]
  exact Nat.le_of_lt (yN (Nat.le_of_ble_eq_true hl))
 cases f with
 | next =>
  obtain⟨σ',H',I',a,vs,H1,rfl,rfl,ha,s1',r1⟩:=q
  have I2:=Fv I' au
  generalize hH2:upd (upd H1 a (.lst vs)) a (yl a vs)=H2 at I2
  have k12:xp a H1 H2:=by
   subst hH2
   exact xp.upd.trans xp.upd
  have s12:i6 H1 H2:=fun b u hb=>k12 b u (fun z=>by rw[z,ha] at hb;cases hb) hb
  have ho2:H2 a=some (yl a vs):=by subst hH2;exact au
  have hσi:i<σ.length:=R8 (by omega) er.1.1
  refine h2 pins s1 _ H2 E I2 ⟨ρ.take i,τ,a,ds,vs,o,⟨⟨?_,fun j d hd=>?_⟩,?_⟩,ho2,r1.mono s12,e,fun H' k=>qq H' fun b u hb=>?_⟩
  ·simp
   omega
  ·have hj:j<i:=by
    have:=(Sg.mp hd).1
    simp at this
    omega
   rw[List.getElem?_take_of_lt hj] at hd
   obtain⟨v,h1,h2⟩:=er.1.2 j d hd
   exact⟨v,by rw[SM (by omega)];exact h1,(h2.mono s1').mono s12⟩
  ·have hd:σ.drop (i+1)=τ:=by rw[<- hlen];exact er.2
   rw[To,Nat.min_eq_left (by omega),Tb (by simpa using hσi)]
   congr 1
   ·simp
   ·rw[List.drop_set_of_lt (by omega)]
    exact hd
  ·have hb2:=s12 _ _ (s1' _ _ hb)
   exact k b u (fun z=>by
    have q:=s1' _ _ hb
    rw[z,ha] at q
    cases q) hb2
 | brk=>exact q
 | cont=>exact q
 | ret v=>exact q
end
mutual
theorem ja:∀d:D,t4 d=true->(toPy d).canLay0=true
 | .non,_=>by simp[toPy,PyData.canLay0]
 | .bl _,_=>by simp[toPy,PyData.canLay0]
 | .int _,_=>by simp[toPy,PyData.canLay0]
 | .str _,h=>by rw[t4] at h;simpa [toPy,PyData.canLay0,PyData.strOk] using h
 | .tup ds,h=>by rw[toPy,PyData.canLay0];exact iU ds h
 | .lst ds,h=>by rw[toPy,PyData.canLay0];exact iU ds h
 | .fro ds,h=>by rw[toPy,PyData.canLay0];exact iU ds h
 | .obj ..,h=>by cases h
 | .rf ..,h=>by cases h
theorem iU:∀ds:LD,vv ds=true->PyData.canLayAll0 (wD ds)=true
 | [],_=>by simp[wD,PyData.canLayAll0]
 | d::ds,h=>by
  have h':(t4 d&&vv ds)=true:=h
  rw[R1] at h'
  rw[wD,PyData.canLayAll0,ja d h'.1,iU ds h'.2];rfl
end
mutual
theorem qK:∀d:D,uC d=true->(toPy d).depth=xq d
 | .non,_=>by simp[toPy,PyData.depth,xq]
 | .bl _,_=>by simp[toPy,PyData.depth,xq]
 | .int _,_=>by simp[toPy,PyData.depth,xq]
 | .str _,_=>by simp[toPy,PyData.depth,xq]
 | .tup ds,h=>by rw[toPy,PyData.depth,xq,iV ds h]
 | .lst ds,h=>by rw[toPy,PyData.depth,xq,iV ds h]
 | .fro ds,h=>by rw[toPy,PyData.depth,xq,iV ds h]
 | .obj ..,h=>by cases h
 | .rf ..,h=>by cases h
theorem iV:∀ds:LD,n5 ds=true->PyData.depthAll (wD ds)=wa ds
 | [],_=>by simp[wD,PyData.depthAll,wa]
 | d::ds,h=>by
  have h':(uC d&&n5 ds)=true:=h
  rw[R1] at h'
  rw[wD,PyData.depthAll,wa,qK d h'.1,iV ds h'.2]
end
mutual
theorem EN:∀x y:D,uC x=true->uC y=true->PyData.eqv (toPy x) (toPy y)=Ln x y
 | .non,y,_,h=>by cases y<;>first | rfl | cases h
 | .bl a,y,_,h=>by cases y<;>first | rfl | cases h
 | .int a,y,_,h=>by cases y<;>first | rfl | cases h
 | .str a,y,_,h=>by cases y<;>first | rfl | cases h
 | .tup xs,y,g,h=>by
  cases y with
  | tup ys=>exact yO xs ys g h
  | obj _ _ _ _=>cases h
  | rf _=>cases h
  | _=>rfl
 | .lst xs,y,g,h=>by
  cases y with
  | lst ys=>exact yO xs ys g h
  | fro ys=>exact yO xs ys g h
  | obj _ _ _ _=>cases h
  | rf _=>cases h
  | _=>rfl
 | .fro xs,y,g,h=>by
  cases y with
  | lst ys=>exact yO xs ys g h
  | fro ys=>exact yO xs ys g h
  | obj _ _ _ _=>cases h
  | rf _=>cases h
  | _=>rfl
 | .obj ..,y,g,h=>by cases g
 | .rf ..,y,g,h=>by cases g
theorem yO:∀xs ys:LD,n5 xs=true->n5 ys=true->PyData.eqvAll (wD xs) (wD ys)=B8 xs ys
 | [],[],_,_=>rfl
 | [],_::_,_,_=>rfl
 | _::_,[],_,_=>rfl
 | x::xs,y::ys,g,h=>by
  have g':(uC x&&n5 xs)=true:=g
  have h':(uC y&&n5 ys)=true:=h
  rw[R1] at g' h'
  show(PyData.eqv (toPy x) (toPy y)&&PyData.eqvAll (wD xs) (wD ys))=(Ln x y&&B8 xs ys)
  rw[EN x y g'.1 h'.1,yO xs ys g'.2 h'.2]
end
section
variable{X:Cx}
theorem CC{k:Nat}(hr:ua k X.A){dx dy:D}(h:xq dx<=100)(hn:uC dx=true):X.A.units+min (toPy dx).depth (toPy dy).depth<cLine:=by
 have h1:=hr.un
 have h2:min (toPy dx).depth (toPy dy).depth<=100:=by rw[qK dx hn];omega
 omega
theorem lT{k:Nat}(hr:ua k X.A):EH X .Eq yn:=by
 intro pins s σ H x y v u Q I rx ry h
 obtain⟨dx,dy,b,r1,r2,e,q⟩:=h
 unfold yn at e
 split at e
 ·rename_i hd
  cases e
  obtain⟨as,ra⟩:=x9 I (bS hd.2.1) r1 rx
  obtain⟨bs,rb⟩:=x9 I (bS hd.2.2) r2 ry
  have z:=SeqAt.rcAt_reads ra rb (ja dx hd.2.1) (ja dy hd.2.2) (CC (dy:=dy) hr hd.1 (bS hd.2.1))
  rw[EN _ _ (bS hd.2.1) (bS hd.2.2)] at z
  exact z _ _ _ _ ⟨.bl (Ln dx dy),H,I,rfl,q⟩
 ·cases e
theorem kO{k:Nat}(hr:ua k X.A):EH X .NotEq zj:=by
 intro pins s σ H x y v u Q I rx ry h
 obtain⟨dx,dy,b,r1,r2,e,q⟩:=h
 unfold zj yn at e
 split at e
 ·rename_i hd
  cases e
  obtain⟨as,ra⟩:=x9 I (bS hd.2.1) r1 rx
  obtain⟨bs,rb⟩:=x9 I (bS hd.2.2) r2 ry
  have z:=SeqAt.rcNeAt_reads ra rb (ja dx hd.2.1) (ja dy hd.2.2) (CC (dy:=dy) hr hd.1 (bS hd.2.1))
  rw[EN _ _ (bS hd.2.1) (bS hd.2.2)] at z
  exact PySem.EqBoolInt.of_rcne z ⟨.bl (!Ln dx dy),H,I,rfl,q⟩
 ·cases e
end
section
variable{prog:R9}{w:Sk}{A:Sv}{R':Result->RX->Prop}{I:RY}{fp wr:List RY}{n:Nat}{P:Nat->RU->Prop}{St:Nat->Sq->Prop}
abbrev Kt:List (Str×RU):=[(oS "default",Value.none)]
abbrev Pn(S:RY)(vs:Array RU)(c:Nat)(h:Sq):Prop:=h.get? S=some {cls:=.type "list",dict:=none,data:=.seq vs c,slots:=#[]}
theorem yJ:(toString "max" ++ toString ".loop" : String) = "max.loop":=by decide
theorem Kk(W:Walks prog w A.in1 I fp wr n P St)(bt:Nat->Nat->Bool)(hcmp:CmpOf prog w A.in1 .Gt P bt)(S:RY)(hSf:S∉fp):∀(k j:Nat) (s:RX) (vb:RU) (c:Nat),n - (j+1)=k->j+1<=n->St (j+1) s.heap->P (argBest bt j) vb->Pn S #[vb,vb] c s.heap ->
  (∀v h' tk,P (argBest bt (n - 1)) v->(∀b o,b∉wr->b≠S->s.heap.get? b=some o->h'.get? b=some o)->R' (.ok (.ret v)) {s with heap:=h',toks:=tk})->codeAny (model prog w) A (.builtin "max.loop" ⟨[.ref I,.none,.ref S],Kt⟩) R' s:=by
 have hSw:S∉wr:=fun z=>hSf (W.sub _ z)
 intro k
 induction k with
 | zero =>
  intro j s vb c hk hj hst hPb hS hR
  have hin:j+1=n:=by omega
  refine Td F.entry_max_loop ?_;rw[Around.under_plainId F.plain_max_loop _];show wpAny _ A.in1 (seqItems? (.ref S) >>= _) _ _ s
  refine RV (wpAny_seqItems hS rfl ?_);show wpAny _ A.in1 (tryCatch (pyNext (.ref I)) _ >>= _) _ _ s
  refine RV (wpAny_tryCatch (W.done s _ _ (hin ▸ hst) fun h1 t1 k1=>?_));have hS1:=k1 S _ hSw hS
  show wpAny _ A.in1 (updateSeq S (fun _=>#[]) >>= _) _ _ _;refine RV (wpAny_updateSeq hS1 rfl (RV (wpAny_letGo (R5 ?_))))
  exact hR vb _ t1 (by rw[<- hin];exact hPb) fun b o hbw hbS e=>(SC _ _ (Ne.symm hbS)).trans (k1 b o hbw e)
 | succ k ih =>
  intro j s vb c hk hj hst hPb hS hR
  have hlt:j+1<n:=by omega
  refine Td F.entry_max_loop ?_;rw[Around.under_plainId F.plain_max_loop _];show wpAny _ A.in1 (seqItems? (.ref S) >>= _) _ _ s
  refine RV (wpAny_seqItems hS rfl ?_);show wpAny _ A.in1 (tryCatch (pyNext (.ref I)) _ >>= _) _ _ s
  refine RV (wpAny_tryCatch (W.item (j+1) s _ _ hlt hst fun v h1 t1 hP st1 k1=>?_));have hS1:=k1 S _ hSw hS
  show wpAny _ A.in1 (tryCatch (holding [v,v] (richCompare .Gt v vb >>= _)) _ >>= _) _ _ _;refine RV (wpAny_tryCatch (wpAny_holding (RV (hcmp (j+1) (argBest bt j) v vb _ _ _ hP hPb ?_))))
  refine RV (wpAny_holding (wpAny_truthy_bool ?_));refine RV (wpAny_letGo (R5 ?_))
  cases hb:bt (j+1) (argBest bt j) with
  | true =>
   simp only[if_true];refine RV (wpAny_updateSeq hS1 rfl (RV (wpAny_letGo ?_)));rw[yJ]
   refine R5 ⟨plainId_quiet F.plain_max_loop _,ih (j+1) _ v _ (by omega) hlt (W.frame _ _ _ st1 fun b hbf o e=>?_) (by simp only[argBest,hb,if_true];exact hP) (Tf _ hS1 rfl) fun v' h2 t2 hP' k2=>?_⟩
   ·refine(SC _ _ fun z:S=b=>hSf ?_).trans e;rw[z];exact hbf
   ·refine hR v' h2 t2 hP' fun b o hbw hbS e=>k2 b o hbw hbS ?_;exact(SC _ _ (Ne.symm hbS)).trans (k1 b o hbw e)
  | false =>
   simp only[Bool.false_eq_true,if_false];refine RV (wpAny_letGo ?_);rw[yJ]
   refine R5 ⟨plainId_quiet F.plain_max_loop _,ih (j+1) _ vb c (by omega) hlt st1 (by simp only[argBest,hb,Bool.false_eq_true,if_false];exact hPb) hS1 fun v' h2 t2 hP' k2=>?_⟩
   refine hR v' h2 t2 hP' fun b o hbw hbS e=>k2 b o hbw hbS ?_;exact k1 b o hbw e
theorem I_(W:Walks prog w A.in1 I fp wr n P St)(bt:Nat->Nat->Bool)(hcmp:CmpOf prog w A.in1 .Gt P bt)(S:RY)(hSf:S∉fp){s:RX}{c:Nat}(hst:St 0 s.heap)(hS:Pn S #[] c s.heap)
  (h0:n=0->∀h' tk,(∀b o,b∉wr->b≠S->s.heap.get? b=some o->h'.get? b=some o)->R' (.ok (.ret .none)) {s with heap:=h',toks:=tk})
  (hR:0<n->∀v h' tk,P (argBest bt (n - 1)) v->(∀b o,b∉wr->b≠S->s.heap.get? b=some o->h'.get? b=some o)->R' (.ok (.ret v)) {s with heap:=h',toks:=tk}):codeAny (model prog w) A (.builtin "max.loop" ⟨[.ref I,.none,.ref S],Kt⟩) R' s:=by
 have hSw:S∉wr:=fun z=>hSf (W.sub _ z)
 refine Td F.entry_max_loop ?_;rw[Around.under_plainId F.plain_max_loop _];show wpAny _ A.in1 (seqItems? (.ref S) >>= _) _ _ s
 refine RV (wpAny_seqItems hS rfl ?_);show wpAny _ A.in1 (tryCatch (pyNext (.ref I)) _ >>= _) _ _ s
 by_cases hn:0<n
 ·refine RV (wpAny_tryCatch (W.item 0 s _ _ hn hst fun v h1 t1 hP st1 k1=>?_));have hS1:=k1 S _ hSw hS
  show wpAny _ A.in1 (updateSeq S (fun _=>#[v,v]) >>= _) _ _ _;refine RV (wpAny_updateSeq hS1 rfl ?_);rw[yJ]
  refine R5 ⟨plainId_quiet F.plain_max_loop _,Kk W bt hcmp S hSf _ 0 _ v _ rfl hn (W.frame _ _ _ st1 fun b hbf o e=>?_) hP (Tf _ hS1 rfl) fun v' h2 t2 hP' k2=>?_⟩
  ·refine(SC _ _ fun z:S=b=>hSf ?_).trans e;rw[z];exact hbf
  ·refine hR hn v' h2 t2 hP' fun b o hbw hbS e=>k2 b o hbw hbS ?_;exact(SC _ _ (Ne.symm hbS)).trans (k1 b o hbw e)
 ·have hz:n=0:=by omega
  refine RV (wpAny_tryCatch (W.done s _ _ (hz ▸ hst) fun h1 t1 k1=>?_))
  refine RV (wpAny_rule (R5 ?_))
  exact h0 hz h1 t1 fun b o hbw hbS e=>k1 b o hbw e
end
section
variable{prog:R9}{w:Sk}{A:Sv}{E:RU->RX->Prop}{s:RX}
theorem Hg(a:RU):argsOk "max" ⟨[a],Kt⟩:=by unfold argsOk;kernel_rfl
theorem ik{l:RY}{its:List RU}{val:Nat->Int}{Q:RU->RX->Prop}(hh:A.handled=none)(hl:s.heap.IsList l its.toArray)(hv:∀(i:Nat) v,its.toArray[i]?=some v->∃t,v=.int (val i) t)
  (h0:its=[]->∀h' tk,(∀b o,s.heap.get? b=some o->h'.get? b=some o)->Q .none {s with heap:=h',toks:=tk})
  (h1:its ≠ []->∀v h' tk,its.toArray[argBest (fun i j=>decide (val i > val j)) (its.length - 1)]?=some v->(∀b o,s.heap.get? b=some o->h'.get? b=some o)->Q v {s with heap:=h',toks:=tk}) :
  wpAny (model prog w) A (call (.builtin "max") [.ref l] Kt) Q E s:=by
 refine wpAny_call (codeAny_call_builtin F.plain_max F.entry_max ?_)
 simp only[checkBuiltinCall,F.kind_max]
 have main:wpAny (model prog w) A.in1 (Builtin.«max» ⟨[.ref l],Kt⟩) (fun fin s'=>match fin with
   | .done f=>(match (Except.ok f:Result) with
    | .ok (.ret v)=>Q v s'
    | .ok _=>False
    | .error e=>E e s')
   | .again c'=>c'.quiet=true/\codeAny (model prog w) A c' (fun r s'=>match r with
    | .ok (.ret v)=>Q v s'
    | .ok _=>False
    | .error e=>E e s') s') E s:=by
  show wpAny _ A.in1 (Builtin.Builtins.bindParams "max" ["key","default"] 0 ⟨[],Kt⟩ >>= _) _ _ s
  refine RV (wpAny_of_eq (show Builtin.Builtins.bindParams "max" ["key","default"] 0 ⟨[],Kt⟩=pure [none,some .none] from rfl) ?_)
  refine RV (R5 (RV (wpAny_pyIter_list hl ?_)))
  refine RV (S6 ?_)
  rw[yJ]
  have hlt:l<s.heap.objs.size:=by
   obtain⟨o,e,_⟩:=hl
   exact R_ e
  generalize hI:s.heap.objs.size=J at hlt
  generalize h1e:s.heap.push {cls:=Value.type "list_iterator",data:=Data.fields #[Value.ref l,Value.int 0 0]}=H1
  have hJ:H1.objs.size=J+1:=by rw[<- h1e,Heap.size_push,hI]
  have k1:∀b o,s.heap.get? b=some o->H1.get? b=some o:=fun b o e=>by rw[<- h1e];exact R0 _ e
  have st1:H1.IsListIter J l 0/\H1.IsList l its.toArray:=⟨by rw[<- h1e,<- hI];exact⟨_,Sd _ rfl,rfl,rfl⟩,hl.at fun o e=>k1 _ _ e⟩
  have hne:l≠J:=Sn hlt
  have hSf:H1.objs.size ∉ [J,l]:=by
   rw[hJ]
   intro z
   rcases Sf.mp z with z | z
   ·exact Sm z (Nat.ne_of_gt (Tj J))
   ·rw[<- R4.mp z] at hlt
    exact Sm hlt (Nat.not_lt.mpr (Nat.le_succ J))
  have W:=Walks.list (prog:=prog) (w:=w) (A:=A.in1) hh J l hne its.toArray
  have old:∀{h':Sq},(∀b o,b ∉ [J]->b≠H1.objs.size->(H1.push {cls:=Value.type "list",data:=Data.seq ([]:List RU).toArray}).get? b=some o->h'.get? b=some o)->∀b o,s.heap.get? b=some o->h'.get? b=some o:=fun kk b o e=>by
   have hb:b<J:=by rw[<- hI];exact R_ e
   refine kk b o (fun z=>Sm (R4.mp z) (Sn hb)) ?_ (R0 _ (k1 b o e))
   rw[hJ]
   exact Sn (Nat.lt_succ_of_lt hb)
  refine R5 ⟨plainId_quiet F.plain_max_loop _,I_ W _ (CmpOf.ints_gt val hv) H1.objs.size hSf (W.frame _ _ _ st1 fun b _ o e=>R0 _ e) (Sd _ rfl) (fun hz h' tk kk=>?_) fun hn v h' tk hP kk=>?_⟩
  ·exact h0 (by simpa using hz) h' tk (old kk)
  ·refine h1 (fun z=>by subst z;simp at hn) v h' tk ?_ (old kk)
   simpa using hP
 cases hsig:Manifest.signature? "max" with
 | none=>exact R5 main
 | some sig =>
  have ha:=Hg (.ref l)
  simp only[argsOk,hsig] at ha
  have h2:Bind.checkArgs "max" sig ⟨[.ref l],Kt⟩=pure ():=ha
  show wpAny _ A.in1 (Bind.checkArgs "max" sig ⟨[.ref l],Kt⟩) _ _ s
  rw[h2]
  exact R5 main
end
section
variable{X:Cx}
theorem rP{e:Sr}{f:R->OD}{p kp p2 pos:Pos}{j:Nat}(hc:X.calm=true)(hm:X.mg "max" = none)(he:SE X e f)(hg:Gl X "max":=by rfl)(hst:noStar e=true:=by rfl) :
  SE X (.Call (.Name "max" p) [e] [⟨some "default",.Constant .none j p2,kp⟩] pos) (c8 D_ (c4 f c7)):=by
 intro pins s σ H Q I ⟨ρ,d,er,eq,q⟩
 obtain⟨ds,e1,e2⟩:=h9 eq
 have hst1:=aF [] X.env hst
 refine S8 (cJ I hg hm boot_max ?_ (by decide) (by decide))
 refine callWith_kw (uo ((ac he af hst).1 pos pins s σ H (fun vs H2=>i6 H H2/\i5 X.K H2 ds vs) I ⟨ρ,ds,er,e1,fun vs H2 s2 r2=>⟨s2,r2⟩⟩) fun us s1 ⟨vs,H1,I1,r1,s01,rp⟩=>?_) (by rw[hst1];rfl) (by rw[hst1];rfl) rfl rfl
 refine kws_cons (Constant_none (kws_nil ?_))
 have hh:=I1.ok.hd hc
 match ds,e2 with
 | [.lst []],e2 =>
  cases e2
  obtain⟨v,r',rfl,⟨a,xs,rfl,ha,rx⟩,rr⟩:=rp
  cases (show r'=[] from rr)
  cases (show xs=[] from rx)
  obtain⟨u,rfl,ru⟩:=r1.one
  cases (show u=_ from ru)
  obtain⟨_,its,n,rv,hl,eo⟩:=I1.lstM ha
  cases rv
  exact ik (val:=fun _=>0) hh ⟨_,eo,rfl,n,rfl⟩ (fun i v hv=>by simp at hv) (fun _ h' tk k=>⟨.non,H1,I1.kept k,rfl,q _ H1 s01 rfl⟩) fun z=>Sm rfl z
 | [.lst [.int a1]],e2 =>
  cases e2
  obtain⟨v,r',rfl,⟨a,xs,rfl,ha,rx⟩,rr⟩:=rp
  cases (show r'=[] from rr)
  obtain⟨x1,x2,rfl,rx1,rx2⟩:=rx
  cases (show x1=_ from rx1)
  cases (show x2=[] from rx2)
  obtain⟨u,rfl,ru⟩:=r1.one
  cases (show u=_ from ru)
  obtain⟨_,its,n,rv,hl,eo⟩:=I1.lstM ha
  obtain⟨w1,rfl,t1,rfl⟩:=rv.one
  refine ik (val:=fun _=>a1) hh ⟨_,eo,rfl,n,rfl⟩ (fun i v hv=>?_) (fun z=>by cases z) fun _ v h' tk hv k=>?_
  ·have z:=(Array.getElem?_eq_some_iff.mp hv).1
   have z0:i=0:=by simpa using z
   subst z0
   exact⟨t1,(Si hv).symm⟩
  ·have hv':Value.int a1 t1=v:=Si hv
   subst hv'
   exact⟨.int a1,H1,I1.kept k,⟨t1,rfl⟩,q _ H1 s01 rfl⟩
 | [.lst [.int a1,.int a2]],e2 =>
  cases e2
  obtain⟨v,r',rfl,⟨a,xs,rfl,ha,rx⟩,rr⟩:=rp
  cases (show r'=[] from rr)
  have hx:=ints2 rx
  subst hx
  obtain⟨u,rfl,ru⟩:=r1.one
  cases (show u=_ from ru)
  obtain⟨_,its,n,rv,hl,eo⟩:=I1.lstM ha
  obtain⟨w1,w2,rfl,⟨t1,rfl⟩,⟨t2,rfl⟩⟩:=vals2 rv
  refine ik (val:=fun i=>if i=0 then a1 else a2) hh ⟨_,eo,rfl,n,rfl⟩ (fun i v hv=>?_) (fun z=>by cases z) fun _ v h' tk hv k=>?_
  ·have z:=(Array.getElem?_eq_some_iff.mp hv).1
   have z0:i=0\/i=1:=by
    have:i<2:=by simpa using z
    omega
   rcases z0 with rfl | rfl
   ·exact⟨t1,(Si hv).symm⟩
   ·exact⟨t2,(Si hv).symm⟩
  ·by_cases hgt:a2 > a1
   ·have hb:argBest (fun i j=>decide ((if i=0 then a1 else a2) > (if j=0 then a1 else a2))) ([Value.int a1 t1,Value.int a2 t2].length - 1)=1:=by simp[argBest,hgt]
    rw[hb] at hv
    have hv':Value.int a2 t2=v:=Si hv
    subst hv'
    exact⟨.int a2,H1,I1.kept k,⟨t2,rfl⟩,q _ H1 s01 (by show V.int a2=V.int _;rw[R3 hgt])⟩
   ·have hb:argBest (fun i j=>decide ((if i=0 then a1 else a2) > (if j=0 then a1 else a2))) ([Value.int a1 t1,Value.int a2 t2].length - 1)=0:=by simp[argBest,hgt]
    rw[hb] at hv
    have hv':Value.int a1 t1=v:=Si hv
    subst hv'
    exact⟨.int a1,H1,I1.kept k,⟨t1,rfl⟩,q _ H1 s01 (by show V.int a1=V.int _;rw[Sa hgt])⟩
end
section
open PySem.SeqAt
open AutoSeq1 (wpAny_loadPart')
open MeetsSeq MeetsSeq2 MeetsSeq3 SeqRoads2
theorem B4(l:RY)(items:Array RU)(n:Nat)(dd:RT RY)(sl:Array (RT RU))(x:RU)(j:Nat)(hj:j<items.size) :
  Meets (Builtin.«tuple.index» ⟨[.ref l,x],[]⟩) (fun A R s=>s.heap.get? l=some {cls:=.type "tuple",dict:=dd,data:=.seq items n,slots:=sl}/\(∀i (h:i<items.size),i<=j->EqAt A.in1 s items[i] x (decide (i=j)))/\R (.ok (.ret (.int (j:Int) s.toks))) {s with toks:=s.toks+1}):=
 .of_wp fun prog w A R s h=>by
  obtain⟨hp,g,d,tk,os⟩:=s
  obtain⟨hl,he,h⟩:=h
  unfold Builtin.«tuple.index»
  simp only[Std.Legacy.Range.forIn_eq_forIn_range']
  wp_walk using wpAny_loadPart' hl,wpAny_forIn_list _ (fun rest b s'=>s'=⟨hp,g,d,tk,os⟩/\b=(none,())/\∃k,k<=j/\rest=List.range' k (items.size - k)) _
  case turn =>
   rintro i rest b s' ⟨rfl,rfl,k,hk,e⟩
   have hs:items.size - k=(items.size - (k+1))+1:=by omega
   rw[hs,List.range'_succ] at e
   cases e
   have hlt:i<items.size:=by omega
   have hi:items[i]?=some items[i]:=by simp[hlt]
   rw[hi]
   refine RV (he i hlt hk prog w _ _ ?_)
   by_cases hij:i=j
   ·subst hij
    rw[S9 rfl]
    wp_walk
    exact⟨_,rfl,h⟩
   ·rw[Sz hij]
    wp_walk
    exact⟨rfl,rfl,i+1,by omega,rfl⟩
  case fin =>
   rintro b s' ⟨rfl,rfl,k,hk,e⟩
   have hs:items.size - k=(items.size - (k+1))+1:=by omega
   rw[hs,List.range'_succ] at e
   cases e
  case h =>
   refine⟨rfl,rfl,0,SU _,?_⟩
   simp
end
def Mo(K:RW)(mg:Str->RT RU)(x:Str)(ws:List Str):Prop:=∃a its n sl,mg x=some (.ref a)/\K.lookup a=some ⟨.type "tuple",none,.seq its n,sl⟩/\l6 (ws.map V.str) its.toList
section
variable{X:Cx}
def P_(K:RW):V->List V->Hp->VK->Prop:=fun x vs H Q=>∃(p:RY) (its:Array RU) (n:Nat) (sl:Array (RT RU)) (ws:List Str) (z:Str) (j:Nat),x=.ref p/\vs=[.str z]/\K.lookup p=some ⟨.type "tuple",none,.seq its n,sl⟩/\l6 (ws.map V.str) its.toList/\ws.findIdx? (·==z)=some j/\Q (.int (j:Nat)) H
theorem sY:Jv X "tuple.index" (P_ X.K):=by
 intro pins s σ H x vs v us Q I rx rv h
 obtain⟨p,its,n,sl,ws,z,j,rfl,rfl,hk,hv,hj,q⟩:=h
 cases (show v=_ from rx)
 obtain⟨u,rfl,t,rfl⟩:=rv.one
 have e:=I.kIn p _ hk
 obtain⟨h1,h2,h3⟩:=List.findIdx?_eq_some_iff_getElem.mp hj
 have hlen:ws.length=its.size:=by have:=hv.length;simpa using this
 refine call_meets F.slot_tuple_index ⟨_,e,rfl⟩ F.entry_tuple_index (F.args_tuple_index_2 _ _) (B4 p its n none sl (.str z t) j (by omega)) ⟨e,fun i hi hle=>?_,?_⟩
 ·have hw:i<ws.length:=by omega
  obtain⟨u,hu,ru⟩:=hv.get (i:=i) (x:=.str ws[i]) (by simp[hw])
  obtain⟨t2,rfl⟩:=ru
  have he:its[i]=Value.str ws[i] t2:=by
   have:its[i]?=some (Value.str ws[i] t2):=by simpa using hu
   rw[S0 hi] at this
   exact Si this
  rw[he]
  have hb:(ws[i]==z)=decide (i=j):=by
   by_cases hij:i=j
   ·subst hij
    rw[S9 rfl]
    exact h2
   ·rw[Sz hij]
    exact Bool.eq_false_iff.mpr (h3 i (by omega))
  rw[<- hb]
  exact SeqAt.EqAt.str_str _ _ _ _
 ·exact⟨.int (j:Nat),H,I.tok _,⟨_,rfl⟩,q⟩
theorem tE{x:Str}{ws:List Str}{e:Sr}{f:R->OD}{px ap cp:Pos}(hc:Mo X.K X.mg x ws)(he:SE X e f)(hg:Gl X x:=by rfl)(hd:(x==("__debug__" : Str))=false:=by decide)
  (hbase:attributeBase (.Name x px) "index" X.env (eval (.Name x px) X.env)=eval (.Name x px) X.env:=by rfl) (hst:noStar e=true:=by rfl) (hline:(ap.endLine==cp.line)=true:=by rfl) :
  SE X (.Call (.Attribute (.Name x px) "index" ap) [e] [] cp) (w8 (HI ws) f):=by
 obtain⟨a,its,n,sl,hm,hk,hv⟩:=hc
 have hs:=aF [] X.env hst
 refine(oN (T:="tuple") PySem.F.plainAttrs_tuple PySem.F.slot_tuple_index PySem.F.type_tuple_index sY (lQ (v:=.ref a) hg hm rfl hd) (ac he af hst).1 hbase (by rw[hs];rfl) hline hs rfl).imp fun σ H Q ⟨ρ,d,er,e,q⟩=>?_
 obtain⟨y,e1,e⟩:=h9 e
 cases y with
 | str z =>
  obtain⟨j,e2,e3⟩:=t7 e
  subst e3
  refine⟨.inr (.inl ⟨rfl,_,hk,rfl,rfl⟩),ρ,[.str z],er,by show(f ρ).bind _=_;rw[e1];rfl,fun vs H2 s2 r2=>?_⟩
  obtain⟨v,r',rfl,h1,h2⟩:=r2
  cases (show v=_ from h1)
  cases (show r'=[] from h2)
  exact⟨a,its,n,sl,ws,z,j,rfl,rfl,hk,hv,e2,q _ H2 s2 rfl⟩
 | _=>cases e
end
section
variable{X:Cx}
def Rq:V->List V->Hp->VK->Prop:=fun x vs H Q=>∃z w,x=.str z/\vs=[]/\Ga z=some w/\Q (.str w) H
theorem JB{z w:Str}(h:Ga z=some w):Builtin.Str.tooLong (placed z fun _ c=>Unicode.upperOf c).size=false/\(⟨placed z fun _ c=>Unicode.upperOf c⟩:Str)=w:=by
 unfold Ga at h
 split at h
 ·rename_i e;cases h;subst e;exact⟨by decide +kernel,by decide +kernel⟩
 ·split at h
  ·rename_i e;cases h;subst e;exact⟨by decide +kernel,by decide +kernel⟩
  ·split at h
   ·rename_i e;cases h;subst e;exact⟨by decide +kernel,by decide +kernel⟩
   ·cases h
theorem tY:Jv X "str.upper" Rq:=by
 intro pins s σ H x vs v us Q I rx rv h
 obtain⟨z,w,rfl,rfl,hz,q⟩:=h
 obtain⟨t,rfl⟩:=rx
 cases rv
 obtain⟨f1,f2⟩:=JB hz
 exact call_gives F.slot_str_upper (typeIs_str s z t) F.entry_str_upper (F.args_str_upper_1 _) (gives_str_upper z t f1) ⟨Nat.le_of_not_lt (of_decide_eq_false f1),.str w,H,I.tok _,⟨_,by rw[f2]⟩,q⟩
theorem sw{a:Sr}{f:R->OD}{ap cp:Pos}(ha:SE X a f)(hbase:attributeBase a "upper" X.env (eval a X.env)=eval a X.env:=by rfl)(hline:(ap.endLine==cp.line)=true:=by rfl) :
  SE X (.Call (.Attribute a "upper" ap) [] [] cp) (w8 PN f):=(sZ (T:="str") PySem.F.plainAttrs_str PySem.F.slot_str_upper PySem.F.type_str_upper tY ha hbase hline).imp fun σ H Q ⟨ρ,d,er,e,q⟩=>by
 obtain⟨x,e1,e⟩:=h9 e
 cases x with
 | str z =>
  obtain⟨w,e2,e3⟩:=t7 e
  subst e3
  exact⟨ρ,_,er,e1,fun v H1 s1 r1=>by cases (show v=_ from r1);exact⟨rfl,z,w,rfl,rfl,e2,q _ H1 s1 rfl⟩⟩
 | _=>cases e
end
section
variable{X:Cx}{i k:Nat}{fa:RY}{e a:Sr}{es:List Sr}{pos p:Pos}{f:R->OD}{F:R->RT LD}{G:LD->OD}
def Qv(i:Nat)(fa:RY)(σ:L2.St):Prop:=σ[i]?=some (some (.ref fa))
def NA(X:Cx)(i:Nat)(fa:RY)(e:Sr)(f:R->OD):Prop:=PE X e (fun σ H Q=>Qv i fa σ/\tD X.K f σ H Q)
def NQ(X:Cx)(i:Nat)(fa:RY)(es:List Sr)(F:R->RT LD):Prop:=PA X es (fun σ H Q=>Qv i fa σ/\Oq X.K F σ H Q)/\(∀ ρ ds,F ρ=some ds->ds.length=es.length)/\es.all noStar=true
def Q3(X:Cx)(i:Nat)(fa:RY)(st:So)(g:R->RT Out):Prop:=PS X st (fun E σ H=>Qv i fa σ/\Lf X.K g E σ H)
def OV(P:R9)(w:Sk)(K:RW)(mg:Str->RT RU)(base:Sq)(k:Nat)(fa:RY)(G:LD->OD):Prop:=∃fd ps,k6 P w K mg base ue k fa fd ps (uP K G)/\W.keepIn K (.ref fa)=true/\Binds K fd ps []
theorem uS{P:R9}{w:Sk}{K:RW}{mg:Str->RT RU}{base:Sq}{x:Str}{ps:List Str}(C:l8 P w K mg base k x ps G)(h:mg x=some (.ref fa)):OV P w K mg base k fa G:=by
 obtain⟨f,fd,a,m,kp,bd⟩:=C.ex
 rw[h] at m
 cases m
 exact⟨fd,ps,a,kp,bd⟩
theorem MC(h:SE X e f):NA X i fa e f:=h.imp fun _ _ _ q=>q.2
theorem HD(h:SA X es F):NQ X i fa es F:=⟨h.1.imp fun _ _ _ q=>q.2,h.2⟩
theorem Bc(ha:NA X i fa e f)(hr:NQ X i fa es F)(hs:noStar e=true:=by rfl):NQ X i fa (e::es) (c4 f F):=⟨(eD ha hr.1 (aF es X.env hs)).imp fun σ H Q ⟨x,ρ,ds,er,e,q⟩=>by
 obtain⟨d,e1,e⟩:=h9 e
 obtain⟨y,e2,e⟩:=t7 e
 subst e
 exact⟨x,ρ,d,er,e1,fun v H1 s1 r1=>⟨x,ρ,y,er.mono s1,e2,fun vs H2 s2 r2=>q _ H2 (s1.trans s2) (i5.cons (r1.mono s2) r2)⟩⟩,fun ρ ds e=>by
 obtain⟨d,e1,e⟩:=h9 e
 obtain⟨y,e2,e⟩:=t7 e
 subst e
 simp[hr.2.1 ρ y e2],by rw[SL,hs,hr.2.2];rfl⟩
theorem IO{x:Str}{ps:List Str}(C:l8 X.prog X.w X.K X.mg X.base k x ps G)(hr:ua k X.A)(ha:NQ X i fa (e::es) F)(hg:Gl X x:=by rfl)
  (hdb:(x==("__debug__" : Str))=false:=by decide):NA X i fa (.Call (.Name x p) (e::es) [] pos) (c8 G F):=by
 have hst:=ha.2.2
 rw[SL,R1] at hst
 have he:=aF es X.env hst.1
 have hpl:=bv (pos:=pos) (env:=X.env) hst.2
 obtain⟨f,fd,a,m,kp,bd⟩:=C.ex
 refine(iP a hr hg m kp bd .nil ym ha.1 hdb he hpl).imp fun σ H Q ⟨x,ρ,d,er,e,q⟩=>?_
 obtain⟨ds,e1,e⟩:=h9 e
 exact⟨x,ρ,ds,er,e1,fun vs H1 s1 r1=>⟨ds,d,by rw[Sw];exact r1,e,fun v H2 s2 r2=>q v H2 (s1.trans s2) r2⟩⟩
theorem Kn{k}(h:NQ X i fa es F)(hl:Nat.ble es.length 1000=true:=by rfl):NA X i fa (.Tuple es k pos) (l7 F):=(nN h.1).imp fun σ H Q ⟨x,ρ,d,er,e,q⟩=>by
 obtain⟨ds,e1,e⟩:=t7 e
 subst e
 refine⟨x,ρ,ds,er,e1,fun vs H1 s1 r1=>⟨?_,fun p hp=>?_⟩⟩
 ·rw[<- r1.length,h.2.1 ρ ds e1];exact Nat.le_of_lt (yN (Nat.le_of_ble_eq_true hl))
 ·have s2:=bh hp (.tup vs)
  exact q _ _ (s1.trans s2) ⟨p,vs,rfl,xn.of au,r1.mono s2⟩
theorem CL{x:Str}(hF:OV X.prog X.w X.K X.mg X.base k fa G)(hr:ua k X.A)(ha:SA X (e::es) F)(hN:X.N[i]?=some x:=by rfl)(hv:B0 X.env.scope x:=by first | exact Or.inl rfl | exact Or.inr (Or.inl rfl) | exact Or.inr (Or.inr rfl))
  (hd:(x==("__debug__" : Str))=false:=by decide) (hcd:(x==("__classdict__" : Str))=false:=by decide):NA X i fa (.Call (.Name x p) (e::es) [] pos) (c8 G F):=by
 have hst:=ha.2.2
 rw[SL,R1] at hst
 have he:=aF es X.env hst.1
 have hpl:=bv (pos:=pos) (env:=X.env) hst.2
 obtain⟨fd,ps,a,kp,bd⟩:=hF
 intro pins s σ H Q I h
 obtain⟨x1,ρ,d,er,e,q⟩:=h
 obtain⟨ds,e1,e⟩:=h9 e
 refine S8 (uo (ju (pos:=p) hN hv hd hcd pins s σ H (fun v H1=>v=.ref fa/\H1=H) I ⟨.ref fa,x1,rfl,rfl⟩) fun u s1 ⟨v,H1,I1,rv,ev,eH⟩=>?_)
 subst ev eH
 cases (show u=_ from rv)
 refine W.callWith_K (h₀:=X.base) I1.ok.mod.kin kp (uo (ha.1 pos pins s1 σ H1 (fun vs H2=>i6 H1 H2/\i5 X.K H2 ds vs) I1 ⟨ρ,ds,er,e1,fun vs H2 s2 r2=>⟨s2,r2⟩⟩) fun us s2 ⟨vs,H2,I2,r,s12,rp⟩=>⟨I2.kIn,?_⟩) he hpl
 exact Br a hr bd .nil ym I2 r ⟨ds,d,by rw[Sw];exact rp,e,fun v H3 s3 r3=>q v H3 (s12.trans s3) r3⟩
theorem Iq(ha:NA X i fa a f):Q3 X i fa (.Return (some a) pos) (l4 f):=(lL ha).imp fun E σ H ⟨x,ρ,τ,o,er,e,q⟩=>by
 obtain⟨d,e1,e⟩:=t7 e
 subst e
 exact⟨x,ρ,d,er.1,e1,fun v H1 s1 r1=>q H1 s1 v r1⟩
inductive Tab (P:R9) (w:Sk) (K:RW) (mg:Str->RT RU) (base:Sq) (k:Nat):List (Str×(LD->OD))->List (Str×RU)->Prop
 | nil:Tab P w K mg base k [] []
 | cons {z:Str} {G:LD->OD} {fa:RY} {t:List (Str×(LD->OD))} {vs:List (Str×RU)}:OV P w K mg base k fa G->Tab P w K mg base k t vs->Tab P w K mg base k ((z,G)::t) ((z,.ref fa)::vs)
theorem Tab.get{P:R9}{w:Sk}{K:RW}{mg:Str->RT RU}{base:Sq}{t:List (Str×(LD->OD))}{vs:List (Str×RU)}(h:Tab P w K mg base k t vs){z:Str}(e:t.lookup z=some G):∃fa,valueAt vs z=some (.ref fa)/\OV P w K mg base k fa G:=by
 induction h with
 | nil=>cases e
 | @cons y G' fa t vs h1 h2 ih =>
  unfold valueAt
  rw[List.find?_cons]
  by_cases hz:y=z
  ·subst hz
   rw[List.lookup_cons,beq_self_eq_true] at e
   cases e
   simp
   exact h1
  ·rw[List.lookup_cons,SD.mpr (fun q=>hz q.symm)] at e
   obtain⟨fb,q1,q2⟩:=ih e
   refine⟨fb,?_,q2⟩
   unfold valueAt at q1
   simp[hz]
   simpa using q1
def D0(P:R9)(w:Sk)(K:RW)(mg:Str->RT RU)(base:Sq)(k:Nat)(T:Str)(t:List (Str×(LD->OD))):Prop:=∃a vs,mg T=some (.ref a)/\(∀h:Sq,K.In h->h.DictOf (strKind P w) a vs)/\Tab P w K mg base k t vs
def entries(w:Sk):List (Str×Tok×RU)->List DictEntry
 | []=>[]
 | (z,t,v)::r=>{hash:=PyData.keyHash w.params z,key:=.str z t,val:=v}::entries w r
theorem me{P:R9}{w:Sk}{K:RW}{a:RY}{n:Nat}(l:List (Str×Tok×RU))(hk:K.lookup a=some ⟨.type "dict",none,.dict (entries w l).toArray n,#[]⟩)(hn:(l.map (·.1)).Nodup)(h:Sq)(X:K.In h) :
  h.DictOf (strKind P w) a (l.map fun p=>(p.1,p.2.2)):=by
 refine⟨_,_,_,X _ _ hk,⟨rfl,rfl,rfl⟩,rfl,?_,?_,?_⟩
 ·intro e he
  have he':e∈entries w l:=by simpa using he
  clear he hk hn
  induction l with
  | nil=>cases he'
  | cons p l ih =>
   obtain⟨z,t,v⟩:=p
   rcases Sf.mp he' with rfl | h2
   ·exact⟨z,strKind_is P w z t,rfl⟩
   ·exact ih h2
 ·show Pairs _ (entries w l) _
  clear hk hn
  induction l with
  | nil=>exact .nil
  | cons p l ih =>
   obtain⟨z,t,v⟩:=p
   exact .cons (strKind_is P w z t) rfl ih
 ·rw[List.map_map]
  exact hn
theorem ut.hide{K:RW}{H:Hp}{ρ:R}{σ:L2.St}(e:ut K H ρ σ)(i:Nat)(v:RT V):ut K H (ρ.set i none) (σ.set i v):=by
 refine⟨by simpa using e.1,fun j c h=>?_⟩
 by_cases hj:i=j
 ·subst hj
  by_cases hi:i<ρ.length
  ·rw[SH hi] at h
   cases h
  ·rw[Te (by simpa using hi)] at h
   cases h
 ·rw[SM hj] at h ⊢
  exact e.2 j c h
theorem sA{T x:Str}{pt px ps:Pos}{st:So}{t:List (Str×(LD->OD))}{g:(LD->OD)->R->RT Out}(i:Nat)(hN:X.N.Nodup)(hT:D0 X.prog X.w X.K X.mg X.base k T t)(he:SE X e f)(hb:∀fa G,OV X.prog X.w X.K X.mg X.base k fa G->Q3 X i fa st (g G))
  (hg:Gl X T:=by rfl) (hi:X.N[i]?=some x:=by rfl) (hx:Loc X.env.scope x:=by first | exact Or.inl rfl | exact Or.inr rfl) (hs:DE e:=by intro _ _;rfl)
  (hw:swapsWith (.Subscript (.Name T pt) e ps) (some (.Name x px)) pos.line X.env=pure false:=by rfl) (hf:X.fn x=true\/X.env.scope.names.lookup x=some .local:=by first | exact .inl rfl | exact .inr rfl) (hdb:(T==("__debug__" : Str))=false:=by decide) :
  SS X [.Assign [.Name x px] (.Subscript (.Name T pt) e ps) pos,st] (NJ i t f g):=by
 obtain⟨a,vs,hm,hd,ht⟩:=hT
 have hix:IxR X (fun x y H Q=>∃z fa,x=.ref a/\y=.str z/\valueAt vs z=some (.ref fa)/\Q (.ref fa) H):=by
  intro value slice pins s σ H x y v u Q I rx ry h hs
  obtain⟨z,fa,rfl,rfl,hv,q⟩:=h
  cases rx
  obtain⟨tk,rfl⟩:=ry
  have hdd:=hd s.heap I.kIn
  exact tail_any hdd.mapOf.typeIs PySem.F.slot_dict_getitem.lookup (wpAny_getItem_of (strKind_is X.prog X.w z tk) hdd.mapOf hv ⟨.ref fa,H,I.tok _,rfl,q⟩) hs
 have hsub:=sD (pos:=ps) hix (lQ (pos:=pt) (v:=.ref a) hg hm rfl hdb) he hs
 intro pins s σ H E I h
 obtain⟨ρ,τ,o,er,ef,q⟩:=h
 obtain⟨d,e1,ef⟩:=h9 ef
 cases d with
 | str z =>
  obtain⟨G,e2,e3⟩:=h9 ef
  obtain⟨fa,hv,hF⟩:=ht.get e2
  have hl:i<σ.length:=by
   rw[I.len]
   exact(Sg.mp hi).1
  split at e3
  case isFalse=>cases e3
  case isTrue hlt =>
  refine dw (ib hN hi hx hsub hw hf) (c_ (hb fa G hF)) pins s σ H E I ?_
  refine⟨ρ,_,er.1,e1,fun v H1 s1 r1=>⟨z,fa,rfl,r1,hv,?_⟩⟩
  refine⟨SH hl,ρ.set i none,τ,o,⟨(er.1.mono s1).hide i _,?_⟩,e3,fun H2 s2=>q H2 (s1.trans s2)⟩
  rw[S4,List.drop_set_of_lt hlt]
  exact er.2
 | _=>cases ef
end
section
variable{X:Cx}
end
end HW
namespace HW
open PySem
def Gv:LD->RT (List Str)
 | []=>some []
 | d::r=>(sI d).bind fun x=>(Gv r).map fun xs=>x::xs
noncomputable def En(sep:Str)(xs:List Str):RT Str:=if xs.toArray.foldl (fun n x=>n+x.length+sep.length) 0<=sizeLine/\(Builtin.Str.glued sep xs).length<=sizeLine then some (Builtin.Str.glued sep xs) else none
@[simp] def Q1:LD->OD
 | [.str s,.lst ds]=>(Gv ds).bind fun xs=>(En s xs).map .str
 | _=>none
@[simp] def Dv:LD->OD
 | [.str s,.lst ds]=>(Gv ds.reverse).bind fun xs=>(En s xs).map .str
 | _=>none
noncomputable def Li(x:Str)(n c:Nat):Str:=if n<=x.length then x else Builtin.Str.padded x (n - x.length) 0 c
@[simp] def Pk:LD->OD
 | [.str x,.int i,.str f]=>if 0<=i/\i<=1000/\f.length=1 then some (.str (Li x i.toNat (f.cps.getD 0 0))) else none
 | _=>none
noncomputable def wA(a b c:Int):Nat:=if a<b then ((b - a - 1) / c+1).toNat else 0
def Aw(a b c:Int):LD:=(List.range (wA a b c)).map fun (k:Nat)=>D.int (a+(k:Int)*c)
@[simp] def Dj (f g h:R->OD):R->RT LD:=fun ρ=>(f ρ).bind fun x=>(g ρ).bind fun y=>(h ρ).bind fun z=>(nI x).bind fun i=>(nI y).bind fun j=>(nI z).bind fun c =>
 if -(2 ^ 60)<=i/\i<2 ^ 60 /\ -(2 ^ 60)<=j/\j<2 ^ 60/\0<c/\c<1073741824 then some (Aw i j c) else none
@[simp] def GS (c:R->RT Bool):R->RT Out:=fun ρ=>(c ρ).bind fun b=>if b then none else some (.nx ρ)
end HW
namespace HW
open PySem PySem.Spec PyProof.Rows L2
section
variable{X:Cx}{a:Sr}{f:R->OD}{pos p2:Pos}
end
theorem RM{us:List RU}(h:us.length=1):∃x0,us=[x0]:=by
 match us,h with
 | [x0],_=>exact⟨x0,rfl⟩
theorem ln2{us:List RU}(h:us.length=2):∃x0 x1,us=[x0,x1]:=by
 match us,h with
 | [x0,x1],_=>exact⟨x0,x1,rfl⟩
theorem RS{us:List RU}(h:us.length=3):∃x0 x1 x2,us=[x0,x1,x2]:=by
 match us,h with
 | [x0,x1,x2],_=>exact⟨x0,x1,x2,rfl⟩
section
variable{X:Cx}
def PD(X:Cx)(id:String)(G:LD->OD):Prop:=Jv X id fun x vs H Q=>∃dx ds d,Rep X.K H dx x/\i5 X.K H ds vs/\G (dx::ds)=some d/\∀v H',i6 H H'->Rep X.K H' d v->Q v H'
theorem tT {a e:Sr} {es:List Sr} {f:R->OD} {F:R->RT LD} {G:LD->OD} {name:Str} {id:String} {ap cp:Pos} (slot:Slot "str" name id)
    (hty:typeOf (.builtin id)=pure (.type "method_descriptor")) (hm:PD X id G) (hG:∀x ds d,G (x::ds)=some d->∃z,x=.str z) (ha:SE X a f) (hF:SA X (e::es) F)
    (hbase:attributeBase a name X.env (eval a X.env)=eval a X.env:=by rfl)
    (hfew:((backTo cp (starEach (e::es) X.env)).all (fun x=>!x.1)&&(backToKw cp (keywordEach [] X.env)).all (fun x=>x.1.isSome)
      && decide ((e::es).length+([]:List Keyword).length+(if ([]:List Keyword).isEmpty then 0 else 1)<30))=true:=by rfl)
    (hline:(ap.endLine==cp.line)=true:=by rfl) :
    SE X (.Call (.Attribute a name ap) (e::es) [] cp) (c8 G (c4 f F)):=by
  have hst:=hF.2.2
  rw[SL,R1] at hst
  refine(oN (T:="str") PySem.F.plainAttrs_str slot hty hm ha hF.1 hbase hfew hline (aF es X.env hst.1) (bv (pos:=cp) (env:=X.env) hst.2)).imp fun σ H Q ⟨ρ,d,er,e,q⟩=>?_
  obtain⟨dd,e1,e⟩:=h9 e
  obtain⟨x,e2,e1⟩:=h9 e1
  obtain⟨ds,e3,e1⟩:=t7 e1
  subst e1
  obtain⟨z,rfl⟩:=hG x ds d e
  exact⟨ρ,_,er,e2,fun v H1 s1 r1=>⟨by cases (show v=_ from r1);exact rfl,ρ,ds,er.mono s1,e3,fun vs H2 s2 r2=>⟨.str z,ds,d,r1.mono s2,r2,e,fun u H3 s3 r3=>q u H3 (s1.trans (s2.trans s3)) r3⟩⟩⟩
theorem CB:∀{K:RW} {H:Hp} {ds:LD} {vs:List V} {us:List RU} {xs:List Str},Gv ds=some xs->i5 K H ds vs->l6 vs us->∃l:List (Str×Tok),us=strValues l/\l.map (·.1)=xs
 | _,_,[],vs,us,xs,e,r,h=>by
  cases e
  cases (show vs=[] from r)
  cases h
  exact⟨[],rfl,rfl⟩
 | K,H,d::ds,vs,us,xs,e,r,h=>by
  obtain⟨x,e1,e⟩:=h9 e
  obtain⟨ys,e2,rfl⟩:=t7 e
  obtain⟨v,vs',rfl,r1,r2⟩:=r
  have hv:=D8 e1 r1
  subst hv
  cases h with
  | cons h1 h2 =>
   obtain⟨t,rfl⟩:=h1
   obtain⟨l,rfl,rfl⟩:=CB e2 r2 h2
   exact⟨(x,t)::l,rfl,rfl⟩
theorem Hk{sep:Str}{l:List (Str×Tok)}{pins:List (RY×Obj)}{σ:L2.St}{H:Hp}{s:RX}{Q:VK}(I:L2.Inv X pins σ H s)(hz:(Builtin.Str.glued sep (l.map (·.1))).length<=sizeLine)
  (q:Q (.str (Builtin.Str.glued sep (l.map (·.1)))) H):(joinMade sep l).post (EP X pins σ Q) s:=by
 have key:∀t,EP X pins σ Q (.str (Builtin.Str.glued sep (l.map (·.1))) t) s:=fun t=>⟨.str _,H,I,⟨t,rfl⟩,q⟩
 match l,hz,key with
 | [],hz,key=>exact⟨hz,.str _,H,I.tok _,⟨_,rfl⟩,q⟩
 | [p],hz,key=>exact key p.2
 | p1::p2::r,hz,key=>exact⟨hz,.str _,H,I.tok _,⟨_,rfl⟩,q⟩
theorem HQ(x:Str)(i:Int)(c:Nat)(t u u2:Tok)(h0:0<=i)(h1:i<=1000) :
  Gives (Builtin.«str.rjust» ⟨[.str x t,.int i u,.str ⟨#[c]⟩ u2],[]⟩) (if i<=x.length then .val (.str x t) else .str (Builtin.Str.padded x (i.toNat - x.length) 0 c)):=by
 have ei:Builtin.Str.asSsize (toString "str." ++ toString "rjust") (.int i u)=pure i:=asSsize_int _ _ _ (by rw[Sz (by omega),Sz (by omega)];rfl)
 have ez:Builtin.Str.tooLong i.toNat=false:=Sz (by
  have z:1000<=sizeLine:=by decide
  omega)
 have eb:Builtin.«str.rjust» ⟨[.str x t,.int i u,.str ⟨#[c]⟩ u2],[]⟩=(Builtin.Str.asSsize (toString "str." ++ toString "rjust") (.int i u) >>= fun n =>
   if n<=(x.length:Int) then (do rule (toString "str." ++ toString "rjust" ++ toString ".long-enough");ret (.str x t))
   else if Builtin.Str.tooLong n.toNat=true then unsupported (toString "str." ++ toString "rjust" ++ toString ":memory") else retStr (Builtin.Str.padded x (n.toNat - x.length) 0 c)):=rfl
 rw[eb,ei]
 show Gives (if i<=(x.length:Int) then _ else if Builtin.Str.tooLong i.toNat=true then _ else _) _
 rw[ez]
 split
 ·exact Gives.rule (Gives.of_eq rfl)
 ·exact Gives.of_eq rfl
end
section
variable{prog:R9}{w:Sk}{A:Sv}{E:RU->RX->Prop}{s:RX}
theorem G3:typeLookup (.type "list_reverseiterator") "__len__" = pure none:=by
 rw[typeLookup_type,builtinLookup_eq_fast];kernel_rfl -- list_reverseiterator
theorem Ii:typeLookup (.type "list_reverseiterator") "__length_hint__" = pure (some (.builtin "list_reverseiterator.__length_hint__")):=by
 rw[typeLookup_type,builtinLookup_eq_fast];kernel_rfl -- list_reverseiterator
abbrev Gd(its:Array RU)(i:Nat)(v:RU):Prop:=its[its.size - 1 - i]?=some v
theorem D2{Q:List RU->RX->Prop}{j l:RY}{its:Array RU}(hh:A.handled=none)(hne:l≠j)(hj:s.heap.IsRevIter j l ((its.size:Int) - 1))(hl:s.heap.IsList l its)(hz:its.size<=sizeLine)
  (hQ:∀s' acc,Moved [j] (fun a b=>b=a) s s'->ItemsOf (Gd its) acc its.size->Q acc.toList s'):wpAny (model prog w) A (collect (.ref j)) Q E s:=by
 have W:=(Walks.listRev (prog:=prog) (w:=w) (A:=A.in1) hh j l hne its).toS
 have st0:(0<=its.size/\s.heap.IsRevIter j l ((its.size:Int) - 1 - ((0:Nat):Int))/\s.heap.IsList l its):=⟨SU _,by rw[show(its.size:Int) - 1 - ((0:Nat):Int)=(its.size:Int) - 1 by omega];exact hj,hl⟩
 have hjs:j<s.heap.objs.size:=let ⟨o,ho,_⟩:=hj;R_ ho
 have hls:l<s.heap.objs.size:=let ⟨o,ho,_⟩:=hl;R_ ho
 have hnf:s.heap.objs.size ∉ [j,l]:=fun hm=>by
  rcases Sf.mp hm with ej | hm'
  ·exact Sm hjs (by rw[ej];exact SN _)
  ·exact Sm hls (by rw[R4.mp hm'];exact SN _)
 unfold collect
 refine RV (wpAny_runValue (Td PySem.F.entry_proto_collect ?_))
 rw[Around.under_plainId PySem.F.plain_proto_collect _];show wpAny _ A.in1 (newList [] >>= fun q=>again (.builtin "list.__iadd__" ⟨[q,.ref j],[]⟩)) _ _ s
 refine RV (S6 (R5 ⟨plainId_quiet PySem.F.plain_list_iadd _,Td PySem.F.entry_list_iadd ?_⟩));rw[Around.under_plainId PySem.F.plain_list_iadd _]
 have st1:=W.frame 0 s (s.heap.push {cls:=.type "list",data:=.seq ([]:List RU).toArray}) s.toks st0 (Se _) fun b _ o e=>R0 _ e
 have new1:(s.heap.push {cls:=.type "list",data:=.seq ([]:List RU).toArray}).get? s.heap.objs.size=some {cls:=.type "list",data:=.seq ([]:List RU).toArray}:=Sd _ rfl
 have ne1:Builtin.List.listSameRef (.ref s.heap.objs.size) (.ref j)=false:=by
  have:s.heap.objs.size≠j:=fun e=>hnf (by rw[e];exact SY)
  simp[Builtin.List.listSameRef,this]
 have ty1:=(show _ from st1).2.1.typeIs (s:={s with heap:=s.heap.push {cls:=.type "list",data:=.seq ([]:List RU).toArray} })
 show wpAny _ A.in1 (Builtin.List.listExtendWith (.ref s.heap.objs.size) (.ref j) (.ref s.heap.objs.size)) _ _ _
 unfold Builtin.List.listExtendWith;refine RV (wpAny_typeOf ty1 ?_)
 rw[Sa (by rw[ne1];decide)]
 refine RV (W.self 0 _ _ _ st1 (RV (wpAny_holding ?_)));unfold Builtin.List.listLengthHint
 refine RV (wpAny_specialOf ty1 G3 ?_)
 show wpAny _ A.in1 (specialOf (Value.ref j) (oS "__length_hint__") >>= _) _ _ _
 refine RV (wpAny_specialOf ty1 Ii ?_)
 generalize Lx:("list_reverseiterator.__length_hint__" : String)=nm
 wp_delta
 rw[show splitId nm=some ("list_reverseiterator","__length_hint__") from by subst Lx;decide +kernel]
 subst Lx
 refine RV (wpAny_isInstance (b:=true) ty1 (by rw[isSubtype_type];kernel_rfl) ?_)
 refine R5 ?_
 rw[Sa (by decide)]
 refine R5 ⟨plainId_quiet PySem.F.plain_extend_loop _,codeAny_extend_loopS W hz _ hnf _ its.size 0 _ _ _ rfl (SU _) st1 new1 (ItemsOf.nil (Gd its)) fun s' acc' c' hm hS' hacc=>?_⟩
 show wpAny _ A (load s.heap.objs.size >>= _) _ _ s';exact RV (wpAny_load hS' (R5 (hQ s' acc' (Moved.drop_new (o:={cls:=.type "list",data:=.seq ([]:List RU).toArray}) (tk:=s.toks) hm (Se _)) hacc)))
theorem G4{lv:List (Str×Tok)}{acc:Array RU}(h:ItemsOf (Gd (strValues lv).toArray) acc (strValues lv).toArray.size):acc.toList=strValues lv.reverse:=by
 have hn:(strValues lv).toArray.size=lv.length:=by simp[strValues]
 have hr:strValues lv.reverse=(strValues lv).reverse:=by simp[strValues]
 rw[hr]
 have hs:acc.size=lv.length:=h.1.trans hn
 have hl:(strValues lv).length=lv.length:=by simp[strValues]
 refine List.ext_getElem (by rw[List.length_reverse,SK,hs,hl]) fun i h1 h2=>?_
 have h3:i<acc.size:=by simpa using h1
 have z:=h.2 i acc[i] (S0 h3)
 unfold Gd at z
 rw[hn] at z
 have hi:i<lv.length:=by omega
 have z2:(strValues lv)[lv.length - 1 - i]?=some acc[i]:=by simpa using z
 rw[List.getElem_reverse]
 have h4:lv.length - 1 - i<(strValues lv).length:=by omega
 rw[List.getElem?_eq_getElem h4] at z2
 have z3:=Si z2
 rw[Array.getElem_toList]
 simp only[hl]
 exact z3.symm
theorem Fo(sep:Str)(l:List (Str×Tok))(h:Builtin.Str.tooLong ((l.map (·.1)).toArray.foldl (·+·.length+sep.length) 0)=false):Gives (joinTail sep (strValues l)) (joinMade sep l):=by
 match l,h with
 | [],h=>exact gives_joinTail sep [] h
 | [a],h=>exact gives_joinTail sep [a] h
 | a::b::r,h=>exact gives_joinTail sep (a::b::r) h
theorem Ja{Q:RU->RX->Prop}{sep:Str}{t:Tok}{j l:RY}{lv:List (Str×Tok)}(hh:A.handled=none)(hne:l≠j)(hj:s.heap.IsRevIter j l ((lv.length:Int) - 1))(hl:s.heap.IsList l (strValues lv).toArray)(hz:lv.length<=sizeLine)
  (hg:Builtin.Str.tooLong ((lv.reverse.map (·.1)).toArray.foldl (·+·.length+sep.length) 0)=false) (hQ:∀s',Moved [j] (fun a b=>b=a) s s'->(joinMade sep lv.reverse).post Q s') :
  wpAny (model prog w) A (call (.builtin "str.join") [.str sep t,.ref j]) Q E s:=by
 have hn:(strValues lv).toArray.size=lv.length:=by simp[strValues]
 refine wpAny_call (codeAny_call_builtin PySem.F.slot_str_join.plain PySem.F.entry_str_join (PySem.F.slot_str_join.check _ _ _ _ _ _ _ _ (typeIs_str _ _ _) (PySem.F.args_str_join_2 _ _) ?_))
 rw[join_tree_other]
 refine RV (wpAny_typeOf hj.typeIs ?_)
 show wpAny _ A.in1 ((pyIter (.ref j)).tryCatch _ >>= fun it=>collect it >>= fun items=>joinTail sep items) _ _ s
 refine RV (wpAny_tryCatch (wpAny_pyIter_revIter hj (RV (D2 (A:=A.in1) hh hne (by rw[hn];exact hj) hl (by rw[hn];exact hz) fun s' acc hm hacc=>?_))))
 rw[G4 hacc]
 exact Fo sep lv.reverse hg prog w A (wants Q E) s' (hQ s' hm)
end
section
variable{X:Cx}
theorem qG {a e:Sr} {f g:R->OD} {ap cp pr p2:Pos} (hc:X.calm=true) (hm:X.mg "reversed" = none) (ha:SE X a f) (he:SE X e g) (hg:Gl X "reversed":=by rfl) (hst:noStar e=true:=by rfl)
    (hbase:attributeBase a "join" X.env (eval a X.env)=eval a X.env:=by rfl)
    (hfew:((backTo cp (starEach [.Call (.Name "reversed" pr) [e] [] p2] X.env)).all (fun x=>!x.1)&&(backToKw cp (keywordEach [] X.env)).all (fun x=>x.1.isSome)
      && decide ([Expr.Call (.Name "reversed" pr) [e] [] p2].length+([]:List Keyword).length+(if ([]:List Keyword).isEmpty then 0 else 1)<30))=true:=by rfl)
    (hline:(ap.endLine==cp.line)=true:=by rfl) :
    SE X (.Call (.Attribute a "join" ap) [.Call (.Name "reversed" pr) [e] [] p2] [] cp) (c8 Dv (c4 f (c4 g c7))):=by
  intro pins s σ H Q I hw
  obtain⟨ρ,d,er,e0,q⟩:=hw
  obtain⟨dd,e1,e0⟩:=h9 e0
  obtain⟨x,e2,e1⟩:=h9 e1
  obtain⟨ds,e3,e1⟩:=t7 e1
  subst e1
  obtain⟨y,e4,e3⟩:=h9 e3
  cases e3
  match x,y,e0 with
  | .str sep,.lst es,e0 =>
    obtain⟨xs,e5,e0⟩:=h9 e0
    obtain⟨wd,e6,rfl⟩:=t7 e0
    unfold En at e6
    split at e6
    · rename_i hz
      cases e6
      have hst1:=aF [] X.env hst
      refine wpAny_Call_method_late hbase hfew hline rfl (uo (ha pins s σ H (fun v H1=>i6 H H1/\Rep X.K H1 (.str sep) v) I ⟨ρ,_,er,e2,fun v H1 s1 r1=>⟨s1,r1⟩⟩) fun v s1 ⟨vx,H1,I1,r1,s01,rp⟩=>?_)
      cases (show vx=_ from rp)
      obtain⟨t,rfl⟩:=r1
      obtain⟨h1,h2⟩:=Fx (T:="str") (x:=.str sep) I1 ⟨t,rfl⟩ rfl
      refine⟨"str","str.join",PySem.F.plainAttrs_str,PySem.F.slot_str_join,PySem.F.type_str_join,h1,h2,?_⟩
      refine Calls.callWith_builtin rfl (Calls.evalArgs_plain (Calls.spliced_cons ?_))
      refine S8 (cJ I1 hg hm (u:=.type "reversed") (by kernel_rfl) ?_)
      refine callWith_type1 ?_ hst1 rfl
      rw[hst1]
      refine Calls.spliced_cons (uo (he pins s1 σ H1 (fun v H2=>i6 H1 H2/\Rep X.K H2 (.lst es) v) I1 ⟨ρ,_,er.mono s01,e4,fun v H2 s2 r2=>⟨s2,r2⟩⟩) fun u s2 ⟨vu,H2,I2,ru,s12,rl⟩=>Calls.spliced_nil ?_)
      obtain⟨b,vs,rfl,hq,ts⟩:=rl
      cases (show u=_ from ru)
      obtain⟨its,rr,ht,hlen⟩:=I2.list (wj.of hq)
      obtain⟨lv,hu,hx⟩:=CB e5 ts.reverse (mF rr)
      have hi:its=strValues lv.reverse:=by
        have z:=congrArg List.reverse hu
        rw[List.reverse_reverse] at z
        rw[z];simp[strValues]
      subst hi
      subst hx
      have hlb:b<s2.heap.objs.size:=let ⟨o,ho,_⟩:=ht.isList;R_ ho
      have hn:(strValues lv.reverse).toArray.size=lv.reverse.length:=by simp[strValues]
      have hlv:lv.reverse.length<=sizeLine:=by rw[<- hn,Sb,<- rr.length];exact hlen
      refine call_reversed_list ht.isList (Calls.spliced_nil ?_)
      refine Ja (I1.ok.hd hc) (lv:=lv.reverse) (Sn hlb) ⟨_,Sd _ rfl,rfl,by rw[hn];rfl⟩ (ht.isList.at fun o ho=>R0 _ ho) hlv ?_ fun s' hm=>?_
      · rw[List.reverse_reverse]
        exact Sz (Nat.not_lt.mpr hz.1)
      · rw[List.reverse_reverse]
        have I3:L2.Inv X pins σ H2 s':=by
          rw[hm.eq_with]
          exact I2.kept fun c o ho=>hm.heap c o (fun hc=>Sm (R_ ho) (by rw[R4.mp hc];exact SN _)) (R0 _ ho)
        exact Hk I3 hz.2 (q _ H2 (s01.trans s12) rfl)
    · cases e6
theorem qD{c:Sr}{body:List So}{f:R->RT Bool}{pos:Pos}(hp:PassesOwn (model X.prog X.w) X.A X.env X.xe)(hc:ST X c f):S1 X (.While c body [] pos) (GS f):=by
 have hb:PSs X body (fun _ _ _=>False):=fun pins s σ H D I h=>h.elim
 refine(qv hp hc hb).imp fun E σ H ⟨ρ,τ,o,er,e,q⟩=>?_
 obtain⟨b,e1,e⟩:=h9 e
 cases b with
 | true=>cases e
 | false =>
  cases e
  refine⟨fun m σ' H'=>σ'=σ/\H'=H,⟨0,rfl,rfl⟩,?_⟩
  rintro m _ _ ⟨rfl,rfl⟩
  exact⟨ρ,false,er.1,e1,fun H1 s1=>(Sa (show ¬ (false=true) from R6)).mpr (q H1 s1 _ (er.mono s1))⟩
theorem tS:PD X "str.rjust" Pk:=by
 intro pins s σ H x vs v us Q I rx rv h
 obtain⟨dx,ds,d,r1,r2,e,q⟩:=h
 match dx,ds,e with
 | .str z,[.int i,.str g],e =>
  replace e:(if 0<=i/\i<=1000/\g.length=1 then some (D.str (Li z i.toNat (g.cps.getD 0 0))) else none)=some d:=e
  split at e
  ·rename_i hz
   obtain⟨h0,h1,hg⟩:=hz
   cases e
   cases (show x=_ from r1)
   obtain⟨t,rfl⟩:=rx
   obtain⟨u,r',rfl,k1,r2⟩:=r2
   obtain⟨u2,r3,rfl,k2,r2⟩:=r2
   cases (show r3=[] from r2)
   cases (show u=_ from k1)
   cases (show u2=_ from k2)
   obtain⟨w1,w2,rfl,⟨t1,rfl⟩,⟨t2,rfl⟩⟩:=rv.two
   obtain⟨c,hc⟩:∃c,g=⟨#[c]⟩:=by
    obtain⟨⟨l⟩⟩:=g
    match l,hg with
    | [c],_=>exact⟨c,rfl⟩
   subst hc
   have hi:(i.toNat:Int)=i:=by omega
   refine call_gives PySem.F.slot_str_rjust (typeIs_str s z t) PySem.F.entry_str_rjust (PySem.F.args_str_rjust_3 _ _ _) (HQ z i c t t1 t2 h0 h1) ?_
   have q':=q (.str (Li z i.toNat c)) H (i6.refl H) rfl
   unfold Li at q'
   by_cases hl:i.toNat<=z.length
   ·rw[R3 hl] at q'
    rw[R3 (by omega)]
    exact⟨.str z,H,I,⟨t,rfl⟩,q'⟩
   ·rw[Sa hl] at q'
    rw[Sa (by omega)]
    refine⟨?_,.str _,H,I.tok _,⟨_,rfl⟩,q'⟩
    have z1:1000<=sizeLine:=by decide
    have z2:(Builtin.Str.padded z (i.toNat - z.length) 0 c).length=i.toNat:=by
     show(Array.replicate _ _++z.cps++Array.replicate _ _).size=_
     simp
     have:z.cps.size=z.length:=rfl
     omega
    rw[z2]
    omega
  ·cases e
theorem LG{x:D}{ds:LD}{d:D}(h:Pk (x::ds)=some d):∃z,x=.str z:=by
 cases x with
 | str z=>exact⟨z,rfl⟩
 | _=>cases h
theorem tU{a e:Sr}{es:List Sr}{f:R->OD}{F:R->RT LD}{ap cp:Pos}(ha:SE X a f)(hF:SA X (e::es) F)
  (hbase:attributeBase a "rjust" X.env (eval a X.env)=eval a X.env:=by rfl)
  (hfew:((backTo cp (starEach (e::es) X.env)).all (fun x=>!x.1)&&(backToKw cp (keywordEach [] X.env)).all (fun x=>x.1.isSome)&&decide ((e::es).length+([]:List Keyword).length+(if ([]:List Keyword).isEmpty then 0 else 1)<30))=true:=by rfl)
  (hline:(ap.endLine==cp.line)=true:=by rfl):SE X (.Call (.Attribute a "rjust" ap) (e::es) [] cp) (c8 Pk (c4 f F)):=
 tT PySem.F.slot_str_rjust PySem.F.type_str_rjust tS (fun _ _ _ h=>LG h) ha hF hbase hfew hline
end
section
variable{X:Cx}
end
theorem MY{a b c:Int}(ha : -(2 ^ 60)<=a)(ha':a<2 ^ 60)(hb : -(2 ^ 60)<=b)(hb':b<2 ^ 60)(hc:0<c)(hc':c<1073741824):Builtin.Range.small a b c=true:=by
 have hd:0<=(b - a - 1) / c\/b - a - 1<0:=by
  by_cases h:b - a - 1<0
  ·exact .inr h
  ·exact .inl (Int.ediv_nonneg (by omega) (by omega))
 have hd2:a<b->(b - a - 1) / c<=b - a - 1:=fun h=>Int.ediv_le_self _ (by omega)
 unfold Builtin.Range.small Builtin.Range.rangeSize
 simp only[Builtin.Range.rangeFitsLong,R1,Bool.or_eq_true,decide_eq_true_eq,Th,gt_iff_lt,hc,if_true]
 split<;>omega
section
variable{X:Cx}
theorem Ha{a b c:Int}(hc:0<c):((wA a b c:Nat):Int)=Builtin.Range.rangeSize a b c:=by
 unfold wA Builtin.Range.rangeSize
 rw[R3 (show c > 0 from hc)]
 split
 ·rename_i h
  have:0<=(b - a - 1) / c:=Int.ediv_nonneg (by omega) (by omega)
  omega
 ·rfl
end
section
variable{X:Cx}{pins:List (RY×Obj)}{σ:L2.St}{H:Hp}{s:RX}{k:Nat}{y:Str}
def Lx(X:Cx)(k:Nat)(y:Str):Cx:={X with N:=X.N.set k y}
end
end HW
namespace HW
open PySem
section
variable{prog:R9}{w:Sk}{A:Sv}{E:RU->RX->Prop}{g:_}{d:_}{os:_}
structure Nx (prog:R9) (w:Sk) (A:Sv) (mk:Sq->Nat->RX) (Good:Sq->Nat->Prop) (it:RY) (st st':Sq->Prop) (P:RU->Prop):Prop where
 stay:∀h h',st h->(∀o,h.get? it=some o->h'.get? it=some o)->st h'
 stay':∀h h',st' h->(∀o,h.get? it=some o->h'.get? it=some o)->st' h'
 run:∀h tk (Q:RU->RX->Prop) (E:RU->RX->Prop),Good h tk->st h->(∀u h' tk',P u->st' h'->Heap.SameBut it h h'->Q u (mk h' tk')) ->
  wpAny (model prog w) A (Builtin.SmallTypes.nextOf (.ref it)) Q E (mk h tk)
structure Ne (prog:R9) (w:Sk) (A:Sv) (mk:Sq->Nat->RX) (Good:Sq->Nat->Prop) (it:RY) (st:Sq->Prop):Prop where
 stay:∀h h',st h->(∀o,h.get? it=some o->h'.get? it=some o)->st h'
 run:∀h tk (Q:RU->RX->Prop) (E:RU->RX->Prop),Good h tk->st h->(∀h' e,Heap.ExtBut it h h'->(∃o,h'.get? e=some o/\o.cls=.type "StopIteration")->E (.ref e) (mk h' tk)) ->
  wpAny (model prog w) A (Builtin.SmallTypes.nextOf (.ref it)) Q E (mk h tk)
def Lp(s:RX)(h:Sq)(tk:Nat):RX:={s with heap:=h,toks:=tk}
variable{Good:Sq->Nat->Prop}{s:RX}{z TI TO i1 i2:RY}{a b:RU}{st1 st1' st2 st2':Sq->Prop}{P1 P2:RU->Prop}
theorem gE{it l:RY}{i:Nat}{items}{x:RU}{Q:RU->RX->Prop}(hit:s.heap.IsTupleIter it l i)(hl:s.heap.IsTuple l items)(hx:items[i]?=some x)
  (hQ:∀h',h'.IsTupleIter it l (i+1)->Heap.SameBut it s.heap h'->Q x {s with heap:=h' }):wpAny (model prog w) A (Builtin.SmallTypes.nextOf (.ref it)) Q E s:=by
 obtain⟨o,ho,hc,hd⟩:=id hit
 obtain⟨ol,hol,_,nl,hdl⟩:=hl
 unfold Builtin.SmallTypes.nextOf
 refine RV (wpAny_callSpecial?_slot (name:=oS "__next__") hit.typeIs F.slot_tuple_iterator_next (wpAny_call_entry F.slot_tuple_iterator_next hit.typeIs F.entry_tuple_iterator_next ?_ (F.args_tuple_iterator_next_1 _)))
 show wpAny _ _ (field (.ref it) 0 >>= _) _ _ s;refine RV (wpAny_field ho hd (x:=.ref l) rfl ?_)
 show wpAny _ _ (if (Value.ref l==Value.none)=true then _ else _) _ _ s;rw[Sa (show ¬ ((Value.ref l==Value.none)=true) from R6)]
 show wpAny _ _ (field (.ref it) 1 >>= _) _ _ s;refine RV (wpAny_field ho hd (x:=.int i 0) rfl ?_)
 show wpAny _ _ (seqItems? (.ref l) >>= _) _ _ s;refine RV (wpAny_seqItems hol hdl ?_)
 simp only[Int.toNat_natCast,hx]
 refine RV (wpAny_setField ho hd (by simp) (R5 ⟨x,rfl,R5 (hQ _ ⟨_,Tf _ ho (Obj.isFreed_of_fields (Obj.data_mapFields hd _)),(Obj.cls_mapFields ..).trans hc,?_⟩ (Heap.SameBut.update ..))⟩))
 rw[Obj.data_mapFields hd];simp[rawInt]
theorem gT{it l:RY}{i:Nat}{items}{Q:RU->RX->Prop}(hh:A.handled=none)(hit:s.heap.IsTupleIter it l i)(hl:s.heap.IsTuple l items)(hx:items[i]?=none)
  (hE:∀h' e,Heap.ExtBut it s.heap h'->(∃o,h'.get? e=some o/\o.cls=.type "StopIteration")->E (.ref e) {s with heap:=h' }):wpAny (model prog w) A (Builtin.SmallTypes.nextOf (.ref it)) Q E s:=by
 obtain⟨o,ho,hc,hd⟩:=id hit
 obtain⟨ol,hol,_,nl,hdl⟩:=hl
 unfold Builtin.SmallTypes.nextOf
 refine RV (wpAny_callSpecial?_slot (name:=oS "__next__") hit.typeIs F.slot_tuple_iterator_next (wpAny_call_entry F.slot_tuple_iterator_next hit.typeIs F.entry_tuple_iterator_next ?_ (F.args_tuple_iterator_next_1 _)))
 show wpAny _ _ (field (.ref it) 0 >>= _) _ _ s;refine RV (wpAny_field ho hd (x:=.ref l) rfl ?_)
 show wpAny _ _ (if (Value.ref l==Value.none)=true then _ else _) _ _ s;rw[Sa (show ¬ ((Value.ref l==Value.none)=true) from R6)]
 show wpAny _ _ (field (.ref it) 1 >>= _) _ _ s;refine RV (wpAny_field ho hd (x:=.int i 0) rfl ?_)
 show wpAny _ _ (seqItems? (.ref l) >>= _) _ _ s;refine RV (wpAny_seqItems hol hdl ?_)
 simp only[Int.toNat_natCast,hx]
 refine RV (wpAny_rule (RV (wpAny_setField ho hd (by simp) ?_)));show wpAny _ _ (newExc (.type "StopIteration") [] >>= _) _ _ _
 refine RV ?_;simp only[newExc,newTuple]
 refine RV (S6 ?_ (by size_fits));refine RV (m:=firstArgMember _ _) (wpAny_of_eq (a:=Value.none) (by first | rfl | (simp only[firstArgMember];rfl)) ?_)
 refine S6 ?_ (by size_fits);simp only[raiseNew]
 refine RV (wpAny_handled ?_);first | rw[show A.in1.handled=none from hh] | rw[hh]
 exact RV (R5 (wpAny_throw (hE _ _ (((Heap.SameBut.update ..).extBut.push _).push _) ⟨_,Sd _ rfl,rfl⟩)))
inductive Src where
 | lst (a:RY)
 | tup (a:RY)
 | txt (x:Str) (t:Tok)
def Src.val:Src->RU
 | .lst a=>.ref a
 | .tup a=>.ref a
 | .txt x t=>.str x t
noncomputable def Src.obj:Src->Obj
 | .lst a=>{cls:=.type "list_iterator",data:=.fields #[.ref a,.int 0 0]}
 | .tup a=>{cls:=.type "tuple_iterator",data:=.fields #[.ref a,.int 0 0]}
 | .txt x t=>{cls:=.type "str_ascii_iterator",data:=.fields #[.str x t,.int 0 0]}
def Src.ok(h:Sq):Src->Prop
 | .lst a=>∃xs,h.IsList a xs
 | .tup a=>∃xs,h.IsTuple a xs
 | .txt x _=>x.cps.all (·<128)=true
def Src.at(it:RY)(i:Nat)(h:Sq):Src->Prop
 | .lst a=>h.IsListIter it a i
 | .tup a=>h.IsTupleIter it a i
 | .txt x t=>h.IsStrIter it "str_ascii_iterator" x t i
theorem Src.iter{S:Src}{Q:RU->RX->Prop}(h:S.ok s.heap)(hQ:Q (.ref s.heap.objs.size) {s with heap:=s.heap.push S.obj}):wpAny (model prog w) A (pyIter S.val) Q E s:=by
 cases S with
 | lst a=>obtain⟨xs,h⟩:=h;exact wpAny_pyIter_list h hQ
 | tup a=>obtain⟨xs,h⟩:=h;exact wpAny_pyIter_tuple h hQ
 | txt x t=>exact wpAny_pyIter_ascii h hQ
theorem Src.keep{S:Src}{it:RY}{i:Nat}{h h':Sq}(q:S.at it i h)(k:∀o,h.get? it=some o->h'.get? it=some o):S.at it i h':=by
 cases S with
 | lst a=>exact Heap.IsListIter.at q k
 | tup a=>obtain⟨o,e,r⟩:=q;exact⟨o,k o e,r⟩
 | txt x t=>obtain⟨o,e,r⟩:=q;exact⟨o,k o e,r⟩
theorem Src.start{S:Src}{it:RY}{h:Sq}(q:h.get? it=some S.obj):S.at it 0 h:=by
 cases S<;>exact⟨_,q,rfl,rfl⟩
theorem Src.nx {S:Src} {it:RY} {i:Nat} {P:RU->Prop} (hx:∀h tk,Good h tk->match S with
  | .lst a=>∃xs x,h.IsList a xs/\xs[i]?=some x/\P x
  | .tup a=>∃xs x,h.IsTuple a xs/\xs[i]?=some x/\P x
  | .txt x _=>∃c,x.cps[i]?=some c/\∀u,P (.str ⟨#[c]⟩ u)):Nx prog w A (Lp s) Good it (fun h=>S.at it i h) (fun h=>S.at it (i+1) h) P where
 stay:=fun _ _ q k=>Src.keep q k
 stay':=fun _ _ q k=>Src.keep q k
 run:=fun h tk Q E gg q hQ=>by
  have z:=hx h tk gg
  cases S with
  | lst a=>obtain⟨xs,x,l,e,p⟩:=z;exact wpAny_nextOf_list_item (s:=Lp s h tk) q l e fun h' q' sb=>hQ x h' tk p q' sb
  | tup a=>obtain⟨xs,x,l,e,p⟩:=z;exact gE (s:=Lp s h tk) q l e fun h' q' sb=>hQ x h' tk p q' sb
  | txt x t=>obtain⟨c,e,p⟩:=z;exact wpAny_nextOf_ascii_item (s:=Lp s h tk) q e fun h' q' sb=>hQ _ h' (tk+1) (p _) q' sb
theorem Src.ne {S:Src} {it:RY} {i:Nat} (hh:A.handled=none) (hx:∀h tk,Good h tk->match S with
  | .lst a=>∃xs,h.IsList a xs/\xs[i]?=none
  | .tup a=>∃xs,h.IsTuple a xs/\xs[i]?=none
  | .txt x _=>x.cps[i]?=none):Ne prog w A (Lp s) Good it (fun h=>S.at it i h) where
 stay:=fun _ _ q k=>Src.keep q k
 run:=fun h tk Q E gg q hQ=>by
  have z:=hx h tk gg
  cases S with
  | lst a=>obtain⟨xs,l,e⟩:=z;exact wpAny_nextOf_list_end (s:=Lp s h tk) hh q l e hQ
  | tup a=>obtain⟨xs,l,e⟩:=z;exact gT (s:=Lp s h tk) hh q l e hQ
  | txt x t=>exact wpAny_nextOf_ascii_end (s:=Lp s h tk) hh q z hQ
end
section
variable{prog:R9}{w:Sk}{A:Sv}{E:RU->RX->Prop}{s:RX}
end
end HW
namespace HW
open PySem PySem.Spec PyProof.Rows L2
def Src.go(K:RW)(i:Nat)(H:Hp)(v:V):Src->Prop
 | .lst a=>∃xs,wj K H a xs/\xs[i]?=some v
 | .tup a=>∃xs,xn K H a xs/\xs[i]?=some v
 | .txt x _=>∃c,x.cps[i]?=some c/\v=.str ⟨#[c]⟩
def Src.stop(K:RW)(i:Nat)(H:Hp):Src->Prop
 | .lst a=>∃xs,wj K H a xs/\xs.length<=i
 | .tup a=>∃xs,xn K H a xs/\xs.length<=i
 | .txt x _=>x.cps.size<=i
section
variable{X:Cx}{pins:List (RY×Obj)}{σ:L2.St}{H:Hp}{s:RX}{S:Src}{i:Nat}{v:V}
end
section
variable{X:Cx}
end
end HW
namespace HW
open PySem
def Nm:List (Str×D)->Str->OD
 | [],_=>none
 | p::r,x=>if p.1=x then some p.2 else Nm r x
end HW
namespace L2
open PySem PySem.Spec PyProof.Rows
section
variable{κ:Type}[DecidableEq κ]
def yS(kvs:List (κ×V))(k:κ):RT V:=(kvs.find? fun kv=>decide (kv.1=k)).map (·.2)
def putK(kvs:List (κ×V))(k:κ)(v:V):List (κ×V):=
 if (kvs.any fun kv=>decide (kv.1=k))=true then kvs.map (fun kv=>if kv.1=k then (kv.1,v) else kv) else kvs++[(k,v)]
def Lh(kvs:List (κ×V))(k:κ):List (κ×V):=kvs.filter fun kv=>decide (kv.1≠k)
theorem zQ{p:κ×V}{r:List (κ×V)}{k:κ}(e:p.1=k):yS (p::r) k=some p.2:=by simp[yS,List.find?_cons,e]
theorem zO{p:κ×V}{r:List (κ×V)}{k:κ}(e:¬ p.1=k):yS (p::r) k=yS r k:=by simp[yS,List.find?_cons,e]
theorem D4(k:κ):∀kvs:List (κ×V),(kvs.any fun kv=>decide (kv.1=k))=(yS kvs k).isSome
 | []=>rfl
 | p::r=>by
  rw[List.any_cons]
  by_cases e:p.1=k
  ·simp only[zQ e,S9 e,Bool.true_or,Option.isSome_some]
  ·rw[zO e,Sz e,Bool.false_or];exact D4 k r
theorem yU.isSome_eq{o:RT V}{u:RT RU}(r:yU o u):o.isSome=u.isSome:=by
 cases o with
 | none=>cases u with
  | none=>rfl
  | some _=>exact(show False from r).elim
 | some _=>cases u with
  | none=>exact(show False from r).elim
  | some _=>rfl
theorem yU.getD{o:RT V}{u:RT RU}{d:V}{d':RU}(r:yU o u)(rd:RelV d d'):RelV (o.getD d) (u.getD d'):=by
 cases o with
 | none=>cases u with
  | none=>exact rd
  | some _=>exact(show False from r).elim
 | some _=>cases u with
  | none=>exact(show False from r).elim
  | some _=>exact r
theorem KV.val{kvs:List (κ×V)}{vs:List (κ×RU)}(r:KV kvs vs)(k:κ):yU (yS kvs k) (valueAt vs k):=by
 unfold KV at r
 induction r with
 | nil=>exact True.intro
 | @cons p q ps qs h t ih =>
  obtain⟨h1,h2⟩:=h
  by_cases e:p.1=k
  ·have e':q.1=k:=h1.symm.trans e
   have b:valueAt (q::qs) k=some q.2:=by simp[valueAt,List.find?_cons,e']
   rw[zQ e,b];exact h2
  ·have e':¬ q.1=k:=fun z=>e (h1.trans z)
   have b:valueAt (q::qs) k=valueAt qs k:=by simp[valueAt,List.find?_cons,e']
   rw[zO e,b];exact ih
theorem KV.any{kvs:List (κ×V)}{vs:List (κ×RU)}(r:KV kvs vs)(k:κ):(kvs.any fun kv=>decide (kv.1=k))=vs.any fun kv=>decide (kv.1=k):=by
 unfold KV at r
 induction r with
 | nil=>rfl
 | cons h t ih=>rw[List.any_cons,List.any_cons,ih,h.1]
theorem KV.repl{kvs:List (κ×V)}{vs:List (κ×RU)}(r:KV kvs vs)(k:κ){y:V}{u:RU}(ry:RelV y u) :
  KV (kvs.map fun kv=>if kv.1=k then (kv.1,y) else kv) (vs.map fun kv=>if kv.1=k then (kv.1,u) else kv):=by
 unfold KV at r ⊢
 induction r with
 | nil=>exact .nil
 | @cons p q ps qs h t ih =>
  rw[S3,S3]
  refine .cons ?_ ih
  obtain⟨h1,h2⟩:=h
  by_cases e:p.1=k
  ·rw[R3 e,R3 (h1.symm.trans e)];exact⟨h1,ry⟩
  ·rw[Sa e,Sa (fun z=>e (h1.trans z))];exact⟨h1,h2⟩
theorem KV.put{kvs:List (κ×V)}{vs:List (κ×RU)}(r:KV kvs vs)(k:κ){y:V}{u:RU}(ry:RelV y u):KV (putK kvs k y) (stored vs k u):=by
 unfold putK stored
 rw[r.any k]
 by_cases e:(vs.any fun kv=>decide (kv.1=k))=true
 ·rw[R3 e,R3 e];exact r.repl k ry
 ·rw[Sa e,Sa e];exact Paired.snoc r ⟨rfl,ry⟩
theorem KV.drop{kvs:List (κ×V)}{vs:List (κ×RU)}(r:KV kvs vs)(k:κ):KV (Lh kvs k) (without vs k):=by
 unfold KV at r ⊢
 unfold Lh without
 induction r with
 | nil=>exact .nil
 | @cons p q ps qs h t ih =>
  obtain⟨h1,h2⟩:=h
  rw[List.filter_cons,List.filter_cons]
  by_cases e:p.1=k
  ·have a:¬ decide (p.1≠k)=true:=by simp[e]
   have b:¬ decide (q.1≠k)=true:=by simp[h1.symm.trans e]
   rw[Sa a,Sa b];exact ih
  ·have e':¬ q.1=k:=fun z=>e (h1.trans z)
   have a:decide (p.1≠k)=true:=by simp[e]
   have b:decide (q.1≠k)=true:=by simp[e']
   rw[R3 a,R3 b];exact .cons ⟨h1,h2⟩ ih
theorem KV.keys{kvs:List (κ×V)}{vs:List (κ×RU)}(r:KV kvs vs):kvs.map (·.1)=vs.map (·.1):=by
 unfold KV at r
 induction r with
 | nil=>rfl
 | cons h t ih=>rw[S3,S3,ih,h.1]
theorem KV.length{kvs:List (κ×V)}{vs:List (κ×RU)}(r:KV kvs vs):kvs.length=vs.length:=Paired.length r
end
abbrev KT(H:Hp):List (List Key×V)->List (List Key×RY×RU)->Prop:=Paired fun p q=>p.1=q.1/\H q.2.1=some (.tup (p.1.map kV))/\RelV p.2 q.2.2
theorem KT.val{H:Hp}{kvs:List (List Key×V)}{xs:List (List Key×RY×RU)}(r:KT H kvs xs)(k:List Key):yU (yS kvs k) ((atKey xs k).map (·.2)):=by
 induction r with
 | nil=>exact True.intro
 | @cons p q ps qs h t ih =>
  obtain⟨h1,_,h2⟩:=h
  by_cases e:p.1=k
  ·have e':q.1=k:=h1.symm.trans e
   have b:atKey (q::qs) k=some q.2:=by simp[atKey,List.find?_cons,e']
   rw[zQ e,b];exact h2
  ·have e':¬ q.1=k:=fun z=>e (h1.trans z)
   have b:atKey (q::qs) k=atKey qs k:=by simp[atKey,List.find?_cons,e']
   rw[zO e,b];exact ih
theorem KT.repl{H:Hp}{kvs:List (List Key×V)}{xs:List (List Key×RY×RU)}(r:KT H kvs xs)(k:List Key){y:V}{u:RU}(ry:RelV y u) :
  KT H (kvs.map fun kv=>if kv.1=k then (kv.1,y) else kv) (xs.map (putAt k u)):=by
 induction r with
 | nil=>exact .nil
 | @cons p q ps qs h t ih =>
  rw[S3,S3]
  refine .cons ?_ ih
  obtain⟨h1,h2,h3⟩:=h
  unfold putAt
  by_cases e:p.1=k
  ·rw[R3 e,R3 (h1.symm.trans e)];exact⟨h1,h2,ry⟩
  ·rw[Sa e,Sa (fun z=>e (h1.trans z))];exact⟨h1,h2,h3⟩
theorem KT.put{H:Hp}{kvs:List (List Key×V)}{xs:List (List Key×RY×RU)}(r:KT H kvs xs)(k:List Key){b:RY}{y:V}{u:RU}(hb:H b=some (.tup (k.map kV)))(ry:RelV y u) :
  KT H (putK kvs k y) (storedH xs k b u):=by
 have e:(kvs.any fun kv=>decide (kv.1=k))=(atKey xs k).isSome:=by
  rw[D4,(r.val k).isSome_eq,Option.isSome_map]
 unfold putK storedH
 rw[e]
 by_cases q:(atKey xs k).isSome=true
 ·rw[R3 q,R3 q];exact r.repl k ry
 ·rw[Sa q,Sa q];exact Paired.snoc r ⟨rfl,hb,ry⟩
theorem KT.keeps{H H':Hp}{kvs:List (List Key×V)}{xs:List (List Key×RY×RU)}(r:KT H kvs xs)(ht:∀b ys,H b=some (.tup ys)->H' b=some (.tup ys)):KT H' kvs xs:=
 Paired.mapP r fun _ _ z=>⟨z.1,ht _ _ z.2.1,z.2.2⟩
section
variable{P:R9}{w:Sk}{H:Hp}{h:Sq}{a:RY}
end
def Kw(H:Hp)(a:RY)(y:V)(r:RT V):Prop:=
 (∃kvs k,Rd H a (.dK kvs)/\y=kV k/\r=yS kvs k)\/∃kvs k b,Rd H a (.dT kvs)/\y=.ref b/\H b=some (.tup (k.map kV))/\r=yS kvs k
def KW(H:Hp)(a:RY)(y v:V)(H':Hp):Prop:=
 (∃kvs k,H a=some (.dK kvs)/\y=kV k/\kvs.length<sizeLine/\H'=upd H a (.dK (putK kvs k v))) \/
 ∃kvs k b,H a=some (.dT kvs)/\y=.ref b/\H b=some (.tup (k.map kV))/\kvs.length<sizeLine/\H'=upd H a (.dT (putK kvs k v))
theorem Kw.k{H:Hp}{a:RY}{kvs:List (Key×V)}{k:Key}(e:H a=some (.dK kvs)):Kw H a (kV k) (yS kvs k):=.inl ⟨kvs,k,.inl e,rfl,rfl⟩
theorem Kw.t{H:Hp}{a b:RY}{kvs:List (List Key×V)}{k:List Key}(e:H a=some (.dT kvs))(eb:H b=some (.tup (k.map kV))):Kw H a (.ref b) (yS kvs k):=.inr ⟨kvs,k,b,.inl e,rfl,eb,rfl⟩
theorem KW.k{H:Hp}{a:RY}{kvs:List (Key×V)}{k:Key}{v:V}(e:H a=some (.dK kvs))(hl:kvs.length<sizeLine):KW H a (kV k) v (upd H a (.dK (putK kvs k v))):=.inl ⟨kvs,k,e,rfl,hl,rfl⟩
theorem KW.t{H:Hp}{a b:RY}{kvs:List (List Key×V)}{k:List Key}{v:V}(e:H a=some (.dT kvs))(eb:H b=some (.tup (k.map kV)))(hl:kvs.length<sizeLine) :
  KW H a (.ref b) v (upd H a (.dT (putK kvs k v))):=.inr ⟨kvs,k,b,e,rfl,eb,hl,rfl⟩
section
variable{X:Cx}{pins:List (RY×Obj)}{σ:St}{H:Hp}{s:RX}{a:RY}{y v:V}{u r:RU}{o:RT V}{A:Sv}{E:RU->RX->Prop}
end
section
variable{X:Cx}{pins:List (RY×Obj)}{σ:St}{H:Hp}{s:RX}{a:RY}{kvs:List (Key×V)}{k:Key}{u:RU}{A:Sv}{E:RU->RX->Prop}
end
section
variable{X:Cx}{o i e value:Sr}{pos pos' tpos:Pos}{td ty tv:TE}
end
section
variable{X:Cx}{pos:Pos}
end
section
variable{X:Cx}{pins:List (RY×Obj)}{σ:St}{H:Hp}{s:RX}{a:RY}{y d:V}{u r:RU}{o:RT V}{A:Sv}{E:RU->RX->Prop}
end
section
variable{X:Cx}{o e f:Sr}{apos cpos:Pos}{td ty tx:TE}
end
section
variable{X:Cx}{pins:List (RY×Obj)}{σ:St}{H:Hp}{s:RX}{a:RY}{kvs:List (Key×V)}{A:Sv}{E:RU->RX->Prop}
end
section
variable{X:Cx}{pins:List (RY×Obj)}{σ:St}{H:Hp}{s:RX}{a:RY}{y:V}{u:RU}{A:Sv}{E:RU->RX->Prop}
end
end L2
namespace HW
open PySem PySem.Spec PyProof.Rows L2
def Qd(P:R9)(w:Sk)(a:RY)(kvs:List (Key×V)):HO:=.ext fun h=>kvs.length<=sizeLine/\(a==sysModules)=false/\∃vs,KV kvs vs/\h.DictOf (AQ P w) a vs
section
variable{X:Cx}{pins:List (RY×Obj)}{σ:L2.St}{H:Hp}{s:RX}{a:RY}{kvs:List (Key×V)}
end
def xE(K:RW)(H:Hp):List (Str×D)->List (Key×V)->Prop
 | [],vs=>vs=[]
 | p::r,vs=>∃v t,vs=(.inr p.1,v)::t/\Rep K H p.2 v/\xE K H r t
section
variable{K:RW}{H H':Hp}
theorem xE.kp(s:Kp H H'):∀{ds:List (Str×D)} {vs:List (Key×V)},xE K H ds vs->xE K H' ds vs
 | [],_,h=>h
 | p::r,_,h=>by
  obtain⟨v,t,e,q,w⟩:=h
  exact⟨v,t,e,q.kp s,xE.kp s w⟩
theorem xE.mono(s:i6 H H'){ds:List (Str×D)}{vs:List (Key×V)}(h:xE K H ds vs):xE K H' ds vs:=h.kp (Kp.of s)
theorem xE.snoc:∀{ds:List (Str×D)} {vs:List (Key×V)} {x:Str} {d:D} {v:V},xE K H ds vs->Rep K H d v->xE K H (ds++[(x,d)]) (vs++[(.inr x,v)])
 | [],_,x,d,v,h,r=>by
  cases (show _=[] from h)
  exact⟨v,[],rfl,r,rfl⟩
 | p::ds,_,x,d,v,h,r=>by
  obtain⟨u,t,e,q,w⟩:=h
  subst e
  exact⟨u,t++[(.inr x,v)],rfl,q,xE.snoc w r⟩
theorem xE.len:∀{ds:List (Str×D)} {vs:List (Key×V)},xE K H ds vs->ds.length=vs.length
 | [],_,h=>by cases (show _=[] from h);rfl
 | p::r,_,h=>by
  obtain⟨v,t,e,q,w⟩:=h
  subst e
  simp[xE.len w]
theorem xE.at:∀{ds:List (Str×D)} {vs:List (Key×V)} {x:Str},xE K H ds vs->match Nm ds x with
  | some d=>∃v,yS vs (Sum.inr x:Key)=some v/\Rep K H d v
  | none=>yS vs (Sum.inr x:Key)=none
 | [],_,x,h=>by cases (show _=[] from h);rfl
 | p::r,_,x,h=>by
  obtain⟨v,t,e,q,w⟩:=h
  subst e
  have ih:=xE.at (x:=x) w
  unfold Nm
  by_cases hx:p.1=x
  ·rw[R3 hx]
   exact⟨v,zQ (by rw[hx]),q⟩
  ·rw[Sa hx]
   have n:yS (((Sum.inr p.1:Key),v)::t) (Sum.inr x)=yS t (Sum.inr x):=zO fun z=>hx (Sum.inr.inj z)
   rw[n]
   exact ih
end
def RE(P:R9)(w:Sk)(K:RW)(g:R->List (Str×D)->OD):TE:=fun σ H Q=>∃ ρ τ a ds xs d,uq K H ρ (some (.ref a)::τ) σ/\H a=some (Qd P w a xs)/\xE K H ds xs/\g ρ ds=some d/\∀v H',i6 H H'->Rep K H' d v->Q v H'
def KE(X:Cx)(e:Sr)(g:R->List (Str×D)->OD):Prop:=PE X e (RE X.prog X.w X.K g)
section
variable{X:Cx}{st:So}{sts:List So}{u:R->RT Out}{w:R->List (Str×D)->RT Out}{pos:Pos}{e:Sr}{es:List Sr}{f:R->OD}{F:R->RT LD}
end
def Kd(H H':Hp):Prop:=∀b u,H b=some u->(∀kvs,u≠.dK kvs)->H' b=some u
mutual
theorem Rep.kd{K:RW}{H H':Hp}(s:Kd H H'):∀{d:D} {v:V},uC d=true->Rep K H d v->Rep K H' d v
 | .non,_,hn,h=>h
 | .bl _,_,hn,h=>h
 | .int _,_,hn,h=>h
 | .str _,_,hn,h=>h
 | .tup ds,_,hn,h=>by
  obtain⟨a,xs,e,q,r⟩:=h
  refine⟨a,xs,e,?_,i5.kd s hn r⟩
  rcases q with (h | ⟨o,h⟩) | h
  ·exact .inl (.inl (s _ _ h fun φ z=>nomatch z))
  ·exact .inl (.inr ⟨o,s _ _ h fun φ z=>nomatch z⟩)
  ·exact .inr h
 | .lst ds,_,hn,h=>by
  obtain⟨a,xs,e,q,r⟩:=h
  exact⟨a,xs,e,s _ _ q (fun φ z=>by cases z),i5.kd s hn r⟩
 | .fro ds,_,hn,h=>by
  obtain⟨a,xs,e,q,r⟩:=h
  refine⟨a,xs,e,?_,i5.kd s hn r⟩
  rcases q with (h | ⟨o,h⟩) | h
  ·exact .inl (.inl (s _ _ h fun φ z=>nomatch z))
  ·exact .inl (.inr ⟨o,s _ _ h fun φ z=>nomatch z⟩)
  ·exact .inr h
 | .obj k a ks ds,_,hn,h=>by cases hn
 | .rf ..,_,hn,h=>by cases hn
theorem i5.kd{K:RW}{H H':Hp}(s:Kd H H'):∀{ds:LD} {vs:List V},n5 ds=true->i5 K H ds vs->i5 K H' ds vs
 | [],_,_,h=>h
 | d::ds,_,hn,h=>by
  have hn':(uC d&&n5 ds)=true:=hn
  rw[R1] at hn'
  obtain⟨v,r,e,q,t⟩:=h
  exact⟨v,r,e,Rep.kd s hn'.1 q,i5.kd s hn'.2 t⟩
end
section
variable{X:Cx}{sts:List So}{w:R->List (Str×D)->RT Out}{pos:Pos}{f:R->OD}
end
end HW
namespace HW
open PySem
end HW
namespace HW
open PySem PySem.Spec PyProof.Rows L2
variable{X:Cx}
end HW
namespace HW
open PySem PySem.SetTable
theorem Ic(xs:Array Nat)(j:Nat)(H:∀a b,a<b->b<xs.size->xs.getD a 0<xs.getD b 0):∀fuel lo hi,hi - lo<=fuel->lo<=hi->hi<=xs.size ->
  (∀i,i<lo->xs.getD i 0<j)->(∀i,hi<=i->i<xs.size->j<=xs.getD i 0) ->
  below.go xs j fuel lo hi<=xs.size/\(∀i,i<below.go xs j fuel lo hi->xs.getD i 0<j)/\(∀i,below.go xs j fuel lo hi<=i->i<xs.size->j<=xs.getD i 0):=by
 intro fuel
 induction fuel with
 | zero =>
  intro lo hi h1 h2 h3 h4 h5
  have:lo=hi:=by omega
  subst this
  exact⟨h3,h4,h5⟩
 | succ fuel ih =>
  intro lo hi h1 h2 h3 h4 h5
  unfold below.go
  by_cases hlt:lo<hi
  ·rw[R3 hlt]
   have hm:(lo+hi) / 2<xs.size:=by omega
   have e:xs.getD ((lo+hi) / 2) j=xs.getD ((lo+hi) / 2) 0:=by simp[Array.getD,hm]
   show(if xs.getD ((lo+hi) / 2) j<j then _ else _:Nat)<=_/\_
   dsimp only
   rw[e]
   by_cases hc:xs.getD ((lo+hi) / 2) 0<j
   ·rw[R3 hc]
    refine ih _ _ (by omega) (by omega) h3 (fun i hi'=>?_) h5
    by_cases he:i=(lo+hi) / 2
    ·subst he;exact hc
    ·exact Nat.lt_trans (H i _ (by omega) hm) hc
   ·rw[Sa hc]
    refine ih _ _ (by omega) (by omega) (by omega) h4 (fun i hi' hs=>?_)
    by_cases he:i=(lo+hi) / 2
    ·subst he;omega
    ·have:=H _ i (by omega:(lo+hi) / 2<i) hs;omega
  ·rw[Sa hlt]
   have:lo=hi:=by omega
   subst this
   exact⟨h3,h4,h5⟩
def L7(xs:Array Nat):Prop:=∀a b,a<b->b<xs.size->xs.getD a 0<xs.getD b 0
theorem xH{xs:Array Nat}(H:L7 xs)(j:Nat):below xs j<=xs.size/\(∀i,i<below xs j->xs.getD i 0<j)/\(∀i,below xs j<=i->i<xs.size->j<=xs.getD i 0):=
 Ic xs j H xs.size 0 xs.size (by omega) (by omega) (by omega) (fun i h=>by omega) (fun i h h'=>by omega)
theorem Kb{xs:Array Nat}(H:L7 xs):below xs 0=0:=by
 obtain⟨a,b,c⟩:=xH H 0
 rcases Nat.eq_zero_or_pos (below xs 0) with h | h
 ·exact h
 ·have:=b 0 h;omega
theorem J8{xs:Array Nat}(H:L7 xs){i:Nat}(hi:i<xs.size):below xs (xs.getD i 0+1)=i+1:=by
 obtain⟨a,b,c⟩:=xH H (xs.getD i 0+1)
 generalize below xs (xs.getD i 0+1)=r at *
 rcases Nat.lt_or_ge i r with h | h
 ·rcases Nat.lt_or_ge (i+1) r with h' | h'
  ·have h1:=b (i+1) h'
   have h2:=H i (i+1) (by omega) (by omega)
   omega
  ·omega
 ·have:=c i h hi;omega
theorem zT{α:Type}(xs:Array α)(p:Nat)(x:α):(insertAt xs p x).toList=xs.toList.take p++x::xs.toList.drop p:=by
 simp[SetTable.insertAt,List.extract_eq_take_drop,List.take_of_length_le]
theorem getD_list{α:Type}(xs:Array α)(i:Nat)(d:α):xs.getD i d=xs.toList[i]?.getD d:=by simp
theorem DF{α:Type}(xs:Array α){p i:Nat}(x d:α)(hp:p<=xs.size)(h:i<p):(insertAt xs p x).getD i d=xs.getD i d:=by
 rw[getD_list,getD_list,zT,SZ (by rw[List.length_take_of_le (by simpa using hp)];exact h),List.getElem?_take_of_lt h]
theorem Iz{α:Type}(xs:Array α){p:Nat}(x d:α)(hp:p<=xs.size):(insertAt xs p x).getD p d=x:=by
 have e:(xs.toList.take p).length=p:=List.length_take_of_le (by simpa using hp)
 rw[getD_list,zT,Sy (by rw[e];exact Se _),e,Nat.sub_self];rfl
theorem IH{α:Type}(xs:Array α){p i:Nat}(x d:α)(hp:p<=xs.size)(h:p<=i):(insertAt xs p x).getD (i+1) d=xs.getD i d:=by
 have e:(xs.toList.take p).length=p:=List.length_take_of_le (by simpa using hp)
 rw[getD_list,getD_list,zT,Sy (by rw[e];exact Nat.le_succ_of_le h),e,Nat.succ_sub h,List.getElem?_cons_succ,List.getElem?_drop,Nat.add_sub_cancel' h]
theorem vQ{α:Type}(xs:Array α)(p:Nat)(x:α)(hp:p<=xs.size):(insertAt xs p x).size=xs.size+1:=by
 rw[<- SK,zT,Sl,S5,<- Nat.add_assoc,<- Sl,List.take_append_drop,SK]
theorem Fs{xs:Array Nat}(H:L7 xs){j:Nat}(hj:(xs[below xs j]?==some j)=false):L7 (insertAt xs (below xs j) j):=by
 obtain⟨a,b,c⟩:=xH H j
 have hne:below xs j<xs.size->xs.getD (below xs j) 0≠j:=fun h e=>by
  rw[S0 h] at hj
  simp[Array.getD,h] at e
  simp[e] at hj
 generalize below xs j=r at *
 intro u v huv hv
 rw[vQ _ _ _ a] at hv
 rcases Nat.lt_trichotomy v r with h2 | h2 | h2
 ·rw[DF _ _ _ a h2,DF _ _ _ a (Nat.lt_trans huv h2)]
  exact H u v huv (R8 h2 a)
 ·subst h2
  rw[Iz _ _ _ a,DF _ _ _ a huv]
  exact b u huv
 ·obtain⟨w,rfl⟩:∃w,v=w+1:=⟨v - 1,(Nat.succ_pred_eq_of_pos (Tp (SU _) h2)).symm⟩
  have hw:w<xs.size:=Nat.lt_of_succ_lt_succ hv
  have hrw:r<=w:=Nat.le_of_lt_succ h2
  have hjw:j<xs.getD w 0:=by
   rcases Nat.eq_or_lt_of_le hrw with q | q
   ·subst q
    exact Nat.lt_of_le_of_ne (c r hrw hw) (Ne.symm (hne hw))
   ·exact Tp (c r (Se _) (Nat.lt_trans q hw)) (H r w q hw)
  rw[IH _ _ _ a hrw]
  rcases Nat.lt_trichotomy u r with h1 | h1 | h1
  ·rw[DF _ _ _ a h1]
   exact Nat.lt_trans (b u h1) hjw
  ·subst h1
   rw[Iz _ _ _ a]
   exact hjw
  ·obtain⟨z,rfl⟩:∃z,u=z+1:=⟨u - 1,(Nat.succ_pred_eq_of_pos (Tp (SU _) h1)).symm⟩
   rw[IH _ _ _ a (Nat.le_of_lt_succ h1)]
   exact H z w (Nat.lt_of_succ_lt_succ huv) hw
theorem gap{xs:Array Nat}(H:L7 xs)(hs:xs.size<=7):∃j,j<8/\∀i:Nat,xs[i]?≠some j:=by
 refine Classical.byContradiction fun hn=>?_
 have hall:∀j,j<8->∃i,i<xs.size/\xs.getD i 0=j:=fun j hj=>by
  refine Classical.byContradiction fun h=>hn ⟨j,hj,fun i e=>h ⟨i,?_⟩⟩
  have:i<xs.size:=by
   rcases Nat.lt_or_ge i xs.size with h | h
   ·exact h
   ·rw[Array.getElem?_eq_none h] at e;cases e
  exact⟨this,by simp[e]⟩
 have hge:∀i,i<xs.size->i<=xs.getD i 0:=fun i=>by
  induction i with
  | zero=>intro _;omega
  | succ i ih=>intro h;have:=ih (by omega);have:=H i (i+1) (by omega) h;omega
 have hle:∀j,j<8->j<xs.size/\xs.getD j 0=j:=fun j=>by
  induction j with
  | zero =>
   intro _
   obtain⟨i,h1,h2⟩:=hall 0 (by omega)
   have:=hge i h1
   have:i=0:=by omega
   subst this;exact⟨h1,h2⟩
  | succ j ih =>
   intro hj
   obtain⟨h1,h2⟩:=ih (by omega)
   obtain⟨i,h3,h4⟩:=hall (j+1) hj
   have h5:=hge i h3
   have h6:j<i:=by
    rcases Nat.lt_trichotomy i j with h | h | h
    ·have:=H i j h h1;omega
    ·subst h;omega
    ·exact h
   have:i=j+1:=by omega
   subst this;exact⟨h3,h4⟩
 have:=hle 7 (by omega)
 omega
structure TI (t:SetTable) (n:Nat):Prop where
 mask:t.mask=7
 dum:t.dummies=#[]
 plain:t.plain=true
 ris:L7 t.place
 size:t.place.size=n
theorem slot_of{t:SetTable}(hd:t.dummies=#[])(j:Nat):t.slot j=if (t.place[below t.place j]?==some j)=true then .live (below t.place j) else .empty:=by
 unfold SetTable.slot
 dsimp only
 rw[hd]
 by_cases h:(t.place[below t.place j]?==some j)=true
 ·rw[R3 h,R3 h]
 ·rw[Sa h,Sa h];rfl
def way(i pt:Nat):Nat->Nat×Nat
 | 0=>(i,pt)
 | k+1=>way ((i*5+1+pt / 32)%8) (pt / 32) k
theorem Ke(k:Nat):∀i pt m,way i pt (k+m)=way (way i pt k).1 (way i pt k).2 m:=by
 induction k with
 | zero=>intro i pt m;rw[Nat.zero_add];rfl
 | succ k ih=>intro i pt m;rw[Nat.succ_add];exact ih _ _ _
theorem IU:∀k i pt,i<8->(way i pt k).1<8
 | 0,_,_,h=>h
 | k+1,i,pt,_=>IU k _ _ (Nat.mod_lt _ (by decide))
theorem IN:∀k i pt,pt<32 ^ k->(way i pt k).2=0
 | 0,_,pt,h=>by simp at h;exact h
 | k+1,i,pt,h=>IN k _ _ (by rw[Nat.pow_succ] at h;exact Nat.div_lt_of_lt_mul (by omega))
theorem JK:∀i,i<8->∀j,j<8->∃k,k<8/\(way i 0 k).1=j:=by decide
theorem G7(i pt j:Nat)(hi:i<8)(hp:pt<2 ^ 64)(hj:j<8):∃k,k<21/\(way i pt k).1=j:=by
 have h1:=IN 13 i pt (R8 hp (by decide))
 obtain⟨k,hk,e⟩:=JK (way i pt 13).1 (IU 13 _ _ hi) j hj
 refine⟨13+k,by omega,?_⟩
 rw[Ke,h1];exact e
theorem RK{t:SetTable}(hm:t.mask=7)(i pt:Nat):t.advance ⟨i,0,i,pt,none⟩=⟨(i*5+1+pt / 32)%8,0,(i*5+1+pt / 32)%8,pt / 32,none⟩:=by
 unfold advance leap runEnd
 rw[hm]
 simp only[gt_iff_lt,SN,if_false]
 have:¬ ((i*5+1+pt / 32)%(7+1)+9<=7):=by omega
 rw[Sa this,Nat.sub_self]
theorem IC{t:SetTable}{n:Nat}(T:TI t n)(h:Int):∀k fuel i pt,k<fuel->(t.place[below t.place (way i pt k).1]?==some (way i pt k).1)=false ->
  ∃j,(t.place[below t.place j]?==some j)=false/\probe.go t (fun _=>h+1) h fuel ⟨i,0,i,pt,none⟩=some (.empty j none):=by
 intro k
 induction k with
 | zero =>
  intro fuel i pt hf he
  obtain⟨f,rfl⟩:∃f,fuel=f+1:=⟨fuel - 1,by omega⟩
  have he':(t.place[below t.place i]?==some i)=false:=he
  refine⟨i,he',?_⟩
  unfold probe.go
  show(match t.slot i with | .empty=>_ | .dummy=>_ | .live _=>_)=_
  rw[slot_of T.dum,he']
  rfl
 | succ k ih =>
  intro fuel i pt hf he
  obtain⟨f,rfl⟩:∃f,fuel=f+1:=⟨fuel - 1,by omega⟩
  cases hc:(t.place[below t.place i]?==some i) with
  | false =>
   refine⟨i,hc,?_⟩
   unfold probe.go
   show(match t.slot i with | .empty=>_ | .dummy=>_ | .live _=>_)=_
   rw[slot_of T.dum,hc]
   rfl
  | true =>
   obtain⟨j,h1,h2⟩:=ih f ((i*5+1+pt / 32)%8) (pt / 32) (by omega) he
   refine⟨j,h1,?_⟩
   unfold probe.go
   show(match t.slot i with | .empty=>_ | .dummy=>_ | .live _=>_)=_
   rw[slot_of T.dum,hc,R3 rfl]
   show(if (h+1==h)=true then _ else _)=_
   rw[Sa (by simp;omega),RK T.mask]
   exact h2
theorem KG{t:SetTable}{n:Nat}(T:TI t n)(hn:n<=7)(h:Int):∃j,(t.place[below t.place j]?==some j)=false/\t.freeSlot h=some (j,false):=by
 obtain⟨g,hg,hgap⟩:=gap T.ris (by rw[T.size];exact hn)
 have hb:bits h<2 ^ 64:=by
  unfold bits
  have h1:=SR h (show(0:Int)<2 ^ 64 by decide)
  have h2:=SQ h (show(2 ^ 64:Int)≠0 by decide)
  omega
 have hi:bits h%8<8:=Nat.mod_lt _ (by decide)
 obtain⟨k,hk,e⟩:=G7 (bits h%8) (bits h) g hi hb hg
 have he:(t.place[below t.place (way (bits h%8) (bits h) k).1]?==some (way (bits h%8) (bits h) k).1)=false:=by
  rw[e];simpa using hgap _
 obtain⟨j,h1,h2⟩:=IC T h k (10*turns t.mask) (bits h%8) (bits h) (by rw[T.mask];unfold turns;omega) he
 refine⟨j,h1,?_⟩
 unfold SetTable.freeSlot
 have hs:t.probeStart h=⟨bits h%8,0,bits h%8,bits h,none⟩:=by
  unfold probeStart runEnd
  rw[T.mask]
  have:¬ (bits h%(7+1)+9<=7):=by omega
  dsimp only
  rw[Sa this,Nat.sub_self]
 rw[hs]
 unfold SetTable.probe
 rw[h2]
 rfl
theorem Dy{t:SetTable}{es:Array (Int×RU)}(T:TI t es.size)(hn:es.size<=6)(h:Int)(x:RU) :
  ∃p t',p<=es.size/\layNew t es h x=(insertAt es p (h,x),t',false,false)/\TI t' (insertAt es p (h,x)).size/\t'.led=t.led/\t'.fits (insertAt es p (h,x)).size=true:=by
 obtain⟨j,h1,h2⟩:=KG T (by omega) h
 have hp:below t.place j<=es.size:=by rw[<- T.size];exact(xH T.ris j).1
 have hsz:(insertAt t.place (below t.place j) j).size=es.size+1:=by rw[vQ _ _ _ (by rw[T.size];exact hp),T.size]
 have hse:(insertAt es (below t.place j) (h,x)).size=es.size+1:=vQ _ _ _ hp
 have hput:t.put j=({t with place:=insertAt t.place (below t.place j) j,dummies:=#[]},below t.place j):=by
  unfold SetTable.put
  rw[T.dum]
  rfl
 have hfit:({t with place:=insertAt t.place (below t.place j) j,dummies:=#[]}:SetTable).fits (es.size+1)=true:=by
  unfold SetTable.fits SetTable.fill
  simp[hsz,T.mask];omega
 refine⟨below t.place j,{t with place:=insertAt t.place (below t.place j) j,dummies:=#[]},hp,?_,⟨T.mask,rfl,T.plain,Fs T.ris h1,by rw[hse];exact hsz⟩,rfl,by rw[hse];exact hfit⟩
 unfold layNew
 rw[h2]
 dsimp only
 rw[hput]
 dsimp only
 rw[hse]
 unfold SetTable.orStandIn
 rw[hfit]
 rfl
theorem Kv{t:SetTable}{n:Nat}(T:TI t n)(hn:n<=4):t.tooFull=false:=by
 unfold SetTable.tooFull SetTable.fill
 rw[T.mask,T.dum,T.size]
 simp;omega
theorem TI.fits{t:SetTable}{n:Nat}(T:TI t n)(hn:n<=7):t.fits n=true:=by
 unfold SetTable.fits SetTable.fill
 rw[T.mask,T.dum,T.size]
 simp;omega
theorem TI.fresh(led:Bool):TI (.fresh 0 0 led) 0:=⟨rfl,rfl,rfl,fun a b h hb=>Sm hb (by simp[SetTable.fresh]),rfl⟩
theorem A7{α:Type}:∀(l:List α) (i:Nat) (x:α),l[i]?=some x->(x::l.eraseIdx i).Perm l
 | [],i,x,h=>by simp at h
 | a::l,0,x,h=>by simp at h;subst h;exact .refl _
 | a::l,i+1,x,h=>by
  simp only[List.getElem?_cons_succ] at h
  simp only[List.eraseIdx_cons_succ]
  exact(List.Perm.swap _ _ _).trans ((A7 l i x h).cons a)
theorem FY{α:Type}(next:Nat->Nat):∀(fuel k:Nat) (left:List α) (out:Array α),left.length=fuel->(pickOrder.go next fuel k left out).toList.Perm (out.toList++left)
 | 0,k,left,out,h=>by
  have:left=[]:=List.eq_nil_of_length_eq_zero h
  subst this;rw[Sw];exact .refl _
 | fuel+1,k,left,out,h=>by
  unfold pickOrder.go
  have hlt:next k%left.length<left.length:=Nat.mod_lt _ (by omega)
  rw[List.getElem?_eq_getElem hlt]
  dsimp only
  refine(FY next fuel (k+1) _ _ (by rw[List.length_eraseIdx_of_lt hlt];omega)).trans ?_
  rw[Array.toList_push,List.append_assoc]
  exact(A7 left _ _ (List.getElem?_eq_getElem hlt)).append_left _
theorem Cp{α:Type}(next:Nat->Nat)(xs:Array α):(pickOrder next xs).toList.Perm xs.toList:=by
 unfold pickOrder
 exact FY next xs.size 0 xs.toList #[] (by simp)
theorem Hd{α:Type}(next:Nat->Nat)(xs:Array α):(pickOrder next xs).size=xs.size:=by
 rw[<- SK,(Cp next xs).length_eq,SK]
end HW
namespace HW
noncomputable def vj(σ:List Int)(k:Int):List Int:=if σ.any (·==k) then σ else σ++[k]
def A9(xs:List Int):List Int:=xs.foldl vj []
def G0(x:Int):List Int->List Int
 | []=>[x]
 | y::r=>if x<=y then x::y::r else y::G0 x r
def xk:List Int->List Int
 | []=>[]
 | x::r=>G0 x (xk r)
def intsOf:LD->RT (List Int)
 | []=>some []
 | .int i::r=>(intsOf r).map (i::·)
 | _::_=>none
def P4:LD->OD
 | [.lst ds]=>(intsOf ds).bind fun ns=>if ns.length<=4 then some (.lst ((xk (A9 ns)).map .int)) else none
 | _=>none
theorem Af(x:Int):∀l:List Int,(G0 x l).Perm (x::l)
 | []=>.refl _
 | y::r=>by
  unfold G0
  split
  ·exact .refl _
  ·exact((Af x r).cons y).trans (.swap _ _ _)
theorem wq:∀l:List Int,(xk l).Perm l
 | []=>.refl _
 | x::r=>(Af x _).trans ((wq r).cons x)
theorem Bu(x:Int):∀l:List Int,l.Pairwise (·<=·)->(G0 x l).Pairwise (·<=·)
 | [],_=>List.pairwise_singleton _ _
 | y::r,h=>by
  unfold G0
  have h1:∀{z},z∈r->y<=z:=fun hz=>List.rel_of_pairwise_cons h hz
  split
  ·rename_i hx
   refine List.Pairwise.cons (fun z hz=>?_) h
   rcases Sf.mp hz with e | e
   ·rw[e];exact hx
   ·exact Int.le_trans hx (h1 e)
  ·rename_i hx
   refine List.Pairwise.cons (fun z hz=>?_) (Bu x r h.of_cons)
   rcases Sf.mp ((Af x r).mem_iff.mp hz) with e | e
   ·rw[e];omega
   ·exact h1 e
theorem Ar:∀l:List Int,(xk l).Pairwise (·<=·)
 | []=>.nil
 | x::r=>Bu x _ (Ar r)
theorem qt{ns ns':List Int}(hp:ns'.Perm ns)(hs:ns'.Pairwise (·<=·)):ns'=xk ns:=
 List.Perm.eq_of_pairwise (fun _ _ _ _ a b=>Int.le_antisymm a b) hs (Ar ns) (hp.trans (wq ns).symm)
theorem zy:∀(xs σ:List Int),(xs.foldl vj σ).length<=σ.length+xs.length
 | [],σ=>Se _
 | x::r,σ=>by
  refine Sx (zy r (vj σ x)) ?_
  have:(vj σ x).length<=σ.length+1:=by
   unfold vj
   split
   ·omega
   ·simp
  rw[S5];omega
def wN(i:Nat)(s:R->RT Bool)(f:R->RT LD)(w:R->LD->RT Out):R->LD->RT Out:=fun ρ ds=>(s ρ).bind fun b =>
 if b then (f ρ).bind fun es=>if ρ.length=i/\es.length<=1000 then w ρ es else none else w ρ ds
end HW
namespace HW
open PySem
def NM:RU->Int
 | .int n _=>n
 | _=>0
def xX(b:Bool)(h:Sq)(S:RY)(ks:List Int):Prop:=
 ∃o es ep t,h.get? S=some o/\o.ExactSet/\o.data=.set es ep t/\(∀e∈es.toList,∃k tk,e=(hashInt k,Value.int k tk))/\TI t es.size/\t.led=b/\(es.toList.map fun e=>NM e.2).Perm ks
theorem xX.at{b:Bool}{h h':Sq}{S:RY}{ks:List Int}(x:xX b h S ks)(e:∀o,h.get? S=some o->h'.get? S=some o):xX b h' S ks:=let ⟨o,es,ep,t,ho,r⟩:=x;⟨o,es,ep,t,e _ ho,r⟩
theorem Ei(k:Int):∀l:List (Int×RU),(∀e∈l,∃k tk,e=(hashInt k,Value.int k tk))->(l.findIdx? fun e=>Value.isInt k e.2).isSome=(l.map fun e=>NM e.2).any (·==k)
 | [],_=>rfl
 | e::l,h=>by
  obtain⟨k',tk,rfl⟩:=h e (.head _)
  rw[List.findIdx?_cons,S3,List.any_cons]
  have e1:Value.isInt k (Value.int k' tk)=(k'==k):=by
   unfold Value.isInt
   simp[BEq.comm]
  show(if Value.isInt k (Value.int k' tk)=true then some 0 else _).isSome=((k'==k)||_)
  rw[e1]
  cases (k'==k) with
  | true=>rfl
  | false =>
   rw[Sa R6,Option.isSome_map,Bool.false_or]
   exact Ei k l fun e he=>h e (.tail _ he)
theorem IJ{l l':List Int}(p:l.Perm l')(k:Int):l.any (·==k)=l'.any (·==k):=p.any_eq
section
variable{prog:R9}{w:Sk}{A:Sv}{E:RU->RX->Prop}{s:RX}
theorem GQ{b:Bool}{S:RY}{ks:List Int}{k:Int}{tk:Tok}{Q:Bool->RX->Prop}(hS:xX b s.heap S ks)(hn:ks.length<=3)
  (h:∀r h',Heap.SameBut S s.heap h'->xX b h' S (vj ks k)->Q r {s with heap:=h' }) :
  wpAny (model prog w) A (setAddHashed S (.int k tk) ((intKind prog w).hash k)) Q E s:=by
 obtain⟨o,es,ep,t,ho,hex,hd,hel,hT,hled,hp⟩:=hS
 have hlen:es.size=ks.length:=by rw[<- hp.length_eq,R7,SK]
 have hf:t.fits es.size=true:=hT.fits (by omega)
 have hkey:=intKind_is prog w k tk
 have hE:ElemsOf (intKind prog w) es.toList:=fun e he=>by
  obtain⟨k',tk',rfl⟩:=hel e he
  exact⟨⟨k',intKind_is prog w k' tk',rfl⟩,rfl⟩
 have hb:es.size<scanBound:=by unfold scanBound;omega
 unfold setAddHashed setAddHashedIn
 refine wpAny_holding (RV (wpAny_setState_of ho hd hf ?_))
 dsimp only
 rw[byScan_of (knd:=intKind prog w) rfl hb hE]
 simp only[↓reduceIte]
 unfold setAddByScan
 refine RV ?_
 refine RV (wpAny_rule ?_)
 refine RV (wpAny_setScan_of hkey ho hd hf hE ?_)
 have hany:=Ei k es.toList hel
 rw[IJ hp] at hany
 cases hr:List.findIdx? (fun e=>(intKind prog w).is k e.2) es.toList with
 | some j =>
  dsimp only
  have hr':(List.findIdx? (fun e=>Value.isInt k e.2) es.toList)=some j:=hr
  rw[hr'] at hany
  have hst:vj ks k=ks:=by unfold vj;rw[<- hany];rfl
  refine R5 (R5 ?_)
  exact h false s.heap (Heap.SameBut.refl S s.heap) ⟨o,es,ep,t,ho,hex,hd,hel,hT,hled,by rw[hst];exact hp⟩
 | none =>
  dsimp only
  have hr':(List.findIdx? (fun e=>Value.isInt k e.2) es.toList)=none:=hr
  rw[hr'] at hany
  have hst:vj ks k=ks++[k]:=by unfold vj;rw[<- hany];rfl
  obtain⟨p,t',hpl,hL,hT',hled',hf'⟩:=Dy hT (by omega) ((intKind prog w).hash k) (.int k tk)
  have hperm:=SetTable.insertAt_perm es p ((intKind prog w).hash k,Value.int k tk)
  have hsz:(SetTable.insertAt es p ((intKind prog w).hash k,Value.int k tk)).size=es.size+1:=vQ _ _ _ hpl
  rw[hL]
  generalize SetTable.insertAt es p ((intKind prog w).hash k,Value.int k tk)=es' at *
  dsimp only
  refine RV (wpAny_of_eq (a:=()) rfl ?_)
  rw[R3 hT'.plain]
  refine RV ?_
  rw[hashByValue_scannable 8 (x:=Value.int k tk) rfl]
  refine R5 ?_
  show wpAny _ _ (storeSet S es' t' >>= fun _=>_) _ _ _
  refine RV (wpAny_storeSet_of ho hd ?_ (by rw[sizeLine_eq];omega))
  show wpAny _ _ (if (!false&&t'.tooFull)=true then _ else _) _ _ _
  rw[Kv hT' (by omega)]
  refine R5 (R5 ?_)
  have hg:(s.heap.update S (Obj.putSet es' t')).get? S=some {o with data:=.set es' (ep+1) t' }:=by
   have:=Tf (Obj.putSet es' t') ho (by rw[putSet_of es' t' hd];rfl)
   rw[putSet_of es' t' hd] at this;exact this
  refine h true _ (Heap.SameBut.update s.heap S (Obj.putSet es' t')) ⟨_,es',ep+1,t',hg,hex,rfl,fun e he=>?_,hT',hled'.trans hled,?_⟩
  ·have:=hperm.mem_iff.mp he
   rw[Array.toList_push] at this
   rcases Ti.mp this with q | q
   ·exact hel e q
   ·exact⟨k,tk,R4.mp q⟩
  ·rw[hst]
   refine(hperm.map _).trans ?_
   rw[Array.toList_push,Ta]
   exact hp.append_right _
end
end HW
namespace HW
open PySem PySem.Spec PyProof.Rows
theorem uW:Slot "set_iterator" "__next__" "set_iterator.__next__" :=
 .of (owner:="set_iterator") (n:="__next__") (by rw[typeLookup_type,builtinLookup_eq_fast];kernel_rfl) (by decide +kernel) (by decide +kernel) (by decide +kernel)
  (by first | exact .inl (by decide +kernel) | exact .inr (by decide +kernel)) (by rw[isSubtype_type];kernel_rfl)
theorem yZ:entryFor table "set_iterator.__next__" = some Builtin.«set_iterator.__next__»:=entryFor_of_tree (by kernel_rfl)
theorem zA(a:RU):argsOk "set_iterator.__next__" ⟨[a],[]⟩:=by unfold argsOk;kernel_rfl
theorem zx:Slot "set_iterator" "__iter__" "set_iterator.__iter__" :=
 .of (owner:="set_iterator") (n:="__iter__") (by rw[typeLookup_type,builtinLookup_eq_fast];kernel_rfl) (by decide +kernel) (by decide +kernel) (by decide +kernel)
  (by first | exact .inl (by decide +kernel) | exact .inr (by decide +kernel)) (by rw[isSubtype_type];kernel_rfl)
theorem BV:entryFor table "set_iterator.__iter__" = some Builtin.«dict_keyiterator.__iter__»:=
 entryFor_alias (id':="dict_keyiterator.__iter__") (by kernel_rfl) rfl (by decide +kernel) (by kernel_rfl)
theorem Dp(a:RU):argsOk "set_iterator.__iter__" ⟨[a],[]⟩:=by unfold argsOk;kernel_rfl
theorem Dr:entryFor table "set.__iter__" = some Builtin.«frozenset.__iter__»:=
 entryFor_alias (id':="frozenset.__iter__") (by kernel_rfl) rfl (by decide +kernel) (by kernel_rfl)
def vP(h:Sq)(it S:RY)(slot i n ep:Nat):Prop:=∃o,h.get? it=some o/\o.cls=.type "set_iterator" /\ o.data=.fields #[.int slot 0,.int i 0,.ref S,.int n 0,.int ep 0]
def we(h:Sq)(S:RY)(es:Array (Int×RU))(ep:Nat)(t:SetTable):Prop:=∃o,h.get? S=some o/\o.cls=.type "set" /\ o.data=.set es ep t
def slotAt(t:SetTable):Nat->Nat
 | 0=>0
 | i+1=>t.place.getD i 0+1
def vp(w:Sk):Bool:=w.params.followText "set-order"
structure zf (w:Sk) (S:RY) (es:Array (Int×RU)) (ep:Nat) (t:SetTable) (ord:Array (Int×RU)):Prop where
 fits:t.fits es.size=true
 size:ord.size=es.size
 txt:vp w=true->ord=pickOrder (w.params.setOrder S ep) es
 plc:vp w=false->ord=es/\t.led=true/\(!t.plain&&decide (es.size > 1))=false/\∀i,i<=es.size->SetTable.below t.place (slotAt t i)=i
theorem vP.typeIs{s:RX}{it S slot i n ep}(x:vP s.heap it S slot i n ep):s.TypeIs (.ref it) "set_iterator":=let ⟨o,ho,hc,_⟩:=x;⟨o,ho,hc⟩
theorem we.typeIs{s:RX}{S es ep t}(x:we s.heap S es ep t):s.TypeIs (.ref S) "set":=let ⟨o,ho,hc,_⟩:=x;⟨o,ho,hc⟩
theorem we.at{h h':Sq}{S es ep t}(x:we h S es ep t)(e:∀o,h.get? S=some o->h'.get? S=some o):we h' S es ep t:=let ⟨o,ho,r⟩:=x;⟨o,e _ ho,r⟩
theorem vP.at{h h':Sq}{it S slot i n ep}(x:vP h it S slot i n ep)(e:∀o,h.get? it=some o->h'.get? it=some o):vP h' it S slot i n ep:=let ⟨o,ho,r⟩:=x;⟨o,e _ ho,r⟩
theorem we.lt{h:Sq}{S es ep t}(x:we h S es ep t):S<h.objs.size:=let ⟨_,ho,_⟩:=x;R_ ho
section
variable{prog:R9}{w:Sk}{A:Sv}{E:RU->RX->Prop}{s:RX}{S:RY}{es ord:Array (Int×RU)}{ep:Nat}{t:SetTable}
theorem iR{Q:(Array (Int×RU)×Nat×SetTable)->RX->Prop}(x:we s.heap S es ep t)(hf:t.fits es.size=true)(h:Q (es,ep,t) s):wpAny (model prog w) A (setState S) Q E s:=by
 obtain⟨o,ho,hc,hd⟩:=x
 exact wpAny_setState_of ho hd hf h
theorem nF{Q:Array (Int×RU)->RX->Prop}(x:we s.heap S es ep t)(hf:t.fits es.size=true)(h:Q es s):wpAny (model prog w) A (setEntries S) Q E s:=by
 obtain⟨o,ho,hc,hd⟩:=x
 exact wpAny_setEntries_of ho hd hf h
theorem tu{Q:Bool->RX->Prop}(h:Q (vp w) s):wpAny (model prog w) A setsByText Q E s:=by
 unfold setsByText
 exact RV (wpAny_askSetting (R5 h))
theorem tH{Q:RU->RX->Prop}(x:we s.heap S es ep t)(hO:zf w S es ep t ord)
  (h:Q (.ref s.heap.objs.size) {s with heap:=s.heap.push {cls:=.type "set_iterator",data:=.fields #[.int 0 0,.int 0 0,.ref S,.int es.size 0,.int ep 0]} }):wpAny (model prog w) A (pyIter (.ref S)) Q E s:=by
 refine wpAny_pyIter_slot x.typeIs F.slot_set_iter (wpAny_call_entry F.slot_set_iter x.typeIs Dr ?_ (F.args_set_iter_1 _))
 unfold Builtin.«frozenset.__iter__»
 refine RV (m:=Builtin.Frozenset.slot0 "__iter__" ⟨[.ref S],[]⟩) (wpAny_of_eq (a:=S) rfl ?_)
 refine RV ?_
 unfold Builtin.Frozenset.sizeOf
 refine RV (nF x hO.fits (R5 ?_))
 refine RV ?_
 have hd:∀{Q':Bool->RX->Prop},Q' false s->wpAny (model prog w) A.in1 (setDrawn S) Q' E s:=fun hq=>by
  unfold setDrawn
  refine RV (iR x hO.fits (RV (tu (R5 ?_))))
  have z:(!vp w&&(!t.plain&&decide (es.size > 1)))=false:=by
   cases hb:vp w with
   | true=>rfl
   | false=>rw[(hO.plc hb).2.2.1];rfl
  show _
  exact z ▸ hq
 refine hd ?_
 dsimp only
 rw[Sa R6]
 refine RV (R5 ?_)
 refine RV ?_
 unfold setEpoch
 refine RV (iR x hO.fits (R5 ?_))
 refine RV (S6 (R5 ⟨_,rfl,"set_iterator",_,⟨_,Sd _ rfl,rfl⟩,uW.lookup,?_⟩))
 exact h
def nextOf(ord:Array (Int×RU))(i nx:Nat):RT (RU×Nat):=(ord[i]?).map fun e=>(e.2,nx)
theorem kj{slot i:Nat}{Q:RT (RU×Nat)->RX->Prop}(x:we s.heap S es ep t)(hO:zf w S es ep t ord)(hs:vp w=false->slot=slotAt t i)(hi:i<=es.size)
  (h:∀nx,(vp w=false->nx=slotAt t (i+1))->Q (nextOf ord i nx) s):wpAny (model prog w) A (setNext S slot i ep) Q E s:=by
 unfold setNext
 refine RV (iR x hO.fits ?_)
 dsimp only
 refine RV (tu ?_)
 cases hb:vp w with
 | true =>
  rw[R3 rfl,Sa (by simp)]
  refine RV ?_
  unfold setWalk
  refine RV (iR x hO.fits ?_)
  dsimp only
  refine RV (tu ?_)
  rw[hb,R3 rfl]
  refine RV (wpAny_askSetting (R5 (R5 ?_)))
  have:=h slot (fun z=>by rw[hb] at z;cases z)
  rw[hO.txt hb] at this
  exact this
 | false =>
  obtain⟨e1,e2,e3,e4⟩:=hO.plc hb
  rw[Sa R6]
  show wpAny _ _ (if (!t.plain&&decide (es.size > 1))=true then _ else _) _ _ _
  rw[e3,Sa R6]
  show wpAny _ _ ((if (!t.led&&!es.isEmpty)=true then _ else _) >>= _) _ _ _
  rw[e2,Sa (by simp)]
  refine RV (R5 (R5 ?_))
  rw[hs hb,e4 i hi,<- e1]
  have hp:t.place.size=es.size:=by
   have:=hO.fits
   simp only[SetTable.fits,R1,Th] at this
   exact this.1
  by_cases hlt:i<es.size
  ·have:=h (t.place.getD i 0+1) (fun _=>rfl)
   unfold nextOf at this
   rw[e1] at this ⊢
   have hpi:i<t.place.size:=by rw[hp];exact hlt
   rw[S0 hlt,S0 hpi]
   rw[S0 hlt] at this
   simp only[Array.getD_eq_getD_getElem?,S0 hpi,Option.getD_some,Option.map_some] at this
   exact this
  ·have:=h (slotAt t (i+1)) (fun _=>rfl)
   unfold nextOf at this
   rw[e1] at this ⊢
   rw[Array.getElem?_eq_none (Nat.le_of_not_lt hlt)] at this ⊢
   exact this
theorem sG{it:RY}{slot i:Nat}{Q:RT RU->RX->Prop}(hit:vP s.heap it S slot i es.size ep)(hne:S≠it)(x:we s.heap S es ep t)(hO:zf w S es ep t ord)(hs:vp w=false->slot=slotAt t i)(hi:i<ord.size)
  (hQ:∀nx h',(vp w=false->nx=slotAt t (i+1))->vP h' it S nx (i+1) es.size ep->Heap.ExtBut it s.heap h'->Q (some ord[i].2) {s with heap:=h' }):wpAny (model prog w) A (pyNext (.ref it)) Q E s:=by
 obtain⟨o,ho,hc,hd⟩:=id hit
 unfold pyNext
 refine RV (wpAny_attempt (wpAny_callSpecial?_slot (name:=oS "__next__") hit.typeIs uW
  (wpAny_call_entry uW hit.typeIs yZ ?_ (zA _))))
 unfold Builtin.«set_iterator.__next__»
 refine RV (m:=slotArgs "__next__" 0 ⟨[.ref it],[]⟩) (wpAny_of_eq (a:=(.ref it,[])) rfl ?_)
 refine RV (wpAny_fieldsOf ho hd ?_)
 dsimp only
 refine RV (nF x hO.fits ?_)
 rw[Sa (by simp)]
 have hi':i<=es.size:=by rw[<- hO.size];exact Nat.le_of_lt hi
 show wpAny _ _ (setNext S slot i ep >>= _) _ _ _
 refine RV (kj x hO hs hi' fun nx hnx=>?_)
 rw[nextOf,S0 hi]
 simp only[Option.map_some]
 refine RV (wpAny_setField ho hd (by simp) ?_)
 generalize hH1:s.heap.update it (Obj.mapFields (·.setIfInBounds 0 (rawInt nx)))=H1
 have ho1:∃o1,H1.get? it=some o1/\o1.cls=.type "set_iterator" /\ o1.data=.fields #[.int nx 0,.int i 0,.ref S,.int es.size 0,.int ep 0]:=by
  subst hH1
  exact⟨_,Tf _ ho (Obj.isFreed_of_fields (Obj.data_mapFields hd _)),(Obj.cls_mapFields ..).trans hc,by rw[Obj.data_mapFields hd];simp[rawInt]⟩
 obtain⟨o1,ho1,hc1,hd1⟩:=ho1
 refine RV (wpAny_setField (s:={s with heap:=H1}) ho1 hd1 (by simp) ?_)
 generalize hH2:H1.update it (Obj.mapFields (·.setIfInBounds 1 (rawInt ((i:Int)+1))))=H2
 have ho2:vP H2 it S nx (i+1) es.size ep:=by
  subst hH2
  exact⟨_,Tf _ ho1 (Obj.isFreed_of_fields (Obj.data_mapFields hd1 _)),(Obj.cls_mapFields ..).trans hc1,by rw[Obj.data_mapFields hd1];simp[rawInt]⟩
 have hx:Heap.ExtBut it s.heap H2:=fun b u hb e=>by
  subst hH2;subst hH1
  exact(SC _ _ (Ne.symm hb)).trans ((SC _ _ (Ne.symm hb)).trans e)
 exact R5 ⟨_,rfl,R5 (hQ nx H2 hnx ho2 hx)⟩
theorem tX{it:RY}{slot i:Nat}{Q:RT RU->RX->Prop}(hh:A.handled=none)(hit:vP s.heap it S slot i es.size ep)(hne:S≠it)(x:we s.heap S es ep t)(hO:zf w S es ep t ord)(hs:vp w=false->slot=slotAt t i)(hi:i=ord.size)
  (hQ:∀h',Heap.ExtBut it s.heap h'->Q none {s with heap:=h' }):wpAny (model prog w) A (pyNext (.ref it)) Q E s:=by
 obtain⟨o,ho,hc,hd⟩:=id hit
 unfold pyNext
 refine RV (wpAny_attempt (wpAny_callSpecial?_slot (name:=oS "__next__") hit.typeIs uW
  (wpAny_call_entry uW hit.typeIs yZ ?_ (zA _))))
 unfold Builtin.«set_iterator.__next__»
 refine RV (m:=slotArgs "__next__" 0 ⟨[.ref it],[]⟩) (wpAny_of_eq (a:=(.ref it,[])) rfl ?_)
 refine RV (wpAny_fieldsOf ho hd ?_)
 dsimp only
 refine RV (nF x hO.fits ?_)
 rw[Sa (by simp)]
 have hi':i<=es.size:=by rw[<- hO.size,hi];exact Se _
 show wpAny _ _ (setNext S slot i ep >>= _) _ _ _
 refine RV (kj x hO hs hi' fun nx hnx=>?_)
 rw[nextOf,Array.getElem?_eq_none (by rw[hi];exact Se _)]
 simp only[Option.map_none]
 refine RV (wpAny_setField ho hd (by simp) ?_)
 show wpAny _ _ (newExc (.type "StopIteration") [] >>= _) _ _ _
 refine RV ?_
 simp only[newExc,newTuple]
 refine RV (S6 ?_ (by size_fits))
 refine RV (m:=firstArgMember _ _) (wpAny_of_eq (a:=Value.none) (by first | rfl | (simp only[firstArgMember];rfl)) ?_)
 refine S6 ?_ (by size_fits)
 simp only[raiseNew]
 refine RV (wpAny_handled ?_)
 rw[show A.in1.handled=none from hh]
 refine RV (R5 (wpAny_throw ?_))
 refine RV (wpAny_isInstance (T:="StopIteration") (b:=true) ⟨_,Sd _ rfl,rfl⟩ isSubtype_stop ?_)
 exact R5 (hQ _ (((Heap.SameBut.update ..).extBut.push _).push _))
theorem G5(hh:A.handled=none)(I:RY)(hne:S≠I)(hO:zf w S es ep t ord) :
  Walks prog w A I [I,S] [I] ord.size (fun i v=>∃e,ord[i]?=some e/\v=e.2) (fun i h=>(∃slot,vP h I S slot i es.size ep/\(vp w=false->slot=slotAt t i))/\we h S es ep t) where
 sub:=fun b hb=>by simp at hb;simp[hb]
 frame:=fun _ _ _ st hk=>⟨let ⟨sl,a,b⟩:=st.1;⟨sl,a.at fun o e=>hk I (by simp) o e,b⟩,st.2.at fun o e=>hk S (by simp) o e⟩
 item:=fun i s Q E hi st hQ=>by
  obtain⟨⟨sl,a,b⟩,c⟩:=st
  refine sG a hne c hO b hi fun nx h' hnx hit' hs'=>?_
  exact hQ _ h' s.toks ⟨ord[i],by simp[hi],rfl⟩ ⟨⟨nx,hit',hnx⟩,c.at fun o e=>hs' S o hne e⟩ fun b o hb e=>hs' b o (fun h=>hb (by simp[h])) e
 done:=fun s Q E st hQ=>by
  obtain⟨⟨sl,a,b⟩,c⟩:=st
  exact tX hh a hne c hO b rfl fun h' he'=>hQ h' s.toks fun b o hb e=>he' b o (fun h=>hb (by simp[h])) e
 self:=fun _ s Q E st hQ=>by
  obtain⟨⟨sl,a,b⟩,c⟩:=st
  refine wpAny_pyIter_slot a.typeIs zx (wpAny_call_entry zx a.typeIs BV ?_ (Dp _))
  show wpAny _ _ (ret (.ref I)) _ _ s
  exact R5 ⟨_,rfl,"set_iterator",_,a.typeIs,uW.lookup,hQ⟩
theorem HZ{Q:Bool->RX->Prop}(hT:s.TypeIs (.ref S) "set")(h:Q false s):wpAny (model prog w) A (Builtin.List.listLengthHint (.ref S)) Q E s:=by
 unfold Builtin.List.listLengthHint
 refine RV (wpAny_specialOf hT PySem.F.slot_set_len.lookup ?_)
 generalize Lx:("set.__len__" : String)=id0
 wp_delta
 rw[show splitId id0=some ("set","__len__") from by subst Lx;decide +kernel]
 subst Lx
 refine RV (wpAny_isInstance (T:="set") (b:=true) hT (by rw[isSubtype_type];kernel_rfl) ?_)
 refine wpAny_ite_split (fun hab=>Sm hab (by decide)) (fun _=>?_)
 refine wpAny_ite_split (fun _=>?_) (fun hab=>Sm (by decide +kernel) hab)
 refine RV (wpAny_typeOf hT ?_)
 exact R5 h
theorem rN(hO:zf w S es ep t ord):W.KdlSrc prog w "set" S S ord.size (fun i v=>∃e,ord[i]?=some e/\v=e.2) (fun h=>we h S es ep t) where
 type:=fun _ hm=>hm.typeIs
 there:=fun _ hm=>⟨hm.lt,hm.lt⟩
 keep:=fun _ _ hm hk=>hm.at fun o e=>hk S (.inl rfl) o e
 notList:=by decide
 notTuple:=by decide
 hint:=fun _ _ _ _ hm hq=>HZ hm.typeIs hq
 iter:=fun _ _ hh hm=>⟨_,_,(fun _ _ hq=>tH hm hO hq),G5 hh _ (Sn hm.lt) hO,⟨⟨0,⟨_,Sd _ rfl,rfl,rfl⟩,fun _=>rfl⟩,hm.at fun o e=>R0 _ e⟩⟩
end
set_option maxHeartbeats 3200000
def zW(val:Nat->Int)(i:Nat):List Int:=((List.range i).map val).foldl vj []
theorem GM(val:Nat->Int)(i:Nat):zW val (i+1)=vj (zW val i) (val i):=by
 unfold zW;rw[List.range_succ,Ta,List.foldl_append];rfl
theorem IY(val:Nat->Int)(i:Nat):(zW val i).length<=i:=by
 have:=zy ((List.range i).map val) []
 unfold zW
 simpa using this
section
variable{prog:R9}{w:Sk}{A:Sv}{R:Result->RX->Prop}{I:RY}{fp wr:List RY}{G:Array GenState->Array GenState->Prop}{n:Nat}{P:Nat->RU->Prop}{St:Nat->RX->Prop}
theorem qC{b:Bool}(W:WalksS prog w A.in1 I fp wr G n P St)(S:RY)(hSf:S∉fp)
  (val:Nat->Int) (hval:∀i v,P i v->∃t,v=.int (val i) t) (hb:n<=4) :
  ∀(k i:Nat) (s:RX),n - i=k->i<=n->St i s->xX b s.heap S (zW val i) ->
   (∀s',Moved (S::wr) G s s'->xX b s'.heap S (zW val n)->R (.ok (.ret .none)) s') ->
   codeAny (model prog w) A (.builtin "set.update.loop" ⟨[.ref S,.ref I],[]⟩) R s:=by
 have hSw:S∉wr:=fun h=>hSf (W.sub _ h)
 have hsub:∀b∈wr,b∈S::wr:=fun b hb=>Su _ hb
 intro k
 induction k with
 | zero =>
  intro i s hk hi hst hS hR
  have hin:i=n:=by omega
  subst hin
  refine Td F.entry_set_update_loop ?_
  rw[Around.under_plainId F.plain_set_update_loop _]
  show wpAny _ A.in1 (pyNext (.ref I) >>= _) _ _ s
  refine RV (W.done s _ _ hst fun s' hm=>?_)
  show wpAny _ A.in1 (ret Value.none) _ _ s'
  exact R5 (hR s' (hm.mono hsub) (hS.at fun o ho=>hm.heap S _ hSw ho))
 | succ k ih =>
  intro i s hk hi hst hS hR
  have hlt:i<n:=by omega
  refine Td F.entry_set_update_loop ?_
  rw[Around.under_plainId F.plain_set_update_loop _]
  show wpAny _ A.in1 (pyNext (.ref I) >>= _) _ _ s
  refine RV (W.item i s _ _ hlt hst fun v s' hP hst' hm=>?_)
  obtain⟨t,rfl⟩:=hval i v hP
  have hS':xX b s'.heap S (zW val i):=hS.at fun o ho=>hm.heap S _ hSw ho
  show wpAny _ A.in1 (holding [Value.int (val i) t] (setAdd S (.int (val i) t)) >>= _) _ _ s'
  refine RV (wpAny_holding ?_)
  unfold setAdd
  refine wpAny_holding ?_
  refine RV ((intKind prog w).pyHash (k:=val i) (intKind_is _ _ _ _) ?_)
  have hroom:(zW val i).length<=3:=by have:=IY val i;omega
  refine GQ (s:={s' with toks:=s'.toks+1}) hS' hroom fun r h' hsb hS2=>?_
  have hSi:xX b h' S (zW val (i+1)):=by rw[GM];exact hS2
  refine R5 ⟨plainId_quiet F.plain_set_update_loop _,ih (i+1) _ (by omega) hlt (W.frame _ s' _ _ hst' (Nat.le_succ _) fun b hb o e=>?_) hSi fun s'' hm'' hS''=>?_⟩
  ·rw[hsb.2 b (fun h:b=S=>hSf (by rw[<- h];exact hb))];exact e
  ·refine hR s'' (Moved.trans W.gtrans ((hm.mono hsub).then_heap (Nat.le_succ _) fun b o hb e=>?_) hm'') hS''
   rw[hsb.2 b (fun h:b=S=>hb (by rw[h];exact SY))];exact e
end
section
variable{prog:R9}{w:Sk}{A:Sv}{E:RU->RX->Prop}{s:RX}
abbrev vZ(w:Sk):Obj:={cls:=.type "set",dict:=none,data:=.set #[] 0 (.fresh 0 0 (!vp w))}
theorem Ka(a:RU){Q₁:RU->RX->Prop}
  (h:Q₁ (.ref s.heap.objs.size) {s with heap:=s.heap.push (vZ w)}) :
  codeAny (model prog w) A (.call (.builtin "set.__new__") ⟨[.type "set",a],[]⟩) (wants Q₁ E) s:=by
 refine codeAny_of_tree ?_
 show wpAny _ A.in1 (do checkBuiltinCall "set.__new__" ⟨[.type "set",a],[]⟩;again (.builtin "set.__new__" ⟨[.type "set",a],[]⟩)) _ _ s
 refine RV (wpAny_of_eq (PySem.F.newCall_set_1 a) (R5 ⟨plainId_quiet PySem.F.plain_set_new _,Td PySem.F.entry_set_new ?_⟩))
 rw[Around.under_plainId PySem.F.plain_set_new _]
 unfold Builtin.«set.__new__» Builtin.Frozenset.newClass
 have hsub:=PySem.sub_set_self
 obtain⟨hp,g,d,tk,os⟩:=s
 dsimp only
 wp_walk
 refine wpAny_askSetting (R5 ?_)
 dsimp only
 simp only[newObj]
 refine RV (wpAny_alloc (R5 ?_))
 exact R5 h
theorem xX.new{h:Sq}{w:Sk}:xX (!vp w) (h.push (vZ w)) h.objs.size []:=
 ⟨vZ w,#[],0,_,Sd _ rfl,⟨rfl,rfl,rfl⟩,rfl,fun e he=>by simp at he,TI.fresh _,rfl,.refl _⟩
theorem qR {l:RY} {items:Array RU} {val:Nat->Int} {Q:RU->RX->Prop}
    (hh:A.handled=none) (hl:s.heap.IsList l items) (hval:∀(i:Nat) (v:RU),items[i]?=some v->∃t,v=.int (val i) t) (hb:items.size<=4)
    (h:∀(h':Sq) (tk:Nat),xX (!vp w) h' s.heap.objs.size (zW val items.size) ->
      (∀b o,b<s.heap.objs.size->s.heap.get? b=some o->h'.get? b=some o)->Q (.ref s.heap.objs.size) {s with heap:=h',toks:=tk}) :
    wpAny (model prog w) A (call (.type "set") [.ref l]) Q E s:=by
  obtain⟨c,tl,hmro⟩:=PySem.F.called_set.mro
  have hmade:=PySem.F.called_set.made
  have hsub:=PySem.F.called_set.sub
  refine wpAny_call (codeAny_of_tree ?_)
  show wpAny _ _ (callAny (.type "set") _) _ _ _
  refine R5 ⟨Code.quiet_builtin _ (by decide +kernel),Td PySem.F.entry_type_call ?_⟩
  rw[Around.under_plain (weight_type_call_type "set" [.ref l] []) rfl]
  have h1:=PySem.F.called_set.notType
  have h2:=PySem.F.called_set.canCreate
  have hct:=PySem.F.typeCall_set_1 (.ref l)
  repeat (any_goals (first | assumption | wp_step))
  refine codeAny_mono (Ka (.ref l) (E:=E) (Q₁:=fun obj s₁=>obj=.ref s.heap.objs.size/\s₁={s with heap:=s.heap.push (vZ w)}) ⟨rfl,rfl⟩) fun r s₁ hr=>?_
  cases r with
  | error e=>exact hr
  | ok fl =>
    cases fl with
    | ret obj =>
      obtain⟨rfl,rfl⟩:=hr
      have hS:(s.heap.push (vZ w)).get? s.heap.objs.size=some (vZ w):=Sd _ rfl
      have hT:Shared.TypeIs {s with heap:=s.heap.push (vZ w)} (.ref s.heap.objs.size) "set":=⟨_,hS,rfl⟩
      have hli:=PySem.F.called_set.init.lookup
      have hbi:=PySem.F.called_set.init.bind (.ref s.heap.objs.size)
      repeat (any_goals (first | assumption | wp_step))
      refine codeAny_mono (codeAny_call_builtin (R:=wants (fun r s₂=>r=.none/\∃ h' tk,s₂={s with heap:=h',toks:=tk} /\
          xX (!vp w) h' s.heap.objs.size (zW val items.size) /\
          (∀b o,b<s.heap.objs.size->s.heap.get? b=some o->h'.get? b=some o)) E) PySem.F.called_set.init.plain PySem.F.entry_set_init (PySem.check_set_init_1 hT ?_)) fun r₂ s₂ hr₂=>?_
      · obtain⟨ol,hol,hcl,nl,hdl⟩:=hl
        obtain⟨ocls,odict,odata,oslots⟩:=ol
        simp only at hcl hdl
        subst hcl;subst hdl
        have hol':(s.heap.push (vZ w)).get? l=some {cls:=.type "list",dict:=odict,data:=.seq items nl,slots:=oslots}:=R0 _ hol
        have hsls:=PySem.F.sub_list_set
        have hslf:=PySem.F.sub_list_frozenset
        have hne:(Value.type "list" == Value.type "dict")=false:=by decide
        have hl1:(s.heap.push (vZ w)).IsList l items:=⟨_,hol',rfl,nl,rfl⟩
        unfold Builtin.«set.__init__» noKeywords Builtin.Frozenset.updateFrom
        generalize hPI:pyIter=PI
        wp_walk
        subst hPI
        refine wpAny_pyIter_list hl1 ?_
        refine RV (wpAny_runValue ?_)
        have hlS:l<s.heap.objs.size:=R_ hol
        have hh3:A.in1.in1.in1.handled=none:=by simp[hh]
        have hneI:l≠(s.heap.push (vZ w)).objs.size:=by
          rw[Heap.size_push];exact Sn (Nat.lt_succ_of_lt hlS)
        have hSf:s.heap.objs.size ∉ [(s.heap.push (vZ w)).objs.size,l]:=by
          rw[Heap.size_push];simp only[Sf,R4,List.not_mem_nil,or_false,not_or]
          exact⟨Sn (Tj _),Nat.ne_of_gt hlS⟩
        refine qC (b:=!vp w) ((Walks.list hh3 _ l hneI items).toS) s.heap.objs.size
          hSf val hval hb (items.size - 0) 0 _ (by omega) (SU _)
          ⟨⟨_,Sd _ rfl,rfl,rfl⟩,(hl1.push _)⟩ ?hS0 ?hR
        case hS0=>exact xX.new.at fun o e=>R0 _ e
        case hR =>
          intro s' hm hS'
          obtain⟨h',g',d',tk',os'⟩:=s'
          have eg:g'=s.gens:=hm.gens
          have ed:d'=s.drawn:=hm.drawn
          have eo:os'=s.os:=hm.os
          subst eg;subst ed;subst eo
          show wpAny _ _ _ _ _ _
          refine R5 ?_
          show wpAny _ _ (ret Value.none) _ _ _
          refine R5 ⟨rfl,h',tk',rfl,hS',fun b o hb e=>?_⟩
          have hb1:b≠s.heap.objs.size:=Sn hb
          have hb2:b≠(s.heap.push (vZ w)).objs.size:=by
            rw[Heap.size_push];exact Sn (Nat.lt_succ_of_lt hb)
          exact hm.heap b o (by simp only[Sf,R4,List.not_mem_nil,or_false,not_or];exact⟨hb1,hb2⟩) (R0 _ (R0 _ e))
      · cases r₂ with
        | error e=>exact hr₂
        | ok fl₂ =>
          cases fl₂ with
          | ret r =>
            obtain⟨rfl,h',tk,rfl,hS',hk'⟩:=hr₂
            repeat (any_goals (first | assumption | wp_step))
            exact h _ _ hS' hk'
          | _=>exact hr₂.elim
    | _=>exact hr.elim
theorem xX.ord{h:Sq}{S:RY}{ks:List Int}(x:xX (!vp w) h S ks)(hn:ks.length<=4) :
  ∃es ep t ord,we h S es ep t/\zf w S es ep t ord/\(ord.toList.map fun e=>NM e.2).Perm ks/\∀e∈ord.toList,∃k tk,e.2=Value.int k tk:=by
 obtain⟨o,es,ep,t,ho,hex,hd,hel,hT,hled,hp⟩:=x
 have hlen:es.size=ks.length:=by rw[<- hp.length_eq,R7,SK]
 have hf:t.fits es.size=true:=hT.fits (by omega)
 have hel':∀e∈es.toList,∃k tk,e.2=Value.int k tk:=fun e he=>let ⟨k,tk,q⟩:=hel e he;⟨k,tk,by rw[q]⟩
 cases hb:vp w with
 | true =>
  have pp:=Cp (w.params.setOrder S ep) es
  exact⟨es,ep,t,pickOrder (w.params.setOrder S ep) es,⟨o,ho,hex.1,hd⟩,⟨hf,Hd _ _,fun _=>rfl,fun z=>by rw[hb] at z;cases z⟩,(pp.map _).trans hp,fun e he=>hel' e (pp.mem_iff.mp he)⟩
 | false =>
  refine⟨es,ep,t,es,⟨o,ho,hex.1,hd⟩,⟨hf,rfl,(fun z=>by rw[hb] at z;cases z),fun _=>⟨rfl,by rw[hled,hb];rfl,by rw[hT.plain];rfl,fun i hi=>?_⟩⟩,hp,hel'⟩
  cases i with
  | zero=>exact Kb hT.ris
  | succ i=>exact J8 hT.ris (by rw[hT.size];exact hi)
theorem oU:∀{vs:List RU},(∀v∈vs,∃k tk,v=Value.int k tk)->IntsAre vs (vs.map NM)
 | [],_=>.nil
 | v::r,h=>by
  obtain⟨k,tk,rfl⟩:=h v (.head _)
  exact .cons k tk (oU fun u hu=>h u (.tail _ hu))
theorem He{α:Type}{acc ord:List α}(hl:acc.length=ord.length)(h:∀(j:Nat) (v:α),acc[j]?=some v->ord[j]?=some v):acc=ord:=by
 refine List.ext_getElem? fun j=>?_
 by_cases hj:j<acc.length
 ·rw[List.getElem?_eq_getElem hj];exact(h j _ (List.getElem?_eq_getElem hj)).symm
 ·rw[Te (by omega),Te (by omega)]
theorem Fh{S:RY}{ks:List Int}{Q:RU->RX->Prop}(hh:A.handled=none)(x:xX (!vp w) s.heap S ks)(hn:ks.length<=4)
  (h:∀(D:RY) (h':Sq) (tk n:Nat) (its:List RU),S<D->(∀b o,s.heap.get? b=some o->h'.get? b=some o)->h'.get? D=some {cls:=.type "list",data:=.seq its.toArray n}->IntsAre its (xk ks)->Q (.ref D) {s with heap:=h',toks:=tk}) :
  wpAny (model prog w) A (call (.builtin "sorted") [.ref S]) Q E s:=by
 obtain⟨es,ep,t,ord,hI,hO,hperm,hint⟩:=x.ord hn
 have hol:ord.size=ks.length:=by rw[<- hperm.length_eq,R7,SK]
 refine Calls.call_function_entry kind_sorted plain_sorted entry_sorted (args_sorted1 _) ?_
 unfold Builtin.«sorted»
 refine RV (m:=checkCount "sorted" 1 1 _) (R5 ?_)
 refine RV (W.kdu_collect (A:=A.in1) (rN hO) hh hI (by rw[sizeLine_eq];omega) fun h' tk acc hk hacc=>?_)
 have hl:acc.toList.length=ord.size:=by rw[SK];exact hacc.1
 have hae:acc.toList=ord.toList.map (·.2):=by
  refine He (by rw[hl,R7,SK]) fun j v e=>?_
  obtain⟨y,h1,h2⟩:=hacc.2 j v (by rw[<- Array.getElem?_toList];exact e)
  rw[SX,Array.getElem?_toList,h1,h2];rfl
 have hints:IntsAre acc.toList (acc.toList.map NM):=oU fun v hv=>by
  rw[hae] at hv
  obtain⟨e,he,rfl⟩:=List.mem_map.mp hv
  exact hint e he
 have hpk:(acc.toList.map NM).Perm ks:=by
  rw[hae,List.map_map];exact hperm
 refine RV (wpAny_newList ?_ (by rw[hl,sizeLine_eq];omega))
 have hoL:(h'.push (seqObj "list" acc.toList.toArray 0)).get? h'.objs.size=some (seqObj "list" acc.toList.toArray 0):=Sd _ rfl
 refine RV (wpAny_holding (wpAny_call_entry slot_list_sort ⟨_,hoL,rfl⟩ entry_list_sort (list_sort_tree hoL hints (by rw[hl];omega) fun out ns' a1 a2 a3=>⟨_,rfl,?_⟩) (args_list_sort _)))
 refine R5 ⟨_,rfl,?_⟩
 have hns:ns'=xk ks:=qt (a2.trans hpk) a3
 subst hns
 have hD:S<h'.objs.size:=R_ (hk S _ hI.choose_spec.1)
 obtain⟨n1,g1⟩:∃n1,((h'.push (seqObj "list" acc.toList.toArray 0)).update h'.objs.size (Obj.mapSeq fun _=>#[])).get? h'.objs.size=some (seqObj "list" #[] n1):=⟨_,get?_update_seq hoL (fun _=>#[])⟩
 have g2:((((h'.push (seqObj "list" acc.toList.toArray 0)).update h'.objs.size (Obj.mapSeq fun _=>#[])).push (seqObj "tuple" acc.toList.toArray 0)).push (seqObj "list" #[] 0)).get? h'.objs.size=some (seqObj "list" #[] n1):=R0 _ (R0 _ g1)
 obtain⟨n3,g3⟩:∃n3,(sortedHeap (h'.push (seqObj "list" acc.toList.toArray 0)) h'.objs.size acc.toList out).get? h'.objs.size=some (seqObj "list" out n3):=⟨_,get?_update_seq g2 (fun _=>out)⟩
 refine h h'.objs.size _ tk n3 out.toList hD (fun b o e=>?_) (by rw[g3]) a1
 have hb:b≠h'.objs.size:=Sn (R_ (hk b o e))
 exact(SC _ _ (Ne.symm hb)).trans (R0 _ (R0 _ ((SC _ _ (Ne.symm hb)).trans (R0 _ (hk b o e)))))
end
end HW
set_option maxHeartbeats 1000000
namespace HW
open PySem PySem.Spec PyProof.Rows L2
section
variable{X:Cx}
theorem vals_ints{K:RW}{H:Hp}:∀{ds:LD} {ns:List Int} {xs:List V} {its:List RU},intsOf ds=some ns->i5 K H ds xs->l6 xs its->IntsAre its ns
 | [],ns,xs,its,e,r,v=>by
  cases e
  cases (show xs=[] from r)
  cases v
  exact .nil
 | .int i::ds,ns,xs,its,e,r,v=>by
  obtain⟨ms,e1,e2⟩:=t7 (show(intsOf ds).map (i::·)=some ns from e)
  subst e2
  obtain⟨x,xr,rfl,r1,r2⟩:=r
  cases (show x=_ from r1)
  cases v with
  | cons v1 v2 =>
   obtain⟨t,rfl⟩:=v1
   exact .cons i t (vals_ints e1 r2 v2)
 | .non::_,_,_,_,e,_,_=>by cases e
 | .bl _::_,_,_,_,e,_,_=>by cases e
 | .str _::_,_,_,_,e,_,_=>by cases e
 | .tup _::_,_,_,_,e,_,_=>by cases e
 | .lst _::_,_,_,_,e,_,_=>by cases e
 | .fro _::_,_,_,_,e,_,_=>by cases e
theorem f_{K:RW}{H:Hp}:∀{ns:List Int} {its:List RU},IntsAre its ns->l6 (ns.map V.int) its/\i5 K H (ns.map D.int) (ns.map V.int)
 | _,_,.nil=>⟨.nil,rfl⟩
 | _,_,.cons n t r=>⟨.cons ⟨t,rfl⟩ (f_ (K:=K) (H:=H) r).1,⟨_,_,rfl,rfl,(f_ r).2⟩⟩
theorem JS(ns:List Int):zW (fun i=>ns.getD i 0) ns.length=A9 ns:=by
 unfold zW A9
 congr 1
 refine List.ext_getElem? fun j=>?_
 rw[SX]
 by_cases h:j<ns.length
 ·rw[List.getElem?_range h,List.getElem?_eq_getElem h];simp[h]
 ·rw[Te (by simpa using h),Te (by omega)];rfl
theorem oM:∀(its:List RU) (ns:List Int),its.length=ns.length->(∀(j:Nat) (v:RU),its[j]?=some v->∃t,v=.int (ns.getD j 0) t)->IntsAre its ns
 | [],[],_,_=>.nil
 | [],_::_,h,_=>by cases h
 | _::_,[],h,_=>by cases h
 | v::r,n::ns,hl,h=>by
  obtain⟨t,e⟩:=h 0 v rfl
  cases (show v=.int n t from e)
  exact .cons n t (oM r ns (Nat.succ.inj hl) fun j u hu=>h (j+1) u hu)
theorem tV{e:Sr}{f:R->OD}{p p' pos pos':Pos}(hc:X.calm=true)(hm:X.mg "sorted" = none)(hm':X.mg "set" = none)(he:SE X e f)(hg:Gl X "sorted":=by rfl)(hg':Gl X "set":=by rfl)(hst:noStar e=true:=by rfl) :
  SE X (.Call (.Name "sorted" p) [.Call (.Name "set" p') [e] [] pos'] [] pos) (c8 P4 (c4 f c7)):=by
 intro pins s σ H Q I ⟨ρ,d,er,eq,q⟩
 obtain⟨ds,e1,e2⟩:=h9 eq
 have hst1:=aF [] X.env hst
 refine Call_ (cJ I hg hm boot_sorted ?_)
 refine Calls.callWith_builtin rfl (Calls.evalArgs_plain (Calls.spliced_cons ?_))
 refine Call_ (cJ I hg' hm' boot_set ?_)
 refine PyProof.Rows.callWith_type1 (uo ((ac he af hst).1 pos' pins s σ H (fun vs H2=>i6 H H2/\i5 X.K H2 ds vs) I ⟨ρ,ds,er,e1,fun vs H2 s2 r2=>⟨s2,r2⟩⟩) fun us s1 ⟨vs,H1,I1,r1,s01,rp⟩=>?_) (by rw[hst1]) rfl
 have hh:=I1.ok.hd hc
 match ds,e2 with
 | [.lst es],e2 =>
  obtain⟨ns,e3,e4⟩:=h9 (show(intsOf es).bind _=some d from e2)
  split at e4
  case isFalse=>cases e4
  case isTrue hn =>
  cases e4
  obtain⟨v,r',rfl,⟨a,xs,rfl,ha,rx⟩,rr⟩:=rp
  cases (show r'=[] from rr)
  obtain⟨u,rfl,ru⟩:=r1.one
  cases (show u=_ from ru)
  obtain⟨_,its,n,rv,hl,eo⟩:=I1.lstM ha
  have hI:=vals_ints e3 rx rv
  have hlen:its.length=ns.length:=IntsAre.length hI
  refine qR (val:=fun i=>ns.getD i 0) hh ⟨_,eo,rfl,n,rfl⟩ (fun i v hv=>IntsAre.int_at hI i v (by simpa using hv)) (by rw[Sb,hlen];exact hn) fun h' tk hS hk=>?_
  have hz2:its.toArray.size=ns.length:=by rw[Sb];exact hlen
  rw[hz2,JS] at hS
  refine Calls.spliced_nil ?_
  have hd4:(A9 ns).length<=4:=Sx (zy ns []) (by simpa using hn)
  refine Fh (s:={s1 with heap:=h',toks:=tk}) hh hS hd4 fun D h2 tk2 n2 its2 hD hk2 hg2 hi2=>?_
  obtain⟨v1,v2⟩:=f_ (K:=X.K) (H:=upd H1 D (.lst ((xk (A9 ns)).map V.int))) hi2
  have hz:((xk (A9 ns)).map V.int).length<=sizeLine:=by
   rw[R7,(wq _).length_eq,sizeLine_eq];omega
  have hf:H1 D=none:=I1.hok.fresh (Nat.le_of_lt hD)
  refine⟨.ref D,upd H1 D (.lst ((xk (A9 ns)).map V.int)),I1.laid (t':=tk2) (fun b o eb=>hk2 b o (hk b o (R_ eb) eb)) (Nat.le_of_lt hD) ⟨hz,its2,n2,v1,hg2⟩,rfl,?_⟩
  refine q _ _ (s01.trans fun b u hb=>?_) ⟨D,_,rfl,au,v2⟩
  rw[aq fun z=>by rw[z,hf] at hb;cases hb]
  exact hb
theorem sd{a b c:Sr}{f g h:R->OD}{p p' pos pos':Pos}(hcm:X.calm=true)(hm:X.mg "list" = none)(hm':X.mg "range" = none)(ha:SE X a f)(hb:SE X b g)(hc:SE X c h)(hg:Gl X "list":=by rfl)(hg':Gl X "range":=by rfl)(hs:noStar a=true:=by rfl)(hs2:noStar b=true:=by rfl)(hs3:noStar c=true:=by rfl) :
  PE X (.Call (.Name "list" p) [.Call (.Name "range" p') [a,b,c] [] pos'] [] pos) (fun σ H Q=>∃ ρ es,ut X.K H ρ σ/\Dj f g h ρ=some es/\es.length<=1000/\∀(D:RY) vs H1,i6 H H1->H1 D=none->i5 X.K H1 es vs->Q (.ref D) (upd H1 D (.lst vs))):=by
 have z3:=aF [] X.env hs3
 have z2:=aF [c] X.env hs2
 have z1:=aF [b,c] X.env hs
 intro pins s σ H Q I ⟨ρ,es,er,e,hn,q⟩
 obtain⟨x,e1,e⟩:=h9 e
 obtain⟨y,e2,e⟩:=h9 e
 obtain⟨z,e3,e⟩:=h9 e
 obtain⟨i,e4,e⟩:=h9 e
 obtain⟨j,e5,e⟩:=h9 e
 obtain⟨k,e6,e⟩:=h9 e
 split at e
 case isFalse=>cases e
 case isTrue hz =>
 cases e
 refine Call_ (cJ I hg hm boot_list ?_)
 refine PyProof.Rows.callWith_type1 (Calls.spliced_cons ?_) rfl rfl
 refine Call_ (cJ I hg' hm' boot_range ?_)
 refine PyProof.Rows.callWith_type1 (uo ((ac ha (ac hb (ac hc af hs3) hs2) hs).1 pos' pins s σ H (fun vs H2=>i6 H H2/\i5 X.K H2 [x,y,z] vs) I ⟨ρ,[x,y,z],er,by show(f ρ).bind _=_;rw[e1];show((g ρ).bind _).map _=_;rw[e2];show(((h ρ).bind _).map _).map _=_;rw[e3];rfl,fun vs H2 s2 r2=>⟨s2,r2⟩⟩) fun us s1 ⟨vs,H1,I1,r1,s01,rp⟩=>?_) (by rw[z1,z2,z3]) (by rw[z2,z3];rfl)
 obtain⟨v,r,rfl,r2,r3⟩:=rp
 obtain⟨u,r',rfl,r4,r5⟩:=r3
 obtain⟨w,r'',rfl,r6,r7⟩:=r5
 cases (show r''=_ from r7)
 have hv:=vI e4 r2
 have hu:=vI e5 r4
 have hw:=vI e6 r6
 subst hv hu hw
 obtain⟨q1,q2,q3,q4,q5,q6⟩:=hz
 cases r1 with
 | cons r rr =>
  cases rr with
  | cons r' rr =>
   cases rr with
   | cons r'' rr =>
    cases rr
    obtain⟨t,rfl⟩:=r
    obtain⟨t',rfl⟩:=r'
    obtain⟨t'',rfl⟩:=r''
    refine call_range_3 (by omega) ?_ (.inl (PyProof.noPylong_small (by omega)))
    refine Calls.spliced_nil ?_
    have hlen:(Aw i j k).length=wA i j k:=by simp[Aw]
    generalize hob:({cls:=.type "range",data:=.fields #[.int i t,.int j t',.int k t'']}:Obj)=ob
    have hR:IsRange (s1.heap.push ob) s1.heap.objs.size i j k t t' t'':=by subst hob;exact IsRange.new ..
    refine call_list_range (s:={s1 with heap:=s1.heap.push ob}) (n:=wA i j k) (I1.ok.hd hcm) hR (MY q1 q2 q3 q4 q5 q6) (Ha q5).symm (by rw[<- hlen];omega) fun h' tk acc c' hk hS' hacc=>?_
    have hD:s1.heap.objs.size<=(s1.heap.push ob).objs.size:=by rw[Heap.size_push];exact Nat.le_succ _
    generalize (s1.heap.push ob).objs.size=Da at hS' hD
    have hI:IntsAre acc.toList ((List.range (wA i j k)).map fun (m:Nat)=>i+(m:Int)*k):=by
     refine oM _ _ (by rw[SK,R7,List.length_range];exact hacc.1) fun m v hv=>?_
     have hm:m<wA i j k:=by
      have:=(Sg.mp hv).1
      rw[SK,hacc.1] at this
      exact this
     obtain⟨t,e⟩:=hacc.2 m v (by rw[<- Array.getElem?_toList];exact hv)
     refine⟨t,e.trans ?_⟩
     simp[SJ,SX,List.getElem?_range hm]
    have hmp:Aw i j k=((List.range (wA i j k)).map fun (m:Nat)=>i+(m:Int)*k).map D.int:=by
     unfold Aw;rw[List.map_map];rfl
    obtain⟨v1,v2⟩:=f_ (K:=X.K) (H:=H1) hI
    have hf:H1 Da=none:=I1.hok.fresh hD
    rw[hmp] at q
    refine⟨.ref Da,upd H1 Da (.lst (((List.range (wA i j k)).map fun (m:Nat)=>i+(m:Int)*k).map V.int)),I1.laid (t':=tk) (o:=.lst (((List.range (wA i j k)).map fun (m:Nat)=>i+(m:Int)*k).map V.int)) (fun b o eb=>hk b o (R0 _ eb)) hD ⟨?_,acc.toList,c',v1,by rw[hS']⟩,rfl,q Da _ H1 s01 hf v2⟩
    rw[R7,R7,List.length_range,<- hlen,sizeLine_eq];omega
variable{sts:List So}
theorem rA{x:Str}{c ea eb ec:Sr}{s:R->RT Bool}{f g h:R->OD}{w:R->LD->RT Out}{px p1 p2 p1' p2' pos pos':Pos}(i:Nat)(hcm:X.calm=true)(hm:X.mg "list" = none)(hm':X.mg "range" = none)(hN:X.N.Nodup)
  (hc:ST X c s) (ha:SE X ea f) (hb:SE X eb g) (hd:SE X ec h) (h2:OB X sts w) (hix:X.N[i]?=some x:=by rfl) (hx:Loc X.env.scope x:=by first | exact Or.inl rfl | exact Or.inr rfl) (hg:Gl X "list":=by rfl) (hg':Gl X "range":=by rfl)
  (hsa:noStar ea=true:=by rfl) (hsb:noStar eb=true:=by rfl) (hsc:noStar ec=true:=by rfl)
  (hs:swapsWith (.Call (.Name "list" p1) [.Call (.Name "range" p2) [ea,eb,ec] [] p2'] [] p1') (some (.Name x px)) pos.line X.env=pure false:=by rfl) (hf:X.fn x=true\/X.env.scope.names.lookup x=some .local:=by first | exact .inl rfl | exact .inr rfl) :
  OB X (.If c [.Assign [.Name x px] (.Call (.Name "list" p1) [.Call (.Name "range" p2) [ea,eb,ec] [] p2'] [] p1') pos] [] pos'::sts) (wN i s (Dj f g h) w):=by
 intro pins st σ H E I ⟨ρ,τ,a,ds,xs,o,er,ho,rp,e,qq⟩
 obtain⟨b,eb1,e⟩:=h9 e
 refine wpAny_execs_cons (uo ((jw hc (c_ (ib (i:=i) hN hix hx (sd (p:=p1) (p':=p2) (pos:=p1') (pos':=p2') hcm hm hm' ha hb hd hg hg' hsa hsb hsc) hs hf)) zH) pins st σ H
  {E with nx:=fun σ' H'=>(b=false/\σ'=σ/\i6 H H')\/(b=true/\∃a' vs es H1,Dj f g h ρ=some es/\σ'=σ.set i (some (.ref a'))/\H'=upd H1 a' (.lst vs)/\H1 a'=none/\i6 H H1/\i5 X.K H1 es vs)} I ?_) fun fl s1 q=>?_)
 ·refine⟨ρ,b,er.1,eb1,fun H1 s1=>?_⟩
  cases b with
  | false=>rw[Sa R6];exact .inl ⟨rfl,rfl,s1⟩
  | true =>
   rw[R3 rfl] at e ⊢
   obtain⟨es,e1,e⟩:=h9 e
   split at e
   ·rename_i hz
    exact⟨ρ,es,er.1.mono s1,e1,hz.2,fun D vs H2 s2 hf rr=>.inr ⟨rfl,D,vs,es,H2,e1,rfl,rfl,hf,s1.trans s2,rr⟩⟩
   ·cases e
 cases fl with
 | next =>
  obtain⟨σ',H',I',q | q⟩:=q
  ·obtain⟨rfl,rfl,s1⟩:=q
   rw[Sa R6] at e
   exact h2 pins _ _ H' E I' ⟨ρ,τ,a,ds,xs,o,er.mono s1,s1 _ _ ho,rp.mono s1,e,fun H2 k=>qq H2 ((xp.of s1).trans k)⟩
  ·obtain⟨rfl,a',vs,es,H1,e1,rfl,rfl,hf,s1',r1⟩:=q
   rw[R3 rfl,e1] at e
   simp only[RZ] at e
   split at e
   case isFalse=>cases e
   case isTrue hz =>
   have I2:=Fv I' au
   generalize hH2:upd (upd H1 a' (.lst vs)) a' (yl a' vs)=H2 at I2
   have k12:xp a' H1 H2:=by
    subst hH2
    exact xp.upd.trans xp.upd
   have s12:i6 H1 H2:=fun b u hb=>k12 b u (fun z=>by rw[z,hf] at hb;cases hb) hb
   have ho2:H2 a'=some (yl a' vs):=by subst hH2;exact au
   have hσi:i<σ.length:=by
    have:=(Sg.mp (nR er)).1
    rw[<- hz.1];exact this
   have r2:i5 X.K H2 es vs:=r1.mono s12
   refine h2 pins _ _ H2 E I2 ⟨ρ,τ,a',es,vs,o,⟨⟨?_,fun j d hd=>?_⟩,?_⟩,ho2,r2,e,fun H' k=>qq H' fun b u hne hb=>?_⟩
   ·rw[S4];exact er.1.1
   ·have hj:j<i:=by
     rw[<- hz.1];exact(Sg.mp hd).1
    obtain⟨v,h1,h2⟩:=er.1.2 j d hd
    exact⟨v,by rw[SM (by omega)];exact h1,(h2.mono s1').mono s12⟩
   ·have hd:σ.drop i=some (.ref a)::τ:=by rw[<- hz.1];exact er.2
    rw[hz.1,Tb (by simpa using hσi)]
    congr 1
    ·simp
    ·rw[List.drop_set_of_lt (by omega),<- List.drop_drop,hd];rfl
   ·have hb1:=s1' _ _ hb
    exact k b u (fun z=>by rw[z,hf] at hb1;cases hb1) (s12 _ _ hb1)
 | brk=>exact q
 | cont=>exact q
 | ret v=>exact q
end
section
variable{prog:R9}{w:Sk}{A:Sv}{R':Result->RX->Prop}{I:RY}{fp wr:List RY}{n:Nat}{P:Nat->RU->Prop}{St:Nat->Sq->Prop}
end
section
variable{prog:R9}{w:Sk}{A:Sv}{E:RU->RX->Prop}{s:RX}
end
section
variable{X:Cx}
end
end HW
namespace HW
end HW
namespace HW
open PySem PySem.Spec PyProof.Rows L2
section
variable{prog:R9}{w:Sk}{A:Sv}{E:RU->RX->Prop}{s:RX}
end
section
variable{X:Cx}
end
end HW
namespace HW
end HW
namespace HW
open PySem PySem.Spec PyProof.Rows L2
section
variable{X:Cx}
end
end HW
namespace HW
open PySem
end HW
namespace HW
open PySem PySem.Spec PyProof.Rows L2
section
variable{X:Cx}
end
abbrev u5(K:RW)(n:Str)(st:So)(f:RY):Prop:=∃(oc:RU) (od an:RT RY) (sl:Array (RT RU)) (kV dc pm cd ct:RU),W.nsIn K mainGlobals n=some (some (.ref f)) /\
 K.lookup f=some ⟨oc,od,.func (W.fnOf n n (vf st) (uh st) (c6 st) .none kV dc pm an cd ct),sl⟩/\W.codeIn K cd n=true/\W.keepIn K (.ref f)=true
theorem vd{K:RW}{n:Str}{st:So}{f:RY}(h:u5 K n st f):∃fd,uv K n n st f fd/\W.nsIn K mainGlobals n=some (some (.ref f)):=by
 obtain⟨oc,od,an,sl,kV,dc,pm,cd,ct,a,l,c,k⟩:=h
 exact⟨_,qF l c k,a⟩
theorem fn4_mk{K:RW}{n:Str}{st:So}{f:RY}{oc:RU}{od an:RT RY}{sl:Array (RT RU)}{kV dc pm cd ct:RU}(a:W.nsIn K mainGlobals n=some (some (.ref f)))
  (l:K.lookup f=some ⟨oc,od,.func (W.fnOf n n (vf st) (uh st) (c6 st) .none kV dc pm an cd ct),sl⟩) (c:W.codeIn K cd n=true) (k:W.keepIn K (.ref f)=true):u5 K n st f:=⟨oc,od,an,sl,kV,dc,pm,cd,ct,a,l,c,k⟩
theorem l8.m{P:R9}{w:Sk}{K:RW}{mg:Str->RT RU}{base:Sq}{j k:Nat}{x:Str}{ps:List Str}{F:LD->OD}(h:l8 P w K mg base j x ps F)(hk:j<=k:=by decide):l8 P w K mg base k x ps F:=h.mono hk
end HW
namespace HW
open PySem
inductive MO where
 | nx (ρ:R)
 | rt (d:D) (ρ:R)
abbrev MU:=List Nat->R->RT MO
def uK(u:R->RT Out):MU:=fun _ ρ=>(u ρ).bind fun o=>match o with
 | .nx ρ2=>some (.nx ρ2)
 | .rt d=>some (.rt d ρ)
 | _=>none
def wf:MU:=fun _ ρ=>some (.nx ρ)
def u9(u w:MU):MU:=fun S ρ=>(u S ρ).bind fun o=>match o with
 | .nx ρ2=>w S ρ2
 | o=>some o
def Cw(c:R->RT Bool)(u w:MU):MU:=fun S ρ=>(c ρ).bind fun b=>if b then u S ρ else w S ρ
noncomputable def C5(st:D->R->RT R)(u:MU)(S:List Nat):LD->R->RT MO
 | [],ρ=>some (.nx ρ)
 | d::ds,ρ=>(st d ρ).bind fun ρ1=>(u S ρ1).bind fun o=>match o with
  | .nx ρ2=>C5 st u S ds ρ2
  | o=>some o
def Jg(it:R->RT LD)(st:D->R->RT R)(u:MU):MU:=fun S ρ=>(it ρ).bind fun ds=>if n5 ds then C5 st u S ds ρ else none
def uj:OD->Bool
 | some d=>uC d
 | none=>true
def uR(i:Nat)(ρ:R):Bool:=(ρ.set i none).all uj
noncomputable def xV:D->List Nat
 | .obj _ a _ _=>[a]
 | _=>[]
def adr:D->List Nat
 | .obj _ a _ es=>a::es.flatMap xV
 | _=>[]
def AE(S:List Nat)(as:List Nat):Bool:=as.all fun a=>S.contains a
def A_(c:List Nat->R->RT (D×R)):MU:=fun S ρ=>(c S ρ).map fun r=>.nx r.2
def CW(c:List Nat->R->RT (D×R)):MU:=fun S ρ=>(c S ρ).map fun r=>.rt r.1 r.2
noncomputable def Bh:List Str->LD->Str->OD
 | k::ks,d::ds,x=>if k=x then some d else Bh ks ds x
 | _,_,_=>none
def putD:List Str->LD->Str->D->List Str×LD
 | k::ks,d::ds,x,e=>if k=x then (k::ks,e::ds) else (k::(putD ks ds x e).1,d::(putD ks ds x e).2)
 | ks,ds,x,e=>(ks++[x],ds++[e])
def u4(C:Nat)(x:Str):D->OD
 | .obj k _ ks ds=>if k=C+2 then Bh ks ds x else none
 | _=>none
def okN:D->Bool
 | .obj 0 _ _ es=>n5 es
 | d=>uC d
def wZ(i C:Nat)(x:Str)(f:R->OD):MU:=fun S ρ=>(f ρ).bind fun d=>match c5 i ρ with
 | some (.obj k a ks ds)=>if k=C+2/\uC d=true/\uR i ρ=true/\AE S (a::ds.flatMap xV)=true/\ks.length<100/\ds.all okN=true/\(Bh ks ds x).all uC=true then some (.nx (ρ.set i (some (.obj k a (putD ks ds x d).1 (putD ks ds x d).2)))) else none
 | _=>none
def JZ(i C:Nat)(x:Str)(f:R->OD):MU:=fun S ρ=>(f ρ).bind fun d=>match c5 i ρ with
 | some (.obj k a ks ds)=>match Bh ks ds x with
  | some (.obj 0 l ls es)=>if k=C+2/\uC d=true/\uR i ρ=true/\AE S (a::ds.flatMap xV)=true/\es.length<1000/\n5 es=true/\n5 (putD ks ds x .non).2=true/\S.contains l=true then some (.nx (ρ.set i (some (.obj k a (putD ks ds x (.obj 0 l ls (es++[d]))).1 (putD ks ds x (.obj 0 l ls (es++[d]))).2)))) else none
  | _=>none
 | _=>none
def JT(j:Nat)(ob d:D)(ρ:R):RT (D×D):=(c5 j ρ).bind fun ob'=>if xF ob'=true/\adr ob'=adr ob then some (d,ob') else none
def C6(n N j:Nat)(g:MU):LD->RT (D×D):=fun ds=>if ds.length=n then (ds[j]?).bind fun ob=>if xF ob=true then (g (adr ob) (AO N ds)).bind fun o=>match o with
 | .nx ρ=>JT j ob .non ρ
 | .rt d ρ=>JT j ob d ρ
 else none else none
def Ad:D->Nat
 | .obj _ a _ _=>a
 | _=>0
def wR(i:Nat)(C:Nat)(m:Str)(G:LD->RT (D×D))(F:R->RT LD)(S:List Nat)(ρ:R):RT (D×R):=(c5 i ρ).bind fun ob=>(F ρ).bind fun ds=>(G (ob::ds)).bind fun r =>
 match ob with
 | .obj k _ ks _=>if k=C+2/\ks.contains m=false/\uR i ρ=true/\AE S (adr ob)=true then some (r.1,ρ.set i (some r.2)) else none
 | _=>none
def Dd(C:Nat)(m:Str)(G:LD->OD)(f:R->OD)(F:R->RT LD):R->OD:=fun ρ=>(f ρ).bind fun ob=>(F ρ).bind fun ds=>match ob with
 | .obj k _ ks _=>if k=C+2/\ks.contains m=false then G (ob::ds) else none
 | _=>none
def yk(N C:Nat)(f:Str)(g:MU)(ds:LD)(a l:Nat):OD:=(g [a] (AO N (.obj (C+2) a [] []::ds))).bind fun o=>match o with
 | .nx ρ=>match c5 0 ρ with
  | some (.obj k b ks es)=>if k=C+2/\b=a/\n5 es=true/\ks.length<100 then some (.obj k b (putD ks es f (.obj 0 l [] [])).1 (putD ks es f (.obj 0 l [] [])).2) else none
  | _=>none
 | _=>none
noncomputable def Fg(i:Nat)(mk:LD->Nat->Nat->OD)(F:R->RT LD)(w:MU):R->RT Out:=fun ρ=>(F ρ).bind fun ds=>open Classical in
 if h:i<ρ.length/\∃r,∀a l,a≠l->∃ob ρ',mk ds a l=some ob/\w [a,l] (ρ.set i (some ob))=some (.rt r ρ') then some (.rt h.2.choose) else none
theorem Kl{i:Nat}{mk:LD->Nat->Nat->OD}{F:R->RT LD}{w:MU}{ρ:R}{ds:LD}{r:D}(h1:F ρ=some ds)(hi:i<ρ.length)(h2:∀a l,a≠l->∃ob ρ',mk ds a l=some ob/\w [a,l] (ρ.set i (some ob))=some (.rt r ρ')):Fg i mk F w ρ=some (.rt r):=by
 unfold Fg
 rw[h1,RZ,dif_pos ⟨hi,r,h2⟩]
 have z:=(show ∃r,∀a l,a≠l->∃ob ρ',mk ds a l=some ob/\w [a,l] (ρ.set i (some ob))=some (.rt r ρ') from⟨r,h2⟩).choose_spec 0 1 (by decide)
 obtain⟨ob,ρ',e1,e2⟩:=z
 obtain⟨ob2,ρ2,e3,e4⟩:=h2 0 1 (by decide)
 rw[e1] at e3
 cases e3
 rw[e2] at e4
 exact congrArg (fun x=>some (Out.rt x)) (MO.rt.inj (Si e4)).1
theorem J2{i:Nat}{mk:LD->Nat->Nat->OD}{F:R->RT LD}{w:MU}{ρ:R}{o:Out}(h:Fg i mk F w ρ=some o):∃ds r,F ρ=some ds/\i<ρ.length/\o=.rt r/\∀a l,a≠l->∃ob ρ',mk ds a l=some ob/\w [a,l] (ρ.set i (some ob))=some (.rt r ρ'):=by
 cases e:F ρ with
 | none=>unfold Fg at h;rw[e] at h;cases h
 | some ds =>
  unfold Fg at h
  rw[e,RZ] at h
  split at h
  ·rename_i q
   cases h
   exact⟨ds,_,rfl,q.1,rfl,q.2.choose_spec⟩
  ·cases h
def Kz:LD->OD
 | [.lst es]=>(intsOf es).bind fun ns=>if ns.length<=1000/\ns.all (fun n=>decide (0<=n/\n<1099511627776))=true then some (.int ns.sum) else none
 | _=>none
end HW
namespace HW
open PySem PySem.Spec PyProof.Rows L2
def Mf:RT HO->Prop
 | some (.ins _ _ _)=>True
 | some (.dK _)=>True
 | some (.frz _ (.own _))=>True
 | _=>False
def uQ(S:List Nat)(H H':Hp):Prop:=∀b u,b∉S->H b=some u->H' b=some u
def t9(S:List Nat)(H:Hp):Prop:=∀b∈S,Mf (H b)
section
variable{S T:List Nat}{H H' H1 H2:Hp}{K:RW}
theorem uQ.of(h:i6 H H'):uQ S H H':=fun b u _ e=>h b u e
theorem uQ.refl:uQ S H H:=fun _ _ _ e=>e
theorem uQ.trans(h:uQ S H H1)(k:uQ S H1 H2):uQ S H H2:=fun b u n e=>k b u n (h b u n e)
theorem uQ.mono(h:uQ S H H')(hs:∀b∈S,b∈T):uQ T H H':=fun b u n e=>h b u (fun z=>n (hs b z)) e
theorem t9.same(m:t9 S H)(s:i6 H H'):t9 S H':=fun b hb=>by
 have h:=m b hb
 cases e:H b with
 | none=>rw[e] at h;exact h.elim
 | some u=>rw[s b u e];rw[e] at h;exact h
theorem t9.nin{a:Nat}{u:HO}(m:t9 S H)(e:H a=some u)(n:¬ Mf (some u)):a∉S:=fun z=>n (by have:=m a z;rw[e] at this;exact this)
theorem uQ.tup{a:RY}{xs:List V}(m:t9 S H)(s:uQ S H H')(h:xn K H a xs):xn K H' a xs:=by
 rcases h with (h | ⟨o,h⟩) | h
 ·exact .inl (.inl (s _ _ (m.nin h fun z=>z) h))
 ·exact .inl (.inr ⟨o,s _ _ (m.nin h fun z=>z) h⟩)
 ·exact .inr h
theorem uQ.seq{a:RY}{xs:List V}(m:t9 S H)(s:uQ S H H')(h:wj K H a xs):wj K H' a xs:=by
 rcases h with (h | ⟨o,h⟩) | h
 ·exact .inl (.inl (s _ _ (m.nin h fun z=>z) h))
 ·exact .inl (.inr ⟨o,s _ _ (m.nin h fun z=>z) h⟩)
 ·exact .inr h
end
mutual
theorem Rep.kq{S:List Nat}{K:RW}{H H':Hp}(m:t9 S H)(s:uQ S H H'):∀{d:D} {v:V},uC d=true->Rep K H d v->Rep K H' d v
 | .non,_,_,h=>h
 | .bl _,_,_,h=>h
 | .int _,_,_,h=>h
 | .str _,_,_,h=>h
 | .tup ds,_,hn,h=>by
  obtain⟨a,xs,e,q,r⟩:=h
  exact⟨a,xs,e,s.tup m q,i5.kq m s hn r⟩
 | .lst ds,_,hn,h=>by
  obtain⟨a,xs,e,q,r⟩:=h
  exact⟨a,xs,e,s _ _ (m.nin q fun z=>z) q,i5.kq m s hn r⟩
 | .fro ds,_,hn,h=>by
  obtain⟨a,xs,e,q,r⟩:=h
  exact⟨a,xs,e,s.seq m q,i5.kq m s hn r⟩
 | .obj ..,_,hn,_=>by cases hn
 | .rf ..,_,hn,_=>by cases hn
theorem i5.kq{S:List Nat}{K:RW}{H H':Hp}(m:t9 S H)(s:uQ S H H'):∀{ds:LD} {vs:List V},n5 ds=true->i5 K H ds vs->i5 K H' ds vs
 | [],_,_,h=>h
 | d::ds,_,hn,h=>by
  have hn':(uC d&&n5 ds)=true:=hn
  rw[R1] at hn'
  obtain⟨v,r,e,q,t⟩:=h
  exact⟨v,r,e,Rep.kq m s hn'.1 q,i5.kq m s hn'.2 t⟩
end
section
variable{S T:List Nat}{H H' H1 H2:Hp}{K:RW}
theorem KI.mut{k a:Nat}{ks:List Str}{vs:List V}(h:KI H k a ks vs):Mf (H a):=by
 match k,h with
 | 0,⟨_,_,_,_,e⟩=>rw[e];trivial
 | 1,⟨_,e⟩=>rw[e];trivial
 | C+2,⟨_,_,e⟩=>rw[e];trivial
theorem i5.mem:∀{ds:LD} {vs:List V} {d:D},i5 K H ds vs->d∈ds->∃v,Rep K H d v
 | [],_,_,_,h=>by cases h
 | e::ds,vs,d,h,hd=>by
  obtain⟨v,r,_,q,t⟩:=h
  rcases Sf.mp hd with rfl | hd
  ·exact⟨v,q⟩
  ·exact i5.mem t hd
theorem xy{ob:D}{v:V}(r:Rep K H ob v):t9 (adr ob) H:=fun b hb=>by
 cases ob with
 | obj k a ks es =>
  obtain⟨xs,_,q,t⟩:=r
  rcases Sf.mp hb with rfl | hb
  ·exact q.mut
  ·obtain⟨e,he,hb⟩:=List.mem_flatMap.mp hb
   cases e with
   | obj k' a' ks' es' =>
    obtain⟨v',xs',_,q',_⟩:=i5.mem t he
    rw[show b=a' from R4.mp hb]
    exact q'.mut
   | _=>cases hb
 | _=>cases hb
theorem E1{as:List Nat}(h:AE S as=true):∀b∈as,b∈S:=fun b hb=>by
 have:=SF.mp h b hb
 simpa using this
theorem nS{ob:D}{v:V}(h:xF ob=true)(r:Rep K H ob v):v=.ref (Ad ob):=by
 cases ob with
 | obj k a ks es=>obtain⟨xs,e,_⟩:=r;exact e
 | _=>cases h
theorem qA{ρ:R}{σ:L2.St}{i:Nat}{ob':D}{v:V}(er:ut K H ρ σ)(m:t9 S H)(s:uQ S H H')(hn:uR i ρ=true)(hv:σ[i]?=some (some v))(r:Rep K H' ob' v):ut K H' (ρ.set i (some ob')) σ:=by
 refine⟨by rw[S4];exact er.1,fun j d h=>?_⟩
 by_cases hj:j=i
 ·subst hj
  have hl:j<ρ.length:=by have:=(Sg.mp h).1;simpa using this
  rw[SH hl] at h
  cases h
  exact⟨v,hv,r⟩
 ·rw[SM (Ne.symm hj)] at h
  obtain⟨u,h1,h2⟩:=er.2 j d h
  have hd:uj (some d)=true:=SF.mp hn _ (S_ (i:=j) (by rw[SM (Ne.symm hj)];exact h))
  exact⟨u,h1,Rep.kq m s hd h2⟩
theorem iN{ρ:R}{σ τ:L2.St}{i:Nat}{ob':D}{v:V}(er:uq K H ρ τ σ)(m:t9 S H)(s:uQ S H H')(hn:uR i ρ=true)(hv:σ[i]?=some (some v))(r:Rep K H' ob' v):uq K H' (ρ.set i (some ob')) τ σ:=
 ⟨qA er.1 m s hn hv r,by rw[S4];exact er.2⟩
def Mp(K:RW)(H:Hp)(ρ:R):Prop:=∀(j:Nat) (d:D),ρ[j]?=some (some d)->xF d=true->Rep K H d (.ref (Ad d))
theorem Mp.of{ρ:R}{σ:L2.St}(e:ut K H ρ σ):Mp K H ρ:=fun j d h ho=>by
 obtain⟨v,_,r⟩:=e.2 j d h
 rw[<- nS ho r];exact r
variable(K)
def O8(E:Ends)(τ:L2.St)(o:MO)(H':Hp):Prop:=
 match o with
 | .nx ρ=>∀ σ,uq K H' ρ τ σ->E.nx σ H'
 | .rt d ρ=>∀v,Rep K H' d v->Mp K H' ρ->E.rt v H'
def NE(S:List Nat)(u:MU):TS:=fun E σ H=>∃ ρ τ o,uq K H ρ τ σ/\t9 S H/\u S ρ=some o/\∀H',uQ S H H'->t9 S H'->O8 K E τ o H'
def zv(S:List Nat)(J:It)(ds:LD)(H:Hp):Prop:=
 (∀(i:Nat) (d:D) (H2:Hp),uQ S H H2->ds[i]?=some d->J.go i H2/\∀x H3,J.yld i H2 x H3->i6 H2 H3/\Rep K H3 d x)/\∀(i:Nat) (H2:Hp),uQ S H H2->ds.length<=i->J.stop i H2
def Rz(S:List Nat)(f:R->RT LD):L2.TI:=fun σ H W=>∃ ρ ds,ut K H ρ σ/\t9 S H/\f ρ=some ds/\n5 ds=true/\∀J H',i6 H H'->zv K S J ds H'->W J H'
def GO(j:Nat)(G:LD->RT (D×D)):Sp:=fun vs H Q _=>∃ds ob d o',i5 K H ds vs/\ds[j]?=some ob/\xF ob=true/\G ds=some (d,o')/\∀v H',uQ (adr ob) H H'->t9 (adr ob) H'->Rep K H' d v->Rep K H' o' (.ref (Ad ob))->Q v H'
end
def MS(X:Cx)(st:So)(u:MU):Prop:=∀S,PS X st (NE X.K S u)
def EL(X:Cx)(sts:List So)(u:MU):Prop:=∀S,PSs X sts (NE X.K S u)
def Qh(X:Cx)(tg iter:Sr)(f:R->RT LD):Prop:=∀S,PI X tg iter (Rz X.K S f)
section
variable{X:Cx}{st:So}{sts:List So}{u w:MU}{pos:Pos}
theorem IA{E:Ends}{σ:L2.St}{H:Hp}{K:RW}{S:List Nat}{p:R->RT Out}(q:NE K S (uK p) E σ H):Lf K p E σ H:=by
 obtain⟨ρ,τ,o,er,m,e,q⟩:=q
 obtain⟨o1,e1,e⟩:=h9 e
 refine⟨ρ,τ,o1,er,e1,fun H' s=>?_⟩
 cases o1 with
 | nx ρ2=>cases e;exact q H' (uQ.of s) (m.same s)
 | rt d=>cases e;exact fun v rv=>q H' (uQ.of s) (m.same s) v rv (Mp.of (er.mono s).1)
 | bk ρ2=>cases e
 | ct ρ2=>cases e
theorem bo{p:R->RT Out}(h:S1 X st p):MS X st (uK p):=fun S=>PS.imp h fun E σ H z=>IA z
theorem fZ:EL X [] wf:=fun S=>zH.imp fun E σ H ⟨ρ,τ,o,er,m,e,q⟩=>by
 cases e
 exact q H uQ.refl m σ er
theorem J6{E:Ends}{σ:L2.St}{H:Hp}{K:RW}{S:List Nat}(q:NE K S (u9 u w) E σ H):NE K S u {E with nx:=NE K S w E} σ H:=by
 obtain⟨ρ,τ,o,er,m,e,q⟩:=q
 obtain⟨o1,e1,e⟩:=h9 e
 refine⟨ρ,τ,o1,er,m,e1,fun H1 k1 m1=>?_⟩
 cases o1 with
 | nx ρ2=>exact fun σ2 er2=>⟨ρ2,τ,o,er2,m1,e,fun H2 k2 m2=>q H2 (k1.trans k2) m2⟩
 | rt d ρ2=>cases e;exact q H1 k1 m1
theorem aH(h1:MS X st u)(h2:EL X sts w):EL X (st::sts) (u9 u w):=fun S=>(dw (h1 S) (h2 S)).imp fun E σ H q=>J6 q
theorem bi(h1:MS X st u):EL X [st] u:=fun S=>c_ (h1 S)
theorem my{c:Sr}{s:R->RT Bool}{B1 B2:List So}(hc:ST X c s)(ha:EL X B1 u)(hb:EL X B2 w):MS X (.If c B1 B2 pos) (Cw s u w):=fun S=>(jw hc (ha S) (hb S)).imp fun E σ H ⟨ρ,τ,o,er,m,e,q⟩=>by
 obtain⟨x,e1,e⟩:=h9 e
 refine⟨ρ,x,er.1,e1,fun H1 s1=>?_⟩
 cases x with
 | true=>rw[R3 rfl] at e ⊢;exact⟨ρ,τ,o,er.mono s1,m.same s1,e,fun H2 k2 m2=>q H2 ((uQ.of s1).trans k2) m2⟩
 | false=>rw[Sa R6] at e ⊢;exact⟨ρ,τ,o,er.mono s1,m.same s1,e,fun H2 k2 m2=>q H2 ((uQ.of s1).trans k2) m2⟩
theorem mC{K:RW}{S:List Nat}{H:Hp}{a:RY}{ds:LD}{xs:List V}(m:t9 S H)(hn:n5 ds=true)(hq:xn K H a xs)(t:i5 K H ds xs):zv K S (PB K a) ds H:=by
 refine⟨fun i d H2 s2 e=>?_,fun i H2 s2 hl=>⟨xs,s2.tup m hq,by rw[<- t.length];exact hl⟩⟩
 obtain⟨v,h1,h2⟩:=(i5.kq m s2 hn t).get e
 refine⟨⟨xs,v,s2.tup m hq,h1⟩,fun x H3 ⟨e3,y⟩=>?_⟩
 subst e3
 have:=(y xs (s2.tup m hq)).symm.trans h1
 cases this
 exact⟨i6.refl _,h2⟩
theorem lG{K:RW}{S:List Nat}{H:Hp}{a:RY}{ds:LD}{xs:List V}(m:t9 S H)(hn:n5 ds=true)(hq:wj K H a xs)(t:i5 K H ds xs):zv K S (PK K a) ds H:=by
 refine⟨fun i d H2 s2 e=>?_,fun i H2 s2 hl=>⟨xs,s2.seq m hq,by rw[<- t.length];exact hl⟩⟩
 obtain⟨v,h1,h2⟩:=(i5.kq m s2 hn t).get e
 refine⟨⟨xs,v,s2.seq m hq,h1⟩,fun x H3 ⟨e3,y⟩=>?_⟩
 subst e3
 have:=(y xs (s2.seq m hq)).symm.trans h1
 cases this
 exact⟨i6.refl _,h2⟩
theorem mZ{K:RW}{S:List Nat}{H:Hp}{x:Str}:zv K S (Pa x) (chars x) H:=by
 have y:∀H,wW K (Pa x) (chars x) H:=fun H=>jJ
 exact⟨fun i d H2 _ e=>(y H2).1 i d H2 (Kp.refl H2) e,fun i H2 _ hl=>(y H2).2 i H2 (Kp.refl H2) hl⟩
theorem lW{K:RW}{S:List Nat}{H:Hp}{a b:Int}:zv K S (Nz a (b - a).toNat) (wQ a b) H:=by
 have y:∀H,wW K (Nz a (b - a).toNat) (wQ a b) H:=fun H=>iX
 exact⟨fun i d H2 _ e=>(y H2).1 i d H2 (Kp.refl H2) e,fun i H2 _ hl=>(y H2).2 i H2 (Kp.refl H2) hl⟩
theorem rK{tg a:Sr}{f:R->OD}(ha:SE X a f):Qh X tg a (vt f):=fun S=>(oj ha).imp fun σ H W ⟨ρ,ds,er,m,e,hn,q⟩=>by
 obtain⟨x,e1,e⟩:=h9 e
 refine⟨ρ,x,er,e1,fun v H1 s1 r1=>?_⟩
 have m1:=m.same s1
 cases x with
 | tup xs =>
  cases e
  obtain⟨a,vs,ev,hq,t⟩:=r1
  exact .inl ⟨a,ev,.inr ⟨⟨vs,hq⟩,q _ H1 s1 (mC m1 hn hq t)⟩⟩
 | lst xs =>
  cases e
  obtain⟨a,vs,ev,hq,t⟩:=r1
  exact .inl ⟨a,ev,.inl ⟨⟨vs,wj.of hq⟩,q _ H1 s1 (lG m1 hn (wj.of hq) t)⟩⟩
 | str z =>
  dsimp only at e
  split at e
  ·rename_i hz
   cases e
   cases (show v=_ from r1)
   exact .inr ⟨z,rfl,hz,q _ H1 s1 mZ⟩
  ·cases e
 | _=>cases e
theorem qB{tg a:Sr}{f:R->OD}{p:Pos}(hm:X.mg "range" = none)(ha:SE X a f)(hg:Gl X "range":=by rfl)(hs:noStar a=true:=by rfl):Qh X tg (.Call (.Name "range" p) [a] [] pos) (x6 f):=fun S =>
 (kt hg hm (ac ha af hs).1 (aF [] X.env hs)).imp fun σ H W ⟨ρ,ds,er,m,e,hn,q⟩=>by
  obtain⟨x,e1,e⟩:=h9 e
  cases x with
  | int j =>
   dsimp only at e
   split at e
   ·rename_i hj
    cases e
    refine⟨ρ,[.int j],er,by show(f ρ).bind _=_;rw[e1];rfl,fun vs H1 s1 r1=>?_⟩
    obtain⟨v,r,rfl,r2,r3⟩:=r1
    cases (show v=_ from r2)
    cases (show r=_ from r3)
    refine⟨j,rfl,hj.1,hj.2,q _ H1 s1 ?_⟩
    have z:=lW (K:=X.K) (S:=S) (H:=H1) (a:=0) (b:=j)
    rw[Int.sub_zero] at z
    exact z
   ·cases e
  | _=>cases e
theorem pZ{tg iter:Sr}{B:List So}{it:R->RT LD}{stf:D->R->RT R}(hp:PassesOwn (model X.prog X.w) X.A X.env X.xe)(hc:X.calm=true)(hi:Qh X tg iter it)(hg:SG X tg stf)(hb:EL X B u)
  (hs:∀x,foldedSetIterable iter X.env x=pure x:=by intro _;rfl):MS X (.For tg iter B [] pos) (Jg it stf u):=fun S=>(nQ hp hc (hi S) hg (hb S) hs).imp fun E σ H ⟨ρ,τ,o,er,m,e,q⟩=>by
 obtain⟨ds,e1,e⟩:=h9 e
 split at e
 case isFalse=>cases e
 case isTrue hn =>
 refine⟨ρ,ds,er.1,m,e1,hn,fun J H1 s1 y=>?_⟩
 refine⟨fun i n σ' H'=>n=ds.length - i/\i<=ds.length/\uQ S H1 H'/\t9 S H'/\∃ ρ',uq X.K H' ρ' τ σ'/\C5 stf u S (ds.drop i) ρ'=some o,⟨ds.length,by simp,SU _,uQ.refl,m.same s1,ρ,er.mono s1,by simpa using e⟩,?_⟩
 rintro i n σ' H' ⟨rfl,hi,s2,m2,ρ',er',e'⟩
 by_cases hlt:i<ds.length
 ·refine .inr ?_
  have hd:ds[i]?=some ds[i]:=by simp[hlt]
  obtain⟨hgo,hy⟩:=y.1 i ds[i] H' s2 hd
  rw[Tb hlt] at e'
  obtain⟨ρ1,e2,e'⟩:=h9 e'
  obtain⟨o1,e3,e'⟩:=h9 e'
  refine⟨hgo,fun σ2 H2=>i+1<=ds.length/\uQ S H1 H2/\t9 S H2/\∃ ρ',uq X.K H2 ρ' τ σ2/\C5 stf u S (ds.drop (i+1)) ρ'=some o,fun σ2 H2 n2=>⟨ds.length - (i+1),by omega,rfl,n2.1,n2.2⟩,fun x H3 yx=>?_⟩
  obtain⟨s3,rx⟩:=hy x H3 yx
  refine⟨ρ',τ,ds[i],ρ1,er'.mono s3,rx,e2,fun σ4 H4 s4 er4=>⟨ρ1,τ,o1,er4,(m2.same s3).same s4,e3,fun H5 s5 m5=>?_⟩⟩
  have s15:uQ S H1 H5:=s2.trans ((uQ.of s3).trans ((uQ.of s4).trans s5))
  cases o1 with
  | nx ρ2=>exact fun σ6 er6=>⟨hlt,s15,m5,ρ2,er6,e'⟩
  | rt d ρ2=>cases e';exact q H5 ((uQ.of s1).trans s15) m5
 ·have e4:i=ds.length:=by omega
  subst e4
  rw[List.drop_length] at e'
  cases e'
  exact .inl ⟨y.2 _ H' s2 (Se _),q H' ((uQ.of s1).trans s2) m2 σ' er'⟩
end
section
variable{K:RW}{H H':Hp}
theorem zY{x:Str}{d:D}:∀{ks:List Str} {ds:LD} {vs:List V},Bh ks ds x=some d->i5 K H ds vs->ks.length=vs.length->∃v,(ks.zip vs).lookup x=some v/\Rep K H d v
 | [],_,_,e,_,_=>by cases e
 | k::ks,[],_,e,_,_=>by cases e
 | k::ks,c::ds,vs,e,r,hl=>by
  obtain⟨v,vr,rfl,r1,r2⟩:=r
  have e':(if k=x then some c else Bh ks ds x)=some d:=e
  show ∃u,List.lookup x ((k,v)::ks.zip vr)=some u/\Rep K H d u
  by_cases h:k=x
  ·subst h
   rw[R3 rfl] at e'
   cases e'
   exact⟨v,by simp,r1⟩
  ·rw[Sa h] at e'
   obtain⟨u,h1,h2⟩:=zY e' r2 (by simpa using hl)
   refine⟨u,?_,h2⟩
   rw[List.lookup_cons]
   have hb:(x==k)=false:=SD.mpr (Ne.symm h)
   rw[hb];exact h1
theorem zK{x:Str}:∀{ks:List Str} {vs:List V},ks.contains x=false->(ks.zip vs).lookup x=none
 | [],_,_=>rfl
 | k::ks,[],_=>rfl
 | k::ks,v::vs,h=>by
  have h':(x==k||ks.contains x)=false:=by simpa [List.contains_cons] using h
  rw[Bool.or_eq_false_iff] at h'
  show List.lookup x ((k,v)::ks.zip vs)=none
  rw[List.lookup_cons,h'.1]
  exact zK h'.2
theorem Dc{x:Str}{e:D}{y:V}:∀{ks:List Str} {ds:LD} {vs:List V},ks.length=vs.length->ds.length=vs.length->∃vs',wu x y (ks.zip vs)=(putD ks ds x e).1.zip vs'/\(putD ks ds x e).1.length=vs'.length/\(i5 K H' ds vs->Rep K H' e y->i5 K H' (putD ks ds x e).2 vs')
 | [],[],[],_,_=>⟨[y],rfl,rfl,fun _ r=>⟨y,[],rfl,r,rfl⟩⟩
 | k::ks,d::ds,v::vs,h1,h2=>by
  obtain⟨vs',a,b,c⟩:=Dc (x:=x) (e:=e) (y:=y) (ks:=ks) (ds:=ds) (vs:=vs) (by simpa using h1) (by simpa using h2)
  by_cases h:k=x
  ·refine⟨y::vs,?_,?_,fun r re=>?_⟩
   ·show(if k=x then (k,y)::ks.zip vs else _)=(putD (k::ks) (d::ds) x e).1.zip _
    rw[R3 h,putD,R3 h];rfl
   ·rw[putD,R3 h];simpa using h1
   ·rw[putD,R3 h]
    obtain⟨u,r',q,r1,r2⟩:=r
    cases q
    exact⟨y,vs,rfl,re,r2⟩
  ·refine⟨v::vs',?_,?_,fun r re=>?_⟩
   ·show(if k=x then _ else (k,v)::wu x y (ks.zip vs))=(putD (k::ks) (d::ds) x e).1.zip _
    rw[Sa h,putD,Sa h,a];rfl
   ·rw[putD,Sa h];simpa using b
   ·rw[putD,Sa h]
    obtain⟨u,r',q,r1,r2⟩:=r
    cases q
    exact⟨_,vs',rfl,r1,c r2 re⟩
 | [],_::_,[],_,h=>by cases h
 | [],_,_::_,h,_=>by cases h
 | _::_,_,[],h,_=>by cases h
 | _::_,[],_::_,_,h=>by cases h
theorem rL{a C dx:Nat}{fs:List (Str×V)}{o:HO}(ha:H a=some (.ins C dx fs)):∀{d:D} {v:V},okN d=true->Rep K H d v->Rep K (upd H a o) d v:=by
 have m:t9 [a] H:=fun b hb=>by rw[R4.mp hb,ha];trivial
 have s:uQ [a] H (upd H a o):=fun b u n e=>by rw[aq fun z=>n (by rw[z];exact R4.mpr rfl)];exact e
 intro d v h r
 match d,h,r with
 | .obj 0 l ls es,h,⟨xs,e,⟨z,its,n,rv,q⟩,t⟩ =>
  have hla:l≠a:=fun z=>by rw[z,ha] at q;cases q
  exact⟨xs,e,⟨z,its,n,rv,by rw[aq hla];exact q⟩,i5.kq m s h t⟩
 | .obj (k+1) l ls es,h,_=>cases (show uC (.obj (k+1) l ls es)=true from h)
 | .rf a,h,_=>cases (show uC (.rf a)=true from h)
 | .non,_,r=>exact r
 | .bl _,_,r=>exact r
 | .int _,_,r=>exact r
 | .str _,_,r=>exact r
 | .tup ds,h,r=>exact Rep.kq m s (d:=.tup ds) h r
 | .lst ds,h,r=>exact Rep.kq m s (d:=.lst ds) h r
 | .fro ds,h,r=>exact Rep.kq m s (d:=.fro ds) h r
theorem mL{a C dx:Nat}{fs:List (Str×V)}{o:HO}(ha:H a=some (.ins C dx fs)):∀{ds:LD} {vs:List V},ds.all okN=true->i5 K H ds vs->i5 K (upd H a o) ds vs
 | [],_,_,r=>r
 | d::ds,_,h,r=>by
  rw[SL,R1] at h
  obtain⟨v,vr,e,r1,r2⟩:=r
  exact⟨v,vr,e,rL ha h.1 r1,mL ha h.2 r2⟩
theorem mB{d:D}(h:uC d=true):xV d=[]:=by cases d<;>first | rfl | cases h
end
section
variable{X:Cx}{pos:Pos}
theorem cB{a:Sr}{f:Str}{C:Nat}{g:R->OD}(c:yH X.K C)(n:t8 X.K C f)(ha:SE X a g)(hb:attributeBase a f X.env (eval a X.env)=eval a X.env:=by rfl):SE X (.Attribute a f pos) (w8 (u4 C f) g):=(nv ha hb).imp fun σ H Q ⟨ρ,d,er,e,q⟩=>by
 obtain⟨x,e1,e⟩:=h9 e
 refine⟨ρ,x,er,e1,fun v H1 s1 r1=>?_⟩
 cases x with
 | obj k a ks ds =>
  have e':(if k=C+2 then Bh ks ds f else none)=some d:=e
  split at e'
  ·rename_i hk
   subst hk
   obtain⟨xs,ev,⟨hl,dx,hH⟩,t⟩:=r1
   obtain⟨u,h1,h2⟩:=zY e' t hl
   exact⟨a,C,dx,_,u,ev,hH,c,n,h1,q u H1 s1 h2⟩
  ·cases e'
 | _=>cases e
theorem ek{x f:Str}{value:Sr}{g:R->OD}{C:Nat}{px pos':Pos}(i:Nat)(c:yH X.K C)(n:t8 X.K C f)(he:SE X value g)(hN:X.N[i]?=some x:=by rfl)(hv:B0 X.env.scope x:=by first | exact Or.inl rfl | exact Or.inr (Or.inl rfl) | exact Or.inr (Or.inr rfl))
  (hd:(x==("__debug__" : Str))=false:=by decide) (hcd:(x==("__classdict__" : Str))=false:=by decide) (hs:swapsWith value (some (.Attribute (.Name x px) f pos')) pos.line X.env=pure false:=by rfl):MS X (.Assign [.Attribute (.Name x px) f pos'] value pos) (wZ i C f g):=fun S =>
 (p_ (pv i hN hv hd hcd) he hs).imp fun E σ H ⟨ρ,τ,o,er,m,e,q⟩=>by
  obtain⟨d,e1,e⟩:=h9 e
  refine⟨ρ,d,er.1,e1,fun y H1 s1 ry=>?_⟩
  split at e
  case h_2=>cases e
  case h_1 k a ks ds hat =>
  split at e
  case isFalse=>cases e
  case isTrue hc =>
  obtain⟨rfl,h1,h2,h3,h4,h5,h6⟩:=hc
  cases e
  obtain⟨v,hσ,rv⟩:=(er.mono s1).1.at hat
  obtain⟨xs,ev,⟨hl,dx,hH⟩,t⟩:=rv
  subst ev
  have hdl:ds.length=xs.length:=t.length
  refine⟨.ref a,hσ,a,C,dx,_,rfl,hH,c,n,?_,?_⟩
  ·rw[List.length_zip];omega
  have ma:t9 [a] H1:=fun b hb=>by rw[R4.mp hb,hH];trivial
  generalize ho:HO.ins C dx (wu f y (ks.zip xs))=o'
  have kq:uQ [a] H1 (upd H1 a o'):=fun b u nb eb=>by rw[aq fun z=>nb (by rw[z];exact R4.mpr rfl)];exact eb
  obtain⟨vs',p1,p2,p3⟩:=Dc (K:=X.K) (H':=upd H1 a o') (x:=f) (e:=d) (y:=y) (ks:=ks) (ds:=ds) (vs:=xs) hl hdl
  have rob:Rep X.K (upd H1 a o') (.obj (C+2) a (putD ks ds f d).1 (putD ks ds f d).2) (.ref a):=by
   refine⟨vs',rfl,⟨p2,dx,?_⟩,p3 (mL hH h5 t) (Rep.kq ma kq h1 ry)⟩
   rw[au,<- ho,p1]
  have hin:=E1 h3
  have haS:a∈S:=hin a (SY ..)
  have kqS:uQ S H1 (upd H1 a o'):=kq.mono fun b hb=>by rw[R4.mp hb];exact haS
  have m1:=m.same s1
  have mS:t9 S (upd H1 a o'):=fun b hb=>by
   by_cases hba:b=a
   ·rw[hba,au,<- ho];trivial
   ·rw[aq hba];exact m1 b hb
  exact q _ ((uQ.of s1).trans kqS) mS σ (iN (er.mono s1) m1 kqS h2 hσ rob)
section
variable{pins:List (RY×Obj)}{σ:L2.St}{H:Hp}{s:RX}{a:RY}{xs:List V}{its:List RU}{n:Nat}
theorem Ge(I:L2.Inv X pins σ H s)(h:H a=some (.frz {cls:=.type "list",data:=.seq its.toArray n} (.own 0)))(r:l6 xs its)(z:xs.length<=sizeLine):L2.Inv X pins σ (upd H a (.lst xs)) s:=by
 have e:=(I.hok a _ h).1
 have:=I.write (t':=s.toks) (h':=s.heap) (o:=.lst xs) (x:=a) (e:=a) (by rw[h];trivial) (.inl rfl) (fun _ _ _ q=>q) ⟨_,e⟩ ⟨z,its,n,r,e⟩
 exact this
theorem Do(I:L2.Inv X pins σ H s)(h:H a=some (.lst xs)):∃(its:List RU) (n:Nat),l6 xs its/\xs.length<=sizeLine/\L2.Inv X pins σ (upd H a (.frz {cls:=.type "list",data:=.seq its.toArray n} (.own 0))) s:=by
 obtain⟨z,its,n,r,e⟩:=I.hok a _ h
 have:=I.write (t':=s.toks) (h':=s.heap) (o:=.frz {cls:=.type "list",data:=.seq its.toArray n} (.own 0)) (x:=a) (e:=a) (by rw[h];trivial) (.inl rfl) (fun _ _ _ q=>q) ⟨_,e⟩ ⟨e,⟨_,e⟩⟩
 exact⟨its,n,r,z,this⟩
end
end
section
variable{K:RW}{H H':Hp}
theorem i5.kqf(kq:∀{d:D} {v:V},uC d=true->Rep K H d v->Rep K H' d v):∀{ds:LD} {vs:List V},n5 ds=true->i5 K H ds vs->i5 K H' ds vs
 | [],_,_,r=>r
 | d::ds,_,h,r=>by
  have h':(uC d&&n5 ds)=true:=h
  rw[R1] at h'
  obtain⟨v,vr,e,r1,r2⟩:=r
  exact⟨v,vr,e,kq h'.1 r1,i5.kqf kq h'.2 r2⟩
theorem gL{x:Str}{e e':D}{y:V}:∀{ks:List Str} {ds:LD} {vs:List V},Bh ks ds x=some e->(ks.zip vs).lookup x=some y->i5 K H ds vs->ks.length=vs.length->n5 (putD ks ds x .non).2=true ->
  (∀{d:D} {v:V},uC d=true->Rep K H d v->Rep K H' d v)->Rep K H' e' y->(putD ks ds x e').1=ks/\i5 K H' (putD ks ds x e').2 vs
 | [],_,_,h,_,_,_,_,_,_=>by cases h
 | k::ks,[],_,h,_,_,_,_,_,_=>by cases h
 | k::ks,c::ds,vs,h,hl,r,hn,hb,kq,re=>by
  obtain⟨v,vr,rfl,r1,r2⟩:=r
  have h':(if k=x then some c else Bh ks ds x)=some e:=h
  have hl':List.lookup x ((k,v)::ks.zip vr)=some y:=hl
  by_cases hx:k=x
  ·subst hx
   rw[putD,R3 rfl] at hb ⊢
   have hb':(uC D.non&&n5 ds)=true:=hb
   rw[R1] at hb'
   have:v=y:=by simpa using hl'
   subst this
   exact⟨rfl,v,vr,rfl,re,i5.kqf kq hb'.2 r2⟩
  ·rw[Sa hx] at h'
   rw[putD,Sa hx] at hb ⊢
   have hb':(uC c&&n5 (putD ks ds x .non).2)=true:=hb
   rw[R1] at hb'
   have hxk:(x==k)=false:=SD.mpr (Ne.symm hx)
   rw[List.lookup_cons,hxk] at hl'
   obtain⟨g1,g2⟩:=gL h' hl' r2 (by simpa using hn) hb'.2 kq re
   exact⟨by show k::(putD ks ds x e').1=_;rw[g1],v,vr,rfl,kq hb'.1 r1,g2⟩
end
theorem AR{i:Nat}{ρ:R}{d:D}(h:c5 i ρ=some d):ρ[i]?=some (some d):=by
 have h:ρ.getD i none=some d:=h
 rw[SJ] at h
 cases e:ρ[i]? with
 | none=>rw[e] at h;cases h
 | some o=>rw[e] at h;cases o with | none=>cases h | some c=>cases h;rfl
theorem AG{a b:D}(h1:xF a=true)(h2:xF b=true)(h:adr a=adr b):Ad a=Ad b:=by
 cases a with
 | obj k x ks ds =>
  cases b with
  | obj k' y ks' ds'=>exact(List.cons.inj h).1
  | _=>cases h2
 | _=>cases h1
section
variable{X:Cx}{pos:Pos}
theorem tz{x f:Str}{value:Sr}{g:R->OD}{C:Nat}{px pf ap cp:Pos}(i:Nat)(c:yH X.K C)(n:t8 X.K C f)(he:SE X value g)(hN:X.N[i]?=some x:=by rfl)(hv:B0 X.env.scope x:=by first | exact Or.inl rfl | exact Or.inr (Or.inl rfl) | exact Or.inr (Or.inr rfl))
  (hd:(x==("__debug__" : Str))=false:=by decide) (hcd:(x==("__classdict__" : Str))=false:=by decide) (hb1:attributeBase (.Name x px) f X.env (eval (.Name x px) X.env)=eval (.Name x px) X.env:=by rfl)
  (hbase:attributeBase (.Attribute (.Name x px) f pf) "append" X.env (eval (.Attribute (.Name x px) f pf) X.env)=eval (.Attribute (.Name x px) f pf) X.env:=by rfl) (hst:noStar value=true:=by rfl)
  (hline:(ap.endLine==cp.line)=true:=by rfl) (hs:swapsWith (.Call (.Attribute (.Attribute (.Name x px) f pf) "append" ap) [value] [] cp) none pos.line X.env=pure false:=by rfl) :
  MS X (.Expr (.Call (.Attribute (.Attribute (.Name x px) f pf) "append" ap) [value] [] cp) pos) (JZ i C f g):=by
 intro S pins s σ H E I ⟨ρ,τ,o,er,m,e,q⟩
 obtain⟨d,e1,e⟩:=h9 e
 split at e
 case h_2=>cases e
 case h_1 k a ks ds hat =>
 split at e
 case h_2=>cases e
 case h_1 l ls es hkey =>
 split at e
 case isFalse=>cases e
 case isTrue hc =>
 obtain⟨rfl,h1,h2,h3,h4,h5,h6,h7⟩:=hc
 cases e
 have hst1:=aF [] X.env hst
 obtain⟨v,hσ,rv⟩:=er.1.at hat
 obtain⟨xs,ev,⟨hl,dx,hH⟩,t⟩:=rv
 subst ev
 obtain⟨y,hlk,ry⟩:=zY hkey t hl
 obtain⟨ys,ey,⟨hz,its,nn,rv,hL⟩,ty⟩:=ry
 subst ey
 refine wpAny_Expr_any (wpAny_Call_method_late hbase ?_ hline rfl (uo ((nv (pv i (pos:=px) hN hv hd hcd) hb1) pins s σ H (fun v H1=>v=.ref l/\H1=H) I ⟨.ref a,hσ,a,C,dx,_,.ref l,rfl,hH,c,n,hlk,rfl,rfl⟩) fun v s1 ⟨y,H1,I1,r1,ey,eH⟩=>?_)) I.quiet hs
 ·rw[hst1]
  rfl
 subst ey eH
 cases (show v=_ from r1)
 have eo:=(I1.hok l _ hL).1
 refine⟨"list","list.append",PySem.F.plainAttrs_list,PySem.F.slot_list_append,PySem.F.type_list_append,⟨_,eo,rfl⟩,fun b eb=>?_,?_⟩
 ·cases eb
  exact⟨_,eo,rfl⟩
 have hA:=(ac he af hst).1 cp pins s1 σ H1 (fun vs H2=>i6 H1 H2/\i5 X.K H2 [d] vs) I1 ⟨ρ,[d],er.1,by show(g ρ).bind _=_;rw[e1];rfl,fun vs H2 s2 r2=>⟨s2,r2⟩⟩
 rw[hst1] at hA ⊢
 refine Calls.callWith_builtin rfl (Calls.evalArgs_plain ?_)
 refine uo hA fun us s2 ⟨vs,H2,I2,r2,s12,rd⟩=>?_
 obtain⟨w,w',rfl,rw1,rw2⟩:=rd
 cases (show w'=[] from rw2)
 have hL2:=s12 _ _ hL
 have hH2:=s12 _ _ hH
 have I3:=Ge I2 hL2 rv hz
 have hys:es.length=ys.length:=ty.length
 refine uo (kA pins s2 σ (upd H2 l (.lst ys)) (.ref l) [w] (.ref l) us (fun v H3=>H3=upd (upd H2 l (.lst ys)) l (.lst (ys++[w]))) I3 rfl r2 ⟨l,ys,w,rfl,rfl,au,by rw[<- hys,sizeLine_eq];omega,rfl⟩) fun v s3 ⟨v',H3,I4,_,e3⟩=>?_
 subst e3
 obtain⟨its',n',rv',hz',I5⟩:=Do I4 au
 generalize hH5:upd (upd (upd H2 l (.lst ys)) l (.lst (ys++[w]))) l (.frz {cls:=.type "list",data:=.seq its'.toArray n' } (.own 0))=H5 at I5
 have k25:uQ [l] H2 H5:=fun b u nb eb=>by
  have hbl:b≠l:=fun z=>nb (by rw[z];exact R4.mpr rfl)
  subst hH5
  rw[aq hbl,aq hbl,aq hbl];exact eb
 have hL5:H5 l=some (.frz {cls:=.type "list",data:=.seq its'.toArray n' } (.own 0)):=by subst hH5;exact au
 have ml:t9 [l] H2:=fun b hb=>by rw[R4.mp hb,hL2];trivial
 have hla:a≠l:=fun z=>by rw[z,hL2] at hH2;cases hH2
 have hH5a:H5 a=some (.ins C dx (ks.zip xs)):=k25 a _ (fun z=>hla (R4.mp z)) hH2
 have kq:∀{d:D} {v:V},uC d=true->Rep X.K H2 d v->Rep X.K H5 d v:=fun hn r=>Rep.kq ml k25 hn r
 have rl:Rep X.K H5 (.obj 0 l ls (es++[d])) (.ref l):=by
  refine⟨ys++[w],rfl,⟨hz',its',n',rv',hL5⟩,?_⟩
  exact i5.append (i5.kq ml k25 h5 (ty.mono s12)) (i5.one (kq h1 rw1))
 obtain⟨g1,g2⟩:=gL hkey hlk (t.mono s12) hl h6 kq rl
 have rob:Rep X.K H5 (.obj (C+2) a (putD ks ds f (.obj 0 l ls (es++[d]))).1 (putD ks ds f (.obj 0 l ls (es++[d]))).2) (.ref a):=by
  rw[g1]
  exact⟨xs,rfl,⟨hl,dx,hH5a⟩,g2⟩
 have hlS:l∈S:=by simpa using h7
 have kqS:uQ S H2 H5:=k25.mono fun b hb=>by rw[R4.mp hb];exact hlS
 have m2:=m.same s12
 have mS:t9 S H5:=fun b hb=>by
  by_cases hbl:b=l
  ·rw[hbl,hL5];trivial
  ·have hm:=m2 b hb
   cases hb2:H2 b with
   | none=>rw[hb2] at hm;exact hm.elim
   | some u=>rw[k25 b u (fun z=>hbl (R4.mp z)) hb2];rw[hb2] at hm;exact hm
 exact⟨σ,H5,I5,q H5 ((uQ.of s12).trans kqS) mS σ (iN (er.mono s12) m2 kqS h2 hσ rob)⟩
structure EW (P:R9) (w:Sk) (K:RW) (mg:Str->RT RU) (base:Sq) (k:Nat) (x:Str) (ps:List Str) (j:Nat) (G:LD->RT (D×D)):Prop where
 ex:∃f fd,k6 P w K mg base ue k f fd ps (GO K j G)/\mg x=some (.ref f)/\W.keepIn K (.ref f)=true/\Binds K fd ps []
structure yW (P:R9) (w:Sk) (K:RW) (mg:Str->RT RU) (base:Sq) (k C:Nat) (m:Str) (ps:List Str) (G:LD->RT (D×D)):Prop where
 ex:∃f fd,k6 P w K mg base ue k f fd ps (GO K 0 G)/\DX K C m f/\Binds K fd ps []
structure AB (P:R9) (w:Sk) (K:RW) (mg:Str->RT RU) (base:Sq) (k C:Nat) (m:Str) (ps:List Str) (G:LD->OD):Prop where
 ex:∃f fd,k6 P w K mg base ue k f fd ps (uP K G)/\DX K C m f/\Binds K fd ps []
theorem EW.m{P:R9}{w:Sk}{K:RW}{mg:Str->RT RU}{base:Sq}{k k':Nat}{x:Str}{ps:List Str}{j:Nat}{G:LD->RT (D×D)}(h:EW P w K mg base k x ps j G)(hk:k<=k':=by decide):EW P w K mg base k' x ps j G:=by
 obtain⟨f,fd,a,b⟩:=h.ex
 exact⟨f,fd,a.mono hk,b⟩
theorem yW.m{P:R9}{w:Sk}{K:RW}{mg:Str->RT RU}{base:Sq}{k k' C:Nat}{x:Str}{ps:List Str}{G:LD->RT (D×D)}(h:yW P w K mg base k C x ps G)(hk:k<=k':=by decide):yW P w K mg base k' C x ps G:=by
 obtain⟨f,fd,a,b⟩:=h.ex
 exact⟨f,fd,a.mono hk,b⟩
theorem AB.m{P:R9}{w:Sk}{K:RW}{mg:Str->RT RU}{base:Sq}{k k' C:Nat}{x:Str}{ps:List Str}{G:LD->OD}(h:AB P w K mg base k C x ps G)(hk:k<=k':=by decide):AB P w K mg base k' C x ps G:=by
 obtain⟨f,fd,a,b⟩:=h.ex
 exact⟨f,fd,a.mono hk,b⟩
theorem fX{P:R9}{w:Sk}{K:RW}{mg:Str->RT RU}{base:Sq}{x qual:Str}{st:So}{f:RY}{fd:SV}{N ps:List Str}{k j:Nat}{g:MU}
  (Fn:uv K x qual st f fd) (Sc:c9 N ps (c6 st))
  (hb:∀(cdv:RU) (A:Sv) (outer:List Env) (s:RX) (H:Hp) (E:XK),ua k (A.deeper (envOfC qual (c6 st) s.heap.objs.size f cdv))->EL (yj ue P w K mg base N qual (c6 st) f cdv A outer s H E).nox (uh st) g) :
  k6 P w K mg base ue (k+1) f fd ps (GO K j (C6 ps.length N.length j g)):=by
 refine Fn.ok Sc (fun vs H Q E h=>?_) (fun cdv A outer s H vs Q E hr h=>?_)
 ·obtain⟨ds,ob,d,o',r,hj,ho,e,_⟩:=h
  rw[<- r.length]
  unfold C6 at e
  split at e
  ·assumption
  ·cases e
 ·obtain⟨ds,ob,d,o',r,hj,ho,e,q⟩:=h
  unfold C6 at e
  split at e
  case isFalse=>cases e
  case isTrue hlen =>
  rw[hj,RZ,R3 ho] at e
  obtain⟨mo,e1,e⟩:=h9 e
  obtain⟨v,hv,rv⟩:=r.get hj
  have ms:=xy rv
  refine⟨_,hb cdv A outer s H E hr (adr ob),AO N.length ds,_,mo,(zU r).t,ms,e1,fun H1 k1 m1=>?_⟩
  cases mo with
  | rt d' ρ =>
   intro v rv ob1
   obtain⟨ob',e2,e⟩:=h9 e
   split at e
   ·rename_i hc
    obtain⟨rfl,rfl⟩:d'=d/\ob'=o':=by simpa using e
    have hat:ρ[j]?=some (some ob'):=AR e2
    have rr:=ob1 j ob' hat hc.1
    have ha:Ad ob'=Ad ob:=AG hc.1 ho hc.2
    rw[ha] at rr
    exact q v H1 k1 m1 rv rr
   ·cases e
  | nx ρ =>
   intro σ' er'
   obtain⟨ob',e2,e⟩:=h9 e
   split at e
   ·rename_i hc
    obtain⟨rfl,rfl⟩:D.non=d/\ob'=o':=by simpa using e
    have hat:ρ[j]?=some (some ob'):=AR e2
    have rr:=(Mp.of er'.1) j ob' hat hc.1
    have ha:Ad ob'=Ad ob:=AG hc.1 ho hc.2
    rw[ha] at rr
    exact q .non H1 k1 m1 rfl rr
   ·cases e
end
section
variable{X:Cx}{pos:Pos}
theorem E8{K:RW}{S:List Nat}{H H1 H2:Hp}{ρ:R}{σ τ:L2.St}{i:Nat}{ob o':D}(er:uq K H ρ τ σ)(m:t9 S H)(hat:c5 i ρ=some ob)(ho:xF ob=true)(hn:uR i ρ=true)(hin:AE S (adr ob)=true)(s1:i6 H H1)(kq:uQ (adr ob) H1 H2)(m2:t9 (adr ob) H2)
  (r:Rep K H2 o' (.ref (Ad ob))):uQ S H H2/\t9 S H2/\uq K H2 (ρ.set i (some o')) τ σ:=by
 have sub:=E1 hin
 have kS:uQ S H1 H2:=kq.mono sub
 have m1:=m.same s1
 have mS:t9 S H2:=fun b hb=>by
  by_cases hba:b∈adr ob
  ·exact m2 b hba
  ·have hm:=m1 b hb
   cases e:H1 b with
   | none=>rw[e] at hm;exact hm.elim
   | some u=>rw[kq b u hba e];rw[e] at hm;exact hm
 obtain⟨v,hσ,rv⟩:=(er.mono s1).1.at hat
 rw[nS ho rv] at hσ
 exact⟨(uQ.of s1).trans kS,mS,iN (er.mono s1) m1 kS hn hσ r⟩
variable{x:Str}{e:Sr}{es:List Sr}{F:R->RT LD}{G:LD->RT (D×D)}{k j:Nat}{ps:List Str}{p:Pos}
theorem K8{i:Nat}{F:R->RT LD}:∀ ρ ds ob,c4 (c5 i) F ρ=some ds->c5 i ρ=some ob->ds[0]?=some ob:=fun ρ ds ob h1 h2=>by
 obtain⟨d,e1,e2⟩:=h9 h1
 obtain⟨r,_,rfl⟩:=t7 e2
 rw[h2] at e1;cases e1;rfl
theorem Eb{F:R->RT LD}{G:LD->RT (D×D)}{S:List Nat}{i C:Nat}{mn:Str}{ρ ρ':R}{σ τ:L2.St}{H:Hp}{d:D}{Q:VK}(er:uq X.K H ρ τ σ)(m:t9 S H)(e:wR i C mn G F S ρ=some (d,ρ'))
  (q:∀v H',uQ S H H'->t9 S H'->Rep X.K H' d v->uq X.K H' ρ' τ σ->Q v H'):IK C mn (GO X.K 0 G) [] E0 (MZ i) (Oq X.K F) σ H Q:=by
 obtain⟨ob,hat,z1⟩:=h9 e
 obtain⟨ds,e1,z2⟩:=h9 z1
 obtain⟨r,e2,z3⟩:=h9 z2
 clear e z1 z2
 match ob,z3 with
 | .obj kk a ks es',z3 =>
  have z4:(if kk=C+2/\ks.contains mn=false/\uR i ρ=true/\AE S (adr (.obj kk a ks es'))=true then some (r.1,ρ.set i (some r.2)) else none)=some (d,ρ'):=z3
  split at z4
  case isFalse=>cases z4
  case isTrue hc =>
  obtain⟨rfl,hk,hn,hin⟩:=hc
  obtain⟨rfl,rfl⟩:r.1=d/\ρ.set i (some r.2)=ρ':=by simpa using z4
  obtain⟨v,hσ,rv⟩:=er.1.at hat
  have rv':=rv
  obtain⟨xs,ev,⟨hl,dx,hH⟩,t⟩:=rv
  subst ev
  refine⟨.ref a,hσ,a,dx,_,rfl,hH,zK hk,ρ,ds,er.1,e1,fun vs H1 s1 r1=>?_⟩
  show GO X.K 0 G (.ref a::(vs++[])) H1 Q E0
  rw[Sw]
  refine⟨.obj (C+2) a ks es'::ds,_,r.1,r.2,⟨_,vs,rfl,rv'.mono s1,r1⟩,rfl,rfl,e2,fun v H2 kq m2 rd ro=>?_⟩
  obtain⟨aa,b,c⟩:=E8 er m hat rfl hn hin s1 kq m2 ro
  exact q v H2 aa b rd c
variable{C:Nat}{mn:Str}{apos:Pos}
theorem nJ (i:Nat) (c:yH X.K C) (M:yW X.prog X.w X.K X.mg X.base k C mn ps G) (hr:ua k X.A) (ha:SA X (e::es) F) {px pos':Pos} (hN:X.N[i]?=some x:=by rfl) (hv:B0 X.env.scope x:=by first | exact Or.inl rfl | exact Or.inr (Or.inl rfl) | exact Or.inr (Or.inr rfl))
    (hd:(x==("__debug__" : Str))=false:=by decide) (hcd:(x==("__classdict__" : Str))=false:=by decide) {pl:Sem Bool}
    (ht:eval (.Call (.Attribute (.Name x px) mn apos) (e::es) [] pos) X.env=(do
      let ov <- eval (.Name x px) X.env
      standAt apos.atName
      let (f,first) <- holding [ov] (getMethod ov mn pl)
      callWith pos f first (backTo pos (starEach (e::es) X.env)) (backToKw pos (keywordEach [] X.env))):=by rfl)
    (hs:swapsWith (.Call (.Attribute (.Name x px) mn apos) (e::es) [] pos) none pos'.line X.env=pure false:=by rfl):MS X (.Expr (.Call (.Attribute (.Name x px) mn apos) (e::es) [] pos) pos') (A_ (wR i C mn G F)):=by
  have hst:=ha.2.2
  rw[SL,R1] at hst
  have he:=aF es X.env hst.1
  have hpl:=bv (pos:=pos) (env:=X.env) hst.2
  obtain⟨f,fd,a,hm,bd⟩:=M.ex
  refine fun S=>(oZ (oG (pv i hN hv hd hcd) c hm a hr bd .nil ym ha.1 he hpl ht) hs).imp fun E σ H ⟨ρ,τ,o,er,m,e,q⟩=>?_
  obtain⟨r,e1,rfl⟩:=t7 e
  exact Eb er m e1 fun v H' kq mS _ er'=>q H' kq mS σ er'
theorem lb (i:Nat) (c:yH X.K C) (M:yW X.prog X.w X.K X.mg X.base k C mn ps G) (hr:ua k X.A) (ha:SA X (e::es) F) {px pos':Pos} (hN:X.N[i]?=some x:=by rfl) (hv:B0 X.env.scope x:=by first | exact Or.inl rfl | exact Or.inr (Or.inl rfl) | exact Or.inr (Or.inr rfl))
    (hd:(x==("__debug__" : Str))=false:=by decide) (hcd:(x==("__classdict__" : Str))=false:=by decide) {pl:Sem Bool}
    (ht:eval (.Call (.Attribute (.Name x px) mn apos) (e::es) [] pos) X.env=(do
      let ov <- eval (.Name x px) X.env
      standAt apos.atName
      let (f,first) <- holding [ov] (getMethod ov mn pl)
      callWith pos f first (backTo pos (starEach (e::es) X.env)) (backToKw pos (keywordEach [] X.env))):=by rfl):MS X (.Return (some (.Call (.Attribute (.Name x px) mn apos) (e::es) [] pos)) pos') (CW (wR i C mn G F)):=by
  have hst:=ha.2.2
  rw[SL,R1] at hst
  have he:=aF es X.env hst.1
  have hpl:=bv (pos:=pos) (env:=X.env) hst.2
  obtain⟨f,fd,a,hm,bd⟩:=M.ex
  refine fun S=>(lL (oG (pv i hN hv hd hcd) c hm a hr bd .nil ym ha.1 he hpl ht)).imp fun E σ H ⟨ρ,τ,o,er,m,e,q⟩=>?_
  obtain⟨r,e1,rfl⟩:=t7 e
  exact Eb er m e1 fun v H' kq mS rd er'=>q H' kq mS v rd (Mp.of er'.1)
theorem eh {a:Sr} {f:R->OD} {G:LD->OD} (c:yH X.K C) (M:AB X.prog X.w X.K X.mg X.base k C mn ps G) (hr:ua k X.A) (ha:SE X a f) {pl:Sem Bool}
    (ht:eval (.Call (.Attribute a mn apos) [] [] pos) X.env=(do
      let ov <- eval a X.env
      standAt apos.atName
      let (f,first) <- holding [ov] (getMethod ov mn pl)
      callWith pos f first (backTo pos (starEach [] X.env)) (backToKw pos (keywordEach [] X.env))):=by rfl):SE X (.Call (.Attribute a mn apos) [] [] pos) (Dd C mn G f c7):=by
  obtain⟨fa,fd,F,hm,bd⟩:=M.ex
  refine(mt ha c hm F hr bd .nil ym ht).imp fun σ H Q ⟨ρ,d,er,e,q⟩=>?_
  obtain⟨ob,e1,z1⟩:=h9 e
  obtain⟨ds,e2,z2⟩:=h9 z1
  cases e2
  refine⟨ρ,ob,er,e1,fun v H1 s1 r1=>?_⟩
  clear e z1
  match ob,z2,r1 with
  | .obj kk a ks es',z2,r1 =>
    have e:(if kk=C+2/\ks.contains mn=false then G [.obj kk a ks es'] else none)=some d:=z2
    split at e
    case isFalse=>cases e
    case isTrue hc =>
    obtain⟨rfl,hk⟩:=hc
    have r1':=r1
    obtain⟨xs,ev,⟨hl,dx,hH⟩,t⟩:=r1
    subst ev
    exact⟨a,dx,_,rfl,hH,zK hk,⟨[.obj (C+2) a ks es'],d,⟨_,[],rfl,r1',rfl⟩,e,fun u H2 s2 r2=>q u H2 (s1.trans s2) r2⟩⟩
end
theorem Gb{N C:Nat}{f:Str}{g:MU}{ds:LD}{a l:Nat}{ob:D}(h:yk N C f g ds a l=some ob):∃ ρ ks es,g [a] (AO N (.obj (C+2) a [] []::ds))=some (.nx ρ)/\c5 0 ρ=some (.obj (C+2) a ks es)/\n5 es=true/\ks.length<100/\ob=.obj (C+2) a (putD ks es f (.obj 0 l [] [])).1 (putD ks es f (.obj 0 l [] [])).2:=by
 obtain⟨mo,e1,e⟩:=h9 h
 match mo,e1,e with
 | .rt d ρ,e1,e=>cases e
 | .nx ρ,e1,e =>
  have e':(match c5 0 ρ with | some (.obj k b ks es)=>if k=C+2/\b=a/\n5 es=true/\ks.length<100 then some (D.obj k b (putD ks es f (.obj 0 l [] [])).1 (putD ks es f (.obj 0 l [] [])).2) else none | _=>none)=some ob:=e
  cases hat:c5 0 ρ with
  | none=>rw[hat] at e';cases e'
  | some obx =>
   rw[hat] at e'
   cases obx with
   | obj kk b ks es =>
    dsimp only at e'
    split at e'
    case isFalse=>cases e'
    case isTrue hc =>
    obtain⟨rfl,rfl,hn,hk⟩:=hc
    cases e'
    exact⟨ρ,ks,es,e1,hat,hn,hk,rfl⟩
   | _=>cases e'
theorem CJ{N C:Nat}{f:Str}{g:MU}{ds:LD}{a l:Nat}{ob:D}(h:yk N C f g ds a l=some ob)(l':Nat):(yk N C f g ds a l').isSome=true:=by
 obtain⟨ρ,ks,es,e1,hat,hn,hk,_⟩:=Gb h
 have:yk N C f g ds a l'=some (.obj (C+2) a (putD ks es f (.obj 0 l' [] [])).1 (putD ks es f (.obj 0 l' [] [])).2):=by
  show(g [a] (AO N (.obj (C+2) a [] []::ds))).bind _=_
  rw[e1,RZ]
  show(match c5 0 ρ with | some (.obj k b ks es)=>if k=C+2/\b=a/\n5 es=true/\ks.length<100 then some (D.obj k b (putD ks es f (.obj 0 l' [] [])).1 (putD ks es f (.obj 0 l' [] [])).2) else none | _=>none)=_
  rw[hat]
  exact R3 ⟨rfl,rfl,hn,hk⟩
 rw[this];rfl
theorem kr{es:LD}(h:n5 es=true):es.flatMap xV=[]:=by
 induction es with
 | nil=>rfl
 | cons d es ih =>
  have h':(uC d&&n5 es)=true:=h
  rw[R1] at h'
  show xV d++es.flatMap xV=[]
  rw[mB h'.1,ih h'.2];rfl
theorem mX{x:Str}{l:Nat}:∀{ks:List Str} {ds:LD},n5 ds=true->(putD ks ds x (.obj 0 l [] [])).2.flatMap xV=[l]
 | [],ds,h=>by
  have:(putD [] ds x (.obj 0 l [] [])).2=ds++[.obj 0 l [] []]:=by cases ds<;>rfl
  rw[this,List.flatMap_append,kr h];rfl
 | k::ks,[],h=>rfl
 | k::ks,c::ds,h=>by
  have h':(uC c&&n5 ds)=true:=h
  rw[R1] at h'
  by_cases hx:k=x
  ·rw[putD,R3 hx]
   show [l]++ds.flatMap xV=[l]
   rw[kr h'.2];rfl
  ·rw[putD,Sa hx]
   show xV c++(putD ks ds x (.obj 0 l [] [])).2.flatMap xV=[l]
   rw[mB h'.1,mX h'.2];rfl
theorem Ew{N C:Nat}{f:Str}{g:MU}{ds:LD}{a l:Nat}{ob:D}(h:yk N C f g ds a l=some ob):adr ob=[a,l]:=by
 obtain⟨ρ,ks,es,_,_,hn,_,rfl⟩:=Gb h
 show a::_=_
 rw[mX hn]
section
variable{X:Cx}{pos:Pos}{C:Nat}{f:Str}
def Qj(K:RW)(C i:Nat)(f:Str)(g:MU):TS:=fun E σ H=>∃ ρ τ a ρ' ks es,uq K H ρ τ σ/\t9 [a] H/\g [a] ρ=some (.nx ρ')/\c5 i ρ'=some (.obj (C+2) a ks es)/\n5 es=true/\ks.length<100 /\
 ∀ σ' l H',H l=none->uQ [a] H H'->Rep K H' (.obj (C+2) a (putD ks es f (.obj 0 l [] [])).1 (putD ks es f (.obj 0 l [] [])).2) (.ref a)->E.nx σ' H'
def IB(X:Cx)(C i:Nat)(f:Str)(sts:List So)(g:MU):Prop:=PSs X sts (Qj X.K C i f g)
theorem J_{x:Str}{px pos' p1:Pos}(i:Nat)(c:yH X.K C)(n:t8 X.K C f)(hN:X.N[i]?=some x:=by rfl)(hv:B0 X.env.scope x:=by first | exact Or.inl rfl | exact Or.inr (Or.inl rfl) | exact Or.inr (Or.inr rfl))
  (hd:(x==("__debug__" : Str))=false:=by decide) (hcd:(x==("__classdict__" : Str))=false:=by decide) (hs:swapsWith (.List [] p1) (some (.Attribute (.Name x px) f pos')) pos.line X.env=pure false:=by rfl):IB X C i f [.Assign [.Attribute (.Name x px) f pos'] (.List [] p1) pos] wf:=by
 refine c_ (t:=Qj X.K C i f wf) ?_
 intro pins s σ H E I ⟨ρ,τ,a,ρ',ks,es,er,m,e,hat,hn,hk,q⟩
 cases e
 obtain⟨v,hσ,rv⟩:=er.1.at hat
 obtain⟨xs,ev,⟨hl,dx,hH⟩,t⟩:=rv
 subst ev
 have hdl:es.length=xs.length:=t.length
 refine uo ((p_ (pv i hN hv hd hcd) (nK (pos:=p1) AU) hs) pins s σ H {E with nx:=fun σ' H'=>∃l,H l=none/\H'=upd (upd H l (.lst [])) a (.ins C dx (wu f (.ref l) (ks.zip xs)))} I ?_) fun fl s1 z=>?_
 ·refine⟨SU _,fun l hl0=>⟨.ref a,hσ,a,C,dx,ks.zip xs,rfl,?_,c,n,?_,l,hl0,rfl⟩⟩
  ·rw[aq (uA hH hl0)];exact hH
  ·rw[List.length_zip];omega
 cases fl with
 | next =>
  obtain⟨σ',H',I',l,hl0,rfl⟩:=z
  have hal:a≠l:=uA hH hl0
  have hLl:(upd (upd H l (.lst [])) a (.ins C dx (wu f (.ref l) (ks.zip xs)))) l=some (.lst []):=by rw[aq (Ne.symm hal),au]
  obtain⟨its,nn,rv',hz',I5⟩:=Do I' hLl
  generalize hH5:upd (upd (upd H l (.lst [])) a (.ins C dx (wu f (.ref l) (ks.zip xs)))) l (.frz {cls:=.type "list",data:=.seq its.toArray nn} (.own 0))=H5 at I5
  have kq:uQ [a] H H5:=fun b u nb eb=>by
   have hba:b≠a:=fun z=>nb (by rw[z];exact R4.mpr rfl)
   have hbl:b≠l:=uA eb hl0
   subst hH5
   rw[aq hbl,aq hba,aq hbl];exact eb
  have h5l:H5 l=some (.frz {cls:=.type "list",data:=.seq its.toArray nn} (.own 0)):=by subst hH5;exact au
  have h5a:H5 a=some (.ins C dx (wu f (.ref l) (ks.zip xs))):=by subst hH5;rw[aq hal,au]
  obtain⟨vs',p1',p2,p3⟩:=Dc (K:=X.K) (H':=H5) (x:=f) (e:=.obj 0 l [] []) (y:=.ref l) (ks:=ks) (ds:=es) (vs:=xs) hl hdl
  refine⟨σ',H5,I5,q σ' l H5 hl0 kq ⟨vs',rfl,⟨p2,dx,?_⟩,p3 (i5.kq m kq hn t) ⟨[],rfl,⟨hz',its,nn,rv',h5l⟩,rfl⟩⟩⟩
  rw[h5a,p1']
 | brk=>exact z
 | cont=>exact z
 | ret v=>exact z
theorem Dx{st:So}{sts:List So}{u g:MU}{i:Nat}(h1:MS X st u)(h2:IB X C i f sts g):IB X C i f (st::sts) (u9 u g):=by
 intro pins s σ H E I ⟨ρ,τ,a,ρ',ks,es,er,m,e,hat,hn,hk,q⟩
 obtain⟨o1,e1,e⟩:=h9 e
 cases o1 with
 | rt d ρ2=>cases e
 | nx ρ2 =>
  refine wpAny_execs_cons (uo (h1 [a] pins s σ H {E with nx:=Qj X.K C i f g E} I ⟨ρ,τ,.nx ρ2,er,m,e1,fun H1 k1 m1 σ2 er2=>⟨ρ2,τ,a,ρ',ks,es,er2,m1,e,hat,hn,hk,fun σ' l H' hl kq r=>q σ' l H' ?_ (k1.trans kq) r⟩⟩) fun fl s1 z=>?_)
  ·cases hb:H l with
   | none=>rfl
   | some b =>
    by_cases hla:l=a
    ·have:=m1 a (R4.mpr rfl)
     rw[<- hla,hl] at this
     exact this.elim
    ·rw[k1 l b (fun z=>hla (R4.mp z)) hb] at hl
     cases hl
  cases fl with
  | next =>
   obtain⟨σ',H',I',z⟩:=z
   exact h2 pins s1 σ' H' E I' z
  | brk=>exact z
  | cont=>exact z
  | ret v=>exact z
def NF(K:RW)(n N C:Nat)(f:Str)(g:MU):Sp:=fun vs H Q _=>∃a ds,ds.length+1=n/\i5 K H (.obj (C+2) a [] []::ds) vs/\(∀l,(yk N C f g ds a l).isSome=true)/\∀l ob H',H l=none->yk N C f g ds a l=some ob->uQ [a] H H'->Rep K H' ob (.ref a)->Q .non H'
theorem Kh{P:R9}{w:Sk}{K:RW}{mg:Str->RT RU}{base:Sq}{x qual:Str}{st:So}{fa:RY}{fd:SV}{N ps:List Str}{k:Nat}{g:MU}
  (Fn:uv K x qual st fa fd) (Sc:c9 N ps (c6 st)) 
  (hb:∀(cdv:RU) (A:Sv) (outer:List Env) (s:RX) (H:Hp) (E:XK),ua k (A.deeper (envOfC qual (c6 st) s.heap.objs.size fa cdv))->IB (yj ue P w K mg base N qual (c6 st) fa cdv A outer s H E).nox C 0 f (uh st) g) :
  k6 P w K mg base ue (k+1) fa fd ps (NF K ps.length N.length C f g):=by
 refine Fn.ok Sc (fun vs H Q E ⟨a,ds,hn,r,_⟩=>by rw[<- hn,<- r.length];rfl) (fun cdv A outer s H vs Q E hr h=>?_)
 obtain⟨a,ds,_,r,hs,q⟩:=h
 have h0:=hs 0
 obtain⟨ob0,e0⟩:=Option.isSome_iff_exists.mp h0
 obtain⟨mo,e1,e⟩:=h9 (show(g [a] (AO N.length (.obj (C+2) a [] []::ds))).bind _=some ob0 from e0)
 match mo,e1,e with
 | .nx ρ',e1,e =>
  have e':(match c5 0 ρ' with | some (.obj k b ks es)=>if k=C+2/\b=a/\n5 es=true/\ks.length<100 then some (D.obj k b (putD ks es f (.obj 0 0 [] [])).1 (putD ks es f (.obj 0 0 [] [])).2) else none | _=>none)=some ob0:=e
  cases hat:c5 0 ρ' with
  | none=>rw[hat] at e';cases e'
  | some obx =>
   rw[hat] at e'
   cases obx with
   | obj kk b ks es =>
    dsimp only at e'
    split at e'
    case isFalse=>cases e'
    case isTrue hc =>
    obtain⟨rfl,rfl,hn,hk⟩:=hc
    obtain⟨v,vr,ev,r1,r2⟩:=r
    have r':i5 K H (.obj (C+2) b [] []::ds) vs:=⟨v,vr,ev,r1,r2⟩
    have ms:t9 [b] H:=fun c hcb=>by
     have:=xy r1 c
     exact this (by simpa [adr] using hcb)
    refine⟨_,hb cdv A outer s H E hr,AO N.length (.obj (C+2) b [] []::ds),_,b,ρ',ks,es,(zU r').t,ms,e1,hat,hn,hk,fun σ' l H' hl kq rr=>?_⟩
    refine q l _ H' hl ?_ kq rr
    show(g [b] (AO N.length (.obj (C+2) b [] []::ds))).bind _=_
    rw[e1,RZ]
    show(match c5 0 ρ' with | some (.obj k b2 ks es)=>if k=C+2/\b2=b/\n5 es=true/\ks.length<100 then some (D.obj k b2 (putD ks es f (.obj 0 l [] [])).1 (putD ks es f (.obj 0 l [] [])).2) else none | _=>none)=_
    rw[hat]
    exact R3 ⟨rfl,rfl,hn,hk⟩
   | _=>cases e'
 | .rt d ρ',e1,e=>cases e
theorem rH{x cn:Str}{e:Sr}{es:List Sr}{sts:List So}{F:R->RT LD}{g w:MU}{fi:RY}{fd:SV}{ps:List Str}{k NI:Nat}{px p p1:Pos}(i:Nat)(hN:X.N.Nodup)(M:Mk X.K C fi)(Fn:k6 X.prog X.w X.K X.mg X.base ue k fi fd ps (NF X.K ps.length NI C f g))(bd:Binds X.K fd ps [])
  (hr:ua (k+1) X.A) (hm:X.mg cn=some (.ref C)) (ha:SA X (e::es) F) (h2:EL X sts w) (hn:(e::es).length+1=ps.length:=by rfl) (hg:Gl X cn:=by rfl) (hdb:(cn==("__debug__" : Str))=false:=by decide) (hix:X.N[i]?=some x:=by rfl) (hx:Loc X.env.scope x:=by first | exact Or.inl rfl | exact Or.inr rfl)
  (hs:swapsWith (.Call (.Name cn p) (e::es) [] p1) (some (.Name x px)) pos.line X.env=pure false:=by rfl) (hf:X.fn x=true\/X.env.scope.names.lookup x=some .local:=by first | exact .inl rfl | exact .inr rfl) :
  SS X (.Assign [.Name x px] (.Call (.Name cn p) (e::es) [] p1) pos::sts) (Fg i (yk NI C f g) F w):=by
 have hst:=ha.2.2
 rw[SL,R1] at hst
 have he:=aF es X.env hst.1
 have hpl:=bv (pos:=p1) (env:=X.env) hst.2
 intro pins s σ H E I ⟨ρ,τ,o,er,eo,qq⟩
 obtain⟨ds,r,e1,hi,rfl,hw⟩:=J2 eo
 refine wpAny_execs_cons (uo ((ib (i:=i) hN hix hx (oF M Fn hr hg hm bd .nil ym ha.1 hdb he hpl) hs hf) pins s σ H {E with nx:=fun σ' H'=>∃a l ob,H a=none/\H l=none/\a≠l/\σ'=σ.set i (some (.ref a))/\yk NI C f g ds a l=some ob/\i6 H H'/\Rep X.K H' ob (.ref a)/\t9 [a,l] H' } I ?_) fun fl s1 z=>?_)
 ·refine⟨ρ,ds,er.1,e1,fun vs H1 s1 r1 a dx ha0 hdx hne=>?_⟩
  rw[Sw]
  have sn:i6 H1 (upd (upd H1 dx (.own a)) a (.ins C dx [])):=(bh hdx _).trans (bh (by rw[aq (Ne.symm hne)];exact ha0) _)
  have hHa:H a=none:=by
   cases hb:H a with
   | none=>rfl
   | some u=>rw[s1 a u hb] at ha0;cases ha0
  refine⟨a,ds,by rw[ha.2.1 ρ ds e1];exact hn,⟨.ref a,vs,rfl,⟨[],rfl,⟨rfl,dx,au⟩,rfl⟩,r1.mono sn⟩,fun l=>?_,fun l ob H' hl hmk kq ro=>⟨rfl,a,l,ob,hHa,?_,?_,rfl,hmk,?_,ro,?_⟩⟩
  ·obtain⟨ob,ρ',h1,_⟩:=hw a (a+1) (by omega)
   exact CJ h1 l
  ·cases hb:H l with
   | none=>rfl
   | some u=>rw[sn l u (s1 l u hb)] at hl;cases hl
  ·intro z;rw[<- z,au] at hl;cases hl
  ·intro b u hb
   have hba:b≠a:=fun z=>by rw[z,hHa] at hb;cases hb
   exact kq b u (fun z=>hba (R4.mp z)) (sn b u (s1 b u hb))
  ·have:=xy ro
   rw[Ew hmk] at this
   exact this
 cases fl with
 | next =>
  obtain⟨σ',H',I',a,l,ob,hHa,hHl,hal,rfl,hmk,sm,ro,ms⟩:=z
  obtain⟨ob',ρ',h1,h3⟩:=hw a l hal
  rw[hmk] at h1
  cases h1
  refine h2 [a,l] pins s1 _ H' E I' ⟨ρ.set i (some ob),τ,_,(er.mono sm).set hi ro,ms,h3,fun H2 kq m2=>?_⟩
  intro v rv _
  refine qq H2 (fun b u hb=>?_) v rv
  refine kq b u (fun z=>?_) (sm b u hb)
  rcases Sf.mp z with rfl | z
  ·rw[hHa] at hb;cases hb
  ·rw[R4.mp z,hHl] at hb;cases hb
 | brk=>exact z
 | cont=>exact z
 | ret v=>exact z
end
theorem x_(ns:List Int):∀j,j<=ns.length->preSum (fun i=>ns.getD i 0) j=(ns.take j).sum
 | 0,_=>rfl
 | j+1,h=>by
  show preSum (fun i=>ns.getD i 0) j+ns.getD j 0=_
  have hj:j<ns.length:=h
  have e:ns.take (j+1)=ns.take j++[ns[j]]:=by rw[List.take_succ_eq_append_getElem hj]
  rw[x_ ns j (by omega),e,List.sum_append,SJ]
  simp[hj]
theorem HS:∀ns:List Int,ns.all (fun n=>decide (0<=n/\n<1099511627776))=true->0<=ns.sum/\ns.sum<=1099511627776*(ns.length:Int)
 | [],_=>⟨by decide,by decide⟩
 | n::ns,h=>by
  rw[SL,R1] at h
  obtain⟨a,b⟩:=HS ns h.2
  have:=Tc h.1
  rw[List.sum_cons,S5]
  constructor<;>omega
section
variable{X:Cx}
theorem tK{e:Sr}{f:R->OD}{p pos:Pos}(hc:X.calm=true)(hm:X.mg "sum" = none)(he:SE X e f)(hg:Gl X "sum":=by rfl)(hst:noStar e=true:=by rfl) :
  SE X (.Call (.Name "sum" p) [e] [] pos) (c8 Kz (c4 f c7)):=by
 intro pins s σ H Q I ⟨ρ,d,er,eq,q⟩
 obtain⟨ds,e1,e2⟩:=h9 eq
 have hst1:=aF [] X.env hst
 have PAA:=(ac he af hst).1 pos pins s σ H (fun vs H2=>i6 H H2/\i5 X.K H2 ds vs) I ⟨ρ,ds,er,e1,fun vs H2 s2 r2=>⟨s2,r2⟩⟩
 refine Call_ (cJ I hg hm boot_sum ?_)
 rw[hst1] at PAA ⊢
 refine Calls.callWith_builtin rfl (Calls.evalArgs_plain ?_)
 refine uo PAA fun us s1 ⟨vs,H1,I1,r1,s01,rp⟩=>?_
 match ds,e2 with
 | [.lst es],e2 =>
  obtain⟨ns,e3,e4⟩:=h9 (show(intsOf es).bind _=some d from e2)
  split at e4
  case isFalse=>cases e4
  case isTrue hn =>
  cases e4
  obtain⟨v,r',rfl,⟨a,xs,rfl,ha,rx⟩,rr⟩:=rp
  cases (show r'=[] from rr)
  obtain⟨u,rfl,ru⟩:=r1.one
  cases (show u=_ from ru)
  obtain⟨_,its,n,rv,hl,eo⟩:=I1.lstM ha
  have hI:=vals_ints e3 rx rv
  have hlen:its.length=ns.length:=IntsAre.length hI
  have hh:=I1.ok.hd hc
  have hL:s1.heap.IsList a its.toArray:=⟨_,eo,rfl,n,rfl⟩
  have hlt:a<s1.heap.objs.size:=R_ eo
  refine call_sum_walk (wpAny_pyIter_list hL ?_)
  generalize hIe:s1.heap.objs.size=J at hlt
  have hne:a≠J:=Sn hlt
  refine⟨J,[J,a],[J],its.toArray.size,_,_,fun i=>ns.getD i 0,rfl,Walks.list (prog:=X.prog) (w:=X.w) (A:=X.A.in1) (show X.A.in1.handled=none from hh) J a hne its.toArray,?_,fun b hb=>?_,fun i v hv=>?_,fun j hj=>?_,fun h' tk t' k=>?_⟩
  ·refine⟨by rw[<- hIe];exact⟨_,Sd _ rfl,rfl,rfl⟩,hL.at fun o e=>R0 _ e⟩
  ·rw[Heap.size_push,hIe]
   rcases Sf.mp hb with rfl | hb
   ·exact Tj _
   ·rw[R4.mp hb];exact Nat.lt_succ_of_lt hlt
  ·exact IntsAre.int_at hI i v (by simpa using hv)
  ·have hj':j<ns.length:=by rw[Sb,hlen] at hj;exact hj
   have hall:=hn.2
   have b1:ns.getD j 0∈ns:=by rw[SJ];simp[hj']
   have b2:=Tc (SF.mp hall _ b1)
   have b3:=HS (ns.take (j+1)) (SF.mpr fun x hx=>SF.mp hall x (List.mem_of_mem_take hx))
   rw[x_ ns (j+1) (by omega)]
   have b4:(ns.take (j+1)).length<=1000:=by rw[To];omega
   refine⟨⟨by show -(2 ^ 63)<=ns.getD j 0;omega,by show ns.getD j 0<2 ^ 63;omega⟩,by omega,by omega⟩
  ·have hs:preSum (fun i=>ns.getD i 0) its.toArray.size=ns.sum:=by
    rw[Sb,hlen,x_ ns _ (Se _),List.take_length]
   rw[hs]
   refine⟨.int ns.sum,H1,I1.kept fun b o eb=>k b o (fun z=>?_) (R0 _ eb),⟨_,rfl⟩,q _ H1 s01 rfl⟩
   rw[R4.mp z,<- hIe] at eb
   exact Sm (R_ eb) (SN _)
end
def Hy(K:RW)(C:RY)(m q:Str)(st:So)(f:RY):Prop:=∃(oc:RU) (od an:RT RY) (sl:Array (RT RU)) (kV dc pm cd ct:RU),W.findIn K (.ref C) m=some (some (.ref f))/\W.isFn K (.ref f)=true /\
 K.lookup f=some ⟨oc,od,.func (W.fnOf m q (vf st) (uh st) (c6 st) .none kV dc pm an cd ct),sl⟩/\W.codeIn K cd q=true/\W.keepIn K (.ref f)=true
theorem Jt{K:RW}{C:RY}{m q:Str}{st:So}{f:RY}(h:Hy K C m q st f):∃fd,uv K m q st f fd/\DX K C m f:=by
 obtain⟨oc,od,an,sl,kV,dc,pm,cd,ct,a,i,l,c,k⟩:=h
 exact⟨_,qF l c k,a,i,k⟩
theorem fn5_mk{K:RW}{C:RY}{m q:Str}{st:So}{f:RY}{oc:RU}{od an:RT RY}{sl:Array (RT RU)}{kV dc pm cd ct:RU}(a:W.findIn K (.ref C) m=some (some (.ref f)))(i:W.isFn K (.ref f)=true)
  (l:K.lookup f=some ⟨oc,od,.func (W.fnOf m q (vf st) (uh st) (c6 st) .none kV dc pm an cd ct),sl⟩) (c:W.codeIn K cd q=true) (k:W.keepIn K (.ref f)=true):Hy K C m q st f:=⟨oc,od,an,sl,kV,dc,pm,cd,ct,a,i,l,c,k⟩
end HW
namespace HW
open PySem
def Ab(A:List Nat):OD->Bool
 | some (.obj _ a _ es)=>(a::es.flatMap xV).all (fun x=>!A.contains x)&&es.all okN
 | some d=>uC d
 | none=>true
def za(i:Nat)(A:List Nat)(ρ:R):Bool:=(ρ.set i none).all (Ab A)
def Bp(i:Nat)(G:LD->RT (D×D))(F:R->RT LD)(S:List Nat)(ρ:R):RT (D×R):=(c5 i ρ).bind fun ob=>(F ρ).bind fun ds=>(G ds).bind fun r =>
 if xF ob=true/\za i (adr ob) ρ=true/\AE S (adr ob)=true then some (r.1,ρ.set i (some r.2)) else none
def L1(i j:Nat)(mk:LD->Nat->Nat->OD)(ds ds':LD)(w:MU)(ρ:R)(r:D):Prop:=∀a l a' l',[a,l,a',l'].Nodup->∃ob ob' ρ',mk ds a l=some ob/\mk ds' a' l'=some ob'/\w [a,l,a',l'] ((ρ.set i (some ob)).set j (some ob'))=some (.rt r ρ')
theorem L1.uniq{i j:Nat}{mk:LD->Nat->Nat->OD}{ds ds':LD}{w:MU}{ρ:R}{r r':D}(h:L1 i j mk ds ds' w ρ r)(h':L1 i j mk ds ds' w ρ r'):r=r':=by
 obtain⟨ob,ob',ρ1,e1,e2,e3⟩:=h 0 1 2 3 (by decide)
 obtain⟨pb,pb',ρ2,f1,f2,f3⟩:=h' 0 1 2 3 (by decide)
 rw[e1] at f1;cases f1
 rw[e2] at f2;cases f2
 rw[e3] at f3
 exact(MO.rt.inj (Si f3)).1
def G1(j i C:Nat)(x:Str):MU:=fun S ρ=>match c5 i ρ with
 | some (.obj k a ks ds)=>match Bh ks ds x with
  | some (.obj 0 l ls es)=>match es.getLast? with
   | some d=>if k=C+2/\i≠j/\j<ρ.length/\uR i ρ=true/\AE S (a::ds.flatMap xV)=true/\n5 es=true/\n5 (putD ks ds x .non).2=true/\S.contains l=true then some (.nx ((ρ.set i (some (.obj k a (putD ks ds x (.obj 0 l ls es.dropLast)).1 (putD ks ds x (.obj 0 l ls es.dropLast)).2))).set j (some d))) else none
   | none=>none
  | _=>none
 | _=>none
mutual
def nof:D->Bool
 | .tup xs=>nofs xs
 | .lst xs=>nofs xs
 | .fro _=>false
 | .obj ..=>false
 | .rf ..=>false
 | _=>true
def nofs:LD->Bool
 | []=>true
 | x::xs=>nof x&&nofs xs
end
def ye(i C:Nat)(x:Str)(F:R->OD):R->OD:=fun ρ=>match c5 i ρ with
 | some (.obj k a ks ds)=>match Bh ks ds x with
  | some (.obj 0 l ls es)=>if k=C+2/\uR i ρ=true/\n5 es=true/\n5 (putD ks ds x .non).2=true then (F (ρ.set i (some (.obj k a (putD ks ds x (.fro es)).1 (putD ks ds x (.fro es)).2)))).bind fun d=>if nof d then some d else none else none
  | _=>none
 | _=>none
def Gn(f:R->OD):R->RT LD:=fun ρ=>(f ρ).bind fun x=>match x with
 | .fro es=>some es
 | _=>none
end HW
namespace HW
open PySem PySem.Spec PyProof.Rows L2
section
variable{K:RW}{H H' H1 H2:Hp}{A S:List Nat}
theorem ti(m:t9 A H)(s:uQ A H H'):∀{d:D} {v:V},okN d=true->(∀b∈xV d,b∉A)->Rep K H d v->Rep K H' d v:=by
 intro d v h hA r
 match d,h,hA,r with
 | .obj 0 l ls es,h,hA,⟨xs,e,⟨z,its,n,rv,q⟩,t⟩=>exact⟨xs,e,⟨z,its,n,rv,s _ _ (hA l (R4.mpr rfl)) q⟩,i5.kq m s h t⟩
 | .obj (k+1) l ls es,h,_,_=>cases (show uC (.obj (k+1) l ls es)=true from h)
 | .rf a,h,_,_=>cases (show uC (.rf a)=true from h)
 | .non,_,_,r=>exact r
 | .bl _,_,_,r=>exact r
 | .int _,_,_,r=>exact r
 | .str _,_,_,r=>exact r
 | .tup ds,h,_,r=>exact Rep.kq m s (d:=.tup ds) h r
 | .lst ds,h,_,r=>exact Rep.kq m s (d:=.lst ds) h r
 | .fro ds,h,_,r=>exact Rep.kq m s (d:=.fro ds) h r
theorem oK(m:t9 A H)(s:uQ A H H'):∀{ds:LD} {vs:List V},ds.all okN=true->(∀b∈ds.flatMap xV,b∉A)->i5 K H ds vs->i5 K H' ds vs
 | [],_,_,_,r=>r
 | d::ds,_,h,hA,r=>by
  rw[SL,R1] at h
  rw[List.flatMap_cons] at hA
  obtain⟨v,vr,e,r1,r2⟩:=r
  exact⟨v,vr,e,ti m s h.1 (fun b hb=>hA b (S2 _ hb)) r1,oK m s h.2 (fun b hb=>hA b (Ss _ hb)) r2⟩
theorem Rep.sep(m:t9 A H)(s:uQ A H H'):∀{d:D} {v:V},Ab A (some d)=true->Rep K H d v->Rep K H' d v:=by
 intro d v h r
 cases d with
 | obj k a ks es =>
  have h':((a::es.flatMap xV).all (fun x=>!A.contains x)&&es.all okN)=true:=h
  rw[R1] at h'
  have hA:∀b∈a::es.flatMap xV,b∉A:=fun b hb z=>by
   have:=SF.mp h'.1 b hb
   simp at this
   exact this z
  obtain⟨xs,e,q,t⟩:=r
  exact⟨xs,e,q.to fun u e' _=>s a u (hA a (.head _)) e',oK m s h'.2 (fun b hb=>hA b (.tail _ hb)) t⟩
 | _=>exact Rep.kq m s h r
theorem rJ{ρ:R}{σ:L2.St}{i:Nat}{ob':D}{v:V}(er:ut K H ρ σ)(m:t9 A H)(s:uQ A H H')(hn:za i A ρ=true)(hv:σ[i]?=some (some v))(r:Rep K H' ob' v):ut K H' (ρ.set i (some ob')) σ:=by
 refine⟨by rw[S4];exact er.1,fun j d h=>?_⟩
 by_cases hj:j=i
 ·subst hj
  have hl:j<ρ.length:=by have:=(Sg.mp h).1;simpa using this
  rw[SH hl] at h
  cases h
  exact⟨v,hv,r⟩
 ·rw[SM (Ne.symm hj)] at h
  obtain⟨u,h1,h2⟩:=er.2 j d h
  have hd:Ab A (some d)=true:=SF.mp hn _ (S_ (i:=j) (by rw[SM (Ne.symm hj)];exact h))
  exact⟨u,h1,Rep.sep m s hd h2⟩
theorem Cc{ρ:R}{σ τ:L2.St}{i:Nat}{ob o':D}(er:uq K H ρ τ σ)(m:t9 S H)(hat:c5 i ρ=some ob)(ho:xF ob=true)(hn:za i (adr ob) ρ=true)(hin:AE S (adr ob)=true)(s1:i6 H H1)(kq:uQ (adr ob) H1 H2)(m2:t9 (adr ob) H2)
  (r:Rep K H2 o' (.ref (Ad ob))):uQ S H H2/\t9 S H2/\uq K H2 (ρ.set i (some o')) τ σ:=by
 have sub:=E1 hin
 have m1:=m.same s1
 have mS:t9 S H2:=fun b hb=>by
  by_cases hba:b∈adr ob
  ·exact m2 b hba
  ·have hm:=m1 b hb
   cases e:H1 b with
   | none=>rw[e] at hm;exact hm.elim
   | some u=>rw[kq b u hba e];rw[e] at hm;exact hm
 obtain⟨v,hσ,rv⟩:=(er.mono s1).1.at hat
 have mo:=xy rv
 rw[nS ho rv] at hσ
 exact⟨(uQ.of s1).trans (kq.mono sub),mS,rJ (er.mono s1).1 mo kq hn hσ r,by rw[S4];exact er.2⟩
end
section
variable{X:Cx}{pos:Pos}
theorem mV{F:R->RT LD}{G:LD->RT (D×D)}{S:List Nat}{i j:Nat}{ρ ρ':R}{σ τ:L2.St}{H:Hp}{d:D}{Q:VK}(hF:∀ ρ ds ob,F ρ=some ds->c5 i ρ=some ob->ds[j]?=some ob)(er:uq X.K H ρ τ σ)(m:t9 S H)(e:Bp i G F S ρ=some (d,ρ'))
  (q:∀v H',uQ S H H'->t9 S H'->Rep X.K H' d v->uq X.K H' ρ' τ σ->Q v H'):LF (GO X.K j G) [] E0 (Oq X.K F) σ H Q:=by
 obtain⟨ob,hat,e⟩:=h9 e
 obtain⟨ds,e1,e⟩:=h9 e
 obtain⟨r,e2,e⟩:=h9 e
 split at e
 case isFalse=>cases e
 case isTrue hc =>
 obtain⟨ho,hn,hin⟩:=hc
 obtain⟨rfl,rfl⟩:r.1=d/\ρ.set i (some r.2)=ρ':=by simpa using e
 refine⟨ρ,ds,er.1,e1,fun vs H1 s1 r1=>?_⟩
 show GO X.K j G (vs++[]) H1 Q E0
 rw[Sw]
 refine⟨ds,ob,r.1,r.2,r1,hF ρ ds ob e1 hat,ho,e2,fun v H2 kq m2 rd ro=>?_⟩
 obtain⟨a,b,c⟩:=Cc er m hat ho hn hin s1 kq m2 ro
 exact q v H2 a b rd c
variable{x:Str}{e:Sr}{es:List Sr}{F:R->RT LD}{G:LD->RT (D×D)}{k j:Nat}{ps:List Str}{p:Pos}
theorem qS(i:Nat)(C:EW X.prog X.w X.K X.mg X.base k x ps j G)(hr:ua k X.A)(ha:SA X (e::es) F)(hF:∀ ρ ds ob,F ρ=some ds->c5 i ρ=some ob->ds[j]?=some ob){pos':Pos}(hg:Gl X x:=by rfl)(hdb:(x==("__debug__" : Str))=false:=by decide)
  (hs:swapsWith (.Call (.Name x p) (e::es) [] pos) none pos'.line X.env=pure false:=by rfl):MS X (.Expr (.Call (.Name x p) (e::es) [] pos) pos') (A_ (Bp i G F)):=by
 have hst:=ha.2.2
 rw[SL,R1] at hst
 have he:=aF es X.env hst.1
 have hpl:=bv (pos:=pos) (env:=X.env) hst.2
 obtain⟨f,fd,a,m,kp,bd⟩:=C.ex
 refine fun S=>(oZ (iP a hr hg m kp bd .nil ym ha.1 hdb he hpl) hs).imp fun E σ H ⟨ρ,τ,o,er,m,e,q⟩=>?_
 obtain⟨r,e1,rfl⟩:=t7 e
 exact mV hF er m e1 fun v H' kq mS _ er'=>q H' kq mS σ er'
variable{C:Nat}{mn:Str}{apos:Pos}
theorem qh{st:So}:MS X st (fun _ _=>none):=fun S _ _ _ _ _ _ ⟨_,_,_,_,_,e,_⟩=>by cases e
end
section
variable{X:Cx}{pins pins0:List (RY×Obj)}{σ σ0:L2.St}{H H0:Hp}{s s0:RX}{l:RY}{its:List RU}{n:Nat}{xs:List V}
theorem Qp(I:L2.Inv X pins σ H s)(h:H l=some (.frz {cls:=.type "list",data:=.seq its.toArray n} (.own 0)))(r:l6 xs its)(z:xs.length<=sizeLine):L2.Inv X pins σ (upd H l (.frz {cls:=.type "list",data:=.seq its.toArray n} (.lst xs))) s:=by
 have e:=(I.hok l _ h).1
 exact I.write (t':=s.toks) (h':=s.heap) (o:=.frz {cls:=.type "list",data:=.seq its.toArray n} (.lst xs)) (x:=l) (e:=l) (by rw[h];trivial) (.inl rfl) (fun _ _ _ q=>q) ⟨_,e⟩ ⟨e,z,its,n,r,e⟩
theorem L_{o:Obj}(I0:L2.Inv X pins0 σ0 H0 s0)(h0:H0 l=some (.frz o (.own 0)))(I:L2.Inv X pins σ H s)(h:H l=some (.frz o (.lst xs))):L2.Inv X pins σ (upd H l (.frz o (.own 0))) s:=by
 have e:=(I.hok l _ h).1
 have ne:∀{b:RY},H b=none->b≠l:=fun {b} hb z=>by rw[z,h] at hb;cases hb
 refine⟨I.ok,I.os,I.bare,⟨I.base.keep,I.base.slot,fun b ob q nn hx=>?_,I.base.there,fun b ys q=>?_,fun b ob u ny q=>?_,fun b ps d q=>?_⟩,I.loc,I.cell,?_,fun y c hc=>?_,fun p hp=>?_,fun b u q=>?_,I.len⟩
 ·have z:=I.base.free b ob q nn hx
  rw[aq (ne z)];exact z
 ·have z:=I.base.tups b ys q
  rw[aq fun w=>by rw[w,h] at z;cases z];exact z
 ·have z:=I.base.frzs b ob u ny q
  rw[aq fun w=>?_]
  ·exact z
  ·have z0:=I0.base.frzs b ob u ny q
   rw[w,h0] at z0
   cases z0
   exact ny 0 rfl
 ·have z:=I.base.tbls b ps d q
  rw[aq fun w=>by rw[w,h] at z;cases z];exact z
 ·rw[aq (ne I.free)];exact I.free
 ·rw[aq (ne (I.freeC y c hc))];exact I.freeC y c hc
 ·obtain⟨p1,p2,p3⟩:=I.pin p hp
  exact⟨p1,by rw[aq (ne p2)];exact p2,p3⟩
 ·by_cases hb:b=l
  ·subst hb
   rw[au] at q
   cases q
   exact⟨e,_,e⟩
  ·rw[aq hb] at q
   refine(I.hok b u q).stay (fun c v _ r=>r) (fun c r=>?_) (fun c ys r=>?_) fun c _ _ r=>?_
   ·rw[aq fun w=>by rw[w,h] at r;cases r];exact r
   ·rw[aq fun w=>by rw[w,h] at r;cases r];exact r
   ·rw[aq fun w=>by rw[w,h] at r;cases r];exact r
end
section
variable{K:RW}{H:Hp}{l:RY}{o:Obj}{ys:List V}{u:HO}
mutual
theorem Rep.nof(h:H l=some (.frz o (.lst ys))):∀{d:D} {v:V},nof d=true->Rep K H d v->Rep K (upd H l u) d v
 | .non,_,_,r=>r
 | .bl _,_,_,r=>r
 | .int _,_,_,r=>r
 | .str _,_,_,r=>r
 | .tup ds,_,hn,r=>by
  obtain⟨a,xs,e,q,t⟩:=r
  refine⟨a,xs,e,?_,i5.nof h hn t⟩
  rcases q with (q | ⟨o',q⟩) | q
  ·exact .inl (.inl (by rw[aq fun w=>by rw[w,h] at q;cases q];exact q))
  ·exact .inl (.inr ⟨o',by rw[aq fun w=>by rw[w,h] at q;cases q];exact q⟩)
  ·exact .inr q
 | .lst ds,_,hn,r=>by
  obtain⟨a,xs,e,q,t⟩:=r
  exact⟨a,xs,e,by rw[aq fun w=>by rw[w,h] at q;cases q];exact q,i5.nof h hn t⟩
 | .fro _,_,hn,_=>by cases hn
 | .obj ..,_,hn,_=>by cases hn
 | .rf ..,_,hn,_=>by cases hn
theorem i5.nof(h:H l=some (.frz o (.lst ys))):∀{ds:LD} {vs:List V},nofs ds=true->i5 K H ds vs->i5 K (upd H l u) ds vs
 | [],_,_,r=>r
 | d::ds,_,hn,r=>by
  have hn':(HW.nof d&&nofs ds)=true:=hn
  rw[R1] at hn'
  obtain⟨v,vr,e,r1,r2⟩:=r
  exact⟨v,vr,e,Rep.nof h hn'.1 r1,i5.nof h hn'.2 r2⟩
end
theorem i5.dropLast:∀{ds:LD} {vs:List V},i5 K H ds vs->i5 K H ds.dropLast vs.dropLast
 | [],_,r=>by cases (show _=[] from r);rfl
 | [d],_,r=>by
  obtain⟨v,vr,rfl,_,r2⟩:=r
  cases (show vr=[] from r2);rfl
 | d::d'::ds,_,r=>by
  obtain⟨v,vr,rfl,r1,r2⟩:=r
  obtain⟨v',vr',e,r3,r4⟩:=r2
  subst e
  exact⟨v,_,rfl,r1,i5.dropLast (ds:=d'::ds) (vs:=v'::vr') ⟨v',vr',rfl,r3,r4⟩⟩
theorem kB:∀{ds:LD},n5 ds=true->n5 ds.dropLast=true
 | [],h=>h
 | [d],_=>rfl
 | d::d'::ds,h=>by
  have h':(uC d&&n5 (d'::ds))=true:=h
  rw[R1] at h'
  show(uC d&&n5 (d'::ds).dropLast)=true
  rw[h'.1,kB h'.2];rfl
theorem mf{d:D}:∀{ds:LD},n5 ds=true->d∈ds->uC d=true
 | e::ds,h,hd=>by
  have h':(uC e&&n5 ds)=true:=h
  rw[R1] at h'
  rcases Sf.mp hd with rfl | hd
  ·exact h'.1
  ·exact mf h'.2 hd
end
section
variable{X:Cx}{pos:Pos}
theorem sQ{tg a:Sr}{f:R->OD}(ha:SE X a f):SI X tg a (Gn f):=(oj ha).imp fun σ H W ⟨ρ,ds,er,e,q⟩=>by
 obtain⟨x,e1,e⟩:=h9 e
 refine⟨ρ,x,er,e1,fun v H1 s1 r1=>?_⟩
 cases x with
 | fro xs =>
  cases e
  obtain⟨a,vs,ev,hq,t⟩:=r1
  exact .inl ⟨a,ev,.inl ⟨⟨vs,hq⟩,q _ H1 s1 (iy hq t)⟩⟩
 | _=>cases e
theorem kU{e:Sr}{F:R->OD}{x:Str}(i C:Nat)(h:SE X e F):SE X e (ye i C x F):=by
 intro pins s σ H Q I ⟨ρ,d,er,e0,q⟩
 unfold ye at e0
 split at e0
 case h_2=>cases e0
 case h_1 k a ks ds hat =>
 split at e0
 case h_2=>cases e0
 case h_1 l ls es hkey =>
 split at e0
 case isFalse=>cases e0
 case isTrue hc =>
 obtain⟨rfl,h2,h5,h6⟩:=hc
 obtain⟨d',eF,e0⟩:=h9 e0
 split at e0
 case isFalse=>cases e0
 case isTrue hnf =>
 cases e0
 obtain⟨v,hσ,rv⟩:=er.at hat
 obtain⟨xs,ev,⟨hl,dx,hH⟩,t⟩:=rv
 subst ev
 obtain⟨y,hlk,ry⟩:=zY hkey t hl
 obtain⟨ys,ey,⟨hz,its,nn,rv,hL⟩,ty⟩:=ry
 subst ey
 have I1:=Qp I hL rv hz
 have k01:uQ [l] H (upd H l (.frz {cls:=.type "list",data:=.seq its.toArray nn} (.lst ys))):=fun b u nb eb=>by rw[aq fun z=>nb (by rw[z];exact R4.mpr rfl)];exact eb
 have ml:t9 [l] H:=fun b hb=>by rw[R4.mp hb,hL];trivial
 have hla:a≠l:=fun z=>by rw[z,hL] at hH;cases hH
 have kq:∀{d:D} {v:V},uC d=true->Rep X.K H d v->Rep X.K (upd H l (.frz {cls:=.type "list",data:=.seq its.toArray nn} (.lst ys))) d v:=fun hn r=>Rep.kq ml k01 hn r
 have rf:Rep X.K (upd H l (.frz {cls:=.type "list",data:=.seq its.toArray nn} (.lst ys))) (.fro es) (.ref l):=⟨l,ys,rfl,.inl (.inr ⟨_,au⟩),i5.kq ml k01 h5 ty⟩
 obtain⟨g1,g2⟩:=gL hkey hlk t hl h6 kq rf
 have rob:Rep X.K (upd H l (.frz {cls:=.type "list",data:=.seq its.toArray nn} (.lst ys))) (.obj (C+2) a (putD ks ds x (.fro es)).1 (putD ks ds x (.fro es)).2) (.ref a):=by
  rw[g1]
  exact⟨xs,rfl,⟨hl,dx,by rw[aq hla];exact hH⟩,g2⟩
 refine uo (h pins s σ _ (fun v H2=>i6 (upd H l (.frz {cls:=.type "list",data:=.seq its.toArray nn} (.lst ys))) H2/\Rep X.K H2 d v) I1 ⟨_,d,qA er ml k01 h2 hσ rob,eF,fun v H' s1 r1=>⟨s1,r1⟩⟩) fun u s1 ⟨v,H2,I2,ru,s12,rd⟩=>?_
 have hL2:=s12 _ _ au
 refine⟨v,_,L_ I hL I2 hL2,ru,q v _ (fun b w hb=>?_) (Rep.nof hL2 hnf rd)⟩
 by_cases hbl:b=l
 ·subst hbl
  rw[hL] at hb
  cases hb
  exact au
 ·rw[aq hbl]
  exact s12 b w (by rw[aq hbl];exact hb)
theorem qZ{x y f:Str}{C:Nat}{px py pf ap cp:Pos}(j i:Nat)(hNd:X.N.Nodup)(c:yH X.K C)(n:t8 X.K C f)(hN:X.N[i]?=some x:=by rfl)(hv:B0 X.env.scope x:=by first | exact Or.inl rfl | exact Or.inr (Or.inl rfl) | exact Or.inr (Or.inr rfl))(hj:X.N[j]?=some y:=by rfl)(hy:Loc X.env.scope y:=by first | exact Or.inl rfl | exact Or.inr rfl)
  (hd:(x==("__debug__" : Str))=false:=by decide) (hcd:(x==("__classdict__" : Str))=false:=by decide) (hb1:attributeBase (.Name x px) f X.env (eval (.Name x px) X.env)=eval (.Name x px) X.env:=by rfl)
  (hbase:attributeBase (.Attribute (.Name x px) f pf) "pop" X.env (eval (.Attribute (.Name x px) f pf) X.env)=eval (.Attribute (.Name x px) f pf) X.env:=by rfl)
  (hline:(ap.endLine==cp.line)=true:=by rfl) (hs:swapsWith (.Call (.Attribute (.Attribute (.Name x px) f pf) "pop" ap) [] [] cp) (some (.Name y py)) pos.line X.env=pure false:=by rfl) (hf:X.fn y=true\/X.env.scope.names.lookup y=some .local:=by first | exact .inl rfl | exact .inr rfl) :
  MS X (.Assign [.Name y py] (.Call (.Attribute (.Attribute (.Name x px) f pf) "pop" ap) [] [] cp) pos) (G1 j i C f):=by
 intro S pins s σ H E I ⟨ρ,τ,o,er,m,e,q⟩
 unfold G1 at e
 split at e
 case h_2=>cases e
 case h_1 k a ks ds hat =>
 split at e
 case h_2=>cases e
 case h_1 l ls es hkey =>
 split at e
 case h_2=>cases e
 case h_1 d hlast =>
 split at e
 case isFalse=>cases e
 case isTrue hc =>
 obtain⟨rfl,hij,hjl,h2,h3,h5,h6,h7⟩:=hc
 cases e
 obtain⟨v,hσ,rv⟩:=er.1.at hat
 obtain⟨xs,ev,⟨hl,dx,hH⟩,t⟩:=rv
 subst ev
 obtain⟨y0,hlk,ry⟩:=zY hkey t hl
 obtain⟨ys,ey,⟨hz,its,nn,rv,hL⟩,ty⟩:=ry
 subst ey
 have hlen:es.length=ys.length:=ty.length
 rw[List.getLast?_eq_getElem?] at hlast
 obtain⟨w,hw,rw1⟩:=ty.get hlast
 rw[hlen] at hw
 refine wpAny_Assign_Name (uo (Q:=EP X pins σ fun v H5=>v=w/\uQ S H H5/\t9 S H5/\Rep X.K H5 d w/\uq X.K H5 (ρ.set i (some (.obj (C+2) a (putD ks ds f (.obj 0 l ls es.dropLast)).1 (putD ks ds f (.obj 0 l ls es.dropLast)).2))) τ σ) ?_ fun v s1 ⟨y',H5,I5,r5,ey,kq,mS,rd,er5⟩=>?_) hs
 ·refine wpAny_Call_method_late hbase rfl hline rfl (uo ((nv (pv i (pos:=px) hN hv hd hcd) hb1) pins s σ H (fun v H1=>v=.ref l/\H1=H) I ⟨.ref a,hσ,a,C,dx,_,.ref l,rfl,hH,c,n,hlk,rfl,rfl⟩) fun v s1 ⟨y',H1,I1,r1,ey,eH⟩=>?_)
  subst ey eH
  cases (show v=_ from r1)
  have eo:=(I1.hok l _ hL).1
  refine⟨"list","list.pop",PySem.F.plainAttrs_list,PySem.F.slot_list_pop,PySem.F.type_list_pop,⟨_,eo,rfl⟩,fun b eb=>?_,?_⟩
  ·cases eb
   exact⟨_,eo,rfl⟩
  refine Calls.callWith_builtin rfl (evalArgs_nil3 ?_)
  have I3:=Ge I1 hL rv hz
  refine uo (tJ pins s1 σ (upd H1 l (.lst ys)) (.ref l) [] (.ref l) [] (fun v H3=>v=w/\H3=upd (upd H1 l (.lst ys)) l (.lst ys.dropLast)) I3 rfl .nil ⟨l,ys,w,rfl,rfl,au,hw,rfl,rfl⟩) fun v s3 ⟨v',H3,I4,r4,e4,e3⟩=>?_
  subst e3 e4
  obtain⟨its',n',rv',hz',I5⟩:=Do I4 au
  generalize hH5:upd (upd (upd H1 l (.lst ys)) l (.lst ys.dropLast)) l (.frz {cls:=.type "list",data:=.seq its'.toArray n' } (.own 0))=H5 at I5
  have k25:uQ [l] H1 H5:=fun b u nb eb=>by
   have hbl:b≠l:=fun z=>nb (by rw[z];exact R4.mpr rfl)
   subst hH5
   rw[aq hbl,aq hbl,aq hbl];exact eb
  have hL5:H5 l=some (.frz {cls:=.type "list",data:=.seq its'.toArray n' } (.own 0)):=by subst hH5;exact au
  have ml:t9 [l] H1:=fun b hb=>by rw[R4.mp hb,hL];trivial
  have hla:a≠l:=fun z=>by rw[z,hL] at hH;cases hH
  have hH5a:H5 a=some (.ins C dx (ks.zip xs)):=k25 a _ (fun z=>hla (R4.mp z)) hH
  have kq:∀{d:D} {v:V},uC d=true->Rep X.K H1 d v->Rep X.K H5 d v:=fun hn r=>Rep.kq ml k25 hn r
  have rl:Rep X.K H5 (.obj 0 l ls es.dropLast) (.ref l):=⟨ys.dropLast,rfl,⟨hz',its',n',rv',hL5⟩,i5.kq ml k25 (kB h5) ty.dropLast⟩
  obtain⟨g1,g2⟩:=gL hkey hlk t hl h6 kq rl
  have rob:Rep X.K H5 (.obj (C+2) a (putD ks ds f (.obj 0 l ls es.dropLast)).1 (putD ks ds f (.obj 0 l ls es.dropLast)).2) (.ref a):=by
   rw[g1]
   exact⟨xs,rfl,⟨hl,dx,hH5a⟩,g2⟩
  have hlS:l∈S:=by simpa using h7
  have kqS:uQ S H1 H5:=k25.mono fun b hb=>by rw[R4.mp hb];exact hlS
  have mS:t9 S H5:=fun b hb=>by
   by_cases hbl:b=l
   ·rw[hbl,hL5];trivial
   ·have hm:=m b hb
    cases hb2:H1 b with
    | none=>rw[hb2] at hm;exact hm.elim
    | some u=>rw[k25 b u (fun z=>hbl (R4.mp z)) hb2];rw[hb2] at hm;exact hm
  exact⟨_,H5,I5,r4,rfl,kqS,mS,kq (mf h5 (S_ hlast)) rw1,iN er m kqS h2 hσ rob⟩
 ·subst ey
  refine zC I5 hNd hj hy r5 (fun s2 I6=>⟨_,H5,I6,q H5 kq mS _ (er5.set (by simpa using hjl) rd)⟩) hf
end
end HW
namespace HW
open PySem
def Ee(i:Nat)(mk:LD->Nat->Nat->OD)(ds:LD)(w:MU)(S:List Nat)(ρ:R)(r:D):Prop:=∀a l,a≠l->a∉S->l∉S->∃ob ρ',mk ds a l=some ob/\w (a::l::S) (ρ.set i (some ob))=some (.rt r ρ')
theorem Ie(S:List Nat):∃a l:Nat,a≠l/\a∉S/\l∉S:=by
 have h:∀S:List Nat,∃n,∀x∈S,x<n:=fun S=>by
  induction S with
  | nil=>exact⟨0,fun _ h=>by cases h⟩
  | cons y S ih =>
   obtain⟨n,hn⟩:=ih
   refine⟨n+y+1,fun x hx=>?_⟩
   rcases Sf.mp hx with rfl | hx
   ·omega
   ·have:=hn x hx;omega
 obtain⟨n,hn⟩:=h S
 exact⟨n,n+1,by omega,fun z=>by have:=hn _ z;omega,fun z=>by have:=hn _ z;omega⟩
theorem Ee.uniq{i:Nat}{mk:LD->Nat->Nat->OD}{ds:LD}{w:MU}{S:List Nat}{ρ:R}{r r':D}(h:Ee i mk ds w S ρ r)(h':Ee i mk ds w S ρ r'):r=r':=by
 obtain⟨a,l,h1,h2,h3⟩:=Ie S
 obtain⟨ob,ρ1,e1,e2⟩:=h a l h1 h2 h3
 obtain⟨pb,ρ2,f1,f2⟩:=h' a l h1 h2 h3
 rw[e1] at f1;cases f1
 rw[e2] at f2
 exact(MO.rt.inj (Si f2)).1
def NK(i:Nat)(mk:LD->Nat->Nat->OD)(F:R->RT LD)(w:MU):MU:=fun S ρ=>(F ρ).bind fun ds=>open Classical in
 if h:i<ρ.length/\∃r,Ee i mk ds w S ρ r then some (.rt h.2.choose []) else none
theorem Ml{i:Nat}{mk:LD->Nat->Nat->OD}{F:R->RT LD}{w:MU}{S:List Nat}{ρ:R}{ds:LD}{r:D}(h1:F ρ=some ds)(hi:i<ρ.length)(h2:Ee i mk ds w S ρ r):NK i mk F w S ρ=some (.rt r []):=by
 unfold NK
 have q:i<ρ.length/\∃r,Ee i mk ds w S ρ r:=⟨hi,r,h2⟩
 rw[h1,RZ,dif_pos q]
 exact congrArg (fun x=>some (MO.rt x [])) (Ee.uniq q.2.choose_spec h2)
theorem Nh{i:Nat}{mk:LD->Nat->Nat->OD}{F:R->RT LD}{w:MU}{S:List Nat}{ρ:R}{o:MO}(h:NK i mk F w S ρ=some o):∃ds r,F ρ=some ds/\i<ρ.length/\o=.rt r []/\Ee i mk ds w S ρ r:=by
 unfold NK at h
 cases e:F ρ with
 | none=>rw[e] at h;cases h
 | some ds =>
  rw[e,RZ] at h
  split at h
  ·rename_i q
   cases h
   exact⟨ds,_,rfl,q.1,rfl,q.2.choose_spec⟩
  ·cases h
end HW
namespace HW
open PySem PySem.Spec PyProof.Rows L2
section
variable{X:Cx}{pos:Pos}{C:Nat}{f:Str}
theorem Iv{g:MU}{F:R->RT LD}{ps:List Str}{NI:Nat}{ρ:R}{σ:L2.St}{H:Hp}{ds:LD}{Q:VK}(hn:ds.length+1=ps.length)(er:ut X.K H ρ σ)(e1:F ρ=some ds)(hw:∀a,H a=none->∃l ob,yk NI C f g ds a l=some ob)
  (q:∀a l ob H',H a=none->H l=none->a≠l->yk NI C f g ds a l=some ob->i6 H H'->Rep X.K H' ob (.ref a)->t9 [a,l] H'->Q (.ref a) H'):K7 C (NF X.K ps.length NI C f g) [] E0 (Oq X.K F) σ H Q:=by
 refine⟨ρ,ds,er,e1,fun vs H1 s1 r1 a dx ha0 hdx hne=>?_⟩
 rw[Sw]
 have sn:i6 H1 (upd (upd H1 dx (.own a)) a (.ins C dx [])):=(bh hdx _).trans (bh (by rw[aq (Ne.symm hne)];exact ha0) _)
 have hHa:H a=none:=by
  cases hb:H a with
  | none=>rfl
  | some u=>rw[s1 a u hb] at ha0;cases ha0
 refine⟨a,ds,hn,⟨.ref a,vs,rfl,⟨[],rfl,⟨rfl,dx,au⟩,rfl⟩,r1.mono sn⟩,fun l=>?_,fun l ob H' hl hmk kq ro=>⟨rfl,q a l ob H' hHa ?_ ?_ hmk ?_ ro ?_⟩⟩
 ·obtain⟨_,ob,h1⟩:=hw a hHa
  exact CJ h1 l
 ·cases hb:H l with
  | none=>rfl
  | some u=>rw[sn l u (s1 l u hb)] at hl;cases hl
 ·intro z;rw[<- z,au] at hl;cases hl
 ·intro b u hb
  have hba:b≠a:=fun z=>by rw[z,hHa] at hb;cases hb
  exact kq b u (fun z=>hba (R4.mp z)) (sn b u (s1 b u hb))
 ·have:=xy ro
  rw[Ew hmk] at this
  exact this
theorem rB{x cn:Str}{e:Sr}{es:List Sr}{sts:List So}{F:R->RT LD}{g w:MU}{fi:RY}{fd:SV}{ps:List Str}{k NI:Nat}{px p p1:Pos}(i:Nat)(hN:X.N.Nodup)(M:Mk X.K C fi)(Fn:k6 X.prog X.w X.K X.mg X.base ue k fi fd ps (NF X.K ps.length NI C f g))(bd:Binds X.K fd ps [])
  (hr:ua (k+1) X.A) (hm:X.mg cn=some (.ref C)) (ha:SA X (e::es) F) (h2:EL X sts w) (hn:(e::es).length+1=ps.length:=by rfl) (hg:Gl X cn:=by rfl) (hdb:(cn==("__debug__" : Str))=false:=by decide) (hix:X.N[i]?=some x:=by rfl) (hx:Loc X.env.scope x:=by first | exact Or.inl rfl | exact Or.inr rfl)
  (hs:swapsWith (.Call (.Name cn p) (e::es) [] p1) (some (.Name x px)) pos.line X.env=pure false:=by rfl) (hf:X.fn x=true\/X.env.scope.names.lookup x=some .local:=by first | exact .inl rfl | exact .inr rfl) :
  EL X (.Assign [.Name x px] (.Call (.Name cn p) (e::es) [] p1) pos::sts) (NK i (yk NI C f g) F w):=by
 have hst:=ha.2.2
 rw[SL,R1] at hst
 have he:=aF es X.env hst.1
 have hpl:=bv (pos:=p1) (env:=X.env) hst.2
 intro S pins s σ H E I ⟨ρ,τ,o,er,mS,eo,qq⟩
 obtain⟨ds,r,e1,hi,rfl,hw⟩:=Nh eo
 have nin:∀{c:Nat},H c=none->c∉S:=fun {c} hc hz=>by
  have:=mS c hz
  rw[hc] at this;exact this
 have mk1:∀a,H a=none->∃l ob,yk NI C f g ds a l=some ob:=fun a h=>by
  obtain⟨b,l,_,h2,h3⟩:=Ie (a::S)
  obtain⟨ob,_,h1,_⟩:=hw a l (fun z=>h3 (by rw[z];exact .head _)) (nin h) (fun z=>h3 (.tail _ z))
  exact⟨l,ob,h1⟩
 refine wpAny_execs_cons (uo ((ib (i:=i) hN hix hx (oF M Fn hr hg hm bd .nil ym ha.1 hdb he hpl) hs hf) pins s σ H {E with nx:=fun σ' H'=>∃a l ob,H a=none/\H l=none/\a≠l/\σ'=σ.set i (some (.ref a))/\yk NI C f g ds a l=some ob/\i6 H H'/\Rep X.K H' ob (.ref a)/\t9 [a,l] H' } I ?_) fun fl s1 z=>?_)
 ·exact Iv (by rw[ha.2.1 ρ ds e1];exact hn) er.1 e1 mk1 fun a l ob H1 ha0 hl0 hal hmk sm ro ms=>⟨a,l,ob,ha0,hl0,hal,rfl,hmk,sm,ro,ms⟩
 cases fl with
 | next =>
  obtain⟨σ',H',I',a,l,ob,hHa,hHl,hal,rfl,hmk,sm,ro,ms⟩:=z
  obtain⟨ob',ρ',h1,h3⟩:=hw a l hal (nin hHa) (nin hHl)
  rw[hmk] at h1
  cases h1
  have mS':t9 (a::l::S) H':=fun b hb=>by
   rcases Sf.mp hb with rfl | hb
   ·exact ms _ (.head _)
   ·rcases Sf.mp hb with rfl | hb
    ·exact ms _ (.tail _ (.head _))
    ·exact mS.same sm b hb
  refine h2 (a::l::S) pins s1 _ H' E I' ⟨ρ.set i (some ob),τ,_,(er.mono sm).set hi ro,mS',h3,fun H2 kq m2=>?_⟩
  intro v rv _
  refine qq H2 (fun b u hn hb=>?_) (fun b hb=>m2 b (.tail _ (.tail _ hb))) v rv (fun j d hj=>by cases hj)
  refine kq b u (fun z=>?_) (sm b u hb)
  rcases Sf.mp z with rfl | z
  ·rw[hHa] at hb;cases hb
  ·rcases Sf.mp z with rfl | z
   ·rw[hHl] at hb;cases hb
   ·exact hn z
 | brk=>exact z
 | cont=>exact z
 | ret v=>exact z
end
structure ES (B:Sq) (l:List Env) (e C:RY) (h:Sq):Prop where
 st:B.StaysIn h
 ne:B.get? e=none
 fr:h.FunFrames B l
 tr:∃a0 fl,h.TracedAtW B e (.ref C) a0 fl
section
variable{M:Model}{A:Sv}{E:RU->RX->Prop}{s:RX}{B:Sq}{env env':Env}{outer:List Env}{L e C:RY}{Q:Unit->RX->Prop}
theorem EB(hfr:A.frames=some (env::outer))(hf:env.frame=some L)(x:ES B (env::outer) e C s.heap)
  (hQ:∀h',ES B (env::outer) e C h'->s.heap.UpToSlots h'->Q () {s with heap:=h' }):wpAny M A (noteFrame (.ref e) env) Q E s:=by
 obtain⟨st,ne,fr,a0,fl,tr⟩:=x
 obtain⟨oe,vs,T,oT,ts,he,⟨hc,h0⟩,hd,h1,hnT,hTe,hT,hdT,h3⟩:=id tr
 unfold noteFrame
 simp only[hf]
 refine RV (wpAny_field he hd h1 ?_)
 rw[R3 (show(Value.ref T != Value.none)=true by simp)]
 refine RV (wpAny_field hT hdT h3 ?_)
 by_cases hq:(fl==rawInt L)=true
 ·rw[R3 hq]
  exact R5 (hQ s.heap ⟨st,ne,fr,a0,fl,tr⟩ (Heap.UpToSlots.refl _))
 ·rw[Sa hq]
  refine RV (wpAny_setField hT hdT (Array.getElem?_eq_some_iff.mp h3).1 ?_)
  generalize hg:s.heap.update T (Obj.mapFields fun a=>a.setIfInBounds 3 Value.none)=g
  have oth:∀b,b≠T->g.get? b=s.heap.get? b:=fun b hb=>by rw[<- hg];exact SC _ _ (Ne.symm hb)
  have nrec:∀b o,s.heap.get? b=some o->(∀ws,o.data≠.fields ws)->b≠T:=fun b o hb hn z=>by
   rw[z,hT] at hb
   cases hb
   exact hn ts hdT
  have stg:B.StaysIn g:=fun b o hb=>(oth b fun z=>by rw[z,hnT] at hb;cases hb).trans (st b o hb)
  have frg:g.FunFrames B (env::outer):=fr.of_keeps fun b o hb hn=>⟨o,(oth b (nrec b o hb hn)).trans hb,rfl⟩
  have heg:g.get? e=some oe:=(oth e (Ne.symm hTe)).trans he
  refine wpAny_entryW (s:={s with heap:=g}) hfr frg hf heg stg ne hd (Array.getElem?_eq_some_iff.mp h1).1 h0 fun h' ⟨k1,k2,k3,k4⟩=>?_
  refine hQ h' ⟨k1,ne,k2,a0,_,by rw[<- hc];exact k3⟩ fun b o hb hn=>k4 b o ((oth b (nrec b o hb hn)).trans hb) hn
theorem zi{fo:RT RY}(x:ES B outer e C s.heap)(hQ:∀h',ES B outer e C h'->s.heap.UpToSlots h'->Q () {s with heap:=h' }):wpAny M A (setFlight (.ref e) fo) Q E s:=by
 obtain⟨st,ne,fr,a0,fl,tr⟩:=x
 obtain⟨oe,vs,T,oT,ts,he,hc,hd,h1,hnT,hTe,hT,hdT,h3⟩:=tr
 have hsz:3<ts.size:=(Array.getElem?_eq_some_iff.mp h3).1
 unfold setFlight
 refine RV (wpAny_field he hd h1 ?_)
 rw[R3 (show(Value.ref T != Value.none)=true by simp)]
 refine wpAny_setField hT hdT hsz ?_
 generalize fo.elim Value.none (fun f=>rawInt f)=nf
 have oth:∀b,b≠T->(s.heap.update T (Obj.mapFields fun a=>a.setIfInBounds 3 nf)).get? b=s.heap.get? b:=fun b hb=>SC _ _ (Ne.symm hb)
 have nrec:∀b o,s.heap.get? b=some o->(∀ws,o.data≠.fields ws)->b≠T:=fun b o hb hn z=>by
  rw[z,hT] at hb
  cases hb
  exact hn ts hdT
 refine hQ _ ⟨fun b o hb=>(oth b fun z=>by rw[z,hnT] at hb;cases hb).trans (st b o hb),ne,fr.of_keeps fun b o hb hn=>⟨o,(oth b (nrec b o hb hn)).trans hb,rfl⟩,a0,nf,
  oe,vs,T,_,_,(oth e (Ne.symm hTe)).trans he,hc,hd,h1,hnT,hTe,Tf _ hT (Obj.isFreed_of_fields (Obj.data_mapFields hdT _)),Obj.data_mapFields hdT _,by simp[hsz]⟩ fun b o hb hn=>⟨o.slots,(oth b (nrec b o hb hn)).trans hb⟩
theorem ES.low(x:ES B (env::outer) e C s.heap):ES B outer e C s.heap:=⟨x.st,x.ne,x.fr.2.2,x.tr⟩
theorem CK(hfr:A.frames=some (env::outer))(hf:env.frame=some L)(x:ES B (env::outer) e C s.heap)
  (hQ:∀h',ES B outer e C h'->s.heap.UpToSlots h'->Q () {s with heap:=h' }):wpAny M A (leaving env (.ref e)) Q E s:=by
 unfold leaving
 refine RV (EB hfr hf x fun h1 x1 u1=>zi (s:={s with heap:=h1}) x1 fun h2 x2 u2=>?_)
 exact hQ h2 (ES.low (s:={s with heap:=h2}) x2) (u1.trans u2)
end
def AN(P:R9)(w:Sk):DU:=fun outer H s E ev s'=>∃e C B H',ev=.ref e/\s'.os=s.os/\AllBare s'.gens/\ES B outer e C s'.heap/\Un (xu outer) [] H H' s.heap s'.heap/\y4 P w H' s'.heap /\
 (∀b o,s.heap.get? b=some o->b∉xu outer->∃o',B.get? b=some o')/\(∀b u,H' b=some u->∃o',B.get? b=some o')/\i6 H H'/\E (.ref C) none H'
structure QW (X:Cx) (pins:List (RY×Obj)) (σ:L2.St) (B:Sq) (e C:RY) (H':Hp) (s':RX):Prop where
 inv:L2.Inv X pins σ H' s'
 ent:∀b o,X.s₀.heap.get? b=some o->b∉xu X.stack->b∉X.ex->∃o',B.get? b=some o'
 hld:∀b u,H' b=some u->∃o',B.get? b=some o'
 loc:X.env.locals∉xu X.stack->∃o',B.get? X.env.locals=some o'
 pin:∀p∈X.pn++pins,∃o',B.get? p.1=some o'
 exc:ES B X.stack e C s'.heap
def Rr(X:Cx)(e C:RY)(H':Hp)(s':RX):Prop:=∃pins σ B,QW X pins σ B e C H' s'
def XW(X:Cx)(C:RY)(H':Hp):Prop:=∀e s',Rr X e C H' s'->X.xe (.ref e) s'
def EX(X:Cx):XK:=fun Cv _ H'=>∃C,Cv=.ref C/\XW X C H'
section
variable{X:Cx}{pins:List (RY×Obj)}{σ:L2.St}{H H':Hp}{s s':RX}{e C:RY}
theorem ML {E:XK} (I:L2.Inv X pins σ H s) (h:∃B,s'.os=s.os/\AllBare s'.gens/\ES B X.stack e C s'.heap/\Un (xu X.stack) [] H H' s.heap s'.heap/\y4 X.prog X.w H' s'.heap /\
  (∀b o,s.heap.get? b=some o->b∉xu X.stack->∃o',B.get? b=some o')/\(∀b u,H' b=some u->∃o',B.get? b=some o')):∃B,QW X pins σ B e C H' s':=by
 obtain⟨B,os,bare,x,un,hok,c1,c2⟩:=h
 refine⟨B,I.call' (ch:=[]) os un hok bare (fun b hb=>Sm hb (by simp)),fun b o hb hn hx=>?_,c2,fun hn=>?_,fun p hp=>?_,x⟩
 ·obtain⟨o1,e1⟩:=I.base.there b o hb hx
  exact c1 b o1 e1 hn
 ·obtain⟨m,hm,_⟩:=I.loc
  obtain⟨o,_,_,ho,_⟩:=id hm
  exact c1 _ o ho hn
 ·obtain⟨e1,e2,e3,e4,_⟩:=I.pin p hp
  refine c1 p.1 p.2 e1 fun hm=>?_
  rcases Sf.mp (I.stkSub p.1 hm) with z | z
  ·exact e3 z
  ·exact e4 z
theorem LB:yo (AN X.prog X.w) X (EX X):=fun pins σ H s ev s' I ⟨e,C,B,H',ee,os,bare,x,un,hok,c1,c2,sm,C',eC,w⟩=>by
 subst ee
 cases eC
 obtain⟨B',xa⟩:=ML (E:=EX X) I ⟨B,os,bare,x,un,hok,c1,c2⟩
 exact w e s' ⟨pins,σ,B',xa⟩
theorem zz{P:R9}{w:Sk}{B h h':Sq}(hok:y4 P w H' h)(st:B.StaysIn h)(st':B.StaysIn h')(c2:∀b u,H' b=some u->∃o',B.get? b=some o'):y4 P w H' h':=fun a o ha =>
 (hok a o ha).stay (fun b u hb e=>by
  have hH:∃v,H' b=some v:=by
   rcases hb with z | z
   ·exact⟨o,z ▸ ha⟩
   ·exact⟨_,z⟩
  obtain⟨v,hv⟩:=hH
  obtain⟨o',e'⟩:=c2 b v hv
  have:=st b o' e'
  rw[e] at this
  cases this
  exact st' b u e') (fun _ z=>z) (fun _ _ z=>z) (fun _ _ _ z=>z)
theorem AM{fs ex:List RY}{H0:Hp}{B h0 h h':Sq}(u:Un fs ex H0 H' h0 h)(st:B.StaysIn h)(st':B.StaysIn h')(up:∀b∈fs,∀o,h.get? b=some o->(∀ws,o.data≠.fields ws)->∃sl,h'.get? b=some {o with slots:=sl})(nf:∀b∈fs,∃o,h.get? b=some o/\∀ws,o.data≠.fields ws)(c:∀b o,h0.get? b=some o->b∉fs->b∉ex->∃o',B.get? b=some o'):Un fs ex H0 H' h0 h':=by
 refine⟨fun b o hb n hf hx=>?_,fun b o hb n hf hx=>?_,u.free,fun b o hb hx=>?_,u.tups,u.frzs,u.tbls⟩
 ·obtain⟨o',e'⟩:=c b o hb hf hx
  have e1:=u.keep b o hb n hf hx
  have e2:=st b o' e'
  rw[e1] at e2
  cases e2
  exact st' b o e'
 ·obtain⟨sl,e1⟩:=u.slot b o hb n hf hx
  obtain⟨o1,e2,nd⟩:=nf b hf
  rw[e1] at e2
  cases e2
  obtain⟨sl2,e3⟩:=up b hf _ e1 nd
  exact⟨sl2,e3⟩
 ·by_cases hf:b∈fs
  ·obtain⟨o1,e2,nd⟩:=nf b hf
   obtain⟨sl2,e3⟩:=up b hf _ e2 nd
   exact⟨_,e3⟩
  ·obtain⟨o',e'⟩:=c b o hb hf hx
   exact⟨o',st' b o' e'⟩
end
section
variable{P:R9}{w:Sk}{K:RW}{mg:Str->RT RU}{base:Sq}{N:List Str}{qual:Str}{scope:Scope}{f:RY}{cd:RU}{A:Sv}{outer:List Env}{s:RX}{H H':Hp}{E:XK}{C:RY}
theorem Ma(hE:E (.ref C) none H')(hS:i6 H H'):XW (yj (AN P w) P w K mg base N qual scope f cd A outer s H E) C H':=fun e s' ⟨pins,σ,B,I',c1,c2,_,_,x⟩=>by
 show wpAny (model P w) (A.deeper (envOfC qual scope s.heap.objs.size f cd)) (leaving (envOfC qual scope s.heap.objs.size f cd) (.ref e)) (fun _ s''=>AN P w outer H s E (.ref e) s'') (fun e' s''=>AN P w outer H s E e' s'') s'
 refine CK I'.ok.frames rfl x fun h' x' up=>?_
 have hfn:∀b o,s.heap.get? b=some o->b∉xu outer->b∉xu (envOfC qual scope s.heap.objs.size f cd::outer):=fun b o hb hn hm=>by
  have hm':b∈s.heap.objs.size::xu outer:=hm
  rcases Sf.mp hm' with z | z
  ·rw[z] at hb;exact SN _ (R_ hb)
  ·exact hn z
 have cov:∀b o,s.heap.get? b=some o->b∉xu outer->∃o',B.get? b=some o':=fun b o hb hn=>c1 b o hb (hfn b o hb hn) (by intro z;cases z)
 exact⟨e,C,B,H',rfl,I'.os,I'.bare,x',AM I'.base x.st x'.st (fun b _ o=>up b o) (fun b hb=>by
   obtain⟨_,o,ho,nd⟩:=x.fr.mem (Su _ hb:b∈s.heap.objs.size::xu outer)
   exact⟨o,ho,nd⟩) (fun b o hb hf _=>cov b o hb hf),zz I'.hok x.st x'.st c2,cov,c2,hS,hE⟩
end
section
variable{X:Cx}{pins:List (RY×Obj)}{σ:L2.St}{H H':Hp}{s s':RX}{e C:RY}{B h':Sq}
theorem HX(I:L2.Inv X pins σ H s)(st:B.StaysIn s.heap)(st':B.StaysIn h')(up:∀b∈X.env.locals::X.fs,∀o,s.heap.get? b=some o->(∀ws,o.data≠.fields ws)->∃sl,h'.get? b=some {o with slots:=sl})
  (ent:∀b o,X.s₀.heap.get? b=some o->b∉X.fs->b∉X.ex->∃o',B.get? b=some o') (hld:∀b u,H b=some u->∃o',B.get? b=some o') (pin:∀p∈X.pn++pins,∃o',B.get? p.1=some o')
  (cel:∀x c,X.env.cells.lookup x=some c->∃o',B.get? c=some o'):L2.Inv X pins σ H {s with heap:=h' }:=by
 have same:∀b o,(∃o',B.get? b=some o')->s.heap.get? b=some o->h'.get? b=some o:=fun b o ⟨o',e'⟩ hb=>by
  have:=st b o' e'
  rw[hb] at this
  cases this
  exact st' b o e'
 have nsL:∀m,s.heap.Ns X.env.locals m->h'.Ns X.env.locals m:=fun m hm=>by
  obtain⟨o,es,ep,ho,hd,r⟩:=hm
  obtain⟨sl,hs⟩:=up _ SY o ho fun ws q=>by rw[hd] at q;cases q
  exact⟨_,es,ep,hs,hd,r⟩
 have cellK:∀x c v,X.env.cells.lookup x=some c->s.heap.IsCell c v->h'.IsCell c v:=fun x c v hc ⟨o,ho,hd⟩=>⟨o,same c o (cel x c hc) ho,hd⟩
 obtain⟨m,hm,hl⟩:=I.loc
 refine⟨I.ok,I.os,I.bare,AM I.base st st' (fun b hb o=>up b (Su _ hb) o) (fun b hb=>?_) ent,⟨m,nsL m hm,fun i x v h1 h2 h3=>?_⟩,fun x c hc=>?_,I.free,I.freeC,fun p hp=>?_,zz I.hok st st' hld,I.len⟩
 ·obtain⟨_,o,ho,nd⟩:=I.ok.funs.mem hb
  have hn:=I.ok.frf b hb
  by_cases hx:b∈X.ex
  ·exact Sm hb (I.ok.exfs b hx)
  ·obtain⟨sl,e1⟩:=I.base.any ho hn hx
   exact⟨_,e1,nd⟩
 ·obtain⟨u,r,lk⟩:=hl i x v h1 h2 h3
  refine⟨u,r,?_⟩
  rcases lk with q | ⟨k,c,hc,z⟩
  ·exact .inl q
  ·exact .inr ⟨k,c,hc,cellK x c _ hc z⟩
 ·obtain⟨v,z⟩:=I.cell x c hc
  exact⟨v,cellK x c v hc z⟩
 ·obtain⟨e1,e2,e3,e4,e5⟩:=I.pin p hp
  exact⟨same _ _ (pin p hp) e1,e2,e3,e4,e5⟩
end
end HW
namespace HW
open PySem
abbrev XD:=R->RT (Except Nat D)
abbrev XO:=R->RT (Except Nat Out)
def Fd(k:Nat)(f:R->OD):XO:=fun ρ=>(f ρ).map fun _=>.error k
def CM:LD->OD
 | [.lst es,.bl k]=>(bools es).bind fun bs=>if bs.length<=1000 then some (.int ((bs.countP (·==k):Nat):Int)) else none
 | _=>none
def CN:LD->OD
 | [.lst es,.bl k]=>(bools es).bind fun bs=>if k∈bs/\bs.length<=1000 then some (.int ((bs.idxOf k:Nat):Int)) else none
 | _=>none
def GJ(j a:Nat)(b:Bool):R->OD:=fun ρ=>match c5 j ρ with
 | some (.rf a')=>if a'=a then some (.bl b) else none
 | _=>none
def M2(n j e:Nat):R:=(List.replicate n none).set j (some (.rf e))
end HW
namespace HW
open PySem PySem.Spec PyProof.Rows L2
abbrev VE:List RU:=[.type "ValueError",.type "Exception",.type "BaseException",.type "object"]
def NG:List Str:=["__init__","__getattribute__","__getattr__","__class__"]
def GP(K:RW)(C:RY)(bm:List RU)(newId:String):Prop:=
 ∃N nm q bs hdct sn sub ab col dd k0 k1 k2 k3 k5 mN,(∀n∈NG,mN n=none)/\∀h,K.In h->h.get? C=some (excClassObj nm q C N bs bm hdct sn sub ab col dd k0 k1 k2 k3 k5 newId)/\h.Ns N mN
structure EI (K:RW) (C Wz:RY) (newId nW:String):Prop where
 own:GP K C (.ref Wz::VE) newId
 base:GP K Wz VE nW
theorem EI.tail{K:RW}{C Wz:RY}{newId nW:String}(T:EI K C Wz newId nW){h:Sq}(x:K.In h):OwnTail h VE (.ref Wz::VE):=by
 obtain⟨N,nm,q,bs,hdct,sn,sub,ab,col,dd,k0,k1,k2,k3,k5,mN,hq,hh⟩:=T.base
 exact .own (hh h x).1 (hh h x).2 (hq _ (.head _)) .base
def XM(X:Cx)(C:RY)(H':Hp):Prop:=∀pins σ s e h' vs,L2.Inv X pins σ H' s->Heap.MadeExcOf s.heap h' e (.ref C) vs->X.xe (.ref e) {s with heap:=h' }
def XT(X:Cx)(C:RY)(H':Hp):Prop:=XW X C H'/\XM X C H'
theorem D9{P:R9}{w:Sk}{H:Hp}{h:Sq}{a:RY}{o:HO}(x:vn P w H h a o):∃ob,h.get? a=some ob:=by
 cases o with
 | lst xs=>obtain⟨_,_,_,_,e⟩:=x;exact⟨_,e⟩
 | tup xs=>obtain⟨_,_,_,p⟩:=x;obtain⟨o,e,_⟩:=p;exact⟨_,e⟩
 | dK kvs=>obtain⟨_,_,_,_,o,_,_,e,_⟩:=x;exact⟨_,e⟩
 | dT kvs=>obtain⟨_,_,_,_,o,_,_,e,_⟩:=x;exact⟨_,e⟩
 | set S n=>obtain⟨o,_,_,_,e,_⟩:=x;exact⟨_,e⟩
 | ins C dx fs=>obtain⟨_,_,_,e,_⟩:=x;exact⟨_,e⟩
 | own y=>obtain⟨_,e⟩:=x;exact⟨_,e⟩
 | xd fs=>obtain⟨_,⟨_,_,_,e,_⟩,_⟩:=x;exact⟨_,e⟩
 | rng lo hi=>obtain⟨_,_,_,e⟩:=x;exact⟨_,e⟩
 | frz ob u=>obtain⟨e,_⟩:=x;exact⟨_,e⟩
 | tbl q c =>
  cases c with
  | true=>obtain⟨_,o,_,_,e,g,_⟩:=(show h.CodeRec (.ref a) q from x);cases e;exact⟨_,g⟩
  | false=>obtain⟨_,e,_⟩:=x;exact⟨_,e⟩
 | met f y=>exact⟨_,(show h.get? a=some _ from x)⟩
 | ext φ=>obtain⟨_,⟨_,e⟩,_⟩:=x;exact⟨_,e⟩
section
variable{P:R9}{w:Sk}{K:RW}{mg:Str->RT RU}{base:Sq}{N:List Str}{qual:Str}{scope:Scope}{f:RY}{cd:RU}{A:Sv}{outer:List Env}{s:RX}{H H':Hp}{E:XK}{C:RY}
theorem Nn(hE:E (.ref C) none H')(hS:i6 H H'):XM (yj (AN P w) P w K mg base N qual scope f cd A outer s H E) C H':=fun pins σ s1 e h1 vs I hm=>by
 show wpAny (model P w) (A.deeper (envOfC qual scope s.heap.objs.size f cd)) (leaving (envOfC qual scope s.heap.objs.size f cd) (.ref e)) (fun _ s''=>AN P w outer H s E (.ref e) s'') (fun e' s''=>AN P w outer H s E e' s'') {s1 with heap:=h1}
 generalize hl:xu (envOfC qual scope s.heap.objs.size f cd::outer)=l
 have hin:∀env∈(envOfC qual scope s.heap.objs.size f cd::outer),∀b,env.frame=some b->b∈l:=fun env he b hb=>by rw[<- hl];exact List.mem_filterMap.mpr ⟨env,he,hb⟩
 have stB:(W.hideAll s1.heap l).StaysIn s1.heap:=fun b o q=>W.of_hideAll _ q
 refine wpAny_leaves_madeW (s:={s1 with heap:=h1}) (base:=W.hideAll s1.heap l) (h:=s1.heap) I.ok.frames rfl stB (W.funFrames_hide I.stack hin) hm fun h' t fl _ _ up=>?_
 obtain⟨f1,f2,f3,f4⟩:=fl
 have cov:∀b o,s.heap.get? b=some o->b∉xu outer->∃o',(W.hideAll s1.heap l).get? b=some o':=fun b o hb hn=>by
  obtain⟨o1,e1⟩:=I.base.there b o hb (by intro z;cases z)
  refine⟨o1,W.hideAll_get _ e1 fun z=>?_⟩
  rw[<- hl] at z
  have z':b∈s.heap.objs.size::xu outer:=z
  rcases Sf.mp z' with q | q
  ·rw[q] at hb;exact SN _ (R_ hb)
  ·exact hn q
 have c2:∀b u,H' b=some u->∃o',(W.hideAll s1.heap l).get? b=some o':=fun b u hb=>by
  obtain⟨ob,e1⟩:=D9 (I.hok b u hb)
  refine⟨ob,W.hideAll_get _ e1 fun z=>?_⟩
  rw[<- hl] at z
  rw[I.stkFree b z] at hb
  cases hb
 exact⟨e,C,_,H',rfl,I.os,I.bare,⟨f1,f2,f3,_,_,f4.at⟩,AM I.base stB f1 (fun b _ o=>(Heap.UpToSlots.of_keeps hm.keeps).trans up b o) (fun b hb=>by
   obtain⟨_,o,ho,nd⟩:=I.stack.mem (Su _ hb:b∈s.heap.objs.size::xu outer)
   exact⟨o,ho,nd⟩) (fun b o hb hf _=>cov b o hb hf),zz I.hok stB f1 c2,cov,c2,hS,hE⟩
theorem Mb(hE:E (.ref C) none H')(hS:i6 H H'):XT (yj (AN P w) P w K mg base N qual scope f cd A outer s H E) C H':=⟨Ma hE hS,Nn hE hS⟩
end
section
variable(cl:Nat->RY)
def Ro(X:Cx)(g:XO):TS:=fun E σ H=>∃ ρ τ r,uq X.K H ρ τ σ/\g ρ=some r/\match r with
 | .ok o=>∀H',i6 H H'->fin X.K E τ o H'
 | .error c=>∀H',i6 H H'->XT X (cl c) H'
def Rt(K:RW)(F:LD->RT (Except Nat D)):Sp:=fun vs H Q E=>∃ds r,i5 K H ds vs/\F ds=some r/\match r with
 | .ok d=>∀v H',i6 H H'->Rep K H' d v->Q v H'
 | .error c=>∀H',i6 H H'->E (.ref (cl c)) none H'
def Qs(X:Cx)(s:So)(g:XO):Prop:=PS X s (Ro cl X g)
end
section
variable{X:Cx}{cl:Nat->RY}{e:Sr}{es:List Sr}{st:So}{sts:List So}{pos p:Pos}{f:R->OD}{fx:XD}{g:XO}{u:R->RT Out}
structure GU (P:R9) (w:Sk) (K:RW) (mg:Str->RT RU) (base:Sq) (cl:Nat->RY) (k:Nat) (x:Str) (ps:List Str) (F:LD->RT (Except Nat D)):Prop where
 ex:∃f fd,k6 P w K mg base (AN P w) k f fd ps (Rt cl K F)/\mg x=some (.ref f)/\W.keepIn K (.ref f)=true/\Binds K fd ps []
theorem GU.mono{P:R9}{w:Sk}{K:RW}{mg:Str->RT RU}{base:Sq}{j k:Nat}{x:Str}{ps:List Str}{F:LD->RT (Except Nat D)}(h:GU P w K mg base cl j x ps F)(hk:j<=k):GU P w K mg base cl k x ps F:=by
 obtain⟨f,fd,a,b⟩:=h.ex
 exact⟨f,fd,a.mono hk,b⟩
theorem GU.m{P:R9}{w:Sk}{K:RW}{mg:Str->RT RU}{base:Sq}{j k:Nat}{x:Str}{ps:List Str}{F:LD->RT (Except Nat D)}(h:GU P w K mg base cl j x ps F)(hk:j<=k:=by decide):GU P w K mg base cl k x ps F:=h.mono hk
theorem I8{c:Nat}{x:Str}{Wz:RY}{newId nW Bn inN:String}{bmN:List RU}{np cpos:Pos}(T:EI X.K (cl c) Wz newId nW)(Fn:ExcBaseFacts Bn newId inN bmN)(hBn:VE.contains (.type Bn)=true)(hc:X.calm=true)(hm:X.mg x=some (.ref (cl c)))(ha:SE X e f)
  (hg:Gl X x:=by rfl) (hd:(x==("__debug__" : Str))=false:=by decide) (hst:noStar e=true:=by rfl):Qs cl X (.Raise (some (.Call (.Name x np) [e] [] cpos)) none pos) (Fd c f):=by
 intro pins s σ H D I ⟨ρ,τ,r,er,e1,q⟩
 obtain⟨d,e2,e3⟩:=t7 e1
 subst e3
 obtain⟨N,nm,qq,bs,hdct,sn,sub,ab,col,dd,k0,k1,k2,k3,k5,mN,hq,hh⟩:=T.own
 have tl:=T.tail I.kIn
 have hst1:=aF [] X.env hst
 refine wpAny_Raise_call_subU (C:=cl c) (nm:=nm) (q:=qq) (N:=N) (bs:=bs) (bm:=.ref Wz::VE) (hdct:=hdct) (sn:=sn) (sub:=sub) (ab:=ab) (col:=col) (dd:=dd) (k0:=k0) (k1:=k1) (k2:=k2) (k3:=k3) (k5:=k5) (newId:=newId) (bmB:=VE)
  Fn hBn F.excBase_ValueError (mN:=mN) (tl.hasType F.excBase_ValueError.hasBase) (I.ok.hd hc) (by rw[hst1];rfl) (hq _ (.head _)) (eK I hg hm ⟨rfl,?_⟩ hd)
 have hA:=(ac ha af hst).1 cpos pins s σ H (fun vs H2=>i6 H H2/\i5 X.K H2 [d] vs) I ⟨ρ,[d],er.1,by show(f ρ).bind _=_;rw[e2];rfl,fun vs H2 s2 r2=>⟨s2,r2⟩⟩
 rw[hst1] at hA ⊢
 refine Calls.evalArgs_plain (uo hA fun us s2 ⟨vs,H2,I2,r2,s12,rd⟩=>?_)
 have x2:=I2.kIn
 refine⟨rfl,?_,(hh _ x2).1,(hh _ x2).2,T.tail x2,fun h' e' hme=>(q H2 s12).2 pins σ s2 e' h' us I2 hme⟩
 ·show us.length<=sizeLine
  rw[<- r2.length,<- rd.length]
  exact Sx (show 1<=1000 by decide) (by decide)
end
structure wl where
 c:RY
 P:RY
 q:Str
def C4(ts:List wl)(b:RY):RT HO:=(ts.find? fun t=>t.P==b).map fun t=>.tbl t.q false
theorem AS{ts:List wl}{b:RY}{u:HO}(h:C4 ts b=some u):∃t∈ts,t.P=b/\u=.tbl t.q false:=by
 unfold C4 at h
 cases e:ts.find? fun t=>t.P==b with
 | none=>rw[e] at h;cases h
 | some t =>
  rw[e] at h
  cases h
  exact⟨t,List.mem_of_find?_eq_some e,by simpa using List.find?_some e,rfl⟩
def FZ(ts:List wl)(a:RY)(H:Hp):Prop:=∀b,(b≠a/\H b=C4 ts b)\/(b=a/\(H b=none\/∃o xs,H b=some (.frz o (.lst xs))))
structure vN (mg:Str->RT RU) (ts:List wl) (base:Sq):Prop where
 code:∀t∈ts,W.CodeHd base t.c t.P
 bm:∃bm o,mg "__builtins__" = some (.ref bm)/\bm≠builtinsNs/\bm≠mainGlobals/\base.get? bm=some o/\o.cls=.type "module" /\ o.dict=some builtinsNs/\o.data=.plain
theorem GK{P:R9}{w:Sk}{K:RW}{mg mb:Str->RT RU}{CX:DU}{k:Nat}{fa a:RY}{fd:SV}{x:Str}{sp:Sp}{s₁:RX}{vs:List RU}{ns:List Int}{ts:List wl}
  (KX:K.In s₁.heap) (hns:s₁.heap.Ns mainGlobals mg) (hb:s₁.heap.Ns builtinsNs mb) (hbb:∀x:Str,x ≠ "__name__" -> mb x=bootBuiltins x) (hlim:s₁.heap.NoLimit) (hg:s₁.gens=#[])
  (ha:s₁.heap.get? a=some {cls:=.type "list",data:=.seq vs.toArray}) (hi:IntsAre vs ns) (hl:ns.length<=sizeLine) (hr:ua k callerA)
  (hT:∀t∈ts,W.CodeHd s₁.heap t.c t.P/\s₁.heap.get? t.P=some (W.tabObj #[])) (hK:∀t∈ts,K.lookup t.P=none)
  (hbm:∃bm o,mg "__builtins__" = some (.ref bm)/\bm≠builtinsNs/\bm≠mainGlobals/\s₁.heap.get? bm=some o/\o.cls=.type "module" /\ o.dict=some builtinsNs/\o.data=.plain)
  (F:∀base:Sq,K.In base->base.Ns mainGlobals mg->vN mg ts base->k6 P w K mg base CX k fa fd [x] sp) (hbind:∀(s:RX) (u:RU),BindsTo s fd ⟨[u],[]⟩ [(x,u)])
  (hsp:∀H:Hp,FZ ts a H->(∀t∈ts,t.P≠a)->wj K H a (ns.map V.int)->sp [.ref a] H (fun v _=>v=.bl true) fun _ _ _=>False)
  (hCX:∀H e s',CX [] H s₁ (fun _ _ _=>False) e s'->False) :
  codeAny (model P w) callerA (.call (.ref fa) ⟨[.ref a],[]⟩) (fun r s'=>r=.ok (.ret (.bool true))/\OldK s₁.heap s'.heap/\s'.os=s₁.os/\AllBare s'.gens) s₁:=by
 have rv:=L2.vals_ints hi
 have lenV:=hi.length
 have aP:∀t∈ts,t.P≠a:=fun t ht z=>by
  have e:=(hT t ht).2
  rw[z,ha] at e;cases e
 have tabOk:∀(H:Hp) {b:RY} {u:HO},C4 ts b=some u->vn P w H s₁.heap b u:=fun H {b u} h=>by
  obtain⟨t,ht,rfl,rfl⟩:=AS h
  exact⟨#[],(hT t ht).2,trivial,fun pos cv hc=>by cases hc⟩
 have core:∀H:Hp,FZ ts a H->wj K H a (ns.map V.int)->y4 P w H s₁.heap->(H a≠none->K.lookup a=none) ->
   codeAny (model P w) callerA (.call (.ref fa) ⟨[.ref a],[]⟩) (fun r s'=>r=.ok (.ret (.bool true))/\OldK s₁.heap s'.heap/\s'.os=s₁.os/\AllBare s'.gens) s₁:=by
  intro H hO hS hok hKa
  have what:∀{b:RY} {u:HO},H b=some u->(b=a)\/∃t∈ts,t.P=b/\u=.tbl t.q false:=fun {b u} e=>by
   rcases hO b with ⟨_,z⟩ | ⟨z,_⟩
   ·rw[e] at z;exact .inr (AS z.symm)
   ·exact .inl z
  have base_of:∀{b:RY} {o:Obj},s₁.heap.get? b=some o->H b=none->(zl s₁.heap H).get? b=some o:=fun e n=>EA e n
  have free:∀{b:RY} {o:Obj},s₁.heap.get? b=some o->(∀(its:Array RU) n,o.data≠.seq its n)->(o.cls≠.none)->H b=none:=fun {b o} e h1 h2=>by
   cases q:H b with
   | none=>rfl
   | some u =>
    rcases what q with z | ⟨t,ht,z,_⟩
    ·rw[z,ha] at e;cases e;exact Sm rfl (h1 _ _)
    ·rw[<- z,(hT t ht).2] at e;cases e;exact Sm rfl h2
  have noA:∀{b:RY} {o:Obj} {es:Array DictEntry} {ep:Nat},s₁.heap.get? b=some o->o.data=.dict es ep->H b=none:=fun {b o es ep} e d=>by
   cases q:H b with
   | none=>rfl
   | some u =>
    rcases what q with z | ⟨t,ht,z,_⟩
    ·rw[z,ha] at e;cases e;cases (show Data.seq vs.toArray _=Data.dict es ep from d)
    ·rw[<- z,(hT t ht).2] at e;cases e;cases d
  have nsK:∀{b:RY} {m:Str->RT RU},s₁.heap.Ns b m->(zl s₁.heap H).Ns b m:=fun {b m} ⟨o,es,ep,e,d,r⟩=>⟨o,es,ep,base_of e (noA e d),d,r⟩
  have hKb:K.In (zl s₁.heap H):=fun b o e=>base_of (KX b o e) (by
   cases q:H b with
   | none=>rfl
   | some u =>
    rcases what q with z | ⟨t,ht,z,_⟩
    ·subst z;rw[hKa (by rw[q];simp)] at e;cases e
    ·rw[<- z,hK t ht] at e;cases e)
  have hM:Mod K mg (zl s₁.heap H):=⟨hKb,nsK hns,⟨mb,nsK hb,hbb⟩,let ⟨mc,h1,h2⟩:=hlim;⟨mc,nsK h1,h2⟩⟩
  have hTB:vN mg ts (zl s₁.heap H):=by
   refine⟨fun t ht=>?_,?_⟩
   ·obtain⟨o,vs',file,tf,flags,tg,inF,text,tt,e,ec,ed,r⟩:=(hT t ht).1
    exact⟨o,vs',file,tf,flags,tg,inF,text,tt,base_of e (free e (fun its n z=>by rw[ed] at z;cases z) (by rw[ec];simp)),ec,ed,r⟩
   ·obtain⟨bm,o,b1,b2,b3,b4,b5,b6,b7⟩:=hbm
    exact⟨bm,o,b1,b2,b3,base_of b4 (free b4 (fun its n z=>by rw[b7] at z;cases z) (by rw[b5];simp)),b5,b6,b7⟩
  have e0:Ae P w K mg (zl s₁.heap H) callerA [] s₁ H:=⟨rfl,hM,fun b o e=>Gf e,Nat.le_of_eq (CG _ _),trivial,fun b hb=>Sm (show b∈([]:List RY) from hb) (by simp),hok,.of_eq hg⟩
  refine codeAny_mono ((F _ hKb (nsK hns) hTB).run callerA [] s₁ H ⟨[.ref a],[]⟩ [.ref a] [.ref a] _ _ hr e0 (hbind s₁ (.ref a)) (.cons rfl .nil) (hsp H hO aP hS)) fun r s' h=>?_
  cases r with
  | error e=>exact(hCX H e s' h).elim
  | ok fl =>
   cases fl with
   | next=>exact False.elim h
   | brk=>exact False.elim h
   | cont=>exact False.elim h
   | ret u =>
    obtain⟨v,H',os,bare,un,hok',r',q⟩:=h
    have q':v=.bl true:=q
    subst q'
    obtain rfl:u=Value.bool true:=r'
    have tab:∀{b:RY} {o:Obj},s₁.heap.get? b=some o->(s'.heap.get? b=some o)\/∃t∈ts,t.P=b/\o=W.tabObj #[]/\∃ps,s'.heap.get? b=some (W.tabObj ps):=fun {b o} e=>by
     cases qb:H b with
     | none=>exact .inl (un.keep b o e qb (by intro z;exact Sm (show b∈([]:List RY) from z) (by simp)) (by simp))
     | some u =>
      rcases hO b with ⟨_,z⟩ | ⟨_,z⟩
      ·rw[qb] at z
       obtain⟨t,ht,zP,rfl⟩:=AS z.symm
       have z2:=un.tbls b _ _ qb
       obtain⟨ps,g,_⟩:=(show vn P w H' s'.heap b (.tbl t.q false) from hok' b _ z2)
       have e2:=(hT t ht).2
       rw[zP,e] at e2
       exact .inr ⟨t,ht,zP,Si e2,ps,g⟩
      ·rcases z with z | ⟨ob,xs,z⟩
       ·rw[qb] at z;cases z
       ·have z2:=un.frzs b ob _ (fun y q=>by cases q) z
        obtain⟨e1,_⟩:=hok b _ z
        obtain⟨e2,_⟩:=hok' b _ z2
        rw[e] at e1;cases e1
        exact .inl e2
    refine⟨rfl,⟨fun b o e=>?_,fun b o e=>?_⟩,os,bare⟩
    ·rcases tab e with z | ⟨t,ht,rfl,rfl,ps,g⟩
     ·exact .inl z
     ·exact .inr (.inl ⟨((hT t ht).1.tab (hT t ht).2).isCodeTable,rfl,#[],ps,rfl,by rw[Array.empty_append];exact g⟩)
    ·rcases tab e with z | ⟨t,ht,rfl,rfl,ps,g⟩
     ·exact⟨_,z⟩
     ·exact⟨_,g⟩
 cases hk:K.lookup a with
 | some o =>
  have e:=KX a o hk
  rw[ha] at e
  cases e
  have hn:C4 ts a=none:=by
   cases q:C4 ts a with
   | none=>rfl
   | some u=>obtain⟨t,ht,z,_⟩:=AS q;exact Sm z (aP t ht)
  refine core (C4 ts) (fun b=>?_) (.inr ⟨_,vs.toArray,_,hk,rfl,rfl,rfl,by rw[Sb,lenV];exact hl,by simpa using rv⟩) (fun b u z=>tabOk _ z) fun z=>Sm hn z
  by_cases hb:b=a
  ·exact .inr ⟨hb,.inl (by rw[hb];exact hn)⟩
  ·exact .inl ⟨hb,rfl⟩
 | none =>
  refine core (fun b=>if b=a then some (.frz {cls:=.type "list",data:=.seq vs.toArray} (.lst (ns.map V.int))) else C4 ts b) (fun b=>?_) (.inl (.inr ⟨{cls:=.type "list",data:=.seq vs.toArray},R3 rfl⟩)) (fun b u z=>?_) fun _=>hk
  ·by_cases hb:b=a
   ·exact .inr ⟨hb,.inr ⟨_,_,R3 hb⟩⟩
   ·exact .inl ⟨hb,Sa hb⟩
  ·by_cases hb:b=a
   ·have z':=(R3 hb).symm.trans z
    cases z'
    subst hb
    exact⟨ha,by rw[R7];exact hl,vs,_,rv,ha⟩
   ·exact tabOk _ ((Sa hb).symm.trans z)
theorem zL{i j:Int}{t u:Tok}{c:RU}:∀{l:List RU},TriplesOk l->TriplesOk (l++[.int i t,.int j u,c])
 | [],_=>trivial
 | .int _ _::.int _ _::_::rest,h=>zL (l:=rest) h
theorem BD{pos:Pos}{i j:Int}{t u:Tok}{c cv:RU}:∀{l:List RU},TriplesOk l->codeAmong pos (l++[.int i t,.int j u,c])=some cv->codeAmong pos l=some cv\/cv=c
 | [],_,h=>by
  have h':(if (i==pos.line&&j==pos.col)=true then some c else codeAmong pos [])=some cv:=h
  split at h'
  ·cases h';exact .inr rfl
  ·cases h'
 | .int a ta::.int b tb::d::rest,hl,h=>by
  have h':(if (a==pos.line&&b==pos.col)=true then some d else codeAmong pos (rest++[.int i t,.int j u,c]))=some cv:=h
  show(if (a==pos.line&&b==pos.col)=true then some d else codeAmong pos rest)=some cv\/_
  split at h'
  ·rename_i z;rw[R3 z];exact .inl h'
  ·rename_i z;rw[Sa z];exact BD (l:=rest) hl h'
section
variable{X:Cx}{pins:List (RY×Obj)}{σ:L2.St}{H:Hp}{s:RX}
abbrev xC(o:Obj):HO:=.frz o (.ext fun _=>True)
theorem Jh{t:wl}{ts:List wl}{name:Str}{params:Arguments}{body:Sr}{scope:Scope}{clos:List (Str×RY)}{pos:Pos}{line:Nat}(I:L2.Inv X pins σ H s)(TB:vN X.mg ts X.base)(ht:t∈ts)(hP:H t.P=some (.tbl t.q false))(hcode:X.env.code=.ref t.c)
  (hcl:closureFor scope X.env=pure clos):wpAny (model X.prog X.w) X.A (makeFunction name t.q params (.expr body) scope X.env [] [] [] pos line)
   (fun v s'=>∃f c' ctv pm H',v=.ref f/\L2.Inv X pins σ H' s'/\i6 H H'/\H f=none/\H' f=some (xC (W.kla_obj name t.q params body scope clos pm c' ctv))/\H' c'=some (.tbl t.q true)) X.xe s:=by
 obtain⟨tv,eP,tr,ent⟩:=(show vn X.prog X.w H s.heap t.P (.tbl t.q false) from I.hok _ _ hP)
 have hg:s.heap.Ns mainGlobals X.mg:=I.mod.glob.keeps I.bk
 have C:W.CodeHd s.heap t.c t.P:=(TB.code t ht).keeps I.bk
 have nbase:∀{b:RY} {o:Obj},X.base.get? b=some o->b≠t.P:=fun e z=>by
  have:=(I.bs _ _ e).2
  rw[z,hP] at this;cases this
 have hgP:mainGlobals≠t.P:=by
  obtain⟨o,_,_,e,_⟩:=I.mod.glob
  exact nbase e
 have hb:s.heap.BuiltinsAt X.mg t.P:=by
  obtain⟨bm,o,b1,b2,b3,b4,b5⟩:=TB.bm
  exact⟨bm,o,b1,b2,b3,nbase b4,I.bk _ _ b4,b5⟩
 cases hc:codeAmong pos tv.toList with
 | none =>
  refine W.kla_makeFunction hcl I.ok.glob hg hcode C eP tr hc hgP hb fun c' ctv h' tk hx hge hlt hrec htb=>?_
  have hcs:∀{b:RY} {u:HO},H b=some u->b≠c'/\b≠h'.objs.size:=fun e=>by
   have q:=I.hok.lt e
   exact⟨Sn (R8 q hge),Sn (R8 q (Sx hge (Nat.le_of_lt hlt)))⟩
  have hF:H h'.objs.size=none:=I.hok.fresh (Sx hge (Nat.le_of_lt hlt))
  have hCn:H c'=none:=I.hok.fresh hge
  refine⟨h'.objs.size,c',ctv,_,upd (upd H c' (.tbl t.q true)) h'.objs.size (xC (W.kla_obj name t.q params body scope clos ((X.mg "__name__").getD .none) c' ctv)),rfl,?_,fun b u e=>?_,hF,au,?_⟩
  ·have kp:∀b o,b≠t.P->s.heap.get? b=some o->(h'.push (W.kla_obj name t.q params body scope clos ((X.mg "__name__").getD .none) c' ctv)).get? b=some o:=fun b o nb e=>R0 _ (hx b o nb e)
   have nP:∀{b:RY},H b=none->b≠t.P:=fun e z=>by rw[z,hP] at e;cases e
   have st:∀{b:RY} {u:HO},H b=some u->upd (upd H c' (.tbl t.q true)) h'.objs.size (xC (W.kla_obj name t.q params body scope clos ((X.mg "__name__").getD .none) c' ctv)) b=some u:=fun e=>by rw[aq (hcs e).2,aq (hcs e).1];exact e
   refine I.un ⟨fun b o e n _ _=>kp b o (nP n) e,fun b o e n _ _=>⟨o.slots,kp b o (nP n) e⟩,fun b o e n _=>?_,fun b o e _=>?_,fun b xs e=>st e,fun b o u _ e=>st e,fun b q d e=>st e⟩ fun b u e=>?_
   ·have q:=R_ e
    rw[aq (Sn (R8 q (Sx hge (Nat.le_of_lt hlt)))),aq (Sn (R8 q hge))];exact n
   ·by_cases hb:b=t.P
    ·exact⟨_,by rw[hb];exact R0 _ htb⟩
    ·exact⟨o,kp b o hb e⟩
   ·by_cases hbf:b=h'.objs.size
    ·subst hbf
     rw[au] at e
     cases e
     exact⟨Sd _ rfl,trivial,⟨_,Sd _ rfl⟩,fun _ _ _ _=>trivial⟩
    ·rw[aq hbf] at e
     by_cases hbc:b=c'
     ·subst hbc
      rw[au] at e
      cases e
      exact hrec.push _
     ·rw[aq hbc] at e
      by_cases hbP:b=t.P
      ·subst hbP
       rw[hP] at e
       cases e
       refine⟨_,R0 _ htb,by rw[Array.toList_append];exact zL tr,fun pos' cv hcv=>?_⟩
       rw[Array.toList_append] at hcv
       rcases BD tr hcv with z | z
       ·obtain⟨c2,e1,e2⟩:=ent pos' cv z
        exact⟨c2,e1,st e2⟩
       ·exact⟨c',z,by rw[aq (Sn hlt),au]⟩
      ·refine(I.hok b u e).stay (fun c v hcb r=>kp c v (fun z=>?_) r) (fun c r=>st r) (fun c xs r=>st r) fun c q d r=>st r
       rcases hcb with rfl | hcb
       ·exact hbP z
       ·rw[z,hP] at hcb;cases hcb
  ·rw[aq (hcs e).2,aq (hcs e).1];exact e
  ·rw[aq (Sn hlt),au]
 | some cv =>
  obtain⟨c',rfl,hcC⟩:=ent pos cv hc
  refine W.kla_makeFunctionHit hcl I.ok.glob hg hcode C eP tr hc hb fun ctv h' tk hk hsz=>?_
  have hcs:∀{b:RY} {u:HO},H b=some u->b≠h'.objs.size:=fun e=>by
   exact Sn (R8 (I.hok.lt e) hsz)
  have hF:H h'.objs.size=none:=I.hok.fresh hsz
  refine⟨h'.objs.size,c',ctv,_,upd H h'.objs.size (xC (W.kla_obj name t.q params body scope clos ((X.mg "__name__").getD .none) c' ctv)),rfl,?_,fun b u e=>?_,hF,au,?_⟩
  ·have kp:∀b o,s.heap.get? b=some o->(h'.push (W.kla_obj name t.q params body scope clos ((X.mg "__name__").getD .none) c' ctv)).get? b=some o:=fun b o e=>R0 _ (hk b o e)
   have st:∀{b:RY} {u:HO},H b=some u->upd H h'.objs.size (xC (W.kla_obj name t.q params body scope clos ((X.mg "__name__").getD .none) c' ctv)) b=some u:=fun e=>by rw[aq (hcs e)];exact e
   refine I.un ⟨fun b o e n _ _=>kp b o e,fun b o e n _ _=>⟨o.slots,kp b o e⟩,fun b o e n _=>?_,fun b o e _=>⟨o,kp b o e⟩,fun b xs e=>st e,fun b o u _ e=>st e,fun b q d e=>st e⟩ fun b u e=>?_
   ·rw[aq (Sn (R8 (R_ e) hsz))];exact n
   ·by_cases hbf:b=h'.objs.size
    ·subst hbf
     rw[au] at e
     cases e
     exact⟨Sd _ rfl,trivial,⟨_,Sd _ rfl⟩,fun _ _ _ _=>trivial⟩
    ·rw[aq hbf] at e
     exact(I.hok b u e).stay (fun c v _ r=>kp c v r) (fun c r=>st r) (fun c xs r=>st r) fun c q d r=>st r
  ·rw[aq (hcs e)];exact e
  ·rw[aq (hcs hcC)];exact hcC
end
theorem wm{α:Type}:∀{l:List (Str×α)} {x:Str} {u:α},(l.map (·.1)).Nodup->(x,u)∈l->l.lookup x=some u
 | (y,v)::l,x,u,nd,h=>by
  rw[S3,List.nodup_cons] at nd
  rw[List.lookup_cons]
  rcases Sf.mp h with e | h
  ·cases e;simp
  ·have hn:(x==y)=false:=SD.mpr fun z=>nd.1 (List.mem_map.mpr ⟨(x,u),h,z⟩)
   rw[hn]
   exact wm nd.2 h
def uG(cl:List (Str×RY))(b:RY):Bool:=cl.any fun p=>p.2==b
def vc(cl:List (Str×RY))(H:Hp):Hp:=fun b=>if uG cl b then none else H b
def wM(cl:List (Str×RY))(H H2:Hp):Hp:=fun b=>if uG cl b then H b else H2 b
theorem Fc{cl:List (Str×RY)}{x:Str}{c:RY}(h:cl.lookup x=some c):uG cl c=true:=List.any_eq_true.mpr ⟨(x,c),S7 h,by simp⟩
structure wF (N ps:List Str) (sc:Scope) (cl:List (Str×RY)):Prop where
 kind:sc.kind=.function
 co:sc.isCoroutine=false
 gen:sc.isGenerator=false
 nd:N.Nodup
 pre:N.take ps.length=ps
 par:∀x∈ps,sc.names.lookup x=some .local
 nocell:∀y∈sc.names,y.2≠.cell
 fre:∀x∈N.drop ps.length,sc.names.lookup x=some .free
 has:∀x,sc.names.lookup x=some .free->∃c,cl.lookup x=some c
 ndc:(cl.map (·.1)).Nodup
 inj:∀x y c,cl.lookup x=some c->cl.lookup y=some c->x=y
def ze(H:Hp)(N ps:List Str)(cl:List (Str×RY))(caps:List V):Prop:=
 caps.length=N.length - ps.length/\(∀b,uG cl b=true->∃o u,H b=some (xC o)/\o.data=.cell (some u))/\∀(i:Nat) (x:Str) (v:V),(N.drop ps.length)[i]?=some x->caps[i]?=some v->∃c o u,cl.lookup x=some c/\H c=some (xC o)/\o.data=.cell (some u)/\RelV v u
theorem ze.to{H H':Hp}{N ps:List Str}{cl:List (Str×RY)}{caps:List V}(h:ze H N ps cl caps)(s:∀b o,H b=some (xC o)->H' b=some (xC o)):ze H' N ps cl caps:=by
 obtain⟨h1,h2,h3⟩:=h
 refine⟨h1,fun b hb=>?_,fun i x v q1 q2=>?_⟩
 ·obtain⟨o,u,e,d⟩:=h2 b hb
  exact⟨o,u,s b o e,d⟩
 ·obtain⟨c,o,u,e1,e2,r⟩:=h3 i x v q1 q2
  exact⟨c,o,u,e1,s c o e2,r⟩
noncomputable def By(CX:DU)(P:R9)(w:Sk)(K:RW)(mg:Str->RT RU)(base:Sq)(N:List Str)(qual:Str)(scope:Scope)(cl:List (Str×RY))(f:RY)(cd:RU)(A:Sv)(outer:List Env)(s:RX)(H:Hp)(E:XK):Cx where
 prog:=P
 w:=w
 K:=K
 mg:=mg
 base:=base
 A:=A.deeper (W.envX qual scope s.heap.objs.size f cd cl)
 N:=N
 s₀:=s
 H₀:=vc cl H
 env:=W.envX qual scope s.heap.objs.size f cd cl
 outer:=outer
 stack:=W.envX qual scope s.heap.objs.size f cd cl::outer
 ex:=[]
 calm:=true
 fn:=fun _=>false
 pn:=[]
 xe:=fun e s'=>wpAny (model P w) (A.deeper (W.envX qual scope s.heap.objs.size f cd cl)) (leaving (W.envX qual scope s.heap.objs.size f cd cl) e) (fun _ s''=>CX outer H s E e s'') (fun e' s''=>CX outer H s E e' s'') s'
theorem Np {CX:DU} {P:R9} {w:Sk} {K:RW} {mg:Str->RT RU} {base:Sq} {k:Nat} {f c':RY} {name qual:Str} {params:Arguments} {body:Sr} {scope:Scope} {cl:List (Str×RY)} {pm ctv:RU} {N ps:List Str} {sp:Sp}
    (S:wF N ps scope cl) (len:∀vs H Q E,sp vs H Q E->vs.length=ps.length)
    (pre:∀vs H Q E,sp vs H Q E->H f=some (xC (W.kla_obj name qual params body scope cl pm c' ctv))/\H c'=some (.tbl qual true))
    (hbody:∀(A:Sv) (outer:List Env) (s:RX) (H:Hp) (vs:List V) (Q:VK) (E:XK),ua k (A.deeper (W.envX qual scope s.heap.objs.size f (.ref c') cl))->Ae P w K mg base A outer s H->sp vs H Q E ->
      ∃caps t,ze H N ps cl caps/\PE (By CX P w K mg base N qual scope cl f (.ref c') A outer s H E) body t/\t ((vs++caps).map some) (vc cl H) fun v H2=>(∀b u,H2 b=some u->wM cl H H2 b=some u)->Q v (wM cl H H2)) :
    k6 P w K mg base CX (k+1) f (W.kla_fn name qual params body scope cl pm (.ref c') ctv) ps sp:=by
  refine⟨len,fun A outer s H args us vs Q E hr e0 hb r hsp=>?_⟩
  have hl:=len _ _ _ _ hsp
  obtain⟨hf,hc'⟩:=pre _ _ _ _ hsp
  obtain⟨caps,t,⟨cl1,cl2,cl3⟩,ht,hq⟩:=hbody A outer s H vs Q E (hr.deeper _) e0 hsp
  have lim:s.heap.NoLimit:=e0.mod.nolimit.keeps fun b o e=>(e0.bs b o e).1
  have ndP:ps.Nodup:=by rw[<- S.pre];exact S.nd.sublist (List.take_sublist _ _)
  have hpl:ps.length<=N.length:=by have:=congrArg List.length S.pre;rw[To] at this;omega
  have hul:us.length=ps.length:=by rw[<- r.length];exact hl
  have dr:∀{b:RY} {u:HO},H b=some u->(∀o,u≠xC o)->uG cl b=false:=fun {b u} e n=>by
    cases q:uG cl b with
    | false=>rfl
    | true=>obtain⟨o,v,z,_⟩:=cl2 b q;rw[e] at z;cases z;exact Sm rfl (n o)
  have dk:∀{b:RY} {u:HO},H b=some u->(∀o,u≠xC o)->vc cl H b=some u:=fun {b u} e n=>by
    show(if uG cl b then none else H b)=_
    rw[dr e n];exact e
  have dn:∀{b:RY},H b=none->vc cl H b=none:=fun {b} e=>by
    show(if uG cl b then none else H b)=_
    split
    · rfl
    · exact e
  refine W.kla_callFunE hr.depth (e0.hok f _ hf).1 rfl S.co S.gen rfl (show vn P w H s.heap c' (.tbl qual true) from e0.hok c' _ hc') (hb _ _ _ _ ?_)
  refine wpAny_newFunctionEnv S.nocell (fun ⟨n,v⟩ hy=>S.par n (List.of_mem_zip hy).1) (fun h₁ hns hsb=>⟨lim.fresh _ hsb,?_⟩) S.kind
  show codeAny _ _ (.expr body (W.envX qual scope s.heap.objs.size f (.ref c') cl)) _ _
  have hk:∀b o,s.heap.get? b=some o->h₁.get? b=some o:=fun b o e=>hsb.extBut b o (Sn (R_ e)) (R0 _ e)
  have noA:∀b:RY,b∉(By CX P w K mg base N qual scope cl f (.ref c') A outer s H E).ex:=fun b z=>Sm (show b∈([]:List RY) from z) (by simp)
  have hcell:∀x c,cl.lookup x=some c->∃u,h₁.IsCell c (some u):=fun x c e=>by
    obtain⟨o,u,z,d⟩:=cl2 c (Fc e)
    exact⟨u,o,hk _ _ (e0.hok c _ z).1,d⟩
  have I:L2.Inv (By CX P w K mg base N qual scope cl f (.ref c') A outer s H E) [] ((vs++caps).map some) (vc cl H) {s with heap:=h₁,toks:=s.toks+(ps.zip us).length}:=by
    refine⟨⟨e0.mod,S.kind,rfl,rfl,Se _,S.inj,fun y hy=>?_,fun y c z _=>(by cases z),fun _=>hr.hd,Around.frames_deeper e0.frames,.inr ⟨rfl,rfl⟩,fun b z=>Sm z (noA b),fun b o e=>⟨(e0.bs b o e).1,dn (e0.bs b o e).2⟩,e0.bsz,fun b _ _=>noA b,fun b z=>Sm z (noA b),e0.funs,fun b hb=>dn (e0.frf b hb)⟩,
      rfl,e0.bare,Un.kept hk,⟨_,hns,fun i y v h1 h2 h3=>?_⟩,fun y c h=>let ⟨u,z⟩:=hcell y c h;⟨_,z⟩,dn (e0.hok.fresh (Se _)),fun y c h=>?_,fun p hp=>Sm (show p∈([]:List (RY×Obj)) from hp) (by simp),fun b u e=>?_,?_⟩
    · have hy:scope.names.lookup y=some .cell\/scope.names.lookup y=some .free:=hy
      rcases hy with hy | hy
      · exact Sm rfl (S.nocell _ (S7 hy))
      · exact S.has y hy
    · rw[SX] at h2
      cases e:(vs++caps)[i]? with
      | none=>rw[e] at h2;cases h2
      | some z =>
        rw[e] at h2
        cases h2
        by_cases hi:i<vs.length
        · rw[SZ hi] at e
          obtain⟨u,hu,rv⟩:=r.get e
          have hp:ps[i]?=some y:=by rw[<- S.pre,List.getElem?_take_of_lt (by omega)];exact h1
          refine⟨u,rv,.inl ⟨S.par y (S_ hp),?_⟩⟩
          show(ps.zip us).reverse.lookup y=some u
          refine wm ?_ ?_
          · rw[List.map_reverse,List.map_fst_zip (by omega),List.Nodup,List.pairwise_reverse];exact ndP.imp fun h=>Ne.symm h
          · rw[List.mem_reverse]
            exact S_ (i:=i) (List.getElem?_zip_eq_some.mpr ⟨hp,hu⟩)
        · rw[Sy (by omega)] at e
          have hd:(N.drop ps.length)[i - vs.length]?=some y:=by rw[List.getElem?_drop,show ps.length+(i - vs.length)=i by omega];exact h1
          obtain⟨c,o,u,h4,h5,h6,h7⟩:=cl3 _ y v hd e
          exact⟨u,h7,.inr ⟨.inr (S.fre y (S_ hd)),c,h4,o,hk _ _ (e0.hok c _ h5).1,h6⟩⟩
    · show(if uG cl c then none else H c)=none
      rw[Fc (show cl.lookup y=some c from h)];rfl
    · have e':(if uG cl b then none else H b)=some u:=e
      cases q:uG cl b with
      | true=>rw[q] at e';cases e'
      | false =>
        rw[q] at e'
        exact(e0.hok b u e').stay (fun c v _ g=>hk c v g) (fun c g=>dk g fun o z=>by cases z) (fun c xs g=>dk g fun o z=>by cases z) fun c a d g=>dk g fun o z=>by cases z
    · show((vs++caps).map some).length=N.length
      rw[R7,Sl,cl1,hl];omega
  refine W.kla_codeExpr (Tg (ht [] _ _ _ _ I hq) (fun u s' hs=>?_) fun e s' hs=>hs)
  obtain⟨v,H2,J,rv,q⟩:=hs
  have cellKept:∀{b:RY},uG cl b=true->∃o,H b=some (xC o)/\s'.heap.get? b=some o:=fun {b} hb=>by
    obtain⟨o,u',z,_⟩:=cl2 b hb
    have hfr:b∉xu outer:=fun m=>by rw[e0.frf b m] at z;cases z
    exact⟨o,z,J.base.keep b o (e0.hok b _ z).1 (by show(if uG cl b then none else H b)=none;rw[hb];rfl) hfr (noA b)⟩
  have bk:∀{b:RY} {u:HO},H2 b=some u->wM cl H H2 b=some u:=fun {b u} e=>by
    show(if uG cl b then H b else H2 b)=_
    cases qq:uG cl b with
    | false=>exact e
    | true =>
      obtain⟨p,hp,hpb⟩:=List.any_eq_true.mp qq
      have this:∃x,cl.lookup x=some b:=⟨p.1,wm S.ndc (by rw[<- Tq hpb];exact hp)⟩
      obtain⟨x,hx⟩:=this
      have:=J.freeC x b hx
      rw[this] at e;cases e
  have bc:∀{b:RY},uG cl b=true->wM cl H H2 b=H b:=fun {b} hb=>by show(if uG cl b then H b else H2 b)=_;rw[hb];rfl
  have bn:∀{b:RY},uG cl b=false->wM cl H H2 b=H2 b:=fun {b} hb=>by show(if uG cl b then H b else H2 b)=_;rw[hb];rfl
  refine⟨v,wM cl H H2,J.os,J.bare,⟨fun b o e n hf' hx=>J.base.keep b o e (dn n) hf' (noA b),fun b o e n hf' hx=>J.base.slot b o e (dn n) hf' (noA b),fun b o e n hx=>?_,fun b o e hx=>J.base.there b o e (noA b),fun b xs e=>bk (J.base.tups b xs (dk e fun o z=>by cases z)),fun b o u ny e=>?_,fun b a d e=>bk (J.base.tbls b a d (dk e fun o z=>by cases z))⟩,fun b u e=>?_,rv,q fun b u e=>bk e⟩
  · cases hb:uG cl b with
    | true=>rw[bc hb];exact n
    | false=>rw[bn hb];exact J.base.free b o e (dn n) (noA b)
  · cases hb:uG cl b with
    | true=>rw[bc hb];exact e
    | false =>
      rw[bn hb]
      refine J.base.frzs b o u ny ?_
      show(if uG cl b then none else H b)=_
      rw[hb];exact e
  · cases hb:uG cl b with
    | true =>
      obtain⟨o,z,g⟩:=cellKept hb
      rw[bc hb,z] at e
      cases e
      exact⟨g,trivial,⟨_,g⟩,fun _ _ _ _=>trivial⟩
    | false =>
      rw[bn hb] at e
      exact(J.hok b u e).stay (fun c v _ g=>g) (fun c g=>bk g) (fun c xs g=>bk g) fun c a d g=>bk g
end HW
namespace HW
open PySem
open Sem (wp)
section
variable{prog:R9}{w:Sk}{A:Sv}{E:RU->RX->Prop}{h:Sq}{g:Array GenState}{d:Drawn}{t:Nat}{os:OsState}{a:RY}{o:Obj}{tk:Tok}
end
open Sem (wp)
section
variable{M:Model}{A:Sv}{E:RU->RX->Prop}{h:Sq}{g:Array GenState}{d:Drawn}{t:Nat}{os:OsState}{K:RW}{C Wz:RY}{newId nW:String}
theorem DB(T:EI K C Wz newId nW)(x:K.In h){n:Str}{y:RT RU}{Q:RT RU->RX->Prop}(hn:n∈NG)(hy:typeLookup (.type "ValueError") n=pure y)(hq:Q y ⟨h,g,d,t,os⟩):wpAny M A (typeLookup (.ref C) n) Q E ⟨h,g,d,t,os⟩:=by
 obtain⟨N,nm,q,bs,hdct,sn,sub,ab,col,dd,k0,k1,k2,k3,k5,mN,hqn,hh⟩:=T.own
 obtain⟨N',nm',q',bs',hdct',sn',sub',ab',col',dd',j0,j1,j2,j3,j5,mN',hqn',hh'⟩:=T.base
 have hrest:lookupAlong VE n=pure y:=by rw[typeLookup_eq,F.excBase_ValueError.mroIs] at hy;exact hy
 rw[typeLookup_eq]
 refine RV (wpAny_mroOf_exc (hh h x).1 ?_)
 rw[lookupAlong_cons]
 refine RV (wpAny_classOwn_exc (hh h x).1 (hh h x).2 ?_)
 rw[hqn n hn]
 show wpAny M A (lookupAlong (.ref Wz::VE) n) Q E _
 rw[lookupAlong_cons]
 refine RV (wpAny_classOwn_exc (hh' h x).1 (hh' h x).2 ?_)
 rw[hqn' n hn]
 show wpAny M A (lookupAlong VE n) Q E _
 rw[hrest]
 exact R5 hq
theorem E5(T:EI K C Wz newId nW)(x:K.In h){b:RU}{Q:Bool->RX->Prop}(hq:Q ((Value.ref C::.ref Wz::VE).contains b) ⟨h,g,d,t,os⟩):wpAny M A (isSubtype (.ref C) b) Q E ⟨h,g,d,t,os⟩:=by
 obtain⟨N,nm,q,bs,hdct,sn,sub,ab,col,dd,k0,k1,k2,k3,k5,mN,hqn,hh⟩:=T.own
 exact wpAny_isSubtype_exc (hh h x).1 hq
end
theorem MN:typeLookup (.type "ValueError") "__class__" = pure (some (.builtin "object.__class__")):=by rw[typeLookup_type,builtinLookup_eq_fast];kernel_rfl
section
variable{prog:R9}{w:Sk}{A:Sv}{E:RU->RX->Prop}{h:Sq}{g:Array GenState}{d:Drawn}{t:Nat}{os:OsState}{a:RY}{o:Obj}{tk:Tok}{K:RW}{C Wz:RY}{newId nW:String}
theorem Mi{R:Result->RX->Prop}(T:EI K C Wz newId nW)(x:K.In h)(hx:h.get? a=some o)(hc:o.cls=.ref C)(hq:R (.ok (.ret (.ref C))) ⟨h,g,d,t,os⟩) :
  codeAny (model prog w) A (.call (.builtin "getset_descriptor.__get__") ⟨[.builtin "object.__class__",.ref a,.ref C],[]⟩) R ⟨h,g,d,t,os⟩:=by
 have hT5:(⟨h,g,d,t,os⟩:RX).TypeIs (.builtin "object.__class__") "getset_descriptor":=F.typeOf_object_class
 have hcO:(Value.ref C::.ref Wz::VE).contains (.type (".".intercalate ("object.__class__".cutAt '.').dropLast))=true:=by rw[F.owner_object_class];rfl
 refine codeAny_call_builtin F.slot_gs_get.plain F.entry_gs_get (F.slot_gs_get.check _ _ _ _ _ _ _ _ hT5 (F.args_gs_get _ _ _) ?_)
 repeat (any_goals (first | assumption | (with_reducible refine wpAny_loadPart_at hx ?_;rw[hc]) | (with_reducible refine E5 T x ?_;rw[hcO]) | wp_step))
 refine⟨Code.quiet_builtin _ (by decide +kernel),Td F.entry_object_class ?_⟩
 repeat (any_goals (first | assumption | (with_reducible refine wpAny_loadPart_at hx ?_;rw[hc]) | wp_step))
theorem LN{Q:Fin->RX->Prop}(T:EI K C Wz newId nW)(x:K.In h)(hx:h.get? a=some o)(hc:o.cls=.ref C)(hq:Q (.done (.ret (.ref C))) ⟨h,g,d,t,os⟩) :
  wpAny (model prog w) A (Builtin.«object.__getattribute__» ⟨[.ref a,.str "__class__" tk],[]⟩) Q E ⟨h,g,d,t,os⟩:=by
 have hT5:(⟨h,g,d,t,os⟩:RX).TypeIs (.builtin "object.__class__") "getset_descriptor":=F.typeOf_object_class
 have f5:=F.typeOf_object_class
 have f6:=F.slot_gs_get.lookup
 have f7:=F.slot_gs_set.lookup
 have hm:("__class__" : Str)∈NG:=.tail _ (.tail _ (.tail _ (.head _)))
 repeat (any_goals (first | assumption | (with_reducible refine wpAny_loadPart_at hx ?_;rw[hc]) | with_reducible refine DB T x hm MN ?_ | wp_step))
 refine Mi T x hx hc ?_
 repeat (any_goals (first | assumption | wp_step))
theorem HN{M:Model}{nameV:RU}{Q:Unit->RX->Prop}(T:EI K C Wz newId nW)(x:K.In h)(hx:h.get? a=some o)(hc:o.cls=.ref C)(hq:Q () ⟨h,g,d,t,os⟩):wpAny M A (checkBuiltinCall "BaseException.__getattribute__" ⟨[.ref a,nameV],[]⟩) Q E ⟨h,g,d,t,os⟩:=by
 have hk:builtinKind "BaseException.__getattribute__" = some .slot:=by decide +kernel
 have hs:splitId "BaseException.__getattribute__" = some ("BaseException","__getattribute__"):=by decide +kernel
 have hcB:(Value.ref C::.ref Wz::VE).contains (.type "BaseException")=true:=rfl
 have ha:=F.args_bexc_ga (.ref a) nameV
 simp only[checkBuiltinCall,hk,hs]
 refine RV ?_
 ·unfold isInstance
  repeat (first | (with_reducible refine wpAny_loadPart_at hx ?_;rw[hc]) | (with_reducible refine E5 T x ?_;rw[hcB]) | wp_step)
  exact hq
theorem JU{R:Result->RX->Prop}(T:EI K C Wz newId nW)(x:K.In h)(hx:h.get? a=some o)(hc:o.cls=.ref C)(hq:R (.ok (.ret (.ref C))) ⟨h,g,d,t,os⟩) :
  codeAny (model prog w) A (.call (.builtin "BaseException.__getattribute__") ⟨[.ref a,.str "__class__" tk],[]⟩) R ⟨h,g,d,t,os⟩:=
 codeAny_call_builtin F.attrBase_ValueError.ga.plain F.entry_bexc_ga (HN T x hx hc (LN T x hx hc hq))
theorem Of{Q:RU->RX->Prop}(T:EI K C Wz newId nW)(x:K.In h)(hx:h.get? a=some o)(hc:o.cls=.ref C)(hq:Q (.ref C) ⟨h,g,d,t,os⟩):wpAny (model prog w) A (getAttrBy (.ref a) (.str "__class__" tk) false) Q E ⟨h,g,d,t,os⟩:=by
 have f3:=F.attrBase_ValueError.ga.bind (.ref a)
 have hx2:(Value.builtin "BaseException.__getattribute__" == Value.builtin "object.__getattribute__")=false:=by decide +kernel
 have hx1:(onTheHeap (Value.ref C)&&Value.builtin "BaseException.__getattribute__" == Value.builtin "object.__getattribute__")=false:=by rw[hx2];rfl
 have hm1:("__getattribute__" : Str)∈NG:=.tail _ (.head _)
 have hm2:("__getattr__" : Str)∈NG:=.tail _ (.tail _ (.head _))
 repeat (any_goals (first | assumption | (with_reducible refine wpAny_loadPart_at hx ?_;rw[hc]) | with_reducible refine DB T x hm1 F.attrBase_ValueError.ga.lookup ?_ | with_reducible refine DB T x hm2 F.attrBase_ValueError.noGetattr ?_ | wp_step))
 refine JU T x hx hc ?_
 repeat (any_goals (first | assumption | wp_step))
theorem JW{Q:RT RU->RX->Prop}(T:EI K C Wz newId nW)(x:K.In h)(hx:h.get? a=some o)(hc:o.cls=.ref C)(hq:Q (some (.ref C)) ⟨h,g,d,t+1,os⟩):wpAny (model prog w) A (getAttr? (.ref a) "__class__") Q E ⟨h,g,d,t,os⟩:=by
 unfold getAttr? getAttrBy?
 repeat (any_goals (first | assumption | with_reducible apply Of T x hx hc | wp_step))
end
theorem IS{K:RW}{C Wz:RY}{newId nW:String}{a:RY}{o:Obj}(T:EI K C Wz newId nW)(hc:o.cls=.ref C):W.KitX K (.ref a) (.ref C) (fun h=>h.get? a=some o) where
 ty:=fun M h _ p=>hc ▸ (W.Looks.ld p).andThen .now
 it:=fun M h X _=>by
  obtain⟨N,nm,q,bs,hdct,sn,sub,ab,col,dd,k0,k1,k2,k3,k5,mN,hqn,hh⟩:=T.own
  intro A' Q' E' s' k q
  unfold isType loadHead
  exact RV (wpAny_loadPart (k _ _ (hh h X).1) (R5 q))
 ne:=fun h tp dd its n sl X htp=>by
  obtain⟨N,nm,q,bs,hdct,sn,sub,ab,col,dd',k0,k1,k2,k3,k5,mN,hqn,hh⟩:=T.own
  refine Bool.eq_false_iff.mpr fun q=>?_
  have e:C=tp:=Value.ref.inj (Th.mp q)
  subst e
  rw[(hh h X).1] at htp
  have z:Value.type "type" = Value.type "tuple":=congrArg Obj.cls (Si htp)
  exact Sm (Value.type.inj z) (by decide)
 ca:=fun {_ _ _ _ _ s} X p k=>by
  obtain⟨h,g,d,t,os⟩:=s
  exact JW T X p hc k
end HW
namespace HW
open PySem PySem.Spec PyProof.Rows L2
abbrev Lc(X:Cx)(pins:List (RY×Obj))(E:RU->RX->Prop):Cx:={X with pn:=X.pn++pins,xe:=E}
abbrev Rl(X:Cx)(pins:List (RY×Obj))(e:RY):Cx:={X with A:=X.A.mark (some (.ref e)),calm:=false,pn:=X.pn++pins,xe:=fun _ _=>False}
abbrev NZ(X:Cx)(pins:List (RY×Obj))(e:RY)(oe:Obj):Cx:={X with A:=X.A.mark (some (.ref e)),calm:=false,pn:=(X.pn++pins)++[(e,oe)],xe:=fun _ _=>False}
section
variable{X:Cx}{pins pins':List (RY×Obj)}{σ:L2.St}{H:Hp}{s:RX}{E:RU->RX->Prop}{e:RY}{oe:Obj}
theorem Od(I:L2.Inv X pins σ H s):L2.Inv (Lc X pins E) [] σ H s:=
 ⟨⟨I.ok.mod,I.ok.kind,I.ok.glob,I.ok.blt,I.ok.above,I.ok.inj,I.ok.has,I.ok.cab,I.ok.hd,I.ok.frames,I.ok.stk,I.ok.exf,I.ok.bs,I.ok.bsz,I.ok.noex,I.ok.exfs,I.ok.funs,I.ok.frf⟩,I.os,I.bare,I.base,I.loc,I.cell,I.free,I.freeC,fun p hp=>I.pin p (by rw[Sw] at hp;exact hp),I.hok,I.len⟩
theorem Gs(I:L2.Inv (Lc X pins E) pins' σ H s):L2.Inv X pins σ H s:=
 ⟨⟨I.ok.mod,I.ok.kind,I.ok.glob,I.ok.blt,I.ok.above,I.ok.inj,I.ok.has,I.ok.cab,I.ok.hd,I.ok.frames,I.ok.stk,I.ok.exf,I.ok.bs,I.ok.bsz,I.ok.noex,I.ok.exfs,I.ok.funs,I.ok.frf⟩,I.os,I.bare,I.base,I.loc,I.cell,I.free,I.freeC,fun p hp=>I.pin p (S2 _ hp),I.hok,I.len⟩
theorem ON(I:L2.Inv X pins σ H s)(e:RY):L2.Inv (Rl X pins e) [] σ H s:=
 ⟨⟨I.ok.mod,I.ok.kind,I.ok.glob,I.ok.blt,I.ok.above,I.ok.inj,I.ok.has,I.ok.cab,fun z=>(by cases z),I.ok.frames,I.ok.stk,I.ok.exf,I.ok.bs,I.ok.bsz,I.ok.noex,I.ok.exfs,I.ok.funs,I.ok.frf⟩,I.os,I.bare,I.base,I.loc,I.cell,I.free,I.freeC,fun p hp=>I.pin p (by rw[Sw] at hp;exact hp),I.hok,I.len⟩
theorem OO(I:L2.Inv X pins σ H s)(he:s.heap.get? e=some oe)(hn:H e=none)(hl:e≠X.env.locals)(hf:e∉X.fs)(hd:∀v,oe.data≠.cell v):L2.Inv (NZ X pins e oe) [] σ H s:=
 ⟨⟨I.ok.mod,I.ok.kind,I.ok.glob,I.ok.blt,I.ok.above,I.ok.inj,I.ok.has,I.ok.cab,fun z=>(by cases z),I.ok.frames,I.ok.stk,I.ok.exf,I.ok.bs,I.ok.bsz,I.ok.noex,I.ok.exfs,I.ok.funs,I.ok.frf⟩,I.os,I.bare,I.base,I.loc,I.cell,I.free,I.freeC,fun p hp=>by
  rw[Sw] at hp
  rcases Ti.mp hp with z | z
  ·exact I.pin p z
  ·rw[R4.mp z]
   exact⟨he,hn,hl,hf,hd⟩,I.hok,I.len⟩
theorem JG(I:L2.Inv (NZ X pins e oe) pins' σ H s)(hd:X.calm=true->X.A.handled=none):L2.Inv X pins σ H s:=
 ⟨⟨I.ok.mod,I.ok.kind,I.ok.glob,I.ok.blt,I.ok.above,I.ok.inj,I.ok.has,I.ok.cab,hd,I.ok.frames,I.ok.stk,I.ok.exf,I.ok.bs,I.ok.bsz,I.ok.noex,I.ok.exfs,I.ok.funs,I.ok.frf⟩,I.os,I.bare,I.base,I.loc,I.cell,I.free,I.freeC,fun p hp=>I.pin p (S2 _ (S2 _ hp)),I.hok,I.len⟩
theorem IR{j t:Nat}{n:Str}{v:RT RU}{m:Str->RT RU}{h':Sq}(I:L2.Inv X pins σ H s)(hN:X.N.Nodup)(hj:X.N[j]?=some n)
  (hl:∀(i:Nat) (x:Str) (w:V),X.N[i]?=some x->σ[i]?=some (some w)->B0 X.env.scope x->∃u,RelV w u/\Look X.env s.heap m x u) (hn:h'.Ns X.env.locals (fun x=>if x=n then v else m x)) (hs:Heap.SameBut X.env.locals s.heap h'):L2.Inv X pins (σ.set j none) H {s with heap:=h',toks:=t}:=by
 have cne:∀x c,X.env.cells.lookup x=some c->c≠X.env.locals:=fun x c hc z=>by
  obtain⟨v,o,ho,hd⟩:=I.cell x c hc
  obtain⟨m',⟨o',es,ep,ho',hd',_⟩,_⟩:=I.loc
  rw[z,ho'] at ho
  cases ho
  rw[hd'] at hd
  cases hd
 have cellK:∀x c w,X.env.cells.lookup x=some c->s.heap.IsCell c w->h'.IsCell c w:=fun x c w hc ⟨o,ho,hd⟩=>⟨o,(hs.2 c (cne x c hc)).trans ho,hd⟩
 have ne0:∀b o,X.s₀.heap.get? b=some o->b≠X.env.locals:=fun b o hb=>Sn (R8 (R_ hb) I.ok.above)
 refine⟨I.ok,I.os,I.bare,⟨fun b o e n hb hx=>(hs.2 b (ne0 b o e)).trans (I.base.keep b o e n hb hx),fun b o e n hb hx=>?_,I.base.free,fun b o e hx=>?_,I.base.tups,I.base.frzs,I.base.tbls⟩,⟨_,hn,fun i x w h1 h2 h3=>?_⟩,fun x c hc=>?_,I.free,I.freeC,fun p hp=>?_,fun b ob e=>?_,by rw[S4];exact I.len⟩
 ·obtain⟨sl,e1⟩:=I.base.slot b o e n hb hx
  exact⟨sl,(hs.2 b (ne0 b o e)).trans e1⟩
 ·obtain⟨o',e1⟩:=I.base.there b o e hx
  exact⟨o',(hs.2 b (ne0 b o e)).trans e1⟩
 ·have hij:i≠j:=fun z=>by
   subst z
   have hlt:i<σ.length:=by rw[I.len];exact(Sg.mp hj).1
   rw[SH hlt] at h2
   cases h2
  rw[SM (Ne.symm hij)] at h2
  obtain⟨u,r,lk⟩:=hl i x w h1 h2 h3
  have hxn:x≠n:=fun z=>hij (A2 hN h1 (z ▸ hj))
  refine⟨u,r,?_⟩
  rcases lk with ⟨k,q⟩ | ⟨k,c,hc,z⟩
  ·exact .inl ⟨k,(Sa hxn).trans q⟩
  ·exact .inr ⟨k,c,hc,cellK x c _ hc z⟩
 ·obtain⟨w,z⟩:=I.cell x c hc
  exact⟨w,cellK x c w hc z⟩
 ·obtain⟨e1,e2,e3,e4,e5⟩:=I.pin p hp
  exact⟨(hs.2 p.1 e3).trans e1,e2,e3,e4,e5⟩
 ·refine(I.hok b ob e).stay (fun c w' hc q=>(hs.2 c ?_).trans q) (fun _ q=>q) (fun _ _ q=>q) fun _ _ _ q=>q
  rintro rfl
  rcases hc with z | hc
  ·rw[<- z,I.free] at e;cases e
  ·rw[I.free] at hc;cases hc
end
section
variable{M:Model}{A:Sv}{E:RU->RX->Prop}{h:Sq}{g:Array GenState}{d:Drawn}{t:Nat}{os:OsState}{K:RW}{C Wz e:RY}{newId nW:String}{oe:Obj}
theorem II(T:EI K C Wz newId nW)(x:K.In h){Q:Bool->RX->Prop}(he:h.get? e=some oe)(hcls:oe.cls=.ref C)(hq:Q true ⟨h,g,d,t,os⟩):wpAny M A (excMatches (.ref e) (.ref Wz)) Q E ⟨h,g,d,t,os⟩:=by
 obtain⟨N',nm',q',bs',hdct',sn',sub',ab',col',dd',j0,j1,j2,j3,j5,mN',hqn',hh'⟩:=T.base
 have hW:=(hh' h x).1
 have hcB:(Value.ref Wz::VE).contains (.type "BaseException")=true:=rfl
 have hcW:(Value.ref C::.ref Wz::VE).contains (.ref Wz)=true:=by simp
 have f:=tc_notTuple
 unfold excMatches
 repeat (first | (with_reducible refine wpAny_loadPart_at he ?_;rw[hcls]) | with_reducible refine wpAny_loadPart_at hW ?_ | (with_reducible refine wpAny_isSubtype_exc hW ?_;rw[hcB]) | (with_reducible refine E5 T x ?_;rw[hcW]) | wp_step)
 exact hq
end
section
variable{X:Cx}{ca:Nat->RY}{Wz:RY}{newId nW:String}{x n:Str}{np apos hpos pos:Pos}{tg e0:Sr}{b₀:So}{suite:List So}{fx:XD}{stf:D->R->RT R}{gs:Nat->Nat->R->RT Out}
end
section
variable{X:Cx}{pos p:Pos}{e:Sr}{es:List Sr}{k i:Nat}{f c':RY}{G:LD->OD}{F:R->RT LD}{name qual:Str}{params:Arguments}{body:Sr}{scope:Scope}{cl:List (Str×RY)}{pm ctv:RU}{ps:List Str}
theorem JD{M:Model}(h:Sq)(x:h.get? f=some (W.kla_obj name qual params body scope cl pm c' ctv)):∃k,(k=Keeper.frame\/k=Keeper.machine\/k=Keeper.boundFrame)/\W.Looks M h (keeperOf (.ref f)) k:=
 ⟨.frame,.inl rfl,(W.Looks.ld (part:=none) x).andThen .now⟩
end
section
variable{X:Cx}{pins:List (RY×Obj)}{σ:L2.St}{H:Hp}{s:RX}{pos:Pos}
theorem tB{t:wl}{ts:List wl}{params:Arguments}{body:Sr}{scope:Scope}{clos:List (Str×RY)}(TB:vN X.mg ts X.base)(ht:t∈ts)(hcode:X.env.code=.ref t.c)(hq:X.env.qual ++ "<lambda>" = t.q)(hcl:closureFor scope X.env=pure clos)(hdef:defaultsOf params X.env=([],[]):=by rfl) :
  PE X (.Lambda params body scope pos) fun σ H Q=>H t.P=some (.tbl t.q false)/\∀f c' ctv pm H',i6 H H'->H f=none->H' f=some (xC (W.kla_obj "<lambda>" t.q params body scope clos pm c' ctv))->H' c'=some (.tbl t.q true)->Q (.ref f) H':=by
 intro pins s σ H Q I ⟨hP,q⟩
 refine W.kla_eval hdef ?_
 rw[hq]
 refine uo (Jh I TB ht hP hcode hcl) fun v s' ⟨f,c',ctv,pm,H',ev,I',sm,hn,h1,h2⟩=>?_
 exact⟨.ref f,H',I',ev,q f c' ctv pm H' sm hn h1 h2⟩
def x4(cl:List (Str×RY))(h:Sq)(H:Hp):Hp:=fun b=>if uG cl b then (h.get? b).map xC else H b
theorem zN{cl:List (Str×RY)}{h:Sq}{b:RY}{o:Obj}(hb:uG cl b=true)(e:h.get? b=some o):x4 cl h H b=some (xC o):=by
 show(if uG cl b then (h.get? b).map xC else H b)=_
 rw[R3 hb,e];rfl
theorem vX{cl:List (Str×RY)}{h:Sq}{b:RY}(hb:uG cl b=false):x4 cl h H b=H b:=by
 show(if uG cl b then (h.get? b).map xC else H b)=_
 rw[Sa (by rw[hb];decide)]
theorem vO{cl:List (Str×RY)}{b:RY}(hb:uG cl b=false):vc cl H b=H b:=by
 show(if uG cl b then none else H b)=_
 rw[Sa (by rw[hb];decide)]
theorem Gr{cl:List (Str×RY)}{b:RY}(hb:uG cl b=true):vc cl H b=none:=by
 show(if uG cl b then none else H b)=_
 rw[R3 hb]
theorem Ks{k:Nat}{f:RY}{fd:SV}{ps:List Str}{sp:Sp}{cl:List (Str×RY)}{us:List RU}{vs:List V}{Q:VK}(F:k6 X.prog X.w X.K X.mg X.base ue k f fd ps sp)(hr:ua k X.A)(hb:Binds X.K fd ps [])(hfn:∀x,X.fn x=true)(hcl:∀b,uG cl b=true->∃x,X.env.cells.lookup x=some b)
  (I:L2.Inv X pins σ H s) (r:l6 vs us) (h:sp vs (x4 cl s.heap H) (fun v H'=>Q v (vc cl H')) E0):wpAny (model X.prog X.w) X.A (call (.ref f) us) (EP X pins σ Q) X.xe s:=by
 have cellO:∀{b:RY},uG cl b=true->∃o v,s.heap.get? b=some o/\o.data=.cell v/\H b=none/\X.s₀.heap.objs.size<=b:=fun {b} hb=>by
  obtain⟨x,hx⟩:=hcl b hb
  obtain⟨v,o,e,d⟩:=I.cell x b hx
  exact⟨o,v,e,d,I.freeC x b hx,I.ok.cab x b (hfn x) hx⟩
 have nC:∀{b:RY} {u:HO},H b=some u->uG cl b=false:=fun {b u} e=>by
  cases q:uG cl b with
  | false=>rfl
  | true=>obtain⟨_,_,_,_,z,_⟩:=cellO q;rw[e] at z;cases z
 have tk:∀{b:RY} {u:HO},H b=some u->x4 cl s.heap H b=some u:=fun e=>by rw[vX (nC e)];exact e
 have hok:y4 X.prog X.w (x4 cl s.heap H) s.heap:=fun b u e=>by
  cases q:uG cl b with
  | true =>
   obtain⟨o,_,g,_⟩:=cellO q
   rw[zN q g] at e
   cases e
   exact⟨g,trivial,⟨_,g⟩,fun _ _ _ _=>trivial⟩
  | false =>
   rw[vX q] at e
   exact(I.hok b u e).stay (fun _ _ _ g=>g) (fun c g=>tk g) (fun c xs g=>tk g) fun c a d g=>tk g
 have low:∀{b:RY},b<X.s₀.heap.objs.size->uG cl b=false:=fun {b} hb=>by
  cases q:uG cl b with
  | false=>rfl
  | true=>obtain⟨_,_,_,_,_,z⟩:=cellO q;exact Sm (R8 hb z) (SN _)
 have e0:Ae X.prog X.w X.K X.mg X.base X.A X.stack s (x4 cl s.heap H):=by
  have z:=I.env0
  refine⟨z.frames,z.mod,fun b o e=>⟨(z.bs b o e).1,?_⟩,z.bsz,z.funs,fun b hb=>?_,hok,z.bare⟩
  ·rw[vX (low (R8 (R_ e) I.ok.bsz))];exact(z.bs b o e).2
  ·have n:=z.frf b hb
   cases q:uG cl b with
   | false=>rw[vX q];exact n
   | true =>
    obtain⟨x,hx⟩:=hcl b q
    rcases Sf.mp (I.stkSub b hb) with m | m
    ·exact Sm m (I.cne x b hx)
    ·obtain⟨_,o,ho,_⟩:=I.ok.funs.mem m
     rw[low (R_ ho)] at q;cases q
 have hl:us.length=ps.length:=by rw[<- r.length];exact F.len _ _ _ _ h
 refine wpAny_call (codeAny_mono (F.run X.A X.stack s (x4 cl s.heap H) ⟨us,[]⟩ us vs _ E0 hr e0 (by have:=hb s us I.kIn (by simpa using hl);simpa using this) r h) fun rr s' hq=>?_)
 cases rr with
 | error e=>exact ym pins σ H s e s' I hq
 | ok fl =>
  cases fl with
  | next=>exact False.elim hq
  | brk=>exact False.elim hq
  | cont=>exact False.elim hq
  | ret u =>
   obtain⟨v,H',os,bare,un,hok',rv,q⟩:=hq
   obtain⟨hh,g,d,tt,os'⟩:=s'
   obtain rfl:os'=s.os:=os
   have ck:∀{b:RY},uG cl b=true->∃o,s.heap.get? b=some o/\H' b=some (xC o)/\hh.get? b=some o:=fun {b} hb=>by
    obtain⟨o,_,e,_⟩:=cellO hb
    have z:=un.frzs b o _ (fun y w=>by cases w) (zN hb e)
    exact⟨o,e,z,(hok' b _ z).1⟩
   have bk:∀{b:RY} {u:HO},H' b=some u->(∀o,u≠xC o)->vc cl H' b=some u:=fun {b u} e n=>by
    cases qq:uG cl b with
    | false=>rw[vO qq];exact e
    | true=>obtain⟨o,_,z,_⟩:=ck qq;rw[e] at z;cases z;exact Sm rfl (n o)
   refine⟨v,vc cl H',I.call (h':=hh) (g':=g) (d':=d) (t':=tt) (ch:=[]) ⟨fun b o e n hf hx=>?_,fun b o e n hf hx=>?_,fun b o e n hx=>?_,fun b o e hx=>un.there b o e hx,fun b xs e=>bk (un.tups b xs (tk e)) (fun o z=>by cases z),fun b o u ny e=>?_,fun b a d' e=>bk (un.tbls b a d' (tk e)) (fun o z=>by cases z)⟩ (fun b u e=>?_) bare (fun b z=>Sm z (by simp)),rv,q⟩
   ·cases qq:uG cl b with
    | true=>obtain⟨o',e1,_,e2⟩:=ck qq;rw[e] at e1;cases e1;exact e2
    | false=>exact un.keep b o e (by rw[vX qq];exact n) hf hx
   ·cases qq:uG cl b with
    | true=>obtain⟨o',e1,_,e2⟩:=ck qq;rw[e] at e1;cases e1;exact⟨o.slots,e2⟩
    | false=>exact un.slot b o e (by rw[vX qq];exact n) hf hx
   ·cases qq:uG cl b with
    | true=>exact Gr qq
    | false=>rw[vO qq];exact un.free b o e (by rw[vX qq];exact n) hx
   ·rw[vO (nC e)];exact un.frzs b o u ny (tk e)
   ·cases qq:uG cl b with
    | true=>rw[Gr qq] at e;cases e
    | false =>
     rw[vO qq] at e
     exact(hok' b u e).stay (fun _ _ _ g=>g) (fun c g=>bk g fun o z=>by cases z) (fun c xs g=>bk g fun o z=>by cases z) fun c a d g=>bk g fun o z=>by cases z
end
theorem Ir {l:W.OpenLaw} {n k:Nat} {q:R9} {loose:List Str} {XP:(Str->RT RU)->Sq->Prop} {YP:Sk->Sq->Prop} {d:DefRec} {K:Params->RW} {CX:Sk->DU} {sp:Sk->List wl->Sp} {x:Str}
    (hn:l.most=some n) (hn2:n<=sizeLine) (hdf:d.params.defaults=[]) (hr:ua k callerA)
    (hY:∀(w:Sk) (h:Sq),YP w h->(K w.params).In h)
    (F:∀(w:Sk) (mg:Str->RT RU) (fa:RY) (h:Sq),(K w.params).In h->h.Ns mainGlobals mg->mg d.name=some (.ref fa) ->
      ∃(ts:List wl) (fd:SV),(∀t∈ts,(K w.params).lookup t.P=none/\∃y d',(recsOf q).find? (fun e=>e.name==y)=some d'/\W.tabIn (K w.params) y=some (t.c,t.P))/\(∀(s:RX) (u:RU),BindsTo s fd ⟨[u],[]⟩ [(x,u)]) /\
        ∀base:Sq,(K w.params).In base->base.Ns mainGlobals mg->vN mg ts base->k6 l.prog w (K w.params) mg base (CX w) k fa fd [x] (sp w ts))
    (hsp:∀(w:Sk) (ts:List wl) (H:Hp) (a:RY) (ns:List Int),ns.length<=n->FZ ts a H->(∀t∈ts,t.P≠a)->wj (K w.params) H a (ns.map V.int)->sp w ts [.ref a] H (fun v _=>v=.bl true) fun _ _ _=>False)
    (hCX:∀(w:Sk) (H:Hp) (s:RX) (e:RU) (s':RX),CX w [] H s (fun _ _ _=>False) e s'->False) :
    W.WalkO q loose XP YP l.row.toRowW d [] (fun f vs=>PySem.call f vs):=by
  refine Att.attach_call hn hdf fun w s₀ s₁ mg mb fa o pm cd doc a vs ns G Y ho hd hcd hmg hobj hints hlen hg=>?_
  have KX:=hY w _ Y
  obtain⟨ts,fd,hts,hb,hF⟩:=F w mg fa _ KX G.T.g hmg
  refine GK KX G.T.g G.T.b G.T.builtins G.T.nolimit hg hobj hints (Sx hlen hn2) hr (fun t ht=>?_) (fun t ht=>(hts t ht).1) ?_ hF hb (fun H hO hP hS=>hsp w ts H a ns hlen hO hP hS) fun H e s'=>hCX w H s₁ e s'
  · obtain⟨_,y,d',h1,h2⟩:=hts t ht
    exact W.tab_of G.T KX h1 h2
  · obtain⟨bm,ob,b1,b2,b3,b4,b5,b6⟩:=G.T.bmain
    refine⟨bm,ob,b1,b2,fun z=>?_,b3,b4,b5,b6⟩
    obtain⟨o',es,ep,e,hd',_⟩:=G.T.g
    rw[z,e] at b3;cases b3;rw[hd'] at b6;cases b6
section
variable{X:Cx}{pins:List (RY×Obj)}{σ:L2.St}{H Hp':Hp}{s:RX}{pos:Pos}
structure Gz (X:Cx) (cl:List (Str×RY)) (σ:L2.St) (H H':Hp):Prop where
 out:∀b,uG cl b=false->H' b=H b
 cel:∀b,uG cl b=true->H b=none/\∃o v,H' b=some (xC o)/\o.data=.cell v
 val:∀(i:Nat) (x:Str) (c:RY) (v:V),X.N[i]?=some x->σ[i]?=some (some v)->cl.lookup x=some c->∃o u,H' c=some (xC o)/\o.data=.cell (some u)/\RelV v u
structure HF (X:Cx) (cl:List (Str×RY)):Prop where
 fn:∀x,X.fn x=true
 ndc:(cl.map (·.1)).Nodup
 of:∀x c,cl.lookup x=some c->X.env.cells.lookup x=some c/\X.env.scope.names.lookup x=some .cell
theorem HF.lk{cl:List (Str×RY)}(o:HF X cl):∀b,uG cl b=true->∃x,X.env.cells.lookup x=some b:=fun b hb=>by
 obtain⟨p,hp,e⟩:=List.any_eq_true.mp hb
 exact⟨p.1,(o.of p.1 b (wm o.ndc (by rw[<- Tq e];exact hp))).1⟩
theorem Ib{cl:List (Str×RY)}(o:HF X cl)(I:L2.Inv X pins σ H s):Gz X cl σ H (x4 cl s.heap H):=by
 refine⟨fun b hb=>vX hb,fun b hb=>?_,fun i x c v h1 h2 h3=>?_⟩
 ·obtain⟨x,hx⟩:=o.lk b hb
  obtain⟨v,ob,e,d⟩:=I.cell x b hx
  exact⟨I.freeC x b hx,ob,v,zN hb e,d⟩
 ·obtain⟨hx,hk⟩:=o.of x c h3
  obtain⟨m,_,hl⟩:=I.loc
  obtain⟨u,rv,lk⟩:=hl i x v h1 h2 (.inr (.inl hk))
  rcases lk with ⟨z,_⟩ | ⟨_,c2,e2,ob,g,d⟩
  ·exact Sm (show some NameKind.cell=some NameKind.local from hk.symm.trans z) (by simp)
  ·rw[hx] at e2
   cases e2
   exact⟨ob,u,zN (Fc h3) g,d,rv⟩
theorem qx{x:Str}{e:Sr}{es:List Sr}{k:Nat}{f:RY}{fd:SV}{ps:List Str}{sp:Sp}{t:TA}{p:Pos}{cl:List (Str×RY)}(F:k6 X.prog X.w X.K X.mg X.base ue k f fd ps sp)(hr:ua k X.A)(hg:Gl X x)(hm:X.mg x=some (.ref f))(hk:W.keepIn X.K (.ref f)=true)(hb:Binds X.K fd ps [])(o:HF X cl)
  (ha:PA X (e::es) t) (hdb:(x==("__debug__" : Str))=false:=by decide) (he:starEach (e::es) X.env=(false,eval e X.env)::starEach es X.env:=by rfl) (hpl:(backTo pos (starEach es X.env)).any (·.1)=false:=by rfl) :
  PE X (.Call (.Name x p) (e::es) [] pos) fun σ H Q=>t σ H fun vs H1=>∀H2,Gz X cl σ H1 H2->sp vs H2 (fun v H'=>Q v (vc cl H')) E0:=by
 intro pins s σ H Q I h
 refine S8 (eK I hg hm ?_ hdb)
 refine W.callWith_K (h₀:=X.base) I.ok.mod.kin hk (uo (ha pos pins s σ H _ I h) fun us s1 ⟨vs,H1,I1,r,q⟩=>⟨I1.kIn,?_⟩) he hpl
 exact Ks F hr hb o.fn o.lk I1 r (q _ (Ib o I1))
end
section
variable{K:RW}{H H':Hp}
theorem xn.clo{a:RY}{xs:List V}(s:∀b u,H b=some u->(∀o,u≠xC o)->H' b=some u)(h:xn K H a xs):xn K H' a xs:=by
 rcases h with (h | ⟨o,h⟩) | h
 ·exact .inl (.inl (s _ _ h fun o z=>by cases z))
 ·exact .inl (.inr ⟨o,s _ _ h fun o z=>by cases z⟩)
 ·exact .inr h
theorem wj.clo{a:RY}{xs:List V}(s:∀b u,H b=some u->(∀o,u≠xC o)->H' b=some u)(h:wj K H a xs):wj K H' a xs:=by
 rcases h with (h | ⟨o,h⟩) | h
 ·exact .inl (.inl (s _ _ h fun o z=>by cases z))
 ·exact .inl (.inr ⟨o,s _ _ h fun o z=>by cases z⟩)
 ·exact .inr h
theorem KI.clo{k a:Nat}{ks:List Str}{vs:List V}(s:∀b u,H b=some u->(∀o,u≠xC o)->H' b=some u)(h:KI H k a ks vs):KI H' k a ks vs:=by
 match k,h with
 | 0,⟨z,its,n,r,q⟩=>exact⟨z,its,n,r,s _ _ q fun o z=>by cases z⟩
 | 1,⟨z,q⟩=>exact⟨z,s _ _ q fun o z=>by cases z⟩
 | C+2,⟨z,dx,q⟩=>exact⟨z,dx,s _ _ q fun o z=>by cases z⟩
mutual
theorem Rep.clo(s:∀b u,H b=some u->(∀o,u≠xC o)->H' b=some u):∀{d:D} {v:V},Rep K H d v->Rep K H' d v
 | .non,_,h=>h
 | .bl _,_,h=>h
 | .int _,_,h=>h
 | .str _,_,h=>h
 | .tup ds,_,h=>by
  obtain⟨a,xs,e,q,r⟩:=h
  exact⟨a,xs,e,xn.clo s q,i5.clo s r⟩
 | .lst ds,_,h=>by
  obtain⟨a,xs,e,q,r⟩:=h
  exact⟨a,xs,e,s _ _ q (fun o z=>by cases z),i5.clo s r⟩
 | .fro ds,_,h=>by
  obtain⟨a,xs,e,q,r⟩:=h
  exact⟨a,xs,e,wj.clo s q,i5.clo s r⟩
 | .obj ..,_,h=>by
  obtain⟨xs,e,q,r⟩:=h
  exact⟨xs,e,q.clo s,i5.clo s r⟩
 | .rf _,_,h=>h
theorem i5.clo(s:∀b u,H b=some u->(∀o,u≠xC o)->H' b=some u):∀{ds:LD} {vs:List V},i5 K H ds vs->i5 K H' ds vs
 | [],_,h=>h
 | d::ds,_,h=>by
  obtain⟨v,r,e,q,t⟩:=h
  exact⟨v,r,e,Rep.clo s q,i5.clo s t⟩
end
theorem BE{cl:List (Str×RY)}(hC:∀b,uG cl b=true->∃o,H b=some (xC o)):∀b u,H b=some u->(∀o,u≠xC o)->vc cl H b=some u:=fun b u e n=>by
 cases q:uG cl b with
 | false=>rw[vO q];exact e
 | true =>
  obtain⟨o,z⟩:=hC b q
  rw[e] at z
  exact Sm (Si z) (n o)
theorem qz:∀{ds:LD} {vs:List V},i5 K H ds vs->ut K H (ds.map some) (vs.map some):=fun {ds vs} r=>by
 refine⟨by rw[R7,R7,r.length];exact Se _,fun i d h=>?_⟩
 rw[SX] at h
 obtain⟨d',e,q⟩:=t7 h
 cases q
 obtain⟨v,h1,h2⟩:=r.get e
 exact⟨v,by rw[SX,h1];rfl,h2⟩
end
section
variable{P:R9}{w:Sk}{K:RW}{mg:Str->RT RU}{base:Sq}{N ps:List Str}{qual:Str}{scope:Scope}{cl:List (Str×RY)}{f:RY}{cd:RU}{A:Sv}{outer:List Env}{s:RX}{H H2:Hp}{E:XK}{C:RY}{caps:List V}
theorem M9(S:wF N ps scope cl)(hcap:ze H N ps cl caps)(hokS:y4 P w H s.heap)(frf:∀b∈xu outer,H b=none)(hE:E (.ref C) none (wM cl H H2))(hS:i6 (vc cl H) H2):XW (By (AN P w) P w K mg base N qual scope cl f cd A outer s H E) C H2:=fun e s' ⟨pins,σ,B,J,c1,c2,_,_,x⟩=>by
 obtain⟨cl1,cl2,cl3⟩:=hcap
 show wpAny (model P w) (A.deeper (W.envX qual scope s.heap.objs.size f cd cl)) (leaving (W.envX qual scope s.heap.objs.size f cd cl) (.ref e)) (fun _ s''=>AN P w outer H s E (.ref e) s'') (fun e' s''=>AN P w outer H s E e' s'') s'
 refine CK J.ok.frames rfl x fun h' x' up=>?_
 have noA:∀b:RY,b∉(By (AN P w) P w K mg base N qual scope cl f cd A outer s H E).ex:=fun b z=>Sm (show b∈([]:List RY) from z) (by simp)
 have dr:∀{b:RY} {u:HO},H b=some u->(∀o,u≠xC o)->uG cl b=false:=fun {b u} e n=>by
  cases q:uG cl b with
  | false=>rfl
  | true=>obtain⟨o,v,z,_⟩:=cl2 b q;rw[e] at z;cases z;exact Sm rfl (n o)
 have dk:∀{b:RY} {u:HO},H b=some u->(∀o,u≠xC o)->vc cl H b=some u:=fun {b u} e n=>by
  show(if uG cl b then none else H b)=_
  rw[dr e n];exact e
 have dn:∀{b:RY},H b=none->vc cl H b=none:=fun {b} e=>by
  show(if uG cl b then none else H b)=_
  split
  ·rfl
  ·exact e
 have bk:∀{b:RY} {u:HO},H2 b=some u->wM cl H H2 b=some u:=fun {b u} e=>by
  show(if uG cl b then H b else H2 b)=_
  cases qq:uG cl b with
  | false=>exact e
  | true =>
   obtain⟨p,hp,hpb⟩:=List.any_eq_true.mp qq
   have this:∃x,cl.lookup x=some b:=⟨p.1,wm S.ndc (by rw[<- Tq hpb];exact hp)⟩
   obtain⟨x,hx⟩:=this
   have:=J.freeC x b hx
   rw[this] at e;cases e
 have bc:∀{b:RY},uG cl b=true->wM cl H H2 b=H b:=fun {b} hb=>by show(if uG cl b then H b else H2 b)=_;rw[hb];rfl
 have bn:∀{b:RY},uG cl b=false->wM cl H H2 b=H2 b:=fun {b} hb=>by show(if uG cl b then H b else H2 b)=_;rw[hb];rfl
 have hfn:∀b o,s.heap.get? b=some o->b∉xu outer->b∉xu (W.envX qual scope s.heap.objs.size f cd cl::outer):=fun b o hb hn hm=>by
  have hm':b∈s.heap.objs.size::xu outer:=hm
  rcases Sf.mp hm' with z | z
  ·rw[z] at hb;exact SN _ (R_ hb)
  ·exact hn z
 have cov:∀b o,s.heap.get? b=some o->b∉xu outer->∃o',B.get? b=some o':=fun b o hb hn=>c1 b o hb (hfn b o hb hn) (by intro z;cases z)
 have cellKept:∀{b:RY},uG cl b=true->∃o,H b=some (xC o)/\s'.heap.get? b=some o/\∃o',B.get? b=some o':=fun {b} hb=>by
  obtain⟨o,u',z,_⟩:=cl2 b hb
  have hfr:b∉xu outer:=fun m=>by rw[frf b m] at z;cases z
  exact⟨o,z,J.base.keep b o (hokS b _ z).1 (by show(if uG cl b then none else H b)=none;rw[hb];rfl) hfr (noA b),cov b o (hokS b _ z).1 hfr⟩
 have un0:Un (xu outer) [] H (wM cl H H2) s.heap s'.heap:=by
  refine⟨fun b o e n hf' hx=>J.base.keep b o e (dn n) hf' (noA b),fun b o e n hf' hx=>J.base.slot b o e (dn n) hf' (noA b),fun b o e n hx=>?_,fun b o e hx=>J.base.there b o e (noA b),fun b xs e=>bk (J.base.tups b xs (dk e fun o z=>by cases z)),fun b o u ny e=>?_,fun b a d e=>bk (J.base.tbls b a d (dk e fun o z=>by cases z))⟩
  ·cases hb:uG cl b with
   | true=>rw[bc hb];exact n
   | false=>rw[bn hb];exact J.base.free b o e (dn n) (noA b)
  ·cases hb:uG cl b with
   | true=>rw[bc hb];exact e
   | false =>
    rw[bn hb]
    refine J.base.frzs b o u ny ?_
    show(if uG cl b then none else H b)=_
    rw[hb];exact e
 have hok0:y4 P w (wM cl H H2) s'.heap:=fun b u e=>by
  cases hb:uG cl b with
  | true =>
   obtain⟨o,z,g,_⟩:=cellKept hb
   rw[bc hb,z] at e
   cases e
   exact⟨g,trivial,⟨_,g⟩,fun _ _ _ _=>trivial⟩
  | false =>
   rw[bn hb] at e
   exact(J.hok b u e).stay (fun c v _ g=>g) (fun c g=>bk g) (fun c xs g=>bk g) fun c a d g=>bk g
 have c2':∀b u,wM cl H H2 b=some u->∃o',B.get? b=some o':=fun b u e=>by
  cases hb:uG cl b with
  | true=>obtain⟨o,_,_,q⟩:=cellKept hb;exact q
  | false=>rw[bn hb] at e;exact c2 b u e
 have sm:i6 H (wM cl H H2):=fun b u e=>by
  cases hb:uG cl b with
  | true=>rw[bc hb];exact e
  | false=>rw[bn hb];exact hS b u (by show(if uG cl b then none else H b)=_;rw[hb];exact e)
 exact⟨e,C,B,_,rfl,J.os,J.bare,x',AM un0 x.st x'.st (fun b _ o=>up b o) (fun b hb=>by
   obtain⟨_,o,ho,nd⟩:=x.fr.mem (Su _ hb:b∈s.heap.objs.size::xu outer)
   exact⟨o,ho,nd⟩) (fun b o hb hf _=>cov b o hb hf),zz hok0 x.st x'.st c2',cov,c2',sm,hE⟩
end
section
variable{X:Cx}{ca:Nat->RY}{pos p:Pos}{k:Nat}{f c':RY}{name qual:Str}{params:Arguments}{body:Sr}{scope:Scope}{cl:List (Str×RY)}{pm ctv:RU}{ps:List Str}
theorem pj{i:Nat}{x:Str}{sp:Sp}(hF:k6 X.prog X.w X.K X.mg X.base (AN X.prog X.w) k f (W.kla_fn name qual params body scope cl pm (.ref c') ctv) ps sp)(bd:Binds X.K (W.kla_fn name qual params body scope cl pm (.ref c') ctv) ps [])(hr:ua k X.A)
  (hN:X.N[i]?=some x:=by rfl) (hv:B0 X.env.scope x:=by first | exact Or.inl rfl | exact Or.inr (Or.inl rfl) | exact Or.inr (Or.inr rfl)) (hd:(x==("__debug__" : Str))=false:=by decide) (hcd:(x==("__classdict__" : Str))=false:=by decide) :
  PE X (.Call (.Name x p) [] [] pos) fun σ H Q=>σ[i]?=some (some (.ref f))/\H f=some (xC (W.kla_obj name qual params body scope cl pm c' ctv))/\sp [] H Q (EX X):=by
 intro pins s σ H Q I ⟨x1,hf,h⟩
 refine S8 (uo (ju (pos:=p) hN hv hd hcd pins s σ H (fun v H1=>v=.ref f/\H1=H) I ⟨.ref f,x1,rfl,rfl⟩) fun u s1 ⟨v,H1,I1,rv,ev,eH⟩=>?_)
 subst ev eH
 cases (show u=_ from rv)
 refine W.callWith_of (P:=fun h=>h.get? f=some (W.kla_obj name qual params body scope cl pm c' ctv)) rfl JD (PyProof.Rows.evalArgs_empty ⟨(I1.hok f _ hf).1,?_⟩)
 exact Br (us:=[]) hF hr bd .nil LB I1 .nil (by rw[Sw];exact h)
end
section
variable{X:Cx}{ca:Nat->RY}{Wz:RY}{newId nW:String}{x n:Str}{np apos hpos pos:Pos}{b₀:So}{suite:List So}{gs:Nat->Nat->R->RT Out}
theorem rD{b1:So}{tb:L2.St->Hp->(L2.St->Hp->Prop)->(Nat->Hp->Prop)->Prop}(j:Nat)(T:∀c,c<2->EI X.K (ca c) Wz newId nW)(hc:X.calm=true)(hcells:X.env.cells=[])(hstk:X.stack=X.env::X.outer)(hfr:X.env.frame=some X.env.locals)(hex:X.ex=[])(hN:X.N.Nodup)(hm:X.mg x=some (.ref Wz))
  (hmn:∀ σ H Qn Qe Qe',(∀c H',Qe c H'->Qe' c H')->tb σ H Qn Qe->tb σ H Qn Qe') (ha:∀pins E,PS (Lc X pins E) b1 (fun D σ H=>tb σ H D.nx fun c H'=>XW (Lc X pins E) (ca c) H'))
  (hs:∀pins e oe c,c<2->oe.cls=.ref (ca c)->SS (NZ X pins e oe) (b₀::suite) (gs c e))
  (hj:X.N[j]?=some n:=by rfl) (hloc:X.env.kindOf n=some .local:=by rfl) (hgl:Gl X x:=by rfl) (hd:(x==("__debug__" : Str))=false:=by decide) :
  PS X (.Try [b1] [.ExceptHandler (some (.Name x np)) (some n) (b₀::suite) hpos] [] [] pos) (fun D σ H=>tb σ H D.nx fun c H1=>c<2/\∀e:Nat,∃ ρ',gs c e (M2 X.N.length j e)=some (.nx ρ')/\∀ σ' H',i6 H1 H'->ut X.K H' (ρ'.set j none) σ'->D.nx σ' H'):=by
 intro pins s σ H D I q
 refine wpAny_Try_except ?_
 generalize hE:(fun (ev:RU) (s₁:RX)=>wpAny (model X.prog X.w) X.A (noteFrame ev X.env) (fun _ s₂=>wpAny (model X.prog X.w) X.A (setFlight ev none) (fun _ s₃=>wpAny (model X.prog X.w) X.A (handleBy ev X.env [.ExceptHandler (some (.Name x np)) (some n) (b₀::suite) hpos]) (SP X pins D) X.xe s₃) X.xe s₂) X.xe s₁)=E'
 have body:=(c_ (ha pins E')) [] s σ H {nx:=fun σ' H'=>D.nx σ' H',rt:=fun _ _=>False} (Od I) (hmn _ _ _ _ _ (fun c H1 ⟨hc2,k⟩=>by
   rintro e s₁ ⟨pins',σ',B,xa⟩
   rw[<- hE]
   have xe1:ES B (X.env::X.outer) e (ca c) s₁.heap:=by rw[<- hstk];exact xa.exc
   have IX:L2.Inv X pins σ' H1 s₁:=Gs xa.inv
   refine EB (by rw[<- hstk];exact IX.ok.frames) hfr xe1 fun h1 x1 u1=>zi (s:={s₁ with heap:=h1}) x1 fun h2 x2 u2=>?_
   have hlf:X.env.locals∈xu X.stack:=by rw[hstk];exact List.mem_filterMap.mpr ⟨X.env,SY,hfr⟩
   have fsub:∀b∈X.fs,b∈xu X.stack:=fun b hb=>by
    rw[hstk]
    obtain⟨env',z1,z2⟩:=List.mem_filterMap.mp hb
    exact List.mem_filterMap.mpr ⟨env',Su _ z1,z2⟩
   have stay:∀h':Sq,ES B (X.env::X.outer) e (ca c) h'->s₁.heap.UpToSlots h'->L2.Inv X pins σ' H1 {s₁ with heap:=h' }:=fun h' x' u' =>
    HX IX xa.exc.st x'.st (fun b _ o ho nd=>u' b o ho nd) (fun b o hb hn hx=>xa.ent b o hb (fun hm=>by
     rcases Sf.mp (IX.stkSub b hm) with z | z
     ·rw[z] at hb;exact Sm (R8 (R_ hb) IX.ok.above) (SN _)
     ·exact hn z) hx) xa.hld (fun p hp=>xa.pin p (S2 _ hp)) (fun y cc hcc=>by rw[hcells] at hcc;cases hcc)
   have I2:=stay h2 x2 (u1.trans u2)
   obtain⟨a0,fl,oe,vs,TT,oT,ts,he,⟨hcls,h0⟩,hdt,r4,r5,r6,r7,r8,r9⟩:=id x2.tr
   refine wpAny_handleBy_cons (codeAny_handlers_test (eK (E:=_) (ON I2 e) hgl hm ?_ hd)) (by intro z;cases z)
   refine II (T c hc2) I2.kIn he hcls ?_
   refine codeAny_handlers_suite_as ?_
   refine zi (s:={s₁ with heap:=h2}) x2 fun h3 x3 u3=>?_
   have I3:=stay h3 x3 ((u1.trans u2).trans u3)
   obtain⟨a0',fl',oe',vs',TT',oT',ts',he',⟨hcls',h0'⟩,hdt',_⟩:=id x3.tr
   have hHe:H1 e=none:=by
    cases z:H1 e with
    | none=>rfl
    | some u=>obtain⟨o',eo⟩:=xa.hld e u z;rw[x3.ne] at eo;cases eo
   have nfr:∀b∈xu X.stack,e≠b:=fun b hb z=>by
    obtain⟨_,o,ho,nd⟩:=x3.fr.mem (by rw[<- hstk];exact hb)
    rw[<- z,he'] at ho
    cases ho
    exact nd vs' hdt'
   have J:=OO I3 he' hHe (nfr _ hlf) (fun z=>nfr e (fsub e z) rfl) (fun v z=>by rw[hdt'] at z;cases z)
   have lv:B0 X.env.scope n:=.inl hloc
   refine zC (X:=NZ X pins e oe') (i:=j) (v:=.ref e) (u:=.ref e) J hN hj (.inl hloc) rfl (fun s4 J4=>?_) (.inr hloc)
   obtain⟨ρ',eg,kk⟩:=k e
   have hlen:(M2 X.N.length j e).length=X.N.length:=by unfold M2;rw[S4,List.length_replicate]
   have erH:uq X.K H1 (M2 X.N.length j e) [] (σ'.set j (some (.ref e))):=by
    refine⟨⟨by rw[hlen,S4,I3.len];exact Se _,fun i d hi=>?_⟩,?_⟩
    ·unfold M2 at hi
     by_cases hij:i=j
     ·subst hij
      have hlt:i<(List.replicate X.N.length (none:RT HW.D)).length:=by rw[List.length_replicate];exact(Sg.mp hj).1
      rw[SH hlt] at hi
      cases hi
      exact⟨.ref e,SH (by rw[I3.len];exact(Sg.mp hj).1),rfl⟩
     ·rw[SM (Ne.symm hij),List.getElem?_replicate] at hi
      split at hi<;>cases hi
    ·rw[hlen,<- I3.len]
     exact List.drop_eq_nil_of_le (by rw[S4];exact Se _)
   refine Tg (hs pins e oe' c hc2 hcls' [] s4 _ H1 {nx:=fun σ5 H5=>i6 H1 H5/\ut X.K H5 ρ' σ5,rt:=fun _ _=>False} J4 ⟨_,[],.nx ρ',erH,eg,fun H5 t5 σ5 er5=>⟨t5,er5.1⟩⟩) (fun fl5 s5 h5=>?_) fun _ _ z=>False.elim z
   cases fl5 with
   | next =>
    obtain⟨σ5,H5,J5,t5,er5⟩:=h5
    have I5:=JG J5 I.ok.hd
    obtain⟨m,hns,hlk⟩:=I5.loc
    refine wpAny_nameGoes_keeps hloc hns (by rw[I5.ok.kind];rfl) fun h6 v6 hn6 sb6=>?_
    refine⟨σ5.set j none,H5,IR I5 hN hj hlk hn6 sb6,kk _ H5 t5 ⟨by rw[S4,S4];exact er5.1,fun i d hi=>?_⟩⟩
    by_cases hij:i=j
    ·subst hij
     have:i<ρ'.length:=by have:=(Sg.mp hi).1;rwa [S4] at this
     rw[SH this] at hi
     cases hi
    ·rw[SM (Ne.symm hij)] at hi ⊢
     exact er5.2 i d hi
   | brk=>obtain⟨_,_,_,z⟩:=h5;exact z.elim
   | cont=>obtain⟨_,_,_,z⟩:=h5;exact z.elim
   | ret u=>obtain⟨_,_,_,_,_,z⟩:=h5;exact z.elim) q)
 refine Tg body (fun fl s₁ h=>?_) (fun ev s₁ h=>h)
 cases fl with
 | next =>
  obtain⟨σ',H',J,k⟩:=h
  exact wpAny_execs_nil ⟨σ',H',Gs J,k⟩
 | brk=>obtain⟨_,_,_,z⟩:=h;exact z.elim
 | cont=>obtain⟨_,_,_,z⟩:=h;exact z.elim
 | ret u=>obtain⟨_,_,_,_,_,z⟩:=h;exact z.elim
end
end HW
namespace HW
open PySem
structure BX where
 q:Str
 params:Arguments
 body:Sr
 scope:Scope
 N:List Str
 ps:List Str
 deriving Inhabited
def Cu:List Nat->R->RT LD
 | [],_=>some []
 | j::js,ρ=>(c5 j ρ).bind fun d=>(Cu js ρ).map (d::·)
abbrev MX:=R->RT (Except Nat (D×D))
def zD(C:Nat)(m:Str)(j:Nat)(G:LD->RT (Except Nat (D×D)))(F:R->RT LD):MX:=fun ρ=>(c5 j ρ).bind fun ob=>(F ρ).bind fun ds=>match ob with
 | .obj k _ ks _=>if k=C+2/\ks.contains m=false then G (ob::ds) else none
 | _=>none
def uL:Str:=oS "told"
def zI(j:Nat)(js:List Nat)(g:MX)(fnd:Nat->OD)(S:List Nat)(ρ:R):RT (D×R):=(Cu js ρ).bind fun ds=>(ds[j]?).bind fun ob=>(g (ds.map some)).bind fun r=>match r with
 | .ok (d,o')=>if xF ob=true/\za (js.getD j 0) (adr ob) ρ=true/\AE S (adr ob)=true/\js.getD j 0<ρ.length then some (.tup [.str uL,d],ρ.set (js.getD j 0) (some o')) else none
 | .error c=>if xF ob=true then (fnd c).map fun d=>(d,ρ) else none
def Kx(c:List Nat->R->RT (D×R))(F:D->D->RT Bool)(h:R->OD)(u w:MU):MU:=fun S ρ=>(c S ρ).bind fun p=>(h p.2).bind fun y=>(F p.1 y).bind fun b=>if b then u S p.2 else w S p.2
def Gm(c:R->RT Bool)(f:R->OD)(k:Nat)(u:MU):List Nat->R->RT (Except Nat MO):=fun S ρ=>(c ρ).bind fun b=>if b then (f ρ).map fun _=>.error k else (u S ρ).map .ok
def Jd(n N j:Nat)(g:List Nat->R->RT (Except Nat MO)):LD->RT (Except Nat (D×D)):=fun ds=>if ds.length=n then (ds[j]?).bind fun ob=>if xF ob=true then (g (adr ob) (AO N ds)).bind fun o=>match o with
 | .error c=>some (.error c)
 | .ok (.nx ρ)=>(JT j ob .non ρ).map .ok
 | .ok (.rt d ρ)=>(JT j ob d ρ).map .ok
 else none else none
noncomputable def sB(i:Nat):So->So
 | .For _ _ b _ _=>b.getD i (.Pass ⟨0,0,0,0⟩)
 | .If _ b _ _=>b.getD i (.Pass ⟨0,0,0,0⟩)
 | .FunctionDef _ _ b ..=>b.getD i (.Pass ⟨0,0,0,0⟩)
 | s=>s
def eA(i:Nat):Sr->Sr
 | .Call _ a _ _=>a.getD i (.Name "" ⟨0,0,0,0⟩)
 | e=>e
def Om(q:Str)(N ps:List Str):Sr->BX
 | .Lambda a b c _=>⟨q,a,b,c,N,ps⟩
 | _=>default
def sT:So->Sr
 | .If c ..=>c
 | _=>.Name "" ⟨0,0,0,0⟩
def RJ:Sr->Sr
 | .Compare l ..=>l
 | e=>e
end HW
namespace HW
open PySem PySem.Spec PyProof.Rows L2
section
variable{X:Cx}
theorem Lo(k b:Bool):KL (.bl k) (.bool b)=(b==k):=by cases k<;>cases b<;>rfl
theorem zk{K:RW}{H:Hp}:∀{ds:LD} {bs:List Bool} {vs:List V},bools ds=some bs->i5 K H ds vs->vs.all CO=true
 | [],_,vs,_,h=>by cases (show vs=[] from h);rfl
 | d::ds,bs,_,e,h=>by
  obtain⟨v,r,rfl,q,t⟩:=h
  cases d with
  | bl b =>
   obtain⟨bs',e1,_⟩:=t7 e
   cases (show v=_ from q)
   rw[SL,zk e1 t];rfl
  | _=>cases e
theorem sv:PD X "list.count" CM:=by
 intro pins s σ H x vs v us Q I rx rv h
 obtain⟨dx,ds,d,r1,r2,e,q⟩:=h
 match dx,ds,e with
 | .lst es,[.bl k],e =>
  obtain⟨a,xs,rfl,ha,rr⟩:=r1
  cases (show v=_ from rx)
  obtain⟨u,r',rfl,k1,r2⟩:=r2
  cases (show r'=[] from r2)
  cases (show u=_ from k1)
  obtain⟨u',rfl,rfl⟩:=vals1 rv
  obtain⟨bs,e1,e2⟩:=h9 (show(bools es).bind _=some d from e)
  split at e2
  case isFalse=>cases e2
  case isTrue hn =>
  cases e2
  obtain⟨_,its,n,rv2,hl,eo⟩:=I.lstM ha
  have hits:=Aa e1 rr rv2
  have hEq:=fun (A:Sv) (s:RX)=>je (A:=A) (s:=s) (x:=.bl k) (v:=.bool k) rfl rfl rv2 (zk e1 rr)
  refine call_meets PySem.F.slot_list_count ⟨_,eo,rfl⟩ PySem.F.entry_list_count (PySem.F.args_list_count_2 _ _)
   (PySem.SeqAt.list_countAt a its.toArray n none _ (.bool k) (KL (.bl k))) ⟨eo,fun y hy=>hEq _ _ y (by simpa using hy),?_⟩
  have hcnt:its.toArray.toList.countP (KL (.bl k))=bs.countP (·==k):=by
   rw[List.toList_toArray,hits,List.countP_map]
   exact congrArg (fun p=>List.countP p bs) (funext fun b=>Lo k b)
  rw[hcnt]
  exact⟨.int ((bs.countP (·==k):Nat):Int),H,I.tok _,⟨_,rfl⟩,q _ H (i6.refl H) rfl⟩
theorem sk:PD X "list.index" CN:=by
 intro pins s σ H x vs v us Q I rx rv h
 obtain⟨dx,ds,d,r1,r2,e,q⟩:=h
 match dx,ds,e with
 | .lst es,[.bl k],e =>
  obtain⟨a,xs,rfl,ha,rr⟩:=r1
  cases (show v=_ from rx)
  obtain⟨u,r',rfl,k1,r2⟩:=r2
  cases (show r'=[] from r2)
  cases (show u=_ from k1)
  obtain⟨u',rfl,rfl⟩:=vals1 rv
  obtain⟨bs,e1,e2⟩:=h9 (show(bools es).bind _=some d from e)
  split at e2
  case isFalse=>cases e2
  case isTrue hn =>
  cases e2
  obtain⟨_,its,n,rv2,hl,eo⟩:=I.lstM ha
  have hits:=Aa e1 rr rv2
  have hEq:=fun (A:Sv) (s:RX)=>je (A:=A) (s:=s) (x:=.bl k) (v:=.bool k) rfl rfl rv2 (zk e1 rr)
  have hj:bs.idxOf k<bs.length:=List.idxOf_lt_length_iff.mpr hn.1
  have hat:∀i (h1:i<its.length) (h2:i<bs.length),KL (.bl k) its[i]=(bs[i]==k):=fun i h1 h2=>by
   have:its[i]=.bool bs[i]:=by simp[hits]
   rw[this];exact Lo k _
  have hlen:its.length=bs.length:=by rw[hits,R7]
  refine call_meets PySem.F.slot_list_index ⟨_,eo,rfl⟩ PySem.F.entry_list_index (PySem.F.args_list_index_2 _ _)
   (PySem.SeqAt.list_indexAt a its.toArray n none _ (.bool k) (KL (.bl k)) (bs.idxOf k) (by simpa [hlen] using hj) (by omega) ?_ ?_) ⟨eo,fun y hy=>hEq _ _ y (by simpa using hy),?_⟩
  ·show KL (.bl k) its[bs.idxOf k]=true
   rw[hat _ (by omega) hj]
   simpa using List.getElem_idxOf hj
  ·intro j hjs hlt
   show KL (.bl k) its[j]=false
   rw[hat j (by simpa using hjs) (by omega)]
   exact List.not_of_lt_findIdx (p:=(·==k)) hlt
  ·exact⟨.int ((bs.idxOf k:Nat):Int),H,I.tok _,⟨_,rfl⟩,q _ H (i6.refl H) rfl⟩
theorem Ed{G:LD->OD}(hG:G=CM\/G=CN){x:D}{ds:LD}{d:D}(h:G (x::ds)=some d):∃es,x=.lst es:=by
 rcases hG with rfl | rfl
 ·cases x with
  | lst z=>exact⟨z,rfl⟩
  | _=>cases h
 ·cases x with
  | lst z=>exact⟨z,rfl⟩
  | _=>cases h
theorem rV{a e:Sr}{es:List Sr}{f:R->OD}{F:R->RT LD}{ap cp:Pos}(ha:SE X a f)(hF:SA X (e::es) F)
  (hbase:attributeBase a "count" X.env (eval a X.env)=eval a X.env:=by rfl)
  (hfew:((backTo cp (starEach (e::es) X.env)).all (fun x=>!x.1)&&(backToKw cp (keywordEach [] X.env)).all (fun x=>x.1.isSome)&&decide ((e::es).length+([]:List Keyword).length+(if ([]:List Keyword).isEmpty then 0 else 1)<30))=true:=by rfl)
  (hline:(ap.endLine==cp.line)=true:=by rfl):SE X (.Call (.Attribute a "count" ap) (e::es) [] cp) (c8 CM (c4 f F)):=by
 have hst:=hF.2.2
 rw[SL,R1] at hst
 refine(oN (T:="list") PySem.F.plainAttrs_list PySem.F.slot_list_count PySem.F.type_list_count sv ha hF.1 hbase hfew hline (aF es X.env hst.1) (bv (pos:=cp) (env:=X.env) hst.2)).imp fun σ H Q ⟨ρ,d,er,e,q⟩=>?_
 obtain⟨dd,e1,e⟩:=h9 e
 obtain⟨x,e2,e1⟩:=h9 e1
 obtain⟨ds,e3,e1⟩:=t7 e1
 subst e1
 obtain⟨es,rfl⟩:=Ed (.inl rfl) e
 exact⟨ρ,_,er,e2,fun v H1 s1 r1=>⟨by obtain⟨a,xs,rfl,ha,rr⟩:=r1;exact .inl ⟨rfl,xs,.inl (.inl ha)⟩,ρ,ds,er.mono s1,e3,fun vs H2 s2 r2=>⟨.lst es,ds,d,r1.mono s2,r2,e,fun u H3 s3 r3=>q u H3 (s1.trans (s2.trans s3)) r3⟩⟩⟩
theorem rZ{a e:Sr}{es:List Sr}{f:R->OD}{F:R->RT LD}{ap cp:Pos}(ha:SE X a f)(hF:SA X (e::es) F)
  (hbase:attributeBase a "index" X.env (eval a X.env)=eval a X.env:=by rfl)
  (hfew:((backTo cp (starEach (e::es) X.env)).all (fun x=>!x.1)&&(backToKw cp (keywordEach [] X.env)).all (fun x=>x.1.isSome)&&decide ((e::es).length+([]:List Keyword).length+(if ([]:List Keyword).isEmpty then 0 else 1)<30))=true:=by rfl)
  (hline:(ap.endLine==cp.line)=true:=by rfl):SE X (.Call (.Attribute a "index" ap) (e::es) [] cp) (c8 CN (c4 f F)):=by
 have hst:=hF.2.2
 rw[SL,R1] at hst
 refine(oN (T:="list") PySem.F.plainAttrs_list PySem.F.slot_list_index PySem.F.type_list_index sk ha hF.1 hbase hfew hline (aF es X.env hst.1) (bv (pos:=cp) (env:=X.env) hst.2)).imp fun σ H Q ⟨ρ,d,er,e,q⟩=>?_
 obtain⟨dd,e1,e⟩:=h9 e
 obtain⟨x,e2,e1⟩:=h9 e1
 obtain⟨ds,e3,e1⟩:=t7 e1
 subst e1
 obtain⟨es,rfl⟩:=Ed (.inr rfl) e
 exact⟨ρ,_,er,e2,fun v H1 s1 r1=>⟨by obtain⟨a,xs,rfl,ha,rr⟩:=r1;exact .inl ⟨rfl,xs,.inl (.inl ha)⟩,ρ,ds,er.mono s1,e3,fun vs H2 s2 r2=>⟨.lst es,ds,d,r1.mono s2,r2,e,fun u H3 s3 r3=>q u H3 (s1.trans (s2.trans s3)) r3⟩⟩⟩
def QP(X:Cx)(x:Str)(c:RU):Prop:=∀pins σ H s (Q:RU->RX->Prop) p,L2.Inv X pins σ H s->Q c s->wpAny (model X.prog X.w) X.A (eval (.Name x p) X.env) Q X.xe s
theorem Ig{x:Str}{c:RU}(hm:X.mg x=some c)(hg:Gl X x:=by rfl)(hd:(x==("__debug__" : Str))=false:=by decide):QP X x c:=fun pins σ H s Q p I h=>eK I hg hm h hd
theorem Mz{x:Str}{c:RU}(hm:X.mg x=none)(hv:bootBuiltins x=some c:=by kernel_rfl)(hg:Gl X x:=by rfl)(hn:x ≠ "__name__":=by decide)(hd:(x==("__debug__" : Str))=false:=by decide):QP X x c:=fun pins σ H s Q p I h=>cJ I hg hm hv h hn hd
theorem oh{C Wz e:RY}{oe:Obj}{newId nW:String}{n x:Str}{cv:RU}{b:Bool}{p p1 p2 pos:Pos}(j:Nat)(T:EI X.K C Wz newId nW)(hp:(e,oe)∈X.pn)(hcl:oe.cls=.ref C)(hk:W.kitOne X.K (.ref C) cv=some b)(hx:QP X x cv)(hm:X.mg "isinstance" = none)
  (hN:X.N[j]?=some n:=by rfl) (hv:B0 X.env.scope n:=by first | exact Or.inl rfl | exact Or.inr (Or.inl rfl) | exact Or.inr (Or.inr rfl)) (hg:Gl X "isinstance":=by rfl) (hd:(n==("__debug__" : Str))=false:=by decide) (hcd:(n==("__classdict__" : Str))=false:=by decide) :
  SE X (.Call (.Name "isinstance" p) [.Name n p1,.Name x p2] [] pos) (GJ j e b):=by
 intro pins s σ H Q I ⟨ρ,d,er,e1,q⟩
 have hb:d=.bl b/\c5 j ρ=some (.rf e):=by
  unfold GJ at e1
  split at e1
  ·rename_i a' hat
   split at e1
   ·rename_i ha
    cases e1
    exact⟨rfl,by rw[hat,ha]⟩
   ·cases e1
  ·cases e1
 obtain⟨rfl,hat⟩:=hb
 obtain⟨v,hσ,rv⟩:=er.at hat
 cases (show v=_ from rv)
 have st1:=aF (e:=.Name n p1) [.Name x p2] X.env rfl
 refine S8 (cJ I hg hm (show bootBuiltins "isinstance" = some (.builtin "isinstance") by kernel_rfl) ?_ (by decide) (by decide))
 refine PyProof.Rows.callWith_builtin1 ?_ st1 (bv (pos:=pos) (env:=X.env) (es:=[.Name x p2]) rfl)
 refine spliced_more (uo ((ju (pos:=p1) hN hv hd hcd) pins s σ H (fun v H1=>v=.ref e/\H1=H) I ⟨.ref e,hσ,rfl,rfl⟩) fun u s1 ⟨y,H1,I1,r1,ey,eH⟩=>?_) st1
 subst ey eH
 cases (show u=_ from r1)
 refine spliced_more (hx pins σ H1 s1 _ p2 I1 ?_) (aF (e:=.Name x p2) [] X.env rfl)
 refine spliced_none ?_
 refine W.kia_one (IS (a:=e) T hcl) I1.kIn (I1.pin _ (S2 _ hp)).1 hk (fun z=>by cases z) fun tk=>?_
 exact⟨.bl b,H1,I1.kept (t':=tk) fun b o eb=>eb,rfl,q _ H1 (i6.refl H1) rfl⟩
end
theorem Fz{K:RW}{C N:RY}{bm bs sub:List RU}{newId:String}{nm q:Str}{hdct ab:Bool}{sn:List Str}{col:RT Bool}{dd:RT RY}{k0 k1 k2 k3 k5:RT RU}
  (l:K.lookup C=some (excClassObj nm q C N bs bm hdct sn sub ab col dd k0 k1 k2 k3 k5 newId)) (ex:W.excIn K C VE newId=true) (h0:W.nsIn K N "__init__" = some none) (h1:W.nsIn K N "__getattribute__" = some none) (h2:W.nsIn K N "__getattr__" = some none) (h3:W.nsIn K N "__class__" = some none):GP K C bm newId:=by
 have hok:W.nsOkIn K N=true:=by
  unfold W.excIn at ex
  rw[l] at ex
  simp only[R1] at ex
  exact ex.1.2
 have hN:∃c d es n sl,K.lookup N=some ⟨c,d,.dict es n,sl⟩:=by
  unfold W.nsOkIn at hok
  split at hok
  ·rename_i c d es n sl ho
   exact⟨_,_,_,_,_,ho⟩
  ·cases hok
 obtain⟨c,d,es,ep,sl,hl⟩:=hN
 have nsH:∀h,K.In h->h.Ns N (fun x=>nsFind es x):=fun h x=>by
  obtain⟨o,es',ep',ho,hd,hs,hf⟩:=Heap.Ns.of_isNs (W.isNs_of_in x hok)
  have:=x _ _ hl
  rw[ho] at this
  cases this
  cases hd
  exact⟨_,es,ep,ho,rfl,hs,fun _=>rfl⟩
 refine⟨N,nm,q,bs,hdct,sn,sub,ab,col,dd,k0,k1,k2,k3,k5,fun x=>nsFind es x,fun n hn=>?_,fun h x=>⟨x _ _ l,nsH h x⟩⟩
 have none_of:∀n,W.nsIn K N n=some none->nsFind es n=none:=fun n e=>by
  unfold W.nsIn at e
  rw[hl] at e
  dsimp only at e
  split at e
  ·cases e
  ·rename_i he
   unfold nsFind findBy
   rw[<- Array.find?_toList,he]
   rfl
 simp only[NG,Sf,List.not_mem_nil,or_false] at hn
 rcases hn with rfl | rfl | rfl | rfl
 ·exact none_of _ h0
 ·exact none_of _ h1
 ·exact none_of _ h2
 ·exact none_of _ h3
theorem Eg{K:RW}{C:RY}:W.kitOne K (.ref C) (.ref C)=some true:=by unfold W.kitOne;rw[R3 (by simp)]
theorem Cd{K:RW}{C C':RY}{cd:ClassData}(hne:(Value.ref C==Value.ref C')=false)(h1:W.clsIn K C'=some cd)(h2:W.typeIn K (.ref C')=some (.type "type")){b:Bool}(h3:W.subIn K (.ref C) (.ref C')=some b):W.kitOne K (.ref C) (.ref C')=some b:=by
 unfold W.kitOne
 rw[Sa (by rw[hne];decide)]
 unfold W.kitCls
 dsimp only
 rw[h1,h2,R3 (by rfl)]
 exact h3
theorem Gh{K:RW}{C:RY}{T:String}{b:Bool}(hmt:W.kitMeta T=true)(h3:W.subIn K (.ref C) (.type T)=some b):W.kitOne K (.ref C) (.type T)=some b:=by
 unfold W.kitOne
 rw[Sa (by intro z;cases Th.mp z)]
 unfold W.kitCls
 dsimp only
 rw[R3 hmt]
 exact h3
abbrev NV:String:="ValueError.__new__"
structure IL (K:RW) (mg:Str->RT RU) (ca:Nat->RY) (Wz:RY):Prop where
 two:∀c,c<2->EI K (ca c) Wz NV NV
 k0:∀c,c<2->W.kitOne K (.ref (ca c)) (.ref (ca 0))=some (c==0)
 k1:∀c,c<2->W.kitOne K (.ref (ca c)) (.ref (ca 1))=some (c==1)
 kv:∀c,c<2->W.kitOne K (.ref (ca c)) (.type "ValueError")=some true
 m0:mg "NoText" = some (.ref (ca 0))
 m1:mg "NoDeed" = some (.ref (ca 1))
 mw:mg "WatchError" = some (.ref Wz)
section
variable{X:Cx}{ca:Nat->RY}{Wz:RY}{e:Sr}{es:List Sr}{f:R->OD}{F:R->RT LD}{p pos np cpos:Pos}
theorem GT(EK:IL X.K X.mg ca Wz)(hc:X.calm=true)(ha:SE X e f)(hg:Gl X "NoDeed":=by rfl)(hst:noStar e=true:=by rfl):Qs ca X (.Raise (some (.Call (.Name "NoDeed" np) [e] [] cpos)) none pos) (Fd 1 f):=
 I8 (EK.two 1 (by decide)) PySem.F.excBase_ValueError (by decide) hc EK.m1 ha hg (by decide) hst
end
section
variable{X:Cx}{ca:Nat->RY}{Wz:RY}{n y:Str}{np apos hpos pos rp yp:Pos}{tg e0:Sr}{b₀:So}{suite:List So}{fx:XD}{stf:D->R->RT R}{gs:Nat->Nat->R->RT Out}
end
section
variable{X:Cx}{k1 k2 v1 v2:Str}{ke1 ke2 e1 e2 i:Sr}{g:R->OD}{pd pos:Pos}
end
def L9(a0 a1:RY):Nat->RY
 | 0=>a0
 | _=>a1
structure Mj (K:RW) (a0 a1 aw:RY):Prop where
 c0:GP K a0 (.ref aw::VE) NV
 c1:GP K a1 (.ref aw::VE) NV
 cw:GP K aw VE NV
 k01:W.kitOne K (.ref a0) (.ref a1)=some false
 k10:W.kitOne K (.ref a1) (.ref a0)=some false
 kv0:W.kitOne K (.ref a0) (.type "ValueError")=some true
 kv1:W.kitOne K (.ref a1) (.type "ValueError")=some true
theorem LH{K:RW}{h:Sq}{mg:Str->RT RU}{a0 a1 aw:RY}(X:K.In h)(G:h.Ns mainGlobals mg)(n0:W.nsIn K mainGlobals "NoText" = some (some (.ref a0)))(n1:W.nsIn K mainGlobals "NoDeed" = some (some (.ref a1)))(nw:W.nsIn K mainGlobals "WatchError" = some (some (.ref aw)))(p:Mj K a0 a1 aw):IL K mg (L9 a0 a1) aw:=by
 refine⟨fun c hc=>?_,fun c hc=>?_,fun c hc=>?_,fun c hc=>?_,Sh X G n0,Sh X G n1,Sh X G nw⟩
 all_goals (have:c=0\/c=1:=by omega)
 ·rcases this with rfl | rfl
  ·exact⟨p.c0,p.cw⟩
  ·exact⟨p.c1,p.cw⟩
 ·rcases this with rfl | rfl
  ·exact Eg
  ·exact p.k10
 ·rcases this with rfl | rfl
  ·exact p.k01
  ·exact Eg
 ·rcases this with rfl | rfl
  ·exact p.kv0
  ·exact p.kv1
theorem errp_mk{K:RW}{a0 a1 aw:RY}{cd0 cd1:ClassData}{N0:RY}{bs0 sub0:List RU}{nm0 q0:Str}{hd0 ab0:Bool}{sn0:List Str}{col0:RT Bool}{dd0:RT RY}{k00 k10 k20 k30 k50:RT RU}{N1:RY}{bs1 N2:List RU}{nm1 q1:Str}{hd1 ab1:Bool}{sn1:List Str}{col1:RT Bool}{dd1:RT RY}{k01 k11 k21 k31 k51:RT RU}{Nw:RY}{bsw subw:List RU}{nmw qw:Str}{hdw abw:Bool}{snw:List Str}{colw:RT Bool}{ddw:RT RY}{k0w k1w k2w k3w k5w:RT RU}(l0:K.lookup a0=some (excClassObj nm0 q0 a0 N0 bs0 (.ref aw::VE) hd0 sn0 sub0 ab0 col0 dd0 k00 k10 k20 k30 k50 NV))(x0:W.excIn K a0 VE NV=true)(i0:W.nsIn K N0 "__init__" = some none)(g0:W.nsIn K N0 "__getattribute__" = some none)(e0:W.nsIn K N0 "__getattr__" = some none)(rr0:W.nsIn K N0 "__class__" = some none)(l1:K.lookup a1=some (excClassObj nm1 q1 a1 N1 bs1 (.ref aw::VE) hd1 sn1 N2 ab1 col1 dd1 k01 k11 k21 k31 k51 NV))(x1:W.excIn K a1 VE NV=true)(i1:W.nsIn K N1 "__init__" = some none)(g1:W.nsIn K N1 "__getattribute__" = some none)(e1:W.nsIn K N1 "__getattr__" = some none)(rr1:W.nsIn K N1 "__class__" = some none)(lw:K.lookup aw=some (excClassObj nmw qw aw Nw bsw VE hdw snw subw abw colw ddw k0w k1w k2w k3w k5w NV))(xw:W.excIn K aw VE NV=true)(iw:W.nsIn K Nw "__init__" = some none)(gw:W.nsIn K Nw "__getattribute__" = some none)(ew:W.nsIn K Nw "__getattr__" = some none)(rrw:W.nsIn K Nw "__class__" = some none)
  (ne:(Value.ref a0==Value.ref a1)=false) (en:(Value.ref a1==Value.ref a0)=false) (d0:W.clsIn K a0=some cd0) (d1:W.clsIn K a1=some cd1) (t0:W.typeIn K (.ref a0)=some (.type "type")) (t1:W.typeIn K (.ref a1)=some (.type "type"))
  (s01:W.subIn K (.ref a0) (.ref a1)=some false) (s10:W.subIn K (.ref a1) (.ref a0)=some false) (v0:W.subIn K (.ref a0) (.type "ValueError")=some true) (v1:W.subIn K (.ref a1) (.type "ValueError")=some true):Mj K a0 a1 aw:=
 ⟨Fz l0 x0 i0 g0 e0 rr0,Fz l1 x1 i1 g1 e1 rr1,Fz lw xw iw gw ew rrw,Cd ne d1 t1 s01,Cd en d0 t0 s10,Gh (by kernel_rfl) v0,Gh (by kernel_rfl) v1⟩
theorem tF{X:Cx}:EH X .Eq vY:=by
 intro pins s σ H x y v u Q I rx ry h
 obtain⟨dx,dy,b,r1,r2,e,q⟩:=h
 have sc:IE x y=true->decide (x=y)=b->wpAny (model X.prog X.w) X.A (compareOp .Eq v u) (EP X pins σ Q) X.xe s:=fun z1 z2=>Lg pins s σ H x y v u Q I rx ry ⟨z1,by rw[z2];exact q⟩
 cases dx with
 | int i=>obtain⟨j,e1,e⟩:=t7 e;cases (show x=_ from r1);cases vI e1 r2;exact sc rfl (zX.trans e)
 | str i=>obtain⟨j,e1,e⟩:=t7 e;cases (show x=_ from r1);cases D8 e1 r2;exact sc rfl (zJ.trans e)
 | bl i=>obtain⟨j,e1,e⟩:=t7 e;cases (show x=_ from r1);cases HP e1 r2;exact sc rfl (Bm.trans e)
 | _=>cases e
section
variable{K:RW}{H:Hp}
theorem D7{K:RW}{H:Hp}{ρ:R}{σ:L2.St}(er:ut K H ρ σ):∀{js:List Nat} {cs:LD},Cu js ρ=some cs->∃vs,i5 K H cs vs/\vs.length=js.length/\∀(i j:Nat) (v:V),js[i]?=some j->vs[i]?=some v->σ[j]?=some (some v)
 | [],_,h=>by cases h;exact⟨[],rfl,rfl,fun i j v h=>by cases h⟩
 | j::js,cs,h=>by
  obtain⟨d,e1,h⟩:=h9 h
  obtain⟨cs',e2,rfl⟩:=t7 h
  obtain⟨v,hσ,rv⟩:=er.at e1
  obtain⟨vs,r,hl,hg⟩:=D7 er e2
  refine⟨v::vs,⟨v,vs,rfl,rv,r⟩,by simp[hl],fun i j' v' h1 h2=>?_⟩
  cases i with
  | zero=>cases h1;cases h2;exact hσ
  | succ i=>exact hg i j' v' h1 h2
end
structure Ih (X:Cx) (t:BX) (cl:List (Str×RY)) (ct:wl) (js:List Nat):Prop where
 TB:vN X.mg [ct] X.base
 hT:X.H₀ ct.P=some (.tbl ct.q false)
 tq:t.q=ct.q
 code:X.env.code=.ref ct.c
 qual:X.env.qual ++ "<lambda>" = ct.q
 hcl:closureFor t.scope X.env=pure cl
 hdf:defaultsOf t.params X.env=([],[])
 own:HF X cl
 sc:wF t.N t.ps t.scope cl
 hjs:js.map (fun j=>X.N[j]?)=(t.N.drop t.ps.length).map some
 hcn:∀y c,cl.lookup y=some c->y∈t.N.drop t.ps.length
theorem HE{X:Cx}{t:BX}{ct:wl}{x:Str}{c:RY}{j:Nat}(TB:vN X.mg [ct] X.base)(hT:X.H₀ ct.P=some (.tbl ct.q false))(tq:t.q=ct.q)(code:X.env.code=.ref ct.c)(qual:X.env.qual ++ "<lambda>" = ct.q)
  (fn:∀x,X.fn x=true) (hcl:closureFor t.scope X.env=pure [(x,c)]) (hdf:defaultsOf t.params X.env=([],[])) (hcell:X.env.cells.lookup x=some c) (hk:X.env.scope.names.lookup x=some .cell) (hN:X.N[j]?=some x)
  (kd:t.scope.kind=.function) (co:t.scope.isCoroutine=false) (gen:t.scope.isGenerator=false) (nd:t.N.Nodup) (hn:t.N=t.ps++[x]) (par:∀y∈t.ps,t.scope.names.lookup y=some .local) (noc:∀y∈t.scope.names,y.2≠.cell)
  (fre:t.scope.names.lookup x=some .free) (only:∀y∈t.scope.names,y.2=.free->y.1=x):Ih X t [(x,c)] ct [j]:=by
 have hdr:t.N.drop t.ps.length=[x]:=by rw[hn,List.drop_left]
 have lk:∀y c',List.lookup y [(x,c)]=some c'->y=x/\c'=c:=fun y c' h=>by
  rw[List.lookup_cons] at h
  cases q:y==x with
  | true=>rw[q] at h;cases h;exact⟨Tq q,rfl⟩
  | false=>rw[q] at h;cases h
 have lkx:List.lookup x [(x,c)]=some c:=by rw[List.lookup_cons];simp
 refine⟨TB,hT,tq,code,qual,hcl,hdf,⟨fn,by simp,fun y c' h=>?_⟩,⟨kd,co,gen,nd,by rw[hn,List.take_left],par,noc,fun y hy=>?_,fun y hy=>?_,by simp,fun y z c' h1 h2=>by rw[(lk y c' h1).1,(lk z c' h2).1]⟩,by rw[hdr];simp[hN],fun y c' h=>by rw[hdr,(lk y c' h).1];exact R4.mpr rfl⟩
 ·obtain⟨rfl,rfl⟩:=lk y c' h
  exact⟨hcell,hk⟩
 ·rw[hdr] at hy
  rw[R4.mp hy]
  exact fre
 ·have:=only _ (S7 hy) rfl
  rw[show y=x from this]
  exact⟨c,lkx⟩
def GL(K:RW)(H:Hp)(ob:D)(Q:VK)(Er:Nat->Hp->Prop):Except Nat (D×D)->Prop
 | .ok (d,o')=>∀v H',uQ (adr ob) H H'->t9 (adr ob) H'->Rep K H' d v->Rep K H' o' (.ref (Ad ob))->Q v H'
 | .error c=>∀H',i6 H H'->Er c H'
theorem GL.imp{K:RW}{H:Hp}{ob:D}{Q Q':VK}{Er Er':Nat->Hp->Prop}{r:Except Nat (D×D)}(h:GL K H ob Q Er r)(h1:∀v H',Q v H'->Q' v H')(h2:∀c H',Er c H'->Er' c H'):GL K H ob Q' Er' r:=by
 match r,h with
 | .ok (d,o'),h=>exact fun v H' a b c e=>h1 _ _ (h v H' a b c e)
 | .error c,h=>exact fun H' s=>h2 _ _ (h H' s)
section
variable(ca:Nat->RY)
def QU(X:Cx)(j:Nat)(g:MX):TE:=fun σ H Q=>∃ ρ ob r,ut X.K H ρ σ/\c5 j ρ=some ob/\xF ob=true/\g ρ=some r/\GL X.K H ob Q (fun c H'=>XW X (ca c) H') r
def LT(K:RW)(n:Nat)(G:LD->RT (Except Nat (D×D))):Sp:=fun vs H Q E=>∃ob ds r,(ob::ds).length=n/\i5 K H (ob::ds) vs/\xF ob=true/\G (ob::ds)=some r/\GL K H ob Q (fun c H'=>E (.ref (ca c)) none H') r
structure E4 (P:R9) (w:Sk) (K:RW) (mg:Str->RT RU) (base:Sq) (k C:Nat) (m:Str) (ps:List Str) (G:LD->RT (Except Nat (D×D))):Prop where
 ex:∃f fd,k6 P w K mg base (AN P w) k f fd ps (LT ca K ps.length G)/\DX K C m f/\Binds K fd ps []
end
theorem E4.m{ca:Nat->RY}{P:R9}{w:Sk}{K:RW}{mg:Str->RT RU}{base:Sq}{k k' C:Nat}{x:Str}{ps:List Str}{G:LD->RT (Except Nat (D×D))}(h:E4 ca P w K mg base k C x ps G)(hk:k<=k':=by decide):E4 ca P w K mg base k' C x ps G:=by
 obtain⟨f,fd,a,b⟩:=h.ex
 exact⟨f,fd,a.mono hk,b⟩
section
variable{X:Cx}{ca:Nat->RY}{pos apos:Pos}{k C:Nat}{mn x:Str}{ps:List Str}{G:LD->RT (Except Nat (D×D))}
theorem qW (j:Nat) (c:yH X.K C) (M:E4 ca X.prog X.w X.K X.mg X.base k C mn ps G) (hr:ua k X.A) (hps:ps.length=1) {px:Pos} (hN:X.N[j]?=some x:=by rfl) (hv:B0 X.env.scope x:=by first | exact Or.inl rfl | exact Or.inr (Or.inl rfl) | exact Or.inr (Or.inr rfl))
    (hd:(x==("__debug__" : Str))=false:=by decide) (hcd:(x==("__classdict__" : Str))=false:=by decide) {pl:Sem Bool}
    (ht:eval (.Call (.Attribute (.Name x px) mn apos) [] [] pos) X.env=(do
      let ov <- eval (.Name x px) X.env
      standAt apos.atName
      let (f,first) <- holding [ov] (getMethod ov mn pl)
      callWith pos f first (backTo pos (starEach [] X.env)) (backToKw pos (keywordEach [] X.env))):=by rfl):PE X (.Call (.Attribute (.Name x px) mn apos) [] [] pos) (QU ca X j (zD C mn j G c7)):=by
  obtain⟨f,fd,F,hm,bd⟩:=M.ex
  refine(mt (pv j (pos:=px) hN hv hd hcd) c hm F hr bd .nil LB ht).imp fun σ H Q ⟨ρ,ob,r,er,hat,ho,e,q⟩=>?_
  obtain⟨ob',e1,z1⟩:=h9 e
  rw[hat] at e1
  cases e1
  obtain⟨ds,e2,z2⟩:=h9 z1
  cases e2
  clear e z1
  match ob,z2,hat,ho,q with
  | .obj kk a ks es',z2,hat,ho,q =>
    have e:(if kk=C+2/\ks.contains mn=false then G [.obj kk a ks es'] else none)=some r:=z2
    split at e
    case isFalse=>cases e
    case isTrue hc =>
    obtain⟨rfl,hk⟩:=hc
    obtain⟨v,hσ,rv⟩:=er.at hat
    have rv':=rv
    obtain⟨xs,ev,⟨hl,dx,hH⟩,t⟩:=rv
    subst ev
    refine⟨.ref a,hσ,a,dx,_,rfl,hH,zK hk,?_⟩
    exact⟨.obj (C+2) a ks es',[],r,hps.symm,⟨_,[],rfl,rv',rfl⟩,rfl,e,q.imp (fun _ _ z=>z) fun c H' z=>⟨_,rfl,z⟩⟩
end
def BW(ca:Nat->RY)(K:RW)(t:BX)(j:Nat)(g:MX)(f c':RY)(cl:List (Str×RY))(pm ctv:RU):Sp:=fun vs H Q E=>vs=[]/\H f=some (xC (W.kla_obj "<lambda>" t.q t.params t.body t.scope cl pm c' ctv))/\H c'=some (.tbl t.q true) /\
 ∃caps ds ob r,ze H t.N t.ps cl caps/\i5 K H ds caps/\ds[j]?=some ob/\xF ob=true/\g (ds.map some)=some r/\GL K H ob Q (fun c H'=>E (.ref (ca c)) none H') r
theorem NS{ca:Nat->RY}{P:R9}{w:Sk}{K:RW}{mg:Str->RT RU}{base:Sq}{k:Nat}{t:BX}{j:Nat}{g:MX}(hps:t.ps=[])
  (hb:∀(cl:List (Str×RY)) (f c':RY) (A:Sv) (outer:List Env) (s:RX) (H:Hp) (E:XK),wF t.N t.ps t.scope cl->ua k (A.deeper (W.envX t.q t.scope s.heap.objs.size f (.ref c') cl))->PE (By (AN P w) P w K mg base t.N t.q t.scope cl f (.ref c') A outer s H E) t.body (QU ca (By (AN P w) P w K mg base t.N t.q t.scope cl f (.ref c') A outer s H E) j g))
  (f c':RY) (cl:List (Str×RY)) (pm ctv:RU) (S:wF t.N t.ps t.scope cl):k6 P w K mg base (AN P w) (k+1) f (W.kla_fn "<lambda>" t.q t.params t.body t.scope cl pm (.ref c') ctv) t.ps (BW ca K t j g f c' cl pm ctv):=by
 refine Np S (fun vs H Q E ⟨h,_⟩=>by rw[h,hps];rfl) (fun vs H Q E ⟨_,h1,h2,_⟩=>⟨h1,h2⟩) (fun A outer s H vs Q E hr e0 h=>?_)
 obtain⟨rfl,h1,h2,caps,ds,ob,r,h3,r2,hj,ho,e,q⟩:=h
 have hC:∀b,uG cl b=true->∃o,H b=some (xC o):=fun b hb=>let ⟨o,_,z,_⟩:=h3.2.1 b hb;⟨o,z⟩
 have dc:=BE hC
 have rd:i5 K (vc cl H) ds caps:=i5.clo dc r2
 refine⟨caps,_,h3,hb cl f c' A outer s H E S hr,ds.map some,ob,r,?_,?_,ho,e,?_⟩
 ·exact qz rd
 ·show(ds.map some).getD j none=some ob
  rw[SJ,SX,hj];rfl
 ·match r,q with
  | .ok (d,o'),q =>
   refine fun v H2 kq m2 rv ro bk=>q v _ (fun b u hn hu=>?_) (fun b hb=>?_) (rv.mono fun b u hu=>bk b u hu) (ro.mono fun b u hu=>bk b u hu)
   ·show(if uG cl b then H b else H2 b)=some u
    cases qc:uG cl b with
    | true=>exact hu
    | false=>exact kq b u hn (by rw[vO qc];exact hu)
   ·have:=m2 b hb
    cases hz:H2 b with
    | none=>rw[hz] at this;exact this.elim
    | some u=>rw[bk b u hz];rw[hz] at this;exact this
  | .error c,q =>
   refine fun H2 s2=>M9 S h3 e0.hok e0.frf (q _ fun b u hu=>?_) s2
   show(if uG cl b then H b else H2 b)=some u
   cases qc:uG cl b with
   | true=>exact hu
   | false=>exact s2 b u (by rw[vO qc];exact hu)
section
variable(ca:Nat->RY)
def Rj(X:Cx)(S:List Nat)(g:List Nat->R->RT (Except Nat MO)):TS:=fun E σ H=>∃ ρ τ o,uq X.K H ρ τ σ/\t9 S H/\g S ρ=some o/\match o with
 | .ok mo=>∀H',uQ S H H'->t9 S H'->O8 X.K E τ mo H'
 | .error c=>∀H',i6 H H'->XT X (ca c) H'
def Q6(X:Cx)(sts:List So)(g:List Nat->R->RT (Except Nat MO)):Prop:=∀S,PSs X sts (Rj ca X S g)
end
section
variable{X:Cx}{ca:Nat->RY}{pos:Pos}
theorem Iu{c:Sr}{st:So}{sts:List So}{s:R->RT Bool}{f:R->OD}{u:MU}{n:Nat}(hc:ST X c s)(hr:Qs ca X st (Fd n f))(hu:EL X sts u):Q6 ca X (.If c [st] [] pos::sts) (Gm s f n u):=fun S =>
 (dw (jw hc (c_ hr) zH) (hu S)).imp fun E σ H ⟨ρ,τ,o,er,m,e,q⟩=>by
  obtain⟨b,e1,e⟩:=h9 e
  refine⟨ρ,b,er.1,e1,fun H1 s1=>?_⟩
  cases b with
  | true =>
   rw[R3 rfl] at e ⊢
   obtain⟨d,e2,e3⟩:=t7 e
   subst e3
   refine⟨ρ,τ,.error n,er.mono s1,?_,fun H2 s2=>q H2 (s1.trans s2)⟩
   show(f ρ).map _=_
   rw[e2];rfl
  | false =>
   rw[Sa R6] at e ⊢
   obtain⟨mo,e2,e3⟩:=t7 e
   subst e3
   exact⟨ρ,τ,mo,er.mono s1,m.same s1,e2,fun H2 k2 m2=>q H2 ((uQ.of s1).trans k2) m2⟩
end
theorem qI{ca:Nat->RY}{P:R9}{w:Sk}{K:RW}{mg:Str->RT RU}{base:Sq}{x qual:Str}{st:So}{f:RY}{fd:SV}{N ps:List Str}{k:Nat}{g:List Nat->R->RT (Except Nat MO)}
  (Fn:uv K x qual st f fd) (Sc:c9 N ps (c6 st))
  (hb:∀(cdv:RU) (A:Sv) (outer:List Env) (s:RX) (H:Hp) (E:XK),ua k (A.deeper (envOfC qual (c6 st) s.heap.objs.size f cdv))->Q6 ca (yj (AN P w) P w K mg base N qual (c6 st) f cdv A outer s H E) (uh st) g) :
  k6 P w K mg base (AN P w) (k+1) f fd ps (LT ca K ps.length (Jd ps.length N.length 0 g)):=by
 obtain⟨oc,od,kV,doc,pm,an,cdv,ct,osl,rfl,lk,hcd⟩:=Fn.ex
 refine rq lk hcd Sc (fun vs H Q E h=>?_) (fun A outer s H vs Q E hr h=>?_)
 ·obtain⟨ob,ds,r,hl,rr,_⟩:=h
  rw[<- rr.length];exact hl
 ·obtain⟨ob,ds,r,hl,rr,ho,e,q⟩:=h
  unfold Jd at e
  rw[R3 hl] at e
  have e':(if xF ob=true then _ else none)=some r:=e
  rw[R3 ho] at e'
  obtain⟨o,e1,e2⟩:=h9 e'
  obtain⟨v,hv,rv⟩:=rr.get (i:=0) rfl
  have ms:=xy rv
  refine⟨_,hb cdv A outer s H E hr (adr ob),AO N.length (ob::ds),_,o,(zU rr).t,ms,e1,?_⟩
  match o,e2 with
  | .error c,e2 =>
   cases e2
   exact fun H1 s1=>Mb (q H1 s1) s1
  | .ok (.nx ρ),e2 =>
   obtain⟨⟨d,o'⟩,e3,e4⟩:=t7 e2
   subst e4
   intro H1 k1 m1 σ' er'
   obtain⟨ob',e5,e6⟩:=h9 e3
   split at e6
   ·rename_i hc
    obtain⟨rfl,rfl⟩:D.non=d/\ob'=o':=by simpa using e6
    have rr2:=(Mp.of er'.1) 0 ob' (AR e5) hc.1
    rw[AG hc.1 ho hc.2] at rr2
    exact q .non H1 k1 m1 rfl rr2
   ·cases e6
  | .ok (.rt d' ρ),e2 =>
   obtain⟨⟨d,o'⟩,e3,e4⟩:=t7 e2
   subst e4
   intro H1 k1 m1 v rv ob1
   obtain⟨ob',e5,e6⟩:=h9 e3
   split at e6
   ·rename_i hc
    obtain⟨rfl,rfl⟩:d'=d/\ob'=o':=by simpa using e6
    have rr2:=ob1 0 ob' (AR e5) hc.1
    rw[AG hc.1 ho hc.2] at rr2
    exact q v H1 k1 m1 rv rr2
   ·cases e6
def AX(P:R9)(w:Sk)(K:RW)(mg:Str->RT RU)(base:Sq)(ca:Nat->RY)(k:Nat)(fnd:Nat->OD):Sp:=fun vs H Q _=>∃(t:BX) (j:Nat) (g:MX) (f c':RY) (cl:List (Str×RY)) (pm ctv:RU),vs=[.ref f]/\t.ps=[] /\
 k6 P w K mg base (AN P w) k f (W.kla_fn "<lambda>" t.q t.params t.body t.scope cl pm (.ref c') ctv) t.ps (BW ca K t j g f c' cl pm ctv)/\Binds K (W.kla_fn "<lambda>" t.q t.params t.body t.scope cl pm (.ref c') ctv) t.ps [] /\
 BW ca K t j g f c' cl pm ctv [] H (fun v H1=>∀p,H1 p=none->Q (.ref p) (upd H1 p (.tup [.str uL,v]))) (fun Cv _ H1=>∃c d,Cv=.ref (ca c)/\fnd c=some d/\∀v H2,i6 H1 H2->Rep K H2 d v->Q v H2)
theorem BW.imp{ca:Nat->RY}{K:RW}{t:BX}{j:Nat}{g:MX}{f c':RY}{cl:List (Str×RY)}{pm ctv:RU}{vs:List V}{H:Hp}{Q Q':VK}{E E':XK}(h:BW ca K t j g f c' cl pm ctv vs H Q E)(h1:∀v H',Q v H'->Q' v H')(h2:∀c H',E (.ref (ca c)) none H'->E' (.ref (ca c)) none H'):BW ca K t j g f c' cl pm ctv vs H Q' E':=by
 obtain⟨a,b,c,caps,ds,ob,r,d,e,f1,g1,h3,q⟩:=h
 exact⟨a,b,c,caps,ds,ob,r,d,e,f1,g1,h3,q.imp h1 h2⟩
section
variable{X:Cx}{ca:Nat->RY}{Wz:RY}{y n dn:Str}{np dp cp tp yp yp2 rp lp apos hpos pos:Pos}{b₀:So}{suite:List So}{gs:Nat->Nat->R->RT Out}{k:Nat}{x1:_}{js1:_}
theorem qr{fnd:Nat->OD}(i j jf:Nat)(EK:IL X.K X.mg ca Wz)(hr:ua k X.A)(hc:X.calm=true)(hcells:X.env.cells=[])(hstk:X.stack=X.env::X.outer)(hfr:X.env.frame=some X.env.locals)(hex:X.ex=[])(hN:X.N.Nodup)
  (hs:∀pins e oe c,c<2->oe.cls=.ref (ca c)->SS (NZ X pins e oe) (b₀::suite) (gs c e)) (hf:∀c d,fnd c=some d->c<2/\∀e:Nat,∃ ρ',gs c e (M2 X.N.length j e)=some (.nx ρ')/\c5 jf (ρ'.set j none)=some d)
  (hiN:X.N[i]?=some dn:=by rfl) (hiv:B0 X.env.scope dn:=by first | exact Or.inl rfl | exact Or.inr (Or.inl rfl) | exact Or.inr (Or.inr rfl)) (Lx:(dn==("__debug__" : Str))=false:=by decide) (hicd:(dn==("__classdict__" : Str))=false:=by decide)
  (hyN:X.N[jf]?=some y:=by rfl) (hyl:Loc X.env.scope y:=by first | exact Or.inl rfl | exact Or.inr rfl) (hyv:B0 X.env.scope y:=by first | exact Or.inl rfl | exact Or.inr (Or.inl rfl) | exact Or.inr (Or.inr rfl)) (hyd:(y==("__debug__" : Str))=false:=by decide) (hycd:(y==("__classdict__" : Str))=false:=by decide)
  (hyf:X.fn y=true\/X.env.scope.names.lookup y=some .local:=by first | exact .inl rfl | exact .inr rfl) (hlt:jf<X.N.length:=by decide)
  (hsw:swapsWith (.Tuple [.Constant (.str uL) js1 lp,.Call (.Name dn dp) [] [] cp] x1 tp) (some (.Name y yp)) apos.line X.env=pure false:=by rfl)
  (hj:X.N[j]?=some n:=by rfl) (hloc:X.env.kindOf n=some .local:=by rfl) (hgl:Gl X "WatchError":=by rfl) :
  PSs X [.Try [.Assign [.Name y yp] (.Tuple [.Constant (.str uL) js1 lp,.Call (.Name dn dp) [] [] cp] x1 tp) apos] [.ExceptHandler (some (.Name "WatchError" np)) (some n) (b₀::suite) hpos] [] [] pos,.Return (some (.Name y yp2)) rp]
   (fun E σ H=>σ.length=X.N.length/\∃f,σ[i]?=some (some (.ref f))/\AX X.prog X.w X.K X.mg X.base ca k fnd [.ref f] H E.rt E0):=by
 intro pins s σ H E I ⟨hlen,f,hσ,t,jj,g,f',c',cl,pm,ctv,hv,hps,hF,bd,hsp⟩
 cases hv
 have hb1:∀(pins:List (RY×Obj)) (E:RU->RX->Prop),PS (Lc X pins E) (.Assign [.Name y yp] (.Tuple [.Constant (.str uL) js1 lp,.Call (.Name dn dp) [] [] cp] x1 tp) apos) (fun D σ H=>σ[i]?=some (some (.ref f))/\BW ca X.K t jj g f c' cl pm ctv [] H (fun v H1=>∀p,H1 p=none->D.nx (σ.set jf (some (.ref p))) (upd H1 p (.tup [.str uL,v]))) (fun Cv _ H1=>∃c,Cv=.ref (ca c)/\XW (Lc X pins E) (ca c) H1)):=fun pins E =>
  (ib (X:=Lc X pins E) (i:=jf) hN hyN hyl (nN (eD H_ (eD (pj (X:=Lc X pins E) (i:=i) (p:=dp) (pos:=cp) hF bd hr hiN hiv Lx hicd) AU))) hsw hyf).imp fun D σ H ⟨h1,h2⟩=>by
   refine⟨h1,h2.2.1,h2.imp (fun v H1 q=>⟨?_,fun p hp=>q p hp⟩) fun c H1 ⟨c2,e,z⟩=>⟨_,e,z⟩⟩
   exact Sx (show 2<=1000 by decide) (by decide)
 have key:=dw (rD (X:=X) (ca:=ca) (x:="WatchError") (np:=np) (hpos:=hpos) (pos:=pos) (b₀:=b₀) (suite:=suite) (gs:=gs)
  (tb:=fun σ H Qn Qe=>σ[i]?=some (some (.ref f))/\BW ca X.K t jj g f c' cl pm ctv [] H (fun v H1=>∀p,H1 p=none->Qn (σ.set jf (some (.ref p))) (upd H1 p (.tup [.str uL,v]))) (fun Cv _ H1=>∃c,Cv=.ref (ca c)/\Qe c H1))
  j EK.two hc hcells hstk hfr hex hN EK.mw
  (fun σ H Qn Qe Qe' hq ⟨h1,h2⟩=>⟨h1,h2.imp (fun _ _ z=>z) fun c H' ⟨c2,e,z⟩=>⟨c2,e,hq _ _ z⟩⟩)
  hb1 hs hj hloc hgl (by decide)) (c_ (lL (pos:=rp) (pv jf (pos:=yp2) hyN hyv hyd hycd)))
 refine key pins s σ H E I ⟨hσ,hsp.imp (fun v H1 q p hp=>⟨.ref p,?_,q p hp⟩) fun c H1 ⟨c2,d,e2,e3,q⟩=>⟨c2,e2,?_⟩⟩
 ·rw[SH (by omega)]
 ·obtain⟨hc2,hg⟩:=hf c2 d e3
  refine⟨hc2,fun e=>?_⟩
  obtain⟨ρ',eg,ev⟩:=hg e
  refine⟨ρ',eg,fun σ' H' t er'=>?_⟩
  obtain⟨v,hv,rv⟩:=er'.at ev
  exact⟨v,hv,q v H' t rv⟩
end
theorem qa {ca:Nat->RY} {P:R9} {w:Sk} {K:RW} {mg:Str->RT RU} {base:Sq} {x qual:Str} {st:So} {f:RY} {fd:SV} {N ps:List Str} {k:Nat} {fnd:Nat->OD}
    (Fn:uv K x qual st f fd) (Sc:c9 N ps (c6 st)) (hps:ps.length=1) (hn:1<=N.length)
    (hb:∀(cdv:RU) (A:Sv) (outer:List Env) (s:RX) (H:Hp) (E:XK),ua k (A.deeper (envOfC qual (c6 st) s.heap.objs.size f cdv))->PSs (yj ue P w K mg base N qual (c6 st) f cdv A outer s H E).nox (uh st)
      (fun E σ H=>σ.length=N.length/\∃f,σ[0]?=some (some (.ref f))/\AX P w K mg base ca k fnd [.ref f] H E.rt E0)) :
    k6 P w K mg base ue (k+1) f fd ps (AX P w K mg base ca k fnd):=by
  refine Fn.ok Sc (fun vs H Q E h=>?_) (fun cdv A outer s H vs Q E hr h=>?_)
  · obtain⟨_,_,_,_,_,_,_,_,rfl,_⟩:=h
    rw[hps];rfl
  · obtain⟨t,j,g,fc,c',cl,pm,ctv,rfl,q⟩:=h
    refine⟨_,hb cdv A outer s H E hr,?_,fc,rfl,t,j,g,fc,c',cl,pm,ctv,rfl,q⟩
    unfold L2.start
    simp
    omega
structure yG (P:R9) (w:Sk) (K:RW) (mg:Str->RT RU) (base:Sq) (ca:Nat->RY) (k k0:Nat) (x:Str) (ps:List Str) (fnd:Nat->OD):Prop where
 ex:∃f fd,k6 P w K mg base ue k f fd ps (AX P w K mg base ca k0 fnd)/\mg x=some (.ref f)/\W.keepIn K (.ref f)=true/\Binds K fd ps []
theorem yG.m{P:R9}{w:Sk}{K:RW}{mg:Str->RT RU}{base:Sq}{ca:Nat->RY}{k k' k0:Nat}{x:Str}{ps:List Str}{fnd:Nat->OD}(h:yG P w K mg base ca k k0 x ps fnd)(hk:k<=k':=by decide):yG P w K mg base ca k' k0 x ps fnd:=by
 obtain⟨f,fd,a,b⟩:=h.ex
 exact⟨f,fd,a.mono hk,b⟩
def Ry(X:Cx)(j:Nat)(js:List Nat)(g:MX)(fnd:Nat->OD)(S:List Nat):TE:=fun σ H Q=>∃ ρ τ d ρ',uq X.K H ρ τ σ/\t9 S H/\zI j js g fnd S ρ=some (d,ρ')/\∀v H',uQ S H H'->t9 S H'->Rep X.K H' d v->uq X.K H' ρ' τ σ->Q v H'
def Rb(X:Cx)(e:Sr)(j:Nat)(js:List Nat)(g:MX)(fnd:Nat->OD):Prop:=∀S,PE X e (Ry X j js g fnd S)
theorem Gj:∀{js:List Nat} {ρ:R} {ds:LD} {j:Nat} {ob:D},Cu js ρ=some ds->ds[j]?=some ob->c5 (js.getD j 0) ρ=some ob
 | [],_,_,j,ob,h,hj=>by cases h;cases hj
 | i::js,ρ,ds,j,ob,h,hj=>by
  obtain⟨d,e1,h⟩:=h9 h
  obtain⟨ds',e2,rfl⟩:=t7 h
  cases j with
  | zero=>cases hj;exact e1
  | succ j=>exact Gj (js:=js) e2 hj
section
variable{X:Cx}{ca:Nat->RY}{pos p lpos:Pos}{k k0:Nat}{told:Str}{ps:List Str}{t:BX}{ct:wl}{cl:List (Str×RY)}{js:List Nat}{j:Nat}{g:MX}{fnd:Nat->OD}
theorem se(C:yG X.prog X.w X.K X.mg X.base ca k k0 told ps fnd)(hr:ua k X.A)(o:Ih X t cl ct js)(hps:t.ps=[])
  (LM:∀(f c':RY) (cl:List (Str×RY)) (pm ctv:RU),wF t.N t.ps t.scope cl->k6 X.prog X.w X.K X.mg X.base (AN X.prog X.w) k0 f (W.kla_fn "<lambda>" t.q t.params t.body t.scope cl pm (.ref c') ctv) t.ps (BW ca X.K t j g f c' cl pm ctv))
  (bd:∀(c':RY) (cl:List (Str×RY)) (pm ctv:RU),Binds X.K (W.kla_fn "<lambda>" t.q t.params t.body t.scope cl pm (.ref c') ctv) t.ps []) (hg:Gl X told:=by rfl) (hdb:(told==("__debug__" : Str))=false:=by decide) :
  Rb X (.Call (.Name told p) [.Lambda t.params t.body t.scope lpos] [] pos) j js g fnd:=by
 obtain⟨fa,fd,fok,hm,kp,bdT⟩:=C.ex
 intro S pins s σ H Q I ⟨ρ,τ,d,ρ',er,mS,e0,q⟩
 refine qx fok hr hg hm kp bdT o.own (eD (tB (t:=ct) (ts:=[ct]) o.TB (.head _) o.code o.qual o.hcl o.hdf) AU) hdb rfl rfl pins s σ H Q I ⟨I.base.tbls _ _ _ o.hT,fun f c' ctv pm H1 s1 hn h1 h2 H2 tr=>?_⟩
 obtain⟨ds,eC,e0⟩:=h9 e0
 obtain⟨ob,hj,e0⟩:=h9 e0
 obtain⟨r,eg,e0⟩:=h9 e0
 have s12:i6 H1 H2:=fun b u hb=>by
  cases qc:uG cl b with
  | false=>rw[tr.out b qc];exact hb
  | true=>rw[(tr.cel b qc).1] at hb;cases hb
 have er1:=er.mono s1
 obtain⟨cvs,rc,hl,hg'⟩:=D7 er1.1 eC
 have hlen:js.length=t.N.length - t.ps.length:=by
  have:=congrArg List.length o.hjs
  rw[R7,R7,Tt] at this
  exact this
 have at_i:∀(i:Nat) (y:Str),(t.N.drop t.ps.length)[i]?=some y->∃j,js[i]?=some j/\X.N[j]?=some y:=fun i y hy=>by
  have h:=congrArg (fun l=>l[i]?) o.hjs
  simp only[SX] at h
  rw[hy] at h
  cases hj:js[i]? with
  | none=>rw[hj] at h;cases h
  | some j=>rw[hj] at h;exact⟨j,rfl,Si h⟩
 have caps:ze H2 t.N t.ps cl cvs:=by
  refine⟨by rw[hl,hlen],fun b hb=>?_,fun i y v hy hv=>?_⟩
  ·obtain⟨pr,hp,ep⟩:=List.any_eq_true.mp hb
   have hlk:cl.lookup pr.1=some b:=wm o.own.ndc (by rw[<- Tq ep];exact hp)
   obtain⟨i,hi⟩:=List.getElem?_of_mem (o.hcn _ _ hlk)
   obtain⟨j,hj,hN⟩:=at_i i _ hi
   have hil:i<cvs.length:=by rw[hl];exact(Sg.mp hj).1
   obtain⟨ob,u,z1,z2,_⟩:=tr.val j _ b cvs[i] hN (hg' i j _ hj (List.getElem?_eq_getElem hil)) hlk
   exact⟨ob,u,z1,z2⟩
  ·obtain⟨j,hj,hN⟩:=at_i i y hy
   obtain⟨c,hc⟩:=o.sc.has y (o.sc.fre y (S_ hy))
   obtain⟨ob,u,z1,z2,z3⟩:=tr.val j y c v hN (hg' i j v hj hv) hc
   exact⟨c,ob,u,hc,z1,z2,z3⟩
 have hcl:∀b,uG cl b=true->∃o,H2 b=some (xC o):=fun b hb=>let ⟨o,_,z,_⟩:=caps.2.1 b hb;⟨o,z⟩
 have r2:i5 X.K H2 ds cvs:=rc.mono s12
 obtain⟨vo,hvo,ro⟩:=r2.get hj
 have h1':H2 f=some (xC (W.kla_obj "<lambda>" t.q t.params t.body t.scope cl pm c' ctv)):=by rw[o.tq];exact s12 _ _ h1
 have h2':H2 c'=some (.tbl t.q true):=by rw[o.tq];exact s12 _ _ h2
 have nC:∀b u,H1 b=some u->uG cl b=false:=fun b u hb=>by
  cases qc:uG cl b with
  | false=>rfl
  | true=>rw[(tr.cel b qc).1] at hb;cases hb
 match r,e0,eg with
 | .error c,e0,eg =>
  have e0':(if xF ob=true then (fnd c).map fun d=>(d,ρ) else none)=some (d,ρ'):=e0
  split at e0'
  case isFalse=>cases e0'
  case isTrue ho =>
  obtain⟨d',ef,ee⟩:=t7 e0'
  cases ee
  refine⟨t,j,g,f,c',cl,pm,ctv,rfl,hps,LM f c' cl pm ctv o.sc,bd c' cl pm ctv,rfl,h1',h2',cvs,ds,ob,.error c,caps,r2,hj,ho,eg,fun H3 s3=>⟨c,d,rfl,ef,fun v H4 s4 rv=>?_⟩⟩
  have sf:i6 H (vc cl H4):=fun b u hb=>by
   have hb1:=s1 b u hb
   rw[vO (nC b u hb1)]
   exact s4 _ _ (s3 _ _ (s12 _ _ hb1))
  have hc4:∀b,uG cl b=true->∃o,H4 b=some (xC o):=fun b hb=>let ⟨o,z⟩:=hcl b hb;⟨o,s4 _ _ (s3 _ _ z)⟩
  exact q v _ (uQ.of sf) (mS.same sf) (Rep.clo (BE hc4) rv) (er.mono sf)
 | .ok (d1,o'),e0,eg =>
  have e0':(if xF ob=true/\za (js.getD j 0) (adr ob) ρ=true/\AE S (adr ob)=true/\js.getD j 0<ρ.length then some (D.tup [.str uL,d1],ρ.set (js.getD j 0) (some o')) else none)=some (d,ρ'):=e0
  split at e0'
  case isFalse=>cases e0'
  case isTrue hc =>
  cases e0'
  obtain⟨ho,hsep,hin,_⟩:=hc
  refine⟨t,j,g,f,c',cl,pm,ctv,rfl,hps,LM f c' cl pm ctv o.sc,bd c' cl pm ctv,rfl,h1',h2',cvs,ds,ob,.ok (d1,o'),caps,r2,hj,ho,eg,fun v H3 kq m3 rv ro' p0 hp0=>?_⟩
  have mo:t9 (adr ob) H2:=xy ro
  have cellK:∀b,uG cl b=true->∃o,H3 b=some (xC o):=fun b hb=>by
   obtain⟨oo,z⟩:=hcl b hb
   refine⟨oo,kq b _ (fun hz=>?_) z⟩
   have:=mo b hz
   rw[z] at this
   exact this
  have su:i6 H3 (upd H3 p0 (.tup [.str uL,v])):=bh hp0 _
  have dc:=BE (H:=upd H3 p0 (.tup [.str uL,v])) (cl:=cl) fun b hb=>let ⟨oo,z⟩:=cellK b hb;⟨oo,su _ _ z⟩
  have ro3:Rep X.K (vc cl (upd H3 p0 (.tup [.str uL,v]))) o' (.ref (Ad ob)):=Rep.clo dc (ro'.mono su)
  have rv3:Rep X.K (vc cl (upd H3 p0 (.tup [.str uL,v]))) (.tup [.str uL,d1]) (.ref p0):=Rep.clo dc ⟨p0,[.str uL,v],rfl,xn.of au,_,[v],rfl,rfl,v,[],rfl,rv.mono su,rfl⟩
  have kq1:uQ (adr ob) H1 (vc cl (upd H3 p0 (.tup [.str uL,v]))):=fun b u hn hb=>by
   rw[vO (nC b u hb)]
   exact su _ _ (kq b u hn (s12 _ _ hb))
  have m4:t9 (adr ob) (vc cl (upd H3 p0 (.tup [.str uL,v]))):=fun b hb=>by
   have h3:=m3 b hb
   cases hz:H3 b with
   | none=>rw[hz] at h3;exact h3.elim
   | some u =>
    have hnc:uG cl b=false:=by
     cases qc:uG cl b with
     | false=>rfl
     | true=>obtain⟨oo,z⟩:=cellK b qc;rw[z] at h3;exact h3.elim
    rw[vO hnc,su _ _ hz]
    rw[hz] at h3;exact h3
  obtain⟨a1,a2,a3⟩:=Cc er mS (Gj eC hj) ho hsep hin s1 kq1 m4 ro3
  exact q _ _ a1 a2 rv3 a3
theorem tL{e b:Sr}{B1 B2:List So}{op:CmpOp}{F:D->D->RT Bool}{h:R->OD}{u w:MU}{pc:Pos}(ho:EH X op F)(ht:Rb X e j js g fnd)(hb:SE X b h)(h1:EL X B1 u)(h2:EL X B2 w)(hm:behindInMarks op b=false:=by first | exact Dn _ | with_unfolding_all rfl) :
  MS X (.If (.Compare e [op] [b] pc) B1 B2 pos) (Kx (zI j js g fnd) F h u w):=fun S=>(jw (lM ho (ht S) hb hm) (h1 S) (h2 S)).imp fun E σ H ⟨ρ,τ,o,er,m,eq,q⟩=>by
 obtain⟨⟨d,ρ'⟩,e1,eq⟩:=h9 eq
 obtain⟨y,e2,eq⟩:=h9 eq
 obtain⟨bb,e3,eq⟩:=h9 eq
 refine⟨ρ,τ,d,ρ',er,m,e1,fun v H1 k1 m1 rv er1=>⟨ρ',y,er1.1,e2,fun v2 H2 s2 r2=>⟨d,y,bb,rv.mono s2,r2,e3,bb,rfl,?_⟩⟩⟩
 cases bb with
 | true =>
  rw[R3 rfl] at eq ⊢
  exact⟨ρ',τ,o,er1.mono s2,m1.same s2,eq,fun H3 k3 m3=>q H3 (k1.trans ((uQ.of s2).trans k3)) m3⟩
 | false =>
  rw[Sa R6] at eq ⊢
  exact⟨ρ',τ,o,er1.mono s2,m1.same s2,eq,fun H3 k3 m3=>q H3 (k1.trans ((uQ.of s2).trans k3)) m3⟩
end
section
variable{X:Cx}{pos:Pos}
end
structure Mu (K:RW) (x qual:Str) (st:So) (f:RY) (fd:SV) (c:RY):Prop where
 ex:∃(oc:RU) (od:RT RY) (kV doc pm:RU) (an:RT RY) (ct:RU) (osl:Array (RT RU)),
  fd=W.fnOf x qual (vf st) (uh st) (c6 st) .none kV doc pm an (.ref c) ct/\K.lookup f=some ⟨oc,od,.func fd,osl⟩/\W.codeIn K (.ref c) qual=true
 kp:W.keepIn K (.ref f)=true
def spT(K:RW)(F:LD->OD)(t:wl):Sp:=fun vs H Q E=>H t.P=some (.tbl t.q false)/\uP K F vs H Q E
theorem rY{P:R9}{w:Sk}{K:RW}{mg:Str->RT RU}{base:Sq}{x qual:Str}{st:So}{f:RY}{fd:SV}{N ps:List Str}{k:Nat}{F:LD->OD}{g:R->RT Out}{t:wl}
  (Fn:Mu K x qual st f fd t.c) (S:c9 N ps (c6 st)) (hlen:∀ds d,F ds=some d->ds.length=ps.length)
  (hb:∀(A:Sv) (outer:List Env) (s:RX) (H:Hp) (E:XK),ua k (A.deeper (envOfC qual (c6 st) s.heap.objs.size f (.ref t.c)))->H t.P=some (.tbl t.q false)->SS (yj ue P w K mg base N qual (c6 st) f (.ref t.c) A outer s H E).nox (uh st) g)
  (hF:∀ds d,F ds=some d->yr (g (AO N.length ds))=some d):k6 P w K mg base ue (k+1) f fd ps (spT K F t):=by
 obtain⟨oc,od,kV,doc,pm,an,ct,osl,rfl,lk,hcd⟩:=Fn.ex
 refine rq lk hcd S (fun vs H Q E h=>?_) (fun A outer s H vs Q E hr h=>?_)
 ·obtain⟨_,ds,d,r,e,_⟩:=h
  rw[<- r.length]
  exact hlen ds d e
 ·obtain⟨hT,ds,d,r,e,q⟩:=h
  refine⟨_,(hb A outer s H E hr hT).nox,?_⟩
  have z:=hF ds d e
  cases ho:g (AO N.length ds) with
  | none=>rw[ho] at z;cases z
  | some o =>
   rw[ho] at z
   refine⟨AO N.length ds,_,o,(zU r).t,ho,fun H1 s1=>?_⟩
   cases o with
   | rt d'=>cases (show d'=d from Si z);exact fun v rv=>q v H1 s1 rv
   | nx ρ=>cases (show D.non=d from Si z);exact fun σ _=>q .non H1 s1 rfl
   | bk ρ=>cases z
   | ct ρ=>cases z
theorem LK{K:RW}{t:BX}(h:∀(c':RY) (cl:List (Str×RY)) (pm ctv:RU) (us:List RU),us.length=t.ps.length->bindArgs (W.kla_fn "<lambda>" t.q t.params t.body t.scope cl pm (.ref c') ctv) ⟨us,[]⟩=pure (t.ps.zip us)) :
  ∀(c':RY) (cl:List (Str×RY)) (pm ctv:RU),Binds K (W.kla_fn "<lambda>" t.q t.params t.body t.scope cl pm (.ref c') ctv) t.ps []:=fun c' cl pm ctv=>.all (h c' cl pm ctv)
theorem sN{K:RW}{x:Str}{f c P:RY}{oc oc2:RU}{od od2:RT RY}{osl sl2:Array (RT RU)}{fd:SV}{vs:Array RU}(a:W.nsIn K mainGlobals x=some (some (.ref f)))(l:K.lookup f=some ⟨oc,od,.func fd,osl⟩)(hc:fd.code=.ref c)
  (l2:K.lookup c=some ⟨oc2,od2,.fields vs,sl2⟩) (h:vs[11]?=some (.ref P)):W.tabIn K x=some (c,P):=by
 unfold W.tabIn
 simp only[a,l,hc,l2,h]
def Pc(K:RW)(F:LD->OD)(ts:List wl):Sp:=fun vs H Q E=>∀t,ts=[t]->spT K F t vs H Q E
theorem MH{K:RW}{F:LD->OD}{H:Hp}{ts:List wl}{a:RY}{vs:List V}{Q:VK}{E:XK}(hO:FZ ts a H)(hP:∀t∈ts,t.P≠a)(h:uP K F vs H Q E):Pc K F ts vs H Q E:=fun t e=>by
 subst e
 refine⟨?_,h⟩
 rcases hO t.P with ⟨_,z⟩ | ⟨z,_⟩
 ·rw[z];simp[C4]
 ·exact Sm z (hP t (R4.mpr rfl))
theorem Mg{P:R9}{w:Sk}{K:RW}{mg:Str->RT RU}{base:Sq}{k:Nat}{f:RY}{fd:SV}{ps:List Str}{F:LD->OD}{t:wl}(h:k6 P w K mg base ue k f fd ps (spT K F t)):k6 P w K mg base ue k f fd ps (Pc K F [t]):=h.imp fun vs H Q E z=>z t rfl
theorem JQ{K:RW}{F G:LD->OD}{t:wl}(h:∀ds d,F ds=some d->G ds=some d):∀vs H Q E,spT K F t vs H Q E->spT K G t vs H Q E:=fun _ _ _ _ ⟨a,ds,d,r,e,q⟩=>⟨a,ds,d,r,h ds d e,q⟩
def Rc(X:Cx)(c:List Nat->R->RT (D×R))(S:List Nat):TE:=fun σ H Q=>∃ ρ τ d ρ',uq X.K H ρ τ σ/\t9 S H/\c S ρ=some (d,ρ')/\∀v H',uQ S H H'->t9 S H'->Rep X.K H' d v->uq X.K H' ρ' τ σ->Q v H'
section
variable{X:Cx}{pos p:Pos}{x:Str}{e:Sr}{es:List Sr}{F:R->RT LD}{G:LD->RT (D×D)}{k j:Nat}{ps:List Str}
theorem rm(i:Nat)(C:EW X.prog X.w X.K X.mg X.base k x ps j G)(hr:ua k X.A)(ha:SA X (e::es) F)(hF:∀ ρ ds ob,F ρ=some ds->c5 i ρ=some ob->ds[j]?=some ob)(hg:Gl X x:=by rfl)(hdb:(x==("__debug__" : Str))=false:=by decide) :
  ∀S,PE X (.Call (.Name x p) (e::es) [] pos) (Rc X (Bp i G F) S):=by
 have hst:=ha.2.2
 rw[SL,R1] at hst
 have he:=aF es X.env hst.1
 have hpl:=bv (pos:=pos) (env:=X.env) hst.2
 obtain⟨f,fd,a,m,kp,bd⟩:=C.ex
 exact fun S=>(iP a hr hg m kp bd .nil ym ha.1 hdb he hpl).imp fun σ H Q ⟨ρ,τ,d,ρ',er,m,e,q⟩=>mV hF er m e q
theorem sK{e b:Sr}{B1 B2:List So}{op:CmpOp}{F:D->D->RT Bool}{h:R->OD}{c:List Nat->R->RT (D×R)}{u w:MU}{pc:Pos}(ho:EH X op F)(ht:∀S,PE X e (Rc X c S))(hb:SE X b h)(h1:EL X B1 u)(h2:EL X B2 w)(hm:behindInMarks op b=false:=by first | exact Dn _ | with_unfolding_all rfl) :
  MS X (.If (.Compare e [op] [b] pc) B1 B2 pos) (Kx c F h u w):=fun S=>(jw (lM ho (ht S) hb hm) (h1 S) (h2 S)).imp fun E σ H ⟨ρ,τ,o,er,m,eq,q⟩=>by
 obtain⟨⟨d,ρ'⟩,e1,eq⟩:=h9 eq
 obtain⟨y,e2,eq⟩:=h9 eq
 obtain⟨bb,e3,eq⟩:=h9 eq
 refine⟨ρ,τ,d,ρ',er,m,e1,fun v H1 k1 m1 rv er1=>⟨ρ',y,er1.1,e2,fun v2 H2 s2 r2=>⟨d,y,bb,rv.mono s2,r2,e3,bb,rfl,?_⟩⟩⟩
 cases bb with
 | true =>
  rw[R3 rfl] at eq ⊢
  exact⟨ρ',τ,o,er1.mono s2,m1.same s2,eq,fun H3 k3 m3=>q H3 (k1.trans ((uQ.of s2).trans k3)) m3⟩
 | false =>
  rw[Sa R6] at eq ⊢
  exact⟨ρ',τ,o,er1.mono s2,m1.same s2,eq,fun H3 k3 m3=>q H3 (k1.trans ((uQ.of s2).trans k3)) m3⟩
end
end HW
namespace HW
open PySem
inductive yT | none | hour | minute | zero | ahour | aminute | alarm | run | lap | cminute | csecond | full | count
 deriving DecidableEq,Inhabited
inductive wL | a | b | c
 deriving DecidableEq,Inhabited
inductive Face | time | alarm | laps | count
 deriving DecidableEq,Inhabited
noncomputable def yT.x:yT->Str
 | .none=>oS "none" | .hour=>oS "hour" | .minute=>oS "minute" | .zero=>oS "zero" | .ahour=>oS "ahour" | .aminute=>oS "aminute" | .alarm=>oS "alarm"
 | .run=>oS "run" | .lap=>oS "lap" | .cminute=>oS "cminute" | .csecond=>oS "csecond" | .full=>oS "full" | .count=>oS "count"
def wL.x:wL->Str
 | .a=>oS "a" | .b=>oS "b" | .c=>oS "c"
def wL.X:wL->Str
 | .a=>oS "A" | .b=>oS "B" | .c=>oS "C"
def wL.ix:wL->Nat
 | .a=>0 | .b=>1 | .c=>2
def Face.x:Face->Str
 | .time=>oS "time" | .alarm=>oS "alarm" | .laps=>oS "laps" | .count=>oS "count"
structure Md where
 face:Face
 stays:Bool
 rows:List (yT×Nat)
 deriving Inhabited
structure Bk where
 hold:Int
 back:Int
 modes:List Md
structure WS where
 mode:Nat
 clock:Int
 ah:Int
 am:Int
 aon:Bool
 lm:Int
 lr:Bool
 lk:List Int
 cm:Int
 cs:Int
 cl:Int
 cr:Bool
 ring:Int
 held:RT (wL×RT Int)
 idle:Int
def A0(r:yT×Nat):D:=.tup [.str r.1.x,.int (r.2:Int)]
def Md.d(m:Md):D:=.tup [.str m.face.x,.bl m.stays,.tup (m.rows.map A0)]
def Bk.d(b:Bk):D:=.tup [.int b.hold,.int b.back,.tup (b.modes.map Md.d)]
noncomputable def uk:RT Int->D
 | .none=>.non
 | .some k=>.int k
def xZ:RT (wL×RT Int)->D
 | .none=>.non
 | .some (x,k)=>.tup [.str x.x,uk k]
def WS.alarmD(s:WS):D:=.tup [.int s.ah,.int s.am,.bl s.aon]
def WS.lapsD(s:WS):D:=.tup [.int s.lm,.bl s.lr,.tup (s.lk.map .int)]
def WS.countD(s:WS):D:=.tup [.int s.cm,.int s.cs,.int s.cl,.bl s.cr]
def WS.d(s:WS):D:=.tup [.int (s.mode:Int),.int s.clock,s.alarmD,s.lapsD,s.countD,.int s.ring,xZ s.held,.int s.idle]
structure Md.Ok (n:Nat) (m:Md):Prop where
 six:m.rows.length=6
 nx:∀r∈m.rows,r.2<n
structure Bk.Ok (b:Bk):Prop where
 hold1:1<=b.hold
 hold9:b.hold<=9
 back0:0<=b.back
 back60:b.back<=60
 some1:1<=b.modes.length
 some8:b.modes.length<=8
 all:∀m∈b.modes,m.Ok b.modes.length
structure WS.Wk (b:Bk) (s:WS):Prop where
 bk:0<=b.back
 mode:s.mode<b.modes.length
 clock0:0<=s.clock
 clock1:s.clock<86400
 ah0:0<=s.ah
 ah1:s.ah<24
 am0:0<=s.am
 am1:s.am<60
 lm0:0<=s.lm
 lk:s.lk.length<=4
 cm0:0<=s.cm
 cm1:s.cm<60
 cs0:0<=s.cs
 cs1:s.cs<60
 cl0:0<=s.cl
 cl1:s.cl<3600
 cr:s.cr=true->0<s.cl
 ring0:0<=s.ring
 ring1:s.ring<=10
 idle0:0<=s.idle
 idle1:0<b.back->s.idle<b.back
 idle2:b.back=0->s.idle=0
structure WS.Ok (b:Bk) (s:WS):Prop extends WS.Wk b s where
 held:∀x k,s.held=some (x,some k)->0<=k/\k<b.hold
noncomputable def zB(s:WS)(m c:Int):WS:=if s.cr then s else {s with cm:=m,cs:=c,cl:=60*m+c,cr:=false}
def deed:yT->WS->WS
 | .none,s=>s
 | .hour,s=>{s with clock:=(s.clock+3600)%86400}
 | .minute,s=>{s with clock:=s.clock - s.clock%3600+(s.clock%3600+60)%3600}
 | .zero,s=>{s with clock:=s.clock - s.clock%60}
 | .ahour,s=>{s with ah:=(s.ah+1)%24}
 | .aminute,s=>{s with am:=(s.am+1)%60}
 | .alarm,s=>{s with aon:=!s.aon}
 | .run,s=>{s with lr:=!s.lr}
 | .lap,s=>if s.lr then (if 4<=s.lk.length then s else {s with lk:=s.lk++[s.lm]}) else {s with lm:=0,lk:=[]}
 | .cminute,s=>zB s ((s.cm+1)%60) s.cs
 | .csecond,s=>zB s s.cm ((s.cs+1)%60)
 | .full,s=>zB s s.cm s.cs
 | .count,s=>{s with cr:=!s.cr&&decide (0<s.cl)}
def Bk.row(b:Bk)(m i:Nat):yT×Nat:=(b.modes.getD m default).rows.getD i (.none,0)
def press(b:Bk)(s:WS)(i:Nat):WS:={deed (b.row s.mode i).1 s with mode:=(b.row s.mode i).2}
noncomputable def mx(i j:Int):Int:=if j > i then j else i
def WS.sec(s:WS):Int:=3600*s.ah+60*s.am
def m7(s:WS):RT Int:=if s.aon then some ((s.sec - s.clock - 1)%86400+1) else none
def uc(s:WS):RT Int:=if s.cr then some s.cl else none
def xo(s:WS)(n:Int):RT Int:=
 match m7 s,uc s with
 | some a,some c=>if a<=n then (if c<=n then some (mx (n - (n - a)%86400) c) else some (n - (n - a)%86400)) else (if c<=n then some c else none)
 | some a,none=>if a<=n then some (n - (n - a)%86400) else none
 | none,some c=>if c<=n then some c else none
 | none,none=>none
def A3(s:WS)(n:Int):Int:=
 match xo s n with
 | none=>mx 0 (s.ring - n)
 | some l=>mx 0 (10 - (n - l))
def C_(h:RT (wL×RT Int))(n:Int):RT (wL×RT Int):=
 match h with
 | some (x,some k)=>some (x,some (k+n))
 | h=>h
def xD(b:Bk)(s:WS):Int:=mx 1 (b.back - s.idle)
def yq(b:Bk)(s:WS)(n:Int):Int:=
 if s.held.isSome\/b.back=0 then s.idle else if n<xD b s then s.idle+n else (n - xD b s)%b.back
def yi(s:WS)(n:Int):Int:=if s.lr then s.lm+n else s.lm
def xG(s:WS)(n:Int):Int:=if s.cr then mx 0 (s.cl - n) else s.cl
def runsOn(s:WS)(n:Int):Bool:=s.cr&&decide (0<mx 0 (s.cl - n))
def counted(b:Bk)(s:WS)(n:Int):WS:=
 {s with clock:=(s.clock+n)%86400,lm:=yi s n,cl:=xG s n,cr:=runsOn s n,ring:=A3 s n,held:=C_ s.held n,idle:=yq b s n}
def xW(b:Bk)(s:WS):Bool:=decide (0<b.back)&&(!decide (s.mode=0)&&!(b.modes.getD s.mode default).stays)
def t6(b:Bk)(s:WS):RT Int:=
 match s.held with
 | none=>if xW b s then some (xD b s) else none
 | some (_,none)=>none
 | some (_,some k)=>some (mx 1 (b.hold - k))
def turned(b:Bk)(s:WS):WS:=
 match s.held with
 | none=>{s with mode:=0}
 | some (x,_)=>press b {s with held:=some (x,none)} (x.ix+3)
def behind(b:Bk)(s:WS)(t:Int):WS:=turned b (counted b s t)
def ticked(b:Bk)(s:WS)(n:Int):WS:=
 match t6 b s with
 | none=>counted b s n
 | some t=>if n<t then counted b s n else counted b (behind b s t) (n - t)
def pushed(s:WS)(x:wL):WS:=if s.held.isSome then s else {s with ring:=0,held:=some (x,if 0<s.ring then none else some 0),idle:=0}
def letGo(b:Bk)(s:WS)(x:wL):WS:=
 match s.held with
 | some (y,k)=>if y=x then { (if k.isSome then press b s x.ix else s) with held:=none,idle:=0} else s
 | none=>s
inductive Ev | down (x:wL) | up (x:wL) | ticks (n:Int)
 deriving DecidableEq
def Ev.d:Ev->D
 | .down x=>.tup [.str (oS "down"),.str x.x]
 | .up x=>.tup [.str (oS "up"),.str x.x]
 | .ticks n=>.tup [.str (oS "ticks"),.int n]
def gone(b:Bk)(s:WS):Ev->WS
 | .down x=>pushed s x
 | .up x=>letGo b s x
 | .ticks n=>ticked b s n
theorem Q7(i j:Int):i<=mx i j:=by unfold mx;split<;>omega
def D6(aon:Bool)(a:Int)(cr:Bool)(c r n:Int):Int:=
 if aon=true/\a<=n then (if cr=true/\c<=n then mx 0 (10 - (n - mx (n - (n - a)%86400) c)) else mx 0 (10 - (n - a)%86400)) else if cr=true/\c<=n then mx 0 (10 - (n - c)) else mx 0 (r - n)
theorem Hb(s:WS)(n:Int):A3 s n=D6 s.aon ((s.sec - s.clock - 1)%86400+1) s.cr s.cl s.ring n:=by
 unfold A3 xo m7 uc D6
 generalize (s.sec - s.clock - 1)%86400+1=a
 have e:∀x:Int,n - (n - x)=x:=fun x=>by omega
 cases s.aon<;>cases s.cr<;>by_cases h1:a<=n<;>by_cases h2:s.cl<=n<;>simp[h1,h2,e]
theorem GZ{b:Bk}{s:WS}(h:s.idle<b.back):xD b s=b.back - s.idle:=by unfold xD mx;split<;>omega
theorem Dh(x b:Int):(x - b)%b=x%b:=Int.sub_emod_right x b
theorem G8{b:Bk}{s:WS}{n:Int}(w:s.Wk b)(hn:0<=n):yq b s n=if s.held.isSome=true\/b.back=0 then s.idle else (s.idle+n)%b.back:=by
 unfold yq
 have h0:=w.idle0
 by_cases h:s.held.isSome=true\/b.back=0
 ·rw[R3 h,R3 h]
 ·have hb:0<b.back:=by
   have:¬ b.back=0:=fun z=>h (.inr z)
   have:=w.bk
   omega
  have h1:=w.idle1 hb
  rw[Sa h,Sa h,GZ h1]
  by_cases h2:n<b.back - s.idle
  ·rw[R3 h2,Int.emod_eq_of_lt (by omega) (by omega)]
  ·rw[Sa h2,show n - (b.back - s.idle)=s.idle+n - b.back by omega,Dh]
theorem y9(a:Int){b:Int}(h:0<b):a%b<b:=SR a h
theorem z9(a:Int){b:Int}(h:0<b):0<=a%b:=SQ a (by omega)
theorem JX(aon:Bool)(a:Int)(cr:Bool)(c r n:Int)(hr:r<=10)(hn:0<=n)(hc:cr=true->0<c)(ha:1<=a):0<=D6 aon a cr c r n/\D6 aon a cr c r n<=10:=by
 unfold D6
 split
 ·split
  ·unfold mx;split<;>(try split)<;>omega
  ·unfold mx;split<;>omega
 ·split
  ·unfold mx;split<;>omega
  ·unfold mx;split<;>omega
theorem WS.Wk.cnt{b:Bk}{s:WS}{n:Int}(w:s.Wk b)(hn:0<=n):(counted b s n).Wk b:=by
 have hr:=JX s.aon ((s.sec - s.clock - 1)%86400+1) s.cr s.cl s.ring n w.ring1 hn w.cr (by omega)
 rw[<- Hb] at hr
 have hl0:=w.lm0
 have hi:=G8 w hn
 have hcl0:=w.cl0
 have hcl1:=w.cl1
 exact {
  bk:=w.bk,mode:=w.mode,clock0:=z9 _ (by decide),clock1:=y9 _ (by decide),ah0:=w.ah0,ah1:=w.ah1,am0:=w.am0,am1:=w.am1
  lm0:=by show 0<=yi s n;unfold yi;split<;>omega
  lk:=w.lk,cm0:=w.cm0,cm1:=w.cm1,cs0:=w.cs0,cs1:=w.cs1
  cl0:=by show 0<=xG s n;unfold xG mx;split<;>(try split)<;>omega
  cl1:=by show xG s n<3600;unfold xG mx;split<;>(try split)<;>omega
  cr:=by
   show runsOn s n=true->0<xG s n
   intro h
   unfold runsOn at h
   unfold xG
   cases hc:s.cr
   ·rw[hc] at h;cases h
   ·rw[hc] at h;simp at h;simp;exact h
  ring0:=hr.1,ring1:=hr.2
  idle0:=by
   show 0<=yq b s n
   rw[hi]
   split
   ·exact w.idle0
   ·rename_i h
    have:¬ b.back=0:=fun z=>h (.inr z)
    exact SQ _ this
  idle1:=fun hb=>by
   show yq b s n<b.back
   rw[hi]
   split
   ·exact w.idle1 hb
   ·exact y9 _ hb
  idle2:=fun hb=>by
   show yq b s n=0
   rw[hi,R3 (.inr hb)]
   exact w.idle2 hb}
theorem sL{b:Bk}(ok:b.Ok){m i:Nat}(hm:m<b.modes.length)(hi:i<6):(b.row m i).2<b.modes.length:=by
 unfold Bk.row
 have e:b.modes.getD m default=b.modes[m]:=by simp[SJ,hm]
 rw[e]
 have o:=ok.all _ (List.getElem_mem hm)
 have hi':i<b.modes[m].rows.length:=by rw[o.six];exact hi
 have e2:b.modes[m].rows.getD i (.none,0)=b.modes[m].rows[i]:=by simp[SJ,hi']
 rw[e2]
 exact o.nx _ (List.getElem_mem hi')
theorem GW(d:yT)(s:WS):(deed d s).held=s.held:=by
 cases d<;>simp[deed,zB]<;>(repeat' split)<;>rfl
theorem WS.Wk.set{b:Bk}{s:WS}(w:s.Wk b){m c:Int}(m0:0<=m)(m1:m<60)(c0:0<=c)(c1:c<60):(zB s m c).Wk b:=by
 unfold zB
 split
 ·exact w
 ·exact {w with cm0:=m0,cm1:=m1,cs0:=c0,cs1:=c1,cl0:=(by show 0<=60*m+c;omega),cl1:=(by show 60*m+c<3600;omega),cr:=fun h=>by cases h}
theorem WS.Wk.dd{b:Bk}{s:WS}(w:s.Wk b)(d:yT):(deed d s).Wk b:=by
 have c0:=w.clock0;have c1:=w.clock1
 cases d with
 | none=>exact w
 | hour=>exact {w with clock0:=z9 _ (by decide),clock1:=y9 _ (by decide)}
 | minute=>exact {w with clock0:=(by show 0<=s.clock - s.clock%3600+(s.clock%3600+60)%3600;omega),clock1:=(by show s.clock - s.clock%3600+(s.clock%3600+60)%3600<86400;omega)}
 | zero=>exact {w with clock0:=(by show 0<=s.clock - s.clock%60;omega),clock1:=(by show s.clock - s.clock%60<86400;omega)}
 | ahour=>exact {w with ah0:=z9 _ (by decide),ah1:=y9 _ (by decide)}
 | aminute=>exact {w with am0:=z9 _ (by decide),am1:=y9 _ (by decide)}
 | alarm=>exact {w with}
 | run=>exact {w with}
 | lap =>
  show(if s.lr then (if 4<=s.lk.length then s else {s with lk:=s.lk++[s.lm]}) else {s with lm:=0,lk:=[]}:WS).Wk b
  split
  ·split
   ·exact w
   ·exact {w with lk:=(by show(s.lk++[s.lm]).length<=4;simp;omega)}
  ·exact {w with lm0:=Int.le_refl 0,lk:=SU _}
 | cminute=>exact w.set (z9 _ (by decide)) (y9 _ (by decide)) w.cs0 w.cs1
 | csecond=>exact w.set w.cm0 w.cm1 (z9 _ (by decide)) (y9 _ (by decide))
 | full=>exact w.set w.cm0 w.cm1 w.cs0 w.cs1
 | count =>
  have hc:(!s.cr&&decide (0<s.cl))=true->0<s.cl:=fun h=>by simp at h;exact h.2
  exact {w with cr:=hc}
theorem WS.Wk.prs{b:Bk}{s:WS}(ok:b.Ok)(w:s.Wk b){i:Nat}(hi:i<6):(press b s i).Wk b:=by
 have z:=w.dd (b.row s.mode i).1
 exact {z with mode:=sL ok w.mode hi}
theorem Be(b:Bk)(s:WS)(i:Nat):(press b s i).held=s.held:=GW _ _
theorem wL.ix3(x:wL):x.ix+3<6:=by cases x<;>decide
theorem wL.ix6(x:wL):x.ix<6:=by cases x<;>decide
theorem WS.Wk.trn{b:Bk}{s:WS}(ok:b.Ok)(w:s.Wk b):(turned b s).Wk b:=by
 unfold turned
 split
 ·exact {w with mode:=ok.some1}
 ·rename_i x k e
  exact WS.Wk.prs (s:={s with held:=some (x,none)}) ok {w with} x.ix3
theorem Em{b:Bk}{s:WS}:t6 b (turned b s)=none:=by
 unfold turned
 split
 ·rename_i e
  unfold t6
  simp[e,xW]
 ·rename_i x k e
  unfold t6
  rw[Be]
theorem xm{b:Bk}{s:WS}{t:Int}(h:t6 b s=some t):1<=t:=by
 unfold t6 at h
 split at h
 ·split at h
  ·cases h;exact Q7 _ _
  ·cases h
 ·cases h
 ·cases h;exact Q7 _ _
theorem WS.Ok.cnt{b:Bk}{s:WS}{n:Int}(w:s.Ok b)(hn:0<=n)(h:∀t,t6 b s=some t->n<t):(counted b s n).Ok b:=by
 refine {w.toWk.cnt hn with held:=fun x k e=>?_}
 have e':C_ s.held n=some (x,some k):=e
 rcases hs:s.held with _ | ⟨y,_ | j⟩
 ·rw[hs] at e';cases e'
 ·rw[hs] at e';cases e'
 ·rw[hs] at e'
  simp[C_] at e'
  obtain⟨rfl,rfl⟩:=e'
  have hj:=w.held y j hs
  have ht:=h (mx 1 (b.hold - j)) (by unfold t6;rw[hs])
  unfold mx at ht
  split at ht<;>omega
theorem GX{b:Bk}{s:WS}(ok:b.Ok)(w:s.Wk b):(turned b s).Ok b:=by
 refine {w.trn ok with held:=fun x k e=>?_}
 unfold turned at e
 split at e
 ·rename_i e2
  simp at e
  rw[e2] at e;cases e
 ·rw[Be] at e;cases e
theorem KH{b:Bk}{s:WS}{n:Int}(ok:b.Ok)(w:s.Ok b)(hn:0<=n):(ticked b s n).Ok b:=by
 unfold ticked
 split
 ·rename_i e
  exact w.cnt hn fun t ht=>by rw[e] at ht;cases ht
 ·rename_i t e
  have ht:=xm e
  split
  ·rename_i h
   exact w.cnt hn fun t' ht'=>by rw[e] at ht';cases ht';exact h
  ·rename_i h
   exact(GX ok (w.toWk.cnt (by omega))).cnt (by omega) fun t' ht'=>by rw[Em] at ht';cases ht'
theorem Kr{b:Bk}{s:WS}(ok:b.Ok)(w:s.Ok b)(x:wL):(pushed s x).Ok b:=by
 unfold pushed
 split
 ·exact w
 ·have hh:=ok.hold1
  refine {w with ring0:=Int.le_refl 0,ring1:=(by show(0:Int)<=10;decide),idle0:=Int.le_refl 0,idle1:=fun h=>h,idle2:=fun _=>rfl,held:=fun y k e=>?_}
  simp at e
  obtain⟨_,h2,h3⟩:=e
  subst h3
  omega
theorem LS{b:Bk}{s:WS}(ok:b.Ok)(w:s.Ok b)(x:wL):(letGo b s x).Ok b:=by
 unfold letGo
 split
 ·split
  ·have z:(if (by assumption:RT Int).isSome then press b s x.ix else s).Wk b:=by
    split
    ·exact w.toWk.prs ok x.ix6
    ·exact w.toWk
   exact {z with idle0:=Int.le_refl 0,idle1:=fun h=>h,idle2:=fun _=>rfl,held:=fun y k e=>by cases e}
  ·exact w
 ·exact w
def Ev.Ok:Ev->Prop
 | .ticks n=>1<=n
 | _=>True
theorem AK{b:Bk}{s:WS}(ok:b.Ok)(w:s.Ok b)(e:Ev)(h:e.Ok):(gone b s e).Ok b:=by
 cases e with
 | down x=>exact Kr ok w x
 | up x=>exact LS ok w x
 | ticks n=>exact KH ok w (by have:1<=n:=h;omega)
def i9:WS:=⟨0,0,0,0,false,0,false,[],0,0,0,false,0,none,0⟩
theorem zG{b:Bk}(ok:b.Ok):i9.Ok b where
 bk:=ok.back0
 mode:=ok.some1
 clock0:=by decide
 clock1:=by decide
 ah0:=by decide
 ah1:=by decide
 am0:=by decide
 am1:=by decide
 lm0:=by decide
 lk:=by decide
 cm0:=by decide
 cm1:=by decide
 cs0:=by decide
 cs1:=by decide
 cl0:=by decide
 cl1:=by decide
 cr:=by decide
 ring0:=by decide
 ring1:=by decide
 idle0:=by decide
 idle1:=fun h=>h
 idle2:=fun _=>rfl
 held:=fun x k e=>by cases e
def n9(b:Bk)(s:WS)(es:List Ev):WS:=es.foldl (gone b) s
theorem DZ{b:Bk}(ok:b.Ok):∀{es:List Ev} {s:WS},s.Ok b->(∀e∈es,e.Ok)->(n9 b s es).Ok b
 | [],_,w,_=>w
 | e::es,s,w,h=>DZ (es:=es) ok (AK ok w e (h e SY)) fun x hx=>h x (Su _ hx)
theorem GI(b:Bk)(s:WS)(es fs:List Ev):n9 b s (es++fs)=n9 b (n9 b s es) fs:=List.foldl_append
abbrev Pr:=wL×Bool
def Pr.x(p:Pr):Str:=if p.2 then p.1.X else p.1.x
def Pr.ix(p:Pr):Nat:=if p.2 then p.1.ix+3 else p.1.ix
def Pr.code(p:Pr):Nat:=(if p.2 then 65 else 97)+p.1.ix
section
open Builtin Builtin.Str
theorem N2{x:Str}{c a:Nat}:subAt x ⟨#[c]⟩ a=(x.cps[a]?==some c):=by
 have e:(⟨#[c]⟩:Str).length=1:=rfl
 unfold subAt
 rw[e]
 show(x.cps.extract a (a+1)==#[c])=_
 by_cases h:a<x.cps.size
 ·have:x.cps.extract a (a+1)=#[x.cps[a]]:=by
   apply Array.ext'
   simp[h,Tb]
  rw[this,S0 h,Bool.eq_iff_iff,Th,Th]
  constructor
  ·intro q
   have q':=congrArg Array.toList q
   simp at q'
   rw[q']
  ·intro q
   rw[Si q]
 ·have:x.cps.extract a (a+1)=#[]:=by
   apply Array.ext'
   simp
   omega
  rw[this,Array.getElem?_eq_none (by omega)]
  rfl
end
end HW
set_option maxRecDepth 10000
namespace HW
open PySem
noncomputable section
def top(i:Nat):So:=PySem.Challenge.pw_handwatch_k60_whole_watches.main.body.getD i (.Pass ⟨0,0,0,0⟩)
def EG:BX:=Om "law.<locals>.<lambda>" ["_law_watch"] [] (eA 0 (RJ (sT (sB 1 (sB 1 (sB 5 (top 96)))))))
def bT:D:=.int 0
def aW:D:=.int 1
def bf:D:=.int 2
def bY:D:=.int 3
def aO:D:=.int 4
def eO:D:=.int 5
def aV:D:=.int 6
def dz:D:=.int 7
def fG:D:=.int 4
def fB:D:=.int 10
def dI:D:=.int 86400
def eZ:D:=.int 1000000000000000000
def df:List Str:=[oS "a",oS "b",oS "c",oS "A",oS "B",oS "C"]
theorem JH{st:D->R->RT R}{body:R->RT Out}{d:D}{ds:LD}{ρ ρ1 ρ2:R}(h1:st d ρ=some ρ1)(h2:body ρ1=some (.nx ρ2)):AA st body (d::ds) ρ=AA st body ds ρ2:=by
 show(st d ρ).bind _=_
 rw[h1]
 show(body ρ1).bind _=_
 rw[h2];rfl
theorem C7{it:R->RT LD}{st:D->R->RT R}{body:R->RT Out}{ρ:R}{ds:LD}{o:Out}(h1:it ρ=some ds)(h2:AA st body ds ρ=some o):Cs it st body ρ=some o:=by simp[h1,h2]
theorem k8{f g:R->RT Out}{ρ ρ2:R}(h:f ρ=some (.nx ρ2)):l5 f g ρ=g ρ2:=by simp[h]
theorem zV{c:R->RT Bool}{f g:R->RT Out}{ρ:R}(h:c ρ=some true):y3 c f g ρ=f ρ:=by simp[h]
theorem yV{c:R->RT Bool}{f g:R->RT Out}{ρ:R}(h:c ρ=some false):y3 c f g ρ=g ρ:=by simp[h]
theorem v4{f g:R->RT Out}{ρ:R}{d:D}(h:f ρ=some (.rt d)):l5 f g ρ=some (.rt d):=by simp[h]
theorem l9{f:R->OD}{st:D->R->RT R}{ρ ρ':R}{d:D}(h:f ρ=some d)(h2:st d ρ=some ρ'):l3 f st ρ=some (.nx ρ'):=by simp[h,h2]
theorem i4{F:LD->OD}{g:R->RT LD}{ρ:R}{ds:LD}{d:D}(h:g ρ=some ds)(h2:F ds=some d):c8 F g ρ=some d:=by simp[h,h2]
theorem m8{f:R->OD}{g:R->RT LD}{ρ:R}{d:D}{ds:LD}(h:f ρ=some d)(h2:g ρ=some ds):c4 f g ρ=some (d::ds):=by simp[h,h2]
theorem i7{F:D->D->OD}{f g:R->OD}{ρ:R}{x y z:D}(h1:f ρ=some x)(h2:g ρ=some y)(h:F x y=some z):i3 F f g ρ=some z:=by simp only[i3,h1,h2,RZ,h]
theorem ug{F:D->D->RT Bool}{f g:R->OD}{ρ:R}{x y:D}{b:Bool}(h1:f ρ=some x)(h2:g ρ=some y)(h:F x y=some b):k7 F f g ρ=some b:=by simp only[k7,h1,h2,RZ,h]
theorem tupS{g:R->RT LD}{ρ:R}{ds:LD}(h:g ρ=some ds):l7 g ρ=some (.tup ds):=by simp[h]
theorem Gg{c:R->RT Bool}{ρ:R}{b:Bool}(h:c ρ=some b):CP c ρ=some (.bl b):=by simp[h]
theorem Dl{f:R->OD}{l h:R->RT (RT Int)}{ρ:R}{x d:D}{a b:RT Int}(h1:f ρ=some x)(h2:l ρ=some a)(h3:h ρ=some b)(h4:Pb x a b=some d):LQ f l h ρ=some d:=by simp only[LQ,h1,h2,h3,RZ,h4]
theorem NH{c d:R->RT Bool}{ρ:R}(h1:c ρ=some false)(h2:d ρ=some false):C9 c d ρ=some false:=by simp[h1,h2]
theorem Q0{c d:R->RT Bool}{ρ:R}(h1:c ρ=some false):AW c d ρ=some false:=by simp[h1]
theorem NL{c d:R->RT Bool}{ρ:R}{b:Bool}(h1:c ρ=some true)(h2:d ρ=some b):AW c d ρ=some b:=by simp[h1,h2]
theorem Lm{f g:R->OD}{ρ:R}{d:D}(h1:f ρ=some (.bl true))(h2:g ρ=some d):Bf f g ρ=some d:=by simp[h1,h2]
theorem Jr{c:R->RT Bool}{ρ:R}{b:Bool}(h:c ρ=some b):Fu c ρ=some (!b):=by simp[h]
theorem Ca{f:R->OD}{ρ:R}{b:Bool}(h:f ρ=some (.bl b)):wY f ρ=some b:=by simp[h]
theorem Fm{c:R->RT Bool}{f g:R->OD}{ρ:R}{d:D}(h:c ρ=some true)(h2:f ρ=some d):DD c f g ρ=some d:=by simp[h,h2]
theorem G9{c:R->RT Bool}{f g:R->OD}{ρ:R}{d:D}(h:c ρ=some false)(h2:g ρ=some d):DD c f g ρ=some d:=by simp[h,h2]
theorem Ql{c d:R->RT Bool}{ρ:R}(h1:c ρ=some true):C9 c d ρ=some true:=by simp[h1]
theorem ND{c d:R->RT Bool}{ρ:R}{b:Bool}(h1:c ρ=some false)(h2:d ρ=some b):C9 c d ρ=some b:=by simp[h1,h2]
theorem KM{g:R->RT LD}{ρ:R}{ds:LD}(h:g ρ=some ds):Ea g ρ=some (.lst ds):=by simp[h]
theorem B7{F:D->OD}{f:R->OD}{ρ:R}{x z:D}(h1:f ρ=some x)(h:F x=some z):w8 F f ρ=some z:=by simp only[w8,h1,RZ,h]
theorem k9{k n:Nat}{g:R->RT Out}{ds:LD}{d:D}(h:g (AO n ds)=some (.rt d))(hl:ds.length=k:=by rfl):via k n g ds=some d:=by unfold via;rw[R3 hl,h];rfl
theorem GF{f g:R->OD}{ρ:R}(h1:f ρ=some (.bl false)):Bf f g ρ=some (.bl false):=by simp[h1]
theorem retS{f:R->OD}{ρ:R}{d:D}(h:f ρ=some d):l4 f ρ=some (.rt d):=by simp[h]
theorem modS{i j:Int}(h:0<j):ui (.int i) (.int j)=some (.int (i%j)):=by simp[h]
theorem Ey{i j:Int}(h:uE i j=true):yc (.int i) (.int j)=some (.int (i*j)):=by
 show(if uE i j=true then _ else none)=_
 rw[R3 h]
theorem QY{i j q:Int}(h:0<j)(e:i%j=q):ui (.int i) (.int j)=some (.int q):=by rw[<- e];exact modS h
theorem RB{i:Int}(h:i=0):some (i==0)=some true:=by rw[h];rfl
theorem Rk{i:Int}(h:¬ i=0):some (i==0)=some false:=by rw[SD.mpr h]
theorem dT{p:Prop}[Decidable p](h:p):some (decide p)=some true:=by rw[S9 h]
theorem dF{p:Prop}[Decidable p](h:¬ p):some (decide p)=some false:=by rw[Sz h]
mutual
theorem EC:∀d:D,uC d=true->Ln d d=true
 | .non,_=>rfl
 | .bl b,_=>beq_self_eq_true b
 | .int i,_=>beq_self_eq_true i
 | .str x,_=>beq_self_eq_true x
 | .tup xs,h=>yK xs h
 | .lst xs,h=>yK xs h
 | .fro xs,h=>yK xs h
 | .obj ..,h=>by cases h
 | .rf ..,h=>by cases h
theorem yK:∀ds:LD,n5 ds=true->B8 ds ds=true
 | [],_=>rfl
 | d::ds,h=>by
  have h':(uC d&&n5 ds)=true:=h
  rw[R1] at h'
  show(Ln d d&&B8 ds ds)=true
  rw[EC d h'.1,yK ds h'.2];rfl
end
theorem Ah{d:D}(h:xq d<=100)(h2:t4 d=true):yn d d=some true:=by unfold yn;rw[R3 ⟨h,h2,h2⟩,EC _ (bS h2)]
theorem yM{d:D}(h:xq d<=100)(h2:t4 d=true):zj d d=some false:=by unfold zj;rw[Ah h h2];rfl
theorem FE(l:List Int):wa (l.map D.int)=0:=by induction l with | nil=>rfl | cons a l ih=>simp[wa,xq,ih]
theorem Fq(l:List Int):vv (l.map D.int)=true:=by induction l with | nil=>rfl | cons a l ih=>simp[vv,t4,ih]
theorem iS(x:wL):t4 (.str x.x)=true:=by rw[t4];cases x<;>decide +kernel
theorem qN(h:RT (wL×RT Int)):xq (xZ h)<=1:=by rcases h with _ | ⟨x,_ | k⟩<;>simp[xZ,uk,xq,wa]
theorem qm(h:RT (wL×RT Int)):t4 (xZ h)=true:=by
 rcases h with _ | ⟨x,_ | k⟩
 ·rfl
 ·simp[xZ,uk,t4,vv];have:=iS x;simp[t4] at this;exact this
 ·simp[xZ,uk,t4,vv];have:=iS x;simp[t4] at this;exact this
theorem qU(s:WS):xq s.d<=100:=by
 have h:=qN s.held
 simp[WS.d,WS.alarmD,WS.lapsD,WS.countD,xq,wa,FE]
 omega
theorem n_(s:WS):t4 s.d=true:=by
 have h:=qm s.held
 simp[WS.d,WS.alarmD,WS.lapsD,WS.countD,t4,vv,Fq,h]
theorem N9(s:WS):zj s.d s.d=some false:=yM (qU s) (n_ s)
theorem Pm(s:WS):yn s.d s.d=some true:=Ah (qU s) (n_ s)
theorem Rh:8<=sizeLine:=by decide
theorem w0(s:WS):i8 s.d (.int 0)=some (.int (s.mode:Int)):=rfl
theorem w1(s:WS):i8 s.d (.int 1)=some (.int s.clock):=rfl
theorem w2(s:WS):i8 s.d (.int 2)=some s.alarmD:=rfl
theorem w3(s:WS):i8 s.d (.int 3)=some s.lapsD:=rfl
theorem w4(s:WS):i8 s.d (.int 4)=some s.countD:=rfl
theorem w5(s:WS):i8 s.d (.int 5)=some (.int s.ring):=rfl
theorem w6(s:WS):i8 s.d (.int 6)=some (xZ s.held):=rfl
theorem w7(s:WS):i8 s.d (.int 7)=some (.int s.idle):=rfl
theorem NY(s:WS):i8 s.alarmD (.int 0)=some (.int s.ah):=rfl
theorem Pf(s:WS):i8 s.alarmD (.int 1)=some (.int s.am):=rfl
theorem O9(s:WS):i8 s.alarmD (.int 2)=some (.bl s.aon):=rfl
theorem NT(s:WS):i8 s.lapsD (.int 0)=some (.int s.lm):=rfl
theorem PY(s:WS):i8 s.lapsD (.int 1)=some (.bl s.lr):=rfl
theorem On(s:WS):i8 s.lapsD (.int 2)=some (.tup (s.lk.map .int)):=rfl
theorem N6(s:WS):i8 s.countD (.int 0)=some (.int s.cm):=rfl
theorem Ot(s:WS):i8 s.countD (.int 1)=some (.int s.cs):=rfl
theorem PJ(s:WS):i8 s.countD (.int 2)=some (.int s.cl):=rfl
theorem P8(s:WS):i8 s.countD (.int 3)=some (.bl s.cr):=rfl
theorem b0(b:Bk):i8 b.d (.int 0)=some (.int b.hold):=rfl
theorem b1(b:Bk):i8 b.d (.int 1)=some (.int b.back):=rfl
theorem b2(b:Bk):i8 b.d (.int 2)=some (.tup (b.modes.map Md.d)):=rfl
theorem m0(m:Md):i8 m.d (.int 0)=some (.str m.face.x):=rfl
theorem m1(m:Md):i8 m.d (.int 1)=some (.bl m.stays):=rfl
theorem m2(m:Md):i8 m.d (.int 2)=some (.tup (m.rows.map A0)):=rfl
theorem r0(r:yT×Nat):i8 (A0 r) (.int 0)=some (.str r.1.x):=rfl
theorem r1(r:yT×Nat):i8 (A0 r) (.int 1)=some (.int (r.2:Int)):=rfl
theorem h0(x:wL)(k:RT Int):i8 (xZ (some (x,k))) (.int 0)=some (.str x.x):=rfl
theorem h1(x:wL)(k:RT Int):i8 (xZ (some (x,k))) (.int 1)=some (uk k):=rfl
theorem DA{xs:LD}{i:Nat}(h:i<xs.length):H9 xs (i:Int)=some xs[i]:=by
 unfold H9 OA
 rw[R3 (by omega),R3 (by omega)]
 simp[h]
theorem k_(b:Bk){m:Nat}(h:m<b.modes.length):i8 (.tup (b.modes.map Md.d)) (.int (m:Int))=some (b.modes.getD m default).d:=by
 show H9 _ _=_
 rw[DA (by simpa using h)]
 simp[SJ,h]
theorem sM(m:Md){i:Nat}(h:i<m.rows.length):i8 (.tup (m.rows.map A0)) (.int (i:Int))=some (A0 (m.rows.getD i (.none,0))):=by
 show H9 _ _=_
 rw[DA (by simpa using h)]
 simp[SJ,h]
theorem qT(b:Bk){m:Nat}(h:m<b.modes.length):b.modes.getD m default∈b.modes:=by
 have e:b.modes.getD m default=b.modes[m]:=by simp[SJ,h]
 rw[e];exact List.getElem_mem h
theorem OI{i j:Int}(h1 : -(2 ^ 64)<i)(h2:i<2 ^ 64):yc (.int i) (.int j)=some (.int (i*j)):=by simp[vJ h1 h2]
theorem KU(j:Int):yc (.int 3600) (.int j)=some (.int (3600*j)):=OI (by decide) (by decide)
theorem LC(j:Int):yc (.int 60) (.int j)=some (.int (60*j)):=OI (by decide) (by decide)
theorem JL(k:RT Int):ww (uk k) .non=some k.isSome:=by cases k<;>rfl
theorem OU(i j:Int):EU [.int i,.int j]=some (.int (mx i j)):=rfl
def whole:D->Bool
 | .int _=>true
 | _=>false
def within(d:D)(l m:Int):Bool:=match d with
 | .int i=>decide (l<=i)&&decide (i<=m)
 | _=>false
def oneOf(d:D)(ws:LD):Bool:=match d with
 | .str x=>ws.any fun y=>PM y (.str x)
 | _=>false
def QX(d:D)(m:Int):Bool:=match d with
 | .tup xs=>(xs.length:Int)==m
 | _=>false
noncomputable def zS:LD:=[.str (oS "none"),.str (oS "hour"),.str (oS "minute"),.str (oS "zero"),.str (oS "ahour"),.str (oS "aminute"),.str (oS "alarm"),.str (oS "run"),.str (oS "lap"),.str (oS "cminute"),.str (oS "csecond"),.str (oS "full"),.str (oS "count")]
def AY:LD:=[.str (oS "time"),.str (oS "alarm"),.str (oS "laps"),.str (oS "count")]
def zM(d:D)(m:Int):Bool:=match d with
 | .tup [a,b]=>oneOf a zS&&within b 0 (m - 1)
 | _=>false
def Fy(d:D)(m:Int):Bool:=match d with
 | .tup xs=>xs.length==6&&xs.all fun x=>zM x m
 | _=>false
def zh(d:D)(m:Int):Bool:=match d with
 | .tup [a,b,c]=>oneOf a AY&&(LA b "bool" && Fy c m)
 | _=>false
def Dg(d:D):Bool:=match d with
 | .tup xs=>decide (1<=xs.length)&&(decide (xs.length<=8)&&xs.all fun x=>zh x xs.length)
 | _=>false
def Dt(d:D):Bool:=match d with
 | .tup [a,b,c]=>within a 1 9&&(within b 0 60&&Dg c)
 | _=>false
theorem within_int{d:D}{l h:Int}(e:within d l h=true):∃i:Int,d=.int i/\l<=i/\i<=h:=by
 cases d with
 | int i=>simp[within] at e;exact⟨i,rfl,e⟩
 | _=>cases e
theorem HK{d:D}(e:LA d "bool" = true):∃b,d=.bl b:=by
 cases d with
 | bl b=>exact⟨b,rfl⟩
 | _=>simp at e
theorem Ct{d:D}{ws:LD}(e:oneOf d ws=true):∃x,d=.str x/\(ws.any fun y=>PM y (.str x))=true:=by
 cases d with
 | str x=>exact⟨x,rfl,e⟩
 | _=>cases e
theorem KD{d:D}(e:oneOf d zS=true):∃k:yT,d=.str k.x:=by
 obtain⟨x,rfl,h⟩:=Ct e
 obtain⟨y,hy,h⟩:=List.any_eq_true.mp h
 have q:∀w:Str,PM (.str w) (.str x)=true->w=x:=fun w z=>Th.mp z
 simp only[zS,Sf,List.not_mem_nil,or_false] at hy
 rcases hy with rfl | rfl | rfl | rfl | rfl | rfl | rfl | rfl | rfl | rfl | rfl | rfl | rfl
 ·exact⟨.none,congrArg D.str (q _ h).symm⟩
 ·exact⟨.hour,congrArg D.str (q _ h).symm⟩
 ·exact⟨.minute,congrArg D.str (q _ h).symm⟩
 ·exact⟨.zero,congrArg D.str (q _ h).symm⟩
 ·exact⟨.ahour,congrArg D.str (q _ h).symm⟩
 ·exact⟨.aminute,congrArg D.str (q _ h).symm⟩
 ·exact⟨.alarm,congrArg D.str (q _ h).symm⟩
 ·exact⟨.run,congrArg D.str (q _ h).symm⟩
 ·exact⟨.lap,congrArg D.str (q _ h).symm⟩
 ·exact⟨.cminute,congrArg D.str (q _ h).symm⟩
 ·exact⟨.csecond,congrArg D.str (q _ h).symm⟩
 ·exact⟨.full,congrArg D.str (q _ h).symm⟩
 ·exact⟨.count,congrArg D.str (q _ h).symm⟩
theorem KA{d:D}(e:oneOf d AY=true):∃k:Face,d=.str k.x:=by
 obtain⟨x,rfl,h⟩:=Ct e
 obtain⟨y,hy,h⟩:=List.any_eq_true.mp h
 have q:∀w:Str,PM (.str w) (.str x)=true->w=x:=fun w z=>Th.mp z
 simp only[AY,Sf,List.not_mem_nil,or_false] at hy
 rcases hy with rfl | rfl | rfl | rfl
 ·exact⟨.time,congrArg D.str (q _ h).symm⟩
 ·exact⟨.alarm,congrArg D.str (q _ h).symm⟩
 ·exact⟨.laps,congrArg D.str (q _ h).symm⟩
 ·exact⟨.count,congrArg D.str (q _ h).symm⟩
theorem tM{d:D}{n:Nat}(e:zM d n=true):∃r:yT×Nat,d=A0 r/\r.2<n:=by
 unfold zM at e
 split at e
 ·rw[R1] at e
  obtain⟨k,rfl⟩:=KD e.1
  obtain⟨i,rfl,h0,h1⟩:=within_int e.2
  refine⟨(k,i.toNat),?_,?_⟩
  ·simp[A0,Int.toNat_of_nonneg h0]
  ·simp;omega
 ·cases e
theorem Ds{α:Type}{f:α->D}{P:α->Prop}{q:D->Bool}(h:∀d,q d=true->∃a,d=f a/\P a):∀{ds:LD},ds.all q=true->∃as:List α,ds=as.map f/\∀a∈as,P a
 | [],_=>⟨[],rfl,fun _ h=>by cases h⟩
 | d::ds,e=>by
  rw[SL,R1] at e
  obtain⟨a,rfl,ha⟩:=h d e.1
  obtain⟨as,rfl,hs⟩:=Ds h e.2
  exact⟨a::as,rfl,fun x hx=>by rcases Sf.mp hx with rfl | hx;exact ha;exact hs x hx⟩
theorem rG{d:D}{n:Nat}(e:zh d n=true):∃m:Md,d=m.d/\m.Ok n:=by
 unfold zh at e
 split at e
 ·rename_i a b c
  rw[R1,R1] at e
  obtain⟨f,rfl⟩:=KA e.1
  obtain⟨s,rfl⟩:=HK e.2.1
  have e2:=e.2.2
  cases c with
  | tup xs =>
   unfold Fy at e2
   simp only[R1] at e2
   obtain⟨rs,rfl,hr⟩:=Ds (f:=A0) (P:=fun r=>r.2<n) (fun d h=>tM h) e2.2
   refine⟨⟨f,s,rs⟩,rfl,?_,hr⟩
   have:=e2.1
   simpa using this
  | _=>cases e2
 ·cases e
theorem sr{d:D}(e:Dt d=true):∃b:Bk,d=b.d/\b.Ok:=by
 unfold Dt at e
 split at e
 ·rename_i a b c
  rw[R1,R1] at e
  obtain⟨i,rfl,i0,i1⟩:=within_int e.1
  obtain⟨j,rfl,j0,j1⟩:=within_int e.2.1
  have e2:=e.2.2
  cases c with
  | tup xs =>
   unfold Dg at e2
   simp only[R1] at e2
   obtain⟨h1,h2,h3⟩:=e2
   obtain⟨ms,hm,hok⟩:=Ds (f:=Md.d) (P:=fun m=>m.Ok xs.length) (fun d h=>rG h) h3
   have hl:xs.length=ms.length:=by rw[hm];simp
   refine⟨⟨i,j,ms⟩,by rw[hm];rfl,i0,i1,j0,j1,?_,?_,?_⟩
   ·have:=Tc h1;show 1<=ms.length;omega
   ·have:=Tc h2;show ms.length<=8;omega
   ·rw[hl] at hok;exact hok
  | _=>cases e2
 ·cases e
def ss:R->RT Out:=
  (l5 (l3 (l7 (c4 (kI 0) (c4 (kI 0) (c4 (fun _=>some (.bl false)) c7)))) (setAt 1))
  (l5 (l3 (l7 (c4 (kI 0) (c4 (fun _=>some (.bl false)) (c4 (l7 c7) c7)))) (setAt 2))
  (l5 (l3 (l7 (c4 (kI 0) (c4 (kI 0) (c4 (kI 0) (c4 (fun _=>some (.bl false)) c7))))) (setAt 3))
  (l4 (l7 (c4 (kI 0) (c4 (kI 0) (c4 (c5 1) (c4 (c5 2) (c4 (c5 3) (c4 (kI 0) (c4 (fun _=>some .non) (c4 (kI 0) c7)))))))))))))
def bX:LD->OD:=via 1 4 ss
theorem iL(b:D):bX [b]=some i9.d:=k9 ((k8 (l9 rfl rfl)).trans ((k8 (l9 rfl rfl)).trans ((k8 (l9 rfl rfl)).trans (retS rfl))))
def pI:R->RT Out:=
 (l4 (DD (wY (i3 i8 (c5 0) (kI 1))) (l7 (c4 (i3 m9 (i3 i8 (c5 0) (kI 0)) (c5 1)) (c4 (fun _=>some (.bl true)) (c4 (i3 i8 (c5 0) (kI 2)) c7)))) (c5 0)))
def dZ:LD->OD:=via 2 2 pI
theorem pG(s:WS)(n:Int):dZ [s.lapsD,.int n]=some (.tup [.int (yi s n),.bl s.lr,.tup (s.lk.map .int)]):=by
 have e:yi s n=if s.lr then s.lm+n else s.lm:=rfl
 rw[e]
 have t:wY (i3 i8 (c5 0) (kI 1)) [some s.lapsD,some (.int n)]=some s.lr:=Ca (i7 rfl rfl (PY s))
 cases hr:s.lr with
 | false =>
  rw[hr] at t
  have q:s.lapsD=.tup [.int s.lm,.bl false,.tup (s.lk.map .int)]:=by rw[<- hr];rfl
  exact(k9 (retS (G9 t rfl))).trans (congrArg some q)
 | true =>
  rw[hr] at t
  exact k9 (retS (Fm t (tupS (m8 (i7 (i7 rfl rfl (NT s)) rfl rfl) (m8 rfl (m8 (i7 rfl rfl (On s)) rfl))))))
def nA:R->RT Out:=
  (l5 (y3 (Fu (wY (i3 i8 (c5 0) (kI 3))))
  (l4 (c5 0))
  uu)
  (l5 (l3 (c8 EU (c4 (kI 0) (c4 (i3 w9 (i3 i8 (c5 0) (kI 2)) (c5 1)) c7))) (setAt 2))
  (l4 (l7 (c4 (i3 i8 (c5 0) (kI 0)) (c4 (i3 i8 (c5 0) (kI 1)) (c4 (c5 2) (c4 (CP (k7 EF (c5 2) (kI 0))) c7))))))))
def dB:LD->OD:=via 2 3 nA
theorem oi(s:WS)(n:Int):dB [s.countD,.int n]=some (.tup [.int s.cm,.int s.cs,.int (xG s n),.bl (runsOn s n)]):=by
 have e1:xG s n=if s.cr then mx 0 (s.cl - n) else s.cl:=rfl
 have e2:runsOn s n=(s.cr&&decide (0<mx 0 (s.cl - n))):=rfl
 rw[e1,e2]
 have t:wY (i3 i8 (c5 0) (kI 3)) [some s.countD,some (.int n),none]=some s.cr:=Ca (i7 rfl rfl (P8 s))
 cases hr:s.cr with
 | false =>
  rw[hr] at t
  have q:s.countD=.tup [.int s.cm,.int s.cs,.int s.cl,.bl false]:=by rw[<- hr];rfl
  exact(k9 (v4 ((zV (Jr (b:=false) t)).trans (retS rfl)))).trans (congrArg some q)
 | true =>
  rw[hr] at t
  exact k9 ((k8 ((yV (Jr (b:=true) t)).trans rfl)).trans ((k8 (l9 (i4 (m8 rfl (m8 (i7 (i7 rfl rfl (PJ s)) rfl rfl) rfl)) (OU _ _)) rfl)).trans (retS (tupS (m8 (i7 rfl rfl (N6 s)) (m8 (i7 rfl rfl (Ot s)) (m8 rfl (m8 (Gg (ug rfl rfl rfl)) rfl))))))))
def lA:R->RT Out:=
  (l5 (l3 (i3 i8 (c5 0) (fun _=>some bf)) (setAt 1))
  (l5 (y3 (Fu (wY (i3 i8 (c5 1) (kI 2))))
  (l4 (fun _=>some .non))
  uu)
  (l5 (l3 (i3 m9 (i3 yc (kI 3600) (i3 i8 (c5 1) (kI 0))) (i3 yc (kI 60) (i3 i8 (c5 1) (kI 1)))) (setAt 2))
  (l4 (i3 m9 (i3 ui (i3 w9 (i3 w9 (c5 2) (i3 i8 (c5 0) (fun _=>some aW))) (kI 1)) (fun _=>some dI)) (kI 1))))))
def aL:LD->OD:=via 1 3 lA
theorem eE(s:WS):aL [s.d]=some (uk (m7 s)):=by
 have e2:=O9 s
 unfold m7
 cases ha:s.aon<;>rw[ha] at e2
 ·exact k9 ((k8 (l9 (i7 rfl rfl (w2 s)) rfl)).trans (v4 ((zV (Jr (b:=false) (Ca (i7 rfl rfl e2)))).trans (retS rfl))))
 ·exact k9 ((k8 (l9 (i7 rfl rfl (w2 s)) rfl)).trans ((k8 (yV (Jr (b:=true) (Ca (i7 rfl rfl e2))))).trans ((k8 (l9 (i7 (i7 rfl (i7 rfl rfl (NY s)) (KU _)) (i7 rfl (i7 rfl rfl (Pf s)) (LC _)) rfl) rfl)).trans (retS (i7 (i7 (i7 (i7 rfl (i7 rfl rfl (w1 s)) rfl) rfl rfl) rfl (modS (by decide))) rfl rfl)))))
def lU:R->RT Out:=
  (l5 (l3 (i3 i8 (c5 0) (fun _=>some aO)) (setAt 1))
  (l4 (DD (wY (i3 i8 (c5 1) (kI 3))) (i3 i8 (c5 1) (kI 2)) (fun _=>some .non))))
def aN:LD->OD:=via 1 2 lU
theorem eM(s:WS):aN [s.d]=some (uk (uc s)):=by
 have e3:=P8 s
 unfold uc
 cases ha:s.cr<;>rw[ha] at e3
 ·exact k9 ((k8 (l9 (i7 rfl rfl (w4 s)) rfl)).trans (retS (G9 (Ca (i7 rfl rfl e3)) rfl)))
 ·exact k9 ((k8 (l9 (i7 rfl rfl (w4 s)) rfl)).trans (retS (Fm (Ca (i7 rfl rfl e3)) (i7 rfl rfl (PJ s)))))
def mm:R->RT Out:=
  (l5 (l3 (c8 aL (c4 (c5 0) c7)) (setAt 2))
  (l5 (l3 (c8 aN (c4 (c5 0) c7)) (setAt 3))
  (GN 4 c7
  (wB (Ju (AW (k7 ww (c5 2) (fun _=>some .non)) (k7 LI (c5 2) (c5 1)))
  (B9 4 (i3 w9 (c5 1) (i3 ui (i3 w9 (c5 1) (c5 2)) (fun _=>some dI))))
  Av)
  (wB (Ju (AW (k7 ww (c5 3) (fun _=>some .non)) (k7 LI (c5 3) (c5 1)))
  (B9 4 (c5 3))
  Av)
  (Ay (l4 (c8 D_ (c4 (c5 4) c7)))))))))
def cT:LD->OD:=via 2 5 mm
def Gp(n:Int)(o:RT Int):LD:=match o with
 | some a=>if a<=n then [.int (n - (n - a)%86400)] else []
 | none=>[]
def K_(n:Int)(o:RT Int):LD:=match o with
 | some c=>if c<=n then [.int c] else []
 | none=>[]
theorem Mn(s:WS)(n:Int):D_ [.lst (Gp n (m7 s)++K_ n (uc s))]=some (uk (xo s n)):=by
 unfold xo
 cases m7 s<;>cases uc s
 ·rfl
 ·rename_i c;by_cases h:c<=n<;>simp[Gp,K_,h,uk]
 ·rename_i a;by_cases h:a<=n<;>simp[Gp,K_,h,uk]
 ·rename_i a c;by_cases h:a<=n<;>by_cases h':c<=n<;>simp[Gp,K_,h,h',uk,mx]
theorem N7{p:R->LD->RT (Out×LD)}{q:R->LD->RT Out}{ρ ρ2:R}{ds ds2:LD}(h:p ρ ds=some (.nx ρ2,ds2)):wB p q ρ ds=q ρ2 ds2:=by simp[h]
theorem Kc{c:R->RT Bool}{p q:R->LD->RT (Out×LD)}{ρ:R}{ds:LD}(h:c ρ=some true):Ju c p q ρ ds=p ρ ds:=by simp[h]
theorem IW{c:R->RT Bool}{p q:R->LD->RT (Out×LD)}{ρ:R}{ds:LD}(h:c ρ=some false):Ju c p q ρ ds=q ρ ds:=by simp[h]
theorem mD(s:WS)(n:Int):cT [s.d,.int n]=some (uk (xo s n)):=by
 have e1:=eE s
 have e2:=eM s
 rw[<- Mn]
 generalize m7 s=a at *
 generalize uc s=c at *
 have z0:0<sizeLine:=by decide
 have z1:1<sizeLine:=by decide
 have q1:l3 (c8 aL (c4 (c5 0) c7)) (setAt 2) [some s.d,some (.int n),none,none,none]=some (.nx [some s.d,some (.int n),some (uk a),none,none]):=by
  show(aL [s.d]).bind _=_
  rw[e1];rfl
 have q2:l3 (c8 aN (c4 (c5 0) c7)) (setAt 3) [some s.d,some (.int n),some (uk a),none,none]=some (.nx [some s.d,some (.int n),some (uk a),some (uk c),none]):=by
  show(aN [s.d]).bind _=_
  rw[e2];rfl
 have q3:Ju (AW (k7 ww (c5 2) (fun _=>some .non)) (k7 LI (c5 2) (c5 1))) (B9 4 (i3 w9 (c5 1) (i3 ui (i3 w9 (c5 1) (c5 2)) (fun _=>some dI)))) Av [some s.d,some (.int n),some (uk a),some (uk c)] []=some (.nx [some s.d,some (.int n),some (uk a),some (uk c)],Gp n a):=by
  cases a with
  | none=>rfl
  | some a =>
   show _=some (Out.nx _,if a<=n then _ else _)
   by_cases h:a<=n
   ·rw[Kc (dT h),R3 h]
    show(if 4=4/\0<sizeLine then _ else none)=_
    rw[R3 ⟨rfl,z0⟩];rfl
   ·rw[IW (dF h),Sa h];rfl
 have hl:(Gp n a).length<=1:=by
  unfold Gp
  split
  ·split<;>simp
  ·simp
 have hl2:(Gp n a).length<sizeLine:=Tp hl z1
 have q4:Ju (AW (k7 ww (c5 3) (fun _=>some .non)) (k7 LI (c5 3) (c5 1))) (B9 4 (c5 3)) Av [some s.d,some (.int n),some (uk a),some (uk c)] (Gp n a)=some (.nx [some s.d,some (.int n),some (uk a),some (uk c)],Gp n a++K_ n c):=by
  cases c with
  | none=>show some _=_;rw[show K_ n none=[] from rfl,Sw]
  | some c =>
   show _=some (Out.nx _,Gp n a++if c<=n then _ else _)
   by_cases h:c<=n
   ·rw[Kc (dT h),R3 h]
    show(if 4=4/\(Gp n a).length<sizeLine then _ else none)=_
    rw[R3 ⟨rfl,hl2⟩];rfl
   ·rw[IW (dF h),Sa h,Sw];rfl
 show yr (l5 (l3 (c8 aL (c4 (c5 0) c7)) (setAt 2)) _ [some s.d,some (.int n),none,none,none])=_
 rw[k8 q1,k8 q2]
 show yr (wB (Ju (AW (k7 ww (c5 2) (fun _=>some .non)) (k7 LI (c5 2) (c5 1))) (B9 4 (i3 w9 (c5 1) (i3 ui (i3 w9 (c5 1) (c5 2)) (fun _=>some dI)))) Av) _ [some s.d,some (.int n),some (uk a),some (uk c)] [])=_
 rw[N7 q3,N7 q4]
 show yr ((D_ [.lst (Gp n a++K_ n c)]).map .rt)=_
 cases D_ [.lst (Gp n a++K_ n c)]<;>rfl
def pV:R->RT Out:=
  (l5 (l3 (c8 cT (c4 (c5 0) (c4 (c5 1) c7))) (setAt 2))
  (l5 (y3 (k7 zu (c5 2) (fun _=>some .non))
  (l4 (c8 EU (c4 (kI 0) (c4 (i3 w9 (i3 i8 (c5 0) (fun _=>some eO)) (c5 1)) c7))))
  uu)
  (l4 (c8 EU (c4 (kI 0) (c4 (i3 w9 (fun _=>some fB) (i3 w9 (c5 1) (c5 2))) c7))))))
def dU:LD->OD:=via 2 3 pV
theorem pN(s:WS)(n:Int):dU [s.d,.int n]=some (.int (A3 s n)):=by
 have e:=mD s n
 unfold A3
 cases h:xo s n with
 | none =>
  rw[h] at e
  exact k9 ((k8 (l9 (i4 rfl e) rfl)).trans (v4 ((zV (ug rfl rfl rfl)).trans (retS (i4 (m8 rfl (m8 (i7 (i7 rfl rfl (w5 s)) rfl rfl) rfl)) (OU _ _))))))
 | some l =>
  rw[h] at e
  exact k9 ((k8 (l9 (i4 rfl e) rfl)).trans ((k8 ((yV (ug rfl rfl rfl)).trans rfl)).trans (retS (i4 (m8 rfl (m8 (i7 rfl (i7 rfl rfl rfl) rfl) rfl)) (OU _ _)))))
def pT:R->RT Out:=
  (l5 (y3 (C9 (k7 zu (c5 0) (fun _=>some .non)) (k7 zu (i3 i8 (c5 0) (kI 1)) (fun _=>some .non)))
  (l4 (c5 0))
  uu)
  (l4 (l7 (c4 (i3 i8 (c5 0) (kI 0)) (c4 (i3 m9 (i3 i8 (c5 0) (kI 1)) (c5 1)) c7)))))
def dX:LD->OD:=via 2 2 pT
theorem pD(h:RT (wL×RT Int))(n:Int):dX [xZ h,.int n]=some (xZ (C_ h n)):=by
 rcases h with _ | ⟨x,_ | k⟩
 ·exact k9 (v4 ((zV (Ql (ug rfl rfl rfl))).trans (retS rfl)))
 ·exact k9 (v4 ((zV (ND (ug rfl rfl rfl) (ug (i7 rfl rfl rfl) rfl rfl))).trans (retS rfl)))
 ·exact k9 ((k8 ((yV (ND (ug rfl rfl rfl) (ug (i7 rfl rfl rfl) rfl rfl))).trans rfl)).trans (retS (tupS (m8 (i7 rfl rfl rfl) (m8 (i7 (i7 rfl rfl rfl) rfl rfl) rfl)))))
def iK:R->RT Out:=
 (l4 (c8 EU (c4 (kI 1) (c4 (i3 w9 (i3 i8 (c5 0) (kI 1)) (i3 i8 (c5 1) (fun _=>some dz))) c7))))
def a_:LD->OD:=via 2 2 iK
theorem fj(b:Bk)(s:WS):a_ [b.d,s.d]=some (.int (xD b s)):=k9 (retS (i4 (m8 rfl (m8 (i7 (i7 rfl rfl (b1 b)) (i7 rfl rfl (w7 s)) rfl) rfl)) (OU _ _)))
def pK:R->RT Out:=
  (l5 (y3 (C9 (k7 ww (i3 i8 (c5 1) (fun _=>some aV)) (fun _=>some .non)) (k7 vY (i3 i8 (c5 0) (kI 1)) (kI 0)))
  (l4 (i3 i8 (c5 1) (fun _=>some dz)))
  uu)
  (l5 (l3 (c8 a_ (c4 (c5 0) (c4 (c5 1) c7))) (setAt 3))
  (l4 (DD (k7 Ow (c5 2) (c5 3)) (i3 m9 (i3 i8 (c5 1) (fun _=>some dz)) (c5 2)) (i3 ui (i3 w9 (c5 2) (c5 3)) (i3 i8 (c5 0) (kI 1)))))))
def dW:LD->OD:=via 3 4 pK
theorem pq{b:Bk}{s:WS}(n:Int)(hb:0<=b.back):dW [b.d,s.d,.int n]=some (.int (yq b s n)):=by
 have e:=fj b s
 have e6:=w6 s
 have e7:=w7 s
 unfold yq
 cases hh:s.held with
 | some v =>
  rw[hh] at e6
  rw[R3 (.inl rfl)]
  exact k9 (v4 ((zV (Ql (ug (i7 rfl rfl e6) rfl rfl))).trans (retS (i7 rfl rfl e7))))
 | none =>
  rw[hh] at e6
  by_cases h0:b.back=0
  ·rw[R3 (.inr h0)]
   exact k9 (v4 ((zV (ND (ug (i7 rfl rfl e6) rfl rfl) (ug (i7 rfl rfl (b1 b)) rfl (RB h0)))).trans (retS (i7 rfl rfl e7))))
  ·have hp:0<b.back:=by omega
   have q1:y3 (C9 (k7 ww (i3 i8 (c5 1) (fun _=>some aV)) (fun _=>some .non)) (k7 vY (i3 i8 (c5 0) (kI 1)) (kI 0))) (l4 (i3 i8 (c5 1) (fun _=>some dz))) uu [some b.d,some s.d,some (.int n),none]=some (.nx [some b.d,some s.d,some (.int n),none]):=
    yV (ND (ug (i7 rfl rfl e6) rfl rfl) (ug (i7 rfl rfl (b1 b)) rfl (Rk h0)))
   rw[Sa (by rintro(z | z);cases z;exact h0 z)]
   by_cases h1:n<xD b s
   ·rw[R3 h1]
    exact k9 ((k8 q1).trans ((k8 (l9 (i4 rfl e) rfl)).trans (retS (Fm (ug (x:=.int n) (y:=.int (xD b s)) rfl rfl (dT h1)) (i7 (i7 rfl rfl e7) rfl rfl)))))
   ·rw[Sa h1]
    exact k9 ((k8 q1).trans ((k8 (l9 (i4 rfl e) rfl)).trans (retS (G9 (ug (x:=.int n) (y:=.int (xD b s)) rfl rfl (dF h1)) (i7 rfl (i7 rfl rfl (b1 b)) (modS hp))))))
def pB:R->RT Out:=
 (l4 (l7 (c4 (i3 i8 (c5 1) (fun _=>some bT)) (c4 (i3 ui (i3 m9 (i3 i8 (c5 1) (fun _=>some aW)) (c5 2)) (fun _=>some dI)) (c4 (i3 i8 (c5 1) (fun _=>some bf)) (c4 (c8 dZ (c4 (i3 i8 (c5 1) (fun _=>some bY)) (c4 (c5 2) c7))) (c4 (c8 dB (c4 (i3 i8 (c5 1) (fun _=>some aO)) (c4 (c5 2) c7))) (c4 (c8 dU (c4 (c5 1) (c4 (c5 2) c7))) (c4 (c8 dX (c4 (i3 i8 (c5 1) (fun _=>some aV)) (c4 (c5 2) c7))) (c4 (c8 dW (c4 (c5 0) (c4 (c5 1) (c4 (c5 2) c7)))) c7))))))))))
def cF:LD->OD:=via 3 3 pB
theorem ie{b:Bk}{s:WS}(n:Int)(hb:0<=b.back):cF [b.d,s.d,.int n]=some (counted b s n).d:=
 k9 (retS (tupS (m8 (i7 rfl rfl (w0 s)) (m8 (i7 (i7 (i7 rfl rfl (w1 s)) rfl rfl) rfl rfl) (m8 (i7 rfl rfl (w2 s)) (m8 (i4 (m8 (i7 rfl rfl (w3 s)) rfl) (pG s n)) (m8 (i4 (m8 (i7 rfl rfl (w4 s)) rfl) (oi s n)) (m8 (i4 rfl (pN s n)) (m8 (i4 (m8 (i7 rfl rfl (w6 s)) rfl) (pD s.held n)) (m8 (i4 rfl (pq n hb)) rfl))))))))))
def mh:R->RT Out:=
 (l4 (Bf (CP (k7 EF (i3 i8 (c5 0) (kI 1)) (kI 0))) (Bf (CP (k7 NC (i3 i8 (c5 1) (fun _=>some bT)) (kI 0))) (E_ (i3 i8 (i3 i8 (i3 i8 (c5 0) (kI 2)) (i3 i8 (c5 1) (fun _=>some bT))) (kI 1))))))
def cO:LD->OD:=via 2 2 mh
theorem mY{b:Bk}{s:WS}(w:s.Wk b):cO [b.d,s.d]=some (.bl (xW b s)):=by
 have hm:=k_ b w.mode
 unfold xW
 have c1:CP (k7 EF (i3 i8 (c5 0) (kI 1)) (kI 0)) [some b.d,some s.d]=some (.bl (decide (0<b.back))):=Gg (ug (i7 rfl rfl (b1 b)) rfl rfl)
 have e2:NC (.int (s.mode:Int)) (.int 0)=some (!decide (s.mode=0)):=by
  show some (!((s.mode:Int)==0))=_
  cases s.mode<;>rfl
 have c2:CP (k7 NC (i3 i8 (c5 1) (fun _=>some bT)) (kI 0)) [some b.d,some s.d]=some (.bl (!decide (s.mode=0))):=Gg (ug (i7 rfl rfl (w0 s)) rfl e2)
 generalize b.modes.getD s.mode default=md at *
 have c3:E_ (i3 i8 (i3 i8 (i3 i8 (c5 0) (kI 2)) (i3 i8 (c5 1) (fun _=>some bT))) (kI 1)) [some b.d,some s.d]=some (.bl !md.stays):=by
  show(i3 i8 _ _ _).bind _=_
  rw[i7 (i7 (i7 rfl rfl (b2 b)) (i7 rfl rfl (w0 s)) hm) rfl (m1 md)];rfl
 generalize decide (0<b.back)=p at *
 generalize (!decide (s.mode=0))=q at *
 cases p
 ·exact k9 (retS (GF c1))
 ·cases q
  ·exact k9 (retS (Lm c1 (GF c2)))
  ·exact k9 (retS (Lm c1 (Lm c2 c3)))
def iB:R->RT Out:=
 (l4 (c8 EU (c4 (kI 1) (c4 (i3 w9 (i3 i8 (c5 0) (kI 0)) (i3 i8 (i3 i8 (c5 1) (fun _=>some aV)) (kI 1))) c7))))
def bD:LD->OD:=via 2 2 iB
theorem iD{b:Bk}{s:WS}{x:wL}{k:Int}(h:s.held=some (x,some k)):bD [b.d,s.d]=some (.int (mx 1 (b.hold - k))):=by
 have e6:=w6 s
 rw[h] at e6
 exact k9 (retS (i4 (m8 rfl (m8 (i7 (i7 rfl rfl (b0 b)) (i7 (i7 rfl rfl e6) rfl (h1 x (some k))) rfl) rfl)) (OU _ _)))
def mW:R->RT Out:=
  (l5 (l3 (i3 i8 (c5 1) (fun _=>some aV)) (setAt 2))
  (l5 (y3 (k7 zu (c5 2) (fun _=>some .non))
  (l4 (DD (wY (c8 cO (c4 (c5 0) (c4 (c5 1) c7)))) (c8 a_ (c4 (c5 0) (c4 (c5 1) c7))) (fun _=>some .non)))
  uu)
  (l4 (DD (k7 zu (i3 i8 (c5 2) (kI 1)) (fun _=>some .non)) (fun _=>some .non) (c8 bD (c4 (c5 0) (c4 (c5 1) c7)))))))
def bK:LD->OD:=via 2 3 mW
theorem iz{b:Bk}{s:WS}(w:s.Wk b):bK [b.d,s.d]=some (uk (t6 b s)):=by
 have e1:=mY w
 have e2:=fj b s
 have e6:=w6 s
 unfold t6
 rcases hs:s.held with _ | ⟨x,_ | k⟩<;>rw[hs] at e6
 ·cases hg:xW b s<;>rw[hg] at e1
  ·exact k9 ((k8 (l9 (i7 rfl rfl e6) rfl)).trans (v4 ((zV rfl).trans (retS (G9 (Ca (i4 rfl e1)) rfl)))))
  ·exact k9 ((k8 (l9 (i7 rfl rfl e6) rfl)).trans (v4 ((zV rfl).trans (retS (Fm (Ca (i4 rfl e1)) (i4 rfl e2))))))
 ·exact k9 ((k8 (l9 (i7 rfl rfl e6) rfl)).trans ((k8 (yV rfl)).trans (retS (Fm rfl rfl))))
 ·have e3:=iD (b:=b) hs
  exact k9 ((k8 (l9 (i7 rfl rfl e6) rfl)).trans ((k8 (yV rfl)).trans (retS (G9 rfl (i4 rfl e3)))))
def tP:R->RT Out:=
 (l4 (i3 m9 (i3 m9 (LQ (c5 0) Pe (aP (c5 1))) (l7 (c4 (c5 2) c7))) (LQ (c5 0) (aP (i3 m9 (c5 1) (kI 1))) Pe)))
def aG:LD->OD:=via 3 3 tP
section
variable(a b c d e f g i x:D)
theorem yd{xs ys:LD}(h:xs.length+ys.length<=8):m9 (.tup xs) (.tup ys)=some (.tup (xs++ys)):=by
 show(if xs.length+ys.length<=sizeLine then _ else none)=_
 rw[R3 (Sx h Rh)]
theorem Qr:aG [.tup [a,b,c,d,e,f,g,i],.int 0,x]=some (.tup [x,b,c,d,e,f,g,i]):=k9 (retS (i7 (i7 (Dl rfl rfl rfl rfl) (tupS (m8 rfl rfl)) (yd (show 1<=8 by decide))) (Dl rfl rfl rfl rfl) (yd (show 8<=8 by decide))))
theorem QC:aG [.tup [a,b,c,d,e,f,g,i],.int 1,x]=some (.tup [a,x,c,d,e,f,g,i]):=k9 (retS (i7 (i7 (Dl rfl rfl rfl rfl) (tupS (m8 rfl rfl)) (yd (show 2<=8 by decide))) (Dl rfl rfl rfl rfl) (yd (show 8<=8 by decide))))
theorem put2:aG [.tup [a,b,c,d,e,f,g,i],.int 2,x]=some (.tup [a,b,x,d,e,f,g,i]):=k9 (retS (i7 (i7 (Dl rfl rfl rfl rfl) (tupS (m8 rfl rfl)) (yd (show 3<=8 by decide))) (Dl rfl rfl rfl rfl) (yd (show 8<=8 by decide))))
theorem put3:aG [.tup [a,b,c,d,e,f,g,i],.int 3,x]=some (.tup [a,b,c,x,e,f,g,i]):=k9 (retS (i7 (i7 (Dl rfl rfl rfl rfl) (tupS (m8 rfl rfl)) (yd (show 4<=8 by decide))) (Dl rfl rfl rfl rfl) (yd (show 8<=8 by decide))))
theorem P6:aG [.tup [a,b,c,d,e,f,g,i],.int 4,x]=some (.tup [a,b,c,d,x,f,g,i]):=k9 (retS (i7 (i7 (Dl rfl rfl rfl rfl) (tupS (m8 rfl rfl)) (yd (show 5<=8 by decide))) (Dl rfl rfl rfl rfl) (yd (show 8<=8 by decide))))
theorem QB:aG [.tup [a,b,c,d,e,f,g,i],.int 5,x]=some (.tup [a,b,c,d,e,x,g,i]):=k9 (retS (i7 (i7 (Dl rfl rfl rfl rfl) (tupS (m8 rfl rfl)) (yd (show 6<=8 by decide))) (Dl rfl rfl rfl rfl) (yd (show 8<=8 by decide))))
theorem Na:aG [.tup [a,b,c,d,e,f,g,i],.int 6,x]=some (.tup [a,b,c,d,e,f,x,i]):=k9 (retS (i7 (i7 (Dl rfl rfl rfl rfl) (tupS (m8 rfl rfl)) (yd (show 7<=8 by decide))) (Dl rfl rfl rfl rfl) (yd (show 8<=8 by decide))))
theorem Qy:aG [.tup [a,b,c,d,e,f,g,i],.int 7,x]=some (.tup [a,b,c,d,e,f,g,x]):=k9 (retS (i7 (i7 (Dl rfl rfl rfl rfl) (tupS (m8 rfl rfl)) (yd (show 8<=8 by decide))) (Dl rfl rfl rfl rfl) (yd (show 8<=8 by decide))))
end
theorem Ra(s:WS)(m:Nat):aG [s.d,.int 0,.int (m:Int)]=some {s with mode:=m}.d:=Qr ..
theorem Qb(s:WS)(c:Int):aG [s.d,.int 1,.int c]=some {s with clock:=c}.d:=QC ..
theorem PX(s:WS)(h m:Int)(o:Bool):aG [s.d,.int 2,.tup [.int h,.int m,.bl o]]=some {s with ah:=h,am:=m,aon:=o}.d:=put2 ..
theorem P0(s:WS)(m:Int)(r:Bool)(k:List Int):aG [s.d,.int 3,.tup [.int m,.bl r,.tup (k.map .int)]]=some {s with lm:=m,lr:=r,lk:=k}.d:=put3 ..
theorem QV(s:WS)(m c l:Int)(r:Bool):aG [s.d,.int 4,.tup [.int m,.int c,.int l,.bl r]]=some {s with cm:=m,cs:=c,cl:=l,cr:=r}.d:=P6 ..
theorem Q5(s:WS)(r:Int):aG [s.d,.int 5,.int r]=some {s with ring:=r}.d:=QB ..
theorem Og(s:WS):aG [s.d,.int 6,.non]=some {s with held:=none}.d:=Na ..
theorem OL(s:WS)(x:wL)(k:RT Int):aG [s.d,.int 6,.tup [.str x.x,uk k]]=some {s with held:=some (x,k)}.d:=Na ..
theorem QG(s:WS)(x:wL):aG [s.d,.int 6,.tup [.str x.x,.non]]=some {s with held:=some (x,none)}.d:=Na ..
theorem Pz(s:WS)(i:Int):aG [s.d,.int 7,.int i]=some {s with idle:=i}.d:=Qy ..
def kz:R->RT Out:=
 (l4 (c5 0))
def db:LD->OD:=via 1 1 kz
theorem pL(s:WS):db [s.d]=some (deed .none s).d:=by simp[db,via,kz,deed]
def ko:R->RT Out:=
 (l4 (c8 aG (c4 (c5 0) (c4 (fun _=>some aW) (c4 (i3 ui (i3 m9 (i3 i8 (c5 0) (fun _=>some aW)) (kI 3600)) (kI 86400)) c7)))))
def dg:LD->OD:=via 1 1 ko
theorem pW(s:WS):dg [s.d]=some (deed .hour s).d:=by simp[-i8,dg,via,ko,aW,w1,Qb,deed]
def iv:R->RT Out:=
  (l5 (l3 (i3 i8 (c5 0) (fun _=>some aW)) (setAt 1))
  (l5 (l3 (i3 ui (i3 m9 (i3 ui (c5 1) (kI 3600)) (kI 60)) (kI 3600)) (setAt 2))
  (l4 (c8 aG (c4 (c5 0) (c4 (fun _=>some aW) (c4 (i3 m9 (i3 w9 (c5 1) (i3 ui (c5 1) (kI 3600))) (c5 2)) c7)))))))
def cb:LD->OD:=via 1 3 iv
theorem lX(s:WS):cb [s.d]=some (deed .minute s).d:=by simp[-i8,cb,via,iv,aW,w1,Qb,deed]
def ky:R->RT Out:=
 (l4 (c8 aG (c4 (c5 0) (c4 (fun _=>some aW) (c4 (i3 w9 (i3 i8 (c5 0) (fun _=>some aW)) (i3 ui (i3 i8 (c5 0) (fun _=>some aW)) (kI 60))) c7)))))
def de:LD->OD:=via 1 1 ky
theorem o_(s:WS):de [s.d]=some (deed .zero s).d:=by simp[-i8,de,via,ky,aW,w1,Qb,deed]
def fq:R->RT Out:=
  (l5 (l3 (i3 i8 (c5 0) (fun _=>some bf)) (setAt 1))
  (l4 (c8 aG (c4 (c5 0) (c4 (fun _=>some bf) (c4 (l7 (c4 (i3 ui (i3 m9 (i3 i8 (c5 1) (kI 0)) (kI 1)) (kI 24)) (c4 (i3 i8 (c5 1) (kI 1)) (c4 (i3 i8 (c5 1) (kI 2)) c7)))) c7))))))
def bj:LD->OD:=via 1 2 fq
theorem iG(s:WS):bj [s.d]=some (deed .ahour s).d:=by simp[-i8,bj,via,fq,bf,w2,NY,Pf,O9,PX,deed]
def dH:R->RT Out:=
  (l5 (l3 (i3 i8 (c5 0) (fun _=>some bf)) (setAt 1))
  (l4 (c8 aG (c4 (c5 0) (c4 (fun _=>some bf) (c4 (l7 (c4 (i3 i8 (c5 1) (kI 0)) (c4 (i3 ui (i3 m9 (i3 i8 (c5 1) (kI 1)) (kI 1)) (kI 60)) (c4 (i3 i8 (c5 1) (kI 2)) c7)))) c7))))))
def aY:LD->OD:=via 1 2 dH
theorem gG(s:WS):aY [s.d]=some (deed .aminute s).d:=by simp[-i8,aY,via,dH,bf,w2,NY,Pf,O9,PX,deed]
def fQ:R->RT Out:=
  (l5 (l3 (i3 i8 (c5 0) (fun _=>some bf)) (setAt 1))
  (l4 (c8 aG (c4 (c5 0) (c4 (fun _=>some bf) (c4 (l7 (c4 (i3 i8 (c5 1) (kI 0)) (c4 (i3 i8 (c5 1) (kI 1)) (c4 (E_ (i3 i8 (c5 1) (kI 2))) c7)))) c7))))))
def bx:LD->OD:=via 1 2 fQ
theorem jr(s:WS):bx [s.d]=some (deed .alarm s).d:=by simp[-i8,bx,via,fQ,bf,w2,NY,Pf,O9,PX,deed]
def gc:R->RT Out:=
  (l5 (l3 (i3 i8 (c5 0) (fun _=>some bY)) (setAt 1))
  (l4 (c8 aG (c4 (c5 0) (c4 (fun _=>some bY) (c4 (l7 (c4 (i3 i8 (c5 1) (kI 0)) (c4 (E_ (i3 i8 (c5 1) (kI 1))) (c4 (i3 i8 (c5 1) (kI 2)) c7)))) c7))))))
def bF:LD->OD:=via 1 2 gc
theorem ka(s:WS):bF [s.d]=some (deed .run s).d:=by simp[-i8,bF,via,gc,bY,w3,NT,PY,On,P0,deed]
def nZ:R->RT Out:=
  (l5 (l3 (i3 i8 (c5 0) (fun _=>some bY)) (setAt 1))
  (l5 (y3 (Fu (wY (i3 i8 (c5 1) (kI 1))))
  (l4 (c8 aG (c4 (c5 0) (c4 (fun _=>some bY) (c4 (l7 (c4 (kI 0) (c4 (fun _=>some (.bl false)) (c4 (l7 c7) c7)))) c7)))))
  uu)
  (l5 (y3 (k7 Nv (c8 xi (c4 (i3 i8 (c5 1) (kI 2)) c7)) (fun _=>some fG))
  (l4 (c5 0))
  uu)
  (l4 (c8 aG (c4 (c5 0) (c4 (fun _=>some bY) (c4 (l7 (c4 (i3 i8 (c5 1) (kI 0)) (c4 (fun _=>some (.bl true)) (c4 (i3 m9 (i3 i8 (c5 1) (kI 2)) (l7 (c4 (i3 i8 (c5 1) (kI 0)) c7))) c7)))) c7))))))))
def dm:LD->OD:=via 1 2 nZ
theorem og(s:WS)(h:s.lk.length<=4):dm [s.d]=some (deed .lap s).d:=by
 have t:wY (i3 i8 (c5 1) (kI 1)) [some s.d,some s.lapsD]=some s.lr:=Ca (i7 rfl rfl (PY s))
 have hl:xi [.tup (s.lk.map .int)]=some (.int s.lk.length):=by show some (D.int ((s.lk.map D.int).length:Int))=_;rw[R7]
 have hlen:c8 xi (c4 (i3 i8 (c5 1) (kI 2)) c7) [some s.d,some s.lapsD]=some (.int s.lk.length):=i4 (m8 (i7 rfl rfl (On s)) rfl) hl
 have a1:l3 (i3 i8 (c5 0) (fun _=>some bY)) (setAt 1) [some s.d,none]=some (.nx [some s.d,some s.lapsD]):=l9 (i7 rfl rfl (w3 s)) rfl
 cases hr:s.lr with
 | false =>
  have e:deed .lap s={s with lm:=0,lr:=false,lk:=[]}:=by
   show(if s.lr then _ else {s with lm:=0,lk:=[]})=_
   rw[Sa (by rw[hr];decide),<- hr]
  rw[hr] at t
  rw[e]
  exact k9 ((k8 a1).trans (v4 ((zV (Jr (b:=false) t)).trans (retS (i4 (m8 rfl (m8 rfl (m8 (tupS (m8 rfl (m8 rfl (m8 (tupS rfl) rfl)))) rfl))) (P0 s 0 false []))))))
 | true =>
  rw[hr] at t
  have n1:y3 (Fu (wY (i3 i8 (c5 1) (kI 1)))) (l4 (c8 aG (c4 (c5 0) (c4 (fun _=>some bY) (c4 (l7 (c4 (kI 0) (c4 (fun _=>some (.bl false)) (c4 (l7 c7) c7)))) c7))))) uu [some s.d,some s.lapsD]=some (.nx [some s.d,some s.lapsD]):=(yV (Jr (b:=true) t)).trans rfl
  by_cases h4:4<=s.lk.length
  ·have e:deed .lap s=s:=by
    show(if s.lr then (if 4<=s.lk.length then s else _) else _)=_
    rw[R3 hr,R3 h4]
   rw[e]
   exact k9 ((k8 a1).trans ((k8 n1).trans (v4 ((zV (ug hlen rfl (dT (Int.ofNat_le.mpr h4)))).trans (retS rfl)))))
  ·have e:deed .lap s={s with lm:=s.lm,lr:=true,lk:=s.lk++[s.lm]}:=by
    show(if s.lr then (if 4<=s.lk.length then s else {s with lk:=s.lk++[s.lm]}) else _)=_
    rw[R3 hr,Sa h4,<- hr]
   have ha:m9 (.tup (s.lk.map .int)) (.tup [.int s.lm])=some (.tup ((s.lk++[s.lm]).map .int)):=by
    rw[Ta]
    exact yd (by rw[R7];show s.lk.length+1<=8;omega)
   rw[e]
   exact k9 ((k8 a1).trans ((k8 n1).trans ((k8 ((yV (ug hlen rfl (dF fun q=>h4 (Int.ofNat_le.mp q)))).trans rfl)).trans (retS (i4 (m8 rfl (m8 rfl (m8 (tupS (m8 (i7 rfl rfl (NT s)) (m8 rfl (m8 (i7 (i7 rfl rfl (On s)) (tupS (m8 (i7 rfl rfl (NT s)) rfl)) ha) rfl)))) rfl))) (P0 s s.lm true (s.lk++[s.lm])))))))
def mj:R->RT Out:=
  (l5 (y3 (wY (i3 i8 (i3 i8 (c5 0) (fun _=>some aO)) (kI 3)))
  (l4 (c5 0))
  uu)
  (l4 (c8 aG (c4 (c5 0) (c4 (fun _=>some aO) (c4 (l7 (c4 (c5 1) (c4 (c5 2) (c4 (i3 m9 (i3 yc (kI 60) (c5 1)) (c5 2)) (c4 (fun _=>some (.bl false)) c7))))) c7))))))
def bU:LD->OD:=via 3 3 mj
theorem jp(s:WS)(m c:Int):bU [s.d,.int m,.int c]=some (zB s m c).d:=by
 cases hr:s.cr<;>simp[-i8,-yc,bU,via,mj,aO,w4,P8,hr,zB,LC,QV]
def dD:R->RT Out:=
  (l5 (l3 (i3 i8 (c5 0) (fun _=>some aO)) (setAt 1))
  (l4 (c8 bU (c4 (c5 0) (c4 (i3 ui (i3 m9 (i3 i8 (c5 1) (kI 0)) (kI 1)) (kI 60)) (c4 (i3 i8 (c5 1) (kI 1)) c7))))))
def aX:LD->OD:=via 1 2 dD
theorem gK(s:WS):aX [s.d]=some (deed .cminute s).d:=by simp[-i8,aX,via,dD,aO,w4,N6,Ot,jp,deed]
def dJ:R->RT Out:=
  (l5 (l3 (i3 i8 (c5 0) (fun _=>some aO)) (setAt 1))
  (l4 (c8 bU (c4 (c5 0) (c4 (i3 i8 (c5 1) (kI 0)) (c4 (i3 ui (i3 m9 (i3 i8 (c5 1) (kI 1)) (kI 1)) (kI 60)) c7))))))
def aZ:LD->OD:=via 1 2 dJ
theorem gN(s:WS):aZ [s.d]=some (deed .csecond s).d:=by simp[-i8,aZ,via,dJ,aO,w4,N6,Ot,jp,deed]
def mI:R->RT Out:=
  (l5 (l3 (i3 i8 (c5 0) (fun _=>some aO)) (setAt 1))
  (l4 (c8 bU (c4 (c5 0) (c4 (i3 i8 (c5 1) (kI 0)) (c4 (i3 i8 (c5 1) (kI 1)) c7))))))
def d_:LD->OD:=via 1 2 mI
theorem qd(s:WS):d_ [s.d]=some (deed .full s).d:=by simp[-i8,d_,via,mI,aO,w4,N6,Ot,jp,deed]
def iW:R->RT Out:=
  (l5 (l3 (i3 i8 (c5 0) (fun _=>some aO)) (setAt 1))
  (l5 (l3 (Bf (E_ (i3 i8 (c5 1) (kI 3))) (CP (k7 EF (i3 i8 (c5 1) (kI 2)) (kI 0)))) (setAt 2))
  (l4 (c8 aG (c4 (c5 0) (c4 (fun _=>some aO) (c4 (l7 (c4 (i3 i8 (c5 1) (kI 0)) (c4 (i3 i8 (c5 1) (kI 1)) (c4 (i3 i8 (c5 1) (kI 2)) (c4 (c5 2) c7))))) c7)))))))
def bP:LD->OD:=via 1 3 iW
theorem jA(s:WS):bP [s.d]=some (deed .count s).d:=by
 have q:∀r:Bool,Bf (E_ (i3 i8 (c5 1) (kI 3))) (CP (k7 EF (i3 i8 (c5 1) (kI 2)) (kI 0))) [some s.d,some (.tup [.int s.cm,.int s.cs,.int s.cl,.bl r]),none]=some (.bl (!r&&decide (0<s.cl))):=by
  intro r
  cases r
  ·exact Lm rfl (Gg (ug (i7 rfl rfl rfl) rfl rfl))
  ·exact GF rfl
 exact k9 ((k8 (l9 (i7 rfl rfl (w4 s)) rfl)).trans ((k8 (l9 (q s.cr) rfl)).trans (retS (i4 (m8 rfl (m8 rfl (m8 (tupS (m8 (i7 rfl rfl (N6 s)) (m8 (i7 rfl rfl (Ot s)) (m8 (i7 rfl rfl (PJ s)) rfl)))) rfl))) (QV s s.cm s.cs s.cl _)))))
def yP:List (Str×(LD->OD)):=[(oS "none",db),(oS "hour",dg),(oS "minute",cb),(oS "zero",de),(oS "ahour",bj),(oS "aminute",aY),(oS "alarm",bx),(oS "run",bF),(oS "lap",dm),(oS "cminute",aX),(oS "csecond",aZ),(oS "full",d_),(oS "count",bP)]
def lH:R->RT Out:=
  (l5 (l3 (i3 i8 (i3 i8 (i3 i8 (c5 0) (kI 2)) (i3 i8 (c5 1) (fun _=>some bT))) (kI 2)) (setAt 3))
  (l5 (l3 (i3 i8 (c5 3) (w8 (HI df) (c5 2))) (setAt 4))
  (NJ 5 yP (i3 i8 (c5 4) (kI 0)) (fun G_=>(l4 (c8 aG (c4 (c8 G_ (c4 (c5 1) c7)) (c4 (fun _=>some bT) (c4 (i3 i8 (c5 4) (kI 1)) c7)))))))))
def bB:LD->OD:=via 3 6 lH
theorem rX(d:yT)(s:WS)(h:s.lk.length<=4):∃F,yP.lookup d.x=some F/\F [s.d]=some (deed d s).d:=by
 cases d
 ·exact⟨_,rfl,pL s⟩
 ·exact⟨_,rfl,pW s⟩
 ·exact⟨_,rfl,lX s⟩
 ·exact⟨_,rfl,o_ s⟩
 ·exact⟨_,rfl,iG s⟩
 ·exact⟨_,rfl,gG s⟩
 ·exact⟨_,rfl,jr s⟩
 ·exact⟨_,rfl,ka s⟩
 ·exact⟨_,rfl,og s h⟩
 ·exact⟨_,rfl,gK s⟩
 ·exact⟨_,rfl,gN s⟩
 ·exact⟨_,rfl,qd s⟩
 ·exact⟨_,rfl,jA s⟩
theorem Oz(x:wL):HI df (.str x.x)=some (.int (x.ix:Int)):=by cases x<;>rfl
theorem O3(x:wL):HI df (.str x.X)=some (.int ((x.ix+3:Nat):Int)):=by cases x<;>rfl
theorem Rf{i:Nat}{tab:List (Str×(LD->OD))}{f:R->OD}{g:(LD->OD)->R->RT Out}{ρ:R}{z:Str}{F:LD->OD}{o:RT Out}(h1:f ρ=some (.str z))(h2:tab.lookup z=some F)(hi:i<ρ.length)(h3:g F (ρ.set i none)=o):NJ i tab f g ρ=o:=by
 unfold NJ
 rw[h1]
 show(tab.lookup z).bind _=_
 rw[h2]
 show(if i<ρ.length then g F (ρ.set i none) else none)=_
 rw[R3 hi,h3]
theorem gA{b:Bk}{s:WS}(ok:b.Ok)(w:s.Wk b){p:Str}{i:Nat}(hi:i<6)(hp:HI df (.str p)=some (.int (i:Int))):bB [b.d,s.d,.str p]=some (press b s i).d:=by
 have hm:=k_ b w.mode
 have h6:=(ok.all _ (qT b w.mode)).six
 have hr:=sM (b.modes.getD s.mode default) (i:=i) (by rw[h6];exact hi)
 obtain⟨F,hF,hs⟩:=rX (b.row s.mode i).1 s w.lk
 unfold Bk.row at hF hs
 unfold press Bk.row
 generalize (b.modes.getD s.mode default)=md at *
 generalize (md.rows.getD i (yT.none,0))=rw_ at *
 exact k9 ((k8 (l9 (i7 (i7 (i7 rfl rfl (b2 b)) (i7 rfl rfl (w0 s)) hm) rfl (m2 md)) rfl)).trans ((k8 (l9 (i7 rfl (B7 rfl hp) hr) rfl)).trans
  (Rf (i7 rfl rfl (r0 rw_)) hF (by simp) (retS (i4 (m8 (i4 rfl hs) (m8 rfl (m8 (i7 rfl rfl (r1 rw_)) rfl))) (Ra _ _))))))
def rh:R->RT Out:=
  (l5 (l3 (i3 i8 (c5 1) (fun _=>some aV)) (setAt 2))
  (l5 (y3 (k7 zu (c5 2) (fun _=>some .non))
  (l4 (c8 aG (c4 (c5 1) (c4 (fun _=>some bT) (c4 (kI 0) c7)))))
  uu)
  (l4 (c8 bB (c4 (c5 0) (c4 (c8 aG (c4 (c5 1) (c4 (fun _=>some aV) (c4 (l7 (c4 (i3 i8 (c5 2) (kI 0)) (c4 (fun _=>some .non) c7))) c7)))) (c4 (w8 PN (i3 i8 (c5 2) (kI 0))) c7)))))))
def fU:LD->OD:=via 2 3 rh
theorem OQ(x:wL):PN (.str x.x)=some (.str x.X):=by cases x<;>rfl
theorem Ez{b:Bk}{s:WS}(h:s.held=none):turned b s={s with mode:=0}:=by
 unfold turned
 split
 ·rfl
 ·rename_i e;rw[h] at e;cases e
theorem Ek{b:Bk}{s:WS}{x:wL}{k:RT Int}(h:s.held=some (x,k)):turned b s=press b {s with held:=some (x,none)} (x.ix+3):=by
 unfold turned
 split
 ·rename_i e;rw[h] at e;cases e
 ·rename_i e;rw[h] at e;cases e;rfl
theorem qu{b:Bk}{s:WS}(ok:b.Ok)(w:s.Wk b):fU [b.d,s.d]=some (turned b s).d:=by
 have e6:=w6 s
 rcases hs:s.held with _ | ⟨x,k⟩<;>rw[hs] at e6
 ·rw[Ez hs]
  exact k9 ((k8 (l9 (i7 rfl rfl e6) rfl)).trans (v4 ((zV rfl).trans (retS (i4 rfl (Ra s 0))))))
 ·have e:=gA (s:={s with held:=some (x,none)}) ok {w with} x.ix3 (O3 x)
  rw[Ek hs]
  exact k9 ((k8 (l9 (i7 rfl rfl e6) rfl)).trans ((k8 (yV rfl)).trans (retS (i4 (m8 rfl (m8 (i4 (m8 rfl (m8 rfl (m8 (tupS (m8 (i7 rfl rfl (h0 x k)) rfl)) rfl))) (QG s x)) (m8 (B7 (i7 rfl rfl (h0 x k)) (OQ x)) rfl))) e))))
def ge:R->RT Out:=
 (l4 (c8 fU (c4 (c5 0) (c4 (c8 cF (c4 (c5 0) (c4 (c5 1) (c4 (c8 bK (c4 (c5 0) (c4 (c5 1) c7))) c7)))) c7))))
def bG:LD->OD:=via 2 2 ge
theorem qk{b:Bk}{s:WS}{t:Int}(ok:b.Ok)(w:s.Wk b)(h:t6 b s=some t):bG [b.d,s.d]=some (behind b s t).d:=by
 have e1:=iz w
 rw[h] at e1
 have ht:=xm h
 have e2:=ie (s:=s) t ok.back0
 have e3:=qu ok (w.cnt (n:=t) (by omega))
 simp only[uk] at e1
 simp[bG,via,ge,e1,e2,e3,behind]
def na:R->RT Out:=
  (l5 (l3 (c8 bK (c4 (c5 0) (c4 (c5 1) c7))) (setAt 3))
  (l5 (y3 (C9 (k7 zu (c5 3) (fun _=>some .non)) (k7 EF (c5 3) (c5 2)))
  (l4 (Ea (c4 (l7 (c4 (kI 0) (c4 (c5 1) (c4 (c5 2) c7)))) c7)))
  uu)
  (l4 (Ea (c4 (l7 (c4 (kI 0) (c4 (c5 1) (c4 (c5 3) c7)))) (c4 (l7 (c4 (c5 3) (c4 (c8 bG (c4 (c5 0) (c4 (c5 1) c7))) (c4 (i3 w9 (c5 2) (c5 3)) c7)))) c7))))))
def aK:LD->OD:=via 3 4 na
def uB(b:Bk)(s:WS)(n:Int):LD:=match t6 b s with
 | none=>[.tup [.int 0,s.d,.int n]]
 | some t=>if n<t then [.tup [.int 0,s.d,.int n]] else [.tup [.int 0,s.d,.int t],.tup [.int t,(behind b s t).d,.int (n - t)]]
theorem fJ{b:Bk}{s:WS}(n:Int)(ok:b.Ok)(w:s.Wk b):aK [b.d,s.d,.int n]=some (.lst (uB b s n)):=by
 have e1:=iz w
 unfold uB
 cases h:t6 b s with
 | none =>
  rw[h] at e1
  exact k9 ((k8 (l9 (i4 rfl e1) rfl)).trans (v4 ((zV (Ql rfl)).trans (retS rfl))))
 | some t =>
  have e2:=qk ok w h
  rw[h] at e1
  dsimp only
  by_cases hn:n<t
  ·rw[R3 hn]
   exact k9 ((k8 (l9 (i4 rfl e1) rfl)).trans (v4 ((zV (ND rfl (ug rfl rfl (dT hn)))).trans (retS rfl))))
  ·rw[Sa hn]
   exact k9 ((k8 (l9 (i4 rfl e1) rfl)).trans ((k8 (yV (ND rfl (ug rfl rfl (dF hn))))).trans (retS (KM (m8 rfl (m8 (tupS (m8 rfl (m8 (i4 rfl e2) rfl))) rfl))))))
def qJ:R->RT Out:=
  (l5 (l3 (i3 i8 (c8 aK (c4 (c5 0) (c4 (c5 1) (c4 (c5 2) c7)))) (w8 DY (kI 1))) (setAt 3))
  (l4 (c8 cF (c4 (c5 0) (c4 (i3 i8 (c5 3) (kI 1)) (c4 (i3 i8 (c5 3) (kI 2)) c7))))))
def fS:LD->OD:=via 3 4 qJ
theorem ri{b:Bk}{s:WS}(n:Int)(ok:b.Ok)(w:s.Wk b):fS [b.d,s.d,.int n]=some (ticked b s n).d:=by
 have e1:=fJ n ok w
 unfold uB at e1
 unfold ticked
 have e2:=ie (s:=s) n ok.back0
 cases h:t6 b s with
 | none =>
  rw[h] at e1
  exact k9 ((k8 (l9 (i7 (i4 rfl e1) rfl rfl) rfl)).trans (retS (i4 rfl e2)))
 | some t =>
  rw[h] at e1
  dsimp only at e1 ⊢
  have e3:=ie (s:=behind b s t) (n - t) ok.back0
  by_cases hn:n<t
  ·rw[R3 hn] at e1 ⊢
   exact k9 ((k8 (l9 (i7 (i4 rfl e1) rfl rfl) rfl)).trans (retS (i4 rfl e2)))
  ·rw[Sa hn] at e1 ⊢
   exact k9 ((k8 (l9 (i7 (i4 rfl e1) rfl rfl) rfl)).trans (retS (i4 rfl e3)))
def qE:R->RT Out:=
  (l5 (y3 (k7 ww (i3 i8 (c5 0) (fun _=>some aV)) (fun _=>some .non))
  (l4 (c5 0))
  uu)
  (l5 (l3 (DD (k7 EF (i3 i8 (c5 0) (fun _=>some eO)) (kI 0)) (fun _=>some .non) (kI 0)) (setAt 2))
  (l4 (c8 aG (c4 (c8 aG (c4 (c8 aG (c4 (c5 0) (c4 (fun _=>some eO) (c4 (kI 0) c7)))) (c4 (fun _=>some aV) (c4 (l7 (c4 (c5 1) (c4 (c5 2) c7))) c7)))) (c4 (fun _=>some dz) (c4 (kI 0) c7)))))))
def fP:LD->OD:=via 2 3 qE
theorem qf(s:WS)(x:wL):fP [s.d,.str x.x]=some (pushed s x).d:=by
 have e6:=w6 s
 have e5:=w5 s
 unfold pushed
 cases hh:s.held with
 | some v =>
  rw[hh] at e6
  exact k9 (v4 ((zV (ug (i7 rfl rfl e6) rfl rfl)).trans (retS rfl)))
 | none =>
  rw[hh] at e6
  by_cases hr:0<s.ring
  ·have z:=OL {s with ring:=0} x none
   simp only[Option.isSome_none,Bool.false_eq_true,if_false,R3 hr]
   exact k9 ((k8 (yV (ug (i7 rfl rfl e6) rfl rfl))).trans ((k8 (l9 (Fm (ug (i7 rfl rfl e5) rfl (dT hr)) rfl) rfl)).trans (retS (i4 (m8 (i4 (m8 (i4 rfl (Q5 s 0)) rfl) z) rfl) (Pz _ 0)))))
  ·have z:=OL {s with ring:=0} x (some 0)
   simp only[Option.isSome_none,Bool.false_eq_true,if_false,Sa hr]
   exact k9 ((k8 (yV (ug (i7 rfl rfl e6) rfl rfl))).trans ((k8 (l9 (G9 (ug (i7 rfl rfl e5) rfl (dF hr)) rfl) rfl)).trans (retS (i4 (m8 (i4 (m8 (i4 rfl (Q5 s 0)) rfl) z) rfl) (Pz _ 0)))))
def lN:R->RT Out:=
 (l4 (Bf (CP (k7 ww (i3 i8 (c5 0) (fun _=>some aV)) (fun _=>some .non))) (CP (k7 vY (i3 i8 (i3 i8 (c5 0) (fun _=>some aV)) (kI 0)) (c5 1)))))
def bz:LD->OD:=via 2 2 lN
theorem MW(x y:wL):vY (.str x.x) (.str y.x)=some (decide (x=y)):=by cases x<;>cases y<;>rfl
theorem gC(s:WS)(x:wL):bz [s.d,.str x.x]=some (.bl (match s.held with | some (y,_)=>decide (y=x) | none=>false)):=by
 have e6:=w6 s
 rcases hs:s.held with _ | ⟨y,k⟩<;>rw[hs] at e6
 ·exact k9 (retS (GF (Gg (ug (i7 rfl rfl e6) rfl rfl))))
 ·exact k9 (retS (Lm (Gg (ug (i7 rfl rfl e6) rfl rfl)) (Gg (ug (i7 (i7 rfl rfl e6) rfl (h0 y k)) rfl (MW y x)))))
def nL:R->RT Out:=
 (l4 (Bf (c8 bz (c4 (c5 0) (c4 (c5 1) c7))) (CP (k7 ww (i3 i8 (i3 i8 (c5 0) (fun _=>some aV)) (kI 1)) (fun _=>some .non)))))
def bL:LD->OD:=via 2 2 nL
theorem jk(s:WS)(x:wL):bL [s.d,.str x.x]=some (.bl (match s.held with | some (y,k)=>decide (y=x)&&k.isSome | none=>false)):=by
 have e:=gC s x
 have e6:=w6 s
 rcases hs:s.held with _ | ⟨y,k⟩<;>rw[hs] at e e6
 ·exact k9 (retS (GF (i4 rfl e)))
 ·by_cases hy:y=x
  ·simp only[hy,decide_true,Bool.true_and] at e ⊢
   exact k9 (retS (Lm (i4 rfl e) (Gg (ug (i7 (i7 rfl rfl e6) rfl (h1 y k)) rfl (JL k)))))
  ·simp only[hy,decide_false,Bool.false_and] at e ⊢
   exact k9 (retS (GF (i4 rfl e)))
def qi:R->RT Out:=
  (l5 (y3 (Fu (wY (c8 bz (c4 (c5 1) (c4 (c5 2) c7)))))
  (l4 (c5 1))
  uu)
  (l5 (y3 (wY (c8 bL (c4 (c5 1) (c4 (c5 2) c7))))
  (l3 (c8 bB (c4 (c5 0) (c4 (c5 1) (c4 (c5 2) c7)))) (setAt 1))
  uu)
  (l4 (c8 aG (c4 (c8 aG (c4 (c5 1) (c4 (fun _=>some aV) (c4 (fun _=>some .non) c7)))) (c4 (fun _=>some dz) (c4 (kI 0) c7)))))))
def fL:LD->OD:=via 3 3 qi
theorem rn{b:Bk}{s:WS}(ok:b.Ok)(w:s.Wk b)(x:wL):fL [b.d,s.d,.str x.x]=some (letGo b s x).d:=by
 have e1:=gC s x
 have e2:=jk s x
 have e3:=gA ok w x.ix6 (Oz x)
 unfold letGo
 rcases hs:s.held with _ | ⟨y,k⟩<;>rw[hs] at e1 e2
 ·exact k9 (v4 ((zV (Jr (Ca (i4 rfl e1)))).trans (retS rfl)))
 ·by_cases hy:y=x
  ·subst hy
   simp only[decide_true,Bool.true_and] at e1 e2
   dsimp only
   rw[R3 rfl]
   cases k with
   | none=>exact k9 ((k8 (yV (Jr (Ca (i4 rfl e1))))).trans ((k8 (yV (Ca (i4 rfl e2)))).trans (retS (i4 (m8 (i4 rfl (Og s)) rfl) (Pz _ 0)))))
   | some j=>exact k9 ((k8 (yV (Jr (Ca (i4 rfl e1))))).trans ((k8 ((zV (Ca (i4 rfl e2))).trans (l9 (i4 rfl e3) rfl))).trans (retS (i4 (m8 (i4 rfl (Og _)) rfl) (Pz _ 0)))))
  ·dsimp only at e1 ⊢
   rw[Sz hy] at e1
   rw[Sa hy]
   exact k9 (v4 ((zV (Jr (Ca (i4 rfl e1)))).trans (retS rfl)))
def tG:R->RT Out:=
  (l5 (y3 (k7 vY (i3 i8 (c5 2) (kI 0)) (kS "down"))
  (l4 (c8 fP (c4 (c5 1) (c4 (i3 i8 (c5 2) (kI 1)) c7))))
  uu)
  (l5 (y3 (k7 vY (i3 i8 (c5 2) (kI 0)) (kS "up"))
  (l4 (c8 fL (c4 (c5 0) (c4 (c5 1) (c4 (i3 i8 (c5 2) (kI 1)) c7)))))
  uu)
  (l4 (c8 fS (c4 (c5 0) (c4 (c5 1) (c4 (i3 i8 (c5 2) (kI 1)) c7)))))))
def di:LD->OD:=via 3 3 tG
theorem M0:vY (.str (oS "down")) (.str (oS "down"))=some true:=rfl
theorem ME:vY (.str (oS "up")) (.str (oS "down"))=some false:=rfl
theorem MM:vY (.str (oS "ticks")) (.str (oS "down"))=some false:=rfl
theorem EO:vY (.str (oS "up")) (.str (oS "up"))=some true:=rfl
theorem Mr:vY (.str (oS "ticks")) (.str (oS "up"))=some false:=rfl
theorem nH{b:Bk}{s:WS}(ok:b.Ok)(w:s.Wk b)(e:Ev):di [b.d,s.d,e.d]=some (gone b s e).d:=by
 cases e with
 | down x=>exact k9 (v4 ((zV (ug rfl rfl M0)).trans (retS (i4 rfl (qf s x)))))
 | up x=>exact k9 ((k8 (yV (ug rfl rfl ME))).trans (v4 ((zV (ug rfl rfl EO)).trans (retS (i4 rfl (rn ok w x))))))
 | ticks n=>exact k9 ((k8 (yV (ug rfl rfl MM))).trans ((k8 (yV (ug rfl rfl Mr))).trans (retS (i4 rfl (ri n ok w)))))
def iA:R->RT Out:=
 (l3 (c8 di (c4 (c5 0) (c4 (c5 1) (c4 (c5 3) c7)))) (setAt 1))
def ij:R->RT Out:=iA
def h_:R->RT Out:=
 (Cs (vt (c5 2)) (setAt 3) ij)
def km:R->RT Out:=
 (l4 (c5 1))
def rM:R->RT Out:=
 (l5 h_ km)
def gS:LD->OD:=via 3 4 rM
theorem A6{b:Bk}(ok:b.Ok)(rw_:OD):∀(es:List Ev) (s:WS) (o:OD),s.Ok b->(∀e∈es,e.Ok) ->
  ∃o',AA (setAt 3) ij (es.map Ev.d) [some b.d,some s.d,rw_,o]=some (.nx [some b.d,some (n9 b s es).d,rw_,o'])
 | [],s,o,_,_=>⟨o,rfl⟩
 | e::es,s,o,w,h=>by
  obtain⟨o',ih⟩:=A6 ok rw_ es (gone b s e) (some e.d) (AK ok w e (h e SY)) fun x hx=>h x (Su _ hx)
  refine⟨o',?_⟩
  rw[S3,JH (ρ1:=[some b.d,some s.d,rw_,some e.d]) rfl (ρ2:=[some b.d,some (gone b s e).d,rw_,some e.d]) (by simp[ij,iA,nH ok w.toWk e]),ih]
  rfl
theorem rW{b:Bk}{s:WS}(ok:b.Ok)(w:s.Ok b)(es:List Ev)(h:∀e∈es,e.Ok):gS [b.d,s.d,.tup (es.map Ev.d)]=some (n9 b s es).d:=by
 obtain⟨o',e⟩:=A6 ok (some (.tup (es.map Ev.d))) es s none w h
 have e1:h_ [some b.d,some s.d,some (.tup (es.map Ev.d)),none]=_:=C7 rfl e
 show(if (3:Nat)=3 then yr (l5 h_ km [some b.d,some s.d,some (.tup (es.map Ev.d)),none]) else none)=_
 rw[R3 rfl,k8 e1]
 rfl
def fF:R->RT Out:=
 (l3 (c8 aL (c4 (c5 0) c7)) (setAt 2))
def fV:R->RT Out:=
 (l3 (c8 aN (c4 (c5 0) c7)) (setAt 3))
def v5:R->RT Bool:=
 (k7 ww (c5 2) (fun _=>some .non))
def v3:R->RT LD:=
 (Dj (c5 2) (i3 m9 (c5 1) (kI 1)) (fun _=>some dI))
def xY:R->LD->RT (Out×LD):=
  (Ju (AW (k7 ww (c5 3) (fun _=>some .non)) (k7 LI (c5 3) (c5 1)))
  (B9 4 (c5 3))
  Av)
def fD:R->RT Out:=
 (l4 (c8 P4 (c4 (c5 4) c7)))
def kN:R->RT Out:=
 (l5 fF (l5 fV (GN 4 c7 (wN 4 v5 v3 (wB xY (Ay fD))))))
def bp:LD->OD:=via 2 5 kN
def DS(n:Int)(o:RT Int):List Int:=match o with
 | some a=>(List.range (wA a (n+1) 86400)).map fun (k:Nat)=>a+(k:Int)*86400
 | none=>[]
def Jx(n:Int)(o:RT Int):List Int:=match o with
 | some c=>if c<=n then [c] else []
 | none=>[]
def u0(s:WS)(n:Int):List Int:=xk (A9 (DS n (m7 s)++Jx n (uc s)))
theorem Bg:∀l:List Int,intsOf (l.map D.int)=some l
 | []=>rfl
 | i::l=>by show(intsOf (l.map D.int)).map _=_;rw[Bg l];rfl
theorem CZ{a n:Int}(h1:1<=a)(hn:n<259200):wA a (n+1) 86400<=3:=by
 unfold wA
 split<;>omega
theorem Mm{ds:LD}{ns:List Int}(e:ds=ns.map D.int)(h:ns.length<=4):P4 [.lst ds]=some (.lst ((xk (A9 ns)).map D.int)):=by
 subst e
 show(intsOf _).bind _=_
 rw[Bg]
 exact R3 h
theorem Ou{i:Nat}{s:R->RT Bool}{f:R->RT LD}{w:R->LD->RT Out}{ρ:R}{ds es:LD}(h1:s ρ=some true)(h2:f ρ=some es)(h3:ρ.length=i)(h4:es.length<=1000):wN i s f w ρ ds=w ρ es:=by
 unfold wN;rw[h1]
 show(f ρ).bind _=_
 rw[h2]
 exact R3 ⟨h3,h4⟩
theorem O2{i:Nat}{s:R->RT Bool}{f:R->RT LD}{w:R->LD->RT Out}{ρ:R}{ds:LD}(h1:s ρ=some false):wN i s f w ρ ds=w ρ ds:=by
 unfold wN;rw[h1];rfl
theorem Ba{s:WS}{a:Int}(h:m7 s=some a):1<=a/\a<=86400:=by
 unfold m7 at h
 split at h
 ·cases h;omega
 ·cases h
theorem lq(s:WS){n:Int}(h0:0<=n)(hn:n<259200):bp [s.d,.int n]=some (.lst ((u0 s n).map .int)):=by
 have e1:=eE s
 have e2:=eM s
 have hA:∀a,m7 s=some a->1<=a/\a<=86400:=fun a h=>Ba h
 unfold u0
 generalize m7 s=a at *
 generalize uc s=c at *
 have q1:fF [some s.d,some (.int n),none,none,none]=some (.nx [some s.d,some (.int n),some (uk a),none,none]):=l9 (i4 rfl e1) rfl
 have q2:fV [some s.d,some (.int n),some (uk a),none,none]=some (.nx [some s.d,some (.int n),some (uk a),some (uk c),none]):=l9 (i4 rfl e2) rfl
 have q3:∀w,wN 4 v5 v3 w [some s.d,some (.int n),some (uk a),some (uk c)] []=w [some s.d,some (.int n),some (uk a),some (uk c)] ((DS n a).map D.int):=fun w=>by
  cases a with
  | none=>exact O2 rfl
  | some a =>
   obtain⟨a1,a2⟩:=hA a rfl
   have hl:=CZ a1 hn
   have e:Aw a (n+1) 86400=(DS n (some a)).map D.int:=by
    show _=((List.range _).map _).map _
    rw[List.map_map];rfl
   rw[<- e]
   refine Ou rfl ?_ rfl ?_
   ·show(if -(2 ^ 60)<=a/\a<2 ^ 60 /\ -(2 ^ 60)<=n+1/\n+1<2 ^ 60/\(0:Int)<86400/\(86400:Int)<1073741824 then some (Aw a (n+1) 86400) else none)=_
    rw[R3 ⟨by omega,by omega,by omega,by omega,by decide,by decide⟩]
   ·unfold Aw;rw[R7,List.length_range];omega
 have hlA:(DS n a).length<=3:=by
  cases a with
  | none=>exact SU _
  | some a =>
   obtain⟨a1,a2⟩:=hA a rfl
   have hl:=CZ a1 hn
   unfold DS;rw[R7,List.length_range];exact hl
 have hlC:(Jx n c).length<=1:=by
  unfold Jx
  split
  ·split<;>simp
  ·decide
 have q4:xY [some s.d,some (.int n),some (uk a),some (uk c)] ((DS n a).map D.int)=some (.nx [some s.d,some (.int n),some (uk a),some (uk c)],(DS n a++Jx n c).map D.int):=by
  rw[Ta]
  cases c with
  | none =>
   refine(IW (Q0 rfl)).trans ?_
   show some (_,_)=some (_,_++[])
   rw[Sw]
  | some c =>
   by_cases h:c<=n
   ·refine(Kc (NL rfl (ug (x:=.int c) (y:=.int n) rfl rfl (dT h)))).trans ?_
    show(if 4=4/\((DS n a).map D.int).length<sizeLine then _ else none)=_
    rw[R3 ⟨rfl,by rw[R7,PySem.sizeLine_eq];omega⟩]
    unfold Jx
    dsimp only
    rw[R3 h];rfl
   ·refine(IW (NL rfl (ug (x:=.int c) (y:=.int n) rfl rfl (dF h)))).trans ?_
    unfold Jx
    dsimp only
    rw[Sa h]
    show some (_,_)=some (_,_++[])
    rw[Sw]
 have q6:fD [some s.d,some (.int n),some (uk a),some (uk c),some (.lst ((DS n a++Jx n c).map D.int))]=some (.rt (.lst ((xk (A9 (DS n a++Jx n c))).map D.int))):=
  retS (i4 rfl (Mm rfl (by rw[Sl];omega)))
 refine k9 ((k8 q1).trans ((k8 q2).trans ?_))
 show wN 4 v5 v3 _ [some s.d,some (.int n),some (uk a),some (uk c)] []=_
 rw[q3,N7 q4]
 exact q6
theorem dh{s:WS}{n:Int}(hn:n<259200):(u0 s n).length<=4:=by
 unfold u0
 rw[(wq _).length_eq]
 refine Sx (zy _ []) ?_
 have hlA:(DS n (m7 s)).length<=3:=by
  cases h:m7 s with
  | none=>exact SU _
  | some a =>
   have hl:=CZ (Ba h).1 hn
   unfold DS;rw[R7,List.length_range];exact hl
 have hlC:(Jx n (uc s)).length<=1:=by
  unfold Jx
  split
  ·split<;>simp
  ·decide
 rw[List.length_nil,Sl];omega
theorem AF{st:D->R->RT R}{p:R->LD->RT (Out×LD)}{d:D}{es ds ds2:LD}{ρ ρ1 ρ2:R}(h1:st d ρ=some ρ1)(h2:p ρ1 ds=some (.nx ρ2,ds2)):BY st p (d::es) ρ ds=BY st p es ρ2 ds2:=by
 show(st d ρ).bind _=_
 rw[h1]
 show(p ρ1 ds).bind _=_
 rw[h2];rfl
def mM:R->RT Out:=
 (l4 (DD (k7 zu (i3 i8 (c5 0) (fun _=>some aV)) (fun _=>some .non)) (kS "back") (w8 PN (i3 i8 (i3 i8 (c5 0) (fun _=>some aV)) (kI 0)))))
def cP:LD->OD:=via 1 1 mM
def yb(s:WS):Str:=match s.held with
 | none=>oS "back"
 | some (x,_)=>x.X
theorem mz(s:WS):cP [s.d]=some (.str (yb s)):=by
 have e6:=w6 s
 unfold yb
 rcases hs:s.held with _ | ⟨x,k⟩<;>rw[hs] at e6
 ·exact k9 (retS (Fm (ug (i7 rfl rfl e6) rfl rfl) rfl))
 ·exact k9 (retS (G9 (ug (i7 rfl rfl e6) rfl rfl) (B7 (i7 (i7 rfl rfl e6) rfl (h0 x k)) (OQ x))))
def vk:R->LD->RT (Out×LD):=
  (Ju (k7 EF (i3 i8 (c5 3) (kI 0)) (kI 0))
  (B9 4 (l7 (c4 (i3 i8 (c5 3) (kI 0)) (c4 (c8 cP (c4 (c5 1) c7)) c7))))
  Av)
def vq:R->LD->RT (Out×LD):=
 (ER 4 (D5 1 (vt (c8 bp (c4 (i3 i8 (c5 3) (kI 1)) (c4 (i3 i8 (c5 3) (kI 2)) c7)))) (setAt 0) zd (l7 (c4 (i3 m9 (i3 i8 (c5 4) (kI 0)) (c5 0)) (c4 (kS "ring") c7)))))
def ur:R->LD->RT (Out×LD):=(EV vk vq)
def uF:R->LD->RT (Out×LD):=
 (Ia (vt (c8 aK (c4 (c5 0) (c4 (c5 1) (c4 (c5 2) c7))))) (setAt 3) ur)
def cY:R->RT Out:=
 (l4 (c5 4))
def gF:R->RT Out:=
 (GN 4 c7 (wB uF (Ay cY)))
def bq:LD->OD:=via 3 5 gF
abbrev Hx:=Int×Str
def uH(p:Hx):D:=.tup [.int p.1,.str p.2]
noncomputable def ya:Str:=oS "ring"
def EJ(k:Int)(l:List Int):List Hx:=l.map fun i=>(k+i,ya)
def DV(b:Bk)(s:WS)(n:Int):List Hx:=match t6 b s with
 | none=>EJ 0 (u0 s n)
 | some t=>if n<t then EJ 0 (u0 s n) else EJ 0 (u0 s t)++((t,yb s)::EJ t (u0 (behind b s t) (n - t)))
theorem oH(k:Int)(a b c:OD)(x y:D):∀l:List Int,vB (setAt 0) zd (l7 (c4 (i3 m9 (i3 i8 (c5 4) (kI 0)) (c5 0)) (c4 (kS "ring") c7))) (l.map D.int) [none,a,b,c,some (.tup [.int k,x,y])]=some ((EJ k l).map uH)
 | []=>rfl
 | i::l=>by
  have ih:=oH k a b c x y l
  show(vB _ _ _ (l.map D.int) _).map (fun r=>D.tup [.int (k+i),.str (oS "ring")]::r)=_
  rw[ih];rfl
theorem Bl{a c:OD}{k:Int}(s0 s:WS){n:Int}(ds:LD)(hd:ds.length<=10)(hn0:0<=n)(hn:n<259200) :
  ur [a,some s0.d,c,some (.tup [.int k,s.d,.int n])] ds=some (.nx [a,some s0.d,c,some (.tup [.int k,s.d,.int n])],ds++(if 0<k then [uH (k,yb s0)] else [])++(EJ k (u0 s n)).map uH):=by
 have hl:=dh (s:=s) hn
 have e:=lq s hn0 hn
 have et:=mz s0
 have z:100<=sizeLine:=by decide
 have q1:vk [a,some s0.d,c,some (.tup [.int k,s.d,.int n])] ds=some (.nx [a,some s0.d,c,some (.tup [.int k,s.d,.int n])],ds++(if 0<k then [uH (k,yb s0)] else [])):=by
  by_cases hk:0<k
  ·rw[R3 hk]
   refine(Kc (ug (x:=.int k) (y:=.int 0) (i7 rfl rfl rfl) rfl (dT hk))).trans ?_
   show(l7 _ _).bind _=_
   rw[tupS (m8 (i7 rfl rfl rfl) (m8 (i4 rfl et) rfl)),RZ]
   exact R3 ⟨rfl,by omega⟩
  ·rw[Sa hk,Sw]
   exact IW (ug (x:=.int k) (y:=.int 0) (i7 rfl rfl rfl) rfl (dF hk))
 have hl1:(ds++(if 0<k then [uH (k,yb s0)] else [])).length<=11:=by
  rw[Sl]
  have:(if 0<k then [uH (k,yb s0)] else []).length<=1:=by split<;>simp
  omega
 generalize ds++(if 0<k then [uH (k,yb s0)] else [])=ds1 at *
 have q:vt (c8 bp (c4 (i3 i8 (c5 3) (kI 1)) (c4 (i3 i8 (c5 3) (kI 2)) c7))) [a,some s0.d,c,some (.tup [.int k,s.d,.int n])]=some ((u0 s n).map D.int):=by
  show(c8 bp _ _).bind _=_
  rw[i4 (ds:=[s.d,.int n]) (m8 (i7 rfl rfl rfl) (m8 (i7 rfl rfl rfl) rfl)) e]
  rfl
 have q2:D5 1 (vt (c8 bp (c4 (i3 i8 (c5 3) (kI 1)) (c4 (i3 i8 (c5 3) (kI 2)) c7)))) (setAt 0) zd (l7 (c4 (i3 m9 (i3 i8 (c5 4) (kI 0)) (c5 0)) (c4 (kS "ring") c7))) [a,some s0.d,c,some (.tup [.int k,s.d,.int n])]=some (.lst ((EJ k (u0 s n)).map uH)):=by
  unfold D5
  rw[q,RZ,R3 (by rw[R7];omega)]
  show(vB _ _ _ _ [none,a,some s0.d,c,_]).map _=_
  rw[oH];rfl
 have q3:vq [a,some s0.d,c,some (.tup [.int k,s.d,.int n])] ds1=some (.nx [a,some s0.d,c,some (.tup [.int k,s.d,.int n])],ds1++(EJ k (u0 s n)).map uH):=by
  show ER 4 _ _ ds1=_
  unfold ER
  rw[q2,RZ]
  exact R3 ⟨rfl,by rw[R7,EJ,R7];omega⟩
 show EV _ _ _ ds=_
 unfold EV
 rw[q1,RZ]
 exact q3
theorem Id(b:Bk)(s:WS){n:Int}(hn:n<259200):(DV b s n).length<=9:=by
 have h0:=dh (s:=s) hn
 unfold DV
 cases ht:t6 b s with
 | none=>simp[EJ];omega
 | some t =>
  have hp:=xm ht
  dsimp only
  split
  ·simp[EJ];omega
  ·have h1:=dh (s:=s) (n:=t) (by omega)
   have h2:=dh (s:=behind b s t) (n:=n - t) (by omega)
   simp[EJ];omega
theorem gI{b:Bk}{s:WS}{n:Int}(ok:b.Ok)(w:s.Wk b)(hn0:0<=n)(hn:n<259200):bq [b.d,s.d,.int n]=some (.lst ((DV b s n).map uH)):=by
 have e1:=fJ n ok w
 have key:∃x,uF [some b.d,some s.d,some (.int n),none] []=some (.nx [some b.d,some s.d,some (.int n),some x],(DV b s n).map uH):=by
  have hit:vt (c8 aK (c4 (c5 0) (c4 (c5 1) (c4 (c5 2) c7)))) [some b.d,some s.d,some (.int n),none]=some (uB b s n):=by
   show(c8 aK _ _).bind _=_
   rw[i4 rfl e1];rfl
  have q:uF [some b.d,some s.d,some (.int n),none] []=BY (setAt 3) ur (uB b s n) [some b.d,some s.d,some (.int n),none] []:=by
   show(vt _ _).bind _=_
   rw[hit];rfl
  rw[q]
  have one:∀x:D,x=.tup [.int 0,s.d,.int n]->BY (setAt 3) ur [x] [some b.d,some s.d,some (.int n),none] []=some (.nx [some b.d,some s.d,some (.int n),some x],(EJ 0 (u0 s n)).map uH):=fun x hx=>by
   subst hx
   rw[AF rfl (Bl s s [] (SU _) hn0 hn)];rfl
  unfold uB DV
  cases h:t6 b s with
  | none=>exact⟨_,one _ rfl⟩
  | some t =>
   dsimp only
   by_cases ht:n<t
   ·rw[R3 ht,R3 ht];exact⟨_,one _ rfl⟩
   ·rw[Sa ht,Sa ht]
    have htp:=xm h
    have hl:=dh (s:=s) (n:=t) (by omega)
    refine⟨.tup [.int t,(behind b s t).d,.int (n - t)],?_⟩
    rw[AF rfl (Bl s s [] (SU _) (by omega) (by omega)),AF rfl (Bl s (behind b s t) _ ?_ (by omega) (by omega)),R3 (show 0<t by omega),Sa (show ¬ (0:Int)<0 by decide)]
    ·simp only[List.nil_append,Ta,S3,List.append_assoc,List.cons_append];rfl
    ·rw[Sa (show ¬ (0:Int)<0 by decide)]
     simp[EJ];omega
 obtain⟨x,key⟩:=key
 refine k9 ?_
 show wB uF (Ay cY) [some b.d,some s.d,some (.int n),none] []=_
 rw[N7 key]
 rfl
def lh:R->RT Out:=
  (l5 (y3 (k7 vY (i3 i8 (c5 2) (kI 0)) (kS "ticks"))
  (l4 (c8 bq (c4 (c5 0) (c4 (c5 1) (c4 (i3 i8 (c5 2) (kI 1)) c7)))))
  uu)
  (l5 (y3 (AW (k7 vY (i3 i8 (c5 2) (kI 0)) (kS "up")) (wY (c8 bL (c4 (c5 1) (c4 (i3 i8 (c5 2) (kI 1)) c7)))))
  (l4 (Ea (c4 (l7 (c4 (kI 0) (c4 (i3 i8 (c5 2) (kI 1)) c7))) c7)))
  uu)
  (l4 (Ea c7))))
def ba:LD->OD:=via 3 3 lh
def GY(s:WS)(x:wL):Bool:=match s.held with
 | some (y,k)=>decide (y=x)&&k.isSome
 | none=>false
def Jy(b:Bk)(s:WS):Ev->List Hx
 | .ticks n=>DV b s n
 | .up x=>if GY s x then [(0,x.x)] else []
 | .down _=>[]
def Js:Ev->Int
 | .ticks n=>n
 | _=>0
def CT:Ev->Prop
 | .ticks n=>1<=n/\n<259200
 | _=>True
theorem K9:vY (.str (oS "down")) (.str (oS "ticks"))=some false:=rfl
theorem I9:vY (.str (oS "up")) (.str (oS "ticks"))=some false:=rfl
theorem Lq:vY (.str (oS "ticks")) (.str (oS "ticks"))=some true:=rfl
theorem OX:vY (.str (oS "down")) (.str (oS "up"))=some false:=rfl
theorem kW{b:Bk}{s:WS}(ok:b.Ok)(w:s.Wk b)(e:Ev)(h:CT e):ba [b.d,s.d,e.d]=some (.lst ((Jy b s e).map uH)):=by
 cases e with
 | down x=>exact k9 ((k8 (yV (ug (i7 rfl rfl rfl) rfl K9))).trans ((k8 (yV (Q0 (ug (i7 rfl rfl rfl) rfl OX)))).trans (retS rfl)))
 | ticks n=>exact k9 (v4 ((zV (ug (i7 rfl rfl rfl) rfl Lq)).trans (retS (i4 (m8 rfl (m8 rfl (m8 (i7 rfl rfl rfl) rfl))) (gI ok w (by have:=h.1;omega) h.2)))))
 | up x =>
  have e:=jk s x
  have hs:bL [s.d,.str x.x]=some (.bl (GY s x)):=e
  show ba [b.d,s.d,(Ev.up x).d]=some (.lst ((if GY s x then [((0:Int),x.x)] else []).map uH))
  cases hx:GY s x with
  | false =>
   rw[hx] at hs
   exact k9 ((k8 (yV (ug (i7 rfl rfl rfl) rfl I9))).trans ((k8 (yV (NL (ug (i7 rfl rfl rfl) rfl EO) (Ca (i4 (m8 rfl (m8 (i7 rfl rfl rfl) rfl)) hs))))).trans (retS rfl)))
  | true =>
   rw[hx] at hs
   exact k9 ((k8 (yV (ug (i7 rfl rfl rfl) rfl I9))).trans (v4 ((zV (NL (ug (i7 rfl rfl rfl) rfl EO) (Ca (i4 (m8 rfl (m8 (i7 rfl rfl rfl) rfl)) hs)))).trans (retS (KM (m8 (tupS (m8 rfl (m8 (i7 rfl rfl rfl) rfl))) rfl))))))
def y6:R->LD->RT (Out×LD):=
 (ER 5 (D5 1 (vt (c8 ba (c4 (c5 0) (c4 (c5 2) (c4 (c5 4) c7))))) (setAt 0) zd (l7 (c4 (i3 m9 (c5 4) (i3 i8 (c5 0) (kI 0))) (c4 (i3 i8 (c5 0) (kI 1)) c7)))))
def BZ:R->LD->RT (Out×LD):=
  (z6 (l5 (l3 (c8 di (c4 (c5 0) (c4 (c5 2) (c4 (c5 4) c7)))) (setAt 2))
  (y3 (k7 vY (i3 i8 (c5 4) (kI 0)) (kS "ticks"))
  (l3 (i3 m9 (c5 3) (i3 i8 (c5 4) (kI 1))) (setAt 3))
  uu)))
def yt:R->LD->RT (Out×LD):=(EV y6 BZ)
def pX:R->RT Out:=
 (l3 (c8 bX (c4 (c5 0) c7)) (setAt 2))
def pU:R->RT Out:=
 (l3 (kI 0) (setAt 3))
def Ag:R->LD->RT (Out×LD):=
 (Ia (vt (c5 1)) (setAt 4) yt)
def kx:R->RT Out:=
 (l4 (c8 E2 (c4 (c5 5) c7)))
def sg:R->RT Out:=
 (l5 pX (l5 pU (GN 5 c7 (wB Ag (Ay kx)))))
def dE:LD->OD:=via 2 6 sg
def ED(b:Bk):WS->Int->List Ev->List Hx
 | _,_,[]=>[]
 | s,k,e::es=>(Jy b s e).map (fun p=>(k+p.1,p.2))++ED b (gone b s e) (k+Js e) es
theorem C2(b:Bk)(s:WS){e:Ev}(h:CT e):(Jy b s e).length<=9:=by
 cases e with
 | ticks n=>exact Id b s h.2
 | up x=>show(if GY s x then [((0:Int),x.x)] else []).length<=9;split<;>simp
 | down x=>exact SU _
theorem mq(k:Int)(a b c e:OD):∀l:List Hx,vB (setAt 0) zd (l7 (c4 (i3 m9 (c5 4) (i3 i8 (c5 0) (kI 0))) (c4 (i3 i8 (c5 0) (kI 1)) c7))) (l.map uH) [none,a,b,c,some (.int k),e]=some ((l.map fun p=>(k+p.1,p.2)).map uH)
 | []=>rfl
 | i::l=>by
  have ih:=mq k a b c e l
  show(vB _ _ _ (l.map uH) _).map (fun r=>D.tup [.int (k+i.1),.str i.2]::r)=_
  rw[ih];rfl
theorem Ft{b:Bk}{s:WS}(ok:b.Ok)(w:s.Wk b){o1:OD}{k:Int}(e:Ev)(h:CT e)(ds:LD)(hd:ds.length<=1000) :
  yt [some b.d,o1,some s.d,some (.int k),some e.d] ds=some (.nx [some b.d,o1,some (gone b s e).d,some (.int (k+Js e)),some e.d],ds++((Jy b s e).map fun p=>(k+p.1,p.2)).map uH):=by
 have e1:=kW ok w e h
 have e2:=nH ok w e
 have hl:=C2 b s h
 have z:2000<=sizeLine:=by decide
 have q:vt (c8 ba (c4 (c5 0) (c4 (c5 2) (c4 (c5 4) c7)))) [some b.d,o1,some s.d,some (.int k),some e.d]=some ((Jy b s e).map uH):=by
  show(c8 ba _ _).bind _=_
  rw[i4 rfl e1];rfl
 have q1:D5 1 (vt (c8 ba (c4 (c5 0) (c4 (c5 2) (c4 (c5 4) c7))))) (setAt 0) zd (l7 (c4 (i3 m9 (c5 4) (i3 i8 (c5 0) (kI 0))) (c4 (i3 i8 (c5 0) (kI 1)) c7))) [some b.d,o1,some s.d,some (.int k),some e.d]=some (.lst (((Jy b s e).map fun p=>(k+p.1,p.2)).map uH)):=by
  unfold D5
  rw[q,RZ,R3 (by rw[R7];omega)]
  show(vB _ _ _ _ [none,some b.d,o1,some s.d,_,_]).map _=_
  rw[mq];rfl
 have q2:y6 [some b.d,o1,some s.d,some (.int k),some e.d] ds=some (.nx [some b.d,o1,some s.d,some (.int k),some e.d],ds++((Jy b s e).map fun p=>(k+p.1,p.2)).map uH):=by
  show ER 5 _ _ ds=_
  unfold ER
  rw[q1,RZ]
  exact R3 ⟨rfl,by rw[R7,R7];omega⟩
 have q3:l5 (l3 (c8 di (c4 (c5 0) (c4 (c5 2) (c4 (c5 4) c7)))) (setAt 2)) (y3 (k7 vY (i3 i8 (c5 4) (kI 0)) (kS "ticks")) (l3 (i3 m9 (c5 3) (i3 i8 (c5 4) (kI 1))) (setAt 3)) uu) [some b.d,o1,some s.d,some (.int k),some e.d]=some (.nx [some b.d,o1,some (gone b s e).d,some (.int (k+Js e)),some e.d]):=by
  refine(k8 (l9 (i4 rfl e2) rfl)).trans ?_
  cases e with
  | ticks n=>exact(zV (ug (i7 rfl rfl rfl) rfl Lq)).trans (l9 (i7 rfl (i7 rfl rfl rfl) rfl) rfl)
  | up x=>rw[show k+Js (.up x)=k from Tr k];exact yV (ug (i7 rfl rfl rfl) rfl I9)
  | down x=>rw[show k+Js (.down x)=k from Tr k];exact yV (ug (i7 rfl rfl rfl) rfl K9)
 show EV _ _ _ ds=_
 unfold EV
 rw[q2,RZ]
 show z6 _ _ _=_
 unfold z6
 rw[q3];rfl
theorem BA{b:Bk}(ok:b.Ok)(o1:OD):∀(es:List Ev) (s:WS) (k:Int) (o:OD) (ds:LD),s.Ok b->(∀e∈es,e.Ok/\CT e)->ds.length+9*es.length<=1000 ->
  ∃s' k' o',BY (setAt 4) yt (es.map Ev.d) [some b.d,o1,some s.d,some (.int k),o] ds=some (.nx [some b.d,o1,s',k',o'],ds++(ED b s k es).map uH)
 | [],s,k,o,ds,_,_,_=>⟨some s.d,some (.int k),o,by show some (Out.nx _,ds)=some (Out.nx _,ds++[]);rw[Sw]⟩
 | e::es,s,k,o,ds,w,h,hl=>by
  obtain⟨h1,h2⟩:=h e (.head _)
  have hl1:=C2 b s h2
  rw[S5] at hl
  obtain⟨s',k',o',ih⟩:=BA ok o1 es (gone b s e) (k+Js e) (some e.d) (ds++((Jy b s e).map fun p=>(k+p.1,p.2)).map uH) (AK ok w e h1) (fun x hx=>h x (.tail _ hx)) (by simp;omega)
  refine⟨s',k',o',?_⟩
  rw[S3,AF rfl (Ft ok w.toWk e h2 ds (by omega)),ih,List.append_assoc,<- Ta];rfl
theorem rF{b:Bk}(ok:b.Ok)(es:List Ev)(h:∀e∈es,e.Ok/\CT e)(hl:es.length<=100):dE [b.d,.tup (es.map Ev.d)]=some (.tup ((ED b i9 0 es).map uH)):=by
 obtain⟨s',k',o',e⟩:=BA ok (some (.tup (es.map Ev.d))) es i9 0 none [] (zG ok) h (by simp;omega)
 refine k9 ((k8 (l9 (i4 rfl (iL _)) rfl)).trans ((k8 (l9 rfl rfl)).trans ?_))
 show wB Ag (Ay kx) [some b.d,some (.tup (es.map Ev.d)),some i9.d,some (.int 0),none] []=_
 have q:Ag [some b.d,some (.tup (es.map Ev.d)),some i9.d,some (.int 0),none] []=some (.nx [some b.d,some (.tup (es.map Ev.d)),s',k',o'],(ED b i9 0 es).map uH):=e
 rw[N7 q]
 rfl
def jo:R->RT Out:=
  (l5 (y3 (k7 Ow (c5 1) (c8 xi (c4 (c5 0) c7)))
  (l4 (i3 i8 (c5 0) (c5 1)))
  uu)
  (l4 (kI 0)))
def bQ:LD->OD:=via 2 2 jo
theorem GH(ns:List Int)(k:Int)(h0:0<=k):∃c,bQ [.fro (ns.map .int),.int k]=some (.int c):=by
 obtain⟨n,rfl⟩:=Int.eq_ofNat_of_zero_le h0
 by_cases h1:(n:Int)<((ns.map D.int).length:Int)
 ·have h2:n<(ns.map D.int).length:=Int.ofNat_lt.mp h1
  have h3:n<ns.length:=by rw[R7] at h2;exact h2
  refine⟨ns[n],k9 (v4 ((zV (ug rfl (i4 (F:=xi) rfl rfl) (dT h1))).trans (retS (i7 rfl rfl ?_))))⟩
  exact(DA h2).trans (by rw[List.getElem_map])
 ·exact⟨0,k9 ((k8 (yV (ug rfl (i4 (F:=xi) rfl rfl) (dF h1)))).trans (retS rfl))⟩
def lg:R->RT Out:=
  (l5 (l3 (i3 ui (i3 yc (i3 m9 (i3 m9 (c8 bQ (c4 (c5 0) (c4 (c5 1) c7))) (i3 yc (kI 7919) (c5 1))) (kI 1)) (kI 48271)) (kI 2147483647)) (setAt 2))
  (l4 (i3 ui (i3 m9 (i3 m9 (i3 yc (c5 2) (c5 2)) (i3 yc (kI 7) (c5 2))) (c5 1)) (kI 2147483629))))
def aJ:LD->OD:=via 2 3 lg
theorem xx(ns:List Int)(k:Int)(h0:0<=k):∃m,aJ [.fro (ns.map .int),.int k]=some (.int m)/\0<=m:=by
 obtain⟨c,hc⟩:=GH ns k h0
 generalize hq:(c+7919*k+1)*48271%2147483647=q
 have q0:0<=q:=by rw[<- hq];exact SQ _ (by decide)
 have q1:q<2147483647:=by rw[<- hq];exact SR _ (by decide)
 have m1:uE 7919 k=true:=vJ (by decide) (by decide)
 have m2:uE (c+7919*k+1) 48271=true:=Co (by decide) (by decide)
 have m3:uE q q=true:=vJ (by omega) (by omega)
 have m4:uE 7 q=true:=vJ (by decide) (by decide)
 refine⟨(q*q+7*q+k)%2147483629,?_,SQ _ (by decide)⟩
 exact k9 ((k8 (l9 (i7 (i7 (i7 (i7 (i4 rfl hc) (i7 rfl rfl (Ey m1)) rfl) rfl rfl) rfl (Ey m2)) rfl (QY (by decide) hq)) rfl)).trans (retS (i7 (i7 (i7 (i7 rfl rfl (Ey m3)) (i7 rfl rfl (Ey m4)) rfl) rfl rfl) rfl (modS (by decide)))))
def ly:R->RT Out:=
  (l5 (l3 (i3 ui (i3 yc (i3 m9 (i3 m9 (c5 0) (i3 yc (kI 104729) (c5 1))) (kI 17)) (kI 69621)) (kI 2147483647)) (setAt 2))
  (l4 (i3 ui (i3 m9 (i3 m9 (i3 yc (c5 2) (c5 2)) (i3 yc (kI 3) (c5 2))) (c5 1)) (kI 2147483629))))
def aT:LD->OD:=via 2 3 ly
def xI(n k:Int):Int:=((n+104729*k+17)*69621%2147483647*((n+104729*k+17)*69621%2147483647)+3*((n+104729*k+17)*69621%2147483647)+k)%2147483629
theorem zb(n k:Int):aT [.int n,.int k]=some (.int (xI n k)):=by
 unfold xI
 generalize hq:(n+104729*k+17)*69621%2147483647=q
 have q0:0<=q:=by rw[<- hq];exact SQ _ (by decide)
 have q1:q<2147483647:=by rw[<- hq];exact SR _ (by decide)
 have m1:uE 104729 k=true:=vJ (by decide) (by decide)
 have m2:uE (n+104729*k+17) 69621=true:=Co (by decide) (by decide)
 have m3:uE q q=true:=vJ (by omega) (by omega)
 have m4:uE 3 q=true:=vJ (by decide) (by decide)
 exact k9 ((k8 (l9 (i7 (i7 (i7 (i7 rfl (i7 rfl rfl (Ey m1)) rfl) rfl rfl) rfl (Ey m2)) rfl (QY (by decide) hq)) rfl)).trans (retS (i7 (i7 (i7 (i7 rfl rfl (Ey m3)) (i7 rfl rfl (Ey m4)) rfl) rfl rfl) rfl (modS (by decide)))))
def lY:R->RT Out:=
  (l5 (l3 (i3 m9 (kI 1) (i3 ui (c5 0) (kI 8))) (setAt 1))
  (l5 (l3 (l7 (c4 (kS "none") (c4 (kS "hour") (c4 (kS "minute") (c4 (kS "zero") (c4 (kS "ahour") (c4 (kS "aminute") (c4 (kS "alarm") (c4 (kS "run") (c4 (kS "lap") (c4 (kS "cminute") (c4 (kS "csecond") (c4 (kS "full") c7))))))))))))) (setAt 2))
  (l5 (l3 (l7 c7) (setAt 3))
  (l5 (Cs (x6 (c5 1)) (setAt 4)
  (l5 (l3 (i3 vV (c8 aT (c4 (c5 0) (c4 (c5 4) c7))) (kI 4)) (setAt 5))
  (l5 (l3 (l7 c7) (setAt 6))
  (l5 (Cs (x6 (kI 6)) (setAt 7)
  (l5 (l3 (i3 vV (c8 aT (c4 (c5 5) (c4 (i3 m9 (kI 10) (c5 7)) c7))) (kI 4)) (setAt 8))
  (l3 (i3 m9 (c5 6) (l7 (c4 (l7 (c4 (i3 i8 (i3 m9 (c5 2) (l7 (c4 (kS "count") c7))) (i3 ui (c5 8) (kI 13))) (c4 (i3 ui (i3 vV (c5 8) (kI 16)) (c5 1)) c7))) c7))) (setAt 6))))
  (l5 (l3 (i3 i8 (l7 (c4 (kS "time") (c4 (kS "alarm") (c4 (kS "laps") (c4 (kS "count") c7))))) (i3 ui (c5 5) (kI 4))) (setAt 9))
  (l3 (i3 m9 (c5 3) (l7 (c4 (l7 (c4 (c5 9) (c4 (CP (k7 vY (i3 ui (i3 vV (c5 5) (kI 4)) (kI 2)) (kI 0))) (c4 (c5 6) c7)))) c7))) (setAt 3)))))))
  (l4 (l7 (c4 (i3 m9 (kI 1) (i3 ui (i3 vV (c5 0) (kI 8)) (i3 i8 (l7 (c4 (kI 3) (c4 (kI 9) c7))) (i3 ui (i3 vV (c5 0) (kI 128)) (kI 2))))) (c4 (i3 i8 (l7 (c4 (kI 0) (c4 (kI 7) (c4 (kI 60) (c4 (kI 1) (c4 (kI 20) c7)))))) (i3 ui (i3 vV (c5 0) (kI 256)) (kI 5))) (c4 (c5 3) c7)))))))))
def cM:LD->OD:=via 1 10 lY
def uD:LD:=[.str (oS "none"),.str (oS "hour"),.str (oS "minute"),.str (oS "zero"),.str (oS "ahour"),.str (oS "aminute"),.str (oS "alarm"),.str (oS "run"),.str (oS "lap"),.str (oS "cminute"),.str (oS "csecond"),.str (oS "full")]
theorem Eo:∀x∈zS,oneOf x zS=true/\Fits x:=by
 intro x hx
 simp only[zS,Sf,List.not_mem_nil,or_false] at hx
 rcases hx with h | h | h | h | h | h | h | h | h | h | h | h | h<;>subst h<;>exact⟨by decide,.str _⟩
theorem Ex:∀x∈AY,oneOf x AY=true/\Fits x:=by
 intro x hx
 simp only[AY,Sf,List.not_mem_nil,or_false] at hx
 rcases hx with h | h | h | h<;>subst h<;>exact⟨by decide,.str _⟩
def AL:R->RT Out:=(l5 (l3 (i3 vV (c8 aT (c4 (c5 5) (c4 (i3 m9 (kI 10) (c5 7)) c7))) (kI 4)) (setAt 8))
 (l3 (i3 m9 (c5 6) (l7 (c4 (l7 (c4 (i3 i8 (i3 m9 (c5 2) (l7 (c4 (kS "count") c7))) (i3 ui (c5 8) (kI 13))) (c4 (i3 ui (i3 vV (c5 8) (kI 16)) (c5 1)) c7))) c7))) (setAt 6)))
theorem sz{n:Nat}(h:n<=1000):n<=sizeLine:=Sx h (by decide)
theorem rg{N m:Int}{ms rs:LD}{a b f:OD}{q j:Int}(hm:0<m)(hr:rs.length<=100)(hk:∀x∈rs,zM x m=true/\Fits x) :
  ∃o r,AL [some (.int N),some (.int m),some (.tup uD),some (.tup ms),a,some (.int q),some (.tup rs),some (.int j),b,f]=some (.nx [some (.int N),some (.int m),some (.tup uD),some (.tup ms),a,some (.int q),some (.tup (rs++[r])),some (.int j),o,f])/\zM r m=true/\Fits r:=by
 generalize hz:xI q (10+j) / 4=z
 obtain⟨x,hx,hat⟩:=zZ (xs:=zS) (i:=z%13) (SQ _ (by decide)) (SR _ (by decide))
 have w0:0<=z / 16%m:=SQ _ (by omega)
 have w1:z / 16%m<m:=SR _ hm
 have hl:rs.length+1<=sizeLine:=sz (by omega)
 have hd:uD++[.str (oS "count")]=zS:=rfl
 have hs:uD.length+1<=sizeLine:=by decide
 refine⟨some (.int z),.tup [x,.int (z / 16%m)],?_,?_,?_⟩
 ·have ha:m9 (.tup uD) (.tup [.str (oS "count")])=some (.tup zS):=by
   show(if uD.length+1<=sizeLine then some (D.tup (uD++[.str (oS "count")])) else none)=_
   rw[R3 hs,hd]
  have hb:m9 (.tup rs) (.tup [.tup [x,.int (z / 16%m)]])=some (.tup (rs++[.tup [x,.int (z / 16%m)]])):=by
   show(if rs.length+1<=sizeLine then _ else none)=_
   rw[R3 hl]
  have hv:vV (.int (xI q (10+j))) (.int 4)=some (.int z):=by rw[<- hz];rfl
  exact(k8 (l9 (i7 (i4 (m8 rfl (m8 (i7 rfl rfl rfl) rfl)) (zb _ _)) rfl hv) rfl)).trans (l9 (i7 rfl (tupS (m8 (tupS (m8 (i7 (i7 rfl rfl ha) (i7 rfl rfl (modS (by decide))) hat) (m8 (i7 (i7 rfl rfl rfl) rfl (modS hm)) rfl))) rfl)) hb) rfl)
 ·simp[zM,(Eo x hx).1,within,w0]
  omega
 ·exact .tup (by simp) (by
   intro y hy
   simp at hy
   rcases hy with h | h<;>subst h
   ·exact(Eo _ hx).2
   ·exact .int _)
def Eh:R->RT Out:=(l5 (l3 (i3 vV (c8 aT (c4 (c5 0) (c4 (c5 4) c7))) (kI 4)) (setAt 5))
  (l5 (l3 (l7 c7) (setAt 6))
  (l5 (Cs (x6 (kI 6)) (setAt 7) AL)
  (l5 (l3 (i3 i8 (l7 (c4 (kS "time") (c4 (kS "alarm") (c4 (kS "laps") (c4 (kS "count") c7))))) (i3 ui (c5 5) (kI 4))) (setAt 9))
  (l3 (i3 m9 (c5 3) (l7 (c4 (l7 (c4 (c5 9) (c4 (CP (k7 vY (i3 ui (i3 vV (c5 5) (kI 4)) (kI 2)) (kI 0))) (c4 (c5 6) c7)))) c7))) (setAt 3))))))
def Oh(N m q:Int)(ms:LD)(a f:OD)(i:Nat)(ρ:R):Prop:=∃rs o j,ρ=[some (.int N),some (.int m),some (.tup uD),some (.tup ms),a,some (.int q),some (.tup rs),j,o,f]/\rs.length=i/\∀x∈rs,zM x m=true/\Fits x
theorem pz{N m q:Int}{ms:LD}{a b c f:OD}(hm:0<m) :
  ∃rs o j,AA (setAt 7) AL (wQ 0 6) [some (.int N),some (.int m),some (.tup uD),some (.tup ms),a,some (.int q),some (.tup []),b,c,f]=some (.nx [some (.int N),some (.int m),some (.tup uD),some (.tup ms),a,some (.int q),some (.tup rs),j,o,f])/\rs.length=6/\∀x∈rs,zM x m=true/\Fits x:=by
 obtain⟨ρ',h1,rs,o,j,h2,h3,h4⟩:=Bi (st:=setAt 7) (body:=AL) (Oh N m q ms a f) (wQ 0 6) 0 [some (.int N),some (.int m),some (.tup uD),some (.tup ms),a,some (.int q),some (.tup []),b,c,f]
  ⟨[],c,b,rfl,rfl,fun x hx=>nomatch hx⟩ (fun i d ρ e p=>by
   obtain⟨rs,o,j,rfl,hl,hk⟩:=p
   obtain⟨rfl,hi⟩:=oQ e
   obtain⟨o',r,h1,h2,h3⟩:=rg (N:=N) (ms:=ms) (a:=a) (b:=o) (f:=f) (q:=q) (j:=(i:Int)) hm (rs:=rs) (by omega) hk
   refine⟨_,_,rfl,h1,rs++[r],o',_,rfl,by simp[hl],fun x hx=>?_⟩
   rcases Ti.mp hx with hx | hx
   ·exact hk x hx
   ·cases R4.mp hx
    exact⟨h2,h3⟩)
 subst h2
 refine⟨rs,o,j,h1,?_,h4⟩
 rw[h3,lu]
 rfl
theorem pQ{N m:Int}{ms:LD}{k:Int}{a b c d e:OD}(hm:0<m)(hms:ms.length<=100) :
  ∃r o1 o2 o3 o4 o5,Eh [some (.int N),some (.int m),some (.tup uD),some (.tup ms),some (.int k),a,b,c,d,e]=some (.nx [some (.int N),some (.int m),some (.tup uD),some (.tup (ms++[r])),some (.int k),o1,o2,o3,o4,o5])/\zh r m=true/\Fits r:=by
 generalize hq:xI N k / 4=q
 obtain⟨rs,o,j,h1,h2,h3⟩:=pz (N:=N) (m:=m) (q:=q) (ms:=ms) (a:=some (.int k)) (b:=c) (c:=d) (f:=e) hm
 obtain⟨x,hx,hat⟩:=zZ (xs:=AY) (i:=q%4) (SQ _ (by decide)) (SR _ (by decide))
 have hl:ms.length+1<=sizeLine:=sz (by omega)
 refine⟨.tup [x,.bl (q / 4%2==0),.tup rs],some (.int q),some (.tup rs),j,o,some x,?_,?_,?_⟩
 rotate_left 1
 ·have ha:(rs.all fun y=>zM y m)=true:=SF.mpr fun y hy=>(h3 y hy).1
  simp[zh,(Ex x hx).1,Fy,h2,ha]
 ·refine .tup (by simp) fun y hy=>?_
  simp at hy
  rcases hy with h | h | h<;>subst h
  ·exact(Ex _ hx).2
  ·exact .bl _
  ·exact .tup (by omega) fun y hy=>(h3 y hy).2
 ·have hat':H9 [.str (oS "time"),.str (oS "alarm"),.str (oS "laps"),.str (oS "count")] (q%4)=some x:=hat
  have hb:m9 (.tup ms) (.tup [.tup [x,.bl (q / 4%2==0),.tup rs]])=some (.tup (ms++[.tup [x,.bl (q / 4%2==0),.tup rs]])):=by
   show(if ms.length+1<=sizeLine then _ else none)=_
   rw[R3 hl]
  have hv:vV (.int (xI N k)) (.int 4)=some (.int q):=by rw[<- hq];rfl
  exact(k8 (l9 (i7 (i4 (m8 rfl rfl) (zb _ _)) rfl hv) rfl)).trans ((k8 (l9 (tupS rfl) rfl)).trans ((k8 (C7 (ds:=wQ 0 6) rfl h1)).trans ((k8 (l9 (i7 rfl (i7 rfl rfl (modS (by decide))) hat') rfl)).trans
   (l9 (i7 rfl (tupS (m8 (tupS (m8 rfl (m8 (Gg (ug (i7 (i7 rfl rfl rfl) rfl (modS (by decide))) rfl rfl)) rfl))) rfl)) hb) rfl))))
def Pj(N m:Int)(i:Nat)(ρ:R):Prop:=∃ms a b c d e f,ρ=[some (.int N),some (.int m),some (.tup uD),some (.tup ms),a,b,c,d,e,f]/\ms.length=i/\∀x∈ms,zh x m=true/\Fits x
theorem pE(N:Int):∃b,cM [.int N]=some b/\Dt b=true/\Fits b:=by
 generalize hM:1+N%8=m
 have hm0:0<m:=by have:=SQ N (show(8:Int)≠0 by decide);omega
 have hm8:m<=8:=by have:=SR N (show(0:Int)<8 by decide);omega
 obtain⟨ρ',h1,ms,a,b,c,d,e,f,h2,h3,h4⟩:=Bi (st:=setAt 4) (body:=Eh) (Pj N m) (wQ 0 m) 0 [some (.int N),some (.int m),some (.tup uD),some (.tup []),none,none,none,none,none,none]
  ⟨[],none,none,none,none,none,none,rfl,rfl,fun x hx=>nomatch hx⟩ (fun i d ρ e p=>by
   obtain⟨ms,a,b,c,d',e',f,rfl,hl,hk⟩:=p
   obtain⟨rfl,hi⟩:=oQ e
   obtain⟨r,o1,o2,o3,o4,o5,h1,h2,h3⟩:=pQ (N:=N) (ms:=ms) (k:=(i:Int)) (a:=b) (b:=c) (c:=d') (d:=e') (e:=f) hm0 (by omega)
   refine⟨_,_,rfl,h1,ms++[r],_,_,_,_,_,_,rfl,by simp[hl],fun x hx=>?_⟩
   rcases Ti.mp hx with hx | hx
   ·exact hk x hx
   ·cases R4.mp hx
    exact⟨h2,h3⟩)
 subst h2
 rw[lu] at h3
 have hlen:((ms.length:Nat):Int)=m:=by omega
 have hr : -4611686018427387904<=m/\m<4611686018427387904:=by omega
 obtain⟨p,hp,hat⟩:=zZ (xs:=[.int 3,.int 9]) (i:=N / 128%2) (SQ _ (by decide)) (SR _ (by decide))
 have hp':∃v:Int,p=.int v/\0<v/\v<=9:=by
  simp at hp
  rcases hp with h | h<;>subst h
  ·exact⟨3,rfl,by decide,by decide⟩
  ·exact⟨9,rfl,by decide,by decide⟩
 obtain⟨v,rfl,hv0,hv9⟩:=hp'
 obtain⟨p2,hp2,hat2⟩:=zZ (xs:=[.int 0,.int 7,.int 60,.int 1,.int 20]) (i:=N / 256%5) (SQ _ (by decide)) (SR _ (by decide))
 have hp2':∃v:Int,p2=.int v/\0<=v/\v<=60:=by
  simp at hp2
  rcases hp2 with h | h | h | h | h<;>subst h
  ·exact⟨0,rfl,by decide,by decide⟩
  ·exact⟨7,rfl,by decide,by decide⟩
  ·exact⟨60,rfl,by decide,by decide⟩
  ·exact⟨1,rfl,by decide,by decide⟩
  ·exact⟨20,rfl,by decide,by decide⟩
 obtain⟨v2,rfl,hv20,hv260⟩:=hp2'
 have w0:0<=N / 8%v:=SQ _ (by omega)
 have w1:N / 8%v<v:=SR _ hv0
 refine⟨.tup [.int (1+N / 8%v),.int v2,.tup ms],?_,?_,?_⟩
 ·have hi:x6 (c5 1) [some (.int N),some (.int m),some (.tup uD),some (.tup []),none,none,none,none,none,none]=some (wQ 0 m):=by
   show(if -4611686018427387904<=m/\m<4611686018427387904 then some (wQ 0 m) else none)=_
   rw[R3 hr]
  have h0:m9 (.int 1) (.int (N%8))=some (.int m):=by rw[<- hM];rfl
  exact k9 ((k8 (l9 (i7 rfl (i7 rfl rfl (modS (by decide))) h0) rfl)).trans ((k8 (l9 rfl rfl)).trans ((k8 (l9 (tupS rfl) rfl)).trans ((k8 (C7 hi h1)).trans (retS (tupS (m8 (i7 rfl (i7 (i7 rfl rfl rfl) (i7 rfl (i7 (i7 rfl rfl rfl) rfl (modS (by decide))) hat) (modS hv0)) rfl) (m8 (i7 rfl (i7 (i7 rfl rfl rfl) rfl (modS (by decide))) hat2) rfl))))))))
 ·have ha:(ms.all fun y=>zh y ms.length)=true:=SF.mpr fun y hy=>by rw[hlen];exact(h4 y hy).1
  have g1:1<=ms.length:=by omega
  have g8:ms.length<=8:=by omega
  simp[Dt,within,Dg,ha,g1,g8]
  omega
 ·refine .tup (by simp) fun y hy=>?_
  simp at hy
  rcases hy with h | h | h<;>subst h
  ·exact .int _
  ·exact .int _
  ·exact .tup (by omega) fun y hy=>(h4 y hy).2
def lj:R->RT Out:=
  (l5 (l3 (i3 i8 (kS "abcaab") (i3 ui (i3 vV (c5 0) (kI 8)) (kI 6))) (setAt 1))
  (l5 (l3 (i3 ui (c5 0) (kI 8)) (setAt 2))
  (l5 (y3 (k7 Ow (c5 2) (kI 3))
  (l4 (l7 (c4 (kS "down") (c4 (c5 1) c7))))
  uu)
  (l5 (y3 (k7 Ow (c5 2) (kI 6))
  (l4 (l7 (c4 (kS "up") (c4 (c5 1) c7))))
  uu)
  (l4 (l7 (c4 (kS "ticks") (c4 (i3 m9 (kI 1) (i3 ui (i3 vV (c5 0) (kI 64)) (i3 i8 (l7 (c4 (kI 4) (c4 (kI 12) (c4 (kI 130) c7)))) (i3 ui (i3 vV (c5 0) (kI 4096)) (kI 3))))) c7))))))))
def cz:LD->OD:=via 1 3 lj
def MP:Ev->Prop
 | .ticks n=>n<=130
 | _=>True
def Ev.Lt(e:Ev):Prop:=e.Ok/\MP e
theorem Qk{i:Int}(h0:0<=i)(h1:i<6):∃x:wL,i8 (.str (oS "abcaab")) (.int i)=some (.str x.x):=by
 have:i=0\/i=1\/i=2\/i=3\/i=4\/i=5:=by omega
 rcases this with rfl | rfl | rfl | rfl | rfl | rfl
 ·exact⟨.a,rfl⟩
 ·exact⟨.b,rfl⟩
 ·exact⟨.c,rfl⟩
 ·exact⟨.a,rfl⟩
 ·exact⟨.a,rfl⟩
 ·exact⟨.b,rfl⟩
theorem NO{i:Int}(h0:0<=i)(h1:i<3):∃t:Int,i8 (.tup [.int 4,.int 12,.int 130]) (.int i)=some (.int t)/\0<t/\t<=130:=by
 have:i=0\/i=1\/i=2:=by omega
 rcases this with rfl | rfl | rfl
 ·exact⟨4,rfl,by decide,by decide⟩
 ·exact⟨12,rfl,by decide,by decide⟩
 ·exact⟨130,rfl,by decide,by decide⟩
theorem E6(n:Int):∃e:Ev,cz [.int n]=some e.d/\e.Lt:=by
 obtain⟨x,hx⟩:=Qk (i:=n / 8%6) (by omega) (by omega)
 by_cases h1:n%8<3
 ·exact⟨.down x,k9 ((k8 (l9 (i7 rfl (i7 (i7 rfl rfl rfl) rfl (modS (by decide))) hx) rfl)).trans ((k8 (l9 (i7 rfl rfl (modS (by decide))) rfl)).trans (v4 ((zV (ug rfl rfl (dT h1))).trans (retS rfl))))),trivial,trivial⟩
 ·by_cases h2:n%8<6
  ·exact⟨.up x,k9 ((k8 (l9 (i7 rfl (i7 (i7 rfl rfl rfl) rfl (modS (by decide))) hx) rfl)).trans ((k8 (l9 (i7 rfl rfl (modS (by decide))) rfl)).trans ((k8 (yV (ug rfl rfl (dF h1)))).trans (v4 ((zV (ug rfl rfl (dT h2))).trans (retS rfl)))))),trivial,trivial⟩
  ·obtain⟨t,ht,t0,t1⟩:=NO (i:=n / 4096%3) (by omega) (by omega)
   have hm:=SQ (n / 64) (show t≠0 by omega)
   have hm2:=SR (n / 64) t0
   exact⟨.ticks (1+n / 64%t),k9 ((k8 (l9 (i7 rfl (i7 (i7 rfl rfl rfl) rfl (modS (by decide))) hx) rfl)).trans ((k8 (l9 (i7 rfl rfl (modS (by decide))) rfl)).trans ((k8 (yV (ug rfl rfl (dF h1)))).trans ((k8 (yV (ug rfl rfl (dF h2)))).trans (retS (tupS (m8 rfl (m8 (i7 rfl (i7 (i7 rfl rfl rfl) (i7 rfl (i7 (i7 rfl rfl rfl) rfl (modS (by decide))) ht) (modS t0)) rfl) rfl)))))))),by show 1<=_;omega,by show _<=130;omega⟩
def lD:R->RT Out:=
  (l5 (y3 (k7 vY (i3 ui (c5 1) (kI 2)) (kI 0))
  (l4 (c5 0))
  uu)
  (l5 (l3 (i3 ui (i3 vV (c5 1) (kI 2)) (c8 xi (c4 (i3 i8 (c5 0) (kI 2)) c7))) (setAt 2))
  (l5 (l3 (l7 (c4 (l7 (c4 (kS "csecond") (c4 (kI 0) c7))) (c4 (l7 (c4 (kS "count") (c4 (c5 2) c7))) (c4 (l7 (c4 (kS "aminute") (c4 (kI 0) c7))) (c4 (l7 (c4 (kS "alarm") (c4 (kI 0) c7))) (c4 (l7 (c4 (kS "full") (c4 (kI 0) c7))) (c4 (l7 (c4 (kS "none") (c4 (c5 2) c7))) c7))))))) (setAt 3))
  (l4 (l7 (c4 (i3 i8 (c5 0) (kI 0)) (c4 (i3 i8 (c5 0) (kI 1)) (c4 (i3 m9 (l7 (c4 (l7 (c4 (kS "count") (c4 (fun _=>some (.bl true)) (c4 (c5 3) c7)))) c7)) (LQ (i3 i8 (c5 0) (kI 2)) (aP (kI 1)) Pe)) c7))))))))
def cu:LD->OD:=via 2 4 lD
def Bz(b:Bk)(n:Int):Bk:=if n%2=0 then b else ⟨b.hold,b.back,⟨.count,true,[(.csecond,0),(.count,(n / 2%(b.modes.length:Int)).toNat),(.aminute,0),(.alarm,0),(.full,0),(.none,(n / 2%(b.modes.length:Int)).toNat)]⟩::b.modes.tail⟩
theorem HG{b:Bk}(ok:b.Ok)(n:Int):(Bz b n).Ok:=by
 unfold Bz
 split
 ·exact ok
 ·have h1:=ok.some1
  have h0:(0:Int)<(b.modes.length:Int):=by omega
  have m0:=SQ (n / 2) (show(b.modes.length:Int)≠0 by omega)
  have m1:=SR (n / 2) h0
  have hl:b.modes.tail.length+1=b.modes.length:=by rw[List.length_tail];omega
  generalize hg:n / 2%(b.modes.length:Int)=g at *
  refine⟨ok.hold1,ok.hold9,ok.back0,ok.back60,Nat.succ_le_succ (SU _),by show b.modes.tail.length+1<=8;rw[hl];exact ok.some8,fun m hm=>?_⟩
  show m.Ok (b.modes.tail.length+1)
  rw[hl]
  rcases Sf.mp hm with rfl | hm
  ·refine⟨rfl,fun r hr=>?_⟩
   simp only[Sf,List.not_mem_nil,or_false] at hr
   rcases hr with rfl | rfl | rfl | rfl | rfl | rfl<;>show _<b.modes.length<;>omega
  ·exact ok.all m (List.mem_of_mem_tail hm)
theorem Ph(xs ys:LD):cutD (xs++ys) (some (xs.length:Int)) none=ys:=by
 unfold cutD Hf
 dsimp only
 rw[Sa (by omega)]
 simp
theorem JM(m:D)(ms:LD):Pb (.tup (m::ms)) (some 1) none=some (.tup ms):=by
 show some (D.tup (cutD (m::ms) (some 1) none))=_
 rw[show cutD (m::ms) (some 1) none=ms from Ph [m] ms]
theorem rS{b:Bk}(ok:b.Ok)(n:Int):cu [b.d,.int n]=some (Bz b n).d:=by
 have h1:=ok.some1
 have h0:(b.modes.length:Int)≠0:=by omega
 have m0:=SQ (n / 2) h0
 have z:1000<=sizeLine:=by decide
 unfold Bz
 by_cases h:n%2=0
 ·rw[R3 h]
  exact k9 (v4 ((zV (ug (i7 rfl rfl (modS (by decide))) rfl (by show some (n%2==0)=some true;rw[h];rfl))).trans (retS rfl)))
 ·rw[Sa h]
  have hlen:xi [.tup (b.modes.map Md.d)]=some (.int (b.modes.length:Int)):=by show some (D.int ((b.modes.map Md.d).length:Int))=_;rw[R7]
  have hms:b.modes.map Md.d=(b.modes.map Md.d).head!::b.modes.tail.map Md.d:=by
   cases hb:b.modes with
   | nil=>rw[hb] at h1;exact Sm h1 (by decide)
   | cons m ms=>rfl
  have hsl:Pb (.tup (b.modes.map Md.d)) (some 1) none=some (.tup (b.modes.tail.map Md.d)):=by rw[hms,JM]
  have e8:=ok.some8
  have htl:b.modes.tail.length<=8:=by rw[List.length_tail];omega
  have had:∀x:D,m9 (.tup [x]) (.tup (b.modes.tail.map Md.d))=some (.tup (x::b.modes.tail.map Md.d)):=fun x=>by
   show(if [x].length+(b.modes.tail.map Md.d).length<=sizeLine then _ else none)=_
   rw[R3 (by rw[R7];show 1+_<=_;omega)];rfl
  have hg:((n / 2%(b.modes.length:Int)).toNat:Int)=n / 2%(b.modes.length:Int):=Int.toNat_of_nonneg m0
  generalize hgg:n / 2%(b.modes.length:Int)=g at *
  have s1:l3 (i3 ui (i3 vV (c5 1) (kI 2)) (c8 xi (c4 (i3 i8 (c5 0) (kI 2)) c7))) (setAt 2) [some b.d,some (.int n),none,none]=some (.nx [some b.d,some (.int n),some (.int g),none]):=by
   rw[<- hgg]
   exact l9 (i7 (i7 rfl rfl rfl) (i4 (m8 (i7 rfl rfl rfl) rfl) hlen) (modS (by omega))) rfl
  refine k9 ((k8 (yV (ug (i7 rfl rfl (modS (by decide))) rfl (by show some (n%2==0)=some false;rw[SD.mpr h])))).trans ((k8 s1).trans ((k8 (l9 (d:=.tup [.tup [.str (oS "csecond"),.int 0],.tup [.str (oS "count"),.int g],.tup [.str (oS "aminute"),.int 0],.tup [.str (oS "alarm"),.int 0],.tup [.str (oS "full"),.int 0],.tup [.str (oS "none"),.int g]]) rfl rfl)).trans ?_)))
  refine(retS (tupS (m8 (i7 rfl rfl rfl) (m8 (i7 rfl rfl rfl) (m8 (i7 (x:=.tup [.tup [.str (oS "count"),.bl true,.tup [.tup [.str (oS "csecond"),.int 0],.tup [.str (oS "count"),.int g],.tup [.str (oS "aminute"),.int 0],.tup [.str (oS "alarm"),.int 0],.tup [.str (oS "full"),.int 0],.tup [.str (oS "none"),.int g]]]]) rfl (Dl (i7 rfl rfl rfl) rfl rfl hsl) (had _)) rfl))))).trans ?_
  rw[<- hg];rfl
def pH:R->RT Out:=
  (GN 1 c7
  (wB (z6 (GS (k7 Nv (c5 0) (fun _=>some eZ))))
  (wB (B9 1 (c8 Fl (c4 (c5 0) c7)))
  (Ay (l4 (c8 Dv (c4 (kS "") (c4 (c5 1) c7))))))))
def cK:LD->OD:=via 1 2 pH
theorem NR{p:R->LD->RT (Out×LD)}{q:R->LD->RT Out}{ρ ρ2:R}{ds ds2:LD}(h:p ρ ds=some (.nx ρ2,ds2)):wB p q ρ ds=q ρ2 ds2:=by simp[wB,h]
def tx(i:Int):Str:=Str.ofString (toString i)
theorem CI{n:Int}(h0:0<=n)(h1:n<1000000000000000000):n.natAbs.log2<1920:=by
 have h2:n.natAbs<2 ^ 60:=by omega
 by_cases hz:n.natAbs=0
 ·rw[hz];decide
 ·have:=(Nat.log2_lt hz).mpr h2;omega
theorem Dm{n:Int}(h0:0<=n)(h1:n<1000000000000000000):(tx n).length<=1921:=PyProof.Rows.int_text_len_1921 (CI h0 h1)
theorem Lu{n:Int}(h0:0<=n)(h1:n<1000000000000000000):Fl [.int n]=some (.str (tx n)):=R3 (CI h0 h1)
theorem O4{x:Str}(h:x.length<=100000):Dv [.str (oS ""),.lst [.str x]]=some (.str x):=by
 have z:100000<=sizeLine:=by decide
 have e:(oS "").length=0:=by decide +kernel
 show(En (oS "") [x]).map D.str=_
 unfold En
 rw[R3]
 ·rfl
 ·constructor
  ·show 0+x.length+(oS "").length<=sizeLine
   rw[e];omega
  ·show x.length<=sizeLine
   omega
theorem ku{n:Int}(h0:0<=n)(h1:n<1000000000000000000):cK [.int n]=some (.str (tx n)):=by
 have hw:GS (k7 Nv (c5 0) (fun _=>some eZ)) [some (.int n)]=some (.nx [some (.int n)]):=by
  have:¬ (1000000000000000000:Int)<=n:=by omega
  simp[eZ,this]
 have hs:=Lu h0 h1
 have hj:=O4 (x:=tx n) (Sx (Dm h0 h1) (by decide))
 have z:0<sizeLine:=by decide
 have a1:z6 (GS (k7 Nv (c5 0) (fun _=>some eZ))) [some (.int n)] []=some (.nx [some (.int n)],[]):=by
  show(GS _ _).map _=_
  rw[hw];rfl
 have a2:B9 1 (c8 Fl (c4 (c5 0) c7)) [some (.int n)] []=some (.nx [some (.int n)],[.str (tx n)]):=by
  show((Fl [.int n]).bind _)=_
  rw[hs]
  show(if 1=1/\0<sizeLine then _ else none)=_
  rw[R3 ⟨rfl,z⟩];rfl
 show yr (wB (z6 (GS (k7 Nv (c5 0) (fun _=>some eZ)))) _ [some (.int n)] [])=_
 rw[NR a1,NR a2]
 show yr ((Dv [.str (oS ""),.lst [.str (tx n)]]).map .rt)=_
 rw[hj];rfl
def jR:R->RT Out:=
 (l4 (c8 Pk (c4 (c8 cK (c4 (c5 0) c7)) (c4 (kI 2) (c4 (kS "0") c7)))))
def aM:LD->OD:=via 1 1 jR
def Jw(n:Int):Str:=Li (tx n) 2 48
theorem yI{n:Int}(h0:0<=n)(h1:n<1000000000000000000):(Jw n).length<=1921:=by
 unfold Jw Li
 have:=Dm h0 h1
 split
 ·exact this
 ·show(Array.replicate _ _++(tx n).cps++Array.replicate _ _).size<=_
  have e:(tx n).cps.size=(tx n).length:=rfl
  simp
  omega
theorem cL{n:Int}(h0:0<=n)(h1:n<1000000000000000000):aM [.int n]=some (.str (Jw n)):=by
 have hf:Pk [.str (tx n),.int 2,.str (oS "0")]=some (.str (Jw n)):=by
  have e:(oS "0").length=1:=by decide +kernel
  have e2:(oS "0").cps.getD 0 0=48:=by decide +kernel
  show(if (0:Int)<=2/\(2:Int)<=1000/\(oS "0").length=1 then some (D.str (Li (tx n) (2:Int).toNat ((oS "0").cps.getD 0 0))) else none)=_
  rw[R3 ⟨by decide,by decide,e⟩,e2];rfl
 exact k9 (retS (i4 (m8 (i4 rfl (ku h0 h1)) rfl) hf))
def l_:R->RT Out:=
 (l4 (i3 m9 (i3 m9 (c8 aM (c4 (c5 0) c7)) (kS ":")) (c8 aM (c4 (c5 1) c7))))
def bM:LD->OD:=via 2 2 l_
theorem Dw{x y:Str}(h:x.length+y.length<=100000):m9 (.str x) (.str y)=some (.str (x++y)):=by
 have z:100000<=sizeLine:=by decide
 show(if x.length+y.length<=sizeLine then _ else none)=_
 rw[R3 (by omega)]
theorem wO(x y:Str):(x++y).length=x.length+y.length:=by
 show(x.cps++y.cps).size=_
 simp;rfl
def colon:Str:=oS ":"
theorem vm:colon.length=1:=by decide +kernel
def Az(h m:Int):Str:=Jw h++colon++Jw m
theorem CS{h m:Int}(a0:0<=h)(a1:h<1000000000000000000)(b0:0<=m)(b1:m<1000000000000000000):(Az h m).length<=3843:=by
 unfold Az
 rw[wO,wO,vm]
 have:=yI a0 a1
 have:=yI b0 b1
 omega
theorem iu{h m:Int}(a0:0<=h)(a1:h<1000000000000000000)(b0:0<=m)(b1:m<1000000000000000000):bM [.int h,.int m]=some (.str (Az h m)):=by
 have l1:=yI a0 a1
 have l2:=yI b0 b1
 refine k9 (retS (i7 (i7 (i4 rfl (cL a0 a1)) rfl (Dw ?_)) (i4 rfl (cL b0 b1)) (Dw ?_)))
 ·rw[show(oS ":").length=1 from vm];omega
 ·rw[wO,show(oS ":").length=1 from vm];omega
def mJ:R->RT Out:=
  (l5 (l3 (i3 i8 (c5 0) (fun _=>some aW)) (setAt 1))
  (l4 (i3 m9 (i3 m9 (c8 bM (c4 (i3 vV (c5 1) (kI 3600)) (c4 (i3 ui (i3 vV (c5 1) (kI 60)) (kI 60)) c7))) (kS ":")) (c8 aM (c4 (i3 ui (c5 1) (kI 60)) c7)))))
def cN:LD->OD:=via 1 2 mJ
def Ly(s:WS):Str:=Az (s.clock / 3600) (s.clock / 60%60)++colon++Jw (s.clock%60)
theorem mr{b:Bk}{s:WS}(w:s.Wk b):cN [s.d]=some (.str (Ly s)):=by
 have c0:=w.clock0
 have c1:=w.clock1
 have l1:=CS (h:=s.clock / 3600) (m:=s.clock / 60%60) (by omega) (by omega) (by omega) (by omega)
 have l2:=yI (n:=s.clock%60) (by omega) (by omega)
 refine k9 ((k8 (l9 (i7 rfl rfl (w1 s)) rfl)).trans (retS (i7 (i7 (i4 (m8 (i7 rfl rfl rfl) (m8 (i7 (i7 rfl rfl rfl) rfl (modS (by decide))) rfl)) (iu (h:=s.clock / 3600) (m:=s.clock / 60%60) (by omega) (by omega) (by omega) (by omega))) rfl (Dw ?_)) (i4 (m8 (i7 rfl rfl (modS (by decide))) rfl) (cL (n:=s.clock%60) (by omega) (by omega))) (Dw ?_))))
 ·rw[show(oS ":").length=1 from vm];omega
 ·rw[wO,show(oS ":").length=1 from vm];omega
def kL:R->RT Out:=
  (l5 (l3 (i3 i8 (c5 0) (fun _=>some bf)) (setAt 1))
  (l4 (i3 m9 (c8 bM (c4 (i3 i8 (c5 1) (kI 0)) (c4 (i3 i8 (c5 1) (kI 1)) c7))) (DD (wY (i3 i8 (c5 1) (kI 2))) (kS " on") (kS "")))))
def cg:LD->OD:=via 1 2 kL
def N4:Str:=oS " on"
theorem JP:N4.length=3:=by decide +kernel
theorem Ec:(oS "").length=0:=by decide +kernel
def Ij(s:WS):Str:=Az s.ah s.am++(if s.aon then N4 else oS "")
theorem lf{b:Bk}{s:WS}(w:s.Wk b):cg [s.d]=some (.str (Ij s)):=by
 have a0:=w.ah0
 have a1:s.ah<1000000000000000000:=by have:=w.ah1;omega
 have b0:=w.am0
 have b1:s.am<1000000000000000000:=by have:=w.am1;omega
 have l:=CS a0 a1 b0 b1
 have hon:∀(o:Bool) (ρ:R),(wY (i3 i8 (c5 1) (kI 2))) ρ=some o->(DD (wY (i3 i8 (c5 1) (kI 2))) (kS " on") (kS "")) ρ=some (.str (if o then N4 else oS "")):=fun o ρ h=>by
  cases o
  ·exact G9 h rfl
  ·exact Fm h rfl
 refine k9 ((k8 (l9 (i7 rfl rfl (w2 s)) rfl)).trans (retS (i7 (i4 (m8 (i7 rfl rfl (NY s)) (m8 (i7 rfl rfl (Pf s)) rfl)) (iu a0 a1 b0 b1)) (hon s.aon _ (Ca (i7 rfl rfl (O9 s)))) (Dw ?_))))
 cases s.aon
 ·show(Az s.ah s.am).length+(oS "").length<=_
  rw[Ec];omega
 ·show(Az s.ah s.am).length+N4.length<=_
  rw[JP];omega
def jP:R->RT Out:=
 (l4 (i3 m9 (i3 m9 (c8 cK (c4 (i3 vV (c5 0) (kI 60)) c7)) (kS ":")) (c8 aM (c4 (i3 ui (c5 0) (kI 60)) c7))))
def bu:LD->OD:=via 1 1 jP
def EY(s:Int):Str:=tx (s / 60)++colon++Jw (s%60)
theorem gf{s:Int}(a0:0<=s)(a1:s<1000000000000000000):bu [.int s]=some (.str (EY s))/\(EY s).length<=3843:=by
 have c0:0<=s / 60:=by omega
 have c1:s / 60<1000000000000000000:=by omega
 have d0:0<=s%60:=by omega
 have d1:s%60<1000000000000000000:=by omega
 have l1:=Dm c0 c1
 have l2:=yI d0 d1
 constructor
 ·refine k9 (retS (i7 (i7 (i4 (m8 (i7 rfl rfl rfl) rfl) (ku c0 c1)) rfl (Dw ?_)) (i4 (m8 (i7 rfl rfl (modS (by decide))) rfl) (cL d0 d1)) (Dw ?_)))
  ·rw[show(oS ":").length=1 from vm];omega
  ·rw[wO,show(oS ":").length=1 from vm];omega
 ·unfold EY
  rw[wO,wO,vm];omega
def ng:R->RT Out:=
  (l5 (l3 (i3 i8 (c5 0) (fun _=>some bY)) (setAt 1))
  (l5 (l3 (c8 xi (c4 (i3 i8 (c5 1) (kI 2)) c7)) (setAt 2))
  (l4 (i3 m9 (c8 bu (c4 (i3 i8 (c5 1) (kI 0)) c7)) (DD (k7 EF (c5 2) (kI 0)) (i3 m9 (kS " +") (c8 Fl (c4 (c5 2) c7))) (kS ""))))))
def cS:LD->OD:=via 1 3 ng
def Jb:Str:=oS " +"
theorem Ci:Jb.length=2:=by decide +kernel
def Es(n:Nat):Str:=if 0<n then Jb++tx n else oS ""
def Ld(s:WS):Str:=EY s.lm++Es s.lk.length
theorem lZ{b:Bk}{s:WS}(w:s.Wk b)(hl:s.lm<1000000000000000000):cS [s.d]=some (.str (Ld s)):=by
 have a0:=w.lm0
 obtain⟨e,l⟩:=gf a0 hl
 have hk:=w.lk
 have k0:(0:Int)<=(s.lk.length:Int):=by omega
 have k1:(s.lk.length:Int)<1000000000000000000:=by omega
 have l2:=Dm k0 k1
 have hlen:c8 xi (c4 (i3 i8 (c5 1) (kI 2)) c7) [some s.d,some s.lapsD,none]=some (.int (s.lk.length:Int)):=i4 (m8 (i7 rfl rfl (On s)) rfl) (by simp)
 have hm:(DD (k7 EF (c5 2) (kI 0)) (i3 m9 (kS " +") (c8 Fl (c4 (c5 2) c7))) (kS "")) [some s.d,some s.lapsD,some (.int (s.lk.length:Int))]=some (.str (Es s.lk.length)):=by
  unfold Es
  by_cases h:0<s.lk.length
  ·rw[R3 h]
   exact Fm (ug rfl rfl (dT (by omega))) (i7 rfl (i4 rfl (Lu k0 k1)) (Dw (by rw[show(oS " +").length=2 from Ci];omega)))
  ·rw[Sa h]
   exact G9 (ug rfl rfl (dF (by omega))) rfl
 refine k9 ((k8 (l9 (i7 rfl rfl (w3 s)) rfl)).trans ((k8 (l9 hlen rfl)).trans (retS (i7 (i4 (m8 (i7 rfl rfl (NT s)) rfl) e) hm (Dw ?_)))))
 unfold Es
 split
 ·rw[wO,Ci];omega
 ·rw[Ec];omega
def la:R->RT Out:=
 (l4 (c8 bu (c4 (i3 i8 (i3 i8 (c5 0) (fun _=>some aO)) (kI 2)) c7)))
def ci:LD->OD:=via 1 1 la
theorem li{b:Bk}{s:WS}(w:s.Wk b):ci [s.d]=some (.str (EY s.cl)):=by
 have a0:=w.cl0
 have a1:s.cl<1000000000000000000:=by have:=w.cl1;omega
 exact k9 (retS (i4 (m8 (i7 (i7 rfl rfl (w4 s)) rfl (PJ s)) rfl) (gf a0 a1).1))
def vA:List (Str×(LD->OD)):=[(oS "time",cN),(oS "alarm",cg),(oS "laps",cS),(oS "count",ci)]
def sh:R->RT Out:=
  (l5 (l3 (i3 i8 (i3 i8 (i3 i8 (c5 0) (kI 2)) (i3 i8 (c5 1) (fun _=>some bT))) (kI 0)) (setAt 2))
  (NJ 3 vA (c5 2) (fun G_=>(l4 (l7 (c4 (c5 2) (c4 (c8 G_ (c4 (c5 1) c7)) (c4 (CP (k7 EF (i3 i8 (c5 1) (fun _=>some eO)) (kI 0))) c7))))))))
def dC:LD->OD:=via 2 4 sh
def FX(f:Face)(s:WS):Str:=match f with
 | .time=>Ly s
 | .alarm=>Ij s
 | .laps=>Ld s
 | .count=>EY s.cl
theorem C0{b:Bk}{s:WS}(w:s.Wk b)(hl:s.lm<1000000000000000000)(f:Face):∃F,vA.lookup f.x=some F/\F [s.d]=some (.str (FX f s)):=by
 cases f
 ·exact⟨_,rfl,mr w⟩
 ·exact⟨_,rfl,lf w⟩
 ·exact⟨_,rfl,lZ w hl⟩
 ·exact⟨_,rfl,li w⟩
theorem oC{b:Bk}{s:WS}(w:s.Wk b)(hl:s.lm<1000000000000000000):dC [b.d,s.d]=some (.tup [.str (b.modes.getD s.mode default).face.x,.str (FX (b.modes.getD s.mode default).face s),.bl (decide (0<s.ring))]):=by
 have hm:=k_ b w.mode
 generalize b.modes.getD s.mode default=md at *
 obtain⟨F,h1,h2⟩:=C0 w hl md.face
 have q1:l3 (i3 i8 (i3 i8 (i3 i8 (c5 0) (kI 2)) (i3 i8 (c5 1) (fun _=>some bT))) (kI 0)) (setAt 2) [some b.d,some s.d,none,none]=some (.nx [some b.d,some s.d,some (.str md.face.x),none]):=
  l9 (i7 (i7 (i7 rfl rfl (b2 b)) (i7 rfl rfl (w0 s)) hm) rfl (m0 md)) rfl
 refine k9 ((k8 q1).trans ?_)
 simp[-i8,NJ,h1,h2,eO,w5]
def kP:R->RT Out:=
  (l5 (l3 (c8 aL (c4 (c5 0) c7)) (setAt 2))
  (l5 (l3 (c8 aN (c4 (c5 0) c7)) (setAt 3))
  (l5 (l3 (DD (C9 (k7 zu (c5 2) (fun _=>some .non)) (k7 EF (c5 2) (c5 1))) (kI 0) (i3 m9 (i3 vV (i3 w9 (c5 1) (c5 2)) (fun _=>some dI)) (kI 1))) (setAt 4))
  (l5 (l3 (DD (C9 (k7 zu (c5 3) (fun _=>some .non)) (C9 (k7 EF (c5 3) (c5 1)) (k7 yn (c5 3) (c5 2)))) (kI 0) (kI 1)) (setAt 5))
  (l4 (i3 m9 (c5 4) (c5 5)))))))
def bg:LD->OD:=via 2 6 kP
def zg(b:Bk)(s:WS)(n:Int):List Int:=match t6 b s with
 | none=>u0 s n
 | some t=>if n<t then u0 s n else u0 s t++(u0 (behind b s t) (n - t)).map (t+·)
def PL(n:Int)(o:RT Int):Int:=match o with
 | some a=>if n<a then 0 else (n - a) / 86400+1
 | none=>0
def PZ(n:Int)(o p:RT Int):Int:=match p with
 | some c=>if n<c then 0 else if o=some c then 0 else 1
 | none=>0
theorem IP{c d:R->RT Bool}{ρ:R}(h1:c ρ=some true):C9 c d ρ=some true:=by simp[h1]
theorem Gw{c d:R->RT Bool}{ρ:R}{b:Bool}(h1:c ρ=some false)(h2:d ρ=some b):C9 c d ρ=some b:=by simp[h1,h2]
theorem pY(c:Int)(o:RT Int):yn (.int c) (uk o)=some (decide (o=some c)):=by
 cases o with
 | none=>rfl
 | some a =>
  show some (c==a)=_
  by_cases h:a=c
  ·subst h;simp
  ·have h1:¬ c=a:=fun z=>h z.symm
   have h2:¬ (some a=some c):=fun z=>h (Si z)
   rw[Sz h2,SD.mpr h1]
theorem RQ(n:Int)(a:RT Int)(r:R)(x:OD):(DD (C9 (k7 zu (c5 2) (fun _=>some .non)) (k7 EF (c5 2) (c5 1))) (kI 0) (i3 m9 (i3 vV (i3 w9 (c5 1) (c5 2)) (fun _=>some dI)) (kI 1))) (x::some (.int n)::some (uk a)::r)=some (.int (PL n a)):=by
 cases a with
 | none=>exact Fm (IP (ug rfl rfl rfl)) rfl
 | some a =>
  show _=some (D.int (if n<a then 0 else (n - a) / 86400+1))
  by_cases h:n<a
  ·rw[R3 h]
   exact Fm (Gw (ug rfl rfl rfl) (ug rfl rfl (dT h))) rfl
  ·rw[Sa h]
   exact G9 (NH (ug rfl rfl rfl) (ug rfl rfl (dF h))) (i7 (i7 (i7 rfl rfl rfl) rfl rfl) rfl rfl)
theorem Rx(n:Int)(a c:RT Int)(r:R)(x:OD):(DD (C9 (k7 zu (c5 3) (fun _=>some .non)) (C9 (k7 EF (c5 3) (c5 1)) (k7 yn (c5 3) (c5 2)))) (kI 0) (kI 1)) (x::some (.int n)::some (uk a)::some (uk c)::r)=some (.int (PZ n a c)):=by
 cases c with
 | none=>exact Fm (IP (ug rfl rfl rfl)) rfl
 | some c =>
  show _=some (D.int (if n<c then 0 else if a=some c then 0 else 1))
  by_cases h:n<c
  ·rw[R3 h]
   exact Fm (Gw (ug rfl rfl rfl) (IP (ug rfl rfl (dT h)))) rfl
  ·rw[Sa h]
   by_cases h2:a=some c
   ·rw[R3 h2]
    exact Fm (Gw (ug rfl rfl rfl) (Gw (ug rfl rfl (dF h)) (ug rfl rfl ((pY c a).trans (by rw[S9 h2]))))) rfl
   ·rw[Sa h2]
    exact G9 (NH (ug rfl rfl rfl) (NH (ug rfl rfl (dF h)) (ug rfl rfl ((pY c a).trans (by rw[Sz h2]))))) rfl
theorem j7(s:WS)(n:Int):bg [s.d,.int n]=some (.int (PL n (m7 s)+PZ n (m7 s) (uc s))):=
 k9 ((k8 (l9 (i4 rfl (eE s)) rfl)).trans ((k8 (l9 (i4 rfl (eM s)) rfl)).trans ((k8 (l9 (RQ n _ _ _) rfl)).trans ((k8 (l9 (Rx n _ _ _ _) rfl)).trans (retS (i7 rfl rfl rfl))))))
def hX:R->RT Out:=
 (l4 (c8 Kz (c4 (D5 1 (vt (c8 aK (c4 (c5 0) (c4 (c5 1) (c4 (c5 2) c7))))) (setAt 0) zd (c8 bg (c4 (i3 i8 (c5 0) (kI 1)) (c4 (i3 i8 (c5 0) (kI 2)) c7)))) c7)))
def bw:LD->OD:=via 3 3 hX
theorem qM:∀(l σ:List Int),(σ++l).Nodup->l.foldl vj σ=σ++l
 | [],σ,_=>(Sw σ).symm
 | x::l,σ,h=>by
  have hx:¬ x∈σ:=fun z=>(List.nodup_append.mp h).2.2 x z x (.head _) rfl
  have e:vj σ x=σ++[x]:=by
   unfold vj
   rw[Sa]
   intro z
   obtain⟨y,hy,e⟩:=List.any_eq_true.mp z
   rw[Tq e] at hy
   exact hx hy
  show l.foldl vj (vj σ x)=_
  rw[e,qM l (σ++[x]) (by rw[List.append_assoc];exact h),List.append_assoc];rfl
theorem LU(n:Int)(o:RT Int):(DS n o).Nodup:=by
 cases o with
 | none=>exact List.nodup_nil
 | some a =>
  show((List.range _).map _).Nodup
  rw[List.Nodup,List.pairwise_map]
  refine List.Pairwise.imp ?_ List.nodup_range
  intro x y hxy z
  exact hxy (by omega)
theorem KR(n:Int)(o:RT Int):((DS n o).length:Int)=PL n o:=by
 cases o with
 | none=>rfl
 | some a =>
  show(((List.range _).map _).length:Int)=if n<a then 0 else (n - a) / 86400+1
  rw[R7,List.length_range]
  unfold wA
  by_cases h:n<a
  ·rw[Sa (by omega),R3 h];rfl
  ·rw[R3 (by omega),Sa h,show n+1 - a - 1=n - a by omega]
   have:0<=(n - a) / 86400:=by omega
   omega
theorem Nj{n c:Int}{o:RT Int}(hc:c<3600)(hn:c<=n)(ha:∀a,o=some a->1<=a):c∈DS n o↔o=some c:=by
 cases o with
 | none=>constructor<;>intro h<;>cases h
 | some a =>
  have ha1:=ha a rfl
  constructor
  ·intro h
   obtain⟨k,hk,e⟩:=List.mem_map.mp h
   have e':a+(k:Int)*86400=c:=e
   have hk0:k=0:=by omega
   rw[hk0] at e'
   rw[show a=c by simpa using e']
  ·intro h
   cases h
   refine List.mem_map.mpr ⟨0,List.mem_range.mpr ?_,by simp⟩
   unfold wA
   rw[R3 (by omega)]
   have:0<=(n+1 - c - 1) / 86400:=by omega
   omega
theorem Mv{b:Bk}{s:WS}(w:s.Wk b)(n:Int):PL n (m7 s)+PZ n (m7 s) (uc s)=((u0 s n).length:Int):=by
 have ha:∀a,m7 s=some a->1<=a:=fun a h=>(Ba h).1
 have hc:∀c,uc s=some c->c<3600:=fun c h=>by
  unfold uc at h
  split at h
  ·cases h;exact w.cl1
  ·cases h
 unfold u0
 rw[(wq _).length_eq]
 unfold A9
 rw[List.foldl_append,qM _ [] (by simpa using LU n _),List.nil_append,<- KR]
 cases hcc:uc s with
 | none=>show _+0=_;rw[Tr];rfl
 | some c =>
  have h1:=hc c hcc
  show _+(if n<c then (0:Int) else if m7 s=some c then 0 else 1)=(((if c<=n then [c] else []).foldl vj (DS n (m7 s))).length:Int)
  by_cases h:n<c
  ·rw[R3 h,Sa (show ¬ c<=n by omega)];simp
  ·rw[Sa h,R3 (show c<=n by omega)]
   have hin:=Nj (n:=n) h1 (by omega) ha
   show _=((vj (DS n (m7 s)) c).length:Int)
   unfold vj
   by_cases h2:m7 s=some c
   ·have ht:((DS n (m7 s)).any fun x=>x==c)=true:=List.any_eq_true.mpr ⟨c,hin.mpr h2,by simp⟩
    rw[R3 h2,R3 ht];simp
   ·rw[Sa h2,Sa]
    ·simp
    ·intro z
     obtain⟨y,hy,e⟩:=List.any_eq_true.mp z
     rw[Tq e] at hy
     exact h2 (hin.mp hy)
theorem kJ{b:Bk}{s:WS}(w:s.Wk b)(n:Int):bg [s.d,.int n]=some (.int ((u0 s n).length:Int)):=by
 rw[j7,Mv w]
theorem K5{i:Int}(h0:0<=i)(h1:i<=100):Kz [.lst [.int i]]=some (.int i):=by
 show(if 1<=1000/\[i].all _=true then some (D.int [i].sum) else none)=_
 rw[R3 ⟨by decide,by simp;omega⟩]
 simp
theorem NX{i j:Int}(h0:0<=i)(h1:i<=100)(h2:0<=j)(h3:j<=100):Kz [.lst [.int i,.int j]]=some (.int (i+j)):=by
 show(if 2<=1000/\[i,j].all _=true then some (D.int [i,j].sum) else none)=_
 rw[R3 ⟨by decide,by simp;omega⟩]
 simp
theorem Ef{st:D->R->RT R}{e:R->OD}{ρ ρ1:R}{d x:D}{ds xs:LD}(h1:st d ρ=some ρ1)(h2:e ρ1=some x)(h3:vB st zd e ds ρ=some xs):vB st zd e (d::ds) ρ=some (x::xs):=by simp[vB,h1,h2,h3]
theorem tO{b:Bk}{s:WS}{n:Int}(ok:b.Ok)(w:s.Wk b)(h0:0<=n)(hn:n<259200):bw [b.d,s.d,.int n]=some (.int ((zg b s n).length:Int)):=by
 have e1:=fJ n ok w
 have z:2<=sizeLine:=by decide
 have q:vt (c8 aK (c4 (c5 0) (c4 (c5 1) (c4 (c5 2) c7)))) [some b.d,some s.d,some (.int n)]=some (uB b s n):=by
  show(c8 aK _ _).bind _=_
  rw[i4 rfl e1];rfl
 have one:∀(k:Int) (s':WS) (m:Int),s'.Wk b->c8 bg (c4 (i3 i8 (c5 0) (kI 1)) (c4 (i3 i8 (c5 0) (kI 2)) c7)) [some (.tup [.int k,s'.d,.int m]),some b.d,some s.d,some (.int n)]=some (.int ((u0 s' m).length:Int)):=fun k s' m w' =>
  i4 (m8 (i7 rfl rfl rfl) (m8 (i7 rfl rfl rfl) rfl)) (kJ w' m)
 have len:∀(s':WS) (m:Int),m<259200->((u0 s' m).length:Int)<=100:=fun s' m hm=>by have:=dh (s:=s') hm;omega
 have lc:∀(l:LD),(uB b s n).length<=2->vB (setAt 0) zd (c8 bg (c4 (i3 i8 (c5 0) (kI 1)) (c4 (i3 i8 (c5 0) (kI 2)) c7))) (uB b s n) [none,some b.d,some s.d,some (.int n)]=some l ->
   D5 1 (vt (c8 aK (c4 (c5 0) (c4 (c5 1) (c4 (c5 2) c7))))) (setAt 0) zd (c8 bg (c4 (i3 i8 (c5 0) (kI 1)) (c4 (i3 i8 (c5 0) (kI 2)) c7))) [some b.d,some s.d,some (.int n)]=some (.lst l):=fun l hl hc=>by
  unfold D5
  rw[q,RZ,R3 (by omega)]
  exact congrArg (Option.map D.lst) hc
 unfold uB at lc
 unfold zg
 cases ht:t6 b s with
 | none =>
  rw[ht] at lc
  exact k9 (retS (i4 (m8 (lc _ (by show 1<=2;decide) (Ef rfl (one _ _ _ w) rfl)) rfl) (K5 (Int.natCast_nonneg _) (len s n hn))))
 | some t =>
  rw[ht] at lc
  dsimp only at lc ⊢
  have hp:=xm ht
  by_cases h:n<t
  ·rw[R3 h] at lc ⊢
   exact k9 (retS (i4 (m8 (lc _ (by show 1<=2;decide) (Ef rfl (one _ _ _ w) rfl)) rfl) (K5 (Int.natCast_nonneg _) (len s n hn))))
  ·rw[Sa h] at lc ⊢
   have wb:(behind b s t).Wk b:=(w.cnt (n:=t) (by omega)).trn ok
   rw[Sl,R7,Int.natCast_add]
   exact k9 (retS (i4 (m8 (lc _ (by show 2<=2;decide) (Ef rfl (one _ _ _ w) (Ef rfl (one _ _ _ wb) rfl))) rfl) (NX (Int.natCast_nonneg _) (len s t (by omega)) (Int.natCast_nonneg _) (len _ (n - t) (by omega)))))
def ow:R->RT Out:=
 (l4 (DD (k7 vY (i3 i8 (c5 2) (kI 0)) (kS "ticks")) (c8 bw (c4 (c5 0) (c4 (c5 1) (c4 (i3 i8 (c5 2) (kI 1)) c7)))) (kI 0)))
def cH:LD->OD:=via 3 3 ow
def yf(b:Bk)(s:WS):Ev->Int
 | .ticks n=>((zg b s n).length:Int)
 | _=>0
def Dz:Ev->Prop
 | .ticks n=>1<=n/\n<259200
 | _=>True
theorem nM{b:Bk}{s:WS}(ok:b.Ok)(w:s.Wk b)(e:Ev)(h:Dz e):cH [b.d,s.d,e.d]=some (.int (yf b s e)):=by
 cases e with
 | ticks n=>exact k9 (retS (Fm (ug (i7 rfl rfl rfl) rfl rfl) (i4 (m8 rfl (m8 rfl (m8 (i7 rfl rfl rfl) rfl))) (tO ok w (by have:=h.1;omega) h.2))))
 | down x=>exact k9 (retS (G9 (ug (i7 rfl rfl rfl) rfl rfl) rfl))
 | up x=>exact k9 (retS (G9 (ug (i7 rfl rfl rfl) rfl rfl) rfl))
def dv(C:Nat):MU:=
  (u9 (uK (l3 (c8 di (c4 (w8 (u4 C (oS "book")) (c5 0)) (c4 (w8 (u4 C (oS "present")) (c5 0)) (c4 (c5 1) c7)))) (setAt 2)))
  (u9 (uK (l3 (i3 m9 (w8 (u4 C (oS "rung")) (c5 0)) (c8 cH (c4 (w8 (u4 C (oS "book")) (c5 0)) (c4 (w8 (u4 C (oS "present")) (c5 0)) (c4 (c5 1) c7))))) (setAt 3)))
  (u9 (JZ 0 C (oS "past") (l7 (c4 (c5 1) (c4 (w8 (u4 C (oS "present")) (c5 0)) (c4 (w8 (u4 C (oS "rung")) (c5 0)) c7)))))
  (u9 (wZ 0 C (oS "present") (c5 2))
  (wZ 0 C (oS "rung") (c5 3))))))
def aQ(C:Nat):LD->RT (D×D):=C6 2 4 0 (dv C)
def Wo(C a l:Nat)(b:Bk)(s:WS)(r:Int)(p:LD):D:=.obj (C+2) a [oS "book",oS "present",oS "rung",oS "past"] [b.d,s.d,.int r,.obj 0 l [] p]
theorem cR{α:Type}{f:α->D}(h:∀x,uC (f x)=true):∀l:List α,n5 (l.map f)=true
 | []=>rfl
 | x::l=>by show(uC (f x)&&n5 (l.map f))=true;rw[h x,cR h l];rfl
theorem rE(r:yT×Nat):uC (A0 r)=true:=rfl
theorem s_(m:Md):uC m.d=true:=by
 show(true&&(true&&(n5 (m.rows.map A0)&&true)))=true
 rw[cR rE];rfl
theorem gW(b:Bk):uC b.d=true:=by
 show(true&&(true&&(n5 (b.modes.map Md.d)&&true)))=true
 rw[cR s_];rfl
theorem cV(s:WS):uC s.d=true:=bS (n_ s)
theorem fW(e:Ev):uC e.d=true:=by cases e<;>rfl
noncomputable def vi(s:WS)(e:Ev)(r:Int):D:=.tup [e.d,s.d,.int r]
theorem gM(s:WS)(e:Ev)(r:Int):uC (vi s e r)=true:=by
 show(uC e.d&&(uC s.d&&(true&&true)))=true
 rw[fW,cV];rfl
section
variable{C a l:Nat}{b:Bk}{s s':WS}{r:Int}{p:LD}{ρ:R}{f:R->OD}
theorem IT:u4 C (oS "book") (Wo C a l b s r p)=some b.d:=by show(if C+2=C+2 then _ else none)=_;rw[R3 rfl];rfl
theorem Et:u4 C (oS "present") (Wo C a l b s r p)=some s.d:=by show(if C+2=C+2 then _ else none)=_;rw[R3 rfl];rfl
theorem HA:u4 C (oS "rung") (Wo C a l b s r p)=some (.int r):=by show(if C+2=C+2 then _ else none)=_;rw[R3 rfl];rfl
theorem wS:AE [a,l] (a::[b.d,s.d,.int r,.obj 0 l [] p].flatMap xV)=true:=by
 show AE [a,l] [a,l]=true
 simp[AE]
theorem Qf(hn:n5 p=true):[b.d,s.d,.int r,.obj 0 l [] p].all okN=true:=by
 show(uC b.d&&(uC s.d&&(true&&(n5 p&&true))))=true
 rw[gW,cV,hn];rfl
theorem Lw(hn:n5 p=true)(hb:uR 0 (some (Wo C a l b s r p)::ρ)=true)(hf:f (some (Wo C a l b s r p)::ρ)=some s'.d):wZ 0 C (oS "present") f [a,l] (some (Wo C a l b s r p)::ρ)=some (.nx (some (Wo C a l b s' r p)::ρ)):=by
 show(f _).bind _=_
 rw[hf,RZ]
 exact R3 ⟨rfl,cV _,hb,wS,by decide,Qf hn,cV s⟩
theorem La{r':Int}(hn:n5 p=true)(hb:uR 0 (some (Wo C a l b s r p)::ρ)=true)(hf:f (some (Wo C a l b s r p)::ρ)=some (.int r')):wZ 0 C (oS "rung") f [a,l] (some (Wo C a l b s r p)::ρ)=some (.nx (some (Wo C a l b s r' p)::ρ)):=by
 show(f _).bind _=_
 rw[hf,RZ]
 exact R3 ⟨rfl,rfl,hb,wS,by decide,Qf hn,rfl⟩
theorem Pl{d:D}(hn:n5 p=true)(hp:p.length<1000)(hd:uC d=true)(hb:uR 0 (some (Wo C a l b s r p)::ρ)=true)(hf:f (some (Wo C a l b s r p)::ρ)=some d):JZ 0 C (oS "past") f [a,l] (some (Wo C a l b s r p)::ρ)=some (.nx (some (Wo C a l b s r (p++[d]))::ρ)):=by
 show(f _).bind _=_
 rw[hf,RZ]
 exact R3 ⟨rfl,hd,hb,wS,hp,hn,by show(uC b.d&&(uC s.d&&(true&&(true&&true))))=true;rw[gW,cV];rfl,by simp⟩
end
theorem HU{C a l:Nat}{b:Bk}{s:WS}{r:Int}{p:LD}(ok:b.Ok)(w:s.Wk b)(e:Ev)(h:Dz e)(hp:p.length<1000)(hn:n5 p=true) :
  aQ C [Wo C a l b s r p,e.d]=some (.non,Wo C a l b (gone b s e) (r+yf b s e) (p++[vi s e r])):=by
 have s1:uK (l3 (c8 di (c4 (w8 (u4 C (oS "book")) (c5 0)) (c4 (w8 (u4 C (oS "present")) (c5 0)) (c4 (c5 1) c7)))) (setAt 2)) [a,l] [some (Wo C a l b s r p),some e.d,none,none]=some (.nx [some (Wo C a l b s r p),some e.d,some (gone b s e).d,none]):=by
  show(l3 _ _ _).bind _=_
  rw[l9 (i4 (m8 (B7 rfl IT) (m8 (B7 rfl Et) (m8 rfl rfl))) (nH ok w e)) rfl];rfl
 have s2:uK (l3 (i3 m9 (w8 (u4 C (oS "rung")) (c5 0)) (c8 cH (c4 (w8 (u4 C (oS "book")) (c5 0)) (c4 (w8 (u4 C (oS "present")) (c5 0)) (c4 (c5 1) c7))))) (setAt 3)) [a,l] [some (Wo C a l b s r p),some e.d,some (gone b s e).d,none]=some (.nx [some (Wo C a l b s r p),some e.d,some (gone b s e).d,some (.int (r+yf b s e))]):=by
  show(l3 _ _ _).bind _=_
  rw[l9 (i7 (B7 rfl HA) (i4 (m8 (B7 rfl IT) (m8 (B7 rfl Et) (m8 rfl rfl))) (nM ok w e h)) rfl) rfl];rfl
 have nb:∀x y:OD,uj x=true->uj y=true->∀ob:D,uR 0 [some ob,some e.d,x,y]=true:=fun x y hx hy ob=>by
  show(true&&(uC e.d&&(uj x&&(uj y&&true))))=true
  rw[fW,hx,hy];rfl
 have s3:=Pl (C:=C) (a:=a) (l:=l) (b:=b) (s:=s) (r:=r) (p:=p) (ρ:=[some e.d,some (gone b s e).d,some (.int (r+yf b s e))]) (f:=l7 (c4 (c5 1) (c4 (w8 (u4 C (oS "present")) (c5 0)) (c4 (w8 (u4 C (oS "rung")) (c5 0)) c7)))) (d:=vi s e r) hn hp (gM s e r) (nb (some (gone b s e).d) (some (.int (r+yf b s e))) (cV _) rfl _) (tupS (m8 rfl (m8 (B7 rfl Et) (m8 (B7 rfl HA) rfl))))
 have hn':n5 (p++[vi s e r])=true:=by
  have:∀q:LD,n5 q=true->n5 (q++[vi s e r])=true:=fun q=>by
   induction q with
   | nil=>intro _;show(uC _&&true)=true;rw[gM];rfl
   | cons x q ih =>
    intro h
    have h':(uC x&&n5 q)=true:=h
    rw[R1] at h'
    show(uC x&&n5 (q++_))=true
    rw[h'.1,ih h'.2];rfl
  exact this p hn
 have s4:=Lw (C:=C) (a:=a) (l:=l) (b:=b) (s:=s) (s':=gone b s e) (r:=r) (p:=p++[vi s e r]) (ρ:=[some e.d,some (gone b s e).d,some (.int (r+yf b s e))]) (f:=c5 2) hn' (nb (some (gone b s e).d) (some (.int (r+yf b s e))) (cV _) rfl _) rfl
 have s5:=La (C:=C) (a:=a) (l:=l) (b:=b) (s:=gone b s e) (r:=r) (r':=r+yf b s e) (p:=p++[vi s e r]) (ρ:=[some e.d,some (gone b s e).d,some (.int (r+yf b s e))]) (f:=c5 3) hn' (nb (some (gone b s e).d) (some (.int (r+yf b s e))) (cV _) rfl _) rfl
 have g:dv C [a,l] [some (Wo C a l b s r p),some e.d,none,none]=some (.nx [some (Wo C a l b (gone b s e) (r+yf b s e) (p++[vi s e r])),some e.d,some (gone b s e).d,some (.int (r+yf b s e))]):=by
  show(uK _ [a,l] _).bind _=_
  rw[s1,RZ]
  show(uK _ [a,l] _).bind _=_
  rw[s2,RZ]
  show(JZ _ _ _ _ [a,l] _).bind _=_
  rw[s3,RZ]
  show(wZ _ _ _ _ [a,l] _).bind _=_
  rw[s4,RZ]
  exact s5
 show(dv C [a,l] [some (Wo C a l b s r p),some e.d,none,none]).bind _=_
 rw[g,RZ]
 exact R3 ⟨rfl,rfl⟩
theorem Cr{C a l:Nat}{b:Bk}{s:WS}{r:Int}{p:LD}{mn:Str}{G:LD->RT (D×D)}{F:R->RT LD}{ρ:R}{ds:LD}{d ob':D}(h1:F (some (Wo C a l b s r p)::ρ)=some ds)(h2:G (Wo C a l b s r p::ds)=some (d,ob'))(h3:[oS "book",oS "present",oS "rung",oS "past"].contains mn=false)(h4:uR 0 (some (Wo C a l b s r p)::ρ)=true) :
  wR 0 C mn G F [a,l] (some (Wo C a l b s r p)::ρ)=some (d,some ob'::ρ):=by
 show(F _).bind _=_
 rw[h1,RZ,h2,RZ]
 exact R3 ⟨rfl,h3,h4,wS⟩
def eY(C:Nat):MU:=
 (A_ (wR 0 C (oS "happen") (aQ C) (c4 (l7 (c4 (kS "down") (c4 (c5 1) c7))) c7)))
def br(C:Nat):LD->RT (D×D):=C6 2 2 0 (eY C)
theorem L6{C a l:Nat}{b:Bk}{s:WS}{r:Int}{p:LD}(ok:b.Ok)(w:s.Wk b)(x:wL)(hp:p.length<1000)(hn:n5 p=true) :
  br C [Wo C a l b s r p,.str x.x]=some (.non,Wo C a l b (gone b s (.down x)) (r+yf b s (.down x)) (p++[vi s (.down x) r])):=by
 have g:eY C [a,l] [some (Wo C a l b s r p),some (.str x.x)]=some (.nx [some (Wo C a l b (gone b s (.down x)) (r+yf b s (.down x)) (p++[vi s (.down x) r])),some (.str x.x)]):=by
  show(wR _ _ _ _ _ [a,l] _).map _=_
  rw[Cr (ds:=[(Ev.down x).d]) rfl (HU ok w (.down x) trivial hp hn) (by decide +kernel) rfl];rfl
 show(eY C [a,l] [some (Wo C a l b s r p),some (.str x.x)]).bind _=_
 rw[g,RZ]
 exact R3 ⟨rfl,rfl⟩
def dQ(C:Nat):MU:=
 (A_ (wR 0 C (oS "happen") (aQ C) (c4 (l7 (c4 (kS "ticks") (c4 (c5 1) c7))) c7)))
def bW(C:Nat):LD->RT (D×D):=C6 2 2 0 (dQ C)
theorem Ko{C a l:Nat}{b:Bk}{s:WS}{r:Int}{p:LD}(ok:b.Ok)(w:s.Wk b){n:Int}(h:1<=n/\n<259200)(hp:p.length<1000)(hn:n5 p=true) :
  bW C [Wo C a l b s r p,.int n]=some (.non,Wo C a l b (gone b s (.ticks n)) (r+yf b s (.ticks n)) (p++[vi s (.ticks n) r])):=by
 have g:dQ C [a,l] [some (Wo C a l b s r p),some (.int n)]=some (.nx [some (Wo C a l b (gone b s (.ticks n)) (r+yf b s (.ticks n)) (p++[vi s (.ticks n) r])),some (.int n)]):=by
  show(wR _ _ _ _ _ [a,l] _).map _=_
  rw[Cr (ds:=[(Ev.ticks n).d]) rfl (HU ok w (.ticks n) h hp hn) (by decide +kernel) rfl];rfl
 show(dQ C [a,l] [some (Wo C a l b s r p),some (.int n)]).bind _=_
 rw[g,RZ]
 exact R3 ⟨rfl,rfl⟩
def gq(C:Nat):MU:=
 (A_ (wR 0 C (oS "happen") (aQ C) (c4 (l7 (c4 (kS "up") (c4 (c5 1) c7))) c7)))
def bZ(C:Nat):LD->RT (D×D):=C6 2 2 0 (gq C)
theorem Qq{C a l:Nat}{b:Bk}{s:WS}{r:Int}{p:LD}(ok:b.Ok)(w:s.Wk b)(x:wL)(hp:p.length<1000)(hn:n5 p=true) :
  bZ C [Wo C a l b s r p,.str x.x]=some (.non,Wo C a l b (gone b s (.up x)) (r+yf b s (.up x)) (p++[vi s (.up x) r])):=by
 have g:gq C [a,l] [some (Wo C a l b s r p),some (.str x.x)]=some (.nx [some (Wo C a l b (gone b s (.up x)) (r+yf b s (.up x)) (p++[vi s (.up x) r])),some (.str x.x)]):=by
  show(wR _ _ _ _ _ [a,l] _).map _=_
  rw[Cr (ds:=[(Ev.up x).d]) rfl (HU ok w (.up x) trivial hp hn) (by decide +kernel) rfl];rfl
 show(gq C [a,l] [some (Wo C a l b s r p),some (.str x.x)]).bind _=_
 rw[g,RZ]
 exact R3 ⟨rfl,rfl⟩
def fY(C:Nat):MU:=
  (u9 (Cw (k7 vY (i3 i8 (c5 1) (kI 0)) (kS "down"))
  (CW (wR 0 C (oS "down") (br C) (c4 (i3 i8 (c5 1) (kI 1)) c7)))
  wf)
  (u9 (Cw (k7 vY (i3 i8 (c5 1) (kI 0)) (kS "up"))
  (CW (wR 0 C (oS "up") (bZ C) (c4 (i3 i8 (c5 1) (kI 1)) c7)))
  wf)
  (CW (wR 0 C (oS "ticks") (bW C) (c4 (i3 i8 (c5 1) (kI 1)) c7)))))
def bH(C:Nat):LD->RT (D×D):=C6 2 2 0 (fY C)
theorem QL{C a l:Nat}{b:Bk}{s:WS}{r:Int}{p:LD}(ok:b.Ok)(w:s.Wk b)(e:Ev)(h:Dz e)(hp:p.length<1000)(hn:n5 p=true) :
  bH C [Wo C a l b s r p,e.d]=some (.non,Wo C a l b (gone b s e) (r+yf b s e) (p++[vi s e r])):=by
 have nb:uR 0 [some (Wo C a l b s r p),some e.d]=true:=by show(true&&(uC e.d&&true))=true;rw[fW];rfl
 have g:fY C [a,l] [some (Wo C a l b s r p),some e.d]=some (.rt .non [some (Wo C a l b (gone b s e) (r+yf b s e) (p++[vi s e r])),some e.d]):=by
  unfold fY
  cases e with
  | down x =>
   show(Cw _ _ _ [a,l] _).bind _=_
   have m:=Cr (C:=C) (a:=a) (l:=l) (b:=b) (s:=s) (r:=r) (p:=p) (mn:=oS "down") (F:=c4 (i3 i8 (c5 1) (kI 1)) c7) (ρ:=[some (Ev.down x).d]) (ds:=[.str x.x]) (m8 (i7 rfl rfl rfl) rfl) (L6 ok w x hp hn) (by decide +kernel) nb
   have q:Cw (k7 vY (i3 i8 (c5 1) (kI 0)) (kS "down")) (CW (wR 0 C (oS "down") (br C) (c4 (i3 i8 (c5 1) (kI 1)) c7))) wf [a,l] [some (Wo C a l b s r p),some (Ev.down x).d]=some (.rt .non [some (Wo C a l b (gone b s (.down x)) (r+yf b s (.down x)) (p++[vi s (.down x) r])),some (Ev.down x).d]):=by
    show(k7 _ _ _ _).bind _=_
    rw[ug (x:=.str (oS "down")) (y:=.str (oS "down")) (b:=true) (i7 rfl rfl rfl) rfl rfl,RZ,R3 rfl]
    show(wR _ _ _ _ _ _ _).map _=_
    rw[m];rfl
   rw[q];rfl
  | up x =>
   have m:=Cr (C:=C) (a:=a) (l:=l) (b:=b) (s:=s) (r:=r) (p:=p) (mn:=oS "up") (F:=c4 (i3 i8 (c5 1) (kI 1)) c7) (ρ:=[some (Ev.up x).d]) (ds:=[.str x.x]) (m8 (i7 rfl rfl rfl) rfl) (Qq ok w x hp hn) (by decide +kernel) nb
   have q1:Cw (k7 vY (i3 i8 (c5 1) (kI 0)) (kS "down")) (CW (wR 0 C (oS "down") (br C) (c4 (i3 i8 (c5 1) (kI 1)) c7))) wf [a,l] [some (Wo C a l b s r p),some (Ev.up x).d]=some (.nx [some (Wo C a l b s r p),some (Ev.up x).d]):=by
    show(k7 _ _ _ _).bind _=_
    rw[ug (x:=.str (oS "up")) (y:=.str (oS "down")) (b:=false) (i7 rfl rfl rfl) rfl rfl];rfl
   have q:Cw (k7 vY (i3 i8 (c5 1) (kI 0)) (kS "up")) (CW (wR 0 C (oS "up") (bZ C) (c4 (i3 i8 (c5 1) (kI 1)) c7))) wf [a,l] [some (Wo C a l b s r p),some (Ev.up x).d]=some (.rt .non [some (Wo C a l b (gone b s (.up x)) (r+yf b s (.up x)) (p++[vi s (.up x) r])),some (Ev.up x).d]):=by
    show(k7 _ _ _ _).bind _=_
    rw[ug (x:=.str (oS "up")) (y:=.str (oS "up")) (b:=true) (i7 rfl rfl rfl) rfl rfl,RZ,R3 rfl]
    show(wR _ _ _ _ _ _ _).map _=_
    rw[m];rfl
   show(Cw _ _ _ [a,l] _).bind _=_
   rw[q1,RZ]
   show(Cw _ _ _ [a,l] _).bind _=_
   rw[q];rfl
  | ticks n =>
   have m:=Cr (C:=C) (a:=a) (l:=l) (b:=b) (s:=s) (r:=r) (p:=p) (mn:=oS "ticks") (F:=c4 (i3 i8 (c5 1) (kI 1)) c7) (ρ:=[some (Ev.ticks n).d]) (ds:=[.int n]) (m8 (i7 rfl rfl rfl) rfl) (Ko ok w h hp hn) (by decide +kernel) nb
   have q1:Cw (k7 vY (i3 i8 (c5 1) (kI 0)) (kS "down")) (CW (wR 0 C (oS "down") (br C) (c4 (i3 i8 (c5 1) (kI 1)) c7))) wf [a,l] [some (Wo C a l b s r p),some (Ev.ticks n).d]=some (.nx [some (Wo C a l b s r p),some (Ev.ticks n).d]):=by
    show(k7 _ _ _ _).bind _=_
    rw[ug (x:=.str (oS "ticks")) (y:=.str (oS "down")) (b:=false) (i7 rfl rfl rfl) rfl rfl];rfl
   have q:Cw (k7 vY (i3 i8 (c5 1) (kI 0)) (kS "up")) (CW (wR 0 C (oS "up") (bZ C) (c4 (i3 i8 (c5 1) (kI 1)) c7))) wf [a,l] [some (Wo C a l b s r p),some (Ev.ticks n).d]=some (.nx [some (Wo C a l b s r p),some (Ev.ticks n).d]):=by
    show(k7 _ _ _ _).bind _=_
    rw[ug (x:=.str (oS "ticks")) (y:=.str (oS "up")) (b:=false) (i7 rfl rfl rfl) rfl rfl];rfl
   show(Cw _ _ _ [a,l] _).bind _=_
   rw[q1,RZ]
   show(Cw _ _ _ [a,l] _).bind _=_
   rw[q,RZ]
   show(wR _ _ _ _ _ _ _).map _=_
   rw[m];rfl
 show(fY C [a,l] [some (Wo C a l b s r p),some e.d]).bind _=_
 rw[g,RZ]
 exact R3 ⟨rfl,rfl⟩
def Df:Nat->Nat->R->RT Out:=(fun c ea=>(l5 (l3 (Ea (c4 (GJ 2 ea (c==0)) (c4 (GJ 2 ea (c==1)) c7))) (setAt 3))
  (l5 (l3 (l7 (c4 (kS "refused") (c4 (w8 DY (kI 1)) c7))) (setAt 1))
  (y3 (AW (wY (GJ 2 ea true)) (k7 vY (c8 CM (c4 (c5 3) (c4 (fun _=>some (.bl true)) c7))) (kI 1)))
  (l3 (l7 (c4 (kS "refused") (c4 (c8 CN (c4 (c5 3) (c4 (fun _=>some (.bl true)) c7))) c7))) (setAt 1))
  uu))))
def ud:Nat->OD:=fun c=>if c<2 then some (.tup [.str (oS "refused"),.int (c:Int)]) else none
theorem Di(c:Nat)(d:D)(h:ud c=some d):c<2/\∀e:Nat,∃ ρ',Df c e (M2 4 2 e)=some (.nx ρ')/\c5 1 (ρ'.set 2 none)=some d:=by
 unfold ud at h
 split at h
 ·rename_i hc
  cases h
  refine⟨hc,fun e=>?_⟩
  have hc':c=0\/c=1:=by omega
  have hi:∀(b:Bool) (x y:OD),GJ 2 e b [none,x,some (.rf e),y]=some (.bl b):=fun b x y=>R3 rfl
  rcases hc' with rfl | rfl
  ·exact⟨[none,some (.tup [.str (oS "refused"),.int 0]),some (.rf e),some (.lst [.bl true,.bl false])],(k8 (ρ2:=[none,none,some (.rf e),some (.lst [.bl true,.bl false])]) (l9 (KM (m8 (hi true none none) (m8 (hi false none none) rfl))) rfl)).trans ((k8 (ρ2:=[none,some (.tup [.str (oS "refused"),.int (-1)]),some (.rf e),some (.lst [.bl true,.bl false])]) (l9 (tupS (m8 rfl (m8 (B7 (F:=DY) (x:=.int 1) (z:=.int (-1)) rfl rfl) rfl))) rfl)).trans ((zV (NL (Ca (hi true _ _)) (ug (F:=vY) (x:=.int 1) (y:=.int 1) (i4 (F:=CM) (ds:=[.lst [.bl true,.bl false],.bl true]) rfl rfl) rfl rfl))).trans (l9 (d:=.tup [.str (oS "refused"),.int 0]) (tupS (m8 rfl (m8 (i4 (F:=CN) (ds:=[.lst [.bl true,.bl false],.bl true]) rfl rfl) rfl))) rfl))),rfl⟩
  ·exact⟨[none,some (.tup [.str (oS "refused"),.int 1]),some (.rf e),some (.lst [.bl false,.bl true])],(k8 (ρ2:=[none,none,some (.rf e),some (.lst [.bl false,.bl true])]) (l9 (KM (m8 (hi false none none) (m8 (hi true none none) rfl))) rfl)).trans ((k8 (ρ2:=[none,some (.tup [.str (oS "refused"),.int (-1)]),some (.rf e),some (.lst [.bl false,.bl true])]) (l9 (tupS (m8 rfl (m8 (B7 (F:=DY) (x:=.int 1) (z:=.int (-1)) rfl rfl) rfl))) rfl)).trans ((zV (NL (Ca (hi true _ _)) (ug (F:=vY) (x:=.int 1) (y:=.int 1) (i4 (F:=CM) (ds:=[.lst [.bl false,.bl true],.bl true]) rfl rfl) rfl rfl))).trans (l9 (d:=.tup [.str (oS "refused"),.int 1]) (tupS (m8 rfl (m8 (i4 (F:=CN) (ds:=[.lst [.bl false,.bl true],.bl true]) rfl rfl) rfl))) rfl))),rfl⟩
 ·cases h
def kM(C:Nat):R->RT Out:=
 (l4 (w8 (u4 C (oS "rung")) (c5 0)))
def bR(C:Nat):LD->OD:=via 1 1 (kM C)
def nc(C:Nat):R->RT Out:=
 (l4 (c8 E2 (c4 (ye 0 C (oS "past") (D5 1 (Gn (w8 (u4 C (oS "past")) (c5 0))) (setAt 0) zd (i3 i8 (c5 0) (kI 0)))) c7)))
def bN(C:Nat):LD->OD:=via 1 1 (nc C)
def jT(C:Nat):R->RT Out:=
 (l4 (c8 dC (c4 (w8 (u4 C (oS "book")) (c5 0)) (c4 (w8 (u4 C (oS "present")) (c5 0)) c7))))
def bV(C:Nat):LD->OD:=via 1 1 (jT C)
def z8(b:Bk)(s:WS):D:=.tup [.str (b.modes.getD s.mode default).face.x,.str (FX (b.modes.getD s.mode default).face s),.bl (decide (0<s.ring))]
def Me(b:Bk):WS->List Ev->LD
 | _,[]=>[]
 | s,e::es=>z8 b (gone b s e)::Me b (gone b s e) es
def QZ:Ev->Int
 | .ticks n=>n
 | _=>0
theorem Gc(d:yT){s:WS}(h:0<=s.lm):(deed d s).lm<=s.lm:=by
 cases d<;>simp[deed,zB]<;>(repeat' split)<;>first | exact Int.le_refl _ | exact h
theorem AD(s:WS){n:Int}(h:0<=n):yi s n<=s.lm+n:=by unfold yi;split<;>omega
theorem GR{b:Bk}{s:WS}(h:0<=s.lm):(turned b s).lm<=s.lm:=by
 unfold turned
 split
 ·exact Int.le_refl _
 ·exact Gc _ h
theorem KO{b:Bk}{s:WS}(w:s.Wk b)(e:Ev)(he:e.Ok):(gone b s e).lm<=s.lm+QZ e:=by
 have h:=w.lm0
 cases e with
 | down x=>show(pushed s x).lm<=s.lm+0;unfold pushed;split<;>simp
 | up x =>
  show(letGo b s x).lm<=s.lm+0
  rw[Tr]
  unfold letGo
  split
  ·split
   ·split
    ·exact Gc _ h
    ·exact Int.le_refl _
   ·exact Int.le_refl _
  ·exact Int.le_refl _
 | ticks n =>
  have hn:1<=n:=he
  show(ticked b s n).lm<=s.lm+n
  unfold ticked
  split
  ·exact AD s (by omega)
  ·rename_i t ht
   have tp:=xm ht
   split
   ·exact AD s (by omega)
   ·have a1:=AD (behind b s t) (n:=n - t) (by omega)
    have a2:(behind b s t).lm<=(counted b s t).lm:=GR (w.cnt (n:=t) (by omega)).lm0
    have a3:(counted b s t).lm<=s.lm+t:=AD s (by omega)
    show yi (behind b s t) (n - t)<=_
    omega
theorem da{x y:Str}(h1:t4 (.str x)=true)(h2:t4 (.str y)=true):t4 (.str (x++y))=true:=by
 rw[t4] at *
 show(x.cps++y.cps).all _=true
 rw[Array.all_append,h1,h2];rfl
theorem DC(s:String):(Str.ofString s).cps.all (·<0x110000)=true:=by
 rw[PySem.Str.ofString_eq_toList]
 simp only[List.all_toArray,SF,List.mem_map]
 rintro x ⟨c,_,rfl⟩
 apply S9
 show c.val.toNat<0x110000
 have v:c.val.toNat<0xd800\/(0xdfff<c.val.toNat/\c.val.toNat<0x110000):=c.valid
 omega
theorem nX(n:Int):t4 (.str (tx n))=true:=by
 rw[t4]
 exact DC _
theorem iT(n:Int):t4 (.str (Jw n))=true:=by
 have h:=nX n
 rw[t4] at *
 unfold Jw Li
 split
 ·exact h
 ·show(Array.replicate _ 48++(tx n).cps++Array.replicate _ 48).all _=true
  have r:∀k,(Array.replicate k 48).all (fun x=>decide (x<0x110000))=true:=by
   intro k
   rw[Array.all_eq_true]
   intro i hi
   simp
  rw[Array.all_append,Array.all_append,h,r,r];rfl
theorem ir:t4 (.str colon)=true:=by rw[t4];decide +kernel
theorem oA:t4 (.str (oS ""))=true:=by rw[t4];decide +kernel
theorem sW:t4 (.str N4)=true:=by rw[t4];decide +kernel
theorem rC:t4 (.str Jb)=true:=by rw[t4];decide +kernel
theorem mi(h m:Int):t4 (.str (Az h m))=true:=da (da (iT _) ir) (iT _)
theorem oX(s:Int):t4 (.str (EY s))=true:=da (da (nX _) ir) (iT _)
theorem ph(f:Face)(s:WS):t4 (.str (FX f s))=true:=by
 cases f with
 | time=>exact da (da (mi _ _) ir) (iT _)
 | alarm=>exact da (mi _ _) (by split;exact sW;exact oA)
 | laps=>exact da (oX _) (by unfold Es;split;exact da rC (nX _);exact oA)
 | count=>exact oX _
theorem rk(f:Face):t4 (.str f.x)=true:=by rw[t4];cases f<;>decide +kernel
theorem pi(b:Bk)(s:WS):t4 (z8 b s)=true:=by
 unfold z8
 rw[t4,vv,vv,vv,vv,rk,ph];rfl
def jM(C:Nat):R->RT Out:=
 (l4 (w8 (u4 C (oS "present")) (c5 0)))
def bE(C:Nat):LD->OD:=via 1 1 (jM C)
def bA(C:Nat):MU:=
  (u9 (Cw (k7 vY (ye 0 C (oS "past") (c8 xi (c4 (w8 (u4 C (oS "past")) (c5 0)) c7))) (kI 0))
  (fun _ _=>none)
  wf)
  (u9 (G1 1 0 C (oS "past"))
  (u9 (wZ 0 C (oS "present") (i3 i8 (c5 1) (kI 1)))
  (wZ 0 C (oS "rung") (i3 i8 (c5 1) (kI 2))))))
def eU(C:Nat):LD->RT (D×D):=C6 1 2 0 (bA C)
def u7(C:Nat):List Nat->R->RT (Except Nat MO):=
  (Gm (k7 vY (ye 0 C (oS "past") (c8 xi (c4 (w8 (u4 C (oS "past")) (c5 0)) c7))) (kI 0)) (kS "nothing is left that could be taken back") 1
  (u9 (G1 1 0 C (oS "past"))
  (u9 (wZ 0 C (oS "present") (i3 i8 (c5 1) (kI 1)))
  (wZ 0 C (oS "rung") (i3 i8 (c5 1) (kI 2))))))
def m6(C:Nat):LD->RT (Except Nat (D×D)):=Jd 1 2 0 (u7 C)
def aS(C:Nat):MU:=
  (u9 (wZ 0 C (oS "book") (c5 1))
  (u9 (wZ 0 C (oS "present") (c8 bX (c4 (c5 1) c7)))
  (u9 (wZ 0 C (oS "rung") (kI 0))
  wf)))
theorem Ob(C a l:Nat)(b:Bk):yk 2 C (oS "past") (aS C) [b.d] a l=some (Wo C a l b i9 0 []):=by
 have n1:=gW b
 have n2:=cV i9
 have hS:AE [a] [a]=true:=by simp[AE]
 have s1:wZ 0 C (oS "book") (c5 1) [a] [some (.obj (C+2) a [] []),some b.d]=some (.nx [some (.obj (C+2) a [oS "book"] [b.d]),some b.d]):=R3 ⟨rfl,n1,by show(true&&(uC b.d&&true))=true;rw[n1];rfl,hS,by decide,rfl,rfl⟩
 have s2:wZ 0 C (oS "present") (c8 bX (c4 (c5 1) c7)) [a] [some (.obj (C+2) a [oS "book"] [b.d]),some b.d]=some (.nx [some (.obj (C+2) a [oS "book",oS "present"] [b.d,i9.d]),some b.d]):=by
  show(c8 bX _ _).bind _=_
  rw[i4 rfl (iL _),RZ]
  exact R3 ⟨rfl,n2,by show(true&&(uC b.d&&true))=true;rw[n1];rfl,hS,by decide,by show(okN b.d&&true)=true;rw[show okN b.d=uC b.d from rfl,n1];rfl,rfl⟩
 have s3:wZ 0 C (oS "rung") (kI 0) [a] [some (.obj (C+2) a [oS "book",oS "present"] [b.d,i9.d]),some b.d]=some (.nx [some (.obj (C+2) a [oS "book",oS "present",oS "rung"] [b.d,i9.d,.int 0]),some b.d]):=
  R3 ⟨rfl,rfl,by show(true&&(uC b.d&&true))=true;rw[n1];rfl,hS,by decide,by show(okN b.d&&(okN i9.d&&true))=true;rw[show okN b.d=uC b.d from rfl,n1];rfl,rfl⟩
 have g:aS C [a] [some (.obj (C+2) a [] []),some b.d]=some (.nx [some (.obj (C+2) a [oS "book",oS "present",oS "rung"] [b.d,i9.d,.int 0]),some b.d]):=by
  show(wZ 0 C (oS "book") (c5 1) [a] _).bind _=_
  rw[s1,RZ]
  show(wZ 0 C (oS "present") _ [a] _).bind _=_
  rw[s2,RZ]
  show(wZ 0 C (oS "rung") _ [a] _).bind _=_
  rw[s3];rfl
 show(aS C [a] [some (.obj (C+2) a [] []),some b.d]).bind _=_
 rw[g,RZ]
 exact R3 ⟨rfl,rfl,by show(uC b.d&&(uC i9.d&&(true&&true)))=true;rw[n1,n2];rfl,by show 3<100;decide⟩
def oJ:R->RT Out:=
 (l3 (c8 cu (c4 (c8 cM (c4 (c8 aJ (c4 (c5 0) (c4 (kI 0) c7))) c7)) (c4 (i3 vV (c8 aT (c4 (c8 aJ (c4 (c5 0) (c4 (kI 0) c7))) (c4 (kI 77) c7))) (kI 4)) c7))) (setAt 1))
def ET(C:Nat):MU:=
 (A_ (Bp 2 (bH C) (c4 (c5 2) (c4 (c5 5) c7))))
def E3(C:Nat):MU:=
 (uK (l3 (i3 m9 (c5 4) (l7 (c4 (c5 5) c7))) (setAt 4)))
def jD(C:Nat):MU:=(u9 (ET C) (E3 C))
def Bb(C:Nat):MU:=
 (uK (l3 (c8 aJ (c4 (c5 0) (c4 (i3 m9 (kI 3) (c5 6)) c7))) (setAt 7)))
def AZ(C:Nat):MU:=
  (Cw (k7 vY (i3 ui (c5 7) (kI 6)) (kI 0))
  (u9 (uK (l3 (i3 i8 (Ea (c4 (l7 (c4 (kS "told") (c4 (fun _=>some .non) c7))) (c4 (l7 (c4 (kS "refused") (c4 (kI 1) c7))) c7))) (c8 N5 (c4 (CP (k7 yn (c5 4) (l7 c7))) c7))) (setAt 8)))
  (u9 (Kx (zI 0 [2] (zD C (oS "undo") 0 (m6 C) c7) ud) zj (c5 8)
  (uK (l4 (fun _=>some (.bl false))))
  wf)
  (uK (l3 (LQ (c5 4) Pe (aP (w8 DY (kI 1)))) (setAt 4)))))
  (u9 (uK (l3 (c8 cz (c4 (i3 vV (c5 7) (kI 8)) c7)) (setAt 5)))
  (u9 (Kx (Bp 2 (bH C) (c4 (c5 2) (c4 (c5 5) c7))) ww (fun _=>some .non)
  (uK (l4 (fun _=>some (.bl false))))
  wf)
  (uK (l3 (i3 m9 (c5 4) (l7 (c4 (c5 5) c7))) (setAt 4))))))
def Bo(C:Nat):MU:=
 (uK (l3 (c8 gS (c4 (c5 1) (c4 (c8 bX (c4 (c5 1) c7)) (c4 (c5 4) c7)))) (setAt 9)))
def Bj(C:Nat):MU:=
  (uK (y3 (C9 (k7 zj (Dd C (oS "state") (bE C) (c5 2) c7) (c5 9)) (C9 (k7 zj (Dd C (oS "shown") (bV C) (c5 2) c7) (c8 dC (c4 (c5 1) (c4 (c5 9) c7)))) (k7 zj (Dd C (oS "row") (bN C) (c5 2) c7) (c5 4))))
  (l4 (fun _=>some (.bl false)))
  uu))
def Bt(C:Nat):MU:=
 (uK (l3 (Dd C (oS "rang") (bR C) (c5 2) c7) (setAt 10)))
def A5(C:Nat):MU:=
 (uK (l3 (D5 1 (vt (c8 dE (c4 (c5 1) (c4 (c5 4) c7)))) (setAt 0) (k7 vY (i3 i8 (c5 0) (kI 1)) (kS "ring")) (c5 0)) (setAt 11)))
def Bv(C:Nat):MU:=
  (uK (y3 (C9 (wY (Q_ "bool" (c5 10))) (k7 NC (c5 10) (c8 xi (c4 (c5 11) c7))))
  (l4 (fun _=>some (.bl false)))
  uu))
def jy(C:Nat):MU:=(u9 (Bb C) (u9 (AZ C) (u9 (Bo C) (u9 (Bj C) (u9 (Bt C) (u9 (A5 C) (Bv C)))))))
def oO(C:Nat):MU:=
 (uK (l3 (l7 c7) (setAt 4)))
def oE(C:Nat):MU:=
  (Cw (k7 vY (i3 ui (c8 aJ (c4 (c5 0) (c4 (kI 1) c7))) (kI 3)) (kI 0))
  (Jg (vt (l7 (c4 (l7 (c4 (kS "down") (c4 (kS "a") c7))) (c4 (l7 (c4 (kS "up") (c4 (kS "a") c7))) (c4 (l7 (c4 (kS "ticks") (c4 (kI 70) c7))) c7))))) (setAt 5) (jD C))
  wf)
def oY(C:Nat):MU:=
 (Jg (x6 (i3 ui (c8 aJ (c4 (c5 0) (c4 (kI 2) c7))) (kI 15))) (setAt 6) (jy C))
def oW(C:Nat):MU:=
 (uK (l4 (Bf (CP (k7 yn (Dd C (oS "state") (bE C) (c5 3) c7) (c8 bX (c4 (c5 1) c7)))) (Bf (CP (k7 yn (Dd C (oS "row") (bN C) (c5 3) c7) (l7 c7))) (CP (k7 vY (Dd C (oS "rang") (bR C) (c5 3) c7) (kI 0)))))))
def HL(C:Nat):MU:=(u9 (oO C) (u9 (oE C) (u9 (oY C) (oW C))))
def sx(C:Nat):R->RT Out:=
 (l5 oJ (Fg 2 (yk 2 C (oS "past") (aS C)) (c4 (c5 1) c7) (NK 3 (yk 2 C (oS "past") (aS C)) (c4 (c5 1) c7) (HL C))))
def mG(C:Nat):LD->OD:=via 1 12 (sx C)
theorem tZ(C:Nat):∀ds d,mG C ds=some d->yr (sx C (AO 12 ds))=some d:=fun _ _ h=>sF h
theorem tQ(C:Nat):∀ds d,mG C ds=some d->ds.length=1:=fun _ _ h=>oB h
abbrev DT:=Ev×WS×Int
def xt(x:DT):D:=vi x.2.1 x.1 x.2.2
def Ac(P:List DT):LD:=P.map fun x=>x.1.d
def Wp(C a l:Nat)(b:Bk)(s:WS)(r:Int)(P:List DT):D:=Wo C a l b s r (P.map xt)
theorem Hi(P:List DT):n5 (P.map xt)=true:=cR (fun x=>gM _ _ _) P
theorem Oa(P:List DT)(x:DT):P.map xt++[vi x.2.1 x.1 x.2.2]=(P++[x]).map xt:=by rw[Ta];rfl
section
variable{C a l:Nat}{b:Bk}{s:WS}{r:Int}{P:List DT}{ρ:R}{F:R->OD}{d:D}
theorem HM(hb:uR 0 (some (Wp C a l b s r P)::ρ)=true)(hF:F (some (.obj (C+2) a [oS "book",oS "present",oS "rung",oS "past"] [b.d,s.d,.int r,.fro (P.map xt)])::ρ)=some d)(hd:nof d=true):ye 0 C (oS "past") F (some (Wp C a l b s r P)::ρ)=some d:=by
 show(if _ then _ else none)=_
 rw[R3 ⟨rfl,hb,Hi P,by show(uC b.d&&(uC s.d&&(true&&(true&&true))))=true;rw[gW,cV];rfl⟩]
 show(F (some (.obj (C+2) a [oS "book",oS "present",oS "rung",oS "past"] [b.d,s.d,.int r,.fro (P.map xt)])::ρ)).bind _=_
 rw[hF,RZ,R3 hd]
theorem Il{q:LD}:u4 C (oS "past") (.obj (C+2) a [oS "book",oS "present",oS "rung",oS "past"] [b.d,s.d,.int r,.fro q])=some (.fro q):=by show(if C+2=C+2 then _ else none)=_;rw[R3 rfl];rfl
end
theorem MA(e:Ev):nof e.d=true:=by cases e<;>rfl
theorem GA:∀P:List DT,nofs (Ac P)=true
 | []=>rfl
 | x::P=>by show(nof x.1.d&&nofs (Ac P))=true;rw[MA,GA P];rfl
theorem mE(ρ:R):∀P:List DT,vB (setAt 0) zd (i3 i8 (c5 0) (kI 0)) (P.map xt) (none::ρ)=some (Ac P)
 | []=>rfl
 | x::P=>Ef rfl (i7 rfl rfl rfl) (mE ρ P)
section
variable{C a l:Nat}{b:Bk}{s:WS}{r:Int}{P:List DT}
theorem NU(hP:P.length<=1000):bN C [Wp C a l b s r P]=some (.tup (Ac P)):=by
 have z:1000<=sizeLine:=by decide
 have hl:D5 1 (Gn (w8 (u4 C (oS "past")) (c5 0))) (setAt 0) zd (i3 i8 (c5 0) (kI 0)) [some (.obj (C+2) a [oS "book",oS "present",oS "rung",oS "past"] [b.d,s.d,.int r,.fro (P.map xt)])]=some (.lst (Ac P)):=by
  have q:Gn (w8 (u4 C (oS "past")) (c5 0)) [some (.obj (C+2) a [oS "book",oS "present",oS "rung",oS "past"] [b.d,s.d,.int r,.fro (P.map xt)])]=some (P.map xt):=by
   show(w8 _ _ _).bind _=_
   rw[B7 rfl Il];rfl
  unfold D5
  rw[q,RZ,R3 (by rw[R7];omega)]
  exact congrArg (Option.map D.lst) (mE _ P)
 exact k9 (retS (i4 (m8 (HM (ρ:=[]) rfl hl (GA P)) rfl) rfl))
theorem KF(w:s.Wk b)(hl:s.lm<1000000000000000000):bV C [Wp C a l b s r P]=some (z8 b s):=k9 (retS (i4 (m8 (B7 rfl IT) (m8 (B7 rfl Et) rfl)) (oC w hl)))
theorem H8:bR C [Wp C a l b s r P]=some (.int r):=k9 (retS (B7 rfl HA))
theorem Gx:bE C [Wp C a l b s r P]=some s.d:=k9 (retS (B7 rfl Et))
theorem Fk{m:Str}{G:LD->OD}{ρ:R}{i:Nat}{d:D}(hm:[oS "book",oS "present",oS "rung",oS "past"].contains m=false)(h:c5 i ρ=some (Wp C a l b s r P))(hG:G [Wp C a l b s r P]=some d):Dd C m G (c5 i) c7 ρ=some d:=by
 show(c5 i ρ).bind _=_
 rw[h,RZ]
 show(if C+2=C+2/\_ then G [Wp C a l b s r P] else none)=_
 rw[R3 ⟨rfl,hm⟩,hG]
theorem LP(x:DT):eU C [Wp C a l b s r (P++[x])]=some (.non,Wp C a l b x.2.1 x.2.2 P):=by
 have hn:=Hi (P++[x])
 have ln:ye 0 C (oS "past") (c8 xi (c4 (w8 (u4 C (oS "past")) (c5 0)) c7)) [some (Wp C a l b s r (P++[x])),none]=some (.int (((P++[x]).map xt).length:Int)):=HM (ρ:=[none]) rfl (i4 (m8 (B7 rfl Il) rfl) rfl) rfl
 have s1:Cw (k7 vY (ye 0 C (oS "past") (c8 xi (c4 (w8 (u4 C (oS "past")) (c5 0)) c7))) (kI 0)) (fun _ _=>none) wf [a,l] [some (Wp C a l b s r (P++[x])),none]=some (.nx [some (Wp C a l b s r (P++[x])),none]):=by
  show(k7 vY _ _ _).bind _=_
  rw[ug (b:=false) ln rfl (by show some ((((P++[x]).map xt).length:Int)==0)=some false;rw[SD.mpr (by simp;omega)])];rfl
 have s2:G1 1 0 C (oS "past") [a,l] [some (Wp C a l b s r (P++[x])),none]=some (.nx [some (Wp C a l b s r P),some (xt x)]):=by
  have e1:((P++[x]).map xt).getLast?=some (xt x):=by simp
  have e2:((P++[x]).map xt).dropLast=P.map xt:=by simp
  show(match ((P++[x]).map xt).getLast? with | some d=>(if _ then _ else none) | none=>none)=_
  rw[e1]
  show(if _ then some (MO.nx [some (Wo C a l b s r ((P++[x]).map xt).dropLast),some (xt x)]) else none)=_
  rw[R3 ⟨rfl,by decide,by show 1<2;decide,rfl,wS,hn,by show(uC b.d&&(uC s.d&&(true&&(true&&true))))=true;rw[gW,cV];rfl,by simp⟩,e2];rfl
 have nb:∀ob:D,uR 0 [some ob,some (xt x)]=true:=fun ob=>by
  show(true&&(uC (xt x)&&true))=true
  rw[show uC (xt x)=true from gM _ _ _];rfl
 have s3:=Lw (C:=C) (a:=a) (l:=l) (b:=b) (s:=s) (s':=x.2.1) (r:=r) (p:=P.map xt) (ρ:=[some (xt x)]) (f:=i3 i8 (c5 1) (kI 1)) (Hi P) (nb _) (i7 rfl rfl rfl)
 have s4:=La (C:=C) (a:=a) (l:=l) (b:=b) (s:=x.2.1) (r:=r) (r':=x.2.2) (p:=P.map xt) (ρ:=[some (xt x)]) (f:=i3 i8 (c5 1) (kI 2)) (Hi P) (nb _) (i7 rfl rfl rfl)
 have g:bA C [a,l] [some (Wp C a l b s r (P++[x])),none]=some (.nx [some (Wp C a l b x.2.1 x.2.2 P),some (xt x)]):=by
  show(Cw _ _ _ [a,l] _).bind _=_
  rw[s1,RZ]
  show(G1 _ _ _ _ [a,l] _).bind _=_
  rw[s2,RZ]
  show(wZ _ _ _ _ [a,l] _).bind _=_
  rw[show wZ 0 C (oS "present") (i3 i8 (c5 1) (kI 1)) [a,l] [some (Wp C a l b s r P),some (xt x)]=_ from s3,RZ]
  exact s4
 show(bA C [a,l] [some (Wp C a l b s r (P++[x])),none]).bind _=_
 rw[g,RZ]
 exact R3 ⟨rfl,rfl⟩
end
theorem El{st:D->R->RT R}{u:MU}{S:List Nat}(I:Nat->R->Prop):∀(ds:LD) (k:Nat) (ρ0:R),I k ρ0->(∀i d ρ,ds[i]?=some d->I (k+i) ρ->∃ ρ1 ρ2,st d ρ=some ρ1/\u S ρ1=some (.nx ρ2)/\I (k+i+1) ρ2) ->
  ∃ ρ',C5 st u S ds ρ0=some (.nx ρ')/\I (k+ds.length) ρ'
 | [],k,ρ0,h0,_=>⟨ρ0,rfl,h0⟩
 | d::ds,k,ρ0,h0,hs=>by
  obtain⟨ρ1,ρ2,e1,e2,h2⟩:=hs 0 d ρ0 rfl h0
  obtain⟨ρ',e,h⟩:=El I ds (k+1) ρ2 h2 fun i d' ρ hd hI=>by
   have:=hs (i+1) d' ρ hd (by rw[show k+(i+1)=k+1+i by omega];exact hI)
   rw[show k+(i+1)+1=k+1+i+1 by omega] at this
   exact this
  refine⟨ρ',?_,by rw[S5,show k+(ds.length+1)=k+1+ds.length by omega];exact h⟩
  show(st d ρ0).bind _=_
  rw[e1,RZ]
  show(u S ρ1).bind _=_
  rw[e2,RZ]
  exact e
theorem AJ{A:List Nat}{o:OD}(h:uj o=true):Ab A o=true:=by
 cases o with
 | none=>rfl
 | some d=>cases d<;>first | exact h | cases h
theorem L8{A:List Nat}{C a l:Nat}{b:Bk}{s:WS}{r:Int}{P:List DT}(h1:a∉A)(h2:l∉A):Ab A (some (Wp C a l b s r P))=true:=by
 show([a,l].all (fun x=>!A.contains x) && [b.d,s.d,.int r,.obj 0 l [] (P.map xt)].all okN)=true
 rw[Qf (Hi P),Bool.and_true]
 simp[h1,h2]
theorem sJ(e:Ev):t4 e.d=true:=by
 cases e with
 | ticks n=>show(t4 (.str (oS "ticks"))&&(true&&true))=true;rw[show t4 (.str (oS "ticks"))=true by rw[t4];decide +kernel];rfl
 | down x=>show(t4 (.str (oS "down"))&&(t4 (.str x.x)&&true))=true;rw[iS,show t4 (.str (oS "down"))=true by rw[t4];decide +kernel];rfl
 | up x=>show(t4 (.str (oS "up"))&&(t4 (.str x.x)&&true))=true;rw[iS,show t4 (.str (oS "up"))=true by rw[t4];decide +kernel];rfl
theorem le:∀P:List DT,vv (Ac P)=true
 | []=>rfl
 | x::P=>by show(t4 x.1.d&&vv (Ac P))=true;rw[sJ,le P];rfl
theorem lC:∀P:List DT,wa (Ac P)<=1
 | []=>SU _
 | x::P=>by
  show max (xq x.1.d) (wa (Ac P))<=1
  have h1:xq x.1.d<=1:=by cases x.1<;>exact Se 1
  have h2:=lC P
  omega
theorem sU(P:List DT):zj (.tup (Ac P)) (.tup (Ac P))=some false:=yM (by show wa _+1<=100;have:=lC P;omega) (by rw[t4];exact le P)
theorem Qu{c:R->RT Bool}{u w:MU}{S:List Nat}{ρ:R}(h:c ρ=some true):Cw c u w S ρ=u S ρ:=by show(c ρ).bind _=_;rw[h];rfl
theorem QF{c:R->RT Bool}{u w:MU}{S:List Nat}{ρ:R}(h:c ρ=some false):Cw c u w S ρ=w S ρ:=by show(c ρ).bind _=_;rw[h];rfl
theorem Rg{c:List Nat->R->RT (D×R)}{S:List Nat}{ρ ρ':R}{d:D}(h:c S ρ=some (d,ρ')):A_ c S ρ=some (.nx ρ'):=by show(c S ρ).map _=_;rw[h];rfl
def z7(b:Bk):WS->List Ev->Int
 | _,[]=>0
 | s,e::es=>yf b s e+z7 b (gone b s e) es
def EE(b:Bk):WS->Int->List Ev->List DT
 | _,_,[]=>[]
 | s,r,e::es=>(e,s,r)::EE b (gone b s e) (r+yf b s e) es
def We(C a l:Nat)(b:Bk)(es:List Ev):D:=Wp C a l b (n9 b i9 es) (z7 b i9 es) (EE b i9 0 es)
theorem FC(b:Bk)(s:WS)(es:List Ev)(e:Ev):n9 b s (es++[e])=gone b (n9 b s es) e:=GI b s es [e]
theorem Eu(b:Bk)(e:Ev):∀(es:List Ev) (s:WS),z7 b s (es++[e])=z7 b s es+yf b (n9 b s es) e
 | [],s=>by show yf b s e+0=0+yf b s e;omega
 | x::es,s=>by
  show yf b s x+z7 b (gone b s x) (es++[e])=yf b s x+z7 b (gone b s x) es+yf b (n9 b (gone b s x) es) e
  rw[Eu b e es];omega
theorem Bw(b:Bk)(e:Ev):∀(es:List Ev) (s:WS) (r:Int),EE b s r (es++[e])=EE b s r es++[(e,n9 b s es,r+z7 b s es)]
 | [],s,r=>by show [(e,s,r)]=[(e,s,r+0)];rw[Tr]
 | x::es,s,r=>by
  show(x,s,r)::EE b (gone b s x) (r+yf b s x) (es++[e])=(x,s,r)::(EE b (gone b s x) (r+yf b s x) es++[(e,n9 b (gone b s x) es,r+(yf b s x+z7 b (gone b s x) es))])
  rw[Bw b e es,Int.add_assoc]
theorem zR(b:Bk):∀(es:List Ev) (s:WS) (r:Int),Ac (EE b s r es)=es.map Ev.d
 | [],_,_=>rfl
 | e::es,s,r=>congrArg (e.d::·) (zR b es _ _)
theorem Gy(b:Bk)(es:List Ev)(s:WS)(r:Int):(EE b s r es).length=es.length:=by
 have:=congrArg List.length (zR b es s r)
 rw[R7,show(Ac (EE b s r es)).length=(EE b s r es).length from R7 ..] at this
 exact this
theorem PV{e:Ev}(h:e.Lt):QZ e<=130:=by
 cases e with
 | ticks n=>exact h.2
 | _=>show(0:Int)<=130;decide
theorem Oe{e:Ev}(h:e.Lt):Dz e:=by
 cases e with
 | ticks n=>exact⟨h.1,by have:n<=130:=h.2;omega⟩
 | _=>trivial
theorem Ep{b:Bk}(ok:b.Ok):∀(es:List Ev) (s:WS),s.Ok b->(∀e∈es,e.Lt)->(n9 b s es).lm<=s.lm+130*es.length
 | [],s,_,_=>by show s.lm<=s.lm+130*0;omega
 | e::es,s,w,h=>by
  have he:=h e (.head _)
  have ih:=Ep ok es (gone b s e) (AK ok w e he.1) fun x hx=>h x (.tail _ hx)
  have:=KO w.toWk e he.1
  have:=PV he
  rw[S5]
  show(n9 b (gone b s e) es).lm<=_
  omega
def DR(es:List Ev):Prop:=(∀e∈es,e.Lt)/\es.length<=100
theorem DR.cat{es fs:List Ev}(h1:∀e∈es,e.Lt)(h2:∀e∈fs,e.Lt)(h:es.length+fs.length<=100):DR (es++fs):=
 ⟨fun e he=>(Ti.mp he).elim (h1 e) (h2 e),by rw[Sl];exact h⟩
section
variable{C a l:Nat}{b:Bk}{es:List Ev}
theorem sC(ok:b.Ok)(h:DR es):(n9 b i9 es).Ok b:=DZ ok (zG ok) fun e he=>(h.1 e he).1
theorem Oc(ok:b.Ok)(h:DR es):(n9 b i9 es).lm<1000000000000000000:=by
 have h1:=Ep ok es i9 (zG ok) h.1
 have h2:=h.2
 have h3:i9.lm=0:=rfl
 omega
theorem RD(ok:b.Ok)(h:DR es){e:Ev}(he:e.Lt):bH C [We C a l b es,e.d]=some (.non,We C a l b (es++[e])):=by
 have q:=QL (C:=C) (a:=a) (l:=l) (r:=z7 b i9 es) (p:=(EE b i9 0 es).map xt) ok (sC ok h).toWk e (Oe he) (by rw[R7,Gy];have:=h.2;omega) (Hi _)
 unfold We
 rw[Bw,Eu,FC,Ts]
 unfold Wp
 rw[<- Oa]
 exact q
theorem OE(h:DR es):bN C [We C a l b es]=some (.tup (es.map Ev.d)):=by
 have q:=NU (C:=C) (a:=a) (l:=l) (b:=b) (s:=n9 b i9 es) (r:=z7 b i9 es) (P:=EE b i9 0 es) (by rw[Gy];have:=h.2;omega)
 rw[zR] at q
 exact q
theorem L0{A:List Nat}(h1:a∉A)(h2:l∉A):Ab A (some (We C a l b es))=true:=L8 h1 h2
end
theorem mN{u w:MU}{S:List Nat}{ρ ρ':R}(h:u S ρ=some (.nx ρ')):u9 u w S ρ=w S ρ':=by show(u S ρ).bind _=_;rw[h];rfl
theorem mP{p:R->RT Out}{S:List Nat}{ρ ρ':R}(h:p ρ=some (.nx ρ')):uK p S ρ=some (.nx ρ'):=by show(p ρ).bind _=_;rw[h];rfl
theorem Rv{p:R->RT Out}{S:List Nat}{ρ:R}{d:D}(h:p ρ=some (.rt d)):uK p S ρ=some (.rt d ρ):=by show(p ρ).bind _=_;rw[h];rfl
theorem Le{it:R->RT LD}{xt:D->R->RT R}{u:MU}{S:List Nat}{ρ:R}{ds:LD}(h1:it ρ=some ds)(h2:n5 ds=true):Jg it xt u S ρ=C5 xt u S ds ρ:=by
 unfold Jg
 rw[h1,RZ,R3 h2]
theorem JI{xt:D->R->RT R}{u:MU}{S:List Nat}{d:D}{ds:LD}{ρ ρ1 ρ2:R}(h1:xt d ρ=some ρ1)(h2:u S ρ1=some (.nx ρ2)):C5 xt u S (d::ds) ρ=C5 xt u S ds ρ2:=by
 show(xt d ρ).bind _=_
 rw[h1,RZ]
 show(u S ρ1).bind _=_
 rw[h2];rfl
section
variable{C a l:Nat}{b:Bk}{j:Nat}{u:MU}{S:List Nat}{T:OD->OD->R}
end
section
variable{C a l:Nat}{b:Bk}{s:WS}{r:Int}{P:List DT}{es:List Ev}{S:List Nat}{ρ:R}
theorem Ls:k7 vY (ye 0 C (oS "past") (c8 xi (c4 (w8 (u4 C (oS "past")) (c5 0)) c7))) (kI 0) [some (Wp C a l b s r P),none]=some (((P.map xt).length:Int)==0):=ug (HM (ρ:=[none]) rfl (i4 (m8 (B7 rfl Il) rfl) rfl) rfl) rfl rfl
theorem Pg(hc:k7 vY (ye 0 C (oS "past") (c8 xi (c4 (w8 (u4 C (oS "past")) (c5 0)) c7))) (kI 0) ρ=some false):u7 C S ρ=(bA C S ρ).map .ok:=by
 have q:bA C S ρ=_:=mN (QF hc)
 rw[q]
 show((k7 _ _ _ ρ).bind _:RT (Except Nat MO))=_
 rw[hc];rfl
theorem Oo{x:DT}:m6 C [Wp C a l b s r (P++[x])]=some (.ok (.non,Wp C a l b x.2.1 x.2.2 P)):=by
 have q:=LP (C:=C) (a:=a) (l:=l) (b:=b) (s:=s) (r:=r) (P:=P) x
 have hc:k7 vY (ye 0 C (oS "past") (c8 xi (c4 (w8 (u4 C (oS "past")) (c5 0)) c7))) (kI 0) [some (Wp C a l b s r (P++[x])),none]=some false:=Ls.trans (congrArg some (SD.mpr (by simp;omega)))
 change (bA C [a,l] [some (Wp C a l b s r (P++[x])),none]).bind _=_ at q
 show(u7 C [a,l] [some (Wp C a l b s r (P++[x])),none]).bind _=_
 rw[Pg hc]
 cases hg:bA C [a,l] [some (Wp C a l b s r (P++[x])),none] with
 | none=>rw[hg] at q;cases q
 | some o =>
  rw[hg,RZ] at q
  cases o<;>first | exact congrArg (Option.map Except.ok) q | cases q
theorem N8:m6 C [Wp C a l b s r []]=some (.error 1):=by
 show(u7 C [a,l] [some (Wp C a l b s r []),none]).bind _=_
 have q:u7 C [a,l] [some (Wp C a l b s r []),none]=some (.error 1):=by
  show((k7 _ _ _ _).bind _:RT (Except Nat MO))=_
  rw[Ls];rfl
 rw[q];rfl
theorem Rm{e:Ev}:m6 C [We C a l b (es++[e])]=some (.ok (.non,We C a l b es)):=by
 have q:=Oo (C:=C) (a:=a) (l:=l) (b:=b) (s:=n9 b i9 (es++[e])) (r:=z7 b i9 (es++[e])) (P:=EE b i9 0 es) (x:=(e,n9 b i9 es,0+z7 b i9 es))
 rw[<- Bw] at q
 have z:(0:Int)+z7 b i9 es=z7 b i9 es:=Ts _
 rw[z] at q
 exact q
theorem Q4:zD C (oS "undo") 0 (m6 C) c7 [some (We C a l b es)]=m6 C [We C a l b es]:=R3 ⟨rfl,by decide +kernel⟩
theorem Po{e:Ev}(h:c5 2 ρ=some (We C a l b (es++[e])))(hs:za 2 [a,l] ρ=true)(hi:AE S [a,l]=true)(hl:2<ρ.length):zI 0 [2] (zD C (oS "undo") 0 (m6 C) c7) ud S ρ=some (.tup [.str uL,.non],ρ.set 2 (some (We C a l b es))):=by
 have q:Cu [2] ρ=some [We C a l b (es++[e])]:=by show(c5 2 ρ).bind _=_;rw[h];rfl
 unfold zI
 rw[q,RZ]
 show(zD C _ 0 _ c7 [some (We C a l b (es++[e]))]).bind _=_
 rw[Q4,Rm,RZ]
 exact R3 ⟨rfl,hs,hi,hl⟩
theorem Oj(h:c5 2 ρ=some (We C a l b [])):zI 0 [2] (zD C (oS "undo") 0 (m6 C) c7) ud S ρ=some (.tup [.str (oS "refused"),.int 1],ρ):=by
 have q:Cu [2] ρ=some [We C a l b []]:=by show(c5 2 ρ).bind _=_;rw[h];rfl
 unfold zI
 rw[q,RZ]
 show(zD C _ 0 _ c7 [some (We C a l b [])]).bind _=_
 rw[Q4,show m6 C [We C a l b []]=some (.error 1) from N8,RZ]
 rfl
end
theorem JY:zj (.tup [.str uL,.non]) (.tup [.str uL,.non])=some false:=
 yM (by show 1<=100;decide) (by show(t4 (.str (oS "told"))&&(true&&true))=true;rw[show t4 (.str (oS "told"))=true by rw[t4];decide +kernel];rfl)
theorem JO:yn (.tup [.str (oS "refused"),.int 1]) (.tup [.str (oS "refused"),.int 1])=some true:=
 Ah (by show 1<=100;decide) (by show(t4 (.str (oS "refused"))&&(true&&true))=true;rw[show t4 (.str (oS "refused"))=true by rw[t4];decide +kernel];rfl)
def Ll(e:Ev):Prop:=e.Ok/\CT e
def KP(b:Bk)(s:WS)(k:Int):Ev->List Int
 | .ticks n=>(zg b s n).map (k+·)
 | _=>[]
def KB(b:Bk):WS->Int->List Ev->List Int
 | _,_,[]=>[]
 | s,k,e::es=>KP b s k e++KB b (gone b s e) (k+Js e) es
theorem J7(b:Bk)(s:WS)(k:Int)(e:Ev):((KP b s k e).length:Int)=yf b s e:=by
 cases e with
 | ticks n=>show(((zg b s n).map _).length:Int)=_;rw[R7];rfl
 | _=>rfl
def Gq(p:Hx):Bool:=decide (p.2=ya)
def wc(l:List Hx):List Int:=(l.filter Gq).map (·.1)
theorem D1(l m:List Hx):wc (l++m)=wc l++wc m:=by unfold wc;rw[List.filter_append,Ta]
theorem yg(k j:Int):∀l:List Int,wc ((EJ j l).map fun p=>(k+p.1,p.2))=l.map fun i=>k+(j+i)
 | []=>rfl
 | i::l=>by
  have ih:=yg k j l
  show wc ((k+(j+i),ya)::(EJ j l).map fun p=>(k+p.1,p.2))=_
  unfold wc at ih ⊢
  rw[List.filter_cons,R3 (show Gq (k+(j+i),ya)=true from S9 rfl),S3,ih];rfl
theorem Gk{p:Hx}(h:p.2≠ya)(l:List Hx):wc (p::l)=wc l:=by
 unfold wc
 rw[List.filter_cons,Sa (by show ¬ decide _=true;rw[Sz h];decide)]
theorem LV:oS "back" ≠ ya:=by decide +kernel
theorem MF(x:wL):x.X≠ya:=by cases x<;>decide +kernel
theorem Mq(x:wL):x.x≠ya:=by cases x<;>decide +kernel
theorem Ni(s:WS):yb s≠ya:=by
 unfold yb
 cases s.held with
 | none=>exact LV
 | some p=>exact MF p.1
theorem HB(b:Bk)(s:WS)(k:Int)(e:Ev):wc ((Jy b s e).map fun p=>(k+p.1,p.2))=KP b s k e:=by
 cases e with
 | down x=>rfl
 | up x =>
  show wc ((if GY s x then [((0:Int),x.x)] else []).map _)=[]
  split
  ·exact Gk (Mq x) []
  ·rfl
 | ticks n =>
  have z:∀l:List Int,(l.map fun i=>k+(0+i))=l.map (k+·):=fun l=>List.map_congr_left fun i _=>by rw[Ts]
  show wc ((DV b s n).map _)=(zg b s n).map (k+·)
  unfold DV zg
  cases ht:t6 b s with
  | none=>dsimp only;rw[yg,z]
  | some t =>
   dsimp only
   split
   ·rw[yg,z]
   ·rw[Ta,S3,D1,Gk (p:=(k+t,yb s)) (Ni s),yg,yg,z,Ta,List.map_map];rfl
theorem Cq(b:Bk):∀(es:List Ev) (s:WS) (k:Int),wc (ED b s k es)=KB b s k es
 | [],_,_=>rfl
 | e::es,s,k=>by
  show wc (_++_)=_
  rw[D1,HB,Cq b es];rfl
theorem NW{st:D->R->RT R}{c:R->RT Bool}{e:R->OD}{ρ ρ1:R}{d x:D}{ds xs:LD}{b:Bool}(h1:st d ρ=some ρ1)(hc:c ρ1=some b)(h2:e ρ1=some x)(h3:vB st c e ds ρ=some xs):vB st c e (d::ds) ρ=some (if b then x::xs else xs):=by cases b<;>simp[vB,h1,hc,h2,h3]
theorem IG(b:Bk):∀(es:List Ev) (s:WS) (k:Int),(∀e∈es,Ll e)->(ED b s k es).length<=9*es.length
 | [],_,_,_=>Se _
 | e::es,s,k,h=>by
  have h1:=C2 b s (h e (.head _)).2
  have h2:=IG b es (gone b s e) (k+Js e) fun x hx=>h x (.tail _ hx)
  show((Jy b s e).map (fun p=>(k+p.1,p.2))++ED b (gone b s e) (k+Js e) es).length<=_
  rw[Sl,R7,S5];omega
theorem HC(b:Bk):∀(es:List Ev) (s:WS) (k:Int),((KB b s k es).length:Int)=z7 b s es
 | [],_,_=>rfl
 | e::es,s,k=>by
  show((KP b s k e++KB b (gone b s e) (k+Js e) es).length:Int)=yf b s e+z7 b (gone b s e) es
  rw[Sl,Int.natCast_add,J7,HC b es]
theorem kn(r:R):∀l:List Hx,vB (setAt 0) (k7 vY (i3 i8 (c5 0) (kI 1)) (kS "ring")) (c5 0) (l.map uH) (none::r)=some ((l.filter Gq).map uH)
 | []=>rfl
 | p::l=>by
  have ih:=kn r l
  have e:vY (.str p.2) (.str (oS "ring"))=some (Gq p):=by
   show some (p.2==ya)=some (decide _)
   by_cases h:p.2=ya
   ·rw[S9 h,h,beq_self_eq_true]
   ·rw[Sz h,SD.mpr h]
  have c:k7 vY (i3 i8 (c5 0) (kI 1)) (kS "ring") (some (uH p)::r)=some (Gq p):=ug (x:=.str p.2) (i7 rfl rfl rfl) rfl e
  refine(NW (d:=uH p) (ρ1:=some (uH p)::r) rfl c (x:=uH p) rfl ih).trans ?_
  rw[List.filter_cons]
  cases Gq p<;>rfl
theorem Jc{e:Ev}(h:e.Lt):Ll e:=by
 cases e with
 | ticks n=>exact⟨h.1,h.1,by have:n<=130:=h.2;omega⟩
 | _=>exact⟨trivial,trivial⟩
theorem Ky(xs:LD)(x:D):Pb (.tup (xs++[x])) none (some (-1))=some (.tup xs):=by
 show some (D.tup (cutD (xs++[x]) none (some (-1))))=_
 unfold cutD Hf
 dsimp only
 rw[R3 (by decide),Sl,show((-1:Int)+((xs.length+[x].length:Nat):Int)).toNat=xs.length by show((-1:Int)+((xs.length+1:Nat):Int)).toNat=_;omega]
 simp
theorem HJ(es:List Ev):vv (es.map Ev.d)=true/\wa (es.map Ev.d)<=1:=by
 have h1:=le (EE ⟨1,0,[]⟩ i9 0 es)
 have h2:=lC (EE ⟨1,0,[]⟩ i9 0 es)
 rw[zR] at h1 h2
 exact⟨h1,h2⟩
theorem kK(es:List Ev):yn (.tup (es.map Ev.d)) (.tup [])=some es.isEmpty:=by
 unfold yn
 rw[R3 ⟨by show wa (es.map Ev.d)+1<=100;have:=(HJ es).2;omega,by rw[t4];exact(HJ es).1,rfl⟩]
 cases es<;>rfl
theorem MR(row es:List Ev)(h:row.length+es.length<=1000):m9 (.tup (row.map Ev.d)) (.tup (es.map Ev.d))=some (.tup ((row++es).map Ev.d)):=by
 have z:1000<=sizeLine:=by decide
 show(if (row.map Ev.d).length+(es.map Ev.d).length<=sizeLine then some (D.tup (row.map Ev.d++es.map Ev.d)) else none)=_
 rw[R3 (by rw[R7,R7];omega),Ta]
theorem IM(b:Bk)(s:WS):zj (z8 b s) (z8 b s)=some false:=yM (by show 1<=100;decide) (pi b s)
abbrev wz(Sc:D)(b:Bk)(w2 w3:OD)(es:List Ev)(o5 o6 o7 o8 o9 o10 o11:OD):R:=[some Sc,some b.d,w2,w3,some (.tup (es.map Ev.d)),o5,o6,o7,o8,o9,o10,o11]
section
variable{C a l:Nat}{S A:List Nat}{Sc rw:D}{b:Bk}{w2 w3 o5 o6 o7 o8 o9 o10 o11:OD}{es:List Ev}
theorem OC(hS:uC Sc=true)(h3:Ab A w3=true)(h:[o5,o6,o7,o8,o9,o10,o11].all uj=true):za 2 A (wz Sc b w2 w3 es o5 o6 o7 o8 o9 o10 o11)=true:=by
 refine SF.mpr fun x hx=>?_
 have hx':x=some Sc\/x=some b.d\/x=none\/x=w3\/x=some (.tup (es.map Ev.d))\/x ∈ [o5,o6,o7,o8,o9,o10,o11]:=by simpa [wz,or_assoc] using hx
 rcases hx' with rfl | rfl | rfl | rfl | rfl | hx
 ·exact AJ hS
 ·exact AJ (o:=some b.d) (gW b)
 ·rfl
 ·exact h3
 ·exact AJ (o:=some (.tup (es.map Ev.d))) (cR fW es)
 ·exact AJ (SF.mp h x hx)
theorem OM{W3:OD}(ok:b.Ok)(hS:uC Sc=true)(h3:Ab [a,l] W3=true)(i2:AE S [a,l]=true)(h:DR es){e:Ev}(he:e.Lt)(hn:[some e.d,o6,o7,o8,o9,o10,o11].all uj=true) :
  Bp 2 (bH C) (c4 (c5 2) (c4 (c5 5) c7)) S (wz Sc b (some (We C a l b es)) W3 es (some e.d) o6 o7 o8 o9 o10 o11)=some (.non,wz Sc b (some (We C a l b (es++[e]))) W3 es (some e.d) o6 o7 o8 o9 o10 o11):=by
 show(bH C [We C a l b es,e.d]).bind _=_
 rw[RD ok h he,RZ]
 exact R3 ⟨rfl,OC hS h3 hn,i2⟩
theorem Lb(h:DR es)(e:Ev)(W:OD):l3 (i3 m9 (c5 4) (l7 (c4 (c5 5) c7))) (setAt 4) (wz Sc b W w3 es (some e.d) o6 o7 o8 o9 o10 o11)=some (.nx (wz Sc b W w3 (es++[e]) (some e.d) o6 o7 o8 o9 o10 o11)):=
 l9 (i7 (x:=.tup (es.map Ev.d)) (y:=.tup ([e].map Ev.d)) rfl rfl (MR es [e] (by have:=h.2;show _+1<=1000;omega))) rfl
theorem LY{W3:OD}(ok:b.Ok)(hS:uC Sc=true)(h3:Ab [a,l] W3=true)(i2:AE S [a,l]=true)(h:DR es){e:Ev}(he:e.Lt)(hn:[o6,o7,o8,o9,o10,o11].all uj=true) :
  jD C S (wz Sc b (some (We C a l b es)) W3 es (some e.d) o6 o7 o8 o9 o10 o11)=some (.nx (wz Sc b (some (We C a l b (es++[e]))) W3 (es++[e]) (some e.d) o6 o7 o8 o9 o10 o11)):=by
 have hn':[some e.d,o6,o7,o8,o9,o10,o11].all uj=true:=by
  show(uC e.d && [o6,o7,o8,o9,o10,o11].all uj)=true
  rw[fW,hn];rfl
 exact(mN (Rg (OM ok hS h3 i2 h he hn'))).trans (mP (Lb h e _))
theorem Lk{W3:OD}(ok:b.Ok)(hS:uC Sc=true)(h3:Ab [a,l] W3=true)(i2:AE S [a,l]=true)(hn:[o6,o7,o8,o9,o10,o11].all uj=true):∀(xs es:List Ev) (x:OD),(∀e∈xs,e.Lt)->(∀e∈es,e.Lt)->es.length+xs.length<=100->uj x=true ->
  ∃x',uj x'=true/\C5 (setAt 5) (jD C) S (xs.map Ev.d) (wz Sc b (some (We C a l b es)) W3 es x o6 o7 o8 o9 o10 o11)=some (.nx (wz Sc b (some (We C a l b (es++xs))) W3 (es++xs) x' o6 o7 o8 o9 o10 o11))
 | [],es,x,_,_,_,hx=>⟨x,hx,by rw[Sw];rfl⟩
 | e::xs,es,x,h1,h2,hl,_=>by
  rw[S5] at hl
  have he:=h1 e (.head _)
  obtain⟨x',hx',ih⟩:=Lk ok hS h3 i2 hn xs (es++[e]) (some e.d) (fun y hy=>h1 y (.tail _ hy)) (DR.cat h2 (fun y hy=>by rw[R4.mp hy];exact he) (by show es.length+1<=100;omega)).1 (by rw[Sl];show es.length+1+_<=100;omega) (fW e)
  refine⟨x',hx',(JI rfl (LY ok hS h3 i2 ⟨h2,by omega⟩ he hn)).trans (ih.trans ?_)⟩
  rw[List.append_assoc];rfl
theorem LJ{W3:OD}{m:Int}(ok:b.Ok)(hS:uC Sc=true)(h3:Ab [a,l] W3=true)(i2:AE S [a,l]=true)(h:DR es)(hl:es.length<100)(hn:[o5,o6,o8,o9,o10,o11].all uj=true) :
  ∃(fs:List Ev) (p5 p8:OD),DR fs/\fs.length<=es.length+1/\uj p5=true/\uj p8=true/\AZ C S (wz Sc b (some (We C a l b es)) W3 es o5 o6 (some (.int m)) o8 o9 o10 o11)=some (.nx (wz Sc b (some (We C a l b fs)) W3 fs p5 o6 (some (.int m)) p8 o9 o10 o11)):=by
 have hn':(uj o5&&(uj o6&&(uj o8&&(uj o9&&(uj o10&&(uj o11&&true))))))=true:=hn
 simp only[R1] at hn'
 have q:∀x5 x8:OD,uj x5=true->uj x8=true->[x5,o6,some (.int m),x8,o9,o10,o11].all uj=true:=fun x5 x8 h5 h8=>by
  show(uj x5&&(uj o6&&(true&&(uj x8&&(uj o9&&(uj o10&&(uj o11&&true)))))))=true
  rw[h5,hn'.2.1,h8,hn'.2.2.2.1,hn'.2.2.2.2.1,hn'.2.2.2.2.2.1];rfl
 by_cases hm:m%6=0
 ·have hc:k7 vY (i3 ui (c5 7) (kI 6)) (kI 0) (wz Sc b (some (We C a l b es)) W3 es o5 o6 (some (.int m)) o8 o9 o10 o11)=some true:=ug (i7 rfl rfl (modS (by decide))) rfl (by show some (m%6==0)=_;rw[hm];rfl)
  rcases List.eq_nil_or_concat es with rfl | ⟨fs,e,rfl⟩
  ·refine⟨[],o5,some (.tup [.str (oS "refused"),.int 1]),h,SU _,hn'.1,rfl,(Qu hc).trans ?_⟩
   refine(mN (mP (l9 (i7 rfl (i4 (m8 (Gg (ug rfl (tupS rfl) (kK []))) rfl) rfl) rfl) rfl))).trans ?_
   refine(mN (ρ':=wz Sc b (some (We C a l b [])) W3 [] o5 o6 (some (.int m)) (some (.tup [.str (oS "refused"),.int 1])) o9 o10 o11) ?_).trans (mP (l9 (Dl (a:=none) (b:=some (-1)) rfl rfl (by show(w8 _ _ _).bind _=_;rw[B7 (F:=DY) (x:=.int 1) (z:=.int (-1)) rfl rfl];rfl) rfl) rfl))
   show(zI _ _ _ _ S _).bind _=_
   rw[Oj (C:=C) (a:=a) (l:=l) (b:=b) rfl,RZ]
   show(zj (.tup [.str (oS "refused"),.int 1]) (.tup [.str (oS "refused"),.int 1])).bind _=_
   rw[show zj (.tup [.str (oS "refused"),.int 1]) (.tup [.str (oS "refused"),.int 1])=some false by show(yn _ _).map _=_;rw[JO];rfl];rfl
  ·rw[List.concat_eq_append] at *
   have hfs:DR fs:=⟨fun x hx=>h.1 x (S2 _ hx),by have:=h.2;rw[Sl] at this;omega⟩
   refine⟨fs,o5,some (.tup [.str uL,.non]),hfs,by rw[Sl];omega,hn'.1,rfl,(Qu hc).trans ?_⟩
   refine(mN (mP (l9 (i7 rfl (i4 (m8 (Gg (ug rfl (tupS rfl) (kK _))) rfl) rfl) (by rw[show(fs++[e]).isEmpty=false by cases fs<;>rfl];rfl)) rfl))).trans ?_
   refine(mN (ρ':=wz Sc b (some (We C a l b fs)) W3 (fs++[e]) o5 o6 (some (.int m)) (some (.tup [.str uL,.non])) o9 o10 o11) ?_).trans (mP (l9 (Dl (a:=none) (b:=some (-1)) rfl rfl (by show(w8 _ _ _).bind _=_;rw[B7 (F:=DY) (x:=.int 1) (z:=.int (-1)) rfl rfl];rfl) (by rw[Ta];exact Ky _ _)) rfl))
   show(zI 0 [2] (zD C (oS "undo") 0 (m6 C) c7) ud S (wz Sc b (some (We C a l b (fs++[e]))) W3 (fs++[e]) o5 o6 (some (.int m)) (some (.tup [.str uL,.non])) o9 o10 o11)).bind _=_
   rw[Po (ρ:=wz Sc b (some (We C a l b (fs++[e]))) W3 (fs++[e]) o5 o6 (some (.int m)) (some (.tup [.str uL,.non])) o9 o10 o11) (C:=C) (a:=a) (l:=l) (b:=b) (es:=fs) (e:=e) rfl (OC hS h3 (q _ _ hn'.1 rfl)) i2 (by show 2<12;decide),RZ]
   show(zj (.tup [.str uL,.non]) (.tup [.str uL,.non])).bind _=_
   rw[JY];rfl
 ·have hc:k7 vY (i3 ui (c5 7) (kI 6)) (kI 0) (wz Sc b (some (We C a l b es)) W3 es o5 o6 (some (.int m)) o8 o9 o10 o11)=some false:=ug (i7 rfl rfl (modS (by decide))) rfl (by show some (m%6==0)=_;rw[SD.mpr hm])
  obtain⟨e,ee,he⟩:=E6 (m / 8)
  refine⟨es++[e],some e.d,o8,DR.cat h.1 (fun y hy=>by rw[R4.mp hy];exact he) (by show es.length+1<=100;omega),by rw[Sl];exact Se _,fW e,hn'.2.2.1,(QF hc).trans ?_⟩
  refine(mN (mP (l9 (i4 (m8 (i7 rfl rfl rfl) rfl) ee) rfl))).trans ?_
  refine(mN (ρ':=wz Sc b (some (We C a l b (es++[e]))) W3 es (some e.d) o6 (some (.int m)) o8 o9 o10 o11) ?_).trans (mP (Lb h e _))
  show(Bp 2 (bH C) (c4 (c5 2) (c4 (c5 5) c7)) S (wz Sc b (some (We C a l b es)) W3 es (some e.d) o6 (some (.int m)) o8 o9 o10 o11)).bind _=_
  rw[OM ok hS h3 i2 h he (q _ _ (fW e) hn'.2.2.1)];rfl
theorem M8{W3:OD}{i:Int}(ok:b.Ok)(hS:uC Sc=true)(hi:0<=i)(hmix:∀i:Int,0<=i->∃m,aJ [Sc,.int i]=some (.int m)/\0<=m)(h3:Ab [a,l] W3=true)(i2:AE S [a,l]=true)(h:DR es)(hl:es.length<100)(hn:[o5,o7,o8,o9,o10,o11].all uj=true) :
  ∃(fs:List Ev) (p5 p7 p8 p9 p10 p11:OD),DR fs/\fs.length<=es.length+1/\[p5,p7,p8,p9,p10,p11].all uj=true/\jy C S (wz Sc b (some (We C a l b es)) W3 es o5 (some (.int i)) o7 o8 o9 o10 o11)=some (.nx (wz Sc b (some (We C a l b fs)) W3 fs p5 (some (.int i)) p7 p8 p9 p10 p11)):=by
 have hn':(uj o5&&(uj o7&&(uj o8&&(uj o9&&(uj o10&&(uj o11&&true))))))=true:=hn
 simp only[R1] at hn'
 obtain⟨m,em,_⟩:=hmix (3+i) (by omega)
 have s1:Bb C S (wz Sc b (some (We C a l b es)) W3 es o5 (some (.int i)) o7 o8 o9 o10 o11)=some (.nx (wz Sc b (some (We C a l b es)) W3 es o5 (some (.int i)) (some (.int m)) o8 o9 o10 o11)):=mP (l9 (i4 (m8 rfl (m8 (i7 rfl rfl rfl) rfl)) em) rfl)
 obtain⟨fs,p5,p8,hf,hfl,h5,h8,s2⟩:=LJ (C:=C) (S:=S) (a:=a) (l:=l) (Sc:=Sc) (W3:=W3) (m:=m) (o5:=o5) (o6:=some (.int i)) (o8:=o8) (o9:=o9) (o10:=o10) (o11:=o11) ok hS h3 i2 h hl (by
  show(uj o5&&(true&&(uj o8&&(uj o9&&(uj o10&&(uj o11&&true))))))=true
  rw[hn'.1,hn'.2.2.1,hn'.2.2.2.1,hn'.2.2.2.2.1,hn'.2.2.2.2.2.1];rfl)
 have oka:=sC ok hf
 have lma:=Oc ok hf
 have ea:=rW ok (zG ok) fs fun e he=>(hf.1 e he).1
 have es':=rF ok fs (fun e he=>Jc (hf.1 e he)) hf.2
 have hs:=IG b fs i9 0 fun e he=>Jc (hf.1 e he)
 have ho:=congrArg List.length (Cq b fs i9 0)
 have hg:=HC b fs i9 0
 generalize hst:ED b i9 0 fs=st at *
 have s3:Bo C S (wz Sc b (some (We C a l b fs)) W3 fs p5 (some (.int i)) (some (.int m)) p8 o9 o10 o11)=some (.nx (wz Sc b (some (We C a l b fs)) W3 fs p5 (some (.int i)) (some (.int m)) p8 (some (n9 b i9 fs).d) o10 o11)):=mP (l9 (i4 (m8 rfl (m8 (i4 rfl (iL _)) (m8 rfl rfl))) ea) rfl)
 have s4:Bj C S (wz Sc b (some (We C a l b fs)) W3 fs p5 (some (.int i)) (some (.int m)) p8 (some (n9 b i9 fs).d) o10 o11)=some (.nx (wz Sc b (some (We C a l b fs)) W3 fs p5 (some (.int i)) (some (.int m)) p8 (some (n9 b i9 fs).d) o10 o11)):=
  mP ((yV (NH (ug (Fk (m:=oS "state") (by decide +kernel) rfl Gx) rfl (N9 _)) (NH (ug (Fk (m:=oS "shown") (by decide +kernel) rfl (KF oka.toWk lma)) (i4 rfl (oC oka.toWk lma)) (IM b _)) (ug (Fk (m:=oS "row") (by decide +kernel) rfl (OE hf)) rfl (by have:=sU (EE b i9 0 fs);rw[zR] at this;exact this))))).trans rfl)
 have s5:Bt C S (wz Sc b (some (We C a l b fs)) W3 fs p5 (some (.int i)) (some (.int m)) p8 (some (n9 b i9 fs).d) o10 o11)=some (.nx (wz Sc b (some (We C a l b fs)) W3 fs p5 (some (.int i)) (some (.int m)) p8 (some (n9 b i9 fs).d) (some (.int (z7 b i9 fs))) o11)):=mP (l9 (Fk (m:=oS "rang") (by decide +kernel) rfl H8) rfl)
 have lc:D5 1 (vt (c8 dE (c4 (c5 1) (c4 (c5 4) c7)))) (setAt 0) (k7 vY (i3 i8 (c5 0) (kI 1)) (kS "ring")) (c5 0) (wz Sc b (some (We C a l b fs)) W3 fs p5 (some (.int i)) (some (.int m)) p8 (some (n9 b i9 fs).d) (some (.int (z7 b i9 fs))) o11)=some (.lst ((st.filter Gq).map uH)):=by
  have z:1000<=sizeLine:=by decide
  have q:vt (c8 dE (c4 (c5 1) (c4 (c5 4) c7))) (wz Sc b (some (We C a l b fs)) W3 fs p5 (some (.int i)) (some (.int m)) p8 (some (n9 b i9 fs).d) (some (.int (z7 b i9 fs))) o11)=some (st.map uH):=by
   show(c8 dE _ _).bind _=_
   rw[i4 rfl es'];rfl
  unfold D5
  rw[q,RZ,R3 (by rw[R7];have:=hf.2;omega)]
  exact congrArg (Option.map D.lst) (kn _ st)
 have s6:A5 C S (wz Sc b (some (We C a l b fs)) W3 fs p5 (some (.int i)) (some (.int m)) p8 (some (n9 b i9 fs).d) (some (.int (z7 b i9 fs))) o11)=some (.nx (wz Sc b (some (We C a l b fs)) W3 fs p5 (some (.int i)) (some (.int m)) p8 (some (n9 b i9 fs).d) (some (.int (z7 b i9 fs))) (some (.lst ((st.filter Gq).map uH))))):=mP (l9 lc rfl)
 have hlen:(((st.filter Gq).map uH).length:Int)=z7 b i9 fs:=by
  rw[R7,<- hg,<- ho]
  unfold wc
  rw[R7]
 have s7:Bv C S (wz Sc b (some (We C a l b fs)) W3 fs p5 (some (.int i)) (some (.int m)) p8 (some (n9 b i9 fs).d) (some (.int (z7 b i9 fs))) (some (.lst ((st.filter Gq).map uH))))=some (.nx (wz Sc b (some (We C a l b fs)) W3 fs p5 (some (.int i)) (some (.int m)) p8 (some (n9 b i9 fs).d) (some (.int (z7 b i9 fs))) (some (.lst ((st.filter Gq).map uH))))):=
  mP ((yV (NH (Ca (b:=false) rfl) (ug (F:=NC) (x:=.int (z7 b i9 fs)) (y:=.int (((st.filter Gq).map uH).length:Int)) rfl (i4 (m8 rfl rfl) rfl) (by rw[hlen];show some (!(z7 b i9 fs==z7 b i9 fs))=_;simp)))).trans rfl)
 refine⟨fs,p5,some (.int m),p8,some (n9 b i9 fs).d,some (.int (z7 b i9 fs)),some (.lst ((st.filter Gq).map uH)),hf,hfl,?_,(mN s1).trans ((mN s2).trans ((mN s3).trans ((mN s4).trans ((mN s5).trans ((mN s6).trans s7)))))⟩
 show(uj p5&&(true&&(uj p8&&(uC (n9 b i9 fs).d&&(true&&(n5 ((st.filter Gq).map uH)&&true))))))=true
 rw[h5,h8,cV,cR (fun _=>rfl) _];rfl
end
theorem J9(C:Nat)(ns:List Int):mG C [.fro (ns.map .int)]=some (.bl true):=by
 obtain⟨n0,e0,_⟩:=xx ns 0 (by decide)
 obtain⟨n1,e1,_⟩:=xx ns 1 (by decide)
 obtain⟨n2,e2,hn2⟩:=xx ns 2 (by decide)
 have hmix:∀i:Int,0<=i->∃m,aJ [.fro (ns.map .int),.int i]=some (.int m)/\0<=m:=xx ns
 obtain⟨bd,eb,hb,_⟩:=pE n0
 obtain⟨b0,rfl,ok0⟩:=sr hb
 have hS:uC (.fro (ns.map D.int))=true:=cR (fun _=>rfl) ns
 generalize hSc:D.fro (ns.map .int)=Sc at *
 have ok:=HG ok0 (xI n0 77 / 4)
 have ey:=rS ok0 (xI n0 77 / 4)
 generalize Bz b0 (xI n0 77 / 4)=b at *
 have s1:oJ (AO 12 [Sc])=some (.nx (AO 12 [Sc,b.d])):=l9 (i4 (m8 (i4 (m8 (i4 rfl e0) rfl) eb) (m8 (i7 (i4 (m8 (i4 rfl e0) (m8 rfl rfl)) (zb n0 77)) rfl rfl) rfl)) ey) rfl
 refine k9 ((k8 s1).trans ?_)
 refine Kl (ds:=[b.d]) (r:=.bl true) rfl (by show 2<12;decide) fun a l hal=>⟨We C a l b [],[],Ob C a l b,?_⟩
 refine Ml (ds:=[b.d]) (r:=.bl true) rfl (by show 3<12;decide) fun a' l' hal' ha' hl'=>?_
 have i2:AE [a',l',a,l] [a,l]=true:=by simp[AE]
 have h3:Ab [a,l] (some (We C a' l' b []))=true:=L0 ha' hl'
 generalize [a',l',a,l]=S at *
 have s4:oO C S [some Sc,some b.d,some (We C a l b []),some (We C a' l' b []),none,none,none,none,none,none,none,none]=some (.nx (wz Sc b (some (We C a l b [])) (some (We C a' l' b [])) [] none none none none none none none)):=mP (l9 (tupS rfl) rfl)
 have lt3:∀e ∈ [Ev.down .a,Ev.up .a,Ev.ticks 70],e.Lt:=fun e he=>by
  simp only[Sf,List.not_mem_nil,or_false] at he
  rcases he with rfl | rfl | rfl
  ·exact⟨trivial,trivial⟩
  ·exact⟨trivial,trivial⟩
  ·exact⟨by show(1:Int)<=70;decide,by show(70:Int)<=130;decide⟩
 obtain⟨es,x5,hes,hel,hx5,s5⟩:∃(es:List Ev) (x5:OD),(∀e∈es,e.Lt)/\es.length<=3/\uj x5=true/\oE C S (wz Sc b (some (We C a l b [])) (some (We C a' l' b [])) [] none none none none none none none)=some (.nx (wz Sc b (some (We C a l b es)) (some (We C a' l' b [])) es x5 none none none none none none)):=by
  have c1:i3 ui (c8 aJ (c4 (c5 0) (c4 (kI 1) c7))) (kI 3) (wz Sc b (some (We C a l b [])) (some (We C a' l' b [])) [] none none none none none none none)=some (.int (n1%3)):=i7 (i4 rfl e1) rfl (modS (by decide))
  by_cases h:n1%3=0
  ·obtain⟨x',hx',e⟩:=Lk (C:=C) (S:=S) (a:=a) (l:=l) (Sc:=Sc) (b:=b) (W3:=some (We C a' l' b [])) (o6:=none) (o7:=none) (o8:=none) (o9:=none) (o10:=none) (o11:=none) ok hS h3 i2 rfl [Ev.down .a,Ev.up .a,Ev.ticks 70] [] none lt3 (fun _ h=>(by cases h)) (by decide) rfl
   exact⟨_,x',lt3,Se _,hx',(Qu (ug c1 rfl (by show some (n1%3==0)=_;rw[h];rfl))).trans ((Le rfl rfl).trans e)⟩
  ·exact⟨[],none,(fun _ h=>(by cases h)),SU _,rfl,QF (ug c1 rfl (by show some (n1%3==0)=_;rw[SD.mpr h]))⟩
 have hk0:=SQ n2 (b:=15) (by decide)
 have hk1:=SR n2 (b:=15) (by decide)
 obtain⟨ρ',e6,fs,p5,p6,p7,p8,p9,p10,p11,rfl,_,_,_⟩:=El (st:=setAt 6) (u:=jy C) (S:=S) (fun k ρ=>∃(fs:List Ev) (p5 p6 p7 p8 p9 p10 p11:OD),ρ=wz Sc b (some (We C a l b fs)) (some (We C a' l' b [])) fs p5 p6 p7 p8 p9 p10 p11/\DR fs/\fs.length<=3+k/\[p5,p7,p8,p9,p10,p11].all uj=true)
  (wQ 0 (n2%15)) 0 (wz Sc b (some (We C a l b es)) (some (We C a' l' b [])) es x5 none none none none none none) ⟨es,x5,none,none,none,none,none,none,rfl,⟨hes,by omega⟩,hel,by show(uj x5&&true)=true;rw[hx5];rfl⟩ (by
   rintro i d ρ hd ⟨fs,p5,p6,p7,p8,p9,p10,p11,rfl,hf,hfl,hp⟩
   obtain⟨hil,hd'⟩:=Sg.mp hd
   rw[lu] at hil
   have hdi:d=.int (i:Int):=by rw[<- hd'];simp[wQ]
   subst hdi
   obtain⟨gs,q5,q7,q8,q9,q10,q11,hg,hgl,hq,t⟩:=M8 (C:=C) (S:=S) (a:=a) (l:=l) (Sc:=Sc) (b:=b) (es:=fs) (W3:=some (We C a' l' b [])) (i:=(i:Int)) (o5:=p5) (o7:=p7) (o8:=p8) (o9:=p9) (o10:=p10) (o11:=p11) ok hS (by omega) hmix h3 i2 hf (by omega) hp
   exact⟨_,_,rfl,t,gs,q5,some (.int (i:Int)),q7,q8,q9,q10,q11,rfl,hg,by omega,hq⟩)
 have s6:oY C S (wz Sc b (some (We C a l b es)) (some (We C a' l' b [])) es x5 none none none none none none)=some (.nx (wz Sc b (some (We C a l b fs)) (some (We C a' l' b [])) fs p5 p6 p7 p8 p9 p10 p11)):=by
  have q:x6 (i3 ui (c8 aJ (c4 (c5 0) (c4 (kI 2) c7))) (kI 15)) (wz Sc b (some (We C a l b es)) (some (We C a' l' b [])) es x5 none none none none none none)=some (wQ 0 (n2%15)):=by
   show(i3 _ _ _ _).bind _=_
   rw[i7 (i4 (m8 rfl (m8 rfl rfl)) e2) rfl (modS (by decide)),RZ]
   exact R3 ⟨by omega,by omega⟩
  exact(Le q (cR (fun _=>rfl) _)).trans e6
 have f0:DR []:=⟨fun _ h=>(by cases h),(by decide)⟩
 have s7:oW C S (wz Sc b (some (We C a l b fs)) (some (We C a' l' b [])) fs p5 p6 p7 p8 p9 p10 p11)=some (.rt (.bl true) (wz Sc b (some (We C a l b fs)) (some (We C a' l' b [])) fs p5 p6 p7 p8 p9 p10 p11)):=
  Rv (retS (Lm (Gg (ug (Fk (m:=oS "state") (by decide +kernel) rfl Gx) (i4 rfl (iL _)) (Pm _))) (Lm (Gg (ug (Fk (m:=oS "row") (by decide +kernel) rfl (OE f0)) (tupS rfl) (kK []))) (Gg (ug (Fk (m:=oS "rang") (by decide +kernel) rfl H8) rfl rfl)))))
 exact⟨We C a' l' b [],_,Ob C a' l' b,(mN s4).trans ((mN s5).trans ((mN s6).trans s7))⟩
end
end HW
set_option maxRecDepth 100000
namespace HW
open PySem PySem.Spec PyProof.Rows L2
variable{P:R9}{w:Sk}{K:RW}{mg:Str->RT RU}{base:Sq}{k:Nat}{f:RY}{fd:SV}
abbrev lS:So:=top 16
theorem zt:c9 ["book","alarm","laps","count"] ["book"] (c6 lS):=uM
theorem qQ(Fn:uv K "begun" "begun" lS f fd):k6 P w K mg base ue (k+1) f fd ["book"] (uP K bX):=by
 refine ar Fn zt ?_
 intro _ _ _ _ _ _ hr
 refine ak ?_ ?_
 ·refine aB ?_ ?_
  ·exact ax (ac ae (ac ae (ac dG af)))
  exact aj 1 zt.nd
 refine ak ?_ ?_
 ·refine aB ?_ ?_
  ·refine ax ?_
   refine ac ae ?_
   refine ac dG ?_
   refine ac ?_ af
   exact ax af
  exact aj 2 zt.nd
 refine ak ?_ ?_
 ·refine aB ?_ ?_
  ·refine ax ?_
   exact ac ae (ac ae (ac ae (ac dG af)))
  exact aj 3 zt.nd
 refine ao ?_
 refine ay ?_
 refine ax ?_
 refine ac ae ?_
 refine ac ae ?_
 refine ac (ad 1) ?_
 refine ac (ad 2) ?_
 exact ac (ad 3) (ac ae (ac aR (ac ae af)))
abbrev im:So:=top 42
theorem nz:c9 ["laps","many"] ["laps","many"] (c6 im):=uM
theorem om(Fn:uv K "laps_on" "laps_on" im f fd):k6 P w K mg base ue (k+1) f fd ["laps","many"] (uP K dZ):=by
 refine ar Fn nz ?_
 intro _ _ _ _ _ _ hr
 refine ao ?_
 refine ay ?_
 refine fm ?_ ?_ (ad 0)
 ·exact cE (ag (ad 0) ae)
 refine ax ?_
 refine ac ?_ (ac dG (ac (ag (ad 0) ae) af))
 exact al aD (ag (ad 0) ae) (ad 1)
abbrev gr:So:=top 43
theorem As:c9 ["count","many","left"] ["count","many"] (c6 gr):=uM
theorem mR(wg:mg "max" = none)(Fn:uv K "count_on" "count_on" gr f fd):k6 P w K mg base ue (k+1) f fd ["count","many"] (uP K dB):=by
 refine ar Fn As ?_
 intro _ _ _ _ _ _ hr
 refine ak ?_ ?_
 ·refine cQ ?_ ?_ aU
  ·refine lP ?_
   exact cE (ag (ad 0) ae)
  refine ao ?_
  exact ay (ad 0)
 refine ak ?_ ?_
 ·refine aB ?_ ?_
  ·refine bC (jh rfl) wg ?_
   refine ac ae ?_
   refine ac ?_ af
   exact al b_ (ag (ad 0) ae) (ad 1)
  exact aj 2 As.nd
 refine ao ?_
 refine ay ?_
 refine ax ?_
 refine ac (ag (ad 0) ae) ?_
 refine ac (ag (ad 0) ae) ?_
 refine ac (ad 2) ?_
 refine ac ?_ af
 exact cD gh (ad 2) ae
abbrev eS:So:=top 37
theorem w_:c9 ["state","alarm","second"] ["state"] (c6 eS):=uM
theorem jL(uf:uZ K mg "ALARM" bf)(ub:uZ K mg "CLOCK" aW)(wH:uZ K mg "DAY" dI)(Fn:uv K "alarm_tick" "alarm_tick" eS f fd):k6 P w K mg base ue (k+1) f fd ["state"] (uP K aL):=by
 refine ar Fn w_ ?_
 intro _ _ _ _ _ _ hr
 refine ak ?_ ?_
 ·refine aB (ag (ad 0) (av uf)) ?_
  exact aj 1 w_.nd
 refine ak ?_ ?_
 ·refine cQ ?_ ?_ aU
  ·refine lP ?_
   exact cE (ag (ad 1) ae)
  refine ao ?_
  exact ay aR
 refine ak ?_ ?_
 ·refine aB ?_ ?_
  ·refine al aD ?_ ?_
   ·exact al dq ae (ag (ad 1) ae)
   exact al dq ae (ag (ad 1) ae)
  exact aj 2 w_.nd
 refine ao ?_
 refine ay ?_
 refine al aD ?_ ae
 refine al aI ?_ (av wH)
 refine al b_ ?_ ae
 exact al b_ (ad 2) (ag (ad 0) (av ub))
abbrev fg:So:=top 38
theorem y1:c9 ["state","count"] ["state"] (c6 fg):=uM
theorem jU(p4:uZ K mg "COUNT" aO)(Fn:uv K "count_tick" "count_tick" fg f fd):k6 P w K mg base ue (k+1) f fd ["state"] (uP K aN):=by
 refine ar Fn y1 ?_
 intro _ _ _ _ _ _ hr
 refine ak ?_ ?_
 ·refine aB (ag (ad 0) (av p4)) ?_
  exact aj 1 y1.nd
 refine ao ?_
 refine ay ?_
 refine fm ?_ (ag (ad 1) ae) aR
 exact cE (ag (ad 1) ae)
abbrev fz:So:=top 39
theorem wk:c9 ["state","many","alarm","count","ticks"] ["state","many"] (c6 fz):=uM
theorem lK(ul:l8 P w K mg base k "alarm_tick" ["state"] aL)(um:l8 P w K mg base k "count_tick" ["state"] aN)(wg:mg "max" = none)(wH:uZ K mg "DAY" dI)(Fn:uv K "last_ring" "last_ring" fz f fd):k6 P w K mg base ue (k+1) f fd ["state","many"] (uP K cT):=by
 refine ar Fn wk ?_
 intro _ _ _ _ _ _ hr
 refine ak ?_ ?_
 ·refine aB ?_ ?_
  ·exact ai ul hr (ac (ad 0) af)
  exact aj 2 wk.nd
 refine ak ?_ ?_
 ·refine aB ?_ ?_
  ·exact ai um hr (ac (ad 0) af)
  exact aj 3 wk.nd
 refine jH 4 wk.nd af ?_
 refine eQ ?_ ?_
 ·refine oP ?_ ?_ iQ
  ·refine fk ?_
   refine jl ?_ ?_
   ·exact aE cx (ad 2) aR
   refine gR ?_
   exact aE rj (ad 2) (ad 1)
  refine gz ?_
  refine ji 4 ?_
  refine al b_ (ad 1) ?_
  refine al aI ?_ (av wH)
  exact al b_ (ad 1) (ad 2)
 refine eQ ?_ ?_
 ·refine oP ?_ ?_ iQ
  ·refine fk ?_
   refine jl ?_ ?_
   ·exact aE cx (ad 3) aR
   refine gR ?_
   exact aE rj (ad 3) (ad 1)
  refine gz ?_
  exact ji 4 (ad 3)
 refine jv ?_
 refine ao ?_
 refine ay ?_
 exact rP rfl wg (ad 4)
abbrev ig:So:=top 44
theorem A1:c9 ["state","many","last"] ["state","many"] (c6 ig):=uM
theorem oa(yu:l8 P w K mg base k "last_ring" ["state","many"] cT)(wg:mg "max" = none)(yw:uZ K mg "FULL_RING" fB)(xb:uZ K mg "RING" eO)(Fn:uv K "ring_on" "ring_on" ig f fd):k6 P w K mg base ue (k+1) f fd ["state","many"] (uP K dU):=by
 refine ar Fn A1 ?_
 intro _ _ _ _ _ _ hr
 refine ak ?_ ?_
 ·refine aB ?_ ?_
  ·exact ai yu hr (ac (ad 0) (ac (ad 1) af))
  exact aj 2 A1.nd
 refine ak ?_ ?_
 ·refine cQ ?_ ?_ aU
  ·exact aE gb (ad 2) aR
  refine ao ?_
  refine ay ?_
  refine bC (jh rfl) wg ?_
  refine ac ae ?_
  refine ac ?_ af
  exact al b_ (ag (ad 0) (av xb)) (ad 1)
 refine ao ?_
 refine ay ?_
 refine bC (jh rfl) wg ?_
 refine ac ae ?_
 refine ac ?_ af
 refine al b_ (av yw) ?_
 exact al b_ (ad 1) (ad 2)
abbrev ii:So:=top 45
theorem ou:c9 ["held","many"] ["held","many"] (c6 ii):=uM
theorem nu(Fn:uv K "held_on" "held_on" ii f fd):k6 P w K mg base ue (k+1) f fd ["held","many"] (uP K dX):=by
 refine ar Fn ou ?_
 intro _ _ _ _ _ _ hr
 refine ak ?_ ?_
 ·refine cQ ?_ ?_ aU
  ·refine fk ?_
   refine gJ ?_ ?_
   ·exact aE gb (ad 0) aR
   refine gl ?_
   exact aE gb (ag (ad 0) ae) aR
  refine ao ?_
  exact ay (ad 0)
 refine ao ?_
 refine ay ?_
 refine ax ?_
 refine ac (ag (ad 0) ae) ?_
 refine ac ?_ af
 exact al aD (ag (ad 0) ae) (ad 1)
abbrev cW:So:=top 46
theorem ic:c9 ["book","state"] ["book","state"] (c6 cW):=uM
theorem gZ(wg:mg "max" = none)(vK:uZ K mg "IDLE" dz)(Fn:uv K "ticks_to_back" "ticks_to_back" cW f fd):k6 P w K mg base ue (k+1) f fd ["book","state"] (uP K a_):=by
 refine ar Fn ic ?_
 intro _ _ _ _ _ _ hr
 refine ao ?_
 refine ay ?_
 refine bC (jh rfl) wg ?_
 refine ac ae ?_
 refine ac ?_ af
 exact al b_ (ag (ad 0) ae) (ag (ad 1) (av vK))
abbrev gY:So:=top 47
theorem AV:c9 ["book","state","many","ticks"] ["book","state","many"] (c6 gY):=uM
theorem ox(uw:l8 P w K mg base k "ticks_to_back" ["book","state"] a_)(n8:uZ K mg "HELD" aV)(vK:uZ K mg "IDLE" dz)(Fn:uv K "idle_on" "idle_on" gY f fd):k6 P w K mg base ue (k+1) f fd ["book","state","many"] (uP K dW):=by
 refine ar Fn AV ?_
 intro _ _ _ _ _ _ hr
 refine ak ?_ ?_
 ·refine cQ ?_ ?_ aU
  ·refine fk ?_
   refine gJ ?_ ?_
   ·exact aE cx (ag (ad 1) (av n8)) aR
   refine gl ?_
   exact aE (cC hr) (ag (ad 0) ae) ae
  refine ao ?_
  exact ay (ag (ad 1) (av vK))
 refine ak ?_ ?_
 ·refine aB ?_ ?_
  ·exact ai uw hr (ac (ad 0) (ac (ad 1) af))
  exact aj 3 AV.nd
 refine ao ?_
 refine ay ?_
 refine fm ?_ ?_ ?_
 ·exact aE oI (ad 2) (ad 3)
 ·exact al aD (ag (ad 1) (av vK)) (ad 2)
 refine al aI ?_ (ag (ad 0) ae)
 exact al b_ (ad 2) (ad 3)
abbrev ip:So:=top 48
theorem nE:c9 ["book","state","many"] ["book","state","many"] (c6 ip):=uM
theorem nq(zm:l8 P w K mg base k "count_on" ["count","many"] dB)(Ai:l8 P w K mg base k "held_on" ["held","many"] dX)(Aj:l8 P w K mg base k "idle_on" ["book","state","many"] dW)(Ak:l8 P w K mg base k "laps_on" ["laps","many"] dZ)(Al:l8 P w K mg base k "ring_on" ["state","many"] dU)(uf:uZ K mg "ALARM" bf)(ub:uZ K mg "CLOCK" aW)(p4:uZ K mg "COUNT" aO)(wH:uZ K mg "DAY" dI)(n8:uZ K mg "HELD" aV)(vh:uZ K mg "LAPS" bY)(uT:uZ K mg "MODE" bT)(Fn:uv K "counted" "counted" ip f fd):k6 P w K mg base ue (k+1) f fd ["book","state","many"] (uP K cF):=by
 refine ar Fn nE ?_
 intro _ _ _ _ _ _ hr
 refine ao ?_
 refine ay ?_
 refine ax ?_
 refine ac (ag (ad 1) (av uT)) ?_
 refine ac ?_ ?_
 ·refine al aI ?_ (av wH)
  exact al aD (ag (ad 1) (av ub)) (ad 2)
 refine ac (ag (ad 1) (av uf)) ?_
 refine ac ?_ ?_
 ·refine ai Ak hr ?_
  exact ac (ag (ad 1) (av vh)) (ac (ad 2) af)
 refine ac ?_ ?_
 ·refine ai zm hr ?_
  exact ac (ag (ad 1) (av p4)) (ac (ad 2) af)
 refine ac ?_ ?_
 ·exact ai Al hr (ac (ad 1) (ac (ad 2) af))
 refine ac ?_ ?_
 ·refine ai Ai hr ?_
  exact ac (ag (ad 1) (av n8)) (ac (ad 2) af)
 refine ac ?_ af
 exact ai Aj hr (ac (ad 0) (ac (ad 1) (ac (ad 2) af)))
abbrev ft:So:=top 49
theorem kT:c9 ["book","state"] ["book","state"] (c6 ft):=uM
theorem lF(uT:uZ K mg "MODE" bT)(Fn:uv K "goes_back" "goes_back" ft f fd):k6 P w K mg base ue (k+1) f fd ["book","state"] (uP K cO):=by
 refine ar Fn kT ?_
 intro _ _ _ _ _ _ hr
 refine ao ?_
 refine ay ?_
 refine gi ?_ ?_
 ·exact cD gh (ag (ad 0) ae) ae
 refine gi ?_ ?_
 ·exact cD (sE hr) (ag (ad 1) (av uT)) ae
 refine i_ ?_
 refine kE ?_
 exact ag (ag (ag (ad 0) ae) (ag (ad 1) (av uT))) ae
abbrev cX:So:=top 50
theorem iq:c9 ["book","state"] ["book","state"] (c6 cX):=uM
theorem gU(wg:mg "max" = none)(n8:uZ K mg "HELD" aV)(Fn:uv K "ticks_to_long" "ticks_to_long" cX f fd):k6 P w K mg base ue (k+1) f fd ["book","state"] (uP K bD):=by
 refine ar Fn iq ?_
 intro _ _ _ _ _ _ hr
 refine ao ?_
 refine ay ?_
 refine bC (jh rfl) wg ?_
 refine ac ae ?_
 refine ac ?_ af
 exact al b_ (ag (ad 0) ae) (ag (ag (ad 1) (av n8)) ae)
abbrev fE:So:=top 51
theorem zE:c9 ["book","state","held"] ["book","state"] (c6 fE):=uM
theorem lB(yy:l8 P w K mg base k "goes_back" ["book","state"] cO)(uw:l8 P w K mg base k "ticks_to_back" ["book","state"] a_)(v9:l8 P w K mg base k "ticks_to_long" ["book","state"] bD)(n8:uZ K mg "HELD" aV)(Fn:uv K "turn_tick" "turn_tick" fE f fd):k6 P w K mg base ue (k+1) f fd ["book","state"] (uP K bK):=by
 refine ar Fn zE ?_
 intro _ _ _ _ _ _ hr
 refine ak ?_ ?_
 ·refine aB (ag (ad 1) (av n8)) ?_
  exact aj 2 zE.nd
 refine ak ?_ ?_
 ·refine cQ ?_ ?_ aU
  ·exact aE gb (ad 2) aR
  refine ao ?_
  refine ay ?_
  refine fm ?_ ?_ aR
  ·refine cE ?_
   exact ai yy hr (ac (ad 0) (ac (ad 1) af))
  exact ai uw hr (ac (ad 0) (ac (ad 1) af))
 refine ao ?_
 refine ay ?_
 refine fm ?_ aR ?_
 ·exact aE gb (ag (ad 2) ae) aR
 exact ai v9 hr (ac (ad 0) (ac (ad 1) af))
abbrev qV:So:=top 17
theorem sP:c9 ["state","place","part"] ["state","place","part"] (c6 qV):=uM
theorem tj(Fn:uv K "put" "put" qV f fd):k6 P w K mg base ue (k+1) f fd ["state","place","part"] (uP K aG):=by
 refine ar Fn sP ?_
 intro _ _ _ _ _ _ hr
 refine ao ?_
 refine ay ?_
 refine al aD ?_ ?_
 ·refine al aD ?_ ?_
  ·refine gB (ad 0) iM ?_
   exact iO (ad 1)
  exact ax (ac (ad 2) af)
 refine gB (ad 0) ?_ iM
 refine iO ?_
 exact al aD (ad 1) ae
abbrev io:So:=top 19
theorem nr:c9 ["state"] ["state"] (c6 io):=uM
theorem nY(Fn:uv K "nothing" "nothing" io f fd):k6 P w K mg base ue (k+1) f fd ["state"] (uP K db):=by
 refine ar Fn nr ?_
 intro _ _ _ _ _ _ hr
 refine ao ?_
 exact ay (ad 0)
abbrev ia:So:=top 20
theorem nV:c9 ["state"] ["state"] (c6 ia):=uM
theorem nO(n6:l8 P w K mg base k "put" ["state","place","part"] aG)(ub:uZ K mg "CLOCK" aW)(Fn:uv K "hour_on" "hour_on" ia f fd):k6 P w K mg base ue (k+1) f fd ["state"] (uP K dg):=by
 refine ar Fn nV ?_
 intro _ _ _ _ _ _ hr
 refine ao ?_
 refine ay ?_
 refine ai n6 hr ?_
 refine ac (ad 0) ?_
 refine ac (av ub) ?_
 refine ac ?_ af
 refine al aI ?_ ae
 exact al aD (ag (ad 0) (av ub)) ae
abbrev fu:So:=top 21
theorem xA:c9 ["state","clock","within"] ["state"] (c6 fu):=uM
theorem lR(n6:l8 P w K mg base k "put" ["state","place","part"] aG)(ub:uZ K mg "CLOCK" aW)(Fn:uv K "minute_on" "minute_on" fu f fd):k6 P w K mg base ue (k+1) f fd ["state"] (uP K cb):=by
 refine ar Fn xA ?_
 intro _ _ _ _ _ _ hr
 refine ak ?_ ?_
 ·refine aB (ag (ad 0) (av ub)) ?_
  exact aj 1 xA.nd
 refine ak ?_ ?_
 ·refine aB ?_ ?_
  ·refine al aI ?_ ae
   refine al aD ?_ ae
   exact al aI (ad 1) ae
  exact aj 2 xA.nd
 refine ao ?_
 refine ay ?_
 refine ai n6 hr ?_
 refine ac (ad 0) ?_
 refine ac (av ub) ?_
 refine ac ?_ af
 refine al aD ?_ (ad 2)
 refine al b_ (ad 1) ?_
 exact al aI (ad 1) ae
abbrev gX:So:=top 22
theorem oq:c9 ["state"] ["state"] (c6 gX):=uM
theorem nB(n6:l8 P w K mg base k "put" ["state","place","part"] aG)(ub:uZ K mg "CLOCK" aW)(Fn:uv K "to_zero" "to_zero" gX f fd):k6 P w K mg base ue (k+1) f fd ["state"] (uP K de):=by
 refine ar Fn oq ?_
 intro _ _ _ _ _ _ hr
 refine ao ?_
 refine ay ?_
 refine ai n6 hr ?_
 refine ac (ad 0) ?_
 refine ac (av ub) ?_
 refine ac ?_ af
 refine al b_ (ag (ad 0) (av ub)) ?_
 exact al aI (ag (ad 0) (av ub)) ae
abbrev cU:So:=top 23
theorem xj:c9 ["state","alarm"] ["state"] (c6 cU):=uM
theorem hV(n6:l8 P w K mg base k "put" ["state","place","part"] aG)(uf:uZ K mg "ALARM" bf)(Fn:uv K "alarm_hour_on" "alarm_hour_on" cU f fd):k6 P w K mg base ue (k+1) f fd ["state"] (uP K bj):=by
 refine ar Fn xj ?_
 intro _ _ _ _ _ _ hr
 refine ak ?_ ?_
 ·refine aB (ag (ad 0) (av uf)) ?_
  exact aj 1 xj.nd
 refine ao ?_
 refine ay ?_
 refine ai n6 hr ?_
 refine ac (ad 0) ?_
 refine ac (av uf) ?_
 refine ac ?_ af
 refine ax ?_
 refine ac ?_ ?_
 ·refine al aI ?_ ae
  exact al aD (ag (ad 1) ae) ae
 exact ac (ag (ad 1) ae) (ac (ag (ad 1) ae) af)
abbrev ce:So:=top 24
theorem wG:c9 ["state","alarm"] ["state"] (c6 ce):=uM
theorem gj(n6:l8 P w K mg base k "put" ["state","place","part"] aG)(uf:uZ K mg "ALARM" bf)(Fn:uv K "alarm_minute_on" "alarm_minute_on" ce f fd):k6 P w K mg base ue (k+1) f fd ["state"] (uP K aY):=by
 refine ar Fn wG ?_
 intro _ _ _ _ _ _ hr
 refine ak ?_ ?_
 ·refine aB (ag (ad 0) (av uf)) ?_
  exact aj 1 wG.nd
 refine ao ?_
 refine ay ?_
 refine ai n6 hr ?_
 refine ac (ad 0) ?_
 refine ac (av uf) ?_
 refine ac ?_ af
 refine ax ?_
 refine ac (ag (ad 1) ae) ?_
 refine ac ?_ (ac (ag (ad 1) ae) af)
 refine al aI ?_ ae
 exact al aD (ag (ad 1) ae) ae
abbrev dA:So:=top 25
theorem xU:c9 ["state","alarm"] ["state"] (c6 dA):=uM
theorem iJ(n6:l8 P w K mg base k "put" ["state","place","part"] aG)(uf:uZ K mg "ALARM" bf)(Fn:uv K "alarm_turned" "alarm_turned" dA f fd):k6 P w K mg base ue (k+1) f fd ["state"] (uP K bx):=by
 refine ar Fn xU ?_
 intro _ _ _ _ _ _ hr
 refine ak ?_ ?_
 ·refine aB (ag (ad 0) (av uf)) ?_
  exact aj 1 xU.nd
 refine ao ?_
 refine ay ?_
 refine ai n6 hr ?_
 refine ac (ad 0) ?_
 refine ac (av uf) ?_
 refine ac ?_ af
 refine ax ?_
 refine ac (ag (ad 1) ae) ?_
 refine ac (ag (ad 1) ae) ?_
 refine ac ?_ af
 exact kE (ag (ad 1) ae)
abbrev dS:So:=top 26
theorem yh:c9 ["state","laps"] ["state"] (c6 dS):=uM
theorem jC(n6:l8 P w K mg base k "put" ["state","place","part"] aG)(vh:uZ K mg "LAPS" bY)(Fn:uv K "laps_turned" "laps_turned" dS f fd):k6 P w K mg base ue (k+1) f fd ["state"] (uP K bF):=by
 refine ar Fn yh ?_
 intro _ _ _ _ _ _ hr
 refine ak ?_ ?_
 ·refine aB (ag (ad 0) (av vh)) ?_
  exact aj 1 yh.nd
 refine ao ?_
 refine ay ?_
 refine ai n6 hr ?_
 refine ac (ad 0) ?_
 refine ac (av vh) ?_
 refine ac ?_ af
 refine ax ?_
 refine ac (ag (ad 1) ae) ?_
 refine ac ?_ (ac (ag (ad 1) ae) af)
 exact kE (ag (ad 1) ae)
abbrev gp:So:=top 27
theorem Aq:c9 ["state","laps"] ["state"] (c6 gp):=uM
theorem mv(n6:l8 P w K mg base k "put" ["state","place","part"] aG)(ve:mg "len" = none)(vh:uZ K mg "LAPS" bY)(yz:uZ K mg "MOST_KEPT" fG)(Fn:uv K "lap_kept" "lap_kept" gp f fd):k6 P w K mg base ue (k+1) f fd ["state"] (uP K dm):=by
 refine ar Fn Aq ?_
 intro _ _ _ _ _ _ hr
 refine ak ?_ ?_
 ·refine aB (ag (ad 0) (av vh)) ?_
  exact aj 1 Aq.nd
 refine ak ?_ ?_
 ·refine cQ ?_ ?_ aU
  ·refine lP ?_
   exact cE (ag (ad 1) ae)
  refine ao ?_
  refine ay ?_
  refine ai n6 hr ?_
  refine ac (ad 0) ?_
  refine ac (av vh) ?_
  refine ac ?_ af
  refine ax ?_
  refine ac ae ?_
  refine ac dG ?_
  refine ac ?_ af
  exact ax af
 refine ak ?_ ?_
 ·refine cQ ?_ ?_ aU
  ·refine aE sy ?_ (av yz)
   exact bC gm ve (ac (ag (ad 1) ae) af)
  refine ao ?_
  exact ay (ad 0)
 refine ao ?_
 refine ay ?_
 refine ai n6 hr ?_
 refine ac (ad 0) ?_
 refine ac (av vh) ?_
 refine ac ?_ af
 refine ax ?_
 refine ac (ag (ad 1) ae) ?_
 refine ac dG ?_
 refine ac ?_ af
 refine al aD (ag (ad 1) ae) ?_
 exact ax (ac (ag (ad 1) ae) af)
abbrev iZ:So:=top 28
theorem pO:c9 ["state","minute","second"] ["state","minute","second"] (c6 iZ):=uM
theorem pC(n6:l8 P w K mg base k "put" ["state","place","part"] aG)(p4:uZ K mg "COUNT" aO)(Fn:uv K "set_to" "set_to" iZ f fd):k6 P w K mg base ue (k+1) f fd ["state","minute","second"] (uP K bU):=by
 refine ar Fn pO ?_
 intro _ _ _ _ _ _ hr
 refine ak ?_ ?_
 ·refine cQ ?_ ?_ aU
  ·exact cE (ag (ag (ad 0) (av p4)) ae)
  refine ao ?_
  exact ay (ad 0)
 refine ao ?_
 refine ay ?_
 refine ai n6 hr ?_
 refine ac (ad 0) ?_
 refine ac (av p4) ?_
 refine ac ?_ af
 refine ax ?_
 refine ac (ad 1) ?_
 refine ac (ad 2) ?_
 refine ac ?_ (ac dG af)
 refine al aD ?_ (ad 2)
 exact al dq ae (ad 1)
abbrev cy:So:=top 29
theorem wC:c9 ["state","count"] ["state"] (c6 cy):=uM
theorem gt(vC:l8 P w K mg base k "set_to" ["state","minute","second"] bU)(p4:uZ K mg "COUNT" aO)(Fn:uv K "count_minute_on" "count_minute_on" cy f fd):k6 P w K mg base ue (k+1) f fd ["state"] (uP K aX):=by
 refine ar Fn wC ?_
 intro _ _ _ _ _ _ hr
 refine ak ?_ ?_
 ·refine aB (ag (ad 0) (av p4)) ?_
  exact aj 1 wC.nd
 refine ao ?_
 refine ay ?_
 refine ai vC hr ?_
 refine ac (ad 0) ?_
 refine ac ?_ (ac (ag (ad 1) ae) af)
 refine al aI ?_ ae
 exact al aD (ag (ad 1) ae) ae
abbrev cj:So:=top 30
theorem wt:c9 ["state","count"] ["state"] (c6 cj):=uM
theorem gn(vC:l8 P w K mg base k "set_to" ["state","minute","second"] bU)(p4:uZ K mg "COUNT" aO)(Fn:uv K "count_second_on" "count_second_on" cj f fd):k6 P w K mg base ue (k+1) f fd ["state"] (uP K aZ):=by
 refine ar Fn wt ?_
 intro _ _ _ _ _ _ hr
 refine ak ?_ ?_
 ·refine aB (ag (ad 0) (av p4)) ?_
  exact aj 1 wt.nd
 refine ao ?_
 refine ay ?_
 refine ai vC hr ?_
 refine ac (ad 0) ?_
 refine ac (ag (ad 1) ae) ?_
 refine ac ?_ af
 refine al aI ?_ ae
 exact al aD (ag (ad 1) ae) ae
abbrev jI:So:=top 31
theorem CH:c9 ["state","count"] ["state"] (c6 jI):=uM
theorem pk(vC:l8 P w K mg base k "set_to" ["state","minute","second"] bU)(p4:uZ K mg "COUNT" aO)(Fn:uv K "filled" "filled" jI f fd):k6 P w K mg base ue (k+1) f fd ["state"] (uP K d_):=by
 refine ar Fn CH ?_
 intro _ _ _ _ _ _ hr
 refine ak ?_ ?_
 ·refine aB (ag (ad 0) (av p4)) ?_
  exact aj 1 CH.nd
 refine ao ?_
 refine ay ?_
 refine ai vC hr ?_
 refine ac (ad 0) ?_
 exact ac (ag (ad 1) ae) (ac (ag (ad 1) ae) af)
abbrev dt:So:=top 32
theorem v7:c9 ["state","count","runs"] ["state"] (c6 dt):=uM
theorem iC(n6:l8 P w K mg base k "put" ["state","place","part"] aG)(p4:uZ K mg "COUNT" aO)(Fn:uv K "count_turned" "count_turned" dt f fd):k6 P w K mg base ue (k+1) f fd ["state"] (uP K bP):=by
 refine ar Fn v7 ?_
 intro _ _ _ _ _ _ hr
 refine ak ?_ ?_
 ·refine aB (ag (ad 0) (av p4)) ?_
  exact aj 1 v7.nd
 refine ak ?_ ?_
 ·refine aB ?_ ?_
  ·refine gi ?_ ?_
   ·exact kE (ag (ad 1) ae)
   refine i_ ?_
   exact cD gh (ag (ad 1) ae) ae
  exact aj 2 v7.nd
 refine ao ?_
 refine ay ?_
 refine ai n6 hr ?_
 refine ac (ad 0) ?_
 refine ac (av p4) ?_
 refine ac ?_ af
 refine ax ?_
 refine ac (ag (ad 1) ae) ?_
 exact ac (ag (ad 1) ae) (ac (ag (ad 1) ae) (ac (ad 2) af))
abbrev eN:So:=top 34
theorem vR:c9 ["book","state","press","rows","row","step"] ["book","state","press"] (c6 eN):=uM
theorem j8(v_:l8 P w K mg base k "alarm_hour_on" ["state"] bj)(vD:l8 P w K mg base k "alarm_minute_on" ["state"] aY)(wI:l8 P w K mg base k "alarm_turned" ["state"] bx)(vE:l8 P w K mg base k "count_minute_on" ["state"] aX)(vF:l8 P w K mg base k "count_second_on" ["state"] aZ)(wJ:l8 P w K mg base k "count_turned" ["state"] bP)(BH:l8 P w K mg base k "filled" ["state"] d_)(Am:l8 P w K mg base k "hour_on" ["state"] dg)(zo:l8 P w K mg base k "lap_kept" ["state"] dm)(xc:l8 P w K mg base k "laps_turned" ["state"] bF)(yA:l8 P w K mg base k "minute_on" ["state"] cb)(An:l8 P w K mg base k "nothing" ["state"] db)(n6:l8 P w K mg base k "put" ["state","place","part"] aG)(Ao:l8 P w K mg base k "to_zero" ["state"] de)(uT:uZ K mg "MODE" bT)(s_PRESSES:Mo K mg "PRESSES" df)(DG:D0 P w K mg base k "STEPS" yP)(Fn:uv K "press_done" "press_done" eN f fd):k6 P w K mg base ue (k+1) f fd ["book","state","press"] (uP K bB):=by
 refine ar Fn vR ?_
 intro _ _ _ _ _ _ hr
 refine ak ?_ ?_
 ·refine aB ?_ ?_
  ·exact ag (ag (ag (ad 0) ae) (ag (ad 1) (av uT))) ae
  exact aj 3 vR.nd
 refine ak ?_ ?_
 ·refine aB ?_ ?_
  ·refine ag (ad 3) ?_
   exact tE s_PRESSES (ad 2)
  exact aj 4 vR.nd
 refine sA 5 vR.nd DG (ag (ad 4) ae) ?_
 intro fa G_ hF
 refine Iq ?_
 refine IO n6 hr ?_
 refine Bc ?_ ?_
 ·exact CL hF hr (ac (ad 1) af)
 exact HD (ac (av uT) (ac (ag (ad 4) ae) af))
abbrev jK:So:=top 52
theorem CF:c9 ["book","state","held"] ["book","state"] (c6 jK):=uM
theorem pw(uX:l8 P w K mg base k "press_done" ["book","state","press"] bB)(n6:l8 P w K mg base k "put" ["state","place","part"] aG)(n8:uZ K mg "HELD" aV)(uT:uZ K mg "MODE" bT)(Fn:uv K "turned" "turned" jK f fd):k6 P w K mg base ue (k+1) f fd ["book","state"] (uP K fU):=by
 refine ar Fn CF ?_
 intro _ _ _ _ _ _ hr
 refine ak ?_ ?_
 ·refine aB (ag (ad 1) (av n8)) ?_
  exact aj 2 CF.nd
 refine ak ?_ ?_
 ·refine cQ ?_ ?_ aU
  ·exact aE gb (ad 2) aR
  refine ao ?_
  refine ay ?_
  exact ai n6 hr (ac (ad 1) (ac (av uT) (ac ae af)))
 refine ao ?_
 refine ay ?_
 refine ai uX hr ?_
 refine ac (ad 0) ?_
 refine ac ?_ ?_
 ·refine ai n6 hr ?_
  refine ac (ad 1) ?_
  refine ac (av n8) ?_
  refine ac ?_ af
  exact ax (ac (ag (ad 2) ae) (ac aR af))
 refine ac ?_ af
 exact sw (ag (ad 2) ae)
abbrev dR:So:=top 53
theorem jB:c9 ["book","state"] ["book","state"] (c6 dR):=uM
theorem jd(wn:l8 P w K mg base k "counted" ["book","state","many"] cF)(vw:l8 P w K mg base k "turn_tick" ["book","state"] bK)(BJ:l8 P w K mg base k "turned" ["book","state"] fU)(Fn:uv K "behind_turn" "behind_turn" dR f fd):k6 P w K mg base ue (k+1) f fd ["book","state"] (uP K bG):=by
 refine ar Fn jB ?_
 intro _ _ _ _ _ _ hr
 refine ao ?_
 refine ay ?_
 refine ai BJ hr ?_
 refine ac (ad 0) ?_
 refine ac ?_ af
 refine ai wn hr ?_
 refine ac (ad 0) ?_
 refine ac (ad 1) ?_
 refine ac ?_ af
 exact ai vw hr (ac (ad 0) (ac (ad 1) af))
abbrev fw:So:=top 54
theorem z5:c9 ["book","state","many","turn"] ["book","state","many"] (c6 fw):=uM
theorem kD(xf:l8 P w K mg base k "behind_turn" ["book","state"] bG)(vw:l8 P w K mg base k "turn_tick" ["book","state"] bK)(Fn:uv K "stretches" "stretches" fw f fd):k6 P w K mg base ue (k+1) f fd ["book","state","many"] (uP K aK):=by
 refine ar Fn z5 ?_
 intro _ _ _ _ _ _ hr
 refine ak ?_ ?_
 ·refine aB ?_ ?_
  ·exact ai vw hr (ac (ad 0) (ac (ad 1) af))
  exact aj 3 z5.nd
 refine ak ?_ ?_
 ·refine cQ ?_ ?_ aU
  ·refine fk ?_
   refine gJ ?_ ?_
   ·exact aE gb (ad 3) aR
   refine gl ?_
   exact aE gh (ad 3) (ad 2)
  refine ao ?_
  refine ay ?_
  refine hZ ?_
  refine ac ?_ af
  exact ax (ac ae (ac (ad 1) (ac (ad 2) af)))
 refine ao ?_
 refine ay ?_
 refine hZ ?_
 refine ac ?_ ?_
 ·exact ax (ac ae (ac (ad 1) (ac (ad 3) af)))
 refine ac ?_ af
 refine ax ?_
 refine ac (ad 3) ?_
 refine ac ?_ ?_
 ·exact ai xf hr (ac (ad 0) (ac (ad 1) af))
 refine ac ?_ af
 exact al b_ (ad 2) (ad 3)
abbrev jG:So:=top 55
theorem Cy:c9 ["book","state","many","last"] ["book","state","many"] (c6 jG):=uM
theorem pR(wn:l8 P w K mg base k "counted" ["book","state","many"] cF)(uy:l8 P w K mg base k "stretches" ["book","state","many"] aK)(Fn:uv K "ticked" "ticked" jG f fd):k6 P w K mg base ue (k+1) f fd ["book","state","many"] (uP K fS):=by
 refine ar Fn Cy ?_
 intro _ _ _ _ _ _ hr
 refine ak ?_ ?_
 ·refine aB ?_ ?_
  ·refine ag ?_ ?_
   ·exact ai uy hr (ac (ad 0) (ac (ad 1) (ac (ad 2) af)))
   exact qO nT ae
  exact aj 3 Cy.nd
 refine ao ?_
 refine ay ?_
 refine ai wn hr ?_
 refine ac (ad 0) ?_
 exact ac (ag (ad 3) ae) (ac (ag (ad 3) ae) af)
abbrev iY:So:=top 60
theorem Ce:c9 ["state","button","ticks"] ["state","button"] (c6 iY):=uM
theorem pS(n6:l8 P w K mg base k "put" ["state","place","part"] aG)(n8:uZ K mg "HELD" aV)(vK:uZ K mg "IDLE" dz)(xb:uZ K mg "RING" eO)(Fn:uv K "pushed" "pushed" iY f fd):k6 P w K mg base ue (k+1) f fd ["state","button"] (uP K fP):=by
 refine ar Fn Ce ?_
 intro _ _ _ _ _ _ hr
 refine ak ?_ ?_
 ·refine cQ ?_ ?_ aU
  ·exact aE cx (ag (ad 0) (av n8)) aR
  refine ao ?_
  exact ay (ad 0)
 refine ak ?_ ?_
 ·refine aB ?_ ?_
  ·refine fm ?_ aR ae
   exact aE gh (ag (ad 0) (av xb)) ae
  exact aj 2 Ce.nd
 refine ao ?_
 refine ay ?_
 refine ai n6 hr ?_
 refine ac ?_ (ac (av vK) (ac ae af))
 refine ai n6 hr ?_
 refine ac ?_ ?_
 ·exact ai n6 hr (ac (ad 0) (ac (av xb) (ac ae af)))
 refine ac (av n8) ?_
 refine ac ?_ af
 exact ax (ac (ad 1) (ac (ad 2) af))
abbrev eJ:So:=top 62
theorem jZ:c9 ["state","button"] ["state","button"] (c6 eJ):=uM
theorem jS(n8:uZ K mg "HELD" aV)(Fn:uv K "is_holding" "is_holding" eJ f fd):k6 P w K mg base ue (k+1) f fd ["state","button"] (uP K bz):=by
 refine ar Fn jZ ?_
 intro _ _ _ _ _ _ hr
 refine ao ?_
 refine ay ?_
 refine gi ?_ ?_
 ·exact cD cx (ag (ad 0) (av n8)) aR
 refine i_ ?_
 exact cD (cC hr) (ag (ag (ad 0) (av n8)) ae) (ad 1)
abbrev gx:So:=top 63
theorem mH:c9 ["state","button"] ["state","button"] (c6 gx):=uM
theorem ni(uY:l8 P w K mg base k "is_holding" ["state","button"] bz)(n8:uZ K mg "HELD" aV)(Fn:uv K "is_short" "is_short" gx f fd):k6 P w K mg base ue (k+1) f fd ["state","button"] (uP K bL):=by
 refine ar Fn mH ?_
 intro _ _ _ _ _ _ hr
 refine ao ?_
 refine ay ?_
 refine gi ?_ ?_
 ·exact ai uY hr (ac (ad 0) (ac (ad 1) af))
 refine i_ ?_
 exact cD cx (ag (ag (ad 0) (av n8)) ae) aR
abbrev jg:So:=top 61
theorem Cj:c9 ["book","state","button"] ["book","state","button"] (c6 jg):=uM
theorem pF(uY:l8 P w K mg base k "is_holding" ["state","button"] bz)(vL:l8 P w K mg base k "is_short" ["state","button"] bL)(uX:l8 P w K mg base k "press_done" ["book","state","press"] bB)(n6:l8 P w K mg base k "put" ["state","place","part"] aG)(n8:uZ K mg "HELD" aV)(vK:uZ K mg "IDLE" dz)(Fn:uv K "let_go" "let_go" jg f fd):k6 P w K mg base ue (k+1) f fd ["book","state","button"] (uP K fL):=by
 refine ar Fn Cj ?_
 intro _ _ _ _ _ _ hr
 refine ak ?_ ?_
 ·refine cQ ?_ ?_ aU
  ·refine lP ?_
   refine cE ?_
   exact ai uY hr (ac (ad 1) (ac (ad 2) af))
  refine ao ?_
  exact ay (ad 1)
 refine ak ?_ ?_
 ·refine cQ ?_ ?_ aU
  ·refine cE ?_
   exact ai vL hr (ac (ad 1) (ac (ad 2) af))
  refine ao ?_
  refine aB ?_ ?_
  ·exact ai uX hr (ac (ad 0) (ac (ad 1) (ac (ad 2) af)))
  exact aj 1 Cj.nd
 refine ao ?_
 refine ay ?_
 refine ai n6 hr ?_
 refine ac ?_ (ac (av vK) (ac ae af))
 exact ai n6 hr (ac (ad 1) (ac (av n8) (ac aR af)))
abbrev nD:So:=top 59
theorem rT:c9 ["book","state","event"] ["book","state","event"] (c6 nD):=uM
theorem rR(BK:l8 P w K mg base k "let_go" ["book","state","button"] fL)(BL:l8 P w K mg base k "pushed" ["state","button"] fP)(BM:l8 P w K mg base k "ticked" ["book","state","many"] fS)(Fn:uv K "gone" "gone" nD f fd):k6 P w K mg base ue (k+1) f fd ["book","state","event"] (uP K di):=by
 refine ar Fn rT ?_
 intro _ _ _ _ _ _ hr
 refine ak ?_ ?_
 ·refine cQ ?_ ?_ aU
  ·exact aE (cC hr) (ag (ad 2) ae) aA
  refine ao ?_
  refine ay ?_
  exact ai BL hr (ac (ad 1) (ac (ag (ad 2) ae) af))
 refine ak ?_ ?_
 ·refine cQ ?_ ?_ aU
  ·exact aE (cC hr) (ag (ad 2) ae) aA
  refine ao ?_
  refine ay ?_
  refine ai BK hr ?_
  exact ac (ad 0) (ac (ad 1) (ac (ag (ad 2) ae) af))
 refine ao ?_
 refine ay ?_
 refine ai BM hr ?_
 exact ac (ad 0) (ac (ad 1) (ac (ag (ad 2) ae) af))
abbrev kZ:So:=top 81
theorem Bs:c9 ["book","state","row","event"] ["book","state","row"] (c6 kZ):=uM
theorem qj(xJ:l8 P w K mg base k "gone" ["book","state","event"] di)(Fn:uv K "after" "after" kZ f fd):k6 P w K mg base ue (k+1) f fd ["book","state","row"] (uP K gS):=by
 refine ar Fn Bs ?_
 intro _ _ _ _ _ _ hr
 refine ak ?_ ?_
 ·refine qP PassesOwn.never rfl ?_ ?_ ?_
  ·exact gu (ad 2)
  ·exact aj 3 Bs.nd
  refine ao ?_
  refine aB ?_ ?_
  ·exact ai xJ hr (ac (ad 0) (ac (ad 1) (ac (ad 3) af)))
  exact aj 1 Bs.nd
 refine ao ?_
 exact ay (ad 1)
abbrev eT:So:=top 40
theorem va:c9 ["state","many","alarm","count","ticks"] ["state","many"] (c6 eT):=uM
theorem j4(ul:l8 P w K mg base k "alarm_tick" ["state"] aL)(um:l8 P w K mg base k "count_tick" ["state"] aN)(FF:mg "list" = none)(vT:mg "range" = none)(Ji:mg "set" = none)(BN:mg "sorted" = none)(wH:uZ K mg "DAY" dI)(Fn:uv K "ring_ticks" "ring_ticks" eT f fd):k6 P w K mg base ue (k+1) f fd ["state","many"] (uP K bp):=by
 refine ar Fn va ?_
 intro _ _ _ _ _ _ hr
 refine ak ?_ ?_
 ·refine aB ?_ ?_
  ·exact ai ul hr (ac (ad 0) af)
  exact aj 2 va.nd
 refine ak ?_ ?_
 ·refine aB ?_ ?_
  ·exact ai um hr (ac (ad 0) af)
  exact aj 3 va.nd
 refine jH 4 va.nd af ?_
 refine rA 4 rfl FF vT va.nd ?_ (ad 2) ?_ (av wH) ?_
 ·exact aE cx (ad 2) aR
 ·exact al aD (ad 1) ae
 refine eQ ?_ ?_
 ·refine oP ?_ ?_ iQ
  ·refine fk ?_
   refine jl ?_ ?_
   ·exact aE cx (ad 3) aR
   refine gR ?_
   exact aE rj (ad 3) (ad 1)
  refine gz ?_
  exact ji 4 (ad 3)
 refine jv ?_
 refine ao ?_
 refine ay ?_
 exact tV rfl BN Ji (ad 4)
abbrev fR:So:=top 85
theorem lV:c9 ["state"] ["state"] (c6 fR):=uM
theorem lE(n8:uZ K mg "HELD" aV)(Fn:uv K "turn_sign" "turn_sign" fR f fd):k6 P w K mg base ue (k+1) f fd ["state"] (uP K cP):=by
 refine ar Fn lV ?_
 intro _ _ _ _ _ _ hr
 refine ao ?_
 refine ay ?_
 refine fm ?_ aA ?_
 ·exact aE gb (ag (ad 0) (av n8)) aR
 exact sw (ag (ag (ad 0) (av n8)) ae)
abbrev cq:So:=top 84
theorem vg:c9 ["book","state","many","stretch","told"] ["book","state","many"] (c6 cq):=uM
theorem gk(xK:l8 P w K mg base k "ring_ticks" ["state","many"] bp)(uy:l8 P w K mg base k "stretches" ["book","state","many"] aK)(yB:l8 P w K mg base k "turn_sign" ["state"] cP)(Fn:uv K "tick_happenings" "tick_happenings" cq f fd):k6 P w K mg base ue (k+1) f fd ["book","state","many"] (uP K bq):=by
 refine ar Fn vg ?_
 intro _ _ _ _ _ _ hr
 refine jH 4 vg.nd af ?_
 refine eQ ?_ ?_
 ·refine qe PassesOwn.never rfl ?_ ?_ ?_
  ·refine gu ?_
   exact ai uy hr (ac (ad 0) (ac (ad 1) (ac (ad 2) af)))
  ·exact aj 3 vg.nd
  refine mT ?_ ?_
  ·refine oP ?_ ?_ iQ
   ·exact aE gh (ag (ad 3) ae) ae
   refine gz ?_
   refine ji 4 ?_
   refine ax ?_
   refine ac (ag (ad 3) ae) ?_
   refine ac ?_ af
   exact ai yB hr (ac (ad 1) af)
  refine gz ?_
  refine qo 4 ?_
  refine oV (T:=["tick"]) rfl ?_ ?_ ?_ ?_ (xl (by decide)) (show List.Nodup ((["tick"]:List Str)++(["book" ,"state" ,"many" ,"stretch" ,"told"]:List Str)) from by decide +kernel)
  ·refine gu ?_
   refine ai xK hr ?_
   exact ac (ag (ad 3) ae) (ac (ag (ad 3) ae) af)
  ·intro C s₃ H₃ fp
   exact aj 0 (show List.Nodup (["tick" ,"book" ,"state" ,"many" ,"stretch" ,"told"]:List Str) from by decide +kernel)
  ·intro C s₃ H₃ fp
   exact ll
  intro C s₃ H₃ fp
  refine ax ?_
  refine ac ?_ (ac aA af)
  exact al aD (ag (ad 4) ae) (ad 0)
 refine jv ?_
 refine ao ?_
 exact ay (ad 4)
abbrev eV:So:=top 83
theorem jO:c9 ["book","state","event"] ["book","state","event"] (c6 eV):=uM
theorem jN(vL:l8 P w K mg base k "is_short" ["state","button"] bL)(vG:l8 P w K mg base k "tick_happenings" ["book","state","many"] bq)(Fn:uv K "happenings" "happenings" eV f fd):k6 P w K mg base ue (k+1) f fd ["book","state","event"] (uP K ba):=by
 refine ar Fn jO ?_
 intro _ _ _ _ _ _ hr
 refine ak ?_ ?_
 ·refine cQ ?_ ?_ aU
  ·exact aE (cC hr) (ag (ad 2) ae) aA
  refine ao ?_
  refine ay ?_
  refine ai vG hr ?_
  exact ac (ad 0) (ac (ad 1) (ac (ag (ad 2) ae) af))
 refine ak ?_ ?_
 ·refine cQ ?_ ?_ aU
  ·refine fk ?_
   refine jl ?_ ?_
   ·exact aE (cC hr) (ag (ad 2) ae) aA
   refine gR ?_
   refine cE ?_
   exact ai vL hr (ac (ad 1) (ac (ag (ad 2) ae) af))
  refine ao ?_
  refine ay ?_
  refine hZ ?_
  refine ac ?_ af
  exact ax (ac ae (ac (ag (ad 2) ae) af))
 refine ao ?_
 refine ay ?_
 exact hZ af
abbrev kQ:So:=top 82
theorem wx:c9 ["book","row","state","ticks","event","told"] ["book","row"] (c6 kQ):=uM
theorem qH(vU:l8 P w K mg base k "begun" ["book"] bX)(xJ:l8 P w K mg base k "gone" ["book","state","event"] di)(xM:l8 P w K mg base k "happenings" ["book","state","event"] ba)(yQ:mg "tuple" = none)(Fn:uv K "story" "story" kQ f fd):k6 P w K mg base ue (k+1) f fd ["book","row"] (uP K dE):=by
 refine ar Fn wx ?_
 intro _ _ _ _ _ _ hr
 refine ak ?_ ?_
 ·refine aB ?_ ?_
  ·exact ai vU hr (ac (ad 0) af)
  exact aj 2 wx.nd
 refine ak ?_ ?_
 ·refine aB ae ?_
  exact aj 3 wx.nd
 refine jH 5 wx.nd af ?_
 refine eQ ?_ ?_
 ·refine qe PassesOwn.never rfl ?_ ?_ ?_
  ·exact gu (ad 1)
  ·exact aj 4 wx.nd
  refine mT ?_ ?_
  ·refine qo 5 ?_
   refine oV (T:=["pair"]) rfl ?_ ?_ ?_ ?_ (xl (by decide)) (show List.Nodup ((["pair"]:List Str)++(["book" ,"row" ,"state" ,"ticks" ,"event" ,"told"]:List Str)) from by decide +kernel)
   ·refine gu ?_
    exact ai xM hr (ac (ad 0) (ac (ad 2) (ac (ad 4) af)))
   ·intro C s₃ H₃ fp
    exact aj 0 (show List.Nodup (["pair" ,"book" ,"row" ,"state" ,"ticks" ,"event" ,"told"]:List Str) from by decide +kernel)
   ·intro C s₃ H₃ fp
    exact ll
   intro C s₃ H₃ fp
   refine ax ?_
   refine ac ?_ (ac (ag (ad 0) ae) af)
   exact al aD (ad 4) (ag (ad 0) ae)
  refine ql ?_
  refine ak ?_ ?_
  ·refine aB ?_ ?_
   ·exact ai xJ hr (ac (ad 0) (ac (ad 2) (ac (ad 4) af)))
   exact aj 2 wx.nd
  refine ao ?_
  refine cQ ?_ ?_ aU
  ·exact aE (cC hr) (ag (ad 4) ae) aA
  refine ao ?_
  refine aB ?_ ?_
  ·exact al aD (ad 3) (ag (ad 4) ae)
  exact aj 3 wx.nd
 refine jv ?_
 refine ao ?_
 refine ay ?_
 exact fT mQ yQ (ac (ad 5) af)
abbrev dl:So:=top 87
theorem iH:c9 ["_law_script","_law_k"] ["_law_script","_law_k"] (c6 dl):=uM
theorem iI(ve:mg "len" = none)(Fn:uv K "_law_cell_at" "_law_cell_at" dl f fd):k6 P w K mg base ue (k+1) f fd ["_law_script","_law_k"] (uP K bQ):=by
 refine ar Fn iH ?_
 intro _ _ _ _ _ _ hr
 refine ak ?_ ?_
 ·refine cQ ?_ ?_ aU
  ·refine aE oI (ad 1) ?_
   exact bC gm ve (ac (ad 0) af)
  refine ao ?_
  exact ay (ag (ad 0) (ad 1))
 refine ao ?_
 exact ay ae
abbrev eR:So:=top 88
theorem yX:c9 ["_law_script","_law_k","_law_drawn_here"] ["_law_script","_law_k"] (c6 eR):=uM
theorem ki(wK:l8 P w K mg base k "_law_cell_at" ["_law_script","_law_k"] bQ)(Fn:uv K "_law_mixed" "_law_mixed" eR f fd):k6 P w K mg base ue (k+1) f fd ["_law_script","_law_k"] (uP K aJ):=by
 refine ar Fn yX ?_
 intro _ _ _ _ _ _ hr
 refine ak ?_ ?_
 ·refine aB ?_ ?_
  ·refine al aI ?_ ae
   refine al dq ?_ ae
   refine al aD ?_ ae
   refine al aD ?_ ?_
   ·exact ai wK hr (ac (ad 0) (ac (ad 1) af))
   exact al dq ae (ad 1)
  exact aj 2 yX.nd
 refine ao ?_
 refine ay ?_
 refine al aI ?_ ae
 refine al aD ?_ (ad 1)
 refine al aD ?_ ?_
 ·exact al dq (ad 2) (ad 2)
 exact al dq ae (ad 2)
abbrev eL:So:=top 89
theorem yY:c9 ["_law_number","_law_k","_law_drawn_here"] ["_law_number","_law_k"] (c6 eL):=uM
theorem j_(Fn:uv K "_law_drawn" "_law_drawn" eL f fd):k6 P w K mg base ue (k+1) f fd ["_law_number","_law_k"] (uP K aT):=by
 refine ar Fn yY ?_
 intro _ _ _ _ _ _ hr
 refine ak ?_ ?_
 ·refine aB ?_ ?_
  ·refine al aI ?_ ae
   refine al dq ?_ ae
   refine al aD ?_ ae
   refine al aD (ad 0) ?_
   exact al dq ae (ad 1)
  exact aj 2 yY.nd
 refine ao ?_
 refine ay ?_
 refine al aI ?_ ae
 refine al aD ?_ (ad 1)
 refine al aD ?_ ?_
 ·exact al dq (ad 2) (ad 2)
 exact al dq ae (ad 2)
abbrev fK:So:=top 91
theorem s9:c9 ["_law_number","_law_many","_law_deeds","_law_modes","_law_k","_law_drawn_here","_law_rows","_law_j","_law_one","_law_face"] ["_law_number"] (c6 fK):=uM
theorem kG(uI:l8 P w K mg base k "_law_drawn" ["_law_number","_law_k"] aT)(vT:mg "range" = none)(Fn:uv K "_law_book" "_law_book" fK f fd):k6 P w K mg base ue (k+1) f fd ["_law_number"] (uP K cM):=by
 refine ar Fn s9 ?_
 intro _ _ _ _ _ _ hr
 refine ak ?_ ?_
 ·refine aB ?_ ?_
  ·refine al aD ae ?_
   exact al aI (ad 0) ae
  exact aj 1 s9.nd
 refine ak ?_ ?_
 ·refine aB ?_ ?_
  ·refine ax ?_
   refine ac aA ?_
   refine ac aA ?_
   refine ac aA ?_
   refine ac aA ?_
   refine ac aA ?_
   refine ac aA ?_
   refine ac aA ?_
   refine ac aA ?_
   exact ac aA (ac aA (ac aA (ac aA af)))
  exact aj 2 s9.nd
 refine ak ?_ ?_
 ·refine aB ?_ ?_
  ·exact ax af
  exact aj 3 s9.nd
 refine ak ?_ ?_
 ·refine qP PassesOwn.never rfl ?_ ?_ ?_
  ·exact oz vT (ad 1)
  ·exact aj 4 s9.nd
  refine ak ?_ ?_
  ·refine aB ?_ ?_
   ·refine al bJ ?_ ae
    exact ai uI hr (ac (ad 0) (ac (ad 4) af))
   exact aj 5 s9.nd
  refine ak ?_ ?_
  ·refine aB ?_ ?_
   ·exact ax af
   exact aj 6 s9.nd
  refine ak ?_ ?_
  ·refine qP PassesOwn.never rfl ?_ ?_ ?_
   ·exact oz vT ae
   ·exact aj 7 s9.nd
   refine ak ?_ ?_
   ·refine aB ?_ ?_
    ·refine al bJ ?_ ae
     refine ai uI hr ?_
     refine ac (ad 5) ?_
     refine ac ?_ af
     exact al aD ae (ad 7)
    exact aj 8 s9.nd
   refine ao ?_
   refine aB ?_ ?_
   ·refine al aD (ad 6) ?_
    refine ax ?_
    refine ac ?_ af
    refine ax ?_
    refine ac ?_ ?_
    ·refine ag ?_ ?_
     ·refine al aD (ad 2) ?_
      exact ax (ac aA af)
     exact al aI (ad 8) ae
    refine ac ?_ af
    refine al aI ?_ (ad 1)
    exact al bJ (ad 8) ae
   exact aj 6 s9.nd
  refine ak ?_ ?_
  ·refine aB ?_ ?_
   ·refine ag ?_ ?_
    ·refine ax ?_
     exact ac aA (ac aA (ac aA (ac aA af)))
    exact al aI (ad 5) ae
   exact aj 9 s9.nd
  refine ao ?_
  refine aB ?_ ?_
  ·refine al aD (ad 3) ?_
   refine ax ?_
   refine ac ?_ af
   refine ax ?_
   refine ac (ad 9) ?_
   refine ac ?_ (ac (ad 6) af)
   refine cD (cC hr) ?_ ae
   refine al aI ?_ ae
   exact al bJ (ad 5) ae
  exact aj 3 s9.nd
 refine ao ?_
 refine ay ?_
 refine ax ?_
 refine ac ?_ ?_
 ·refine al aD ae ?_
  refine al aI ?_ ?_
  ·exact al bJ (ad 0) ae
  refine ag ?_ ?_
  ·exact ax (ac ae (ac ae af))
  refine al aI ?_ ae
  exact al bJ (ad 0) ae
 refine ac ?_ (ac (ad 3) af)
 refine ag ?_ ?_
 ·refine ax ?_
  refine ac ae ?_
  exact ac ae (ac ae (ac ae (ac ae af)))
 refine al aI ?_ ae
 exact al bJ (ad 0) ae
abbrev fh:So:=top 92
theorem wV:c9 ["_law_number","_law_button","_law_kind"] ["_law_number"] (c6 fh):=uM
theorem jV(Fn:uv K "_law_event" "_law_event" fh f fd):k6 P w K mg base ue (k+1) f fd ["_law_number"] (uP K cz):=by
 refine ar Fn wV ?_
 intro _ _ _ _ _ _ hr
 refine ak ?_ ?_
 ·refine aB ?_ ?_
  ·refine ag aA ?_
   refine al aI ?_ ae
   exact al bJ (ad 0) ae
  exact aj 1 wV.nd
 refine ak ?_ ?_
 ·refine aB ?_ ?_
  ·exact al aI (ad 0) ae
  exact aj 2 wV.nd
 refine ak ?_ ?_
 ·refine cQ ?_ ?_ aU
  ·exact aE oI (ad 2) ae
  refine ao ?_
  refine ay ?_
  exact ax (ac aA (ac (ad 1) af))
 refine ak ?_ ?_
 ·refine cQ ?_ ?_ aU
  ·exact aE oI (ad 2) ae
  refine ao ?_
  refine ay ?_
  exact ax (ac aA (ac (ad 1) af))
 refine ao ?_
 refine ay ?_
 refine ax ?_
 refine ac aA ?_
 refine ac ?_ af
 refine al aD ae ?_
 refine al aI ?_ ?_
 ·exact al bJ (ad 0) ae
 refine ag ?_ ?_
 ·exact ax (ac ae (ac ae (ac ae af)))
 refine al aI ?_ ae
 exact al bJ (ad 0) ae
abbrev fe:So:=top 95
theorem wU:c9 ["_law_book_here","_law_number","_law_last","_law_rows"] ["_law_book_here","_law_number"] (c6 fe):=uM
theorem kf(ve:mg "len" = none)(Fn:uv K "_law_ready" "_law_ready" fe f fd):k6 P w K mg base ue (k+1) f fd ["_law_book_here","_law_number"] (uP K cu):=by
 refine ar Fn wU ?_
 intro _ _ _ _ _ _ hr
 refine ak ?_ ?_
 ·refine cQ ?_ ?_ aU
  ·refine aE (cC hr) ?_ ae
   exact al aI (ad 1) ae
  refine ao ?_
  exact ay (ad 0)
 refine ak ?_ ?_
 ·refine aB ?_ ?_
  ·refine al aI ?_ ?_
   ·exact al bJ (ad 1) ae
   exact bC gm ve (ac (ag (ad 0) ae) af)
  exact aj 2 wU.nd
 refine ak ?_ ?_
 ·refine aB ?_ ?_
  ·refine ax ?_
   refine ac ?_ ?_
   ·exact ax (ac aA (ac ae af))
   refine ac ?_ ?_
   ·exact ax (ac aA (ac (ad 2) af))
   refine ac ?_ ?_
   ·exact ax (ac aA (ac ae af))
   refine ac ?_ ?_
   ·exact ax (ac aA (ac ae af))
   refine ac ?_ ?_
   ·exact ax (ac aA (ac ae af))
   refine ac ?_ af
   exact ax (ac aA (ac (ad 2) af))
  exact aj 3 wU.nd
 refine ao ?_
 refine ay ?_
 refine ax ?_
 refine ac (ag (ad 0) ae) ?_
 refine ac (ag (ad 0) ae) ?_
 refine ac ?_ af
 refine al aD ?_ ?_
 ·refine ax ?_
  refine ac ?_ af
  exact ax (ac aA (ac dG (ac (ad 3) af)))
 refine gB (ag (ad 0) ae) ?_ iM
 exact iO ae
abbrev il:So:=top 66
theorem BF:c9 ["number","texts"] ["number"] (c6 il):=uM
theorem nG(zp:mg "reversed" = none)(CV:mg "str" = none)(DH:uZ K mg "BLOCK" eZ)(Fn:uv K "figures" "figures" il f fd):k6 P w K mg base ue (k+1) f fd ["number"] (uP K cK):=by
 refine ar Fn BF ?_
 intro _ _ _ _ _ _ hr
 refine jH 1 BF.nd af ?_
 refine eQ ?_ ?_
 ·refine sj ?_
  refine qD PassesOwn.never ?_
  exact aE sy (ad 0) (av DH)
 refine eQ ?_ ?_
 ·refine ji 1 ?_
  exact fT qg CV (ac (ad 0) af)
 refine jv ?_
 refine ao ?_
 refine ay ?_
 exact qG rfl zp aA (ad 1)
abbrev dO:So:=top 67
theorem jn:c9 ["number"] ["number"] (c6 dO):=uM
theorem jm(wo:l8 P w K mg base k "figures" ["number"] cK)(Fn:uv K "two_figures" "two_figures" dO f fd):k6 P w K mg base ue (k+1) f fd ["number"] (uP K aM):=by
 refine ar Fn jn ?_
 intro _ _ _ _ _ _ hr
 refine ao ?_
 refine ay ?_
 refine tU ?_ (ac ae (ac aA af))
 exact ai wo hr (ac (ad 0) af)
abbrev fM:So:=top 68
theorem lJ:c9 ["hour","minute"] ["hour","minute"] (c6 fM):=uM
theorem lz(t_:l8 P w K mg base k "two_figures" ["number"] aM)(Fn:uv K "hour_text" "hour_text" fM f fd):k6 P w K mg base ue (k+1) f fd ["hour","minute"] (uP K bM):=by
 refine ar Fn lJ ?_
 intro _ _ _ _ _ _ hr
 refine ao ?_
 refine ay ?_
 refine al aD ?_ ?_
 ·refine al aD ?_ aA
  exact ai t_ hr (ac (ad 0) af)
 exact ai t_ hr (ac (ad 1) af)
abbrev fO:So:=top 70
theorem zw:c9 ["state","clock"] ["state"] (c6 fO):=uM
theorem kY(vy:l8 P w K mg base k "hour_text" ["hour","minute"] bM)(t_:l8 P w K mg base k "two_figures" ["number"] aM)(ub:uZ K mg "CLOCK" aW)(Fn:uv K "time_text" "time_text" fO f fd):k6 P w K mg base ue (k+1) f fd ["state"] (uP K cN):=by
 refine ar Fn zw ?_
 intro _ _ _ _ _ _ hr
 refine ak ?_ ?_
 ·refine aB (ag (ad 0) (av ub)) ?_
  exact aj 1 zw.nd
 refine ao ?_
 refine ay ?_
 refine al aD ?_ ?_
 ·refine al aD ?_ aA
  refine ai vy hr ?_
  refine ac ?_ ?_
  ·exact al bJ (ad 1) ae
  refine ac ?_ af
  refine al aI ?_ ae
  exact al bJ (ad 1) ae
 refine ai t_ hr ?_
 refine ac ?_ af
 exact al aI (ad 1) ae
abbrev el:So:=top 71
theorem y7:c9 ["state","alarm"] ["state"] (c6 el):=uM
theorem jW(vy:l8 P w K mg base k "hour_text" ["hour","minute"] bM)(uf:uZ K mg "ALARM" bf)(Fn:uv K "alarm_text" "alarm_text" el f fd):k6 P w K mg base ue (k+1) f fd ["state"] (uP K cg):=by
 refine ar Fn y7 ?_
 intro _ _ _ _ _ _ hr
 refine ak ?_ ?_
 ·refine aB (ag (ad 0) (av uf)) ?_
  exact aj 1 y7.nd
 refine ao ?_
 refine ay ?_
 refine al aD ?_ ?_
 ·refine ai vy hr ?_
  exact ac (ag (ad 1) ae) (ac (ag (ad 1) ae) af)
 refine fm ?_ aA aA
 exact cE (ag (ad 1) ae)
abbrev dP:So:=top 69
theorem jq:c9 ["seconds"] ["seconds"] (c6 dP):=uM
theorem jt(wo:l8 P w K mg base k "figures" ["number"] cK)(t_:l8 P w K mg base k "two_figures" ["number"] aM)(Fn:uv K "minute_text" "minute_text" dP f fd):k6 P w K mg base ue (k+1) f fd ["seconds"] (uP K bu):=by
 refine ar Fn jq ?_
 intro _ _ _ _ _ _ hr
 refine ao ?_
 refine ay ?_
 refine al aD ?_ ?_
 ·refine al aD ?_ aA
  refine ai wo hr ?_
  refine ac ?_ af
  exact al bJ (ad 0) ae
 refine ai t_ hr ?_
 refine ac ?_ af
 exact al aI (ad 0) ae
abbrev fN:So:=top 72
theorem xB:c9 ["state","laps","kept"] ["state"] (c6 fN):=uM
theorem lO(uN:l8 P w K mg base k "minute_text" ["seconds"] bu)(ve:mg "len" = none)(CV:mg "str" = none)(vh:uZ K mg "LAPS" bY)(Fn:uv K "laps_text" "laps_text" fN f fd):k6 P w K mg base ue (k+1) f fd ["state"] (uP K cS):=by
 refine ar Fn xB ?_
 intro _ _ _ _ _ _ hr
 refine ak ?_ ?_
 ·refine aB (ag (ad 0) (av vh)) ?_
  exact aj 1 xB.nd
 refine ak ?_ ?_
 ·refine aB ?_ ?_
  ·exact bC gm ve (ac (ag (ad 1) ae) af)
  exact aj 2 xB.nd
 refine ao ?_
 refine ay ?_
 refine al aD ?_ ?_
 ·exact ai uN hr (ac (ag (ad 1) ae) af)
 refine fm ?_ ?_ aA
 ·exact aE gh (ad 2) ae
 refine al aD aA ?_
 exact fT qg CV (ac (ad 2) af)
abbrev e_:So:=top 73
theorem jY:c9 ["state"] ["state"] (c6 e_):=uM
theorem j6(uN:l8 P w K mg base k "minute_text" ["seconds"] bu)(p4:uZ K mg "COUNT" aO)(Fn:uv K "count_text" "count_text" e_ f fd):k6 P w K mg base ue (k+1) f fd ["state"] (uP K ci):=by
 refine ar Fn jY ?_
 intro _ _ _ _ _ _ hr
 refine ao ?_
 refine ay ?_
 exact ai uN hr (ac (ag (ag (ad 0) (av p4)) ae) af)
abbrev kR:So:=top 64
theorem A8:c9 ["book","state","face","face_text"] ["book","state"] (c6 kR):=uM
theorem qY(xN:l8 P w K mg base k "alarm_text" ["state"] cg)(xO:l8 P w K mg base k "count_text" ["state"] ci)(yC:l8 P w K mg base k "laps_text" ["state"] cS)(yD:l8 P w K mg base k "time_text" ["state"] cN)(uT:uZ K mg "MODE" bT)(xb:uZ K mg "RING" eO)(xP:D0 P w K mg base k "FACE_TEXTS" vA)(Fn:uv K "shown" "shown" kR f fd):k6 P w K mg base ue (k+1) f fd ["book","state"] (uP K dC):=by
 refine ar Fn A8 ?_
 intro _ _ _ _ _ _ hr
 refine ak ?_ ?_
 ·refine aB ?_ ?_
  ·exact ag (ag (ag (ad 0) ae) (ag (ad 1) (av uT))) ae
  exact aj 2 A8.nd
 refine sA 3 A8.nd xP (ad 2) ?_
 intro fa G_ hF
 refine Iq ?_
 refine Kn ?_
 refine Bc ?_ ?_
 ·exact MC (ad 2)
 refine Bc ?_ ?_
 ·exact CL hF hr (ac (ad 1) af)
 refine HD ?_
 refine ac ?_ af
 exact cD gh (ag (ad 1) (av xb)) ae
abbrev eX:So:=top 41
theorem u_:c9 ["state","many","alarm","count","of_alarm","of_count"] ["state","many"] (c6 eX):=uM
theorem ke(ul:l8 P w K mg base k "alarm_tick" ["state"] aL)(um:l8 P w K mg base k "count_tick" ["state"] aN)(wH:uZ K mg "DAY" dI)(Fn:uv K "ring_count" "ring_count" eX f fd):k6 P w K mg base ue (k+1) f fd ["state","many"] (uP K bg):=by
 refine ar Fn u_ ?_
 intro _ _ _ _ _ _ hr
 refine ak ?_ ?_
 ·refine aB ?_ ?_
  ·exact ai ul hr (ac (ad 0) af)
  exact aj 2 u_.nd
 refine ak ?_ ?_
 ·refine aB ?_ ?_
  ·exact ai um hr (ac (ad 0) af)
  exact aj 3 u_.nd
 refine ak ?_ ?_
 ·refine aB ?_ ?_
  ·refine fm ?_ ae ?_
   ·refine fk ?_
    refine gJ ?_ ?_
    ·exact aE gb (ad 2) aR
    refine gl ?_
    exact aE gh (ad 2) (ad 1)
   refine al aD ?_ ae
   refine al bJ ?_ (av wH)
   exact al b_ (ad 1) (ad 2)
  exact aj 4 u_.nd
 refine ak ?_ ?_
 ·refine aB ?_ ?_
  ·refine fm ?_ ae ae
   refine fk ?_
   refine gJ ?_ ?_
   ·exact aE gb (ad 3) aR
   refine gJ ?_ ?_
   ·exact aE gh (ad 3) (ad 1)
   refine gl ?_
   exact aE (lT hr) (ad 3) (ad 2)
  exact aj 5 u_.nd
 refine ao ?_
 refine ay ?_
 exact al aD (ad 4) (ad 5)
abbrev cG:So:=top 76
theorem gD:c9 ["book","state","many"] ["book","state","many"] (c6 cG):=uM
theorem gQ(xQ:l8 P w K mg base k "ring_count" ["state","many"] bg)(uy:l8 P w K mg base k "stretches" ["book","state","many"] aK)(Jj:mg "sum" = none)(Fn:uv K "how_many_rings" "how_many_rings" cG f fd):k6 P w K mg base ue (k+1) f fd ["book","state","many"] (uP K bw):=by
 refine ar Fn gD ?_
 intro _ _ _ _ _ _ hr
 refine ao ?_
 refine ay ?_
 refine tK rfl Jj ?_
 refine oV (T:=["stretch"]) rfl ?_ ?_ ?_ ?_ (xl (by decide)) (show List.Nodup ((["stretch"]:List Str)++(["book" ,"state" ,"many"]:List Str)) from by decide +kernel)
 ·refine gu ?_
  exact ai uy hr (ac (ad 0) (ac (ad 1) (ac (ad 2) af)))
 ·intro C s₃ H₃ fp
  exact aj 0 (show List.Nodup (["stretch" ,"book" ,"state" ,"many"]:List Str) from by decide +kernel)
 ·intro C s₃ H₃ fp
  exact ll
 intro C s₃ H₃ fp
 refine ai xQ hr ?_
 exact ac (ag (ad 0) ae) (ac (ag (ad 0) ae) af)
abbrev gy:So:=top 79
theorem nj:c9 ["book","state","event"] ["book","state","event"] (c6 gy):=uM
theorem mK(vM:l8 P w K mg base k "how_many_rings" ["book","state","many"] bw)(Fn:uv K "rings_by" "rings_by" gy f fd):k6 P w K mg base ue (k+1) f fd ["book","state","event"] (uP K cH):=by
 refine ar Fn nj ?_
 intro _ _ _ _ _ _ hr
 refine ao ?_
 refine ay ?_
 refine fm ?_ ?_ ae
 ·exact aE (cC hr) (ag (ad 2) ae) aA
 refine ai vM hr ?_
 exact ac (ad 0) (ac (ad 1) (ac (ag (ad 2) ae) af))
abbrev dj:So:=inClass (top 78) 4
theorem v8:c9 ["self","event","behind","rung"] ["self","event"] (c6 dj):=uM
theorem iE(xJ:l8 P w K mg base k "gone" ["book","state","event"] di)(zq:l8 P w K mg base k "rings_by" ["book","state","event"] cH){C:Nat}(cl:yH K C)(xg:t8 K C "book")(uU:t8 K C "past")(n4:t8 K C "present")(uV:t8 K C "rung")(Fn:uv K "happen" "Watch.happen" dj f fd):k6 P w K mg base ue (k+1) f fd ["self","event"] (GO K 0 (aQ C)):=by
 refine fX (j:=0) Fn v8 ?_
 intro _ _ _ _ _ _ hr
 refine aH ?_ ?_
 ·refine bo ?_
  refine aB ?_ ?_
  ·refine ai xJ hr ?_
   refine ac ?_ ?_
   ·exact cB cl xg (ad 0)
   refine ac ?_ (ac (ad 1) af)
   exact cB cl n4 (ad 0)
  exact aj 2 v8.nd
 refine aH ?_ ?_
 ·refine bo ?_
  refine aB ?_ ?_
  ·refine al aD ?_ ?_
   ·exact cB cl uV (ad 0)
   refine ai zq hr ?_
   refine ac ?_ ?_
   ·exact cB cl xg (ad 0)
   refine ac ?_ (ac (ad 1) af)
   exact cB cl n4 (ad 0)
  exact aj 3 v8.nd
 refine aH ?_ ?_
 ·refine tz 0 cl uU ?_
  refine ax ?_
  refine ac (ad 1) ?_
  refine ac ?_ ?_
  ·exact cB cl n4 (ad 0)
  refine ac ?_ af
  exact cB cl uV (ad 0)
 refine aH ?_ ?_
 ·exact ek 0 cl n4 (ad 2)
 refine bi ?_
 exact ek 0 cl uV (ad 3)
abbrev eI:So:=inClass (top 78) 1
theorem kh:c9 ["self","button"] ["self","button"] (c6 eI):=uM
theorem jQ{C:Nat}(cl:yH K C)(vH:yW P w K mg base k C "happen" ["self","event"] (aQ C))(Fn:uv K "down" "Watch.down" eI f fd):k6 P w K mg base ue (k+1) f fd ["self","button"] (GO K 0 (br C)):=by
 refine fX (j:=0) Fn kh ?_
 intro _ _ _ _ _ _ hr
 refine bi ?_
 refine nJ 0 cl vH hr ?_
 refine ac ?_ af
 exact ax (ac aA (ac (ad 1) af))
abbrev dN:So:=inClass (top 78) 3
theorem jx:c9 ["self","many"] ["self","many"] (c6 dN):=uM
theorem jb{C:Nat}(cl:yH K C)(vH:yW P w K mg base k C "happen" ["self","event"] (aQ C))(Fn:uv K "ticks" "Watch.ticks" dN f fd):k6 P w K mg base ue (k+1) f fd ["self","many"] (GO K 0 (bW C)):=by
 refine fX (j:=0) Fn jx ?_
 intro _ _ _ _ _ _ hr
 refine bi ?_
 refine nJ 0 cl vH hr ?_
 refine ac ?_ af
 exact ax (ac aA (ac (ad 1) af))
abbrev gv:So:=inClass (top 78) 2
theorem mO:c9 ["self","button"] ["self","button"] (c6 gv):=uM
theorem mU{C:Nat}(cl:yH K C)(vH:yW P w K mg base k C "happen" ["self","event"] (aQ C))(Fn:uv K "up" "Watch.up" gv f fd):k6 P w K mg base ue (k+1) f fd ["self","button"] (GO K 0 (bZ C)):=by
 refine fX (j:=0) Fn mO ?_
 intro _ _ _ _ _ _ hr
 refine bi ?_
 refine nJ 0 cl vH hr ?_
 refine ac ?_ af
 exact ax (ac aA (ac (ad 1) af))
abbrev hU:So:=top 94
theorem ot:c9 ["_law_watch","_law_event_here"] ["_law_watch","_law_event_here"] (c6 hU):=uM
theorem nU{C:Nat}(cl:yH K C)(FG:yW P w K mg base k C "down" ["self","button"] (br C))(DI:yW P w K mg base k C "ticks" ["self","many"] (bW C))(Nq:yW P w K mg base k C "up" ["self","button"] (bZ C))(Fn:uv K "_law_do" "_law_do" hU f fd):k6 P w K mg base ue (k+1) f fd ["_law_watch","_law_event_here"] (GO K 0 (bH C)):=by
 refine fX (j:=0) Fn ot ?_
 intro _ _ _ _ _ _ hr
 refine aH ?_ ?_
 ·refine my ?_ ?_ fZ
  ·exact aE (cC hr) (ag (ad 1) ae) aA
  refine bi ?_
  exact lb 0 cl FG hr (ac (ag (ad 1) ae) af)
 refine aH ?_ ?_
 ·refine my ?_ ?_ fZ
  ·exact aE (cC hr) (ag (ad 1) ae) aA
  refine bi ?_
  exact lb 0 cl Nq hr (ac (ag (ad 1) ae) af)
 refine bi ?_
 exact lb 0 cl DI hr (ac (ag (ad 1) ae) af)
abbrev fv:So:=top 90
theorem vz:c9 ["_law_deed","_law_found","e","_law_kinds"] ["_law_deed"] (c6 fv):=uM
theorem lx{ca:Nat->RY}(xR:mg "ValueError" = none)(uz:mg "isinstance" = none){W:RY}(EK:IL K mg ca W)(Fn:uv K "_law_told" "_law_told" fv f fd):k6 P w K mg base ue (k+1) f fd ["_law_deed"] (AX P w K mg base ca k ud):=by
  refine qa Fn vz rfl (by decide) ?_
  intro _ _ _ _ _ _ hr
  exact(qr 0 2 1 EK hr rfl rfl rfl rfl rfl vz.nd (fun pins ea oe c hc2 hcl=>(ak (aB (hZ (ac (oh 2 (EK.two c hc2) (Ss _ (R4.mpr rfl)) hcl (EK.k0 c hc2) (Ig EK.m0) uz) (ac (oh 2 (EK.two c hc2) (Ss _ (R4.mpr rfl)) hcl (EK.k1 c hc2) (Ig EK.m1) uz) af))) (aj 3 vz.nd))
  (ak (aB (ax (ac aA (ac (qO nT ae) af))) (aj 1 vz.nd))
  (ao (cQ (fk (jl (cE (oh 2 (EK.two c hc2) (Ss _ (R4.mpr rfl)) hcl (EK.kv c hc2) (Mz xR) uz)) (gR (aE tF (rV (ad 3) (ac dG af)) ae))))
  (ao (aB (ax (ac aA (ac (rZ (ad 3) (ac dG af)) af))) (aj 1 vz.nd)))
  aU))))) Di (hlt:=(by decide:1<4)))
abbrev eG:So:=inClass (top 78) 7
theorem j9:c9 ["self"] ["self"] (c6 eG):=uM
theorem jX{C:Nat}(cl:yH K C)(uV:t8 K C "rung")(Fn:uv K "rang" "Watch.rang" eG f fd):k6 P w K mg base ue (k+1) f fd ["self"] (uP K (bR C)):=by
 refine ar Fn j9 ?_
 intro _ _ _ _ _ _ hr
 refine ao ?_
 refine ay ?_
 exact cB cl uV (ad 0)
abbrev fH:So:=inClass (top 78) 9
theorem kF:c9 ["self"] ["self"] (c6 fH):=uM
theorem kH(yQ:mg "tuple" = none){C:Nat}(cl:yH K C)(uU:t8 K C "past")(Fn:uv K "row" "Watch.row" fH f fd):k6 P w K mg base ue (k+1) f fd ["self"] (uP K (bN C)):=by
 refine ar Fn kF ?_
 intro _ _ _ _ _ _ hr
 refine ao ?_
 refine ay ?_
 refine fT mQ yQ ?_
 refine ac ?_ af
 refine kU 0 C ?_
 refine oV (T:=["step"]) rfl ?_ ?_ ?_ (fun C s₃ H₃ fp=>(ag (ad 0) ae)) (xl (by decide)) (show List.Nodup ((["step"]:List Str)++(["self"]:List Str)) from by decide +kernel)
 ·refine sQ ?_
  exact cB cl uU (ad 0)
 ·intro C s₃ H₃ fp
  exact aj 0 (show List.Nodup (["step" ,"self"]:List Str) from by decide +kernel)
 intro C s₃ H₃ fp
 exact ll
abbrev dL:So:=inClass (top 78) 5
theorem jz:c9 ["self"] ["self"] (c6 dL):=uM
theorem jF{C:Nat}(uO:l8 P w K mg base k "shown_going" ["book","state"] dC)(cl:yH K C)(xg:t8 K C "book")(n4:t8 K C "present")(Fn:uv K "shown" "Watch.shown" dL f fd):k6 P w K mg base ue (k+1) f fd ["self"] (uP K (bV C)):=by
 refine ar Fn jz ?_
 intro _ _ _ _ _ _ hr
 refine ao ?_
 refine ay ?_
 refine ai uO hr ?_
 refine ac ?_ ?_
 ·exact cB cl xg (ad 0)
 refine ac ?_ af
 exact cB cl n4 (ad 0)
abbrev dM:So:=inClass (top 78) 6
theorem jc:c9 ["self"] ["self"] (c6 dM):=uM
theorem jE{C:Nat}(cl:yH K C)(n4:t8 K C "present")(Fn:uv K "state" "Watch.state" dM f fd):k6 P w K mg base ue (k+1) f fd ["self"] (uP K (bE C)):=by
 refine ar Fn jc ?_
 intro _ _ _ _ _ _ hr
 refine ao ?_
 refine ay ?_
 exact cB cl n4 (ad 0)
abbrev cZ:So:=inClass (top 78) 8
theorem vS:c9 ["self","last"] ["self"] (c6 cZ):=uM
theorem kg(ve:mg "len" = none){C:Nat}(cl:yH K C)(uU:t8 K C "past")(n4:t8 K C "present")(uV:t8 K C "rung")(Fn:uv K "undo" "Watch.undo" cZ f fd):k6 P w K mg base ue (k+1) f fd ["self"] (GO K 0 (eU C)):=by
 refine fX (j:=0) Fn vS ?_
 intro _ _ _ _ _ _ hr
 refine aH ?_ ?_
 ·refine my ?_ ?_ fZ
  ·refine aE (cC hr) ?_ ae
   refine kU 0 C ?_
   refine bC gm ve ?_
   refine ac ?_ af
   exact cB cl uU (ad 0)
  exact bi qh
 refine aH ?_ ?_
 ·exact qZ 1 0 vS.nd cl uU
 refine aH ?_ ?_
 ·exact ek 0 cl n4 (ag (ad 1) ae)
 refine bi ?_
 exact ek 0 cl uV (ag (ad 1) ae)
theorem Bd{P:R9}{w:Sk}{K:RW}{mg:Str->RT RU}{base:Sq}{k:Nat}{ca:Nat->RY}{W:RY}(EK:IL K mg ca W)(ve:mg "len" = none){C:Nat}(cl:yH K C)(uU:t8 K C "past")(n4:t8 K C "present")(uV:t8 K C "rung"){f:RY}{fd:SV}(Fn:uv K "undo" "Watch.undo" cZ f fd):k6 P w K mg base (AN P w) (k+1) f fd ["self"] (LT ca K 1 (m6 C)):=by
  refine qI Fn vS ?_
  intro _ _ _ _ _ _ hr
  exact(Iu (aE (cC hr) (kU 0 C (bC gm ve (ac (cB cl uU (ad 0)) af))) ae) (GT EK rfl aA)
  (aH (qZ 1 0 vS.nd cl uU)
  (aH (ek 0 cl n4 (ag (ad 1) ae))
  (bi (ek 0 cl uV (ag (ad 1) ae))))))
abbrev cI:So:=inClass (top 78) 0
theorem gO:c9 ["self","book"] ["self","book"] (c6 cI):=uM
theorem gH(vU:l8 P w K mg base k "begun" ["book"] bX){C:Nat}(cl:yH K C)(xg:t8 K C "book")(uU:t8 K C "past")(n4:t8 K C "present")(uV:t8 K C "rung")(Fn:uv K "__init__" "Watch.__init__" cI f fd):k6 P w K mg base ue (k+1) f fd ["self","book"] (NF K 2 2 C "past" (aS C)):=by
 refine Kh Fn gO ?_
 intro _ _ _ _ _ _ hr
 refine Dx ?_ ?_
 ·exact ek 0 cl xg (ad 1)
 refine Dx ?_ ?_
 ·refine ek 0 cl n4 ?_
  exact ai vU hr (ac (ad 1) af)
 refine Dx ?_ ?_
 ·exact ek 0 cl uV ae
 exact J_ 0 cl uU
theorem MG{P:R9}{w:Sk}{K:RW}{mg:Str->RT RU}{base:Sq}{k:Nat}{ca:Nat->RY}{C:Nat}(cl:yH K C)(MX_undo:E4 ca P w K mg base k C "undo" ["self"] (m6 C))(f c':RY)(cl':List (Str×RY))(pm ctv:RU)(S:wF EG.N EG.ps EG.scope cl'):k6 P w K mg base (AN P w) (k+1) f (W.kla_fn "<lambda>" EG.q EG.params EG.body EG.scope cl' pm (.ref c') ctv) EG.ps (BW ca K EG 0 (zD C (oS "undo") 0 (m6 C) c7) f c' cl' pm ctv):=
 NS rfl (fun cl' f c' A outer s H E S hr=>qW 0 cl MX_undo hr rfl) f c' cl' pm ctv S
theorem MB{K:RW}:∀(c':RY) (cl:List (Str×RY)) (pm ctv:RU),Binds K (W.kla_fn "<lambda>" EG.q EG.params EG.body EG.scope cl pm (.ref c') ctv) EG.ps []:=LK fun _ _ _ _ us hl=>by cases us with | nil=>rfl | cons a b=>cases hl
abbrev dY:So:=top 96
theorem u6:c9 ["_law_script","_law_book_here","_law_watch","_law_other","_law_row_here","_law_event_here","_law_k","_law_number","_law_due","_law_state","_law_many","_law_some"] ["_law_script"] (c6 dY):=uM
theorem tm(yE:l8 P w K mg base k "_law_book" ["_law_number"] cM)(uI:l8 P w K mg base k "_law_drawn" ["_law_number","_law_k"] aT)(xS:l8 P w K mg base k "_law_event" ["_law_number"] cz)(uJ:l8 P w K mg base k "_law_mixed" ["_law_script","_law_k"] aJ)(xT:l8 P w K mg base k "_law_ready" ["_law_book_here","_law_number"] cu)(DJ:l8 P w K mg base k "after" ["book","state","row"] gS)(vU:l8 P w K mg base k "begun" ["book"] bX)(DK:l8 P w K mg base k "story" ["book","row"] dE)(FH:mg "bool" = none)(Jk:mg "int" = none)(uz:mg "isinstance" = none)(ve:mg "len" = none)(vT:mg "range" = none){C:Nat}(uO:l8 P w K mg base k "shown_going" ["book","state"] dC)(cl:yH K C)(DL:AB P w K mg base k C "rang" ["self"] (bR C))(GD:AB P w K mg base k C "row" ["self"] (bN C))(DM:AB P w K mg base k C "shown" ["self"] (bV C))(AT:AB P w K mg base k C "state" ["self"] (bE C)){ca:Nat->RY}{kX:Nat}(yF:yG P w K mg base ca k (kX+1) "_law_told" ["_law_deed"] ud)(MX_undo:E4 ca P w K mg base kX C "undo" ["self"] (m6 C))(yR:EW P w K mg base k "_law_do" ["_law_watch","_law_event_here"] 0 (bH C)){fI:RY}{fdI:SV}{kI:Nat}(MK:Mk K C fI)(FI:k6 P w K mg base ue kI fI fdI ["self","book"] (NF K 2 2 C "past" (aS C)))(BI:Binds K fdI ["self","book"] [])(mgW:mg "Watch" = some (.ref C))(hkI:kI+1<=k){ct:wl}(hq:ct.q=("law.<locals>.<lambda>" : Str))(TB:vN mg [ct] base)(Fn:Mu K "law" "law" dY f fd ct.c):k6 P w K mg base ue (k+1) f fd ["_law_script"] (spT K (mG C) ct):=by
 refine rY Fn u6 (tQ C) ?_ (tZ C)
 intro A outer s H E hr hT
 have hrI:=hr.mono hkI
 have Lm1:=HE (X:=(yj ue P w K mg base ["_law_script","_law_book_here","_law_watch","_law_other","_law_row_here","_law_event_here","_law_k","_law_number","_law_due","_law_state","_law_many","_law_some"] "law" (c6 dY) f (.ref ct.c) A outer s H E).nox) (t:=EG) (ct:=ct) (x:="_law_watch") (c:=s.heap.objs.size+1) (j:=2) TB hT hq.symm rfl hq.symm (fun _=>rfl) rfl rfl rfl rfl rfl rfl rfl rfl (by decide) rfl (by decide +kernel) (by decide +kernel) rfl (by decide +kernel)
 refine ak ?_ ?_
 ·refine aB ?_ ?_
  ·refine ai xT hr ?_
   refine ac ?_ ?_
   ·refine ai yE hr ?_
    refine ac ?_ af
    exact ai uJ hr (ac (ad 0) (ac ae af))
   refine ac ?_ af
   refine al bJ ?_ ae
   refine ai uI hr ?_
   refine ac ?_ (ac ae af)
   exact ai uJ hr (ac (ad 0) (ac ae af))
  exact aj 1 u6.nd
 refine rH 2 u6.nd MK FI BI hrI mgW (ac (ad 1) af) ?_
 refine rB 3 u6.nd MK FI BI hrI mgW (ac (ad 1) af) ?_
 refine aH ?_ ?_
 ·refine bo ?_
  refine aB ?_ ?_
  ·exact ax af
  exact aj 4 u6.nd
 refine aH ?_ ?_
 ·refine my ?_ ?_ fZ
  ·refine aE (cC hr) ?_ ae
   refine al aI ?_ ae
   exact ai uJ hr (ac (ad 0) (ac ae af))
  refine bi ?_
  refine pZ PassesOwn.never rfl ?_ ?_ ?_
  ·refine rK ?_
   refine ax ?_
   refine ac ?_ ?_
   ·exact ax (ac aA (ac aA af))
   refine ac ?_ ?_
   ·exact ax (ac aA (ac aA af))
   refine ac ?_ af
   exact ax (ac aA (ac ae af))
  ·exact aj 5 u6.nd
  refine aH ?_ ?_
  ·exact qS 2 yR hr (ac (ad 2) (ac (ad 5) af)) K8
  refine bi ?_
  refine bo ?_
  refine aB ?_ ?_
  ·refine al aD (ad 4) ?_
   exact ax (ac (ad 5) af)
  exact aj 4 u6.nd
 refine aH ?_ ?_
 ·refine pZ PassesOwn.never rfl ?_ ?_ ?_
  ·refine qB vT ?_
   refine al aI ?_ ae
   exact ai uJ hr (ac (ad 0) (ac ae af))
  ·exact aj 6 u6.nd
  refine aH ?_ ?_
  ·refine bo ?_
   refine aB ?_ ?_
   ·refine ai uJ hr ?_
    refine ac (ad 0) ?_
    refine ac ?_ af
    exact al aD ae (ad 6)
   exact aj 7 u6.nd
  refine aH ?_ ?_
  ·refine my ?_ ?_ ?_
   ·refine aE (cC hr) ?_ ae
    exact al aI (ad 7) ae
   ·refine aH ?_ ?_
    ·refine bo ?_
     refine aB ?_ ?_
     ·refine ag ?_ ?_
      ·refine hZ ?_
       refine ac ?_ ?_
       ·exact ax (ac aA (ac aR af))
       refine ac ?_ af
       exact ax (ac aA (ac ae af))
      refine fT sR Jk ?_
      refine ac ?_ af
      refine cD (lT hr) (ad 4) ?_
      exact ax af
     exact aj 8 u6.nd
    refine aH ?_ ?_
    ·refine tL (kO hr) (se (t:=EG) yF hr Lm1 rfl (MG cl MX_undo) (MB)) (ad 8) ?_ fZ
     refine bi ?_
     refine bo ?_
     exact ay dG
    refine bi ?_
    refine bo ?_
    refine aB ?_ ?_
    ·refine gB (ad 4) iM ?_
     refine iO ?_
     exact qO nT ae
    exact aj 4 u6.nd
   refine aH ?_ ?_
   ·refine bo ?_
    refine aB ?_ ?_
    ·refine ai xS hr ?_
     refine ac ?_ af
     exact al bJ (ad 7) ae
    exact aj 5 u6.nd
   refine aH ?_ ?_
   ·refine sK cx (rm 2 yR hr (ac (ad 2) (ac (ad 5) af)) K8) aR ?_ fZ
    refine bi ?_
    refine bo ?_
    exact ay dG
   refine bi ?_
   refine bo ?_
   refine aB ?_ ?_
   ·refine al aD (ad 4) ?_
    exact ax (ac (ad 5) af)
   exact aj 4 u6.nd
  refine aH ?_ ?_
  ·refine bo ?_
   refine aB ?_ ?_
   ·refine ai DJ hr ?_
    refine ac (ad 1) ?_
    refine ac ?_ (ac (ad 4) af)
    exact ai vU hr (ac (ad 1) af)
   exact aj 9 u6.nd
  refine aH ?_ ?_
  ·refine bo ?_
   refine cQ ?_ ?_ aU
   ·refine fk ?_
    refine gJ ?_ ?_
    ·refine aE (kO hr) ?_ (ad 9)
     exact eh cl AT hr (ad 2)
    refine gJ ?_ ?_
    ·refine aE (kO hr) ?_ ?_
     ·exact eh cl DM hr (ad 2)
     exact ai uO hr (ac (ad 1) (ac (ad 9) af))
    refine gl ?_
    refine aE (kO hr) ?_ (ad 4)
    exact eh cl GD hr (ad 2)
   refine ao ?_
   exact ay dG
  refine aH ?_ ?_
  ·refine bo ?_
   refine aB ?_ ?_
   ·exact eh cl DL hr (ad 2)
   exact aj 10 u6.nd
  refine aH ?_ ?_
  ·refine bo ?_
   refine rO (T:=["_law_one"]) rfl (i:=11) u6.nd ?_ ?_ ?_ (fun C s₃ H₃ fp=>(ad 0)) (xl (by decide)) (show List.Nodup ((["_law_one"]:List Str)++(["_law_script" ,"_law_book_here" ,"_law_watch" ,"_law_other" ,"_law_row_here" ,"_law_event_here" ,"_law_k" ,"_law_number" ,"_law_due" ,"_law_state" ,"_law_many" ,"_law_some"]:List Str)) from by decide +kernel)
   ·refine gu ?_
    exact ai DK hr (ac (ad 1) (ac (ad 4) af))
   ·intro C s₃ H₃ fp
    exact aj 0 (show List.Nodup (["_law_one" ,"_law_script" ,"_law_book_here" ,"_law_watch" ,"_law_other" ,"_law_row_here" ,"_law_event_here" ,"_law_k" ,"_law_number" ,"_law_due" ,"_law_state" ,"_law_many" ,"_law_some"]:List Str) from by decide +kernel)
   intro C s₃ H₃ fp
   refine tN ?_
   exact aE (cC hr) (ag (ad 0) ae) aA
  refine bi ?_
  refine bo ?_
  refine cQ ?_ ?_ aU
  ·refine fk ?_
   refine gJ ?_ ?_
   ·refine cE ?_
    exact pJ uz FH (ad 10)
   refine gl ?_
   refine aE (sE hr) (ad 10) ?_
   exact bC gm ve (ac (ad 11) af)
  refine ao ?_
  exact ay dG
 refine bi ?_
 refine bo ?_
 refine ay ?_
 refine gi ?_ ?_
 ·refine cD (lT hr) ?_ ?_
  ·exact eh cl AT hr (ad 3)
  exact ai vU hr (ac (ad 1) af)
 refine gi ?_ ?_
 ·refine cD (lT hr) ?_ ?_
  ·exact eh cl GD hr (ad 3)
  exact ax af
 refine i_ ?_
 refine cD (cC hr) ?_ ae
 exact eh cl DL hr (ad 3)
end HW
namespace HW
open PySem PySem.Spec PyProof.Rows L2
theorem CU(K:RW)(H:Hp):∀ns:List Int,i5 K H (ns.map .int) (ns.map V.int)
 | []=>rfl
 | n::ns=>⟨.int n,_,rfl,rfl,CU K H ns⟩
def g_:LD->OD:=fun ds=>open Classical in if ∃ns:List Int,ds=[.fro (ns.map .int)] then some (.bl true) else none
theorem IF(C:Nat):∀ds d,g_ ds=some d->mG C ds=some d:=fun ds d h=>by
 unfold g_ at h
 split at h
 ·rename_i z
  obtain⟨ns,rfl⟩:=z
  rw[J9 C ns];exact h
 ·cases h
theorem HR(ns:List Int)(_:ns.length<=63):g_ [.fro (ns.map .int)]=some (.bl true):=R3 ⟨ns,rfl⟩
theorem all_mk{l:W.OpenLaw}{w:Sk}{K:RW}{h:Sq}{mg:Str->RT RU}{fa:RY}
  {C:RY}
  {eA eB eW:RY}
  {q:R9} {cA pA:RY} {oc2:RU} {od2:RT RY} {vs2:Array RU} {sl2:Array (RT RU)} {f75:RY} {od75 an75:RT RY} {sl75:Array (RT RU)} {oc75 kV75 dc75 pm75 ct75:RU}
  {Jl:Tok}
  {Jm:Tok}
  {Jn:Tok}
  {Jo:Tok}
  {Nr:Tok}
  {DN:Tok}
  {KY:Tok}
  {KZ:Tok}
  {K0:Tok}
  {K1:Tok}
  {DO:Tok}
  {K2:Tok}
  {zr:RY} {FJ:Nat} {FK:Array (RT RU)} {FL FM FN FO FP FQ:Tok}
  {xh:RY} {Cb:Nat} {BO BP BQ BR:Tok}
  {BS:RY} {Jp:Nat} {Hm Hn Ho Hq Hr Hs Ht Hu Hv Hw FR FS FT:Tok}
  {f0 f1 f2 f3 f4 f5 f6 f7 f8 f9 f10 f11 f12 f13 f14 f15 f16 f17 f18 f19 f20 f21 f22 f23 f24 f25 f26 f27 f28 f29 f30 f31 f32 f33 f34 f35 f36 f37 f38 f39 f40 f41 f42 f43 f44 f45 f46 f47 f48 f49 f50 f51 f52 f53 f54 f55 f56 f57 f58 f59 f60 f61 f62 f63 f64 f65 f66 f67 f68 f69 f70 f71 f72 f73 f74:RY}
  (X:K.In h) (G:h.Ns mainGlobals mg) (hfa:mg "law" = some (.ref fa))
  (aC:W.nsIn K mainGlobals "Watch" = some (some (.ref C))) (pg:W.plainGet K C Str.empty=true) (hd:W.hasDictIn K C=true) (po:W.plainOver K C=true) (sa:W.findIn K (.ref C) "__setattr__" = some (some (.builtin "object.__setattr__"))) (mkC:W.makesIn K C=true) (kc:W.keepIn K (.ref C)=true)
  (xg:W.findIn K (.ref C) "book" = some none)
  (uU:W.findIn K (.ref C) "past" = some none)
  (n4:W.findIn K (.ref C) "present" = some none)
  (uV:W.findIn K (.ref C) "rung" = some none)
  (n0:W.nsIn K mainGlobals "NoText" = some (some (.ref eA))) (n1:W.nsIn K mainGlobals "NoDeed" = some (some (.ref eB))) (nw:W.nsIn K mainGlobals "WatchError" = some (some (.ref eW))) (ep:Mj K eA eB eW)
  (a0:u5 K "begun" lS f0)
  (a1:u5 K "laps_on" im f1)
  (a2:u5 K "count_on" gr f2)
  (a3:u5 K "alarm_tick" eS f3)
  (a4:u5 K "count_tick" fg f4)
  (a5:u5 K "last_ring" fz f5)
  (a6:u5 K "ring_on" ig f6)
  (a7:u5 K "held_on" ii f7)
  (a8:u5 K "ticks_to_back" cW f8)
  (a9:u5 K "idle_on" gY f9)
  (a10:u5 K "counted" ip f10)
  (a11:u5 K "goes_back" ft f11)
  (a12:u5 K "ticks_to_long" cX f12)
  (a13:u5 K "turn_tick" fE f13)
  (a14:u5 K "put" qV f14)
  (a15:u5 K "nothing" io f15)
  (a16:u5 K "hour_on" ia f16)
  (a17:u5 K "minute_on" fu f17)
  (a18:u5 K "to_zero" gX f18)
  (a19:u5 K "alarm_hour_on" cU f19)
  (a20:u5 K "alarm_minute_on" ce f20)
  (a21:u5 K "alarm_turned" dA f21)
  (a22:u5 K "laps_turned" dS f22)
  (a23:u5 K "lap_kept" gp f23)
  (a24:u5 K "set_to" iZ f24)
  (a25:u5 K "count_minute_on" cy f25)
  (a26:u5 K "count_second_on" cj f26)
  (a27:u5 K "filled" jI f27)
  (a28:u5 K "count_turned" dt f28)
  (a29:u5 K "press_done" eN f29)
  (a30:u5 K "turned" jK f30)
  (a31:u5 K "behind_turn" dR f31)
  (a32:u5 K "stretches" fw f32)
  (a33:u5 K "ticked" jG f33)
  (a34:u5 K "pushed" iY f34)
  (a35:u5 K "is_holding" eJ f35)
  (a36:u5 K "is_short" gx f36)
  (a37:u5 K "let_go" jg f37)
  (a38:u5 K "gone" nD f38)
  (a39:u5 K "after" kZ f39)
  (a40:u5 K "ring_ticks" eT f40)
  (a41:u5 K "turn_sign" fR f41)
  (a42:u5 K "tick_happenings" cq f42)
  (a43:u5 K "happenings" eV f43)
  (a44:u5 K "story" kQ f44)
  (a45:u5 K "_law_cell_at" dl f45)
  (a46:u5 K "_law_mixed" eR f46)
  (a47:u5 K "_law_drawn" eL f47)
  (a48:u5 K "_law_book" fK f48)
  (a49:u5 K "_law_event" fh f49)
  (a50:u5 K "_law_ready" fe f50)
  (a51:u5 K "figures" il f51)
  (a52:u5 K "two_figures" dO f52)
  (a53:u5 K "hour_text" fM f53)
  (a54:u5 K "time_text" fO f54)
  (a55:u5 K "alarm_text" el f55)
  (a56:u5 K "minute_text" dP f56)
  (a57:u5 K "laps_text" fN f57)
  (a58:u5 K "count_text" e_ f58)
  (a59:u5 K "shown" kR f59)
  (a60:u5 K "ring_count" eX f60)
  (a61:u5 K "how_many_rings" cG f61)
  (a62:u5 K "rings_by" gy f62)
  (a63:Hy K C "happen" "Watch.happen" dj f63)
  (a64:Hy K C "down" "Watch.down" eI f64)
  (a65:Hy K C "ticks" "Watch.ticks" dN f65)
  (a66:Hy K C "up" "Watch.up" gv f66)
  (a67:u5 K "_law_do" hU f67)
  (a68:Hy K C "rang" "Watch.rang" eG f68)
  (a69:Hy K C "row" "Watch.row" fH f69)
  (a70:Hy K C "shown" "Watch.shown" dL f70)
  (a71:Hy K C "state" "Watch.state" dM f71)
  (a72:Hy K C "undo" "Watch.undo" cZ f72)
  (a73:Hy K C "__init__" "Watch.__init__" cI f73)
  (a74:u5 K "_law_told" fv f74)
  (a75:W.nsIn K mainGlobals "law" = some (some (.ref f75))) (l75:K.lookup f75=some ⟨oc75,od75,.func (W.fnOf "law" "law" (vf dY) (uh dY) (c6 dY) .none kV75 dc75 pm75 an75 (.ref cA) ct75),sl75⟩) (c75:W.codeIn K (.ref cA) "law" = true) (k75:W.keepIn K (.ref f75)=true) (l2:K.lookup cA=some ⟨oc2,od2,.fields vs2,sl2⟩) (h11:vs2[11]?=some (.ref pA)) (nt:K.lookup pA=none) (hrec:∃d,(recsOf q).find? (fun e=>e.name==("law" : Str))=some d)
  (BU:W.nsIn K mainGlobals "shown_going" = some (some (.ref f59)))
  (DP:W.nsIn K mainGlobals "ValueError" = some none)
  (Nt:W.nsIn K mainGlobals "bool" = some none)
  (Pp:W.nsIn K mainGlobals "int" = some none)
  (DQ:W.nsIn K mainGlobals "isinstance" = some none)
  (Pq:W.nsIn K mainGlobals "len" = some none)
  (Nu:W.nsIn K mainGlobals "list" = some none)
  (Pt:W.nsIn K mainGlobals "max" = some none)
  (K3:W.nsIn K mainGlobals "range" = some none)
  (FU:W.nsIn K mainGlobals "reversed" = some none)
  (Pu:W.nsIn K mainGlobals "set" = some none)
  (Jq:W.nsIn K mainGlobals "sorted" = some none)
  (Pv:W.nsIn K mainGlobals "str" = some none)
  (Pw:W.nsIn K mainGlobals "sum" = some none)
  (K4:W.nsIn K mainGlobals "tuple" = some none)
  (q_ALARM:W.nsIn K mainGlobals "ALARM" = some (some (.int 2 Jl)))
  (q_BLOCK:W.nsIn K mainGlobals "BLOCK" = some (some (.int 1000000000000000000 Jm)))
  (q_CLOCK:W.nsIn K mainGlobals "CLOCK" = some (some (.int 1 Jn)))
  (q_COUNT:W.nsIn K mainGlobals "COUNT" = some (some (.int 4 Jo)))
  (q_DAY:W.nsIn K mainGlobals "DAY" = some (some (.int 86400 Nr)))
  (q_FULL_RING:W.nsIn K mainGlobals "FULL_RING" = some (some (.int 10 DN)))
  (q_HELD:W.nsIn K mainGlobals "HELD" = some (some (.int 6 KY)))
  (q_IDLE:W.nsIn K mainGlobals "IDLE" = some (some (.int 7 KZ)))
  (q_LAPS:W.nsIn K mainGlobals "LAPS" = some (some (.int 3 K0)))
  (q_MODE:W.nsIn K mainGlobals "MODE" = some (some (.int 0 K1)))
  (q_MOST_KEPT:W.nsIn K mainGlobals "MOST_KEPT" = some (some (.int 4 DO)))
  (q_RING:W.nsIn K mainGlobals "RING" = some (some (.int 5 K2)))
  (q_PRESSES:W.nsIn K mainGlobals "PRESSES" = some (some (.ref zr)))
  (rs_PRESSES:K.lookup zr=some ⟨.type "tuple",none,.seq #[.str (oS "a") FL,.str (oS "b") FM,.str (oS "c") FN,.str (oS "A") FO,.str (oS "B") FP,.str (oS "C") FQ] FJ,FK⟩)
  (q_FACE_TEXTS:W.nsIn K mainGlobals "FACE_TEXTS" = some (some (.ref xh)))
  (r_FACE_TEXTS:K.lookup xh=some ⟨.type "dict",none,.dict (entries w [(oS "time",BO,.ref f54),(oS "alarm",BP,.ref f55),(oS "laps",BQ,.ref f57),(oS "count",BR,.ref f58)]).toArray Cb,#[]⟩)
  (q_STEPS:W.nsIn K mainGlobals "STEPS" = some (some (.ref BS)))
  (r_STEPS:K.lookup BS=some ⟨.type "dict",none,.dict (entries w [(oS "none",Hm,.ref f15),(oS "hour",Hn,.ref f16),(oS "minute",Ho,.ref f17),(oS "zero",Hq,.ref f18),(oS "ahour",Hr,.ref f19),(oS "aminute",Hs,.ref f20),(oS "alarm",Ht,.ref f21),(oS "run",Hu,.ref f22),(oS "lap",Hv,.ref f23),(oS "cminute",Hw,.ref f25),(oS "csecond",FR,.ref f26),(oS "full",FS,.ref f27),(oS "count",FT,.ref f28)]).toArray Jp,#[]⟩) :
  ∃(ts:List wl) (fd:SV),(∀t∈ts,K.lookup t.P=none/\∃y d,(recsOf q).find? (fun e=>e.name==y)=some d/\W.tabIn K y=some (t.c,t.P))/\(∀(s:RX) (v:RU),BindsTo s fd ⟨[v],[]⟩ [("_law_script",v)])/\∀base:Sq,K.In base->base.Ns mainGlobals mg->vN mg ts base->k6 l.prog w K mg base ue 13 fa fd ["_law_script"] (Pc K g_ ts):=by
 have e:=hfa.symm.trans (Sh X G a75)
 cases e
 have cl:yH K C:=⟨pg,hd,po,sa⟩
 have mgW:=Sh X G aC
 have EK:=LH X G n0 n1 nw ep
 obtain⟨d0,F0,a0⟩:=vd a0
 have b0:=F0.binds (ps:=["book"]) fun | _,_,_,_,_,_,[_],_=>rfl
 have g0:=Sh X G a0
 obtain⟨d1,F1,a1⟩:=vd a1
 have b1:=F1.binds (ps:=["laps","many"]) fun | _,_,_,_,_,_,[_,_],_=>rfl
 have g1:=Sh X G a1
 obtain⟨d2,F2,a2⟩:=vd a2
 have b2:=F2.binds (ps:=["count","many"]) fun | _,_,_,_,_,_,[_,_],_=>rfl
 have g2:=Sh X G a2
 obtain⟨d3,F3,a3⟩:=vd a3
 have b3:=F3.binds (ps:=["state"]) fun | _,_,_,_,_,_,[_],_=>rfl
 have g3:=Sh X G a3
 obtain⟨d4,F4,a4⟩:=vd a4
 have b4:=F4.binds (ps:=["state"]) fun | _,_,_,_,_,_,[_],_=>rfl
 have g4:=Sh X G a4
 obtain⟨d5,F5,a5⟩:=vd a5
 have b5:=F5.binds (ps:=["state","many"]) fun | _,_,_,_,_,_,[_,_],_=>rfl
 have g5:=Sh X G a5
 obtain⟨d6,F6,a6⟩:=vd a6
 have b6:=F6.binds (ps:=["state","many"]) fun | _,_,_,_,_,_,[_,_],_=>rfl
 have g6:=Sh X G a6
 obtain⟨d7,F7,a7⟩:=vd a7
 have b7:=F7.binds (ps:=["held","many"]) fun | _,_,_,_,_,_,[_,_],_=>rfl
 have g7:=Sh X G a7
 obtain⟨d8,F8,a8⟩:=vd a8
 have b8:=F8.binds (ps:=["book","state"]) fun | _,_,_,_,_,_,[_,_],_=>rfl
 have g8:=Sh X G a8
 obtain⟨d9,F9,a9⟩:=vd a9
 have b9:=F9.binds (ps:=["book","state","many"]) fun | _,_,_,_,_,_,[_,_,_],_=>rfl
 have g9:=Sh X G a9
 obtain⟨d10,F10,a10⟩:=vd a10
 have b10:=F10.binds (ps:=["book","state","many"]) fun | _,_,_,_,_,_,[_,_,_],_=>rfl
 have g10:=Sh X G a10
 obtain⟨d11,F11,a11⟩:=vd a11
 have b11:=F11.binds (ps:=["book","state"]) fun | _,_,_,_,_,_,[_,_],_=>rfl
 have g11:=Sh X G a11
 obtain⟨d12,F12,a12⟩:=vd a12
 have b12:=F12.binds (ps:=["book","state"]) fun | _,_,_,_,_,_,[_,_],_=>rfl
 have g12:=Sh X G a12
 obtain⟨d13,F13,a13⟩:=vd a13
 have b13:=F13.binds (ps:=["book","state"]) fun | _,_,_,_,_,_,[_,_],_=>rfl
 have g13:=Sh X G a13
 obtain⟨d14,F14,a14⟩:=vd a14
 have b14:=F14.binds (ps:=["state","place","part"]) fun | _,_,_,_,_,_,[_,_,_],_=>rfl
 have g14:=Sh X G a14
 obtain⟨d15,F15,a15⟩:=vd a15
 have b15:=F15.binds (ps:=["state"]) fun | _,_,_,_,_,_,[_],_=>rfl
 have g15:=Sh X G a15
 obtain⟨d16,F16,a16⟩:=vd a16
 have b16:=F16.binds (ps:=["state"]) fun | _,_,_,_,_,_,[_],_=>rfl
 have g16:=Sh X G a16
 obtain⟨d17,F17,a17⟩:=vd a17
 have b17:=F17.binds (ps:=["state"]) fun | _,_,_,_,_,_,[_],_=>rfl
 have g17:=Sh X G a17
 obtain⟨d18,F18,a18⟩:=vd a18
 have b18:=F18.binds (ps:=["state"]) fun | _,_,_,_,_,_,[_],_=>rfl
 have g18:=Sh X G a18
 obtain⟨d19,F19,a19⟩:=vd a19
 have b19:=F19.binds (ps:=["state"]) fun | _,_,_,_,_,_,[_],_=>rfl
 have g19:=Sh X G a19
 obtain⟨d20,F20,a20⟩:=vd a20
 have b20:=F20.binds (ps:=["state"]) fun | _,_,_,_,_,_,[_],_=>rfl
 have g20:=Sh X G a20
 obtain⟨d21,F21,a21⟩:=vd a21
 have b21:=F21.binds (ps:=["state"]) fun | _,_,_,_,_,_,[_],_=>rfl
 have g21:=Sh X G a21
 obtain⟨d22,F22,a22⟩:=vd a22
 have b22:=F22.binds (ps:=["state"]) fun | _,_,_,_,_,_,[_],_=>rfl
 have g22:=Sh X G a22
 obtain⟨d23,F23,a23⟩:=vd a23
 have b23:=F23.binds (ps:=["state"]) fun | _,_,_,_,_,_,[_],_=>rfl
 have g23:=Sh X G a23
 obtain⟨d24,F24,a24⟩:=vd a24
 have b24:=F24.binds (ps:=["state","minute","second"]) fun | _,_,_,_,_,_,[_,_,_],_=>rfl
 have g24:=Sh X G a24
 obtain⟨d25,F25,a25⟩:=vd a25
 have b25:=F25.binds (ps:=["state"]) fun | _,_,_,_,_,_,[_],_=>rfl
 have g25:=Sh X G a25
 obtain⟨d26,F26,a26⟩:=vd a26
 have b26:=F26.binds (ps:=["state"]) fun | _,_,_,_,_,_,[_],_=>rfl
 have g26:=Sh X G a26
 obtain⟨d27,F27,a27⟩:=vd a27
 have b27:=F27.binds (ps:=["state"]) fun | _,_,_,_,_,_,[_],_=>rfl
 have g27:=Sh X G a27
 obtain⟨d28,F28,a28⟩:=vd a28
 have b28:=F28.binds (ps:=["state"]) fun | _,_,_,_,_,_,[_],_=>rfl
 have g28:=Sh X G a28
 obtain⟨d29,F29,a29⟩:=vd a29
 have b29:=F29.binds (ps:=["book","state","press"]) fun | _,_,_,_,_,_,[_,_,_],_=>rfl
 have g29:=Sh X G a29
 obtain⟨d30,F30,a30⟩:=vd a30
 have b30:=F30.binds (ps:=["book","state"]) fun | _,_,_,_,_,_,[_,_],_=>rfl
 have g30:=Sh X G a30
 obtain⟨d31,F31,a31⟩:=vd a31
 have b31:=F31.binds (ps:=["book","state"]) fun | _,_,_,_,_,_,[_,_],_=>rfl
 have g31:=Sh X G a31
 obtain⟨d32,F32,a32⟩:=vd a32
 have b32:=F32.binds (ps:=["book","state","many"]) fun | _,_,_,_,_,_,[_,_,_],_=>rfl
 have g32:=Sh X G a32
 obtain⟨d33,F33,a33⟩:=vd a33
 have b33:=F33.binds (ps:=["book","state","many"]) fun | _,_,_,_,_,_,[_,_,_],_=>rfl
 have g33:=Sh X G a33
 obtain⟨d34,F34,a34⟩:=vd a34
 have b34:=F34.binds (ps:=["state","button"]) fun | _,_,_,_,_,_,[_,_],_=>rfl
 have g34:=Sh X G a34
 obtain⟨d35,F35,a35⟩:=vd a35
 have b35:=F35.binds (ps:=["state","button"]) fun | _,_,_,_,_,_,[_,_],_=>rfl
 have g35:=Sh X G a35
 obtain⟨d36,F36,a36⟩:=vd a36
 have b36:=F36.binds (ps:=["state","button"]) fun | _,_,_,_,_,_,[_,_],_=>rfl
 have g36:=Sh X G a36
 obtain⟨d37,F37,a37⟩:=vd a37
 have b37:=F37.binds (ps:=["book","state","button"]) fun | _,_,_,_,_,_,[_,_,_],_=>rfl
 have g37:=Sh X G a37
 obtain⟨d38,F38,a38⟩:=vd a38
 have b38:=F38.binds (ps:=["book","state","event"]) fun | _,_,_,_,_,_,[_,_,_],_=>rfl
 have g38:=Sh X G a38
 obtain⟨d39,F39,a39⟩:=vd a39
 have b39:=F39.binds (ps:=["book","state","row"]) fun | _,_,_,_,_,_,[_,_,_],_=>rfl
 have g39:=Sh X G a39
 obtain⟨d40,F40,a40⟩:=vd a40
 have b40:=F40.binds (ps:=["state","many"]) fun | _,_,_,_,_,_,[_,_],_=>rfl
 have g40:=Sh X G a40
 obtain⟨d41,F41,a41⟩:=vd a41
 have b41:=F41.binds (ps:=["state"]) fun | _,_,_,_,_,_,[_],_=>rfl
 have g41:=Sh X G a41
 obtain⟨d42,F42,a42⟩:=vd a42
 have b42:=F42.binds (ps:=["book","state","many"]) fun | _,_,_,_,_,_,[_,_,_],_=>rfl
 have g42:=Sh X G a42
 obtain⟨d43,F43,a43⟩:=vd a43
 have b43:=F43.binds (ps:=["book","state","event"]) fun | _,_,_,_,_,_,[_,_,_],_=>rfl
 have g43:=Sh X G a43
 obtain⟨d44,F44,a44⟩:=vd a44
 have b44:=F44.binds (ps:=["book","row"]) fun | _,_,_,_,_,_,[_,_],_=>rfl
 have g44:=Sh X G a44
 obtain⟨d45,F45,a45⟩:=vd a45
 have b45:=F45.binds (ps:=["_law_script","_law_k"]) fun | _,_,_,_,_,_,[_,_],_=>rfl
 have g45:=Sh X G a45
 obtain⟨d46,F46,a46⟩:=vd a46
 have b46:=F46.binds (ps:=["_law_script","_law_k"]) fun | _,_,_,_,_,_,[_,_],_=>rfl
 have g46:=Sh X G a46
 obtain⟨d47,F47,a47⟩:=vd a47
 have b47:=F47.binds (ps:=["_law_number","_law_k"]) fun | _,_,_,_,_,_,[_,_],_=>rfl
 have g47:=Sh X G a47
 obtain⟨d48,F48,a48⟩:=vd a48
 have b48:=F48.binds (ps:=["_law_number"]) fun | _,_,_,_,_,_,[_],_=>rfl
 have g48:=Sh X G a48
 obtain⟨d49,F49,a49⟩:=vd a49
 have b49:=F49.binds (ps:=["_law_number"]) fun | _,_,_,_,_,_,[_],_=>rfl
 have g49:=Sh X G a49
 obtain⟨d50,F50,a50⟩:=vd a50
 have b50:=F50.binds (ps:=["_law_book_here","_law_number"]) fun | _,_,_,_,_,_,[_,_],_=>rfl
 have g50:=Sh X G a50
 obtain⟨d51,F51,a51⟩:=vd a51
 have b51:=F51.binds (ps:=["number"]) fun | _,_,_,_,_,_,[_],_=>rfl
 have g51:=Sh X G a51
 obtain⟨d52,F52,a52⟩:=vd a52
 have b52:=F52.binds (ps:=["number"]) fun | _,_,_,_,_,_,[_],_=>rfl
 have g52:=Sh X G a52
 obtain⟨d53,F53,a53⟩:=vd a53
 have b53:=F53.binds (ps:=["hour","minute"]) fun | _,_,_,_,_,_,[_,_],_=>rfl
 have g53:=Sh X G a53
 obtain⟨d54,F54,a54⟩:=vd a54
 have b54:=F54.binds (ps:=["state"]) fun | _,_,_,_,_,_,[_],_=>rfl
 have g54:=Sh X G a54
 obtain⟨d55,F55,a55⟩:=vd a55
 have b55:=F55.binds (ps:=["state"]) fun | _,_,_,_,_,_,[_],_=>rfl
 have g55:=Sh X G a55
 obtain⟨d56,F56,a56⟩:=vd a56
 have b56:=F56.binds (ps:=["seconds"]) fun | _,_,_,_,_,_,[_],_=>rfl
 have g56:=Sh X G a56
 obtain⟨d57,F57,a57⟩:=vd a57
 have b57:=F57.binds (ps:=["state"]) fun | _,_,_,_,_,_,[_],_=>rfl
 have g57:=Sh X G a57
 obtain⟨d58,F58,a58⟩:=vd a58
 have b58:=F58.binds (ps:=["state"]) fun | _,_,_,_,_,_,[_],_=>rfl
 have g58:=Sh X G a58
 obtain⟨d59,F59,a59⟩:=vd a59
 have b59:=F59.binds (ps:=["book","state"]) fun | _,_,_,_,_,_,[_,_],_=>rfl
 have g59:=Sh X G a59
 obtain⟨d60,F60,a60⟩:=vd a60
 have b60:=F60.binds (ps:=["state","many"]) fun | _,_,_,_,_,_,[_,_],_=>rfl
 have g60:=Sh X G a60
 obtain⟨d61,F61,a61⟩:=vd a61
 have b61:=F61.binds (ps:=["book","state","many"]) fun | _,_,_,_,_,_,[_,_,_],_=>rfl
 have g61:=Sh X G a61
 obtain⟨d62,F62,a62⟩:=vd a62
 have b62:=F62.binds (ps:=["book","state","event"]) fun | _,_,_,_,_,_,[_,_,_],_=>rfl
 have g62:=Sh X G a62
 obtain⟨d63,F63,M63⟩:=Jt a63
 have b63:=F63.binds (ps:=["self","event"]) fun | _,_,_,_,_,_,[_,_],_=>rfl
 obtain⟨d64,F64,M64⟩:=Jt a64
 have b64:=F64.binds (ps:=["self","button"]) fun | _,_,_,_,_,_,[_,_],_=>rfl
 obtain⟨d65,F65,M65⟩:=Jt a65
 have b65:=F65.binds (ps:=["self","many"]) fun | _,_,_,_,_,_,[_,_],_=>rfl
 obtain⟨d66,F66,M66⟩:=Jt a66
 have b66:=F66.binds (ps:=["self","button"]) fun | _,_,_,_,_,_,[_,_],_=>rfl
 obtain⟨d67,F67,a67⟩:=vd a67
 have b67:=F67.binds (ps:=["_law_watch","_law_event_here"]) fun | _,_,_,_,_,_,[_,_],_=>rfl
 have g67:=Sh X G a67
 obtain⟨d68,F68,M68⟩:=Jt a68
 have b68:=F68.binds (ps:=["self"]) fun | _,_,_,_,_,_,[_],_=>rfl
 obtain⟨d69,F69,M69⟩:=Jt a69
 have b69:=F69.binds (ps:=["self"]) fun | _,_,_,_,_,_,[_],_=>rfl
 obtain⟨d70,F70,M70⟩:=Jt a70
 have b70:=F70.binds (ps:=["self"]) fun | _,_,_,_,_,_,[_],_=>rfl
 obtain⟨d71,F71,M71⟩:=Jt a71
 have b71:=F71.binds (ps:=["self"]) fun | _,_,_,_,_,_,[_],_=>rfl
 obtain⟨d72,F72,M72⟩:=Jt a72
 have b72:=F72.binds (ps:=["self"]) fun | _,_,_,_,_,_,[_],_=>rfl
 obtain⟨d73,F73,M73⟩:=Jt a73
 have b73:=F73.binds (ps:=["self","book"]) fun | _,_,_,_,_,_,[_,_],_=>rfl
 obtain⟨d74,F74,a74⟩:=vd a74
 have b74:=F74.binds (ps:=["_law_deed"]) fun | _,_,_,_,_,_,[_],_=>rfl
 have g74:=Sh X G a74
 have F75:Mu K "law" "law" dY _ _ cA:=⟨⟨_,_,_,_,_,_,_,_,rfl,l75,c75⟩,k75⟩
 have g75:=Sh X G a75
 have tb:=sN a75 l75 rfl l2 h11
 have b75:=Binds.all (K:=K) (fd:=W.fnOf "law" "law" (vf dY) (uh dY) (c6 dY) .none kV75 dc75 pm75 an75 (.ref cA) ct75) (ps:=["_law_script"]) fun us hl=>by obtain⟨x0,rfl⟩:=RM (us:=us) hl;rfl
 have ga_shown_going:=Sh X G BU
 have xR:=W.mg_none_of X G DP
 have FH:=W.mg_none_of X G Nt
 have Jk:=W.mg_none_of X G Pp
 have uz:=W.mg_none_of X G DQ
 have ve:=W.mg_none_of X G Pq
 have FF:=W.mg_none_of X G Nu
 have wg:=W.mg_none_of X G Pt
 have vT:=W.mg_none_of X G K3
 have zp:=W.mg_none_of X G FU
 have Ji:=W.mg_none_of X G Pu
 have BN:=W.mg_none_of X G Jq
 have CV:=W.mg_none_of X G Pv
 have Jj:=W.mg_none_of X G Pw
 have yQ:=W.mg_none_of X G K4
 have uf:uZ K mg "ALARM" bf:=⟨_,.int 2,Sh X G q_ALARM,⟨_,rfl⟩,fun H=>rfl⟩
 have DH:uZ K mg "BLOCK" eZ:=⟨_,.int 1000000000000000000,Sh X G q_BLOCK,⟨_,rfl⟩,fun H=>rfl⟩
 have ub:uZ K mg "CLOCK" aW:=⟨_,.int 1,Sh X G q_CLOCK,⟨_,rfl⟩,fun H=>rfl⟩
 have p4:uZ K mg "COUNT" aO:=⟨_,.int 4,Sh X G q_COUNT,⟨_,rfl⟩,fun H=>rfl⟩
 have wH:uZ K mg "DAY" dI:=⟨_,.int 86400,Sh X G q_DAY,⟨_,rfl⟩,fun H=>rfl⟩
 have yw:uZ K mg "FULL_RING" fB:=⟨_,.int 10,Sh X G q_FULL_RING,⟨_,rfl⟩,fun H=>rfl⟩
 have n8:uZ K mg "HELD" aV:=⟨_,.int 6,Sh X G q_HELD,⟨_,rfl⟩,fun H=>rfl⟩
 have vK:uZ K mg "IDLE" dz:=⟨_,.int 7,Sh X G q_IDLE,⟨_,rfl⟩,fun H=>rfl⟩
 have vh:uZ K mg "LAPS" bY:=⟨_,.int 3,Sh X G q_LAPS,⟨_,rfl⟩,fun H=>rfl⟩
 have uT:uZ K mg "MODE" bT:=⟨_,.int 0,Sh X G q_MODE,⟨_,rfl⟩,fun H=>rfl⟩
 have yz:uZ K mg "MOST_KEPT" fG:=⟨_,.int 4,Sh X G q_MOST_KEPT,⟨_,rfl⟩,fun H=>rfl⟩
 have xb:uZ K mg "RING" eO:=⟨_,.int 5,Sh X G q_RING,⟨_,rfl⟩,fun H=>rfl⟩
 have s_PRESSES:Mo K mg "PRESSES" df:=⟨zr,_,_,_,Sh X G q_PRESSES,rs_PRESSES,(.cons ⟨_,rfl⟩ (.cons ⟨_,rfl⟩ (.cons ⟨_,rfl⟩ (.cons ⟨_,rfl⟩ (.cons ⟨_,rfl⟩ (.cons ⟨_,rfl⟩ .nil))))))⟩
 have D_FACE_TEXTS:=Sh X G q_FACE_TEXTS
 have D_STEPS:=Sh X G q_STEPS
 obtain⟨dr,hdr⟩:=hrec
 refine⟨[⟨cA,pA,"law.<locals>.<lambda>"⟩],W.fnOf "law" "law" (vf dY) (uh dY) (c6 dY) .none kV75 dc75 pm75 an75 (.ref cA) ct75,fun t ht=>by rw[R4.mp ht];exact⟨nt,"law",dr,hdr,tb⟩,fun s v=>.of_eq rfl,fun base _ _ TB=>?_⟩
 have vU:l8 l.prog w K mg base 1 "begun" ["book"] bX:=az F0 g0 b0 (qQ (k:=0)  F0)
 have Ak:l8 l.prog w K mg base 1 "laps_on" ["laps","many"] dZ:=az F1 g1 b1 (om (k:=0)  F1)
 have zm:l8 l.prog w K mg base 1 "count_on" ["count","many"] dB:=az F2 g2 b2 (mR (k:=0) wg F2)
 have ul:l8 l.prog w K mg base 1 "alarm_tick" ["state"] aL:=az F3 g3 b3 (jL (k:=0) uf ub wH F3)
 have um:l8 l.prog w K mg base 1 "count_tick" ["state"] aN:=az F4 g4 b4 (jU (k:=0) p4 F4)
 have yu:l8 l.prog w K mg base 2 "last_ring" ["state","many"] cT:=az F5 g5 b5 (lK (k:=1) ul.m um.m wg wH F5)
 have Al:l8 l.prog w K mg base 3 "ring_on" ["state","many"] dU:=az F6 g6 b6 (oa (k:=2) yu.m wg yw xb F6)
 have Ai:l8 l.prog w K mg base 1 "held_on" ["held","many"] dX:=az F7 g7 b7 (nu (k:=0)  F7)
 have uw:l8 l.prog w K mg base 1 "ticks_to_back" ["book","state"] a_:=az F8 g8 b8 (gZ (k:=0) wg vK F8)
 have Aj:l8 l.prog w K mg base 2 "idle_on" ["book","state","many"] dW:=az F9 g9 b9 (ox (k:=1) uw.m n8 vK F9)
 have wn:l8 l.prog w K mg base 4 "counted" ["book","state","many"] cF:=az F10 g10 b10 (nq (k:=3) zm.m Ai.m Aj.m Ak.m Al.m uf ub p4 wH n8 vh uT F10)
 have yy:l8 l.prog w K mg base 1 "goes_back" ["book","state"] cO:=az F11 g11 b11 (lF (k:=0) uT F11)
 have v9:l8 l.prog w K mg base 1 "ticks_to_long" ["book","state"] bD:=az F12 g12 b12 (gU (k:=0) wg n8 F12)
 have vw:l8 l.prog w K mg base 2 "turn_tick" ["book","state"] bK:=az F13 g13 b13 (lB (k:=1) yy.m uw.m v9.m n8 F13)
 have n6:l8 l.prog w K mg base 1 "put" ["state","place","part"] aG:=az F14 g14 b14 (tj (k:=0)  F14)
 have An:l8 l.prog w K mg base 1 "nothing" ["state"] db:=az F15 g15 b15 (nY (k:=0)  F15)
 have Am:l8 l.prog w K mg base 2 "hour_on" ["state"] dg:=az F16 g16 b16 (nO (k:=1) n6.m ub F16)
 have yA:l8 l.prog w K mg base 2 "minute_on" ["state"] cb:=az F17 g17 b17 (lR (k:=1) n6.m ub F17)
 have Ao:l8 l.prog w K mg base 2 "to_zero" ["state"] de:=az F18 g18 b18 (nB (k:=1) n6.m ub F18)
 have v_:l8 l.prog w K mg base 2 "alarm_hour_on" ["state"] bj:=az F19 g19 b19 (hV (k:=1) n6.m uf F19)
 have vD:l8 l.prog w K mg base 2 "alarm_minute_on" ["state"] aY:=az F20 g20 b20 (gj (k:=1) n6.m uf F20)
 have wI:l8 l.prog w K mg base 2 "alarm_turned" ["state"] bx:=az F21 g21 b21 (iJ (k:=1) n6.m uf F21)
 have xc:l8 l.prog w K mg base 2 "laps_turned" ["state"] bF:=az F22 g22 b22 (jC (k:=1) n6.m vh F22)
 have zo:l8 l.prog w K mg base 2 "lap_kept" ["state"] dm:=az F23 g23 b23 (mv (k:=1) n6.m ve vh yz F23)
 have vC:l8 l.prog w K mg base 2 "set_to" ["state","minute","second"] bU:=az F24 g24 b24 (pC (k:=1) n6.m p4 F24)
 have vE:l8 l.prog w K mg base 3 "count_minute_on" ["state"] aX:=az F25 g25 b25 (gt (k:=2) vC.m p4 F25)
 have vF:l8 l.prog w K mg base 3 "count_second_on" ["state"] aZ:=az F26 g26 b26 (gn (k:=2) vC.m p4 F26)
 have BH:l8 l.prog w K mg base 3 "filled" ["state"] d_:=az F27 g27 b27 (pk (k:=2) vC.m p4 F27)
 have wJ:l8 l.prog w K mg base 2 "count_turned" ["state"] bP:=az F28 g28 b28 (iC (k:=1) n6.m p4 F28)
 have DG:D0 l.prog w K mg base 3 "STEPS" yP:=⟨BS,_,D_STEPS,fun h X=>me _ r_STEPS (show List.Nodup [oS "none",oS "hour",oS "minute",oS "zero",oS "ahour",oS "aminute",oS "alarm",oS "run",oS "lap",oS "cminute",oS "csecond",oS "full",oS "count"] from by decide +kernel) h X,(.cons (uS An.m g15) (.cons (uS Am.m g16) (.cons (uS yA.m g17) (.cons (uS Ao.m g18) (.cons (uS v_.m g19) (.cons (uS vD.m g20) (.cons (uS wI.m g21) (.cons (uS xc.m g22) (.cons (uS zo.m g23) (.cons (uS vE.m g25) (.cons (uS vF.m g26) (.cons (uS BH.m g27) (.cons (uS wJ.m g28) .nil)))))))))))))⟩
 have uX:l8 l.prog w K mg base 4 "press_done" ["book","state","press"] bB:=az F29 g29 b29 (j8 (k:=3) v_.m vD.m wI.m vE.m vF.m wJ.m BH.m Am.m zo.m xc.m yA.m An.m n6.m Ao.m uT s_PRESSES DG F29)
 have BJ:l8 l.prog w K mg base 5 "turned" ["book","state"] fU:=az F30 g30 b30 (pw (k:=4) uX.m n6.m n8 uT F30)
 have xf:l8 l.prog w K mg base 6 "behind_turn" ["book","state"] bG:=az F31 g31 b31 (jd (k:=5) wn.m vw.m BJ.m F31)
 have uy:l8 l.prog w K mg base 7 "stretches" ["book","state","many"] aK:=az F32 g32 b32 (kD (k:=6) xf.m vw.m F32)
 have BM:l8 l.prog w K mg base 8 "ticked" ["book","state","many"] fS:=az F33 g33 b33 (pR (k:=7) wn.m uy.m F33)
 have BL:l8 l.prog w K mg base 2 "pushed" ["state","button"] fP:=az F34 g34 b34 (pS (k:=1) n6.m n8 vK xb F34)
 have uY:l8 l.prog w K mg base 1 "is_holding" ["state","button"] bz:=az F35 g35 b35 (jS (k:=0) n8 F35)
 have vL:l8 l.prog w K mg base 2 "is_short" ["state","button"] bL:=az F36 g36 b36 (ni (k:=1) uY.m n8 F36)
 have BK:l8 l.prog w K mg base 5 "let_go" ["book","state","button"] fL:=az F37 g37 b37 (pF (k:=4) uY.m vL.m uX.m n6.m n8 vK F37)
 have xJ:l8 l.prog w K mg base 9 "gone" ["book","state","event"] di:=az F38 g38 b38 (rR (k:=8) BK.m BL.m BM.m F38)
 have DJ:l8 l.prog w K mg base 10 "after" ["book","state","row"] gS:=az F39 g39 b39 (qj (k:=9) xJ.m F39)
 have xK:l8 l.prog w K mg base 2 "ring_ticks" ["state","many"] bp:=az F40 g40 b40 (j4 (k:=1) ul.m um.m FF vT Ji BN wH F40)
 have yB:l8 l.prog w K mg base 1 "turn_sign" ["state"] cP:=az F41 g41 b41 (lE (k:=0) n8 F41)
 have vG:l8 l.prog w K mg base 8 "tick_happenings" ["book","state","many"] bq:=az F42 g42 b42 (gk (k:=7) xK.m uy.m yB.m F42)
 have xM:l8 l.prog w K mg base 9 "happenings" ["book","state","event"] ba:=az F43 g43 b43 (jN (k:=8) vL.m vG.m F43)
 have DK:l8 l.prog w K mg base 10 "story" ["book","row"] dE:=az F44 g44 b44 (qH (k:=9) vU.m xJ.m xM.m yQ F44)
 have wK:l8 l.prog w K mg base 1 "_law_cell_at" ["_law_script","_law_k"] bQ:=az F45 g45 b45 (iI (k:=0) ve F45)
 have uJ:l8 l.prog w K mg base 2 "_law_mixed" ["_law_script","_law_k"] aJ:=az F46 g46 b46 (ki (k:=1) wK.m F46)
 have uI:l8 l.prog w K mg base 1 "_law_drawn" ["_law_number","_law_k"] aT:=az F47 g47 b47 (j_ (k:=0)  F47)
 have yE:l8 l.prog w K mg base 2 "_law_book" ["_law_number"] cM:=az F48 g48 b48 (kG (k:=1) uI.m vT F48)
 have xS:l8 l.prog w K mg base 1 "_law_event" ["_law_number"] cz:=az F49 g49 b49 (jV (k:=0)  F49)
 have xT:l8 l.prog w K mg base 1 "_law_ready" ["_law_book_here","_law_number"] cu:=az F50 g50 b50 (kf (k:=0) ve F50)
 have wo:l8 l.prog w K mg base 1 "figures" ["number"] cK:=az F51 g51 b51 (nG (k:=0) zp CV DH F51)
 have t_:l8 l.prog w K mg base 2 "two_figures" ["number"] aM:=az F52 g52 b52 (jm (k:=1) wo.m F52)
 have vy:l8 l.prog w K mg base 3 "hour_text" ["hour","minute"] bM:=az F53 g53 b53 (lz (k:=2) t_.m F53)
 have yD:l8 l.prog w K mg base 4 "time_text" ["state"] cN:=az F54 g54 b54 (kY (k:=3) vy.m t_.m ub F54)
 have xN:l8 l.prog w K mg base 4 "alarm_text" ["state"] cg:=az F55 g55 b55 (jW (k:=3) vy.m uf F55)
 have uN:l8 l.prog w K mg base 3 "minute_text" ["seconds"] bu:=az F56 g56 b56 (jt (k:=2) wo.m t_.m F56)
 have yC:l8 l.prog w K mg base 4 "laps_text" ["state"] cS:=az F57 g57 b57 (lO (k:=3) uN.m ve CV vh F57)
 have xO:l8 l.prog w K mg base 4 "count_text" ["state"] ci:=az F58 g58 b58 (j6 (k:=3) uN.m p4 F58)
 have xP:D0 l.prog w K mg base 4 "FACE_TEXTS" vA:=⟨xh,_,D_FACE_TEXTS,fun h X=>me _ r_FACE_TEXTS (show List.Nodup [oS "time",oS "alarm",oS "laps",oS "count"] from by decide +kernel) h X,(.cons (uS yD.m g54) (.cons (uS xN.m g55) (.cons (uS yC.m g57) (.cons (uS xO.m g58) .nil))))⟩
 have GE:=qY (P:=l.prog) (w:=w) (base:=base) (k:=4) xN.m xO.m yC.m yD.m uT xb xP F59
 have PP:l8 l.prog w K mg base 5 "shown" ["book","state"] dC:=az F59 g59 b59 GE
 have uO:l8 l.prog w K mg base 5 "shown_going" ["book","state"] dC:=⟨_,_,GE,ga_shown_going,F59.kp,b59⟩
 have xQ:l8 l.prog w K mg base 2 "ring_count" ["state","many"] bg:=az F60 g60 b60 (ke (k:=1) ul.m um.m wH F60)
 have vM:l8 l.prog w K mg base 8 "how_many_rings" ["book","state","many"] bw:=az F61 g61 b61 (gQ (k:=7) xQ.m uy.m Jj F61)
 have zq:l8 l.prog w K mg base 9 "rings_by" ["book","state","event"] cH:=az F62 g62 b62 (mK (k:=8) vM.m F62)
 have vH:yW l.prog w K mg base 10 C "happen" ["self","event"] (aQ C):=⟨_,_,iE (k:=9) xJ.m zq.m cl xg uU n4 uV F63,M63,b63⟩
 have FG:yW l.prog w K mg base 11 C "down" ["self","button"] (br C):=⟨_,_,jQ (k:=10) cl vH.m F64,M64,b64⟩
 have DI:yW l.prog w K mg base 11 C "ticks" ["self","many"] (bW C):=⟨_,_,jb (k:=10) cl vH.m F65,M65,b65⟩
 have Nq:yW l.prog w K mg base 11 C "up" ["self","button"] (bZ C):=⟨_,_,mU (k:=10) cl vH.m F66,M66,b66⟩
 have yR:EW l.prog w K mg base 12 "_law_do" ["_law_watch","_law_event_here"] 0 (bH C):=⟨_,_,nU (k:=11) cl FG.m DI.m Nq.m F67,g67,F67.kp,b67⟩
 have DL:AB l.prog w K mg base 1 C "rang" ["self"] (bR C):=⟨_,_,jX (k:=0) cl uV F68,M68,b68⟩
 have GD:AB l.prog w K mg base 1 C "row" ["self"] (bN C):=⟨_,_,kH (k:=0) yQ cl uU F69,M69,b69⟩
 have DM:AB l.prog w K mg base 6 C "shown" ["self"] (bV C):=⟨_,_,jF (k:=5) uO.m cl xg n4 F70,M70,b70⟩
 have AT:AB l.prog w K mg base 1 C "state" ["self"] (bE C):=⟨_,_,jE (k:=0) cl n4 F71,M71,b71⟩
 have QS:yW l.prog w K mg base 1 C "undo" ["self"] (eU C):=⟨_,_,kg (k:=0) ve cl uU n4 uV F72,M72,b72⟩
 have MX_undo:E4 (L9 eA eB) l.prog w K mg base 1 C "undo" ["self"] (m6 C):=⟨_,_,Bd (k:=0) EK ve cl uU n4 uV F72,M72,b72⟩
 have FI:=gH (P:=l.prog) (w:=w) (base:=base) (k:=1) vU.m cl xg uU n4 uV F73
 have yF:yG l.prog w K mg base (L9 eA eB) 3 2 "_law_told" ["_law_deed"] ud:=⟨_,_,lx (k:=2) xR uz EK F74,g74,F74.kp,b74⟩
 exact Mg ((tm yE.m uI.m xS.m uJ.m xT.m DJ.m vU.m DK.m FH Jk uz ve vT uO.m cl DL.m GD.m DM.m AT.m yF.m MX_undo yR.m ⟨mkC,M73.at_,M73.fn,kc⟩ FI b73 mgW (by decide) rfl TB F75).imp (JQ (IF C)))
theorem walk {l:W.OpenLaw} {q:R9} {loose:List Str} {XP:(Str->RT RU)->Sq->Prop} {YP:Sk->Sq->Prop} {d:DefRec} {K:Params->RW} (hn:l.most=some 63) (hdf:d.params.defaults=[])
    (hY:∀(w:Sk) (h:Sq),YP w h->(K w.params).In h)
    (F:∀(w:Sk) (mg:Str->RT RU) (fa:RY) (h:Sq),(K w.params).In h->h.Ns mainGlobals mg->mg d.name=some (.ref fa) ->
      ∃(ts:List wl) (fd:SV),(∀t∈ts,(K w.params).lookup t.P=none/\∃y d',(recsOf q).find? (fun e=>e.name==y)=some d'/\W.tabIn (K w.params) y=some (t.c,t.P))/\(∀(s:RX) (u:RU),BindsTo s fd ⟨[u],[]⟩ [("_law_script",u)])/\∀base:Sq,(K w.params).In base->base.Ns mainGlobals mg->vN mg ts base->k6 l.prog w (K w.params) mg base ue 13 fa fd ["_law_script"] (Pc (K w.params) g_ ts)) :
    W.WalkO q loose XP YP l.row.toRowW d [] (fun f vs=>PySem.call f vs):=
  Ir (n:=63) (k:=13) (x:="_law_script") (CX:=fun _=>ue) (sp:=fun w ts=>Pc (K w.params) g_ ts) hn (by decide) hdf ⟨rfl,by decide,by decide,rfl⟩ hY F (fun w ts H a ns hl hO hP hS=>MH hO hP ⟨[.fro (ns.map .int)],.bl true,i5.one ⟨a,ns.map V.int,rfl,hS,CU _ _ ns⟩,HR ns hl,fun v H' _ hv=>hv⟩) fun _ _ _ _ _ z=>z
end HW
namespace PySem.W.Fast
theorem tw8215142031176062352:True:=⟨⟩
theorem tw175860194034858631:True:=⟨⟩
theorem tw8013201792578266095:True:=⟨⟩
theorem tw17231677163517747585:True:=⟨⟩
theorem tw17458937385911312692:True:=⟨⟩
theorem tw13129671001510982385:True:=⟨⟩
theorem tw3735087010565978984:True:=⟨⟩
theorem tw14765401338533739774:True:=⟨⟩
theorem tw18152219689924191768:True:=⟨⟩
theorem tw2411212202753408190:True:=⟨⟩
theorem tw6162218524455421192:True:=⟨⟩
theorem tw222797777773008689:True:=⟨⟩
theorem tw1465724124225717970:True:=⟨⟩
theorem tw15820936949240071337:True:=⟨⟩
theorem tw13927866027980571747:True:=⟨⟩
theorem tw17509878433521772911:True:=⟨⟩
theorem tw15934453996404490516:True:=⟨⟩
theorem tw16111771544149844275:True:=⟨⟩
theorem tw12555845882354414242:True:=⟨⟩
theorem tw5962465228481569879:True:=⟨⟩
theorem tw8219545303071399071:True:=⟨⟩
theorem tw5794720868449430102:True:=⟨⟩
theorem tw7782497134274829708:True:=⟨⟩
theorem tw11902078662577531884:True:=⟨⟩
theorem tw13067008540260299160:True:=⟨⟩
theorem tw16257015023500525997:True:=⟨⟩
theorem tw12189645709004485864:True:=⟨⟩
theorem tw1452338201993701184:True:=⟨⟩
theorem tw17971024813213539092:True:=⟨⟩
theorem tw444426059861679132:True:=⟨⟩
theorem tw6054259989162236692:True:=⟨⟩
theorem tw12479961634279999162:True:=⟨⟩
theorem tw4153654191547125387:True:=⟨⟩
theorem tw11807617448625598655:True:=⟨⟩
theorem tw6132011031188772824:True:=⟨⟩
theorem tw11015328042935631899:True:=⟨⟩
theorem tw11496282228923748216:True:=⟨⟩
theorem tw13619969044697252652:True:=⟨⟩
theorem tw7880176645277509244:True:=⟨⟩
theorem tw10176873877618056958:True:=⟨⟩
theorem tw5355982488237016:True:=⟨⟩
theorem tw17336392491081592865:True:=⟨⟩
theorem tw3826885384398471777:True:=⟨⟩
theorem tw17770205553178763939:True:=⟨⟩
theorem tw17583700641789380547:True:=⟨⟩
theorem tw18268780871409290277:True:=⟨⟩
theorem tw338168435655927655:True:=⟨⟩
theorem tw17415466274789183848:True:=⟨⟩
theorem tw10971992819539251784:True:=⟨⟩
theorem tw17166362580427902633:True:=⟨⟩
theorem tw967742403832384233:True:=⟨⟩
theorem tw17167063849202868011:True:=⟨⟩
theorem tw9764432775588530925:True:=⟨⟩
theorem tw667601632749320175:True:=⟨⟩
theorem tw13752368448130315697:True:=⟨⟩
theorem tw18043295952373622193:True:=⟨⟩
theorem tw9512855720760030610:True:=⟨⟩
theorem tw17506691319105020756:True:=⟨⟩
theorem tw17420271238132933045:True:=⟨⟩
theorem tw9664663068367617782:True:=⟨⟩
theorem tw11075786266695961015:True:=⟨⟩
theorem tw11148420569302216952:True:=⟨⟩
theorem tw3703938113714261624:True:=⟨⟩
theorem tw3523872813238323000:True:=⟨⟩
theorem tw2082617415134677561:True:=⟨⟩
theorem tw6855340440080456698:True:=⟨⟩
theorem tw5732926945036495579:True:=⟨⟩
theorem tw1782330715936237788:True:=⟨⟩
theorem tw1331793757426028798:True:=⟨⟩
noncomputable def tw17778914808766602975:=PySem.Challenge.pw_handwatch_k60_whole_watches
theorem te17778914808766602975:PySem.Challenge.pw_handwatch_k60_whole_watches=tw17778914808766602975:=rfl
end PySem.W.Fast
open PySem PySem.W PyProof.Rows
set_option maxRecDepth 100000 in
set_option maxHeartbeats 0 in
theorem PySem.Challenge.cw_handwatch_k60_whole_watches_holds : PySem.Challenge.rw_handwatch_k60_whole_watches.Holds := by
 w_on;o_law;k_head;(case hw=>w_witness2)
 k_fill
 refine HW.walk (l:=PySem.Challenge.rw_handwatch_k60_whole_watches) rfl rfl (fun w h Y=>PySem.W.km_in_of Y) ?F
 case F =>
  intro w mg fa h KX G hmg
  refine' HW.all_mk KX G hmg ?_ ?_ ?_ ?_ ?_ ?_ ?_ ?_ ?_ ?_ ?_ ?_ ?_ ?_ ?_ ?_ ?_ ?_ ?_ ?_ ?_ ?_ ?_ ?_ ?_ ?_ ?_ ?_ ?_ ?_ ?_ ?_ ?_ ?_ ?_ ?_ ?_ ?_ ?_ ?_ ?_ ?_ ?_ ?_ ?_ ?_ ?_ ?_ ?_ ?_ ?_ ?_ ?_ ?_ ?_ ?_ ?_ ?_ ?_ ?_ ?_ ?_ ?_ ?_ ?_ ?_ ?_ ?_ ?_ ?_ ?_ ?_ ?_ ?_ ?_ ?_ ?_ ?_ ?_ ?_ ?_ ?_ ?_ ?_ ?_ ?_ ?_ ?_ ?_ ?_ ?_ ?_ ?_ ?_ ?_ ?_ ?_ ?_ ?_ ?_ ?_ ?_ ?_ ?_ ?_ ?_ ?_ ?_ ?_ ?_ ?_ ?_ ?_ ?_ ?_ ?_ ?_ ?_ ?_ ?_ ?_ ?_ ?_ ?_ ?_ ?_ ?_ ?_ ?_ ?_ ?_
  all_goals try first | k_is | (refine' HW.fn4_mk ?_ ?_ ?_ ?_<;>try k_is) | (refine' HW.fn5_mk ?_ ?_ ?_ ?_ ?_<;>try k_is) | (refine' HW.errp_mk ?_ ?_ ?_ ?_ ?_ ?_ ?_ ?_ ?_ ?_ ?_ ?_ ?_ ?_ ?_ ?_ ?_ ?_ ?_ ?_ ?_ ?_ ?_ ?_ ?_ ?_ ?_ ?_<;>try first | k_is | k_exc | rfl | kernel_rfl) | rfl | kernel_rfl | exact⟨_,rfl⟩
