import PyProof.Rows.All
import Wide.All
import OpenK.AllK
import Wide.FinOn
import Lean
import PyProof.EqAt
import PyProof.EqKinds
import PyProof.TupleCall
import PySem.Str
import PySem.Sem
import PyProof.StrWalks
import PyProof.ReprReads
import PyProof.ReprRoads
import PyProof.NeData
import PyProof.WalkInts
import PyProof.Rows.RegStrFacts
import PyProof.StrBlockI
import KE.IntText
import KE.KRevIter
import PyProof.StrBlock2
import KE.KIntText
import PyProof.Rows.Range3
import PyProof.ZipIter
import PyProof.Draws
import PyProof.IsRules
import PySem.SetOps
import PyProof.SetKind
import PyProof.DictStraight
import KE.KDictSum
import PyProof.Rows.SetFrom
import PyProof.Rows.SortShell
import PyProof.ListRange
import PyProof.Rows.FactsT2
import PyProof.Rows.FactsT3
import PySem.Builtin.Str.Common
import PyProof.StrCalls
import PyProof.SumWalk
import KE.KLam
import PyProof.StrLawsIn
import PyProof.FitsReplace
import PyProof.ReprLen
import PySem.Challenge.RW_handwatch_k60_whole_watches
macro "~"t:term:tactic=>`(tactic|exact $t)
macro "&"t:term:tactic=>`(tactic|refine $t)
open Lean.Parser.Tactic in
macro "!"p:rcasesPatMed":="t:term:tactic=>`(tactic|obtain $p:rcasesPatMed := $t)
set_option Elab.async false
noncomputable section
set_option linter.all false
set_option maxRecDepth 100000
namespace L2
open PySem PySem.Spec PyProof.Rows
abbrev Key:=Sum Int Str
noncomputable def Lf:Key->Value->Bool
 | .inl k,v=>Value.isInt k v
 | .inr x,v=>Value.isStrOf x v
def QL(w:World):Key->Int
 | .inl k=>hashInt k
 | .inr x=>hashStr w x
theorem ux:∀{k:Key} {v:Value},Lf k v=true->(∃i t,k=Sum.inl i/\v=Value.int i t)\/(∃x t,k=Sum.inr x/\v=Value.str x t)
 | .inl i,v,h=>by
  !⟨t,e⟩:=Value.isInt_shape (k:=i) (v:=v) h
  ~.inl ⟨i,t,rfl,e⟩
 | .inr x,v,h=>by
  !⟨t,e⟩:=Value.isStrOf_shape (x:=x) (v:=v) h
  ~.inr ⟨x,t,rfl,e⟩
theorem L9(a b:Int):decide ((Sum.inl a:Key)=Sum.inl b)=(a==b):=by
 by_cases e:a=b
 ·subst e;simp
 ·have h:¬ (Sum.inl a:Key)=Sum.inl b:=fun q=>e (Sum.inl.inj q)
  rw[decide_eq_false h]
  ~(beq_eq_false_iff_ne.mpr e).symm
theorem M5(a b:Str):decide ((Sum.inr a:Key)=Sum.inr b)=decide (a=b):=by
 by_cases e:a=b
 ·subst e;simp
 ·have h:¬ (Sum.inr a:Key)=Sum.inr b:=fun q=>e (Sum.inr.inj q)
  rw[decide_eq_false h,decide_eq_false e]
theorem Na(a:Int)(b:Str):decide ((Sum.inl a:Key)=Sum.inr b)=false:=decide_eq_false (fun q=>nomatch q)
theorem Nn(a:Str)(b:Int):decide ((Sum.inr a:Key)=Sum.inl b)=false:=decide_eq_false (fun q=>nomatch q)
def AH(prog:Program)(w:World):PySem.KeyKind prog w Key where
 is:=Lf
 hash:=QL w
 inj:=fun v a b ha hb=>by
  rcases ux ha with ⟨i,t,rfl,rfl⟩ | ⟨x,t,rfl,rfl⟩
  ·rcases ux hb with ⟨j,u,rfl,e⟩ | ⟨y,u,rfl,e⟩
   ·injection e with e1 _;rw[e1]
   ·~nomatch e
  ·rcases ux hb with ⟨j,u,rfl,e⟩ | ⟨y,u,rfl,e⟩
   ·~nomatch e
   ·injection e with e1 _;rw[e1]
 byValue:=fun k v h=>by
  rcases ux h with ⟨i,t,rfl,rfl⟩ | ⟨x,t,rfl,rfl⟩<;>rfl
 pyHash:=fun hv h=>by
  rcases ux hv with ⟨i,t,rfl,rfl⟩ | ⟨x,t,rfl,rfl⟩
  ·~wpAny_pyHash_int h
  ·~wpAny_pyHash_str h
 eqBool:=fun hu hv h=>by
  rcases ux hu with ⟨i,t,rfl,rfl⟩ | ⟨x,t,rfl,rfl⟩
  ·rcases ux hv with ⟨j,u,rfl,rfl⟩ | ⟨y,u,rfl,rfl⟩
   ·rw[L9] at h;~wpAny_eqBool_int h
   ·rw[Na] at h;~SeqAt.EqAt.int_str i t y u _ _ _ _ h
  ·rcases ux hv with ⟨j,u,rfl,rfl⟩ | ⟨y,u,rfl,rfl⟩
   ·rw[Nn] at h;~SeqAt.EqAt.str_int x t j u _ _ _ _ h
   ·rw[M5] at h;~wpAny_eqBool_str h
 «strs»:=fun k x t v h=>by
  rcases ux h with ⟨i,u,rfl,e⟩ | ⟨y,u,rfl,e⟩
  ·~nomatch e
  ·injection e with e1 _
   subst e1
   cases v<;>rfl
end L2
namespace L2
open PySem PySem.Spec PyProof.Rows
inductive V where
 | non | bl (b:Bool) | int (i:Int) | str (x:Str) | byt (b:Array UInt8) | flt (b:UInt64) | ref (a:Addr) | ty (n:String)
 deriving DecidableEq
def RelV:V->Value->Prop
 | .non,u=>u=Value.none
 | .bl b,u=>u=Value.bool b
 | .int i,u=>∃t,u=Value.int i t
 | .str x,u=>∃t,u=Value.str x t
 | .byt b,u=>∃t,u=Value.bytes b t
 | .flt b,u=>∃t,u=Value.float b t
 | .ref a,u=>u=Value.ref a
 | .ty n,u=>u=Value.type n
abbrev l6:List V->List Value->Prop:=Paired RelV
theorem l6.length{xs:List V}{us:List Value}(r:l6 xs us):xs.length=us.length:=Paired.length r
theorem l6.get:∀{xs:List V} {us:List Value} {i:Nat} {x:V},l6 xs us->xs[i]?=some x->∃u,us[i]?=some u/\RelV x u
 | _,_,_,_,.nil,e=>by simp at e
 | _,_,0,_,.cons r _,e=>by simp at e;subst e;~⟨_,rfl,r⟩
 | _,_,i+1,x,.cons _ t,e=>by
  !⟨u,h1,h2⟩:=l6.get (i:=i) (x:=x) t (by simpa using e)
  ~⟨u,by simpa using h1,h2⟩
theorem l6.set{x:V}{u:Value}(r:RelV x u):∀{xs:List V} {us:List Value} (i:Nat),l6 xs us->l6 (xs.set i x) (us.set i u)
 | _,_,_,.nil=>.nil
 | _,_,0,.cons _ t=>.cons r t
 | _,_,i+1,.cons q t=>.cons q (l6.set r i t)
theorem l6.append:∀{xs ys:List V} {us ws:List Value},l6 xs us->l6 ys ws->l6 (xs++ys) (us++ws)
 | _,_,_,_,.nil,s=>s
 | _,_,_,_,.cons r t,s=>.cons r (l6.append t s)
theorem l6.take:∀{xs:List V} {us:List Value} (n:Nat),l6 xs us->l6 (xs.take n) (us.take n)
 | _,_,0,_=>.nil
 | _,_,_+1,.nil=>.nil
 | _,_,n+1,.cons r t=>.cons r (l6.take n t)
theorem l6.drop:∀{xs:List V} {us:List Value} (n:Nat),l6 xs us->l6 (xs.drop n) (us.drop n)
 | _,_,0,r=>r
 | _,_,_+1,.nil=>.nil
 | _,_,n+1,.cons _ t=>l6.drop n t
theorem l6.none_of:∀{xs:List V} {us:List Value} {i:Nat},l6 xs us->xs[i]?=none->us[i]?=none:=fun {xs us i} r e=>by
 have h1:=r.length
 have h2:xs.length<=i:=List.getElem?_eq_none_iff.mp e
 ~List.getElem?_eq_none_iff.mpr (by omega)
def yU:Option V->Option Value->Prop
 | some v,some u=>RelV v u
 | none,none=>True
 | _,_=>False
def KV{κ:Type}:List (κ×V)->List (κ×Value)->Prop:=Paired fun (p:κ×V) (q:κ×Value)=>p.1=q.1/\RelV p.2 q.2
def kV:Key->V
 | .inl i=>.int i
 | .inr x=>.str x
inductive HO where
 | lst (xs:List V)
 | tup (xs:List V)
 | dK (kvs:List (Key×V)) | dT (kvs:List (List Key×V))
 | set (S:Int->Bool) (n:Nat)
 | ins (C dx:Addr) (fs:List (Str×V))
 | own (x:Addr)
 | xd (fs:List (Str×V))
 | met (f x:Addr)
 | rng (lo hi:Int)
 | frz (o:Obj) (u:HO)
 | tbl (q:Str) (c:Bool)
 | ext (φ:Heap->Prop)
abbrev Hp:=Addr->Option HO
def upd(H:Hp)(a:Addr)(o:HO):Hp:=fun b=>if b=a then some o else H b
theorem au{H:Hp}{a:Addr}{o:HO}:upd H a o a=some o:=by unfold upd;rw[if_pos rfl]
theorem aq{H:Hp}{a b:Addr}{o:HO}(h:b≠a):upd H a o b=H b:=by unfold upd;rw[if_neg h]
theorem uB{H:Hp}{a b:Addr}{o:HO}(h:H a=some o)(h':H b=none):a≠b:=by
 intro e;subst e;rw[h] at h';cases h'
def w9(h:Heap)(a:Addr)(its:Array Value):Prop:=∃o,h.get? a=some o/\o.cls=.type "tuple" /\ (∃n,o.data=.seq its n)/\o.dict=none
theorem w9.is{h:Heap}{a:Addr}{its:Array Value}(x:w9 h a its):IsTup h a its:=by!⟨o,e,c,d,_⟩:=x;~⟨o,e,c,d⟩
theorem w9.lt{h:Heap}{a:Addr}{its:Array Value}(x:w9 h a its):a<h.objs.size:=x.is.lt
theorem w9.new(h:Heap)(its:Array Value):w9 (h.push {cls:=.type "tuple",data:=.seq its}) h.objs.size its:=⟨_,Heap.get?_push_size _ rfl,rfl,⟨_,rfl⟩,rfl⟩
section
variable(P:Program)(w:World)
def vv(H:Hp)(h:Heap)(a:Addr):HO->Prop
 | .lst xs=>xs.length<=sizeLine/\∃(its:List Value) (n:Nat),l6 xs its/\h.get? a=some {cls:=.type "list",data:=.seq its.toArray n}
 | .tup xs=>xs.length<=sizeLine/\∃its:List Value,l6 xs its/\w9 h a its.toArray
 | .dK kvs=>kvs.length<=sizeLine/\(a==sysModules)=false/\∃vs,KV kvs vs/\h.DictOf (AH P w) a vs
 | .dT kvs=>kvs.length<=sizeLine/\(a==sysModules)=false/\∃xs:List (List Key×Addr×Value),
   Paired (fun (p:List Key×V) (q:List Key×Addr×Value)=>p.1=q.1/\H q.2.1=some (.tup (p.1.map kV))/\RelV p.2 q.2.2) kvs xs /\
   ∃o es ep,h.get? a=some o/\o.ExactDict/\o.data=.dict es ep/\es.toList=xs.map (entryOfKey (tupleKind (AH P w)))/\(xs.map (·.1)).Nodup
 | .set S n=>h.SetOf (intKind P w) a S n
 | .ins C dx fs=>H dx=some (.own a)/\fs.length<=1000/\dx≠a/\h.get? a=some (PySem.W.instObj C dx) /\
   ∃mA,h.Ns1 dx mA/\(∀f,yU (fs.lookup f) (mA f))/\PySem.Within mA (fs.map (·.1))
 | .own _=>∃o,h.get? a=some o
 | .xd fs=>∃mA,h.Ns1 a mA/\∀f,yU (fs.lookup f) (mA f)
 | .rng lo hi=>∃t u v,h.get? a=some {cls:=.type "range",data:=.fields #[.int lo t,.int hi u,.int 1 v]}
 | .frz o u=>h.get? a=some o/\vv H h a u
 | .tbl q true=>h.CodeRec (.ref a) q
 | .tbl q false=>∃ts:Array Value,h.get? a=some {cls:=.none,data:=.fields ts}/\TriplesOk ts.toList/\∀(pos:Pos) (cv:Value),codeAmong pos ts.toList=some cv->∃c,cv=.ref c/\H c=some (.tbl q true)
 | .met f x=>h.get? a=some (PySem.W.methodObj (.ref f) (.ref x))
 | .ext φ=>φ h/\(∃o,h.get? a=some o)/\∀h1 h2:Heap,φ h1->(∀o,h1.get? a=some o->h2.get? a=some o)->φ h2
def y4(H:Hp)(h:Heap):Prop:=∀a o,H a=some o->vv P w H h a o
end
section
variable{P:Program}{w:World}{H H':Hp}{h h':Heap}{a:Addr}{o:HO}
theorem vv.lt(x:vv P w H h a o):a<h.objs.size:=by
 cases o with
 | lst xs=>!⟨_,_,_,_,e⟩:=x;~Heap.lt_size e
 | tup xs=>!⟨_,_,_,p⟩:=x;~p.lt
 | dK kvs=>!⟨_,_,_,_,o,_,_,e,_⟩:=x;~Heap.lt_size e
 | dT kvs=>!⟨_,_,_,_,o,_,_,e,_⟩:=x;~Heap.lt_size e
 | set S n=>!⟨o,_,_,_,e,_⟩:=x;~Heap.lt_size e
 | ins C dx fs=>!⟨_,_,_,e,_⟩:=x;~Heap.lt_size e
 | own y=>!⟨_,e⟩:=x;~Heap.lt_size e
 | xd fs=>!⟨_,⟨_,_,_,e,_⟩,_⟩:=x;~Heap.lt_size e
 | rng lo hi=>!⟨_,_,_,e⟩:=x;~Heap.lt_size e
 | frz ob u=>!⟨e,_⟩:=x;~Heap.lt_size e
 | tbl q c =>
  cases c with
  | true=>!⟨_,o,_,_,e,g,_⟩:=(show h.CodeRec (.ref a) q from x);cases e;~Heap.lt_size g
  | false=>!⟨_,e,_⟩:=x;~Heap.lt_size e
 | met f y=>~Heap.lt_size (show h.get? a=some _ from x)
 | ext φ=>!⟨_,⟨_,e⟩,_⟩:=x;~Heap.lt_size e
theorem Paired.mapP{α β:Type}{F G:α->β->Prop}:∀{l₁:List α} {l₂:List β},Paired F l₁ l₂->(∀a b,F a b->G a b)->Paired G l₁ l₂
 | _,_,.nil,_=>.nil
 | _,_,.cons r t,f=>.cons (f _ _ r) (Paired.mapP t f)
theorem vv.stay(x:vv P w H h a o)(k:∀b u,(b=a\/H b=some (.own a))->h.get? b=some u->h'.get? b=some u)
  (ho:∀b,H b=some (.own a)->H' b=some (.own a)) (ht:∀b xs,H b=some (.tup xs)->H' b=some (.tup xs)) (hc:∀b q c,H b=some (.tbl q c)->H' b=some (.tbl q c)):vv P w H' h' a o:=by
 induction o with
 | lst xs=>!⟨z,its,n,r,e⟩:=x;~⟨z,its,n,r,k _ _ (.inl rfl) e⟩
 | tup xs=>!⟨z,its,r,ob,e,c⟩:=x;~⟨z,its,r,ob,k _ _ (.inl rfl) e,c⟩
 | dK kvs=>!⟨z,y,vs,r,ob,es,ep,e,c⟩:=x;~⟨z,y,vs,r,ob,es,ep,k _ _ (.inl rfl) e,c⟩
 | dT kvs =>
  !⟨z,y,xs,r,ob,es,ep,e,c⟩:=x
  ~⟨z,y,xs,Paired.mapP r fun p q z=>⟨z.1,ht _ _ z.2.1,z.2.2⟩,ob,es,ep,k _ _ (.inl rfl) e,c⟩
 | set S n=>!⟨ob,es,ep,t,e,c⟩:=x;~⟨ob,es,ep,t,k _ _ (.inl rfl) e,c⟩
 | ins C dx fs =>
  !⟨d,z,ne,e,mA,⟨od,es,ep,e2,c⟩,r⟩:=x
  ~⟨ho _ d,z,ne,k _ _ (.inl rfl) e,mA,⟨od,es,ep,k _ _ (.inr d) e2,c⟩,r⟩
 | own y=>!⟨ob,e⟩:=x;~⟨ob,k _ _ (.inl rfl) e⟩
 | xd fs=>!⟨mA,⟨od,es,ep,e,c⟩,r⟩:=x;~⟨mA,⟨od,es,ep,k _ _ (.inl rfl) e,c⟩,r⟩
 | rng lo hi=>!⟨t,u,v,e⟩:=x;~⟨t,u,v,k _ _ (.inl rfl) e⟩
 | frz ob u ih=>!⟨e,q⟩:=x;~⟨k _ _ (.inl rfl) e,ih q⟩
 | tbl q c =>
  cases c with
  | true =>
   !⟨_,o,vs,t,e,g,r⟩:=(show h.CodeRec (.ref a) q from x)
   cases e
   ~⟨a,o,vs,t,rfl,k _ _ (.inl rfl) g,r⟩
  | false =>
   !⟨ts,e,t,r⟩:=x
   &⟨ts,k _ _ (.inl rfl) e,t,fun pos cv hcv=>?_⟩
   !⟨c,e1,e2⟩:=r pos cv hcv
   ~⟨c,e1,hc _ _ _ e2⟩
 | met f y =>
  have e:h.get? a=some (PySem.W.methodObj (.ref f) (.ref y)):=x
  show h'.get? a=some (PySem.W.methodObj (.ref f) (.ref y))
  ~k a _ (.inl rfl) e
 | ext φ=>!⟨p,⟨o,e⟩,st⟩:=x;~⟨st _ _ p fun o q=>k _ _ (.inl rfl) q,⟨o,k _ _ (.inl rfl) e⟩,st⟩
theorem y4.lt(x:y4 P w H h)(e:H a=some o):a<h.objs.size:=(x a o e).lt
theorem y4.fresh(x:y4 P w H h)(e:h.objs.size<=a):H a=none:=by
 cases q:H a with
 | none=>rfl
 | some u=>~absurd (Nat.lt_of_lt_of_le (x.lt q) e) (Nat.lt_irrefl _)
theorem y4.kept(x:y4 P w H h)(k:∀b u,h.get? b=some u->h'.get? b=some u):y4 P w H h':=fun a o e =>
 (x a o e).stay (fun b u _ q=>k b u q) (fun _ q=>q) (fun _ _ q=>q) fun _ _ _ q=>q
theorem y4.laid(x:y4 P w H h)(k:∀b u,h.get? b=some u->h'.get? b=some u)(hp:h.objs.size<=a)(new:vv P w (upd H a o) h' a o):y4 P w (upd H a o) h':=fun b u e=>by
 have hn:=x.fresh hp
 by_cases hb:b=a
 ·subst hb;rw[au] at e;cases e;~new
 ·rw[aq hb] at e
  ~(x b u e).stay (fun c v _ q=>k c v q) (fun c q=>by rw[aq (uB q hn)];~q) (fun c xs q=>by rw[aq (uB q hn)];~q) fun c _ _ q=>by rw[aq (uB q hn)];~q
end
def Rd(H:Hp)(a:Addr)(u:HO):Prop:=H a=some u\/∃o,H a=some (.frz o u)
theorem Rd.of{H:Hp}{a:Addr}{u:HO}(h:H a=some u):Rd H a u:=.inl h
theorem Rd.ok{P:Program}{w:World}{H:Hp}{h:Heap}{a:Addr}{u:HO}(r:Rd H a u)(x:y4 P w H h):vv P w H h a u:=by
 rcases r with r | ⟨o,r⟩
 ·~x a u r
 ·!⟨_,q⟩:=x a _ r
  ~q
def PB:Option HO->Prop
 | some (.lst _)=>True
 | some (.dK _)=>True
 | some (.dT _)=>True
 | some (.set _ _)=>True
 | some (.ins _ _ _)=>True
 | some (.ext _)=>True
 | some (.frz _ (.own _))=>True
 | _=>False
section
variable{P:Program}{w:World}{H:Hp}{h h':Heap}{x e:Addr}{o':HO}
theorem y4.write(ok:y4 P w H h)(mu:PB (H x))(he:e=x\/H e=some (.own x))(k:∀b u,b≠e->h.get? b=some u->h'.get? b=some u)(heo:∃u,h'.get? e=some u)
  (new:vv P w (upd H x o') h' x o'):y4 P w (upd H x o') h':=fun b u q=>by
 have nown:∀c y,H c=some (.own y)->c≠x:=fun c y r z=>by subst z;rw[r] at mu;~mu
 have ntup:∀c xs,H c=some (.tup xs)->c≠x:=fun c xs r z=>by subst z;rw[r] at mu;~mu
 by_cases hb:b=x
 ·subst hb;rw[au] at q;cases q;~new
 ·rw[aq hb] at q
  by_cases hbe:b=e
  ·have q':H b=some (.own x):=by
    rcases he with z | z
    ·~absurd (hbe.trans z) hb
    ·rw[hbe];~z
   rw[q] at q';cases q'
   !⟨v,hv⟩:=heo
   ~⟨v,by rw[hbe];~hv⟩
  ·&(ok b u q).stay (fun c v hc r=>k c v ?_ r) (fun c r=>by rw[aq (nown c b r)];~r) (fun c xs r=>by rw[aq (ntup c xs r)];~r) fun c q d r=>by rw[aq fun z=>by subst z;rw[r] at mu;~mu];~r
   rcases hc with rfl | hc
   ·~hbe
   ·rintro rfl
    rcases he with z | z
    ·~nown c b hc z
    ·rw[hc] at z;cases z;~hb rfl
end
structure Un (fs ex:List Addr) (H H':Hp) (h h':Heap):Prop where
 keep:∀b o,h.get? b=some o->H b=none->b∉fs->b∉ex->h'.get? b=some o
 slot:∀b o,h.get? b=some o->H b=none->b∈fs->b∉ex->∃sl,h'.get? b=some {o with slots:=sl}
 free:∀b o,h.get? b=some o->H b=none->b∉ex->H' b=none
 there:∀b o,h.get? b=some o->b∉ex->∃o',h'.get? b=some o'
 tups:∀b xs,H b=some (.tup xs)->H' b=some (.tup xs)
 frzs:∀b o u,(∀y,u≠.own y)->H b=some (.frz o u)->H' b=some (.frz o u)
 tbls:∀b q c,H b=some (.tbl q c)->H' b=some (.tbl q c)
section
variable{fs fs' ex ex':List Addr}{H H1 H2:Hp}{h h1 h2 h':Heap}{a x e:Addr}{o:HO}
theorem Un.any(u:Un fs ex H H1 h h1){b:Addr}{ob:Obj}(q:h.get? b=some ob)(n:H b=none)(hx:b∉ex):∃sl,h1.get? b=some {ob with slots:=sl}:=by
 by_cases hb:b∈fs
 ·~u.slot b ob q n hb hx
 ·~⟨ob.slots,u.keep b ob q n hb hx⟩
theorem Un.trans(a:Un fs ex H H1 h h1)(b:Un fs ex H1 H2 h1 h2):Un fs ex H H2 h h2 where
 keep:=fun c ob q n hc hx=>b.keep c ob (a.keep c ob q n hc hx) (a.free c ob q n hx) hc hx
 slot:=fun c ob q n hc hx=>by
  !⟨sl,e1⟩:=a.slot c ob q n hc hx
  !⟨sl',e2⟩:=b.slot c _ e1 (a.free c ob q n hx) hc hx
  ~⟨sl',e2⟩
 free:=fun c ob q n hx=>by
  !⟨o',e1⟩:=a.there c ob q hx
  ~b.free c o' e1 (a.free c ob q n hx) hx
 there:=fun c ob q hx=>by
  !⟨o',e1⟩:=a.there c ob q hx
  ~b.there c o' e1 hx
 tups:=fun c xs q=>b.tups c xs (a.tups c xs q)
 frzs:=fun c ob xs ny q=>b.frzs c ob xs ny (a.frzs c ob xs ny q)
 tbls:=fun c ps d q=>b.tbls c ps d (a.tbls c ps d q)
theorem Un.kept(k:∀b u,h.get? b=some u->h'.get? b=some u):Un fs ex H H h h':=
 ⟨fun b ob q _ _ _=>k b ob q,fun b ob q _ _ _=>⟨ob.slots,k b ob q⟩,fun _ _ _ n _=>n,fun b ob q _=>⟨ob,k b ob q⟩,fun _ _ q=>q,fun _ _ _ _ q=>q,fun _ _ _ q=>q⟩
theorem Un.refl:Un fs ex H H h h:=Un.kept fun _ _ q=>q
theorem Un.laid(k:∀b u,h.get? b=some u->h'.get? b=some u)(hp:h.objs.size<=a)(hn:H a=none):Un fs ex H (upd H a o) h h' where
 keep:=fun b u q _ _ _=>k b u q
 slot:=fun b u q _ _ _=>⟨u.slots,k b u q⟩
 free:=fun b u q n _=>by rw[aq (Nat.ne_of_lt (Nat.lt_of_lt_of_le (Heap.lt_size q) hp))];~n
 there:=fun b u q _=>⟨u,k b u q⟩
 tups:=fun b xs q=>by rw[aq (uB q hn)];~q
 frzs:=fun b u xs _ q=>by rw[aq (uB q hn)];~q
 tbls:=fun b ps _ q=>by rw[aq (uB q hn)];~q
theorem Un.write(mu:PB (H x))(he:e=x\/H e=some (.own x))(k:∀b u,b≠e->h.get? b=some u->h'.get? b=some u)(heo:∃u,h'.get? e=some u):Un fs ex H (upd H x o) h h':=by
 have hx:∀b,H b=none->b≠x:=fun b n z=>by subst z;rw[n] at mu;~mu
 have hb:∀b,H b=none->b≠e:=fun b n z=>by
  subst z
  rcases he with r | r
  ·~hx b n r
  ·rw[n] at r;cases r
 have hm:∀b u,H b=some u->¬ PB (some u)->b≠x:=fun b u q nm z=>by subst z;rw[q] at mu;~nm mu
 &⟨fun b u q n _ _=>k b u (hb b n) q,fun b u q n _ _=>⟨u.slots,k b u (hb b n) q⟩,fun b u q n _=>by rw[aq (hx b n)];~n,fun b u q _=>?_,
  fun b xs q=>by rw[aq (hm b _ q fun z=>z)];~q,fun b u xs ny q=>by rw[aq (hm b _ q (by intro z;cases xs<;>first | ~z | ~ny _ rfl))];~q,fun b ps _ q=>by rw[aq (hm b _ q fun z=>z)];~q⟩
 by_cases hbe:b=e
 ·subst hbe;~heo
 ·~⟨u,k b u hbe q⟩
theorem Un.mono(u:Un fs ex H H1 h h1)(hs:∀b∈fs,b∈fs')(hx:∀b∈ex,b∈ex'):Un fs' ex' H H1 h h1:=
 ⟨fun b ob q n hb he=>u.keep b ob q n (fun z=>hb (hs b z)) fun z=>he (hx b z),fun _ _ q n _ he=>u.any q n fun z=>he (hx _ z),fun b ob q n he=>u.free b ob q n fun z=>he (hx b z),fun b ob q he=>u.there b ob q fun z=>he (hx b z),u.tups,u.frzs,u.tbls⟩
end
def PL(h:Heap)(H:Hp):List Addr:=(List.range h.objs.size).filter fun a=>(H a).isSome
def zk(h:Heap)(H:Hp):Heap:=PySem.W.hideAll h (PL h H)
theorem Cd(h:Heap)(H:Hp):(zk h H).objs.size=h.objs.size:=PySem.W.hideAll_size _ _
theorem Es{h:Heap}{H:Hp}{b:Addr}{o:Obj}(e:h.get? b=some o)(n:H b=none):(zk h H).get? b=some o:=
 PySem.W.hideAll_get _ e fun hm=>by
  have q:(H b).isSome=true:=(List.mem_filter.mp hm).2
  rw[n] at q;simp at q
theorem Gv{h:Heap}{H:Hp}{b:Addr}{o:Obj}(e:(zk h H).get? b=some o):h.get? b=some o/\H b=none:=by
 have e':h.get? b=some o:=PySem.W.of_hideAll (PL h H) e
 &⟨e',?_⟩
 cases q:H b with
 | none=>rfl
 | some x =>
  have hm:b∈PL h H:=List.mem_filter.mpr ⟨List.mem_range.mpr (Heap.lt_size e'),by simp[q]⟩
  have z:(zk h H).get? b=none:=PySem.W.hideAll_none (PL h H) hm
  rw[z] at e;cases e
noncomputable def Ky(g h:Heap)(L:Addr):List (Addr×Obj):=(List.range h.objs.size).filterMap fun a=>if a=L\/(g.get? a).isSome=true then none else (h.get? a).map fun o=>(a,o)
def rest(g h:Heap)(L d:Addr):List (Addr×Obj):=(Ky g h L).filter fun p=>decide (p.1≠d)
end L2
namespace L2
open PySem PySem.Spec PyProof.Rows
structure Mod (K:PySem.W.Frag) (mg:Str->Option Value) (base:Heap):Prop where
 kin:K.In base
 glob:base.Ns mainGlobals mg
 blt:∃mb,base.Ns builtinsNs mb/\∀x:Str,x ≠ "__name__" -> mb x=bootBuiltins x
 nolimit:base.NoLimit
structure Cx where
 prog:Program
 w:World
 K:PySem.W.Frag
 mg:Str->Option Value
 base:Heap
 A:Around
 N:List Str
 s₀:Shared
 H₀:Hp
 env:Env
 outer:List Env
 stack:List Env
 ex:List Addr
 fn:Str->Bool
 calm:Bool
 pn:List (Addr×Obj)
 xe:Value->Shared->Prop
noncomputable def xt(l:List Env):List Addr:=l.filterMap (·.frame)
abbrev Cx.fs(X:Cx):List Addr:=xt X.outer
def Ca(sc:Scope)(x:Str):Prop:=sc.names.lookup x=some .local\/sc.names.lookup x=some .cell\/sc.names.lookup x=some .free
def Loc(sc:Scope)(x:Str):Prop:=sc.names.lookup x=some .local\/sc.names.lookup x=some .cell
def Look(env:Env)(h:Heap)(m:Str->Option Value)(x:Str)(u:Value):Prop:=
 (env.kindOf x=some .local/\m x=some u)\/((env.kindOf x=some .cell\/env.kindOf x=some .free)/\∃c,env.cells.lookup x=some c/\h.IsCell c (some u))
structure Cx.Ok (X:Cx):Prop where
 mod:Mod X.K X.mg X.base
 kind:X.env.scope.kind=.function
 glob:X.env.globals=mainGlobals
 blt:X.env.builtins=builtinsNs
 above:X.s₀.heap.objs.size<=X.env.locals
 inj:∀x y c,X.env.cells.lookup x=some c->X.env.cells.lookup y=some c->x=y
 has:∀x,(X.env.kindOf x=some .cell\/X.env.kindOf x=some .free)->∃c,X.env.cells.lookup x=some c
 cab:∀x c,X.fn x=true->X.env.cells.lookup x=some c->X.s₀.heap.objs.size<=c
 hd:X.calm=true->X.A.handled=none
 frames:X.A.frames=some X.stack
 stk:X.stack=X.outer\/(X.stack=X.env::X.outer/\X.env.frame=some X.env.locals)
 exf:∀b∈X.ex,b≠X.env.locals/\∀x c,X.env.cells.lookup x=some c->c≠b
 bs:∀b o,X.base.get? b=some o->X.s₀.heap.get? b=some o/\X.H₀ b=none
 bsz:X.base.objs.size<=X.s₀.heap.objs.size
 noex:∀b o,X.base.get? b=some o->b∉X.ex
 exfs:∀b∈X.ex,b∉X.fs
 funs:X.s₀.heap.FunFrames X.base X.outer
 frf:∀b∈X.fs,X.H₀ b=none
structure Inv (X:Cx) (pins:List (Addr×Obj)) (σ:List (Option V)) (H:Hp) (s:Shared):Prop where
 ok:X.Ok
 os:s.os=X.s₀.os
 bare:AllBare s.gens
 base:Un X.fs X.ex X.H₀ H X.s₀.heap s.heap
 loc:∃m,s.heap.Ns X.env.locals m/\∀(i:Nat) (x:Str) (v:V),X.N[i]?=some x->σ[i]?=some (some v)->Ca X.env.scope x->∃u,RelV v u/\Look X.env s.heap m x u
 cell:∀x c,X.env.cells.lookup x=some c->∃v,s.heap.IsCell c v
 free:H X.env.locals=none
 freeC:∀x c,X.env.cells.lookup x=some c->H c=none
 pin:∀p∈X.pn++pins,s.heap.get? p.1=some p.2/\H p.1=none/\p.1≠X.env.locals/\p.1∉X.fs/\∀v,p.2.data≠.cell v
 hok:y4 X.prog X.w H s.heap
 len:σ.length=X.N.length
section
variable{X:Cx}{pins:List (Addr×Obj)}{σ:List (Option V)}{H H':Hp}{s:Shared}{h':Heap}
theorem Cx.Ok.nofr(ok:X.Ok){b:Addr}{o:Obj}(e:X.base.get? b=some o):b∉X.fs:=fun hb=>by
 have:=(ok.funs.mem hb).1
 rw[e] at this;cases this
theorem Inv.bs(I:Inv X pins σ H s):∀b o,X.base.get? b=some o->s.heap.get? b=some o/\H b=none:=fun b o e =>
 ⟨I.base.keep b o (I.ok.bs b o e).1 (I.ok.bs b o e).2 (I.ok.nofr e) (I.ok.noex b o e),I.base.free b o (I.ok.bs b o e).1 (I.ok.bs b o e).2 (I.ok.noex b o e)⟩
theorem Inv.bk(I:Inv X pins σ H s):∀b o,X.base.get? b=some o->s.heap.get? b=some o:=fun b o e=>(I.bs b o e).1
theorem Inv.mod(I:Inv X pins σ H s):Mod X.K X.mg X.base:=I.ok.mod
theorem Inv.kIn(I:Inv X pins σ H s):X.K.In s.heap:=I.ok.mod.kin.keeps I.bk
theorem Inv.nolimit(I:Inv X pins σ H s):s.heap.NoLimit:=I.ok.mod.nolimit.keeps I.bk
theorem Inv.fr(I:Inv X pins σ H s):∃m,Fr X.base X.env.locals s.heap m:=
 let ⟨m,hn,_⟩:=I.loc
 ⟨m,hn,I.bk,Nat.le_trans I.ok.bsz I.ok.above⟩
theorem Inv.lt(I:Inv X pins σ H s):X.env.locals<s.heap.objs.size:=let ⟨_,hn,_⟩:=I.loc;hn.lt
theorem Inv.sz(I:Inv X pins σ H s):X.s₀.heap.objs.size<=s.heap.objs.size:=Nat.le_trans I.ok.above (Nat.le_of_lt I.lt)
theorem Inv.nofs(I:Inv X pins σ H s){a:Addr}(h:s.heap.objs.size<=a):a∉X.fs:=fun hb=>by
 !⟨_,o,ho,_⟩:=I.ok.funs.mem hb
 ~absurd (Nat.lt_of_lt_of_le (Heap.lt_size ho) (Nat.le_trans I.sz h)) (Nat.lt_irrefl _)
theorem Inv.cne(I:Inv X pins σ H s):∀x c,X.env.cells.lookup x=some c->c≠X.env.locals:=fun x c e z=>by
 !⟨v,o,ho,hd⟩:=I.cell x c e
 !⟨m,⟨o',es,ep,ho',hd',_⟩,_⟩:=I.loc
 rw[z,ho'] at ho;cases ho;rw[hd'] at hd;cases hd
theorem Inv.funs(I:Inv X pins σ H s):s.heap.FunFrames X.base X.outer:=by
 have all:∀(l:List Env),(∀b∈xt l,b∈X.fs)->X.s₀.heap.FunFrames X.base l->s.heap.FunFrames X.base l:=by
  intro l
  induction l with
  | nil=>intro _ _;trivial
  | cons env r ih =>
   intro hs hl
   !⟨hk,⟨L,o,hf,hn,ho,hd⟩,hr⟩:=hl
   have hL:L∈X.fs:=hs L (by unfold xt;rw[List.filterMap_cons,hf];~List.mem_cons_self)
   !⟨sl,e⟩:=I.base.slot L o ho (I.ok.frf L hL) hL fun z=>I.ok.exfs L z hL
   ~⟨hk,⟨L,_,hf,hn,e,hd⟩,ih (fun b hb=>hs b (by unfold xt;rw[List.filterMap_cons,hf];~List.mem_cons_of_mem _ hb)) hr⟩
 ~all X.outer (fun _ hb=>hb) I.ok.funs
theorem Inv.stack(I:Inv X pins σ H s):s.heap.FunFrames X.base X.stack:=by
 rcases I.ok.stk with e | ⟨e,hf⟩
 ·rw[e];~I.funs
 ·rw[e]
  !⟨m,hn,_⟩:=I.loc
  &.cons (by rw[I.ok.kind];decide) hf hn ?_ I.funs
  ~Heap.get?_none_of_le (Nat.le_trans I.ok.bsz I.ok.above)
theorem Inv.stkSub(I:Inv X pins σ H s):∀b∈xt X.stack,b∈X.env.locals::X.fs:=fun b hb=>by
 rcases I.ok.stk with e | ⟨e,hf⟩
 ·rw[e] at hb;~List.mem_cons_of_mem _ hb
 ·rw[e] at hb
  unfold xt at hb
  rw[List.filterMap_cons,hf] at hb
  ~hb
theorem Inv.stkFree(I:Inv X pins σ H s):∀b∈xt X.stack,H b=none:=fun b hb=>by
 rcases List.mem_cons.mp (I.stkSub b hb) with e | hb
 ·rw[e];~I.free
 ·!⟨_,o,ho,_⟩:=I.ok.funs.mem hb
  ~I.base.free b o ho (I.ok.frf b hb) fun z=>I.ok.exfs b z hb
theorem Inv.step{g':Array GenState}{t':Nat}{d':Drawn}{ch:List Addr}(I:Inv X pins σ H s)
  (hch:∀b∈ch,(b∈X.ex\/X.s₀.heap.objs.size<=b)/\b≠X.env.locals/\(∀x c,X.env.cells.lookup x=some c->c≠b)/\∀p∈X.pn++pins,p.1≠b)
  (keep:∀b o,b≠X.env.locals->b∉X.fs->b∉ch->s.heap.get? b=some o->H b=none->h'.get? b=some o)
  (slot:∀b o,b≠X.env.locals->b∈X.fs->b∉ch->s.heap.get? b=some o->H b=none->∃sl,h'.get? b=some {o with slots:=sl}) (free:∀b o,b∉ch->s.heap.get? b=some o->H b=none->H' b=none)
  (there:∀b o,b∉ch->s.heap.get? b=some o->∃o',h'.get? b=some o')
  (tups:∀b xs,H b=some (.tup xs)->H' b=some (.tup xs)) (frzs:∀b o u,(∀y,u≠.own y)->H b=some (.frz o u)->H' b=some (.frz o u)) (tbls:∀b q c,H b=some (.tbl q c)->H' b=some (.tbl q c))
  (ns:∀m,s.heap.Ns X.env.locals m->h'.Ns X.env.locals m) (hok:y4 X.prog X.w H' h') (hg:AllBare g') :
  Inv X pins σ H' {s with heap:=h',gens:=g',drawn:=d',toks:=t' }:=by
 have neL:∀b o,X.s₀.heap.get? b=some o->b≠X.env.locals:=fun b o e=>Nat.ne_of_lt (Nat.lt_of_lt_of_le (Heap.lt_size e) I.ok.above)
 have neC:∀b o,X.s₀.heap.get? b=some o->b∉X.ex->b∉ch:=fun b o e hx hb=>by
  rcases(hch b hb).1 with z | z
  ·~hx z
  ·~absurd (Nat.lt_of_lt_of_le (Heap.lt_size e) z) (Nat.lt_irrefl _)
 have cellK:∀x c,X.env.cells.lookup x=some c->∀v,s.heap.IsCell c v->h'.IsCell c v:=fun x c e v ⟨o,ho,hd⟩=>by
  have nch:c∉ch:=fun z=>(hch c z).2.2.1 x c e rfl
  by_cases hc:c∈X.fs
  ·!⟨sl,q⟩:=slot c o (I.cne x c e) hc nch ho (I.freeC x c e)
   ~⟨_,q,hd⟩
  ·~⟨o,keep c o (I.cne x c e) hc nch ho (I.freeC x c e),hd⟩
 &⟨I.ok,I.os,hg,⟨fun b o e n hb hx=>?_,fun b o e n hb hx=>?_,fun b o e n hx=>?_,fun b o e hx=>?_,fun b xs e=>tups b xs (I.base.tups b xs e),fun b o xs ny e=>frzs b o xs ny (I.base.frzs b o xs ny e),fun b ps d e=>?_⟩,?_,fun x c e=>?_,?_,fun x c e=>?_,fun p hp=>?_,hok,I.len⟩
 ·~keep b o (neL b o e) hb (neC b o e hx) (I.base.keep b o e n hb hx) (I.base.free b o e n hx)
 ·!⟨sl,e1⟩:=I.base.slot b o e n hb hx
  !⟨sl',e2⟩:=slot b _ (neL b o e) hb (neC b o e hx) e1 (I.base.free b o e n hx)
  ~⟨sl',e2⟩
 ·!⟨o',e1⟩:=I.base.there b o e hx
  ~free b o' (neC b o e hx) e1 (I.base.free b o e n hx)
 ·!⟨o',e1⟩:=I.base.there b o e hx
  ~there b o' (neC b o e hx) e1
 ·~tbls b ps d (I.base.tbls b ps d e)
 ·!⟨m,hn,hl⟩:=I.loc
  &⟨m,ns m hn,fun i x v e1 e2 e3=>?_⟩
  !⟨u,r,l⟩:=hl i x v e1 e2 e3
  &⟨u,r,?_⟩
  rcases l with l | ⟨k,c,e,z⟩
  ·~.inl l
  ·~.inr ⟨k,c,e,cellK x c e _ z⟩
 ·!⟨v,z⟩:=I.cell x c e
  ~⟨v,cellK x c e v z⟩
 ·!⟨m,⟨o,_,_,ho,_⟩,_⟩:=I.loc
  ~free _ o (fun z=>(hch _ z).2.1 rfl) ho I.free
 ·!⟨v,o,ho,hd⟩:=I.cell x c e
  ~free c o (fun z=>(hch c z).2.2.1 x c e rfl) ho (I.freeC x c e)
 ·!⟨e,n,ne,nf,d⟩:=I.pin p hp
  have nch:p.1∉ch:=fun z=>(hch p.1 z).2.2.2 p hp rfl
  ~⟨keep p.1 p.2 ne nf nch e n,free p.1 p.2 nch e n,ne,nf,d⟩
theorem Inv.un{t':Nat}(I:Inv X pins σ H s)(u:Un X.fs [] H H' s.heap h')(hok:y4 X.prog X.w H' h'):Inv X pins σ H' {s with heap:=h',toks:=t' }:=by
 !⟨m,⟨o,es,ep,ho,r⟩,_⟩:=id I.loc
 !⟨sl,hL⟩:=u.any ho I.free (by simp)
 ~I.step (g':=s.gens) (d':=s.drawn) (ch:=[]) (fun _ z=>nomatch z) (fun b o _ hb _ e n=>u.keep b o e n hb (by simp)) (fun b o _ hb _ e n=>u.slot b o e n hb (by simp)) (fun b o _ e n=>u.free b o e n (by simp)) (fun b o _ e=>u.there b o e (by simp)) u.tups u.frzs u.tbls (fun m' hm=>by
  !⟨o',es',ep',ho',r'⟩:=hm
  rw[ho] at ho';cases ho'
  ~⟨_,es',ep',hL,r'⟩) hok I.bare
theorem Inv.call{g':Array GenState}{t':Nat}{d':Drawn}{ch:List Addr}(I:Inv X pins σ H s)(u:Un (xt X.stack) ch H H' s.heap h')(hok:y4 X.prog X.w H' h')(hg:AllBare g')
  (hch:∀b∈ch,(b∈X.ex\/X.s₀.heap.objs.size<=b)/\b≠X.env.locals/\(∀x c,X.env.cells.lookup x=some c->c≠b)/\∀p∈X.pn++pins,p.1≠b) :
  Inv X pins σ H' {s with heap:=h',gens:=g',drawn:=d',toks:=t' }:=by
 !⟨m,⟨o,es,ep,ho,r⟩,_⟩:=id I.loc
 !⟨sl,hL⟩:=u.any ho I.free fun z=>(hch _ z).2.1 rfl
 ~I.step (ch:=ch) hch (fun b o hL hb hc e n=>u.keep b o e n (fun z=>(List.mem_cons.mp (I.stkSub b z)).elim hL hb) hc) (fun b o _ _ hc e n=>u.any e n hc) (fun b o hc e n=>u.free b o e n hc) (fun b o hc e=>u.there b o e hc) u.tups u.frzs u.tbls (fun m' hm=>by
  !⟨o',es',ep',ho',r'⟩:=hm
  rw[ho] at ho';cases ho'
  ~⟨_,es',ep',hL,r'⟩) hok hg
theorem Inv.turned{t':Nat}{it:Addr}(I:Inv X pins σ H s)(k:∀b o,b≠it->s.heap.get? b=some o->h'.get? b=some o)(hn:H it=none)(hL:it≠X.env.locals)
  (h1:it∈X.ex\/X.s₀.heap.objs.size<=it) (h2:∀x c,X.env.cells.lookup x=some c->c≠it) (h3:∀p∈X.pn++pins,p.1≠it):Inv X pins σ H {s with heap:=h',toks:=t' }:=by
 have nit:∀b u,H b=some u->b≠it:=fun b u e z=>by rw[z,hn] at e;cases e
 &I.step (g':=s.gens) (d':=s.drawn) (ch:=[it]) (fun b hb=>?_) (fun b o _ _ hc e _=>k b o (fun z=>hc (by simp[z])) e) (fun b o _ _ hc e _=>⟨o.slots,k b o (fun z=>hc (by simp[z])) e⟩) (fun _ _ _ _ n=>n)
  (fun b o hc e=>⟨o,k b o (fun z=>hc (by simp[z])) e⟩) (fun _ _ e=>e) (fun _ _ _ _ e=>e) (fun _ _ _ e=>e) (fun m hm=>?_) (fun b u e=>?_) I.bare
 ·have e:b=it:=by simpa using hb
  subst e
  ~⟨h1,hL,h2,h3⟩
 ·!⟨o,es,ep,ho,r⟩:=hm
  ~⟨o,es,ep,k _ o (Ne.symm hL) ho,r⟩
 ·&(I.hok b u e).stay (fun c v hc q=>k c v ?_ q) (fun _ q=>q) (fun _ _ q=>q) fun _ _ _ q=>q
  rcases hc with z | z
  ·rw[z];~nit b u e
  ·~nit c _ z
theorem Inv.tok(I:Inv X pins σ H s)(t:Nat):Inv X pins σ H {s with toks:=t}:=I.un (h':=s.heap) (t':=t) Un.refl I.hok
theorem Inv.kept{t':Nat}(I:Inv X pins σ H s)(k:∀b u,s.heap.get? b=some u->h'.get? b=some u):Inv X pins σ H {s with heap:=h',toks:=t' }:=I.un (Un.kept k) (I.hok.kept k)
theorem Inv.laid{a:Addr}{o:HO}{t':Nat}(I:Inv X pins σ H s)(k:∀b u,s.heap.get? b=some u->h'.get? b=some u)(hp:s.heap.objs.size<=a)(new:vv X.prog X.w (upd H a o) h' a o) :
  Inv X pins σ (upd H a o) {s with heap:=h',toks:=t' }:=I.un (Un.laid k hp (I.hok.fresh hp)) (I.hok.laid k hp new)
theorem Inv.write{x e:Addr}{o:HO}{t':Nat}(I:Inv X pins σ H s)(mu:PB (H x))(he:e=x\/H e=some (.own x))(k:∀b u,b≠e->s.heap.get? b=some u->h'.get? b=some u)(heo:∃u,h'.get? e=some u)
  (new:vv X.prog X.w (upd H x o) h' x o):Inv X pins σ (upd H x o) {s with heap:=h',toks:=t' }:=I.un (Un.write mu he k heo) (I.hok.write mu he k heo new)
theorem Inv.pins_of{pins':List (Addr×Obj)}(I:Inv X pins σ H s)(h:∀p∈pins',s.heap.get? p.1=some p.2/\H p.1=none/\p.1≠X.env.locals/\p.1∉X.fs/\∀v,p.2.data≠.cell v):Inv X pins' σ H s:=
 ⟨I.ok,I.os,I.bare,I.base,I.loc,I.cell,I.free,I.freeC,fun p hp=>(List.mem_append.mp hp).elim (fun z=>I.pin p (List.mem_append_left _ z)) (h p),I.hok,I.len⟩
theorem AY{N:List Str}(hN:N.Nodup){i j:Nat}{x:Str}(a:N[i]?=some x)(b:N[j]?=some x):i=j:=by
 !⟨h1,e1⟩:=List.getElem?_eq_some_iff.mp a
 !⟨h2,e2⟩:=List.getElem?_eq_some_iff.mp b
 ~(List.getElem_inj hN).mp (e1.trans e2.symm)
theorem Ce{M:Model}{A:Around}{E:Value->Shared->Prop}{i:Nat}{x:Str}{v:V}{u:Value}{Q:Unit->Shared->Prop}(I:Inv X pins σ H s)(hN:X.N.Nodup)(hi:X.N[i]?=some x)(hx:Loc X.env.scope x)(r:RelV v u)
  (h:∀s',Inv X pins (σ.set i (some v)) H s'->(∃a,Heap.SameBut a s.heap s'.heap/\(a=X.env.locals\/X.env.cells.lookup x=some a))->Q () s') (hf:X.fn x=true\/X.env.scope.names.lookup x=some .local:=by first | ~.inl rfl | ~.inr rfl | assumption):wpAny M A (storeName X.env x u) Q E s:=by
 !⟨m,hn,hl⟩:=id I.loc
 have hcls:(X.env.scope.kind==.class||(X.env.scope.kind==.module&&X.env.locals != X.env.globals))=false:=by rw[I.ok.kind];rfl
 have hiσ:i<σ.length:=by rw[I.len];~(List.getElem?_eq_some_iff.mp hi).1
 have cne:=I.cne
 have tracked:∀{a:Addr} {h':Heap},(∃o,s.heap.get? a=some o/\H a=none)->Heap.SameBut a s.heap h'->y4 X.prog X.w H h':=fun {a h'} ha hs b ob e=>by
  !⟨_,_,hfree⟩:=ha
  &(I.hok b ob e).stay (fun c w' hc q=>(hs.2 c ?_).trans q) (fun _ q=>q) (fun _ _ q=>q) fun _ _ _ q=>q
  rintro rfl
  rcases hc with rfl | hc
  ·rw[hfree] at e;cases e
  ·rw[hfree] at hc;cases hc
 rcases hx with hk | hk
 ·&wpAny_storeName_local hk hn (fun h' hn' hs=>?_) hcls
  !⟨oL,_,_,hoL,_⟩:=id hn
  &h _ ⟨I.ok,I.os,I.bare,⟨fun b o e n hb hx=>?_,fun b o e n hb hx=>?_,I.base.free,fun b o e hx=>?_,I.base.tups,I.base.frzs,I.base.tbls⟩,⟨_,hn',fun j y v' e1 e2 e3=>?_⟩,fun y c e=>?_,I.free,I.freeC,fun p hp=>?_,tracked ⟨oL,hoL,I.free⟩ hs,by simpa using I.len⟩ ⟨_,hs,.inl rfl⟩
  ·~(hs.2 b (Nat.ne_of_lt (Nat.lt_of_lt_of_le (Heap.lt_size e) I.ok.above))).trans (I.base.keep b o e n hb hx)
  ·!⟨sl,e1⟩:=I.base.slot b o e n hb hx
   ~⟨sl,(hs.2 b (Nat.ne_of_lt (Nat.lt_of_lt_of_le (Heap.lt_size e) I.ok.above))).trans e1⟩
  ·!⟨o',e1⟩:=I.base.there b o e hx
   ~⟨o',(hs.2 b (Nat.ne_of_lt (Nat.lt_of_lt_of_le (Heap.lt_size e) I.ok.above))).trans e1⟩
  ·by_cases hj:j=i
   ·subst hj
    rw[hi] at e1;cases e1
    rw[List.getElem?_set_self hiσ] at e2
    cases e2
    ~⟨u,r,.inl ⟨hk,by simp⟩⟩
   ·rw[List.getElem?_set_ne (Ne.symm hj)] at e2
    !⟨u',r',q⟩:=hl j y v' e1 e2 e3
    &⟨u',r',?_⟩
    rcases q with ⟨k,e⟩ | ⟨k,c,e,z⟩
    ·&.inl ⟨k,?_⟩
     have:y≠x:=fun e=>hj (AY hN e1 (e ▸ hi))
     simp[this,e]
    ·~.inr ⟨k,c,e,z.sameBut hs (cne y c e)⟩
  ·!⟨w',z⟩:=I.cell y c e
   ~⟨w',z.sameBut hs (cne y c e)⟩
  ·!⟨e,n,ne,nf,d⟩:=I.pin p hp
   ~⟨(hs.2 p.1 ne).trans e,n,ne,nf,d⟩
 ·have hfn:X.fn x=true:=by
   rcases hf with z | z
   ·~z
   ·rw[z] at hk;cases hk
  !⟨c,hc⟩:=I.ok.has x (.inl hk)
  !⟨w',z⟩:=I.cell x c hc
  &wpAny_storeName_cell I.ok.kind hk hc z (fun h' hc' hs=>?_)
  !⟨oc,hoc,hocd⟩:=id z
  &h {s with heap:=h' } ⟨I.ok,I.os,I.bare,⟨fun b o e n hb hx=>?_,fun b o e n hb hx=>?_,I.base.free,fun b o e hx=>?_,I.base.tups,I.base.frzs,I.base.tbls⟩,⟨m,hn.sameBut hs (Ne.symm (cne x c hc)),fun j y v' e1 e2 e3=>?_⟩,fun y c' e=>?_,I.free,I.freeC,fun p hp=>?_,tracked ⟨oc,hoc,I.freeC x c hc⟩ hs,by simpa using I.len⟩ ⟨c,hs,.inr hc⟩
  ·~(hs.2 b (Nat.ne_of_lt (Nat.lt_of_lt_of_le (Heap.lt_size e) (I.ok.cab x c hfn hc)))).trans (I.base.keep b o e n hb hx)
  ·!⟨sl,e1⟩:=I.base.slot b o e n hb hx
   ~⟨sl,(hs.2 b (Nat.ne_of_lt (Nat.lt_of_lt_of_le (Heap.lt_size e) (I.ok.cab x c hfn hc)))).trans e1⟩
  ·!⟨o',e1⟩:=I.base.there b o e hx
   ~⟨o',(hs.2 b (Nat.ne_of_lt (Nat.lt_of_lt_of_le (Heap.lt_size e) (I.ok.cab x c hfn hc)))).trans e1⟩
  ·by_cases hj:j=i
   ·subst hj
    rw[hi] at e1;cases e1
    rw[List.getElem?_set_self hiσ] at e2
    cases e2
    ~⟨u,r,.inr ⟨.inl hk,c,hc,hc'⟩⟩
   ·rw[List.getElem?_set_ne (Ne.symm hj)] at e2
    !⟨u',r',q⟩:=hl j y v' e1 e2 e3
    &⟨u',r',?_⟩
    rcases q with q | ⟨k,c',e,z'⟩
    ·~.inl q
    ·&.inr ⟨k,c',e,z'.sameBut hs ?_⟩
     rintro rfl
     ~hj (AY hN e1 (I.ok.inj _ _ _ e hc ▸ hi))
  ·by_cases hcc:c'=c
   ·subst hcc;~⟨_,hc'⟩
   ·!⟨w2,z2⟩:=I.cell y c' e
    ~⟨w2,z2.sameBut hs hcc⟩
  ·!⟨e,n,ne,nf,d⟩:=I.pin p hp
   &⟨(hs.2 p.1 ?_).trans e,n,ne,nf,d⟩
   intro q
   rw[q,hoc] at e
   have q':oc=p.2:=Option.some.inj e
   ~d w' (by rw[<- q'];~hocd)
theorem zA{M:Model}{A:Around}{E:Value->Shared->Prop}{i:Nat}{x:Str}{v:V}{u:Value}{Q:Unit->Shared->Prop}(I:Inv X pins σ H s)(hN:X.N.Nodup)(hi:X.N[i]?=some x)(hx:Loc X.env.scope x)(r:RelV v u)
  (h:∀s',Inv X pins (σ.set i (some v)) H s'->Q () s') (hf:X.fn x=true\/X.env.scope.names.lookup x=some .local:=by first | ~.inl rfl | ~.inr rfl | assumption):wpAny M A (storeName X.env x u) Q E s:=
 Ce I hN hi hx r (fun s' I' _=>h s' I') hf
theorem Inv.call'{s':Shared}{ch:List Addr}(I:Inv X pins σ H s)(ho:s'.os=s.os)(u:Un (xt X.stack) ch H H' s.heap s'.heap)(hok:y4 X.prog X.w H' s'.heap)(hg:AllBare s'.gens)
  (hch:∀b∈ch,(b∈X.ex\/X.s₀.heap.objs.size<=b)/\b≠X.env.locals/\(∀x c,X.env.cells.lookup x=some c->c≠b)/\∀p∈X.pn++pins,p.1≠b):Inv X pins σ H' s':=by
 !⟨h',g',d',t',o'⟩:=s'
 have e:o'=s.os:=ho
 subst e
 ~I.call (g':=g') (t':=t') (d':=d') u hok hg hch
end
abbrev XK:=Value->Option Addr->Hp->Prop
abbrev St:=List (Option V)
abbrev VK:=V->Hp->Prop
abbrev TE:=St->Hp->VK->Prop
abbrev TT:=St->Hp->(Bool->Hp->Prop)->Prop
abbrev TA:=St->Hp->(List V->Hp->Prop)->Prop
structure Ends where
 nx:St->Hp->Prop
 rt:VK
 bk:St->Hp->Prop:=fun _ _=>False
 ct:St->Hp->Prop:=fun _ _=>False
abbrev TS:=Ends->St->Hp->Prop
def EP(X:Cx)(pins:List (Addr×Obj))(σ:St)(Q:VK)(u:Value)(s':Shared):Prop:=∃v H',Inv X pins σ H' s'/\RelV v u/\Q v H'
def TP(X:Cx)(pins:List (Addr×Obj))(σ:St)(Q:Bool->Hp->Prop)(b:Bool)(s':Shared):Prop:=∃H',Inv X pins σ H' s'/\Q b H'
def AP(X:Cx)(pins:List (Addr×Obj))(σ:St)(Q:List V->Hp->Prop)(us:List Value)(s':Shared):Prop:=∃vs H',Inv X pins σ H' s'/\l6 vs us/\Q vs H'
def SP(X:Cx)(pins:List (Addr×Obj))(D:Ends)(f:Flow)(s':Shared):Prop:=
 match f with
 | .next=>∃ σ' H',Inv X pins σ' H' s'/\D.nx σ' H'
 | .brk=>∃ σ' H',Inv X pins σ' H' s'/\D.bk σ' H'
 | .cont=>∃ σ' H',Inv X pins σ' H' s'/\D.ct σ' H'
 | .ret u=>∃v σ' H',Inv X pins σ' H' s'/\RelV v u/\D.rt v H'
def PE(X:Cx)(e:Expr)(t:TE):Prop:=
 ∀(pins:List (Addr×Obj)) (s:Shared) (σ:St) (H:Hp) (Q:VK),Inv X pins σ H s->t σ H Q->wpAny (model X.prog X.w) X.A (eval e X.env) (EP X pins σ Q) X.xe s
def PT(X:Cx)(e:Expr)(t:TT):Prop:=
 ∀(pins:List (Addr×Obj)) (s:Shared) (σ:St) (H:Hp) (Q:Bool->Hp->Prop),Inv X pins σ H s->t σ H Q->wpAny (model X.prog X.w) X.A (isTrue e X.env (eval e X.env)) (TP X pins σ Q) X.xe s
def PW(X:Cx)(e:Expr)(t:TT):Prop:=
 ∀(whole:Sem Value) (pins:List (Addr×Obj)) (s:Shared) (σ:St) (H:Hp) (Q:Bool->Hp->Prop),Inv X pins σ H s->t σ H Q->wpAny (model X.prog X.w) X.A (isTrue e X.env whole) (TP X pins σ Q) X.xe s
theorem PW.pt{X:Cx}{e:Expr}{t:TT}(h:PW X e t):PT X e t:=h _
def PA(X:Cx)(es:List Expr)(t:TA):Prop:=
 ∀(pos:Pos) (pins:List (Addr×Obj)) (s:Shared) (σ:St) (H:Hp) (Q:List V->Hp->Prop),Inv X pins σ H s->t σ H Q->wpAny (model X.prog X.w) X.A (spliced (backTo pos (starEach es X.env))) (AP X pins σ Q) X.xe s
def PS(X:Cx)(st:Stmt)(t:TS):Prop:=
 ∀(pins:List (Addr×Obj)) (s:Shared) (σ:St) (H:Hp) (D:Ends),Inv X pins σ H s->t D σ H->wpAny (model X.prog X.w) X.A (exec st X.env) (SP X pins D) X.xe s
def PSs(X:Cx)(st:List Stmt)(t:TS):Prop:=
 ∀(pins:List (Addr×Obj)) (s:Shared) (σ:St) (H:Hp) (D:Ends),Inv X pins σ H s->t D σ H->wpAny (model X.prog X.w) X.A (execs st X.env) (SP X pins D) X.xe s
theorem uo{α:Type}{t:Sem α}{Q Q':α->Shared->Prop}{M:Model}{A:Around}{E:Value->Shared->Prop}{s:Shared}(h:wpAny M A t Q E s)(hQ:∀a s,Q a s->Q' a s):wpAny M A t Q' E s:=wpAny_mono h hQ fun _ _ x=>x
end L2
namespace L2
open PySem PySem.Spec PyProof.Rows
section
variable{X:Cx}
theorem bin{a b:Expr}{ta tb:TE}(ha:PE X a ta)(hb:PE X b tb){pins:List (Addr×Obj)}{s:Shared}{σ:St}{H:Hp}{R:V->V->Hp->Prop}(I:Inv X pins σ H s)(h:ta σ H fun x H1=>tb σ H1 fun y H2=>R x y H2)
  {α:Type} {Q:α->Shared->Prop} {f:Value->Value->Sem α}
  (hf:∀v u s2 x y H2,Inv X pins σ H2 s2->RelV x v->RelV y u->R x y H2->wpAny (model X.prog X.w) X.A (f v u) Q X.xe s2) :
  wpAny (model X.prog X.w) X.A (eval a X.env) (fun v s₁=>wpAny (model X.prog X.w) X.A (eval b X.env) (fun u s₂=>wpAny (model X.prog X.w) X.A (f v u) Q X.xe s₂) X.xe s₁) X.xe s:=by
 &uo (ha pins s σ H _ I h) fun v s1 ⟨x,H1,I1,r1,q1⟩=>?_
 &uo (hb pins s1 σ H1 _ I1 q1) fun u s2 ⟨y,H2,I2,r2,q2⟩=>?_
 ~hf v u s2 x y H2 I2 r1 r2 q2
def Mt(i:Nat):TE:=fun σ H Q=>∃v,σ[i]?=some (some v)/\Q v H
def tC(v:V):TE:=fun _ H Q=>Q v H
theorem jx{i:Nat}{x:Str}{pos:Pos}(hN:X.N[i]?=some x)(hv:Ca X.env.scope x)(hd:(x==("__debug__" : Str))=false:=by decide)(hcd:(x==("__classdict__" : Str))=false:=by decide):PE X (.Name x pos) (Mt i):=by
 intro pins s σ H Q I h
 !⟨v,e,h⟩:=h
 !⟨m,hn,hl⟩:=I.loc
 !⟨u,r,l⟩:=hl i x v hN e hv
 have fin:EP X pins σ Q u s:=⟨v,H,I,r,h⟩
 rcases l with ⟨hk,hm⟩ | ⟨hk,c,hc,hcell⟩
 ·~wpAny_Name (wpAny_loadName_local I.ok.kind hk hn hm fin) hd
 ·rcases hk with hk | hk
  ·~wpAny_Name (wpAny_loadName_cell I.ok.kind hk hc hcell fin) hd
  ·~wpAny_Name (wpAny_loadName_free I.ok.kind hk hc hcell fin hcd) hd
theorem ME{i j pos}:PE X (.Constant (.int i) j pos) (tC (.int i)):=fun _ _ _ H _ I h=>wpAny_Constant_int ⟨.int i,H,I.tok _,⟨_,rfl⟩,h⟩
theorem Pb{b j pos}:PE X (.Constant (.bool b) j pos) (tC (.bl b)):=fun _ _ _ H _ I h=>Constant_bool ⟨.bl b,H,I,rfl,h⟩
theorem L8{j pos}:PE X (.Constant .none j pos) (tC .non):=fun _ _ _ H _ I h=>Constant_none ⟨.non,H,I,rfl,h⟩
theorem Ja{x j pos}:PE X (.Constant (.str x) j pos) (tC (.str x)):=fun _ _ _ H _ I h=>Calls.Constant_str ⟨.str x,H,I.tok _,⟨_,rfl⟩,h⟩
def Gl(X:Cx)(x:Str):Prop:=X.env.kindOf x=some .globalImplicit
theorem eE{E:Value->Shared->Prop}{pins:List (Addr×Obj)}{s:Shared}{σ:St}{H:Hp}{x:Str}{u:Value}{pos:Pos}{Q:Value->Shared->Prop}(I:Inv X pins σ H s)(hg:Gl X x)(hm:X.mg x=some u)(h:Q u s)
  (hd:(x==("__debug__" : Str))=false:=by decide):wpAny (model X.prog X.w) X.A (eval (.Name x pos) X.env) Q E s:=
 Calls.Name_function_global I.ok.kind hg (Calls.loadGlobal_global (by rw[I.ok.glob];~I.mod.glob.keeps I.bk) hm h) hd
theorem cJ{E:Value->Shared->Prop}{pins:List (Addr×Obj)}{s:Shared}{σ:St}{H:Hp}{x:Str}{u:Value}{pos:Pos}{Q:Value->Shared->Prop}(I:Inv X pins σ H s)(hg:Gl X x)(hm:X.mg x=none)(hv:bootBuiltins x=some u)(h:Q u s)
  (hn:x ≠ "__name__":=by decide) (hd:(x==("__debug__" : Str))=false:=by decide):wpAny (model X.prog X.w) X.A (eval (.Name x pos) X.env) Q E s:=by
 !⟨mb,h1,h2⟩:=I.mod.blt
 ~Calls.Name_function_global I.ok.kind hg (Calls.loadGlobal_builtin (by rw[I.ok.glob];~I.mod.glob.keeps I.bk) hm (by rw[I.ok.blt];~h1.keeps I.bk) ((h2 x hn).trans hv) h) hd
theorem lu{x:Str}{v:V}{u:Value}{pos:Pos}(hg:Gl X x)(hm:X.mg x=some u)(r:RelV v u)(hd:(x==("__debug__" : Str))=false:=by decide):PE X (.Name x pos) (tC v):=
 fun _ _ _ H _ I h=>eE I hg hm ⟨v,H,I,r,h⟩ hd
theorem rL{x:Str}{v:V}{u:Value}{pos:Pos}(hg:Gl X x)(hm:X.mg x=none)(hv:bootBuiltins x=some u)(r:RelV v u)(hn:x ≠ "__name__":=by decide)(hd:(x==("__debug__" : Str))=false:=by decide):PE X (.Name x pos) (tC v):=
 fun _ _ _ H _ I h=>cJ I hg hm hv ⟨v,H,I,r,h⟩ hn hd
variable{a b:Expr}{ta tb:TE}{pos:Pos}
variable{tA tB':TT}{rest:List Expr}
def QD(t u:TT):TT:=fun σ H Q=>t σ H fun c H1=>if c=true then u σ H1 Q else Q false H1
def Rx(t u:TT):TT:=fun σ H Q=>t σ H fun c H1=>if c=true then Q true H1 else u σ H1 Q
def Qf(t:TT):TT:=fun σ H Q=>t σ H fun c H1=>Q (!c) H1
theorem JR(ha:PT X a tA):PW X (.BoolOp .And [a] pos) tA:=by
 intro wh pins s σ H Q I h
 &isTrue_and (uo (ha pins s σ H Q I h) fun c s1 e=>?_)
 cases c with
 | true=>~isTrue_and_nil e
 | false=>~e
theorem L3(ha:PT X a tA):PW X (.BoolOp .Or [a] pos) tA:=by
 intro wh pins s σ H Q I h
 &isTrue_or (uo (ha pins s σ H Q I h) fun c s1 e=>?_)
 cases c with
 | false=>~isTrue_or_nil e
 | true=>~e
theorem MH(ha:PT X a tA)(hb:PW X (.BoolOp .And (b::rest) pos) tB'):PW X (.BoolOp .And (a::b::rest) pos) (QD tA tB'):=by
 intro wh pins s σ H Q I h
 &isTrue_and (uo (ha pins s σ H _ I h) fun c s1 ⟨H1,I1,q1⟩=>?_)
 cases c with
 | true=>~hb wh pins s1 σ H1 Q I1 q1
 | false=>~⟨H1,I1,q1⟩
theorem NT(ha:PT X a tA)(hb:PW X (.BoolOp .Or (b::rest) pos) tB'):PW X (.BoolOp .Or (a::b::rest) pos) (Rx tA tB'):=by
 intro wh pins s σ H Q I h
 &isTrue_or (uo (ha pins s σ H _ I h) fun c s1 ⟨H1,I1,q1⟩=>?_)
 cases c with
 | true=>~⟨H1,I1,q1⟩
 | false=>~hb wh pins s1 σ H1 Q I1 q1
theorem sY(ha:PT X a tA):PT X (.UnaryOp .Not a pos) (Qf tA):=by
 intro pins s σ H Q I h
 ~isTrue_not (ha pins s σ H (fun c H1=>Q (!c) H1) I h)
def Pn(ta tb:TE):TE:=fun σ H Q=>ta σ H fun x H1=>∃c,x=.bl c/\if c=true then tb σ H1 Q else Q (.bl false) H1
def Ov(ta:TE):TE:=fun σ H Q=>ta σ H fun x H1=>∃c,x=.bl c/\Q (.bl (!c)) H1
theorem tN{op}{t:TE}(h:PE X a t):PE X (.BoolOp op [a] pos) t:=fun pins s σ H Q I hw=>BoolOp_one (h pins s σ H Q I hw)
theorem tK(ha:PE X a ta)(hb:PE X (.BoolOp .And (b::rest) pos) tb):PE X (.BoolOp .And (a::b::rest) pos) (Pn ta tb):=by
 intro pins s σ H Q I h
 &BoolOp_and (uo (ha pins s σ H _ I h) fun v s1 ⟨x,H1,I1,r1,q1⟩=>?_)
 !⟨c,rfl,q1⟩:=q1
 cases r1
 &wpAny_truthy_bool ?_
 cases c with
 | true=>~hb pins s1 σ H1 Q I1 q1
 | false=>~⟨.bl false,H1,I1,rfl,q1⟩
theorem tL(ha:PE X a ta):PE X (.UnaryOp .Not a pos) (Ov ta):=by
 intro pins s σ H Q I h
 &UnaryOp_ (uo (ha pins s σ H _ I h) fun v s1 ⟨x,H1,I1,r1,q1⟩=>?_)
 !⟨c,rfl,q1⟩:=q1
 cases r1
 ~not_of (wpAny_truthy_bool ⟨.bl (!c),H1,I1,rfl,q1⟩)
def RI(t:TT)(ta tb:TE):TE:=fun σ H Q=>t σ H fun c H1=>if c=true then ta σ H1 Q else tb σ H1 Q
theorem qN{c:Expr}(hc:PT X c tA)(ha:PE X a ta)(hb:PE X b tb):PE X (.IfExp c a b pos) (RI tA ta tb):=by
 intro pins s σ H Q I h
 &wpAny_IfExp (uo (hc pins s σ H _ I h) fun d s1 ⟨H1,I1,q1⟩=>?_)
 cases d with
 | true=>~ha pins s1 σ H1 Q I1 q1
 | false=>~hb pins s1 σ H1 Q I1 q1
end
end L2
namespace L2
open PySem PySem.Spec PyProof.Rows
def wj(K:PySem.W.Frag)(H:Hp)(a:Addr)(xs:List V):Prop:=
 Rd H a (.lst xs) \/
  ∃(o:Obj) (its:Array Value) (n:Nat),K.lookup a=some o/\o.cls=.type "list" /\ o.dict=none/\o.data=.seq its n/\its.size<=sizeLine/\l6 xs its.toList
def xj(K:PySem.W.Frag)(H:Hp)(a:Addr)(xs:List V):Prop:=
 Rd H a (.tup xs) \/
  ∃(o:Obj) (its:Array Value) (n:Nat),K.lookup a=some o/\o.cls=.type "tuple" /\ o.dict=none/\o.data=.seq its n/\its.size<=sizeLine/\l6 xs its.toList
noncomputable def Qc:Value->Option V
 | .none=>some .non
 | .bool b=>some (.bl b)
 | .int i _=>some (.int i)
 | .str x _=>some (.str x)
 | .bytes b _=>some (.byt b)
 | .float b _=>some (.flt b)
 | .ref a=>some (.ref a)
 | .type n=>some (.ty n)
 | _=>none
theorem RelV.abs{x:V}{u:Value}(r:RelV x u):Qc u=some x:=by
 cases x with
 | non=>cases r;rfl
 | bl _=>cases r;rfl
 | int _=>!⟨t,rfl⟩:=r;rfl
 | str _=>!⟨t,rfl⟩:=r;rfl
 | byt _=>!⟨t,rfl⟩:=r;rfl
 | flt _=>!⟨t,rfl⟩:=r;rfl
 | ref _=>cases r;rfl
 | ty _=>cases r;rfl
theorem RelV.inj{x y:V}{u:Value}(r:RelV x u)(q:RelV y u):x=y:=Option.some.inj (r.abs.symm.trans q.abs)
theorem l6.inj:∀{xs ys:List V} {us:List Value},l6 xs us->l6 ys us->xs=ys
 | _,_,_,.nil,.nil=>rfl
 | _,_,_,.cons r t,.cons r' t'=>by rw[r.inj r',l6.inj t t']
section
variable{X:Cx}{pins:List (Addr×Obj)}{σ:St}{H:Hp}{s:Shared}{a:Addr}{xs ys:List V}
theorem wj.of{K:PySem.W.Frag}(h:H a=some (.lst xs)):wj K H a xs:=.inl (.inl h)
theorem xj.of{K:PySem.W.Frag}(h:H a=some (.tup xs)):xj K H a xs:=.inl (.inl h)
theorem Inv.list(I:Inv X pins σ H s)(h:wj X.K H a xs):∃its:List Value,l6 xs its/\PlainL s.heap a its.toArray/\xs.length<=sizeLine:=by
 rcases h with h | ⟨o,its,n,hk,hc,hd,hs,hz,r⟩
 ·!⟨z,its,n,r,e⟩:=h.ok I.hok
  ~⟨its,r,⟨_,n,e,rfl,rfl,rfl⟩,z⟩
 ·&⟨its.toList,r,⟨o,n,I.kIn a o hk,hc,hd,by simpa using hs⟩,?_⟩
  have e:=r.length
  simp only[Array.length_toList] at e
  omega
theorem Inv.tuple(I:Inv X pins σ H s)(h:xj X.K H a xs):∃its:List Value,l6 xs its/\IsTup s.heap a its.toArray/\xs.length<=sizeLine:=by
 rcases h with h | ⟨o,its,n,hk,hc,hd,hs,hz,r⟩
 ·!⟨z,its,r,p⟩:=h.ok I.hok
  ~⟨its,r,p.is,z⟩
 ·&⟨its.toList,r,⟨o,I.kIn a o hk,hc,n,by simpa using hs⟩,?_⟩
  have e:=r.length
  simp only[Array.length_toList] at e
  omega
theorem Inv.list_inj(I:Inv X pins σ H s)(h:wj X.K H a xs)(h':wj X.K H a ys):xs=ys:=by
 !⟨its,r,⟨o,n,e,_,_,d⟩,_⟩:=I.list h
 !⟨its',r',⟨o',n',e',_,_,d'⟩,_⟩:=I.list h'
 rw[e] at e';cases e'
 rw[d] at d'
 injection d' with d1 _
 have:its=its':=by simpa using congrArg Array.toList d1
 subst this
 ~r.inj r'
theorem Inv.tuple_inj(I:Inv X pins σ H s)(h:xj X.K H a xs)(h':xj X.K H a ys):xs=ys:=by
 !⟨its,r,⟨o,e,_,n,d⟩,_⟩:=I.tuple h
 !⟨its',r',⟨o',e',_,n',d'⟩,_⟩:=I.tuple h'
 rw[e] at e';cases e'
 rw[d] at d'
 injection d' with d1 _
 have:its=its':=by simpa using congrArg Array.toList d1
 subst this
 ~r.inj r'
end
abbrev Cx.wish(X:Cx)(E:Value->Shared->Prop):Cx:={X with xe:=E}
abbrev Cx.nox(X:Cx):Cx:=X.wish fun _ _=>False
theorem Cx.Ok.wish{X:Cx}(ok:X.Ok)(E:Value->Shared->Prop):(X.wish E).Ok:=
 ⟨ok.mod,ok.kind,ok.glob,ok.blt,ok.above,ok.inj,ok.has,ok.cab,ok.hd,ok.frames,ok.stk,ok.exf,ok.bs,ok.bsz,ok.noex,ok.exfs,ok.funs,ok.frf⟩
theorem Cx.Ok.unwish{X:Cx}{E:Value->Shared->Prop}(ok:(X.wish E).Ok):X.Ok:=
 ⟨ok.mod,ok.kind,ok.glob,ok.blt,ok.above,ok.inj,ok.has,ok.cab,ok.hd,ok.frames,ok.stk,ok.exf,ok.bs,ok.bsz,ok.noex,ok.exfs,ok.funs,ok.frf⟩
section
variable{X:Cx}{pins:List (Addr×Obj)}{σ:St}{H:Hp}{s:Shared}{E:Value->Shared->Prop}
theorem Inv.wish(I:Inv X pins σ H s)(E:Value->Shared->Prop):Inv (X.wish E) pins σ H s:=⟨I.ok.wish E,I.os,I.bare,I.base,I.loc,I.cell,I.free,I.freeC,I.pin,I.hok,I.len⟩
theorem Inv.unwish(I:Inv (X.wish E) pins σ H s):Inv X pins σ H s:=⟨I.ok.unwish,I.os,I.bare,I.base,I.loc,I.cell,I.free,I.freeC,I.pin,I.hok,I.len⟩
theorem SP.unwish{D:Ends}{f:Flow}{s':Shared}(h:SP (X.wish E) pins D f s'):SP X pins D f s':=by
 cases f with
 | next=>!⟨σ',H',I,q⟩:=h;~⟨σ',H',I.unwish,q⟩
 | brk=>!⟨σ',H',I,q⟩:=h;~⟨σ',H',I.unwish,q⟩
 | cont=>!⟨σ',H',I,q⟩:=h;~⟨σ',H',I.unwish,q⟩
 | ret u=>!⟨v,σ',H',I,r,q⟩:=h;~⟨v,σ',H',I.unwish,r,q⟩
theorem PE.nox{e:Expr}{t:TE}(h:PE X.nox e t):PE X e t:=fun pins s σ H Q I hw =>
 wpAny_mono (h pins s σ H Q (I.wish _) hw) (fun _ _ ⟨v,H',I',r,q⟩=>⟨v,H',I'.unwish,r,q⟩) fun _ _ z=>False.elim z
theorem PT.nox{e:Expr}{t:TT}(h:PT X.nox e t):PT X e t:=fun pins s σ H Q I hw =>
 wpAny_mono (h pins s σ H Q (I.wish _) hw) (fun _ _ ⟨H',I',q⟩=>⟨H',I'.unwish,q⟩) fun _ _ z=>False.elim z
theorem PSs.nox{st:List Stmt}{t:TS}(h:PSs X.nox st t):PSs X st t:=fun pins s σ H D I hw =>
 wpAny_mono (h pins s σ H D (I.wish _) hw) (fun _ _ q=>q.unwish) fun _ _ z=>False.elim z
end
section
variable{X:Cx}{st:Stmt}{rest:List Stmt}{t u:TS}{e:Expr}{te:TE}{pos:Pos}
def Oz:TS:=fun D σ H=>D.nx σ H
def QM(t u:TS):TS:=fun D σ H=>t {D with nx:=u D} σ H
theorem zQ:PSs X [] Oz:=fun _ _ σ H _ I h=>wpAny_execs_nil ⟨σ,H,I,h⟩
theorem dl(h1:PS X st t)(h2:PSs X rest u):PSs X (st::rest) (QM t u):=by
 intro pins s σ H D I h
 &wpAny_execs_cons (uo (h1 pins s σ H {D with nx:=u D} I h) fun f s1 q=>?_)
 cases f with
 | next =>
  !⟨σ',H',I',q⟩:=q
  ~h2 pins s1 σ' H' D I' q
 | ret v=>~q
 | brk=>~q
 | cont=>~q
theorem da(h1:PS X st t):PSs X [st] t:=by
 intro pins s σ H D I h
 &wpAny_execs_cons (uo (h1 pins s σ H D I h) fun f s1 q=>?_)
 cases f with
 | next=>~wpAny_execs_nil q
 | ret v=>~q
 | brk=>~q
 | cont=>~q
theorem Inv.quiet{pins:List (Addr×Obj)}{σ:St}{H:Hp}{s:Shared}(I:Inv X pins σ H s):interactive X.env=false:=by simp[interactive,I.ok.kind]
def O0(te:TE):TS:=fun D σ H=>te σ H fun _ H1=>D.nx σ H1
theorem oB(he:PE X e te)(hs:swapsWith e none pos.line X.env=pure false:=by rfl):PS X (.Expr e pos) (O0 te):=by
 intro pins s σ H D I h
 ~wpAny_Expr_any (uo (he pins s σ H _ I h) fun v s1 ⟨x,H1,I1,r1,q1⟩=>⟨σ,H1,I1,q1⟩) I.quiet hs
def Ql(te:TE):TS:=fun D σ H=>te σ H D.rt
theorem lH(he:PE X e te):PS X (.Return (some e) pos) (Ql te):=by
 intro pins s σ H D I h
 ~wpAny_Return_some (uo (he pins s σ H _ I h) fun v s1 ⟨x,H1,I1,r1,q1⟩=>⟨x,σ,H1,I1,r1,q1⟩)
def Qj(c:TT)(t u:TS):TS:=fun D σ H=>c σ H fun b H1=>if b=true then t D σ H1 else u D σ H1
theorem jH{c:Expr}{a b:List Stmt}{tc:TT}(hc:PT X c tc)(ha:PSs X a t)(hb:PSs X b u):PS X (.If c a b pos) (Qj tc t u):=by
 intro pins s σ H D I h
 &wpAny_If (uo (hc pins s σ H _ I h) fun d s1 ⟨H1,I1,q1⟩=>?_)
 cases d with
 | true=>~ha pins s1 σ H1 D I1 q1
 | false=>~hb pins s1 σ H1 D I1 q1
end
abbrev TG:=V->St->Hp->(St->Hp->Prop)->Prop
abbrev Re:=List V->St->Hp->(St->Hp->Prop)->Prop
def PG(X:Cx)(target:Expr)(t:TG):Prop:=
 ∀(pins:List (Addr×Obj)) (s:Shared) (σ:St) (H:Hp) (v:V) (u:Value) (Q:St->Hp->Prop),Inv X pins σ H s->RelV v u->t v σ H Q ->
  wpAny (model X.prog X.w) X.A (assign target X.env u) (fun _ s'=>∃ σ' H',Inv X pins σ' H' s'/\Q σ' H') X.xe s
def PGs(X:Cx)(ts:List Expr)(t:Re):Prop:=
 ∀(pins:List (Addr×Obj)) (s:Shared) (σ:St) (H:Hp) (vs:List V) (us:List Value) (Q:St->Hp->Prop),Inv X pins σ H s->l6 vs us->t vs σ H Q ->
  wpAny (model X.prog X.w) X.A (assignInOrder ((assignEach ts X.env).map (·.2)) us) (fun _ s'=>∃ σ' H',Inv X pins σ' H' s'/\Q σ' H') X.xe s
section
variable{X:Cx}{pos:Pos}
def Lj(i:Nat):TG:=fun v σ H Q=>Q (σ.set i (some v)) H
theorem rX{i:Nat}{x:Str}(hN:X.N.Nodup)(hi:X.N[i]?=some x)(hx:Loc X.env.scope x)(hf:X.fn x=true\/X.env.scope.names.lookup x=some .local:=by first | ~.inl rfl | ~.inr rfl | assumption):PG X (.Name x pos) (Lj i):=by
 intro pins s σ H v u Q I r h
 ~wpAny_assign_Name (zA I hN hi hx r (fun s' I'=>⟨_,H,I',h⟩) hf)
def NU(te:TE)(g:TG):TS:=fun D σ H=>te σ H fun x H1=>g x σ H1 D.nx
theorem sO{tg e:Expr}{te:TE}{g:TG}(he:PE X e te)(hg:PG X tg g)(hs:swapsWithSole [tg] e pos.line X.env=pure false:=by rfl)(hw:swappedStores [tg] e X.env=pure none:=by rfl)
  (h1:(assignEach [tg] X.env).map (·.2)=[assign tg X.env]:=by rfl):PS X (.Assign [tg] e pos) (NU te g):=by
 intro pins s σ H D I h
 &wpAny_Assign_stores (uo (he pins s σ H _ I h) fun v s1 ⟨x,H1,I1,r1,q1⟩=>?_) hs hw
 rw[h1]
 ~uo (hg pins s1 σ H1 x v _ I1 r1 q1) fun _ s2 q=>q
theorem g_{i:Nat}{x:Str}{e:Expr}{te:TE}{pos':Pos}(hN:X.N.Nodup)(hi:X.N[i]?=some x)(hx:Loc X.env.scope x)(he:PE X e te)(hs:swapsWith e (some (.Name x pos')) pos.line X.env=pure false:=by rfl)(hf:X.fn x=true\/X.env.scope.names.lookup x=some .local:=by first | ~.inl rfl | ~.inr rfl | assumption) :
  PS X (.Assign [.Name x pos'] e pos) (NU te (Lj i)):=by
 intro pins s σ H D I h
 &wpAny_Assign_Name (uo (he pins s σ H _ I h) fun v s1 ⟨y,H1,I1,r1,q1⟩=>?_) hs
 ~zA I1 hN hi hx r1 (fun s2 I2=>⟨_,H1,I2,q1⟩) hf
end
section
variable{X:Cx}{pos:Pos}
def Mi(c:TT)(tb:TS):TS:=fun D σ H=>∃W:Nat->St->Hp->Prop,(∃m,W m σ H)/\∀m σ H,W m σ H ->
 c σ H fun b H1=>if b=true then ∃N:St->Hp->Prop,(∀ σ' H',N σ' H'->∃m',m'<m/\W m' σ' H')/\tb {D with nx:=N,ct:=N,bk:=D.nx} σ H1 else D.nx σ H1
theorem qS{c:Expr}{body:List Stmt}{tc:TT}{tb:TS}(hp:PassesOwn (model X.prog X.w) X.A X.env X.xe)(hc:PT X c tc)(hb:PSs X body tb):PS X (.While c body [] pos) (Mi tc tb):=by
 intro pins s σ H D I h
 !⟨W,⟨m0,w0⟩,turn⟩:=h
 &wpAny_While (codeAny_whileLoop (fun n s'=>∃ σ' H',Inv X pins σ' H' s'/\W n σ' H') ?_ m0 ⟨σ,H,I,w0⟩)
 rintro n s1 ⟨σ1,H1,I1,w1⟩
 &wpAny_passesOwn hp (uo (hc pins s1 σ1 H1 _ I1 (turn n σ1 H1 w1)) fun b s2 ⟨H2,I2,q2⟩=>?_)
 cases b with
 | true =>
  !⟨N,hN,q2⟩:=q2
  rw[if_pos rfl]
  &wpAny_passesOwn hp (uo (hb pins s2 σ1 H2 _ I2 q2) fun f s3 q3=>?_)
  cases f with
  | next =>
   !⟨σ3,H3,I3,n3⟩:=q3
   !⟨m',hm,w3⟩:=hN σ3 H3 n3
   ~⟨m',hm,σ3,H3,I3,w3⟩
  | cont =>
   !⟨σ3,H3,I3,n3⟩:=q3
   !⟨m',hm,w3⟩:=hN σ3 H3 n3
   ~⟨m',hm,σ3,H3,I3,w3⟩
  | brk=>~q3
  | ret v=>~q3
 | false =>
  rw[if_neg Bool.false_ne_true]
  ~wpAny_execs_nil ⟨σ1,H2,I2,q2⟩
end
structure It where
 go:Nat->Hp->Prop
 yld:Nat->Hp->V->Hp->Prop
 stop:Nat->Hp->Prop
def zC(X:Cx)(pins:List (Addr×Obj))(H:Hp)(b:Addr):Prop:=
 H b=none/\b≠X.env.locals/\b∉X.fs/\(b∈X.ex\/X.s₀.heap.objs.size<=b)/\(∀x c,X.env.cells.lookup x=some c->c≠b)/\∀p∈X.pn++pins,p.1≠b
theorem Inv.fpOk{X:Cx}{pins:List (Addr×Obj)}{σ:St}{H H':Hp}{s:Shared}{b:Addr}(I:Inv X pins σ H s)(hb:s.heap.objs.size<=b)(hn:H' b=none):zC X pins H' b:=by
 &⟨hn,Nat.ne_of_gt (Nat.lt_of_lt_of_le I.lt hb),I.nofs hb,.inr (Nat.le_trans I.sz hb),fun x c e z=>?_,fun p hp z=>?_⟩
 ·!⟨v,q⟩:=I.cell x c e
  ~absurd (Nat.lt_of_lt_of_le q.lt (by rw[z];~hb)) (Nat.lt_irrefl _)
 ·~absurd (Nat.lt_of_lt_of_le (Heap.lt_size (I.pin p hp).1) (by rw[z];~hb)) (Nat.lt_irrefl _)
structure Turn (P:Program) (w:World) (K:PySem.W.Frag) (tg:Expr) (J:It) (fp:List Addr) (it:Addr) (tn:Nat->Heap->Prop):Prop where
 mem:it∈fp
 obj:∀i h,tn i h->∀b∈fp,∃o,h.get? b=some o/\∀v,o.data≠.cell v
 keep:∀i h h',tn i h->(∀b∈fp,∀o,h.get? b=some o->h'.get? b=some o)->tn i h'
 item:∀(X:Cx),X.prog=P->X.w=w->X.K=K->X.calm=true->∀(i:Nat) (pins:List (Addr×Obj)) (s:Shared) (σ:St) (H:Hp) (E:Value->Shared->Prop),Inv X pins σ H s->(∀b∈fp,zC X pins H b)->tn i s.heap->J.go i H ->
  wpAny (model P w) X.A (pyNext (.ref it)) (fun r s1=>∃u,r=some u /\
   wpAny (model P w) X.A (letOwnedTupleGo tg (.ref it) u) (fun _ s2=>∃x H',Inv X pins σ H' s2/\RelV x u/\J.yld i H x H'/\tn (i+1) s2.heap/\∀b∈fp,H' b=none) E s1) E s
 done:∀(X:Cx),X.prog=P->X.w=w->X.K=K->X.calm=true->∀(i:Nat) (pins:List (Addr×Obj)) (s:Shared) (σ:St) (H:Hp) (E:Value->Shared->Prop),Inv X pins σ H s->(∀b∈fp,zC X pins H b)->tn i s.heap->J.stop i H ->
  wpAny (model P w) X.A (pyNext (.ref it)) (fun r s1=>r=none/\Inv X pins σ H s1) E s
 self:∀(A:Around) (i:Nat) (s:Shared) (Q:Value->Shared->Prop) (E:Value->Shared->Prop),tn i s.heap->Q (.ref it) s->wpAny (model P w) A (pyIter (.ref it)) Q E s
abbrev TI:=St->Hp->(It->Hp->Prop)->Prop
def Q8(X:Cx)(pins:List (Addr×Obj))(σ:St)(tg:Expr)(R:It->Hp->Prop)(itv:Value)(s2:Shared):Prop:=
 ∃(it:Addr) (fp:List Addr) (tn:Nat->Heap->Prop) (J:It) (H':Hp),itv=.ref it/\Inv X pins σ H' s2/\Turn X.prog X.w X.K tg J fp it tn/\tn 0 s2.heap/\(∀b∈fp,zC X pins H' b)/\R J H'
def PI(X:Cx)(tg iter:Expr)(wi:TI):Prop:=
 ∀(pins:List (Addr×Obj)) (s:Shared) (σ:St) (H:Hp) (R:It->Hp->Prop),Inv X pins σ H s->wi σ H R ->
  wpAny (model X.prog X.w) X.A (eval iter X.env) (fun v s1=>wpAny (model X.prog X.w) X.A (pyIter v) (Q8 X pins σ tg R) X.xe s1) X.xe s
theorem FY {M:Model} {A:Around} {E:Value->Shared->Prop} {s:Shared} {tg:Expr} {it:Addr} {u:Value} {o:Obj} {n:String} {vs:Array Value} {Q:Unit->Shared->Prop} (ho:s.heap.get? it=some o) (hc:o.cls=.type n) (hd:o.data=.fields vs)
    (hn:["enumerate","zip","dict_itemiterator","dict_reverseitemiterator","odict_iterator","itertools.zip_longest","itertools.pairwise"].contains n=false) (hQ:Q () s):wpAny M A (letOwnedTupleGo tg (.ref it) u) Q E s:=by
  unfold letOwnedTupleGo
  cases tg<;>first
    | ~wpAny_pure hQ
    | (cases u<;>first
        | ~wpAny_pure hQ
        | (&wpAny_bind (wpAny_load ho ?_)
           rw[hc,hd]
           show wpAny M A (if (["enumerate","zip","dict_itemiterator","dict_reverseitemiterator","odict_iterator","itertools.zip_longest","itertools.pairwise"].contains n&&vs[0]?==some (rawInt _))=true then _ else _) Q E s
           rw[if_neg (by intro h;rw[hn,Bool.false_and] at h;cases h)]
           ~wpAny_pure hQ))
noncomputable def Px(K:PySem.W.Frag)(a:Addr):It:=
 ⟨fun i H=>∃xs x,wj K H a xs/\xs[i]?=some x,fun i H x H'=>H'=H/\∀xs,wj K H a xs->xs[i]?=some x,fun i H=>∃xs,wj K H a xs/\xs.length<=i⟩
def PN(K:PySem.W.Frag)(a:Addr):It:=
 ⟨fun i H=>∃xs x,xj K H a xs/\xs[i]?=some x,fun i H x H'=>H'=H/\∀xs,xj K H a xs->xs[i]?=some x,fun i H=>∃xs,xj K H a xs/\xs.length<=i⟩
noncomputable def NE(lo:Int)(n:Nat):It:=⟨fun i _=>i<n,fun i H x H'=>H'=H/\x=.int (lo+i),fun i _=>n<=i⟩
theorem G0{P:Program}{w:World}{K:PySem.W.Frag}{tg:Expr}(a it:Addr):Turn P w K tg (Px K a) [it] it (fun i h=>h.IsListIter it a i) where
 mem:=by simp
 obj:=fun i h st b hb=>by
  have e:b=it:=by simpa using hb
  subst e
  !⟨o,e,c,d⟩:=st
  ~⟨o,e,fun v z=>by rw[d] at z;cases z⟩
 keep:=fun i h h' st k=>st.at fun o e=>k it (by simp) o e
 item:=by
  intro X hP hw hK hc i pins s σ H E I hf st hg
  subst hP hw hK
  !⟨xs,x,hq,hx⟩:=hg
  !⟨its,rv,p,hz⟩:=I.list hq
  !⟨u,hu,ru⟩:=rv.get hx
  !⟨f0,f1,f2,f3,f4,f5⟩:=hf it (by simp)
  &wpAny_pyNext_list_item st p.isList (x:=u) (by simpa using hu) fun h' st' sb=>?_
  have I1:Inv X pins σ H {s with heap:=h' }:=I.turned (t':=s.toks) (fun b o hb e=>(sb.2 b hb).trans e) f0 f1 f3 f4 f5
  !⟨o,e,c,d⟩:=id st'
  ~⟨u,rfl,FY (s:={s with heap:=h' }) e c d (by decide) ⟨x,H,I1,ru,⟨rfl,fun ys hy=>by rw[I.list_inj hy hq];~hx⟩,st',fun b hb=>(hf b hb).1⟩⟩
 done:=by
  intro X hP hw hK hc i pins s σ H E I hf st hg
  subst hP hw hK
  !⟨xs,hq,hx⟩:=hg
  !⟨its,rv,p,hz⟩:=I.list hq
  !⟨f0,f1,f2,f3,f4,f5⟩:=hf it (by simp)
  have hl:=rv.length
  ~wpAny_pyNext_list_end (I.ok.hd hc) st p.isList (by simp;omega) fun h' eb=>⟨rfl,I.turned (t':=s.toks) (fun b o hb e=>eb b o hb e) f0 f1 f3 f4 f5⟩
 self:=fun _ _ _ _ _ st h=>wpAny_pyIter_listiter st h
theorem E1{P:Program}{w:World}{K:PySem.W.Frag}{tg:Expr}(a it:Addr):Turn P w K tg (PN K a) [it] it (fun i h=>h.IsTupleIter it a i) where
 mem:=by simp
 obj:=fun i h st b hb=>by
  have e:b=it:=by simpa using hb
  subst e
  !⟨o,e,c,d⟩:=st
  ~⟨o,e,fun v z=>by rw[d] at z;cases z⟩
 keep:=fun i h h' st k=>st.at fun o e=>k it (by simp) o e
 item:=by
  intro X hP hw hK hc i pins s σ H E I hf st hg
  subst hP hw hK
  !⟨xs,x,hq,hx⟩:=hg
  !⟨its,rv,p,hz⟩:=I.tuple hq
  !⟨u,hu,ru⟩:=rv.get hx
  !⟨f0,f1,f2,f3,f4,f5⟩:=hf it (by simp)
  &wpAny_pyNext_tuple_item st (show s.heap.IsTuple a its.toArray from p) (x:=u) (by simpa using hu) fun h' st' sb=>?_
  have I1:Inv X pins σ H {s with heap:=h' }:=I.turned (t':=s.toks) (fun b o hb e=>(sb.2 b hb).trans e) f0 f1 f3 f4 f5
  !⟨o,e,c,d⟩:=id st'
  ~⟨u,rfl,FY (s:={s with heap:=h' }) e c d (by decide) ⟨x,H,I1,ru,⟨rfl,fun ys hy=>by rw[I.tuple_inj hy hq];~hx⟩,st',fun b hb=>(hf b hb).1⟩⟩
 done:=by
  intro X hP hw hK hc i pins s σ H E I hf st hg
  subst hP hw hK
  !⟨xs,hq,hx⟩:=hg
  !⟨its,rv,p,hz⟩:=I.tuple hq
  !⟨f0,f1,f2,f3,f4,f5⟩:=hf it (by simp)
  have hl:=rv.length
  ~wpAny_pyNext_tuple_end (I.ok.hd hc) st (show s.heap.IsTuple a its.toArray from p) (by simp;omega) fun h' eb=>⟨rfl,I.turned (t':=s.toks) (fun b o hb e=>eb b o hb e) f0 f1 f3 f4 f5⟩
 self:=fun _ _ _ _ _ st h=>wpAny_pyIter_tupleiter st h
theorem EN{P:Program}{w:World}{K:PySem.W.Frag}{tg:Expr}(it:Addr)(lo:Int)(n:Nat):Turn P w K tg (NE lo n) [it] it (fun i h=>IsRangeIter h it (lo+(i:Nat)*1) ((n:Int) - (i:Nat)) 1) where
 mem:=by simp
 obj:=fun i h st b hb=>by
  have e:b=it:=by simpa using hb
  subst e
  ~⟨_,st,fun v z=>by
   have z':Data.fields _=Data.cell v:=z
   cases z'⟩
 keep:=fun i h h' st k=>k it (by simp) _ st
 item:=by
  intro X hP hw hK hc i pins s σ H E I hf st hg
  subst hP hw hK
  !⟨f0,f1,f2,f3,f4,f5⟩:=hf it (by simp)
  have W:=Walks.range (prog:=X.prog) (w:=X.w) (I.ok.hd hc) it lo 1 n
  &W.item i s _ _ hg st fun v h' tk hv st' kk=>?_
  !⟨t,rfl⟩:=hv
  have I1:Inv X pins σ H {s with heap:=h',toks:=tk}:=I.turned (fun b o hb e=>kk b o (by simpa using hb) e) f0 f1 f3 f4 f5
  &⟨_,rfl,FY (s:={s with heap:=h',toks:=tk}) (n:="range_iterator") st' rfl rfl (by decide) ⟨.int (lo+i),H,I1,⟨t,?_⟩,⟨rfl,rfl⟩,st',fun b hb=>(hf b hb).1⟩⟩
  rw[Int.mul_one]
 done:=by
  intro X hP hw hK hc i pins s σ H E I hf st hg
  subst hP hw hK
  !⟨f0,f1,f2,f3,f4,f5⟩:=hf it (by simp)
  ~wpAny_pyNext_range_end (I.ok.hd hc) st (by have:n<=i:=hg;omega) fun h' eb=>⟨rfl,I.turned (t':=s.toks) (fun b o hb e=>eb b o hb e) f0 f1 f3 f4 f5⟩
 self:=fun _ _ _ _ _ st h=>wpAny_pyIter_rangeiter st h
end L2
namespace L2
open PySem PySem.Spec PyProof.Rows
section
variable{X:Cx}{tg:Expr}
theorem Iz{pins:List (Addr×Obj)}{σ:St}{H:Hp}{s:Shared}{R:It->Hp->Prop}{E:Value->Shared->Prop}{lo hi:Int}{t u v:Tok}{tk:Nat}(I:Inv X pins σ H s)(h1 : -(2 ^ 62)<=lo)(h2:lo<2 ^ 62)(h3 : -(2 ^ 62)<=hi)(h4:hi<2 ^ 62)
  (q:R (NE lo (hi - lo).toNat) H):wpAny (model X.prog X.w) X.A (pyIter (.ref s.heap.objs.size)) (Q8 X pins σ tg R) E {s with heap:=s.heap.push {cls:=.type "range",data:=.fields #[.int lo t,.int hi u,.int 1 v]},toks:=tk}:=by
 &wpAny_pyIter_range (IsRange.new ..) (small_one h1 h2 h3 h4) ?_
 have I1:Inv X pins σ H {s with heap:=s.heap.push {cls:=.type "range",data:=.fields #[.int lo t,.int hi u,.int 1 v]},toks:=tk}:=I.kept fun b o e=>Heap.get?_push_of_some _ e
 &⟨(s.heap.push {cls:=.type "range",data:=.fields #[.int lo t,.int hi u,.int 1 v]}).objs.size,[(s.heap.push {cls:=.type "range",data:=.fields #[.int lo t,.int hi u,.int 1 v]}).objs.size],_,_,H,rfl,
  I1.kept (t':=tk) fun b o e=>Heap.get?_push_of_some _ e,EN _ lo (hi - lo).toNat,?_,fun b hb=>?_,q⟩
 ·have e1:lo+((0:Nat):Int)*1=lo:=by simp
  have e2:(((hi - lo).toNat:Nat):Int) - ((0:Nat):Int)=Builtin.Range.rangeSize lo hi 1:=by rw[rangeSize_one];split<;>omega
  show IsRangeIter _ _ (lo+((0:Nat):Int)*1) ((((hi - lo).toNat:Nat):Int) - ((0:Nat):Int)) 1
  rw[e1,e2]
  ~Heap.get?_push_size _ rfl
 ·have e:b=(s.heap.push {cls:=.type "range",data:=.fields #[.int lo t,.int hi u,.int 1 v]}).objs.size:=by simpa using hb
  subst e
  ~I1.fpOk (Nat.le_refl _) (I1.hok.fresh (Nat.le_refl _))
def Pl(ta:TA):TI:=fun σ H R=>ta σ H fun vs H1=>∃j:Int,vs=[.int j] /\ -(2 ^ 62)<=j/\j<2 ^ 62/\R (NE 0 j.toNat) H1
theorem kn{a:Expr}{ta:TA}{p pos:Pos}(hg:Gl X "range")(hm:X.mg "range" = none)(ha:PA X [a] ta)(hs:starEach [a] X.env=[(false,eval a X.env)]:=by rfl):PI X tg (.Call (.Name "range" p) [a] [] pos) (Pl ta):=by
 intro pins s σ H R I h
 &Call_ (cJ I hg hm boot_range (PyProof.Rows.callWith_type1 (uo (ha pos pins s σ H _ I h) fun us s1 ⟨vs,H1,I1,r1,q1⟩=>?_) hs rfl))
 !⟨j,e,q1,q2,q⟩:=q1
 subst e
 cases r1 with
 | cons r rr =>
  cases rr
  !⟨t,rfl⟩:=r
  ~call_range_1 (Iz I1 (by omega) (by omega) q1 q2 (by simpa using q))
noncomputable def Qk(wi:TI)(g:TG)(tb:TS):TS:=fun D σ H=>wi σ H fun J H1=>∃W:Nat->Nat->St->Hp->Prop,(∃m,W 0 m σ H1)/\∀i m σ H,W i m σ H ->
 (J.stop i H/\D.nx σ H)\/(J.go i H/\∃N:St->Hp->Prop,(∀ σ' H',N σ' H'->∃m',m'<m/\W (i+1) m' σ' H')/\∀x H',J.yld i H x H'->g x σ H' fun σ2 H2=>tb {D with nx:=N,ct:=N,bk:=D.nx} σ2 H2)
def y_(fp:List Addr)(h:Heap):List (Addr×Obj):=fp.filterMap fun b=>(h.get? b).map fun o=>(b,o)
theorem dz{fp:List Addr}{h:Heap}{b:Addr}{o:Obj}(hb:b∈fp)(e:h.get? b=some o):(b,o)∈y_ fp h:=List.mem_filterMap.mpr ⟨b,hb,by rw[e];rfl⟩
theorem CS{fp:List Addr}{h:Heap}{p:Addr×Obj}(hp:p∈y_ fp h):p.1∈fp/\h.get? p.1=some p.2:=by
 !⟨b,hb,e⟩:=List.mem_filterMap.mp hp
 cases q:h.get? b with
 | none=>rw[q] at e;cases e
 | some o =>
  rw[q] at e
  have e':(b,o)=p:=Option.some.inj e
  subst e'
  ~⟨hb,q⟩
theorem Inv.pinned{pins:List (Addr×Obj)}{σ:St}{H:Hp}{s:Shared}{fp:List Addr}(I:Inv X pins σ H s)(hf:∀b∈fp,zC X pins H b)(ho:∀b∈fp,∃o,s.heap.get? b=some o/\∀v,o.data≠.cell v):Inv X (pins++y_ fp s.heap) σ H s:=
 I.pins_of fun p hp=>(List.mem_append.mp hp).elim (fun z=>I.pin p (List.mem_append_right _ z)) fun z=>by
  !⟨hb,e⟩:=CS z
  !⟨f0,f1,f2,_⟩:=hf p.1 hb
  !⟨o,e',d⟩:=ho p.1 hb
  rw[e] at e';cases e'
  ~⟨e,f0,f1,f2,d⟩
theorem Inv.unpinned{pins pl:List (Addr×Obj)}{σ:St}{H:Hp}{s:Shared}(I:Inv X (pins++pl) σ H s):Inv X pins σ H s:=I.pins_of fun p hp=>I.pin p (List.mem_append_right _ (List.mem_append_left _ hp))
theorem nB{iter:Expr}{body:List Stmt}{wi:TI}{g:TG}{tb:TS}{pos:Pos}(hp:PassesOwn (model X.prog X.w) X.A X.env X.xe)(hc:X.calm=true)(hi:PI X tg iter wi)(hg:PG X tg g)(hb:PSs X body tb)
  (hs:∀x,foldedSetIterable iter X.env x=pure x:=by intro _;rfl):PS X (.For tg iter body [] pos) (Qk wi g tb):=by
 intro pins s σ H D I h
 &wpAny_For (uo (hi pins s σ H _ I h) fun v s1 h1=>uo h1 fun itv s2 h2=>?_) hs
 !⟨it,fp,tn,J,H2,e,I2,T,st2,f2,W,⟨m0,w0⟩,turn⟩:=h2
 subst e
 have stat:∀{H':Hp},(∀b∈fp,H' b=none)->∀b∈fp,zC X pins H' b:=fun hn b hb=>⟨hn b hb,(f2 b hb).2⟩
 &codeAny_forLoop_any (fun n s'=>∃i σ' H',Inv X pins σ' H' s'/\tn i s'.heap/\(∀b∈fp,H' b=none)/\W i n σ' H') ?_ m0 ⟨0,σ,H2,I2,st2,fun b hb=>(f2 b hb).1,w0⟩
 rintro n s3 ⟨i,σ3,H3,I3,st3,fr3,w3⟩
 rcases turn i n σ3 H3 w3 with ⟨stop,qn⟩ | ⟨go,N,hN,step⟩
 ·&wpAny_passesOwn hp (uo (T.done X rfl rfl rfl hc i pins s3 σ3 H3 X.xe I3 (stat fr3) st3 stop) fun r s4 ⟨hr,I4⟩=>?_)
  subst hr
  ~wpAny_execs_nil ⟨σ3,H3,I4,qn⟩
 ·&wpAny_passesOwn hp (uo (T.item X rfl rfl rfl hc i pins s3 σ3 H3 X.xe I3 (stat fr3) st3 go) fun r s4 ⟨u,hr,h4⟩=>?_)
  subst hr
  &wpAny_passesOwn hp (uo h4 fun _ s5 ⟨x,H5,I5,r5,y5,st5,fr5⟩=>?_)
  have I5':=I5.pinned (stat fr5) (T.obj _ _ st5)
  &wpAny_passesOwn hp (uo (hg _ s5 σ3 H5 x u _ I5' r5 (step x H5 y5)) fun _ s6 ⟨σ6,H6,I6,q6⟩=>?_)
  &wpAny_passesOwn hp (uo (hb _ s6 σ6 H6 _ I6 q6) fun f s7 q7=>?_)
  have again:∀{σ7:St} {H7:Hp},Inv X (pins++y_ fp s5.heap) σ7 H7 s7->N σ7 H7->∃m,m<n/\∃i σ' H',Inv X pins σ' H' s7/\tn i s7.heap/\(∀b∈fp,H' b=none)/\W i m σ' H':=fun {σ7 H7} I7 n7=>by
   !⟨m',hm,w7⟩:=hN σ7 H7 n7
   &⟨m',hm,i+1,σ7,H7,I7.unpinned,T.keep _ _ _ st5 fun b hb o e=>(I7.pin (b,o) (List.mem_append_right _ (List.mem_append_right _ (dz hb e)))).1,fun b hb=>?_,w7⟩
   !⟨o,e,d⟩:=T.obj _ _ st5 b hb
   ~(I7.pin (b,o) (List.mem_append_right _ (List.mem_append_right _ (dz hb e)))).2.1
  cases f with
  | next=>!⟨σ7,H7,I7,n7⟩:=q7;~again I7 n7
  | cont=>!⟨σ7,H7,I7,n7⟩:=q7;~again I7 n7
  | brk=>!⟨σ7,H7,I7,q7⟩:=q7;~⟨σ7,H7,I7.unpinned,q7⟩
  | ret v=>!⟨x7,σ7,H7,I7,r7,q7⟩:=q7;~⟨x7,σ7,H7,I7.unpinned,r7,q7⟩
end
end L2
namespace L2
open PySem PySem.Spec PyProof.Rows
abbrev R2:=V->V->Hp->VK->Prop
def OpR(X:Cx)(f:Value->Value->Sem Value)(r:R2):Prop:=
 ∀(pins:List (Addr×Obj)) (s:Shared) (σ:St) (H:Hp) (x y:V) (v u:Value) (Q:VK),Inv X pins σ H s->RelV x v->RelV y u->r x y H Q ->
  wpAny (model X.prog X.w) X.A (f v u) (EP X pins σ Q) X.xe s
def UnR(X:Cx)(f:Value->Sem Value)(r:V->Hp->VK->Prop):Prop:=
 ∀(pins:List (Addr×Obj)) (s:Shared) (σ:St) (H:Hp) (x:V) (v:Value) (Q:VK),Inv X pins σ H s->RelV x v->r x H Q ->
  wpAny (model X.prog X.w) X.A (f v) (EP X pins σ Q) X.xe s
def CallR(X:Cx)(f:Value)(r:List V->Hp->VK->Prop):Prop:=
 ∀(pins:List (Addr×Obj)) (s:Shared) (σ:St) (H:Hp) (xs:List V) (us:List Value) (Q:VK),Inv X pins σ H s->l6 xs us->r xs H Q ->
  wpAny (model X.prog X.w) X.A (call f us) (EP X pins σ Q) X.xe s
def QK(X:Cx)(r:V->Hp->(Bool->Hp->Prop)->Prop):Prop:=
 ∀(pins:List (Addr×Obj)) (s:Shared) (σ:St) (H:Hp) (x:V) (v:Value) (Q:Bool->Hp->Prop),Inv X pins σ H s->RelV x v->r x H Q ->
  wpAny (model X.prog X.w) X.A (truthy v) (TP X pins σ Q) X.xe s
def PF(r:R2)(ta tb:TE):TE:=fun σ H Q=>ta σ H fun x H1=>tb σ H1 fun y H2=>r x y H2 Q
def Ro(r:V->Hp->VK->Prop)(ta:TE):TE:=fun σ H Q=>ta σ H fun x H1=>r x H1 Q
def rI(C:Int->Int->Prop)(g:Int->Int->V):R2:=fun x y H Q=>∃i j,x=.int i/\y=.int j/\C i j/\Q (g i j) H
def JX(g:Int->Int->V):R2:=fun x y H Q=>∃i j,x=.int i/\y=.int j/\Q (g i j) H
def rU(g:Int->V):V->Hp->VK->Prop:=fun x H Q=>∃i,x=.int i/\Q (g i) H
section
variable{X:Cx}{a b c:Expr}{ta tb tc:TE}{pos:Pos}
theorem Nb(ha:PE X a ta)(hb:PE X b tb){pins:List (Addr×Obj)}{s:Shared}{σ:St}{H:Hp}{R:V->V->Hp->Prop}(I:Inv X pins σ H s)
  (h:ta σ H fun x H1=>tb σ H1 fun y H2=>R x y H2) {Q:Value->Shared->Prop} {f:Value->Value->Sem Value}
  (hf:∀v u s2 x y H2,Inv X pins σ H2 s2->RelV x v->RelV y u->R x y H2->wpAny (model X.prog X.w) X.A (f v u) Q X.xe s2) :
  wpAny (model X.prog X.w) X.A (eval a X.env) (fun v s₁=>wpAny (model X.prog X.w) X.A (eval b X.env) (fun u s₂=>wpAny (model X.prog X.w) X.A (f v u) Q X.xe s₂) X.xe s₁) X.xe s:=by
 &uo (ha pins s σ H _ I h) fun v s1 ⟨x,H1,I1,r1,q1⟩=>?_
 &uo (hb pins s1 σ H1 _ I1 q1) fun u s2 ⟨y,H2,I2,r2,q2⟩=>?_
 ~hf v u s2 x y H2 I2 r1 r2 q2
theorem tO{op:Operator}{r:R2}(ho:OpR X (binaryOp op) r)(ha:PE X a ta)(hb:PE X b tb):PE X (.BinOp a op b pos) (PF r ta tb):=by
 intro pins s σ H Q I h
 ~wpAny_BinOp (Nb ha hb I h fun v u s2 x y H2 I2 rx ry q=>ho pins s2 σ H2 x y v u Q I2 rx ry q)
theorem tT{op:UnaryOp}{r:V->Hp->VK->Prop}(ho:UnR X (unaryOp op) r)(ha:PE X a ta):PE X (.UnaryOp op a pos) (Ro r ta):=by
 intro pins s σ H Q I h
 ~UnaryOp_ (uo (ha pins s σ H _ I h) fun v s1 ⟨x,H1,I1,r1,q1⟩=>ho pins s1 σ H1 x v Q I1 r1 q1)
theorem PV{f:Value->Value->Sem Value}{C:Int->Int->Prop}{g:Int->Int->Int}
  (rule:∀(i j:Int) (t u:Tok) (s:Shared) (Q:Value->Shared->Prop) (E:Value->Shared->Prop),C i j->Q (.int (g i j) s.toks) {s with toks:=s.toks+1}->wpAny (model X.prog X.w) X.A (f (.int i t) (.int j u)) Q E s) :
  OpR X f (rI C fun i j=>.int (g i j)):=by
 intro pins s σ H x y v u Q I rx ry h
 !⟨i,j,rfl,rfl,hc,q⟩:=h
 !⟨t,rfl⟩:=rx
 !⟨t',rfl⟩:=ry
 ~rule i j t t' s _ _ hc ⟨.int (g i j),H,I.tok _,⟨_,rfl⟩,q⟩
theorem N5{f:Value->Value->Sem Value}{g:Int->Int->Int}
  (rule:∀(i j:Int) (t u:Tok) (s:Shared) (Q:Value->Shared->Prop) (E:Value->Shared->Prop),Q (.int (g i j) s.toks) {s with toks:=s.toks+1}->wpAny (model X.prog X.w) X.A (f (.int i t) (.int j u)) Q E s) :
  OpR X f (JX fun i j=>.int (g i j)):=by
 intro pins s σ H x y v u Q I rx ry h
 !⟨i,j,rfl,rfl,q⟩:=h
 !⟨t,rfl⟩:=rx
 !⟨t',rfl⟩:=ry
 ~rule i j t t' s _ _ ⟨.int (g i j),H,I.tok _,⟨_,rfl⟩,q⟩
theorem KC{f:Value->Value->Sem Value}{g:Int->Int->Bool}
  (rule:∀(i j:Int) (t u:Tok) (s:Shared) (Q:Value->Shared->Prop) (E:Value->Shared->Prop),Q (.bool (g i j)) s->wpAny (model X.prog X.w) X.A (f (.int i t) (.int j u)) Q E s) :
  OpR X f (JX fun i j=>.bl (g i j)):=by
 intro pins s σ H x y v u Q I rx ry h
 !⟨i,j,rfl,rfl,q⟩:=h
 !⟨t,rfl⟩:=rx
 !⟨t',rfl⟩:=ry
 ~rule i j t t' s _ _ ⟨.bl (g i j),H,I,rfl,q⟩
def P3(i j:Int):Prop:=0<j/\j<1073741824
def MD(i j:Int):Prop:=(-(2 ^ 64)<i/\i<2 ^ 64)\/(-(2 ^ 64)<j/\j<2 ^ 64)
theorem MD.ok{i j:Int}(h:MD i j):IntMulOk i j:=by
 rcases h with ⟨h1,h2⟩ | ⟨h1,h2⟩
 ·~.of_left (intBits_le_64 h1 h2)
 ·~.of_right (intBits_le_64 h1 h2)
theorem Ni:OpR X (binaryOp .Add) (JX fun i j=>.int (i+j)):=N5 fun _ _ _ _ _ _ _ q=>add_int q
theorem LS:OpR X (binaryOp .Sub) (JX fun i j=>.int (i - j)):=N5 fun _ _ _ _ _ _ _ q=>sub_int q
theorem MI:OpR X (binaryOp .Mult) (rI MD fun i j=>.int (i*j)):=PV fun _ _ _ _ _ _ _ hc q=>mul_int q hc.ok
theorem Kv:OpR X (binaryOp .FloorDiv) (rI P3 fun i j=>.int (i / j)):=PV fun i j _ _ _ _ _ hc q=>by
 have h1:(0:Int)<j:=hc.1
 have h2:j<1073741824:=hc.2
 ~floordiv_int (by omega) (by rw[Int.fdiv_eq_ediv_of_nonneg i (by omega)];~q) (.inl (PyProof.noPylong_small (by omega)))
theorem Mv:OpR X (binaryOp .Mod) (rI (fun _ j=>0<j) fun i j=>.int (i%j)):=PV fun i j _ _ _ _ _ hc q=>by
 have h1:(0:Int)<j:=hc
 ~mod_int' (by omega) (by rw[Int.fmod_eq_emod_of_nonneg i (by omega)];~q)
theorem Rh{f:Value->Sem Value}{g:Int->Int}
  (rule:∀(i:Int) (t:Tok) (s:Shared) (Q:Value->Shared->Prop) (E:Value->Shared->Prop),Q (.int (g i) s.toks) {s with toks:=s.toks+1}->wpAny (model X.prog X.w) X.A (f (.int i t)) Q E s) :
  UnR X f (rU fun i=>.int (g i)):=by
 intro pins s σ H x v Q I rx h
 !⟨i,rfl,q⟩:=h
 !⟨t,rfl⟩:=rx
 ~rule i t s _ _ ⟨.int (g i),H,I.tok _,⟨_,rfl⟩,q⟩
theorem M8:UnR X (unaryOp .USub) (rU fun i=>.int (-i)):=Rh fun _ _ _ _ _ q=>neg_int q
end
noncomputable def IT:V->V->Bool
 | .non,.non=>true | .non,.int _=>true | .int _,.non=>true | .non,.bl _=>true | .bl _,.non=>true | .non,.str _=>true | .str _,.non=>true
 | .int _,.int _=>true | .bl _,.bl _=>true | .str _,.str _=>true | .byt _,.byt _=>true
 | .int _,.str _=>true | .str _,.int _=>true | .bl _,.str _=>true | .str _,.bl _=>true
 | _,_=>false
def Ri:R2:=fun x y H Q=>IT x y=true/\Q (.bl (decide (x=y))) H
def RD:R2:=fun x y H Q=>IT x y=true/\Q (.bl (!decide (x=y))) H
theorem zE{i j:Int}:decide (V.int i=V.int j)=(i==j):=by
 rw[Bool.eq_iff_iff]
 simp
theorem AU{i j:Bool}:decide (V.bl i=V.bl j)=(i==j):=by
 rw[Bool.eq_iff_iff]
 simp
theorem zz{i j:Str}:decide (V.str i=V.str j)=(i==j):=by
 rw[Bool.eq_iff_iff]
 simp
theorem Gb{i j:Array UInt8}:decide (V.byt i=V.byt j)=(i.toList==j.toList):=by
 rw[Bool.eq_iff_iff]
 cases i
 cases j
 simp
section
variable{X:Cx}{a b c:Expr}{ta tb tc:TE}{pos:Pos}
theorem s8{pins:List (Addr×Obj)}{σ:St}{H:Hp}{s:Shared}{Q:VK}{k k':Bool}(I:Inv X pins σ H s)(q:Q (.bl k) H)(e:k=k'):EP X pins σ Q (.bool k') s:=by
 subst e
 ~⟨.bl k,H,I,rfl,q⟩
theorem Lw:OpR X (compareOp .Eq) Ri:=by
 intro pins s σ H x y v u Q I rx ry h
 !⟨hs,q⟩:=h
 cases x with
 | non =>
  cases rx
  cases y with
  | non=>cases ry;~PySem.EqNone.eq_none_none (s8 I q (by simp))
  | bl j=>cases ry;~PySem.EqNone.eq_none_bool (s8 I q (by simp))
  | int j=>!⟨t',rfl⟩:=ry;~PySem.EqNone.eq_none_int (s8 I q (by simp))
  | str j=>!⟨t',rfl⟩:=ry;~PySem.EqNone.eq_none_str (s8 I q (by simp))
  | _=>~absurd (show false=true from hs) Bool.false_ne_true
 | bl i =>
  cases rx
  cases y with
  | non=>cases ry;~PySem.EqNone.eq_bool_none (s8 I q (by simp))
  | bl j=>cases ry;~eq_bool (s8 I q AU)
  | str j=>!⟨t',rfl⟩:=ry;~PySem.EqMixed.eq_bool_str (s8 I q (by simp))
  | _=>~absurd (show false=true from hs) Bool.false_ne_true
 | int i =>
  !⟨t,rfl⟩:=rx
  cases y with
  | non=>cases ry;~PySem.EqNone.eq_int_none (s8 I q (by simp))
  | int j=>!⟨t',rfl⟩:=ry;~eq_int (s8 I q zE)
  | str j=>!⟨t',rfl⟩:=ry;~PySem.EqMixed.eq_int_str (s8 I q (by simp))
  | _=>~absurd (show false=true from hs) Bool.false_ne_true
 | str i =>
  !⟨t,rfl⟩:=rx
  cases y with
  | non=>cases ry;~PySem.EqNone.eq_str_none (s8 I q (by simp))
  | bl j=>cases ry;~PySem.EqMixed.eq_str_bool (s8 I q (by simp))
  | int j=>!⟨t',rfl⟩:=ry;~PySem.EqMixed.eq_str_int (s8 I q (by simp))
  | str j=>!⟨t',rfl⟩:=ry;~eq_str (s8 I q zz)
  | _=>~absurd (show false=true from hs) Bool.false_ne_true
 | byt i =>
  !⟨t,rfl⟩:=rx
  cases y with
  | byt j=>!⟨t',rfl⟩:=ry;~PySem.W.eq_bytes (s8 I q Gb)
  | _=>~absurd (show false=true from hs) Bool.false_ne_true
 | _=>cases y<;>~absurd (show false=true from hs) Bool.false_ne_true
theorem O1:OpR X (compareOp .NotEq) RD:=by
 intro pins s σ H x y v u Q I rx ry h
 !⟨hs,q⟩:=h
 cases x with
 | non =>
  cases rx
  cases y with
  | non=>cases ry;~PySem.EqNone.ne_none_none (s8 I q (by simp))
  | bl j=>cases ry;~PySem.EqNone.ne_none_bool (s8 I q (by simp))
  | int j=>!⟨t',rfl⟩:=ry;~PySem.EqNone.ne_none_int (s8 I q (by simp))
  | str j=>!⟨t',rfl⟩:=ry;~PySem.EqNone.ne_none_str (s8 I q (by simp))
  | _=>~absurd (show false=true from hs) Bool.false_ne_true
 | bl i =>
  cases rx
  cases y with
  | non=>cases ry;~PySem.EqNone.ne_bool_none (s8 I q (by simp))
  | bl j=>cases ry;~ne_bool (s8 I q (congrArg not AU))
  | str j=>!⟨t',rfl⟩:=ry;~PySem.EqMixed.ne_bool_str (s8 I q (by simp))
  | _=>~absurd (show false=true from hs) Bool.false_ne_true
 | int i =>
  !⟨t,rfl⟩:=rx
  cases y with
  | non=>cases ry;~PySem.EqNone.ne_int_none (s8 I q (by simp))
  | int j=>!⟨t',rfl⟩:=ry;~ne_int (s8 I q (congrArg not zE))
  | str j=>!⟨t',rfl⟩:=ry;~PySem.EqMixed.ne_int_str (s8 I q (by simp))
  | _=>~absurd (show false=true from hs) Bool.false_ne_true
 | str i =>
  !⟨t,rfl⟩:=rx
  cases y with
  | non=>cases ry;~PySem.EqNone.ne_str_none (s8 I q (by simp))
  | bl j=>cases ry;~PySem.EqMixed.ne_str_bool (s8 I q (by simp))
  | int j=>!⟨t',rfl⟩:=ry;~PySem.EqMixed.ne_str_int (s8 I q (by simp))
  | str j=>!⟨t',rfl⟩:=ry;~ne_str (s8 I q (congrArg not zz))
  | _=>~absurd (show false=true from hs) Bool.false_ne_true
 | byt i =>
  !⟨t,rfl⟩:=rx
  cases y with
  | byt j=>!⟨t',rfl⟩:=ry;~PySem.W.ne_bytes (s8 I q (congrArg not Gb))
  | _=>~absurd (show false=true from hs) Bool.false_ne_true
 | _=>cases y<;>~absurd (show false=true from hs) Bool.false_ne_true
theorem OU:OpR X (compareOp .Lt) (JX fun i j=>.bl (decide (i<j))):=KC fun _ _ _ _ _ _ _ q=>lt_int q
theorem NZ:OpR X (compareOp .LtE) (JX fun i j=>.bl (decide (i<=j))):=KC fun _ _ _ _ _ _ _ q=>le_int q
theorem N8:OpR X (compareOp .Gt) (JX fun i j=>.bl (decide (j<i))):=KC fun _ _ _ _ _ _ _ q=>gt_int q
theorem OQ:OpR X (compareOp .GtE) (JX fun i j=>.bl (decide (j<=i))):=KC fun _ _ _ _ _ _ _ q=>ge_int q
theorem LT:OpR X (compareOp .Is) (fun x y H Q=>y=.non/\Q (.bl (decide (x=.non))) H):=by
 intro pins s σ H x y v u Q I rx ry h
 !⟨rfl,q⟩:=h
 cases ry
 &is_none_gen (s8 I q ?_)
 cases x<;>first
  | (cases rx;rfl)
  | (!⟨t,rfl⟩:=rx;rfl)
theorem Kw:OpR X (compareOp .IsNot) (fun x y H Q=>y=.non/\Q (.bl (!decide (x=.non))) H):=by
 intro pins s σ H x y v u Q I rx ry h
 !⟨rfl,q⟩:=h
 cases ry
 &isnot_none_gen (s8 I q ?_)
 cases x<;>first
  | (cases rx;rfl)
  | (!⟨t,rfl⟩:=rx;rfl)
theorem OpR.or{f:Value->Value->Sem Value}{r r':R2}(h:OpR X f r)(h':OpR X f r'):OpR X f (fun x y H Q=>r x y H Q\/r' x y H Q):=by
 intro pins s σ H x y v u Q I rx ry q
 rcases q with q | q
 ·~h pins s σ H x y v u Q I rx ry q
 ·~h' pins s σ H x y v u Q I rx ry q
theorem Dq(b:Expr){op:CmpOp}(h:op≠.In:=by decide)(h2:op≠.NotIn:=by decide):behindInMarks op b=false:=by
 have e1:(op==CmpOp.In)=false:=by cases op<;>first | rfl | ~absurd rfl h
 have e2:(op==CmpOp.NotIn)=false:=by cases op<;>first | rfl | ~absurd rfl h2
 cases b<;>simp[behindInMarks,e1,e2]
theorem r_{op:CmpOp}{r:R2}(ho:OpR X (compareOp op) r)(ha:PE X a ta)(hb:PE X b tb)(hm:behindInMarks op b=false):PE X (.Compare a [op] [b] pos) (PF r ta tb):=by
 intro pins s σ H Q I h
 ~wpAny_Compare1 (Nb ha hb I h fun v u s2 x y H2 I2 rx ry q=>ho pins s2 σ H2 x y v u Q I2 rx ry q) hm
def Of(t:TE):TT:=fun σ H Q=>t σ H fun x H'=>∃k,x=.bl k/\Q k H'
theorem kL{op:CmpOp}{r:R2}(ho:OpR X (compareOp op) r)(ha:PE X a ta)(hb:PE X b tb)(hm:behindInMarks op b=false):PT X (.Compare a [op] [b] pos) (Of (PF r ta tb)):=by
 intro pins s σ H Q I h
 &wpAny_isTrue_Compare1 (uo (ha pins s σ H _ I h) fun v s1 ⟨x,H1,I1,r1,q1⟩=>uo (hb pins s1 σ H1 _ I1 q1) fun u s2 ⟨y,H2,I2,r2,q2⟩ =>
  uo (ho pins s2 σ H2 x y v u _ I2 r1 r2 q2) fun c s3 ⟨z,H3,I3,r3,k,e,q3⟩=>?_) hm
 subst e
 cases r3
 ~wpAny_truthy_bool ⟨H3,I3,q3⟩
def M0(K:PySem.W.Frag)(x:V)(H:Hp)(k:Bool):Prop:=
 match x with
 | .non=>k=false
 | .bl b=>k=b
 | .int i=>k=(i != 0)
 | .str y=>y.length<=sizeLine/\k=((y.length:Int) != 0)
 | .byt y=>y.size<=sizeLine/\k=((y.size:Int) != 0)
 | .ref p=>(∃xs,wj K H p xs/\k=!xs.isEmpty)\/(∃xs,xj K H p xs/\k=!xs.isEmpty)\/∃kvs,H p=some (.dK kvs)/\k=!kvs.isEmpty
 | _=>False
theorem ET{κ:Type}{kvs:List (κ×V)}{vs:List (κ×Value)}(r:KV kvs vs):(!vs.isEmpty)=!kvs.isEmpty:=by
 cases r<;>rfl
theorem Bm{xs:List V}{its:List Value}(r:l6 xs its):(!its.toArray.isEmpty)=!xs.isEmpty:=by
 cases r<;>simp
theorem A8:(sizeLine:Nat)<2 ^ 63:=by rw[sizeLine_eq];decide
theorem L_:QK X (fun x H Q=>∃k,M0 X.K x H k/\Q k H):=by
 intro pins s σ H x v Q I rx h
 !⟨k,e,q⟩:=h
 have hl:=A8
 have hs:sizeLine=16777216:=sizeLine_eq
 cases x with
 | non =>
  cases rx
  have e':k=false:=e
  subst e'
  ~truthy_none ⟨H,I,q⟩
 | bl b =>
  cases rx
  have e':k=b:=e
  subst e'
  ~wpAny_truthy_bool ⟨H,I,q⟩
 | int i =>
  !⟨t,rfl⟩:=rx
  have e':k=(i != 0):=e
  subst e'
  ~PySem.P.truthy_int ⟨H,I,q⟩
 | str y =>
  !⟨t,rfl⟩:=rx
  obtain⟨hy,e'⟩:y.length<=sizeLine/\k=((y.length:Int) != 0):=e
  subst e'
  ~PySem.P.truthy_str (by omega) ⟨H,I.tok _,q⟩
 | byt y =>
  !⟨t,rfl⟩:=rx
  obtain⟨hy,e'⟩:y.size<=sizeLine/\k=((y.size:Int) != 0):=e
  subst e'
  ~PySem.W.truthy_bytes (by omega) ⟨H,I.tok _,q⟩
 | ref p =>
  cases rx
  have e':(∃xs,wj X.K H p xs/\k=!xs.isEmpty)\/(∃xs,xj X.K H p xs/\k=!xs.isEmpty)\/∃kvs,H p=some (.dK kvs)/\k=!kvs.isEmpty:=e
  rcases e' with ⟨xs,hx,e'⟩ | ⟨xs,hx,e'⟩ | ⟨kvs,hx,e'⟩
  ·subst e'
   !⟨its,r,pl,hz⟩:=I.list hx
   have hlen:=r.length
   ~wpAny_truthy_list pl.isList (by simp only[List.size_toArray];omega) ⟨H,I.tok _,by rw[Bm r];~q⟩
  ·subst e'
   !⟨its,r,pl,hz⟩:=I.tuple hx
   have hlen:=r.length
   ~truthy_tuple pl (by simp only[List.size_toArray];omega) ⟨H,I.tok _,by rw[Bm r];~q⟩
  ·subst e'
   obtain⟨hz,hS,vs,r,m⟩:kvs.length<=sizeLine/\(p==sysModules)=false/\∃vs,KV kvs vs/\s.heap.DictOf (AH X.prog X.w) p vs:=I.hok p _ hx
   have hlen:kvs.length=vs.length:=Paired.length r
   ~wpAny_truthy_dict hS m (by omega) ⟨H,I.tok _,by rw[ET r];~q⟩
 | _=>~(show False from e).elim
theorem qu(ha:PE X a ta)(he:∀whole,isTrue a X.env whole=(do let v <- whole;standAt a.pos;holding [v] (truthy v))) :
  PT X a (fun σ H Q=>ta σ H fun x H'=>∃k,M0 X.K x H' k/\Q k H'):=by
 intro pins s σ H Q I h
 ~isTrue_plain (uo (ha pins s σ H _ I h) fun v s1 ⟨x,H1,I1,r1,q1⟩=>L_ pins s1 σ H1 x v Q I1 r1 q1) (he _)
theorem Fm:OpR X (binaryOp .Add) (fun x y H Q=>∃i j,x=.str i/\y=.str j/\i.length+j.length<=sizeLine/\Q (.str (i++j)) H):=by
 intro pins s σ H x y v u Q I rx ry h
 !⟨i,j,rfl,rfl,hz,q⟩:=h
 !⟨t,rfl⟩:=rx
 !⟨t',rfl⟩:=ry
 ~add_str (fun t' tk=>⟨.str (i++j),H,I.tok _,⟨_,rfl⟩,q⟩) hz
theorem vals1{x:V}{us:List Value}(r:l6 [x] us):∃u,us=[u]/\RelV x u:=by
 cases r with
 | cons r1 r2=>cases r2;~⟨_,rfl,r1⟩
theorem vals2{x y:V}{us:List Value}(r:l6 [x,y] us):∃u w',us=[u,w']/\RelV x u/\RelV y w':=by
 cases r with
 | cons r1 r2 =>
  cases r2 with
  | cons r3 r4=>cases r4;~⟨_,_,rfl,r1,r3⟩
theorem pJ(hc:X.calm=true):CallR X (.builtin "max") (fun xs H Q=>∃i j,xs=[.int i,.int j]/\Q (.int (if j > i then j else i)) H):=by
 intro pins s σ H xs us Q I r h
 !⟨i,j,rfl,q⟩:=h
 !⟨u,w',rfl,⟨t,rfl⟩,⟨t',rfl⟩⟩:=vals2 r
 &max_two_ints (I.ok.hd hc) fun h' tk k=>⟨_,H,I.kept k,?_,q⟩
 by_cases hj:j > i
 ·rw[if_pos hj,if_pos hj];~⟨_,rfl⟩
 ·rw[if_neg hj,if_neg hj];~⟨_,rfl⟩
theorem Hj:CallR X (.type "int") (fun xs H Q=>(∃i,xs=[.int i]/\Q (.int i) H)\/∃k,xs=[.bl k]/\Q (.int (if k then 1 else 0)) H):=by
 intro pins s σ H xs us Q I r h
 rcases h with ⟨i,rfl,q⟩ | ⟨k,rfl,q⟩
 ·!⟨u,rfl,t,rfl⟩:=vals1 r
  ~call_int_int ⟨.int i,H,I,⟨_,rfl⟩,q⟩
 ·!⟨u,rfl,r1⟩:=vals1 r
  cases r1
  ~call_int_bool ⟨.int (if k then 1 else 0),H,I.tok _,⟨_,rfl⟩,q⟩
theorem C7:CallR X (.type "str") (fun xs H Q=>∃i,xs=[.int i]/\i.natAbs.log2<1920/\Q (.str (toString i)) H):=by
 intro pins s σ H xs us Q I r h
 !⟨i,rfl,hz,q⟩:=h
 !⟨u,rfl,t,rfl⟩:=vals1 r
 ~PySem.P.str_of_int hz ⟨.str _,H,I.tok _,⟨_,rfl⟩,q⟩
end
end L2
namespace L2
open PySem PySem.Spec PyProof.Rows
structure Fe (h:Heap) (x dx C:Addr) (mA:Str->Option Value):Prop where
 obj:h.get? x=some (PySem.W.instObj C dx)
 ns:h.Ns1 dx mA
 ne:dx≠x
theorem Hg{h:Heap}{dx:Addr}{mA:Str->Option Value}(n:h.Ns1 dx mA):∃od,h.get? dx=some od/\∀name,PySem.W.lookIn name od=some (mA name):=by
 !⟨o,es,ep,ho,hd,hk,_,hm⟩:=n
 &⟨o,ho,fun name=>?_⟩
 have e:=hm name
 unfold nsFind findBy at e
 rw[<- Array.find?_toList] at e
 unfold PySem.W.lookIn
 rw[hd]
 dsimp only
 split
 ·rename_i y q
  rw[q] at e
  ~congrArg some e
 ·rename_i q
  rw[q] at e
  have a:es.toList.any (·.refKey)=false:=by
   rw[List.any_eq_false]
   intro y hy
   !⟨z,t,hkey⟩:=hk y (Array.mem_toList_iff.mp hy)
   simp[DictEntry.refKey,hkey]
  have a':¬ es.toList.any (·.refKey)=true:=by rw[a];~Bool.false_ne_true
  rw[if_neg a']
  ~congrArg some e
theorem Fe.look{h:Heap}{x dx C:Addr}{mA:Str->Option Value}(I:Fe h x dx C mA):∃od,PySem.W.InstAt h x (PySem.W.instObj C dx) C (some od)/\∀name,PySem.W.lookIn name od=some (mA name):=
 let ⟨od,ho,hl⟩:=Hg I.ns
 ⟨od,⟨I.obj,rfl,rfl,ho⟩,hl⟩
section
variable{prog:Program}{w:World}{A:Around}{E:Value->Shared->Prop}{s:Shared}{K:PySem.W.Frag}{x dx C f:Addr}{mA:Str->Option Value}{name:Str}{v:Value}
theorem sr{expr:Bool}{Q:Value->Shared->Prop}(X:K.In s.heap)(I:Fe s.heap x dx C mA)(hg:PySem.W.plainGet K C name=true)(hh:PySem.W.hasDictIn K C=true)
  (ha:PySem.W.findIn K (.ref C) name=some none) (hv:mA name=some v) (hv':PySem.W.handedIn v=true) (h:Q v {s with toks:=s.toks+1}) :
  wpAny (model prog w) A (getAttr (.ref x) name expr) Q E s:=by
 !⟨od,J,hl⟩:=I.look
 ~PySem.W.get_value X J (PySem.W.plainGet_of hg).1 (PySem.W.findObj_own hh ha rfl (by rw[hl,hv])) hv' h
theorem rh{pl:Sem Bool}{Q:Value×List Value->Shared->Prop}(X:K.In s.heap)(I:Fe s.heap x dx C mA)(hg:PySem.W.plainGet K C name=true)
  (hf:PySem.W.findIn K (.ref C) name=some (some (.ref f))) (ht:PySem.W.isFn K (.ref f)=true) (hv:mA name=none) (h:Q (.ref f,[.ref x]) s) :
  wpAny (model prog w) A (getMethod (.ref x) name pl) Q E s:=by
 !⟨od,J,hl⟩:=I.look
 ~PySem.W.method_fn X J (PySem.W.plainGet_of hg).1 (PySem.W.plainGet_of hg).2 hf (beq_iff_eq.mp ht) (by show(PySem.W.lookIn name od).map (·.isSome)=some false;rw[hl,hv];rfl) h
theorem Kq{ns:List Str}{Q:Unit->Shared->Prop}(X:K.In s.heap)(I:Fe s.heap x dx C mA)
  (hs:PySem.W.findIn K (.ref C) "__setattr__" = some (some (.builtin "object.__setattr__"))) (hp:PySem.W.plainOver K C=true) (ht:PySem.W.takerIn K C name=some none) (hh:PySem.W.hasDictIn K C=true)
  (hw:PySem.Within mA ns) (hsz:ns.length<=sizeLine)
  (h:∀h',Fe h' x dx C (fun y=>if y=name then some v else mA y)->Heap.SameBut dx s.heap h'->Q () {s with heap:=h',toks:=s.toks+2}) :
  wpAny (model prog w) A (setAttr (.ref x) name v) Q E s:=by
 !⟨od,J,hl⟩:=I.look
 &PySem.W.set_plain X J hs (PySem.W.osa_open (s:={s with toks:=s.toks+1}) (r:=none) X J hp ht fun b=>?_)
 !⟨cd,hc,hd'⟩:=PySem.W.any_some hh
 have hx:s.heap.get? x=some ⟨.ref C,some dx,.plain,#[]⟩:=I.obj
 &wpAny_bind (wpAny_pure (wpAny_bind (wpAny_bind (wpAny_loadPart hx (wpAny_bind (PySem.W.Looks.here (s:={s with toks:=s.toks+1}) (PySem.W.looks_clsIn X hc) ?_))))))
 rw[hd']
 &wpAny_pure (a:=some dx) (wpAny_bind (wpAny_pure (wpAny_bind ?_)))
 &wpAny_nsSet1 (s:={s with toks:=s.toks+1}) I.ns fun h' hn2 hs2=>?_
 !⟨oD,esD,epD,hoD,hdD,hcD⟩:=hn2.count (PySem.Within.cons name v hw)
 &wpAny_bind (wpAny_lookBehind hoD (by rw[hdD];~pastItsLine_dict (Nat.le_trans hcD (by rw[List.length_cons];omega))) ?_)
 ~wpAny_pure (h _ ⟨(hs2.2 _ (Ne.symm I.ne)).trans I.obj,hn2,I.ne⟩ hs2)
theorem HC {R:Result->Shared->Prop} {vs:List Value} {kw:List (Str×Value)} (X:K.In s.heap) (hm:PySem.W.makesIn K C=true)
    (hi:PySem.W.findIn K (.ref C) "__init__" = some (some (.ref f))) (hf:PySem.W.typeIn K (.ref f)=some (.type "function"))
    (h:codeAny (model prog w) (A.under (.builtin "type.__call__" ⟨.ref C::vs,kw⟩)) (.call (.ref f) ⟨.ref (s.heap.objs.size+1)::vs,kw⟩) (PySem.W.InitBack (s.heap.objs.size+1) R)
      {s with heap:=(s.heap.push PySem.W.emptyDict).push (PySem.W.instObj C s.heap.objs.size)}) :
    codeAny (model prog w) A (.call (.ref C) ⟨vs,kw⟩) R s:=by
  !⟨hh,g,d,t,os⟩:=s
  ~PySem.W.make_core (PySem.W.makes_of X hm) (PySem.W.looks_findIn X hi) (fun self=>PySem.W.bind_fn X self hf) (.inl rfl) h
end
noncomputable def wt(f:Str)(v:V):List (Str×V)->List (Str×V)
 | []=>[(f,v)]
 | (g,x)::r=>if g=f then (g,v)::r else (g,x)::wt f v r
theorem Ax(f g:Str)(v:V):∀fs:List (Str×V),(wt f v fs).lookup g=if g=f then some v else fs.lookup g
 | []=>by
  show List.lookup g [(f,v)]=_
  by_cases h:g=f
  ·have hb:(g==f)=true:=beq_iff_eq.mpr h
   simp only[List.lookup,hb,if_pos h]
  ·have hb:(g==f)=false:=beq_eq_false_iff_ne.mpr h
   simp only[List.lookup,hb,if_neg h]
 | (k,x)::r=>by
  have ih:=Ax f g v r
  rw[show wt f v ((k,x)::r)=(if k=f then (k,v)::r else (k,x)::wt f v r) from rfl]
  by_cases hk:k=f
  ·rw[if_pos hk]
   by_cases h:g=k
   ·have hb:(g==k)=true:=beq_iff_eq.mpr h
    simp only[List.lookup,hb,if_pos (h.trans hk)]
   ·have hb:(g==k)=false:=beq_eq_false_iff_ne.mpr h
    simp only[List.lookup,hb,if_neg (fun e:g=f=>h (e.trans hk.symm))]
  ·rw[if_neg hk]
   by_cases h:g=k
   ·have hb:(g==k)=true:=beq_iff_eq.mpr h
    simp only[List.lookup,hb,if_neg (fun e:g=f=>hk (h.symm.trans e))]
   ·have hb:(g==k)=false:=beq_eq_false_iff_ne.mpr h
    simp only[List.lookup,hb]
    ~ih
theorem Af(f:Str)(v:V):∀fs:List (Str×V),f∈(wt f v fs).map (·.1)/\∀g,g∈fs.map (·.1)->g∈(wt f v fs).map (·.1)
 | []=>⟨by simp[wt],fun g h=>by simp at h⟩
 | (k,x)::r=>by
  !⟨i1,i2⟩:=Af f v r
  rw[show wt f v ((k,x)::r)=(if k=f then (k,v)::r else (k,x)::wt f v r) from rfl]
  by_cases hk:k=f
  ·rw[if_pos hk]
   subst hk
   ~⟨by simp,fun g h=>by simpa using h⟩
  ·rw[if_neg hk]
   &⟨?_,fun g h=>?_⟩
   ·rw[List.map_cons]
    ~List.mem_cons_of_mem _ i1
   ·rw[List.map_cons] at h ⊢
    rcases List.mem_cons.mp h with e | e
    ·~List.mem_cons.mpr (.inl e)
    ·~List.mem_cons_of_mem _ (i2 g e)
theorem Av(f:Str)(v:V):∀fs:List (Str×V),(wt f v fs).length<=fs.length+1
 | []=>by simp[wt]
 | (k,x)::r=>by
  have ih:=Av f v r
  rw[show wt f v ((k,x)::r)=(if k=f then (k,v)::r else (k,x)::wt f v r) from rfl]
  by_cases hk:k=f
  ·rw[if_pos hk,List.length_cons,List.length_cons];omega
  ·rw[if_neg hk,List.length_cons,List.length_cons];omega
theorem yU.some_of{v:V}{o:Option Value}(r:yU (some v) o):∃u,o=some u/\RelV v u:=by
 cases o with
 | none=>~(show False from r).elim
 | some u=>~⟨u,rfl,r⟩
theorem yU.none_of{o:Option Value}(r:yU none o):o=none:=by
 cases o with
 | none=>rfl
 | some u=>~(show False from r).elim
theorem G6{v:V}{u:Value}(r:RelV v u):PySem.W.handedIn u=true:=by
 cases v with
 | non=>cases (show u=Value.none from r);rfl
 | bl b=>cases (show u=Value.bool b from r);rfl
 | int i=>!⟨t,e⟩:=(show ∃t,u=Value.int i t from r);cases e;rfl
 | str x=>!⟨t,e⟩:=(show ∃t,u=Value.str x t from r);cases e;rfl
 | byt b=>!⟨t,e⟩:=(show ∃t,u=Value.bytes b t from r);cases e;rfl
 | flt b=>!⟨t,e⟩:=(show ∃t,u=Value.float b t from r);cases e;rfl
 | ref a=>cases (show u=Value.ref a from r);rfl
 | ty n=>cases (show u=Value.type n from r);rfl
section
variable{P:Program}{w:World}{H H':Hp}{h h':Heap}{a C dx:Addr}{fs fs':List (Str×V)}
theorem Dm(hok:y4 P w H h)(e:H a=some (.ins C dx fs)):∃mA,Fe h a dx C mA/\(∀f,yU (fs.lookup f) (mA f))/\PySem.Within mA (fs.map (·.1))/\fs.length<=1000/\H dx=some (.own a):=by
 !⟨d,z,ne,ob,mA,n,r,q⟩:=(show vv P w H h a (.ins C dx fs) from hok a _ e)
 ~⟨mA,⟨ob,n,ne⟩,r,q,z,d⟩
end
structure yN (K:PySem.W.Frag) (C:Addr):Prop where
 pg:PySem.W.plainGet K C Str.empty=true
 hd:PySem.W.hasDictIn K C=true
 po:PySem.W.plainOver K C=true
 sa:PySem.W.findIn K (.ref C) "__setattr__" = some (some (.builtin "object.__setattr__"))
theorem yN.get{K:PySem.W.Frag}{C:Addr}(c:yN K C)(f:Str):PySem.W.plainGet K C f=true:=c.pg
def t8(K:PySem.W.Frag)(C:Addr)(f:Str):Prop:=PySem.W.findIn K (.ref C) f=some none
theorem t8.taker{K:PySem.W.Frag}{C:Addr}{f:Str}(n:t8 K C f):PySem.W.takerIn K C f=some none:=by
 unfold PySem.W.takerIn
 rw[show PySem.W.findIn K (.ref C) f=some none from n]
 rfl
structure u0 (K:PySem.W.Frag) (C:Addr) (f:Str) (v:V) (u:Value):Prop where
 at_:PySem.W.findIn K (.ref C) f=some (some u)
 rel:RelV v u
 get:PySem.W.specialIn K u "__get__" = some none
 cp:PySem.W.copiedNames.contains f=false
structure DW (K:PySem.W.Frag) (C:Addr) (m:Str) (f:Addr):Prop where
 at_:PySem.W.findIn K (.ref C) m=some (some (.ref f))
 fn:PySem.W.isFn K (.ref f)=true
 kp:PySem.W.keepIn K (.ref f)=true
section
variable{X:Cx}{pins:List (Addr×Obj)}{σ:St}{H:Hp}{s:Shared}{a C dx:Addr}{fs:List (Str×V)}{f:Str}{v:V}{A:Around}{E:Value->Shared->Prop}
theorem Fq{b:Bool}{Q:Value->Shared->Prop}(I:Inv X pins σ H s)(e:H a=some (.ins C dx fs))(c:yN X.K C)(n:t8 X.K C f)(l:fs.lookup f=some v)
  (h:∀u s',Inv X pins σ H s'->RelV v u->Q u s'):wpAny (model X.prog X.w) A (getAttr (.ref a) f b) Q E s:=by
 !⟨mA,O,r,_,_,_⟩:=Dm I.hok e
 !⟨u,hu,ru⟩:=yU.some_of (v:=v) (o:=mA f) (by rw[<- l];~r f)
 ~sr I.kIn O (c.get f) c.hd n hu (G6 ru) (h u _ (I.tok _) ru)
theorem ze{m:Str}{g:Addr}{pl:Sem Bool}{Q:Value×List Value->Shared->Prop}(I:Inv X pins σ H s)(e:H a=some (.ins C dx fs))(c:yN X.K C)(k:DW X.K C m g)(l:fs.lookup m=none)
  (h:Q (.ref g,[.ref a]) s):wpAny (model X.prog X.w) A (getMethod (.ref a) m pl) Q E s:=by
 !⟨mA,O,r,_,_,_⟩:=Dm I.hok e
 have hn:mA m=none:=yU.none_of (by rw[<- l];~r m)
 ~rh I.kIn O (c.get m) k.at_ k.fn hn h
theorem Fh{y:V}{u:Value}{Q:Unit->Shared->Prop}(I:Inv X pins σ H s)(e:H a=some (.ins C dx fs))(c:yN X.K C)(n:t8 X.K C f)(hl:fs.length<1000)(ry:RelV y u)
  (h:∀s',Inv X pins σ (upd H a (.ins C dx (wt f y fs))) s'->Q () s'):wpAny (model X.prog X.w) A (setAttr (.ref a) f u) Q E s:=by
 !⟨mA,O,r,wi,_,ho⟩:=Dm I.hok e
 have hz:(fs.map (·.1)).length<=sizeLine:=by rw[List.length_map,sizeLine_eq];omega
 &Kq I.kIn O c.sa c.po n.taker c.hd wi hz fun h' O' sb=>h _ ?_
 have hd:∃o,h'.get? dx=some o:=let ⟨o,_,_,e',_⟩:=O'.ns;⟨o,e'⟩
 &I.write (x:=a) (e:=dx) (by rw[e];~True.intro) (.inr ho) (fun b q hb z=>(sb.2 b hb).trans z) hd ?_
 &⟨by rw[aq O.ne];~ho,?_,O.ne,O'.obj,_,O'.ns,fun g=>?_,fun g hg=>?_⟩
 ·have:=Av f y fs;omega
 ·show yU ((wt f y fs).lookup g) (if g=f then some u else mA g)
  rw[Ax]
  by_cases q:g=f
  ·rw[if_pos q,if_pos q];~ry
  ·rw[if_neg q,if_neg q];~r g
 ·by_cases q:g=f
  ·rw[q];~(Af f y fs).1
  ·&(Af f y fs).2 g (wi g fun z=>hg ?_)
   show(if g=f then some u else mA g)=none
   rw[if_neg q];~z
theorem Inv.made(I:Inv X pins σ H s):Inv X pins σ (upd (upd H s.heap.objs.size (.own (s.heap.objs.size+1))) (s.heap.objs.size+1) (.ins C s.heap.objs.size []))
  {s with heap:=(s.heap.push PySem.W.emptyDict).push (PySem.W.instObj C s.heap.objs.size)}:=by
 have e1:(s.heap.push PySem.W.emptyDict).get? s.heap.objs.size=some PySem.W.emptyDict:=Heap.get?_push_size s.heap rfl
 have e2:((s.heap.push PySem.W.emptyDict).push (PySem.W.instObj C s.heap.objs.size)).get? (s.heap.objs.size+1)=some (PySem.W.instObj C s.heap.objs.size):=by
  have:=Heap.get?_push_size (s.heap.push PySem.W.emptyDict) (o:=PySem.W.instObj C s.heap.objs.size) rfl
  rwa [Heap.size_push] at this
 have e3:(s.heap.push PySem.W.emptyDict).Ns s.heap.objs.size (fun _=>none):=⟨PySem.W.emptyDict,#[],_,e1,rfl,(fun e he=>absurd he (by simp)),fun _=>rfl⟩
 have I1:=I.laid (a:=s.heap.objs.size) (o:=.own (s.heap.objs.size+1)) (h':=s.heap.push PySem.W.emptyDict) (t':=s.toks) (fun b u q=>Heap.get?_push_of_some _ q) (Nat.le_refl _) ⟨_,e1⟩
 &I1.laid (a:=s.heap.objs.size+1) (o:=.ins C s.heap.objs.size []) (t':=s.toks) (fun b u q=>Heap.get?_push_of_some _ q) (Nat.le_of_eq (Heap.size_push _ _)) ?_
 have ne:s.heap.objs.size≠s.heap.objs.size+1:=Nat.ne_of_lt (Nat.lt_succ_self _)
 &⟨by rw[aq ne,au],Nat.zero_le _,ne,e2,fun _=>none,(Heap.Ns1.of_empty e3).at fun o q=>Heap.get?_push_of_some _ q,fun _=>True.intro,fun y hy=>absurd rfl hy⟩
theorem KM{prog:Program}{w:World}{env:Env}{e:Expr}{f:Str}{pos:Pos}{s:Shared}{Q:Value->Shared->Prop}(hb:attributeBase e f env (eval e env)=eval e env)
  (h:wpAny (model prog w) A (eval e env) (fun o s₁=>wpAny (model prog w) A (getAttr o f true) Q E s₁) E s):wpAny (model prog w) A (eval (.Attribute e f pos) env) Q E s:=
 Attribute_any_ h (by rw[arm_eval_Attribute,hb])
end
def PZ(K:PySem.W.Frag)(ta:TE)(f:Str):TE:=fun σ H Q=>ta σ H fun x H1=>∃a C dx fs v,x=.ref a/\H1 a=some (.ins C dx fs)/\yN K C/\t8 K C f/\fs.lookup f=some v/\Q v H1
def Qw(K:PySem.W.Frag)(ta tv:TE)(f:Str):TS:=fun D σ H=>tv σ H fun y H1=>ta σ H1 fun x H2=>∃a C dx fs,x=.ref a/\H2 a=some (.ins C dx fs)/\yN K C/\t8 K C f/\fs.length<1000 /\
 D.nx σ (upd H2 a (.ins C dx (wt f y fs)))
section
variable{X:Cx}{o e value:Expr}{f:Str}{pos pos' tpos:Pos}{ta tv:TE}
theorem nv(he:PE X e ta)(hb:attributeBase e f X.env (eval e X.env)=eval e X.env):PE X (.Attribute e f pos) (PZ X.K ta f):=by
 intro pins s σ H Q I h
 &KM hb (uo (he pins s σ H _ I h) fun u s1 ⟨x,H1,I1,rx,a,C,dx,fs,v,ex,ea,c,n,l,q⟩=>?_)
 subst ex
 obtain rfl:u=Value.ref a:=rx
 ~Fq I1 ea c n l fun u' s2 I2 ru=>⟨v,H1,I2,ru,q⟩
theorem qJ(ha:PE X o ta)(hv:PE X value tv)(hs:swapsWith value (some (.Attribute o f pos')) pos.line X.env=pure false):PS X (.Assign [.Attribute o f pos'] value pos) (Qw X.K ta tv f):=by
 intro pins s σ H D I h
 &plainObj_wpAny_Assign_Attribute (uo (hv pins s σ H _ I h) fun u s1 ⟨y,H1,I1,ry,q⟩=>uo (ha pins s1 σ H1 _ I1 q) fun ov s2 ⟨x,H2,I2,rx,a,C,dx,fs,ex,ea,c,n,l,q2⟩=>?_) hs
 subst ex
 obtain rfl:ov=Value.ref a:=rx
 ~Fh I2 ea c n l ry fun s3 I3=>⟨σ,_,I3,q2⟩
theorem Lp {pl:Sem Bool} {m:Str} {apos:Pos} {args:List Expr} {pins:List (Addr×Obj)} {s:Shared} {σ:St} {H:Hp} {Q:Value->Shared->Prop} {te:TE} (he:PE X e te) (I:Inv X pins σ H s)
    (h:te σ H fun x H1=>∃a C dx fs g,x=.ref a/\H1 a=some (.ins C dx fs)/\yN X.K C/\DW X.K C m g/\fs.lookup m=none /\
      ∀s1,Inv X pins σ H1 s1->wpAny (model X.prog X.w) X.A (callWith pos (.ref g) [.ref a] (backTo pos (starEach args X.env)) (backToKw pos (keywordEach [] X.env))) Q X.xe s1)
    (ht:eval (.Call (.Attribute e m apos) args [] pos) X.env=(do
      let ov <- eval e X.env
      standAt apos.atName
      let (f,first) <- holding [ov] (getMethod ov m pl)
      callWith pos f first (backTo pos (starEach args X.env)) (backToKw pos (keywordEach [] X.env)))) :
    wpAny (model X.prog X.w) X.A (eval (.Call (.Attribute e m apos) args [] pos) X.env) Q X.xe s:=by
  &PySem.W.methodCall_KW (pl:=pl) (uo (he pins s σ H _ I h) fun u s1 ⟨x,H1,I1,rx,a,C,dx,fs,g,ex,ea,c,k,l,q⟩=>?_) ht
  subst ex
  obtain rfl:u=Value.ref a:=rx
  ~ze I1 ea c k l (q s1 I1)
end
section
variable{X:Cx}{pins:List (Addr×Obj)}{σ:St}{H:Hp}{s:Shared}{A:Around}{E:Value->Shared->Prop}{Q:Value->Shared->Prop}{c:Value}{b:Bool}
end
end L2
namespace L2
open PySem PySem.Spec PyProof.Rows
structure ua (k:Nat) (A:Around):Prop where
 hd:A.handled=none
 dp:A.depth+3*k+5<recursionLimit
 un:A.units+16*k+200<cLine
 gd:A.guards=some []
theorem ua.mono{j k:Nat}{A:Around}(r:ua k A)(h:j<=k):ua j A:=⟨r.hd,by have:=r.dp;omega,by have:=r.un;omega,r.gd⟩
theorem ua.deeper{k:Nat}{A:Around}(r:ua (k+1) A)(env:Env):ua k (A.deeper env):=
 ⟨r.hd,by have:=r.dp;show A.depth+1+3*k+5<_;omega,by have:=r.un;show A.units+3+16*k+200<_;omega,r.gd⟩
theorem ua.in1{k:Nat}{A:Around}(r:ua (k+1) A):ua k A.in1:=
 ⟨r.hd,by have:=r.dp;show A.depth+3*k+5<_;omega,by have:=r.un;show A.units+1+16*k+200<_;omega,r.gd⟩
theorem E7{A:Around}{C:Addr}{us:List Value}{kw:List (Str×Value)}:(A.under (.builtin "type.__call__" ⟨.ref C::us,kw⟩)).depth=A.depth+1:=by
 first | rfl | simp[Around.under,Code.weight,Code.isCreation,Code.isGuard,Code.isCaller,Code.frames,Code.isFrame,guardIds]
theorem EV{A:Around}{C:Addr}{us:List Value}{kw:List (Str×Value)}:(A.under (.builtin "type.__call__" ⟨.ref C::us,kw⟩)).units=A.units+1:=by
 first | rfl | simp[Around.under,Code.cUnits,Code.frames,Code.isFrame]
theorem ua.make{k:Nat}{A:Around}(r:ua (k+1) A)(C:Addr)(us:List Value)(kw:List (Str×Value)):ua k (A.under (.builtin "type.__call__" ⟨.ref C::us,kw⟩)):=
 ⟨r.hd,by have:=r.dp;rw[E7];omega,by have:=r.un;rw[EV];omega,by show pushGuards (Code.guards (.builtin "type.__call__" ⟨.ref C::us,kw⟩)) A.guards=_;rw[r.gd];first | rfl | simp[Code.guards,Code.isGuard,guardIds,pushGuards]⟩
theorem ua.depth{k:Nat}{A:Around}(r:ua k A):A.depth<recursionLimit:=by have:=r.dp;omega
theorem ua.units{k:Nat}{A:Around}(r:ua k A):A.units+64<cLine:=by have:=r.un;omega
def Od:TA:=fun _ H Q=>Q [] H
def N6(ta:TE)(tr:TA):TA:=fun σ H Q=>ta σ H fun x H1=>tr σ H1 fun xs H2=>Q (x::xs) H2
section
variable{X:Cx}{e:Expr}{es:List Expr}{te:TE}{t:TA}{pos:Pos}
theorem BD:PA X [] Od:=fun _ _ _ _ H Q I h=>Calls.spliced_nil ⟨[],H,I,.nil,h⟩
theorem eT(ha:PE X e te)(hr:PA X es t)(hs:starEach (e::es) X.env=(false,eval e X.env)::starEach es X.env:=by rfl):PA X (e::es) (N6 te t):=by
 intro pos pins s σ H Q I h
 rw[hs]
 show wpAny _ _ (spliced ((false,eval e X.env)::backTo pos (starEach es X.env))) _ _ s
 &Calls.spliced_cons (uo (ha pins s σ H _ I h) fun u s1 ⟨x,H1,I1,r1,q1⟩=>?_)
 ~uo (hr pos pins s1 σ H1 _ I1 q1) fun us s2 ⟨xs,H2,I2,r2,q2⟩=>⟨x::xs,H2,I2,.cons r1 r2,q2⟩
def Qo(t:TA):TE:=fun σ H Q=>t σ H fun xs H1=>xs.length<=sizeLine/\∀p,H1 p=none->Q (.ref p) (upd H1 p (.tup xs))
def QC(t:TA):TE:=fun σ H Q=>t σ H fun xs H1=>xs.length<=sizeLine/\∀p,H1 p=none->Q (.ref p) (upd H1 p (.lst xs))
theorem nH{x1}(h:PA X es t):PE X (.Tuple es x1 pos) (Qo t):=by
 intro pins s σ H Q I hq
 &wpAny_Tuple_spliced (uo (h pos pins s σ H _ I hq) fun us s1 ⟨xs,H1,I1,r,z,q⟩=>⟨by rw[<- r.length];~z,?_⟩)
 have hf:H1 s1.heap.objs.size=none:=I1.hok.fresh (Nat.le_refl _)
 &⟨.ref s1.heap.objs.size,upd H1 s1.heap.objs.size (.tup xs),I1.laid (t':=s1.toks) (fun b u e=>Heap.get?_push_of_some _ e) (Nat.le_refl _) ?_,rfl,q _ hf⟩
 ~⟨z,us,r,⟨_,Heap.get?_push_size _ rfl,rfl,⟨_,rfl⟩,rfl⟩⟩
theorem nR(h:PA X es t):PE X (.List es pos) (QC t):=by
 intro pins s σ H Q I hq
 &wpAny_List_spliced (uo (h pos pins s σ H _ I hq) fun us s1 ⟨xs,H1,I1,r,z,q⟩=>⟨by rw[<- r.length];~z,?_⟩)
 have hf:H1 s1.heap.objs.size=none:=I1.hok.fresh (Nat.le_refl _)
 &⟨.ref s1.heap.objs.size,upd H1 s1.heap.objs.size (.lst xs),I1.laid (t':=s1.toks) (fun b u e=>Heap.get?_push_of_some _ e) (Nat.le_refl _) ?_,rfl,q _ hf⟩
 ~⟨z,us,0,r,Heap.get?_push_size _ rfl⟩
end
abbrev Sp:=List V->Hp->VK->XK->Prop
abbrev DS:=List Env->Hp->Shared->XK->Value->Shared->Prop
structure Aa (P:Program) (w:World) (K:PySem.W.Frag) (mg:Str->Option Value) (base:Heap) (A:Around) (outer:List Env) (s:Shared) (H:Hp):Prop where
 frames:A.frames=some outer
 mod:Mod K mg base
 bs:∀b o,base.get? b=some o->s.heap.get? b=some o/\H b=none
 bsz:base.objs.size<=s.heap.objs.size
 funs:s.heap.FunFrames base outer
 frf:∀b∈xt outer,H b=none
 hok:y4 P w H s.heap
 bare:AllBare s.gens
def CE(outer:List Env)(P:Program)(w:World)(H:Hp)(s:Shared)(Q:VK)(u:Value)(s':Shared):Prop:=
 ∃v H',s'.os=s.os/\AllBare s'.gens/\Un (xt outer) [] H H' s.heap s'.heap/\y4 P w H' s'.heap/\RelV v u/\Q v H'
def CR(CX:DS)(outer:List Env)(P:Program)(w:World)(H:Hp)(s:Shared)(Q:VK)(E:XK)(r:Result)(s':Shared):Prop:=
 match r with
 | .ok (.ret u)=>CE outer P w H s Q u s'
 | .ok _=>False
 | .error e=>CX outer H s E e s'
structure k6 (P:Program) (w:World) (K:PySem.W.Frag) (mg:Str->Option Value) (base:Heap) (CX:DS) (k:Nat) (f:Addr) (fd:FuncData) (ps:List Str) (sp:Sp):Prop where
 len:∀vs H Q E,sp vs H Q E->vs.length=ps.length
 run:∀(A:Around) (outer:List Env) (s:Shared) (H:Hp) (args:Args) (us:List Value) (vs:List V) (Q:VK) (E:XK),ua k A->Aa P w K mg base A outer s H->BindsTo s fd args (ps.zip us)->l6 vs us->sp vs H Q E ->
  codeAny (model P w) A (.call (.ref f) args) (CR CX outer P w H s Q E) s
theorem k6.mono{P:Program}{w:World}{K:PySem.W.Frag}{mg:Str->Option Value}{base:Heap}{CX:DS}{j k:Nat}{f:Addr}{fd:FuncData}{ps:List Str}{sp:Sp}(F:k6 P w K mg base CX j f fd ps sp)(h:j<=k) :
  k6 P w K mg base CX k f fd ps sp:=⟨F.len,fun A outer s H args us vs Q E hr=>F.run A outer s H args us vs Q E (hr.mono h)⟩
theorem k6.imp{P:Program}{w:World}{K:PySem.W.Frag}{mg:Str->Option Value}{base:Heap}{CX:DS}{k:Nat}{f:Addr}{fd:FuncData}{ps:List Str}{sp sp':Sp}(F:k6 P w K mg base CX k f fd ps sp)
  (h:∀vs H Q E,sp' vs H Q E->sp vs H Q E):k6 P w K mg base CX k f fd ps sp':=
 ⟨fun vs H Q E q=>F.len vs H Q E (h _ _ _ _ q),fun A outer s H args us vs Q E hr he hb hv hs=>F.run A outer s H args us vs Q E hr he hb hv (h _ _ _ _ hs)⟩
theorem Aa.make{P:Program}{w:World}{K:PySem.W.Frag}{mg:Str->Option Value}{base:Heap}{A:Around}{outer:List Env}{s:Shared}{H:Hp}(e:Aa P w K mg base A outer s H)(C:Addr)(us:List Value)(kw:List (Str×Value)) :
  Aa P w K mg base (A.under (.builtin "type.__call__" ⟨.ref C::us,kw⟩)) outer s H:=⟨by first | ~e.frames | (simpa [Around.under,Code.envs,Code.isFrame,pushEnvs] using e.frames),e.mod,e.bs,e.bsz,e.funs,e.frf,e.hok,e.bare⟩
theorem Aa.in1{P:Program}{w:World}{K:PySem.W.Frag}{mg:Str->Option Value}{base:Heap}{A:Around}{outer:List Env}{s:Shared}{H:Hp}(e:Aa P w K mg base A outer s H) :
  Aa P w K mg base A.in1 outer s H:=⟨e.frames,e.mod,e.bs,e.bsz,e.funs,e.frf,e.hok,e.bare⟩
section
variable{X:Cx}{pins:List (Addr×Obj)}{σ:St}{H:Hp}{s s':Shared}
theorem Inv.env0(I:Inv X pins σ H s):Aa X.prog X.w X.K X.mg X.base X.A X.stack s H:=
 ⟨I.ok.frames,I.ok.mod,I.bs,Nat.le_trans I.ok.bsz I.sz,I.stack,I.stkFree,I.hok,I.bare⟩
theorem Inv.after{Q:VK}{u:Value}(I:Inv X pins σ H s)(h:CE X.stack X.prog X.w H s Q u s'):EP X pins σ Q u s':=by
 !⟨v,H',os,bare,un,hok,r,q⟩:=h
 !⟨hh,g,d,t,os'⟩:=s'
 obtain rfl:os'=s.os:=os
 ~⟨v,H',I.call (h':=hh) (g':=g) (d':=d) (t':=t) (ch:=[]) un hok bare (fun b z=>absurd z (by simp)),r,q⟩
end
def Le(sp:Sp)(dvs:List V)(E:XK)(t:TA):TE:=fun σ H Q=>t σ H fun vs H1=>sp (vs++dvs) H1 Q E
def Jb(C:Addr)(m:Str)(sp:Sp)(dvs:List V)(E:XK)(ta:TE)(t:TA):TE:=fun σ H Q=>ta σ H fun x H1=>∃a dx fs,x=.ref a/\H1 a=some (.ins C dx fs)/\fs.lookup m=none /\
 t σ H1 fun vs H2=>sp (x::(vs++dvs)) H2 Q E
def K5(C:Addr)(sp:Sp)(dvs:List V)(E:XK)(t:TA):TE:=fun σ H Q=>t σ H fun vs H1=>∀x dx,H1 x=none->H1 dx=none->dx≠x ->
 sp (.ref x::(vs++dvs)) (upd (upd H1 dx (.own x)) x (.ins C dx [])) (fun v H2=>v=.non/\Q (.ref x) H2) E
def Binds(K:PySem.W.Frag)(fd:FuncData)(ps:List Str)(ds:List Value):Prop:=
 ∀(s:Shared) (us:List Value),K.In s.heap->(us++ds).length=ps.length->BindsTo s fd ⟨us,[]⟩ (ps.zip (us++ds))
theorem Binds.all{K:PySem.W.Frag}{fd:FuncData}{ps:List Str}(h:∀us:List Value,us.length=ps.length->bindArgs fd ⟨us,[]⟩=pure (ps.zip us)):Binds K fd ps []:=fun s us _ hl=>by
 rw[List.append_nil] at hl ⊢
 ~.of_eq (h us hl)
def yq(CX:DS)(X:Cx)(E:XK):Prop:=∀(pins:List (Addr×Obj)) (σ:St) (H:Hp) (s:Shared) (e:Value) (s':Shared),Inv X pins σ H s->CX X.stack H s E e s'->X.xe e s'
section
variable{X:Cx}{CX:DS}{k:Nat}{f C:Addr}{fd:FuncData}{ps:List Str}{sp:Sp}{dvs:List V}{ds:List Value}{E:XK}{x m:Str}{p pos apos:Pos}{e o:Expr}{es:List Expr}{ta:TE}{t:TA}
theorem A5{pins:List (Addr×Obj)}{σ:St}{H:Hp}{s:Shared}{Q:VK}{us:List Value}{vs:List V}(F:k6 X.prog X.w X.K X.mg X.base CX k f fd ps sp)(hr:ua k X.A)(hb:Binds X.K fd ps ds)(hd:l6 dvs ds)(hx:yq CX X E)
  (I:Inv X pins σ H s) (r:l6 vs us) (h:sp (vs++dvs) H Q E):wpAny (model X.prog X.w) X.A (call (.ref f) us) (EP X pins σ Q) X.xe s:=by
 have r2:l6 (vs++dvs) (us++ds):=r.append hd
 have hl:(us++ds).length=ps.length:=by rw[<- r2.length];~F.len _ _ _ _ h
 &wpAny_call (codeAny_mono (F.run X.A X.stack s H ⟨us,[]⟩ (us++ds) (vs++dvs) Q E hr I.env0 (hb s us I.kIn hl) r2 h) fun r s' hq=>?_)
 cases r with
 | error e=>~hx pins σ H s e s' I hq
 | ok fl =>
  cases fl with
  | ret u=>~I.after hq
  | next=>~False.elim hq
  | brk=>~False.elim hq
  | cont=>~False.elim hq
theorem iR(F:k6 X.prog X.w X.K X.mg X.base CX k f fd ps sp)(hr:ua k X.A)(hg:Gl X x)(hm:X.mg x=some (.ref f))(hk:PySem.W.keepIn X.K (.ref f)=true)(hb:Binds X.K fd ps ds)(hd:l6 dvs ds)(hx:yq CX X E)
  (ha:PA X (e::es) t) (hdb:(x==("__debug__" : Str))=false:=by decide) (he:starEach (e::es) X.env=(false,eval e X.env)::starEach es X.env:=by rfl) (hpl:(backTo pos (starEach es X.env)).any (·.1)=false:=by rfl) :
  PE X (.Call (.Name x p) (e::es) [] pos) (Le sp dvs E t):=by
 intro pins s σ H Q I h
 &wpAny_Call_Name_kw (eE I hg hm ?_ hdb)
 &PySem.W.callWith_K (h₀:=X.base) I.ok.mod.kin hk (uo (ha pos pins s σ H _ I h) fun us s1 ⟨vs,H1,I1,r,q⟩=>⟨I1.kIn,?_⟩) he hpl
 ~A5 F hr hb hd hx I1 r q
theorem oU {pl:Sem Bool} (he:PE X o ta) (c:yN X.K C) (hm:DW X.K C m f) (F:k6 X.prog X.w X.K X.mg X.base CX k f fd ps sp) (hr:ua k X.A) (hb:Binds X.K fd ps ds) (hd:l6 dvs ds) (hx:yq CX X E) (ha:PA X (e::es) t)
    (hst:starEach (e::es) X.env=(false,eval e X.env)::starEach es X.env:=by rfl) (hpl:(backTo pos (starEach es X.env)).any (·.1)=false:=by rfl)
    (ht:eval (.Call (.Attribute o m apos) (e::es) [] pos) X.env=(do
      let ov <- eval o X.env
      standAt apos.atName
      let (f,first) <- holding [ov] (getMethod ov m pl)
      callWith pos f first (backTo pos (starEach (e::es) X.env)) (backToKw pos (keywordEach [] X.env))):=by rfl) :
    PE X (.Call (.Attribute o m apos) (e::es) [] pos) (Jb C m sp dvs E ta t):=by
  intro pins s σ H Q I h
  &PySem.W.methodCall_KW (pl:=pl) (uo (he pins s σ H _ I h) fun u s1 ⟨x,H1,I1,rx,a,dx,fs,ex,ea,l,q⟩=>?_) ht
  subst ex
  obtain rfl:u=Value.ref a:=rx
  &ze I1 ea c hm l ?_
  &PySem.W.callWith_K (first:=[.ref a]) (h₀:=X.base) I.ok.mod.kin hm.kp (uo (ha pos pins s1 σ H1 _ I1 q) fun us s2 ⟨vs,H2,I2,r,q2⟩=>⟨I2.kIn,?_⟩) hst hpl
  ~A5 (us:=.ref a::us) (vs:=.ref a::vs) F hr hb hd hx I2 (.cons rfl r) q2
theorem lZ {pl:Sem Bool} (he:PE X o ta) (c:yN X.K C) (hm:DW X.K C m f) (F:k6 X.prog X.w X.K X.mg X.base CX k f fd ps sp) (hr:ua k X.A) (hb:Binds X.K fd ps ds) (hd:l6 dvs ds) (hx:yq CX X E)
    (ht:eval (.Call (.Attribute o m apos) [] [] pos) X.env=(do
      let ov <- eval o X.env
      standAt apos.atName
      let (f,first) <- holding [ov] (getMethod ov m pl)
      callWith pos f first (backTo pos (starEach [] X.env)) (backToKw pos (keywordEach [] X.env))):=by rfl) :
    PE X (.Call (.Attribute o m apos) [] [] pos) (Jb C m sp dvs E ta Od):=by
  intro pins s σ H Q I h
  &PySem.W.methodCall_KW (pl:=pl) (uo (he pins s σ H _ I h) fun u s1 ⟨x,H1,I1,rx,a,dx,fs,ex,ea,l,q⟩=>?_) ht
  subst ex
  obtain rfl:u=Value.ref a:=rx
  &ze I1 ea c hm l ?_
  ~PySem.W.callWith_K0 (first:=[.ref a]) I1.kIn hm.kp (A5 (us:=[.ref a]) (vs:=[.ref a]) F hr hb hd hx I1 (.cons rfl .nil) q)
structure Mk (K:PySem.W.Frag) (C f:Addr):Prop where
 makes:PySem.W.makesIn K C=true
 init:PySem.W.findIn K (.ref C) "__init__" = some (some (.ref f))
 fn:PySem.W.isFn K (.ref f)=true
 kp:PySem.W.keepIn K (.ref C)=true
theorem HZ{pins:List (Addr×Obj)}{σ:St}{H:Hp}{s:Shared}{Q:VK}{us:List Value}{vs:List V}(M:Mk X.K C f)(F:k6 X.prog X.w X.K X.mg X.base CX k f fd ps sp)(hr:ua (k+1) X.A)(hb:Binds X.K fd ps ds)(hd:l6 dvs ds)
  (hx:yq CX X E) (I:Inv X pins σ H s) (r:l6 vs us)
  (h:∀x dx,H x=none->H dx=none->dx≠x->sp (.ref x::(vs++dvs)) (upd (upd H dx (.own x)) x (.ins C dx [])) (fun v H2=>v=.non/\Q (.ref x) H2) E) :
  wpAny (model X.prog X.w) X.A (call (.ref C) us) (EP X pins σ Q) X.xe s:=by
 have hq:=h (s.heap.objs.size+1) s.heap.objs.size (I.hok.fresh (Nat.le_succ _)) (I.hok.fresh (Nat.le_refl _)) (Nat.ne_of_lt (Nat.lt_succ_self _))
 have I2:=Inv.made (C:=C) I
 have r2:l6 (V.ref (s.heap.objs.size+1)::(vs++dvs)) (Value.ref (s.heap.objs.size+1)::(us++ds)):=.cons rfl (r.append hd)
 have hl:(Value.ref (s.heap.objs.size+1)::us++ds).length=ps.length:=by
  have e:=r2.length
  rw[F.len _ _ _ _ hq] at e
  ~e.symm
 &wpAny_call (HC (f:=f) I.kIn M.makes M.init (beq_iff_eq.mp M.fn) (codeAny_mono (F.run _ X.stack _ _ ⟨Value.ref (s.heap.objs.size+1)::us,[]⟩ (Value.ref (s.heap.objs.size+1)::(us++ds)) _ _ E (hr.make C us [])
  (I2.env0.make C us []) (hb _ (Value.ref (s.heap.objs.size+1)::us) I2.kIn hl) r2 hq) fun r s' hq'=>?_))
 cases r with
 | error e=>~hx pins σ _ _ e s' I2 hq'
 | ok fl =>
  cases fl with
  | ret u =>
   !⟨v,H',I3,rv,ev,q3⟩:=I2.after hq'
   subst ev
   ~⟨rv,⟨V.ref (s.heap.objs.size+1),H',I3,rfl,q3⟩⟩
  | next=>~False.elim hq'
  | brk=>~False.elim hq'
  | cont=>~False.elim hq'
theorem oP(M:Mk X.K C f)(F:k6 X.prog X.w X.K X.mg X.base CX k f fd ps sp)(hr:ua (k+1) X.A)(hg:Gl X x)(hm:X.mg x=some (.ref C))(hb:Binds X.K fd ps ds)(hd:l6 dvs ds)(hx:yq CX X E)
  (ha:PA X (e::es) t) (hdb:(x==("__debug__" : Str))=false:=by decide) (he:starEach (e::es) X.env=(false,eval e X.env)::starEach es X.env:=by rfl) (hpl:(backTo pos (starEach es X.env)).any (·.1)=false:=by rfl) :
  PE X (.Call (.Name x p) (e::es) [] pos) (K5 C sp dvs E t):=by
 intro pins s σ H Q I h
 &wpAny_Call_Name_kw (eE I hg hm ?_ hdb)
 &PySem.W.callWith_K (h₀:=X.base) I.ok.mod.kin M.kp (uo (ha pos pins s σ H _ I h) fun us s1 ⟨vs,H1,I1,r,q⟩=>⟨I1.kIn,?_⟩) he hpl
 ~HZ M F hr hb hd hx I1 r q
end
section
variable{X:Cx}{CX:DS}{k:Nat}{f C:Addr}{fd:FuncData}{ps ks:List Str}{sp:Sp}{E:XK}{x m:Str}{p pos apos kpos:Pos}{e o:Expr}{es:List Expr}{kws:List Keyword}{te ta:TE}{t tk:TA}{nm:Option Str}
variable{g:List Value->List Value->List Value}{gV:List V->List V->List V}
end
structure c9 (N P:List Str) (sc:Scope):Prop where
 kind:sc.kind=.function
 co:sc.isCoroutine=false
 gen:sc.isGenerator=false
 nd:N.Nodup
 pre:N.take P.length=P
 par:∀x∈P,sc.names.lookup x=some .local\/sc.names.lookup x=some .cell
 nofree:∀y∈sc.names,y.2≠.free
theorem uM{N P:List Str}{sc:Scope}(h1:N.Nodup:=by decide +kernel)(h2:∀x∈P,sc.names.lookup x=some .local\/sc.names.lookup x=some .cell:=by decide +kernel)(h3:∀y∈sc.names,y.2≠.free:=by decide +kernel)(k:sc.kind=.function:=by rfl)(c:sc.isCoroutine=false:=by rfl)(g:sc.isGenerator=false:=by rfl)(p:N.take P.length=P:=by rfl):c9 N P sc:=⟨k,c,g,h1,p,h2,h3⟩
theorem Cq{kindOf:Str->Option NameKind}{x:Str}:∀{binds:List (Str×Value)} {m:Str->Option Value},(∀v,(x,v)∉binds)->bindL kindOf binds m x=m x
 | [],_,_=>rfl
 | (n,v)::r,m,h=>by
  unfold bindL
  rw[Cq fun w hw=>h w (List.mem_cons_of_mem _ hw)]
  split
  ·have:x≠n:=by rintro rfl;~h v List.mem_cons_self
   simp[this]
  ·rfl
theorem Ci{kindOf:Str->Option NameKind}{x:Str}:∀{binds:List (Str×Value)} {m:Str->Option Value},(∀v,(x,v)∉binds)->bindC kindOf binds m x=m x
 | [],_,_=>rfl
 | (n,v)::r,m,h=>by
  unfold bindC
  rw[Ci fun w hw=>h w (List.mem_cons_of_mem _ hw)]
  split
  ·rfl
  ·have:x≠n:=by rintro rfl;~h v List.mem_cons_self
   simp[this]
theorem Cy{kindOf:Str->Option NameKind}{x:Str}{v:Value}:∀{P:List Str} {vs:List Value} {i:Nat} {m:Str->Option Value},P.Nodup->P[i]?=some x->vs[i]?=some v->kindOf x=some .local ->
  bindL kindOf (P.zip vs) m x=some v
 | [],_,_,_,_,h,_,_=>by simp at h
 | _::_,[],_,_,_,_,h,_=>by simp at h
 | p::P,w::vs,0,m,nd,h1,h2,hk=>by
  simp at h1 h2;subst h1;subst h2
  show bindL kindOf ((p,w)::P.zip vs) m p=_
  unfold bindL
  rw[Cq fun v hv=>(List.nodup_cons.mp nd).1 (List.of_mem_zip hv).1,if_pos hk]
  simp
 | p::P,w::vs,i+1,m,nd,h1,h2,hk=>by
  show bindL kindOf ((p,w)::P.zip vs) m x=_
  unfold bindL
  ~Cy (i:=i) (List.nodup_cons.mp nd).2 (by simpa using h1) (by simpa using h2) hk
theorem Cc{kindOf:Str->Option NameKind}{x:Str}{v:Value}:∀{P:List Str} {vs:List Value} {i:Nat} {m:Str->Option Value},P.Nodup->P[i]?=some x->vs[i]?=some v->kindOf x≠some .local ->
  bindC kindOf (P.zip vs) m x=some v
 | [],_,_,_,_,h,_,_=>by simp at h
 | _::_,[],_,_,_,_,h,_=>by simp at h
 | p::P,w::vs,0,m,nd,h1,h2,hk=>by
  simp at h1 h2;subst h1;subst h2
  show bindC kindOf ((p,w)::P.zip vs) m p=_
  unfold bindC
  rw[Ci fun v hv=>(List.nodup_cons.mp nd).1 (List.of_mem_zip hv).1,if_neg hk]
  simp
 | p::P,w::vs,i+1,m,nd,h1,h2,hk=>by
  show bindC kindOf ((p,w)::P.zip vs) m x=_
  unfold bindC
  ~Cc (i:=i) (List.nodup_cons.mp nd).2 (by simpa using h1) (by simpa using h2) hk
def start(N:List Str)(vs:List V):St:=vs.map some++List.replicate (N.length - vs.length) none
noncomputable def yi(CX:DS)(P:Program)(w:World)(K:PySem.W.Frag)(mg:Str->Option Value)(base:Heap)(N:List Str)(qual:Str)(scope:Scope)(f:Addr)(cd:Value)(A:Around)(outer:List Env)(s:Shared)(H:Hp)(E:XK):Cx where
 prog:=P
 w:=w
 K:=K
 mg:=mg
 base:=base
 A:=A.deeper (envOfC qual scope s.heap.objs.size f cd)
 N:=N
 s₀:=s
 H₀:=H
 env:=envOfC qual scope s.heap.objs.size f cd
 outer:=outer
 stack:=envOfC qual scope s.heap.objs.size f cd::outer
 ex:=[]
 calm:=true
 fn:=fun _=>true
 pn:=[]
 xe:=fun e s'=>wpAny (model P w) (A.deeper (envOfC qual scope s.heap.objs.size f cd)) (leaving (envOfC qual scope s.heap.objs.size f cd) e) (fun _ s''=>CX outer H s E e s'') (fun e' s''=>CX outer H s E e' s'') s'
theorem D3{sc:Scope}{n:Nat}{x:Str}(h:sc.names.lookup x=some .cell):∃c,(cellsFrom n sc.names []).lookup x=some c:=by
 have q:=PySem.W.cellsFrom_some sc.names n [] (.inl h)
 ~Option.isSome_iff_exists.mp q
theorem G7{CX:DS}{P:Program}{w:World}{K:PySem.W.Frag}{mg:Str->Option Value}{base:Heap}{N ps:List Str}{qual:Str}{scope:Scope}{f:Addr}{cd:Value}{A:Around}{outer:List Env}{s s1:Shared}{H:Hp}{E:XK}{us:List Value}{vs:List V}
  (S:c9 N ps scope) (hd:A.handled=none) (e0:Aa P w K mg base A outer s H) (hl:vs.length=ps.length) (r:l6 vs us)
  (x:InCallC s s.heap.objs.size (bindL (envOfC qual scope s.heap.objs.size f cd).kindOf (ps.zip us) fun _=>none) (cellsFrom (s.heap.objs.size+1) scope.names []) (bindC (envOfC qual scope s.heap.objs.size f cd).kindOf (ps.zip us) fun _=>none) s1) :
  Inv (yi CX P w K mg base N qual scope f cd A outer s H E) [] (start N vs) H s1:=by
 have hpl:ps.length<=N.length:=by have:=congrArg List.length S.pre;rw[List.length_take] at this;omega
 !⟨h1,tk,rfl,hk⟩:=x.done
 have noA:∀b:Addr,b∉(yi CX P w K mg base N qual scope f cd A outer s H E).ex:=fun b z=>absurd (show b∈([]:List Addr) from z) (by simp)
 &⟨⟨e0.mod,S.kind,rfl,rfl,Nat.le_refl _,fun y z c h1 h2=>?_,fun y hy=>?_,fun y c _ h=>?_,fun _=>hd,Around.frames_deeper e0.frames,.inr ⟨rfl,rfl⟩,fun b z=>absurd z (noA b),e0.bs,e0.bsz,fun b _ _=>noA b,fun b z=>absurd z (noA b),e0.funs,e0.frf⟩,
  rfl,e0.bare,Un.kept hk,⟨_,x.toInCall.ns,fun i y v h1 h2 h3=>?_⟩,fun y c h=>⟨_,x.cell y c h⟩,e0.hok.fresh (Nat.le_refl _),fun y c h=>?_,fun p hp=>absurd (show p∈([]:List (Addr×Obj)) from hp) (by simp),e0.hok.kept hk,?_⟩
 ·~name_of_addr x.apart (PySem.mem_of_lookup h1) (PySem.mem_of_lookup h2)
 ·have hy:scope.names.lookup y=some .cell\/scope.names.lookup y=some .free:=hy
  rcases hy with hy | hy
  ·~D3 hy
  ·~absurd rfl (S.nofree _ (PySem.mem_of_lookup hy))
 ·~Nat.le_of_lt (x.above y c (PySem.mem_of_lookup h))
 ·have hi:i<vs.length:=by
   unfold start at h2
   by_cases hi:i<vs.length
   ·~hi
   ·rw[List.getElem?_append_right (by simpa using hi)] at h2
    rw[List.getElem?_replicate] at h2
    split at h2<;>cases h2
  have ha:vs[i]?=some v:=by
   unfold start at h2
   rw[List.getElem?_append_left (by simpa using hi),List.getElem?_map] at h2
   cases e:vs[i]? with
   | none=>rw[e] at h2;cases h2
   | some a=>rw[e] at h2;cases h2;rfl
  !⟨u,hu,rv⟩:=r.get ha
  have hp:ps[i]?=some y:=by
   rw[<- S.pre,List.getElem?_take_of_lt (by omega)];~h1
  have ndP:ps.Nodup:=by rw[<- S.pre];~S.nd.sublist (List.take_sublist _ _)
  &⟨u,rv,?_⟩
  rcases S.par y (List.mem_of_getElem? hp) with k | k
  ·~.inl ⟨k,Cy ndP hp hu k⟩
  ·!⟨c,e⟩:=D3 (n:=s.heap.objs.size+1) k
   &.inr ⟨.inl k,c,e,?_⟩
   have q:=x.cell y c e
   rw[Cc ndP hp hu (by show scope.names.lookup y≠_;rw[k];decide)] at q
   ~q
 ·~e0.hok.fresh (Nat.le_of_lt (x.above y c (PySem.mem_of_lookup h)))
 ·unfold start
  show _=N.length
  rw[List.length_append,List.length_map,List.length_replicate]
  omega
theorem qX {CX:DS} {P:Program} {w:World} {K:PySem.W.Frag} {mg:Str->Option Value} {base:Heap} {k:Nat} {f:Addr} {name qual:Str} {params:Arguments} {body:List Stmt} {scope:Scope} {dV kV doc pm cdv ct oc:Value} {an od:Option Addr}
    {osl:Array (Option Value)} {N ps:List Str} {sp:Sp} (lk:K.lookup f=some ⟨oc,od,.func (PySem.W.fnOf name qual params body scope dV kV doc pm an cdv ct),osl⟩) (hcd:PySem.W.codeIn K cdv qual=true) (S:c9 N ps scope)
    (len:∀vs H Q E,sp vs H Q E->vs.length=ps.length)
    (hbody:∀(A:Around) (outer:List Env) (s:Shared) (H:Hp) (vs:List V) (Q:VK) (E:XK),ua k (A.deeper (envOfC qual scope s.heap.objs.size f cdv))->sp vs H Q E ->
      ∃t,PSs (yi CX P w K mg base N qual scope f cdv A outer s H E) body t/\t {nx:=fun _ H'=>Q .non H',rt:=Q} (start N vs) H) :
    k6 P w K mg base CX (k+1) f (PySem.W.fnOf name qual params body scope dV kV doc pm an cdv ct) ps sp:=by
  &⟨len,fun A outer s H args us vs Q E hr e0 hb r hsp=>?_⟩
  have hl:=len _ _ _ _ hsp
  have KX:K.In s.heap:=e0.mod.kin.keeps fun b o e=>(e0.bs b o e).1
  have lim:s.heap.NoLimit:=e0.mod.nolimit.keeps fun b o e=>(e0.bs b o e).1
  have hkind:∀y∈ps.zip us,scope.names.lookup y.1=some .local\/(scope.names.lookup y.1=some .cell/\((cellsFrom (s.heap.objs.size+1) scope.names []).lookup y.1).isSome=true):=fun ⟨n,v⟩ hy=>by
    rcases S.par n (List.of_mem_zip hy).1 with q | q
    · ~.inl q
    · ~.inr ⟨q,PySem.W.cellsFrom_some _ _ _ (.inl q)⟩
  &codeAny_call_function hr.depth (KX _ _ lk) rfl S.co S.gen rfl (PySem.W.codeRec_of KX hcd) (hb _ _ _ _ ?_)
  &wpAny_newFunctionEnv_cells S.kind hkind fun env he s1 x=>?_
  subst he
  &⟨lim.keeps x.toInCall.keep,codeAny_func ?_⟩
  !⟨t,ht,hq⟩:=hbody A outer s H vs Q E (hr.deeper _) hsp
  have I:Inv (yi CX P w K mg base N qual scope f cdv A outer s H E) [] (start N vs) H s1:=G7 S hr.hd e0 hl r x
  &wpAny_mono (ht [] s1 (start N vs) H _ I hq) (fun fl s' hs=>?_) fun e s' hs=>hs
  have fin:∀{σ':St} {H':Hp} {v:V} {u:Value},Inv (yi CX P w K mg base N qual scope f cdv A outer s H E) [] σ' H' s'->RelV v u->Q v H'->CE outer P w H s Q u s':=
    fun {σ' H' v u} J rv q=>⟨v,H',J.os,J.bare,J.base,J.hok,rv,q⟩
  cases fl with
  | ret u =>
    !⟨v,σ',H',J,rv,q⟩:=hs
    ~fin J rv q
  | next =>
    !⟨σ',H',J,q⟩:=hs
    ~fin (v:=V.non) (u:=Value.none) J rfl q
  | brk =>
    !⟨_,_,_,q⟩:=hs
    ~False.elim q
  | cont =>
    !⟨_,_,_,q⟩:=hs
    ~False.elim q
end L2
namespace L2
open PySem PySem.Spec PyProof.Rows
section
variable{X:Cx}{x:Str}{p pos:Pos}{e:Expr}{es:List Expr}{t:TA}{id T:String}{r:List V->Hp->VK->Prop}
def Q6(r:List V->Hp->VK->Prop)(t:TA):TE:=fun σ H Q=>t σ H fun vs H1=>r vs H1 Q
theorem mm(hc:CallR X (.builtin id) r)(hg:Gl X x)(hm:X.mg x=none)(hv:bootBuiltins x=some (.builtin id))(ha:PA X (e::es) t)(hn:x ≠ "__name__":=by decide)(hdb:(x==("__debug__" : Str))=false:=by decide)
  (he:starEach (e::es) X.env=(false,eval e X.env)::starEach es X.env:=by rfl) (hpl:(backTo pos (starEach es X.env)).any (·.1)=false:=by rfl):PE X (.Call (.Name x p) (e::es) [] pos) (Q6 r t):=by
 intro pins s σ H Q I h
 &wpAny_Call_Name_kw (cJ I hg hm hv ?_ hn hdb)
 ~PyProof.Rows.callWith_builtin1 (uo (ha pos pins s σ H _ I h) fun us s1 ⟨vs,H1,I1,r1,q1⟩=>hc pins s1 σ H1 vs us Q I1 r1 q1) he hpl
theorem pF(hc:CallR X (.type T) r)(hg:Gl X x)(hm:X.mg x=none)(hv:bootBuiltins x=some (.type T))(ha:PA X (e::es) t)(hn:x ≠ "__name__":=by decide)(hdb:(x==("__debug__" : Str))=false:=by decide)
  (he:starEach (e::es) X.env=(false,eval e X.env)::starEach es X.env:=by rfl) (hpl:(backTo pos (starEach es X.env)).any (·.1)=false:=by rfl):PE X (.Call (.Name x p) (e::es) [] pos) (Q6 r t):=by
 intro pins s σ H Q I h
 &wpAny_Call_Name_kw (cJ I hg hm hv ?_ hn hdb)
 ~PyProof.Rows.callWith_type1 (uo (ha pos pins s σ H _ I h) fun us s1 ⟨vs,H1,I1,r1,q1⟩=>hc pins s1 σ H1 vs us Q I1 r1 q1) he hpl
end
end L2
namespace HT
open PySem PyProof.Rows
section
open PySem.SeqAt
open PySem.AutoSeq1 (wpAny_loadPart')
open PySem.MeetsSeq PySem.MeetsSeq2 PySem.MeetsSeq3
end
section
variable{prog:Program}{w:World}{A:Around}{E:Value->Shared->Prop}{s:Shared}
theorem cat_tup{t b:Addr}{vs ws:List Value}{Q:Value->Shared->Prop}(ht:IsTup s.heap t vs.toArray)(hb:IsTup s.heap b ws.toArray)(hv:vs ≠ [])
  (h1:ws=[]->Q (.ref t) s) (h2:ws ≠ []->Q (.ref s.heap.objs.size) {s with heap:=s.heap.push {cls:=.type "tuple",data:=.seq (vs++ws).toArray} })
  (hsz:vs.length+ws.length<=sizeLine):wpAny (model prog w) A (binaryOp .Add (.ref t) (.ref b)) Q E s:=by
 !⟨⟨cls,dd,data,sl⟩,ho,hc,n,hd⟩:=id ht
 !⟨⟨cls2,dd2,data2,sl2⟩,ho2,hc2,n2,hd2⟩:=id hb
 simp only at hc hd hc2 hd2
 subst hc hd hc2 hd2
 have e:vs.toArray++ws.toArray=(vs++ws).toArray:=by simp
 by_cases hw:ws=[]
 ·~concat_meets ⟨_,ho,rfl⟩ ⟨_,ho2,rfl⟩ noFill_tuple_add seq_tuple_add PySem.F.slot_tuple_add PySem.F.entry_tuple_add (PySem.F.args_tuple_add_2 _ _)
   (tuple_addW1 t b vs.toArray ws.toArray n n2 dd dd2 sl sl2 (by simpa using hv) (by simp[hw])) ⟨ho,ho2,h1 hw⟩
 ·&concat_meets ⟨_,ho,rfl⟩ ⟨_,ho2,rfl⟩ noFill_tuple_add seq_tuple_add PySem.F.slot_tuple_add PySem.F.entry_tuple_add (PySem.F.args_tuple_add_2 _ _)
   (tuple_addW2 t b vs.toArray ws.toArray n n2 dd dd2 sl sl2 (by simpa using hv) (by simpa using hw) (by rw[List.size_toArray,List.size_toArray];~hsz)) ⟨ho,ho2,?_⟩
  rw[e]
  ~h2 hw
noncomputable def sIx(n d:Nat):Option Int->Nat
 | none=>d
 | some v=>if v<0 then (v+(n:Int)).toNat else min v.toNat n
theorem LN(n d:Nat)(hd:d<=n)(o:Option Int):sIx n d o<=n:=by
 cases o with
 | none=>~hd
 | some v =>
  show(if v<0 then (v+(n:Int)).toNat else min v.toNat n)<=n
  by_cases hv:v<0
  ·rw[if_pos hv];omega
  ·rw[if_neg hv];~Nat.min_le_right _ _
theorem Gr(v:Int)(n d:Nat):(if v<0 then max (v+(n:Int)) 0 else min v (n:Int))=((sIx n d (some v):Nat):Int):=by
 show(if v<0 then max (v+(n:Int)) 0 else min v (n:Int))=(((if v<0 then (v+(n:Int)).toNat else min v.toNat n):Nat):Int)
 by_cases hv:v<0
 ·simp only[if_pos hv];omega
 ·simp only[if_neg hv];omega
theorem EW(lo hi:Option Int)(n:Nat):Builtin.Slice.sliceAdjust lo hi 1 (n:Int)=(((sIx n 0 lo:Nat):Int),((sIx n n hi:Nat):Int)):=by
 have h1:¬ ((1:Int)<0):=by omega
 unfold Builtin.Slice.sliceAdjust
 simp only[h1,if_false]
 &Prod.ext ?_ ?_
 ·cases lo with
  | none=>rfl
  | some v=>~Gr v n 0
 ·cases hi with
  | none=>rfl
  | some v=>~Gr v n n
theorem Fl(i j:Nat):Builtin.Slice.slicePlaces (i:Int) (j:Int) 1=j - i:=by
 unfold Builtin.Slice.slicePlaces
 have h1:(1:Int) > 0:=by omega
 simp only[h1,if_true,Int.ediv_one]
 split<;>omega
theorem Bu{v:Value}{o:Option Int}{Q:Option Int->Shared->Prop}(p:IsPart v o)(h:Q o s):wpAny (model prog w) A (Builtin.Slice.slicePartIndex v) Q E s:=by
 cases p with
 | none=>~slicePart_none h
 | int i t=>~slicePart_int h
theorem sliceApplied_gen{sl:Addr}{vl vu:Value}{lo hi:Option Int}{n:Nat}{Q:Int×Int×Nat->Shared->Prop}(hs:s.heap.IsSliceOf sl vl vu .none)(pl:IsPart vl lo)(pu:IsPart vu hi)
  (h:Q (((sIx n 0 lo:Nat):Int),1,sIx n n hi - sIx n 0 lo) s):wpAny (model prog w) A (Builtin.Slice.sliceApplied (.ref sl) (pure (n:Int))) Q E s:=by
 !⟨os,hos,hcs,hds⟩:=id hs
 unfold Builtin.Slice.sliceApplied Builtin.Slice.sliceFields
 &wpAny_bind (wpAny_bind (wpAny_field hos hds (x:=vl) rfl (wpAny_bind (wpAny_field hos hds (x:=vu) rfl (wpAny_bind (wpAny_field hos hds (x:=.none) rfl (wpAny_pure ?_)))))))
 &wpAny_bind (slicePart_none ?_)
 show wpAny _ _ (if ((1:Int)==0)=true then _ else _) _ _ s
 rw[if_neg (by decide)]
 &wpAny_bind (Bu pl (wpAny_bind (Bu pu (wpAny_bind (wpAny_pure ?_)))))
 show wpAny _ _ (match Builtin.Slice.sliceAdjust lo hi 1 (n:Int) with | (lo,hi)=>pure (lo,(1:Int),Builtin.Slice.slicePlaces lo hi 1)) _ _ s
 rw[EW lo hi n]
 show wpAny _ _ (pure (((sIx n 0 lo:Nat):Int),(1:Int),Builtin.Slice.slicePlaces ((sIx n 0 lo:Nat):Int) ((sIx n n hi:Nat):Int) 1)) _ _ s
 rw[Fl]
 ~wpAny_pure h
theorem IN(xs:Array Value)(i k:Nat):((List.range k).filterMap fun (m:Nat)=>xs[((i:Int)+(m:Int)*1).toNat]?).toArray=((xs.toList.drop i).take k).toArray:=by
 have e:(fun (m:Nat)=>xs[((i:Int)+(m:Int)*1).toNat]?)=fun m=>xs[i+m]?:=by
  funext m
  have:((i:Int)+(m:Int)*1).toNat=i+m:=by omega
  rw[this]
 rw[e]
 have:=pick_run xs i k
 rw[List.filterMap_map] at this
 have e2:((fun x=>xs[x]?) ∘ fun x=>i+x)=fun m=>xs[i+m]?:=rfl
 rw[e2] at this
 rw[this]
theorem getItem_tuple_cut{t sl:Addr}{items:Array Value}{vl vu:Value}{lo hi:Option Int}{Q:Value->Shared->Prop}(ht:IsTup s.heap t items)(hs:s.heap.IsSliceOf sl vl vu .none)(pl:IsPart vl lo)(pu:IsPart vu hi)
  (hw:¬ (sIx items.size 0 lo=0/\sIx items.size items.size hi=items.size))
  (h:Q (.ref s.heap.objs.size) {s with heap:=s.heap.push {cls:=.type "tuple",data:=.seq ((items.toList.drop (sIx items.size 0 lo)).take (sIx items.size items.size hi - sIx items.size 0 lo)).toArray} })
  (hsz:items.size<=sizeLine):wpAny (model prog w) A (getItem (.ref t) (.ref sl)) Q E s:=by
 have htake:sizeOk (.seq ((items.toList.drop (sIx items.size 0 lo)).take (sIx items.size items.size hi - sIx items.size 0 lo)).toArray):=by
  show((items.toList.drop (sIx items.size 0 lo)).take (sIx items.size items.size hi - sIx items.size 0 lo)).toArray.size<=sizeLine
  rw[List.size_toArray,List.length_take,List.length_drop,Array.length_toList]
  omega
 have hj:sIx items.size items.size hi<=items.size:=LN _ _ (Nat.le_refl _) hi
 !⟨os,hos,hcs,hds⟩:=id hs
 have hTs:s.TypeIs (.ref sl) "slice":=⟨os,hos,hcs⟩
 unfold getItem
 try with_reducible &wpAny_holding ?_
 first | &wpAny_bind (wpAny_pure ?_) | skip
 &wpAny_bind (wpAny_sequenceKey ht.typeIs (by decide) ?_)
 &wpAny_bind (wpAny_callSpecial?_slot (name:=Str.ofString "__getitem__") ht.typeIs PyProof.Rows.slot_tuple_getitem
  (wpAny_call_entry PyProof.Rows.slot_tuple_getitem ht.typeIs entry_tuple_getitem ?_ (args_tuple_getitem _ _)))
 show wpAny _ _ (Builtin.Tuple.tupleItemsOf (.ref t) >>= _) _ _ s
 &wpAny_bind (tupleItemsOf_ ht ?_)
 &wpAny_bind (wpAny_typeOf hTs ?_)
 rw[if_pos (by decide)]
 &wpAny_bind (sliceApplied_gen hs pl pu ?_)
 have hno:¬ ((((sIx items.size 0 lo:Nat):Int)==0&&(1:Int)==1&&(sIx items.size items.size hi - sIx items.size 0 lo)==items.size)=true):=by
  intro q
  rw[Bool.and_eq_true,Bool.and_eq_true] at q
  have q1:((sIx items.size 0 lo:Nat):Int)=0:=eq_of_beq q.1.1
  have q2:sIx items.size items.size hi - sIx items.size 0 lo=items.size:=eq_of_beq q.2
  ~hw ⟨by omega,by omega⟩
 show wpAny _ _ (if (((sIx items.size 0 lo:Nat):Int)==0&&(1:Int)==1&&(sIx items.size items.size hi - sIx items.size 0 lo)==items.size)=true then _ else _) _ _ s
 rw[if_neg hno,IN]
 first
  | ~wpAny_bind (m:=Builtin.Tuple.tupleExact _) (wpAny_newObj_type (wpAny_pure ⟨_,rfl,wpAny_pure h⟩) htake)
  | ~wpAny_bind (m:=Builtin.Tuple.tupleExact _) (wpAny_newObj_type (wpAny_bind (wpAny_pure (wpAny_pure ⟨_,rfl,wpAny_pure h⟩))) htake)
  | ~wpAny_bind (wpAny_bind (m:=Builtin.Tuple.tupleExact _) (wpAny_newObj_type (wpAny_pure (wpAny_pure ⟨_,rfl,wpAny_pure h⟩)) htake))
  | ~wpAny_bind (wpAny_bind (m:=Builtin.Tuple.tupleExact _) (wpAny_newObj_type (wpAny_pure ⟨_,rfl,wpAny_pure h⟩) htake))
end
end HT
namespace L2
open PySem PySem.Spec PyProof.Rows
abbrev TO:=St->Hp->(Option Int->Hp->Prop)->Prop
def PO(X:Cx)(e:Option Expr)(t:TO):Prop:=
 ∀(pins:List (Addr×Obj)) (s:Shared) (σ:St) (H:Hp) (Q:Option Int->Hp->Prop),Inv X pins σ H s->t σ H Q ->
  wpAny (model X.prog X.w) X.A (evalPart e X.env) (fun u s'=>∃o H',Inv X pins σ H' s'/\IsPart u o/\Q o H') X.xe s
def Kk:TO:=fun _ H Q=>Q none H
def NY(t:TE):TO:=fun σ H Q=>t σ H fun x H1=>∃i,x=.int i/\Q (some i) H1
section
variable{X:Cx}{e:Expr}{te:TE}{lo hi:Option Expr}{tl th:TO}{pos p2:Pos}
theorem Kx:PO X none Kk:=by
 intro pins s σ H Q I h
 rw[evalPart_none]
 ~wpAny_pure ⟨none,H,I,.none,h⟩
theorem KL(h:PE X e te):PO X (some e) (NY te):=by
 intro pins s σ H Q I hw
 rw[evalPart_some]
 &uo (h pins s σ H _ I hw) fun u s1 ⟨x,H1,I1,r1,q1⟩=>?_
 !⟨i,rfl,q⟩:=q1
 !⟨t,rfl⟩:=r1
 ~⟨some i,H1,I1,.int i t,q⟩
def Ll(X:Cx)(r:V->Option Int->Option Int->Hp->VK->Prop):Prop:=
 ∀(pins:List (Addr×Obj)) (s:Shared) (σ:St) (H:Hp) (x:V) (v vl vu:Value) (lo hi:Option Int) (sl:Addr) (Q:VK),Inv X pins σ H s->RelV x v->s.heap.IsSliceOf sl vl vu .none->IsPart vl lo->IsPart vu hi->r x lo hi H Q ->
  ∃T id,typeLookup (.type T) "__getitem__" = pure (some (.builtin id))/\s.TypeIs v T/\wpAny (model X.prog X.w) X.A (getItem v (.ref sl)) (EP X pins σ Q) X.xe s
theorem Ll.or{r r':V->Option Int->Option Int->Hp->VK->Prop}(h:Ll X r)(h':Ll X r'):Ll X (fun x lo hi H Q=>r x lo hi H Q\/r' x lo hi H Q):=by
 intro pins s σ H x v vl vu lo hi sl Q I rx hs pl pu q
 rcases q with q | q
 ·~h pins s σ H x v vl vu lo hi sl Q I rx hs pl pu q
 ·~h' pins s σ H x v vl vu lo hi sl Q I rx hs pl pu q
def RC(r:V->Option Int->Option Int->Hp->VK->Prop)(te:TE)(tl th:TO):TE:=fun σ H Q=>te σ H fun x H1=>tl σ H1 fun l H2=>th σ H2 fun u H3=>r x l u H3 Q
theorem ql{r:V->Option Int->Option Int->Hp->VK->Prop}(hr:Ll X r)(he:PE X e te)(hl:PO X lo tl)(hu:PO X hi th):PE X (.Subscript e (.Slice lo hi none p2) pos) (RC r te tl th):=by
 intro pins s σ H Q I h
 &Subscript_ (uo (he pins s σ H _ I h) fun v s1 ⟨x,H1,I1,r1,q1⟩=>?_)
 &wpAny_Slice (uo (hl pins s1 σ H1 _ I1 q1) fun vl s2 ⟨l,H2,I2,pl,q2⟩=>uo (hu pins s2 σ H2 _ I2 q2) fun vu s3 ⟨u,H3,I3,pu,q3⟩=>?_)
 rw[evalPart_none]
 &wpAny_pure ?_
 have I4:Inv X pins σ H3 {s3 with heap:=s3.heap.push {cls:=.type "slice",data:=.fields #[vl,vu,.none]} }:=I3.kept (t':=s3.toks) fun b ob q=>Heap.get?_push_of_some _ q
 obtain⟨T,id,hT,ht,hg⟩:=hr pins {s3 with heap:=s3.heap.push {cls:=.type "slice",data:=.fields #[vl,vu,.none]} } σ H3 x v vl vu l u s3.heap.objs.size Q I4 r1 (Heap.IsSliceOf.new ..) pl pu q3
 show wpAny (model X.prog X.w) X.A (subscriptTail e (.Slice lo hi none p2) v (.ref s3.heap.objs.size)) (EP X pins σ Q) X.xe {s3 with heap:=s3.heap.push {cls:=.type "slice",data:=.fields #[vl,vu,.none]} }
 ~tail_any (ops:=[.ref s3.heap.objs.size,v]) ht hT hg (by with_unfolding_all rfl)
def AB(xs:List V)(lo hi:Option Int):List V:=(xs.drop (HT.sIx xs.length 0 lo)).take (HT.sIx xs.length xs.length hi - HT.sIx xs.length 0 lo)
theorem Az(xs:List V)(lo hi:Option Int):(AB xs lo hi).length<=xs.length:=by
 unfold AB
 rw[List.length_take,List.length_drop]
 omega
def Qs(K:PySem.W.Frag):V->Option Int->Option Int->Hp->VK->Prop:=fun x lo hi H Q=>∃a xs,x=.ref a/\xj K H a xs /\
 ¬ (HT.sIx xs.length 0 lo=0/\HT.sIx xs.length xs.length hi=xs.length)/\∀p,H p=none->Q (.ref p) (upd H p (.tup (AB xs lo hi)))
theorem LP:Ll X (Qs X.K):=by
 intro pins s σ H x v vl vu lo hi sl Q I rx hs pl pu h
 !⟨a,xs,rfl,hx,hw,q⟩:=h
 cases rx
 !⟨its,r,ht,hz⟩:=I.tuple hx
 have hlen:its.toArray.size=xs.length:=by rw[List.size_toArray];~r.length.symm
 &⟨"tuple",_,PyProof.Rows.slot_tuple_getitem.lookup,ht.typeIs,?_⟩
 &HT.getItem_tuple_cut ht hs pl pu (by rw[hlen];~hw) ?_ (by rw[hlen];~hz)
 rw[hlen]
 &⟨.ref s.heap.objs.size,_,I.laid (t':=s.toks) (o:=.tup (AB xs lo hi)) (fun b ob q=>Heap.get?_push_of_some _ q) (Nat.le_refl _) ?_,rfl,q _ (I.hok.fresh (Nat.le_refl _))⟩
 ~⟨Nat.le_trans (Az xs lo hi) hz,_,(r.drop (HT.sIx xs.length 0 lo)).take (HT.sIx xs.length xs.length hi - HT.sIx xs.length 0 lo),w9.new _ _⟩
def OX(K:PySem.W.Frag):R2:=fun x y H Q=>∃a b xs ys,x=.ref a/\y=.ref b/\xj K H a xs/\xj K H b ys/\xs ≠ []/\xs.length+ys.length<=sizeLine /\
 (ys=[]->Q (.ref a) H)/\(ys ≠ []->∀p,H p=none->Q (.ref p) (upd H p (.tup (xs++ys))))
theorem l6.nil_iff{xs:List V}{us:List Value}(r:l6 xs us):us=[]↔xs=[]:=by
 cases r with
 | nil=>simp
 | cons _ _=>simp
theorem JZ:OpR X (binaryOp .Add) (OX X.K):=by
 intro pins s σ H x y v u Q I rx ry h
 !⟨a,b,xs,ys,rfl,rfl,ha,hb,hx,hz,q1,q2⟩:=h
 cases rx
 cases ry
 !⟨its,r1,p1,_⟩:=I.tuple ha
 !⟨its2,r2,p2,_⟩:=I.tuple hb
 &HT.cat_tup p1 p2 (fun z=>hx (r1.nil_iff.mp z)) (fun z=>⟨.ref a,H,I,rfl,q1 (r2.nil_iff.mp z)⟩) (fun z=>?_) (by rw[<- r1.length,<- r2.length];~hz)
 &⟨.ref s.heap.objs.size,_,I.laid (t':=s.toks) (o:=.tup (xs++ys)) (fun b ob q=>Heap.get?_push_of_some _ q) (Nat.le_refl _) ?_,rfl,q2 (fun w=>z (r2.nil_iff.mpr w)) _ (I.hok.fresh (Nat.le_refl _))⟩
 ~⟨by rw[List.length_append];~hz,_,r1.append r2,w9.new _ _⟩
end
end L2
namespace L2
open PySem PySem.Spec PyProof.Rows
noncomputable def NN(n:Nat)(i:Int):Option Nat:=if 0<=i then (if i<n then some i.toNat else none) else if -(n:Int)<=i then some (i+n).toNat else none
def Mq{α:Type}(xs:List α)(i:Int):Option α:=(NN xs.length i).bind fun j=>xs[j]?
theorem Kf{n:Nat}{i:Int}{j:Nat}(h:NN n i=some j):seqIndex? i n=some j/\j<n /\ -(n:Int)<=i/\i<n:=by
 unfold NN at h
 by_cases h0:0<=i
 ·rw[if_pos h0] at h
  by_cases h1:i<n
  ·rw[if_pos h1] at h
   have e:i.toNat=j:=Option.some.inj h
   ~⟨by rw[seqIndex_of h0 h1,e],by omega,by omega,h1⟩
  ·rw[if_neg h1] at h;cases h
 ·rw[if_neg h0] at h
  by_cases h1 : -(n:Int)<=i
  ·rw[if_pos h1] at h
   have e:(i+n).toNat=j:=Option.some.inj h
   ~⟨by rw[seqIndex_neg (by omega) h1,e],by omega,h1,by omega⟩
  ·rw[if_neg h1] at h;cases h
theorem Dd{α:Type}{xs:List α}{i:Int}{v:α}(h:Mq xs i=some v):∃j,seqIndex? i xs.length=some j/\xs[j]?=some v/\j<xs.length /\ -(xs.length:Int)<=i/\i<xs.length:=by
 unfold Mq at h
 cases e:NN xs.length i with
 | none=>rw[e] at h;cases h
 | some j =>
  rw[e] at h
  !⟨h1,h2,h3,h4⟩:=Kf e
  ~⟨j,h1,h,h2,h3,h4⟩
def C8(b:Expr):Prop:=∀o i,subscripted b false o i=operate [o,i] (getItem o i)
def IxR(X:Cx)(r:R2):Prop:=
 ∀(value slice:Expr) (pins:List (Addr×Obj)) (s:Shared) (σ:St) (H:Hp) (x y:V) (v u:Value) (Q:VK),Inv X pins σ H s->RelV x v->RelV y u->r x y H Q ->
  subscripted slice false v u=operate [v,u] (getItem v u)->wpAny (model X.prog X.w) X.A (subscriptTail value slice v u) (EP X pins σ Q) X.xe s
def Jy(X:Cx)(id:String)(r:V->List V->Hp->VK->Prop):Prop:=
 ∀(pins:List (Addr×Obj)) (s:Shared) (σ:St) (H:Hp) (x:V) (xs:List V) (v:Value) (us:List Value) (Q:VK),Inv X pins σ H s->RelV x v->l6 xs us->r x xs H Q ->
  wpAny (model X.prog X.w) X.A (call (.builtin id) (v::us)) (EP X pins σ Q) X.xe s
section
variable{X:Cx}{a b:Expr}{ta tb:TE}{pos:Pos}
theorem IxR.or{r r':R2}(h:IxR X r)(h':IxR X r'):IxR X (fun x y H Q=>r x y H Q\/r' x y H Q):=by
 intro value slice pins s σ H x y v u Q I rx ry q hs
 rcases q with q | q
 ·~h value slice pins s σ H x y v u Q I rx ry q hs
 ·~h' value slice pins s σ H x y v u Q I rx ry q hs
theorem Jy.or{id:String}{r r':V->List V->Hp->VK->Prop}(h:Jy X id r)(h':Jy X id r'):Jy X id (fun x xs H Q=>r x xs H Q\/r' x xs H Q):=by
 intro pins s σ H x xs v us Q I rx rs q
 rcases q with q | q
 ·~h pins s σ H x xs v us Q I rx rs q
 ·~h' pins s σ H x xs v us Q I rx rs q
theorem sC{r:R2}(hr:IxR X r)(ha:PE X a ta)(hb:PE X b tb)(hs:C8 b):PE X (.Subscript a b pos) (PF r ta tb):=by
 intro pins s σ H Q I h
 ~Subscript_ (Nb ha hb I h fun v u s2 x y H2 I2 rx ry q=>hr a b pins s2 σ H2 x y v u Q I2 rx ry q (hs _ _))
def QJ(K:PySem.W.Frag):R2:=fun x y H Q=>∃p xs i v,x=.ref p/\y=.int i/\wj K H p xs/\Mq xs i=some v/\Q v H
def Qu(K:PySem.W.Frag):R2:=fun x y H Q=>∃p xs i v,x=.ref p/\y=.int i/\xj K H p xs/\Mq xs i=some v/\Q v H
def P4:R2:=fun x y H Q=>∃z i c,x=.str z/\y=.int i/\z.length<=sizeLine/\Mq z.cps.toList i=some c/\Q (.str ⟨#[c]⟩) H
theorem JM:IxR X (QJ X.K):=by
 intro value slice pins s σ H x y v u Q I rx ry h hs
 !⟨p,xs,i,z,rfl,rfl,hq,he,q⟩:=h
 cases rx
 !⟨t,rfl⟩:=ry
 !⟨its,r,pl,hz⟩:=I.list hq
 !⟨j,h1,h2,h3,h4,h5⟩:=Dd he
 !⟨w,ew,rw'⟩:=r.get h2
 have hl:=r.length
 have hn:=A8
 have fin:EP X pins σ Q w s:=⟨z,H,I,rw',q⟩
 by_cases h0:0<=i
 ·have hj:i.toNat=j:=by
   rw[seqIndex_of h0 h5] at h1
   ~Option.some.inj h1
  ~item_listR pl.isList h0 (by omega) (by rw[hj];simpa using ew) fin hs
 ·have hj:(i+(its.toArray.size:Int)).toNat=j:=by
   rw[seqIndex_neg (by omega) h4] at h1
   rw[List.size_toArray,<- hl]
   ~Option.some.inj h1
  ~subscriptTail_builtinR (x:=w) pl.isList.typeIs slot_list_getitem.lookup
   (wpAny_getItem_list_neg (Q:=fun r s'=>r=w/\EP X pins σ Q r s') pl.isList (by omega) (by rw[List.size_toArray]<;>omega) (by omega) (by rw[hj];simpa using ew) ⟨rfl,fin⟩) hs
theorem L0:IxR X (Qu X.K):=by
 intro value slice pins s σ H x y v u Q I rx ry h hs
 !⟨p,xs,i,z,rfl,rfl,hq,he,q⟩:=h
 cases rx
 !⟨t,rfl⟩:=ry
 !⟨its,r,pl,hz⟩:=I.tuple hq
 !⟨j,h1,h2,h3,h4,h5⟩:=Dd he
 !⟨w,ew,rw'⟩:=r.get h2
 have hl:=r.length
 have hn:=A8
 have fin:EP X pins σ Q w s:=⟨z,H,I,rw',q⟩
 ~subscriptTail_builtinR (x:=w) pl.typeIs slot_tuple_getitem.lookup
  (getItem_tuple (j:=j) (Q:=fun r s'=>r=w/\EP X pins σ Q r s') pl (by omega) (by omega) (by rw[List.size_toArray,<- hl];~h1) (by simpa using ew) ⟨rfl,fin⟩) hs
theorem Mu:IxR X P4:=by
 intro value slice pins s σ H x y v u Q I rx ry h hs
 !⟨z,i,c,rfl,rfl,hz,he,q⟩:=h
 !⟨t,rfl⟩:=rx
 !⟨t',rfl⟩:=ry
 !⟨j,h1,h2,h3,h4,h5⟩:=Dd he
 have hl:z.cps.toList.length=z.length:=by simp[Str.length]
 rw[hl] at h1 h4 h5
 have hn:=A8
 ~tail_any (typeIs_str s z t) slot_str_getitem.lookup (getItem_str (c:=c) (by
  have e1:decide (i < -(2 ^ 63:Int))=false:=decide_eq_false (by omega)
  have e2:decide (i ≥ 2 ^ 63)=false:=decide_eq_false (by omega)
  rw[e1,e2,Bool.or_false]) (by rw[h1];simpa using h2) ⟨.str ⟨#[c]⟩,H,I.tok _,⟨_,rfl⟩,q⟩) hs
theorem Inv.lst{pins:List (Addr×Obj)}{σ:St}{H:Hp}{s:Shared}{p:Addr}{xs:List V}(I:Inv X pins σ H s)(h:H p=some (.lst xs)) :
  ∃(its:List Value) (n:Nat),l6 xs its/\s.heap.get? p=some {cls:=.type "list",data:=.seq its.toArray n}/\xs.length<=sizeLine:=by
 !⟨z,its,n,r,e⟩:=I.hok p _ h
 ~⟨its,n,r,e,z⟩
theorem DD(lo hi:Option Int)(n:Nat):(sliceBounds lo hi none n).1=((HT.sIx n 0 lo:Nat):Int)/\(sliceBounds lo hi none n).2.1=((HT.sIx n n hi:Nat):Int)/\(sliceBounds lo hi none n).2.2=1:=by
 &⟨?_,?_,rfl⟩
 ·cases lo with
  | none=>simp[sliceBounds,HT.sIx]
  | some i =>
   simp only[sliceBounds,HT.sIx,Option.getD_none,show(1:Int) > 0 by decide,if_true]
   by_cases h:i<0
   ·simp only[h,if_true]<;>omega
   ·simp only[h,if_false]<;>omega
 ·cases hi with
  | none=>simp[sliceBounds,HT.sIx]
  | some i =>
   simp only[sliceBounds,HT.sIx,Option.getD_none,show(1:Int) > 0 by decide,if_true]
   by_cases h:i<0
   ·simp only[h,if_true]<;>omega
   ·simp only[h,if_false]<;>omega
theorem BZ(its:List Value)(lo hi:Option Int):slicePick its.toArray lo hi none=((its.drop (HT.sIx its.length 0 lo)).take (HT.sIx its.length its.length hi - HT.sIx its.length 0 lo)).toArray:=by
 !⟨h1,h2,h3⟩:=DD lo hi its.toArray.size
 unfold slicePick
 rw[h1,h2,h3]
 simp only[sliceRange_one,pick_run,List.size_toArray]<;>rfl
def Qq(K:PySem.W.Frag):V->Option Int->Option Int->Hp->VK->Prop:=fun x lo hi H Q=>∃a xs,x=.ref a/\wj K H a xs/\∀p,H p=none->Q (.ref p) (upd H p (.lst (AB xs lo hi)))
theorem J1:Ll X (Qq X.K):=by
 intro pins s σ H x v vl vu lo hi sl Q I rx hs pl pu h
 !⟨a,xs,rfl,hx,q⟩:=h
 cases rx
 !⟨its,r,ht,hz⟩:=I.list hx
 have hlen:=r.length
 &⟨"list",_,slot_list_getitem.lookup,ht.isList.typeIs,?_⟩
 &wpAny_getItem_list_slice ht.isList hs pl pu .none (by simp) ?_ (by rw[List.size_toArray]<;>omega)
 rw[BZ,<- hlen]
 &⟨.ref s.heap.objs.size,_,I.laid (t':=s.toks) (o:=.lst (AB xs lo hi)) (fun b ob q=>Heap.get?_push_of_some _ q) (Nat.le_refl _) ?_,rfl,q _ (I.hok.fresh (Nat.le_refl _))⟩
 ~⟨Nat.le_trans (Az xs lo hi) hz,_,0,(r.drop (HT.sIx xs.length 0 lo)).take (HT.sIx xs.length xs.length hi - HT.sIx xs.length 0 lo),Heap.get?_push_size _ rfl⟩
def Cj:V->Bool
 | .non=>true
 | .bl _=>true
 | .int _=>true
 | .str _=>true
 | _=>false
noncomputable def ND:V->V->Bool
 | .non,.non=>true
 | .bl a,.bl b=>a==b
 | .bl a,.int b=>(if a then 1 else 0)==b
 | .int a,.bl b=>a==(if b then 1 else 0)
 | .int a,.int b=>a==b
 | .str a,.str b=>a==b
 | _,_=>false
theorem Mz{A:Around}{s:Shared}{y x:V}{u v:Value}(ry:RelV y u)(rx:RelV x v)(fy:Cj y=true)(fx:Cj x=true):SeqAt.EqAt A s u v (ND y x):=by
 cases y with
 | non =>
  cases ry
  cases x with
  | non=>cases rx;~SeqAt.EqAt.same _
  | bl b=>cases rx;~SeqAt.EqAt.none_bool b
  | int b=>!⟨t,rfl⟩:=rx;~SeqAt.EqAt.none_int b t
  | str b=>!⟨t,rfl⟩:=rx;~SeqAt.EqAt.none_str b t
  | _=>~absurd (show false=true from fx) Bool.false_ne_true
 | bl a =>
  cases ry
  cases x with
  | non=>cases rx;~SeqAt.EqAt.bool_none a
  | bl b=>cases rx;~SeqAt.EqAt.bool_bool a b
  | int b=>!⟨t,rfl⟩:=rx;~SeqAt.EqAt.bool_int a b t
  | str b=>!⟨t,rfl⟩:=rx;~SeqAt.EqAt.bool_str a b t
  | _=>~absurd (show false=true from fx) Bool.false_ne_true
 | int a =>
  !⟨t',rfl⟩:=ry
  cases x with
  | non=>cases rx;~SeqAt.EqAt.int_none a t'
  | bl b=>cases rx;~SeqAt.EqAt.int_bool a t' b
  | int b=>!⟨t,rfl⟩:=rx;~SeqAt.EqAt.int_int a t' b t
  | str b=>!⟨t,rfl⟩:=rx;~SeqAt.EqAt.int_str a t' b t
  | _=>~absurd (show false=true from fx) Bool.false_ne_true
 | str a =>
  !⟨t',rfl⟩:=ry
  cases x with
  | non=>cases rx;~SeqAt.EqAt.str_none a t'
  | bl b=>cases rx;~SeqAt.EqAt.str_bool a t' b
  | int b=>!⟨t,rfl⟩:=rx;~SeqAt.EqAt.str_int a t' b t
  | str b=>!⟨t,rfl⟩:=rx;~SeqAt.EqAt.str_str a t' b t
  | _=>~absurd (show false=true from fx) Bool.false_ne_true
 | _=>~absurd (show false=true from fy) Bool.false_ne_true
def J6(x:V)(u:Value):Bool:=match u with
 | .none=>ND .non x
 | .bool b=>ND (.bl b) x
 | .int i _=>ND (.int i) x
 | .str z _=>ND (.str z) x
 | _=>false
theorem Ms{x y:V}{u:Value}(r:RelV y u)(f:Cj y=true):J6 x u=ND y x:=by
 cases y with
 | non=>cases r;rfl
 | bl b=>cases r;rfl
 | int i=>!⟨t,rfl⟩:=r;rfl
 | str z=>!⟨t,rfl⟩:=r;rfl
 | _=>~absurd (show false=true from f) Bool.false_ne_true
theorem jd{A:Around}{s:Shared}{x:V}{v:Value}(rx:RelV x v)(fx:Cj x=true):∀{xs:List V} {us:List Value},l6 xs us->xs.all Cj=true->∀u∈us,SeqAt.EqAt A s u v (J6 x u)
 | _,_,.nil,_=>fun u hu=>by cases hu
 | y::xs,u::us,.cons r t,f=>fun u' hu=>by
  rw[List.all_cons,Bool.and_eq_true] at f
  rcases List.mem_cons.mp hu with rfl | hu
  ·rw[Ms r f.1];~Mz r rx f.1 fx
  ·~jd rx fx t f.2 u' hu
theorem Dt:CallR X (.builtin "len") (fun xs H Q=>∃p ys,xs=[.ref p]/\(wj X.K H p ys\/xj X.K H p ys)/\Q (.int ys.length) H):=by
 intro pins s σ H xs us Q I r h
 !⟨p,ys,rfl,hq,q⟩:=h
 !⟨u,rfl,rx⟩:=vals1 r
 cases rx
 have hn:=A8
 rcases hq with hq | hq
 ·!⟨its,r',pl,hz⟩:=I.list hq
  have hlen:=r'.length
  ~Calls.call_len_list pl.isList (by simp only[List.size_toArray]<;>omega) ⟨.int ys.length,H,I.tok _,⟨s.toks+1,by rw[List.size_toArray,hlen]⟩,q⟩
 ·!⟨its,r',pl,hz⟩:=I.tuple hq
  have hlen:=r'.length
  ~len_tuple pl (by simp only[List.size_toArray]<;>omega) ⟨.int ys.length,H,I.tok _,⟨s.toks+1,by rw[List.size_toArray,hlen]⟩,q⟩
theorem CallR.or{f:Value}{r r':List V->Hp->VK->Prop}(h:CallR X f r)(h':CallR X f r'):CallR X f (fun xs H Q=>r xs H Q\/r' xs H Q):=by
 intro pins s σ H xs us Q I rs q
 rcases q with q | q
 ·~h pins s σ H xs us Q I rs q
 ·~h' pins s σ H xs us Q I rs q
theorem BW:CallR X (.type "tuple") (fun xs H Q=>∃p ys,xs=[.ref p]/\((wj X.K H p ys/\∀l,H l=none->Q (.ref l) (upd H l (.tup ys)))\/(xj X.K H p ys/\Q (.ref p) H))):=by
 intro pins s σ H xs us Q I r h
 !⟨p,ys,rfl,h⟩:=h
 !⟨u,rfl,rx⟩:=vals1 r
 cases rx
 rcases h with ⟨hq,q⟩ | ⟨hq,q⟩
 ·!⟨its,r',pl,hz⟩:=I.list hq
  have hlen:=r'.length
  &call_tuple_list pl.isList (fun h' kp=>?_) (by simp only[List.size_toArray]<;>omega)
  have I1:Inv X pins σ H {s with heap:=h' }:=I.kept (t':=s.toks) kp
  have I2:Inv X pins σ (upd H h'.objs.size (.tup ys)) {s with heap:=h'.push {cls:=.type "tuple",data:=.seq its.toArray} }:=
   I1.laid (t':=s.toks) (fun b o e=>Heap.get?_push_of_some _ e) (Nat.le_refl _) (show vv X.prog X.w _ _ _ (.tup ys) from⟨hz,its,r',w9.new _ _⟩)
  ~⟨.ref h'.objs.size,_,I2,rfl,q _ (I1.hok.fresh (Nat.le_refl _))⟩
 ·!⟨its,r',pl,hz⟩:=I.tuple hq
  ~call_tuple_same pl ⟨.ref p,H,I,rfl,q⟩
def QB(K:PySem.W.Frag)(T:String)(x:V)(H:Hp):Prop:=match x with
 | .str _=>T = "str"
 | .int _=>T = "int"
 | .ref p=>(T = "list" /\ ∃xs,wj K H p xs)\/(T = "tuple" /\ ∃o,K.lookup p=some o/\o.cls=.type "tuple" /\ o.dict=none) \/
   (T = "dict" /\ ((∃kvs,H p=some (.dK kvs))\/∃kvs,H p=some (.dT kvs)))\/(T = "set" /\ ∃S n,H p=some (.set S n))
 | _=>False
theorem Fo{pins:List (Addr×Obj)}{σ:St}{H:Hp}{s:Shared}{T:String}{x:V}{v:Value}(I:Inv X pins σ H s)(r:RelV x v)(ty:QB X.K T x H) :
  s.TypeIs v T/\∀a,v=.ref a->∃ob,s.heap.get? a=some ob/\ob.dict=none:=by
 cases x with
 | str z =>
  !⟨t,rfl⟩:=r
  cases (show T = "str" from ty)
  ~⟨typeIs_str s z t,fun _ e=>nomatch e⟩
 | int i =>
  !⟨t,rfl⟩:=r
  cases (show T = "int" from ty)
  ~⟨typeIs_int s i t,fun _ e=>nomatch e⟩
 | ref p =>
  cases r
  rcases ty with ⟨rfl,xs,hq⟩ | ⟨rfl,o,hk,hc,hd⟩ | ⟨rfl,hk⟩ | ⟨rfl,S,n,hk⟩
  ·!⟨its,_,pl,_⟩:=I.list hq
   &⟨pl.isList.typeIs,fun a e=>?_⟩
   cases e
   !⟨o,n,e,c,hd,_⟩:=pl
   ~⟨o,e,hd⟩
  ·&⟨⟨o,I.kIn p o hk,hc⟩,fun a e=>?_⟩
   cases e
   ~⟨o,I.kIn _ o hk,hd⟩
  ·have z:∃o,s.heap.get? p=some o/\o.ExactDict:=by
    rcases hk with ⟨kvs,hk⟩ | ⟨kvs,hk⟩
    ·!⟨_,_,_,_,o,_,_,e,ex,_⟩:=I.hok p _ hk
     ~⟨o,e,ex⟩
    ·!⟨_,_,_,_,o,_,_,e,ex,_⟩:=I.hok p _ hk
     ~⟨o,e,ex⟩
   !⟨o,e,ex⟩:=z
   &⟨⟨o,e,ex.1⟩,fun a e2=>?_⟩
   cases e2
   ~⟨o,e,ex.2.1⟩
  ·!⟨o,_,_,_,e,ex,_⟩:=I.hok p _ hk
   &⟨⟨o,e,ex.1⟩,fun a e2=>?_⟩
   cases e2
   ~⟨o,e,ex.2.1⟩
 | _=>~False.elim ty
def P8(K:PySem.W.Frag)(T:String)(r:V->List V->Hp->VK->Prop)(to:TE):TE:=fun σ H Q=>to σ H fun x H1=>QB K T x H1/\r x [] H1 Q
def Rr(K:PySem.W.Frag)(T:String)(r:V->List V->Hp->VK->Prop)(to:TE)(t:TA):TE:=fun σ H Q=>to σ H fun x H1=>QB K T x H1/\t σ H1 fun xs H2=>r x xs H2 Q
variable{o e:Expr}{es:List Expr}{to:TE}{t:TA}{name:Str}{apos cpos:Pos}{T id:String}{r:V->List V->Hp->VK->Prop}
theorem tF(pa:PlainAttrs T)(slot:Slot T name id)(hty:typeOf (.builtin id)=pure (.type "method_descriptor"))(hm:Jy X id r)(ho:PE X o to)
  (hbase:attributeBase o name X.env (eval o X.env)=eval o X.env:=by rfl) (hline:(apos.endLine==cpos.line)=true:=by rfl):PE X (.Call (.Attribute o name apos) [] [] cpos) (P8 X.K T r to):=by
 intro pins s σ H Q I h
 &wpAny_Call_method0_late hbase hline (uo (ho pins s σ H _ I h) fun v s1 ⟨x,H1,I1,r1,ty,q1⟩=>?_)
 !⟨h1,h2⟩:=Fo I1 r1 ty
 ~⟨T,id,pa,slot,hty,h1,h2,Calls.callWith_builtin rfl (PySem.evalArgs_none (hm pins s1 σ H1 x [] v [] Q I1 r1 .nil q1))⟩
theorem oM (pa:PlainAttrs T) (slot:Slot T name id) (hty:typeOf (.builtin id)=pure (.type "method_descriptor")) (hm:Jy X id r) (ho:PE X o to) (ha:PA X (e::es) t)
    (hbase:attributeBase o name X.env (eval o X.env)=eval o X.env:=by rfl)
    (hfew:((backTo cpos (starEach (e::es) X.env)).all (fun x=>!x.1)&&(backToKw cpos (keywordEach [] X.env)).all (fun x=>x.1.isSome)
      && decide ((e::es).length+([]:List Keyword).length+(if ([]:List Keyword).isEmpty then 0 else 1)<30))=true:=by rfl)
    (hline:(apos.endLine==cpos.line)=true:=by rfl) (hs:starEach (e::es) X.env=(false,eval e X.env)::starEach es X.env:=by rfl) (hplain:(backTo cpos (starEach es X.env)).any (·.1)=false:=by rfl) :
    PE X (.Call (.Attribute o name apos) (e::es) [] cpos) (Rr X.K T r to t):=by
  intro pins s σ H Q I h
  &wpAny_Call_method_late hbase hfew hline rfl (uo (ho pins s σ H _ I h) fun v s1 ⟨x,H1,I1,r1,ty,q1⟩=>?_)
  !⟨h1,h2⟩:=Fo I1 r1 ty
  &⟨T,id,pa,slot,hty,h1,h2,?_⟩
  have hA:=ha cpos pins s1 σ H1 _ I1 q1
  rw[hs] at hA ⊢
  &Calls.callWith_builtin (by show(false||(backTo cpos (starEach es X.env)).any (·.1))=false;rw[hplain]<;>rfl) (Calls.evalArgs_plain ?_)
  ~uo hA fun us s2 ⟨vs,H2,I2,r2,q2⟩=>hm pins s2 σ H2 x vs v us Q I2 r1 r2 q2
/- xs.append(e),list.index on a module's tuple .. are Jy facts of 06m -/
end
end L2
namespace L2
open PySem PySem.Spec PyProof.Rows
def PJ(X:Cx)(id:String)(r:V->List V->Hp->VK->Prop):Prop:=
 ∀(pins:List (Addr×Obj)) (s:Shared) (σ:St) (H:Hp) (x:V) (xs:List V) (v:Value) (us:List Value) (Q:VK),Inv X pins σ H s->RelV x v->l6 xs us->r x xs H Q ->
  wpAny (model X.prog X.w) X.A (call (.builtin id) (v::us)) (EP X pins σ Q) X.xe s
theorem l6.one:∀{x:V} {us:List Value},l6 [x] us->∃u,us=[u]/\RelV x u
 | _,_,h=>by cases h with | cons r t=>cases t;~⟨_,rfl,r⟩
theorem l6.two:∀{x y:V} {us:List Value},l6 [x,y] us->∃u v,us=[u,v]/\RelV x u/\RelV y v
 | _,_,_,h=>by cases h with | cons r t=>cases t with | cons q t=>cases t;~⟨_,_,rfl,r,q⟩
theorem l6.zero:∀{us:List Value},l6 [] us->us=[]
 | _,.nil=>rfl
theorem l6.dropLast{xs:List V}{us:List Value}(h:l6 xs us):l6 xs.dropLast us.dropLast:=by
 induction h with
 | nil=>~.nil
 | cons r t ih =>
  cases t with
  | nil=>~.nil
  | cons q t'=>~.cons r ih
theorem l6.eraseIdx:∀{xs:List V} {us:List Value} (i:Nat),l6 xs us->l6 (xs.eraseIdx i) (us.eraseIdx i)
 | _,_,_,.nil=>.nil
 | _,_,0,.cons _ t=>t
 | _,_,i+1,.cons r t=>.cons r (l6.eraseIdx i t)
theorem l6.reverse{xs:List V}{us:List Value}(h:l6 xs us):l6 xs.reverse us.reverse:=by
 induction h with
 | nil=>~.nil
 | cons r t ih=>rw[List.reverse_cons,List.reverse_cons];~l6.append ih (.cons r .nil)
theorem Ff{α:Type}(l:List α):l.eraseIdx (l.length - 1)=l.dropLast:=by
 induction l with
 | nil=>rfl
 | cons a r ih =>
  cases r with
  | nil=>rfl
  | cons b r =>
   have e:(a::b::r).length - 1=((b::r).length - 1)+1:=by
    have h1:(a::b::r).length=r.length+2:=rfl
    have h2:(b::r).length=r.length+1:=rfl
    omega
   rw[e,List.eraseIdx_cons_succ,ih]
   all_goals rfl
section
variable{X:Cx}{pins:List (Addr×Obj)}{σ:St}{H:Hp}{s:Shared}{l b:Addr}{xs ys zs:List V}
theorem Inv.lset{its its':List Value}{n:Nat}{f:Array Value->Array Value}{t':Nat}(I:Inv X pins σ H s)(hH:H l=some (.lst xs))
  (e:s.heap.get? l=some {cls:=.type "list",data:=.seq its.toArray n}) (hf:f its.toArray=its'.toArray) (hv:l6 ys its') (hz:ys.length<=sizeLine) :
  Inv X pins σ (upd H l (.lst ys)) {s with heap:=s.heap.update l (Obj.mapSeq f),toks:=t' }:=by
 have q:=PySem.IsL.update e f
 rw[hf] at q
 &I.write (x:=l) (e:=l) (by rw[hH];~trivial) (.inl rfl) (fun b' u hb hu=>(Heap.get?_update_other s.heap (Obj.mapSeq f) (Ne.symm hb)).trans hu) ⟨_,q⟩ ?_
 ~⟨hz,its',_,hv,q⟩
theorem Inv.lnew{its:List Value}{t':Nat}(I:Inv X pins σ H s)(hv:l6 ys its)(hz:ys.length<=sizeLine) :
  Inv X pins σ (upd H s.heap.objs.size (.lst ys)) {s with heap:=s.heap.push {cls:=.type "list",data:=.seq its.toArray},toks:=t' }:=
 I.laid (fun _ _ q=>Heap.get?_push_of_some _ q) (Nat.le_refl _) ⟨hz,its,0,hv,Heap.get?_push_size _ rfl⟩
theorem Inv.fresh(I:Inv X pins σ H s):H s.heap.objs.size=none:=I.hok.fresh (Nat.le_refl _)
theorem Inv.lstM(I:Inv X pins σ H s)(hH:H l=some (.lst xs)):xs.length<=sizeLine/\∃(its:List Value) (n:Nat),l6 xs its/\xs.length=its.length/\s.heap.get? l=some {cls:=.type "list",data:=.seq its.toArray n}:=by
 !⟨z,its,n,r,e⟩:=I.hok l _ hH
 ~⟨z,its,n,r,r.length,e⟩
theorem Jc{n:Nat}(h:n<=sizeLine):Builtin.List.listTooLong n=false:=by
 unfold Builtin.List.listTooLong
 ~decide_eq_false (by omega)
end
section
variable{X:Cx}
def Kc:V->List V->Hp->VK->Prop:=fun x vs H Q=>∃l xs y,x=.ref l/\vs=[y]/\H l=some (.lst xs)/\xs.length<sizeLine/\Q .non (upd H l (.lst (xs++[y])))
theorem kz:PJ X "list.append" Kc:=by
 intro pins s σ H x vs v us Q I rx rv h
 !⟨l,xs,y,rfl,rfl,hH,hz,q⟩:=h
 cases rx
 !⟨u,rfl,ru⟩:=rv.one
 !⟨z,its,n,r,hl,e⟩:=I.lstM hH
 &call_meets F.slot_list_append ⟨_,e,rfl⟩ F.entry_list_append (F.args_list_append_2 _ _) (PySem.list_append l its.toArray n u (by rw[List.size_toArray];omega)) ⟨e,?_⟩
 &⟨.non,_,I.lset (its':=its++[u]) hH e (by simp) (r.append (.cons ru .nil)) ?_,rfl,q⟩
 rw[List.length_append,List.length_singleton]
 omega
def KP:V->List V->Hp->VK->Prop:=fun x vs H Q=>∃l b xs zs,x=.ref l/\vs=[.ref b]/\H l=some (.lst xs)/\H b=some (.lst zs)/\xs.length+zs.length<=sizeLine/\Q .non (upd H l (.lst (xs++zs)))
theorem pD:PJ X "list.extend" KP:=by
 intro pins s σ H x vs v us Q I rx rv h
 !⟨l,b,xs,zs,rfl,rfl,hH,hB,hz,q⟩:=h
 cases rx
 !⟨u,rfl,ru⟩:=rv.one
 cases ru
 !⟨z,its,n,r,hl,e⟩:=I.lstM hH
 !⟨z2,its2,n2,r2,hl2,e2⟩:=I.lstM hB
 have hsz:its.toArray.size+its2.toArray.size<=sizeLine:=by rw[List.size_toArray,List.size_toArray];omega
 have hlong:¬ (!its.toArray.isEmpty&&Builtin.List.listTooLong (its.toArray.size+its2.toArray.size))=true:=by
  rw[Jc hsz,Bool.and_false]
  ~Bool.false_ne_true
 &call_meets F.slot_list_extend ⟨_,e,rfl⟩ F.entry_list_extend (F.args_list_extend_2 _ _)
  (AutoSeq1.list_extend_list_list_0 l its.toArray n b its2.toArray n2 hlong (by rw[List.size_toArray];omega) (by omega)) ⟨e,e2,?_⟩
 &⟨.non,_,I.lset (its':=its++its2) hH e (by simp) (r.append r2) ?_,rfl,q⟩
 rw[List.length_append]
 omega
def QI:V->List V->Hp->VK->Prop:=fun x vs H Q=>∃l xs y,x=.ref l/\vs=[]/\H l=some (.lst xs)/\xs[xs.length - 1]?=some y/\Q y (upd H l (.lst xs.dropLast))
theorem sJ:PJ X "list.pop" QI:=by
 intro pins s σ H x vs v us Q I rx rv h
 !⟨l,xs,y,rfl,rfl,hH,hy,q⟩:=h
 cases rx
 have hus:=rv.zero
 subst hus
 !⟨z,its,n,r,hl,e⟩:=I.lstM hH
 !⟨u,hu,ru⟩:=r.get hy
 have hy':its.toArray[its.toArray.size - 1]?=some u:=by
  show its.toArray[its.length - 1]?=some u
  rw[<- Array.getElem?_toList,<- hl]
  ~hu
 &call_meets F.slot_list_pop ⟨_,e,rfl⟩ F.entry_list_pop (F.args_list_pop_1 _) (MeetsSeq.list_pop_last l its.toArray n u hy' (by rw[List.size_toArray];omega)) ⟨e,?_⟩
 &⟨y,_,I.lset (its':=its.dropLast) hH e ?_ r.dropLast ?_,ru,q⟩
 ·show its.toArray.eraseIdxIfInBounds (its.toArray.size - 1)=its.dropLast.toArray
  rw[List.size_toArray,List.eraseIdxIfInBounds_toArray,Ff]
 ·rw[List.length_dropLast]
  omega
def P5:R2:=fun x y H Q=>∃l b xs zs,x=.ref l/\y=.ref b/\H l=some (.lst xs)/\H b=some (.lst zs)/\xs.length+zs.length<=sizeLine/\∀p,H p=none->Q (.ref p) (upd H p (.lst (xs++zs)))
theorem LW:OpR X (binaryOp .Add) P5:=by
 intro pins s σ H x y v u Q I rx ry h
 !⟨l,b,xs,zs,rfl,rfl,hH,hB,hz,q⟩:=h
 cases rx
 cases ry
 !⟨z,its,n,r,hl,e⟩:=I.lstM hH
 !⟨z2,its2,n2,r2,hl2,e2⟩:=I.lstM hB
 &PySem.P.add_list e e2 ?_ (by rw[List.size_toArray,List.size_toArray];omega)
 have ea:its.toArray++its2.toArray=(its++its2).toArray:=by simp
 rw[ea]
 ~⟨.ref _,_,I.lnew (t':=s.toks) (r.append r2) (by rw[List.length_append];omega),rfl,q _ I.fresh⟩
end
section
variable{prog:Program}{w:World}{A:Around}{E:Value->Shared->Prop}{s:Shared}
set_option maxRecDepth 100000 in
end
section
variable{X:Cx}
end
end L2
namespace Att
open PySem PySem.W PySem.Calls PyProof.Rows
theorem iB{P:Params}{h:Heap}:∀(ns:List Int) (vs:List Value),WellAll P h vs (ns.map WData.int)->IntsAre vs ns:=by
 intro ns
 induction ns with
 | nil =>
  intro vs w
  rw[List.map_nil] at w
  cases w
  ~.nil
 | cons n ns ih =>
  intro vs w
  rw[List.map_cons] at w
  cases w with
  | cons a b =>
   cases a
   ~.cons _ _ (ih _ b)
theorem Hk{l:OpenLaw}{n:Nat}(hn:l.most=some n){P:Params}{h:Heap}{args:List WData}{vals:List Value}
  (hpre:l.row.toRowW.claim.pre args=true) (hwl:WellAll P h vals args) :
  ∃a vs ns,vals=[Value.ref a]/\args=[WData.list (ns.map WData.int)]/\h.get? a=some {cls:=.type "list",data:=.seq vs.toArray}/\IntsAre vs ns/\ns.length<=n:=by
 have hsh:WShape.hasAll [] args [.list .int]=true:=(pre_splitW hpre).1
 have hc:l.pre.holds [] {args:=args}=true:=(pre_splitW hpre).2
 !⟨d,r,rfl,h1,h2⟩:=hasAllW_cons hsh
 !rfl:=hasAllW_nil h2
 !⟨xs,rfl,h3⟩:=hasW_list h1
 !⟨ns,rfl⟩:=items_int h3
 have hlen:ns.length<=n:=by
  unfold OpenLaw.pre at hc
  have h4:(WTm.not (.lt (.lit (.int (n:Int))) (.len (.arg 0)))).holds [] {args:=[.list (ns.map .int)]}=true:=by
   have h4:=(holds_andW hc).1
   rw[hn] at h4
   ~h4
  have h5:=condW_of h4 (w_not (w_lt w_lit (w_len_list (w_arg rfl))))
  rw[List.length_map] at h5
  &Nat.le_of_not_lt fun q=>?_
  have q':(n:Int)<((ns.length:Nat):Int):=by omega
  first
   | (rw[decide_eq_true q'] at h5;~absurd h5 (by decide))
   | (simp at h5;omega)
 cases hwl with
 | cons w1 w2 =>
  cases w2
  cases w1 with
  | list ho hall=>~⟨_,_,ns,rfl,rfl,ho,iB ns _ hall,hlen⟩
theorem Hh(l:OpenLaw)(args:List WData):l.row.toRowW.claim.post args (.bool true) args=true:=
 postW_of (r:=l.row.toRowW) (X:=(true==true))
  (show WShape.has [] (.bool true) .bool=true by first | rfl | decide | simp[WShape.has,WShape.arms,WShape.armsAll])
  (show(WTm.eq .res (.lit (.bool true))).value [] {args:=args,res:=some (.bool true),after:=args}=some (.bool (true==true)) from w_eq_bool (w_res rfl) w_lit) rfl
theorem attach_call {l:OpenLaw} {n:Nat} {q:Program} {loose:List Str} {XP:(Str->Option Value)->Heap->Prop} {YP:World->Heap->Prop} {d:DefRec}
    (hn:l.most=some n) (hdf:d.params.defaults=[])
    (call:∀(w:World) (s₀ s₁:Shared) (mg mb:Str->Option Value) (fa:Addr) (o:Obj) (pm cd doc:Value) (a:Addr) (vs:List Value) (ns:List Int),
      Ground q loose [] XP w s₀ mg mb s₁.heap->YP w s₁.heap ->
      s₁.heap.get? fa=some o->o.data=.func (docDef d.name d.params d.body d.scope pm cd doc)->s₁.heap.CodeRec cd d.name->mg d.name=some (.ref fa) ->
      s₁.heap.get? a=some {cls:=.type "list",data:=.seq vs.toArray}->IntsAre vs ns->ns.length<=n->s₁.gens=#[] ->
      codeAny (model l.prog w) callerA (.call (.ref fa) ⟨[.ref a],[]⟩) (fun r s'=>r=.ok (.ret (.bool true))/\OldK s₁.heap s'.heap/\s'.os=s₁.os/\AllBare s'.gens) s₁) :
    WalkO q loose XP YP l.row.toRowW d [] (fun f vs=>PySem.call f vs):=by
  intro w s₀ s₁ mg mb G Y fa o pm cd doc dV kV ho hd hcd hD hmg hg args vals as hpre hlay hrd hwl hlo
  obtain rfl:dV=.none:=Dflts.none hD hdf
  obtain rfl:kV=.none:=Dflts.noKw hD
  !⟨a,vs,ns,rfl,rfl,hobj,hints,hlen⟩:=Hk hn hpre hwl
  &enter_call (codeAny_mono (call w s₀ s₁ mg mb fa o pm cd doc a vs ns G Y ho (fd_plain hd) hcd hmg hobj hints hlen hg) fun r s' hq=>?_)
  !⟨rfl,h2,h3,h4⟩:=hq
  ~⟨.inl ⟨.bool true,.bool true,[],rfl,fun _=>rfl,.bool true,Hh l _,fun _=>⟨List.Pairwise.nil,fun _ hm=>(nomatch hm)⟩⟩,h2,h3,h4⟩
section
variable{prog:Program}{w:World}{A:Around}{E:Value->Shared->Prop}{s:Shared}{K:Frag}
def ledger(h:Heap)(L d:Addr):List (Addr×Obj):=(List.range h.objs.size).filterMap fun a=>if a=L\/a=d then none else (h.get? a).map fun o=>(a,o)
end
end Att
namespace L2
open PySem PySem.Spec PyProof.Rows
theorem vals_ints:∀{vs:List Value} {ns:List Int},IntsAre vs ns->l6 (ns.map V.int) vs
 | _,_,.nil=>.nil
 | _,_,.cons n t h=>.cons ⟨t,rfl⟩ (vals_ints h)
def MZ(H:Hp):Prop:=∀b,H b=none\/∃o xs,H b=some (.frz o (.lst xs))
theorem Je{P:Program}{w:World}{K:PySem.W.Frag}{mg mb:Str->Option Value}{CX:DS}{k:Nat}{fa a:Addr}{fd:FuncData}{x:Str}{sp:Sp}{s₁:Shared}{vs:List Value}{ns:List Int}
  (KX:K.In s₁.heap) (hns:s₁.heap.Ns mainGlobals mg) (hb:s₁.heap.Ns builtinsNs mb) (hbb:∀x:Str,x ≠ "__name__" -> mb x=bootBuiltins x) (hlim:s₁.heap.NoLimit) (hg:s₁.gens=#[])
  (ha:s₁.heap.get? a=some {cls:=.type "list",data:=.seq vs.toArray}) (hi:IntsAre vs ns) (hl:ns.length<=sizeLine) (hr:ua k callerA)
  (F:∀base:Heap,K.In base->base.Ns mainGlobals mg->k6 P w K mg base CX k fa fd [x] sp) (hbind:∀(s:Shared) (u:Value),BindsTo s fd ⟨[u],[]⟩ [(x,u)])
  (hsp:∀H:Hp,MZ H->wj K H a (ns.map V.int)->sp [.ref a] H (fun v _=>v=.bl true) fun _ _ _=>False)
  (hCX:∀H e s',CX [] H s₁ (fun _ _ _=>False) e s'->False) :
  codeAny (model P w) callerA (.call (.ref fa) ⟨[.ref a],[]⟩) (fun r s'=>r=.ok (.ret (.bool true))/\OldK s₁.heap s'.heap/\s'.os=s₁.os/\AllBare s'.gens) s₁:=by
 have rv:=vals_ints hi
 have lenV:=hi.length
 have core:∀H:Hp,MZ H->wj K H a (ns.map V.int)->y4 P w H s₁.heap->(∀b,H b≠none->b=a)->(H a≠none->K.lookup a=none) ->
   codeAny (model P w) callerA (.call (.ref fa) ⟨[.ref a],[]⟩) (fun r s'=>r=.ok (.ret (.bool true))/\OldK s₁.heap s'.heap/\s'.os=s₁.os/\AllBare s'.gens) s₁:=by
  intro H hO hS hok hA hK
  have base_of:∀{b:Addr} {o:Obj},s₁.heap.get? b=some o->H b=none->(zk s₁.heap H).get? b=some o:=fun e n=>Es e n
  have noA:∀{b:Addr} {o:Obj} {es:Array DictEntry} {ep:Nat},s₁.heap.get? b=some o->o.data=.dict es ep->H b=none:=fun {b o es ep} e d=>by
   cases q:H b with
   | none=>rfl
   | some u =>
    have e':b=a:=hA b (by rw[q];simp)
    subst e'
    rw[ha] at e;cases e
    have d':Data.seq vs.toArray _=Data.dict es ep:=d
    cases d'
  have nsK:∀{b:Addr} {m:Str->Option Value},s₁.heap.Ns b m->(zk s₁.heap H).Ns b m:=fun {b m} ⟨o,es,ep,e,d,r⟩=>⟨o,es,ep,base_of e (noA e d),d,r⟩
  have hKb:K.In (zk s₁.heap H):=fun b o e=>base_of (KX b o e) (by
   cases q:H b with
   | none=>rfl
   | some u =>
    have e':b=a:=hA b (by rw[q];simp)
    subst e'
    rw[hK (by rw[q];simp)] at e;cases e)
  have hM:Mod K mg (zk s₁.heap H):=⟨hKb,nsK hns,⟨mb,nsK hb,hbb⟩,let ⟨mc,h1,h2⟩:=hlim;⟨mc,nsK h1,h2⟩⟩
  have e0:Aa P w K mg (zk s₁.heap H) callerA [] s₁ H:=⟨rfl,hM,fun b o e=>Gv e,Nat.le_of_eq (Cd _ _),trivial,fun b hb=>absurd (show b∈([]:List Addr) from hb) (by simp),hok,.of_eq hg⟩
  &codeAny_mono ((F _ hKb (nsK hns)).run callerA [] s₁ H ⟨[.ref a],[]⟩ [.ref a] [.ref a] _ _ hr e0 (hbind s₁ (.ref a)) (.cons rfl .nil) (hsp H hO hS)) fun r s' h=>?_
  cases r with
  | error e=>~(hCX H e s' h).elim
  | ok fl =>
   cases fl with
   | next=>~False.elim h
   | brk=>~False.elim h
   | cont=>~False.elim h
   | ret u =>
    !⟨v,H',os,bare,un,hok',r',q⟩:=h
    have q':v=.bl true:=q
    subst q'
    obtain rfl:u=Value.bool true:=r'
    &⟨rfl,OldK.of_keep fun b o e=>?_,os,bare⟩
    cases q:H b with
    | none=>~un.keep b o e q (by intro z;~absurd (show b∈([]:List Addr) from z) (by simp)) (by simp)
    | some u =>
     rcases hO b with z | ⟨ob,xs,z⟩
     ·rw[q] at z;cases z
     ·have z2:=un.frzs b ob _ (fun y q=>by cases q) z
      !⟨e1,_⟩:=hok b _ z
      !⟨e2,_⟩:=hok' b _ z2
      rw[e] at e1;cases e1
      ~e2
 cases hk:K.lookup a with
 | some o =>
  have e:=KX a o hk
  rw[ha] at e
  cases e
  &core (fun _=>none) (fun _=>.inl rfl) (.inr ⟨_,vs.toArray,_,hk,rfl,rfl,rfl,by rw[List.size_toArray,lenV];~hl,by simpa using rv⟩) (fun b u z=>by have z':(none:Option HO)=some u:=z;cases z') (fun b z=>absurd rfl z) fun z=>absurd rfl z
 | none =>
  &core (fun b=>if b=a then some (.frz {cls:=.type "list",data:=.seq vs.toArray} (.lst (ns.map V.int))) else none) (fun b=>?_) (.inl (.inr ⟨{cls:=.type "list",data:=.seq vs.toArray},if_pos rfl⟩)) (fun b u z=>?_) (fun b z=>?_) fun _=>hk
  ·by_cases hb:b=a
   ·~.inr ⟨_,_,if_pos hb⟩
   ·~.inl (if_neg hb)
  ·by_cases hb:b=a
   ·have z':=(if_pos hb).symm.trans z
    cases z'
    subst hb
    ~⟨ha,by rw[List.length_map];~hl,vs,_,rv,ha⟩
   ·have z':=(if_neg hb).symm.trans z
    cases z'
  ·by_cases hb:b=a
   ·~hb
   ·~absurd (if_neg hb) z
end L2
namespace L2
open PySem PySem.Spec PyProof.Rows
abbrev KOf{K:PySem.W.Frag}{h:Heap}(_:K.In h):PySem.W.Frag:=K
theorem walk_of {l:PySem.W.OpenLaw} {n k:Nat} {q:Program} {loose:List Str} {XP:(Str->Option Value)->Heap->Prop} {YP:World->Heap->Prop} {d:DefRec} {K:Params->PySem.W.Frag} {CX:World->DS} {sp:World->Sp} {x:Str}
    (hn:l.most=some n) (hn2:n<=sizeLine) (hdf:d.params.defaults=[]) (hr:ua k callerA)
    (hY:∀(w:World) (h:Heap),YP w h->(K w.params).In h)
    (F:∀(w:World) (mg:Str->Option Value) (fa:Addr) (h:Heap),(K w.params).In h->h.Ns mainGlobals mg->mg d.name=some (.ref fa) ->
      ∃fd:FuncData,(∀(s:Shared) (u:Value),BindsTo s fd ⟨[u],[]⟩ [(x,u)]) /\
        ∀base:Heap,(K w.params).In base->base.Ns mainGlobals mg->k6 l.prog w (K w.params) mg base (CX w) k fa fd [x] (sp w))
    (hsp:∀(w:World) (H:Hp) (a:Addr) (ns:List Int),ns.length<=n->MZ H->wj (K w.params) H a (ns.map V.int)->sp w [.ref a] H (fun v _=>v=.bl true) fun _ _ _=>False)
    (hCX:∀(w:World) (H:Hp) (s:Shared) (e:Value) (s':Shared),CX w [] H s (fun _ _ _=>False) e s'->False) :
    PySem.W.WalkO q loose XP YP l.row.toRowW d [] (fun f vs=>PySem.call f vs):=by
  &Att.attach_call hn hdf fun w s₀ s₁ mg mb fa o pm cd doc a vs ns G Y ho hd hcd hmg hobj hints hlen hg=>?_
  have KX:=hY w _ Y
  !⟨fd,hb,hF⟩:=F w mg fa _ KX G.T.g hmg
  ~Je KX G.T.g G.T.b G.T.builtins G.T.nolimit hg hobj hints (Nat.le_trans hlen hn2) hr hF hb (fun H hO hS=>hsp w H a ns hlen hO hS) fun H e s'=>hCX w H s₁ e s'
end L2
/- THE LAST THEOREM (shape;LID,My.* are yours):
  My.Adr: a structure of the addresses that your layer names (classes,functions);My.Txt K t: a structure (Prop) of the equations over K;
  My.txt_mk:{K} {implicit addresses ..} (e1:nsIn K mainGlobals "law" = some (some (.ref f))) (e2:K.lookup f=some ⟨oc,od,.func (fnOf "law" "law" params body scope dV kV doc pm an cdv ct),sl⟩) (e3:codeIn K cdv "law" = true) ..:∃t,My.Txt K t
set_option maxRecDepth 100000 in
set_option maxHeartbeats 0 in
theorem PySem.Challenge.cw_LID_holds : PySem.Challenge.rw_LID.Holds := by
 w_on;o_law;k_head;(case hw=>w_witness2)
 k_fill
 &L2.walk_of (l:=PySem.Challenge.rw_LID) (n:=63) (k:=40) (x:="script") (CX:=fun w=>..) (sp:=fun _=>My.sp_law) rfl (by decide) rfl ⟨rfl,by decide,by decide⟩ (fun w h Y=>PySem.W.kIn_of Y) ?F ?S ?C
 case F =>
  intro w mg fa h KX G hmg
  have T:∃t,My.Txt (L2.KOf KX) t:=by
   dsimp only [L2.KOf]                          -- K must stand as «<heap const> w.params» for k_is
   refine' My.txt_mk ?e1 ?e2 ?e3 ..
   (case e1=>PySem.W.k_is)                    -- in the order: a name->its address->its object->its parts
   (case e2=>PySem.W.k_is)
   ..
  !⟨t,T⟩:=T
  have e0:=hmg.symm.trans (PySem.W.mg_of KX G T.law)
  cases e0                                       -- fa is the law's own address
  ~⟨_,fun s u=>.of_eq rfl,fun base kb nb=>My.law_fn T kb nb⟩     -- if «.of_eq rfl» comes too early: refine' ⟨_,?b,fun base kb nb=>My.law_fn T kb nb⟩;~fun s u=>.of_eq rfl
 case S=>~fun w H a ns hl hO hS=>..
 case C=>~..
(the tactic k_is has no namespace: write k_is) -/
namespace L2
open PySem PySem.Spec PyProof.Rows
def inClass(s:Stmt)(j:Nat):Stmt:=match s with
 | .ClassDef _ _ _ body _ _ _ _ _ _ _=>body.getD j (.Pass ⟨0,0,0,0⟩)
 | _=>.Pass ⟨0,0,0,0⟩
def vf(s:Stmt):Arguments:=match s with
 | .FunctionDef _ a _ _ _ _ _ _ _ _=>a
 | _=>{posonlyargs:=[],args:=[],vararg:=none,kwonlyargs:=[],kw_defaults:=[],kwarg:=none,defaults:=[]}
def uh(s:Stmt):List Stmt:=match s with
 | .FunctionDef _ _ b _ _ _ _ _ _ _=>b
 | _=>[]
def c6(s:Stmt):Scope:=match s with
 | .FunctionDef _ _ _ _ _ _ sc _ _ _=>sc
 | _=>{kind:=.function,names:=[],isGenerator:=false,isCoroutine:=false}
abbrev ue:DS:=fun _ _ _ _ _ _=>False
abbrev E0:XK:=fun _ _ _=>False
theorem yk{X:Cx}:yq ue X E0:=fun _ _ _ _ _ _ _ h=>h.elim
structure uv (K:PySem.W.Frag) (x qual:Str) (st:Stmt) (f:Addr) (fd:FuncData):Prop where
 ex:∃(oc:Value) (od:Option Addr) (kV doc pm:Value) (an:Option Addr) (cdv ct:Value) (osl:Array (Option Value)),
  fd=PySem.W.fnOf x qual (vf st) (uh st) (c6 st) .none kV doc pm an cdv ct/\K.lookup f=some ⟨oc,od,.func fd,osl⟩/\PySem.W.codeIn K cdv qual=true
 kp:PySem.W.keepIn K (.ref f)=true
section
variable{P:Program}{w:World}{K:PySem.W.Frag}{mg:Str->Option Value}{base:Heap}
theorem uv.ok {x qual:Str} {st:Stmt} {f:Addr} {fd:FuncData} {N ps:List Str} {k:Nat} {sp:Sp} (F:uv K x qual st f fd) (S:c9 N ps (c6 st)) (len:∀ vs H Q E,sp vs H Q E->vs.length=ps.length)
    (hbody:∀(cdv:Value) (A:Around) (outer:List Env) (s:Shared) (H:Hp) (vs:List V) (Q:VK) (E:XK),ua k (A.deeper (envOfC qual (c6 st) s.heap.objs.size f cdv))->sp vs H Q E ->
      ∃t,PSs (yi ue P w K mg base N qual (c6 st) f cdv A outer s H E).nox (uh st) t/\t {nx:=fun _ H'=>Q .non H',rt:=Q} (start N vs) H):k6 P w K mg base ue (k+1) f fd ps sp:=by
  !⟨oc,od,kV,doc,pm,an,cdv,ct,osl,rfl,lk,hcd⟩:=F.ex
  &qX lk hcd S len fun A outer s H vs Q E hr hsp=>?_
  !⟨t,h,q⟩:=hbody cdv A outer s H vs Q E hr hsp
  ~⟨t,h.nox,q⟩
theorem uv.binds{x qual:Str}{st:Stmt}{f:Addr}{fd:FuncData}{ps:List Str}(F:uv K x qual st f fd)
  (h:∀(kV doc pm:Value) (an:Option Addr) (cdv ct:Value) (us:List Value),us.length=ps.length->bindArgs (PySem.W.fnOf x qual (vf st) (uh st) (c6 st) .none kV doc pm an cdv ct) ⟨us,[]⟩=pure (ps.zip us)):Binds K fd ps []:=by
 !⟨oc,od,kV,doc,pm,an,cdv,ct,osl,rfl,lk,hcd⟩:=F.ex
 ~.all (h kV doc pm an cdv ct)
theorem rk{x qual:Str}{st:Stmt}{f:Addr}{oc:Value}{od an:Option Addr}{osl:Array (Option Value)}{kV doc pm cdv ct:Value}(l:K.lookup f=some ⟨oc,od,.func (PySem.W.fnOf x qual (vf st) (uh st) (c6 st) .none kV doc pm an cdv ct),osl⟩)
  (c:PySem.W.codeIn K cdv qual=true) (k:PySem.W.keepIn K (.ref f)=true):uv K x qual st f (PySem.W.fnOf x qual (vf st) (uh st) (c6 st) .none kV doc pm an cdv ct):=⟨⟨oc,od,kV,doc,pm,an,cdv,ct,osl,rfl,l,c⟩,k⟩
end
theorem yL{n:Nat}(h:n<=1000):n<sizeLine:=Nat.lt_of_le_of_lt h (by decide)
section
variable{X:Cx}
theorem pv(i:Nat){x:Str}{pos:Pos}(hN:X.N[i]?=some x:=by rfl)(hv:Ca X.env.scope x:=by first | ~Or.inl rfl | ~Or.inr (Or.inl rfl) | ~Or.inr (Or.inr rfl))(hd:(x==("__debug__" : Str))=false:=by decide)
  (hcd:(x==("__classdict__" : Str))=false:=by decide):PE X (.Name x pos) (Mt i):=jx hN hv hd hcd
end
def i6(H H':Hp):Prop:=∀b o,H b=some o->H' b=some o
theorem i6.refl(H:Hp):i6 H H:=fun _ _ h=>h
theorem i6.trans{H H1 H2:Hp}(a:i6 H H1)(b:i6 H1 H2):i6 H H2:=fun c o h=>b c o (a c o h)
theorem i6.free{H H':Hp}(e:i6 H H'){l:Addr}(h:H' l=Option.none):H l=Option.none:=by
 cases q:H l with
 | none=>rfl
 | some o =>
  rw[e l o q] at h
  cases h
theorem i6.seq{K:PySem.W.Frag}{H H':Hp}{a:Addr}{xs:List V}(e:i6 H H')(h:wj K H a xs):wj K H' a xs:=by
 rcases h with (h | ⟨o,h⟩) | h
 ·~.inl (.inl (e _ _ h))
 ·~.inl (.inr ⟨o,e _ _ h⟩)
 ·~.inr h
end L2
namespace HW
open PySem
inductive D where
 | non
 | bl (b:Bool)
 | int (i:Int)
 | str (x:Str)
 | tup (xs:List D)
 | lst (xs:List D)
 | fro (xs:List D)
 | obj (k a:Nat) (ks:List Str) (ds:List D)
 | rf (a:Nat)
 deriving Inhabited
abbrev R:=List (Option D)
abbrev OD:=Option D
abbrev LD:=List D
abbrev oS(x:String):Str:=Str.ofString x
@[simp] abbrev kI (n:Int):R->OD:=fun _=>some (.int n)
@[simp] abbrev kS (x:String):R->OD:=fun _=>some (.str (oS x))
inductive Out where
 | nx (ρ:R)
 | rt (d:D)
 | bk (ρ:R)
 | ct (ρ:R)
@[simp] noncomputable def LL:D->Option Bool
 | .non=>some false
 | .bl b=>some b
 | .int i=>some (i != 0)
 | .str x=>if x.length<=sizeLine then some ((x.length:Int) != 0) else none
 | .tup xs=>some (!xs.isEmpty)
 | .lst xs=>some (!xs.isEmpty)
 | .fro xs=>some (!xs.isEmpty)
 | .obj ..=>none
 | .rf ..=>none
noncomputable def bI(b:Bool):Int:=if b then 1 else 0
def Rp:D->Option Int
 | .int i=>some i
 | .bl b=>some (bI b)
 | _=>none
@[simp] noncomputable def nI:D->Option Int
 | .int i=>some i
 | _=>none
@[simp] def tI:D->Option LD
 | .tup xs=>some xs
 | _=>none
@[simp] def lI:D->Option LD
 | .lst xs=>some xs
 | _=>none
@[simp] noncomputable def sI:D->Option Str
 | .str x=>some x
 | _=>none
@[simp] def bO:D->Option Bool
 | .bl b=>some b
 | _=>none
@[simp] def m9 (x y:D):OD:=match x with
 | .int i=>(nI y).map fun j=>.int (i+j)
 | .tup xs=>(tI y).bind fun ys=>if xs.length+ys.length<=sizeLine then some (.tup (xs++ys)) else none
 | .lst xs=>(lI y).bind fun ys=>if xs.length+ys.length<=sizeLine then some (.lst (xs++ys)) else none
 | .str x=>(sI y).bind fun y=>if x.length+y.length<=sizeLine then some (.str (x++y)) else none
 | _=>none
@[simp] def wY (x y:D):OD:=(nI x).bind fun i=>(nI y).map fun j=>.int (i - j)
def uE(i j:Int):Bool:=(decide (-(2 ^ 64)<i)&&decide (i<2 ^ 64))||(decide (-(2 ^ 64)<j)&&decide (j<2 ^ 64))
@[simp] def x6 (x y:D):OD:=(nI x).bind fun i=>(nI y).bind fun j=>if uE i j then some (.int (i*j)) else none
@[simp] def vV (x y:D):OD:=(nI x).bind fun i=>(nI y).bind fun j=>if 0<j/\j<1073741824 then some (.int (i / j)) else none
@[simp] def ui (x y:D):OD:=(nI x).bind fun i=>(nI y).bind fun j=>if 0<j then some (.int (i%j)) else none
@[simp] def D4 (x:D):OD:=(nI x).map fun i=>.int (-i)
@[simp] def OE (x y:D):Option Bool:=(nI x).bind fun i=>(nI y).map fun j=>decide (i<j)
@[simp] def MT (x y:D):Option Bool:=(nI x).bind fun i=>(nI y).map fun j=>decide (i<=j)
@[simp] def EJ (x y:D):Option Bool:=(nI x).bind fun i=>(nI y).map fun j=>decide (j<i)
@[simp] def NK (x y:D):Option Bool:=(nI x).bind fun i=>(nI y).map fun j=>decide (j<=i)
@[simp] def IF (x y:D):Option Bool:=match x with
 | .int i=>(nI y).map fun j=>i==j
 | .str a=>(sI y).map fun b=>a==b
 | .bl a=>(bO y).map fun b=>a==b
 | _=>none
@[simp] def vY:D->D->Option Bool:=IF
@[simp] def NF (x y:D):Option Bool:=(IF x y).map (!·)
@[simp] noncomputable def KJ:D->Bool
 | .non=>true
 | _=>false
@[simp] def zU (x y:D):Option Bool:=if KJ y then some (KJ x) else none
@[simp] def wB (x y:D):Option Bool:=(zU x y).map (!·)
def flat:D->Bool
 | .non=>true
 | .bl _=>true
 | .int _=>true
 | .str _=>true
 | _=>false
def PC:D->D->Bool
 | .non,.non=>true
 | .bl a,.bl b=>a==b
 | .bl a,.int b=>bI a==b
 | .int a,.bl b=>a==bI b
 | .int a,.int b=>a==b
 | .str a,.str b=>a==b
 | _,_=>false
@[simp] def IG:D->Option LD
 | .tup xs=>some xs
 | .lst xs=>some xs
 | .fro xs=>some xs
 | _=>none
mutual
def LB:D->D->Bool
 | .non,.non=>true
 | .bl a,.bl b=>a==b
 | .bl a,.int b=>bI a==b
 | .int a,.bl b=>a==bI b
 | .int a,.int b=>a==b
 | .str a,.str b=>a==b
 | .tup xs,.tup ys=>B0 xs ys
 | .lst xs,.lst ys=>B0 xs ys
 | .lst xs,.fro ys=>B0 xs ys
 | .fro xs,.lst ys=>B0 xs ys
 | .fro xs,.fro ys=>B0 xs ys
 | _,_=>false
def B0:LD->LD->Bool
 | [],[]=>true
 | x::xs,y::ys=>LB x y&&B0 xs ys
 | _,_=>false
end
mutual
def xp:D->Nat
 | .tup xs=>wa xs+1
 | .lst xs=>wa xs+1
 | .fro xs=>wa xs+1
 | _=>0
def wa:LD->Nat
 | []=>0
 | x::xs=>max (xp x) (wa xs)
end
mutual
def s9:D->Bool
 | .str x=>x.cps.all (·<0x110000)
 | .tup xs=>vk xs
 | .lst xs=>vk xs
 | .fro xs=>vk xs
 | .obj ..=>false
 | .rf ..=>false
 | _=>true
def vk:LD->Bool
 | []=>true
 | x::xs=>s9 x&&vk xs
end
mutual
def uC:D->Bool
 | .tup xs=>n5 xs
 | .lst xs=>n5 xs
 | .fro xs=>n5 xs
 | .obj ..=>false
 | .rf ..=>false
 | _=>true
def n5:LD->Bool
 | []=>true
 | x::xs=>uC x&&n5 xs
end
mutual
theorem bR:∀{d:D},s9 d=true->uC d=true
 | .non,_=>rfl
 | .bl _,_=>rfl
 | .int _,_=>rfl
 | .str _,_=>rfl
 | .tup xs,h=>gC (xs:=xs) h
 | .lst xs,h=>gC (xs:=xs) h
 | .fro xs,h=>gC (xs:=xs) h
 | .obj ..,h=>by cases h
 | .rf ..,h=>by cases h
theorem gC:∀{xs:LD},vk xs=true->n5 xs=true
 | [],_=>rfl
 | x::xs,h=>by
  have h':(s9 x&&vk xs)=true:=h
  rw[Bool.and_eq_true] at h'
  show(uC x&&n5 xs)=true
  rw[bR h'.1,gC h'.2];rfl
end
def yg(x y:D):Option Bool:=if xp x<=100/\s9 x=true/\s9 y=true then some (LB x y) else none
def zb(x y:D):Option Bool:=(yg x y).map (!·)
noncomputable def OH(n:Nat)(i:Int):Option Nat:=if 0<=i then (if i<n then some i.toNat else none) else if -(n:Int)<=i then some (i+n).toNat else none
def H_(xs:LD)(i:Int):OD:=(OH xs.length i).bind fun j=>xs[j]?
@[simp] def i8:D->D->OD
 | .tup xs,.int i=>H_ xs i
 | .lst xs,.int i=>H_ xs i
 | .fro xs,.int i=>H_ xs i
 | .str x,.int i=>if x.length<=sizeLine then ((OH x.length i).bind fun j=>x.cps.toList[j]?).map fun c=>.str ⟨#[c]⟩ else none
 | _,_=>none
noncomputable def GF(n d:Nat):Option Int->Nat
 | none=>d
 | some v=>if v<0 then (v+(n:Int)).toNat else min v.toNat n
def cutD(xs:LD)(lo hi:Option Int):LD:=(xs.drop (GF xs.length 0 lo)).take (GF xs.length xs.length hi - GF xs.length 0 lo)
@[simp] def OJ:D->Option Int->Option Int->OD
 | .tup xs,lo,hi=>some (.tup (cutD xs lo hi))
 | .lst xs,lo,hi=>some (.lst (cutD xs lo hi))
 | _,_,_=>none
@[simp] def RQ:D->Option (Option Int)
 | .int i=>some (some i)
 | _=>none
@[simp] noncomputable def Kt:D->String
 | .non=>"NoneType"
 | .bl _=>"bool"
 | .int _=>"int"
 | .str _=>"str"
 | .tup _=>"tuple"
 | .lst _=>"list"
 | .fro _=>"list"
 | .obj ..=>"object"
 | .rf ..=>"object"
@[simp] def Kl:D->Bool
 | .obj ..=>true
 | .rf ..=>true
 | _=>false
@[simp] def xC:D->Bool
 | .obj ..=>true
 | _=>false
@[simp] def Ld (d:D) (n:String):Bool:=decide (Kt d=n)||(decide (Kt d = "bool")&&decide (n = "int"))
@[simp] def xo:LD->OD
 | [d]=>(IG d).map fun xs=>.int xs.length
 | _=>none
@[simp] def QU:LD->OD
 | [.tup xs]=>some (.lst xs)
 | [.lst xs]=>some (.lst xs)
 | _=>none
@[simp] def E4:LD->OD
 | [.tup xs]=>some (.tup xs)
 | [.lst xs]=>some (.tup xs)
 | _=>none
@[simp] def EZ:LD->OD
 | [.int i]=>if i.natAbs.log2<1920 then some (.str (toString i)) else none
 | _=>none
@[simp] def Fz:LD->OD
 | [.int i,.int j]=>some (.int (if j > i then j else i))
 | _=>none
@[simp] def OP:LD->OD
 | [.int i]=>some (.int i)
 | [.bl b]=>some (.int (if b then 1 else 0))
 | _=>none
@[simp] def D9:LD->OD
 | [.lst []]=>some .non
 | [.lst [.int a]]=>some (.int a)
 | [.lst [.int a,.int b]]=>some (.int (if b > a then b else a))
 | _=>none
noncomputable def Ge(x:Str):Option Str:=if x=oS "a" then some (oS "A") else if x=oS "b" then some (oS "B") else if x=oS "c" then some (oS "C") else none
def Py:D->OD
 | .str x=>(Ge x).map .str
 | _=>none
def HX(ws:List Str):D->OD
 | .str x=>(ws.findIdx? (·==x)).map fun (j:Nat)=>.int (j:Int)
 | _=>none
noncomputable def bools:LD->Option (List Bool)
 | []=>some []
 | .bl b::r=>(bools r).map (b::·)
 | _=>none
noncomputable def AC(st:D->R->Option R)(body:R->Option Out):LD->R->Option Out
 | [],ρ=>some (.nx ρ)
 | d::ds,ρ=>(st d ρ).bind fun ρ1=>(body ρ1).bind fun o=>match o with
  | .nx ρ2=>AC st body ds ρ2
  | .ct ρ2=>AC st body ds ρ2
  | .bk ρ2=>some (.nx ρ2)
  | .rt r=>some (.rt r)
noncomputable def vB(st:D->R->Option R)(c:R->Option Bool)(e:R->OD):LD->R->Option LD
 | [],_=>some []
 | d::ds,ρ=>(st d ρ).bind fun ρ1=>(c ρ1).bind fun b=>(if b then (e ρ1).map some else some none).bind fun x =>
   (vB st c e ds ρ).map fun r=>match x with
    | some y=>y::r
    | none=>r
@[simp] def l5 (f g:R->Option Out):R->Option Out:=fun ρ=>(f ρ).bind fun o=>match o with
 | .nx ρ2=>g ρ2
 | o=>some o
@[simp] noncomputable def c5 (i:Nat) (ρ:R):OD:=ρ.getD i none
@[simp] def setAt (i:Nat) (d:D) (ρ:R):Option R:=if i<ρ.length then some (ρ.set i (some d)) else none
@[simp] def yY (c:R->Option Bool) (f g:R->Option Out):R->Option Out:=fun ρ=>(c ρ).bind fun b=>if b then f ρ else g ρ
@[simp] def A7 (f g:R->OD):R->OD:=fun ρ=>(f ρ).bind fun x=>match x with
 | .bl true=>g ρ
 | .bl false=>some (.bl false)
 | _=>none
@[simp] def E9 (f:R->OD):R->OD:=fun ρ=>(f ρ).bind fun x=>match x with
 | .bl b=>some (.bl !b)
 | _=>none
@[simp] def Bw (f g:R->Option Bool):R->Option Bool:=fun ρ=>(f ρ).bind fun b=>if b then g ρ else some false
@[simp] def Ds (f g:R->Option Bool):R->Option Bool:=fun ρ=>(f ρ).bind fun b=>if b then some true else g ρ
@[simp] def Ft (f:R->Option Bool):R->Option Bool:=fun ρ=>(f ρ).map (!·)
@[simp] def Dc (c:R->Option Bool) (f g:R->OD):R->OD:=fun ρ=>(c ρ).bind fun b=>if b then f ρ else g ρ
@[simp] def i3 (F:D->D->OD) (f g:R->OD):R->OD:=fun ρ=>(f ρ).bind fun x=>(g ρ).bind fun y=>F x y
@[simp] def wR (F:D->OD) (f:R->OD):R->OD:=fun ρ=>(f ρ).bind F
@[simp] def k7 (F:D->D->Option Bool) (f g:R->OD):R->Option Bool:=fun ρ=>(f ρ).bind fun x=>(g ρ).bind fun y=>F x y
@[simp] def Cf (f:R->Option Bool):R->OD:=fun ρ=>(f ρ).map .bl
@[simp] def wV (f:R->OD):R->Option Bool:=fun ρ=>(f ρ).bind LL
@[simp] def Q5 (n:String) (f:R->OD):R->OD:=fun ρ=>(f ρ).bind fun d=>if Kl d then none else some (.bl (Ld d n))
@[simp] def c7:R->Option LD:=fun _=>some []
@[simp] def c4 (f:R->OD) (g:R->Option LD):R->Option LD:=fun ρ=>(f ρ).bind fun d=>(g ρ).map fun ds=>d::ds
@[simp] def c8 (F:LD->OD) (g:R->Option LD):R->OD:=fun ρ=>(g ρ).bind F
@[simp] def l7 (g:R->Option LD):R->OD:=fun ρ=>(g ρ).map .tup
@[simp] def Eu (g:R->Option LD):R->OD:=fun ρ=>(g ρ).map .lst
@[simp] def Oy:R->Option (Option Int):=fun _=>some none
@[simp] def aP (f:R->OD):R->Option (Option Int):=fun ρ=>(f ρ).bind RQ
@[simp] def LK (f:R->OD) (l h:R->Option (Option Int)):R->OD:=fun ρ=>(f ρ).bind fun x=>(l ρ).bind fun a=>(h ρ).bind fun b=>OJ x a b
@[simp] def l4 (f:R->OD):R->Option Out:=fun ρ=>(f ρ).map .rt
@[simp] noncomputable def l3 (f:R->OD) (st:D->R->Option R):R->Option Out:=fun ρ=>(f ρ).bind fun d=>(st d ρ).map .nx
@[simp] def uu:R->Option Out:=fun ρ=>some (.nx ρ)
@[simp] def Cg (it:R->Option LD) (st:D->R->Option R) (body:R->Option Out):R->Option Out:=fun ρ=>(it ρ).bind fun ds=>AC st body ds ρ
noncomputable def chars(x:Str):LD:=x.cps.toList.map fun c=>.str ⟨#[c]⟩
@[simp] def vj (f:R->OD):R->Option LD:=fun ρ=>(f ρ).bind fun d=>match d with
 | .tup xs=>some xs
 | .lst xs=>some xs
 | .str x=>if x.cps.all (·<128) then some (chars x) else none
 | _=>none
noncomputable def wX(a b:Int):LD:=(List.range (b - a).toNat).map fun (k:Nat)=>D.int (a+(k:Int))
@[simp] def yn (f:R->OD):R->Option LD:=fun ρ=>(f ρ).bind fun d=>match d with
 | .int j=>if -(2 ^ 62)<=j/\j<2 ^ 62 then some (wX 0 j) else none
 | _=>none
def Ek(k:Nat)(it:R->Option LD)(st:D->R->Option R)(c:R->Option Bool)(e:R->OD):R->OD:=fun ρ =>
 (it ρ).bind fun ds=>if ds.length<=sizeLine then (vB st c e ds (List.replicate k none++ρ)).map .lst else none
@[simp] def zg:R->Option Bool:=fun _=>some true
@[simp] def AG (n:Nat) (ds:LD):R:=ds.map some++List.replicate (n - ds.length) none
@[simp] noncomputable def yc:Option Out->OD
 | some (.rt d)=>some d
 | some (.nx _)=>some .non
 | _=>none
@[simp] def zX (u:R->Option Out):R->LD->Option (Out×LD):=fun ρ ds=>(u ρ).map fun o=>(o,ds)
@[simp] def BX (i:Nat) (f:R->OD):R->LD->Option (Out×LD):=fun ρ ds=>(f ρ).bind fun d=>if ρ.length=i/\ds.length<sizeLine then some (.nx ρ,ds++[d]) else none
@[simp] def FA (i:Nat) (f:R->OD):R->LD->Option (Out×LD):=fun ρ ds=>(f ρ).bind fun d=>match d with
 | .lst es=>if ρ.length=i/\ds.length+es.length<=sizeLine then some (.nx ρ,ds++es) else none
 | _=>none
@[simp] def Au:R->LD->Option (Out×LD):=fun ρ ds=>some (.nx ρ,ds)
@[simp] def Fx (p q:R->LD->Option (Out×LD)):R->LD->Option (Out×LD):=fun ρ ds=>(p ρ ds).bind fun r=>match r with
 | (.nx ρ2,ds2)=>q ρ2 ds2
 | r=>some r
@[simp] def Jx (c:R->Option Bool) (p q:R->LD->Option (Out×LD)):R->LD->Option (Out×LD):=fun ρ ds=>(c ρ).bind fun b=>if b then p ρ ds else q ρ ds
noncomputable def B_(st:D->R->Option R)(p:R->LD->Option (Out×LD)):LD->R->LD->Option (Out×LD)
 | [],ρ,ds=>some (.nx ρ,ds)
 | d::es,ρ,ds=>(st d ρ).bind fun ρ1=>(p ρ1 ds).bind fun r=>match r with
  | (.nx ρ2,ds2)=>B_ st p es ρ2 ds2
  | (.ct ρ2,ds2)=>B_ st p es ρ2 ds2
  | (.bk ρ2,ds2)=>some (.nx ρ2,ds2)
  | r=>some r
@[simp] def IK (it:R->Option LD) (st:D->R->Option R) (p:R->LD->Option (Out×LD)):R->LD->Option (Out×LD):=fun ρ ds=>(it ρ).bind fun es=>B_ st p es ρ ds
@[simp] def GS (i:Nat) (F:R->Option LD) (q:R->LD->Option Out):R->Option Out:=fun ρ=>(F ρ).bind fun ds=>if ρ.length=i+1 then q (ρ.take i) ds else none
@[simp] def wD (p:R->LD->Option (Out×LD)) (q:R->LD->Option Out):R->LD->Option Out:=fun ρ ds=>(p ρ ds).bind fun r=>match r with
 | (.nx ρ2,ds2)=>q ρ2 ds2
 | (.rt d,_)=>some (.rt d)
 | _=>none
@[simp] def As (w:R->Option Out):R->LD->Option Out:=fun ρ ds=>w (ρ++[some (.lst ds)])
def Nz(i:Nat)(tab:List (Str×(LD->OD)))(f:R->OD)(g:(LD->OD)->R->Option Out):R->Option Out:=fun ρ=>(f ρ).bind fun d=>match d with
 | .str z=>(tab.lookup z).bind fun F=>if i<ρ.length then g F (ρ.set i none) else none
 | _=>none
def via(k n:Nat)(g:R->Option Out)(ds:LD):OD:=if ds.length=k then yc (g (AG n ds)) else none
theorem oV{k n:Nat}{g:R->Option Out}{ds:LD}{d:D}(h:via k n g ds=some d):ds.length=k:=by
 unfold via at h
 split at h
 ·assumption
 ·cases h
theorem sF{k n:Nat}{g:R->Option Out}{ds:LD}{d:D}(h:via k n g ds=some d):yc (g (AG n ds))=some d:=by
 unfold via at h
 split at h
 ·~h
 ·cases h
theorem CB{i j:Int}(h1 : -(2 ^ 64)<j)(h2:j<2 ^ 64):uE i j=true:=by unfold uE;rw[decide_eq_true h1,decide_eq_true h2];simp
theorem vJ{i j:Int}(h1 : -(2 ^ 64)<i)(h2:i<2 ^ 64):uE i j=true:=by unfold uE;rw[decide_eq_true h1,decide_eq_true h2];simp
theorem Ba{st:D->R->Option R}{body:R->Option Out}(P:Nat->R->Prop):∀(ds:LD) (k:Nat) (ρ0:R),P k ρ0->(∀i d ρ,ds[i]?=some d->P (k+i) ρ->∃ ρ1 ρ2,st d ρ=some ρ1/\body ρ1=some (.nx ρ2)/\P (k+i+1) ρ2) ->
  ∃ ρ',AC st body ds ρ0=some (.nx ρ')/\P (k+ds.length) ρ'
 | [],k,ρ0,h0,_=>⟨ρ0,rfl,h0⟩
 | d::ds,k,ρ0,h0,hs=>by
  !⟨ρ1,ρ2,h1,h2,h3⟩:=hs 0 d ρ0 rfl h0
  !⟨ρ',h4,h5⟩:=Ba P ds (k+1) ρ2 h3 fun i d' ρ e p=>by
   have q:=hs (i+1) d' ρ (by simpa using e) (by rw[show k+(i+1)=k+1+i by omega];~p)
   rw[show k+(i+1)+1=k+1+i+1 by omega] at q
   ~q
  &⟨ρ',?_,?_⟩
  ·simp[AC,h1,h2,h4]
  ·rw[show k+(d::ds).length=k+1+ds.length by simp;omega];~h5
theorem oC{n:Int}{i:Nat}{d:D}(e:(wX 0 n)[i]?=some d):d=.int i/\(i:Int)<n:=by
 unfold wX at e
 rw[List.getElem?_map] at e
 cases q:(List.range (n - 0).toNat)[i]? with
 | none=>rw[q] at e;cases e
 | some k =>
  rw[q] at e
  !⟨h1,h2⟩:=List.getElem?_eq_some_iff.mp q
  simp at h1 h2
  subst h2
  have e':D.int (0+(i:Int))=d:=Option.some.inj e
  rw[Int.zero_add] at e'
  ~⟨e'.symm,by omega⟩
theorem lS(n:Int):(wX 0 n).length=n.toNat:=by simp[wX]
theorem zK{xs:LD}{i:Int}(h0:0<=i)(h1:i<xs.length):∃x,x∈xs/\H_ xs i=some x:=by
 have h2:i.toNat<xs.length:=by omega
 &⟨xs[i.toNat],List.getElem_mem h2,?_⟩
 unfold H_ OH
 rw[if_pos h0,if_pos h1]
 simp[h2]
inductive Fits:D->Prop
 | non:Fits .non
 | bl (b:Bool):Fits (.bl b)
 | int (i:Int):Fits (.int i)
 | str (x:Str):Fits (.str x)
 | tup {xs:LD}:xs.length<=1000->(∀x∈xs,Fits x)->Fits (.tup xs)
end HW
set_option maxHeartbeats 1000000
namespace HW
open PySem PySem.Spec PyProof.Rows L2
def Ph(x:Str):It:=⟨fun i _=>i<x.cps.size,fun i H v H'=>H'=H/\∃c,x.cps[i]?=some c/\v=.str ⟨#[c]⟩,fun i _=>x.cps.size<=i⟩
theorem HQ{P:Program}{w:World}{K:W.Frag}{tg:Expr}(it:Addr)(x:Str)(t:Tok):Turn P w K tg (Ph x) [it] it (fun i h=>h.IsStrIter it "str_ascii_iterator" x t i) where
 mem:=by simp
 obj:=fun i h st b hb=>by
  have e:b=it:=by simpa using hb
  subst e
  !⟨o,e,c,d⟩:=st
  ~⟨o,e,fun v z=>by rw[d] at z;cases z⟩
 keep:=fun i h h' st k=>by
  !⟨o,e,r⟩:=st
  ~⟨o,k it (by simp) o e,r⟩
 item:=by
  intro X hP hw hK hc i pins s σ H E I hf st hg
  subst hP hw hK
  have hg':i<x.cps.size:=hg
  !⟨f0,f1,f2,f3,f4,f5⟩:=hf it (by simp)
  &wpAny_pyNext_ascii_item st (c:=x.cps[i]) (by simp[hg']) fun h' st' sb=>?_
  have I1:L2.Inv X pins σ H {s with heap:=h',toks:=s.toks+1}:=I.turned (t':=s.toks+1) (fun b o hb e=>(sb.2 b hb).trans e) f0 f1 f3 f4 f5
  !⟨o,e,c,d⟩:=id st'
  ~⟨_,rfl,FY (s:={s with heap:=h',toks:=s.toks+1}) e c d (by decide) ⟨.str ⟨#[x.cps[i]]⟩,H,I1,⟨_,rfl⟩,⟨rfl,_,by simp[hg'],rfl⟩,st',fun b hb=>(hf b hb).1⟩⟩
 done:=by
  intro X hP hw hK hc i pins s σ H E I hf st hg
  subst hP hw hK
  have hg':x.cps.size<=i:=hg
  !⟨f0,f1,f2,f3,f4,f5⟩:=hf it (by simp)
  ~wpAny_pyNext_ascii_end (I.ok.hd hc) st (by simp;omega) fun h' eb=>⟨rfl,I.turned (t':=s.toks) (fun b o hb e=>eb b o hb e) f0 f1 f3 f4 f5⟩
 self:=fun _ _ _ _ _ st h=>wpAny_pyIter_striter_ascii st h
def Ku(H:Hp)(k a:Nat)(ks:List Str)(vs:List V):Prop:=match k with
 | 0=>vs.length<=sizeLine/\∃(its:List Value) (n:Nat),l6 vs its/\H a=some (.frz {cls:=.type "list",data:=.seq its.toArray n} (.own 0))
 | 1=>ks.length=vs.length/\H a=some (.dK ((ks.map Sum.inr).zip vs))
 | C+2=>ks.length=vs.length/\∃dx,H a=some (.ins C dx (ks.zip vs))
theorem Ku.to{H H':Hp}{k a:Nat}{ks:List Str}{vs:List V}(h:Ku H k a ks vs)(e:∀u,H a=some u->(∀ φ,u≠.ext φ)->H' a=some u):Ku H' k a ks vs:=by
 match k,h with
 | 0,⟨z,its,n,r,q⟩=>~⟨z,its,n,r,e _ q fun φ z=>by cases z⟩
 | 1,⟨z,q⟩=>~⟨z,e _ q fun φ z=>by cases z⟩
 | C+2,⟨z,dx,q⟩=>~⟨z,dx,e _ q fun φ z=>by cases z⟩
mutual
def Rep(K:W.Frag)(H:Hp):D->V->Prop
 | .non,v=>v=.non
 | .bl b,v=>v=.bl b
 | .int i,v=>v=.int i
 | .str x,v=>v=.str x
 | .tup ds,v=>∃a xs,v=.ref a/\xj K H a xs/\i5 K H ds xs
 | .lst ds,v=>∃a xs,v=.ref a/\H a=some (.lst xs)/\i5 K H ds xs
 | .fro ds,v=>∃a xs,v=.ref a/\wj K H a xs/\i5 K H ds xs
 | .obj k a ks ds,v=>∃xs,v=.ref a/\Ku H k a ks xs/\i5 K H ds xs
 | .rf a,v=>v=.ref a
def i5(K:W.Frag)(H:Hp):LD->List V->Prop
 | [],vs=>vs=[]
 | d::ds,vs=>∃v r,vs=v::r/\Rep K H d v/\i5 K H ds r
end
theorem Pj{K:W.Frag}{H H':Hp}{a:Addr}{xs:List V}(e:i6 H H')(h:xj K H a xs):xj K H' a xs:=by
 rcases h with (h | ⟨o,h⟩) | h
 ·~.inl (.inl (e _ _ h))
 ·~.inl (.inr ⟨o,e _ _ h⟩)
 ·~.inr h
mutual
theorem Rep.mono{K:W.Frag}{H H':Hp}(s:i6 H H'):∀{d:D} {v:V},Rep K H d v->Rep K H' d v
 | .non,_,h=>h
 | .bl _,_,h=>h
 | .int _,_,h=>h
 | .str _,_,h=>h
 | .tup ds,_,h=>by
  !⟨a,xs,e,q,r⟩:=h
  ~⟨a,xs,e,Pj s q,i5.mono s r⟩
 | .lst ds,_,h=>by
  !⟨a,xs,e,q,r⟩:=h
  ~⟨a,xs,e,s _ _ q,i5.mono s r⟩
 | .fro ds,_,h=>by
  !⟨a,xs,e,q,r⟩:=h
  ~⟨a,xs,e,s.seq q,i5.mono s r⟩
 | .obj k a ks ds,_,h=>by
  !⟨xs,e,q,r⟩:=h
  ~⟨xs,e,q.to fun u z _=>s _ u z,i5.mono s r⟩
 | .rf _,_,h=>h
theorem i5.mono{K:W.Frag}{H H':Hp}(s:i6 H H'):∀{ds:LD} {vs:List V},i5 K H ds vs->i5 K H' ds vs
 | [],_,h=>h
 | d::ds,_,h=>by
  !⟨v,r,e,q,t⟩:=h
  ~⟨v,r,e,Rep.mono s q,i5.mono s t⟩
end
section
variable{K:W.Frag}{H:Hp}
theorem i5.length:∀{ds:LD} {vs:List V},i5 K H ds vs->ds.length=vs.length
 | [],_,h=>by cases (show _=[] from h);rfl
 | d::ds,_,h=>by
  !⟨v,r,e,q,t⟩:=h
  subst e
  simp[i5.length t]
theorem i5.get:∀{ds:LD} {vs:List V} {i:Nat} {d:D},i5 K H ds vs->ds[i]?=some d->∃v,vs[i]?=some v/\Rep K H d v
 | [],_,_,_,_,e=>by simp at e
 | d::ds,_,0,_,h,e=>by
  !⟨v,r,e',q,t⟩:=h
  subst e'
  simp at e
  subst e
  ~⟨v,by simp,q⟩
 | d::ds,_,i+1,_,h,e=>by
  !⟨v,r,e',q,t⟩:=h
  subst e'
  !⟨u,h1,h2⟩:=i5.get (i:=i) t (by simpa using e)
  ~⟨u,by simpa using h1,h2⟩
theorem i5.append:∀{ds es:LD} {vs us:List V},i5 K H ds vs->i5 K H es us->i5 K H (ds++es) (vs++us)
 | [],_,_,_,h,t=>by cases (show _=[] from h);~t
 | d::ds,_,_,_,h,t=>by
  !⟨v,r,e',q,t'⟩:=h
  subst e'
  ~⟨v,_,rfl,q,i5.append t' t⟩
theorem i5.drop:∀(n:Nat) {ds:LD} {vs:List V},i5 K H ds vs->i5 K H (ds.drop n) (vs.drop n)
 | 0,_,_,h=>by simpa using h
 | n+1,[],_,h=>by cases (show _=[] from h);~rfl
 | n+1,d::ds,_,h=>by
  !⟨v,r,e',q,t'⟩:=h
  subst e'
  simpa using i5.drop n t'
theorem i5.take:∀(n:Nat) {ds:LD} {vs:List V},i5 K H ds vs->i5 K H (ds.take n) (vs.take n)
 | 0,_,_,h=>by simp only[List.take_zero];~rfl
 | n+1,[],_,h=>by cases (show _=[] from h);~rfl
 | n+1,d::ds,_,h=>by
  !⟨v,r,e',q,t'⟩:=h
  subst e'
  rw[List.take_succ_cons,List.take_succ_cons]
  ~⟨v,_,rfl,q,i5.take n t'⟩
theorem i5.one{d:D}{v:V}(h:Rep K H d v):i5 K H [d] [v]:=⟨v,[],rfl,h,rfl⟩
theorem i5.nil:i5 K H [] []:=rfl
theorem i5.cons{d:D}{v:V}{ds:LD}{vs:List V}(h:Rep K H d v)(t:i5 K H ds vs):i5 K H (d::ds) (v::vs):=⟨v,vs,rfl,h,t⟩
theorem i5.reverse:∀{ds:LD} {vs:List V},i5 K H ds vs->i5 K H ds.reverse vs.reverse
 | [],_,h=>by cases (show _=[] from h);~rfl
 | d::ds,_,h=>by
  !⟨v,r,e',q,t'⟩:=h
  subst e'
  rw[List.reverse_cons,List.reverse_cons]
  ~i5.append (i5.reverse t') (i5.one q)
def ut(K:W.Frag)(H:Hp)(ρ:R)(σ:L2.St):Prop:=ρ.length<=σ.length/\∀(i:Nat) (d:D),ρ[i]?=some (some d)->∃v,σ[i]?=some (some v)/\Rep K H d v
theorem ut.mono{H':Hp}{ρ:R}{σ:L2.St}(e:ut K H ρ σ)(s:i6 H H'):ut K H' ρ σ:=⟨e.1,fun i d h=>let ⟨v,a,b⟩:=e.2 i d h;⟨v,a,b.mono s⟩⟩
theorem ut.at{ρ:R}{σ:L2.St}(e:ut K H ρ σ){i:Nat}{d:D}(h:c5 i ρ=some d):∃v,σ[i]?=some (some v)/\Rep K H d v:=by
 &e.2 i d ?_
 unfold c5 at h
 rw[List.getD_eq_getElem?_getD] at h
 cases q:ρ[i]? with
 | none=>rw[q] at h;cases h
 | some o=>rw[q] at h;cases (show o=some d from h);rfl
theorem ut.set{ρ:R}{σ:L2.St}(e:ut K H ρ σ){i:Nat}{d:D}{v:V}(r:Rep K H d v):ut K H (ρ.set i (some d)) (σ.set i (some v)):=by
 &⟨by simpa using e.1,fun j c h=>?_⟩
 by_cases hj:i=j
 ·subst hj
  by_cases hi:i<ρ.length
  ·rw[List.getElem?_set_self hi] at h
   cases h
   ~⟨v,by rw[List.getElem?_set_self (Nat.lt_of_lt_of_le hi e.1)],r⟩
  ·rw[List.getElem?_eq_none (by simpa using hi)] at h
   cases h
 ·rw[List.getElem?_set_ne hj] at h ⊢
  ~e.2 j c h
theorem ut.front{ρ:R}{σ:L2.St}(e:ut K H ρ σ)(k:Nat)(τ:L2.St)(hk:τ.length=k):ut K H (List.replicate k none++ρ) (τ++σ):=by
 subst hk
 &⟨by simpa using e.1,fun i d h=>?_⟩
 by_cases hi:i<τ.length
 ·rw[List.getElem?_append_left (by simpa using hi),List.getElem?_replicate] at h
  split at h<;>cases h
 ·rw[List.getElem?_append_right (by simpa using hi),List.length_replicate] at h
  rw[List.getElem?_append_right (by simpa using hi)]
  ~e.2 _ d h
end
def uq(K:W.Frag)(H:Hp)(ρ:R)(τ:L2.St)(σ:L2.St):Prop:=ut K H ρ σ/\σ.drop ρ.length=τ
theorem ut.t{K:W.Frag}{H:Hp}{ρ:R}{σ:L2.St}(e:ut K H ρ σ):uq K H ρ (σ.drop ρ.length) σ:=⟨e,rfl⟩
theorem uq.mono{K:W.Frag}{H H':Hp}{ρ:R}{τ σ:L2.St}(e:uq K H ρ τ σ)(s:i6 H H'):uq K H' ρ τ σ:=⟨e.1.mono s,e.2⟩
theorem uq.set{K:W.Frag}{H:Hp}{ρ:R}{τ σ:L2.St}(e:uq K H ρ τ σ){i:Nat}{d:D}{v:V}(hi:i<ρ.length)(r:Rep K H d v):uq K H (ρ.set i (some d)) τ (σ.set i (some v)):=by
 &⟨e.1.set r,?_⟩
 rw[List.length_set,List.drop_set_of_lt hi]
 ~e.2
section
variable(K:W.Frag)
def tD(f:R->OD):TE:=fun σ H Q=>∃ ρ d,ut K H ρ σ/\f ρ=some d/\∀v H',i6 H H'->Rep K H' d v->Q v H'
def Pg(f:R->Option Bool):TT:=fun σ H Q=>∃ ρ b,ut K H ρ σ/\f ρ=some b/\∀H',i6 H H'->Q b H'
def Po(f:R->Option LD):TA:=fun σ H Q=>∃ ρ ds,ut K H ρ σ/\f ρ=some ds/\∀vs H',i6 H H'->i5 K H' ds vs->Q vs H'
def RP(f:R->Option (Option Int)):TO:=fun σ H Q=>∃ ρ o,ut K H ρ σ/\f ρ=some o/\∀H',i6 H H'->Q o H'
def fin(E:Ends)(τ:L2.St)(o:Out)(H':Hp):Prop:=
 match o with
 | .nx ρ=>∀ σ,uq K H' ρ τ σ->E.nx σ H'
 | .rt d=>∀v,Rep K H' d v->E.rt v H'
 | .bk ρ=>∀ σ,uq K H' ρ τ σ->E.bk σ H'
 | .ct ρ=>∀ σ,uq K H' ρ τ σ->E.ct σ H'
def Lv(f:R->Option Out):TS:=fun E σ H=>∃ ρ τ o,uq K H ρ τ σ/\f ρ=some o/\∀H',i6 H H'->fin K E τ o H'
def RO(st:D->R->Option R):TG:=fun v σ H Q=>∃ ρ τ d ρ',uq K H ρ τ σ/\Rep K H d v/\st d ρ=some ρ'/\∀ σ' H',i6 H H'->uq K H' ρ' τ σ'->Q σ' H'
def Kp(H H':Hp):Prop:=∀b u,H b=some u->(∀ φ,u≠.ext φ)->H' b=some u
def w_(J:It)(ds:LD)(H:Hp):Prop:=
 (∀(i:Nat) (d:D) (H2:Hp),Kp H H2->ds[i]?=some d->J.go i H2/\∀x H3,J.yld i H2 x H3->i6 H2 H3/\Rep K H3 d x)/\∀(i:Nat) (H2:Hp),Kp H H2->ds.length<=i->J.stop i H2
def Rv(f:R->Option LD):TI:=fun σ H W=>∃ ρ ds,ut K H ρ σ/\f ρ=some ds/\∀J H',i6 H H'->w_ K J ds H'->W J H'
def uP(F:LD->OD):Sp:=fun vs H Q _=>∃ds d,i5 K H ds vs/\F ds=some d/\∀v H',i6 H H'->Rep K H' d v->Q v H'
end
def SE(X:Cx)(e:Expr)(f:R->OD):Prop:=PE X e (tD X.K f)
def ST(X:Cx)(e:Expr)(f:R->Option Bool):Prop:=PT X e (Pg X.K f)
def SW(X:Cx)(e:Expr)(f:R->Option Bool):Prop:=PW X e (Pg X.K f)
def noStar:Expr->Bool
 | .Starred _ _=>false
 | _=>true
theorem aF{e:Expr}(es:List Expr)(env:Env)(h:noStar e=true):starEach (e::es) env=(false,eval e env)::starEach es env:=by
 cases e<;>first | rfl | cases h
theorem bv{pos:Pos}{env:Env}:∀{es:List Expr},es.all noStar=true->(backTo pos (starEach es env)).any (·.1)=false
 | [],_=>rfl
 | e::es,h=>by
  rw[List.all_cons,Bool.and_eq_true] at h
  rw[aF es env h.1]
  show(false||(backTo pos (starEach es env)).any (·.1))=false
  rw[bv h.2]
  rfl
def SA(X:Cx)(es:List Expr)(f:R->Option LD):Prop:=PA X es (Po X.K f)/\(∀ ρ ds,f ρ=some ds->ds.length=es.length)/\es.all noStar=true
def SO(X:Cx)(e:Option Expr)(f:R->Option (Option Int)):Prop:=PO X e (RP X.K f)
def S1(X:Cx)(s:Stmt)(f:R->Option Out):Prop:=PS X s (Lv X.K f)
def SS(X:Cx)(s:List Stmt)(f:R->Option Out):Prop:=PSs X s (Lv X.K f)
def SG(X:Cx)(e:Expr)(st:D->R->Option R):Prop:=PG X e (RO X.K st)
def SI(X:Cx)(tg iter:Expr)(f:R->Option LD):Prop:=PI X tg iter (Rv X.K f)
section
variable{X:Cx}{e a b c:Expr}{es:List Expr}{pos p:Pos}
theorem _root_.L2.PE.imp{t t':TE}(h:PE X e t)(hi:∀ σ H Q,t' σ H Q->t σ H Q):PE X e t':=fun pins s σ H Q I q=>h pins s σ H Q I (hi σ H Q q)
theorem _root_.L2.PT.imp{t t':TT}(h:PT X e t)(hi:∀ σ H Q,t' σ H Q->t σ H Q):PT X e t':=fun pins s σ H Q I q=>h pins s σ H Q I (hi σ H Q q)
theorem _root_.L2.PW.imp{t t':TT}(h:PW X e t)(hi:∀ σ H Q,t' σ H Q->t σ H Q):PW X e t':=fun wh pins s σ H Q I q=>h wh pins s σ H Q I (hi σ H Q q)
theorem _root_.L2.PA.imp{t t':TA}(h:PA X es t)(hi:∀ σ H Q,t' σ H Q->t σ H Q):PA X es t':=fun pos pins s σ H Q I q=>h pos pins s σ H Q I (hi σ H Q q)
theorem _root_.L2.PO.imp{e:Option Expr}{t t':TO}(h:PO X e t)(hi:∀ σ H Q,t' σ H Q->t σ H Q):PO X e t':=fun pins s σ H Q I q=>h pins s σ H Q I (hi σ H Q q)
theorem _root_.L2.PS.imp{s:Stmt}{t t':TS}(h:PS X s t)(hi:∀E σ H,t' E σ H->t E σ H):PS X s t':=fun pins s σ H E I q=>h pins s σ H E I (hi E σ H q)
theorem _root_.L2.PSs.imp{s:List Stmt}{t t':TS}(h:PSs X s t)(hi:∀E σ H,t' E σ H->t E σ H):PSs X s t':=fun pins s σ H E I q=>h pins s σ H E I (hi E σ H q)
theorem _root_.L2.PG.imp{t t':TG}(h:PG X e t)(hi:∀v σ H Q,t' v σ H Q->t v σ H Q):PG X e t':=fun pins s σ H v u Q I r q=>h pins s σ H v u Q I r (hi v σ H Q q)
theorem _root_.L2.PGs.imp{t t':Re}(h:PGs X es t)(hi:∀v σ H Q,t' v σ H Q->t v σ H Q):PGs X es t':=fun pins s σ H v u Q I r q=>h pins s σ H v u Q I r (hi v σ H Q q)
theorem _root_.L2.PI.imp{tg:Expr}{t t':TI}(h:PI X tg e t)(hi:∀ σ H Q,t' σ H Q->t σ H Q):PI X tg e t':=fun pins s σ H W I q=>h pins s σ H W I (hi σ H W q)
theorem h9{α β:Type}{o:Option α}{f:α->Option β}{y:β}(h:o.bind f=some y):∃x,o=some x/\f x=some y:=by
 cases o with
 | none=>cases h
 | some x=>~⟨x,rfl,h⟩
theorem t7{α β:Type}{o:Option α}{f:α->β}{y:β}(h:o.map f=some y):∃x,o=some x/\f x=y:=by
 cases o with
 | none=>cases h
 | some x=>~⟨x,rfl,Option.some.inj h⟩
theorem ad(i:Nat){x:Str}(hN:X.N[i]?=some x:=by rfl)(hv:Ca X.env.scope x:=by first | ~Or.inl rfl | ~Or.inr (Or.inl rfl) | ~Or.inr (Or.inr rfl))(hd:(x==("__debug__" : Str))=false:=by decide)
  (hcd:(x==("__classdict__" : Str))=false:=by decide):SE X (.Name x pos) (c5 i):=(jx hN hv hd hcd).imp fun σ H Q ⟨ρ,d,er,e,q⟩=>by
 !⟨v,h1,h2⟩:=er.at e
 ~⟨v,h1,q v H (i6.refl H) h2⟩
theorem ae{i j}:SE X (.Constant (.int i) j pos) (kI i):=ME.imp fun σ H Q ⟨ρ,d,er,e,q⟩=>by
 cases e
 ~q _ H (i6.refl H) rfl
theorem dI{b j}:SE X (.Constant (.bool b) j pos) (fun _=>some (.bl b)):=Pb.imp fun σ H Q ⟨ρ,d,er,e,q⟩=>by
 cases e
 ~q _ H (i6.refl H) rfl
theorem aR{j}:SE X (.Constant .none j pos) (fun _=>some .non):=L8.imp fun σ H Q ⟨ρ,d,er,e,q⟩=>by
 cases e
 ~q _ H (i6.refl H) rfl
theorem aA{x j}:SE X (.Constant (.str x) j pos) (fun _=>some (.str x)):=Ja.imp fun σ H Q ⟨ρ,d,er,e,q⟩=>by
 cases e
 ~q _ H (i6.refl H) rfl
def u0(K:W.Frag)(mg:Str->Option Value)(x:Str)(d:D):Prop:=∃u v,mg x=some u/\RelV v u/\∀H,Rep K H d v
theorem av{x:Str}{d:D}(h:u0 X.K X.mg x d)(hg:Gl X x:=by rfl)(hd:(x==("__debug__" : Str))=false:=by decide):SE X (.Name x pos) (fun _=>some d):=by
 !⟨u,v,hm,r,hr⟩:=h
 ~(lu hg hm r hd).imp fun σ H Q ⟨ρ,d',er,e,q⟩=>by
  cases e
  ~q v H (i6.refl H) (hr H)
def NB(X:Cx)(f:Value->Value->Sem Value)(F:D->D->OD):Prop:=
 OpR X f fun x y H Q=>∃dx dy d,Rep X.K H dx x/\Rep X.K H dy y/\F dx dy=some d/\∀v H',i6 H H'->Rep X.K H' d v->Q v H'
def EE(X:Cx)(op:CmpOp)(F:D->D->Option Bool):Prop:=
 OpR X (compareOp op) fun x y H Q=>∃dx dy b,Rep X.K H dx x/\Rep X.K H dy y/\F dx dy=some b/\Q (.bl b) H
def Q9(X:Cx)(f:Value->Sem Value)(F:D->OD):Prop:=
 UnR X f fun x H Q=>∃dx d,Rep X.K H dx x/\F dx=some d/\∀v H',i6 H H'->Rep X.K H' d v->Q v H'
def M1(X:Cx)(f:Value)(F:LD->OD):Prop:=
 CallR X f fun xs H Q=>∃ds d,i5 X.K H ds xs/\F ds=some d/\∀v H',i6 H H'->Rep X.K H' d v->Q v H'
theorem _root_.L2.OpR.imp{f:Value->Value->Sem Value}{r r':R2}(h:OpR X f r)(hi:∀x y H Q,r' x y H Q->r x y H Q):OpR X f r':=fun pins s σ H x y v u Q I rx ry q=>h pins s σ H x y v u Q I rx ry (hi x y H Q q)
theorem _root_.L2.UnR.imp{f:Value->Sem Value}{r r':V->Hp->VK->Prop}(h:UnR X f r)(hi:∀x H Q,r' x H Q->r x H Q):UnR X f r':=fun pins s σ H x v Q I rx q=>h pins s σ H x v Q I rx (hi x H Q q)
theorem _root_.L2.CallR.imp{f:Value}{r r':List V->Hp->VK->Prop}(h:CallR X f r)(hi:∀x H Q,r' x H Q->r x H Q):CallR X f r':=fun pins s σ H xs us Q I rx q=>h pins s σ H xs us Q I rx (hi xs H Q q)
variable{f g h:R->OD}
theorem two{σ:L2.St}{H:Hp}{Q:VK}{F:D->D->OD}(q:tD X.K (i3 F f g) σ H Q) :
  tD X.K f σ H fun x H1=>tD X.K g σ H1 fun y H2=>∃dx dy d,Rep X.K H2 dx x/\Rep X.K H2 dy y/\F dx dy=some d/\∀v H',i6 H2 H'->Rep X.K H' d v->Q v H':=by
 !⟨ρ,d,er,e,q⟩:=q
 !⟨x,e1,e⟩:=h9 e
 !⟨y,e2,e⟩:=h9 e
 ~⟨ρ,x,er,e1,fun v H1 s1 r1=>⟨ρ,y,er.mono s1,e2,fun u H2 s2 r2=>⟨x,y,d,r1.mono s2,r2,e,fun w H3 s3 r3=>q w H3 (s1.trans (s2.trans s3)) r3⟩⟩⟩
theorem al{op:Operator}{F:D->D->OD}(ho:NB X (binaryOp op) F)(ha:SE X a f)(hb:SE X b g):SE X (.BinOp a op b pos) (i3 F f g):=(tO ho ha hb).imp fun σ H Q q=>two q
theorem qI{op:UnaryOp}{F:D->OD}(ho:Q9 X (unaryOp op) F)(ha:SE X a f):SE X (.UnaryOp op a pos) (wR F f):=(tT ho ha).imp fun σ H Q ⟨ρ,d,er,e,q⟩=>by
 !⟨x,e1,e⟩:=h9 e
 ~⟨ρ,x,er,e1,fun v H1 s1 r1=>⟨x,d,r1,e,fun w H2 s2 r2=>q w H2 (s1.trans s2) r2⟩⟩
theorem Qy{σ:L2.St}{H:Hp}{Q:Bool->Hp->Prop}{F:D->D->Option Bool}(q:Pg X.K (k7 F f g) σ H Q) :
  tD X.K f σ H fun x H1=>tD X.K g σ H1 fun y H2=>∃dx dy b,Rep X.K H2 dx x/\Rep X.K H2 dy y/\F dx dy=some b/\Q b H2:=by
 !⟨ρ,d,er,e,q⟩:=q
 !⟨x,e1,e⟩:=h9 e
 !⟨y,e2,e⟩:=h9 e
 ~⟨ρ,x,er,e1,fun v H1 s1 r1=>⟨ρ,y,er.mono s1,e2,fun u H2 s2 r2=>⟨x,y,d,r1.mono s2,r2,e,q H2 (s1.trans s2)⟩⟩⟩
theorem Nj{σ:L2.St}{H:Hp}{Q:VK}{f:R->Option Bool}(q:tD X.K (Cf f) σ H Q):Pg X.K f σ H fun b H'=>Q (.bl b) H':=by
 !⟨ρ,d,er,e,q⟩:=q
 !⟨x,e1,e⟩:=t7 e
 subst e
 ~⟨ρ,x,er,e1,fun H1 s1=>q _ H1 s1 rfl⟩
theorem cG{op:CmpOp}{F:D->D->Option Bool}(ho:EE X op F)(ha:SE X a f)(hb:SE X b g)(hm:behindInMarks op b=false:=by first | ~Dq _ | with_unfolding_all rfl) :
  SE X (.Compare a [op] [b] pos) (Cf (k7 F f g)):=(r_ ho ha hb hm).imp fun σ H Q q=>Qy (Nj q)
theorem aE{op:CmpOp}{F:D->D->Option Bool}(ho:EE X op F)(ha:SE X a f)(hb:SE X b g)(hm:behindInMarks op b=false:=by first | ~Dq _ | with_unfolding_all rfl) :
  ST X (.Compare a [op] [b] pos) (k7 F f g):=(kL ho ha hb hm).imp fun σ H Q q=>by
 !⟨ρ,d,er,e,q⟩:=q
 !⟨x,e1,e⟩:=h9 e
 !⟨y,e2,e⟩:=h9 e
 ~⟨ρ,x,er,e1,fun v H1 s1 r1=>⟨ρ,y,er.mono s1,e2,fun u H2 s2 r2=>⟨x,y,d,r1.mono s2,r2,e,d,rfl,q H2 (s1.trans s2)⟩⟩⟩
theorem JE{H:Hp}{d:D}{v:V}{b:Bool}{K:W.Frag}(r:Rep K H d v)(e:LL d=some b):M0 K v H b:=by
 cases d with
 | non=>cases (show v=_ from r);cases e;~rfl
 | bl c=>cases (show v=_ from r);cases e;~rfl
 | int i=>cases (show v=_ from r);cases e;~rfl
 | str x =>
  cases (show v=_ from r)
  unfold LL at e
  dsimp only at e
  split at e
  ·rename_i hx
   cases e
   ~⟨hx,rfl⟩
  ·cases e
 | tup ds =>
  !⟨a,xs,rfl,q,t⟩:=r
  cases e
  &.inr (.inl ⟨xs,q,?_⟩)
  cases ds with
  | nil=>cases (show xs=[] from t);rfl
  | cons d ds=>!⟨_,_,rfl,_⟩:=t;rfl
 | lst ds =>
  !⟨a,xs,rfl,q,t⟩:=r
  cases e
  &.inl ⟨xs,wj.of q,?_⟩
  cases ds with
  | nil=>cases (show xs=[] from t);rfl
  | cons d ds=>!⟨_,_,rfl,_⟩:=t;rfl
 | fro ds =>
  !⟨a,xs,rfl,q,t⟩:=r
  cases e
  &.inl ⟨xs,q,?_⟩
  cases ds with
  | nil=>cases (show xs=[] from t);rfl
  | cons d ds=>!⟨_,_,rfl,_⟩:=t;rfl
 | obj k a ks ds=>cases e
 | rf a=>cases e
theorem cH(ha:SE X a f)(he:∀whole,isTrue a X.env whole=(do let v <- whole;standAt a.pos;holding [v] (truthy v)):=by intro _;rfl):ST X a (wV f):=(qu ha he).imp fun σ H Q ⟨ρ,b,er,e,q⟩=>by
 !⟨x,e1,e⟩:=h9 e
 ~⟨ρ,x,er,e1,fun v H1 s1 r1=>⟨b,JE r1 e,q H1 s1⟩⟩
variable{s t:R->Option Bool}{rest:List Expr}
theorem fj{e:Expr}(h:SW X e s):ST X e s:=PW.pt h
theorem gF(ha:ST X a s):SW X (.BoolOp .And [a] pos) s:=JR ha
theorem gp(ha:ST X a s):SW X (.BoolOp .Or [a] pos) s:=L3 ha
theorem ji(ha:ST X a s)(hb:SW X (.BoolOp .And (b::rest) pos) t):SW X (.BoolOp .And (a::b::rest) pos) (Bw s t):=(MH ha hb).imp fun σ H Q ⟨ρ,k,er,e,q⟩=>by
 !⟨x,e1,e⟩:=h9 e
 &⟨ρ,x,er,e1,fun H1 s1=>?_⟩
 cases x with
 | false=>cases e;rw[if_neg Bool.false_ne_true];~q H1 s1
 | true=>rw[if_pos rfl] at e ⊢;~⟨ρ,k,er.mono s1,e,fun H2 s2=>q H2 (s1.trans s2)⟩
theorem gR(ha:ST X a s)(hb:SW X (.BoolOp .Or (b::rest) pos) t):SW X (.BoolOp .Or (a::b::rest) pos) (Ds s t):=(NT ha hb).imp fun σ H Q ⟨ρ,k,er,e,q⟩=>by
 !⟨x,e1,e⟩:=h9 e
 &⟨ρ,x,er,e1,fun H1 s1=>?_⟩
 cases x with
 | true=>cases e;rw[if_pos rfl];~q H1 s1
 | false=>rw[if_neg Bool.false_ne_true] at e ⊢;~⟨ρ,k,er.mono s1,e,fun H2 s2=>q H2 (s1.trans s2)⟩
theorem lg(ha:ST X a s):ST X (.UnaryOp .Not a pos) (Ft s):=(sY ha).imp fun σ H Q ⟨ρ,k,er,e,q⟩=>by
 !⟨x,e1,e⟩:=t7 e
 subst e
 ~⟨ρ,x,er,e1,fun H1 s1=>q H1 s1⟩
theorem jc{op}(ha:SE X a f):SE X (.BoolOp op [a] pos) f:=tN ha
theorem gj(ha:SE X a f)(hb:SE X (.BoolOp .And (b::rest) pos) g):SE X (.BoolOp .And (a::b::rest) pos) (A7 f g):=(tK ha hb).imp fun σ H Q ⟨ρ,d,er,e,q⟩=>by
 !⟨x,e1,e⟩:=h9 e
 &⟨ρ,x,er,e1,fun v H1 s1 r1=>?_⟩
 cases x with
 | bl c =>
  cases (show v=_ from r1)
  &⟨c,rfl,?_⟩
  cases c with
  | false=>cases e;rw[if_neg Bool.false_ne_true];~q _ H1 s1 rfl
  | true=>rw[if_pos rfl];~⟨ρ,d,er.mono s1,e,fun v H2 s2 r2=>q v H2 (s1.trans s2) r2⟩
 | _=>cases e
theorem kD(ha:SE X a f):SE X (.UnaryOp .Not a pos) (E9 f):=(tL ha).imp fun σ H Q ⟨ρ,d,er,e,q⟩=>by
 !⟨x,e1,e⟩:=h9 e
 &⟨ρ,x,er,e1,fun v H1 s1 r1=>?_⟩
 cases x with
 | bl c =>
  cases (show v=_ from r1)
  cases e
  ~⟨c,rfl,q _ H1 s1 rfl⟩
 | _=>cases e
theorem fm(hc:ST X c s)(ha:SE X a f)(hb:SE X b g):SE X (.IfExp c a b pos) (Dc s f g):=(qN hc ha hb).imp fun σ H Q ⟨ρ,d,er,e,q⟩=>by
 !⟨x,e1,e⟩:=h9 e
 &⟨ρ,x,er,e1,fun H1 s1=>?_⟩
 cases x with
 | true=>rw[if_pos rfl] at e ⊢;~⟨ρ,d,er.mono s1,e,fun v H2 s2 r2=>q v H2 (s1.trans s2) r2⟩
 | false=>rw[if_neg Bool.false_ne_true] at e ⊢;~⟨ρ,d,er.mono s1,e,fun v H2 s2 r2=>q v H2 (s1.trans s2) r2⟩
variable{F:R->Option LD}
theorem af:SA X [] c7:=⟨BD.imp fun σ H Q ⟨ρ,d,er,e,q⟩=>by cases e;~q [] H (i6.refl H) rfl,fun ρ ds e=>by cases e;rfl,rfl⟩
theorem ac(ha:SE X e f)(hr:SA X es F)(hs:noStar e=true:=by rfl):SA X (e::es) (c4 f F):=⟨(eT ha hr.1 (aF es X.env hs)).imp fun σ H Q ⟨ρ,ds,er,e,q⟩=>by
 !⟨x,e1,e⟩:=h9 e
 !⟨y,e2,e⟩:=t7 e
 subst e
 ~⟨ρ,x,er,e1,fun v H1 s1 r1=>⟨ρ,y,er.mono s1,e2,fun vs H2 s2 r2=>q _ H2 (s1.trans s2) (i5.cons (r1.mono s2) r2)⟩⟩,fun ρ ds e=>by
 !⟨x,e1,e⟩:=h9 e
 !⟨y,e2,e⟩:=t7 e
 subst e
 simp[hr.2.1 ρ y e2],by rw[List.all_cons,hs,hr.2.2];rfl⟩
theorem bh{H:Hp}{p:Addr}(h:H p=none)(o:HO):i6 H (upd H p o):=fun b u q=>by rw[aq (uB q h)];~q
theorem ax{k}(h:SA X es F)(hl:Nat.ble es.length 1000=true:=by rfl):SE X (.Tuple es k pos) (l7 F):=(nH h.1).imp fun σ H Q ⟨ρ,d,er,e,q⟩=>by
 !⟨ds,e1,e⟩:=t7 e
 subst e
 &⟨ρ,ds,er,e1,fun vs H1 s1 r1=>⟨?_,fun p hp=>?_⟩⟩
 ·rw[<- r1.length,h.2.1 ρ ds e1];~Nat.le_of_lt (yL (Nat.le_of_ble_eq_true hl))
 ·have s2:=bh hp (.tup vs)
  ~q _ _ (s1.trans s2) ⟨p,vs,rfl,xj.of au,r1.mono s2⟩
theorem gX(h:SA X es F)(hl:Nat.ble es.length 1000=true:=by rfl):SE X (.List es pos) (Eu F):=(nR h.1).imp fun σ H Q ⟨ρ,d,er,e,q⟩=>by
 !⟨ds,e1,e⟩:=t7 e
 subst e
 &⟨ρ,ds,er,e1,fun vs H1 s1 r1=>⟨?_,fun p hp=>?_⟩⟩
 ·rw[<- r1.length,h.2.1 ρ ds e1];~Nat.le_of_lt (yL (Nat.le_of_ble_eq_true hl))
 ·have s2:=bh hp (.lst vs)
  ~q _ _ (s1.trans s2) ⟨p,vs,rfl,au,r1.mono s2⟩
structure l8 (P:Program) (w:World) (K:W.Frag) (mg:Str->Option Value) (base:Heap) (k:Nat) (x:Str) (ps:List Str) (F:LD->OD):Prop where
 ex:∃f fd,k6 P w K mg base ue k f fd ps (uP K F)/\mg x=some (.ref f)/\W.keepIn K (.ref f)=true/\Binds K fd ps []
theorem l8.mono{P:Program}{w:World}{K:W.Frag}{mg:Str->Option Value}{base:Heap}{j k:Nat}{x:Str}{ps:List Str}{F:LD->OD}(h:l8 P w K mg base j x ps F)(hk:j<=k):l8 P w K mg base k x ps F:=by
 !⟨f,fd,a,b⟩:=h.ex
 ~⟨f,fd,a.mono hk,b⟩
theorem l8.imp{P:Program}{w:World}{K:W.Frag}{mg:Str->Option Value}{base:Heap}{k:Nat}{x:Str}{ps:List Str}{F G:LD->OD}(h:l8 P w K mg base k x ps F)(hi:∀ds d,G ds=some d->F ds=some d):l8 P w K mg base k x ps G:=by
 !⟨f,fd,a,b⟩:=h.ex
 ~⟨f,fd,a.imp fun vs H Q E ⟨ds,d,r,e,q⟩=>⟨ds,d,r,hi ds d e,q⟩,b⟩
theorem ai{k:Nat}{x:Str}{ps:List Str}{G:LD->OD}(C:l8 X.prog X.w X.K X.mg X.base k x ps G)(hr:ua k X.A)(ha:SA X (e::es) F)(hg:Gl X x:=by rfl)
  (hdb:(x==("__debug__" : Str))=false:=by decide) :
  SE X (.Call (.Name x p) (e::es) [] pos) (c8 G F):=by
 have hst:=ha.2.2
 rw[List.all_cons,Bool.and_eq_true] at hst
 have he:=aF es X.env hst.1
 have hpl:=bv (pos:=pos) (env:=X.env) hst.2
 !⟨f,fd,a,m,kp,bd⟩:=C.ex
 &(iR a hr hg m kp bd .nil yk ha.1 hdb he hpl).imp fun σ H Q ⟨ρ,d,er,e,q⟩=>?_
 !⟨ds,e1,e⟩:=h9 e
 ~⟨ρ,ds,er,e1,fun vs H1 s1 r1=>⟨ds,d,by rw[List.append_nil];~r1,e,fun v H2 s2 r2=>q v H2 (s1.trans s2) r2⟩⟩
theorem bD{x:Str}{id:String}{G:LD->OD}(hc:M1 X (.builtin id) G)(hm:X.mg x=none)(ha:SA X (e::es) F)(hv:bootBuiltins x=some (.builtin id):=by kernel_rfl)(hg:Gl X x:=by rfl)(hn:x ≠ "__name__":=by decide)(hdb:(x==("__debug__" : Str))=false:=by decide):SE X (.Call (.Name x p) (e::es) [] pos) (c8 G F):=
 (mm hc hg hm hv ha.1 hn hdb (aF es X.env (List.all_eq_true.mp ha.2.2 e List.mem_cons_self)) (bv (List.all_eq_true.mpr fun x hx=>List.all_eq_true.mp ha.2.2 x (List.mem_cons_of_mem _ hx)))).imp fun σ H Q ⟨ρ,d,er,e,q⟩=>by
  !⟨ds,e1,e⟩:=h9 e
  ~⟨ρ,ds,er,e1,fun vs H1 s1 r1=>⟨ds,d,r1,e,fun v H2 s2 r2=>q v H2 (s1.trans s2) r2⟩⟩
theorem fV{x:Str}{T:String}{G:LD->OD}(hc:M1 X (.type T) G)(hm:X.mg x=none)(ha:SA X (e::es) F)(hv:bootBuiltins x=some (.type T):=by kernel_rfl)(hg:Gl X x:=by rfl)(hn:x ≠ "__name__":=by decide)(hdb:(x==("__debug__" : Str))=false:=by decide):SE X (.Call (.Name x p) (e::es) [] pos) (c8 G F):=
 (pF hc hg hm hv ha.1 hn hdb (aF es X.env (List.all_eq_true.mp ha.2.2 e List.mem_cons_self)) (bv (List.all_eq_true.mpr fun x hx=>List.all_eq_true.mp ha.2.2 x (List.mem_cons_of_mem _ hx)))).imp fun σ H Q ⟨ρ,d,er,e,q⟩=>by
  !⟨ds,e1,e⟩:=h9 e
  ~⟨ρ,ds,er,e1,fun vs H1 s1 r1=>⟨ds,d,r1,e,fun v H2 s2 r2=>q v H2 (s1.trans s2) r2⟩⟩
def RK(X:Cx)(F:D->D->OD):Prop:=IxR X fun x y H Q=>∃dx dy d,Rep X.K H dx x/\Rep X.K H dy y/\F dx dy=some d/\∀v H',i6 H H'->Rep X.K H' d v->Q v H'
theorem _root_.L2.IxR.imp{r r':R2}(h:IxR X r)(hi:∀x y H Q,r' x y H Q->r x y H Q):IxR X r':=fun value slice pins s σ H x y v u Q I rx ry q hs=>h value slice pins s σ H x y v u Q I rx ry (hi x y H Q q) hs
theorem MJ(n:Nat)(i:Int):OH n i=NN n i:=rfl
theorem Dw{K:W.Frag}{H:Hp}{ds:LD}{xs:List V}{i:Int}{d:D}(r:i5 K H ds xs)(e:H_ ds i=some d):∃v,Mq xs i=some v/\Rep K H d v:=by
 !⟨j,e1,e2⟩:=h9 e
 !⟨v,h1,h2⟩:=r.get e2
 &⟨v,?_,h2⟩
 unfold Mq
 rw[<- r.length,<- MJ,e1]
 ~h1
theorem Qp:RK X i8:=(JM.or (L0.or Mu)).imp fun x y H Q ⟨dx,dy,d,r1,r2,e,q⟩=>by
 cases dx with
 | tup ds =>
  cases dy with
  | int i =>
   !⟨a,xs,e1,hq,t⟩:=r1
   cases (show y=_ from r2)
   !⟨v,h1,h2⟩:=Dw t e
   ~.inr (.inl ⟨a,xs,i,v,e1,rfl,hq,h1,q v H (i6.refl H) h2⟩)
  | _=>cases e
 | lst ds =>
  cases dy with
  | int i =>
   !⟨a,xs,e1,hq,t⟩:=r1
   cases (show y=_ from r2)
   !⟨v,h1,h2⟩:=Dw t e
   ~.inl ⟨a,xs,i,v,e1,rfl,wj.of hq,h1,q v H (i6.refl H) h2⟩
  | _=>cases e
 | fro ds =>
  cases dy with
  | int i =>
   !⟨a,xs,e1,hq,t⟩:=r1
   cases (show y=_ from r2)
   !⟨v,h1,h2⟩:=Dw t e
   ~.inl ⟨a,xs,i,v,e1,rfl,hq,h1,q v H (i6.refl H) h2⟩
  | _=>cases e
 | str z =>
  cases dy with
  | int i =>
   cases (show x=_ from r1)
   cases (show y=_ from r2)
   unfold i8 at e
   dsimp only at e
   split at e
   ·rename_i hz
    !⟨c,e1,e2⟩:=t7 e
    subst e2
    ~.inr (.inr ⟨z,i,c,rfl,rfl,hz,(by rw[<- e1];rfl),q _ H (i6.refl H) rfl⟩)
   ·cases e
  | _=>cases e
 | _=>cases e
theorem ag(ha:SE X a f)(hb:SE X b g)(hs:C8 b:=by intro _ _;rfl):SE X (.Subscript a b pos) (i3 i8 f g):=(sC Qp ha hb hs).imp fun σ H Q q=>two q
variable{st:Stmt}{sts:List Stmt}{u w:R->Option Out}
theorem aU:SS X [] uu:=zQ.imp fun E σ H ⟨ρ,τ,o,er,e,q⟩=>by
 cases e
 ~q H (i6.refl H) σ er
theorem LX{E:Ends}{σ:L2.St}{H:Hp}{K:W.Frag}(q:Lv K (l5 u w) E σ H):Lv K u {E with nx:=Lv K w E} σ H:=by
 !⟨ρ,τ,o,er,e,q⟩:=q
 !⟨o1,e1,e⟩:=h9 e
 &⟨ρ,τ,o1,er,e1,fun H1 s1=>?_⟩
 cases o1 with
 | nx ρ2=>~fun σ2 er2=>⟨ρ2,τ,o,er2,e,fun H2 s2=>q H2 (s1.trans s2)⟩
 | rt d=>cases e;~q H1 s1
 | bk ρ2=>cases e;~q H1 s1
 | ct ρ2=>cases e;~q H1 s1
theorem ak(h1:S1 X st u)(h2:SS X sts w):SS X (st::sts) (l5 u w):=(dl h1 h2).imp fun E σ H q=>LX q
theorem ao(h1:S1 X st u):SS X [st] u:=da h1
theorem ay(ha:SE X a f):S1 X (.Return (some a) pos) (l4 f):=(lH ha).imp fun E σ H ⟨ρ,τ,o,er,e,q⟩=>by
 !⟨x,e1,e⟩:=t7 e
 subst e
 ~⟨ρ,x,er.1,e1,fun v H1 s1 r1=>q H1 s1 v r1⟩
theorem cP{B1 B2:List Stmt}(hc:ST X c s)(ha:SS X B1 u)(hb:SS X B2 w):S1 X (.If c B1 B2 pos) (yY s u w):=(jH hc ha hb).imp fun E σ H ⟨ρ,τ,o,er,e,q⟩=>by
 !⟨x,e1,e⟩:=h9 e
 &⟨ρ,x,er.1,e1,fun H1 s1=>?_⟩
 cases x with
 | true=>rw[if_pos rfl] at e ⊢;~⟨ρ,τ,o,er.mono s1,e,fun H2 s2=>q H2 (s1.trans s2)⟩
 | false=>rw[if_neg Bool.false_ne_true] at e ⊢;~⟨ρ,τ,o,er.mono s1,e,fun H2 s2=>q H2 (s1.trans s2)⟩
theorem aj(i:Nat){x:Str}(hN:X.N.Nodup)(hi:X.N[i]?=some x:=by rfl)(hx:Loc X.env.scope x:=by first | ~Or.inl rfl | ~Or.inr rfl)(hf:X.fn x=true\/X.env.scope.names.lookup x=some .local:=by first | ~.inl rfl | ~.inr rfl) :
  SG X (.Name x pos) (setAt i):=(rX hN hi hx hf).imp fun v σ H Q ⟨ρ,τ,d,ρ',er,r,e,q⟩=>by
 unfold setAt at e
 split at e
 ·rename_i hlt
  cases e
  ~q _ H (i6.refl H) (er.set hlt r)
 ·cases e
variable{stf:D->R->Option R}{stfs:List (D->R->Option R)}
theorem aB{tg:Expr}(ha:SE X a f)(hg:SG X tg stf)(hs:swapsWithSole [tg] a pos.line X.env=pure false:=by rfl)(hw:swappedStores [tg] a X.env=pure none:=by rfl)(h1:(assignEach [tg] X.env).map (·.2)=[assign tg X.env]:=by rfl) :
  S1 X (.Assign [tg] a pos) (l3 f stf):=(sO ha hg hs hw h1).imp fun E σ H ⟨ρ,τ,o,er,e,q⟩=>by
 !⟨x,e1,e⟩:=h9 e
 !⟨ρ',e2,e⟩:=t7 e
 subst e
 ~⟨ρ,x,er.1,e1,fun v H1 s1 r1=>⟨ρ,τ,x,ρ',er.mono s1,r1,e2,fun σ2 H2 s2 er2=>q H2 (s1.trans s2) σ2 er2⟩⟩
theorem Kp.of{H H':Hp}(s:i6 H H'):Kp H H':=fun b u e _=>s b u e
theorem Kp.refl(H:Hp):Kp H H:=fun _ _ e _=>e
theorem Kp.seq{K:W.Frag}{H H':Hp}{a:Addr}{xs:List V}(s:Kp H H')(h:wj K H a xs):wj K H' a xs:=by
 rcases h with (h | ⟨o,h⟩) | h
 ·~.inl (.inl (s _ _ h fun φ z=>nomatch z))
 ·~.inl (.inr ⟨o,s _ _ h fun φ z=>nomatch z⟩)
 ·~.inr h
theorem Kp.tup{K:W.Frag}{H H':Hp}{a:Addr}{xs:List V}(s:Kp H H')(h:xj K H a xs):xj K H' a xs:=by
 rcases h with (h | ⟨o,h⟩) | h
 ·~.inl (.inl (s _ _ h fun φ z=>nomatch z))
 ·~.inl (.inr ⟨o,s _ _ h fun φ z=>nomatch z⟩)
 ·~.inr h
mutual
theorem Rep.kp{K:W.Frag}{H H':Hp}(s:Kp H H'):∀{d:D} {v:V},Rep K H d v->Rep K H' d v
 | .non,_,h=>h
 | .bl _,_,h=>h
 | .int _,_,h=>h
 | .str _,_,h=>h
 | .tup ds,_,h=>by
  !⟨a,xs,e,q,r⟩:=h
  ~⟨a,xs,e,s.tup q,i5.kp s r⟩
 | .lst ds,_,h=>by
  !⟨a,xs,e,q,r⟩:=h
  ~⟨a,xs,e,s _ _ q (fun φ z=>by cases z),i5.kp s r⟩
 | .fro ds,_,h=>by
  !⟨a,xs,e,q,r⟩:=h
  ~⟨a,xs,e,s.seq q,i5.kp s r⟩
 | .obj k a ks ds,_,h=>by
  !⟨xs,e,q,r⟩:=h
  ~⟨xs,e,q.to fun u z n=>s _ u z n,i5.kp s r⟩
 | .rf _,_,h=>h
theorem i5.kp{K:W.Frag}{H H':Hp}(s:Kp H H'):∀{ds:LD} {vs:List V},i5 K H ds vs->i5 K H' ds vs
 | [],_,h=>h
 | d::ds,_,h=>by
  !⟨v,r,e,q,t⟩:=h
  ~⟨v,r,e,Rep.kp s q,i5.kp s t⟩
end
theorem ut.kp{K:W.Frag}{H H':Hp}{ρ:R}{σ:L2.St}(e:ut K H ρ σ)(s:Kp H H'):ut K H' ρ σ:=⟨e.1,fun i d h=>let ⟨v,a,b⟩:=e.2 i d h;⟨v,a,b.kp s⟩⟩
theorem uq.kp{K:W.Frag}{H H':Hp}{ρ:R}{τ σ:L2.St}(e:uq K H ρ τ σ)(s:Kp H H'):uq K H' ρ τ σ:=⟨e.1.kp s,e.2⟩
theorem iv{K:W.Frag}{H:Hp}{a:Addr}{ds:LD}{xs:List V}(hq:wj K H a xs)(t:i5 K H ds xs):w_ K (Px K a) ds H:=by
 &⟨fun i d H2 s2 e=>?_,fun i H2 s2 hl=>⟨xs,s2.seq hq,by rw[<- t.length];~hl⟩⟩
 !⟨v,h1,h2⟩:=t.get e
 &⟨⟨xs,v,s2.seq hq,h1⟩,fun x H3 ⟨e3,y⟩=>?_⟩
 subst e3
 have:=(y xs (s2.seq hq)).symm.trans h1
 cases this
 ~⟨i6.refl _,h2.kp s2⟩
theorem nJ{K:W.Frag}{H:Hp}{a:Addr}{ds:LD}{xs:List V}(hq:xj K H a xs)(t:i5 K H ds xs):w_ K (PN K a) ds H:=by
 &⟨fun i d H2 s2 e=>?_,fun i H2 s2 hl=>⟨xs,s2.tup hq,by rw[<- t.length];~hl⟩⟩
 !⟨v,h1,h2⟩:=t.get e
 &⟨⟨xs,v,s2.tup hq,h1⟩,fun x H3 ⟨e3,y⟩=>?_⟩
 subst e3
 have:=(y xs (s2.tup hq)).symm.trans h1
 cases this
 ~⟨i6.refl _,h2.kp s2⟩
theorem HA{a b:Int}{i:Nat}{d:D}(e:(wX a b)[i]?=some d):i<(b - a).toNat/\d=.int (a+i):=by
 unfold wX at e
 rw[List.getElem?_map] at e
 !⟨k,e1,e⟩:=t7 e
 !⟨h1,h2⟩:=List.getElem?_eq_some_iff.mp e1
 rw[List.length_range] at h1
 rw[List.getElem_range] at h2
 subst h2
 ~⟨h1,e.symm⟩
theorem jy{K:W.Frag}{H:Hp}{a b:Int}:w_ K (NE a (b - a).toNat) (wX a b) H:=by
 &⟨fun i d H2 s2 e=>?_,fun i H2 s2 hl=>by
  have z:(wX a b).length=(b - a).toNat:=by simp[wX]
  rw[z] at hl
  ~hl⟩
 !⟨h1,rfl⟩:=HA e
 &⟨h1,fun x H3 ⟨e3,y⟩=>?_⟩
 subst e3
 ~⟨i6.refl _,y⟩
def PY(K:PySem.W.Frag)(tl:TE):TI:=fun σ H W=>tl σ H fun x H1=>(∃a,x=.ref a/\(((∃xs,wj K H1 a xs)/\W (Px K a) H1)\/((∃xs,xj K H1 a xs)/\W (PN K a) H1)))\/∃z,x=.str z/\z.cps.all (·<128)=true/\W (Ph z) H1
theorem jh{K:W.Frag}{H:Hp}{x:Str}:w_ K (Ph x) (chars x) H:=by
 have hl:(chars x).length=x.cps.size:=by simp[chars]
 &⟨fun i d H2 s2 e=>?_,fun i H2 s2 h=>by rw[hl] at h;~h⟩
 have hi:i<x.cps.size:=by rw[<- hl];~(List.getElem?_eq_some_iff.mp e).1
 &⟨hi,fun v H3 ⟨e3,c,h1,h2⟩=>?_⟩
 subst e3
 &⟨i6.refl _,?_⟩
 unfold chars at e
 rw[List.getElem?_map] at e
 !⟨c',e1,e⟩:=t7 e
 have h1':x.cps.toList[i]?=some c:=by simpa using h1
 rw[h1'] at e1
 cases e1
 subst e
 ~h2
theorem nE{tg l:Expr}{tl:TE}(hl:PE X l tl):PI X tg l (PY X.K tl):=by
 intro pins s σ H W I h
 &uo (hl pins s σ H _ I h) fun v s1 ⟨x,H1,I1,r1,q1⟩=>?_
 rcases q1 with ⟨a,e,q1⟩ | ⟨z,e,hz,q⟩
 rotate_left
 ·subst e
  !⟨t,rfl⟩:=r1
  &wpAny_pyIter_ascii hz ?_
  &⟨s1.heap.objs.size,[s1.heap.objs.size],_,_,H1,rfl,I1.kept (t':=s1.toks) fun b o e=>Heap.get?_push_of_some _ e,HQ _ z t,⟨_,Heap.get?_push_size _ rfl,rfl,rfl⟩,fun b hb=>?_,q⟩
  have e:b=s1.heap.objs.size:=by simpa using hb
  subst e
  ~I1.fpOk (Nat.le_refl _) (I1.hok.fresh (Nat.le_refl _))
 subst e
 cases r1
 rcases q1 with ⟨⟨xs,hq⟩,q⟩ | ⟨⟨xs,hq⟩,q⟩
 ·!⟨its,rv,p,hz⟩:=I1.list hq
  &wpAny_pyIter_list p.isList ?_
  &⟨s1.heap.objs.size,[s1.heap.objs.size],_,_,H1,rfl,I1.kept (t':=s1.toks) fun b o e=>Heap.get?_push_of_some _ e,G0 a _,⟨_,Heap.get?_push_size _ rfl,rfl,rfl⟩,fun b hb=>?_,q⟩
  have e:b=s1.heap.objs.size:=by simpa using hb
  subst e
  ~I1.fpOk (Nat.le_refl _) (I1.hok.fresh (Nat.le_refl _))
 ·!⟨its,rv,p,hz⟩:=I1.tuple hq
  &wpAny_pyIter_tuple (show s1.heap.IsTuple a its.toArray from p) ?_
  &⟨s1.heap.objs.size,[s1.heap.objs.size],_,_,H1,rfl,I1.kept (t':=s1.toks) fun b o e=>Heap.get?_push_of_some _ e,E1 a _,⟨_,Heap.get?_push_size _ rfl,rfl,rfl⟩,fun b hb=>?_,q⟩
  have e:b=s1.heap.objs.size:=by simpa using hb
  subst e
  ~I1.fpOk (Nat.le_refl _) (I1.hok.fresh (Nat.le_refl _))
theorem gy{tg:Expr}(ha:SE X a f):SI X tg a (vj f):=(nE ha).imp fun σ H W ⟨ρ,ds,er,e,q⟩=>by
 !⟨x,e1,e⟩:=h9 e
 &⟨ρ,x,er,e1,fun v H1 s1 r1=>?_⟩
 cases x with
 | tup xs =>
  cases e
  !⟨a,vs,ev,hq,t⟩:=r1
  ~.inl ⟨a,ev,.inr ⟨⟨vs,hq⟩,q _ H1 s1 (nJ hq t)⟩⟩
 | lst xs =>
  cases e
  !⟨a,vs,ev,hq,t⟩:=r1
  ~.inl ⟨a,ev,.inl ⟨⟨vs,wj.of hq⟩,q _ H1 s1 (iv (wj.of hq) t)⟩⟩
 | str z =>
  dsimp only at e
  split at e
  ·rename_i hz
   cases e
   cases (show v=_ from r1)
   ~.inr ⟨z,rfl,hz,q _ H1 s1 jh⟩
  ·cases e
 | _=>cases e
theorem oy{tg:Expr}(hm:X.mg "range" = none)(ha:SE X a f)(hg:Gl X "range":=by rfl)(hs:noStar a=true:=by rfl):SI X tg (.Call (.Name "range" p) [a] [] pos) (yn f):=
 (kn hg hm (ac ha af hs).1 (aF [] X.env hs)).imp fun σ H W ⟨ρ,ds,er,e,q⟩=>by
  !⟨x,e1,e⟩:=h9 e
  cases x with
  | int j =>
   dsimp only at e
   split at e
   ·rename_i hj
    cases e
    &⟨ρ,[.int j],er,by show(f ρ).bind _=_;rw[e1];rfl,fun vs H1 s1 r1=>?_⟩
    !⟨v,r,rfl,r2,r3⟩:=r1
    cases (show v=_ from r2)
    cases (show r=_ from r3)
    &⟨j,rfl,hj.1,hj.2,q _ H1 s1 ?_⟩
    have z:=jy (K:=X.K) (H:=H1) (a:=0) (b:=j)
    rw[Int.sub_zero] at z
    ~z
   ·cases e
  | _=>cases e
theorem qx{tg iter:Expr}{B:List Stmt}{it:R->Option LD}(hp:PassesOwn (model X.prog X.w) X.A X.env X.xe)(hc:X.calm=true)(hi:SI X tg iter it)(hg:SG X tg stf)(hb:SS X B u)
  (hs:∀x,foldedSetIterable iter X.env x=pure x:=by intro _;rfl):S1 X (.For tg iter B [] pos) (Cg it stf u):=(nB hp hc hi hg hb hs).imp fun E σ H ⟨ρ,τ,o,er,e,q⟩=>by
 !⟨ds,e1,e⟩:=h9 e
 &⟨ρ,ds,er.1,e1,fun J H1 s1 y=>?_⟩
 &⟨fun i m σ' H'=>m=ds.length - i/\i<=ds.length/\i6 H1 H'/\∃ ρ',uq X.K H' ρ' τ σ'/\AC stf u (ds.drop i) ρ'=some o,⟨ds.length,by simp,Nat.zero_le _,i6.refl _,ρ,er.mono s1,by simpa using e⟩,?_⟩
 rintro i m σ' H' ⟨rfl,hi,s2,ρ',er',e'⟩
 by_cases hlt:i<ds.length
 ·&.inr ?_
  have hd:ds[i]?=some ds[i]:=by simp[hlt]
  !⟨hgo,hy⟩:=y.1 i ds[i] H' (Kp.of s2) hd
  rw[List.drop_eq_getElem_cons hlt] at e'
  !⟨ρ1,e2,e'⟩:=h9 e'
  !⟨o1,e3,e'⟩:=h9 e'
  &⟨hgo,fun σ2 H2=>i+1<=ds.length/\i6 H1 H2/\∃ ρ',uq X.K H2 ρ' τ σ2/\AC stf u (ds.drop (i+1)) ρ'=some o,fun σ2 H2 n2=>⟨ds.length - (i+1),by omega,rfl,n2.1,n2.2⟩,fun x H3 yx=>?_⟩
  !⟨s3,rx⟩:=hy x H3 yx
  &⟨ρ',τ,ds[i],ρ1,er'.mono s3,rx,e2,fun σ4 H4 s4 er4=>⟨ρ1,τ,o1,er4,e3,fun H5 s5=>?_⟩⟩
  have s15:i6 H1 H5:=s2.trans (s3.trans (s4.trans s5))
  cases o1 with
  | nx ρ2=>~fun σ6 er6=>⟨hlt,s15,ρ2,er6,e'⟩
  | ct ρ2=>~fun σ6 er6=>⟨hlt,s15,ρ2,er6,e'⟩
  | bk ρ2=>cases e';~fun σ6 er6=>q H5 (s1.trans s15) σ6 er6
  | rt d=>cases e';~q H5 (s1.trans s15)
 ·have e4:i=ds.length:=by omega
  subst e4
  rw[List.drop_length] at e'
  cases e'
  ~.inl ⟨y.2 _ H' (Kp.of s2) (Nat.le_refl _),q H' (s1.trans s2) σ' er'⟩
end
theorem zM{K:W.Frag}{H:Hp}{N:List Str}{ds:LD}{vs:List V}(r:i5 K H ds vs):ut K H (AG N.length ds) (L2.start N vs):=by
 unfold AG L2.start
 &⟨by simp[r.length],fun i d h=>?_⟩
 by_cases hi:i<ds.length
 ·rw[List.getElem?_append_left (by simpa using hi),List.getElem?_map] at h
  !⟨d',e1,e⟩:=t7 h
  cases e
  !⟨v,h1,h2⟩:=r.get e1
  ~⟨v,by rw[List.getElem?_append_left (by rw[List.length_map,<- r.length];~hi),List.getElem?_map,h1];rfl,h2⟩
 ·rw[List.getElem?_append_right (by simpa using hi),List.getElem?_replicate] at h
  split at h<;>cases h
theorem sV{P:Program}{w:World}{K:W.Frag}{mg:Str->Option Value}{base:Heap}{x qual:Str}{st:Stmt}{f:Addr}{fd:FuncData}{N ps:List Str}{k:Nat}{F:LD->OD}{g:R->Option Out}
  (Fn:uv K x qual st f fd) (S:c9 N ps (c6 st)) (hlen:∀ds d,F ds=some d->ds.length=ps.length)
  (hb:∀(cdv:Value) (A:Around) (outer:List Env) (s:Shared) (H:Hp) (E:XK),ua k (A.deeper (envOfC qual (c6 st) s.heap.objs.size f cdv))->SS (yi ue P w K mg base N qual (c6 st) f cdv A outer s H E).nox (uh st) g)
  (hF:∀ds d,F ds=some d->yc (g (AG N.length ds))=some d):k6 P w K mg base ue (k+1) f fd ps (uP K F):=by
 &Fn.ok S (fun vs H Q E h=>?_) (fun cdv A outer s H vs Q E hr h=>?_)
 ·!⟨ds,d,r,e,_⟩:=h
  rw[<- r.length]
  ~hlen ds d e
 ·!⟨ds,d,r,e,q⟩:=h
  &⟨_,hb cdv A outer s H E hr,?_⟩
  have z:=hF ds d e
  cases ho:g (AG N.length ds) with
  | none=>rw[ho] at z;cases z
  | some o =>
   rw[ho] at z
   &⟨AG N.length ds,_,o,(zM r).t,ho,fun H1 s1=>?_⟩
   cases o with
   | rt d'=>cases (show d'=d from Option.some.inj z);~fun v rv=>q v H1 s1 rv
   | nx ρ=>cases (show D.non=d from Option.some.inj z);~fun σ _=>q .non H1 s1 rfl
   | bk ρ=>cases z
   | ct ρ=>cases z
theorem ar{P:Program}{w:World}{K:W.Frag}{mg:Str->Option Value}{base:Heap}{x qual:Str}{st:Stmt}{f:Addr}{fd:FuncData}{N ps:List Str}{k:Nat}{n m:Nat}{g:R->Option Out}
  (Fn:uv K x qual st f fd) (S:c9 N ps (c6 st))
  (hb:∀(cdv:Value) (A:Around) (outer:List Env) (s:Shared) (H:Hp) (E:XK),ua k (A.deeper (envOfC qual (c6 st) s.heap.objs.size f cdv))->SS (yi ue P w K mg base N qual (c6 st) f cdv A outer s H E).nox (uh st) g)
  (h1:n=ps.length:=by rfl) (h2:m=N.length:=by rfl):k6 P w K mg base ue (k+1) f fd ps (uP K (via n m g)):=by
 subst h1 h2
 ~sV Fn S (fun _ _ h=>oV h) hb fun _ _ h=>sF h
theorem az{P:Program}{w:World}{K:W.Frag}{mg:Str->Option Value}{base:Heap}{x qual:Str}{st:Stmt}{f:Addr}{fd:FuncData}{ps:List Str}{k:Nat}{F:LD->OD}(Fn:uv K x qual st f fd)(hm:mg x=some (.ref f))
  (hb:Binds K fd ps []) (h:k6 P w K mg base ue k f fd ps (uP K F)):l8 P w K mg base k x ps F:=⟨f,fd,h,hm,Fn.kp,hb⟩
section
variable{X:Cx}
theorem Io{prog:Program}{w:World}{A:Around}{E:Value->Shared->Prop}{s:Shared}{t b:Addr}{ws:List Value}{Q:Value->Shared->Prop}(ht:IsTup s.heap t ([]:List Value).toArray)(hb:IsTup s.heap b ws.toArray)
  (h:Q (.ref b) s):wpAny (model prog w) A (binaryOp .Add (.ref t) (.ref b)) Q E s:=by
 !⟨⟨cls,dd,data,sl⟩,ho,hc,n,hd⟩:=id ht
 !⟨⟨cls2,dd2,data2,sl2⟩,ho2,hc2,n2,hd2⟩:=id hb
 simp only at hc hd hc2 hd2
 subst hc hd hc2 hd2
 ~concat_meets ⟨_,ho,rfl⟩ ⟨_,ho2,rfl⟩ noFill_tuple_add seq_tuple_add PySem.F.slot_tuple_add PySem.F.entry_tuple_add (PySem.F.args_tuple_add_2 _ _)
  (tuple_addW0 t b ([]:List Value).toArray ws.toArray n n2 dd dd2 sl sl2 (by simp)) ⟨ho,ho2,h⟩
theorem vI{K:W.Frag}{H:Hp}{d:D}{v:V}{i:Int}(e:nI d=some i)(r:Rep K H d v):v=.int i:=by
 cases d<;>cases e
 ~r
theorem On{K:W.Frag}{H:Hp}{d:D}{v:V}{xs:LD}(e:tI d=some xs)(r:Rep K H d v):Rep K H (.tup xs) v:=by
 cases d<;>cases e
 ~r
theorem ON{K:W.Frag}{H:Hp}{d:D}{v:V}{xs:LD}(e:lI d=some xs)(r:Rep K H d v):Rep K H (.lst xs) v:=by
 cases d<;>cases e
 ~r
theorem Eh{K:W.Frag}{H:Hp}{d:D}{v:V}{x:Str}(e:sI d=some x)(r:Rep K H d v):v=.str x:=by
 cases d<;>cases e
 ~r
theorem HU{K:W.Frag}{H:Hp}{d:D}{v:V}{x:Bool}(e:bO d=some x)(r:Rep K H d v):v=.bl x:=by
 cases d<;>cases e
 ~r
theorem El{α:Type}{p:Prop}[Decidable p]{x y:α}(h:(if p then some x else none)=some y):p/\x=y:=by
 split at h
 ·rename_i hp;~⟨hp,Option.some.inj h⟩
 ·cases h
theorem aD:NB X (binaryOp .Add) m9:=by
 intro pins s σ H x y v u Q I rx ry h
 !⟨dx,dy,d,r1,r2,e,q⟩:=h
 cases dx with
 | int i =>
  !⟨j,e1,rfl⟩:=t7 e
  ~Ni pins s σ H x y v u Q I rx ry ⟨i,j,r1,vI e1 r2,q _ H (i6.refl H) rfl⟩
 | tup xs =>
  !⟨ys,e1,e⟩:=h9 e
  !⟨hz,rfl⟩:=El e
  !⟨a,vs,rfl,hq,t⟩:=r1
  !⟨b,us,rfl,hq2,t2⟩:=On e1 r2
  cases vs with
  | nil =>
   cases rx
   cases ry
   !⟨its,rr1,p1,_⟩:=I.tuple hq
   !⟨its2,rr2,p2,_⟩:=I.tuple hq2
   cases rr1
   &Io p1 p2 ⟨.ref b,H,I,rfl,q _ H (i6.refl H) ⟨b,us,rfl,hq2,?_⟩⟩
   cases xs with
   | nil=>~t2
   | cons x r=>!⟨_,_,z,_⟩:=t;cases z
  | cons v0 vr =>
   &JZ pins s σ H _ _ v u Q I rx ry ⟨a,b,v0::vr,us,rfl,rfl,hq,hq2,by simp,by rw[<- t.length,<- t2.length];~hz,fun z=>?_,fun z p hp=>?_⟩
   ·subst z
    &q _ H (i6.refl H) ⟨a,v0::vr,rfl,hq,?_⟩
    have:ys=[]:=List.length_eq_zero_iff.mp t2.length
    subst this
    rw[List.append_nil]
    ~t
   ·have s2:=bh hp (.tup (v0::vr++us))
    ~q _ _ s2 ⟨p,_,rfl,xj.of au,(t.append t2).mono s2⟩
 | lst xs =>
  !⟨ys,e1,e⟩:=h9 e
  !⟨hz,rfl⟩:=El e
  !⟨a,vs,rfl,hq,t⟩:=r1
  !⟨b,us,rfl,hq2,t2⟩:=ON e1 r2
  &LW pins s σ H _ _ v u Q I rx ry ⟨a,b,vs,us,rfl,rfl,hq,hq2,by rw[<- t.length,<- t2.length];~hz,fun p hp=>?_⟩
  have s2:=bh hp (.lst (vs++us))
  ~q _ _ s2 ⟨p,_,rfl,au,(t.append t2).mono s2⟩
 | str a =>
  !⟨b,e1,e⟩:=h9 e
  !⟨hz,rfl⟩:=El e
  ~Fm pins s σ H x y v u Q I rx ry ⟨a,b,r1,Eh e1 r2,hz,q _ H (i6.refl H) rfl⟩
 | _=>cases e
theorem bZ:NB X (binaryOp .Sub) wY:=by
 intro pins s σ H x y v u Q I rx ry h
 !⟨dx,dy,d,r1,r2,e,q⟩:=h
 !⟨i,e1,e⟩:=h9 e
 !⟨j,e2,rfl⟩:=t7 e
 ~LS pins s σ H x y v u Q I rx ry ⟨i,j,vI e1 r1,vI e2 r2,q _ H (i6.refl H) rfl⟩
theorem dv:NB X (binaryOp .Mult) x6:=by
 intro pins s σ H x y v u Q I rx ry h
 !⟨dx,dy,d,r1,r2,e,q⟩:=h
 !⟨i,e1,e⟩:=h9 e
 !⟨j,e2,e⟩:=h9 e
 !⟨hz,rfl⟩:=El e
 &MI pins s σ H x y v u Q I rx ry ⟨i,j,vI e1 r1,vI e2 r2,?_,q _ H (i6.refl H) rfl⟩
 unfold uE at hz
 rw[Bool.or_eq_true,Bool.and_eq_true,Bool.and_eq_true] at hz
 ~hz.imp (fun z=>⟨of_decide_eq_true z.1,of_decide_eq_true z.2⟩) fun z=>⟨of_decide_eq_true z.1,of_decide_eq_true z.2⟩
theorem bN:NB X (binaryOp .FloorDiv) vV:=by
 intro pins s σ H x y v u Q I rx ry h
 !⟨dx,dy,d,r1,r2,e,q⟩:=h
 !⟨i,e1,e⟩:=h9 e
 !⟨j,e2,e⟩:=h9 e
 !⟨hz,rfl⟩:=El e
 ~Kv pins s σ H x y v u Q I rx ry ⟨i,j,vI e1 r1,vI e2 r2,hz,q _ H (i6.refl H) rfl⟩
theorem aI:NB X (binaryOp .Mod) ui:=by
 intro pins s σ H x y v u Q I rx ry h
 !⟨dx,dy,d,r1,r2,e,q⟩:=h
 !⟨i,e1,e⟩:=h9 e
 !⟨j,e2,e⟩:=h9 e
 !⟨hz,rfl⟩:=El e
 ~Mv pins s σ H x y v u Q I rx ry ⟨i,j,vI e1 r1,vI e2 r2,hz,q _ H (i6.refl H) rfl⟩
theorem nN:Q9 X (unaryOp .USub) D4:=by
 intro pins s σ H x v Q I rx h
 !⟨dx,d,r1,e,q⟩:=h
 !⟨i,e1,rfl⟩:=t7 e
 ~M8 pins s σ H x v Q I rx ⟨i,vI e1 r1,q _ H (i6.refl H) rfl⟩
theorem PK{op:CmpOp}{p:Int->Int->Bool}{F:D->D->Option Bool}(ho:OpR X (compareOp op) (JX fun i j=>.bl (p i j)))(hF:∀x y,F x y=(nI x).bind fun i=>(nI y).map fun j=>p i j):EE X op F:=by
 intro pins s σ H x y v u Q I rx ry h
 !⟨dx,dy,b,r1,r2,e,q⟩:=h
 rw[hF] at e
 !⟨i,e1,e⟩:=h9 e
 !⟨j,e2,rfl⟩:=t7 e
 ~ho pins s σ H x y v u Q I rx ry ⟨i,j,vI e1 r1,vI e2 r2,q⟩
theorem oA:EE X .Lt OE:=PK OU fun _ _=>rfl
theorem qL:EE X .LtE MT:=PK NZ fun _ _=>rfl
theorem gh:EE X .Gt EJ:=PK N8 fun _ _=>rfl
theorem sx:EE X .GtE NK:=PK OQ fun _ _=>rfl
theorem GG{K:W.Frag}{H:Hp}{d:D}{v:V}{ys:LD}(r:Rep K H d v)(e:IG d=some ys):∃p xs,v=.ref p/\(wj K H p xs\/xj K H p xs)/\i5 K H ys xs:=by
 cases d with
 | tup ds=>cases e;!⟨a,xs,rfl,q,t⟩:=r;~⟨a,xs,rfl,.inr q,t⟩
 | lst ds=>cases e;!⟨a,xs,rfl,q,t⟩:=r;~⟨a,xs,rfl,.inl (wj.of q),t⟩
 | fro ds=>cases e;!⟨a,xs,rfl,q,t⟩:=r;~⟨a,xs,rfl,.inl q,t⟩
 | _=>cases e
theorem Bs{K:W.Frag}{H:Hp}{d:D}{v:V}(r:Rep K H d v):KJ d=decide (v=.non):=by
 cases d with
 | tup c=>!⟨_,_,rfl,_⟩:=r;rfl
 | lst c=>!⟨_,_,rfl,_⟩:=r;rfl
 | fro c=>!⟨_,_,rfl,_⟩:=r;rfl
 | obj k a ks ds=>!⟨_,rfl,_⟩:=r;rfl
 | rf a=>cases (show v=_ from r);rfl
 | _=>cases (show v=_ from r);rfl
theorem Gz{K:W.Frag}{H:Hp}{d:D}{v:V}(r:Rep K H d v)(h:KJ d=true):v=.non:=by
 rw[Bs r] at h
 ~of_decide_eq_true h
theorem gb:EE X .Is zU:=by
 intro pins s σ H x y v u Q I rx ry h
 !⟨dx,dy,b,r1,r2,e,q⟩:=h
 !⟨h1,rfl⟩:=El e
 ~LT pins s σ H x y v u Q I rx ry ⟨Gz r2 h1,by rw[<- Bs r1];~q⟩
theorem ce:EE X .IsNot wB:=by
 intro pins s σ H x y v u Q I rx ry h
 !⟨dx,dy,b,r1,r2,e,q⟩:=h
 !⟨k,e2,rfl⟩:=t7 e
 !⟨h1,rfl⟩:=El e2
 ~Kw pins s σ H x y v u Q I rx ry ⟨Gz r2 h1,by rw[<- Bs r1];~q⟩
theorem gt:M1 X (.builtin "len") xo:=Dt.imp fun xs H Q ⟨ds,d,r,e,q⟩=>by
 match ds,e with
 | [x],e =>
  !⟨ys,e1,e2⟩:=t7 e
  subst e2
  !⟨v,r',rfl,r1,r2⟩:=r
  cases (show r'=[] from r2)
  !⟨p,vs,rfl,hq,t⟩:=GG r1 e1
  ~⟨p,vs,rfl,hq,q _ H (i6.refl H) (by show V.int _=V.int _;rw[t.length])⟩
theorem mh:M1 X (.type "tuple") E4:=BW.imp fun xs H Q ⟨ds,d,r,e,q⟩=>by
 match ds,e with
 | [.tup ys],e =>
  cases e
  !⟨v,r',rfl,⟨a,vs,rfl,hq,t⟩,r2⟩:=r
  cases (show r'=[] from r2)
  ~⟨a,vs,rfl,.inr ⟨hq,q _ H (i6.refl H) ⟨a,vs,rfl,hq,t⟩⟩⟩
 | [.lst ys],e =>
  cases e
  !⟨v,r',rfl,⟨a,vs,rfl,hq,t⟩,r2⟩:=r
  cases (show r'=[] from r2)
  ~⟨a,vs,rfl,.inl ⟨wj.of hq,fun l hl=>q _ _ (bh hl _) ⟨l,vs,rfl,xj.of au,t.mono (bh hl _)⟩⟩⟩
theorem qd:M1 X (.type "str") EZ:=C7.imp fun xs H Q ⟨ds,d,r,e,q⟩=>by
 match ds,e with
 | [.int i],e =>
  have e':(if i.natAbs.log2<1920 then some (D.str (toString i)) else none)=some d:=e
  split at e'
  ·rename_i hz
   cases e'
   !⟨v,r',rfl,r1,r2⟩:=r
   cases (show r'=[] from r2)
   cases (show v=_ from r1)
   ~⟨i,rfl,hz,q _ H (i6.refl H) rfl⟩
  ·cases e'
theorem z9{K:W.Frag}{H:Hp}:∀{ds:LD} {bs:List Bool} {vs:List V} {us:List Value},bools ds=some bs->i5 K H ds vs->l6 vs us->us=bs.map .bool
 | [],_,_,_,e,h,r=>by
  cases e
  cases (show _=[] from h)
  cases r
  rfl
 | d::ds,_,_,_,e,h,r=>by
  cases d with
  | bl b =>
   !⟨bs',e1,e2⟩:=t7 e
   subst e2
   !⟨v,vr,rfl,r1,r2⟩:=h
   cases (show v=_ from r1)
   cases r with
   | cons q t =>
    cases q
    rw[z9 e1 r2 t]
    rfl
  | _=>cases e
theorem Nm{pins:List (Addr×Obj)}{σ:L2.St}{H:Hp}{s:Shared}{Q:Value->Shared->Prop}{E:Value->Shared->Prop}{d:D}{x:V}{u:Value}{n:String}(I:L2.Inv X pins σ H s)(rx:RelV x u)(r:Rep X.K H d x)(ho:Kl d=false)
  (e:W.kitOne X.K (.type (Kt d)) (.type n)=some (Ld d n)) (h:∀tk,Q (.bool (Ld d n)) {s with toks:=tk}):wpAny (model X.prog X.w) X.A (call (.builtin "isinstance") [u,.type n]) Q E s:=by
 cases d with
 | non=>cases (show x=_ from r);cases rx;~W.kia_one W.kitx_none I.kIn True.intro e (fun z=>nomatch z) h
 | bl y=>cases (show x=_ from r);cases rx;~W.kia_one W.kitx_bool I.kIn True.intro e (fun z=>nomatch z) h
 | int i=>cases (show x=_ from r);!⟨t,rfl⟩:=rx;~W.kia_one W.kitx_int I.kIn True.intro e (fun z=>nomatch z) h
 | str y=>cases (show x=_ from r);!⟨t,rfl⟩:=rx;~W.kia_one W.kitx_str I.kIn True.intro e (fun z=>nomatch z) h
 | tup ds =>
  !⟨a,vs,rfl,hq,t⟩:=r
  cases rx
  !⟨its,_,⟨o,h1,h2,_⟩,_⟩:=I.tuple hq
  ~W.kia_one W.kitx_tuple I.kIn ⟨o,h1,h2⟩ e (fun z=>nomatch z) h
 | lst ds =>
  !⟨a,vs,rfl,hq,t⟩:=r
  cases rx
  !⟨_,_,n,_,_,h1⟩:=I.lstM hq
  ~W.kia_one W.kitx_list I.kIn ⟨_,h1,rfl⟩ e (fun z=>nomatch z) h
 | fro ds =>
  !⟨a,vs,rfl,hq,t⟩:=r
  cases rx
  !⟨its,_,⟨o,n,h1,h2,h3,h4⟩,_⟩:=I.list hq
  ~W.kia_one W.kitx_list I.kIn ⟨o,h1,h2⟩ e (fun z=>nomatch z) h
 | obj k a ks ds=>cases ho
 | rf a=>cases ho
def Bq(K:W.Frag)(n:String):Prop:=∀d:D,Kl d=false->W.kitOne K (.type (Kt d)) (.type n)=some (Ld d n)
theorem JI(K:W.Frag):Bq K "int":=fun d h=>by cases d<;>first | rfl | cases h
theorem Iu(K:W.Frag):Bq K "bool":=fun d h=>by cases d<;>first | rfl | cases h
theorem KR(K:W.Frag):Bq K "str":=fun d h=>by cases d<;>first | rfl | cases h
theorem kit_tuple(K:W.Frag):Bq K "tuple":=fun d h=>by cases d<;>first | rfl | cases h
theorem Ih(K:W.Frag):Bq K "list":=fun d h=>by cases d<;>first | rfl | cases h
theorem isi_call{n:String}(hk:Bq X.K n):CallR X (.builtin "isinstance") (fun xs H Q=>∃d x,xs=[x,.ty n]/\Rep X.K H d x/\Kl d=false/\Q (.bl (Ld d n)) H):=by
 intro pins s σ H xs us Q I r h
 !⟨d,x,rfl,rd,ho,q⟩:=h
 !⟨u,w',rfl,ru,rw'⟩:=vals2 r
 cases rw'
 ~Nm I ru rd ho (hk d ho) fun tk=>⟨.bl (Ld d n),H,I.tok tk,rfl,q⟩
theorem pq{n:String}{x:Str}{a:Expr}{f:R->OD}{p p2 pos:Pos}(hm:X.mg "isinstance" = none)(hmT:X.mg x=none)(ha:SE X a f)(hk:Bq X.K n:=by first | ~JI _ | ~Iu _ | ~KR _ | ~kit_tuple _ | ~Ih _)(hv:bootBuiltins x=some (.type n):=by kernel_rfl)
  (hg:Gl X "isinstance":=by rfl) (hgT:Gl X x:=by rfl) (hn:x ≠ "__name__":=by decide) (hd:(x==("__debug__" : Str))=false:=by decide)
  (hst:noStar a=true:=by rfl) (hv2:bootBuiltins "isinstance" = some (.builtin "isinstance"):=by kernel_rfl) :
  SE X (.Call (.Name "isinstance" p) [a,.Name x p2] [] pos) (Q5 n f):=
 (mm (isi_call hk) hg hm hv2 (eT ha (eT (rL (v:=.ty n) hgT hmT hv rfl hn hd) BD) (aF [.Name x p2] X.env hst)) (by decide) (by decide) (aF [.Name x p2] X.env hst) rfl).imp fun σ H Q ⟨ρ,d,er,e,q⟩=>by
  !⟨y,e1,e2⟩:=h9 e
  split at e2
  ·cases e2
  ·rename_i ho
   cases e2
   ~⟨ρ,y,er,e1,fun v H1 s1 r1=>⟨y,v,rfl,r1,by simpa using ho,q _ H1 s1 rfl⟩⟩
theorem cC{k:Nat}(hr:ua k X.A):EE X .Eq vY:=by
 intro pins s σ H x y v u Q I rx ry h
 !⟨dx,dy,b,r1,r2,e,q⟩:=h
 have sc:IT x y=true->decide (x=y)=b->wpAny (model X.prog X.w) X.A (compareOp .Eq v u) (EP X pins σ Q) X.xe s:=fun z1 z2=>Lw pins s σ H x y v u Q I rx ry ⟨z1,by rw[z2];~q⟩
 cases dx with
 | int i=>!⟨j,e1,e⟩:=t7 e;cases (show x=_ from r1);cases vI e1 r2;~sc rfl (zE.trans e)
 | str i=>!⟨j,e1,e⟩:=t7 e;cases (show x=_ from r1);cases Eh e1 r2;~sc rfl (zz.trans e)
 | bl i=>!⟨j,e1,e⟩:=t7 e;cases (show x=_ from r1);cases HU e1 r2;~sc rfl (AU.trans e)
 | _=>cases e
theorem sE{k:Nat}(hr:ua k X.A):EE X .NotEq NF:=by
 intro pins s σ H x y v u Q I rx ry h
 !⟨dx,dy,b,r1,r2,e0,q⟩:=h
 !⟨c,e,rfl⟩:=t7 e0
 clear e0
 have sc:IT x y=true->decide (x=y)=c->wpAny (model X.prog X.w) X.A (compareOp .NotEq v u) (EP X pins σ Q) X.xe s:=fun z1 z2=>O1 pins s σ H x y v u Q I rx ry ⟨z1,by rw[z2];~q⟩
 cases dx with
 | int i=>!⟨j,e1,e⟩:=t7 e;cases (show x=_ from r1);cases vI e1 r2;~sc rfl (zE.trans e)
 | str i=>!⟨j,e1,e⟩:=t7 e;cases (show x=_ from r1);cases Eh e1 r2;~sc rfl (zz.trans e)
 | bl i=>!⟨j,e1,e⟩:=t7 e;cases (show x=_ from r1);cases HU e1 r2;~sc rfl (AU.trans e)
 | _=>cases e
variable{a:Expr}{f:R->OD}{pos p2:Pos}{lo hi:Option Expr}{l h:R->Option (Option Int)}
theorem iV:SO X none Oy:=Kx.imp fun σ H Q ⟨ρ,o,er,e,q⟩=>by
 cases e
 ~q H (i6.refl H)
theorem iP(ha:SE X a f):SO X (some a) (aP f):=(KL ha).imp fun σ H Q ⟨ρ,o,er,e,q⟩=>by
 !⟨x,e1,e2⟩:=h9 e
 &⟨ρ,x,er,e1,fun v H1 s1 r1=>?_⟩
 cases x with
 | int i=>cases e2;~⟨i,r1,q H1 s1⟩
 | _=>cases e2
theorem Gi(n d:Nat)(o:Option Int):GF n d o=HT.sIx n d o:=rfl
theorem B6{prog:Program}{w:World}{A:Around}{E:Value->Shared->Prop}{s:Shared}{t sl:Addr}{items:Array Value}{vl vu:Value}{lo hi:Option Int}{Q:Value->Shared->Prop}(ht:IsTup s.heap t items)(hs:s.heap.IsSliceOf sl vl vu .none)(pl:IsPart vl lo)(pu:IsPart vu hi)
  (hw:HT.sIx items.size 0 lo=0/\HT.sIx items.size items.size hi=items.size) (h:Q (.ref t) s):wpAny (model prog w) A (getItem (.ref t) (.ref sl)) Q E s:=by
 !⟨os,hos,hcs,hds⟩:=id hs
 have hTs:s.TypeIs (.ref sl) "slice":=⟨os,hos,hcs⟩
 unfold getItem
 try with_reducible &wpAny_holding ?_
 first | &wpAny_bind (wpAny_pure ?_) | skip
 &wpAny_bind (wpAny_sequenceKey ht.typeIs (by decide) ?_)
 &wpAny_bind (wpAny_callSpecial?_slot (name:=oS "__getitem__") ht.typeIs PyProof.Rows.slot_tuple_getitem
  (wpAny_call_entry PyProof.Rows.slot_tuple_getitem ht.typeIs entry_tuple_getitem ?_ (args_tuple_getitem _ _)))
 show wpAny _ _ (Builtin.Tuple.tupleItemsOf (.ref t) >>= _) _ _ s
 &wpAny_bind (tupleItemsOf_ ht ?_)
 &wpAny_bind (wpAny_typeOf hTs ?_)
 rw[if_pos (by decide)]
 &wpAny_bind (HT.sliceApplied_gen hs pl pu ?_)
 have hyes:((((HT.sIx items.size 0 lo:Nat):Int)==0&&(1:Int)==1&&(HT.sIx items.size items.size hi - HT.sIx items.size 0 lo)==items.size)=true):=by
  rw[hw.1,hw.2];simp
 show wpAny _ _ (if (((HT.sIx items.size 0 lo:Nat):Int)==0&&(1:Int)==1&&(HT.sIx items.size items.size hi - HT.sIx items.size 0 lo)==items.size)=true then _ else _) _ _ s
 rw[if_pos hyes]
 &wpAny_bind (m:=Builtin.Tuple.tupleIsExact _) (wpAny_bind (wpAny_typeOf ht.typeIs (wpAny_pure ?_)))
 rw[if_pos (by decide)]
 ~wpAny_bind (wpAny_rule (wpAny_pure ⟨_,rfl,wpAny_pure h⟩))
theorem Fd{xs:List V}{lo hi:Option Int}(h:HT.sIx xs.length 0 lo=0/\HT.sIx xs.length xs.length hi=xs.length):AB xs lo hi=xs:=by
 unfold AB
 rw[h.1,h.2,List.drop_zero,Nat.sub_zero,List.take_length]
def PR(K:W.Frag):V->Option Int->Option Int->Hp->VK->Prop:=fun x lo hi H Q=>∃a xs,x=.ref a/\xj K H a xs/\∀p H',i6 H H'->xj K H' p (AB xs lo hi)->Q (.ref p) H'
theorem L6:Ll X (PR X.K):=by
 intro pins s σ H x v vl vu lo hi sl Q I rx hs pl pu h
 !⟨a,xs,rfl,hx,q⟩:=h
 by_cases hw:HT.sIx xs.length 0 lo=0/\HT.sIx xs.length xs.length hi=xs.length
 ·cases rx
  !⟨its,r,ht,hz⟩:=I.tuple hx
  have hlen:its.toArray.size=xs.length:=by rw[List.size_toArray];~r.length.symm
  &⟨"tuple",_,PyProof.Rows.slot_tuple_getitem.lookup,ht.typeIs,?_⟩
  ~B6 ht hs pl pu (by rw[hlen];~hw) ⟨.ref a,H,I,rfl,q a H (i6.refl H) (by rw[Fd hw];~hx)⟩
 ·~LP pins s σ H (.ref a) v vl vu lo hi sl Q I rx hs pl pu ⟨a,xs,rfl,hx,hw,fun p hp=>q p _ (bh hp _) (xj.of au)⟩
theorem oK{K:W.Frag}{H:Hp}{ds:LD}{xs:List V}(t:i5 K H ds xs)(lo hi:Option Int):i5 K H (cutD ds lo hi) (AB xs lo hi):=by
 unfold cutD AB
 rw[t.length,Gi,Gi]
 ~(t.drop _).take _
theorem gG(ha:SE X a f)(hl:SO X lo l)(hh:SO X hi h):SE X (.Subscript a (.Slice lo hi none p2) pos) (LK f l h):=(ql (L6.or J1) ha hl hh).imp fun σ H Q ⟨ρ,d,er,e,q⟩=>by
 !⟨x,e1,e⟩:=h9 e
 !⟨o1,e2,e⟩:=h9 e
 !⟨o2,e3,e⟩:=h9 e
 &⟨ρ,x,er,e1,fun v H1 s1 r1=>⟨ρ,o1,er.mono s1,e2,fun H2 s2=>⟨ρ,o2,er.mono (s1.trans s2),e3,fun H3 s3=>?_⟩⟩⟩
 cases x with
 | tup xs =>
  cases e
  !⟨a,vs,rfl,hq,t⟩:=(r1.mono (s2.trans s3))
  ~.inl ⟨a,vs,rfl,hq,fun p H4 s4 sq=>q _ H4 (s1.trans (s2.trans (s3.trans s4))) ⟨p,_,rfl,sq,(oK t o1 o2).mono s4⟩⟩
 | lst xs =>
  cases e
  !⟨a,vs,rfl,hq,t⟩:=(r1.mono (s2.trans s3))
  &.inr ⟨a,vs,rfl,wj.of hq,fun p hp=>?_⟩
  have s4:=bh hp (.lst (AB vs o1 o2))
  ~q _ _ (s1.trans (s2.trans (s3.trans s4))) ⟨p,_,rfl,au,(oK t o1 o2).mono s4⟩
 | _=>cases e
theorem lY:∀{xs:List V} {us:List Value},l6 xs us->l6 xs.reverse us.reverse
 | _,_,.nil=>.nil
 | _,_,.cons r t=>by
  rw[List.reverse_cons,List.reverse_cons]
  ~(lY t).append (.cons r .nil)
end
set_option maxHeartbeats 2000000
noncomputable def vX(names:List (Str×NameKind))(cells:List (Str×Addr))(acc:List (Str×Addr)):List (Str×Addr):=
 match names with
 | []=>acc
 | (n,k)::r=>vX r cells (if k==.free then (match cells.lookup n with | some c=>(n,c)::acc | none=>acc) else acc)
theorem zl {env:Env}:∀ (names:List (Str×NameKind)) (acc:List (Str×Addr)),(∀ p∈names,p.2=.free->∃ c,env.cells.lookup p.1=some c) ->
    (forIn names acc fun x r=>(match x with
      | (name,kind)=>if (kind==NameKind.free)=true then do
          let c <- cellOf env name
          pure (ForInStep.yield ((name,c)::r))
        else pure (ForInStep.yield r):Sem (ForInStep (List (Str×Addr)))))=(pure (vX names env.cells acc):Sem (List (Str×Addr)))
  | [],acc,_=>rfl
  | (n,k)::r,acc,h=>by
    rw[List.forIn_cons]
    cases hk:(k==NameKind.free) with
    | false =>
      have ih:=zl r acc fun p hp=>h p (List.mem_cons_of_mem _ hp)
      simp only[hk,vX,Bool.false_eq_true,if_false]
      ~ih
    | true =>
      !⟨c,hc⟩:=h (n,k) List.mem_cons_self (by simpa using hk)
      have ih:=zl r ((n,c)::acc) fun p hp=>h p (List.mem_cons_of_mem _ hp)
      have hcell:cellOf env n=pure c:=by unfold cellOf;rw[show env.cells.lookup n=some c from hc]
      simp only[hk,vX,if_true,hcell,show env.cells.lookup n=some c from hc]
      ~ih
theorem FD{scope:Scope}{env:Env}(h:∀p∈scope.names,p.2=.free->∃c,env.cells.lookup p.1=some c):closureFor scope env=pure (vX scope.names env.cells []):=by
 unfold closureFor
 have:=zl scope.names [] h
 simp only[bind_pure]
 ~this
theorem wx{β:Type}{y n:Str}{c:β}{l:List (Str×β)}:List.lookup y ((n,c)::l)=if y=n then some c else List.lookup y l:=by
 rw[List.lookup_cons]
 by_cases h:y=n
 ·subst h;simp
 ·have:(y==n)=false:=by simpa using h
  rw[this,if_neg h]
theorem AM{cells:List (Str×Addr)}:∀(names:List (Str×NameKind)) (acc:List (Str×Addr)),(∀y c,acc.lookup y=some c->cells.lookup y=some c)->∀y c,(vX names cells acc).lookup y=some c->cells.lookup y=some c
 | [],acc,h=>h
 | (n,k)::r,acc,h=>by
  unfold vX
  &AM r _ ?_
  split
  ·cases hc:cells.lookup n with
   | none=>~h
   | some c0 =>
    intro y c hy
    rw[wx] at hy
    split at hy
    ·rename_i e
     subst e
     cases hy
     ~hc
    ·~h y c hy
  ·~h
theorem CU{cells:List (Str×Addr)}{y:Str}:∀(names:List (Str×NameKind)) (acc:List (Str×Addr)),(acc.lookup y).isSome=true->((vX names cells acc).lookup y).isSome=true
 | [],acc,h=>h
 | (n,k)::r,acc,h=>by
  unfold vX
  &CU r _ ?_
  split
  ·cases hc:cells.lookup n with
   | none=>~h
   | some c0 =>
    dsimp only
    rw[wx]
    split
    ·rfl
    ·~h
  ·~h
theorem Ex{cells:List (Str×Addr)}{y:Str}{c:Addr}(hc:cells.lookup y=some c):∀(names:List (Str×NameKind)) (acc:List (Str×Addr)),(y,NameKind.free)∈names->((vX names cells acc).lookup y).isSome=true
 | (n,k)::r,acc,h=>by
  unfold vX
  rcases List.mem_cons.mp h with e | h
  ·cases e
   &CU r _ ?_
   rw[if_pos (show(NameKind.free==NameKind.free)=true by decide),hc]
   dsimp only
   rw[wx,if_pos rfl]
   rfl
  ·~Ex hc r _ h
theorem Ks{cells:List (Str×Addr)}{names:List (Str×NameKind)}{y:Str}{c:Addr}(hc:cells.lookup y=some c)(h:(y,NameKind.free)∈names):(vX names cells []).lookup y=some c:=by
 !⟨c',e⟩:=Option.isSome_iff_exists.mp (Ex hc names [] h)
 have:=AM names [] (fun y c h=>by cases h) y c' e
 rw[hc] at this
 cases this
 ~e
theorem BF{env:Env}{y:Str}:∀(names:List (Str×NameKind)),(names.map fun (n,k)=>if (k==NameKind.free&&env.scope.kind==.function&&env.kindOf n==some .cell) then (n,NameKind.cell) else (n,k)).lookup y =
  (names.lookup y).map fun k=>if (k==NameKind.free&&env.scope.kind==.function&&env.kindOf y==some .cell) then NameKind.cell else k
 | []=>rfl
 | (n,k)::r=>by
  have hd:∀(c:Bool),(if c=true then (n,NameKind.cell) else (n,k))=(n,if c=true then NameKind.cell else k):=fun c=>by cases c<;>rfl
  rw[List.map_cons]
  show List.lookup y ((if (k==NameKind.free&&env.scope.kind==.function&&env.kindOf n==some .cell)=true then (n,NameKind.cell) else (n,k))::_)=_
  rw[hd,wx,wx]
  by_cases e:y=n
  ·subst e
   rw[if_pos rfl,if_pos rfl]
   rfl
  ·rw[if_neg e,if_neg e]
   ~BF r
noncomputable def AO(sc outer:Scope)(T N:List Str):Bool:=
 sc.kind==.function&&(sc.names.all fun p=>p.2 != .cell&&(p.2 != .local||(sc.names.lookup p.1==some .local&&(T.contains p.1||p.1==(".0" : Str))))&&(p.2 != .free||outer.names.lookup p.1==some .cell||outer.names.lookup p.1==some .free)) &&
  (T.all fun t=>sc.names.lookup t==some .local)&&!N.contains (".0" : Str)
structure CZ (sc outer:Scope) (T N:List Str):Prop where
 kind:sc.kind=.function
 nocell:∀y∈sc.names,y.2≠.cell
 names:∀y∈sc.names,y.2=.local->sc.names.lookup y.1=some .local
 loc:∀y,sc.names.lookup y=some .local->y∈T\/y=(".0" : Str)
 free:∀y∈sc.names,y.2=.free->outer.names.lookup y.1=some .cell\/outer.names.lookup y.1=some .free
 tg:∀t∈T,sc.names.lookup t=some .local
 no0:(".0" : Str)∉N
theorem Cs{sc outer:Scope}{T N:List Str}(h:AO sc outer T N=true):CZ sc outer T N:=by
 unfold AO at h
 rw[Bool.and_eq_true,Bool.and_eq_true,Bool.and_eq_true] at h
 !⟨⟨⟨h1,h2⟩,h3⟩,h4⟩:=h
 rw[List.all_eq_true] at h2 h3
 have g:∀y∈sc.names,y.2≠.cell/\(y.2=.local->sc.names.lookup y.1=some .local/\(y.1∈T\/y.1=(".0" : Str)))/\(y.2=.free->outer.names.lookup y.1=some .cell\/outer.names.lookup y.1=some .free):=fun y hy=>by
  have q:=h2 y hy
  rw[Bool.and_eq_true,Bool.and_eq_true] at q
  !⟨⟨q1,q2⟩,q3⟩:=q
  &⟨by simpa using q1,fun hl=>?_,fun hf=>?_⟩
  ·rw[hl] at q2
   simpa using q2
  ·rw[hf] at q3
   simpa using q3
 &⟨by simpa using h1,fun y hy=>(g y hy).1,fun y hy hl=>((g y hy).2.1 hl).1,fun y hy=>?_,fun y hy hf=>(g y hy).2.2 hf,fun t ht=>by simpa using h3 t ht,by simpa using h4⟩
 ~((g (y,.local) (PySem.mem_of_lookup hy)).2.1 rfl).2
def B9(X:Cx)(T:List Str)(scope:Scope)(C:Addr)(fp:List Addr)(s₃:Shared)(H₃:Hp):Cx where
 prog:=X.prog
 w:=X.w
 K:=X.K
 mg:=X.mg
 base:=X.base
 A:=X.A
 N:=T++X.N
 s₀:=s₃
 H₀:=H₃
 env:=compEnvC scope (vX scope.names X.env.cells []) C X.env
 outer:=X.stack
 stack:=X.stack
 ex:=fp
 fn:=fun _=>false
 calm:=X.calm
 pn:=[]
 xe:=fun _ _=>False
section
variable{X:Cx}{pins:List (Addr×Obj)}{σ:L2.St}{H:Hp}{s:Shared}{T:List Str}{scope:Scope}{C:Addr}{fp:List Addr}{h₁:Heap}{t:Nat}
theorem IO(I:L2.Inv X pins σ H s)(ck:CZ scope X.env.scope T X.N)(hnd:(T++X.N).Nodup)(hf:∀b∈fp,zC X pins H b)(hfo:∀b∈fp,∃o,s.heap.get? b=some o)(hC:s.heap.objs.size<=C)
  (hk:∀b u,s.heap.get? b=some u->h₁.get? b=some u) (hns:h₁.Ns C (fun _=>none)) :
  L2.Inv (B9 X T scope C fp s H) [] (List.replicate T.length none++σ) H {s with heap:=h₁,toks:=t}:=by
 have hlt:∀b∈fp,b<s.heap.objs.size:=fun b hb=>let ⟨o,e⟩:=hfo b hb;Heap.lt_size e
 have hcl:∀y c,(vX scope.names X.env.cells []).lookup y=some c->X.env.cells.lookup y=some c:=AM scope.names [] fun y c h=>by cases h
 have hfr:∀y,(y,NameKind.free)∈scope.names->(X.env.kindOf y=some .cell\/X.env.kindOf y=some .free)/\∃c,(vX scope.names X.env.cells []).lookup y=some c/\X.env.cells.lookup y=some c:=fun y hy=>by
  have k:=ck.free _ hy rfl
  !⟨c,hc⟩:=I.ok.has y k
  ~⟨k,c,Ks hc hy,hc⟩
 have hkind:∀y,(compEnvC scope (vX scope.names X.env.cells []) C X.env).kindOf y=(scope.names.lookup y).map fun k=>if (k==NameKind.free&&X.env.scope.kind==.function&&X.env.kindOf y==some .cell) then NameKind.cell else k:=fun y=>BF scope.names
 have hvis:∀y,((compEnvC scope (vX scope.names X.env.cells []) C X.env).kindOf y=some .cell\/(compEnvC scope (vX scope.names X.env.cells []) C X.env).kindOf y=some .free)->(y,NameKind.free)∈scope.names:=fun y hy=>by
  rw[hkind] at hy
  cases hl:scope.names.lookup y with
  | none=>rw[hl] at hy;rcases hy with z | z<;>cases z
  | some k =>
   have hm:=PySem.mem_of_lookup hl
   rw[hl] at hy
   cases k with
   | free=>~hm
   | cell=>~absurd rfl (ck.nocell _ hm)
   | «local»=>rcases hy with z | z<;>cases z
   | globalExplicit=>rcases hy with z | z<;>cases z
   | globalImplicit=>rcases hy with z | z<;>cases z
 &⟨⟨I.ok.mod,ck.kind,I.ok.glob,I.ok.blt,hC,fun x y c h1 h2=>I.ok.inj x y c (hcl x c h1) (hcl y c h2),fun y hy=>?_,fun y c h=>absurd (show false=true from h) Bool.false_ne_true,I.ok.hd,I.ok.frames,.inl rfl,fun b hb=>⟨?_,fun x c h=>?_⟩,I.bs,
  Nat.le_trans I.ok.bsz I.sz,fun b o e hb=>?_,fun b hb hz=>?_,I.stack,I.stkFree⟩,rfl,I.bare,Un.kept hk,⟨_,hns,fun i x v h1 h2 h3=>?_⟩,fun y c h=>?_,I.hok.fresh hC,fun y c h=>I.freeC y c (hcl y c h),fun p hp=>absurd (show p∈([]:List (Addr×Obj)) from hp) (by simp),I.hok.kept hk,?_⟩
 ·!⟨_,c,h1,_⟩:=hfr y (hvis y hy)
  ~⟨c,h1⟩
 ·~Nat.ne_of_lt (Nat.lt_of_lt_of_le (hlt b hb) hC)
 ·~(hf b hb).2.2.2.2.1 x c (hcl x c h)
 ·rcases(hf b hb).2.2.2.1 with z | z
  ·~I.ok.noex b o e z
  ·~absurd (Nat.lt_of_lt_of_le (Heap.lt_size e) (Nat.le_trans I.ok.bsz z)) (Nat.lt_irrefl _)
 ·rcases List.mem_cons.mp (I.stkSub b hz) with z | z
  ·~(hf b hb).2.1 z
  ·~(hf b hb).2.2.1 z
 ·by_cases hi:i<T.length
  ·rw[List.getElem?_append_left (by simpa using hi),List.getElem?_replicate] at h2
   split at h2<;>cases h2
  ·rw[List.getElem?_append_right (by simpa using hi),List.length_replicate] at h2
   have h1':X.N[i - T.length]?=some x:=by
    have z:(T++X.N)[i]?=some x:=h1
    rw[List.getElem?_append_right (by omega)] at z
    ~z
   have hxN:x∈X.N:=List.mem_of_getElem? h1'
   have hxf:(x,NameKind.free)∈scope.names:=by
    rcases h3 with z | z | z
    ·have z':(compEnvC scope (vX scope.names X.env.cells []) C X.env).kindOf x=some .local:=z
     rw[hkind] at z'
     cases hl:scope.names.lookup x with
     | none=>rw[hl] at z';cases z'
     | some k =>
      rw[hl] at z'
      have hkl:k=.local:=by
       cases k with
       | «local»=>rfl
       | free=>simp at z';split at z'<;>cases z'
       | cell=>cases z'
       | globalExplicit=>cases z'
       | globalImplicit=>cases z'
      subst hkl
      rcases ck.loc x hl with q | q
      ·~absurd rfl ((List.nodup_append.mp hnd).2.2 x q x hxN)
      ·~absurd (q ▸ hxN) ck.no0
    ·~hvis x (.inl z)
    ·~hvis x (.inr z)
   !⟨hk2,c,hc1,hc2⟩:=hfr x hxf
   !⟨m,hm,hl⟩:=I.loc
   !⟨u,ru,lk⟩:=hl _ x v h1' h2 (hk2.elim (fun z=>.inr (.inl z)) fun z=>.inr (.inr z))
   &⟨u,ru,.inr ⟨?_,c,hc1,?_⟩⟩
   ·rcases h3 with z | z | z
    ·exfalso
     have z':(compEnvC scope (vX scope.names X.env.cells []) C X.env).kindOf x=some .local:=z
     rw[hkind] at z'
     cases hl2:scope.names.lookup x with
     | none=>rw[hl2] at z';cases z'
     | some k =>
      rw[hl2] at z'
      have hkl:k=.local:=by
       cases k with
       | «local»=>rfl
       | free=>simp at z';split at z'<;>cases z'
       | cell=>cases z'
       | globalExplicit=>cases z'
       | globalImplicit=>cases z'
      subst hkl
      rcases ck.loc x hl2 with q | q
      ·~absurd rfl ((List.nodup_append.mp hnd).2.2 x q x hxN)
      ·~absurd (q ▸ hxN) ck.no0
    ·~.inl z
    ·~.inr z
   ·rcases lk with ⟨kl,_⟩ | ⟨_,c',hc',hcell⟩
    ·rcases hk2 with z | z
     ·rw[kl] at z;cases z
     ·rw[kl] at z;cases z
    ·rw[hc2] at hc'
     cases hc'
     !⟨o,ho,hd⟩:=hcell
     ~⟨o,hk _ _ ho,hd⟩
 ·!⟨v,o,ho,hd⟩:=I.cell y c (hcl y c h)
  ~⟨v,o,hk _ _ ho,hd⟩
 ·show(List.replicate T.length none++σ).length=(T++X.N).length
  rw[List.length_append,List.length_append,List.length_replicate,I.len]
end
theorem C1 {prog:Program} {w:World} {A:Around} {R':Result->Shared->Prop} {s:Shared} {elt target iter:Expr} {ifs:List Expr} {scope:Scope} {pos:Pos} {it acc:Value} {env:Env} (I:Nat->Shared->Prop)
    (turn:∀n s,I n s->wpAny (model prog w) A (pyNext it) (fun r s₁=>match r with
      | none=>R' (.ok .next) s₁
      | some v=>wpAny (model prog w) A (letOwnedTupleGo target it v) (fun _ s₁'=>wpAny (model prog w) A (assign target env v) (fun _ s₂ =>
          wpAny (model prog w) A (forIn ifs true fun c r=>if r=true then do let ok <- isTrue c env (eval c env);pure (ForInStep.yield ok) else pure (ForInStep.yield r)) (fun ok s₃ =>
            if ok=true then wpAny (model prog w) A (eval elt env) (fun x s₄ =>
              wpAny (model prog w) A (call (.builtin "list.append") [acc,x]) (fun _ s₅=>∃m,m<n/\I m s₅) (fun _ _=>False) s₄) (fun _ _=>False) s₃
            else ∃m,m<n/\I m s₃) (fun _ _=>False) s₂) (fun _ _=>False) s₁') (fun _ _=>False) s₁) (fun _ _=>False) s)
    (n:Nat) (h:I n s):codeAny (model prog w) A (.compLoop (.ListComp elt [⟨target,iter,ifs,0⟩] scope pos) 0 it acc env) R' s:=by
  &codeAny_loop rfl I (fun n s hI=>?_) n h
  show wpAny _ A ((compTurn (.ListComp elt [⟨target,iter,ifs,0⟩] scope pos) 0 it acc env).onRaise (fun x=>do noteFrame x env;theTreesLotGoes x)) _ _ s
  &wpAny_noted ?_
  rw[compTurn_list]
  have ff:∀{E:Value->Shared->Prop} (a:Value) (s:Shared),False->E a s:=fun _ _ z=>z.elim
  &wpAny_bind (wpAny_standAt (wpAny_bind (wpAny_mono (turn n s hI) (fun r s₁ h₁=>?_) ff)))
  cases r with
  | none=>~wpAny_pure h₁
  | some v =>
    &wpAny_bind (wpAny_mono h₁ (fun _ s₁' h₁'=>?_) ff)
    &wpAny_bind (wpAny_mono h₁' (fun _ s₂ h₂=>wpAny_bind (wpAny_mono h₂ (fun ok s₃ h₃=>?_) ff)) ff)
    cases ok with
    | false=>~wpAny_pure ⟨rfl,h₃⟩
    | true =>
      ~wpAny_bind (wpAny_bind (wpAny_mono h₃ (fun x s₄ h₄=>wpAny_bind (wpAny_mono h₄ (fun _ s₅ h₅=>wpAny_pure (wpAny_pure ⟨rfl,h₅⟩)) ff)) ff))
def N9(X:Cx)(ifs:List Expr)(c:R->Option Bool):Prop:=
 ∀(pins:List (Addr×Obj)) (s:Shared) (σ:L2.St) (H:Hp) (Q:Bool->Hp->Prop),L2.Inv X pins σ H s->Pg X.K c σ H Q ->
  wpAny (model X.prog X.w) X.A (forIn ifs true fun c r=>if r=true then do let ok <- isTrue c X.env (eval c X.env);pure (ForInStep.yield ok) else pure (ForInStep.yield r)) (TP X pins σ Q) X.xe s
theorem lz{X:Cx}:N9 X [] zg:=fun pins s σ H Q I ⟨ρ,b,er,e,q⟩=>by
 cases e
 ~wpAny_tests_nil ⟨H,I,q H (i6.refl H)⟩
theorem sZ{X:Cx}{e:Expr}{c:R->Option Bool}(h:ST X e c):N9 X [e] c:=fun pins s σ H Q I q=>wpAny_tests_one (h pins s σ H Q I q)
section
variable{X:Cx}{pins:List (Addr×Obj)}{σ:L2.St}{H:Hp}{s:Shared}{T:List Str}{scope:Scope}
def GA(k:Nat)(stf:D->R->Option R):Prop:=∀(d:D) (τ ρ ρ1:R),τ.length=k->stf d (τ++ρ)=some ρ1->∃ τ',τ'.length=k/\ρ1=τ'++ρ
theorem xm{k i:Nat}(h:i<k):GA k (setAt i):=fun d τ ρ ρ1 hl e=>by
 unfold setAt at e
 split at e
 ·cases e
  ~⟨τ.set i (some d),by simp[hl],List.set_append_left _ _ (by omega)⟩
 ·cases e
theorem ut.forget{K:W.Frag}{H:Hp}{τ ρ:R}{σ:L2.St}(e:ut K H (τ++ρ) σ):ut K H (List.replicate τ.length none++ρ) σ:=by
 &⟨by have:=e.1;simpa using this,fun i d h=>?_⟩
 by_cases hi:i<τ.length
 ·rw[List.getElem?_append_left (by simpa using hi),List.getElem?_replicate] at h
  split at h<;>cases h
 ·rw[List.getElem?_append_right (by simpa using hi),List.length_replicate] at h
  ~e.2 i d (by rw[List.getElem?_append_right (by omega)];~h)
theorem Ou{a:Addr}{o:HO}(I:L2.Inv X pins σ H s)(f:zC X pins H a)(new:vv X.prog X.w (upd H a o) s.heap a o):L2.Inv X pins σ (upd H a o) s:=by
 !⟨f0,f1,f2,f3,f4,f5⟩:=f
 have ne:∀{b:Addr} {u:HO},H b=some u->b≠a:=fun e z=>by rw[z,f0] at e;cases e
 &⟨I.ok,I.os,I.bare,⟨I.base.keep,I.base.slot,fun b ob e n hx=>?_,I.base.there,fun b xs e=>?_,fun b ob u ny e=>?_,fun b ps d e=>?_⟩,I.loc,I.cell,?_,fun x c e=>?_,fun p hp=>?_,fun b u e=>?_,I.len⟩
 ·have hb:b≠a:=fun z=>by
   rcases f3 with q | q
   ·~hx (z ▸ q)
   ·~absurd (Nat.lt_of_lt_of_le (Heap.lt_size e) (z ▸ q)) (Nat.lt_irrefl _)
  rw[aq hb]
  ~I.base.free b ob e n hx
 ·have q:=I.base.tups b xs e
  rw[aq (ne q)]
  ~q
 ·have q:=I.base.frzs b ob u ny e
  rw[aq (ne q)]
  ~q
 ·have q:=I.base.tbls b ps d e
  rw[aq (ne q)]
  ~q
 ·rw[aq (Ne.symm f1)]
  ~I.free
 ·rw[aq (f4 x c e)]
  ~I.freeC x c e
 ·!⟨q1,q2,q3⟩:=I.pin p hp
  ~⟨q1,by rw[aq (f5 p hp)];~q2,q3⟩
 ·by_cases hb:b=a
  ·subst hb
   rw[au] at e
   cases e
   ~new
  ·rw[aq hb] at e
   &(I.hok b u e).stay (fun _ _ _ q=>q) (fun c q=>?_) (fun c xs q=>?_) fun c _ _ q=>?_
   ·rw[aq (ne q)];~q
   ·rw[aq (ne q)];~q
   ·rw[aq (ne q)];~q
theorem Lr{C:Addr}{fp:List Addr}{s₃:Shared}{H₃ H':Hp}{b:Addr}{pl:List (Addr×Obj)}(hb:b∈fp\/s₃.heap.objs.size<=b)(hC:b≠C)(hfs:b∉xt X.stack)(hcells:∀x c,(vX scope.names X.env.cells []).lookup x=some c->c≠b)(hn:H' b=none)(hp:∀p∈pl,p.1≠b) :
  zC (B9 X T scope C fp s₃ H₃) pl H' b:=⟨hn,hC,hfs,hb,hcells,fun p hp'=>hp p hp'⟩
theorem mJ{elt iter tg:Expr}{ifs:List Expr}{pos:Pos}{it:Addr}{fp:List Addr}{tn:Nat->Heap->Prop}{J:It}{E:Value->Shared->Prop}{ρ:R}{ds out:LD}{stf:D->R->Option R}{cf:R->Option Bool}{ef:R->OD}
  (I:L2.Inv X pins σ H s) (hc:X.calm=true) (Tn:Turn X.prog X.w X.K tg J fp it tn) (st:tn 0 s.heap) (hf:∀b∈fp,zC X pins H b)
  (ck:CZ scope X.env.scope T X.N) (hnd:(T++X.N).Nodup) (hst:GA T.length stf) (er:ut X.K H ρ σ) (y:w_ X.K J ds H) (hz:ds.length<=sizeLine) (hout:vB stf cf ef ds (List.replicate T.length none++ρ)=some out)
  (hg:∀C s₃ H₃ fp,SG (B9 X T scope C fp s₃ H₃) tg stf) (hcnd:∀C s₃ H₃ fp,N9 (B9 X T scope C fp s₃ H₃) ifs cf) (he:∀C s₃ H₃ fp,SE (B9 X T scope C fp s₃ H₃) elt ef)
  {RR:Value->Addr->Result->Shared->Prop}
  (hRR:∀(a C:Addr) (H':Hp) (s':Shared) (vs:List V),i6 H H'->H' a=some (.lst vs)->i5 X.K H' out vs->L2.Inv X pins σ H' s'->zC X pins H' C->(∃m,s'.heap.Ns C m)->RR (.ref a) C (.ok .next) s') :
  wpAny (model X.prog X.w) X.A (newList []) (fun acc s₃=>wpAny (model X.prog X.w) X.A (newFunctionEnv scope X.env.globals (vX scope.names X.env.cells []) [] X.env.qual none .none (some X.env)) (fun cenv s₄ =>
   codeAny (model X.prog X.w) X.A (.compStart (.ListComp elt [⟨tg,iter,ifs,0⟩] scope pos) 0 (.ref it) acc {cenv with scope:=relabel scope X.env}) (RR acc cenv.locals) s₄) E s₃) E s:=by
 &wpAny_newObj_type (wpAny_newFunctionEnv ck.nocell (by intro y hy;simp at hy) (fun h₁ hns₁ hsb₁=>?_) ck.kind)
 dsimp only at hns₁ hsb₁ ⊢
 generalize hH2:s.heap.push {cls:=.type "list",dict:=none,data:=.seq ([]:List Value).toArray}=H2 at hns₁ hsb₁ ⊢
 generalize ha:s.heap.objs.size=a at *
 generalize hCe:H2.objs.size=C at hns₁ hsb₁ ⊢
 have hC:C=a+1:=by rw[<- hCe,<- hH2,Heap.size_push,ha]
 have haC':a<C:=by rw[hC];~Nat.lt_succ_self a
 have haC:a≠C:=Nat.ne_of_lt haC'
 have hle:s.heap.objs.size<=a:=Nat.le_of_eq ha
 have hCle:s.heap.objs.size<=C:=Nat.le_trans hle (Nat.le_of_lt haC')
 have hlta:∀{b:Addr} {o:Obj},s.heap.get? b=some o->b<a:=fun e=>Nat.lt_of_lt_of_le (Heap.lt_size e) hle
 have old:∀b o,s.heap.get? b=some o->h₁.get? b=some o:=fun b o e=>hsb₁.extBut b o (Nat.ne_of_lt (Nat.lt_trans (hlta e) haC')) (Heap.get?_push_of_some _ (hH2 ▸ Heap.get?_push_of_some _ e))
 have hacc:h₁.get? a=some {cls:=.type "list",data:=.seq ([]:List Value).toArray}:=hsb₁.extBut _ _ haC (Heap.get?_push_of_some _ (hH2 ▸ (ha ▸ Heap.get?_push_size _ rfl)))
 have hfo:∀b∈fp,∃o,s.heap.get? b=some o:=fun b hb=>let ⟨o,e,_⟩:=Tn.obj 0 _ st b hb;⟨o,e⟩
 have hlt:∀b∈fp,b<a:=fun b hb=>let ⟨o,e⟩:=hfo b hb;hlta e
 have hns:h₁.Ns C (fun _=>none):=hns₁
 have I0:L2.Inv (B9 X T scope C fp s H) [] (List.replicate T.length none++σ) H {s with heap:=h₁,toks:=s.toks+([]:List (Str×Value)).length}:=IO I ck hnd hf hfo hCle old hns
 have hcl:∀y c,(vX scope.names X.env.cells []).lookup y=some c->X.env.cells.lookup y=some c:=AM scope.names [] fun y c h=>by cases h
 have hfs:∀b,a<=b->b∉xt X.stack:=fun b hb hz=>by
  rcases List.mem_cons.mp (I.stkSub b hz) with z | z
  ·~absurd (Nat.lt_of_lt_of_le I.lt (Nat.le_trans hle (z ▸ hb))) (Nat.lt_irrefl _)
  ·~I.nofs (Nat.le_trans hle hb) z
 have hcells:∀b,a<=b->∀x c,(vX scope.names X.env.cells []).lookup x=some c->c≠b:=fun b hb x c h z=>by
  !⟨v,q⟩:=I.cell x c (hcl x c h)
  ~absurd (Nat.lt_of_lt_of_le q.lt (Nat.le_trans hle (z ▸ hb))) (Nat.lt_irrefl _)
 have hfpok:∀{H':Hp} {pl:List (Addr×Obj)},(∀b∈fp,H' b=none)->(∀p∈pl,p.1∉fp)->∀b∈fp,zC (B9 X T scope C fp s H) pl H' b:=fun {H' pl} hn hp b hb =>
  Lr (.inl hb) (Nat.ne_of_lt (Nat.lt_trans (hlt b hb) haC')) (I0.ok.exfs b hb) (fun x c h=>(I0.ok.exf b hb).2 x c h) (hn b hb) fun p hp' z=>hp p hp' (z ▸ hb)
 have hAok:∀{H':Hp},H' a=none->∀b ∈ [a],zC (B9 X T scope C fp s H) [] H' b:=fun {H'} hn b hb=>by
  cases List.mem_singleton.mp hb
  ~Lr (.inr hle) haC (hfs a (Nat.le_refl _)) (hcells a (Nat.le_refl _)) hn fun p hp=>absurd hp (by simp)
 have hAfp:a∉fp:=fun z=>Nat.lt_irrefl _ (hlt a z)
 have loop:codeAny (model X.prog X.w) X.A (.compLoop (.ListComp elt [⟨tg,iter,ifs,0⟩] scope pos) 0 (.ref it) (.ref a) (compEnvC scope (vX scope.names X.env.cells []) C X.env))
   (RR (.ref a) C) {s with heap:=h₁,toks:=s.toks+([]:List (Str×Value)).length}:=by
  &C1 (fun n s'=>∃i σ' H' vs its k done rest,n=ds.length - i/\i<=ds.length/\L2.Inv (B9 X T scope C fp s H) [] σ' H' s'/\tn i s'.heap/\(∀b∈fp,H' b=none)/\H' a=none/\i6 H H' /\
   s'.heap.get? a=some {cls:=.type "list",data:=.seq (its:List Value).toArray k}/\l6 vs its/\i5 X.K H' done vs/\vs.length<=i/\ut X.K H' (List.replicate T.length none++ρ) σ' /\
   vB stf cf ef (ds.drop i) (List.replicate T.length none++ρ)=some rest/\out=done++rest) ?_ ds.length
   ⟨0,_,H,[],[],0,[],out,by omega,Nat.zero_le _,I0,Tn.keep _ _ _ st (fun b hb o e=>old b o e),fun b hb=>(hf b hb).1,I.hok.fresh hle,i6.refl H,hacc,.nil,rfl,Nat.zero_le _,er.front T.length (List.replicate T.length none) (by simp),by simpa using hout,rfl⟩
  rintro n s' ⟨i,σ',H',vs,its,k,done,rest,rfl,hi,I',st',hn',hna,sm,ho,hv,hrd,hvl,er',hrest,hsum⟩
  have Ip:=I'.pinned (fp:=[a]) (hAok hna) fun b hb=>by
   cases List.mem_singleton.mp hb
   ~⟨_,ho,fun v z=>by cases z⟩
  generalize hP:([]:List (Addr×Obj))++y_ [a] s'.heap=P at Ip
  have hPm:(a,({cls:=.type "list",data:=.seq its.toArray k}:Obj))∈P:=by rw[<- hP];~List.mem_append_right _ (dz (by simp) ho)
  have hPa:∀p∈P,p.1∉fp:=fun p hp z=>by
   rw[<- hP] at hp
   !⟨q,_⟩:=CS hp
   rw[List.mem_singleton.mp q] at z
   ~hAfp z
  by_cases hlt':i<ds.length
  ·have hd:ds[i]?=some ds[i]:=by simp[hlt']
   !⟨hgo,hy⟩:=y.1 i ds[i] H' (Kp.of sm) hd
   rw[List.drop_eq_getElem_cons hlt'] at hrest
   !⟨ρ1,e1,hrest⟩:=h9 hrest
   !⟨b,e2,hrest⟩:=h9 hrest
   !⟨o,e3,hrest⟩:=h9 hrest
   !⟨rest',e4,e5⟩:=t7 hrest
   !⟨τ,hτ,hρ1⟩:=hst ds[i] (List.replicate T.length none) ρ ρ1 (by simp) e1
   &uo (Tn.item (B9 X T scope C fp s H) rfl rfl rfl hc i P s' σ' H' (fun _ _=>False) Ip (hfpok hn' hPa) st' hgo) fun r s1 ⟨u,hr,h4⟩=>?_
   subst hr
   &uo h4 fun _ s2 ⟨x,H2',I2,r2,y2,st2,fr2⟩=>?_
   !⟨s12,rx⟩:=hy x H2' y2
   have I3:=I2.pinned (fp:=fp) (hfpok fr2 hPa) (Tn.obj _ _ st2)
   &uo (hg C s H fp _ s2 σ' H2' x u (fun σ3 H3=>i6 H2' H3/\ut X.K H3 ρ1 σ3) I3 r2 ⟨_,_,ds[i],ρ1,(er'.mono s12).t,rx,e1,fun σ3 H3 s3 er3=>⟨s3,er3.1⟩⟩) fun _ s3 ⟨σ3,H3,I4,s23,er3⟩=>?_
   &uo (hcnd C s H fp _ s3 σ3 H3 (fun b' H4=>b'=b/\i6 H3 H4) I4 ⟨ρ1,b,er3,e2,fun H4 s4=>⟨rfl,s4⟩⟩) fun b' s4 ⟨H4,I5,hb',s34⟩=>?_
   subst hb'
   have fin:∀{H5:Hp} {s5:Shared},L2.Inv (B9 X T scope C fp s H) (P++y_ fp s2.heap) σ3 H5 s5->(∀b∈fp,H5 b=none)/\H5 a=none/\s5.heap.get? a=some {cls:=.type "list",data:=.seq its.toArray k}/\(∀b∈fp,∀o,s2.heap.get? b=some o->s5.heap.get? b=some o):=fun {H5 s5} I6=>by
    &⟨fun b hb=>?_,(I6.pin _ (List.mem_append_right _ (List.mem_append_left _ hPm))).2.1,(I6.pin _ (List.mem_append_right _ (List.mem_append_left _ hPm))).1,fun b hb o e=>(I6.pin (b,o) (List.mem_append_right _ (List.mem_append_right _ (dz hb e)))).1⟩
    !⟨o,e,_⟩:=Tn.obj _ _ st2 b hb
    ~(I6.pin (b,o) (List.mem_append_right _ (List.mem_append_right _ (dz hb e)))).2.1
   have unpin:∀{H5:Hp} {s5:Shared},L2.Inv (B9 X T scope C fp s H) (P++y_ fp s2.heap) σ3 H5 s5->L2.Inv (B9 X T scope C fp s H) [] σ3 H5 s5:=fun I6=>I6.pins_of fun p hp=>absurd hp (by simp)
   have erb:∀{H5:Hp},i6 H3 H5->ut X.K H5 (List.replicate T.length none++ρ) σ3:=fun s5=>by
    have z:=er3.mono s5
    rw[hρ1] at z
    have z2:=z.forget
    rw[hτ] at z2
    ~z2
   cases b' with
   | false =>
    cases e3
    rw[if_neg Bool.false_ne_true]
    !⟨q1,q2,q3,q4⟩:=fin I5
    have sm4:i6 H H4:=sm.trans (s12.trans (s23.trans s34))
    have smr:i6 H' H4:=s12.trans (s23.trans s34)
    ~⟨ds.length - (i+1),by omega,i+1,σ3,H4,vs,its,k,done,rest',rfl,hlt',unpin I5,Tn.keep _ _ _ st2 q4,q1,q2,sm4,q3,hv,hrd.mono smr,Nat.le_succ_of_le hvl,erb s34,e4,by rw[hsum,<- e5]⟩
   | true =>
    rw[if_pos rfl] at e3 ⊢
    !⟨yv,e6,e7⟩:=t7 e3
    subst e7
    &uo (he C s H fp _ s4 σ3 H4 (fun v H5=>i6 H4 H5/\Rep X.K H5 yv v) I5 ⟨ρ1,yv,er3.mono s34,e6,fun v H5 s5 r5=>⟨s5,r5⟩⟩) fun xv s5 ⟨v,H5,I6,rv,s45,ry⟩=>?_
    !⟨q1,q2,q3,q4⟩:=fin I6
    have hl:=hv.length
    &call_meets F.slot_list_append ⟨_,q3,rfl⟩ F.entry_list_append (F.args_list_append_2 _ _) (PySem.list_append a its.toArray k xv (by rw[List.size_toArray];omega)) ⟨q3,?_⟩
    have q:=PySem.IsL.update q3 (fun xs=>xs.push xv)
    have sm5:i6 H H5:=sm.trans (s12.trans (s23.trans (s34.trans s45)))
    have smr:i6 H' H5:=s12.trans (s23.trans (s34.trans s45))
    have I7:L2.Inv (B9 X T scope C fp s H) [] σ3 H5 {s5 with heap:=s5.heap.update a (Obj.mapSeq fun xs=>xs.push xv),toks:=s5.toks}:=
     (unpin I6).turned (it:=a) (t':=s5.toks) (fun b ob hb hu=>(Heap.get?_update_other s5.heap _ (Ne.symm hb)).trans hu) q2 haC (.inr hle) (hcells a (Nat.le_refl _)) fun p hp=>absurd (show p∈([]:List (Addr×Obj)) from hp) (by simp)
    &⟨ds.length - (i+1),by omega,i+1,σ3,H5,vs++[v],its++[xv],(if (its.toArray.push xv).size==its.toArray.size then k else k+1),done++[yv],rest',rfl,hlt',I7,Tn.keep _ _ _ st2 fun b hb ob e=>?_,q1,q2,sm5,?_,hv.append (.cons rv .nil),(hrd.mono smr).append (i5.one ry),by simp;omega,erb (s34.trans s45),e4,by rw[hsum,<- e5];simp⟩
    ·have hne:b≠a:=fun z=>hAfp (z ▸ hb)
     ~(Heap.get?_update_other s5.heap _ (Ne.symm hne)).trans (q4 b hb ob e)
    ·have z:its.toArray.push xv=(its++[xv]).toArray:=by simp
     rw[<- z]
     ~q
  ·have ei:i=ds.length:=by omega
   subst ei
   rw[List.drop_length] at hrest
   cases hrest
   rw[List.append_nil] at hsum
   subst hsum
   &uo (Tn.done (B9 X T scope C fp s H) rfl rfl rfl hc ds.length P s' σ' H' (fun _ _=>False) Ip (hfpok hn' hPa) st' (y.2 _ H' (Kp.of sm) (Nat.le_refl _))) fun r s1 ⟨hr,I1⟩=>?_
   subst hr
   have ho1:=(I1.pin _ (List.mem_append_right _ hPm)).1
   have IX:L2.Inv X pins σ H' s1:=I.call' (ch:=fp) I1.os I1.base I1.hok I1.bare fun b hb=>⟨(hf b hb).2.2.2.1,(hf b hb).2.1,(hf b hb).2.2.2.2.1,(hf b hb).2.2.2.2.2⟩
   have fA:zC X pins H' a:=I.fpOk hle hna
   have s2:=bh hna (.lst vs)
   &hRR a C (upd H' a (.lst vs)) s1 vs (sm.trans s2) au (hrd.mono s2) (Ou IX fA ⟨Nat.le_trans hvl hz,its,k,hv,ho1⟩) (I.fpOk hCle ?_) (let ⟨m,q,_⟩:=I1.loc;⟨m,q⟩)
   rw[aq (Ne.symm haC)]
   ~I1.free
 ~codeAny_compStart_list loop (Tn.self _ _ _ _ _ (Tn.keep _ _ _ st fun b hb o e=>old b o e) loop)
variable{elt iter tg:Expr}{ifs:List Expr}{pos p2:Pos}{itf:R->Option LD}{stf:D->R->Option R}{cf:R->Option Bool}{ef:R->OD}
theorem kB(I:L2.Inv X pins σ H s)(ck:CZ scope X.env.scope T X.N):closureFor scope X.env=pure (vX scope.names X.env.cells []):=FD fun p hp hf=>I.ok.has p.1 (ck.free p hp hf)
theorem oJ(hc:X.calm=true)(hi:SI X tg iter itf)(hg:∀C s₃ H₃ fp,SG (B9 X T scope C fp s₃ H₃) tg stf)(hcnd:∀C s₃ H₃ fp,N9 (B9 X T scope C fp s₃ H₃) ifs cf)(he:∀C s₃ H₃ fp,SE (B9 X T scope C fp s₃ H₃) elt ef)
  (hst:GA T.length stf) (hnd:(T++X.N).Nodup) (ck:AO scope X.env.scope T X.N=true:=by rfl) (hs:∀x,foldedSetIterable iter X.env x=pure x:=by intro _;rfl) :
  SE X (.ListComp elt [⟨tg,iter,ifs,0⟩] scope pos) (Ek T.length itf stf cf ef):=by
 intro pins s σ H Q I hw
 !⟨ρ,d,er,e,q⟩:=hw
 !⟨ds,e1,e⟩:=h9 e
 have ck':=Cs ck
 split at e
 ·rename_i hz
  !⟨out,e2,e3⟩:=t7 e
  subst e3
  rw[eval_ListComp]
  &wpAny_comprehension_free (use:=none) rfl hs (kB I ck') ck'.kind ck'.names ?_
  &uo (hi pins s σ H (fun J H'=>i6 H H'/\w_ X.K J ds H') I ⟨ρ,ds,er,e1,fun J H' s1 y=>⟨s1,y⟩⟩) fun v s1 h1=>uo h1 fun itv s2 h2=>?_
  !⟨it,fp,tn,J,H',ei,I2,Tn,st,hf,s12,y⟩:=h2
  subst ei
  &mJ (RR:=fun acc C=>compPost (model X.prog X.w) X.A X.xe none (EP X pins σ Q) acc C) I2 hc Tn st hf ck' hnd hst (er.mono s12) y hz e2 hg hcnd he ?_
  intro a C H3 s' vs sm ha hr I3 fC hns
  !⟨m,hm⟩:=hns
  &⟨m,hm,fun h' hsb=>⟨.ref a,H3,?_,rfl,q _ H3 (s12.trans sm) ⟨a,vs,rfl,ha,hr⟩⟩⟩
  !⟨f0,f1,f2,f3,f4,f5⟩:=fC
  ~I3.turned (it:=C) (t':=s'.toks) (fun b o hb eb=>(hsb.2 b hb).trans eb) f0 f1 f3 f4 f5
 ·cases e
theorem rH{i:Nat}{x:Str}{py:Pos}{spos:Pos}(hc:X.calm=true)(hN:X.N.Nodup)(hi:SI X tg iter itf)(hg:∀C s₃ H₃ fp,SG (B9 X T scope C fp s₃ H₃) tg stf)(hcnd:∀C s₃ H₃ fp,N9 (B9 X T scope C fp s₃ H₃) ifs cf)(he:∀C s₃ H₃ fp,SE (B9 X T scope C fp s₃ H₃) elt ef)
  (hst:GA T.length stf) (hnd:(T++X.N).Nodup) (hix:X.N[i]?=some x:=by rfl) (hx:Loc X.env.scope x:=by first | ~Or.inl rfl | ~Or.inr rfl) (hfn:X.fn x=true\/X.env.scope.names.lookup x=some .local:=by first | ~.inl rfl | ~.inr rfl)
  (ck:AO scope X.env.scope T X.N=true:=by rfl) (hsw:swapsWith (.ListComp elt [⟨tg,iter,ifs,0⟩] scope pos) (some (.Name x py)) spos.line X.env=pure true:=by rfl) (hs:∀x,foldedSetIterable iter X.env x=pure x:=by intro _;rfl) :
  S1 X (.Assign [.Name x py] (.ListComp elt [⟨tg,iter,ifs,0⟩] scope pos) spos) (l3 (Ek T.length itf stf cf ef) (setAt i)):=by
 intro pins s σ H E I hw
 !⟨ρ,τ,o,er,e,q⟩:=hw
 !⟨d,e0,e⟩:=h9 e
 !⟨ρ',e9,e⟩:=t7 e
 subst e
 unfold setAt at e9
 split at e9
 case isFalse=>cases e9
 case isTrue hlt =>
 cases e9
 !⟨ds,e1,e⟩:=h9 e0
 have ck':=Cs ck
 split at e
 ·rename_i hz
  !⟨out,e2,e3⟩:=t7 e
  subst e3
  rw[exec_Assign_Name_used _ _ _ _ hsw]
  &wpAny_bind (wpAny_standAt (wpAny_bind ?_))
  show wpAny _ X.A (do let _ <- comprehension (.ListComp elt [⟨tg,iter,ifs,0⟩] scope pos) scope X.env _ (newList []) false (eval iter X.env) (some (assign (.Name x py) X.env))) _ _ s
  &wpAny_bind (wpAny_mono (wpAny_comprehension_free (use:=some (assign (.Name x py) X.env)) (Q:=fun _ s'=>SP X pins E .next s') rfl hs (kB I ck') ck'.kind ck'.names ?_) (fun _ s' hq=>wpAny_pure (wpAny_pure hq)) fun _ _ z=>z)
  &uo (hi pins s σ H (fun J H'=>i6 H H'/\w_ X.K J ds H') I ⟨ρ,ds,er.1,e1,fun J H' s1 y=>⟨s1,y⟩⟩) fun v s1 h1=>uo h1 fun itv s2 h2=>?_
  !⟨it,fp,tn,J,H',ei,I2,Tn,st,hf,s12,y⟩:=h2
  subst ei
  &mJ (RR:=fun acc C=>compPost (model X.prog X.w) X.A X.xe (some (assign (.Name x py) X.env)) (fun _ s'=>SP X pins E .next s') acc C) I2 hc Tn st hf ck' hnd hst (er.1.mono s12) y hz e2 hg hcnd he ?_
  intro a C H3 s' vs sm ha hr I3 fC hns
  !⟨m,hm⟩:=hns
  !⟨f0,f1,f2,f3,f4,f5⟩:=fC
  show wpAny _ X.A (assign (.Name x py) X.env (.ref a)) _ _ _
  &wpAny_assign_Name (Ce (v:=.ref a) I3 hN hix hx rfl (fun s'' I4 ⟨b,hsb,hb⟩=>?_) hfn)
  have hCb:C≠b:=by
   rcases hb with z | z
   ·~z ▸ f1
   ·~Ne.symm (f4 x b z)
  &⟨m,hm.sameBut hsb hCb,fun h' hsb2=>⟨σ.set i (some (.ref a)),H3,I4.turned (it:=C) (t':=s''.toks) (fun b o hb eb=>(hsb2.2 b hb).trans eb) f0 f1 f3 f4 f5,q H3 (s12.trans sm) _ ?_⟩⟩
  ~(er.mono (s12.trans sm)).set hlt ⟨a,vs,rfl,ha,hr⟩
 ·cases e
end
end HW
namespace HW
open PySem
mutual
def toPy:D->PyData
 | .non=>.none
 | .bl b=>.bool b
 | .int i=>.int i
 | .str x=>.str x
 | .tup xs=>.tuple (wy xs)
 | .lst xs=>.list (wy xs)
 | .fro xs=>.list (wy xs)
 | .obj ..=>.dict []
 | .rf ..=>.dict []
def wy:LD->List PyData
 | []=>[]
 | d::ds=>toPy d::wy ds
end
end HW
set_option maxHeartbeats 1000000
namespace HW
open PySem PySem.Spec PyProof.Rows L2
section
variable{X:Cx}
theorem ints2{K:W.Frag}{H:Hp}{i j:Int}{xs:List V}(r:i5 K H [.int i,.int j] xs):xs=[.int i,.int j]:=by
 !⟨v,r',rfl,r1,w,r'',rfl,r2,r3⟩:=r
 cases (show v=_ from r1)
 cases (show w=_ from r2)
 cases (show r''=[] from r3)
 rfl
theorem jw(hc:X.calm=true):M1 X (.builtin "max") Fz:=(pJ hc).imp fun xs H Q ⟨ds,d,r,e,q⟩=>by
 match ds,e with
 | [.int i,.int j],e =>
  cases e
  ~⟨i,j,ints2 r,q _ H (i6.refl H) rfl⟩
theorem s_:M1 X (.type "int") OP:=Hj.imp fun xs H Q ⟨ds,d,r,e,q⟩=>by
 match ds,e with
 | [.int i],e =>
  cases e
  !⟨v,r',rfl,r1,r2⟩:=r
  cases (show v=_ from r1)
  cases (show r'=[] from r2)
  ~.inl ⟨i,rfl,q _ H (i6.refl H) rfl⟩
 | [.bl b],e =>
  cases e
  !⟨v,r',rfl,r1,r2⟩:=r
  cases (show v=_ from r1)
  cases (show r'=[] from r2)
  ~.inr ⟨b,rfl,q _ H (i6.refl H) rfl⟩
mutual
theorem x4{pins:List (Addr×Obj)}{σ:L2.St}{H:Hp}{s:Shared}(I:L2.Inv X pins σ H s):∀{d:D} {v:V} {u:Value},uC d=true->Rep X.K H d v->RelV v u->∃as,Reads s.heap u (toPy d) as
 | .non,v,u,hn,h,r=>by
  cases (show v=_ from h)
  cases (show u=_ from r)
  ~⟨_,.none⟩
 | .bl b,v,u,hn,h,r=>by
  cases (show v=_ from h)
  cases (show u=_ from r)
  ~⟨_,.bool b⟩
 | .int i,v,u,hn,h,r=>by
  cases (show v=_ from h)
  !⟨t,rfl⟩:=r
  ~⟨_,.int i t⟩
 | .str x,v,u,hn,h,r=>by
  cases (show v=_ from h)
  !⟨t,rfl⟩:=r
  ~⟨_,.str x t⟩
 | .tup ds,v,u,hn,h,r=>by
  !⟨a,xs,rfl,q,t⟩:=h
  cases (show u=_ from r)
  !⟨its,rv,⟨o,e,c,n,dd⟩,_⟩:=I.tuple q
  !⟨as,ra⟩:=yG I hn t rv
  ~⟨_,.tuple e c dd (by simpa using ra)⟩
 | .lst ds,v,u,hn,h,r=>by
  !⟨a,xs,rfl,q,t⟩:=h
  cases (show u=_ from r)
  !⟨its,rv,⟨o,n,e,c,_,dd⟩,_⟩:=I.list (wj.of q)
  !⟨as,ra⟩:=yG I hn t rv
  ~⟨_,.list e c dd (by simpa using ra)⟩
 | .fro ds,v,u,hn,h,r=>by
  !⟨a,xs,rfl,q,t⟩:=h
  cases (show u=_ from r)
  !⟨its,rv,⟨o,n,e,c,_,dd⟩,_⟩:=I.list q
  !⟨as,ra⟩:=yG I hn t rv
  ~⟨_,.list e c dd (by simpa using ra)⟩
 | .obj ..,v,u,hn,h,r=>by cases hn
 | .rf ..,v,u,hn,h,r=>by cases hn
theorem yG{pins:List (Addr×Obj)}{σ:L2.St}{H:Hp}{s:Shared}(I:L2.Inv X pins σ H s):∀{ds:LD} {vs:List V} {us:List Value},n5 ds=true->i5 X.K H ds vs->l6 vs us->∃as,ReadsAll s.heap us (wy ds) as
 | [],vs,us,hn,h,r=>by
  cases (show vs=[] from h)
  cases r
  ~⟨_,.nil⟩
 | d::ds,vs,us,hn,h,r=>by
  have hn':(uC d&&n5 ds)=true:=hn
  rw[Bool.and_eq_true] at hn'
  !⟨v,vr,rfl,h1,h2⟩:=h
  cases r with
  | cons r1 r2 =>
   !⟨as,q1⟩:=x4 I hn'.1 h1 r1
   !⟨bs,q2⟩:=yG I hn'.2 h2 r2
   ~⟨_,.cons q1 q2⟩
end
end
noncomputable def xW(a:Addr)(xs:List V):HO:=.ext fun h=>xs.length<=sizeLine/\∃(its:List Value) (n:Nat),l6 xs its/\h.get? a=some {cls:=.type "list",data:=.seq its.toArray n}
section
variable{X:Cx}{pins:List (Addr×Obj)}{σ:L2.St}{H:Hp}{s:Shared}{a:Addr}{xs:List V}
theorem oH(I:L2.Inv X pins σ H s)(h:H a=some (xW a xs)):xs.length<=sizeLine/\∃(its:List Value) (n:Nat),l6 xs its/\s.heap.get? a=some {cls:=.type "list",data:=.seq its.toArray n}:=(I.hok a _ h).1
theorem E6(I:L2.Inv X pins σ H s)(h:H a=some (.lst xs)):L2.Inv X pins σ (upd H a (xW a xs)) s:=by
 !⟨z,its,n,r,e⟩:=I.hok a _ h
 have:=I.write (t':=s.toks) (h':=s.heap) (o:=xW a xs) (x:=a) (e:=a) (by rw[h];trivial) (.inl rfl) (fun _ _ _ q=>q) ⟨_,e⟩ ⟨⟨z,its,n,r,e⟩,⟨_,e⟩,fun h1 h2 ⟨z,its,n,r,e⟩ k=>⟨z,its,n,r,k _ e⟩⟩
 ~this
theorem IE(I:L2.Inv X pins σ H s)(h:H a=some (xW a xs)):L2.Inv X pins σ (upd H a (.lst xs)) s:=by
 !⟨z,its,n,r,e⟩:=oH I h
 have:=I.write (t':=s.toks) (h':=s.heap) (o:=.lst xs) (x:=a) (e:=a) (by rw[h];trivial) (.inl rfl) (fun _ _ _ q=>q) ⟨_,e⟩ ⟨z,its,n,r,e⟩
 ~this
def xk(a:Addr)(H H':Hp):Prop:=∀b u,b≠a->H b=some u->H' b=some u
theorem xk.of{H H':Hp}(h:i6 H H'):xk a H H':=fun b u _ e=>h b u e
theorem xk.trans{H H1 H2:Hp}(h:xk a H H1)(h':xk a H1 H2):xk a H H2:=fun b u n e=>h' b u n (h b u n e)
theorem xk.upd{o:HO}:xk a H (upd H a o):=fun b u n e=>by rw[aq n];~e
theorem xk.kp{H H':Hp}(h:xk a H H')(ho:H a=some (xW a xs)):Kp H H':=fun b u e n=>by
 by_cases hb:b=a
 ·subst hb
  rw[ho] at e
  cases e
  ~absurd rfl (n _)
 ·~h b u hb e
end
section
variable(K:W.Frag)
def QF(u:R->LD->Option (Out×LD)):TS:=fun E σ H=>∃ ρ τ a ds xs o ds',uq K H ρ (some (.ref a)::τ) σ/\H a=some (xW a xs)/\i5 K H ds xs/\u ρ ds=some (o,ds') /\
 ∀H' xs',xk a H H'->H' a=some (xW a xs')->i5 K H' ds' xs'->fin K E (some (.ref a)::τ) o H'
def RH(u:R->LD->Option Out):TS:=fun E σ H=>∃ ρ τ a ds xs o,uq K H ρ (some (.ref a)::τ) σ/\H a=some (xW a xs)/\i5 K H ds xs/\u ρ ds=some o/\∀H',xk a H H'->fin K E τ o H'
end
def OS(X:Cx)(st:Stmt)(u:R->LD->Option (Out×LD)):Prop:=PS X st (QF X.K u)
def Lb(X:Cx)(sts:List Stmt)(u:R->LD->Option (Out×LD)):Prop:=PSs X sts (QF X.K u)
def OB(X:Cx)(sts:List Stmt)(u:R->LD->Option Out):Prop:=PSs X sts (RH X.K u)
section
variable{X:Cx}{st:Stmt}{sts:List Stmt}{u:R->Option Out}{p q:R->LD->Option (Out×LD)}{pos:Pos}
theorem Gn{E:Ends}{σ:L2.St}{H:Hp}{K:W.Frag}(h:QF K (zX u) E σ H):Lv K u E σ H:=by
 !⟨ρ,τ,a,ds,xs,o,ds',er,ho,rp,e,q⟩:=h
 !⟨o1,e1,e2⟩:=t7 e
 cases e2
 ~⟨ρ,_,o,er,e1,fun H' s=>q H' xs (xk.of s) (s _ _ ho) (rp.mono s)⟩
theorem sj(h:S1 X st u):OS X st (zX u):=PS.imp h fun E σ H z=>Gn z
theorem q_(h:SS X sts u):Lb X sts (zX u):=PSs.imp h fun E σ H z=>Gn z
theorem iM:Lb X [] Au:=zQ.imp fun E σ H ⟨ρ,τ,a,ds,xs,o,ds',er,ho,rp,e,q⟩=>by
 cases e
 ~q H xs (xk.of (i6.refl H)) ho rp σ er
theorem mV(h1:OS X st p)(h2:Lb X sts q):Lb X (st::sts) (Fx p q):=(dl h1 h2).imp fun E σ H ⟨ρ,τ,a,ds,xs,o,ds',er,ho,rp,e,qq⟩=>by
 !⟨⟨o1,ds1⟩,e1,e⟩:=h9 e
 &⟨ρ,τ,a,ds,xs,o1,ds1,er,ho,rp,e1,fun H1 xs1 k1 ho1 rp1=>?_⟩
 cases o1 with
 | nx ρ2=>~fun σ2 er2=>⟨ρ2,τ,a,ds1,xs1,o,ds',er2,ho1,rp1,e,fun H2 xs2 k2 ho2 rp2=>qq H2 xs2 (k1.trans k2) ho2 rp2⟩
 | rt d=>cases e;~qq H1 xs1 k1 ho1 rp1
 | bk ρ2=>cases e;~qq H1 xs1 k1 ho1 rp1
 | ct ρ2=>cases e;~qq H1 xs1 k1 ho1 rp1
theorem gD(h:OS X st p):Lb X [st] p:=da h
theorem oQ{c:Expr}{s:R->Option Bool}{B1 B2:List Stmt}(hc:ST X c s)(ha:Lb X B1 p)(hb:Lb X B2 q):OS X (.If c B1 B2 pos) (Jx s p q):=(jH hc ha hb).imp fun E σ H ⟨ρ,τ,a,ds,xs,o,ds',er,ho,rp,e,qq⟩=>by
 !⟨x,e1,e⟩:=h9 e
 &⟨ρ,x,er.1,e1,fun H1 s1=>?_⟩
 cases x with
 | true=>rw[if_pos rfl] at e ⊢;~⟨ρ,τ,a,ds,xs,o,ds',er.mono s1,s1 _ _ ho,rp.mono s1,e,fun H2 xs2 k2=>qq H2 xs2 ((xk.of s1).trans k2)⟩
 | false=>rw[if_neg Bool.false_ne_true] at e ⊢;~⟨ρ,τ,a,ds,xs,o,ds',er.mono s1,s1 _ _ ho,rp.mono s1,e,fun H2 xs2 k2=>qq H2 xs2 ((xk.of s1).trans k2)⟩
theorem qg{tg iter:Expr}{B:List Stmt}{it:R->Option LD}{stf:D->R->Option R}(hp:PassesOwn (model X.prog X.w) X.A X.env X.xe)(hc:X.calm=true)(hi:SI X tg iter it)(hg:SG X tg stf)(hb:Lb X B p)
  (hs:∀x,foldedSetIterable iter X.env x=pure x:=by intro _;rfl):OS X (.For tg iter B [] pos) (IK it stf p):=(nB hp hc hi hg hb hs).imp fun E σ H ⟨ρ,τ,a,ls,xs,o,ls',er,ho,rp,e,q⟩=>by
 !⟨ds,e1,e⟩:=h9 e
 &⟨ρ,ds,er.1,e1,fun J H1 s1 y=>?_⟩
 &⟨fun i m σ' H'=>m=ds.length - i/\i<=ds.length/\xk a H1 H'/\∃ ρ' l xs',uq X.K H' ρ' (some (.ref a)::τ) σ'/\H' a=some (xW a xs')/\i5 X.K H' l xs'/\B_ stf p (ds.drop i) ρ' l=some (o,ls'),
  ⟨ds.length,by simp,Nat.zero_le _,xk.of (i6.refl _),ρ,ls,xs,er.mono s1,s1 _ _ ho,rp.mono s1,by simpa using e⟩,?_⟩
 rintro i m σ' H' ⟨rfl,hi,s2,ρ',l,xs',er',ho',rp',e'⟩
 have kp:Kp H1 H':=s2.kp (s1 _ _ ho)
 by_cases hlt:i<ds.length
 ·&.inr ?_
  have hd:ds[i]?=some ds[i]:=by simp[hlt]
  !⟨hgo,hy⟩:=y.1 i ds[i] H' kp hd
  rw[List.drop_eq_getElem_cons hlt] at e'
  !⟨ρ1,e2,e'⟩:=h9 e'
  !⟨⟨o1,l1⟩,e3,e'⟩:=h9 e'
  &⟨hgo,fun σ2 H2=>i+1<=ds.length/\xk a H1 H2/\∃ ρ' l xs',uq X.K H2 ρ' (some (.ref a)::τ) σ2/\H2 a=some (xW a xs')/\i5 X.K H2 l xs'/\B_ stf p (ds.drop (i+1)) ρ' l=some (o,ls'),
   fun σ2 H2 n2=>⟨ds.length - (i+1),by omega,rfl,n2.1,n2.2⟩,fun x H3 yx=>?_⟩
  !⟨s3,rx⟩:=hy x H3 yx
  &⟨ρ',_,ds[i],ρ1,er'.mono s3,rx,e2,fun σ4 H4 s4 er4=>⟨ρ1,τ,a,l,xs',o1,l1,er4,s4 _ _ (s3 _ _ ho'),(rp'.mono s3).mono s4,e3,fun H5 xs5 k5 ho5 rp5=>?_⟩⟩
  have s15:xk a H1 H5:=s2.trans ((xk.of s3).trans ((xk.of s4).trans k5))
  cases o1 with
  | nx ρ2=>~fun σ6 er6=>⟨hlt,s15,ρ2,l1,xs5,er6,ho5,rp5,e'⟩
  | ct ρ2=>~fun σ6 er6=>⟨hlt,s15,ρ2,l1,xs5,er6,ho5,rp5,e'⟩
  | bk ρ2=>cases e';~fun σ6 er6=>q H5 xs5 ((xk.of s1).trans s15) ho5 rp5 σ6 er6
  | rt d=>cases e';~q H5 xs5 ((xk.of s1).trans s15) ho5 rp5
 ·have e4:i=ds.length:=by omega
  subst e4
  rw[List.drop_length] at e'
  cases e'
  ~.inl ⟨y.2 _ H' kp (Nat.le_refl _),q H' xs' ((xk.of s1).trans s2) ho' rp' σ' er'⟩
theorem ox{K:W.Frag}{H:Hp}{ρ:R}{v:V}{τ σ:L2.St}(er:uq K H ρ (some v::τ) σ):σ[ρ.length]?=some (some v):=by
 have:=er.2
 have h0:(σ.drop ρ.length)[0]?=some (some v):=by rw[this];rfl
 rw[List.getElem?_drop] at h0
 simpa using h0
theorem qO{x name:Str}{e:Expr}{px ap cp:Pos}{f:R->OD}{id:String}{r:V->List V->Hp->VK->Prop}{g:LD->D->Option LD}{u:R->LD->Option (Out×LD)}(i:Nat)(slot:Slot "list" name id)(hty:typeOf (.builtin id)=pure (.type "method_descriptor"))(hm:PJ X id r)
  (hu:∀ ρ ds o ds',u ρ ds=some (o,ds')->ρ.length=i/\o=.nx ρ/\∃d,f ρ=some d/\g ds d=some ds')
  (hr:∀(H:Hp) (a:Addr) (xs:List V) (v:V) (ds ds':LD) (d:D) (Q:VK),H a=some (xW a xs)->i5 X.K H ds xs->Rep X.K H d v->g ds d=some ds'->(∀xs',i5 X.K H ds' xs'->Q .non (upd (upd H a (.lst xs)) a (.lst xs')))->r (.ref a) [v] (upd H a (.lst xs)) Q)
  (he:SE X e f) (hN:X.N[i]?=some x:=by rfl) (hv:Ca X.env.scope x:=by first | ~Or.inl rfl | ~Or.inr (Or.inl rfl) | ~Or.inr (Or.inr rfl)) (hd:(x==("__debug__" : Str))=false:=by decide) (hcd:(x==("__classdict__" : Str))=false:=by decide)
  (hbase:attributeBase (.Name x px) name X.env (eval (.Name x px) X.env)=eval (.Name x px) X.env:=by rfl) (hst:noStar e=true:=by rfl)
  (hline:(ap.endLine==cp.line)=true:=by rfl) (hs:swapsWith (.Call (.Attribute (.Name x px) name ap) [e] [] cp) none pos.line X.env=pure false:=by rfl) :
  OS X (.Expr (.Call (.Attribute (.Name x px) name ap) [e] [] cp) pos) u:=by
 intro pins s σ H E I ⟨ρ,τ,a,ds,xs,o,ds',er,ho,rp,eu,qq⟩
 !⟨hi,rfl,d,e1,e2⟩:=hu ρ ds o ds' eu
 have hσ:=ox er
 rw[hi] at hσ
 have hst1:=aF [] X.env hst
 &wpAny_Expr_any (wpAny_Call_method_late hbase ?_ hline rfl (uo ((pv i (pos:=px) hN hv hd hcd) pins s σ H (fun v H1=>v=.ref a/\H1=H) I ⟨.ref a,hσ,rfl,rfl⟩) fun v s1 ⟨y,H1,I1,r1,ey,eH⟩=>?_)) I.quiet hs
 ·rw[hst1]
  rfl
 subst ey eH
 cases (show v=_ from r1)
 !⟨z,its,n,rv,eo⟩:=oH I1 ho
 &⟨"list",id,PySem.F.plainAttrs_list,slot,hty,⟨_,eo,rfl⟩,fun b eb=>?_,?_⟩
 ·cases eb
  ~⟨_,eo,rfl⟩
 have hA:=(ac he af hst).1 cp pins s1 σ H1 (fun vs H2=>i6 H1 H2/\i5 X.K H2 [d] vs) I1 ⟨ρ,[d],er.1,by show(f ρ).bind _=_;rw[e1];rfl,fun vs H2 s2 r2=>⟨s2,r2⟩⟩
 rw[hst1] at hA ⊢
 &Calls.callWith_builtin rfl (Calls.evalArgs_plain ?_)
 &uo hA fun us s2 ⟨vs,H2,I2,r2,s12,rd⟩=>?_
 !⟨w,w',rfl,rw1,rw2⟩:=rd
 cases (show w'=[] from rw2)
 have ho2:=s12 _ _ ho
 have I3:=IE I2 ho2
 &uo (hm pins s2 σ (upd H2 a (.lst xs)) (.ref a) [w] (.ref a) us (fun v H3=>∃xs',i5 X.K H2 ds' xs'/\H3=upd (upd H2 a (.lst xs)) a (.lst xs')) I3 rfl r2 (hr H2 a xs w ds ds' d _ ho2 (rp.mono s12) rw1 e2 fun xs' rp'=>⟨xs',rp',rfl⟩)) fun v s3 ⟨v',H3,I4,_,xs',rp',e3⟩=>?_
 subst e3
 have I5:=E6 I4 au
 generalize hH5:upd (upd (upd H2 a (.lst xs)) a (.lst xs')) a (xW a xs')=H5 at I5
 have k25:xk a H2 H5:=by
  subst hH5
  ~xk.upd.trans (xk.upd.trans xk.upd)
 have ho5:H5 a=some (xW a xs'):=by subst hH5;~au
 have k15:xk a H1 H5:=(xk.of s12).trans k25
 &⟨σ,H5,I5,qq H5 xs' k15 ho5 (rp'.kp (k25.kp ho2)) σ (er.kp (k15.kp ho))⟩
theorem jg{x:Str}{e:Expr}{px ap cp:Pos}{f:R->OD}(i:Nat)(he:SE X e f)(hN:X.N[i]?=some x:=by rfl)(hv:Ca X.env.scope x:=by first | ~Or.inl rfl | ~Or.inr (Or.inl rfl) | ~Or.inr (Or.inr rfl))(hd:(x==("__debug__" : Str))=false:=by decide)(hcd:(x==("__classdict__" : Str))=false:=by decide)
  (hbase:attributeBase (.Name x px) "append" X.env (eval (.Name x px) X.env)=eval (.Name x px) X.env:=by rfl) (hst:noStar e=true:=by rfl)
  (hline:(ap.endLine==cp.line)=true:=by rfl) (hs:swapsWith (.Call (.Attribute (.Name x px) "append" ap) [e] [] cp) none pos.line X.env=pure false:=by rfl) :
  OS X (.Expr (.Call (.Attribute (.Name x px) "append" ap) [e] [] cp) pos) (BX i f):=by
 &qO (g:=fun ds d=>if ds.length<sizeLine then some (ds++[d]) else none) (f:=f) i PySem.F.slot_list_append PySem.F.type_list_append kz ?_ ?_ he hN hv hd hcd hbase hst hline hs
 ·intro ρ ds o ds' h
  !⟨d,e1,h⟩:=h9 h
  split at h
  ·rename_i hc
   cases h
   ~⟨hc.1,rfl,d,e1,if_pos hc.2⟩
  ·cases h
 ·intro H a xs v ds ds' d Q ho rp rd e q
  split at e
  ·rename_i hc
   cases e
   ~⟨a,xs,v,rfl,rfl,au,by rw[<- rp.length];~hc,q _ (rp.append (i5.one rd))⟩
  ·cases e
theorem qo{x:Str}{e:Expr}{px ap cp:Pos}{f:R->OD}(i:Nat)(he:SE X e f)(hN:X.N[i]?=some x:=by rfl)(hv:Ca X.env.scope x:=by first | ~Or.inl rfl | ~Or.inr (Or.inl rfl) | ~Or.inr (Or.inr rfl))(hd:(x==("__debug__" : Str))=false:=by decide)(hcd:(x==("__classdict__" : Str))=false:=by decide)
  (hbase:attributeBase (.Name x px) "extend" X.env (eval (.Name x px) X.env)=eval (.Name x px) X.env:=by rfl) (hst:noStar e=true:=by rfl)
  (hline:(ap.endLine==cp.line)=true:=by rfl) (hs:swapsWith (.Call (.Attribute (.Name x px) "extend" ap) [e] [] cp) none pos.line X.env=pure false:=by rfl) :
  OS X (.Expr (.Call (.Attribute (.Name x px) "extend" ap) [e] [] cp) pos) (FA i f):=by
 &qO (g:=fun ds d=>match d with | .lst es=>if ds.length+es.length<=sizeLine then some (ds++es) else none | _=>none) (f:=f) i PySem.F.slot_list_extend PySem.F.type_list_extend pD ?_ ?_ he hN hv hd hcd hbase hst hline hs
 ·intro ρ ds o ds' h
  !⟨d,e1,h⟩:=h9 h
  cases d with
  | lst es =>
   dsimp only at h
   split at h
   ·rename_i hc
    cases h
    ~⟨hc.1,rfl,_,e1,if_pos hc.2⟩
   ·cases h
  | _=>cases h
 ·intro H a xs v ds ds' d Q ho rp rd e q
  cases d with
  | lst es =>
   dsimp only at e
   split at e
   ·rename_i hc
    cases e
    !⟨b,zs,rfl,hb,rz⟩:=rd
    have hne:b≠a:=fun z=>by
     rw[z,ho] at hb
     cases hb
    ~⟨a,b,xs,zs,rfl,rfl,au,by rw[aq hne];~hb,by rw[<- rp.length,<- rz.length];~hc,q _ (rp.append rz)⟩
   ·cases e
  | _=>cases e
theorem eV{w:R->LD->Option Out}(h1:OS X st p)(h2:OB X sts w):OB X (st::sts) (wD p w):=(dl h1 h2).imp fun E σ H ⟨ρ,τ,a,ds,xs,o,er,ho,rp,e,qq⟩=>by
 !⟨⟨o1,ds1⟩,e1,e⟩:=h9 e
 &⟨ρ,τ,a,ds,xs,o1,ds1,er,ho,rp,e1,fun H1 xs1 k1 ho1 rp1=>?_⟩
 cases o1 with
 | nx ρ2=>~fun σ2 er2=>⟨ρ2,τ,a,ds1,xs1,o,er2,ho1,rp1,e,fun H2 k2=>qq H2 (k1.trans k2)⟩
 | rt d=>cases e;~qq H1 k1
 | bk ρ2=>cases e
 | ct ρ2=>cases e
theorem jo(h:SS X sts u):OB X sts (As u):=by
 intro pins s σ H E I ⟨ρ,τ,a,ds,xs,o,er,ho,rp,e,qq⟩
 have I2:=IE I ho
 have k:xk a H (upd H a (.lst xs)):=xk.upd
 have hσ:=ox er
 have er2:=er.kp (k.kp ho)
 &h pins s σ _ E I2 ⟨ρ++[some (D.lst ds)],τ,o,⟨⟨?_,fun i d hd=>?_⟩,?_⟩,(show u (ρ++[some (D.lst ds)])=some o from e),fun H' s'=>qq H' (k.trans (xk.of s'))⟩
 ·have:=(List.getElem?_eq_some_iff.mp hσ).1
  rw[List.length_append,List.length_singleton]
  ~this
 ·by_cases hi:i<ρ.length
  ·rw[List.getElem?_append_left hi] at hd
   ~er2.1.2 i d hd
  ·by_cases hi2:i=ρ.length
   ·subst hi2
    rw[List.getElem?_append_right (Nat.le_refl _),Nat.sub_self] at hd
    cases hd
    ~⟨_,hσ,a,xs,rfl,au,rp.kp (k.kp ho)⟩
   ·rw[List.getElem?_eq_none (by simp;omega)] at hd
    cases hd
 ·rw[List.length_append,List.length_singleton,<- List.drop_drop,er.2]
  rfl
theorem iX{x:Str}{es:List Expr}{F:R->Option LD}{w:R->LD->Option Out}{px p1:Pos}(i:Nat)(hN:X.N.Nodup)(hF:SA X es F)(h2:OB X sts w)(hix:X.N[i]?=some x:=by rfl)(hx:Loc X.env.scope x:=by first | ~Or.inl rfl | ~Or.inr rfl)
  (hl:Nat.ble es.length 1000=true:=by rfl) (hs:swapsWith (.List es p1) (some (.Name x px)) pos.line X.env=pure false:=by rfl) (hf:X.fn x=true\/X.env.scope.names.lookup x=some .local:=by first | ~.inl rfl | ~.inr rfl) :
  SS X (.Assign [.Name x px] (.List es p1) pos::sts) (GS i F w):=by
 intro pins s σ H E I ⟨ρ,τ,o,er,e,qq⟩
 !⟨ds,e1,e⟩:=h9 e
 split at e
 case isFalse=>cases e
 case isTrue hlen =>
 &wpAny_execs_cons (uo ((g_ (i:=i) hN hix hx (nR hF.1) hs hf) pins s σ H {E with nx:=fun σ' H'=>∃a vs H1,σ'=σ.set i (some (.ref a))/\H'=upd H1 a (.lst vs)/\H1 a=none/\i6 H H1/\i5 X.K H1 ds vs} I ?_) fun f s1 q=>?_)
 ·&⟨ρ,ds,er.1,e1,fun vs H1 s1 r1=>⟨?_,fun a ha=>⟨a,vs,H1,rfl,rfl,ha,s1,r1⟩⟩⟩
  rw[<- r1.length,hF.2.1 ρ ds e1]
  ~Nat.le_of_lt (yL (Nat.le_of_ble_eq_true hl))
 cases f with
 | next =>
  !⟨σ',H',I',a,vs,H1,rfl,rfl,ha,s1',r1⟩:=q
  have I2:=E6 I' au
  generalize hH2:upd (upd H1 a (.lst vs)) a (xW a vs)=H2 at I2
  have k12:xk a H1 H2:=by
   subst hH2
   ~xk.upd.trans xk.upd
  have s12:i6 H1 H2:=fun b u hb=>k12 b u (fun z=>by rw[z,ha] at hb;cases hb) hb
  have ho2:H2 a=some (xW a vs):=by subst hH2;~au
  have hσi:i<σ.length:=Nat.lt_of_lt_of_le (by omega) er.1.1
  &h2 pins s1 _ H2 E I2 ⟨ρ.take i,τ,a,ds,vs,o,⟨⟨?_,fun j d hd=>?_⟩,?_⟩,ho2,r1.mono s12,e,fun H' k=>qq H' fun b u hb=>?_⟩
  ·simp
   omega
  ·have hj:j<i:=by
    have:=(List.getElem?_eq_some_iff.mp hd).1
    simp at this
    omega
   rw[List.getElem?_take_of_lt hj] at hd
   !⟨v,h1,h2⟩:=er.1.2 j d hd
   ~⟨v,by rw[List.getElem?_set_ne (by omega)];~h1,(h2.mono s1').mono s12⟩
  ·have hd:σ.drop (i+1)=τ:=by rw[<- hlen];~er.2
   rw[List.length_take,Nat.min_eq_left (by omega),List.drop_eq_getElem_cons (by simpa using hσi)]
   congr 1
   ·simp
   ·rw[List.drop_set_of_lt (by omega)]
    ~hd
  ·have hb2:=s12 _ _ (s1' _ _ hb)
   ~k b u (fun z=>by
    have q:=s1' _ _ hb
    rw[z,ha] at q
    cases q) hb2
 | brk=>~q
 | cont=>~q
 | ret v=>~q
end
mutual
theorem jm:∀d:D,s9 d=true->(toPy d).canLay0=true
 | .non,_=>by simp[toPy,PyData.canLay0]
 | .bl _,_=>by simp[toPy,PyData.canLay0]
 | .int _,_=>by simp[toPy,PyData.canLay0]
 | .str _,h=>by rw[s9] at h;simpa [toPy,PyData.canLay0,PyData.strOk] using h
 | .tup ds,h=>by rw[toPy,PyData.canLay0];~iQ ds h
 | .lst ds,h=>by rw[toPy,PyData.canLay0];~iQ ds h
 | .fro ds,h=>by rw[toPy,PyData.canLay0];~iQ ds h
 | .obj ..,h=>by cases h
 | .rf ..,h=>by cases h
theorem iQ:∀ds:LD,vk ds=true->PyData.canLayAll0 (wy ds)=true
 | [],_=>by simp[wy,PyData.canLayAll0]
 | d::ds,h=>by
  have h':(s9 d&&vk ds)=true:=h
  rw[Bool.and_eq_true] at h'
  rw[wy,PyData.canLayAll0,jm d h'.1,iQ ds h'.2];rfl
end
mutual
theorem qK:∀d:D,uC d=true->(toPy d).depth=xp d
 | .non,_=>by simp[toPy,PyData.depth,xp]
 | .bl _,_=>by simp[toPy,PyData.depth,xp]
 | .int _,_=>by simp[toPy,PyData.depth,xp]
 | .str _,_=>by simp[toPy,PyData.depth,xp]
 | .tup ds,h=>by rw[toPy,PyData.depth,xp,iL ds h]
 | .lst ds,h=>by rw[toPy,PyData.depth,xp,iL ds h]
 | .fro ds,h=>by rw[toPy,PyData.depth,xp,iL ds h]
 | .obj ..,h=>by cases h
 | .rf ..,h=>by cases h
theorem iL:∀ds:LD,n5 ds=true->PyData.depthAll (wy ds)=wa ds
 | [],_=>by simp[wy,PyData.depthAll,wa]
 | d::ds,h=>by
  have h':(uC d&&n5 ds)=true:=h
  rw[Bool.and_eq_true] at h'
  rw[wy,PyData.depthAll,wa,qK d h'.1,iL ds h'.2]
end
mutual
theorem E2:∀x y:D,uC x=true->uC y=true->PyData.eqv (toPy x) (toPy y)=LB x y
 | .non,y,_,h=>by cases y<;>first | rfl | cases h
 | .bl a,y,_,h=>by cases y<;>first | rfl | cases h
 | .int a,y,_,h=>by cases y<;>first | rfl | cases h
 | .str a,y,_,h=>by cases y<;>first | rfl | cases h
 | .tup xs,y,g,h=>by
  cases y with
  | tup ys=>~yO xs ys g h
  | obj _ _ _ _=>cases h
  | rf _=>cases h
  | _=>rfl
 | .lst xs,y,g,h=>by
  cases y with
  | lst ys=>~yO xs ys g h
  | fro ys=>~yO xs ys g h
  | obj _ _ _ _=>cases h
  | rf _=>cases h
  | _=>rfl
 | .fro xs,y,g,h=>by
  cases y with
  | lst ys=>~yO xs ys g h
  | fro ys=>~yO xs ys g h
  | obj _ _ _ _=>cases h
  | rf _=>cases h
  | _=>rfl
 | .obj ..,y,g,h=>by cases g
 | .rf ..,y,g,h=>by cases g
theorem yO:∀xs ys:LD,n5 xs=true->n5 ys=true->PyData.eqvAll (wy xs) (wy ys)=B0 xs ys
 | [],[],_,_=>rfl
 | [],_::_,_,_=>rfl
 | _::_,[],_,_=>rfl
 | x::xs,y::ys,g,h=>by
  have g':(uC x&&n5 xs)=true:=g
  have h':(uC y&&n5 ys)=true:=h
  rw[Bool.and_eq_true] at g' h'
  show(PyData.eqv (toPy x) (toPy y)&&PyData.eqvAll (wy xs) (wy ys))=(LB x y&&B0 xs ys)
  rw[E2 x y g'.1 h'.1,yO xs ys g'.2 h'.2]
end
section
variable{X:Cx}
theorem CQ{k:Nat}(hr:ua k X.A){dx dy:D}(h:xp dx<=100)(hn:uC dx=true):X.A.units+min (toPy dx).depth (toPy dy).depth<cLine:=by
 have h1:=hr.un
 have h2:min (toPy dx).depth (toPy dy).depth<=100:=by rw[qK dx hn];omega
 omega
theorem kG{k:Nat}(hr:ua k X.A):EE X .Eq yg:=by
 intro pins s σ H x y v u Q I rx ry h
 !⟨dx,dy,b,r1,r2,e,q⟩:=h
 unfold yg at e
 split at e
 ·rename_i hd
  cases e
  !⟨as,ra⟩:=x4 I (bR hd.2.1) r1 rx
  !⟨bs,rb⟩:=x4 I (bR hd.2.2) r2 ry
  have z:=SeqAt.rcAt_reads ra rb (jm dx hd.2.1) (jm dy hd.2.2) (CQ (dy:=dy) hr hd.1 (bR hd.2.1))
  rw[E2 _ _ (bR hd.2.1) (bR hd.2.2)] at z
  ~z _ _ _ _ ⟨.bl (LB dx dy),H,I,rfl,q⟩
 ·cases e
theorem ll{k:Nat}(hr:ua k X.A):EE X .NotEq zb:=by
 intro pins s σ H x y v u Q I rx ry h
 !⟨dx,dy,b,r1,r2,e,q⟩:=h
 unfold zb yg at e
 split at e
 ·rename_i hd
  cases e
  !⟨as,ra⟩:=x4 I (bR hd.2.1) r1 rx
  !⟨bs,rb⟩:=x4 I (bR hd.2.2) r2 ry
  have z:=SeqAt.rcNeAt_reads ra rb (jm dx hd.2.1) (jm dy hd.2.2) (CQ (dy:=dy) hr hd.1 (bR hd.2.1))
  rw[E2 _ _ (bR hd.2.1) (bR hd.2.2)] at z
  ~PySem.EqBoolInt.of_rcne z ⟨.bl (!LB dx dy),H,I,rfl,q⟩
 ·cases e
end
section
variable{prog:Program}{w:World}{A:Around}{R':Result->Shared->Prop}{I:Addr}{fp wr:List Addr}{n:Nat}{P:Nat->Value->Prop}{St:Nat->Heap->Prop}
abbrev JU:List (Str×Value):=[(oS "default",Value.none)]
abbrev Ox(S:Addr)(vs:Array Value)(c:Nat)(h:Heap):Prop:=h.get? S=some {cls:=.type "list",dict:=none,data:=.seq vs c,slots:=#[]}
theorem yJ:(toString "max" ++ toString ".loop" : String) = "max.loop":=by decide
theorem KS(W:Walks prog w A.in1 I fp wr n P St)(bt:Nat->Nat->Bool)(hcmp:CmpOf prog w A.in1 .Gt P bt)(S:Addr)(hSf:S∉fp):∀(k j:Nat) (s:Shared) (vb:Value) (c:Nat),n - (j+1)=k->j+1<=n->St (j+1) s.heap->P (argBest bt j) vb->Ox S #[vb,vb] c s.heap ->
  (∀v h' tk,P (argBest bt (n - 1)) v->(∀b o,b∉wr->b≠S->s.heap.get? b=some o->h'.get? b=some o)->R' (.ok (.ret v)) {s with heap:=h',toks:=tk})->codeAny (model prog w) A (.builtin "max.loop" ⟨[.ref I,.none,.ref S],JU⟩) R' s:=by
 have hSw:S∉wr:=fun z=>hSf (W.sub _ z)
 intro k
 induction k with
 | zero =>
  intro j s vb c hk hj hst hPb hS hR
  have hin:j+1=n:=by omega
  &codeAny_builtin F.entry_max_loop ?_;rw[Around.under_plainId F.plain_max_loop _];show wpAny _ A.in1 (seqItems? (.ref S) >>= _) _ _ s
  &wpAny_bind (wpAny_seqItems hS rfl ?_);show wpAny _ A.in1 (tryCatch (pyNext (.ref I)) _ >>= _) _ _ s
  &wpAny_bind (wpAny_tryCatch (W.done s _ _ (hin ▸ hst) fun h1 t1 k1=>?_));have hS1:=k1 S _ hSw hS
  show wpAny _ A.in1 (updateSeq S (fun _=>#[]) >>= _) _ _ _;&wpAny_bind (wpAny_updateSeq hS1 rfl (wpAny_bind (wpAny_letGo (wpAny_pure ?_))))
  ~hR vb _ t1 (by rw[<- hin];~hPb) fun b o hbw hbS e=>(Heap.get?_update_other _ _ (Ne.symm hbS)).trans (k1 b o hbw e)
 | succ k ih =>
  intro j s vb c hk hj hst hPb hS hR
  have hlt:j+1<n:=by omega
  &codeAny_builtin F.entry_max_loop ?_;rw[Around.under_plainId F.plain_max_loop _];show wpAny _ A.in1 (seqItems? (.ref S) >>= _) _ _ s
  &wpAny_bind (wpAny_seqItems hS rfl ?_);show wpAny _ A.in1 (tryCatch (pyNext (.ref I)) _ >>= _) _ _ s
  &wpAny_bind (wpAny_tryCatch (W.item (j+1) s _ _ hlt hst fun v h1 t1 hP st1 k1=>?_));have hS1:=k1 S _ hSw hS
  show wpAny _ A.in1 (tryCatch (holding [v,v] (richCompare .Gt v vb >>= _)) _ >>= _) _ _ _;&wpAny_bind (wpAny_tryCatch (wpAny_holding (wpAny_bind (hcmp (j+1) (argBest bt j) v vb _ _ _ hP hPb ?_))))
  &wpAny_bind (wpAny_holding (wpAny_truthy_bool ?_));&wpAny_bind (wpAny_letGo (wpAny_pure ?_))
  cases hb:bt (j+1) (argBest bt j) with
  | true =>
   simp only[if_true];&wpAny_bind (wpAny_updateSeq hS1 rfl (wpAny_bind (wpAny_letGo ?_)));rw[yJ]
   &wpAny_pure ⟨plainId_quiet F.plain_max_loop _,ih (j+1) _ v _ (by omega) hlt (W.frame _ _ _ st1 fun b hbf o e=>?_) (by simp only[argBest,hb,if_true];~hP) (Heap.get?_update_self _ hS1 rfl) fun v' h2 t2 hP' k2=>?_⟩
   ·&(Heap.get?_update_other _ _ fun z:S=b=>hSf ?_).trans e;rw[z];~hbf
   ·&hR v' h2 t2 hP' fun b o hbw hbS e=>k2 b o hbw hbS ?_;~(Heap.get?_update_other _ _ (Ne.symm hbS)).trans (k1 b o hbw e)
  | false =>
   simp only[Bool.false_eq_true,if_false];&wpAny_bind (wpAny_letGo ?_);rw[yJ]
   &wpAny_pure ⟨plainId_quiet F.plain_max_loop _,ih (j+1) _ vb c (by omega) hlt st1 (by simp only[argBest,hb,Bool.false_eq_true,if_false];~hPb) hS1 fun v' h2 t2 hP' k2=>?_⟩
   &hR v' h2 t2 hP' fun b o hbw hbS e=>k2 b o hbw hbS ?_;~k1 b o hbw e
theorem HM(W:Walks prog w A.in1 I fp wr n P St)(bt:Nat->Nat->Bool)(hcmp:CmpOf prog w A.in1 .Gt P bt)(S:Addr)(hSf:S∉fp){s:Shared}{c:Nat}(hst:St 0 s.heap)(hS:Ox S #[] c s.heap)
  (h0:n=0->∀h' tk,(∀b o,b∉wr->b≠S->s.heap.get? b=some o->h'.get? b=some o)->R' (.ok (.ret .none)) {s with heap:=h',toks:=tk})
  (hR:0<n->∀v h' tk,P (argBest bt (n - 1)) v->(∀b o,b∉wr->b≠S->s.heap.get? b=some o->h'.get? b=some o)->R' (.ok (.ret v)) {s with heap:=h',toks:=tk}):codeAny (model prog w) A (.builtin "max.loop" ⟨[.ref I,.none,.ref S],JU⟩) R' s:=by
 have hSw:S∉wr:=fun z=>hSf (W.sub _ z)
 &codeAny_builtin F.entry_max_loop ?_;rw[Around.under_plainId F.plain_max_loop _];show wpAny _ A.in1 (seqItems? (.ref S) >>= _) _ _ s
 &wpAny_bind (wpAny_seqItems hS rfl ?_);show wpAny _ A.in1 (tryCatch (pyNext (.ref I)) _ >>= _) _ _ s
 by_cases hn:0<n
 ·&wpAny_bind (wpAny_tryCatch (W.item 0 s _ _ hn hst fun v h1 t1 hP st1 k1=>?_));have hS1:=k1 S _ hSw hS
  show wpAny _ A.in1 (updateSeq S (fun _=>#[v,v]) >>= _) _ _ _;&wpAny_bind (wpAny_updateSeq hS1 rfl ?_);rw[yJ]
  &wpAny_pure ⟨plainId_quiet F.plain_max_loop _,KS W bt hcmp S hSf _ 0 _ v _ rfl hn (W.frame _ _ _ st1 fun b hbf o e=>?_) hP (Heap.get?_update_self _ hS1 rfl) fun v' h2 t2 hP' k2=>?_⟩
  ·&(Heap.get?_update_other _ _ fun z:S=b=>hSf ?_).trans e;rw[z];~hbf
  ·&hR hn v' h2 t2 hP' fun b o hbw hbS e=>k2 b o hbw hbS ?_;~(Heap.get?_update_other _ _ (Ne.symm hbS)).trans (k1 b o hbw e)
 ·have hz:n=0:=by omega
  &wpAny_bind (wpAny_tryCatch (W.done s _ _ (hz ▸ hst) fun h1 t1 k1=>?_))
  &wpAny_bind (wpAny_rule (wpAny_pure ?_))
  ~h0 hz h1 t1 fun b o hbw hbS e=>k1 b o hbw e
end
section
variable{prog:Program}{w:World}{A:Around}{E:Value->Shared->Prop}{s:Shared}
theorem GL(a:Value):argsOk "max" ⟨[a],JU⟩:=by unfold argsOk;kernel_rfl
theorem gY{l:Addr}{its:List Value}{val:Nat->Int}{Q:Value->Shared->Prop}(hh:A.handled=none)(hl:s.heap.IsList l its.toArray)(hv:∀(i:Nat) v,its.toArray[i]?=some v->∃t,v=.int (val i) t)
  (h0:its=[]->∀h' tk,(∀b o,s.heap.get? b=some o->h'.get? b=some o)->Q .none {s with heap:=h',toks:=tk})
  (h1:its ≠ []->∀v h' tk,its.toArray[argBest (fun i j=>decide (val i > val j)) (its.length - 1)]?=some v->(∀b o,s.heap.get? b=some o->h'.get? b=some o)->Q v {s with heap:=h',toks:=tk}) :
  wpAny (model prog w) A (call (.builtin "max") [.ref l] JU) Q E s:=by
 &wpAny_call (codeAny_call_builtin F.plain_max F.entry_max ?_)
 simp only[checkBuiltinCall,F.kind_max]
 have main:wpAny (model prog w) A.in1 (Builtin.«max» ⟨[.ref l],JU⟩) (fun fin s'=>match fin with
   | .done f=>(match (Except.ok f:Result) with
    | .ok (.ret v)=>Q v s'
    | .ok _=>False
    | .error e=>E e s')
   | .again c'=>c'.quiet=true/\codeAny (model prog w) A c' (fun r s'=>match r with
    | .ok (.ret v)=>Q v s'
    | .ok _=>False
    | .error e=>E e s') s') E s:=by
  show wpAny _ A.in1 (Builtin.Builtins.bindParams "max" ["key","default"] 0 ⟨[],JU⟩ >>= _) _ _ s
  &wpAny_bind (wpAny_of_eq (show Builtin.Builtins.bindParams "max" ["key","default"] 0 ⟨[],JU⟩=pure [none,some .none] from rfl) ?_)
  &wpAny_bind (wpAny_pure (wpAny_bind (wpAny_pyIter_list hl ?_)))
  &wpAny_bind (wpAny_newObj_type ?_)
  rw[yJ]
  have hlt:l<s.heap.objs.size:=by
   !⟨o,e,_⟩:=hl
   ~Heap.lt_size e
  generalize hI:s.heap.objs.size=J at hlt
  generalize h1e:s.heap.push {cls:=Value.type "list_iterator",data:=Data.fields #[Value.ref l,Value.int 0 0]}=H1
  have hJ:H1.objs.size=J+1:=by rw[<- h1e,Heap.size_push,hI]
  have k1:∀b o,s.heap.get? b=some o->H1.get? b=some o:=fun b o e=>by rw[<- h1e];~Heap.get?_push_of_some _ e
  have st1:H1.IsListIter J l 0/\H1.IsList l its.toArray:=⟨by rw[<- h1e,<- hI];~⟨_,Heap.get?_push_size _ rfl,rfl,rfl⟩,hl.at fun o e=>k1 _ _ e⟩
  have hne:l≠J:=Nat.ne_of_lt hlt
  have hSf:H1.objs.size ∉ [J,l]:=by
   rw[hJ]
   intro z
   rcases List.mem_cons.mp z with z | z
   ·~absurd z (Nat.ne_of_gt (Nat.lt_succ_self J))
   ·rw[<- List.mem_singleton.mp z] at hlt
    ~absurd hlt (Nat.not_lt.mpr (Nat.le_succ J))
  have W:=Walks.list (prog:=prog) (w:=w) (A:=A.in1) hh J l hne its.toArray
  have old:∀{h':Heap},(∀b o,b ∉ [J]->b≠H1.objs.size->(H1.push {cls:=Value.type "list",data:=Data.seq ([]:List Value).toArray}).get? b=some o->h'.get? b=some o)->∀b o,s.heap.get? b=some o->h'.get? b=some o:=fun kk b o e=>by
   have hb:b<J:=by rw[<- hI];~Heap.lt_size e
   &kk b o (fun z=>absurd (List.mem_singleton.mp z) (Nat.ne_of_lt hb)) ?_ (Heap.get?_push_of_some _ (k1 b o e))
   rw[hJ]
   ~Nat.ne_of_lt (Nat.lt_succ_of_lt hb)
  &wpAny_pure ⟨plainId_quiet F.plain_max_loop _,HM W _ (CmpOf.ints_gt val hv) H1.objs.size hSf (W.frame _ _ _ st1 fun b _ o e=>Heap.get?_push_of_some _ e) (Heap.get?_push_size _ rfl) (fun hz h' tk kk=>?_) fun hn v h' tk hP kk=>?_⟩
  ·~h0 (by simpa using hz) h' tk (old kk)
  ·&h1 (fun z=>by subst z;simp at hn) v h' tk ?_ (old kk)
   simpa using hP
 cases hsig:Manifest.signature? "max" with
 | none=>~wpAny_pure main
 | some sig =>
  have ha:=GL (.ref l)
  simp only[argsOk,hsig] at ha
  have h2:Bind.checkArgs "max" sig ⟨[.ref l],JU⟩=pure ():=ha
  show wpAny _ A.in1 (Bind.checkArgs "max" sig ⟨[.ref l],JU⟩) _ _ s
  rw[h2]
  ~wpAny_pure main
end
section
variable{X:Cx}
theorem rD{e:Expr}{f:R->OD}{p kp p2 pos:Pos}{j:Nat}(hc:X.calm=true)(hm:X.mg "max" = none)(he:SE X e f)(hg:Gl X "max":=by rfl)(hst:noStar e=true:=by rfl) :
  SE X (.Call (.Name "max" p) [e] [⟨some "default",.Constant .none j p2,kp⟩] pos) (c8 D9 (c4 f c7)):=by
 intro pins s σ H Q I ⟨ρ,d,er,eq,q⟩
 !⟨ds,e1,e2⟩:=h9 eq
 have hst1:=aF [] X.env hst
 &wpAny_Call_Name_kw (cJ I hg hm boot_max ?_ (by decide) (by decide))
 &callWith_kw (uo ((ac he af hst).1 pos pins s σ H (fun vs H2=>i6 H H2/\i5 X.K H2 ds vs) I ⟨ρ,ds,er,e1,fun vs H2 s2 r2=>⟨s2,r2⟩⟩) fun us s1 ⟨vs,H1,I1,r1,s01,rp⟩=>?_) (by rw[hst1];rfl) (by rw[hst1];rfl) rfl rfl
 &kws_cons (Constant_none (kws_nil ?_))
 have hh:=I1.ok.hd hc
 match ds,e2 with
 | [.lst []],e2 =>
  cases e2
  !⟨v,r',rfl,⟨a,xs,rfl,ha,rx⟩,rr⟩:=rp
  cases (show r'=[] from rr)
  cases (show xs=[] from rx)
  !⟨u,rfl,ru⟩:=r1.one
  cases (show u=_ from ru)
  !⟨_,its,n,rv,hl,eo⟩:=I1.lstM ha
  cases rv
  ~gY (val:=fun _=>0) hh ⟨_,eo,rfl,n,rfl⟩ (fun i v hv=>by simp at hv) (fun _ h' tk k=>⟨.non,H1,I1.kept k,rfl,q _ H1 s01 rfl⟩) fun z=>absurd rfl z
 | [.lst [.int a1]],e2 =>
  cases e2
  !⟨v,r',rfl,⟨a,xs,rfl,ha,rx⟩,rr⟩:=rp
  cases (show r'=[] from rr)
  !⟨x1,x2,rfl,rx1,rx2⟩:=rx
  cases (show x1=_ from rx1)
  cases (show x2=[] from rx2)
  !⟨u,rfl,ru⟩:=r1.one
  cases (show u=_ from ru)
  !⟨_,its,n,rv,hl,eo⟩:=I1.lstM ha
  !⟨w1,rfl,t1,rfl⟩:=rv.one
  &gY (val:=fun _=>a1) hh ⟨_,eo,rfl,n,rfl⟩ (fun i v hv=>?_) (fun z=>by cases z) fun _ v h' tk hv k=>?_
  ·have z:=(Array.getElem?_eq_some_iff.mp hv).1
   have z0:i=0:=by simpa using z
   subst z0
   ~⟨t1,(Option.some.inj hv).symm⟩
  ·have hv':Value.int a1 t1=v:=Option.some.inj hv
   subst hv'
   ~⟨.int a1,H1,I1.kept k,⟨t1,rfl⟩,q _ H1 s01 rfl⟩
 | [.lst [.int a1,.int a2]],e2 =>
  cases e2
  !⟨v,r',rfl,⟨a,xs,rfl,ha,rx⟩,rr⟩:=rp
  cases (show r'=[] from rr)
  have hx:=ints2 rx
  subst hx
  !⟨u,rfl,ru⟩:=r1.one
  cases (show u=_ from ru)
  !⟨_,its,n,rv,hl,eo⟩:=I1.lstM ha
  !⟨w1,w2,rfl,⟨t1,rfl⟩,⟨t2,rfl⟩⟩:=vals2 rv
  &gY (val:=fun i=>if i=0 then a1 else a2) hh ⟨_,eo,rfl,n,rfl⟩ (fun i v hv=>?_) (fun z=>by cases z) fun _ v h' tk hv k=>?_
  ·have z:=(Array.getElem?_eq_some_iff.mp hv).1
   have z0:i=0\/i=1:=by
    have:i<2:=by simpa using z
    omega
   rcases z0 with rfl | rfl
   ·~⟨t1,(Option.some.inj hv).symm⟩
   ·~⟨t2,(Option.some.inj hv).symm⟩
  ·by_cases hgt:a2 > a1
   ·have hb:argBest (fun i j=>decide ((if i=0 then a1 else a2) > (if j=0 then a1 else a2))) ([Value.int a1 t1,Value.int a2 t2].length - 1)=1:=by simp[argBest,hgt]
    rw[hb] at hv
    have hv':Value.int a2 t2=v:=Option.some.inj hv
    subst hv'
    ~⟨.int a2,H1,I1.kept k,⟨t2,rfl⟩,q _ H1 s01 (by show V.int a2=V.int _;rw[if_pos hgt])⟩
   ·have hb:argBest (fun i j=>decide ((if i=0 then a1 else a2) > (if j=0 then a1 else a2))) ([Value.int a1 t1,Value.int a2 t2].length - 1)=0:=by simp[argBest,hgt]
    rw[hb] at hv
    have hv':Value.int a1 t1=v:=Option.some.inj hv
    subst hv'
    ~⟨.int a1,H1,I1.kept k,⟨t1,rfl⟩,q _ H1 s01 (by show V.int a1=V.int _;rw[if_neg hgt])⟩
end
section
open PySem.SeqAt
open AutoSeq1 (wpAny_loadPart')
open MeetsSeq MeetsSeq2 MeetsSeq3 SeqRoads2
theorem B5(l:Addr)(items:Array Value)(n:Nat)(dd:Option Addr)(sl:Array (Option Value))(x:Value)(j:Nat)(hj:j<items.size) :
  Meets (Builtin.«tuple.index» ⟨[.ref l,x],[]⟩) (fun A R s=>s.heap.get? l=some {cls:=.type "tuple",dict:=dd,data:=.seq items n,slots:=sl}/\(∀i (h:i<items.size),i<=j->EqAt A.in1 s items[i] x (decide (i=j)))/\R (.ok (.ret (.int (j:Int) s.toks))) {s with toks:=s.toks+1}):=
 .of_wp fun prog w A R s h=>by
  !⟨hp,g,d,tk,os⟩:=s
  !⟨hl,he,h⟩:=h
  unfold Builtin.«tuple.index»
  simp only[Std.Legacy.Range.forIn_eq_forIn_range']
  wp_walk using wpAny_loadPart' hl,wpAny_forIn_list _ (fun rest b s'=>s'=⟨hp,g,d,tk,os⟩/\b=(none,())/\∃k,k<=j/\rest=List.range' k (items.size - k)) _
  case turn =>
   rintro i rest b s' ⟨rfl,rfl,k,hk,e⟩
   have hs:items.size - k=(items.size - (k+1))+1:=by omega
   rw[hs,List.range'_succ] at e
   cases e
   have hlt:i<items.size:=by omega
   have hi:items[i]?=some items[i]:=by simp[hlt]
   rw[hi]
   &wpAny_bind (he i hlt hk prog w _ _ ?_)
   by_cases hij:i=j
   ·subst hij
    rw[decide_eq_true rfl]
    wp_walk
    ~⟨_,rfl,h⟩
   ·rw[decide_eq_false hij]
    wp_walk
    ~⟨rfl,rfl,i+1,by omega,rfl⟩
  case fin =>
   rintro b s' ⟨rfl,rfl,k,hk,e⟩
   have hs:items.size - k=(items.size - (k+1))+1:=by omega
   rw[hs,List.range'_succ] at e
   cases e
  case h =>
   &⟨rfl,rfl,0,Nat.zero_le _,?_⟩
   simp
end
def L7(K:W.Frag)(mg:Str->Option Value)(x:Str)(ws:List Str):Prop:=∃a its n sl,mg x=some (.ref a)/\K.lookup a=some ⟨.type "tuple",none,.seq its n,sl⟩/\l6 (ws.map V.str) its.toList
section
variable{X:Cx}
def QE(K:W.Frag):V->List V->Hp->VK->Prop:=fun x vs H Q=>∃(p:Addr) (its:Array Value) (n:Nat) (sl:Array (Option Value)) (ws:List Str) (z:Str) (j:Nat),x=.ref p/\vs=[.str z]/\K.lookup p=some ⟨.type "tuple",none,.seq its n,sl⟩/\l6 (ws.map V.str) its.toList/\ws.findIdx? (·==z)=some j/\Q (.int (j:Nat)) H
theorem sM:Jy X "tuple.index" (QE X.K):=by
 intro pins s σ H x vs v us Q I rx rv h
 !⟨p,its,n,sl,ws,z,j,rfl,rfl,hk,hv,hj,q⟩:=h
 cases (show v=_ from rx)
 !⟨u,rfl,t,rfl⟩:=rv.one
 have e:=I.kIn p _ hk
 !⟨h1,h2,h3⟩:=List.findIdx?_eq_some_iff_getElem.mp hj
 have hlen:ws.length=its.size:=by have:=hv.length;simpa using this
 &call_meets F.slot_tuple_index ⟨_,e,rfl⟩ F.entry_tuple_index (F.args_tuple_index_2 _ _) (B5 p its n none sl (.str z t) j (by omega)) ⟨e,fun i hi hle=>?_,?_⟩
 ·have hw:i<ws.length:=by omega
  !⟨u,hu,ru⟩:=hv.get (i:=i) (x:=.str ws[i]) (by simp[hw])
  !⟨t2,rfl⟩:=ru
  have he:its[i]=Value.str ws[i] t2:=by
   have:its[i]?=some (Value.str ws[i] t2):=by simpa using hu
   rw[Array.getElem?_eq_getElem hi] at this
   ~Option.some.inj this
  rw[he]
  have hb:(ws[i]==z)=decide (i=j):=by
   by_cases hij:i=j
   ·subst hij
    rw[decide_eq_true rfl]
    ~h2
   ·rw[decide_eq_false hij]
    ~Bool.eq_false_iff.mpr (h3 i (by omega))
  rw[<- hb]
  ~SeqAt.EqAt.str_str _ _ _ _
 ·~⟨.int (j:Nat),H,I.tok _,⟨_,rfl⟩,q⟩
theorem tB{x:Str}{ws:List Str}{e:Expr}{f:R->OD}{px ap cp:Pos}(hc:L7 X.K X.mg x ws)(he:SE X e f)(hg:Gl X x:=by rfl)(hd:(x==("__debug__" : Str))=false:=by decide)
  (hbase:attributeBase (.Name x px) "index" X.env (eval (.Name x px) X.env)=eval (.Name x px) X.env:=by rfl) (hst:noStar e=true:=by rfl) (hline:(ap.endLine==cp.line)=true:=by rfl) :
  SE X (.Call (.Attribute (.Name x px) "index" ap) [e] [] cp) (wR (HX ws) f):=by
 !⟨a,its,n,sl,hm,hk,hv⟩:=hc
 have hs:=aF [] X.env hst
 &(oM (T:="tuple") PySem.F.plainAttrs_tuple PySem.F.slot_tuple_index PySem.F.type_tuple_index sM (lu (v:=.ref a) hg hm rfl hd) (ac he af hst).1 hbase (by rw[hs];rfl) hline hs rfl).imp fun σ H Q ⟨ρ,d,er,e,q⟩=>?_
 !⟨y,e1,e⟩:=h9 e
 cases y with
 | str z =>
  !⟨j,e2,e3⟩:=t7 e
  subst e3
  &⟨.inr (.inl ⟨rfl,_,hk,rfl,rfl⟩),ρ,[.str z],er,by show(f ρ).bind _=_;rw[e1];rfl,fun vs H2 s2 r2=>?_⟩
  !⟨v,r',rfl,h1,h2⟩:=r2
  cases (show v=_ from h1)
  cases (show r'=[] from h2)
  ~⟨a,its,n,sl,ws,z,j,rfl,rfl,hk,hv,e2,q _ H2 s2 rfl⟩
 | _=>cases e
end
section
variable{X:Cx}
def Rw:V->List V->Hp->VK->Prop:=fun x vs H Q=>∃z w,x=.str z/\vs=[]/\Ge z=some w/\Q (.str w) H
theorem JA{z w:Str}(h:Ge z=some w):Builtin.Str.tooLong (placed z fun _ c=>Unicode.upperOf c).size=false/\(⟨placed z fun _ c=>Unicode.upperOf c⟩:Str)=w:=by
 unfold Ge at h
 split at h
 ·rename_i e;cases h;subst e;~⟨by decide +kernel,by decide +kernel⟩
 ·split at h
  ·rename_i e;cases h;subst e;~⟨by decide +kernel,by decide +kernel⟩
  ·split at h
   ·rename_i e;cases h;subst e;~⟨by decide +kernel,by decide +kernel⟩
   ·cases h
theorem tS:Jy X "str.upper" Rw:=by
 intro pins s σ H x vs v us Q I rx rv h
 !⟨z,w,rfl,rfl,hz,q⟩:=h
 !⟨t,rfl⟩:=rx
 cases rv
 !⟨f1,f2⟩:=JA hz
 ~call_gives F.slot_str_upper (typeIs_str s z t) F.entry_str_upper (F.args_str_upper_1 _) (gives_str_upper z t f1) ⟨Nat.le_of_not_lt (of_decide_eq_false f1),.str w,H,I.tok _,⟨_,by rw[f2]⟩,q⟩
theorem sw{a:Expr}{f:R->OD}{ap cp:Pos}(ha:SE X a f)(hbase:attributeBase a "upper" X.env (eval a X.env)=eval a X.env:=by rfl)(hline:(ap.endLine==cp.line)=true:=by rfl) :
  SE X (.Call (.Attribute a "upper" ap) [] [] cp) (wR Py f):=(tF (T:="str") PySem.F.plainAttrs_str PySem.F.slot_str_upper PySem.F.type_str_upper tS ha hbase hline).imp fun σ H Q ⟨ρ,d,er,e,q⟩=>by
 !⟨x,e1,e⟩:=h9 e
 cases x with
 | str z =>
  !⟨w,e2,e3⟩:=t7 e
  subst e3
  ~⟨ρ,_,er,e1,fun v H1 s1 r1=>by cases (show v=_ from r1);~⟨rfl,z,w,rfl,rfl,e2,q _ H1 s1 rfl⟩⟩
 | _=>cases e
end
section
variable{X:Cx}{i k:Nat}{fa:Addr}{e a:Expr}{es:List Expr}{pos p:Pos}{f:R->OD}{F:R->Option LD}{G:LD->OD}
def QP(i:Nat)(fa:Addr)(σ:L2.St):Prop:=σ[i]?=some (some (.ref fa))
def NH(X:Cx)(i:Nat)(fa:Addr)(e:Expr)(f:R->OD):Prop:=PE X e (fun σ H Q=>QP i fa σ/\tD X.K f σ H Q)
def Pk(X:Cx)(i:Nat)(fa:Addr)(es:List Expr)(F:R->Option LD):Prop:=PA X es (fun σ H Q=>QP i fa σ/\Po X.K F σ H Q)/\(∀ ρ ds,F ρ=some ds->ds.length=es.length)/\es.all noStar=true
def Q1(X:Cx)(i:Nat)(fa:Addr)(st:Stmt)(g:R->Option Out):Prop:=PS X st (fun E σ H=>QP i fa σ/\Lv X.K g E σ H)
def Oe(P:Program)(w:World)(K:W.Frag)(mg:Str->Option Value)(base:Heap)(k:Nat)(fa:Addr)(G:LD->OD):Prop:=∃fd ps,k6 P w K mg base ue k fa fd ps (uP K G)/\W.keepIn K (.ref fa)=true/\Binds K fd ps []
theorem uR{P:Program}{w:World}{K:W.Frag}{mg:Str->Option Value}{base:Heap}{x:Str}{ps:List Str}(C:l8 P w K mg base k x ps G)(h:mg x=some (.ref fa)):Oe P w K mg base k fa G:=by
 !⟨f,fd,a,m,kp,bd⟩:=C.ex
 rw[h] at m
 cases m
 ~⟨fd,ps,a,kp,bd⟩
theorem Mw(h:SE X e f):NH X i fa e f:=h.imp fun _ _ _ q=>q.2
theorem IW(h:SA X es F):Pk X i fa es F:=⟨h.1.imp fun _ _ _ q=>q.2,h.2⟩
theorem Bo(ha:NH X i fa e f)(hr:Pk X i fa es F)(hs:noStar e=true:=by rfl):Pk X i fa (e::es) (c4 f F):=⟨(eT ha hr.1 (aF es X.env hs)).imp fun σ H Q ⟨x,ρ,ds,er,e,q⟩=>by
 !⟨d,e1,e⟩:=h9 e
 !⟨y,e2,e⟩:=t7 e
 subst e
 ~⟨x,ρ,d,er,e1,fun v H1 s1 r1=>⟨x,ρ,y,er.mono s1,e2,fun vs H2 s2 r2=>q _ H2 (s1.trans s2) (i5.cons (r1.mono s2) r2)⟩⟩,fun ρ ds e=>by
 !⟨d,e1,e⟩:=h9 e
 !⟨y,e2,e⟩:=t7 e
 subst e
 simp[hr.2.1 ρ y e2],by rw[List.all_cons,hs,hr.2.2];rfl⟩
theorem Hz{x:Str}{ps:List Str}(C:l8 X.prog X.w X.K X.mg X.base k x ps G)(hr:ua k X.A)(ha:Pk X i fa (e::es) F)(hg:Gl X x:=by rfl)
  (hdb:(x==("__debug__" : Str))=false:=by decide):NH X i fa (.Call (.Name x p) (e::es) [] pos) (c8 G F):=by
 have hst:=ha.2.2
 rw[List.all_cons,Bool.and_eq_true] at hst
 have he:=aF es X.env hst.1
 have hpl:=bv (pos:=pos) (env:=X.env) hst.2
 !⟨f,fd,a,m,kp,bd⟩:=C.ex
 &(iR a hr hg m kp bd .nil yk ha.1 hdb he hpl).imp fun σ H Q ⟨x,ρ,d,er,e,q⟩=>?_
 !⟨ds,e1,e⟩:=h9 e
 ~⟨x,ρ,ds,er,e1,fun vs H1 s1 r1=>⟨ds,d,by rw[List.append_nil];~r1,e,fun v H2 s2 r2=>q v H2 (s1.trans s2) r2⟩⟩
theorem JF{k}(h:Pk X i fa es F)(hl:Nat.ble es.length 1000=true:=by rfl):NH X i fa (.Tuple es k pos) (l7 F):=(nH h.1).imp fun σ H Q ⟨x,ρ,d,er,e,q⟩=>by
 !⟨ds,e1,e⟩:=t7 e
 subst e
 &⟨x,ρ,ds,er,e1,fun vs H1 s1 r1=>⟨?_,fun p hp=>?_⟩⟩
 ·rw[<- r1.length,h.2.1 ρ ds e1];~Nat.le_of_lt (yL (Nat.le_of_ble_eq_true hl))
 ·have s2:=bh hp (.tup vs)
  ~q _ _ (s1.trans s2) ⟨p,vs,rfl,xj.of au,r1.mono s2⟩
theorem Cu{x:Str}(hF:Oe X.prog X.w X.K X.mg X.base k fa G)(hr:ua k X.A)(ha:SA X (e::es) F)(hN:X.N[i]?=some x:=by rfl)(hv:Ca X.env.scope x:=by first | ~Or.inl rfl | ~Or.inr (Or.inl rfl) | ~Or.inr (Or.inr rfl))
  (hd:(x==("__debug__" : Str))=false:=by decide) (hcd:(x==("__classdict__" : Str))=false:=by decide):NH X i fa (.Call (.Name x p) (e::es) [] pos) (c8 G F):=by
 have hst:=ha.2.2
 rw[List.all_cons,Bool.and_eq_true] at hst
 have he:=aF es X.env hst.1
 have hpl:=bv (pos:=pos) (env:=X.env) hst.2
 !⟨fd,ps,a,kp,bd⟩:=hF
 intro pins s σ H Q I h
 !⟨x1,ρ,d,er,e,q⟩:=h
 !⟨ds,e1,e⟩:=h9 e
 &wpAny_Call_Name_kw (uo (jx (pos:=p) hN hv hd hcd pins s σ H (fun v H1=>v=.ref fa/\H1=H) I ⟨.ref fa,x1,rfl,rfl⟩) fun u s1 ⟨v,H1,I1,rv,ev,eH⟩=>?_)
 subst ev eH
 cases (show u=_ from rv)
 &W.callWith_K (h₀:=X.base) I1.ok.mod.kin kp (uo (ha.1 pos pins s1 σ H1 (fun vs H2=>i6 H1 H2/\i5 X.K H2 ds vs) I1 ⟨ρ,ds,er,e1,fun vs H2 s2 r2=>⟨s2,r2⟩⟩) fun us s2 ⟨vs,H2,I2,r,s12,rp⟩=>⟨I2.kIn,?_⟩) he hpl
 ~A5 a hr bd .nil yk I2 r ⟨ds,d,by rw[List.append_nil];~rp,e,fun v H3 s3 r3=>q v H3 (s12.trans s3) r3⟩
theorem HG(ha:NH X i fa a f):Q1 X i fa (.Return (some a) pos) (l4 f):=(lH ha).imp fun E σ H ⟨x,ρ,τ,o,er,e,q⟩=>by
 !⟨d,e1,e⟩:=t7 e
 subst e
 ~⟨x,ρ,d,er.1,e1,fun v H1 s1 r1=>q H1 s1 v r1⟩
inductive Tab (P:Program) (w:World) (K:W.Frag) (mg:Str->Option Value) (base:Heap) (k:Nat):List (Str×(LD->OD))->List (Str×Value)->Prop
 | nil:Tab P w K mg base k [] []
 | cons {z:Str} {G:LD->OD} {fa:Addr} {t:List (Str×(LD->OD))} {vs:List (Str×Value)}:Oe P w K mg base k fa G->Tab P w K mg base k t vs->Tab P w K mg base k ((z,G)::t) ((z,.ref fa)::vs)
theorem Tab.get{P:Program}{w:World}{K:W.Frag}{mg:Str->Option Value}{base:Heap}{t:List (Str×(LD->OD))}{vs:List (Str×Value)}(h:Tab P w K mg base k t vs){z:Str}(e:t.lookup z=some G):∃fa,valueAt vs z=some (.ref fa)/\Oe P w K mg base k fa G:=by
 induction h with
 | nil=>cases e
 | @cons y G' fa t vs h1 h2 ih =>
  unfold valueAt
  rw[List.find?_cons]
  by_cases hz:y=z
  ·subst hz
   rw[List.lookup_cons,beq_self_eq_true] at e
   cases e
   simp
   ~h1
  ·rw[List.lookup_cons,beq_eq_false_iff_ne.mpr (fun q=>hz q.symm)] at e
   !⟨fb,q1,q2⟩:=ih e
   &⟨fb,?_,q2⟩
   unfold valueAt at q1
   simp[hz]
   simpa using q1
def Ew(P:Program)(w:World)(K:W.Frag)(mg:Str->Option Value)(base:Heap)(k:Nat)(T:Str)(t:List (Str×(LD->OD))):Prop:=∃a vs,mg T=some (.ref a)/\(∀h:Heap,K.In h->h.DictOf (strKind P w) a vs)/\Tab P w K mg base k t vs
def entries(w:World):List (Str×Tok×Value)->List DictEntry
 | []=>[]
 | (z,t,v)::r=>{hash:=PyData.keyHash w.params z,key:=.str z t,val:=v}::entries w r
theorem me{P:Program}{w:World}{K:W.Frag}{a:Addr}{n:Nat}(l:List (Str×Tok×Value))(hk:K.lookup a=some ⟨.type "dict",none,.dict (entries w l).toArray n,#[]⟩)(hn:(l.map (·.1)).Nodup)(h:Heap)(X:K.In h) :
  h.DictOf (strKind P w) a (l.map fun p=>(p.1,p.2.2)):=by
 &⟨_,_,_,X _ _ hk,⟨rfl,rfl,rfl⟩,rfl,?_,?_,?_⟩
 ·intro e he
  have he':e∈entries w l:=by simpa using he
  clear he hk hn
  induction l with
  | nil=>cases he'
  | cons p l ih =>
   !⟨z,t,v⟩:=p
   rcases List.mem_cons.mp he' with rfl | h2
   ·~⟨z,strKind_is P w z t,rfl⟩
   ·~ih h2
 ·show Pairs _ (entries w l) _
  clear hk hn
  induction l with
  | nil=>~.nil
  | cons p l ih =>
   !⟨z,t,v⟩:=p
   ~.cons (strKind_is P w z t) rfl ih
 ·rw[List.map_map]
  ~hn
theorem ut.hide{K:W.Frag}{H:Hp}{ρ:R}{σ:L2.St}(e:ut K H ρ σ)(i:Nat)(v:Option V):ut K H (ρ.set i none) (σ.set i v):=by
 &⟨by simpa using e.1,fun j c h=>?_⟩
 by_cases hj:i=j
 ·subst hj
  by_cases hi:i<ρ.length
  ·rw[List.getElem?_set_self hi] at h
   cases h
  ·rw[List.getElem?_eq_none (by simpa using hi)] at h
   cases h
 ·rw[List.getElem?_set_ne hj] at h ⊢
  ~e.2 j c h
theorem sD{T x:Str}{pt px ps:Pos}{st:Stmt}{t:List (Str×(LD->OD))}{g:(LD->OD)->R->Option Out}(i:Nat)(hN:X.N.Nodup)(hT:Ew X.prog X.w X.K X.mg X.base k T t)(he:SE X e f)(hb:∀fa G,Oe X.prog X.w X.K X.mg X.base k fa G->Q1 X i fa st (g G))
  (hg:Gl X T:=by rfl) (hi:X.N[i]?=some x:=by rfl) (hx:Loc X.env.scope x:=by first | ~Or.inl rfl | ~Or.inr rfl) (hs:C8 e:=by intro _ _;rfl)
  (hw:swapsWith (.Subscript (.Name T pt) e ps) (some (.Name x px)) pos.line X.env=pure false:=by rfl) (hf:X.fn x=true\/X.env.scope.names.lookup x=some .local:=by first | ~.inl rfl | ~.inr rfl) (hdb:(T==("__debug__" : Str))=false:=by decide) :
  SS X [.Assign [.Name x px] (.Subscript (.Name T pt) e ps) pos,st] (Nz i t f g):=by
 !⟨a,vs,hm,hd,ht⟩:=hT
 have hix:IxR X (fun x y H Q=>∃z fa,x=.ref a/\y=.str z/\valueAt vs z=some (.ref fa)/\Q (.ref fa) H):=by
  intro value slice pins s σ H x y v u Q I rx ry h hs
  !⟨z,fa,rfl,rfl,hv,q⟩:=h
  cases rx
  !⟨tk,rfl⟩:=ry
  have hdd:=hd s.heap I.kIn
  ~tail_any hdd.mapOf.typeIs PySem.F.slot_dict_getitem.lookup (wpAny_getItem_of (strKind_is X.prog X.w z tk) hdd.mapOf hv ⟨.ref fa,H,I.tok _,rfl,q⟩) hs
 have hsub:=sC (pos:=ps) hix (lu (pos:=pt) (v:=.ref a) hg hm rfl hdb) he hs
 intro pins s σ H E I h
 !⟨ρ,τ,o,er,ef,q⟩:=h
 !⟨d,e1,ef⟩:=h9 ef
 cases d with
 | str z =>
  !⟨G,e2,e3⟩:=h9 ef
  !⟨fa,hv,hF⟩:=ht.get e2
  have hl:i<σ.length:=by
   rw[I.len]
   ~(List.getElem?_eq_some_iff.mp hi).1
  split at e3
  case isFalse=>cases e3
  case isTrue hlt =>
  &dl (g_ hN hi hx hsub hw hf) (da (hb fa G hF)) pins s σ H E I ?_
  &⟨ρ,_,er.1,e1,fun v H1 s1 r1=>⟨z,fa,rfl,r1,hv,?_⟩⟩
  &⟨List.getElem?_set_self hl,ρ.set i none,τ,o,⟨(er.1.mono s1).hide i _,?_⟩,e3,fun H2 s2=>q H2 (s1.trans s2)⟩
  rw[List.length_set,List.drop_set_of_lt hlt]
  ~er.2
 | _=>cases ef
end
section
variable{X:Cx}
end
end HW
namespace HW
open PySem
def Gy:LD->Option (List Str)
 | []=>some []
 | d::r=>(sI d).bind fun x=>(Gy r).map fun xs=>x::xs
def DZ(sep:Str)(xs:List Str):Option Str:=if xs.toArray.foldl (fun n x=>n+x.length+sep.length) 0<=sizeLine/\(Builtin.Str.glued sep xs).length<=sizeLine then some (Builtin.Str.glued sep xs) else none
@[simp] def Q2:LD->OD
 | [.str s,.lst ds]=>(Gy ds).bind fun xs=>(DZ s xs).map .str
 | _=>none
@[simp] def C2:LD->OD
 | [.str s,.lst ds]=>(Gy ds.reverse).bind fun xs=>(DZ s xs).map .str
 | _=>none
noncomputable def Li(x:Str)(n c:Nat):Str:=if n<=x.length then x else Builtin.Str.padded x (n - x.length) 0 c
@[simp] def O6:LD->OD
 | [.str x,.int i,.str f]=>if 0<=i/\i<=1000/\f.length=1 then some (.str (Li x i.toNat (f.cps.getD 0 0))) else none
 | _=>none
noncomputable def wF(a b c:Int):Nat:=if a<b then ((b - a - 1) / c+1).toNat else 0
def Ap(a b c:Int):LD:=(List.range (wF a b c)).map fun (k:Nat)=>D.int (a+(k:Int)*c)
@[simp] def C4 (f g h:R->OD):R->Option LD:=fun ρ=>(f ρ).bind fun x=>(g ρ).bind fun y=>(h ρ).bind fun z=>(nI x).bind fun i=>(nI y).bind fun j=>(nI z).bind fun c =>
 if -(2 ^ 60)<=i/\i<2 ^ 60 /\ -(2 ^ 60)<=j/\j<2 ^ 60/\0<c/\c<1073741824 then some (Ap i j c) else none
@[simp] def GY (c:R->Option Bool):R->Option Out:=fun ρ=>(c ρ).bind fun b=>if b then none else some (.nx ρ)
end HW
namespace HW
open PySem PySem.Spec PyProof.Rows L2
section
variable{X:Cx}{a:Expr}{f:R->OD}{pos p2:Pos}
end
theorem Rq{us:List Value}(h:us.length=1):∃x0,us=[x0]:=by
 match us,h with
 | [x0],_=>~⟨x0,rfl⟩
theorem ln2{us:List Value}(h:us.length=2):∃x0 x1,us=[x0,x1]:=by
 match us,h with
 | [x0,x1],_=>~⟨x0,x1,rfl⟩
theorem RS{us:List Value}(h:us.length=3):∃x0 x1 x2,us=[x0,x1,x2]:=by
 match us,h with
 | [x0,x1,x2],_=>~⟨x0,x1,x2,rfl⟩
section
variable{X:Cx}
def PD(X:Cx)(id:String)(G:LD->OD):Prop:=Jy X id fun x vs H Q=>∃dx ds d,Rep X.K H dx x/\i5 X.K H ds vs/\G (dx::ds)=some d/\∀v H',i6 H H'->Rep X.K H' d v->Q v H'
theorem tW {a e:Expr} {es:List Expr} {f:R->OD} {F:R->Option LD} {G:LD->OD} {name:Str} {id:String} {ap cp:Pos} (slot:Slot "str" name id)
    (hty:typeOf (.builtin id)=pure (.type "method_descriptor")) (hm:PD X id G) (hG:∀x ds d,G (x::ds)=some d->∃z,x=.str z) (ha:SE X a f) (hF:SA X (e::es) F)
    (hbase:attributeBase a name X.env (eval a X.env)=eval a X.env:=by rfl)
    (hfew:((backTo cp (starEach (e::es) X.env)).all (fun x=>!x.1)&&(backToKw cp (keywordEach [] X.env)).all (fun x=>x.1.isSome)
      && decide ((e::es).length+([]:List Keyword).length+(if ([]:List Keyword).isEmpty then 0 else 1)<30))=true:=by rfl)
    (hline:(ap.endLine==cp.line)=true:=by rfl) :
    SE X (.Call (.Attribute a name ap) (e::es) [] cp) (c8 G (c4 f F)):=by
  have hst:=hF.2.2
  rw[List.all_cons,Bool.and_eq_true] at hst
  &(oM (T:="str") PySem.F.plainAttrs_str slot hty hm ha hF.1 hbase hfew hline (aF es X.env hst.1) (bv (pos:=cp) (env:=X.env) hst.2)).imp fun σ H Q ⟨ρ,d,er,e,q⟩=>?_
  !⟨dd,e1,e⟩:=h9 e
  !⟨x,e2,e1⟩:=h9 e1
  !⟨ds,e3,e1⟩:=t7 e1
  subst e1
  !⟨z,rfl⟩:=hG x ds d e
  ~⟨ρ,_,er,e2,fun v H1 s1 r1=>⟨by cases (show v=_ from r1);~rfl,ρ,ds,er.mono s1,e3,fun vs H2 s2 r2=>⟨.str z,ds,d,r1.mono s2,r2,e,fun u H3 s3 r3=>q u H3 (s1.trans (s2.trans s3)) r3⟩⟩⟩
theorem CK:∀{K:W.Frag} {H:Hp} {ds:LD} {vs:List V} {us:List Value} {xs:List Str},Gy ds=some xs->i5 K H ds vs->l6 vs us->∃l:List (Str×Tok),us=strValues l/\l.map (·.1)=xs
 | _,_,[],vs,us,xs,e,r,h=>by
  cases e
  cases (show vs=[] from r)
  cases h
  ~⟨[],rfl,rfl⟩
 | K,H,d::ds,vs,us,xs,e,r,h=>by
  !⟨x,e1,e⟩:=h9 e
  !⟨ys,e2,rfl⟩:=t7 e
  !⟨v,vs',rfl,r1,r2⟩:=r
  have hv:=Eh e1 r1
  subst hv
  cases h with
  | cons h1 h2 =>
   !⟨t,rfl⟩:=h1
   !⟨l,rfl,rfl⟩:=CK e2 r2 h2
   ~⟨(x,t)::l,rfl,rfl⟩
theorem GI{sep:Str}{l:List (Str×Tok)}{pins:List (Addr×Obj)}{σ:L2.St}{H:Hp}{s:Shared}{Q:VK}(I:L2.Inv X pins σ H s)(hz:(Builtin.Str.glued sep (l.map (·.1))).length<=sizeLine)
  (q:Q (.str (Builtin.Str.glued sep (l.map (·.1)))) H):(joinMade sep l).post (EP X pins σ Q) s:=by
 have key:∀t,EP X pins σ Q (.str (Builtin.Str.glued sep (l.map (·.1))) t) s:=fun t=>⟨.str _,H,I,⟨t,rfl⟩,q⟩
 match l,hz,key with
 | [],hz,key=>~⟨hz,.str _,H,I.tok _,⟨_,rfl⟩,q⟩
 | [p],hz,key=>~key p.2
 | p1::p2::r,hz,key=>~⟨hz,.str _,H,I.tok _,⟨_,rfl⟩,q⟩
theorem HR(x:Str)(i:Int)(c:Nat)(t u u2:Tok)(h0:0<=i)(h1:i<=1000) :
  Gives (Builtin.«str.rjust» ⟨[.str x t,.int i u,.str ⟨#[c]⟩ u2],[]⟩) (if i<=x.length then .val (.str x t) else .str (Builtin.Str.padded x (i.toNat - x.length) 0 c)):=by
 have ei:Builtin.Str.asSsize (toString "str." ++ toString "rjust") (.int i u)=pure i:=asSsize_int _ _ _ (by rw[decide_eq_false (by omega),decide_eq_false (by omega)];rfl)
 have ez:Builtin.Str.tooLong i.toNat=false:=decide_eq_false (by
  have z:1000<=sizeLine:=by decide
  omega)
 have eb:Builtin.«str.rjust» ⟨[.str x t,.int i u,.str ⟨#[c]⟩ u2],[]⟩=(Builtin.Str.asSsize (toString "str." ++ toString "rjust") (.int i u) >>= fun n =>
   if n<=(x.length:Int) then (do rule (toString "str." ++ toString "rjust" ++ toString ".long-enough");ret (.str x t))
   else if Builtin.Str.tooLong n.toNat=true then unsupported (toString "str." ++ toString "rjust" ++ toString ":memory") else retStr (Builtin.Str.padded x (n.toNat - x.length) 0 c)):=rfl
 rw[eb,ei]
 show Gives (if i<=(x.length:Int) then _ else if Builtin.Str.tooLong i.toNat=true then _ else _) _
 rw[ez]
 split
 ·~Gives.rule (Gives.of_eq rfl)
 ·~Gives.of_eq rfl
end
section
variable{prog:Program}{w:World}{A:Around}{E:Value->Shared->Prop}{s:Shared}
theorem G4:typeLookup (.type "list_reverseiterator") "__len__" = pure none:=by
 rw[typeLookup_type,builtinLookup_eq_fast];kernel_rfl -- list_reverseiterator
theorem Jf:typeLookup (.type "list_reverseiterator") "__length_hint__" = pure (some (.builtin "list_reverseiterator.__length_hint__")):=by
 rw[typeLookup_type,builtinLookup_eq_fast];kernel_rfl -- list_reverseiterator
abbrev FZ(its:Array Value)(i:Nat)(v:Value):Prop:=its[its.size - 1 - i]?=some v
theorem D_{Q:List Value->Shared->Prop}{j l:Addr}{its:Array Value}(hh:A.handled=none)(hne:l≠j)(hj:s.heap.IsRevIter j l ((its.size:Int) - 1))(hl:s.heap.IsList l its)(hz:its.size<=sizeLine)
  (hQ:∀s' acc,Moved [j] (fun a b=>b=a) s s'->ItemsOf (FZ its) acc its.size->Q acc.toList s'):wpAny (model prog w) A (collect (.ref j)) Q E s:=by
 have W:=(Walks.listRev (prog:=prog) (w:=w) (A:=A.in1) hh j l hne its).toS
 have st0:(0<=its.size/\s.heap.IsRevIter j l ((its.size:Int) - 1 - ((0:Nat):Int))/\s.heap.IsList l its):=⟨Nat.zero_le _,by rw[show(its.size:Int) - 1 - ((0:Nat):Int)=(its.size:Int) - 1 by omega];~hj,hl⟩
 have hjs:j<s.heap.objs.size:=let ⟨o,ho,_⟩:=hj;Heap.lt_size ho
 have hls:l<s.heap.objs.size:=let ⟨o,ho,_⟩:=hl;Heap.lt_size ho
 have hnf:s.heap.objs.size ∉ [j,l]:=fun hm=>by
  rcases List.mem_cons.mp hm with ej | hm'
  ·~absurd hjs (by rw[ej];~Nat.lt_irrefl _)
  ·~absurd hls (by rw[List.mem_singleton.mp hm'];~Nat.lt_irrefl _)
 unfold collect
 &wpAny_bind (wpAny_runValue (codeAny_builtin PySem.F.entry_proto_collect ?_))
 rw[Around.under_plainId PySem.F.plain_proto_collect _];show wpAny _ A.in1 (newList [] >>= fun q=>again (.builtin "list.__iadd__" ⟨[q,.ref j],[]⟩)) _ _ s
 &wpAny_bind (wpAny_newObj_type (wpAny_pure ⟨plainId_quiet PySem.F.plain_list_iadd _,codeAny_builtin PySem.F.entry_list_iadd ?_⟩));rw[Around.under_plainId PySem.F.plain_list_iadd _]
 have st1:=W.frame 0 s (s.heap.push {cls:=.type "list",data:=.seq ([]:List Value).toArray}) s.toks st0 (Nat.le_refl _) fun b _ o e=>Heap.get?_push_of_some _ e
 have new1:(s.heap.push {cls:=.type "list",data:=.seq ([]:List Value).toArray}).get? s.heap.objs.size=some {cls:=.type "list",data:=.seq ([]:List Value).toArray}:=Heap.get?_push_size _ rfl
 have ne1:Builtin.List.listSameRef (.ref s.heap.objs.size) (.ref j)=false:=by
  have:s.heap.objs.size≠j:=fun e=>hnf (by rw[e];~List.mem_cons_self)
  simp[Builtin.List.listSameRef,this]
 have ty1:=(show _ from st1).2.1.typeIs (s:={s with heap:=s.heap.push {cls:=.type "list",data:=.seq ([]:List Value).toArray} })
 show wpAny _ A.in1 (Builtin.List.listExtendWith (.ref s.heap.objs.size) (.ref j) (.ref s.heap.objs.size)) _ _ _
 unfold Builtin.List.listExtendWith;&wpAny_bind (wpAny_typeOf ty1 ?_)
 rw[if_neg (by rw[ne1];decide)]
 &wpAny_bind (W.self 0 _ _ _ st1 (wpAny_bind (wpAny_holding ?_)));unfold Builtin.List.listLengthHint
 &wpAny_bind (wpAny_specialOf ty1 G4 ?_)
 show wpAny _ A.in1 (specialOf (Value.ref j) (oS "__length_hint__") >>= _) _ _ _
 &wpAny_bind (wpAny_specialOf ty1 Jf ?_)
 generalize K_:("list_reverseiterator.__length_hint__" : String)=nm
 wp_delta
 rw[show splitId nm=some ("list_reverseiterator","__length_hint__") from by subst K_;decide +kernel]
 subst K_
 &wpAny_bind (wpAny_isInstance (b:=true) ty1 (by rw[isSubtype_type];kernel_rfl) ?_)
 &wpAny_pure ?_
 rw[if_neg (by decide)]
 &wpAny_pure ⟨plainId_quiet PySem.F.plain_extend_loop _,codeAny_extend_loopS W hz _ hnf _ its.size 0 _ _ _ rfl (Nat.zero_le _) st1 new1 (ItemsOf.nil (FZ its)) fun s' acc' c' hm hS' hacc=>?_⟩
 show wpAny _ A (load s.heap.objs.size >>= _) _ _ s';~wpAny_bind (wpAny_load hS' (wpAny_pure (hQ s' acc' (Moved.drop_new (o:={cls:=.type "list",data:=.seq ([]:List Value).toArray}) (tk:=s.toks) hm (Nat.le_refl _)) hacc)))
theorem GW{lv:List (Str×Tok)}{acc:Array Value}(h:ItemsOf (FZ (strValues lv).toArray) acc (strValues lv).toArray.size):acc.toList=strValues lv.reverse:=by
 have hn:(strValues lv).toArray.size=lv.length:=by simp[strValues]
 have hr:strValues lv.reverse=(strValues lv).reverse:=by simp[strValues]
 rw[hr]
 have hs:acc.size=lv.length:=h.1.trans hn
 have hl:(strValues lv).length=lv.length:=by simp[strValues]
 &List.ext_getElem (by rw[List.length_reverse,Array.length_toList,hs,hl]) fun i h1 h2=>?_
 have h3:i<acc.size:=by simpa using h1
 have z:=h.2 i acc[i] (Array.getElem?_eq_getElem h3)
 unfold FZ at z
 rw[hn] at z
 have hi:i<lv.length:=by omega
 have z2:(strValues lv)[lv.length - 1 - i]?=some acc[i]:=by simpa using z
 rw[List.getElem_reverse]
 have h4:lv.length - 1 - i<(strValues lv).length:=by omega
 rw[List.getElem?_eq_getElem h4] at z2
 have z3:=Option.some.inj z2
 rw[Array.getElem_toList]
 simp only[hl]
 ~z3.symm
theorem ER(sep:Str)(l:List (Str×Tok))(h:Builtin.Str.tooLong ((l.map (·.1)).toArray.foldl (·+·.length+sep.length) 0)=false):Gives (joinTail sep (strValues l)) (joinMade sep l):=by
 match l,h with
 | [],h=>~gives_joinTail sep [] h
 | [a],h=>~gives_joinTail sep [a] h
 | a::b::r,h=>~gives_joinTail sep (a::b::r) h
theorem HN{Q:Value->Shared->Prop}{sep:Str}{t:Tok}{j l:Addr}{lv:List (Str×Tok)}(hh:A.handled=none)(hne:l≠j)(hj:s.heap.IsRevIter j l ((lv.length:Int) - 1))(hl:s.heap.IsList l (strValues lv).toArray)(hz:lv.length<=sizeLine)
  (hg:Builtin.Str.tooLong ((lv.reverse.map (·.1)).toArray.foldl (·+·.length+sep.length) 0)=false) (hQ:∀s',Moved [j] (fun a b=>b=a) s s'->(joinMade sep lv.reverse).post Q s') :
  wpAny (model prog w) A (call (.builtin "str.join") [.str sep t,.ref j]) Q E s:=by
 have hn:(strValues lv).toArray.size=lv.length:=by simp[strValues]
 &wpAny_call (codeAny_call_builtin PySem.F.slot_str_join.plain PySem.F.entry_str_join (PySem.F.slot_str_join.check _ _ _ _ _ _ _ _ (typeIs_str _ _ _) (PySem.F.args_str_join_2 _ _) ?_))
 rw[join_tree_other]
 &wpAny_bind (wpAny_typeOf hj.typeIs ?_)
 show wpAny _ A.in1 ((pyIter (.ref j)).tryCatch _ >>= fun it=>collect it >>= fun items=>joinTail sep items) _ _ s
 &wpAny_bind (wpAny_tryCatch (wpAny_pyIter_revIter hj (wpAny_bind (D_ (A:=A.in1) hh hne (by rw[hn];~hj) hl (by rw[hn];~hz) fun s' acc hm hacc=>?_))))
 rw[GW hacc]
 ~ER sep lv.reverse hg prog w A (wants Q E) s' (hQ s' hm)
end
section
variable{X:Cx}
theorem qU {a e:Expr} {f g:R->OD} {ap cp pr p2:Pos} (hc:X.calm=true) (hm:X.mg "reversed" = none) (ha:SE X a f) (he:SE X e g) (hg:Gl X "reversed":=by rfl) (hst:noStar e=true:=by rfl)
    (hbase:attributeBase a "join" X.env (eval a X.env)=eval a X.env:=by rfl)
    (hfew:((backTo cp (starEach [.Call (.Name "reversed" pr) [e] [] p2] X.env)).all (fun x=>!x.1)&&(backToKw cp (keywordEach [] X.env)).all (fun x=>x.1.isSome)
      && decide ([Expr.Call (.Name "reversed" pr) [e] [] p2].length+([]:List Keyword).length+(if ([]:List Keyword).isEmpty then 0 else 1)<30))=true:=by rfl)
    (hline:(ap.endLine==cp.line)=true:=by rfl) :
    SE X (.Call (.Attribute a "join" ap) [.Call (.Name "reversed" pr) [e] [] p2] [] cp) (c8 C2 (c4 f (c4 g c7))):=by
  intro pins s σ H Q I hw
  !⟨ρ,d,er,e0,q⟩:=hw
  !⟨dd,e1,e0⟩:=h9 e0
  !⟨x,e2,e1⟩:=h9 e1
  !⟨ds,e3,e1⟩:=t7 e1
  subst e1
  !⟨y,e4,e3⟩:=h9 e3
  cases e3
  match x,y,e0 with
  | .str sep,.lst es,e0 =>
    !⟨xs,e5,e0⟩:=h9 e0
    !⟨wd,e6,rfl⟩:=t7 e0
    unfold DZ at e6
    split at e6
    · rename_i hz
      cases e6
      have hst1:=aF [] X.env hst
      &wpAny_Call_method_late hbase hfew hline rfl (uo (ha pins s σ H (fun v H1=>i6 H H1/\Rep X.K H1 (.str sep) v) I ⟨ρ,_,er,e2,fun v H1 s1 r1=>⟨s1,r1⟩⟩) fun v s1 ⟨vx,H1,I1,r1,s01,rp⟩=>?_)
      cases (show vx=_ from rp)
      !⟨t,rfl⟩:=r1
      obtain⟨h1,h2⟩:=Fo (T:="str") (x:=.str sep) I1 ⟨t,rfl⟩ rfl
      &⟨"str","str.join",PySem.F.plainAttrs_str,PySem.F.slot_str_join,PySem.F.type_str_join,h1,h2,?_⟩
      &Calls.callWith_builtin rfl (Calls.evalArgs_plain (Calls.spliced_cons ?_))
      &wpAny_Call_Name_kw (cJ I1 hg hm (u:=.type "reversed") (by kernel_rfl) ?_)
      &callWith_type1 ?_ hst1 rfl
      rw[hst1]
      &Calls.spliced_cons (uo (he pins s1 σ H1 (fun v H2=>i6 H1 H2/\Rep X.K H2 (.lst es) v) I1 ⟨ρ,_,er.mono s01,e4,fun v H2 s2 r2=>⟨s2,r2⟩⟩) fun u s2 ⟨vu,H2,I2,ru,s12,rl⟩=>Calls.spliced_nil ?_)
      !⟨b,vs,rfl,hq,ts⟩:=rl
      cases (show u=_ from ru)
      !⟨its,rr,ht,hlen⟩:=I2.list (wj.of hq)
      !⟨lv,hu,hx⟩:=CK e5 ts.reverse (lY rr)
      have hi:its=strValues lv.reverse:=by
        have z:=congrArg List.reverse hu
        rw[List.reverse_reverse] at z
        rw[z];simp[strValues]
      subst hi
      subst hx
      have hlb:b<s2.heap.objs.size:=let ⟨o,ho,_⟩:=ht.isList;Heap.lt_size ho
      have hn:(strValues lv.reverse).toArray.size=lv.reverse.length:=by simp[strValues]
      have hlv:lv.reverse.length<=sizeLine:=by rw[<- hn,List.size_toArray,<- rr.length];~hlen
      &call_reversed_list ht.isList (Calls.spliced_nil ?_)
      &HN (I1.ok.hd hc) (lv:=lv.reverse) (Nat.ne_of_lt hlb) ⟨_,Heap.get?_push_size _ rfl,rfl,by rw[hn];rfl⟩ (ht.isList.at fun o ho=>Heap.get?_push_of_some _ ho) hlv ?_ fun s' hm=>?_
      · rw[List.reverse_reverse]
        ~decide_eq_false (Nat.not_lt.mpr hz.1)
      · rw[List.reverse_reverse]
        have I3:L2.Inv X pins σ H2 s':=by
          rw[hm.eq_with]
          ~I2.kept fun c o ho=>hm.heap c o (fun hc=>absurd (Heap.lt_size ho) (by rw[List.mem_singleton.mp hc];~Nat.lt_irrefl _)) (Heap.get?_push_of_some _ ho)
        ~GI I3 hz.2 (q _ H2 (s01.trans s12) rfl)
    · cases e6
theorem qv{c:Expr}{body:List Stmt}{f:R->Option Bool}{pos:Pos}(hp:PassesOwn (model X.prog X.w) X.A X.env X.xe)(hc:ST X c f):S1 X (.While c body [] pos) (GY f):=by
 have hb:PSs X body (fun _ _ _=>False):=fun pins s σ H D I h=>h.elim
 &(qS hp hc hb).imp fun E σ H ⟨ρ,τ,o,er,e,q⟩=>?_
 !⟨b,e1,e⟩:=h9 e
 cases b with
 | true=>cases e
 | false =>
  cases e
  &⟨fun m σ' H'=>σ'=σ/\H'=H,⟨0,rfl,rfl⟩,?_⟩
  rintro m _ _ ⟨rfl,rfl⟩
  ~⟨ρ,false,er.1,e1,fun H1 s1=>(if_neg (show ¬ (false=true) from Bool.false_ne_true)).mpr (q H1 s1 _ (er.mono s1))⟩
theorem tU:PD X "str.rjust" O6:=by
 intro pins s σ H x vs v us Q I rx rv h
 !⟨dx,ds,d,r1,r2,e,q⟩:=h
 match dx,ds,e with
 | .str z,[.int i,.str g],e =>
  replace e:(if 0<=i/\i<=1000/\g.length=1 then some (D.str (Li z i.toNat (g.cps.getD 0 0))) else none)=some d:=e
  split at e
  ·rename_i hz
   !⟨h0,h1,hg⟩:=hz
   cases e
   cases (show x=_ from r1)
   !⟨t,rfl⟩:=rx
   !⟨u,r',rfl,k1,r2⟩:=r2
   !⟨u2,r3,rfl,k2,r2⟩:=r2
   cases (show r3=[] from r2)
   cases (show u=_ from k1)
   cases (show u2=_ from k2)
   !⟨w1,w2,rfl,⟨t1,rfl⟩,⟨t2,rfl⟩⟩:=rv.two
   obtain⟨c,hc⟩:∃c,g=⟨#[c]⟩:=by
    !⟨⟨l⟩⟩:=g
    match l,hg with
    | [c],_=>~⟨c,rfl⟩
   subst hc
   have hi:(i.toNat:Int)=i:=by omega
   &call_gives PySem.F.slot_str_rjust (typeIs_str s z t) PySem.F.entry_str_rjust (PySem.F.args_str_rjust_3 _ _ _) (HR z i c t t1 t2 h0 h1) ?_
   have q':=q (.str (Li z i.toNat c)) H (i6.refl H) rfl
   unfold Li at q'
   by_cases hl:i.toNat<=z.length
   ·rw[if_pos hl] at q'
    rw[if_pos (by omega)]
    ~⟨.str z,H,I,⟨t,rfl⟩,q'⟩
   ·rw[if_neg hl] at q'
    rw[if_neg (by omega)]
    &⟨?_,.str _,H,I.tok _,⟨_,rfl⟩,q'⟩
    have z1:1000<=sizeLine:=by decide
    have z2:(Builtin.Str.padded z (i.toNat - z.length) 0 c).length=i.toNat:=by
     show(Array.replicate _ _++z.cps++Array.replicate _ _).size=_
     simp
     have:z.cps.size=z.length:=rfl
     omega
    rw[z2]
    omega
  ·cases e
theorem MB{x:D}{ds:LD}{d:D}(h:O6 (x::ds)=some d):∃z,x=.str z:=by
 cases x with
 | str z=>~⟨z,rfl⟩
 | _=>cases h
theorem tZ{a e:Expr}{es:List Expr}{f:R->OD}{F:R->Option LD}{ap cp:Pos}(ha:SE X a f)(hF:SA X (e::es) F)
  (hbase:attributeBase a "rjust" X.env (eval a X.env)=eval a X.env:=by rfl)
  (hfew:((backTo cp (starEach (e::es) X.env)).all (fun x=>!x.1)&&(backToKw cp (keywordEach [] X.env)).all (fun x=>x.1.isSome)&&decide ((e::es).length+([]:List Keyword).length+(if ([]:List Keyword).isEmpty then 0 else 1)<30))=true:=by rfl)
  (hline:(ap.endLine==cp.line)=true:=by rfl):SE X (.Call (.Attribute a "rjust" ap) (e::es) [] cp) (c8 O6 (c4 f F)):=
 tW PySem.F.slot_str_rjust PySem.F.type_str_rjust tU (fun _ _ _ h=>MB h) ha hF hbase hfew hline
end
section
variable{X:Cx}
end
theorem Nf{a b c:Int}(ha : -(2 ^ 60)<=a)(ha':a<2 ^ 60)(hb : -(2 ^ 60)<=b)(hb':b<2 ^ 60)(hc:0<c)(hc':c<1073741824):Builtin.Range.small a b c=true:=by
 have hd:0<=(b - a - 1) / c\/b - a - 1<0:=by
  by_cases h:b - a - 1<0
  ·~.inr h
  ·~.inl (Int.ediv_nonneg (by omega) (by omega))
 have hd2:a<b->(b - a - 1) / c<=b - a - 1:=fun h=>Int.ediv_le_self _ (by omega)
 unfold Builtin.Range.small Builtin.Range.rangeSize
 simp only[Builtin.Range.rangeFitsLong,Bool.and_eq_true,Bool.or_eq_true,decide_eq_true_eq,beq_iff_eq,gt_iff_lt,hc,if_true]
 split<;>omega
section
variable{X:Cx}
theorem GH{a b c:Int}(hc:0<c):((wF a b c:Nat):Int)=Builtin.Range.rangeSize a b c:=by
 unfold wF Builtin.Range.rangeSize
 rw[if_pos (show c > 0 from hc)]
 split
 ·rename_i h
  have:0<=(b - a - 1) / c:=Int.ediv_nonneg (by omega) (by omega)
  omega
 ·rfl
end
section
variable{X:Cx}{pins:List (Addr×Obj)}{σ:L2.St}{H:Hp}{s:Shared}{k:Nat}{y:Str}
def K_(X:Cx)(k:Nat)(y:Str):Cx:={X with N:=X.N.set k y}
end
end HW
namespace HW
open PySem
section
variable{prog:Program}{w:World}{A:Around}{E:Value->Shared->Prop}{g:_}{d:_}{os:_}
structure Nx (prog:Program) (w:World) (A:Around) (mk:Heap->Nat->Shared) (Good:Heap->Nat->Prop) (it:Addr) (st st':Heap->Prop) (P:Value->Prop):Prop where
 stay:∀h h',st h->(∀o,h.get? it=some o->h'.get? it=some o)->st h'
 stay':∀h h',st' h->(∀o,h.get? it=some o->h'.get? it=some o)->st' h'
 run:∀h tk (Q:Value->Shared->Prop) (E:Value->Shared->Prop),Good h tk->st h->(∀u h' tk',P u->st' h'->Heap.SameBut it h h'->Q u (mk h' tk')) ->
  wpAny (model prog w) A (Builtin.SmallTypes.nextOf (.ref it)) Q E (mk h tk)
structure Ne (prog:Program) (w:World) (A:Around) (mk:Heap->Nat->Shared) (Good:Heap->Nat->Prop) (it:Addr) (st:Heap->Prop):Prop where
 stay:∀h h',st h->(∀o,h.get? it=some o->h'.get? it=some o)->st h'
 run:∀h tk (Q:Value->Shared->Prop) (E:Value->Shared->Prop),Good h tk->st h->(∀h' e,Heap.ExtBut it h h'->(∃o,h'.get? e=some o/\o.cls=.type "StopIteration")->E (.ref e) (mk h' tk)) ->
  wpAny (model prog w) A (Builtin.SmallTypes.nextOf (.ref it)) Q E (mk h tk)
def K6(s:Shared)(h:Heap)(tk:Nat):Shared:={s with heap:=h,toks:=tk}
variable{Good:Heap->Nat->Prop}{s:Shared}{z TI TO i1 i2:Addr}{a b:Value}{st1 st1' st2 st2':Heap->Prop}{P1 P2:Value->Prop}
theorem gA{it l:Addr}{i:Nat}{items}{x:Value}{Q:Value->Shared->Prop}(hit:s.heap.IsTupleIter it l i)(hl:s.heap.IsTuple l items)(hx:items[i]?=some x)
  (hQ:∀h',h'.IsTupleIter it l (i+1)->Heap.SameBut it s.heap h'->Q x {s with heap:=h' }):wpAny (model prog w) A (Builtin.SmallTypes.nextOf (.ref it)) Q E s:=by
 !⟨o,ho,hc,hd⟩:=id hit
 !⟨ol,hol,_,nl,hdl⟩:=hl
 unfold Builtin.SmallTypes.nextOf
 &wpAny_bind (wpAny_callSpecial?_slot (name:=oS "__next__") hit.typeIs F.slot_tuple_iterator_next (wpAny_call_entry F.slot_tuple_iterator_next hit.typeIs F.entry_tuple_iterator_next ?_ (F.args_tuple_iterator_next_1 _)))
 show wpAny _ _ (field (.ref it) 0 >>= _) _ _ s;&wpAny_bind (wpAny_field ho hd (x:=.ref l) rfl ?_)
 show wpAny _ _ (if (Value.ref l==Value.none)=true then _ else _) _ _ s;rw[if_neg (show ¬ ((Value.ref l==Value.none)=true) from Bool.false_ne_true)]
 show wpAny _ _ (field (.ref it) 1 >>= _) _ _ s;&wpAny_bind (wpAny_field ho hd (x:=.int i 0) rfl ?_)
 show wpAny _ _ (seqItems? (.ref l) >>= _) _ _ s;&wpAny_bind (wpAny_seqItems hol hdl ?_)
 simp only[Int.toNat_natCast,hx]
 &wpAny_bind (wpAny_setField ho hd (by simp) (wpAny_pure ⟨x,rfl,wpAny_pure (hQ _ ⟨_,Heap.get?_update_self _ ho (Obj.isFreed_of_fields (Obj.data_mapFields hd _)),(Obj.cls_mapFields ..).trans hc,?_⟩ (Heap.SameBut.update ..))⟩))
 rw[Obj.data_mapFields hd];simp[rawInt]
theorem ij{it l:Addr}{i:Nat}{items}{Q:Value->Shared->Prop}(hh:A.handled=none)(hit:s.heap.IsTupleIter it l i)(hl:s.heap.IsTuple l items)(hx:items[i]?=none)
  (hE:∀h' e,Heap.ExtBut it s.heap h'->(∃o,h'.get? e=some o/\o.cls=.type "StopIteration")->E (.ref e) {s with heap:=h' }):wpAny (model prog w) A (Builtin.SmallTypes.nextOf (.ref it)) Q E s:=by
 !⟨o,ho,hc,hd⟩:=id hit
 !⟨ol,hol,_,nl,hdl⟩:=hl
 unfold Builtin.SmallTypes.nextOf
 &wpAny_bind (wpAny_callSpecial?_slot (name:=oS "__next__") hit.typeIs F.slot_tuple_iterator_next (wpAny_call_entry F.slot_tuple_iterator_next hit.typeIs F.entry_tuple_iterator_next ?_ (F.args_tuple_iterator_next_1 _)))
 show wpAny _ _ (field (.ref it) 0 >>= _) _ _ s;&wpAny_bind (wpAny_field ho hd (x:=.ref l) rfl ?_)
 show wpAny _ _ (if (Value.ref l==Value.none)=true then _ else _) _ _ s;rw[if_neg (show ¬ ((Value.ref l==Value.none)=true) from Bool.false_ne_true)]
 show wpAny _ _ (field (.ref it) 1 >>= _) _ _ s;&wpAny_bind (wpAny_field ho hd (x:=.int i 0) rfl ?_)
 show wpAny _ _ (seqItems? (.ref l) >>= _) _ _ s;&wpAny_bind (wpAny_seqItems hol hdl ?_)
 simp only[Int.toNat_natCast,hx]
 &wpAny_bind (wpAny_rule (wpAny_bind (wpAny_setField ho hd (by simp) ?_)));show wpAny _ _ (newExc (.type "StopIteration") [] >>= _) _ _ _
 &wpAny_bind ?_;simp only[newExc,newTuple]
 &wpAny_bind (wpAny_newObj_type ?_ (by size_fits));&wpAny_bind (m:=firstArgMember _ _) (wpAny_of_eq (a:=Value.none) (by first | rfl | (simp only[firstArgMember];rfl)) ?_)
 &wpAny_newObj_type ?_ (by size_fits);simp only[raiseNew]
 &wpAny_bind (wpAny_handled ?_);first | rw[show A.in1.handled=none from hh] | rw[hh]
 ~wpAny_bind (wpAny_pure (wpAny_throw (hE _ _ (((Heap.SameBut.update ..).extBut.push _).push _) ⟨_,Heap.get?_push_size _ rfl,rfl⟩)))
inductive Src where
 | lst (a:Addr)
 | tup (a:Addr)
 | txt (x:Str) (t:Tok)
def Src.val:Src->Value
 | .lst a=>.ref a
 | .tup a=>.ref a
 | .txt x t=>.str x t
noncomputable def Src.obj:Src->Obj
 | .lst a=>{cls:=.type "list_iterator",data:=.fields #[.ref a,.int 0 0]}
 | .tup a=>{cls:=.type "tuple_iterator",data:=.fields #[.ref a,.int 0 0]}
 | .txt x t=>{cls:=.type "str_ascii_iterator",data:=.fields #[.str x t,.int 0 0]}
def Src.ok(h:Heap):Src->Prop
 | .lst a=>∃xs,h.IsList a xs
 | .tup a=>∃xs,h.IsTuple a xs
 | .txt x _=>x.cps.all (·<128)=true
def Src.at(it:Addr)(i:Nat)(h:Heap):Src->Prop
 | .lst a=>h.IsListIter it a i
 | .tup a=>h.IsTupleIter it a i
 | .txt x t=>h.IsStrIter it "str_ascii_iterator" x t i
theorem Src.iter{S:Src}{Q:Value->Shared->Prop}(h:S.ok s.heap)(hQ:Q (.ref s.heap.objs.size) {s with heap:=s.heap.push S.obj}):wpAny (model prog w) A (pyIter S.val) Q E s:=by
 cases S with
 | lst a=>!⟨xs,h⟩:=h;~wpAny_pyIter_list h hQ
 | tup a=>!⟨xs,h⟩:=h;~wpAny_pyIter_tuple h hQ
 | txt x t=>~wpAny_pyIter_ascii h hQ
theorem Src.keep{S:Src}{it:Addr}{i:Nat}{h h':Heap}(q:S.at it i h)(k:∀o,h.get? it=some o->h'.get? it=some o):S.at it i h':=by
 cases S with
 | lst a=>~Heap.IsListIter.at q k
 | tup a=>!⟨o,e,r⟩:=q;~⟨o,k o e,r⟩
 | txt x t=>!⟨o,e,r⟩:=q;~⟨o,k o e,r⟩
theorem Src.start{S:Src}{it:Addr}{h:Heap}(q:h.get? it=some S.obj):S.at it 0 h:=by
 cases S<;>~⟨_,q,rfl,rfl⟩
theorem Src.nx {S:Src} {it:Addr} {i:Nat} {P:Value->Prop} (hx:∀h tk,Good h tk->match S with
  | .lst a=>∃xs x,h.IsList a xs/\xs[i]?=some x/\P x
  | .tup a=>∃xs x,h.IsTuple a xs/\xs[i]?=some x/\P x
  | .txt x _=>∃c,x.cps[i]?=some c/\∀u,P (.str ⟨#[c]⟩ u)):Nx prog w A (K6 s) Good it (fun h=>S.at it i h) (fun h=>S.at it (i+1) h) P where
 stay:=fun _ _ q k=>Src.keep q k
 stay':=fun _ _ q k=>Src.keep q k
 run:=fun h tk Q E gg q hQ=>by
  have z:=hx h tk gg
  cases S with
  | lst a=>!⟨xs,x,l,e,p⟩:=z;~wpAny_nextOf_list_item (s:=K6 s h tk) q l e fun h' q' sb=>hQ x h' tk p q' sb
  | tup a=>!⟨xs,x,l,e,p⟩:=z;~gA (s:=K6 s h tk) q l e fun h' q' sb=>hQ x h' tk p q' sb
  | txt x t=>!⟨c,e,p⟩:=z;~wpAny_nextOf_ascii_item (s:=K6 s h tk) q e fun h' q' sb=>hQ _ h' (tk+1) (p _) q' sb
theorem Src.ne {S:Src} {it:Addr} {i:Nat} (hh:A.handled=none) (hx:∀h tk,Good h tk->match S with
  | .lst a=>∃xs,h.IsList a xs/\xs[i]?=none
  | .tup a=>∃xs,h.IsTuple a xs/\xs[i]?=none
  | .txt x _=>x.cps[i]?=none):Ne prog w A (K6 s) Good it (fun h=>S.at it i h) where
 stay:=fun _ _ q k=>Src.keep q k
 run:=fun h tk Q E gg q hQ=>by
  have z:=hx h tk gg
  cases S with
  | lst a=>!⟨xs,l,e⟩:=z;~wpAny_nextOf_list_end (s:=K6 s h tk) hh q l e hQ
  | tup a=>!⟨xs,l,e⟩:=z;~ij (s:=K6 s h tk) hh q l e hQ
  | txt x t=>~wpAny_nextOf_ascii_end (s:=K6 s h tk) hh q z hQ
end
section
variable{prog:Program}{w:World}{A:Around}{E:Value->Shared->Prop}{s:Shared}
end
end HW
namespace HW
open PySem PySem.Spec PyProof.Rows L2
def Src.go(K:W.Frag)(i:Nat)(H:Hp)(v:V):Src->Prop
 | .lst a=>∃xs,wj K H a xs/\xs[i]?=some v
 | .tup a=>∃xs,xj K H a xs/\xs[i]?=some v
 | .txt x _=>∃c,x.cps[i]?=some c/\v=.str ⟨#[c]⟩
def Src.stop(K:W.Frag)(i:Nat)(H:Hp):Src->Prop
 | .lst a=>∃xs,wj K H a xs/\xs.length<=i
 | .tup a=>∃xs,xj K H a xs/\xs.length<=i
 | .txt x _=>x.cps.size<=i
section
variable{X:Cx}{pins:List (Addr×Obj)}{σ:L2.St}{H:Hp}{s:Shared}{S:Src}{i:Nat}{v:V}
end
section
variable{X:Cx}
end
end HW
namespace HW
open PySem
def LO:List (Str×D)->Str->OD
 | [],_=>none
 | p::r,x=>if p.1=x then some p.2 else LO r x
end HW
namespace L2
open PySem PySem.Spec PyProof.Rows
section
variable{κ:Type}[DecidableEq κ]
def yV(kvs:List (κ×V))(k:κ):Option V:=(kvs.find? fun kv=>decide (kv.1=k)).map (·.2)
def putK(kvs:List (κ×V))(k:κ)(v:V):List (κ×V):=
 if (kvs.any fun kv=>decide (kv.1=k))=true then kvs.map (fun kv=>if kv.1=k then (kv.1,v) else kv) else kvs++[(k,v)]
def Lc(kvs:List (κ×V))(k:κ):List (κ×V):=kvs.filter fun kv=>decide (kv.1≠k)
theorem zZ{p:κ×V}{r:List (κ×V)}{k:κ}(e:p.1=k):yV (p::r) k=some p.2:=by simp[yV,List.find?_cons,e]
theorem zG{p:κ×V}{r:List (κ×V)}{k:κ}(e:¬ p.1=k):yV (p::r) k=yV r k:=by simp[yV,List.find?_cons,e]
theorem Ey(k:κ):∀kvs:List (κ×V),(kvs.any fun kv=>decide (kv.1=k))=(yV kvs k).isSome
 | []=>rfl
 | p::r=>by
  rw[List.any_cons]
  by_cases e:p.1=k
  ·simp only[zZ e,decide_eq_true e,Bool.true_or,Option.isSome_some]
  ·rw[zG e,decide_eq_false e,Bool.false_or];~Ey k r
theorem yU.isSome_eq{o:Option V}{u:Option Value}(r:yU o u):o.isSome=u.isSome:=by
 cases o with
 | none=>cases u with
  | none=>rfl
  | some _=>~(show False from r).elim
 | some _=>cases u with
  | none=>~(show False from r).elim
  | some _=>rfl
theorem yU.getD{o:Option V}{u:Option Value}{d:V}{d':Value}(r:yU o u)(rd:RelV d d'):RelV (o.getD d) (u.getD d'):=by
 cases o with
 | none=>cases u with
  | none=>~rd
  | some _=>~(show False from r).elim
 | some _=>cases u with
  | none=>~(show False from r).elim
  | some _=>~r
theorem KV.val{kvs:List (κ×V)}{vs:List (κ×Value)}(r:KV kvs vs)(k:κ):yU (yV kvs k) (valueAt vs k):=by
 unfold KV at r
 induction r with
 | nil=>~True.intro
 | @cons p q ps qs h t ih =>
  !⟨h1,h2⟩:=h
  by_cases e:p.1=k
  ·have e':q.1=k:=h1.symm.trans e
   have b:valueAt (q::qs) k=some q.2:=by simp[valueAt,List.find?_cons,e']
   rw[zZ e,b];~h2
  ·have e':¬ q.1=k:=fun z=>e (h1.trans z)
   have b:valueAt (q::qs) k=valueAt qs k:=by simp[valueAt,List.find?_cons,e']
   rw[zG e,b];~ih
theorem KV.any{kvs:List (κ×V)}{vs:List (κ×Value)}(r:KV kvs vs)(k:κ):(kvs.any fun kv=>decide (kv.1=k))=vs.any fun kv=>decide (kv.1=k):=by
 unfold KV at r
 induction r with
 | nil=>rfl
 | cons h t ih=>rw[List.any_cons,List.any_cons,ih,h.1]
theorem KV.repl{kvs:List (κ×V)}{vs:List (κ×Value)}(r:KV kvs vs)(k:κ){y:V}{u:Value}(ry:RelV y u) :
  KV (kvs.map fun kv=>if kv.1=k then (kv.1,y) else kv) (vs.map fun kv=>if kv.1=k then (kv.1,u) else kv):=by
 unfold KV at r ⊢
 induction r with
 | nil=>~.nil
 | @cons p q ps qs h t ih =>
  rw[List.map_cons,List.map_cons]
  &.cons ?_ ih
  !⟨h1,h2⟩:=h
  by_cases e:p.1=k
  ·rw[if_pos e,if_pos (h1.symm.trans e)];~⟨h1,ry⟩
  ·rw[if_neg e,if_neg (fun z=>e (h1.trans z))];~⟨h1,h2⟩
theorem KV.put{kvs:List (κ×V)}{vs:List (κ×Value)}(r:KV kvs vs)(k:κ){y:V}{u:Value}(ry:RelV y u):KV (putK kvs k y) (stored vs k u):=by
 unfold putK stored
 rw[r.any k]
 by_cases e:(vs.any fun kv=>decide (kv.1=k))=true
 ·rw[if_pos e,if_pos e];~r.repl k ry
 ·rw[if_neg e,if_neg e];~Paired.snoc r ⟨rfl,ry⟩
theorem KV.drop{kvs:List (κ×V)}{vs:List (κ×Value)}(r:KV kvs vs)(k:κ):KV (Lc kvs k) (without vs k):=by
 unfold KV at r ⊢
 unfold Lc without
 induction r with
 | nil=>~.nil
 | @cons p q ps qs h t ih =>
  !⟨h1,h2⟩:=h
  rw[List.filter_cons,List.filter_cons]
  by_cases e:p.1=k
  ·have a:¬ decide (p.1≠k)=true:=by simp[e]
   have b:¬ decide (q.1≠k)=true:=by simp[h1.symm.trans e]
   rw[if_neg a,if_neg b];~ih
  ·have e':¬ q.1=k:=fun z=>e (h1.trans z)
   have a:decide (p.1≠k)=true:=by simp[e]
   have b:decide (q.1≠k)=true:=by simp[e']
   rw[if_pos a,if_pos b];~.cons ⟨h1,h2⟩ ih
theorem KV.keys{kvs:List (κ×V)}{vs:List (κ×Value)}(r:KV kvs vs):kvs.map (·.1)=vs.map (·.1):=by
 unfold KV at r
 induction r with
 | nil=>rfl
 | cons h t ih=>rw[List.map_cons,List.map_cons,ih,h.1]
theorem KV.length{kvs:List (κ×V)}{vs:List (κ×Value)}(r:KV kvs vs):kvs.length=vs.length:=Paired.length r
end
abbrev KT(H:Hp):List (List Key×V)->List (List Key×Addr×Value)->Prop:=Paired fun p q=>p.1=q.1/\H q.2.1=some (.tup (p.1.map kV))/\RelV p.2 q.2.2
theorem KT.val{H:Hp}{kvs:List (List Key×V)}{xs:List (List Key×Addr×Value)}(r:KT H kvs xs)(k:List Key):yU (yV kvs k) ((atKey xs k).map (·.2)):=by
 induction r with
 | nil=>~True.intro
 | @cons p q ps qs h t ih =>
  !⟨h1,_,h2⟩:=h
  by_cases e:p.1=k
  ·have e':q.1=k:=h1.symm.trans e
   have b:atKey (q::qs) k=some q.2:=by simp[atKey,List.find?_cons,e']
   rw[zZ e,b];~h2
  ·have e':¬ q.1=k:=fun z=>e (h1.trans z)
   have b:atKey (q::qs) k=atKey qs k:=by simp[atKey,List.find?_cons,e']
   rw[zG e,b];~ih
theorem KT.repl{H:Hp}{kvs:List (List Key×V)}{xs:List (List Key×Addr×Value)}(r:KT H kvs xs)(k:List Key){y:V}{u:Value}(ry:RelV y u) :
  KT H (kvs.map fun kv=>if kv.1=k then (kv.1,y) else kv) (xs.map (putAt k u)):=by
 induction r with
 | nil=>~.nil
 | @cons p q ps qs h t ih =>
  rw[List.map_cons,List.map_cons]
  &.cons ?_ ih
  !⟨h1,h2,h3⟩:=h
  unfold putAt
  by_cases e:p.1=k
  ·rw[if_pos e,if_pos (h1.symm.trans e)];~⟨h1,h2,ry⟩
  ·rw[if_neg e,if_neg (fun z=>e (h1.trans z))];~⟨h1,h2,h3⟩
theorem KT.put{H:Hp}{kvs:List (List Key×V)}{xs:List (List Key×Addr×Value)}(r:KT H kvs xs)(k:List Key){b:Addr}{y:V}{u:Value}(hb:H b=some (.tup (k.map kV)))(ry:RelV y u) :
  KT H (putK kvs k y) (storedH xs k b u):=by
 have e:(kvs.any fun kv=>decide (kv.1=k))=(atKey xs k).isSome:=by
  rw[Ey,(r.val k).isSome_eq,Option.isSome_map]
 unfold putK storedH
 rw[e]
 by_cases q:(atKey xs k).isSome=true
 ·rw[if_pos q,if_pos q];~r.repl k ry
 ·rw[if_neg q,if_neg q];~Paired.snoc r ⟨rfl,hb,ry⟩
theorem KT.keeps{H H':Hp}{kvs:List (List Key×V)}{xs:List (List Key×Addr×Value)}(r:KT H kvs xs)(ht:∀b ys,H b=some (.tup ys)->H' b=some (.tup ys)):KT H' kvs xs:=
 Paired.mapP r fun _ _ z=>⟨z.1,ht _ _ z.2.1,z.2.2⟩
section
variable{P:Program}{w:World}{H:Hp}{h:Heap}{a:Addr}
end
def JC(H:Hp)(a:Addr)(y:V)(r:Option V):Prop:=
 (∃kvs k,Rd H a (.dK kvs)/\y=kV k/\r=yV kvs k)\/∃kvs k b,Rd H a (.dT kvs)/\y=.ref b/\H b=some (.tup (k.map kV))/\r=yV kvs k
def Ke(H:Hp)(a:Addr)(y v:V)(H':Hp):Prop:=
 (∃kvs k,H a=some (.dK kvs)/\y=kV k/\kvs.length<sizeLine/\H'=upd H a (.dK (putK kvs k v))) \/
 ∃kvs k b,H a=some (.dT kvs)/\y=.ref b/\H b=some (.tup (k.map kV))/\kvs.length<sizeLine/\H'=upd H a (.dT (putK kvs k v))
theorem JC.k{H:Hp}{a:Addr}{kvs:List (Key×V)}{k:Key}(e:H a=some (.dK kvs)):JC H a (kV k) (yV kvs k):=.inl ⟨kvs,k,.inl e,rfl,rfl⟩
theorem JC.t{H:Hp}{a b:Addr}{kvs:List (List Key×V)}{k:List Key}(e:H a=some (.dT kvs))(eb:H b=some (.tup (k.map kV))):JC H a (.ref b) (yV kvs k):=.inr ⟨kvs,k,b,.inl e,rfl,eb,rfl⟩
theorem Ke.k{H:Hp}{a:Addr}{kvs:List (Key×V)}{k:Key}{v:V}(e:H a=some (.dK kvs))(hl:kvs.length<sizeLine):Ke H a (kV k) v (upd H a (.dK (putK kvs k v))):=.inl ⟨kvs,k,e,rfl,hl,rfl⟩
theorem Ke.t{H:Hp}{a b:Addr}{kvs:List (List Key×V)}{k:List Key}{v:V}(e:H a=some (.dT kvs))(eb:H b=some (.tup (k.map kV)))(hl:kvs.length<sizeLine) :
  Ke H a (.ref b) v (upd H a (.dT (putK kvs k v))):=.inr ⟨kvs,k,b,e,rfl,eb,hl,rfl⟩
section
variable{X:Cx}{pins:List (Addr×Obj)}{σ:St}{H:Hp}{s:Shared}{a:Addr}{y v:V}{u r:Value}{o:Option V}{A:Around}{E:Value->Shared->Prop}
end
section
variable{X:Cx}{pins:List (Addr×Obj)}{σ:St}{H:Hp}{s:Shared}{a:Addr}{kvs:List (Key×V)}{k:Key}{u:Value}{A:Around}{E:Value->Shared->Prop}
end
section
variable{X:Cx}{o i e value:Expr}{pos pos' tpos:Pos}{td ty tv:TE}
end
section
variable{X:Cx}{pos:Pos}
end
section
variable{X:Cx}{pins:List (Addr×Obj)}{σ:St}{H:Hp}{s:Shared}{a:Addr}{y d:V}{u r:Value}{o:Option V}{A:Around}{E:Value->Shared->Prop}
end
section
variable{X:Cx}{o e f:Expr}{apos cpos:Pos}{td ty tx:TE}
end
section
variable{X:Cx}{pins:List (Addr×Obj)}{σ:St}{H:Hp}{s:Shared}{a:Addr}{kvs:List (Key×V)}{A:Around}{E:Value->Shared->Prop}
end
section
variable{X:Cx}{pins:List (Addr×Obj)}{σ:St}{H:Hp}{s:Shared}{a:Addr}{y:V}{u:Value}{A:Around}{E:Value->Shared->Prop}
end
end L2
namespace HW
open PySem PySem.Spec PyProof.Rows L2
def Qm(P:Program)(w:World)(a:Addr)(kvs:List (Key×V)):HO:=.ext fun h=>kvs.length<=sizeLine/\(a==sysModules)=false/\∃vs,KV kvs vs/\h.DictOf (AH P w) a vs
section
variable{X:Cx}{pins:List (Addr×Obj)}{σ:L2.St}{H:Hp}{s:Shared}{a:Addr}{kvs:List (Key×V)}
end
def xB(K:W.Frag)(H:Hp):List (Str×D)->List (Key×V)->Prop
 | [],vs=>vs=[]
 | p::r,vs=>∃v t,vs=(.inr p.1,v)::t/\Rep K H p.2 v/\xB K H r t
section
variable{K:W.Frag}{H H':Hp}
theorem xB.kp(s:Kp H H'):∀{ds:List (Str×D)} {vs:List (Key×V)},xB K H ds vs->xB K H' ds vs
 | [],_,h=>h
 | p::r,_,h=>by
  !⟨v,t,e,q,w⟩:=h
  ~⟨v,t,e,q.kp s,xB.kp s w⟩
theorem xB.mono(s:i6 H H'){ds:List (Str×D)}{vs:List (Key×V)}(h:xB K H ds vs):xB K H' ds vs:=h.kp (Kp.of s)
theorem xB.snoc:∀{ds:List (Str×D)} {vs:List (Key×V)} {x:Str} {d:D} {v:V},xB K H ds vs->Rep K H d v->xB K H (ds++[(x,d)]) (vs++[(.inr x,v)])
 | [],_,x,d,v,h,r=>by
  cases (show _=[] from h)
  ~⟨v,[],rfl,r,rfl⟩
 | p::ds,_,x,d,v,h,r=>by
  !⟨u,t,e,q,w⟩:=h
  subst e
  ~⟨u,t++[(.inr x,v)],rfl,q,xB.snoc w r⟩
theorem xB.len:∀{ds:List (Str×D)} {vs:List (Key×V)},xB K H ds vs->ds.length=vs.length
 | [],_,h=>by cases (show _=[] from h);rfl
 | p::r,_,h=>by
  !⟨v,t,e,q,w⟩:=h
  subst e
  simp[xB.len w]
theorem xB.at:∀{ds:List (Str×D)} {vs:List (Key×V)} {x:Str},xB K H ds vs->match LO ds x with
  | some d=>∃v,yV vs (Sum.inr x:Key)=some v/\Rep K H d v
  | none=>yV vs (Sum.inr x:Key)=none
 | [],_,x,h=>by cases (show _=[] from h);rfl
 | p::r,_,x,h=>by
  !⟨v,t,e,q,w⟩:=h
  subst e
  have ih:=xB.at (x:=x) w
  unfold LO
  by_cases hx:p.1=x
  ·rw[if_pos hx]
   ~⟨v,zZ (by rw[hx]),q⟩
  ·rw[if_neg hx]
   have n:yV (((Sum.inr p.1:Key),v)::t) (Sum.inr x)=yV t (Sum.inr x):=zG fun z=>hx (Sum.inr.inj z)
   rw[n]
   ~ih
end
def RJ(P:Program)(w:World)(K:W.Frag)(g:R->List (Str×D)->OD):TE:=fun σ H Q=>∃ ρ τ a ds xs d,uq K H ρ (some (.ref a)::τ) σ/\H a=some (Qm P w a xs)/\xB K H ds xs/\g ρ ds=some d/\∀v H',i6 H H'->Rep K H' d v->Q v H'
def KE(X:Cx)(e:Expr)(g:R->List (Str×D)->OD):Prop:=PE X e (RJ X.prog X.w X.K g)
section
variable{X:Cx}{st:Stmt}{sts:List Stmt}{u:R->Option Out}{w:R->List (Str×D)->Option Out}{pos:Pos}{e:Expr}{es:List Expr}{f:R->OD}{F:R->Option LD}
end
def Kd(H H':Hp):Prop:=∀b u,H b=some u->(∀kvs,u≠.dK kvs)->H' b=some u
mutual
theorem Rep.kd{K:W.Frag}{H H':Hp}(s:Kd H H'):∀{d:D} {v:V},uC d=true->Rep K H d v->Rep K H' d v
 | .non,_,hn,h=>h
 | .bl _,_,hn,h=>h
 | .int _,_,hn,h=>h
 | .str _,_,hn,h=>h
 | .tup ds,_,hn,h=>by
  !⟨a,xs,e,q,r⟩:=h
  &⟨a,xs,e,?_,i5.kd s hn r⟩
  rcases q with (h | ⟨o,h⟩) | h
  ·~.inl (.inl (s _ _ h fun φ z=>nomatch z))
  ·~.inl (.inr ⟨o,s _ _ h fun φ z=>nomatch z⟩)
  ·~.inr h
 | .lst ds,_,hn,h=>by
  !⟨a,xs,e,q,r⟩:=h
  ~⟨a,xs,e,s _ _ q (fun φ z=>by cases z),i5.kd s hn r⟩
 | .fro ds,_,hn,h=>by
  !⟨a,xs,e,q,r⟩:=h
  &⟨a,xs,e,?_,i5.kd s hn r⟩
  rcases q with (h | ⟨o,h⟩) | h
  ·~.inl (.inl (s _ _ h fun φ z=>nomatch z))
  ·~.inl (.inr ⟨o,s _ _ h fun φ z=>nomatch z⟩)
  ·~.inr h
 | .obj k a ks ds,_,hn,h=>by cases hn
 | .rf ..,_,hn,h=>by cases hn
theorem i5.kd{K:W.Frag}{H H':Hp}(s:Kd H H'):∀{ds:LD} {vs:List V},n5 ds=true->i5 K H ds vs->i5 K H' ds vs
 | [],_,_,h=>h
 | d::ds,_,hn,h=>by
  have hn':(uC d&&n5 ds)=true:=hn
  rw[Bool.and_eq_true] at hn'
  !⟨v,r,e,q,t⟩:=h
  ~⟨v,r,e,Rep.kd s hn'.1 q,i5.kd s hn'.2 t⟩
end
section
variable{X:Cx}{sts:List Stmt}{w:R->List (Str×D)->Option Out}{pos:Pos}{f:R->OD}
end
end HW
namespace HW
open PySem
end HW
namespace HW
open PySem PySem.Spec PyProof.Rows L2
variable{X:Cx}
end HW
namespace HW
open PySem PySem.SetTable
theorem IC(xs:Array Nat)(j:Nat)(H:∀a b,a<b->b<xs.size->xs.getD a 0<xs.getD b 0):∀fuel lo hi,hi - lo<=fuel->lo<=hi->hi<=xs.size ->
  (∀i,i<lo->xs.getD i 0<j)->(∀i,hi<=i->i<xs.size->j<=xs.getD i 0) ->
  below.go xs j fuel lo hi<=xs.size/\(∀i,i<below.go xs j fuel lo hi->xs.getD i 0<j)/\(∀i,below.go xs j fuel lo hi<=i->i<xs.size->j<=xs.getD i 0):=by
 intro fuel
 induction fuel with
 | zero =>
  intro lo hi h1 h2 h3 h4 h5
  have:lo=hi:=by omega
  subst this
  ~⟨h3,h4,h5⟩
 | succ fuel ih =>
  intro lo hi h1 h2 h3 h4 h5
  unfold below.go
  by_cases hlt:lo<hi
  ·rw[if_pos hlt]
   have hm:(lo+hi) / 2<xs.size:=by omega
   have e:xs.getD ((lo+hi) / 2) j=xs.getD ((lo+hi) / 2) 0:=by simp[Array.getD,hm]
   show(if xs.getD ((lo+hi) / 2) j<j then _ else _:Nat)<=_/\_
   dsimp only
   rw[e]
   by_cases hc:xs.getD ((lo+hi) / 2) 0<j
   ·rw[if_pos hc]
    &ih _ _ (by omega) (by omega) h3 (fun i hi'=>?_) h5
    by_cases he:i=(lo+hi) / 2
    ·subst he;~hc
    ·~Nat.lt_trans (H i _ (by omega) hm) hc
   ·rw[if_neg hc]
    &ih _ _ (by omega) (by omega) (by omega) h4 (fun i hi' hs=>?_)
    by_cases he:i=(lo+hi) / 2
    ·subst he;omega
    ·have:=H _ i (by omega:(lo+hi) / 2<i) hs;omega
  ·rw[if_neg hlt]
   have:lo=hi:=by omega
   subst this
   ~⟨h3,h4,h5⟩
def MA(xs:Array Nat):Prop:=∀a b,a<b->b<xs.size->xs.getD a 0<xs.getD b 0
theorem xA{xs:Array Nat}(H:MA xs)(j:Nat):below xs j<=xs.size/\(∀i,i<below xs j->xs.getD i 0<j)/\(∀i,below xs j<=i->i<xs.size->j<=xs.getD i 0):=
 IC xs j H xs.size 0 xs.size (by omega) (by omega) (by omega) (fun i h=>by omega) (fun i h h'=>by omega)
theorem J3{xs:Array Nat}(H:MA xs):below xs 0=0:=by
 !⟨a,b,c⟩:=xA H 0
 rcases Nat.eq_zero_or_pos (below xs 0) with h | h
 ·~h
 ·have:=b 0 h;omega
theorem Kh{xs:Array Nat}(H:MA xs){i:Nat}(hi:i<xs.size):below xs (xs.getD i 0+1)=i+1:=by
 !⟨a,b,c⟩:=xA H (xs.getD i 0+1)
 generalize below xs (xs.getD i 0+1)=r at *
 rcases Nat.lt_or_ge i r with h | h
 ·rcases Nat.lt_or_ge (i+1) r with h' | h'
  ·have h1:=b (i+1) h'
   have h2:=H i (i+1) (by omega) (by omega)
   omega
  ·omega
 ·have:=c i h hi;omega
theorem zD{α:Type}(xs:Array α)(p:Nat)(x:α):(insertAt xs p x).toList=xs.toList.take p++x::xs.toList.drop p:=by
 simp[SetTable.insertAt,List.extract_eq_take_drop,List.take_of_length_le]
theorem getD_list{α:Type}(xs:Array α)(i:Nat)(d:α):xs.getD i d=xs.toList[i]?.getD d:=by simp
theorem CW{α:Type}(xs:Array α){p i:Nat}(x d:α)(hp:p<=xs.size)(h:i<p):(insertAt xs p x).getD i d=xs.getD i d:=by
 rw[getD_list,getD_list,zD,List.getElem?_append_left (by rw[List.length_take_of_le (by simpa using hp)];~h),List.getElem?_take_of_lt h]
theorem IM{α:Type}(xs:Array α){p:Nat}(x d:α)(hp:p<=xs.size):(insertAt xs p x).getD p d=x:=by
 have e:(xs.toList.take p).length=p:=List.length_take_of_le (by simpa using hp)
 rw[getD_list,zD,List.getElem?_append_right (by rw[e];~Nat.le_refl _),e,Nat.sub_self];rfl
theorem Il{α:Type}(xs:Array α){p i:Nat}(x d:α)(hp:p<=xs.size)(h:p<=i):(insertAt xs p x).getD (i+1) d=xs.getD i d:=by
 have e:(xs.toList.take p).length=p:=List.length_take_of_le (by simpa using hp)
 rw[getD_list,getD_list,zD,List.getElem?_append_right (by rw[e];~Nat.le_succ_of_le h),e,Nat.succ_sub h,List.getElem?_cons_succ,List.getElem?_drop,Nat.add_sub_cancel' h]
theorem vQ{α:Type}(xs:Array α)(p:Nat)(x:α)(hp:p<=xs.size):(insertAt xs p x).size=xs.size+1:=by
 rw[<- Array.length_toList,zD,List.length_append,List.length_cons,<- Nat.add_assoc,<- List.length_append,List.take_append_drop,Array.length_toList]
theorem EQ{xs:Array Nat}(H:MA xs){j:Nat}(hj:(xs[below xs j]?==some j)=false):MA (insertAt xs (below xs j) j):=by
 !⟨a,b,c⟩:=xA H j
 have hne:below xs j<xs.size->xs.getD (below xs j) 0≠j:=fun h e=>by
  rw[Array.getElem?_eq_getElem h] at hj
  simp[Array.getD,h] at e
  simp[e] at hj
 generalize below xs j=r at *
 intro u v huv hv
 rw[vQ _ _ _ a] at hv
 rcases Nat.lt_trichotomy v r with h2 | h2 | h2
 ·rw[CW _ _ _ a h2,CW _ _ _ a (Nat.lt_trans huv h2)]
  ~H u v huv (Nat.lt_of_lt_of_le h2 a)
 ·subst h2
  rw[IM _ _ _ a,CW _ _ _ a huv]
  ~b u huv
 ·obtain⟨w,rfl⟩:∃w,v=w+1:=⟨v - 1,(Nat.succ_pred_eq_of_pos (Nat.lt_of_le_of_lt (Nat.zero_le _) h2)).symm⟩
  have hw:w<xs.size:=Nat.lt_of_succ_lt_succ hv
  have hrw:r<=w:=Nat.le_of_lt_succ h2
  have hjw:j<xs.getD w 0:=by
   rcases Nat.eq_or_lt_of_le hrw with q | q
   ·subst q
    ~Nat.lt_of_le_of_ne (c r hrw hw) (Ne.symm (hne hw))
   ·~Nat.lt_of_le_of_lt (c r (Nat.le_refl _) (Nat.lt_trans q hw)) (H r w q hw)
  rw[Il _ _ _ a hrw]
  rcases Nat.lt_trichotomy u r with h1 | h1 | h1
  ·rw[CW _ _ _ a h1]
   ~Nat.lt_trans (b u h1) hjw
  ·subst h1
   rw[IM _ _ _ a]
   ~hjw
  ·obtain⟨z,rfl⟩:∃z,u=z+1:=⟨u - 1,(Nat.succ_pred_eq_of_pos (Nat.lt_of_le_of_lt (Nat.zero_le _) h1)).symm⟩
   rw[Il _ _ _ a (Nat.le_of_lt_succ h1)]
   ~H z w (Nat.lt_of_succ_lt_succ huv) hw
theorem gap{xs:Array Nat}(H:MA xs)(hs:xs.size<=7):∃j,j<8/\∀i:Nat,xs[i]?≠some j:=by
 &Classical.byContradiction fun hn=>?_
 have hall:∀j,j<8->∃i,i<xs.size/\xs.getD i 0=j:=fun j hj=>by
  &Classical.byContradiction fun h=>hn ⟨j,hj,fun i e=>h ⟨i,?_⟩⟩
  have:i<xs.size:=by
   rcases Nat.lt_or_ge i xs.size with h | h
   ·~h
   ·rw[Array.getElem?_eq_none h] at e;cases e
  ~⟨this,by simp[e]⟩
 have hge:∀i,i<xs.size->i<=xs.getD i 0:=fun i=>by
  induction i with
  | zero=>intro _;omega
  | succ i ih=>intro h;have:=ih (by omega);have:=H i (i+1) (by omega) h;omega
 have hle:∀j,j<8->j<xs.size/\xs.getD j 0=j:=fun j=>by
  induction j with
  | zero =>
   intro _
   !⟨i,h1,h2⟩:=hall 0 (by omega)
   have:=hge i h1
   have:i=0:=by omega
   subst this;~⟨h1,h2⟩
  | succ j ih =>
   intro hj
   !⟨h1,h2⟩:=ih (by omega)
   !⟨i,h3,h4⟩:=hall (j+1) hj
   have h5:=hge i h3
   have h6:j<i:=by
    rcases Nat.lt_trichotomy i j with h | h | h
    ·have:=H i j h h1;omega
    ·subst h;omega
    ·~h
   have:i=j+1:=by omega
   subst this;~⟨h3,h4⟩
 have:=hle 7 (by omega)
 omega
structure TI (t:SetTable) (n:Nat):Prop where
 mask:t.mask=7
 dum:t.dummies=#[]
 plain:t.plain=true
 ris:MA t.place
 size:t.place.size=n
theorem slot_of{t:SetTable}(hd:t.dummies=#[])(j:Nat):t.slot j=if (t.place[below t.place j]?==some j)=true then .live (below t.place j) else .empty:=by
 unfold SetTable.slot
 dsimp only
 rw[hd]
 by_cases h:(t.place[below t.place j]?==some j)=true
 ·rw[if_pos h,if_pos h]
 ·rw[if_neg h,if_neg h];rfl
def way(i pt:Nat):Nat->Nat×Nat
 | 0=>(i,pt)
 | k+1=>way ((i*5+1+pt / 32)%8) (pt / 32) k
theorem JG(k:Nat):∀i pt m,way i pt (k+m)=way (way i pt k).1 (way i pt k).2 m:=by
 induction k with
 | zero=>intro i pt m;rw[Nat.zero_add];rfl
 | succ k ih=>intro i pt m;rw[Nat.succ_add];~ih _ _ _
theorem Ia:∀k i pt,i<8->(way i pt k).1<8
 | 0,_,_,h=>h
 | k+1,i,pt,_=>Ia k _ _ (Nat.mod_lt _ (by decide))
theorem Iy:∀k i pt,pt<32 ^ k->(way i pt k).2=0
 | 0,_,pt,h=>by simp at h;~h
 | k+1,i,pt,h=>Iy k _ _ (by rw[Nat.pow_succ] at h;~Nat.div_lt_of_lt_mul (by omega))
theorem Kr:∀i,i<8->∀j,j<8->∃k,k<8/\(way i 0 k).1=j:=by decide
theorem GT(i pt j:Nat)(hi:i<8)(hp:pt<2 ^ 64)(hj:j<8):∃k,k<21/\(way i pt k).1=j:=by
 have h1:=Iy 13 i pt (Nat.lt_of_lt_of_le hp (by decide))
 !⟨k,hk,e⟩:=Kr (way i pt 13).1 (Ia 13 _ _ hi) j hj
 &⟨13+k,by omega,?_⟩
 rw[JG,h1];~e
theorem RM{t:SetTable}(hm:t.mask=7)(i pt:Nat):t.advance ⟨i,0,i,pt,none⟩=⟨(i*5+1+pt / 32)%8,0,(i*5+1+pt / 32)%8,pt / 32,none⟩:=by
 unfold advance leap runEnd
 rw[hm]
 simp only[gt_iff_lt,Nat.lt_irrefl,if_false]
 have:¬ ((i*5+1+pt / 32)%(7+1)+9<=7):=by omega
 rw[if_neg this,Nat.sub_self]
theorem Jh{t:SetTable}{n:Nat}(T:TI t n)(h:Int):∀k fuel i pt,k<fuel->(t.place[below t.place (way i pt k).1]?==some (way i pt k).1)=false ->
  ∃j,(t.place[below t.place j]?==some j)=false/\probe.go t (fun _=>h+1) h fuel ⟨i,0,i,pt,none⟩=some (.empty j none):=by
 intro k
 induction k with
 | zero =>
  intro fuel i pt hf he
  obtain⟨f,rfl⟩:∃f,fuel=f+1:=⟨fuel - 1,by omega⟩
  have he':(t.place[below t.place i]?==some i)=false:=he
  &⟨i,he',?_⟩
  unfold probe.go
  show(match t.slot i with | .empty=>_ | .dummy=>_ | .live _=>_)=_
  rw[slot_of T.dum,he']
  rfl
 | succ k ih =>
  intro fuel i pt hf he
  obtain⟨f,rfl⟩:∃f,fuel=f+1:=⟨fuel - 1,by omega⟩
  cases hc:(t.place[below t.place i]?==some i) with
  | false =>
   &⟨i,hc,?_⟩
   unfold probe.go
   show(match t.slot i with | .empty=>_ | .dummy=>_ | .live _=>_)=_
   rw[slot_of T.dum,hc]
   rfl
  | true =>
   !⟨j,h1,h2⟩:=ih f ((i*5+1+pt / 32)%8) (pt / 32) (by omega) he
   &⟨j,h1,?_⟩
   unfold probe.go
   show(match t.slot i with | .empty=>_ | .dummy=>_ | .live _=>_)=_
   rw[slot_of T.dum,hc,if_pos rfl]
   show(if (h+1==h)=true then _ else _)=_
   rw[if_neg (by simp;omega),RM T.mask]
   ~h2
theorem Jz{t:SetTable}{n:Nat}(T:TI t n)(hn:n<=7)(h:Int):∃j,(t.place[below t.place j]?==some j)=false/\t.freeSlot h=some (j,false):=by
 !⟨g,hg,hgap⟩:=gap T.ris (by rw[T.size];~hn)
 have hb:bits h<2 ^ 64:=by
  unfold bits
  have h1:=Int.emod_lt_of_pos h (show(0:Int)<2 ^ 64 by decide)
  have h2:=Int.emod_nonneg h (show(2 ^ 64:Int)≠0 by decide)
  omega
 have hi:bits h%8<8:=Nat.mod_lt _ (by decide)
 !⟨k,hk,e⟩:=GT (bits h%8) (bits h) g hi hb hg
 have he:(t.place[below t.place (way (bits h%8) (bits h) k).1]?==some (way (bits h%8) (bits h) k).1)=false:=by
  rw[e];simpa using hgap _
 !⟨j,h1,h2⟩:=Jh T h k (10*turns t.mask) (bits h%8) (bits h) (by rw[T.mask];unfold turns;omega) he
 &⟨j,h1,?_⟩
 unfold SetTable.freeSlot
 have hs:t.probeStart h=⟨bits h%8,0,bits h%8,bits h,none⟩:=by
  unfold probeStart runEnd
  rw[T.mask]
  have:¬ (bits h%(7+1)+9<=7):=by omega
  dsimp only
  rw[if_neg this,Nat.sub_self]
 rw[hs]
 unfold SetTable.probe
 rw[h2]
 rfl
theorem Di{t:SetTable}{es:Array (Int×Value)}(T:TI t es.size)(hn:es.size<=6)(h:Int)(x:Value) :
  ∃p t',p<=es.size/\layNew t es h x=(insertAt es p (h,x),t',false,false)/\TI t' (insertAt es p (h,x)).size/\t'.led=t.led/\t'.fits (insertAt es p (h,x)).size=true:=by
 !⟨j,h1,h2⟩:=Jz T (by omega) h
 have hp:below t.place j<=es.size:=by rw[<- T.size];~(xA T.ris j).1
 have hsz:(insertAt t.place (below t.place j) j).size=es.size+1:=by rw[vQ _ _ _ (by rw[T.size];~hp),T.size]
 have hse:(insertAt es (below t.place j) (h,x)).size=es.size+1:=vQ _ _ _ hp
 have hput:t.put j=({t with place:=insertAt t.place (below t.place j) j,dummies:=#[]},below t.place j):=by
  unfold SetTable.put
  rw[T.dum]
  rfl
 have hfit:({t with place:=insertAt t.place (below t.place j) j,dummies:=#[]}:SetTable).fits (es.size+1)=true:=by
  unfold SetTable.fits SetTable.fill
  simp[hsz,T.mask];omega
 &⟨below t.place j,{t with place:=insertAt t.place (below t.place j) j,dummies:=#[]},hp,?_,⟨T.mask,rfl,T.plain,EQ T.ris h1,by rw[hse];~hsz⟩,rfl,by rw[hse];~hfit⟩
 unfold layNew
 rw[h2]
 dsimp only
 rw[hput]
 dsimp only
 rw[hse]
 unfold SetTable.orStandIn
 rw[hfit]
 rfl
theorem JK{t:SetTable}{n:Nat}(T:TI t n)(hn:n<=4):t.tooFull=false:=by
 unfold SetTable.tooFull SetTable.fill
 rw[T.mask,T.dum,T.size]
 simp;omega
theorem TI.fits{t:SetTable}{n:Nat}(T:TI t n)(hn:n<=7):t.fits n=true:=by
 unfold SetTable.fits SetTable.fill
 rw[T.mask,T.dum,T.size]
 simp;omega
theorem TI.fresh(led:Bool):TI (.fresh 0 0 led) 0:=⟨rfl,rfl,rfl,fun a b h hb=>absurd hb (by simp[SetTable.fresh]),rfl⟩
theorem Bl{α:Type}:∀(l:List α) (i:Nat) (x:α),l[i]?=some x->(x::l.eraseIdx i).Perm l
 | [],i,x,h=>by simp at h
 | a::l,0,x,h=>by simp at h;subst h;~.refl _
 | a::l,i+1,x,h=>by
  simp only[List.getElem?_cons_succ] at h
  simp only[List.eraseIdx_cons_succ]
  ~(List.Perm.swap _ _ _).trans ((Bl l i x h).cons a)
theorem Gf{α:Type}(next:Nat->Nat):∀(fuel k:Nat) (left:List α) (out:Array α),left.length=fuel->(pickOrder.go next fuel k left out).toList.Perm (out.toList++left)
 | 0,k,left,out,h=>by
  have:left=[]:=List.eq_nil_of_length_eq_zero h
  subst this;rw[List.append_nil];~.refl _
 | fuel+1,k,left,out,h=>by
  unfold pickOrder.go
  have hlt:next k%left.length<left.length:=Nat.mod_lt _ (by omega)
  rw[List.getElem?_eq_getElem hlt]
  dsimp only
  &(Gf next fuel (k+1) _ _ (by rw[List.length_eraseIdx_of_lt hlt];omega)).trans ?_
  rw[Array.toList_push,List.append_assoc]
  ~(Bl left _ _ (List.getElem?_eq_getElem hlt)).append_left _
theorem CJ{α:Type}(next:Nat->Nat)(xs:Array α):(pickOrder next xs).toList.Perm xs.toList:=by
 unfold pickOrder
 ~Gf next xs.size 0 xs.toList #[] (by simp)
theorem GP{α:Type}(next:Nat->Nat)(xs:Array α):(pickOrder next xs).size=xs.size:=by
 rw[<- Array.length_toList,(CJ next xs).length_eq,Array.length_toList]
end HW
namespace HW
noncomputable def vn(σ:List Int)(k:Int):List Int:=if σ.any (·==k) then σ else σ++[k]
def Bf(xs:List Int):List Int:=xs.foldl vn []
def He(x:Int):List Int->List Int
 | []=>[x]
 | y::r=>if x<=y then x::y::r else y::He x r
def xi:List Int->List Int
 | []=>[]
 | x::r=>He x (xi r)
noncomputable def intsOf:LD->Option (List Int)
 | []=>some []
 | .int i::r=>(intsOf r).map (i::·)
 | _::_=>none
def Qh:LD->OD
 | [.lst ds]=>(intsOf ds).bind fun ns=>if ns.length<=4 then some (.lst ((xi (Bf ns)).map .int)) else none
 | _=>none
theorem z_(x:Int):∀l:List Int,(He x l).Perm (x::l)
 | []=>.refl _
 | y::r=>by
  unfold He
  split
  ·~.refl _
  ·~((z_ x r).cons y).trans (.swap _ _ _)
theorem wu:∀l:List Int,(xi l).Perm l
 | []=>.refl _
 | x::r=>(z_ x _).trans ((wu r).cons x)
theorem Bv(x:Int):∀l:List Int,l.Pairwise (·<=·)->(He x l).Pairwise (·<=·)
 | [],_=>List.pairwise_singleton _ _
 | y::r,h=>by
  unfold He
  have h1:∀{z},z∈r->y<=z:=fun hz=>List.rel_of_pairwise_cons h hz
  split
  ·rename_i hx
   &List.Pairwise.cons (fun z hz=>?_) h
   rcases List.mem_cons.mp hz with e | e
   ·rw[e];~hx
   ·~Int.le_trans hx (h1 e)
  ·rename_i hx
   &List.Pairwise.cons (fun z hz=>?_) (Bv x r h.of_cons)
   rcases List.mem_cons.mp ((z_ x r).mem_iff.mp hz) with e | e
   ·rw[e];omega
   ·~h1 e
theorem Ar:∀l:List Int,(xi l).Pairwise (·<=·)
 | []=>.nil
 | x::r=>Bv x _ (Ar r)
theorem rg{ns ns':List Int}(hp:ns'.Perm ns)(hs:ns'.Pairwise (·<=·)):ns'=xi ns:=
 List.Perm.eq_of_pairwise (fun _ _ _ _ a b=>Int.le_antisymm a b) hs (Ar ns) (hp.trans (wu ns).symm)
theorem zS:∀(xs σ:List Int),(xs.foldl vn σ).length<=σ.length+xs.length
 | [],σ=>Nat.le_refl _
 | x::r,σ=>by
  &Nat.le_trans (zS r (vn σ x)) ?_
  have:(vn σ x).length<=σ.length+1:=by
   unfold vn
   split
   ·omega
   ·simp
  rw[List.length_cons];omega
def wN(i:Nat)(s:R->Option Bool)(f:R->Option LD)(w:R->LD->Option Out):R->LD->Option Out:=fun ρ ds=>(s ρ).bind fun b =>
 if b then (f ρ).bind fun es=>if ρ.length=i/\es.length<=1000 then w ρ es else none else w ρ ds
end HW
namespace HW
open PySem
def Nv:Value->Int
 | .int n _=>n
 | _=>0
def yf(b:Bool)(h:Heap)(S:Addr)(ks:List Int):Prop:=
 ∃o es ep t,h.get? S=some o/\o.ExactSet/\o.data=.set es ep t/\(∀e∈es.toList,∃k tk,e=(hashInt k,Value.int k tk))/\TI t es.size/\t.led=b/\(es.toList.map fun e=>Nv e.2).Perm ks
theorem yf.at{b:Bool}{h h':Heap}{S:Addr}{ks:List Int}(x:yf b h S ks)(e:∀o,h.get? S=some o->h'.get? S=some o):yf b h' S ks:=let ⟨o,es,ep,t,ho,r⟩:=x;⟨o,es,ep,t,e _ ho,r⟩
theorem Et(k:Int):∀l:List (Int×Value),(∀e∈l,∃k tk,e=(hashInt k,Value.int k tk))->(l.findIdx? fun e=>Value.isInt k e.2).isSome=(l.map fun e=>Nv e.2).any (·==k)
 | [],_=>rfl
 | e::l,h=>by
  !⟨k',tk,rfl⟩:=h e (.head _)
  rw[List.findIdx?_cons,List.map_cons,List.any_cons]
  have e1:Value.isInt k (Value.int k' tk)=(k'==k):=by
   unfold Value.isInt
   simp[BEq.comm]
  show(if Value.isInt k (Value.int k' tk)=true then some 0 else _).isSome=((k'==k)||_)
  rw[e1]
  cases (k'==k) with
  | true=>rfl
  | false =>
   rw[if_neg Bool.false_ne_true,Option.isSome_map,Bool.false_or]
   ~Et k l fun e he=>h e (.tail _ he)
theorem HK{l l':List Int}(p:l.Perm l')(k:Int):l.any (·==k)=l'.any (·==k):=p.any_eq
section
variable{prog:Program}{w:World}{A:Around}{E:Value->Shared->Prop}{s:Shared}
theorem GN{b:Bool}{S:Addr}{ks:List Int}{k:Int}{tk:Tok}{Q:Bool->Shared->Prop}(hS:yf b s.heap S ks)(hn:ks.length<=3)
  (h:∀r h',Heap.SameBut S s.heap h'->yf b h' S (vn ks k)->Q r {s with heap:=h' }) :
  wpAny (model prog w) A (setAddHashed S (.int k tk) ((intKind prog w).hash k)) Q E s:=by
 !⟨o,es,ep,t,ho,hex,hd,hel,hT,hled,hp⟩:=hS
 have hlen:es.size=ks.length:=by rw[<- hp.length_eq,List.length_map,Array.length_toList]
 have hf:t.fits es.size=true:=hT.fits (by omega)
 have hkey:=intKind_is prog w k tk
 have hE:ElemsOf (intKind prog w) es.toList:=fun e he=>by
  !⟨k',tk',rfl⟩:=hel e he
  ~⟨⟨k',intKind_is prog w k' tk',rfl⟩,rfl⟩
 have hb:es.size<scanBound:=by unfold scanBound;omega
 unfold setAddHashed setAddHashedIn
 &wpAny_holding (wpAny_bind (wpAny_setState_of ho hd hf ?_))
 dsimp only
 rw[byScan_of (knd:=intKind prog w) rfl hb hE]
 simp only[↓reduceIte]
 unfold setAddByScan
 &wpAny_bind ?_
 &wpAny_bind (wpAny_rule ?_)
 &wpAny_bind (wpAny_setScan_of hkey ho hd hf hE ?_)
 have hany:=Et k es.toList hel
 rw[HK hp] at hany
 cases hr:List.findIdx? (fun e=>(intKind prog w).is k e.2) es.toList with
 | some j =>
  dsimp only
  have hr':(List.findIdx? (fun e=>Value.isInt k e.2) es.toList)=some j:=hr
  rw[hr'] at hany
  have hst:vn ks k=ks:=by unfold vn;rw[<- hany];rfl
  &wpAny_pure (wpAny_pure ?_)
  ~h false s.heap (Heap.SameBut.refl S s.heap) ⟨o,es,ep,t,ho,hex,hd,hel,hT,hled,by rw[hst];~hp⟩
 | none =>
  dsimp only
  have hr':(List.findIdx? (fun e=>Value.isInt k e.2) es.toList)=none:=hr
  rw[hr'] at hany
  have hst:vn ks k=ks++[k]:=by unfold vn;rw[<- hany];rfl
  !⟨p,t',hpl,hL,hT',hled',hf'⟩:=Di hT (by omega) ((intKind prog w).hash k) (.int k tk)
  have hperm:=SetTable.insertAt_perm es p ((intKind prog w).hash k,Value.int k tk)
  have hsz:(SetTable.insertAt es p ((intKind prog w).hash k,Value.int k tk)).size=es.size+1:=vQ _ _ _ hpl
  rw[hL]
  generalize SetTable.insertAt es p ((intKind prog w).hash k,Value.int k tk)=es' at *
  dsimp only
  &wpAny_bind (wpAny_of_eq (a:=()) rfl ?_)
  rw[if_pos hT'.plain]
  &wpAny_bind ?_
  rw[hashByValue_scannable 8 (x:=Value.int k tk) rfl]
  &wpAny_pure ?_
  show wpAny _ _ (storeSet S es' t' >>= fun _=>_) _ _ _
  &wpAny_bind (wpAny_storeSet_of ho hd ?_ (by rw[sizeLine_eq];omega))
  show wpAny _ _ (if (!false&&t'.tooFull)=true then _ else _) _ _ _
  rw[JK hT' (by omega)]
  &wpAny_pure (wpAny_pure ?_)
  have hg:(s.heap.update S (Obj.putSet es' t')).get? S=some {o with data:=.set es' (ep+1) t' }:=by
   have:=Heap.get?_update_self (Obj.putSet es' t') ho (by rw[putSet_of es' t' hd];rfl)
   rw[putSet_of es' t' hd] at this;~this
  &h true _ (Heap.SameBut.update s.heap S (Obj.putSet es' t')) ⟨_,es',ep+1,t',hg,hex,rfl,fun e he=>?_,hT',hled'.trans hled,?_⟩
  ·have:=hperm.mem_iff.mp he
   rw[Array.toList_push] at this
   rcases List.mem_append.mp this with q | q
   ·~hel e q
   ·~⟨k,tk,List.mem_singleton.mp q⟩
  ·rw[hst]
   &(hperm.map _).trans ?_
   rw[Array.toList_push,List.map_append]
   ~hp.append_right _
end
end HW
namespace HW
open PySem PySem.Spec PyProof.Rows
theorem uW:Slot "set_iterator" "__next__" "set_iterator.__next__" :=
 .of (owner:="set_iterator") (n:="__next__") (by rw[typeLookup_type,builtinLookup_eq_fast];kernel_rfl) (by decide +kernel) (by decide +kernel) (by decide +kernel)
  (by first | ~.inl (by decide +kernel) | ~.inr (by decide +kernel)) (by rw[isSubtype_type];kernel_rfl)
theorem y3:entryFor table "set_iterator.__next__" = some Builtin.«set_iterator.__next__»:=entryFor_of_tree (by kernel_rfl)
theorem zV(a:Value):argsOk "set_iterator.__next__" ⟨[a],[]⟩:=by unfold argsOk;kernel_rfl
theorem zN:Slot "set_iterator" "__iter__" "set_iterator.__iter__" :=
 .of (owner:="set_iterator") (n:="__iter__") (by rw[typeLookup_type,builtinLookup_eq_fast];kernel_rfl) (by decide +kernel) (by decide +kernel) (by decide +kernel)
  (by first | ~.inl (by decide +kernel) | ~.inr (by decide +kernel)) (by rw[isSubtype_type];kernel_rfl)
theorem B3:entryFor table "set_iterator.__iter__" = some Builtin.«dict_keyiterator.__iter__»:=
 entryFor_alias (id':="dict_keyiterator.__iter__") (by kernel_rfl) rfl (by decide +kernel) (by kernel_rfl)
theorem C5(a:Value):argsOk "set_iterator.__iter__" ⟨[a],[]⟩:=by unfold argsOk;kernel_rfl
theorem Df:entryFor table "set.__iter__" = some Builtin.«frozenset.__iter__»:=
 entryFor_alias (id':="frozenset.__iter__") (by kernel_rfl) rfl (by decide +kernel) (by kernel_rfl)
def vN(h:Heap)(it S:Addr)(slot i n ep:Nat):Prop:=∃o,h.get? it=some o/\o.cls=.type "set_iterator" /\ o.data=.fields #[.int slot 0,.int i 0,.ref S,.int n 0,.int ep 0]
def wf(h:Heap)(S:Addr)(es:Array (Int×Value))(ep:Nat)(t:SetTable):Prop:=∃o,h.get? S=some o/\o.cls=.type "set" /\ o.data=.set es ep t
def slotAt(t:SetTable):Nat->Nat
 | 0=>0
 | i+1=>t.place.getD i 0+1
def vt(w:World):Bool:=w.params.followText "set-order"
structure zd (w:World) (S:Addr) (es:Array (Int×Value)) (ep:Nat) (t:SetTable) (ord:Array (Int×Value)):Prop where
 fits:t.fits es.size=true
 size:ord.size=es.size
 txt:vt w=true->ord=pickOrder (w.params.setOrder S ep) es
 plc:vt w=false->ord=es/\t.led=true/\(!t.plain&&decide (es.size > 1))=false/\∀i,i<=es.size->SetTable.below t.place (slotAt t i)=i
theorem vN.typeIs{s:Shared}{it S slot i n ep}(x:vN s.heap it S slot i n ep):s.TypeIs (.ref it) "set_iterator":=let ⟨o,ho,hc,_⟩:=x;⟨o,ho,hc⟩
theorem wf.typeIs{s:Shared}{S es ep t}(x:wf s.heap S es ep t):s.TypeIs (.ref S) "set":=let ⟨o,ho,hc,_⟩:=x;⟨o,ho,hc⟩
theorem wf.at{h h':Heap}{S es ep t}(x:wf h S es ep t)(e:∀o,h.get? S=some o->h'.get? S=some o):wf h' S es ep t:=let ⟨o,ho,r⟩:=x;⟨o,e _ ho,r⟩
theorem vN.at{h h':Heap}{it S slot i n ep}(x:vN h it S slot i n ep)(e:∀o,h.get? it=some o->h'.get? it=some o):vN h' it S slot i n ep:=let ⟨o,ho,r⟩:=x;⟨o,e _ ho,r⟩
theorem wf.lt{h:Heap}{S es ep t}(x:wf h S es ep t):S<h.objs.size:=let ⟨_,ho,_⟩:=x;Heap.lt_size ho
section
variable{prog:Program}{w:World}{A:Around}{E:Value->Shared->Prop}{s:Shared}{S:Addr}{es ord:Array (Int×Value)}{ep:Nat}{t:SetTable}
theorem iT{Q:(Array (Int×Value)×Nat×SetTable)->Shared->Prop}(x:wf s.heap S es ep t)(hf:t.fits es.size=true)(h:Q (es,ep,t) s):wpAny (model prog w) A (setState S) Q E s:=by
 !⟨o,ho,hc,hd⟩:=x
 ~wpAny_setState_of ho hd hf h
theorem nk{Q:Array (Int×Value)->Shared->Prop}(x:wf s.heap S es ep t)(hf:t.fits es.size=true)(h:Q es s):wpAny (model prog w) A (setEntries S) Q E s:=by
 !⟨o,ho,hc,hd⟩:=x
 ~wpAny_setEntries_of ho hd hf h
theorem sP{Q:Bool->Shared->Prop}(h:Q (vt w) s):wpAny (model prog w) A setsByText Q E s:=by
 unfold setsByText
 ~wpAny_bind (wpAny_askSetting (wpAny_pure h))
theorem tG{Q:Value->Shared->Prop}(x:wf s.heap S es ep t)(hO:zd w S es ep t ord)
  (h:Q (.ref s.heap.objs.size) {s with heap:=s.heap.push {cls:=.type "set_iterator",data:=.fields #[.int 0 0,.int 0 0,.ref S,.int es.size 0,.int ep 0]} }):wpAny (model prog w) A (pyIter (.ref S)) Q E s:=by
 &wpAny_pyIter_slot x.typeIs F.slot_set_iter (wpAny_call_entry F.slot_set_iter x.typeIs Df ?_ (F.args_set_iter_1 _))
 unfold Builtin.«frozenset.__iter__»
 &wpAny_bind (m:=Builtin.Frozenset.slot0 "__iter__" ⟨[.ref S],[]⟩) (wpAny_of_eq (a:=S) rfl ?_)
 &wpAny_bind ?_
 unfold Builtin.Frozenset.sizeOf
 &wpAny_bind (nk x hO.fits (wpAny_pure ?_))
 &wpAny_bind ?_
 have hd:∀{Q':Bool->Shared->Prop},Q' false s->wpAny (model prog w) A.in1 (setDrawn S) Q' E s:=fun hq=>by
  unfold setDrawn
  &wpAny_bind (iT x hO.fits (wpAny_bind (sP (wpAny_pure ?_))))
  have z:(!vt w&&(!t.plain&&decide (es.size > 1)))=false:=by
   cases hb:vt w with
   | true=>rfl
   | false=>rw[(hO.plc hb).2.2.1];rfl
  show _
  ~z ▸ hq
 &hd ?_
 dsimp only
 rw[if_neg Bool.false_ne_true]
 &wpAny_bind (wpAny_pure ?_)
 &wpAny_bind ?_
 unfold setEpoch
 &wpAny_bind (iT x hO.fits (wpAny_pure ?_))
 &wpAny_bind (wpAny_newObj_type (wpAny_pure ⟨_,rfl,"set_iterator",_,⟨_,Heap.get?_push_size _ rfl,rfl⟩,uW.lookup,?_⟩))
 ~h
def nextOf(ord:Array (Int×Value))(i nx:Nat):Option (Value×Nat):=(ord[i]?).map fun e=>(e.2,nx)
theorem kA{slot i:Nat}{Q:Option (Value×Nat)->Shared->Prop}(x:wf s.heap S es ep t)(hO:zd w S es ep t ord)(hs:vt w=false->slot=slotAt t i)(hi:i<=es.size)
  (h:∀nx,(vt w=false->nx=slotAt t (i+1))->Q (nextOf ord i nx) s):wpAny (model prog w) A (setNext S slot i ep) Q E s:=by
 unfold setNext
 &wpAny_bind (iT x hO.fits ?_)
 dsimp only
 &wpAny_bind (sP ?_)
 cases hb:vt w with
 | true =>
  rw[if_pos rfl,if_neg (by simp)]
  &wpAny_bind ?_
  unfold setWalk
  &wpAny_bind (iT x hO.fits ?_)
  dsimp only
  &wpAny_bind (sP ?_)
  rw[hb,if_pos rfl]
  &wpAny_bind (wpAny_askSetting (wpAny_pure (wpAny_pure ?_)))
  have:=h slot (fun z=>by rw[hb] at z;cases z)
  rw[hO.txt hb] at this
  ~this
 | false =>
  !⟨e1,e2,e3,e4⟩:=hO.plc hb
  rw[if_neg Bool.false_ne_true]
  show wpAny _ _ (if (!t.plain&&decide (es.size > 1))=true then _ else _) _ _ _
  rw[e3,if_neg Bool.false_ne_true]
  show wpAny _ _ ((if (!t.led&&!es.isEmpty)=true then _ else _) >>= _) _ _ _
  rw[e2,if_neg (by simp)]
  &wpAny_bind (wpAny_pure (wpAny_pure ?_))
  rw[hs hb,e4 i hi,<- e1]
  have hp:t.place.size=es.size:=by
   have:=hO.fits
   simp only[SetTable.fits,Bool.and_eq_true,beq_iff_eq] at this
   ~this.1
  by_cases hlt:i<es.size
  ·have:=h (t.place.getD i 0+1) (fun _=>rfl)
   unfold nextOf at this
   rw[e1] at this ⊢
   have hpi:i<t.place.size:=by rw[hp];~hlt
   rw[Array.getElem?_eq_getElem hlt,Array.getElem?_eq_getElem hpi]
   rw[Array.getElem?_eq_getElem hlt] at this
   simp only[Array.getD_eq_getD_getElem?,Array.getElem?_eq_getElem hpi,Option.getD_some,Option.map_some] at this
   ~this
  ·have:=h (slotAt t (i+1)) (fun _=>rfl)
   unfold nextOf at this
   rw[e1] at this ⊢
   rw[Array.getElem?_eq_none (Nat.le_of_not_lt hlt)] at this ⊢
   ~this
theorem tz{it:Addr}{slot i:Nat}{Q:Option Value->Shared->Prop}(hit:vN s.heap it S slot i es.size ep)(hne:S≠it)(x:wf s.heap S es ep t)(hO:zd w S es ep t ord)(hs:vt w=false->slot=slotAt t i)(hi:i<ord.size)
  (hQ:∀nx h',(vt w=false->nx=slotAt t (i+1))->vN h' it S nx (i+1) es.size ep->Heap.ExtBut it s.heap h'->Q (some ord[i].2) {s with heap:=h' }):wpAny (model prog w) A (pyNext (.ref it)) Q E s:=by
 !⟨o,ho,hc,hd⟩:=id hit
 unfold pyNext
 &wpAny_bind (wpAny_attempt (wpAny_callSpecial?_slot (name:=oS "__next__") hit.typeIs uW
  (wpAny_call_entry uW hit.typeIs y3 ?_ (zV _))))
 unfold Builtin.«set_iterator.__next__»
 &wpAny_bind (m:=slotArgs "__next__" 0 ⟨[.ref it],[]⟩) (wpAny_of_eq (a:=(.ref it,[])) rfl ?_)
 &wpAny_bind (wpAny_fieldsOf ho hd ?_)
 dsimp only
 &wpAny_bind (nk x hO.fits ?_)
 rw[if_neg (by simp)]
 have hi':i<=es.size:=by rw[<- hO.size];~Nat.le_of_lt hi
 show wpAny _ _ (setNext S slot i ep >>= _) _ _ _
 &wpAny_bind (kA x hO hs hi' fun nx hnx=>?_)
 rw[nextOf,Array.getElem?_eq_getElem hi]
 simp only[Option.map_some]
 &wpAny_bind (wpAny_setField ho hd (by simp) ?_)
 generalize hH1:s.heap.update it (Obj.mapFields (·.setIfInBounds 0 (rawInt nx)))=H1
 have ho1:∃o1,H1.get? it=some o1/\o1.cls=.type "set_iterator" /\ o1.data=.fields #[.int nx 0,.int i 0,.ref S,.int es.size 0,.int ep 0]:=by
  subst hH1
  ~⟨_,Heap.get?_update_self _ ho (Obj.isFreed_of_fields (Obj.data_mapFields hd _)),(Obj.cls_mapFields ..).trans hc,by rw[Obj.data_mapFields hd];simp[rawInt]⟩
 !⟨o1,ho1,hc1,hd1⟩:=ho1
 &wpAny_bind (wpAny_setField (s:={s with heap:=H1}) ho1 hd1 (by simp) ?_)
 generalize hH2:H1.update it (Obj.mapFields (·.setIfInBounds 1 (rawInt ((i:Int)+1))))=H2
 have ho2:vN H2 it S nx (i+1) es.size ep:=by
  subst hH2
  ~⟨_,Heap.get?_update_self _ ho1 (Obj.isFreed_of_fields (Obj.data_mapFields hd1 _)),(Obj.cls_mapFields ..).trans hc1,by rw[Obj.data_mapFields hd1];simp[rawInt]⟩
 have hx:Heap.ExtBut it s.heap H2:=fun b u hb e=>by
  subst hH2;subst hH1
  ~(Heap.get?_update_other _ _ (Ne.symm hb)).trans ((Heap.get?_update_other _ _ (Ne.symm hb)).trans e)
 ~wpAny_pure ⟨_,rfl,wpAny_pure (hQ nx H2 hnx ho2 hx)⟩
theorem tQ{it:Addr}{slot i:Nat}{Q:Option Value->Shared->Prop}(hh:A.handled=none)(hit:vN s.heap it S slot i es.size ep)(hne:S≠it)(x:wf s.heap S es ep t)(hO:zd w S es ep t ord)(hs:vt w=false->slot=slotAt t i)(hi:i=ord.size)
  (hQ:∀h',Heap.ExtBut it s.heap h'->Q none {s with heap:=h' }):wpAny (model prog w) A (pyNext (.ref it)) Q E s:=by
 !⟨o,ho,hc,hd⟩:=id hit
 unfold pyNext
 &wpAny_bind (wpAny_attempt (wpAny_callSpecial?_slot (name:=oS "__next__") hit.typeIs uW
  (wpAny_call_entry uW hit.typeIs y3 ?_ (zV _))))
 unfold Builtin.«set_iterator.__next__»
 &wpAny_bind (m:=slotArgs "__next__" 0 ⟨[.ref it],[]⟩) (wpAny_of_eq (a:=(.ref it,[])) rfl ?_)
 &wpAny_bind (wpAny_fieldsOf ho hd ?_)
 dsimp only
 &wpAny_bind (nk x hO.fits ?_)
 rw[if_neg (by simp)]
 have hi':i<=es.size:=by rw[<- hO.size,hi];~Nat.le_refl _
 show wpAny _ _ (setNext S slot i ep >>= _) _ _ _
 &wpAny_bind (kA x hO hs hi' fun nx hnx=>?_)
 rw[nextOf,Array.getElem?_eq_none (by rw[hi];~Nat.le_refl _)]
 simp only[Option.map_none]
 &wpAny_bind (wpAny_setField ho hd (by simp) ?_)
 show wpAny _ _ (newExc (.type "StopIteration") [] >>= _) _ _ _
 &wpAny_bind ?_
 simp only[newExc,newTuple]
 &wpAny_bind (wpAny_newObj_type ?_ (by size_fits))
 &wpAny_bind (m:=firstArgMember _ _) (wpAny_of_eq (a:=Value.none) (by first | rfl | (simp only[firstArgMember];rfl)) ?_)
 &wpAny_newObj_type ?_ (by size_fits)
 simp only[raiseNew]
 &wpAny_bind (wpAny_handled ?_)
 rw[show A.in1.handled=none from hh]
 &wpAny_bind (wpAny_pure (wpAny_throw ?_))
 &wpAny_bind (wpAny_isInstance (T:="StopIteration") (b:=true) ⟨_,Heap.get?_push_size _ rfl,rfl⟩ isSubtype_stop ?_)
 ~wpAny_pure (hQ _ (((Heap.SameBut.update ..).extBut.push _).push _))
theorem GZ(hh:A.handled=none)(I:Addr)(hne:S≠I)(hO:zd w S es ep t ord) :
  Walks prog w A I [I,S] [I] ord.size (fun i v=>∃e,ord[i]?=some e/\v=e.2) (fun i h=>(∃slot,vN h I S slot i es.size ep/\(vt w=false->slot=slotAt t i))/\wf h S es ep t) where
 sub:=fun b hb=>by simp at hb;simp[hb]
 frame:=fun _ _ _ st hk=>⟨let ⟨sl,a,b⟩:=st.1;⟨sl,a.at fun o e=>hk I (by simp) o e,b⟩,st.2.at fun o e=>hk S (by simp) o e⟩
 item:=fun i s Q E hi st hQ=>by
  !⟨⟨sl,a,b⟩,c⟩:=st
  &tz a hne c hO b hi fun nx h' hnx hit' hs'=>?_
  ~hQ _ h' s.toks ⟨ord[i],by simp[hi],rfl⟩ ⟨⟨nx,hit',hnx⟩,c.at fun o e=>hs' S o hne e⟩ fun b o hb e=>hs' b o (fun h=>hb (by simp[h])) e
 done:=fun s Q E st hQ=>by
  !⟨⟨sl,a,b⟩,c⟩:=st
  ~tQ hh a hne c hO b rfl fun h' he'=>hQ h' s.toks fun b o hb e=>he' b o (fun h=>hb (by simp[h])) e
 self:=fun _ s Q E st hQ=>by
  !⟨⟨sl,a,b⟩,c⟩:=st
  &wpAny_pyIter_slot a.typeIs zN (wpAny_call_entry zN a.typeIs B3 ?_ (C5 _))
  show wpAny _ _ (ret (.ref I)) _ _ s
  ~wpAny_pure ⟨_,rfl,"set_iterator",_,a.typeIs,uW.lookup,hQ⟩
theorem Iq{Q:Bool->Shared->Prop}(hT:s.TypeIs (.ref S) "set")(h:Q false s):wpAny (model prog w) A (Builtin.List.listLengthHint (.ref S)) Q E s:=by
 unfold Builtin.List.listLengthHint
 &wpAny_bind (wpAny_specialOf hT PySem.F.slot_set_len.lookup ?_)
 generalize K_:("set.__len__" : String)=id0
 wp_delta
 rw[show splitId id0=some ("set","__len__") from by subst K_;decide +kernel]
 subst K_
 &wpAny_bind (wpAny_isInstance (T:="set") (b:=true) hT (by rw[isSubtype_type];kernel_rfl) ?_)
 &wpAny_ite_split (fun hab=>absurd hab (by decide)) (fun _=>?_)
 &wpAny_ite_split (fun _=>?_) (fun hab=>absurd (by decide +kernel) hab)
 &wpAny_bind (wpAny_typeOf hT ?_)
 ~wpAny_pure h
theorem si(hO:zd w S es ep t ord):W.KdlSrc prog w "set" S S ord.size (fun i v=>∃e,ord[i]?=some e/\v=e.2) (fun h=>wf h S es ep t) where
 type:=fun _ hm=>hm.typeIs
 there:=fun _ hm=>⟨hm.lt,hm.lt⟩
 keep:=fun _ _ hm hk=>hm.at fun o e=>hk S (.inl rfl) o e
 notList:=by decide
 notTuple:=by decide
 hint:=fun _ _ _ _ hm hq=>Iq hm.typeIs hq
 iter:=fun _ _ hh hm=>⟨_,_,(fun _ _ hq=>tG hm hO hq),GZ hh _ (Nat.ne_of_lt hm.lt) hO,⟨⟨0,⟨_,Heap.get?_push_size _ rfl,rfl,rfl⟩,fun _=>rfl⟩,hm.at fun o e=>Heap.get?_push_of_some _ e⟩⟩
end
set_option maxHeartbeats 3200000
def zy(val:Nat->Int)(i:Nat):List Int:=((List.range i).map val).foldl vn []
theorem GM(val:Nat->Int)(i:Nat):zy val (i+1)=vn (zy val i) (val i):=by
 unfold zy;rw[List.range_succ,List.map_append,List.foldl_append];rfl
theorem HP(val:Nat->Int)(i:Nat):(zy val i).length<=i:=by
 have:=zS ((List.range i).map val) []
 unfold zy
 simpa using this
section
variable{prog:Program}{w:World}{A:Around}{R:Result->Shared->Prop}{I:Addr}{fp wr:List Addr}{G:Array GenState->Array GenState->Prop}{n:Nat}{P:Nat->Value->Prop}{St:Nat->Shared->Prop}
theorem qr{b:Bool}(W:WalksS prog w A.in1 I fp wr G n P St)(S:Addr)(hSf:S∉fp)
  (val:Nat->Int) (hval:∀i v,P i v->∃t,v=.int (val i) t) (hb:n<=4) :
  ∀(k i:Nat) (s:Shared),n - i=k->i<=n->St i s->yf b s.heap S (zy val i) ->
   (∀s',Moved (S::wr) G s s'->yf b s'.heap S (zy val n)->R (.ok (.ret .none)) s') ->
   codeAny (model prog w) A (.builtin "set.update.loop" ⟨[.ref S,.ref I],[]⟩) R s:=by
 have hSw:S∉wr:=fun h=>hSf (W.sub _ h)
 have hsub:∀b∈wr,b∈S::wr:=fun b hb=>List.mem_cons_of_mem _ hb
 intro k
 induction k with
 | zero =>
  intro i s hk hi hst hS hR
  have hin:i=n:=by omega
  subst hin
  &codeAny_builtin F.entry_set_update_loop ?_
  rw[Around.under_plainId F.plain_set_update_loop _]
  show wpAny _ A.in1 (pyNext (.ref I) >>= _) _ _ s
  &wpAny_bind (W.done s _ _ hst fun s' hm=>?_)
  show wpAny _ A.in1 (ret Value.none) _ _ s'
  ~wpAny_pure (hR s' (hm.mono hsub) (hS.at fun o ho=>hm.heap S _ hSw ho))
 | succ k ih =>
  intro i s hk hi hst hS hR
  have hlt:i<n:=by omega
  &codeAny_builtin F.entry_set_update_loop ?_
  rw[Around.under_plainId F.plain_set_update_loop _]
  show wpAny _ A.in1 (pyNext (.ref I) >>= _) _ _ s
  &wpAny_bind (W.item i s _ _ hlt hst fun v s' hP hst' hm=>?_)
  !⟨t,rfl⟩:=hval i v hP
  have hS':yf b s'.heap S (zy val i):=hS.at fun o ho=>hm.heap S _ hSw ho
  show wpAny _ A.in1 (holding [Value.int (val i) t] (setAdd S (.int (val i) t)) >>= _) _ _ s'
  &wpAny_bind (wpAny_holding ?_)
  unfold setAdd
  &wpAny_holding ?_
  &wpAny_bind ((intKind prog w).pyHash (k:=val i) (intKind_is _ _ _ _) ?_)
  have hroom:(zy val i).length<=3:=by have:=HP val i;omega
  &GN (s:={s' with toks:=s'.toks+1}) hS' hroom fun r h' hsb hS2=>?_
  have hSi:yf b h' S (zy val (i+1)):=by rw[GM];~hS2
  &wpAny_pure ⟨plainId_quiet F.plain_set_update_loop _,ih (i+1) _ (by omega) hlt (W.frame _ s' _ _ hst' (Nat.le_succ _) fun b hb o e=>?_) hSi fun s'' hm'' hS''=>?_⟩
  ·rw[hsb.2 b (fun h:b=S=>hSf (by rw[<- h];~hb))];~e
  ·&hR s'' (Moved.trans W.gtrans ((hm.mono hsub).then_heap (Nat.le_succ _) fun b o hb e=>?_) hm'') hS''
   rw[hsb.2 b (fun h:b=S=>hb (by rw[h];~List.mem_cons_self))];~e
end
section
variable{prog:Program}{w:World}{A:Around}{E:Value->Shared->Prop}{s:Shared}
abbrev v7(w:World):Obj:={cls:=.type "set",dict:=none,data:=.set #[] 0 (.fresh 0 0 (!vt w))}
theorem JQ(a:Value){Q₁:Value->Shared->Prop}
  (h:Q₁ (.ref s.heap.objs.size) {s with heap:=s.heap.push (v7 w)}) :
  codeAny (model prog w) A (.call (.builtin "set.__new__") ⟨[.type "set",a],[]⟩) (wants Q₁ E) s:=by
 &codeAny_of_tree ?_
 show wpAny _ A.in1 (do checkBuiltinCall "set.__new__" ⟨[.type "set",a],[]⟩;again (.builtin "set.__new__" ⟨[.type "set",a],[]⟩)) _ _ s
 &wpAny_bind (wpAny_of_eq (PySem.F.newCall_set_1 a) (wpAny_pure ⟨plainId_quiet PySem.F.plain_set_new _,codeAny_builtin PySem.F.entry_set_new ?_⟩))
 rw[Around.under_plainId PySem.F.plain_set_new _]
 unfold Builtin.«set.__new__» Builtin.Frozenset.newClass
 have hsub:=PySem.sub_set_self
 !⟨hp,g,d,tk,os⟩:=s
 dsimp only
 wp_walk
 &wpAny_askSetting (wpAny_pure ?_)
 dsimp only
 simp only[newObj]
 &wpAny_bind (wpAny_alloc (wpAny_pure ?_))
 ~wpAny_pure h
theorem yf.new{h:Heap}{w:World}:yf (!vt w) (h.push (v7 w)) h.objs.size []:=
 ⟨v7 w,#[],0,_,Heap.get?_push_size _ rfl,⟨rfl,rfl,rfl⟩,rfl,fun e he=>by simp at he,TI.fresh _,rfl,.refl _⟩
theorem qR {l:Addr} {items:Array Value} {val:Nat->Int} {Q:Value->Shared->Prop}
    (hh:A.handled=none) (hl:s.heap.IsList l items) (hval:∀(i:Nat) (v:Value),items[i]?=some v->∃t,v=.int (val i) t) (hb:items.size<=4)
    (h:∀(h':Heap) (tk:Nat),yf (!vt w) h' s.heap.objs.size (zy val items.size) ->
      (∀b o,b<s.heap.objs.size->s.heap.get? b=some o->h'.get? b=some o)->Q (.ref s.heap.objs.size) {s with heap:=h',toks:=tk}) :
    wpAny (model prog w) A (call (.type "set") [.ref l]) Q E s:=by
  !⟨c,tl,hmro⟩:=PySem.F.called_set.mro
  have hmade:=PySem.F.called_set.made
  have hsub:=PySem.F.called_set.sub
  &wpAny_call (codeAny_of_tree ?_)
  show wpAny _ _ (callAny (.type "set") _) _ _ _
  &wpAny_pure ⟨Code.quiet_builtin _ (by decide +kernel),codeAny_builtin PySem.F.entry_type_call ?_⟩
  rw[Around.under_plain (weight_type_call_type "set" [.ref l] []) rfl]
  have h1:=PySem.F.called_set.notType
  have h2:=PySem.F.called_set.canCreate
  have hct:=PySem.F.typeCall_set_1 (.ref l)
  repeat (any_goals (first | assumption | wp_step))
  &codeAny_mono (JQ (.ref l) (E:=E) (Q₁:=fun obj s₁=>obj=.ref s.heap.objs.size/\s₁={s with heap:=s.heap.push (v7 w)}) ⟨rfl,rfl⟩) fun r s₁ hr=>?_
  cases r with
  | error e=>~hr
  | ok fl =>
    cases fl with
    | ret obj =>
      !⟨rfl,rfl⟩:=hr
      have hS:(s.heap.push (v7 w)).get? s.heap.objs.size=some (v7 w):=Heap.get?_push_size _ rfl
      have hT:Shared.TypeIs {s with heap:=s.heap.push (v7 w)} (.ref s.heap.objs.size) "set":=⟨_,hS,rfl⟩
      have hli:=PySem.F.called_set.init.lookup
      have hbi:=PySem.F.called_set.init.bind (.ref s.heap.objs.size)
      repeat (any_goals (first | assumption | wp_step))
      &codeAny_mono (codeAny_call_builtin (R:=wants (fun r s₂=>r=.none/\∃ h' tk,s₂={s with heap:=h',toks:=tk} /\
          yf (!vt w) h' s.heap.objs.size (zy val items.size) /\
          (∀b o,b<s.heap.objs.size->s.heap.get? b=some o->h'.get? b=some o)) E) PySem.F.called_set.init.plain PySem.F.entry_set_init (PySem.check_set_init_1 hT ?_)) fun r₂ s₂ hr₂=>?_
      · !⟨ol,hol,hcl,nl,hdl⟩:=hl
        !⟨ocls,odict,odata,oslots⟩:=ol
        simp only at hcl hdl
        subst hcl;subst hdl
        have hol':(s.heap.push (v7 w)).get? l=some {cls:=.type "list",dict:=odict,data:=.seq items nl,slots:=oslots}:=Heap.get?_push_of_some _ hol
        have hsls:=PySem.F.sub_list_set
        have hslf:=PySem.F.sub_list_frozenset
        have hne:(Value.type "list" == Value.type "dict")=false:=by decide
        have hl1:(s.heap.push (v7 w)).IsList l items:=⟨_,hol',rfl,nl,rfl⟩
        unfold Builtin.«set.__init__» noKeywords Builtin.Frozenset.updateFrom
        generalize hPI:pyIter=PI
        wp_walk
        subst hPI
        &wpAny_pyIter_list hl1 ?_
        &wpAny_bind (wpAny_runValue ?_)
        have hlS:l<s.heap.objs.size:=Heap.lt_size hol
        have hh3:A.in1.in1.in1.handled=none:=by simp[hh]
        have hneI:l≠(s.heap.push (v7 w)).objs.size:=by
          rw[Heap.size_push];~Nat.ne_of_lt (Nat.lt_succ_of_lt hlS)
        have hSf:s.heap.objs.size ∉ [(s.heap.push (v7 w)).objs.size,l]:=by
          rw[Heap.size_push];simp only[List.mem_cons,List.mem_singleton,List.not_mem_nil,or_false,not_or]
          ~⟨Nat.ne_of_lt (Nat.lt_succ_self _),Nat.ne_of_gt hlS⟩
        &qr (b:=!vt w) ((Walks.list hh3 _ l hneI items).toS) s.heap.objs.size
          hSf val hval hb (items.size - 0) 0 _ (by omega) (Nat.zero_le _)
          ⟨⟨_,Heap.get?_push_size _ rfl,rfl,rfl⟩,(hl1.push _)⟩ ?hS0 ?hR
        case hS0=>~yf.new.at fun o e=>Heap.get?_push_of_some _ e
        case hR =>
          intro s' hm hS'
          !⟨h',g',d',tk',os'⟩:=s'
          have eg:g'=s.gens:=hm.gens
          have ed:d'=s.drawn:=hm.drawn
          have eo:os'=s.os:=hm.os
          subst eg;subst ed;subst eo
          show wpAny _ _ _ _ _ _
          &wpAny_pure ?_
          show wpAny _ _ (ret Value.none) _ _ _
          &wpAny_pure ⟨rfl,h',tk',rfl,hS',fun b o hb e=>?_⟩
          have hb1:b≠s.heap.objs.size:=Nat.ne_of_lt hb
          have hb2:b≠(s.heap.push (v7 w)).objs.size:=by
            rw[Heap.size_push];~Nat.ne_of_lt (Nat.lt_succ_of_lt hb)
          ~hm.heap b o (by simp only[List.mem_cons,List.mem_singleton,List.not_mem_nil,or_false,not_or];~⟨hb1,hb2⟩) (Heap.get?_push_of_some _ (Heap.get?_push_of_some _ e))
      · cases r₂ with
        | error e=>~hr₂
        | ok fl₂ =>
          cases fl₂ with
          | ret r =>
            !⟨rfl,h',tk,rfl,hS',hk'⟩:=hr₂
            repeat (any_goals (first | assumption | wp_step))
            ~h _ _ hS' hk'
          | _=>~hr₂.elim
    | _=>~hr.elim
theorem yf.ord{h:Heap}{S:Addr}{ks:List Int}(x:yf (!vt w) h S ks)(hn:ks.length<=4) :
  ∃es ep t ord,wf h S es ep t/\zd w S es ep t ord/\(ord.toList.map fun e=>Nv e.2).Perm ks/\∀e∈ord.toList,∃k tk,e.2=Value.int k tk:=by
 !⟨o,es,ep,t,ho,hex,hd,hel,hT,hled,hp⟩:=x
 have hlen:es.size=ks.length:=by rw[<- hp.length_eq,List.length_map,Array.length_toList]
 have hf:t.fits es.size=true:=hT.fits (by omega)
 have hel':∀e∈es.toList,∃k tk,e.2=Value.int k tk:=fun e he=>let ⟨k,tk,q⟩:=hel e he;⟨k,tk,by rw[q]⟩
 cases hb:vt w with
 | true =>
  have pp:=CJ (w.params.setOrder S ep) es
  ~⟨es,ep,t,pickOrder (w.params.setOrder S ep) es,⟨o,ho,hex.1,hd⟩,⟨hf,GP _ _,fun _=>rfl,fun z=>by rw[hb] at z;cases z⟩,(pp.map _).trans hp,fun e he=>hel' e (pp.mem_iff.mp he)⟩
 | false =>
  &⟨es,ep,t,es,⟨o,ho,hex.1,hd⟩,⟨hf,rfl,(fun z=>by rw[hb] at z;cases z),fun _=>⟨rfl,by rw[hled,hb];rfl,by rw[hT.plain];rfl,fun i hi=>?_⟩⟩,hp,hel'⟩
  cases i with
  | zero=>~J3 hT.ris
  | succ i=>~Kh hT.ris (by rw[hT.size];~hi)
theorem oI:∀{vs:List Value},(∀v∈vs,∃k tk,v=Value.int k tk)->IntsAre vs (vs.map Nv)
 | [],_=>.nil
 | v::r,h=>by
  !⟨k,tk,rfl⟩:=h v (.head _)
  ~.cons k tk (oI fun u hu=>h u (.tail _ hu))
theorem Hf{α:Type}{acc ord:List α}(hl:acc.length=ord.length)(h:∀(j:Nat) (v:α),acc[j]?=some v->ord[j]?=some v):acc=ord:=by
 &List.ext_getElem? fun j=>?_
 by_cases hj:j<acc.length
 ·rw[List.getElem?_eq_getElem hj];~(h j _ (List.getElem?_eq_getElem hj)).symm
 ·rw[List.getElem?_eq_none (by omega),List.getElem?_eq_none (by omega)]
theorem FE{S:Addr}{ks:List Int}{Q:Value->Shared->Prop}(hh:A.handled=none)(x:yf (!vt w) s.heap S ks)(hn:ks.length<=4)
  (h:∀(D:Addr) (h':Heap) (tk n:Nat) (its:List Value),S<D->(∀b o,s.heap.get? b=some o->h'.get? b=some o)->h'.get? D=some {cls:=.type "list",data:=.seq its.toArray n}->IntsAre its (xi ks)->Q (.ref D) {s with heap:=h',toks:=tk}) :
  wpAny (model prog w) A (call (.builtin "sorted") [.ref S]) Q E s:=by
 !⟨es,ep,t,ord,hI,hO,hperm,hint⟩:=x.ord hn
 have hol:ord.size=ks.length:=by rw[<- hperm.length_eq,List.length_map,Array.length_toList]
 &Calls.call_function_entry kind_sorted plain_sorted entry_sorted (args_sorted1 _) ?_
 unfold Builtin.«sorted»
 &wpAny_bind (m:=checkCount "sorted" 1 1 _) (wpAny_pure ?_)
 &wpAny_bind (W.kdu_collect (A:=A.in1) (si hO) hh hI (by rw[sizeLine_eq];omega) fun h' tk acc hk hacc=>?_)
 have hl:acc.toList.length=ord.size:=by rw[Array.length_toList];~hacc.1
 have hae:acc.toList=ord.toList.map (·.2):=by
  &Hf (by rw[hl,List.length_map,Array.length_toList]) fun j v e=>?_
  !⟨y,h1,h2⟩:=hacc.2 j v (by rw[<- Array.getElem?_toList];~e)
  rw[List.getElem?_map,Array.getElem?_toList,h1,h2];rfl
 have hints:IntsAre acc.toList (acc.toList.map Nv):=oI fun v hv=>by
  rw[hae] at hv
  !⟨e,he,rfl⟩:=List.mem_map.mp hv
  ~hint e he
 have hpk:(acc.toList.map Nv).Perm ks:=by
  rw[hae,List.map_map];~hperm
 &wpAny_bind (wpAny_newList ?_ (by rw[hl,sizeLine_eq];omega))
 have hoL:(h'.push (seqObj "list" acc.toList.toArray 0)).get? h'.objs.size=some (seqObj "list" acc.toList.toArray 0):=Heap.get?_push_size _ rfl
 &wpAny_bind (wpAny_holding (wpAny_call_entry slot_list_sort ⟨_,hoL,rfl⟩ entry_list_sort (list_sort_tree hoL hints (by rw[hl];omega) fun out ns' a1 a2 a3=>⟨_,rfl,?_⟩) (args_list_sort _)))
 &wpAny_pure ⟨_,rfl,?_⟩
 have hns:ns'=xi ks:=rg (a2.trans hpk) a3
 subst hns
 have hD:S<h'.objs.size:=Heap.lt_size (hk S _ hI.choose_spec.1)
 obtain⟨n1,g1⟩:∃n1,((h'.push (seqObj "list" acc.toList.toArray 0)).update h'.objs.size (Obj.mapSeq fun _=>#[])).get? h'.objs.size=some (seqObj "list" #[] n1):=⟨_,get?_update_seq hoL (fun _=>#[])⟩
 have g2:((((h'.push (seqObj "list" acc.toList.toArray 0)).update h'.objs.size (Obj.mapSeq fun _=>#[])).push (seqObj "tuple" acc.toList.toArray 0)).push (seqObj "list" #[] 0)).get? h'.objs.size=some (seqObj "list" #[] n1):=Heap.get?_push_of_some _ (Heap.get?_push_of_some _ g1)
 obtain⟨n3,g3⟩:∃n3,(sortedHeap (h'.push (seqObj "list" acc.toList.toArray 0)) h'.objs.size acc.toList out).get? h'.objs.size=some (seqObj "list" out n3):=⟨_,get?_update_seq g2 (fun _=>out)⟩
 &h h'.objs.size _ tk n3 out.toList hD (fun b o e=>?_) (by rw[g3]) a1
 have hb:b≠h'.objs.size:=Nat.ne_of_lt (Heap.lt_size (hk b o e))
 ~(Heap.get?_update_other _ _ (Ne.symm hb)).trans (Heap.get?_push_of_some _ (Heap.get?_push_of_some _ ((Heap.get?_update_other _ _ (Ne.symm hb)).trans (Heap.get?_push_of_some _ (hk b o e)))))
end
end HW
set_option maxHeartbeats 1000000
namespace HW
open PySem PySem.Spec PyProof.Rows L2
section
variable{X:Cx}
theorem vals_ints{K:W.Frag}{H:Hp}:∀{ds:LD} {ns:List Int} {xs:List V} {its:List Value},intsOf ds=some ns->i5 K H ds xs->l6 xs its->IntsAre its ns
 | [],ns,xs,its,e,r,v=>by
  cases e
  cases (show xs=[] from r)
  cases v
  ~.nil
 | .int i::ds,ns,xs,its,e,r,v=>by
  !⟨ms,e1,e2⟩:=t7 (show(intsOf ds).map (i::·)=some ns from e)
  subst e2
  !⟨x,xr,rfl,r1,r2⟩:=r
  cases (show x=_ from r1)
  cases v with
  | cons v1 v2 =>
   !⟨t,rfl⟩:=v1
   ~.cons i t (vals_ints e1 r2 v2)
 | .non::_,_,_,_,e,_,_=>by cases e
 | .bl _::_,_,_,_,e,_,_=>by cases e
 | .str _::_,_,_,_,e,_,_=>by cases e
 | .tup _::_,_,_,_,e,_,_=>by cases e
 | .lst _::_,_,_,_,e,_,_=>by cases e
 | .fro _::_,_,_,_,e,_,_=>by cases e
theorem fZ{K:W.Frag}{H:Hp}:∀{ns:List Int} {its:List Value},IntsAre its ns->l6 (ns.map V.int) its/\i5 K H (ns.map D.int) (ns.map V.int)
 | _,_,.nil=>⟨.nil,rfl⟩
 | _,_,.cons n t r=>⟨.cons ⟨t,rfl⟩ (fZ (K:=K) (H:=H) r).1,⟨_,_,rfl,rfl,(fZ r).2⟩⟩
theorem JN(ns:List Int):zy (fun i=>ns.getD i 0) ns.length=Bf ns:=by
 unfold zy Bf
 congr 1
 &List.ext_getElem? fun j=>?_
 rw[List.getElem?_map]
 by_cases h:j<ns.length
 ·rw[List.getElem?_range h,List.getElem?_eq_getElem h];simp[h]
 ·rw[List.getElem?_eq_none (by simpa using h),List.getElem?_eq_none (by omega)];rfl
theorem oY:∀(its:List Value) (ns:List Int),its.length=ns.length->(∀(j:Nat) (v:Value),its[j]?=some v->∃t,v=.int (ns.getD j 0) t)->IntsAre its ns
 | [],[],_,_=>.nil
 | [],_::_,h,_=>by cases h
 | _::_,[],h,_=>by cases h
 | v::r,n::ns,hl,h=>by
  !⟨t,e⟩:=h 0 v rfl
  cases (show v=.int n t from e)
  ~.cons n t (oY r ns (Nat.succ.inj hl) fun j u hu=>h (j+1) u hu)
theorem tR{e:Expr}{f:R->OD}{p p' pos pos':Pos}(hc:X.calm=true)(hm:X.mg "sorted" = none)(hm':X.mg "set" = none)(he:SE X e f)(hg:Gl X "sorted":=by rfl)(hg':Gl X "set":=by rfl)(hst:noStar e=true:=by rfl) :
  SE X (.Call (.Name "sorted" p) [.Call (.Name "set" p') [e] [] pos'] [] pos) (c8 Qh (c4 f c7)):=by
 intro pins s σ H Q I ⟨ρ,d,er,eq,q⟩
 !⟨ds,e1,e2⟩:=h9 eq
 have hst1:=aF [] X.env hst
 &Call_ (cJ I hg hm boot_sorted ?_)
 &Calls.callWith_builtin rfl (Calls.evalArgs_plain (Calls.spliced_cons ?_))
 &Call_ (cJ I hg' hm' boot_set ?_)
 &PyProof.Rows.callWith_type1 (uo ((ac he af hst).1 pos' pins s σ H (fun vs H2=>i6 H H2/\i5 X.K H2 ds vs) I ⟨ρ,ds,er,e1,fun vs H2 s2 r2=>⟨s2,r2⟩⟩) fun us s1 ⟨vs,H1,I1,r1,s01,rp⟩=>?_) (by rw[hst1]) rfl
 have hh:=I1.ok.hd hc
 match ds,e2 with
 | [.lst es],e2 =>
  !⟨ns,e3,e4⟩:=h9 (show(intsOf es).bind _=some d from e2)
  split at e4
  case isFalse=>cases e4
  case isTrue hn =>
  cases e4
  !⟨v,r',rfl,⟨a,xs,rfl,ha,rx⟩,rr⟩:=rp
  cases (show r'=[] from rr)
  !⟨u,rfl,ru⟩:=r1.one
  cases (show u=_ from ru)
  !⟨_,its,n,rv,hl,eo⟩:=I1.lstM ha
  have hI:=vals_ints e3 rx rv
  have hlen:its.length=ns.length:=IntsAre.length hI
  &qR (val:=fun i=>ns.getD i 0) hh ⟨_,eo,rfl,n,rfl⟩ (fun i v hv=>IntsAre.int_at hI i v (by simpa using hv)) (by rw[List.size_toArray,hlen];~hn) fun h' tk hS hk=>?_
  have hz2:its.toArray.size=ns.length:=by rw[List.size_toArray];~hlen
  rw[hz2,JN] at hS
  &Calls.spliced_nil ?_
  have hd4:(Bf ns).length<=4:=Nat.le_trans (zS ns []) (by simpa using hn)
  &FE (s:={s1 with heap:=h',toks:=tk}) hh hS hd4 fun D h2 tk2 n2 its2 hD hk2 hg2 hi2=>?_
  !⟨v1,v2⟩:=fZ (K:=X.K) (H:=upd H1 D (.lst ((xi (Bf ns)).map V.int))) hi2
  have hz:((xi (Bf ns)).map V.int).length<=sizeLine:=by
   rw[List.length_map,(wu _).length_eq,sizeLine_eq];omega
  have hf:H1 D=none:=I1.hok.fresh (Nat.le_of_lt hD)
  &⟨.ref D,upd H1 D (.lst ((xi (Bf ns)).map V.int)),I1.laid (t':=tk2) (fun b o eb=>hk2 b o (hk b o (Heap.lt_size eb) eb)) (Nat.le_of_lt hD) ⟨hz,its2,n2,v1,hg2⟩,rfl,?_⟩
  &q _ _ (s01.trans fun b u hb=>?_) ⟨D,_,rfl,au,v2⟩
  rw[aq fun z=>by rw[z,hf] at hb;cases hb]
  ~hb
theorem rO{a b c:Expr}{f g h:R->OD}{p p' pos pos':Pos}(hcm:X.calm=true)(hm:X.mg "list" = none)(hm':X.mg "range" = none)(ha:SE X a f)(hb:SE X b g)(hc:SE X c h)(hg:Gl X "list":=by rfl)(hg':Gl X "range":=by rfl)(hs:noStar a=true:=by rfl)(hs2:noStar b=true:=by rfl)(hs3:noStar c=true:=by rfl) :
  PE X (.Call (.Name "list" p) [.Call (.Name "range" p') [a,b,c] [] pos'] [] pos) (fun σ H Q=>∃ ρ es,ut X.K H ρ σ/\C4 f g h ρ=some es/\es.length<=1000/\∀(D:Addr) vs H1,i6 H H1->H1 D=none->i5 X.K H1 es vs->Q (.ref D) (upd H1 D (.lst vs))):=by
 have z3:=aF [] X.env hs3
 have z2:=aF [c] X.env hs2
 have z1:=aF [b,c] X.env hs
 intro pins s σ H Q I ⟨ρ,es,er,e,hn,q⟩
 !⟨x,e1,e⟩:=h9 e
 !⟨y,e2,e⟩:=h9 e
 !⟨z,e3,e⟩:=h9 e
 !⟨i,e4,e⟩:=h9 e
 !⟨j,e5,e⟩:=h9 e
 !⟨k,e6,e⟩:=h9 e
 split at e
 case isFalse=>cases e
 case isTrue hz =>
 cases e
 &Call_ (cJ I hg hm boot_list ?_)
 &PyProof.Rows.callWith_type1 (Calls.spliced_cons ?_) rfl rfl
 &Call_ (cJ I hg' hm' boot_range ?_)
 &PyProof.Rows.callWith_type1 (uo ((ac ha (ac hb (ac hc af hs3) hs2) hs).1 pos' pins s σ H (fun vs H2=>i6 H H2/\i5 X.K H2 [x,y,z] vs) I ⟨ρ,[x,y,z],er,by show(f ρ).bind _=_;rw[e1];show((g ρ).bind _).map _=_;rw[e2];show(((h ρ).bind _).map _).map _=_;rw[e3];rfl,fun vs H2 s2 r2=>⟨s2,r2⟩⟩) fun us s1 ⟨vs,H1,I1,r1,s01,rp⟩=>?_) (by rw[z1,z2,z3]) (by rw[z2,z3];rfl)
 !⟨v,r,rfl,r2,r3⟩:=rp
 !⟨u,r',rfl,r4,r5⟩:=r3
 !⟨w,r'',rfl,r6,r7⟩:=r5
 cases (show r''=_ from r7)
 have hv:=vI e4 r2
 have hu:=vI e5 r4
 have hw:=vI e6 r6
 subst hv hu hw
 !⟨q1,q2,q3,q4,q5,q6⟩:=hz
 cases r1 with
 | cons r rr =>
  cases rr with
  | cons r' rr =>
   cases rr with
   | cons r'' rr =>
    cases rr
    !⟨t,rfl⟩:=r
    !⟨t',rfl⟩:=r'
    !⟨t'',rfl⟩:=r''
    &call_range_3 (by omega) ?_ (.inl (PyProof.noPylong_small (by omega)))
    &Calls.spliced_nil ?_
    have hlen:(Ap i j k).length=wF i j k:=by simp[Ap]
    generalize hob:({cls:=.type "range",data:=.fields #[.int i t,.int j t',.int k t'']}:Obj)=ob
    have hR:IsRange (s1.heap.push ob) s1.heap.objs.size i j k t t' t'':=by subst hob;~IsRange.new ..
    &call_list_range (s:={s1 with heap:=s1.heap.push ob}) (n:=wF i j k) (I1.ok.hd hcm) hR (Nf q1 q2 q3 q4 q5 q6) (GH q5).symm (by rw[<- hlen];omega) fun h' tk acc c' hk hS' hacc=>?_
    have hD:s1.heap.objs.size<=(s1.heap.push ob).objs.size:=by rw[Heap.size_push];~Nat.le_succ _
    generalize (s1.heap.push ob).objs.size=Da at hS' hD
    have hI:IntsAre acc.toList ((List.range (wF i j k)).map fun (m:Nat)=>i+(m:Int)*k):=by
     &oY _ _ (by rw[Array.length_toList,List.length_map,List.length_range];~hacc.1) fun m v hv=>?_
     have hm:m<wF i j k:=by
      have:=(List.getElem?_eq_some_iff.mp hv).1
      rw[Array.length_toList,hacc.1] at this
      ~this
     !⟨t,e⟩:=hacc.2 m v (by rw[<- Array.getElem?_toList];~hv)
     &⟨t,e.trans ?_⟩
     simp[List.getD_eq_getElem?_getD,List.getElem?_map,List.getElem?_range hm]
    have hmp:Ap i j k=((List.range (wF i j k)).map fun (m:Nat)=>i+(m:Int)*k).map D.int:=by
     unfold Ap;rw[List.map_map];rfl
    !⟨v1,v2⟩:=fZ (K:=X.K) (H:=H1) hI
    have hf:H1 Da=none:=I1.hok.fresh hD
    rw[hmp] at q
    &⟨.ref Da,upd H1 Da (.lst (((List.range (wF i j k)).map fun (m:Nat)=>i+(m:Int)*k).map V.int)),I1.laid (t':=tk) (o:=.lst (((List.range (wF i j k)).map fun (m:Nat)=>i+(m:Int)*k).map V.int)) (fun b o eb=>hk b o (Heap.get?_push_of_some _ eb)) hD ⟨?_,acc.toList,c',v1,by rw[hS']⟩,rfl,q Da _ H1 s01 hf v2⟩
    rw[List.length_map,List.length_map,List.length_range,<- hlen,sizeLine_eq];omega
variable{sts:List Stmt}
theorem qZ{x:Str}{c ea eb ec:Expr}{s:R->Option Bool}{f g h:R->OD}{w:R->LD->Option Out}{px p1 p2 p1' p2' pos pos':Pos}(i:Nat)(hcm:X.calm=true)(hm:X.mg "list" = none)(hm':X.mg "range" = none)(hN:X.N.Nodup)
  (hc:ST X c s) (ha:SE X ea f) (hb:SE X eb g) (hd:SE X ec h) (h2:OB X sts w) (hix:X.N[i]?=some x:=by rfl) (hx:Loc X.env.scope x:=by first | ~Or.inl rfl | ~Or.inr rfl) (hg:Gl X "list":=by rfl) (hg':Gl X "range":=by rfl)
  (hsa:noStar ea=true:=by rfl) (hsb:noStar eb=true:=by rfl) (hsc:noStar ec=true:=by rfl)
  (hs:swapsWith (.Call (.Name "list" p1) [.Call (.Name "range" p2) [ea,eb,ec] [] p2'] [] p1') (some (.Name x px)) pos.line X.env=pure false:=by rfl) (hf:X.fn x=true\/X.env.scope.names.lookup x=some .local:=by first | ~.inl rfl | ~.inr rfl) :
  OB X (.If c [.Assign [.Name x px] (.Call (.Name "list" p1) [.Call (.Name "range" p2) [ea,eb,ec] [] p2'] [] p1') pos] [] pos'::sts) (wN i s (C4 f g h) w):=by
 intro pins st σ H E I ⟨ρ,τ,a,ds,xs,o,er,ho,rp,e,qq⟩
 !⟨b,eb1,e⟩:=h9 e
 &wpAny_execs_cons (uo ((jH hc (da (g_ (i:=i) hN hix hx (rO (p:=p1) (p':=p2) (pos:=p1') (pos':=p2') hcm hm hm' ha hb hd hg hg' hsa hsb hsc) hs hf)) zQ) pins st σ H
  {E with nx:=fun σ' H'=>(b=false/\σ'=σ/\i6 H H')\/(b=true/\∃a' vs es H1,C4 f g h ρ=some es/\σ'=σ.set i (some (.ref a'))/\H'=upd H1 a' (.lst vs)/\H1 a'=none/\i6 H H1/\i5 X.K H1 es vs)} I ?_) fun fl s1 q=>?_)
 ·&⟨ρ,b,er.1,eb1,fun H1 s1=>?_⟩
  cases b with
  | false=>rw[if_neg Bool.false_ne_true];~.inl ⟨rfl,rfl,s1⟩
  | true =>
   rw[if_pos rfl] at e ⊢
   !⟨es,e1,e⟩:=h9 e
   split at e
   ·rename_i hz
    ~⟨ρ,es,er.1.mono s1,e1,hz.2,fun D vs H2 s2 hf rr=>.inr ⟨rfl,D,vs,es,H2,e1,rfl,rfl,hf,s1.trans s2,rr⟩⟩
   ·cases e
 cases fl with
 | next =>
  !⟨σ',H',I',q | q⟩:=q
  ·!⟨rfl,rfl,s1⟩:=q
   rw[if_neg Bool.false_ne_true] at e
   ~h2 pins _ _ H' E I' ⟨ρ,τ,a,ds,xs,o,er.mono s1,s1 _ _ ho,rp.mono s1,e,fun H2 k=>qq H2 ((xk.of s1).trans k)⟩
  ·!⟨rfl,a',vs,es,H1,e1,rfl,rfl,hf,s1',r1⟩:=q
   rw[if_pos rfl,e1] at e
   simp only[Option.bind_some] at e
   split at e
   case isFalse=>cases e
   case isTrue hz =>
   have I2:=E6 I' au
   generalize hH2:upd (upd H1 a' (.lst vs)) a' (xW a' vs)=H2 at I2
   have k12:xk a' H1 H2:=by
    subst hH2
    ~xk.upd.trans xk.upd
   have s12:i6 H1 H2:=fun b u hb=>k12 b u (fun z=>by rw[z,hf] at hb;cases hb) hb
   have ho2:H2 a'=some (xW a' vs):=by subst hH2;~au
   have hσi:i<σ.length:=by
    have:=(List.getElem?_eq_some_iff.mp (ox er)).1
    rw[<- hz.1];~this
   have r2:i5 X.K H2 es vs:=r1.mono s12
   &h2 pins _ _ H2 E I2 ⟨ρ,τ,a',es,vs,o,⟨⟨?_,fun j d hd=>?_⟩,?_⟩,ho2,r2,e,fun H' k=>qq H' fun b u hne hb=>?_⟩
   ·rw[List.length_set];~er.1.1
   ·have hj:j<i:=by
     rw[<- hz.1];~(List.getElem?_eq_some_iff.mp hd).1
    !⟨v,h1,h2⟩:=er.1.2 j d hd
    ~⟨v,by rw[List.getElem?_set_ne (by omega)];~h1,(h2.mono s1').mono s12⟩
   ·have hd:σ.drop i=some (.ref a)::τ:=by rw[<- hz.1];~er.2
    rw[hz.1,List.drop_eq_getElem_cons (by simpa using hσi)]
    congr 1
    ·simp
    ·rw[List.drop_set_of_lt (by omega),<- List.drop_drop,hd];rfl
   ·have hb1:=s1' _ _ hb
    ~k b u (fun z=>by rw[z,hf] at hb1;cases hb1) (s12 _ _ hb1)
 | brk=>~q
 | cont=>~q
 | ret v=>~q
end
section
variable{prog:Program}{w:World}{A:Around}{R':Result->Shared->Prop}{I:Addr}{fp wr:List Addr}{n:Nat}{P:Nat->Value->Prop}{St:Nat->Heap->Prop}
end
section
variable{prog:Program}{w:World}{A:Around}{E:Value->Shared->Prop}{s:Shared}
end
section
variable{X:Cx}
end
end HW
namespace HW
end HW
namespace HW
open PySem PySem.Spec PyProof.Rows L2
section
variable{prog:Program}{w:World}{A:Around}{E:Value->Shared->Prop}{s:Shared}
end
section
variable{X:Cx}
end
end HW
namespace HW
end HW
namespace HW
open PySem PySem.Spec PyProof.Rows L2
section
variable{X:Cx}
end
end HW
namespace HW
open PySem
end HW
namespace HW
open PySem PySem.Spec PyProof.Rows L2
section
variable{X:Cx}
end
abbrev u6(K:W.Frag)(n:Str)(st:Stmt)(f:Addr):Prop:=∃(oc:Value) (od an:Option Addr) (sl:Array (Option Value)) (kV dc pm cd ct:Value),W.nsIn K mainGlobals n=some (some (.ref f)) /\
 K.lookup f=some ⟨oc,od,.func (W.fnOf n n (vf st) (uh st) (c6 st) .none kV dc pm an cd ct),sl⟩/\W.codeIn K cd n=true/\W.keepIn K (.ref f)=true
theorem u7{K:W.Frag}{n:Str}{st:Stmt}{f:Addr}(h:u6 K n st f):∃fd,uv K n n st f fd/\W.nsIn K mainGlobals n=some (some (.ref f)):=by
 !⟨oc,od,an,sl,kV,dc,pm,cd,ct,a,l,c,k⟩:=h
 ~⟨_,rk l c k,a⟩
theorem fn4_mk{K:W.Frag}{n:Str}{st:Stmt}{f:Addr}{oc:Value}{od an:Option Addr}{sl:Array (Option Value)}{kV dc pm cd ct:Value}(a:W.nsIn K mainGlobals n=some (some (.ref f)))
  (l:K.lookup f=some ⟨oc,od,.func (W.fnOf n n (vf st) (uh st) (c6 st) .none kV dc pm an cd ct),sl⟩) (c:W.codeIn K cd n=true) (k:W.keepIn K (.ref f)=true):u6 K n st f:=⟨oc,od,an,sl,kV,dc,pm,cd,ct,a,l,c,k⟩
theorem l8.m{P:Program}{w:World}{K:W.Frag}{mg:Str->Option Value}{base:Heap}{j k:Nat}{x:Str}{ps:List Str}{F:LD->OD}(h:l8 P w K mg base j x ps F)(hk:j<=k:=by decide):l8 P w K mg base k x ps F:=h.mono hk
end HW
namespace HW
open PySem
inductive MO where
 | nx (ρ:R)
 | rt (d:D) (ρ:R)
abbrev MU:=List Nat->R->Option MO
def uK(u:R->Option Out):MU:=fun _ ρ=>(u ρ).bind fun o=>match o with
 | .nx ρ2=>some (.nx ρ2)
 | .rt d=>some (.rt d ρ)
 | _=>none
def we:MU:=fun _ ρ=>some (.nx ρ)
def vc(u w:MU):MU:=fun S ρ=>(u S ρ).bind fun o=>match o with
 | .nx ρ2=>w S ρ2
 | o=>some o
def CL(c:R->Option Bool)(u w:MU):MU:=fun S ρ=>(c ρ).bind fun b=>if b then u S ρ else w S ρ
noncomputable def DA(st:D->R->Option R)(u:MU)(S:List Nat):LD->R->Option MO
 | [],ρ=>some (.nx ρ)
 | d::ds,ρ=>(st d ρ).bind fun ρ1=>(u S ρ1).bind fun o=>match o with
  | .nx ρ2=>DA st u S ds ρ2
  | o=>some o
def Ic(it:R->Option LD)(st:D->R->Option R)(u:MU):MU:=fun S ρ=>(it ρ).bind fun ds=>if n5 ds then DA st u S ds ρ else none
def uj:OD->Bool
 | some d=>uC d
 | none=>true
def uS(i:Nat)(ρ:R):Bool:=(ρ.set i none).all uj
noncomputable def xV:D->List Nat
 | .obj _ a _ _=>[a]
 | _=>[]
def adr:D->List Nat
 | .obj _ a _ es=>a::es.flatMap xV
 | _=>[]
def AE(S:List Nat)(as:List Nat):Bool:=as.all fun a=>S.contains a
def Bh(c:List Nat->R->Option (D×R)):MU:=fun S ρ=>(c S ρ).map fun r=>.nx r.2
def Dz(c:List Nat->R->Option (D×R)):MU:=fun S ρ=>(c S ρ).map fun r=>.rt r.1 r.2
noncomputable def Bd:List Str->LD->Str->OD
 | k::ks,d::ds,x=>if k=x then some d else Bd ks ds x
 | _,_,_=>none
def putD:List Str->LD->Str->D->List Str×LD
 | k::ks,d::ds,x,e=>if k=x then (k::ks,e::ds) else (k::(putD ks ds x e).1,d::(putD ks ds x e).2)
 | ks,ds,x,e=>(ks++[x],ds++[e])
def u5(C:Nat)(x:Str):D->OD
 | .obj k _ ks ds=>if k=C+2 then Bd ks ds x else none
 | _=>none
def okN:D->Bool
 | .obj 0 _ _ es=>n5 es
 | d=>uC d
def wW(i C:Nat)(x:Str)(f:R->OD):MU:=fun S ρ=>(f ρ).bind fun d=>match c5 i ρ with
 | some (.obj k a ks ds)=>if k=C+2/\uC d=true/\uS i ρ=true/\AE S (a::ds.flatMap xV)=true/\ks.length<100/\ds.all okN=true/\(Bd ks ds x).all uC=true then some (.nx (ρ.set i (some (.obj k a (putD ks ds x d).1 (putD ks ds x d).2)))) else none
 | _=>none
def JH(i C:Nat)(x:Str)(f:R->OD):MU:=fun S ρ=>(f ρ).bind fun d=>match c5 i ρ with
 | some (.obj k a ks ds)=>match Bd ks ds x with
  | some (.obj 0 l ls es)=>if k=C+2/\uC d=true/\uS i ρ=true/\AE S (a::ds.flatMap xV)=true/\es.length<1000/\n5 es=true/\n5 (putD ks ds x .non).2=true/\S.contains l=true then some (.nx (ρ.set i (some (.obj k a (putD ks ds x (.obj 0 l ls (es++[d]))).1 (putD ks ds x (.obj 0 l ls (es++[d]))).2)))) else none
  | _=>none
 | _=>none
def J_(j:Nat)(ob d:D)(ρ:R):Option (D×D):=(c5 j ρ).bind fun ob'=>if xC ob'=true/\adr ob'=adr ob then some (d,ob') else none
def DE(n N j:Nat)(g:MU):LD->Option (D×D):=fun ds=>if ds.length=n then (ds[j]?).bind fun ob=>if xC ob=true then (g (adr ob) (AG N ds)).bind fun o=>match o with
 | .nx ρ=>J_ j ob .non ρ
 | .rt d ρ=>J_ j ob d ρ
 else none else none
def Ag:D->Nat
 | .obj _ a _ _=>a
 | _=>0
def wU(i:Nat)(C:Nat)(m:Str)(G:LD->Option (D×D))(F:R->Option LD)(S:List Nat)(ρ:R):Option (D×R):=(c5 i ρ).bind fun ob=>(F ρ).bind fun ds=>(G (ob::ds)).bind fun r =>
 match ob with
 | .obj k _ ks _=>if k=C+2/\ks.contains m=false/\uS i ρ=true/\AE S (adr ob)=true then some (r.1,ρ.set i (some r.2)) else none
 | _=>none
def CY(C:Nat)(m:Str)(G:LD->OD)(f:R->OD)(F:R->Option LD):R->OD:=fun ρ=>(f ρ).bind fun ob=>(F ρ).bind fun ds=>match ob with
 | .obj k _ ks _=>if k=C+2/\ks.contains m=false then G (ob::ds) else none
 | _=>none
def yj(N C:Nat)(f:Str)(g:MU)(ds:LD)(a l:Nat):OD:=(g [a] (AG N (.obj (C+2) a [] []::ds))).bind fun o=>match o with
 | .nx ρ=>match c5 0 ρ with
  | some (.obj k b ks es)=>if k=C+2/\b=a/\n5 es=true/\ks.length<100 then some (.obj k b (putD ks es f (.obj 0 l [] [])).1 (putD ks es f (.obj 0 l [] [])).2) else none
  | _=>none
 | _=>none
noncomputable def Fc(i:Nat)(mk:LD->Nat->Nat->OD)(F:R->Option LD)(w:MU):R->Option Out:=fun ρ=>(F ρ).bind fun ds=>open Classical in
 if h:i<ρ.length/\∃r,∀a l,a≠l->∃ob ρ',mk ds a l=some ob/\w [a,l] (ρ.set i (some ob))=some (.rt r ρ') then some (.rt h.2.choose) else none
theorem KN{i:Nat}{mk:LD->Nat->Nat->OD}{F:R->Option LD}{w:MU}{ρ:R}{ds:LD}{r:D}(h1:F ρ=some ds)(hi:i<ρ.length)(h2:∀a l,a≠l->∃ob ρ',mk ds a l=some ob/\w [a,l] (ρ.set i (some ob))=some (.rt r ρ')):Fc i mk F w ρ=some (.rt r):=by
 unfold Fc
 rw[h1,Option.bind_some,dif_pos ⟨hi,r,h2⟩]
 have z:=(show ∃r,∀a l,a≠l->∃ob ρ',mk ds a l=some ob/\w [a,l] (ρ.set i (some ob))=some (.rt r ρ') from⟨r,h2⟩).choose_spec 0 1 (by decide)
 !⟨ob,ρ',e1,e2⟩:=z
 !⟨ob2,ρ2,e3,e4⟩:=h2 0 1 (by decide)
 rw[e1] at e3
 cases e3
 rw[e2] at e4
 ~congrArg (fun x=>some (Out.rt x)) (MO.rt.inj (Option.some.inj e4)).1
theorem Kj{i:Nat}{mk:LD->Nat->Nat->OD}{F:R->Option LD}{w:MU}{ρ:R}{o:Out}(h:Fc i mk F w ρ=some o):∃ds r,F ρ=some ds/\i<ρ.length/\o=.rt r/\∀a l,a≠l->∃ob ρ',mk ds a l=some ob/\w [a,l] (ρ.set i (some ob))=some (.rt r ρ'):=by
 cases e:F ρ with
 | none=>unfold Fc at h;rw[e] at h;cases h
 | some ds =>
  unfold Fc at h
  rw[e,Option.bind_some] at h
  split at h
  ·rename_i q
   cases h
   ~⟨ds,_,rfl,q.1,rfl,q.2.choose_spec⟩
  ·cases h
def JY:LD->OD
 | [.lst es]=>(intsOf es).bind fun ns=>if ns.length<=1000/\ns.all (fun n=>decide (0<=n/\n<1099511627776))=true then some (.int ns.sum) else none
 | _=>none
end HW
namespace HW
open PySem PySem.Spec PyProof.Rows L2
def LR:Option HO->Prop
 | some (.ins _ _ _)=>True
 | some (.dK _)=>True
 | some (.frz _ (.own _))=>True
 | _=>False
def uQ(S:List Nat)(H H':Hp):Prop:=∀b u,b∉S->H b=some u->H' b=some u
def t9(S:List Nat)(H:Hp):Prop:=∀b∈S,LR (H b)
section
variable{S T:List Nat}{H H' H1 H2:Hp}{K:W.Frag}
theorem uQ.of(h:i6 H H'):uQ S H H':=fun b u _ e=>h b u e
theorem uQ.refl:uQ S H H:=fun _ _ _ e=>e
theorem uQ.trans(h:uQ S H H1)(k:uQ S H1 H2):uQ S H H2:=fun b u n e=>k b u n (h b u n e)
theorem uQ.mono(h:uQ S H H')(hs:∀b∈S,b∈T):uQ T H H':=fun b u n e=>h b u (fun z=>n (hs b z)) e
theorem t9.same(m:t9 S H)(s:i6 H H'):t9 S H':=fun b hb=>by
 have h:=m b hb
 cases e:H b with
 | none=>rw[e] at h;~h.elim
 | some u=>rw[s b u e];rw[e] at h;~h
theorem t9.nin{a:Nat}{u:HO}(m:t9 S H)(e:H a=some u)(n:¬ LR (some u)):a∉S:=fun z=>n (by have:=m a z;rw[e] at this;~this)
theorem uQ.tup{a:Addr}{xs:List V}(m:t9 S H)(s:uQ S H H')(h:xj K H a xs):xj K H' a xs:=by
 rcases h with (h | ⟨o,h⟩) | h
 ·~.inl (.inl (s _ _ (m.nin h fun z=>z) h))
 ·~.inl (.inr ⟨o,s _ _ (m.nin h fun z=>z) h⟩)
 ·~.inr h
theorem uQ.seq{a:Addr}{xs:List V}(m:t9 S H)(s:uQ S H H')(h:wj K H a xs):wj K H' a xs:=by
 rcases h with (h | ⟨o,h⟩) | h
 ·~.inl (.inl (s _ _ (m.nin h fun z=>z) h))
 ·~.inl (.inr ⟨o,s _ _ (m.nin h fun z=>z) h⟩)
 ·~.inr h
end
mutual
theorem Rep.kq{S:List Nat}{K:W.Frag}{H H':Hp}(m:t9 S H)(s:uQ S H H'):∀{d:D} {v:V},uC d=true->Rep K H d v->Rep K H' d v
 | .non,_,_,h=>h
 | .bl _,_,_,h=>h
 | .int _,_,_,h=>h
 | .str _,_,_,h=>h
 | .tup ds,_,hn,h=>by
  !⟨a,xs,e,q,r⟩:=h
  ~⟨a,xs,e,s.tup m q,i5.kq m s hn r⟩
 | .lst ds,_,hn,h=>by
  !⟨a,xs,e,q,r⟩:=h
  ~⟨a,xs,e,s _ _ (m.nin q fun z=>z) q,i5.kq m s hn r⟩
 | .fro ds,_,hn,h=>by
  !⟨a,xs,e,q,r⟩:=h
  ~⟨a,xs,e,s.seq m q,i5.kq m s hn r⟩
 | .obj ..,_,hn,_=>by cases hn
 | .rf ..,_,hn,_=>by cases hn
theorem i5.kq{S:List Nat}{K:W.Frag}{H H':Hp}(m:t9 S H)(s:uQ S H H'):∀{ds:LD} {vs:List V},n5 ds=true->i5 K H ds vs->i5 K H' ds vs
 | [],_,_,h=>h
 | d::ds,_,hn,h=>by
  have hn':(uC d&&n5 ds)=true:=hn
  rw[Bool.and_eq_true] at hn'
  !⟨v,r,e,q,t⟩:=h
  ~⟨v,r,e,Rep.kq m s hn'.1 q,i5.kq m s hn'.2 t⟩
end
section
variable{S T:List Nat}{H H' H1 H2:Hp}{K:W.Frag}
theorem Ku.mut{k a:Nat}{ks:List Str}{vs:List V}(h:Ku H k a ks vs):LR (H a):=by
 match k,h with
 | 0,⟨_,_,_,_,e⟩=>rw[e];trivial
 | 1,⟨_,e⟩=>rw[e];trivial
 | C+2,⟨_,_,e⟩=>rw[e];trivial
theorem i5.mem:∀{ds:LD} {vs:List V} {d:D},i5 K H ds vs->d∈ds->∃v,Rep K H d v
 | [],_,_,_,h=>by cases h
 | e::ds,vs,d,h,hd=>by
  !⟨v,r,_,q,t⟩:=h
  rcases List.mem_cons.mp hd with rfl | hd
  ·~⟨v,q⟩
  ·~i5.mem t hd
theorem xH{ob:D}{v:V}(r:Rep K H ob v):t9 (adr ob) H:=fun b hb=>by
 cases ob with
 | obj k a ks es =>
  !⟨xs,_,q,t⟩:=r
  rcases List.mem_cons.mp hb with rfl | hb
  ·~q.mut
  ·!⟨e,he,hb⟩:=List.mem_flatMap.mp hb
   cases e with
   | obj k' a' ks' es' =>
    !⟨v',xs',_,q',_⟩:=i5.mem t he
    rw[show b=a' from List.mem_singleton.mp hb]
    ~q'.mut
   | _=>cases hb
 | _=>cases hb
theorem E8{as:List Nat}(h:AE S as=true):∀b∈as,b∈S:=fun b hb=>by
 have:=List.all_eq_true.mp h b hb
 simpa using this
theorem nz{ob:D}{v:V}(h:xC ob=true)(r:Rep K H ob v):v=.ref (Ag ob):=by
 cases ob with
 | obj k a ks es=>!⟨xs,e,_⟩:=r;~e
 | _=>cases h
theorem qC{ρ:R}{σ:L2.St}{i:Nat}{ob':D}{v:V}(er:ut K H ρ σ)(m:t9 S H)(s:uQ S H H')(hn:uS i ρ=true)(hv:σ[i]?=some (some v))(r:Rep K H' ob' v):ut K H' (ρ.set i (some ob')) σ:=by
 &⟨by rw[List.length_set];~er.1,fun j d h=>?_⟩
 by_cases hj:j=i
 ·subst hj
  have hl:j<ρ.length:=by have:=(List.getElem?_eq_some_iff.mp h).1;simpa using this
  rw[List.getElem?_set_self hl] at h
  cases h
  ~⟨v,hv,r⟩
 ·rw[List.getElem?_set_ne (Ne.symm hj)] at h
  !⟨u,h1,h2⟩:=er.2 j d h
  have hd:uj (some d)=true:=List.all_eq_true.mp hn _ (List.mem_of_getElem? (i:=j) (by rw[List.getElem?_set_ne (Ne.symm hj)];~h))
  ~⟨u,h1,Rep.kq m s hd h2⟩
theorem iO{ρ:R}{σ τ:L2.St}{i:Nat}{ob':D}{v:V}(er:uq K H ρ τ σ)(m:t9 S H)(s:uQ S H H')(hn:uS i ρ=true)(hv:σ[i]?=some (some v))(r:Rep K H' ob' v):uq K H' (ρ.set i (some ob')) τ σ:=
 ⟨qC er.1 m s hn hv r,by rw[List.length_set];~er.2⟩
def MV(K:W.Frag)(H:Hp)(ρ:R):Prop:=∀(j:Nat) (d:D),ρ[j]?=some (some d)->xC d=true->Rep K H d (.ref (Ag d))
theorem MV.of{ρ:R}{σ:L2.St}(e:ut K H ρ σ):MV K H ρ:=fun j d h ho=>by
 !⟨v,_,r⟩:=e.2 j d h
 rw[<- nz ho r];~r
variable(K)
def Oh(E:Ends)(τ:L2.St)(o:MO)(H':Hp):Prop:=
 match o with
 | .nx ρ=>∀ σ,uq K H' ρ τ σ->E.nx σ H'
 | .rt d ρ=>∀v,Rep K H' d v->MV K H' ρ->E.rt v H'
def NA(S:List Nat)(u:MU):TS:=fun E σ H=>∃ ρ τ o,uq K H ρ τ σ/\t9 S H/\u S ρ=some o/\∀H',uQ S H H'->t9 S H'->Oh K E τ o H'
def zH(S:List Nat)(J:It)(ds:LD)(H:Hp):Prop:=
 (∀(i:Nat) (d:D) (H2:Hp),uQ S H H2->ds[i]?=some d->J.go i H2/\∀x H3,J.yld i H2 x H3->i6 H2 H3/\Rep K H3 d x)/\∀(i:Nat) (H2:Hp),uQ S H H2->ds.length<=i->J.stop i H2
def Rm(S:List Nat)(f:R->Option LD):L2.TI:=fun σ H W=>∃ ρ ds,ut K H ρ σ/\t9 S H/\f ρ=some ds/\n5 ds=true/\∀J H',i6 H H'->zH K S J ds H'->W J H'
def G1(j:Nat)(G:LD->Option (D×D)):Sp:=fun vs H Q _=>∃ds ob d o',i5 K H ds vs/\ds[j]?=some ob/\xC ob=true/\G ds=some (d,o')/\∀v H',uQ (adr ob) H H'->t9 (adr ob) H'->Rep K H' d v->Rep K H' o' (.ref (Ag ob))->Q v H'
end
def MS(X:Cx)(st:Stmt)(u:MU):Prop:=∀S,PS X st (NA X.K S u)
def EL(X:Cx)(sts:List Stmt)(u:MU):Prop:=∀S,PSs X sts (NA X.K S u)
def QN(X:Cx)(tg iter:Expr)(f:R->Option LD):Prop:=∀S,PI X tg iter (Rm X.K S f)
section
variable{X:Cx}{st:Stmt}{sts:List Stmt}{u w:MU}{pos:Pos}
theorem ID{E:Ends}{σ:L2.St}{H:Hp}{K:W.Frag}{S:List Nat}{p:R->Option Out}(q:NA K S (uK p) E σ H):Lv K p E σ H:=by
 !⟨ρ,τ,o,er,m,e,q⟩:=q
 !⟨o1,e1,e⟩:=h9 e
 &⟨ρ,τ,o1,er,e1,fun H' s=>?_⟩
 cases o1 with
 | nx ρ2=>cases e;~q H' (uQ.of s) (m.same s)
 | rt d=>cases e;~fun v rv=>q H' (uQ.of s) (m.same s) v rv (MV.of (er.mono s).1)
 | bk ρ2=>cases e
 | ct ρ2=>cases e
theorem bp{p:R->Option Out}(h:S1 X st p):MS X st (uK p):=fun S=>PS.imp h fun E σ H z=>ID z
theorem fY:EL X [] we:=fun S=>zQ.imp fun E σ H ⟨ρ,τ,o,er,m,e,q⟩=>by
 cases e
 ~q H uQ.refl m σ er
theorem J0{E:Ends}{σ:L2.St}{H:Hp}{K:W.Frag}{S:List Nat}(q:NA K S (vc u w) E σ H):NA K S u {E with nx:=NA K S w E} σ H:=by
 !⟨ρ,τ,o,er,m,e,q⟩:=q
 !⟨o1,e1,e⟩:=h9 e
 &⟨ρ,τ,o1,er,m,e1,fun H1 k1 m1=>?_⟩
 cases o1 with
 | nx ρ2=>~fun σ2 er2=>⟨ρ2,τ,o,er2,m1,e,fun H2 k2 m2=>q H2 (k1.trans k2) m2⟩
 | rt d ρ2=>cases e;~q H1 k1 m1
theorem aH(h1:MS X st u)(h2:EL X sts w):EL X (st::sts) (vc u w):=fun S=>(dl (h1 S) (h2 S)).imp fun E σ H q=>J0 q
theorem bi(h1:MS X st u):EL X [st] u:=fun S=>da (h1 S)
theorem m_{c:Expr}{s:R->Option Bool}{B1 B2:List Stmt}(hc:ST X c s)(ha:EL X B1 u)(hb:EL X B2 w):MS X (.If c B1 B2 pos) (CL s u w):=fun S=>(jH hc (ha S) (hb S)).imp fun E σ H ⟨ρ,τ,o,er,m,e,q⟩=>by
 !⟨x,e1,e⟩:=h9 e
 &⟨ρ,x,er.1,e1,fun H1 s1=>?_⟩
 cases x with
 | true=>rw[if_pos rfl] at e ⊢;~⟨ρ,τ,o,er.mono s1,m.same s1,e,fun H2 k2 m2=>q H2 ((uQ.of s1).trans k2) m2⟩
 | false=>rw[if_neg Bool.false_ne_true] at e ⊢;~⟨ρ,τ,o,er.mono s1,m.same s1,e,fun H2 k2 m2=>q H2 ((uQ.of s1).trans k2) m2⟩
theorem mU{K:W.Frag}{S:List Nat}{H:Hp}{a:Addr}{ds:LD}{xs:List V}(m:t9 S H)(hn:n5 ds=true)(hq:xj K H a xs)(t:i5 K H ds xs):zH K S (PN K a) ds H:=by
 &⟨fun i d H2 s2 e=>?_,fun i H2 s2 hl=>⟨xs,s2.tup m hq,by rw[<- t.length];~hl⟩⟩
 !⟨v,h1,h2⟩:=(i5.kq m s2 hn t).get e
 &⟨⟨xs,v,s2.tup m hq,h1⟩,fun x H3 ⟨e3,y⟩=>?_⟩
 subst e3
 have:=(y xs (s2.tup m hq)).symm.trans h1
 cases this
 ~⟨i6.refl _,h2⟩
theorem lN{K:W.Frag}{S:List Nat}{H:Hp}{a:Addr}{ds:LD}{xs:List V}(m:t9 S H)(hn:n5 ds=true)(hq:wj K H a xs)(t:i5 K H ds xs):zH K S (Px K a) ds H:=by
 &⟨fun i d H2 s2 e=>?_,fun i H2 s2 hl=>⟨xs,s2.seq m hq,by rw[<- t.length];~hl⟩⟩
 !⟨v,h1,h2⟩:=(i5.kq m s2 hn t).get e
 &⟨⟨xs,v,s2.seq m hq,h1⟩,fun x H3 ⟨e3,y⟩=>?_⟩
 subst e3
 have:=(y xs (s2.seq m hq)).symm.trans h1
 cases this
 ~⟨i6.refl _,h2⟩
theorem mF{K:W.Frag}{S:List Nat}{H:Hp}{x:Str}:zH K S (Ph x) (chars x) H:=by
 have y:∀H,w_ K (Ph x) (chars x) H:=fun H=>jh
 ~⟨fun i d H2 _ e=>(y H2).1 i d H2 (Kp.refl H2) e,fun i H2 _ hl=>(y H2).2 i H2 (Kp.refl H2) hl⟩
theorem mG{K:W.Frag}{S:List Nat}{H:Hp}{a b:Int}:zH K S (NE a (b - a).toNat) (wX a b) H:=by
 have y:∀H,w_ K (NE a (b - a).toNat) (wX a b) H:=fun H=>jy
 ~⟨fun i d H2 _ e=>(y H2).1 i d H2 (Kp.refl H2) e,fun i H2 _ hl=>(y H2).2 i H2 (Kp.refl H2) hl⟩
theorem rP{tg a:Expr}{f:R->OD}(ha:SE X a f):QN X tg a (vj f):=fun S=>(nE ha).imp fun σ H W ⟨ρ,ds,er,m,e,hn,q⟩=>by
 !⟨x,e1,e⟩:=h9 e
 &⟨ρ,x,er,e1,fun v H1 s1 r1=>?_⟩
 have m1:=m.same s1
 cases x with
 | tup xs =>
  cases e
  !⟨a,vs,ev,hq,t⟩:=r1
  ~.inl ⟨a,ev,.inr ⟨⟨vs,hq⟩,q _ H1 s1 (mU m1 hn hq t)⟩⟩
 | lst xs =>
  cases e
  !⟨a,vs,ev,hq,t⟩:=r1
  ~.inl ⟨a,ev,.inl ⟨⟨vs,wj.of hq⟩,q _ H1 s1 (lN m1 hn (wj.of hq) t)⟩⟩
 | str z =>
  dsimp only at e
  split at e
  ·rename_i hz
   cases e
   cases (show v=_ from r1)
   ~.inr ⟨z,rfl,hz,q _ H1 s1 mF⟩
  ·cases e
 | _=>cases e
theorem qh{tg a:Expr}{f:R->OD}{p:Pos}(hm:X.mg "range" = none)(ha:SE X a f)(hg:Gl X "range":=by rfl)(hs:noStar a=true:=by rfl):QN X tg (.Call (.Name "range" p) [a] [] pos) (yn f):=fun S =>
 (kn hg hm (ac ha af hs).1 (aF [] X.env hs)).imp fun σ H W ⟨ρ,ds,er,m,e,hn,q⟩=>by
  !⟨x,e1,e⟩:=h9 e
  cases x with
  | int j =>
   dsimp only at e
   split at e
   ·rename_i hj
    cases e
    &⟨ρ,[.int j],er,by show(f ρ).bind _=_;rw[e1];rfl,fun vs H1 s1 r1=>?_⟩
    !⟨v,r,rfl,r2,r3⟩:=r1
    cases (show v=_ from r2)
    cases (show r=_ from r3)
    &⟨j,rfl,hj.1,hj.2,q _ H1 s1 ?_⟩
    have z:=mG (K:=X.K) (S:=S) (H:=H1) (a:=0) (b:=j)
    rw[Int.sub_zero] at z
    ~z
   ·cases e
  | _=>cases e
theorem qV{tg iter:Expr}{B:List Stmt}{it:R->Option LD}{stf:D->R->Option R}(hp:PassesOwn (model X.prog X.w) X.A X.env X.xe)(hc:X.calm=true)(hi:QN X tg iter it)(hg:SG X tg stf)(hb:EL X B u)
  (hs:∀x,foldedSetIterable iter X.env x=pure x:=by intro _;rfl):MS X (.For tg iter B [] pos) (Ic it stf u):=fun S=>(nB hp hc (hi S) hg (hb S) hs).imp fun E σ H ⟨ρ,τ,o,er,m,e,q⟩=>by
 !⟨ds,e1,e⟩:=h9 e
 split at e
 case isFalse=>cases e
 case isTrue hn =>
 &⟨ρ,ds,er.1,m,e1,hn,fun J H1 s1 y=>?_⟩
 &⟨fun i n σ' H'=>n=ds.length - i/\i<=ds.length/\uQ S H1 H'/\t9 S H'/\∃ ρ',uq X.K H' ρ' τ σ'/\DA stf u S (ds.drop i) ρ'=some o,⟨ds.length,by simp,Nat.zero_le _,uQ.refl,m.same s1,ρ,er.mono s1,by simpa using e⟩,?_⟩
 rintro i n σ' H' ⟨rfl,hi,s2,m2,ρ',er',e'⟩
 by_cases hlt:i<ds.length
 ·&.inr ?_
  have hd:ds[i]?=some ds[i]:=by simp[hlt]
  !⟨hgo,hy⟩:=y.1 i ds[i] H' s2 hd
  rw[List.drop_eq_getElem_cons hlt] at e'
  !⟨ρ1,e2,e'⟩:=h9 e'
  !⟨o1,e3,e'⟩:=h9 e'
  &⟨hgo,fun σ2 H2=>i+1<=ds.length/\uQ S H1 H2/\t9 S H2/\∃ ρ',uq X.K H2 ρ' τ σ2/\DA stf u S (ds.drop (i+1)) ρ'=some o,fun σ2 H2 n2=>⟨ds.length - (i+1),by omega,rfl,n2.1,n2.2⟩,fun x H3 yx=>?_⟩
  !⟨s3,rx⟩:=hy x H3 yx
  &⟨ρ',τ,ds[i],ρ1,er'.mono s3,rx,e2,fun σ4 H4 s4 er4=>⟨ρ1,τ,o1,er4,(m2.same s3).same s4,e3,fun H5 s5 m5=>?_⟩⟩
  have s15:uQ S H1 H5:=s2.trans ((uQ.of s3).trans ((uQ.of s4).trans s5))
  cases o1 with
  | nx ρ2=>~fun σ6 er6=>⟨hlt,s15,m5,ρ2,er6,e'⟩
  | rt d ρ2=>cases e';~q H5 ((uQ.of s1).trans s15) m5
 ·have e4:i=ds.length:=by omega
  subst e4
  rw[List.drop_length] at e'
  cases e'
  ~.inl ⟨y.2 _ H' s2 (Nat.le_refl _),q H' ((uQ.of s1).trans s2) m2 σ' er'⟩
end
section
variable{K:W.Frag}{H H':Hp}
theorem zt{x:Str}{d:D}:∀{ks:List Str} {ds:LD} {vs:List V},Bd ks ds x=some d->i5 K H ds vs->ks.length=vs.length->∃v,(ks.zip vs).lookup x=some v/\Rep K H d v
 | [],_,_,e,_,_=>by cases e
 | k::ks,[],_,e,_,_=>by cases e
 | k::ks,c::ds,vs,e,r,hl=>by
  !⟨v,vr,rfl,r1,r2⟩:=r
  have e':(if k=x then some c else Bd ks ds x)=some d:=e
  show ∃u,List.lookup x ((k,v)::ks.zip vr)=some u/\Rep K H d u
  by_cases h:k=x
  ·subst h
   rw[if_pos rfl] at e'
   cases e'
   ~⟨v,by simp,r1⟩
  ·rw[if_neg h] at e'
   !⟨u,h1,h2⟩:=zt e' r2 (by simpa using hl)
   &⟨u,?_,h2⟩
   rw[List.lookup_cons]
   have hb:(x==k)=false:=beq_eq_false_iff_ne.mpr (Ne.symm h)
   rw[hb];~h1
theorem zY{x:Str}:∀{ks:List Str} {vs:List V},ks.contains x=false->(ks.zip vs).lookup x=none
 | [],_,_=>rfl
 | k::ks,[],_=>rfl
 | k::ks,v::vs,h=>by
  have h':(x==k||ks.contains x)=false:=by simpa [List.contains_cons] using h
  rw[Bool.or_eq_false_iff] at h'
  show List.lookup x ((k,v)::ks.zip vs)=none
  rw[List.lookup_cons,h'.1]
  ~zY h'.2
theorem Do{x:Str}{e:D}{y:V}:∀{ks:List Str} {ds:LD} {vs:List V},ks.length=vs.length->ds.length=vs.length->∃vs',wt x y (ks.zip vs)=(putD ks ds x e).1.zip vs'/\(putD ks ds x e).1.length=vs'.length/\(i5 K H' ds vs->Rep K H' e y->i5 K H' (putD ks ds x e).2 vs')
 | [],[],[],_,_=>⟨[y],rfl,rfl,fun _ r=>⟨y,[],rfl,r,rfl⟩⟩
 | k::ks,d::ds,v::vs,h1,h2=>by
  !⟨vs',a,b,c⟩:=Do (x:=x) (e:=e) (y:=y) (ks:=ks) (ds:=ds) (vs:=vs) (by simpa using h1) (by simpa using h2)
  by_cases h:k=x
  ·&⟨y::vs,?_,?_,fun r re=>?_⟩
   ·show(if k=x then (k,y)::ks.zip vs else _)=(putD (k::ks) (d::ds) x e).1.zip _
    rw[if_pos h,putD,if_pos h];rfl
   ·rw[putD,if_pos h];simpa using h1
   ·rw[putD,if_pos h]
    !⟨u,r',q,r1,r2⟩:=r
    cases q
    ~⟨y,vs,rfl,re,r2⟩
  ·&⟨v::vs',?_,?_,fun r re=>?_⟩
   ·show(if k=x then _ else (k,v)::wt x y (ks.zip vs))=(putD (k::ks) (d::ds) x e).1.zip _
    rw[if_neg h,putD,if_neg h,a];rfl
   ·rw[putD,if_neg h];simpa using b
   ·rw[putD,if_neg h]
    !⟨u,r',q,r1,r2⟩:=r
    cases q
    ~⟨_,vs',rfl,r1,c r2 re⟩
 | [],_::_,[],_,h=>by cases h
 | [],_,_::_,h,_=>by cases h
 | _::_,_,[],h,_=>by cases h
 | _::_,[],_::_,_,h=>by cases h
theorem rZ{a C dx:Nat}{fs:List (Str×V)}{o:HO}(ha:H a=some (.ins C dx fs)):∀{d:D} {v:V},okN d=true->Rep K H d v->Rep K (upd H a o) d v:=by
 have m:t9 [a] H:=fun b hb=>by rw[List.mem_singleton.mp hb,ha];trivial
 have s:uQ [a] H (upd H a o):=fun b u n e=>by rw[aq fun z=>n (by rw[z];~List.mem_singleton.mpr rfl)];~e
 intro d v h r
 match d,h,r with
 | .obj 0 l ls es,h,⟨xs,e,⟨z,its,n,rv,q⟩,t⟩ =>
  have hla:l≠a:=fun z=>by rw[z,ha] at q;cases q
  ~⟨xs,e,⟨z,its,n,rv,by rw[aq hla];~q⟩,i5.kq m s h t⟩
 | .obj (k+1) l ls es,h,_=>cases (show uC (.obj (k+1) l ls es)=true from h)
 | .rf a,h,_=>cases (show uC (.rf a)=true from h)
 | .non,_,r=>~r
 | .bl _,_,r=>~r
 | .int _,_,r=>~r
 | .str _,_,r=>~r
 | .tup ds,h,r=>~Rep.kq m s (d:=.tup ds) h r
 | .lst ds,h,r=>~Rep.kq m s (d:=.lst ds) h r
 | .fro ds,h,r=>~Rep.kq m s (d:=.fro ds) h r
theorem ni{a C dx:Nat}{fs:List (Str×V)}{o:HO}(ha:H a=some (.ins C dx fs)):∀{ds:LD} {vs:List V},ds.all okN=true->i5 K H ds vs->i5 K (upd H a o) ds vs
 | [],_,_,r=>r
 | d::ds,_,h,r=>by
  rw[List.all_cons,Bool.and_eq_true] at h
  !⟨v,vr,e,r1,r2⟩:=r
  ~⟨v,vr,e,rZ ha h.1 r1,ni ha h.2 r2⟩
theorem nc{d:D}(h:uC d=true):xV d=[]:=by cases d<;>first | rfl | cases h
end
section
variable{X:Cx}{pos:Pos}
theorem cg{a:Expr}{f:Str}{C:Nat}{g:R->OD}(c:yN X.K C)(n:t8 X.K C f)(ha:SE X a g)(hb:attributeBase a f X.env (eval a X.env)=eval a X.env:=by rfl):SE X (.Attribute a f pos) (wR (u5 C f) g):=(nv ha hb).imp fun σ H Q ⟨ρ,d,er,e,q⟩=>by
 !⟨x,e1,e⟩:=h9 e
 &⟨ρ,x,er,e1,fun v H1 s1 r1=>?_⟩
 cases x with
 | obj k a ks ds =>
  have e':(if k=C+2 then Bd ks ds f else none)=some d:=e
  split at e'
  ·rename_i hk
   subst hk
   !⟨xs,ev,⟨hl,dx,hH⟩,t⟩:=r1
   !⟨u,h1,h2⟩:=zt e' t hl
   ~⟨a,C,dx,_,u,ev,hH,c,n,h1,q u H1 s1 h2⟩
  ·cases e'
 | _=>cases e
theorem el{x f:Str}{value:Expr}{g:R->OD}{C:Nat}{px pos':Pos}(i:Nat)(c:yN X.K C)(n:t8 X.K C f)(he:SE X value g)(hN:X.N[i]?=some x:=by rfl)(hv:Ca X.env.scope x:=by first | ~Or.inl rfl | ~Or.inr (Or.inl rfl) | ~Or.inr (Or.inr rfl))
  (hd:(x==("__debug__" : Str))=false:=by decide) (hcd:(x==("__classdict__" : Str))=false:=by decide) (hs:swapsWith value (some (.Attribute (.Name x px) f pos')) pos.line X.env=pure false:=by rfl):MS X (.Assign [.Attribute (.Name x px) f pos'] value pos) (wW i C f g):=fun S =>
 (qJ (pv i hN hv hd hcd) he hs).imp fun E σ H ⟨ρ,τ,o,er,m,e,q⟩=>by
  !⟨d,e1,e⟩:=h9 e
  &⟨ρ,d,er.1,e1,fun y H1 s1 ry=>?_⟩
  split at e
  case h_2=>cases e
  case h_1 k a ks ds hat =>
  split at e
  case isFalse=>cases e
  case isTrue hc =>
  !⟨rfl,h1,h2,h3,h4,h5,h6⟩:=hc
  cases e
  !⟨v,hσ,rv⟩:=(er.mono s1).1.at hat
  !⟨xs,ev,⟨hl,dx,hH⟩,t⟩:=rv
  subst ev
  have hdl:ds.length=xs.length:=t.length
  &⟨.ref a,hσ,a,C,dx,_,rfl,hH,c,n,?_,?_⟩
  ·rw[List.length_zip];omega
  have ma:t9 [a] H1:=fun b hb=>by rw[List.mem_singleton.mp hb,hH];trivial
  generalize ho:HO.ins C dx (wt f y (ks.zip xs))=o'
  have kq:uQ [a] H1 (upd H1 a o'):=fun b u nb eb=>by rw[aq fun z=>nb (by rw[z];~List.mem_singleton.mpr rfl)];~eb
  !⟨vs',p1,p2,p3⟩:=Do (K:=X.K) (H':=upd H1 a o') (x:=f) (e:=d) (y:=y) (ks:=ks) (ds:=ds) (vs:=xs) hl hdl
  have rob:Rep X.K (upd H1 a o') (.obj (C+2) a (putD ks ds f d).1 (putD ks ds f d).2) (.ref a):=by
   &⟨vs',rfl,⟨p2,dx,?_⟩,p3 (ni hH h5 t) (Rep.kq ma kq h1 ry)⟩
   rw[au,<- ho,p1]
  have hin:=E8 h3
  have haS:a∈S:=hin a (List.mem_cons_self ..)
  have kqS:uQ S H1 (upd H1 a o'):=kq.mono fun b hb=>by rw[List.mem_singleton.mp hb];~haS
  have m1:=m.same s1
  have mS:t9 S (upd H1 a o'):=fun b hb=>by
   by_cases hba:b=a
   ·rw[hba,au,<- ho];trivial
   ·rw[aq hba];~m1 b hb
  ~q _ ((uQ.of s1).trans kqS) mS σ (iO (er.mono s1) m1 kqS h2 hσ rob)
section
variable{pins:List (Addr×Obj)}{σ:L2.St}{H:Hp}{s:Shared}{a:Addr}{xs:List V}{its:List Value}{n:Nat}
theorem GC(I:L2.Inv X pins σ H s)(h:H a=some (.frz {cls:=.type "list",data:=.seq its.toArray n} (.own 0)))(r:l6 xs its)(z:xs.length<=sizeLine):L2.Inv X pins σ (upd H a (.lst xs)) s:=by
 have e:=(I.hok a _ h).1
 have:=I.write (t':=s.toks) (h':=s.heap) (o:=.lst xs) (x:=a) (e:=a) (by rw[h];trivial) (.inl rfl) (fun _ _ _ q=>q) ⟨_,e⟩ ⟨z,its,n,r,e⟩
 ~this
theorem Dp(I:L2.Inv X pins σ H s)(h:H a=some (.lst xs)):∃(its:List Value) (n:Nat),l6 xs its/\xs.length<=sizeLine/\L2.Inv X pins σ (upd H a (.frz {cls:=.type "list",data:=.seq its.toArray n} (.own 0))) s:=by
 !⟨z,its,n,r,e⟩:=I.hok a _ h
 have:=I.write (t':=s.toks) (h':=s.heap) (o:=.frz {cls:=.type "list",data:=.seq its.toArray n} (.own 0)) (x:=a) (e:=a) (by rw[h];trivial) (.inl rfl) (fun _ _ _ q=>q) ⟨_,e⟩ ⟨e,⟨_,e⟩⟩
 ~⟨its,n,r,z,this⟩
end
end
section
variable{K:W.Frag}{H H':Hp}
theorem i5.kqf(kq:∀{d:D} {v:V},uC d=true->Rep K H d v->Rep K H' d v):∀{ds:LD} {vs:List V},n5 ds=true->i5 K H ds vs->i5 K H' ds vs
 | [],_,_,r=>r
 | d::ds,_,h,r=>by
  have h':(uC d&&n5 ds)=true:=h
  rw[Bool.and_eq_true] at h'
  !⟨v,vr,e,r1,r2⟩:=r
  ~⟨v,vr,e,kq h'.1 r1,i5.kqf kq h'.2 r2⟩
theorem gH{x:Str}{e e':D}{y:V}:∀{ks:List Str} {ds:LD} {vs:List V},Bd ks ds x=some e->(ks.zip vs).lookup x=some y->i5 K H ds vs->ks.length=vs.length->n5 (putD ks ds x .non).2=true ->
  (∀{d:D} {v:V},uC d=true->Rep K H d v->Rep K H' d v)->Rep K H' e' y->(putD ks ds x e').1=ks/\i5 K H' (putD ks ds x e').2 vs
 | [],_,_,h,_,_,_,_,_,_=>by cases h
 | k::ks,[],_,h,_,_,_,_,_,_=>by cases h
 | k::ks,c::ds,vs,h,hl,r,hn,hb,kq,re=>by
  !⟨v,vr,rfl,r1,r2⟩:=r
  have h':(if k=x then some c else Bd ks ds x)=some e:=h
  have hl':List.lookup x ((k,v)::ks.zip vr)=some y:=hl
  by_cases hx:k=x
  ·subst hx
   rw[putD,if_pos rfl] at hb ⊢
   have hb':(uC D.non&&n5 ds)=true:=hb
   rw[Bool.and_eq_true] at hb'
   have:v=y:=by simpa using hl'
   subst this
   ~⟨rfl,v,vr,rfl,re,i5.kqf kq hb'.2 r2⟩
  ·rw[if_neg hx] at h'
   rw[putD,if_neg hx] at hb ⊢
   have hb':(uC c&&n5 (putD ks ds x .non).2)=true:=hb
   rw[Bool.and_eq_true] at hb'
   have hxk:(x==k)=false:=beq_eq_false_iff_ne.mpr (Ne.symm hx)
   rw[List.lookup_cons,hxk] at hl'
   !⟨g1,g2⟩:=gH h' hl' r2 (by simpa using hn) hb'.2 kq re
   ~⟨by show k::(putD ks ds x e').1=_;rw[g1],v,vr,rfl,kq hb'.1 r1,g2⟩
end
theorem AK{i:Nat}{ρ:R}{d:D}(h:c5 i ρ=some d):ρ[i]?=some (some d):=by
 have h:ρ.getD i none=some d:=h
 rw[List.getD_eq_getElem?_getD] at h
 cases e:ρ[i]? with
 | none=>rw[e] at h;cases h
 | some o=>rw[e] at h;cases o with | none=>cases h | some c=>cases h;rfl
theorem AQ{a b:D}(h1:xC a=true)(h2:xC b=true)(h:adr a=adr b):Ag a=Ag b:=by
 cases a with
 | obj k x ks ds =>
  cases b with
  | obj k' y ks' ds'=>~(List.cons.inj h).1
  | _=>cases h2
 | _=>cases h1
section
variable{X:Cx}{pos:Pos}
theorem tM{x f:Str}{value:Expr}{g:R->OD}{C:Nat}{px pf ap cp:Pos}(i:Nat)(c:yN X.K C)(n:t8 X.K C f)(he:SE X value g)(hN:X.N[i]?=some x:=by rfl)(hv:Ca X.env.scope x:=by first | ~Or.inl rfl | ~Or.inr (Or.inl rfl) | ~Or.inr (Or.inr rfl))
  (hd:(x==("__debug__" : Str))=false:=by decide) (hcd:(x==("__classdict__" : Str))=false:=by decide) (hb1:attributeBase (.Name x px) f X.env (eval (.Name x px) X.env)=eval (.Name x px) X.env:=by rfl)
  (hbase:attributeBase (.Attribute (.Name x px) f pf) "append" X.env (eval (.Attribute (.Name x px) f pf) X.env)=eval (.Attribute (.Name x px) f pf) X.env:=by rfl) (hst:noStar value=true:=by rfl)
  (hline:(ap.endLine==cp.line)=true:=by rfl) (hs:swapsWith (.Call (.Attribute (.Attribute (.Name x px) f pf) "append" ap) [value] [] cp) none pos.line X.env=pure false:=by rfl) :
  MS X (.Expr (.Call (.Attribute (.Attribute (.Name x px) f pf) "append" ap) [value] [] cp) pos) (JH i C f g):=by
 intro S pins s σ H E I ⟨ρ,τ,o,er,m,e,q⟩
 !⟨d,e1,e⟩:=h9 e
 split at e
 case h_2=>cases e
 case h_1 k a ks ds hat =>
 split at e
 case h_2=>cases e
 case h_1 l ls es hkey =>
 split at e
 case isFalse=>cases e
 case isTrue hc =>
 !⟨rfl,h1,h2,h3,h4,h5,h6,h7⟩:=hc
 cases e
 have hst1:=aF [] X.env hst
 !⟨v,hσ,rv⟩:=er.1.at hat
 !⟨xs,ev,⟨hl,dx,hH⟩,t⟩:=rv
 subst ev
 !⟨y,hlk,ry⟩:=zt hkey t hl
 !⟨ys,ey,⟨hz,its,nn,rv,hL⟩,ty⟩:=ry
 subst ey
 &wpAny_Expr_any (wpAny_Call_method_late hbase ?_ hline rfl (uo ((nv (pv i (pos:=px) hN hv hd hcd) hb1) pins s σ H (fun v H1=>v=.ref l/\H1=H) I ⟨.ref a,hσ,a,C,dx,_,.ref l,rfl,hH,c,n,hlk,rfl,rfl⟩) fun v s1 ⟨y,H1,I1,r1,ey,eH⟩=>?_)) I.quiet hs
 ·rw[hst1]
  rfl
 subst ey eH
 cases (show v=_ from r1)
 have eo:=(I1.hok l _ hL).1
 &⟨"list","list.append",PySem.F.plainAttrs_list,PySem.F.slot_list_append,PySem.F.type_list_append,⟨_,eo,rfl⟩,fun b eb=>?_,?_⟩
 ·cases eb
  ~⟨_,eo,rfl⟩
 have hA:=(ac he af hst).1 cp pins s1 σ H1 (fun vs H2=>i6 H1 H2/\i5 X.K H2 [d] vs) I1 ⟨ρ,[d],er.1,by show(g ρ).bind _=_;rw[e1];rfl,fun vs H2 s2 r2=>⟨s2,r2⟩⟩
 rw[hst1] at hA ⊢
 &Calls.callWith_builtin rfl (Calls.evalArgs_plain ?_)
 &uo hA fun us s2 ⟨vs,H2,I2,r2,s12,rd⟩=>?_
 !⟨w,w',rfl,rw1,rw2⟩:=rd
 cases (show w'=[] from rw2)
 have hL2:=s12 _ _ hL
 have hH2:=s12 _ _ hH
 have I3:=GC I2 hL2 rv hz
 have hys:es.length=ys.length:=ty.length
 &uo (kz pins s2 σ (upd H2 l (.lst ys)) (.ref l) [w] (.ref l) us (fun v H3=>H3=upd (upd H2 l (.lst ys)) l (.lst (ys++[w]))) I3 rfl r2 ⟨l,ys,w,rfl,rfl,au,by rw[<- hys,sizeLine_eq];omega,rfl⟩) fun v s3 ⟨v',H3,I4,_,e3⟩=>?_
 subst e3
 !⟨its',n',rv',hz',I5⟩:=Dp I4 au
 generalize hH5:upd (upd (upd H2 l (.lst ys)) l (.lst (ys++[w]))) l (.frz {cls:=.type "list",data:=.seq its'.toArray n' } (.own 0))=H5 at I5
 have k25:uQ [l] H2 H5:=fun b u nb eb=>by
  have hbl:b≠l:=fun z=>nb (by rw[z];~List.mem_singleton.mpr rfl)
  subst hH5
  rw[aq hbl,aq hbl,aq hbl];~eb
 have hL5:H5 l=some (.frz {cls:=.type "list",data:=.seq its'.toArray n' } (.own 0)):=by subst hH5;~au
 have ml:t9 [l] H2:=fun b hb=>by rw[List.mem_singleton.mp hb,hL2];trivial
 have hla:a≠l:=fun z=>by rw[z,hL2] at hH2;cases hH2
 have hH5a:H5 a=some (.ins C dx (ks.zip xs)):=k25 a _ (fun z=>hla (List.mem_singleton.mp z)) hH2
 have kq:∀{d:D} {v:V},uC d=true->Rep X.K H2 d v->Rep X.K H5 d v:=fun hn r=>Rep.kq ml k25 hn r
 have rl:Rep X.K H5 (.obj 0 l ls (es++[d])) (.ref l):=by
  &⟨ys++[w],rfl,⟨hz',its',n',rv',hL5⟩,?_⟩
  ~i5.append (i5.kq ml k25 h5 (ty.mono s12)) (i5.one (kq h1 rw1))
 !⟨g1,g2⟩:=gH hkey hlk (t.mono s12) hl h6 kq rl
 have rob:Rep X.K H5 (.obj (C+2) a (putD ks ds f (.obj 0 l ls (es++[d]))).1 (putD ks ds f (.obj 0 l ls (es++[d]))).2) (.ref a):=by
  rw[g1]
  ~⟨xs,rfl,⟨hl,dx,hH5a⟩,g2⟩
 have hlS:l∈S:=by simpa using h7
 have kqS:uQ S H2 H5:=k25.mono fun b hb=>by rw[List.mem_singleton.mp hb];~hlS
 have m2:=m.same s12
 have mS:t9 S H5:=fun b hb=>by
  by_cases hbl:b=l
  ·rw[hbl,hL5];trivial
  ·have hm:=m2 b hb
   cases hb2:H2 b with
   | none=>rw[hb2] at hm;~hm.elim
   | some u=>rw[k25 b u (fun z=>hbl (List.mem_singleton.mp z)) hb2];rw[hb2] at hm;~hm
 ~⟨σ,H5,I5,q H5 ((uQ.of s12).trans kqS) mS σ (iO (er.mono s12) m2 kqS h2 hσ rob)⟩
structure Fb (P:Program) (w:World) (K:W.Frag) (mg:Str->Option Value) (base:Heap) (k:Nat) (x:Str) (ps:List Str) (j:Nat) (G:LD->Option (D×D)):Prop where
 ex:∃f fd,k6 P w K mg base ue k f fd ps (G1 K j G)/\mg x=some (.ref f)/\W.keepIn K (.ref f)=true/\Binds K fd ps []
structure yW (P:Program) (w:World) (K:W.Frag) (mg:Str->Option Value) (base:Heap) (k C:Nat) (m:Str) (ps:List Str) (G:LD->Option (D×D)):Prop where
 ex:∃f fd,k6 P w K mg base ue k f fd ps (G1 K 0 G)/\DW K C m f/\Binds K fd ps []
structure AA (P:Program) (w:World) (K:W.Frag) (mg:Str->Option Value) (base:Heap) (k C:Nat) (m:Str) (ps:List Str) (G:LD->OD):Prop where
 ex:∃f fd,k6 P w K mg base ue k f fd ps (uP K G)/\DW K C m f/\Binds K fd ps []
theorem Fb.m{P:Program}{w:World}{K:W.Frag}{mg:Str->Option Value}{base:Heap}{k k':Nat}{x:Str}{ps:List Str}{j:Nat}{G:LD->Option (D×D)}(h:Fb P w K mg base k x ps j G)(hk:k<=k':=by decide):Fb P w K mg base k' x ps j G:=by
 !⟨f,fd,a,b⟩:=h.ex
 ~⟨f,fd,a.mono hk,b⟩
theorem yW.m{P:Program}{w:World}{K:W.Frag}{mg:Str->Option Value}{base:Heap}{k k' C:Nat}{x:Str}{ps:List Str}{G:LD->Option (D×D)}(h:yW P w K mg base k C x ps G)(hk:k<=k':=by decide):yW P w K mg base k' C x ps G:=by
 !⟨f,fd,a,b⟩:=h.ex
 ~⟨f,fd,a.mono hk,b⟩
theorem AA.m{P:Program}{w:World}{K:W.Frag}{mg:Str->Option Value}{base:Heap}{k k' C:Nat}{x:Str}{ps:List Str}{G:LD->OD}(h:AA P w K mg base k C x ps G)(hk:k<=k':=by decide):AA P w K mg base k' C x ps G:=by
 !⟨f,fd,a,b⟩:=h.ex
 ~⟨f,fd,a.mono hk,b⟩
theorem fX{P:Program}{w:World}{K:W.Frag}{mg:Str->Option Value}{base:Heap}{x qual:Str}{st:Stmt}{f:Addr}{fd:FuncData}{N ps:List Str}{k j:Nat}{g:MU}
  (Fn:uv K x qual st f fd) (Sc:c9 N ps (c6 st))
  (hb:∀(cdv:Value) (A:Around) (outer:List Env) (s:Shared) (H:Hp) (E:XK),ua k (A.deeper (envOfC qual (c6 st) s.heap.objs.size f cdv))->EL (yi ue P w K mg base N qual (c6 st) f cdv A outer s H E).nox (uh st) g) :
  k6 P w K mg base ue (k+1) f fd ps (G1 K j (DE ps.length N.length j g)):=by
 &Fn.ok Sc (fun vs H Q E h=>?_) (fun cdv A outer s H vs Q E hr h=>?_)
 ·!⟨ds,ob,d,o',r,hj,ho,e,_⟩:=h
  rw[<- r.length]
  unfold DE at e
  split at e
  ·assumption
  ·cases e
 ·!⟨ds,ob,d,o',r,hj,ho,e,q⟩:=h
  unfold DE at e
  split at e
  case isFalse=>cases e
  case isTrue hlen =>
  rw[hj,Option.bind_some,if_pos ho] at e
  !⟨mo,e1,e⟩:=h9 e
  !⟨v,hv,rv⟩:=r.get hj
  have ms:=xH rv
  &⟨_,hb cdv A outer s H E hr (adr ob),AG N.length ds,_,mo,(zM r).t,ms,e1,fun H1 k1 m1=>?_⟩
  cases mo with
  | rt d' ρ =>
   intro v rv ob1
   !⟨ob',e2,e⟩:=h9 e
   split at e
   ·rename_i hc
    obtain⟨rfl,rfl⟩:d'=d/\ob'=o':=by simpa using e
    have hat:ρ[j]?=some (some ob'):=AK e2
    have rr:=ob1 j ob' hat hc.1
    have ha:Ag ob'=Ag ob:=AQ hc.1 ho hc.2
    rw[ha] at rr
    ~q v H1 k1 m1 rv rr
   ·cases e
  | nx ρ =>
   intro σ' er'
   !⟨ob',e2,e⟩:=h9 e
   split at e
   ·rename_i hc
    obtain⟨rfl,rfl⟩:D.non=d/\ob'=o':=by simpa using e
    have hat:ρ[j]?=some (some ob'):=AK e2
    have rr:=(MV.of er'.1) j ob' hat hc.1
    have ha:Ag ob'=Ag ob:=AQ hc.1 ho hc.2
    rw[ha] at rr
    ~q .non H1 k1 m1 rfl rr
   ·cases e
end
section
variable{X:Cx}{pos:Pos}
theorem FC{K:W.Frag}{S:List Nat}{H H1 H2:Hp}{ρ:R}{σ τ:L2.St}{i:Nat}{ob o':D}(er:uq K H ρ τ σ)(m:t9 S H)(hat:c5 i ρ=some ob)(ho:xC ob=true)(hn:uS i ρ=true)(hin:AE S (adr ob)=true)(s1:i6 H H1)(kq:uQ (adr ob) H1 H2)(m2:t9 (adr ob) H2)
  (r:Rep K H2 o' (.ref (Ag ob))):uQ S H H2/\t9 S H2/\uq K H2 (ρ.set i (some o')) τ σ:=by
 have sub:=E8 hin
 have kS:uQ S H1 H2:=kq.mono sub
 have m1:=m.same s1
 have mS:t9 S H2:=fun b hb=>by
  by_cases hba:b∈adr ob
  ·~m2 b hba
  ·have hm:=m1 b hb
   cases e:H1 b with
   | none=>rw[e] at hm;~hm.elim
   | some u=>rw[kq b u hba e];rw[e] at hm;~hm
 !⟨v,hσ,rv⟩:=(er.mono s1).1.at hat
 rw[nz ho rv] at hσ
 ~⟨(uQ.of s1).trans kS,mS,iO (er.mono s1) m1 kS hn hσ r⟩
variable{x:Str}{e:Expr}{es:List Expr}{F:R->Option LD}{G:LD->Option (D×D)}{k j:Nat}{ps:List Str}{p:Pos}
theorem Lm{i:Nat}{F:R->Option LD}:∀ ρ ds ob,c4 (c5 i) F ρ=some ds->c5 i ρ=some ob->ds[0]?=some ob:=fun ρ ds ob h1 h2=>by
 !⟨d,e1,e2⟩:=h9 h1
 !⟨r,_,rfl⟩:=t7 e2
 rw[h2] at e1;cases e1;rfl
theorem D6{F:R->Option LD}{G:LD->Option (D×D)}{S:List Nat}{i C:Nat}{mn:Str}{ρ ρ':R}{σ τ:L2.St}{H:Hp}{d:D}{Q:VK}(er:uq X.K H ρ τ σ)(m:t9 S H)(e:wU i C mn G F S ρ=some (d,ρ'))
  (q:∀v H',uQ S H H'->t9 S H'->Rep X.K H' d v->uq X.K H' ρ' τ σ->Q v H'):Jb C mn (G1 X.K 0 G) [] E0 (Mt i) (Po X.K F) σ H Q:=by
 !⟨ob,hat,z1⟩:=h9 e
 !⟨ds,e1,z2⟩:=h9 z1
 !⟨r,e2,z3⟩:=h9 z2
 clear e z1 z2
 match ob,z3 with
 | .obj kk a ks es',z3 =>
  have z4:(if kk=C+2/\ks.contains mn=false/\uS i ρ=true/\AE S (adr (.obj kk a ks es'))=true then some (r.1,ρ.set i (some r.2)) else none)=some (d,ρ'):=z3
  split at z4
  case isFalse=>cases z4
  case isTrue hc =>
  !⟨rfl,hk,hn,hin⟩:=hc
  obtain⟨rfl,rfl⟩:r.1=d/\ρ.set i (some r.2)=ρ':=by simpa using z4
  !⟨v,hσ,rv⟩:=er.1.at hat
  have rv':=rv
  !⟨xs,ev,⟨hl,dx,hH⟩,t⟩:=rv
  subst ev
  &⟨.ref a,hσ,a,dx,_,rfl,hH,zY hk,ρ,ds,er.1,e1,fun vs H1 s1 r1=>?_⟩
  show G1 X.K 0 G (.ref a::(vs++[])) H1 Q E0
  rw[List.append_nil]
  &⟨.obj (C+2) a ks es'::ds,_,r.1,r.2,⟨_,vs,rfl,rv'.mono s1,r1⟩,rfl,rfl,e2,fun v H2 kq m2 rd ro=>?_⟩
  !⟨aa,b,c⟩:=FC er m hat rfl hn hin s1 kq m2 ro
  ~q v H2 aa b rd c
variable{C:Nat}{mn:Str}{apos:Pos}
theorem nT (i:Nat) (c:yN X.K C) (M:yW X.prog X.w X.K X.mg X.base k C mn ps G) (hr:ua k X.A) (ha:SA X (e::es) F) {px pos':Pos} (hN:X.N[i]?=some x:=by rfl) (hv:Ca X.env.scope x:=by first | ~Or.inl rfl | ~Or.inr (Or.inl rfl) | ~Or.inr (Or.inr rfl))
    (hd:(x==("__debug__" : Str))=false:=by decide) (hcd:(x==("__classdict__" : Str))=false:=by decide) {pl:Sem Bool}
    (ht:eval (.Call (.Attribute (.Name x px) mn apos) (e::es) [] pos) X.env=(do
      let ov <- eval (.Name x px) X.env
      standAt apos.atName
      let (f,first) <- holding [ov] (getMethod ov mn pl)
      callWith pos f first (backTo pos (starEach (e::es) X.env)) (backToKw pos (keywordEach [] X.env))):=by rfl)
    (hs:swapsWith (.Call (.Attribute (.Name x px) mn apos) (e::es) [] pos) none pos'.line X.env=pure false:=by rfl):MS X (.Expr (.Call (.Attribute (.Name x px) mn apos) (e::es) [] pos) pos') (Bh (wU i C mn G F)):=by
  have hst:=ha.2.2
  rw[List.all_cons,Bool.and_eq_true] at hst
  have he:=aF es X.env hst.1
  have hpl:=bv (pos:=pos) (env:=X.env) hst.2
  !⟨f,fd,a,hm,bd⟩:=M.ex
  &fun S=>(oB (oU (pv i hN hv hd hcd) c hm a hr bd .nil yk ha.1 he hpl ht) hs).imp fun E σ H ⟨ρ,τ,o,er,m,e,q⟩=>?_
  !⟨r,e1,rfl⟩:=t7 e
  ~D6 er m e1 fun v H' kq mS _ er'=>q H' kq mS σ er'
theorem kP (i:Nat) (c:yN X.K C) (M:yW X.prog X.w X.K X.mg X.base k C mn ps G) (hr:ua k X.A) (ha:SA X (e::es) F) {px pos':Pos} (hN:X.N[i]?=some x:=by rfl) (hv:Ca X.env.scope x:=by first | ~Or.inl rfl | ~Or.inr (Or.inl rfl) | ~Or.inr (Or.inr rfl))
    (hd:(x==("__debug__" : Str))=false:=by decide) (hcd:(x==("__classdict__" : Str))=false:=by decide) {pl:Sem Bool}
    (ht:eval (.Call (.Attribute (.Name x px) mn apos) (e::es) [] pos) X.env=(do
      let ov <- eval (.Name x px) X.env
      standAt apos.atName
      let (f,first) <- holding [ov] (getMethod ov mn pl)
      callWith pos f first (backTo pos (starEach (e::es) X.env)) (backToKw pos (keywordEach [] X.env))):=by rfl):MS X (.Return (some (.Call (.Attribute (.Name x px) mn apos) (e::es) [] pos)) pos') (Dz (wU i C mn G F)):=by
  have hst:=ha.2.2
  rw[List.all_cons,Bool.and_eq_true] at hst
  have he:=aF es X.env hst.1
  have hpl:=bv (pos:=pos) (env:=X.env) hst.2
  !⟨f,fd,a,hm,bd⟩:=M.ex
  &fun S=>(lH (oU (pv i hN hv hd hcd) c hm a hr bd .nil yk ha.1 he hpl ht)).imp fun E σ H ⟨ρ,τ,o,er,m,e,q⟩=>?_
  !⟨r,e1,rfl⟩:=t7 e
  ~D6 er m e1 fun v H' kq mS rd er'=>q H' kq mS v rd (MV.of er'.1)
theorem eU {a:Expr} {f:R->OD} {G:LD->OD} (c:yN X.K C) (M:AA X.prog X.w X.K X.mg X.base k C mn ps G) (hr:ua k X.A) (ha:SE X a f) {pl:Sem Bool}
    (ht:eval (.Call (.Attribute a mn apos) [] [] pos) X.env=(do
      let ov <- eval a X.env
      standAt apos.atName
      let (f,first) <- holding [ov] (getMethod ov mn pl)
      callWith pos f first (backTo pos (starEach [] X.env)) (backToKw pos (keywordEach [] X.env))):=by rfl):SE X (.Call (.Attribute a mn apos) [] [] pos) (CY C mn G f c7):=by
  !⟨fa,fd,F,hm,bd⟩:=M.ex
  &(lZ ha c hm F hr bd .nil yk ht).imp fun σ H Q ⟨ρ,d,er,e,q⟩=>?_
  !⟨ob,e1,z1⟩:=h9 e
  !⟨ds,e2,z2⟩:=h9 z1
  cases e2
  &⟨ρ,ob,er,e1,fun v H1 s1 r1=>?_⟩
  clear e z1
  match ob,z2,r1 with
  | .obj kk a ks es',z2,r1 =>
    have e:(if kk=C+2/\ks.contains mn=false then G [.obj kk a ks es'] else none)=some d:=z2
    split at e
    case isFalse=>cases e
    case isTrue hc =>
    !⟨rfl,hk⟩:=hc
    have r1':=r1
    !⟨xs,ev,⟨hl,dx,hH⟩,t⟩:=r1
    subst ev
    ~⟨a,dx,_,rfl,hH,zY hk,⟨[.obj (C+2) a ks es'],d,⟨_,[],rfl,r1',rfl⟩,e,fun u H2 s2 r2=>q u H2 (s1.trans s2) r2⟩⟩
end
theorem Gx{N C:Nat}{f:Str}{g:MU}{ds:LD}{a l:Nat}{ob:D}(h:yj N C f g ds a l=some ob):∃ ρ ks es,g [a] (AG N (.obj (C+2) a [] []::ds))=some (.nx ρ)/\c5 0 ρ=some (.obj (C+2) a ks es)/\n5 es=true/\ks.length<100/\ob=.obj (C+2) a (putD ks es f (.obj 0 l [] [])).1 (putD ks es f (.obj 0 l [] [])).2:=by
 !⟨mo,e1,e⟩:=h9 h
 match mo,e1,e with
 | .rt d ρ,e1,e=>cases e
 | .nx ρ,e1,e =>
  have e':(match c5 0 ρ with | some (.obj k b ks es)=>if k=C+2/\b=a/\n5 es=true/\ks.length<100 then some (D.obj k b (putD ks es f (.obj 0 l [] [])).1 (putD ks es f (.obj 0 l [] [])).2) else none | _=>none)=some ob:=e
  cases hat:c5 0 ρ with
  | none=>rw[hat] at e';cases e'
  | some obx =>
   rw[hat] at e'
   cases obx with
   | obj kk b ks es =>
    dsimp only at e'
    split at e'
    case isFalse=>cases e'
    case isTrue hc =>
    !⟨rfl,rfl,hn,hk⟩:=hc
    cases e'
    ~⟨ρ,ks,es,e1,hat,hn,hk,rfl⟩
   | _=>cases e'
theorem CT{N C:Nat}{f:Str}{g:MU}{ds:LD}{a l:Nat}{ob:D}(h:yj N C f g ds a l=some ob)(l':Nat):(yj N C f g ds a l').isSome=true:=by
 !⟨ρ,ks,es,e1,hat,hn,hk,_⟩:=Gx h
 have:yj N C f g ds a l'=some (.obj (C+2) a (putD ks es f (.obj 0 l' [] [])).1 (putD ks es f (.obj 0 l' [] [])).2):=by
  show(g [a] (AG N (.obj (C+2) a [] []::ds))).bind _=_
  rw[e1,Option.bind_some]
  show(match c5 0 ρ with | some (.obj k b ks es)=>if k=C+2/\b=a/\n5 es=true/\ks.length<100 then some (D.obj k b (putD ks es f (.obj 0 l' [] [])).1 (putD ks es f (.obj 0 l' [] [])).2) else none | _=>none)=_
  rw[hat]
  ~if_pos ⟨rfl,rfl,hn,hk⟩
 rw[this];rfl
theorem ku{es:LD}(h:n5 es=true):es.flatMap xV=[]:=by
 induction es with
 | nil=>rfl
 | cons d es ih =>
  have h':(uC d&&n5 es)=true:=h
  rw[Bool.and_eq_true] at h'
  show xV d++es.flatMap xV=[]
  rw[nc h'.1,ih h'.2];rfl
theorem mW{x:Str}{l:Nat}:∀{ks:List Str} {ds:LD},n5 ds=true->(putD ks ds x (.obj 0 l [] [])).2.flatMap xV=[l]
 | [],ds,h=>by
  have:(putD [] ds x (.obj 0 l [] [])).2=ds++[.obj 0 l [] []]:=by cases ds<;>rfl
  rw[this,List.flatMap_append,ku h];rfl
 | k::ks,[],h=>rfl
 | k::ks,c::ds,h=>by
  have h':(uC c&&n5 ds)=true:=h
  rw[Bool.and_eq_true] at h'
  by_cases hx:k=x
  ·rw[putD,if_pos hx]
   show [l]++ds.flatMap xV=[l]
   rw[ku h'.2];rfl
  ·rw[putD,if_neg hx]
   show xV c++(putD ks ds x (.obj 0 l [] [])).2.flatMap xV=[l]
   rw[nc h'.1,mW h'.2];rfl
theorem D7{N C:Nat}{f:Str}{g:MU}{ds:LD}{a l:Nat}{ob:D}(h:yj N C f g ds a l=some ob):adr ob=[a,l]:=by
 !⟨ρ,ks,es,_,_,hn,_,rfl⟩:=Gx h
 show a::_=_
 rw[mW hn]
section
variable{X:Cx}{pos:Pos}{C:Nat}{f:Str}
def Qz(K:W.Frag)(C i:Nat)(f:Str)(g:MU):TS:=fun E σ H=>∃ ρ τ a ρ' ks es,uq K H ρ τ σ/\t9 [a] H/\g [a] ρ=some (.nx ρ')/\c5 i ρ'=some (.obj (C+2) a ks es)/\n5 es=true/\ks.length<100 /\
 ∀ σ' l H',H l=none->uQ [a] H H'->Rep K H' (.obj (C+2) a (putD ks es f (.obj 0 l [] [])).1 (putD ks es f (.obj 0 l [] [])).2) (.ref a)->E.nx σ' H'
def IB(X:Cx)(C i:Nat)(f:Str)(sts:List Stmt)(g:MU):Prop:=PSs X sts (Qz X.K C i f g)
theorem KQ{x:Str}{px pos' p1:Pos}(i:Nat)(c:yN X.K C)(n:t8 X.K C f)(hN:X.N[i]?=some x:=by rfl)(hv:Ca X.env.scope x:=by first | ~Or.inl rfl | ~Or.inr (Or.inl rfl) | ~Or.inr (Or.inr rfl))
  (hd:(x==("__debug__" : Str))=false:=by decide) (hcd:(x==("__classdict__" : Str))=false:=by decide) (hs:swapsWith (.List [] p1) (some (.Attribute (.Name x px) f pos')) pos.line X.env=pure false:=by rfl):IB X C i f [.Assign [.Attribute (.Name x px) f pos'] (.List [] p1) pos] we:=by
 &da (t:=Qz X.K C i f we) ?_
 intro pins s σ H E I ⟨ρ,τ,a,ρ',ks,es,er,m,e,hat,hn,hk,q⟩
 cases e
 !⟨v,hσ,rv⟩:=er.1.at hat
 !⟨xs,ev,⟨hl,dx,hH⟩,t⟩:=rv
 subst ev
 have hdl:es.length=xs.length:=t.length
 &uo ((qJ (pv i hN hv hd hcd) (nR (pos:=p1) BD) hs) pins s σ H {E with nx:=fun σ' H'=>∃l,H l=none/\H'=upd (upd H l (.lst [])) a (.ins C dx (wt f (.ref l) (ks.zip xs)))} I ?_) fun fl s1 z=>?_
 ·&⟨Nat.zero_le _,fun l hl0=>⟨.ref a,hσ,a,C,dx,ks.zip xs,rfl,?_,c,n,?_,l,hl0,rfl⟩⟩
  ·rw[aq (uB hH hl0)];~hH
  ·rw[List.length_zip];omega
 cases fl with
 | next =>
  !⟨σ',H',I',l,hl0,rfl⟩:=z
  have hal:a≠l:=uB hH hl0
  have hLl:(upd (upd H l (.lst [])) a (.ins C dx (wt f (.ref l) (ks.zip xs)))) l=some (.lst []):=by rw[aq (Ne.symm hal),au]
  !⟨its,nn,rv',hz',I5⟩:=Dp I' hLl
  generalize hH5:upd (upd (upd H l (.lst [])) a (.ins C dx (wt f (.ref l) (ks.zip xs)))) l (.frz {cls:=.type "list",data:=.seq its.toArray nn} (.own 0))=H5 at I5
  have kq:uQ [a] H H5:=fun b u nb eb=>by
   have hba:b≠a:=fun z=>nb (by rw[z];~List.mem_singleton.mpr rfl)
   have hbl:b≠l:=uB eb hl0
   subst hH5
   rw[aq hbl,aq hba,aq hbl];~eb
  have h5l:H5 l=some (.frz {cls:=.type "list",data:=.seq its.toArray nn} (.own 0)):=by subst hH5;~au
  have h5a:H5 a=some (.ins C dx (wt f (.ref l) (ks.zip xs))):=by subst hH5;rw[aq hal,au]
  !⟨vs',p1',p2,p3⟩:=Do (K:=X.K) (H':=H5) (x:=f) (e:=.obj 0 l [] []) (y:=.ref l) (ks:=ks) (ds:=es) (vs:=xs) hl hdl
  &⟨σ',H5,I5,q σ' l H5 hl0 kq ⟨vs',rfl,⟨p2,dx,?_⟩,p3 (i5.kq m kq hn t) ⟨[],rfl,⟨hz',its,nn,rv',h5l⟩,rfl⟩⟩⟩
  rw[h5a,p1']
 | brk=>~z
 | cont=>~z
 | ret v=>~z
theorem Dj{st:Stmt}{sts:List Stmt}{u g:MU}{i:Nat}(h1:MS X st u)(h2:IB X C i f sts g):IB X C i f (st::sts) (vc u g):=by
 intro pins s σ H E I ⟨ρ,τ,a,ρ',ks,es,er,m,e,hat,hn,hk,q⟩
 !⟨o1,e1,e⟩:=h9 e
 cases o1 with
 | rt d ρ2=>cases e
 | nx ρ2 =>
  &wpAny_execs_cons (uo (h1 [a] pins s σ H {E with nx:=Qz X.K C i f g E} I ⟨ρ,τ,.nx ρ2,er,m,e1,fun H1 k1 m1 σ2 er2=>⟨ρ2,τ,a,ρ',ks,es,er2,m1,e,hat,hn,hk,fun σ' l H' hl kq r=>q σ' l H' ?_ (k1.trans kq) r⟩⟩) fun fl s1 z=>?_)
  ·cases hb:H l with
   | none=>rfl
   | some b =>
    by_cases hla:l=a
    ·have:=m1 a (List.mem_singleton.mpr rfl)
     rw[<- hla,hl] at this
     ~this.elim
    ·rw[k1 l b (fun z=>hla (List.mem_singleton.mp z)) hb] at hl
     cases hl
  cases fl with
  | next =>
   !⟨σ',H',I',z⟩:=z
   ~h2 pins s1 σ' H' E I' z
  | brk=>~z
  | cont=>~z
  | ret v=>~z
def NC(K:W.Frag)(n N C:Nat)(f:Str)(g:MU):Sp:=fun vs H Q _=>∃a ds,ds.length+1=n/\i5 K H (.obj (C+2) a [] []::ds) vs/\(∀l,(yj N C f g ds a l).isSome=true)/\∀l ob H',H l=none->yj N C f g ds a l=some ob->uQ [a] H H'->Rep K H' ob (.ref a)->Q .non H'
theorem KU{P:Program}{w:World}{K:W.Frag}{mg:Str->Option Value}{base:Heap}{x qual:Str}{st:Stmt}{fa:Addr}{fd:FuncData}{N ps:List Str}{k:Nat}{g:MU}
  (Fn:uv K x qual st fa fd) (Sc:c9 N ps (c6 st)) 
  (hb:∀(cdv:Value) (A:Around) (outer:List Env) (s:Shared) (H:Hp) (E:XK),ua k (A.deeper (envOfC qual (c6 st) s.heap.objs.size fa cdv))->IB (yi ue P w K mg base N qual (c6 st) fa cdv A outer s H E).nox C 0 f (uh st) g) :
  k6 P w K mg base ue (k+1) fa fd ps (NC K ps.length N.length C f g):=by
 &Fn.ok Sc (fun vs H Q E ⟨a,ds,hn,r,_⟩=>by rw[<- hn,<- r.length];rfl) (fun cdv A outer s H vs Q E hr h=>?_)
 !⟨a,ds,_,r,hs,q⟩:=h
 have h0:=hs 0
 !⟨ob0,e0⟩:=Option.isSome_iff_exists.mp h0
 !⟨mo,e1,e⟩:=h9 (show(g [a] (AG N.length (.obj (C+2) a [] []::ds))).bind _=some ob0 from e0)
 match mo,e1,e with
 | .nx ρ',e1,e =>
  have e':(match c5 0 ρ' with | some (.obj k b ks es)=>if k=C+2/\b=a/\n5 es=true/\ks.length<100 then some (D.obj k b (putD ks es f (.obj 0 0 [] [])).1 (putD ks es f (.obj 0 0 [] [])).2) else none | _=>none)=some ob0:=e
  cases hat:c5 0 ρ' with
  | none=>rw[hat] at e';cases e'
  | some obx =>
   rw[hat] at e'
   cases obx with
   | obj kk b ks es =>
    dsimp only at e'
    split at e'
    case isFalse=>cases e'
    case isTrue hc =>
    !⟨rfl,rfl,hn,hk⟩:=hc
    !⟨v,vr,ev,r1,r2⟩:=r
    have r':i5 K H (.obj (C+2) b [] []::ds) vs:=⟨v,vr,ev,r1,r2⟩
    have ms:t9 [b] H:=fun c hcb=>by
     have:=xH r1 c
     ~this (by simpa [adr] using hcb)
    &⟨_,hb cdv A outer s H E hr,AG N.length (.obj (C+2) b [] []::ds),_,b,ρ',ks,es,(zM r').t,ms,e1,hat,hn,hk,fun σ' l H' hl kq rr=>?_⟩
    &q l _ H' hl ?_ kq rr
    show(g [b] (AG N.length (.obj (C+2) b [] []::ds))).bind _=_
    rw[e1,Option.bind_some]
    show(match c5 0 ρ' with | some (.obj k b2 ks es)=>if k=C+2/\b2=b/\n5 es=true/\ks.length<100 then some (D.obj k b2 (putD ks es f (.obj 0 l [] [])).1 (putD ks es f (.obj 0 l [] [])).2) else none | _=>none)=_
    rw[hat]
    ~if_pos ⟨rfl,rfl,hn,hk⟩
   | _=>cases e'
 | .rt d ρ',e1,e=>cases e
theorem sg{x cn:Str}{e:Expr}{es:List Expr}{sts:List Stmt}{F:R->Option LD}{g w:MU}{fi:Addr}{fd:FuncData}{ps:List Str}{k NI:Nat}{px p p1:Pos}(i:Nat)(hN:X.N.Nodup)(M:Mk X.K C fi)(Fn:k6 X.prog X.w X.K X.mg X.base ue k fi fd ps (NC X.K ps.length NI C f g))(bd:Binds X.K fd ps [])
  (hr:ua (k+1) X.A) (hm:X.mg cn=some (.ref C)) (ha:SA X (e::es) F) (h2:EL X sts w) (hn:(e::es).length+1=ps.length:=by rfl) (hg:Gl X cn:=by rfl) (hdb:(cn==("__debug__" : Str))=false:=by decide) (hix:X.N[i]?=some x:=by rfl) (hx:Loc X.env.scope x:=by first | ~Or.inl rfl | ~Or.inr rfl)
  (hs:swapsWith (.Call (.Name cn p) (e::es) [] p1) (some (.Name x px)) pos.line X.env=pure false:=by rfl) (hf:X.fn x=true\/X.env.scope.names.lookup x=some .local:=by first | ~.inl rfl | ~.inr rfl) :
  SS X (.Assign [.Name x px] (.Call (.Name cn p) (e::es) [] p1) pos::sts) (Fc i (yj NI C f g) F w):=by
 have hst:=ha.2.2
 rw[List.all_cons,Bool.and_eq_true] at hst
 have he:=aF es X.env hst.1
 have hpl:=bv (pos:=p1) (env:=X.env) hst.2
 intro pins s σ H E I ⟨ρ,τ,o,er,eo,qq⟩
 !⟨ds,r,e1,hi,rfl,hw⟩:=Kj eo
 &wpAny_execs_cons (uo ((g_ (i:=i) hN hix hx (oP M Fn hr hg hm bd .nil yk ha.1 hdb he hpl) hs hf) pins s σ H {E with nx:=fun σ' H'=>∃a l ob,H a=none/\H l=none/\a≠l/\σ'=σ.set i (some (.ref a))/\yj NI C f g ds a l=some ob/\i6 H H'/\Rep X.K H' ob (.ref a)/\t9 [a,l] H' } I ?_) fun fl s1 z=>?_)
 ·&⟨ρ,ds,er.1,e1,fun vs H1 s1 r1 a dx ha0 hdx hne=>?_⟩
  rw[List.append_nil]
  have sn:i6 H1 (upd (upd H1 dx (.own a)) a (.ins C dx [])):=(bh hdx _).trans (bh (by rw[aq (Ne.symm hne)];~ha0) _)
  have hHa:H a=none:=by
   cases hb:H a with
   | none=>rfl
   | some u=>rw[s1 a u hb] at ha0;cases ha0
  &⟨a,ds,by rw[ha.2.1 ρ ds e1];~hn,⟨.ref a,vs,rfl,⟨[],rfl,⟨rfl,dx,au⟩,rfl⟩,r1.mono sn⟩,fun l=>?_,fun l ob H' hl hmk kq ro=>⟨rfl,a,l,ob,hHa,?_,?_,rfl,hmk,?_,ro,?_⟩⟩
  ·!⟨ob,ρ',h1,_⟩:=hw a (a+1) (by omega)
   ~CT h1 l
  ·cases hb:H l with
   | none=>rfl
   | some u=>rw[sn l u (s1 l u hb)] at hl;cases hl
  ·intro z;rw[<- z,au] at hl;cases hl
  ·intro b u hb
   have hba:b≠a:=fun z=>by rw[z,hHa] at hb;cases hb
   ~kq b u (fun z=>hba (List.mem_singleton.mp z)) (sn b u (s1 b u hb))
  ·have:=xH ro
   rw[D7 hmk] at this
   ~this
 cases fl with
 | next =>
  !⟨σ',H',I',a,l,ob,hHa,hHl,hal,rfl,hmk,sm,ro,ms⟩:=z
  !⟨ob',ρ',h1,h3⟩:=hw a l hal
  rw[hmk] at h1
  cases h1
  &h2 [a,l] pins s1 _ H' E I' ⟨ρ.set i (some ob),τ,_,(er.mono sm).set hi ro,ms,h3,fun H2 kq m2=>?_⟩
  intro v rv _
  &qq H2 (fun b u hb=>?_) v rv
  &kq b u (fun z=>?_) (sm b u hb)
  rcases List.mem_cons.mp z with rfl | z
  ·rw[hHa] at hb;cases hb
  ·rw[List.mem_singleton.mp z,hHl] at hb;cases hb
 | brk=>~z
 | cont=>~z
 | ret v=>~z
end
theorem yd(ns:List Int):∀j,j<=ns.length->preSum (fun i=>ns.getD i 0) j=(ns.take j).sum
 | 0,_=>rfl
 | j+1,h=>by
  show preSum (fun i=>ns.getD i 0) j+ns.getD j 0=_
  have hj:j<ns.length:=h
  have e:ns.take (j+1)=ns.take j++[ns[j]]:=by rw[List.take_succ_eq_append_getElem hj]
  rw[yd ns j (by omega),e,List.sum_append,List.getD_eq_getElem?_getD]
  simp[hj]
theorem HE:∀ns:List Int,ns.all (fun n=>decide (0<=n/\n<1099511627776))=true->0<=ns.sum/\ns.sum<=1099511627776*(ns.length:Int)
 | [],_=>⟨by decide,by decide⟩
 | n::ns,h=>by
  rw[List.all_cons,Bool.and_eq_true] at h
  !⟨a,b⟩:=HE ns h.2
  have:=of_decide_eq_true h.1
  rw[List.sum_cons,List.length_cons]
  constructor<;>omega
section
variable{X:Cx}
theorem tH{e:Expr}{f:R->OD}{p pos:Pos}(hc:X.calm=true)(hm:X.mg "sum" = none)(he:SE X e f)(hg:Gl X "sum":=by rfl)(hst:noStar e=true:=by rfl) :
  SE X (.Call (.Name "sum" p) [e] [] pos) (c8 JY (c4 f c7)):=by
 intro pins s σ H Q I ⟨ρ,d,er,eq,q⟩
 !⟨ds,e1,e2⟩:=h9 eq
 have hst1:=aF [] X.env hst
 have PAA:=(ac he af hst).1 pos pins s σ H (fun vs H2=>i6 H H2/\i5 X.K H2 ds vs) I ⟨ρ,ds,er,e1,fun vs H2 s2 r2=>⟨s2,r2⟩⟩
 &Call_ (cJ I hg hm boot_sum ?_)
 rw[hst1] at PAA ⊢
 &Calls.callWith_builtin rfl (Calls.evalArgs_plain ?_)
 &uo PAA fun us s1 ⟨vs,H1,I1,r1,s01,rp⟩=>?_
 match ds,e2 with
 | [.lst es],e2 =>
  !⟨ns,e3,e4⟩:=h9 (show(intsOf es).bind _=some d from e2)
  split at e4
  case isFalse=>cases e4
  case isTrue hn =>
  cases e4
  !⟨v,r',rfl,⟨a,xs,rfl,ha,rx⟩,rr⟩:=rp
  cases (show r'=[] from rr)
  !⟨u,rfl,ru⟩:=r1.one
  cases (show u=_ from ru)
  !⟨_,its,n,rv,hl,eo⟩:=I1.lstM ha
  have hI:=vals_ints e3 rx rv
  have hlen:its.length=ns.length:=IntsAre.length hI
  have hh:=I1.ok.hd hc
  have hL:s1.heap.IsList a its.toArray:=⟨_,eo,rfl,n,rfl⟩
  have hlt:a<s1.heap.objs.size:=Heap.lt_size eo
  &call_sum_walk (wpAny_pyIter_list hL ?_)
  generalize hIe:s1.heap.objs.size=J at hlt
  have hne:a≠J:=Nat.ne_of_lt hlt
  &⟨J,[J,a],[J],its.toArray.size,_,_,fun i=>ns.getD i 0,rfl,Walks.list (prog:=X.prog) (w:=X.w) (A:=X.A.in1) (show X.A.in1.handled=none from hh) J a hne its.toArray,?_,fun b hb=>?_,fun i v hv=>?_,fun j hj=>?_,fun h' tk t' k=>?_⟩
  ·&⟨by rw[<- hIe];~⟨_,Heap.get?_push_size _ rfl,rfl,rfl⟩,hL.at fun o e=>Heap.get?_push_of_some _ e⟩
  ·rw[Heap.size_push,hIe]
   rcases List.mem_cons.mp hb with rfl | hb
   ·~Nat.lt_succ_self _
   ·rw[List.mem_singleton.mp hb];~Nat.lt_succ_of_lt hlt
  ·~IntsAre.int_at hI i v (by simpa using hv)
  ·have hj':j<ns.length:=by rw[List.size_toArray,hlen] at hj;~hj
   have hall:=hn.2
   have b1:ns.getD j 0∈ns:=by rw[List.getD_eq_getElem?_getD];simp[hj']
   have b2:=of_decide_eq_true (List.all_eq_true.mp hall _ b1)
   have b3:=HE (ns.take (j+1)) (List.all_eq_true.mpr fun x hx=>List.all_eq_true.mp hall x (List.mem_of_mem_take hx))
   rw[yd ns (j+1) (by omega)]
   have b4:(ns.take (j+1)).length<=1000:=by rw[List.length_take];omega
   &⟨⟨by show -(2 ^ 63)<=ns.getD j 0;omega,by show ns.getD j 0<2 ^ 63;omega⟩,by omega,by omega⟩
  ·have hs:preSum (fun i=>ns.getD i 0) its.toArray.size=ns.sum:=by
    rw[List.size_toArray,hlen,yd ns _ (Nat.le_refl _),List.take_length]
   rw[hs]
   &⟨.int ns.sum,H1,I1.kept fun b o eb=>k b o (fun z=>?_) (Heap.get?_push_of_some _ eb),⟨_,rfl⟩,q _ H1 s01 rfl⟩
   rw[List.mem_singleton.mp z,<- hIe] at eb
   ~absurd (Heap.lt_size eb) (Nat.lt_irrefl _)
end
def Hy(K:W.Frag)(C:Addr)(m q:Str)(st:Stmt)(f:Addr):Prop:=∃(oc:Value) (od an:Option Addr) (sl:Array (Option Value)) (kV dc pm cd ct:Value),W.findIn K (.ref C) m=some (some (.ref f))/\W.isFn K (.ref f)=true /\
 K.lookup f=some ⟨oc,od,.func (W.fnOf m q (vf st) (uh st) (c6 st) .none kV dc pm an cd ct),sl⟩/\W.codeIn K cd q=true/\W.keepIn K (.ref f)=true
theorem Js{K:W.Frag}{C:Addr}{m q:Str}{st:Stmt}{f:Addr}(h:Hy K C m q st f):∃fd,uv K m q st f fd/\DW K C m f:=by
 !⟨oc,od,an,sl,kV,dc,pm,cd,ct,a,i,l,c,k⟩:=h
 ~⟨_,rk l c k,a,i,k⟩
theorem fn5_mk{K:W.Frag}{C:Addr}{m q:Str}{st:Stmt}{f:Addr}{oc:Value}{od an:Option Addr}{sl:Array (Option Value)}{kV dc pm cd ct:Value}(a:W.findIn K (.ref C) m=some (some (.ref f)))(i:W.isFn K (.ref f)=true)
  (l:K.lookup f=some ⟨oc,od,.func (W.fnOf m q (vf st) (uh st) (c6 st) .none kV dc pm an cd ct),sl⟩) (c:W.codeIn K cd q=true) (k:W.keepIn K (.ref f)=true):Hy K C m q st f:=⟨oc,od,an,sl,kV,dc,pm,cd,ct,a,i,l,c,k⟩
end HW
namespace HW
open PySem
def Ah(A:List Nat):OD->Bool
 | some (.obj _ a _ es)=>(a::es.flatMap xV).all (fun x=>!A.contains x)&&es.all okN
 | some d=>uC d
 | none=>true
def y9(i:Nat)(A:List Nat)(ρ:R):Bool:=(ρ.set i none).all (Ah A)
def Be(i:Nat)(G:LD->Option (D×D))(F:R->Option LD)(S:List Nat)(ρ:R):Option (D×R):=(c5 i ρ).bind fun ob=>(F ρ).bind fun ds=>(G ds).bind fun r =>
 if xC ob=true/\y9 i (adr ob) ρ=true/\AE S (adr ob)=true then some (r.1,ρ.set i (some r.2)) else none
def LU(i j:Nat)(mk:LD->Nat->Nat->OD)(ds ds':LD)(w:MU)(ρ:R)(r:D):Prop:=∀a l a' l',[a,l,a',l'].Nodup->∃ob ob' ρ',mk ds a l=some ob/\mk ds' a' l'=some ob'/\w [a,l,a',l'] ((ρ.set i (some ob)).set j (some ob'))=some (.rt r ρ')
theorem LU.uniq{i j:Nat}{mk:LD->Nat->Nat->OD}{ds ds':LD}{w:MU}{ρ:R}{r r':D}(h:LU i j mk ds ds' w ρ r)(h':LU i j mk ds ds' w ρ r'):r=r':=by
 !⟨ob,ob',ρ1,e1,e2,e3⟩:=h 0 1 2 3 (by decide)
 !⟨pb,pb',ρ2,f1,f2,f3⟩:=h' 0 1 2 3 (by decide)
 rw[e1] at f1;cases f1
 rw[e2] at f2;cases f2
 rw[e3] at f3
 ~(MO.rt.inj (Option.some.inj f3)).1
def G8(j i C:Nat)(x:Str):MU:=fun S ρ=>match c5 i ρ with
 | some (.obj k a ks ds)=>match Bd ks ds x with
  | some (.obj 0 l ls es)=>match es.getLast? with
   | some d=>if k=C+2/\i≠j/\j<ρ.length/\uS i ρ=true/\AE S (a::ds.flatMap xV)=true/\n5 es=true/\n5 (putD ks ds x .non).2=true/\S.contains l=true then some (.nx ((ρ.set i (some (.obj k a (putD ks ds x (.obj 0 l ls es.dropLast)).1 (putD ks ds x (.obj 0 l ls es.dropLast)).2))).set j (some d))) else none
   | none=>none
  | _=>none
 | _=>none
mutual
def nof:D->Bool
 | .tup xs=>nofs xs
 | .lst xs=>nofs xs
 | .fro _=>false
 | .obj ..=>false
 | .rf ..=>false
 | _=>true
def nofs:LD->Bool
 | []=>true
 | x::xs=>nof x&&nofs xs
end
def xY(i C:Nat)(x:Str)(F:R->OD):R->OD:=fun ρ=>match c5 i ρ with
 | some (.obj k a ks ds)=>match Bd ks ds x with
  | some (.obj 0 l ls es)=>if k=C+2/\uS i ρ=true/\n5 es=true/\n5 (putD ks ds x .non).2=true then (F (ρ.set i (some (.obj k a (putD ks ds x (.fro es)).1 (putD ks ds x (.fro es)).2)))).bind fun d=>if nof d then some d else none else none
  | _=>none
 | _=>none
def Gk(f:R->OD):R->Option LD:=fun ρ=>(f ρ).bind fun x=>match x with
 | .fro es=>some es
 | _=>none
end HW
namespace HW
open PySem PySem.Spec PyProof.Rows L2
section
variable{K:W.Frag}{H H' H1 H2:Hp}{A S:List Nat}
theorem sS(m:t9 A H)(s:uQ A H H'):∀{d:D} {v:V},okN d=true->(∀b∈xV d,b∉A)->Rep K H d v->Rep K H' d v:=by
 intro d v h hA r
 match d,h,hA,r with
 | .obj 0 l ls es,h,hA,⟨xs,e,⟨z,its,n,rv,q⟩,t⟩=>~⟨xs,e,⟨z,its,n,rv,s _ _ (hA l (List.mem_singleton.mpr rfl)) q⟩,i5.kq m s h t⟩
 | .obj (k+1) l ls es,h,_,_=>cases (show uC (.obj (k+1) l ls es)=true from h)
 | .rf a,h,_,_=>cases (show uC (.rf a)=true from h)
 | .non,_,_,r=>~r
 | .bl _,_,_,r=>~r
 | .int _,_,_,r=>~r
 | .str _,_,_,r=>~r
 | .tup ds,h,_,r=>~Rep.kq m s (d:=.tup ds) h r
 | .lst ds,h,_,r=>~Rep.kq m s (d:=.lst ds) h r
 | .fro ds,h,_,r=>~Rep.kq m s (d:=.fro ds) h r
theorem oW(m:t9 A H)(s:uQ A H H'):∀{ds:LD} {vs:List V},ds.all okN=true->(∀b∈ds.flatMap xV,b∉A)->i5 K H ds vs->i5 K H' ds vs
 | [],_,_,_,r=>r
 | d::ds,_,h,hA,r=>by
  rw[List.all_cons,Bool.and_eq_true] at h
  rw[List.flatMap_cons] at hA
  !⟨v,vr,e,r1,r2⟩:=r
  ~⟨v,vr,e,sS m s h.1 (fun b hb=>hA b (List.mem_append_left _ hb)) r1,oW m s h.2 (fun b hb=>hA b (List.mem_append_right _ hb)) r2⟩
theorem Rep.sep(m:t9 A H)(s:uQ A H H'):∀{d:D} {v:V},Ah A (some d)=true->Rep K H d v->Rep K H' d v:=by
 intro d v h r
 cases d with
 | obj k a ks es =>
  have h':((a::es.flatMap xV).all (fun x=>!A.contains x)&&es.all okN)=true:=h
  rw[Bool.and_eq_true] at h'
  have hA:∀b∈a::es.flatMap xV,b∉A:=fun b hb z=>by
   have:=List.all_eq_true.mp h'.1 b hb
   simp at this
   ~this z
  !⟨xs,e,q,t⟩:=r
  ~⟨xs,e,q.to fun u e' _=>s a u (hA a (.head _)) e',oW m s h'.2 (fun b hb=>hA b (.tail _ hb)) t⟩
 | _=>~Rep.kq m s h r
theorem se{ρ:R}{σ:L2.St}{i:Nat}{ob':D}{v:V}(er:ut K H ρ σ)(m:t9 A H)(s:uQ A H H')(hn:y9 i A ρ=true)(hv:σ[i]?=some (some v))(r:Rep K H' ob' v):ut K H' (ρ.set i (some ob')) σ:=by
 &⟨by rw[List.length_set];~er.1,fun j d h=>?_⟩
 by_cases hj:j=i
 ·subst hj
  have hl:j<ρ.length:=by have:=(List.getElem?_eq_some_iff.mp h).1;simpa using this
  rw[List.getElem?_set_self hl] at h
  cases h
  ~⟨v,hv,r⟩
 ·rw[List.getElem?_set_ne (Ne.symm hj)] at h
  !⟨u,h1,h2⟩:=er.2 j d h
  have hd:Ah A (some d)=true:=List.all_eq_true.mp hn _ (List.mem_of_getElem? (i:=j) (by rw[List.getElem?_set_ne (Ne.symm hj)];~h))
  ~⟨u,h1,Rep.sep m s hd h2⟩
theorem Cr{ρ:R}{σ τ:L2.St}{i:Nat}{ob o':D}(er:uq K H ρ τ σ)(m:t9 S H)(hat:c5 i ρ=some ob)(ho:xC ob=true)(hn:y9 i (adr ob) ρ=true)(hin:AE S (adr ob)=true)(s1:i6 H H1)(kq:uQ (adr ob) H1 H2)(m2:t9 (adr ob) H2)
  (r:Rep K H2 o' (.ref (Ag ob))):uQ S H H2/\t9 S H2/\uq K H2 (ρ.set i (some o')) τ σ:=by
 have sub:=E8 hin
 have m1:=m.same s1
 have mS:t9 S H2:=fun b hb=>by
  by_cases hba:b∈adr ob
  ·~m2 b hba
  ·have hm:=m1 b hb
   cases e:H1 b with
   | none=>rw[e] at hm;~hm.elim
   | some u=>rw[kq b u hba e];rw[e] at hm;~hm
 !⟨v,hσ,rv⟩:=(er.mono s1).1.at hat
 have mo:=xH rv
 rw[nz ho rv] at hσ
 ~⟨(uQ.of s1).trans (kq.mono sub),mS,se (er.mono s1).1 mo kq hn hσ r,by rw[List.length_set];~er.2⟩
end
section
variable{X:Cx}{pos:Pos}
theorem mf{F:R->Option LD}{G:LD->Option (D×D)}{S:List Nat}{i j:Nat}{ρ ρ':R}{σ τ:L2.St}{H:Hp}{d:D}{Q:VK}(hF:∀ ρ ds ob,F ρ=some ds->c5 i ρ=some ob->ds[j]?=some ob)(er:uq X.K H ρ τ σ)(m:t9 S H)(e:Be i G F S ρ=some (d,ρ'))
  (q:∀v H',uQ S H H'->t9 S H'->Rep X.K H' d v->uq X.K H' ρ' τ σ->Q v H'):Le (G1 X.K j G) [] E0 (Po X.K F) σ H Q:=by
 !⟨ob,hat,e⟩:=h9 e
 !⟨ds,e1,e⟩:=h9 e
 !⟨r,e2,e⟩:=h9 e
 split at e
 case isFalse=>cases e
 case isTrue hc =>
 !⟨ho,hn,hin⟩:=hc
 obtain⟨rfl,rfl⟩:r.1=d/\ρ.set i (some r.2)=ρ':=by simpa using e
 &⟨ρ,ds,er.1,e1,fun vs H1 s1 r1=>?_⟩
 show G1 X.K j G (vs++[]) H1 Q E0
 rw[List.append_nil]
 &⟨ds,ob,r.1,r.2,r1,hF ρ ds ob e1 hat,ho,e2,fun v H2 kq m2 rd ro=>?_⟩
 !⟨a,b,c⟩:=Cr er m hat ho hn hin s1 kq m2 ro
 ~q v H2 a b rd c
variable{x:Str}{e:Expr}{es:List Expr}{F:R->Option LD}{G:LD->Option (D×D)}{k j:Nat}{ps:List Str}{p:Pos}
theorem qf(i:Nat)(C:Fb X.prog X.w X.K X.mg X.base k x ps j G)(hr:ua k X.A)(ha:SA X (e::es) F)(hF:∀ ρ ds ob,F ρ=some ds->c5 i ρ=some ob->ds[j]?=some ob){pos':Pos}(hg:Gl X x:=by rfl)(hdb:(x==("__debug__" : Str))=false:=by decide)
  (hs:swapsWith (.Call (.Name x p) (e::es) [] pos) none pos'.line X.env=pure false:=by rfl):MS X (.Expr (.Call (.Name x p) (e::es) [] pos) pos') (Bh (Be i G F)):=by
 have hst:=ha.2.2
 rw[List.all_cons,Bool.and_eq_true] at hst
 have he:=aF es X.env hst.1
 have hpl:=bv (pos:=pos) (env:=X.env) hst.2
 !⟨f,fd,a,m,kp,bd⟩:=C.ex
 &fun S=>(oB (iR a hr hg m kp bd .nil yk ha.1 hdb he hpl) hs).imp fun E σ H ⟨ρ,τ,o,er,m,e,q⟩=>?_
 !⟨r,e1,rfl⟩:=t7 e
 ~mf hF er m e1 fun v H' kq mS _ er'=>q H' kq mS σ er'
variable{C:Nat}{mn:Str}{apos:Pos}
theorem rn{st:Stmt}:MS X st (fun _ _=>none):=fun S _ _ _ _ _ _ ⟨_,_,_,_,_,e,_⟩=>by cases e
end
section
variable{X:Cx}{pins pins0:List (Addr×Obj)}{σ σ0:L2.St}{H H0:Hp}{s s0:Shared}{l:Addr}{its:List Value}{n:Nat}{xs:List V}
theorem Qv(I:L2.Inv X pins σ H s)(h:H l=some (.frz {cls:=.type "list",data:=.seq its.toArray n} (.own 0)))(r:l6 xs its)(z:xs.length<=sizeLine):L2.Inv X pins σ (upd H l (.frz {cls:=.type "list",data:=.seq its.toArray n} (.lst xs))) s:=by
 have e:=(I.hok l _ h).1
 ~I.write (t':=s.toks) (h':=s.heap) (o:=.frz {cls:=.type "list",data:=.seq its.toArray n} (.lst xs)) (x:=l) (e:=l) (by rw[h];trivial) (.inl rfl) (fun _ _ _ q=>q) ⟨_,e⟩ ⟨e,z,its,n,r,e⟩
theorem Nl{o:Obj}(I0:L2.Inv X pins0 σ0 H0 s0)(h0:H0 l=some (.frz o (.own 0)))(I:L2.Inv X pins σ H s)(h:H l=some (.frz o (.lst xs))):L2.Inv X pins σ (upd H l (.frz o (.own 0))) s:=by
 have e:=(I.hok l _ h).1
 have ne:∀{b:Addr},H b=none->b≠l:=fun {b} hb z=>by rw[z,h] at hb;cases hb
 &⟨I.ok,I.os,I.bare,⟨I.base.keep,I.base.slot,fun b ob q nn hx=>?_,I.base.there,fun b ys q=>?_,fun b ob u ny q=>?_,fun b ps d q=>?_⟩,I.loc,I.cell,?_,fun y c hc=>?_,fun p hp=>?_,fun b u q=>?_,I.len⟩
 ·have z:=I.base.free b ob q nn hx
  rw[aq (ne z)];~z
 ·have z:=I.base.tups b ys q
  rw[aq fun w=>by rw[w,h] at z;cases z];~z
 ·have z:=I.base.frzs b ob u ny q
  rw[aq fun w=>?_]
  ·~z
  ·have z0:=I0.base.frzs b ob u ny q
   rw[w,h0] at z0
   cases z0
   ~ny 0 rfl
 ·have z:=I.base.tbls b ps d q
  rw[aq fun w=>by rw[w,h] at z;cases z];~z
 ·rw[aq (ne I.free)];~I.free
 ·rw[aq (ne (I.freeC y c hc))];~I.freeC y c hc
 ·!⟨p1,p2,p3⟩:=I.pin p hp
  ~⟨p1,by rw[aq (ne p2)];~p2,p3⟩
 ·by_cases hb:b=l
  ·subst hb
   rw[au] at q
   cases q
   ~⟨e,_,e⟩
  ·rw[aq hb] at q
   &(I.hok b u q).stay (fun c v _ r=>r) (fun c r=>?_) (fun c ys r=>?_) fun c _ _ r=>?_
   ·rw[aq fun w=>by rw[w,h] at r;cases r];~r
   ·rw[aq fun w=>by rw[w,h] at r;cases r];~r
   ·rw[aq fun w=>by rw[w,h] at r;cases r];~r
end
section
variable{K:W.Frag}{H:Hp}{l:Addr}{o:Obj}{ys:List V}{u:HO}
mutual
theorem Rep.nof(h:H l=some (.frz o (.lst ys))):∀{d:D} {v:V},nof d=true->Rep K H d v->Rep K (upd H l u) d v
 | .non,_,_,r=>r
 | .bl _,_,_,r=>r
 | .int _,_,_,r=>r
 | .str _,_,_,r=>r
 | .tup ds,_,hn,r=>by
  !⟨a,xs,e,q,t⟩:=r
  &⟨a,xs,e,?_,i5.nof h hn t⟩
  rcases q with (q | ⟨o',q⟩) | q
  ·~.inl (.inl (by rw[aq fun w=>by rw[w,h] at q;cases q];~q))
  ·~.inl (.inr ⟨o',by rw[aq fun w=>by rw[w,h] at q;cases q];~q⟩)
  ·~.inr q
 | .lst ds,_,hn,r=>by
  !⟨a,xs,e,q,t⟩:=r
  ~⟨a,xs,e,by rw[aq fun w=>by rw[w,h] at q;cases q];~q,i5.nof h hn t⟩
 | .fro _,_,hn,_=>by cases hn
 | .obj ..,_,hn,_=>by cases hn
 | .rf ..,_,hn,_=>by cases hn
theorem i5.nof(h:H l=some (.frz o (.lst ys))):∀{ds:LD} {vs:List V},nofs ds=true->i5 K H ds vs->i5 K (upd H l u) ds vs
 | [],_,_,r=>r
 | d::ds,_,hn,r=>by
  have hn':(HW.nof d&&nofs ds)=true:=hn
  rw[Bool.and_eq_true] at hn'
  !⟨v,vr,e,r1,r2⟩:=r
  ~⟨v,vr,e,Rep.nof h hn'.1 r1,i5.nof h hn'.2 r2⟩
end
theorem i5.dropLast:∀{ds:LD} {vs:List V},i5 K H ds vs->i5 K H ds.dropLast vs.dropLast
 | [],_,r=>by cases (show _=[] from r);rfl
 | [d],_,r=>by
  !⟨v,vr,rfl,_,r2⟩:=r
  cases (show vr=[] from r2);rfl
 | d::d'::ds,_,r=>by
  !⟨v,vr,rfl,r1,r2⟩:=r
  !⟨v',vr',e,r3,r4⟩:=r2
  subst e
  ~⟨v,_,rfl,r1,i5.dropLast (ds:=d'::ds) (vs:=v'::vr') ⟨v',vr',rfl,r3,r4⟩⟩
theorem kr:∀{ds:LD},n5 ds=true->n5 ds.dropLast=true
 | [],h=>h
 | [d],_=>rfl
 | d::d'::ds,h=>by
  have h':(uC d&&n5 (d'::ds))=true:=h
  rw[Bool.and_eq_true] at h'
  show(uC d&&n5 (d'::ds).dropLast)=true
  rw[h'.1,kr h'.2];rfl
theorem mM{d:D}:∀{ds:LD},n5 ds=true->d∈ds->uC d=true
 | e::ds,h,hd=>by
  have h':(uC e&&n5 ds)=true:=h
  rw[Bool.and_eq_true] at h'
  rcases List.mem_cons.mp hd with rfl | hd
  ·~h'.1
  ·~mM h'.2 hd
end
section
variable{X:Cx}{pos:Pos}
theorem sU{tg a:Expr}{f:R->OD}(ha:SE X a f):SI X tg a (Gk f):=(nE ha).imp fun σ H W ⟨ρ,ds,er,e,q⟩=>by
 !⟨x,e1,e⟩:=h9 e
 &⟨ρ,x,er,e1,fun v H1 s1 r1=>?_⟩
 cases x with
 | fro xs =>
  cases e
  !⟨a,vs,ev,hq,t⟩:=r1
  ~.inl ⟨a,ev,.inl ⟨⟨vs,hq⟩,q _ H1 s1 (iv hq t)⟩⟩
 | _=>cases e
theorem lJ{e:Expr}{F:R->OD}{x:Str}(i C:Nat)(h:SE X e F):SE X e (xY i C x F):=by
 intro pins s σ H Q I ⟨ρ,d,er,e0,q⟩
 unfold xY at e0
 split at e0
 case h_2=>cases e0
 case h_1 k a ks ds hat =>
 split at e0
 case h_2=>cases e0
 case h_1 l ls es hkey =>
 split at e0
 case isFalse=>cases e0
 case isTrue hc =>
 !⟨rfl,h2,h5,h6⟩:=hc
 !⟨d',eF,e0⟩:=h9 e0
 split at e0
 case isFalse=>cases e0
 case isTrue hnf =>
 cases e0
 !⟨v,hσ,rv⟩:=er.at hat
 !⟨xs,ev,⟨hl,dx,hH⟩,t⟩:=rv
 subst ev
 !⟨y,hlk,ry⟩:=zt hkey t hl
 !⟨ys,ey,⟨hz,its,nn,rv,hL⟩,ty⟩:=ry
 subst ey
 have I1:=Qv I hL rv hz
 have k01:uQ [l] H (upd H l (.frz {cls:=.type "list",data:=.seq its.toArray nn} (.lst ys))):=fun b u nb eb=>by rw[aq fun z=>nb (by rw[z];~List.mem_singleton.mpr rfl)];~eb
 have ml:t9 [l] H:=fun b hb=>by rw[List.mem_singleton.mp hb,hL];trivial
 have hla:a≠l:=fun z=>by rw[z,hL] at hH;cases hH
 have kq:∀{d:D} {v:V},uC d=true->Rep X.K H d v->Rep X.K (upd H l (.frz {cls:=.type "list",data:=.seq its.toArray nn} (.lst ys))) d v:=fun hn r=>Rep.kq ml k01 hn r
 have rf:Rep X.K (upd H l (.frz {cls:=.type "list",data:=.seq its.toArray nn} (.lst ys))) (.fro es) (.ref l):=⟨l,ys,rfl,.inl (.inr ⟨_,au⟩),i5.kq ml k01 h5 ty⟩
 !⟨g1,g2⟩:=gH hkey hlk t hl h6 kq rf
 have rob:Rep X.K (upd H l (.frz {cls:=.type "list",data:=.seq its.toArray nn} (.lst ys))) (.obj (C+2) a (putD ks ds x (.fro es)).1 (putD ks ds x (.fro es)).2) (.ref a):=by
  rw[g1]
  ~⟨xs,rfl,⟨hl,dx,by rw[aq hla];~hH⟩,g2⟩
 &uo (h pins s σ _ (fun v H2=>i6 (upd H l (.frz {cls:=.type "list",data:=.seq its.toArray nn} (.lst ys))) H2/\Rep X.K H2 d v) I1 ⟨_,d,qC er ml k01 h2 hσ rob,eF,fun v H' s1 r1=>⟨s1,r1⟩⟩) fun u s1 ⟨v,H2,I2,ru,s12,rd⟩=>?_
 have hL2:=s12 _ _ au
 &⟨v,_,Nl I hL I2 hL2,ru,q v _ (fun b w hb=>?_) (Rep.nof hL2 hnf rd)⟩
 by_cases hbl:b=l
 ·subst hbl
  rw[hL] at hb
  cases hb
  ~au
 ·rw[aq hbl]
  ~s12 b w (by rw[aq hbl];~hb)
theorem qM{x y f:Str}{C:Nat}{px py pf ap cp:Pos}(j i:Nat)(hNd:X.N.Nodup)(c:yN X.K C)(n:t8 X.K C f)(hN:X.N[i]?=some x:=by rfl)(hv:Ca X.env.scope x:=by first | ~Or.inl rfl | ~Or.inr (Or.inl rfl) | ~Or.inr (Or.inr rfl))(hj:X.N[j]?=some y:=by rfl)(hy:Loc X.env.scope y:=by first | ~Or.inl rfl | ~Or.inr rfl)
  (hd:(x==("__debug__" : Str))=false:=by decide) (hcd:(x==("__classdict__" : Str))=false:=by decide) (hb1:attributeBase (.Name x px) f X.env (eval (.Name x px) X.env)=eval (.Name x px) X.env:=by rfl)
  (hbase:attributeBase (.Attribute (.Name x px) f pf) "pop" X.env (eval (.Attribute (.Name x px) f pf) X.env)=eval (.Attribute (.Name x px) f pf) X.env:=by rfl)
  (hline:(ap.endLine==cp.line)=true:=by rfl) (hs:swapsWith (.Call (.Attribute (.Attribute (.Name x px) f pf) "pop" ap) [] [] cp) (some (.Name y py)) pos.line X.env=pure false:=by rfl) (hf:X.fn y=true\/X.env.scope.names.lookup y=some .local:=by first | ~.inl rfl | ~.inr rfl) :
  MS X (.Assign [.Name y py] (.Call (.Attribute (.Attribute (.Name x px) f pf) "pop" ap) [] [] cp) pos) (G8 j i C f):=by
 intro S pins s σ H E I ⟨ρ,τ,o,er,m,e,q⟩
 unfold G8 at e
 split at e
 case h_2=>cases e
 case h_1 k a ks ds hat =>
 split at e
 case h_2=>cases e
 case h_1 l ls es hkey =>
 split at e
 case h_2=>cases e
 case h_1 d hlast =>
 split at e
 case isFalse=>cases e
 case isTrue hc =>
 !⟨rfl,hij,hjl,h2,h3,h5,h6,h7⟩:=hc
 cases e
 !⟨v,hσ,rv⟩:=er.1.at hat
 !⟨xs,ev,⟨hl,dx,hH⟩,t⟩:=rv
 subst ev
 !⟨y0,hlk,ry⟩:=zt hkey t hl
 !⟨ys,ey,⟨hz,its,nn,rv,hL⟩,ty⟩:=ry
 subst ey
 have hlen:es.length=ys.length:=ty.length
 rw[List.getLast?_eq_getElem?] at hlast
 !⟨w,hw,rw1⟩:=ty.get hlast
 rw[hlen] at hw
 &wpAny_Assign_Name (uo (Q:=EP X pins σ fun v H5=>v=w/\uQ S H H5/\t9 S H5/\Rep X.K H5 d w/\uq X.K H5 (ρ.set i (some (.obj (C+2) a (putD ks ds f (.obj 0 l ls es.dropLast)).1 (putD ks ds f (.obj 0 l ls es.dropLast)).2))) τ σ) ?_ fun v s1 ⟨y',H5,I5,r5,ey,kq,mS,rd,er5⟩=>?_) hs
 ·&wpAny_Call_method_late hbase rfl hline rfl (uo ((nv (pv i (pos:=px) hN hv hd hcd) hb1) pins s σ H (fun v H1=>v=.ref l/\H1=H) I ⟨.ref a,hσ,a,C,dx,_,.ref l,rfl,hH,c,n,hlk,rfl,rfl⟩) fun v s1 ⟨y',H1,I1,r1,ey,eH⟩=>?_)
  subst ey eH
  cases (show v=_ from r1)
  have eo:=(I1.hok l _ hL).1
  &⟨"list","list.pop",PySem.F.plainAttrs_list,PySem.F.slot_list_pop,PySem.F.type_list_pop,⟨_,eo,rfl⟩,fun b eb=>?_,?_⟩
  ·cases eb
   ~⟨_,eo,rfl⟩
  &Calls.callWith_builtin rfl (evalArgs_nil3 ?_)
  have I3:=GC I1 hL rv hz
  &uo (sJ pins s1 σ (upd H1 l (.lst ys)) (.ref l) [] (.ref l) [] (fun v H3=>v=w/\H3=upd (upd H1 l (.lst ys)) l (.lst ys.dropLast)) I3 rfl .nil ⟨l,ys,w,rfl,rfl,au,hw,rfl,rfl⟩) fun v s3 ⟨v',H3,I4,r4,e4,e3⟩=>?_
  subst e3 e4
  !⟨its',n',rv',hz',I5⟩:=Dp I4 au
  generalize hH5:upd (upd (upd H1 l (.lst ys)) l (.lst ys.dropLast)) l (.frz {cls:=.type "list",data:=.seq its'.toArray n' } (.own 0))=H5 at I5
  have k25:uQ [l] H1 H5:=fun b u nb eb=>by
   have hbl:b≠l:=fun z=>nb (by rw[z];~List.mem_singleton.mpr rfl)
   subst hH5
   rw[aq hbl,aq hbl,aq hbl];~eb
  have hL5:H5 l=some (.frz {cls:=.type "list",data:=.seq its'.toArray n' } (.own 0)):=by subst hH5;~au
  have ml:t9 [l] H1:=fun b hb=>by rw[List.mem_singleton.mp hb,hL];trivial
  have hla:a≠l:=fun z=>by rw[z,hL] at hH;cases hH
  have hH5a:H5 a=some (.ins C dx (ks.zip xs)):=k25 a _ (fun z=>hla (List.mem_singleton.mp z)) hH
  have kq:∀{d:D} {v:V},uC d=true->Rep X.K H1 d v->Rep X.K H5 d v:=fun hn r=>Rep.kq ml k25 hn r
  have rl:Rep X.K H5 (.obj 0 l ls es.dropLast) (.ref l):=⟨ys.dropLast,rfl,⟨hz',its',n',rv',hL5⟩,i5.kq ml k25 (kr h5) ty.dropLast⟩
  !⟨g1,g2⟩:=gH hkey hlk t hl h6 kq rl
  have rob:Rep X.K H5 (.obj (C+2) a (putD ks ds f (.obj 0 l ls es.dropLast)).1 (putD ks ds f (.obj 0 l ls es.dropLast)).2) (.ref a):=by
   rw[g1]
   ~⟨xs,rfl,⟨hl,dx,hH5a⟩,g2⟩
  have hlS:l∈S:=by simpa using h7
  have kqS:uQ S H1 H5:=k25.mono fun b hb=>by rw[List.mem_singleton.mp hb];~hlS
  have mS:t9 S H5:=fun b hb=>by
   by_cases hbl:b=l
   ·rw[hbl,hL5];trivial
   ·have hm:=m b hb
    cases hb2:H1 b with
    | none=>rw[hb2] at hm;~hm.elim
    | some u=>rw[k25 b u (fun z=>hbl (List.mem_singleton.mp z)) hb2];rw[hb2] at hm;~hm
  ~⟨_,H5,I5,r4,rfl,kqS,mS,kq (mM h5 (List.mem_of_getElem? hlast)) rw1,iO er m kqS h2 hσ rob⟩
 ·subst ey
  &zA I5 hNd hj hy r5 (fun s2 I6=>⟨_,H5,I6,q H5 kq mS _ (er5.set (by simpa using hjl) rd)⟩) hf
end
end HW
namespace HW
open PySem
def EC(i:Nat)(mk:LD->Nat->Nat->OD)(ds:LD)(w:MU)(S:List Nat)(ρ:R)(r:D):Prop:=∀a l,a≠l->a∉S->l∉S->∃ob ρ',mk ds a l=some ob/\w (a::l::S) (ρ.set i (some ob))=some (.rt r ρ')
theorem Iv(S:List Nat):∃a l:Nat,a≠l/\a∉S/\l∉S:=by
 have h:∀S:List Nat,∃n,∀x∈S,x<n:=fun S=>by
  induction S with
  | nil=>~⟨0,fun _ h=>by cases h⟩
  | cons y S ih =>
   !⟨n,hn⟩:=ih
   &⟨n+y+1,fun x hx=>?_⟩
   rcases List.mem_cons.mp hx with rfl | hx
   ·omega
   ·have:=hn x hx;omega
 !⟨n,hn⟩:=h S
 ~⟨n,n+1,by omega,fun z=>by have:=hn _ z;omega,fun z=>by have:=hn _ z;omega⟩
theorem EC.uniq{i:Nat}{mk:LD->Nat->Nat->OD}{ds:LD}{w:MU}{S:List Nat}{ρ:R}{r r':D}(h:EC i mk ds w S ρ r)(h':EC i mk ds w S ρ r'):r=r':=by
 !⟨a,l,h1,h2,h3⟩:=Iv S
 !⟨ob,ρ1,e1,e2⟩:=h a l h1 h2 h3
 !⟨pb,ρ2,f1,f2⟩:=h' a l h1 h2 h3
 rw[e1] at f1;cases f1
 rw[e2] at f2
 ~(MO.rt.inj (Option.some.inj f2)).1
def NG(i:Nat)(mk:LD->Nat->Nat->OD)(F:R->Option LD)(w:MU):MU:=fun S ρ=>(F ρ).bind fun ds=>open Classical in
 if h:i<ρ.length/\∃r,EC i mk ds w S ρ r then some (.rt h.2.choose []) else none
theorem Ml{i:Nat}{mk:LD->Nat->Nat->OD}{F:R->Option LD}{w:MU}{S:List Nat}{ρ:R}{ds:LD}{r:D}(h1:F ρ=some ds)(hi:i<ρ.length)(h2:EC i mk ds w S ρ r):NG i mk F w S ρ=some (.rt r []):=by
 unfold NG
 have q:i<ρ.length/\∃r,EC i mk ds w S ρ r:=⟨hi,r,h2⟩
 rw[h1,Option.bind_some,dif_pos q]
 ~congrArg (fun x=>some (MO.rt x [])) (EC.uniq q.2.choose_spec h2)
theorem MP{i:Nat}{mk:LD->Nat->Nat->OD}{F:R->Option LD}{w:MU}{S:List Nat}{ρ:R}{o:MO}(h:NG i mk F w S ρ=some o):∃ds r,F ρ=some ds/\i<ρ.length/\o=.rt r []/\EC i mk ds w S ρ r:=by
 unfold NG at h
 cases e:F ρ with
 | none=>rw[e] at h;cases h
 | some ds =>
  rw[e,Option.bind_some] at h
  split at h
  ·rename_i q
   cases h
   ~⟨ds,_,rfl,q.1,rfl,q.2.choose_spec⟩
  ·cases h
end HW
namespace HW
open PySem PySem.Spec PyProof.Rows L2
section
variable{X:Cx}{pos:Pos}{C:Nat}{f:Str}
theorem Ir{g:MU}{F:R->Option LD}{ps:List Str}{NI:Nat}{ρ:R}{σ:L2.St}{H:Hp}{ds:LD}{Q:VK}(hn:ds.length+1=ps.length)(er:ut X.K H ρ σ)(e1:F ρ=some ds)(hw:∀a,H a=none->∃l ob,yj NI C f g ds a l=some ob)
  (q:∀a l ob H',H a=none->H l=none->a≠l->yj NI C f g ds a l=some ob->i6 H H'->Rep X.K H' ob (.ref a)->t9 [a,l] H'->Q (.ref a) H'):K5 C (NC X.K ps.length NI C f g) [] E0 (Po X.K F) σ H Q:=by
 &⟨ρ,ds,er,e1,fun vs H1 s1 r1 a dx ha0 hdx hne=>?_⟩
 rw[List.append_nil]
 have sn:i6 H1 (upd (upd H1 dx (.own a)) a (.ins C dx [])):=(bh hdx _).trans (bh (by rw[aq (Ne.symm hne)];~ha0) _)
 have hHa:H a=none:=by
  cases hb:H a with
  | none=>rfl
  | some u=>rw[s1 a u hb] at ha0;cases ha0
 &⟨a,ds,hn,⟨.ref a,vs,rfl,⟨[],rfl,⟨rfl,dx,au⟩,rfl⟩,r1.mono sn⟩,fun l=>?_,fun l ob H' hl hmk kq ro=>⟨rfl,q a l ob H' hHa ?_ ?_ hmk ?_ ro ?_⟩⟩
 ·!⟨_,ob,h1⟩:=hw a hHa
  ~CT h1 l
 ·cases hb:H l with
  | none=>rfl
  | some u=>rw[sn l u (s1 l u hb)] at hl;cases hl
 ·intro z;rw[<- z,au] at hl;cases hl
 ·intro b u hb
  have hba:b≠a:=fun z=>by rw[z,hHa] at hb;cases hb
  ~kq b u (fun z=>hba (List.mem_singleton.mp z)) (sn b u (s1 b u hb))
 ·have:=xH ro
  rw[D7 hmk] at this
  ~this
theorem qk{x cn:Str}{e:Expr}{es:List Expr}{sts:List Stmt}{F:R->Option LD}{g w:MU}{fi:Addr}{fd:FuncData}{ps:List Str}{k NI:Nat}{px p p1:Pos}(i:Nat)(hN:X.N.Nodup)(M:Mk X.K C fi)(Fn:k6 X.prog X.w X.K X.mg X.base ue k fi fd ps (NC X.K ps.length NI C f g))(bd:Binds X.K fd ps [])
  (hr:ua (k+1) X.A) (hm:X.mg cn=some (.ref C)) (ha:SA X (e::es) F) (h2:EL X sts w) (hn:(e::es).length+1=ps.length:=by rfl) (hg:Gl X cn:=by rfl) (hdb:(cn==("__debug__" : Str))=false:=by decide) (hix:X.N[i]?=some x:=by rfl) (hx:Loc X.env.scope x:=by first | ~Or.inl rfl | ~Or.inr rfl)
  (hs:swapsWith (.Call (.Name cn p) (e::es) [] p1) (some (.Name x px)) pos.line X.env=pure false:=by rfl) (hf:X.fn x=true\/X.env.scope.names.lookup x=some .local:=by first | ~.inl rfl | ~.inr rfl) :
  EL X (.Assign [.Name x px] (.Call (.Name cn p) (e::es) [] p1) pos::sts) (NG i (yj NI C f g) F w):=by
 have hst:=ha.2.2
 rw[List.all_cons,Bool.and_eq_true] at hst
 have he:=aF es X.env hst.1
 have hpl:=bv (pos:=p1) (env:=X.env) hst.2
 intro S pins s σ H E I ⟨ρ,τ,o,er,mS,eo,qq⟩
 !⟨ds,r,e1,hi,rfl,hw⟩:=MP eo
 have nin:∀{c:Nat},H c=none->c∉S:=fun {c} hc hz=>by
  have:=mS c hz
  rw[hc] at this;~this
 have mk1:∀a,H a=none->∃l ob,yj NI C f g ds a l=some ob:=fun a h=>by
  !⟨b,l,_,h2,h3⟩:=Iv (a::S)
  !⟨ob,_,h1,_⟩:=hw a l (fun z=>h3 (by rw[z];~.head _)) (nin h) (fun z=>h3 (.tail _ z))
  ~⟨l,ob,h1⟩
 &wpAny_execs_cons (uo ((g_ (i:=i) hN hix hx (oP M Fn hr hg hm bd .nil yk ha.1 hdb he hpl) hs hf) pins s σ H {E with nx:=fun σ' H'=>∃a l ob,H a=none/\H l=none/\a≠l/\σ'=σ.set i (some (.ref a))/\yj NI C f g ds a l=some ob/\i6 H H'/\Rep X.K H' ob (.ref a)/\t9 [a,l] H' } I ?_) fun fl s1 z=>?_)
 ·~Ir (by rw[ha.2.1 ρ ds e1];~hn) er.1 e1 mk1 fun a l ob H1 ha0 hl0 hal hmk sm ro ms=>⟨a,l,ob,ha0,hl0,hal,rfl,hmk,sm,ro,ms⟩
 cases fl with
 | next =>
  !⟨σ',H',I',a,l,ob,hHa,hHl,hal,rfl,hmk,sm,ro,ms⟩:=z
  !⟨ob',ρ',h1,h3⟩:=hw a l hal (nin hHa) (nin hHl)
  rw[hmk] at h1
  cases h1
  have mS':t9 (a::l::S) H':=fun b hb=>by
   rcases List.mem_cons.mp hb with rfl | hb
   ·~ms _ (.head _)
   ·rcases List.mem_cons.mp hb with rfl | hb
    ·~ms _ (.tail _ (.head _))
    ·~mS.same sm b hb
  &h2 (a::l::S) pins s1 _ H' E I' ⟨ρ.set i (some ob),τ,_,(er.mono sm).set hi ro,mS',h3,fun H2 kq m2=>?_⟩
  intro v rv _
  &qq H2 (fun b u hn hb=>?_) (fun b hb=>m2 b (.tail _ (.tail _ hb))) v rv (fun j d hj=>by cases hj)
  &kq b u (fun z=>?_) (sm b u hb)
  rcases List.mem_cons.mp z with rfl | z
  ·rw[hHa] at hb;cases hb
  ·rcases List.mem_cons.mp z with rfl | z
   ·rw[hHl] at hb;cases hb
   ·~hn z
 | brk=>~z
 | cont=>~z
 | ret v=>~z
end
structure ES (B:Heap) (l:List Env) (e C:Addr) (h:Heap):Prop where
 st:B.StaysIn h
 ne:B.get? e=none
 fr:h.FunFrames B l
 tr:∃a0 fl,h.TracedAtW B e (.ref C) a0 fl
section
variable{M:Model}{A:Around}{E:Value->Shared->Prop}{s:Shared}{B:Heap}{env env':Env}{outer:List Env}{L e C:Addr}{Q:Unit->Shared->Prop}
theorem Ec(hfr:A.frames=some (env::outer))(hf:env.frame=some L)(x:ES B (env::outer) e C s.heap)
  (hQ:∀h',ES B (env::outer) e C h'->s.heap.UpToSlots h'->Q () {s with heap:=h' }):wpAny M A (noteFrame (.ref e) env) Q E s:=by
 !⟨st,ne,fr,a0,fl,tr⟩:=x
 !⟨oe,vs,T,oT,ts,he,⟨hc,h0⟩,hd,h1,hnT,hTe,hT,hdT,h3⟩:=id tr
 unfold noteFrame
 simp only[hf]
 &wpAny_bind (wpAny_field he hd h1 ?_)
 rw[if_pos (show(Value.ref T != Value.none)=true by simp)]
 &wpAny_bind (wpAny_field hT hdT h3 ?_)
 by_cases hq:(fl==rawInt L)=true
 ·rw[if_pos hq]
  ~wpAny_pure (hQ s.heap ⟨st,ne,fr,a0,fl,tr⟩ (Heap.UpToSlots.refl _))
 ·rw[if_neg hq]
  &wpAny_bind (wpAny_setField hT hdT (Array.getElem?_eq_some_iff.mp h3).1 ?_)
  generalize hg:s.heap.update T (Obj.mapFields fun a=>a.setIfInBounds 3 Value.none)=g
  have oth:∀b,b≠T->g.get? b=s.heap.get? b:=fun b hb=>by rw[<- hg];~Heap.get?_update_other _ _ (Ne.symm hb)
  have nrec:∀b o,s.heap.get? b=some o->(∀ws,o.data≠.fields ws)->b≠T:=fun b o hb hn z=>by
   rw[z,hT] at hb
   cases hb
   ~hn ts hdT
  have stg:B.StaysIn g:=fun b o hb=>(oth b fun z=>by rw[z,hnT] at hb;cases hb).trans (st b o hb)
  have frg:g.FunFrames B (env::outer):=fr.of_keeps fun b o hb hn=>⟨o,(oth b (nrec b o hb hn)).trans hb,rfl⟩
  have heg:g.get? e=some oe:=(oth e (Ne.symm hTe)).trans he
  &wpAny_entryW (s:={s with heap:=g}) hfr frg hf heg stg ne hd (Array.getElem?_eq_some_iff.mp h1).1 h0 fun h' ⟨k1,k2,k3,k4⟩=>?_
  &hQ h' ⟨k1,ne,k2,a0,_,by rw[<- hc];~k3⟩ fun b o hb hn=>k4 b o ((oth b (nrec b o hb hn)).trans hb) hn
theorem zf{fo:Option Addr}(x:ES B outer e C s.heap)(hQ:∀h',ES B outer e C h'->s.heap.UpToSlots h'->Q () {s with heap:=h' }):wpAny M A (setFlight (.ref e) fo) Q E s:=by
 !⟨st,ne,fr,a0,fl,tr⟩:=x
 !⟨oe,vs,T,oT,ts,he,hc,hd,h1,hnT,hTe,hT,hdT,h3⟩:=tr
 have hsz:3<ts.size:=(Array.getElem?_eq_some_iff.mp h3).1
 unfold setFlight
 &wpAny_bind (wpAny_field he hd h1 ?_)
 rw[if_pos (show(Value.ref T != Value.none)=true by simp)]
 &wpAny_setField hT hdT hsz ?_
 generalize fo.elim Value.none (fun f=>rawInt f)=nf
 have oth:∀b,b≠T->(s.heap.update T (Obj.mapFields fun a=>a.setIfInBounds 3 nf)).get? b=s.heap.get? b:=fun b hb=>Heap.get?_update_other _ _ (Ne.symm hb)
 have nrec:∀b o,s.heap.get? b=some o->(∀ws,o.data≠.fields ws)->b≠T:=fun b o hb hn z=>by
  rw[z,hT] at hb
  cases hb
  ~hn ts hdT
 &hQ _ ⟨fun b o hb=>(oth b fun z=>by rw[z,hnT] at hb;cases hb).trans (st b o hb),ne,fr.of_keeps fun b o hb hn=>⟨o,(oth b (nrec b o hb hn)).trans hb,rfl⟩,a0,nf,
  oe,vs,T,_,_,(oth e (Ne.symm hTe)).trans he,hc,hd,h1,hnT,hTe,Heap.get?_update_self _ hT (Obj.isFreed_of_fields (Obj.data_mapFields hdT _)),Obj.data_mapFields hdT _,by simp[hsz]⟩ fun b o hb hn=>⟨o.slots,(oth b (nrec b o hb hn)).trans hb⟩
theorem ES.low(x:ES B (env::outer) e C s.heap):ES B outer e C s.heap:=⟨x.st,x.ne,x.fr.2.2,x.tr⟩
theorem CO(hfr:A.frames=some (env::outer))(hf:env.frame=some L)(x:ES B (env::outer) e C s.heap)
  (hQ:∀h',ES B outer e C h'->s.heap.UpToSlots h'->Q () {s with heap:=h' }):wpAny M A (leaving env (.ref e)) Q E s:=by
 unfold leaving
 &wpAny_bind (Ec hfr hf x fun h1 x1 u1=>zf (s:={s with heap:=h1}) x1 fun h2 x2 u2=>?_)
 ~hQ h2 (ES.low (s:={s with heap:=h2}) x2) (u1.trans u2)
end
def AS(P:Program)(w:World):DS:=fun outer H s E ev s'=>∃e C B H',ev=.ref e/\s'.os=s.os/\AllBare s'.gens/\ES B outer e C s'.heap/\Un (xt outer) [] H H' s.heap s'.heap/\y4 P w H' s'.heap /\
 (∀b o,s.heap.get? b=some o->b∉xt outer->∃o',B.get? b=some o')/\(∀b u,H' b=some u->∃o',B.get? b=some o')/\i6 H H'/\E (.ref C) none H'
structure Rc (X:Cx) (pins:List (Addr×Obj)) (σ:L2.St) (B:Heap) (e C:Addr) (H':Hp) (s':Shared):Prop where
 inv:L2.Inv X pins σ H' s'
 ent:∀b o,X.s₀.heap.get? b=some o->b∉xt X.stack->b∉X.ex->∃o',B.get? b=some o'
 hld:∀b u,H' b=some u->∃o',B.get? b=some o'
 loc:X.env.locals∉xt X.stack->∃o',B.get? X.env.locals=some o'
 pin:∀p∈X.pn++pins,∃o',B.get? p.1=some o'
 exc:ES B X.stack e C s'.heap
def Rk(X:Cx)(e C:Addr)(H':Hp)(s':Shared):Prop:=∃pins σ B,Rc X pins σ B e C H' s'
def XW(X:Cx)(C:Addr)(H':Hp):Prop:=∀e s',Rk X e C H' s'->X.xe (.ref e) s'
def EX(X:Cx):XK:=fun Cv _ H'=>∃C,Cv=.ref C/\XW X C H'
section
variable{X:Cx}{pins:List (Addr×Obj)}{σ:L2.St}{H H':Hp}{s s':Shared}{e C:Addr}
theorem MF {E:XK} (I:L2.Inv X pins σ H s) (h:∃B,s'.os=s.os/\AllBare s'.gens/\ES B X.stack e C s'.heap/\Un (xt X.stack) [] H H' s.heap s'.heap/\y4 X.prog X.w H' s'.heap /\
  (∀b o,s.heap.get? b=some o->b∉xt X.stack->∃o',B.get? b=some o')/\(∀b u,H' b=some u->∃o',B.get? b=some o')):∃B,Rc X pins σ B e C H' s':=by
 !⟨B,os,bare,x,un,hok,c1,c2⟩:=h
 &⟨B,I.call' (ch:=[]) os un hok bare (fun b hb=>absurd hb (by simp)),fun b o hb hn hx=>?_,c2,fun hn=>?_,fun p hp=>?_,x⟩
 ·!⟨o1,e1⟩:=I.base.there b o hb hx
  ~c1 b o1 e1 hn
 ·!⟨m,hm,_⟩:=I.loc
  !⟨o,_,_,ho,_⟩:=id hm
  ~c1 _ o ho hn
 ·!⟨e1,e2,e3,e4,_⟩:=I.pin p hp
  &c1 p.1 p.2 e1 fun hm=>?_
  rcases List.mem_cons.mp (I.stkSub p.1 hm) with z | z
  ·~e3 z
  ·~e4 z
theorem LE:yq (AS X.prog X.w) X (EX X):=fun pins σ H s ev s' I ⟨e,C,B,H',ee,os,bare,x,un,hok,c1,c2,sm,C',eC,w⟩=>by
 subst ee
 cases eC
 !⟨B',xa⟩:=MF (E:=EX X) I ⟨B,os,bare,x,un,hok,c1,c2⟩
 ~w e s' ⟨pins,σ,B',xa⟩
theorem zx{P:Program}{w:World}{B h h':Heap}(hok:y4 P w H' h)(st:B.StaysIn h)(st':B.StaysIn h')(c2:∀b u,H' b=some u->∃o',B.get? b=some o'):y4 P w H' h':=fun a o ha =>
 (hok a o ha).stay (fun b u hb e=>by
  have hH:∃v,H' b=some v:=by
   rcases hb with z | z
   ·~⟨o,z ▸ ha⟩
   ·~⟨_,z⟩
  !⟨v,hv⟩:=hH
  !⟨o',e'⟩:=c2 b v hv
  have:=st b o' e'
  rw[e] at this
  cases this
  ~st' b u e') (fun _ z=>z) (fun _ _ z=>z) (fun _ _ _ z=>z)
theorem AJ{fs ex:List Addr}{H0:Hp}{B h0 h h':Heap}(u:Un fs ex H0 H' h0 h)(st:B.StaysIn h)(st':B.StaysIn h')(up:∀b∈fs,∀o,h.get? b=some o->(∀ws,o.data≠.fields ws)->∃sl,h'.get? b=some {o with slots:=sl})(nf:∀b∈fs,∃o,h.get? b=some o/\∀ws,o.data≠.fields ws)(c:∀b o,h0.get? b=some o->b∉fs->b∉ex->∃o',B.get? b=some o'):Un fs ex H0 H' h0 h':=by
 &⟨fun b o hb n hf hx=>?_,fun b o hb n hf hx=>?_,u.free,fun b o hb hx=>?_,u.tups,u.frzs,u.tbls⟩
 ·!⟨o',e'⟩:=c b o hb hf hx
  have e1:=u.keep b o hb n hf hx
  have e2:=st b o' e'
  rw[e1] at e2
  cases e2
  ~st' b o e'
 ·!⟨sl,e1⟩:=u.slot b o hb n hf hx
  !⟨o1,e2,nd⟩:=nf b hf
  rw[e1] at e2
  cases e2
  !⟨sl2,e3⟩:=up b hf _ e1 nd
  ~⟨sl2,e3⟩
 ·by_cases hf:b∈fs
  ·!⟨o1,e2,nd⟩:=nf b hf
   !⟨sl2,e3⟩:=up b hf _ e2 nd
   ~⟨_,e3⟩
  ·!⟨o',e'⟩:=c b o hb hf hx
   ~⟨o',st' b o' e'⟩
end
section
variable{P:Program}{w:World}{K:W.Frag}{mg:Str->Option Value}{base:Heap}{N:List Str}{qual:Str}{scope:Scope}{f:Addr}{cd:Value}{A:Around}{outer:List Env}{s:Shared}{H H':Hp}{E:XK}{C:Addr}
theorem MM(hE:E (.ref C) none H')(hS:i6 H H'):XW (yi (AS P w) P w K mg base N qual scope f cd A outer s H E) C H':=fun e s' ⟨pins,σ,B,I',c1,c2,_,_,x⟩=>by
 show wpAny (model P w) (A.deeper (envOfC qual scope s.heap.objs.size f cd)) (leaving (envOfC qual scope s.heap.objs.size f cd) (.ref e)) (fun _ s''=>AS P w outer H s E (.ref e) s'') (fun e' s''=>AS P w outer H s E e' s'') s'
 &CO I'.ok.frames rfl x fun h' x' up=>?_
 have hfn:∀b o,s.heap.get? b=some o->b∉xt outer->b∉xt (envOfC qual scope s.heap.objs.size f cd::outer):=fun b o hb hn hm=>by
  have hm':b∈s.heap.objs.size::xt outer:=hm
  rcases List.mem_cons.mp hm' with z | z
  ·rw[z] at hb;~Nat.lt_irrefl _ (Heap.lt_size hb)
  ·~hn z
 have cov:∀b o,s.heap.get? b=some o->b∉xt outer->∃o',B.get? b=some o':=fun b o hb hn=>c1 b o hb (hfn b o hb hn) (by intro z;cases z)
 ~⟨e,C,B,H',rfl,I'.os,I'.bare,x',AJ I'.base x.st x'.st (fun b _ o=>up b o) (fun b hb=>by
   !⟨_,o,ho,nd⟩:=x.fr.mem (List.mem_cons_of_mem _ hb:b∈s.heap.objs.size::xt outer)
   ~⟨o,ho,nd⟩) (fun b o hb hf _=>cov b o hb hf),zx I'.hok x.st x'.st c2,cov,c2,hS,hE⟩
end
section
variable{X:Cx}{pins:List (Addr×Obj)}{σ:L2.St}{H H':Hp}{s s':Shared}{e C:Addr}{B h':Heap}
theorem IS(I:L2.Inv X pins σ H s)(st:B.StaysIn s.heap)(st':B.StaysIn h')(up:∀b∈X.env.locals::X.fs,∀o,s.heap.get? b=some o->(∀ws,o.data≠.fields ws)->∃sl,h'.get? b=some {o with slots:=sl})
  (ent:∀b o,X.s₀.heap.get? b=some o->b∉X.fs->b∉X.ex->∃o',B.get? b=some o') (hld:∀b u,H b=some u->∃o',B.get? b=some o') (pin:∀p∈X.pn++pins,∃o',B.get? p.1=some o')
  (cel:∀x c,X.env.cells.lookup x=some c->∃o',B.get? c=some o'):L2.Inv X pins σ H {s with heap:=h' }:=by
 have same:∀b o,(∃o',B.get? b=some o')->s.heap.get? b=some o->h'.get? b=some o:=fun b o ⟨o',e'⟩ hb=>by
  have:=st b o' e'
  rw[hb] at this
  cases this
  ~st' b o e'
 have nsL:∀m,s.heap.Ns X.env.locals m->h'.Ns X.env.locals m:=fun m hm=>by
  !⟨o,es,ep,ho,hd,r⟩:=hm
  !⟨sl,hs⟩:=up _ List.mem_cons_self o ho fun ws q=>by rw[hd] at q;cases q
  ~⟨_,es,ep,hs,hd,r⟩
 have cellK:∀x c v,X.env.cells.lookup x=some c->s.heap.IsCell c v->h'.IsCell c v:=fun x c v hc ⟨o,ho,hd⟩=>⟨o,same c o (cel x c hc) ho,hd⟩
 !⟨m,hm,hl⟩:=I.loc
 &⟨I.ok,I.os,I.bare,AJ I.base st st' (fun b hb o=>up b (List.mem_cons_of_mem _ hb) o) (fun b hb=>?_) ent,⟨m,nsL m hm,fun i x v h1 h2 h3=>?_⟩,fun x c hc=>?_,I.free,I.freeC,fun p hp=>?_,zx I.hok st st' hld,I.len⟩
 ·!⟨_,o,ho,nd⟩:=I.ok.funs.mem hb
  have hn:=I.ok.frf b hb
  by_cases hx:b∈X.ex
  ·~absurd hb (I.ok.exfs b hx)
  ·!⟨sl,e1⟩:=I.base.any ho hn hx
   ~⟨_,e1,nd⟩
 ·!⟨u,r,lk⟩:=hl i x v h1 h2 h3
  &⟨u,r,?_⟩
  rcases lk with q | ⟨k,c,hc,z⟩
  ·~.inl q
  ·~.inr ⟨k,c,hc,cellK x c _ hc z⟩
 ·!⟨v,z⟩:=I.cell x c hc
  ~⟨v,cellK x c v hc z⟩
 ·!⟨e1,e2,e3,e4,e5⟩:=I.pin p hp
  ~⟨same _ _ (pin p hp) e1,e2,e3,e4,e5⟩
end
end HW
namespace HW
open PySem
abbrev XD:=R->Option (Except Nat D)
abbrev XO:=R->Option (Except Nat Out)
def Fs(k:Nat)(f:R->OD):XO:=fun ρ=>(f ρ).map fun _=>.error k
def CM:LD->OD
 | [.lst es,.bl k]=>(bools es).bind fun bs=>if bs.length<=1000 then some (.int ((bs.countP (·==k):Nat):Int)) else none
 | _=>none
def CI:LD->OD
 | [.lst es,.bl k]=>(bools es).bind fun bs=>if k∈bs/\bs.length<=1000 then some (.int ((bs.idxOf k:Nat):Int)) else none
 | _=>none
def Hl(j a:Nat)(b:Bool):R->OD:=fun ρ=>match c5 j ρ with
 | some (.rf a')=>if a'=a then some (.bl b) else none
 | _=>none
def Mm(n j e:Nat):R:=(List.replicate n none).set j (some (.rf e))
end HW
namespace HW
open PySem PySem.Spec PyProof.Rows L2
abbrev VE:List Value:=[.type "ValueError",.type "Exception",.type "BaseException",.type "object"]
def NM:List Str:=["__init__","__getattribute__","__getattr__","__class__"]
def GO(K:W.Frag)(C:Addr)(bm:List Value)(newId:String):Prop:=
 ∃N nm q bs hdct sn sub ab col dd k0 k1 k2 k3 k5 mN,(∀n∈NM,mN n=none)/\∀h,K.In h->h.get? C=some (excClassObj nm q C N bs bm hdct sn sub ab col dd k0 k1 k2 k3 k5 newId)/\h.Ns N mN
structure EF (K:W.Frag) (C Wz:Addr) (newId nW:String):Prop where
 own:GO K C (.ref Wz::VE) newId
 base:GO K Wz VE nW
theorem EF.tail{K:W.Frag}{C Wz:Addr}{newId nW:String}(T:EF K C Wz newId nW){h:Heap}(x:K.In h):OwnTail h VE (.ref Wz::VE):=by
 !⟨N,nm,q,bs,hdct,sn,sub,ab,col,dd,k0,k1,k2,k3,k5,mN,hq,hh⟩:=T.base
 ~.own (hh h x).1 (hh h x).2 (hq _ (.head _)) .base
def XM(X:Cx)(C:Addr)(H':Hp):Prop:=∀pins σ s e h' vs,L2.Inv X pins σ H' s->Heap.MadeExcOf s.heap h' e (.ref C) vs->X.xe (.ref e) {s with heap:=h' }
def XT(X:Cx)(C:Addr)(H':Hp):Prop:=XW X C H'/\XM X C H'
theorem En{P:Program}{w:World}{H:Hp}{h:Heap}{a:Addr}{o:HO}(x:vv P w H h a o):∃ob,h.get? a=some ob:=by
 cases o with
 | lst xs=>!⟨_,_,_,_,e⟩:=x;~⟨_,e⟩
 | tup xs=>!⟨_,_,_,p⟩:=x;!⟨o,e,_⟩:=p;~⟨_,e⟩
 | dK kvs=>!⟨_,_,_,_,o,_,_,e,_⟩:=x;~⟨_,e⟩
 | dT kvs=>!⟨_,_,_,_,o,_,_,e,_⟩:=x;~⟨_,e⟩
 | set S n=>!⟨o,_,_,_,e,_⟩:=x;~⟨_,e⟩
 | ins C dx fs=>!⟨_,_,_,e,_⟩:=x;~⟨_,e⟩
 | own y=>!⟨_,e⟩:=x;~⟨_,e⟩
 | xd fs=>!⟨_,⟨_,_,_,e,_⟩,_⟩:=x;~⟨_,e⟩
 | rng lo hi=>!⟨_,_,_,e⟩:=x;~⟨_,e⟩
 | frz ob u=>!⟨e,_⟩:=x;~⟨_,e⟩
 | tbl q c =>
  cases c with
  | true=>!⟨_,o,_,_,e,g,_⟩:=(show h.CodeRec (.ref a) q from x);cases e;~⟨_,g⟩
  | false=>!⟨_,e,_⟩:=x;~⟨_,e⟩
 | met f y=>~⟨_,(show h.get? a=some _ from x)⟩
 | ext φ=>!⟨_,⟨_,e⟩,_⟩:=x;~⟨_,e⟩
section
variable{P:Program}{w:World}{K:W.Frag}{mg:Str->Option Value}{base:Heap}{N:List Str}{qual:Str}{scope:Scope}{f:Addr}{cd:Value}{A:Around}{outer:List Env}{s:Shared}{H H':Hp}{E:XK}{C:Addr}
theorem Mg(hE:E (.ref C) none H')(hS:i6 H H'):XM (yi (AS P w) P w K mg base N qual scope f cd A outer s H E) C H':=fun pins σ s1 e h1 vs I hm=>by
 show wpAny (model P w) (A.deeper (envOfC qual scope s.heap.objs.size f cd)) (leaving (envOfC qual scope s.heap.objs.size f cd) (.ref e)) (fun _ s''=>AS P w outer H s E (.ref e) s'') (fun e' s''=>AS P w outer H s E e' s'') {s1 with heap:=h1}
 generalize hl:xt (envOfC qual scope s.heap.objs.size f cd::outer)=l
 have hin:∀env∈(envOfC qual scope s.heap.objs.size f cd::outer),∀b,env.frame=some b->b∈l:=fun env he b hb=>by rw[<- hl];~List.mem_filterMap.mpr ⟨env,he,hb⟩
 have stB:(W.hideAll s1.heap l).StaysIn s1.heap:=fun b o q=>W.of_hideAll _ q
 &wpAny_leaves_madeW (s:={s1 with heap:=h1}) (base:=W.hideAll s1.heap l) (h:=s1.heap) I.ok.frames rfl stB (W.funFrames_hide I.stack hin) hm fun h' t fl _ _ up=>?_
 !⟨f1,f2,f3,f4⟩:=fl
 have cov:∀b o,s.heap.get? b=some o->b∉xt outer->∃o',(W.hideAll s1.heap l).get? b=some o':=fun b o hb hn=>by
  !⟨o1,e1⟩:=I.base.there b o hb (by intro z;cases z)
  &⟨o1,W.hideAll_get _ e1 fun z=>?_⟩
  rw[<- hl] at z
  have z':b∈s.heap.objs.size::xt outer:=z
  rcases List.mem_cons.mp z' with q | q
  ·rw[q] at hb;~Nat.lt_irrefl _ (Heap.lt_size hb)
  ·~hn q
 have c2:∀b u,H' b=some u->∃o',(W.hideAll s1.heap l).get? b=some o':=fun b u hb=>by
  !⟨ob,e1⟩:=En (I.hok b u hb)
  &⟨ob,W.hideAll_get _ e1 fun z=>?_⟩
  rw[<- hl] at z
  rw[I.stkFree b z] at hb
  cases hb
 ~⟨e,C,_,H',rfl,I.os,I.bare,⟨f1,f2,f3,_,_,f4.at⟩,AJ I.base stB f1 (fun b _ o=>(Heap.UpToSlots.of_keeps hm.keeps).trans up b o) (fun b hb=>by
   !⟨_,o,ho,nd⟩:=I.stack.mem (List.mem_cons_of_mem _ hb:b∈s.heap.objs.size::xt outer)
   ~⟨o,ho,nd⟩) (fun b o hb hf _=>cov b o hb hf),zx I.hok stB f1 c2,cov,c2,hS,hE⟩
theorem L5(hE:E (.ref C) none H')(hS:i6 H H'):XT (yi (AS P w) P w K mg base N qual scope f cd A outer s H E) C H':=⟨MM hE hS,Mg hE hS⟩
end
section
variable(cl:Nat->Addr)
def Rt(X:Cx)(g:XO):TS:=fun E σ H=>∃ ρ τ r,uq X.K H ρ τ σ/\g ρ=some r/\match r with
 | .ok o=>∀H',i6 H H'->fin X.K E τ o H'
 | .error c=>∀H',i6 H H'->XT X (cl c) H'
def Rj(K:W.Frag)(F:LD->Option (Except Nat D)):Sp:=fun vs H Q E=>∃ds r,i5 K H ds vs/\F ds=some r/\match r with
 | .ok d=>∀v H',i6 H H'->Rep K H' d v->Q v H'
 | .error c=>∀H',i6 H H'->E (.ref (cl c)) none H'
def QQ(X:Cx)(s:Stmt)(g:XO):Prop:=PS X s (Rt cl X g)
end
section
variable{X:Cx}{cl:Nat->Addr}{e:Expr}{es:List Expr}{st:Stmt}{sts:List Stmt}{pos p:Pos}{f:R->OD}{fx:XD}{g:XO}{u:R->Option Out}
structure GX (P:Program) (w:World) (K:W.Frag) (mg:Str->Option Value) (base:Heap) (cl:Nat->Addr) (k:Nat) (x:Str) (ps:List Str) (F:LD->Option (Except Nat D)):Prop where
 ex:∃f fd,k6 P w K mg base (AS P w) k f fd ps (Rj cl K F)/\mg x=some (.ref f)/\W.keepIn K (.ref f)=true/\Binds K fd ps []
theorem GX.mono{P:Program}{w:World}{K:W.Frag}{mg:Str->Option Value}{base:Heap}{j k:Nat}{x:Str}{ps:List Str}{F:LD->Option (Except Nat D)}(h:GX P w K mg base cl j x ps F)(hk:j<=k):GX P w K mg base cl k x ps F:=by
 !⟨f,fd,a,b⟩:=h.ex
 ~⟨f,fd,a.mono hk,b⟩
theorem GX.m{P:Program}{w:World}{K:W.Frag}{mg:Str->Option Value}{base:Heap}{j k:Nat}{x:Str}{ps:List Str}{F:LD->Option (Except Nat D)}(h:GX P w K mg base cl j x ps F)(hk:j<=k:=by decide):GX P w K mg base cl k x ps F:=h.mono hk
theorem H8{c:Nat}{x:Str}{Wz:Addr}{newId nW Bn inN:String}{bmN:List Value}{np cpos:Pos}(T:EF X.K (cl c) Wz newId nW)(Fn:ExcBaseFacts Bn newId inN bmN)(hBn:VE.contains (.type Bn)=true)(hc:X.calm=true)(hm:X.mg x=some (.ref (cl c)))(ha:SE X e f)
  (hg:Gl X x:=by rfl) (hd:(x==("__debug__" : Str))=false:=by decide) (hst:noStar e=true:=by rfl):QQ cl X (.Raise (some (.Call (.Name x np) [e] [] cpos)) none pos) (Fs c f):=by
 intro pins s σ H D I ⟨ρ,τ,r,er,e1,q⟩
 !⟨d,e2,e3⟩:=t7 e1
 subst e3
 !⟨N,nm,qq,bs,hdct,sn,sub,ab,col,dd,k0,k1,k2,k3,k5,mN,hq,hh⟩:=T.own
 have tl:=T.tail I.kIn
 have hst1:=aF [] X.env hst
 &wpAny_Raise_call_subU (C:=cl c) (nm:=nm) (q:=qq) (N:=N) (bs:=bs) (bm:=.ref Wz::VE) (hdct:=hdct) (sn:=sn) (sub:=sub) (ab:=ab) (col:=col) (dd:=dd) (k0:=k0) (k1:=k1) (k2:=k2) (k3:=k3) (k5:=k5) (newId:=newId) (bmB:=VE)
  Fn hBn F.excBase_ValueError (mN:=mN) (tl.hasType F.excBase_ValueError.hasBase) (I.ok.hd hc) (by rw[hst1];rfl) (hq _ (.head _)) (eE I hg hm ⟨rfl,?_⟩ hd)
 have hA:=(ac ha af hst).1 cpos pins s σ H (fun vs H2=>i6 H H2/\i5 X.K H2 [d] vs) I ⟨ρ,[d],er.1,by show(f ρ).bind _=_;rw[e2];rfl,fun vs H2 s2 r2=>⟨s2,r2⟩⟩
 rw[hst1] at hA ⊢
 &Calls.evalArgs_plain (uo hA fun us s2 ⟨vs,H2,I2,r2,s12,rd⟩=>?_)
 have x2:=I2.kIn
 &⟨rfl,?_,(hh _ x2).1,(hh _ x2).2,T.tail x2,fun h' e' hme=>(q H2 s12).2 pins σ s2 e' h' us I2 hme⟩
 ·show us.length<=sizeLine
  rw[<- r2.length,<- rd.length]
  ~Nat.le_trans (show 1<=1000 by decide) (by decide)
end
structure wk where
 c:Addr
 P:Addr
 q:Str
def DB(ts:List wk)(b:Addr):Option HO:=(ts.find? fun t=>t.P==b).map fun t=>.tbl t.q false
theorem AF{ts:List wk}{b:Addr}{u:HO}(h:DB ts b=some u):∃t∈ts,t.P=b/\u=.tbl t.q false:=by
 unfold DB at h
 cases e:ts.find? fun t=>t.P==b with
 | none=>rw[e] at h;cases h
 | some t =>
  rw[e] at h
  cases h
  ~⟨t,List.mem_of_find?_eq_some e,by simpa using List.find?_some e,rfl⟩
def Gp(ts:List wk)(a:Addr)(H:Hp):Prop:=∀b,(b≠a/\H b=DB ts b)\/(b=a/\(H b=none\/∃o xs,H b=some (.frz o (.lst xs))))
structure vS (mg:Str->Option Value) (ts:List wk) (base:Heap):Prop where
 code:∀t∈ts,W.CodeHd base t.c t.P
 bm:∃bm o,mg "__builtins__" = some (.ref bm)/\bm≠builtinsNs/\bm≠mainGlobals/\base.get? bm=some o/\o.cls=.type "module" /\ o.dict=some builtinsNs/\o.data=.plain
theorem GR{P:Program}{w:World}{K:W.Frag}{mg mb:Str->Option Value}{CX:DS}{k:Nat}{fa a:Addr}{fd:FuncData}{x:Str}{sp:Sp}{s₁:Shared}{vs:List Value}{ns:List Int}{ts:List wk}
  (KX:K.In s₁.heap) (hns:s₁.heap.Ns mainGlobals mg) (hb:s₁.heap.Ns builtinsNs mb) (hbb:∀x:Str,x ≠ "__name__" -> mb x=bootBuiltins x) (hlim:s₁.heap.NoLimit) (hg:s₁.gens=#[])
  (ha:s₁.heap.get? a=some {cls:=.type "list",data:=.seq vs.toArray}) (hi:IntsAre vs ns) (hl:ns.length<=sizeLine) (hr:ua k callerA)
  (hT:∀t∈ts,W.CodeHd s₁.heap t.c t.P/\s₁.heap.get? t.P=some (W.tabObj #[])) (hK:∀t∈ts,K.lookup t.P=none)
  (hbm:∃bm o,mg "__builtins__" = some (.ref bm)/\bm≠builtinsNs/\bm≠mainGlobals/\s₁.heap.get? bm=some o/\o.cls=.type "module" /\ o.dict=some builtinsNs/\o.data=.plain)
  (F:∀base:Heap,K.In base->base.Ns mainGlobals mg->vS mg ts base->k6 P w K mg base CX k fa fd [x] sp) (hbind:∀(s:Shared) (u:Value),BindsTo s fd ⟨[u],[]⟩ [(x,u)])
  (hsp:∀H:Hp,Gp ts a H->(∀t∈ts,t.P≠a)->wj K H a (ns.map V.int)->sp [.ref a] H (fun v _=>v=.bl true) fun _ _ _=>False)
  (hCX:∀H e s',CX [] H s₁ (fun _ _ _=>False) e s'->False) :
  codeAny (model P w) callerA (.call (.ref fa) ⟨[.ref a],[]⟩) (fun r s'=>r=.ok (.ret (.bool true))/\OldK s₁.heap s'.heap/\s'.os=s₁.os/\AllBare s'.gens) s₁:=by
 have rv:=L2.vals_ints hi
 have lenV:=hi.length
 have aP:∀t∈ts,t.P≠a:=fun t ht z=>by
  have e:=(hT t ht).2
  rw[z,ha] at e;cases e
 have tabOk:∀(H:Hp) {b:Addr} {u:HO},DB ts b=some u->vv P w H s₁.heap b u:=fun H {b u} h=>by
  !⟨t,ht,rfl,rfl⟩:=AF h
  ~⟨#[],(hT t ht).2,trivial,fun pos cv hc=>by cases hc⟩
 have core:∀H:Hp,Gp ts a H->wj K H a (ns.map V.int)->y4 P w H s₁.heap->(H a≠none->K.lookup a=none) ->
   codeAny (model P w) callerA (.call (.ref fa) ⟨[.ref a],[]⟩) (fun r s'=>r=.ok (.ret (.bool true))/\OldK s₁.heap s'.heap/\s'.os=s₁.os/\AllBare s'.gens) s₁:=by
  intro H hO hS hok hKa
  have what:∀{b:Addr} {u:HO},H b=some u->(b=a)\/∃t∈ts,t.P=b/\u=.tbl t.q false:=fun {b u} e=>by
   rcases hO b with ⟨_,z⟩ | ⟨z,_⟩
   ·rw[e] at z;~.inr (AF z.symm)
   ·~.inl z
  have base_of:∀{b:Addr} {o:Obj},s₁.heap.get? b=some o->H b=none->(zk s₁.heap H).get? b=some o:=fun e n=>Es e n
  have free:∀{b:Addr} {o:Obj},s₁.heap.get? b=some o->(∀(its:Array Value) n,o.data≠.seq its n)->(o.cls≠.none)->H b=none:=fun {b o} e h1 h2=>by
   cases q:H b with
   | none=>rfl
   | some u =>
    rcases what q with z | ⟨t,ht,z,_⟩
    ·rw[z,ha] at e;cases e;~absurd rfl (h1 _ _)
    ·rw[<- z,(hT t ht).2] at e;cases e;~absurd rfl h2
  have noA:∀{b:Addr} {o:Obj} {es:Array DictEntry} {ep:Nat},s₁.heap.get? b=some o->o.data=.dict es ep->H b=none:=fun {b o es ep} e d=>by
   cases q:H b with
   | none=>rfl
   | some u =>
    rcases what q with z | ⟨t,ht,z,_⟩
    ·rw[z,ha] at e;cases e;cases (show Data.seq vs.toArray _=Data.dict es ep from d)
    ·rw[<- z,(hT t ht).2] at e;cases e;cases d
  have nsK:∀{b:Addr} {m:Str->Option Value},s₁.heap.Ns b m->(zk s₁.heap H).Ns b m:=fun {b m} ⟨o,es,ep,e,d,r⟩=>⟨o,es,ep,base_of e (noA e d),d,r⟩
  have hKb:K.In (zk s₁.heap H):=fun b o e=>base_of (KX b o e) (by
   cases q:H b with
   | none=>rfl
   | some u =>
    rcases what q with z | ⟨t,ht,z,_⟩
    ·subst z;rw[hKa (by rw[q];simp)] at e;cases e
    ·rw[<- z,hK t ht] at e;cases e)
  have hM:Mod K mg (zk s₁.heap H):=⟨hKb,nsK hns,⟨mb,nsK hb,hbb⟩,let ⟨mc,h1,h2⟩:=hlim;⟨mc,nsK h1,h2⟩⟩
  have hTB:vS mg ts (zk s₁.heap H):=by
   &⟨fun t ht=>?_,?_⟩
   ·!⟨o,vs',file,tf,flags,tg,inF,text,tt,e,ec,ed,r⟩:=(hT t ht).1
    ~⟨o,vs',file,tf,flags,tg,inF,text,tt,base_of e (free e (fun its n z=>by rw[ed] at z;cases z) (by rw[ec];simp)),ec,ed,r⟩
   ·!⟨bm,o,b1,b2,b3,b4,b5,b6,b7⟩:=hbm
    ~⟨bm,o,b1,b2,b3,base_of b4 (free b4 (fun its n z=>by rw[b7] at z;cases z) (by rw[b5];simp)),b5,b6,b7⟩
  have e0:Aa P w K mg (zk s₁.heap H) callerA [] s₁ H:=⟨rfl,hM,fun b o e=>Gv e,Nat.le_of_eq (Cd _ _),trivial,fun b hb=>absurd (show b∈([]:List Addr) from hb) (by simp),hok,.of_eq hg⟩
  &codeAny_mono ((F _ hKb (nsK hns) hTB).run callerA [] s₁ H ⟨[.ref a],[]⟩ [.ref a] [.ref a] _ _ hr e0 (hbind s₁ (.ref a)) (.cons rfl .nil) (hsp H hO aP hS)) fun r s' h=>?_
  cases r with
  | error e=>~(hCX H e s' h).elim
  | ok fl =>
   cases fl with
   | next=>~False.elim h
   | brk=>~False.elim h
   | cont=>~False.elim h
   | ret u =>
    !⟨v,H',os,bare,un,hok',r',q⟩:=h
    have q':v=.bl true:=q
    subst q'
    obtain rfl:u=Value.bool true:=r'
    have tab:∀{b:Addr} {o:Obj},s₁.heap.get? b=some o->(s'.heap.get? b=some o)\/∃t∈ts,t.P=b/\o=W.tabObj #[]/\∃ps,s'.heap.get? b=some (W.tabObj ps):=fun {b o} e=>by
     cases qb:H b with
     | none=>~.inl (un.keep b o e qb (by intro z;~absurd (show b∈([]:List Addr) from z) (by simp)) (by simp))
     | some u =>
      rcases hO b with ⟨_,z⟩ | ⟨_,z⟩
      ·rw[qb] at z
       !⟨t,ht,zP,rfl⟩:=AF z.symm
       have z2:=un.tbls b _ _ qb
       !⟨ps,g,_⟩:=(show vv P w H' s'.heap b (.tbl t.q false) from hok' b _ z2)
       have e2:=(hT t ht).2
       rw[zP,e] at e2
       ~.inr ⟨t,ht,zP,Option.some.inj e2,ps,g⟩
      ·rcases z with z | ⟨ob,xs,z⟩
       ·rw[qb] at z;cases z
       ·have z2:=un.frzs b ob _ (fun y q=>by cases q) z
        !⟨e1,_⟩:=hok b _ z
        !⟨e2,_⟩:=hok' b _ z2
        rw[e] at e1;cases e1
        ~.inl e2
    &⟨rfl,⟨fun b o e=>?_,fun b o e=>?_⟩,os,bare⟩
    ·rcases tab e with z | ⟨t,ht,rfl,rfl,ps,g⟩
     ·~.inl z
     ·~.inr (.inl ⟨((hT t ht).1.tab (hT t ht).2).isCodeTable,rfl,#[],ps,rfl,by rw[Array.empty_append];~g⟩)
    ·rcases tab e with z | ⟨t,ht,rfl,rfl,ps,g⟩
     ·~⟨_,z⟩
     ·~⟨_,g⟩
 cases hk:K.lookup a with
 | some o =>
  have e:=KX a o hk
  rw[ha] at e
  cases e
  have hn:DB ts a=none:=by
   cases q:DB ts a with
   | none=>rfl
   | some u=>!⟨t,ht,z,_⟩:=AF q;~absurd z (aP t ht)
  &core (DB ts) (fun b=>?_) (.inr ⟨_,vs.toArray,_,hk,rfl,rfl,rfl,by rw[List.size_toArray,lenV];~hl,by simpa using rv⟩) (fun b u z=>tabOk _ z) fun z=>absurd hn z
  by_cases hb:b=a
  ·~.inr ⟨hb,.inl (by rw[hb];~hn)⟩
  ·~.inl ⟨hb,rfl⟩
 | none =>
  &core (fun b=>if b=a then some (.frz {cls:=.type "list",data:=.seq vs.toArray} (.lst (ns.map V.int))) else DB ts b) (fun b=>?_) (.inl (.inr ⟨{cls:=.type "list",data:=.seq vs.toArray},if_pos rfl⟩)) (fun b u z=>?_) fun _=>hk
  ·by_cases hb:b=a
   ·~.inr ⟨hb,.inr ⟨_,_,if_pos hb⟩⟩
   ·~.inl ⟨hb,if_neg hb⟩
  ·by_cases hb:b=a
   ·have z':=(if_pos hb).symm.trans z
    cases z'
    subst hb
    ~⟨ha,by rw[List.length_map];~hl,vs,_,rv,ha⟩
   ·~tabOk _ ((if_neg hb).symm.trans z)
theorem zT{i j:Int}{t u:Tok}{c:Value}:∀{l:List Value},TriplesOk l->TriplesOk (l++[.int i t,.int j u,c])
 | [],_=>trivial
 | .int _ _::.int _ _::_::rest,h=>zT (l:=rest) h
theorem Bj{pos:Pos}{i j:Int}{t u:Tok}{c cv:Value}:∀{l:List Value},TriplesOk l->codeAmong pos (l++[.int i t,.int j u,c])=some cv->codeAmong pos l=some cv\/cv=c
 | [],_,h=>by
  have h':(if (i==pos.line&&j==pos.col)=true then some c else codeAmong pos [])=some cv:=h
  split at h'
  ·cases h';~.inr rfl
  ·cases h'
 | .int a ta::.int b tb::d::rest,hl,h=>by
  have h':(if (a==pos.line&&b==pos.col)=true then some d else codeAmong pos (rest++[.int i t,.int j u,c]))=some cv:=h
  show(if (a==pos.line&&b==pos.col)=true then some d else codeAmong pos rest)=some cv\/_
  split at h'
  ·rename_i z;rw[if_pos z];~.inl h'
  ·rename_i z;rw[if_neg z];~Bj (l:=rest) hl h'
section
variable{X:Cx}{pins:List (Addr×Obj)}{σ:L2.St}{H:Hp}{s:Shared}
abbrev xD(o:Obj):HO:=.frz o (.ext fun _=>True)
theorem Ii{t:wk}{ts:List wk}{name:Str}{params:Arguments}{body:Expr}{scope:Scope}{clos:List (Str×Addr)}{pos:Pos}{line:Nat}(I:L2.Inv X pins σ H s)(TB:vS X.mg ts X.base)(ht:t∈ts)(hP:H t.P=some (.tbl t.q false))(hcode:X.env.code=.ref t.c)
  (hcl:closureFor scope X.env=pure clos):wpAny (model X.prog X.w) X.A (makeFunction name t.q params (.expr body) scope X.env [] [] [] pos line)
   (fun v s'=>∃f c' ctv pm H',v=.ref f/\L2.Inv X pins σ H' s'/\i6 H H'/\H f=none/\H' f=some (xD (W.kla_obj name t.q params body scope clos pm c' ctv))/\H' c'=some (.tbl t.q true)) X.xe s:=by
 !⟨tv,eP,tr,ent⟩:=(show vv X.prog X.w H s.heap t.P (.tbl t.q false) from I.hok _ _ hP)
 have hg:s.heap.Ns mainGlobals X.mg:=I.mod.glob.keeps I.bk
 have C:W.CodeHd s.heap t.c t.P:=(TB.code t ht).keeps I.bk
 have nbase:∀{b:Addr} {o:Obj},X.base.get? b=some o->b≠t.P:=fun e z=>by
  have:=(I.bs _ _ e).2
  rw[z,hP] at this;cases this
 have hgP:mainGlobals≠t.P:=by
  !⟨o,_,_,e,_⟩:=I.mod.glob
  ~nbase e
 have hb:s.heap.BuiltinsAt X.mg t.P:=by
  !⟨bm,o,b1,b2,b3,b4,b5⟩:=TB.bm
  ~⟨bm,o,b1,b2,b3,nbase b4,I.bk _ _ b4,b5⟩
 cases hc:codeAmong pos tv.toList with
 | none =>
  &W.kla_makeFunction hcl I.ok.glob hg hcode C eP tr hc hgP hb fun c' ctv h' tk hx hge hlt hrec htb=>?_
  have hcs:∀{b:Addr} {u:HO},H b=some u->b≠c'/\b≠h'.objs.size:=fun e=>by
   have q:=I.hok.lt e
   ~⟨Nat.ne_of_lt (Nat.lt_of_lt_of_le q hge),Nat.ne_of_lt (Nat.lt_of_lt_of_le q (Nat.le_trans hge (Nat.le_of_lt hlt)))⟩
  have hF:H h'.objs.size=none:=I.hok.fresh (Nat.le_trans hge (Nat.le_of_lt hlt))
  have hCn:H c'=none:=I.hok.fresh hge
  &⟨h'.objs.size,c',ctv,_,upd (upd H c' (.tbl t.q true)) h'.objs.size (xD (W.kla_obj name t.q params body scope clos ((X.mg "__name__").getD .none) c' ctv)),rfl,?_,fun b u e=>?_,hF,au,?_⟩
  ·have kp:∀b o,b≠t.P->s.heap.get? b=some o->(h'.push (W.kla_obj name t.q params body scope clos ((X.mg "__name__").getD .none) c' ctv)).get? b=some o:=fun b o nb e=>Heap.get?_push_of_some _ (hx b o nb e)
   have nP:∀{b:Addr},H b=none->b≠t.P:=fun e z=>by rw[z,hP] at e;cases e
   have st:∀{b:Addr} {u:HO},H b=some u->upd (upd H c' (.tbl t.q true)) h'.objs.size (xD (W.kla_obj name t.q params body scope clos ((X.mg "__name__").getD .none) c' ctv)) b=some u:=fun e=>by rw[aq (hcs e).2,aq (hcs e).1];~e
   &I.un ⟨fun b o e n _ _=>kp b o (nP n) e,fun b o e n _ _=>⟨o.slots,kp b o (nP n) e⟩,fun b o e n _=>?_,fun b o e _=>?_,fun b xs e=>st e,fun b o u _ e=>st e,fun b q d e=>st e⟩ fun b u e=>?_
   ·have q:=Heap.lt_size e
    rw[aq (Nat.ne_of_lt (Nat.lt_of_lt_of_le q (Nat.le_trans hge (Nat.le_of_lt hlt)))),aq (Nat.ne_of_lt (Nat.lt_of_lt_of_le q hge))];~n
   ·by_cases hb:b=t.P
    ·~⟨_,by rw[hb];~Heap.get?_push_of_some _ htb⟩
    ·~⟨o,kp b o hb e⟩
   ·by_cases hbf:b=h'.objs.size
    ·subst hbf
     rw[au] at e
     cases e
     ~⟨Heap.get?_push_size _ rfl,trivial,⟨_,Heap.get?_push_size _ rfl⟩,fun _ _ _ _=>trivial⟩
    ·rw[aq hbf] at e
     by_cases hbc:b=c'
     ·subst hbc
      rw[au] at e
      cases e
      ~hrec.push _
     ·rw[aq hbc] at e
      by_cases hbP:b=t.P
      ·subst hbP
       rw[hP] at e
       cases e
       &⟨_,Heap.get?_push_of_some _ htb,by rw[Array.toList_append];~zT tr,fun pos' cv hcv=>?_⟩
       rw[Array.toList_append] at hcv
       rcases Bj tr hcv with z | z
       ·!⟨c2,e1,e2⟩:=ent pos' cv z
        ~⟨c2,e1,st e2⟩
       ·~⟨c',z,by rw[aq (Nat.ne_of_lt hlt),au]⟩
      ·&(I.hok b u e).stay (fun c v hcb r=>kp c v (fun z=>?_) r) (fun c r=>st r) (fun c xs r=>st r) fun c q d r=>st r
       rcases hcb with rfl | hcb
       ·~hbP z
       ·rw[z,hP] at hcb;cases hcb
  ·rw[aq (hcs e).2,aq (hcs e).1];~e
  ·rw[aq (Nat.ne_of_lt hlt),au]
 | some cv =>
  !⟨c',rfl,hcC⟩:=ent pos cv hc
  &W.kla_makeFunctionHit hcl I.ok.glob hg hcode C eP tr hc hb fun ctv h' tk hk hsz=>?_
  have hcs:∀{b:Addr} {u:HO},H b=some u->b≠h'.objs.size:=fun e=>by
   ~Nat.ne_of_lt (Nat.lt_of_lt_of_le (I.hok.lt e) hsz)
  have hF:H h'.objs.size=none:=I.hok.fresh hsz
  &⟨h'.objs.size,c',ctv,_,upd H h'.objs.size (xD (W.kla_obj name t.q params body scope clos ((X.mg "__name__").getD .none) c' ctv)),rfl,?_,fun b u e=>?_,hF,au,?_⟩
  ·have kp:∀b o,s.heap.get? b=some o->(h'.push (W.kla_obj name t.q params body scope clos ((X.mg "__name__").getD .none) c' ctv)).get? b=some o:=fun b o e=>Heap.get?_push_of_some _ (hk b o e)
   have st:∀{b:Addr} {u:HO},H b=some u->upd H h'.objs.size (xD (W.kla_obj name t.q params body scope clos ((X.mg "__name__").getD .none) c' ctv)) b=some u:=fun e=>by rw[aq (hcs e)];~e
   &I.un ⟨fun b o e n _ _=>kp b o e,fun b o e n _ _=>⟨o.slots,kp b o e⟩,fun b o e n _=>?_,fun b o e _=>⟨o,kp b o e⟩,fun b xs e=>st e,fun b o u _ e=>st e,fun b q d e=>st e⟩ fun b u e=>?_
   ·rw[aq (Nat.ne_of_lt (Nat.lt_of_lt_of_le (Heap.lt_size e) hsz))];~n
   ·by_cases hbf:b=h'.objs.size
    ·subst hbf
     rw[au] at e
     cases e
     ~⟨Heap.get?_push_size _ rfl,trivial,⟨_,Heap.get?_push_size _ rfl⟩,fun _ _ _ _=>trivial⟩
    ·rw[aq hbf] at e
     ~(I.hok b u e).stay (fun c v _ r=>kp c v r) (fun c r=>st r) (fun c xs r=>st r) fun c q d r=>st r
  ·rw[aq (hcs e)];~e
  ·rw[aq (hcs hcC)];~hcC
end
theorem wm{α:Type}:∀{l:List (Str×α)} {x:Str} {u:α},(l.map (·.1)).Nodup->(x,u)∈l->l.lookup x=some u
 | (y,v)::l,x,u,nd,h=>by
  rw[List.map_cons,List.nodup_cons] at nd
  rw[List.lookup_cons]
  rcases List.mem_cons.mp h with e | h
  ·cases e;simp
  ·have hn:(x==y)=false:=beq_eq_false_iff_ne.mpr fun z=>nd.1 (List.mem_map.mpr ⟨(x,u),h,z⟩)
   rw[hn]
   ~wm nd.2 h
def uG(cl:List (Str×Addr))(b:Addr):Bool:=cl.any fun p=>p.2==b
def u9(cl:List (Str×Addr))(H:Hp):Hp:=fun b=>if uG cl b then none else H b
def wO(cl:List (Str×Addr))(H H2:Hp):Hp:=fun b=>if uG cl b then H b else H2 b
theorem Fj{cl:List (Str×Addr)}{x:Str}{c:Addr}(h:cl.lookup x=some c):uG cl c=true:=List.any_eq_true.mpr ⟨(x,c),PySem.mem_of_lookup h,by simp⟩
structure ww (N ps:List Str) (sc:Scope) (cl:List (Str×Addr)):Prop where
 kind:sc.kind=.function
 co:sc.isCoroutine=false
 gen:sc.isGenerator=false
 nd:N.Nodup
 pre:N.take ps.length=ps
 par:∀x∈ps,sc.names.lookup x=some .local
 nocell:∀y∈sc.names,y.2≠.cell
 fre:∀x∈N.drop ps.length,sc.names.lookup x=some .free
 has:∀x,sc.names.lookup x=some .free->∃c,cl.lookup x=some c
 ndc:(cl.map (·.1)).Nodup
 inj:∀x y c,cl.lookup x=some c->cl.lookup y=some c->x=y
def zj(H:Hp)(N ps:List Str)(cl:List (Str×Addr))(caps:List V):Prop:=
 caps.length=N.length - ps.length/\(∀b,uG cl b=true->∃o u,H b=some (xD o)/\o.data=.cell (some u))/\∀(i:Nat) (x:Str) (v:V),(N.drop ps.length)[i]?=some x->caps[i]?=some v->∃c o u,cl.lookup x=some c/\H c=some (xD o)/\o.data=.cell (some u)/\RelV v u
theorem zj.to{H H':Hp}{N ps:List Str}{cl:List (Str×Addr)}{caps:List V}(h:zj H N ps cl caps)(s:∀b o,H b=some (xD o)->H' b=some (xD o)):zj H' N ps cl caps:=by
 !⟨h1,h2,h3⟩:=h
 &⟨h1,fun b hb=>?_,fun i x v q1 q2=>?_⟩
 ·!⟨o,u,e,d⟩:=h2 b hb
  ~⟨o,u,s b o e,d⟩
 ·!⟨c,o,u,e1,e2,r⟩:=h3 i x v q1 q2
  ~⟨c,o,u,e1,s c o e2,r⟩
noncomputable def Br(CX:DS)(P:Program)(w:World)(K:W.Frag)(mg:Str->Option Value)(base:Heap)(N:List Str)(qual:Str)(scope:Scope)(cl:List (Str×Addr))(f:Addr)(cd:Value)(A:Around)(outer:List Env)(s:Shared)(H:Hp)(E:XK):Cx where
 prog:=P
 w:=w
 K:=K
 mg:=mg
 base:=base
 A:=A.deeper (W.envX qual scope s.heap.objs.size f cd cl)
 N:=N
 s₀:=s
 H₀:=u9 cl H
 env:=W.envX qual scope s.heap.objs.size f cd cl
 outer:=outer
 stack:=W.envX qual scope s.heap.objs.size f cd cl::outer
 ex:=[]
 calm:=true
 fn:=fun _=>false
 pn:=[]
 xe:=fun e s'=>wpAny (model P w) (A.deeper (W.envX qual scope s.heap.objs.size f cd cl)) (leaving (W.envX qual scope s.heap.objs.size f cd cl) e) (fun _ s''=>CX outer H s E e s'') (fun e' s''=>CX outer H s E e' s'') s'
theorem MW {CX:DS} {P:Program} {w:World} {K:W.Frag} {mg:Str->Option Value} {base:Heap} {k:Nat} {f c':Addr} {name qual:Str} {params:Arguments} {body:Expr} {scope:Scope} {cl:List (Str×Addr)} {pm ctv:Value} {N ps:List Str} {sp:Sp}
    (S:ww N ps scope cl) (len:∀vs H Q E,sp vs H Q E->vs.length=ps.length)
    (pre:∀vs H Q E,sp vs H Q E->H f=some (xD (W.kla_obj name qual params body scope cl pm c' ctv))/\H c'=some (.tbl qual true))
    (hbody:∀(A:Around) (outer:List Env) (s:Shared) (H:Hp) (vs:List V) (Q:VK) (E:XK),ua k (A.deeper (W.envX qual scope s.heap.objs.size f (.ref c') cl))->Aa P w K mg base A outer s H->sp vs H Q E ->
      ∃caps t,zj H N ps cl caps/\PE (Br CX P w K mg base N qual scope cl f (.ref c') A outer s H E) body t/\t ((vs++caps).map some) (u9 cl H) fun v H2=>(∀b u,H2 b=some u->wO cl H H2 b=some u)->Q v (wO cl H H2)) :
    k6 P w K mg base CX (k+1) f (W.kla_fn name qual params body scope cl pm (.ref c') ctv) ps sp:=by
  &⟨len,fun A outer s H args us vs Q E hr e0 hb r hsp=>?_⟩
  have hl:=len _ _ _ _ hsp
  !⟨hf,hc'⟩:=pre _ _ _ _ hsp
  !⟨caps,t,⟨cl1,cl2,cl3⟩,ht,hq⟩:=hbody A outer s H vs Q E (hr.deeper _) e0 hsp
  have lim:s.heap.NoLimit:=e0.mod.nolimit.keeps fun b o e=>(e0.bs b o e).1
  have ndP:ps.Nodup:=by rw[<- S.pre];~S.nd.sublist (List.take_sublist _ _)
  have hpl:ps.length<=N.length:=by have:=congrArg List.length S.pre;rw[List.length_take] at this;omega
  have hul:us.length=ps.length:=by rw[<- r.length];~hl
  have dr:∀{b:Addr} {u:HO},H b=some u->(∀o,u≠xD o)->uG cl b=false:=fun {b u} e n=>by
    cases q:uG cl b with
    | false=>rfl
    | true=>!⟨o,v,z,_⟩:=cl2 b q;rw[e] at z;cases z;~absurd rfl (n o)
  have dk:∀{b:Addr} {u:HO},H b=some u->(∀o,u≠xD o)->u9 cl H b=some u:=fun {b u} e n=>by
    show(if uG cl b then none else H b)=_
    rw[dr e n];~e
  have dn:∀{b:Addr},H b=none->u9 cl H b=none:=fun {b} e=>by
    show(if uG cl b then none else H b)=_
    split
    · rfl
    · ~e
  &W.kla_callFunE hr.depth (e0.hok f _ hf).1 rfl S.co S.gen rfl (show vv P w H s.heap c' (.tbl qual true) from e0.hok c' _ hc') (hb _ _ _ _ ?_)
  &wpAny_newFunctionEnv S.nocell (fun ⟨n,v⟩ hy=>S.par n (List.of_mem_zip hy).1) (fun h₁ hns hsb=>⟨lim.fresh _ hsb,?_⟩) S.kind
  show codeAny _ _ (.expr body (W.envX qual scope s.heap.objs.size f (.ref c') cl)) _ _
  have hk:∀b o,s.heap.get? b=some o->h₁.get? b=some o:=fun b o e=>hsb.extBut b o (Nat.ne_of_lt (Heap.lt_size e)) (Heap.get?_push_of_some _ e)
  have noA:∀b:Addr,b∉(Br CX P w K mg base N qual scope cl f (.ref c') A outer s H E).ex:=fun b z=>absurd (show b∈([]:List Addr) from z) (by simp)
  have hcell:∀x c,cl.lookup x=some c->∃u,h₁.IsCell c (some u):=fun x c e=>by
    !⟨o,u,z,d⟩:=cl2 c (Fj e)
    ~⟨u,o,hk _ _ (e0.hok c _ z).1,d⟩
  have I:L2.Inv (Br CX P w K mg base N qual scope cl f (.ref c') A outer s H E) [] ((vs++caps).map some) (u9 cl H) {s with heap:=h₁,toks:=s.toks+(ps.zip us).length}:=by
    &⟨⟨e0.mod,S.kind,rfl,rfl,Nat.le_refl _,S.inj,fun y hy=>?_,fun y c z _=>(by cases z),fun _=>hr.hd,Around.frames_deeper e0.frames,.inr ⟨rfl,rfl⟩,fun b z=>absurd z (noA b),fun b o e=>⟨(e0.bs b o e).1,dn (e0.bs b o e).2⟩,e0.bsz,fun b _ _=>noA b,fun b z=>absurd z (noA b),e0.funs,fun b hb=>dn (e0.frf b hb)⟩,
      rfl,e0.bare,Un.kept hk,⟨_,hns,fun i y v h1 h2 h3=>?_⟩,fun y c h=>let ⟨u,z⟩:=hcell y c h;⟨_,z⟩,dn (e0.hok.fresh (Nat.le_refl _)),fun y c h=>?_,fun p hp=>absurd (show p∈([]:List (Addr×Obj)) from hp) (by simp),fun b u e=>?_,?_⟩
    · have hy:scope.names.lookup y=some .cell\/scope.names.lookup y=some .free:=hy
      rcases hy with hy | hy
      · ~absurd rfl (S.nocell _ (PySem.mem_of_lookup hy))
      · ~S.has y hy
    · rw[List.getElem?_map] at h2
      cases e:(vs++caps)[i]? with
      | none=>rw[e] at h2;cases h2
      | some z =>
        rw[e] at h2
        cases h2
        by_cases hi:i<vs.length
        · rw[List.getElem?_append_left hi] at e
          !⟨u,hu,rv⟩:=r.get e
          have hp:ps[i]?=some y:=by rw[<- S.pre,List.getElem?_take_of_lt (by omega)];~h1
          &⟨u,rv,.inl ⟨S.par y (List.mem_of_getElem? hp),?_⟩⟩
          show(ps.zip us).reverse.lookup y=some u
          &wm ?_ ?_
          · rw[List.map_reverse,List.map_fst_zip (by omega),List.Nodup,List.pairwise_reverse];~ndP.imp fun h=>Ne.symm h
          · rw[List.mem_reverse]
            ~List.mem_of_getElem? (i:=i) (List.getElem?_zip_eq_some.mpr ⟨hp,hu⟩)
        · rw[List.getElem?_append_right (by omega)] at e
          have hd:(N.drop ps.length)[i - vs.length]?=some y:=by rw[List.getElem?_drop,show ps.length+(i - vs.length)=i by omega];~h1
          !⟨c,o,u,h4,h5,h6,h7⟩:=cl3 _ y v hd e
          ~⟨u,h7,.inr ⟨.inr (S.fre y (List.mem_of_getElem? hd)),c,h4,o,hk _ _ (e0.hok c _ h5).1,h6⟩⟩
    · show(if uG cl c then none else H c)=none
      rw[Fj (show cl.lookup y=some c from h)];rfl
    · have e':(if uG cl b then none else H b)=some u:=e
      cases q:uG cl b with
      | true=>rw[q] at e';cases e'
      | false =>
        rw[q] at e'
        ~(e0.hok b u e').stay (fun c v _ g=>hk c v g) (fun c g=>dk g fun o z=>by cases z) (fun c xs g=>dk g fun o z=>by cases z) fun c a d g=>dk g fun o z=>by cases z
    · show((vs++caps).map some).length=N.length
      rw[List.length_map,List.length_append,cl1,hl];omega
  &W.kla_codeExpr (wpAny_mono (ht [] _ _ _ _ I hq) (fun u s' hs=>?_) fun e s' hs=>hs)
  !⟨v,H2,J,rv,q⟩:=hs
  have cellKept:∀{b:Addr},uG cl b=true->∃o,H b=some (xD o)/\s'.heap.get? b=some o:=fun {b} hb=>by
    !⟨o,u',z,_⟩:=cl2 b hb
    have hfr:b∉xt outer:=fun m=>by rw[e0.frf b m] at z;cases z
    ~⟨o,z,J.base.keep b o (e0.hok b _ z).1 (by show(if uG cl b then none else H b)=none;rw[hb];rfl) hfr (noA b)⟩
  have bk:∀{b:Addr} {u:HO},H2 b=some u->wO cl H H2 b=some u:=fun {b u} e=>by
    show(if uG cl b then H b else H2 b)=_
    cases qq:uG cl b with
    | false=>~e
    | true =>
      !⟨p,hp,hpb⟩:=List.any_eq_true.mp qq
      have this:∃x,cl.lookup x=some b:=⟨p.1,wm S.ndc (by rw[<- eq_of_beq hpb];~hp)⟩
      !⟨x,hx⟩:=this
      have:=J.freeC x b hx
      rw[this] at e;cases e
  have bc:∀{b:Addr},uG cl b=true->wO cl H H2 b=H b:=fun {b} hb=>by show(if uG cl b then H b else H2 b)=_;rw[hb];rfl
  have bn:∀{b:Addr},uG cl b=false->wO cl H H2 b=H2 b:=fun {b} hb=>by show(if uG cl b then H b else H2 b)=_;rw[hb];rfl
  &⟨v,wO cl H H2,J.os,J.bare,⟨fun b o e n hf' hx=>J.base.keep b o e (dn n) hf' (noA b),fun b o e n hf' hx=>J.base.slot b o e (dn n) hf' (noA b),fun b o e n hx=>?_,fun b o e hx=>J.base.there b o e (noA b),fun b xs e=>bk (J.base.tups b xs (dk e fun o z=>by cases z)),fun b o u ny e=>?_,fun b a d e=>bk (J.base.tbls b a d (dk e fun o z=>by cases z))⟩,fun b u e=>?_,rv,q fun b u e=>bk e⟩
  · cases hb:uG cl b with
    | true=>rw[bc hb];~n
    | false=>rw[bn hb];~J.base.free b o e (dn n) (noA b)
  · cases hb:uG cl b with
    | true=>rw[bc hb];~e
    | false =>
      rw[bn hb]
      &J.base.frzs b o u ny ?_
      show(if uG cl b then none else H b)=_
      rw[hb];~e
  · cases hb:uG cl b with
    | true =>
      !⟨o,z,g⟩:=cellKept hb
      rw[bc hb,z] at e
      cases e
      ~⟨g,trivial,⟨_,g⟩,fun _ _ _ _=>trivial⟩
    | false =>
      rw[bn hb] at e
      ~(J.hok b u e).stay (fun c v _ g=>g) (fun c g=>bk g) (fun c xs g=>bk g) fun c a d g=>bk g
end HW
namespace HW
open PySem
open Sem (wp)
section
variable{prog:Program}{w:World}{A:Around}{E:Value->Shared->Prop}{h:Heap}{g:Array GenState}{d:Drawn}{t:Nat}{os:OsState}{a:Addr}{o:Obj}{tk:Tok}
end
open Sem (wp)
section
variable{M:Model}{A:Around}{E:Value->Shared->Prop}{h:Heap}{g:Array GenState}{d:Drawn}{t:Nat}{os:OsState}{K:W.Frag}{C Wz:Addr}{newId nW:String}
theorem Dv(T:EF K C Wz newId nW)(x:K.In h){n:Str}{y:Option Value}{Q:Option Value->Shared->Prop}(hn:n∈NM)(hy:typeLookup (.type "ValueError") n=pure y)(hq:Q y ⟨h,g,d,t,os⟩):wpAny M A (typeLookup (.ref C) n) Q E ⟨h,g,d,t,os⟩:=by
 !⟨N,nm,q,bs,hdct,sn,sub,ab,col,dd,k0,k1,k2,k3,k5,mN,hqn,hh⟩:=T.own
 !⟨N',nm',q',bs',hdct',sn',sub',ab',col',dd',j0,j1,j2,j3,j5,mN',hqn',hh'⟩:=T.base
 have hrest:lookupAlong VE n=pure y:=by rw[typeLookup_eq,F.excBase_ValueError.mroIs] at hy;~hy
 rw[typeLookup_eq]
 &wpAny_bind (wpAny_mroOf_exc (hh h x).1 ?_)
 rw[lookupAlong_cons]
 &wpAny_bind (wpAny_classOwn_exc (hh h x).1 (hh h x).2 ?_)
 rw[hqn n hn]
 show wpAny M A (lookupAlong (.ref Wz::VE) n) Q E _
 rw[lookupAlong_cons]
 &wpAny_bind (wpAny_classOwn_exc (hh' h x).1 (hh' h x).2 ?_)
 rw[hqn' n hn]
 show wpAny M A (lookupAlong VE n) Q E _
 rw[hrest]
 ~wpAny_pure hq
theorem Fy(T:EF K C Wz newId nW)(x:K.In h){b:Value}{Q:Bool->Shared->Prop}(hq:Q ((Value.ref C::.ref Wz::VE).contains b) ⟨h,g,d,t,os⟩):wpAny M A (isSubtype (.ref C) b) Q E ⟨h,g,d,t,os⟩:=by
 !⟨N,nm,q,bs,hdct,sn,sub,ab,col,dd,k0,k1,k2,k3,k5,mN,hqn,hh⟩:=T.own
 ~wpAny_isSubtype_exc (hh h x).1 hq
end
theorem LJ:typeLookup (.type "ValueError") "__class__" = pure (some (.builtin "object.__class__")):=by rw[typeLookup_type,builtinLookup_eq_fast];kernel_rfl
section
variable{prog:Program}{w:World}{A:Around}{E:Value->Shared->Prop}{h:Heap}{g:Array GenState}{d:Drawn}{t:Nat}{os:OsState}{a:Addr}{o:Obj}{tk:Tok}{K:W.Frag}{C Wz:Addr}{newId nW:String}
theorem Ng{R:Result->Shared->Prop}(T:EF K C Wz newId nW)(x:K.In h)(hx:h.get? a=some o)(hc:o.cls=.ref C)(hq:R (.ok (.ret (.ref C))) ⟨h,g,d,t,os⟩) :
  codeAny (model prog w) A (.call (.builtin "getset_descriptor.__get__") ⟨[.builtin "object.__class__",.ref a,.ref C],[]⟩) R ⟨h,g,d,t,os⟩:=by
 have hT5:(⟨h,g,d,t,os⟩:Shared).TypeIs (.builtin "object.__class__") "getset_descriptor":=F.typeOf_object_class
 have hcO:(Value.ref C::.ref Wz::VE).contains (.type (".".intercalate ("object.__class__".cutAt '.').dropLast))=true:=by rw[F.owner_object_class];rfl
 &codeAny_call_builtin F.slot_gs_get.plain F.entry_gs_get (F.slot_gs_get.check _ _ _ _ _ _ _ _ hT5 (F.args_gs_get _ _ _) ?_)
 repeat (any_goals (first | assumption | (with_reducible &wpAny_loadPart_at hx ?_;rw[hc]) | (with_reducible &Fy T x ?_;rw[hcO]) | wp_step))
 &⟨Code.quiet_builtin _ (by decide +kernel),codeAny_builtin F.entry_object_class ?_⟩
 repeat (any_goals (first | assumption | (with_reducible &wpAny_loadPart_at hx ?_;rw[hc]) | wp_step))
theorem MR{Q:Fin->Shared->Prop}(T:EF K C Wz newId nW)(x:K.In h)(hx:h.get? a=some o)(hc:o.cls=.ref C)(hq:Q (.done (.ret (.ref C))) ⟨h,g,d,t,os⟩) :
  wpAny (model prog w) A (Builtin.«object.__getattribute__» ⟨[.ref a,.str "__class__" tk],[]⟩) Q E ⟨h,g,d,t,os⟩:=by
 have hT5:(⟨h,g,d,t,os⟩:Shared).TypeIs (.builtin "object.__class__") "getset_descriptor":=F.typeOf_object_class
 have f5:=F.typeOf_object_class
 have f6:=F.slot_gs_get.lookup
 have f7:=F.slot_gs_set.lookup
 have hm:("__class__" : Str)∈NM:=.tail _ (.tail _ (.tail _ (.head _)))
 repeat (any_goals (first | assumption | (with_reducible &wpAny_loadPart_at hx ?_;rw[hc]) | with_reducible &Dv T x hm LJ ?_ | wp_step))
 &Ng T x hx hc ?_
 repeat (any_goals (first | assumption | wp_step))
theorem Ie{M:Model}{nameV:Value}{Q:Unit->Shared->Prop}(T:EF K C Wz newId nW)(x:K.In h)(hx:h.get? a=some o)(hc:o.cls=.ref C)(hq:Q () ⟨h,g,d,t,os⟩):wpAny M A (checkBuiltinCall "BaseException.__getattribute__" ⟨[.ref a,nameV],[]⟩) Q E ⟨h,g,d,t,os⟩:=by
 have hk:builtinKind "BaseException.__getattribute__" = some .slot:=by decide +kernel
 have hs:splitId "BaseException.__getattribute__" = some ("BaseException","__getattribute__"):=by decide +kernel
 have hcB:(Value.ref C::.ref Wz::VE).contains (.type "BaseException")=true:=rfl
 have ha:=F.args_bexc_ga (.ref a) nameV
 simp only[checkBuiltinCall,hk,hs]
 &wpAny_bind ?_
 ·unfold isInstance
  repeat (first | (with_reducible &wpAny_loadPart_at hx ?_;rw[hc]) | (with_reducible &Fy T x ?_;rw[hcB]) | wp_step)
  ~hq
theorem Ko{R:Result->Shared->Prop}(T:EF K C Wz newId nW)(x:K.In h)(hx:h.get? a=some o)(hc:o.cls=.ref C)(hq:R (.ok (.ret (.ref C))) ⟨h,g,d,t,os⟩) :
  codeAny (model prog w) A (.call (.builtin "BaseException.__getattribute__") ⟨[.ref a,.str "__class__" tk],[]⟩) R ⟨h,g,d,t,os⟩:=
 codeAny_call_builtin F.attrBase_ValueError.ga.plain F.entry_bexc_ga (Ie T x hx hc (MR T x hx hc hq))
theorem O4{Q:Value->Shared->Prop}(T:EF K C Wz newId nW)(x:K.In h)(hx:h.get? a=some o)(hc:o.cls=.ref C)(hq:Q (.ref C) ⟨h,g,d,t,os⟩):wpAny (model prog w) A (getAttrBy (.ref a) (.str "__class__" tk) false) Q E ⟨h,g,d,t,os⟩:=by
 have f3:=F.attrBase_ValueError.ga.bind (.ref a)
 have hx2:(Value.builtin "BaseException.__getattribute__" == Value.builtin "object.__getattribute__")=false:=by decide +kernel
 have hx1:(onTheHeap (Value.ref C)&&Value.builtin "BaseException.__getattribute__" == Value.builtin "object.__getattribute__")=false:=by rw[hx2];rfl
 have hm1:("__getattribute__" : Str)∈NM:=.tail _ (.head _)
 have hm2:("__getattr__" : Str)∈NM:=.tail _ (.tail _ (.head _))
 repeat (any_goals (first | assumption | (with_reducible &wpAny_loadPart_at hx ?_;rw[hc]) | with_reducible &Dv T x hm1 F.attrBase_ValueError.ga.lookup ?_ | with_reducible &Dv T x hm2 F.attrBase_ValueError.noGetattr ?_ | wp_step))
 &Ko T x hx hc ?_
 repeat (any_goals (first | assumption | wp_step))
theorem KA{Q:Option Value->Shared->Prop}(T:EF K C Wz newId nW)(x:K.In h)(hx:h.get? a=some o)(hc:o.cls=.ref C)(hq:Q (some (.ref C)) ⟨h,g,d,t+1,os⟩):wpAny (model prog w) A (getAttr? (.ref a) "__class__") Q E ⟨h,g,d,t,os⟩:=by
 unfold getAttr? getAttrBy?
 repeat (any_goals (first | assumption | with_reducible apply O4 T x hx hc | wp_step))
end
theorem I8{K:W.Frag}{C Wz:Addr}{newId nW:String}{a:Addr}{o:Obj}(T:EF K C Wz newId nW)(hc:o.cls=.ref C):W.KitX K (.ref a) (.ref C) (fun h=>h.get? a=some o) where
 ty:=fun M h _ p=>hc ▸ (W.Looks.ld p).andThen .now
 it:=fun M h X _=>by
  !⟨N,nm,q,bs,hdct,sn,sub,ab,col,dd,k0,k1,k2,k3,k5,mN,hqn,hh⟩:=T.own
  intro A' Q' E' s' k q
  unfold isType loadHead
  ~wpAny_bind (wpAny_loadPart (k _ _ (hh h X).1) (wpAny_pure q))
 ne:=fun h tp dd its n sl X htp=>by
  !⟨N,nm,q,bs,hdct,sn,sub,ab,col,dd',k0,k1,k2,k3,k5,mN,hqn,hh⟩:=T.own
  &Bool.eq_false_iff.mpr fun q=>?_
  have e:C=tp:=Value.ref.inj (beq_iff_eq.mp q)
  subst e
  rw[(hh h X).1] at htp
  have z:Value.type "type" = Value.type "tuple":=congrArg Obj.cls (Option.some.inj htp)
  ~absurd (Value.type.inj z) (by decide)
 ca:=fun {_ _ _ _ _ s} X p k=>by
  !⟨h,g,d,t,os⟩:=s
  ~KA T X p hc k
end HW
namespace HW
open PySem PySem.Spec PyProof.Rows L2
abbrev Ly(X:Cx)(pins:List (Addr×Obj))(E:Value->Shared->Prop):Cx:={X with pn:=X.pn++pins,xe:=E}
abbrev RG(X:Cx)(pins:List (Addr×Obj))(e:Addr):Cx:={X with A:=X.A.mark (some (.ref e)),calm:=false,pn:=X.pn++pins,xe:=fun _ _=>False}
abbrev Pc(X:Cx)(pins:List (Addr×Obj))(e:Addr)(oe:Obj):Cx:={X with A:=X.A.mark (some (.ref e)),calm:=false,pn:=(X.pn++pins)++[(e,oe)],xe:=fun _ _=>False}
section
variable{X:Cx}{pins pins':List (Addr×Obj)}{σ:L2.St}{H:Hp}{s:Shared}{E:Value->Shared->Prop}{e:Addr}{oe:Obj}
theorem OT(I:L2.Inv X pins σ H s):L2.Inv (Ly X pins E) [] σ H s:=
 ⟨⟨I.ok.mod,I.ok.kind,I.ok.glob,I.ok.blt,I.ok.above,I.ok.inj,I.ok.has,I.ok.cab,I.ok.hd,I.ok.frames,I.ok.stk,I.ok.exf,I.ok.bs,I.ok.bsz,I.ok.noex,I.ok.exfs,I.ok.funs,I.ok.frf⟩,I.os,I.bare,I.base,I.loc,I.cell,I.free,I.freeC,fun p hp=>I.pin p (by rw[List.append_nil] at hp;~hp),I.hok,I.len⟩
theorem FV(I:L2.Inv (Ly X pins E) pins' σ H s):L2.Inv X pins σ H s:=
 ⟨⟨I.ok.mod,I.ok.kind,I.ok.glob,I.ok.blt,I.ok.above,I.ok.inj,I.ok.has,I.ok.cab,I.ok.hd,I.ok.frames,I.ok.stk,I.ok.exf,I.ok.bs,I.ok.bsz,I.ok.noex,I.ok.exfs,I.ok.funs,I.ok.frf⟩,I.os,I.bare,I.base,I.loc,I.cell,I.free,I.freeC,fun p hp=>I.pin p (List.mem_append_left _ hp),I.hok,I.len⟩
theorem Oj(I:L2.Inv X pins σ H s)(e:Addr):L2.Inv (RG X pins e) [] σ H s:=
 ⟨⟨I.ok.mod,I.ok.kind,I.ok.glob,I.ok.blt,I.ok.above,I.ok.inj,I.ok.has,I.ok.cab,fun z=>(by cases z),I.ok.frames,I.ok.stk,I.ok.exf,I.ok.bs,I.ok.bsz,I.ok.noex,I.ok.exfs,I.ok.funs,I.ok.frf⟩,I.os,I.bare,I.base,I.loc,I.cell,I.free,I.freeC,fun p hp=>I.pin p (by rw[List.append_nil] at hp;~hp),I.hok,I.len⟩
theorem OC(I:L2.Inv X pins σ H s)(he:s.heap.get? e=some oe)(hn:H e=none)(hl:e≠X.env.locals)(hf:e∉X.fs)(hd:∀v,oe.data≠.cell v):L2.Inv (Pc X pins e oe) [] σ H s:=
 ⟨⟨I.ok.mod,I.ok.kind,I.ok.glob,I.ok.blt,I.ok.above,I.ok.inj,I.ok.has,I.ok.cab,fun z=>(by cases z),I.ok.frames,I.ok.stk,I.ok.exf,I.ok.bs,I.ok.bsz,I.ok.noex,I.ok.exfs,I.ok.funs,I.ok.frf⟩,I.os,I.bare,I.base,I.loc,I.cell,I.free,I.freeC,fun p hp=>by
  rw[List.append_nil] at hp
  rcases List.mem_append.mp hp with z | z
  ·~I.pin p z
  ·rw[List.mem_singleton.mp z]
   ~⟨he,hn,hl,hf,hd⟩,I.hok,I.len⟩
theorem KF(I:L2.Inv (Pc X pins e oe) pins' σ H s)(hd:X.calm=true->X.A.handled=none):L2.Inv X pins σ H s:=
 ⟨⟨I.ok.mod,I.ok.kind,I.ok.glob,I.ok.blt,I.ok.above,I.ok.inj,I.ok.has,I.ok.cab,hd,I.ok.frames,I.ok.stk,I.ok.exf,I.ok.bs,I.ok.bsz,I.ok.noex,I.ok.exfs,I.ok.funs,I.ok.frf⟩,I.os,I.bare,I.base,I.loc,I.cell,I.free,I.freeC,fun p hp=>I.pin p (List.mem_append_left _ (List.mem_append_left _ hp)),I.hok,I.len⟩
theorem Ij{j t:Nat}{n:Str}{v:Option Value}{m:Str->Option Value}{h':Heap}(I:L2.Inv X pins σ H s)(hN:X.N.Nodup)(hj:X.N[j]?=some n)
  (hl:∀(i:Nat) (x:Str) (w:V),X.N[i]?=some x->σ[i]?=some (some w)->Ca X.env.scope x->∃u,RelV w u/\Look X.env s.heap m x u) (hn:h'.Ns X.env.locals (fun x=>if x=n then v else m x)) (hs:Heap.SameBut X.env.locals s.heap h'):L2.Inv X pins (σ.set j none) H {s with heap:=h',toks:=t}:=by
 have cne:∀x c,X.env.cells.lookup x=some c->c≠X.env.locals:=fun x c hc z=>by
  !⟨v,o,ho,hd⟩:=I.cell x c hc
  !⟨m',⟨o',es,ep,ho',hd',_⟩,_⟩:=I.loc
  rw[z,ho'] at ho
  cases ho
  rw[hd'] at hd
  cases hd
 have cellK:∀x c w,X.env.cells.lookup x=some c->s.heap.IsCell c w->h'.IsCell c w:=fun x c w hc ⟨o,ho,hd⟩=>⟨o,(hs.2 c (cne x c hc)).trans ho,hd⟩
 have ne0:∀b o,X.s₀.heap.get? b=some o->b≠X.env.locals:=fun b o hb=>Nat.ne_of_lt (Nat.lt_of_lt_of_le (Heap.lt_size hb) I.ok.above)
 &⟨I.ok,I.os,I.bare,⟨fun b o e n hb hx=>(hs.2 b (ne0 b o e)).trans (I.base.keep b o e n hb hx),fun b o e n hb hx=>?_,I.base.free,fun b o e hx=>?_,I.base.tups,I.base.frzs,I.base.tbls⟩,⟨_,hn,fun i x w h1 h2 h3=>?_⟩,fun x c hc=>?_,I.free,I.freeC,fun p hp=>?_,fun b ob e=>?_,by rw[List.length_set];~I.len⟩
 ·!⟨sl,e1⟩:=I.base.slot b o e n hb hx
  ~⟨sl,(hs.2 b (ne0 b o e)).trans e1⟩
 ·!⟨o',e1⟩:=I.base.there b o e hx
  ~⟨o',(hs.2 b (ne0 b o e)).trans e1⟩
 ·have hij:i≠j:=fun z=>by
   subst z
   have hlt:i<σ.length:=by rw[I.len];~(List.getElem?_eq_some_iff.mp hj).1
   rw[List.getElem?_set_self hlt] at h2
   cases h2
  rw[List.getElem?_set_ne (Ne.symm hij)] at h2
  !⟨u,r,lk⟩:=hl i x w h1 h2 h3
  have hxn:x≠n:=fun z=>hij (AY hN h1 (z ▸ hj))
  &⟨u,r,?_⟩
  rcases lk with ⟨k,q⟩ | ⟨k,c,hc,z⟩
  ·~.inl ⟨k,(if_neg hxn).trans q⟩
  ·~.inr ⟨k,c,hc,cellK x c _ hc z⟩
 ·!⟨w,z⟩:=I.cell x c hc
  ~⟨w,cellK x c w hc z⟩
 ·!⟨e1,e2,e3,e4,e5⟩:=I.pin p hp
  ~⟨(hs.2 p.1 e3).trans e1,e2,e3,e4,e5⟩
 ·&(I.hok b ob e).stay (fun c w' hc q=>(hs.2 c ?_).trans q) (fun _ q=>q) (fun _ _ q=>q) fun _ _ _ q=>q
  rintro rfl
  rcases hc with z | hc
  ·rw[<- z,I.free] at e;cases e
  ·rw[I.free] at hc;cases hc
end
section
variable{M:Model}{A:Around}{E:Value->Shared->Prop}{h:Heap}{g:Array GenState}{d:Drawn}{t:Nat}{os:OsState}{K:W.Frag}{C Wz e:Addr}{newId nW:String}{oe:Obj}
theorem HB(T:EF K C Wz newId nW)(x:K.In h){Q:Bool->Shared->Prop}(he:h.get? e=some oe)(hcls:oe.cls=.ref C)(hq:Q true ⟨h,g,d,t,os⟩):wpAny M A (excMatches (.ref e) (.ref Wz)) Q E ⟨h,g,d,t,os⟩:=by
 !⟨N',nm',q',bs',hdct',sn',sub',ab',col',dd',j0,j1,j2,j3,j5,mN',hqn',hh'⟩:=T.base
 have hW:=(hh' h x).1
 have hcB:(Value.ref Wz::VE).contains (.type "BaseException")=true:=rfl
 have hcW:(Value.ref C::.ref Wz::VE).contains (.ref Wz)=true:=by simp
 have f:=tc_notTuple
 unfold excMatches
 repeat (first | (with_reducible &wpAny_loadPart_at he ?_;rw[hcls]) | with_reducible &wpAny_loadPart_at hW ?_ | (with_reducible &wpAny_isSubtype_exc hW ?_;rw[hcB]) | (with_reducible &Fy T x ?_;rw[hcW]) | wp_step)
 ~hq
end
section
variable{X:Cx}{ca:Nat->Addr}{Wz:Addr}{newId nW:String}{x n:Str}{np apos hpos pos:Pos}{tg e0:Expr}{b₀:Stmt}{suite:List Stmt}{fx:XD}{stf:D->R->Option R}{gs:Nat->Nat->R->Option Out}
end
section
variable{X:Cx}{pos p:Pos}{e:Expr}{es:List Expr}{k i:Nat}{f c':Addr}{G:LD->OD}{F:R->Option LD}{name qual:Str}{params:Arguments}{body:Expr}{scope:Scope}{cl:List (Str×Addr)}{pm ctv:Value}{ps:List Str}
theorem Ka{M:Model}(h:Heap)(x:h.get? f=some (W.kla_obj name qual params body scope cl pm c' ctv)):∃k,(k=Keeper.frame\/k=Keeper.machine\/k=Keeper.boundFrame)/\W.Looks M h (keeperOf (.ref f)) k:=
 ⟨.frame,.inl rfl,(W.Looks.ld (part:=none) x).andThen .now⟩
end
section
variable{X:Cx}{pins:List (Addr×Obj)}{σ:L2.St}{H:Hp}{s:Shared}{pos:Pos}
theorem tw{t:wk}{ts:List wk}{params:Arguments}{body:Expr}{scope:Scope}{clos:List (Str×Addr)}(TB:vS X.mg ts X.base)(ht:t∈ts)(hcode:X.env.code=.ref t.c)(hq:X.env.qual ++ "<lambda>" = t.q)(hcl:closureFor scope X.env=pure clos)(hdef:defaultsOf params X.env=([],[]):=by rfl) :
  PE X (.Lambda params body scope pos) fun σ H Q=>H t.P=some (.tbl t.q false)/\∀f c' ctv pm H',i6 H H'->H f=none->H' f=some (xD (W.kla_obj "<lambda>" t.q params body scope clos pm c' ctv))->H' c'=some (.tbl t.q true)->Q (.ref f) H':=by
 intro pins s σ H Q I ⟨hP,q⟩
 &W.kla_eval hdef ?_
 rw[hq]
 &uo (Ii I TB ht hP hcode hcl) fun v s' ⟨f,c',ctv,pm,H',ev,I',sm,hn,h1,h2⟩=>?_
 ~⟨.ref f,H',I',ev,q f c' ctv pm H' sm hn h1 h2⟩
def yh(cl:List (Str×Addr))(h:Heap)(H:Hp):Hp:=fun b=>if uG cl b then (h.get? b).map xD else H b
theorem zv{cl:List (Str×Addr)}{h:Heap}{b:Addr}{o:Obj}(hb:uG cl b=true)(e:h.get? b=some o):yh cl h H b=some (xD o):=by
 show(if uG cl b then (h.get? b).map xD else H b)=_
 rw[if_pos hb,e];rfl
theorem vW{cl:List (Str×Addr)}{h:Heap}{b:Addr}(hb:uG cl b=false):yh cl h H b=H b:=by
 show(if uG cl b then (h.get? b).map xD else H b)=_
 rw[if_neg (by rw[hb];decide)]
theorem vO{cl:List (Str×Addr)}{b:Addr}(hb:uG cl b=false):u9 cl H b=H b:=by
 show(if uG cl b then none else H b)=_
 rw[if_neg (by rw[hb];decide)]
theorem Gw{cl:List (Str×Addr)}{b:Addr}(hb:uG cl b=true):u9 cl H b=none:=by
 show(if uG cl b then none else H b)=_
 rw[if_pos hb]
theorem JT{k:Nat}{f:Addr}{fd:FuncData}{ps:List Str}{sp:Sp}{cl:List (Str×Addr)}{us:List Value}{vs:List V}{Q:VK}(F:k6 X.prog X.w X.K X.mg X.base ue k f fd ps sp)(hr:ua k X.A)(hb:Binds X.K fd ps [])(hfn:∀x,X.fn x=true)(hcl:∀b,uG cl b=true->∃x,X.env.cells.lookup x=some b)
  (I:L2.Inv X pins σ H s) (r:l6 vs us) (h:sp vs (yh cl s.heap H) (fun v H'=>Q v (u9 cl H')) E0):wpAny (model X.prog X.w) X.A (call (.ref f) us) (EP X pins σ Q) X.xe s:=by
 have cellO:∀{b:Addr},uG cl b=true->∃o v,s.heap.get? b=some o/\o.data=.cell v/\H b=none/\X.s₀.heap.objs.size<=b:=fun {b} hb=>by
  !⟨x,hx⟩:=hcl b hb
  !⟨v,o,e,d⟩:=I.cell x b hx
  ~⟨o,v,e,d,I.freeC x b hx,I.ok.cab x b (hfn x) hx⟩
 have nC:∀{b:Addr} {u:HO},H b=some u->uG cl b=false:=fun {b u} e=>by
  cases q:uG cl b with
  | false=>rfl
  | true=>!⟨_,_,_,_,z,_⟩:=cellO q;rw[e] at z;cases z
 have tk:∀{b:Addr} {u:HO},H b=some u->yh cl s.heap H b=some u:=fun e=>by rw[vW (nC e)];~e
 have hok:y4 X.prog X.w (yh cl s.heap H) s.heap:=fun b u e=>by
  cases q:uG cl b with
  | true =>
   !⟨o,_,g,_⟩:=cellO q
   rw[zv q g] at e
   cases e
   ~⟨g,trivial,⟨_,g⟩,fun _ _ _ _=>trivial⟩
  | false =>
   rw[vW q] at e
   ~(I.hok b u e).stay (fun _ _ _ g=>g) (fun c g=>tk g) (fun c xs g=>tk g) fun c a d g=>tk g
 have low:∀{b:Addr},b<X.s₀.heap.objs.size->uG cl b=false:=fun {b} hb=>by
  cases q:uG cl b with
  | false=>rfl
  | true=>!⟨_,_,_,_,_,z⟩:=cellO q;~absurd (Nat.lt_of_lt_of_le hb z) (Nat.lt_irrefl _)
 have e0:Aa X.prog X.w X.K X.mg X.base X.A X.stack s (yh cl s.heap H):=by
  have z:=I.env0
  &⟨z.frames,z.mod,fun b o e=>⟨(z.bs b o e).1,?_⟩,z.bsz,z.funs,fun b hb=>?_,hok,z.bare⟩
  ·rw[vW (low (Nat.lt_of_lt_of_le (Heap.lt_size e) I.ok.bsz))];~(z.bs b o e).2
  ·have n:=z.frf b hb
   cases q:uG cl b with
   | false=>rw[vW q];~n
   | true =>
    !⟨x,hx⟩:=hcl b q
    rcases List.mem_cons.mp (I.stkSub b hb) with m | m
    ·~absurd m (I.cne x b hx)
    ·!⟨_,o,ho,_⟩:=I.ok.funs.mem m
     rw[low (Heap.lt_size ho)] at q;cases q
 have hl:us.length=ps.length:=by rw[<- r.length];~F.len _ _ _ _ h
 &wpAny_call (codeAny_mono (F.run X.A X.stack s (yh cl s.heap H) ⟨us,[]⟩ us vs _ E0 hr e0 (by have:=hb s us I.kIn (by simpa using hl);simpa using this) r h) fun rr s' hq=>?_)
 cases rr with
 | error e=>~yk pins σ H s e s' I hq
 | ok fl =>
  cases fl with
  | next=>~False.elim hq
  | brk=>~False.elim hq
  | cont=>~False.elim hq
  | ret u =>
   !⟨v,H',os,bare,un,hok',rv,q⟩:=hq
   !⟨hh,g,d,tt,os'⟩:=s'
   obtain rfl:os'=s.os:=os
   have ck:∀{b:Addr},uG cl b=true->∃o,s.heap.get? b=some o/\H' b=some (xD o)/\hh.get? b=some o:=fun {b} hb=>by
    !⟨o,_,e,_⟩:=cellO hb
    have z:=un.frzs b o _ (fun y w=>by cases w) (zv hb e)
    ~⟨o,e,z,(hok' b _ z).1⟩
   have bk:∀{b:Addr} {u:HO},H' b=some u->(∀o,u≠xD o)->u9 cl H' b=some u:=fun {b u} e n=>by
    cases qq:uG cl b with
    | false=>rw[vO qq];~e
    | true=>!⟨o,_,z,_⟩:=ck qq;rw[e] at z;cases z;~absurd rfl (n o)
   &⟨v,u9 cl H',I.call (h':=hh) (g':=g) (d':=d) (t':=tt) (ch:=[]) ⟨fun b o e n hf hx=>?_,fun b o e n hf hx=>?_,fun b o e n hx=>?_,fun b o e hx=>un.there b o e hx,fun b xs e=>bk (un.tups b xs (tk e)) (fun o z=>by cases z),fun b o u ny e=>?_,fun b a d' e=>bk (un.tbls b a d' (tk e)) (fun o z=>by cases z)⟩ (fun b u e=>?_) bare (fun b z=>absurd z (by simp)),rv,q⟩
   ·cases qq:uG cl b with
    | true=>!⟨o',e1,_,e2⟩:=ck qq;rw[e] at e1;cases e1;~e2
    | false=>~un.keep b o e (by rw[vW qq];~n) hf hx
   ·cases qq:uG cl b with
    | true=>!⟨o',e1,_,e2⟩:=ck qq;rw[e] at e1;cases e1;~⟨o.slots,e2⟩
    | false=>~un.slot b o e (by rw[vW qq];~n) hf hx
   ·cases qq:uG cl b with
    | true=>~Gw qq
    | false=>rw[vO qq];~un.free b o e (by rw[vW qq];~n) hx
   ·rw[vO (nC e)];~un.frzs b o u ny (tk e)
   ·cases qq:uG cl b with
    | true=>rw[Gw qq] at e;cases e
    | false =>
     rw[vO qq] at e
     ~(hok' b u e).stay (fun _ _ _ g=>g) (fun c g=>bk g fun o z=>by cases z) (fun c xs g=>bk g fun o z=>by cases z) fun c a d g=>bk g fun o z=>by cases z
end
theorem IH {l:W.OpenLaw} {n k:Nat} {q:Program} {loose:List Str} {XP:(Str->Option Value)->Heap->Prop} {YP:World->Heap->Prop} {d:DefRec} {K:Params->W.Frag} {CX:World->DS} {sp:World->List wk->Sp} {x:Str}
    (hn:l.most=some n) (hn2:n<=sizeLine) (hdf:d.params.defaults=[]) (hr:ua k callerA)
    (hY:∀(w:World) (h:Heap),YP w h->(K w.params).In h)
    (F:∀(w:World) (mg:Str->Option Value) (fa:Addr) (h:Heap),(K w.params).In h->h.Ns mainGlobals mg->mg d.name=some (.ref fa) ->
      ∃(ts:List wk) (fd:FuncData),(∀t∈ts,(K w.params).lookup t.P=none/\∃y d',(recsOf q).find? (fun e=>e.name==y)=some d'/\W.tabIn (K w.params) y=some (t.c,t.P))/\(∀(s:Shared) (u:Value),BindsTo s fd ⟨[u],[]⟩ [(x,u)]) /\
        ∀base:Heap,(K w.params).In base->base.Ns mainGlobals mg->vS mg ts base->k6 l.prog w (K w.params) mg base (CX w) k fa fd [x] (sp w ts))
    (hsp:∀(w:World) (ts:List wk) (H:Hp) (a:Addr) (ns:List Int),ns.length<=n->Gp ts a H->(∀t∈ts,t.P≠a)->wj (K w.params) H a (ns.map V.int)->sp w ts [.ref a] H (fun v _=>v=.bl true) fun _ _ _=>False)
    (hCX:∀(w:World) (H:Hp) (s:Shared) (e:Value) (s':Shared),CX w [] H s (fun _ _ _=>False) e s'->False) :
    W.WalkO q loose XP YP l.row.toRowW d [] (fun f vs=>PySem.call f vs):=by
  &Att.attach_call hn hdf fun w s₀ s₁ mg mb fa o pm cd doc a vs ns G Y ho hd hcd hmg hobj hints hlen hg=>?_
  have KX:=hY w _ Y
  !⟨ts,fd,hts,hb,hF⟩:=F w mg fa _ KX G.T.g hmg
  &GR KX G.T.g G.T.b G.T.builtins G.T.nolimit hg hobj hints (Nat.le_trans hlen hn2) hr (fun t ht=>?_) (fun t ht=>(hts t ht).1) ?_ hF hb (fun H hO hP hS=>hsp w ts H a ns hlen hO hP hS) fun H e s'=>hCX w H s₁ e s'
  · !⟨_,y,d',h1,h2⟩:=hts t ht
    ~W.tab_of G.T KX h1 h2
  · !⟨bm,ob,b1,b2,b3,b4,b5,b6⟩:=G.T.bmain
    &⟨bm,ob,b1,b2,fun z=>?_,b3,b4,b5,b6⟩
    !⟨o',es,ep,e,hd',_⟩:=G.T.g
    rw[z,e] at b3;cases b3;rw[hd'] at b6;cases b6
section
variable{X:Cx}{pins:List (Addr×Obj)}{σ:L2.St}{H Hp':Hp}{s:Shared}{pos:Pos}
structure FW (X:Cx) (cl:List (Str×Addr)) (σ:L2.St) (H H':Hp):Prop where
 out:∀b,uG cl b=false->H' b=H b
 cel:∀b,uG cl b=true->H b=none/\∃o v,H' b=some (xD o)/\o.data=.cell v
 val:∀(i:Nat) (x:Str) (c:Addr) (v:V),X.N[i]?=some x->σ[i]?=some (some v)->cl.lookup x=some c->∃o u,H' c=some (xD o)/\o.data=.cell (some u)/\RelV v u
structure IQ (X:Cx) (cl:List (Str×Addr)):Prop where
 fn:∀x,X.fn x=true
 ndc:(cl.map (·.1)).Nodup
 of:∀x c,cl.lookup x=some c->X.env.cells.lookup x=some c/\X.env.scope.names.lookup x=some .cell
theorem IQ.lk{cl:List (Str×Addr)}(o:IQ X cl):∀b,uG cl b=true->∃x,X.env.cells.lookup x=some b:=fun b hb=>by
 !⟨p,hp,e⟩:=List.any_eq_true.mp hb
 ~⟨p.1,(o.of p.1 b (wm o.ndc (by rw[<- eq_of_beq e];~hp))).1⟩
theorem Id{cl:List (Str×Addr)}(o:IQ X cl)(I:L2.Inv X pins σ H s):FW X cl σ H (yh cl s.heap H):=by
 &⟨fun b hb=>vW hb,fun b hb=>?_,fun i x c v h1 h2 h3=>?_⟩
 ·!⟨x,hx⟩:=o.lk b hb
  !⟨v,ob,e,d⟩:=I.cell x b hx
  ~⟨I.freeC x b hx,ob,v,zv hb e,d⟩
 ·!⟨hx,hk⟩:=o.of x c h3
  !⟨m,_,hl⟩:=I.loc
  !⟨u,rv,lk⟩:=hl i x v h1 h2 (.inr (.inl hk))
  rcases lk with ⟨z,_⟩ | ⟨_,c2,e2,ob,g,d⟩
  ·~absurd (show some NameKind.cell=some NameKind.local from hk.symm.trans z) (by simp)
  ·rw[hx] at e2
   cases e2
   ~⟨ob,u,zv (Fj h3) g,d,rv⟩
theorem qE{x:Str}{e:Expr}{es:List Expr}{k:Nat}{f:Addr}{fd:FuncData}{ps:List Str}{sp:Sp}{t:TA}{p:Pos}{cl:List (Str×Addr)}(F:k6 X.prog X.w X.K X.mg X.base ue k f fd ps sp)(hr:ua k X.A)(hg:Gl X x)(hm:X.mg x=some (.ref f))(hk:W.keepIn X.K (.ref f)=true)(hb:Binds X.K fd ps [])(o:IQ X cl)
  (ha:PA X (e::es) t) (hdb:(x==("__debug__" : Str))=false:=by decide) (he:starEach (e::es) X.env=(false,eval e X.env)::starEach es X.env:=by rfl) (hpl:(backTo pos (starEach es X.env)).any (·.1)=false:=by rfl) :
  PE X (.Call (.Name x p) (e::es) [] pos) fun σ H Q=>t σ H fun vs H1=>∀H2,FW X cl σ H1 H2->sp vs H2 (fun v H'=>Q v (u9 cl H')) E0:=by
 intro pins s σ H Q I h
 &wpAny_Call_Name_kw (eE I hg hm ?_ hdb)
 &W.callWith_K (h₀:=X.base) I.ok.mod.kin hk (uo (ha pos pins s σ H _ I h) fun us s1 ⟨vs,H1,I1,r,q⟩=>⟨I1.kIn,?_⟩) he hpl
 ~JT F hr hb o.fn o.lk I1 r (q _ (Id o I1))
end
section
variable{K:W.Frag}{H H':Hp}
theorem xj.clo{a:Addr}{xs:List V}(s:∀b u,H b=some u->(∀o,u≠xD o)->H' b=some u)(h:xj K H a xs):xj K H' a xs:=by
 rcases h with (h | ⟨o,h⟩) | h
 ·~.inl (.inl (s _ _ h fun o z=>by cases z))
 ·~.inl (.inr ⟨o,s _ _ h fun o z=>by cases z⟩)
 ·~.inr h
theorem wj.clo{a:Addr}{xs:List V}(s:∀b u,H b=some u->(∀o,u≠xD o)->H' b=some u)(h:wj K H a xs):wj K H' a xs:=by
 rcases h with (h | ⟨o,h⟩) | h
 ·~.inl (.inl (s _ _ h fun o z=>by cases z))
 ·~.inl (.inr ⟨o,s _ _ h fun o z=>by cases z⟩)
 ·~.inr h
theorem Ku.clo{k a:Nat}{ks:List Str}{vs:List V}(s:∀b u,H b=some u->(∀o,u≠xD o)->H' b=some u)(h:Ku H k a ks vs):Ku H' k a ks vs:=by
 match k,h with
 | 0,⟨z,its,n,r,q⟩=>~⟨z,its,n,r,s _ _ q fun o z=>by cases z⟩
 | 1,⟨z,q⟩=>~⟨z,s _ _ q fun o z=>by cases z⟩
 | C+2,⟨z,dx,q⟩=>~⟨z,dx,s _ _ q fun o z=>by cases z⟩
mutual
theorem Rep.clo(s:∀b u,H b=some u->(∀o,u≠xD o)->H' b=some u):∀{d:D} {v:V},Rep K H d v->Rep K H' d v
 | .non,_,h=>h
 | .bl _,_,h=>h
 | .int _,_,h=>h
 | .str _,_,h=>h
 | .tup ds,_,h=>by
  !⟨a,xs,e,q,r⟩:=h
  ~⟨a,xs,e,xj.clo s q,i5.clo s r⟩
 | .lst ds,_,h=>by
  !⟨a,xs,e,q,r⟩:=h
  ~⟨a,xs,e,s _ _ q (fun o z=>by cases z),i5.clo s r⟩
 | .fro ds,_,h=>by
  !⟨a,xs,e,q,r⟩:=h
  ~⟨a,xs,e,wj.clo s q,i5.clo s r⟩
 | .obj ..,_,h=>by
  !⟨xs,e,q,r⟩:=h
  ~⟨xs,e,q.clo s,i5.clo s r⟩
 | .rf _,_,h=>h
theorem i5.clo(s:∀b u,H b=some u->(∀o,u≠xD o)->H' b=some u):∀{ds:LD} {vs:List V},i5 K H ds vs->i5 K H' ds vs
 | [],_,h=>h
 | d::ds,_,h=>by
  !⟨v,r,e,q,t⟩:=h
  ~⟨v,r,e,Rep.clo s q,i5.clo s t⟩
end
theorem AW{cl:List (Str×Addr)}(hC:∀b,uG cl b=true->∃o,H b=some (xD o)):∀b u,H b=some u->(∀o,u≠xD o)->u9 cl H b=some u:=fun b u e n=>by
 cases q:uG cl b with
 | false=>rw[vO q];~e
 | true =>
  !⟨o,z⟩:=hC b q
  rw[e] at z
  ~absurd (Option.some.inj z) (n o)
theorem pY:∀{ds:LD} {vs:List V},i5 K H ds vs->ut K H (ds.map some) (vs.map some):=fun {ds vs} r=>by
 &⟨by rw[List.length_map,List.length_map,r.length];~Nat.le_refl _,fun i d h=>?_⟩
 rw[List.getElem?_map] at h
 !⟨d',e,q⟩:=t7 h
 cases q
 !⟨v,h1,h2⟩:=r.get e
 ~⟨v,by rw[List.getElem?_map,h1];rfl,h2⟩
end
section
variable{P:Program}{w:World}{K:W.Frag}{mg:Str->Option Value}{base:Heap}{N ps:List Str}{qual:Str}{scope:Scope}{cl:List (Str×Addr)}{f:Addr}{cd:Value}{A:Around}{outer:List Env}{s:Shared}{H H2:Hp}{E:XK}{C:Addr}{caps:List V}
theorem Mj(S:ww N ps scope cl)(hcap:zj H N ps cl caps)(hokS:y4 P w H s.heap)(frf:∀b∈xt outer,H b=none)(hE:E (.ref C) none (wO cl H H2))(hS:i6 (u9 cl H) H2):XW (Br (AS P w) P w K mg base N qual scope cl f cd A outer s H E) C H2:=fun e s' ⟨pins,σ,B,J,c1,c2,_,_,x⟩=>by
 !⟨cl1,cl2,cl3⟩:=hcap
 show wpAny (model P w) (A.deeper (W.envX qual scope s.heap.objs.size f cd cl)) (leaving (W.envX qual scope s.heap.objs.size f cd cl) (.ref e)) (fun _ s''=>AS P w outer H s E (.ref e) s'') (fun e' s''=>AS P w outer H s E e' s'') s'
 &CO J.ok.frames rfl x fun h' x' up=>?_
 have noA:∀b:Addr,b∉(Br (AS P w) P w K mg base N qual scope cl f cd A outer s H E).ex:=fun b z=>absurd (show b∈([]:List Addr) from z) (by simp)
 have dr:∀{b:Addr} {u:HO},H b=some u->(∀o,u≠xD o)->uG cl b=false:=fun {b u} e n=>by
  cases q:uG cl b with
  | false=>rfl
  | true=>!⟨o,v,z,_⟩:=cl2 b q;rw[e] at z;cases z;~absurd rfl (n o)
 have dk:∀{b:Addr} {u:HO},H b=some u->(∀o,u≠xD o)->u9 cl H b=some u:=fun {b u} e n=>by
  show(if uG cl b then none else H b)=_
  rw[dr e n];~e
 have dn:∀{b:Addr},H b=none->u9 cl H b=none:=fun {b} e=>by
  show(if uG cl b then none else H b)=_
  split
  ·rfl
  ·~e
 have bk:∀{b:Addr} {u:HO},H2 b=some u->wO cl H H2 b=some u:=fun {b u} e=>by
  show(if uG cl b then H b else H2 b)=_
  cases qq:uG cl b with
  | false=>~e
  | true =>
   !⟨p,hp,hpb⟩:=List.any_eq_true.mp qq
   have this:∃x,cl.lookup x=some b:=⟨p.1,wm S.ndc (by rw[<- eq_of_beq hpb];~hp)⟩
   !⟨x,hx⟩:=this
   have:=J.freeC x b hx
   rw[this] at e;cases e
 have bc:∀{b:Addr},uG cl b=true->wO cl H H2 b=H b:=fun {b} hb=>by show(if uG cl b then H b else H2 b)=_;rw[hb];rfl
 have bn:∀{b:Addr},uG cl b=false->wO cl H H2 b=H2 b:=fun {b} hb=>by show(if uG cl b then H b else H2 b)=_;rw[hb];rfl
 have hfn:∀b o,s.heap.get? b=some o->b∉xt outer->b∉xt (W.envX qual scope s.heap.objs.size f cd cl::outer):=fun b o hb hn hm=>by
  have hm':b∈s.heap.objs.size::xt outer:=hm
  rcases List.mem_cons.mp hm' with z | z
  ·rw[z] at hb;~Nat.lt_irrefl _ (Heap.lt_size hb)
  ·~hn z
 have cov:∀b o,s.heap.get? b=some o->b∉xt outer->∃o',B.get? b=some o':=fun b o hb hn=>c1 b o hb (hfn b o hb hn) (by intro z;cases z)
 have cellKept:∀{b:Addr},uG cl b=true->∃o,H b=some (xD o)/\s'.heap.get? b=some o/\∃o',B.get? b=some o':=fun {b} hb=>by
  !⟨o,u',z,_⟩:=cl2 b hb
  have hfr:b∉xt outer:=fun m=>by rw[frf b m] at z;cases z
  ~⟨o,z,J.base.keep b o (hokS b _ z).1 (by show(if uG cl b then none else H b)=none;rw[hb];rfl) hfr (noA b),cov b o (hokS b _ z).1 hfr⟩
 have un0:Un (xt outer) [] H (wO cl H H2) s.heap s'.heap:=by
  &⟨fun b o e n hf' hx=>J.base.keep b o e (dn n) hf' (noA b),fun b o e n hf' hx=>J.base.slot b o e (dn n) hf' (noA b),fun b o e n hx=>?_,fun b o e hx=>J.base.there b o e (noA b),fun b xs e=>bk (J.base.tups b xs (dk e fun o z=>by cases z)),fun b o u ny e=>?_,fun b a d e=>bk (J.base.tbls b a d (dk e fun o z=>by cases z))⟩
  ·cases hb:uG cl b with
   | true=>rw[bc hb];~n
   | false=>rw[bn hb];~J.base.free b o e (dn n) (noA b)
  ·cases hb:uG cl b with
   | true=>rw[bc hb];~e
   | false =>
    rw[bn hb]
    &J.base.frzs b o u ny ?_
    show(if uG cl b then none else H b)=_
    rw[hb];~e
 have hok0:y4 P w (wO cl H H2) s'.heap:=fun b u e=>by
  cases hb:uG cl b with
  | true =>
   !⟨o,z,g,_⟩:=cellKept hb
   rw[bc hb,z] at e
   cases e
   ~⟨g,trivial,⟨_,g⟩,fun _ _ _ _=>trivial⟩
  | false =>
   rw[bn hb] at e
   ~(J.hok b u e).stay (fun c v _ g=>g) (fun c g=>bk g) (fun c xs g=>bk g) fun c a d g=>bk g
 have c2':∀b u,wO cl H H2 b=some u->∃o',B.get? b=some o':=fun b u e=>by
  cases hb:uG cl b with
  | true=>!⟨o,_,_,q⟩:=cellKept hb;~q
  | false=>rw[bn hb] at e;~c2 b u e
 have sm:i6 H (wO cl H H2):=fun b u e=>by
  cases hb:uG cl b with
  | true=>rw[bc hb];~e
  | false=>rw[bn hb];~hS b u (by show(if uG cl b then none else H b)=_;rw[hb];~e)
 ~⟨e,C,B,_,rfl,J.os,J.bare,x',AJ un0 x.st x'.st (fun b _ o=>up b o) (fun b hb=>by
   !⟨_,o,ho,nd⟩:=x.fr.mem (List.mem_cons_of_mem _ hb:b∈s.heap.objs.size::xt outer)
   ~⟨o,ho,nd⟩) (fun b o hb hf _=>cov b o hb hf),zx hok0 x.st x'.st c2',cov,c2',sm,hE⟩
end
section
variable{X:Cx}{ca:Nat->Addr}{pos p:Pos}{k:Nat}{f c':Addr}{name qual:Str}{params:Arguments}{body:Expr}{scope:Scope}{cl:List (Str×Addr)}{pm ctv:Value}{ps:List Str}
theorem pV{i:Nat}{x:Str}{sp:Sp}(hF:k6 X.prog X.w X.K X.mg X.base (AS X.prog X.w) k f (W.kla_fn name qual params body scope cl pm (.ref c') ctv) ps sp)(bd:Binds X.K (W.kla_fn name qual params body scope cl pm (.ref c') ctv) ps [])(hr:ua k X.A)
  (hN:X.N[i]?=some x:=by rfl) (hv:Ca X.env.scope x:=by first | ~Or.inl rfl | ~Or.inr (Or.inl rfl) | ~Or.inr (Or.inr rfl)) (hd:(x==("__debug__" : Str))=false:=by decide) (hcd:(x==("__classdict__" : Str))=false:=by decide) :
  PE X (.Call (.Name x p) [] [] pos) fun σ H Q=>σ[i]?=some (some (.ref f))/\H f=some (xD (W.kla_obj name qual params body scope cl pm c' ctv))/\sp [] H Q (EX X):=by
 intro pins s σ H Q I ⟨x1,hf,h⟩
 &wpAny_Call_Name_kw (uo (jx (pos:=p) hN hv hd hcd pins s σ H (fun v H1=>v=.ref f/\H1=H) I ⟨.ref f,x1,rfl,rfl⟩) fun u s1 ⟨v,H1,I1,rv,ev,eH⟩=>?_)
 subst ev eH
 cases (show u=_ from rv)
 &W.callWith_of (P:=fun h=>h.get? f=some (W.kla_obj name qual params body scope cl pm c' ctv)) rfl Ka (PyProof.Rows.evalArgs_empty ⟨(I1.hok f _ hf).1,?_⟩)
 ~A5 (us:=[]) hF hr bd .nil LE I1 .nil (by rw[List.append_nil];~h)
end
section
variable{X:Cx}{ca:Nat->Addr}{Wz:Addr}{newId nW:String}{x n:Str}{np apos hpos pos:Pos}{b₀:Stmt}{suite:List Stmt}{gs:Nat->Nat->R->Option Out}
theorem rV{b1:Stmt}{tb:L2.St->Hp->(L2.St->Hp->Prop)->(Nat->Hp->Prop)->Prop}(j:Nat)(T:∀c,c<2->EF X.K (ca c) Wz newId nW)(hc:X.calm=true)(hcells:X.env.cells=[])(hstk:X.stack=X.env::X.outer)(hfr:X.env.frame=some X.env.locals)(hex:X.ex=[])(hN:X.N.Nodup)(hm:X.mg x=some (.ref Wz))
  (hmn:∀ σ H Qn Qe Qe',(∀c H',Qe c H'->Qe' c H')->tb σ H Qn Qe->tb σ H Qn Qe') (ha:∀pins E,PS (Ly X pins E) b1 (fun D σ H=>tb σ H D.nx fun c H'=>XW (Ly X pins E) (ca c) H'))
  (hs:∀pins e oe c,c<2->oe.cls=.ref (ca c)->SS (Pc X pins e oe) (b₀::suite) (gs c e))
  (hj:X.N[j]?=some n:=by rfl) (hloc:X.env.kindOf n=some .local:=by rfl) (hgl:Gl X x:=by rfl) (hd:(x==("__debug__" : Str))=false:=by decide) :
  PS X (.Try [b1] [.ExceptHandler (some (.Name x np)) (some n) (b₀::suite) hpos] [] [] pos) (fun D σ H=>tb σ H D.nx fun c H1=>c<2/\∀e:Nat,∃ ρ',gs c e (Mm X.N.length j e)=some (.nx ρ')/\∀ σ' H',i6 H1 H'->ut X.K H' (ρ'.set j none) σ'->D.nx σ' H'):=by
 intro pins s σ H D I q
 &wpAny_Try_except ?_
 generalize hE:(fun (ev:Value) (s₁:Shared)=>wpAny (model X.prog X.w) X.A (noteFrame ev X.env) (fun _ s₂=>wpAny (model X.prog X.w) X.A (setFlight ev none) (fun _ s₃=>wpAny (model X.prog X.w) X.A (handleBy ev X.env [.ExceptHandler (some (.Name x np)) (some n) (b₀::suite) hpos]) (SP X pins D) X.xe s₃) X.xe s₂) X.xe s₁)=E'
 have body:=(da (ha pins E')) [] s σ H {nx:=fun σ' H'=>D.nx σ' H',rt:=fun _ _=>False} (OT I) (hmn _ _ _ _ _ (fun c H1 ⟨hc2,k⟩=>by
   rintro e s₁ ⟨pins',σ',B,xa⟩
   rw[<- hE]
   have xe1:ES B (X.env::X.outer) e (ca c) s₁.heap:=by rw[<- hstk];~xa.exc
   have IX:L2.Inv X pins σ' H1 s₁:=FV xa.inv
   &Ec (by rw[<- hstk];~IX.ok.frames) hfr xe1 fun h1 x1 u1=>zf (s:={s₁ with heap:=h1}) x1 fun h2 x2 u2=>?_
   have hlf:X.env.locals∈xt X.stack:=by rw[hstk];~List.mem_filterMap.mpr ⟨X.env,List.mem_cons_self,hfr⟩
   have fsub:∀b∈X.fs,b∈xt X.stack:=fun b hb=>by
    rw[hstk]
    !⟨env',z1,z2⟩:=List.mem_filterMap.mp hb
    ~List.mem_filterMap.mpr ⟨env',List.mem_cons_of_mem _ z1,z2⟩
   have stay:∀h':Heap,ES B (X.env::X.outer) e (ca c) h'->s₁.heap.UpToSlots h'->L2.Inv X pins σ' H1 {s₁ with heap:=h' }:=fun h' x' u' =>
    IS IX xa.exc.st x'.st (fun b _ o ho nd=>u' b o ho nd) (fun b o hb hn hx=>xa.ent b o hb (fun hm=>by
     rcases List.mem_cons.mp (IX.stkSub b hm) with z | z
     ·rw[z] at hb;~absurd (Nat.lt_of_lt_of_le (Heap.lt_size hb) IX.ok.above) (Nat.lt_irrefl _)
     ·~hn z) hx) xa.hld (fun p hp=>xa.pin p (List.mem_append_left _ hp)) (fun y cc hcc=>by rw[hcells] at hcc;cases hcc)
   have I2:=stay h2 x2 (u1.trans u2)
   !⟨a0,fl,oe,vs,TT,oT,ts,he,⟨hcls,h0⟩,hdt,r4,r5,r6,r7,r8,r9⟩:=id x2.tr
   &wpAny_handleBy_cons (codeAny_handlers_test (eE (E:=_) (Oj I2 e) hgl hm ?_ hd)) (by intro z;cases z)
   &HB (T c hc2) I2.kIn he hcls ?_
   &codeAny_handlers_suite_as ?_
   &zf (s:={s₁ with heap:=h2}) x2 fun h3 x3 u3=>?_
   have I3:=stay h3 x3 ((u1.trans u2).trans u3)
   !⟨a0',fl',oe',vs',TT',oT',ts',he',⟨hcls',h0'⟩,hdt',_⟩:=id x3.tr
   have hHe:H1 e=none:=by
    cases z:H1 e with
    | none=>rfl
    | some u=>!⟨o',eo⟩:=xa.hld e u z;rw[x3.ne] at eo;cases eo
   have nfr:∀b∈xt X.stack,e≠b:=fun b hb z=>by
    !⟨_,o,ho,nd⟩:=x3.fr.mem (by rw[<- hstk];~hb)
    rw[<- z,he'] at ho
    cases ho
    ~nd vs' hdt'
   have J:=OC I3 he' hHe (nfr _ hlf) (fun z=>nfr e (fsub e z) rfl) (fun v z=>by rw[hdt'] at z;cases z)
   have lv:Ca X.env.scope n:=.inl hloc
   &zA (X:=Pc X pins e oe') (i:=j) (v:=.ref e) (u:=.ref e) J hN hj (.inl hloc) rfl (fun s4 J4=>?_) (.inr hloc)
   !⟨ρ',eg,kk⟩:=k e
   have hlen:(Mm X.N.length j e).length=X.N.length:=by unfold Mm;rw[List.length_set,List.length_replicate]
   have erH:uq X.K H1 (Mm X.N.length j e) [] (σ'.set j (some (.ref e))):=by
    &⟨⟨by rw[hlen,List.length_set,I3.len];~Nat.le_refl _,fun i d hi=>?_⟩,?_⟩
    ·unfold Mm at hi
     by_cases hij:i=j
     ·subst hij
      have hlt:i<(List.replicate X.N.length (none:Option HW.D)).length:=by rw[List.length_replicate];~(List.getElem?_eq_some_iff.mp hj).1
      rw[List.getElem?_set_self hlt] at hi
      cases hi
      ~⟨.ref e,List.getElem?_set_self (by rw[I3.len];~(List.getElem?_eq_some_iff.mp hj).1),rfl⟩
     ·rw[List.getElem?_set_ne (Ne.symm hij),List.getElem?_replicate] at hi
      split at hi<;>cases hi
    ·rw[hlen,<- I3.len]
     ~List.drop_eq_nil_of_le (by rw[List.length_set];~Nat.le_refl _)
   &wpAny_mono (hs pins e oe' c hc2 hcls' [] s4 _ H1 {nx:=fun σ5 H5=>i6 H1 H5/\ut X.K H5 ρ' σ5,rt:=fun _ _=>False} J4 ⟨_,[],.nx ρ',erH,eg,fun H5 t5 σ5 er5=>⟨t5,er5.1⟩⟩) (fun fl5 s5 h5=>?_) fun _ _ z=>False.elim z
   cases fl5 with
   | next =>
    !⟨σ5,H5,J5,t5,er5⟩:=h5
    have I5:=KF J5 I.ok.hd
    !⟨m,hns,hlk⟩:=I5.loc
    &wpAny_nameGoes_keeps hloc hns (by rw[I5.ok.kind];rfl) fun h6 v6 hn6 sb6=>?_
    &⟨σ5.set j none,H5,Ij I5 hN hj hlk hn6 sb6,kk _ H5 t5 ⟨by rw[List.length_set,List.length_set];~er5.1,fun i d hi=>?_⟩⟩
    by_cases hij:i=j
    ·subst hij
     have:i<ρ'.length:=by have:=(List.getElem?_eq_some_iff.mp hi).1;rwa [List.length_set] at this
     rw[List.getElem?_set_self this] at hi
     cases hi
    ·rw[List.getElem?_set_ne (Ne.symm hij)] at hi ⊢
     ~er5.2 i d hi
   | brk=>!⟨_,_,_,z⟩:=h5;~z.elim
   | cont=>!⟨_,_,_,z⟩:=h5;~z.elim
   | ret u=>!⟨_,_,_,_,_,z⟩:=h5;~z.elim) q)
 &wpAny_mono body (fun fl s₁ h=>?_) (fun ev s₁ h=>h)
 cases fl with
 | next =>
  !⟨σ',H',J,k⟩:=h
  ~wpAny_execs_nil ⟨σ',H',FV J,k⟩
 | brk=>!⟨_,_,_,z⟩:=h;~z.elim
 | cont=>!⟨_,_,_,z⟩:=h;~z.elim
 | ret u=>!⟨_,_,_,_,_,z⟩:=h;~z.elim
end
end HW
namespace HW
open PySem
structure B8 where
 q:Str
 params:Arguments
 body:Expr
 scope:Scope
 N:List Str
 ps:List Str
 deriving Inhabited
def Cz:List Nat->R->Option LD
 | [],_=>some []
 | j::js,ρ=>(c5 j ρ).bind fun d=>(Cz js ρ).map (d::·)
abbrev MX:=R->Option (Except Nat (D×D))
def zu(C:Nat)(m:Str)(j:Nat)(G:LD->Option (Except Nat (D×D)))(F:R->Option LD):MX:=fun ρ=>(c5 j ρ).bind fun ob=>(F ρ).bind fun ds=>match ob with
 | .obj k _ ks _=>if k=C+2/\ks.contains m=false then G (ob::ds) else none
 | _=>none
def uL:Str:=oS "told"
def zO(j:Nat)(js:List Nat)(g:MX)(fnd:Nat->OD)(S:List Nat)(ρ:R):Option (D×R):=(Cz js ρ).bind fun ds=>(ds[j]?).bind fun ob=>(g (ds.map some)).bind fun r=>match r with
 | .ok (d,o')=>if xC ob=true/\y9 (js.getD j 0) (adr ob) ρ=true/\AE S (adr ob)=true/\js.getD j 0<ρ.length then some (.tup [.str uL,d],ρ.set (js.getD j 0) (some o')) else none
 | .error c=>if xC ob=true then (fnd c).map fun d=>(d,ρ) else none
def JB(c:List Nat->R->Option (D×R))(F:D->D->Option Bool)(h:R->OD)(u w:MU):MU:=fun S ρ=>(c S ρ).bind fun p=>(h p.2).bind fun y=>(F p.1 y).bind fun b=>if b then u S p.2 else w S p.2
def Gq(c:R->Option Bool)(f:R->OD)(k:Nat)(u:MU):List Nat->R->Option (Except Nat MO):=fun S ρ=>(c ρ).bind fun b=>if b then (f ρ).map fun _=>.error k else (u S ρ).map .ok
def I9(n N j:Nat)(g:List Nat->R->Option (Except Nat MO)):LD->Option (Except Nat (D×D)):=fun ds=>if ds.length=n then (ds[j]?).bind fun ob=>if xC ob=true then (g (adr ob) (AG N ds)).bind fun o=>match o with
 | .error c=>some (.error c)
 | .ok (.nx ρ)=>(J_ j ob .non ρ).map .ok
 | .ok (.rt d ρ)=>(J_ j ob d ρ).map .ok
 else none else none
noncomputable def sB(i:Nat):Stmt->Stmt
 | .For _ _ b _ _=>b.getD i (.Pass ⟨0,0,0,0⟩)
 | .If _ b _ _=>b.getD i (.Pass ⟨0,0,0,0⟩)
 | .FunctionDef _ _ b ..=>b.getD i (.Pass ⟨0,0,0,0⟩)
 | s=>s
def eA(i:Nat):Expr->Expr
 | .Call _ a _ _=>a.getD i (.Name "" ⟨0,0,0,0⟩)
 | e=>e
def NS(q:Str)(N ps:List Str):Expr->B8
 | .Lambda a b c _=>⟨q,a,b,c,N,ps⟩
 | _=>default
def sT:Stmt->Expr
 | .If c ..=>c
 | _=>.Name "" ⟨0,0,0,0⟩
def Rz:Expr->Expr
 | .Compare l ..=>l
 | e=>e
end HW
namespace HW
open PySem PySem.Spec PyProof.Rows L2
section
variable{X:Cx}
theorem Ln(k b:Bool):J6 (.bl k) (.bool b)=(b==k):=by cases k<;>cases b<;>rfl
theorem za{K:W.Frag}{H:Hp}:∀{ds:LD} {bs:List Bool} {vs:List V},bools ds=some bs->i5 K H ds vs->vs.all Cj=true
 | [],_,vs,_,h=>by cases (show vs=[] from h);rfl
 | d::ds,bs,_,e,h=>by
  !⟨v,r,rfl,q,t⟩:=h
  cases d with
  | bl b =>
   !⟨bs',e1,_⟩:=t7 e
   cases (show v=_ from q)
   rw[List.all_cons,za e1 t];rfl
  | _=>cases e
theorem sd:PD X "list.count" CM:=by
 intro pins s σ H x vs v us Q I rx rv h
 !⟨dx,ds,d,r1,r2,e,q⟩:=h
 match dx,ds,e with
 | .lst es,[.bl k],e =>
  !⟨a,xs,rfl,ha,rr⟩:=r1
  cases (show v=_ from rx)
  !⟨u,r',rfl,k1,r2⟩:=r2
  cases (show r'=[] from r2)
  cases (show u=_ from k1)
  !⟨u',rfl,rfl⟩:=vals1 rv
  !⟨bs,e1,e2⟩:=h9 (show(bools es).bind _=some d from e)
  split at e2
  case isFalse=>cases e2
  case isTrue hn =>
  cases e2
  !⟨_,its,n,rv2,hl,eo⟩:=I.lstM ha
  have hits:=z9 e1 rr rv2
  have hEq:=fun (A:Around) (s:Shared)=>jd (A:=A) (s:=s) (x:=.bl k) (v:=.bool k) rfl rfl rv2 (za e1 rr)
  &call_meets PySem.F.slot_list_count ⟨_,eo,rfl⟩ PySem.F.entry_list_count (PySem.F.args_list_count_2 _ _)
   (PySem.SeqAt.list_countAt a its.toArray n none _ (.bool k) (J6 (.bl k))) ⟨eo,fun y hy=>hEq _ _ y (by simpa using hy),?_⟩
  have hcnt:its.toArray.toList.countP (J6 (.bl k))=bs.countP (·==k):=by
   rw[List.toList_toArray,hits,List.countP_map]
   ~congrArg (fun p=>List.countP p bs) (funext fun b=>Ln k b)
  rw[hcnt]
  ~⟨.int ((bs.countP (·==k):Nat):Int),H,I.tok _,⟨_,rfl⟩,q _ H (i6.refl H) rfl⟩
theorem rN:PD X "list.index" CI:=by
 intro pins s σ H x vs v us Q I rx rv h
 !⟨dx,ds,d,r1,r2,e,q⟩:=h
 match dx,ds,e with
 | .lst es,[.bl k],e =>
  !⟨a,xs,rfl,ha,rr⟩:=r1
  cases (show v=_ from rx)
  !⟨u,r',rfl,k1,r2⟩:=r2
  cases (show r'=[] from r2)
  cases (show u=_ from k1)
  !⟨u',rfl,rfl⟩:=vals1 rv
  !⟨bs,e1,e2⟩:=h9 (show(bools es).bind _=some d from e)
  split at e2
  case isFalse=>cases e2
  case isTrue hn =>
  cases e2
  !⟨_,its,n,rv2,hl,eo⟩:=I.lstM ha
  have hits:=z9 e1 rr rv2
  have hEq:=fun (A:Around) (s:Shared)=>jd (A:=A) (s:=s) (x:=.bl k) (v:=.bool k) rfl rfl rv2 (za e1 rr)
  have hj:bs.idxOf k<bs.length:=List.idxOf_lt_length_iff.mpr hn.1
  have hat:∀i (h1:i<its.length) (h2:i<bs.length),J6 (.bl k) its[i]=(bs[i]==k):=fun i h1 h2=>by
   have:its[i]=.bool bs[i]:=by simp[hits]
   rw[this];~Ln k _
  have hlen:its.length=bs.length:=by rw[hits,List.length_map]
  &call_meets PySem.F.slot_list_index ⟨_,eo,rfl⟩ PySem.F.entry_list_index (PySem.F.args_list_index_2 _ _)
   (PySem.SeqAt.list_indexAt a its.toArray n none _ (.bool k) (J6 (.bl k)) (bs.idxOf k) (by simpa [hlen] using hj) (by omega) ?_ ?_) ⟨eo,fun y hy=>hEq _ _ y (by simpa using hy),?_⟩
  ·show J6 (.bl k) its[bs.idxOf k]=true
   rw[hat _ (by omega) hj]
   simpa using List.getElem_idxOf hj
  ·intro j hjs hlt
   show J6 (.bl k) its[j]=false
   rw[hat j (by simpa using hjs) (by omega)]
   ~List.not_of_lt_findIdx (p:=(·==k)) hlt
  ·~⟨.int ((bs.idxOf k:Nat):Int),H,I.tok _,⟨_,rfl⟩,q _ H (i6.refl H) rfl⟩
theorem D5{G:LD->OD}(hG:G=CM\/G=CI){x:D}{ds:LD}{d:D}(h:G (x::ds)=some d):∃es,x=.lst es:=by
 rcases hG with rfl | rfl
 ·cases x with
  | lst z=>~⟨z,rfl⟩
  | _=>cases h
 ·cases x with
  | lst z=>~⟨z,rfl⟩
  | _=>cases h
theorem so{a e:Expr}{es:List Expr}{f:R->OD}{F:R->Option LD}{ap cp:Pos}(ha:SE X a f)(hF:SA X (e::es) F)
  (hbase:attributeBase a "count" X.env (eval a X.env)=eval a X.env:=by rfl)
  (hfew:((backTo cp (starEach (e::es) X.env)).all (fun x=>!x.1)&&(backToKw cp (keywordEach [] X.env)).all (fun x=>x.1.isSome)&&decide ((e::es).length+([]:List Keyword).length+(if ([]:List Keyword).isEmpty then 0 else 1)<30))=true:=by rfl)
  (hline:(ap.endLine==cp.line)=true:=by rfl):SE X (.Call (.Attribute a "count" ap) (e::es) [] cp) (c8 CM (c4 f F)):=by
 have hst:=hF.2.2
 rw[List.all_cons,Bool.and_eq_true] at hst
 &(oM (T:="list") PySem.F.plainAttrs_list PySem.F.slot_list_count PySem.F.type_list_count sd ha hF.1 hbase hfew hline (aF es X.env hst.1) (bv (pos:=cp) (env:=X.env) hst.2)).imp fun σ H Q ⟨ρ,d,er,e,q⟩=>?_
 !⟨dd,e1,e⟩:=h9 e
 !⟨x,e2,e1⟩:=h9 e1
 !⟨ds,e3,e1⟩:=t7 e1
 subst e1
 !⟨es,rfl⟩:=D5 (.inl rfl) e
 ~⟨ρ,_,er,e2,fun v H1 s1 r1=>⟨by!⟨a,xs,rfl,ha,rr⟩:=r1;~.inl ⟨rfl,xs,.inl (.inl ha)⟩,ρ,ds,er.mono s1,e3,fun vs H2 s2 r2=>⟨.lst es,ds,d,r1.mono s2,r2,e,fun u H3 s3 r3=>q u H3 (s1.trans (s2.trans s3)) r3⟩⟩⟩
theorem rF{a e:Expr}{es:List Expr}{f:R->OD}{F:R->Option LD}{ap cp:Pos}(ha:SE X a f)(hF:SA X (e::es) F)
  (hbase:attributeBase a "index" X.env (eval a X.env)=eval a X.env:=by rfl)
  (hfew:((backTo cp (starEach (e::es) X.env)).all (fun x=>!x.1)&&(backToKw cp (keywordEach [] X.env)).all (fun x=>x.1.isSome)&&decide ((e::es).length+([]:List Keyword).length+(if ([]:List Keyword).isEmpty then 0 else 1)<30))=true:=by rfl)
  (hline:(ap.endLine==cp.line)=true:=by rfl):SE X (.Call (.Attribute a "index" ap) (e::es) [] cp) (c8 CI (c4 f F)):=by
 have hst:=hF.2.2
 rw[List.all_cons,Bool.and_eq_true] at hst
 &(oM (T:="list") PySem.F.plainAttrs_list PySem.F.slot_list_index PySem.F.type_list_index rN ha hF.1 hbase hfew hline (aF es X.env hst.1) (bv (pos:=cp) (env:=X.env) hst.2)).imp fun σ H Q ⟨ρ,d,er,e,q⟩=>?_
 !⟨dd,e1,e⟩:=h9 e
 !⟨x,e2,e1⟩:=h9 e1
 !⟨ds,e3,e1⟩:=t7 e1
 subst e1
 !⟨es,rfl⟩:=D5 (.inr rfl) e
 ~⟨ρ,_,er,e2,fun v H1 s1 r1=>⟨by!⟨a,xs,rfl,ha,rr⟩:=r1;~.inl ⟨rfl,xs,.inl (.inl ha)⟩,ρ,ds,er.mono s1,e3,fun vs H2 s2 r2=>⟨.lst es,ds,d,r1.mono s2,r2,e,fun u H3 s3 r3=>q u H3 (s1.trans (s2.trans s3)) r3⟩⟩⟩
def QR(X:Cx)(x:Str)(c:Value):Prop:=∀pins σ H s (Q:Value->Shared->Prop) p,L2.Inv X pins σ H s->Q c s->wpAny (model X.prog X.w) X.A (eval (.Name x p) X.env) Q X.xe s
theorem IU{x:Str}{c:Value}(hm:X.mg x=some c)(hg:Gl X x:=by rfl)(hd:(x==("__debug__" : Str))=false:=by decide):QR X x c:=fun pins σ H s Q p I h=>eE I hg hm h hd
theorem M2{x:Str}{c:Value}(hm:X.mg x=none)(hv:bootBuiltins x=some c:=by kernel_rfl)(hg:Gl X x:=by rfl)(hn:x ≠ "__name__":=by decide)(hd:(x==("__debug__" : Str))=false:=by decide):QR X x c:=fun pins σ H s Q p I h=>cJ I hg hm hv h hn hd
theorem om{C W e:Addr}{oe:Obj}{newId nW:String}{n x:Str}{cv:Value}{b:Bool}{p p1 p2 pos:Pos}(j:Nat)(T:EF X.K C W newId nW)(hp:(e,oe)∈X.pn)(hcl:oe.cls=.ref C)(hk:PySem.W.kitOne X.K (.ref C) cv=some b)(hx:QR X x cv)(hm:X.mg "isinstance" = none)
  (hN:X.N[j]?=some n:=by rfl) (hv:Ca X.env.scope n:=by first | ~Or.inl rfl | ~Or.inr (Or.inl rfl) | ~Or.inr (Or.inr rfl)) (hg:Gl X "isinstance":=by rfl) (hd:(n==("__debug__" : Str))=false:=by decide) (hcd:(n==("__classdict__" : Str))=false:=by decide) :
  SE X (.Call (.Name "isinstance" p) [.Name n p1,.Name x p2] [] pos) (Hl j e b):=by
 intro pins s σ H Q I ⟨ρ,d,er,e1,q⟩
 have hb:d=.bl b/\c5 j ρ=some (.rf e):=by
  unfold Hl at e1
  split at e1
  ·rename_i a' hat
   split at e1
   ·rename_i ha
    cases e1
    ~⟨rfl,by rw[hat,ha]⟩
   ·cases e1
  ·cases e1
 !⟨rfl,hat⟩:=hb
 !⟨v,hσ,rv⟩:=er.at hat
 cases (show v=_ from rv)
 have st1:=aF (e:=.Name n p1) [.Name x p2] X.env rfl
 &wpAny_Call_Name_kw (cJ I hg hm (show bootBuiltins "isinstance" = some (.builtin "isinstance") by kernel_rfl) ?_ (by decide) (by decide))
 &PyProof.Rows.callWith_builtin1 ?_ st1 (bv (pos:=pos) (env:=X.env) (es:=[.Name x p2]) rfl)
 &spliced_more (uo ((jx (pos:=p1) hN hv hd hcd) pins s σ H (fun v H1=>v=.ref e/\H1=H) I ⟨.ref e,hσ,rfl,rfl⟩) fun u s1 ⟨y,H1,I1,r1,ey,eH⟩=>?_) st1
 subst ey eH
 cases (show u=_ from r1)
 &spliced_more (hx pins σ H1 s1 _ p2 I1 ?_) (aF (e:=.Name x p2) [] X.env rfl)
 &spliced_none ?_
 &W.kia_one (I8 (a:=e) T hcl) I1.kIn (I1.pin _ (List.mem_append_left _ hp)).1 hk (fun z=>by cases z) fun tk=>?_
 ~⟨.bl b,H1,I1.kept (t':=tk) fun b o eb=>eb,rfl,q _ H1 (i6.refl H1) rfl⟩
end
theorem EM{K:W.Frag}{C N:Addr}{bm bs sub:List Value}{newId:String}{nm q:Str}{hdct ab:Bool}{sn:List Str}{col:Option Bool}{dd:Option Addr}{k0 k1 k2 k3 k5:Option Value}
  (l:K.lookup C=some (excClassObj nm q C N bs bm hdct sn sub ab col dd k0 k1 k2 k3 k5 newId)) (ex:W.excIn K C VE newId=true) (h0:W.nsIn K N "__init__" = some none) (h1:W.nsIn K N "__getattribute__" = some none) (h2:W.nsIn K N "__getattr__" = some none) (h3:W.nsIn K N "__class__" = some none):GO K C bm newId:=by
 have hok:W.nsOkIn K N=true:=by
  unfold W.excIn at ex
  rw[l] at ex
  simp only[Bool.and_eq_true] at ex
  ~ex.1.2
 have hN:∃c d es n sl,K.lookup N=some ⟨c,d,.dict es n,sl⟩:=by
  unfold W.nsOkIn at hok
  split at hok
  ·rename_i c d es n sl ho
   ~⟨_,_,_,_,_,ho⟩
  ·cases hok
 !⟨c,d,es,ep,sl,hl⟩:=hN
 have nsH:∀h,K.In h->h.Ns N (fun x=>nsFind es x):=fun h x=>by
  !⟨o,es',ep',ho,hd,hs,hf⟩:=Heap.Ns.of_isNs (W.isNs_of_in x hok)
  have:=x _ _ hl
  rw[ho] at this
  cases this
  cases hd
  ~⟨_,es,ep,ho,rfl,hs,fun _=>rfl⟩
 &⟨N,nm,q,bs,hdct,sn,sub,ab,col,dd,k0,k1,k2,k3,k5,fun x=>nsFind es x,fun n hn=>?_,fun h x=>⟨x _ _ l,nsH h x⟩⟩
 have none_of:∀n,W.nsIn K N n=some none->nsFind es n=none:=fun n e=>by
  unfold W.nsIn at e
  rw[hl] at e
  dsimp only at e
  split at e
  ·cases e
  ·rename_i he
   unfold nsFind findBy
   rw[<- Array.find?_toList,he]
   rfl
 simp only[NM,List.mem_cons,List.not_mem_nil,or_false] at hn
 rcases hn with rfl | rfl | rfl | rfl
 ·~none_of _ h0
 ·~none_of _ h1
 ·~none_of _ h2
 ·~none_of _ h3
theorem Eo{K:W.Frag}{C:Addr}:W.kitOne K (.ref C) (.ref C)=some true:=by unfold W.kitOne;rw[if_pos (by simp)]
theorem CC{K:W.Frag}{C C':Addr}{cd:ClassData}(hne:(Value.ref C==Value.ref C')=false)(h1:W.clsIn K C'=some cd)(h2:W.typeIn K (.ref C')=some (.type "type")){b:Bool}(h3:W.subIn K (.ref C) (.ref C')=some b):W.kitOne K (.ref C) (.ref C')=some b:=by
 unfold W.kitOne
 rw[if_neg (by rw[hne];decide)]
 unfold W.kitCls
 dsimp only
 rw[h1,h2,if_pos (by rfl)]
 ~h3
theorem Gd{K:W.Frag}{C:Addr}{T:String}{b:Bool}(hmt:W.kitMeta T=true)(h3:W.subIn K (.ref C) (.type T)=some b):W.kitOne K (.ref C) (.type T)=some b:=by
 unfold W.kitOne
 rw[if_neg (by intro z;cases beq_iff_eq.mp z)]
 unfold W.kitCls
 dsimp only
 rw[if_pos hmt]
 ~h3
abbrev NV:String:="ValueError.__new__"
structure HH (K:W.Frag) (mg:Str->Option Value) (ca:Nat->Addr) (Wz:Addr):Prop where
 two:∀c,c<2->EF K (ca c) Wz NV NV
 k0:∀c,c<2->W.kitOne K (.ref (ca c)) (.ref (ca 0))=some (c==0)
 k1:∀c,c<2->W.kitOne K (.ref (ca c)) (.ref (ca 1))=some (c==1)
 kv:∀c,c<2->W.kitOne K (.ref (ca c)) (.type "ValueError")=some true
 m0:mg "NoText" = some (.ref (ca 0))
 m1:mg "NoDeed" = some (.ref (ca 1))
 mw:mg "WatchError" = some (.ref Wz)
section
variable{X:Cx}{ca:Nat->Addr}{Wz:Addr}{e:Expr}{es:List Expr}{f:R->OD}{F:R->Option LD}{p pos np cpos:Pos}
theorem Hc(EK:HH X.K X.mg ca Wz)(hc:X.calm=true)(ha:SE X e f)(hg:Gl X "NoDeed":=by rfl)(hst:noStar e=true:=by rfl):QQ ca X (.Raise (some (.Call (.Name "NoDeed" np) [e] [] cpos)) none pos) (Fs 1 f):=
 H8 (EK.two 1 (by decide)) PySem.F.excBase_ValueError (by decide) hc EK.m1 ha hg (by decide) hst
end
section
variable{X:Cx}{ca:Nat->Addr}{Wz:Addr}{n y:Str}{np apos hpos pos rp yp:Pos}{tg e0:Expr}{b₀:Stmt}{suite:List Stmt}{fx:XD}{stf:D->R->Option R}{gs:Nat->Nat->R->Option Out}
end
section
variable{X:Cx}{k1 k2 v1 v2:Str}{ke1 ke2 e1 e2 i:Expr}{g:R->OD}{pd pos:Pos}
end
def M3(a0 a1:Addr):Nat->Addr
 | 0=>a0
 | _=>a1
structure L4 (K:W.Frag) (a0 a1 aw:Addr):Prop where
 c0:GO K a0 (.ref aw::VE) NV
 c1:GO K a1 (.ref aw::VE) NV
 cw:GO K aw VE NV
 k01:W.kitOne K (.ref a0) (.ref a1)=some false
 k10:W.kitOne K (.ref a1) (.ref a0)=some false
 kv0:W.kitOne K (.ref a0) (.type "ValueError")=some true
 kv1:W.kitOne K (.ref a1) (.type "ValueError")=some true
theorem Me{K:W.Frag}{h:Heap}{mg:Str->Option Value}{a0 a1 aw:Addr}(X:K.In h)(G:h.Ns mainGlobals mg)(n0:W.nsIn K mainGlobals "NoText" = some (some (.ref a0)))(n1:W.nsIn K mainGlobals "NoDeed" = some (some (.ref a1)))(nw:W.nsIn K mainGlobals "WatchError" = some (some (.ref aw)))(p:L4 K a0 a1 aw):HH K mg (M3 a0 a1) aw:=by
 &⟨fun c hc=>?_,fun c hc=>?_,fun c hc=>?_,fun c hc=>?_,W.mg_of X G n0,W.mg_of X G n1,W.mg_of X G nw⟩
 all_goals (have:c=0\/c=1:=by omega)
 ·rcases this with rfl | rfl
  ·~⟨p.c0,p.cw⟩
  ·~⟨p.c1,p.cw⟩
 ·rcases this with rfl | rfl
  ·~Eo
  ·~p.k10
 ·rcases this with rfl | rfl
  ·~p.k01
  ·~Eo
 ·rcases this with rfl | rfl
  ·~p.kv0
  ·~p.kv1
theorem errp_mk{K:W.Frag}{a0 a1 aw:Addr}{cd0 cd1:ClassData}{N0:Addr}{bs0 sub0:List Value}{nm0 q0:Str}{hd0 ab0:Bool}{sn0:List Str}{col0:Option Bool}{dd0:Option Addr}{k00 k10 k20 k30 k50:Option Value}{N1:Addr}{bs1 O9:List Value}{nm1 q1:Str}{hd1 ab1:Bool}{sn1:List Str}{col1:Option Bool}{dd1:Option Addr}{k01 k11 k21 k31 k51:Option Value}{Nw:Addr}{bsw subw:List Value}{nmw qw:Str}{hdw abw:Bool}{snw:List Str}{colw:Option Bool}{ddw:Option Addr}{k0w k1w k2w k3w k5w:Option Value}(l0:K.lookup a0=some (excClassObj nm0 q0 a0 N0 bs0 (.ref aw::VE) hd0 sn0 sub0 ab0 col0 dd0 k00 k10 k20 k30 k50 NV))(x0:W.excIn K a0 VE NV=true)(i0:W.nsIn K N0 "__init__" = some none)(g0:W.nsIn K N0 "__getattribute__" = some none)(e0:W.nsIn K N0 "__getattr__" = some none)(rr0:W.nsIn K N0 "__class__" = some none)(l1:K.lookup a1=some (excClassObj nm1 q1 a1 N1 bs1 (.ref aw::VE) hd1 sn1 O9 ab1 col1 dd1 k01 k11 k21 k31 k51 NV))(x1:W.excIn K a1 VE NV=true)(i1:W.nsIn K N1 "__init__" = some none)(g1:W.nsIn K N1 "__getattribute__" = some none)(e1:W.nsIn K N1 "__getattr__" = some none)(rr1:W.nsIn K N1 "__class__" = some none)(lw:K.lookup aw=some (excClassObj nmw qw aw Nw bsw VE hdw snw subw abw colw ddw k0w k1w k2w k3w k5w NV))(xw:W.excIn K aw VE NV=true)(iw:W.nsIn K Nw "__init__" = some none)(gw:W.nsIn K Nw "__getattribute__" = some none)(ew:W.nsIn K Nw "__getattr__" = some none)(rrw:W.nsIn K Nw "__class__" = some none)
  (ne:(Value.ref a0==Value.ref a1)=false) (en:(Value.ref a1==Value.ref a0)=false) (d0:W.clsIn K a0=some cd0) (d1:W.clsIn K a1=some cd1) (t0:W.typeIn K (.ref a0)=some (.type "type")) (t1:W.typeIn K (.ref a1)=some (.type "type"))
  (s01:W.subIn K (.ref a0) (.ref a1)=some false) (s10:W.subIn K (.ref a1) (.ref a0)=some false) (v0:W.subIn K (.ref a0) (.type "ValueError")=some true) (v1:W.subIn K (.ref a1) (.type "ValueError")=some true):L4 K a0 a1 aw:=
 ⟨EM l0 x0 i0 g0 e0 rr0,EM l1 x1 i1 g1 e1 rr1,EM lw xw iw gw ew rrw,CC ne d1 t1 s01,CC en d0 t0 s10,Gd (by kernel_rfl) v0,Gd (by kernel_rfl) v1⟩
theorem tm{X:Cx}:EE X .Eq vY:=by
 intro pins s σ H x y v u Q I rx ry h
 !⟨dx,dy,b,r1,r2,e,q⟩:=h
 have sc:IT x y=true->decide (x=y)=b->wpAny (model X.prog X.w) X.A (compareOp .Eq v u) (EP X pins σ Q) X.xe s:=fun z1 z2=>Lw pins s σ H x y v u Q I rx ry ⟨z1,by rw[z2];~q⟩
 cases dx with
 | int i=>!⟨j,e1,e⟩:=t7 e;cases (show x=_ from r1);cases vI e1 r2;~sc rfl (zE.trans e)
 | str i=>!⟨j,e1,e⟩:=t7 e;cases (show x=_ from r1);cases Eh e1 r2;~sc rfl (zz.trans e)
 | bl i=>!⟨j,e1,e⟩:=t7 e;cases (show x=_ from r1);cases HU e1 r2;~sc rfl (AU.trans e)
 | _=>cases e
section
variable{K:W.Frag}{H:Hp}
theorem D1{K:W.Frag}{H:Hp}{ρ:R}{σ:L2.St}(er:ut K H ρ σ):∀{js:List Nat} {cs:LD},Cz js ρ=some cs->∃vs,i5 K H cs vs/\vs.length=js.length/\∀(i j:Nat) (v:V),js[i]?=some j->vs[i]?=some v->σ[j]?=some (some v)
 | [],_,h=>by cases h;~⟨[],rfl,rfl,fun i j v h=>by cases h⟩
 | j::js,cs,h=>by
  !⟨d,e1,h⟩:=h9 h
  !⟨cs',e2,rfl⟩:=t7 h
  !⟨v,hσ,rv⟩:=er.at e1
  !⟨vs,r,hl,hg⟩:=D1 er e2
  &⟨v::vs,⟨v,vs,rfl,rv,r⟩,by simp[hl],fun i j' v' h1 h2=>?_⟩
  cases i with
  | zero=>cases h1;cases h2;~hσ
  | succ i=>~hg i j' v' h1 h2
end
structure HV (X:Cx) (t:B8) (cl:List (Str×Addr)) (ct:wk) (js:List Nat):Prop where
 TB:vS X.mg [ct] X.base
 hT:X.H₀ ct.P=some (.tbl ct.q false)
 tq:t.q=ct.q
 code:X.env.code=.ref ct.c
 qual:X.env.qual ++ "<lambda>" = ct.q
 hcl:closureFor t.scope X.env=pure cl
 hdf:defaultsOf t.params X.env=([],[])
 own:IQ X cl
 sc:ww t.N t.ps t.scope cl
 hjs:js.map (fun j=>X.N[j]?)=(t.N.drop t.ps.length).map some
 hcn:∀y c,cl.lookup y=some c->y∈t.N.drop t.ps.length
theorem Jg{X:Cx}{t:B8}{ct:wk}{x:Str}{c:Addr}{j:Nat}(TB:vS X.mg [ct] X.base)(hT:X.H₀ ct.P=some (.tbl ct.q false))(tq:t.q=ct.q)(code:X.env.code=.ref ct.c)(qual:X.env.qual ++ "<lambda>" = ct.q)
  (fn:∀x,X.fn x=true) (hcl:closureFor t.scope X.env=pure [(x,c)]) (hdf:defaultsOf t.params X.env=([],[])) (hcell:X.env.cells.lookup x=some c) (hk:X.env.scope.names.lookup x=some .cell) (hN:X.N[j]?=some x)
  (kd:t.scope.kind=.function) (co:t.scope.isCoroutine=false) (gen:t.scope.isGenerator=false) (nd:t.N.Nodup) (hn:t.N=t.ps++[x]) (par:∀y∈t.ps,t.scope.names.lookup y=some .local) (noc:∀y∈t.scope.names,y.2≠.cell)
  (fre:t.scope.names.lookup x=some .free) (only:∀y∈t.scope.names,y.2=.free->y.1=x):HV X t [(x,c)] ct [j]:=by
 have hdr:t.N.drop t.ps.length=[x]:=by rw[hn,List.drop_left]
 have lk:∀y c',List.lookup y [(x,c)]=some c'->y=x/\c'=c:=fun y c' h=>by
  rw[List.lookup_cons] at h
  cases q:y==x with
  | true=>rw[q] at h;cases h;~⟨eq_of_beq q,rfl⟩
  | false=>rw[q] at h;cases h
 have lkx:List.lookup x [(x,c)]=some c:=by rw[List.lookup_cons];simp
 &⟨TB,hT,tq,code,qual,hcl,hdf,⟨fn,by simp,fun y c' h=>?_⟩,⟨kd,co,gen,nd,by rw[hn,List.take_left],par,noc,fun y hy=>?_,fun y hy=>?_,by simp,fun y z c' h1 h2=>by rw[(lk y c' h1).1,(lk z c' h2).1]⟩,by rw[hdr];simp[hN],fun y c' h=>by rw[hdr,(lk y c' h).1];~List.mem_singleton.mpr rfl⟩
 ·!⟨rfl,rfl⟩:=lk y c' h
  ~⟨hcell,hk⟩
 ·rw[hdr] at hy
  rw[List.mem_singleton.mp hy]
  ~fre
 ·have:=only _ (PySem.mem_of_lookup hy) rfl
  rw[show y=x from this]
  ~⟨c,lkx⟩
def GJ(K:W.Frag)(H:Hp)(ob:D)(Q:VK)(Er:Nat->Hp->Prop):Except Nat (D×D)->Prop
 | .ok (d,o')=>∀v H',uQ (adr ob) H H'->t9 (adr ob) H'->Rep K H' d v->Rep K H' o' (.ref (Ag ob))->Q v H'
 | .error c=>∀H',i6 H H'->Er c H'
theorem GJ.imp{K:W.Frag}{H:Hp}{ob:D}{Q Q':VK}{Er Er':Nat->Hp->Prop}{r:Except Nat (D×D)}(h:GJ K H ob Q Er r)(h1:∀v H',Q v H'->Q' v H')(h2:∀c H',Er c H'->Er' c H'):GJ K H ob Q' Er' r:=by
 match r,h with
 | .ok (d,o'),h=>~fun v H' a b c e=>h1 _ _ (h v H' a b c e)
 | .error c,h=>~fun H' s=>h2 _ _ (h H' s)
section
variable(ca:Nat->Addr)
def QY(X:Cx)(j:Nat)(g:MX):TE:=fun σ H Q=>∃ ρ ob r,ut X.K H ρ σ/\c5 j ρ=some ob/\xC ob=true/\g ρ=some r/\GJ X.K H ob Q (fun c H'=>XW X (ca c) H') r
def M4(K:W.Frag)(n:Nat)(G:LD->Option (Except Nat (D×D))):Sp:=fun vs H Q E=>∃ob ds r,(ob::ds).length=n/\i5 K H (ob::ds) vs/\xC ob=true/\G (ob::ds)=some r/\GJ K H ob Q (fun c H'=>E (.ref (ca c)) none H') r
structure Fi (P:Program) (w:World) (K:W.Frag) (mg:Str->Option Value) (base:Heap) (k C:Nat) (m:Str) (ps:List Str) (G:LD->Option (Except Nat (D×D))):Prop where
 ex:∃f fd,k6 P w K mg base (AS P w) k f fd ps (M4 ca K ps.length G)/\DW K C m f/\Binds K fd ps []
end
theorem Fi.m{ca:Nat->Addr}{P:Program}{w:World}{K:W.Frag}{mg:Str->Option Value}{base:Heap}{k k' C:Nat}{x:Str}{ps:List Str}{G:LD->Option (Except Nat (D×D))}(h:Fi ca P w K mg base k C x ps G)(hk:k<=k':=by decide):Fi ca P w K mg base k' C x ps G:=by
 !⟨f,fd,a,b⟩:=h.ex
 ~⟨f,fd,a.mono hk,b⟩
section
variable{X:Cx}{ca:Nat->Addr}{pos apos:Pos}{k C:Nat}{mn x:Str}{ps:List Str}{G:LD->Option (Except Nat (D×D))}
theorem rB (j:Nat) (c:yN X.K C) (M:Fi ca X.prog X.w X.K X.mg X.base k C mn ps G) (hr:ua k X.A) (hps:ps.length=1) {px:Pos} (hN:X.N[j]?=some x:=by rfl) (hv:Ca X.env.scope x:=by first | ~Or.inl rfl | ~Or.inr (Or.inl rfl) | ~Or.inr (Or.inr rfl))
    (hd:(x==("__debug__" : Str))=false:=by decide) (hcd:(x==("__classdict__" : Str))=false:=by decide) {pl:Sem Bool}
    (ht:eval (.Call (.Attribute (.Name x px) mn apos) [] [] pos) X.env=(do
      let ov <- eval (.Name x px) X.env
      standAt apos.atName
      let (f,first) <- holding [ov] (getMethod ov mn pl)
      callWith pos f first (backTo pos (starEach [] X.env)) (backToKw pos (keywordEach [] X.env))):=by rfl):PE X (.Call (.Attribute (.Name x px) mn apos) [] [] pos) (QY ca X j (zu C mn j G c7)):=by
  !⟨f,fd,F,hm,bd⟩:=M.ex
  &(lZ (pv j (pos:=px) hN hv hd hcd) c hm F hr bd .nil LE ht).imp fun σ H Q ⟨ρ,ob,r,er,hat,ho,e,q⟩=>?_
  !⟨ob',e1,z1⟩:=h9 e
  rw[hat] at e1
  cases e1
  !⟨ds,e2,z2⟩:=h9 z1
  cases e2
  clear e z1
  match ob,z2,hat,ho,q with
  | .obj kk a ks es',z2,hat,ho,q =>
    have e:(if kk=C+2/\ks.contains mn=false then G [.obj kk a ks es'] else none)=some r:=z2
    split at e
    case isFalse=>cases e
    case isTrue hc =>
    !⟨rfl,hk⟩:=hc
    !⟨v,hσ,rv⟩:=er.at hat
    have rv':=rv
    !⟨xs,ev,⟨hl,dx,hH⟩,t⟩:=rv
    subst ev
    &⟨.ref a,hσ,a,dx,_,rfl,hH,zY hk,?_⟩
    ~⟨.obj (C+2) a ks es',[],r,hps.symm,⟨_,[],rfl,rv',rfl⟩,rfl,e,q.imp (fun _ _ z=>z) fun c H' z=>⟨_,rfl,z⟩⟩
end
def BV(ca:Nat->Addr)(K:W.Frag)(t:B8)(j:Nat)(g:MX)(f c':Addr)(cl:List (Str×Addr))(pm ctv:Value):Sp:=fun vs H Q E=>vs=[]/\H f=some (xD (W.kla_obj "<lambda>" t.q t.params t.body t.scope cl pm c' ctv))/\H c'=some (.tbl t.q true) /\
 ∃caps ds ob r,zj H t.N t.ps cl caps/\i5 K H ds caps/\ds[j]?=some ob/\xC ob=true/\g (ds.map some)=some r/\GJ K H ob Q (fun c H'=>E (.ref (ca c)) none H') r
theorem N_{ca:Nat->Addr}{P:Program}{w:World}{K:W.Frag}{mg:Str->Option Value}{base:Heap}{k:Nat}{t:B8}{j:Nat}{g:MX}(hps:t.ps=[])
  (hb:∀(cl:List (Str×Addr)) (f c':Addr) (A:Around) (outer:List Env) (s:Shared) (H:Hp) (E:XK),ww t.N t.ps t.scope cl->ua k (A.deeper (W.envX t.q t.scope s.heap.objs.size f (.ref c') cl))->PE (Br (AS P w) P w K mg base t.N t.q t.scope cl f (.ref c') A outer s H E) t.body (QY ca (Br (AS P w) P w K mg base t.N t.q t.scope cl f (.ref c') A outer s H E) j g))
  (f c':Addr) (cl:List (Str×Addr)) (pm ctv:Value) (S:ww t.N t.ps t.scope cl):k6 P w K mg base (AS P w) (k+1) f (W.kla_fn "<lambda>" t.q t.params t.body t.scope cl pm (.ref c') ctv) t.ps (BV ca K t j g f c' cl pm ctv):=by
 &MW S (fun vs H Q E ⟨h,_⟩=>by rw[h,hps];rfl) (fun vs H Q E ⟨_,h1,h2,_⟩=>⟨h1,h2⟩) (fun A outer s H vs Q E hr e0 h=>?_)
 !⟨rfl,h1,h2,caps,ds,ob,r,h3,r2,hj,ho,e,q⟩:=h
 have hC:∀b,uG cl b=true->∃o,H b=some (xD o):=fun b hb=>let ⟨o,_,z,_⟩:=h3.2.1 b hb;⟨o,z⟩
 have dc:=AW hC
 have rd:i5 K (u9 cl H) ds caps:=i5.clo dc r2
 &⟨caps,_,h3,hb cl f c' A outer s H E S hr,ds.map some,ob,r,?_,?_,ho,e,?_⟩
 ·~pY rd
 ·show(ds.map some).getD j none=some ob
  rw[List.getD_eq_getElem?_getD,List.getElem?_map,hj];rfl
 ·match r,q with
  | .ok (d,o'),q =>
   &fun v H2 kq m2 rv ro bk=>q v _ (fun b u hn hu=>?_) (fun b hb=>?_) (rv.mono fun b u hu=>bk b u hu) (ro.mono fun b u hu=>bk b u hu)
   ·show(if uG cl b then H b else H2 b)=some u
    cases qc:uG cl b with
    | true=>~hu
    | false=>~kq b u hn (by rw[vO qc];~hu)
   ·have:=m2 b hb
    cases hz:H2 b with
    | none=>rw[hz] at this;~this.elim
    | some u=>rw[bk b u hz];rw[hz] at this;~this
  | .error c,q =>
   &fun H2 s2=>Mj S h3 e0.hok e0.frf (q _ fun b u hu=>?_) s2
   show(if uG cl b then H b else H2 b)=some u
   cases qc:uG cl b with
   | true=>~hu
   | false=>~s2 b u (by rw[vO qc];~hu)
section
variable(ca:Nat->Addr)
def RE(X:Cx)(S:List Nat)(g:List Nat->R->Option (Except Nat MO)):TS:=fun E σ H=>∃ ρ τ o,uq X.K H ρ τ σ/\t9 S H/\g S ρ=some o/\match o with
 | .ok mo=>∀H',uQ S H H'->t9 S H'->Oh X.K E τ mo H'
 | .error c=>∀H',i6 H H'->XT X (ca c) H'
def Rb(X:Cx)(sts:List Stmt)(g:List Nat->R->Option (Except Nat MO)):Prop:=∀S,PSs X sts (RE ca X S g)
end
section
variable{X:Cx}{ca:Nat->Addr}{pos:Pos}
theorem IL{c:Expr}{st:Stmt}{sts:List Stmt}{s:R->Option Bool}{f:R->OD}{u:MU}{n:Nat}(hc:ST X c s)(hr:QQ ca X st (Fs n f))(hu:EL X sts u):Rb ca X (.If c [st] [] pos::sts) (Gq s f n u):=fun S =>
 (dl (jH hc (da hr) zQ) (hu S)).imp fun E σ H ⟨ρ,τ,o,er,m,e,q⟩=>by
  !⟨b,e1,e⟩:=h9 e
  &⟨ρ,b,er.1,e1,fun H1 s1=>?_⟩
  cases b with
  | true =>
   rw[if_pos rfl] at e ⊢
   !⟨d,e2,e3⟩:=t7 e
   subst e3
   &⟨ρ,τ,.error n,er.mono s1,?_,fun H2 s2=>q H2 (s1.trans s2)⟩
   show(f ρ).map _=_
   rw[e2];rfl
  | false =>
   rw[if_neg Bool.false_ne_true] at e ⊢
   !⟨mo,e2,e3⟩:=t7 e
   subst e3
   ~⟨ρ,τ,mo,er.mono s1,m.same s1,e2,fun H2 k2 m2=>q H2 ((uQ.of s1).trans k2) m2⟩
end
theorem qQ{ca:Nat->Addr}{P:Program}{w:World}{K:W.Frag}{mg:Str->Option Value}{base:Heap}{x qual:Str}{st:Stmt}{f:Addr}{fd:FuncData}{N ps:List Str}{k:Nat}{g:List Nat->R->Option (Except Nat MO)}
  (Fn:uv K x qual st f fd) (Sc:c9 N ps (c6 st))
  (hb:∀(cdv:Value) (A:Around) (outer:List Env) (s:Shared) (H:Hp) (E:XK),ua k (A.deeper (envOfC qual (c6 st) s.heap.objs.size f cdv))->Rb ca (yi (AS P w) P w K mg base N qual (c6 st) f cdv A outer s H E) (uh st) g) :
  k6 P w K mg base (AS P w) (k+1) f fd ps (M4 ca K ps.length (I9 ps.length N.length 0 g)):=by
 !⟨oc,od,kV,doc,pm,an,cdv,ct,osl,rfl,lk,hcd⟩:=Fn.ex
 &qX lk hcd Sc (fun vs H Q E h=>?_) (fun A outer s H vs Q E hr h=>?_)
 ·!⟨ob,ds,r,hl,rr,_⟩:=h
  rw[<- rr.length];~hl
 ·!⟨ob,ds,r,hl,rr,ho,e,q⟩:=h
  unfold I9 at e
  rw[if_pos hl] at e
  have e':(if xC ob=true then _ else none)=some r:=e
  rw[if_pos ho] at e'
  !⟨o,e1,e2⟩:=h9 e'
  !⟨v,hv,rv⟩:=rr.get (i:=0) rfl
  have ms:=xH rv
  &⟨_,hb cdv A outer s H E hr (adr ob),AG N.length (ob::ds),_,o,(zM rr).t,ms,e1,?_⟩
  match o,e2 with
  | .error c,e2 =>
   cases e2
   ~fun H1 s1=>L5 (q H1 s1) s1
  | .ok (.nx ρ),e2 =>
   !⟨⟨d,o'⟩,e3,e4⟩:=t7 e2
   subst e4
   intro H1 k1 m1 σ' er'
   !⟨ob',e5,e6⟩:=h9 e3
   split at e6
   ·rename_i hc
    obtain⟨rfl,rfl⟩:D.non=d/\ob'=o':=by simpa using e6
    have rr2:=(MV.of er'.1) 0 ob' (AK e5) hc.1
    rw[AQ hc.1 ho hc.2] at rr2
    ~q .non H1 k1 m1 rfl rr2
   ·cases e6
  | .ok (.rt d' ρ),e2 =>
   !⟨⟨d,o'⟩,e3,e4⟩:=t7 e2
   subst e4
   intro H1 k1 m1 v rv ob1
   !⟨ob',e5,e6⟩:=h9 e3
   split at e6
   ·rename_i hc
    obtain⟨rfl,rfl⟩:d'=d/\ob'=o':=by simpa using e6
    have rr2:=ob1 0 ob' (AK e5) hc.1
    rw[AQ hc.1 ho hc.2] at rr2
    ~q v H1 k1 m1 rv rr2
   ·cases e6
def BC(P:Program)(w:World)(K:W.Frag)(mg:Str->Option Value)(base:Heap)(ca:Nat->Addr)(k:Nat)(fnd:Nat->OD):Sp:=fun vs H Q _=>∃(t:B8) (j:Nat) (g:MX) (f c':Addr) (cl:List (Str×Addr)) (pm ctv:Value),vs=[.ref f]/\t.ps=[] /\
 k6 P w K mg base (AS P w) k f (W.kla_fn "<lambda>" t.q t.params t.body t.scope cl pm (.ref c') ctv) t.ps (BV ca K t j g f c' cl pm ctv)/\Binds K (W.kla_fn "<lambda>" t.q t.params t.body t.scope cl pm (.ref c') ctv) t.ps [] /\
 BV ca K t j g f c' cl pm ctv [] H (fun v H1=>∀p,H1 p=none->Q (.ref p) (upd H1 p (.tup [.str uL,v]))) (fun Cv _ H1=>∃c d,Cv=.ref (ca c)/\fnd c=some d/\∀v H2,i6 H1 H2->Rep K H2 d v->Q v H2)
theorem BV.imp{ca:Nat->Addr}{K:W.Frag}{t:B8}{j:Nat}{g:MX}{f c':Addr}{cl:List (Str×Addr)}{pm ctv:Value}{vs:List V}{H:Hp}{Q Q':VK}{E E':XK}(h:BV ca K t j g f c' cl pm ctv vs H Q E)(h1:∀v H',Q v H'->Q' v H')(h2:∀c H',E (.ref (ca c)) none H'->E' (.ref (ca c)) none H'):BV ca K t j g f c' cl pm ctv vs H Q' E':=by
 !⟨a,b,c,caps,ds,ob,r,d,e,f1,g1,h3,q⟩:=h
 ~⟨a,b,c,caps,ds,ob,r,d,e,f1,g1,h3,q.imp h1 h2⟩
section
variable{X:Cx}{ca:Nat->Addr}{Wz:Addr}{y n dn:Str}{np dp cp tp yp yp2 rp lp apos hpos pos:Pos}{b₀:Stmt}{suite:List Stmt}{gs:Nat->Nat->R->Option Out}{k:Nat}{x1:_}{js1:_}
theorem qy{fnd:Nat->OD}(i j jf:Nat)(EK:HH X.K X.mg ca Wz)(hr:ua k X.A)(hc:X.calm=true)(hcells:X.env.cells=[])(hstk:X.stack=X.env::X.outer)(hfr:X.env.frame=some X.env.locals)(hex:X.ex=[])(hN:X.N.Nodup)
  (hs:∀pins e oe c,c<2->oe.cls=.ref (ca c)->SS (Pc X pins e oe) (b₀::suite) (gs c e)) (hf:∀c d,fnd c=some d->c<2/\∀e:Nat,∃ ρ',gs c e (Mm X.N.length j e)=some (.nx ρ')/\c5 jf (ρ'.set j none)=some d)
  (hiN:X.N[i]?=some dn:=by rfl) (hiv:Ca X.env.scope dn:=by first | ~Or.inl rfl | ~Or.inr (Or.inl rfl) | ~Or.inr (Or.inr rfl)) (K_:(dn==("__debug__" : Str))=false:=by decide) (hicd:(dn==("__classdict__" : Str))=false:=by decide)
  (hyN:X.N[jf]?=some y:=by rfl) (hyl:Loc X.env.scope y:=by first | ~Or.inl rfl | ~Or.inr rfl) (hyv:Ca X.env.scope y:=by first | ~Or.inl rfl | ~Or.inr (Or.inl rfl) | ~Or.inr (Or.inr rfl)) (hyd:(y==("__debug__" : Str))=false:=by decide) (hycd:(y==("__classdict__" : Str))=false:=by decide)
  (hyf:X.fn y=true\/X.env.scope.names.lookup y=some .local:=by first | ~.inl rfl | ~.inr rfl) (hlt:jf<X.N.length:=by decide)
  (hsw:swapsWith (.Tuple [.Constant (.str uL) js1 lp,.Call (.Name dn dp) [] [] cp] x1 tp) (some (.Name y yp)) apos.line X.env=pure false:=by rfl)
  (hj:X.N[j]?=some n:=by rfl) (hloc:X.env.kindOf n=some .local:=by rfl) (hgl:Gl X "WatchError":=by rfl) :
  PSs X [.Try [.Assign [.Name y yp] (.Tuple [.Constant (.str uL) js1 lp,.Call (.Name dn dp) [] [] cp] x1 tp) apos] [.ExceptHandler (some (.Name "WatchError" np)) (some n) (b₀::suite) hpos] [] [] pos,.Return (some (.Name y yp2)) rp]
   (fun E σ H=>σ.length=X.N.length/\∃f,σ[i]?=some (some (.ref f))/\BC X.prog X.w X.K X.mg X.base ca k fnd [.ref f] H E.rt E0):=by
 intro pins s σ H E I ⟨hlen,f,hσ,t,jj,g,f',c',cl,pm,ctv,hv,hps,hF,bd,hsp⟩
 cases hv
 have hb1:∀(pins:List (Addr×Obj)) (E:Value->Shared->Prop),PS (Ly X pins E) (.Assign [.Name y yp] (.Tuple [.Constant (.str uL) js1 lp,.Call (.Name dn dp) [] [] cp] x1 tp) apos) (fun D σ H=>σ[i]?=some (some (.ref f))/\BV ca X.K t jj g f c' cl pm ctv [] H (fun v H1=>∀p,H1 p=none->D.nx (σ.set jf (some (.ref p))) (upd H1 p (.tup [.str uL,v]))) (fun Cv _ H1=>∃c,Cv=.ref (ca c)/\XW (Ly X pins E) (ca c) H1)):=fun pins E =>
  (g_ (X:=Ly X pins E) (i:=jf) hN hyN hyl (nH (eT Ja (eT (pV (X:=Ly X pins E) (i:=i) (p:=dp) (pos:=cp) hF bd hr hiN hiv K_ hicd) BD))) hsw hyf).imp fun D σ H ⟨h1,h2⟩=>by
   &⟨h1,h2.2.1,h2.imp (fun v H1 q=>⟨?_,fun p hp=>q p hp⟩) fun c H1 ⟨c2,e,z⟩=>⟨_,e,z⟩⟩
   ~Nat.le_trans (show 2<=1000 by decide) (by decide)
 have key:=dl (rV (X:=X) (ca:=ca) (x:="WatchError") (np:=np) (hpos:=hpos) (pos:=pos) (b₀:=b₀) (suite:=suite) (gs:=gs)
  (tb:=fun σ H Qn Qe=>σ[i]?=some (some (.ref f))/\BV ca X.K t jj g f c' cl pm ctv [] H (fun v H1=>∀p,H1 p=none->Qn (σ.set jf (some (.ref p))) (upd H1 p (.tup [.str uL,v]))) (fun Cv _ H1=>∃c,Cv=.ref (ca c)/\Qe c H1))
  j EK.two hc hcells hstk hfr hex hN EK.mw
  (fun σ H Qn Qe Qe' hq ⟨h1,h2⟩=>⟨h1,h2.imp (fun _ _ z=>z) fun c H' ⟨c2,e,z⟩=>⟨c2,e,hq _ _ z⟩⟩)
  hb1 hs hj hloc hgl (by decide)) (da (lH (pos:=rp) (pv jf (pos:=yp2) hyN hyv hyd hycd)))
 &key pins s σ H E I ⟨hσ,hsp.imp (fun v H1 q p hp=>⟨.ref p,?_,q p hp⟩) fun c H1 ⟨c2,d,e2,e3,q⟩=>⟨c2,e2,?_⟩⟩
 ·rw[List.getElem?_set_self (by omega)]
 ·!⟨hc2,hg⟩:=hf c2 d e3
  &⟨hc2,fun e=>?_⟩
  !⟨ρ',eg,ev⟩:=hg e
  &⟨ρ',eg,fun σ' H' t er'=>?_⟩
  !⟨v,hv,rv⟩:=er'.at ev
  ~⟨v,hv,q v H' t rv⟩
end
theorem qA {ca:Nat->Addr} {P:Program} {w:World} {K:W.Frag} {mg:Str->Option Value} {base:Heap} {x qual:Str} {st:Stmt} {f:Addr} {fd:FuncData} {N ps:List Str} {k:Nat} {fnd:Nat->OD}
    (Fn:uv K x qual st f fd) (Sc:c9 N ps (c6 st)) (hps:ps.length=1) (hn:1<=N.length)
    (hb:∀(cdv:Value) (A:Around) (outer:List Env) (s:Shared) (H:Hp) (E:XK),ua k (A.deeper (envOfC qual (c6 st) s.heap.objs.size f cdv))->PSs (yi ue P w K mg base N qual (c6 st) f cdv A outer s H E).nox (uh st)
      (fun E σ H=>σ.length=N.length/\∃f,σ[0]?=some (some (.ref f))/\BC P w K mg base ca k fnd [.ref f] H E.rt E0)) :
    k6 P w K mg base ue (k+1) f fd ps (BC P w K mg base ca k fnd):=by
  &Fn.ok Sc (fun vs H Q E h=>?_) (fun cdv A outer s H vs Q E hr h=>?_)
  · !⟨_,_,_,_,_,_,_,_,rfl,_⟩:=h
    rw[hps];rfl
  · !⟨t,j,g,fc,c',cl,pm,ctv,rfl,q⟩:=h
    &⟨_,hb cdv A outer s H E hr,?_,fc,rfl,t,j,g,fc,c',cl,pm,ctv,rfl,q⟩
    unfold L2.start
    simp
    omega
structure yI (P:Program) (w:World) (K:W.Frag) (mg:Str->Option Value) (base:Heap) (ca:Nat->Addr) (k k0:Nat) (x:Str) (ps:List Str) (fnd:Nat->OD):Prop where
 ex:∃f fd,k6 P w K mg base ue k f fd ps (BC P w K mg base ca k0 fnd)/\mg x=some (.ref f)/\W.keepIn K (.ref f)=true/\Binds K fd ps []
theorem yI.m{P:Program}{w:World}{K:W.Frag}{mg:Str->Option Value}{base:Heap}{ca:Nat->Addr}{k k' k0:Nat}{x:Str}{ps:List Str}{fnd:Nat->OD}(h:yI P w K mg base ca k k0 x ps fnd)(hk:k<=k':=by decide):yI P w K mg base ca k' k0 x ps fnd:=by
 !⟨f,fd,a,b⟩:=h.ex
 ~⟨f,fd,a.mono hk,b⟩
def RF(X:Cx)(j:Nat)(js:List Nat)(g:MX)(fnd:Nat->OD)(S:List Nat):TE:=fun σ H Q=>∃ ρ τ d ρ',uq X.K H ρ τ σ/\t9 S H/\zO j js g fnd S ρ=some (d,ρ')/\∀v H',uQ S H H'->t9 S H'->Rep X.K H' d v->uq X.K H' ρ' τ σ->Q v H'
def Q0(X:Cx)(e:Expr)(j:Nat)(js:List Nat)(g:MX)(fnd:Nat->OD):Prop:=∀S,PE X e (RF X j js g fnd S)
theorem Gu:∀{js:List Nat} {ρ:R} {ds:LD} {j:Nat} {ob:D},Cz js ρ=some ds->ds[j]?=some ob->c5 (js.getD j 0) ρ=some ob
 | [],_,_,j,ob,h,hj=>by cases h;cases hj
 | i::js,ρ,ds,j,ob,h,hj=>by
  !⟨d,e1,h⟩:=h9 h
  !⟨ds',e2,rfl⟩:=t7 h
  cases j with
  | zero=>cases hj;~e1
  | succ j=>~Gu (js:=js) e2 hj
section
variable{X:Cx}{ca:Nat->Addr}{pos p lpos:Pos}{k k0:Nat}{told:Str}{ps:List Str}{t:B8}{ct:wk}{cl:List (Str×Addr)}{js:List Nat}{j:Nat}{g:MX}{fnd:Nat->OD}
theorem rK(C:yI X.prog X.w X.K X.mg X.base ca k k0 told ps fnd)(hr:ua k X.A)(o:HV X t cl ct js)(hps:t.ps=[])
  (LM:∀(f c':Addr) (cl:List (Str×Addr)) (pm ctv:Value),ww t.N t.ps t.scope cl->k6 X.prog X.w X.K X.mg X.base (AS X.prog X.w) k0 f (W.kla_fn "<lambda>" t.q t.params t.body t.scope cl pm (.ref c') ctv) t.ps (BV ca X.K t j g f c' cl pm ctv))
  (bd:∀(c':Addr) (cl:List (Str×Addr)) (pm ctv:Value),Binds X.K (W.kla_fn "<lambda>" t.q t.params t.body t.scope cl pm (.ref c') ctv) t.ps []) (hg:Gl X told:=by rfl) (hdb:(told==("__debug__" : Str))=false:=by decide) :
  Q0 X (.Call (.Name told p) [.Lambda t.params t.body t.scope lpos] [] pos) j js g fnd:=by
 !⟨fa,fd,fok,hm,kp,bdT⟩:=C.ex
 intro S pins s σ H Q I ⟨ρ,τ,d,ρ',er,mS,e0,q⟩
 &qE fok hr hg hm kp bdT o.own (eT (tw (t:=ct) (ts:=[ct]) o.TB (.head _) o.code o.qual o.hcl o.hdf) BD) hdb rfl rfl pins s σ H Q I ⟨I.base.tbls _ _ _ o.hT,fun f c' ctv pm H1 s1 hn h1 h2 H2 tr=>?_⟩
 !⟨ds,eC,e0⟩:=h9 e0
 !⟨ob,hj,e0⟩:=h9 e0
 !⟨r,eg,e0⟩:=h9 e0
 have s12:i6 H1 H2:=fun b u hb=>by
  cases qc:uG cl b with
  | false=>rw[tr.out b qc];~hb
  | true=>rw[(tr.cel b qc).1] at hb;cases hb
 have er1:=er.mono s1
 !⟨cvs,rc,hl,hg'⟩:=D1 er1.1 eC
 have hlen:js.length=t.N.length - t.ps.length:=by
  have:=congrArg List.length o.hjs
  rw[List.length_map,List.length_map,List.length_drop] at this
  ~this
 have at_i:∀(i:Nat) (y:Str),(t.N.drop t.ps.length)[i]?=some y->∃j,js[i]?=some j/\X.N[j]?=some y:=fun i y hy=>by
  have h:=congrArg (fun l=>l[i]?) o.hjs
  simp only[List.getElem?_map] at h
  rw[hy] at h
  cases hj:js[i]? with
  | none=>rw[hj] at h;cases h
  | some j=>rw[hj] at h;~⟨j,rfl,Option.some.inj h⟩
 have caps:zj H2 t.N t.ps cl cvs:=by
  &⟨by rw[hl,hlen],fun b hb=>?_,fun i y v hy hv=>?_⟩
  ·!⟨pr,hp,ep⟩:=List.any_eq_true.mp hb
   have hlk:cl.lookup pr.1=some b:=wm o.own.ndc (by rw[<- eq_of_beq ep];~hp)
   !⟨i,hi⟩:=List.getElem?_of_mem (o.hcn _ _ hlk)
   !⟨j,hj,hN⟩:=at_i i _ hi
   have hil:i<cvs.length:=by rw[hl];~(List.getElem?_eq_some_iff.mp hj).1
   !⟨ob,u,z1,z2,_⟩:=tr.val j _ b cvs[i] hN (hg' i j _ hj (List.getElem?_eq_getElem hil)) hlk
   ~⟨ob,u,z1,z2⟩
  ·!⟨j,hj,hN⟩:=at_i i y hy
   !⟨c,hc⟩:=o.sc.has y (o.sc.fre y (List.mem_of_getElem? hy))
   !⟨ob,u,z1,z2,z3⟩:=tr.val j y c v hN (hg' i j v hj hv) hc
   ~⟨c,ob,u,hc,z1,z2,z3⟩
 have hcl:∀b,uG cl b=true->∃o,H2 b=some (xD o):=fun b hb=>let ⟨o,_,z,_⟩:=caps.2.1 b hb;⟨o,z⟩
 have r2:i5 X.K H2 ds cvs:=rc.mono s12
 !⟨vo,hvo,ro⟩:=r2.get hj
 have h1':H2 f=some (xD (W.kla_obj "<lambda>" t.q t.params t.body t.scope cl pm c' ctv)):=by rw[o.tq];~s12 _ _ h1
 have h2':H2 c'=some (.tbl t.q true):=by rw[o.tq];~s12 _ _ h2
 have nC:∀b u,H1 b=some u->uG cl b=false:=fun b u hb=>by
  cases qc:uG cl b with
  | false=>rfl
  | true=>rw[(tr.cel b qc).1] at hb;cases hb
 match r,e0,eg with
 | .error c,e0,eg =>
  have e0':(if xC ob=true then (fnd c).map fun d=>(d,ρ) else none)=some (d,ρ'):=e0
  split at e0'
  case isFalse=>cases e0'
  case isTrue ho =>
  !⟨d',ef,ee⟩:=t7 e0'
  cases ee
  &⟨t,j,g,f,c',cl,pm,ctv,rfl,hps,LM f c' cl pm ctv o.sc,bd c' cl pm ctv,rfl,h1',h2',cvs,ds,ob,.error c,caps,r2,hj,ho,eg,fun H3 s3=>⟨c,d,rfl,ef,fun v H4 s4 rv=>?_⟩⟩
  have sf:i6 H (u9 cl H4):=fun b u hb=>by
   have hb1:=s1 b u hb
   rw[vO (nC b u hb1)]
   ~s4 _ _ (s3 _ _ (s12 _ _ hb1))
  have hc4:∀b,uG cl b=true->∃o,H4 b=some (xD o):=fun b hb=>let ⟨o,z⟩:=hcl b hb;⟨o,s4 _ _ (s3 _ _ z)⟩
  ~q v _ (uQ.of sf) (mS.same sf) (Rep.clo (AW hc4) rv) (er.mono sf)
 | .ok (d1,o'),e0,eg =>
  have e0':(if xC ob=true/\y9 (js.getD j 0) (adr ob) ρ=true/\AE S (adr ob)=true/\js.getD j 0<ρ.length then some (D.tup [.str uL,d1],ρ.set (js.getD j 0) (some o')) else none)=some (d,ρ'):=e0
  split at e0'
  case isFalse=>cases e0'
  case isTrue hc =>
  cases e0'
  !⟨ho,hsep,hin,_⟩:=hc
  &⟨t,j,g,f,c',cl,pm,ctv,rfl,hps,LM f c' cl pm ctv o.sc,bd c' cl pm ctv,rfl,h1',h2',cvs,ds,ob,.ok (d1,o'),caps,r2,hj,ho,eg,fun v H3 kq m3 rv ro' p0 hp0=>?_⟩
  have mo:t9 (adr ob) H2:=xH ro
  have cellK:∀b,uG cl b=true->∃o,H3 b=some (xD o):=fun b hb=>by
   !⟨oo,z⟩:=hcl b hb
   &⟨oo,kq b _ (fun hz=>?_) z⟩
   have:=mo b hz
   rw[z] at this
   ~this
  have su:i6 H3 (upd H3 p0 (.tup [.str uL,v])):=bh hp0 _
  have dc:=AW (H:=upd H3 p0 (.tup [.str uL,v])) (cl:=cl) fun b hb=>let ⟨oo,z⟩:=cellK b hb;⟨oo,su _ _ z⟩
  have ro3:Rep X.K (u9 cl (upd H3 p0 (.tup [.str uL,v]))) o' (.ref (Ag ob)):=Rep.clo dc (ro'.mono su)
  have rv3:Rep X.K (u9 cl (upd H3 p0 (.tup [.str uL,v]))) (.tup [.str uL,d1]) (.ref p0):=Rep.clo dc ⟨p0,[.str uL,v],rfl,xj.of au,_,[v],rfl,rfl,v,[],rfl,rv.mono su,rfl⟩
  have kq1:uQ (adr ob) H1 (u9 cl (upd H3 p0 (.tup [.str uL,v]))):=fun b u hn hb=>by
   rw[vO (nC b u hb)]
   ~su _ _ (kq b u hn (s12 _ _ hb))
  have m4:t9 (adr ob) (u9 cl (upd H3 p0 (.tup [.str uL,v]))):=fun b hb=>by
   have h3:=m3 b hb
   cases hz:H3 b with
   | none=>rw[hz] at h3;~h3.elim
   | some u =>
    have hnc:uG cl b=false:=by
     cases qc:uG cl b with
     | false=>rfl
     | true=>!⟨oo,z⟩:=cellK b qc;rw[z] at h3;~h3.elim
    rw[vO hnc,su _ _ hz]
    rw[hz] at h3;~h3
  !⟨a1,a2,a3⟩:=Cr er mS (Gu eC hj) ho hsep hin s1 kq1 m4 ro3
  ~q _ _ a1 a2 rv3 a3
theorem sG{e b:Expr}{B1 B2:List Stmt}{op:CmpOp}{F:D->D->Option Bool}{h:R->OD}{u w:MU}{pc:Pos}(ho:EE X op F)(ht:Q0 X e j js g fnd)(hb:SE X b h)(h1:EL X B1 u)(h2:EL X B2 w)(hm:behindInMarks op b=false:=by first | ~Dq _ | with_unfolding_all rfl) :
  MS X (.If (.Compare e [op] [b] pc) B1 B2 pos) (JB (zO j js g fnd) F h u w):=fun S=>(jH (kL ho (ht S) hb hm) (h1 S) (h2 S)).imp fun E σ H ⟨ρ,τ,o,er,m,eq,q⟩=>by
 !⟨⟨d,ρ'⟩,e1,eq⟩:=h9 eq
 !⟨y,e2,eq⟩:=h9 eq
 !⟨bb,e3,eq⟩:=h9 eq
 &⟨ρ,τ,d,ρ',er,m,e1,fun v H1 k1 m1 rv er1=>⟨ρ',y,er1.1,e2,fun v2 H2 s2 r2=>⟨d,y,bb,rv.mono s2,r2,e3,bb,rfl,?_⟩⟩⟩
 cases bb with
 | true =>
  rw[if_pos rfl] at eq ⊢
  ~⟨ρ',τ,o,er1.mono s2,m1.same s2,eq,fun H3 k3 m3=>q H3 (k1.trans ((uQ.of s2).trans k3)) m3⟩
 | false =>
  rw[if_neg Bool.false_ne_true] at eq ⊢
  ~⟨ρ',τ,o,er1.mono s2,m1.same s2,eq,fun H3 k3 m3=>q H3 (k1.trans ((uQ.of s2).trans k3)) m3⟩
end
section
variable{X:Cx}{pos:Pos}
end
structure MY (K:W.Frag) (x qual:Str) (st:Stmt) (f:Addr) (fd:FuncData) (c:Addr):Prop where
 ex:∃(oc:Value) (od:Option Addr) (kV doc pm:Value) (an:Option Addr) (ct:Value) (osl:Array (Option Value)),
  fd=W.fnOf x qual (vf st) (uh st) (c6 st) .none kV doc pm an (.ref c) ct/\K.lookup f=some ⟨oc,od,.func fd,osl⟩/\W.codeIn K (.ref c) qual=true
 kp:W.keepIn K (.ref f)=true
def spT(K:W.Frag)(F:LD->OD)(t:wk):Sp:=fun vs H Q E=>H t.P=some (.tbl t.q false)/\uP K F vs H Q E
theorem rQ{P:Program}{w:World}{K:W.Frag}{mg:Str->Option Value}{base:Heap}{x qual:Str}{st:Stmt}{f:Addr}{fd:FuncData}{N ps:List Str}{k:Nat}{F:LD->OD}{g:R->Option Out}{t:wk}
  (Fn:MY K x qual st f fd t.c) (S:c9 N ps (c6 st)) (hlen:∀ds d,F ds=some d->ds.length=ps.length)
  (hb:∀(A:Around) (outer:List Env) (s:Shared) (H:Hp) (E:XK),ua k (A.deeper (envOfC qual (c6 st) s.heap.objs.size f (.ref t.c)))->H t.P=some (.tbl t.q false)->SS (yi ue P w K mg base N qual (c6 st) f (.ref t.c) A outer s H E).nox (uh st) g)
  (hF:∀ds d,F ds=some d->yc (g (AG N.length ds))=some d):k6 P w K mg base ue (k+1) f fd ps (spT K F t):=by
 !⟨oc,od,kV,doc,pm,an,ct,osl,rfl,lk,hcd⟩:=Fn.ex
 &qX lk hcd S (fun vs H Q E h=>?_) (fun A outer s H vs Q E hr h=>?_)
 ·!⟨_,ds,d,r,e,_⟩:=h
  rw[<- r.length]
  ~hlen ds d e
 ·!⟨hT,ds,d,r,e,q⟩:=h
  &⟨_,(hb A outer s H E hr hT).nox,?_⟩
  have z:=hF ds d e
  cases ho:g (AG N.length ds) with
  | none=>rw[ho] at z;cases z
  | some o =>
   rw[ho] at z
   &⟨AG N.length ds,_,o,(zM r).t,ho,fun H1 s1=>?_⟩
   cases o with
   | rt d'=>cases (show d'=d from Option.some.inj z);~fun v rv=>q v H1 s1 rv
   | nx ρ=>cases (show D.non=d from Option.some.inj z);~fun σ _=>q .non H1 s1 rfl
   | bk ρ=>cases z
   | ct ρ=>cases z
theorem Mh{K:W.Frag}{t:B8}(h:∀(c':Addr) (cl:List (Str×Addr)) (pm ctv:Value) (us:List Value),us.length=t.ps.length->bindArgs (W.kla_fn "<lambda>" t.q t.params t.body t.scope cl pm (.ref c') ctv) ⟨us,[]⟩=pure (t.ps.zip us)) :
  ∀(c':Addr) (cl:List (Str×Addr)) (pm ctv:Value),Binds K (W.kla_fn "<lambda>" t.q t.params t.body t.scope cl pm (.ref c') ctv) t.ps []:=fun c' cl pm ctv=>.all (h c' cl pm ctv)
theorem sL{K:W.Frag}{x:Str}{f c P:Addr}{oc oc2:Value}{od od2:Option Addr}{osl sl2:Array (Option Value)}{fd:FuncData}{vs:Array Value}(a:W.nsIn K mainGlobals x=some (some (.ref f)))(l:K.lookup f=some ⟨oc,od,.func fd,osl⟩)(hc:fd.code=.ref c)
  (l2:K.lookup c=some ⟨oc2,od2,.fields vs,sl2⟩) (h:vs[11]?=some (.ref P)):W.tabIn K x=some (c,P):=by
 unfold W.tabIn
 simp only[a,l,hc,l2,h]
def NX(K:W.Frag)(F:LD->OD)(ts:List wk):Sp:=fun vs H Q E=>∀t,ts=[t]->spT K F t vs H Q E
theorem Mc{K:W.Frag}{F:LD->OD}{H:Hp}{ts:List wk}{a:Addr}{vs:List V}{Q:VK}{E:XK}(hO:Gp ts a H)(hP:∀t∈ts,t.P≠a)(h:uP K F vs H Q E):NX K F ts vs H Q E:=fun t e=>by
 subst e
 &⟨?_,h⟩
 rcases hO t.P with ⟨_,z⟩ | ⟨z,_⟩
 ·rw[z];simp[DB]
 ·~absurd z (hP t (List.mem_singleton.mpr rfl))
theorem LH{P:Program}{w:World}{K:W.Frag}{mg:Str->Option Value}{base:Heap}{k:Nat}{f:Addr}{fd:FuncData}{ps:List Str}{F:LD->OD}{t:wk}(h:k6 P w K mg base ue k f fd ps (spT K F t)):k6 P w K mg base ue k f fd ps (NX K F [t]):=h.imp fun vs H Q E z=>z t rfl
theorem JJ{K:W.Frag}{F G:LD->OD}{t:wk}(h:∀ds d,F ds=some d->G ds=some d):∀vs H Q E,spT K F t vs H Q E->spT K G t vs H Q E:=fun _ _ _ _ ⟨a,ds,d,r,e,q⟩=>⟨a,ds,d,r,h ds d e,q⟩
def Q_(X:Cx)(c:List Nat->R->Option (D×R))(S:List Nat):TE:=fun σ H Q=>∃ ρ τ d ρ',uq X.K H ρ τ σ/\t9 S H/\c S ρ=some (d,ρ')/\∀v H',uQ S H H'->t9 S H'->Rep X.K H' d v->uq X.K H' ρ' τ σ->Q v H'
section
variable{X:Cx}{pos p:Pos}{x:Str}{e:Expr}{es:List Expr}{F:R->Option LD}{G:LD->Option (D×D)}{k j:Nat}{ps:List Str}
theorem qY(i:Nat)(C:Fb X.prog X.w X.K X.mg X.base k x ps j G)(hr:ua k X.A)(ha:SA X (e::es) F)(hF:∀ ρ ds ob,F ρ=some ds->c5 i ρ=some ob->ds[j]?=some ob)(hg:Gl X x:=by rfl)(hdb:(x==("__debug__" : Str))=false:=by decide) :
  ∀S,PE X (.Call (.Name x p) (e::es) [] pos) (Q_ X (Be i G F) S):=by
 have hst:=ha.2.2
 rw[List.all_cons,Bool.and_eq_true] at hst
 have he:=aF es X.env hst.1
 have hpl:=bv (pos:=pos) (env:=X.env) hst.2
 !⟨f,fd,a,m,kp,bd⟩:=C.ex
 ~fun S=>(iR a hr hg m kp bd .nil yk ha.1 hdb he hpl).imp fun σ H Q ⟨ρ,τ,d,ρ',er,m,e,q⟩=>mf hF er m e q
theorem sH{e b:Expr}{B1 B2:List Stmt}{op:CmpOp}{F:D->D->Option Bool}{h:R->OD}{c:List Nat->R->Option (D×R)}{u w:MU}{pc:Pos}(ho:EE X op F)(ht:∀S,PE X e (Q_ X c S))(hb:SE X b h)(h1:EL X B1 u)(h2:EL X B2 w)(hm:behindInMarks op b=false:=by first | ~Dq _ | with_unfolding_all rfl) :
  MS X (.If (.Compare e [op] [b] pc) B1 B2 pos) (JB c F h u w):=fun S=>(jH (kL ho (ht S) hb hm) (h1 S) (h2 S)).imp fun E σ H ⟨ρ,τ,o,er,m,eq,q⟩=>by
 !⟨⟨d,ρ'⟩,e1,eq⟩:=h9 eq
 !⟨y,e2,eq⟩:=h9 eq
 !⟨bb,e3,eq⟩:=h9 eq
 &⟨ρ,τ,d,ρ',er,m,e1,fun v H1 k1 m1 rv er1=>⟨ρ',y,er1.1,e2,fun v2 H2 s2 r2=>⟨d,y,bb,rv.mono s2,r2,e3,bb,rfl,?_⟩⟩⟩
 cases bb with
 | true =>
  rw[if_pos rfl] at eq ⊢
  ~⟨ρ',τ,o,er1.mono s2,m1.same s2,eq,fun H3 k3 m3=>q H3 (k1.trans ((uQ.of s2).trans k3)) m3⟩
 | false =>
  rw[if_neg Bool.false_ne_true] at eq ⊢
  ~⟨ρ',τ,o,er1.mono s2,m1.same s2,eq,fun H3 k3 m3=>q H3 (k1.trans ((uQ.of s2).trans k3)) m3⟩
end
end HW
namespace HW
open PySem
inductive yS | none | hour | minute | zero | ahour | aminute | alarm | run | lap | cminute | csecond | full | count
 deriving DecidableEq,Inhabited
inductive wL | a | b | c
 deriving DecidableEq,Inhabited
inductive Face | time | alarm | laps | count
 deriving DecidableEq,Inhabited
noncomputable def yS.x:yS->Str
 | .none=>oS "none" | .hour=>oS "hour" | .minute=>oS "minute" | .zero=>oS "zero" | .ahour=>oS "ahour" | .aminute=>oS "aminute" | .alarm=>oS "alarm"
 | .run=>oS "run" | .lap=>oS "lap" | .cminute=>oS "cminute" | .csecond=>oS "csecond" | .full=>oS "full" | .count=>oS "count"
def wL.x:wL->Str
 | .a=>oS "a" | .b=>oS "b" | .c=>oS "c"
def wL.X:wL->Str
 | .a=>oS "A" | .b=>oS "B" | .c=>oS "C"
def wL.ix:wL->Nat
 | .a=>0 | .b=>1 | .c=>2
def Face.x:Face->Str
 | .time=>oS "time" | .alarm=>oS "alarm" | .laps=>oS "laps" | .count=>oS "count"
structure Md where
 face:Face
 stays:Bool
 rows:List (yS×Nat)
 deriving Inhabited
structure Bk where
 hold:Int
 back:Int
 modes:List Md
structure WS where
 mode:Nat
 clock:Int
 ah:Int
 am:Int
 aon:Bool
 lm:Int
 lr:Bool
 lk:List Int
 cm:Int
 cs:Int
 cl:Int
 cr:Bool
 ring:Int
 held:Option (wL×Option Int)
 idle:Int
def AX(r:yS×Nat):D:=.tup [.str r.1.x,.int (r.2:Int)]
def Md.d(m:Md):D:=.tup [.str m.face.x,.bl m.stays,.tup (m.rows.map AX)]
def Bk.d(b:Bk):D:=.tup [.int b.hold,.int b.back,.tup (b.modes.map Md.d)]
noncomputable def uk:Option Int->D
 | .none=>.non
 | .some k=>.int k
def x_:Option (wL×Option Int)->D
 | .none=>.non
 | .some (x,k)=>.tup [.str x.x,uk k]
def WS.alarmD(s:WS):D:=.tup [.int s.ah,.int s.am,.bl s.aon]
def WS.lapsD(s:WS):D:=.tup [.int s.lm,.bl s.lr,.tup (s.lk.map .int)]
def WS.countD(s:WS):D:=.tup [.int s.cm,.int s.cs,.int s.cl,.bl s.cr]
def WS.d(s:WS):D:=.tup [.int (s.mode:Int),.int s.clock,s.alarmD,s.lapsD,s.countD,.int s.ring,x_ s.held,.int s.idle]
structure Md.Ok (n:Nat) (m:Md):Prop where
 six:m.rows.length=6
 nx:∀r∈m.rows,r.2<n
structure Bk.Ok (b:Bk):Prop where
 hold1:1<=b.hold
 hold9:b.hold<=9
 back0:0<=b.back
 back60:b.back<=60
 some1:1<=b.modes.length
 some8:b.modes.length<=8
 all:∀m∈b.modes,m.Ok b.modes.length
structure WS.Wk (b:Bk) (s:WS):Prop where
 bk:0<=b.back
 mode:s.mode<b.modes.length
 clock0:0<=s.clock
 clock1:s.clock<86400
 ah0:0<=s.ah
 ah1:s.ah<24
 am0:0<=s.am
 am1:s.am<60
 lm0:0<=s.lm
 lk:s.lk.length<=4
 cm0:0<=s.cm
 cm1:s.cm<60
 cs0:0<=s.cs
 cs1:s.cs<60
 cl0:0<=s.cl
 cl1:s.cl<3600
 cr:s.cr=true->0<s.cl
 ring0:0<=s.ring
 ring1:s.ring<=10
 idle0:0<=s.idle
 idle1:0<b.back->s.idle<b.back
 idle2:b.back=0->s.idle=0
structure WS.Ok (b:Bk) (s:WS):Prop extends WS.Wk b s where
 held:∀x k,s.held=some (x,some k)->0<=k/\k<b.hold
noncomputable def zJ(s:WS)(m c:Int):WS:=if s.cr then s else {s with cm:=m,cs:=c,cl:=60*m+c,cr:=false}
def deed:yS->WS->WS
 | .none,s=>s
 | .hour,s=>{s with clock:=(s.clock+3600)%86400}
 | .minute,s=>{s with clock:=s.clock - s.clock%3600+(s.clock%3600+60)%3600}
 | .zero,s=>{s with clock:=s.clock - s.clock%60}
 | .ahour,s=>{s with ah:=(s.ah+1)%24}
 | .aminute,s=>{s with am:=(s.am+1)%60}
 | .alarm,s=>{s with aon:=!s.aon}
 | .run,s=>{s with lr:=!s.lr}
 | .lap,s=>if s.lr then (if 4<=s.lk.length then s else {s with lk:=s.lk++[s.lm]}) else {s with lm:=0,lk:=[]}
 | .cminute,s=>zJ s ((s.cm+1)%60) s.cs
 | .csecond,s=>zJ s s.cm ((s.cs+1)%60)
 | .full,s=>zJ s s.cm s.cs
 | .count,s=>{s with cr:=!s.cr&&decide (0<s.cl)}
def Bk.row(b:Bk)(m i:Nat):yS×Nat:=(b.modes.getD m default).rows.getD i (.none,0)
def press(b:Bk)(s:WS)(i:Nat):WS:={deed (b.row s.mode i).1 s with mode:=(b.row s.mode i).2}
noncomputable def mx(i j:Int):Int:=if j > i then j else i
def WS.sec(s:WS):Int:=3600*s.ah+60*s.am
def m7(s:WS):Option Int:=if s.aon then some ((s.sec - s.clock - 1)%86400+1) else none
def uc(s:WS):Option Int:=if s.cr then some s.cl else none
def xl(s:WS)(n:Int):Option Int:=
 match m7 s,uc s with
 | some a,some c=>if a<=n then (if c<=n then some (mx (n - (n - a)%86400) c) else some (n - (n - a)%86400)) else (if c<=n then some c else none)
 | some a,none=>if a<=n then some (n - (n - a)%86400) else none
 | none,some c=>if c<=n then some c else none
 | none,none=>none
def Bg(s:WS)(n:Int):Int:=
 match xl s n with
 | none=>mx 0 (s.ring - n)
 | some l=>mx 0 (10 - (n - l))
def Dg(h:Option (wL×Option Int))(n:Int):Option (wL×Option Int):=
 match h with
 | some (x,some k)=>some (x,some (k+n))
 | h=>h
def xE(b:Bk)(s:WS):Int:=mx 1 (b.back - s.idle)
def yb(b:Bk)(s:WS)(n:Int):Int:=
 if s.held.isSome\/b.back=0 then s.idle else if n<xE b s then s.idle+n else (n - xE b s)%b.back
def xX(s:WS)(n:Int):Int:=if s.lr then s.lm+n else s.lm
def xy(s:WS)(n:Int):Int:=if s.cr then mx 0 (s.cl - n) else s.cl
def runsOn(s:WS)(n:Int):Bool:=s.cr&&decide (0<mx 0 (s.cl - n))
def counted(b:Bk)(s:WS)(n:Int):WS:=
 {s with clock:=(s.clock+n)%86400,lm:=xX s n,cl:=xy s n,cr:=runsOn s n,ring:=Bg s n,held:=Dg s.held n,idle:=yb b s n}
def ya(b:Bk)(s:WS):Bool:=decide (0<b.back)&&(!decide (s.mode=0)&&!(b.modes.getD s.mode default).stays)
def t6(b:Bk)(s:WS):Option Int:=
 match s.held with
 | none=>if ya b s then some (xE b s) else none
 | some (_,none)=>none
 | some (_,some k)=>some (mx 1 (b.hold - k))
def turned(b:Bk)(s:WS):WS:=
 match s.held with
 | none=>{s with mode:=0}
 | some (x,_)=>press b {s with held:=some (x,none)} (x.ix+3)
def behind(b:Bk)(s:WS)(t:Int):WS:=turned b (counted b s t)
def ticked(b:Bk)(s:WS)(n:Int):WS:=
 match t6 b s with
 | none=>counted b s n
 | some t=>if n<t then counted b s n else counted b (behind b s t) (n - t)
def pushed(s:WS)(x:wL):WS:=if s.held.isSome then s else {s with ring:=0,held:=some (x,if 0<s.ring then none else some 0),idle:=0}
def letGo(b:Bk)(s:WS)(x:wL):WS:=
 match s.held with
 | some (y,k)=>if y=x then { (if k.isSome then press b s x.ix else s) with held:=none,idle:=0} else s
 | none=>s
inductive Ev | down (x:wL) | up (x:wL) | ticks (n:Int)
 deriving DecidableEq
def Ev.d:Ev->D
 | .down x=>.tup [.str (oS "down"),.str x.x]
 | .up x=>.tup [.str (oS "up"),.str x.x]
 | .ticks n=>.tup [.str (oS "ticks"),.int n]
def gone(b:Bk)(s:WS):Ev->WS
 | .down x=>pushed s x
 | .up x=>letGo b s x
 | .ticks n=>ticked b s n
theorem QV(i j:Int):i<=mx i j:=by unfold mx;split<;>omega
def Ei(aon:Bool)(a:Int)(cr:Bool)(c r n:Int):Int:=
 if aon=true/\a<=n then (if cr=true/\c<=n then mx 0 (10 - (n - mx (n - (n - a)%86400) c)) else mx 0 (10 - (n - a)%86400)) else if cr=true/\c<=n then mx 0 (10 - (n - c)) else mx 0 (r - n)
theorem GU(s:WS)(n:Int):Bg s n=Ei s.aon ((s.sec - s.clock - 1)%86400+1) s.cr s.cl s.ring n:=by
 unfold Bg xl m7 uc Ei
 generalize (s.sec - s.clock - 1)%86400+1=a
 have e:∀x:Int,n - (n - x)=x:=fun x=>by omega
 cases s.aon<;>cases s.cr<;>by_cases h1:a<=n<;>by_cases h2:s.cl<=n<;>simp[h1,h2,e]
theorem GK{b:Bk}{s:WS}(h:s.idle<b.back):xE b s=b.back - s.idle:=by unfold xE mx;split<;>omega
theorem C_(x b:Int):(x - b)%b=x%b:=Int.sub_emod_right x b
theorem GV{b:Bk}{s:WS}{n:Int}(w:s.Wk b)(hn:0<=n):yb b s n=if s.held.isSome=true\/b.back=0 then s.idle else (s.idle+n)%b.back:=by
 unfold yb
 have h0:=w.idle0
 by_cases h:s.held.isSome=true\/b.back=0
 ·rw[if_pos h,if_pos h]
 ·have hb:0<b.back:=by
   have:¬ b.back=0:=fun z=>h (.inr z)
   have:=w.bk
   omega
  have h1:=w.idle1 hb
  rw[if_neg h,if_neg h,GK h1]
  by_cases h2:n<b.back - s.idle
  ·rw[if_pos h2,Int.emod_eq_of_lt (by omega) (by omega)]
  ·rw[if_neg h2,show n - (b.back - s.idle)=s.idle+n - b.back by omega,C_]
theorem zi(a:Int){b:Int}(h:0<b):a%b<b:=Int.emod_lt_of_pos a h
theorem Ab(a:Int){b:Int}(h:0<b):0<=a%b:=Int.emod_nonneg a (by omega)
theorem JW(aon:Bool)(a:Int)(cr:Bool)(c r n:Int)(hr:r<=10)(hn:0<=n)(hc:cr=true->0<c)(ha:1<=a):0<=Ei aon a cr c r n/\Ei aon a cr c r n<=10:=by
 unfold Ei
 split
 ·split
  ·unfold mx;split<;>(try split)<;>omega
  ·unfold mx;split<;>omega
 ·split
  ·unfold mx;split<;>omega
  ·unfold mx;split<;>omega
theorem WS.Wk.cnt{b:Bk}{s:WS}{n:Int}(w:s.Wk b)(hn:0<=n):(counted b s n).Wk b:=by
 have hr:=JW s.aon ((s.sec - s.clock - 1)%86400+1) s.cr s.cl s.ring n w.ring1 hn w.cr (by omega)
 rw[<- GU] at hr
 have hl0:=w.lm0
 have hi:=GV w hn
 have hcl0:=w.cl0
 have hcl1:=w.cl1
 ~{
  bk:=w.bk,mode:=w.mode,clock0:=Ab _ (by decide),clock1:=zi _ (by decide),ah0:=w.ah0,ah1:=w.ah1,am0:=w.am0,am1:=w.am1
  lm0:=by show 0<=xX s n;unfold xX;split<;>omega
  lk:=w.lk,cm0:=w.cm0,cm1:=w.cm1,cs0:=w.cs0,cs1:=w.cs1
  cl0:=by show 0<=xy s n;unfold xy mx;split<;>(try split)<;>omega
  cl1:=by show xy s n<3600;unfold xy mx;split<;>(try split)<;>omega
  cr:=by
   show runsOn s n=true->0<xy s n
   intro h
   unfold runsOn at h
   unfold xy
   cases hc:s.cr
   ·rw[hc] at h;cases h
   ·rw[hc] at h;simp at h;simp;~h
  ring0:=hr.1,ring1:=hr.2
  idle0:=by
   show 0<=yb b s n
   rw[hi]
   split
   ·~w.idle0
   ·rename_i h
    have:¬ b.back=0:=fun z=>h (.inr z)
    ~Int.emod_nonneg _ this
  idle1:=fun hb=>by
   show yb b s n<b.back
   rw[hi]
   split
   ·~w.idle1 hb
   ·~zi _ hb
  idle2:=fun hb=>by
   show yb b s n=0
   rw[hi,if_pos (.inr hb)]
   ~w.idle2 hb}
theorem sK{b:Bk}(ok:b.Ok){m i:Nat}(hm:m<b.modes.length)(hi:i<6):(b.row m i).2<b.modes.length:=by
 unfold Bk.row
 have e:b.modes.getD m default=b.modes[m]:=by simp[List.getD_eq_getElem?_getD,hm]
 rw[e]
 have o:=ok.all _ (List.getElem_mem hm)
 have hi':i<b.modes[m].rows.length:=by rw[o.six];~hi
 have e2:b.modes[m].rows.getD i (.none,0)=b.modes[m].rows[i]:=by simp[List.getD_eq_getElem?_getD,hi']
 rw[e2]
 ~o.nx _ (List.getElem_mem hi')
theorem G5(d:yS)(s:WS):(deed d s).held=s.held:=by
 cases d<;>simp[deed,zJ]<;>(repeat' split)<;>rfl
theorem WS.Wk.set{b:Bk}{s:WS}(w:s.Wk b){m c:Int}(m0:0<=m)(m1:m<60)(c0:0<=c)(c1:c<60):(zJ s m c).Wk b:=by
 unfold zJ
 split
 ·~w
 ·~{w with cm0:=m0,cm1:=m1,cs0:=c0,cs1:=c1,cl0:=(by show 0<=60*m+c;omega),cl1:=(by show 60*m+c<3600;omega),cr:=fun h=>by cases h}
theorem WS.Wk.dd{b:Bk}{s:WS}(w:s.Wk b)(d:yS):(deed d s).Wk b:=by
 have c0:=w.clock0;have c1:=w.clock1
 cases d with
 | none=>~w
 | hour=>~{w with clock0:=Ab _ (by decide),clock1:=zi _ (by decide)}
 | minute=>~{w with clock0:=(by show 0<=s.clock - s.clock%3600+(s.clock%3600+60)%3600;omega),clock1:=(by show s.clock - s.clock%3600+(s.clock%3600+60)%3600<86400;omega)}
 | zero=>~{w with clock0:=(by show 0<=s.clock - s.clock%60;omega),clock1:=(by show s.clock - s.clock%60<86400;omega)}
 | ahour=>~{w with ah0:=Ab _ (by decide),ah1:=zi _ (by decide)}
 | aminute=>~{w with am0:=Ab _ (by decide),am1:=zi _ (by decide)}
 | alarm=>~{w with}
 | run=>~{w with}
 | lap =>
  show(if s.lr then (if 4<=s.lk.length then s else {s with lk:=s.lk++[s.lm]}) else {s with lm:=0,lk:=[]}:WS).Wk b
  split
  ·split
   ·~w
   ·~{w with lk:=(by show(s.lk++[s.lm]).length<=4;simp;omega)}
  ·~{w with lm0:=Int.le_refl 0,lk:=Nat.zero_le _}
 | cminute=>~w.set (Ab _ (by decide)) (zi _ (by decide)) w.cs0 w.cs1
 | csecond=>~w.set w.cm0 w.cm1 (Ab _ (by decide)) (zi _ (by decide))
 | full=>~w.set w.cm0 w.cm1 w.cs0 w.cs1
 | count =>
  have hc:(!s.cr&&decide (0<s.cl))=true->0<s.cl:=fun h=>by simp at h;~h.2
  ~{w with cr:=hc}
theorem WS.Wk.prs{b:Bk}{s:WS}(ok:b.Ok)(w:s.Wk b){i:Nat}(hi:i<6):(press b s i).Wk b:=by
 have z:=w.dd (b.row s.mode i).1
 ~{z with mode:=sK ok w.mode hi}
theorem Bi(b:Bk)(s:WS)(i:Nat):(press b s i).held=s.held:=G5 _ _
theorem wL.ix3(x:wL):x.ix+3<6:=by cases x<;>decide
theorem wL.ix6(x:wL):x.ix<6:=by cases x<;>decide
theorem WS.Wk.trn{b:Bk}{s:WS}(ok:b.Ok)(w:s.Wk b):(turned b s).Wk b:=by
 unfold turned
 split
 ·~{w with mode:=ok.some1}
 ·rename_i x k e
  ~WS.Wk.prs (s:={s with held:=some (x,none)}) ok {w with} x.ix3
theorem Ee{b:Bk}{s:WS}:t6 b (turned b s)=none:=by
 unfold turned
 split
 ·rename_i e
  unfold t6
  simp[e,ya]
 ·rename_i x k e
  unfold t6
  rw[Bi]
theorem xn{b:Bk}{s:WS}{t:Int}(h:t6 b s=some t):1<=t:=by
 unfold t6 at h
 split at h
 ·split at h
  ·cases h;~QV _ _
  ·cases h
 ·cases h
 ·cases h;~QV _ _
theorem WS.Ok.cnt{b:Bk}{s:WS}{n:Int}(w:s.Ok b)(hn:0<=n)(h:∀t,t6 b s=some t->n<t):(counted b s n).Ok b:=by
 &{w.toWk.cnt hn with held:=fun x k e=>?_}
 have e':Dg s.held n=some (x,some k):=e
 rcases hs:s.held with _ | ⟨y,_ | j⟩
 ·rw[hs] at e';cases e'
 ·rw[hs] at e';cases e'
 ·rw[hs] at e'
  simp[Dg] at e'
  !⟨rfl,rfl⟩:=e'
  have hj:=w.held y j hs
  have ht:=h (mx 1 (b.hold - j)) (by unfold t6;rw[hs])
  unfold mx at ht
  split at ht<;>omega
theorem G9{b:Bk}{s:WS}(ok:b.Ok)(w:s.Wk b):(turned b s).Ok b:=by
 &{w.trn ok with held:=fun x k e=>?_}
 unfold turned at e
 split at e
 ·rename_i e2
  simp at e
  rw[e2] at e;cases e
 ·rw[Bi] at e;cases e
theorem Kg{b:Bk}{s:WS}{n:Int}(ok:b.Ok)(w:s.Ok b)(hn:0<=n):(ticked b s n).Ok b:=by
 unfold ticked
 split
 ·rename_i e
  ~w.cnt hn fun t ht=>by rw[e] at ht;cases ht
 ·rename_i t e
  have ht:=xn e
  split
  ·rename_i h
   ~w.cnt hn fun t' ht'=>by rw[e] at ht';cases ht';~h
  ·rename_i h
   ~(G9 ok (w.toWk.cnt (by omega))).cnt (by omega) fun t' ht'=>by rw[Ee] at ht';cases ht'
theorem JP{b:Bk}{s:WS}(ok:b.Ok)(w:s.Ok b)(x:wL):(pushed s x).Ok b:=by
 unfold pushed
 split
 ·~w
 ·have hh:=ok.hold1
  &{w with ring0:=Int.le_refl 0,ring1:=(by show(0:Int)<=10;decide),idle0:=Int.le_refl 0,idle1:=fun h=>h,idle2:=fun _=>rfl,held:=fun y k e=>?_}
  simp at e
  !⟨_,h2,h3⟩:=e
  subst h3
  omega
theorem MQ{b:Bk}{s:WS}(ok:b.Ok)(w:s.Ok b)(x:wL):(letGo b s x).Ok b:=by
 unfold letGo
 split
 ·split
  ·have z:(if (by assumption:Option Int).isSome then press b s x.ix else s).Wk b:=by
    split
    ·~w.toWk.prs ok x.ix6
    ·~w.toWk
   ~{z with idle0:=Int.le_refl 0,idle1:=fun h=>h,idle2:=fun _=>rfl,held:=fun y k e=>by cases e}
  ·~w
 ·~w
def Ev.Ok:Ev->Prop
 | .ticks n=>1<=n
 | _=>True
theorem AD{b:Bk}{s:WS}(ok:b.Ok)(w:s.Ok b)(e:Ev)(h:e.Ok):(gone b s e).Ok b:=by
 cases e with
 | down x=>~JP ok w x
 | up x=>~MQ ok w x
 | ticks n=>~Kg ok w (by have:1<=n:=h;omega)
def i9:WS:=⟨0,0,0,0,false,0,false,[],0,0,0,false,0,none,0⟩
theorem zL{b:Bk}(ok:b.Ok):i9.Ok b where
 bk:=ok.back0
 mode:=ok.some1
 clock0:=by decide
 clock1:=by decide
 ah0:=by decide
 ah1:=by decide
 am0:=by decide
 am1:=by decide
 lm0:=by decide
 lk:=by decide
 cm0:=by decide
 cm1:=by decide
 cs0:=by decide
 cs1:=by decide
 cl0:=by decide
 cl1:=by decide
 cr:=by decide
 ring0:=by decide
 ring1:=by decide
 idle0:=by decide
 idle1:=fun h=>h
 idle2:=fun _=>rfl
 held:=fun x k e=>by cases e
def n9(b:Bk)(s:WS)(es:List Ev):WS:=es.foldl (gone b) s
theorem Ea{b:Bk}(ok:b.Ok):∀{es:List Ev} {s:WS},s.Ok b->(∀e∈es,e.Ok)->(n9 b s es).Ok b
 | [],_,w,_=>w
 | e::es,s,w,h=>Ea (es:=es) ok (AD ok w e (h e List.mem_cons_self)) fun x hx=>h x (List.mem_cons_of_mem _ hx)
theorem G3(b:Bk)(s:WS)(es fs:List Ev):n9 b s (es++fs)=n9 b (n9 b s es) fs:=List.foldl_append
abbrev Pr:=wL×Bool
def Pr.x(p:Pr):Str:=if p.2 then p.1.X else p.1.x
def Pr.ix(p:Pr):Nat:=if p.2 then p.1.ix+3 else p.1.ix
def Pr.code(p:Pr):Nat:=(if p.2 then 65 else 97)+p.1.ix
section
open Builtin Builtin.Str
theorem O9{x:Str}{c a:Nat}:subAt x ⟨#[c]⟩ a=(x.cps[a]?==some c):=by
 have e:(⟨#[c]⟩:Str).length=1:=rfl
 unfold subAt
 rw[e]
 show(x.cps.extract a (a+1)==#[c])=_
 by_cases h:a<x.cps.size
 ·have:x.cps.extract a (a+1)=#[x.cps[a]]:=by
   apply Array.ext'
   simp[h,List.drop_eq_getElem_cons]
  rw[this,Array.getElem?_eq_getElem h,Bool.eq_iff_iff,beq_iff_eq,beq_iff_eq]
  constructor
  ·intro q
   have q':=congrArg Array.toList q
   simp at q'
   rw[q']
  ·intro q
   rw[Option.some.inj q]
 ·have:x.cps.extract a (a+1)=#[]:=by
   apply Array.ext'
   simp
   omega
  rw[this,Array.getElem?_eq_none (by omega)]
  rfl
end
end HW
set_option maxRecDepth 10000
namespace HW
open PySem
noncomputable section
def top(i:Nat):Stmt:=PySem.Challenge.pw_handwatch_k60_whole_watches.main.body.getD i (.Pass ⟨0,0,0,0⟩)
def EG:B8:=NS "law.<locals>.<lambda>" ["_law_watch"] [] (eA 0 (Rz (sT (sB 1 (sB 1 (sB 5 (top 96)))))))
def bT:D:=.int 0
def aY:D:=.int 1
def ba:D:=.int 2
def b_:D:=.int 3
def aQ:D:=.int 4
def eI:D:=.int 5
def aV:D:=.int 6
def dj:D:=.int 7
def fz:D:=.int 4
def fv:D:=.int 10
def dD:D:=.int 86400
def eN:D:=.int 1000000000000000000
def df:List Str:=[oS "a",oS "b",oS "c",oS "A",oS "B",oS "C"]
theorem Kz{st:D->R->Option R}{body:R->Option Out}{d:D}{ds:LD}{ρ ρ1 ρ2:R}(h1:st d ρ=some ρ1)(h2:body ρ1=some (.nx ρ2)):AC st body (d::ds) ρ=AC st body ds ρ2:=by
 show(st d ρ).bind _=_
 rw[h1]
 show(body ρ1).bind _=_
 rw[h2];rfl
theorem C3{it:R->Option LD}{st:D->R->Option R}{body:R->Option Out}{ρ:R}{ds:LD}{o:Out}(h1:it ρ=some ds)(h2:AC st body ds ρ=some o):Cg it st body ρ=some o:=by simp[h1,h2]
theorem k8{f g:R->Option Out}{ρ ρ2:R}(h:f ρ=some (.nx ρ2)):l5 f g ρ=g ρ2:=by simp[h]
theorem zF{c:R->Option Bool}{f g:R->Option Out}{ρ:R}(h:c ρ=some true):yY c f g ρ=f ρ:=by simp[h]
theorem yT{c:R->Option Bool}{f g:R->Option Out}{ρ:R}(h:c ρ=some false):yY c f g ρ=g ρ:=by simp[h]
theorem v8{f g:R->Option Out}{ρ:R}{d:D}(h:f ρ=some (.rt d)):l5 f g ρ=some (.rt d):=by simp[h]
theorem l9{f:R->OD}{st:D->R->Option R}{ρ ρ':R}{d:D}(h:f ρ=some d)(h2:st d ρ=some ρ'):l3 f st ρ=some (.nx ρ'):=by simp[h,h2]
theorem i4{F:LD->OD}{g:R->Option LD}{ρ:R}{ds:LD}{d:D}(h:g ρ=some ds)(h2:F ds=some d):c8 F g ρ=some d:=by simp[h,h2]
theorem m8{f:R->OD}{g:R->Option LD}{ρ:R}{d:D}{ds:LD}(h:f ρ=some d)(h2:g ρ=some ds):c4 f g ρ=some (d::ds):=by simp[h,h2]
theorem i7{F:D->D->OD}{f g:R->OD}{ρ:R}{x y z:D}(h1:f ρ=some x)(h2:g ρ=some y)(h:F x y=some z):i3 F f g ρ=some z:=by simp only[i3,h1,h2,Option.bind_some,h]
theorem ug{F:D->D->Option Bool}{f g:R->OD}{ρ:R}{x y:D}{b:Bool}(h1:f ρ=some x)(h2:g ρ=some y)(h:F x y=some b):k7 F f g ρ=some b:=by simp only[k7,h1,h2,Option.bind_some,h]
theorem tupS{g:R->Option LD}{ρ:R}{ds:LD}(h:g ρ=some ds):l7 g ρ=some (.tup ds):=by simp[h]
theorem FX{c:R->Option Bool}{ρ:R}{b:Bool}(h:c ρ=some b):Cf c ρ=some (.bl b):=by simp[h]
theorem Dn{f:R->OD}{l h:R->Option (Option Int)}{ρ:R}{x d:D}{a b:Option Int}(h1:f ρ=some x)(h2:l ρ=some a)(h3:h ρ=some b)(h4:OJ x a b=some d):LK f l h ρ=some d:=by simp only[LK,h1,h2,h3,Option.bind_some,h4]
theorem NJ{c d:R->Option Bool}{ρ:R}(h1:c ρ=some false)(h2:d ρ=some false):Ds c d ρ=some false:=by simp[h1,h2]
theorem Ra{c d:R->Option Bool}{ρ:R}(h1:c ρ=some false):Bw c d ρ=some false:=by simp[h1]
theorem NL{c d:R->Option Bool}{ρ:R}{b:Bool}(h1:c ρ=some true)(h2:d ρ=some b):Bw c d ρ=some b:=by simp[h1,h2]
theorem Lh{f g:R->OD}{ρ:R}{d:D}(h1:f ρ=some (.bl true))(h2:g ρ=some d):A7 f g ρ=some d:=by simp[h1,h2]
theorem Jw{c:R->Option Bool}{ρ:R}{b:Bool}(h:c ρ=some b):Ft c ρ=some (!b):=by simp[h]
theorem B4{f:R->OD}{ρ:R}{b:Bool}(h:f ρ=some (.bl b)):wV f ρ=some b:=by simp[h]
theorem Fw{c:R->Option Bool}{f g:R->OD}{ρ:R}{d:D}(h:c ρ=some true)(h2:f ρ=some d):Dc c f g ρ=some d:=by simp[h,h2]
theorem Hb{c:R->Option Bool}{f g:R->OD}{ρ:R}{d:D}(h:c ρ=some false)(h2:g ρ=some d):Dc c f g ρ=some d:=by simp[h,h2]
theorem QH{c d:R->Option Bool}{ρ:R}(h1:c ρ=some true):Ds c d ρ=some true:=by simp[h1]
theorem Ny{c d:R->Option Bool}{ρ:R}{b:Bool}(h1:c ρ=some false)(h2:d ρ=some b):Ds c d ρ=some b:=by simp[h1,h2]
theorem JL{g:R->Option LD}{ρ:R}{ds:LD}(h:g ρ=some ds):Eu g ρ=some (.lst ds):=by simp[h]
theorem B7{F:D->OD}{f:R->OD}{ρ:R}{x z:D}(h1:f ρ=some x)(h:F x=some z):wR F f ρ=some z:=by simp only[wR,h1,Option.bind_some,h]
theorem k9{k n:Nat}{g:R->Option Out}{ds:LD}{d:D}(h:g (AG n ds)=some (.rt d))(hl:ds.length=k:=by rfl):via k n g ds=some d:=by unfold via;rw[if_pos hl,h];rfl
theorem Hd{f g:R->OD}{ρ:R}(h1:f ρ=some (.bl false)):A7 f g ρ=some (.bl false):=by simp[h1]
theorem retS{f:R->OD}{ρ:R}{d:D}(h:f ρ=some d):l4 f ρ=some (.rt d):=by simp[h]
theorem modS{i j:Int}(h:0<j):ui (.int i) (.int j)=some (.int (i%j)):=by simp[h]
theorem D0{i j:Int}(h:uE i j=true):x6 (.int i) (.int j)=some (.int (i*j)):=by
 show(if uE i j=true then _ else none)=_
 rw[if_pos h]
theorem QZ{i j q:Int}(h:0<j)(e:i%j=q):ui (.int i) (.int j)=some (.int q):=by rw[<- e];~modS h
theorem Rn{i:Int}(h:i=0):some (i==0)=some true:=by rw[h];rfl
theorem RN{i:Int}(h:¬ i=0):some (i==0)=some false:=by rw[beq_eq_false_iff_ne.mpr h]
theorem dT{p:Prop}[Decidable p](h:p):some (decide p)=some true:=by rw[decide_eq_true h]
theorem dF{p:Prop}[Decidable p](h:¬ p):some (decide p)=some false:=by rw[decide_eq_false h]
mutual
theorem DV:∀d:D,uC d=true->LB d d=true
 | .non,_=>rfl
 | .bl b,_=>beq_self_eq_true b
 | .int i,_=>beq_self_eq_true i
 | .str x,_=>beq_self_eq_true x
 | .tup xs,h=>yM xs h
 | .lst xs,h=>yM xs h
 | .fro xs,h=>yM xs h
 | .obj ..,h=>by cases h
 | .rf ..,h=>by cases h
theorem yM:∀ds:LD,n5 ds=true->B0 ds ds=true
 | [],_=>rfl
 | d::ds,h=>by
  have h':(uC d&&n5 ds)=true:=h
  rw[Bool.and_eq_true] at h'
  show(LB d d&&B0 ds ds)=true
  rw[DV d h'.1,yM ds h'.2];rfl
end
theorem Ad{d:D}(h:xp d<=100)(h2:s9 d=true):yg d d=some true:=by unfold yg;rw[if_pos ⟨h,h2,h2⟩,DV _ (bR h2)]
theorem yP{d:D}(h:xp d<=100)(h2:s9 d=true):zb d d=some false:=by unfold zb;rw[Ad h h2];rfl
theorem E_(l:List Int):wa (l.map D.int)=0:=by induction l with | nil=>rfl | cons a l ih=>simp[wa,xp,ih]
theorem Fk(l:List Int):vk (l.map D.int)=true:=by induction l with | nil=>rfl | cons a l ih=>simp[vk,s9,ih]
theorem iS(x:wL):s9 (.str x.x)=true:=by rw[s9];cases x<;>decide +kernel
theorem qF(h:Option (wL×Option Int)):xp (x_ h)<=1:=by rcases h with _ | ⟨x,_ | k⟩<;>simp[x_,uk,xp,wa]
theorem qj(h:Option (wL×Option Int)):s9 (x_ h)=true:=by
 rcases h with _ | ⟨x,_ | k⟩
 ·rfl
 ·simp[x_,uk,s9,vk];have:=iS x;simp[s9] at this;~this
 ·simp[x_,uk,s9,vk];have:=iS x;simp[s9] at this;~this
theorem qB(s:WS):xp s.d<=100:=by
 have h:=qF s.held
 simp[WS.d,WS.alarmD,WS.lapsD,WS.countD,xp,wa,E_]
 omega
theorem nA(s:WS):s9 s.d=true:=by
 have h:=qj s.held
 simp[WS.d,WS.alarmD,WS.lapsD,WS.countD,s9,vk,Fk,h]
theorem O_(s:WS):zb s.d s.d=some false:=yP (qB s) (nA s)
theorem O2(s:WS):yg s.d s.d=some true:=Ad (qB s) (nA s)
theorem Rl:8<=sizeLine:=by decide
theorem w0(s:WS):i8 s.d (.int 0)=some (.int (s.mode:Int)):=rfl
theorem w1(s:WS):i8 s.d (.int 1)=some (.int s.clock):=rfl
theorem w2(s:WS):i8 s.d (.int 2)=some s.alarmD:=rfl
theorem w3(s:WS):i8 s.d (.int 3)=some s.lapsD:=rfl
theorem w4(s:WS):i8 s.d (.int 4)=some s.countD:=rfl
theorem w5(s:WS):i8 s.d (.int 5)=some (.int s.ring):=rfl
theorem w6(s:WS):i8 s.d (.int 6)=some (x_ s.held):=rfl
theorem w7(s:WS):i8 s.d (.int 7)=some (.int s.idle):=rfl
theorem OM(s:WS):i8 s.alarmD (.int 0)=some (.int s.ah):=rfl
theorem Pa(s:WS):i8 s.alarmD (.int 1)=some (.int s.am):=rfl
theorem O8(s:WS):i8 s.alarmD (.int 2)=some (.bl s.aon):=rfl
theorem OK(s:WS):i8 s.lapsD (.int 0)=some (.int s.lm):=rfl
theorem P0(s:WS):i8 s.lapsD (.int 1)=some (.bl s.lr):=rfl
theorem Ol(s:WS):i8 s.lapsD (.int 2)=some (.tup (s.lk.map .int)):=rfl
theorem OL(s:WS):i8 s.countD (.int 0)=some (.int s.cm):=rfl
theorem Pm(s:WS):i8 s.countD (.int 1)=some (.int s.cs):=rfl
theorem PH(s:WS):i8 s.countD (.int 2)=some (.int s.cl):=rfl
theorem QG(s:WS):i8 s.countD (.int 3)=some (.bl s.cr):=rfl
theorem b0(b:Bk):i8 b.d (.int 0)=some (.int b.hold):=rfl
theorem b1(b:Bk):i8 b.d (.int 1)=some (.int b.back):=rfl
theorem b2(b:Bk):i8 b.d (.int 2)=some (.tup (b.modes.map Md.d)):=rfl
theorem m0(m:Md):i8 m.d (.int 0)=some (.str m.face.x):=rfl
theorem m1(m:Md):i8 m.d (.int 1)=some (.bl m.stays):=rfl
theorem m2(m:Md):i8 m.d (.int 2)=some (.tup (m.rows.map AX)):=rfl
theorem r0(r:yS×Nat):i8 (AX r) (.int 0)=some (.str r.1.x):=rfl
theorem r1(r:yS×Nat):i8 (AX r) (.int 1)=some (.int (r.2:Int)):=rfl
theorem h0(x:wL)(k:Option Int):i8 (x_ (some (x,k))) (.int 0)=some (.str x.x):=rfl
theorem h1(x:wL)(k:Option Int):i8 (x_ (some (x,k))) (.int 1)=some (uk k):=rfl
theorem Dh{xs:LD}{i:Nat}(h:i<xs.length):H_ xs (i:Int)=some xs[i]:=by
 unfold H_ OH
 rw[if_pos (by omega),if_pos (by omega)]
 simp[h]
theorem kM(b:Bk){m:Nat}(h:m<b.modes.length):i8 (.tup (b.modes.map Md.d)) (.int (m:Int))=some (b.modes.getD m default).d:=by
 show H_ _ _=_
 rw[Dh (by simpa using h)]
 simp[List.getD_eq_getElem?_getD,h]
theorem ti(m:Md){i:Nat}(h:i<m.rows.length):i8 (.tup (m.rows.map AX)) (.int (i:Int))=some (AX (m.rows.getD i (.none,0))):=by
 show H_ _ _=_
 rw[Dh (by simpa using h)]
 simp[List.getD_eq_getElem?_getD,h]
theorem qp(b:Bk){m:Nat}(h:m<b.modes.length):b.modes.getD m default∈b.modes:=by
 have e:b.modes.getD m default=b.modes[m]:=by simp[List.getD_eq_getElem?_getD,h]
 rw[e];~List.getElem_mem h
theorem Pd{i j:Int}(h1 : -(2 ^ 64)<i)(h2:i<2 ^ 64):x6 (.int i) (.int j)=some (.int (i*j)):=by simp[vJ h1 h2]
theorem JS(j:Int):x6 (.int 3600) (.int j)=some (.int (3600*j)):=Pd (by decide) (by decide)
theorem La(j:Int):x6 (.int 60) (.int j)=some (.int (60*j)):=Pd (by decide) (by decide)
theorem KG(k:Option Int):wB (uk k) .non=some k.isSome:=by cases k<;>rfl
theorem Oi(i j:Int):Fz [.int i,.int j]=some (.int (mx i j)):=rfl
def whole:D->Bool
 | .int _=>true
 | _=>false
def within(d:D)(l m:Int):Bool:=match d with
 | .int i=>decide (l<=i)&&decide (i<=m)
 | _=>false
def oneOf(d:D)(ws:LD):Bool:=match d with
 | .str x=>ws.any fun y=>PC y (.str x)
 | _=>false
def Q7(d:D)(m:Int):Bool:=match d with
 | .tup xs=>(xs.length:Int)==m
 | _=>false
noncomputable def z6:LD:=[.str (oS "none"),.str (oS "hour"),.str (oS "minute"),.str (oS "zero"),.str (oS "ahour"),.str (oS "aminute"),.str (oS "alarm"),.str (oS "run"),.str (oS "lap"),.str (oS "cminute"),.str (oS "csecond"),.str (oS "full"),.str (oS "count")]
def A1:LD:=[.str (oS "time"),.str (oS "alarm"),.str (oS "laps"),.str (oS "count")]
def zW(d:D)(m:Int):Bool:=match d with
 | .tup [a,b]=>oneOf a z6&&within b 0 (m - 1)
 | _=>false
def Fg(d:D)(m:Int):Bool:=match d with
 | .tup xs=>xs.length==6&&xs.all fun x=>zW x m
 | _=>false
def zc(d:D)(m:Int):Bool:=match d with
 | .tup [a,b,c]=>oneOf a A1&&(Ld b "bool" && Fg c m)
 | _=>false
def C6(d:D):Bool:=match d with
 | .tup xs=>decide (1<=xs.length)&&(decide (xs.length<=8)&&xs.all fun x=>zc x xs.length)
 | _=>false
def Dl(d:D):Bool:=match d with
 | .tup [a,b,c]=>within a 1 9&&(within b 0 60&&C6 c)
 | _=>false
theorem within_int{d:D}{l h:Int}(e:within d l h=true):∃i:Int,d=.int i/\l<=i/\i<=h:=by
 cases d with
 | int i=>simp[within] at e;~⟨i,rfl,e⟩
 | _=>cases e
theorem IY{d:D}(e:Ld d "bool" = true):∃b,d=.bl b:=by
 cases d with
 | bl b=>~⟨b,rfl⟩
 | _=>simp at e
theorem CH{d:D}{ws:LD}(e:oneOf d ws=true):∃x,d=.str x/\(ws.any fun y=>PC y (.str x))=true:=by
 cases d with
 | str x=>~⟨x,rfl,e⟩
 | _=>cases e
theorem JO{d:D}(e:oneOf d z6=true):∃k:yS,d=.str k.x:=by
 !⟨x,rfl,h⟩:=CH e
 !⟨y,hy,h⟩:=List.any_eq_true.mp h
 have q:∀w:Str,PC (.str w) (.str x)=true->w=x:=fun w z=>beq_iff_eq.mp z
 simp only[z6,List.mem_cons,List.not_mem_nil,or_false] at hy
 rcases hy with rfl | rfl | rfl | rfl | rfl | rfl | rfl | rfl | rfl | rfl | rfl | rfl | rfl
 ·~⟨.none,congrArg D.str (q _ h).symm⟩
 ·~⟨.hour,congrArg D.str (q _ h).symm⟩
 ·~⟨.minute,congrArg D.str (q _ h).symm⟩
 ·~⟨.zero,congrArg D.str (q _ h).symm⟩
 ·~⟨.ahour,congrArg D.str (q _ h).symm⟩
 ·~⟨.aminute,congrArg D.str (q _ h).symm⟩
 ·~⟨.alarm,congrArg D.str (q _ h).symm⟩
 ·~⟨.run,congrArg D.str (q _ h).symm⟩
 ·~⟨.lap,congrArg D.str (q _ h).symm⟩
 ·~⟨.cminute,congrArg D.str (q _ h).symm⟩
 ·~⟨.csecond,congrArg D.str (q _ h).symm⟩
 ·~⟨.full,congrArg D.str (q _ h).symm⟩
 ·~⟨.count,congrArg D.str (q _ h).symm⟩
theorem Kn{d:D}(e:oneOf d A1=true):∃k:Face,d=.str k.x:=by
 !⟨x,rfl,h⟩:=CH e
 !⟨y,hy,h⟩:=List.any_eq_true.mp h
 have q:∀w:Str,PC (.str w) (.str x)=true->w=x:=fun w z=>beq_iff_eq.mp z
 simp only[A1,List.mem_cons,List.not_mem_nil,or_false] at hy
 rcases hy with rfl | rfl | rfl | rfl
 ·~⟨.time,congrArg D.str (q _ h).symm⟩
 ·~⟨.alarm,congrArg D.str (q _ h).symm⟩
 ·~⟨.laps,congrArg D.str (q _ h).symm⟩
 ·~⟨.count,congrArg D.str (q _ h).symm⟩
theorem tu{d:D}{n:Nat}(e:zW d n=true):∃r:yS×Nat,d=AX r/\r.2<n:=by
 unfold zW at e
 split at e
 ·rw[Bool.and_eq_true] at e
  !⟨k,rfl⟩:=JO e.1
  !⟨i,rfl,h0,h1⟩:=within_int e.2
  &⟨(k,i.toNat),?_,?_⟩
  ·simp[AX,Int.toNat_of_nonneg h0]
  ·simp;omega
 ·cases e
theorem Dr{α:Type}{f:α->D}{P:α->Prop}{q:D->Bool}(h:∀d,q d=true->∃a,d=f a/\P a):∀{ds:LD},ds.all q=true->∃as:List α,ds=as.map f/\∀a∈as,P a
 | [],_=>⟨[],rfl,fun _ h=>by cases h⟩
 | d::ds,e=>by
  rw[List.all_cons,Bool.and_eq_true] at e
  !⟨a,rfl,ha⟩:=h d e.1
  !⟨as,rfl,hs⟩:=Dr h e.2
  ~⟨a::as,rfl,fun x hx=>by rcases List.mem_cons.mp hx with rfl | hx;~ha;~hs x hx⟩
theorem rE{d:D}{n:Nat}(e:zc d n=true):∃m:Md,d=m.d/\m.Ok n:=by
 unfold zc at e
 split at e
 ·rename_i a b c
  rw[Bool.and_eq_true,Bool.and_eq_true] at e
  !⟨f,rfl⟩:=Kn e.1
  !⟨s,rfl⟩:=IY e.2.1
  have e2:=e.2.2
  cases c with
  | tup xs =>
   unfold Fg at e2
   simp only[Bool.and_eq_true] at e2
   !⟨rs,rfl,hr⟩:=Dr (f:=AX) (P:=fun r=>r.2<n) (fun d h=>tu h) e2.2
   &⟨⟨f,s,rs⟩,rfl,?_,hr⟩
   have:=e2.1
   simpa using this
  | _=>cases e2
 ·cases e
theorem sh{d:D}(e:Dl d=true):∃b:Bk,d=b.d/\b.Ok:=by
 unfold Dl at e
 split at e
 ·rename_i a b c
  rw[Bool.and_eq_true,Bool.and_eq_true] at e
  !⟨i,rfl,i0,i1⟩:=within_int e.1
  !⟨j,rfl,j0,j1⟩:=within_int e.2.1
  have e2:=e.2.2
  cases c with
  | tup xs =>
   unfold C6 at e2
   simp only[Bool.and_eq_true] at e2
   !⟨h1,h2,h3⟩:=e2
   !⟨ms,hm,hok⟩:=Dr (f:=Md.d) (P:=fun m=>m.Ok xs.length) (fun d h=>rE h) h3
   have hl:xs.length=ms.length:=by rw[hm];simp
   &⟨⟨i,j,ms⟩,by rw[hm];rfl,i0,i1,j0,j1,?_,?_,?_⟩
   ·have:=of_decide_eq_true h1;show 1<=ms.length;omega
   ·have:=of_decide_eq_true h2;show ms.length<=8;omega
   ·rw[hl] at hok;~hok
  | _=>cases e2
 ·cases e
def rY:R->Option Out:=
  (l5 (l3 (l7 (c4 (kI 0) (c4 (kI 0) (c4 (fun _=>some (.bl false)) c7)))) (setAt 1))
  (l5 (l3 (l7 (c4 (kI 0) (c4 (fun _=>some (.bl false)) (c4 (l7 c7) c7)))) (setAt 2))
  (l5 (l3 (l7 (c4 (kI 0) (c4 (kI 0) (c4 (kI 0) (c4 (fun _=>some (.bl false)) c7))))) (setAt 3))
  (l4 (l7 (c4 (kI 0) (c4 (kI 0) (c4 (c5 1) (c4 (c5 2) (c4 (c5 3) (c4 (kI 0) (c4 (fun _=>some .non) (c4 (kI 0) c7)))))))))))))
def bX:LD->OD:=via 1 4 rY
theorem iN(b:D):bX [b]=some i9.d:=k9 ((k8 (l9 rfl rfl)).trans ((k8 (l9 rfl rfl)).trans ((k8 (l9 rfl rfl)).trans (retS rfl))))
def pW:R->Option Out:=
 (l4 (Dc (wV (i3 i8 (c5 0) (kI 1))) (l7 (c4 (i3 m9 (i3 i8 (c5 0) (kI 0)) (c5 1)) (c4 (fun _=>some (.bl true)) (c4 (i3 i8 (c5 0) (kI 2)) c7)))) (c5 0)))
def dZ:LD->OD:=via 2 2 pW
theorem pE(s:WS)(n:Int):dZ [s.lapsD,.int n]=some (.tup [.int (xX s n),.bl s.lr,.tup (s.lk.map .int)]):=by
 have e:xX s n=if s.lr then s.lm+n else s.lm:=rfl
 rw[e]
 have t:wV (i3 i8 (c5 0) (kI 1)) [some s.lapsD,some (.int n)]=some s.lr:=B4 (i7 rfl rfl (P0 s))
 cases hr:s.lr with
 | false =>
  rw[hr] at t
  have q:s.lapsD=.tup [.int s.lm,.bl false,.tup (s.lk.map .int)]:=by rw[<- hr];rfl
  ~(k9 (retS (Hb t rfl))).trans (congrArg some q)
 | true =>
  rw[hr] at t
  ~k9 (retS (Fw t (tupS (m8 (i7 (i7 rfl rfl (OK s)) rfl rfl) (m8 rfl (m8 (i7 rfl rfl (Ol s)) rfl))))))
def nF:R->Option Out:=
  (l5 (yY (Ft (wV (i3 i8 (c5 0) (kI 3))))
  (l4 (c5 0))
  uu)
  (l5 (l3 (c8 Fz (c4 (kI 0) (c4 (i3 wY (i3 i8 (c5 0) (kI 2)) (c5 1)) c7))) (setAt 2))
  (l4 (l7 (c4 (i3 i8 (c5 0) (kI 0)) (c4 (i3 i8 (c5 0) (kI 1)) (c4 (c5 2) (c4 (Cf (k7 EJ (c5 2) (kI 0))) c7))))))))
def dm:LD->OD:=via 2 3 nF
theorem nr(s:WS)(n:Int):dm [s.countD,.int n]=some (.tup [.int s.cm,.int s.cs,.int (xy s n),.bl (runsOn s n)]):=by
 have e1:xy s n=if s.cr then mx 0 (s.cl - n) else s.cl:=rfl
 have e2:runsOn s n=(s.cr&&decide (0<mx 0 (s.cl - n))):=rfl
 rw[e1,e2]
 have t:wV (i3 i8 (c5 0) (kI 3)) [some s.countD,some (.int n),none]=some s.cr:=B4 (i7 rfl rfl (QG s))
 cases hr:s.cr with
 | false =>
  rw[hr] at t
  have q:s.countD=.tup [.int s.cm,.int s.cs,.int s.cl,.bl false]:=by rw[<- hr];rfl
  ~(k9 (v8 ((zF (Jw (b:=false) t)).trans (retS rfl)))).trans (congrArg some q)
 | true =>
  rw[hr] at t
  ~k9 ((k8 ((yT (Jw (b:=true) t)).trans rfl)).trans ((k8 (l9 (i4 (m8 rfl (m8 (i7 (i7 rfl rfl (PH s)) rfl rfl) rfl)) (Oi _ _)) rfl)).trans (retS (tupS (m8 (i7 rfl rfl (OL s)) (m8 (i7 rfl rfl (Pm s)) (m8 rfl (m8 (FX (ug rfl rfl rfl)) rfl))))))))
def kK:R->Option Out:=
  (l5 (l3 (i3 i8 (c5 0) (fun _=>some ba)) (setAt 1))
  (l5 (yY (Ft (wV (i3 i8 (c5 1) (kI 2))))
  (l4 (fun _=>some .non))
  uu)
  (l5 (l3 (i3 m9 (i3 x6 (kI 3600) (i3 i8 (c5 1) (kI 0))) (i3 x6 (kI 60) (i3 i8 (c5 1) (kI 1)))) (setAt 2))
  (l4 (i3 m9 (i3 ui (i3 wY (i3 wY (c5 2) (i3 i8 (c5 0) (fun _=>some aY))) (kI 1)) (fun _=>some dD)) (kI 1))))))
def aL:LD->OD:=via 1 3 kK
theorem eL(s:WS):aL [s.d]=some (uk (m7 s)):=by
 have e2:=O8 s
 unfold m7
 cases ha:s.aon<;>rw[ha] at e2
 ·~k9 ((k8 (l9 (i7 rfl rfl (w2 s)) rfl)).trans (v8 ((zF (Jw (b:=false) (B4 (i7 rfl rfl e2)))).trans (retS rfl))))
 ·~k9 ((k8 (l9 (i7 rfl rfl (w2 s)) rfl)).trans ((k8 (yT (Jw (b:=true) (B4 (i7 rfl rfl e2))))).trans ((k8 (l9 (i7 (i7 rfl (i7 rfl rfl (OM s)) (JS _)) (i7 rfl (i7 rfl rfl (Pa s)) (La _)) rfl) rfl)).trans (retS (i7 (i7 (i7 (i7 rfl (i7 rfl rfl (w1 s)) rfl) rfl rfl) rfl (modS (by decide))) rfl rfl)))))
def lA:R->Option Out:=
  (l5 (l3 (i3 i8 (c5 0) (fun _=>some aQ)) (setAt 1))
  (l4 (Dc (wV (i3 i8 (c5 1) (kI 3))) (i3 i8 (c5 1) (kI 2)) (fun _=>some .non))))
def aO:LD->OD:=via 1 2 lA
theorem fe(s:WS):aO [s.d]=some (uk (uc s)):=by
 have e3:=QG s
 unfold uc
 cases ha:s.cr<;>rw[ha] at e3
 ·~k9 ((k8 (l9 (i7 rfl rfl (w4 s)) rfl)).trans (retS (Hb (B4 (i7 rfl rfl e3)) rfl)))
 ·~k9 ((k8 (l9 (i7 rfl rfl (w4 s)) rfl)).trans (retS (Fw (B4 (i7 rfl rfl e3)) (i7 rfl rfl (PH s)))))
def mt:R->Option Out:=
  (l5 (l3 (c8 aL (c4 (c5 0) c7)) (setAt 2))
  (l5 (l3 (c8 aO (c4 (c5 0) c7)) (setAt 3))
  (GS 4 c7
  (wD (Jx (Bw (k7 wB (c5 2) (fun _=>some .non)) (k7 MT (c5 2) (c5 1)))
  (BX 4 (i3 wY (c5 1) (i3 ui (i3 wY (c5 1) (c5 2)) (fun _=>some dD))))
  Au)
  (wD (Jx (Bw (k7 wB (c5 3) (fun _=>some .non)) (k7 MT (c5 3) (c5 1)))
  (BX 4 (c5 3))
  Au)
  (As (l4 (c8 D9 (c4 (c5 4) c7)))))))))
def cN:LD->OD:=via 2 5 mt
def GB(n:Int)(o:Option Int):LD:=match o with
 | some a=>if a<=n then [.int (n - (n - a)%86400)] else []
 | none=>[]
def Lu(n:Int)(o:Option Int):LD:=match o with
 | some c=>if c<=n then [.int c] else []
 | none=>[]
theorem LV(s:WS)(n:Int):D9 [.lst (GB n (m7 s)++Lu n (uc s))]=some (uk (xl s n)):=by
 unfold xl
 cases m7 s<;>cases uc s
 ·rfl
 ·rename_i c;by_cases h:c<=n<;>simp[GB,Lu,h,uk]
 ·rename_i a;by_cases h:a<=n<;>simp[GB,Lu,h,uk]
 ·rename_i a c;by_cases h:a<=n<;>by_cases h':c<=n<;>simp[GB,Lu,h,h',uk,mx]
theorem Oq{p:R->LD->Option (Out×LD)}{q:R->LD->Option Out}{ρ ρ2:R}{ds ds2:LD}(h:p ρ ds=some (.nx ρ2,ds2)):wD p q ρ ds=q ρ2 ds2:=by simp[h]
theorem KW{c:R->Option Bool}{p q:R->LD->Option (Out×LD)}{ρ:R}{ds:LD}(h:c ρ=some true):Jx c p q ρ ds=p ρ ds:=by simp[h]
theorem Iw{c:R->Option Bool}{p q:R->LD->Option (Out×LD)}{ρ:R}{ds:LD}(h:c ρ=some false):Jx c p q ρ ds=q ρ ds:=by simp[h]
theorem mq(s:WS)(n:Int):cN [s.d,.int n]=some (uk (xl s n)):=by
 have e1:=eL s
 have e2:=fe s
 rw[<- LV]
 generalize m7 s=a at *
 generalize uc s=c at *
 have z0:0<sizeLine:=by decide
 have z1:1<sizeLine:=by decide
 have q1:l3 (c8 aL (c4 (c5 0) c7)) (setAt 2) [some s.d,some (.int n),none,none,none]=some (.nx [some s.d,some (.int n),some (uk a),none,none]):=by
  show(aL [s.d]).bind _=_
  rw[e1];rfl
 have q2:l3 (c8 aO (c4 (c5 0) c7)) (setAt 3) [some s.d,some (.int n),some (uk a),none,none]=some (.nx [some s.d,some (.int n),some (uk a),some (uk c),none]):=by
  show(aO [s.d]).bind _=_
  rw[e2];rfl
 have q3:Jx (Bw (k7 wB (c5 2) (fun _=>some .non)) (k7 MT (c5 2) (c5 1))) (BX 4 (i3 wY (c5 1) (i3 ui (i3 wY (c5 1) (c5 2)) (fun _=>some dD)))) Au [some s.d,some (.int n),some (uk a),some (uk c)] []=some (.nx [some s.d,some (.int n),some (uk a),some (uk c)],GB n a):=by
  cases a with
  | none=>rfl
  | some a =>
   show _=some (Out.nx _,if a<=n then _ else _)
   by_cases h:a<=n
   ·rw[KW (dT h),if_pos h]
    show(if 4=4/\0<sizeLine then _ else none)=_
    rw[if_pos ⟨rfl,z0⟩];rfl
   ·rw[Iw (dF h),if_neg h];rfl
 have hl:(GB n a).length<=1:=by
  unfold GB
  split
  ·split<;>simp
  ·simp
 have hl2:(GB n a).length<sizeLine:=Nat.lt_of_le_of_lt hl z1
 have q4:Jx (Bw (k7 wB (c5 3) (fun _=>some .non)) (k7 MT (c5 3) (c5 1))) (BX 4 (c5 3)) Au [some s.d,some (.int n),some (uk a),some (uk c)] (GB n a)=some (.nx [some s.d,some (.int n),some (uk a),some (uk c)],GB n a++Lu n c):=by
  cases c with
  | none=>show some _=_;rw[show Lu n none=[] from rfl,List.append_nil]
  | some c =>
   show _=some (Out.nx _,GB n a++if c<=n then _ else _)
   by_cases h:c<=n
   ·rw[KW (dT h),if_pos h]
    show(if 4=4/\(GB n a).length<sizeLine then _ else none)=_
    rw[if_pos ⟨rfl,hl2⟩];rfl
   ·rw[Iw (dF h),if_neg h,List.append_nil];rfl
 show yc (l5 (l3 (c8 aL (c4 (c5 0) c7)) (setAt 2)) _ [some s.d,some (.int n),none,none,none])=_
 rw[k8 q1,k8 q2]
 show yc (wD (Jx (Bw (k7 wB (c5 2) (fun _=>some .non)) (k7 MT (c5 2) (c5 1))) (BX 4 (i3 wY (c5 1) (i3 ui (i3 wY (c5 1) (c5 2)) (fun _=>some dD)))) Au) _ [some s.d,some (.int n),some (uk a),some (uk c)] [])=_
 rw[Oq q3,Oq q4]
 show yc ((D9 [.lst (GB n a++Lu n c)]).map .rt)=_
 cases D9 [.lst (GB n a++Lu n c)]<;>rfl
def ph:R->Option Out:=
  (l5 (l3 (c8 cN (c4 (c5 0) (c4 (c5 1) c7))) (setAt 2))
  (l5 (yY (k7 zU (c5 2) (fun _=>some .non))
  (l4 (c8 Fz (c4 (kI 0) (c4 (i3 wY (i3 i8 (c5 0) (fun _=>some eI)) (c5 1)) c7))))
  uu)
  (l4 (c8 Fz (c4 (kI 0) (c4 (i3 wY (fun _=>some fv) (i3 wY (c5 1) (c5 2))) c7))))))
def dY:LD->OD:=via 2 3 ph
theorem pU(s:WS)(n:Int):dY [s.d,.int n]=some (.int (Bg s n)):=by
 have e:=mq s n
 unfold Bg
 cases h:xl s n with
 | none =>
  rw[h] at e
  ~k9 ((k8 (l9 (i4 rfl e) rfl)).trans (v8 ((zF (ug rfl rfl rfl)).trans (retS (i4 (m8 rfl (m8 (i7 (i7 rfl rfl (w5 s)) rfl rfl) rfl)) (Oi _ _))))))
 | some l =>
  rw[h] at e
  ~k9 ((k8 (l9 (i4 rfl e) rfl)).trans ((k8 ((yT (ug rfl rfl rfl)).trans rfl)).trans (retS (i4 (m8 rfl (m8 (i7 rfl (i7 rfl rfl rfl) rfl) rfl)) (Oi _ _)))))
def pI:R->Option Out:=
  (l5 (yY (Ds (k7 zU (c5 0) (fun _=>some .non)) (k7 zU (i3 i8 (c5 0) (kI 1)) (fun _=>some .non)))
  (l4 (c5 0))
  uu)
  (l4 (l7 (c4 (i3 i8 (c5 0) (kI 0)) (c4 (i3 m9 (i3 i8 (c5 0) (kI 1)) (c5 1)) c7)))))
def dX:LD->OD:=via 2 2 pI
theorem pz(h:Option (wL×Option Int))(n:Int):dX [x_ h,.int n]=some (x_ (Dg h n)):=by
 rcases h with _ | ⟨x,_ | k⟩
 ·~k9 (v8 ((zF (QH (ug rfl rfl rfl))).trans (retS rfl)))
 ·~k9 (v8 ((zF (Ny (ug rfl rfl rfl) (ug (i7 rfl rfl rfl) rfl rfl))).trans (retS rfl)))
 ·~k9 ((k8 ((yT (Ny (ug rfl rfl rfl) (ug (i7 rfl rfl rfl) rfl rfl))).trans rfl)).trans (retS (tupS (m8 (i7 rfl rfl rfl) (m8 (i7 (i7 rfl rfl rfl) rfl rfl) rfl)))))
def iF:R->Option Out:=
 (l4 (c8 Fz (c4 (kI 1) (c4 (i3 wY (i3 i8 (c5 0) (kI 1)) (i3 i8 (c5 1) (fun _=>some dj))) c7))))
def a_:LD->OD:=via 2 2 iF
theorem fk(b:Bk)(s:WS):a_ [b.d,s.d]=some (.int (xE b s)):=k9 (retS (i4 (m8 rfl (m8 (i7 (i7 rfl rfl (b1 b)) (i7 rfl rfl (w7 s)) rfl) rfl)) (Oi _ _)))
def pT:R->Option Out:=
  (l5 (yY (Ds (k7 wB (i3 i8 (c5 1) (fun _=>some aV)) (fun _=>some .non)) (k7 vY (i3 i8 (c5 0) (kI 1)) (kI 0)))
  (l4 (i3 i8 (c5 1) (fun _=>some dj)))
  uu)
  (l5 (l3 (c8 a_ (c4 (c5 0) (c4 (c5 1) c7))) (setAt 3))
  (l4 (Dc (k7 OE (c5 2) (c5 3)) (i3 m9 (i3 i8 (c5 1) (fun _=>some dj)) (c5 2)) (i3 ui (i3 wY (c5 2) (c5 3)) (i3 i8 (c5 0) (kI 1)))))))
def d_:LD->OD:=via 3 4 pT
theorem pO{b:Bk}{s:WS}(n:Int)(hb:0<=b.back):d_ [b.d,s.d,.int n]=some (.int (yb b s n)):=by
 have e:=fk b s
 have e6:=w6 s
 have e7:=w7 s
 unfold yb
 cases hh:s.held with
 | some v =>
  rw[hh] at e6
  rw[if_pos (.inl rfl)]
  ~k9 (v8 ((zF (QH (ug (i7 rfl rfl e6) rfl rfl))).trans (retS (i7 rfl rfl e7))))
 | none =>
  rw[hh] at e6
  by_cases h0:b.back=0
  ·rw[if_pos (.inr h0)]
   ~k9 (v8 ((zF (Ny (ug (i7 rfl rfl e6) rfl rfl) (ug (i7 rfl rfl (b1 b)) rfl (Rn h0)))).trans (retS (i7 rfl rfl e7))))
  ·have hp:0<b.back:=by omega
   have q1:yY (Ds (k7 wB (i3 i8 (c5 1) (fun _=>some aV)) (fun _=>some .non)) (k7 vY (i3 i8 (c5 0) (kI 1)) (kI 0))) (l4 (i3 i8 (c5 1) (fun _=>some dj))) uu [some b.d,some s.d,some (.int n),none]=some (.nx [some b.d,some s.d,some (.int n),none]):=
    yT (Ny (ug (i7 rfl rfl e6) rfl rfl) (ug (i7 rfl rfl (b1 b)) rfl (RN h0)))
   rw[if_neg (by rintro(z | z);cases z;~h0 z)]
   by_cases h1:n<xE b s
   ·rw[if_pos h1]
    ~k9 ((k8 q1).trans ((k8 (l9 (i4 rfl e) rfl)).trans (retS (Fw (ug (x:=.int n) (y:=.int (xE b s)) rfl rfl (dT h1)) (i7 (i7 rfl rfl e7) rfl rfl)))))
   ·rw[if_neg h1]
    ~k9 ((k8 q1).trans ((k8 (l9 (i4 rfl e) rfl)).trans (retS (Hb (ug (x:=.int n) (y:=.int (xE b s)) rfl rfl (dF h1)) (i7 rfl (i7 rfl rfl (b1 b)) (modS hp))))))
def pN:R->Option Out:=
 (l4 (l7 (c4 (i3 i8 (c5 1) (fun _=>some bT)) (c4 (i3 ui (i3 m9 (i3 i8 (c5 1) (fun _=>some aY)) (c5 2)) (fun _=>some dD)) (c4 (i3 i8 (c5 1) (fun _=>some ba)) (c4 (c8 dZ (c4 (i3 i8 (c5 1) (fun _=>some b_)) (c4 (c5 2) c7))) (c4 (c8 dm (c4 (i3 i8 (c5 1) (fun _=>some aQ)) (c4 (c5 2) c7))) (c4 (c8 dY (c4 (c5 1) (c4 (c5 2) c7))) (c4 (c8 dX (c4 (i3 i8 (c5 1) (fun _=>some aV)) (c4 (c5 2) c7))) (c4 (c8 d_ (c4 (c5 0) (c4 (c5 1) (c4 (c5 2) c7)))) c7))))))))))
def cE:LD->OD:=via 3 3 pN
theorem h_{b:Bk}{s:WS}(n:Int)(hb:0<=b.back):cE [b.d,s.d,.int n]=some (counted b s n).d:=
 k9 (retS (tupS (m8 (i7 rfl rfl (w0 s)) (m8 (i7 (i7 (i7 rfl rfl (w1 s)) rfl rfl) rfl rfl) (m8 (i7 rfl rfl (w2 s)) (m8 (i4 (m8 (i7 rfl rfl (w3 s)) rfl) (pE s n)) (m8 (i4 (m8 (i7 rfl rfl (w4 s)) rfl) (nr s n)) (m8 (i4 rfl (pU s n)) (m8 (i4 (m8 (i7 rfl rfl (w6 s)) rfl) (pz s.held n)) (m8 (i4 rfl (pO n hb)) rfl))))))))))
def mD:R->Option Out:=
 (l4 (A7 (Cf (k7 EJ (i3 i8 (c5 0) (kI 1)) (kI 0))) (A7 (Cf (k7 NF (i3 i8 (c5 1) (fun _=>some bT)) (kI 0))) (E9 (i3 i8 (i3 i8 (i3 i8 (c5 0) (kI 2)) (i3 i8 (c5 1) (fun _=>some bT))) (kI 1))))))
def cQ:LD->OD:=via 2 2 mD
theorem my{b:Bk}{s:WS}(w:s.Wk b):cQ [b.d,s.d]=some (.bl (ya b s)):=by
 have hm:=kM b w.mode
 unfold ya
 have c1:Cf (k7 EJ (i3 i8 (c5 0) (kI 1)) (kI 0)) [some b.d,some s.d]=some (.bl (decide (0<b.back))):=FX (ug (i7 rfl rfl (b1 b)) rfl rfl)
 have e2:NF (.int (s.mode:Int)) (.int 0)=some (!decide (s.mode=0)):=by
  show some (!((s.mode:Int)==0))=_
  cases s.mode<;>rfl
 have c2:Cf (k7 NF (i3 i8 (c5 1) (fun _=>some bT)) (kI 0)) [some b.d,some s.d]=some (.bl (!decide (s.mode=0))):=FX (ug (i7 rfl rfl (w0 s)) rfl e2)
 generalize b.modes.getD s.mode default=md at *
 have c3:E9 (i3 i8 (i3 i8 (i3 i8 (c5 0) (kI 2)) (i3 i8 (c5 1) (fun _=>some bT))) (kI 1)) [some b.d,some s.d]=some (.bl !md.stays):=by
  show(i3 i8 _ _ _).bind _=_
  rw[i7 (i7 (i7 rfl rfl (b2 b)) (i7 rfl rfl (w0 s)) hm) rfl (m1 md)];rfl
 generalize decide (0<b.back)=p at *
 generalize (!decide (s.mode=0))=q at *
 cases p
 ·~k9 (retS (Hd c1))
 ·cases q
  ·~k9 (retS (Lh c1 (Hd c2)))
  ·~k9 (retS (Lh c1 (Lh c2 c3)))
def iE:R->Option Out:=
 (l4 (c8 Fz (c4 (kI 1) (c4 (i3 wY (i3 i8 (c5 0) (kI 0)) (i3 i8 (i3 i8 (c5 1) (fun _=>some aV)) (kI 1))) c7))))
def bC:LD->OD:=via 2 2 iE
theorem iK{b:Bk}{s:WS}{x:wL}{k:Int}(h:s.held=some (x,some k)):bC [b.d,s.d]=some (.int (mx 1 (b.hold - k))):=by
 have e6:=w6 s
 rw[h] at e6
 ~k9 (retS (i4 (m8 rfl (m8 (i7 (i7 rfl rfl (b0 b)) (i7 (i7 rfl rfl e6) rfl (h1 x (some k))) rfl) rfl)) (Oi _ _)))
def mO:R->Option Out:=
  (l5 (l3 (i3 i8 (c5 1) (fun _=>some aV)) (setAt 2))
  (l5 (yY (k7 zU (c5 2) (fun _=>some .non))
  (l4 (Dc (wV (c8 cQ (c4 (c5 0) (c4 (c5 1) c7)))) (c8 a_ (c4 (c5 0) (c4 (c5 1) c7))) (fun _=>some .non)))
  uu)
  (l4 (Dc (k7 zU (i3 i8 (c5 2) (kI 1)) (fun _=>some .non)) (fun _=>some .non) (c8 bC (c4 (c5 0) (c4 (c5 1) c7)))))))
def bP:LD->OD:=via 2 3 mO
theorem iz{b:Bk}{s:WS}(w:s.Wk b):bP [b.d,s.d]=some (uk (t6 b s)):=by
 have e1:=my w
 have e2:=fk b s
 have e6:=w6 s
 unfold t6
 rcases hs:s.held with _ | ⟨x,_ | k⟩<;>rw[hs] at e6
 ·cases hg:ya b s<;>rw[hg] at e1
  ·~k9 ((k8 (l9 (i7 rfl rfl e6) rfl)).trans (v8 ((zF rfl).trans (retS (Hb (B4 (i4 rfl e1)) rfl)))))
  ·~k9 ((k8 (l9 (i7 rfl rfl e6) rfl)).trans (v8 ((zF rfl).trans (retS (Fw (B4 (i4 rfl e1)) (i4 rfl e2))))))
 ·~k9 ((k8 (l9 (i7 rfl rfl e6) rfl)).trans ((k8 (yT rfl)).trans (retS (Fw rfl rfl))))
 ·have e3:=iK (b:=b) hs
  ~k9 ((k8 (l9 (i7 rfl rfl e6) rfl)).trans ((k8 (yT rfl)).trans (retS (Hb rfl (i4 rfl e3)))))
def tV:R->Option Out:=
 (l4 (i3 m9 (i3 m9 (LK (c5 0) Oy (aP (c5 1))) (l7 (c4 (c5 2) c7))) (LK (c5 0) (aP (i3 m9 (c5 1) (kI 1))) Oy)))
def aG:LD->OD:=via 3 3 tV
section
variable(a b c d e f g i x:D)
theorem yt{xs ys:LD}(h:xs.length+ys.length<=8):m9 (.tup xs) (.tup ys)=some (.tup (xs++ys)):=by
 show(if xs.length+ys.length<=sizeLine then _ else none)=_
 rw[if_pos (Nat.le_trans h Rl)]
theorem QO:aG [.tup [a,b,c,d,e,f,g,i],.int 0,x]=some (.tup [x,b,c,d,e,f,g,i]):=k9 (retS (i7 (i7 (Dn rfl rfl rfl rfl) (tupS (m8 rfl rfl)) (yt (show 1<=8 by decide))) (Dn rfl rfl rfl rfl) (yt (show 8<=8 by decide))))
theorem P7:aG [.tup [a,b,c,d,e,f,g,i],.int 1,x]=some (.tup [a,x,c,d,e,f,g,i]):=k9 (retS (i7 (i7 (Dn rfl rfl rfl rfl) (tupS (m8 rfl rfl)) (yt (show 2<=8 by decide))) (Dn rfl rfl rfl rfl) (yt (show 8<=8 by decide))))
theorem put2:aG [.tup [a,b,c,d,e,f,g,i],.int 2,x]=some (.tup [a,b,x,d,e,f,g,i]):=k9 (retS (i7 (i7 (Dn rfl rfl rfl rfl) (tupS (m8 rfl rfl)) (yt (show 3<=8 by decide))) (Dn rfl rfl rfl rfl) (yt (show 8<=8 by decide))))
theorem put3:aG [.tup [a,b,c,d,e,f,g,i],.int 3,x]=some (.tup [a,b,c,x,e,f,g,i]):=k9 (retS (i7 (i7 (Dn rfl rfl rfl rfl) (tupS (m8 rfl rfl)) (yt (show 4<=8 by decide))) (Dn rfl rfl rfl rfl) (yt (show 8<=8 by decide))))
theorem Qa:aG [.tup [a,b,c,d,e,f,g,i],.int 4,x]=some (.tup [a,b,c,d,x,f,g,i]):=k9 (retS (i7 (i7 (Dn rfl rfl rfl rfl) (tupS (m8 rfl rfl)) (yt (show 5<=8 by decide))) (Dn rfl rfl rfl rfl) (yt (show 8<=8 by decide))))
theorem Qr:aG [.tup [a,b,c,d,e,f,g,i],.int 5,x]=some (.tup [a,b,c,d,e,x,g,i]):=k9 (retS (i7 (i7 (Dn rfl rfl rfl rfl) (tupS (m8 rfl rfl)) (yt (show 6<=8 by decide))) (Dn rfl rfl rfl rfl) (yt (show 8<=8 by decide))))
theorem Mf:aG [.tup [a,b,c,d,e,f,g,i],.int 6,x]=some (.tup [a,b,c,d,e,f,x,i]):=k9 (retS (i7 (i7 (Dn rfl rfl rfl rfl) (tupS (m8 rfl rfl)) (yt (show 7<=8 by decide))) (Dn rfl rfl rfl rfl) (yt (show 8<=8 by decide))))
theorem Qg:aG [.tup [a,b,c,d,e,f,g,i],.int 7,x]=some (.tup [a,b,c,d,e,f,g,x]):=k9 (retS (i7 (i7 (Dn rfl rfl rfl rfl) (tupS (m8 rfl rfl)) (yt (show 8<=8 by decide))) (Dn rfl rfl rfl rfl) (yt (show 8<=8 by decide))))
end
theorem Q3(s:WS)(m:Nat):aG [s.d,.int 0,.int (m:Int)]=some {s with mode:=m}.d:=QO ..
theorem P9(s:WS)(c:Int):aG [s.d,.int 1,.int c]=some {s with clock:=c}.d:=P7 ..
theorem Qi(s:WS)(h m:Int)(o:Bool):aG [s.d,.int 2,.tup [.int h,.int m,.bl o]]=some {s with ah:=h,am:=m,aon:=o}.d:=put2 ..
theorem PX(s:WS)(m:Int)(r:Bool)(k:List Int):aG [s.d,.int 3,.tup [.int m,.bl r,.tup (k.map .int)]]=some {s with lm:=m,lr:=r,lk:=k}.d:=put3 ..
theorem QW(s:WS)(m c l:Int)(r:Bool):aG [s.d,.int 4,.tup [.int m,.int c,.int l,.bl r]]=some {s with cm:=m,cs:=c,cl:=l,cr:=r}.d:=Qa ..
theorem QX(s:WS)(r:Int):aG [s.d,.int 5,.int r]=some {s with ring:=r}.d:=Qr ..
theorem NP(s:WS):aG [s.d,.int 6,.non]=some {s with held:=none}.d:=Mf ..
theorem Ob(s:WS)(x:wL)(k:Option Int):aG [s.d,.int 6,.tup [.str x.x,uk k]]=some {s with held:=some (x,k)}.d:=Mf ..
theorem QA(s:WS)(x:wL):aG [s.d,.int 6,.tup [.str x.x,.non]]=some {s with held:=some (x,none)}.d:=Mf ..
theorem PM(s:WS)(i:Int):aG [s.d,.int 7,.int i]=some {s with idle:=i}.d:=Qg ..
def kj:R->Option Out:=
 (l4 (c5 0))
def de:LD->OD:=via 1 1 kj
theorem pX(s:WS):de [s.d]=some (deed .none s).d:=by simp[de,via,kj,deed]
def ky:R->Option Out:=
 (l4 (c8 aG (c4 (c5 0) (c4 (fun _=>some aY) (c4 (i3 ui (i3 m9 (i3 i8 (c5 0) (fun _=>some aY)) (kI 3600)) (kI 86400)) c7)))))
def dg:LD->OD:=via 1 1 ky
theorem pH(s:WS):dg [s.d]=some (deed .hour s).d:=by simp[-i8,dg,via,ky,aY,w1,P9,deed]
def iA:R->Option Out:=
  (l5 (l3 (i3 i8 (c5 0) (fun _=>some aY)) (setAt 1))
  (l5 (l3 (i3 ui (i3 m9 (i3 ui (c5 1) (kI 3600)) (kI 60)) (kI 3600)) (setAt 2))
  (l4 (c8 aG (c4 (c5 0) (c4 (fun _=>some aY) (c4 (i3 m9 (i3 wY (c5 1) (i3 ui (c5 1) (kI 3600))) (c5 2)) c7)))))))
def cb:LD->OD:=via 1 3 iA
theorem mE(s:WS):cb [s.d]=some (deed .minute s).d:=by simp[-i8,cb,via,iA,aY,w1,P9,deed]
def kx:R->Option Out:=
 (l4 (c8 aG (c4 (c5 0) (c4 (fun _=>some aY) (c4 (i3 wY (i3 i8 (c5 0) (fun _=>some aY)) (i3 ui (i3 i8 (c5 0) (fun _=>some aY)) (kI 60))) c7)))))
def db:LD->OD:=via 1 1 kx
theorem pj(s:WS):db [s.d]=some (deed .zero s).d:=by simp[-i8,db,via,kx,aY,w1,P9,deed]
def fq:R->Option Out:=
  (l5 (l3 (i3 i8 (c5 0) (fun _=>some ba)) (setAt 1))
  (l4 (c8 aG (c4 (c5 0) (c4 (fun _=>some ba) (c4 (l7 (c4 (i3 ui (i3 m9 (i3 i8 (c5 1) (kI 0)) (kI 1)) (kI 24)) (c4 (i3 i8 (c5 1) (kI 1)) (c4 (i3 i8 (c5 1) (kI 2)) c7)))) c7))))))
def bj:LD->OD:=via 1 2 fq
theorem iJ(s:WS):bj [s.d]=some (deed .ahour s).d:=by simp[-i8,bj,via,fq,ba,w2,OM,Pa,O8,Qi,deed]
def dE:R->Option Out:=
  (l5 (l3 (i3 i8 (c5 0) (fun _=>some ba)) (setAt 1))
  (l4 (c8 aG (c4 (c5 0) (c4 (fun _=>some ba) (c4 (l7 (c4 (i3 i8 (c5 1) (kI 0)) (c4 (i3 ui (i3 m9 (i3 i8 (c5 1) (kI 1)) (kI 1)) (kI 60)) (c4 (i3 i8 (c5 1) (kI 2)) c7)))) c7))))))
def aX:LD->OD:=via 1 2 dE
theorem gB(s:WS):aX [s.d]=some (deed .aminute s).d:=by simp[-i8,aX,via,dE,ba,w2,OM,Pa,O8,Qi,deed]
def fN:R->Option Out:=
  (l5 (l3 (i3 i8 (c5 0) (fun _=>some ba)) (setAt 1))
  (l4 (c8 aG (c4 (c5 0) (c4 (fun _=>some ba) (c4 (l7 (c4 (i3 i8 (c5 1) (kI 0)) (c4 (i3 i8 (c5 1) (kI 1)) (c4 (E9 (i3 i8 (c5 1) (kI 2))) c7)))) c7))))))
def bw:LD->OD:=via 1 2 fN
theorem jC(s:WS):bw [s.d]=some (deed .alarm s).d:=by simp[-i8,bw,via,fN,ba,w2,OM,Pa,O8,Qi,deed]
def gf:R->Option Out:=
  (l5 (l3 (i3 i8 (c5 0) (fun _=>some b_)) (setAt 1))
  (l4 (c8 aG (c4 (c5 0) (c4 (fun _=>some b_) (c4 (l7 (c4 (i3 i8 (c5 1) (kI 0)) (c4 (E9 (i3 i8 (c5 1) (kI 1))) (c4 (i3 i8 (c5 1) (kI 2)) c7)))) c7))))))
def bG:LD->OD:=via 1 2 gf
theorem jW(s:WS):bG [s.d]=some (deed .run s).d:=by simp[-i8,bG,via,gf,b_,w3,OK,P0,Ol,PX,deed]
def nO:R->Option Out:=
  (l5 (l3 (i3 i8 (c5 0) (fun _=>some b_)) (setAt 1))
  (l5 (yY (Ft (wV (i3 i8 (c5 1) (kI 1))))
  (l4 (c8 aG (c4 (c5 0) (c4 (fun _=>some b_) (c4 (l7 (c4 (kI 0) (c4 (fun _=>some (.bl false)) (c4 (l7 c7) c7)))) c7)))))
  uu)
  (l5 (yY (k7 NK (c8 xo (c4 (i3 i8 (c5 1) (kI 2)) c7)) (fun _=>some fz))
  (l4 (c5 0))
  uu)
  (l4 (c8 aG (c4 (c5 0) (c4 (fun _=>some b_) (c4 (l7 (c4 (i3 i8 (c5 1) (kI 0)) (c4 (fun _=>some (.bl true)) (c4 (i3 m9 (i3 i8 (c5 1) (kI 2)) (l7 (c4 (i3 i8 (c5 1) (kI 0)) c7))) c7)))) c7))))))))
def dq:LD->OD:=via 1 2 nO
theorem oa(s:WS)(h:s.lk.length<=4):dq [s.d]=some (deed .lap s).d:=by
 have t:wV (i3 i8 (c5 1) (kI 1)) [some s.d,some s.lapsD]=some s.lr:=B4 (i7 rfl rfl (P0 s))
 have hl:xo [.tup (s.lk.map .int)]=some (.int s.lk.length):=by show some (D.int ((s.lk.map D.int).length:Int))=_;rw[List.length_map]
 have hlen:c8 xo (c4 (i3 i8 (c5 1) (kI 2)) c7) [some s.d,some s.lapsD]=some (.int s.lk.length):=i4 (m8 (i7 rfl rfl (Ol s)) rfl) hl
 have a1:l3 (i3 i8 (c5 0) (fun _=>some b_)) (setAt 1) [some s.d,none]=some (.nx [some s.d,some s.lapsD]):=l9 (i7 rfl rfl (w3 s)) rfl
 cases hr:s.lr with
 | false =>
  have e:deed .lap s={s with lm:=0,lr:=false,lk:=[]}:=by
   show(if s.lr then _ else {s with lm:=0,lk:=[]})=_
   rw[if_neg (by rw[hr];decide),<- hr]
  rw[hr] at t
  rw[e]
  ~k9 ((k8 a1).trans (v8 ((zF (Jw (b:=false) t)).trans (retS (i4 (m8 rfl (m8 rfl (m8 (tupS (m8 rfl (m8 rfl (m8 (tupS rfl) rfl)))) rfl))) (PX s 0 false []))))))
 | true =>
  rw[hr] at t
  have n1:yY (Ft (wV (i3 i8 (c5 1) (kI 1)))) (l4 (c8 aG (c4 (c5 0) (c4 (fun _=>some b_) (c4 (l7 (c4 (kI 0) (c4 (fun _=>some (.bl false)) (c4 (l7 c7) c7)))) c7))))) uu [some s.d,some s.lapsD]=some (.nx [some s.d,some s.lapsD]):=(yT (Jw (b:=true) t)).trans rfl
  by_cases h4:4<=s.lk.length
  ·have e:deed .lap s=s:=by
    show(if s.lr then (if 4<=s.lk.length then s else _) else _)=_
    rw[if_pos hr,if_pos h4]
   rw[e]
   ~k9 ((k8 a1).trans ((k8 n1).trans (v8 ((zF (ug hlen rfl (dT (Int.ofNat_le.mpr h4)))).trans (retS rfl)))))
  ·have e:deed .lap s={s with lm:=s.lm,lr:=true,lk:=s.lk++[s.lm]}:=by
    show(if s.lr then (if 4<=s.lk.length then s else {s with lk:=s.lk++[s.lm]}) else _)=_
    rw[if_pos hr,if_neg h4,<- hr]
   have ha:m9 (.tup (s.lk.map .int)) (.tup [.int s.lm])=some (.tup ((s.lk++[s.lm]).map .int)):=by
    rw[List.map_append]
    ~yt (by rw[List.length_map];show s.lk.length+1<=8;omega)
   rw[e]
   ~k9 ((k8 a1).trans ((k8 n1).trans ((k8 ((yT (ug hlen rfl (dF fun q=>h4 (Int.ofNat_le.mp q)))).trans rfl)).trans (retS (i4 (m8 rfl (m8 rfl (m8 (tupS (m8 (i7 rfl rfl (OK s)) (m8 rfl (m8 (i7 (i7 rfl rfl (Ol s)) (tupS (m8 (i7 rfl rfl (OK s)) rfl)) ha) rfl)))) rfl))) (PX s s.lm true (s.lk++[s.lm])))))))
def nj:R->Option Out:=
  (l5 (yY (wV (i3 i8 (i3 i8 (c5 0) (fun _=>some aQ)) (kI 3)))
  (l4 (c5 0))
  uu)
  (l4 (c8 aG (c4 (c5 0) (c4 (fun _=>some aQ) (c4 (l7 (c4 (c5 1) (c4 (c5 2) (c4 (i3 m9 (i3 x6 (kI 60) (c5 1)) (c5 2)) (c4 (fun _=>some (.bl false)) c7))))) c7))))))
def bU:LD->OD:=via 3 3 nj
theorem jq(s:WS)(m c:Int):bU [s.d,.int m,.int c]=some (zJ s m c).d:=by
 cases hr:s.cr<;>simp[-i8,-x6,bU,via,nj,aQ,w4,QG,hr,zJ,La,QW]
def dJ:R->Option Out:=
  (l5 (l3 (i3 i8 (c5 0) (fun _=>some aQ)) (setAt 1))
  (l4 (c8 bU (c4 (c5 0) (c4 (i3 ui (i3 m9 (i3 i8 (c5 1) (kI 0)) (kI 1)) (kI 60)) (c4 (i3 i8 (c5 1) (kI 1)) c7))))))
def aW:LD->OD:=via 1 2 dJ
theorem gJ(s:WS):aW [s.d]=some (deed .cminute s).d:=by simp[-i8,aW,via,dJ,aQ,w4,OL,Pm,jq,deed]
def dH:R->Option Out:=
  (l5 (l3 (i3 i8 (c5 0) (fun _=>some aQ)) (setAt 1))
  (l4 (c8 bU (c4 (c5 0) (c4 (i3 i8 (c5 1) (kI 0)) (c4 (i3 ui (i3 m9 (i3 i8 (c5 1) (kI 1)) (kI 1)) (kI 60)) c7))))))
def aZ:LD->OD:=via 1 2 dH
theorem gE(s:WS):aZ [s.d]=some (deed .csecond s).d:=by simp[-i8,aZ,via,dH,aQ,w4,OL,Pm,jq,deed]
def mz:R->Option Out:=
  (l5 (l3 (i3 i8 (c5 0) (fun _=>some aQ)) (setAt 1))
  (l4 (c8 bU (c4 (c5 0) (c4 (i3 i8 (c5 1) (kI 0)) (c4 (i3 i8 (c5 1) (kI 1)) c7))))))
def dW:LD->OD:=via 1 2 mz
theorem qH(s:WS):dW [s.d]=some (deed .full s).d:=by simp[-i8,dW,via,mz,aQ,w4,OL,Pm,jq,deed]
def iW:R->Option Out:=
  (l5 (l3 (i3 i8 (c5 0) (fun _=>some aQ)) (setAt 1))
  (l5 (l3 (A7 (E9 (i3 i8 (c5 1) (kI 3))) (Cf (k7 EJ (i3 i8 (c5 1) (kI 2)) (kI 0)))) (setAt 2))
  (l4 (c8 aG (c4 (c5 0) (c4 (fun _=>some aQ) (c4 (l7 (c4 (i3 i8 (c5 1) (kI 0)) (c4 (i3 i8 (c5 1) (kI 1)) (c4 (i3 i8 (c5 1) (kI 2)) (c4 (c5 2) c7))))) c7)))))))
def bJ:LD->OD:=via 1 3 iW
theorem ja(s:WS):bJ [s.d]=some (deed .count s).d:=by
 have q:∀r:Bool,A7 (E9 (i3 i8 (c5 1) (kI 3))) (Cf (k7 EJ (i3 i8 (c5 1) (kI 2)) (kI 0))) [some s.d,some (.tup [.int s.cm,.int s.cs,.int s.cl,.bl r]),none]=some (.bl (!r&&decide (0<s.cl))):=by
  intro r
  cases r
  ·~Lh rfl (FX (ug (i7 rfl rfl rfl) rfl rfl))
  ·~Hd rfl
 ~k9 ((k8 (l9 (i7 rfl rfl (w4 s)) rfl)).trans ((k8 (l9 (q s.cr) rfl)).trans (retS (i4 (m8 rfl (m8 rfl (m8 (tupS (m8 (i7 rfl rfl (OL s)) (m8 (i7 rfl rfl (Pm s)) (m8 (i7 rfl rfl (PH s)) rfl)))) rfl))) (QW s s.cm s.cs s.cl _)))))
def yK:List (Str×(LD->OD)):=[(oS "none",de),(oS "hour",dg),(oS "minute",cb),(oS "zero",db),(oS "ahour",bj),(oS "aminute",aX),(oS "alarm",bw),(oS "run",bG),(oS "lap",dq),(oS "cminute",aW),(oS "csecond",aZ),(oS "full",dW),(oS "count",bJ)]
def kU:R->Option Out:=
  (l5 (l3 (i3 i8 (i3 i8 (i3 i8 (c5 0) (kI 2)) (i3 i8 (c5 1) (fun _=>some bT))) (kI 2)) (setAt 3))
  (l5 (l3 (i3 i8 (c5 3) (wR (HX df) (c5 2))) (setAt 4))
  (Nz 5 yK (i3 i8 (c5 4) (kI 0)) (fun G_=>(l4 (c8 aG (c4 (c8 G_ (c4 (c5 1) c7)) (c4 (fun _=>some bT) (c4 (i3 i8 (c5 4) (kI 1)) c7)))))))))
def bA:LD->OD:=via 3 6 kU
theorem rJ(d:yS)(s:WS)(h:s.lk.length<=4):∃F,yK.lookup d.x=some F/\F [s.d]=some (deed d s).d:=by
 cases d
 ·~⟨_,rfl,pX s⟩
 ·~⟨_,rfl,pH s⟩
 ·~⟨_,rfl,mE s⟩
 ·~⟨_,rfl,pj s⟩
 ·~⟨_,rfl,iJ s⟩
 ·~⟨_,rfl,gB s⟩
 ·~⟨_,rfl,jC s⟩
 ·~⟨_,rfl,jW s⟩
 ·~⟨_,rfl,oa s h⟩
 ·~⟨_,rfl,gJ s⟩
 ·~⟨_,rfl,gE s⟩
 ·~⟨_,rfl,qH s⟩
 ·~⟨_,rfl,ja s⟩
theorem O7(x:wL):HX df (.str x.x)=some (.int (x.ix:Int)):=by cases x<;>rfl
theorem OV(x:wL):HX df (.str x.X)=some (.int ((x.ix+3:Nat):Int)):=by cases x<;>rfl
theorem RL{i:Nat}{tab:List (Str×(LD->OD))}{f:R->OD}{g:(LD->OD)->R->Option Out}{ρ:R}{z:Str}{F:LD->OD}{o:Option Out}(h1:f ρ=some (.str z))(h2:tab.lookup z=some F)(hi:i<ρ.length)(h3:g F (ρ.set i none)=o):Nz i tab f g ρ=o:=by
 unfold Nz
 rw[h1]
 show(tab.lookup z).bind _=_
 rw[h2]
 show(if i<ρ.length then g F (ρ.set i none) else none)=_
 rw[if_pos hi,h3]
theorem gP{b:Bk}{s:WS}(ok:b.Ok)(w:s.Wk b){p:Str}{i:Nat}(hi:i<6)(hp:HX df (.str p)=some (.int (i:Int))):bA [b.d,s.d,.str p]=some (press b s i).d:=by
 have hm:=kM b w.mode
 have h6:=(ok.all _ (qp b w.mode)).six
 have hr:=ti (b.modes.getD s.mode default) (i:=i) (by rw[h6];~hi)
 !⟨F,hF,hs⟩:=rJ (b.row s.mode i).1 s w.lk
 unfold Bk.row at hF hs
 unfold press Bk.row
 generalize (b.modes.getD s.mode default)=md at *
 generalize (md.rows.getD i (yS.none,0))=rw_ at *
 ~k9 ((k8 (l9 (i7 (i7 (i7 rfl rfl (b2 b)) (i7 rfl rfl (w0 s)) hm) rfl (m2 md)) rfl)).trans ((k8 (l9 (i7 rfl (B7 rfl hp) hr) rfl)).trans
  (RL (i7 rfl rfl (r0 rw_)) hF (by simp) (retS (i4 (m8 (i4 rfl hs) (m8 rfl (m8 (i7 rfl rfl (r1 rw_)) rfl))) (Q3 _ _))))))
def ri:R->Option Out:=
  (l5 (l3 (i3 i8 (c5 1) (fun _=>some aV)) (setAt 2))
  (l5 (yY (k7 zU (c5 2) (fun _=>some .non))
  (l4 (c8 aG (c4 (c5 1) (c4 (fun _=>some bT) (c4 (kI 0) c7)))))
  uu)
  (l4 (c8 bA (c4 (c5 0) (c4 (c8 aG (c4 (c5 1) (c4 (fun _=>some aV) (c4 (l7 (c4 (i3 i8 (c5 2) (kI 0)) (c4 (fun _=>some .non) c7))) c7)))) (c4 (wR Py (i3 i8 (c5 2) (kI 0))) c7)))))))
def fu:LD->OD:=via 2 3 ri
theorem OA(x:wL):Py (.str x.x)=some (.str x.X):=by cases x<;>rfl
theorem Ef{b:Bk}{s:WS}(h:s.held=none):turned b s={s with mode:=0}:=by
 unfold turned
 split
 ·rfl
 ·rename_i e;rw[h] at e;cases e
theorem D2{b:Bk}{s:WS}{x:wL}{k:Option Int}(h:s.held=some (x,k)):turned b s=press b {s with held:=some (x,none)} (x.ix+3):=by
 unfold turned
 split
 ·rename_i e;rw[h] at e;cases e
 ·rename_i e;rw[h] at e;cases e;rfl
theorem rC{b:Bk}{s:WS}(ok:b.Ok)(w:s.Wk b):fu [b.d,s.d]=some (turned b s).d:=by
 have e6:=w6 s
 rcases hs:s.held with _ | ⟨x,k⟩<;>rw[hs] at e6
 ·rw[Ef hs]
  ~k9 ((k8 (l9 (i7 rfl rfl e6) rfl)).trans (v8 ((zF rfl).trans (retS (i4 rfl (Q3 s 0))))))
 ·have e:=gP (s:={s with held:=some (x,none)}) ok {w with} x.ix3 (OV x)
  rw[D2 hs]
  ~k9 ((k8 (l9 (i7 rfl rfl e6) rfl)).trans ((k8 (yT rfl)).trans (retS (i4 (m8 rfl (m8 (i4 (m8 rfl (m8 rfl (m8 (tupS (m8 (i7 rfl rfl (h0 x k)) rfl)) rfl))) (QA s x)) (m8 (B7 (i7 rfl rfl (h0 x k)) (OA x)) rfl))) e))))
def ge:R->Option Out:=
 (l4 (c8 fu (c4 (c5 0) (c4 (c8 cE (c4 (c5 0) (c4 (c5 1) (c4 (c8 bP (c4 (c5 0) (c4 (c5 1) c7))) c7)))) c7))))
def bF:LD->OD:=via 2 2 ge
theorem pZ{b:Bk}{s:WS}{t:Int}(ok:b.Ok)(w:s.Wk b)(h:t6 b s=some t):bF [b.d,s.d]=some (behind b s t).d:=by
 have e1:=iz w
 rw[h] at e1
 have ht:=xn h
 have e2:=h_ (s:=s) t ok.back0
 have e3:=rC ok (w.cnt (n:=t) (by omega))
 simp only[uk] at e1
 simp[bF,via,ge,e1,e2,e3,behind]
def l_:R->Option Out:=
  (l5 (l3 (c8 bP (c4 (c5 0) (c4 (c5 1) c7))) (setAt 3))
  (l5 (yY (Ds (k7 zU (c5 3) (fun _=>some .non)) (k7 EJ (c5 3) (c5 2)))
  (l4 (Eu (c4 (l7 (c4 (kI 0) (c4 (c5 1) (c4 (c5 2) c7)))) c7)))
  uu)
  (l4 (Eu (c4 (l7 (c4 (kI 0) (c4 (c5 1) (c4 (c5 3) c7)))) (c4 (l7 (c4 (c5 3) (c4 (c8 bF (c4 (c5 0) (c4 (c5 1) c7))) (c4 (i3 wY (c5 2) (c5 3)) c7)))) c7))))))
def aK:LD->OD:=via 3 4 l_
def uA(b:Bk)(s:WS)(n:Int):LD:=match t6 b s with
 | none=>[.tup [.int 0,s.d,.int n]]
 | some t=>if n<t then [.tup [.int 0,s.d,.int n]] else [.tup [.int 0,s.d,.int t],.tup [.int t,(behind b s t).d,.int (n - t)]]
theorem fH{b:Bk}{s:WS}(n:Int)(ok:b.Ok)(w:s.Wk b):aK [b.d,s.d,.int n]=some (.lst (uA b s n)):=by
 have e1:=iz w
 unfold uA
 cases h:t6 b s with
 | none =>
  rw[h] at e1
  ~k9 ((k8 (l9 (i4 rfl e1) rfl)).trans (v8 ((zF (QH rfl)).trans (retS rfl))))
 | some t =>
  have e2:=pZ ok w h
  rw[h] at e1
  dsimp only
  by_cases hn:n<t
  ·rw[if_pos hn]
   ~k9 ((k8 (l9 (i4 rfl e1) rfl)).trans (v8 ((zF (Ny rfl (ug rfl rfl (dT hn)))).trans (retS rfl))))
  ·rw[if_neg hn]
   ~k9 ((k8 (l9 (i4 rfl e1) rfl)).trans ((k8 (yT (Ny rfl (ug rfl rfl (dF hn))))).trans (retS (JL (m8 rfl (m8 (tupS (m8 rfl (m8 (i4 rfl e2) rfl))) rfl))))))
def rq:R->Option Out:=
  (l5 (l3 (i3 i8 (c8 aK (c4 (c5 0) (c4 (c5 1) (c4 (c5 2) c7)))) (wR D4 (kI 1))) (setAt 3))
  (l4 (c8 cE (c4 (c5 0) (c4 (i3 i8 (c5 3) (kI 1)) (c4 (i3 i8 (c5 3) (kI 2)) c7))))))
def fF:LD->OD:=via 3 4 rq
theorem rm{b:Bk}{s:WS}(n:Int)(ok:b.Ok)(w:s.Wk b):fF [b.d,s.d,.int n]=some (ticked b s n).d:=by
 have e1:=fH n ok w
 unfold uA at e1
 unfold ticked
 have e2:=h_ (s:=s) n ok.back0
 cases h:t6 b s with
 | none =>
  rw[h] at e1
  ~k9 ((k8 (l9 (i7 (i4 rfl e1) rfl rfl) rfl)).trans (retS (i4 rfl e2)))
 | some t =>
  rw[h] at e1
  dsimp only at e1 ⊢
  have e3:=h_ (s:=behind b s t) (n - t) ok.back0
  by_cases hn:n<t
  ·rw[if_pos hn] at e1 ⊢
   ~k9 ((k8 (l9 (i7 (i4 rfl e1) rfl rfl) rfl)).trans (retS (i4 rfl e2)))
  ·rw[if_neg hn] at e1 ⊢
   ~k9 ((k8 (l9 (i7 (i4 rfl e1) rfl rfl) rfl)).trans (retS (i4 rfl e3)))
def qP:R->Option Out:=
  (l5 (yY (k7 wB (i3 i8 (c5 0) (fun _=>some aV)) (fun _=>some .non))
  (l4 (c5 0))
  uu)
  (l5 (l3 (Dc (k7 EJ (i3 i8 (c5 0) (fun _=>some eI)) (kI 0)) (fun _=>some .non) (kI 0)) (setAt 2))
  (l4 (c8 aG (c4 (c8 aG (c4 (c8 aG (c4 (c5 0) (c4 (fun _=>some eI) (c4 (kI 0) c7)))) (c4 (fun _=>some aV) (c4 (l7 (c4 (c5 1) (c4 (c5 2) c7))) c7)))) (c4 (fun _=>some dj) (c4 (kI 0) c7)))))))
def fQ:LD->OD:=via 2 3 qP
theorem qW(s:WS)(x:wL):fQ [s.d,.str x.x]=some (pushed s x).d:=by
 have e6:=w6 s
 have e5:=w5 s
 unfold pushed
 cases hh:s.held with
 | some v =>
  rw[hh] at e6
  ~k9 (v8 ((zF (ug (i7 rfl rfl e6) rfl rfl)).trans (retS rfl)))
 | none =>
  rw[hh] at e6
  by_cases hr:0<s.ring
  ·have z:=Ob {s with ring:=0} x none
   simp only[Option.isSome_none,Bool.false_eq_true,if_false,if_pos hr]
   ~k9 ((k8 (yT (ug (i7 rfl rfl e6) rfl rfl))).trans ((k8 (l9 (Fw (ug (i7 rfl rfl e5) rfl (dT hr)) rfl) rfl)).trans (retS (i4 (m8 (i4 (m8 (i4 rfl (QX s 0)) rfl) z) rfl) (PM _ 0)))))
  ·have z:=Ob {s with ring:=0} x (some 0)
   simp only[Option.isSome_none,Bool.false_eq_true,if_false,if_neg hr]
   ~k9 ((k8 (yT (ug (i7 rfl rfl e6) rfl rfl))).trans ((k8 (l9 (Hb (ug (i7 rfl rfl e5) rfl (dF hr)) rfl) rfl)).trans (retS (i4 (m8 (i4 (m8 (i4 rfl (QX s 0)) rfl) z) rfl) (PM _ 0)))))
def lD:R->Option Out:=
 (l4 (A7 (Cf (k7 wB (i3 i8 (c5 0) (fun _=>some aV)) (fun _=>some .non))) (Cf (k7 vY (i3 i8 (i3 i8 (c5 0) (fun _=>some aV)) (kI 0)) (c5 1)))))
def bz:LD->OD:=via 2 2 lD
theorem Mp(x y:wL):vY (.str x.x) (.str y.x)=some (decide (x=y)):=by cases x<;>cases y<;>rfl
theorem gM(s:WS)(x:wL):bz [s.d,.str x.x]=some (.bl (match s.held with | some (y,_)=>decide (y=x) | none=>false)):=by
 have e6:=w6 s
 rcases hs:s.held with _ | ⟨y,k⟩<;>rw[hs] at e6
 ·~k9 (retS (Hd (FX (ug (i7 rfl rfl e6) rfl rfl))))
 ·~k9 (retS (Lh (FX (ug (i7 rfl rfl e6) rfl rfl)) (FX (ug (i7 (i7 rfl rfl e6) rfl (h0 y k)) rfl (Mp y x)))))
def nM:R->Option Out:=
 (l4 (A7 (c8 bz (c4 (c5 0) (c4 (c5 1) c7))) (Cf (k7 wB (i3 i8 (i3 i8 (c5 0) (fun _=>some aV)) (kI 1)) (fun _=>some .non)))))
def bK:LD->OD:=via 2 2 nM
theorem jl(s:WS)(x:wL):bK [s.d,.str x.x]=some (.bl (match s.held with | some (y,k)=>decide (y=x)&&k.isSome | none=>false)):=by
 have e:=gM s x
 have e6:=w6 s
 rcases hs:s.held with _ | ⟨y,k⟩<;>rw[hs] at e e6
 ·~k9 (retS (Hd (i4 rfl e)))
 ·by_cases hy:y=x
  ·simp only[hy,decide_true,Bool.true_and] at e ⊢
   ~k9 (retS (Lh (i4 rfl e) (FX (ug (i7 (i7 rfl rfl e6) rfl (h1 y k)) rfl (KG k)))))
  ·simp only[hy,decide_false,Bool.false_and] at e ⊢
   ~k9 (retS (Hd (i4 rfl e)))
def qG:R->Option Out:=
  (l5 (yY (Ft (wV (c8 bz (c4 (c5 1) (c4 (c5 2) c7)))))
  (l4 (c5 1))
  uu)
  (l5 (yY (wV (c8 bK (c4 (c5 1) (c4 (c5 2) c7))))
  (l3 (c8 bA (c4 (c5 0) (c4 (c5 1) (c4 (c5 2) c7)))) (setAt 1))
  uu)
  (l4 (c8 aG (c4 (c8 aG (c4 (c5 1) (c4 (fun _=>some aV) (c4 (fun _=>some .non) c7)))) (c4 (fun _=>some dj) (c4 (kI 0) c7)))))))
def fW:LD->OD:=via 3 3 qG
theorem p_{b:Bk}{s:WS}(ok:b.Ok)(w:s.Wk b)(x:wL):fW [b.d,s.d,.str x.x]=some (letGo b s x).d:=by
 have e1:=gM s x
 have e2:=jl s x
 have e3:=gP ok w x.ix6 (O7 x)
 unfold letGo
 rcases hs:s.held with _ | ⟨y,k⟩<;>rw[hs] at e1 e2
 ·~k9 (v8 ((zF (Jw (B4 (i4 rfl e1)))).trans (retS rfl)))
 ·by_cases hy:y=x
  ·subst hy
   simp only[decide_true,Bool.true_and] at e1 e2
   dsimp only
   rw[if_pos rfl]
   cases k with
   | none=>~k9 ((k8 (yT (Jw (B4 (i4 rfl e1))))).trans ((k8 (yT (B4 (i4 rfl e2)))).trans (retS (i4 (m8 (i4 rfl (NP s)) rfl) (PM _ 0)))))
   | some j=>~k9 ((k8 (yT (Jw (B4 (i4 rfl e1))))).trans ((k8 ((zF (B4 (i4 rfl e2))).trans (l9 (i4 rfl e3) rfl))).trans (retS (i4 (m8 (i4 rfl (NP _)) rfl) (PM _ 0)))))
  ·dsimp only at e1 ⊢
   rw[decide_eq_false hy] at e1
   rw[if_neg hy]
   ~k9 (v8 ((zF (Jw (B4 (i4 rfl e1)))).trans (retS rfl)))
def sQ:R->Option Out:=
  (l5 (yY (k7 vY (i3 i8 (c5 2) (kI 0)) (kS "down"))
  (l4 (c8 fQ (c4 (c5 1) (c4 (i3 i8 (c5 2) (kI 1)) c7))))
  uu)
  (l5 (yY (k7 vY (i3 i8 (c5 2) (kI 0)) (kS "up"))
  (l4 (c8 fW (c4 (c5 0) (c4 (c5 1) (c4 (i3 i8 (c5 2) (kI 1)) c7)))))
  uu)
  (l4 (c8 fF (c4 (c5 0) (c4 (c5 1) (c4 (i3 i8 (c5 2) (kI 1)) c7)))))))
def dB:LD->OD:=via 3 3 sQ
theorem MC:vY (.str (oS "down")) (.str (oS "down"))=some true:=rfl
theorem MN:vY (.str (oS "up")) (.str (oS "down"))=some false:=rfl
theorem Nk:vY (.str (oS "ticks")) (.str (oS "down"))=some false:=rfl
theorem E5:vY (.str (oS "up")) (.str (oS "up"))=some true:=rfl
theorem MG:vY (.str (oS "ticks")) (.str (oS "up"))=some false:=rfl
theorem nD{b:Bk}{s:WS}(ok:b.Ok)(w:s.Wk b)(e:Ev):dB [b.d,s.d,e.d]=some (gone b s e).d:=by
 cases e with
 | down x=>~k9 (v8 ((zF (ug rfl rfl MC)).trans (retS (i4 rfl (qW s x)))))
 | up x=>~k9 ((k8 (yT (ug rfl rfl MN))).trans (v8 ((zF (ug rfl rfl E5)).trans (retS (i4 rfl (p_ ok w x))))))
 | ticks n=>~k9 ((k8 (yT (ug rfl rfl Nk))).trans ((k8 (yT (ug rfl rfl MG))).trans (retS (i4 rfl (rm n ok w)))))
def iy:R->Option Out:=
 (l3 (c8 dB (c4 (c5 0) (c4 (c5 1) (c4 (c5 3) c7)))) (setAt 1))
def ic:R->Option Out:=iy
def ie:R->Option Out:=
 (Cg (vj (c5 2)) (setAt 3) ic)
def km:R->Option Out:=
 (l4 (c5 1))
def sk:R->Option Out:=
 (l5 ie km)
def gK:LD->OD:=via 3 4 sk
theorem Bp{b:Bk}(ok:b.Ok)(rw_:OD):∀(es:List Ev) (s:WS) (o:OD),s.Ok b->(∀e∈es,e.Ok) ->
  ∃o',AC (setAt 3) ic (es.map Ev.d) [some b.d,some s.d,rw_,o]=some (.nx [some b.d,some (n9 b s es).d,rw_,o'])
 | [],s,o,_,_=>⟨o,rfl⟩
 | e::es,s,o,w,h=>by
  !⟨o',ih⟩:=Bp ok rw_ es (gone b s e) (some e.d) (AD ok w e (h e List.mem_cons_self)) fun x hx=>h x (List.mem_cons_of_mem _ hx)
  &⟨o',?_⟩
  rw[List.map_cons,Kz (ρ1:=[some b.d,some s.d,rw_,some e.d]) rfl (ρ2:=[some b.d,some (gone b s e).d,rw_,some e.d]) (by simp[ic,iy,nD ok w.toWk e]),ih]
  rfl
theorem rM{b:Bk}{s:WS}(ok:b.Ok)(w:s.Ok b)(es:List Ev)(h:∀e∈es,e.Ok):gK [b.d,s.d,.tup (es.map Ev.d)]=some (n9 b s es).d:=by
 !⟨o',e⟩:=Bp ok (some (.tup (es.map Ev.d))) es s none w h
 have e1:ie [some b.d,some s.d,some (.tup (es.map Ev.d)),none]=_:=C3 rfl e
 show(if (3:Nat)=3 then yc (l5 ie km [some b.d,some s.d,some (.tup (es.map Ev.d)),none]) else none)=_
 rw[if_pos rfl,k8 e1]
 rfl
def ft:R->Option Out:=
 (l3 (c8 aL (c4 (c5 0) c7)) (setAt 2))
def fB:R->Option Out:=
 (l3 (c8 aO (c4 (c5 0) c7)) (setAt 3))
def v5:R->Option Bool:=
 (k7 wB (c5 2) (fun _=>some .non))
def v4:R->Option LD:=
 (C4 (c5 2) (i3 m9 (c5 1) (kI 1)) (fun _=>some dD))
def ym:R->LD->Option (Out×LD):=
  (Jx (Bw (k7 wB (c5 3) (fun _=>some .non)) (k7 MT (c5 3) (c5 1)))
  (BX 4 (c5 3))
  Au)
def fw:R->Option Out:=
 (l4 (c8 Qh (c4 (c5 4) c7)))
def le:R->Option Out:=
 (l5 ft (l5 fB (GS 4 c7 (wN 4 v5 v4 (wD ym (As fw))))))
def bq:LD->OD:=via 2 5 le
def DT(n:Int)(o:Option Int):List Int:=match o with
 | some a=>(List.range (wF a (n+1) 86400)).map fun (k:Nat)=>a+(k:Int)*86400
 | none=>[]
def Ju(n:Int)(o:Option Int):List Int:=match o with
 | some c=>if c<=n then [c] else []
 | none=>[]
def uZ(s:WS)(n:Int):List Int:=xi (Bf (DT n (m7 s)++Ju n (uc s)))
theorem BE:∀l:List Int,intsOf (l.map D.int)=some l
 | []=>rfl
 | i::l=>by show(intsOf (l.map D.int)).map _=_;rw[BE l];rfl
theorem Dk{a n:Int}(h1:1<=a)(hn:n<259200):wF a (n+1) 86400<=3:=by
 unfold wF
 split<;>omega
theorem Mo{ds:LD}{ns:List Int}(e:ds=ns.map D.int)(h:ns.length<=4):Qh [.lst ds]=some (.lst ((xi (Bf ns)).map D.int)):=by
 subst e
 show(intsOf _).bind _=_
 rw[BE]
 ~if_pos h
theorem N7{i:Nat}{s:R->Option Bool}{f:R->Option LD}{w:R->LD->Option Out}{ρ:R}{ds es:LD}(h1:s ρ=some true)(h2:f ρ=some es)(h3:ρ.length=i)(h4:es.length<=1000):wN i s f w ρ ds=w ρ es:=by
 unfold wN;rw[h1]
 show(f ρ).bind _=_
 rw[h2]
 ~if_pos ⟨h3,h4⟩
theorem NQ{i:Nat}{s:R->Option Bool}{f:R->Option LD}{w:R->LD->Option Out}{ρ:R}{ds:LD}(h1:s ρ=some false):wN i s f w ρ ds=w ρ ds:=by
 unfold wN;rw[h1];rfl
theorem A6{s:WS}{a:Int}(h:m7 s=some a):1<=a/\a<=86400:=by
 unfold m7 at h
 split at h
 ·cases h;omega
 ·cases h
theorem lx(s:WS){n:Int}(h0:0<=n)(hn:n<259200):bq [s.d,.int n]=some (.lst ((uZ s n).map .int)):=by
 have e1:=eL s
 have e2:=fe s
 have hA:∀a,m7 s=some a->1<=a/\a<=86400:=fun a h=>A6 h
 unfold uZ
 generalize m7 s=a at *
 generalize uc s=c at *
 have q1:ft [some s.d,some (.int n),none,none,none]=some (.nx [some s.d,some (.int n),some (uk a),none,none]):=l9 (i4 rfl e1) rfl
 have q2:fB [some s.d,some (.int n),some (uk a),none,none]=some (.nx [some s.d,some (.int n),some (uk a),some (uk c),none]):=l9 (i4 rfl e2) rfl
 have q3:∀w,wN 4 v5 v4 w [some s.d,some (.int n),some (uk a),some (uk c)] []=w [some s.d,some (.int n),some (uk a),some (uk c)] ((DT n a).map D.int):=fun w=>by
  cases a with
  | none=>~NQ rfl
  | some a =>
   !⟨a1,a2⟩:=hA a rfl
   have hl:=Dk a1 hn
   have e:Ap a (n+1) 86400=(DT n (some a)).map D.int:=by
    show _=((List.range _).map _).map _
    rw[List.map_map];rfl
   rw[<- e]
   &N7 rfl ?_ rfl ?_
   ·show(if -(2 ^ 60)<=a/\a<2 ^ 60 /\ -(2 ^ 60)<=n+1/\n+1<2 ^ 60/\(0:Int)<86400/\(86400:Int)<1073741824 then some (Ap a (n+1) 86400) else none)=_
    rw[if_pos ⟨by omega,by omega,by omega,by omega,by decide,by decide⟩]
   ·unfold Ap;rw[List.length_map,List.length_range];omega
 have hlA:(DT n a).length<=3:=by
  cases a with
  | none=>~Nat.zero_le _
  | some a =>
   !⟨a1,a2⟩:=hA a rfl
   have hl:=Dk a1 hn
   unfold DT;rw[List.length_map,List.length_range];~hl
 have hlC:(Ju n c).length<=1:=by
  unfold Ju
  split
  ·split<;>simp
  ·decide
 have q4:ym [some s.d,some (.int n),some (uk a),some (uk c)] ((DT n a).map D.int)=some (.nx [some s.d,some (.int n),some (uk a),some (uk c)],(DT n a++Ju n c).map D.int):=by
  rw[List.map_append]
  cases c with
  | none =>
   &(Iw (Ra rfl)).trans ?_
   show some (_,_)=some (_,_++[])
   rw[List.append_nil]
  | some c =>
   by_cases h:c<=n
   ·&(KW (NL rfl (ug (x:=.int c) (y:=.int n) rfl rfl (dT h)))).trans ?_
    show(if 4=4/\((DT n a).map D.int).length<sizeLine then _ else none)=_
    rw[if_pos ⟨rfl,by rw[List.length_map,PySem.sizeLine_eq];omega⟩]
    unfold Ju
    dsimp only
    rw[if_pos h];rfl
   ·&(Iw (NL rfl (ug (x:=.int c) (y:=.int n) rfl rfl (dF h)))).trans ?_
    unfold Ju
    dsimp only
    rw[if_neg h]
    show some (_,_)=some (_,_++[])
    rw[List.append_nil]
 have q6:fw [some s.d,some (.int n),some (uk a),some (uk c),some (.lst ((DT n a++Ju n c).map D.int))]=some (.rt (.lst ((xi (Bf (DT n a++Ju n c))).map D.int))):=
  retS (i4 rfl (Mo rfl (by rw[List.length_append];omega)))
 &k9 ((k8 q1).trans ((k8 q2).trans ?_))
 show wN 4 v5 v4 _ [some s.d,some (.int n),some (uk a),some (uk c)] []=_
 rw[q3,Oq q4]
 ~q6
theorem dh{s:WS}{n:Int}(hn:n<259200):(uZ s n).length<=4:=by
 unfold uZ
 rw[(wu _).length_eq]
 &Nat.le_trans (zS _ []) ?_
 have hlA:(DT n (m7 s)).length<=3:=by
  cases h:m7 s with
  | none=>~Nat.zero_le _
  | some a =>
   have hl:=Dk (A6 h).1 hn
   unfold DT;rw[List.length_map,List.length_range];~hl
 have hlC:(Ju n (uc s)).length<=1:=by
  unfold Ju
  split
  ·split<;>simp
  ·decide
 rw[List.length_nil,List.length_append];omega
theorem AR{st:D->R->Option R}{p:R->LD->Option (Out×LD)}{d:D}{es ds ds2:LD}{ρ ρ1 ρ2:R}(h1:st d ρ=some ρ1)(h2:p ρ1 ds=some (.nx ρ2,ds2)):B_ st p (d::es) ρ ds=B_ st p es ρ2 ds2:=by
 show(st d ρ).bind _=_
 rw[h1]
 show(p ρ1 ds).bind _=_
 rw[h2];rfl
def mH:R->Option Out:=
 (l4 (Dc (k7 zU (i3 i8 (c5 0) (fun _=>some aV)) (fun _=>some .non)) (kS "back") (wR Py (i3 i8 (i3 i8 (c5 0) (fun _=>some aV)) (kI 0)))))
def cT:LD->OD:=via 1 1 mH
def yl(s:WS):Str:=match s.held with
 | none=>oS "back"
 | some (x,_)=>x.X
theorem mT(s:WS):cT [s.d]=some (.str (yl s)):=by
 have e6:=w6 s
 unfold yl
 rcases hs:s.held with _ | ⟨x,k⟩<;>rw[hs] at e6
 ·~k9 (retS (Fw (ug (i7 rfl rfl e6) rfl rfl) rfl))
 ·~k9 (retS (Hb (ug (i7 rfl rfl e6) rfl rfl) (B7 (i7 (i7 rfl rfl e6) rfl (h0 x k)) (OA x))))
def vi:R->LD->Option (Out×LD):=
  (Jx (k7 EJ (i3 i8 (c5 3) (kI 0)) (kI 0))
  (BX 4 (l7 (c4 (i3 i8 (c5 3) (kI 0)) (c4 (c8 cT (c4 (c5 1) c7)) c7))))
  Au)
def vq:R->LD->Option (Out×LD):=
 (FA 4 (Ek 1 (vj (c8 bq (c4 (i3 i8 (c5 3) (kI 1)) (c4 (i3 i8 (c5 3) (kI 2)) c7)))) (setAt 0) zg (l7 (c4 (i3 m9 (i3 i8 (c5 4) (kI 0)) (c5 0)) (c4 (kS "ring") c7)))))
def ur:R->LD->Option (Out×LD):=(Fx vi vq)
def uD:R->LD->Option (Out×LD):=
 (IK (vj (c8 aK (c4 (c5 0) (c4 (c5 1) (c4 (c5 2) c7))))) (setAt 3) ur)
def cY:R->Option Out:=
 (l4 (c5 4))
def gL:R->Option Out:=
 (GS 4 c7 (wD uD (As cY)))
def bo:LD->OD:=via 3 5 gL
abbrev Hx:=Int×Str
def uH(p:Hx):D:=.tup [.int p.1,.str p.2]
noncomputable def ye:Str:=oS "ring"
def EI(k:Int)(l:List Int):List Hx:=l.map fun i=>(k+i,ye)
def ED(b:Bk)(s:WS)(n:Int):List Hx:=match t6 b s with
 | none=>EI 0 (uZ s n)
 | some t=>if n<t then EI 0 (uZ s n) else EI 0 (uZ s t)++((t,yl s)::EI t (uZ (behind b s t) (n - t)))
theorem oG(k:Int)(a b c:OD)(x y:D):∀l:List Int,vB (setAt 0) zg (l7 (c4 (i3 m9 (i3 i8 (c5 4) (kI 0)) (c5 0)) (c4 (kS "ring") c7))) (l.map D.int) [none,a,b,c,some (.tup [.int k,x,y])]=some ((EI k l).map uH)
 | []=>rfl
 | i::l=>by
  have ih:=oG k a b c x y l
  show(vB _ _ _ (l.map D.int) _).map (fun r=>D.tup [.int (k+i),.str (oS "ring")]::r)=_
  rw[ih];rfl
theorem Bc{a c:OD}{k:Int}(s0 s:WS){n:Int}(ds:LD)(hd:ds.length<=10)(hn0:0<=n)(hn:n<259200) :
  ur [a,some s0.d,c,some (.tup [.int k,s.d,.int n])] ds=some (.nx [a,some s0.d,c,some (.tup [.int k,s.d,.int n])],ds++(if 0<k then [uH (k,yl s0)] else [])++(EI k (uZ s n)).map uH):=by
 have hl:=dh (s:=s) hn
 have e:=lx s hn0 hn
 have et:=mT s0
 have z:100<=sizeLine:=by decide
 have q1:vi [a,some s0.d,c,some (.tup [.int k,s.d,.int n])] ds=some (.nx [a,some s0.d,c,some (.tup [.int k,s.d,.int n])],ds++(if 0<k then [uH (k,yl s0)] else [])):=by
  by_cases hk:0<k
  ·rw[if_pos hk]
   &(KW (ug (x:=.int k) (y:=.int 0) (i7 rfl rfl rfl) rfl (dT hk))).trans ?_
   show(l7 _ _).bind _=_
   rw[tupS (m8 (i7 rfl rfl rfl) (m8 (i4 rfl et) rfl)),Option.bind_some]
   ~if_pos ⟨rfl,by omega⟩
  ·rw[if_neg hk,List.append_nil]
   ~Iw (ug (x:=.int k) (y:=.int 0) (i7 rfl rfl rfl) rfl (dF hk))
 have hl1:(ds++(if 0<k then [uH (k,yl s0)] else [])).length<=11:=by
  rw[List.length_append]
  have:(if 0<k then [uH (k,yl s0)] else []).length<=1:=by split<;>simp
  omega
 generalize ds++(if 0<k then [uH (k,yl s0)] else [])=ds1 at *
 have q:vj (c8 bq (c4 (i3 i8 (c5 3) (kI 1)) (c4 (i3 i8 (c5 3) (kI 2)) c7))) [a,some s0.d,c,some (.tup [.int k,s.d,.int n])]=some ((uZ s n).map D.int):=by
  show(c8 bq _ _).bind _=_
  rw[i4 (ds:=[s.d,.int n]) (m8 (i7 rfl rfl rfl) (m8 (i7 rfl rfl rfl) rfl)) e]
  rfl
 have q2:Ek 1 (vj (c8 bq (c4 (i3 i8 (c5 3) (kI 1)) (c4 (i3 i8 (c5 3) (kI 2)) c7)))) (setAt 0) zg (l7 (c4 (i3 m9 (i3 i8 (c5 4) (kI 0)) (c5 0)) (c4 (kS "ring") c7))) [a,some s0.d,c,some (.tup [.int k,s.d,.int n])]=some (.lst ((EI k (uZ s n)).map uH)):=by
  unfold Ek
  rw[q,Option.bind_some,if_pos (by rw[List.length_map];omega)]
  show(vB _ _ _ _ [none,a,some s0.d,c,_]).map _=_
  rw[oG];rfl
 have q3:vq [a,some s0.d,c,some (.tup [.int k,s.d,.int n])] ds1=some (.nx [a,some s0.d,c,some (.tup [.int k,s.d,.int n])],ds1++(EI k (uZ s n)).map uH):=by
  show FA 4 _ _ ds1=_
  unfold FA
  rw[q2,Option.bind_some]
  ~if_pos ⟨rfl,by rw[List.length_map,EI,List.length_map];omega⟩
 show Fx _ _ _ ds=_
 unfold Fx
 rw[q1,Option.bind_some]
 ~q3
theorem HJ(b:Bk)(s:WS){n:Int}(hn:n<259200):(ED b s n).length<=9:=by
 have h0:=dh (s:=s) hn
 unfold ED
 cases ht:t6 b s with
 | none=>simp[EI];omega
 | some t =>
  have hp:=xn ht
  dsimp only
  split
  ·simp[EI];omega
  ·have h1:=dh (s:=s) (n:=t) (by omega)
   have h2:=dh (s:=behind b s t) (n:=n - t) (by omega)
   simp[EI];omega
theorem gN{b:Bk}{s:WS}{n:Int}(ok:b.Ok)(w:s.Wk b)(hn0:0<=n)(hn:n<259200):bo [b.d,s.d,.int n]=some (.lst ((ED b s n).map uH)):=by
 have e1:=fH n ok w
 have key:∃x,uD [some b.d,some s.d,some (.int n),none] []=some (.nx [some b.d,some s.d,some (.int n),some x],(ED b s n).map uH):=by
  have hit:vj (c8 aK (c4 (c5 0) (c4 (c5 1) (c4 (c5 2) c7)))) [some b.d,some s.d,some (.int n),none]=some (uA b s n):=by
   show(c8 aK _ _).bind _=_
   rw[i4 rfl e1];rfl
  have q:uD [some b.d,some s.d,some (.int n),none] []=B_ (setAt 3) ur (uA b s n) [some b.d,some s.d,some (.int n),none] []:=by
   show(vj _ _).bind _=_
   rw[hit];rfl
  rw[q]
  have one:∀x:D,x=.tup [.int 0,s.d,.int n]->B_ (setAt 3) ur [x] [some b.d,some s.d,some (.int n),none] []=some (.nx [some b.d,some s.d,some (.int n),some x],(EI 0 (uZ s n)).map uH):=fun x hx=>by
   subst hx
   rw[AR rfl (Bc s s [] (Nat.zero_le _) hn0 hn)];rfl
  unfold uA ED
  cases h:t6 b s with
  | none=>~⟨_,one _ rfl⟩
  | some t =>
   dsimp only
   by_cases ht:n<t
   ·rw[if_pos ht,if_pos ht];~⟨_,one _ rfl⟩
   ·rw[if_neg ht,if_neg ht]
    have htp:=xn h
    have hl:=dh (s:=s) (n:=t) (by omega)
    &⟨.tup [.int t,(behind b s t).d,.int (n - t)],?_⟩
    rw[AR rfl (Bc s s [] (Nat.zero_le _) (by omega) (by omega)),AR rfl (Bc s (behind b s t) _ ?_ (by omega) (by omega)),if_pos (show 0<t by omega),if_neg (show ¬ (0:Int)<0 by decide)]
    ·simp only[List.nil_append,List.map_append,List.map_cons,List.append_assoc,List.cons_append];rfl
    ·rw[if_neg (show ¬ (0:Int)<0 by decide)]
     simp[EI];omega
 !⟨x,key⟩:=key
 &k9 ?_
 show wD uD (As cY) [some b.d,some s.d,some (.int n),none] []=_
 rw[Oq key]
 rfl
def kF:R->Option Out:=
  (l5 (yY (k7 vY (i3 i8 (c5 2) (kI 0)) (kS "ticks"))
  (l4 (c8 bo (c4 (c5 0) (c4 (c5 1) (c4 (i3 i8 (c5 2) (kI 1)) c7)))))
  uu)
  (l5 (yY (Bw (k7 vY (i3 i8 (c5 2) (kI 0)) (kS "up")) (wV (c8 bK (c4 (c5 1) (c4 (i3 i8 (c5 2) (kI 1)) c7)))))
  (l4 (Eu (c4 (l7 (c4 (kI 0) (c4 (i3 i8 (c5 2) (kI 1)) c7))) c7)))
  uu)
  (l4 (Eu c7))))
def bf:LD->OD:=via 3 3 kF
def GQ(s:WS)(x:wL):Bool:=match s.held with
 | some (y,k)=>decide (y=x)&&k.isSome
 | none=>false
def Jt(b:Bk)(s:WS):Ev->List Hx
 | .ticks n=>ED b s n
 | .up x=>if GQ s x then [(0,x.x)] else []
 | .down _=>[]
def Jv:Ev->Int
 | .ticks n=>n
 | _=>0
def CN:Ev->Prop
 | .ticks n=>1<=n/\n<259200
 | _=>True
theorem LC:vY (.str (oS "down")) (.str (oS "ticks"))=some false:=rfl
theorem H9:vY (.str (oS "up")) (.str (oS "ticks"))=some false:=rfl
theorem LF:vY (.str (oS "ticks")) (.str (oS "ticks"))=some true:=rfl
theorem N2:vY (.str (oS "down")) (.str (oS "up"))=some false:=rfl
theorem lj{b:Bk}{s:WS}(ok:b.Ok)(w:s.Wk b)(e:Ev)(h:CN e):bf [b.d,s.d,e.d]=some (.lst ((Jt b s e).map uH)):=by
 cases e with
 | down x=>~k9 ((k8 (yT (ug (i7 rfl rfl rfl) rfl LC))).trans ((k8 (yT (Ra (ug (i7 rfl rfl rfl) rfl N2)))).trans (retS rfl)))
 | ticks n=>~k9 (v8 ((zF (ug (i7 rfl rfl rfl) rfl LF)).trans (retS (i4 (m8 rfl (m8 rfl (m8 (i7 rfl rfl rfl) rfl))) (gN ok w (by have:=h.1;omega) h.2)))))
 | up x =>
  have e:=jl s x
  have hs:bK [s.d,.str x.x]=some (.bl (GQ s x)):=e
  show bf [b.d,s.d,(Ev.up x).d]=some (.lst ((if GQ s x then [((0:Int),x.x)] else []).map uH))
  cases hx:GQ s x with
  | false =>
   rw[hx] at hs
   ~k9 ((k8 (yT (ug (i7 rfl rfl rfl) rfl H9))).trans ((k8 (yT (NL (ug (i7 rfl rfl rfl) rfl E5) (B4 (i4 (m8 rfl (m8 (i7 rfl rfl rfl) rfl)) hs))))).trans (retS rfl)))
  | true =>
   rw[hx] at hs
   ~k9 ((k8 (yT (ug (i7 rfl rfl rfl) rfl H9))).trans (v8 ((zF (NL (ug (i7 rfl rfl rfl) rfl E5) (B4 (i4 (m8 rfl (m8 (i7 rfl rfl rfl) rfl)) hs)))).trans (retS (JL (m8 (tupS (m8 rfl (m8 (i7 rfl rfl rfl) rfl))) rfl))))))
def y1:R->LD->Option (Out×LD):=
 (FA 5 (Ek 1 (vj (c8 bf (c4 (c5 0) (c4 (c5 2) (c4 (c5 4) c7))))) (setAt 0) zg (l7 (c4 (i3 m9 (c5 4) (i3 i8 (c5 0) (kI 0))) (c4 (i3 i8 (c5 0) (kI 1)) c7)))))
def BY:R->LD->Option (Out×LD):=
  (zX (l5 (l3 (c8 dB (c4 (c5 0) (c4 (c5 2) (c4 (c5 4) c7)))) (setAt 2))
  (yY (k7 vY (i3 i8 (c5 4) (kI 0)) (kS "ticks"))
  (l3 (i3 m9 (c5 3) (i3 i8 (c5 4) (kI 1))) (setAt 3))
  uu)))
def yr:R->LD->Option (Out×LD):=(Fx y1 BY)
def pi:R->Option Out:=
 (l3 (c8 bX (c4 (c5 0) c7)) (setAt 2))
def pG:R->Option Out:=
 (l3 (kI 0) (setAt 3))
def z8:R->LD->Option (Out×LD):=
 (IK (vj (c5 1)) (setAt 4) yr)
def ko:R->Option Out:=
 (l4 (c8 E4 (c4 (c5 5) c7)))
def rS:R->Option Out:=
 (l5 pi (l5 pG (GS 5 c7 (wD z8 (As ko)))))
def dG:LD->OD:=via 2 6 rS
def Eg(b:Bk):WS->Int->List Ev->List Hx
 | _,_,[]=>[]
 | s,k,e::es=>(Jt b s e).map (fun p=>(k+p.1,p.2))++Eg b (gone b s e) (k+Jv e) es
theorem Du(b:Bk)(s:WS){e:Ev}(h:CN e):(Jt b s e).length<=9:=by
 cases e with
 | ticks n=>~HJ b s h.2
 | up x=>show(if GQ s x then [((0:Int),x.x)] else []).length<=9;split<;>simp
 | down x=>~Nat.zero_le _
theorem mB(k:Int)(a b c e:OD):∀l:List Hx,vB (setAt 0) zg (l7 (c4 (i3 m9 (c5 4) (i3 i8 (c5 0) (kI 0))) (c4 (i3 i8 (c5 0) (kI 1)) c7))) (l.map uH) [none,a,b,c,some (.int k),e]=some ((l.map fun p=>(k+p.1,p.2)).map uH)
 | []=>rfl
 | i::l=>by
  have ih:=mB k a b c e l
  show(vB _ _ _ (l.map uH) _).map (fun r=>D.tup [.int (k+i.1),.str i.2]::r)=_
  rw[ih];rfl
theorem EY{b:Bk}{s:WS}(ok:b.Ok)(w:s.Wk b){o1:OD}{k:Int}(e:Ev)(h:CN e)(ds:LD)(hd:ds.length<=1000) :
  yr [some b.d,o1,some s.d,some (.int k),some e.d] ds=some (.nx [some b.d,o1,some (gone b s e).d,some (.int (k+Jv e)),some e.d],ds++((Jt b s e).map fun p=>(k+p.1,p.2)).map uH):=by
 have e1:=lj ok w e h
 have e2:=nD ok w e
 have hl:=Du b s h
 have z:2000<=sizeLine:=by decide
 have q:vj (c8 bf (c4 (c5 0) (c4 (c5 2) (c4 (c5 4) c7)))) [some b.d,o1,some s.d,some (.int k),some e.d]=some ((Jt b s e).map uH):=by
  show(c8 bf _ _).bind _=_
  rw[i4 rfl e1];rfl
 have q1:Ek 1 (vj (c8 bf (c4 (c5 0) (c4 (c5 2) (c4 (c5 4) c7))))) (setAt 0) zg (l7 (c4 (i3 m9 (c5 4) (i3 i8 (c5 0) (kI 0))) (c4 (i3 i8 (c5 0) (kI 1)) c7))) [some b.d,o1,some s.d,some (.int k),some e.d]=some (.lst (((Jt b s e).map fun p=>(k+p.1,p.2)).map uH)):=by
  unfold Ek
  rw[q,Option.bind_some,if_pos (by rw[List.length_map];omega)]
  show(vB _ _ _ _ [none,some b.d,o1,some s.d,_,_]).map _=_
  rw[mB];rfl
 have q2:y1 [some b.d,o1,some s.d,some (.int k),some e.d] ds=some (.nx [some b.d,o1,some s.d,some (.int k),some e.d],ds++((Jt b s e).map fun p=>(k+p.1,p.2)).map uH):=by
  show FA 5 _ _ ds=_
  unfold FA
  rw[q1,Option.bind_some]
  ~if_pos ⟨rfl,by rw[List.length_map,List.length_map];omega⟩
 have q3:l5 (l3 (c8 dB (c4 (c5 0) (c4 (c5 2) (c4 (c5 4) c7)))) (setAt 2)) (yY (k7 vY (i3 i8 (c5 4) (kI 0)) (kS "ticks")) (l3 (i3 m9 (c5 3) (i3 i8 (c5 4) (kI 1))) (setAt 3)) uu) [some b.d,o1,some s.d,some (.int k),some e.d]=some (.nx [some b.d,o1,some (gone b s e).d,some (.int (k+Jv e)),some e.d]):=by
  &(k8 (l9 (i4 rfl e2) rfl)).trans ?_
  cases e with
  | ticks n=>~(zF (ug (i7 rfl rfl rfl) rfl LF)).trans (l9 (i7 rfl (i7 rfl rfl rfl) rfl) rfl)
  | up x=>rw[show k+Jv (.up x)=k from Int.add_zero k];~yT (ug (i7 rfl rfl rfl) rfl H9)
  | down x=>rw[show k+Jv (.down x)=k from Int.add_zero k];~yT (ug (i7 rfl rfl rfl) rfl LC)
 show Fx _ _ _ ds=_
 unfold Fx
 rw[q2,Option.bind_some]
 show zX _ _ _=_
 unfold zX
 rw[q3];rfl
theorem BG{b:Bk}(ok:b.Ok)(o1:OD):∀(es:List Ev) (s:WS) (k:Int) (o:OD) (ds:LD),s.Ok b->(∀e∈es,e.Ok/\CN e)->ds.length+9*es.length<=1000 ->
  ∃s' k' o',B_ (setAt 4) yr (es.map Ev.d) [some b.d,o1,some s.d,some (.int k),o] ds=some (.nx [some b.d,o1,s',k',o'],ds++(Eg b s k es).map uH)
 | [],s,k,o,ds,_,_,_=>⟨some s.d,some (.int k),o,by show some (Out.nx _,ds)=some (Out.nx _,ds++[]);rw[List.append_nil]⟩
 | e::es,s,k,o,ds,w,h,hl=>by
  !⟨h1,h2⟩:=h e (.head _)
  have hl1:=Du b s h2
  rw[List.length_cons] at hl
  !⟨s',k',o',ih⟩:=BG ok o1 es (gone b s e) (k+Jv e) (some e.d) (ds++((Jt b s e).map fun p=>(k+p.1,p.2)).map uH) (AD ok w e h1) (fun x hx=>h x (.tail _ hx)) (by simp;omega)
  &⟨s',k',o',?_⟩
  rw[List.map_cons,AR rfl (EY ok w.toWk e h2 ds (by omega)),ih,List.append_assoc,<- List.map_append];rfl
theorem ss{b:Bk}(ok:b.Ok)(es:List Ev)(h:∀e∈es,e.Ok/\CN e)(hl:es.length<=100):dG [b.d,.tup (es.map Ev.d)]=some (.tup ((Eg b i9 0 es).map uH)):=by
 !⟨s',k',o',e⟩:=BG ok (some (.tup (es.map Ev.d))) es i9 0 none [] (zL ok) h (by simp;omega)
 &k9 ((k8 (l9 (i4 rfl (iN _)) rfl)).trans ((k8 (l9 rfl rfl)).trans ?_))
 show wD z8 (As ko) [some b.d,some (.tup (es.map Ev.d)),some i9.d,some (.int 0),none] []=_
 have q:z8 [some b.d,some (.tup (es.map Ev.d)),some i9.d,some (.int 0),none] []=some (.nx [some b.d,some (.tup (es.map Ev.d)),s',k',o'],(Eg b i9 0 es).map uH):=e
 rw[Oq q]
 rfl
def jF:R->Option Out:=
  (l5 (yY (k7 OE (c5 1) (c8 xo (c4 (c5 0) c7)))
  (l4 (i3 i8 (c5 0) (c5 1)))
  uu)
  (l4 (kI 0)))
def bQ:LD->OD:=via 2 2 jF
theorem Hi(ns:List Int)(k:Int)(h0:0<=k):∃c,bQ [.fro (ns.map .int),.int k]=some (.int c):=by
 !⟨n,rfl⟩:=Int.eq_ofNat_of_zero_le h0
 by_cases h1:(n:Int)<((ns.map D.int).length:Int)
 ·have h2:n<(ns.map D.int).length:=Int.ofNat_lt.mp h1
  have h3:n<ns.length:=by rw[List.length_map] at h2;~h2
  &⟨ns[n],k9 (v8 ((zF (ug rfl (i4 (F:=xo) rfl rfl) (dT h1))).trans (retS (i7 rfl rfl ?_))))⟩
  ~(Dh h2).trans (by rw[List.getElem_map])
 ·~⟨0,k9 ((k8 (yT (ug rfl (i4 (F:=xo) rfl rfl) (dF h1)))).trans (retS rfl))⟩
def lq:R->Option Out:=
  (l5 (l3 (i3 ui (i3 x6 (i3 m9 (i3 m9 (c8 bQ (c4 (c5 0) (c4 (c5 1) c7))) (i3 x6 (kI 7919) (c5 1))) (kI 1)) (kI 48271)) (kI 2147483647)) (setAt 2))
  (l4 (i3 ui (i3 m9 (i3 m9 (i3 x6 (c5 2) (c5 2)) (i3 x6 (kI 7) (c5 2))) (c5 1)) (kI 2147483629))))
def aJ:LD->OD:=via 2 3 lq
theorem xF(ns:List Int)(k:Int)(h0:0<=k):∃m,aJ [.fro (ns.map .int),.int k]=some (.int m)/\0<=m:=by
 !⟨c,hc⟩:=Hi ns k h0
 generalize hq:(c+7919*k+1)*48271%2147483647=q
 have q0:0<=q:=by rw[<- hq];~Int.emod_nonneg _ (by decide)
 have q1:q<2147483647:=by rw[<- hq];~Int.emod_lt_of_pos _ (by decide)
 have m1:uE 7919 k=true:=vJ (by decide) (by decide)
 have m2:uE (c+7919*k+1) 48271=true:=CB (by decide) (by decide)
 have m3:uE q q=true:=vJ (by omega) (by omega)
 have m4:uE 7 q=true:=vJ (by decide) (by decide)
 &⟨(q*q+7*q+k)%2147483629,?_,Int.emod_nonneg _ (by decide)⟩
 ~k9 ((k8 (l9 (i7 (i7 (i7 (i7 (i4 rfl hc) (i7 rfl rfl (D0 m1)) rfl) rfl rfl) rfl (D0 m2)) rfl (QZ (by decide) hq)) rfl)).trans (retS (i7 (i7 (i7 (i7 rfl rfl (D0 m3)) (i7 rfl rfl (D0 m4)) rfl) rfl rfl) rfl (modS (by decide)))))
def k_:R->Option Out:=
  (l5 (l3 (i3 ui (i3 x6 (i3 m9 (i3 m9 (c5 0) (i3 x6 (kI 104729) (c5 1))) (kI 17)) (kI 69621)) (kI 2147483647)) (setAt 2))
  (l4 (i3 ui (i3 m9 (i3 m9 (i3 x6 (c5 2) (c5 2)) (i3 x6 (kI 3) (c5 2))) (c5 1)) (kI 2147483629))))
def aT:LD->OD:=via 2 3 k_
def xI(n k:Int):Int:=((n+104729*k+17)*69621%2147483647*((n+104729*k+17)*69621%2147483647)+3*((n+104729*k+17)*69621%2147483647)+k)%2147483629
theorem zh(n k:Int):aT [.int n,.int k]=some (.int (xI n k)):=by
 unfold xI
 generalize hq:(n+104729*k+17)*69621%2147483647=q
 have q0:0<=q:=by rw[<- hq];~Int.emod_nonneg _ (by decide)
 have q1:q<2147483647:=by rw[<- hq];~Int.emod_lt_of_pos _ (by decide)
 have m1:uE 104729 k=true:=vJ (by decide) (by decide)
 have m2:uE (n+104729*k+17) 69621=true:=CB (by decide) (by decide)
 have m3:uE q q=true:=vJ (by omega) (by omega)
 have m4:uE 3 q=true:=vJ (by decide) (by decide)
 ~k9 ((k8 (l9 (i7 (i7 (i7 (i7 rfl (i7 rfl rfl (D0 m1)) rfl) rfl rfl) rfl (D0 m2)) rfl (QZ (by decide) hq)) rfl)).trans (retS (i7 (i7 (i7 (i7 rfl rfl (D0 m3)) (i7 rfl rfl (D0 m4)) rfl) rfl rfl) rfl (modS (by decide)))))
def mY:R->Option Out:=
  (l5 (l3 (i3 m9 (kI 1) (i3 ui (c5 0) (kI 8))) (setAt 1))
  (l5 (l3 (l7 (c4 (kS "none") (c4 (kS "hour") (c4 (kS "minute") (c4 (kS "zero") (c4 (kS "ahour") (c4 (kS "aminute") (c4 (kS "alarm") (c4 (kS "run") (c4 (kS "lap") (c4 (kS "cminute") (c4 (kS "csecond") (c4 (kS "full") c7))))))))))))) (setAt 2))
  (l5 (l3 (l7 c7) (setAt 3))
  (l5 (Cg (yn (c5 1)) (setAt 4)
  (l5 (l3 (i3 vV (c8 aT (c4 (c5 0) (c4 (c5 4) c7))) (kI 4)) (setAt 5))
  (l5 (l3 (l7 c7) (setAt 6))
  (l5 (Cg (yn (kI 6)) (setAt 7)
  (l5 (l3 (i3 vV (c8 aT (c4 (c5 5) (c4 (i3 m9 (kI 10) (c5 7)) c7))) (kI 4)) (setAt 8))
  (l3 (i3 m9 (c5 6) (l7 (c4 (l7 (c4 (i3 i8 (i3 m9 (c5 2) (l7 (c4 (kS "count") c7))) (i3 ui (c5 8) (kI 13))) (c4 (i3 ui (i3 vV (c5 8) (kI 16)) (c5 1)) c7))) c7))) (setAt 6))))
  (l5 (l3 (i3 i8 (l7 (c4 (kS "time") (c4 (kS "alarm") (c4 (kS "laps") (c4 (kS "count") c7))))) (i3 ui (c5 5) (kI 4))) (setAt 9))
  (l3 (i3 m9 (c5 3) (l7 (c4 (l7 (c4 (c5 9) (c4 (Cf (k7 vY (i3 ui (i3 vV (c5 5) (kI 4)) (kI 2)) (kI 0))) (c4 (c5 6) c7)))) c7))) (setAt 3)))))))
  (l4 (l7 (c4 (i3 m9 (kI 1) (i3 ui (i3 vV (c5 0) (kI 8)) (i3 i8 (l7 (c4 (kI 3) (c4 (kI 9) c7))) (i3 ui (i3 vV (c5 0) (kI 128)) (kI 2))))) (c4 (i3 i8 (l7 (c4 (kI 0) (c4 (kI 7) (c4 (kI 60) (c4 (kI 1) (c4 (kI 20) c7)))))) (i3 ui (i3 vV (c5 0) (kI 256)) (kI 5))) (c4 (c5 3) c7)))))))))
def cM:LD->OD:=via 1 10 mY
def uF:LD:=[.str (oS "none"),.str (oS "hour"),.str (oS "minute"),.str (oS "zero"),.str (oS "ahour"),.str (oS "aminute"),.str (oS "alarm"),.str (oS "run"),.str (oS "lap"),.str (oS "cminute"),.str (oS "csecond"),.str (oS "full")]
theorem D8:∀x∈z6,oneOf x z6=true/\Fits x:=by
 intro x hx
 simp only[z6,List.mem_cons,List.not_mem_nil,or_false] at hx
 rcases hx with h | h | h | h | h | h | h | h | h | h | h | h | h<;>subst h<;>~⟨by decide,.str _⟩
theorem Ej:∀x∈A1,oneOf x A1=true/\Fits x:=by
 intro x hx
 simp only[A1,List.mem_cons,List.not_mem_nil,or_false] at hx
 rcases hx with h | h | h | h<;>subst h<;>~⟨by decide,.str _⟩
def AN:R->Option Out:=(l5 (l3 (i3 vV (c8 aT (c4 (c5 5) (c4 (i3 m9 (kI 10) (c5 7)) c7))) (kI 4)) (setAt 8))
 (l3 (i3 m9 (c5 6) (l7 (c4 (l7 (c4 (i3 i8 (i3 m9 (c5 2) (l7 (c4 (kS "count") c7))) (i3 ui (c5 8) (kI 13))) (c4 (i3 ui (i3 vV (c5 8) (kI 16)) (c5 1)) c7))) c7))) (setAt 6)))
theorem sz{n:Nat}(h:n<=1000):n<=sizeLine:=Nat.le_trans h (by decide)
theorem qi{N m:Int}{ms rs:LD}{a b f:OD}{q j:Int}(hm:0<m)(hr:rs.length<=100)(hk:∀x∈rs,zW x m=true/\Fits x) :
  ∃o r,AN [some (.int N),some (.int m),some (.tup uF),some (.tup ms),a,some (.int q),some (.tup rs),some (.int j),b,f]=some (.nx [some (.int N),some (.int m),some (.tup uF),some (.tup ms),a,some (.int q),some (.tup (rs++[r])),some (.int j),o,f])/\zW r m=true/\Fits r:=by
 generalize hz:xI q (10+j) / 4=z
 !⟨x,hx,hat⟩:=zK (xs:=z6) (i:=z%13) (Int.emod_nonneg _ (by decide)) (Int.emod_lt_of_pos _ (by decide))
 have w0:0<=z / 16%m:=Int.emod_nonneg _ (by omega)
 have w1:z / 16%m<m:=Int.emod_lt_of_pos _ hm
 have hl:rs.length+1<=sizeLine:=sz (by omega)
 have hd:uF++[.str (oS "count")]=z6:=rfl
 have hs:uF.length+1<=sizeLine:=by decide
 &⟨some (.int z),.tup [x,.int (z / 16%m)],?_,?_,?_⟩
 ·have ha:m9 (.tup uF) (.tup [.str (oS "count")])=some (.tup z6):=by
   show(if uF.length+1<=sizeLine then some (D.tup (uF++[.str (oS "count")])) else none)=_
   rw[if_pos hs,hd]
  have hb:m9 (.tup rs) (.tup [.tup [x,.int (z / 16%m)]])=some (.tup (rs++[.tup [x,.int (z / 16%m)]])):=by
   show(if rs.length+1<=sizeLine then _ else none)=_
   rw[if_pos hl]
  have hv:vV (.int (xI q (10+j))) (.int 4)=some (.int z):=by rw[<- hz];rfl
  ~(k8 (l9 (i7 (i4 (m8 rfl (m8 (i7 rfl rfl rfl) rfl)) (zh _ _)) rfl hv) rfl)).trans (l9 (i7 rfl (tupS (m8 (tupS (m8 (i7 (i7 rfl rfl ha) (i7 rfl rfl (modS (by decide))) hat) (m8 (i7 (i7 rfl rfl rfl) rfl (modS hm)) rfl))) rfl)) hb) rfl)
 ·simp[zW,(D8 x hx).1,within,w0]
  omega
 ·~.tup (by simp) (by
   intro y hy
   simp at hy
   rcases hy with h | h<;>subst h
   ·~(D8 _ hx).2
   ·~.int _)
def Eb:R->Option Out:=(l5 (l3 (i3 vV (c8 aT (c4 (c5 0) (c4 (c5 4) c7))) (kI 4)) (setAt 5))
  (l5 (l3 (l7 c7) (setAt 6))
  (l5 (Cg (yn (kI 6)) (setAt 7) AN)
  (l5 (l3 (i3 i8 (l7 (c4 (kS "time") (c4 (kS "alarm") (c4 (kS "laps") (c4 (kS "count") c7))))) (i3 ui (c5 5) (kI 4))) (setAt 9))
  (l3 (i3 m9 (c5 3) (l7 (c4 (l7 (c4 (c5 9) (c4 (Cf (k7 vY (i3 ui (i3 vV (c5 5) (kI 4)) (kI 2)) (kI 0))) (c4 (c5 6) c7)))) c7))) (setAt 3))))))
def N3(N m q:Int)(ms:LD)(a f:OD)(i:Nat)(ρ:R):Prop:=∃rs o j,ρ=[some (.int N),some (.int m),some (.tup uF),some (.tup ms),a,some (.int q),some (.tup rs),j,o,f]/\rs.length=i/\∀x∈rs,zW x m=true/\Fits x
theorem pR{N m q:Int}{ms:LD}{a b c f:OD}(hm:0<m) :
  ∃rs o j,AC (setAt 7) AN (wX 0 6) [some (.int N),some (.int m),some (.tup uF),some (.tup ms),a,some (.int q),some (.tup []),b,c,f]=some (.nx [some (.int N),some (.int m),some (.tup uF),some (.tup ms),a,some (.int q),some (.tup rs),j,o,f])/\rs.length=6/\∀x∈rs,zW x m=true/\Fits x:=by
 !⟨ρ',h1,rs,o,j,h2,h3,h4⟩:=Ba (st:=setAt 7) (body:=AN) (N3 N m q ms a f) (wX 0 6) 0 [some (.int N),some (.int m),some (.tup uF),some (.tup ms),a,some (.int q),some (.tup []),b,c,f]
  ⟨[],c,b,rfl,rfl,fun x hx=>nomatch hx⟩ (fun i d ρ e p=>by
   !⟨rs,o,j,rfl,hl,hk⟩:=p
   !⟨rfl,hi⟩:=oC e
   !⟨o',r,h1,h2,h3⟩:=qi (N:=N) (ms:=ms) (a:=a) (b:=o) (f:=f) (q:=q) (j:=(i:Int)) hm (rs:=rs) (by omega) hk
   &⟨_,_,rfl,h1,rs++[r],o',_,rfl,by simp[hl],fun x hx=>?_⟩
   rcases List.mem_append.mp hx with hx | hx
   ·~hk x hx
   ·cases List.mem_singleton.mp hx
    ~⟨h2,h3⟩)
 subst h2
 &⟨rs,o,j,h1,?_,h4⟩
 rw[h3,lS]
 rfl
theorem pQ{N m:Int}{ms:LD}{k:Int}{a b c d e:OD}(hm:0<m)(hms:ms.length<=100) :
  ∃r o1 o2 o3 o4 o5,Eb [some (.int N),some (.int m),some (.tup uF),some (.tup ms),some (.int k),a,b,c,d,e]=some (.nx [some (.int N),some (.int m),some (.tup uF),some (.tup (ms++[r])),some (.int k),o1,o2,o3,o4,o5])/\zc r m=true/\Fits r:=by
 generalize hq:xI N k / 4=q
 !⟨rs,o,j,h1,h2,h3⟩:=pR (N:=N) (m:=m) (q:=q) (ms:=ms) (a:=some (.int k)) (b:=c) (c:=d) (f:=e) hm
 !⟨x,hx,hat⟩:=zK (xs:=A1) (i:=q%4) (Int.emod_nonneg _ (by decide)) (Int.emod_lt_of_pos _ (by decide))
 have hl:ms.length+1<=sizeLine:=sz (by omega)
 &⟨.tup [x,.bl (q / 4%2==0),.tup rs],some (.int q),some (.tup rs),j,o,some x,?_,?_,?_⟩
 rotate_left 1
 ·have ha:(rs.all fun y=>zW y m)=true:=List.all_eq_true.mpr fun y hy=>(h3 y hy).1
  simp[zc,(Ej x hx).1,Fg,h2,ha]
 ·&.tup (by simp) fun y hy=>?_
  simp at hy
  rcases hy with h | h | h<;>subst h
  ·~(Ej _ hx).2
  ·~.bl _
  ·~.tup (by omega) fun y hy=>(h3 y hy).2
 ·have hat':H_ [.str (oS "time"),.str (oS "alarm"),.str (oS "laps"),.str (oS "count")] (q%4)=some x:=hat
  have hb:m9 (.tup ms) (.tup [.tup [x,.bl (q / 4%2==0),.tup rs]])=some (.tup (ms++[.tup [x,.bl (q / 4%2==0),.tup rs]])):=by
   show(if ms.length+1<=sizeLine then _ else none)=_
   rw[if_pos hl]
  have hv:vV (.int (xI N k)) (.int 4)=some (.int q):=by rw[<- hq];rfl
  ~(k8 (l9 (i7 (i4 (m8 rfl rfl) (zh _ _)) rfl hv) rfl)).trans ((k8 (l9 (tupS rfl) rfl)).trans ((k8 (C3 (ds:=wX 0 6) rfl h1)).trans ((k8 (l9 (i7 rfl (i7 rfl rfl (modS (by decide))) hat') rfl)).trans
   (l9 (i7 rfl (tupS (m8 (tupS (m8 rfl (m8 (FX (ug (i7 (i7 rfl rfl rfl) rfl (modS (by decide))) rfl rfl)) rfl))) rfl)) hb) rfl))))
def Oc(N m:Int)(i:Nat)(ρ:R):Prop:=∃ms a b c d e f,ρ=[some (.int N),some (.int m),some (.tup uF),some (.tup ms),a,b,c,d,e,f]/\ms.length=i/\∀x∈ms,zc x m=true/\Fits x
theorem pM(N:Int):∃b,cM [.int N]=some b/\Dl b=true/\Fits b:=by
 generalize hM:1+N%8=m
 have hm0:0<m:=by have:=Int.emod_nonneg N (show(8:Int)≠0 by decide);omega
 have hm8:m<=8:=by have:=Int.emod_lt_of_pos N (show(0:Int)<8 by decide);omega
 !⟨ρ',h1,ms,a,b,c,d,e,f,h2,h3,h4⟩:=Ba (st:=setAt 4) (body:=Eb) (Oc N m) (wX 0 m) 0 [some (.int N),some (.int m),some (.tup uF),some (.tup []),none,none,none,none,none,none]
  ⟨[],none,none,none,none,none,none,rfl,rfl,fun x hx=>nomatch hx⟩ (fun i d ρ e p=>by
   !⟨ms,a,b,c,d',e',f,rfl,hl,hk⟩:=p
   !⟨rfl,hi⟩:=oC e
   !⟨r,o1,o2,o3,o4,o5,h1,h2,h3⟩:=pQ (N:=N) (ms:=ms) (k:=(i:Int)) (a:=b) (b:=c) (c:=d') (d:=e') (e:=f) hm0 (by omega)
   &⟨_,_,rfl,h1,ms++[r],_,_,_,_,_,_,rfl,by simp[hl],fun x hx=>?_⟩
   rcases List.mem_append.mp hx with hx | hx
   ·~hk x hx
   ·cases List.mem_singleton.mp hx
    ~⟨h2,h3⟩)
 subst h2
 rw[lS] at h3
 have hlen:((ms.length:Nat):Int)=m:=by omega
 have hr : -4611686018427387904<=m/\m<4611686018427387904:=by omega
 !⟨p,hp,hat⟩:=zK (xs:=[.int 3,.int 9]) (i:=N / 128%2) (Int.emod_nonneg _ (by decide)) (Int.emod_lt_of_pos _ (by decide))
 have hp':∃v:Int,p=.int v/\0<v/\v<=9:=by
  simp at hp
  rcases hp with h | h<;>subst h
  ·~⟨3,rfl,by decide,by decide⟩
  ·~⟨9,rfl,by decide,by decide⟩
 !⟨v,rfl,hv0,hv9⟩:=hp'
 !⟨p2,hp2,hat2⟩:=zK (xs:=[.int 0,.int 7,.int 60,.int 1,.int 20]) (i:=N / 256%5) (Int.emod_nonneg _ (by decide)) (Int.emod_lt_of_pos _ (by decide))
 have hp2':∃v:Int,p2=.int v/\0<=v/\v<=60:=by
  simp at hp2
  rcases hp2 with h | h | h | h | h<;>subst h
  ·~⟨0,rfl,by decide,by decide⟩
  ·~⟨7,rfl,by decide,by decide⟩
  ·~⟨60,rfl,by decide,by decide⟩
  ·~⟨1,rfl,by decide,by decide⟩
  ·~⟨20,rfl,by decide,by decide⟩
 !⟨v2,rfl,hv20,hv260⟩:=hp2'
 have w0:0<=N / 8%v:=Int.emod_nonneg _ (by omega)
 have w1:N / 8%v<v:=Int.emod_lt_of_pos _ hv0
 &⟨.tup [.int (1+N / 8%v),.int v2,.tup ms],?_,?_,?_⟩
 ·have hi:yn (c5 1) [some (.int N),some (.int m),some (.tup uF),some (.tup []),none,none,none,none,none,none]=some (wX 0 m):=by
   show(if -4611686018427387904<=m/\m<4611686018427387904 then some (wX 0 m) else none)=_
   rw[if_pos hr]
  have h0:m9 (.int 1) (.int (N%8))=some (.int m):=by rw[<- hM];rfl
  ~k9 ((k8 (l9 (i7 rfl (i7 rfl rfl (modS (by decide))) h0) rfl)).trans ((k8 (l9 rfl rfl)).trans ((k8 (l9 (tupS rfl) rfl)).trans ((k8 (C3 hi h1)).trans (retS (tupS (m8 (i7 rfl (i7 (i7 rfl rfl rfl) (i7 rfl (i7 (i7 rfl rfl rfl) rfl (modS (by decide))) hat) (modS hv0)) rfl) (m8 (i7 rfl (i7 (i7 rfl rfl rfl) rfl (modS (by decide))) hat2) rfl))))))))
 ·have ha:(ms.all fun y=>zc y ms.length)=true:=List.all_eq_true.mpr fun y hy=>by rw[hlen];~(h4 y hy).1
  have g1:1<=ms.length:=by omega
  have g8:ms.length<=8:=by omega
  simp[Dl,within,C6,ha,g1,g8]
  omega
 ·&.tup (by simp) fun y hy=>?_
  simp at hy
  rcases hy with h | h | h<;>subst h
  ·~.int _
  ·~.int _
  ·~.tup (by omega) fun y hy=>(h4 y hy).2
def kQ:R->Option Out:=
  (l5 (l3 (i3 i8 (kS "abcaab") (i3 ui (i3 vV (c5 0) (kI 8)) (kI 6))) (setAt 1))
  (l5 (l3 (i3 ui (c5 0) (kI 8)) (setAt 2))
  (l5 (yY (k7 OE (c5 2) (kI 3))
  (l4 (l7 (c4 (kS "down") (c4 (c5 1) c7))))
  uu)
  (l5 (yY (k7 OE (c5 2) (kI 6))
  (l4 (l7 (c4 (kS "up") (c4 (c5 1) c7))))
  uu)
  (l4 (l7 (c4 (kS "ticks") (c4 (i3 m9 (kI 1) (i3 ui (i3 vV (c5 0) (kI 64)) (i3 i8 (l7 (c4 (kI 4) (c4 (kI 12) (c4 (kI 130) c7)))) (i3 ui (i3 vV (c5 0) (kI 4096)) (kI 3))))) c7))))))))
def cj:LD->OD:=via 1 3 kQ
def Mr:Ev->Prop
 | .ticks n=>n<=130
 | _=>True
def Ev.Lt(e:Ev):Prop:=e.Ok/\Mr e
theorem Qd{i:Int}(h0:0<=i)(h1:i<6):∃x:wL,i8 (.str (oS "abcaab")) (.int i)=some (.str x.x):=by
 have:i=0\/i=1\/i=2\/i=3\/i=4\/i=5:=by omega
 rcases this with rfl | rfl | rfl | rfl | rfl | rfl
 ·~⟨.a,rfl⟩
 ·~⟨.b,rfl⟩
 ·~⟨.c,rfl⟩
 ·~⟨.a,rfl⟩
 ·~⟨.a,rfl⟩
 ·~⟨.b,rfl⟩
theorem N4{i:Int}(h0:0<=i)(h1:i<3):∃t:Int,i8 (.tup [.int 4,.int 12,.int 130]) (.int i)=some (.int t)/\0<t/\t<=130:=by
 have:i=0\/i=1\/i=2:=by omega
 rcases this with rfl | rfl | rfl
 ·~⟨4,rfl,by decide,by decide⟩
 ·~⟨12,rfl,by decide,by decide⟩
 ·~⟨130,rfl,by decide,by decide⟩
theorem Fu(n:Int):∃e:Ev,cj [.int n]=some e.d/\e.Lt:=by
 !⟨x,hx⟩:=Qd (i:=n / 8%6) (by omega) (by omega)
 by_cases h1:n%8<3
 ·~⟨.down x,k9 ((k8 (l9 (i7 rfl (i7 (i7 rfl rfl rfl) rfl (modS (by decide))) hx) rfl)).trans ((k8 (l9 (i7 rfl rfl (modS (by decide))) rfl)).trans (v8 ((zF (ug rfl rfl (dT h1))).trans (retS rfl))))),trivial,trivial⟩
 ·by_cases h2:n%8<6
  ·~⟨.up x,k9 ((k8 (l9 (i7 rfl (i7 (i7 rfl rfl rfl) rfl (modS (by decide))) hx) rfl)).trans ((k8 (l9 (i7 rfl rfl (modS (by decide))) rfl)).trans ((k8 (yT (ug rfl rfl (dF h1)))).trans (v8 ((zF (ug rfl rfl (dT h2))).trans (retS rfl)))))),trivial,trivial⟩
  ·!⟨t,ht,t0,t1⟩:=N4 (i:=n / 4096%3) (by omega) (by omega)
   have hm:=Int.emod_nonneg (n / 64) (show t≠0 by omega)
   have hm2:=Int.emod_lt_of_pos (n / 64) t0
   ~⟨.ticks (1+n / 64%t),k9 ((k8 (l9 (i7 rfl (i7 (i7 rfl rfl rfl) rfl (modS (by decide))) hx) rfl)).trans ((k8 (l9 (i7 rfl rfl (modS (by decide))) rfl)).trans ((k8 (yT (ug rfl rfl (dF h1)))).trans ((k8 (yT (ug rfl rfl (dF h2)))).trans (retS (tupS (m8 rfl (m8 (i7 rfl (i7 (i7 rfl rfl rfl) (i7 rfl (i7 (i7 rfl rfl rfl) rfl (modS (by decide))) ht) (modS t0)) rfl) rfl)))))))),by show 1<=_;omega,by show _<=130;omega⟩
def lR:R->Option Out:=
  (l5 (yY (k7 vY (i3 ui (c5 1) (kI 2)) (kI 0))
  (l4 (c5 0))
  uu)
  (l5 (l3 (i3 ui (i3 vV (c5 1) (kI 2)) (c8 xo (c4 (i3 i8 (c5 0) (kI 2)) c7))) (setAt 2))
  (l5 (l3 (l7 (c4 (l7 (c4 (kS "csecond") (c4 (kI 0) c7))) (c4 (l7 (c4 (kS "count") (c4 (c5 2) c7))) (c4 (l7 (c4 (kS "aminute") (c4 (kI 0) c7))) (c4 (l7 (c4 (kS "alarm") (c4 (kI 0) c7))) (c4 (l7 (c4 (kS "full") (c4 (kI 0) c7))) (c4 (l7 (c4 (kS "none") (c4 (c5 2) c7))) c7))))))) (setAt 3))
  (l4 (l7 (c4 (i3 i8 (c5 0) (kI 0)) (c4 (i3 i8 (c5 0) (kI 1)) (c4 (i3 m9 (l7 (c4 (l7 (c4 (kS "count") (c4 (fun _=>some (.bl true)) (c4 (c5 3) c7)))) c7)) (LK (i3 i8 (c5 0) (kI 2)) (aP (kI 1)) Oy)) c7))))))))
def cz:LD->OD:=via 2 4 lR
def A_(b:Bk)(n:Int):Bk:=if n%2=0 then b else ⟨b.hold,b.back,⟨.count,true,[(.csecond,0),(.count,(n / 2%(b.modes.length:Int)).toNat),(.aminute,0),(.alarm,0),(.full,0),(.none,(n / 2%(b.modes.length:Int)).toNat)]⟩::b.modes.tail⟩
theorem IJ{b:Bk}(ok:b.Ok)(n:Int):(A_ b n).Ok:=by
 unfold A_
 split
 ·~ok
 ·have h1:=ok.some1
  have h0:(0:Int)<(b.modes.length:Int):=by omega
  have m0:=Int.emod_nonneg (n / 2) (show(b.modes.length:Int)≠0 by omega)
  have m1:=Int.emod_lt_of_pos (n / 2) h0
  have hl:b.modes.tail.length+1=b.modes.length:=by rw[List.length_tail];omega
  generalize hg:n / 2%(b.modes.length:Int)=g at *
  &⟨ok.hold1,ok.hold9,ok.back0,ok.back60,Nat.succ_le_succ (Nat.zero_le _),by show b.modes.tail.length+1<=8;rw[hl];~ok.some8,fun m hm=>?_⟩
  show m.Ok (b.modes.tail.length+1)
  rw[hl]
  rcases List.mem_cons.mp hm with rfl | hm
  ·&⟨rfl,fun r hr=>?_⟩
   simp only[List.mem_cons,List.not_mem_nil,or_false] at hr
   rcases hr with rfl | rfl | rfl | rfl | rfl | rfl<;>show _<b.modes.length<;>omega
  ·~ok.all m (List.mem_of_mem_tail hm)
theorem Ot(xs ys:LD):cutD (xs++ys) (some (xs.length:Int)) none=ys:=by
 unfold cutD GF
 dsimp only
 rw[if_neg (by omega)]
 simp
theorem Kb(m:D)(ms:LD):OJ (.tup (m::ms)) (some 1) none=some (.tup ms):=by
 show some (D.tup (cutD (m::ms) (some 1) none))=_
 rw[show cutD (m::ms) (some 1) none=ms from Ot [m] ms]
theorem rW{b:Bk}(ok:b.Ok)(n:Int):cz [b.d,.int n]=some (A_ b n).d:=by
 have h1:=ok.some1
 have h0:(b.modes.length:Int)≠0:=by omega
 have m0:=Int.emod_nonneg (n / 2) h0
 have z:1000<=sizeLine:=by decide
 unfold A_
 by_cases h:n%2=0
 ·rw[if_pos h]
  ~k9 (v8 ((zF (ug (i7 rfl rfl (modS (by decide))) rfl (by show some (n%2==0)=some true;rw[h];rfl))).trans (retS rfl)))
 ·rw[if_neg h]
  have hlen:xo [.tup (b.modes.map Md.d)]=some (.int (b.modes.length:Int)):=by show some (D.int ((b.modes.map Md.d).length:Int))=_;rw[List.length_map]
  have hms:b.modes.map Md.d=(b.modes.map Md.d).head!::b.modes.tail.map Md.d:=by
   cases hb:b.modes with
   | nil=>rw[hb] at h1;~absurd h1 (by decide)
   | cons m ms=>rfl
  have hsl:OJ (.tup (b.modes.map Md.d)) (some 1) none=some (.tup (b.modes.tail.map Md.d)):=by rw[hms,Kb]
  have e8:=ok.some8
  have htl:b.modes.tail.length<=8:=by rw[List.length_tail];omega
  have had:∀x:D,m9 (.tup [x]) (.tup (b.modes.tail.map Md.d))=some (.tup (x::b.modes.tail.map Md.d)):=fun x=>by
   show(if [x].length+(b.modes.tail.map Md.d).length<=sizeLine then _ else none)=_
   rw[if_pos (by rw[List.length_map];show 1+_<=_;omega)];rfl
  have hg:((n / 2%(b.modes.length:Int)).toNat:Int)=n / 2%(b.modes.length:Int):=Int.toNat_of_nonneg m0
  generalize hgg:n / 2%(b.modes.length:Int)=g at *
  have s1:l3 (i3 ui (i3 vV (c5 1) (kI 2)) (c8 xo (c4 (i3 i8 (c5 0) (kI 2)) c7))) (setAt 2) [some b.d,some (.int n),none,none]=some (.nx [some b.d,some (.int n),some (.int g),none]):=by
   rw[<- hgg]
   ~l9 (i7 (i7 rfl rfl rfl) (i4 (m8 (i7 rfl rfl rfl) rfl) hlen) (modS (by omega))) rfl
  &k9 ((k8 (yT (ug (i7 rfl rfl (modS (by decide))) rfl (by show some (n%2==0)=some false;rw[beq_eq_false_iff_ne.mpr h])))).trans ((k8 s1).trans ((k8 (l9 (d:=.tup [.tup [.str (oS "csecond"),.int 0],.tup [.str (oS "count"),.int g],.tup [.str (oS "aminute"),.int 0],.tup [.str (oS "alarm"),.int 0],.tup [.str (oS "full"),.int 0],.tup [.str (oS "none"),.int g]]) rfl rfl)).trans ?_)))
  &(retS (tupS (m8 (i7 rfl rfl rfl) (m8 (i7 rfl rfl rfl) (m8 (i7 (x:=.tup [.tup [.str (oS "count"),.bl true,.tup [.tup [.str (oS "csecond"),.int 0],.tup [.str (oS "count"),.int g],.tup [.str (oS "aminute"),.int 0],.tup [.str (oS "alarm"),.int 0],.tup [.str (oS "full"),.int 0],.tup [.str (oS "none"),.int g]]]]) rfl (Dn (i7 rfl rfl rfl) rfl rfl hsl) (had _)) rfl))))).trans ?_
  rw[<- hg];rfl
def pB:R->Option Out:=
  (GS 1 c7
  (wD (zX (GY (k7 NK (c5 0) (fun _=>some eN))))
  (wD (BX 1 (c8 EZ (c4 (c5 0) c7)))
  (As (l4 (c8 C2 (c4 (kS "") (c4 (c5 1) c7))))))))
def cI:LD->OD:=via 1 2 pB
theorem O5{p:R->LD->Option (Out×LD)}{q:R->LD->Option Out}{ρ ρ2:R}{ds ds2:LD}(h:p ρ ds=some (.nx ρ2,ds2)):wD p q ρ ds=q ρ2 ds2:=by simp[wD,h]
def tx(i:Int):Str:=Str.ofString (toString i)
theorem Co{n:Int}(h0:0<=n)(h1:n<1000000000000000000):n.natAbs.log2<1920:=by
 have h2:n.natAbs<2 ^ 60:=by omega
 by_cases hz:n.natAbs=0
 ·rw[hz];decide
 ·have:=(Nat.log2_lt hz).mpr h2;omega
theorem Dx{n:Int}(h0:0<=n)(h1:n<1000000000000000000):(tx n).length<=1921:=PyProof.Rows.int_text_len_1921 (Co h0 h1)
theorem Lz{n:Int}(h0:0<=n)(h1:n<1000000000000000000):EZ [.int n]=some (.str (tx n)):=if_pos (Co h0 h1)
theorem O3{x:Str}(h:x.length<=100000):C2 [.str (oS ""),.lst [.str x]]=some (.str x):=by
 have z:100000<=sizeLine:=by decide
 have e:(oS "").length=0:=by decide +kernel
 show(DZ (oS "") [x]).map D.str=_
 unfold DZ
 rw[if_pos]
 ·rfl
 ·constructor
  ·show 0+x.length+(oS "").length<=sizeLine
   rw[e];omega
  ·show x.length<=sizeLine
   omega
theorem kC{n:Int}(h0:0<=n)(h1:n<1000000000000000000):cI [.int n]=some (.str (tx n)):=by
 have hw:GY (k7 NK (c5 0) (fun _=>some eN)) [some (.int n)]=some (.nx [some (.int n)]):=by
  have:¬ (1000000000000000000:Int)<=n:=by omega
  simp[eN,this]
 have hs:=Lz h0 h1
 have hj:=O3 (x:=tx n) (Nat.le_trans (Dx h0 h1) (by decide))
 have z:0<sizeLine:=by decide
 have a1:zX (GY (k7 NK (c5 0) (fun _=>some eN))) [some (.int n)] []=some (.nx [some (.int n)],[]):=by
  show(GY _ _).map _=_
  rw[hw];rfl
 have a2:BX 1 (c8 EZ (c4 (c5 0) c7)) [some (.int n)] []=some (.nx [some (.int n)],[.str (tx n)]):=by
  show((EZ [.int n]).bind _)=_
  rw[hs]
  show(if 1=1/\0<sizeLine then _ else none)=_
  rw[if_pos ⟨rfl,z⟩];rfl
 show yc (wD (zX (GY (k7 NK (c5 0) (fun _=>some eN)))) _ [some (.int n)] [])=_
 rw[O5 a1,O5 a2]
 show yc ((C2 [.str (oS ""),.lst [.str (tx n)]]).map .rt)=_
 rw[hj];rfl
def jN:R->Option Out:=
 (l4 (c8 O6 (c4 (c8 cI (c4 (c5 0) c7)) (c4 (kI 2) (c4 (kS "0") c7)))))
def aM:LD->OD:=via 1 1 jN
def Jr(n:Int):Str:=Li (tx n) 2 48
theorem yH{n:Int}(h0:0<=n)(h1:n<1000000000000000000):(Jr n).length<=1921:=by
 unfold Jr Li
 have:=Dx h0 h1
 split
 ·~this
 ·show(Array.replicate _ _++(tx n).cps++Array.replicate _ _).size<=_
  have e:(tx n).cps.size=(tx n).length:=rfl
  simp
  omega
theorem cL{n:Int}(h0:0<=n)(h1:n<1000000000000000000):aM [.int n]=some (.str (Jr n)):=by
 have hf:O6 [.str (tx n),.int 2,.str (oS "0")]=some (.str (Jr n)):=by
  have e:(oS "0").length=1:=by decide +kernel
  have e2:(oS "0").cps.getD 0 0=48:=by decide +kernel
  show(if (0:Int)<=2/\(2:Int)<=1000/\(oS "0").length=1 then some (D.str (Li (tx n) (2:Int).toNat ((oS "0").cps.getD 0 0))) else none)=_
  rw[if_pos ⟨by decide,by decide,e⟩,e2];rfl
 ~k9 (retS (i4 (m8 (i4 rfl (kC h0 h1)) rfl) hf))
def mQ:R->Option Out:=
 (l4 (i3 m9 (i3 m9 (c8 aM (c4 (c5 0) c7)) (kS ":")) (c8 aM (c4 (c5 1) c7))))
def bL:LD->OD:=via 2 2 mQ
theorem DC{x y:Str}(h:x.length+y.length<=100000):m9 (.str x) (.str y)=some (.str (x++y)):=by
 have z:100000<=sizeLine:=by decide
 show(if x.length+y.length<=sizeLine then _ else none)=_
 rw[if_pos (by omega)]
theorem wM(x y:Str):(x++y).length=x.length+y.length:=by
 show(x.cps++y.cps).size=_
 simp;rfl
def colon:Str:=oS ":"
theorem vp:colon.length=1:=by decide +kernel
def Ay(h m:Int):Str:=Jr h++colon++Jr m
theorem CA{h m:Int}(a0:0<=h)(a1:h<1000000000000000000)(b0:0<=m)(b1:m<1000000000000000000):(Ay h m).length<=3843:=by
 unfold Ay
 rw[wM,wM,vp]
 have:=yH a0 a1
 have:=yH b0 b1
 omega
theorem iu{h m:Int}(a0:0<=h)(a1:h<1000000000000000000)(b0:0<=m)(b1:m<1000000000000000000):bL [.int h,.int m]=some (.str (Ay h m)):=by
 have l1:=yH a0 a1
 have l2:=yH b0 b1
 &k9 (retS (i7 (i7 (i4 rfl (cL a0 a1)) rfl (DC ?_)) (i4 rfl (cL b0 b1)) (DC ?_)))
 ·rw[show(oS ":").length=1 from vp];omega
 ·rw[wM,show(oS ":").length=1 from vp];omega
def mC:R->Option Out:=
  (l5 (l3 (i3 i8 (c5 0) (fun _=>some aY)) (setAt 1))
  (l4 (i3 m9 (i3 m9 (c8 bL (c4 (i3 vV (c5 1) (kI 3600)) (c4 (i3 ui (i3 vV (c5 1) (kI 60)) (kI 60)) c7))) (kS ":")) (c8 aM (c4 (i3 ui (c5 1) (kI 60)) c7)))))
def cS:LD->OD:=via 1 2 mC
def Lk(s:WS):Str:=Ay (s.clock / 3600) (s.clock / 60%60)++colon++Jr (s.clock%60)
theorem lW{b:Bk}{s:WS}(w:s.Wk b):cS [s.d]=some (.str (Lk s)):=by
 have c0:=w.clock0
 have c1:=w.clock1
 have l1:=CA (h:=s.clock / 3600) (m:=s.clock / 60%60) (by omega) (by omega) (by omega) (by omega)
 have l2:=yH (n:=s.clock%60) (by omega) (by omega)
 &k9 ((k8 (l9 (i7 rfl rfl (w1 s)) rfl)).trans (retS (i7 (i7 (i4 (m8 (i7 rfl rfl rfl) (m8 (i7 (i7 rfl rfl rfl) rfl (modS (by decide))) rfl)) (iu (h:=s.clock / 3600) (m:=s.clock / 60%60) (by omega) (by omega) (by omega) (by omega))) rfl (DC ?_)) (i4 (m8 (i7 rfl rfl (modS (by decide))) rfl) (cL (n:=s.clock%60) (by omega) (by omega))) (DC ?_))))
 ·rw[show(oS ":").length=1 from vp];omega
 ·rw[wM,show(oS ":").length=1 from vp];omega
def lK:R->Option Out:=
  (l5 (l3 (i3 i8 (c5 0) (fun _=>some ba)) (setAt 1))
  (l4 (i3 m9 (c8 bL (c4 (i3 i8 (c5 1) (kI 0)) (c4 (i3 i8 (c5 1) (kI 1)) c7))) (Dc (wV (i3 i8 (c5 1) (kI 2))) (kS " on") (kS "")))))
def cy:LD->OD:=via 1 2 lK
def NO:Str:=oS " on"
theorem J2:NO.length=3:=by decide +kernel
theorem EA:(oS "").length=0:=by decide +kernel
def Im(s:WS):Str:=Ay s.ah s.am++(if s.aon then NO else oS "")
theorem lb{b:Bk}{s:WS}(w:s.Wk b):cy [s.d]=some (.str (Im s)):=by
 have a0:=w.ah0
 have a1:s.ah<1000000000000000000:=by have:=w.ah1;omega
 have b0:=w.am0
 have b1:s.am<1000000000000000000:=by have:=w.am1;omega
 have l:=CA a0 a1 b0 b1
 have hon:∀(o:Bool) (ρ:R),(wV (i3 i8 (c5 1) (kI 2))) ρ=some o->(Dc (wV (i3 i8 (c5 1) (kI 2))) (kS " on") (kS "")) ρ=some (.str (if o then NO else oS "")):=fun o ρ h=>by
  cases o
  ·~Hb h rfl
  ·~Fw h rfl
 &k9 ((k8 (l9 (i7 rfl rfl (w2 s)) rfl)).trans (retS (i7 (i4 (m8 (i7 rfl rfl (OM s)) (m8 (i7 rfl rfl (Pa s)) rfl)) (iu a0 a1 b0 b1)) (hon s.aon _ (B4 (i7 rfl rfl (O8 s)))) (DC ?_))))
 cases s.aon
 ·show(Ay s.ah s.am).length+(oS "").length<=_
  rw[EA];omega
 ·show(Ay s.ah s.am).length+NO.length<=_
  rw[J2];omega
def jT:R->Option Out:=
 (l4 (i3 m9 (i3 m9 (c8 cI (c4 (i3 vV (c5 0) (kI 60)) c7)) (kS ":")) (c8 aM (c4 (i3 ui (c5 0) (kI 60)) c7))))
def bu:LD->OD:=via 1 1 jT
def Fv(s:Int):Str:=tx (s / 60)++colon++Jr (s%60)
theorem gc{s:Int}(a0:0<=s)(a1:s<1000000000000000000):bu [.int s]=some (.str (Fv s))/\(Fv s).length<=3843:=by
 have c0:0<=s / 60:=by omega
 have c1:s / 60<1000000000000000000:=by omega
 have d0:0<=s%60:=by omega
 have d1:s%60<1000000000000000000:=by omega
 have l1:=Dx c0 c1
 have l2:=yH d0 d1
 constructor
 ·&k9 (retS (i7 (i7 (i4 (m8 (i7 rfl rfl rfl) rfl) (kC c0 c1)) rfl (DC ?_)) (i4 (m8 (i7 rfl rfl (modS (by decide))) rfl) (cL d0 d1)) (DC ?_)))
  ·rw[show(oS ":").length=1 from vp];omega
  ·rw[wM,show(oS ":").length=1 from vp];omega
 ·unfold Fv
  rw[wM,wM,vp];omega
def na:R->Option Out:=
  (l5 (l3 (i3 i8 (c5 0) (fun _=>some b_)) (setAt 1))
  (l5 (l3 (c8 xo (c4 (i3 i8 (c5 1) (kI 2)) c7)) (setAt 2))
  (l4 (i3 m9 (c8 bu (c4 (i3 i8 (c5 1) (kI 0)) c7)) (Dc (k7 EJ (c5 2) (kI 0)) (i3 m9 (kS " +") (c8 EZ (c4 (c5 2) c7))) (kS ""))))))
def cO:LD->OD:=via 1 3 na
def Ik:Str:=oS " +"
theorem Ck:Ik.length=2:=by decide +kernel
def DY(n:Nat):Str:=if 0<n then Ik++tx n else oS ""
def Lo(s:WS):Str:=Fv s.lm++DY s.lk.length
theorem mi{b:Bk}{s:WS}(w:s.Wk b)(hl:s.lm<1000000000000000000):cO [s.d]=some (.str (Lo s)):=by
 have a0:=w.lm0
 !⟨e,l⟩:=gc a0 hl
 have hk:=w.lk
 have k0:(0:Int)<=(s.lk.length:Int):=by omega
 have k1:(s.lk.length:Int)<1000000000000000000:=by omega
 have l2:=Dx k0 k1
 have hlen:c8 xo (c4 (i3 i8 (c5 1) (kI 2)) c7) [some s.d,some s.lapsD,none]=some (.int (s.lk.length:Int)):=i4 (m8 (i7 rfl rfl (Ol s)) rfl) (by simp)
 have hm:(Dc (k7 EJ (c5 2) (kI 0)) (i3 m9 (kS " +") (c8 EZ (c4 (c5 2) c7))) (kS "")) [some s.d,some s.lapsD,some (.int (s.lk.length:Int))]=some (.str (DY s.lk.length)):=by
  unfold DY
  by_cases h:0<s.lk.length
  ·rw[if_pos h]
   ~Fw (ug rfl rfl (dT (by omega))) (i7 rfl (i4 rfl (Lz k0 k1)) (DC (by rw[show(oS " +").length=2 from Ck];omega)))
  ·rw[if_neg h]
   ~Hb (ug rfl rfl (dF (by omega))) rfl
 &k9 ((k8 (l9 (i7 rfl rfl (w3 s)) rfl)).trans ((k8 (l9 hlen rfl)).trans (retS (i7 (i4 (m8 (i7 rfl rfl (OK s)) rfl) e) hm (DC ?_)))))
 unfold DY
 split
 ·rw[wM,Ck];omega
 ·rw[EA];omega
def lF:R->Option Out:=
 (l4 (c8 bu (c4 (i3 i8 (i3 i8 (c5 0) (fun _=>some aQ)) (kI 2)) c7)))
def cu:LD->OD:=via 1 1 lF
theorem kW{b:Bk}{s:WS}(w:s.Wk b):cu [s.d]=some (.str (Fv s.cl)):=by
 have a0:=w.cl0
 have a1:s.cl<1000000000000000000:=by have:=w.cl1;omega
 ~k9 (retS (i4 (m8 (i7 (i7 rfl rfl (w4 s)) rfl (PH s)) rfl) (gc a0 a1).1))
def vz:List (Str×(LD->OD)):=[(oS "time",cS),(oS "alarm",cy),(oS "laps",cO),(oS "count",cu)]
def rG:R->Option Out:=
  (l5 (l3 (i3 i8 (i3 i8 (i3 i8 (c5 0) (kI 2)) (i3 i8 (c5 1) (fun _=>some bT))) (kI 0)) (setAt 2))
  (Nz 3 vz (c5 2) (fun G_=>(l4 (l7 (c4 (c5 2) (c4 (c8 G_ (c4 (c5 1) c7)) (c4 (Cf (k7 EJ (i3 i8 (c5 1) (fun _=>some eI)) (kI 0))) c7))))))))
def dC:LD->OD:=via 2 4 rG
def Gc(f:Face)(s:WS):Str:=match f with
 | .time=>Lk s
 | .alarm=>Im s
 | .laps=>Lo s
 | .count=>Fv s.cl
theorem DF{b:Bk}{s:WS}(w:s.Wk b)(hl:s.lm<1000000000000000000)(f:Face):∃F,vz.lookup f.x=some F/\F [s.d]=some (.str (Gc f s)):=by
 cases f
 ·~⟨_,rfl,lW w⟩
 ·~⟨_,rfl,lb w⟩
 ·~⟨_,rfl,mi w hl⟩
 ·~⟨_,rfl,kW w⟩
theorem oR{b:Bk}{s:WS}(w:s.Wk b)(hl:s.lm<1000000000000000000):dC [b.d,s.d]=some (.tup [.str (b.modes.getD s.mode default).face.x,.str (Gc (b.modes.getD s.mode default).face s),.bl (decide (0<s.ring))]):=by
 have hm:=kM b w.mode
 generalize b.modes.getD s.mode default=md at *
 !⟨F,h1,h2⟩:=DF w hl md.face
 have q1:l3 (i3 i8 (i3 i8 (i3 i8 (c5 0) (kI 2)) (i3 i8 (c5 1) (fun _=>some bT))) (kI 0)) (setAt 2) [some b.d,some s.d,none,none]=some (.nx [some b.d,some s.d,some (.str md.face.x),none]):=
  l9 (i7 (i7 (i7 rfl rfl (b2 b)) (i7 rfl rfl (w0 s)) hm) rfl (m0 md)) rfl
 &k9 ((k8 q1).trans ?_)
 simp[-i8,Nz,h1,h2,eI,w5]
def lU:R->Option Out:=
  (l5 (l3 (c8 aL (c4 (c5 0) c7)) (setAt 2))
  (l5 (l3 (c8 aO (c4 (c5 0) c7)) (setAt 3))
  (l5 (l3 (Dc (Ds (k7 zU (c5 2) (fun _=>some .non)) (k7 EJ (c5 2) (c5 1))) (kI 0) (i3 m9 (i3 vV (i3 wY (c5 1) (c5 2)) (fun _=>some dD)) (kI 1))) (setAt 4))
  (l5 (l3 (Dc (Ds (k7 zU (c5 3) (fun _=>some .non)) (Ds (k7 EJ (c5 3) (c5 1)) (k7 yg (c5 3) (c5 2)))) (kI 0) (kI 1)) (setAt 5))
  (l4 (i3 m9 (c5 4) (c5 5)))))))
def bg:LD->OD:=via 2 6 lU
def y8(b:Bk)(s:WS)(n:Int):List Int:=match t6 b s with
 | none=>uZ s n
 | some t=>if n<t then uZ s n else uZ s t++(uZ (behind b s t) (n - t)).map (t+·)
def Pz(n:Int)(o:Option Int):Int:=match o with
 | some a=>if n<a then 0 else (n - a) / 86400+1
 | none=>0
def PQ(n:Int)(o p:Option Int):Int:=match p with
 | some c=>if n<c then 0 else if o=some c then 0 else 1
 | none=>0
theorem IP{c d:R->Option Bool}{ρ:R}(h1:c ρ=some true):Ds c d ρ=some true:=by simp[h1]
theorem Gg{c d:R->Option Bool}{ρ:R}{b:Bool}(h1:c ρ=some false)(h2:d ρ=some b):Ds c d ρ=some b:=by simp[h1,h2]
theorem rj(c:Int)(o:Option Int):yg (.int c) (uk o)=some (decide (o=some c)):=by
 cases o with
 | none=>rfl
 | some a =>
  show some (c==a)=_
  by_cases h:a=c
  ·subst h;simp
  ·have h1:¬ c=a:=fun z=>h z.symm
   have h2:¬ (some a=some c):=fun z=>h (Option.some.inj z)
   rw[decide_eq_false h2,beq_eq_false_iff_ne.mpr h1]
theorem Rf(n:Int)(a:Option Int)(r:R)(x:OD):(Dc (Ds (k7 zU (c5 2) (fun _=>some .non)) (k7 EJ (c5 2) (c5 1))) (kI 0) (i3 m9 (i3 vV (i3 wY (c5 1) (c5 2)) (fun _=>some dD)) (kI 1))) (x::some (.int n)::some (uk a)::r)=some (.int (Pz n a)):=by
 cases a with
 | none=>~Fw (IP (ug rfl rfl rfl)) rfl
 | some a =>
  show _=some (D.int (if n<a then 0 else (n - a) / 86400+1))
  by_cases h:n<a
  ·rw[if_pos h]
   ~Fw (Gg (ug rfl rfl rfl) (ug rfl rfl (dT h))) rfl
  ·rw[if_neg h]
   ~Hb (NJ (ug rfl rfl rfl) (ug rfl rfl (dF h))) (i7 (i7 (i7 rfl rfl rfl) rfl rfl) rfl rfl)
theorem RB(n:Int)(a c:Option Int)(r:R)(x:OD):(Dc (Ds (k7 zU (c5 3) (fun _=>some .non)) (Ds (k7 EJ (c5 3) (c5 1)) (k7 yg (c5 3) (c5 2)))) (kI 0) (kI 1)) (x::some (.int n)::some (uk a)::some (uk c)::r)=some (.int (PQ n a c)):=by
 cases c with
 | none=>~Fw (IP (ug rfl rfl rfl)) rfl
 | some c =>
  show _=some (D.int (if n<c then 0 else if a=some c then 0 else 1))
  by_cases h:n<c
  ·rw[if_pos h]
   ~Fw (Gg (ug rfl rfl rfl) (IP (ug rfl rfl (dT h)))) rfl
  ·rw[if_neg h]
   by_cases h2:a=some c
   ·rw[if_pos h2]
    ~Fw (Gg (ug rfl rfl rfl) (Gg (ug rfl rfl (dF h)) (ug rfl rfl ((rj c a).trans (by rw[decide_eq_true h2]))))) rfl
   ·rw[if_neg h2]
    ~Hb (NJ (ug rfl rfl rfl) (NJ (ug rfl rfl (dF h)) (ug rfl rfl ((rj c a).trans (by rw[decide_eq_false h2]))))) rfl
theorem kg(s:WS)(n:Int):bg [s.d,.int n]=some (.int (Pz n (m7 s)+PQ n (m7 s) (uc s))):=
 k9 ((k8 (l9 (i4 rfl (eL s)) rfl)).trans ((k8 (l9 (i4 rfl (fe s)) rfl)).trans ((k8 (l9 (Rf n _ _ _) rfl)).trans ((k8 (l9 (RB n _ _ _ _) rfl)).trans (retS (i7 rfl rfl rfl))))))
def ib:R->Option Out:=
 (l4 (c8 JY (c4 (Ek 1 (vj (c8 aK (c4 (c5 0) (c4 (c5 1) (c4 (c5 2) c7))))) (setAt 0) zg (c8 bg (c4 (i3 i8 (c5 0) (kI 1)) (c4 (i3 i8 (c5 0) (kI 2)) c7)))) c7)))
def bx:LD->OD:=via 3 3 ib
theorem qT:∀(l σ:List Int),(σ++l).Nodup->l.foldl vn σ=σ++l
 | [],σ,_=>(List.append_nil σ).symm
 | x::l,σ,h=>by
  have hx:¬ x∈σ:=fun z=>(List.nodup_append.mp h).2.2 x z x (.head _) rfl
  have e:vn σ x=σ++[x]:=by
   unfold vn
   rw[if_neg]
   intro z
   !⟨y,hy,e⟩:=List.any_eq_true.mp z
   rw[eq_of_beq e] at hy
   ~hx hy
  show l.foldl vn (vn σ x)=_
  rw[e,qT l (σ++[x]) (by rw[List.append_assoc];~h),List.append_assoc];rfl
theorem LY(n:Int)(o:Option Int):(DT n o).Nodup:=by
 cases o with
 | none=>~List.nodup_nil
 | some a =>
  show((List.range _).map _).Nodup
  rw[List.Nodup,List.pairwise_map]
  &List.Pairwise.imp ?_ List.nodup_range
  intro x y hxy z
  ~hxy (by omega)
theorem Km(n:Int)(o:Option Int):((DT n o).length:Int)=Pz n o:=by
 cases o with
 | none=>rfl
 | some a =>
  show(((List.range _).map _).length:Int)=if n<a then 0 else (n - a) / 86400+1
  rw[List.length_map,List.length_range]
  unfold wF
  by_cases h:n<a
  ·rw[if_neg (by omega),if_pos h];rfl
  ·rw[if_pos (by omega),if_neg h,show n+1 - a - 1=n - a by omega]
   have:0<=(n - a) / 86400:=by omega
   omega
theorem Nh{n c:Int}{o:Option Int}(hc:c<3600)(hn:c<=n)(ha:∀a,o=some a->1<=a):c∈DT n o↔o=some c:=by
 cases o with
 | none=>constructor<;>intro h<;>cases h
 | some a =>
  have ha1:=ha a rfl
  constructor
  ·intro h
   !⟨k,hk,e⟩:=List.mem_map.mp h
   have e':a+(k:Int)*86400=c:=e
   have hk0:k=0:=by omega
   rw[hk0] at e'
   rw[show a=c by simpa using e']
  ·intro h
   cases h
   &List.mem_map.mpr ⟨0,List.mem_range.mpr ?_,by simp⟩
   unfold wF
   rw[if_pos (by omega)]
   have:0<=(n+1 - c - 1) / 86400:=by omega
   omega
theorem LI{b:Bk}{s:WS}(w:s.Wk b)(n:Int):Pz n (m7 s)+PQ n (m7 s) (uc s)=((uZ s n).length:Int):=by
 have ha:∀a,m7 s=some a->1<=a:=fun a h=>(A6 h).1
 have hc:∀c,uc s=some c->c<3600:=fun c h=>by
  unfold uc at h
  split at h
  ·cases h;~w.cl1
  ·cases h
 unfold uZ
 rw[(wu _).length_eq]
 unfold Bf
 rw[List.foldl_append,qT _ [] (by simpa using LY n _),List.nil_append,<- Km]
 cases hcc:uc s with
 | none=>show _+0=_;rw[Int.add_zero];rfl
 | some c =>
  have h1:=hc c hcc
  show _+(if n<c then (0:Int) else if m7 s=some c then 0 else 1)=(((if c<=n then [c] else []).foldl vn (DT n (m7 s))).length:Int)
  by_cases h:n<c
  ·rw[if_pos h,if_neg (show ¬ c<=n by omega)];simp
  ·rw[if_neg h,if_pos (show c<=n by omega)]
   have hin:=Nh (n:=n) h1 (by omega) ha
   show _=((vn (DT n (m7 s)) c).length:Int)
   unfold vn
   by_cases h2:m7 s=some c
   ·have ht:((DT n (m7 s)).any fun x=>x==c)=true:=List.any_eq_true.mpr ⟨c,hin.mpr h2,by simp⟩
    rw[if_pos h2,if_pos ht];simp
   ·rw[if_neg h2,if_neg]
    ·simp
    ·intro z
     !⟨y,hy,e⟩:=List.any_eq_true.mp z
     rw[eq_of_beq e] at hy
     ~h2 (hin.mp hy)
theorem kZ{b:Bk}{s:WS}(w:s.Wk b)(n:Int):bg [s.d,.int n]=some (.int ((uZ s n).length:Int)):=by
 rw[kg,LI w]
theorem Lq{i:Int}(h0:0<=i)(h1:i<=100):JY [.lst [.int i]]=some (.int i):=by
 show(if 1<=1000/\[i].all _=true then some (D.int [i].sum) else none)=_
 rw[if_pos ⟨by decide,by simp;omega⟩]
 simp
theorem OI{i j:Int}(h0:0<=i)(h1:i<=100)(h2:0<=j)(h3:j<=100):JY [.lst [.int i,.int j]]=some (.int (i+j)):=by
 show(if 2<=1000/\[i,j].all _=true then some (D.int [i,j].sum) else none)=_
 rw[if_pos ⟨by decide,by simp;omega⟩]
 simp
theorem DX{st:D->R->Option R}{e:R->OD}{ρ ρ1:R}{d x:D}{ds xs:LD}(h1:st d ρ=some ρ1)(h2:e ρ1=some x)(h3:vB st zg e ds ρ=some xs):vB st zg e (d::ds) ρ=some (x::xs):=by simp[vB,h1,h2,h3]
theorem tX{b:Bk}{s:WS}{n:Int}(ok:b.Ok)(w:s.Wk b)(h0:0<=n)(hn:n<259200):bx [b.d,s.d,.int n]=some (.int ((y8 b s n).length:Int)):=by
 have e1:=fH n ok w
 have z:2<=sizeLine:=by decide
 have q:vj (c8 aK (c4 (c5 0) (c4 (c5 1) (c4 (c5 2) c7)))) [some b.d,some s.d,some (.int n)]=some (uA b s n):=by
  show(c8 aK _ _).bind _=_
  rw[i4 rfl e1];rfl
 have one:∀(k:Int) (s':WS) (m:Int),s'.Wk b->c8 bg (c4 (i3 i8 (c5 0) (kI 1)) (c4 (i3 i8 (c5 0) (kI 2)) c7)) [some (.tup [.int k,s'.d,.int m]),some b.d,some s.d,some (.int n)]=some (.int ((uZ s' m).length:Int)):=fun k s' m w' =>
  i4 (m8 (i7 rfl rfl rfl) (m8 (i7 rfl rfl rfl) rfl)) (kZ w' m)
 have len:∀(s':WS) (m:Int),m<259200->((uZ s' m).length:Int)<=100:=fun s' m hm=>by have:=dh (s:=s') hm;omega
 have lc:∀(l:LD),(uA b s n).length<=2->vB (setAt 0) zg (c8 bg (c4 (i3 i8 (c5 0) (kI 1)) (c4 (i3 i8 (c5 0) (kI 2)) c7))) (uA b s n) [none,some b.d,some s.d,some (.int n)]=some l ->
   Ek 1 (vj (c8 aK (c4 (c5 0) (c4 (c5 1) (c4 (c5 2) c7))))) (setAt 0) zg (c8 bg (c4 (i3 i8 (c5 0) (kI 1)) (c4 (i3 i8 (c5 0) (kI 2)) c7))) [some b.d,some s.d,some (.int n)]=some (.lst l):=fun l hl hc=>by
  unfold Ek
  rw[q,Option.bind_some,if_pos (by omega)]
  ~congrArg (Option.map D.lst) hc
 unfold uA at lc
 unfold y8
 cases ht:t6 b s with
 | none =>
  rw[ht] at lc
  ~k9 (retS (i4 (m8 (lc _ (by show 1<=2;decide) (DX rfl (one _ _ _ w) rfl)) rfl) (Lq (Int.natCast_nonneg _) (len s n hn))))
 | some t =>
  rw[ht] at lc
  dsimp only at lc ⊢
  have hp:=xn ht
  by_cases h:n<t
  ·rw[if_pos h] at lc ⊢
   ~k9 (retS (i4 (m8 (lc _ (by show 1<=2;decide) (DX rfl (one _ _ _ w) rfl)) rfl) (Lq (Int.natCast_nonneg _) (len s n hn))))
  ·rw[if_neg h] at lc ⊢
   have wb:(behind b s t).Wk b:=(w.cnt (n:=t) (by omega)).trn ok
   rw[List.length_append,List.length_map,Int.natCast_add]
   ~k9 (retS (i4 (m8 (lc _ (by show 2<=2;decide) (DX rfl (one _ _ _ w) (DX rfl (one _ _ _ wb) rfl))) rfl) (OI (Int.natCast_nonneg _) (len s t (by omega)) (Int.natCast_nonneg _) (len _ (n - t) (by omega)))))
def ow:R->Option Out:=
 (l4 (Dc (k7 vY (i3 i8 (c5 2) (kI 0)) (kS "ticks")) (c8 bx (c4 (c5 0) (c4 (c5 1) (c4 (i3 i8 (c5 2) (kI 1)) c7)))) (kI 0)))
def cF:LD->OD:=via 3 3 ow
def yo(b:Bk)(s:WS):Ev->Int
 | .ticks n=>((y8 b s n).length:Int)
 | _=>0
def De:Ev->Prop
 | .ticks n=>1<=n/\n<259200
 | _=>True
theorem n_{b:Bk}{s:WS}(ok:b.Ok)(w:s.Wk b)(e:Ev)(h:De e):cF [b.d,s.d,e.d]=some (.int (yo b s e)):=by
 cases e with
 | ticks n=>~k9 (retS (Fw (ug (i7 rfl rfl rfl) rfl rfl) (i4 (m8 rfl (m8 rfl (m8 (i7 rfl rfl rfl) rfl))) (tX ok w (by have:=h.1;omega) h.2))))
 | down x=>~k9 (retS (Hb (ug (i7 rfl rfl rfl) rfl rfl) rfl))
 | up x=>~k9 (retS (Hb (ug (i7 rfl rfl rfl) rfl rfl) rfl))
def dt(C:Nat):MU:=
  (vc (uK (l3 (c8 dB (c4 (wR (u5 C (oS "book")) (c5 0)) (c4 (wR (u5 C (oS "present")) (c5 0)) (c4 (c5 1) c7)))) (setAt 2)))
  (vc (uK (l3 (i3 m9 (wR (u5 C (oS "rung")) (c5 0)) (c8 cF (c4 (wR (u5 C (oS "book")) (c5 0)) (c4 (wR (u5 C (oS "present")) (c5 0)) (c4 (c5 1) c7))))) (setAt 3)))
  (vc (JH 0 C (oS "past") (l7 (c4 (c5 1) (c4 (wR (u5 C (oS "present")) (c5 0)) (c4 (wR (u5 C (oS "rung")) (c5 0)) c7)))))
  (vc (wW 0 C (oS "present") (c5 2))
  (wW 0 C (oS "rung") (c5 3))))))
def aN(C:Nat):LD->Option (D×D):=DE 2 4 0 (dt C)
def Wo(C a l:Nat)(b:Bk)(s:WS)(r:Int)(p:LD):D:=.obj (C+2) a [oS "book",oS "present",oS "rung",oS "past"] [b.d,s.d,.int r,.obj 0 l [] p]
theorem cR{α:Type}{f:α->D}(h:∀x,uC (f x)=true):∀l:List α,n5 (l.map f)=true
 | []=>rfl
 | x::l=>by show(uC (f x)&&n5 (l.map f))=true;rw[h x,cR h l];rfl
theorem sv(r:yS×Nat):uC (AX r)=true:=rfl
theorem sW(m:Md):uC m.d=true:=by
 show(true&&(true&&(n5 (m.rows.map AX)&&true)))=true
 rw[cR sv];rfl
theorem hX(b:Bk):uC b.d=true:=by
 show(true&&(true&&(n5 (b.modes.map Md.d)&&true)))=true
 rw[cR sW];rfl
theorem cV(s:WS):uC s.d=true:=bR (nA s)
theorem fT(e:Ev):uC e.d=true:=by cases e<;>rfl
noncomputable def vm(s:WS)(e:Ev)(r:Int):D:=.tup [e.d,s.d,.int r]
theorem gz(s:WS)(e:Ev)(r:Int):uC (vm s e r)=true:=by
 show(uC e.d&&(uC s.d&&(true&&true)))=true
 rw[fT,cV];rfl
section
variable{C a l:Nat}{b:Bk}{s s':WS}{r:Int}{p:LD}{ρ:R}{f:R->OD}
theorem Ib:u5 C (oS "book") (Wo C a l b s r p)=some b.d:=by show(if C+2=C+2 then _ else none)=_;rw[if_pos rfl];rfl
theorem Ep:u5 C (oS "present") (Wo C a l b s r p)=some s.d:=by show(if C+2=C+2 then _ else none)=_;rw[if_pos rfl];rfl
theorem HL:u5 C (oS "rung") (Wo C a l b s r p)=some (.int r):=by show(if C+2=C+2 then _ else none)=_;rw[if_pos rfl];rfl
theorem wS:AE [a,l] (a::[b.d,s.d,.int r,.obj 0 l [] p].flatMap xV)=true:=by
 show AE [a,l] [a,l]=true
 simp[AE]
theorem P6(hn:n5 p=true):[b.d,s.d,.int r,.obj 0 l [] p].all okN=true:=by
 show(uC b.d&&(uC s.d&&(true&&(n5 p&&true))))=true
 rw[hX,cV,hn];rfl
theorem Ls(hn:n5 p=true)(hb:uS 0 (some (Wo C a l b s r p)::ρ)=true)(hf:f (some (Wo C a l b s r p)::ρ)=some s'.d):wW 0 C (oS "present") f [a,l] (some (Wo C a l b s r p)::ρ)=some (.nx (some (Wo C a l b s' r p)::ρ)):=by
 show(f _).bind _=_
 rw[hf,Option.bind_some]
 ~if_pos ⟨rfl,cV _,hb,wS,by decide,P6 hn,cV s⟩
theorem K9{r':Int}(hn:n5 p=true)(hb:uS 0 (some (Wo C a l b s r p)::ρ)=true)(hf:f (some (Wo C a l b s r p)::ρ)=some (.int r')):wW 0 C (oS "rung") f [a,l] (some (Wo C a l b s r p)::ρ)=some (.nx (some (Wo C a l b s r' p)::ρ)):=by
 show(f _).bind _=_
 rw[hf,Option.bind_some]
 ~if_pos ⟨rfl,rfl,hb,wS,by decide,P6 hn,rfl⟩
theorem OG{d:D}(hn:n5 p=true)(hp:p.length<1000)(hd:uC d=true)(hb:uS 0 (some (Wo C a l b s r p)::ρ)=true)(hf:f (some (Wo C a l b s r p)::ρ)=some d):JH 0 C (oS "past") f [a,l] (some (Wo C a l b s r p)::ρ)=some (.nx (some (Wo C a l b s r (p++[d]))::ρ)):=by
 show(f _).bind _=_
 rw[hf,Option.bind_some]
 ~if_pos ⟨rfl,hd,hb,wS,hp,hn,by show(uC b.d&&(uC s.d&&(true&&(true&&true))))=true;rw[hX,cV];rfl,by simp⟩
end
theorem HI{C a l:Nat}{b:Bk}{s:WS}{r:Int}{p:LD}(ok:b.Ok)(w:s.Wk b)(e:Ev)(h:De e)(hp:p.length<1000)(hn:n5 p=true) :
  aN C [Wo C a l b s r p,e.d]=some (.non,Wo C a l b (gone b s e) (r+yo b s e) (p++[vm s e r])):=by
 have s1:uK (l3 (c8 dB (c4 (wR (u5 C (oS "book")) (c5 0)) (c4 (wR (u5 C (oS "present")) (c5 0)) (c4 (c5 1) c7)))) (setAt 2)) [a,l] [some (Wo C a l b s r p),some e.d,none,none]=some (.nx [some (Wo C a l b s r p),some e.d,some (gone b s e).d,none]):=by
  show(l3 _ _ _).bind _=_
  rw[l9 (i4 (m8 (B7 rfl Ib) (m8 (B7 rfl Ep) (m8 rfl rfl))) (nD ok w e)) rfl];rfl
 have s2:uK (l3 (i3 m9 (wR (u5 C (oS "rung")) (c5 0)) (c8 cF (c4 (wR (u5 C (oS "book")) (c5 0)) (c4 (wR (u5 C (oS "present")) (c5 0)) (c4 (c5 1) c7))))) (setAt 3)) [a,l] [some (Wo C a l b s r p),some e.d,some (gone b s e).d,none]=some (.nx [some (Wo C a l b s r p),some e.d,some (gone b s e).d,some (.int (r+yo b s e))]):=by
  show(l3 _ _ _).bind _=_
  rw[l9 (i7 (B7 rfl HL) (i4 (m8 (B7 rfl Ib) (m8 (B7 rfl Ep) (m8 rfl rfl))) (n_ ok w e h)) rfl) rfl];rfl
 have nb:∀x y:OD,uj x=true->uj y=true->∀ob:D,uS 0 [some ob,some e.d,x,y]=true:=fun x y hx hy ob=>by
  show(true&&(uC e.d&&(uj x&&(uj y&&true))))=true
  rw[fT,hx,hy];rfl
 have s3:=OG (C:=C) (a:=a) (l:=l) (b:=b) (s:=s) (r:=r) (p:=p) (ρ:=[some e.d,some (gone b s e).d,some (.int (r+yo b s e))]) (f:=l7 (c4 (c5 1) (c4 (wR (u5 C (oS "present")) (c5 0)) (c4 (wR (u5 C (oS "rung")) (c5 0)) c7)))) (d:=vm s e r) hn hp (gz s e r) (nb (some (gone b s e).d) (some (.int (r+yo b s e))) (cV _) rfl _) (tupS (m8 rfl (m8 (B7 rfl Ep) (m8 (B7 rfl HL) rfl))))
 have hn':n5 (p++[vm s e r])=true:=by
  have:∀q:LD,n5 q=true->n5 (q++[vm s e r])=true:=fun q=>by
   induction q with
   | nil=>intro _;show(uC _&&true)=true;rw[gz];rfl
   | cons x q ih =>
    intro h
    have h':(uC x&&n5 q)=true:=h
    rw[Bool.and_eq_true] at h'
    show(uC x&&n5 (q++_))=true
    rw[h'.1,ih h'.2];rfl
  ~this p hn
 have s4:=Ls (C:=C) (a:=a) (l:=l) (b:=b) (s:=s) (s':=gone b s e) (r:=r) (p:=p++[vm s e r]) (ρ:=[some e.d,some (gone b s e).d,some (.int (r+yo b s e))]) (f:=c5 2) hn' (nb (some (gone b s e).d) (some (.int (r+yo b s e))) (cV _) rfl _) rfl
 have s5:=K9 (C:=C) (a:=a) (l:=l) (b:=b) (s:=gone b s e) (r:=r) (r':=r+yo b s e) (p:=p++[vm s e r]) (ρ:=[some e.d,some (gone b s e).d,some (.int (r+yo b s e))]) (f:=c5 3) hn' (nb (some (gone b s e).d) (some (.int (r+yo b s e))) (cV _) rfl _) rfl
 have g:dt C [a,l] [some (Wo C a l b s r p),some e.d,none,none]=some (.nx [some (Wo C a l b (gone b s e) (r+yo b s e) (p++[vm s e r])),some e.d,some (gone b s e).d,some (.int (r+yo b s e))]):=by
  show(uK _ [a,l] _).bind _=_
  rw[s1,Option.bind_some]
  show(uK _ [a,l] _).bind _=_
  rw[s2,Option.bind_some]
  show(JH _ _ _ _ [a,l] _).bind _=_
  rw[s3,Option.bind_some]
  show(wW _ _ _ _ [a,l] _).bind _=_
  rw[s4,Option.bind_some]
  ~s5
 show(dt C [a,l] [some (Wo C a l b s r p),some e.d,none,none]).bind _=_
 rw[g,Option.bind_some]
 ~if_pos ⟨rfl,rfl⟩
theorem CF{C a l:Nat}{b:Bk}{s:WS}{r:Int}{p:LD}{mn:Str}{G:LD->Option (D×D)}{F:R->Option LD}{ρ:R}{ds:LD}{d ob':D}(h1:F (some (Wo C a l b s r p)::ρ)=some ds)(h2:G (Wo C a l b s r p::ds)=some (d,ob'))(h3:[oS "book",oS "present",oS "rung",oS "past"].contains mn=false)(h4:uS 0 (some (Wo C a l b s r p)::ρ)=true) :
  wU 0 C mn G F [a,l] (some (Wo C a l b s r p)::ρ)=some (d,some ob'::ρ):=by
 show(F _).bind _=_
 rw[h1,Option.bind_some,h2,Option.bind_some]
 ~if_pos ⟨rfl,h3,h4,wS⟩
def eK(C:Nat):MU:=
 (Bh (wU 0 C (oS "happen") (aN C) (c4 (l7 (c4 (kS "down") (c4 (c5 1) c7))) c7)))
def br(C:Nat):LD->Option (D×D):=DE 2 2 0 (eK C)
theorem Ma{C a l:Nat}{b:Bk}{s:WS}{r:Int}{p:LD}(ok:b.Ok)(w:s.Wk b)(x:wL)(hp:p.length<1000)(hn:n5 p=true) :
  br C [Wo C a l b s r p,.str x.x]=some (.non,Wo C a l b (gone b s (.down x)) (r+yo b s (.down x)) (p++[vm s (.down x) r])):=by
 have g:eK C [a,l] [some (Wo C a l b s r p),some (.str x.x)]=some (.nx [some (Wo C a l b (gone b s (.down x)) (r+yo b s (.down x)) (p++[vm s (.down x) r])),some (.str x.x)]):=by
  show(wU _ _ _ _ _ [a,l] _).map _=_
  rw[CF (ds:=[(Ev.down x).d]) rfl (HI ok w (.down x) trivial hp hn) (by decide +kernel) rfl];rfl
 show(eK C [a,l] [some (Wo C a l b s r p),some (.str x.x)]).bind _=_
 rw[g,Option.bind_some]
 ~if_pos ⟨rfl,rfl⟩
def dN(C:Nat):MU:=
 (Bh (wU 0 C (oS "happen") (aN C) (c4 (l7 (c4 (kS "ticks") (c4 (c5 1) c7))) c7)))
def bV(C:Nat):LD->Option (D×D):=DE 2 2 0 (dN C)
theorem KI{C a l:Nat}{b:Bk}{s:WS}{r:Int}{p:LD}(ok:b.Ok)(w:s.Wk b){n:Int}(h:1<=n/\n<259200)(hp:p.length<1000)(hn:n5 p=true) :
  bV C [Wo C a l b s r p,.int n]=some (.non,Wo C a l b (gone b s (.ticks n)) (r+yo b s (.ticks n)) (p++[vm s (.ticks n) r])):=by
 have g:dN C [a,l] [some (Wo C a l b s r p),some (.int n)]=some (.nx [some (Wo C a l b (gone b s (.ticks n)) (r+yo b s (.ticks n)) (p++[vm s (.ticks n) r])),some (.int n)]):=by
  show(wU _ _ _ _ _ [a,l] _).map _=_
  rw[CF (ds:=[(Ev.ticks n).d]) rfl (HI ok w (.ticks n) h hp hn) (by decide +kernel) rfl];rfl
 show(dN C [a,l] [some (Wo C a l b s r p),some (.int n)]).bind _=_
 rw[g,Option.bind_some]
 ~if_pos ⟨rfl,rfl⟩
def gm(C:Nat):MU:=
 (Bh (wU 0 C (oS "happen") (aN C) (c4 (l7 (c4 (kS "up") (c4 (c5 1) c7))) c7)))
def bY(C:Nat):LD->Option (D×D):=DE 2 2 0 (gm C)
theorem P_{C a l:Nat}{b:Bk}{s:WS}{r:Int}{p:LD}(ok:b.Ok)(w:s.Wk b)(x:wL)(hp:p.length<1000)(hn:n5 p=true) :
  bY C [Wo C a l b s r p,.str x.x]=some (.non,Wo C a l b (gone b s (.up x)) (r+yo b s (.up x)) (p++[vm s (.up x) r])):=by
 have g:gm C [a,l] [some (Wo C a l b s r p),some (.str x.x)]=some (.nx [some (Wo C a l b (gone b s (.up x)) (r+yo b s (.up x)) (p++[vm s (.up x) r])),some (.str x.x)]):=by
  show(wU _ _ _ _ _ [a,l] _).map _=_
  rw[CF (ds:=[(Ev.up x).d]) rfl (HI ok w (.up x) trivial hp hn) (by decide +kernel) rfl];rfl
 show(gm C [a,l] [some (Wo C a l b s r p),some (.str x.x)]).bind _=_
 rw[g,Option.bind_some]
 ~if_pos ⟨rfl,rfl⟩
def f_(C:Nat):MU:=
  (vc (CL (k7 vY (i3 i8 (c5 1) (kI 0)) (kS "down"))
  (Dz (wU 0 C (oS "down") (br C) (c4 (i3 i8 (c5 1) (kI 1)) c7)))
  we)
  (vc (CL (k7 vY (i3 i8 (c5 1) (kI 0)) (kS "up"))
  (Dz (wU 0 C (oS "up") (bY C) (c4 (i3 i8 (c5 1) (kI 1)) c7)))
  we)
  (Dz (wU 0 C (oS "ticks") (bV C) (c4 (i3 i8 (c5 1) (kI 1)) c7)))))
def bE(C:Nat):LD->Option (D×D):=DE 2 2 0 (f_ C)
theorem Qb{C a l:Nat}{b:Bk}{s:WS}{r:Int}{p:LD}(ok:b.Ok)(w:s.Wk b)(e:Ev)(h:De e)(hp:p.length<1000)(hn:n5 p=true) :
  bE C [Wo C a l b s r p,e.d]=some (.non,Wo C a l b (gone b s e) (r+yo b s e) (p++[vm s e r])):=by
 have nb:uS 0 [some (Wo C a l b s r p),some e.d]=true:=by show(true&&(uC e.d&&true))=true;rw[fT];rfl
 have g:f_ C [a,l] [some (Wo C a l b s r p),some e.d]=some (.rt .non [some (Wo C a l b (gone b s e) (r+yo b s e) (p++[vm s e r])),some e.d]):=by
  unfold f_
  cases e with
  | down x =>
   show(CL _ _ _ [a,l] _).bind _=_
   have m:=CF (C:=C) (a:=a) (l:=l) (b:=b) (s:=s) (r:=r) (p:=p) (mn:=oS "down") (F:=c4 (i3 i8 (c5 1) (kI 1)) c7) (ρ:=[some (Ev.down x).d]) (ds:=[.str x.x]) (m8 (i7 rfl rfl rfl) rfl) (Ma ok w x hp hn) (by decide +kernel) nb
   have q:CL (k7 vY (i3 i8 (c5 1) (kI 0)) (kS "down")) (Dz (wU 0 C (oS "down") (br C) (c4 (i3 i8 (c5 1) (kI 1)) c7))) we [a,l] [some (Wo C a l b s r p),some (Ev.down x).d]=some (.rt .non [some (Wo C a l b (gone b s (.down x)) (r+yo b s (.down x)) (p++[vm s (.down x) r])),some (Ev.down x).d]):=by
    show(k7 _ _ _ _).bind _=_
    rw[ug (x:=.str (oS "down")) (y:=.str (oS "down")) (b:=true) (i7 rfl rfl rfl) rfl rfl,Option.bind_some,if_pos rfl]
    show(wU _ _ _ _ _ _ _).map _=_
    rw[m];rfl
   rw[q];rfl
  | up x =>
   have m:=CF (C:=C) (a:=a) (l:=l) (b:=b) (s:=s) (r:=r) (p:=p) (mn:=oS "up") (F:=c4 (i3 i8 (c5 1) (kI 1)) c7) (ρ:=[some (Ev.up x).d]) (ds:=[.str x.x]) (m8 (i7 rfl rfl rfl) rfl) (P_ ok w x hp hn) (by decide +kernel) nb
   have q1:CL (k7 vY (i3 i8 (c5 1) (kI 0)) (kS "down")) (Dz (wU 0 C (oS "down") (br C) (c4 (i3 i8 (c5 1) (kI 1)) c7))) we [a,l] [some (Wo C a l b s r p),some (Ev.up x).d]=some (.nx [some (Wo C a l b s r p),some (Ev.up x).d]):=by
    show(k7 _ _ _ _).bind _=_
    rw[ug (x:=.str (oS "up")) (y:=.str (oS "down")) (b:=false) (i7 rfl rfl rfl) rfl rfl];rfl
   have q:CL (k7 vY (i3 i8 (c5 1) (kI 0)) (kS "up")) (Dz (wU 0 C (oS "up") (bY C) (c4 (i3 i8 (c5 1) (kI 1)) c7))) we [a,l] [some (Wo C a l b s r p),some (Ev.up x).d]=some (.rt .non [some (Wo C a l b (gone b s (.up x)) (r+yo b s (.up x)) (p++[vm s (.up x) r])),some (Ev.up x).d]):=by
    show(k7 _ _ _ _).bind _=_
    rw[ug (x:=.str (oS "up")) (y:=.str (oS "up")) (b:=true) (i7 rfl rfl rfl) rfl rfl,Option.bind_some,if_pos rfl]
    show(wU _ _ _ _ _ _ _).map _=_
    rw[m];rfl
   show(CL _ _ _ [a,l] _).bind _=_
   rw[q1,Option.bind_some]
   show(CL _ _ _ [a,l] _).bind _=_
   rw[q];rfl
  | ticks n =>
   have m:=CF (C:=C) (a:=a) (l:=l) (b:=b) (s:=s) (r:=r) (p:=p) (mn:=oS "ticks") (F:=c4 (i3 i8 (c5 1) (kI 1)) c7) (ρ:=[some (Ev.ticks n).d]) (ds:=[.int n]) (m8 (i7 rfl rfl rfl) rfl) (KI ok w h hp hn) (by decide +kernel) nb
   have q1:CL (k7 vY (i3 i8 (c5 1) (kI 0)) (kS "down")) (Dz (wU 0 C (oS "down") (br C) (c4 (i3 i8 (c5 1) (kI 1)) c7))) we [a,l] [some (Wo C a l b s r p),some (Ev.ticks n).d]=some (.nx [some (Wo C a l b s r p),some (Ev.ticks n).d]):=by
    show(k7 _ _ _ _).bind _=_
    rw[ug (x:=.str (oS "ticks")) (y:=.str (oS "down")) (b:=false) (i7 rfl rfl rfl) rfl rfl];rfl
   have q:CL (k7 vY (i3 i8 (c5 1) (kI 0)) (kS "up")) (Dz (wU 0 C (oS "up") (bY C) (c4 (i3 i8 (c5 1) (kI 1)) c7))) we [a,l] [some (Wo C a l b s r p),some (Ev.ticks n).d]=some (.nx [some (Wo C a l b s r p),some (Ev.ticks n).d]):=by
    show(k7 _ _ _ _).bind _=_
    rw[ug (x:=.str (oS "ticks")) (y:=.str (oS "up")) (b:=false) (i7 rfl rfl rfl) rfl rfl];rfl
   show(CL _ _ _ [a,l] _).bind _=_
   rw[q1,Option.bind_some]
   show(CL _ _ _ [a,l] _).bind _=_
   rw[q,Option.bind_some]
   show(wU _ _ _ _ _ _ _).map _=_
   rw[m];rfl
 show(f_ C [a,l] [some (Wo C a l b s r p),some e.d]).bind _=_
 rw[g,Option.bind_some]
 ~if_pos ⟨rfl,rfl⟩
def C9:Nat->Nat->R->Option Out:=(fun c ea=>(l5 (l3 (Eu (c4 (Hl 2 ea (c==0)) (c4 (Hl 2 ea (c==1)) c7))) (setAt 3))
  (l5 (l3 (l7 (c4 (kS "refused") (c4 (wR D4 (kI 1)) c7))) (setAt 1))
  (yY (Bw (wV (Hl 2 ea true)) (k7 vY (c8 CM (c4 (c5 3) (c4 (fun _=>some (.bl true)) c7))) (kI 1)))
  (l3 (l7 (c4 (kS "refused") (c4 (c8 CI (c4 (c5 3) (c4 (fun _=>some (.bl true)) c7))) c7))) (setAt 1))
  uu))))
def ud:Nat->OD:=fun c=>if c<2 then some (.tup [.str (oS "refused"),.int (c:Int)]) else none
theorem C0(c:Nat)(d:D)(h:ud c=some d):c<2/\∀e:Nat,∃ ρ',C9 c e (Mm 4 2 e)=some (.nx ρ')/\c5 1 (ρ'.set 2 none)=some d:=by
 unfold ud at h
 split at h
 ·rename_i hc
  cases h
  &⟨hc,fun e=>?_⟩
  have hc':c=0\/c=1:=by omega
  have hi:∀(b:Bool) (x y:OD),Hl 2 e b [none,x,some (.rf e),y]=some (.bl b):=fun b x y=>if_pos rfl
  rcases hc' with rfl | rfl
  ·~⟨[none,some (.tup [.str (oS "refused"),.int 0]),some (.rf e),some (.lst [.bl true,.bl false])],(k8 (ρ2:=[none,none,some (.rf e),some (.lst [.bl true,.bl false])]) (l9 (JL (m8 (hi true none none) (m8 (hi false none none) rfl))) rfl)).trans ((k8 (ρ2:=[none,some (.tup [.str (oS "refused"),.int (-1)]),some (.rf e),some (.lst [.bl true,.bl false])]) (l9 (tupS (m8 rfl (m8 (B7 (F:=D4) (x:=.int 1) (z:=.int (-1)) rfl rfl) rfl))) rfl)).trans ((zF (NL (B4 (hi true _ _)) (ug (F:=vY) (x:=.int 1) (y:=.int 1) (i4 (F:=CM) (ds:=[.lst [.bl true,.bl false],.bl true]) rfl rfl) rfl rfl))).trans (l9 (d:=.tup [.str (oS "refused"),.int 0]) (tupS (m8 rfl (m8 (i4 (F:=CI) (ds:=[.lst [.bl true,.bl false],.bl true]) rfl rfl) rfl))) rfl))),rfl⟩
  ·~⟨[none,some (.tup [.str (oS "refused"),.int 1]),some (.rf e),some (.lst [.bl false,.bl true])],(k8 (ρ2:=[none,none,some (.rf e),some (.lst [.bl false,.bl true])]) (l9 (JL (m8 (hi false none none) (m8 (hi true none none) rfl))) rfl)).trans ((k8 (ρ2:=[none,some (.tup [.str (oS "refused"),.int (-1)]),some (.rf e),some (.lst [.bl false,.bl true])]) (l9 (tupS (m8 rfl (m8 (B7 (F:=D4) (x:=.int 1) (z:=.int (-1)) rfl rfl) rfl))) rfl)).trans ((zF (NL (B4 (hi true _ _)) (ug (F:=vY) (x:=.int 1) (y:=.int 1) (i4 (F:=CM) (ds:=[.lst [.bl false,.bl true],.bl true]) rfl rfl) rfl rfl))).trans (l9 (d:=.tup [.str (oS "refused"),.int 1]) (tupS (m8 rfl (m8 (i4 (F:=CI) (ds:=[.lst [.bl false,.bl true],.bl true]) rfl rfl) rfl))) rfl))),rfl⟩
 ·cases h
def lG(C:Nat):R->Option Out:=
 (l4 (wR (u5 C (oS "rung")) (c5 0)))
def bS(C:Nat):LD->OD:=via 1 1 (lG C)
def mv(C:Nat):R->Option Out:=
 (l4 (c8 E4 (c4 (xY 0 C (oS "past") (Ek 1 (Gk (wR (u5 C (oS "past")) (c5 0))) (setAt 0) zg (i3 i8 (c5 0) (kI 0)))) c7)))
def bM(C:Nat):LD->OD:=via 1 1 (mv C)
def j9(C:Nat):R->Option Out:=
 (l4 (c8 dC (c4 (wR (u5 C (oS "book")) (c5 0)) (c4 (wR (u5 C (oS "present")) (c5 0)) c7))))
def bW(C:Nat):LD->OD:=via 1 1 (j9 C)
def Ae(b:Bk)(s:WS):D:=.tup [.str (b.modes.getD s.mode default).face.x,.str (Gc (b.modes.getD s.mode default).face s),.bl (decide (0<s.ring))]
def ML(b:Bk):WS->List Ev->LD
 | _,[]=>[]
 | s,e::es=>Ae b (gone b s e)::ML b (gone b s e) es
def QT:Ev->Int
 | .ticks n=>n
 | _=>0
theorem Gh(d:yS){s:WS}(h:0<=s.lm):(deed d s).lm<=s.lm:=by
 cases d<;>simp[deed,zJ]<;>(repeat' split)<;>first | ~Int.le_refl _ | ~h
theorem AL(s:WS){n:Int}(h:0<=n):xX s n<=s.lm+n:=by unfold xX;split<;>omega
theorem G2{b:Bk}{s:WS}(h:0<=s.lm):(turned b s).lm<=s.lm:=by
 unfold turned
 split
 ·~Int.le_refl _
 ·~Gh _ h
theorem J9{b:Bk}{s:WS}(w:s.Wk b)(e:Ev)(he:e.Ok):(gone b s e).lm<=s.lm+QT e:=by
 have h:=w.lm0
 cases e with
 | down x=>show(pushed s x).lm<=s.lm+0;unfold pushed;split<;>simp
 | up x =>
  show(letGo b s x).lm<=s.lm+0
  rw[Int.add_zero]
  unfold letGo
  split
  ·split
   ·split
    ·~Gh _ h
    ·~Int.le_refl _
   ·~Int.le_refl _
  ·~Int.le_refl _
 | ticks n =>
  have hn:1<=n:=he
  show(ticked b s n).lm<=s.lm+n
  unfold ticked
  split
  ·~AL s (by omega)
  ·rename_i t ht
   have tp:=xn ht
   split
   ·~AL s (by omega)
   ·have a1:=AL (behind b s t) (n:=n - t) (by omega)
    have a2:(behind b s t).lm<=(counted b s t).lm:=G2 (w.cnt (n:=t) (by omega)).lm0
    have a3:(counted b s t).lm<=s.lm+t:=AL s (by omega)
    show xX (behind b s t) (n - t)<=_
    omega
theorem cZ{x y:Str}(h1:s9 (.str x)=true)(h2:s9 (.str y)=true):s9 (.str (x++y))=true:=by
 rw[s9] at *
 show(x.cps++y.cps).all _=true
 rw[Array.all_append,h1,h2];rfl
theorem Dy(s:String):(Str.ofString s).cps.all (·<0x110000)=true:=by
 rw[PySem.Str.ofString_eq_toList]
 simp only[List.all_toArray,List.all_eq_true,List.mem_map]
 rintro x ⟨c,_,rfl⟩
 apply decide_eq_true
 show c.val.toNat<0x110000
 have v:c.val.toNat<0xd800\/(0xdfff<c.val.toNat/\c.val.toNat<0x110000):=c.valid
 omega
theorem oq(n:Int):s9 (.str (tx n))=true:=by
 rw[s9]
 ~Dy _
theorem iU(n:Int):s9 (.str (Jr n))=true:=by
 have h:=oq n
 rw[s9] at *
 unfold Jr Li
 split
 ·~h
 ·show(Array.replicate _ 48++(tx n).cps++Array.replicate _ 48).all _=true
  have r:∀k,(Array.replicate k 48).all (fun x=>decide (x<0x110000))=true:=by
   intro k
   rw[Array.all_eq_true]
   intro i hi
   simp
  rw[Array.all_append,Array.all_append,h,r,r];rfl
theorem hZ:s9 (.str colon)=true:=by rw[s9];decide +kernel
theorem oO:s9 (.str (oS ""))=true:=by rw[s9];decide +kernel
theorem tE:s9 (.str NO)=true:=by rw[s9];decide +kernel
theorem rA:s9 (.str Ik)=true:=by rw[s9];decide +kernel
theorem lX(h m:Int):s9 (.str (Ay h m))=true:=cZ (cZ (iU _) hZ) (iU _)
theorem oZ(s:Int):s9 (.str (Fv s))=true:=cZ (cZ (oq _) hZ) (iU _)
theorem pL(f:Face)(s:WS):s9 (.str (Gc f s))=true:=by
 cases f with
 | time=>~cZ (cZ (lX _ _) hZ) (iU _)
 | alarm=>~cZ (lX _ _) (by split;~tE;~oO)
 | laps=>~cZ (oZ _) (by unfold DY;split;~cZ rA (oq _);~oO)
 | count=>~oZ _
theorem qt(f:Face):s9 (.str f.x)=true:=by rw[s9];cases f<;>decide +kernel
theorem pk(b:Bk)(s:WS):s9 (Ae b s)=true:=by
 unfold Ae
 rw[s9,vk,vk,vk,vk,qt,pL];rfl
def jS(C:Nat):R->Option Out:=
 (l4 (wR (u5 C (oS "present")) (c5 0)))
def bH(C:Nat):LD->OD:=via 1 1 (jS C)
def bB(C:Nat):MU:=
  (vc (CL (k7 vY (xY 0 C (oS "past") (c8 xo (c4 (wR (u5 C (oS "past")) (c5 0)) c7))) (kI 0))
  (fun _ _=>none)
  we)
  (vc (G8 1 0 C (oS "past"))
  (vc (wW 0 C (oS "present") (i3 i8 (c5 1) (kI 1)))
  (wW 0 C (oS "rung") (i3 i8 (c5 1) (kI 2))))))
def eQ(C:Nat):LD->Option (D×D):=DE 1 2 0 (bB C)
def u_(C:Nat):List Nat->R->Option (Except Nat MO):=
  (Gq (k7 vY (xY 0 C (oS "past") (c8 xo (c4 (wR (u5 C (oS "past")) (c5 0)) c7))) (kI 0)) (kS "nothing is left that could be taken back") 1
  (vc (G8 1 0 C (oS "past"))
  (vc (wW 0 C (oS "present") (i3 i8 (c5 1) (kI 1)))
  (wW 0 C (oS "rung") (i3 i8 (c5 1) (kI 2))))))
def m6(C:Nat):LD->Option (Except Nat (D×D)):=I9 1 2 0 (u_ C)
def aS(C:Nat):MU:=
  (vc (wW 0 C (oS "book") (c5 1))
  (vc (wW 0 C (oS "present") (c8 bX (c4 (c5 1) c7)))
  (vc (wW 0 C (oS "rung") (kI 0))
  we)))
theorem OY(C a l:Nat)(b:Bk):yj 2 C (oS "past") (aS C) [b.d] a l=some (Wo C a l b i9 0 []):=by
 have n1:=hX b
 have n2:=cV i9
 have hS:AE [a] [a]=true:=by simp[AE]
 have s1:wW 0 C (oS "book") (c5 1) [a] [some (.obj (C+2) a [] []),some b.d]=some (.nx [some (.obj (C+2) a [oS "book"] [b.d]),some b.d]):=if_pos ⟨rfl,n1,by show(true&&(uC b.d&&true))=true;rw[n1];rfl,hS,by decide,rfl,rfl⟩
 have s2:wW 0 C (oS "present") (c8 bX (c4 (c5 1) c7)) [a] [some (.obj (C+2) a [oS "book"] [b.d]),some b.d]=some (.nx [some (.obj (C+2) a [oS "book",oS "present"] [b.d,i9.d]),some b.d]):=by
  show(c8 bX _ _).bind _=_
  rw[i4 rfl (iN _),Option.bind_some]
  ~if_pos ⟨rfl,n2,by show(true&&(uC b.d&&true))=true;rw[n1];rfl,hS,by decide,by show(okN b.d&&true)=true;rw[show okN b.d=uC b.d from rfl,n1];rfl,rfl⟩
 have s3:wW 0 C (oS "rung") (kI 0) [a] [some (.obj (C+2) a [oS "book",oS "present"] [b.d,i9.d]),some b.d]=some (.nx [some (.obj (C+2) a [oS "book",oS "present",oS "rung"] [b.d,i9.d,.int 0]),some b.d]):=
  if_pos ⟨rfl,rfl,by show(true&&(uC b.d&&true))=true;rw[n1];rfl,hS,by decide,by show(okN b.d&&(okN i9.d&&true))=true;rw[show okN b.d=uC b.d from rfl,n1];rfl,rfl⟩
 have g:aS C [a] [some (.obj (C+2) a [] []),some b.d]=some (.nx [some (.obj (C+2) a [oS "book",oS "present",oS "rung"] [b.d,i9.d,.int 0]),some b.d]):=by
  show(wW 0 C (oS "book") (c5 1) [a] _).bind _=_
  rw[s1,Option.bind_some]
  show(wW 0 C (oS "present") _ [a] _).bind _=_
  rw[s2,Option.bind_some]
  show(wW 0 C (oS "rung") _ [a] _).bind _=_
  rw[s3];rfl
 show(aS C [a] [some (.obj (C+2) a [] []),some b.d]).bind _=_
 rw[g,Option.bind_some]
 ~if_pos ⟨rfl,rfl,by show(uC b.d&&(uC i9.d&&(true&&true)))=true;rw[n1,n2];rfl,by show 3<100;decide⟩
def oE:R->Option Out:=
 (l3 (c8 cz (c4 (c8 cM (c4 (c8 aJ (c4 (c5 0) (c4 (kI 0) c7))) c7)) (c4 (i3 vV (c8 aT (c4 (c8 aJ (c4 (c5 0) (c4 (kI 0) c7))) (c4 (kI 77) c7))) (kI 4)) c7))) (setAt 1))
def EO(C:Nat):MU:=
 (Bh (Be 2 (bE C) (c4 (c5 2) (c4 (c5 5) c7))))
def Fp(C:Nat):MU:=
 (uK (l3 (i3 m9 (c5 4) (l7 (c4 (c5 5) c7))) (setAt 4)))
def iZ(C:Nat):MU:=(vc (EO C) (Fp C))
def A2(C:Nat):MU:=
 (uK (l3 (c8 aJ (c4 (c5 0) (c4 (i3 m9 (kI 3) (c5 6)) c7))) (setAt 7)))
def BA(C:Nat):MU:=
  (CL (k7 vY (i3 ui (c5 7) (kI 6)) (kI 0))
  (vc (uK (l3 (i3 i8 (Eu (c4 (l7 (c4 (kS "told") (c4 (fun _=>some .non) c7))) (c4 (l7 (c4 (kS "refused") (c4 (kI 1) c7))) c7))) (c8 OP (c4 (Cf (k7 yg (c5 4) (l7 c7))) c7))) (setAt 8)))
  (vc (JB (zO 0 [2] (zu C (oS "undo") 0 (m6 C) c7) ud) zb (c5 8)
  (uK (l4 (fun _=>some (.bl false))))
  we)
  (uK (l3 (LK (c5 4) Oy (aP (wR D4 (kI 1)))) (setAt 4)))))
  (vc (uK (l3 (c8 cj (c4 (i3 vV (c5 7) (kI 8)) c7)) (setAt 5)))
  (vc (JB (Be 2 (bE C) (c4 (c5 2) (c4 (c5 5) c7))) wB (fun _=>some .non)
  (uK (l4 (fun _=>some (.bl false))))
  we)
  (uK (l3 (i3 m9 (c5 4) (l7 (c4 (c5 5) c7))) (setAt 4))))))
def A9(C:Nat):MU:=
 (uK (l3 (c8 gK (c4 (c5 1) (c4 (c8 bX (c4 (c5 1) c7)) (c4 (c5 4) c7)))) (setAt 9)))
def A3(C:Nat):MU:=
  (uK (yY (Ds (k7 zb (CY C (oS "state") (bH C) (c5 2) c7) (c5 9)) (Ds (k7 zb (CY C (oS "shown") (bW C) (c5 2) c7) (c8 dC (c4 (c5 1) (c4 (c5 9) c7)))) (k7 zb (CY C (oS "row") (bM C) (c5 2) c7) (c5 4))))
  (l4 (fun _=>some (.bl false)))
  uu))
def Bb(C:Nat):MU:=
 (uK (l3 (CY C (oS "rang") (bS C) (c5 2) c7) (setAt 10)))
def Bx(C:Nat):MU:=
 (uK (l3 (Ek 1 (vj (c8 dG (c4 (c5 1) (c4 (c5 4) c7)))) (setAt 0) (k7 vY (i3 i8 (c5 0) (kI 1)) (kS "ring")) (c5 0)) (setAt 11)))
def AV(C:Nat):MU:=
  (uK (yY (Ds (wV (Q5 "bool" (c5 10))) (k7 NF (c5 10) (c8 xo (c4 (c5 11) c7))))
  (l4 (fun _=>some (.bl false)))
  uu))
def jv(C:Nat):MU:=(vc (A2 C) (vc (BA C) (vc (A9 C) (vc (A3 C) (vc (Bb C) (vc (Bx C) (AV C)))))))
def oF(C:Nat):MU:=
 (uK (l3 (l7 c7) (setAt 4)))
def oN(C:Nat):MU:=
  (CL (k7 vY (i3 ui (c8 aJ (c4 (c5 0) (c4 (kI 1) c7))) (kI 3)) (kI 0))
  (Ic (vj (l7 (c4 (l7 (c4 (kS "down") (c4 (kS "a") c7))) (c4 (l7 (c4 (kS "up") (c4 (kS "a") c7))) (c4 (l7 (c4 (kS "ticks") (c4 (kI 70) c7))) c7))))) (setAt 5) (iZ C))
  we)
def oX(C:Nat):MU:=
 (Ic (yn (i3 ui (c8 aJ (c4 (c5 0) (c4 (kI 2) c7))) (kI 15))) (setAt 6) (jv C))
def oz(C:Nat):MU:=
 (uK (l4 (A7 (Cf (k7 yg (CY C (oS "state") (bH C) (c5 3) c7) (c8 bX (c4 (c5 1) c7)))) (A7 (Cf (k7 yg (CY C (oS "row") (bM C) (c5 3) c7) (l7 c7))) (Cf (k7 vY (CY C (oS "rang") (bS C) (c5 3) c7) (kI 0)))))))
def I_(C:Nat):MU:=(vc (oF C) (vc (oN C) (vc (oX C) (oz C))))
def sy(C:Nat):R->Option Out:=
 (l5 oE (Fc 2 (yj 2 C (oS "past") (aS C)) (c4 (c5 1) c7) (NG 3 (yj 2 C (oS "past") (aS C)) (c4 (c5 1) c7) (I_ C))))
def ng(C:Nat):LD->OD:=via 1 12 (sy C)
theorem tY(C:Nat):∀ds d,ng C ds=some d->yc (sy C (AG 12 ds))=some d:=fun _ _ h=>sF h
theorem tP(C:Nat):∀ds d,ng C ds=some d->ds.length=1:=fun _ _ h=>oV h
abbrev DU:=Ev×WS×Int
def xu(x:DU):D:=vm x.2.1 x.1 x.2.2
def Ac(P:List DU):LD:=P.map fun x=>x.1.d
def Wp(C a l:Nat)(b:Bk)(s:WS)(r:Int)(P:List DU):D:=Wo C a l b s r (P.map xu)
theorem Ha(P:List DU):n5 (P.map xu)=true:=cR (fun x=>gz _ _ _) P
theorem Pi(P:List DU)(x:DU):P.map xu++[vm x.2.1 x.1 x.2.2]=(P++[x]).map xu:=by rw[List.map_append];rfl
section
variable{C a l:Nat}{b:Bk}{s:WS}{r:Int}{P:List DU}{ρ:R}{F:R->OD}{d:D}
theorem Ig(hb:uS 0 (some (Wp C a l b s r P)::ρ)=true)(hF:F (some (.obj (C+2) a [oS "book",oS "present",oS "rung",oS "past"] [b.d,s.d,.int r,.fro (P.map xu)])::ρ)=some d)(hd:nof d=true):xY 0 C (oS "past") F (some (Wp C a l b s r P)::ρ)=some d:=by
 show(if _ then _ else none)=_
 rw[if_pos ⟨rfl,hb,Ha P,by show(uC b.d&&(uC s.d&&(true&&(true&&true))))=true;rw[hX,cV];rfl⟩]
 show(F (some (.obj (C+2) a [oS "book",oS "present",oS "rung",oS "past"] [b.d,s.d,.int r,.fro (P.map xu)])::ρ)).bind _=_
 rw[hF,Option.bind_some,if_pos hd]
theorem Jd{q:LD}:u5 C (oS "past") (.obj (C+2) a [oS "book",oS "present",oS "rung",oS "past"] [b.d,s.d,.int r,.fro q])=some (.fro q):=by show(if C+2=C+2 then _ else none)=_;rw[if_pos rfl];rfl
end
theorem M9(e:Ev):nof e.d=true:=by cases e<;>rfl
theorem F_:∀P:List DU,nofs (Ac P)=true
 | []=>rfl
 | x::P=>by show(nof x.1.d&&nofs (Ac P))=true;rw[M9,F_ P];rfl
theorem mK(ρ:R):∀P:List DU,vB (setAt 0) zg (i3 i8 (c5 0) (kI 0)) (P.map xu) (none::ρ)=some (Ac P)
 | []=>rfl
 | x::P=>DX rfl (i7 rfl rfl rfl) (mK ρ P)
section
variable{C a l:Nat}{b:Bk}{s:WS}{r:Int}{P:List DU}
theorem OZ(hP:P.length<=1000):bM C [Wp C a l b s r P]=some (.tup (Ac P)):=by
 have z:1000<=sizeLine:=by decide
 have hl:Ek 1 (Gk (wR (u5 C (oS "past")) (c5 0))) (setAt 0) zg (i3 i8 (c5 0) (kI 0)) [some (.obj (C+2) a [oS "book",oS "present",oS "rung",oS "past"] [b.d,s.d,.int r,.fro (P.map xu)])]=some (.lst (Ac P)):=by
  have q:Gk (wR (u5 C (oS "past")) (c5 0)) [some (.obj (C+2) a [oS "book",oS "present",oS "rung",oS "past"] [b.d,s.d,.int r,.fro (P.map xu)])]=some (P.map xu):=by
   show(wR _ _ _).bind _=_
   rw[B7 rfl Jd];rfl
  unfold Ek
  rw[q,Option.bind_some,if_pos (by rw[List.length_map];omega)]
  ~congrArg (Option.map D.lst) (mK _ P)
 ~k9 (retS (i4 (m8 (Ig (ρ:=[]) rfl hl (F_ P)) rfl) rfl))
theorem J7(w:s.Wk b)(hl:s.lm<1000000000000000000):bW C [Wp C a l b s r P]=some (Ae b s):=k9 (retS (i4 (m8 (B7 rfl Ib) (m8 (B7 rfl Ep) rfl)) (oR w hl)))
theorem HS:bS C [Wp C a l b s r P]=some (.int r):=k9 (retS (B7 rfl HL))
theorem Ga:bH C [Wp C a l b s r P]=some s.d:=k9 (retS (B7 rfl Ep))
theorem EU{m:Str}{G:LD->OD}{ρ:R}{i:Nat}{d:D}(hm:[oS "book",oS "present",oS "rung",oS "past"].contains m=false)(h:c5 i ρ=some (Wp C a l b s r P))(hG:G [Wp C a l b s r P]=some d):CY C m G (c5 i) c7 ρ=some d:=by
 show(c5 i ρ).bind _=_
 rw[h,Option.bind_some]
 show(if C+2=C+2/\_ then G [Wp C a l b s r P] else none)=_
 rw[if_pos ⟨rfl,hm⟩,hG]
theorem LZ(x:DU):eQ C [Wp C a l b s r (P++[x])]=some (.non,Wp C a l b x.2.1 x.2.2 P):=by
 have hn:=Ha (P++[x])
 have ln:xY 0 C (oS "past") (c8 xo (c4 (wR (u5 C (oS "past")) (c5 0)) c7)) [some (Wp C a l b s r (P++[x])),none]=some (.int (((P++[x]).map xu).length:Int)):=Ig (ρ:=[none]) rfl (i4 (m8 (B7 rfl Jd) rfl) rfl) rfl
 have s1:CL (k7 vY (xY 0 C (oS "past") (c8 xo (c4 (wR (u5 C (oS "past")) (c5 0)) c7))) (kI 0)) (fun _ _=>none) we [a,l] [some (Wp C a l b s r (P++[x])),none]=some (.nx [some (Wp C a l b s r (P++[x])),none]):=by
  show(k7 vY _ _ _).bind _=_
  rw[ug (b:=false) ln rfl (by show some ((((P++[x]).map xu).length:Int)==0)=some false;rw[beq_eq_false_iff_ne.mpr (by simp;omega)])];rfl
 have s2:G8 1 0 C (oS "past") [a,l] [some (Wp C a l b s r (P++[x])),none]=some (.nx [some (Wp C a l b s r P),some (xu x)]):=by
  have e1:((P++[x]).map xu).getLast?=some (xu x):=by simp
  have e2:((P++[x]).map xu).dropLast=P.map xu:=by simp
  show(match ((P++[x]).map xu).getLast? with | some d=>(if _ then _ else none) | none=>none)=_
  rw[e1]
  show(if _ then some (MO.nx [some (Wo C a l b s r ((P++[x]).map xu).dropLast),some (xu x)]) else none)=_
  rw[if_pos ⟨rfl,by decide,by show 1<2;decide,rfl,wS,hn,by show(uC b.d&&(uC s.d&&(true&&(true&&true))))=true;rw[hX,cV];rfl,by simp⟩,e2];rfl
 have nb:∀ob:D,uS 0 [some ob,some (xu x)]=true:=fun ob=>by
  show(true&&(uC (xu x)&&true))=true
  rw[show uC (xu x)=true from gz _ _ _];rfl
 have s3:=Ls (C:=C) (a:=a) (l:=l) (b:=b) (s:=s) (s':=x.2.1) (r:=r) (p:=P.map xu) (ρ:=[some (xu x)]) (f:=i3 i8 (c5 1) (kI 1)) (Ha P) (nb _) (i7 rfl rfl rfl)
 have s4:=K9 (C:=C) (a:=a) (l:=l) (b:=b) (s:=x.2.1) (r:=r) (r':=x.2.2) (p:=P.map xu) (ρ:=[some (xu x)]) (f:=i3 i8 (c5 1) (kI 2)) (Ha P) (nb _) (i7 rfl rfl rfl)
 have g:bB C [a,l] [some (Wp C a l b s r (P++[x])),none]=some (.nx [some (Wp C a l b x.2.1 x.2.2 P),some (xu x)]):=by
  show(CL _ _ _ [a,l] _).bind _=_
  rw[s1,Option.bind_some]
  show(G8 _ _ _ _ [a,l] _).bind _=_
  rw[s2,Option.bind_some]
  show(wW _ _ _ _ [a,l] _).bind _=_
  rw[show wW 0 C (oS "present") (i3 i8 (c5 1) (kI 1)) [a,l] [some (Wp C a l b s r P),some (xu x)]=_ from s3,Option.bind_some]
  ~s4
 show(bB C [a,l] [some (Wp C a l b s r (P++[x])),none]).bind _=_
 rw[g,Option.bind_some]
 ~if_pos ⟨rfl,rfl⟩
end
theorem EB{st:D->R->Option R}{u:MU}{S:List Nat}(I:Nat->R->Prop):∀(ds:LD) (k:Nat) (ρ0:R),I k ρ0->(∀i d ρ,ds[i]?=some d->I (k+i) ρ->∃ ρ1 ρ2,st d ρ=some ρ1/\u S ρ1=some (.nx ρ2)/\I (k+i+1) ρ2) ->
  ∃ ρ',DA st u S ds ρ0=some (.nx ρ')/\I (k+ds.length) ρ'
 | [],k,ρ0,h0,_=>⟨ρ0,rfl,h0⟩
 | d::ds,k,ρ0,h0,hs=>by
  !⟨ρ1,ρ2,e1,e2,h2⟩:=hs 0 d ρ0 rfl h0
  !⟨ρ',e,h⟩:=EB I ds (k+1) ρ2 h2 fun i d' ρ hd hI=>by
   have:=hs (i+1) d' ρ hd (by rw[show k+(i+1)=k+1+i by omega];~hI)
   rw[show k+(i+1)+1=k+1+i+1 by omega] at this
   ~this
  &⟨ρ',?_,by rw[List.length_cons,show k+(ds.length+1)=k+1+ds.length by omega];~h⟩
  show(st d ρ0).bind _=_
  rw[e1,Option.bind_some]
  show(u S ρ1).bind _=_
  rw[e2,Option.bind_some]
  ~e
theorem AI{A:List Nat}{o:OD}(h:uj o=true):Ah A o=true:=by
 cases o with
 | none=>rfl
 | some d=>cases d<;>first | ~h | cases h
theorem LQ{A:List Nat}{C a l:Nat}{b:Bk}{s:WS}{r:Int}{P:List DU}(h1:a∉A)(h2:l∉A):Ah A (some (Wp C a l b s r P))=true:=by
 show([a,l].all (fun x=>!A.contains x) && [b.d,s.d,.int r,.obj 0 l [] (P.map xu)].all okN)=true
 rw[P6 (Ha P),Bool.and_true]
 simp[h1,h2]
theorem sX(e:Ev):s9 e.d=true:=by
 cases e with
 | ticks n=>show(s9 (.str (oS "ticks"))&&(true&&true))=true;rw[show s9 (.str (oS "ticks"))=true by rw[s9];decide +kernel];rfl
 | down x=>show(s9 (.str (oS "down"))&&(s9 (.str x.x)&&true))=true;rw[iS,show s9 (.str (oS "down"))=true by rw[s9];decide +kernel];rfl
 | up x=>show(s9 (.str (oS "up"))&&(s9 (.str x.x)&&true))=true;rw[iS,show s9 (.str (oS "up"))=true by rw[s9];decide +kernel];rfl
theorem kT:∀P:List DU,vk (Ac P)=true
 | []=>rfl
 | x::P=>by show(s9 x.1.d&&vk (Ac P))=true;rw[sX,kT P];rfl
theorem lO:∀P:List DU,wa (Ac P)<=1
 | []=>Nat.zero_le _
 | x::P=>by
  show max (xp x.1.d) (wa (Ac P))<=1
  have h1:xp x.1.d<=1:=by cases x.1<;>~Nat.le_refl 1
  have h2:=lO P
  omega
theorem sN(P:List DU):zb (.tup (Ac P)) (.tup (Ac P))=some false:=yP (by show wa _+1<=100;have:=lO P;omega) (by rw[s9];~kT P)
theorem Qx{c:R->Option Bool}{u w:MU}{S:List Nat}{ρ:R}(h:c ρ=some true):CL c u w S ρ=u S ρ:=by show(c ρ).bind _=_;rw[h];rfl
theorem Qt{c:R->Option Bool}{u w:MU}{S:List Nat}{ρ:R}(h:c ρ=some false):CL c u w S ρ=w S ρ:=by show(c ρ).bind _=_;rw[h];rfl
theorem Ry{c:List Nat->R->Option (D×R)}{S:List Nat}{ρ ρ':R}{d:D}(h:c S ρ=some (d,ρ')):Bh c S ρ=some (.nx ρ'):=by show(c S ρ).map _=_;rw[h];rfl
def z7(b:Bk):WS->List Ev->Int
 | _,[]=>0
 | s,e::es=>yo b s e+z7 b (gone b s e) es
def EH(b:Bk):WS->Int->List Ev->List DU
 | _,_,[]=>[]
 | s,r,e::es=>(e,s,r)::EH b (gone b s e) (r+yo b s e) es
def We(C a l:Nat)(b:Bk)(es:List Ev):D:=Wp C a l b (n9 b i9 es) (z7 b i9 es) (EH b i9 0 es)
theorem E3(b:Bk)(s:WS)(es:List Ev)(e:Ev):n9 b s (es++[e])=gone b (n9 b s es) e:=G3 b s es [e]
theorem Em(b:Bk)(e:Ev):∀(es:List Ev) (s:WS),z7 b s (es++[e])=z7 b s es+yo b (n9 b s es) e
 | [],s=>by show yo b s e+0=0+yo b s e;omega
 | x::es,s=>by
  show yo b s x+z7 b (gone b s x) (es++[e])=yo b s x+z7 b (gone b s x) es+yo b (n9 b (gone b s x) es) e
  rw[Em b e es];omega
theorem A0(b:Bk)(e:Ev):∀(es:List Ev) (s:WS) (r:Int),EH b s r (es++[e])=EH b s r es++[(e,n9 b s es,r+z7 b s es)]
 | [],s,r=>by show [(e,s,r)]=[(e,s,r+0)];rw[Int.add_zero]
 | x::es,s,r=>by
  show(x,s,r)::EH b (gone b s x) (r+yo b s x) (es++[e])=(x,s,r)::(EH b (gone b s x) (r+yo b s x) es++[(e,n9 b (gone b s x) es,r+(yo b s x+z7 b (gone b s x) es))])
  rw[A0 b e es,Int.add_assoc]
theorem zw(b:Bk):∀(es:List Ev) (s:WS) (r:Int),Ac (EH b s r es)=es.map Ev.d
 | [],_,_=>rfl
 | e::es,s,r=>congrArg (e.d::·) (zw b es _ _)
theorem Gj(b:Bk)(es:List Ev)(s:WS)(r:Int):(EH b s r es).length=es.length:=by
 have:=congrArg List.length (zw b es s r)
 rw[List.length_map,show(Ac (EH b s r es)).length=(EH b s r es).length from List.length_map ..] at this
 ~this
theorem PU{e:Ev}(h:e.Lt):QT e<=130:=by
 cases e with
 | ticks n=>~h.2
 | _=>show(0:Int)<=130;decide
theorem Om{e:Ev}(h:e.Lt):De e:=by
 cases e with
 | ticks n=>~⟨h.1,by have:n<=130:=h.2;omega⟩
 | _=>trivial
theorem Ed{b:Bk}(ok:b.Ok):∀(es:List Ev) (s:WS),s.Ok b->(∀e∈es,e.Lt)->(n9 b s es).lm<=s.lm+130*es.length
 | [],s,_,_=>by show s.lm<=s.lm+130*0;omega
 | e::es,s,w,h=>by
  have he:=h e (.head _)
  have ih:=Ed ok es (gone b s e) (AD ok w e he.1) fun x hx=>h x (.tail _ hx)
  have:=J9 w.toWk e he.1
  have:=PU he
  rw[List.length_cons]
  show(n9 b (gone b s e) es).lm<=_
  omega
def DR(es:List Ev):Prop:=(∀e∈es,e.Lt)/\es.length<=100
theorem DR.cat{es fs:List Ev}(h1:∀e∈es,e.Lt)(h2:∀e∈fs,e.Lt)(h:es.length+fs.length<=100):DR (es++fs):=
 ⟨fun e he=>(List.mem_append.mp he).elim (h1 e) (h2 e),by rw[List.length_append];~h⟩
section
variable{C a l:Nat}{b:Bk}{es:List Ev}
theorem sA(ok:b.Ok)(h:DR es):(n9 b i9 es).Ok b:=Ea ok (zL ok) fun e he=>(h.1 e he).1
theorem Og(ok:b.Ok)(h:DR es):(n9 b i9 es).lm<1000000000000000000:=by
 have h1:=Ed ok es i9 (zL ok) h.1
 have h2:=h.2
 have h3:i9.lm=0:=rfl
 omega
theorem RA(ok:b.Ok)(h:DR es){e:Ev}(he:e.Lt):bE C [We C a l b es,e.d]=some (.non,We C a l b (es++[e])):=by
 have q:=Qb (C:=C) (a:=a) (l:=l) (r:=z7 b i9 es) (p:=(EH b i9 0 es).map xu) ok (sA ok h).toWk e (Om he) (by rw[List.length_map,Gj];have:=h.2;omega) (Ha _)
 unfold We
 rw[A0,Em,E3,Int.zero_add]
 unfold Wp
 rw[<- Pi]
 ~q
theorem Oa(h:DR es):bM C [We C a l b es]=some (.tup (es.map Ev.d)):=by
 have q:=OZ (C:=C) (a:=a) (l:=l) (b:=b) (s:=n9 b i9 es) (r:=z7 b i9 es) (P:=EH b i9 0 es) (by rw[Gj];have:=h.2;omega)
 rw[zw] at q
 ~q
theorem Nd{A:List Nat}(h1:a∉A)(h2:l∉A):Ah A (some (We C a l b es))=true:=LQ h1 h2
end
theorem mN{u w:MU}{S:List Nat}{ρ ρ':R}(h:u S ρ=some (.nx ρ')):vc u w S ρ=w S ρ':=by show(u S ρ).bind _=_;rw[h];rfl
theorem mP{p:R->Option Out}{S:List Nat}{ρ ρ':R}(h:p ρ=some (.nx ρ')):uK p S ρ=some (.nx ρ'):=by show(p ρ).bind _=_;rw[h];rfl
theorem Ru{p:R->Option Out}{S:List Nat}{ρ:R}{d:D}(h:p ρ=some (.rt d)):uK p S ρ=some (.rt d ρ):=by show(p ρ).bind _=_;rw[h];rfl
theorem K8{it:R->Option LD}{xu:D->R->Option R}{u:MU}{S:List Nat}{ρ:R}{ds:LD}(h1:it ρ=some ds)(h2:n5 ds=true):Ic it xu u S ρ=DA xu u S ds ρ:=by
 unfold Ic
 rw[h1,Option.bind_some,if_pos h2]
theorem KD{xu:D->R->Option R}{u:MU}{S:List Nat}{d:D}{ds:LD}{ρ ρ1 ρ2:R}(h1:xu d ρ=some ρ1)(h2:u S ρ1=some (.nx ρ2)):DA xu u S (d::ds) ρ=DA xu u S ds ρ2:=by
 show(xu d ρ).bind _=_
 rw[h1,Option.bind_some]
 show(u S ρ1).bind _=_
 rw[h2];rfl
section
variable{C a l:Nat}{b:Bk}{j:Nat}{u:MU}{S:List Nat}{T:OD->OD->R}
end
section
variable{C a l:Nat}{b:Bk}{s:WS}{r:Int}{P:List DU}{es:List Ev}{S:List Nat}{ρ:R}
theorem LA:k7 vY (xY 0 C (oS "past") (c8 xo (c4 (wR (u5 C (oS "past")) (c5 0)) c7))) (kI 0) [some (Wp C a l b s r P),none]=some (((P.map xu).length:Int)==0):=ug (Ig (ρ:=[none]) rfl (i4 (m8 (B7 rfl Jd) rfl) rfl) rfl) rfl rfl
theorem OW(hc:k7 vY (xY 0 C (oS "past") (c8 xo (c4 (wR (u5 C (oS "past")) (c5 0)) c7))) (kI 0) ρ=some false):u_ C S ρ=(bB C S ρ).map .ok:=by
 have q:bB C S ρ=_:=mN (Qt hc)
 rw[q]
 show((k7 _ _ _ ρ).bind _:Option (Except Nat MO))=_
 rw[hc];rfl
theorem NW{x:DU}:m6 C [Wp C a l b s r (P++[x])]=some (.ok (.non,Wp C a l b x.2.1 x.2.2 P)):=by
 have q:=LZ (C:=C) (a:=a) (l:=l) (b:=b) (s:=s) (r:=r) (P:=P) x
 have hc:k7 vY (xY 0 C (oS "past") (c8 xo (c4 (wR (u5 C (oS "past")) (c5 0)) c7))) (kI 0) [some (Wp C a l b s r (P++[x])),none]=some false:=LA.trans (congrArg some (beq_eq_false_iff_ne.mpr (by simp;omega)))
 change (bB C [a,l] [some (Wp C a l b s r (P++[x])),none]).bind _=_ at q
 show(u_ C [a,l] [some (Wp C a l b s r (P++[x])),none]).bind _=_
 rw[OW hc]
 cases hg:bB C [a,l] [some (Wp C a l b s r (P++[x])),none] with
 | none=>rw[hg] at q;cases q
 | some o =>
  rw[hg,Option.bind_some] at q
  cases o<;>first | ~congrArg (Option.map Except.ok) q | cases q
theorem NR:m6 C [Wp C a l b s r []]=some (.error 1):=by
 show(u_ C [a,l] [some (Wp C a l b s r []),none]).bind _=_
 have q:u_ C [a,l] [some (Wp C a l b s r []),none]=some (.error 1):=by
  show((k7 _ _ _ _).bind _:Option (Except Nat MO))=_
  rw[LA];rfl
 rw[q];rfl
theorem Rg{e:Ev}:m6 C [We C a l b (es++[e])]=some (.ok (.non,We C a l b es)):=by
 have q:=NW (C:=C) (a:=a) (l:=l) (b:=b) (s:=n9 b i9 (es++[e])) (r:=z7 b i9 (es++[e])) (P:=EH b i9 0 es) (x:=(e,n9 b i9 es,0+z7 b i9 es))
 rw[<- A0] at q
 have z:(0:Int)+z7 b i9 es=z7 b i9 es:=Int.zero_add _
 rw[z] at q
 ~q
theorem Q4:zu C (oS "undo") 0 (m6 C) c7 [some (We C a l b es)]=m6 C [We C a l b es]:=if_pos ⟨rfl,by decide +kernel⟩
theorem Ow{e:Ev}(h:c5 2 ρ=some (We C a l b (es++[e])))(hs:y9 2 [a,l] ρ=true)(hi:AE S [a,l]=true)(hl:2<ρ.length):zO 0 [2] (zu C (oS "undo") 0 (m6 C) c7) ud S ρ=some (.tup [.str uL,.non],ρ.set 2 (some (We C a l b es))):=by
 have q:Cz [2] ρ=some [We C a l b (es++[e])]:=by show(c5 2 ρ).bind _=_;rw[h];rfl
 unfold zO
 rw[q,Option.bind_some]
 show(zu C _ 0 _ c7 [some (We C a l b (es++[e]))]).bind _=_
 rw[Q4,Rg,Option.bind_some]
 ~if_pos ⟨rfl,hs,hi,hl⟩
theorem Pf(h:c5 2 ρ=some (We C a l b [])):zO 0 [2] (zu C (oS "undo") 0 (m6 C) c7) ud S ρ=some (.tup [.str (oS "refused"),.int 1],ρ):=by
 have q:Cz [2] ρ=some [We C a l b []]:=by show(c5 2 ρ).bind _=_;rw[h];rfl
 unfold zO
 rw[q,Option.bind_some]
 show(zu C _ 0 _ c7 [some (We C a l b [])]).bind _=_
 rw[Q4,show m6 C [We C a l b []]=some (.error 1) from NR,Option.bind_some]
 rfl
end
theorem J8:zb (.tup [.str uL,.non]) (.tup [.str uL,.non])=some false:=
 yP (by show 1<=100;decide) (by show(s9 (.str (oS "told"))&&(true&&true))=true;rw[show s9 (.str (oS "told"))=true by rw[s9];decide +kernel];rfl)
theorem KH:yg (.tup [.str (oS "refused"),.int 1]) (.tup [.str (oS "refused"),.int 1])=some true:=
 Ad (by show 1<=100;decide) (by show(s9 (.str (oS "refused"))&&(true&&true))=true;rw[show s9 (.str (oS "refused"))=true by rw[s9];decide +kernel];rfl)
def Lg(e:Ev):Prop:=e.Ok/\CN e
def KO(b:Bk)(s:WS)(k:Int):Ev->List Int
 | .ticks n=>(y8 b s n).map (k+·)
 | _=>[]
def KB(b:Bk):WS->Int->List Ev->List Int
 | _,_,[]=>[]
 | s,k,e::es=>KO b s k e++KB b (gone b s e) (k+Jv e) es
theorem JD(b:Bk)(s:WS)(k:Int)(e:Ev):((KO b s k e).length:Int)=yo b s e:=by
 cases e with
 | ticks n=>show(((y8 b s n).map _).length:Int)=_;rw[List.length_map];rfl
 | _=>rfl
def Gm(p:Hx):Bool:=decide (p.2=ye)
def wc(l:List Hx):List Int:=(l.filter Gm).map (·.1)
theorem Ez(l m:List Hx):wc (l++m)=wc l++wc m:=by unfold wc;rw[List.filter_append,List.map_append]
theorem x9(k j:Int):∀l:List Int,wc ((EI j l).map fun p=>(k+p.1,p.2))=l.map fun i=>k+(j+i)
 | []=>rfl
 | i::l=>by
  have ih:=x9 k j l
  show wc ((k+(j+i),ye)::(EI j l).map fun p=>(k+p.1,p.2))=_
  unfold wc at ih ⊢
  rw[List.filter_cons,if_pos (show Gm (k+(j+i),ye)=true from decide_eq_true rfl),List.map_cons,ih];rfl
theorem Gs{p:Hx}(h:p.2≠ye)(l:List Hx):wc (p::l)=wc l:=by
 unfold wc
 rw[List.filter_cons,if_neg (by show ¬ decide _=true;rw[decide_eq_false h];decide)]
theorem M7:oS "back" ≠ ye:=by decide +kernel
theorem LG(x:wL):x.X≠ye:=by cases x<;>decide +kernel
theorem M6(x:wL):x.x≠ye:=by cases x<;>decide +kernel
theorem Np(s:WS):yl s≠ye:=by
 unfold yl
 cases s.held with
 | none=>~M7
 | some p=>~LG p.1
theorem HD(b:Bk)(s:WS)(k:Int)(e:Ev):wc ((Jt b s e).map fun p=>(k+p.1,p.2))=KO b s k e:=by
 cases e with
 | down x=>rfl
 | up x =>
  show wc ((if GQ s x then [((0:Int),x.x)] else []).map _)=[]
  split
  ·~Gs (M6 x) []
  ·rfl
 | ticks n =>
  have z:∀l:List Int,(l.map fun i=>k+(0+i))=l.map (k+·):=fun l=>List.map_congr_left fun i _=>by rw[Int.zero_add]
  show wc ((ED b s n).map _)=(y8 b s n).map (k+·)
  unfold ED y8
  cases ht:t6 b s with
  | none=>dsimp only;rw[x9,z]
  | some t =>
   dsimp only
   split
   ·rw[x9,z]
   ·rw[List.map_append,List.map_cons,Ez,Gs (p:=(k+t,yl s)) (Np s),x9,x9,z,List.map_append,List.map_map];rfl
theorem Ct(b:Bk):∀(es:List Ev) (s:WS) (k:Int),wc (Eg b s k es)=KB b s k es
 | [],_,_=>rfl
 | e::es,s,k=>by
  show wc (_++_)=_
  rw[Ez,HD,Ct b es];rfl
theorem Oo{st:D->R->Option R}{c:R->Option Bool}{e:R->OD}{ρ ρ1:R}{d x:D}{ds xs:LD}{b:Bool}(h1:st d ρ=some ρ1)(hc:c ρ1=some b)(h2:e ρ1=some x)(h3:vB st c e ds ρ=some xs):vB st c e (d::ds) ρ=some (if b then x::xs else xs):=by cases b<;>simp[vB,h1,hc,h2,h3]
theorem IA(b:Bk):∀(es:List Ev) (s:WS) (k:Int),(∀e∈es,Lg e)->(Eg b s k es).length<=9*es.length
 | [],_,_,_=>Nat.le_refl _
 | e::es,s,k,h=>by
  have h1:=Du b s (h e (.head _)).2
  have h2:=IA b es (gone b s e) (k+Jv e) fun x hx=>h x (.tail _ hx)
  show((Jt b s e).map (fun p=>(k+p.1,p.2))++Eg b (gone b s e) (k+Jv e) es).length<=_
  rw[List.length_append,List.length_map,List.length_cons];omega
theorem IZ(b:Bk):∀(es:List Ev) (s:WS) (k:Int),((KB b s k es).length:Int)=z7 b s es
 | [],_,_=>rfl
 | e::es,s,k=>by
  show((KO b s k e++KB b (gone b s e) (k+Jv e) es).length:Int)=yo b s e+z7 b (gone b s e) es
  rw[List.length_append,Int.natCast_add,JD,IZ b es]
theorem kt(r:R):∀l:List Hx,vB (setAt 0) (k7 vY (i3 i8 (c5 0) (kI 1)) (kS "ring")) (c5 0) (l.map uH) (none::r)=some ((l.filter Gm).map uH)
 | []=>rfl
 | p::l=>by
  have ih:=kt r l
  have e:vY (.str p.2) (.str (oS "ring"))=some (Gm p):=by
   show some (p.2==ye)=some (decide _)
   by_cases h:p.2=ye
   ·rw[decide_eq_true h,h,beq_self_eq_true]
   ·rw[decide_eq_false h,beq_eq_false_iff_ne.mpr h]
  have c:k7 vY (i3 i8 (c5 0) (kI 1)) (kS "ring") (some (uH p)::r)=some (Gm p):=ug (x:=.str p.2) (i7 rfl rfl rfl) rfl e
  &(Oo (d:=uH p) (ρ1:=some (uH p)::r) rfl c (x:=uH p) rfl ih).trans ?_
  rw[List.filter_cons]
  cases Gm p<;>rfl
theorem IR{e:Ev}(h:e.Lt):Lg e:=by
 cases e with
 | ticks n=>~⟨h.1,h.1,by have:n<=130:=h.2;omega⟩
 | _=>~⟨trivial,trivial⟩
theorem Ki(xs:LD)(x:D):OJ (.tup (xs++[x])) none (some (-1))=some (.tup xs):=by
 show some (D.tup (cutD (xs++[x]) none (some (-1))))=_
 unfold cutD GF
 dsimp only
 rw[if_pos (by decide),List.length_append,show((-1:Int)+((xs.length+[x].length:Nat):Int)).toNat=xs.length by show((-1:Int)+((xs.length+1:Nat):Int)).toNat=_;omega]
 simp
theorem IV(es:List Ev):vk (es.map Ev.d)=true/\wa (es.map Ev.d)<=1:=by
 have h1:=kT (EH ⟨1,0,[]⟩ i9 0 es)
 have h2:=lO (EH ⟨1,0,[]⟩ i9 0 es)
 rw[zw] at h1 h2
 ~⟨h1,h2⟩
theorem la(es:List Ev):yg (.tup (es.map Ev.d)) (.tup [])=some es.isEmpty:=by
 unfold yg
 rw[if_pos ⟨by show wa (es.map Ev.d)+1<=100;have:=(IV es).2;omega,by rw[s9];~(IV es).1,rfl⟩]
 cases es<;>rfl
theorem L1(row es:List Ev)(h:row.length+es.length<=1000):m9 (.tup (row.map Ev.d)) (.tup (es.map Ev.d))=some (.tup ((row++es).map Ev.d)):=by
 have z:1000<=sizeLine:=by decide
 show(if (row.map Ev.d).length+(es.map Ev.d).length<=sizeLine then some (D.tup (row.map Ev.d++es.map Ev.d)) else none)=_
 rw[if_pos (by rw[List.length_map,List.length_map];omega),List.map_append]
theorem HF(b:Bk)(s:WS):zb (Ae b s) (Ae b s)=some false:=yP (by show 1<=100;decide) (pk b s)
abbrev wz(Sc:D)(b:Bk)(w2 w3:OD)(es:List Ev)(o5 o6 o7 o8 o9 o10 o11:OD):R:=[some Sc,some b.d,w2,w3,some (.tup (es.map Ev.d)),o5,o6,o7,o8,o9,o10,o11]
section
variable{C a l:Nat}{S A:List Nat}{Sc rw:D}{b:Bk}{w2 w3 o5 o6 o7 o8 o9 o10 o11:OD}{es:List Ev}
theorem Pe(hS:uC Sc=true)(h3:Ah A w3=true)(h:[o5,o6,o7,o8,o9,o10,o11].all uj=true):y9 2 A (wz Sc b w2 w3 es o5 o6 o7 o8 o9 o10 o11)=true:=by
 &List.all_eq_true.mpr fun x hx=>?_
 have hx':x=some Sc\/x=some b.d\/x=none\/x=w3\/x=some (.tup (es.map Ev.d))\/x ∈ [o5,o6,o7,o8,o9,o10,o11]:=by simpa [wz,or_assoc] using hx
 rcases hx' with rfl | rfl | rfl | rfl | rfl | hx
 ·~AI hS
 ·~AI (o:=some b.d) (hX b)
 ·rfl
 ·~h3
 ·~AI (o:=some (.tup (es.map Ev.d))) (cR fT es)
 ·~AI (List.all_eq_true.mp h x hx)
theorem OO{W3:OD}(ok:b.Ok)(hS:uC Sc=true)(h3:Ah [a,l] W3=true)(i2:AE S [a,l]=true)(h:DR es){e:Ev}(he:e.Lt)(hn:[some e.d,o6,o7,o8,o9,o10,o11].all uj=true) :
  Be 2 (bE C) (c4 (c5 2) (c4 (c5 5) c7)) S (wz Sc b (some (We C a l b es)) W3 es (some e.d) o6 o7 o8 o9 o10 o11)=some (.non,wz Sc b (some (We C a l b (es++[e]))) W3 es (some e.d) o6 o7 o8 o9 o10 o11):=by
 show(bE C [We C a l b es,e.d]).bind _=_
 rw[RA ok h he,Option.bind_some]
 ~if_pos ⟨rfl,Pe hS h3 hn,i2⟩
theorem Lx(h:DR es)(e:Ev)(W:OD):l3 (i3 m9 (c5 4) (l7 (c4 (c5 5) c7))) (setAt 4) (wz Sc b W w3 es (some e.d) o6 o7 o8 o9 o10 o11)=some (.nx (wz Sc b W w3 (es++[e]) (some e.d) o6 o7 o8 o9 o10 o11)):=
 l9 (i7 (x:=.tup (es.map Ev.d)) (y:=.tup ([e].map Ev.d)) rfl rfl (L1 es [e] (by have:=h.2;show _+1<=1000;omega))) rfl
theorem Mx{W3:OD}(ok:b.Ok)(hS:uC Sc=true)(h3:Ah [a,l] W3=true)(i2:AE S [a,l]=true)(h:DR es){e:Ev}(he:e.Lt)(hn:[o6,o7,o8,o9,o10,o11].all uj=true) :
  iZ C S (wz Sc b (some (We C a l b es)) W3 es (some e.d) o6 o7 o8 o9 o10 o11)=some (.nx (wz Sc b (some (We C a l b (es++[e]))) W3 (es++[e]) (some e.d) o6 o7 o8 o9 o10 o11)):=by
 have hn':[some e.d,o6,o7,o8,o9,o10,o11].all uj=true:=by
  show(uC e.d && [o6,o7,o8,o9,o10,o11].all uj)=true
  rw[fT,hn];rfl
 ~(mN (Ry (OO ok hS h3 i2 h he hn'))).trans (mP (Lx h e _))
theorem K7{W3:OD}(ok:b.Ok)(hS:uC Sc=true)(h3:Ah [a,l] W3=true)(i2:AE S [a,l]=true)(hn:[o6,o7,o8,o9,o10,o11].all uj=true):∀(xs es:List Ev) (x:OD),(∀e∈xs,e.Lt)->(∀e∈es,e.Lt)->es.length+xs.length<=100->uj x=true ->
  ∃x',uj x'=true/\DA (setAt 5) (iZ C) S (xs.map Ev.d) (wz Sc b (some (We C a l b es)) W3 es x o6 o7 o8 o9 o10 o11)=some (.nx (wz Sc b (some (We C a l b (es++xs))) W3 (es++xs) x' o6 o7 o8 o9 o10 o11))
 | [],es,x,_,_,_,hx=>⟨x,hx,by rw[List.append_nil];rfl⟩
 | e::xs,es,x,h1,h2,hl,_=>by
  rw[List.length_cons] at hl
  have he:=h1 e (.head _)
  !⟨x',hx',ih⟩:=K7 ok hS h3 i2 hn xs (es++[e]) (some e.d) (fun y hy=>h1 y (.tail _ hy)) (DR.cat h2 (fun y hy=>by rw[List.mem_singleton.mp hy];~he) (by show es.length+1<=100;omega)).1 (by rw[List.length_append];show es.length+1+_<=100;omega) (fT e)
  &⟨x',hx',(KD rfl (Mx ok hS h3 i2 ⟨h2,by omega⟩ he hn)).trans (ih.trans ?_)⟩
  rw[List.append_assoc];rfl
theorem Mb{W3:OD}{m:Int}(ok:b.Ok)(hS:uC Sc=true)(h3:Ah [a,l] W3=true)(i2:AE S [a,l]=true)(h:DR es)(hl:es.length<100)(hn:[o5,o6,o8,o9,o10,o11].all uj=true) :
  ∃(fs:List Ev) (p5 p8:OD),DR fs/\fs.length<=es.length+1/\uj p5=true/\uj p8=true/\BA C S (wz Sc b (some (We C a l b es)) W3 es o5 o6 (some (.int m)) o8 o9 o10 o11)=some (.nx (wz Sc b (some (We C a l b fs)) W3 fs p5 o6 (some (.int m)) p8 o9 o10 o11)):=by
 have hn':(uj o5&&(uj o6&&(uj o8&&(uj o9&&(uj o10&&(uj o11&&true))))))=true:=hn
 simp only[Bool.and_eq_true] at hn'
 have q:∀x5 x8:OD,uj x5=true->uj x8=true->[x5,o6,some (.int m),x8,o9,o10,o11].all uj=true:=fun x5 x8 h5 h8=>by
  show(uj x5&&(uj o6&&(true&&(uj x8&&(uj o9&&(uj o10&&(uj o11&&true)))))))=true
  rw[h5,hn'.2.1,h8,hn'.2.2.2.1,hn'.2.2.2.2.1,hn'.2.2.2.2.2.1];rfl
 by_cases hm:m%6=0
 ·have hc:k7 vY (i3 ui (c5 7) (kI 6)) (kI 0) (wz Sc b (some (We C a l b es)) W3 es o5 o6 (some (.int m)) o8 o9 o10 o11)=some true:=ug (i7 rfl rfl (modS (by decide))) rfl (by show some (m%6==0)=_;rw[hm];rfl)
  rcases List.eq_nil_or_concat es with rfl | ⟨fs,e,rfl⟩
  ·&⟨[],o5,some (.tup [.str (oS "refused"),.int 1]),h,Nat.zero_le _,hn'.1,rfl,(Qx hc).trans ?_⟩
   &(mN (mP (l9 (i7 rfl (i4 (m8 (FX (ug rfl (tupS rfl) (la []))) rfl) rfl) rfl) rfl))).trans ?_
   &(mN (ρ':=wz Sc b (some (We C a l b [])) W3 [] o5 o6 (some (.int m)) (some (.tup [.str (oS "refused"),.int 1])) o9 o10 o11) ?_).trans (mP (l9 (Dn (a:=none) (b:=some (-1)) rfl rfl (by show(wR _ _ _).bind _=_;rw[B7 (F:=D4) (x:=.int 1) (z:=.int (-1)) rfl rfl];rfl) rfl) rfl))
   show(zO _ _ _ _ S _).bind _=_
   rw[Pf (C:=C) (a:=a) (l:=l) (b:=b) rfl,Option.bind_some]
   show(zb (.tup [.str (oS "refused"),.int 1]) (.tup [.str (oS "refused"),.int 1])).bind _=_
   rw[show zb (.tup [.str (oS "refused"),.int 1]) (.tup [.str (oS "refused"),.int 1])=some false by show(yg _ _).map _=_;rw[KH];rfl];rfl
  ·rw[List.concat_eq_append] at *
   have hfs:DR fs:=⟨fun x hx=>h.1 x (List.mem_append_left _ hx),by have:=h.2;rw[List.length_append] at this;omega⟩
   &⟨fs,o5,some (.tup [.str uL,.non]),hfs,by rw[List.length_append];omega,hn'.1,rfl,(Qx hc).trans ?_⟩
   &(mN (mP (l9 (i7 rfl (i4 (m8 (FX (ug rfl (tupS rfl) (la _))) rfl) rfl) (by rw[show(fs++[e]).isEmpty=false by cases fs<;>rfl];rfl)) rfl))).trans ?_
   &(mN (ρ':=wz Sc b (some (We C a l b fs)) W3 (fs++[e]) o5 o6 (some (.int m)) (some (.tup [.str uL,.non])) o9 o10 o11) ?_).trans (mP (l9 (Dn (a:=none) (b:=some (-1)) rfl rfl (by show(wR _ _ _).bind _=_;rw[B7 (F:=D4) (x:=.int 1) (z:=.int (-1)) rfl rfl];rfl) (by rw[List.map_append];~Ki _ _)) rfl))
   show(zO 0 [2] (zu C (oS "undo") 0 (m6 C) c7) ud S (wz Sc b (some (We C a l b (fs++[e]))) W3 (fs++[e]) o5 o6 (some (.int m)) (some (.tup [.str uL,.non])) o9 o10 o11)).bind _=_
   rw[Ow (ρ:=wz Sc b (some (We C a l b (fs++[e]))) W3 (fs++[e]) o5 o6 (some (.int m)) (some (.tup [.str uL,.non])) o9 o10 o11) (C:=C) (a:=a) (l:=l) (b:=b) (es:=fs) (e:=e) rfl (Pe hS h3 (q _ _ hn'.1 rfl)) i2 (by show 2<12;decide),Option.bind_some]
   show(zb (.tup [.str uL,.non]) (.tup [.str uL,.non])).bind _=_
   rw[J8];rfl
 ·have hc:k7 vY (i3 ui (c5 7) (kI 6)) (kI 0) (wz Sc b (some (We C a l b es)) W3 es o5 o6 (some (.int m)) o8 o9 o10 o11)=some false:=ug (i7 rfl rfl (modS (by decide))) rfl (by show some (m%6==0)=_;rw[beq_eq_false_iff_ne.mpr hm])
  !⟨e,ee,he⟩:=Fu (m / 8)
  &⟨es++[e],some e.d,o8,DR.cat h.1 (fun y hy=>by rw[List.mem_singleton.mp hy];~he) (by show es.length+1<=100;omega),by rw[List.length_append];~Nat.le_refl _,fT e,hn'.2.2.1,(Qt hc).trans ?_⟩
  &(mN (mP (l9 (i4 (m8 (i7 rfl rfl rfl) rfl) ee) rfl))).trans ?_
  &(mN (ρ':=wz Sc b (some (We C a l b (es++[e]))) W3 es (some e.d) o6 (some (.int m)) o8 o9 o10 o11) ?_).trans (mP (Lx h e _))
  show(Be 2 (bE C) (c4 (c5 2) (c4 (c5 5) c7)) S (wz Sc b (some (We C a l b es)) W3 es (some e.d) o6 (some (.int m)) o8 o9 o10 o11)).bind _=_
  rw[OO ok hS h3 i2 h he (q _ _ (fT e) hn'.2.2.1)];rfl
theorem Mn{W3:OD}{i:Int}(ok:b.Ok)(hS:uC Sc=true)(hi:0<=i)(hmix:∀i:Int,0<=i->∃m,aJ [Sc,.int i]=some (.int m)/\0<=m)(h3:Ah [a,l] W3=true)(i2:AE S [a,l]=true)(h:DR es)(hl:es.length<100)(hn:[o5,o7,o8,o9,o10,o11].all uj=true) :
  ∃(fs:List Ev) (p5 p7 p8 p9 p10 p11:OD),DR fs/\fs.length<=es.length+1/\[p5,p7,p8,p9,p10,p11].all uj=true/\jv C S (wz Sc b (some (We C a l b es)) W3 es o5 (some (.int i)) o7 o8 o9 o10 o11)=some (.nx (wz Sc b (some (We C a l b fs)) W3 fs p5 (some (.int i)) p7 p8 p9 p10 p11)):=by
 have hn':(uj o5&&(uj o7&&(uj o8&&(uj o9&&(uj o10&&(uj o11&&true))))))=true:=hn
 simp only[Bool.and_eq_true] at hn'
 !⟨m,em,_⟩:=hmix (3+i) (by omega)
 have s1:A2 C S (wz Sc b (some (We C a l b es)) W3 es o5 (some (.int i)) o7 o8 o9 o10 o11)=some (.nx (wz Sc b (some (We C a l b es)) W3 es o5 (some (.int i)) (some (.int m)) o8 o9 o10 o11)):=mP (l9 (i4 (m8 rfl (m8 (i7 rfl rfl rfl) rfl)) em) rfl)
 !⟨fs,p5,p8,hf,hfl,h5,h8,s2⟩:=Mb (C:=C) (S:=S) (a:=a) (l:=l) (Sc:=Sc) (W3:=W3) (m:=m) (o5:=o5) (o6:=some (.int i)) (o8:=o8) (o9:=o9) (o10:=o10) (o11:=o11) ok hS h3 i2 h hl (by
  show(uj o5&&(true&&(uj o8&&(uj o9&&(uj o10&&(uj o11&&true))))))=true
  rw[hn'.1,hn'.2.2.1,hn'.2.2.2.1,hn'.2.2.2.2.1,hn'.2.2.2.2.2.1];rfl)
 have oka:=sA ok hf
 have lma:=Og ok hf
 have ea:=rM ok (zL ok) fs fun e he=>(hf.1 e he).1
 have es':=ss ok fs (fun e he=>IR (hf.1 e he)) hf.2
 have hs:=IA b fs i9 0 fun e he=>IR (hf.1 e he)
 have ho:=congrArg List.length (Ct b fs i9 0)
 have hg:=IZ b fs i9 0
 generalize hst:Eg b i9 0 fs=st at *
 have s3:A9 C S (wz Sc b (some (We C a l b fs)) W3 fs p5 (some (.int i)) (some (.int m)) p8 o9 o10 o11)=some (.nx (wz Sc b (some (We C a l b fs)) W3 fs p5 (some (.int i)) (some (.int m)) p8 (some (n9 b i9 fs).d) o10 o11)):=mP (l9 (i4 (m8 rfl (m8 (i4 rfl (iN _)) (m8 rfl rfl))) ea) rfl)
 have s4:A3 C S (wz Sc b (some (We C a l b fs)) W3 fs p5 (some (.int i)) (some (.int m)) p8 (some (n9 b i9 fs).d) o10 o11)=some (.nx (wz Sc b (some (We C a l b fs)) W3 fs p5 (some (.int i)) (some (.int m)) p8 (some (n9 b i9 fs).d) o10 o11)):=
  mP ((yT (NJ (ug (EU (m:=oS "state") (by decide +kernel) rfl Ga) rfl (O_ _)) (NJ (ug (EU (m:=oS "shown") (by decide +kernel) rfl (J7 oka.toWk lma)) (i4 rfl (oR oka.toWk lma)) (HF b _)) (ug (EU (m:=oS "row") (by decide +kernel) rfl (Oa hf)) rfl (by have:=sN (EH b i9 0 fs);rw[zw] at this;~this))))).trans rfl)
 have s5:Bb C S (wz Sc b (some (We C a l b fs)) W3 fs p5 (some (.int i)) (some (.int m)) p8 (some (n9 b i9 fs).d) o10 o11)=some (.nx (wz Sc b (some (We C a l b fs)) W3 fs p5 (some (.int i)) (some (.int m)) p8 (some (n9 b i9 fs).d) (some (.int (z7 b i9 fs))) o11)):=mP (l9 (EU (m:=oS "rang") (by decide +kernel) rfl HS) rfl)
 have lc:Ek 1 (vj (c8 dG (c4 (c5 1) (c4 (c5 4) c7)))) (setAt 0) (k7 vY (i3 i8 (c5 0) (kI 1)) (kS "ring")) (c5 0) (wz Sc b (some (We C a l b fs)) W3 fs p5 (some (.int i)) (some (.int m)) p8 (some (n9 b i9 fs).d) (some (.int (z7 b i9 fs))) o11)=some (.lst ((st.filter Gm).map uH)):=by
  have z:1000<=sizeLine:=by decide
  have q:vj (c8 dG (c4 (c5 1) (c4 (c5 4) c7))) (wz Sc b (some (We C a l b fs)) W3 fs p5 (some (.int i)) (some (.int m)) p8 (some (n9 b i9 fs).d) (some (.int (z7 b i9 fs))) o11)=some (st.map uH):=by
   show(c8 dG _ _).bind _=_
   rw[i4 rfl es'];rfl
  unfold Ek
  rw[q,Option.bind_some,if_pos (by rw[List.length_map];have:=hf.2;omega)]
  ~congrArg (Option.map D.lst) (kt _ st)
 have s6:Bx C S (wz Sc b (some (We C a l b fs)) W3 fs p5 (some (.int i)) (some (.int m)) p8 (some (n9 b i9 fs).d) (some (.int (z7 b i9 fs))) o11)=some (.nx (wz Sc b (some (We C a l b fs)) W3 fs p5 (some (.int i)) (some (.int m)) p8 (some (n9 b i9 fs).d) (some (.int (z7 b i9 fs))) (some (.lst ((st.filter Gm).map uH))))):=mP (l9 lc rfl)
 have hlen:(((st.filter Gm).map uH).length:Int)=z7 b i9 fs:=by
  rw[List.length_map,<- hg,<- ho]
  unfold wc
  rw[List.length_map]
 have s7:AV C S (wz Sc b (some (We C a l b fs)) W3 fs p5 (some (.int i)) (some (.int m)) p8 (some (n9 b i9 fs).d) (some (.int (z7 b i9 fs))) (some (.lst ((st.filter Gm).map uH))))=some (.nx (wz Sc b (some (We C a l b fs)) W3 fs p5 (some (.int i)) (some (.int m)) p8 (some (n9 b i9 fs).d) (some (.int (z7 b i9 fs))) (some (.lst ((st.filter Gm).map uH))))):=
  mP ((yT (NJ (B4 (b:=false) rfl) (ug (F:=NF) (x:=.int (z7 b i9 fs)) (y:=.int (((st.filter Gm).map uH).length:Int)) rfl (i4 (m8 rfl rfl) rfl) (by rw[hlen];show some (!(z7 b i9 fs==z7 b i9 fs))=_;simp)))).trans rfl)
 &⟨fs,p5,some (.int m),p8,some (n9 b i9 fs).d,some (.int (z7 b i9 fs)),some (.lst ((st.filter Gm).map uH)),hf,hfl,?_,(mN s1).trans ((mN s2).trans ((mN s3).trans ((mN s4).trans ((mN s5).trans ((mN s6).trans s7)))))⟩
 show(uj p5&&(true&&(uj p8&&(uC (n9 b i9 fs).d&&(true&&(n5 ((st.filter Gm).map uH)&&true))))))=true
 rw[h5,h8,cV,cR (fun _=>rfl) _];rfl
end
theorem JV(C:Nat)(ns:List Int):ng C [.fro (ns.map .int)]=some (.bl true):=by
 !⟨n0,e0,_⟩:=xF ns 0 (by decide)
 !⟨n1,e1,_⟩:=xF ns 1 (by decide)
 !⟨n2,e2,hn2⟩:=xF ns 2 (by decide)
 have hmix:∀i:Int,0<=i->∃m,aJ [.fro (ns.map .int),.int i]=some (.int m)/\0<=m:=xF ns
 !⟨bd,eb,hb,_⟩:=pM n0
 !⟨b0,rfl,ok0⟩:=sh hb
 have hS:uC (.fro (ns.map D.int))=true:=cR (fun _=>rfl) ns
 generalize hSc:D.fro (ns.map .int)=Sc at *
 have ok:=IJ ok0 (xI n0 77 / 4)
 have ey:=rW ok0 (xI n0 77 / 4)
 generalize A_ b0 (xI n0 77 / 4)=b at *
 have s1:oE (AG 12 [Sc])=some (.nx (AG 12 [Sc,b.d])):=l9 (i4 (m8 (i4 (m8 (i4 rfl e0) rfl) eb) (m8 (i7 (i4 (m8 (i4 rfl e0) (m8 rfl rfl)) (zh n0 77)) rfl rfl) rfl)) ey) rfl
 &k9 ((k8 s1).trans ?_)
 &KN (ds:=[b.d]) (r:=.bl true) rfl (by show 2<12;decide) fun a l hal=>⟨We C a l b [],[],OY C a l b,?_⟩
 &Ml (ds:=[b.d]) (r:=.bl true) rfl (by show 3<12;decide) fun a' l' hal' ha' hl'=>?_
 have i2:AE [a',l',a,l] [a,l]=true:=by simp[AE]
 have h3:Ah [a,l] (some (We C a' l' b []))=true:=Nd ha' hl'
 generalize [a',l',a,l]=S at *
 have s4:oF C S [some Sc,some b.d,some (We C a l b []),some (We C a' l' b []),none,none,none,none,none,none,none,none]=some (.nx (wz Sc b (some (We C a l b [])) (some (We C a' l' b [])) [] none none none none none none none)):=mP (l9 (tupS rfl) rfl)
 have lt3:∀e ∈ [Ev.down .a,Ev.up .a,Ev.ticks 70],e.Lt:=fun e he=>by
  simp only[List.mem_cons,List.not_mem_nil,or_false] at he
  rcases he with rfl | rfl | rfl
  ·~⟨trivial,trivial⟩
  ·~⟨trivial,trivial⟩
  ·~⟨by show(1:Int)<=70;decide,by show(70:Int)<=130;decide⟩
 obtain⟨es,x5,hes,hel,hx5,s5⟩:∃(es:List Ev) (x5:OD),(∀e∈es,e.Lt)/\es.length<=3/\uj x5=true/\oN C S (wz Sc b (some (We C a l b [])) (some (We C a' l' b [])) [] none none none none none none none)=some (.nx (wz Sc b (some (We C a l b es)) (some (We C a' l' b [])) es x5 none none none none none none)):=by
  have c1:i3 ui (c8 aJ (c4 (c5 0) (c4 (kI 1) c7))) (kI 3) (wz Sc b (some (We C a l b [])) (some (We C a' l' b [])) [] none none none none none none none)=some (.int (n1%3)):=i7 (i4 rfl e1) rfl (modS (by decide))
  by_cases h:n1%3=0
  ·!⟨x',hx',e⟩:=K7 (C:=C) (S:=S) (a:=a) (l:=l) (Sc:=Sc) (b:=b) (W3:=some (We C a' l' b [])) (o6:=none) (o7:=none) (o8:=none) (o9:=none) (o10:=none) (o11:=none) ok hS h3 i2 rfl [Ev.down .a,Ev.up .a,Ev.ticks 70] [] none lt3 (fun _ h=>(by cases h)) (by decide) rfl
   ~⟨_,x',lt3,Nat.le_refl _,hx',(Qx (ug c1 rfl (by show some (n1%3==0)=_;rw[h];rfl))).trans ((K8 rfl rfl).trans e)⟩
  ·~⟨[],none,(fun _ h=>(by cases h)),Nat.zero_le _,rfl,Qt (ug c1 rfl (by show some (n1%3==0)=_;rw[beq_eq_false_iff_ne.mpr h]))⟩
 have hk0:=Int.emod_nonneg n2 (b:=15) (by decide)
 have hk1:=Int.emod_lt_of_pos n2 (b:=15) (by decide)
 !⟨ρ',e6,fs,p5,p6,p7,p8,p9,p10,p11,rfl,_,_,_⟩:=EB (st:=setAt 6) (u:=jv C) (S:=S) (fun k ρ=>∃(fs:List Ev) (p5 p6 p7 p8 p9 p10 p11:OD),ρ=wz Sc b (some (We C a l b fs)) (some (We C a' l' b [])) fs p5 p6 p7 p8 p9 p10 p11/\DR fs/\fs.length<=3+k/\[p5,p7,p8,p9,p10,p11].all uj=true)
  (wX 0 (n2%15)) 0 (wz Sc b (some (We C a l b es)) (some (We C a' l' b [])) es x5 none none none none none none) ⟨es,x5,none,none,none,none,none,none,rfl,⟨hes,by omega⟩,hel,by show(uj x5&&true)=true;rw[hx5];rfl⟩ (by
   rintro i d ρ hd ⟨fs,p5,p6,p7,p8,p9,p10,p11,rfl,hf,hfl,hp⟩
   !⟨hil,hd'⟩:=List.getElem?_eq_some_iff.mp hd
   rw[lS] at hil
   have hdi:d=.int (i:Int):=by rw[<- hd'];simp[wX]
   subst hdi
   !⟨gs,q5,q7,q8,q9,q10,q11,hg,hgl,hq,t⟩:=Mn (C:=C) (S:=S) (a:=a) (l:=l) (Sc:=Sc) (b:=b) (es:=fs) (W3:=some (We C a' l' b [])) (i:=(i:Int)) (o5:=p5) (o7:=p7) (o8:=p8) (o9:=p9) (o10:=p10) (o11:=p11) ok hS (by omega) hmix h3 i2 hf (by omega) hp
   ~⟨_,_,rfl,t,gs,q5,some (.int (i:Int)),q7,q8,q9,q10,q11,rfl,hg,by omega,hq⟩)
 have s6:oX C S (wz Sc b (some (We C a l b es)) (some (We C a' l' b [])) es x5 none none none none none none)=some (.nx (wz Sc b (some (We C a l b fs)) (some (We C a' l' b [])) fs p5 p6 p7 p8 p9 p10 p11)):=by
  have q:yn (i3 ui (c8 aJ (c4 (c5 0) (c4 (kI 2) c7))) (kI 15)) (wz Sc b (some (We C a l b es)) (some (We C a' l' b [])) es x5 none none none none none none)=some (wX 0 (n2%15)):=by
   show(i3 _ _ _ _).bind _=_
   rw[i7 (i4 (m8 rfl (m8 rfl rfl)) e2) rfl (modS (by decide)),Option.bind_some]
   ~if_pos ⟨by omega,by omega⟩
  ~(K8 q (cR (fun _=>rfl) _)).trans e6
 have f0:DR []:=⟨fun _ h=>(by cases h),(by decide)⟩
 have s7:oz C S (wz Sc b (some (We C a l b fs)) (some (We C a' l' b [])) fs p5 p6 p7 p8 p9 p10 p11)=some (.rt (.bl true) (wz Sc b (some (We C a l b fs)) (some (We C a' l' b [])) fs p5 p6 p7 p8 p9 p10 p11)):=
  Ru (retS (Lh (FX (ug (EU (m:=oS "state") (by decide +kernel) rfl Ga) (i4 rfl (iN _)) (O2 _))) (Lh (FX (ug (EU (m:=oS "row") (by decide +kernel) rfl (Oa f0)) (tupS rfl) (la []))) (FX (ug (EU (m:=oS "rang") (by decide +kernel) rfl HS) rfl rfl)))))
 ~⟨We C a' l' b [],_,OY C a' l' b,(mN s4).trans ((mN s5).trans ((mN s6).trans s7))⟩
end
end HW
set_option maxRecDepth 100000
namespace HW
open PySem PySem.Spec PyProof.Rows L2
variable{P:Program}{w:World}{K:W.Frag}{mg:Str->Option Value}{base:Heap}{k:Nat}{f:Addr}{fd:FuncData}
abbrev lT:Stmt:=top 16
theorem zR:c9 ["book","alarm","laps","count"] ["book"] (c6 lT):=uM
theorem qa(Fn:uv K "begun" "begun" lT f fd):k6 P w K mg base ue (k+1) f fd ["book"] (uP K bX):=by
 &ar Fn zR ?_
 intro _ _ _ _ _ _ hr
 &ak ?_ ?_
 ·&aB ?_ ?_
  ·~ax (ac ae (ac ae (ac dI af)))
  ~aj 1 zR.nd
 &ak ?_ ?_
 ·&aB ?_ ?_
  ·&ax ?_
   &ac ae ?_
   &ac dI ?_
   &ac ?_ af
   ~ax af
  ~aj 2 zR.nd
 &ak ?_ ?_
 ·&aB ?_ ?_
  ·&ax ?_
   ~ac ae (ac ae (ac ae (ac dI af)))
  ~aj 3 zR.nd
 &ao ?_
 &ay ?_
 &ax ?_
 &ac ae ?_
 &ac ae ?_
 &ac (ad 1) ?_
 &ac (ad 2) ?_
 ~ac (ad 3) (ac ae (ac aR (ac ae af)))
abbrev im:Stmt:=top 42
theorem nK:c9 ["laps","many"] ["laps","many"] (c6 im):=uM
theorem oi(Fn:uv K "laps_on" "laps_on" im f fd):k6 P w K mg base ue (k+1) f fd ["laps","many"] (uP K dZ):=by
 &ar Fn nK ?_
 intro _ _ _ _ _ _ hr
 &ao ?_
 &ay ?_
 &fm ?_ ?_ (ad 0)
 ·~cH (ag (ad 0) ae)
 &ax ?_
 &ac ?_ (ac dI (ac (ag (ad 0) ae) af))
 ~al aD (ag (ad 0) ae) (ad 1)
abbrev gi:Stmt:=top 43
theorem Aq:c9 ["count","many","left"] ["count","many"] (c6 gi):=uM
theorem mI(wg:mg "max" = none)(Fn:uv K "count_on" "count_on" gi f fd):k6 P w K mg base ue (k+1) f fd ["count","many"] (uP K dm):=by
 &ar Fn Aq ?_
 intro _ _ _ _ _ _ hr
 &ak ?_ ?_
 ·&cP ?_ ?_ aU
  ·&lg ?_
   ~cH (ag (ad 0) ae)
  &ao ?_
  ~ay (ad 0)
 &ak ?_ ?_
 ·&aB ?_ ?_
  ·&bD (jw rfl) wg ?_
   &ac ae ?_
   &ac ?_ af
   ~al bZ (ag (ad 0) ae) (ad 1)
  ~aj 2 Aq.nd
 &ao ?_
 &ay ?_
 &ax ?_
 &ac (ag (ad 0) ae) ?_
 &ac (ag (ad 0) ae) ?_
 &ac (ad 2) ?_
 &ac ?_ af
 ~cG gh (ad 2) ae
abbrev eD:Stmt:=top 37
theorem wZ:c9 ["state","alarm","second"] ["state"] (c6 eD):=uM
theorem jZ(uf:u0 K mg "ALARM" ba)(ub:u0 K mg "CLOCK" aY)(wH:u0 K mg "DAY" dD)(Fn:uv K "alarm_tick" "alarm_tick" eD f fd):k6 P w K mg base ue (k+1) f fd ["state"] (uP K aL):=by
 &ar Fn wZ ?_
 intro _ _ _ _ _ _ hr
 &ak ?_ ?_
 ·&aB (ag (ad 0) (av uf)) ?_
  ~aj 1 wZ.nd
 &ak ?_ ?_
 ·&cP ?_ ?_ aU
  ·&lg ?_
   ~cH (ag (ad 1) ae)
  &ao ?_
  ~ay aR
 &ak ?_ ?_
 ·&aB ?_ ?_
  ·&al aD ?_ ?_
   ·~al dv ae (ag (ad 1) ae)
   ~al dv ae (ag (ad 1) ae)
  ~aj 2 wZ.nd
 &ao ?_
 &ay ?_
 &al aD ?_ ae
 &al aI ?_ (av wH)
 &al bZ ?_ ae
 ~al bZ (ad 2) (ag (ad 0) (av ub))
abbrev eM:Stmt:=top 38
theorem yX:c9 ["state","count"] ["state"] (c6 eM):=uM
theorem jL(p4:u0 K mg "COUNT" aQ)(Fn:uv K "count_tick" "count_tick" eM f fd):k6 P w K mg base ue (k+1) f fd ["state"] (uP K aO):=by
 &ar Fn yX ?_
 intro _ _ _ _ _ _ hr
 &ak ?_ ?_
 ·&aB (ag (ad 0) (av p4)) ?_
  ~aj 1 yX.nd
 &ao ?_
 &ay ?_
 &fm ?_ (ag (ad 1) ae) aR
 ~cH (ag (ad 1) ae)
abbrev fP:Stmt:=top 39
theorem wl:c9 ["state","many","alarm","count","ticks"] ["state","many"] (c6 fP):=uM
theorem lf(ul:l8 P w K mg base k "alarm_tick" ["state"] aL)(um:l8 P w K mg base k "count_tick" ["state"] aO)(wg:mg "max" = none)(wH:u0 K mg "DAY" dD)(Fn:uv K "last_ring" "last_ring" fP f fd):k6 P w K mg base ue (k+1) f fd ["state","many"] (uP K cN):=by
 &ar Fn wl ?_
 intro _ _ _ _ _ _ hr
 &ak ?_ ?_
 ·&aB ?_ ?_
  ·~ai ul hr (ac (ad 0) af)
  ~aj 2 wl.nd
 &ak ?_ ?_
 ·&aB ?_ ?_
  ·~ai um hr (ac (ad 0) af)
  ~aj 3 wl.nd
 &iX 4 wl.nd af ?_
 &eV ?_ ?_
 ·&oQ ?_ ?_ iM
  ·&fj ?_
   &ji ?_ ?_
   ·~aE ce (ad 2) aR
   &gF ?_
   ~aE qL (ad 2) (ad 1)
  &gD ?_
  &jg 4 ?_
  &al bZ (ad 1) ?_
  &al aI ?_ (av wH)
  ~al bZ (ad 1) (ad 2)
 &eV ?_ ?_
 ·&oQ ?_ ?_ iM
  ·&fj ?_
   &ji ?_ ?_
   ·~aE ce (ad 3) aR
   &gF ?_
   ~aE qL (ad 3) (ad 1)
  &gD ?_
  ~jg 4 (ad 3)
 &jo ?_
 &ao ?_
 &ay ?_
 ~rD rfl wg (ad 4)
abbrev gZ:Stmt:=top 44
theorem Bt:c9 ["state","many","last"] ["state","many"] (c6 gZ):=uM
theorem ot(yu:l8 P w K mg base k "last_ring" ["state","many"] cN)(wg:mg "max" = none)(yw:u0 K mg "FULL_RING" fv)(xb:u0 K mg "RING" eI)(Fn:uv K "ring_on" "ring_on" gZ f fd):k6 P w K mg base ue (k+1) f fd ["state","many"] (uP K dY):=by
 &ar Fn Bt ?_
 intro _ _ _ _ _ _ hr
 &ak ?_ ?_
 ·&aB ?_ ?_
  ·~ai yu hr (ac (ad 0) (ac (ad 1) af))
  ~aj 2 Bt.nd
 &ak ?_ ?_
 ·&cP ?_ ?_ aU
  ·~aE gb (ad 2) aR
  &ao ?_
  &ay ?_
  &bD (jw rfl) wg ?_
  &ac ae ?_
  &ac ?_ af
  ~al bZ (ag (ad 0) (av xb)) (ad 1)
 &ao ?_
 &ay ?_
 &bD (jw rfl) wg ?_
 &ac ae ?_
 &ac ?_ af
 &al bZ (av yw) ?_
 ~al bZ (ad 1) (ad 2)
abbrev io:Stmt:=top 45
theorem ou:c9 ["held","many"] ["held","many"] (c6 io):=uM
theorem nU(Fn:uv K "held_on" "held_on" io f fd):k6 P w K mg base ue (k+1) f fd ["held","many"] (uP K dX):=by
 &ar Fn ou ?_
 intro _ _ _ _ _ _ hr
 &ak ?_ ?_
 ·&cP ?_ ?_ aU
  ·&fj ?_
   &gR ?_ ?_
   ·~aE gb (ad 0) aR
   &gp ?_
   ~aE gb (ag (ad 0) ae) aR
  &ao ?_
  ~ay (ad 0)
 &ao ?_
 &ay ?_
 &ax ?_
 &ac (ag (ad 0) ae) ?_
 &ac ?_ af
 ~al aD (ag (ad 0) ae) (ad 1)
abbrev cX:Stmt:=top 46
theorem ig:c9 ["book","state"] ["book","state"] (c6 cX):=uM
theorem ir(wg:mg "max" = none)(vK:u0 K mg "IDLE" dj)(Fn:uv K "ticks_to_back" "ticks_to_back" cX f fd):k6 P w K mg base ue (k+1) f fd ["book","state"] (uP K a_):=by
 &ar Fn ig ?_
 intro _ _ _ _ _ _ hr
 &ao ?_
 &ay ?_
 &bD (jw rfl) wg ?_
 &ac ae ?_
 &ac ?_ af
 ~al bZ (ag (ad 0) ae) (ag (ad 1) (av vK))
abbrev gT:Stmt:=top 47
theorem A4:c9 ["book","state","many","ticks"] ["book","state","many"] (c6 gT):=uM
theorem nX(uw:l8 P w K mg base k "ticks_to_back" ["book","state"] a_)(n8:u0 K mg "HELD" aV)(vK:u0 K mg "IDLE" dj)(Fn:uv K "idle_on" "idle_on" gT f fd):k6 P w K mg base ue (k+1) f fd ["book","state","many"] (uP K d_):=by
 &ar Fn A4 ?_
 intro _ _ _ _ _ _ hr
 &ak ?_ ?_
 ·&cP ?_ ?_ aU
  ·&fj ?_
   &gR ?_ ?_
   ·~aE ce (ag (ad 1) (av n8)) aR
   &gp ?_
   ~aE (cC hr) (ag (ad 0) ae) ae
  &ao ?_
  ~ay (ag (ad 1) (av vK))
 &ak ?_ ?_
 ·&aB ?_ ?_
  ·~ai uw hr (ac (ad 0) (ac (ad 1) af))
  ~aj 3 A4.nd
 &ao ?_
 &ay ?_
 &fm ?_ ?_ ?_
 ·~aE oA (ad 2) (ad 3)
 ·~al aD (ag (ad 1) (av vK)) (ad 2)
 &al aI ?_ (ag (ad 0) ae)
 ~al bZ (ad 2) (ad 3)
abbrev il:Stmt:=top 48
theorem nV:c9 ["book","state","many"] ["book","state","many"] (c6 il):=uM
theorem nS(zm:l8 P w K mg base k "count_on" ["count","many"] dm)(Ai:l8 P w K mg base k "held_on" ["held","many"] dX)(Aj:l8 P w K mg base k "idle_on" ["book","state","many"] d_)(Ak:l8 P w K mg base k "laps_on" ["laps","many"] dZ)(Al:l8 P w K mg base k "ring_on" ["state","many"] dY)(uf:u0 K mg "ALARM" ba)(ub:u0 K mg "CLOCK" aY)(p4:u0 K mg "COUNT" aQ)(wH:u0 K mg "DAY" dD)(n8:u0 K mg "HELD" aV)(vh:u0 K mg "LAPS" b_)(uT:u0 K mg "MODE" bT)(Fn:uv K "counted" "counted" il f fd):k6 P w K mg base ue (k+1) f fd ["book","state","many"] (uP K cE):=by
 &ar Fn nV ?_
 intro _ _ _ _ _ _ hr
 &ao ?_
 &ay ?_
 &ax ?_
 &ac (ag (ad 1) (av uT)) ?_
 &ac ?_ ?_
 ·&al aI ?_ (av wH)
  ~al aD (ag (ad 1) (av ub)) (ad 2)
 &ac (ag (ad 1) (av uf)) ?_
 &ac ?_ ?_
 ·&ai Ak hr ?_
  ~ac (ag (ad 1) (av vh)) (ac (ad 2) af)
 &ac ?_ ?_
 ·&ai zm hr ?_
  ~ac (ag (ad 1) (av p4)) (ac (ad 2) af)
 &ac ?_ ?_
 ·~ai Al hr (ac (ad 1) (ac (ad 2) af))
 &ac ?_ ?_
 ·&ai Ai hr ?_
  ~ac (ag (ad 1) (av n8)) (ac (ad 2) af)
 &ac ?_ af
 ~ai Aj hr (ac (ad 0) (ac (ad 1) (ac (ad 2) af)))
abbrev fR:Stmt:=top 49
theorem ly:c9 ["book","state"] ["book","state"] (c6 fR):=uM
theorem kY(uT:u0 K mg "MODE" bT)(Fn:uv K "goes_back" "goes_back" fR f fd):k6 P w K mg base ue (k+1) f fd ["book","state"] (uP K cQ):=by
 &ar Fn ly ?_
 intro _ _ _ _ _ _ hr
 &ao ?_
 &ay ?_
 &gj ?_ ?_
 ·~cG gh (ag (ad 0) ae) ae
 &gj ?_ ?_
 ·~cG (sE hr) (ag (ad 1) (av uT)) ae
 &jc ?_
 &kD ?_
 ~ag (ag (ag (ad 0) ae) (ag (ad 1) (av uT))) ae
abbrev cW:Stmt:=top 50
theorem ik:c9 ["book","state"] ["book","state"] (c6 cW):=uM
theorem ip(wg:mg "max" = none)(n8:u0 K mg "HELD" aV)(Fn:uv K "ticks_to_long" "ticks_to_long" cW f fd):k6 P w K mg base ue (k+1) f fd ["book","state"] (uP K bC):=by
 &ar Fn ik ?_
 intro _ _ _ _ _ _ hr
 &ao ?_
 &ay ?_
 &bD (jw rfl) wg ?_
 &ac ae ?_
 &ac ?_ af
 ~al bZ (ag (ad 0) ae) (ag (ag (ad 1) (av n8)) ae)
abbrev fM:Stmt:=top 51
theorem zI:c9 ["book","state","held"] ["book","state"] (c6 fM):=uM
theorem kJ(yy:l8 P w K mg base k "goes_back" ["book","state"] cQ)(uw:l8 P w K mg base k "ticks_to_back" ["book","state"] a_)(v9:l8 P w K mg base k "ticks_to_long" ["book","state"] bC)(n8:u0 K mg "HELD" aV)(Fn:uv K "turn_tick" "turn_tick" fM f fd):k6 P w K mg base ue (k+1) f fd ["book","state"] (uP K bP):=by
 &ar Fn zI ?_
 intro _ _ _ _ _ _ hr
 &ak ?_ ?_
 ·&aB (ag (ad 1) (av n8)) ?_
  ~aj 2 zI.nd
 &ak ?_ ?_
 ·&cP ?_ ?_ aU
  ·~aE gb (ad 2) aR
  &ao ?_
  &ay ?_
  &fm ?_ ?_ aR
  ·&cH ?_
   ~ai yy hr (ac (ad 0) (ac (ad 1) af))
  ~ai uw hr (ac (ad 0) (ac (ad 1) af))
 &ao ?_
 &ay ?_
 &fm ?_ aR ?_
 ·~aE gb (ag (ad 2) ae) aR
 ~ai v9 hr (ac (ad 0) (ac (ad 1) af))
abbrev qz:Stmt:=top 17
theorem sR:c9 ["state","place","part"] ["state","place","part"] (c6 qz):=uM
theorem tJ(Fn:uv K "put" "put" qz f fd):k6 P w K mg base ue (k+1) f fd ["state","place","part"] (uP K aG):=by
 &ar Fn sR ?_
 intro _ _ _ _ _ _ hr
 &ao ?_
 &ay ?_
 &al aD ?_ ?_
 ·&al aD ?_ ?_
  ·&gG (ad 0) iV ?_
   ~iP (ad 1)
  ~ax (ac (ad 2) af)
 &gG (ad 0) ?_ iV
 &iP ?_
 ~al aD (ad 1) ae
abbrev ia:Stmt:=top 19
theorem oj:c9 ["state"] ["state"] (c6 ia):=uM
theorem oh(Fn:uv K "nothing" "nothing" ia f fd):k6 P w K mg base ue (k+1) f fd ["state"] (uP K de):=by
 &ar Fn oj ?_
 intro _ _ _ _ _ _ hr
 &ao ?_
 ~ay (ad 0)
abbrev hU:Stmt:=top 20
theorem nq:c9 ["state"] ["state"] (c6 hU):=uM
theorem nG(n6:l8 P w K mg base k "put" ["state","place","part"] aG)(ub:u0 K mg "CLOCK" aY)(Fn:uv K "hour_on" "hour_on" hU f fd):k6 P w K mg base ue (k+1) f fd ["state"] (uP K dg):=by
 &ar Fn nq ?_
 intro _ _ _ _ _ _ hr
 &ao ?_
 &ay ?_
 &ai n6 hr ?_
 &ac (ad 0) ?_
 &ac (av ub) ?_
 &ac ?_ af
 &al aI ?_ ae
 ~al aD (ag (ad 0) (av ub)) ae
abbrev fL:Stmt:=top 21
theorem xx:c9 ["state","clock","within"] ["state"] (c6 fL):=uM
theorem lB(n6:l8 P w K mg base k "put" ["state","place","part"] aG)(ub:u0 K mg "CLOCK" aY)(Fn:uv K "minute_on" "minute_on" fL f fd):k6 P w K mg base ue (k+1) f fd ["state"] (uP K cb):=by
 &ar Fn xx ?_
 intro _ _ _ _ _ _ hr
 &ak ?_ ?_
 ·&aB (ag (ad 0) (av ub)) ?_
  ~aj 1 xx.nd
 &ak ?_ ?_
 ·&aB ?_ ?_
  ·&al aI ?_ ae
   &al aD ?_ ae
   ~al aI (ad 1) ae
  ~aj 2 xx.nd
 &ao ?_
 &ay ?_
 &ai n6 hr ?_
 &ac (ad 0) ?_
 &ac (av ub) ?_
 &ac ?_ af
 &al aD ?_ (ad 2)
 &al bZ (ad 1) ?_
 ~al aI (ad 1) ae
abbrev gU:Stmt:=top 22
theorem nZ:c9 ["state"] ["state"] (c6 gU):=uM
theorem nY(n6:l8 P w K mg base k "put" ["state","place","part"] aG)(ub:u0 K mg "CLOCK" aY)(Fn:uv K "to_zero" "to_zero" gU f fd):k6 P w K mg base ue (k+1) f fd ["state"] (uP K db):=by
 &ar Fn nZ ?_
 intro _ _ _ _ _ _ hr
 &ao ?_
 &ay ?_
 &ai n6 hr ?_
 &ac (ad 0) ?_
 &ac (av ub) ?_
 &ac ?_ af
 &al bZ (ag (ad 0) (av ub)) ?_
 ~al aI (ag (ad 0) (av ub)) ae
abbrev cU:Stmt:=top 23
theorem xq:c9 ["state","alarm"] ["state"] (c6 cU):=uM
theorem ii(n6:l8 P w K mg base k "put" ["state","place","part"] aG)(uf:u0 K mg "ALARM" ba)(Fn:uv K "alarm_hour_on" "alarm_hour_on" cU f fd):k6 P w K mg base ue (k+1) f fd ["state"] (uP K bj):=by
 &ar Fn xq ?_
 intro _ _ _ _ _ _ hr
 &ak ?_ ?_
 ·&aB (ag (ad 0) (av uf)) ?_
  ~aj 1 xq.nd
 &ao ?_
 &ay ?_
 &ai n6 hr ?_
 &ac (ad 0) ?_
 &ac (av uf) ?_
 &ac ?_ af
 &ax ?_
 &ac ?_ ?_
 ·&al aI ?_ ae
  ~al aD (ag (ad 1) ae) ae
 ~ac (ag (ad 1) ae) (ac (ag (ad 1) ae) af)
abbrev cx:Stmt:=top 24
theorem wA:c9 ["state","alarm"] ["state"] (c6 cx):=uM
theorem gl(n6:l8 P w K mg base k "put" ["state","place","part"] aG)(uf:u0 K mg "ALARM" ba)(Fn:uv K "alarm_minute_on" "alarm_minute_on" cx f fd):k6 P w K mg base ue (k+1) f fd ["state"] (uP K aX):=by
 &ar Fn wA ?_
 intro _ _ _ _ _ _ hr
 &ak ?_ ?_
 ·&aB (ag (ad 0) (av uf)) ?_
  ~aj 1 wA.nd
 &ao ?_
 &ay ?_
 &ai n6 hr ?_
 &ac (ad 0) ?_
 &ac (av uf) ?_
 &ac ?_ af
 &ax ?_
 &ac (ag (ad 1) ae) ?_
 &ac ?_ (ac (ag (ad 1) ae) af)
 &al aI ?_ ae
 ~al aD (ag (ad 1) ae) ae
abbrev du:Stmt:=top 25
theorem xU:c9 ["state","alarm"] ["state"] (c6 du):=uM
theorem iC(n6:l8 P w K mg base k "put" ["state","place","part"] aG)(uf:u0 K mg "ALARM" ba)(Fn:uv K "alarm_turned" "alarm_turned" du f fd):k6 P w K mg base ue (k+1) f fd ["state"] (uP K bw):=by
 &ar Fn xU ?_
 intro _ _ _ _ _ _ hr
 &ak ?_ ?_
 ·&aB (ag (ad 0) (av uf)) ?_
  ~aj 1 xU.nd
 &ao ?_
 &ay ?_
 &ai n6 hr ?_
 &ac (ad 0) ?_
 &ac (av uf) ?_
 &ac ?_ af
 &ax ?_
 &ac (ag (ad 1) ae) ?_
 &ac (ag (ad 1) ae) ?_
 &ac ?_ af
 ~kD (ag (ad 1) ae)
abbrev dP:Stmt:=top 26
theorem xZ:c9 ["state","laps"] ["state"] (c6 dP):=uM
theorem jk(n6:l8 P w K mg base k "put" ["state","place","part"] aG)(vh:u0 K mg "LAPS" b_)(Fn:uv K "laps_turned" "laps_turned" dP f fd):k6 P w K mg base ue (k+1) f fd ["state"] (uP K bG):=by
 &ar Fn xZ ?_
 intro _ _ _ _ _ _ hr
 &ak ?_ ?_
 ·&aB (ag (ad 0) (av vh)) ?_
  ~aj 1 xZ.nd
 &ao ?_
 &ay ?_
 &ai n6 hr ?_
 &ac (ad 0) ?_
 &ac (av vh) ?_
 &ac ?_ af
 &ax ?_
 &ac (ag (ad 1) ae) ?_
 &ac ?_ (ac (ag (ad 1) ae) af)
 ~kD (ag (ad 1) ae)
abbrev gv:Stmt:=top 27
theorem Aw:c9 ["state","laps"] ["state"] (c6 gv):=uM
theorem mr(n6:l8 P w K mg base k "put" ["state","place","part"] aG)(ve:mg "len" = none)(vh:u0 K mg "LAPS" b_)(yz:u0 K mg "MOST_KEPT" fz)(Fn:uv K "lap_kept" "lap_kept" gv f fd):k6 P w K mg base ue (k+1) f fd ["state"] (uP K dq):=by
 &ar Fn Aw ?_
 intro _ _ _ _ _ _ hr
 &ak ?_ ?_
 ·&aB (ag (ad 0) (av vh)) ?_
  ~aj 1 Aw.nd
 &ak ?_ ?_
 ·&cP ?_ ?_ aU
  ·&lg ?_
   ~cH (ag (ad 1) ae)
  &ao ?_
  &ay ?_
  &ai n6 hr ?_
  &ac (ad 0) ?_
  &ac (av vh) ?_
  &ac ?_ af
  &ax ?_
  &ac ae ?_
  &ac dI ?_
  &ac ?_ af
  ~ax af
 &ak ?_ ?_
 ·&cP ?_ ?_ aU
  ·&aE sx ?_ (av yz)
   ~bD gt ve (ac (ag (ad 1) ae) af)
  &ao ?_
  ~ay (ad 0)
 &ao ?_
 &ay ?_
 &ai n6 hr ?_
 &ac (ad 0) ?_
 &ac (av vh) ?_
 &ac ?_ af
 &ax ?_
 &ac (ag (ad 1) ae) ?_
 &ac dI ?_
 &ac ?_ af
 &al aD (ag (ad 1) ae) ?_
 ~ax (ac (ag (ad 1) ae) af)
abbrev jz:Stmt:=top 28
theorem pw:c9 ["state","minute","second"] ["state","minute","second"] (c6 jz):=uM
theorem o_(n6:l8 P w K mg base k "put" ["state","place","part"] aG)(p4:u0 K mg "COUNT" aQ)(Fn:uv K "set_to" "set_to" jz f fd):k6 P w K mg base ue (k+1) f fd ["state","minute","second"] (uP K bU):=by
 &ar Fn pw ?_
 intro _ _ _ _ _ _ hr
 &ak ?_ ?_
 ·&cP ?_ ?_ aU
  ·~cH (ag (ag (ad 0) (av p4)) ae)
  &ao ?_
  ~ay (ad 0)
 &ao ?_
 &ay ?_
 &ai n6 hr ?_
 &ac (ad 0) ?_
 &ac (av p4) ?_
 &ac ?_ af
 &ax ?_
 &ac (ad 1) ?_
 &ac (ad 2) ?_
 &ac ?_ (ac dI af)
 &al aD ?_ (ad 2)
 ~al dv ae (ad 1)
abbrev cq:Stmt:=top 29
theorem wG:c9 ["state","count"] ["state"] (c6 cq):=uM
theorem gx(vC:l8 P w K mg base k "set_to" ["state","minute","second"] bU)(p4:u0 K mg "COUNT" aQ)(Fn:uv K "count_minute_on" "count_minute_on" cq f fd):k6 P w K mg base ue (k+1) f fd ["state"] (uP K aW):=by
 &ar Fn wG ?_
 intro _ _ _ _ _ _ hr
 &ak ?_ ?_
 ·&aB (ag (ad 0) (av p4)) ?_
  ~aj 1 wG.nd
 &ao ?_
 &ay ?_
 &ai vC hr ?_
 &ac (ad 0) ?_
 &ac ?_ (ac (ag (ad 1) ae) af)
 &al aI ?_ ae
 ~al aD (ag (ad 1) ae) ae
abbrev cB:Stmt:=top 30
theorem wC:c9 ["state","count"] ["state"] (c6 cB):=uM
theorem gk(vC:l8 P w K mg base k "set_to" ["state","minute","second"] bU)(p4:u0 K mg "COUNT" aQ)(Fn:uv K "count_second_on" "count_second_on" cB f fd):k6 P w K mg base ue (k+1) f fd ["state"] (uP K aZ):=by
 &ar Fn wC ?_
 intro _ _ _ _ _ _ hr
 &ak ?_ ?_
 ·&aB (ag (ad 0) (av p4)) ?_
  ~aj 1 wC.nd
 &ao ?_
 &ay ?_
 &ai vC hr ?_
 &ac (ad 0) ?_
 &ac (ag (ad 1) ae) ?_
 &ac ?_ af
 &al aI ?_ ae
 ~al aD (ag (ad 1) ae) ae
abbrev jI:Stmt:=top 31
theorem Cm:c9 ["state","count"] ["state"] (c6 jI):=uM
theorem pS(vC:l8 P w K mg base k "set_to" ["state","minute","second"] bU)(p4:u0 K mg "COUNT" aQ)(Fn:uv K "filled" "filled" jI f fd):k6 P w K mg base ue (k+1) f fd ["state"] (uP K dW):=by
 &ar Fn Cm ?_
 intro _ _ _ _ _ _ hr
 &ak ?_ ?_
 ·&aB (ag (ad 0) (av p4)) ?_
  ~aj 1 Cm.nd
 &ao ?_
 &ay ?_
 &ai vC hr ?_
 &ac (ad 0) ?_
 ~ac (ag (ad 1) ae) (ac (ag (ad 1) ae) af)
abbrev dw:Stmt:=top 32
theorem vZ:c9 ["state","count","runs"] ["state"] (c6 dw):=uM
theorem iI(n6:l8 P w K mg base k "put" ["state","place","part"] aG)(p4:u0 K mg "COUNT" aQ)(Fn:uv K "count_turned" "count_turned" dw f fd):k6 P w K mg base ue (k+1) f fd ["state"] (uP K bJ):=by
 &ar Fn vZ ?_
 intro _ _ _ _ _ _ hr
 &ak ?_ ?_
 ·&aB (ag (ad 0) (av p4)) ?_
  ~aj 1 vZ.nd
 &ak ?_ ?_
 ·&aB ?_ ?_
  ·&gj ?_ ?_
   ·~kD (ag (ad 1) ae)
   &jc ?_
   ~cG gh (ag (ad 1) ae) ae
  ~aj 2 vZ.nd
 &ao ?_
 &ay ?_
 &ai n6 hr ?_
 &ac (ad 0) ?_
 &ac (av p4) ?_
 &ac ?_ af
 &ax ?_
 &ac (ag (ad 1) ae) ?_
 ~ac (ag (ad 1) ae) (ac (ag (ad 1) ae) (ac (ad 2) af))
abbrev eh:Stmt:=top 34
theorem vR:c9 ["book","state","press","rows","row","step"] ["book","state","press"] (c6 eh):=uM
theorem j_(v_:l8 P w K mg base k "alarm_hour_on" ["state"] bj)(vD:l8 P w K mg base k "alarm_minute_on" ["state"] aX)(wI:l8 P w K mg base k "alarm_turned" ["state"] bw)(vE:l8 P w K mg base k "count_minute_on" ["state"] aW)(vF:l8 P w K mg base k "count_second_on" ["state"] aZ)(wJ:l8 P w K mg base k "count_turned" ["state"] bJ)(BH:l8 P w K mg base k "filled" ["state"] dW)(Am:l8 P w K mg base k "hour_on" ["state"] dg)(zo:l8 P w K mg base k "lap_kept" ["state"] dq)(xc:l8 P w K mg base k "laps_turned" ["state"] bG)(yA:l8 P w K mg base k "minute_on" ["state"] cb)(An:l8 P w K mg base k "nothing" ["state"] de)(n6:l8 P w K mg base k "put" ["state","place","part"] aG)(Ao:l8 P w K mg base k "to_zero" ["state"] db)(uT:u0 K mg "MODE" bT)(s_PRESSES:L7 K mg "PRESSES" df)(DG:Ew P w K mg base k "STEPS" yK)(Fn:uv K "press_done" "press_done" eh f fd):k6 P w K mg base ue (k+1) f fd ["book","state","press"] (uP K bA):=by
 &ar Fn vR ?_
 intro _ _ _ _ _ _ hr
 &ak ?_ ?_
 ·&aB ?_ ?_
  ·~ag (ag (ag (ad 0) ae) (ag (ad 1) (av uT))) ae
  ~aj 3 vR.nd
 &ak ?_ ?_
 ·&aB ?_ ?_
  ·&ag (ad 3) ?_
   ~tB s_PRESSES (ad 2)
  ~aj 4 vR.nd
 &sD 5 vR.nd DG (ag (ad 4) ae) ?_
 intro fa G_ hF
 &HG ?_
 &Hz n6 hr ?_
 &Bo ?_ ?_
 ·~Cu hF hr (ac (ad 1) af)
 ~IW (ac (av uT) (ac (ag (ad 4) ae) af))
abbrev i_:Stmt:=top 52
theorem CG:c9 ["book","state","held"] ["book","state"] (c6 i_):=uM
theorem pe(uX:l8 P w K mg base k "press_done" ["book","state","press"] bA)(n6:l8 P w K mg base k "put" ["state","place","part"] aG)(n8:u0 K mg "HELD" aV)(uT:u0 K mg "MODE" bT)(Fn:uv K "turned" "turned" i_ f fd):k6 P w K mg base ue (k+1) f fd ["book","state"] (uP K fu):=by
 &ar Fn CG ?_
 intro _ _ _ _ _ _ hr
 &ak ?_ ?_
 ·&aB (ag (ad 1) (av n8)) ?_
  ~aj 2 CG.nd
 &ak ?_ ?_
 ·&cP ?_ ?_ aU
  ·~aE gb (ad 2) aR
  &ao ?_
  &ay ?_
  ~ai n6 hr (ac (ad 1) (ac (av uT) (ac ae af)))
 &ao ?_
 &ay ?_
 &ai uX hr ?_
 &ac (ad 0) ?_
 &ac ?_ ?_
 ·&ai n6 hr ?_
  &ac (ad 1) ?_
  &ac (av n8) ?_
  &ac ?_ af
  ~ax (ac (ag (ad 2) ae) (ac aR af))
 &ac ?_ af
 ~sw (ag (ad 2) ae)
abbrev dS:Stmt:=top 53
theorem jt:c9 ["book","state"] ["book","state"] (c6 dS):=uM
theorem jp(wn:l8 P w K mg base k "counted" ["book","state","many"] cE)(vw:l8 P w K mg base k "turn_tick" ["book","state"] bP)(BJ:l8 P w K mg base k "turned" ["book","state"] fu)(Fn:uv K "behind_turn" "behind_turn" dS f fd):k6 P w K mg base ue (k+1) f fd ["book","state"] (uP K bF):=by
 &ar Fn jt ?_
 intro _ _ _ _ _ _ hr
 &ao ?_
 &ay ?_
 &ai BJ hr ?_
 &ac (ad 0) ?_
 &ac ?_ af
 &ai wn hr ?_
 &ac (ad 0) ?_
 &ac (ad 1) ?_
 &ac ?_ af
 ~ai vw hr (ac (ad 0) (ac (ad 1) af))
abbrev fS:Stmt:=top 54
theorem zB:c9 ["book","state","many","turn"] ["book","state","many"] (c6 fS):=uM
theorem li(xf:l8 P w K mg base k "behind_turn" ["book","state"] bF)(vw:l8 P w K mg base k "turn_tick" ["book","state"] bP)(Fn:uv K "stretches" "stretches" fS f fd):k6 P w K mg base ue (k+1) f fd ["book","state","many"] (uP K aK):=by
 &ar Fn zB ?_
 intro _ _ _ _ _ _ hr
 &ak ?_ ?_
 ·&aB ?_ ?_
  ·~ai vw hr (ac (ad 0) (ac (ad 1) af))
  ~aj 3 zB.nd
 &ak ?_ ?_
 ·&cP ?_ ?_ aU
  ·&fj ?_
   &gR ?_ ?_
   ·~aE gb (ad 3) aR
   &gp ?_
   ~aE gh (ad 3) (ad 2)
  &ao ?_
  &ay ?_
  &gX ?_
  &ac ?_ af
  ~ax (ac ae (ac (ad 1) (ac (ad 2) af)))
 &ao ?_
 &ay ?_
 &gX ?_
 &ac ?_ ?_
 ·~ax (ac ae (ac (ad 1) (ac (ad 3) af)))
 &ac ?_ af
 &ax ?_
 &ac (ad 3) ?_
 &ac ?_ ?_
 ·~ai xf hr (ac (ad 0) (ac (ad 1) af))
 &ac ?_ af
 ~al bZ (ad 2) (ad 3)
abbrev jA:Stmt:=top 55
theorem Cp:c9 ["book","state","many","last"] ["book","state","many"] (c6 jA):=uM
theorem pK(wn:l8 P w K mg base k "counted" ["book","state","many"] cE)(uy:l8 P w K mg base k "stretches" ["book","state","many"] aK)(Fn:uv K "ticked" "ticked" jA f fd):k6 P w K mg base ue (k+1) f fd ["book","state","many"] (uP K fF):=by
 &ar Fn Cp ?_
 intro _ _ _ _ _ _ hr
 &ak ?_ ?_
 ·&aB ?_ ?_
  ·&ag ?_ ?_
   ·~ai uy hr (ac (ad 0) (ac (ad 1) (ac (ad 2) af)))
   ~qI nN ae
  ~aj 3 Cp.nd
 &ao ?_
 &ay ?_
 &ai wn hr ?_
 &ac (ad 0) ?_
 ~ac (ag (ad 3) ae) (ac (ag (ad 3) ae) af)
abbrev jD:Stmt:=top 60
theorem CP:c9 ["state","button","ticks"] ["state","button"] (c6 jD):=uM
theorem pP(n6:l8 P w K mg base k "put" ["state","place","part"] aG)(n8:u0 K mg "HELD" aV)(vK:u0 K mg "IDLE" dj)(xb:u0 K mg "RING" eI)(Fn:uv K "pushed" "pushed" jD f fd):k6 P w K mg base ue (k+1) f fd ["state","button"] (uP K fQ):=by
 &ar Fn CP ?_
 intro _ _ _ _ _ _ hr
 &ak ?_ ?_
 ·&cP ?_ ?_ aU
  ·~aE ce (ag (ad 0) (av n8)) aR
  &ao ?_
  ~ay (ad 0)
 &ak ?_ ?_
 ·&aB ?_ ?_
  ·&fm ?_ aR ae
   ~aE gh (ag (ad 0) (av xb)) ae
  ~aj 2 CP.nd
 &ao ?_
 &ay ?_
 &ai n6 hr ?_
 &ac ?_ (ac (av vK) (ac ae af))
 &ai n6 hr ?_
 &ac ?_ ?_
 ·~ai n6 hr (ac (ad 0) (ac (av xb) (ac ae af)))
 &ac (av n8) ?_
 &ac ?_ af
 ~ax (ac (ad 1) (ac (ad 2) af))
abbrev eO:Stmt:=top 62
theorem ka:c9 ["state","button"] ["state","button"] (c6 eO):=uM
theorem jP(n8:u0 K mg "HELD" aV)(Fn:uv K "is_holding" "is_holding" eO f fd):k6 P w K mg base ue (k+1) f fd ["state","button"] (uP K bz):=by
 &ar Fn ka ?_
 intro _ _ _ _ _ _ hr
 &ao ?_
 &ay ?_
 &gj ?_ ?_
 ·~cG ce (ag (ad 0) (av n8)) aR
 &jc ?_
 ~cG (cC hr) (ag (ag (ad 0) (av n8)) ae) (ad 1)
abbrev gr:Stmt:=top 63
theorem nh:c9 ["state","button"] ["state","button"] (c6 gr):=uM
theorem mX(uY:l8 P w K mg base k "is_holding" ["state","button"] bz)(n8:u0 K mg "HELD" aV)(Fn:uv K "is_short" "is_short" gr f fd):k6 P w K mg base ue (k+1) f fd ["state","button"] (uP K bK):=by
 &ar Fn nh ?_
 intro _ _ _ _ _ _ hr
 &ao ?_
 &ay ?_
 &gj ?_ ?_
 ·~ai uY hr (ac (ad 0) (ac (ad 1) af))
 &jc ?_
 ~cG ce (ag (ag (ad 0) (av n8)) ae) aR
abbrev iY:Stmt:=top 61
theorem CD:c9 ["book","state","button"] ["book","state","button"] (c6 iY):=uM
theorem pC(uY:l8 P w K mg base k "is_holding" ["state","button"] bz)(vL:l8 P w K mg base k "is_short" ["state","button"] bK)(uX:l8 P w K mg base k "press_done" ["book","state","press"] bA)(n6:l8 P w K mg base k "put" ["state","place","part"] aG)(n8:u0 K mg "HELD" aV)(vK:u0 K mg "IDLE" dj)(Fn:uv K "let_go" "let_go" iY f fd):k6 P w K mg base ue (k+1) f fd ["book","state","button"] (uP K fW):=by
 &ar Fn CD ?_
 intro _ _ _ _ _ _ hr
 &ak ?_ ?_
 ·&cP ?_ ?_ aU
  ·&lg ?_
   &cH ?_
   ~ai uY hr (ac (ad 1) (ac (ad 2) af))
  &ao ?_
  ~ay (ad 1)
 &ak ?_ ?_
 ·&cP ?_ ?_ aU
  ·&cH ?_
   ~ai vL hr (ac (ad 1) (ac (ad 2) af))
  &ao ?_
  &aB ?_ ?_
  ·~ai uX hr (ac (ad 0) (ac (ad 1) (ac (ad 2) af)))
  ~aj 1 CD.nd
 &ao ?_
 &ay ?_
 &ai n6 hr ?_
 &ac ?_ (ac (av vK) (ac ae af))
 ~ai n6 hr (ac (ad 1) (ac (av n8) (ac aR af)))
abbrev og:Stmt:=top 59
theorem rR:c9 ["book","state","event"] ["book","state","event"] (c6 og):=uM
theorem rT(BK:l8 P w K mg base k "let_go" ["book","state","button"] fW)(BL:l8 P w K mg base k "pushed" ["state","button"] fQ)(BM:l8 P w K mg base k "ticked" ["book","state","many"] fF)(Fn:uv K "gone" "gone" og f fd):k6 P w K mg base ue (k+1) f fd ["book","state","event"] (uP K dB):=by
 &ar Fn rR ?_
 intro _ _ _ _ _ _ hr
 &ak ?_ ?_
 ·&cP ?_ ?_ aU
  ·~aE (cC hr) (ag (ad 2) ae) aA
  &ao ?_
  &ay ?_
  ~ai BL hr (ac (ad 1) (ac (ag (ad 2) ae) af))
 &ak ?_ ?_
 ·&cP ?_ ?_ aU
  ·~aE (cC hr) (ag (ad 2) ae) aA
  &ao ?_
  &ay ?_
  &ai BK hr ?_
  ~ac (ad 0) (ac (ad 1) (ac (ag (ad 2) ae) af))
 &ao ?_
 &ay ?_
 &ai BM hr ?_
 ~ac (ad 0) (ac (ad 1) (ac (ag (ad 2) ae) af))
abbrev kN:Stmt:=top 81
theorem By:c9 ["book","state","row","event"] ["book","state","row"] (c6 kN):=uM
theorem qe(xJ:l8 P w K mg base k "gone" ["book","state","event"] dB)(Fn:uv K "after" "after" kN f fd):k6 P w K mg base ue (k+1) f fd ["book","state","row"] (uP K gK):=by
 &ar Fn By ?_
 intro _ _ _ _ _ _ hr
 &ak ?_ ?_
 ·&qx PassesOwn.never rfl ?_ ?_ ?_
  ·~gy (ad 2)
  ·~aj 3 By.nd
  &ao ?_
  &aB ?_ ?_
  ·~ai xJ hr (ac (ad 0) (ac (ad 1) (ac (ad 3) af)))
  ~aj 1 By.nd
 &ao ?_
 ~ay (ad 1)
abbrev ek:Stmt:=top 40
theorem va:c9 ["state","many","alarm","count","ticks"] ["state","many"] (c6 ek):=uM
theorem jR(ul:l8 P w K mg base k "alarm_tick" ["state"] aL)(um:l8 P w K mg base k "count_tick" ["state"] aO)(FF:mg "list" = none)(vT:mg "range" = none)(Ji:mg "set" = none)(BN:mg "sorted" = none)(wH:u0 K mg "DAY" dD)(Fn:uv K "ring_ticks" "ring_ticks" ek f fd):k6 P w K mg base ue (k+1) f fd ["state","many"] (uP K bq):=by
 &ar Fn va ?_
 intro _ _ _ _ _ _ hr
 &ak ?_ ?_
 ·&aB ?_ ?_
  ·~ai ul hr (ac (ad 0) af)
  ~aj 2 va.nd
 &ak ?_ ?_
 ·&aB ?_ ?_
  ·~ai um hr (ac (ad 0) af)
  ~aj 3 va.nd
 &iX 4 va.nd af ?_
 &qZ 4 rfl FF vT va.nd ?_ (ad 2) ?_ (av wH) ?_
 ·~aE ce (ad 2) aR
 ·~al aD (ad 1) ae
 &eV ?_ ?_
 ·&oQ ?_ ?_ iM
  ·&fj ?_
   &ji ?_ ?_
   ·~aE ce (ad 3) aR
   &gF ?_
   ~aE qL (ad 3) (ad 1)
  &gD ?_
  ~jg 4 (ad 3)
 &jo ?_
 &ao ?_
 &ay ?_
 ~tR rfl BN Ji (ad 4)
abbrev fE:Stmt:=top 85
theorem kH:c9 ["state"] ["state"] (c6 fE):=uM
theorem kR(n8:u0 K mg "HELD" aV)(Fn:uv K "turn_sign" "turn_sign" fE f fd):k6 P w K mg base ue (k+1) f fd ["state"] (uP K cT):=by
 &ar Fn kH ?_
 intro _ _ _ _ _ _ hr
 &ao ?_
 &ay ?_
 &fm ?_ aA ?_
 ·~aE gb (ag (ad 0) (av n8)) aR
 ~sw (ag (ag (ad 0) (av n8)) ae)
abbrev ci:Stmt:=top 84
theorem vg:c9 ["book","state","many","stretch","told"] ["book","state","many"] (c6 ci):=uM
theorem gq(xK:l8 P w K mg base k "ring_ticks" ["state","many"] bq)(uy:l8 P w K mg base k "stretches" ["book","state","many"] aK)(yB:l8 P w K mg base k "turn_sign" ["state"] cT)(Fn:uv K "tick_happenings" "tick_happenings" ci f fd):k6 P w K mg base ue (k+1) f fd ["book","state","many"] (uP K bo):=by
 &ar Fn vg ?_
 intro _ _ _ _ _ _ hr
 &iX 4 vg.nd af ?_
 &eV ?_ ?_
 ·&qg PassesOwn.never rfl ?_ ?_ ?_
  ·&gy ?_
   ~ai uy hr (ac (ad 0) (ac (ad 1) (ac (ad 2) af)))
  ·~aj 3 vg.nd
  &mV ?_ ?_
  ·&oQ ?_ ?_ iM
   ·~aE gh (ag (ad 3) ae) ae
   &gD ?_
   &jg 4 ?_
   &ax ?_
   &ac (ag (ad 3) ae) ?_
   &ac ?_ af
   ~ai yB hr (ac (ad 1) af)
  &gD ?_
  &qo 4 ?_
  &oJ (T:=["tick"]) rfl ?_ ?_ ?_ ?_ (xm (by decide)) (show List.Nodup ((["tick"]:List Str)++(["book" ,"state" ,"many" ,"stretch" ,"told"]:List Str)) from by decide +kernel)
  ·&gy ?_
   &ai xK hr ?_
   ~ac (ag (ad 3) ae) (ac (ag (ad 3) ae) af)
  ·intro C s₃ H₃ fp
   ~aj 0 (show List.Nodup (["tick" ,"book" ,"state" ,"many" ,"stretch" ,"told"]:List Str) from by decide +kernel)
  ·intro C s₃ H₃ fp
   ~lz
  intro C s₃ H₃ fp
  &ax ?_
  &ac ?_ (ac aA af)
  ~al aD (ag (ad 4) ae) (ad 0)
 &jo ?_
 &ao ?_
 ~ay (ad 4)
abbrev fg:Stmt:=top 83
theorem jU:c9 ["book","state","event"] ["book","state","event"] (c6 fg):=uM
theorem jY(vL:l8 P w K mg base k "is_short" ["state","button"] bK)(vG:l8 P w K mg base k "tick_happenings" ["book","state","many"] bo)(Fn:uv K "happenings" "happenings" fg f fd):k6 P w K mg base ue (k+1) f fd ["book","state","event"] (uP K bf):=by
 &ar Fn jU ?_
 intro _ _ _ _ _ _ hr
 &ak ?_ ?_
 ·&cP ?_ ?_ aU
  ·~aE (cC hr) (ag (ad 2) ae) aA
  &ao ?_
  &ay ?_
  &ai vG hr ?_
  ~ac (ad 0) (ac (ad 1) (ac (ag (ad 2) ae) af))
 &ak ?_ ?_
 ·&cP ?_ ?_ aU
  ·&fj ?_
   &ji ?_ ?_
   ·~aE (cC hr) (ag (ad 2) ae) aA
   &gF ?_
   &cH ?_
   ~ai vL hr (ac (ad 1) (ac (ag (ad 2) ae) af))
  &ao ?_
  &ay ?_
  &gX ?_
  &ac ?_ af
  ~ax (ac ae (ac (ag (ad 2) ae) af))
 &ao ?_
 &ay ?_
 ~gX af
abbrev kE:Stmt:=top 82
theorem wq:c9 ["book","row","state","ticks","event","told"] ["book","row"] (c6 kE):=uM
theorem qm(vU:l8 P w K mg base k "begun" ["book"] bX)(xJ:l8 P w K mg base k "gone" ["book","state","event"] dB)(xM:l8 P w K mg base k "happenings" ["book","state","event"] bf)(yQ:mg "tuple" = none)(Fn:uv K "story" "story" kE f fd):k6 P w K mg base ue (k+1) f fd ["book","row"] (uP K dG):=by
 &ar Fn wq ?_
 intro _ _ _ _ _ _ hr
 &ak ?_ ?_
 ·&aB ?_ ?_
  ·~ai vU hr (ac (ad 0) af)
  ~aj 2 wq.nd
 &ak ?_ ?_
 ·&aB ae ?_
  ~aj 3 wq.nd
 &iX 5 wq.nd af ?_
 &eV ?_ ?_
 ·&qg PassesOwn.never rfl ?_ ?_ ?_
  ·~gy (ad 1)
  ·~aj 4 wq.nd
  &mV ?_ ?_
  ·&qo 5 ?_
   &oJ (T:=["pair"]) rfl ?_ ?_ ?_ ?_ (xm (by decide)) (show List.Nodup ((["pair"]:List Str)++(["book" ,"row" ,"state" ,"ticks" ,"event" ,"told"]:List Str)) from by decide +kernel)
   ·&gy ?_
    ~ai xM hr (ac (ad 0) (ac (ad 2) (ac (ad 4) af)))
   ·intro C s₃ H₃ fp
    ~aj 0 (show List.Nodup (["pair" ,"book" ,"row" ,"state" ,"ticks" ,"event" ,"told"]:List Str) from by decide +kernel)
   ·intro C s₃ H₃ fp
    ~lz
   intro C s₃ H₃ fp
   &ax ?_
   &ac ?_ (ac (ag (ad 0) ae) af)
   ~al aD (ad 4) (ag (ad 0) ae)
  &q_ ?_
  &ak ?_ ?_
  ·&aB ?_ ?_
   ·~ai xJ hr (ac (ad 0) (ac (ad 2) (ac (ad 4) af)))
   ~aj 2 wq.nd
  &ao ?_
  &cP ?_ ?_ aU
  ·~aE (cC hr) (ag (ad 4) ae) aA
  &ao ?_
  &aB ?_ ?_
  ·~al aD (ad 3) (ag (ad 4) ae)
  ~aj 3 wq.nd
 &jo ?_
 &ao ?_
 &ay ?_
 ~fV mh yQ (ac (ad 5) af)
abbrev dA:Stmt:=top 87
theorem iG:c9 ["_law_script","_law_k"] ["_law_script","_law_k"] (c6 dA):=uM
theorem iH(ve:mg "len" = none)(Fn:uv K "_law_cell_at" "_law_cell_at" dA f fd):k6 P w K mg base ue (k+1) f fd ["_law_script","_law_k"] (uP K bQ):=by
 &ar Fn iG ?_
 intro _ _ _ _ _ _ hr
 &ak ?_ ?_
 ·&cP ?_ ?_ aU
  ·&aE oA (ad 1) ?_
   ~bD gt ve (ac (ad 0) af)
  &ao ?_
  ~ay (ag (ad 0) (ad 1))
 &ao ?_
 ~ay ae
abbrev eR:Stmt:=top 88
theorem y6:c9 ["_law_script","_law_k","_law_drawn_here"] ["_law_script","_law_k"] (c6 eR):=uM
theorem j4(wK:l8 P w K mg base k "_law_cell_at" ["_law_script","_law_k"] bQ)(Fn:uv K "_law_mixed" "_law_mixed" eR f fd):k6 P w K mg base ue (k+1) f fd ["_law_script","_law_k"] (uP K aJ):=by
 &ar Fn y6 ?_
 intro _ _ _ _ _ _ hr
 &ak ?_ ?_
 ·&aB ?_ ?_
  ·&al aI ?_ ae
   &al dv ?_ ae
   &al aD ?_ ae
   &al aD ?_ ?_
   ·~ai wK hr (ac (ad 0) (ac (ad 1) af))
   ~al dv ae (ad 1)
  ~aj 2 y6.nd
 &ao ?_
 &ay ?_
 &al aI ?_ ae
 &al aD ?_ (ad 1)
 &al aD ?_ ?_
 ·~al dv (ad 2) (ad 2)
 ~al dv ae (ad 2)
abbrev eY:Stmt:=top 89
theorem yZ:c9 ["_law_number","_law_k","_law_drawn_here"] ["_law_number","_law_k"] (c6 eY):=uM
theorem j7(Fn:uv K "_law_drawn" "_law_drawn" eY f fd):k6 P w K mg base ue (k+1) f fd ["_law_number","_law_k"] (uP K aT):=by
 &ar Fn yZ ?_
 intro _ _ _ _ _ _ hr
 &ak ?_ ?_
 ·&aB ?_ ?_
  ·&al aI ?_ ae
   &al dv ?_ ae
   &al aD ?_ ae
   &al aD (ad 0) ?_
   ~al dv ae (ad 1)
  ~aj 2 yZ.nd
 &ao ?_
 &ay ?_
 &al aI ?_ ae
 &al aD ?_ (ad 1)
 &al aD ?_ ?_
 ·~al dv (ad 2) (ad 2)
 ~al dv ae (ad 2)
abbrev fK:Stmt:=top 91
theorem t4:c9 ["_law_number","_law_many","_law_deeds","_law_modes","_law_k","_law_drawn_here","_law_rows","_law_j","_law_one","_law_face"] ["_law_number"] (c6 fK):=uM
theorem lM(uI:l8 P w K mg base k "_law_drawn" ["_law_number","_law_k"] aT)(vT:mg "range" = none)(Fn:uv K "_law_book" "_law_book" fK f fd):k6 P w K mg base ue (k+1) f fd ["_law_number"] (uP K cM):=by
 &ar Fn t4 ?_
 intro _ _ _ _ _ _ hr
 &ak ?_ ?_
 ·&aB ?_ ?_
  ·&al aD ae ?_
   ~al aI (ad 0) ae
  ~aj 1 t4.nd
 &ak ?_ ?_
 ·&aB ?_ ?_
  ·&ax ?_
   &ac aA ?_
   &ac aA ?_
   &ac aA ?_
   &ac aA ?_
   &ac aA ?_
   &ac aA ?_
   &ac aA ?_
   &ac aA ?_
   ~ac aA (ac aA (ac aA (ac aA af)))
  ~aj 2 t4.nd
 &ak ?_ ?_
 ·&aB ?_ ?_
  ·~ax af
  ~aj 3 t4.nd
 &ak ?_ ?_
 ·&qx PassesOwn.never rfl ?_ ?_ ?_
  ·~oy vT (ad 1)
  ·~aj 4 t4.nd
  &ak ?_ ?_
  ·&aB ?_ ?_
   ·&al bN ?_ ae
    ~ai uI hr (ac (ad 0) (ac (ad 4) af))
   ~aj 5 t4.nd
  &ak ?_ ?_
  ·&aB ?_ ?_
   ·~ax af
   ~aj 6 t4.nd
  &ak ?_ ?_
  ·&qx PassesOwn.never rfl ?_ ?_ ?_
   ·~oy vT ae
   ·~aj 7 t4.nd
   &ak ?_ ?_
   ·&aB ?_ ?_
    ·&al bN ?_ ae
     &ai uI hr ?_
     &ac (ad 5) ?_
     &ac ?_ af
     ~al aD ae (ad 7)
    ~aj 8 t4.nd
   &ao ?_
   &aB ?_ ?_
   ·&al aD (ad 6) ?_
    &ax ?_
    &ac ?_ af
    &ax ?_
    &ac ?_ ?_
    ·&ag ?_ ?_
     ·&al aD (ad 2) ?_
      ~ax (ac aA af)
     ~al aI (ad 8) ae
    &ac ?_ af
    &al aI ?_ (ad 1)
    ~al bN (ad 8) ae
   ~aj 6 t4.nd
  &ak ?_ ?_
  ·&aB ?_ ?_
   ·&ag ?_ ?_
    ·&ax ?_
     ~ac aA (ac aA (ac aA (ac aA af)))
    ~al aI (ad 5) ae
   ~aj 9 t4.nd
  &ao ?_
  &aB ?_ ?_
  ·&al aD (ad 3) ?_
   &ax ?_
   &ac ?_ af
   &ax ?_
   &ac (ad 9) ?_
   &ac ?_ (ac (ad 6) af)
   &cG (cC hr) ?_ ae
   &al aI ?_ ae
   ~al bN (ad 5) ae
  ~aj 3 t4.nd
 &ao ?_
 &ay ?_
 &ax ?_
 &ac ?_ ?_
 ·&al aD ae ?_
  &al aI ?_ ?_
  ·~al bN (ad 0) ae
  &ag ?_ ?_
  ·~ax (ac ae (ac ae af))
  &al aI ?_ ae
  ~al bN (ad 0) ae
 &ac ?_ (ac (ad 3) af)
 &ag ?_ ?_
 ·&ax ?_
  &ac ae ?_
  ~ac ae (ac ae (ac ae (ac ae af)))
 &al aI ?_ ae
 ~al bN (ad 0) ae
abbrev eG:Stmt:=top 92
theorem w8:c9 ["_law_number","_law_button","_law_kind"] ["_law_number"] (c6 eG):=uM
theorem j6(Fn:uv K "_law_event" "_law_event" eG f fd):k6 P w K mg base ue (k+1) f fd ["_law_number"] (uP K cj):=by
 &ar Fn w8 ?_
 intro _ _ _ _ _ _ hr
 &ak ?_ ?_
 ·&aB ?_ ?_
  ·&ag aA ?_
   &al aI ?_ ae
   ~al bN (ad 0) ae
  ~aj 1 w8.nd
 &ak ?_ ?_
 ·&aB ?_ ?_
  ·~al aI (ad 0) ae
  ~aj 2 w8.nd
 &ak ?_ ?_
 ·&cP ?_ ?_ aU
  ·~aE oA (ad 2) ae
  &ao ?_
  &ay ?_
  ~ax (ac aA (ac (ad 1) af))
 &ak ?_ ?_
 ·&cP ?_ ?_ aU
  ·~aE oA (ad 2) ae
  &ao ?_
  &ay ?_
  ~ax (ac aA (ac (ad 1) af))
 &ao ?_
 &ay ?_
 &ax ?_
 &ac aA ?_
 &ac ?_ af
 &al aD ae ?_
 &al aI ?_ ?_
 ·~al bN (ad 0) ae
 &ag ?_ ?_
 ·~ax (ac ae (ac ae (ac ae af)))
 &al aI ?_ ae
 ~al bN (ad 0) ae
abbrev e_:Stmt:=top 95
theorem wQ:c9 ["_law_book_here","_law_number","_law_last","_law_rows"] ["_law_book_here","_law_number"] (c6 e_):=uM
theorem kf(ve:mg "len" = none)(Fn:uv K "_law_ready" "_law_ready" e_ f fd):k6 P w K mg base ue (k+1) f fd ["_law_book_here","_law_number"] (uP K cz):=by
 &ar Fn wQ ?_
 intro _ _ _ _ _ _ hr
 &ak ?_ ?_
 ·&cP ?_ ?_ aU
  ·&aE (cC hr) ?_ ae
   ~al aI (ad 1) ae
  &ao ?_
  ~ay (ad 0)
 &ak ?_ ?_
 ·&aB ?_ ?_
  ·&al aI ?_ ?_
   ·~al bN (ad 1) ae
   ~bD gt ve (ac (ag (ad 0) ae) af)
  ~aj 2 wQ.nd
 &ak ?_ ?_
 ·&aB ?_ ?_
  ·&ax ?_
   &ac ?_ ?_
   ·~ax (ac aA (ac ae af))
   &ac ?_ ?_
   ·~ax (ac aA (ac (ad 2) af))
   &ac ?_ ?_
   ·~ax (ac aA (ac ae af))
   &ac ?_ ?_
   ·~ax (ac aA (ac ae af))
   &ac ?_ ?_
   ·~ax (ac aA (ac ae af))
   &ac ?_ af
   ~ax (ac aA (ac (ad 2) af))
  ~aj 3 wQ.nd
 &ao ?_
 &ay ?_
 &ax ?_
 &ac (ag (ad 0) ae) ?_
 &ac (ag (ad 0) ae) ?_
 &ac ?_ af
 &al aD ?_ ?_
 ·&ax ?_
  &ac ?_ af
  ~ax (ac aA (ac dI (ac (ad 3) af)))
 &gG (ag (ad 0) ae) ?_ iV
 ~iP ae
abbrev hV:Stmt:=top 66
theorem AZ:c9 ["number","texts"] ["number"] (c6 hV):=uM
theorem nQ(zp:mg "reversed" = none)(CV:mg "str" = none)(DH:u0 K mg "BLOCK" eN)(Fn:uv K "figures" "figures" hV f fd):k6 P w K mg base ue (k+1) f fd ["number"] (uP K cI):=by
 &ar Fn AZ ?_
 intro _ _ _ _ _ _ hr
 &iX 1 AZ.nd af ?_
 &eV ?_ ?_
 ·&sj ?_
  &qv PassesOwn.never ?_
  ~aE sx (ad 0) (av DH)
 &eV ?_ ?_
 ·&jg 1 ?_
  ~fV qd CV (ac (ad 0) af)
 &jo ?_
 &ao ?_
 &ay ?_
 ~qU rfl zp aA (ad 1)
abbrev dO:Stmt:=top 67
theorem jG:c9 ["number"] ["number"] (c6 dO):=uM
theorem jn(wo:l8 P w K mg base k "figures" ["number"] cI)(Fn:uv K "two_figures" "two_figures" dO f fd):k6 P w K mg base ue (k+1) f fd ["number"] (uP K aM):=by
 &ar Fn jG ?_
 intro _ _ _ _ _ _ hr
 &ao ?_
 &ay ?_
 &tZ ?_ (ac ae (ac aA af))
 ~ai wo hr (ac (ad 0) af)
abbrev fU:Stmt:=top 68
theorem lV:c9 ["hour","minute"] ["hour","minute"] (c6 fU):=uM
theorem lL(t_:l8 P w K mg base k "two_figures" ["number"] aM)(Fn:uv K "hour_text" "hour_text" fU f fd):k6 P w K mg base ue (k+1) f fd ["hour","minute"] (uP K bL):=by
 &ar Fn lV ?_
 intro _ _ _ _ _ _ hr
 &ao ?_
 &ay ?_
 &al aD ?_ ?_
 ·&al aD ?_ aA
  ~ai t_ hr (ac (ad 0) af)
 ~ai t_ hr (ac (ad 1) af)
abbrev fG:Stmt:=top 70
theorem z5:c9 ["state","clock"] ["state"] (c6 fG):=uM
theorem kO(vy:l8 P w K mg base k "hour_text" ["hour","minute"] bL)(t_:l8 P w K mg base k "two_figures" ["number"] aM)(ub:u0 K mg "CLOCK" aY)(Fn:uv K "time_text" "time_text" fG f fd):k6 P w K mg base ue (k+1) f fd ["state"] (uP K cS):=by
 &ar Fn z5 ?_
 intro _ _ _ _ _ _ hr
 &ak ?_ ?_
 ·&aB (ag (ad 0) (av ub)) ?_
  ~aj 1 z5.nd
 &ao ?_
 &ay ?_
 &al aD ?_ ?_
 ·&al aD ?_ aA
  &ai vy hr ?_
  &ac ?_ ?_
  ·~al bN (ad 1) ae
  &ac ?_ af
  &al aI ?_ ae
  ~al bN (ad 1) ae
 &ai t_ hr ?_
 &ac ?_ af
 ~al aI (ad 1) ae
abbrev eX:Stmt:=top 71
theorem y7:c9 ["state","alarm"] ["state"] (c6 eX):=uM
theorem ke(vy:l8 P w K mg base k "hour_text" ["hour","minute"] bL)(uf:u0 K mg "ALARM" ba)(Fn:uv K "alarm_text" "alarm_text" eX f fd):k6 P w K mg base ue (k+1) f fd ["state"] (uP K cy):=by
 &ar Fn y7 ?_
 intro _ _ _ _ _ _ hr
 &ak ?_ ?_
 ·&aB (ag (ad 0) (av uf)) ?_
  ~aj 1 y7.nd
 &ao ?_
 &ay ?_
 &al aD ?_ ?_
 ·&ai vy hr ?_
  ~ac (ag (ad 1) ae) (ac (ag (ad 1) ae) af)
 &fm ?_ aA aA
 ~cH (ag (ad 1) ae)
abbrev dQ:Stmt:=top 69
theorem jr:c9 ["seconds"] ["seconds"] (c6 dQ):=uM
theorem jB(wo:l8 P w K mg base k "figures" ["number"] cI)(t_:l8 P w K mg base k "two_figures" ["number"] aM)(Fn:uv K "minute_text" "minute_text" dQ f fd):k6 P w K mg base ue (k+1) f fd ["seconds"] (uP K bu):=by
 &ar Fn jr ?_
 intro _ _ _ _ _ _ hr
 &ao ?_
 &ay ?_
 &al aD ?_ ?_
 ·&al aD ?_ aA
  &ai wo hr ?_
  &ac ?_ af
  ~al bN (ad 0) ae
 &ai t_ hr ?_
 &ac ?_ af
 ~al aI (ad 0) ae
abbrev fJ:Stmt:=top 72
theorem xG:c9 ["state","laps","kept"] ["state"] (c6 fJ):=uM
theorem lQ(uN:l8 P w K mg base k "minute_text" ["seconds"] bu)(ve:mg "len" = none)(CV:mg "str" = none)(vh:u0 K mg "LAPS" b_)(Fn:uv K "laps_text" "laps_text" fJ f fd):k6 P w K mg base ue (k+1) f fd ["state"] (uP K cO):=by
 &ar Fn xG ?_
 intro _ _ _ _ _ _ hr
 &ak ?_ ?_
 ·&aB (ag (ad 0) (av vh)) ?_
  ~aj 1 xG.nd
 &ak ?_ ?_
 ·&aB ?_ ?_
  ·~bD gt ve (ac (ag (ad 1) ae) af)
  ~aj 2 xG.nd
 &ao ?_
 &ay ?_
 &al aD ?_ ?_
 ·~ai uN hr (ac (ag (ad 1) ae) af)
 &fm ?_ ?_ aA
 ·~aE gh (ad 2) ae
 &al aD aA ?_
 ~fV qd CV (ac (ad 2) af)
abbrev eS:Stmt:=top 73
theorem jO:c9 ["state"] ["state"] (c6 eS):=uM
theorem ki(uN:l8 P w K mg base k "minute_text" ["seconds"] bu)(p4:u0 K mg "COUNT" aQ)(Fn:uv K "count_text" "count_text" eS f fd):k6 P w K mg base ue (k+1) f fd ["state"] (uP K cu):=by
 &ar Fn jO ?_
 intro _ _ _ _ _ _ hr
 &ao ?_
 &ay ?_
 ~ai uN hr (ac (ag (ag (ad 0) (av p4)) ae) af)
abbrev lP:Stmt:=top 64
theorem Bz:c9 ["book","state","face","face_text"] ["book","state"] (c6 lP):=uM
theorem qD(xN:l8 P w K mg base k "alarm_text" ["state"] cy)(xO:l8 P w K mg base k "count_text" ["state"] cu)(yC:l8 P w K mg base k "laps_text" ["state"] cO)(yD:l8 P w K mg base k "time_text" ["state"] cS)(uT:u0 K mg "MODE" bT)(xb:u0 K mg "RING" eI)(xP:Ew P w K mg base k "FACE_TEXTS" vz)(Fn:uv K "shown" "shown" lP f fd):k6 P w K mg base ue (k+1) f fd ["book","state"] (uP K dC):=by
 &ar Fn Bz ?_
 intro _ _ _ _ _ _ hr
 &ak ?_ ?_
 ·&aB ?_ ?_
  ·~ag (ag (ag (ad 0) ae) (ag (ad 1) (av uT))) ae
  ~aj 2 Bz.nd
 &sD 3 Bz.nd xP (ad 2) ?_
 intro fa G_ hF
 &HG ?_
 &JF ?_
 &Bo ?_ ?_
 ·~Mw (ad 2)
 &Bo ?_ ?_
 ·~Cu hF hr (ac (ad 1) af)
 &IW ?_
 &ac ?_ af
 ~cG gh (ag (ad 1) (av xb)) ae
abbrev eZ:Stmt:=top 41
theorem vd:c9 ["state","many","alarm","count","of_alarm","of_count"] ["state","many"] (c6 eZ):=uM
theorem jV(ul:l8 P w K mg base k "alarm_tick" ["state"] aL)(um:l8 P w K mg base k "count_tick" ["state"] aO)(wH:u0 K mg "DAY" dD)(Fn:uv K "ring_count" "ring_count" eZ f fd):k6 P w K mg base ue (k+1) f fd ["state","many"] (uP K bg):=by
 &ar Fn vd ?_
 intro _ _ _ _ _ _ hr
 &ak ?_ ?_
 ·&aB ?_ ?_
  ·~ai ul hr (ac (ad 0) af)
  ~aj 2 vd.nd
 &ak ?_ ?_
 ·&aB ?_ ?_
  ·~ai um hr (ac (ad 0) af)
  ~aj 3 vd.nd
 &ak ?_ ?_
 ·&aB ?_ ?_
  ·&fm ?_ ae ?_
   ·&fj ?_
    &gR ?_ ?_
    ·~aE gb (ad 2) aR
    &gp ?_
    ~aE gh (ad 2) (ad 1)
   &al aD ?_ ae
   &al bN ?_ (av wH)
   ~al bZ (ad 1) (ad 2)
  ~aj 4 vd.nd
 &ak ?_ ?_
 ·&aB ?_ ?_
  ·&fm ?_ ae ae
   &fj ?_
   &gR ?_ ?_
   ·~aE gb (ad 3) aR
   &gR ?_ ?_
   ·~aE gh (ad 3) (ad 1)
   &gp ?_
   ~aE (kG hr) (ad 3) (ad 2)
  ~aj 5 vd.nd
 &ao ?_
 &ay ?_
 ~al aD (ad 4) (ad 5)
abbrev cK:Stmt:=top 76
theorem gI:c9 ["book","state","many"] ["book","state","many"] (c6 cK):=uM
theorem gS(xQ:l8 P w K mg base k "ring_count" ["state","many"] bg)(uy:l8 P w K mg base k "stretches" ["book","state","many"] aK)(Jj:mg "sum" = none)(Fn:uv K "how_many_rings" "how_many_rings" cK f fd):k6 P w K mg base ue (k+1) f fd ["book","state","many"] (uP K bx):=by
 &ar Fn gI ?_
 intro _ _ _ _ _ _ hr
 &ao ?_
 &ay ?_
 &tH rfl Jj ?_
 &oJ (T:=["stretch"]) rfl ?_ ?_ ?_ ?_ (xm (by decide)) (show List.Nodup ((["stretch"]:List Str)++(["book" ,"state" ,"many"]:List Str)) from by decide +kernel)
 ·&gy ?_
  ~ai uy hr (ac (ad 0) (ac (ad 1) (ac (ad 2) af)))
 ·intro C s₃ H₃ fp
  ~aj 0 (show List.Nodup (["stretch" ,"book" ,"state" ,"many"]:List Str) from by decide +kernel)
 ·intro C s₃ H₃ fp
  ~lz
 intro C s₃ H₃ fp
 &ai xQ hr ?_
 ~ac (ag (ad 0) ae) (ac (ag (ad 0) ae) af)
abbrev gn:Stmt:=top 79
theorem mL:c9 ["book","state","event"] ["book","state","event"] (c6 gn):=uM
theorem mZ(vM:l8 P w K mg base k "how_many_rings" ["book","state","many"] bx)(Fn:uv K "rings_by" "rings_by" gn f fd):k6 P w K mg base ue (k+1) f fd ["book","state","event"] (uP K cF):=by
 &ar Fn mL ?_
 intro _ _ _ _ _ _ hr
 &ao ?_
 &ay ?_
 &fm ?_ ?_ ae
 ·~aE (cC hr) (ag (ad 2) ae) aA
 &ai vM hr ?_
 ~ac (ad 0) (ac (ad 1) (ac (ag (ad 2) ae) af))
abbrev di:Stmt:=inClass (top 78) 4
theorem v3:c9 ["self","event","behind","rung"] ["self","event"] (c6 di):=uM
theorem iD(xJ:l8 P w K mg base k "gone" ["book","state","event"] dB)(zq:l8 P w K mg base k "rings_by" ["book","state","event"] cF){C:Nat}(cl:yN K C)(xg:t8 K C "book")(uU:t8 K C "past")(n4:t8 K C "present")(uV:t8 K C "rung")(Fn:uv K "happen" "Watch.happen" di f fd):k6 P w K mg base ue (k+1) f fd ["self","event"] (G1 K 0 (aN C)):=by
 &fX (j:=0) Fn v3 ?_
 intro _ _ _ _ _ _ hr
 &aH ?_ ?_
 ·&bp ?_
  &aB ?_ ?_
  ·&ai xJ hr ?_
   &ac ?_ ?_
   ·~cg cl xg (ad 0)
   &ac ?_ (ac (ad 1) af)
   ~cg cl n4 (ad 0)
  ~aj 2 v3.nd
 &aH ?_ ?_
 ·&bp ?_
  &aB ?_ ?_
  ·&al aD ?_ ?_
   ·~cg cl uV (ad 0)
   &ai zq hr ?_
   &ac ?_ ?_
   ·~cg cl xg (ad 0)
   &ac ?_ (ac (ad 1) af)
   ~cg cl n4 (ad 0)
  ~aj 3 v3.nd
 &aH ?_ ?_
 ·&tM 0 cl uU ?_
  &ax ?_
  &ac (ad 1) ?_
  &ac ?_ ?_
  ·~cg cl n4 (ad 0)
  &ac ?_ af
  ~cg cl uV (ad 0)
 &aH ?_ ?_
 ·~el 0 cl n4 (ad 2)
 &bi ?_
 ~el 0 cl uV (ad 3)
abbrev eJ:Stmt:=inClass (top 78) 1
theorem jM:c9 ["self","button"] ["self","button"] (c6 eJ):=uM
theorem jQ{C:Nat}(cl:yN K C)(vH:yW P w K mg base k C "happen" ["self","event"] (aN C))(Fn:uv K "down" "Watch.down" eJ f fd):k6 P w K mg base ue (k+1) f fd ["self","button"] (G1 K 0 (br C)):=by
 &fX (j:=0) Fn jM ?_
 intro _ _ _ _ _ _ hr
 &bi ?_
 &nT 0 cl vH hr ?_
 &ac ?_ af
 ~ax (ac aA (ac (ad 1) af))
abbrev dM:Stmt:=inClass (top 78) 3
theorem jb:c9 ["self","many"] ["self","many"] (c6 dM):=uM
theorem jJ{C:Nat}(cl:yN K C)(vH:yW P w K mg base k C "happen" ["self","event"] (aN C))(Fn:uv K "ticks" "Watch.ticks" dM f fd):k6 P w K mg base ue (k+1) f fd ["self","many"] (G1 K 0 (bV C)):=by
 &fX (j:=0) Fn jb ?_
 intro _ _ _ _ _ _ hr
 &bi ?_
 &nT 0 cl vH hr ?_
 &ac ?_ af
 ~ax (ac aA (ac (ad 1) af))
abbrev gu:Stmt:=inClass (top 78) 2
theorem mR:c9 ["self","button"] ["self","button"] (c6 gu):=uM
theorem mj{C:Nat}(cl:yN K C)(vH:yW P w K mg base k C "happen" ["self","event"] (aN C))(Fn:uv K "up" "Watch.up" gu f fd):k6 P w K mg base ue (k+1) f fd ["self","button"] (G1 K 0 (bY C)):=by
 &fX (j:=0) Fn mR ?_
 intro _ _ _ _ _ _ hr
 &bi ?_
 &nT 0 cl vH hr ?_
 &ac ?_ af
 ~ax (ac aA (ac (ad 1) af))
abbrev gW:Stmt:=top 94
theorem nL:c9 ["_law_watch","_law_event_here"] ["_law_watch","_law_event_here"] (c6 gW):=uM
theorem nu{C:Nat}(cl:yN K C)(FG:yW P w K mg base k C "down" ["self","button"] (br C))(DI:yW P w K mg base k C "ticks" ["self","many"] (bV C))(Nq:yW P w K mg base k C "up" ["self","button"] (bY C))(Fn:uv K "_law_do" "_law_do" gW f fd):k6 P w K mg base ue (k+1) f fd ["_law_watch","_law_event_here"] (G1 K 0 (bE C)):=by
 &fX (j:=0) Fn nL ?_
 intro _ _ _ _ _ _ hr
 &aH ?_ ?_
 ·&m_ ?_ ?_ fY
  ·~aE (cC hr) (ag (ad 1) ae) aA
  &bi ?_
  ~kP 0 cl FG hr (ac (ag (ad 1) ae) af)
 &aH ?_ ?_
 ·&m_ ?_ ?_ fY
  ·~aE (cC hr) (ag (ad 1) ae) aA
  &bi ?_
  ~kP 0 cl Nq hr (ac (ag (ad 1) ae) af)
 &bi ?_
 ~kP 0 cl DI hr (ac (ag (ad 1) ae) af)
abbrev fD:Stmt:=top 90
theorem vA:c9 ["_law_deed","_law_found","e","_law_kinds"] ["_law_deed"] (c6 fD):=uM
theorem lh{ca:Nat->Addr}(xR:mg "ValueError" = none)(uz:mg "isinstance" = none){W:Addr}(EK:HH K mg ca W)(Fn:uv K "_law_told" "_law_told" fD f fd):k6 P w K mg base ue (k+1) f fd ["_law_deed"] (BC P w K mg base ca k ud):=by
  &qA Fn vA rfl (by decide) ?_
  intro _ _ _ _ _ _ hr
  ~(qy 0 2 1 EK hr rfl rfl rfl rfl rfl vA.nd (fun pins ea oe c hc2 hcl=>(ak (aB (gX (ac (om 2 (EK.two c hc2) (List.mem_append_right _ (List.mem_singleton.mpr rfl)) hcl (EK.k0 c hc2) (IU EK.m0) uz) (ac (om 2 (EK.two c hc2) (List.mem_append_right _ (List.mem_singleton.mpr rfl)) hcl (EK.k1 c hc2) (IU EK.m1) uz) af))) (aj 3 vA.nd))
  (ak (aB (ax (ac aA (ac (qI nN ae) af))) (aj 1 vA.nd))
  (ao (cP (fj (ji (cH (om 2 (EK.two c hc2) (List.mem_append_right _ (List.mem_singleton.mpr rfl)) hcl (EK.kv c hc2) (M2 xR) uz)) (gF (aE tm (so (ad 3) (ac dI af)) ae))))
  (ao (aB (ax (ac aA (ac (rF (ad 3) (ac dI af)) af))) (aj 1 vA.nd)))
  aU))))) C0 (hlt:=(by decide:1<4)))
abbrev fh:Stmt:=inClass (top 78) 7
theorem kh:c9 ["self"] ["self"] (c6 fh):=uM
theorem jX{C:Nat}(cl:yN K C)(uV:t8 K C "rung")(Fn:uv K "rang" "Watch.rang" fh f fd):k6 P w K mg base ue (k+1) f fd ["self"] (uP K (bS C)):=by
 &ar Fn kh ?_
 intro _ _ _ _ _ _ hr
 &ao ?_
 &ay ?_
 ~cg cl uV (ad 0)
abbrev fO:Stmt:=inClass (top 78) 9
theorem lC:c9 ["self"] ["self"] (c6 fO):=uM
theorem lE(yQ:mg "tuple" = none){C:Nat}(cl:yN K C)(uU:t8 K C "past")(Fn:uv K "row" "Watch.row" fO f fd):k6 P w K mg base ue (k+1) f fd ["self"] (uP K (bM C)):=by
 &ar Fn lC ?_
 intro _ _ _ _ _ _ hr
 &ao ?_
 &ay ?_
 &fV mh yQ ?_
 &ac ?_ af
 &lJ 0 C ?_
 &oJ (T:=["step"]) rfl ?_ ?_ ?_ (fun C s₃ H₃ fp=>(ag (ad 0) ae)) (xm (by decide)) (show List.Nodup ((["step"]:List Str)++(["self"]:List Str)) from by decide +kernel)
 ·&sU ?_
  ~cg cl uU (ad 0)
 ·intro C s₃ H₃ fp
  ~aj 0 (show List.Nodup (["step" ,"self"]:List Str) from by decide +kernel)
 intro C s₃ H₃ fp
 ~lz
abbrev dL:Stmt:=inClass (top 78) 5
theorem jK:c9 ["self"] ["self"] (c6 dL):=uM
theorem jE{C:Nat}(uO:l8 P w K mg base k "shown_going" ["book","state"] dC)(cl:yN K C)(xg:t8 K C "book")(n4:t8 K C "present")(Fn:uv K "shown" "Watch.shown" dL f fd):k6 P w K mg base ue (k+1) f fd ["self"] (uP K (bW C)):=by
 &ar Fn jK ?_
 intro _ _ _ _ _ _ hr
 &ao ?_
 &ay ?_
 &ai uO hr ?_
 &ac ?_ ?_
 ·~cg cl xg (ad 0)
 &ac ?_ af
 ~cg cl n4 (ad 0)
abbrev dR:Stmt:=inClass (top 78) 6
theorem ju:c9 ["self"] ["self"] (c6 dR):=uM
theorem je{C:Nat}(cl:yN K C)(n4:t8 K C "present")(Fn:uv K "state" "Watch.state" dR f fd):k6 P w K mg base ue (k+1) f fd ["self"] (uP K (bH C)):=by
 &ar Fn ju ?_
 intro _ _ _ _ _ _ hr
 &ao ?_
 &ay ?_
 ~cg cl n4 (ad 0)
abbrev c_:Stmt:=inClass (top 78) 8
theorem vP:c9 ["self","last"] ["self"] (c6 c_):=uM
theorem j8(ve:mg "len" = none){C:Nat}(cl:yN K C)(uU:t8 K C "past")(n4:t8 K C "present")(uV:t8 K C "rung")(Fn:uv K "undo" "Watch.undo" c_ f fd):k6 P w K mg base ue (k+1) f fd ["self"] (G1 K 0 (eQ C)):=by
 &fX (j:=0) Fn vP ?_
 intro _ _ _ _ _ _ hr
 &aH ?_ ?_
 ·&m_ ?_ ?_ fY
  ·&aE (cC hr) ?_ ae
   &lJ 0 C ?_
   &bD gt ve ?_
   &ac ?_ af
   ~cg cl uU (ad 0)
  ~bi rn
 &aH ?_ ?_
 ·~qM 1 0 vP.nd cl uU
 &aH ?_ ?_
 ·~el 0 cl n4 (ag (ad 1) ae)
 &bi ?_
 ~el 0 cl uV (ag (ad 1) ae)
theorem BB{P:Program}{w:World}{K:PySem.W.Frag}{mg:Str->Option Value}{base:Heap}{k:Nat}{ca:Nat->Addr}{W:Addr}(EK:HH K mg ca W)(ve:mg "len" = none){C:Nat}(cl:yN K C)(uU:t8 K C "past")(n4:t8 K C "present")(uV:t8 K C "rung"){f:Addr}{fd:FuncData}(Fn:uv K "undo" "Watch.undo" c_ f fd):k6 P w K mg base (AS P w) (k+1) f fd ["self"] (M4 ca K 1 (m6 C)):=by
  &qQ Fn vP ?_
  intro _ _ _ _ _ _ hr
  ~(IL (aE (cC hr) (lJ 0 C (bD gt ve (ac (cg cl uU (ad 0)) af))) ae) (Hc EK rfl aA)
  (aH (qM 1 0 vP.nd cl uU)
  (aH (el 0 cl n4 (ag (ad 1) ae))
  (bi (el 0 cl uV (ag (ad 1) ae))))))
abbrev cD:Stmt:=inClass (top 78) 0
theorem gO:c9 ["self","book"] ["self","book"] (c6 cD):=uM
theorem gQ(vU:l8 P w K mg base k "begun" ["book"] bX){C:Nat}(cl:yN K C)(xg:t8 K C "book")(uU:t8 K C "past")(n4:t8 K C "present")(uV:t8 K C "rung")(Fn:uv K "__init__" "Watch.__init__" cD f fd):k6 P w K mg base ue (k+1) f fd ["self","book"] (NC K 2 2 C "past" (aS C)):=by
 &KU Fn gO ?_
 intro _ _ _ _ _ _ hr
 &Dj ?_ ?_
 ·~el 0 cl xg (ad 1)
 &Dj ?_ ?_
 ·&el 0 cl n4 ?_
  ~ai vU hr (ac (ad 1) af)
 &Dj ?_ ?_
 ·~el 0 cl uV ae
 ~KQ 0 cl uU
theorem M_{P:Program}{w:World}{K:W.Frag}{mg:Str->Option Value}{base:Heap}{k:Nat}{ca:Nat->Addr}{C:Nat}(cl:yN K C)(MX_undo:Fi ca P w K mg base k C "undo" ["self"] (m6 C))(f c':Addr)(cl':List (Str×Addr))(pm ctv:Value)(S:ww EG.N EG.ps EG.scope cl'):k6 P w K mg base (AS P w) (k+1) f (W.kla_fn "<lambda>" EG.q EG.params EG.body EG.scope cl' pm (.ref c') ctv) EG.ps (BV ca K EG 0 (zu C (oS "undo") 0 (m6 C) c7) f c' cl' pm ctv):=
 N_ rfl (fun cl' f c' A outer s H E S hr=>rB 0 cl MX_undo hr rfl) f c' cl' pm ctv S
theorem Nc{K:W.Frag}:∀(c':Addr) (cl:List (Str×Addr)) (pm ctv:Value),Binds K (W.kla_fn "<lambda>" EG.q EG.params EG.body EG.scope cl pm (.ref c') ctv) EG.ps []:=Mh fun _ _ _ _ us hl=>by cases us with | nil=>rfl | cons a b=>cases hl
abbrev dU:Stmt:=top 96
theorem u4:c9 ["_law_script","_law_book_here","_law_watch","_law_other","_law_row_here","_law_event_here","_law_k","_law_number","_law_due","_law_state","_law_many","_law_some"] ["_law_script"] (c6 dU):=uM
theorem tj(yE:l8 P w K mg base k "_law_book" ["_law_number"] cM)(uI:l8 P w K mg base k "_law_drawn" ["_law_number","_law_k"] aT)(xS:l8 P w K mg base k "_law_event" ["_law_number"] cj)(uJ:l8 P w K mg base k "_law_mixed" ["_law_script","_law_k"] aJ)(xT:l8 P w K mg base k "_law_ready" ["_law_book_here","_law_number"] cz)(DJ:l8 P w K mg base k "after" ["book","state","row"] gK)(vU:l8 P w K mg base k "begun" ["book"] bX)(DK:l8 P w K mg base k "story" ["book","row"] dG)(FH:mg "bool" = none)(Jk:mg "int" = none)(uz:mg "isinstance" = none)(ve:mg "len" = none)(vT:mg "range" = none){C:Nat}(uO:l8 P w K mg base k "shown_going" ["book","state"] dC)(cl:yN K C)(DL:AA P w K mg base k C "rang" ["self"] (bS C))(GD:AA P w K mg base k C "row" ["self"] (bM C))(DM:AA P w K mg base k C "shown" ["self"] (bW C))(AT:AA P w K mg base k C "state" ["self"] (bH C)){ca:Nat->Addr}{kX:Nat}(yF:yI P w K mg base ca k (kX+1) "_law_told" ["_law_deed"] ud)(MX_undo:Fi ca P w K mg base kX C "undo" ["self"] (m6 C))(yR:Fb P w K mg base k "_law_do" ["_law_watch","_law_event_here"] 0 (bE C)){fI:Addr}{fdI:FuncData}{kI:Nat}(MK:Mk K C fI)(FI:k6 P w K mg base ue kI fI fdI ["self","book"] (NC K 2 2 C "past" (aS C)))(BI:Binds K fdI ["self","book"] [])(mgW:mg "Watch" = some (.ref C))(hkI:kI+1<=k){ct:wk}(hq:ct.q=("law.<locals>.<lambda>" : Str))(TB:vS mg [ct] base)(Fn:MY K "law" "law" dU f fd ct.c):k6 P w K mg base ue (k+1) f fd ["_law_script"] (spT K (ng C) ct):=by
 &rQ Fn u4 (tP C) ?_ (tY C)
 intro A outer s H E hr hT
 have hrI:=hr.mono hkI
 have Lm1:=Jg (X:=(yi ue P w K mg base ["_law_script","_law_book_here","_law_watch","_law_other","_law_row_here","_law_event_here","_law_k","_law_number","_law_due","_law_state","_law_many","_law_some"] "law" (c6 dU) f (.ref ct.c) A outer s H E).nox) (t:=EG) (ct:=ct) (x:="_law_watch") (c:=s.heap.objs.size+1) (j:=2) TB hT hq.symm rfl hq.symm (fun _=>rfl) rfl rfl rfl rfl rfl rfl rfl rfl (by decide) rfl (by decide +kernel) (by decide +kernel) rfl (by decide +kernel)
 &ak ?_ ?_
 ·&aB ?_ ?_
  ·&ai xT hr ?_
   &ac ?_ ?_
   ·&ai yE hr ?_
    &ac ?_ af
    ~ai uJ hr (ac (ad 0) (ac ae af))
   &ac ?_ af
   &al bN ?_ ae
   &ai uI hr ?_
   &ac ?_ (ac ae af)
   ~ai uJ hr (ac (ad 0) (ac ae af))
  ~aj 1 u4.nd
 &sg 2 u4.nd MK FI BI hrI mgW (ac (ad 1) af) ?_
 &qk 3 u4.nd MK FI BI hrI mgW (ac (ad 1) af) ?_
 &aH ?_ ?_
 ·&bp ?_
  &aB ?_ ?_
  ·~ax af
  ~aj 4 u4.nd
 &aH ?_ ?_
 ·&m_ ?_ ?_ fY
  ·&aE (cC hr) ?_ ae
   &al aI ?_ ae
   ~ai uJ hr (ac (ad 0) (ac ae af))
  &bi ?_
  &qV PassesOwn.never rfl ?_ ?_ ?_
  ·&rP ?_
   &ax ?_
   &ac ?_ ?_
   ·~ax (ac aA (ac aA af))
   &ac ?_ ?_
   ·~ax (ac aA (ac aA af))
   &ac ?_ af
   ~ax (ac aA (ac ae af))
  ·~aj 5 u4.nd
  &aH ?_ ?_
  ·~qf 2 yR hr (ac (ad 2) (ac (ad 5) af)) Lm
  &bi ?_
  &bp ?_
  &aB ?_ ?_
  ·&al aD (ad 4) ?_
   ~ax (ac (ad 5) af)
  ~aj 4 u4.nd
 &aH ?_ ?_
 ·&qV PassesOwn.never rfl ?_ ?_ ?_
  ·&qh vT ?_
   &al aI ?_ ae
   ~ai uJ hr (ac (ad 0) (ac ae af))
  ·~aj 6 u4.nd
  &aH ?_ ?_
  ·&bp ?_
   &aB ?_ ?_
   ·&ai uJ hr ?_
    &ac (ad 0) ?_
    &ac ?_ af
    ~al aD ae (ad 6)
   ~aj 7 u4.nd
  &aH ?_ ?_
  ·&m_ ?_ ?_ ?_
   ·&aE (cC hr) ?_ ae
    ~al aI (ad 7) ae
   ·&aH ?_ ?_
    ·&bp ?_
     &aB ?_ ?_
     ·&ag ?_ ?_
      ·&gX ?_
       &ac ?_ ?_
       ·~ax (ac aA (ac aR af))
       &ac ?_ af
       ~ax (ac aA (ac ae af))
      &fV s_ Jk ?_
      &ac ?_ af
      &cG (kG hr) (ad 4) ?_
      ~ax af
     ~aj 8 u4.nd
    &aH ?_ ?_
    ·&sG (ll hr) (rK (t:=EG) yF hr Lm1 rfl (M_ cl MX_undo) (Nc)) (ad 8) ?_ fY
     &bi ?_
     &bp ?_
     ~ay dI
    &bi ?_
    &bp ?_
    &aB ?_ ?_
    ·&gG (ad 4) iV ?_
     &iP ?_
     ~qI nN ae
    ~aj 4 u4.nd
   &aH ?_ ?_
   ·&bp ?_
    &aB ?_ ?_
    ·&ai xS hr ?_
     &ac ?_ af
     ~al bN (ad 7) ae
    ~aj 5 u4.nd
   &aH ?_ ?_
   ·&sH ce (qY 2 yR hr (ac (ad 2) (ac (ad 5) af)) Lm) aR ?_ fY
    &bi ?_
    &bp ?_
    ~ay dI
   &bi ?_
   &bp ?_
   &aB ?_ ?_
   ·&al aD (ad 4) ?_
    ~ax (ac (ad 5) af)
   ~aj 4 u4.nd
  &aH ?_ ?_
  ·&bp ?_
   &aB ?_ ?_
   ·&ai DJ hr ?_
    &ac (ad 1) ?_
    &ac ?_ (ac (ad 4) af)
    ~ai vU hr (ac (ad 1) af)
   ~aj 9 u4.nd
  &aH ?_ ?_
  ·&bp ?_
   &cP ?_ ?_ aU
   ·&fj ?_
    &gR ?_ ?_
    ·&aE (ll hr) ?_ (ad 9)
     ~eU cl AT hr (ad 2)
    &gR ?_ ?_
    ·&aE (ll hr) ?_ ?_
     ·~eU cl DM hr (ad 2)
     ~ai uO hr (ac (ad 1) (ac (ad 9) af))
    &gp ?_
    &aE (ll hr) ?_ (ad 4)
    ~eU cl GD hr (ad 2)
   &ao ?_
   ~ay dI
  &aH ?_ ?_
  ·&bp ?_
   &aB ?_ ?_
   ·~eU cl DL hr (ad 2)
   ~aj 10 u4.nd
  &aH ?_ ?_
  ·&bp ?_
   &rH (T:=["_law_one"]) rfl (i:=11) u4.nd ?_ ?_ ?_ (fun C s₃ H₃ fp=>(ad 0)) (xm (by decide)) (show List.Nodup ((["_law_one"]:List Str)++(["_law_script" ,"_law_book_here" ,"_law_watch" ,"_law_other" ,"_law_row_here" ,"_law_event_here" ,"_law_k" ,"_law_number" ,"_law_due" ,"_law_state" ,"_law_many" ,"_law_some"]:List Str)) from by decide +kernel)
   ·&gy ?_
    ~ai DK hr (ac (ad 1) (ac (ad 4) af))
   ·intro C s₃ H₃ fp
    ~aj 0 (show List.Nodup (["_law_one" ,"_law_script" ,"_law_book_here" ,"_law_watch" ,"_law_other" ,"_law_row_here" ,"_law_event_here" ,"_law_k" ,"_law_number" ,"_law_due" ,"_law_state" ,"_law_many" ,"_law_some"]:List Str) from by decide +kernel)
   intro C s₃ H₃ fp
   &sZ ?_
   ~aE (cC hr) (ag (ad 0) ae) aA
  &bi ?_
  &bp ?_
  &cP ?_ ?_ aU
  ·&fj ?_
   &gR ?_ ?_
   ·&cH ?_
    ~pq uz FH (ad 10)
   &gp ?_
   &aE (sE hr) (ad 10) ?_
   ~bD gt ve (ac (ad 11) af)
  &ao ?_
  ~ay dI
 &bi ?_
 &bp ?_
 &ay ?_
 &gj ?_ ?_
 ·&cG (kG hr) ?_ ?_
  ·~eU cl AT hr (ad 3)
  ~ai vU hr (ac (ad 1) af)
 &gj ?_ ?_
 ·&cG (kG hr) ?_ ?_
  ·~eU cl GD hr (ad 3)
  ~ax af
 &jc ?_
 &cG (cC hr) ?_ ae
 ~eU cl DL hr (ad 3)
end HW
namespace HW
open PySem PySem.Spec PyProof.Rows L2
theorem Cw(K:W.Frag)(H:Hp):∀ns:List Int,i5 K H (ns.map .int) (ns.map V.int)
 | []=>rfl
 | n::ns=>⟨.int n,_,rfl,rfl,Cw K H ns⟩
def iq:LD->OD:=fun ds=>open Classical in if ∃ns:List Int,ds=[.fro (ns.map .int)] then some (.bl true) else none
theorem II(C:Nat):∀ds d,iq ds=some d->ng C ds=some d:=fun ds d h=>by
 unfold iq at h
 split at h
 ·rename_i z
  !⟨ns,rfl⟩:=z
  rw[JV C ns];~h
 ·cases h
theorem HY(ns:List Int)(_:ns.length<=63):iq [.fro (ns.map .int)]=some (.bl true):=if_pos ⟨ns,rfl⟩
theorem all_mk{l:W.OpenLaw}{w:World}{K:W.Frag}{h:Heap}{mg:Str->Option Value}{fa:Addr}
  {C:Addr}
  {eA eB eW:Addr}
  {q:Program} {cA pA:Addr} {oc2:Value} {od2:Option Addr} {vs2:Array Value} {sl2:Array (Option Value)} {f75:Addr} {od75 an75:Option Addr} {sl75:Array (Option Value)} {oc75 kV75 dc75 pm75 ct75:Value}
  {Jl:Tok}
  {Jm:Tok}
  {Jn:Tok}
  {Jo:Tok}
  {Nr:Tok}
  {DN:Tok}
  {KY:Tok}
  {KZ:Tok}
  {K0:Tok}
  {K1:Tok}
  {DO:Tok}
  {K2:Tok}
  {zr:Addr} {FJ:Nat} {FK:Array (Option Value)} {FL FM FN FO FP FQ:Tok}
  {xh:Addr} {Cb:Nat} {BO BP BQ BR:Tok}
  {BS:Addr} {Jp:Nat} {Hm Hn Ho Hq Hr Hs Ht Hu Hv Hw FR FS FT:Tok}
  {f0 f1 f2 f3 f4 f5 f6 f7 f8 f9 f10 f11 f12 f13 f14 f15 f16 f17 f18 f19 f20 f21 f22 f23 f24 f25 f26 f27 f28 f29 f30 f31 f32 f33 f34 f35 f36 f37 f38 f39 f40 f41 f42 f43 f44 f45 f46 f47 f48 f49 f50 f51 f52 f53 f54 f55 f56 f57 f58 f59 f60 f61 f62 f63 f64 f65 f66 f67 f68 f69 f70 f71 f72 f73 f74:Addr}
  (X:K.In h) (G:h.Ns mainGlobals mg) (hfa:mg "law" = some (.ref fa))
  (aC:W.nsIn K mainGlobals "Watch" = some (some (.ref C))) (pg:W.plainGet K C Str.empty=true) (hd:W.hasDictIn K C=true) (po:W.plainOver K C=true) (sa:W.findIn K (.ref C) "__setattr__" = some (some (.builtin "object.__setattr__"))) (mkC:W.makesIn K C=true) (kc:W.keepIn K (.ref C)=true)
  (xg:W.findIn K (.ref C) "book" = some none)
  (uU:W.findIn K (.ref C) "past" = some none)
  (n4:W.findIn K (.ref C) "present" = some none)
  (uV:W.findIn K (.ref C) "rung" = some none)
  (n0:W.nsIn K mainGlobals "NoText" = some (some (.ref eA))) (n1:W.nsIn K mainGlobals "NoDeed" = some (some (.ref eB))) (nw:W.nsIn K mainGlobals "WatchError" = some (some (.ref eW))) (ep:L4 K eA eB eW)
  (a0:u6 K "begun" lT f0)
  (a1:u6 K "laps_on" im f1)
  (a2:u6 K "count_on" gi f2)
  (a3:u6 K "alarm_tick" eD f3)
  (a4:u6 K "count_tick" eM f4)
  (a5:u6 K "last_ring" fP f5)
  (a6:u6 K "ring_on" gZ f6)
  (a7:u6 K "held_on" io f7)
  (a8:u6 K "ticks_to_back" cX f8)
  (a9:u6 K "idle_on" gT f9)
  (a10:u6 K "counted" il f10)
  (a11:u6 K "goes_back" fR f11)
  (a12:u6 K "ticks_to_long" cW f12)
  (a13:u6 K "turn_tick" fM f13)
  (a14:u6 K "put" qz f14)
  (a15:u6 K "nothing" ia f15)
  (a16:u6 K "hour_on" hU f16)
  (a17:u6 K "minute_on" fL f17)
  (a18:u6 K "to_zero" gU f18)
  (a19:u6 K "alarm_hour_on" cU f19)
  (a20:u6 K "alarm_minute_on" cx f20)
  (a21:u6 K "alarm_turned" du f21)
  (a22:u6 K "laps_turned" dP f22)
  (a23:u6 K "lap_kept" gv f23)
  (a24:u6 K "set_to" jz f24)
  (a25:u6 K "count_minute_on" cq f25)
  (a26:u6 K "count_second_on" cB f26)
  (a27:u6 K "filled" jI f27)
  (a28:u6 K "count_turned" dw f28)
  (a29:u6 K "press_done" eh f29)
  (a30:u6 K "turned" i_ f30)
  (a31:u6 K "behind_turn" dS f31)
  (a32:u6 K "stretches" fS f32)
  (a33:u6 K "ticked" jA f33)
  (a34:u6 K "pushed" jD f34)
  (a35:u6 K "is_holding" eO f35)
  (a36:u6 K "is_short" gr f36)
  (a37:u6 K "let_go" iY f37)
  (a38:u6 K "gone" og f38)
  (a39:u6 K "after" kN f39)
  (a40:u6 K "ring_ticks" ek f40)
  (a41:u6 K "turn_sign" fE f41)
  (a42:u6 K "tick_happenings" ci f42)
  (a43:u6 K "happenings" fg f43)
  (a44:u6 K "story" kE f44)
  (a45:u6 K "_law_cell_at" dA f45)
  (a46:u6 K "_law_mixed" eR f46)
  (a47:u6 K "_law_drawn" eY f47)
  (a48:u6 K "_law_book" fK f48)
  (a49:u6 K "_law_event" eG f49)
  (a50:u6 K "_law_ready" e_ f50)
  (a51:u6 K "figures" hV f51)
  (a52:u6 K "two_figures" dO f52)
  (a53:u6 K "hour_text" fU f53)
  (a54:u6 K "time_text" fG f54)
  (a55:u6 K "alarm_text" eX f55)
  (a56:u6 K "minute_text" dQ f56)
  (a57:u6 K "laps_text" fJ f57)
  (a58:u6 K "count_text" eS f58)
  (a59:u6 K "shown" lP f59)
  (a60:u6 K "ring_count" eZ f60)
  (a61:u6 K "how_many_rings" cK f61)
  (a62:u6 K "rings_by" gn f62)
  (a63:Hy K C "happen" "Watch.happen" di f63)
  (a64:Hy K C "down" "Watch.down" eJ f64)
  (a65:Hy K C "ticks" "Watch.ticks" dM f65)
  (a66:Hy K C "up" "Watch.up" gu f66)
  (a67:u6 K "_law_do" gW f67)
  (a68:Hy K C "rang" "Watch.rang" fh f68)
  (a69:Hy K C "row" "Watch.row" fO f69)
  (a70:Hy K C "shown" "Watch.shown" dL f70)
  (a71:Hy K C "state" "Watch.state" dR f71)
  (a72:Hy K C "undo" "Watch.undo" c_ f72)
  (a73:Hy K C "__init__" "Watch.__init__" cD f73)
  (a74:u6 K "_law_told" fD f74)
  (a75:W.nsIn K mainGlobals "law" = some (some (.ref f75))) (l75:K.lookup f75=some ⟨oc75,od75,.func (W.fnOf "law" "law" (vf dU) (uh dU) (c6 dU) .none kV75 dc75 pm75 an75 (.ref cA) ct75),sl75⟩) (c75:W.codeIn K (.ref cA) "law" = true) (k75:W.keepIn K (.ref f75)=true) (l2:K.lookup cA=some ⟨oc2,od2,.fields vs2,sl2⟩) (h11:vs2[11]?=some (.ref pA)) (nt:K.lookup pA=none) (hrec:∃d,(recsOf q).find? (fun e=>e.name==("law" : Str))=some d)
  (BU:W.nsIn K mainGlobals "shown_going" = some (some (.ref f59)))
  (DP:W.nsIn K mainGlobals "ValueError" = some none)
  (Nt:W.nsIn K mainGlobals "bool" = some none)
  (Pp:W.nsIn K mainGlobals "int" = some none)
  (DQ:W.nsIn K mainGlobals "isinstance" = some none)
  (Pq:W.nsIn K mainGlobals "len" = some none)
  (Nu:W.nsIn K mainGlobals "list" = some none)
  (Pt:W.nsIn K mainGlobals "max" = some none)
  (K3:W.nsIn K mainGlobals "range" = some none)
  (FU:W.nsIn K mainGlobals "reversed" = some none)
  (Pu:W.nsIn K mainGlobals "set" = some none)
  (Jq:W.nsIn K mainGlobals "sorted" = some none)
  (Pv:W.nsIn K mainGlobals "str" = some none)
  (Pw:W.nsIn K mainGlobals "sum" = some none)
  (K4:W.nsIn K mainGlobals "tuple" = some none)
  (q_ALARM:W.nsIn K mainGlobals "ALARM" = some (some (.int 2 Jl)))
  (q_BLOCK:W.nsIn K mainGlobals "BLOCK" = some (some (.int 1000000000000000000 Jm)))
  (q_CLOCK:W.nsIn K mainGlobals "CLOCK" = some (some (.int 1 Jn)))
  (q_COUNT:W.nsIn K mainGlobals "COUNT" = some (some (.int 4 Jo)))
  (q_DAY:W.nsIn K mainGlobals "DAY" = some (some (.int 86400 Nr)))
  (q_FULL_RING:W.nsIn K mainGlobals "FULL_RING" = some (some (.int 10 DN)))
  (q_HELD:W.nsIn K mainGlobals "HELD" = some (some (.int 6 KY)))
  (q_IDLE:W.nsIn K mainGlobals "IDLE" = some (some (.int 7 KZ)))
  (q_LAPS:W.nsIn K mainGlobals "LAPS" = some (some (.int 3 K0)))
  (q_MODE:W.nsIn K mainGlobals "MODE" = some (some (.int 0 K1)))
  (q_MOST_KEPT:W.nsIn K mainGlobals "MOST_KEPT" = some (some (.int 4 DO)))
  (q_RING:W.nsIn K mainGlobals "RING" = some (some (.int 5 K2)))
  (q_PRESSES:W.nsIn K mainGlobals "PRESSES" = some (some (.ref zr)))
  (rs_PRESSES:K.lookup zr=some ⟨.type "tuple",none,.seq #[.str (oS "a") FL,.str (oS "b") FM,.str (oS "c") FN,.str (oS "A") FO,.str (oS "B") FP,.str (oS "C") FQ] FJ,FK⟩)
  (q_FACE_TEXTS:W.nsIn K mainGlobals "FACE_TEXTS" = some (some (.ref xh)))
  (r_FACE_TEXTS:K.lookup xh=some ⟨.type "dict",none,.dict (entries w [(oS "time",BO,.ref f54),(oS "alarm",BP,.ref f55),(oS "laps",BQ,.ref f57),(oS "count",BR,.ref f58)]).toArray Cb,#[]⟩)
  (q_STEPS:W.nsIn K mainGlobals "STEPS" = some (some (.ref BS)))
  (r_STEPS:K.lookup BS=some ⟨.type "dict",none,.dict (entries w [(oS "none",Hm,.ref f15),(oS "hour",Hn,.ref f16),(oS "minute",Ho,.ref f17),(oS "zero",Hq,.ref f18),(oS "ahour",Hr,.ref f19),(oS "aminute",Hs,.ref f20),(oS "alarm",Ht,.ref f21),(oS "run",Hu,.ref f22),(oS "lap",Hv,.ref f23),(oS "cminute",Hw,.ref f25),(oS "csecond",FR,.ref f26),(oS "full",FS,.ref f27),(oS "count",FT,.ref f28)]).toArray Jp,#[]⟩) :
  ∃(ts:List wk) (fd:FuncData),(∀t∈ts,K.lookup t.P=none/\∃y d,(recsOf q).find? (fun e=>e.name==y)=some d/\W.tabIn K y=some (t.c,t.P))/\(∀(s:Shared) (v:Value),BindsTo s fd ⟨[v],[]⟩ [("_law_script",v)])/\∀base:Heap,K.In base->base.Ns mainGlobals mg->vS mg ts base->k6 l.prog w K mg base ue 13 fa fd ["_law_script"] (NX K iq ts):=by
 have e:=hfa.symm.trans (W.mg_of X G a75)
 cases e
 have cl:yN K C:=⟨pg,hd,po,sa⟩
 have mgW:=W.mg_of X G aC
 have EK:=Me X G n0 n1 nw ep
 !⟨d0,F0,a0⟩:=u7 a0
 have b0:=F0.binds (ps:=["book"]) fun | _,_,_,_,_,_,[_],_=>rfl
 have g0:=W.mg_of X G a0
 !⟨d1,F1,a1⟩:=u7 a1
 have b1:=F1.binds (ps:=["laps","many"]) fun | _,_,_,_,_,_,[_,_],_=>rfl
 have g1:=W.mg_of X G a1
 !⟨d2,F2,a2⟩:=u7 a2
 have b2:=F2.binds (ps:=["count","many"]) fun | _,_,_,_,_,_,[_,_],_=>rfl
 have g2:=W.mg_of X G a2
 !⟨d3,F3,a3⟩:=u7 a3
 have b3:=F3.binds (ps:=["state"]) fun | _,_,_,_,_,_,[_],_=>rfl
 have g3:=W.mg_of X G a3
 !⟨d4,F4,a4⟩:=u7 a4
 have b4:=F4.binds (ps:=["state"]) fun | _,_,_,_,_,_,[_],_=>rfl
 have g4:=W.mg_of X G a4
 !⟨d5,F5,a5⟩:=u7 a5
 have b5:=F5.binds (ps:=["state","many"]) fun | _,_,_,_,_,_,[_,_],_=>rfl
 have g5:=W.mg_of X G a5
 !⟨d6,F6,a6⟩:=u7 a6
 have b6:=F6.binds (ps:=["state","many"]) fun | _,_,_,_,_,_,[_,_],_=>rfl
 have g6:=W.mg_of X G a6
 !⟨d7,F7,a7⟩:=u7 a7
 have b7:=F7.binds (ps:=["held","many"]) fun | _,_,_,_,_,_,[_,_],_=>rfl
 have g7:=W.mg_of X G a7
 !⟨d8,F8,a8⟩:=u7 a8
 have b8:=F8.binds (ps:=["book","state"]) fun | _,_,_,_,_,_,[_,_],_=>rfl
 have g8:=W.mg_of X G a8
 !⟨d9,F9,a9⟩:=u7 a9
 have b9:=F9.binds (ps:=["book","state","many"]) fun | _,_,_,_,_,_,[_,_,_],_=>rfl
 have g9:=W.mg_of X G a9
 !⟨d10,F10,a10⟩:=u7 a10
 have b10:=F10.binds (ps:=["book","state","many"]) fun | _,_,_,_,_,_,[_,_,_],_=>rfl
 have g10:=W.mg_of X G a10
 !⟨d11,F11,a11⟩:=u7 a11
 have b11:=F11.binds (ps:=["book","state"]) fun | _,_,_,_,_,_,[_,_],_=>rfl
 have g11:=W.mg_of X G a11
 !⟨d12,F12,a12⟩:=u7 a12
 have b12:=F12.binds (ps:=["book","state"]) fun | _,_,_,_,_,_,[_,_],_=>rfl
 have g12:=W.mg_of X G a12
 !⟨d13,F13,a13⟩:=u7 a13
 have b13:=F13.binds (ps:=["book","state"]) fun | _,_,_,_,_,_,[_,_],_=>rfl
 have g13:=W.mg_of X G a13
 !⟨d14,F14,a14⟩:=u7 a14
 have b14:=F14.binds (ps:=["state","place","part"]) fun | _,_,_,_,_,_,[_,_,_],_=>rfl
 have g14:=W.mg_of X G a14
 !⟨d15,F15,a15⟩:=u7 a15
 have b15:=F15.binds (ps:=["state"]) fun | _,_,_,_,_,_,[_],_=>rfl
 have g15:=W.mg_of X G a15
 !⟨d16,F16,a16⟩:=u7 a16
 have b16:=F16.binds (ps:=["state"]) fun | _,_,_,_,_,_,[_],_=>rfl
 have g16:=W.mg_of X G a16
 !⟨d17,F17,a17⟩:=u7 a17
 have b17:=F17.binds (ps:=["state"]) fun | _,_,_,_,_,_,[_],_=>rfl
 have g17:=W.mg_of X G a17
 !⟨d18,F18,a18⟩:=u7 a18
 have b18:=F18.binds (ps:=["state"]) fun | _,_,_,_,_,_,[_],_=>rfl
 have g18:=W.mg_of X G a18
 !⟨d19,F19,a19⟩:=u7 a19
 have b19:=F19.binds (ps:=["state"]) fun | _,_,_,_,_,_,[_],_=>rfl
 have g19:=W.mg_of X G a19
 !⟨d20,F20,a20⟩:=u7 a20
 have b20:=F20.binds (ps:=["state"]) fun | _,_,_,_,_,_,[_],_=>rfl
 have g20:=W.mg_of X G a20
 !⟨d21,F21,a21⟩:=u7 a21
 have b21:=F21.binds (ps:=["state"]) fun | _,_,_,_,_,_,[_],_=>rfl
 have g21:=W.mg_of X G a21
 !⟨d22,F22,a22⟩:=u7 a22
 have b22:=F22.binds (ps:=["state"]) fun | _,_,_,_,_,_,[_],_=>rfl
 have g22:=W.mg_of X G a22
 !⟨d23,F23,a23⟩:=u7 a23
 have b23:=F23.binds (ps:=["state"]) fun | _,_,_,_,_,_,[_],_=>rfl
 have g23:=W.mg_of X G a23
 !⟨d24,F24,a24⟩:=u7 a24
 have b24:=F24.binds (ps:=["state","minute","second"]) fun | _,_,_,_,_,_,[_,_,_],_=>rfl
 have g24:=W.mg_of X G a24
 !⟨d25,F25,a25⟩:=u7 a25
 have b25:=F25.binds (ps:=["state"]) fun | _,_,_,_,_,_,[_],_=>rfl
 have g25:=W.mg_of X G a25
 !⟨d26,F26,a26⟩:=u7 a26
 have b26:=F26.binds (ps:=["state"]) fun | _,_,_,_,_,_,[_],_=>rfl
 have g26:=W.mg_of X G a26
 !⟨d27,F27,a27⟩:=u7 a27
 have b27:=F27.binds (ps:=["state"]) fun | _,_,_,_,_,_,[_],_=>rfl
 have g27:=W.mg_of X G a27
 !⟨d28,F28,a28⟩:=u7 a28
 have b28:=F28.binds (ps:=["state"]) fun | _,_,_,_,_,_,[_],_=>rfl
 have g28:=W.mg_of X G a28
 !⟨d29,F29,a29⟩:=u7 a29
 have b29:=F29.binds (ps:=["book","state","press"]) fun | _,_,_,_,_,_,[_,_,_],_=>rfl
 have g29:=W.mg_of X G a29
 !⟨d30,F30,a30⟩:=u7 a30
 have b30:=F30.binds (ps:=["book","state"]) fun | _,_,_,_,_,_,[_,_],_=>rfl
 have g30:=W.mg_of X G a30
 !⟨d31,F31,a31⟩:=u7 a31
 have b31:=F31.binds (ps:=["book","state"]) fun | _,_,_,_,_,_,[_,_],_=>rfl
 have g31:=W.mg_of X G a31
 !⟨d32,F32,a32⟩:=u7 a32
 have b32:=F32.binds (ps:=["book","state","many"]) fun | _,_,_,_,_,_,[_,_,_],_=>rfl
 have g32:=W.mg_of X G a32
 !⟨d33,F33,a33⟩:=u7 a33
 have b33:=F33.binds (ps:=["book","state","many"]) fun | _,_,_,_,_,_,[_,_,_],_=>rfl
 have g33:=W.mg_of X G a33
 !⟨d34,F34,a34⟩:=u7 a34
 have b34:=F34.binds (ps:=["state","button"]) fun | _,_,_,_,_,_,[_,_],_=>rfl
 have g34:=W.mg_of X G a34
 !⟨d35,F35,a35⟩:=u7 a35
 have b35:=F35.binds (ps:=["state","button"]) fun | _,_,_,_,_,_,[_,_],_=>rfl
 have g35:=W.mg_of X G a35
 !⟨d36,F36,a36⟩:=u7 a36
 have b36:=F36.binds (ps:=["state","button"]) fun | _,_,_,_,_,_,[_,_],_=>rfl
 have g36:=W.mg_of X G a36
 !⟨d37,F37,a37⟩:=u7 a37
 have b37:=F37.binds (ps:=["book","state","button"]) fun | _,_,_,_,_,_,[_,_,_],_=>rfl
 have g37:=W.mg_of X G a37
 !⟨d38,F38,a38⟩:=u7 a38
 have b38:=F38.binds (ps:=["book","state","event"]) fun | _,_,_,_,_,_,[_,_,_],_=>rfl
 have g38:=W.mg_of X G a38
 !⟨d39,F39,a39⟩:=u7 a39
 have b39:=F39.binds (ps:=["book","state","row"]) fun | _,_,_,_,_,_,[_,_,_],_=>rfl
 have g39:=W.mg_of X G a39
 !⟨d40,F40,a40⟩:=u7 a40
 have b40:=F40.binds (ps:=["state","many"]) fun | _,_,_,_,_,_,[_,_],_=>rfl
 have g40:=W.mg_of X G a40
 !⟨d41,F41,a41⟩:=u7 a41
 have b41:=F41.binds (ps:=["state"]) fun | _,_,_,_,_,_,[_],_=>rfl
 have g41:=W.mg_of X G a41
 !⟨d42,F42,a42⟩:=u7 a42
 have b42:=F42.binds (ps:=["book","state","many"]) fun | _,_,_,_,_,_,[_,_,_],_=>rfl
 have g42:=W.mg_of X G a42
 !⟨d43,F43,a43⟩:=u7 a43
 have b43:=F43.binds (ps:=["book","state","event"]) fun | _,_,_,_,_,_,[_,_,_],_=>rfl
 have g43:=W.mg_of X G a43
 !⟨d44,F44,a44⟩:=u7 a44
 have b44:=F44.binds (ps:=["book","row"]) fun | _,_,_,_,_,_,[_,_],_=>rfl
 have g44:=W.mg_of X G a44
 !⟨d45,F45,a45⟩:=u7 a45
 have b45:=F45.binds (ps:=["_law_script","_law_k"]) fun | _,_,_,_,_,_,[_,_],_=>rfl
 have g45:=W.mg_of X G a45
 !⟨d46,F46,a46⟩:=u7 a46
 have b46:=F46.binds (ps:=["_law_script","_law_k"]) fun | _,_,_,_,_,_,[_,_],_=>rfl
 have g46:=W.mg_of X G a46
 !⟨d47,F47,a47⟩:=u7 a47
 have b47:=F47.binds (ps:=["_law_number","_law_k"]) fun | _,_,_,_,_,_,[_,_],_=>rfl
 have g47:=W.mg_of X G a47
 !⟨d48,F48,a48⟩:=u7 a48
 have b48:=F48.binds (ps:=["_law_number"]) fun | _,_,_,_,_,_,[_],_=>rfl
 have g48:=W.mg_of X G a48
 !⟨d49,F49,a49⟩:=u7 a49
 have b49:=F49.binds (ps:=["_law_number"]) fun | _,_,_,_,_,_,[_],_=>rfl
 have g49:=W.mg_of X G a49
 !⟨d50,F50,a50⟩:=u7 a50
 have b50:=F50.binds (ps:=["_law_book_here","_law_number"]) fun | _,_,_,_,_,_,[_,_],_=>rfl
 have g50:=W.mg_of X G a50
 !⟨d51,F51,a51⟩:=u7 a51
 have b51:=F51.binds (ps:=["number"]) fun | _,_,_,_,_,_,[_],_=>rfl
 have g51:=W.mg_of X G a51
 !⟨d52,F52,a52⟩:=u7 a52
 have b52:=F52.binds (ps:=["number"]) fun | _,_,_,_,_,_,[_],_=>rfl
 have g52:=W.mg_of X G a52
 !⟨d53,F53,a53⟩:=u7 a53
 have b53:=F53.binds (ps:=["hour","minute"]) fun | _,_,_,_,_,_,[_,_],_=>rfl
 have g53:=W.mg_of X G a53
 !⟨d54,F54,a54⟩:=u7 a54
 have b54:=F54.binds (ps:=["state"]) fun | _,_,_,_,_,_,[_],_=>rfl
 have g54:=W.mg_of X G a54
 !⟨d55,F55,a55⟩:=u7 a55
 have b55:=F55.binds (ps:=["state"]) fun | _,_,_,_,_,_,[_],_=>rfl
 have g55:=W.mg_of X G a55
 !⟨d56,F56,a56⟩:=u7 a56
 have b56:=F56.binds (ps:=["seconds"]) fun | _,_,_,_,_,_,[_],_=>rfl
 have g56:=W.mg_of X G a56
 !⟨d57,F57,a57⟩:=u7 a57
 have b57:=F57.binds (ps:=["state"]) fun | _,_,_,_,_,_,[_],_=>rfl
 have g57:=W.mg_of X G a57
 !⟨d58,F58,a58⟩:=u7 a58
 have b58:=F58.binds (ps:=["state"]) fun | _,_,_,_,_,_,[_],_=>rfl
 have g58:=W.mg_of X G a58
 !⟨d59,F59,a59⟩:=u7 a59
 have b59:=F59.binds (ps:=["book","state"]) fun | _,_,_,_,_,_,[_,_],_=>rfl
 have g59:=W.mg_of X G a59
 !⟨d60,F60,a60⟩:=u7 a60
 have b60:=F60.binds (ps:=["state","many"]) fun | _,_,_,_,_,_,[_,_],_=>rfl
 have g60:=W.mg_of X G a60
 !⟨d61,F61,a61⟩:=u7 a61
 have b61:=F61.binds (ps:=["book","state","many"]) fun | _,_,_,_,_,_,[_,_,_],_=>rfl
 have g61:=W.mg_of X G a61
 !⟨d62,F62,a62⟩:=u7 a62
 have b62:=F62.binds (ps:=["book","state","event"]) fun | _,_,_,_,_,_,[_,_,_],_=>rfl
 have g62:=W.mg_of X G a62
 !⟨d63,F63,M63⟩:=Js a63
 have b63:=F63.binds (ps:=["self","event"]) fun | _,_,_,_,_,_,[_,_],_=>rfl
 !⟨d64,F64,M64⟩:=Js a64
 have b64:=F64.binds (ps:=["self","button"]) fun | _,_,_,_,_,_,[_,_],_=>rfl
 !⟨d65,F65,M65⟩:=Js a65
 have b65:=F65.binds (ps:=["self","many"]) fun | _,_,_,_,_,_,[_,_],_=>rfl
 !⟨d66,F66,M66⟩:=Js a66
 have b66:=F66.binds (ps:=["self","button"]) fun | _,_,_,_,_,_,[_,_],_=>rfl
 !⟨d67,F67,a67⟩:=u7 a67
 have b67:=F67.binds (ps:=["_law_watch","_law_event_here"]) fun | _,_,_,_,_,_,[_,_],_=>rfl
 have g67:=W.mg_of X G a67
 !⟨d68,F68,M68⟩:=Js a68
 have b68:=F68.binds (ps:=["self"]) fun | _,_,_,_,_,_,[_],_=>rfl
 !⟨d69,F69,M69⟩:=Js a69
 have b69:=F69.binds (ps:=["self"]) fun | _,_,_,_,_,_,[_],_=>rfl
 !⟨d70,F70,M70⟩:=Js a70
 have b70:=F70.binds (ps:=["self"]) fun | _,_,_,_,_,_,[_],_=>rfl
 !⟨d71,F71,M71⟩:=Js a71
 have b71:=F71.binds (ps:=["self"]) fun | _,_,_,_,_,_,[_],_=>rfl
 !⟨d72,F72,M72⟩:=Js a72
 have b72:=F72.binds (ps:=["self"]) fun | _,_,_,_,_,_,[_],_=>rfl
 !⟨d73,F73,M73⟩:=Js a73
 have b73:=F73.binds (ps:=["self","book"]) fun | _,_,_,_,_,_,[_,_],_=>rfl
 !⟨d74,F74,a74⟩:=u7 a74
 have b74:=F74.binds (ps:=["_law_deed"]) fun | _,_,_,_,_,_,[_],_=>rfl
 have g74:=W.mg_of X G a74
 have F75:MY K "law" "law" dU _ _ cA:=⟨⟨_,_,_,_,_,_,_,_,rfl,l75,c75⟩,k75⟩
 have g75:=W.mg_of X G a75
 have tb:=sL a75 l75 rfl l2 h11
 have b75:=Binds.all (K:=K) (fd:=W.fnOf "law" "law" (vf dU) (uh dU) (c6 dU) .none kV75 dc75 pm75 an75 (.ref cA) ct75) (ps:=["_law_script"]) fun us hl=>by obtain⟨x0,rfl⟩:=Rq (us:=us) hl;rfl
 have ga_shown_going:=W.mg_of X G BU
 have xR:=W.mg_none_of X G DP
 have FH:=W.mg_none_of X G Nt
 have Jk:=W.mg_none_of X G Pp
 have uz:=W.mg_none_of X G DQ
 have ve:=W.mg_none_of X G Pq
 have FF:=W.mg_none_of X G Nu
 have wg:=W.mg_none_of X G Pt
 have vT:=W.mg_none_of X G K3
 have zp:=W.mg_none_of X G FU
 have Ji:=W.mg_none_of X G Pu
 have BN:=W.mg_none_of X G Jq
 have CV:=W.mg_none_of X G Pv
 have Jj:=W.mg_none_of X G Pw
 have yQ:=W.mg_none_of X G K4
 have uf:u0 K mg "ALARM" ba:=⟨_,.int 2,W.mg_of X G q_ALARM,⟨_,rfl⟩,fun H=>rfl⟩
 have DH:u0 K mg "BLOCK" eN:=⟨_,.int 1000000000000000000,W.mg_of X G q_BLOCK,⟨_,rfl⟩,fun H=>rfl⟩
 have ub:u0 K mg "CLOCK" aY:=⟨_,.int 1,W.mg_of X G q_CLOCK,⟨_,rfl⟩,fun H=>rfl⟩
 have p4:u0 K mg "COUNT" aQ:=⟨_,.int 4,W.mg_of X G q_COUNT,⟨_,rfl⟩,fun H=>rfl⟩
 have wH:u0 K mg "DAY" dD:=⟨_,.int 86400,W.mg_of X G q_DAY,⟨_,rfl⟩,fun H=>rfl⟩
 have yw:u0 K mg "FULL_RING" fv:=⟨_,.int 10,W.mg_of X G q_FULL_RING,⟨_,rfl⟩,fun H=>rfl⟩
 have n8:u0 K mg "HELD" aV:=⟨_,.int 6,W.mg_of X G q_HELD,⟨_,rfl⟩,fun H=>rfl⟩
 have vK:u0 K mg "IDLE" dj:=⟨_,.int 7,W.mg_of X G q_IDLE,⟨_,rfl⟩,fun H=>rfl⟩
 have vh:u0 K mg "LAPS" b_:=⟨_,.int 3,W.mg_of X G q_LAPS,⟨_,rfl⟩,fun H=>rfl⟩
 have uT:u0 K mg "MODE" bT:=⟨_,.int 0,W.mg_of X G q_MODE,⟨_,rfl⟩,fun H=>rfl⟩
 have yz:u0 K mg "MOST_KEPT" fz:=⟨_,.int 4,W.mg_of X G q_MOST_KEPT,⟨_,rfl⟩,fun H=>rfl⟩
 have xb:u0 K mg "RING" eI:=⟨_,.int 5,W.mg_of X G q_RING,⟨_,rfl⟩,fun H=>rfl⟩
 have s_PRESSES:L7 K mg "PRESSES" df:=⟨zr,_,_,_,W.mg_of X G q_PRESSES,rs_PRESSES,(.cons ⟨_,rfl⟩ (.cons ⟨_,rfl⟩ (.cons ⟨_,rfl⟩ (.cons ⟨_,rfl⟩ (.cons ⟨_,rfl⟩ (.cons ⟨_,rfl⟩ .nil))))))⟩
 have D_FACE_TEXTS:=W.mg_of X G q_FACE_TEXTS
 have D_STEPS:=W.mg_of X G q_STEPS
 !⟨dr,hdr⟩:=hrec
 &⟨[⟨cA,pA,"law.<locals>.<lambda>"⟩],W.fnOf "law" "law" (vf dU) (uh dU) (c6 dU) .none kV75 dc75 pm75 an75 (.ref cA) ct75,fun t ht=>by rw[List.mem_singleton.mp ht];~⟨nt,"law",dr,hdr,tb⟩,fun s v=>.of_eq rfl,fun base _ _ TB=>?_⟩
 have vU:l8 l.prog w K mg base 1 "begun" ["book"] bX:=az F0 g0 b0 (qa (k:=0)  F0)
 have Ak:l8 l.prog w K mg base 1 "laps_on" ["laps","many"] dZ:=az F1 g1 b1 (oi (k:=0)  F1)
 have zm:l8 l.prog w K mg base 1 "count_on" ["count","many"] dm:=az F2 g2 b2 (mI (k:=0) wg F2)
 have ul:l8 l.prog w K mg base 1 "alarm_tick" ["state"] aL:=az F3 g3 b3 (jZ (k:=0) uf ub wH F3)
 have um:l8 l.prog w K mg base 1 "count_tick" ["state"] aO:=az F4 g4 b4 (jL (k:=0) p4 F4)
 have yu:l8 l.prog w K mg base 2 "last_ring" ["state","many"] cN:=az F5 g5 b5 (lf (k:=1) ul.m um.m wg wH F5)
 have Al:l8 l.prog w K mg base 3 "ring_on" ["state","many"] dY:=az F6 g6 b6 (ot (k:=2) yu.m wg yw xb F6)
 have Ai:l8 l.prog w K mg base 1 "held_on" ["held","many"] dX:=az F7 g7 b7 (nU (k:=0)  F7)
 have uw:l8 l.prog w K mg base 1 "ticks_to_back" ["book","state"] a_:=az F8 g8 b8 (ir (k:=0) wg vK F8)
 have Aj:l8 l.prog w K mg base 2 "idle_on" ["book","state","many"] d_:=az F9 g9 b9 (nX (k:=1) uw.m n8 vK F9)
 have wn:l8 l.prog w K mg base 4 "counted" ["book","state","many"] cE:=az F10 g10 b10 (nS (k:=3) zm.m Ai.m Aj.m Ak.m Al.m uf ub p4 wH n8 vh uT F10)
 have yy:l8 l.prog w K mg base 1 "goes_back" ["book","state"] cQ:=az F11 g11 b11 (kY (k:=0) uT F11)
 have v9:l8 l.prog w K mg base 1 "ticks_to_long" ["book","state"] bC:=az F12 g12 b12 (ip (k:=0) wg n8 F12)
 have vw:l8 l.prog w K mg base 2 "turn_tick" ["book","state"] bP:=az F13 g13 b13 (kJ (k:=1) yy.m uw.m v9.m n8 F13)
 have n6:l8 l.prog w K mg base 1 "put" ["state","place","part"] aG:=az F14 g14 b14 (tJ (k:=0)  F14)
 have An:l8 l.prog w K mg base 1 "nothing" ["state"] de:=az F15 g15 b15 (oh (k:=0)  F15)
 have Am:l8 l.prog w K mg base 2 "hour_on" ["state"] dg:=az F16 g16 b16 (nG (k:=1) n6.m ub F16)
 have yA:l8 l.prog w K mg base 2 "minute_on" ["state"] cb:=az F17 g17 b17 (lB (k:=1) n6.m ub F17)
 have Ao:l8 l.prog w K mg base 2 "to_zero" ["state"] db:=az F18 g18 b18 (nY (k:=1) n6.m ub F18)
 have v_:l8 l.prog w K mg base 2 "alarm_hour_on" ["state"] bj:=az F19 g19 b19 (ii (k:=1) n6.m uf F19)
 have vD:l8 l.prog w K mg base 2 "alarm_minute_on" ["state"] aX:=az F20 g20 b20 (gl (k:=1) n6.m uf F20)
 have wI:l8 l.prog w K mg base 2 "alarm_turned" ["state"] bw:=az F21 g21 b21 (iC (k:=1) n6.m uf F21)
 have xc:l8 l.prog w K mg base 2 "laps_turned" ["state"] bG:=az F22 g22 b22 (jk (k:=1) n6.m vh F22)
 have zo:l8 l.prog w K mg base 2 "lap_kept" ["state"] dq:=az F23 g23 b23 (mr (k:=1) n6.m ve vh yz F23)
 have vC:l8 l.prog w K mg base 2 "set_to" ["state","minute","second"] bU:=az F24 g24 b24 (o_ (k:=1) n6.m p4 F24)
 have vE:l8 l.prog w K mg base 3 "count_minute_on" ["state"] aW:=az F25 g25 b25 (gx (k:=2) vC.m p4 F25)
 have vF:l8 l.prog w K mg base 3 "count_second_on" ["state"] aZ:=az F26 g26 b26 (gk (k:=2) vC.m p4 F26)
 have BH:l8 l.prog w K mg base 3 "filled" ["state"] dW:=az F27 g27 b27 (pS (k:=2) vC.m p4 F27)
 have wJ:l8 l.prog w K mg base 2 "count_turned" ["state"] bJ:=az F28 g28 b28 (iI (k:=1) n6.m p4 F28)
 have DG:Ew l.prog w K mg base 3 "STEPS" yK:=⟨BS,_,D_STEPS,fun h X=>me _ r_STEPS (show List.Nodup [oS "none",oS "hour",oS "minute",oS "zero",oS "ahour",oS "aminute",oS "alarm",oS "run",oS "lap",oS "cminute",oS "csecond",oS "full",oS "count"] from by decide +kernel) h X,(.cons (uR An.m g15) (.cons (uR Am.m g16) (.cons (uR yA.m g17) (.cons (uR Ao.m g18) (.cons (uR v_.m g19) (.cons (uR vD.m g20) (.cons (uR wI.m g21) (.cons (uR xc.m g22) (.cons (uR zo.m g23) (.cons (uR vE.m g25) (.cons (uR vF.m g26) (.cons (uR BH.m g27) (.cons (uR wJ.m g28) .nil)))))))))))))⟩
 have uX:l8 l.prog w K mg base 4 "press_done" ["book","state","press"] bA:=az F29 g29 b29 (j_ (k:=3) v_.m vD.m wI.m vE.m vF.m wJ.m BH.m Am.m zo.m xc.m yA.m An.m n6.m Ao.m uT s_PRESSES DG F29)
 have BJ:l8 l.prog w K mg base 5 "turned" ["book","state"] fu:=az F30 g30 b30 (pe (k:=4) uX.m n6.m n8 uT F30)
 have xf:l8 l.prog w K mg base 6 "behind_turn" ["book","state"] bF:=az F31 g31 b31 (jp (k:=5) wn.m vw.m BJ.m F31)
 have uy:l8 l.prog w K mg base 7 "stretches" ["book","state","many"] aK:=az F32 g32 b32 (li (k:=6) xf.m vw.m F32)
 have BM:l8 l.prog w K mg base 8 "ticked" ["book","state","many"] fF:=az F33 g33 b33 (pK (k:=7) wn.m uy.m F33)
 have BL:l8 l.prog w K mg base 2 "pushed" ["state","button"] fQ:=az F34 g34 b34 (pP (k:=1) n6.m n8 vK xb F34)
 have uY:l8 l.prog w K mg base 1 "is_holding" ["state","button"] bz:=az F35 g35 b35 (jP (k:=0) n8 F35)
 have vL:l8 l.prog w K mg base 2 "is_short" ["state","button"] bK:=az F36 g36 b36 (mX (k:=1) uY.m n8 F36)
 have BK:l8 l.prog w K mg base 5 "let_go" ["book","state","button"] fW:=az F37 g37 b37 (pC (k:=4) uY.m vL.m uX.m n6.m n8 vK F37)
 have xJ:l8 l.prog w K mg base 9 "gone" ["book","state","event"] dB:=az F38 g38 b38 (rT (k:=8) BK.m BL.m BM.m F38)
 have DJ:l8 l.prog w K mg base 10 "after" ["book","state","row"] gK:=az F39 g39 b39 (qe (k:=9) xJ.m F39)
 have xK:l8 l.prog w K mg base 2 "ring_ticks" ["state","many"] bq:=az F40 g40 b40 (jR (k:=1) ul.m um.m FF vT Ji BN wH F40)
 have yB:l8 l.prog w K mg base 1 "turn_sign" ["state"] cT:=az F41 g41 b41 (kR (k:=0) n8 F41)
 have vG:l8 l.prog w K mg base 8 "tick_happenings" ["book","state","many"] bo:=az F42 g42 b42 (gq (k:=7) xK.m uy.m yB.m F42)
 have xM:l8 l.prog w K mg base 9 "happenings" ["book","state","event"] bf:=az F43 g43 b43 (jY (k:=8) vL.m vG.m F43)
 have DK:l8 l.prog w K mg base 10 "story" ["book","row"] dG:=az F44 g44 b44 (qm (k:=9) vU.m xJ.m xM.m yQ F44)
 have wK:l8 l.prog w K mg base 1 "_law_cell_at" ["_law_script","_law_k"] bQ:=az F45 g45 b45 (iH (k:=0) ve F45)
 have uJ:l8 l.prog w K mg base 2 "_law_mixed" ["_law_script","_law_k"] aJ:=az F46 g46 b46 (j4 (k:=1) wK.m F46)
 have uI:l8 l.prog w K mg base 1 "_law_drawn" ["_law_number","_law_k"] aT:=az F47 g47 b47 (j7 (k:=0)  F47)
 have yE:l8 l.prog w K mg base 2 "_law_book" ["_law_number"] cM:=az F48 g48 b48 (lM (k:=1) uI.m vT F48)
 have xS:l8 l.prog w K mg base 1 "_law_event" ["_law_number"] cj:=az F49 g49 b49 (j6 (k:=0)  F49)
 have xT:l8 l.prog w K mg base 1 "_law_ready" ["_law_book_here","_law_number"] cz:=az F50 g50 b50 (kf (k:=0) ve F50)
 have wo:l8 l.prog w K mg base 1 "figures" ["number"] cI:=az F51 g51 b51 (nQ (k:=0) zp CV DH F51)
 have t_:l8 l.prog w K mg base 2 "two_figures" ["number"] aM:=az F52 g52 b52 (jn (k:=1) wo.m F52)
 have vy:l8 l.prog w K mg base 3 "hour_text" ["hour","minute"] bL:=az F53 g53 b53 (lL (k:=2) t_.m F53)
 have yD:l8 l.prog w K mg base 4 "time_text" ["state"] cS:=az F54 g54 b54 (kO (k:=3) vy.m t_.m ub F54)
 have xN:l8 l.prog w K mg base 4 "alarm_text" ["state"] cy:=az F55 g55 b55 (ke (k:=3) vy.m uf F55)
 have uN:l8 l.prog w K mg base 3 "minute_text" ["seconds"] bu:=az F56 g56 b56 (jB (k:=2) wo.m t_.m F56)
 have yC:l8 l.prog w K mg base 4 "laps_text" ["state"] cO:=az F57 g57 b57 (lQ (k:=3) uN.m ve CV vh F57)
 have xO:l8 l.prog w K mg base 4 "count_text" ["state"] cu:=az F58 g58 b58 (ki (k:=3) uN.m p4 F58)
 have xP:Ew l.prog w K mg base 4 "FACE_TEXTS" vz:=⟨xh,_,D_FACE_TEXTS,fun h X=>me _ r_FACE_TEXTS (show List.Nodup [oS "time",oS "alarm",oS "laps",oS "count"] from by decide +kernel) h X,(.cons (uR yD.m g54) (.cons (uR xN.m g55) (.cons (uR yC.m g57) (.cons (uR xO.m g58) .nil))))⟩
 have GE:=qD (P:=l.prog) (w:=w) (base:=base) (k:=4) xN.m xO.m yC.m yD.m uT xb xP F59
 have PP:l8 l.prog w K mg base 5 "shown" ["book","state"] dC:=az F59 g59 b59 GE
 have uO:l8 l.prog w K mg base 5 "shown_going" ["book","state"] dC:=⟨_,_,GE,ga_shown_going,F59.kp,b59⟩
 have xQ:l8 l.prog w K mg base 2 "ring_count" ["state","many"] bg:=az F60 g60 b60 (jV (k:=1) ul.m um.m wH F60)
 have vM:l8 l.prog w K mg base 8 "how_many_rings" ["book","state","many"] bx:=az F61 g61 b61 (gS (k:=7) xQ.m uy.m Jj F61)
 have zq:l8 l.prog w K mg base 9 "rings_by" ["book","state","event"] cF:=az F62 g62 b62 (mZ (k:=8) vM.m F62)
 have vH:yW l.prog w K mg base 10 C "happen" ["self","event"] (aN C):=⟨_,_,iD (k:=9) xJ.m zq.m cl xg uU n4 uV F63,M63,b63⟩
 have FG:yW l.prog w K mg base 11 C "down" ["self","button"] (br C):=⟨_,_,jQ (k:=10) cl vH.m F64,M64,b64⟩
 have DI:yW l.prog w K mg base 11 C "ticks" ["self","many"] (bV C):=⟨_,_,jJ (k:=10) cl vH.m F65,M65,b65⟩
 have Nq:yW l.prog w K mg base 11 C "up" ["self","button"] (bY C):=⟨_,_,mj (k:=10) cl vH.m F66,M66,b66⟩
 have yR:Fb l.prog w K mg base 12 "_law_do" ["_law_watch","_law_event_here"] 0 (bE C):=⟨_,_,nu (k:=11) cl FG.m DI.m Nq.m F67,g67,F67.kp,b67⟩
 have DL:AA l.prog w K mg base 1 C "rang" ["self"] (bS C):=⟨_,_,jX (k:=0) cl uV F68,M68,b68⟩
 have GD:AA l.prog w K mg base 1 C "row" ["self"] (bM C):=⟨_,_,lE (k:=0) yQ cl uU F69,M69,b69⟩
 have DM:AA l.prog w K mg base 6 C "shown" ["self"] (bW C):=⟨_,_,jE (k:=5) uO.m cl xg n4 F70,M70,b70⟩
 have AT:AA l.prog w K mg base 1 C "state" ["self"] (bH C):=⟨_,_,je (k:=0) cl n4 F71,M71,b71⟩
 have QS:yW l.prog w K mg base 1 C "undo" ["self"] (eQ C):=⟨_,_,j8 (k:=0) ve cl uU n4 uV F72,M72,b72⟩
 have MX_undo:Fi (M3 eA eB) l.prog w K mg base 1 C "undo" ["self"] (m6 C):=⟨_,_,BB (k:=0) EK ve cl uU n4 uV F72,M72,b72⟩
 have FI:=gQ (P:=l.prog) (w:=w) (base:=base) (k:=1) vU.m cl xg uU n4 uV F73
 have yF:yI l.prog w K mg base (M3 eA eB) 3 2 "_law_told" ["_law_deed"] ud:=⟨_,_,lh (k:=2) xR uz EK F74,g74,F74.kp,b74⟩
 ~LH ((tj yE.m uI.m xS.m uJ.m xT.m DJ.m vU.m DK.m FH Jk uz ve vT uO.m cl DL.m GD.m DM.m AT.m yF.m MX_undo yR.m ⟨mkC,M73.at_,M73.fn,kc⟩ FI b73 mgW (by decide) rfl TB F75).imp (JJ (II C)))
theorem walk {l:W.OpenLaw} {q:Program} {loose:List Str} {XP:(Str->Option Value)->Heap->Prop} {YP:World->Heap->Prop} {d:DefRec} {K:Params->W.Frag} (hn:l.most=some 63) (hdf:d.params.defaults=[])
    (hY:∀(w:World) (h:Heap),YP w h->(K w.params).In h)
    (F:∀(w:World) (mg:Str->Option Value) (fa:Addr) (h:Heap),(K w.params).In h->h.Ns mainGlobals mg->mg d.name=some (.ref fa) ->
      ∃(ts:List wk) (fd:FuncData),(∀t∈ts,(K w.params).lookup t.P=none/\∃y d',(recsOf q).find? (fun e=>e.name==y)=some d'/\W.tabIn (K w.params) y=some (t.c,t.P))/\(∀(s:Shared) (u:Value),BindsTo s fd ⟨[u],[]⟩ [("_law_script",u)])/\∀base:Heap,(K w.params).In base->base.Ns mainGlobals mg->vS mg ts base->k6 l.prog w (K w.params) mg base ue 13 fa fd ["_law_script"] (NX (K w.params) iq ts)) :
    W.WalkO q loose XP YP l.row.toRowW d [] (fun f vs=>PySem.call f vs):=
  IH (n:=63) (k:=13) (x:="_law_script") (CX:=fun _=>ue) (sp:=fun w ts=>NX (K w.params) iq ts) hn (by decide) hdf ⟨rfl,by decide,by decide,rfl⟩ hY F (fun w ts H a ns hl hO hP hS=>Mc hO hP ⟨[.fro (ns.map .int)],.bl true,i5.one ⟨a,ns.map V.int,rfl,hS,Cw _ _ ns⟩,HY ns hl,fun v H' _ hv=>hv⟩) fun _ _ _ _ _ z=>z
end HW
namespace PySem.W.Fast
theorem tw8215142031176062352:True:=⟨⟩
theorem tw175860194034858631:True:=⟨⟩
theorem tw8013201792578266095:True:=⟨⟩
theorem tw17231677163517747585:True:=⟨⟩
theorem tw17458937385911312692:True:=⟨⟩
theorem tw13129671001510982385:True:=⟨⟩
theorem tw3735087010565978984:True:=⟨⟩
theorem tw14765401338533739774:True:=⟨⟩
theorem tw18152219689924191768:True:=⟨⟩
theorem tw2411212202753408190:True:=⟨⟩
theorem tw6162218524455421192:True:=⟨⟩
theorem tw222797777773008689:True:=⟨⟩
theorem tw1465724124225717970:True:=⟨⟩
theorem tw15820936949240071337:True:=⟨⟩
theorem tw13927866027980571747:True:=⟨⟩
theorem tw17509878433521772911:True:=⟨⟩
theorem tw15934453996404490516:True:=⟨⟩
theorem tw16111771544149844275:True:=⟨⟩
theorem tw12555845882354414242:True:=⟨⟩
theorem tw5962465228481569879:True:=⟨⟩
theorem tw8219545303071399071:True:=⟨⟩
theorem tw5794720868449430102:True:=⟨⟩
theorem tw7782497134274829708:True:=⟨⟩
theorem tw17336392491081592865:True:=⟨⟩
theorem tw3826885384398471777:True:=⟨⟩
theorem tw17770205553178763939:True:=⟨⟩
theorem tw17583700641789380547:True:=⟨⟩
theorem tw18268780871409290277:True:=⟨⟩
theorem tw338168435655927655:True:=⟨⟩
theorem tw17415466274789183848:True:=⟨⟩
theorem tw10971992819539251784:True:=⟨⟩
theorem tw17166362580427902633:True:=⟨⟩
theorem tw967742403832384233:True:=⟨⟩
theorem tw17167063849202868011:True:=⟨⟩
theorem tw9764432775588530925:True:=⟨⟩
theorem tw667601632749320175:True:=⟨⟩
theorem tw13752368448130315697:True:=⟨⟩
theorem tw18043295952373622193:True:=⟨⟩
theorem tw9512855720760030610:True:=⟨⟩
theorem tw17506691319105020756:True:=⟨⟩
theorem tw17420271238132933045:True:=⟨⟩
theorem tw9664663068367617782:True:=⟨⟩
theorem tw11075786266695961015:True:=⟨⟩
theorem tw11148420569302216952:True:=⟨⟩
theorem tw3703938113714261624:True:=⟨⟩
theorem tw3523872813238323000:True:=⟨⟩
theorem tw2082617415134677561:True:=⟨⟩
theorem tw6855340440080456698:True:=⟨⟩
theorem tw5732926945036495579:True:=⟨⟩
theorem tw1782330715936237788:True:=⟨⟩
theorem tw1331793757426028798:True:=⟨⟩
noncomputable def tw17778914808766602975:=PySem.Challenge.pw_handwatch_k60_whole_watches
theorem te17778914808766602975:PySem.Challenge.pw_handwatch_k60_whole_watches=tw17778914808766602975:=rfl
end PySem.W.Fast
open PySem PySem.W PyProof.Rows
set_option maxRecDepth 100000 in
set_option maxHeartbeats 0 in
theorem PySem.Challenge.cw_handwatch_k60_whole_watches_holds : PySem.Challenge.rw_handwatch_k60_whole_watches.Holds := by
 w_on;o_law;k_head;(case hw=>w_witness2)
 k_fill
 refine HW.walk (l:=PySem.Challenge.rw_handwatch_k60_whole_watches) rfl rfl (fun w h Y=>PySem.W.km_in_of Y) ?F
 case F =>
  intro w mg fa h KX G hmg
  refine' HW.all_mk KX G hmg ?_ ?_ ?_ ?_ ?_ ?_ ?_ ?_ ?_ ?_ ?_ ?_ ?_ ?_ ?_ ?_ ?_ ?_ ?_ ?_ ?_ ?_ ?_ ?_ ?_ ?_ ?_ ?_ ?_ ?_ ?_ ?_ ?_ ?_ ?_ ?_ ?_ ?_ ?_ ?_ ?_ ?_ ?_ ?_ ?_ ?_ ?_ ?_ ?_ ?_ ?_ ?_ ?_ ?_ ?_ ?_ ?_ ?_ ?_ ?_ ?_ ?_ ?_ ?_ ?_ ?_ ?_ ?_ ?_ ?_ ?_ ?_ ?_ ?_ ?_ ?_ ?_ ?_ ?_ ?_ ?_ ?_ ?_ ?_ ?_ ?_ ?_ ?_ ?_ ?_ ?_ ?_ ?_ ?_ ?_ ?_ ?_ ?_ ?_ ?_ ?_ ?_ ?_ ?_ ?_ ?_ ?_ ?_ ?_ ?_ ?_ ?_ ?_ ?_ ?_ ?_ ?_ ?_ ?_ ?_ ?_ ?_ ?_ ?_ ?_ ?_ ?_ ?_ ?_ ?_ ?_
  all_goals try first | k_is | (refine' HW.fn4_mk ?_ ?_ ?_ ?_<;>try k_is) | (refine' HW.fn5_mk ?_ ?_ ?_ ?_ ?_<;>try k_is) | (refine' HW.errp_mk ?_ ?_ ?_ ?_ ?_ ?_ ?_ ?_ ?_ ?_ ?_ ?_ ?_ ?_ ?_ ?_ ?_ ?_ ?_ ?_ ?_ ?_ ?_ ?_ ?_ ?_ ?_ ?_<;>try first | k_is | k_exc | rfl | kernel_rfl) | rfl | kernel_rfl | exact⟨_,rfl⟩
