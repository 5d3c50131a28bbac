import PyProof.Rows.All
import Wide.All
import OpenK.AllK
import Wide.FinOn
import Lean
import PyProof.EqAt
import PyProof.EqKinds
import PyProof.TupleCall
import PySem.Str
import PySem.Sem
import PyProof.StrWalks
import PyProof.ReprReads
import PyProof.ReprRoads
import PyProof.NeData
import PyProof.WalkInts
import PyProof.Rows.RegStrFacts
import PyProof.StrBlockI
import KE.IntText
import KE.KRevIter
import PyProof.StrBlock2
import KE.KIntText
import PyProof.Rows.Range3
import PyProof.ZipIter
import PyProof.Draws
import PyProof.IsRules
import PySem.SetOps
import PyProof.SetKind
import PyProof.DictStraight
import KE.KDictSum
import PyProof.Rows.SetFrom
import PyProof.Rows.SortShell
import PyProof.ListRange
import PyProof.Rows.FactsT2
import PyProof.Rows.FactsT3
import PySem.Builtin.Str.Common
import PyProof.StrCalls
import PyProof.SumWalk
import KE.KLam
import PyProof.StrLawsIn
import PyProof.FitsReplace
import PyProof.ReprLen
import PySem.Challenge.RW_handwatch_k64_whole_undone_as_far
set_option Elab.async false
noncomputable section
set_option linter.all false
set_option maxRecDepth 100000
namespace L2
open PySem PySem.Spec PyProof.Rows
abbrev Key:=Sum Int Str
noncomputable def Ib:Key->Value->Bool
 | .inl k,v=>Value.isInt k v
 | .inr x,v=>Value.isStrOf x v
def Nn(w:World):Key->Int
 | .inl k=>hashInt k
 | .inr x=>hashStr w x
theorem tm:∀{k:Key} {v:Value},Ib k v=true->(∃i t,k=Sum.inl i/\v=Value.int i t)\/(∃x t,k=Sum.inr x/\v=Value.str x t)
 | .inl i,v,h=>by
  obtain⟨t,e⟩:=Value.isInt_shape (k:=i) (v:=v) h
  exact .inl ⟨i,t,rfl,e⟩
 | .inr x,v,h=>by
  obtain⟨t,e⟩:=Value.isStrOf_shape (x:=x) (v:=v) h
  exact .inr ⟨x,t,rfl,e⟩
theorem IS(a b:Int):decide ((Sum.inl a:Key)=Sum.inl b)=(a==b):=by
 by_cases e:a=b
 ·subst e;simp
 ·have h:¬ (Sum.inl a:Key)=Sum.inl b:=fun q=>e (Sum.inl.inj q)
  rw[decide_eq_false h]
  exact(beq_eq_false_iff_ne.mpr e).symm
theorem Kf(a b:Str):decide ((Sum.inr a:Key)=Sum.inr b)=decide (a=b):=by
 by_cases e:a=b
 ·subst e;simp
 ·have h:¬ (Sum.inr a:Key)=Sum.inr b:=fun q=>e (Sum.inr.inj q)
  rw[decide_eq_false h,decide_eq_false e]
theorem I8(a:Int)(b:Str):decide ((Sum.inl a:Key)=Sum.inr b)=false:=decide_eq_false (fun q=>nomatch q)
theorem Jn(a:Str)(b:Int):decide ((Sum.inr a:Key)=Sum.inl b)=false:=decide_eq_false (fun q=>nomatch q)
def zd(prog:Program)(w:World):PySem.KeyKind prog w Key where
 is:=Ib
 hash:=Nn w
 inj:=fun v a b ha hb=>by
  rcases tm ha with ⟨i,t,rfl,rfl⟩ | ⟨x,t,rfl,rfl⟩
  ·rcases tm hb with ⟨j,u,rfl,e⟩ | ⟨y,u,rfl,e⟩
   ·injection e with e1 _;rw[e1]
   ·exact nomatch e
  ·rcases tm hb with ⟨j,u,rfl,e⟩ | ⟨y,u,rfl,e⟩
   ·exact nomatch e
   ·injection e with e1 _;rw[e1]
 byValue:=fun k v h=>by
  rcases tm h with ⟨i,t,rfl,rfl⟩ | ⟨x,t,rfl,rfl⟩<;>rfl
 pyHash:=fun hv h=>by
  rcases tm hv with ⟨i,t,rfl,rfl⟩ | ⟨x,t,rfl,rfl⟩
  ·exact wpAny_pyHash_int h
  ·exact wpAny_pyHash_str h
 eqBool:=fun hu hv h=>by
  rcases tm hu with ⟨i,t,rfl,rfl⟩ | ⟨x,t,rfl,rfl⟩
  ·rcases tm hv with ⟨j,u,rfl,rfl⟩ | ⟨y,u,rfl,rfl⟩
   ·rw[IS] at h;exact wpAny_eqBool_int h
   ·rw[I8] at h;exact SeqAt.EqAt.int_str i t y u _ _ _ _ h
  ·rcases tm hv with ⟨j,u,rfl,rfl⟩ | ⟨y,u,rfl,rfl⟩
   ·rw[Jn] at h;exact SeqAt.EqAt.str_int x t j u _ _ _ _ h
   ·rw[Kf] at h;exact wpAny_eqBool_str h
 «strs»:=fun k x t v h=>by
  rcases tm h with ⟨i,u,rfl,e⟩ | ⟨y,u,rfl,e⟩
  ·exact nomatch e
  ·injection e with e1 _
   subst e1
   cases v<;>rfl
end L2
namespace L2
open PySem PySem.Spec PyProof.Rows
inductive V where
 | non | bl (b:Bool) | int (i:Int) | str (x:Str) | byt (b:Array UInt8) | flt (b:UInt64) | ref (a:Addr) | ty (n:String)
 deriving DecidableEq
def RelV:V->Value->Prop
 | .non,u=>u=Value.none
 | .bl b,u=>u=Value.bool b
 | .int i,u=>∃t,u=Value.int i t
 | .str x,u=>∃t,u=Value.str x t
 | .byt b,u=>∃t,u=Value.bytes b t
 | .flt b,u=>∃t,u=Value.float b t
 | .ref a,u=>u=Value.ref a
 | .ty n,u=>u=Value.type n
abbrev l3:List V->List Value->Prop:=Paired RelV
theorem l3.length{xs:List V}{us:List Value}(r:l3 xs us):xs.length=us.length:=Paired.length r
theorem l3.get:∀{xs:List V} {us:List Value} {i:Nat} {x:V},l3 xs us->xs[i]?=some x->∃u,us[i]?=some u/\RelV x u
 | _,_,_,_,.nil,e=>by simp at e
 | _,_,0,_,.cons r _,e=>by simp at e;subst e;exact⟨_,rfl,r⟩
 | _,_,i+1,x,.cons _ t,e=>by
  obtain⟨u,h1,h2⟩:=l3.get (i:=i) (x:=x) t (by simpa using e)
  exact⟨u,by simpa using h1,h2⟩
theorem l3.set{x:V}{u:Value}(r:RelV x u):∀{xs:List V} {us:List Value} (i:Nat),l3 xs us->l3 (xs.set i x) (us.set i u)
 | _,_,_,.nil=>.nil
 | _,_,0,.cons _ t=>.cons r t
 | _,_,i+1,.cons q t=>.cons q (l3.set r i t)
theorem l3.append:∀{xs ys:List V} {us ws:List Value},l3 xs us->l3 ys ws->l3 (xs++ys) (us++ws)
 | _,_,_,_,.nil,s=>s
 | _,_,_,_,.cons r t,s=>.cons r (l3.append t s)
theorem l3.take:∀{xs:List V} {us:List Value} (n:Nat),l3 xs us->l3 (xs.take n) (us.take n)
 | _,_,0,_=>.nil
 | _,_,_+1,.nil=>.nil
 | _,_,n+1,.cons r t=>.cons r (l3.take n t)
theorem l3.drop:∀{xs:List V} {us:List Value} (n:Nat),l3 xs us->l3 (xs.drop n) (us.drop n)
 | _,_,0,r=>r
 | _,_,_+1,.nil=>.nil
 | _,_,n+1,.cons _ t=>l3.drop n t
theorem l3.none_of:∀{xs:List V} {us:List Value} {i:Nat},l3 xs us->xs[i]?=none->us[i]?=none:=fun {xs us i} r e=>by
 have h1:=r.length
 have h2:xs.length<=i:=List.getElem?_eq_none_iff.mp e
 exact List.getElem?_eq_none_iff.mpr (by omega)
def xp:Option V->Option Value->Prop
 | some v,some u=>RelV v u
 | none,none=>True
 | _,_=>False
def KV{κ:Type}:List (κ×V)->List (κ×Value)->Prop:=Paired fun (p:κ×V) (q:κ×Value)=>p.1=q.1/\RelV p.2 q.2
def kV:Key->V
 | .inl i=>.int i
 | .inr x=>.str x
inductive HO where
 | lst (xs:List V)
 | tup (xs:List V)
 | dK (kvs:List (Key×V)) | dT (kvs:List (List Key×V))
 | set (S:Int->Bool) (n:Nat)
 | ins (C dx:Addr) (fs:List (Str×V))
 | own (x:Addr)
 | xd (fs:List (Str×V))
 | met (f x:Addr)
 | rng (lo hi:Int)
 | frz (o:Obj) (u:HO)
 | tbl (q:Str) (c:Bool)
 | ext (φ:Heap->Prop)
abbrev Hp:=Addr->Option HO
def upd(H:Hp)(a:Addr)(o:HO):Hp:=fun b=>if b=a then some o else H b
theorem av{H:Hp}{a:Addr}{o:HO}:upd H a o a=some o:=by unfold upd;rw[if_pos rfl]
theorem aq{H:Hp}{a b:Addr}{o:HO}(h:b≠a):upd H a o b=H b:=by unfold upd;rw[if_neg h]
theorem tw{H:Hp}{a b:Addr}{o:HO}(h:H a=some o)(h':H b=none):a≠b:=by
 intro e;subst e;rw[h] at h';cases h'
def vG(h:Heap)(a:Addr)(its:Array Value):Prop:=∃o,h.get? a=some o/\o.cls=.type "tuple" /\ (∃n,o.data=.seq its n)/\o.dict=none
theorem vG.is{h:Heap}{a:Addr}{its:Array Value}(x:vG h a its):IsTup h a its:=by obtain⟨o,e,c,d,_⟩:=x;exact⟨o,e,c,d⟩
theorem vG.lt{h:Heap}{a:Addr}{its:Array Value}(x:vG h a its):a<h.objs.size:=x.is.lt
theorem vG.new(h:Heap)(its:Array Value):vG (h.push {cls:=.type "tuple",data:=.seq its}) h.objs.size its:=⟨_,Heap.get?_push_size _ rfl,rfl,⟨_,rfl⟩,rfl⟩
section
variable(P:Program)(w:World)
def ui(H:Hp)(h:Heap)(a:Addr):HO->Prop
 | .lst xs=>xs.length<=sizeLine/\∃(its:List Value) (n:Nat),l3 xs its/\h.get? a=some {cls:=.type "list",data:=.seq its.toArray n}
 | .tup xs=>xs.length<=sizeLine/\∃its:List Value,l3 xs its/\vG h a its.toArray
 | .dK kvs=>kvs.length<=sizeLine/\(a==sysModules)=false/\∃vs,KV kvs vs/\h.DictOf (zd P w) a vs
 | .dT kvs=>kvs.length<=sizeLine/\(a==sysModules)=false/\∃xs:List (List Key×Addr×Value),
   Paired (fun (p:List Key×V) (q:List Key×Addr×Value)=>p.1=q.1/\H q.2.1=some (.tup (p.1.map kV))/\RelV p.2 q.2.2) kvs xs /\
   ∃o es ep,h.get? a=some o/\o.ExactDict/\o.data=.dict es ep/\es.toList=xs.map (entryOfKey (tupleKind (zd P w)))/\(xs.map (·.1)).Nodup
 | .set S n=>h.SetOf (intKind P w) a S n
 | .ins C dx fs=>H dx=some (.own a)/\fs.length<=1000/\dx≠a/\h.get? a=some (PySem.W.instObj C dx) /\
   ∃mA,h.Ns1 dx mA/\(∀f,xp (fs.lookup f) (mA f))/\PySem.Within mA (fs.map (·.1))
 | .own _=>∃o,h.get? a=some o
 | .xd fs=>∃mA,h.Ns1 a mA/\∀f,xp (fs.lookup f) (mA f)
 | .rng lo hi=>∃t u v,h.get? a=some {cls:=.type "range",data:=.fields #[.int lo t,.int hi u,.int 1 v]}
 | .frz o u=>h.get? a=some o/\ui H h a u
 | .tbl q true=>h.CodeRec (.ref a) q
 | .tbl q false=>∃ts:Array Value,h.get? a=some {cls:=.none,data:=.fields ts}/\TriplesOk ts.toList/\∀(pos:Pos) (cv:Value),codeAmong pos ts.toList=some cv->∃c,cv=.ref c/\H c=some (.tbl q true)
 | .met f x=>h.get? a=some (PySem.W.methodObj (.ref f) (.ref x))
 | .ext φ=>φ h/\(∃o,h.get? a=some o)/\∀h1 h2:Heap,φ h1->(∀o,h1.get? a=some o->h2.get? a=some o)->φ h2
def xt(H:Hp)(h:Heap):Prop:=∀a o,H a=some o->ui P w H h a o
end
section
variable{P:Program}{w:World}{H H':Hp}{h h':Heap}{a:Addr}{o:HO}
theorem ui.lt(x:ui P w H h a o):a<h.objs.size:=by
 cases o with
 | lst xs=>obtain⟨_,_,_,_,e⟩:=x;exact Heap.lt_size e
 | tup xs=>obtain⟨_,_,_,p⟩:=x;exact p.lt
 | dK kvs=>obtain⟨_,_,_,_,o,_,_,e,_⟩:=x;exact Heap.lt_size e
 | dT kvs=>obtain⟨_,_,_,_,o,_,_,e,_⟩:=x;exact Heap.lt_size e
 | set S n=>obtain⟨o,_,_,_,e,_⟩:=x;exact Heap.lt_size e
 | ins C dx fs=>obtain⟨_,_,_,e,_⟩:=x;exact Heap.lt_size e
 | own y=>obtain⟨_,e⟩:=x;exact Heap.lt_size e
 | xd fs=>obtain⟨_,⟨_,_,_,e,_⟩,_⟩:=x;exact Heap.lt_size e
 | rng lo hi=>obtain⟨_,_,_,e⟩:=x;exact Heap.lt_size e
 | frz ob u=>obtain⟨e,_⟩:=x;exact Heap.lt_size e
 | tbl q c =>
  cases c with
  | true=>obtain⟨_,o,_,_,e,g,_⟩:=(show h.CodeRec (.ref a) q from x);cases e;exact Heap.lt_size g
  | false=>obtain⟨_,e,_⟩:=x;exact Heap.lt_size e
 | met f y=>exact Heap.lt_size (show h.get? a=some _ from x)
 | ext φ=>obtain⟨_,⟨_,e⟩,_⟩:=x;exact Heap.lt_size e
theorem Paired.mapP{α β:Type}{F G:α->β->Prop}:∀{l₁:List α} {l₂:List β},Paired F l₁ l₂->(∀a b,F a b->G a b)->Paired G l₁ l₂
 | _,_,.nil,_=>.nil
 | _,_,.cons r t,f=>.cons (f _ _ r) (Paired.mapP t f)
theorem ui.stay(x:ui P w H h a o)(k:∀b u,(b=a\/H b=some (.own a))->h.get? b=some u->h'.get? b=some u)
  (ho:∀b,H b=some (.own a)->H' b=some (.own a)) (ht:∀b xs,H b=some (.tup xs)->H' b=some (.tup xs)) (hc:∀b q c,H b=some (.tbl q c)->H' b=some (.tbl q c)):ui P w H' h' a o:=by
 induction o with
 | lst xs=>obtain⟨z,its,n,r,e⟩:=x;exact⟨z,its,n,r,k _ _ (.inl rfl) e⟩
 | tup xs=>obtain⟨z,its,r,ob,e,c⟩:=x;exact⟨z,its,r,ob,k _ _ (.inl rfl) e,c⟩
 | dK kvs=>obtain⟨z,y,vs,r,ob,es,ep,e,c⟩:=x;exact⟨z,y,vs,r,ob,es,ep,k _ _ (.inl rfl) e,c⟩
 | dT kvs =>
  obtain⟨z,y,xs,r,ob,es,ep,e,c⟩:=x
  exact⟨z,y,xs,Paired.mapP r fun p q z=>⟨z.1,ht _ _ z.2.1,z.2.2⟩,ob,es,ep,k _ _ (.inl rfl) e,c⟩
 | set S n=>obtain⟨ob,es,ep,t,e,c⟩:=x;exact⟨ob,es,ep,t,k _ _ (.inl rfl) e,c⟩
 | ins C dx fs =>
  obtain⟨d,z,ne,e,mA,⟨od,es,ep,e2,c⟩,r⟩:=x
  exact⟨ho _ d,z,ne,k _ _ (.inl rfl) e,mA,⟨od,es,ep,k _ _ (.inr d) e2,c⟩,r⟩
 | own y=>obtain⟨ob,e⟩:=x;exact⟨ob,k _ _ (.inl rfl) e⟩
 | xd fs=>obtain⟨mA,⟨od,es,ep,e,c⟩,r⟩:=x;exact⟨mA,⟨od,es,ep,k _ _ (.inl rfl) e,c⟩,r⟩
 | rng lo hi=>obtain⟨t,u,v,e⟩:=x;exact⟨t,u,v,k _ _ (.inl rfl) e⟩
 | frz ob u ih=>obtain⟨e,q⟩:=x;exact⟨k _ _ (.inl rfl) e,ih q⟩
 | tbl q c =>
  cases c with
  | true =>
   obtain⟨_,o,vs,t,e,g,r⟩:=(show h.CodeRec (.ref a) q from x)
   cases e
   exact⟨a,o,vs,t,rfl,k _ _ (.inl rfl) g,r⟩
  | false =>
   obtain⟨ts,e,t,r⟩:=x
   refine⟨ts,k _ _ (.inl rfl) e,t,fun pos cv hcv=>?_⟩
   obtain⟨c,e1,e2⟩:=r pos cv hcv
   exact⟨c,e1,hc _ _ _ e2⟩
 | met f y =>
  have e:h.get? a=some (PySem.W.methodObj (.ref f) (.ref y)):=x
  show h'.get? a=some (PySem.W.methodObj (.ref f) (.ref y))
  exact k a _ (.inl rfl) e
 | ext φ=>obtain⟨p,⟨o,e⟩,st⟩:=x;exact⟨st _ _ p fun o q=>k _ _ (.inl rfl) q,⟨o,k _ _ (.inl rfl) e⟩,st⟩
theorem xt.lt(x:xt P w H h)(e:H a=some o):a<h.objs.size:=(x a o e).lt
theorem xt.fresh(x:xt P w H h)(e:h.objs.size<=a):H a=none:=by
 cases q:H a with
 | none=>rfl
 | some u=>exact absurd (Nat.lt_of_lt_of_le (x.lt q) e) (Nat.lt_irrefl _)
theorem xt.kept(x:xt P w H h)(k:∀b u,h.get? b=some u->h'.get? b=some u):xt P w H h':=fun a o e =>
 (x a o e).stay (fun b u _ q=>k b u q) (fun _ q=>q) (fun _ _ q=>q) fun _ _ _ q=>q
theorem xt.laid(x:xt P w H h)(k:∀b u,h.get? b=some u->h'.get? b=some u)(hp:h.objs.size<=a)(new:ui P w (upd H a o) h' a o):xt P w (upd H a o) h':=fun b u e=>by
 have hn:=x.fresh hp
 by_cases hb:b=a
 ·subst hb;rw[av] at e;cases e;exact new
 ·rw[aq hb] at e
  exact(x b u e).stay (fun c v _ q=>k c v q) (fun c q=>by rw[aq (tw q hn)];exact q) (fun c xs q=>by rw[aq (tw q hn)];exact q) fun c _ _ q=>by rw[aq (tw q hn)];exact q
end
def Rd(H:Hp)(a:Addr)(u:HO):Prop:=H a=some u\/∃o,H a=some (.frz o u)
theorem Rd.of{H:Hp}{a:Addr}{u:HO}(h:H a=some u):Rd H a u:=.inl h
theorem Rd.ok{P:Program}{w:World}{H:Hp}{h:Heap}{a:Addr}{u:HO}(r:Rd H a u)(x:xt P w H h):ui P w H h a u:=by
 rcases r with r | ⟨o,r⟩
 ·exact x a u r
 ·obtain⟨_,q⟩:=x a _ r
  exact q
def Mf:Option HO->Prop
 | some (.lst _)=>True
 | some (.dK _)=>True
 | some (.dT _)=>True
 | some (.set _ _)=>True
 | some (.ins _ _ _)=>True
 | some (.ext _)=>True
 | some (.frz _ (.own _))=>True
 | _=>False
section
variable{P:Program}{w:World}{H:Hp}{h h':Heap}{x e:Addr}{o':HO}
theorem xt.write(ok:xt P w H h)(mu:Mf (H x))(he:e=x\/H e=some (.own x))(k:∀b u,b≠e->h.get? b=some u->h'.get? b=some u)(heo:∃u,h'.get? e=some u)
  (new:ui P w (upd H x o') h' x o'):xt P w (upd H x o') h':=fun b u q=>by
 have nown:∀c y,H c=some (.own y)->c≠x:=fun c y r z=>by subst z;rw[r] at mu;exact mu
 have ntup:∀c xs,H c=some (.tup xs)->c≠x:=fun c xs r z=>by subst z;rw[r] at mu;exact mu
 by_cases hb:b=x
 ·subst hb;rw[av] at q;cases q;exact new
 ·rw[aq hb] at q
  by_cases hbe:b=e
  ·have q':H b=some (.own x):=by
    rcases he with z | z
    ·exact absurd (hbe.trans z) hb
    ·rw[hbe];exact z
   rw[q] at q';cases q'
   obtain⟨v,hv⟩:=heo
   exact⟨v,by rw[hbe];exact hv⟩
  ·refine(ok b u q).stay (fun c v hc r=>k c v ?_ r) (fun c r=>by rw[aq (nown c b r)];exact r) (fun c xs r=>by rw[aq (ntup c xs r)];exact r) fun c q d r=>by rw[aq fun z=>by subst z;rw[r] at mu;exact mu];exact r
   rcases hc with rfl | hc
   ·exact hbe
   ·rintro rfl
    rcases he with z | z
    ·exact nown c b hc z
    ·rw[hc] at z;cases z;exact hb rfl
end
structure Un (fs ex:List Addr) (H H':Hp) (h h':Heap):Prop where
 keep:∀b o,h.get? b=some o->H b=none->b∉fs->b∉ex->h'.get? b=some o
 slot:∀b o,h.get? b=some o->H b=none->b∈fs->b∉ex->∃sl,h'.get? b=some {o with slots:=sl}
 free:∀b o,h.get? b=some o->H b=none->b∉ex->H' b=none
 there:∀b o,h.get? b=some o->b∉ex->∃o',h'.get? b=some o'
 tups:∀b xs,H b=some (.tup xs)->H' b=some (.tup xs)
 frzs:∀b o u,(∀y,u≠.own y)->H b=some (.frz o u)->H' b=some (.frz o u)
 tbls:∀b q c,H b=some (.tbl q c)->H' b=some (.tbl q c)
section
variable{fs fs' ex ex':List Addr}{H H1 H2:Hp}{h h1 h2 h':Heap}{a x e:Addr}{o:HO}
theorem Un.any(u:Un fs ex H H1 h h1){b:Addr}{ob:Obj}(q:h.get? b=some ob)(n:H b=none)(hx:b∉ex):∃sl,h1.get? b=some {ob with slots:=sl}:=by
 by_cases hb:b∈fs
 ·exact u.slot b ob q n hb hx
 ·exact⟨ob.slots,u.keep b ob q n hb hx⟩
theorem Un.trans(a:Un fs ex H H1 h h1)(b:Un fs ex H1 H2 h1 h2):Un fs ex H H2 h h2 where
 keep:=fun c ob q n hc hx=>b.keep c ob (a.keep c ob q n hc hx) (a.free c ob q n hx) hc hx
 slot:=fun c ob q n hc hx=>by
  obtain⟨sl,e1⟩:=a.slot c ob q n hc hx
  obtain⟨sl',e2⟩:=b.slot c _ e1 (a.free c ob q n hx) hc hx
  exact⟨sl',e2⟩
 free:=fun c ob q n hx=>by
  obtain⟨o',e1⟩:=a.there c ob q hx
  exact b.free c o' e1 (a.free c ob q n hx) hx
 there:=fun c ob q hx=>by
  obtain⟨o',e1⟩:=a.there c ob q hx
  exact b.there c o' e1 hx
 tups:=fun c xs q=>b.tups c xs (a.tups c xs q)
 frzs:=fun c ob xs ny q=>b.frzs c ob xs ny (a.frzs c ob xs ny q)
 tbls:=fun c ps d q=>b.tbls c ps d (a.tbls c ps d q)
theorem Un.kept(k:∀b u,h.get? b=some u->h'.get? b=some u):Un fs ex H H h h':=
 ⟨fun b ob q _ _ _=>k b ob q,fun b ob q _ _ _=>⟨ob.slots,k b ob q⟩,fun _ _ _ n _=>n,fun b ob q _=>⟨ob,k b ob q⟩,fun _ _ q=>q,fun _ _ _ _ q=>q,fun _ _ _ q=>q⟩
theorem Un.refl:Un fs ex H H h h:=Un.kept fun _ _ q=>q
theorem Un.laid(k:∀b u,h.get? b=some u->h'.get? b=some u)(hp:h.objs.size<=a)(hn:H a=none):Un fs ex H (upd H a o) h h' where
 keep:=fun b u q _ _ _=>k b u q
 slot:=fun b u q _ _ _=>⟨u.slots,k b u q⟩
 free:=fun b u q n _=>by rw[aq (Nat.ne_of_lt (Nat.lt_of_lt_of_le (Heap.lt_size q) hp))];exact n
 there:=fun b u q _=>⟨u,k b u q⟩
 tups:=fun b xs q=>by rw[aq (tw q hn)];exact q
 frzs:=fun b u xs _ q=>by rw[aq (tw q hn)];exact q
 tbls:=fun b ps _ q=>by rw[aq (tw q hn)];exact q
theorem Un.write(mu:Mf (H x))(he:e=x\/H e=some (.own x))(k:∀b u,b≠e->h.get? b=some u->h'.get? b=some u)(heo:∃u,h'.get? e=some u):Un fs ex H (upd H x o) h h':=by
 have hx:∀b,H b=none->b≠x:=fun b n z=>by subst z;rw[n] at mu;exact mu
 have hb:∀b,H b=none->b≠e:=fun b n z=>by
  subst z
  rcases he with r | r
  ·exact hx b n r
  ·rw[n] at r;cases r
 have hm:∀b u,H b=some u->¬ Mf (some u)->b≠x:=fun b u q nm z=>by subst z;rw[q] at mu;exact nm mu
 refine⟨fun b u q n _ _=>k b u (hb b n) q,fun b u q n _ _=>⟨u.slots,k b u (hb b n) q⟩,fun b u q n _=>by rw[aq (hx b n)];exact n,fun b u q _=>?_,
  fun b xs q=>by rw[aq (hm b _ q fun z=>z)];exact q,fun b u xs ny q=>by rw[aq (hm b _ q (by intro z;cases xs<;>first | exact z | exact ny _ rfl))];exact q,fun b ps _ q=>by rw[aq (hm b _ q fun z=>z)];exact q⟩
 by_cases hbe:b=e
 ·subst hbe;exact heo
 ·exact⟨u,k b u hbe q⟩
theorem Un.mono(u:Un fs ex H H1 h h1)(hs:∀b∈fs,b∈fs')(hx:∀b∈ex,b∈ex'):Un fs' ex' H H1 h h1:=
 ⟨fun b ob q n hb he=>u.keep b ob q n (fun z=>hb (hs b z)) fun z=>he (hx b z),fun _ _ q n _ he=>u.any q n fun z=>he (hx _ z),fun b ob q n he=>u.free b ob q n fun z=>he (hx b z),fun b ob q he=>u.there b ob q fun z=>he (hx b z),u.tups,u.frzs,u.tbls⟩
end
def Mh(h:Heap)(H:Hp):List Addr:=(List.range h.objs.size).filter fun a=>(H a).isSome
def xM(h:Heap)(H:Hp):Heap:=PySem.W.hideAll h (Mh h H)
theorem AE(h:Heap)(H:Hp):(xM h H).objs.size=h.objs.size:=PySem.W.hideAll_size _ _
theorem BM{h:Heap}{H:Hp}{b:Addr}{o:Obj}(e:h.get? b=some o)(n:H b=none):(xM h H).get? b=some o:=
 PySem.W.hideAll_get _ e fun hm=>by
  have q:(H b).isSome=true:=(List.mem_filter.mp hm).2
  rw[n] at q;simp at q
theorem DP{h:Heap}{H:Hp}{b:Addr}{o:Obj}(e:(xM h H).get? b=some o):h.get? b=some o/\H b=none:=by
 have e':h.get? b=some o:=PySem.W.of_hideAll (Mh h H) e
 refine⟨e',?_⟩
 cases q:H b with
 | none=>rfl
 | some x =>
  have hm:b∈Mh h H:=List.mem_filter.mpr ⟨List.mem_range.mpr (Heap.lt_size e'),by simp[q]⟩
  have z:(xM h H).get? b=none:=PySem.W.hideAll_none (Mh h H) hm
  rw[z] at e;cases e
noncomputable def Hy(g h:Heap)(L:Addr):List (Addr×Obj):=(List.range h.objs.size).filterMap fun a=>if a=L\/(g.get? a).isSome=true then none else (h.get? a).map fun o=>(a,o)
def rest(g h:Heap)(L d:Addr):List (Addr×Obj):=(Hy g h L).filter fun p=>decide (p.1≠d)
end L2
namespace L2
open PySem PySem.Spec PyProof.Rows
structure Mod (K:PySem.W.Frag) (mg:Str->Option Value) (base:Heap):Prop where
 kin:K.In base
 glob:base.Ns mainGlobals mg
 blt:∃mb,base.Ns builtinsNs mb/\∀x:Str,x ≠ "__name__" -> mb x=bootBuiltins x
 nolimit:base.NoLimit
structure Cx where
 prog:Program
 w:World
 K:PySem.W.Frag
 mg:Str->Option Value
 base:Heap
 A:Around
 N:List Str
 s₀:Shared
 H₀:Hp
 env:Env
 outer:List Env
 stack:List Env
 ex:List Addr
 fn:Str->Bool
 calm:Bool
 pn:List (Addr×Obj)
 xe:Value->Shared->Prop
noncomputable def vR(l:List Env):List Addr:=l.filterMap (·.frame)
abbrev Cx.fs(X:Cx):List Addr:=vR X.outer
def z8(sc:Scope)(x:Str):Prop:=sc.names.lookup x=some .local\/sc.names.lookup x=some .cell\/sc.names.lookup x=some .free
def Loc(sc:Scope)(x:Str):Prop:=sc.names.lookup x=some .local\/sc.names.lookup x=some .cell
def Look(env:Env)(h:Heap)(m:Str->Option Value)(x:Str)(u:Value):Prop:=
 (env.kindOf x=some .local/\m x=some u)\/((env.kindOf x=some .cell\/env.kindOf x=some .free)/\∃c,env.cells.lookup x=some c/\h.IsCell c (some u))
structure Cx.Ok (X:Cx):Prop where
 mod:Mod X.K X.mg X.base
 kind:X.env.scope.kind=.function
 glob:X.env.globals=mainGlobals
 blt:X.env.builtins=builtinsNs
 above:X.s₀.heap.objs.size<=X.env.locals
 inj:∀x y c,X.env.cells.lookup x=some c->X.env.cells.lookup y=some c->x=y
 has:∀x,(X.env.kindOf x=some .cell\/X.env.kindOf x=some .free)->∃c,X.env.cells.lookup x=some c
 cab:∀x c,X.fn x=true->X.env.cells.lookup x=some c->X.s₀.heap.objs.size<=c
 hd:X.calm=true->X.A.handled=none
 frames:X.A.frames=some X.stack
 stk:X.stack=X.outer\/(X.stack=X.env::X.outer/\X.env.frame=some X.env.locals)
 exf:∀b∈X.ex,b≠X.env.locals/\∀x c,X.env.cells.lookup x=some c->c≠b
 bs:∀b o,X.base.get? b=some o->X.s₀.heap.get? b=some o/\X.H₀ b=none
 bsz:X.base.objs.size<=X.s₀.heap.objs.size
 noex:∀b o,X.base.get? b=some o->b∉X.ex
 exfs:∀b∈X.ex,b∉X.fs
 funs:X.s₀.heap.FunFrames X.base X.outer
 frf:∀b∈X.fs,X.H₀ b=none
structure Inv (X:Cx) (pins:List (Addr×Obj)) (σ:List (Option V)) (H:Hp) (s:Shared):Prop where
 ok:X.Ok
 os:s.os=X.s₀.os
 bare:AllBare s.gens
 base:Un X.fs X.ex X.H₀ H X.s₀.heap s.heap
 loc:∃m,s.heap.Ns X.env.locals m/\∀(i:Nat) (x:Str) (v:V),X.N[i]?=some x->σ[i]?=some (some v)->z8 X.env.scope x->∃u,RelV v u/\Look X.env s.heap m x u
 cell:∀x c,X.env.cells.lookup x=some c->∃v,s.heap.IsCell c v
 free:H X.env.locals=none
 freeC:∀x c,X.env.cells.lookup x=some c->H c=none
 pin:∀p∈X.pn++pins,s.heap.get? p.1=some p.2/\H p.1=none/\p.1≠X.env.locals/\p.1∉X.fs/\∀v,p.2.data≠.cell v
 hok:xt X.prog X.w H s.heap
 len:σ.length=X.N.length
section
variable{X:Cx}{pins:List (Addr×Obj)}{σ:List (Option V)}{H H':Hp}{s:Shared}{h':Heap}
theorem Cx.Ok.nofr(ok:X.Ok){b:Addr}{o:Obj}(e:X.base.get? b=some o):b∉X.fs:=fun hb=>by
 have:=(ok.funs.mem hb).1
 rw[e] at this;cases this
theorem Inv.bs(I:Inv X pins σ H s):∀b o,X.base.get? b=some o->s.heap.get? b=some o/\H b=none:=fun b o e =>
 ⟨I.base.keep b o (I.ok.bs b o e).1 (I.ok.bs b o e).2 (I.ok.nofr e) (I.ok.noex b o e),I.base.free b o (I.ok.bs b o e).1 (I.ok.bs b o e).2 (I.ok.noex b o e)⟩
theorem Inv.bk(I:Inv X pins σ H s):∀b o,X.base.get? b=some o->s.heap.get? b=some o:=fun b o e=>(I.bs b o e).1
theorem Inv.mod(I:Inv X pins σ H s):Mod X.K X.mg X.base:=I.ok.mod
theorem Inv.kIn(I:Inv X pins σ H s):X.K.In s.heap:=I.ok.mod.kin.keeps I.bk
theorem Inv.nolimit(I:Inv X pins σ H s):s.heap.NoLimit:=I.ok.mod.nolimit.keeps I.bk
theorem Inv.fr(I:Inv X pins σ H s):∃m,Fr X.base X.env.locals s.heap m:=
 let ⟨m,hn,_⟩:=I.loc
 ⟨m,hn,I.bk,Nat.le_trans I.ok.bsz I.ok.above⟩
theorem Inv.lt(I:Inv X pins σ H s):X.env.locals<s.heap.objs.size:=let ⟨_,hn,_⟩:=I.loc;hn.lt
theorem Inv.sz(I:Inv X pins σ H s):X.s₀.heap.objs.size<=s.heap.objs.size:=Nat.le_trans I.ok.above (Nat.le_of_lt I.lt)
theorem Inv.nofs(I:Inv X pins σ H s){a:Addr}(h:s.heap.objs.size<=a):a∉X.fs:=fun hb=>by
 obtain⟨_,o,ho,_⟩:=I.ok.funs.mem hb
 exact absurd (Nat.lt_of_lt_of_le (Heap.lt_size ho) (Nat.le_trans I.sz h)) (Nat.lt_irrefl _)
theorem Inv.cne(I:Inv X pins σ H s):∀x c,X.env.cells.lookup x=some c->c≠X.env.locals:=fun x c e z=>by
 obtain⟨v,o,ho,hd⟩:=I.cell x c e
 obtain⟨m,⟨o',es,ep,ho',hd',_⟩,_⟩:=I.loc
 rw[z,ho'] at ho;cases ho;rw[hd'] at hd;cases hd
theorem Inv.funs(I:Inv X pins σ H s):s.heap.FunFrames X.base X.outer:=by
 have all:∀(l:List Env),(∀b∈vR l,b∈X.fs)->X.s₀.heap.FunFrames X.base l->s.heap.FunFrames X.base l:=by
  intro l
  induction l with
  | nil=>intro _ _;trivial
  | cons env r ih =>
   intro hs hl
   obtain⟨hk,⟨L,o,hf,hn,ho,hd⟩,hr⟩:=hl
   have hL:L∈X.fs:=hs L (by unfold vR;rw[List.filterMap_cons,hf];exact List.mem_cons_self)
   obtain⟨sl,e⟩:=I.base.slot L o ho (I.ok.frf L hL) hL fun z=>I.ok.exfs L z hL
   exact⟨hk,⟨L,_,hf,hn,e,hd⟩,ih (fun b hb=>hs b (by unfold vR;rw[List.filterMap_cons,hf];exact List.mem_cons_of_mem _ hb)) hr⟩
 exact all X.outer (fun _ hb=>hb) I.ok.funs
theorem Inv.stack(I:Inv X pins σ H s):s.heap.FunFrames X.base X.stack:=by
 rcases I.ok.stk with e | ⟨e,hf⟩
 ·rw[e];exact I.funs
 ·rw[e]
  obtain⟨m,hn,_⟩:=I.loc
  refine .cons (by rw[I.ok.kind];decide) hf hn ?_ I.funs
  exact Heap.get?_none_of_le (Nat.le_trans I.ok.bsz I.ok.above)
theorem Inv.stkSub(I:Inv X pins σ H s):∀b∈vR X.stack,b∈X.env.locals::X.fs:=fun b hb=>by
 rcases I.ok.stk with e | ⟨e,hf⟩
 ·rw[e] at hb;exact List.mem_cons_of_mem _ hb
 ·rw[e] at hb
  unfold vR at hb
  rw[List.filterMap_cons,hf] at hb
  exact hb
theorem Inv.stkFree(I:Inv X pins σ H s):∀b∈vR X.stack,H b=none:=fun b hb=>by
 rcases List.mem_cons.mp (I.stkSub b hb) with e | hb
 ·rw[e];exact I.free
 ·obtain⟨_,o,ho,_⟩:=I.ok.funs.mem hb
  exact I.base.free b o ho (I.ok.frf b hb) fun z=>I.ok.exfs b z hb
theorem Inv.step{g':Array GenState}{t':Nat}{d':Drawn}{ch:List Addr}(I:Inv X pins σ H s)
  (hch:∀b∈ch,(b∈X.ex\/X.s₀.heap.objs.size<=b)/\b≠X.env.locals/\(∀x c,X.env.cells.lookup x=some c->c≠b)/\∀p∈X.pn++pins,p.1≠b)
  (keep:∀b o,b≠X.env.locals->b∉X.fs->b∉ch->s.heap.get? b=some o->H b=none->h'.get? b=some o)
  (slot:∀b o,b≠X.env.locals->b∈X.fs->b∉ch->s.heap.get? b=some o->H b=none->∃sl,h'.get? b=some {o with slots:=sl}) (free:∀b o,b∉ch->s.heap.get? b=some o->H b=none->H' b=none)
  (there:∀b o,b∉ch->s.heap.get? b=some o->∃o',h'.get? b=some o')
  (tups:∀b xs,H b=some (.tup xs)->H' b=some (.tup xs)) (frzs:∀b o u,(∀y,u≠.own y)->H b=some (.frz o u)->H' b=some (.frz o u)) (tbls:∀b q c,H b=some (.tbl q c)->H' b=some (.tbl q c))
  (ns:∀m,s.heap.Ns X.env.locals m->h'.Ns X.env.locals m) (hok:xt X.prog X.w H' h') (hg:AllBare g') :
  Inv X pins σ H' {s with heap:=h',gens:=g',drawn:=d',toks:=t' }:=by
 have neL:∀b o,X.s₀.heap.get? b=some o->b≠X.env.locals:=fun b o e=>Nat.ne_of_lt (Nat.lt_of_lt_of_le (Heap.lt_size e) I.ok.above)
 have neC:∀b o,X.s₀.heap.get? b=some o->b∉X.ex->b∉ch:=fun b o e hx hb=>by
  rcases(hch b hb).1 with z | z
  ·exact hx z
  ·exact absurd (Nat.lt_of_lt_of_le (Heap.lt_size e) z) (Nat.lt_irrefl _)
 have cellK:∀x c,X.env.cells.lookup x=some c->∀v,s.heap.IsCell c v->h'.IsCell c v:=fun x c e v ⟨o,ho,hd⟩=>by
  have nch:c∉ch:=fun z=>(hch c z).2.2.1 x c e rfl
  by_cases hc:c∈X.fs
  ·obtain⟨sl,q⟩:=slot c o (I.cne x c e) hc nch ho (I.freeC x c e)
   exact⟨_,q,hd⟩
  ·exact⟨o,keep c o (I.cne x c e) hc nch ho (I.freeC x c e),hd⟩
 refine⟨I.ok,I.os,hg,⟨fun b o e n hb hx=>?_,fun b o e n hb hx=>?_,fun b o e n hx=>?_,fun b o e hx=>?_,fun b xs e=>tups b xs (I.base.tups b xs e),fun b o xs ny e=>frzs b o xs ny (I.base.frzs b o xs ny e),fun b ps d e=>?_⟩,?_,fun x c e=>?_,?_,fun x c e=>?_,fun p hp=>?_,hok,I.len⟩
 ·exact keep b o (neL b o e) hb (neC b o e hx) (I.base.keep b o e n hb hx) (I.base.free b o e n hx)
 ·obtain⟨sl,e1⟩:=I.base.slot b o e n hb hx
  obtain⟨sl',e2⟩:=slot b _ (neL b o e) hb (neC b o e hx) e1 (I.base.free b o e n hx)
  exact⟨sl',e2⟩
 ·obtain⟨o',e1⟩:=I.base.there b o e hx
  exact free b o' (neC b o e hx) e1 (I.base.free b o e n hx)
 ·obtain⟨o',e1⟩:=I.base.there b o e hx
  exact there b o' (neC b o e hx) e1
 ·exact tbls b ps d (I.base.tbls b ps d e)
 ·obtain⟨m,hn,hl⟩:=I.loc
  refine⟨m,ns m hn,fun i x v e1 e2 e3=>?_⟩
  obtain⟨u,r,l⟩:=hl i x v e1 e2 e3
  refine⟨u,r,?_⟩
  rcases l with l | ⟨k,c,e,z⟩
  ·exact .inl l
  ·exact .inr ⟨k,c,e,cellK x c e _ z⟩
 ·obtain⟨v,z⟩:=I.cell x c e
  exact⟨v,cellK x c e v z⟩
 ·obtain⟨m,⟨o,_,_,ho,_⟩,_⟩:=I.loc
  exact free _ o (fun z=>(hch _ z).2.1 rfl) ho I.free
 ·obtain⟨v,o,ho,hd⟩:=I.cell x c e
  exact free c o (fun z=>(hch c z).2.2.1 x c e rfl) ho (I.freeC x c e)
 ·obtain⟨e,n,ne,nf,d⟩:=I.pin p hp
  have nch:p.1∉ch:=fun z=>(hch p.1 z).2.2.2 p hp rfl
  exact⟨keep p.1 p.2 ne nf nch e n,free p.1 p.2 nch e n,ne,nf,d⟩
theorem Inv.un{t':Nat}(I:Inv X pins σ H s)(u:Un X.fs [] H H' s.heap h')(hok:xt X.prog X.w H' h'):Inv X pins σ H' {s with heap:=h',toks:=t' }:=by
 obtain⟨m,⟨o,es,ep,ho,r⟩,_⟩:=id I.loc
 obtain⟨sl,hL⟩:=u.any ho I.free (by simp)
 exact I.step (g':=s.gens) (d':=s.drawn) (ch:=[]) (fun _ z=>nomatch z) (fun b o _ hb _ e n=>u.keep b o e n hb (by simp)) (fun b o _ hb _ e n=>u.slot b o e n hb (by simp)) (fun b o _ e n=>u.free b o e n (by simp)) (fun b o _ e=>u.there b o e (by simp)) u.tups u.frzs u.tbls (fun m' hm=>by
  obtain⟨o',es',ep',ho',r'⟩:=hm
  rw[ho] at ho';cases ho'
  exact⟨_,es',ep',hL,r'⟩) hok I.bare
theorem Inv.call{g':Array GenState}{t':Nat}{d':Drawn}{ch:List Addr}(I:Inv X pins σ H s)(u:Un (vR X.stack) ch H H' s.heap h')(hok:xt X.prog X.w H' h')(hg:AllBare g')
  (hch:∀b∈ch,(b∈X.ex\/X.s₀.heap.objs.size<=b)/\b≠X.env.locals/\(∀x c,X.env.cells.lookup x=some c->c≠b)/\∀p∈X.pn++pins,p.1≠b) :
  Inv X pins σ H' {s with heap:=h',gens:=g',drawn:=d',toks:=t' }:=by
 obtain⟨m,⟨o,es,ep,ho,r⟩,_⟩:=id I.loc
 obtain⟨sl,hL⟩:=u.any ho I.free fun z=>(hch _ z).2.1 rfl
 exact I.step (ch:=ch) hch (fun b o hL hb hc e n=>u.keep b o e n (fun z=>(List.mem_cons.mp (I.stkSub b z)).elim hL hb) hc) (fun b o _ _ hc e n=>u.any e n hc) (fun b o hc e n=>u.free b o e n hc) (fun b o hc e=>u.there b o e hc) u.tups u.frzs u.tbls (fun m' hm=>by
  obtain⟨o',es',ep',ho',r'⟩:=hm
  rw[ho] at ho';cases ho'
  exact⟨_,es',ep',hL,r'⟩) hok hg
theorem Inv.turned{t':Nat}{it:Addr}(I:Inv X pins σ H s)(k:∀b o,b≠it->s.heap.get? b=some o->h'.get? b=some o)(hn:H it=none)(hL:it≠X.env.locals)
  (h1:it∈X.ex\/X.s₀.heap.objs.size<=it) (h2:∀x c,X.env.cells.lookup x=some c->c≠it) (h3:∀p∈X.pn++pins,p.1≠it):Inv X pins σ H {s with heap:=h',toks:=t' }:=by
 have nit:∀b u,H b=some u->b≠it:=fun b u e z=>by rw[z,hn] at e;cases e
 refine I.step (g':=s.gens) (d':=s.drawn) (ch:=[it]) (fun b hb=>?_) (fun b o _ _ hc e _=>k b o (fun z=>hc (by simp[z])) e) (fun b o _ _ hc e _=>⟨o.slots,k b o (fun z=>hc (by simp[z])) e⟩) (fun _ _ _ _ n=>n)
  (fun b o hc e=>⟨o,k b o (fun z=>hc (by simp[z])) e⟩) (fun _ _ e=>e) (fun _ _ _ _ e=>e) (fun _ _ _ e=>e) (fun m hm=>?_) (fun b u e=>?_) I.bare
 ·have e:b=it:=by simpa using hb
  subst e
  exact⟨h1,hL,h2,h3⟩
 ·obtain⟨o,es,ep,ho,r⟩:=hm
  exact⟨o,es,ep,k _ o (Ne.symm hL) ho,r⟩
 ·refine(I.hok b u e).stay (fun c v hc q=>k c v ?_ q) (fun _ q=>q) (fun _ _ q=>q) fun _ _ _ q=>q
  rcases hc with z | z
  ·rw[z];exact nit b u e
  ·exact nit c _ z
theorem Inv.tok(I:Inv X pins σ H s)(t:Nat):Inv X pins σ H {s with toks:=t}:=I.un (h':=s.heap) (t':=t) Un.refl I.hok
theorem Inv.kept{t':Nat}(I:Inv X pins σ H s)(k:∀b u,s.heap.get? b=some u->h'.get? b=some u):Inv X pins σ H {s with heap:=h',toks:=t' }:=I.un (Un.kept k) (I.hok.kept k)
theorem Inv.laid{a:Addr}{o:HO}{t':Nat}(I:Inv X pins σ H s)(k:∀b u,s.heap.get? b=some u->h'.get? b=some u)(hp:s.heap.objs.size<=a)(new:ui X.prog X.w (upd H a o) h' a o) :
  Inv X pins σ (upd H a o) {s with heap:=h',toks:=t' }:=I.un (Un.laid k hp (I.hok.fresh hp)) (I.hok.laid k hp new)
theorem Inv.write{x e:Addr}{o:HO}{t':Nat}(I:Inv X pins σ H s)(mu:Mf (H x))(he:e=x\/H e=some (.own x))(k:∀b u,b≠e->s.heap.get? b=some u->h'.get? b=some u)(heo:∃u,h'.get? e=some u)
  (new:ui X.prog X.w (upd H x o) h' x o):Inv X pins σ (upd H x o) {s with heap:=h',toks:=t' }:=I.un (Un.write mu he k heo) (I.hok.write mu he k heo new)
theorem Inv.pins_of{pins':List (Addr×Obj)}(I:Inv X pins σ H s)(h:∀p∈pins',s.heap.get? p.1=some p.2/\H p.1=none/\p.1≠X.env.locals/\p.1∉X.fs/\∀v,p.2.data≠.cell v):Inv X pins' σ H s:=
 ⟨I.ok,I.os,I.bare,I.base,I.loc,I.cell,I.free,I.freeC,fun p hp=>(List.mem_append.mp hp).elim (fun z=>I.pin p (List.mem_append_left _ z)) (h p),I.hok,I.len⟩
theorem zp{N:List Str}(hN:N.Nodup){i j:Nat}{x:Str}(a:N[i]?=some x)(b:N[j]?=some x):i=j:=by
 obtain⟨h1,e1⟩:=List.getElem?_eq_some_iff.mp a
 obtain⟨h2,e2⟩:=List.getElem?_eq_some_iff.mp b
 exact(List.getElem_inj hN).mp (e1.trans e2.symm)
theorem Eg{M:Model}{A:Around}{E:Value->Shared->Prop}{i:Nat}{x:Str}{v:V}{u:Value}{Q:Unit->Shared->Prop}(I:Inv X pins σ H s)(hN:X.N.Nodup)(hi:X.N[i]?=some x)(hx:Loc X.env.scope x)(r:RelV v u)
  (h:∀s',Inv X pins (σ.set i (some v)) H s'->(∃a,Heap.SameBut a s.heap s'.heap/\(a=X.env.locals\/X.env.cells.lookup x=some a))->Q () s') (hf:X.fn x=true\/X.env.scope.names.lookup x=some .local:=by first | exact .inl rfl | exact .inr rfl | assumption):wpAny M A (storeName X.env x u) Q E s:=by
 obtain⟨m,hn,hl⟩:=id I.loc
 have hcls:(X.env.scope.kind==.class||(X.env.scope.kind==.module&&X.env.locals != X.env.globals))=false:=by rw[I.ok.kind];rfl
 have hiσ:i<σ.length:=by rw[I.len];exact(List.getElem?_eq_some_iff.mp hi).1
 have cne:=I.cne
 have tracked:∀{a:Addr} {h':Heap},(∃o,s.heap.get? a=some o/\H a=none)->Heap.SameBut a s.heap h'->xt X.prog X.w H h':=fun {a h'} ha hs b ob e=>by
  obtain⟨_,_,hfree⟩:=ha
  refine(I.hok b ob e).stay (fun c w' hc q=>(hs.2 c ?_).trans q) (fun _ q=>q) (fun _ _ q=>q) fun _ _ _ q=>q
  rintro rfl
  rcases hc with rfl | hc
  ·rw[hfree] at e;cases e
  ·rw[hfree] at hc;cases hc
 rcases hx with hk | hk
 ·refine wpAny_storeName_local hk hn (fun h' hn' hs=>?_) hcls
  obtain⟨oL,_,_,hoL,_⟩:=id hn
  refine h _ ⟨I.ok,I.os,I.bare,⟨fun b o e n hb hx=>?_,fun b o e n hb hx=>?_,I.base.free,fun b o e hx=>?_,I.base.tups,I.base.frzs,I.base.tbls⟩,⟨_,hn',fun j y v' e1 e2 e3=>?_⟩,fun y c e=>?_,I.free,I.freeC,fun p hp=>?_,tracked ⟨oL,hoL,I.free⟩ hs,by simpa using I.len⟩ ⟨_,hs,.inl rfl⟩
  ·exact(hs.2 b (Nat.ne_of_lt (Nat.lt_of_lt_of_le (Heap.lt_size e) I.ok.above))).trans (I.base.keep b o e n hb hx)
  ·obtain⟨sl,e1⟩:=I.base.slot b o e n hb hx
   exact⟨sl,(hs.2 b (Nat.ne_of_lt (Nat.lt_of_lt_of_le (Heap.lt_size e) I.ok.above))).trans e1⟩
  ·obtain⟨o',e1⟩:=I.base.there b o e hx
   exact⟨o',(hs.2 b (Nat.ne_of_lt (Nat.lt_of_lt_of_le (Heap.lt_size e) I.ok.above))).trans e1⟩
  ·by_cases hj:j=i
   ·subst hj
    rw[hi] at e1;cases e1
    rw[List.getElem?_set_self hiσ] at e2
    cases e2
    exact⟨u,r,.inl ⟨hk,by simp⟩⟩
   ·rw[List.getElem?_set_ne (Ne.symm hj)] at e2
    obtain⟨u',r',q⟩:=hl j y v' e1 e2 e3
    refine⟨u',r',?_⟩
    rcases q with ⟨k,e⟩ | ⟨k,c,e,z⟩
    ·refine .inl ⟨k,?_⟩
     have:y≠x:=fun e=>hj (zp hN e1 (e ▸ hi))
     simp[this,e]
    ·exact .inr ⟨k,c,e,z.sameBut hs (cne y c e)⟩
  ·obtain⟨w',z⟩:=I.cell y c e
   exact⟨w',z.sameBut hs (cne y c e)⟩
  ·obtain⟨e,n,ne,nf,d⟩:=I.pin p hp
   exact⟨(hs.2 p.1 ne).trans e,n,ne,nf,d⟩
 ·have hfn:X.fn x=true:=by
   rcases hf with z | z
   ·exact z
   ·rw[z] at hk;cases hk
  obtain⟨c,hc⟩:=I.ok.has x (.inl hk)
  obtain⟨w',z⟩:=I.cell x c hc
  refine wpAny_storeName_cell I.ok.kind hk hc z (fun h' hc' hs=>?_)
  obtain⟨oc,hoc,hocd⟩:=id z
  refine h {s with heap:=h' } ⟨I.ok,I.os,I.bare,⟨fun b o e n hb hx=>?_,fun b o e n hb hx=>?_,I.base.free,fun b o e hx=>?_,I.base.tups,I.base.frzs,I.base.tbls⟩,⟨m,hn.sameBut hs (Ne.symm (cne x c hc)),fun j y v' e1 e2 e3=>?_⟩,fun y c' e=>?_,I.free,I.freeC,fun p hp=>?_,tracked ⟨oc,hoc,I.freeC x c hc⟩ hs,by simpa using I.len⟩ ⟨c,hs,.inr hc⟩
  ·exact(hs.2 b (Nat.ne_of_lt (Nat.lt_of_lt_of_le (Heap.lt_size e) (I.ok.cab x c hfn hc)))).trans (I.base.keep b o e n hb hx)
  ·obtain⟨sl,e1⟩:=I.base.slot b o e n hb hx
   exact⟨sl,(hs.2 b (Nat.ne_of_lt (Nat.lt_of_lt_of_le (Heap.lt_size e) (I.ok.cab x c hfn hc)))).trans e1⟩
  ·obtain⟨o',e1⟩:=I.base.there b o e hx
   exact⟨o',(hs.2 b (Nat.ne_of_lt (Nat.lt_of_lt_of_le (Heap.lt_size e) (I.ok.cab x c hfn hc)))).trans e1⟩
  ·by_cases hj:j=i
   ·subst hj
    rw[hi] at e1;cases e1
    rw[List.getElem?_set_self hiσ] at e2
    cases e2
    exact⟨u,r,.inr ⟨.inl hk,c,hc,hc'⟩⟩
   ·rw[List.getElem?_set_ne (Ne.symm hj)] at e2
    obtain⟨u',r',q⟩:=hl j y v' e1 e2 e3
    refine⟨u',r',?_⟩
    rcases q with q | ⟨k,c',e,z'⟩
    ·exact .inl q
    ·refine .inr ⟨k,c',e,z'.sameBut hs ?_⟩
     rintro rfl
     exact hj (zp hN e1 (I.ok.inj _ _ _ e hc ▸ hi))
  ·by_cases hcc:c'=c
   ·subst hcc;exact⟨_,hc'⟩
   ·obtain⟨w2,z2⟩:=I.cell y c' e
    exact⟨w2,z2.sameBut hs hcc⟩
  ·obtain⟨e,n,ne,nf,d⟩:=I.pin p hp
   refine⟨(hs.2 p.1 ?_).trans e,n,ne,nf,d⟩
   intro q
   rw[q,hoc] at e
   have q':oc=p.2:=Option.some.inj e
   exact d w' (by rw[<- q'];exact hocd)
theorem yh{M:Model}{A:Around}{E:Value->Shared->Prop}{i:Nat}{x:Str}{v:V}{u:Value}{Q:Unit->Shared->Prop}(I:Inv X pins σ H s)(hN:X.N.Nodup)(hi:X.N[i]?=some x)(hx:Loc X.env.scope x)(r:RelV v u)
  (h:∀s',Inv X pins (σ.set i (some v)) H s'->Q () s') (hf:X.fn x=true\/X.env.scope.names.lookup x=some .local:=by first | exact .inl rfl | exact .inr rfl | assumption):wpAny M A (storeName X.env x u) Q E s:=
 Eg I hN hi hx r (fun s' I' _=>h s' I') hf
theorem Inv.call'{s':Shared}{ch:List Addr}(I:Inv X pins σ H s)(ho:s'.os=s.os)(u:Un (vR X.stack) ch H H' s.heap s'.heap)(hok:xt X.prog X.w H' s'.heap)(hg:AllBare s'.gens)
  (hch:∀b∈ch,(b∈X.ex\/X.s₀.heap.objs.size<=b)/\b≠X.env.locals/\(∀x c,X.env.cells.lookup x=some c->c≠b)/\∀p∈X.pn++pins,p.1≠b):Inv X pins σ H' s':=by
 obtain⟨h',g',d',t',o'⟩:=s'
 have e:o'=s.os:=ho
 subst e
 exact I.call (g':=g') (t':=t') (d':=d') u hok hg hch
end
abbrev XK:=Value->Option Addr->Hp->Prop
abbrev St:=List (Option V)
abbrev VK:=V->Hp->Prop
abbrev TE:=St->Hp->VK->Prop
abbrev TT:=St->Hp->(Bool->Hp->Prop)->Prop
abbrev TA:=St->Hp->(List V->Hp->Prop)->Prop
structure Ends where
 nx:St->Hp->Prop
 rt:VK
 bk:St->Hp->Prop:=fun _ _=>False
 ct:St->Hp->Prop:=fun _ _=>False
abbrev TS:=Ends->St->Hp->Prop
def EP(X:Cx)(pins:List (Addr×Obj))(σ:St)(Q:VK)(u:Value)(s':Shared):Prop:=∃v H',Inv X pins σ H' s'/\RelV v u/\Q v H'
def TP(X:Cx)(pins:List (Addr×Obj))(σ:St)(Q:Bool->Hp->Prop)(b:Bool)(s':Shared):Prop:=∃H',Inv X pins σ H' s'/\Q b H'
def AP(X:Cx)(pins:List (Addr×Obj))(σ:St)(Q:List V->Hp->Prop)(us:List Value)(s':Shared):Prop:=∃vs H',Inv X pins σ H' s'/\l3 vs us/\Q vs H'
def SP(X:Cx)(pins:List (Addr×Obj))(D:Ends)(f:Flow)(s':Shared):Prop:=
 match f with
 | .next=>∃ σ' H',Inv X pins σ' H' s'/\D.nx σ' H'
 | .brk=>∃ σ' H',Inv X pins σ' H' s'/\D.bk σ' H'
 | .cont=>∃ σ' H',Inv X pins σ' H' s'/\D.ct σ' H'
 | .ret u=>∃v σ' H',Inv X pins σ' H' s'/\RelV v u/\D.rt v H'
def PE(X:Cx)(e:Expr)(t:TE):Prop:=
 ∀(pins:List (Addr×Obj)) (s:Shared) (σ:St) (H:Hp) (Q:VK),Inv X pins σ H s->t σ H Q->wpAny (model X.prog X.w) X.A (eval e X.env) (EP X pins σ Q) X.xe s
def PT(X:Cx)(e:Expr)(t:TT):Prop:=
 ∀(pins:List (Addr×Obj)) (s:Shared) (σ:St) (H:Hp) (Q:Bool->Hp->Prop),Inv X pins σ H s->t σ H Q->wpAny (model X.prog X.w) X.A (isTrue e X.env (eval e X.env)) (TP X pins σ Q) X.xe s
def PW(X:Cx)(e:Expr)(t:TT):Prop:=
 ∀(whole:Sem Value) (pins:List (Addr×Obj)) (s:Shared) (σ:St) (H:Hp) (Q:Bool->Hp->Prop),Inv X pins σ H s->t σ H Q->wpAny (model X.prog X.w) X.A (isTrue e X.env whole) (TP X pins σ Q) X.xe s
theorem PW.pt{X:Cx}{e:Expr}{t:TT}(h:PW X e t):PT X e t:=h _
def PA(X:Cx)(es:List Expr)(t:TA):Prop:=
 ∀(pos:Pos) (pins:List (Addr×Obj)) (s:Shared) (σ:St) (H:Hp) (Q:List V->Hp->Prop),Inv X pins σ H s->t σ H Q->wpAny (model X.prog X.w) X.A (spliced (backTo pos (starEach es X.env))) (AP X pins σ Q) X.xe s
def PS(X:Cx)(st:Stmt)(t:TS):Prop:=
 ∀(pins:List (Addr×Obj)) (s:Shared) (σ:St) (H:Hp) (D:Ends),Inv X pins σ H s->t D σ H->wpAny (model X.prog X.w) X.A (exec st X.env) (SP X pins D) X.xe s
def PSs(X:Cx)(st:List Stmt)(t:TS):Prop:=
 ∀(pins:List (Addr×Obj)) (s:Shared) (σ:St) (H:Hp) (D:Ends),Inv X pins σ H s->t D σ H->wpAny (model X.prog X.w) X.A (execs st X.env) (SP X pins D) X.xe s
theorem sX{α:Type}{t:Sem α}{Q Q':α->Shared->Prop}{M:Model}{A:Around}{E:Value->Shared->Prop}{s:Shared}(h:wpAny M A t Q E s)(hQ:∀a s,Q a s->Q' a s):wpAny M A t Q' E s:=wpAny_mono h hQ fun _ _ x=>x
end L2
namespace L2
open PySem PySem.Spec PyProof.Rows
section
variable{X:Cx}
theorem bin{a b:Expr}{ta tb:TE}(ha:PE X a ta)(hb:PE X b tb){pins:List (Addr×Obj)}{s:Shared}{σ:St}{H:Hp}{R:V->V->Hp->Prop}(I:Inv X pins σ H s)(h:ta σ H fun x H1=>tb σ H1 fun y H2=>R x y H2)
  {α:Type} {Q:α->Shared->Prop} {f:Value->Value->Sem α}
  (hf:∀v u s2 x y H2,Inv X pins σ H2 s2->RelV x v->RelV y u->R x y H2->wpAny (model X.prog X.w) X.A (f v u) Q X.xe s2) :
  wpAny (model X.prog X.w) X.A (eval a X.env) (fun v s₁=>wpAny (model X.prog X.w) X.A (eval b X.env) (fun u s₂=>wpAny (model X.prog X.w) X.A (f v u) Q X.xe s₂) X.xe s₁) X.xe s:=by
 refine sX (ha pins s σ H _ I h) fun v s1 ⟨x,H1,I1,r1,q1⟩=>?_
 refine sX (hb pins s1 σ H1 _ I1 q1) fun u s2 ⟨y,H2,I2,r2,q2⟩=>?_
 exact hf v u s2 x y H2 I2 r1 r2 q2
def JK(i:Nat):TE:=fun σ H Q=>∃v,σ[i]?=some (some v)/\Q v H
def tC(v:V):TE:=fun _ H Q=>Q v H
theorem iR{i:Nat}{x:Str}{pos:Pos}(hN:X.N[i]?=some x)(hv:z8 X.env.scope x)(hd:(x==("__debug__" : Str))=false:=by decide)(hcd:(x==("__classdict__" : Str))=false:=by decide):PE X (.Name x pos) (JK i):=by
 intro pins s σ H Q I h
 obtain⟨v,e,h⟩:=h
 obtain⟨m,hn,hl⟩:=I.loc
 obtain⟨u,r,l⟩:=hl i x v hN e hv
 have fin:EP X pins σ Q u s:=⟨v,H,I,r,h⟩
 rcases l with ⟨hk,hm⟩ | ⟨hk,c,hc,hcell⟩
 ·exact wpAny_Name (wpAny_loadName_local I.ok.kind hk hn hm fin) hd
 ·rcases hk with hk | hk
  ·exact wpAny_Name (wpAny_loadName_cell I.ok.kind hk hc hcell fin) hd
  ·exact wpAny_Name (wpAny_loadName_free I.ok.kind hk hc hcell fin hcd) hd
theorem Jz{i j pos}:PE X (.Constant (.int i) j pos) (tC (.int i)):=fun _ _ _ H _ I h=>wpAny_Constant_int ⟨.int i,H,I.tok _,⟨_,rfl⟩,h⟩
theorem KL{b j pos}:PE X (.Constant (.bool b) j pos) (tC (.bl b)):=fun _ _ _ H _ I h=>Constant_bool ⟨.bl b,H,I,rfl,h⟩
theorem IN{j pos}:PE X (.Constant .none j pos) (tC .non):=fun _ _ _ H _ I h=>Constant_none ⟨.non,H,I,rfl,h⟩
theorem Gz{x j pos}:PE X (.Constant (.str x) j pos) (tC (.str x)):=fun _ _ _ H _ I h=>Calls.Constant_str ⟨.str x,H,I.tok _,⟨_,rfl⟩,h⟩
def Gl(X:Cx)(x:Str):Prop:=X.env.kindOf x=some .globalImplicit
theorem et{E:Value->Shared->Prop}{pins:List (Addr×Obj)}{s:Shared}{σ:St}{H:Hp}{x:Str}{u:Value}{pos:Pos}{Q:Value->Shared->Prop}(I:Inv X pins σ H s)(hg:Gl X x)(hm:X.mg x=some u)(h:Q u s)
  (hd:(x==("__debug__" : Str))=false:=by decide):wpAny (model X.prog X.w) X.A (eval (.Name x pos) X.env) Q E s:=
 Calls.Name_function_global I.ok.kind hg (Calls.loadGlobal_global (by rw[I.ok.glob];exact I.mod.glob.keeps I.bk) hm h) hd
theorem eY{E:Value->Shared->Prop}{pins:List (Addr×Obj)}{s:Shared}{σ:St}{H:Hp}{x:Str}{u:Value}{pos:Pos}{Q:Value->Shared->Prop}(I:Inv X pins σ H s)(hg:Gl X x)(hm:X.mg x=none)(hv:bootBuiltins x=some u)(h:Q u s)
  (hn:x ≠ "__name__":=by decide) (hd:(x==("__debug__" : Str))=false:=by decide):wpAny (model X.prog X.w) X.A (eval (.Name x pos) X.env) Q E s:=by
 obtain⟨mb,h1,h2⟩:=I.mod.blt
 exact Calls.Name_function_global I.ok.kind hg (Calls.loadGlobal_builtin (by rw[I.ok.glob];exact I.mod.glob.keeps I.bk) hm (by rw[I.ok.blt];exact h1.keeps I.bk) ((h2 x hn).trans hv) h) hd
theorem ka{x:Str}{v:V}{u:Value}{pos:Pos}(hg:Gl X x)(hm:X.mg x=some u)(r:RelV v u)(hd:(x==("__debug__" : Str))=false:=by decide):PE X (.Name x pos) (tC v):=
 fun _ _ _ H _ I h=>et I hg hm ⟨v,H,I,r,h⟩ hd
variable{a b:Expr}{ta tb:TE}{pos:Pos}
variable{tA tB':TT}{rest:List Expr}
def MD(t u:TT):TT:=fun σ H Q=>t σ H fun c H1=>if c=true then u σ H1 Q else Q false H1
def N5(t u:TT):TT:=fun σ H Q=>t σ H fun c H1=>if c=true then Q true H1 else u σ H1 Q
def MV(t:TT):TT:=fun σ H Q=>t σ H fun c H1=>Q (!c) H1
theorem G1(ha:PT X a tA):PW X (.BoolOp .And [a] pos) tA:=by
 intro wh pins s σ H Q I h
 refine isTrue_and (sX (ha pins s σ H Q I h) fun c s1 e=>?_)
 cases c with
 | true=>exact isTrue_and_nil e
 | false=>exact e
theorem Jb(ha:PT X a tA):PW X (.BoolOp .Or [a] pos) tA:=by
 intro wh pins s σ H Q I h
 refine isTrue_or (sX (ha pins s σ H Q I h) fun c s1 e=>?_)
 cases c with
 | false=>exact isTrue_or_nil e
 | true=>exact e
theorem Je(ha:PT X a tA)(hb:PW X (.BoolOp .And (b::rest) pos) tB'):PW X (.BoolOp .And (a::b::rest) pos) (MD tA tB'):=by
 intro wh pins s σ H Q I h
 refine isTrue_and (sX (ha pins s σ H _ I h) fun c s1 ⟨H1,I1,q1⟩=>?_)
 cases c with
 | true=>exact hb wh pins s1 σ H1 Q I1 q1
 | false=>exact⟨H1,I1,q1⟩
theorem KI(ha:PT X a tA)(hb:PW X (.BoolOp .Or (b::rest) pos) tB'):PW X (.BoolOp .Or (a::b::rest) pos) (N5 tA tB'):=by
 intro wh pins s σ H Q I h
 refine isTrue_or (sX (ha pins s σ H _ I h) fun c s1 ⟨H1,I1,q1⟩=>?_)
 cases c with
 | true=>exact⟨H1,I1,q1⟩
 | false=>exact hb wh pins s1 σ H1 Q I1 q1
theorem rP(ha:PT X a tA):PT X (.UnaryOp .Not a pos) (MV tA):=by
 intro pins s σ H Q I h
 exact isTrue_not (ha pins s σ H (fun c H1=>Q (!c) H1) I h)
def Ky(ta tb:TE):TE:=fun σ H Q=>ta σ H fun x H1=>∃c,x=.bl c/\if c=true then tb σ H1 Q else Q (.bl false) H1
def K8(ta:TE):TE:=fun σ H Q=>ta σ H fun x H1=>∃c,x=.bl c/\Q (.bl (!c)) H1
theorem sj{op}{t:TE}(h:PE X a t):PE X (.BoolOp op [a] pos) t:=fun pins s σ H Q I hw=>BoolOp_one (h pins s σ H Q I hw)
theorem pM(ha:PE X a ta)(hb:PE X (.BoolOp .And (b::rest) pos) tb):PE X (.BoolOp .And (a::b::rest) pos) (Ky ta tb):=by
 intro pins s σ H Q I h
 refine BoolOp_and (sX (ha pins s σ H _ I h) fun v s1 ⟨x,H1,I1,r1,q1⟩=>?_)
 obtain⟨c,rfl,q1⟩:=q1
 cases r1
 refine wpAny_truthy_bool ?_
 cases c with
 | true=>exact hb pins s1 σ H1 Q I1 q1
 | false=>exact⟨.bl false,H1,I1,rfl,q1⟩
theorem rY(ha:PE X a ta):PE X (.UnaryOp .Not a pos) (K8 ta):=by
 intro pins s σ H Q I h
 refine UnaryOp_ (sX (ha pins s σ H _ I h) fun v s1 ⟨x,H1,I1,r1,q1⟩=>?_)
 obtain⟨c,rfl,q1⟩:=q1
 cases r1
 exact not_of (wpAny_truthy_bool ⟨.bl (!c),H1,I1,rfl,q1⟩)
def Oo(t:TT)(ta tb:TE):TE:=fun σ H Q=>t σ H fun c H1=>if c=true then ta σ H1 Q else tb σ H1 Q
theorem qh{c:Expr}(hc:PT X c tA)(ha:PE X a ta)(hb:PE X b tb):PE X (.IfExp c a b pos) (Oo tA ta tb):=by
 intro pins s σ H Q I h
 refine wpAny_IfExp (sX (hc pins s σ H _ I h) fun d s1 ⟨H1,I1,q1⟩=>?_)
 cases d with
 | true=>exact ha pins s1 σ H1 Q I1 q1
 | false=>exact hb pins s1 σ H1 Q I1 q1
end
end L2
namespace L2
open PySem PySem.Spec PyProof.Rows
def u4(K:PySem.W.Frag)(H:Hp)(a:Addr)(xs:List V):Prop:=
 Rd H a (.lst xs) \/
  ∃(o:Obj) (its:Array Value) (n:Nat),K.lookup a=some o/\o.cls=.type "list" /\ o.dict=none/\o.data=.seq its n/\its.size<=sizeLine/\l3 xs its.toList
def vC(K:PySem.W.Frag)(H:Hp)(a:Addr)(xs:List V):Prop:=
 Rd H a (.tup xs) \/
  ∃(o:Obj) (its:Array Value) (n:Nat),K.lookup a=some o/\o.cls=.type "tuple" /\ o.dict=none/\o.data=.seq its n/\its.size<=sizeLine/\l3 xs its.toList
noncomputable def Nm:Value->Option V
 | .none=>some .non
 | .bool b=>some (.bl b)
 | .int i _=>some (.int i)
 | .str x _=>some (.str x)
 | .bytes b _=>some (.byt b)
 | .float b _=>some (.flt b)
 | .ref a=>some (.ref a)
 | .type n=>some (.ty n)
 | _=>none
theorem RelV.abs{x:V}{u:Value}(r:RelV x u):Nm u=some x:=by
 cases x with
 | non=>cases r;rfl
 | bl _=>cases r;rfl
 | int _=>obtain⟨t,rfl⟩:=r;rfl
 | str _=>obtain⟨t,rfl⟩:=r;rfl
 | byt _=>obtain⟨t,rfl⟩:=r;rfl
 | flt _=>obtain⟨t,rfl⟩:=r;rfl
 | ref _=>cases r;rfl
 | ty _=>cases r;rfl
theorem RelV.inj{x y:V}{u:Value}(r:RelV x u)(q:RelV y u):x=y:=Option.some.inj (r.abs.symm.trans q.abs)
theorem l3.inj:∀{xs ys:List V} {us:List Value},l3 xs us->l3 ys us->xs=ys
 | _,_,_,.nil,.nil=>rfl
 | _,_,_,.cons r t,.cons r' t'=>by rw[r.inj r',l3.inj t t']
section
variable{X:Cx}{pins:List (Addr×Obj)}{σ:St}{H:Hp}{s:Shared}{a:Addr}{xs ys:List V}
theorem u4.of{K:PySem.W.Frag}(h:H a=some (.lst xs)):u4 K H a xs:=.inl (.inl h)
theorem vC.of{K:PySem.W.Frag}(h:H a=some (.tup xs)):vC K H a xs:=.inl (.inl h)
theorem Inv.list(I:Inv X pins σ H s)(h:u4 X.K H a xs):∃its:List Value,l3 xs its/\PlainL s.heap a its.toArray/\xs.length<=sizeLine:=by
 rcases h with h | ⟨o,its,n,hk,hc,hd,hs,hz,r⟩
 ·obtain⟨z,its,n,r,e⟩:=h.ok I.hok
  exact⟨its,r,⟨_,n,e,rfl,rfl,rfl⟩,z⟩
 ·refine⟨its.toList,r,⟨o,n,I.kIn a o hk,hc,hd,by simpa using hs⟩,?_⟩
  have e:=r.length
  simp only[Array.length_toList] at e
  omega
theorem Inv.tuple(I:Inv X pins σ H s)(h:vC X.K H a xs):∃its:List Value,l3 xs its/\IsTup s.heap a its.toArray/\xs.length<=sizeLine:=by
 rcases h with h | ⟨o,its,n,hk,hc,hd,hs,hz,r⟩
 ·obtain⟨z,its,r,p⟩:=h.ok I.hok
  exact⟨its,r,p.is,z⟩
 ·refine⟨its.toList,r,⟨o,I.kIn a o hk,hc,n,by simpa using hs⟩,?_⟩
  have e:=r.length
  simp only[Array.length_toList] at e
  omega
theorem Inv.list_inj(I:Inv X pins σ H s)(h:u4 X.K H a xs)(h':u4 X.K H a ys):xs=ys:=by
 obtain⟨its,r,⟨o,n,e,_,_,d⟩,_⟩:=I.list h
 obtain⟨its',r',⟨o',n',e',_,_,d'⟩,_⟩:=I.list h'
 rw[e] at e';cases e'
 rw[d] at d'
 injection d' with d1 _
 have:its=its':=by simpa using congrArg Array.toList d1
 subst this
 exact r.inj r'
theorem Inv.tuple_inj(I:Inv X pins σ H s)(h:vC X.K H a xs)(h':vC X.K H a ys):xs=ys:=by
 obtain⟨its,r,⟨o,e,_,n,d⟩,_⟩:=I.tuple h
 obtain⟨its',r',⟨o',e',_,n',d'⟩,_⟩:=I.tuple h'
 rw[e] at e';cases e'
 rw[d] at d'
 injection d' with d1 _
 have:its=its':=by simpa using congrArg Array.toList d1
 subst this
 exact r.inj r'
end
abbrev Cx.wish(X:Cx)(E:Value->Shared->Prop):Cx:={X with xe:=E}
abbrev Cx.nox(X:Cx):Cx:=X.wish fun _ _=>False
theorem Cx.Ok.wish{X:Cx}(ok:X.Ok)(E:Value->Shared->Prop):(X.wish E).Ok:=
 ⟨ok.mod,ok.kind,ok.glob,ok.blt,ok.above,ok.inj,ok.has,ok.cab,ok.hd,ok.frames,ok.stk,ok.exf,ok.bs,ok.bsz,ok.noex,ok.exfs,ok.funs,ok.frf⟩
theorem Cx.Ok.unwish{X:Cx}{E:Value->Shared->Prop}(ok:(X.wish E).Ok):X.Ok:=
 ⟨ok.mod,ok.kind,ok.glob,ok.blt,ok.above,ok.inj,ok.has,ok.cab,ok.hd,ok.frames,ok.stk,ok.exf,ok.bs,ok.bsz,ok.noex,ok.exfs,ok.funs,ok.frf⟩
section
variable{X:Cx}{pins:List (Addr×Obj)}{σ:St}{H:Hp}{s:Shared}{E:Value->Shared->Prop}
theorem Inv.wish(I:Inv X pins σ H s)(E:Value->Shared->Prop):Inv (X.wish E) pins σ H s:=⟨I.ok.wish E,I.os,I.bare,I.base,I.loc,I.cell,I.free,I.freeC,I.pin,I.hok,I.len⟩
theorem Inv.unwish(I:Inv (X.wish E) pins σ H s):Inv X pins σ H s:=⟨I.ok.unwish,I.os,I.bare,I.base,I.loc,I.cell,I.free,I.freeC,I.pin,I.hok,I.len⟩
theorem SP.unwish{D:Ends}{f:Flow}{s':Shared}(h:SP (X.wish E) pins D f s'):SP X pins D f s':=by
 cases f with
 | next=>obtain⟨σ',H',I,q⟩:=h;exact⟨σ',H',I.unwish,q⟩
 | brk=>obtain⟨σ',H',I,q⟩:=h;exact⟨σ',H',I.unwish,q⟩
 | cont=>obtain⟨σ',H',I,q⟩:=h;exact⟨σ',H',I.unwish,q⟩
 | ret u=>obtain⟨v,σ',H',I,r,q⟩:=h;exact⟨v,σ',H',I.unwish,r,q⟩
theorem PE.nox{e:Expr}{t:TE}(h:PE X.nox e t):PE X e t:=fun pins s σ H Q I hw =>
 wpAny_mono (h pins s σ H Q (I.wish _) hw) (fun _ _ ⟨v,H',I',r,q⟩=>⟨v,H',I'.unwish,r,q⟩) fun _ _ z=>False.elim z
theorem PT.nox{e:Expr}{t:TT}(h:PT X.nox e t):PT X e t:=fun pins s σ H Q I hw =>
 wpAny_mono (h pins s σ H Q (I.wish _) hw) (fun _ _ ⟨H',I',q⟩=>⟨H',I'.unwish,q⟩) fun _ _ z=>False.elim z
theorem PSs.nox{st:List Stmt}{t:TS}(h:PSs X.nox st t):PSs X st t:=fun pins s σ H D I hw =>
 wpAny_mono (h pins s σ H D (I.wish _) hw) (fun _ _ q=>q.unwish) fun _ _ z=>False.elim z
end
section
variable{X:Cx}{st:Stmt}{rest:List Stmt}{t u:TS}{e:Expr}{te:TE}{pos:Pos}
def KH:TS:=fun D σ H=>D.nx σ H
def M3(t u:TS):TS:=fun D σ H=>t {D with nx:=u D} σ H
theorem za:PSs X [] KH:=fun _ _ σ H _ I h=>wpAny_execs_nil ⟨σ,H,I,h⟩
theorem dP(h1:PS X st t)(h2:PSs X rest u):PSs X (st::rest) (M3 t u):=by
 intro pins s σ H D I h
 refine wpAny_execs_cons (sX (h1 pins s σ H {D with nx:=u D} I h) fun f s1 q=>?_)
 cases f with
 | next =>
  obtain⟨σ',H',I',q⟩:=q
  exact h2 pins s1 σ' H' D I' q
 | ret v=>exact q
 | brk=>exact q
 | cont=>exact q
theorem dA(h1:PS X st t):PSs X [st] t:=by
 intro pins s σ H D I h
 refine wpAny_execs_cons (sX (h1 pins s σ H D I h) fun f s1 q=>?_)
 cases f with
 | next=>exact wpAny_execs_nil q
 | ret v=>exact q
 | brk=>exact q
 | cont=>exact q
theorem Inv.quiet{pins:List (Addr×Obj)}{σ:St}{H:Hp}{s:Shared}(I:Inv X pins σ H s):interactive X.env=false:=by simp[interactive,I.ok.kind]
def Lz(te:TE):TS:=fun D σ H=>te σ H fun _ H1=>D.nx σ H1
theorem iv(he:PE X e te)(hs:swapsWith e none pos.line X.env=pure false:=by rfl):PS X (.Expr e pos) (Lz te):=by
 intro pins s σ H D I h
 exact wpAny_Expr_any (sX (he pins s σ H _ I h) fun v s1 ⟨x,H1,I1,r1,q1⟩=>⟨σ,H1,I1,q1⟩) I.quiet hs
def Nv(te:TE):TS:=fun D σ H=>te σ H D.rt
theorem iN(he:PE X e te):PS X (.Return (some e) pos) (Nv te):=by
 intro pins s σ H D I h
 exact wpAny_Return_some (sX (he pins s σ H _ I h) fun v s1 ⟨x,H1,I1,r1,q1⟩=>⟨x,σ,H1,I1,r1,q1⟩)
def Nb(c:TT)(t u:TS):TS:=fun D σ H=>c σ H fun b H1=>if b=true then t D σ H1 else u D σ H1
theorem lS{c:Expr}{a b:List Stmt}{tc:TT}(hc:PT X c tc)(ha:PSs X a t)(hb:PSs X b u):PS X (.If c a b pos) (Nb tc t u):=by
 intro pins s σ H D I h
 refine wpAny_If (sX (hc pins s σ H _ I h) fun d s1 ⟨H1,I1,q1⟩=>?_)
 cases d with
 | true=>exact ha pins s1 σ H1 D I1 q1
 | false=>exact hb pins s1 σ H1 D I1 q1
end
abbrev TG:=V->St->Hp->(St->Hp->Prop)->Prop
abbrev Ik:=List V->St->Hp->(St->Hp->Prop)->Prop
def PG(X:Cx)(target:Expr)(t:TG):Prop:=
 ∀(pins:List (Addr×Obj)) (s:Shared) (σ:St) (H:Hp) (v:V) (u:Value) (Q:St->Hp->Prop),Inv X pins σ H s->RelV v u->t v σ H Q ->
  wpAny (model X.prog X.w) X.A (assign target X.env u) (fun _ s'=>∃ σ' H',Inv X pins σ' H' s'/\Q σ' H') X.xe s
def PGs(X:Cx)(ts:List Expr)(t:Ik):Prop:=
 ∀(pins:List (Addr×Obj)) (s:Shared) (σ:St) (H:Hp) (vs:List V) (us:List Value) (Q:St->Hp->Prop),Inv X pins σ H s->l3 vs us->t vs σ H Q ->
  wpAny (model X.prog X.w) X.A (assignInOrder ((assignEach ts X.env).map (·.2)) us) (fun _ s'=>∃ σ' H',Inv X pins σ' H' s'/\Q σ' H') X.xe s
section
variable{X:Cx}{pos:Pos}
def H8(i:Nat):TG:=fun v σ H Q=>Q (σ.set i (some v)) H
theorem ku{i:Nat}{x:Str}(hN:X.N.Nodup)(hi:X.N[i]?=some x)(hx:Loc X.env.scope x)(hf:X.fn x=true\/X.env.scope.names.lookup x=some .local:=by first | exact .inl rfl | exact .inr rfl | assumption):PG X (.Name x pos) (H8 i):=by
 intro pins s σ H v u Q I r h
 exact wpAny_assign_Name (yh I hN hi hx r (fun s' I'=>⟨_,H,I',h⟩) hf)
def Np:Ik:=fun vs σ H Q=>vs=[]/\Q σ H
def LE(t:TG)(u:Ik):Ik:=fun vs σ H Q=>∃v r,vs=v::r/\t v σ H fun σ' H'=>u r σ' H' Q
theorem GW:PGs X [] Np:=by
 intro pins s σ H vs us Q I r h
 obtain⟨e,h⟩:=h
 subst e
 cases r
 exact assignInOrder_nil ⟨σ,H,I,h⟩
theorem Ck{e:Expr}{es:List Expr}{t:TG}{u:Ik}(h1:PG X e t)(h2:PGs X es u)
  (hs:(assignEach (e::es) X.env).map (·.2)=assign e X.env::(assignEach es X.env).map (·.2):=by rfl):PGs X (e::es) (LE t u):=by
 intro pins s σ H vs us Q I r h
 obtain⟨v,vr,e1,h⟩:=h
 subst e1
 cases r with
 | cons r rr =>
  rw[hs]
  refine assignInOrder_cons (sX (h1 pins s σ H _ _ _ I r h) fun _ s1 ⟨σ1,H1,I1,q1⟩=>?_)
  exact h2 pins s1 σ1 H1 _ _ Q I1 rr q1
def Mp(K:PySem.W.Frag)(n:Nat)(t:Ik):TG:=fun v σ H Q=>∃a xs,v=.ref a/\vC K H a xs/\xs.length=n/\t xs σ H Q
theorem rN{es:List Expr}{k:Nat}{t:Ik}{n:Nat}(hc:X.calm=true)(h:PGs X es t)
  (hn:(assignEach es X.env).length=n:=by rfl) (hst:(assignEach es X.env).findIdx? (·.1)=none:=by rfl):PG X (.Tuple es k pos) (Mp X.K n t):=by
 intro pins s σ H v u Q I r hw
 obtain⟨a,xs,e1,hq,hl,hw⟩:=hw
 subst e1
 cases r
 obtain⟨its,rv,ht,hz⟩:=I.tuple hq
 refine assign_Tuple_tuple (I.ok.hd hc) ht (by simp[hn,<- hl,rv.length]) hst fun h' hx=>?_
 have I1:Inv X pins σ H {s with heap:=h' }:=I.kept (t':=s.toks) fun b o e=>hx b o (Nat.ne_of_lt (Heap.lt_size e)) e
 exact h pins _ σ H xs _ Q I1 (by simpa using rv) hw
def Jl(te:TE)(g:TG):TS:=fun D σ H=>te σ H fun x H1=>g x σ H1 D.nx
theorem pU{tg e:Expr}{te:TE}{g:TG}(he:PE X e te)(hg:PG X tg g)(hs:swapsWithSole [tg] e pos.line X.env=pure false:=by rfl)(hw:swappedStores [tg] e X.env=pure none:=by rfl)
  (h1:(assignEach [tg] X.env).map (·.2)=[assign tg X.env]:=by rfl):PS X (.Assign [tg] e pos) (Jl te g):=by
 intro pins s σ H D I h
 refine wpAny_Assign_stores (sX (he pins s σ H _ I h) fun v s1 ⟨x,H1,I1,r1,q1⟩=>?_) hs hw
 rw[h1]
 exact sX (hg pins s1 σ H1 x v _ I1 r1 q1) fun _ s2 q=>q
theorem mV{i:Nat}{x:Str}{e:Expr}{te:TE}{pos':Pos}(hN:X.N.Nodup)(hi:X.N[i]?=some x)(hx:Loc X.env.scope x)(he:PE X e te)(hs:swapsWith e (some (.Name x pos')) pos.line X.env=pure false:=by rfl)(hf:X.fn x=true\/X.env.scope.names.lookup x=some .local:=by first | exact .inl rfl | exact .inr rfl | assumption) :
  PS X (.Assign [.Name x pos'] e pos) (Jl te (H8 i)):=by
 intro pins s σ H D I h
 refine wpAny_Assign_Name (sX (he pins s σ H _ I h) fun v s1 ⟨y,H1,I1,r1,q1⟩=>?_) hs
 exact yh I1 hN hi hx r1 (fun s2 I2=>⟨_,H1,I2,q1⟩) hf
end
section
variable{X:Cx}{pos:Pos}
def JO(c:TT)(tb:TS):TS:=fun D σ H=>∃W:Nat->St->Hp->Prop,(∃m,W m σ H)/\∀m σ H,W m σ H ->
 c σ H fun b H1=>if b=true then ∃N:St->Hp->Prop,(∀ σ' H',N σ' H'->∃m',m'<m/\W m' σ' H')/\tb {D with nx:=N,ct:=N,bk:=D.nx} σ H1 else D.nx σ H1
theorem pq{c:Expr}{body:List Stmt}{tc:TT}{tb:TS}(hp:PassesOwn (model X.prog X.w) X.A X.env X.xe)(hc:PT X c tc)(hb:PSs X body tb):PS X (.While c body [] pos) (JO tc tb):=by
 intro pins s σ H D I h
 obtain⟨W,⟨m0,w0⟩,turn⟩:=h
 refine wpAny_While (codeAny_whileLoop (fun n s'=>∃ σ' H',Inv X pins σ' H' s'/\W n σ' H') ?_ m0 ⟨σ,H,I,w0⟩)
 rintro n s1 ⟨σ1,H1,I1,w1⟩
 refine wpAny_passesOwn hp (sX (hc pins s1 σ1 H1 _ I1 (turn n σ1 H1 w1)) fun b s2 ⟨H2,I2,q2⟩=>?_)
 cases b with
 | true =>
  obtain⟨N,hN,q2⟩:=q2
  rw[if_pos rfl]
  refine wpAny_passesOwn hp (sX (hb pins s2 σ1 H2 _ I2 q2) fun f s3 q3=>?_)
  cases f with
  | next =>
   obtain⟨σ3,H3,I3,n3⟩:=q3
   obtain⟨m',hm,w3⟩:=hN σ3 H3 n3
   exact⟨m',hm,σ3,H3,I3,w3⟩
  | cont =>
   obtain⟨σ3,H3,I3,n3⟩:=q3
   obtain⟨m',hm,w3⟩:=hN σ3 H3 n3
   exact⟨m',hm,σ3,H3,I3,w3⟩
  | brk=>exact q3
  | ret v=>exact q3
 | false =>
  rw[if_neg Bool.false_ne_true]
  exact wpAny_execs_nil ⟨σ1,H2,I2,q2⟩
end
structure It where
 go:Nat->Hp->Prop
 yld:Nat->Hp->V->Hp->Prop
 stop:Nat->Hp->Prop
def yt(X:Cx)(pins:List (Addr×Obj))(H:Hp)(b:Addr):Prop:=
 H b=none/\b≠X.env.locals/\b∉X.fs/\(b∈X.ex\/X.s₀.heap.objs.size<=b)/\(∀x c,X.env.cells.lookup x=some c->c≠b)/\∀p∈X.pn++pins,p.1≠b
theorem Inv.fpOk{X:Cx}{pins:List (Addr×Obj)}{σ:St}{H H':Hp}{s:Shared}{b:Addr}(I:Inv X pins σ H s)(hb:s.heap.objs.size<=b)(hn:H' b=none):yt X pins H' b:=by
 refine⟨hn,Nat.ne_of_gt (Nat.lt_of_lt_of_le I.lt hb),I.nofs hb,.inr (Nat.le_trans I.sz hb),fun x c e z=>?_,fun p hp z=>?_⟩
 ·obtain⟨v,q⟩:=I.cell x c e
  exact absurd (Nat.lt_of_lt_of_le q.lt (by rw[z];exact hb)) (Nat.lt_irrefl _)
 ·exact absurd (Nat.lt_of_lt_of_le (Heap.lt_size (I.pin p hp).1) (by rw[z];exact hb)) (Nat.lt_irrefl _)
structure Turn (P:Program) (w:World) (K:PySem.W.Frag) (tg:Expr) (J:It) (fp:List Addr) (it:Addr) (tn:Nat->Heap->Prop):Prop where
 mem:it∈fp
 obj:∀i h,tn i h->∀b∈fp,∃o,h.get? b=some o/\∀v,o.data≠.cell v
 keep:∀i h h',tn i h->(∀b∈fp,∀o,h.get? b=some o->h'.get? b=some o)->tn i h'
 item:∀(X:Cx),X.prog=P->X.w=w->X.K=K->X.calm=true->∀(i:Nat) (pins:List (Addr×Obj)) (s:Shared) (σ:St) (H:Hp) (E:Value->Shared->Prop),Inv X pins σ H s->(∀b∈fp,yt X pins H b)->tn i s.heap->J.go i H ->
  wpAny (model P w) X.A (pyNext (.ref it)) (fun r s1=>∃u,r=some u /\
   wpAny (model P w) X.A (letOwnedTupleGo tg (.ref it) u) (fun _ s2=>∃x H',Inv X pins σ H' s2/\RelV x u/\J.yld i H x H'/\tn (i+1) s2.heap/\∀b∈fp,H' b=none) E s1) E s
 done:∀(X:Cx),X.prog=P->X.w=w->X.K=K->X.calm=true->∀(i:Nat) (pins:List (Addr×Obj)) (s:Shared) (σ:St) (H:Hp) (E:Value->Shared->Prop),Inv X pins σ H s->(∀b∈fp,yt X pins H b)->tn i s.heap->J.stop i H ->
  wpAny (model P w) X.A (pyNext (.ref it)) (fun r s1=>r=none/\Inv X pins σ H s1) E s
 self:∀(A:Around) (i:Nat) (s:Shared) (Q:Value->Shared->Prop) (E:Value->Shared->Prop),tn i s.heap->Q (.ref it) s->wpAny (model P w) A (pyIter (.ref it)) Q E s
abbrev TI:=St->Hp->(It->Hp->Prop)->Prop
def NB(X:Cx)(pins:List (Addr×Obj))(σ:St)(tg:Expr)(R:It->Hp->Prop)(itv:Value)(s2:Shared):Prop:=
 ∃(it:Addr) (fp:List Addr) (tn:Nat->Heap->Prop) (J:It) (H':Hp),itv=.ref it/\Inv X pins σ H' s2/\Turn X.prog X.w X.K tg J fp it tn/\tn 0 s2.heap/\(∀b∈fp,yt X pins H' b)/\R J H'
def PI(X:Cx)(tg iter:Expr)(wi:TI):Prop:=
 ∀(pins:List (Addr×Obj)) (s:Shared) (σ:St) (H:Hp) (R:It->Hp->Prop),Inv X pins σ H s->wi σ H R ->
  wpAny (model X.prog X.w) X.A (eval iter X.env) (fun v s1=>wpAny (model X.prog X.w) X.A (pyIter v) (NB X pins σ tg R) X.xe s1) X.xe s
theorem DM {M:Model} {A:Around} {E:Value->Shared->Prop} {s:Shared} {tg:Expr} {it:Addr} {u:Value} {o:Obj} {n:String} {vs:Array Value} {Q:Unit->Shared->Prop} (ho:s.heap.get? it=some o) (hc:o.cls=.type n) (hd:o.data=.fields vs)
    (hn:["enumerate","zip","dict_itemiterator","dict_reverseitemiterator","odict_iterator","itertools.zip_longest","itertools.pairwise"].contains n=false) (hQ:Q () s):wpAny M A (letOwnedTupleGo tg (.ref it) u) Q E s:=by
  unfold letOwnedTupleGo
  cases tg<;>first
    | exact wpAny_pure hQ
    | (cases u<;>first
        | exact wpAny_pure hQ
        | (refine wpAny_bind (wpAny_load ho ?_)
           rw[hc,hd]
           show wpAny M A (if (["enumerate","zip","dict_itemiterator","dict_reverseitemiterator","odict_iterator","itertools.zip_longest","itertools.pairwise"].contains n&&vs[0]?==some (rawInt _))=true then _ else _) Q E s
           rw[if_neg (by intro h;rw[hn,Bool.false_and] at h;cases h)]
           exact wpAny_pure hQ))
noncomputable def Ml(K:PySem.W.Frag)(a:Addr):It:=
 ⟨fun i H=>∃xs x,u4 K H a xs/\xs[i]?=some x,fun i H x H'=>H'=H/\∀xs,u4 K H a xs->xs[i]?=some x,fun i H=>∃xs,u4 K H a xs/\xs.length<=i⟩
def Ma(K:PySem.W.Frag)(a:Addr):It:=
 ⟨fun i H=>∃xs x,vC K H a xs/\xs[i]?=some x,fun i H x H'=>H'=H/\∀xs,vC K H a xs->xs[i]?=some x,fun i H=>∃xs,vC K H a xs/\xs.length<=i⟩
noncomputable def Kr(lo:Int)(n:Nat):It:=⟨fun i _=>i<n,fun i H x H'=>H'=H/\x=.int (lo+i),fun i _=>n<=i⟩
theorem EB{P:Program}{w:World}{K:PySem.W.Frag}{tg:Expr}(a it:Addr):Turn P w K tg (Ml K a) [it] it (fun i h=>h.IsListIter it a i) where
 mem:=by simp
 obj:=fun i h st b hb=>by
  have e:b=it:=by simpa using hb
  subst e
  obtain⟨o,e,c,d⟩:=st
  exact⟨o,e,fun v z=>by rw[d] at z;cases z⟩
 keep:=fun i h h' st k=>st.at fun o e=>k it (by simp) o e
 item:=by
  intro X hP hw hK hc i pins s σ H E I hf st hg
  subst hP hw hK
  obtain⟨xs,x,hq,hx⟩:=hg
  obtain⟨its,rv,p,hz⟩:=I.list hq
  obtain⟨u,hu,ru⟩:=rv.get hx
  obtain⟨f0,f1,f2,f3,f4,f5⟩:=hf it (by simp)
  refine wpAny_pyNext_list_item st p.isList (x:=u) (by simpa using hu) fun h' st' sb=>?_
  have I1:Inv X pins σ H {s with heap:=h' }:=I.turned (t':=s.toks) (fun b o hb e=>(sb.2 b hb).trans e) f0 f1 f3 f4 f5
  obtain⟨o,e,c,d⟩:=id st'
  exact⟨u,rfl,DM (s:={s with heap:=h' }) e c d (by decide) ⟨x,H,I1,ru,⟨rfl,fun ys hy=>by rw[I.list_inj hy hq];exact hx⟩,st',fun b hb=>(hf b hb).1⟩⟩
 done:=by
  intro X hP hw hK hc i pins s σ H E I hf st hg
  subst hP hw hK
  obtain⟨xs,hq,hx⟩:=hg
  obtain⟨its,rv,p,hz⟩:=I.list hq
  obtain⟨f0,f1,f2,f3,f4,f5⟩:=hf it (by simp)
  have hl:=rv.length
  exact wpAny_pyNext_list_end (I.ok.hd hc) st p.isList (by simp;omega) fun h' eb=>⟨rfl,I.turned (t':=s.toks) (fun b o hb e=>eb b o hb e) f0 f1 f3 f4 f5⟩
 self:=fun _ _ _ _ _ st h=>wpAny_pyIter_listiter st h
theorem Dc{P:Program}{w:World}{K:PySem.W.Frag}{tg:Expr}(a it:Addr):Turn P w K tg (Ma K a) [it] it (fun i h=>h.IsTupleIter it a i) where
 mem:=by simp
 obj:=fun i h st b hb=>by
  have e:b=it:=by simpa using hb
  subst e
  obtain⟨o,e,c,d⟩:=st
  exact⟨o,e,fun v z=>by rw[d] at z;cases z⟩
 keep:=fun i h h' st k=>st.at fun o e=>k it (by simp) o e
 item:=by
  intro X hP hw hK hc i pins s σ H E I hf st hg
  subst hP hw hK
  obtain⟨xs,x,hq,hx⟩:=hg
  obtain⟨its,rv,p,hz⟩:=I.tuple hq
  obtain⟨u,hu,ru⟩:=rv.get hx
  obtain⟨f0,f1,f2,f3,f4,f5⟩:=hf it (by simp)
  refine wpAny_pyNext_tuple_item st (show s.heap.IsTuple a its.toArray from p) (x:=u) (by simpa using hu) fun h' st' sb=>?_
  have I1:Inv X pins σ H {s with heap:=h' }:=I.turned (t':=s.toks) (fun b o hb e=>(sb.2 b hb).trans e) f0 f1 f3 f4 f5
  obtain⟨o,e,c,d⟩:=id st'
  exact⟨u,rfl,DM (s:={s with heap:=h' }) e c d (by decide) ⟨x,H,I1,ru,⟨rfl,fun ys hy=>by rw[I.tuple_inj hy hq];exact hx⟩,st',fun b hb=>(hf b hb).1⟩⟩
 done:=by
  intro X hP hw hK hc i pins s σ H E I hf st hg
  subst hP hw hK
  obtain⟨xs,hq,hx⟩:=hg
  obtain⟨its,rv,p,hz⟩:=I.tuple hq
  obtain⟨f0,f1,f2,f3,f4,f5⟩:=hf it (by simp)
  have hl:=rv.length
  exact wpAny_pyNext_tuple_end (I.ok.hd hc) st (show s.heap.IsTuple a its.toArray from p) (by simp;omega) fun h' eb=>⟨rfl,I.turned (t':=s.toks) (fun b o hb e=>eb b o hb e) f0 f1 f3 f4 f5⟩
 self:=fun _ _ _ _ _ st h=>wpAny_pyIter_tupleiter st h
theorem Df{P:Program}{w:World}{K:PySem.W.Frag}{tg:Expr}(it:Addr)(lo:Int)(n:Nat):Turn P w K tg (Kr lo n) [it] it (fun i h=>IsRangeIter h it (lo+(i:Nat)*1) ((n:Int) - (i:Nat)) 1) where
 mem:=by simp
 obj:=fun i h st b hb=>by
  have e:b=it:=by simpa using hb
  subst e
  exact⟨_,st,fun v z=>by
   have z':Data.fields _=Data.cell v:=z
   cases z'⟩
 keep:=fun i h h' st k=>k it (by simp) _ st
 item:=by
  intro X hP hw hK hc i pins s σ H E I hf st hg
  subst hP hw hK
  obtain⟨f0,f1,f2,f3,f4,f5⟩:=hf it (by simp)
  have W:=Walks.range (prog:=X.prog) (w:=X.w) (I.ok.hd hc) it lo 1 n
  refine W.item i s _ _ hg st fun v h' tk hv st' kk=>?_
  obtain⟨t,rfl⟩:=hv
  have I1:Inv X pins σ H {s with heap:=h',toks:=tk}:=I.turned (fun b o hb e=>kk b o (by simpa using hb) e) f0 f1 f3 f4 f5
  refine⟨_,rfl,DM (s:={s with heap:=h',toks:=tk}) (n:="range_iterator") st' rfl rfl (by decide) ⟨.int (lo+i),H,I1,⟨t,?_⟩,⟨rfl,rfl⟩,st',fun b hb=>(hf b hb).1⟩⟩
  rw[Int.mul_one]
 done:=by
  intro X hP hw hK hc i pins s σ H E I hf st hg
  subst hP hw hK
  obtain⟨f0,f1,f2,f3,f4,f5⟩:=hf it (by simp)
  exact wpAny_pyNext_range_end (I.ok.hd hc) st (by have:n<=i:=hg;omega) fun h' eb=>⟨rfl,I.turned (t':=s.toks) (fun b o hb e=>eb b o hb e) f0 f1 f3 f4 f5⟩
 self:=fun _ _ _ _ _ st h=>wpAny_pyIter_rangeiter st h
end L2
namespace L2
open PySem PySem.Spec PyProof.Rows
section
variable{X:Cx}{tg:Expr}
theorem FS{pins:List (Addr×Obj)}{σ:St}{H:Hp}{s:Shared}{R:It->Hp->Prop}{E:Value->Shared->Prop}{lo hi:Int}{t u v:Tok}{tk:Nat}(I:Inv X pins σ H s)(h1 : -(2 ^ 62)<=lo)(h2:lo<2 ^ 62)(h3 : -(2 ^ 62)<=hi)(h4:hi<2 ^ 62)
  (q:R (Kr lo (hi - lo).toNat) H):wpAny (model X.prog X.w) X.A (pyIter (.ref s.heap.objs.size)) (NB X pins σ tg R) E {s with heap:=s.heap.push {cls:=.type "range",data:=.fields #[.int lo t,.int hi u,.int 1 v]},toks:=tk}:=by
 refine wpAny_pyIter_range (IsRange.new ..) (small_one h1 h2 h3 h4) ?_
 have I1:Inv X pins σ H {s with heap:=s.heap.push {cls:=.type "range",data:=.fields #[.int lo t,.int hi u,.int 1 v]},toks:=tk}:=I.kept fun b o e=>Heap.get?_push_of_some _ e
 refine⟨(s.heap.push {cls:=.type "range",data:=.fields #[.int lo t,.int hi u,.int 1 v]}).objs.size,[(s.heap.push {cls:=.type "range",data:=.fields #[.int lo t,.int hi u,.int 1 v]}).objs.size],_,_,H,rfl,
  I1.kept (t':=tk) fun b o e=>Heap.get?_push_of_some _ e,Df _ lo (hi - lo).toNat,?_,fun b hb=>?_,q⟩
 ·have e1:lo+((0:Nat):Int)*1=lo:=by simp
  have e2:(((hi - lo).toNat:Nat):Int) - ((0:Nat):Int)=Builtin.Range.rangeSize lo hi 1:=by rw[rangeSize_one];split<;>omega
  show IsRangeIter _ _ (lo+((0:Nat):Int)*1) ((((hi - lo).toNat:Nat):Int) - ((0:Nat):Int)) 1
  rw[e1,e2]
  exact Heap.get?_push_size _ rfl
 ·have e:b=(s.heap.push {cls:=.type "range",data:=.fields #[.int lo t,.int hi u,.int 1 v]}).objs.size:=by simpa using hb
  subst e
  exact I1.fpOk (Nat.le_refl _) (I1.hok.fresh (Nat.le_refl _))
def LV(ta:TA):TI:=fun σ H R=>ta σ H fun vs H1=>∃j:Int,vs=[.int j] /\ -(2 ^ 62)<=j/\j<2 ^ 62/\R (Kr 0 j.toNat) H1
theorem jQ{a:Expr}{ta:TA}{p pos:Pos}(hg:Gl X "range")(hm:X.mg "range" = none)(ha:PA X [a] ta)(hs:starEach [a] X.env=[(false,eval a X.env)]:=by rfl):PI X tg (.Call (.Name "range" p) [a] [] pos) (LV ta):=by
 intro pins s σ H R I h
 refine Call_ (eY I hg hm boot_range (PyProof.Rows.callWith_type1 (sX (ha pos pins s σ H _ I h) fun us s1 ⟨vs,H1,I1,r1,q1⟩=>?_) hs rfl))
 obtain⟨j,e,q1,q2,q⟩:=q1
 subst e
 cases r1 with
 | cons r rr =>
  cases rr
  obtain⟨t,rfl⟩:=r
  exact call_range_1 (FS I1 (by omega) (by omega) q1 q2 (by simpa using q))
noncomputable def MM(wi:TI)(g:TG)(tb:TS):TS:=fun D σ H=>wi σ H fun J H1=>∃W:Nat->Nat->St->Hp->Prop,(∃m,W 0 m σ H1)/\∀i m σ H,W i m σ H ->
 (J.stop i H/\D.nx σ H)\/(J.go i H/\∃N:St->Hp->Prop,(∀ σ' H',N σ' H'->∃m',m'<m/\W (i+1) m' σ' H')/\∀x H',J.yld i H x H'->g x σ H' fun σ2 H2=>tb {D with nx:=N,ct:=N,bk:=D.nx} σ2 H2)
def xJ(fp:List Addr)(h:Heap):List (Addr×Obj):=fp.filterMap fun b=>(h.get? b).map fun o=>(b,o)
theorem dl{fp:List Addr}{h:Heap}{b:Addr}{o:Obj}(hb:b∈fp)(e:h.get? b=some o):(b,o)∈xJ fp h:=List.mem_filterMap.mpr ⟨b,hb,by rw[e];rfl⟩
theorem AG{fp:List Addr}{h:Heap}{p:Addr×Obj}(hp:p∈xJ fp h):p.1∈fp/\h.get? p.1=some p.2:=by
 obtain⟨b,hb,e⟩:=List.mem_filterMap.mp hp
 cases q:h.get? b with
 | none=>rw[q] at e;cases e
 | some o =>
  rw[q] at e
  have e':(b,o)=p:=Option.some.inj e
  subst e'
  exact⟨hb,q⟩
theorem Inv.pinned{pins:List (Addr×Obj)}{σ:St}{H:Hp}{s:Shared}{fp:List Addr}(I:Inv X pins σ H s)(hf:∀b∈fp,yt X pins H b)(ho:∀b∈fp,∃o,s.heap.get? b=some o/\∀v,o.data≠.cell v):Inv X (pins++xJ fp s.heap) σ H s:=
 I.pins_of fun p hp=>(List.mem_append.mp hp).elim (fun z=>I.pin p (List.mem_append_right _ z)) fun z=>by
  obtain⟨hb,e⟩:=AG z
  obtain⟨f0,f1,f2,_⟩:=hf p.1 hb
  obtain⟨o,e',d⟩:=ho p.1 hb
  rw[e] at e';cases e'
  exact⟨e,f0,f1,f2,d⟩
theorem Inv.unpinned{pins pl:List (Addr×Obj)}{σ:St}{H:Hp}{s:Shared}(I:Inv X (pins++pl) σ H s):Inv X pins σ H s:=I.pins_of fun p hp=>I.pin p (List.mem_append_right _ (List.mem_append_left _ hp))
theorem pw{iter:Expr}{body:List Stmt}{wi:TI}{g:TG}{tb:TS}{pos:Pos}(hp:PassesOwn (model X.prog X.w) X.A X.env X.xe)(hc:X.calm=true)(hi:PI X tg iter wi)(hg:PG X tg g)(hb:PSs X body tb)
  (hs:∀x,foldedSetIterable iter X.env x=pure x:=by intro _;rfl):PS X (.For tg iter body [] pos) (MM wi g tb):=by
 intro pins s σ H D I h
 refine wpAny_For (sX (hi pins s σ H _ I h) fun v s1 h1=>sX h1 fun itv s2 h2=>?_) hs
 obtain⟨it,fp,tn,J,H2,e,I2,T,st2,f2,W,⟨m0,w0⟩,turn⟩:=h2
 subst e
 have stat:∀{H':Hp},(∀b∈fp,H' b=none)->∀b∈fp,yt X pins H' b:=fun hn b hb=>⟨hn b hb,(f2 b hb).2⟩
 refine codeAny_forLoop_any (fun n s'=>∃i σ' H',Inv X pins σ' H' s'/\tn i s'.heap/\(∀b∈fp,H' b=none)/\W i n σ' H') ?_ m0 ⟨0,σ,H2,I2,st2,fun b hb=>(f2 b hb).1,w0⟩
 rintro n s3 ⟨i,σ3,H3,I3,st3,fr3,w3⟩
 rcases turn i n σ3 H3 w3 with ⟨stop,qn⟩ | ⟨go,N,hN,step⟩
 ·refine wpAny_passesOwn hp (sX (T.done X rfl rfl rfl hc i pins s3 σ3 H3 X.xe I3 (stat fr3) st3 stop) fun r s4 ⟨hr,I4⟩=>?_)
  subst hr
  exact wpAny_execs_nil ⟨σ3,H3,I4,qn⟩
 ·refine wpAny_passesOwn hp (sX (T.item X rfl rfl rfl hc i pins s3 σ3 H3 X.xe I3 (stat fr3) st3 go) fun r s4 ⟨u,hr,h4⟩=>?_)
  subst hr
  refine wpAny_passesOwn hp (sX h4 fun _ s5 ⟨x,H5,I5,r5,y5,st5,fr5⟩=>?_)
  have I5':=I5.pinned (stat fr5) (T.obj _ _ st5)
  refine wpAny_passesOwn hp (sX (hg _ s5 σ3 H5 x u _ I5' r5 (step x H5 y5)) fun _ s6 ⟨σ6,H6,I6,q6⟩=>?_)
  refine wpAny_passesOwn hp (sX (hb _ s6 σ6 H6 _ I6 q6) fun f s7 q7=>?_)
  have again:∀{σ7:St} {H7:Hp},Inv X (pins++xJ fp s5.heap) σ7 H7 s7->N σ7 H7->∃m,m<n/\∃i σ' H',Inv X pins σ' H' s7/\tn i s7.heap/\(∀b∈fp,H' b=none)/\W i m σ' H':=fun {σ7 H7} I7 n7=>by
   obtain⟨m',hm,w7⟩:=hN σ7 H7 n7
   refine⟨m',hm,i+1,σ7,H7,I7.unpinned,T.keep _ _ _ st5 fun b hb o e=>(I7.pin (b,o) (List.mem_append_right _ (List.mem_append_right _ (dl hb e)))).1,fun b hb=>?_,w7⟩
   obtain⟨o,e,d⟩:=T.obj _ _ st5 b hb
   exact(I7.pin (b,o) (List.mem_append_right _ (List.mem_append_right _ (dl hb e)))).2.1
  cases f with
  | next=>obtain⟨σ7,H7,I7,n7⟩:=q7;exact again I7 n7
  | cont=>obtain⟨σ7,H7,I7,n7⟩:=q7;exact again I7 n7
  | brk=>obtain⟨σ7,H7,I7,q7⟩:=q7;exact⟨σ7,H7,I7.unpinned,q7⟩
  | ret v=>obtain⟨x7,σ7,H7,I7,r7,q7⟩:=q7;exact⟨x7,σ7,H7,I7.unpinned,r7,q7⟩
end
end L2
namespace L2
open PySem PySem.Spec PyProof.Rows
abbrev R2:=V->V->Hp->VK->Prop
def OpR(X:Cx)(f:Value->Value->Sem Value)(r:R2):Prop:=
 ∀(pins:List (Addr×Obj)) (s:Shared) (σ:St) (H:Hp) (x y:V) (v u:Value) (Q:VK),Inv X pins σ H s->RelV x v->RelV y u->r x y H Q ->
  wpAny (model X.prog X.w) X.A (f v u) (EP X pins σ Q) X.xe s
def UnR(X:Cx)(f:Value->Sem Value)(r:V->Hp->VK->Prop):Prop:=
 ∀(pins:List (Addr×Obj)) (s:Shared) (σ:St) (H:Hp) (x:V) (v:Value) (Q:VK),Inv X pins σ H s->RelV x v->r x H Q ->
  wpAny (model X.prog X.w) X.A (f v) (EP X pins σ Q) X.xe s
def CallR(X:Cx)(f:Value)(r:List V->Hp->VK->Prop):Prop:=
 ∀(pins:List (Addr×Obj)) (s:Shared) (σ:St) (H:Hp) (xs:List V) (us:List Value) (Q:VK),Inv X pins σ H s->l3 xs us->r xs H Q ->
  wpAny (model X.prog X.w) X.A (call f us) (EP X pins σ Q) X.xe s
def MR(X:Cx)(r:V->Hp->(Bool->Hp->Prop)->Prop):Prop:=
 ∀(pins:List (Addr×Obj)) (s:Shared) (σ:St) (H:Hp) (x:V) (v:Value) (Q:Bool->Hp->Prop),Inv X pins σ H s->RelV x v->r x H Q ->
  wpAny (model X.prog X.w) X.A (truthy v) (TP X pins σ Q) X.xe s
def Me(r:R2)(ta tb:TE):TE:=fun σ H Q=>ta σ H fun x H1=>tb σ H1 fun y H2=>r x y H2 Q
def N8(r:V->Hp->VK->Prop)(ta:TE):TE:=fun σ H Q=>ta σ H fun x H1=>r x H1 Q
def rI(C:Int->Int->Prop)(g:Int->Int->V):R2:=fun x y H Q=>∃i j,x=.int i/\y=.int j/\C i j/\Q (g i j) H
def Hx(g:Int->Int->V):R2:=fun x y H Q=>∃i j,x=.int i/\y=.int j/\Q (g i j) H
def rU(g:Int->V):V->Hp->VK->Prop:=fun x H Q=>∃i,x=.int i/\Q (g i) H
section
variable{X:Cx}{a b c:Expr}{ta tb tc:TE}{pos:Pos}
theorem IV(ha:PE X a ta)(hb:PE X b tb){pins:List (Addr×Obj)}{s:Shared}{σ:St}{H:Hp}{R:V->V->Hp->Prop}(I:Inv X pins σ H s)
  (h:ta σ H fun x H1=>tb σ H1 fun y H2=>R x y H2) {Q:Value->Shared->Prop} {f:Value->Value->Sem Value}
  (hf:∀v u s2 x y H2,Inv X pins σ H2 s2->RelV x v->RelV y u->R x y H2->wpAny (model X.prog X.w) X.A (f v u) Q X.xe s2) :
  wpAny (model X.prog X.w) X.A (eval a X.env) (fun v s₁=>wpAny (model X.prog X.w) X.A (eval b X.env) (fun u s₂=>wpAny (model X.prog X.w) X.A (f v u) Q X.xe s₂) X.xe s₁) X.xe s:=by
 refine sX (ha pins s σ H _ I h) fun v s1 ⟨x,H1,I1,r1,q1⟩=>?_
 refine sX (hb pins s1 σ H1 _ I1 q1) fun u s2 ⟨y,H2,I2,r2,q2⟩=>?_
 exact hf v u s2 x y H2 I2 r1 r2 q2
theorem sE{op:Operator}{r:R2}(ho:OpR X (binaryOp op) r)(ha:PE X a ta)(hb:PE X b tb):PE X (.BinOp a op b pos) (Me r ta tb):=by
 intro pins s σ H Q I h
 exact wpAny_BinOp (IV ha hb I h fun v u s2 x y H2 I2 rx ry q=>ho pins s2 σ H2 x y v u Q I2 rx ry q)
theorem sA{op:UnaryOp}{r:V->Hp->VK->Prop}(ho:UnR X (unaryOp op) r)(ha:PE X a ta):PE X (.UnaryOp op a pos) (N8 r ta):=by
 intro pins s σ H Q I h
 exact UnaryOp_ (sX (ha pins s σ H _ I h) fun v s1 ⟨x,H1,I1,r1,q1⟩=>ho pins s1 σ H1 x v Q I1 r1 q1)
theorem Na{f:Value->Value->Sem Value}{C:Int->Int->Prop}{g:Int->Int->Int}
  (rule:∀(i j:Int) (t u:Tok) (s:Shared) (Q:Value->Shared->Prop) (E:Value->Shared->Prop),C i j->Q (.int (g i j) s.toks) {s with toks:=s.toks+1}->wpAny (model X.prog X.w) X.A (f (.int i t) (.int j u)) Q E s) :
  OpR X f (rI C fun i j=>.int (g i j)):=by
 intro pins s σ H x y v u Q I rx ry h
 obtain⟨i,j,rfl,rfl,hc,q⟩:=h
 obtain⟨t,rfl⟩:=rx
 obtain⟨t',rfl⟩:=ry
 exact rule i j t t' s _ _ hc ⟨.int (g i j),H,I.tok _,⟨_,rfl⟩,q⟩
theorem K_{f:Value->Value->Sem Value}{g:Int->Int->Int}
  (rule:∀(i j:Int) (t u:Tok) (s:Shared) (Q:Value->Shared->Prop) (E:Value->Shared->Prop),Q (.int (g i j) s.toks) {s with toks:=s.toks+1}->wpAny (model X.prog X.w) X.A (f (.int i t) (.int j u)) Q E s) :
  OpR X f (Hx fun i j=>.int (g i j)):=by
 intro pins s σ H x y v u Q I rx ry h
 obtain⟨i,j,rfl,rfl,q⟩:=h
 obtain⟨t,rfl⟩:=rx
 obtain⟨t',rfl⟩:=ry
 exact rule i j t t' s _ _ ⟨.int (g i j),H,I.tok _,⟨_,rfl⟩,q⟩
theorem Hj{f:Value->Value->Sem Value}{g:Int->Int->Bool}
  (rule:∀(i j:Int) (t u:Tok) (s:Shared) (Q:Value->Shared->Prop) (E:Value->Shared->Prop),Q (.bool (g i j)) s->wpAny (model X.prog X.w) X.A (f (.int i t) (.int j u)) Q E s) :
  OpR X f (Hx fun i j=>.bl (g i j)):=by
 intro pins s σ H x y v u Q I rx ry h
 obtain⟨i,j,rfl,rfl,q⟩:=h
 obtain⟨t,rfl⟩:=rx
 obtain⟨t',rfl⟩:=ry
 exact rule i j t t' s _ _ ⟨.bl (g i j),H,I,rfl,q⟩
def Mw(i j:Int):Prop:=0<j/\j<1073741824
def Jt(i j:Int):Prop:=(-(2 ^ 64)<i/\i<2 ^ 64)\/(-(2 ^ 64)<j/\j<2 ^ 64)
theorem Jt.ok{i j:Int}(h:Jt i j):IntMulOk i j:=by
 rcases h with ⟨h1,h2⟩ | ⟨h1,h2⟩
 ·exact .of_left (intBits_le_64 h1 h2)
 ·exact .of_right (intBits_le_64 h1 h2)
theorem Jw:OpR X (binaryOp .Add) (Hx fun i j=>.int (i+j)):=K_ fun _ _ _ _ _ _ _ q=>add_int q
theorem JQ:OpR X (binaryOp .Sub) (Hx fun i j=>.int (i - j)):=K_ fun _ _ _ _ _ _ _ q=>sub_int q
theorem Jv:OpR X (binaryOp .Mult) (rI Jt fun i j=>.int (i*j)):=Na fun _ _ _ _ _ _ _ hc q=>mul_int q hc.ok
theorem HP:OpR X (binaryOp .FloorDiv) (rI Mw fun i j=>.int (i / j)):=Na fun i j _ _ _ _ _ hc q=>by
 have h1:(0:Int)<j:=hc.1
 have h2:j<1073741824:=hc.2
 exact floordiv_int (by omega) (by rw[Int.fdiv_eq_ediv_of_nonneg i (by omega)];exact q) (.inl (PyProof.noPylong_small (by omega)))
theorem JT:OpR X (binaryOp .Mod) (rI (fun _ j=>0<j) fun i j=>.int (i%j)):=Na fun i j _ _ _ _ _ hc q=>by
 have h1:(0:Int)<j:=hc
 exact mod_int' (by omega) (by rw[Int.fmod_eq_emod_of_nonneg i (by omega)];exact q)
theorem Ol{f:Value->Sem Value}{g:Int->Int}
  (rule:∀(i:Int) (t:Tok) (s:Shared) (Q:Value->Shared->Prop) (E:Value->Shared->Prop),Q (.int (g i) s.toks) {s with toks:=s.toks+1}->wpAny (model X.prog X.w) X.A (f (.int i t)) Q E s) :
  UnR X f (rU fun i=>.int (g i)):=by
 intro pins s σ H x v Q I rx h
 obtain⟨i,rfl,q⟩:=h
 obtain⟨t,rfl⟩:=rx
 exact rule i t s _ _ ⟨.int (g i),H,I.tok _,⟨_,rfl⟩,q⟩
theorem Jx:UnR X (unaryOp .USub) (rU fun i=>.int (-i)):=Ol fun _ _ _ _ _ q=>neg_int q
end
noncomputable def Gp:V->V->Bool
 | .non,.non=>true | .non,.int _=>true | .int _,.non=>true | .non,.bl _=>true | .bl _,.non=>true | .non,.str _=>true | .str _,.non=>true
 | .int _,.int _=>true | .bl _,.bl _=>true | .str _,.str _=>true | .byt _,.byt _=>true
 | .int _,.str _=>true | .str _,.int _=>true | .bl _,.str _=>true | .str _,.bl _=>true
 | _,_=>false
def N9:R2:=fun x y H Q=>Gp x y=true/\Q (.bl (decide (x=y))) H
def N4:R2:=fun x y H Q=>Gp x y=true/\Q (.bl (!decide (x=y))) H
theorem xX{i j:Int}:decide (V.int i=V.int j)=(i==j):=by
 rw[Bool.eq_iff_iff]
 simp
theorem zH{i j:Bool}:decide (V.bl i=V.bl j)=(i==j):=by
 rw[Bool.eq_iff_iff]
 simp
theorem ye{i j:Str}:decide (V.str i=V.str j)=(i==j):=by
 rw[Bool.eq_iff_iff]
 simp
theorem DJ{i j:Array UInt8}:decide (V.byt i=V.byt j)=(i.toList==j.toList):=by
 rw[Bool.eq_iff_iff]
 cases i
 cases j
 simp
section
variable{X:Cx}{a b c:Expr}{ta tb tc:TE}{pos:Pos}
theorem p7{pins:List (Addr×Obj)}{σ:St}{H:Hp}{s:Shared}{Q:VK}{k k':Bool}(I:Inv X pins σ H s)(q:Q (.bl k) H)(e:k=k'):EP X pins σ Q (.bool k') s:=by
 subst e
 exact⟨.bl k,H,I,rfl,q⟩
theorem H9:OpR X (compareOp .Eq) N9:=by
 intro pins s σ H x y v u Q I rx ry h
 obtain⟨hs,q⟩:=h
 cases x with
 | non =>
  cases rx
  cases y with
  | non=>cases ry;exact PySem.EqNone.eq_none_none (p7 I q (by simp))
  | bl j=>cases ry;exact PySem.EqNone.eq_none_bool (p7 I q (by simp))
  | int j=>obtain⟨t',rfl⟩:=ry;exact PySem.EqNone.eq_none_int (p7 I q (by simp))
  | str j=>obtain⟨t',rfl⟩:=ry;exact PySem.EqNone.eq_none_str (p7 I q (by simp))
  | _=>exact absurd (show false=true from hs) Bool.false_ne_true
 | bl i =>
  cases rx
  cases y with
  | non=>cases ry;exact PySem.EqNone.eq_bool_none (p7 I q (by simp))
  | bl j=>cases ry;exact eq_bool (p7 I q zH)
  | str j=>obtain⟨t',rfl⟩:=ry;exact PySem.EqMixed.eq_bool_str (p7 I q (by simp))
  | _=>exact absurd (show false=true from hs) Bool.false_ne_true
 | int i =>
  obtain⟨t,rfl⟩:=rx
  cases y with
  | non=>cases ry;exact PySem.EqNone.eq_int_none (p7 I q (by simp))
  | int j=>obtain⟨t',rfl⟩:=ry;exact eq_int (p7 I q xX)
  | str j=>obtain⟨t',rfl⟩:=ry;exact PySem.EqMixed.eq_int_str (p7 I q (by simp))
  | _=>exact absurd (show false=true from hs) Bool.false_ne_true
 | str i =>
  obtain⟨t,rfl⟩:=rx
  cases y with
  | non=>cases ry;exact PySem.EqNone.eq_str_none (p7 I q (by simp))
  | bl j=>cases ry;exact PySem.EqMixed.eq_str_bool (p7 I q (by simp))
  | int j=>obtain⟨t',rfl⟩:=ry;exact PySem.EqMixed.eq_str_int (p7 I q (by simp))
  | str j=>obtain⟨t',rfl⟩:=ry;exact eq_str (p7 I q ye)
  | _=>exact absurd (show false=true from hs) Bool.false_ne_true
 | byt i =>
  obtain⟨t,rfl⟩:=rx
  cases y with
  | byt j=>obtain⟨t',rfl⟩:=ry;exact PySem.W.eq_bytes (p7 I q DJ)
  | _=>exact absurd (show false=true from hs) Bool.false_ne_true
 | _=>cases y<;>exact absurd (show false=true from hs) Bool.false_ne_true
theorem LB:OpR X (compareOp .NotEq) N4:=by
 intro pins s σ H x y v u Q I rx ry h
 obtain⟨hs,q⟩:=h
 cases x with
 | non =>
  cases rx
  cases y with
  | non=>cases ry;exact PySem.EqNone.ne_none_none (p7 I q (by simp))
  | bl j=>cases ry;exact PySem.EqNone.ne_none_bool (p7 I q (by simp))
  | int j=>obtain⟨t',rfl⟩:=ry;exact PySem.EqNone.ne_none_int (p7 I q (by simp))
  | str j=>obtain⟨t',rfl⟩:=ry;exact PySem.EqNone.ne_none_str (p7 I q (by simp))
  | _=>exact absurd (show false=true from hs) Bool.false_ne_true
 | bl i =>
  cases rx
  cases y with
  | non=>cases ry;exact PySem.EqNone.ne_bool_none (p7 I q (by simp))
  | bl j=>cases ry;exact ne_bool (p7 I q (congrArg not zH))
  | str j=>obtain⟨t',rfl⟩:=ry;exact PySem.EqMixed.ne_bool_str (p7 I q (by simp))
  | _=>exact absurd (show false=true from hs) Bool.false_ne_true
 | int i =>
  obtain⟨t,rfl⟩:=rx
  cases y with
  | non=>cases ry;exact PySem.EqNone.ne_int_none (p7 I q (by simp))
  | int j=>obtain⟨t',rfl⟩:=ry;exact ne_int (p7 I q (congrArg not xX))
  | str j=>obtain⟨t',rfl⟩:=ry;exact PySem.EqMixed.ne_int_str (p7 I q (by simp))
  | _=>exact absurd (show false=true from hs) Bool.false_ne_true
 | str i =>
  obtain⟨t,rfl⟩:=rx
  cases y with
  | non=>cases ry;exact PySem.EqNone.ne_str_none (p7 I q (by simp))
  | bl j=>cases ry;exact PySem.EqMixed.ne_str_bool (p7 I q (by simp))
  | int j=>obtain⟨t',rfl⟩:=ry;exact PySem.EqMixed.ne_str_int (p7 I q (by simp))
  | str j=>obtain⟨t',rfl⟩:=ry;exact ne_str (p7 I q (congrArg not ye))
  | _=>exact absurd (show false=true from hs) Bool.false_ne_true
 | byt i =>
  obtain⟨t,rfl⟩:=rx
  cases y with
  | byt j=>obtain⟨t',rfl⟩:=ry;exact PySem.W.ne_bytes (p7 I q (congrArg not DJ))
  | _=>exact absurd (show false=true from hs) Bool.false_ne_true
 | _=>cases y<;>exact absurd (show false=true from hs) Bool.false_ne_true
theorem Lk:OpR X (compareOp .Lt) (Hx fun i j=>.bl (decide (i<j))):=Hj fun _ _ _ _ _ _ _ q=>lt_int q
theorem LI:OpR X (compareOp .LtE) (Hx fun i j=>.bl (decide (i<=j))):=Hj fun _ _ _ _ _ _ _ q=>le_int q
theorem K1:OpR X (compareOp .Gt) (Hx fun i j=>.bl (decide (j<i))):=Hj fun _ _ _ _ _ _ _ q=>gt_int q
theorem KS:OpR X (compareOp .GtE) (Hx fun i j=>.bl (decide (j<=i))):=Hj fun _ _ _ _ _ _ _ q=>ge_int q
theorem Jf:OpR X (compareOp .Is) (fun x y H Q=>y=.non/\Q (.bl (decide (x=.non))) H):=by
 intro pins s σ H x y v u Q I rx ry h
 obtain⟨rfl,q⟩:=h
 cases ry
 refine is_none_gen (p7 I q ?_)
 cases x<;>first
  | (cases rx;rfl)
  | (obtain⟨t,rfl⟩:=rx;rfl)
theorem Hg:OpR X (compareOp .IsNot) (fun x y H Q=>y=.non/\Q (.bl (!decide (x=.non))) H):=by
 intro pins s σ H x y v u Q I rx ry h
 obtain⟨rfl,q⟩:=h
 cases ry
 refine isnot_none_gen (p7 I q ?_)
 cases x<;>first
  | (cases rx;rfl)
  | (obtain⟨t,rfl⟩:=rx;rfl)
theorem OpR.or{f:Value->Value->Sem Value}{r r':R2}(h:OpR X f r)(h':OpR X f r'):OpR X f (fun x y H Q=>r x y H Q\/r' x y H Q):=by
 intro pins s σ H x y v u Q I rx ry q
 rcases q with q | q
 ·exact h pins s σ H x y v u Q I rx ry q
 ·exact h' pins s σ H x y v u Q I rx ry q
theorem A7(b:Expr){op:CmpOp}(h:op≠.In:=by decide)(h2:op≠.NotIn:=by decide):behindInMarks op b=false:=by
 have e1:(op==CmpOp.In)=false:=by cases op<;>first | rfl | exact absurd rfl h
 have e2:(op==CmpOp.NotIn)=false:=by cases op<;>first | rfl | exact absurd rfl h2
 cases b<;>simp[behindInMarks,e1,e2]
theorem nU{op:CmpOp}{r:R2}(ho:OpR X (compareOp op) r)(ha:PE X a ta)(hb:PE X b tb)(hm:behindInMarks op b=false):PE X (.Compare a [op] [b] pos) (Me r ta tb):=by
 intro pins s σ H Q I h
 exact wpAny_Compare1 (IV ha hb I h fun v u s2 x y H2 I2 rx ry q=>ho pins s2 σ H2 x y v u Q I2 rx ry q) hm
def LS(t:TE):TT:=fun σ H Q=>t σ H fun x H'=>∃k,x=.bl k/\Q k H'
theorem ow{op:CmpOp}{r:R2}(ho:OpR X (compareOp op) r)(ha:PE X a ta)(hb:PE X b tb)(hm:behindInMarks op b=false):PT X (.Compare a [op] [b] pos) (LS (Me r ta tb)):=by
 intro pins s σ H Q I h
 refine wpAny_isTrue_Compare1 (sX (ha pins s σ H _ I h) fun v s1 ⟨x,H1,I1,r1,q1⟩=>sX (hb pins s1 σ H1 _ I1 q1) fun u s2 ⟨y,H2,I2,r2,q2⟩ =>
  sX (ho pins s2 σ H2 x y v u _ I2 r1 r2 q2) fun c s3 ⟨z,H3,I3,r3,k,e,q3⟩=>?_) hm
 subst e
 cases r3
 exact wpAny_truthy_bool ⟨H3,I3,q3⟩
def JX(K:PySem.W.Frag)(x:V)(H:Hp)(k:Bool):Prop:=
 match x with
 | .non=>k=false
 | .bl b=>k=b
 | .int i=>k=(i != 0)
 | .str y=>y.length<=sizeLine/\k=((y.length:Int) != 0)
 | .byt y=>y.size<=sizeLine/\k=((y.size:Int) != 0)
 | .ref p=>(∃xs,u4 K H p xs/\k=!xs.isEmpty)\/(∃xs,vC K H p xs/\k=!xs.isEmpty)\/∃kvs,H p=some (.dK kvs)/\k=!kvs.isEmpty
 | _=>False
theorem CY{κ:Type}{kvs:List (κ×V)}{vs:List (κ×Value)}(r:KV kvs vs):(!vs.isEmpty)=!kvs.isEmpty:=by
 cases r<;>rfl
theorem zE{xs:List V}{its:List Value}(r:l3 xs its):(!its.toArray.isEmpty)=!xs.isEmpty:=by
 cases r<;>simp
theorem zv:(sizeLine:Nat)<2 ^ 63:=by rw[sizeLine_eq];decide
theorem IW:MR X (fun x H Q=>∃k,JX X.K x H k/\Q k H):=by
 intro pins s σ H x v Q I rx h
 obtain⟨k,e,q⟩:=h
 have hl:=zv
 have hs:sizeLine=16777216:=sizeLine_eq
 cases x with
 | non =>
  cases rx
  have e':k=false:=e
  subst e'
  exact truthy_none ⟨H,I,q⟩
 | bl b =>
  cases rx
  have e':k=b:=e
  subst e'
  exact wpAny_truthy_bool ⟨H,I,q⟩
 | int i =>
  obtain⟨t,rfl⟩:=rx
  have e':k=(i != 0):=e
  subst e'
  exact PySem.P.truthy_int ⟨H,I,q⟩
 | str y =>
  obtain⟨t,rfl⟩:=rx
  obtain⟨hy,e'⟩:y.length<=sizeLine/\k=((y.length:Int) != 0):=e
  subst e'
  exact PySem.P.truthy_str (by omega) ⟨H,I.tok _,q⟩
 | byt y =>
  obtain⟨t,rfl⟩:=rx
  obtain⟨hy,e'⟩:y.size<=sizeLine/\k=((y.size:Int) != 0):=e
  subst e'
  exact PySem.W.truthy_bytes (by omega) ⟨H,I.tok _,q⟩
 | ref p =>
  cases rx
  have e':(∃xs,u4 X.K H p xs/\k=!xs.isEmpty)\/(∃xs,vC X.K H p xs/\k=!xs.isEmpty)\/∃kvs,H p=some (.dK kvs)/\k=!kvs.isEmpty:=e
  rcases e' with ⟨xs,hx,e'⟩ | ⟨xs,hx,e'⟩ | ⟨kvs,hx,e'⟩
  ·subst e'
   obtain⟨its,r,pl,hz⟩:=I.list hx
   have hlen:=r.length
   exact wpAny_truthy_list pl.isList (by simp only[List.size_toArray];omega) ⟨H,I.tok _,by rw[zE r];exact q⟩
  ·subst e'
   obtain⟨its,r,pl,hz⟩:=I.tuple hx
   have hlen:=r.length
   exact truthy_tuple pl (by simp only[List.size_toArray];omega) ⟨H,I.tok _,by rw[zE r];exact q⟩
  ·subst e'
   obtain⟨hz,hS,vs,r,m⟩:kvs.length<=sizeLine/\(p==sysModules)=false/\∃vs,KV kvs vs/\s.heap.DictOf (zd X.prog X.w) p vs:=I.hok p _ hx
   have hlen:kvs.length=vs.length:=Paired.length r
   exact wpAny_truthy_dict hS m (by omega) ⟨H,I.tok _,by rw[CY r];exact q⟩
 | _=>exact(show False from e).elim
theorem qm(ha:PE X a ta)(he:∀whole,isTrue a X.env whole=(do let v <- whole;standAt a.pos;holding [v] (truthy v))) :
  PT X a (fun σ H Q=>ta σ H fun x H'=>∃k,JX X.K x H' k/\Q k H'):=by
 intro pins s σ H Q I h
 exact isTrue_plain (sX (ha pins s σ H _ I h) fun v s1 ⟨x,H1,I1,r1,q1⟩=>IW pins s1 σ H1 x v Q I1 r1 q1) (he _)
theorem Dg:OpR X (binaryOp .Add) (fun x y H Q=>∃i j,x=.str i/\y=.str j/\i.length+j.length<=sizeLine/\Q (.str (i++j)) H):=by
 intro pins s σ H x y v u Q I rx ry h
 obtain⟨i,j,rfl,rfl,hz,q⟩:=h
 obtain⟨t,rfl⟩:=rx
 obtain⟨t',rfl⟩:=ry
 exact add_str (fun t' tk=>⟨.str (i++j),H,I.tok _,⟨_,rfl⟩,q⟩) hz
theorem vals1{x:V}{us:List Value}(r:l3 [x] us):∃u,us=[u]/\RelV x u:=by
 cases r with
 | cons r1 r2=>cases r2;exact⟨_,rfl,r1⟩
theorem vals2{x y:V}{us:List Value}(r:l3 [x,y] us):∃u w',us=[u,w']/\RelV x u/\RelV y w':=by
 cases r with
 | cons r1 r2 =>
  cases r2 with
  | cons r3 r4=>cases r4;exact⟨_,_,rfl,r1,r3⟩
theorem oX(hc:X.calm=true):CallR X (.builtin "max") (fun xs H Q=>∃i j,xs=[.int i,.int j]/\Q (.int (if j > i then j else i)) H):=by
 intro pins s σ H xs us Q I r h
 obtain⟨i,j,rfl,q⟩:=h
 obtain⟨u,w',rfl,⟨t,rfl⟩,⟨t',rfl⟩⟩:=vals2 r
 refine max_two_ints (I.ok.hd hc) fun h' tk k=>⟨_,H,I.kept k,?_,q⟩
 by_cases hj:j > i
 ·rw[if_pos hj,if_pos hj];exact⟨_,rfl⟩
 ·rw[if_neg hj,if_neg hj];exact⟨_,rfl⟩
theorem Bc:CallR X (.type "str") (fun xs H Q=>∃i,xs=[.int i]/\i.natAbs.log2<1920/\Q (.str (toString i)) H):=by
 intro pins s σ H xs us Q I r h
 obtain⟨i,rfl,hz,q⟩:=h
 obtain⟨u,rfl,t,rfl⟩:=vals1 r
 exact PySem.P.str_of_int hz ⟨.str _,H,I.tok _,⟨_,rfl⟩,q⟩
end
end L2
namespace L2
open PySem PySem.Spec PyProof.Rows
structure CQ (h:Heap) (x dx C:Addr) (mA:Str->Option Value):Prop where
 obj:h.get? x=some (PySem.W.instObj C dx)
 ns:h.Ns1 dx mA
 ne:dx≠x
theorem Ew{h:Heap}{dx:Addr}{mA:Str->Option Value}(n:h.Ns1 dx mA):∃od,h.get? dx=some od/\∀name,PySem.W.lookIn name od=some (mA name):=by
 obtain⟨o,es,ep,ho,hd,hk,_,hm⟩:=n
 refine⟨o,ho,fun name=>?_⟩
 have e:=hm name
 unfold nsFind findBy at e
 rw[<- Array.find?_toList] at e
 unfold PySem.W.lookIn
 rw[hd]
 dsimp only
 split
 ·rename_i y q
  rw[q] at e
  exact congrArg some e
 ·rename_i q
  rw[q] at e
  have a:es.toList.any (·.refKey)=false:=by
   rw[List.any_eq_false]
   intro y hy
   obtain⟨z,t,hkey⟩:=hk y (Array.mem_toList_iff.mp hy)
   simp[DictEntry.refKey,hkey]
  have a':¬ es.toList.any (·.refKey)=true:=by rw[a];exact Bool.false_ne_true
  rw[if_neg a']
  exact congrArg some e
theorem CQ.look{h:Heap}{x dx C:Addr}{mA:Str->Option Value}(I:CQ h x dx C mA):∃od,PySem.W.InstAt h x (PySem.W.instObj C dx) C (some od)/\∀name,PySem.W.lookIn name od=some (mA name):=
 let ⟨od,ho,hl⟩:=Ew I.ns
 ⟨od,⟨I.obj,rfl,rfl,ho⟩,hl⟩
section
variable{prog:Program}{w:World}{A:Around}{E:Value->Shared->Prop}{s:Shared}{K:PySem.W.Frag}{x dx C f:Addr}{mA:Str->Option Value}{name:Str}{v:Value}
theorem qW{expr:Bool}{Q:Value->Shared->Prop}(X:K.In s.heap)(I:CQ s.heap x dx C mA)(hg:PySem.W.plainGet K C name=true)(hh:PySem.W.hasDictIn K C=true)
  (ha:PySem.W.findIn K (.ref C) name=some none) (hv:mA name=some v) (hv':PySem.W.handedIn v=true) (h:Q v {s with toks:=s.toks+1}) :
  wpAny (model prog w) A (getAttr (.ref x) name expr) Q E s:=by
 obtain⟨od,J,hl⟩:=I.look
 exact PySem.W.get_value X J (PySem.W.plainGet_of hg).1 (PySem.W.findObj_own hh ha rfl (by rw[hl,hv])) hv' h
theorem pK{pl:Sem Bool}{Q:Value×List Value->Shared->Prop}(X:K.In s.heap)(I:CQ s.heap x dx C mA)(hg:PySem.W.plainGet K C name=true)
  (hf:PySem.W.findIn K (.ref C) name=some (some (.ref f))) (ht:PySem.W.isFn K (.ref f)=true) (hv:mA name=none) (h:Q (.ref f,[.ref x]) s) :
  wpAny (model prog w) A (getMethod (.ref x) name pl) Q E s:=by
 obtain⟨od,J,hl⟩:=I.look
 exact PySem.W.method_fn X J (PySem.W.plainGet_of hg).1 (PySem.W.plainGet_of hg).2 hf (beq_iff_eq.mp ht) (by show(PySem.W.lookIn name od).map (·.isSome)=some false;rw[hl,hv];rfl) h
theorem GS{ns:List Str}{Q:Unit->Shared->Prop}(X:K.In s.heap)(I:CQ s.heap x dx C mA)
  (hs:PySem.W.findIn K (.ref C) "__setattr__" = some (some (.builtin "object.__setattr__"))) (hp:PySem.W.plainOver K C=true) (ht:PySem.W.takerIn K C name=some none) (hh:PySem.W.hasDictIn K C=true)
  (hw:PySem.Within mA ns) (hsz:ns.length<=sizeLine)
  (h:∀h',CQ h' x dx C (fun y=>if y=name then some v else mA y)->Heap.SameBut dx s.heap h'->Q () {s with heap:=h',toks:=s.toks+2}) :
  wpAny (model prog w) A (setAttr (.ref x) name v) Q E s:=by
 obtain⟨od,J,hl⟩:=I.look
 refine PySem.W.set_plain X J hs (PySem.W.osa_open (s:={s with toks:=s.toks+1}) (r:=none) X J hp ht fun b=>?_)
 obtain⟨cd,hc,hd'⟩:=PySem.W.any_some hh
 have hx:s.heap.get? x=some ⟨.ref C,some dx,.plain,#[]⟩:=I.obj
 refine wpAny_bind (wpAny_pure (wpAny_bind (wpAny_bind (wpAny_loadPart hx (wpAny_bind (PySem.W.Looks.here (s:={s with toks:=s.toks+1}) (PySem.W.looks_clsIn X hc) ?_))))))
 rw[hd']
 refine wpAny_pure (a:=some dx) (wpAny_bind (wpAny_pure (wpAny_bind ?_)))
 refine wpAny_nsSet1 (s:={s with toks:=s.toks+1}) I.ns fun h' hn2 hs2=>?_
 obtain⟨oD,esD,epD,hoD,hdD,hcD⟩:=hn2.count (PySem.Within.cons name v hw)
 refine wpAny_bind (wpAny_lookBehind hoD (by rw[hdD];exact pastItsLine_dict (Nat.le_trans hcD (by rw[List.length_cons];omega))) ?_)
 exact wpAny_pure (h _ ⟨(hs2.2 _ (Ne.symm I.ne)).trans I.obj,hn2,I.ne⟩ hs2)
theorem Gj {R:Result->Shared->Prop} {vs:List Value} {kw:List (Str×Value)} (X:K.In s.heap) (hm:PySem.W.makesIn K C=true)
    (hi:PySem.W.findIn K (.ref C) "__init__" = some (some (.ref f))) (hf:PySem.W.typeIn K (.ref f)=some (.type "function"))
    (h:codeAny (model prog w) (A.under (.builtin "type.__call__" ⟨.ref C::vs,kw⟩)) (.call (.ref f) ⟨.ref (s.heap.objs.size+1)::vs,kw⟩) (PySem.W.InitBack (s.heap.objs.size+1) R)
      {s with heap:=(s.heap.push PySem.W.emptyDict).push (PySem.W.instObj C s.heap.objs.size)}) :
    codeAny (model prog w) A (.call (.ref C) ⟨vs,kw⟩) R s:=by
  obtain⟨hh,g,d,t,os⟩:=s
  exact PySem.W.make_core (PySem.W.makes_of X hm) (PySem.W.looks_findIn X hi) (fun self=>PySem.W.bind_fn X self hf) (.inl rfl) h
end
noncomputable def vc(f:Str)(v:V):List (Str×V)->List (Str×V)
 | []=>[(f,v)]
 | (g,x)::r=>if g=f then (g,v)::r else (g,x)::vc f v r
theorem yW(f g:Str)(v:V):∀fs:List (Str×V),(vc f v fs).lookup g=if g=f then some v else fs.lookup g
 | []=>by
  show List.lookup g [(f,v)]=_
  by_cases h:g=f
  ·have hb:(g==f)=true:=beq_iff_eq.mpr h
   simp only[List.lookup,hb,if_pos h]
  ·have hb:(g==f)=false:=beq_eq_false_iff_ne.mpr h
   simp only[List.lookup,hb,if_neg h]
 | (k,x)::r=>by
  have ih:=yW f g v r
  rw[show vc f v ((k,x)::r)=(if k=f then (k,v)::r else (k,x)::vc f v r) from rfl]
  by_cases hk:k=f
  ·rw[if_pos hk]
   by_cases h:g=k
   ·have hb:(g==k)=true:=beq_iff_eq.mpr h
    simp only[List.lookup,hb,if_pos (h.trans hk)]
   ·have hb:(g==k)=false:=beq_eq_false_iff_ne.mpr h
    simp only[List.lookup,hb,if_neg (fun e:g=f=>h (e.trans hk.symm))]
  ·rw[if_neg hk]
   by_cases h:g=k
   ·have hb:(g==k)=true:=beq_iff_eq.mpr h
    simp only[List.lookup,hb,if_neg (fun e:g=f=>hk (h.symm.trans e))]
   ·have hb:(g==k)=false:=beq_eq_false_iff_ne.mpr h
    simp only[List.lookup,hb]
    exact ih
theorem yL(f:Str)(v:V):∀fs:List (Str×V),f∈(vc f v fs).map (·.1)/\∀g,g∈fs.map (·.1)->g∈(vc f v fs).map (·.1)
 | []=>⟨by simp[vc],fun g h=>by simp at h⟩
 | (k,x)::r=>by
  obtain⟨i1,i2⟩:=yL f v r
  rw[show vc f v ((k,x)::r)=(if k=f then (k,v)::r else (k,x)::vc f v r) from rfl]
  by_cases hk:k=f
  ·rw[if_pos hk]
   subst hk
   exact⟨by simp,fun g h=>by simpa using h⟩
  ·rw[if_neg hk]
   refine⟨?_,fun g h=>?_⟩
   ·rw[List.map_cons]
    exact List.mem_cons_of_mem _ i1
   ·rw[List.map_cons] at h ⊢
    rcases List.mem_cons.mp h with e | e
    ·exact List.mem_cons.mpr (.inl e)
    ·exact List.mem_cons_of_mem _ (i2 g e)
theorem yV(f:Str)(v:V):∀fs:List (Str×V),(vc f v fs).length<=fs.length+1
 | []=>by simp[vc]
 | (k,x)::r=>by
  have ih:=yV f v r
  rw[show vc f v ((k,x)::r)=(if k=f then (k,v)::r else (k,x)::vc f v r) from rfl]
  by_cases hk:k=f
  ·rw[if_pos hk,List.length_cons,List.length_cons];omega
  ·rw[if_neg hk,List.length_cons,List.length_cons];omega
theorem xp.some_of{v:V}{o:Option Value}(r:xp (some v) o):∃u,o=some u/\RelV v u:=by
 cases o with
 | none=>exact(show False from r).elim
 | some u=>exact⟨u,rfl,r⟩
theorem xp.none_of{o:Option Value}(r:xp none o):o=none:=by
 cases o with
 | none=>rfl
 | some u=>exact(show False from r).elim
theorem Ej{v:V}{u:Value}(r:RelV v u):PySem.W.handedIn u=true:=by
 cases v with
 | non=>cases (show u=Value.none from r);rfl
 | bl b=>cases (show u=Value.bool b from r);rfl
 | int i=>obtain⟨t,e⟩:=(show ∃t,u=Value.int i t from r);cases e;rfl
 | str x=>obtain⟨t,e⟩:=(show ∃t,u=Value.str x t from r);cases e;rfl
 | byt b=>obtain⟨t,e⟩:=(show ∃t,u=Value.bytes b t from r);cases e;rfl
 | flt b=>obtain⟨t,e⟩:=(show ∃t,u=Value.float b t from r);cases e;rfl
 | ref a=>cases (show u=Value.ref a from r);rfl
 | ty n=>cases (show u=Value.type n from r);rfl
section
variable{P:Program}{w:World}{H H':Hp}{h h':Heap}{a C dx:Addr}{fs fs':List (Str×V)}
theorem AY(hok:xt P w H h)(e:H a=some (.ins C dx fs)):∃mA,CQ h a dx C mA/\(∀f,xp (fs.lookup f) (mA f))/\PySem.Within mA (fs.map (·.1))/\fs.length<=1000/\H dx=some (.own a):=by
 obtain⟨d,z,ne,ob,mA,n,r,q⟩:=(show ui P w H h a (.ins C dx fs) from hok a _ e)
 exact⟨mA,⟨ob,n,ne⟩,r,q,z,d⟩
end
structure wl (K:PySem.W.Frag) (C:Addr):Prop where
 pg:PySem.W.plainGet K C Str.empty=true
 hd:PySem.W.hasDictIn K C=true
 po:PySem.W.plainOver K C=true
 sa:PySem.W.findIn K (.ref C) "__setattr__" = some (some (.builtin "object.__setattr__"))
theorem wl.get{K:PySem.W.Frag}{C:Addr}(c:wl K C)(f:Str):PySem.W.plainGet K C f=true:=c.pg
def q5(K:PySem.W.Frag)(C:Addr)(f:Str):Prop:=PySem.W.findIn K (.ref C) f=some none
theorem q5.taker{K:PySem.W.Frag}{C:Addr}{f:Str}(n:q5 K C f):PySem.W.takerIn K C f=some none:=by
 unfold PySem.W.takerIn
 rw[show PySem.W.findIn K (.ref C) f=some none from n]
 rfl
structure t6 (K:PySem.W.Frag) (C:Addr) (f:Str) (v:V) (u:Value):Prop where
 at_:PySem.W.findIn K (.ref C) f=some (some u)
 rel:RelV v u
 get:PySem.W.specialIn K u "__get__" = some none
 cp:PySem.W.copiedNames.contains f=false
structure BU (K:PySem.W.Frag) (C:Addr) (m:Str) (f:Addr):Prop where
 at_:PySem.W.findIn K (.ref C) m=some (some (.ref f))
 fn:PySem.W.isFn K (.ref f)=true
 kp:PySem.W.keepIn K (.ref f)=true
section
variable{X:Cx}{pins:List (Addr×Obj)}{σ:St}{H:Hp}{s:Shared}{a C dx:Addr}{fs:List (Str×V)}{f:Str}{v:V}{A:Around}{E:Value->Shared->Prop}
theorem C7{b:Bool}{Q:Value->Shared->Prop}(I:Inv X pins σ H s)(e:H a=some (.ins C dx fs))(c:wl X.K C)(n:q5 X.K C f)(l:fs.lookup f=some v)
  (h:∀u s',Inv X pins σ H s'->RelV v u->Q u s'):wpAny (model X.prog X.w) A (getAttr (.ref a) f b) Q E s:=by
 obtain⟨mA,O,r,_,_,_⟩:=AY I.hok e
 obtain⟨u,hu,ru⟩:=xp.some_of (v:=v) (o:=mA f) (by rw[<- l];exact r f)
 exact qW I.kIn O (c.get f) c.hd n hu (Ej ru) (h u _ (I.tok _) ru)
theorem xG{m:Str}{g:Addr}{pl:Sem Bool}{Q:Value×List Value->Shared->Prop}(I:Inv X pins σ H s)(e:H a=some (.ins C dx fs))(c:wl X.K C)(k:BU X.K C m g)(l:fs.lookup m=none)
  (h:Q (.ref g,[.ref a]) s):wpAny (model X.prog X.w) A (getMethod (.ref a) m pl) Q E s:=by
 obtain⟨mA,O,r,_,_,_⟩:=AY I.hok e
 have hn:mA m=none:=xp.none_of (by rw[<- l];exact r m)
 exact pK I.kIn O (c.get m) k.at_ k.fn hn h
theorem C0{y:V}{u:Value}{Q:Unit->Shared->Prop}(I:Inv X pins σ H s)(e:H a=some (.ins C dx fs))(c:wl X.K C)(n:q5 X.K C f)(hl:fs.length<1000)(ry:RelV y u)
  (h:∀s',Inv X pins σ (upd H a (.ins C dx (vc f y fs))) s'->Q () s'):wpAny (model X.prog X.w) A (setAttr (.ref a) f u) Q E s:=by
 obtain⟨mA,O,r,wi,_,ho⟩:=AY I.hok e
 have hz:(fs.map (·.1)).length<=sizeLine:=by rw[List.length_map,sizeLine_eq];omega
 refine GS I.kIn O c.sa c.po n.taker c.hd wi hz fun h' O' sb=>h _ ?_
 have hd:∃o,h'.get? dx=some o:=let ⟨o,_,_,e',_⟩:=O'.ns;⟨o,e'⟩
 refine I.write (x:=a) (e:=dx) (by rw[e];exact True.intro) (.inr ho) (fun b q hb z=>(sb.2 b hb).trans z) hd ?_
 refine⟨by rw[aq O.ne];exact ho,?_,O.ne,O'.obj,_,O'.ns,fun g=>?_,fun g hg=>?_⟩
 ·have:=yV f y fs;omega
 ·show xp ((vc f y fs).lookup g) (if g=f then some u else mA g)
  rw[yW]
  by_cases q:g=f
  ·rw[if_pos q,if_pos q];exact ry
  ·rw[if_neg q,if_neg q];exact r g
 ·by_cases q:g=f
  ·rw[q];exact(yL f y fs).1
  ·refine(yL f y fs).2 g (wi g fun z=>hg ?_)
   show(if g=f then some u else mA g)=none
   rw[if_neg q];exact z
theorem Inv.made(I:Inv X pins σ H s):Inv X pins σ (upd (upd H s.heap.objs.size (.own (s.heap.objs.size+1))) (s.heap.objs.size+1) (.ins C s.heap.objs.size []))
  {s with heap:=(s.heap.push PySem.W.emptyDict).push (PySem.W.instObj C s.heap.objs.size)}:=by
 have e1:(s.heap.push PySem.W.emptyDict).get? s.heap.objs.size=some PySem.W.emptyDict:=Heap.get?_push_size s.heap rfl
 have e2:((s.heap.push PySem.W.emptyDict).push (PySem.W.instObj C s.heap.objs.size)).get? (s.heap.objs.size+1)=some (PySem.W.instObj C s.heap.objs.size):=by
  have:=Heap.get?_push_size (s.heap.push PySem.W.emptyDict) (o:=PySem.W.instObj C s.heap.objs.size) rfl
  rwa [Heap.size_push] at this
 have e3:(s.heap.push PySem.W.emptyDict).Ns s.heap.objs.size (fun _=>none):=⟨PySem.W.emptyDict,#[],_,e1,rfl,(fun e he=>absurd he (by simp)),fun _=>rfl⟩
 have I1:=I.laid (a:=s.heap.objs.size) (o:=.own (s.heap.objs.size+1)) (h':=s.heap.push PySem.W.emptyDict) (t':=s.toks) (fun b u q=>Heap.get?_push_of_some _ q) (Nat.le_refl _) ⟨_,e1⟩
 refine I1.laid (a:=s.heap.objs.size+1) (o:=.ins C s.heap.objs.size []) (t':=s.toks) (fun b u q=>Heap.get?_push_of_some _ q) (Nat.le_of_eq (Heap.size_push _ _)) ?_
 have ne:s.heap.objs.size≠s.heap.objs.size+1:=Nat.ne_of_lt (Nat.lt_succ_self _)
 refine⟨by rw[aq ne,av],Nat.zero_le _,ne,e2,fun _=>none,(Heap.Ns1.of_empty e3).at fun o q=>Heap.get?_push_of_some _ q,fun _=>True.intro,fun y hy=>absurd rfl hy⟩
theorem G8{prog:Program}{w:World}{env:Env}{e:Expr}{f:Str}{pos:Pos}{s:Shared}{Q:Value->Shared->Prop}(hb:attributeBase e f env (eval e env)=eval e env)
  (h:wpAny (model prog w) A (eval e env) (fun o s₁=>wpAny (model prog w) A (getAttr o f true) Q E s₁) E s):wpAny (model prog w) A (eval (.Attribute e f pos) env) Q E s:=
 Attribute_any_ h (by rw[arm_eval_Attribute,hb])
end
def Nt(K:PySem.W.Frag)(ta:TE)(f:Str):TE:=fun σ H Q=>ta σ H fun x H1=>∃a C dx fs v,x=.ref a/\H1 a=some (.ins C dx fs)/\wl K C/\q5 K C f/\fs.lookup f=some v/\Q v H1
def MI(K:PySem.W.Frag)(ta tv:TE)(f:Str):TS:=fun D σ H=>tv σ H fun y H1=>ta σ H1 fun x H2=>∃a C dx fs,x=.ref a/\H2 a=some (.ins C dx fs)/\wl K C/\q5 K C f/\fs.length<1000 /\
 D.nx σ (upd H2 a (.ins C dx (vc f y fs)))
section
variable{X:Cx}{o e value:Expr}{f:Str}{pos pos' tpos:Pos}{ta tv:TE}
theorem mJ(he:PE X e ta)(hb:attributeBase e f X.env (eval e X.env)=eval e X.env):PE X (.Attribute e f pos) (Nt X.K ta f):=by
 intro pins s σ H Q I h
 refine G8 hb (sX (he pins s σ H _ I h) fun u s1 ⟨x,H1,I1,rx,a,C,dx,fs,v,ex,ea,c,n,l,q⟩=>?_)
 subst ex
 obtain rfl:u=Value.ref a:=rx
 exact C7 I1 ea c n l fun u' s2 I2 ru=>⟨v,H1,I2,ru,q⟩
theorem ql(ha:PE X o ta)(hv:PE X value tv)(hs:swapsWith value (some (.Attribute o f pos')) pos.line X.env=pure false):PS X (.Assign [.Attribute o f pos'] value pos) (MI X.K ta tv f):=by
 intro pins s σ H D I h
 refine plainObj_wpAny_Assign_Attribute (sX (hv pins s σ H _ I h) fun u s1 ⟨y,H1,I1,ry,q⟩=>sX (ha pins s1 σ H1 _ I1 q) fun ov s2 ⟨x,H2,I2,rx,a,C,dx,fs,ex,ea,c,n,l,q2⟩=>?_) hs
 subst ex
 obtain rfl:ov=Value.ref a:=rx
 exact C0 I2 ea c n l ry fun s3 I3=>⟨σ,_,I3,q2⟩
theorem IG {pl:Sem Bool} {m:Str} {apos:Pos} {args:List Expr} {pins:List (Addr×Obj)} {s:Shared} {σ:St} {H:Hp} {Q:Value->Shared->Prop} {te:TE} (he:PE X e te) (I:Inv X pins σ H s)
    (h:te σ H fun x H1=>∃a C dx fs g,x=.ref a/\H1 a=some (.ins C dx fs)/\wl X.K C/\BU X.K C m g/\fs.lookup m=none /\
      ∀s1,Inv X pins σ H1 s1->wpAny (model X.prog X.w) X.A (callWith pos (.ref g) [.ref a] (backTo pos (starEach args X.env)) (backToKw pos (keywordEach [] X.env))) Q X.xe s1)
    (ht:eval (.Call (.Attribute e m apos) args [] pos) X.env=(do
      let ov <- eval e X.env
      standAt apos.atName
      let (f,first) <- holding [ov] (getMethod ov m pl)
      callWith pos f first (backTo pos (starEach args X.env)) (backToKw pos (keywordEach [] X.env)))) :
    wpAny (model X.prog X.w) X.A (eval (.Call (.Attribute e m apos) args [] pos) X.env) Q X.xe s:=by
  refine PySem.W.methodCall_KW (pl:=pl) (sX (he pins s σ H _ I h) fun u s1 ⟨x,H1,I1,rx,a,C,dx,fs,g,ex,ea,c,k,l,q⟩=>?_) ht
  subst ex
  obtain rfl:u=Value.ref a:=rx
  exact xG I1 ea c k l (q s1 I1)
end
section
variable{X:Cx}{pins:List (Addr×Obj)}{σ:St}{H:Hp}{s:Shared}{A:Around}{E:Value->Shared->Prop}{Q:Value->Shared->Prop}{c:Value}{b:Bool}
end
end L2
namespace L2
open PySem PySem.Spec PyProof.Rows
structure sL (k:Nat) (A:Around):Prop where
 hd:A.handled=none
 dp:A.depth+3*k+5<recursionLimit
 un:A.units+16*k+200<cLine
 gd:A.guards=some []
theorem sL.mono{j k:Nat}{A:Around}(r:sL k A)(h:j<=k):sL j A:=⟨r.hd,by have:=r.dp;omega,by have:=r.un;omega,r.gd⟩
theorem sL.deeper{k:Nat}{A:Around}(r:sL (k+1) A)(env:Env):sL k (A.deeper env):=
 ⟨r.hd,by have:=r.dp;show A.depth+1+3*k+5<_;omega,by have:=r.un;show A.units+3+16*k+200<_;omega,r.gd⟩
theorem sL.in1{k:Nat}{A:Around}(r:sL (k+1) A):sL k A.in1:=
 ⟨r.hd,by have:=r.dp;show A.depth+3*k+5<_;omega,by have:=r.un;show A.units+1+16*k+200<_;omega,r.gd⟩
theorem Do{A:Around}{C:Addr}{us:List Value}{kw:List (Str×Value)}:(A.under (.builtin "type.__call__" ⟨.ref C::us,kw⟩)).depth=A.depth+1:=by
 first | rfl | simp[Around.under,Code.weight,Code.isCreation,Code.isGuard,Code.isCaller,Code.frames,Code.isFrame,guardIds]
theorem CT{A:Around}{C:Addr}{us:List Value}{kw:List (Str×Value)}:(A.under (.builtin "type.__call__" ⟨.ref C::us,kw⟩)).units=A.units+1:=by
 first | rfl | simp[Around.under,Code.cUnits,Code.frames,Code.isFrame]
theorem sL.make{k:Nat}{A:Around}(r:sL (k+1) A)(C:Addr)(us:List Value)(kw:List (Str×Value)):sL k (A.under (.builtin "type.__call__" ⟨.ref C::us,kw⟩)):=
 ⟨r.hd,by have:=r.dp;rw[Do];omega,by have:=r.un;rw[CT];omega,by show pushGuards (Code.guards (.builtin "type.__call__" ⟨.ref C::us,kw⟩)) A.guards=_;rw[r.gd];first | rfl | simp[Code.guards,Code.isGuard,guardIds,pushGuards]⟩
theorem sL.depth{k:Nat}{A:Around}(r:sL k A):A.depth<recursionLimit:=by have:=r.dp;omega
theorem sL.units{k:Nat}{A:Around}(r:sL k A):A.units+64<cLine:=by have:=r.un;omega
def K5:TA:=fun _ H Q=>Q [] H
def IE(ta:TE)(tr:TA):TA:=fun σ H Q=>ta σ H fun x H1=>tr σ H1 fun xs H2=>Q (x::xs) H2
section
variable{X:Cx}{e:Expr}{es:List Expr}{te:TE}{t:TA}{pos:Pos}
theorem zy:PA X [] K5:=fun _ _ _ _ H Q I h=>Calls.spliced_nil ⟨[],H,I,.nil,h⟩
theorem el(ha:PE X e te)(hr:PA X es t)(hs:starEach (e::es) X.env=(false,eval e X.env)::starEach es X.env:=by rfl):PA X (e::es) (IE te t):=by
 intro pos pins s σ H Q I h
 rw[hs]
 show wpAny _ _ (spliced ((false,eval e X.env)::backTo pos (starEach es X.env))) _ _ s
 refine Calls.spliced_cons (sX (ha pins s σ H _ I h) fun u s1 ⟨x,H1,I1,r1,q1⟩=>?_)
 exact sX (hr pos pins s1 σ H1 _ I1 q1) fun us s2 ⟨xs,H2,I2,r2,q2⟩=>⟨x::xs,H2,I2,.cons r1 r2,q2⟩
def KY(t:TA):TE:=fun σ H Q=>t σ H fun xs H1=>xs.length<=sizeLine/\∀p,H1 p=none->Q (.ref p) (upd H1 p (.tup xs))
def Mq(t:TA):TE:=fun σ H Q=>t σ H fun xs H1=>xs.length<=sizeLine/\∀p,H1 p=none->Q (.ref p) (upd H1 p (.lst xs))
theorem kN{x1}(h:PA X es t):PE X (.Tuple es x1 pos) (KY t):=by
 intro pins s σ H Q I hq
 refine wpAny_Tuple_spliced (sX (h pos pins s σ H _ I hq) fun us s1 ⟨xs,H1,I1,r,z,q⟩=>⟨by rw[<- r.length];exact z,?_⟩)
 have hf:H1 s1.heap.objs.size=none:=I1.hok.fresh (Nat.le_refl _)
 refine⟨.ref s1.heap.objs.size,upd H1 s1.heap.objs.size (.tup xs),I1.laid (t':=s1.toks) (fun b u e=>Heap.get?_push_of_some _ e) (Nat.le_refl _) ?_,rfl,q _ hf⟩
 exact⟨z,us,r,⟨_,Heap.get?_push_size _ rfl,rfl,⟨_,rfl⟩,rfl⟩⟩
theorem mZ(h:PA X es t):PE X (.List es pos) (Mq t):=by
 intro pins s σ H Q I hq
 refine wpAny_List_spliced (sX (h pos pins s σ H _ I hq) fun us s1 ⟨xs,H1,I1,r,z,q⟩=>⟨by rw[<- r.length];exact z,?_⟩)
 have hf:H1 s1.heap.objs.size=none:=I1.hok.fresh (Nat.le_refl _)
 refine⟨.ref s1.heap.objs.size,upd H1 s1.heap.objs.size (.lst xs),I1.laid (t':=s1.toks) (fun b u e=>Heap.get?_push_of_some _ e) (Nat.le_refl _) ?_,rfl,q _ hf⟩
 exact⟨z,us,0,r,Heap.get?_push_size _ rfl⟩
end
abbrev Sp:=List V->Hp->VK->XK->Prop
abbrev BK:=List Env->Hp->Shared->XK->Value->Shared->Prop
structure yB (P:Program) (w:World) (K:PySem.W.Frag) (mg:Str->Option Value) (base:Heap) (A:Around) (outer:List Env) (s:Shared) (H:Hp):Prop where
 frames:A.frames=some outer
 mod:Mod K mg base
 bs:∀b o,base.get? b=some o->s.heap.get? b=some o/\H b=none
 bsz:base.objs.size<=s.heap.objs.size
 funs:s.heap.FunFrames base outer
 frf:∀b∈vR outer,H b=none
 hok:xt P w H s.heap
 bare:AllBare s.gens
def CE(outer:List Env)(P:Program)(w:World)(H:Hp)(s:Shared)(Q:VK)(u:Value)(s':Shared):Prop:=
 ∃v H',s'.os=s.os/\AllBare s'.gens/\Un (vR outer) [] H H' s.heap s'.heap/\xt P w H' s'.heap/\RelV v u/\Q v H'
def CR(CX:BK)(outer:List Env)(P:Program)(w:World)(H:Hp)(s:Shared)(Q:VK)(E:XK)(r:Result)(s':Shared):Prop:=
 match r with
 | .ok (.ret u)=>CE outer P w H s Q u s'
 | .ok _=>False
 | .error e=>CX outer H s E e s'
structure k6 (P:Program) (w:World) (K:PySem.W.Frag) (mg:Str->Option Value) (base:Heap) (CX:BK) (k:Nat) (f:Addr) (fd:FuncData) (ps:List Str) (sp:Sp):Prop where
 len:∀vs H Q E,sp vs H Q E->vs.length=ps.length
 run:∀(A:Around) (outer:List Env) (s:Shared) (H:Hp) (args:Args) (us:List Value) (vs:List V) (Q:VK) (E:XK),sL k A->yB P w K mg base A outer s H->BindsTo s fd args (ps.zip us)->l3 vs us->sp vs H Q E ->
  codeAny (model P w) A (.call (.ref f) args) (CR CX outer P w H s Q E) s
theorem k6.mono{P:Program}{w:World}{K:PySem.W.Frag}{mg:Str->Option Value}{base:Heap}{CX:BK}{j k:Nat}{f:Addr}{fd:FuncData}{ps:List Str}{sp:Sp}(F:k6 P w K mg base CX j f fd ps sp)(h:j<=k) :
  k6 P w K mg base CX k f fd ps sp:=⟨F.len,fun A outer s H args us vs Q E hr=>F.run A outer s H args us vs Q E (hr.mono h)⟩
theorem k6.imp{P:Program}{w:World}{K:PySem.W.Frag}{mg:Str->Option Value}{base:Heap}{CX:BK}{k:Nat}{f:Addr}{fd:FuncData}{ps:List Str}{sp sp':Sp}(F:k6 P w K mg base CX k f fd ps sp)
  (h:∀vs H Q E,sp' vs H Q E->sp vs H Q E):k6 P w K mg base CX k f fd ps sp':=
 ⟨fun vs H Q E q=>F.len vs H Q E (h _ _ _ _ q),fun A outer s H args us vs Q E hr he hb hv hs=>F.run A outer s H args us vs Q E hr he hb hv (h _ _ _ _ hs)⟩
theorem yB.make{P:Program}{w:World}{K:PySem.W.Frag}{mg:Str->Option Value}{base:Heap}{A:Around}{outer:List Env}{s:Shared}{H:Hp}(e:yB P w K mg base A outer s H)(C:Addr)(us:List Value)(kw:List (Str×Value)) :
  yB P w K mg base (A.under (.builtin "type.__call__" ⟨.ref C::us,kw⟩)) outer s H:=⟨by first | exact e.frames | (simpa [Around.under,Code.envs,Code.isFrame,pushEnvs] using e.frames),e.mod,e.bs,e.bsz,e.funs,e.frf,e.hok,e.bare⟩
theorem yB.in1{P:Program}{w:World}{K:PySem.W.Frag}{mg:Str->Option Value}{base:Heap}{A:Around}{outer:List Env}{s:Shared}{H:Hp}(e:yB P w K mg base A outer s H) :
  yB P w K mg base A.in1 outer s H:=⟨e.frames,e.mod,e.bs,e.bsz,e.funs,e.frf,e.hok,e.bare⟩
section
variable{X:Cx}{pins:List (Addr×Obj)}{σ:St}{H:Hp}{s s':Shared}
theorem Inv.env0(I:Inv X pins σ H s):yB X.prog X.w X.K X.mg X.base X.A X.stack s H:=
 ⟨I.ok.frames,I.ok.mod,I.bs,Nat.le_trans I.ok.bsz I.sz,I.stack,I.stkFree,I.hok,I.bare⟩
theorem Inv.after{Q:VK}{u:Value}(I:Inv X pins σ H s)(h:CE X.stack X.prog X.w H s Q u s'):EP X pins σ Q u s':=by
 obtain⟨v,H',os,bare,un,hok,r,q⟩:=h
 obtain⟨hh,g,d,t,os'⟩:=s'
 obtain rfl:os'=s.os:=os
 exact⟨v,H',I.call (h':=hh) (g':=g) (d':=d) (t':=t) (ch:=[]) un hok bare (fun b z=>absurd z (by simp)),r,q⟩
end
def Id(sp:Sp)(dvs:List V)(E:XK)(t:TA):TE:=fun σ H Q=>t σ H fun vs H1=>sp (vs++dvs) H1 Q E
def Gc(C:Addr)(m:Str)(sp:Sp)(dvs:List V)(E:XK)(ta:TE)(t:TA):TE:=fun σ H Q=>ta σ H fun x H1=>∃a dx fs,x=.ref a/\H1 a=some (.ins C dx fs)/\fs.lookup m=none /\
 t σ H1 fun vs H2=>sp (x::(vs++dvs)) H2 Q E
def Ic(C:Addr)(sp:Sp)(dvs:List V)(E:XK)(t:TA):TE:=fun σ H Q=>t σ H fun vs H1=>∀x dx,H1 x=none->H1 dx=none->dx≠x ->
 sp (.ref x::(vs++dvs)) (upd (upd H1 dx (.own x)) x (.ins C dx [])) (fun v H2=>v=.non/\Q (.ref x) H2) E
def Binds(K:PySem.W.Frag)(fd:FuncData)(ps:List Str)(ds:List Value):Prop:=
 ∀(s:Shared) (us:List Value),K.In s.heap->(us++ds).length=ps.length->BindsTo s fd ⟨us,[]⟩ (ps.zip (us++ds))
theorem Binds.all{K:PySem.W.Frag}{fd:FuncData}{ps:List Str}(h:∀us:List Value,us.length=ps.length->bindArgs fd ⟨us,[]⟩=pure (ps.zip us)):Binds K fd ps []:=fun s us _ hl=>by
 rw[List.append_nil] at hl ⊢
 exact .of_eq (h us hl)
def wz(CX:BK)(X:Cx)(E:XK):Prop:=∀(pins:List (Addr×Obj)) (σ:St) (H:Hp) (s:Shared) (e:Value) (s':Shared),Inv X pins σ H s->CX X.stack H s E e s'->X.xe e s'
section
variable{X:Cx}{CX:BK}{k:Nat}{f C:Addr}{fd:FuncData}{ps:List Str}{sp:Sp}{dvs:List V}{ds:List Value}{E:XK}{x m:Str}{p pos apos:Pos}{e o:Expr}{es:List Expr}{ta:TE}{t:TA}
theorem zG{pins:List (Addr×Obj)}{σ:St}{H:Hp}{s:Shared}{Q:VK}{us:List Value}{vs:List V}(F:k6 X.prog X.w X.K X.mg X.base CX k f fd ps sp)(hr:sL k X.A)(hb:Binds X.K fd ps ds)(hd:l3 dvs ds)(hx:wz CX X E)
  (I:Inv X pins σ H s) (r:l3 vs us) (h:sp (vs++dvs) H Q E):wpAny (model X.prog X.w) X.A (call (.ref f) us) (EP X pins σ Q) X.xe s:=by
 have r2:l3 (vs++dvs) (us++ds):=r.append hd
 have hl:(us++ds).length=ps.length:=by rw[<- r2.length];exact F.len _ _ _ _ h
 refine wpAny_call (codeAny_mono (F.run X.A X.stack s H ⟨us,[]⟩ (us++ds) (vs++dvs) Q E hr I.env0 (hb s us I.kIn hl) r2 h) fun r s' hq=>?_)
 cases r with
 | error e=>exact hx pins σ H s e s' I hq
 | ok fl =>
  cases fl with
  | ret u=>exact I.after hq
  | next=>exact False.elim hq
  | brk=>exact False.elim hq
  | cont=>exact False.elim hq
theorem kY(F:k6 X.prog X.w X.K X.mg X.base CX k f fd ps sp)(hr:sL k X.A)(hg:Gl X x)(hm:X.mg x=some (.ref f))(hk:PySem.W.keepIn X.K (.ref f)=true)(hb:Binds X.K fd ps ds)(hd:l3 dvs ds)(hx:wz CX X E)
  (ha:PA X (e::es) t) (hdb:(x==("__debug__" : Str))=false:=by decide) (he:starEach (e::es) X.env=(false,eval e X.env)::starEach es X.env:=by rfl) (hpl:(backTo pos (starEach es X.env)).any (·.1)=false:=by rfl) :
  PE X (.Call (.Name x p) (e::es) [] pos) (Id sp dvs E t):=by
 intro pins s σ H Q I h
 refine wpAny_Call_Name_kw (et I hg hm ?_ hdb)
 refine PySem.W.callWith_K (h₀:=X.base) I.ok.mod.kin hk (sX (ha pos pins s σ H _ I h) fun us s1 ⟨vs,H1,I1,r,q⟩=>⟨I1.kIn,?_⟩) he hpl
 exact zG F hr hb hd hx I1 r q
theorem kU {pl:Sem Bool} (he:PE X o ta) (c:wl X.K C) (hm:BU X.K C m f) (F:k6 X.prog X.w X.K X.mg X.base CX k f fd ps sp) (hr:sL k X.A) (hb:Binds X.K fd ps ds) (hd:l3 dvs ds) (hx:wz CX X E) (ha:PA X (e::es) t)
    (hst:starEach (e::es) X.env=(false,eval e X.env)::starEach es X.env:=by rfl) (hpl:(backTo pos (starEach es X.env)).any (·.1)=false:=by rfl)
    (ht:eval (.Call (.Attribute o m apos) (e::es) [] pos) X.env=(do
      let ov <- eval o X.env
      standAt apos.atName
      let (f,first) <- holding [ov] (getMethod ov m pl)
      callWith pos f first (backTo pos (starEach (e::es) X.env)) (backToKw pos (keywordEach [] X.env))):=by rfl) :
    PE X (.Call (.Attribute o m apos) (e::es) [] pos) (Gc C m sp dvs E ta t):=by
  intro pins s σ H Q I h
  refine PySem.W.methodCall_KW (pl:=pl) (sX (he pins s σ H _ I h) fun u s1 ⟨x,H1,I1,rx,a,dx,fs,ex,ea,l,q⟩=>?_) ht
  subst ex
  obtain rfl:u=Value.ref a:=rx
  refine xG I1 ea c hm l ?_
  refine PySem.W.callWith_K (first:=[.ref a]) (h₀:=X.base) I.ok.mod.kin hm.kp (sX (ha pos pins s1 σ H1 _ I1 q) fun us s2 ⟨vs,H2,I2,r,q2⟩=>⟨I2.kIn,?_⟩) hst hpl
  exact zG (us:=.ref a::us) (vs:=.ref a::vs) F hr hb hd hx I2 (.cons rfl r) q2
theorem iC {pl:Sem Bool} (he:PE X o ta) (c:wl X.K C) (hm:BU X.K C m f) (F:k6 X.prog X.w X.K X.mg X.base CX k f fd ps sp) (hr:sL k X.A) (hb:Binds X.K fd ps ds) (hd:l3 dvs ds) (hx:wz CX X E)
    (ht:eval (.Call (.Attribute o m apos) [] [] pos) X.env=(do
      let ov <- eval o X.env
      standAt apos.atName
      let (f,first) <- holding [ov] (getMethod ov m pl)
      callWith pos f first (backTo pos (starEach [] X.env)) (backToKw pos (keywordEach [] X.env))):=by rfl) :
    PE X (.Call (.Attribute o m apos) [] [] pos) (Gc C m sp dvs E ta K5):=by
  intro pins s σ H Q I h
  refine PySem.W.methodCall_KW (pl:=pl) (sX (he pins s σ H _ I h) fun u s1 ⟨x,H1,I1,rx,a,dx,fs,ex,ea,l,q⟩=>?_) ht
  subst ex
  obtain rfl:u=Value.ref a:=rx
  refine xG I1 ea c hm l ?_
  exact PySem.W.callWith_K0 (first:=[.ref a]) I1.kIn hm.kp (zG (us:=[.ref a]) (vs:=[.ref a]) F hr hb hd hx I1 (.cons rfl .nil) q)
structure Mk (K:PySem.W.Frag) (C f:Addr):Prop where
 makes:PySem.W.makesIn K C=true
 init:PySem.W.findIn K (.ref C) "__init__" = some (some (.ref f))
 fn:PySem.W.isFn K (.ref f)=true
 kp:PySem.W.keepIn K (.ref C)=true
theorem Gx{pins:List (Addr×Obj)}{σ:St}{H:Hp}{s:Shared}{Q:VK}{us:List Value}{vs:List V}(M:Mk X.K C f)(F:k6 X.prog X.w X.K X.mg X.base CX k f fd ps sp)(hr:sL (k+1) X.A)(hb:Binds X.K fd ps ds)(hd:l3 dvs ds)
  (hx:wz CX X E) (I:Inv X pins σ H s) (r:l3 vs us)
  (h:∀x dx,H x=none->H dx=none->dx≠x->sp (.ref x::(vs++dvs)) (upd (upd H dx (.own x)) x (.ins C dx [])) (fun v H2=>v=.non/\Q (.ref x) H2) E) :
  wpAny (model X.prog X.w) X.A (call (.ref C) us) (EP X pins σ Q) X.xe s:=by
 have hq:=h (s.heap.objs.size+1) s.heap.objs.size (I.hok.fresh (Nat.le_succ _)) (I.hok.fresh (Nat.le_refl _)) (Nat.ne_of_lt (Nat.lt_succ_self _))
 have I2:=Inv.made (C:=C) I
 have r2:l3 (V.ref (s.heap.objs.size+1)::(vs++dvs)) (Value.ref (s.heap.objs.size+1)::(us++ds)):=.cons rfl (r.append hd)
 have hl:(Value.ref (s.heap.objs.size+1)::us++ds).length=ps.length:=by
  have e:=r2.length
  rw[F.len _ _ _ _ hq] at e
  exact e.symm
 refine wpAny_call (Gj (f:=f) I.kIn M.makes M.init (beq_iff_eq.mp M.fn) (codeAny_mono (F.run _ X.stack _ _ ⟨Value.ref (s.heap.objs.size+1)::us,[]⟩ (Value.ref (s.heap.objs.size+1)::(us++ds)) _ _ E (hr.make C us [])
  (I2.env0.make C us []) (hb _ (Value.ref (s.heap.objs.size+1)::us) I2.kIn hl) r2 hq) fun r s' hq'=>?_))
 cases r with
 | error e=>exact hx pins σ _ _ e s' I2 hq'
 | ok fl =>
  cases fl with
  | ret u =>
   obtain⟨v,H',I3,rv,ev,q3⟩:=I2.after hq'
   subst ev
   exact⟨rv,⟨V.ref (s.heap.objs.size+1),H',I3,rfl,q3⟩⟩
  | next=>exact False.elim hq'
  | brk=>exact False.elim hq'
  | cont=>exact False.elim hq'
theorem om(M:Mk X.K C f)(F:k6 X.prog X.w X.K X.mg X.base CX k f fd ps sp)(hr:sL (k+1) X.A)(hg:Gl X x)(hm:X.mg x=some (.ref C))(hb:Binds X.K fd ps ds)(hd:l3 dvs ds)(hx:wz CX X E)
  (ha:PA X (e::es) t) (hdb:(x==("__debug__" : Str))=false:=by decide) (he:starEach (e::es) X.env=(false,eval e X.env)::starEach es X.env:=by rfl) (hpl:(backTo pos (starEach es X.env)).any (·.1)=false:=by rfl) :
  PE X (.Call (.Name x p) (e::es) [] pos) (Ic C sp dvs E t):=by
 intro pins s σ H Q I h
 refine wpAny_Call_Name_kw (et I hg hm ?_ hdb)
 refine PySem.W.callWith_K (h₀:=X.base) I.ok.mod.kin M.kp (sX (ha pos pins s σ H _ I h) fun us s1 ⟨vs,H1,I1,r,q⟩=>⟨I1.kIn,?_⟩) he hpl
 exact Gx M F hr hb hd hx I1 r q
end
section
variable{X:Cx}{CX:BK}{k:Nat}{f C:Addr}{fd:FuncData}{ps ks:List Str}{sp:Sp}{E:XK}{x m:Str}{p pos apos kpos:Pos}{e o:Expr}{es:List Expr}{kws:List Keyword}{te ta:TE}{t tk:TA}{nm:Option Str}
variable{g:List Value->List Value->List Value}{gV:List V->List V->List V}
end
structure c9 (N P:List Str) (sc:Scope):Prop where
 kind:sc.kind=.function
 co:sc.isCoroutine=false
 gen:sc.isGenerator=false
 nd:N.Nodup
 pre:N.take P.length=P
 par:∀x∈P,sc.names.lookup x=some .local\/sc.names.lookup x=some .cell
 nofree:∀y∈sc.names,y.2≠.free
theorem tN{N P:List Str}{sc:Scope}(h1:N.Nodup:=by decide +kernel)(h2:∀x∈P,sc.names.lookup x=some .local\/sc.names.lookup x=some .cell:=by decide +kernel)(h3:∀y∈sc.names,y.2≠.free:=by decide +kernel)(k:sc.kind=.function:=by rfl)(c:sc.isCoroutine=false:=by rfl)(g:sc.isGenerator=false:=by rfl)(p:N.take P.length=P:=by rfl):c9 N P sc:=⟨k,c,g,h1,p,h2,h3⟩
theorem AC{kindOf:Str->Option NameKind}{x:Str}:∀{binds:List (Str×Value)} {m:Str->Option Value},(∀v,(x,v)∉binds)->bindL kindOf binds m x=m x
 | [],_,_=>rfl
 | (n,v)::r,m,h=>by
  unfold bindL
  rw[AC fun w hw=>h w (List.mem_cons_of_mem _ hw)]
  split
  ·have:x≠n:=by rintro rfl;exact h v List.mem_cons_self
   simp[this]
  ·rfl
theorem Ak{kindOf:Str->Option NameKind}{x:Str}:∀{binds:List (Str×Value)} {m:Str->Option Value},(∀v,(x,v)∉binds)->bindC kindOf binds m x=m x
 | [],_,_=>rfl
 | (n,v)::r,m,h=>by
  unfold bindC
  rw[Ak fun w hw=>h w (List.mem_cons_of_mem _ hw)]
  split
  ·rfl
  ·have:x≠n:=by rintro rfl;exact h v List.mem_cons_self
   simp[this]
theorem Av{kindOf:Str->Option NameKind}{x:Str}{v:Value}:∀{P:List Str} {vs:List Value} {i:Nat} {m:Str->Option Value},P.Nodup->P[i]?=some x->vs[i]?=some v->kindOf x=some .local ->
  bindL kindOf (P.zip vs) m x=some v
 | [],_,_,_,_,h,_,_=>by simp at h
 | _::_,[],_,_,_,_,h,_=>by simp at h
 | p::P,w::vs,0,m,nd,h1,h2,hk=>by
  simp at h1 h2;subst h1;subst h2
  show bindL kindOf ((p,w)::P.zip vs) m p=_
  unfold bindL
  rw[AC fun v hv=>(List.nodup_cons.mp nd).1 (List.of_mem_zip hv).1,if_pos hk]
  simp
 | p::P,w::vs,i+1,m,nd,h1,h2,hk=>by
  show bindL kindOf ((p,w)::P.zip vs) m x=_
  unfold bindL
  exact Av (i:=i) (List.nodup_cons.mp nd).2 (by simpa using h1) (by simpa using h2) hk
theorem AA{kindOf:Str->Option NameKind}{x:Str}{v:Value}:∀{P:List Str} {vs:List Value} {i:Nat} {m:Str->Option Value},P.Nodup->P[i]?=some x->vs[i]?=some v->kindOf x≠some .local ->
  bindC kindOf (P.zip vs) m x=some v
 | [],_,_,_,_,h,_,_=>by simp at h
 | _::_,[],_,_,_,_,h,_=>by simp at h
 | p::P,w::vs,0,m,nd,h1,h2,hk=>by
  simp at h1 h2;subst h1;subst h2
  show bindC kindOf ((p,w)::P.zip vs) m p=_
  unfold bindC
  rw[Ak fun v hv=>(List.nodup_cons.mp nd).1 (List.of_mem_zip hv).1,if_neg hk]
  simp
 | p::P,w::vs,i+1,m,nd,h1,h2,hk=>by
  show bindC kindOf ((p,w)::P.zip vs) m x=_
  unfold bindC
  exact AA (i:=i) (List.nodup_cons.mp nd).2 (by simpa using h1) (by simpa using h2) hk
def start(N:List Str)(vs:List V):St:=vs.map some++List.replicate (N.length - vs.length) none
noncomputable def wt(CX:BK)(P:Program)(w:World)(K:PySem.W.Frag)(mg:Str->Option Value)(base:Heap)(N:List Str)(qual:Str)(scope:Scope)(f:Addr)(cd:Value)(A:Around)(outer:List Env)(s:Shared)(H:Hp)(E:XK):Cx where
 prog:=P
 w:=w
 K:=K
 mg:=mg
 base:=base
 A:=A.deeper (envOfC qual scope s.heap.objs.size f cd)
 N:=N
 s₀:=s
 H₀:=H
 env:=envOfC qual scope s.heap.objs.size f cd
 outer:=outer
 stack:=envOfC qual scope s.heap.objs.size f cd::outer
 ex:=[]
 calm:=true
 fn:=fun _=>true
 pn:=[]
 xe:=fun e s'=>wpAny (model P w) (A.deeper (envOfC qual scope s.heap.objs.size f cd)) (leaving (envOfC qual scope s.heap.objs.size f cd) e) (fun _ s''=>CX outer H s E e s'') (fun e' s''=>CX outer H s E e' s'') s'
theorem Ca{sc:Scope}{n:Nat}{x:Str}(h:sc.names.lookup x=some .cell):∃c,(cellsFrom n sc.names []).lookup x=some c:=by
 have q:=PySem.W.cellsFrom_some sc.names n [] (.inl h)
 exact Option.isSome_iff_exists.mp q
theorem Eh{CX:BK}{P:Program}{w:World}{K:PySem.W.Frag}{mg:Str->Option Value}{base:Heap}{N ps:List Str}{qual:Str}{scope:Scope}{f:Addr}{cd:Value}{A:Around}{outer:List Env}{s s1:Shared}{H:Hp}{E:XK}{us:List Value}{vs:List V}
  (S:c9 N ps scope) (hd:A.handled=none) (e0:yB P w K mg base A outer s H) (hl:vs.length=ps.length) (r:l3 vs us)
  (x:InCallC s s.heap.objs.size (bindL (envOfC qual scope s.heap.objs.size f cd).kindOf (ps.zip us) fun _=>none) (cellsFrom (s.heap.objs.size+1) scope.names []) (bindC (envOfC qual scope s.heap.objs.size f cd).kindOf (ps.zip us) fun _=>none) s1) :
  Inv (wt CX P w K mg base N qual scope f cd A outer s H E) [] (start N vs) H s1:=by
 have hpl:ps.length<=N.length:=by have:=congrArg List.length S.pre;rw[List.length_take] at this;omega
 obtain⟨h1,tk,rfl,hk⟩:=x.done
 have noA:∀b:Addr,b∉(wt CX P w K mg base N qual scope f cd A outer s H E).ex:=fun b z=>absurd (show b∈([]:List Addr) from z) (by simp)
 refine⟨⟨e0.mod,S.kind,rfl,rfl,Nat.le_refl _,fun y z c h1 h2=>?_,fun y hy=>?_,fun y c _ h=>?_,fun _=>hd,Around.frames_deeper e0.frames,.inr ⟨rfl,rfl⟩,fun b z=>absurd z (noA b),e0.bs,e0.bsz,fun b _ _=>noA b,fun b z=>absurd z (noA b),e0.funs,e0.frf⟩,
  rfl,e0.bare,Un.kept hk,⟨_,x.toInCall.ns,fun i y v h1 h2 h3=>?_⟩,fun y c h=>⟨_,x.cell y c h⟩,e0.hok.fresh (Nat.le_refl _),fun y c h=>?_,fun p hp=>absurd (show p∈([]:List (Addr×Obj)) from hp) (by simp),e0.hok.kept hk,?_⟩
 ·exact name_of_addr x.apart (PySem.mem_of_lookup h1) (PySem.mem_of_lookup h2)
 ·have hy:scope.names.lookup y=some .cell\/scope.names.lookup y=some .free:=hy
  rcases hy with hy | hy
  ·exact Ca hy
  ·exact absurd rfl (S.nofree _ (PySem.mem_of_lookup hy))
 ·exact Nat.le_of_lt (x.above y c (PySem.mem_of_lookup h))
 ·have hi:i<vs.length:=by
   unfold start at h2
   by_cases hi:i<vs.length
   ·exact hi
   ·rw[List.getElem?_append_right (by simpa using hi)] at h2
    rw[List.getElem?_replicate] at h2
    split at h2<;>cases h2
  have ha:vs[i]?=some v:=by
   unfold start at h2
   rw[List.getElem?_append_left (by simpa using hi),List.getElem?_map] at h2
   cases e:vs[i]? with
   | none=>rw[e] at h2;cases h2
   | some a=>rw[e] at h2;cases h2;rfl
  obtain⟨u,hu,rv⟩:=r.get ha
  have hp:ps[i]?=some y:=by
   rw[<- S.pre,List.getElem?_take_of_lt (by omega)];exact h1
  have ndP:ps.Nodup:=by rw[<- S.pre];exact S.nd.sublist (List.take_sublist _ _)
  refine⟨u,rv,?_⟩
  rcases S.par y (List.mem_of_getElem? hp) with k | k
  ·exact .inl ⟨k,Av ndP hp hu k⟩
  ·obtain⟨c,e⟩:=Ca (n:=s.heap.objs.size+1) k
   refine .inr ⟨.inl k,c,e,?_⟩
   have q:=x.cell y c e
   rw[AA ndP hp hu (by show scope.names.lookup y≠_;rw[k];decide)] at q
   exact q
 ·exact e0.hok.fresh (Nat.le_of_lt (x.above y c (PySem.mem_of_lookup h)))
 ·unfold start
  show _=N.length
  rw[List.length_append,List.length_map,List.length_replicate]
  omega
theorem pO {CX:BK} {P:Program} {w:World} {K:PySem.W.Frag} {mg:Str->Option Value} {base:Heap} {k:Nat} {f:Addr} {name qual:Str} {params:Arguments} {body:List Stmt} {scope:Scope} {dV kV doc pm cdv ct oc:Value} {an od:Option Addr}
    {osl:Array (Option Value)} {N ps:List Str} {sp:Sp} (lk:K.lookup f=some ⟨oc,od,.func (PySem.W.fnOf name qual params body scope dV kV doc pm an cdv ct),osl⟩) (hcd:PySem.W.codeIn K cdv qual=true) (S:c9 N ps scope)
    (len:∀vs H Q E,sp vs H Q E->vs.length=ps.length)
    (hbody:∀(A:Around) (outer:List Env) (s:Shared) (H:Hp) (vs:List V) (Q:VK) (E:XK),sL k (A.deeper (envOfC qual scope s.heap.objs.size f cdv))->sp vs H Q E ->
      ∃t,PSs (wt CX P w K mg base N qual scope f cdv A outer s H E) body t/\t {nx:=fun _ H'=>Q .non H',rt:=Q} (start N vs) H) :
    k6 P w K mg base CX (k+1) f (PySem.W.fnOf name qual params body scope dV kV doc pm an cdv ct) ps sp:=by
  refine⟨len,fun A outer s H args us vs Q E hr e0 hb r hsp=>?_⟩
  have hl:=len _ _ _ _ hsp
  have KX:K.In s.heap:=e0.mod.kin.keeps fun b o e=>(e0.bs b o e).1
  have lim:s.heap.NoLimit:=e0.mod.nolimit.keeps fun b o e=>(e0.bs b o e).1
  have hkind:∀y∈ps.zip us,scope.names.lookup y.1=some .local\/(scope.names.lookup y.1=some .cell/\((cellsFrom (s.heap.objs.size+1) scope.names []).lookup y.1).isSome=true):=fun ⟨n,v⟩ hy=>by
    rcases S.par n (List.of_mem_zip hy).1 with q | q
    · exact .inl q
    · exact .inr ⟨q,PySem.W.cellsFrom_some _ _ _ (.inl q)⟩
  refine codeAny_call_function hr.depth (KX _ _ lk) rfl S.co S.gen rfl (PySem.W.codeRec_of KX hcd) (hb _ _ _ _ ?_)
  refine wpAny_newFunctionEnv_cells S.kind hkind fun env he s1 x=>?_
  subst he
  refine⟨lim.keeps x.toInCall.keep,codeAny_func ?_⟩
  obtain⟨t,ht,hq⟩:=hbody A outer s H vs Q E (hr.deeper _) hsp
  have I:Inv (wt CX P w K mg base N qual scope f cdv A outer s H E) [] (start N vs) H s1:=Eh S hr.hd e0 hl r x
  refine wpAny_mono (ht [] s1 (start N vs) H _ I hq) (fun fl s' hs=>?_) fun e s' hs=>hs
  have fin:∀{σ':St} {H':Hp} {v:V} {u:Value},Inv (wt CX P w K mg base N qual scope f cdv A outer s H E) [] σ' H' s'->RelV v u->Q v H'->CE outer P w H s Q u s':=
    fun {σ' H' v u} J rv q=>⟨v,H',J.os,J.bare,J.base,J.hok,rv,q⟩
  cases fl with
  | ret u =>
    obtain⟨v,σ',H',J,rv,q⟩:=hs
    exact fin J rv q
  | next =>
    obtain⟨σ',H',J,q⟩:=hs
    exact fin (v:=V.non) (u:=Value.none) J rfl q
  | brk =>
    obtain⟨_,_,_,q⟩:=hs
    exact False.elim q
  | cont =>
    obtain⟨_,_,_,q⟩:=hs
    exact False.elim q
end L2
namespace L2
open PySem PySem.Spec PyProof.Rows
section
variable{X:Cx}{x:Str}{p pos:Pos}{e:Expr}{es:List Expr}{t:TA}{id T:String}{r:List V->Hp->VK->Prop}
def NQ(r:List V->Hp->VK->Prop)(t:TA):TE:=fun σ H Q=>t σ H fun vs H1=>r vs H1 Q
theorem pB(hc:CallR X (.builtin id) r)(hg:Gl X x)(hm:X.mg x=none)(hv:bootBuiltins x=some (.builtin id))(ha:PA X (e::es) t)(hn:x ≠ "__name__":=by decide)(hdb:(x==("__debug__" : Str))=false:=by decide)
  (he:starEach (e::es) X.env=(false,eval e X.env)::starEach es X.env:=by rfl) (hpl:(backTo pos (starEach es X.env)).any (·.1)=false:=by rfl):PE X (.Call (.Name x p) (e::es) [] pos) (NQ r t):=by
 intro pins s σ H Q I h
 refine wpAny_Call_Name_kw (eY I hg hm hv ?_ hn hdb)
 exact PyProof.Rows.callWith_builtin1 (sX (ha pos pins s σ H _ I h) fun us s1 ⟨vs,H1,I1,r1,q1⟩=>hc pins s1 σ H1 vs us Q I1 r1 q1) he hpl
theorem oQ(hc:CallR X (.type T) r)(hg:Gl X x)(hm:X.mg x=none)(hv:bootBuiltins x=some (.type T))(ha:PA X (e::es) t)(hn:x ≠ "__name__":=by decide)(hdb:(x==("__debug__" : Str))=false:=by decide)
  (he:starEach (e::es) X.env=(false,eval e X.env)::starEach es X.env:=by rfl) (hpl:(backTo pos (starEach es X.env)).any (·.1)=false:=by rfl):PE X (.Call (.Name x p) (e::es) [] pos) (NQ r t):=by
 intro pins s σ H Q I h
 refine wpAny_Call_Name_kw (eY I hg hm hv ?_ hn hdb)
 exact PyProof.Rows.callWith_type1 (sX (ha pos pins s σ H _ I h) fun us s1 ⟨vs,H1,I1,r1,q1⟩=>hc pins s1 σ H1 vs us Q I1 r1 q1) he hpl
end
end L2
namespace HT
open PySem PyProof.Rows
section
open PySem.SeqAt
open PySem.AutoSeq1 (wpAny_loadPart')
open PySem.MeetsSeq PySem.MeetsSeq2 PySem.MeetsSeq3
end
section
variable{prog:Program}{w:World}{A:Around}{E:Value->Shared->Prop}{s:Shared}
theorem cat_tup{t b:Addr}{vs ws:List Value}{Q:Value->Shared->Prop}(ht:IsTup s.heap t vs.toArray)(hb:IsTup s.heap b ws.toArray)(hv:vs ≠ [])
  (h1:ws=[]->Q (.ref t) s) (h2:ws ≠ []->Q (.ref s.heap.objs.size) {s with heap:=s.heap.push {cls:=.type "tuple",data:=.seq (vs++ws).toArray} })
  (hsz:vs.length+ws.length<=sizeLine):wpAny (model prog w) A (binaryOp .Add (.ref t) (.ref b)) Q E s:=by
 obtain⟨⟨cls,dd,data,sl⟩,ho,hc,n,hd⟩:=id ht
 obtain⟨⟨cls2,dd2,data2,sl2⟩,ho2,hc2,n2,hd2⟩:=id hb
 simp only at hc hd hc2 hd2
 subst hc hd hc2 hd2
 have e:vs.toArray++ws.toArray=(vs++ws).toArray:=by simp
 by_cases hw:ws=[]
 ·exact concat_meets ⟨_,ho,rfl⟩ ⟨_,ho2,rfl⟩ noFill_tuple_add seq_tuple_add PySem.F.slot_tuple_add PySem.F.entry_tuple_add (PySem.F.args_tuple_add_2 _ _)
   (tuple_addW1 t b vs.toArray ws.toArray n n2 dd dd2 sl sl2 (by simpa using hv) (by simp[hw])) ⟨ho,ho2,h1 hw⟩
 ·refine concat_meets ⟨_,ho,rfl⟩ ⟨_,ho2,rfl⟩ noFill_tuple_add seq_tuple_add PySem.F.slot_tuple_add PySem.F.entry_tuple_add (PySem.F.args_tuple_add_2 _ _)
   (tuple_addW2 t b vs.toArray ws.toArray n n2 dd dd2 sl sl2 (by simpa using hv) (by simpa using hw) (by rw[List.size_toArray,List.size_toArray];exact hsz)) ⟨ho,ho2,?_⟩
  rw[e]
  exact h2 hw
noncomputable def sIx(n d:Nat):Option Int->Nat
 | none=>d
 | some v=>if v<0 then (v+(n:Int)).toNat else min v.toNat n
theorem Jo(n d:Nat)(hd:d<=n)(o:Option Int):sIx n d o<=n:=by
 cases o with
 | none=>exact hd
 | some v =>
  show(if v<0 then (v+(n:Int)).toNat else min v.toNat n)<=n
  by_cases hv:v<0
  ·rw[if_pos hv];omega
  ·rw[if_neg hv];exact Nat.min_le_right _ _
theorem D2(v:Int)(n d:Nat):(if v<0 then max (v+(n:Int)) 0 else min v (n:Int))=((sIx n d (some v):Nat):Int):=by
 show(if v<0 then max (v+(n:Int)) 0 else min v (n:Int))=(((if v<0 then (v+(n:Int)).toNat else min v.toNat n):Nat):Int)
 by_cases hv:v<0
 ·simp only[if_pos hv];omega
 ·simp only[if_neg hv];omega
theorem C5(lo hi:Option Int)(n:Nat):Builtin.Slice.sliceAdjust lo hi 1 (n:Int)=(((sIx n 0 lo:Nat):Int),((sIx n n hi:Nat):Int)):=by
 have h1:¬ ((1:Int)<0):=by omega
 unfold Builtin.Slice.sliceAdjust
 simp only[h1,if_false]
 refine Prod.ext ?_ ?_
 ·cases lo with
  | none=>rfl
  | some v=>exact D2 v n 0
 ·cases hi with
  | none=>rfl
  | some v=>exact D2 v n n
theorem CP(i j:Nat):Builtin.Slice.slicePlaces (i:Int) (j:Int) 1=j - i:=by
 unfold Builtin.Slice.slicePlaces
 have h1:(1:Int) > 0:=by omega
 simp only[h1,if_true,Int.ediv_one]
 split<;>omega
theorem zF{v:Value}{o:Option Int}{Q:Option Int->Shared->Prop}(p:IsPart v o)(h:Q o s):wpAny (model prog w) A (Builtin.Slice.slicePartIndex v) Q E s:=by
 cases p with
 | none=>exact slicePart_none h
 | int i t=>exact slicePart_int h
theorem sliceApplied_gen{sl:Addr}{vl vu:Value}{lo hi:Option Int}{n:Nat}{Q:Int×Int×Nat->Shared->Prop}(hs:s.heap.IsSliceOf sl vl vu .none)(pl:IsPart vl lo)(pu:IsPart vu hi)
  (h:Q (((sIx n 0 lo:Nat):Int),1,sIx n n hi - sIx n 0 lo) s):wpAny (model prog w) A (Builtin.Slice.sliceApplied (.ref sl) (pure (n:Int))) Q E s:=by
 obtain⟨os,hos,hcs,hds⟩:=id hs
 unfold Builtin.Slice.sliceApplied Builtin.Slice.sliceFields
 refine wpAny_bind (wpAny_bind (wpAny_field hos hds (x:=vl) rfl (wpAny_bind (wpAny_field hos hds (x:=vu) rfl (wpAny_bind (wpAny_field hos hds (x:=.none) rfl (wpAny_pure ?_)))))))
 refine wpAny_bind (slicePart_none ?_)
 show wpAny _ _ (if ((1:Int)==0)=true then _ else _) _ _ s
 rw[if_neg (by decide)]
 refine wpAny_bind (zF pl (wpAny_bind (zF pu (wpAny_bind (wpAny_pure ?_)))))
 show wpAny _ _ (match Builtin.Slice.sliceAdjust lo hi 1 (n:Int) with | (lo,hi)=>pure (lo,(1:Int),Builtin.Slice.slicePlaces lo hi 1)) _ _ s
 rw[C5 lo hi n]
 show wpAny _ _ (pure (((sIx n 0 lo:Nat):Int),(1:Int),Builtin.Slice.slicePlaces ((sIx n 0 lo:Nat):Int) ((sIx n n hi:Nat):Int) 1)) _ _ s
 rw[CP]
 exact wpAny_pure h
theorem Fx(xs:Array Value)(i k:Nat):((List.range k).filterMap fun (m:Nat)=>xs[((i:Int)+(m:Int)*1).toNat]?).toArray=((xs.toList.drop i).take k).toArray:=by
 have e:(fun (m:Nat)=>xs[((i:Int)+(m:Int)*1).toNat]?)=fun m=>xs[i+m]?:=by
  funext m
  have:((i:Int)+(m:Int)*1).toNat=i+m:=by omega
  rw[this]
 rw[e]
 have:=pick_run xs i k
 rw[List.filterMap_map] at this
 have e2:((fun x=>xs[x]?) ∘ fun x=>i+x)=fun m=>xs[i+m]?:=rfl
 rw[e2] at this
 rw[this]
theorem getItem_tuple_cut{t sl:Addr}{items:Array Value}{vl vu:Value}{lo hi:Option Int}{Q:Value->Shared->Prop}(ht:IsTup s.heap t items)(hs:s.heap.IsSliceOf sl vl vu .none)(pl:IsPart vl lo)(pu:IsPart vu hi)
  (hw:¬ (sIx items.size 0 lo=0/\sIx items.size items.size hi=items.size))
  (h:Q (.ref s.heap.objs.size) {s with heap:=s.heap.push {cls:=.type "tuple",data:=.seq ((items.toList.drop (sIx items.size 0 lo)).take (sIx items.size items.size hi - sIx items.size 0 lo)).toArray} })
  (hsz:items.size<=sizeLine):wpAny (model prog w) A (getItem (.ref t) (.ref sl)) Q E s:=by
 have htake:sizeOk (.seq ((items.toList.drop (sIx items.size 0 lo)).take (sIx items.size items.size hi - sIx items.size 0 lo)).toArray):=by
  show((items.toList.drop (sIx items.size 0 lo)).take (sIx items.size items.size hi - sIx items.size 0 lo)).toArray.size<=sizeLine
  rw[List.size_toArray,List.length_take,List.length_drop,Array.length_toList]
  omega
 have hj:sIx items.size items.size hi<=items.size:=Jo _ _ (Nat.le_refl _) hi
 obtain⟨os,hos,hcs,hds⟩:=id hs
 have hTs:s.TypeIs (.ref sl) "slice":=⟨os,hos,hcs⟩
 unfold getItem
 try with_reducible refine wpAny_holding ?_
 first | refine wpAny_bind (wpAny_pure ?_) | skip
 refine wpAny_bind (wpAny_sequenceKey ht.typeIs (by decide) ?_)
 refine wpAny_bind (wpAny_callSpecial?_slot (name:=Str.ofString "__getitem__") ht.typeIs PyProof.Rows.slot_tuple_getitem
  (wpAny_call_entry PyProof.Rows.slot_tuple_getitem ht.typeIs entry_tuple_getitem ?_ (args_tuple_getitem _ _)))
 show wpAny _ _ (Builtin.Tuple.tupleItemsOf (.ref t) >>= _) _ _ s
 refine wpAny_bind (tupleItemsOf_ ht ?_)
 refine wpAny_bind (wpAny_typeOf hTs ?_)
 rw[if_pos (by decide)]
 refine wpAny_bind (sliceApplied_gen hs pl pu ?_)
 have hno:¬ ((((sIx items.size 0 lo:Nat):Int)==0&&(1:Int)==1&&(sIx items.size items.size hi - sIx items.size 0 lo)==items.size)=true):=by
  intro q
  rw[Bool.and_eq_true,Bool.and_eq_true] at q
  have q1:((sIx items.size 0 lo:Nat):Int)=0:=eq_of_beq q.1.1
  have q2:sIx items.size items.size hi - sIx items.size 0 lo=items.size:=eq_of_beq q.2
  exact hw ⟨by omega,by omega⟩
 show wpAny _ _ (if (((sIx items.size 0 lo:Nat):Int)==0&&(1:Int)==1&&(sIx items.size items.size hi - sIx items.size 0 lo)==items.size)=true then _ else _) _ _ s
 rw[if_neg hno,Fx]
 first
  | exact wpAny_bind (m:=Builtin.Tuple.tupleExact _) (wpAny_newObj_type (wpAny_pure ⟨_,rfl,wpAny_pure h⟩) htake)
  | exact wpAny_bind (m:=Builtin.Tuple.tupleExact _) (wpAny_newObj_type (wpAny_bind (wpAny_pure (wpAny_pure ⟨_,rfl,wpAny_pure h⟩))) htake)
  | exact wpAny_bind (wpAny_bind (m:=Builtin.Tuple.tupleExact _) (wpAny_newObj_type (wpAny_pure (wpAny_pure ⟨_,rfl,wpAny_pure h⟩)) htake))
  | exact wpAny_bind (wpAny_bind (m:=Builtin.Tuple.tupleExact _) (wpAny_newObj_type (wpAny_pure ⟨_,rfl,wpAny_pure h⟩) htake))
end
end HT
namespace L2
open PySem PySem.Spec PyProof.Rows
abbrev TO:=St->Hp->(Option Int->Hp->Prop)->Prop
def PO(X:Cx)(e:Option Expr)(t:TO):Prop:=
 ∀(pins:List (Addr×Obj)) (s:Shared) (σ:St) (H:Hp) (Q:Option Int->Hp->Prop),Inv X pins σ H s->t σ H Q ->
  wpAny (model X.prog X.w) X.A (evalPart e X.env) (fun u s'=>∃o H',Inv X pins σ H' s'/\IsPart u o/\Q o H') X.xe s
def GO:TO:=fun _ H Q=>Q none H
def KJ(t:TE):TO:=fun σ H Q=>t σ H fun x H1=>∃i,x=.int i/\Q (some i) H1
section
variable{X:Cx}{e:Expr}{te:TE}{lo hi:Option Expr}{tl th:TO}{pos p2:Pos}
theorem G6:PO X none GO:=by
 intro pins s σ H Q I h
 rw[evalPart_none]
 exact wpAny_pure ⟨none,H,I,.none,h⟩
theorem GX(h:PE X e te):PO X (some e) (KJ te):=by
 intro pins s σ H Q I hw
 rw[evalPart_some]
 refine sX (h pins s σ H _ I hw) fun u s1 ⟨x,H1,I1,r1,q1⟩=>?_
 obtain⟨i,rfl,q⟩:=q1
 obtain⟨t,rfl⟩:=r1
 exact⟨some i,H1,I1,.int i t,q⟩
def Iw(X:Cx)(r:V->Option Int->Option Int->Hp->VK->Prop):Prop:=
 ∀(pins:List (Addr×Obj)) (s:Shared) (σ:St) (H:Hp) (x:V) (v vl vu:Value) (lo hi:Option Int) (sl:Addr) (Q:VK),Inv X pins σ H s->RelV x v->s.heap.IsSliceOf sl vl vu .none->IsPart vl lo->IsPart vu hi->r x lo hi H Q ->
  ∃T id,typeLookup (.type T) "__getitem__" = pure (some (.builtin id))/\s.TypeIs v T/\wpAny (model X.prog X.w) X.A (getItem v (.ref sl)) (EP X pins σ Q) X.xe s
theorem Iw.or{r r':V->Option Int->Option Int->Hp->VK->Prop}(h:Iw X r)(h':Iw X r'):Iw X (fun x lo hi H Q=>r x lo hi H Q\/r' x lo hi H Q):=by
 intro pins s σ H x v vl vu lo hi sl Q I rx hs pl pu q
 rcases q with q | q
 ·exact h pins s σ H x v vl vu lo hi sl Q I rx hs pl pu q
 ·exact h' pins s σ H x v vl vu lo hi sl Q I rx hs pl pu q
def N_(r:V->Option Int->Option Int->Hp->VK->Prop)(te:TE)(tl th:TO):TE:=fun σ H Q=>te σ H fun x H1=>tl σ H1 fun l H2=>th σ H2 fun u H3=>r x l u H3 Q
theorem pI{r:V->Option Int->Option Int->Hp->VK->Prop}(hr:Iw X r)(he:PE X e te)(hl:PO X lo tl)(hu:PO X hi th):PE X (.Subscript e (.Slice lo hi none p2) pos) (N_ r te tl th):=by
 intro pins s σ H Q I h
 refine Subscript_ (sX (he pins s σ H _ I h) fun v s1 ⟨x,H1,I1,r1,q1⟩=>?_)
 refine wpAny_Slice (sX (hl pins s1 σ H1 _ I1 q1) fun vl s2 ⟨l,H2,I2,pl,q2⟩=>sX (hu pins s2 σ H2 _ I2 q2) fun vu s3 ⟨u,H3,I3,pu,q3⟩=>?_)
 rw[evalPart_none]
 refine wpAny_pure ?_
 have I4:Inv X pins σ H3 {s3 with heap:=s3.heap.push {cls:=.type "slice",data:=.fields #[vl,vu,.none]} }:=I3.kept (t':=s3.toks) fun b ob q=>Heap.get?_push_of_some _ q
 obtain⟨T,id,hT,ht,hg⟩:=hr pins {s3 with heap:=s3.heap.push {cls:=.type "slice",data:=.fields #[vl,vu,.none]} } σ H3 x v vl vu l u s3.heap.objs.size Q I4 r1 (Heap.IsSliceOf.new ..) pl pu q3
 show wpAny (model X.prog X.w) X.A (subscriptTail e (.Slice lo hi none p2) v (.ref s3.heap.objs.size)) (EP X pins σ Q) X.xe {s3 with heap:=s3.heap.push {cls:=.type "slice",data:=.fields #[vl,vu,.none]} }
 exact tail_any (ops:=[.ref s3.heap.objs.size,v]) ht hT hg (by with_unfolding_all rfl)
def y7(xs:List V)(lo hi:Option Int):List V:=(xs.drop (HT.sIx xs.length 0 lo)).take (HT.sIx xs.length xs.length hi - HT.sIx xs.length 0 lo)
theorem yX(xs:List V)(lo hi:Option Int):(y7 xs lo hi).length<=xs.length:=by
 unfold y7
 rw[List.length_take,List.length_drop]
 omega
def MQ(K:PySem.W.Frag):V->Option Int->Option Int->Hp->VK->Prop:=fun x lo hi H Q=>∃a xs,x=.ref a/\vC K H a xs /\
 ¬ (HT.sIx xs.length 0 lo=0/\HT.sIx xs.length xs.length hi=xs.length)/\∀p,H p=none->Q (.ref p) (upd H p (.tup (y7 xs lo hi)))
theorem JA:Iw X (MQ X.K):=by
 intro pins s σ H x v vl vu lo hi sl Q I rx hs pl pu h
 obtain⟨a,xs,rfl,hx,hw,q⟩:=h
 cases rx
 obtain⟨its,r,ht,hz⟩:=I.tuple hx
 have hlen:its.toArray.size=xs.length:=by rw[List.size_toArray];exact r.length.symm
 refine⟨"tuple",_,PyProof.Rows.slot_tuple_getitem.lookup,ht.typeIs,?_⟩
 refine HT.getItem_tuple_cut ht hs pl pu (by rw[hlen];exact hw) ?_ (by rw[hlen];exact hz)
 rw[hlen]
 refine⟨.ref s.heap.objs.size,_,I.laid (t':=s.toks) (o:=.tup (y7 xs lo hi)) (fun b ob q=>Heap.get?_push_of_some _ q) (Nat.le_refl _) ?_,rfl,q _ (I.hok.fresh (Nat.le_refl _))⟩
 exact⟨Nat.le_trans (yX xs lo hi) hz,_,(r.drop (HT.sIx xs.length 0 lo)).take (HT.sIx xs.length xs.length hi - HT.sIx xs.length 0 lo),vG.new _ _⟩
def La(K:PySem.W.Frag):R2:=fun x y H Q=>∃a b xs ys,x=.ref a/\y=.ref b/\vC K H a xs/\vC K H b ys/\xs ≠ []/\xs.length+ys.length<=sizeLine /\
 (ys=[]->Q (.ref a) H)/\(ys ≠ []->∀p,H p=none->Q (.ref p) (upd H p (.tup (xs++ys))))
theorem l3.nil_iff{xs:List V}{us:List Value}(r:l3 xs us):us=[]↔xs=[]:=by
 cases r with
 | nil=>simp
 | cons _ _=>simp
theorem GV:OpR X (binaryOp .Add) (La X.K):=by
 intro pins s σ H x y v u Q I rx ry h
 obtain⟨a,b,xs,ys,rfl,rfl,ha,hb,hx,hz,q1,q2⟩:=h
 cases rx
 cases ry
 obtain⟨its,r1,p1,_⟩:=I.tuple ha
 obtain⟨its2,r2,p2,_⟩:=I.tuple hb
 refine HT.cat_tup p1 p2 (fun z=>hx (r1.nil_iff.mp z)) (fun z=>⟨.ref a,H,I,rfl,q1 (r2.nil_iff.mp z)⟩) (fun z=>?_) (by rw[<- r1.length,<- r2.length];exact hz)
 refine⟨.ref s.heap.objs.size,_,I.laid (t':=s.toks) (o:=.tup (xs++ys)) (fun b ob q=>Heap.get?_push_of_some _ q) (Nat.le_refl _) ?_,rfl,q2 (fun w=>z (r2.nil_iff.mpr w)) _ (I.hok.fresh (Nat.le_refl _))⟩
 exact⟨by rw[List.length_append];exact hz,_,r1.append r2,vG.new _ _⟩
end
end L2
namespace L2
open PySem PySem.Spec PyProof.Rows
noncomputable def LT(n:Nat)(i:Int):Option Nat:=if 0<=i then (if i<n then some i.toNat else none) else if -(n:Int)<=i then some (i+n).toNat else none
def J1{α:Type}(xs:List α)(i:Int):Option α:=(LT xs.length i).bind fun j=>xs[j]?
theorem G5{n:Nat}{i:Int}{j:Nat}(h:LT n i=some j):seqIndex? i n=some j/\j<n /\ -(n:Int)<=i/\i<n:=by
 unfold LT at h
 by_cases h0:0<=i
 ·rw[if_pos h0] at h
  by_cases h1:i<n
  ·rw[if_pos h1] at h
   have e:i.toNat=j:=Option.some.inj h
   exact⟨by rw[seqIndex_of h0 h1,e],by omega,by omega,h1⟩
  ·rw[if_neg h1] at h;cases h
 ·rw[if_neg h0] at h
  by_cases h1 : -(n:Int)<=i
  ·rw[if_pos h1] at h
   have e:(i+n).toNat=j:=Option.some.inj h
   exact⟨by rw[seqIndex_neg (by omega) h1,e],by omega,h1,by omega⟩
  ·rw[if_neg h1] at h;cases h
theorem A5{α:Type}{xs:List α}{i:Int}{v:α}(h:J1 xs i=some v):∃j,seqIndex? i xs.length=some j/\xs[j]?=some v/\j<xs.length /\ -(xs.length:Int)<=i/\i<xs.length:=by
 unfold J1 at h
 cases e:LT xs.length i with
 | none=>rw[e] at h;cases h
 | some j =>
  rw[e] at h
  obtain⟨h1,h2,h3,h4⟩:=G5 e
  exact⟨j,h1,h,h2,h3,h4⟩
def Bm(b:Expr):Prop:=∀o i,subscripted b false o i=operate [o,i] (getItem o i)
def IxR(X:Cx)(r:R2):Prop:=
 ∀(value slice:Expr) (pins:List (Addr×Obj)) (s:Shared) (σ:St) (H:Hp) (x y:V) (v u:Value) (Q:VK),Inv X pins σ H s->RelV x v->RelV y u->r x y H Q ->
  subscripted slice false v u=operate [v,u] (getItem v u)->wpAny (model X.prog X.w) X.A (subscriptTail value slice v u) (EP X pins σ Q) X.xe s
def GK(X:Cx)(id:String)(r:V->List V->Hp->VK->Prop):Prop:=
 ∀(pins:List (Addr×Obj)) (s:Shared) (σ:St) (H:Hp) (x:V) (xs:List V) (v:Value) (us:List Value) (Q:VK),Inv X pins σ H s->RelV x v->l3 xs us->r x xs H Q ->
  wpAny (model X.prog X.w) X.A (call (.builtin id) (v::us)) (EP X pins σ Q) X.xe s
section
variable{X:Cx}{a b:Expr}{ta tb:TE}{pos:Pos}
theorem IxR.or{r r':R2}(h:IxR X r)(h':IxR X r'):IxR X (fun x y H Q=>r x y H Q\/r' x y H Q):=by
 intro value slice pins s σ H x y v u Q I rx ry q hs
 rcases q with q | q
 ·exact h value slice pins s σ H x y v u Q I rx ry q hs
 ·exact h' value slice pins s σ H x y v u Q I rx ry q hs
theorem GK.or{id:String}{r r':V->List V->Hp->VK->Prop}(h:GK X id r)(h':GK X id r'):GK X id (fun x xs H Q=>r x xs H Q\/r' x xs H Q):=by
 intro pins s σ H x xs v us Q I rx rs q
 rcases q with q | q
 ·exact h pins s σ H x xs v us Q I rx rs q
 ·exact h' pins s σ H x xs v us Q I rx rs q
theorem rk{r:R2}(hr:IxR X r)(ha:PE X a ta)(hb:PE X b tb)(hs:Bm b):PE X (.Subscript a b pos) (Me r ta tb):=by
 intro pins s σ H Q I h
 exact Subscript_ (IV ha hb I h fun v u s2 x y H2 I2 rx ry q=>hr a b pins s2 σ H2 x y v u Q I2 rx ry q (hs _ _))
def ME(K:PySem.W.Frag):R2:=fun x y H Q=>∃p xs i v,x=.ref p/\y=.int i/\u4 K H p xs/\J1 xs i=some v/\Q v H
def Nk(K:PySem.W.Frag):R2:=fun x y H Q=>∃p xs i v,x=.ref p/\y=.int i/\vC K H p xs/\J1 xs i=some v/\Q v H
def Ny:R2:=fun x y H Q=>∃z i c,x=.str z/\y=.int i/\z.length<=sizeLine/\J1 z.cps.toList i=some c/\Q (.str ⟨#[c]⟩) H
theorem Hr:IxR X (ME X.K):=by
 intro value slice pins s σ H x y v u Q I rx ry h hs
 obtain⟨p,xs,i,z,rfl,rfl,hq,he,q⟩:=h
 cases rx
 obtain⟨t,rfl⟩:=ry
 obtain⟨its,r,pl,hz⟩:=I.list hq
 obtain⟨j,h1,h2,h3,h4,h5⟩:=A5 he
 obtain⟨w,ew,rw'⟩:=r.get h2
 have hl:=r.length
 have hn:=zv
 have fin:EP X pins σ Q w s:=⟨z,H,I,rw',q⟩
 by_cases h0:0<=i
 ·have hj:i.toNat=j:=by
   rw[seqIndex_of h0 h5] at h1
   exact Option.some.inj h1
  exact item_listR pl.isList h0 (by omega) (by rw[hj];simpa using ew) fin hs
 ·have hj:(i+(its.toArray.size:Int)).toNat=j:=by
   rw[seqIndex_neg (by omega) h4] at h1
   rw[List.size_toArray,<- hl]
   exact Option.some.inj h1
  exact subscriptTail_builtinR (x:=w) pl.isList.typeIs slot_list_getitem.lookup
   (wpAny_getItem_list_neg (Q:=fun r s'=>r=w/\EP X pins σ Q r s') pl.isList (by omega) (by rw[List.size_toArray]<;>omega) (by omega) (by rw[hj];simpa using ew) ⟨rfl,fin⟩) hs
theorem I9:IxR X (Nk X.K):=by
 intro value slice pins s σ H x y v u Q I rx ry h hs
 obtain⟨p,xs,i,z,rfl,rfl,hq,he,q⟩:=h
 cases rx
 obtain⟨t,rfl⟩:=ry
 obtain⟨its,r,pl,hz⟩:=I.tuple hq
 obtain⟨j,h1,h2,h3,h4,h5⟩:=A5 he
 obtain⟨w,ew,rw'⟩:=r.get h2
 have hl:=r.length
 have hn:=zv
 have fin:EP X pins σ Q w s:=⟨z,H,I,rw',q⟩
 exact subscriptTail_builtinR (x:=w) pl.typeIs slot_tuple_getitem.lookup
  (getItem_tuple (j:=j) (Q:=fun r s'=>r=w/\EP X pins σ Q r s') pl (by omega) (by omega) (by rw[List.size_toArray,<- hl];exact h1) (by simpa using ew) ⟨rfl,fin⟩) hs
theorem Ji:IxR X Ny:=by
 intro value slice pins s σ H x y v u Q I rx ry h hs
 obtain⟨z,i,c,rfl,rfl,hz,he,q⟩:=h
 obtain⟨t,rfl⟩:=rx
 obtain⟨t',rfl⟩:=ry
 obtain⟨j,h1,h2,h3,h4,h5⟩:=A5 he
 have hl:z.cps.toList.length=z.length:=by simp[Str.length]
 rw[hl] at h1 h4 h5
 have hn:=zv
 exact tail_any (typeIs_str s z t) slot_str_getitem.lookup (getItem_str (c:=c) (by
  have e1:decide (i < -(2 ^ 63:Int))=false:=decide_eq_false (by omega)
  have e2:decide (i ≥ 2 ^ 63)=false:=decide_eq_false (by omega)
  rw[e1,e2,Bool.or_false]) (by rw[h1];simpa using h2) ⟨.str ⟨#[c]⟩,H,I.tok _,⟨_,rfl⟩,q⟩) hs
theorem Inv.lst{pins:List (Addr×Obj)}{σ:St}{H:Hp}{s:Shared}{p:Addr}{xs:List V}(I:Inv X pins σ H s)(h:H p=some (.lst xs)) :
  ∃(its:List Value) (n:Nat),l3 xs its/\s.heap.get? p=some {cls:=.type "list",data:=.seq its.toArray n}/\xs.length<=sizeLine:=by
 obtain⟨z,its,n,r,e⟩:=I.hok p _ h
 exact⟨its,n,r,e,z⟩
theorem AS(lo hi:Option Int)(n:Nat):(sliceBounds lo hi none n).1=((HT.sIx n 0 lo:Nat):Int)/\(sliceBounds lo hi none n).2.1=((HT.sIx n n hi:Nat):Int)/\(sliceBounds lo hi none n).2.2=1:=by
 refine⟨?_,?_,rfl⟩
 ·cases lo with
  | none=>simp[sliceBounds,HT.sIx]
  | some i =>
   simp only[sliceBounds,HT.sIx,Option.getD_none,show(1:Int) > 0 by decide,if_true]
   by_cases h:i<0
   ·simp only[h,if_true]<;>omega
   ·simp only[h,if_false]<;>omega
 ·cases hi with
  | none=>simp[sliceBounds,HT.sIx]
  | some i =>
   simp only[sliceBounds,HT.sIx,Option.getD_none,show(1:Int) > 0 by decide,if_true]
   by_cases h:i<0
   ·simp only[h,if_true]<;>omega
   ·simp only[h,if_false]<;>omega
theorem Aa(its:List Value)(lo hi:Option Int):slicePick its.toArray lo hi none=((its.drop (HT.sIx its.length 0 lo)).take (HT.sIx its.length its.length hi - HT.sIx its.length 0 lo)).toArray:=by
 obtain⟨h1,h2,h3⟩:=AS lo hi its.toArray.size
 unfold slicePick
 rw[h1,h2,h3]
 simp only[sliceRange_one,pick_run,List.size_toArray]<;>rfl
def Nq(K:PySem.W.Frag):V->Option Int->Option Int->Hp->VK->Prop:=fun x lo hi H Q=>∃a xs,x=.ref a/\u4 K H a xs/\∀p,H p=none->Q (.ref p) (upd H p (.lst (y7 xs lo hi)))
theorem Hz:Iw X (Nq X.K):=by
 intro pins s σ H x v vl vu lo hi sl Q I rx hs pl pu h
 obtain⟨a,xs,rfl,hx,q⟩:=h
 cases rx
 obtain⟨its,r,ht,hz⟩:=I.list hx
 have hlen:=r.length
 refine⟨"list",_,slot_list_getitem.lookup,ht.isList.typeIs,?_⟩
 refine wpAny_getItem_list_slice ht.isList hs pl pu .none (by simp) ?_ (by rw[List.size_toArray]<;>omega)
 rw[Aa,<- hlen]
 refine⟨.ref s.heap.objs.size,_,I.laid (t':=s.toks) (o:=.lst (y7 xs lo hi)) (fun b ob q=>Heap.get?_push_of_some _ q) (Nat.le_refl _) ?_,rfl,q _ (I.hok.fresh (Nat.le_refl _))⟩
 exact⟨Nat.le_trans (yX xs lo hi) hz,_,0,(r.drop (HT.sIx xs.length 0 lo)).take (HT.sIx xs.length xs.length hi - HT.sIx xs.length 0 lo),Heap.get?_push_size _ rfl⟩
def Af:V->Bool
 | .non=>true
 | .bl _=>true
 | .int _=>true
 | .str _=>true
 | _=>false
noncomputable def Kt:V->V->Bool
 | .non,.non=>true
 | .bl a,.bl b=>a==b
 | .bl a,.int b=>(if a then 1 else 0)==b
 | .int a,.bl b=>a==(if b then 1 else 0)
 | .int a,.int b=>a==b
 | .str a,.str b=>a==b
 | _,_=>false
theorem Kb{A:Around}{s:Shared}{y x:V}{u v:Value}(ry:RelV y u)(rx:RelV x v)(fy:Af y=true)(fx:Af x=true):SeqAt.EqAt A s u v (Kt y x):=by
 cases y with
 | non =>
  cases ry
  cases x with
  | non=>cases rx;exact SeqAt.EqAt.same _
  | bl b=>cases rx;exact SeqAt.EqAt.none_bool b
  | int b=>obtain⟨t,rfl⟩:=rx;exact SeqAt.EqAt.none_int b t
  | str b=>obtain⟨t,rfl⟩:=rx;exact SeqAt.EqAt.none_str b t
  | _=>exact absurd (show false=true from fx) Bool.false_ne_true
 | bl a =>
  cases ry
  cases x with
  | non=>cases rx;exact SeqAt.EqAt.bool_none a
  | bl b=>cases rx;exact SeqAt.EqAt.bool_bool a b
  | int b=>obtain⟨t,rfl⟩:=rx;exact SeqAt.EqAt.bool_int a b t
  | str b=>obtain⟨t,rfl⟩:=rx;exact SeqAt.EqAt.bool_str a b t
  | _=>exact absurd (show false=true from fx) Bool.false_ne_true
 | int a =>
  obtain⟨t',rfl⟩:=ry
  cases x with
  | non=>cases rx;exact SeqAt.EqAt.int_none a t'
  | bl b=>cases rx;exact SeqAt.EqAt.int_bool a t' b
  | int b=>obtain⟨t,rfl⟩:=rx;exact SeqAt.EqAt.int_int a t' b t
  | str b=>obtain⟨t,rfl⟩:=rx;exact SeqAt.EqAt.int_str a t' b t
  | _=>exact absurd (show false=true from fx) Bool.false_ne_true
 | str a =>
  obtain⟨t',rfl⟩:=ry
  cases x with
  | non=>cases rx;exact SeqAt.EqAt.str_none a t'
  | bl b=>cases rx;exact SeqAt.EqAt.str_bool a t' b
  | int b=>obtain⟨t,rfl⟩:=rx;exact SeqAt.EqAt.str_int a t' b t
  | str b=>obtain⟨t,rfl⟩:=rx;exact SeqAt.EqAt.str_str a t' b t
  | _=>exact absurd (show false=true from fx) Bool.false_ne_true
 | _=>exact absurd (show false=true from fy) Bool.false_ne_true
def HC(x:V)(u:Value):Bool:=match u with
 | .none=>Kt .non x
 | .bool b=>Kt (.bl b) x
 | .int i _=>Kt (.int i) x
 | .str z _=>Kt (.str z) x
 | _=>false
theorem JR{x y:V}{u:Value}(r:RelV y u)(f:Af y=true):HC x u=Kt y x:=by
 cases y with
 | non=>cases r;rfl
 | bl b=>cases r;rfl
 | int i=>obtain⟨t,rfl⟩:=r;rfl
 | str z=>obtain⟨t,rfl⟩:=r;rfl
 | _=>exact absurd (show false=true from f) Bool.false_ne_true
theorem iB{A:Around}{s:Shared}{x:V}{v:Value}(rx:RelV x v)(fx:Af x=true):∀{xs:List V} {us:List Value},l3 xs us->xs.all Af=true->∀u∈us,SeqAt.EqAt A s u v (HC x u)
 | _,_,.nil,_=>fun u hu=>by cases hu
 | y::xs,u::us,.cons r t,f=>fun u' hu=>by
  rw[List.all_cons,Bool.and_eq_true] at f
  rcases List.mem_cons.mp hu with rfl | hu
  ·rw[JR r f.1];exact Kb r rx f.1 fx
  ·exact iB rx fx t f.2 u' hu
theorem Bo:CallR X (.builtin "len") (fun xs H Q=>∃p ys,xs=[.ref p]/\(u4 X.K H p ys\/vC X.K H p ys)/\Q (.int ys.length) H):=by
 intro pins s σ H xs us Q I r h
 obtain⟨p,ys,rfl,hq,q⟩:=h
 obtain⟨u,rfl,rx⟩:=vals1 r
 cases rx
 have hn:=zv
 rcases hq with hq | hq
 ·obtain⟨its,r',pl,hz⟩:=I.list hq
  have hlen:=r'.length
  exact Calls.call_len_list pl.isList (by simp only[List.size_toArray]<;>omega) ⟨.int ys.length,H,I.tok _,⟨s.toks+1,by rw[List.size_toArray,hlen]⟩,q⟩
 ·obtain⟨its,r',pl,hz⟩:=I.tuple hq
  have hlen:=r'.length
  exact len_tuple pl (by simp only[List.size_toArray]<;>omega) ⟨.int ys.length,H,I.tok _,⟨s.toks+1,by rw[List.size_toArray,hlen]⟩,q⟩
theorem CallR.or{f:Value}{r r':List V->Hp->VK->Prop}(h:CallR X f r)(h':CallR X f r'):CallR X f (fun xs H Q=>r xs H Q\/r' xs H Q):=by
 intro pins s σ H xs us Q I rs q
 rcases q with q | q
 ·exact h pins s σ H xs us Q I rs q
 ·exact h' pins s σ H xs us Q I rs q
theorem Ab:CallR X (.type "tuple") (fun xs H Q=>∃p ys,xs=[.ref p]/\((u4 X.K H p ys/\∀l,H l=none->Q (.ref l) (upd H l (.tup ys)))\/(vC X.K H p ys/\Q (.ref p) H))):=by
 intro pins s σ H xs us Q I r h
 obtain⟨p,ys,rfl,h⟩:=h
 obtain⟨u,rfl,rx⟩:=vals1 r
 cases rx
 rcases h with ⟨hq,q⟩ | ⟨hq,q⟩
 ·obtain⟨its,r',pl,hz⟩:=I.list hq
  have hlen:=r'.length
  refine call_tuple_list pl.isList (fun h' kp=>?_) (by simp only[List.size_toArray]<;>omega)
  have I1:Inv X pins σ H {s with heap:=h' }:=I.kept (t':=s.toks) kp
  have I2:Inv X pins σ (upd H h'.objs.size (.tup ys)) {s with heap:=h'.push {cls:=.type "tuple",data:=.seq its.toArray} }:=
   I1.laid (t':=s.toks) (fun b o e=>Heap.get?_push_of_some _ e) (Nat.le_refl _) (show ui X.prog X.w _ _ _ (.tup ys) from⟨hz,its,r',vG.new _ _⟩)
  exact⟨.ref h'.objs.size,_,I2,rfl,q _ (I1.hok.fresh (Nat.le_refl _))⟩
 ·obtain⟨its,r',pl,hz⟩:=I.tuple hq
  exact call_tuple_same pl ⟨.ref p,H,I,rfl,q⟩
def M7(K:PySem.W.Frag)(T:String)(x:V)(H:Hp):Prop:=match x with
 | .str _=>T = "str"
 | .int _=>T = "int"
 | .ref p=>(T = "list" /\ ∃xs,u4 K H p xs)\/(T = "tuple" /\ ∃o,K.lookup p=some o/\o.cls=.type "tuple" /\ o.dict=none) \/
   (T = "dict" /\ ((∃kvs,H p=some (.dK kvs))\/∃kvs,H p=some (.dT kvs)))\/(T = "set" /\ ∃S n,H p=some (.set S n))
 | _=>False
theorem Da{pins:List (Addr×Obj)}{σ:St}{H:Hp}{s:Shared}{T:String}{x:V}{v:Value}(I:Inv X pins σ H s)(r:RelV x v)(ty:M7 X.K T x H) :
  s.TypeIs v T/\∀a,v=.ref a->∃ob,s.heap.get? a=some ob/\ob.dict=none:=by
 cases x with
 | str z =>
  obtain⟨t,rfl⟩:=r
  cases (show T = "str" from ty)
  exact⟨typeIs_str s z t,fun _ e=>nomatch e⟩
 | int i =>
  obtain⟨t,rfl⟩:=r
  cases (show T = "int" from ty)
  exact⟨typeIs_int s i t,fun _ e=>nomatch e⟩
 | ref p =>
  cases r
  rcases ty with ⟨rfl,xs,hq⟩ | ⟨rfl,o,hk,hc,hd⟩ | ⟨rfl,hk⟩ | ⟨rfl,S,n,hk⟩
  ·obtain⟨its,_,pl,_⟩:=I.list hq
   refine⟨pl.isList.typeIs,fun a e=>?_⟩
   cases e
   obtain⟨o,n,e,c,hd,_⟩:=pl
   exact⟨o,e,hd⟩
  ·refine⟨⟨o,I.kIn p o hk,hc⟩,fun a e=>?_⟩
   cases e
   exact⟨o,I.kIn _ o hk,hd⟩
  ·have z:∃o,s.heap.get? p=some o/\o.ExactDict:=by
    rcases hk with ⟨kvs,hk⟩ | ⟨kvs,hk⟩
    ·obtain⟨_,_,_,_,o,_,_,e,ex,_⟩:=I.hok p _ hk
     exact⟨o,e,ex⟩
    ·obtain⟨_,_,_,_,o,_,_,e,ex,_⟩:=I.hok p _ hk
     exact⟨o,e,ex⟩
   obtain⟨o,e,ex⟩:=z
   refine⟨⟨o,e,ex.1⟩,fun a e2=>?_⟩
   cases e2
   exact⟨o,e,ex.2.1⟩
  ·obtain⟨o,_,_,_,e,ex,_⟩:=I.hok p _ hk
   refine⟨⟨o,e,ex.1⟩,fun a e2=>?_⟩
   cases e2
   exact⟨o,e,ex.2.1⟩
 | _=>exact False.elim ty
def M_(K:PySem.W.Frag)(T:String)(r:V->List V->Hp->VK->Prop)(to:TE):TE:=fun σ H Q=>to σ H fun x H1=>M7 K T x H1/\r x [] H1 Q
def Ou(K:PySem.W.Frag)(T:String)(r:V->List V->Hp->VK->Prop)(to:TE)(t:TA):TE:=fun σ H Q=>to σ H fun x H1=>M7 K T x H1/\t σ H1 fun xs H2=>r x xs H2 Q
variable{o e:Expr}{es:List Expr}{to:TE}{t:TA}{name:Str}{apos cpos:Pos}{T id:String}{r:V->List V->Hp->VK->Prop}
theorem rK(pa:PlainAttrs T)(slot:Slot T name id)(hty:typeOf (.builtin id)=pure (.type "method_descriptor"))(hm:GK X id r)(ho:PE X o to)
  (hbase:attributeBase o name X.env (eval o X.env)=eval o X.env:=by rfl) (hline:(apos.endLine==cpos.line)=true:=by rfl):PE X (.Call (.Attribute o name apos) [] [] cpos) (M_ X.K T r to):=by
 intro pins s σ H Q I h
 refine wpAny_Call_method0_late hbase hline (sX (ho pins s σ H _ I h) fun v s1 ⟨x,H1,I1,r1,ty,q1⟩=>?_)
 obtain⟨h1,h2⟩:=Da I1 r1 ty
 exact⟨T,id,pa,slot,hty,h1,h2,Calls.callWith_builtin rfl (PySem.evalArgs_none (hm pins s1 σ H1 x [] v [] Q I1 r1 .nil q1))⟩
theorem nV (pa:PlainAttrs T) (slot:Slot T name id) (hty:typeOf (.builtin id)=pure (.type "method_descriptor")) (hm:GK X id r) (ho:PE X o to) (ha:PA X (e::es) t)
    (hbase:attributeBase o name X.env (eval o X.env)=eval o X.env:=by rfl)
    (hfew:((backTo cpos (starEach (e::es) X.env)).all (fun x=>!x.1)&&(backToKw cpos (keywordEach [] X.env)).all (fun x=>x.1.isSome)
      && decide ((e::es).length+([]:List Keyword).length+(if ([]:List Keyword).isEmpty then 0 else 1)<30))=true:=by rfl)
    (hline:(apos.endLine==cpos.line)=true:=by rfl) (hs:starEach (e::es) X.env=(false,eval e X.env)::starEach es X.env:=by rfl) (hplain:(backTo cpos (starEach es X.env)).any (·.1)=false:=by rfl) :
    PE X (.Call (.Attribute o name apos) (e::es) [] cpos) (Ou X.K T r to t):=by
  intro pins s σ H Q I h
  refine wpAny_Call_method_late hbase hfew hline rfl (sX (ho pins s σ H _ I h) fun v s1 ⟨x,H1,I1,r1,ty,q1⟩=>?_)
  obtain⟨h1,h2⟩:=Da I1 r1 ty
  refine⟨T,id,pa,slot,hty,h1,h2,?_⟩
  have hA:=ha cpos pins s1 σ H1 _ I1 q1
  rw[hs] at hA ⊢
  refine Calls.callWith_builtin (by show(false||(backTo cpos (starEach es X.env)).any (·.1))=false;rw[hplain]<;>rfl) (Calls.evalArgs_plain ?_)
  exact sX hA fun us s2 ⟨vs,H2,I2,r2,q2⟩=>hm pins s2 σ H2 x vs v us Q I2 r1 r2 q2
/- xs.append(e),list.index on a module's tuple .. are GK facts of 06m -/
end
end L2
namespace L2
open PySem PySem.Spec PyProof.Rows
def L_(X:Cx)(id:String)(r:V->List V->Hp->VK->Prop):Prop:=
 ∀(pins:List (Addr×Obj)) (s:Shared) (σ:St) (H:Hp) (x:V) (xs:List V) (v:Value) (us:List Value) (Q:VK),Inv X pins σ H s->RelV x v->l3 xs us->r x xs H Q ->
  wpAny (model X.prog X.w) X.A (call (.builtin id) (v::us)) (EP X pins σ Q) X.xe s
theorem l3.one:∀{x:V} {us:List Value},l3 [x] us->∃u,us=[u]/\RelV x u
 | _,_,h=>by cases h with | cons r t=>cases t;exact⟨_,rfl,r⟩
theorem l3.two:∀{x y:V} {us:List Value},l3 [x,y] us->∃u v,us=[u,v]/\RelV x u/\RelV y v
 | _,_,_,h=>by cases h with | cons r t=>cases t with | cons q t=>cases t;exact⟨_,_,rfl,r,q⟩
theorem l3.zero:∀{us:List Value},l3 [] us->us=[]
 | _,.nil=>rfl
theorem l3.dropLast{xs:List V}{us:List Value}(h:l3 xs us):l3 xs.dropLast us.dropLast:=by
 induction h with
 | nil=>exact .nil
 | cons r t ih =>
  cases t with
  | nil=>exact .nil
  | cons q t'=>exact .cons r ih
theorem l3.eraseIdx:∀{xs:List V} {us:List Value} (i:Nat),l3 xs us->l3 (xs.eraseIdx i) (us.eraseIdx i)
 | _,_,_,.nil=>.nil
 | _,_,0,.cons _ t=>t
 | _,_,i+1,.cons r t=>.cons r (l3.eraseIdx i t)
theorem l3.reverse{xs:List V}{us:List Value}(h:l3 xs us):l3 xs.reverse us.reverse:=by
 induction h with
 | nil=>exact .nil
 | cons r t ih=>rw[List.reverse_cons,List.reverse_cons];exact l3.append ih (.cons r .nil)
theorem C3{α:Type}(l:List α):l.eraseIdx (l.length - 1)=l.dropLast:=by
 induction l with
 | nil=>rfl
 | cons a r ih =>
  cases r with
  | nil=>rfl
  | cons b r =>
   have e:(a::b::r).length - 1=((b::r).length - 1)+1:=by
    have h1:(a::b::r).length=r.length+2:=rfl
    have h2:(b::r).length=r.length+1:=rfl
    omega
   rw[e,List.eraseIdx_cons_succ,ih]
   all_goals rfl
section
variable{X:Cx}{pins:List (Addr×Obj)}{σ:St}{H:Hp}{s:Shared}{l b:Addr}{xs ys zs:List V}
theorem Inv.lset{its its':List Value}{n:Nat}{f:Array Value->Array Value}{t':Nat}(I:Inv X pins σ H s)(hH:H l=some (.lst xs))
  (e:s.heap.get? l=some {cls:=.type "list",data:=.seq its.toArray n}) (hf:f its.toArray=its'.toArray) (hv:l3 ys its') (hz:ys.length<=sizeLine) :
  Inv X pins σ (upd H l (.lst ys)) {s with heap:=s.heap.update l (Obj.mapSeq f),toks:=t' }:=by
 have q:=PySem.IsL.update e f
 rw[hf] at q
 refine I.write (x:=l) (e:=l) (by rw[hH];exact trivial) (.inl rfl) (fun b' u hb hu=>(Heap.get?_update_other s.heap (Obj.mapSeq f) (Ne.symm hb)).trans hu) ⟨_,q⟩ ?_
 exact⟨hz,its',_,hv,q⟩
theorem Inv.lnew{its:List Value}{t':Nat}(I:Inv X pins σ H s)(hv:l3 ys its)(hz:ys.length<=sizeLine) :
  Inv X pins σ (upd H s.heap.objs.size (.lst ys)) {s with heap:=s.heap.push {cls:=.type "list",data:=.seq its.toArray},toks:=t' }:=
 I.laid (fun _ _ q=>Heap.get?_push_of_some _ q) (Nat.le_refl _) ⟨hz,its,0,hv,Heap.get?_push_size _ rfl⟩
theorem Inv.fresh(I:Inv X pins σ H s):H s.heap.objs.size=none:=I.hok.fresh (Nat.le_refl _)
theorem Inv.lstM(I:Inv X pins σ H s)(hH:H l=some (.lst xs)):xs.length<=sizeLine/\∃(its:List Value) (n:Nat),l3 xs its/\xs.length=its.length/\s.heap.get? l=some {cls:=.type "list",data:=.seq its.toArray n}:=by
 obtain⟨z,its,n,r,e⟩:=I.hok l _ hH
 exact⟨z,its,n,r,r.length,e⟩
theorem FQ{n:Nat}(h:n<=sizeLine):Builtin.List.listTooLong n=false:=by
 unfold Builtin.List.listTooLong
 exact decide_eq_false (by omega)
end
section
variable{X:Cx}
def Hi:V->List V->Hp->VK->Prop:=fun x vs H Q=>∃l xs y,x=.ref l/\vs=[y]/\H l=some (.lst xs)/\xs.length<sizeLine/\Q .non (upd H l (.lst (xs++[y])))
theorem jR:L_ X "list.append" Hi:=by
 intro pins s σ H x vs v us Q I rx rv h
 obtain⟨l,xs,y,rfl,rfl,hH,hz,q⟩:=h
 cases rx
 obtain⟨u,rfl,ru⟩:=rv.one
 obtain⟨z,its,n,r,hl,e⟩:=I.lstM hH
 refine call_meets F.slot_list_append ⟨_,e,rfl⟩ F.entry_list_append (F.args_list_append_2 _ _) (PySem.list_append l its.toArray n u (by rw[List.size_toArray];omega)) ⟨e,?_⟩
 refine⟨.non,_,I.lset (its':=its++[u]) hH e (by simp) (r.append (.cons ru .nil)) ?_,rfl,q⟩
 rw[List.length_append,List.length_singleton]
 omega
def Hb:V->List V->Hp->VK->Prop:=fun x vs H Q=>∃l b xs zs,x=.ref l/\vs=[.ref b]/\H l=some (.lst xs)/\H b=some (.lst zs)/\xs.length+zs.length<=sizeLine/\Q .non (upd H l (.lst (xs++zs)))
theorem ss:L_ X "list.extend" Hb:=by
 intro pins s σ H x vs v us Q I rx rv h
 obtain⟨l,b,xs,zs,rfl,rfl,hH,hB,hz,q⟩:=h
 cases rx
 obtain⟨u,rfl,ru⟩:=rv.one
 cases ru
 obtain⟨z,its,n,r,hl,e⟩:=I.lstM hH
 obtain⟨z2,its2,n2,r2,hl2,e2⟩:=I.lstM hB
 have hsz:its.toArray.size+its2.toArray.size<=sizeLine:=by rw[List.size_toArray,List.size_toArray];omega
 have hlong:¬ (!its.toArray.isEmpty&&Builtin.List.listTooLong (its.toArray.size+its2.toArray.size))=true:=by
  rw[FQ hsz,Bool.and_false]
  exact Bool.false_ne_true
 refine call_meets F.slot_list_extend ⟨_,e,rfl⟩ F.entry_list_extend (F.args_list_extend_2 _ _)
  (AutoSeq1.list_extend_list_list_0 l its.toArray n b its2.toArray n2 hlong (by rw[List.size_toArray];omega) (by omega)) ⟨e,e2,?_⟩
 refine⟨.non,_,I.lset (its':=its++its2) hH e (by simp) (r.append r2) ?_,rfl,q⟩
 rw[List.length_append]
 omega
def MC:V->List V->Hp->VK->Prop:=fun x vs H Q=>∃l xs y,x=.ref l/\vs=[]/\H l=some (.lst xs)/\xs[xs.length - 1]?=some y/\Q y (upd H l (.lst xs.dropLast))
theorem rF:L_ X "list.pop" MC:=by
 intro pins s σ H x vs v us Q I rx rv h
 obtain⟨l,xs,y,rfl,rfl,hH,hy,q⟩:=h
 cases rx
 have hus:=rv.zero
 subst hus
 obtain⟨z,its,n,r,hl,e⟩:=I.lstM hH
 obtain⟨u,hu,ru⟩:=r.get hy
 have hy':its.toArray[its.toArray.size - 1]?=some u:=by
  show its.toArray[its.length - 1]?=some u
  rw[<- Array.getElem?_toList,<- hl]
  exact hu
 refine call_meets F.slot_list_pop ⟨_,e,rfl⟩ F.entry_list_pop (F.args_list_pop_1 _) (MeetsSeq.list_pop_last l its.toArray n u hy' (by rw[List.size_toArray];omega)) ⟨e,?_⟩
 refine⟨y,_,I.lset (its':=its.dropLast) hH e ?_ r.dropLast ?_,ru,q⟩
 ·show its.toArray.eraseIdxIfInBounds (its.toArray.size - 1)=its.dropLast.toArray
  rw[List.size_toArray,List.eraseIdxIfInBounds_toArray,C3]
 ·rw[List.length_dropLast]
  omega
def M5:R2:=fun x y H Q=>∃l b xs zs,x=.ref l/\y=.ref b/\H l=some (.lst xs)/\H b=some (.lst zs)/\xs.length+zs.length<=sizeLine/\∀p,H p=none->Q (.ref p) (upd H p (.lst (xs++zs)))
theorem IT:OpR X (binaryOp .Add) M5:=by
 intro pins s σ H x y v u Q I rx ry h
 obtain⟨l,b,xs,zs,rfl,rfl,hH,hB,hz,q⟩:=h
 cases rx
 cases ry
 obtain⟨z,its,n,r,hl,e⟩:=I.lstM hH
 obtain⟨z2,its2,n2,r2,hl2,e2⟩:=I.lstM hB
 refine PySem.P.add_list e e2 ?_ (by rw[List.size_toArray,List.size_toArray];omega)
 have ea:its.toArray++its2.toArray=(its++its2).toArray:=by simp
 rw[ea]
 exact⟨.ref _,_,I.lnew (t':=s.toks) (r.append r2) (by rw[List.length_append];omega),rfl,q _ I.fresh⟩
end
section
variable{prog:Program}{w:World}{A:Around}{E:Value->Shared->Prop}{s:Shared}
set_option maxRecDepth 100000 in
end
section
variable{X:Cx}
end
end L2
namespace Att
open PySem PySem.W PySem.Calls PyProof.Rows
theorem h_{P:Params}{h:Heap}:∀(ns:List Int) (vs:List Value),WellAll P h vs (ns.map WData.int)->IntsAre vs ns:=by
 intro ns
 induction ns with
 | nil =>
  intro vs w
  rw[List.map_nil] at w
  cases w
  exact .nil
 | cons n ns ih =>
  intro vs w
  rw[List.map_cons] at w
  cases w with
  | cons a b =>
   cases a
   exact .cons _ _ (ih _ b)
theorem Em{l:OpenLaw}{n:Nat}(hn:l.most=some n){P:Params}{h:Heap}{args:List WData}{vals:List Value}
  (hpre:l.row.toRowW.claim.pre args=true) (hwl:WellAll P h vals args) :
  ∃a vs ns,vals=[Value.ref a]/\args=[WData.list (ns.map WData.int)]/\h.get? a=some {cls:=.type "list",data:=.seq vs.toArray}/\IntsAre vs ns/\ns.length<=n:=by
 have hsh:WShape.hasAll [] args [.list .int]=true:=(pre_splitW hpre).1
 have hc:l.pre.holds [] {args:=args}=true:=(pre_splitW hpre).2
 obtain⟨d,r,rfl,h1,h2⟩:=hasAllW_cons hsh
 obtain rfl:=hasAllW_nil h2
 obtain⟨xs,rfl,h3⟩:=hasW_list h1
 obtain⟨ns,rfl⟩:=items_int h3
 have hlen:ns.length<=n:=by
  unfold OpenLaw.pre at hc
  have h4:(WTm.not (.lt (.lit (.int (n:Int))) (.len (.arg 0)))).holds [] {args:=[.list (ns.map .int)]}=true:=by
   have h4:=(holds_andW hc).1
   rw[hn] at h4
   exact h4
  have h5:=condW_of h4 (w_not (w_lt w_lit (w_len_list (w_arg rfl))))
  rw[List.length_map] at h5
  refine Nat.le_of_not_lt fun q=>?_
  have q':(n:Int)<((ns.length:Nat):Int):=by omega
  first
   | (rw[decide_eq_true q'] at h5;exact absurd h5 (by decide))
   | (simp at h5;omega)
 cases hwl with
 | cons w1 w2 =>
  cases w2
  cases w1 with
  | list ho hall=>exact⟨_,_,ns,rfl,rfl,ho,h_ ns _ hall,hlen⟩
theorem EE(l:OpenLaw)(args:List WData):l.row.toRowW.claim.post args (.bool true) args=true:=
 postW_of (r:=l.row.toRowW) (X:=(true==true))
  (show WShape.has [] (.bool true) .bool=true by first | rfl | decide | simp[WShape.has,WShape.arms,WShape.armsAll])
  (show(WTm.eq .res (.lit (.bool true))).value [] {args:=args,res:=some (.bool true),after:=args}=some (.bool (true==true)) from w_eq_bool (w_res rfl) w_lit) rfl
theorem attach_call {l:OpenLaw} {n:Nat} {q:Program} {loose:List Str} {XP:(Str->Option Value)->Heap->Prop} {YP:World->Heap->Prop} {d:DefRec}
    (hn:l.most=some n) (hdf:d.params.defaults=[])
    (call:∀(w:World) (s₀ s₁:Shared) (mg mb:Str->Option Value) (fa:Addr) (o:Obj) (pm cd doc:Value) (a:Addr) (vs:List Value) (ns:List Int),
      Ground q loose [] XP w s₀ mg mb s₁.heap->YP w s₁.heap ->
      s₁.heap.get? fa=some o->o.data=.func (docDef d.name d.params d.body d.scope pm cd doc)->s₁.heap.CodeRec cd d.name->mg d.name=some (.ref fa) ->
      s₁.heap.get? a=some {cls:=.type "list",data:=.seq vs.toArray}->IntsAre vs ns->ns.length<=n->s₁.gens=#[] ->
      codeAny (model l.prog w) callerA (.call (.ref fa) ⟨[.ref a],[]⟩) (fun r s'=>r=.ok (.ret (.bool true))/\OldK s₁.heap s'.heap/\s'.os=s₁.os/\AllBare s'.gens) s₁) :
    WalkO q loose XP YP l.row.toRowW d [] (fun f vs=>PySem.call f vs):=by
  intro w s₀ s₁ mg mb G Y fa o pm cd doc dV kV ho hd hcd hD hmg hg args vals as hpre hlay hrd hwl hlo
  obtain rfl:dV=.none:=Dflts.none hD hdf
  obtain rfl:kV=.none:=Dflts.noKw hD
  obtain⟨a,vs,ns,rfl,rfl,hobj,hints,hlen⟩:=Em hn hpre hwl
  refine enter_call (codeAny_mono (call w s₀ s₁ mg mb fa o pm cd doc a vs ns G Y ho (fd_plain hd) hcd hmg hobj hints hlen hg) fun r s' hq=>?_)
  obtain⟨rfl,h2,h3,h4⟩:=hq
  exact⟨.inl ⟨.bool true,.bool true,[],rfl,fun _=>rfl,.bool true,EE l _,fun _=>⟨List.Pairwise.nil,fun _ hm=>(nomatch hm)⟩⟩,h2,h3,h4⟩
section
variable{prog:Program}{w:World}{A:Around}{E:Value->Shared->Prop}{s:Shared}{K:Frag}
def ledger(h:Heap)(L d:Addr):List (Addr×Obj):=(List.range h.objs.size).filterMap fun a=>if a=L\/a=d then none else (h.get? a).map fun o=>(a,o)
end
end Att
namespace L2
open PySem PySem.Spec PyProof.Rows
theorem vals_ints:∀{vs:List Value} {ns:List Int},IntsAre vs ns->l3 (ns.map V.int) vs
 | _,_,.nil=>.nil
 | _,_,.cons n t h=>.cons ⟨t,rfl⟩ (vals_ints h)
def J7(H:Hp):Prop:=∀b,H b=none\/∃o xs,H b=some (.frz o (.lst xs))
theorem Fw{P:Program}{w:World}{K:PySem.W.Frag}{mg mb:Str->Option Value}{CX:BK}{k:Nat}{fa a:Addr}{fd:FuncData}{x:Str}{sp:Sp}{s₁:Shared}{vs:List Value}{ns:List Int}
  (KX:K.In s₁.heap) (hns:s₁.heap.Ns mainGlobals mg) (hb:s₁.heap.Ns builtinsNs mb) (hbb:∀x:Str,x ≠ "__name__" -> mb x=bootBuiltins x) (hlim:s₁.heap.NoLimit) (hg:s₁.gens=#[])
  (ha:s₁.heap.get? a=some {cls:=.type "list",data:=.seq vs.toArray}) (hi:IntsAre vs ns) (hl:ns.length<=sizeLine) (hr:sL k callerA)
  (F:∀base:Heap,K.In base->base.Ns mainGlobals mg->k6 P w K mg base CX k fa fd [x] sp) (hbind:∀(s:Shared) (u:Value),BindsTo s fd ⟨[u],[]⟩ [(x,u)])
  (hsp:∀H:Hp,J7 H->u4 K H a (ns.map V.int)->sp [.ref a] H (fun v _=>v=.bl true) fun _ _ _=>False)
  (hCX:∀H e s',CX [] H s₁ (fun _ _ _=>False) e s'->False) :
  codeAny (model P w) callerA (.call (.ref fa) ⟨[.ref a],[]⟩) (fun r s'=>r=.ok (.ret (.bool true))/\OldK s₁.heap s'.heap/\s'.os=s₁.os/\AllBare s'.gens) s₁:=by
 have rv:=vals_ints hi
 have lenV:=hi.length
 have core:∀H:Hp,J7 H->u4 K H a (ns.map V.int)->xt P w H s₁.heap->(∀b,H b≠none->b=a)->(H a≠none->K.lookup a=none) ->
   codeAny (model P w) callerA (.call (.ref fa) ⟨[.ref a],[]⟩) (fun r s'=>r=.ok (.ret (.bool true))/\OldK s₁.heap s'.heap/\s'.os=s₁.os/\AllBare s'.gens) s₁:=by
  intro H hO hS hok hA hK
  have base_of:∀{b:Addr} {o:Obj},s₁.heap.get? b=some o->H b=none->(xM s₁.heap H).get? b=some o:=fun e n=>BM e n
  have noA:∀{b:Addr} {o:Obj} {es:Array DictEntry} {ep:Nat},s₁.heap.get? b=some o->o.data=.dict es ep->H b=none:=fun {b o es ep} e d=>by
   cases q:H b with
   | none=>rfl
   | some u =>
    have e':b=a:=hA b (by rw[q];simp)
    subst e'
    rw[ha] at e;cases e
    have d':Data.seq vs.toArray _=Data.dict es ep:=d
    cases d'
  have nsK:∀{b:Addr} {m:Str->Option Value},s₁.heap.Ns b m->(xM s₁.heap H).Ns b m:=fun {b m} ⟨o,es,ep,e,d,r⟩=>⟨o,es,ep,base_of e (noA e d),d,r⟩
  have hKb:K.In (xM s₁.heap H):=fun b o e=>base_of (KX b o e) (by
   cases q:H b with
   | none=>rfl
   | some u =>
    have e':b=a:=hA b (by rw[q];simp)
    subst e'
    rw[hK (by rw[q];simp)] at e;cases e)
  have hM:Mod K mg (xM s₁.heap H):=⟨hKb,nsK hns,⟨mb,nsK hb,hbb⟩,let ⟨mc,h1,h2⟩:=hlim;⟨mc,nsK h1,h2⟩⟩
  have e0:yB P w K mg (xM s₁.heap H) callerA [] s₁ H:=⟨rfl,hM,fun b o e=>DP e,Nat.le_of_eq (AE _ _),trivial,fun b hb=>absurd (show b∈([]:List Addr) from hb) (by simp),hok,.of_eq hg⟩
  refine codeAny_mono ((F _ hKb (nsK hns)).run callerA [] s₁ H ⟨[.ref a],[]⟩ [.ref a] [.ref a] _ _ hr e0 (hbind s₁ (.ref a)) (.cons rfl .nil) (hsp H hO hS)) fun r s' h=>?_
  cases r with
  | error e=>exact(hCX H e s' h).elim
  | ok fl =>
   cases fl with
   | next=>exact False.elim h
   | brk=>exact False.elim h
   | cont=>exact False.elim h
   | ret u =>
    obtain⟨v,H',os,bare,un,hok',r',q⟩:=h
    have q':v=.bl true:=q
    subst q'
    obtain rfl:u=Value.bool true:=r'
    refine⟨rfl,OldK.of_keep fun b o e=>?_,os,bare⟩
    cases q:H b with
    | none=>exact un.keep b o e q (by intro z;exact absurd (show b∈([]:List Addr) from z) (by simp)) (by simp)
    | some u =>
     rcases hO b with z | ⟨ob,xs,z⟩
     ·rw[q] at z;cases z
     ·have z2:=un.frzs b ob _ (fun y q=>by cases q) z
      obtain⟨e1,_⟩:=hok b _ z
      obtain⟨e2,_⟩:=hok' b _ z2
      rw[e] at e1;cases e1
      exact e2
 cases hk:K.lookup a with
 | some o =>
  have e:=KX a o hk
  rw[ha] at e
  cases e
  refine core (fun _=>none) (fun _=>.inl rfl) (.inr ⟨_,vs.toArray,_,hk,rfl,rfl,rfl,by rw[List.size_toArray,lenV];exact hl,by simpa using rv⟩) (fun b u z=>by have z':(none:Option HO)=some u:=z;cases z') (fun b z=>absurd rfl z) fun z=>absurd rfl z
 | none =>
  refine core (fun b=>if b=a then some (.frz {cls:=.type "list",data:=.seq vs.toArray} (.lst (ns.map V.int))) else none) (fun b=>?_) (.inl (.inr ⟨{cls:=.type "list",data:=.seq vs.toArray},if_pos rfl⟩)) (fun b u z=>?_) (fun b z=>?_) fun _=>hk
  ·by_cases hb:b=a
   ·exact .inr ⟨_,_,if_pos hb⟩
   ·exact .inl (if_neg hb)
  ·by_cases hb:b=a
   ·have z':=(if_pos hb).symm.trans z
    cases z'
    subst hb
    exact⟨ha,by rw[List.length_map];exact hl,vs,_,rv,ha⟩
   ·have z':=(if_neg hb).symm.trans z
    cases z'
  ·by_cases hb:b=a
   ·exact hb
   ·exact absurd (if_neg hb) z
end L2
namespace L2
open PySem PySem.Spec PyProof.Rows
abbrev KOf{K:PySem.W.Frag}{h:Heap}(_:K.In h):PySem.W.Frag:=K
theorem walk_of {l:PySem.W.OpenLaw} {n k:Nat} {q:Program} {loose:List Str} {XP:(Str->Option Value)->Heap->Prop} {YP:World->Heap->Prop} {d:DefRec} {K:Params->PySem.W.Frag} {CX:World->BK} {sp:World->Sp} {x:Str}
    (hn:l.most=some n) (hn2:n<=sizeLine) (hdf:d.params.defaults=[]) (hr:sL k callerA)
    (hY:∀(w:World) (h:Heap),YP w h->(K w.params).In h)
    (F:∀(w:World) (mg:Str->Option Value) (fa:Addr) (h:Heap),(K w.params).In h->h.Ns mainGlobals mg->mg d.name=some (.ref fa) ->
      ∃fd:FuncData,(∀(s:Shared) (u:Value),BindsTo s fd ⟨[u],[]⟩ [(x,u)]) /\
        ∀base:Heap,(K w.params).In base->base.Ns mainGlobals mg->k6 l.prog w (K w.params) mg base (CX w) k fa fd [x] (sp w))
    (hsp:∀(w:World) (H:Hp) (a:Addr) (ns:List Int),ns.length<=n->J7 H->u4 (K w.params) H a (ns.map V.int)->sp w [.ref a] H (fun v _=>v=.bl true) fun _ _ _=>False)
    (hCX:∀(w:World) (H:Hp) (s:Shared) (e:Value) (s':Shared),CX w [] H s (fun _ _ _=>False) e s'->False) :
    PySem.W.WalkO q loose XP YP l.row.toRowW d [] (fun f vs=>PySem.call f vs):=by
  refine Att.attach_call hn hdf fun w s₀ s₁ mg mb fa o pm cd doc a vs ns G Y ho hd hcd hmg hobj hints hlen hg=>?_
  have KX:=hY w _ Y
  obtain⟨fd,hb,hF⟩:=F w mg fa _ KX G.T.g hmg
  exact Fw KX G.T.g G.T.b G.T.builtins G.T.nolimit hg hobj hints (Nat.le_trans hlen hn2) hr hF hb (fun H hO hS=>hsp w H a ns hlen hO hS) fun H e s'=>hCX w H s₁ e s'
end L2
/- THE LAST THEOREM (shape;LID,My.* are yours):
  My.Adr: a structure of the addresses that your layer names (classes,functions);My.Txt K t: a structure (Prop) of the equations over K;
  My.txt_mk:{K} {implicit addresses ..} (e1:nsIn K mainGlobals "law" = some (some (.ref f))) (e2:K.lookup f=some ⟨oc,od,.func (fnOf "law" "law" params body scope dV kV doc pm an cdv ct),sl⟩) (e3:codeIn K cdv "law" = true) ..:∃t,My.Txt K t
set_option maxRecDepth 100000 in
set_option maxHeartbeats 0 in
theorem PySem.Challenge.cw_LID_holds : PySem.Challenge.rw_LID.Holds := by
 w_on;o_law;k_head;(case hw=>w_witness2)
 k_fill
 refine L2.walk_of (l:=PySem.Challenge.rw_LID) (n:=63) (k:=40) (x:="script") (CX:=fun w=>..) (sp:=fun _=>My.sp_law) rfl (by decide) rfl ⟨rfl,by decide,by decide⟩ (fun w h Y=>PySem.W.kIn_of Y) ?F ?S ?C
 case F =>
  intro w mg fa h KX G hmg
  have T:∃t,My.Txt (L2.KOf KX) t:=by
   dsimp only [L2.KOf]                          -- K must stand as «<heap const> w.params» for k_is
   refine' My.txt_mk ?e1 ?e2 ?e3 ..
   (case e1=>PySem.W.k_is)                    -- in the order: a name->its address->its object->its parts
   (case e2=>PySem.W.k_is)
   ..
  obtain⟨t,T⟩:=T
  have e0:=hmg.symm.trans (PySem.W.mg_of KX G T.law)
  cases e0                                       -- fa is the law's own address
  exact⟨_,fun s u=>.of_eq rfl,fun base kb nb=>My.law_fn T kb nb⟩     -- if «.of_eq rfl» comes too early: refine' ⟨_,?b,fun base kb nb=>My.law_fn T kb nb⟩;exact fun s u=>.of_eq rfl
 case S=>exact fun w H a ns hl hO hS=>..
 case C=>exact ..
(the tactic k_is has no namespace: write k_is) -/
namespace L2
open PySem PySem.Spec PyProof.Rows
def inClass(s:Stmt)(j:Nat):Stmt:=match s with
 | .ClassDef _ _ _ body _ _ _ _ _ _ _=>body.getD j (.Pass ⟨0,0,0,0⟩)
 | _=>.Pass ⟨0,0,0,0⟩
def uc(s:Stmt):Arguments:=match s with
 | .FunctionDef _ a _ _ _ _ _ _ _ _=>a
 | _=>{posonlyargs:=[],args:=[],vararg:=none,kwonlyargs:=[],kw_defaults:=[],kwarg:=none,defaults:=[]}
def sS(s:Stmt):List Stmt:=match s with
 | .FunctionDef _ _ b _ _ _ _ _ _ _=>b
 | _=>[]
def c5(s:Stmt):Scope:=match s with
 | .FunctionDef _ _ _ _ _ _ sc _ _ _=>sc
 | _=>{kind:=.function,names:=[],isGenerator:=false,isCoroutine:=false}
abbrev sR:BK:=fun _ _ _ _ _ _=>False
abbrev E0:XK:=fun _ _ _=>False
theorem wk{X:Cx}:wz sR X E0:=fun _ _ _ _ _ _ _ h=>h.elim
structure tE (K:PySem.W.Frag) (x qual:Str) (st:Stmt) (f:Addr) (fd:FuncData):Prop where
 ex:∃(oc:Value) (od:Option Addr) (kV doc pm:Value) (an:Option Addr) (cdv ct:Value) (osl:Array (Option Value)),
  fd=PySem.W.fnOf x qual (uc st) (sS st) (c5 st) .none kV doc pm an cdv ct/\K.lookup f=some ⟨oc,od,.func fd,osl⟩/\PySem.W.codeIn K cdv qual=true
 kp:PySem.W.keepIn K (.ref f)=true
section
variable{P:Program}{w:World}{K:PySem.W.Frag}{mg:Str->Option Value}{base:Heap}
theorem tE.ok {x qual:Str} {st:Stmt} {f:Addr} {fd:FuncData} {N ps:List Str} {k:Nat} {sp:Sp} (F:tE K x qual st f fd) (S:c9 N ps (c5 st)) (len:∀ vs H Q E,sp vs H Q E->vs.length=ps.length)
    (hbody:∀(cdv:Value) (A:Around) (outer:List Env) (s:Shared) (H:Hp) (vs:List V) (Q:VK) (E:XK),sL k (A.deeper (envOfC qual (c5 st) s.heap.objs.size f cdv))->sp vs H Q E ->
      ∃t,PSs (wt sR P w K mg base N qual (c5 st) f cdv A outer s H E).nox (sS st) t/\t {nx:=fun _ H'=>Q .non H',rt:=Q} (start N vs) H):k6 P w K mg base sR (k+1) f fd ps sp:=by
  obtain⟨oc,od,kV,doc,pm,an,cdv,ct,osl,rfl,lk,hcd⟩:=F.ex
  refine pO lk hcd S len fun A outer s H vs Q E hr hsp=>?_
  obtain⟨t,h,q⟩:=hbody cdv A outer s H vs Q E hr hsp
  exact⟨t,h.nox,q⟩
theorem tE.binds{x qual:Str}{st:Stmt}{f:Addr}{fd:FuncData}{ps:List Str}(F:tE K x qual st f fd)
  (h:∀(kV doc pm:Value) (an:Option Addr) (cdv ct:Value) (us:List Value),us.length=ps.length->bindArgs (PySem.W.fnOf x qual (uc st) (sS st) (c5 st) .none kV doc pm an cdv ct) ⟨us,[]⟩=pure (ps.zip us)):Binds K fd ps []:=by
 obtain⟨oc,od,kV,doc,pm,an,cdv,ct,osl,rfl,lk,hcd⟩:=F.ex
 exact .all (h kV doc pm an cdv ct)
theorem qf{x qual:Str}{st:Stmt}{f:Addr}{oc:Value}{od an:Option Addr}{osl:Array (Option Value)}{kV doc pm cdv ct:Value}(l:K.lookup f=some ⟨oc,od,.func (PySem.W.fnOf x qual (uc st) (sS st) (c5 st) .none kV doc pm an cdv ct),osl⟩)
  (c:PySem.W.codeIn K cdv qual=true) (k:PySem.W.keepIn K (.ref f)=true):tE K x qual st f (PySem.W.fnOf x qual (uc st) (sS st) (c5 st) .none kV doc pm an cdv ct):=⟨⟨oc,od,kV,doc,pm,an,cdv,ct,osl,rfl,l,c⟩,k⟩
end
theorem xi{n:Nat}(h:n<=1000):n<sizeLine:=Nat.lt_of_le_of_lt h (by decide)
section
variable{X:Cx}
theorem pv(i:Nat){x:Str}{pos:Pos}(hN:X.N[i]?=some x:=by rfl)(hv:z8 X.env.scope x:=by first | exact Or.inl rfl | exact Or.inr (Or.inl rfl) | exact Or.inr (Or.inr rfl))(hd:(x==("__debug__" : Str))=false:=by decide)
  (hcd:(x==("__classdict__" : Str))=false:=by decide):PE X (.Name x pos) (JK i):=iR hN hv hd hcd
end
def i7(H H':Hp):Prop:=∀b o,H b=some o->H' b=some o
theorem i7.refl(H:Hp):i7 H H:=fun _ _ h=>h
theorem i7.trans{H H1 H2:Hp}(a:i7 H H1)(b:i7 H1 H2):i7 H H2:=fun c o h=>b c o (a c o h)
theorem i7.free{H H':Hp}(e:i7 H H'){l:Addr}(h:H' l=Option.none):H l=Option.none:=by
 cases q:H l with
 | none=>rfl
 | some o =>
  rw[e l o q] at h
  cases h
theorem i7.seq{K:PySem.W.Frag}{H H':Hp}{a:Addr}{xs:List V}(e:i7 H H')(h:u4 K H a xs):u4 K H' a xs:=by
 rcases h with (h | ⟨o,h⟩) | h
 ·exact .inl (.inl (e _ _ h))
 ·exact .inl (.inr ⟨o,e _ _ h⟩)
 ·exact .inr h
end L2
namespace HW
open PySem
inductive D where
 | non
 | bl (b:Bool)
 | int (i:Int)
 | str (x:Str)
 | tup (xs:List D)
 | lst (xs:List D)
 | fro (xs:List D)
 | obj (k a:Nat) (ks:List Str) (ds:List D)
 | rf (a:Nat)
 deriving Inhabited
abbrev R:=List (Option D)
abbrev OD:=Option D
abbrev LD:=List D
abbrev oS(x:String):Str:=Str.ofString x
@[simp] abbrev kI (n:Int):R->OD:=fun _=>some (.int n)
@[simp] abbrev kS (x:String):R->OD:=fun _=>some (.str (oS x))
inductive Out where
 | nx (ρ:R)
 | rt (d:D)
 | bk (ρ:R)
 | ct (ρ:R)
@[simp] noncomputable def IP:D->Option Bool
 | .non=>some false
 | .bl b=>some b
 | .int i=>some (i != 0)
 | .str x=>if x.length<=sizeLine then some ((x.length:Int) != 0) else none
 | .tup xs=>some (!xs.isEmpty)
 | .lst xs=>some (!xs.isEmpty)
 | .fro xs=>some (!xs.isEmpty)
 | .obj ..=>none
 | .rf ..=>none
noncomputable def bI(b:Bool):Int:=if b then 1 else 0
@[simp] noncomputable def nI:D->Option Int
 | .int i=>some i
 | _=>none
@[simp] def tI:D->Option LD
 | .tup xs=>some xs
 | _=>none
@[simp] def lI:D->Option LD
 | .lst xs=>some xs
 | _=>none
@[simp] noncomputable def sI:D->Option Str
 | .str x=>some x
 | _=>none
@[simp] def bO:D->Option Bool
 | .bl b=>some b
 | _=>none
@[simp] def p4 (x y:D):OD:=match x with
 | .int i=>(nI y).map fun j=>.int (i+j)
 | .tup xs=>(tI y).bind fun ys=>if xs.length+ys.length<=sizeLine then some (.tup (xs++ys)) else none
 | .lst xs=>(lI y).bind fun ys=>if xs.length+ys.length<=sizeLine then some (.lst (xs++ys)) else none
 | .str x=>(sI y).bind fun y=>if x.length+y.length<=sizeLine then some (.str (x++y)) else none
 | _=>none
@[simp] def vm (x y:D):OD:=(nI x).bind fun i=>(nI y).map fun j=>.int (i - j)
def tG(i j:Int):Bool:=(decide (-(2 ^ 64)<i)&&decide (i<2 ^ 64))||(decide (-(2 ^ 64)<j)&&decide (j<2 ^ 64))
@[simp] def wK (x y:D):OD:=(nI x).bind fun i=>(nI y).bind fun j=>if tG i j then some (.int (i*j)) else none
@[simp] def uC (x y:D):OD:=(nI x).bind fun i=>(nI y).bind fun j=>if 0<j/\j<1073741824 then some (.int (i / j)) else none
@[simp] def sW (x y:D):OD:=(nI x).bind fun i=>(nI y).bind fun j=>if 0<j then some (.int (i%j)) else none
@[simp] def E8 (x:D):OD:=(nI x).map fun i=>.int (-i)
@[simp] def LQ (x y:D):Option Bool:=(nI x).bind fun i=>(nI y).map fun j=>decide (i<j)
@[simp] def Kv (x y:D):Option Bool:=(nI x).bind fun i=>(nI y).map fun j=>decide (i<=j)
@[simp] def C2 (x y:D):Option Bool:=(nI x).bind fun i=>(nI y).map fun j=>decide (j<i)
@[simp] def Kj (x y:D):Option Bool:=(nI x).bind fun i=>(nI y).map fun j=>decide (j<=i)
@[simp] def Gd (x y:D):Option Bool:=match x with
 | .int i=>(nI y).map fun j=>i==j
 | .str a=>(sI y).map fun b=>a==b
 | .bl a=>(bO y).map fun b=>a==b
 | _=>none
@[simp] def w9:D->D->Option Bool:=Gd
@[simp] def L7 (x y:D):Option Bool:=(Gd x y).map (!·)
@[simp] noncomputable def Hn:D->Bool
 | .non=>true
 | _=>false
@[simp] def yG (x y:D):Option Bool:=if Hn y then some (Hn x) else none
@[simp] def wm (x y:D):Option Bool:=(yG x y).map (!·)
def flat:D->Bool
 | .non=>true
 | .bl _=>true
 | .int _=>true
 | .str _=>true
 | _=>false
def L9:D->D->Bool
 | .non,.non=>true
 | .bl a,.bl b=>a==b
 | .bl a,.int b=>bI a==b
 | .int a,.bl b=>a==bI b
 | .int a,.int b=>a==b
 | .str a,.str b=>a==b
 | _,_=>false
@[simp] def Fh:D->Option LD
 | .tup xs=>some xs
 | .lst xs=>some xs
 | .fro xs=>some xs
 | _=>none
mutual
def Ij:D->D->Bool
 | .non,.non=>true
 | .bl a,.bl b=>a==b
 | .bl a,.int b=>bI a==b
 | .int a,.bl b=>a==bI b
 | .int a,.int b=>a==b
 | .str a,.str b=>a==b
 | .tup xs,.tup ys=>Ad xs ys
 | .lst xs,.lst ys=>Ad xs ys
 | .lst xs,.fro ys=>Ad xs ys
 | .fro xs,.lst ys=>Ad xs ys
 | .fro xs,.fro ys=>Ad xs ys
 | _,_=>false
def Ad:LD->LD->Bool
 | [],[]=>true
 | x::xs,y::ys=>Ij x y&&Ad xs ys
 | _,_=>false
end
mutual
def uS:D->Nat
 | .tup xs=>uX xs+1
 | .lst xs=>uX xs+1
 | .fro xs=>uX xs+1
 | _=>0
def uX:LD->Nat
 | []=>0
 | x::xs=>max (uS x) (uX xs)
end
mutual
def p5:D->Bool
 | .str x=>x.cps.all (·<0x110000)
 | .tup xs=>t8 xs
 | .lst xs=>t8 xs
 | .fro xs=>t8 xs
 | .obj ..=>false
 | .rf ..=>false
 | _=>true
def t8:LD->Bool
 | []=>true
 | x::xs=>p5 x&&t8 xs
end
mutual
def tB:D->Bool
 | .tup xs=>m9 xs
 | .lst xs=>m9 xs
 | .fro xs=>m9 xs
 | .obj ..=>false
 | .rf ..=>false
 | _=>true
def m9:LD->Bool
 | []=>true
 | x::xs=>tB x&&m9 xs
end
mutual
theorem bH:∀{d:D},p5 d=true->tB d=true
 | .non,_=>rfl
 | .bl _,_=>rfl
 | .int _,_=>rfl
 | .str _,_=>rfl
 | .tup xs,h=>gA (xs:=xs) h
 | .lst xs,h=>gA (xs:=xs) h
 | .fro xs,h=>gA (xs:=xs) h
 | .obj ..,h=>by cases h
 | .rf ..,h=>by cases h
theorem gA:∀{xs:LD},t8 xs=true->m9 xs=true
 | [],_=>rfl
 | x::xs,h=>by
  have h':(p5 x&&t8 xs)=true:=h
  rw[Bool.and_eq_true] at h'
  show(tB x&&m9 xs)=true
  rw[bH h'.1,gA h'.2];rfl
end
def xm(x y:D):Option Bool:=if uS x<=100/\p5 x=true/\p5 y=true then some (Ij x y) else none
def xD(x y:D):Option Bool:=(xm x y).map (!·)
noncomputable def K7(n:Nat)(i:Int):Option Nat:=if 0<=i then (if i<n then some i.toNat else none) else if -(n:Int)<=i then some (i+n).toNat else none
def Fi(xs:LD)(i:Int):OD:=(K7 xs.length i).bind fun j=>xs[j]?
@[simp] def i9:D->D->OD
 | .tup xs,.int i=>Fi xs i
 | .lst xs,.int i=>Fi xs i
 | .fro xs,.int i=>Fi xs i
 | .str x,.int i=>if x.length<=sizeLine then ((K7 x.length i).bind fun j=>x.cps.toList[j]?).map fun c=>.str ⟨#[c]⟩ else none
 | _,_=>none
noncomputable def Dq(n d:Nat):Option Int->Nat
 | none=>d
 | some v=>if v<0 then (v+(n:Int)).toNat else min v.toNat n
def cutD(xs:LD)(lo hi:Option Int):LD:=(xs.drop (Dq xs.length 0 lo)).take (Dq xs.length xs.length hi - Dq xs.length 0 lo)
@[simp] def Kk:D->Option Int->Option Int->OD
 | .tup xs,lo,hi=>some (.tup (cutD xs lo hi))
 | .lst xs,lo,hi=>some (.lst (cutD xs lo hi))
 | _,_,_=>none
@[simp] def Oq:D->Option (Option Int)
 | .int i=>some (some i)
 | _=>none
@[simp] noncomputable def LG:D->String
 | .non=>"NoneType"
 | .bl _=>"bool"
 | .int _=>"int"
 | .str _=>"str"
 | .tup _=>"tuple"
 | .lst _=>"list"
 | .fro _=>"list"
 | .obj ..=>"object"
 | .rf ..=>"object"
@[simp] def vU:D->Bool
 | .obj ..=>true
 | _=>false
@[simp] def NG (d:D) (n:String):Bool:=decide (LG d=n)||(decide (LG d = "bool")&&decide (n = "int"))
@[simp] def vf:LD->OD
 | [d]=>(Fh d).map fun xs=>.int xs.length
 | _=>none
@[simp] def NX:LD->OD
 | [.tup xs]=>some (.lst xs)
 | [.lst xs]=>some (.lst xs)
 | _=>none
@[simp] def Dj:LD->OD
 | [.tup xs]=>some (.tup xs)
 | [.lst xs]=>some (.tup xs)
 | _=>none
@[simp] def CU:LD->OD
 | [.int i]=>if i.natAbs.log2<1920 then some (.str (toString i)) else none
 | _=>none
@[simp] def Dn:LD->OD
 | [.int i,.int j]=>some (.int (if j > i then j else i))
 | _=>none
@[simp] def Ci:LD->OD
 | [.lst []]=>some .non
 | [.lst [.int a]]=>some (.int a)
 | [.lst [.int a,.int b]]=>some (.int (if b > a then b else a))
 | _=>none
noncomputable def DS(x:Str):Option Str:=if x=oS "a" then some (oS "A") else if x=oS "b" then some (oS "B") else if x=oS "c" then some (oS "C") else none
def Nf:D->OD
 | .str x=>(DS x).map .str
 | _=>none
def Fm(ws:List Str):D->OD
 | .str x=>(ws.findIdx? (·==x)).map fun (j:Nat)=>.int (j:Int)
 | _=>none
noncomputable def bools:LD->Option (List Bool)
 | []=>some []
 | .bl b::r=>(bools r).map (b::·)
 | _=>none
noncomputable def Bd(st:D->R->Option R)(body:R->Option Out):LD->R->Option Out
 | [],ρ=>some (.nx ρ)
 | d::ds,ρ=>(st d ρ).bind fun ρ1=>(body ρ1).bind fun o=>match o with
  | .nx ρ2=>Bd st body ds ρ2
  | .ct ρ2=>Bd st body ds ρ2
  | .bk ρ2=>some (.nx ρ2)
  | .rt r=>some (.rt r)
noncomputable def wo(st:D->R->Option R)(c:R->Option Bool)(e:R->OD):LD->R->Option LD
 | [],_=>some []
 | d::ds,ρ=>(st d ρ).bind fun ρ1=>(c ρ1).bind fun b=>(if b then (e ρ1).map some else some none).bind fun x =>
   (wo st c e ds ρ).map fun r=>match x with
    | some y=>y::r
    | none=>r
@[simp] def l9 (f g:R->Option Out):R->Option Out:=fun ρ=>(f ρ).bind fun o=>match o with
 | .nx ρ2=>g ρ2
 | o=>some o
@[simp] noncomputable def c6 (i:Nat) (ρ:R):OD:=ρ.getD i none
@[simp] def setAt (i:Nat) (d:D) (ρ:R):Option R:=if i<ρ.length then some (ρ.set i (some d)) else none
@[simp] def yo (c:R->Option Bool) (f g:R->Option Out):R->Option Out:=fun ρ=>(c ρ).bind fun b=>if b then f ρ else g ρ
@[simp] def A1 (f g:R->OD):R->OD:=fun ρ=>(f ρ).bind fun x=>match x with
 | .bl true=>g ρ
 | .bl false=>some (.bl false)
 | _=>none
@[simp] def C1 (f:R->OD):R->OD:=fun ρ=>(f ρ).bind fun x=>match x with
 | .bl b=>some (.bl !b)
 | _=>none
@[simp] def BR (f g:R->Option Bool):R->Option Bool:=fun ρ=>(f ρ).bind fun b=>if b then g ρ else some false
@[simp] def BF (f g:R->Option Bool):R->Option Bool:=fun ρ=>(f ρ).bind fun b=>if b then some true else g ρ
@[simp] def De (f:R->Option Bool):R->Option Bool:=fun ρ=>(f ρ).map (!·)
@[simp] def BH (c:R->Option Bool) (f g:R->OD):R->OD:=fun ρ=>(c ρ).bind fun b=>if b then f ρ else g ρ
@[simp] def g9 (F:D->D->OD) (f g:R->OD):R->OD:=fun ρ=>(f ρ).bind fun x=>(g ρ).bind fun y=>F x y
@[simp] def vT (F:D->OD) (f:R->OD):R->OD:=fun ρ=>(f ρ).bind F
@[simp] def k9 (F:D->D->Option Bool) (f g:R->OD):R->Option Bool:=fun ρ=>(f ρ).bind fun x=>(g ρ).bind fun y=>F x y
@[simp] def BD (f:R->Option Bool):R->OD:=fun ρ=>(f ρ).map .bl
@[simp] def v8 (f:R->OD):R->Option Bool:=fun ρ=>(f ρ).bind IP
@[simp] def c7:R->Option LD:=fun _=>some []
@[simp] def c4 (f:R->OD) (g:R->Option LD):R->Option LD:=fun ρ=>(f ρ).bind fun d=>(g ρ).map fun ds=>d::ds
@[simp] def c8 (F:LD->OD) (g:R->Option LD):R->OD:=fun ρ=>(g ρ).bind F
@[simp] def n5 (g:R->Option LD):R->OD:=fun ρ=>(g ρ).map .tup
@[simp] def FP (g:R->Option LD):R->OD:=fun ρ=>(g ρ).map .lst
@[simp] def GH:R->Option (Option Int):=fun _=>some none
@[simp] def aP (f:R->OD):R->Option (Option Int):=fun ρ=>(f ρ).bind Oq
@[simp] def D7 (f:R->OD) (l h:R->Option (Option Int)):R->OD:=fun ρ=>(f ρ).bind fun x=>(l ρ).bind fun a=>(h ρ).bind fun b=>Kk x a b
@[simp] def l6 (f:R->OD):R->Option Out:=fun ρ=>(f ρ).map .rt
@[simp] def m6 (f:R->OD) (st:D->R->Option R):R->Option Out:=fun ρ=>(f ρ).bind fun d=>(st d ρ).map .nx
@[simp] def tH:R->Option Out:=fun ρ=>some (.nx ρ)
@[simp] def Cw (it:R->Option LD) (st:D->R->Option R) (body:R->Option Out):R->Option Out:=fun ρ=>(it ρ).bind fun ds=>Bd st body ds ρ
noncomputable def chars(x:Str):LD:=x.cps.toList.map fun c=>.str ⟨#[c]⟩
@[simp] def yr (f:R->OD):R->Option LD:=fun ρ=>(f ρ).bind fun d=>match d with
 | .tup xs=>some xs
 | .lst xs=>some xs
 | .str x=>if x.cps.all (·<128) then some (chars x) else none
 | _=>none
noncomputable def uD(a b:Int):LD:=(List.range (b - a).toNat).map fun (k:Nat)=>D.int (a+(k:Int))
@[simp] def uT (f:R->OD):R->Option LD:=fun ρ=>(f ρ).bind fun d=>match d with
 | .int j=>if -(2 ^ 62)<=j/\j<2 ^ 62 then some (uD 0 j) else none
 | _=>none
def GG(k:Nat)(it:R->Option LD)(st:D->R->Option R)(c:R->Option Bool)(e:R->OD):R->OD:=fun ρ =>
 (it ρ).bind fun ds=>if ds.length<=sizeLine then (wo st c e ds (List.replicate k none++ρ)).map .lst else none
@[simp] def y6:R->Option Bool:=fun _=>some true
@[simp] def yz (n:Nat) (ds:LD):R:=ds.map some++List.replicate (n - ds.length) none
@[simp] noncomputable def wD:Option Out->OD
 | some (.rt d)=>some d
 | some (.nx _)=>some .non
 | _=>none
@[simp] def B6 (u:R->Option Out):R->LD->Option (Out×LD):=fun ρ ds=>(u ρ).map fun o=>(o,ds)
@[simp] def BX (i:Nat) (f:R->OD):R->LD->Option (Out×LD):=fun ρ ds=>(f ρ).bind fun d=>if ρ.length=i/\ds.length<sizeLine then some (.nx ρ,ds++[d]) else none
@[simp] def An:R->LD->Option (Out×LD):=fun ρ ds=>some (.nx ρ,ds)
@[simp] def HZ (c:R->Option Bool) (p q:R->LD->Option (Out×LD)):R->LD->Option (Out×LD):=fun ρ ds=>(c ρ).bind fun b=>if b then p ρ ds else q ρ ds
@[simp] def JG (i:Nat) (F:R->Option LD) (q:R->LD->Option Out):R->Option Out:=fun ρ=>(F ρ).bind fun ds=>if ρ.length=i+1 then q (ρ.take i) ds else none
@[simp] def xB (p:R->LD->Option (Out×LD)) (q:R->LD->Option Out):R->LD->Option Out:=fun ρ ds=>(p ρ ds).bind fun r=>match r with
 | (.nx ρ2,ds2)=>q ρ2 ds2
 | (.rt d,_)=>some (.rt d)
 | _=>none
@[simp] def Fj (w:R->Option Out):R->LD->Option Out:=fun ρ ds=>w (ρ++[some (.lst ds)])
def Ki(i:Nat)(tab:List (Str×(LD->OD)))(f:R->OD)(g:(LD->OD)->R->Option Out):R->Option Out:=fun ρ=>(f ρ).bind fun d=>match d with
 | .str z=>(tab.lookup z).bind fun F=>if i<ρ.length then g F (ρ.set i none) else none
 | _=>none
def via(k n:Nat)(g:R->Option Out)(ds:LD):OD:=if ds.length=k then wD (g (yz n ds)) else none
theorem oi{k n:Nat}{g:R->Option Out}{ds:LD}{d:D}(h:via k n g ds=some d):ds.length=k:=by
 unfold via at h
 split at h
 ·assumption
 ·cases h
theorem rm{k n:Nat}{g:R->Option Out}{ds:LD}{d:D}(h:via k n g ds=some d):wD (g (yz n ds))=some d:=by
 unfold via at h
 split at h
 ·exact h
 ·cases h
theorem Aj{i j:Int}(h1 : -(2 ^ 64)<j)(h2:j<2 ^ 64):tG i j=true:=by unfold tG;rw[decide_eq_true h1,decide_eq_true h2];simp
theorem uG{i j:Int}(h1 : -(2 ^ 64)<i)(h2:i<2 ^ 64):tG i j=true:=by unfold tG;rw[decide_eq_true h1,decide_eq_true h2];simp
theorem zo{st:D->R->Option R}{body:R->Option Out}(P:Nat->R->Prop):∀(ds:LD) (k:Nat) (ρ0:R),P k ρ0->(∀i d ρ,ds[i]?=some d->P (k+i) ρ->∃ ρ1 ρ2,st d ρ=some ρ1/\body ρ1=some (.nx ρ2)/\P (k+i+1) ρ2) ->
  ∃ ρ',Bd st body ds ρ0=some (.nx ρ')/\P (k+ds.length) ρ'
 | [],k,ρ0,h0,_=>⟨ρ0,rfl,h0⟩
 | d::ds,k,ρ0,h0,hs=>by
  obtain⟨ρ1,ρ2,h1,h2,h3⟩:=hs 0 d ρ0 rfl h0
  obtain⟨ρ',h4,h5⟩:=zo P ds (k+1) ρ2 h3 fun i d' ρ e p=>by
   have q:=hs (i+1) d' ρ (by simpa using e) (by rw[show k+(i+1)=k+1+i by omega];exact p)
   rw[show k+(i+1)+1=k+1+i+1 by omega] at q
   exact q
  refine⟨ρ',?_,?_⟩
  ·simp[Bd,h1,h2,h4]
  ·rw[show k+(d::ds).length=k+1+ds.length by simp;omega];exact h5
theorem kQ{n:Int}{i:Nat}{d:D}(e:(uD 0 n)[i]?=some d):d=.int i/\(i:Int)<n:=by
 unfold uD at e
 rw[List.getElem?_map] at e
 cases q:(List.range (n - 0).toNat)[i]? with
 | none=>rw[q] at e;cases e
 | some k =>
  rw[q] at e
  obtain⟨h1,h2⟩:=List.getElem?_eq_some_iff.mp q
  simp at h1 h2
  subst h2
  have e':D.int (0+(i:Int))=d:=Option.some.inj e
  rw[Int.zero_add] at e'
  exact⟨e'.symm,by omega⟩
theorem fL(n:Int):(uD 0 n).length=n.toNat:=by simp[uD]
theorem xY{xs:LD}{i:Int}(h0:0<=i)(h1:i<xs.length):∃x,x∈xs/\Fi xs i=some x:=by
 have h2:i.toNat<xs.length:=by omega
 refine⟨xs[i.toNat],List.getElem_mem h2,?_⟩
 unfold Fi K7
 rw[if_pos h0,if_pos h1]
 simp[h2]
inductive Fits:D->Prop
 | non:Fits .non
 | bl (b:Bool):Fits (.bl b)
 | int (i:Int):Fits (.int i)
 | str (x:Str):Fits (.str x)
 | tup {xs:LD}:xs.length<=1000->(∀x∈xs,Fits x)->Fits (.tup xs)
end HW
set_option maxHeartbeats 1000000
namespace HW
open PySem PySem.Spec PyProof.Rows L2
def LH(x:Str):It:=⟨fun i _=>i<x.cps.size,fun i H v H'=>H'=H/\∃c,x.cps[i]?=some c/\v=.str ⟨#[c]⟩,fun i _=>x.cps.size<=i⟩
theorem FD{P:Program}{w:World}{K:W.Frag}{tg:Expr}(it:Addr)(x:Str)(t:Tok):Turn P w K tg (LH x) [it] it (fun i h=>h.IsStrIter it "str_ascii_iterator" x t i) where
 mem:=by simp
 obj:=fun i h st b hb=>by
  have e:b=it:=by simpa using hb
  subst e
  obtain⟨o,e,c,d⟩:=st
  exact⟨o,e,fun v z=>by rw[d] at z;cases z⟩
 keep:=fun i h h' st k=>by
  obtain⟨o,e,r⟩:=st
  exact⟨o,k it (by simp) o e,r⟩
 item:=by
  intro X hP hw hK hc i pins s σ H E I hf st hg
  subst hP hw hK
  have hg':i<x.cps.size:=hg
  obtain⟨f0,f1,f2,f3,f4,f5⟩:=hf it (by simp)
  refine wpAny_pyNext_ascii_item st (c:=x.cps[i]) (by simp[hg']) fun h' st' sb=>?_
  have I1:L2.Inv X pins σ H {s with heap:=h',toks:=s.toks+1}:=I.turned (t':=s.toks+1) (fun b o hb e=>(sb.2 b hb).trans e) f0 f1 f3 f4 f5
  obtain⟨o,e,c,d⟩:=id st'
  exact⟨_,rfl,DM (s:={s with heap:=h',toks:=s.toks+1}) e c d (by decide) ⟨.str ⟨#[x.cps[i]]⟩,H,I1,⟨_,rfl⟩,⟨rfl,_,by simp[hg'],rfl⟩,st',fun b hb=>(hf b hb).1⟩⟩
 done:=by
  intro X hP hw hK hc i pins s σ H E I hf st hg
  subst hP hw hK
  have hg':x.cps.size<=i:=hg
  obtain⟨f0,f1,f2,f3,f4,f5⟩:=hf it (by simp)
  exact wpAny_pyNext_ascii_end (I.ok.hd hc) st (by simp;omega) fun h' eb=>⟨rfl,I.turned (t':=s.toks) (fun b o hb e=>eb b o hb e) f0 f1 f3 f4 f5⟩
 self:=fun _ _ _ _ _ st h=>wpAny_pyIter_striter_ascii st h
def Hu(H:Hp)(k a:Nat)(ks:List Str)(vs:List V):Prop:=match k with
 | 0=>vs.length<=sizeLine/\∃(its:List Value) (n:Nat),l3 vs its/\H a=some (.frz {cls:=.type "list",data:=.seq its.toArray n} (.own 0))
 | 1=>ks.length=vs.length/\H a=some (.dK ((ks.map Sum.inr).zip vs))
 | C+2=>ks.length=vs.length/\∃dx,H a=some (.ins C dx (ks.zip vs))
theorem Hu.to{H H':Hp}{k a:Nat}{ks:List Str}{vs:List V}(h:Hu H k a ks vs)(e:∀u,H a=some u->(∀ φ,u≠.ext φ)->H' a=some u):Hu H' k a ks vs:=by
 match k,h with
 | 0,⟨z,its,n,r,q⟩=>exact⟨z,its,n,r,e _ q fun φ z=>by cases z⟩
 | 1,⟨z,q⟩=>exact⟨z,e _ q fun φ z=>by cases z⟩
 | C+2,⟨z,dx,q⟩=>exact⟨z,dx,e _ q fun φ z=>by cases z⟩
mutual
def Rep(K:W.Frag)(H:Hp):D->V->Prop
 | .non,v=>v=.non
 | .bl b,v=>v=.bl b
 | .int i,v=>v=.int i
 | .str x,v=>v=.str x
 | .tup ds,v=>∃a xs,v=.ref a/\vC K H a xs/\i6 K H ds xs
 | .lst ds,v=>∃a xs,v=.ref a/\H a=some (.lst xs)/\i6 K H ds xs
 | .fro ds,v=>∃a xs,v=.ref a/\u4 K H a xs/\i6 K H ds xs
 | .obj k a ks ds,v=>∃xs,v=.ref a/\Hu H k a ks xs/\i6 K H ds xs
 | .rf a,v=>v=.ref a
def i6(K:W.Frag)(H:Hp):LD->List V->Prop
 | [],vs=>vs=[]
 | d::ds,vs=>∃v r,vs=v::r/\Rep K H d v/\i6 K H ds r
end
theorem LU{K:W.Frag}{H H':Hp}{a:Addr}{xs:List V}(e:i7 H H')(h:vC K H a xs):vC K H' a xs:=by
 rcases h with (h | ⟨o,h⟩) | h
 ·exact .inl (.inl (e _ _ h))
 ·exact .inl (.inr ⟨o,e _ _ h⟩)
 ·exact .inr h
mutual
theorem Rep.mono{K:W.Frag}{H H':Hp}(s:i7 H H'):∀{d:D} {v:V},Rep K H d v->Rep K H' d v
 | .non,_,h=>h
 | .bl _,_,h=>h
 | .int _,_,h=>h
 | .str _,_,h=>h
 | .tup ds,_,h=>by
  obtain⟨a,xs,e,q,r⟩:=h
  exact⟨a,xs,e,LU s q,i6.mono s r⟩
 | .lst ds,_,h=>by
  obtain⟨a,xs,e,q,r⟩:=h
  exact⟨a,xs,e,s _ _ q,i6.mono s r⟩
 | .fro ds,_,h=>by
  obtain⟨a,xs,e,q,r⟩:=h
  exact⟨a,xs,e,s.seq q,i6.mono s r⟩
 | .obj k a ks ds,_,h=>by
  obtain⟨xs,e,q,r⟩:=h
  exact⟨xs,e,q.to fun u z _=>s _ u z,i6.mono s r⟩
 | .rf _,_,h=>h
theorem i6.mono{K:W.Frag}{H H':Hp}(s:i7 H H'):∀{ds:LD} {vs:List V},i6 K H ds vs->i6 K H' ds vs
 | [],_,h=>h
 | d::ds,_,h=>by
  obtain⟨v,r,e,q,t⟩:=h
  exact⟨v,r,e,Rep.mono s q,i6.mono s t⟩
end
section
variable{K:W.Frag}{H:Hp}
theorem i6.length:∀{ds:LD} {vs:List V},i6 K H ds vs->ds.length=vs.length
 | [],_,h=>by cases (show _=[] from h);rfl
 | d::ds,_,h=>by
  obtain⟨v,r,e,q,t⟩:=h
  subst e
  simp[i6.length t]
theorem i6.get:∀{ds:LD} {vs:List V} {i:Nat} {d:D},i6 K H ds vs->ds[i]?=some d->∃v,vs[i]?=some v/\Rep K H d v
 | [],_,_,_,_,e=>by simp at e
 | d::ds,_,0,_,h,e=>by
  obtain⟨v,r,e',q,t⟩:=h
  subst e'
  simp at e
  subst e
  exact⟨v,by simp,q⟩
 | d::ds,_,i+1,_,h,e=>by
  obtain⟨v,r,e',q,t⟩:=h
  subst e'
  obtain⟨u,h1,h2⟩:=i6.get (i:=i) t (by simpa using e)
  exact⟨u,by simpa using h1,h2⟩
theorem i6.append:∀{ds es:LD} {vs us:List V},i6 K H ds vs->i6 K H es us->i6 K H (ds++es) (vs++us)
 | [],_,_,_,h,t=>by cases (show _=[] from h);exact t
 | d::ds,_,_,_,h,t=>by
  obtain⟨v,r,e',q,t'⟩:=h
  subst e'
  exact⟨v,_,rfl,q,i6.append t' t⟩
theorem i6.drop:∀(n:Nat) {ds:LD} {vs:List V},i6 K H ds vs->i6 K H (ds.drop n) (vs.drop n)
 | 0,_,_,h=>by simpa using h
 | n+1,[],_,h=>by cases (show _=[] from h);exact rfl
 | n+1,d::ds,_,h=>by
  obtain⟨v,r,e',q,t'⟩:=h
  subst e'
  simpa using i6.drop n t'
theorem i6.take:∀(n:Nat) {ds:LD} {vs:List V},i6 K H ds vs->i6 K H (ds.take n) (vs.take n)
 | 0,_,_,h=>by simp only[List.take_zero];exact rfl
 | n+1,[],_,h=>by cases (show _=[] from h);exact rfl
 | n+1,d::ds,_,h=>by
  obtain⟨v,r,e',q,t'⟩:=h
  subst e'
  rw[List.take_succ_cons,List.take_succ_cons]
  exact⟨v,_,rfl,q,i6.take n t'⟩
theorem i6.one{d:D}{v:V}(h:Rep K H d v):i6 K H [d] [v]:=⟨v,[],rfl,h,rfl⟩
theorem i6.nil:i6 K H [] []:=rfl
theorem i6.cons{d:D}{v:V}{ds:LD}{vs:List V}(h:Rep K H d v)(t:i6 K H ds vs):i6 K H (d::ds) (v::vs):=⟨v,vs,rfl,h,t⟩
theorem i6.reverse:∀{ds:LD} {vs:List V},i6 K H ds vs->i6 K H ds.reverse vs.reverse
 | [],_,h=>by cases (show _=[] from h);exact rfl
 | d::ds,_,h=>by
  obtain⟨v,r,e',q,t'⟩:=h
  subst e'
  rw[List.reverse_cons,List.reverse_cons]
  exact i6.append (i6.reverse t') (i6.one q)
def sZ(K:W.Frag)(H:Hp)(ρ:R)(σ:L2.St):Prop:=ρ.length<=σ.length/\∀(i:Nat) (d:D),ρ[i]?=some (some d)->∃v,σ[i]?=some (some v)/\Rep K H d v
theorem sZ.mono{H':Hp}{ρ:R}{σ:L2.St}(e:sZ K H ρ σ)(s:i7 H H'):sZ K H' ρ σ:=⟨e.1,fun i d h=>let ⟨v,a,b⟩:=e.2 i d h;⟨v,a,b.mono s⟩⟩
theorem sZ.at{ρ:R}{σ:L2.St}(e:sZ K H ρ σ){i:Nat}{d:D}(h:c6 i ρ=some d):∃v,σ[i]?=some (some v)/\Rep K H d v:=by
 refine e.2 i d ?_
 unfold c6 at h
 rw[List.getD_eq_getElem?_getD] at h
 cases q:ρ[i]? with
 | none=>rw[q] at h;cases h
 | some o=>rw[q] at h;cases (show o=some d from h);rfl
theorem sZ.set{ρ:R}{σ:L2.St}(e:sZ K H ρ σ){i:Nat}{d:D}{v:V}(r:Rep K H d v):sZ K H (ρ.set i (some d)) (σ.set i (some v)):=by
 refine⟨by simpa using e.1,fun j c h=>?_⟩
 by_cases hj:i=j
 ·subst hj
  by_cases hi:i<ρ.length
  ·rw[List.getElem?_set_self hi] at h
   cases h
   exact⟨v,by rw[List.getElem?_set_self (Nat.lt_of_lt_of_le hi e.1)],r⟩
  ·rw[List.getElem?_eq_none (by simpa using hi)] at h
   cases h
 ·rw[List.getElem?_set_ne hj] at h ⊢
  exact e.2 j c h
theorem sZ.front{ρ:R}{σ:L2.St}(e:sZ K H ρ σ)(k:Nat)(τ:L2.St)(hk:τ.length=k):sZ K H (List.replicate k none++ρ) (τ++σ):=by
 subst hk
 refine⟨by simpa using e.1,fun i d h=>?_⟩
 by_cases hi:i<τ.length
 ·rw[List.getElem?_append_left (by simpa using hi),List.getElem?_replicate] at h
  split at h<;>cases h
 ·rw[List.getElem?_append_right (by simpa using hi),List.length_replicate] at h
  rw[List.getElem?_append_right (by simpa using hi)]
  exact e.2 _ d h
end
def sY(K:W.Frag)(H:Hp)(ρ:R)(τ:L2.St)(σ:L2.St):Prop:=sZ K H ρ σ/\σ.drop ρ.length=τ
theorem sZ.t{K:W.Frag}{H:Hp}{ρ:R}{σ:L2.St}(e:sZ K H ρ σ):sY K H ρ (σ.drop ρ.length) σ:=⟨e,rfl⟩
theorem sY.mono{K:W.Frag}{H H':Hp}{ρ:R}{τ σ:L2.St}(e:sY K H ρ τ σ)(s:i7 H H'):sY K H' ρ τ σ:=⟨e.1.mono s,e.2⟩
theorem sY.set{K:W.Frag}{H:Hp}{ρ:R}{τ σ:L2.St}(e:sY K H ρ τ σ){i:Nat}{d:D}{v:V}(hi:i<ρ.length)(r:Rep K H d v):sY K H (ρ.set i (some d)) τ (σ.set i (some v)):=by
 refine⟨e.1.set r,?_⟩
 rw[List.length_set,List.drop_set_of_lt hi]
 exact e.2
section
variable(K:W.Frag)
def tD(f:R->OD):TE:=fun σ H Q=>∃ ρ d,sZ K H ρ σ/\f ρ=some d/\∀v H',i7 H H'->Rep K H' d v->Q v H'
def Lb(f:R->Option Bool):TT:=fun σ H Q=>∃ ρ b,sZ K H ρ σ/\f ρ=some b/\∀H',i7 H H'->Q b H'
def KC(f:R->Option LD):TA:=fun σ H Q=>∃ ρ ds,sZ K H ρ σ/\f ρ=some ds/\∀vs H',i7 H H'->i6 K H' ds vs->Q vs H'
def Oj(f:R->Option (Option Int)):TO:=fun σ H Q=>∃ ρ o,sZ K H ρ σ/\f ρ=some o/\∀H',i7 H H'->Q o H'
def fin(E:Ends)(τ:L2.St)(o:Out)(H':Hp):Prop:=
 match o with
 | .nx ρ=>∀ σ,sY K H' ρ τ σ->E.nx σ H'
 | .rt d=>∀v,Rep K H' d v->E.rt v H'
 | .bk ρ=>∀ σ,sY K H' ρ τ σ->E.bk σ H'
 | .ct ρ=>∀ σ,sY K H' ρ τ σ->E.ct σ H'
def Iy(f:R->Option Out):TS:=fun E σ H=>∃ ρ τ o,sY K H ρ τ σ/\f ρ=some o/\∀H',i7 H H'->fin K E τ o H'
def Ot(st:D->R->Option R):TG:=fun v σ H Q=>∃ ρ τ d ρ',sY K H ρ τ σ/\Rep K H d v/\st d ρ=some ρ'/\∀ σ' H',i7 H H'->sY K H' ρ' τ σ'->Q σ' H'
def Kp(H H':Hp):Prop:=∀b u,H b=some u->(∀ φ,u≠.ext φ)->H' b=some u
def vV(J:It)(ds:LD)(H:Hp):Prop:=
 (∀(i:Nat) (d:D) (H2:Hp),Kp H H2->ds[i]?=some d->J.go i H2/\∀x H3,J.yld i H2 x H3->i7 H2 H3/\Rep K H3 d x)/\∀(i:Nat) (H2:Hp),Kp H H2->ds.length<=i->J.stop i H2
def N7(f:R->Option LD):TI:=fun σ H W=>∃ ρ ds,sZ K H ρ σ/\f ρ=some ds/\∀J H',i7 H H'->vV K J ds H'->W J H'
def tQ(F:LD->OD):Sp:=fun vs H Q _=>∃ds d,i6 K H ds vs/\F ds=some d/\∀v H',i7 H H'->Rep K H' d v->Q v H'
end
def SE(X:Cx)(e:Expr)(f:R->OD):Prop:=PE X e (tD X.K f)
def ST(X:Cx)(e:Expr)(f:R->Option Bool):Prop:=PT X e (Lb X.K f)
def SW(X:Cx)(e:Expr)(f:R->Option Bool):Prop:=PW X e (Lb X.K f)
def noStar:Expr->Bool
 | .Starred _ _=>false
 | _=>true
theorem aE{e:Expr}(es:List Expr)(env:Env)(h:noStar e=true):starEach (e::es) env=(false,eval e env)::starEach es env:=by
 cases e<;>first | rfl | cases h
theorem bu{pos:Pos}{env:Env}:∀{es:List Expr},es.all noStar=true->(backTo pos (starEach es env)).any (·.1)=false
 | [],_=>rfl
 | e::es,h=>by
  rw[List.all_cons,Bool.and_eq_true] at h
  rw[aE es env h.1]
  show(false||(backTo pos (starEach es env)).any (·.1))=false
  rw[bu h.2]
  rfl
def SA(X:Cx)(es:List Expr)(f:R->Option LD):Prop:=PA X es (KC X.K f)/\(∀ ρ ds,f ρ=some ds->ds.length=es.length)/\es.all noStar=true
def SO(X:Cx)(e:Option Expr)(f:R->Option (Option Int)):Prop:=PO X e (Oj X.K f)
def S1(X:Cx)(s:Stmt)(f:R->Option Out):Prop:=PS X s (Iy X.K f)
def SS(X:Cx)(s:List Stmt)(f:R->Option Out):Prop:=PSs X s (Iy X.K f)
def SG(X:Cx)(e:Expr)(st:D->R->Option R):Prop:=PG X e (Ot X.K st)
def SI(X:Cx)(tg iter:Expr)(f:R->Option LD):Prop:=PI X tg iter (N7 X.K f)
section
variable{X:Cx}{e a b c:Expr}{es:List Expr}{pos p:Pos}
theorem _root_.L2.PE.imp{t t':TE}(h:PE X e t)(hi:∀ σ H Q,t' σ H Q->t σ H Q):PE X e t':=fun pins s σ H Q I q=>h pins s σ H Q I (hi σ H Q q)
theorem _root_.L2.PT.imp{t t':TT}(h:PT X e t)(hi:∀ σ H Q,t' σ H Q->t σ H Q):PT X e t':=fun pins s σ H Q I q=>h pins s σ H Q I (hi σ H Q q)
theorem _root_.L2.PW.imp{t t':TT}(h:PW X e t)(hi:∀ σ H Q,t' σ H Q->t σ H Q):PW X e t':=fun wh pins s σ H Q I q=>h wh pins s σ H Q I (hi σ H Q q)
theorem _root_.L2.PA.imp{t t':TA}(h:PA X es t)(hi:∀ σ H Q,t' σ H Q->t σ H Q):PA X es t':=fun pos pins s σ H Q I q=>h pos pins s σ H Q I (hi σ H Q q)
theorem _root_.L2.PO.imp{e:Option Expr}{t t':TO}(h:PO X e t)(hi:∀ σ H Q,t' σ H Q->t σ H Q):PO X e t':=fun pins s σ H Q I q=>h pins s σ H Q I (hi σ H Q q)
theorem _root_.L2.PS.imp{s:Stmt}{t t':TS}(h:PS X s t)(hi:∀E σ H,t' E σ H->t E σ H):PS X s t':=fun pins s σ H E I q=>h pins s σ H E I (hi E σ H q)
theorem _root_.L2.PSs.imp{s:List Stmt}{t t':TS}(h:PSs X s t)(hi:∀E σ H,t' E σ H->t E σ H):PSs X s t':=fun pins s σ H E I q=>h pins s σ H E I (hi E σ H q)
theorem _root_.L2.PG.imp{t t':TG}(h:PG X e t)(hi:∀v σ H Q,t' v σ H Q->t v σ H Q):PG X e t':=fun pins s σ H v u Q I r q=>h pins s σ H v u Q I r (hi v σ H Q q)
theorem _root_.L2.PGs.imp{t t':Ik}(h:PGs X es t)(hi:∀v σ H Q,t' v σ H Q->t v σ H Q):PGs X es t':=fun pins s σ H v u Q I r q=>h pins s σ H v u Q I r (hi v σ H Q q)
theorem _root_.L2.PI.imp{tg:Expr}{t t':TI}(h:PI X tg e t)(hi:∀ σ H Q,t' σ H Q->t σ H Q):PI X tg e t':=fun pins s σ H W I q=>h pins s σ H W I (hi σ H W q)
theorem e9{α β:Type}{o:Option α}{f:α->Option β}{y:β}(h:o.bind f=some y):∃x,o=some x/\f x=some y:=by
 cases o with
 | none=>cases h
 | some x=>exact⟨x,rfl,h⟩
theorem p9{α β:Type}{o:Option α}{f:α->β}{y:β}(h:o.map f=some y):∃x,o=some x/\f x=y:=by
 cases o with
 | none=>cases h
 | some x=>exact⟨x,rfl,Option.some.inj h⟩
theorem ad(i:Nat){x:Str}(hN:X.N[i]?=some x:=by rfl)(hv:z8 X.env.scope x:=by first | exact Or.inl rfl | exact Or.inr (Or.inl rfl) | exact Or.inr (Or.inr rfl))(hd:(x==("__debug__" : Str))=false:=by decide)
  (hcd:(x==("__classdict__" : Str))=false:=by decide):SE X (.Name x pos) (c6 i):=(iR hN hv hd hcd).imp fun σ H Q ⟨ρ,d,er,e,q⟩=>by
 obtain⟨v,h1,h2⟩:=er.at e
 exact⟨v,h1,q v H (i7.refl H) h2⟩
theorem ae{i j}:SE X (.Constant (.int i) j pos) (kI i):=Jz.imp fun σ H Q ⟨ρ,d,er,e,q⟩=>by
 cases e
 exact q _ H (i7.refl H) rfl
theorem dt{b j}:SE X (.Constant (.bool b) j pos) (fun _=>some (.bl b)):=KL.imp fun σ H Q ⟨ρ,d,er,e,q⟩=>by
 cases e
 exact q _ H (i7.refl H) rfl
theorem aX{j}:SE X (.Constant .none j pos) (fun _=>some .non):=IN.imp fun σ H Q ⟨ρ,d,er,e,q⟩=>by
 cases e
 exact q _ H (i7.refl H) rfl
theorem aB{x j}:SE X (.Constant (.str x) j pos) (fun _=>some (.str x)):=Gz.imp fun σ H Q ⟨ρ,d,er,e,q⟩=>by
 cases e
 exact q _ H (i7.refl H) rfl
def t6(K:W.Frag)(mg:Str->Option Value)(x:Str)(d:D):Prop:=∃u v,mg x=some u/\RelV v u/\∀H,Rep K H d v
theorem au{x:Str}{d:D}(h:t6 X.K X.mg x d)(hg:Gl X x:=by rfl)(hd:(x==("__debug__" : Str))=false:=by decide):SE X (.Name x pos) (fun _=>some d):=by
 obtain⟨u,v,hm,r,hr⟩:=h
 exact(ka hg hm r hd).imp fun σ H Q ⟨ρ,d',er,e,q⟩=>by
  cases e
  exact q v H (i7.refl H) (hr H)
def Kn(X:Cx)(f:Value->Value->Sem Value)(F:D->D->OD):Prop:=
 OpR X f fun x y H Q=>∃dx dy d,Rep X.K H dx x/\Rep X.K H dy y/\F dx dy=some d/\∀v H',i7 H H'->Rep X.K H' d v->Q v H'
def CI(X:Cx)(op:CmpOp)(F:D->D->Option Bool):Prop:=
 OpR X (compareOp op) fun x y H Q=>∃dx dy b,Rep X.K H dx x/\Rep X.K H dy y/\F dx dy=some b/\Q (.bl b) H
def NP(X:Cx)(f:Value->Sem Value)(F:D->OD):Prop:=
 UnR X f fun x H Q=>∃dx d,Rep X.K H dx x/\F dx=some d/\∀v H',i7 H H'->Rep X.K H' d v->Q v H'
def Kl(X:Cx)(f:Value)(F:LD->OD):Prop:=
 CallR X f fun xs H Q=>∃ds d,i6 X.K H ds xs/\F ds=some d/\∀v H',i7 H H'->Rep X.K H' d v->Q v H'
theorem _root_.L2.OpR.imp{f:Value->Value->Sem Value}{r r':R2}(h:OpR X f r)(hi:∀x y H Q,r' x y H Q->r x y H Q):OpR X f r':=fun pins s σ H x y v u Q I rx ry q=>h pins s σ H x y v u Q I rx ry (hi x y H Q q)
theorem _root_.L2.UnR.imp{f:Value->Sem Value}{r r':V->Hp->VK->Prop}(h:UnR X f r)(hi:∀x H Q,r' x H Q->r x H Q):UnR X f r':=fun pins s σ H x v Q I rx q=>h pins s σ H x v Q I rx (hi x H Q q)
theorem _root_.L2.CallR.imp{f:Value}{r r':List V->Hp->VK->Prop}(h:CallR X f r)(hi:∀x H Q,r' x H Q->r x H Q):CallR X f r':=fun pins s σ H xs us Q I rx q=>h pins s σ H xs us Q I rx (hi xs H Q q)
variable{f g h:R->OD}
theorem two{σ:L2.St}{H:Hp}{Q:VK}{F:D->D->OD}(q:tD X.K (g9 F f g) σ H Q) :
  tD X.K f σ H fun x H1=>tD X.K g σ H1 fun y H2=>∃dx dy d,Rep X.K H2 dx x/\Rep X.K H2 dy y/\F dx dy=some d/\∀v H',i7 H2 H'->Rep X.K H' d v->Q v H':=by
 obtain⟨ρ,d,er,e,q⟩:=q
 obtain⟨x,e1,e⟩:=e9 e
 obtain⟨y,e2,e⟩:=e9 e
 exact⟨ρ,x,er,e1,fun v H1 s1 r1=>⟨ρ,y,er.mono s1,e2,fun u H2 s2 r2=>⟨x,y,d,r1.mono s2,r2,e,fun w H3 s3 r3=>q w H3 (s1.trans (s2.trans s3)) r3⟩⟩⟩
theorem ak{op:Operator}{F:D->D->OD}(ho:Kn X (binaryOp op) F)(ha:SE X a f)(hb:SE X b g):SE X (.BinOp a op b pos) (g9 F f g):=(sE ho ha hb).imp fun σ H Q q=>two q
theorem rj{op:UnaryOp}{F:D->OD}(ho:NP X (unaryOp op) F)(ha:SE X a f):SE X (.UnaryOp op a pos) (vT F f):=(sA ho ha).imp fun σ H Q ⟨ρ,d,er,e,q⟩=>by
 obtain⟨x,e1,e⟩:=e9 e
 exact⟨ρ,x,er,e1,fun v H1 s1 r1=>⟨x,d,r1,e,fun w H2 s2 r2=>q w H2 (s1.trans s2) r2⟩⟩
theorem Nu{σ:L2.St}{H:Hp}{Q:Bool->Hp->Prop}{F:D->D->Option Bool}(q:Lb X.K (k9 F f g) σ H Q) :
  tD X.K f σ H fun x H1=>tD X.K g σ H1 fun y H2=>∃dx dy b,Rep X.K H2 dx x/\Rep X.K H2 dy y/\F dx dy=some b/\Q b H2:=by
 obtain⟨ρ,d,er,e,q⟩:=q
 obtain⟨x,e1,e⟩:=e9 e
 obtain⟨y,e2,e⟩:=e9 e
 exact⟨ρ,x,er,e1,fun v H1 s1 r1=>⟨ρ,y,er.mono s1,e2,fun u H2 s2 r2=>⟨x,y,d,r1.mono s2,r2,e,q H2 (s1.trans s2)⟩⟩⟩
theorem JB{σ:L2.St}{H:Hp}{Q:VK}{f:R->Option Bool}(q:tD X.K (BD f) σ H Q):Lb X.K f σ H fun b H'=>Q (.bl b) H':=by
 obtain⟨ρ,d,er,e,q⟩:=q
 obtain⟨x,e1,e⟩:=p9 e
 subst e
 exact⟨ρ,x,er,e1,fun H1 s1=>q _ H1 s1 rfl⟩
theorem dC{op:CmpOp}{F:D->D->Option Bool}(ho:CI X op F)(ha:SE X a f)(hb:SE X b g)(hm:behindInMarks op b=false:=by first | exact A7 _ | with_unfolding_all rfl) :
  SE X (.Compare a [op] [b] pos) (BD (k9 F f g)):=(nU ho ha hb hm).imp fun σ H Q q=>Nu (JB q)
theorem aF{op:CmpOp}{F:D->D->Option Bool}(ho:CI X op F)(ha:SE X a f)(hb:SE X b g)(hm:behindInMarks op b=false:=by first | exact A7 _ | with_unfolding_all rfl) :
  ST X (.Compare a [op] [b] pos) (k9 F f g):=(ow ho ha hb hm).imp fun σ H Q q=>by
 obtain⟨ρ,d,er,e,q⟩:=q
 obtain⟨x,e1,e⟩:=e9 e
 obtain⟨y,e2,e⟩:=e9 e
 exact⟨ρ,x,er,e1,fun v H1 s1 r1=>⟨ρ,y,er.mono s1,e2,fun u H2 s2 r2=>⟨x,y,d,r1.mono s2,r2,e,d,rfl,q H2 (s1.trans s2)⟩⟩⟩
theorem HB{H:Hp}{d:D}{v:V}{b:Bool}{K:W.Frag}(r:Rep K H d v)(e:IP d=some b):JX K v H b:=by
 cases d with
 | non=>cases (show v=_ from r);cases e;exact rfl
 | bl c=>cases (show v=_ from r);cases e;exact rfl
 | int i=>cases (show v=_ from r);cases e;exact rfl
 | str x =>
  cases (show v=_ from r)
  unfold IP at e
  dsimp only at e
  split at e
  ·rename_i hx
   cases e
   exact⟨hx,rfl⟩
  ·cases e
 | tup ds =>
  obtain⟨a,xs,rfl,q,t⟩:=r
  cases e
  refine .inr (.inl ⟨xs,q,?_⟩)
  cases ds with
  | nil=>cases (show xs=[] from t);rfl
  | cons d ds=>obtain⟨_,_,rfl,_⟩:=t;rfl
 | lst ds =>
  obtain⟨a,xs,rfl,q,t⟩:=r
  cases e
  refine .inl ⟨xs,u4.of q,?_⟩
  cases ds with
  | nil=>cases (show xs=[] from t);rfl
  | cons d ds=>obtain⟨_,_,rfl,_⟩:=t;rfl
 | fro ds =>
  obtain⟨a,xs,rfl,q,t⟩:=r
  cases e
  refine .inl ⟨xs,q,?_⟩
  cases ds with
  | nil=>cases (show xs=[] from t);rfl
  | cons d ds=>obtain⟨_,_,rfl,_⟩:=t;rfl
 | obj k a ks ds=>cases e
 | rf a=>cases e
theorem db(ha:SE X a f)(he:∀whole,isTrue a X.env whole=(do let v <- whole;standAt a.pos;holding [v] (truthy v)):=by intro _;rfl):ST X a (v8 f):=(qm ha he).imp fun σ H Q ⟨ρ,b,er,e,q⟩=>by
 obtain⟨x,e1,e⟩:=e9 e
 exact⟨ρ,x,er,e1,fun v H1 s1 r1=>⟨b,HB r1 e,q H1 s1⟩⟩
variable{s t:R->Option Bool}{rest:List Expr}
theorem fQ{e:Expr}(h:SW X e s):ST X e s:=PW.pt h
theorem kP(ha:ST X a s):SW X (.BoolOp .And [a] pos) s:=G1 ha
theorem fR(ha:ST X a s):SW X (.BoolOp .Or [a] pos) s:=Jb ha
theorem nh(ha:ST X a s)(hb:SW X (.BoolOp .And (b::rest) pos) t):SW X (.BoolOp .And (a::b::rest) pos) (BR s t):=(Je ha hb).imp fun σ H Q ⟨ρ,k,er,e,q⟩=>by
 obtain⟨x,e1,e⟩:=e9 e
 refine⟨ρ,x,er,e1,fun H1 s1=>?_⟩
 cases x with
 | false=>cases e;rw[if_neg Bool.false_ne_true];exact q H1 s1
 | true=>rw[if_pos rfl] at e ⊢;exact⟨ρ,k,er.mono s1,e,fun H2 s2=>q H2 (s1.trans s2)⟩
theorem gZ(ha:ST X a s)(hb:SW X (.BoolOp .Or (b::rest) pos) t):SW X (.BoolOp .Or (a::b::rest) pos) (BF s t):=(KI ha hb).imp fun σ H Q ⟨ρ,k,er,e,q⟩=>by
 obtain⟨x,e1,e⟩:=e9 e
 refine⟨ρ,x,er,e1,fun H1 s1=>?_⟩
 cases x with
 | true=>cases e;rw[if_pos rfl];exact q H1 s1
 | false=>rw[if_neg Bool.false_ne_true] at e ⊢;exact⟨ρ,k,er.mono s1,e,fun H2 s2=>q H2 (s1.trans s2)⟩
theorem ke(ha:ST X a s):ST X (.UnaryOp .Not a pos) (De s):=(rP ha).imp fun σ H Q ⟨ρ,k,er,e,q⟩=>by
 obtain⟨x,e1,e⟩:=p9 e
 subst e
 exact⟨ρ,x,er,e1,fun H1 s1=>q H1 s1⟩
theorem iH{op}(ha:SE X a f):SE X (.BoolOp op [a] pos) f:=sj ha
theorem iU(ha:SE X a f)(hb:SE X (.BoolOp .And (b::rest) pos) g):SE X (.BoolOp .And (a::b::rest) pos) (A1 f g):=(pM ha hb).imp fun σ H Q ⟨ρ,d,er,e,q⟩=>by
 obtain⟨x,e1,e⟩:=e9 e
 refine⟨ρ,x,er,e1,fun v H1 s1 r1=>?_⟩
 cases x with
 | bl c =>
  cases (show v=_ from r1)
  refine⟨c,rfl,?_⟩
  cases c with
  | false=>cases e;rw[if_neg Bool.false_ne_true];exact q _ H1 s1 rfl
  | true=>rw[if_pos rfl];exact⟨ρ,d,er.mono s1,e,fun v H2 s2 r2=>q v H2 (s1.trans s2) r2⟩
 | _=>cases e
theorem lf(ha:SE X a f):SE X (.UnaryOp .Not a pos) (C1 f):=(rY ha).imp fun σ H Q ⟨ρ,d,er,e,q⟩=>by
 obtain⟨x,e1,e⟩:=e9 e
 refine⟨ρ,x,er,e1,fun v H1 s1 r1=>?_⟩
 cases x with
 | bl c =>
  cases (show v=_ from r1)
  cases e
  exact⟨c,rfl,q _ H1 s1 rfl⟩
 | _=>cases e
theorem ft(hc:ST X c s)(ha:SE X a f)(hb:SE X b g):SE X (.IfExp c a b pos) (BH s f g):=(qh hc ha hb).imp fun σ H Q ⟨ρ,d,er,e,q⟩=>by
 obtain⟨x,e1,e⟩:=e9 e
 refine⟨ρ,x,er,e1,fun H1 s1=>?_⟩
 cases x with
 | true=>rw[if_pos rfl] at e ⊢;exact⟨ρ,d,er.mono s1,e,fun v H2 s2 r2=>q v H2 (s1.trans s2) r2⟩
 | false=>rw[if_neg Bool.false_ne_true] at e ⊢;exact⟨ρ,d,er.mono s1,e,fun v H2 s2 r2=>q v H2 (s1.trans s2) r2⟩
variable{F:R->Option LD}
theorem af:SA X [] c7:=⟨zy.imp fun σ H Q ⟨ρ,d,er,e,q⟩=>by cases e;exact q [] H (i7.refl H) rfl,fun ρ ds e=>by cases e;rfl,rfl⟩
theorem ac(ha:SE X e f)(hr:SA X es F)(hs:noStar e=true:=by rfl):SA X (e::es) (c4 f F):=⟨(el ha hr.1 (aE es X.env hs)).imp fun σ H Q ⟨ρ,ds,er,e,q⟩=>by
 obtain⟨x,e1,e⟩:=e9 e
 obtain⟨y,e2,e⟩:=p9 e
 subst e
 exact⟨ρ,x,er,e1,fun v H1 s1 r1=>⟨ρ,y,er.mono s1,e2,fun vs H2 s2 r2=>q _ H2 (s1.trans s2) (i6.cons (r1.mono s2) r2)⟩⟩,fun ρ ds e=>by
 obtain⟨x,e1,e⟩:=e9 e
 obtain⟨y,e2,e⟩:=p9 e
 subst e
 simp[hr.2.1 ρ y e2],by rw[List.all_cons,hs,hr.2.2];rfl⟩
theorem aQ{H:Hp}{p:Addr}(h:H p=none)(o:HO):i7 H (upd H p o):=fun b u q=>by rw[aq (tw q h)];exact q
theorem ay{k}(h:SA X es F)(hl:Nat.ble es.length 1000=true:=by rfl):SE X (.Tuple es k pos) (n5 F):=(kN h.1).imp fun σ H Q ⟨ρ,d,er,e,q⟩=>by
 obtain⟨ds,e1,e⟩:=p9 e
 subst e
 refine⟨ρ,ds,er,e1,fun vs H1 s1 r1=>⟨?_,fun p hp=>?_⟩⟩
 ·rw[<- r1.length,h.2.1 ρ ds e1];exact Nat.le_of_lt (xi (Nat.le_of_ble_eq_true hl))
 ·have s2:=aQ hp (.tup vs)
  exact q _ _ (s1.trans s2) ⟨p,vs,rfl,vC.of av,r1.mono s2⟩
theorem mR(h:SA X es F)(hl:Nat.ble es.length 1000=true:=by rfl):SE X (.List es pos) (FP F):=(mZ h.1).imp fun σ H Q ⟨ρ,d,er,e,q⟩=>by
 obtain⟨ds,e1,e⟩:=p9 e
 subst e
 refine⟨ρ,ds,er,e1,fun vs H1 s1 r1=>⟨?_,fun p hp=>?_⟩⟩
 ·rw[<- r1.length,h.2.1 ρ ds e1];exact Nat.le_of_lt (xi (Nat.le_of_ble_eq_true hl))
 ·have s2:=aQ hp (.lst vs)
  exact q _ _ (s1.trans s2) ⟨p,vs,rfl,av,r1.mono s2⟩
structure m7 (P:Program) (w:World) (K:W.Frag) (mg:Str->Option Value) (base:Heap) (k:Nat) (x:Str) (ps:List Str) (F:LD->OD):Prop where
 ex:∃f fd,k6 P w K mg base sR k f fd ps (tQ K F)/\mg x=some (.ref f)/\W.keepIn K (.ref f)=true/\Binds K fd ps []
theorem m7.mono{P:Program}{w:World}{K:W.Frag}{mg:Str->Option Value}{base:Heap}{j k:Nat}{x:Str}{ps:List Str}{F:LD->OD}(h:m7 P w K mg base j x ps F)(hk:j<=k):m7 P w K mg base k x ps F:=by
 obtain⟨f,fd,a,b⟩:=h.ex
 exact⟨f,fd,a.mono hk,b⟩
theorem m7.imp{P:Program}{w:World}{K:W.Frag}{mg:Str->Option Value}{base:Heap}{k:Nat}{x:Str}{ps:List Str}{F G:LD->OD}(h:m7 P w K mg base k x ps F)(hi:∀ds d,G ds=some d->F ds=some d):m7 P w K mg base k x ps G:=by
 obtain⟨f,fd,a,b⟩:=h.ex
 exact⟨f,fd,a.imp fun vs H Q E ⟨ds,d,r,e,q⟩=>⟨ds,d,r,hi ds d e,q⟩,b⟩
theorem ai{k:Nat}{x:Str}{ps:List Str}{G:LD->OD}(C:m7 X.prog X.w X.K X.mg X.base k x ps G)(hr:sL k X.A)(ha:SA X (e::es) F)(hg:Gl X x:=by rfl)
  (hdb:(x==("__debug__" : Str))=false:=by decide) :
  SE X (.Call (.Name x p) (e::es) [] pos) (c8 G F):=by
 have hst:=ha.2.2
 rw[List.all_cons,Bool.and_eq_true] at hst
 have he:=aE es X.env hst.1
 have hpl:=bu (pos:=pos) (env:=X.env) hst.2
 obtain⟨f,fd,a,m,kp,bd⟩:=C.ex
 refine(kY a hr hg m kp bd .nil wk ha.1 hdb he hpl).imp fun σ H Q ⟨ρ,d,er,e,q⟩=>?_
 obtain⟨ds,e1,e⟩:=e9 e
 exact⟨ρ,ds,er,e1,fun vs H1 s1 r1=>⟨ds,d,by rw[List.append_nil];exact r1,e,fun v H2 s2 r2=>q v H2 (s1.trans s2) r2⟩⟩
theorem bp{x:Str}{id:String}{G:LD->OD}(hc:Kl X (.builtin id) G)(hm:X.mg x=none)(ha:SA X (e::es) F)(hv:bootBuiltins x=some (.builtin id):=by kernel_rfl)(hg:Gl X x:=by rfl)(hn:x ≠ "__name__":=by decide)(hdb:(x==("__debug__" : Str))=false:=by decide):SE X (.Call (.Name x p) (e::es) [] pos) (c8 G F):=
 (pB hc hg hm hv ha.1 hn hdb (aE es X.env (List.all_eq_true.mp ha.2.2 e List.mem_cons_self)) (bu (List.all_eq_true.mpr fun x hx=>List.all_eq_true.mp ha.2.2 x (List.mem_cons_of_mem _ hx)))).imp fun σ H Q ⟨ρ,d,er,e,q⟩=>by
  obtain⟨ds,e1,e⟩:=e9 e
  exact⟨ρ,ds,er,e1,fun vs H1 s1 r1=>⟨ds,d,r1,e,fun v H2 s2 r2=>q v H2 (s1.trans s2) r2⟩⟩
theorem gj{x:Str}{T:String}{G:LD->OD}(hc:Kl X (.type T) G)(hm:X.mg x=none)(ha:SA X (e::es) F)(hv:bootBuiltins x=some (.type T):=by kernel_rfl)(hg:Gl X x:=by rfl)(hn:x ≠ "__name__":=by decide)(hdb:(x==("__debug__" : Str))=false:=by decide):SE X (.Call (.Name x p) (e::es) [] pos) (c8 G F):=
 (oQ hc hg hm hv ha.1 hn hdb (aE es X.env (List.all_eq_true.mp ha.2.2 e List.mem_cons_self)) (bu (List.all_eq_true.mpr fun x hx=>List.all_eq_true.mp ha.2.2 x (List.mem_cons_of_mem _ hx)))).imp fun σ H Q ⟨ρ,d,er,e,q⟩=>by
  obtain⟨ds,e1,e⟩:=e9 e
  exact⟨ρ,ds,er,e1,fun vs H1 s1 r1=>⟨ds,d,r1,e,fun v H2 s2 r2=>q v H2 (s1.trans s2) r2⟩⟩
def Og(X:Cx)(F:D->D->OD):Prop:=IxR X fun x y H Q=>∃dx dy d,Rep X.K H dx x/\Rep X.K H dy y/\F dx dy=some d/\∀v H',i7 H H'->Rep X.K H' d v->Q v H'
theorem _root_.L2.IxR.imp{r r':R2}(h:IxR X r)(hi:∀x y H Q,r' x y H Q->r x y H Q):IxR X r':=fun value slice pins s σ H x y v u Q I rx ry q hs=>h value slice pins s σ H x y v u Q I rx ry (hi x y H Q q) hs
theorem J8(n:Nat)(i:Int):K7 n i=LT n i:=rfl
theorem AX{K:W.Frag}{H:Hp}{ds:LD}{xs:List V}{i:Int}{d:D}(r:i6 K H ds xs)(e:Fi ds i=some d):∃v,J1 xs i=some v/\Rep K H d v:=by
 obtain⟨j,e1,e2⟩:=e9 e
 obtain⟨v,h1,h2⟩:=r.get e2
 refine⟨v,?_,h2⟩
 unfold J1
 rw[<- r.length,<- J8,e1]
 exact h1
theorem M4:Og X i9:=(Hr.or (I9.or Ji)).imp fun x y H Q ⟨dx,dy,d,r1,r2,e,q⟩=>by
 cases dx with
 | tup ds =>
  cases dy with
  | int i =>
   obtain⟨a,xs,e1,hq,t⟩:=r1
   cases (show y=_ from r2)
   obtain⟨v,h1,h2⟩:=AX t e
   exact .inr (.inl ⟨a,xs,i,v,e1,rfl,hq,h1,q v H (i7.refl H) h2⟩)
  | _=>cases e
 | lst ds =>
  cases dy with
  | int i =>
   obtain⟨a,xs,e1,hq,t⟩:=r1
   cases (show y=_ from r2)
   obtain⟨v,h1,h2⟩:=AX t e
   exact .inl ⟨a,xs,i,v,e1,rfl,u4.of hq,h1,q v H (i7.refl H) h2⟩
  | _=>cases e
 | fro ds =>
  cases dy with
  | int i =>
   obtain⟨a,xs,e1,hq,t⟩:=r1
   cases (show y=_ from r2)
   obtain⟨v,h1,h2⟩:=AX t e
   exact .inl ⟨a,xs,i,v,e1,rfl,hq,h1,q v H (i7.refl H) h2⟩
  | _=>cases e
 | str z =>
  cases dy with
  | int i =>
   cases (show x=_ from r1)
   cases (show y=_ from r2)
   unfold i9 at e
   dsimp only at e
   split at e
   ·rename_i hz
    obtain⟨c,e1,e2⟩:=p9 e
    subst e2
    exact .inr (.inr ⟨z,i,c,rfl,rfl,hz,(by rw[<- e1];rfl),q _ H (i7.refl H) rfl⟩)
   ·cases e
  | _=>cases e
 | _=>cases e
theorem ag(ha:SE X a f)(hb:SE X b g)(hs:Bm b:=by intro _ _;rfl):SE X (.Subscript a b pos) (g9 i9 f g):=(rk M4 ha hb hs).imp fun σ H Q q=>two q
variable{st:Stmt}{sts:List Stmt}{u w:R->Option Out}
theorem aW:SS X [] tH:=za.imp fun E σ H ⟨ρ,τ,o,er,e,q⟩=>by
 cases e
 exact q H (i7.refl H) σ er
theorem JC{E:Ends}{σ:L2.St}{H:Hp}{K:W.Frag}(q:Iy K (l9 u w) E σ H):Iy K u {E with nx:=Iy K w E} σ H:=by
 obtain⟨ρ,τ,o,er,e,q⟩:=q
 obtain⟨o1,e1,e⟩:=e9 e
 refine⟨ρ,τ,o1,er,e1,fun H1 s1=>?_⟩
 cases o1 with
 | nx ρ2=>exact fun σ2 er2=>⟨ρ2,τ,o,er2,e,fun H2 s2=>q H2 (s1.trans s2)⟩
 | rt d=>cases e;exact q H1 s1
 | bk ρ2=>cases e;exact q H1 s1
 | ct ρ2=>cases e;exact q H1 s1
theorem aj(h1:S1 X st u)(h2:SS X sts w):SS X (st::sts) (l9 u w):=(dP h1 h2).imp fun E σ H q=>JC q
theorem ao(h1:S1 X st u):SS X [st] u:=dA h1
theorem ax(ha:SE X a f):S1 X (.Return (some a) pos) (l6 f):=(iN ha).imp fun E σ H ⟨ρ,τ,o,er,e,q⟩=>by
 obtain⟨x,e1,e⟩:=p9 e
 subst e
 exact⟨ρ,x,er.1,e1,fun v H1 s1 r1=>q H1 s1 v r1⟩
theorem cO{B1 B2:List Stmt}(hc:ST X c s)(ha:SS X B1 u)(hb:SS X B2 w):S1 X (.If c B1 B2 pos) (yo s u w):=(lS hc ha hb).imp fun E σ H ⟨ρ,τ,o,er,e,q⟩=>by
 obtain⟨x,e1,e⟩:=e9 e
 refine⟨ρ,x,er.1,e1,fun H1 s1=>?_⟩
 cases x with
 | true=>rw[if_pos rfl] at e ⊢;exact⟨ρ,τ,o,er.mono s1,e,fun H2 s2=>q H2 (s1.trans s2)⟩
 | false=>rw[if_neg Bool.false_ne_true] at e ⊢;exact⟨ρ,τ,o,er.mono s1,e,fun H2 s2=>q H2 (s1.trans s2)⟩
theorem al(i:Nat){x:Str}(hN:X.N.Nodup)(hi:X.N[i]?=some x:=by rfl)(hx:Loc X.env.scope x:=by first | exact Or.inl rfl | exact Or.inr rfl)(hf:X.fn x=true\/X.env.scope.names.lookup x=some .local:=by first | exact .inl rfl | exact .inr rfl) :
  SG X (.Name x pos) (setAt i):=(ku hN hi hx hf).imp fun v σ H Q ⟨ρ,τ,d,ρ',er,r,e,q⟩=>by
 unfold setAt at e
 split at e
 ·rename_i hlt
  cases e
  exact q _ H (i7.refl H) (er.set hlt r)
 ·cases e
variable{stf:D->R->Option R}{stfs:List (D->R->Option R)}
theorem aA{tg:Expr}(ha:SE X a f)(hg:SG X tg stf)(hs:swapsWithSole [tg] a pos.line X.env=pure false:=by rfl)(hw:swappedStores [tg] a X.env=pure none:=by rfl)(h1:(assignEach [tg] X.env).map (·.2)=[assign tg X.env]:=by rfl) :
  S1 X (.Assign [tg] a pos) (m6 f stf):=(pU ha hg hs hw h1).imp fun E σ H ⟨ρ,τ,o,er,e,q⟩=>by
 obtain⟨x,e1,e⟩:=e9 e
 obtain⟨ρ',e2,e⟩:=p9 e
 subst e
 exact⟨ρ,x,er.1,e1,fun v H1 s1 r1=>⟨ρ,τ,x,ρ',er.mono s1,r1,e2,fun σ2 H2 s2 er2=>q H2 (s1.trans s2) σ2 er2⟩⟩
theorem Kp.of{H H':Hp}(s:i7 H H'):Kp H H':=fun b u e _=>s b u e
theorem Kp.refl(H:Hp):Kp H H:=fun _ _ e _=>e
theorem Kp.seq{K:W.Frag}{H H':Hp}{a:Addr}{xs:List V}(s:Kp H H')(h:u4 K H a xs):u4 K H' a xs:=by
 rcases h with (h | ⟨o,h⟩) | h
 ·exact .inl (.inl (s _ _ h fun φ z=>nomatch z))
 ·exact .inl (.inr ⟨o,s _ _ h fun φ z=>nomatch z⟩)
 ·exact .inr h
theorem Kp.tup{K:W.Frag}{H H':Hp}{a:Addr}{xs:List V}(s:Kp H H')(h:vC K H a xs):vC K H' a xs:=by
 rcases h with (h | ⟨o,h⟩) | h
 ·exact .inl (.inl (s _ _ h fun φ z=>nomatch z))
 ·exact .inl (.inr ⟨o,s _ _ h fun φ z=>nomatch z⟩)
 ·exact .inr h
mutual
theorem Rep.kp{K:W.Frag}{H H':Hp}(s:Kp H H'):∀{d:D} {v:V},Rep K H d v->Rep K H' d v
 | .non,_,h=>h
 | .bl _,_,h=>h
 | .int _,_,h=>h
 | .str _,_,h=>h
 | .tup ds,_,h=>by
  obtain⟨a,xs,e,q,r⟩:=h
  exact⟨a,xs,e,s.tup q,i6.kp s r⟩
 | .lst ds,_,h=>by
  obtain⟨a,xs,e,q,r⟩:=h
  exact⟨a,xs,e,s _ _ q (fun φ z=>by cases z),i6.kp s r⟩
 | .fro ds,_,h=>by
  obtain⟨a,xs,e,q,r⟩:=h
  exact⟨a,xs,e,s.seq q,i6.kp s r⟩
 | .obj k a ks ds,_,h=>by
  obtain⟨xs,e,q,r⟩:=h
  exact⟨xs,e,q.to fun u z n=>s _ u z n,i6.kp s r⟩
 | .rf _,_,h=>h
theorem i6.kp{K:W.Frag}{H H':Hp}(s:Kp H H'):∀{ds:LD} {vs:List V},i6 K H ds vs->i6 K H' ds vs
 | [],_,h=>h
 | d::ds,_,h=>by
  obtain⟨v,r,e,q,t⟩:=h
  exact⟨v,r,e,Rep.kp s q,i6.kp s t⟩
end
theorem sZ.kp{K:W.Frag}{H H':Hp}{ρ:R}{σ:L2.St}(e:sZ K H ρ σ)(s:Kp H H'):sZ K H' ρ σ:=⟨e.1,fun i d h=>let ⟨v,a,b⟩:=e.2 i d h;⟨v,a,b.kp s⟩⟩
theorem sY.kp{K:W.Frag}{H H':Hp}{ρ:R}{τ σ:L2.St}(e:sY K H ρ τ σ)(s:Kp H H'):sY K H' ρ τ σ:=⟨e.1.kp s,e.2⟩
theorem hZ{K:W.Frag}{H:Hp}{a:Addr}{ds:LD}{xs:List V}(hq:u4 K H a xs)(t:i6 K H ds xs):vV K (Ml K a) ds H:=by
 refine⟨fun i d H2 s2 e=>?_,fun i H2 s2 hl=>⟨xs,s2.seq hq,by rw[<- t.length];exact hl⟩⟩
 obtain⟨v,h1,h2⟩:=t.get e
 refine⟨⟨xs,v,s2.seq hq,h1⟩,fun x H3 ⟨e3,y⟩=>?_⟩
 subst e3
 have:=(y xs (s2.seq hq)).symm.trans h1
 cases this
 exact⟨i7.refl _,h2.kp s2⟩
theorem mI{K:W.Frag}{H:Hp}{a:Addr}{ds:LD}{xs:List V}(hq:vC K H a xs)(t:i6 K H ds xs):vV K (Ma K a) ds H:=by
 refine⟨fun i d H2 s2 e=>?_,fun i H2 s2 hl=>⟨xs,s2.tup hq,by rw[<- t.length];exact hl⟩⟩
 obtain⟨v,h1,h2⟩:=t.get e
 refine⟨⟨xs,v,s2.tup hq,h1⟩,fun x H3 ⟨e3,y⟩=>?_⟩
 subst e3
 have:=(y xs (s2.tup hq)).symm.trans h1
 cases this
 exact⟨i7.refl _,h2.kp s2⟩
theorem FK{a b:Int}{i:Nat}{d:D}(e:(uD a b)[i]?=some d):i<(b - a).toNat/\d=.int (a+i):=by
 unfold uD at e
 rw[List.getElem?_map] at e
 obtain⟨k,e1,e⟩:=p9 e
 obtain⟨h1,h2⟩:=List.getElem?_eq_some_iff.mp e1
 rw[List.length_range] at h1
 rw[List.getElem_range] at h2
 subst h2
 exact⟨h1,e.symm⟩
theorem iV{K:W.Frag}{H:Hp}{a b:Int}:vV K (Kr a (b - a).toNat) (uD a b) H:=by
 refine⟨fun i d H2 s2 e=>?_,fun i H2 s2 hl=>by
  have z:(uD a b).length=(b - a).toNat:=by simp[uD]
  rw[z] at hl
  exact hl⟩
 obtain⟨h1,rfl⟩:=FK e
 refine⟨h1,fun x H3 ⟨e3,y⟩=>?_⟩
 subst e3
 exact⟨i7.refl _,y⟩
def MY(K:PySem.W.Frag)(tl:TE):TI:=fun σ H W=>tl σ H fun x H1=>(∃a,x=.ref a/\(((∃xs,u4 K H1 a xs)/\W (Ml K a) H1)\/((∃xs,vC K H1 a xs)/\W (Ma K a) H1)))\/∃z,x=.str z/\z.cps.all (·<128)=true/\W (LH z) H1
theorem iT{K:W.Frag}{H:Hp}{x:Str}:vV K (LH x) (chars x) H:=by
 have hl:(chars x).length=x.cps.size:=by simp[chars]
 refine⟨fun i d H2 s2 e=>?_,fun i H2 s2 h=>by rw[hl] at h;exact h⟩
 have hi:i<x.cps.size:=by rw[<- hl];exact(List.getElem?_eq_some_iff.mp e).1
 refine⟨hi,fun v H3 ⟨e3,c,h1,h2⟩=>?_⟩
 subst e3
 refine⟨i7.refl _,?_⟩
 unfold chars at e
 rw[List.getElem?_map] at e
 obtain⟨c',e1,e⟩:=p9 e
 have h1':x.cps.toList[i]?=some c:=by simpa using h1
 rw[h1'] at e1
 cases e1
 subst e
 exact h2
theorem mU{tg l:Expr}{tl:TE}(hl:PE X l tl):PI X tg l (MY X.K tl):=by
 intro pins s σ H W I h
 refine sX (hl pins s σ H _ I h) fun v s1 ⟨x,H1,I1,r1,q1⟩=>?_
 rcases q1 with ⟨a,e,q1⟩ | ⟨z,e,hz,q⟩
 rotate_left
 ·subst e
  obtain⟨t,rfl⟩:=r1
  refine wpAny_pyIter_ascii hz ?_
  refine⟨s1.heap.objs.size,[s1.heap.objs.size],_,_,H1,rfl,I1.kept (t':=s1.toks) fun b o e=>Heap.get?_push_of_some _ e,FD _ z t,⟨_,Heap.get?_push_size _ rfl,rfl,rfl⟩,fun b hb=>?_,q⟩
  have e:b=s1.heap.objs.size:=by simpa using hb
  subst e
  exact I1.fpOk (Nat.le_refl _) (I1.hok.fresh (Nat.le_refl _))
 subst e
 cases r1
 rcases q1 with ⟨⟨xs,hq⟩,q⟩ | ⟨⟨xs,hq⟩,q⟩
 ·obtain⟨its,rv,p,hz⟩:=I1.list hq
  refine wpAny_pyIter_list p.isList ?_
  refine⟨s1.heap.objs.size,[s1.heap.objs.size],_,_,H1,rfl,I1.kept (t':=s1.toks) fun b o e=>Heap.get?_push_of_some _ e,EB a _,⟨_,Heap.get?_push_size _ rfl,rfl,rfl⟩,fun b hb=>?_,q⟩
  have e:b=s1.heap.objs.size:=by simpa using hb
  subst e
  exact I1.fpOk (Nat.le_refl _) (I1.hok.fresh (Nat.le_refl _))
 ·obtain⟨its,rv,p,hz⟩:=I1.tuple hq
  refine wpAny_pyIter_tuple (show s1.heap.IsTuple a its.toArray from p) ?_
  refine⟨s1.heap.objs.size,[s1.heap.objs.size],_,_,H1,rfl,I1.kept (t':=s1.toks) fun b o e=>Heap.get?_push_of_some _ e,Dc a _,⟨_,Heap.get?_push_size _ rfl,rfl,rfl⟩,fun b hb=>?_,q⟩
  have e:b=s1.heap.objs.size:=by simpa using hb
  subst e
  exact I1.fpOk (Nat.le_refl _) (I1.hok.fresh (Nat.le_refl _))
theorem rZ{tg:Expr}(ha:SE X a f):SI X tg a (yr f):=(mU ha).imp fun σ H W ⟨ρ,ds,er,e,q⟩=>by
 obtain⟨x,e1,e⟩:=e9 e
 refine⟨ρ,x,er,e1,fun v H1 s1 r1=>?_⟩
 cases x with
 | tup xs =>
  cases e
  obtain⟨a,vs,ev,hq,t⟩:=r1
  exact .inl ⟨a,ev,.inr ⟨⟨vs,hq⟩,q _ H1 s1 (mI hq t)⟩⟩
 | lst xs =>
  cases e
  obtain⟨a,vs,ev,hq,t⟩:=r1
  exact .inl ⟨a,ev,.inl ⟨⟨vs,u4.of hq⟩,q _ H1 s1 (hZ (u4.of hq) t)⟩⟩
 | str z =>
  dsimp only at e
  split at e
  ·rename_i hz
   cases e
   cases (show v=_ from r1)
   exact .inr ⟨z,rfl,hz,q _ H1 s1 iT⟩
  ·cases e
 | _=>cases e
theorem kB{tg:Expr}(hm:X.mg "range" = none)(ha:SE X a f)(hg:Gl X "range":=by rfl)(hs:noStar a=true:=by rfl):SI X tg (.Call (.Name "range" p) [a] [] pos) (uT f):=
 (jQ hg hm (ac ha af hs).1 (aE [] X.env hs)).imp fun σ H W ⟨ρ,ds,er,e,q⟩=>by
  obtain⟨x,e1,e⟩:=e9 e
  cases x with
  | int j =>
   dsimp only at e
   split at e
   ·rename_i hj
    cases e
    refine⟨ρ,[.int j],er,by show(f ρ).bind _=_;rw[e1];rfl,fun vs H1 s1 r1=>?_⟩
    obtain⟨v,r,rfl,r2,r3⟩:=r1
    cases (show v=_ from r2)
    cases (show r=_ from r3)
    refine⟨j,rfl,hj.1,hj.2,q _ H1 s1 ?_⟩
    have z:=iV (K:=X.K) (H:=H1) (a:=0) (b:=j)
    rw[Int.sub_zero] at z
    exact z
   ·cases e
  | _=>cases e
theorem rA{tg iter:Expr}{B:List Stmt}{it:R->Option LD}(hp:PassesOwn (model X.prog X.w) X.A X.env X.xe)(hc:X.calm=true)(hi:SI X tg iter it)(hg:SG X tg stf)(hb:SS X B u)
  (hs:∀x,foldedSetIterable iter X.env x=pure x:=by intro _;rfl):S1 X (.For tg iter B [] pos) (Cw it stf u):=(pw hp hc hi hg hb hs).imp fun E σ H ⟨ρ,τ,o,er,e,q⟩=>by
 obtain⟨ds,e1,e⟩:=e9 e
 refine⟨ρ,ds,er.1,e1,fun J H1 s1 y=>?_⟩
 refine⟨fun i m σ' H'=>m=ds.length - i/\i<=ds.length/\i7 H1 H'/\∃ ρ',sY X.K H' ρ' τ σ'/\Bd stf u (ds.drop i) ρ'=some o,⟨ds.length,by simp,Nat.zero_le _,i7.refl _,ρ,er.mono s1,by simpa using e⟩,?_⟩
 rintro i m σ' H' ⟨rfl,hi,s2,ρ',er',e'⟩
 by_cases hlt:i<ds.length
 ·refine .inr ?_
  have hd:ds[i]?=some ds[i]:=by simp[hlt]
  obtain⟨hgo,hy⟩:=y.1 i ds[i] H' (Kp.of s2) hd
  rw[List.drop_eq_getElem_cons hlt] at e'
  obtain⟨ρ1,e2,e'⟩:=e9 e'
  obtain⟨o1,e3,e'⟩:=e9 e'
  refine⟨hgo,fun σ2 H2=>i+1<=ds.length/\i7 H1 H2/\∃ ρ',sY X.K H2 ρ' τ σ2/\Bd stf u (ds.drop (i+1)) ρ'=some o,fun σ2 H2 n2=>⟨ds.length - (i+1),by omega,rfl,n2.1,n2.2⟩,fun x H3 yx=>?_⟩
  obtain⟨s3,rx⟩:=hy x H3 yx
  refine⟨ρ',τ,ds[i],ρ1,er'.mono s3,rx,e2,fun σ4 H4 s4 er4=>⟨ρ1,τ,o1,er4,e3,fun H5 s5=>?_⟩⟩
  have s15:i7 H1 H5:=s2.trans (s3.trans (s4.trans s5))
  cases o1 with
  | nx ρ2=>exact fun σ6 er6=>⟨hlt,s15,ρ2,er6,e'⟩
  | ct ρ2=>exact fun σ6 er6=>⟨hlt,s15,ρ2,er6,e'⟩
  | bk ρ2=>cases e';exact fun σ6 er6=>q H5 (s1.trans s15) σ6 er6
  | rt d=>cases e';exact q H5 (s1.trans s15)
 ·have e4:i=ds.length:=by omega
  subst e4
  rw[List.drop_length] at e'
  cases e'
  exact .inl ⟨y.2 _ H' (Kp.of s2) (Nat.le_refl _),q H' (s1.trans s2) σ' er'⟩
end
theorem yu{K:W.Frag}{H:Hp}{N:List Str}{ds:LD}{vs:List V}(r:i6 K H ds vs):sZ K H (yz N.length ds) (L2.start N vs):=by
 unfold yz L2.start
 refine⟨by simp[r.length],fun i d h=>?_⟩
 by_cases hi:i<ds.length
 ·rw[List.getElem?_append_left (by simpa using hi),List.getElem?_map] at h
  obtain⟨d',e1,e⟩:=p9 h
  cases e
  obtain⟨v,h1,h2⟩:=r.get e1
  exact⟨v,by rw[List.getElem?_append_left (by rw[List.length_map,<- r.length];exact hi),List.getElem?_map,h1];rfl,h2⟩
 ·rw[List.getElem?_append_right (by simpa using hi),List.getElem?_replicate] at h
  split at h<;>cases h
theorem rX{P:Program}{w:World}{K:W.Frag}{mg:Str->Option Value}{base:Heap}{x qual:Str}{st:Stmt}{f:Addr}{fd:FuncData}{N ps:List Str}{k:Nat}{F:LD->OD}{g:R->Option Out}
  (Fn:tE K x qual st f fd) (S:c9 N ps (c5 st)) (hlen:∀ds d,F ds=some d->ds.length=ps.length)
  (hb:∀(cdv:Value) (A:Around) (outer:List Env) (s:Shared) (H:Hp) (E:XK),sL k (A.deeper (envOfC qual (c5 st) s.heap.objs.size f cdv))->SS (wt sR P w K mg base N qual (c5 st) f cdv A outer s H E).nox (sS st) g)
  (hF:∀ds d,F ds=some d->wD (g (yz N.length ds))=some d):k6 P w K mg base sR (k+1) f fd ps (tQ K F):=by
 refine Fn.ok S (fun vs H Q E h=>?_) (fun cdv A outer s H vs Q E hr h=>?_)
 ·obtain⟨ds,d,r,e,_⟩:=h
  rw[<- r.length]
  exact hlen ds d e
 ·obtain⟨ds,d,r,e,q⟩:=h
  refine⟨_,hb cdv A outer s H E hr,?_⟩
  have z:=hF ds d e
  cases ho:g (yz N.length ds) with
  | none=>rw[ho] at z;cases z
  | some o =>
   rw[ho] at z
   refine⟨yz N.length ds,_,o,(yu r).t,ho,fun H1 s1=>?_⟩
   cases o with
   | rt d'=>cases (show d'=d from Option.some.inj z);exact fun v rv=>q v H1 s1 rv
   | nx ρ=>cases (show D.non=d from Option.some.inj z);exact fun σ _=>q .non H1 s1 rfl
   | bk ρ=>cases z
   | ct ρ=>cases z
theorem ar{P:Program}{w:World}{K:W.Frag}{mg:Str->Option Value}{base:Heap}{x qual:Str}{st:Stmt}{f:Addr}{fd:FuncData}{N ps:List Str}{k:Nat}{n m:Nat}{g:R->Option Out}
  (Fn:tE K x qual st f fd) (S:c9 N ps (c5 st))
  (hb:∀(cdv:Value) (A:Around) (outer:List Env) (s:Shared) (H:Hp) (E:XK),sL k (A.deeper (envOfC qual (c5 st) s.heap.objs.size f cdv))->SS (wt sR P w K mg base N qual (c5 st) f cdv A outer s H E).nox (sS st) g)
  (h1:n=ps.length:=by rfl) (h2:m=N.length:=by rfl):k6 P w K mg base sR (k+1) f fd ps (tQ K (via n m g)):=by
 subst h1 h2
 exact rX Fn S (fun _ _ h=>oi h) hb fun _ _ h=>rm h
theorem az{P:Program}{w:World}{K:W.Frag}{mg:Str->Option Value}{base:Heap}{x qual:Str}{st:Stmt}{f:Addr}{fd:FuncData}{ps:List Str}{k:Nat}{F:LD->OD}(Fn:tE K x qual st f fd)(hm:mg x=some (.ref f))
  (hb:Binds K fd ps []) (h:k6 P w K mg base sR k f fd ps (tQ K F)):m7 P w K mg base k x ps F:=⟨f,fd,h,hm,Fn.kp,hb⟩
section
variable{X:Cx}
theorem Gk{prog:Program}{w:World}{A:Around}{E:Value->Shared->Prop}{s:Shared}{t b:Addr}{ws:List Value}{Q:Value->Shared->Prop}(ht:IsTup s.heap t ([]:List Value).toArray)(hb:IsTup s.heap b ws.toArray)
  (h:Q (.ref b) s):wpAny (model prog w) A (binaryOp .Add (.ref t) (.ref b)) Q E s:=by
 obtain⟨⟨cls,dd,data,sl⟩,ho,hc,n,hd⟩:=id ht
 obtain⟨⟨cls2,dd2,data2,sl2⟩,ho2,hc2,n2,hd2⟩:=id hb
 simp only at hc hd hc2 hd2
 subst hc hd hc2 hd2
 exact concat_meets ⟨_,ho,rfl⟩ ⟨_,ho2,rfl⟩ noFill_tuple_add seq_tuple_add PySem.F.slot_tuple_add PySem.F.entry_tuple_add (PySem.F.args_tuple_add_2 _ _)
  (tuple_addW0 t b ([]:List Value).toArray ws.toArray n n2 dd dd2 sl sl2 (by simp)) ⟨ho,ho2,h⟩
theorem vg{K:W.Frag}{H:Hp}{d:D}{v:V}{i:Int}(e:nI d=some i)(r:Rep K H d v):v=.int i:=by
 cases d<;>cases e
 exact r
theorem Ls{K:W.Frag}{H:Hp}{d:D}{v:V}{xs:LD}(e:tI d=some xs)(r:Rep K H d v):Rep K H (.tup xs) v:=by
 cases d<;>cases e
 exact r
theorem LR{K:W.Frag}{H:Hp}{d:D}{v:V}{xs:LD}(e:lI d=some xs)(r:Rep K H d v):Rep K H (.lst xs) v:=by
 cases d<;>cases e
 exact r
theorem CB{K:W.Frag}{H:Hp}{d:D}{v:V}{x:Str}(e:sI d=some x)(r:Rep K H d v):v=.str x:=by
 cases d<;>cases e
 exact r
theorem Fk{K:W.Frag}{H:Hp}{d:D}{v:V}{x:Bool}(e:bO d=some x)(r:Rep K H d v):v=.bl x:=by
 cases d<;>cases e
 exact r
theorem B3{α:Type}{p:Prop}[Decidable p]{x y:α}(h:(if p then some x else none)=some y):p/\x=y:=by
 split at h
 ·rename_i hp;exact⟨hp,Option.some.inj h⟩
 ·cases h
theorem aD:Kn X (binaryOp .Add) p4:=by
 intro pins s σ H x y v u Q I rx ry h
 obtain⟨dx,dy,d,r1,r2,e,q⟩:=h
 cases dx with
 | int i =>
  obtain⟨j,e1,rfl⟩:=p9 e
  exact Jw pins s σ H x y v u Q I rx ry ⟨i,j,r1,vg e1 r2,q _ H (i7.refl H) rfl⟩
 | tup xs =>
  obtain⟨ys,e1,e⟩:=e9 e
  obtain⟨hz,rfl⟩:=B3 e
  obtain⟨a,vs,rfl,hq,t⟩:=r1
  obtain⟨b,us,rfl,hq2,t2⟩:=Ls e1 r2
  cases vs with
  | nil =>
   cases rx
   cases ry
   obtain⟨its,rr1,p1,_⟩:=I.tuple hq
   obtain⟨its2,rr2,p2,_⟩:=I.tuple hq2
   cases rr1
   refine Gk p1 p2 ⟨.ref b,H,I,rfl,q _ H (i7.refl H) ⟨b,us,rfl,hq2,?_⟩⟩
   cases xs with
   | nil=>exact t2
   | cons x r=>obtain⟨_,_,z,_⟩:=t;cases z
  | cons v0 vr =>
   refine GV pins s σ H _ _ v u Q I rx ry ⟨a,b,v0::vr,us,rfl,rfl,hq,hq2,by simp,by rw[<- t.length,<- t2.length];exact hz,fun z=>?_,fun z p hp=>?_⟩
   ·subst z
    refine q _ H (i7.refl H) ⟨a,v0::vr,rfl,hq,?_⟩
    have:ys=[]:=List.length_eq_zero_iff.mp t2.length
    subst this
    rw[List.append_nil]
    exact t
   ·have s2:=aQ hp (.tup (v0::vr++us))
    exact q _ _ s2 ⟨p,_,rfl,vC.of av,(t.append t2).mono s2⟩
 | lst xs =>
  obtain⟨ys,e1,e⟩:=e9 e
  obtain⟨hz,rfl⟩:=B3 e
  obtain⟨a,vs,rfl,hq,t⟩:=r1
  obtain⟨b,us,rfl,hq2,t2⟩:=LR e1 r2
  refine IT pins s σ H _ _ v u Q I rx ry ⟨a,b,vs,us,rfl,rfl,hq,hq2,by rw[<- t.length,<- t2.length];exact hz,fun p hp=>?_⟩
  have s2:=aQ hp (.lst (vs++us))
  exact q _ _ s2 ⟨p,_,rfl,av,(t.append t2).mono s2⟩
 | str a =>
  obtain⟨b,e1,e⟩:=e9 e
  obtain⟨hz,rfl⟩:=B3 e
  exact Dg pins s σ H x y v u Q I rx ry ⟨a,b,r1,CB e1 r2,hz,q _ H (i7.refl H) rfl⟩
 | _=>cases e
theorem bQ:Kn X (binaryOp .Sub) vm:=by
 intro pins s σ H x y v u Q I rx ry h
 obtain⟨dx,dy,d,r1,r2,e,q⟩:=h
 obtain⟨i,e1,e⟩:=e9 e
 obtain⟨j,e2,rfl⟩:=p9 e
 exact JQ pins s σ H x y v u Q I rx ry ⟨i,j,vg e1 r1,vg e2 r2,q _ H (i7.refl H) rfl⟩
theorem cY:Kn X (binaryOp .Mult) wK:=by
 intro pins s σ H x y v u Q I rx ry h
 obtain⟨dx,dy,d,r1,r2,e,q⟩:=h
 obtain⟨i,e1,e⟩:=e9 e
 obtain⟨j,e2,e⟩:=e9 e
 obtain⟨hz,rfl⟩:=B3 e
 refine Jv pins s σ H x y v u Q I rx ry ⟨i,j,vg e1 r1,vg e2 r2,?_,q _ H (i7.refl H) rfl⟩
 unfold tG at hz
 rw[Bool.or_eq_true,Bool.and_eq_true,Bool.and_eq_true] at hz
 exact hz.imp (fun z=>⟨of_decide_eq_true z.1,of_decide_eq_true z.2⟩) fun z=>⟨of_decide_eq_true z.1,of_decide_eq_true z.2⟩
theorem bK:Kn X (binaryOp .FloorDiv) uC:=by
 intro pins s σ H x y v u Q I rx ry h
 obtain⟨dx,dy,d,r1,r2,e,q⟩:=h
 obtain⟨i,e1,e⟩:=e9 e
 obtain⟨j,e2,e⟩:=e9 e
 obtain⟨hz,rfl⟩:=B3 e
 exact HP pins s σ H x y v u Q I rx ry ⟨i,j,vg e1 r1,vg e2 r2,hz,q _ H (i7.refl H) rfl⟩
theorem aI:Kn X (binaryOp .Mod) sW:=by
 intro pins s σ H x y v u Q I rx ry h
 obtain⟨dx,dy,d,r1,r2,e,q⟩:=h
 obtain⟨i,e1,e⟩:=e9 e
 obtain⟨j,e2,e⟩:=e9 e
 obtain⟨hz,rfl⟩:=B3 e
 exact JT pins s σ H x y v u Q I rx ry ⟨i,j,vg e1 r1,vg e2 r2,hz,q _ H (i7.refl H) rfl⟩
theorem pX:NP X (unaryOp .USub) E8:=by
 intro pins s σ H x v Q I rx h
 obtain⟨dx,d,r1,e,q⟩:=h
 obtain⟨i,e1,rfl⟩:=p9 e
 exact Jx pins s σ H x v Q I rx ⟨i,vg e1 r1,q _ H (i7.refl H) rfl⟩
theorem Mb{op:CmpOp}{p:Int->Int->Bool}{F:D->D->Option Bool}(ho:OpR X (compareOp op) (Hx fun i j=>.bl (p i j)))(hF:∀x y,F x y=(nI x).bind fun i=>(nI y).map fun j=>p i j):CI X op F:=by
 intro pins s σ H x y v u Q I rx ry h
 obtain⟨dx,dy,b,r1,r2,e,q⟩:=h
 rw[hF] at e
 obtain⟨i,e1,e⟩:=e9 e
 obtain⟨j,e2,rfl⟩:=p9 e
 exact ho pins s σ H x y v u Q I rx ry ⟨i,j,vg e1 r1,vg e2 r2,q⟩
theorem nY:CI X .Lt LQ:=Mb Lk fun _ _=>rfl
theorem ri:CI X .LtE Kv:=Mb LI fun _ _=>rfl
theorem gh:CI X .Gt C2:=Mb K1 fun _ _=>rfl
theorem rh:CI X .GtE Kj:=Mb KS fun _ _=>rfl
theorem EA{K:W.Frag}{H:Hp}{d:D}{v:V}{ys:LD}(r:Rep K H d v)(e:Fh d=some ys):∃p xs,v=.ref p/\(u4 K H p xs\/vC K H p xs)/\i6 K H ys xs:=by
 cases d with
 | tup ds=>cases e;obtain⟨a,xs,rfl,q,t⟩:=r;exact⟨a,xs,rfl,.inr q,t⟩
 | lst ds=>cases e;obtain⟨a,xs,rfl,q,t⟩:=r;exact⟨a,xs,rfl,.inl (u4.of q),t⟩
 | fro ds=>cases e;obtain⟨a,xs,rfl,q,t⟩:=r;exact⟨a,xs,rfl,.inl q,t⟩
 | _=>cases e
theorem zq{K:W.Frag}{H:Hp}{d:D}{v:V}(r:Rep K H d v):Hn d=decide (v=.non):=by
 cases d with
 | tup c=>obtain⟨_,_,rfl,_⟩:=r;rfl
 | lst c=>obtain⟨_,_,rfl,_⟩:=r;rfl
 | fro c=>obtain⟨_,_,rfl,_⟩:=r;rfl
 | obj k a ks ds=>obtain⟨_,rfl,_⟩:=r;rfl
 | rf a=>cases (show v=_ from r);rfl
 | _=>cases (show v=_ from r);rfl
theorem DO{K:W.Frag}{H:Hp}{d:D}{v:V}(r:Rep K H d v)(h:Hn d=true):v=.non:=by
 rw[zq r] at h
 exact of_decide_eq_true h
theorem gt:CI X .Is yG:=by
 intro pins s σ H x y v u Q I rx ry h
 obtain⟨dx,dy,b,r1,r2,e,q⟩:=h
 obtain⟨h1,rfl⟩:=B3 e
 exact Jf pins s σ H x y v u Q I rx ry ⟨DO r2 h1,by rw[<- zq r1];exact q⟩
theorem dU:CI X .IsNot wm:=by
 intro pins s σ H x y v u Q I rx ry h
 obtain⟨dx,dy,b,r1,r2,e,q⟩:=h
 obtain⟨k,e2,rfl⟩:=p9 e
 obtain⟨h1,rfl⟩:=B3 e2
 exact Hg pins s σ H x y v u Q I rx ry ⟨DO r2 h1,by rw[<- zq r1];exact q⟩
theorem eL:Kl X (.builtin "len") vf:=Bo.imp fun xs H Q ⟨ds,d,r,e,q⟩=>by
 match ds,e with
 | [x],e =>
  obtain⟨ys,e1,e2⟩:=p9 e
  subst e2
  obtain⟨v,r',rfl,r1,r2⟩:=r
  cases (show r'=[] from r2)
  obtain⟨p,vs,rfl,hq,t⟩:=EA r1 e1
  exact⟨p,vs,rfl,hq,q _ H (i7.refl H) (by show V.int _=V.int _;rw[t.length])⟩
theorem mq:Kl X (.type "tuple") Dj:=Ab.imp fun xs H Q ⟨ds,d,r,e,q⟩=>by
 match ds,e with
 | [.tup ys],e =>
  cases e
  obtain⟨v,r',rfl,⟨a,vs,rfl,hq,t⟩,r2⟩:=r
  cases (show r'=[] from r2)
  exact⟨a,vs,rfl,.inr ⟨hq,q _ H (i7.refl H) ⟨a,vs,rfl,hq,t⟩⟩⟩
 | [.lst ys],e =>
  cases e
  obtain⟨v,r',rfl,⟨a,vs,rfl,hq,t⟩,r2⟩:=r
  cases (show r'=[] from r2)
  exact⟨a,vs,rfl,.inl ⟨u4.of hq,fun l hl=>q _ _ (aQ hl _) ⟨l,vs,rfl,vC.of av,t.mono (aQ hl _)⟩⟩⟩
theorem qC:Kl X (.type "str") CU:=Bc.imp fun xs H Q ⟨ds,d,r,e,q⟩=>by
 match ds,e with
 | [.int i],e =>
  have e':(if i.natAbs.log2<1920 then some (D.str (toString i)) else none)=some d:=e
  split at e'
  ·rename_i hz
   cases e'
   obtain⟨v,r',rfl,r1,r2⟩:=r
   cases (show r'=[] from r2)
   cases (show v=_ from r1)
   exact⟨i,rfl,hz,q _ H (i7.refl H) rfl⟩
  ·cases e'
theorem yM{K:W.Frag}{H:Hp}:∀{ds:LD} {bs:List Bool} {vs:List V} {us:List Value},bools ds=some bs->i6 K H ds vs->l3 vs us->us=bs.map .bool
 | [],_,_,_,e,h,r=>by
  cases e
  cases (show _=[] from h)
  cases r
  rfl
 | d::ds,_,_,_,e,h,r=>by
  cases d with
  | bl b =>
   obtain⟨bs',e1,e2⟩:=p9 e
   subst e2
   obtain⟨v,vr,rfl,r1,r2⟩:=h
   cases (show v=_ from r1)
   cases r with
   | cons q t =>
    cases q
    rw[yM e1 r2 t]
    rfl
  | _=>cases e
theorem fz{k:Nat}(hr:sL k X.A):CI X .Eq w9:=by
 intro pins s σ H x y v u Q I rx ry h
 obtain⟨dx,dy,b,r1,r2,e,q⟩:=h
 have sc:Gp x y=true->decide (x=y)=b->wpAny (model X.prog X.w) X.A (compareOp .Eq v u) (EP X pins σ Q) X.xe s:=fun z1 z2=>H9 pins s σ H x y v u Q I rx ry ⟨z1,by rw[z2];exact q⟩
 cases dx with
 | int i=>obtain⟨j,e1,e⟩:=p9 e;cases (show x=_ from r1);cases vg e1 r2;exact sc rfl (xX.trans e)
 | str i=>obtain⟨j,e1,e⟩:=p9 e;cases (show x=_ from r1);cases CB e1 r2;exact sc rfl (ye.trans e)
 | bl i=>obtain⟨j,e1,e⟩:=p9 e;cases (show x=_ from r1);cases Fk e1 r2;exact sc rfl (zH.trans e)
 | _=>cases e
theorem sG{k:Nat}(hr:sL k X.A):CI X .NotEq L7:=by
 intro pins s σ H x y v u Q I rx ry h
 obtain⟨dx,dy,b,r1,r2,e0,q⟩:=h
 obtain⟨c,e,rfl⟩:=p9 e0
 clear e0
 have sc:Gp x y=true->decide (x=y)=c->wpAny (model X.prog X.w) X.A (compareOp .NotEq v u) (EP X pins σ Q) X.xe s:=fun z1 z2=>LB pins s σ H x y v u Q I rx ry ⟨z1,by rw[z2];exact q⟩
 cases dx with
 | int i=>obtain⟨j,e1,e⟩:=p9 e;cases (show x=_ from r1);cases vg e1 r2;exact sc rfl (xX.trans e)
 | str i=>obtain⟨j,e1,e⟩:=p9 e;cases (show x=_ from r1);cases CB e1 r2;exact sc rfl (ye.trans e)
 | bl i=>obtain⟨j,e1,e⟩:=p9 e;cases (show x=_ from r1);cases Fk e1 r2;exact sc rfl (zH.trans e)
 | _=>cases e
variable{a:Expr}{f:R->OD}{pos p2:Pos}{lo hi:Option Expr}{l h:R->Option (Option Int)}
theorem eQ:SO X none GH:=G6.imp fun σ H Q ⟨ρ,o,er,e,q⟩=>by
 cases e
 exact q H (i7.refl H)
theorem eG(ha:SE X a f):SO X (some a) (aP f):=(GX ha).imp fun σ H Q ⟨ρ,o,er,e,q⟩=>by
 obtain⟨x,e1,e2⟩:=e9 e
 refine⟨ρ,x,er,e1,fun v H1 s1 r1=>?_⟩
 cases x with
 | int i=>cases e2;exact⟨i,r1,q H1 s1⟩
 | _=>cases e2
theorem DN(n d:Nat)(o:Option Int):Dq n d o=HT.sIx n d o:=rfl
theorem z_{prog:Program}{w:World}{A:Around}{E:Value->Shared->Prop}{s:Shared}{t sl:Addr}{items:Array Value}{vl vu:Value}{lo hi:Option Int}{Q:Value->Shared->Prop}(ht:IsTup s.heap t items)(hs:s.heap.IsSliceOf sl vl vu .none)(pl:IsPart vl lo)(pu:IsPart vu hi)
  (hw:HT.sIx items.size 0 lo=0/\HT.sIx items.size items.size hi=items.size) (h:Q (.ref t) s):wpAny (model prog w) A (getItem (.ref t) (.ref sl)) Q E s:=by
 obtain⟨os,hos,hcs,hds⟩:=id hs
 have hTs:s.TypeIs (.ref sl) "slice":=⟨os,hos,hcs⟩
 unfold getItem
 try with_reducible refine wpAny_holding ?_
 first | refine wpAny_bind (wpAny_pure ?_) | skip
 refine wpAny_bind (wpAny_sequenceKey ht.typeIs (by decide) ?_)
 refine wpAny_bind (wpAny_callSpecial?_slot (name:=oS "__getitem__") ht.typeIs PyProof.Rows.slot_tuple_getitem
  (wpAny_call_entry PyProof.Rows.slot_tuple_getitem ht.typeIs entry_tuple_getitem ?_ (args_tuple_getitem _ _)))
 show wpAny _ _ (Builtin.Tuple.tupleItemsOf (.ref t) >>= _) _ _ s
 refine wpAny_bind (tupleItemsOf_ ht ?_)
 refine wpAny_bind (wpAny_typeOf hTs ?_)
 rw[if_pos (by decide)]
 refine wpAny_bind (HT.sliceApplied_gen hs pl pu ?_)
 have hyes:((((HT.sIx items.size 0 lo:Nat):Int)==0&&(1:Int)==1&&(HT.sIx items.size items.size hi - HT.sIx items.size 0 lo)==items.size)=true):=by
  rw[hw.1,hw.2];simp
 show wpAny _ _ (if (((HT.sIx items.size 0 lo:Nat):Int)==0&&(1:Int)==1&&(HT.sIx items.size items.size hi - HT.sIx items.size 0 lo)==items.size)=true then _ else _) _ _ s
 rw[if_pos hyes]
 refine wpAny_bind (m:=Builtin.Tuple.tupleIsExact _) (wpAny_bind (wpAny_typeOf ht.typeIs (wpAny_pure ?_)))
 rw[if_pos (by decide)]
 exact wpAny_bind (wpAny_rule (wpAny_pure ⟨_,rfl,wpAny_pure h⟩))
theorem Ds{xs:List V}{lo hi:Option Int}(h:HT.sIx xs.length 0 lo=0/\HT.sIx xs.length xs.length hi=xs.length):y7 xs lo hi=xs:=by
 unfold y7
 rw[h.1,h.2,List.drop_zero,Nat.sub_zero,List.take_length]
def Nl(K:W.Frag):V->Option Int->Option Int->Hp->VK->Prop:=fun x lo hi H Q=>∃a xs,x=.ref a/\vC K H a xs/\∀p H',i7 H H'->vC K H' p (y7 xs lo hi)->Q (.ref p) H'
theorem IY:Iw X (Nl X.K):=by
 intro pins s σ H x v vl vu lo hi sl Q I rx hs pl pu h
 obtain⟨a,xs,rfl,hx,q⟩:=h
 by_cases hw:HT.sIx xs.length 0 lo=0/\HT.sIx xs.length xs.length hi=xs.length
 ·cases rx
  obtain⟨its,r,ht,hz⟩:=I.tuple hx
  have hlen:its.toArray.size=xs.length:=by rw[List.size_toArray];exact r.length.symm
  refine⟨"tuple",_,PyProof.Rows.slot_tuple_getitem.lookup,ht.typeIs,?_⟩
  exact z_ ht hs pl pu (by rw[hlen];exact hw) ⟨.ref a,H,I,rfl,q a H (i7.refl H) (by rw[Ds hw];exact hx)⟩
 ·exact JA pins s σ H (.ref a) v vl vu lo hi sl Q I rx hs pl pu ⟨a,xs,rfl,hx,hw,fun p hp=>q p _ (aQ hp _) (vC.of av)⟩
theorem nZ{K:W.Frag}{H:Hp}{ds:LD}{xs:List V}(t:i6 K H ds xs)(lo hi:Option Int):i6 K H (cutD ds lo hi) (y7 xs lo hi):=by
 unfold cutD y7
 rw[t.length,DN,DN]
 exact(t.drop _).take _
theorem cX(ha:SE X a f)(hl:SO X lo l)(hh:SO X hi h):SE X (.Subscript a (.Slice lo hi none p2) pos) (D7 f l h):=(pI (IY.or Hz) ha hl hh).imp fun σ H Q ⟨ρ,d,er,e,q⟩=>by
 obtain⟨x,e1,e⟩:=e9 e
 obtain⟨o1,e2,e⟩:=e9 e
 obtain⟨o2,e3,e⟩:=e9 e
 refine⟨ρ,x,er,e1,fun v H1 s1 r1=>⟨ρ,o1,er.mono s1,e2,fun H2 s2=>⟨ρ,o2,er.mono (s1.trans s2),e3,fun H3 s3=>?_⟩⟩⟩
 cases x with
 | tup xs =>
  cases e
  obtain⟨a,vs,rfl,hq,t⟩:=(r1.mono (s2.trans s3))
  exact .inl ⟨a,vs,rfl,hq,fun p H4 s4 sq=>q _ H4 (s1.trans (s2.trans (s3.trans s4))) ⟨p,_,rfl,sq,(nZ t o1 o2).mono s4⟩⟩
 | lst xs =>
  cases e
  obtain⟨a,vs,rfl,hq,t⟩:=(r1.mono (s2.trans s3))
  refine .inr ⟨a,vs,rfl,u4.of hq,fun p hp=>?_⟩
  have s4:=aQ hp (.lst (y7 vs o1 o2))
  exact q _ _ (s1.trans (s2.trans (s3.trans s4))) ⟨p,_,rfl,av,(nZ t o1 o2).mono s4⟩
 | _=>cases e
theorem mH:∀{xs:List V} {us:List Value},l3 xs us->l3 xs.reverse us.reverse
 | _,_,.nil=>.nil
 | _,_,.cons r t=>by
  rw[List.reverse_cons,List.reverse_cons]
  exact(mH t).append (.cons r .nil)
end
set_option maxHeartbeats 2000000
noncomputable def uN(names:List (Str×NameKind))(cells:List (Str×Addr))(acc:List (Str×Addr)):List (Str×Addr):=
 match names with
 | []=>acc
 | (n,k)::r=>uN r cells (if k==.free then (match cells.lookup n with | some c=>(n,c)::acc | none=>acc) else acc)
theorem xH {env:Env}:∀ (names:List (Str×NameKind)) (acc:List (Str×Addr)),(∀ p∈names,p.2=.free->∃ c,env.cells.lookup p.1=some c) ->
    (forIn names acc fun x r=>(match x with
      | (name,kind)=>if (kind==NameKind.free)=true then do
          let c <- cellOf env name
          pure (ForInStep.yield ((name,c)::r))
        else pure (ForInStep.yield r):Sem (ForInStep (List (Str×Addr)))))=(pure (uN names env.cells acc):Sem (List (Str×Addr)))
  | [],acc,_=>rfl
  | (n,k)::r,acc,h=>by
    rw[List.forIn_cons]
    cases hk:(k==NameKind.free) with
    | false =>
      have ih:=xH r acc fun p hp=>h p (List.mem_cons_of_mem _ hp)
      simp only[hk,uN,Bool.false_eq_true,if_false]
      exact ih
    | true =>
      obtain⟨c,hc⟩:=h (n,k) List.mem_cons_self (by simpa using hk)
      have ih:=xH r ((n,c)::acc) fun p hp=>h p (List.mem_cons_of_mem _ hp)
      have hcell:cellOf env n=pure c:=by unfold cellOf;rw[show env.cells.lookup n=some c from hc]
      simp only[hk,uN,if_true,hcell,show env.cells.lookup n=some c from hc]
      exact ih
theorem C6{scope:Scope}{env:Env}(h:∀p∈scope.names,p.2=.free->∃c,env.cells.lookup p.1=some c):closureFor scope env=pure (uN scope.names env.cells []):=by
 unfold closureFor
 have:=xH scope.names [] h
 simp only[bind_pure]
 exact this
theorem u9{β:Type}{y n:Str}{c:β}{l:List (Str×β)}:List.lookup y ((n,c)::l)=if y=n then some c else List.lookup y l:=by
 rw[List.lookup_cons]
 by_cases h:y=n
 ·subst h;simp
 ·have:(y==n)=false:=by simpa using h
  rw[this,if_neg h]
theorem ze{cells:List (Str×Addr)}:∀(names:List (Str×NameKind)) (acc:List (Str×Addr)),(∀y c,acc.lookup y=some c->cells.lookup y=some c)->∀y c,(uN names cells acc).lookup y=some c->cells.lookup y=some c
 | [],acc,h=>h
 | (n,k)::r,acc,h=>by
  unfold uN
  refine ze r _ ?_
  split
  ·cases hc:cells.lookup n with
   | none=>exact h
   | some c0 =>
    intro y c hy
    rw[u9] at hy
    split at hy
    ·rename_i e
     subst e
     cases hy
     exact hc
    ·exact h y c hy
  ·exact h
theorem Ag{cells:List (Str×Addr)}{y:Str}:∀(names:List (Str×NameKind)) (acc:List (Str×Addr)),(acc.lookup y).isSome=true->((uN names cells acc).lookup y).isSome=true
 | [],acc,h=>h
 | (n,k)::r,acc,h=>by
  unfold uN
  refine Ag r _ ?_
  split
  ·cases hc:cells.lookup n with
   | none=>exact h
   | some c0 =>
    dsimp only
    rw[u9]
    split
    ·rfl
    ·exact h
  ·exact h
theorem B9{cells:List (Str×Addr)}{y:Str}{c:Addr}(hc:cells.lookup y=some c):∀(names:List (Str×NameKind)) (acc:List (Str×Addr)),(y,NameKind.free)∈names->((uN names cells acc).lookup y).isSome=true
 | (n,k)::r,acc,h=>by
  unfold uN
  rcases List.mem_cons.mp h with e | h
  ·cases e
   refine Ag r _ ?_
   rw[if_pos (show(NameKind.free==NameKind.free)=true by decide),hc]
   dsimp only
   rw[u9,if_pos rfl]
   rfl
  ·exact B9 hc r _ h
theorem Hk{cells:List (Str×Addr)}{names:List (Str×NameKind)}{y:Str}{c:Addr}(hc:cells.lookup y=some c)(h:(y,NameKind.free)∈names):(uN names cells []).lookup y=some c:=by
 obtain⟨c',e⟩:=Option.isSome_iff_exists.mp (B9 hc names [] h)
 have:=ze names [] (fun y c h=>by cases h) y c' e
 rw[hc] at this
 cases this
 exact e
theorem zD{env:Env}{y:Str}:∀(names:List (Str×NameKind)),(names.map fun (n,k)=>if (k==NameKind.free&&env.scope.kind==.function&&env.kindOf n==some .cell) then (n,NameKind.cell) else (n,k)).lookup y =
  (names.lookup y).map fun k=>if (k==NameKind.free&&env.scope.kind==.function&&env.kindOf y==some .cell) then NameKind.cell else k
 | []=>rfl
 | (n,k)::r=>by
  have hd:∀(c:Bool),(if c=true then (n,NameKind.cell) else (n,k))=(n,if c=true then NameKind.cell else k):=fun c=>by cases c<;>rfl
  rw[List.map_cons]
  show List.lookup y ((if (k==NameKind.free&&env.scope.kind==.function&&env.kindOf n==some .cell)=true then (n,NameKind.cell) else (n,k))::_)=_
  rw[hd,u9,u9]
  by_cases e:y=n
  ·subst e
   rw[if_pos rfl,if_pos rfl]
   rfl
  ·rw[if_neg e,if_neg e]
   exact zD r
noncomputable def AR(sc outer:Scope)(T N:List Str):Bool:=
 sc.kind==.function&&(sc.names.all fun p=>p.2 != .cell&&(p.2 != .local||(sc.names.lookup p.1==some .local&&(T.contains p.1||p.1==(".0" : Str))))&&(p.2 != .free||outer.names.lookup p.1==some .cell||outer.names.lookup p.1==some .free)) &&
  (T.all fun t=>sc.names.lookup t==some .local)&&!N.contains (".0" : Str)
structure A9 (sc outer:Scope) (T N:List Str):Prop where
 kind:sc.kind=.function
 nocell:∀y∈sc.names,y.2≠.cell
 names:∀y∈sc.names,y.2=.local->sc.names.lookup y.1=some .local
 loc:∀y,sc.names.lookup y=some .local->y∈T\/y=(".0" : Str)
 free:∀y∈sc.names,y.2=.free->outer.names.lookup y.1=some .cell\/outer.names.lookup y.1=some .free
 tg:∀t∈T,sc.names.lookup t=some .local
 no0:(".0" : Str)∉N
theorem Et{sc outer:Scope}{T N:List Str}(h:AR sc outer T N=true):A9 sc outer T N:=by
 unfold AR at h
 rw[Bool.and_eq_true,Bool.and_eq_true,Bool.and_eq_true] at h
 obtain⟨⟨⟨h1,h2⟩,h3⟩,h4⟩:=h
 rw[List.all_eq_true] at h2 h3
 have g:∀y∈sc.names,y.2≠.cell/\(y.2=.local->sc.names.lookup y.1=some .local/\(y.1∈T\/y.1=(".0" : Str)))/\(y.2=.free->outer.names.lookup y.1=some .cell\/outer.names.lookup y.1=some .free):=fun y hy=>by
  have q:=h2 y hy
  rw[Bool.and_eq_true,Bool.and_eq_true] at q
  obtain⟨⟨q1,q2⟩,q3⟩:=q
  refine⟨by simpa using q1,fun hl=>?_,fun hf=>?_⟩
  ·rw[hl] at q2
   simpa using q2
  ·rw[hf] at q3
   simpa using q3
 refine⟨by simpa using h1,fun y hy=>(g y hy).1,fun y hy hl=>((g y hy).2.1 hl).1,fun y hy=>?_,fun y hy hf=>(g y hy).2.2 hf,fun t ht=>by simpa using h3 t ht,by simpa using h4⟩
 exact((g (y,.local) (PySem.mem_of_lookup hy)).2.1 rfl).2
def BJ(X:Cx)(T:List Str)(scope:Scope)(C:Addr)(fp:List Addr)(s₃:Shared)(H₃:Hp):Cx where
 prog:=X.prog
 w:=X.w
 K:=X.K
 mg:=X.mg
 base:=X.base
 A:=X.A
 N:=T++X.N
 s₀:=s₃
 H₀:=H₃
 env:=compEnvC scope (uN scope.names X.env.cells []) C X.env
 outer:=X.stack
 stack:=X.stack
 ex:=fp
 fn:=fun _=>false
 calm:=X.calm
 pn:=[]
 xe:=fun _ _=>False
section
variable{X:Cx}{pins:List (Addr×Obj)}{σ:L2.St}{H:Hp}{s:Shared}{T:List Str}{scope:Scope}{C:Addr}{fp:List Addr}{h₁:Heap}{t:Nat}
theorem FJ(I:L2.Inv X pins σ H s)(ck:A9 scope X.env.scope T X.N)(hnd:(T++X.N).Nodup)(hf:∀b∈fp,yt X pins H b)(hfo:∀b∈fp,∃o,s.heap.get? b=some o)(hC:s.heap.objs.size<=C)
  (hk:∀b u,s.heap.get? b=some u->h₁.get? b=some u) (hns:h₁.Ns C (fun _=>none)) :
  L2.Inv (BJ X T scope C fp s H) [] (List.replicate T.length none++σ) H {s with heap:=h₁,toks:=t}:=by
 have hlt:∀b∈fp,b<s.heap.objs.size:=fun b hb=>let ⟨o,e⟩:=hfo b hb;Heap.lt_size e
 have hcl:∀y c,(uN scope.names X.env.cells []).lookup y=some c->X.env.cells.lookup y=some c:=ze scope.names [] fun y c h=>by cases h
 have hfr:∀y,(y,NameKind.free)∈scope.names->(X.env.kindOf y=some .cell\/X.env.kindOf y=some .free)/\∃c,(uN scope.names X.env.cells []).lookup y=some c/\X.env.cells.lookup y=some c:=fun y hy=>by
  have k:=ck.free _ hy rfl
  obtain⟨c,hc⟩:=I.ok.has y k
  exact⟨k,c,Hk hc hy,hc⟩
 have hkind:∀y,(compEnvC scope (uN scope.names X.env.cells []) C X.env).kindOf y=(scope.names.lookup y).map fun k=>if (k==NameKind.free&&X.env.scope.kind==.function&&X.env.kindOf y==some .cell) then NameKind.cell else k:=fun y=>zD scope.names
 have hvis:∀y,((compEnvC scope (uN scope.names X.env.cells []) C X.env).kindOf y=some .cell\/(compEnvC scope (uN scope.names X.env.cells []) C X.env).kindOf y=some .free)->(y,NameKind.free)∈scope.names:=fun y hy=>by
  rw[hkind] at hy
  cases hl:scope.names.lookup y with
  | none=>rw[hl] at hy;rcases hy with z | z<;>cases z
  | some k =>
   have hm:=PySem.mem_of_lookup hl
   rw[hl] at hy
   cases k with
   | free=>exact hm
   | cell=>exact absurd rfl (ck.nocell _ hm)
   | «local»=>rcases hy with z | z<;>cases z
   | globalExplicit=>rcases hy with z | z<;>cases z
   | globalImplicit=>rcases hy with z | z<;>cases z
 refine⟨⟨I.ok.mod,ck.kind,I.ok.glob,I.ok.blt,hC,fun x y c h1 h2=>I.ok.inj x y c (hcl x c h1) (hcl y c h2),fun y hy=>?_,fun y c h=>absurd (show false=true from h) Bool.false_ne_true,I.ok.hd,I.ok.frames,.inl rfl,fun b hb=>⟨?_,fun x c h=>?_⟩,I.bs,
  Nat.le_trans I.ok.bsz I.sz,fun b o e hb=>?_,fun b hb hz=>?_,I.stack,I.stkFree⟩,rfl,I.bare,Un.kept hk,⟨_,hns,fun i x v h1 h2 h3=>?_⟩,fun y c h=>?_,I.hok.fresh hC,fun y c h=>I.freeC y c (hcl y c h),fun p hp=>absurd (show p∈([]:List (Addr×Obj)) from hp) (by simp),I.hok.kept hk,?_⟩
 ·obtain⟨_,c,h1,_⟩:=hfr y (hvis y hy)
  exact⟨c,h1⟩
 ·exact Nat.ne_of_lt (Nat.lt_of_lt_of_le (hlt b hb) hC)
 ·exact(hf b hb).2.2.2.2.1 x c (hcl x c h)
 ·rcases(hf b hb).2.2.2.1 with z | z
  ·exact I.ok.noex b o e z
  ·exact absurd (Nat.lt_of_lt_of_le (Heap.lt_size e) (Nat.le_trans I.ok.bsz z)) (Nat.lt_irrefl _)
 ·rcases List.mem_cons.mp (I.stkSub b hz) with z | z
  ·exact(hf b hb).2.1 z
  ·exact(hf b hb).2.2.1 z
 ·by_cases hi:i<T.length
  ·rw[List.getElem?_append_left (by simpa using hi),List.getElem?_replicate] at h2
   split at h2<;>cases h2
  ·rw[List.getElem?_append_right (by simpa using hi),List.length_replicate] at h2
   have h1':X.N[i - T.length]?=some x:=by
    have z:(T++X.N)[i]?=some x:=h1
    rw[List.getElem?_append_right (by omega)] at z
    exact z
   have hxN:x∈X.N:=List.mem_of_getElem? h1'
   have hxf:(x,NameKind.free)∈scope.names:=by
    rcases h3 with z | z | z
    ·have z':(compEnvC scope (uN scope.names X.env.cells []) C X.env).kindOf x=some .local:=z
     rw[hkind] at z'
     cases hl:scope.names.lookup x with
     | none=>rw[hl] at z';cases z'
     | some k =>
      rw[hl] at z'
      have hkl:k=.local:=by
       cases k with
       | «local»=>rfl
       | free=>simp at z';split at z'<;>cases z'
       | cell=>cases z'
       | globalExplicit=>cases z'
       | globalImplicit=>cases z'
      subst hkl
      rcases ck.loc x hl with q | q
      ·exact absurd rfl ((List.nodup_append.mp hnd).2.2 x q x hxN)
      ·exact absurd (q ▸ hxN) ck.no0
    ·exact hvis x (.inl z)
    ·exact hvis x (.inr z)
   obtain⟨hk2,c,hc1,hc2⟩:=hfr x hxf
   obtain⟨m,hm,hl⟩:=I.loc
   obtain⟨u,ru,lk⟩:=hl _ x v h1' h2 (hk2.elim (fun z=>.inr (.inl z)) fun z=>.inr (.inr z))
   refine⟨u,ru,.inr ⟨?_,c,hc1,?_⟩⟩
   ·rcases h3 with z | z | z
    ·exfalso
     have z':(compEnvC scope (uN scope.names X.env.cells []) C X.env).kindOf x=some .local:=z
     rw[hkind] at z'
     cases hl2:scope.names.lookup x with
     | none=>rw[hl2] at z';cases z'
     | some k =>
      rw[hl2] at z'
      have hkl:k=.local:=by
       cases k with
       | «local»=>rfl
       | free=>simp at z';split at z'<;>cases z'
       | cell=>cases z'
       | globalExplicit=>cases z'
       | globalImplicit=>cases z'
      subst hkl
      rcases ck.loc x hl2 with q | q
      ·exact absurd rfl ((List.nodup_append.mp hnd).2.2 x q x hxN)
      ·exact absurd (q ▸ hxN) ck.no0
    ·exact .inl z
    ·exact .inr z
   ·rcases lk with ⟨kl,_⟩ | ⟨_,c',hc',hcell⟩
    ·rcases hk2 with z | z
     ·rw[kl] at z;cases z
     ·rw[kl] at z;cases z
    ·rw[hc2] at hc'
     cases hc'
     obtain⟨o,ho,hd⟩:=hcell
     exact⟨o,hk _ _ ho,hd⟩
 ·obtain⟨v,o,ho,hd⟩:=I.cell y c (hcl y c h)
  exact⟨v,o,hk _ _ ho,hd⟩
 ·show(List.replicate T.length none++σ).length=(T++X.N).length
  rw[List.length_append,List.length_append,List.length_replicate,I.len]
end
theorem Br {prog:Program} {w:World} {A:Around} {R':Result->Shared->Prop} {s:Shared} {elt target iter:Expr} {ifs:List Expr} {scope:Scope} {pos:Pos} {it acc:Value} {env:Env} (I:Nat->Shared->Prop)
    (turn:∀n s,I n s->wpAny (model prog w) A (pyNext it) (fun r s₁=>match r with
      | none=>R' (.ok .next) s₁
      | some v=>wpAny (model prog w) A (letOwnedTupleGo target it v) (fun _ s₁'=>wpAny (model prog w) A (assign target env v) (fun _ s₂ =>
          wpAny (model prog w) A (forIn ifs true fun c r=>if r=true then do let ok <- isTrue c env (eval c env);pure (ForInStep.yield ok) else pure (ForInStep.yield r)) (fun ok s₃ =>
            if ok=true then wpAny (model prog w) A (eval elt env) (fun x s₄ =>
              wpAny (model prog w) A (call (.builtin "list.append") [acc,x]) (fun _ s₅=>∃m,m<n/\I m s₅) (fun _ _=>False) s₄) (fun _ _=>False) s₃
            else ∃m,m<n/\I m s₃) (fun _ _=>False) s₂) (fun _ _=>False) s₁') (fun _ _=>False) s₁) (fun _ _=>False) s)
    (n:Nat) (h:I n s):codeAny (model prog w) A (.compLoop (.ListComp elt [⟨target,iter,ifs,0⟩] scope pos) 0 it acc env) R' s:=by
  refine codeAny_loop rfl I (fun n s hI=>?_) n h
  show wpAny _ A ((compTurn (.ListComp elt [⟨target,iter,ifs,0⟩] scope pos) 0 it acc env).onRaise (fun x=>do noteFrame x env;theTreesLotGoes x)) _ _ s
  refine wpAny_noted ?_
  rw[compTurn_list]
  have ff:∀{E:Value->Shared->Prop} (a:Value) (s:Shared),False->E a s:=fun _ _ z=>z.elim
  refine wpAny_bind (wpAny_standAt (wpAny_bind (wpAny_mono (turn n s hI) (fun r s₁ h₁=>?_) ff)))
  cases r with
  | none=>exact wpAny_pure h₁
  | some v =>
    refine wpAny_bind (wpAny_mono h₁ (fun _ s₁' h₁'=>?_) ff)
    refine wpAny_bind (wpAny_mono h₁' (fun _ s₂ h₂=>wpAny_bind (wpAny_mono h₂ (fun ok s₃ h₃=>?_) ff)) ff)
    cases ok with
    | false=>exact wpAny_pure ⟨rfl,h₃⟩
    | true =>
      exact wpAny_bind (wpAny_bind (wpAny_mono h₃ (fun x s₄ h₄=>wpAny_bind (wpAny_mono h₄ (fun _ s₅ h₅=>wpAny_pure (wpAny_pure ⟨rfl,h₅⟩)) ff)) ff))
def MP(X:Cx)(ifs:List Expr)(c:R->Option Bool):Prop:=
 ∀(pins:List (Addr×Obj)) (s:Shared) (σ:L2.St) (H:Hp) (Q:Bool->Hp->Prop),L2.Inv X pins σ H s->Lb X.K c σ H Q ->
  wpAny (model X.prog X.w) X.A (forIn ifs true fun c r=>if r=true then do let ok <- isTrue c X.env (eval c X.env);pure (ForInStep.yield ok) else pure (ForInStep.yield r)) (TP X pins σ Q) X.xe s
theorem m_{X:Cx}:MP X [] y6:=fun pins s σ H Q I ⟨ρ,b,er,e,q⟩=>by
 cases e
 exact wpAny_tests_nil ⟨H,I,q H (i7.refl H)⟩
section
variable{X:Cx}{pins:List (Addr×Obj)}{σ:L2.St}{H:Hp}{s:Shared}{T:List Str}{scope:Scope}
def FC(k:Nat)(stf:D->R->Option R):Prop:=∀(d:D) (τ ρ ρ1:R),τ.length=k->stf d (τ++ρ)=some ρ1->∃ τ',τ'.length=k/\ρ1=τ'++ρ
theorem yH{k i:Nat}(h:i<k):FC k (setAt i):=fun d τ ρ ρ1 hl e=>by
 unfold setAt at e
 split at e
 ·cases e
  exact⟨τ.set i (some d),by simp[hl],List.set_append_left _ _ (by omega)⟩
 ·cases e
theorem sZ.forget{K:W.Frag}{H:Hp}{τ ρ:R}{σ:L2.St}(e:sZ K H (τ++ρ) σ):sZ K H (List.replicate τ.length none++ρ) σ:=by
 refine⟨by have:=e.1;simpa using this,fun i d h=>?_⟩
 by_cases hi:i<τ.length
 ·rw[List.getElem?_append_left (by simpa using hi),List.getElem?_replicate] at h
  split at h<;>cases h
 ·rw[List.getElem?_append_right (by simpa using hi),List.length_replicate] at h
  exact e.2 i d (by rw[List.getElem?_append_right (by omega)];exact h)
theorem KN{a:Addr}{o:HO}(I:L2.Inv X pins σ H s)(f:yt X pins H a)(new:ui X.prog X.w (upd H a o) s.heap a o):L2.Inv X pins σ (upd H a o) s:=by
 obtain⟨f0,f1,f2,f3,f4,f5⟩:=f
 have ne:∀{b:Addr} {u:HO},H b=some u->b≠a:=fun e z=>by rw[z,f0] at e;cases e
 refine⟨I.ok,I.os,I.bare,⟨I.base.keep,I.base.slot,fun b ob e n hx=>?_,I.base.there,fun b xs e=>?_,fun b ob u ny e=>?_,fun b ps d e=>?_⟩,I.loc,I.cell,?_,fun x c e=>?_,fun p hp=>?_,fun b u e=>?_,I.len⟩
 ·have hb:b≠a:=fun z=>by
   rcases f3 with q | q
   ·exact hx (z ▸ q)
   ·exact absurd (Nat.lt_of_lt_of_le (Heap.lt_size e) (z ▸ q)) (Nat.lt_irrefl _)
  rw[aq hb]
  exact I.base.free b ob e n hx
 ·have q:=I.base.tups b xs e
  rw[aq (ne q)]
  exact q
 ·have q:=I.base.frzs b ob u ny e
  rw[aq (ne q)]
  exact q
 ·have q:=I.base.tbls b ps d e
  rw[aq (ne q)]
  exact q
 ·rw[aq (Ne.symm f1)]
  exact I.free
 ·rw[aq (f4 x c e)]
  exact I.freeC x c e
 ·obtain⟨q1,q2,q3⟩:=I.pin p hp
  exact⟨q1,by rw[aq (f5 p hp)];exact q2,q3⟩
 ·by_cases hb:b=a
  ·subst hb
   rw[av] at e
   cases e
   exact new
  ·rw[aq hb] at e
   refine(I.hok b u e).stay (fun _ _ _ q=>q) (fun c q=>?_) (fun c xs q=>?_) fun c _ _ q=>?_
   ·rw[aq (ne q)];exact q
   ·rw[aq (ne q)];exact q
   ·rw[aq (ne q)];exact q
theorem Iq{C:Addr}{fp:List Addr}{s₃:Shared}{H₃ H':Hp}{b:Addr}{pl:List (Addr×Obj)}(hb:b∈fp\/s₃.heap.objs.size<=b)(hC:b≠C)(hfs:b∉vR X.stack)(hcells:∀x c,(uN scope.names X.env.cells []).lookup x=some c->c≠b)(hn:H' b=none)(hp:∀p∈pl,p.1≠b) :
  yt (BJ X T scope C fp s₃ H₃) pl H' b:=⟨hn,hC,hfs,hb,hcells,fun p hp'=>hp p hp'⟩
theorem qz{elt iter tg:Expr}{ifs:List Expr}{pos:Pos}{it:Addr}{fp:List Addr}{tn:Nat->Heap->Prop}{J:It}{E:Value->Shared->Prop}{ρ:R}{ds out:LD}{stf:D->R->Option R}{cf:R->Option Bool}{ef:R->OD}
  (I:L2.Inv X pins σ H s) (hc:X.calm=true) (Tn:Turn X.prog X.w X.K tg J fp it tn) (st:tn 0 s.heap) (hf:∀b∈fp,yt X pins H b)
  (ck:A9 scope X.env.scope T X.N) (hnd:(T++X.N).Nodup) (hst:FC T.length stf) (er:sZ X.K H ρ σ) (y:vV X.K J ds H) (hz:ds.length<=sizeLine) (hout:wo stf cf ef ds (List.replicate T.length none++ρ)=some out)
  (hg:∀C s₃ H₃ fp,SG (BJ X T scope C fp s₃ H₃) tg stf) (hcnd:∀C s₃ H₃ fp,MP (BJ X T scope C fp s₃ H₃) ifs cf) (he:∀C s₃ H₃ fp,SE (BJ X T scope C fp s₃ H₃) elt ef)
  {RR:Value->Addr->Result->Shared->Prop}
  (hRR:∀(a C:Addr) (H':Hp) (s':Shared) (vs:List V),i7 H H'->H' a=some (.lst vs)->i6 X.K H' out vs->L2.Inv X pins σ H' s'->yt X pins H' C->(∃m,s'.heap.Ns C m)->RR (.ref a) C (.ok .next) s') :
  wpAny (model X.prog X.w) X.A (newList []) (fun acc s₃=>wpAny (model X.prog X.w) X.A (newFunctionEnv scope X.env.globals (uN scope.names X.env.cells []) [] X.env.qual none .none (some X.env)) (fun cenv s₄ =>
   codeAny (model X.prog X.w) X.A (.compStart (.ListComp elt [⟨tg,iter,ifs,0⟩] scope pos) 0 (.ref it) acc {cenv with scope:=relabel scope X.env}) (RR acc cenv.locals) s₄) E s₃) E s:=by
 refine wpAny_newObj_type (wpAny_newFunctionEnv ck.nocell (by intro y hy;simp at hy) (fun h₁ hns₁ hsb₁=>?_) ck.kind)
 dsimp only at hns₁ hsb₁ ⊢
 generalize hH2:s.heap.push {cls:=.type "list",dict:=none,data:=.seq ([]:List Value).toArray}=H2 at hns₁ hsb₁ ⊢
 generalize ha:s.heap.objs.size=a at *
 generalize hCe:H2.objs.size=C at hns₁ hsb₁ ⊢
 have hC:C=a+1:=by rw[<- hCe,<- hH2,Heap.size_push,ha]
 have haC':a<C:=by rw[hC];exact Nat.lt_succ_self a
 have haC:a≠C:=Nat.ne_of_lt haC'
 have hle:s.heap.objs.size<=a:=Nat.le_of_eq ha
 have hCle:s.heap.objs.size<=C:=Nat.le_trans hle (Nat.le_of_lt haC')
 have hlta:∀{b:Addr} {o:Obj},s.heap.get? b=some o->b<a:=fun e=>Nat.lt_of_lt_of_le (Heap.lt_size e) hle
 have old:∀b o,s.heap.get? b=some o->h₁.get? b=some o:=fun b o e=>hsb₁.extBut b o (Nat.ne_of_lt (Nat.lt_trans (hlta e) haC')) (Heap.get?_push_of_some _ (hH2 ▸ Heap.get?_push_of_some _ e))
 have hacc:h₁.get? a=some {cls:=.type "list",data:=.seq ([]:List Value).toArray}:=hsb₁.extBut _ _ haC (Heap.get?_push_of_some _ (hH2 ▸ (ha ▸ Heap.get?_push_size _ rfl)))
 have hfo:∀b∈fp,∃o,s.heap.get? b=some o:=fun b hb=>let ⟨o,e,_⟩:=Tn.obj 0 _ st b hb;⟨o,e⟩
 have hlt:∀b∈fp,b<a:=fun b hb=>let ⟨o,e⟩:=hfo b hb;hlta e
 have hns:h₁.Ns C (fun _=>none):=hns₁
 have I0:L2.Inv (BJ X T scope C fp s H) [] (List.replicate T.length none++σ) H {s with heap:=h₁,toks:=s.toks+([]:List (Str×Value)).length}:=FJ I ck hnd hf hfo hCle old hns
 have hcl:∀y c,(uN scope.names X.env.cells []).lookup y=some c->X.env.cells.lookup y=some c:=ze scope.names [] fun y c h=>by cases h
 have hfs:∀b,a<=b->b∉vR X.stack:=fun b hb hz=>by
  rcases List.mem_cons.mp (I.stkSub b hz) with z | z
  ·exact absurd (Nat.lt_of_lt_of_le I.lt (Nat.le_trans hle (z ▸ hb))) (Nat.lt_irrefl _)
  ·exact I.nofs (Nat.le_trans hle hb) z
 have hcells:∀b,a<=b->∀x c,(uN scope.names X.env.cells []).lookup x=some c->c≠b:=fun b hb x c h z=>by
  obtain⟨v,q⟩:=I.cell x c (hcl x c h)
  exact absurd (Nat.lt_of_lt_of_le q.lt (Nat.le_trans hle (z ▸ hb))) (Nat.lt_irrefl _)
 have hfpok:∀{H':Hp} {pl:List (Addr×Obj)},(∀b∈fp,H' b=none)->(∀p∈pl,p.1∉fp)->∀b∈fp,yt (BJ X T scope C fp s H) pl H' b:=fun {H' pl} hn hp b hb =>
  Iq (.inl hb) (Nat.ne_of_lt (Nat.lt_trans (hlt b hb) haC')) (I0.ok.exfs b hb) (fun x c h=>(I0.ok.exf b hb).2 x c h) (hn b hb) fun p hp' z=>hp p hp' (z ▸ hb)
 have hAok:∀{H':Hp},H' a=none->∀b ∈ [a],yt (BJ X T scope C fp s H) [] H' b:=fun {H'} hn b hb=>by
  cases List.mem_singleton.mp hb
  exact Iq (.inr hle) haC (hfs a (Nat.le_refl _)) (hcells a (Nat.le_refl _)) hn fun p hp=>absurd hp (by simp)
 have hAfp:a∉fp:=fun z=>Nat.lt_irrefl _ (hlt a z)
 have loop:codeAny (model X.prog X.w) X.A (.compLoop (.ListComp elt [⟨tg,iter,ifs,0⟩] scope pos) 0 (.ref it) (.ref a) (compEnvC scope (uN scope.names X.env.cells []) C X.env))
   (RR (.ref a) C) {s with heap:=h₁,toks:=s.toks+([]:List (Str×Value)).length}:=by
  refine Br (fun n s'=>∃i σ' H' vs its k done rest,n=ds.length - i/\i<=ds.length/\L2.Inv (BJ X T scope C fp s H) [] σ' H' s'/\tn i s'.heap/\(∀b∈fp,H' b=none)/\H' a=none/\i7 H H' /\
   s'.heap.get? a=some {cls:=.type "list",data:=.seq (its:List Value).toArray k}/\l3 vs its/\i6 X.K H' done vs/\vs.length<=i/\sZ X.K H' (List.replicate T.length none++ρ) σ' /\
   wo stf cf ef (ds.drop i) (List.replicate T.length none++ρ)=some rest/\out=done++rest) ?_ ds.length
   ⟨0,_,H,[],[],0,[],out,by omega,Nat.zero_le _,I0,Tn.keep _ _ _ st (fun b hb o e=>old b o e),fun b hb=>(hf b hb).1,I.hok.fresh hle,i7.refl H,hacc,.nil,rfl,Nat.zero_le _,er.front T.length (List.replicate T.length none) (by simp),by simpa using hout,rfl⟩
  rintro n s' ⟨i,σ',H',vs,its,k,done,rest,rfl,hi,I',st',hn',hna,sm,ho,hv,hrd,hvl,er',hrest,hsum⟩
  have Ip:=I'.pinned (fp:=[a]) (hAok hna) fun b hb=>by
   cases List.mem_singleton.mp hb
   exact⟨_,ho,fun v z=>by cases z⟩
  generalize hP:([]:List (Addr×Obj))++xJ [a] s'.heap=P at Ip
  have hPm:(a,({cls:=.type "list",data:=.seq its.toArray k}:Obj))∈P:=by rw[<- hP];exact List.mem_append_right _ (dl (by simp) ho)
  have hPa:∀p∈P,p.1∉fp:=fun p hp z=>by
   rw[<- hP] at hp
   obtain⟨q,_⟩:=AG hp
   rw[List.mem_singleton.mp q] at z
   exact hAfp z
  by_cases hlt':i<ds.length
  ·have hd:ds[i]?=some ds[i]:=by simp[hlt']
   obtain⟨hgo,hy⟩:=y.1 i ds[i] H' (Kp.of sm) hd
   rw[List.drop_eq_getElem_cons hlt'] at hrest
   obtain⟨ρ1,e1,hrest⟩:=e9 hrest
   obtain⟨b,e2,hrest⟩:=e9 hrest
   obtain⟨o,e3,hrest⟩:=e9 hrest
   obtain⟨rest',e4,e5⟩:=p9 hrest
   obtain⟨τ,hτ,hρ1⟩:=hst ds[i] (List.replicate T.length none) ρ ρ1 (by simp) e1
   refine sX (Tn.item (BJ X T scope C fp s H) rfl rfl rfl hc i P s' σ' H' (fun _ _=>False) Ip (hfpok hn' hPa) st' hgo) fun r s1 ⟨u,hr,h4⟩=>?_
   subst hr
   refine sX h4 fun _ s2 ⟨x,H2',I2,r2,y2,st2,fr2⟩=>?_
   obtain⟨s12,rx⟩:=hy x H2' y2
   have I3:=I2.pinned (fp:=fp) (hfpok fr2 hPa) (Tn.obj _ _ st2)
   refine sX (hg C s H fp _ s2 σ' H2' x u (fun σ3 H3=>i7 H2' H3/\sZ X.K H3 ρ1 σ3) I3 r2 ⟨_,_,ds[i],ρ1,(er'.mono s12).t,rx,e1,fun σ3 H3 s3 er3=>⟨s3,er3.1⟩⟩) fun _ s3 ⟨σ3,H3,I4,s23,er3⟩=>?_
   refine sX (hcnd C s H fp _ s3 σ3 H3 (fun b' H4=>b'=b/\i7 H3 H4) I4 ⟨ρ1,b,er3,e2,fun H4 s4=>⟨rfl,s4⟩⟩) fun b' s4 ⟨H4,I5,hb',s34⟩=>?_
   subst hb'
   have fin:∀{H5:Hp} {s5:Shared},L2.Inv (BJ X T scope C fp s H) (P++xJ fp s2.heap) σ3 H5 s5->(∀b∈fp,H5 b=none)/\H5 a=none/\s5.heap.get? a=some {cls:=.type "list",data:=.seq its.toArray k}/\(∀b∈fp,∀o,s2.heap.get? b=some o->s5.heap.get? b=some o):=fun {H5 s5} I6=>by
    refine⟨fun b hb=>?_,(I6.pin _ (List.mem_append_right _ (List.mem_append_left _ hPm))).2.1,(I6.pin _ (List.mem_append_right _ (List.mem_append_left _ hPm))).1,fun b hb o e=>(I6.pin (b,o) (List.mem_append_right _ (List.mem_append_right _ (dl hb e)))).1⟩
    obtain⟨o,e,_⟩:=Tn.obj _ _ st2 b hb
    exact(I6.pin (b,o) (List.mem_append_right _ (List.mem_append_right _ (dl hb e)))).2.1
   have unpin:∀{H5:Hp} {s5:Shared},L2.Inv (BJ X T scope C fp s H) (P++xJ fp s2.heap) σ3 H5 s5->L2.Inv (BJ X T scope C fp s H) [] σ3 H5 s5:=fun I6=>I6.pins_of fun p hp=>absurd hp (by simp)
   have erb:∀{H5:Hp},i7 H3 H5->sZ X.K H5 (List.replicate T.length none++ρ) σ3:=fun s5=>by
    have z:=er3.mono s5
    rw[hρ1] at z
    have z2:=z.forget
    rw[hτ] at z2
    exact z2
   cases b' with
   | false =>
    cases e3
    rw[if_neg Bool.false_ne_true]
    obtain⟨q1,q2,q3,q4⟩:=fin I5
    have sm4:i7 H H4:=sm.trans (s12.trans (s23.trans s34))
    have smr:i7 H' H4:=s12.trans (s23.trans s34)
    exact⟨ds.length - (i+1),by omega,i+1,σ3,H4,vs,its,k,done,rest',rfl,hlt',unpin I5,Tn.keep _ _ _ st2 q4,q1,q2,sm4,q3,hv,hrd.mono smr,Nat.le_succ_of_le hvl,erb s34,e4,by rw[hsum,<- e5]⟩
   | true =>
    rw[if_pos rfl] at e3 ⊢
    obtain⟨yv,e6,e7⟩:=p9 e3
    subst e7
    refine sX (he C s H fp _ s4 σ3 H4 (fun v H5=>i7 H4 H5/\Rep X.K H5 yv v) I5 ⟨ρ1,yv,er3.mono s34,e6,fun v H5 s5 r5=>⟨s5,r5⟩⟩) fun xv s5 ⟨v,H5,I6,rv,s45,ry⟩=>?_
    obtain⟨q1,q2,q3,q4⟩:=fin I6
    have hl:=hv.length
    refine call_meets F.slot_list_append ⟨_,q3,rfl⟩ F.entry_list_append (F.args_list_append_2 _ _) (PySem.list_append a its.toArray k xv (by rw[List.size_toArray];omega)) ⟨q3,?_⟩
    have q:=PySem.IsL.update q3 (fun xs=>xs.push xv)
    have sm5:i7 H H5:=sm.trans (s12.trans (s23.trans (s34.trans s45)))
    have smr:i7 H' H5:=s12.trans (s23.trans (s34.trans s45))
    have I7:L2.Inv (BJ X T scope C fp s H) [] σ3 H5 {s5 with heap:=s5.heap.update a (Obj.mapSeq fun xs=>xs.push xv),toks:=s5.toks}:=
     (unpin I6).turned (it:=a) (t':=s5.toks) (fun b ob hb hu=>(Heap.get?_update_other s5.heap _ (Ne.symm hb)).trans hu) q2 haC (.inr hle) (hcells a (Nat.le_refl _)) fun p hp=>absurd (show p∈([]:List (Addr×Obj)) from hp) (by simp)
    refine⟨ds.length - (i+1),by omega,i+1,σ3,H5,vs++[v],its++[xv],(if (its.toArray.push xv).size==its.toArray.size then k else k+1),done++[yv],rest',rfl,hlt',I7,Tn.keep _ _ _ st2 fun b hb ob e=>?_,q1,q2,sm5,?_,hv.append (.cons rv .nil),(hrd.mono smr).append (i6.one ry),by simp;omega,erb (s34.trans s45),e4,by rw[hsum,<- e5];simp⟩
    ·have hne:b≠a:=fun z=>hAfp (z ▸ hb)
     exact(Heap.get?_update_other s5.heap _ (Ne.symm hne)).trans (q4 b hb ob e)
    ·have z:its.toArray.push xv=(its++[xv]).toArray:=by simp
     rw[<- z]
     exact q
  ·have ei:i=ds.length:=by omega
   subst ei
   rw[List.drop_length] at hrest
   cases hrest
   rw[List.append_nil] at hsum
   subst hsum
   refine sX (Tn.done (BJ X T scope C fp s H) rfl rfl rfl hc ds.length P s' σ' H' (fun _ _=>False) Ip (hfpok hn' hPa) st' (y.2 _ H' (Kp.of sm) (Nat.le_refl _))) fun r s1 ⟨hr,I1⟩=>?_
   subst hr
   have ho1:=(I1.pin _ (List.mem_append_right _ hPm)).1
   have IX:L2.Inv X pins σ H' s1:=I.call' (ch:=fp) I1.os I1.base I1.hok I1.bare fun b hb=>⟨(hf b hb).2.2.2.1,(hf b hb).2.1,(hf b hb).2.2.2.2.1,(hf b hb).2.2.2.2.2⟩
   have fA:yt X pins H' a:=I.fpOk hle hna
   have s2:=aQ hna (.lst vs)
   refine hRR a C (upd H' a (.lst vs)) s1 vs (sm.trans s2) av (hrd.mono s2) (KN IX fA ⟨Nat.le_trans hvl hz,its,k,hv,ho1⟩) (I.fpOk hCle ?_) (let ⟨m,q,_⟩:=I1.loc;⟨m,q⟩)
   rw[aq (Ne.symm haC)]
   exact I1.free
 exact codeAny_compStart_list loop (Tn.self _ _ _ _ _ (Tn.keep _ _ _ st fun b hb o e=>old b o e) loop)
variable{elt iter tg:Expr}{ifs:List Expr}{pos p2:Pos}{itf:R->Option LD}{stf:D->R->Option R}{cf:R->Option Bool}{ef:R->OD}
theorem oR(I:L2.Inv X pins σ H s)(ck:A9 scope X.env.scope T X.N):closureFor scope X.env=pure (uN scope.names X.env.cells []):=C6 fun p hp hf=>I.ok.has p.1 (ck.free p hp hf)
theorem pj(hc:X.calm=true)(hi:SI X tg iter itf)(hg:∀C s₃ H₃ fp,SG (BJ X T scope C fp s₃ H₃) tg stf)(hcnd:∀C s₃ H₃ fp,MP (BJ X T scope C fp s₃ H₃) ifs cf)(he:∀C s₃ H₃ fp,SE (BJ X T scope C fp s₃ H₃) elt ef)
  (hst:FC T.length stf) (hnd:(T++X.N).Nodup) (ck:AR scope X.env.scope T X.N=true:=by rfl) (hs:∀x,foldedSetIterable iter X.env x=pure x:=by intro _;rfl) :
  SE X (.ListComp elt [⟨tg,iter,ifs,0⟩] scope pos) (GG T.length itf stf cf ef):=by
 intro pins s σ H Q I hw
 obtain⟨ρ,d,er,e,q⟩:=hw
 obtain⟨ds,e1,e⟩:=e9 e
 have ck':=Et ck
 split at e
 ·rename_i hz
  obtain⟨out,e2,e3⟩:=p9 e
  subst e3
  rw[eval_ListComp]
  refine wpAny_comprehension_free (use:=none) rfl hs (oR I ck') ck'.kind ck'.names ?_
  refine sX (hi pins s σ H (fun J H'=>i7 H H'/\vV X.K J ds H') I ⟨ρ,ds,er,e1,fun J H' s1 y=>⟨s1,y⟩⟩) fun v s1 h1=>sX h1 fun itv s2 h2=>?_
  obtain⟨it,fp,tn,J,H',ei,I2,Tn,st,hf,s12,y⟩:=h2
  subst ei
  refine qz (RR:=fun acc C=>compPost (model X.prog X.w) X.A X.xe none (EP X pins σ Q) acc C) I2 hc Tn st hf ck' hnd hst (er.mono s12) y hz e2 hg hcnd he ?_
  intro a C H3 s' vs sm ha hr I3 fC hns
  obtain⟨m,hm⟩:=hns
  refine⟨m,hm,fun h' hsb=>⟨.ref a,H3,?_,rfl,q _ H3 (s12.trans sm) ⟨a,vs,rfl,ha,hr⟩⟩⟩
  obtain⟨f0,f1,f2,f3,f4,f5⟩:=fC
  exact I3.turned (it:=C) (t':=s'.toks) (fun b o hb eb=>(hsb.2 b hb).trans eb) f0 f1 f3 f4 f5
 ·cases e
end
end HW
namespace HW
open PySem
mutual
def toPy:D->PyData
 | .non=>.none
 | .bl b=>.bool b
 | .int i=>.int i
 | .str x=>.str x
 | .tup xs=>.tuple (u_ xs)
 | .lst xs=>.list (u_ xs)
 | .fro xs=>.list (u_ xs)
 | .obj ..=>.dict []
 | .rf ..=>.dict []
def u_:LD->List PyData
 | []=>[]
 | d::ds=>toPy d::u_ ds
end
end HW
set_option maxHeartbeats 1000000
namespace HW
open PySem PySem.Spec PyProof.Rows L2
section
variable{X:Cx}
theorem ints2{K:W.Frag}{H:Hp}{i j:Int}{xs:List V}(r:i6 K H [.int i,.int j] xs):xs=[.int i,.int j]:=by
 obtain⟨v,r',rfl,r1,w,r'',rfl,r2,r3⟩:=r
 cases (show v=_ from r1)
 cases (show w=_ from r2)
 cases (show r''=[] from r3)
 rfl
theorem ji(hc:X.calm=true):Kl X (.builtin "max") Dn:=(oX hc).imp fun xs H Q ⟨ds,d,r,e,q⟩=>by
 match ds,e with
 | [.int i,.int j],e =>
  cases e
  exact⟨i,j,ints2 r,q _ H (i7.refl H) rfl⟩
mutual
theorem wx{pins:List (Addr×Obj)}{σ:L2.St}{H:Hp}{s:Shared}(I:L2.Inv X pins σ H s):∀{d:D} {v:V} {u:Value},tB d=true->Rep X.K H d v->RelV v u->∃as,Reads s.heap u (toPy d) as
 | .non,v,u,hn,h,r=>by
  cases (show v=_ from h)
  cases (show u=_ from r)
  exact⟨_,.none⟩
 | .bl b,v,u,hn,h,r=>by
  cases (show v=_ from h)
  cases (show u=_ from r)
  exact⟨_,.bool b⟩
 | .int i,v,u,hn,h,r=>by
  cases (show v=_ from h)
  obtain⟨t,rfl⟩:=r
  exact⟨_,.int i t⟩
 | .str x,v,u,hn,h,r=>by
  cases (show v=_ from h)
  obtain⟨t,rfl⟩:=r
  exact⟨_,.str x t⟩
 | .tup ds,v,u,hn,h,r=>by
  obtain⟨a,xs,rfl,q,t⟩:=h
  cases (show u=_ from r)
  obtain⟨its,rv,⟨o,e,c,n,dd⟩,_⟩:=I.tuple q
  obtain⟨as,ra⟩:=xf I hn t rv
  exact⟨_,.tuple e c dd (by simpa using ra)⟩
 | .lst ds,v,u,hn,h,r=>by
  obtain⟨a,xs,rfl,q,t⟩:=h
  cases (show u=_ from r)
  obtain⟨its,rv,⟨o,n,e,c,_,dd⟩,_⟩:=I.list (u4.of q)
  obtain⟨as,ra⟩:=xf I hn t rv
  exact⟨_,.list e c dd (by simpa using ra)⟩
 | .fro ds,v,u,hn,h,r=>by
  obtain⟨a,xs,rfl,q,t⟩:=h
  cases (show u=_ from r)
  obtain⟨its,rv,⟨o,n,e,c,_,dd⟩,_⟩:=I.list q
  obtain⟨as,ra⟩:=xf I hn t rv
  exact⟨_,.list e c dd (by simpa using ra)⟩
 | .obj ..,v,u,hn,h,r=>by cases hn
 | .rf ..,v,u,hn,h,r=>by cases hn
theorem xf{pins:List (Addr×Obj)}{σ:L2.St}{H:Hp}{s:Shared}(I:L2.Inv X pins σ H s):∀{ds:LD} {vs:List V} {us:List Value},m9 ds=true->i6 X.K H ds vs->l3 vs us->∃as,ReadsAll s.heap us (u_ ds) as
 | [],vs,us,hn,h,r=>by
  cases (show vs=[] from h)
  cases r
  exact⟨_,.nil⟩
 | d::ds,vs,us,hn,h,r=>by
  have hn':(tB d&&m9 ds)=true:=hn
  rw[Bool.and_eq_true] at hn'
  obtain⟨v,vr,rfl,h1,h2⟩:=h
  cases r with
  | cons r1 r2 =>
   obtain⟨as,q1⟩:=wx I hn'.1 h1 r1
   obtain⟨bs,q2⟩:=xf I hn'.2 h2 r2
   exact⟨_,.cons q1 q2⟩
end
end
noncomputable def yK(a:Addr)(xs:List V):HO:=.ext fun h=>xs.length<=sizeLine/\∃(its:List Value) (n:Nat),l3 xs its/\h.get? a=some {cls:=.type "list",data:=.seq its.toArray n}
section
variable{X:Cx}{pins:List (Addr×Obj)}{σ:L2.St}{H:Hp}{s:Shared}{a:Addr}{xs:List V}
theorem oa(I:L2.Inv X pins σ H s)(h:H a=some (yK a xs)):xs.length<=sizeLine/\∃(its:List Value) (n:Nat),l3 xs its/\s.heap.get? a=some {cls:=.type "list",data:=.seq its.toArray n}:=(I.hok a _ h).1
theorem FG(I:L2.Inv X pins σ H s)(h:H a=some (.lst xs)):L2.Inv X pins σ (upd H a (yK a xs)) s:=by
 obtain⟨z,its,n,r,e⟩:=I.hok a _ h
 have:=I.write (t':=s.toks) (h':=s.heap) (o:=yK a xs) (x:=a) (e:=a) (by rw[h];trivial) (.inl rfl) (fun _ _ _ q=>q) ⟨_,e⟩ ⟨⟨z,its,n,r,e⟩,⟨_,e⟩,fun h1 h2 ⟨z,its,n,r,e⟩ k=>⟨z,its,n,r,k _ e⟩⟩
 exact this
theorem FV(I:L2.Inv X pins σ H s)(h:H a=some (yK a xs)):L2.Inv X pins σ (upd H a (.lst xs)) s:=by
 obtain⟨z,its,n,r,e⟩:=oa I h
 have:=I.write (t':=s.toks) (h':=s.heap) (o:=.lst xs) (x:=a) (e:=a) (by rw[h];trivial) (.inl rfl) (fun _ _ _ q=>q) ⟨_,e⟩ ⟨z,its,n,r,e⟩
 exact this
def yA(a:Addr)(H H':Hp):Prop:=∀b u,b≠a->H b=some u->H' b=some u
theorem yA.of{H H':Hp}(h:i7 H H'):yA a H H':=fun b u _ e=>h b u e
theorem yA.trans{H H1 H2:Hp}(h:yA a H H1)(h':yA a H1 H2):yA a H H2:=fun b u n e=>h' b u n (h b u n e)
theorem yA.upd{o:HO}:yA a H (upd H a o):=fun b u n e=>by rw[aq n];exact e
theorem yA.kp{H H':Hp}(h:yA a H H')(ho:H a=some (yK a xs)):Kp H H':=fun b u e n=>by
 by_cases hb:b=a
 ·subst hb
  rw[ho] at e
  cases e
  exact absurd rfl (n _)
 ·exact h b u hb e
end
section
variable(K:W.Frag)
def ML(u:R->LD->Option (Out×LD)):TS:=fun E σ H=>∃ ρ τ a ds xs o ds',sY K H ρ (some (.ref a)::τ) σ/\H a=some (yK a xs)/\i6 K H ds xs/\u ρ ds=some (o,ds') /\
 ∀H' xs',yA a H H'->H' a=some (yK a xs')->i6 K H' ds' xs'->fin K E (some (.ref a)::τ) o H'
def Od(u:R->LD->Option Out):TS:=fun E σ H=>∃ ρ τ a ds xs o,sY K H ρ (some (.ref a)::τ) σ/\H a=some (yK a xs)/\i6 K H ds xs/\u ρ ds=some o/\∀H',yA a H H'->fin K E τ o H'
end
def OS(X:Cx)(st:Stmt)(u:R->LD->Option (Out×LD)):Prop:=PS X st (ML X.K u)
def Mi(X:Cx)(sts:List Stmt)(u:R->LD->Option (Out×LD)):Prop:=PSs X sts (ML X.K u)
def OB(X:Cx)(sts:List Stmt)(u:R->LD->Option Out):Prop:=PSs X sts (Od X.K u)
section
variable{X:Cx}{st:Stmt}{sts:List Stmt}{u:R->Option Out}{p q:R->LD->Option (Out×LD)}{pos:Pos}
theorem HL{E:Ends}{σ:L2.St}{H:Hp}{K:W.Frag}(h:ML K (B6 u) E σ H):Iy K u E σ H:=by
 obtain⟨ρ,τ,a,ds,xs,o,ds',er,ho,rp,e,q⟩:=h
 obtain⟨o1,e1,e2⟩:=p9 e
 cases e2
 exact⟨ρ,_,o,er,e1,fun H' s=>q H' xs (yA.of s) (s _ _ ho) (rp.mono s)⟩
theorem qE(h:S1 X st u):OS X st (B6 u):=PS.imp h fun E σ H z=>HL z
theorem ot:Mi X [] An:=za.imp fun E σ H ⟨ρ,τ,a,ds,xs,o,ds',er,ho,rp,e,q⟩=>by
 cases e
 exact q H xs (yA.of (i7.refl H)) ho rp σ er
theorem nQ(h:OS X st p):Mi X [st] p:=dA h
theorem rq{c:Expr}{s:R->Option Bool}{B1 B2:List Stmt}(hc:ST X c s)(ha:Mi X B1 p)(hb:Mi X B2 q):OS X (.If c B1 B2 pos) (HZ s p q):=(lS hc ha hb).imp fun E σ H ⟨ρ,τ,a,ds,xs,o,ds',er,ho,rp,e,qq⟩=>by
 obtain⟨x,e1,e⟩:=e9 e
 refine⟨ρ,x,er.1,e1,fun H1 s1=>?_⟩
 cases x with
 | true=>rw[if_pos rfl] at e ⊢;exact⟨ρ,τ,a,ds,xs,o,ds',er.mono s1,s1 _ _ ho,rp.mono s1,e,fun H2 xs2 k2=>qq H2 xs2 ((yA.of s1).trans k2)⟩
 | false=>rw[if_neg Bool.false_ne_true] at e ⊢;exact⟨ρ,τ,a,ds,xs,o,ds',er.mono s1,s1 _ _ ho,rp.mono s1,e,fun H2 xs2 k2=>qq H2 xs2 ((yA.of s1).trans k2)⟩
theorem pV{K:W.Frag}{H:Hp}{ρ:R}{v:V}{τ σ:L2.St}(er:sY K H ρ (some v::τ) σ):σ[ρ.length]?=some (some v):=by
 have:=er.2
 have h0:(σ.drop ρ.length)[0]?=some (some v):=by rw[this];rfl
 rw[List.getElem?_drop] at h0
 simpa using h0
theorem rJ{x name:Str}{e:Expr}{px ap cp:Pos}{f:R->OD}{id:String}{r:V->List V->Hp->VK->Prop}{g:LD->D->Option LD}{u:R->LD->Option (Out×LD)}(i:Nat)(slot:Slot "list" name id)(hty:typeOf (.builtin id)=pure (.type "method_descriptor"))(hm:L_ X id r)
  (hu:∀ ρ ds o ds',u ρ ds=some (o,ds')->ρ.length=i/\o=.nx ρ/\∃d,f ρ=some d/\g ds d=some ds')
  (hr:∀(H:Hp) (a:Addr) (xs:List V) (v:V) (ds ds':LD) (d:D) (Q:VK),H a=some (yK a xs)->i6 X.K H ds xs->Rep X.K H d v->g ds d=some ds'->(∀xs',i6 X.K H ds' xs'->Q .non (upd (upd H a (.lst xs)) a (.lst xs')))->r (.ref a) [v] (upd H a (.lst xs)) Q)
  (he:SE X e f) (hN:X.N[i]?=some x:=by rfl) (hv:z8 X.env.scope x:=by first | exact Or.inl rfl | exact Or.inr (Or.inl rfl) | exact Or.inr (Or.inr rfl)) (hd:(x==("__debug__" : Str))=false:=by decide) (hcd:(x==("__classdict__" : Str))=false:=by decide)
  (hbase:attributeBase (.Name x px) name X.env (eval (.Name x px) X.env)=eval (.Name x px) X.env:=by rfl) (hst:noStar e=true:=by rfl)
  (hline:(ap.endLine==cp.line)=true:=by rfl) (hs:swapsWith (.Call (.Attribute (.Name x px) name ap) [e] [] cp) none pos.line X.env=pure false:=by rfl) :
  OS X (.Expr (.Call (.Attribute (.Name x px) name ap) [e] [] cp) pos) u:=by
 intro pins s σ H E I ⟨ρ,τ,a,ds,xs,o,ds',er,ho,rp,eu,qq⟩
 obtain⟨hi,rfl,d,e1,e2⟩:=hu ρ ds o ds' eu
 have hσ:=pV er
 rw[hi] at hσ
 have hst1:=aE [] X.env hst
 refine wpAny_Expr_any (wpAny_Call_method_late hbase ?_ hline rfl (sX ((pv i (pos:=px) hN hv hd hcd) pins s σ H (fun v H1=>v=.ref a/\H1=H) I ⟨.ref a,hσ,rfl,rfl⟩) fun v s1 ⟨y,H1,I1,r1,ey,eH⟩=>?_)) I.quiet hs
 ·rw[hst1]
  rfl
 subst ey eH
 cases (show v=_ from r1)
 obtain⟨z,its,n,rv,eo⟩:=oa I1 ho
 refine⟨"list",id,PySem.F.plainAttrs_list,slot,hty,⟨_,eo,rfl⟩,fun b eb=>?_,?_⟩
 ·cases eb
  exact⟨_,eo,rfl⟩
 have hA:=(ac he af hst).1 cp pins s1 σ H1 (fun vs H2=>i7 H1 H2/\i6 X.K H2 [d] vs) I1 ⟨ρ,[d],er.1,by show(f ρ).bind _=_;rw[e1];rfl,fun vs H2 s2 r2=>⟨s2,r2⟩⟩
 rw[hst1] at hA ⊢
 refine Calls.callWith_builtin rfl (Calls.evalArgs_plain ?_)
 refine sX hA fun us s2 ⟨vs,H2,I2,r2,s12,rd⟩=>?_
 obtain⟨w,w',rfl,rw1,rw2⟩:=rd
 cases (show w'=[] from rw2)
 have ho2:=s12 _ _ ho
 have I3:=FV I2 ho2
 refine sX (hm pins s2 σ (upd H2 a (.lst xs)) (.ref a) [w] (.ref a) us (fun v H3=>∃xs',i6 X.K H2 ds' xs'/\H3=upd (upd H2 a (.lst xs)) a (.lst xs')) I3 rfl r2 (hr H2 a xs w ds ds' d _ ho2 (rp.mono s12) rw1 e2 fun xs' rp'=>⟨xs',rp',rfl⟩)) fun v s3 ⟨v',H3,I4,_,xs',rp',e3⟩=>?_
 subst e3
 have I5:=FG I4 av
 generalize hH5:upd (upd (upd H2 a (.lst xs)) a (.lst xs')) a (yK a xs')=H5 at I5
 have k25:yA a H2 H5:=by
  subst hH5
  exact yA.upd.trans (yA.upd.trans yA.upd)
 have ho5:H5 a=some (yK a xs'):=by subst hH5;exact av
 have k15:yA a H1 H5:=(yA.of s12).trans k25
 refine⟨σ,H5,I5,qq H5 xs' k15 ho5 (rp'.kp (k25.kp ho2)) σ (er.kp (k15.kp ho))⟩
theorem nL{x:Str}{e:Expr}{px ap cp:Pos}{f:R->OD}(i:Nat)(he:SE X e f)(hN:X.N[i]?=some x:=by rfl)(hv:z8 X.env.scope x:=by first | exact Or.inl rfl | exact Or.inr (Or.inl rfl) | exact Or.inr (Or.inr rfl))(hd:(x==("__debug__" : Str))=false:=by decide)(hcd:(x==("__classdict__" : Str))=false:=by decide)
  (hbase:attributeBase (.Name x px) "append" X.env (eval (.Name x px) X.env)=eval (.Name x px) X.env:=by rfl) (hst:noStar e=true:=by rfl)
  (hline:(ap.endLine==cp.line)=true:=by rfl) (hs:swapsWith (.Call (.Attribute (.Name x px) "append" ap) [e] [] cp) none pos.line X.env=pure false:=by rfl) :
  OS X (.Expr (.Call (.Attribute (.Name x px) "append" ap) [e] [] cp) pos) (BX i f):=by
 refine rJ (g:=fun ds d=>if ds.length<sizeLine then some (ds++[d]) else none) (f:=f) i PySem.F.slot_list_append PySem.F.type_list_append jR ?_ ?_ he hN hv hd hcd hbase hst hline hs
 ·intro ρ ds o ds' h
  obtain⟨d,e1,h⟩:=e9 h
  split at h
  ·rename_i hc
   cases h
   exact⟨hc.1,rfl,d,e1,if_pos hc.2⟩
  ·cases h
 ·intro H a xs v ds ds' d Q ho rp rd e q
  split at e
  ·rename_i hc
   cases e
   exact⟨a,xs,v,rfl,rfl,av,by rw[<- rp.length];exact hc,q _ (rp.append (i6.one rd))⟩
  ·cases e
theorem io{w:R->LD->Option Out}(h1:OS X st p)(h2:OB X sts w):OB X (st::sts) (xB p w):=(dP h1 h2).imp fun E σ H ⟨ρ,τ,a,ds,xs,o,er,ho,rp,e,qq⟩=>by
 obtain⟨⟨o1,ds1⟩,e1,e⟩:=e9 e
 refine⟨ρ,τ,a,ds,xs,o1,ds1,er,ho,rp,e1,fun H1 xs1 k1 ho1 rp1=>?_⟩
 cases o1 with
 | nx ρ2=>exact fun σ2 er2=>⟨ρ2,τ,a,ds1,xs1,o,er2,ho1,rp1,e,fun H2 k2=>qq H2 (k1.trans k2)⟩
 | rt d=>cases e;exact qq H1 k1
 | bk ρ2=>cases e
 | ct ρ2=>cases e
theorem pL(h:SS X sts u):OB X sts (Fj u):=by
 intro pins s σ H E I ⟨ρ,τ,a,ds,xs,o,er,ho,rp,e,qq⟩
 have I2:=FV I ho
 have k:yA a H (upd H a (.lst xs)):=yA.upd
 have hσ:=pV er
 have er2:=er.kp (k.kp ho)
 refine h pins s σ _ E I2 ⟨ρ++[some (D.lst ds)],τ,o,⟨⟨?_,fun i d hd=>?_⟩,?_⟩,(show u (ρ++[some (D.lst ds)])=some o from e),fun H' s'=>qq H' (k.trans (yA.of s'))⟩
 ·have:=(List.getElem?_eq_some_iff.mp hσ).1
  rw[List.length_append,List.length_singleton]
  exact this
 ·by_cases hi:i<ρ.length
  ·rw[List.getElem?_append_left hi] at hd
   exact er2.1.2 i d hd
  ·by_cases hi2:i=ρ.length
   ·subst hi2
    rw[List.getElem?_append_right (Nat.le_refl _),Nat.sub_self] at hd
    cases hd
    exact⟨_,hσ,a,xs,rfl,av,rp.kp (k.kp ho)⟩
   ·rw[List.getElem?_eq_none (by simp;omega)] at hd
    cases hd
 ·rw[List.length_append,List.length_singleton,<- List.drop_drop,er.2]
  rfl
theorem pY{x:Str}{es:List Expr}{F:R->Option LD}{w:R->LD->Option Out}{px p1:Pos}(i:Nat)(hN:X.N.Nodup)(hF:SA X es F)(h2:OB X sts w)(hix:X.N[i]?=some x:=by rfl)(hx:Loc X.env.scope x:=by first | exact Or.inl rfl | exact Or.inr rfl)
  (hl:Nat.ble es.length 1000=true:=by rfl) (hs:swapsWith (.List es p1) (some (.Name x px)) pos.line X.env=pure false:=by rfl) (hf:X.fn x=true\/X.env.scope.names.lookup x=some .local:=by first | exact .inl rfl | exact .inr rfl) :
  SS X (.Assign [.Name x px] (.List es p1) pos::sts) (JG i F w):=by
 intro pins s σ H E I ⟨ρ,τ,o,er,e,qq⟩
 obtain⟨ds,e1,e⟩:=e9 e
 split at e
 case isFalse=>cases e
 case isTrue hlen =>
 refine wpAny_execs_cons (sX ((mV (i:=i) hN hix hx (mZ hF.1) hs hf) pins s σ H {E with nx:=fun σ' H'=>∃a vs H1,σ'=σ.set i (some (.ref a))/\H'=upd H1 a (.lst vs)/\H1 a=none/\i7 H H1/\i6 X.K H1 ds vs} I ?_) fun f s1 q=>?_)
 ·refine⟨ρ,ds,er.1,e1,fun vs H1 s1 r1=>⟨?_,fun a ha=>⟨a,vs,H1,rfl,rfl,ha,s1,r1⟩⟩⟩
  rw[<- r1.length,hF.2.1 ρ ds e1]
  exact Nat.le_of_lt (xi (Nat.le_of_ble_eq_true hl))
 cases f with
 | next =>
  obtain⟨σ',H',I',a,vs,H1,rfl,rfl,ha,s1',r1⟩:=q
  have I2:=FG I' av
  generalize hH2:upd (upd H1 a (.lst vs)) a (yK a vs)=H2 at I2
  have k12:yA a H1 H2:=by
   subst hH2
   exact yA.upd.trans yA.upd
  have s12:i7 H1 H2:=fun b u hb=>k12 b u (fun z=>by rw[z,ha] at hb;cases hb) hb
  have ho2:H2 a=some (yK a vs):=by subst hH2;exact av
  have hσi:i<σ.length:=Nat.lt_of_lt_of_le (by omega) er.1.1
  refine h2 pins s1 _ H2 E I2 ⟨ρ.take i,τ,a,ds,vs,o,⟨⟨?_,fun j d hd=>?_⟩,?_⟩,ho2,r1.mono s12,e,fun H' k=>qq H' fun b u hb=>?_⟩
  ·simp
   omega
  ·have hj:j<i:=by
    have:=(List.getElem?_eq_some_iff.mp hd).1
    simp at this
    omega
   rw[List.getElem?_take_of_lt hj] at hd
   obtain⟨v,h1,h2⟩:=er.1.2 j d hd
   exact⟨v,by rw[List.getElem?_set_ne (by omega)];exact h1,(h2.mono s1').mono s12⟩
  ·have hd:σ.drop (i+1)=τ:=by rw[<- hlen];exact er.2
   rw[List.length_take,Nat.min_eq_left (by omega),List.drop_eq_getElem_cons (by simpa using hσi)]
   congr 1
   ·simp
   ·rw[List.drop_set_of_lt (by omega)]
    exact hd
  ·have hb2:=s12 _ _ (s1' _ _ hb)
   exact k b u (fun z=>by
    have q:=s1' _ _ hb
    rw[z,ha] at q
    cases q) hb2
 | brk=>exact q
 | cont=>exact q
 | ret v=>exact q
end
mutual
theorem ja:∀d:D,p5 d=true->(toPy d).canLay0=true
 | .non,_=>by simp[toPy,PyData.canLay0]
 | .bl _,_=>by simp[toPy,PyData.canLay0]
 | .int _,_=>by simp[toPy,PyData.canLay0]
 | .str _,h=>by rw[p5] at h;simpa [toPy,PyData.canLay0,PyData.strOk] using h
 | .tup ds,h=>by rw[toPy,PyData.canLay0];exact iu ds h
 | .lst ds,h=>by rw[toPy,PyData.canLay0];exact iu ds h
 | .fro ds,h=>by rw[toPy,PyData.canLay0];exact iu ds h
 | .obj ..,h=>by cases h
 | .rf ..,h=>by cases h
theorem iu:∀ds:LD,t8 ds=true->PyData.canLayAll0 (u_ ds)=true
 | [],_=>by simp[u_,PyData.canLayAll0]
 | d::ds,h=>by
  have h':(p5 d&&t8 ds)=true:=h
  rw[Bool.and_eq_true] at h'
  rw[u_,PyData.canLayAll0,ja d h'.1,iu ds h'.2];rfl
end
mutual
theorem qB:∀d:D,tB d=true->(toPy d).depth=uS d
 | .non,_=>by simp[toPy,PyData.depth,uS]
 | .bl _,_=>by simp[toPy,PyData.depth,uS]
 | .int _,_=>by simp[toPy,PyData.depth,uS]
 | .str _,_=>by simp[toPy,PyData.depth,uS]
 | .tup ds,h=>by rw[toPy,PyData.depth,uS,im ds h]
 | .lst ds,h=>by rw[toPy,PyData.depth,uS,im ds h]
 | .fro ds,h=>by rw[toPy,PyData.depth,uS,im ds h]
 | .obj ..,h=>by cases h
 | .rf ..,h=>by cases h
theorem im:∀ds:LD,m9 ds=true->PyData.depthAll (u_ ds)=uX ds
 | [],_=>by simp[u_,PyData.depthAll,uX]
 | d::ds,h=>by
  have h':(tB d&&m9 ds)=true:=h
  rw[Bool.and_eq_true] at h'
  rw[u_,PyData.depthAll,uX,qB d h'.1,im ds h'.2]
end
mutual
theorem CL:∀x y:D,tB x=true->tB y=true->PyData.eqv (toPy x) (toPy y)=Ij x y
 | .non,y,_,h=>by cases y<;>first | rfl | cases h
 | .bl a,y,_,h=>by cases y<;>first | rfl | cases h
 | .int a,y,_,h=>by cases y<;>first | rfl | cases h
 | .str a,y,_,h=>by cases y<;>first | rfl | cases h
 | .tup xs,y,g,h=>by
  cases y with
  | tup ys=>exact wZ xs ys g h
  | obj _ _ _ _=>cases h
  | rf _=>cases h
  | _=>rfl
 | .lst xs,y,g,h=>by
  cases y with
  | lst ys=>exact wZ xs ys g h
  | fro ys=>exact wZ xs ys g h
  | obj _ _ _ _=>cases h
  | rf _=>cases h
  | _=>rfl
 | .fro xs,y,g,h=>by
  cases y with
  | lst ys=>exact wZ xs ys g h
  | fro ys=>exact wZ xs ys g h
  | obj _ _ _ _=>cases h
  | rf _=>cases h
  | _=>rfl
 | .obj ..,y,g,h=>by cases g
 | .rf ..,y,g,h=>by cases g
theorem wZ:∀xs ys:LD,m9 xs=true->m9 ys=true->PyData.eqvAll (u_ xs) (u_ ys)=Ad xs ys
 | [],[],_,_=>rfl
 | [],_::_,_,_=>rfl
 | _::_,[],_,_=>rfl
 | x::xs,y::ys,g,h=>by
  have g':(tB x&&m9 xs)=true:=g
  have h':(tB y&&m9 ys)=true:=h
  rw[Bool.and_eq_true] at g' h'
  show(PyData.eqv (toPy x) (toPy y)&&PyData.eqvAll (u_ xs) (u_ ys))=(Ij x y&&Ad xs ys)
  rw[CL x y g'.1 h'.1,wZ xs ys g'.2 h'.2]
end
section
variable{X:Cx}
theorem Ap{k:Nat}(hr:sL k X.A){dx dy:D}(h:uS dx<=100)(hn:tB dx=true):X.A.units+min (toPy dx).depth (toPy dy).depth<cLine:=by
 have h1:=hr.un
 have h2:min (toPy dx).depth (toPy dy).depth<=100:=by rw[qB dx hn];omega
 omega
theorem nJ{k:Nat}(hr:sL k X.A):CI X .Eq xm:=by
 intro pins s σ H x y v u Q I rx ry h
 obtain⟨dx,dy,b,r1,r2,e,q⟩:=h
 unfold xm at e
 split at e
 ·rename_i hd
  cases e
  obtain⟨as,ra⟩:=wx I (bH hd.2.1) r1 rx
  obtain⟨bs,rb⟩:=wx I (bH hd.2.2) r2 ry
  have z:=SeqAt.rcAt_reads ra rb (ja dx hd.2.1) (ja dy hd.2.2) (Ap (dy:=dy) hr hd.1 (bH hd.2.1))
  rw[CL _ _ (bH hd.2.1) (bH hd.2.2)] at z
  exact z _ _ _ _ ⟨.bl (Ij dx dy),H,I,rfl,q⟩
 ·cases e
theorem gN{k:Nat}(hr:sL k X.A):CI X .NotEq xD:=by
 intro pins s σ H x y v u Q I rx ry h
 obtain⟨dx,dy,b,r1,r2,e,q⟩:=h
 unfold xD xm at e
 split at e
 ·rename_i hd
  cases e
  obtain⟨as,ra⟩:=wx I (bH hd.2.1) r1 rx
  obtain⟨bs,rb⟩:=wx I (bH hd.2.2) r2 ry
  have z:=SeqAt.rcNeAt_reads ra rb (ja dx hd.2.1) (ja dy hd.2.2) (Ap (dy:=dy) hr hd.1 (bH hd.2.1))
  rw[CL _ _ (bH hd.2.1) (bH hd.2.2)] at z
  exact PySem.EqBoolInt.of_rcne z ⟨.bl (!Ij dx dy),H,I,rfl,q⟩
 ·cases e
end
section
variable{prog:Program}{w:World}{A:Around}{R':Result->Shared->Prop}{I:Addr}{fp wr:List Addr}{n:Nat}{P:Nat->Value->Prop}{St:Nat->Heap->Prop}
abbrev Hm:List (Str×Value):=[(oS "default",Value.none)]
abbrev KO(S:Addr)(vs:Array Value)(c:Nat)(h:Heap):Prop:=h.get? S=some {cls:=.type "list",dict:=none,data:=.seq vs c,slots:=#[]}
theorem xb:(toString "max" ++ toString ".loop" : String) = "max.loop":=by decide
theorem HH(W:Walks prog w A.in1 I fp wr n P St)(bt:Nat->Nat->Bool)(hcmp:CmpOf prog w A.in1 .Gt P bt)(S:Addr)(hSf:S∉fp):∀(k j:Nat) (s:Shared) (vb:Value) (c:Nat),n - (j+1)=k->j+1<=n->St (j+1) s.heap->P (argBest bt j) vb->KO S #[vb,vb] c s.heap ->
  (∀v h' tk,P (argBest bt (n - 1)) v->(∀b o,b∉wr->b≠S->s.heap.get? b=some o->h'.get? b=some o)->R' (.ok (.ret v)) {s with heap:=h',toks:=tk})->codeAny (model prog w) A (.builtin "max.loop" ⟨[.ref I,.none,.ref S],Hm⟩) R' s:=by
 have hSw:S∉wr:=fun z=>hSf (W.sub _ z)
 intro k
 induction k with
 | zero =>
  intro j s vb c hk hj hst hPb hS hR
  have hin:j+1=n:=by omega
  refine codeAny_builtin F.entry_max_loop ?_;rw[Around.under_plainId F.plain_max_loop _];show wpAny _ A.in1 (seqItems? (.ref S) >>= _) _ _ s
  refine wpAny_bind (wpAny_seqItems hS rfl ?_);show wpAny _ A.in1 (tryCatch (pyNext (.ref I)) _ >>= _) _ _ s
  refine wpAny_bind (wpAny_tryCatch (W.done s _ _ (hin ▸ hst) fun h1 t1 k1=>?_));have hS1:=k1 S _ hSw hS
  show wpAny _ A.in1 (updateSeq S (fun _=>#[]) >>= _) _ _ _;refine wpAny_bind (wpAny_updateSeq hS1 rfl (wpAny_bind (wpAny_letGo (wpAny_pure ?_))))
  exact hR vb _ t1 (by rw[<- hin];exact hPb) fun b o hbw hbS e=>(Heap.get?_update_other _ _ (Ne.symm hbS)).trans (k1 b o hbw e)
 | succ k ih =>
  intro j s vb c hk hj hst hPb hS hR
  have hlt:j+1<n:=by omega
  refine codeAny_builtin F.entry_max_loop ?_;rw[Around.under_plainId F.plain_max_loop _];show wpAny _ A.in1 (seqItems? (.ref S) >>= _) _ _ s
  refine wpAny_bind (wpAny_seqItems hS rfl ?_);show wpAny _ A.in1 (tryCatch (pyNext (.ref I)) _ >>= _) _ _ s
  refine wpAny_bind (wpAny_tryCatch (W.item (j+1) s _ _ hlt hst fun v h1 t1 hP st1 k1=>?_));have hS1:=k1 S _ hSw hS
  show wpAny _ A.in1 (tryCatch (holding [v,v] (richCompare .Gt v vb >>= _)) _ >>= _) _ _ _;refine wpAny_bind (wpAny_tryCatch (wpAny_holding (wpAny_bind (hcmp (j+1) (argBest bt j) v vb _ _ _ hP hPb ?_))))
  refine wpAny_bind (wpAny_holding (wpAny_truthy_bool ?_));refine wpAny_bind (wpAny_letGo (wpAny_pure ?_))
  cases hb:bt (j+1) (argBest bt j) with
  | true =>
   simp only[if_true];refine wpAny_bind (wpAny_updateSeq hS1 rfl (wpAny_bind (wpAny_letGo ?_)));rw[xb]
   refine wpAny_pure ⟨plainId_quiet F.plain_max_loop _,ih (j+1) _ v _ (by omega) hlt (W.frame _ _ _ st1 fun b hbf o e=>?_) (by simp only[argBest,hb,if_true];exact hP) (Heap.get?_update_self _ hS1 rfl) fun v' h2 t2 hP' k2=>?_⟩
   ·refine(Heap.get?_update_other _ _ fun z:S=b=>hSf ?_).trans e;rw[z];exact hbf
   ·refine hR v' h2 t2 hP' fun b o hbw hbS e=>k2 b o hbw hbS ?_;exact(Heap.get?_update_other _ _ (Ne.symm hbS)).trans (k1 b o hbw e)
  | false =>
   simp only[Bool.false_eq_true,if_false];refine wpAny_bind (wpAny_letGo ?_);rw[xb]
   refine wpAny_pure ⟨plainId_quiet F.plain_max_loop _,ih (j+1) _ vb c (by omega) hlt st1 (by simp only[argBest,hb,Bool.false_eq_true,if_false];exact hPb) hS1 fun v' h2 t2 hP' k2=>?_⟩
   refine hR v' h2 t2 hP' fun b o hbw hbS e=>k2 b o hbw hbS ?_;exact k1 b o hbw e
theorem Fu(W:Walks prog w A.in1 I fp wr n P St)(bt:Nat->Nat->Bool)(hcmp:CmpOf prog w A.in1 .Gt P bt)(S:Addr)(hSf:S∉fp){s:Shared}{c:Nat}(hst:St 0 s.heap)(hS:KO S #[] c s.heap)
  (h0:n=0->∀h' tk,(∀b o,b∉wr->b≠S->s.heap.get? b=some o->h'.get? b=some o)->R' (.ok (.ret .none)) {s with heap:=h',toks:=tk})
  (hR:0<n->∀v h' tk,P (argBest bt (n - 1)) v->(∀b o,b∉wr->b≠S->s.heap.get? b=some o->h'.get? b=some o)->R' (.ok (.ret v)) {s with heap:=h',toks:=tk}):codeAny (model prog w) A (.builtin "max.loop" ⟨[.ref I,.none,.ref S],Hm⟩) R' s:=by
 have hSw:S∉wr:=fun z=>hSf (W.sub _ z)
 refine codeAny_builtin F.entry_max_loop ?_;rw[Around.under_plainId F.plain_max_loop _];show wpAny _ A.in1 (seqItems? (.ref S) >>= _) _ _ s
 refine wpAny_bind (wpAny_seqItems hS rfl ?_);show wpAny _ A.in1 (tryCatch (pyNext (.ref I)) _ >>= _) _ _ s
 by_cases hn:0<n
 ·refine wpAny_bind (wpAny_tryCatch (W.item 0 s _ _ hn hst fun v h1 t1 hP st1 k1=>?_));have hS1:=k1 S _ hSw hS
  show wpAny _ A.in1 (updateSeq S (fun _=>#[v,v]) >>= _) _ _ _;refine wpAny_bind (wpAny_updateSeq hS1 rfl ?_);rw[xb]
  refine wpAny_pure ⟨plainId_quiet F.plain_max_loop _,HH W bt hcmp S hSf _ 0 _ v _ rfl hn (W.frame _ _ _ st1 fun b hbf o e=>?_) hP (Heap.get?_update_self _ hS1 rfl) fun v' h2 t2 hP' k2=>?_⟩
  ·refine(Heap.get?_update_other _ _ fun z:S=b=>hSf ?_).trans e;rw[z];exact hbf
  ·refine hR hn v' h2 t2 hP' fun b o hbw hbS e=>k2 b o hbw hbS ?_;exact(Heap.get?_update_other _ _ (Ne.symm hbS)).trans (k1 b o hbw e)
 ·have hz:n=0:=by omega
  refine wpAny_bind (wpAny_tryCatch (W.done s _ _ (hz ▸ hst) fun h1 t1 k1=>?_))
  refine wpAny_bind (wpAny_rule (wpAny_pure ?_))
  exact h0 hz h1 t1 fun b o hbw hbS e=>k1 b o hbw e
end
section
variable{prog:Program}{w:World}{A:Around}{E:Value->Shared->Prop}{s:Shared}
theorem EH(a:Value):argsOk "max" ⟨[a],Hm⟩:=by unfold argsOk;kernel_rfl
theorem gP{l:Addr}{its:List Value}{val:Nat->Int}{Q:Value->Shared->Prop}(hh:A.handled=none)(hl:s.heap.IsList l its.toArray)(hv:∀(i:Nat) v,its.toArray[i]?=some v->∃t,v=.int (val i) t)
  (h0:its=[]->∀h' tk,(∀b o,s.heap.get? b=some o->h'.get? b=some o)->Q .none {s with heap:=h',toks:=tk})
  (h1:its ≠ []->∀v h' tk,its.toArray[argBest (fun i j=>decide (val i > val j)) (its.length - 1)]?=some v->(∀b o,s.heap.get? b=some o->h'.get? b=some o)->Q v {s with heap:=h',toks:=tk}) :
  wpAny (model prog w) A (call (.builtin "max") [.ref l] Hm) Q E s:=by
 refine wpAny_call (codeAny_call_builtin F.plain_max F.entry_max ?_)
 simp only[checkBuiltinCall,F.kind_max]
 have main:wpAny (model prog w) A.in1 (Builtin.«max» ⟨[.ref l],Hm⟩) (fun fin s'=>match fin with
   | .done f=>(match (Except.ok f:Result) with
    | .ok (.ret v)=>Q v s'
    | .ok _=>False
    | .error e=>E e s')
   | .again c'=>c'.quiet=true/\codeAny (model prog w) A c' (fun r s'=>match r with
    | .ok (.ret v)=>Q v s'
    | .ok _=>False
    | .error e=>E e s') s') E s:=by
  show wpAny _ A.in1 (Builtin.Builtins.bindParams "max" ["key","default"] 0 ⟨[],Hm⟩ >>= _) _ _ s
  refine wpAny_bind (wpAny_of_eq (show Builtin.Builtins.bindParams "max" ["key","default"] 0 ⟨[],Hm⟩=pure [none,some .none] from rfl) ?_)
  refine wpAny_bind (wpAny_pure (wpAny_bind (wpAny_pyIter_list hl ?_)))
  refine wpAny_bind (wpAny_newObj_type ?_)
  rw[xb]
  have hlt:l<s.heap.objs.size:=by
   obtain⟨o,e,_⟩:=hl
   exact Heap.lt_size e
  generalize hI:s.heap.objs.size=J at hlt
  generalize h1e:s.heap.push {cls:=Value.type "list_iterator",data:=Data.fields #[Value.ref l,Value.int 0 0]}=H1
  have hJ:H1.objs.size=J+1:=by rw[<- h1e,Heap.size_push,hI]
  have k1:∀b o,s.heap.get? b=some o->H1.get? b=some o:=fun b o e=>by rw[<- h1e];exact Heap.get?_push_of_some _ e
  have st1:H1.IsListIter J l 0/\H1.IsList l its.toArray:=⟨by rw[<- h1e,<- hI];exact⟨_,Heap.get?_push_size _ rfl,rfl,rfl⟩,hl.at fun o e=>k1 _ _ e⟩
  have hne:l≠J:=Nat.ne_of_lt hlt
  have hSf:H1.objs.size ∉ [J,l]:=by
   rw[hJ]
   intro z
   rcases List.mem_cons.mp z with z | z
   ·exact absurd z (Nat.ne_of_gt (Nat.lt_succ_self J))
   ·rw[<- List.mem_singleton.mp z] at hlt
    exact absurd hlt (Nat.not_lt.mpr (Nat.le_succ J))
  have W:=Walks.list (prog:=prog) (w:=w) (A:=A.in1) hh J l hne its.toArray
  have old:∀{h':Heap},(∀b o,b ∉ [J]->b≠H1.objs.size->(H1.push {cls:=Value.type "list",data:=Data.seq ([]:List Value).toArray}).get? b=some o->h'.get? b=some o)->∀b o,s.heap.get? b=some o->h'.get? b=some o:=fun kk b o e=>by
   have hb:b<J:=by rw[<- hI];exact Heap.lt_size e
   refine kk b o (fun z=>absurd (List.mem_singleton.mp z) (Nat.ne_of_lt hb)) ?_ (Heap.get?_push_of_some _ (k1 b o e))
   rw[hJ]
   exact Nat.ne_of_lt (Nat.lt_succ_of_lt hb)
  refine wpAny_pure ⟨plainId_quiet F.plain_max_loop _,Fu W _ (CmpOf.ints_gt val hv) H1.objs.size hSf (W.frame _ _ _ st1 fun b _ o e=>Heap.get?_push_of_some _ e) (Heap.get?_push_size _ rfl) (fun hz h' tk kk=>?_) fun hn v h' tk hP kk=>?_⟩
  ·exact h0 (by simpa using hz) h' tk (old kk)
  ·refine h1 (fun z=>by subst z;simp at hn) v h' tk ?_ (old kk)
   simpa using hP
 cases hsig:Manifest.signature? "max" with
 | none=>exact wpAny_pure main
 | some sig =>
  have ha:=EH (.ref l)
  simp only[argsOk,hsig] at ha
  have h2:Bind.checkArgs "max" sig ⟨[.ref l],Hm⟩=pure ():=ha
  show wpAny _ A.in1 (Bind.checkArgs "max" sig ⟨[.ref l],Hm⟩) _ _ s
  rw[h2]
  exact wpAny_pure main
end
section
variable{X:Cx}
theorem qG{e:Expr}{f:R->OD}{p kp p2 pos:Pos}{j:Nat}(hc:X.calm=true)(hm:X.mg "max" = none)(he:SE X e f)(hg:Gl X "max":=by rfl)(hst:noStar e=true:=by rfl) :
  SE X (.Call (.Name "max" p) [e] [⟨some "default",.Constant .none j p2,kp⟩] pos) (c8 Ci (c4 f c7)):=by
 intro pins s σ H Q I ⟨ρ,d,er,eq,q⟩
 obtain⟨ds,e1,e2⟩:=e9 eq
 have hst1:=aE [] X.env hst
 refine wpAny_Call_Name_kw (eY I hg hm boot_max ?_ (by decide) (by decide))
 refine callWith_kw (sX ((ac he af hst).1 pos pins s σ H (fun vs H2=>i7 H H2/\i6 X.K H2 ds vs) I ⟨ρ,ds,er,e1,fun vs H2 s2 r2=>⟨s2,r2⟩⟩) fun us s1 ⟨vs,H1,I1,r1,s01,rp⟩=>?_) (by rw[hst1];rfl) (by rw[hst1];rfl) rfl rfl
 refine kws_cons (Constant_none (kws_nil ?_))
 have hh:=I1.ok.hd hc
 match ds,e2 with
 | [.lst []],e2 =>
  cases e2
  obtain⟨v,r',rfl,⟨a,xs,rfl,ha,rx⟩,rr⟩:=rp
  cases (show r'=[] from rr)
  cases (show xs=[] from rx)
  obtain⟨u,rfl,ru⟩:=r1.one
  cases (show u=_ from ru)
  obtain⟨_,its,n,rv,hl,eo⟩:=I1.lstM ha
  cases rv
  exact gP (val:=fun _=>0) hh ⟨_,eo,rfl,n,rfl⟩ (fun i v hv=>by simp at hv) (fun _ h' tk k=>⟨.non,H1,I1.kept k,rfl,q _ H1 s01 rfl⟩) fun z=>absurd rfl z
 | [.lst [.int a1]],e2 =>
  cases e2
  obtain⟨v,r',rfl,⟨a,xs,rfl,ha,rx⟩,rr⟩:=rp
  cases (show r'=[] from rr)
  obtain⟨x1,x2,rfl,rx1,rx2⟩:=rx
  cases (show x1=_ from rx1)
  cases (show x2=[] from rx2)
  obtain⟨u,rfl,ru⟩:=r1.one
  cases (show u=_ from ru)
  obtain⟨_,its,n,rv,hl,eo⟩:=I1.lstM ha
  obtain⟨w1,rfl,t1,rfl⟩:=rv.one
  refine gP (val:=fun _=>a1) hh ⟨_,eo,rfl,n,rfl⟩ (fun i v hv=>?_) (fun z=>by cases z) fun _ v h' tk hv k=>?_
  ·have z:=(Array.getElem?_eq_some_iff.mp hv).1
   have z0:i=0:=by simpa using z
   subst z0
   exact⟨t1,(Option.some.inj hv).symm⟩
  ·have hv':Value.int a1 t1=v:=Option.some.inj hv
   subst hv'
   exact⟨.int a1,H1,I1.kept k,⟨t1,rfl⟩,q _ H1 s01 rfl⟩
 | [.lst [.int a1,.int a2]],e2 =>
  cases e2
  obtain⟨v,r',rfl,⟨a,xs,rfl,ha,rx⟩,rr⟩:=rp
  cases (show r'=[] from rr)
  have hx:=ints2 rx
  subst hx
  obtain⟨u,rfl,ru⟩:=r1.one
  cases (show u=_ from ru)
  obtain⟨_,its,n,rv,hl,eo⟩:=I1.lstM ha
  obtain⟨w1,w2,rfl,⟨t1,rfl⟩,⟨t2,rfl⟩⟩:=vals2 rv
  refine gP (val:=fun i=>if i=0 then a1 else a2) hh ⟨_,eo,rfl,n,rfl⟩ (fun i v hv=>?_) (fun z=>by cases z) fun _ v h' tk hv k=>?_
  ·have z:=(Array.getElem?_eq_some_iff.mp hv).1
   have z0:i=0\/i=1:=by
    have:i<2:=by simpa using z
    omega
   rcases z0 with rfl | rfl
   ·exact⟨t1,(Option.some.inj hv).symm⟩
   ·exact⟨t2,(Option.some.inj hv).symm⟩
  ·by_cases hgt:a2 > a1
   ·have hb:argBest (fun i j=>decide ((if i=0 then a1 else a2) > (if j=0 then a1 else a2))) ([Value.int a1 t1,Value.int a2 t2].length - 1)=1:=by simp[argBest,hgt]
    rw[hb] at hv
    have hv':Value.int a2 t2=v:=Option.some.inj hv
    subst hv'
    exact⟨.int a2,H1,I1.kept k,⟨t2,rfl⟩,q _ H1 s01 (by show V.int a2=V.int _;rw[if_pos hgt])⟩
   ·have hb:argBest (fun i j=>decide ((if i=0 then a1 else a2) > (if j=0 then a1 else a2))) ([Value.int a1 t1,Value.int a2 t2].length - 1)=0:=by simp[argBest,hgt]
    rw[hb] at hv
    have hv':Value.int a1 t1=v:=Option.some.inj hv
    subst hv'
    exact⟨.int a1,H1,I1.kept k,⟨t1,rfl⟩,q _ H1 s01 (by show V.int a1=V.int _;rw[if_neg hgt])⟩
end
section
open PySem.SeqAt
open AutoSeq1 (wpAny_loadPart')
open MeetsSeq MeetsSeq2 MeetsSeq3 SeqRoads2
theorem Ac(l:Addr)(items:Array Value)(n:Nat)(dd:Option Addr)(sl:Array (Option Value))(x:Value)(j:Nat)(hj:j<items.size) :
  Meets (Builtin.«tuple.index» ⟨[.ref l,x],[]⟩) (fun A R s=>s.heap.get? l=some {cls:=.type "tuple",dict:=dd,data:=.seq items n,slots:=sl}/\(∀i (h:i<items.size),i<=j->EqAt A.in1 s items[i] x (decide (i=j)))/\R (.ok (.ret (.int (j:Int) s.toks))) {s with toks:=s.toks+1}):=
 .of_wp fun prog w A R s h=>by
  obtain⟨hp,g,d,tk,os⟩:=s
  obtain⟨hl,he,h⟩:=h
  unfold Builtin.«tuple.index»
  simp only[Std.Legacy.Range.forIn_eq_forIn_range']
  wp_walk using wpAny_loadPart' hl,wpAny_forIn_list _ (fun rest b s'=>s'=⟨hp,g,d,tk,os⟩/\b=(none,())/\∃k,k<=j/\rest=List.range' k (items.size - k)) _
  case turn =>
   rintro i rest b s' ⟨rfl,rfl,k,hk,e⟩
   have hs:items.size - k=(items.size - (k+1))+1:=by omega
   rw[hs,List.range'_succ] at e
   cases e
   have hlt:i<items.size:=by omega
   have hi:items[i]?=some items[i]:=by simp[hlt]
   rw[hi]
   refine wpAny_bind (he i hlt hk prog w _ _ ?_)
   by_cases hij:i=j
   ·subst hij
    rw[decide_eq_true rfl]
    wp_walk
    exact⟨_,rfl,h⟩
   ·rw[decide_eq_false hij]
    wp_walk
    exact⟨rfl,rfl,i+1,by omega,rfl⟩
  case fin =>
   rintro b s' ⟨rfl,rfl,k,hk,e⟩
   have hs:items.size - k=(items.size - (k+1))+1:=by omega
   rw[hs,List.range'_succ] at e
   cases e
  case h =>
   refine⟨rfl,rfl,0,Nat.zero_le _,?_⟩
   simp
end
def Jy(K:W.Frag)(mg:Str->Option Value)(x:Str)(ws:List Str):Prop:=∃a its n sl,mg x=some (.ref a)/\K.lookup a=some ⟨.type "tuple",none,.seq its n,sl⟩/\l3 (ws.map V.str) its.toList
section
variable{X:Cx}
def MT(K:W.Frag):V->List V->Hp->VK->Prop:=fun x vs H Q=>∃(p:Addr) (its:Array Value) (n:Nat) (sl:Array (Option Value)) (ws:List Str) (z:Str) (j:Nat),x=.ref p/\vs=[.str z]/\K.lookup p=some ⟨.type "tuple",none,.seq its n,sl⟩/\l3 (ws.map V.str) its.toList/\ws.findIdx? (·==z)=some j/\Q (.int (j:Nat)) H
theorem sd:GK X "tuple.index" (MT X.K):=by
 intro pins s σ H x vs v us Q I rx rv h
 obtain⟨p,its,n,sl,ws,z,j,rfl,rfl,hk,hv,hj,q⟩:=h
 cases (show v=_ from rx)
 obtain⟨u,rfl,t,rfl⟩:=rv.one
 have e:=I.kIn p _ hk
 obtain⟨h1,h2,h3⟩:=List.findIdx?_eq_some_iff_getElem.mp hj
 have hlen:ws.length=its.size:=by have:=hv.length;simpa using this
 refine call_meets F.slot_tuple_index ⟨_,e,rfl⟩ F.entry_tuple_index (F.args_tuple_index_2 _ _) (Ac p its n none sl (.str z t) j (by omega)) ⟨e,fun i hi hle=>?_,?_⟩
 ·have hw:i<ws.length:=by omega
  obtain⟨u,hu,ru⟩:=hv.get (i:=i) (x:=.str ws[i]) (by simp[hw])
  obtain⟨t2,rfl⟩:=ru
  have he:its[i]=Value.str ws[i] t2:=by
   have:its[i]?=some (Value.str ws[i] t2):=by simpa using hu
   rw[Array.getElem?_eq_getElem hi] at this
   exact Option.some.inj this
  rw[he]
  have hb:(ws[i]==z)=decide (i=j):=by
   by_cases hij:i=j
   ·subst hij
    rw[decide_eq_true rfl]
    exact h2
   ·rw[decide_eq_false hij]
    exact Bool.eq_false_iff.mpr (h3 i (by omega))
  rw[<- hb]
  exact SeqAt.EqAt.str_str _ _ _ _
 ·exact⟨.int (j:Nat),H,I.tok _,⟨_,rfl⟩,q⟩
theorem r_{x:Str}{ws:List Str}{e:Expr}{f:R->OD}{px ap cp:Pos}(hc:Jy X.K X.mg x ws)(he:SE X e f)(hg:Gl X x:=by rfl)(hd:(x==("__debug__" : Str))=false:=by decide)
  (hbase:attributeBase (.Name x px) "index" X.env (eval (.Name x px) X.env)=eval (.Name x px) X.env:=by rfl) (hst:noStar e=true:=by rfl) (hline:(ap.endLine==cp.line)=true:=by rfl) :
  SE X (.Call (.Attribute (.Name x px) "index" ap) [e] [] cp) (vT (Fm ws) f):=by
 obtain⟨a,its,n,sl,hm,hk,hv⟩:=hc
 have hs:=aE [] X.env hst
 refine(nV (T:="tuple") PySem.F.plainAttrs_tuple PySem.F.slot_tuple_index PySem.F.type_tuple_index sd (ka (v:=.ref a) hg hm rfl hd) (ac he af hst).1 hbase (by rw[hs];rfl) hline hs rfl).imp fun σ H Q ⟨ρ,d,er,e,q⟩=>?_
 obtain⟨y,e1,e⟩:=e9 e
 cases y with
 | str z =>
  obtain⟨j,e2,e3⟩:=p9 e
  subst e3
  refine⟨.inr (.inl ⟨rfl,_,hk,rfl,rfl⟩),ρ,[.str z],er,by show(f ρ).bind _=_;rw[e1];rfl,fun vs H2 s2 r2=>?_⟩
  obtain⟨v,r',rfl,h1,h2⟩:=r2
  cases (show v=_ from h1)
  cases (show r'=[] from h2)
  exact⟨a,its,n,sl,ws,z,j,rfl,rfl,hk,hv,e2,q _ H2 s2 rfl⟩
 | _=>cases e
end
section
variable{X:Cx}
def NY:V->List V->Hp->VK->Prop:=fun x vs H Q=>∃z w,x=.str z/\vs=[]/\DS z=some w/\Q (.str w) H
theorem GZ{z w:Str}(h:DS z=some w):Builtin.Str.tooLong (placed z fun _ c=>Unicode.upperOf c).size=false/\(⟨placed z fun _ c=>Unicode.upperOf c⟩:Str)=w:=by
 unfold DS at h
 split at h
 ·rename_i e;cases h;subst e;exact⟨by decide +kernel,by decide +kernel⟩
 ·split at h
  ·rename_i e;cases h;subst e;exact⟨by decide +kernel,by decide +kernel⟩
  ·split at h
   ·rename_i e;cases h;subst e;exact⟨by decide +kernel,by decide +kernel⟩
   ·cases h
theorem sv:GK X "str.upper" NY:=by
 intro pins s σ H x vs v us Q I rx rv h
 obtain⟨z,w,rfl,rfl,hz,q⟩:=h
 obtain⟨t,rfl⟩:=rx
 cases rv
 obtain⟨f1,f2⟩:=GZ hz
 exact call_gives F.slot_str_upper (typeIs_str s z t) F.entry_str_upper (F.args_str_upper_1 _) (gives_str_upper z t f1) ⟨Nat.le_of_not_lt (of_decide_eq_false f1),.str w,H,I.tok _,⟨_,by rw[f2]⟩,q⟩
theorem sx{a:Expr}{f:R->OD}{ap cp:Pos}(ha:SE X a f)(hbase:attributeBase a "upper" X.env (eval a X.env)=eval a X.env:=by rfl)(hline:(ap.endLine==cp.line)=true:=by rfl) :
  SE X (.Call (.Attribute a "upper" ap) [] [] cp) (vT Nf f):=(rK (T:="str") PySem.F.plainAttrs_str PySem.F.slot_str_upper PySem.F.type_str_upper sv ha hbase hline).imp fun σ H Q ⟨ρ,d,er,e,q⟩=>by
 obtain⟨x,e1,e⟩:=e9 e
 cases x with
 | str z =>
  obtain⟨w,e2,e3⟩:=p9 e
  subst e3
  exact⟨ρ,_,er,e1,fun v H1 s1 r1=>by cases (show v=_ from r1);exact⟨rfl,z,w,rfl,rfl,e2,q _ H1 s1 rfl⟩⟩
 | _=>cases e
end
section
variable{X:Cx}{i k:Nat}{fa:Addr}{e a:Expr}{es:List Expr}{pos p:Pos}{f:R->OD}{F:R->Option LD}{G:LD->OD}
def Nj(i:Nat)(fa:Addr)(σ:L2.St):Prop:=σ[i]?=some (some (.ref fa))
def Ks(X:Cx)(i:Nat)(fa:Addr)(e:Expr)(f:R->OD):Prop:=PE X e (fun σ H Q=>Nj i fa σ/\tD X.K f σ H Q)
def LY(X:Cx)(i:Nat)(fa:Addr)(es:List Expr)(F:R->Option LD):Prop:=PA X es (fun σ H Q=>Nj i fa σ/\KC X.K F σ H Q)/\(∀ ρ ds,F ρ=some ds->ds.length=es.length)/\es.all noStar=true
def NR(X:Cx)(i:Nat)(fa:Addr)(st:Stmt)(g:R->Option Out):Prop:=PS X st (fun E σ H=>Nj i fa σ/\Iy X.K g E σ H)
def Lh(P:Program)(w:World)(K:W.Frag)(mg:Str->Option Value)(base:Heap)(k:Nat)(fa:Addr)(G:LD->OD):Prop:=∃fd ps,k6 P w K mg base sR k fa fd ps (tQ K G)/\W.keepIn K (.ref fa)=true/\Binds K fd ps []
theorem tO{P:Program}{w:World}{K:W.Frag}{mg:Str->Option Value}{base:Heap}{x:Str}{ps:List Str}(C:m7 P w K mg base k x ps G)(h:mg x=some (.ref fa)):Lh P w K mg base k fa G:=by
 obtain⟨f,fd,a,m,kp,bd⟩:=C.ex
 rw[h] at m
 cases m
 exact⟨fd,ps,a,kp,bd⟩
theorem Jk(h:SE X e f):Ks X i fa e f:=h.imp fun _ _ _ q=>q.2
theorem FZ(h:SA X es F):LY X i fa es F:=⟨h.1.imp fun _ _ _ q=>q.2,h.2⟩
theorem zw(ha:Ks X i fa e f)(hr:LY X i fa es F)(hs:noStar e=true:=by rfl):LY X i fa (e::es) (c4 f F):=⟨(el ha hr.1 (aE es X.env hs)).imp fun σ H Q ⟨x,ρ,ds,er,e,q⟩=>by
 obtain⟨d,e1,e⟩:=e9 e
 obtain⟨y,e2,e⟩:=p9 e
 subst e
 exact⟨x,ρ,d,er,e1,fun v H1 s1 r1=>⟨x,ρ,y,er.mono s1,e2,fun vs H2 s2 r2=>q _ H2 (s1.trans s2) (i6.cons (r1.mono s2) r2)⟩⟩,fun ρ ds e=>by
 obtain⟨d,e1,e⟩:=e9 e
 obtain⟨y,e2,e⟩:=p9 e
 subst e
 simp[hr.2.1 ρ y e2],by rw[List.all_cons,hs,hr.2.2];rfl⟩
theorem F_{x:Str}{ps:List Str}(C:m7 X.prog X.w X.K X.mg X.base k x ps G)(hr:sL k X.A)(ha:LY X i fa (e::es) F)(hg:Gl X x:=by rfl)
  (hdb:(x==("__debug__" : Str))=false:=by decide):Ks X i fa (.Call (.Name x p) (e::es) [] pos) (c8 G F):=by
 have hst:=ha.2.2
 rw[List.all_cons,Bool.and_eq_true] at hst
 have he:=aE es X.env hst.1
 have hpl:=bu (pos:=pos) (env:=X.env) hst.2
 obtain⟨f,fd,a,m,kp,bd⟩:=C.ex
 refine(kY a hr hg m kp bd .nil wk ha.1 hdb he hpl).imp fun σ H Q ⟨x,ρ,d,er,e,q⟩=>?_
 obtain⟨ds,e1,e⟩:=e9 e
 exact⟨x,ρ,ds,er,e1,fun vs H1 s1 r1=>⟨ds,d,by rw[List.append_nil];exact r1,e,fun v H2 s2 r2=>q v H2 (s1.trans s2) r2⟩⟩
theorem HG{k}(h:LY X i fa es F)(hl:Nat.ble es.length 1000=true:=by rfl):Ks X i fa (.Tuple es k pos) (n5 F):=(kN h.1).imp fun σ H Q ⟨x,ρ,d,er,e,q⟩=>by
 obtain⟨ds,e1,e⟩:=p9 e
 subst e
 refine⟨x,ρ,ds,er,e1,fun vs H1 s1 r1=>⟨?_,fun p hp=>?_⟩⟩
 ·rw[<- r1.length,h.2.1 ρ ds e1];exact Nat.le_of_lt (xi (Nat.le_of_ble_eq_true hl))
 ·have s2:=aQ hp (.tup vs)
  exact q _ _ (s1.trans s2) ⟨p,vs,rfl,vC.of av,r1.mono s2⟩
theorem Ar{x:Str}(hF:Lh X.prog X.w X.K X.mg X.base k fa G)(hr:sL k X.A)(ha:SA X (e::es) F)(hN:X.N[i]?=some x:=by rfl)(hv:z8 X.env.scope x:=by first | exact Or.inl rfl | exact Or.inr (Or.inl rfl) | exact Or.inr (Or.inr rfl))
  (hd:(x==("__debug__" : Str))=false:=by decide) (hcd:(x==("__classdict__" : Str))=false:=by decide):Ks X i fa (.Call (.Name x p) (e::es) [] pos) (c8 G F):=by
 have hst:=ha.2.2
 rw[List.all_cons,Bool.and_eq_true] at hst
 have he:=aE es X.env hst.1
 have hpl:=bu (pos:=pos) (env:=X.env) hst.2
 obtain⟨fd,ps,a,kp,bd⟩:=hF
 intro pins s σ H Q I h
 obtain⟨x1,ρ,d,er,e,q⟩:=h
 obtain⟨ds,e1,e⟩:=e9 e
 refine wpAny_Call_Name_kw (sX (iR (pos:=p) hN hv hd hcd pins s σ H (fun v H1=>v=.ref fa/\H1=H) I ⟨.ref fa,x1,rfl,rfl⟩) fun u s1 ⟨v,H1,I1,rv,ev,eH⟩=>?_)
 subst ev eH
 cases (show u=_ from rv)
 refine W.callWith_K (h₀:=X.base) I1.ok.mod.kin kp (sX (ha.1 pos pins s1 σ H1 (fun vs H2=>i7 H1 H2/\i6 X.K H2 ds vs) I1 ⟨ρ,ds,er,e1,fun vs H2 s2 r2=>⟨s2,r2⟩⟩) fun us s2 ⟨vs,H2,I2,r,s12,rp⟩=>⟨I2.kIn,?_⟩) he hpl
 exact zG a hr bd .nil wk I2 r ⟨ds,d,by rw[List.append_nil];exact rp,e,fun v H3 s3 r3=>q v H3 (s12.trans s3) r3⟩
theorem Fg(ha:Ks X i fa a f):NR X i fa (.Return (some a) pos) (l6 f):=(iN ha).imp fun E σ H ⟨x,ρ,τ,o,er,e,q⟩=>by
 obtain⟨d,e1,e⟩:=p9 e
 subst e
 exact⟨x,ρ,d,er.1,e1,fun v H1 s1 r1=>q H1 s1 v r1⟩
inductive Tab (P:Program) (w:World) (K:W.Frag) (mg:Str->Option Value) (base:Heap) (k:Nat):List (Str×(LD->OD))->List (Str×Value)->Prop
 | nil:Tab P w K mg base k [] []
 | cons {z:Str} {G:LD->OD} {fa:Addr} {t:List (Str×(LD->OD))} {vs:List (Str×Value)}:Lh P w K mg base k fa G->Tab P w K mg base k t vs->Tab P w K mg base k ((z,G)::t) ((z,.ref fa)::vs)
theorem Tab.get{P:Program}{w:World}{K:W.Frag}{mg:Str->Option Value}{base:Heap}{t:List (Str×(LD->OD))}{vs:List (Str×Value)}(h:Tab P w K mg base k t vs){z:Str}(e:t.lookup z=some G):∃fa,valueAt vs z=some (.ref fa)/\Lh P w K mg base k fa G:=by
 induction h with
 | nil=>cases e
 | @cons y G' fa t vs h1 h2 ih =>
  unfold valueAt
  rw[List.find?_cons]
  by_cases hz:y=z
  ·subst hz
   rw[List.lookup_cons,beq_self_eq_true] at e
   cases e
   simp
   exact h1
  ·rw[List.lookup_cons,beq_eq_false_iff_ne.mpr (fun q=>hz q.symm)] at e
   obtain⟨fb,q1,q2⟩:=ih e
   refine⟨fb,?_,q2⟩
   unfold valueAt at q1
   simp[hz]
   simpa using q1
def Ct(P:Program)(w:World)(K:W.Frag)(mg:Str->Option Value)(base:Heap)(k:Nat)(T:Str)(t:List (Str×(LD->OD))):Prop:=∃a vs,mg T=some (.ref a)/\(∀h:Heap,K.In h->h.DictOf (strKind P w) a vs)/\Tab P w K mg base k t vs
def entries(w:World):List (Str×Tok×Value)->List DictEntry
 | []=>[]
 | (z,t,v)::r=>{hash:=PyData.keyHash w.params z,key:=.str z t,val:=v}::entries w r
theorem lG{P:Program}{w:World}{K:W.Frag}{a:Addr}{n:Nat}(l:List (Str×Tok×Value))(hk:K.lookup a=some ⟨.type "dict",none,.dict (entries w l).toArray n,#[]⟩)(hn:(l.map (·.1)).Nodup)(h:Heap)(X:K.In h) :
  h.DictOf (strKind P w) a (l.map fun p=>(p.1,p.2.2)):=by
 refine⟨_,_,_,X _ _ hk,⟨rfl,rfl,rfl⟩,rfl,?_,?_,?_⟩
 ·intro e he
  have he':e∈entries w l:=by simpa using he
  clear he hk hn
  induction l with
  | nil=>cases he'
  | cons p l ih =>
   obtain⟨z,t,v⟩:=p
   rcases List.mem_cons.mp he' with rfl | h2
   ·exact⟨z,strKind_is P w z t,rfl⟩
   ·exact ih h2
 ·show Pairs _ (entries w l) _
  clear hk hn
  induction l with
  | nil=>exact .nil
  | cons p l ih =>
   obtain⟨z,t,v⟩:=p
   exact .cons (strKind_is P w z t) rfl ih
 ·rw[List.map_map]
  exact hn
theorem sZ.hide{K:W.Frag}{H:Hp}{ρ:R}{σ:L2.St}(e:sZ K H ρ σ)(i:Nat)(v:Option V):sZ K H (ρ.set i none) (σ.set i v):=by
 refine⟨by simpa using e.1,fun j c h=>?_⟩
 by_cases hj:i=j
 ·subst hj
  by_cases hi:i<ρ.length
  ·rw[List.getElem?_set_self hi] at h
   cases h
  ·rw[List.getElem?_eq_none (by simpa using hi)] at h
   cases h
 ·rw[List.getElem?_set_ne hj] at h ⊢
  exact e.2 j c h
theorem rB{T x:Str}{pt px ps:Pos}{st:Stmt}{t:List (Str×(LD->OD))}{g:(LD->OD)->R->Option Out}(i:Nat)(hN:X.N.Nodup)(hT:Ct X.prog X.w X.K X.mg X.base k T t)(he:SE X e f)(hb:∀fa G,Lh X.prog X.w X.K X.mg X.base k fa G->NR X i fa st (g G))
  (hg:Gl X T:=by rfl) (hi:X.N[i]?=some x:=by rfl) (hx:Loc X.env.scope x:=by first | exact Or.inl rfl | exact Or.inr rfl) (hs:Bm e:=by intro _ _;rfl)
  (hw:swapsWith (.Subscript (.Name T pt) e ps) (some (.Name x px)) pos.line X.env=pure false:=by rfl) (hf:X.fn x=true\/X.env.scope.names.lookup x=some .local:=by first | exact .inl rfl | exact .inr rfl) (hdb:(T==("__debug__" : Str))=false:=by decide) :
  SS X [.Assign [.Name x px] (.Subscript (.Name T pt) e ps) pos,st] (Ki i t f g):=by
 obtain⟨a,vs,hm,hd,ht⟩:=hT
 have hix:IxR X (fun x y H Q=>∃z fa,x=.ref a/\y=.str z/\valueAt vs z=some (.ref fa)/\Q (.ref fa) H):=by
  intro value slice pins s σ H x y v u Q I rx ry h hs
  obtain⟨z,fa,rfl,rfl,hv,q⟩:=h
  cases rx
  obtain⟨tk,rfl⟩:=ry
  have hdd:=hd s.heap I.kIn
  exact tail_any hdd.mapOf.typeIs PySem.F.slot_dict_getitem.lookup (wpAny_getItem_of (strKind_is X.prog X.w z tk) hdd.mapOf hv ⟨.ref fa,H,I.tok _,rfl,q⟩) hs
 have hsub:=rk (pos:=ps) hix (ka (pos:=pt) (v:=.ref a) hg hm rfl hdb) he hs
 intro pins s σ H E I h
 obtain⟨ρ,τ,o,er,ef,q⟩:=h
 obtain⟨d,e1,ef⟩:=e9 ef
 cases d with
 | str z =>
  obtain⟨G,e2,e3⟩:=e9 ef
  obtain⟨fa,hv,hF⟩:=ht.get e2
  have hl:i<σ.length:=by
   rw[I.len]
   exact(List.getElem?_eq_some_iff.mp hi).1
  split at e3
  case isFalse=>cases e3
  case isTrue hlt =>
  refine dP (mV hN hi hx hsub hw hf) (dA (hb fa G hF)) pins s σ H E I ?_
  refine⟨ρ,_,er.1,e1,fun v H1 s1 r1=>⟨z,fa,rfl,r1,hv,?_⟩⟩
  refine⟨List.getElem?_set_self hl,ρ.set i none,τ,o,⟨(er.1.mono s1).hide i _,?_⟩,e3,fun H2 s2=>q H2 (s1.trans s2)⟩
  rw[List.length_set,List.drop_set_of_lt hlt]
  exact er.2
 | _=>cases ef
end
section
variable{X:Cx}
end
end HW
namespace HW
open PySem
def D1:LD->Option (List Str)
 | []=>some []
 | d::r=>(sI d).bind fun x=>(D1 r).map fun xs=>x::xs
def BL(sep:Str)(xs:List Str):Option Str:=if xs.toArray.foldl (fun n x=>n+x.length+sep.length) 0<=sizeLine/\(Builtin.Str.glued sep xs).length<=sizeLine then some (Builtin.Str.glued sep xs) else none
@[simp] def NN:LD->OD
 | [.str s,.lst ds]=>(D1 ds).bind fun xs=>(BL s xs).map .str
 | _=>none
@[simp] def Bj:LD->OD
 | [.str s,.lst ds]=>(D1 ds.reverse).bind fun xs=>(BL s xs).map .str
 | _=>none
noncomputable def IF(x:Str)(n c:Nat):Str:=if n<=x.length then x else Builtin.Str.padded x (n - x.length) 0 c
@[simp] def Lp:LD->OD
 | [.str x,.int i,.str f]=>if 0<=i/\i<=1000/\f.length=1 then some (.str (IF x i.toNat (f.cps.getD 0 0))) else none
 | _=>none
@[simp] def EJ (c:R->Option Bool):R->Option Out:=fun ρ=>(c ρ).bind fun b=>if b then none else some (.nx ρ)
end HW
namespace HW
open PySem PySem.Spec PyProof.Rows L2
section
variable{X:Cx}{a:Expr}{f:R->OD}{pos p2:Pos}
end
theorem Oy{us:List Value}(h:us.length=1):∃x0,us=[x0]:=by
 match us,h with
 | [x0],_=>exact⟨x0,rfl⟩
theorem ln2{us:List Value}(h:us.length=2):∃x0 x1,us=[x0,x1]:=by
 match us,h with
 | [x0,x1],_=>exact⟨x0,x1,rfl⟩
theorem OA{us:List Value}(h:us.length=3):∃x0 x1 x2,us=[x0,x1,x2]:=by
 match us,h with
 | [x0,x1,x2],_=>exact⟨x0,x1,x2,rfl⟩
section
variable{X:Cx}
def L8(X:Cx)(id:String)(G:LD->OD):Prop:=GK X id fun x vs H Q=>∃dx ds d,Rep X.K H dx x/\i6 X.K H ds vs/\G (dx::ds)=some d/\∀v H',i7 H H'->Rep X.K H' d v->Q v H'
theorem sH {a e:Expr} {es:List Expr} {f:R->OD} {F:R->Option LD} {G:LD->OD} {name:Str} {id:String} {ap cp:Pos} (slot:Slot "str" name id)
    (hty:typeOf (.builtin id)=pure (.type "method_descriptor")) (hm:L8 X id G) (hG:∀x ds d,G (x::ds)=some d->∃z,x=.str z) (ha:SE X a f) (hF:SA X (e::es) F)
    (hbase:attributeBase a name X.env (eval a X.env)=eval a X.env:=by rfl)
    (hfew:((backTo cp (starEach (e::es) X.env)).all (fun x=>!x.1)&&(backToKw cp (keywordEach [] X.env)).all (fun x=>x.1.isSome)
      && decide ((e::es).length+([]:List Keyword).length+(if ([]:List Keyword).isEmpty then 0 else 1)<30))=true:=by rfl)
    (hline:(ap.endLine==cp.line)=true:=by rfl) :
    SE X (.Call (.Attribute a name ap) (e::es) [] cp) (c8 G (c4 f F)):=by
  have hst:=hF.2.2
  rw[List.all_cons,Bool.and_eq_true] at hst
  refine(nV (T:="str") PySem.F.plainAttrs_str slot hty hm ha hF.1 hbase hfew hline (aE es X.env hst.1) (bu (pos:=cp) (env:=X.env) hst.2)).imp fun σ H Q ⟨ρ,d,er,e,q⟩=>?_
  obtain⟨dd,e1,e⟩:=e9 e
  obtain⟨x,e2,e1⟩:=e9 e1
  obtain⟨ds,e3,e1⟩:=p9 e1
  subst e1
  obtain⟨z,rfl⟩:=hG x ds d e
  exact⟨ρ,_,er,e2,fun v H1 s1 r1=>⟨by cases (show v=_ from r1);exact rfl,ρ,ds,er.mono s1,e3,fun vs H2 s2 r2=>⟨.str z,ds,d,r1.mono s2,r2,e,fun u H3 s3 r3=>q u H3 (s1.trans (s2.trans s3)) r3⟩⟩⟩
theorem Ao:∀{K:W.Frag} {H:Hp} {ds:LD} {vs:List V} {us:List Value} {xs:List Str},D1 ds=some xs->i6 K H ds vs->l3 vs us->∃l:List (Str×Tok),us=strValues l/\l.map (·.1)=xs
 | _,_,[],vs,us,xs,e,r,h=>by
  cases e
  cases (show vs=[] from r)
  cases h
  exact⟨[],rfl,rfl⟩
 | K,H,d::ds,vs,us,xs,e,r,h=>by
  obtain⟨x,e1,e⟩:=e9 e
  obtain⟨ys,e2,rfl⟩:=p9 e
  obtain⟨v,vs',rfl,r1,r2⟩:=r
  have hv:=CB e1 r1
  subst hv
  cases h with
  | cons h1 h2 =>
   obtain⟨t,rfl⟩:=h1
   obtain⟨l,rfl,rfl⟩:=Ao e2 r2 h2
   exact⟨(x,t)::l,rfl,rfl⟩
theorem ER{sep:Str}{l:List (Str×Tok)}{pins:List (Addr×Obj)}{σ:L2.St}{H:Hp}{s:Shared}{Q:VK}(I:L2.Inv X pins σ H s)(hz:(Builtin.Str.glued sep (l.map (·.1))).length<=sizeLine)
  (q:Q (.str (Builtin.Str.glued sep (l.map (·.1)))) H):(joinMade sep l).post (EP X pins σ Q) s:=by
 have key:∀t,EP X pins σ Q (.str (Builtin.Str.glued sep (l.map (·.1))) t) s:=fun t=>⟨.str _,H,I,⟨t,rfl⟩,q⟩
 match l,hz,key with
 | [],hz,key=>exact⟨hz,.str _,H,I.tok _,⟨_,rfl⟩,q⟩
 | [p],hz,key=>exact key p.2
 | p1::p2::r,hz,key=>exact⟨hz,.str _,H,I.tok _,⟨_,rfl⟩,q⟩
theorem FF(x:Str)(i:Int)(c:Nat)(t u u2:Tok)(h0:0<=i)(h1:i<=1000) :
  Gives (Builtin.«str.rjust» ⟨[.str x t,.int i u,.str ⟨#[c]⟩ u2],[]⟩) (if i<=x.length then .val (.str x t) else .str (Builtin.Str.padded x (i.toNat - x.length) 0 c)):=by
 have ei:Builtin.Str.asSsize (toString "str." ++ toString "rjust") (.int i u)=pure i:=asSsize_int _ _ _ (by rw[decide_eq_false (by omega),decide_eq_false (by omega)];rfl)
 have ez:Builtin.Str.tooLong i.toNat=false:=decide_eq_false (by
  have z:1000<=sizeLine:=by decide
  omega)
 have eb:Builtin.«str.rjust» ⟨[.str x t,.int i u,.str ⟨#[c]⟩ u2],[]⟩=(Builtin.Str.asSsize (toString "str." ++ toString "rjust") (.int i u) >>= fun n =>
   if n<=(x.length:Int) then (do rule (toString "str." ++ toString "rjust" ++ toString ".long-enough");ret (.str x t))
   else if Builtin.Str.tooLong n.toNat=true then unsupported (toString "str." ++ toString "rjust" ++ toString ":memory") else retStr (Builtin.Str.padded x (n.toNat - x.length) 0 c)):=rfl
 rw[eb,ei]
 show Gives (if i<=(x.length:Int) then _ else if Builtin.Str.tooLong i.toNat=true then _ else _) _
 rw[ez]
 split
 ·exact Gives.rule (Gives.of_eq rfl)
 ·exact Gives.of_eq rfl
end
section
variable{prog:Program}{w:World}{A:Around}{E:Value->Shared->Prop}{s:Shared}
theorem Ep:typeLookup (.type "list_reverseiterator") "__len__" = pure none:=by
 rw[typeLookup_type,builtinLookup_eq_fast];kernel_rfl -- list_reverseiterator
theorem Fs:typeLookup (.type "list_reverseiterator") "__length_hint__" = pure (some (.builtin "list_reverseiterator.__length_hint__")):=by
 rw[typeLookup_type,builtinLookup_eq_fast];kernel_rfl -- list_reverseiterator
abbrev DL(its:Array Value)(i:Nat)(v:Value):Prop:=its[its.size - 1 - i]?=some v
theorem BO{Q:List Value->Shared->Prop}{j l:Addr}{its:Array Value}(hh:A.handled=none)(hne:l≠j)(hj:s.heap.IsRevIter j l ((its.size:Int) - 1))(hl:s.heap.IsList l its)(hz:its.size<=sizeLine)
  (hQ:∀s' acc,Moved [j] (fun a b=>b=a) s s'->ItemsOf (DL its) acc its.size->Q acc.toList s'):wpAny (model prog w) A (collect (.ref j)) Q E s:=by
 have W:=(Walks.listRev (prog:=prog) (w:=w) (A:=A.in1) hh j l hne its).toS
 have st0:(0<=its.size/\s.heap.IsRevIter j l ((its.size:Int) - 1 - ((0:Nat):Int))/\s.heap.IsList l its):=⟨Nat.zero_le _,by rw[show(its.size:Int) - 1 - ((0:Nat):Int)=(its.size:Int) - 1 by omega];exact hj,hl⟩
 have hjs:j<s.heap.objs.size:=let ⟨o,ho,_⟩:=hj;Heap.lt_size ho
 have hls:l<s.heap.objs.size:=let ⟨o,ho,_⟩:=hl;Heap.lt_size ho
 have hnf:s.heap.objs.size ∉ [j,l]:=fun hm=>by
  rcases List.mem_cons.mp hm with ej | hm'
  ·exact absurd hjs (by rw[ej];exact Nat.lt_irrefl _)
  ·exact absurd hls (by rw[List.mem_singleton.mp hm'];exact Nat.lt_irrefl _)
 unfold collect
 refine wpAny_bind (wpAny_runValue (codeAny_builtin PySem.F.entry_proto_collect ?_))
 rw[Around.under_plainId PySem.F.plain_proto_collect _];show wpAny _ A.in1 (newList [] >>= fun q=>again (.builtin "list.__iadd__" ⟨[q,.ref j],[]⟩)) _ _ s
 refine wpAny_bind (wpAny_newObj_type (wpAny_pure ⟨plainId_quiet PySem.F.plain_list_iadd _,codeAny_builtin PySem.F.entry_list_iadd ?_⟩));rw[Around.under_plainId PySem.F.plain_list_iadd _]
 have st1:=W.frame 0 s (s.heap.push {cls:=.type "list",data:=.seq ([]:List Value).toArray}) s.toks st0 (Nat.le_refl _) fun b _ o e=>Heap.get?_push_of_some _ e
 have new1:(s.heap.push {cls:=.type "list",data:=.seq ([]:List Value).toArray}).get? s.heap.objs.size=some {cls:=.type "list",data:=.seq ([]:List Value).toArray}:=Heap.get?_push_size _ rfl
 have ne1:Builtin.List.listSameRef (.ref s.heap.objs.size) (.ref j)=false:=by
  have:s.heap.objs.size≠j:=fun e=>hnf (by rw[e];exact List.mem_cons_self)
  simp[Builtin.List.listSameRef,this]
 have ty1:=(show _ from st1).2.1.typeIs (s:={s with heap:=s.heap.push {cls:=.type "list",data:=.seq ([]:List Value).toArray} })
 show wpAny _ A.in1 (Builtin.List.listExtendWith (.ref s.heap.objs.size) (.ref j) (.ref s.heap.objs.size)) _ _ _
 unfold Builtin.List.listExtendWith;refine wpAny_bind (wpAny_typeOf ty1 ?_)
 rw[if_neg (by rw[ne1];decide)]
 refine wpAny_bind (W.self 0 _ _ _ st1 (wpAny_bind (wpAny_holding ?_)));unfold Builtin.List.listLengthHint
 refine wpAny_bind (wpAny_specialOf ty1 Ep ?_)
 show wpAny _ A.in1 (specialOf (Value.ref j) (oS "__length_hint__") >>= _) _ _ _
 refine wpAny_bind (wpAny_specialOf ty1 Fs ?_)
 generalize LX:("list_reverseiterator.__length_hint__" : String)=nm
 wp_delta
 rw[show splitId nm=some ("list_reverseiterator","__length_hint__") from by subst LX;decide +kernel]
 subst LX
 refine wpAny_bind (wpAny_isInstance (b:=true) ty1 (by rw[isSubtype_type];kernel_rfl) ?_)
 refine wpAny_pure ?_
 rw[if_neg (by decide)]
 refine wpAny_pure ⟨plainId_quiet PySem.F.plain_extend_loop _,codeAny_extend_loopS W hz _ hnf _ its.size 0 _ _ _ rfl (Nat.zero_le _) st1 new1 (ItemsOf.nil (DL its)) fun s' acc' c' hm hS' hacc=>?_⟩
 show wpAny _ A (load s.heap.objs.size >>= _) _ _ s';exact wpAny_bind (wpAny_load hS' (wpAny_pure (hQ s' acc' (Moved.drop_new (o:={cls:=.type "list",data:=.seq ([]:List Value).toArray}) (tk:=s.toks) hm (Nat.le_refl _)) hacc)))
theorem EN{lv:List (Str×Tok)}{acc:Array Value}(h:ItemsOf (DL (strValues lv).toArray) acc (strValues lv).toArray.size):acc.toList=strValues lv.reverse:=by
 have hn:(strValues lv).toArray.size=lv.length:=by simp[strValues]
 have hr:strValues lv.reverse=(strValues lv).reverse:=by simp[strValues]
 rw[hr]
 have hs:acc.size=lv.length:=h.1.trans hn
 have hl:(strValues lv).length=lv.length:=by simp[strValues]
 refine List.ext_getElem (by rw[List.length_reverse,Array.length_toList,hs,hl]) fun i h1 h2=>?_
 have h3:i<acc.size:=by simpa using h1
 have z:=h.2 i acc[i] (Array.getElem?_eq_getElem h3)
 unfold DL at z
 rw[hn] at z
 have hi:i<lv.length:=by omega
 have z2:(strValues lv)[lv.length - 1 - i]?=some acc[i]:=by simpa using z
 rw[List.getElem_reverse]
 have h4:lv.length - 1 - i<(strValues lv).length:=by omega
 rw[List.getElem?_eq_getElem h4] at z2
 have z3:=Option.some.inj z2
 rw[Array.getElem_toList]
 simp only[hl]
 exact z3.symm
theorem Dk(sep:Str)(l:List (Str×Tok))(h:Builtin.Str.tooLong ((l.map (·.1)).toArray.foldl (·+·.length+sep.length) 0)=false):Gives (joinTail sep (strValues l)) (joinMade sep l):=by
 match l,h with
 | [],h=>exact gives_joinTail sep [] h
 | [a],h=>exact gives_joinTail sep [a] h
 | a::b::r,h=>exact gives_joinTail sep (a::b::r) h
theorem FE{Q:Value->Shared->Prop}{sep:Str}{t:Tok}{j l:Addr}{lv:List (Str×Tok)}(hh:A.handled=none)(hne:l≠j)(hj:s.heap.IsRevIter j l ((lv.length:Int) - 1))(hl:s.heap.IsList l (strValues lv).toArray)(hz:lv.length<=sizeLine)
  (hg:Builtin.Str.tooLong ((lv.reverse.map (·.1)).toArray.foldl (·+·.length+sep.length) 0)=false) (hQ:∀s',Moved [j] (fun a b=>b=a) s s'->(joinMade sep lv.reverse).post Q s') :
  wpAny (model prog w) A (call (.builtin "str.join") [.str sep t,.ref j]) Q E s:=by
 have hn:(strValues lv).toArray.size=lv.length:=by simp[strValues]
 refine wpAny_call (codeAny_call_builtin PySem.F.slot_str_join.plain PySem.F.entry_str_join (PySem.F.slot_str_join.check _ _ _ _ _ _ _ _ (typeIs_str _ _ _) (PySem.F.args_str_join_2 _ _) ?_))
 rw[join_tree_other]
 refine wpAny_bind (wpAny_typeOf hj.typeIs ?_)
 show wpAny _ A.in1 ((pyIter (.ref j)).tryCatch _ >>= fun it=>collect it >>= fun items=>joinTail sep items) _ _ s
 refine wpAny_bind (wpAny_tryCatch (wpAny_pyIter_revIter hj (wpAny_bind (BO (A:=A.in1) hh hne (by rw[hn];exact hj) hl (by rw[hn];exact hz) fun s' acc hm hacc=>?_))))
 rw[EN hacc]
 exact Dk sep lv.reverse hg prog w A (wants Q E) s' (hQ s' hm)
end
section
variable{X:Cx}
theorem qg {a e:Expr} {f g:R->OD} {ap cp pr p2:Pos} (hc:X.calm=true) (hm:X.mg "reversed" = none) (ha:SE X a f) (he:SE X e g) (hg:Gl X "reversed":=by rfl) (hst:noStar e=true:=by rfl)
    (hbase:attributeBase a "join" X.env (eval a X.env)=eval a X.env:=by rfl)
    (hfew:((backTo cp (starEach [.Call (.Name "reversed" pr) [e] [] p2] X.env)).all (fun x=>!x.1)&&(backToKw cp (keywordEach [] X.env)).all (fun x=>x.1.isSome)
      && decide ([Expr.Call (.Name "reversed" pr) [e] [] p2].length+([]:List Keyword).length+(if ([]:List Keyword).isEmpty then 0 else 1)<30))=true:=by rfl)
    (hline:(ap.endLine==cp.line)=true:=by rfl) :
    SE X (.Call (.Attribute a "join" ap) [.Call (.Name "reversed" pr) [e] [] p2] [] cp) (c8 Bj (c4 f (c4 g c7))):=by
  intro pins s σ H Q I hw
  obtain⟨ρ,d,er,e0,q⟩:=hw
  obtain⟨dd,e1,e0⟩:=e9 e0
  obtain⟨x,e2,e1⟩:=e9 e1
  obtain⟨ds,e3,e1⟩:=p9 e1
  subst e1
  obtain⟨y,e4,e3⟩:=e9 e3
  cases e3
  match x,y,e0 with
  | .str sep,.lst es,e0 =>
    obtain⟨xs,e5,e0⟩:=e9 e0
    obtain⟨wd,e6,rfl⟩:=p9 e0
    unfold BL at e6
    split at e6
    · rename_i hz
      cases e6
      have hst1:=aE [] X.env hst
      refine wpAny_Call_method_late hbase hfew hline rfl (sX (ha pins s σ H (fun v H1=>i7 H H1/\Rep X.K H1 (.str sep) v) I ⟨ρ,_,er,e2,fun v H1 s1 r1=>⟨s1,r1⟩⟩) fun v s1 ⟨vx,H1,I1,r1,s01,rp⟩=>?_)
      cases (show vx=_ from rp)
      obtain⟨t,rfl⟩:=r1
      obtain⟨h1,h2⟩:=Da (T:="str") (x:=.str sep) I1 ⟨t,rfl⟩ rfl
      refine⟨"str","str.join",PySem.F.plainAttrs_str,PySem.F.slot_str_join,PySem.F.type_str_join,h1,h2,?_⟩
      refine Calls.callWith_builtin rfl (Calls.evalArgs_plain (Calls.spliced_cons ?_))
      refine wpAny_Call_Name_kw (eY I1 hg hm (u:=.type "reversed") (by kernel_rfl) ?_)
      refine callWith_type1 ?_ hst1 rfl
      rw[hst1]
      refine Calls.spliced_cons (sX (he pins s1 σ H1 (fun v H2=>i7 H1 H2/\Rep X.K H2 (.lst es) v) I1 ⟨ρ,_,er.mono s01,e4,fun v H2 s2 r2=>⟨s2,r2⟩⟩) fun u s2 ⟨vu,H2,I2,ru,s12,rl⟩=>Calls.spliced_nil ?_)
      obtain⟨b,vs,rfl,hq,ts⟩:=rl
      cases (show u=_ from ru)
      obtain⟨its,rr,ht,hlen⟩:=I2.list (u4.of hq)
      obtain⟨lv,hu,hx⟩:=Ao e5 ts.reverse (mH rr)
      have hi:its=strValues lv.reverse:=by
        have z:=congrArg List.reverse hu
        rw[List.reverse_reverse] at z
        rw[z];simp[strValues]
      subst hi
      subst hx
      have hlb:b<s2.heap.objs.size:=let ⟨o,ho,_⟩:=ht.isList;Heap.lt_size ho
      have hn:(strValues lv.reverse).toArray.size=lv.reverse.length:=by simp[strValues]
      have hlv:lv.reverse.length<=sizeLine:=by rw[<- hn,List.size_toArray,<- rr.length];exact hlen
      refine call_reversed_list ht.isList (Calls.spliced_nil ?_)
      refine FE (I1.ok.hd hc) (lv:=lv.reverse) (Nat.ne_of_lt hlb) ⟨_,Heap.get?_push_size _ rfl,rfl,by rw[hn];rfl⟩ (ht.isList.at fun o ho=>Heap.get?_push_of_some _ ho) hlv ?_ fun s' hm=>?_
      · rw[List.reverse_reverse]
        exact decide_eq_false (Nat.not_lt.mpr hz.1)
      · rw[List.reverse_reverse]
        have I3:L2.Inv X pins σ H2 s':=by
          rw[hm.eq_with]
          exact I2.kept fun c o ho=>hm.heap c o (fun hc=>absurd (Heap.lt_size ho) (by rw[List.mem_singleton.mp hc];exact Nat.lt_irrefl _)) (Heap.get?_push_of_some _ ho)
        exact ER I3 hz.2 (q _ H2 (s01.trans s12) rfl)
    · cases e6
theorem pG{c:Expr}{body:List Stmt}{f:R->Option Bool}{pos:Pos}(hp:PassesOwn (model X.prog X.w) X.A X.env X.xe)(hc:ST X c f):S1 X (.While c body [] pos) (EJ f):=by
 have hb:PSs X body (fun _ _ _=>False):=fun pins s σ H D I h=>h.elim
 refine(pq hp hc hb).imp fun E σ H ⟨ρ,τ,o,er,e,q⟩=>?_
 obtain⟨b,e1,e⟩:=e9 e
 cases b with
 | true=>cases e
 | false =>
  cases e
  refine⟨fun m σ' H'=>σ'=σ/\H'=H,⟨0,rfl,rfl⟩,?_⟩
  rintro m _ _ ⟨rfl,rfl⟩
  exact⟨ρ,false,er.1,e1,fun H1 s1=>(if_neg (show ¬ (false=true) from Bool.false_ne_true)).mpr (q H1 s1 _ (er.mono s1))⟩
theorem sF:L8 X "str.rjust" Lp:=by
 intro pins s σ H x vs v us Q I rx rv h
 obtain⟨dx,ds,d,r1,r2,e,q⟩:=h
 match dx,ds,e with
 | .str z,[.int i,.str g],e =>
  replace e:(if 0<=i/\i<=1000/\g.length=1 then some (D.str (IF z i.toNat (g.cps.getD 0 0))) else none)=some d:=e
  split at e
  ·rename_i hz
   obtain⟨h0,h1,hg⟩:=hz
   cases e
   cases (show x=_ from r1)
   obtain⟨t,rfl⟩:=rx
   obtain⟨u,r',rfl,k1,r2⟩:=r2
   obtain⟨u2,r3,rfl,k2,r2⟩:=r2
   cases (show r3=[] from r2)
   cases (show u=_ from k1)
   cases (show u2=_ from k2)
   obtain⟨w1,w2,rfl,⟨t1,rfl⟩,⟨t2,rfl⟩⟩:=rv.two
   obtain⟨c,hc⟩:∃c,g=⟨#[c]⟩:=by
    obtain⟨⟨l⟩⟩:=g
    match l,hg with
    | [c],_=>exact⟨c,rfl⟩
   subst hc
   have hi:(i.toNat:Int)=i:=by omega
   refine call_gives PySem.F.slot_str_rjust (typeIs_str s z t) PySem.F.entry_str_rjust (PySem.F.args_str_rjust_3 _ _ _) (FF z i c t t1 t2 h0 h1) ?_
   have q':=q (.str (IF z i.toNat c)) H (i7.refl H) rfl
   unfold IF at q'
   by_cases hl:i.toNat<=z.length
   ·rw[if_pos hl] at q'
    rw[if_pos (by omega)]
    exact⟨.str z,H,I,⟨t,rfl⟩,q'⟩
   ·rw[if_neg hl] at q'
    rw[if_neg (by omega)]
    refine⟨?_,.str _,H,I.tok _,⟨_,rfl⟩,q'⟩
    have z1:1000<=sizeLine:=by decide
    have z2:(Builtin.Str.padded z (i.toNat - z.length) 0 c).length=i.toNat:=by
     show(Array.replicate _ _++z.cps++Array.replicate _ _).size=_
     simp
     have:z.cps.size=z.length:=rfl
     omega
    rw[z2]
    omega
  ·cases e
theorem Kc{x:D}{ds:LD}{d:D}(h:Lp (x::ds)=some d):∃z,x=.str z:=by
 cases x with
 | str z=>exact⟨z,rfl⟩
 | _=>cases h
theorem sD{a e:Expr}{es:List Expr}{f:R->OD}{F:R->Option LD}{ap cp:Pos}(ha:SE X a f)(hF:SA X (e::es) F)
  (hbase:attributeBase a "rjust" X.env (eval a X.env)=eval a X.env:=by rfl)
  (hfew:((backTo cp (starEach (e::es) X.env)).all (fun x=>!x.1)&&(backToKw cp (keywordEach [] X.env)).all (fun x=>x.1.isSome)&&decide ((e::es).length+([]:List Keyword).length+(if ([]:List Keyword).isEmpty then 0 else 1)<30))=true:=by rfl)
  (hline:(ap.endLine==cp.line)=true:=by rfl):SE X (.Call (.Attribute a "rjust" ap) (e::es) [] cp) (c8 Lp (c4 f F)):=
 sH PySem.F.slot_str_rjust PySem.F.type_str_rjust sF (fun _ _ _ h=>Kc h) ha hF hbase hfew hline
end
section
variable{X:Cx}
end
section
variable{X:Cx}
end
section
variable{X:Cx}{pins:List (Addr×Obj)}{σ:L2.St}{H:Hp}{s:Shared}{k:Nat}{y:Str}
def LX(X:Cx)(k:Nat)(y:Str):Cx:={X with N:=X.N.set k y}
end
end HW
namespace HW
open PySem
section
variable{prog:Program}{w:World}{A:Around}{E:Value->Shared->Prop}{g:_}{d:_}{os:_}
structure Nx (prog:Program) (w:World) (A:Around) (mk:Heap->Nat->Shared) (Good:Heap->Nat->Prop) (it:Addr) (st st':Heap->Prop) (P:Value->Prop):Prop where
 stay:∀h h',st h->(∀o,h.get? it=some o->h'.get? it=some o)->st h'
 stay':∀h h',st' h->(∀o,h.get? it=some o->h'.get? it=some o)->st' h'
 run:∀h tk (Q:Value->Shared->Prop) (E:Value->Shared->Prop),Good h tk->st h->(∀u h' tk',P u->st' h'->Heap.SameBut it h h'->Q u (mk h' tk')) ->
  wpAny (model prog w) A (Builtin.SmallTypes.nextOf (.ref it)) Q E (mk h tk)
structure Ne (prog:Program) (w:World) (A:Around) (mk:Heap->Nat->Shared) (Good:Heap->Nat->Prop) (it:Addr) (st:Heap->Prop):Prop where
 stay:∀h h',st h->(∀o,h.get? it=some o->h'.get? it=some o)->st h'
 run:∀h tk (Q:Value->Shared->Prop) (E:Value->Shared->Prop),Good h tk->st h->(∀h' e,Heap.ExtBut it h h'->(∃o,h'.get? e=some o/\o.cls=.type "StopIteration")->E (.ref e) (mk h' tk)) ->
  wpAny (model prog w) A (Builtin.SmallTypes.nextOf (.ref it)) Q E (mk h tk)
def Im(s:Shared)(h:Heap)(tk:Nat):Shared:={s with heap:=h,toks:=tk}
variable{Good:Heap->Nat->Prop}{s:Shared}{z TI TO i1 i2:Addr}{a b:Value}{st1 st1' st2 st2':Heap->Prop}{P1 P2:Value->Prop}
theorem gv{it l:Addr}{i:Nat}{items}{x:Value}{Q:Value->Shared->Prop}(hit:s.heap.IsTupleIter it l i)(hl:s.heap.IsTuple l items)(hx:items[i]?=some x)
  (hQ:∀h',h'.IsTupleIter it l (i+1)->Heap.SameBut it s.heap h'->Q x {s with heap:=h' }):wpAny (model prog w) A (Builtin.SmallTypes.nextOf (.ref it)) Q E s:=by
 obtain⟨o,ho,hc,hd⟩:=id hit
 obtain⟨ol,hol,_,nl,hdl⟩:=hl
 unfold Builtin.SmallTypes.nextOf
 refine wpAny_bind (wpAny_callSpecial?_slot (name:=oS "__next__") hit.typeIs F.slot_tuple_iterator_next (wpAny_call_entry F.slot_tuple_iterator_next hit.typeIs F.entry_tuple_iterator_next ?_ (F.args_tuple_iterator_next_1 _)))
 show wpAny _ _ (field (.ref it) 0 >>= _) _ _ s;refine wpAny_bind (wpAny_field ho hd (x:=.ref l) rfl ?_)
 show wpAny _ _ (if (Value.ref l==Value.none)=true then _ else _) _ _ s;rw[if_neg (show ¬ ((Value.ref l==Value.none)=true) from Bool.false_ne_true)]
 show wpAny _ _ (field (.ref it) 1 >>= _) _ _ s;refine wpAny_bind (wpAny_field ho hd (x:=.int i 0) rfl ?_)
 show wpAny _ _ (seqItems? (.ref l) >>= _) _ _ s;refine wpAny_bind (wpAny_seqItems hol hdl ?_)
 simp only[Int.toNat_natCast,hx]
 refine wpAny_bind (wpAny_setField ho hd (by simp) (wpAny_pure ⟨x,rfl,wpAny_pure (hQ _ ⟨_,Heap.get?_update_self _ ho (Obj.isFreed_of_fields (Obj.data_mapFields hd _)),(Obj.cls_mapFields ..).trans hc,?_⟩ (Heap.SameBut.update ..))⟩))
 rw[Obj.data_mapFields hd];simp[rawInt]
theorem gG{it l:Addr}{i:Nat}{items}{Q:Value->Shared->Prop}(hh:A.handled=none)(hit:s.heap.IsTupleIter it l i)(hl:s.heap.IsTuple l items)(hx:items[i]?=none)
  (hE:∀h' e,Heap.ExtBut it s.heap h'->(∃o,h'.get? e=some o/\o.cls=.type "StopIteration")->E (.ref e) {s with heap:=h' }):wpAny (model prog w) A (Builtin.SmallTypes.nextOf (.ref it)) Q E s:=by
 obtain⟨o,ho,hc,hd⟩:=id hit
 obtain⟨ol,hol,_,nl,hdl⟩:=hl
 unfold Builtin.SmallTypes.nextOf
 refine wpAny_bind (wpAny_callSpecial?_slot (name:=oS "__next__") hit.typeIs F.slot_tuple_iterator_next (wpAny_call_entry F.slot_tuple_iterator_next hit.typeIs F.entry_tuple_iterator_next ?_ (F.args_tuple_iterator_next_1 _)))
 show wpAny _ _ (field (.ref it) 0 >>= _) _ _ s;refine wpAny_bind (wpAny_field ho hd (x:=.ref l) rfl ?_)
 show wpAny _ _ (if (Value.ref l==Value.none)=true then _ else _) _ _ s;rw[if_neg (show ¬ ((Value.ref l==Value.none)=true) from Bool.false_ne_true)]
 show wpAny _ _ (field (.ref it) 1 >>= _) _ _ s;refine wpAny_bind (wpAny_field ho hd (x:=.int i 0) rfl ?_)
 show wpAny _ _ (seqItems? (.ref l) >>= _) _ _ s;refine wpAny_bind (wpAny_seqItems hol hdl ?_)
 simp only[Int.toNat_natCast,hx]
 refine wpAny_bind (wpAny_rule (wpAny_bind (wpAny_setField ho hd (by simp) ?_)));show wpAny _ _ (newExc (.type "StopIteration") [] >>= _) _ _ _
 refine wpAny_bind ?_;simp only[newExc,newTuple]
 refine wpAny_bind (wpAny_newObj_type ?_ (by size_fits));refine wpAny_bind (m:=firstArgMember _ _) (wpAny_of_eq (a:=Value.none) (by first | rfl | (simp only[firstArgMember];rfl)) ?_)
 refine wpAny_newObj_type ?_ (by size_fits);simp only[raiseNew]
 refine wpAny_bind (wpAny_handled ?_);first | rw[show A.in1.handled=none from hh] | rw[hh]
 exact wpAny_bind (wpAny_pure (wpAny_throw (hE _ _ (((Heap.SameBut.update ..).extBut.push _).push _) ⟨_,Heap.get?_push_size _ rfl,rfl⟩)))
inductive Src where
 | lst (a:Addr)
 | tup (a:Addr)
 | txt (x:Str) (t:Tok)
def Src.val:Src->Value
 | .lst a=>.ref a
 | .tup a=>.ref a
 | .txt x t=>.str x t
noncomputable def Src.obj:Src->Obj
 | .lst a=>{cls:=.type "list_iterator",data:=.fields #[.ref a,.int 0 0]}
 | .tup a=>{cls:=.type "tuple_iterator",data:=.fields #[.ref a,.int 0 0]}
 | .txt x t=>{cls:=.type "str_ascii_iterator",data:=.fields #[.str x t,.int 0 0]}
def Src.ok(h:Heap):Src->Prop
 | .lst a=>∃xs,h.IsList a xs
 | .tup a=>∃xs,h.IsTuple a xs
 | .txt x _=>x.cps.all (·<128)=true
def Src.at(it:Addr)(i:Nat)(h:Heap):Src->Prop
 | .lst a=>h.IsListIter it a i
 | .tup a=>h.IsTupleIter it a i
 | .txt x t=>h.IsStrIter it "str_ascii_iterator" x t i
theorem Src.iter{S:Src}{Q:Value->Shared->Prop}(h:S.ok s.heap)(hQ:Q (.ref s.heap.objs.size) {s with heap:=s.heap.push S.obj}):wpAny (model prog w) A (pyIter S.val) Q E s:=by
 cases S with
 | lst a=>obtain⟨xs,h⟩:=h;exact wpAny_pyIter_list h hQ
 | tup a=>obtain⟨xs,h⟩:=h;exact wpAny_pyIter_tuple h hQ
 | txt x t=>exact wpAny_pyIter_ascii h hQ
theorem Src.keep{S:Src}{it:Addr}{i:Nat}{h h':Heap}(q:S.at it i h)(k:∀o,h.get? it=some o->h'.get? it=some o):S.at it i h':=by
 cases S with
 | lst a=>exact Heap.IsListIter.at q k
 | tup a=>obtain⟨o,e,r⟩:=q;exact⟨o,k o e,r⟩
 | txt x t=>obtain⟨o,e,r⟩:=q;exact⟨o,k o e,r⟩
theorem Src.start{S:Src}{it:Addr}{h:Heap}(q:h.get? it=some S.obj):S.at it 0 h:=by
 cases S<;>exact⟨_,q,rfl,rfl⟩
theorem Src.nx {S:Src} {it:Addr} {i:Nat} {P:Value->Prop} (hx:∀h tk,Good h tk->match S with
  | .lst a=>∃xs x,h.IsList a xs/\xs[i]?=some x/\P x
  | .tup a=>∃xs x,h.IsTuple a xs/\xs[i]?=some x/\P x
  | .txt x _=>∃c,x.cps[i]?=some c/\∀u,P (.str ⟨#[c]⟩ u)):Nx prog w A (Im s) Good it (fun h=>S.at it i h) (fun h=>S.at it (i+1) h) P where
 stay:=fun _ _ q k=>Src.keep q k
 stay':=fun _ _ q k=>Src.keep q k
 run:=fun h tk Q E gg q hQ=>by
  have z:=hx h tk gg
  cases S with
  | lst a=>obtain⟨xs,x,l,e,p⟩:=z;exact wpAny_nextOf_list_item (s:=Im s h tk) q l e fun h' q' sb=>hQ x h' tk p q' sb
  | tup a=>obtain⟨xs,x,l,e,p⟩:=z;exact gv (s:=Im s h tk) q l e fun h' q' sb=>hQ x h' tk p q' sb
  | txt x t=>obtain⟨c,e,p⟩:=z;exact wpAny_nextOf_ascii_item (s:=Im s h tk) q e fun h' q' sb=>hQ _ h' (tk+1) (p _) q' sb
theorem Src.ne {S:Src} {it:Addr} {i:Nat} (hh:A.handled=none) (hx:∀h tk,Good h tk->match S with
  | .lst a=>∃xs,h.IsList a xs/\xs[i]?=none
  | .tup a=>∃xs,h.IsTuple a xs/\xs[i]?=none
  | .txt x _=>x.cps[i]?=none):Ne prog w A (Im s) Good it (fun h=>S.at it i h) where
 stay:=fun _ _ q k=>Src.keep q k
 run:=fun h tk Q E gg q hQ=>by
  have z:=hx h tk gg
  cases S with
  | lst a=>obtain⟨xs,l,e⟩:=z;exact wpAny_nextOf_list_end (s:=Im s h tk) hh q l e hQ
  | tup a=>obtain⟨xs,l,e⟩:=z;exact gG (s:=Im s h tk) hh q l e hQ
  | txt x t=>exact wpAny_nextOf_ascii_end (s:=Im s h tk) hh q z hQ
end
section
variable{prog:Program}{w:World}{A:Around}{E:Value->Shared->Prop}{s:Shared}
end
end HW
namespace HW
open PySem PySem.Spec PyProof.Rows L2
def Src.go(K:W.Frag)(i:Nat)(H:Hp)(v:V):Src->Prop
 | .lst a=>∃xs,u4 K H a xs/\xs[i]?=some v
 | .tup a=>∃xs,vC K H a xs/\xs[i]?=some v
 | .txt x _=>∃c,x.cps[i]?=some c/\v=.str ⟨#[c]⟩
def Src.stop(K:W.Frag)(i:Nat)(H:Hp):Src->Prop
 | .lst a=>∃xs,u4 K H a xs/\xs.length<=i
 | .tup a=>∃xs,vC K H a xs/\xs.length<=i
 | .txt x _=>x.cps.size<=i
section
variable{X:Cx}{pins:List (Addr×Obj)}{σ:L2.St}{H:Hp}{s:Shared}{S:Src}{i:Nat}{v:V}
end
section
variable{X:Cx}
end
end HW
namespace HW
open PySem
def J6:List (Str×D)->Str->OD
 | [],_=>none
 | p::r,x=>if p.1=x then some p.2 else J6 r x
end HW
namespace L2
open PySem PySem.Spec PyProof.Rows
section
variable{κ:Type}[DecidableEq κ]
def xq(kvs:List (κ×V))(k:κ):Option V:=(kvs.find? fun kv=>decide (kv.1=k)).map (·.2)
def putK(kvs:List (κ×V))(k:κ)(v:V):List (κ×V):=
 if (kvs.any fun kv=>decide (kv.1=k))=true then kvs.map (fun kv=>if kv.1=k then (kv.1,v) else kv) else kvs++[(k,v)]
def Io(kvs:List (κ×V))(k:κ):List (κ×V):=kvs.filter fun kv=>decide (kv.1≠k)
theorem yk{p:κ×V}{r:List (κ×V)}{k:κ}(e:p.1=k):xq (p::r) k=some p.2:=by simp[xq,List.find?_cons,e]
theorem xW{p:κ×V}{r:List (κ×V)}{k:κ}(e:¬ p.1=k):xq (p::r) k=xq r k:=by simp[xq,List.find?_cons,e]
theorem BN(k:κ):∀kvs:List (κ×V),(kvs.any fun kv=>decide (kv.1=k))=(xq kvs k).isSome
 | []=>rfl
 | p::r=>by
  rw[List.any_cons]
  by_cases e:p.1=k
  ·simp only[yk e,decide_eq_true e,Bool.true_or,Option.isSome_some]
  ·rw[xW e,decide_eq_false e,Bool.false_or];exact BN k r
theorem xp.isSome_eq{o:Option V}{u:Option Value}(r:xp o u):o.isSome=u.isSome:=by
 cases o with
 | none=>cases u with
  | none=>rfl
  | some _=>exact(show False from r).elim
 | some _=>cases u with
  | none=>exact(show False from r).elim
  | some _=>rfl
theorem xp.getD{o:Option V}{u:Option Value}{d:V}{d':Value}(r:xp o u)(rd:RelV d d'):RelV (o.getD d) (u.getD d'):=by
 cases o with
 | none=>cases u with
  | none=>exact rd
  | some _=>exact(show False from r).elim
 | some _=>cases u with
  | none=>exact(show False from r).elim
  | some _=>exact r
theorem KV.val{kvs:List (κ×V)}{vs:List (κ×Value)}(r:KV kvs vs)(k:κ):xp (xq kvs k) (valueAt vs k):=by
 unfold KV at r
 induction r with
 | nil=>exact True.intro
 | @cons p q ps qs h t ih =>
  obtain⟨h1,h2⟩:=h
  by_cases e:p.1=k
  ·have e':q.1=k:=h1.symm.trans e
   have b:valueAt (q::qs) k=some q.2:=by simp[valueAt,List.find?_cons,e']
   rw[yk e,b];exact h2
  ·have e':¬ q.1=k:=fun z=>e (h1.trans z)
   have b:valueAt (q::qs) k=valueAt qs k:=by simp[valueAt,List.find?_cons,e']
   rw[xW e,b];exact ih
theorem KV.any{kvs:List (κ×V)}{vs:List (κ×Value)}(r:KV kvs vs)(k:κ):(kvs.any fun kv=>decide (kv.1=k))=vs.any fun kv=>decide (kv.1=k):=by
 unfold KV at r
 induction r with
 | nil=>rfl
 | cons h t ih=>rw[List.any_cons,List.any_cons,ih,h.1]
theorem KV.repl{kvs:List (κ×V)}{vs:List (κ×Value)}(r:KV kvs vs)(k:κ){y:V}{u:Value}(ry:RelV y u) :
  KV (kvs.map fun kv=>if kv.1=k then (kv.1,y) else kv) (vs.map fun kv=>if kv.1=k then (kv.1,u) else kv):=by
 unfold KV at r ⊢
 induction r with
 | nil=>exact .nil
 | @cons p q ps qs h t ih =>
  rw[List.map_cons,List.map_cons]
  refine .cons ?_ ih
  obtain⟨h1,h2⟩:=h
  by_cases e:p.1=k
  ·rw[if_pos e,if_pos (h1.symm.trans e)];exact⟨h1,ry⟩
  ·rw[if_neg e,if_neg (fun z=>e (h1.trans z))];exact⟨h1,h2⟩
theorem KV.put{kvs:List (κ×V)}{vs:List (κ×Value)}(r:KV kvs vs)(k:κ){y:V}{u:Value}(ry:RelV y u):KV (putK kvs k y) (stored vs k u):=by
 unfold putK stored
 rw[r.any k]
 by_cases e:(vs.any fun kv=>decide (kv.1=k))=true
 ·rw[if_pos e,if_pos e];exact r.repl k ry
 ·rw[if_neg e,if_neg e];exact Paired.snoc r ⟨rfl,ry⟩
theorem KV.drop{kvs:List (κ×V)}{vs:List (κ×Value)}(r:KV kvs vs)(k:κ):KV (Io kvs k) (without vs k):=by
 unfold KV at r ⊢
 unfold Io without
 induction r with
 | nil=>exact .nil
 | @cons p q ps qs h t ih =>
  obtain⟨h1,h2⟩:=h
  rw[List.filter_cons,List.filter_cons]
  by_cases e:p.1=k
  ·have a:¬ decide (p.1≠k)=true:=by simp[e]
   have b:¬ decide (q.1≠k)=true:=by simp[h1.symm.trans e]
   rw[if_neg a,if_neg b];exact ih
  ·have e':¬ q.1=k:=fun z=>e (h1.trans z)
   have a:decide (p.1≠k)=true:=by simp[e]
   have b:decide (q.1≠k)=true:=by simp[e']
   rw[if_pos a,if_pos b];exact .cons ⟨h1,h2⟩ ih
theorem KV.keys{kvs:List (κ×V)}{vs:List (κ×Value)}(r:KV kvs vs):kvs.map (·.1)=vs.map (·.1):=by
 unfold KV at r
 induction r with
 | nil=>rfl
 | cons h t ih=>rw[List.map_cons,List.map_cons,ih,h.1]
theorem KV.length{kvs:List (κ×V)}{vs:List (κ×Value)}(r:KV kvs vs):kvs.length=vs.length:=Paired.length r
end
abbrev KT(H:Hp):List (List Key×V)->List (List Key×Addr×Value)->Prop:=Paired fun p q=>p.1=q.1/\H q.2.1=some (.tup (p.1.map kV))/\RelV p.2 q.2.2
theorem KT.val{H:Hp}{kvs:List (List Key×V)}{xs:List (List Key×Addr×Value)}(r:KT H kvs xs)(k:List Key):xp (xq kvs k) ((atKey xs k).map (·.2)):=by
 induction r with
 | nil=>exact True.intro
 | @cons p q ps qs h t ih =>
  obtain⟨h1,_,h2⟩:=h
  by_cases e:p.1=k
  ·have e':q.1=k:=h1.symm.trans e
   have b:atKey (q::qs) k=some q.2:=by simp[atKey,List.find?_cons,e']
   rw[yk e,b];exact h2
  ·have e':¬ q.1=k:=fun z=>e (h1.trans z)
   have b:atKey (q::qs) k=atKey qs k:=by simp[atKey,List.find?_cons,e']
   rw[xW e,b];exact ih
theorem KT.repl{H:Hp}{kvs:List (List Key×V)}{xs:List (List Key×Addr×Value)}(r:KT H kvs xs)(k:List Key){y:V}{u:Value}(ry:RelV y u) :
  KT H (kvs.map fun kv=>if kv.1=k then (kv.1,y) else kv) (xs.map (putAt k u)):=by
 induction r with
 | nil=>exact .nil
 | @cons p q ps qs h t ih =>
  rw[List.map_cons,List.map_cons]
  refine .cons ?_ ih
  obtain⟨h1,h2,h3⟩:=h
  unfold putAt
  by_cases e:p.1=k
  ·rw[if_pos e,if_pos (h1.symm.trans e)];exact⟨h1,h2,ry⟩
  ·rw[if_neg e,if_neg (fun z=>e (h1.trans z))];exact⟨h1,h2,h3⟩
theorem KT.put{H:Hp}{kvs:List (List Key×V)}{xs:List (List Key×Addr×Value)}(r:KT H kvs xs)(k:List Key){b:Addr}{y:V}{u:Value}(hb:H b=some (.tup (k.map kV)))(ry:RelV y u) :
  KT H (putK kvs k y) (storedH xs k b u):=by
 have e:(kvs.any fun kv=>decide (kv.1=k))=(atKey xs k).isSome:=by
  rw[BN,(r.val k).isSome_eq,Option.isSome_map]
 unfold putK storedH
 rw[e]
 by_cases q:(atKey xs k).isSome=true
 ·rw[if_pos q,if_pos q];exact r.repl k ry
 ·rw[if_neg q,if_neg q];exact Paired.snoc r ⟨rfl,hb,ry⟩
theorem KT.keeps{H H':Hp}{kvs:List (List Key×V)}{xs:List (List Key×Addr×Value)}(r:KT H kvs xs)(ht:∀b ys,H b=some (.tup ys)->H' b=some (.tup ys)):KT H' kvs xs:=
 Paired.mapP r fun _ _ z=>⟨z.1,ht _ _ z.2.1,z.2.2⟩
section
variable{P:Program}{w:World}{H:Hp}{h:Heap}{a:Addr}
end
def He(H:Hp)(a:Addr)(y:V)(r:Option V):Prop:=
 (∃kvs k,Rd H a (.dK kvs)/\y=kV k/\r=xq kvs k)\/∃kvs k b,Rd H a (.dT kvs)/\y=.ref b/\H b=some (.tup (k.map kV))/\r=xq kvs k
def G3(H:Hp)(a:Addr)(y v:V)(H':Hp):Prop:=
 (∃kvs k,H a=some (.dK kvs)/\y=kV k/\kvs.length<sizeLine/\H'=upd H a (.dK (putK kvs k v))) \/
 ∃kvs k b,H a=some (.dT kvs)/\y=.ref b/\H b=some (.tup (k.map kV))/\kvs.length<sizeLine/\H'=upd H a (.dT (putK kvs k v))
theorem He.k{H:Hp}{a:Addr}{kvs:List (Key×V)}{k:Key}(e:H a=some (.dK kvs)):He H a (kV k) (xq kvs k):=.inl ⟨kvs,k,.inl e,rfl,rfl⟩
theorem He.t{H:Hp}{a b:Addr}{kvs:List (List Key×V)}{k:List Key}(e:H a=some (.dT kvs))(eb:H b=some (.tup (k.map kV))):He H a (.ref b) (xq kvs k):=.inr ⟨kvs,k,b,.inl e,rfl,eb,rfl⟩
theorem G3.k{H:Hp}{a:Addr}{kvs:List (Key×V)}{k:Key}{v:V}(e:H a=some (.dK kvs))(hl:kvs.length<sizeLine):G3 H a (kV k) v (upd H a (.dK (putK kvs k v))):=.inl ⟨kvs,k,e,rfl,hl,rfl⟩
theorem G3.t{H:Hp}{a b:Addr}{kvs:List (List Key×V)}{k:List Key}{v:V}(e:H a=some (.dT kvs))(eb:H b=some (.tup (k.map kV)))(hl:kvs.length<sizeLine) :
  G3 H a (.ref b) v (upd H a (.dT (putK kvs k v))):=.inr ⟨kvs,k,b,e,rfl,eb,hl,rfl⟩
section
variable{X:Cx}{pins:List (Addr×Obj)}{σ:St}{H:Hp}{s:Shared}{a:Addr}{y v:V}{u r:Value}{o:Option V}{A:Around}{E:Value->Shared->Prop}
end
section
variable{X:Cx}{pins:List (Addr×Obj)}{σ:St}{H:Hp}{s:Shared}{a:Addr}{kvs:List (Key×V)}{k:Key}{u:Value}{A:Around}{E:Value->Shared->Prop}
end
section
variable{X:Cx}{o i e value:Expr}{pos pos' tpos:Pos}{td ty tv:TE}
end
section
variable{X:Cx}{pos:Pos}
end
section
variable{X:Cx}{pins:List (Addr×Obj)}{σ:St}{H:Hp}{s:Shared}{a:Addr}{y d:V}{u r:Value}{o:Option V}{A:Around}{E:Value->Shared->Prop}
end
section
variable{X:Cx}{o e f:Expr}{apos cpos:Pos}{td ty tx:TE}
end
section
variable{X:Cx}{pins:List (Addr×Obj)}{σ:St}{H:Hp}{s:Shared}{a:Addr}{kvs:List (Key×V)}{A:Around}{E:Value->Shared->Prop}
end
section
variable{X:Cx}{pins:List (Addr×Obj)}{σ:St}{H:Hp}{s:Shared}{a:Addr}{y:V}{u:Value}{A:Around}{E:Value->Shared->Prop}
end
end L2
namespace HW
open PySem PySem.Spec PyProof.Rows L2
def Mt(P:Program)(w:World)(a:Addr)(kvs:List (Key×V)):HO:=.ext fun h=>kvs.length<=sizeLine/\(a==sysModules)=false/\∃vs,KV kvs vs/\h.DictOf (zd P w) a vs
section
variable{X:Cx}{pins:List (Addr×Obj)}{σ:L2.St}{H:Hp}{s:Shared}{a:Addr}{kvs:List (Key×V)}
end
def vZ(K:W.Frag)(H:Hp):List (Str×D)->List (Key×V)->Prop
 | [],vs=>vs=[]
 | p::r,vs=>∃v t,vs=(.inr p.1,v)::t/\Rep K H p.2 v/\vZ K H r t
section
variable{K:W.Frag}{H H':Hp}
theorem vZ.kp(s:Kp H H'):∀{ds:List (Str×D)} {vs:List (Key×V)},vZ K H ds vs->vZ K H' ds vs
 | [],_,h=>h
 | p::r,_,h=>by
  obtain⟨v,t,e,q,w⟩:=h
  exact⟨v,t,e,q.kp s,vZ.kp s w⟩
theorem vZ.mono(s:i7 H H'){ds:List (Str×D)}{vs:List (Key×V)}(h:vZ K H ds vs):vZ K H' ds vs:=h.kp (Kp.of s)
theorem vZ.snoc:∀{ds:List (Str×D)} {vs:List (Key×V)} {x:Str} {d:D} {v:V},vZ K H ds vs->Rep K H d v->vZ K H (ds++[(x,d)]) (vs++[(.inr x,v)])
 | [],_,x,d,v,h,r=>by
  cases (show _=[] from h)
  exact⟨v,[],rfl,r,rfl⟩
 | p::ds,_,x,d,v,h,r=>by
  obtain⟨u,t,e,q,w⟩:=h
  subst e
  exact⟨u,t++[(.inr x,v)],rfl,q,vZ.snoc w r⟩
theorem vZ.len:∀{ds:List (Str×D)} {vs:List (Key×V)},vZ K H ds vs->ds.length=vs.length
 | [],_,h=>by cases (show _=[] from h);rfl
 | p::r,_,h=>by
  obtain⟨v,t,e,q,w⟩:=h
  subst e
  simp[vZ.len w]
theorem vZ.at:∀{ds:List (Str×D)} {vs:List (Key×V)} {x:Str},vZ K H ds vs->match J6 ds x with
  | some d=>∃v,xq vs (Sum.inr x:Key)=some v/\Rep K H d v
  | none=>xq vs (Sum.inr x:Key)=none
 | [],_,x,h=>by cases (show _=[] from h);rfl
 | p::r,_,x,h=>by
  obtain⟨v,t,e,q,w⟩:=h
  subst e
  have ih:=vZ.at (x:=x) w
  unfold J6
  by_cases hx:p.1=x
  ·rw[if_pos hx]
   exact⟨v,yk (by rw[hx]),q⟩
  ·rw[if_neg hx]
   have n:xq (((Sum.inr p.1:Key),v)::t) (Sum.inr x)=xq t (Sum.inr x):=xW fun z=>hx (Sum.inr.inj z)
   rw[n]
   exact ih
end
def Ow(P:Program)(w:World)(K:W.Frag)(g:R->List (Str×D)->OD):TE:=fun σ H Q=>∃ ρ τ a ds xs d,sY K H ρ (some (.ref a)::τ) σ/\H a=some (Mt P w a xs)/\vZ K H ds xs/\g ρ ds=some d/\∀v H',i7 H H'->Rep K H' d v->Q v H'
def KE(X:Cx)(e:Expr)(g:R->List (Str×D)->OD):Prop:=PE X e (Ow X.prog X.w X.K g)
section
variable{X:Cx}{st:Stmt}{sts:List Stmt}{u:R->Option Out}{w:R->List (Str×D)->Option Out}{pos:Pos}{e:Expr}{es:List Expr}{f:R->OD}{F:R->Option LD}
end
def Kd(H H':Hp):Prop:=∀b u,H b=some u->(∀kvs,u≠.dK kvs)->H' b=some u
mutual
theorem Rep.kd{K:W.Frag}{H H':Hp}(s:Kd H H'):∀{d:D} {v:V},tB d=true->Rep K H d v->Rep K H' d v
 | .non,_,hn,h=>h
 | .bl _,_,hn,h=>h
 | .int _,_,hn,h=>h
 | .str _,_,hn,h=>h
 | .tup ds,_,hn,h=>by
  obtain⟨a,xs,e,q,r⟩:=h
  refine⟨a,xs,e,?_,i6.kd s hn r⟩
  rcases q with (h | ⟨o,h⟩) | h
  ·exact .inl (.inl (s _ _ h fun φ z=>nomatch z))
  ·exact .inl (.inr ⟨o,s _ _ h fun φ z=>nomatch z⟩)
  ·exact .inr h
 | .lst ds,_,hn,h=>by
  obtain⟨a,xs,e,q,r⟩:=h
  exact⟨a,xs,e,s _ _ q (fun φ z=>by cases z),i6.kd s hn r⟩
 | .fro ds,_,hn,h=>by
  obtain⟨a,xs,e,q,r⟩:=h
  refine⟨a,xs,e,?_,i6.kd s hn r⟩
  rcases q with (h | ⟨o,h⟩) | h
  ·exact .inl (.inl (s _ _ h fun φ z=>nomatch z))
  ·exact .inl (.inr ⟨o,s _ _ h fun φ z=>nomatch z⟩)
  ·exact .inr h
 | .obj k a ks ds,_,hn,h=>by cases hn
 | .rf ..,_,hn,h=>by cases hn
theorem i6.kd{K:W.Frag}{H H':Hp}(s:Kd H H'):∀{ds:LD} {vs:List V},m9 ds=true->i6 K H ds vs->i6 K H' ds vs
 | [],_,_,h=>h
 | d::ds,_,hn,h=>by
  have hn':(tB d&&m9 ds)=true:=hn
  rw[Bool.and_eq_true] at hn'
  obtain⟨v,r,e,q,t⟩:=h
  exact⟨v,r,e,Rep.kd s hn'.1 q,i6.kd s hn'.2 t⟩
end
section
variable{X:Cx}{sts:List Stmt}{w:R->List (Str×D)->Option Out}{pos:Pos}{f:R->OD}
end
end HW
namespace HW
open PySem
end HW
namespace HW
open PySem PySem.Spec PyProof.Rows L2
variable{X:Cx}
end HW
namespace HW
open PySem PySem.SetTable
theorem FL(xs:Array Nat)(j:Nat)(H:∀a b,a<b->b<xs.size->xs.getD a 0<xs.getD b 0):∀fuel lo hi,hi - lo<=fuel->lo<=hi->hi<=xs.size ->
  (∀i,i<lo->xs.getD i 0<j)->(∀i,hi<=i->i<xs.size->j<=xs.getD i 0) ->
  below.go xs j fuel lo hi<=xs.size/\(∀i,i<below.go xs j fuel lo hi->xs.getD i 0<j)/\(∀i,below.go xs j fuel lo hi<=i->i<xs.size->j<=xs.getD i 0):=by
 intro fuel
 induction fuel with
 | zero =>
  intro lo hi h1 h2 h3 h4 h5
  have:lo=hi:=by omega
  subst this
  exact⟨h3,h4,h5⟩
 | succ fuel ih =>
  intro lo hi h1 h2 h3 h4 h5
  unfold below.go
  by_cases hlt:lo<hi
  ·rw[if_pos hlt]
   have hm:(lo+hi) / 2<xs.size:=by omega
   have e:xs.getD ((lo+hi) / 2) j=xs.getD ((lo+hi) / 2) 0:=by simp[Array.getD,hm]
   show(if xs.getD ((lo+hi) / 2) j<j then _ else _:Nat)<=_/\_
   dsimp only
   rw[e]
   by_cases hc:xs.getD ((lo+hi) / 2) 0<j
   ·rw[if_pos hc]
    refine ih _ _ (by omega) (by omega) h3 (fun i hi'=>?_) h5
    by_cases he:i=(lo+hi) / 2
    ·subst he;exact hc
    ·exact Nat.lt_trans (H i _ (by omega) hm) hc
   ·rw[if_neg hc]
    refine ih _ _ (by omega) (by omega) (by omega) h4 (fun i hi' hs=>?_)
    by_cases he:i=(lo+hi) / 2
    ·subst he;omega
    ·have:=H _ i (by omega:(lo+hi) / 2<i) hs;omega
  ·rw[if_neg hlt]
   have:lo=hi:=by omega
   subst this
   exact⟨h3,h4,h5⟩
def Mg(xs:Array Nat):Prop:=∀a b,a<b->b<xs.size->xs.getD a 0<xs.getD b 0
theorem zu{xs:Array Nat}(H:Mg xs)(j:Nat):below xs j<=xs.size/\(∀i,i<below xs j->xs.getD i 0<j)/\(∀i,below xs j<=i->i<xs.size->j<=xs.getD i 0):=
 FL xs j H xs.size 0 xs.size (by omega) (by omega) (by omega) (fun i h=>by omega) (fun i h h'=>by omega)
theorem G7{xs:Array Nat}(H:Mg xs):below xs 0=0:=by
 obtain⟨a,b,c⟩:=zu H 0
 rcases Nat.eq_zero_or_pos (below xs 0) with h | h
 ·exact h
 ·have:=b 0 h;omega
theorem Ha{xs:Array Nat}(H:Mg xs){i:Nat}(hi:i<xs.size):below xs (xs.getD i 0+1)=i+1:=by
 obtain⟨a,b,c⟩:=zu H (xs.getD i 0+1)
 generalize below xs (xs.getD i 0+1)=r at *
 rcases Nat.lt_or_ge i r with h | h
 ·rcases Nat.lt_or_ge (i+1) r with h' | h'
  ·have h1:=b (i+1) h'
   have h2:=H i (i+1) (by omega) (by omega)
   omega
  ·omega
 ·have:=c i h hi;omega
structure TI (t:SetTable) (n:Nat):Prop where
 mask:t.mask=7
 dum:t.dummies=#[]
 plain:t.plain=true
 ris:Mg t.place
 size:t.place.size=n
def way(i pt:Nat):Nat->Nat×Nat
 | 0=>(i,pt)
 | k+1=>way ((i*5+1+pt / 32)%8) (pt / 32) k
theorem TI.fits{t:SetTable}{n:Nat}(T:TI t n)(hn:n<=7):t.fits n=true:=by
 unfold SetTable.fits SetTable.fill
 rw[T.mask,T.dum,T.size]
 simp;omega
theorem TI.fresh(led:Bool):TI (.fresh 0 0 led) 0:=⟨rfl,rfl,rfl,fun a b h hb=>absurd hb (by simp[SetTable.fresh]),rfl⟩
theorem zL{α:Type}:∀(l:List α) (i:Nat) (x:α),l[i]?=some x->(x::l.eraseIdx i).Perm l
 | [],i,x,h=>by simp at h
 | a::l,0,x,h=>by simp at h;subst h;exact .refl _
 | a::l,i+1,x,h=>by
  simp only[List.getElem?_cons_succ] at h
  simp only[List.eraseIdx_cons_succ]
  exact(List.Perm.swap _ _ _).trans ((zL l i x h).cons a)
theorem D_{α:Type}(next:Nat->Nat):∀(fuel k:Nat) (left:List α) (out:Array α),left.length=fuel->(pickOrder.go next fuel k left out).toList.Perm (out.toList++left)
 | 0,k,left,out,h=>by
  have:left=[]:=List.eq_nil_of_length_eq_zero h
  subst this;rw[List.append_nil];exact .refl _
 | fuel+1,k,left,out,h=>by
  unfold pickOrder.go
  have hlt:next k%left.length<left.length:=Nat.mod_lt _ (by omega)
  rw[List.getElem?_eq_getElem hlt]
  dsimp only
  refine(D_ next fuel (k+1) _ _ (by rw[List.length_eraseIdx_of_lt hlt];omega)).trans ?_
  rw[Array.toList_push,List.append_assoc]
  exact(zL left _ _ (List.getElem?_eq_getElem hlt)).append_left _
theorem Al{α:Type}(next:Nat->Nat)(xs:Array α):(pickOrder next xs).toList.Perm xs.toList:=by
 unfold pickOrder
 exact D_ next xs.size 0 xs.toList #[] (by simp)
theorem Es{α:Type}(next:Nat->Nat)(xs:Array α):(pickOrder next xs).size=xs.size:=by
 rw[<- Array.length_toList,(Al next xs).length_eq,Array.length_toList]
end HW
namespace HW
noncomputable def intsOf:LD->Option (List Int)
 | []=>some []
 | .int i::r=>(intsOf r).map (i::·)
 | _::_=>none
end HW
namespace HW
open PySem
def ND:Value->Int
 | .int n _=>n
 | _=>0
def CZ(b:Bool)(h:Heap)(S:Addr)(ks:List Int):Prop:=
 ∃o es ep t,h.get? S=some o/\o.ExactSet/\o.data=.set es ep t/\(∀e∈es.toList,∃k tk,e=(hashInt k,Value.int k tk))/\TI t es.size/\t.led=b/\(es.toList.map fun e=>ND e.2).Perm ks
theorem CZ.at{b:Bool}{h h':Heap}{S:Addr}{ks:List Int}(x:CZ b h S ks)(e:∀o,h.get? S=some o->h'.get? S=some o):CZ b h' S ks:=let ⟨o,es,ep,t,ho,r⟩:=x;⟨o,es,ep,t,e _ ho,r⟩
section
variable{prog:Program}{w:World}{A:Around}{E:Value->Shared->Prop}{s:Shared}
end
end HW
namespace HW
open PySem PySem.Spec PyProof.Rows
def x4(h:Heap)(it S:Addr)(slot i n ep:Nat):Prop:=∃o,h.get? it=some o/\o.cls=.type "set_iterator" /\ o.data=.fields #[.int slot 0,.int i 0,.ref S,.int n 0,.int ep 0]
def y1(h:Heap)(S:Addr)(es:Array (Int×Value))(ep:Nat)(t:SetTable):Prop:=∃o,h.get? S=some o/\o.cls=.type "set" /\ o.data=.set es ep t
def slotAt(t:SetTable):Nat->Nat
 | 0=>0
 | i+1=>t.place.getD i 0+1
def As(w:World):Bool:=w.params.followText "set-order"
structure JP (w:World) (S:Addr) (es:Array (Int×Value)) (ep:Nat) (t:SetTable) (ord:Array (Int×Value)):Prop where
 fits:t.fits es.size=true
 size:ord.size=es.size
 txt:As w=true->ord=pickOrder (w.params.setOrder S ep) es
 plc:As w=false->ord=es/\t.led=true/\(!t.plain&&decide (es.size > 1))=false/\∀i,i<=es.size->SetTable.below t.place (slotAt t i)=i
theorem x4.typeIs{s:Shared}{it S slot i n ep}(x:x4 s.heap it S slot i n ep):s.TypeIs (.ref it) "set_iterator":=let ⟨o,ho,hc,_⟩:=x;⟨o,ho,hc⟩
theorem y1.typeIs{s:Shared}{S es ep t}(x:y1 s.heap S es ep t):s.TypeIs (.ref S) "set":=let ⟨o,ho,hc,_⟩:=x;⟨o,ho,hc⟩
theorem y1.at{h h':Heap}{S es ep t}(x:y1 h S es ep t)(e:∀o,h.get? S=some o->h'.get? S=some o):y1 h' S es ep t:=let ⟨o,ho,r⟩:=x;⟨o,e _ ho,r⟩
theorem x4.at{h h':Heap}{it S slot i n ep}(x:x4 h it S slot i n ep)(e:∀o,h.get? it=some o->h'.get? it=some o):x4 h' it S slot i n ep:=let ⟨o,ho,r⟩:=x;⟨o,e _ ho,r⟩
theorem y1.lt{h:Heap}{S es ep t}(x:y1 h S es ep t):S<h.objs.size:=let ⟨_,ho,_⟩:=x;Heap.lt_size ho
section
variable{prog:Program}{w:World}{A:Around}{E:Value->Shared->Prop}{s:Shared}{S:Addr}{es ord:Array (Int×Value)}{ep:Nat}{t:SetTable}
def nextOf(ord:Array (Int×Value))(i nx:Nat):Option (Value×Nat):=(ord[i]?).map fun e=>(e.2,nx)
end
set_option maxHeartbeats 3200000
section
variable{prog:Program}{w:World}{A:Around}{R:Result->Shared->Prop}{I:Addr}{fp wr:List Addr}{G:Array GenState->Array GenState->Prop}{n:Nat}{P:Nat->Value->Prop}{St:Nat->Shared->Prop}
end
section
variable{prog:Program}{w:World}{A:Around}{E:Value->Shared->Prop}{s:Shared}
abbrev Ff(w:World):Obj:={cls:=.type "set",dict:=none,data:=.set #[] 0 (.fresh 0 0 (!As w))}
theorem CZ.new{h:Heap}{w:World}:CZ (!As w) (h.push (Ff w)) h.objs.size []:=
 ⟨Ff w,#[],0,_,Heap.get?_push_size _ rfl,⟨rfl,rfl,rfl⟩,rfl,fun e he=>by simp at he,TI.fresh _,rfl,.refl _⟩
theorem CZ.ord{h:Heap}{S:Addr}{ks:List Int}(x:CZ (!As w) h S ks)(hn:ks.length<=4) :
  ∃es ep t ord,y1 h S es ep t/\JP w S es ep t ord/\(ord.toList.map fun e=>ND e.2).Perm ks/\∀e∈ord.toList,∃k tk,e.2=Value.int k tk:=by
 obtain⟨o,es,ep,t,ho,hex,hd,hel,hT,hled,hp⟩:=x
 have hlen:es.size=ks.length:=by rw[<- hp.length_eq,List.length_map,Array.length_toList]
 have hf:t.fits es.size=true:=hT.fits (by omega)
 have hel':∀e∈es.toList,∃k tk,e.2=Value.int k tk:=fun e he=>let ⟨k,tk,q⟩:=hel e he;⟨k,tk,by rw[q]⟩
 cases hb:As w with
 | true =>
  have pp:=Al (w.params.setOrder S ep) es
  exact⟨es,ep,t,pickOrder (w.params.setOrder S ep) es,⟨o,ho,hex.1,hd⟩,⟨hf,Es _ _,fun _=>rfl,fun z=>by rw[hb] at z;cases z⟩,(pp.map _).trans hp,fun e he=>hel' e (pp.mem_iff.mp he)⟩
 | false =>
  refine⟨es,ep,t,es,⟨o,ho,hex.1,hd⟩,⟨hf,rfl,(fun z=>by rw[hb] at z;cases z),fun _=>⟨rfl,by rw[hled,hb];rfl,by rw[hT.plain];rfl,fun i hi=>?_⟩⟩,hp,hel'⟩
  cases i with
  | zero=>exact G7 hT.ris
  | succ i=>exact Ha hT.ris (by rw[hT.size];exact hi)
end
end HW
set_option maxHeartbeats 1000000
namespace HW
open PySem PySem.Spec PyProof.Rows L2
section
variable{X:Cx}
theorem vals_ints{K:W.Frag}{H:Hp}:∀{ds:LD} {ns:List Int} {xs:List V} {its:List Value},intsOf ds=some ns->i6 K H ds xs->l3 xs its->IntsAre its ns
 | [],ns,xs,its,e,r,v=>by
  cases e
  cases (show xs=[] from r)
  cases v
  exact .nil
 | .int i::ds,ns,xs,its,e,r,v=>by
  obtain⟨ms,e1,e2⟩:=p9 (show(intsOf ds).map (i::·)=some ns from e)
  subst e2
  obtain⟨x,xr,rfl,r1,r2⟩:=r
  cases (show x=_ from r1)
  cases v with
  | cons v1 v2 =>
   obtain⟨t,rfl⟩:=v1
   exact .cons i t (vals_ints e1 r2 v2)
 | .non::_,_,_,_,e,_,_=>by cases e
 | .bl _::_,_,_,_,e,_,_=>by cases e
 | .str _::_,_,_,_,e,_,_=>by cases e
 | .tup _::_,_,_,_,e,_,_=>by cases e
 | .lst _::_,_,_,_,e,_,_=>by cases e
 | .fro _::_,_,_,_,e,_,_=>by cases e
variable{sts:List Stmt}
end
section
variable{prog:Program}{w:World}{A:Around}{R':Result->Shared->Prop}{I:Addr}{fp wr:List Addr}{n:Nat}{P:Nat->Value->Prop}{St:Nat->Heap->Prop}
end
section
variable{prog:Program}{w:World}{A:Around}{E:Value->Shared->Prop}{s:Shared}
end
section
variable{X:Cx}
end
end HW
namespace HW
end HW
namespace HW
open PySem PySem.Spec PyProof.Rows L2
section
variable{prog:Program}{w:World}{A:Around}{E:Value->Shared->Prop}{s:Shared}
end
section
variable{X:Cx}
end
end HW
namespace HW
end HW
namespace HW
open PySem PySem.Spec PyProof.Rows L2
section
variable{X:Cx}
end
end HW
namespace HW
open PySem
end HW
namespace HW
open PySem PySem.Spec PyProof.Rows L2
section
variable{X:Cx}
end
abbrev ud(K:W.Frag)(n:Str)(st:Stmt)(f:Addr):Prop:=∃(oc:Value) (od an:Option Addr) (sl:Array (Option Value)) (kV dc pm cd ct:Value),W.nsIn K mainGlobals n=some (some (.ref f)) /\
 K.lookup f=some ⟨oc,od,.func (W.fnOf n n (uc st) (sS st) (c5 st) .none kV dc pm an cd ct),sl⟩/\W.codeIn K cd n=true/\W.keepIn K (.ref f)=true
theorem uo{K:W.Frag}{n:Str}{st:Stmt}{f:Addr}(h:ud K n st f):∃fd,tE K n n st f fd/\W.nsIn K mainGlobals n=some (some (.ref f)):=by
 obtain⟨oc,od,an,sl,kV,dc,pm,cd,ct,a,l,c,k⟩:=h
 exact⟨_,qf l c k,a⟩
theorem fn4_mk{K:W.Frag}{n:Str}{st:Stmt}{f:Addr}{oc:Value}{od an:Option Addr}{sl:Array (Option Value)}{kV dc pm cd ct:Value}(a:W.nsIn K mainGlobals n=some (some (.ref f)))
  (l:K.lookup f=some ⟨oc,od,.func (W.fnOf n n (uc st) (sS st) (c5 st) .none kV dc pm an cd ct),sl⟩) (c:W.codeIn K cd n=true) (k:W.keepIn K (.ref f)=true):ud K n st f:=⟨oc,od,an,sl,kV,dc,pm,cd,ct,a,l,c,k⟩
theorem m7.m{P:Program}{w:World}{K:W.Frag}{mg:Str->Option Value}{base:Heap}{j k:Nat}{x:Str}{ps:List Str}{F:LD->OD}(h:m7 P w K mg base j x ps F)(hk:j<=k:=by decide):m7 P w K mg base k x ps F:=h.mono hk
end HW
namespace HW
open PySem
inductive MO where
 | nx (ρ:R)
 | rt (d:D) (ρ:R)
abbrev MU:=List Nat->R->Option MO
def uP(u:R->Option Out):MU:=fun _ ρ=>(u ρ).bind fun o=>match o with
 | .nx ρ2=>some (.nx ρ2)
 | .rt d=>some (.rt d ρ)
 | _=>none
def vq:MU:=fun _ ρ=>some (.nx ρ)
def um(u w:MU):MU:=fun S ρ=>(u S ρ).bind fun o=>match o with
 | .nx ρ2=>w S ρ2
 | o=>some o
def B0(c:R->Option Bool)(u w:MU):MU:=fun S ρ=>(c ρ).bind fun b=>if b then u S ρ else w S ρ
noncomputable def Bb(st:D->R->Option R)(u:MU)(S:List Nat):LD->R->Option MO
 | [],ρ=>some (.nx ρ)
 | d::ds,ρ=>(st d ρ).bind fun ρ1=>(u S ρ1).bind fun o=>match o with
  | .nx ρ2=>Bb st u S ds ρ2
  | o=>some o
def CD(it:R->Option LD)(st:D->R->Option R)(u:MU):MU:=fun S ρ=>(it ρ).bind fun ds=>if m9 ds then Bb st u S ds ρ else none
def uE:OD->Bool
 | some d=>tB d
 | none=>true
def tP(i:Nat)(ρ:R):Bool:=(ρ.set i none).all uE
noncomputable def vn:D->List Nat
 | .obj _ a _ _=>[a]
 | _=>[]
def adr:D->List Nat
 | .obj _ a _ es=>a::es.flatMap vn
 | _=>[]
def y9(S:List Nat)(as:List Nat):Bool:=as.all fun a=>S.contains a
def vQ(c:List Nat->R->Option (D×R)):MU:=fun S ρ=>(c S ρ).map fun r=>.nx r.2
def Bh(c:List Nat->R->Option (D×R)):MU:=fun S ρ=>(c S ρ).map fun r=>.rt r.1 r.2
noncomputable def zR:List Str->LD->Str->OD
 | k::ks,d::ds,x=>if k=x then some d else zR ks ds x
 | _,_,_=>none
def putD:List Str->LD->Str->D->List Str×LD
 | k::ks,d::ds,x,e=>if k=x then (k::ks,e::ds) else (k::(putD ks ds x e).1,d::(putD ks ds x e).2)
 | ks,ds,x,e=>(ks++[x],ds++[e])
def t4(C:Nat)(x:Str):D->OD
 | .obj k _ ks ds=>if k=C+2 then zR ks ds x else none
 | _=>none
def okN:D->Bool
 | .obj 0 _ _ es=>m9 es
 | d=>tB d
def vD(i C:Nat)(x:Str)(f:R->OD):MU:=fun S ρ=>(f ρ).bind fun d=>match c6 i ρ with
 | some (.obj k a ks ds)=>if k=C+2/\tB d=true/\tP i ρ=true/\y9 S (a::ds.flatMap vn)=true/\ks.length<100/\ds.all okN=true/\(zR ks ds x).all tB=true then some (.nx (ρ.set i (some (.obj k a (putD ks ds x d).1 (putD ks ds x d).2)))) else none
 | _=>none
def HK(i C:Nat)(x:Str)(f:R->OD):MU:=fun S ρ=>(f ρ).bind fun d=>match c6 i ρ with
 | some (.obj k a ks ds)=>match zR ks ds x with
  | some (.obj 0 l ls es)=>if k=C+2/\tB d=true/\tP i ρ=true/\y9 S (a::ds.flatMap vn)=true/\es.length<1000/\m9 es=true/\m9 (putD ks ds x .non).2=true/\S.contains l=true then some (.nx (ρ.set i (some (.obj k a (putD ks ds x (.obj 0 l ls (es++[d]))).1 (putD ks ds x (.obj 0 l ls (es++[d]))).2)))) else none
  | _=>none
 | _=>none
def HE(j:Nat)(ob d:D)(ρ:R):Option (D×D):=(c6 j ρ).bind fun ob'=>if vU ob'=true/\adr ob'=adr ob then some (d,ob') else none
def Bi(n N j:Nat)(g:MU):LD->Option (D×D):=fun ds=>if ds.length=n then (ds[j]?).bind fun ob=>if vU ob=true then (g (adr ob) (yz N ds)).bind fun o=>match o with
 | .nx ρ=>HE j ob .non ρ
 | .rt d ρ=>HE j ob d ρ
 else none else none
def yF:D->Nat
 | .obj _ a _ _=>a
 | _=>0
def vy(i:Nat)(C:Nat)(m:Str)(G:LD->Option (D×D))(F:R->Option LD)(S:List Nat)(ρ:R):Option (D×R):=(c6 i ρ).bind fun ob=>(F ρ).bind fun ds=>(G (ob::ds)).bind fun r =>
 match ob with
 | .obj k _ ks _=>if k=C+2/\ks.contains m=false/\tP i ρ=true/\y9 S (adr ob)=true then some (r.1,ρ.set i (some r.2)) else none
 | _=>none
def C9(C:Nat)(m:Str)(G:LD->OD)(f:R->OD)(F:R->Option LD):R->OD:=fun ρ=>(f ρ).bind fun ob=>(F ρ).bind fun ds=>match ob with
 | .obj k _ ks _=>if k=C+2/\ks.contains m=false then G (ob::ds) else none
 | _=>none
def xn(N C:Nat)(f:Str)(g:MU)(ds:LD)(a l:Nat):OD:=(g [a] (yz N (.obj (C+2) a [] []::ds))).bind fun o=>match o with
 | .nx ρ=>match c6 0 ρ with
  | some (.obj k b ks es)=>if k=C+2/\b=a/\m9 es=true/\ks.length<100 then some (.obj k b (putD ks es f (.obj 0 l [] [])).1 (putD ks es f (.obj 0 l [] [])).2) else none
  | _=>none
 | _=>none
def Hc:LD->OD
 | [.lst es]=>(intsOf es).bind fun ns=>if ns.length<=1000/\ns.all (fun n=>decide (0<=n/\n<1099511627776))=true then some (.int ns.sum) else none
 | _=>none
end HW
namespace HW
open PySem PySem.Spec PyProof.Rows L2
def IR:Option HO->Prop
 | some (.ins _ _ _)=>True
 | some (.dK _)=>True
 | some (.frz _ (.own _))=>True
 | _=>False
def tM(S:List Nat)(H H':Hp):Prop:=∀b u,b∉S->H b=some u->H' b=some u
def sM(S:List Nat)(H:Hp):Prop:=∀b∈S,IR (H b)
section
variable{S T:List Nat}{H H' H1 H2:Hp}{K:W.Frag}
theorem tM.of(h:i7 H H'):tM S H H':=fun b u _ e=>h b u e
theorem tM.refl:tM S H H:=fun _ _ _ e=>e
theorem tM.trans(h:tM S H H1)(k:tM S H1 H2):tM S H H2:=fun b u n e=>k b u n (h b u n e)
theorem tM.mono(h:tM S H H')(hs:∀b∈S,b∈T):tM T H H':=fun b u n e=>h b u (fun z=>n (hs b z)) e
theorem sM.same(m:sM S H)(s:i7 H H'):sM S H':=fun b hb=>by
 have h:=m b hb
 cases e:H b with
 | none=>rw[e] at h;exact h.elim
 | some u=>rw[s b u e];rw[e] at h;exact h
theorem sM.nin{a:Nat}{u:HO}(m:sM S H)(e:H a=some u)(n:¬ IR (some u)):a∉S:=fun z=>n (by have:=m a z;rw[e] at this;exact this)
theorem tM.tup{a:Addr}{xs:List V}(m:sM S H)(s:tM S H H')(h:vC K H a xs):vC K H' a xs:=by
 rcases h with (h | ⟨o,h⟩) | h
 ·exact .inl (.inl (s _ _ (m.nin h fun z=>z) h))
 ·exact .inl (.inr ⟨o,s _ _ (m.nin h fun z=>z) h⟩)
 ·exact .inr h
theorem tM.seq{a:Addr}{xs:List V}(m:sM S H)(s:tM S H H')(h:u4 K H a xs):u4 K H' a xs:=by
 rcases h with (h | ⟨o,h⟩) | h
 ·exact .inl (.inl (s _ _ (m.nin h fun z=>z) h))
 ·exact .inl (.inr ⟨o,s _ _ (m.nin h fun z=>z) h⟩)
 ·exact .inr h
end
mutual
theorem Rep.kq{S:List Nat}{K:W.Frag}{H H':Hp}(m:sM S H)(s:tM S H H'):∀{d:D} {v:V},tB d=true->Rep K H d v->Rep K H' d v
 | .non,_,_,h=>h
 | .bl _,_,_,h=>h
 | .int _,_,_,h=>h
 | .str _,_,_,h=>h
 | .tup ds,_,hn,h=>by
  obtain⟨a,xs,e,q,r⟩:=h
  exact⟨a,xs,e,s.tup m q,i6.kq m s hn r⟩
 | .lst ds,_,hn,h=>by
  obtain⟨a,xs,e,q,r⟩:=h
  exact⟨a,xs,e,s _ _ (m.nin q fun z=>z) q,i6.kq m s hn r⟩
 | .fro ds,_,hn,h=>by
  obtain⟨a,xs,e,q,r⟩:=h
  exact⟨a,xs,e,s.seq m q,i6.kq m s hn r⟩
 | .obj ..,_,hn,_=>by cases hn
 | .rf ..,_,hn,_=>by cases hn
theorem i6.kq{S:List Nat}{K:W.Frag}{H H':Hp}(m:sM S H)(s:tM S H H'):∀{ds:LD} {vs:List V},m9 ds=true->i6 K H ds vs->i6 K H' ds vs
 | [],_,_,h=>h
 | d::ds,_,hn,h=>by
  have hn':(tB d&&m9 ds)=true:=hn
  rw[Bool.and_eq_true] at hn'
  obtain⟨v,r,e,q,t⟩:=h
  exact⟨v,r,e,Rep.kq m s hn'.1 q,i6.kq m s hn'.2 t⟩
end
section
variable{S T:List Nat}{H H' H1 H2:Hp}{K:W.Frag}
theorem Hu.mut{k a:Nat}{ks:List Str}{vs:List V}(h:Hu H k a ks vs):IR (H a):=by
 match k,h with
 | 0,⟨_,_,_,_,e⟩=>rw[e];trivial
 | 1,⟨_,e⟩=>rw[e];trivial
 | C+2,⟨_,_,e⟩=>rw[e];trivial
theorem i6.mem:∀{ds:LD} {vs:List V} {d:D},i6 K H ds vs->d∈ds->∃v,Rep K H d v
 | [],_,_,_,h=>by cases h
 | e::ds,vs,d,h,hd=>by
  obtain⟨v,r,_,q,t⟩:=h
  rcases List.mem_cons.mp hd with rfl | hd
  ·exact⟨v,q⟩
  ·exact i6.mem t hd
theorem xh{ob:D}{v:V}(r:Rep K H ob v):sM (adr ob) H:=fun b hb=>by
 cases ob with
 | obj k a ks es =>
  obtain⟨xs,_,q,t⟩:=r
  rcases List.mem_cons.mp hb with rfl | hb
  ·exact q.mut
  ·obtain⟨e,he,hb⟩:=List.mem_flatMap.mp hb
   cases e with
   | obj k' a' ks' es' =>
    obtain⟨v',xs',_,q',_⟩:=i6.mem t he
    rw[show b=a' from List.mem_singleton.mp hb]
    exact q'.mut
   | _=>cases hb
 | _=>cases hb
theorem CS{as:List Nat}(h:y9 S as=true):∀b∈as,b∈S:=fun b hb=>by
 have:=List.all_eq_true.mp h b hb
 simpa using this
theorem ni{ob:D}{v:V}(h:vU ob=true)(r:Rep K H ob v):v=.ref (yF ob):=by
 cases ob with
 | obj k a ks es=>obtain⟨xs,e,_⟩:=r;exact e
 | _=>cases h
theorem pT{ρ:R}{σ:L2.St}{i:Nat}{ob':D}{v:V}(er:sZ K H ρ σ)(m:sM S H)(s:tM S H H')(hn:tP i ρ=true)(hv:σ[i]?=some (some v))(r:Rep K H' ob' v):sZ K H' (ρ.set i (some ob')) σ:=by
 refine⟨by rw[List.length_set];exact er.1,fun j d h=>?_⟩
 by_cases hj:j=i
 ·subst hj
  have hl:j<ρ.length:=by have:=(List.getElem?_eq_some_iff.mp h).1;simpa using this
  rw[List.getElem?_set_self hl] at h
  cases h
  exact⟨v,hv,r⟩
 ·rw[List.getElem?_set_ne (Ne.symm hj)] at h
  obtain⟨u,h1,h2⟩:=er.2 j d h
  have hd:uE (some d)=true:=List.all_eq_true.mp hn _ (List.mem_of_getElem? (i:=j) (by rw[List.getElem?_set_ne (Ne.symm hj)];exact h))
  exact⟨u,h1,Rep.kq m s hd h2⟩
theorem iy{ρ:R}{σ τ:L2.St}{i:Nat}{ob':D}{v:V}(er:sY K H ρ τ σ)(m:sM S H)(s:tM S H H')(hn:tP i ρ=true)(hv:σ[i]?=some (some v))(r:Rep K H' ob' v):sY K H' (ρ.set i (some ob')) τ σ:=
 ⟨pT er.1 m s hn hv r,by rw[List.length_set];exact er.2⟩
def HA(K:W.Frag)(H:Hp)(ρ:R):Prop:=∀(j:Nat) (d:D),ρ[j]?=some (some d)->vU d=true->Rep K H d (.ref (yF d))
theorem HA.of{ρ:R}{σ:L2.St}(e:sZ K H ρ σ):HA K H ρ:=fun j d h ho=>by
 obtain⟨v,_,r⟩:=e.2 j d h
 rw[<- ni ho r];exact r
variable(K)
def Lj(E:Ends)(τ:L2.St)(o:MO)(H':Hp):Prop:=
 match o with
 | .nx ρ=>∀ σ,sY K H' ρ τ σ->E.nx σ H'
 | .rt d ρ=>∀v,Rep K H' d v->HA K H' ρ->E.rt v H'
def Km(S:List Nat)(u:MU):TS:=fun E σ H=>∃ ρ τ o,sY K H ρ τ σ/\sM S H/\u S ρ=some o/\∀H',tM S H H'->sM S H'->Lj K E τ o H'
def ya(S:List Nat)(J:It)(ds:LD)(H:Hp):Prop:=
 (∀(i:Nat) (d:D) (H2:Hp),tM S H H2->ds[i]?=some d->J.go i H2/\∀x H3,J.yld i H2 x H3->i7 H2 H3/\Rep K H3 d x)/\∀(i:Nat) (H2:Hp),tM S H H2->ds.length<=i->J.stop i H2
def N6(S:List Nat)(f:R->Option LD):L2.TI:=fun σ H W=>∃ ρ ds,sZ K H ρ σ/\sM S H/\f ρ=some ds/\m9 ds=true/\∀J H',i7 H H'->ya K S J ds H'->W J H'
def CK(j:Nat)(G:LD->Option (D×D)):Sp:=fun vs H Q _=>∃ds ob d o',i6 K H ds vs/\ds[j]?=some ob/\vU ob=true/\G ds=some (d,o')/\∀v H',tM (adr ob) H H'->sM (adr ob) H'->Rep K H' d v->Rep K H' o' (.ref (yF ob))->Q v H'
end
def MS(X:Cx)(st:Stmt)(u:MU):Prop:=∀S,PS X st (Km X.K S u)
def E7(X:Cx)(sts:List Stmt)(u:MU):Prop:=∀S,PSs X sts (Km X.K S u)
def Mr(X:Cx)(tg iter:Expr)(f:R->Option LD):Prop:=∀S,PI X tg iter (N6 X.K S f)
section
variable{X:Cx}{st:Stmt}{sts:List Stmt}{u w:MU}{pos:Pos}
theorem FO{E:Ends}{σ:L2.St}{H:Hp}{K:W.Frag}{S:List Nat}{p:R->Option Out}(q:Km K S (uP p) E σ H):Iy K p E σ H:=by
 obtain⟨ρ,τ,o,er,m,e,q⟩:=q
 obtain⟨o1,e1,e⟩:=e9 e
 refine⟨ρ,τ,o1,er,e1,fun H' s=>?_⟩
 cases o1 with
 | nx ρ2=>cases e;exact q H' (tM.of s) (m.same s)
 | rt d=>cases e;exact fun v rv=>q H' (tM.of s) (m.same s) v rv (HA.of (er.mono s).1)
 | bk ρ2=>cases e
 | ct ρ2=>cases e
theorem cF{p:R->Option Out}(h:S1 X st p):MS X st (uP p):=fun S=>PS.imp h fun E σ H z=>FO z
theorem iq:E7 X [] vq:=fun S=>za.imp fun E σ H ⟨ρ,τ,o,er,m,e,q⟩=>by
 cases e
 exact q H tM.refl m σ er
theorem Hf{E:Ends}{σ:L2.St}{H:Hp}{K:W.Frag}{S:List Nat}(q:Km K S (um u w) E σ H):Km K S u {E with nx:=Km K S w E} σ H:=by
 obtain⟨ρ,τ,o,er,m,e,q⟩:=q
 obtain⟨o1,e1,e⟩:=e9 e
 refine⟨ρ,τ,o1,er,m,e1,fun H1 k1 m1=>?_⟩
 cases o1 with
 | nx ρ2=>exact fun σ2 er2=>⟨ρ2,τ,o,er2,m1,e,fun H2 k2 m2=>q H2 (k1.trans k2) m2⟩
 | rt d ρ2=>cases e;exact q H1 k1 m1
theorem aJ(h1:MS X st u)(h2:E7 X sts w):E7 X (st::sts) (um u w):=fun S=>(dP (h1 S) (h2 S)).imp fun E σ H q=>Hf q
theorem bj(h1:MS X st u):E7 X [st] u:=fun S=>dA (h1 S)
theorem pE{c:Expr}{s:R->Option Bool}{B1 B2:List Stmt}(hc:ST X c s)(ha:E7 X B1 u)(hb:E7 X B2 w):MS X (.If c B1 B2 pos) (B0 s u w):=fun S=>(lS hc (ha S) (hb S)).imp fun E σ H ⟨ρ,τ,o,er,m,e,q⟩=>by
 obtain⟨x,e1,e⟩:=e9 e
 refine⟨ρ,x,er.1,e1,fun H1 s1=>?_⟩
 cases x with
 | true=>rw[if_pos rfl] at e ⊢;exact⟨ρ,τ,o,er.mono s1,m.same s1,e,fun H2 k2 m2=>q H2 ((tM.of s1).trans k2) m2⟩
 | false=>rw[if_neg Bool.false_ne_true] at e ⊢;exact⟨ρ,τ,o,er.mono s1,m.same s1,e,fun H2 k2 m2=>q H2 ((tM.of s1).trans k2) m2⟩
theorem mi{K:W.Frag}{S:List Nat}{H:Hp}{a:Addr}{ds:LD}{xs:List V}(m:sM S H)(hn:m9 ds=true)(hq:vC K H a xs)(t:i6 K H ds xs):ya K S (Ma K a) ds H:=by
 refine⟨fun i d H2 s2 e=>?_,fun i H2 s2 hl=>⟨xs,s2.tup m hq,by rw[<- t.length];exact hl⟩⟩
 obtain⟨v,h1,h2⟩:=(i6.kq m s2 hn t).get e
 refine⟨⟨xs,v,s2.tup m hq,h1⟩,fun x H3 ⟨e3,y⟩=>?_⟩
 subst e3
 have:=(y xs (s2.tup m hq)).symm.trans h1
 cases this
 exact⟨i7.refl _,h2⟩
theorem j9{K:W.Frag}{S:List Nat}{H:Hp}{a:Addr}{ds:LD}{xs:List V}(m:sM S H)(hn:m9 ds=true)(hq:u4 K H a xs)(t:i6 K H ds xs):ya K S (Ml K a) ds H:=by
 refine⟨fun i d H2 s2 e=>?_,fun i H2 s2 hl=>⟨xs,s2.seq m hq,by rw[<- t.length];exact hl⟩⟩
 obtain⟨v,h1,h2⟩:=(i6.kq m s2 hn t).get e
 refine⟨⟨xs,v,s2.seq m hq,h1⟩,fun x H3 ⟨e3,y⟩=>?_⟩
 subst e3
 have:=(y xs (s2.seq m hq)).symm.trans h1
 cases this
 exact⟨i7.refl _,h2⟩
theorem lF{K:W.Frag}{S:List Nat}{H:Hp}{x:Str}:ya K S (LH x) (chars x) H:=by
 have y:∀H,vV K (LH x) (chars x) H:=fun H=>iT
 exact⟨fun i d H2 _ e=>(y H2).1 i d H2 (Kp.refl H2) e,fun i H2 _ hl=>(y H2).2 i H2 (Kp.refl H2) hl⟩
theorem lZ{K:W.Frag}{S:List Nat}{H:Hp}{a b:Int}:ya K S (Kr a (b - a).toNat) (uD a b) H:=by
 have y:∀H,vV K (Kr a (b - a).toNat) (uD a b) H:=fun H=>iV
 exact⟨fun i d H2 _ e=>(y H2).1 i d H2 (Kp.refl H2) e,fun i H2 _ hl=>(y H2).2 i H2 (Kp.refl H2) hl⟩
theorem kT{tg a:Expr}{f:R->OD}(ha:SE X a f):Mr X tg a (yr f):=fun S=>(mU ha).imp fun σ H W ⟨ρ,ds,er,m,e,hn,q⟩=>by
 obtain⟨x,e1,e⟩:=e9 e
 refine⟨ρ,x,er,e1,fun v H1 s1 r1=>?_⟩
 have m1:=m.same s1
 cases x with
 | tup xs =>
  cases e
  obtain⟨a,vs,ev,hq,t⟩:=r1
  exact .inl ⟨a,ev,.inr ⟨⟨vs,hq⟩,q _ H1 s1 (mi m1 hn hq t)⟩⟩
 | lst xs =>
  cases e
  obtain⟨a,vs,ev,hq,t⟩:=r1
  exact .inl ⟨a,ev,.inl ⟨⟨vs,u4.of hq⟩,q _ H1 s1 (j9 m1 hn (u4.of hq) t)⟩⟩
 | str z =>
  dsimp only at e
  split at e
  ·rename_i hz
   cases e
   cases (show v=_ from r1)
   exact .inr ⟨z,rfl,hz,q _ H1 s1 lF⟩
  ·cases e
 | _=>cases e
theorem mC{tg a:Expr}{f:R->OD}{p:Pos}(hm:X.mg "range" = none)(ha:SE X a f)(hg:Gl X "range":=by rfl)(hs:noStar a=true:=by rfl):Mr X tg (.Call (.Name "range" p) [a] [] pos) (uT f):=fun S =>
 (jQ hg hm (ac ha af hs).1 (aE [] X.env hs)).imp fun σ H W ⟨ρ,ds,er,m,e,hn,q⟩=>by
  obtain⟨x,e1,e⟩:=e9 e
  cases x with
  | int j =>
   dsimp only at e
   split at e
   ·rename_i hj
    cases e
    refine⟨ρ,[.int j],er,by show(f ρ).bind _=_;rw[e1];rfl,fun vs H1 s1 r1=>?_⟩
    obtain⟨v,r,rfl,r2,r3⟩:=r1
    cases (show v=_ from r2)
    cases (show r=_ from r3)
    refine⟨j,rfl,hj.1,hj.2,q _ H1 s1 ?_⟩
    have z:=lZ (K:=X.K) (S:=S) (H:=H1) (a:=0) (b:=j)
    rw[Int.sub_zero] at z
    exact z
   ·cases e
  | _=>cases e
theorem iF{tg iter:Expr}{B:List Stmt}{it:R->Option LD}{stf:D->R->Option R}(hp:PassesOwn (model X.prog X.w) X.A X.env X.xe)(hc:X.calm=true)(hi:Mr X tg iter it)(hg:SG X tg stf)(hb:E7 X B u)
  (hs:∀x,foldedSetIterable iter X.env x=pure x:=by intro _;rfl):MS X (.For tg iter B [] pos) (CD it stf u):=fun S=>(pw hp hc (hi S) hg (hb S) hs).imp fun E σ H ⟨ρ,τ,o,er,m,e,q⟩=>by
 obtain⟨ds,e1,e⟩:=e9 e
 split at e
 case isFalse=>cases e
 case isTrue hn =>
 refine⟨ρ,ds,er.1,m,e1,hn,fun J H1 s1 y=>?_⟩
 refine⟨fun i n σ' H'=>n=ds.length - i/\i<=ds.length/\tM S H1 H'/\sM S H'/\∃ ρ',sY X.K H' ρ' τ σ'/\Bb stf u S (ds.drop i) ρ'=some o,⟨ds.length,by simp,Nat.zero_le _,tM.refl,m.same s1,ρ,er.mono s1,by simpa using e⟩,?_⟩
 rintro i n σ' H' ⟨rfl,hi,s2,m2,ρ',er',e'⟩
 by_cases hlt:i<ds.length
 ·refine .inr ?_
  have hd:ds[i]?=some ds[i]:=by simp[hlt]
  obtain⟨hgo,hy⟩:=y.1 i ds[i] H' s2 hd
  rw[List.drop_eq_getElem_cons hlt] at e'
  obtain⟨ρ1,e2,e'⟩:=e9 e'
  obtain⟨o1,e3,e'⟩:=e9 e'
  refine⟨hgo,fun σ2 H2=>i+1<=ds.length/\tM S H1 H2/\sM S H2/\∃ ρ',sY X.K H2 ρ' τ σ2/\Bb stf u S (ds.drop (i+1)) ρ'=some o,fun σ2 H2 n2=>⟨ds.length - (i+1),by omega,rfl,n2.1,n2.2⟩,fun x H3 yx=>?_⟩
  obtain⟨s3,rx⟩:=hy x H3 yx
  refine⟨ρ',τ,ds[i],ρ1,er'.mono s3,rx,e2,fun σ4 H4 s4 er4=>⟨ρ1,τ,o1,er4,(m2.same s3).same s4,e3,fun H5 s5 m5=>?_⟩⟩
  have s15:tM S H1 H5:=s2.trans ((tM.of s3).trans ((tM.of s4).trans s5))
  cases o1 with
  | nx ρ2=>exact fun σ6 er6=>⟨hlt,s15,m5,ρ2,er6,e'⟩
  | rt d ρ2=>cases e';exact q H5 ((tM.of s1).trans s15) m5
 ·have e4:i=ds.length:=by omega
  subst e4
  rw[List.drop_length] at e'
  cases e'
  exact .inl ⟨y.2 _ H' s2 (Nat.le_refl _),q H' ((tM.of s1).trans s2) m2 σ' er'⟩
end
section
variable{K:W.Frag}{H H':Hp}
theorem yw{x:Str}{d:D}:∀{ks:List Str} {ds:LD} {vs:List V},zR ks ds x=some d->i6 K H ds vs->ks.length=vs.length->∃v,(ks.zip vs).lookup x=some v/\Rep K H d v
 | [],_,_,e,_,_=>by cases e
 | k::ks,[],_,e,_,_=>by cases e
 | k::ks,c::ds,vs,e,r,hl=>by
  obtain⟨v,vr,rfl,r1,r2⟩:=r
  have e':(if k=x then some c else zR ks ds x)=some d:=e
  show ∃u,List.lookup x ((k,v)::ks.zip vr)=some u/\Rep K H d u
  by_cases h:k=x
  ·subst h
   rw[if_pos rfl] at e'
   cases e'
   exact⟨v,by simp,r1⟩
  ·rw[if_neg h] at e'
   obtain⟨u,h1,h2⟩:=yw e' r2 (by simpa using hl)
   refine⟨u,?_,h2⟩
   rw[List.lookup_cons]
   have hb:(x==k)=false:=beq_eq_false_iff_ne.mpr (Ne.symm h)
   rw[hb];exact h1
theorem ww{x:Str}:∀{ks:List Str} {vs:List V},ks.contains x=false->(ks.zip vs).lookup x=none
 | [],_,_=>rfl
 | k::ks,[],_=>rfl
 | k::ks,v::vs,h=>by
  have h':(x==k||ks.contains x)=false:=by simpa [List.contains_cons] using h
  rw[Bool.or_eq_false_iff] at h'
  show List.lookup x ((k,v)::ks.zip vs)=none
  rw[List.lookup_cons,h'.1]
  exact ww h'.2
theorem Bp{x:Str}{e:D}{y:V}:∀{ks:List Str} {ds:LD} {vs:List V},ks.length=vs.length->ds.length=vs.length->∃vs',vc x y (ks.zip vs)=(putD ks ds x e).1.zip vs'/\(putD ks ds x e).1.length=vs'.length/\(i6 K H' ds vs->Rep K H' e y->i6 K H' (putD ks ds x e).2 vs')
 | [],[],[],_,_=>⟨[y],rfl,rfl,fun _ r=>⟨y,[],rfl,r,rfl⟩⟩
 | k::ks,d::ds,v::vs,h1,h2=>by
  obtain⟨vs',a,b,c⟩:=Bp (x:=x) (e:=e) (y:=y) (ks:=ks) (ds:=ds) (vs:=vs) (by simpa using h1) (by simpa using h2)
  by_cases h:k=x
  ·refine⟨y::vs,?_,?_,fun r re=>?_⟩
   ·show(if k=x then (k,y)::ks.zip vs else _)=(putD (k::ks) (d::ds) x e).1.zip _
    rw[if_pos h,putD,if_pos h];rfl
   ·rw[putD,if_pos h];simpa using h1
   ·rw[putD,if_pos h]
    obtain⟨u,r',q,r1,r2⟩:=r
    cases q
    exact⟨y,vs,rfl,re,r2⟩
  ·refine⟨v::vs',?_,?_,fun r re=>?_⟩
   ·show(if k=x then _ else (k,v)::vc x y (ks.zip vs))=(putD (k::ks) (d::ds) x e).1.zip _
    rw[if_neg h,putD,if_neg h,a];rfl
   ·rw[putD,if_neg h];simpa using b
   ·rw[putD,if_neg h]
    obtain⟨u,r',q,r1,r2⟩:=r
    cases q
    exact⟨_,vs',rfl,r1,c r2 re⟩
 | [],_::_,[],_,h=>by cases h
 | [],_,_::_,h,_=>by cases h
 | _::_,_,[],h,_=>by cases h
 | _::_,[],_::_,_,h=>by cases h
theorem qR{a C dx:Nat}{fs:List (Str×V)}{o:HO}(ha:H a=some (.ins C dx fs)):∀{d:D} {v:V},okN d=true->Rep K H d v->Rep K (upd H a o) d v:=by
 have m:sM [a] H:=fun b hb=>by rw[List.mem_singleton.mp hb,ha];trivial
 have s:tM [a] H (upd H a o):=fun b u n e=>by rw[aq fun z=>n (by rw[z];exact List.mem_singleton.mpr rfl)];exact e
 intro d v h r
 match d,h,r with
 | .obj 0 l ls es,h,⟨xs,e,⟨z,its,n,rv,q⟩,t⟩ =>
  have hla:l≠a:=fun z=>by rw[z,ha] at q;cases q
  exact⟨xs,e,⟨z,its,n,rv,by rw[aq hla];exact q⟩,i6.kq m s h t⟩
 | .obj (k+1) l ls es,h,_=>cases (show tB (.obj (k+1) l ls es)=true from h)
 | .rf a,h,_=>cases (show tB (.rf a)=true from h)
 | .non,_,r=>exact r
 | .bl _,_,r=>exact r
 | .int _,_,r=>exact r
 | .str _,_,r=>exact r
 | .tup ds,h,r=>exact Rep.kq m s (d:=.tup ds) h r
 | .lst ds,h,r=>exact Rep.kq m s (d:=.lst ds) h r
 | .fro ds,h,r=>exact Rep.kq m s (d:=.fro ds) h r
theorem mf{a C dx:Nat}{fs:List (Str×V)}{o:HO}(ha:H a=some (.ins C dx fs)):∀{ds:LD} {vs:List V},ds.all okN=true->i6 K H ds vs->i6 K (upd H a o) ds vs
 | [],_,_,r=>r
 | d::ds,_,h,r=>by
  rw[List.all_cons,Bool.and_eq_true] at h
  obtain⟨v,vr,e,r1,r2⟩:=r
  exact⟨v,vr,e,qR ha h.1 r1,mf ha h.2 r2⟩
theorem mE{d:D}(h:tB d=true):vn d=[]:=by cases d<;>first | rfl | cases h
end
section
variable{X:Cx}{pos:Pos}
theorem ci{a:Expr}{f:Str}{C:Nat}{g:R->OD}(c:wl X.K C)(n:q5 X.K C f)(ha:SE X a g)(hb:attributeBase a f X.env (eval a X.env)=eval a X.env:=by rfl):SE X (.Attribute a f pos) (vT (t4 C f) g):=(mJ ha hb).imp fun σ H Q ⟨ρ,d,er,e,q⟩=>by
 obtain⟨x,e1,e⟩:=e9 e
 refine⟨ρ,x,er,e1,fun v H1 s1 r1=>?_⟩
 cases x with
 | obj k a ks ds =>
  have e':(if k=C+2 then zR ks ds f else none)=some d:=e
  split at e'
  ·rename_i hk
   subst hk
   obtain⟨xs,ev,⟨hl,dx,hH⟩,t⟩:=r1
   obtain⟨u,h1,h2⟩:=yw e' t hl
   exact⟨a,C,dx,_,u,ev,hH,c,n,h1,q u H1 s1 h2⟩
  ·cases e'
 | _=>cases e
theorem dX{x f:Str}{value:Expr}{g:R->OD}{C:Nat}{px pos':Pos}(i:Nat)(c:wl X.K C)(n:q5 X.K C f)(he:SE X value g)(hN:X.N[i]?=some x:=by rfl)(hv:z8 X.env.scope x:=by first | exact Or.inl rfl | exact Or.inr (Or.inl rfl) | exact Or.inr (Or.inr rfl))
  (hd:(x==("__debug__" : Str))=false:=by decide) (hcd:(x==("__classdict__" : Str))=false:=by decide) (hs:swapsWith value (some (.Attribute (.Name x px) f pos')) pos.line X.env=pure false:=by rfl):MS X (.Assign [.Attribute (.Name x px) f pos'] value pos) (vD i C f g):=fun S =>
 (ql (pv i hN hv hd hcd) he hs).imp fun E σ H ⟨ρ,τ,o,er,m,e,q⟩=>by
  obtain⟨d,e1,e⟩:=e9 e
  refine⟨ρ,d,er.1,e1,fun y H1 s1 ry=>?_⟩
  split at e
  case h_2=>cases e
  case h_1 k a ks ds hat =>
  split at e
  case isFalse=>cases e
  case isTrue hc =>
  obtain⟨rfl,h1,h2,h3,h4,h5,h6⟩:=hc
  cases e
  obtain⟨v,hσ,rv⟩:=(er.mono s1).1.at hat
  obtain⟨xs,ev,⟨hl,dx,hH⟩,t⟩:=rv
  subst ev
  have hdl:ds.length=xs.length:=t.length
  refine⟨.ref a,hσ,a,C,dx,_,rfl,hH,c,n,?_,?_⟩
  ·rw[List.length_zip];omega
  have ma:sM [a] H1:=fun b hb=>by rw[List.mem_singleton.mp hb,hH];trivial
  generalize ho:HO.ins C dx (vc f y (ks.zip xs))=o'
  have kq:tM [a] H1 (upd H1 a o'):=fun b u nb eb=>by rw[aq fun z=>nb (by rw[z];exact List.mem_singleton.mpr rfl)];exact eb
  obtain⟨vs',p1,p2,p3⟩:=Bp (K:=X.K) (H':=upd H1 a o') (x:=f) (e:=d) (y:=y) (ks:=ks) (ds:=ds) (vs:=xs) hl hdl
  have rob:Rep X.K (upd H1 a o') (.obj (C+2) a (putD ks ds f d).1 (putD ks ds f d).2) (.ref a):=by
   refine⟨vs',rfl,⟨p2,dx,?_⟩,p3 (mf hH h5 t) (Rep.kq ma kq h1 ry)⟩
   rw[av,<- ho,p1]
  have hin:=CS h3
  have haS:a∈S:=hin a (List.mem_cons_self ..)
  have kqS:tM S H1 (upd H1 a o'):=kq.mono fun b hb=>by rw[List.mem_singleton.mp hb];exact haS
  have m1:=m.same s1
  have mS:sM S (upd H1 a o'):=fun b hb=>by
   by_cases hba:b=a
   ·rw[hba,av,<- ho];trivial
   ·rw[aq hba];exact m1 b hb
  exact q _ ((tM.of s1).trans kqS) mS σ (iy (er.mono s1) m1 kqS h2 hσ rob)
section
variable{pins:List (Addr×Obj)}{σ:L2.St}{H:Hp}{s:Shared}{a:Addr}{xs:List V}{its:List Value}{n:Nat}
theorem DT(I:L2.Inv X pins σ H s)(h:H a=some (.frz {cls:=.type "list",data:=.seq its.toArray n} (.own 0)))(r:l3 xs its)(z:xs.length<=sizeLine):L2.Inv X pins σ (upd H a (.lst xs)) s:=by
 have e:=(I.hok a _ h).1
 have:=I.write (t':=s.toks) (h':=s.heap) (o:=.lst xs) (x:=a) (e:=a) (by rw[h];trivial) (.inl rfl) (fun _ _ _ q=>q) ⟨_,e⟩ ⟨z,its,n,r,e⟩
 exact this
theorem A8(I:L2.Inv X pins σ H s)(h:H a=some (.lst xs)):∃(its:List Value) (n:Nat),l3 xs its/\xs.length<=sizeLine/\L2.Inv X pins σ (upd H a (.frz {cls:=.type "list",data:=.seq its.toArray n} (.own 0))) s:=by
 obtain⟨z,its,n,r,e⟩:=I.hok a _ h
 have:=I.write (t':=s.toks) (h':=s.heap) (o:=.frz {cls:=.type "list",data:=.seq its.toArray n} (.own 0)) (x:=a) (e:=a) (by rw[h];trivial) (.inl rfl) (fun _ _ _ q=>q) ⟨_,e⟩ ⟨e,⟨_,e⟩⟩
 exact⟨its,n,r,z,this⟩
end
end
section
variable{K:W.Frag}{H H':Hp}
theorem i6.kqf(kq:∀{d:D} {v:V},tB d=true->Rep K H d v->Rep K H' d v):∀{ds:LD} {vs:List V},m9 ds=true->i6 K H ds vs->i6 K H' ds vs
 | [],_,_,r=>r
 | d::ds,_,h,r=>by
  have h':(tB d&&m9 ds)=true:=h
  rw[Bool.and_eq_true] at h'
  obtain⟨v,vr,e,r1,r2⟩:=r
  exact⟨v,vr,e,kq h'.1 r1,i6.kqf kq h'.2 r2⟩
theorem gk{x:Str}{e e':D}{y:V}:∀{ks:List Str} {ds:LD} {vs:List V},zR ks ds x=some e->(ks.zip vs).lookup x=some y->i6 K H ds vs->ks.length=vs.length->m9 (putD ks ds x .non).2=true ->
  (∀{d:D} {v:V},tB d=true->Rep K H d v->Rep K H' d v)->Rep K H' e' y->(putD ks ds x e').1=ks/\i6 K H' (putD ks ds x e').2 vs
 | [],_,_,h,_,_,_,_,_,_=>by cases h
 | k::ks,[],_,h,_,_,_,_,_,_=>by cases h
 | k::ks,c::ds,vs,h,hl,r,hn,hb,kq,re=>by
  obtain⟨v,vr,rfl,r1,r2⟩:=r
  have h':(if k=x then some c else zR ks ds x)=some e:=h
  have hl':List.lookup x ((k,v)::ks.zip vr)=some y:=hl
  by_cases hx:k=x
  ·subst hx
   rw[putD,if_pos rfl] at hb ⊢
   have hb':(tB D.non&&m9 ds)=true:=hb
   rw[Bool.and_eq_true] at hb'
   have:v=y:=by simpa using hl'
   subst this
   exact⟨rfl,v,vr,rfl,re,i6.kqf kq hb'.2 r2⟩
  ·rw[if_neg hx] at h'
   rw[putD,if_neg hx] at hb ⊢
   have hb':(tB c&&m9 (putD ks ds x .non).2)=true:=hb
   rw[Bool.and_eq_true] at hb'
   have hxk:(x==k)=false:=beq_eq_false_iff_ne.mpr (Ne.symm hx)
   rw[List.lookup_cons,hxk] at hl'
   obtain⟨g1,g2⟩:=gk h' hl' r2 (by simpa using hn) hb'.2 kq re
   exact⟨by show k::(putD ks ds x e').1=_;rw[g1],v,vr,rfl,kq hb'.1 r1,g2⟩
end
theorem zf{i:Nat}{ρ:R}{d:D}(h:c6 i ρ=some d):ρ[i]?=some (some d):=by
 have h:ρ.getD i none=some d:=h
 rw[List.getD_eq_getElem?_getD] at h
 cases e:ρ[i]? with
 | none=>rw[e] at h;cases h
 | some o=>rw[e] at h;cases o with | none=>cases h | some c=>cases h;rfl
theorem zb{a b:D}(h1:vU a=true)(h2:vU b=true)(h:adr a=adr b):yF a=yF b:=by
 cases a with
 | obj k x ks ds =>
  cases b with
  | obj k' y ks' ds'=>exact(List.cons.inj h).1
  | _=>cases h2
 | _=>cases h1
section
variable{X:Cx}{pos:Pos}
theorem si{x f:Str}{value:Expr}{g:R->OD}{C:Nat}{px pf ap cp:Pos}(i:Nat)(c:wl X.K C)(n:q5 X.K C f)(he:SE X value g)(hN:X.N[i]?=some x:=by rfl)(hv:z8 X.env.scope x:=by first | exact Or.inl rfl | exact Or.inr (Or.inl rfl) | exact Or.inr (Or.inr rfl))
  (hd:(x==("__debug__" : Str))=false:=by decide) (hcd:(x==("__classdict__" : Str))=false:=by decide) (hb1:attributeBase (.Name x px) f X.env (eval (.Name x px) X.env)=eval (.Name x px) X.env:=by rfl)
  (hbase:attributeBase (.Attribute (.Name x px) f pf) "append" X.env (eval (.Attribute (.Name x px) f pf) X.env)=eval (.Attribute (.Name x px) f pf) X.env:=by rfl) (hst:noStar value=true:=by rfl)
  (hline:(ap.endLine==cp.line)=true:=by rfl) (hs:swapsWith (.Call (.Attribute (.Attribute (.Name x px) f pf) "append" ap) [value] [] cp) none pos.line X.env=pure false:=by rfl) :
  MS X (.Expr (.Call (.Attribute (.Attribute (.Name x px) f pf) "append" ap) [value] [] cp) pos) (HK i C f g):=by
 intro S pins s σ H E I ⟨ρ,τ,o,er,m,e,q⟩
 obtain⟨d,e1,e⟩:=e9 e
 split at e
 case h_2=>cases e
 case h_1 k a ks ds hat =>
 split at e
 case h_2=>cases e
 case h_1 l ls es hkey =>
 split at e
 case isFalse=>cases e
 case isTrue hc =>
 obtain⟨rfl,h1,h2,h3,h4,h5,h6,h7⟩:=hc
 cases e
 have hst1:=aE [] X.env hst
 obtain⟨v,hσ,rv⟩:=er.1.at hat
 obtain⟨xs,ev,⟨hl,dx,hH⟩,t⟩:=rv
 subst ev
 obtain⟨y,hlk,ry⟩:=yw hkey t hl
 obtain⟨ys,ey,⟨hz,its,nn,rv,hL⟩,ty⟩:=ry
 subst ey
 refine wpAny_Expr_any (wpAny_Call_method_late hbase ?_ hline rfl (sX ((mJ (pv i (pos:=px) hN hv hd hcd) hb1) pins s σ H (fun v H1=>v=.ref l/\H1=H) I ⟨.ref a,hσ,a,C,dx,_,.ref l,rfl,hH,c,n,hlk,rfl,rfl⟩) fun v s1 ⟨y,H1,I1,r1,ey,eH⟩=>?_)) I.quiet hs
 ·rw[hst1]
  rfl
 subst ey eH
 cases (show v=_ from r1)
 have eo:=(I1.hok l _ hL).1
 refine⟨"list","list.append",PySem.F.plainAttrs_list,PySem.F.slot_list_append,PySem.F.type_list_append,⟨_,eo,rfl⟩,fun b eb=>?_,?_⟩
 ·cases eb
  exact⟨_,eo,rfl⟩
 have hA:=(ac he af hst).1 cp pins s1 σ H1 (fun vs H2=>i7 H1 H2/\i6 X.K H2 [d] vs) I1 ⟨ρ,[d],er.1,by show(g ρ).bind _=_;rw[e1];rfl,fun vs H2 s2 r2=>⟨s2,r2⟩⟩
 rw[hst1] at hA ⊢
 refine Calls.callWith_builtin rfl (Calls.evalArgs_plain ?_)
 refine sX hA fun us s2 ⟨vs,H2,I2,r2,s12,rd⟩=>?_
 obtain⟨w,w',rfl,rw1,rw2⟩:=rd
 cases (show w'=[] from rw2)
 have hL2:=s12 _ _ hL
 have hH2:=s12 _ _ hH
 have I3:=DT I2 hL2 rv hz
 have hys:es.length=ys.length:=ty.length
 refine sX (jR pins s2 σ (upd H2 l (.lst ys)) (.ref l) [w] (.ref l) us (fun v H3=>H3=upd (upd H2 l (.lst ys)) l (.lst (ys++[w]))) I3 rfl r2 ⟨l,ys,w,rfl,rfl,av,by rw[<- hys,sizeLine_eq];omega,rfl⟩) fun v s3 ⟨v',H3,I4,_,e3⟩=>?_
 subst e3
 obtain⟨its',n',rv',hz',I5⟩:=A8 I4 av
 generalize hH5:upd (upd (upd H2 l (.lst ys)) l (.lst (ys++[w]))) l (.frz {cls:=.type "list",data:=.seq its'.toArray n' } (.own 0))=H5 at I5
 have k25:tM [l] H2 H5:=fun b u nb eb=>by
  have hbl:b≠l:=fun z=>nb (by rw[z];exact List.mem_singleton.mpr rfl)
  subst hH5
  rw[aq hbl,aq hbl,aq hbl];exact eb
 have hL5:H5 l=some (.frz {cls:=.type "list",data:=.seq its'.toArray n' } (.own 0)):=by subst hH5;exact av
 have ml:sM [l] H2:=fun b hb=>by rw[List.mem_singleton.mp hb,hL2];trivial
 have hla:a≠l:=fun z=>by rw[z,hL2] at hH2;cases hH2
 have hH5a:H5 a=some (.ins C dx (ks.zip xs)):=k25 a _ (fun z=>hla (List.mem_singleton.mp z)) hH2
 have kq:∀{d:D} {v:V},tB d=true->Rep X.K H2 d v->Rep X.K H5 d v:=fun hn r=>Rep.kq ml k25 hn r
 have rl:Rep X.K H5 (.obj 0 l ls (es++[d])) (.ref l):=by
  refine⟨ys++[w],rfl,⟨hz',its',n',rv',hL5⟩,?_⟩
  exact i6.append (i6.kq ml k25 h5 (ty.mono s12)) (i6.one (kq h1 rw1))
 obtain⟨g1,g2⟩:=gk hkey hlk (t.mono s12) hl h6 kq rl
 have rob:Rep X.K H5 (.obj (C+2) a (putD ks ds f (.obj 0 l ls (es++[d]))).1 (putD ks ds f (.obj 0 l ls (es++[d]))).2) (.ref a):=by
  rw[g1]
  exact⟨xs,rfl,⟨hl,dx,hH5a⟩,g2⟩
 have hlS:l∈S:=by simpa using h7
 have kqS:tM S H2 H5:=k25.mono fun b hb=>by rw[List.mem_singleton.mp hb];exact hlS
 have m2:=m.same s12
 have mS:sM S H5:=fun b hb=>by
  by_cases hbl:b=l
  ·rw[hbl,hL5];trivial
  ·have hm:=m2 b hb
   cases hb2:H2 b with
   | none=>rw[hb2] at hm;exact hm.elim
   | some u=>rw[k25 b u (fun z=>hbl (List.mem_singleton.mp z)) hb2];rw[hb2] at hm;exact hm
 exact⟨σ,H5,I5,q H5 ((tM.of s12).trans kqS) mS σ (iy (er.mono s12) m2 kqS h2 hσ rob)⟩
structure Ek (P:Program) (w:World) (K:W.Frag) (mg:Str->Option Value) (base:Heap) (k:Nat) (x:Str) (ps:List Str) (j:Nat) (G:LD->Option (D×D)):Prop where
 ex:∃f fd,k6 P w K mg base sR k f fd ps (CK K j G)/\mg x=some (.ref f)/\W.keepIn K (.ref f)=true/\Binds K fd ps []
structure v9 (P:Program) (w:World) (K:W.Frag) (mg:Str->Option Value) (base:Heap) (k C:Nat) (m:Str) (ps:List Str) (G:LD->Option (D×D)):Prop where
 ex:∃f fd,k6 P w K mg base sR k f fd ps (CK K 0 G)/\BU K C m f/\Binds K fd ps []
structure yC (P:Program) (w:World) (K:W.Frag) (mg:Str->Option Value) (base:Heap) (k C:Nat) (m:Str) (ps:List Str) (G:LD->OD):Prop where
 ex:∃f fd,k6 P w K mg base sR k f fd ps (tQ K G)/\BU K C m f/\Binds K fd ps []
theorem Ek.m{P:Program}{w:World}{K:W.Frag}{mg:Str->Option Value}{base:Heap}{k k':Nat}{x:Str}{ps:List Str}{j:Nat}{G:LD->Option (D×D)}(h:Ek P w K mg base k x ps j G)(hk:k<=k':=by decide):Ek P w K mg base k' x ps j G:=by
 obtain⟨f,fd,a,b⟩:=h.ex
 exact⟨f,fd,a.mono hk,b⟩
theorem v9.m{P:Program}{w:World}{K:W.Frag}{mg:Str->Option Value}{base:Heap}{k k' C:Nat}{x:Str}{ps:List Str}{G:LD->Option (D×D)}(h:v9 P w K mg base k C x ps G)(hk:k<=k':=by decide):v9 P w K mg base k' C x ps G:=by
 obtain⟨f,fd,a,b⟩:=h.ex
 exact⟨f,fd,a.mono hk,b⟩
theorem yC.m{P:Program}{w:World}{K:W.Frag}{mg:Str->Option Value}{base:Heap}{k k' C:Nat}{x:Str}{ps:List Str}{G:LD->OD}(h:yC P w K mg base k C x ps G)(hk:k<=k':=by decide):yC P w K mg base k' C x ps G:=by
 obtain⟨f,fd,a,b⟩:=h.ex
 exact⟨f,fd,a.mono hk,b⟩
theorem fM{P:Program}{w:World}{K:W.Frag}{mg:Str->Option Value}{base:Heap}{x qual:Str}{st:Stmt}{f:Addr}{fd:FuncData}{N ps:List Str}{k j:Nat}{g:MU}
  (Fn:tE K x qual st f fd) (Sc:c9 N ps (c5 st))
  (hb:∀(cdv:Value) (A:Around) (outer:List Env) (s:Shared) (H:Hp) (E:XK),sL k (A.deeper (envOfC qual (c5 st) s.heap.objs.size f cdv))->E7 (wt sR P w K mg base N qual (c5 st) f cdv A outer s H E).nox (sS st) g) :
  k6 P w K mg base sR (k+1) f fd ps (CK K j (Bi ps.length N.length j g)):=by
 refine Fn.ok Sc (fun vs H Q E h=>?_) (fun cdv A outer s H vs Q E hr h=>?_)
 ·obtain⟨ds,ob,d,o',r,hj,ho,e,_⟩:=h
  rw[<- r.length]
  unfold Bi at e
  split at e
  ·assumption
  ·cases e
 ·obtain⟨ds,ob,d,o',r,hj,ho,e,q⟩:=h
  unfold Bi at e
  split at e
  case isFalse=>cases e
  case isTrue hlen =>
  rw[hj,Option.bind_some,if_pos ho] at e
  obtain⟨mo,e1,e⟩:=e9 e
  obtain⟨v,hv,rv⟩:=r.get hj
  have ms:=xh rv
  refine⟨_,hb cdv A outer s H E hr (adr ob),yz N.length ds,_,mo,(yu r).t,ms,e1,fun H1 k1 m1=>?_⟩
  cases mo with
  | rt d' ρ =>
   intro v rv ob1
   obtain⟨ob',e2,e⟩:=e9 e
   split at e
   ·rename_i hc
    obtain⟨rfl,rfl⟩:d'=d/\ob'=o':=by simpa using e
    have hat:ρ[j]?=some (some ob'):=zf e2
    have rr:=ob1 j ob' hat hc.1
    have ha:yF ob'=yF ob:=zb hc.1 ho hc.2
    rw[ha] at rr
    exact q v H1 k1 m1 rv rr
   ·cases e
  | nx ρ =>
   intro σ' er'
   obtain⟨ob',e2,e⟩:=e9 e
   split at e
   ·rename_i hc
    obtain⟨rfl,rfl⟩:D.non=d/\ob'=o':=by simpa using e
    have hat:ρ[j]?=some (some ob'):=zf e2
    have rr:=(HA.of er'.1) j ob' hat hc.1
    have ha:yF ob'=yF ob:=zb hc.1 ho hc.2
    rw[ha] at rr
    exact q .non H1 k1 m1 rfl rr
   ·cases e
end
section
variable{X:Cx}{pos:Pos}
theorem Dl{K:W.Frag}{S:List Nat}{H H1 H2:Hp}{ρ:R}{σ τ:L2.St}{i:Nat}{ob o':D}(er:sY K H ρ τ σ)(m:sM S H)(hat:c6 i ρ=some ob)(ho:vU ob=true)(hn:tP i ρ=true)(hin:y9 S (adr ob)=true)(s1:i7 H H1)(kq:tM (adr ob) H1 H2)(m2:sM (adr ob) H2)
  (r:Rep K H2 o' (.ref (yF ob))):tM S H H2/\sM S H2/\sY K H2 (ρ.set i (some o')) τ σ:=by
 have sub:=CS hin
 have kS:tM S H1 H2:=kq.mono sub
 have m1:=m.same s1
 have mS:sM S H2:=fun b hb=>by
  by_cases hba:b∈adr ob
  ·exact m2 b hba
  ·have hm:=m1 b hb
   cases e:H1 b with
   | none=>rw[e] at hm;exact hm.elim
   | some u=>rw[kq b u hba e];rw[e] at hm;exact hm
 obtain⟨v,hσ,rv⟩:=(er.mono s1).1.at hat
 rw[ni ho rv] at hσ
 exact⟨(tM.of s1).trans kS,mS,iy (er.mono s1) m1 kS hn hσ r⟩
variable{x:Str}{e:Expr}{es:List Expr}{F:R->Option LD}{G:LD->Option (D×D)}{k j:Nat}{ps:List Str}{p:Pos}
theorem Fy{i:Nat}{F:R->Option LD}:∀ ρ ds ob,c4 (c6 i) F ρ=some ds->c6 i ρ=some ob->ds[0]?=some ob:=fun ρ ds ob h1 h2=>by
 obtain⟨d,e1,e2⟩:=e9 h1
 obtain⟨r,_,rfl⟩:=p9 e2
 rw[h2] at e1;cases e1;rfl
theorem BY{F:R->Option LD}{G:LD->Option (D×D)}{S:List Nat}{i C:Nat}{mn:Str}{ρ ρ':R}{σ τ:L2.St}{H:Hp}{d:D}{Q:VK}(er:sY X.K H ρ τ σ)(m:sM S H)(e:vy i C mn G F S ρ=some (d,ρ'))
  (q:∀v H',tM S H H'->sM S H'->Rep X.K H' d v->sY X.K H' ρ' τ σ->Q v H'):Gc C mn (CK X.K 0 G) [] E0 (JK i) (KC X.K F) σ H Q:=by
 obtain⟨ob,hat,z1⟩:=e9 e
 obtain⟨ds,e1,z2⟩:=e9 z1
 obtain⟨r,e2,z3⟩:=e9 z2
 clear e z1 z2
 match ob,z3 with
 | .obj kk a ks es',z3 =>
  have z4:(if kk=C+2/\ks.contains mn=false/\tP i ρ=true/\y9 S (adr (.obj kk a ks es'))=true then some (r.1,ρ.set i (some r.2)) else none)=some (d,ρ'):=z3
  split at z4
  case isFalse=>cases z4
  case isTrue hc =>
  obtain⟨rfl,hk,hn,hin⟩:=hc
  obtain⟨rfl,rfl⟩:r.1=d/\ρ.set i (some r.2)=ρ':=by simpa using z4
  obtain⟨v,hσ,rv⟩:=er.1.at hat
  have rv':=rv
  obtain⟨xs,ev,⟨hl,dx,hH⟩,t⟩:=rv
  subst ev
  refine⟨.ref a,hσ,a,dx,_,rfl,hH,ww hk,ρ,ds,er.1,e1,fun vs H1 s1 r1=>?_⟩
  show CK X.K 0 G (.ref a::(vs++[])) H1 Q E0
  rw[List.append_nil]
  refine⟨.obj (C+2) a ks es'::ds,_,r.1,r.2,⟨_,vs,rfl,rv'.mono s1,r1⟩,rfl,rfl,e2,fun v H2 kq m2 rd ro=>?_⟩
  obtain⟨aa,b,c⟩:=Dl er m hat rfl hn hin s1 kq m2 ro
  exact q v H2 aa b rd c
variable{C:Nat}{mn:Str}{apos:Pos}
theorem nv (i:Nat) (c:wl X.K C) (M:v9 X.prog X.w X.K X.mg X.base k C mn ps G) (hr:sL k X.A) (ha:SA X (e::es) F) {px pos':Pos} (hN:X.N[i]?=some x:=by rfl) (hv:z8 X.env.scope x:=by first | exact Or.inl rfl | exact Or.inr (Or.inl rfl) | exact Or.inr (Or.inr rfl))
    (hd:(x==("__debug__" : Str))=false:=by decide) (hcd:(x==("__classdict__" : Str))=false:=by decide) {pl:Sem Bool}
    (ht:eval (.Call (.Attribute (.Name x px) mn apos) (e::es) [] pos) X.env=(do
      let ov <- eval (.Name x px) X.env
      standAt apos.atName
      let (f,first) <- holding [ov] (getMethod ov mn pl)
      callWith pos f first (backTo pos (starEach (e::es) X.env)) (backToKw pos (keywordEach [] X.env))):=by rfl)
    (hs:swapsWith (.Call (.Attribute (.Name x px) mn apos) (e::es) [] pos) none pos'.line X.env=pure false:=by rfl):MS X (.Expr (.Call (.Attribute (.Name x px) mn apos) (e::es) [] pos) pos') (vQ (vy i C mn G F)):=by
  have hst:=ha.2.2
  rw[List.all_cons,Bool.and_eq_true] at hst
  have he:=aE es X.env hst.1
  have hpl:=bu (pos:=pos) (env:=X.env) hst.2
  obtain⟨f,fd,a,hm,bd⟩:=M.ex
  refine fun S=>(iv (kU (pv i hN hv hd hcd) c hm a hr bd .nil wk ha.1 he hpl ht) hs).imp fun E σ H ⟨ρ,τ,o,er,m,e,q⟩=>?_
  obtain⟨r,e1,rfl⟩:=p9 e
  exact BY er m e1 fun v H' kq mS _ er'=>q H' kq mS σ er'
theorem kx (i:Nat) (c:wl X.K C) (M:v9 X.prog X.w X.K X.mg X.base k C mn ps G) (hr:sL k X.A) (ha:SA X (e::es) F) {px pos':Pos} (hN:X.N[i]?=some x:=by rfl) (hv:z8 X.env.scope x:=by first | exact Or.inl rfl | exact Or.inr (Or.inl rfl) | exact Or.inr (Or.inr rfl))
    (hd:(x==("__debug__" : Str))=false:=by decide) (hcd:(x==("__classdict__" : Str))=false:=by decide) {pl:Sem Bool}
    (ht:eval (.Call (.Attribute (.Name x px) mn apos) (e::es) [] pos) X.env=(do
      let ov <- eval (.Name x px) X.env
      standAt apos.atName
      let (f,first) <- holding [ov] (getMethod ov mn pl)
      callWith pos f first (backTo pos (starEach (e::es) X.env)) (backToKw pos (keywordEach [] X.env))):=by rfl):MS X (.Return (some (.Call (.Attribute (.Name x px) mn apos) (e::es) [] pos)) pos') (Bh (vy i C mn G F)):=by
  have hst:=ha.2.2
  rw[List.all_cons,Bool.and_eq_true] at hst
  have he:=aE es X.env hst.1
  have hpl:=bu (pos:=pos) (env:=X.env) hst.2
  obtain⟨f,fd,a,hm,bd⟩:=M.ex
  refine fun S=>(iN (kU (pv i hN hv hd hcd) c hm a hr bd .nil wk ha.1 he hpl ht)).imp fun E σ H ⟨ρ,τ,o,er,m,e,q⟩=>?_
  obtain⟨r,e1,rfl⟩:=p9 e
  exact BY er m e1 fun v H' kq mS rd er'=>q H' kq mS v rd (HA.of er'.1)
theorem gp {a:Expr} {f:R->OD} {G:LD->OD} (c:wl X.K C) (M:yC X.prog X.w X.K X.mg X.base k C mn ps G) (hr:sL k X.A) (ha:SE X a f) {pl:Sem Bool}
    (ht:eval (.Call (.Attribute a mn apos) [] [] pos) X.env=(do
      let ov <- eval a X.env
      standAt apos.atName
      let (f,first) <- holding [ov] (getMethod ov mn pl)
      callWith pos f first (backTo pos (starEach [] X.env)) (backToKw pos (keywordEach [] X.env))):=by rfl):SE X (.Call (.Attribute a mn apos) [] [] pos) (C9 C mn G f c7):=by
  obtain⟨fa,fd,F,hm,bd⟩:=M.ex
  refine(iC ha c hm F hr bd .nil wk ht).imp fun σ H Q ⟨ρ,d,er,e,q⟩=>?_
  obtain⟨ob,e1,z1⟩:=e9 e
  obtain⟨ds,e2,z2⟩:=e9 z1
  cases e2
  refine⟨ρ,ob,er,e1,fun v H1 s1 r1=>?_⟩
  clear e z1
  match ob,z2,r1 with
  | .obj kk a ks es',z2,r1 =>
    have e:(if kk=C+2/\ks.contains mn=false then G [.obj kk a ks es'] else none)=some d:=z2
    split at e
    case isFalse=>cases e
    case isTrue hc =>
    obtain⟨rfl,hk⟩:=hc
    have r1':=r1
    obtain⟨xs,ev,⟨hl,dx,hH⟩,t⟩:=r1
    subst ev
    exact⟨a,dx,_,rfl,hH,ww hk,⟨[.obj (C+2) a ks es'],d,⟨_,[],rfl,r1',rfl⟩,e,fun u H2 s2 r2=>q u H2 (s1.trans s2) r2⟩⟩
end
theorem DK{N C:Nat}{f:Str}{g:MU}{ds:LD}{a l:Nat}{ob:D}(h:xn N C f g ds a l=some ob):∃ ρ ks es,g [a] (yz N (.obj (C+2) a [] []::ds))=some (.nx ρ)/\c6 0 ρ=some (.obj (C+2) a ks es)/\m9 es=true/\ks.length<100/\ob=.obj (C+2) a (putD ks es f (.obj 0 l [] [])).1 (putD ks es f (.obj 0 l [] [])).2:=by
 obtain⟨mo,e1,e⟩:=e9 h
 match mo,e1,e with
 | .rt d ρ,e1,e=>cases e
 | .nx ρ,e1,e =>
  have e':(match c6 0 ρ with | some (.obj k b ks es)=>if k=C+2/\b=a/\m9 es=true/\ks.length<100 then some (D.obj k b (putD ks es f (.obj 0 l [] [])).1 (putD ks es f (.obj 0 l [] [])).2) else none | _=>none)=some ob:=e
  cases hat:c6 0 ρ with
  | none=>rw[hat] at e';cases e'
  | some obx =>
   rw[hat] at e'
   cases obx with
   | obj kk b ks es =>
    dsimp only at e'
    split at e'
    case isFalse=>cases e'
    case isTrue hc =>
    obtain⟨rfl,rfl,hn,hk⟩:=hc
    cases e'
    exact⟨ρ,ks,es,e1,hat,hn,hk,rfl⟩
   | _=>cases e'
theorem Eo{N C:Nat}{f:Str}{g:MU}{ds:LD}{a l:Nat}{ob:D}(h:xn N C f g ds a l=some ob)(l':Nat):(xn N C f g ds a l').isSome=true:=by
 obtain⟨ρ,ks,es,e1,hat,hn,hk,_⟩:=DK h
 have:xn N C f g ds a l'=some (.obj (C+2) a (putD ks es f (.obj 0 l' [] [])).1 (putD ks es f (.obj 0 l' [] [])).2):=by
  show(g [a] (yz N (.obj (C+2) a [] []::ds))).bind _=_
  rw[e1,Option.bind_some]
  show(match c6 0 ρ with | some (.obj k b ks es)=>if k=C+2/\b=a/\m9 es=true/\ks.length<100 then some (D.obj k b (putD ks es f (.obj 0 l' [] [])).1 (putD ks es f (.obj 0 l' [] [])).2) else none | _=>none)=_
  rw[hat]
  exact if_pos ⟨rfl,rfl,hn,hk⟩
 rw[this];rfl
theorem jV{es:LD}(h:m9 es=true):es.flatMap vn=[]:=by
 induction es with
 | nil=>rfl
 | cons d es ih =>
  have h':(tB d&&m9 es)=true:=h
  rw[Bool.and_eq_true] at h'
  show vn d++es.flatMap vn=[]
  rw[mE h'.1,ih h'.2];rfl
theorem lP{x:Str}{l:Nat}:∀{ks:List Str} {ds:LD},m9 ds=true->(putD ks ds x (.obj 0 l [] [])).2.flatMap vn=[l]
 | [],ds,h=>by
  have:(putD [] ds x (.obj 0 l [] [])).2=ds++[.obj 0 l [] []]:=by cases ds<;>rfl
  rw[this,List.flatMap_append,jV h];rfl
 | k::ks,[],h=>rfl
 | k::ks,c::ds,h=>by
  have h':(tB c&&m9 ds)=true:=h
  rw[Bool.and_eq_true] at h'
  by_cases hx:k=x
  ·rw[putD,if_pos hx]
   show [l]++ds.flatMap vn=[l]
   rw[jV h'.2];rfl
  ·rw[putD,if_neg hx]
   show vn c++(putD ks ds x (.obj 0 l [] [])).2.flatMap vn=[l]
   rw[mE h'.1,lP h'.2];rfl
theorem Gv{N C:Nat}{f:Str}{g:MU}{ds:LD}{a l:Nat}{ob:D}(h:xn N C f g ds a l=some ob):adr ob=[a,l]:=by
 obtain⟨ρ,ks,es,_,_,hn,_,rfl⟩:=DK h
 show a::_=_
 rw[lP hn]
section
variable{X:Cx}{pos:Pos}{C:Nat}{f:Str}
def MW(K:W.Frag)(C i:Nat)(f:Str)(g:MU):TS:=fun E σ H=>∃ ρ τ a ρ' ks es,sY K H ρ τ σ/\sM [a] H/\g [a] ρ=some (.nx ρ')/\c6 i ρ'=some (.obj (C+2) a ks es)/\m9 es=true/\ks.length<100 /\
 ∀ σ' l H',H l=none->tM [a] H H'->Rep K H' (.obj (C+2) a (putD ks es f (.obj 0 l [] [])).1 (putD ks es f (.obj 0 l [] [])).2) (.ref a)->E.nx σ' H'
def IB(X:Cx)(C i:Nat)(f:Str)(sts:List Stmt)(g:MU):Prop:=PSs X sts (MW X.K C i f g)
theorem G0{x:Str}{px pos' p1:Pos}(i:Nat)(c:wl X.K C)(n:q5 X.K C f)(hN:X.N[i]?=some x:=by rfl)(hv:z8 X.env.scope x:=by first | exact Or.inl rfl | exact Or.inr (Or.inl rfl) | exact Or.inr (Or.inr rfl))
  (hd:(x==("__debug__" : Str))=false:=by decide) (hcd:(x==("__classdict__" : Str))=false:=by decide) (hs:swapsWith (.List [] p1) (some (.Attribute (.Name x px) f pos')) pos.line X.env=pure false:=by rfl):IB X C i f [.Assign [.Attribute (.Name x px) f pos'] (.List [] p1) pos] vq:=by
 refine dA (t:=MW X.K C i f vq) ?_
 intro pins s σ H E I ⟨ρ,τ,a,ρ',ks,es,er,m,e,hat,hn,hk,q⟩
 cases e
 obtain⟨v,hσ,rv⟩:=er.1.at hat
 obtain⟨xs,ev,⟨hl,dx,hH⟩,t⟩:=rv
 subst ev
 have hdl:es.length=xs.length:=t.length
 refine sX ((ql (pv i hN hv hd hcd) (mZ (pos:=p1) zy) hs) pins s σ H {E with nx:=fun σ' H'=>∃l,H l=none/\H'=upd (upd H l (.lst [])) a (.ins C dx (vc f (.ref l) (ks.zip xs)))} I ?_) fun fl s1 z=>?_
 ·refine⟨Nat.zero_le _,fun l hl0=>⟨.ref a,hσ,a,C,dx,ks.zip xs,rfl,?_,c,n,?_,l,hl0,rfl⟩⟩
  ·rw[aq (tw hH hl0)];exact hH
  ·rw[List.length_zip];omega
 cases fl with
 | next =>
  obtain⟨σ',H',I',l,hl0,rfl⟩:=z
  have hal:a≠l:=tw hH hl0
  have hLl:(upd (upd H l (.lst [])) a (.ins C dx (vc f (.ref l) (ks.zip xs)))) l=some (.lst []):=by rw[aq (Ne.symm hal),av]
  obtain⟨its,nn,rv',hz',I5⟩:=A8 I' hLl
  generalize hH5:upd (upd (upd H l (.lst [])) a (.ins C dx (vc f (.ref l) (ks.zip xs)))) l (.frz {cls:=.type "list",data:=.seq its.toArray nn} (.own 0))=H5 at I5
  have kq:tM [a] H H5:=fun b u nb eb=>by
   have hba:b≠a:=fun z=>nb (by rw[z];exact List.mem_singleton.mpr rfl)
   have hbl:b≠l:=tw eb hl0
   subst hH5
   rw[aq hbl,aq hba,aq hbl];exact eb
  have h5l:H5 l=some (.frz {cls:=.type "list",data:=.seq its.toArray nn} (.own 0)):=by subst hH5;exact av
  have h5a:H5 a=some (.ins C dx (vc f (.ref l) (ks.zip xs))):=by subst hH5;rw[aq hal,av]
  obtain⟨vs',p1',p2,p3⟩:=Bp (K:=X.K) (H':=H5) (x:=f) (e:=.obj 0 l [] []) (y:=.ref l) (ks:=ks) (ds:=es) (vs:=xs) hl hdl
  refine⟨σ',H5,I5,q σ' l H5 hl0 kq ⟨vs',rfl,⟨p2,dx,?_⟩,p3 (i6.kq m kq hn t) ⟨[],rfl,⟨hz',its,nn,rv',h5l⟩,rfl⟩⟩⟩
  rw[h5a,p1']
 | brk=>exact z
 | cont=>exact z
 | ret v=>exact z
theorem Bf{st:Stmt}{sts:List Stmt}{u g:MU}{i:Nat}(h1:MS X st u)(h2:IB X C i f sts g):IB X C i f (st::sts) (um u g):=by
 intro pins s σ H E I ⟨ρ,τ,a,ρ',ks,es,er,m,e,hat,hn,hk,q⟩
 obtain⟨o1,e1,e⟩:=e9 e
 cases o1 with
 | rt d ρ2=>cases e
 | nx ρ2 =>
  refine wpAny_execs_cons (sX (h1 [a] pins s σ H {E with nx:=MW X.K C i f g E} I ⟨ρ,τ,.nx ρ2,er,m,e1,fun H1 k1 m1 σ2 er2=>⟨ρ2,τ,a,ρ',ks,es,er2,m1,e,hat,hn,hk,fun σ' l H' hl kq r=>q σ' l H' ?_ (k1.trans kq) r⟩⟩) fun fl s1 z=>?_)
  ·cases hb:H l with
   | none=>rfl
   | some b =>
    by_cases hla:l=a
    ·have:=m1 a (List.mem_singleton.mpr rfl)
     rw[<- hla,hl] at this
     exact this.elim
    ·rw[k1 l b (fun z=>hla (List.mem_singleton.mp z)) hb] at hl
     cases hl
  cases fl with
  | next =>
   obtain⟨σ',H',I',z⟩:=z
   exact h2 pins s1 σ' H' E I' z
  | brk=>exact z
  | cont=>exact z
  | ret v=>exact z
def K9(K:W.Frag)(n N C:Nat)(f:Str)(g:MU):Sp:=fun vs H Q _=>∃a ds,ds.length+1=n/\i6 K H (.obj (C+2) a [] []::ds) vs/\(∀l,(xn N C f g ds a l).isSome=true)/\∀l ob H',H l=none->xn N C f g ds a l=some ob->tM [a] H H'->Rep K H' ob (.ref a)->Q .non H'
theorem HI{P:Program}{w:World}{K:W.Frag}{mg:Str->Option Value}{base:Heap}{x qual:Str}{st:Stmt}{fa:Addr}{fd:FuncData}{N ps:List Str}{k:Nat}{g:MU}
  (Fn:tE K x qual st fa fd) (Sc:c9 N ps (c5 st)) 
  (hb:∀(cdv:Value) (A:Around) (outer:List Env) (s:Shared) (H:Hp) (E:XK),sL k (A.deeper (envOfC qual (c5 st) s.heap.objs.size fa cdv))->IB (wt sR P w K mg base N qual (c5 st) fa cdv A outer s H E).nox C 0 f (sS st) g) :
  k6 P w K mg base sR (k+1) fa fd ps (K9 K ps.length N.length C f g):=by
 refine Fn.ok Sc (fun vs H Q E ⟨a,ds,hn,r,_⟩=>by rw[<- hn,<- r.length];rfl) (fun cdv A outer s H vs Q E hr h=>?_)
 obtain⟨a,ds,_,r,hs,q⟩:=h
 have h0:=hs 0
 obtain⟨ob0,e0⟩:=Option.isSome_iff_exists.mp h0
 obtain⟨mo,e1,e⟩:=e9 (show(g [a] (yz N.length (.obj (C+2) a [] []::ds))).bind _=some ob0 from e0)
 match mo,e1,e with
 | .nx ρ',e1,e =>
  have e':(match c6 0 ρ' with | some (.obj k b ks es)=>if k=C+2/\b=a/\m9 es=true/\ks.length<100 then some (D.obj k b (putD ks es f (.obj 0 0 [] [])).1 (putD ks es f (.obj 0 0 [] [])).2) else none | _=>none)=some ob0:=e
  cases hat:c6 0 ρ' with
  | none=>rw[hat] at e';cases e'
  | some obx =>
   rw[hat] at e'
   cases obx with
   | obj kk b ks es =>
    dsimp only at e'
    split at e'
    case isFalse=>cases e'
    case isTrue hc =>
    obtain⟨rfl,rfl,hn,hk⟩:=hc
    obtain⟨v,vr,ev,r1,r2⟩:=r
    have r':i6 K H (.obj (C+2) b [] []::ds) vs:=⟨v,vr,ev,r1,r2⟩
    have ms:sM [b] H:=fun c hcb=>by
     have:=xh r1 c
     exact this (by simpa [adr] using hcb)
    refine⟨_,hb cdv A outer s H E hr,yz N.length (.obj (C+2) b [] []::ds),_,b,ρ',ks,es,(yu r').t,ms,e1,hat,hn,hk,fun σ' l H' hl kq rr=>?_⟩
    refine q l _ H' hl ?_ kq rr
    show(g [b] (yz N.length (.obj (C+2) b [] []::ds))).bind _=_
    rw[e1,Option.bind_some]
    show(match c6 0 ρ' with | some (.obj k b2 ks es)=>if k=C+2/\b2=b/\m9 es=true/\ks.length<100 then some (D.obj k b2 (putD ks es f (.obj 0 l [] [])).1 (putD ks es f (.obj 0 l [] [])).2) else none | _=>none)=_
    rw[hat]
    exact if_pos ⟨rfl,rfl,hn,hk⟩
   | _=>cases e'
 | .rt d ρ',e1,e=>cases e
end
theorem wL(ns:List Int):∀j,j<=ns.length->preSum (fun i=>ns.getD i 0) j=(ns.take j).sum
 | 0,_=>rfl
 | j+1,h=>by
  show preSum (fun i=>ns.getD i 0) j+ns.getD j 0=_
  have hj:j<ns.length:=h
  have e:ns.take (j+1)=ns.take j++[ns[j]]:=by rw[List.take_succ_eq_append_getElem hj]
  rw[wL ns j (by omega),e,List.sum_append,List.getD_eq_getElem?_getD]
  simp[hj]
theorem FA:∀ns:List Int,ns.all (fun n=>decide (0<=n/\n<1099511627776))=true->0<=ns.sum/\ns.sum<=1099511627776*(ns.length:Int)
 | [],_=>⟨by decide,by decide⟩
 | n::ns,h=>by
  rw[List.all_cons,Bool.and_eq_true] at h
  obtain⟨a,b⟩:=FA ns h.2
  have:=of_decide_eq_true h.1
  rw[List.sum_cons,List.length_cons]
  constructor<;>omega
section
variable{X:Cx}
theorem rG{e:Expr}{f:R->OD}{p pos:Pos}(hc:X.calm=true)(hm:X.mg "sum" = none)(he:SE X e f)(hg:Gl X "sum":=by rfl)(hst:noStar e=true:=by rfl) :
  SE X (.Call (.Name "sum" p) [e] [] pos) (c8 Hc (c4 f c7)):=by
 intro pins s σ H Q I ⟨ρ,d,er,eq,q⟩
 obtain⟨ds,e1,e2⟩:=e9 eq
 have hst1:=aE [] X.env hst
 have PAA:=(ac he af hst).1 pos pins s σ H (fun vs H2=>i7 H H2/\i6 X.K H2 ds vs) I ⟨ρ,ds,er,e1,fun vs H2 s2 r2=>⟨s2,r2⟩⟩
 refine Call_ (eY I hg hm boot_sum ?_)
 rw[hst1] at PAA ⊢
 refine Calls.callWith_builtin rfl (Calls.evalArgs_plain ?_)
 refine sX PAA fun us s1 ⟨vs,H1,I1,r1,s01,rp⟩=>?_
 match ds,e2 with
 | [.lst es],e2 =>
  obtain⟨ns,e3,e4⟩:=e9 (show(intsOf es).bind _=some d from e2)
  split at e4
  case isFalse=>cases e4
  case isTrue hn =>
  cases e4
  obtain⟨v,r',rfl,⟨a,xs,rfl,ha,rx⟩,rr⟩:=rp
  cases (show r'=[] from rr)
  obtain⟨u,rfl,ru⟩:=r1.one
  cases (show u=_ from ru)
  obtain⟨_,its,n,rv,hl,eo⟩:=I1.lstM ha
  have hI:=vals_ints e3 rx rv
  have hlen:its.length=ns.length:=IntsAre.length hI
  have hh:=I1.ok.hd hc
  have hL:s1.heap.IsList a its.toArray:=⟨_,eo,rfl,n,rfl⟩
  have hlt:a<s1.heap.objs.size:=Heap.lt_size eo
  refine call_sum_walk (wpAny_pyIter_list hL ?_)
  generalize hIe:s1.heap.objs.size=J at hlt
  have hne:a≠J:=Nat.ne_of_lt hlt
  refine⟨J,[J,a],[J],its.toArray.size,_,_,fun i=>ns.getD i 0,rfl,Walks.list (prog:=X.prog) (w:=X.w) (A:=X.A.in1) (show X.A.in1.handled=none from hh) J a hne its.toArray,?_,fun b hb=>?_,fun i v hv=>?_,fun j hj=>?_,fun h' tk t' k=>?_⟩
  ·refine⟨by rw[<- hIe];exact⟨_,Heap.get?_push_size _ rfl,rfl,rfl⟩,hL.at fun o e=>Heap.get?_push_of_some _ e⟩
  ·rw[Heap.size_push,hIe]
   rcases List.mem_cons.mp hb with rfl | hb
   ·exact Nat.lt_succ_self _
   ·rw[List.mem_singleton.mp hb];exact Nat.lt_succ_of_lt hlt
  ·exact IntsAre.int_at hI i v (by simpa using hv)
  ·have hj':j<ns.length:=by rw[List.size_toArray,hlen] at hj;exact hj
   have hall:=hn.2
   have b1:ns.getD j 0∈ns:=by rw[List.getD_eq_getElem?_getD];simp[hj']
   have b2:=of_decide_eq_true (List.all_eq_true.mp hall _ b1)
   have b3:=FA (ns.take (j+1)) (List.all_eq_true.mpr fun x hx=>List.all_eq_true.mp hall x (List.mem_of_mem_take hx))
   rw[wL ns (j+1) (by omega)]
   have b4:(ns.take (j+1)).length<=1000:=by rw[List.length_take];omega
   refine⟨⟨by show -(2 ^ 63)<=ns.getD j 0;omega,by show ns.getD j 0<2 ^ 63;omega⟩,by omega,by omega⟩
  ·have hs:preSum (fun i=>ns.getD i 0) its.toArray.size=ns.sum:=by
    rw[List.size_toArray,hlen,wL ns _ (Nat.le_refl _),List.take_length]
   rw[hs]
   refine⟨.int ns.sum,H1,I1.kept fun b o eb=>k b o (fun z=>?_) (Heap.get?_push_of_some _ eb),⟨_,rfl⟩,q _ H1 s01 rfl⟩
   rw[List.mem_singleton.mp z,<- hIe] at eb
   exact absurd (Heap.lt_size eb) (Nat.lt_irrefl _)
end
def E5(K:W.Frag)(C:Addr)(m q:Str)(st:Stmt)(f:Addr):Prop:=∃(oc:Value) (od an:Option Addr) (sl:Array (Option Value)) (kV dc pm cd ct:Value),W.findIn K (.ref C) m=some (some (.ref f))/\W.isFn K (.ref f)=true /\
 K.lookup f=some ⟨oc,od,.func (W.fnOf m q (uc st) (sS st) (c5 st) .none kV dc pm an cd ct),sl⟩/\W.codeIn K cd q=true/\W.keepIn K (.ref f)=true
theorem GL{K:W.Frag}{C:Addr}{m q:Str}{st:Stmt}{f:Addr}(h:E5 K C m q st f):∃fd,tE K m q st f fd/\BU K C m f:=by
 obtain⟨oc,od,an,sl,kV,dc,pm,cd,ct,a,i,l,c,k⟩:=h
 exact⟨_,qf l c k,a,i,k⟩
theorem fn5_mk{K:W.Frag}{C:Addr}{m q:Str}{st:Stmt}{f:Addr}{oc:Value}{od an:Option Addr}{sl:Array (Option Value)}{kV dc pm cd ct:Value}(a:W.findIn K (.ref C) m=some (some (.ref f)))(i:W.isFn K (.ref f)=true)
  (l:K.lookup f=some ⟨oc,od,.func (W.fnOf m q (uc st) (sS st) (c5 st) .none kV dc pm an cd ct),sl⟩) (c:W.codeIn K cd q=true) (k:W.keepIn K (.ref f)=true):E5 K C m q st f:=⟨oc,od,an,sl,kV,dc,pm,cd,ct,a,i,l,c,k⟩
end HW
namespace HW
open PySem
def Bl(A:List Nat):OD->Bool
 | some (.obj _ a _ es)=>(a::es.flatMap vn).all (fun x=>!A.contains x)&&es.all okN
 | some d=>tB d
 | none=>true
def uF(i:Nat)(A:List Nat)(ρ:R):Bool:=(ρ.set i none).all (Bl A)
def yg(i:Nat)(G:LD->Option (D×D))(F:R->Option LD)(S:List Nat)(ρ:R):Option (D×R):=(c6 i ρ).bind fun ob=>(F ρ).bind fun ds=>(G ds).bind fun r =>
 if vU ob=true/\uF i (adr ob) ρ=true/\y9 S (adr ob)=true then some (r.1,ρ.set i (some r.2)) else none
def y3(i:Nat)(C:Nat)(m:Str)(G:LD->Option (D×D))(F:R->Option LD)(S:List Nat)(ρ:R):Option (D×R):=(c6 i ρ).bind fun ob=>(F ρ).bind fun ds=>(G (ob::ds)).bind fun r =>
 match ob with
 | .obj k a ks es=>if k=C+2/\ks.contains m=false/\uF i (a::es.flatMap vn) ρ=true/\y9 S (a::es.flatMap vn)=true then some (r.1,ρ.set i (some r.2)) else none
 | _=>none
def Cj(i j:Nat)(mk:LD->Nat->Nat->OD)(ds ds':LD)(w:MU)(ρ:R)(r:D):Prop:=∀a l a' l',[a,l,a',l'].Nodup->∃ob ob' ρ',mk ds a l=some ob/\mk ds' a' l'=some ob'/\w [a,l,a',l'] ((ρ.set i (some ob)).set j (some ob'))=some (.rt r ρ')
def Aq(i j:Nat)(mk:LD->Nat->Nat->OD)(F F':R->Option LD)(w:MU):R->Option Out:=fun ρ=>(F ρ).bind fun ds=>(F' ρ).bind fun ds'=>open Classical in
 if h:i<ρ.length/\j<ρ.length/\∃r,Cj i j mk ds ds' w ρ r then some (.rt h.2.2.choose) else none
theorem Cj.uniq{i j:Nat}{mk:LD->Nat->Nat->OD}{ds ds':LD}{w:MU}{ρ:R}{r r':D}(h:Cj i j mk ds ds' w ρ r)(h':Cj i j mk ds ds' w ρ r'):r=r':=by
 obtain⟨ob,ob',ρ1,e1,e2,e3⟩:=h 0 1 2 3 (by decide)
 obtain⟨pb,pb',ρ2,f1,f2,f3⟩:=h' 0 1 2 3 (by decide)
 rw[e1] at f1;cases f1
 rw[e2] at f2;cases f2
 rw[e3] at f3
 exact(MO.rt.inj (Option.some.inj f3)).1
theorem FY{i j:Nat}{mk:LD->Nat->Nat->OD}{F F':R->Option LD}{w:MU}{ρ:R}{ds ds':LD}{r:D}(h1:F ρ=some ds)(h1':F' ρ=some ds')(hi:i<ρ.length)(hj:j<ρ.length)(h2:Cj i j mk ds ds' w ρ r):Aq i j mk F F' w ρ=some (.rt r):=by
 unfold Aq
 have q:i<ρ.length/\j<ρ.length/\∃r,Cj i j mk ds ds' w ρ r:=⟨hi,hj,r,h2⟩
 rw[h1,Option.bind_some,h1',Option.bind_some,dif_pos q]
 exact congrArg (fun x=>some (Out.rt x)) (Cj.uniq q.2.2.choose_spec h2)
theorem Fo{i j:Nat}{mk:LD->Nat->Nat->OD}{F F':R->Option LD}{w:MU}{ρ:R}{o:Out}(h:Aq i j mk F F' w ρ=some o):∃ds ds' r,F ρ=some ds/\F' ρ=some ds'/\i<ρ.length/\j<ρ.length/\o=.rt r/\Cj i j mk ds ds' w ρ r:=by
 unfold Aq at h
 cases e:F ρ with
 | none=>rw[e] at h;cases h
 | some ds =>
  rw[e,Option.bind_some] at h
  cases e':F' ρ with
  | none=>rw[e'] at h;cases h
  | some ds' =>
   rw[e',Option.bind_some] at h
   split at h
   ·rename_i q
    cases h
    exact⟨ds,ds',_,rfl,rfl,q.1,q.2.1,rfl,q.2.2.choose_spec⟩
   ·cases h
def EF(j i C:Nat)(x:Str):MU:=fun S ρ=>match c6 i ρ with
 | some (.obj k a ks ds)=>match zR ks ds x with
  | some (.obj 0 l ls es)=>match es.getLast? with
   | some d=>if k=C+2/\i≠j/\j<ρ.length/\tP i ρ=true/\y9 S (a::ds.flatMap vn)=true/\m9 es=true/\m9 (putD ks ds x .non).2=true/\S.contains l=true then some (.nx ((ρ.set i (some (.obj k a (putD ks ds x (.obj 0 l ls es.dropLast)).1 (putD ks ds x (.obj 0 l ls es.dropLast)).2))).set j (some d))) else none
   | none=>none
  | _=>none
 | _=>none
mutual
def nof:D->Bool
 | .tup xs=>nofs xs
 | .lst xs=>nofs xs
 | .fro _=>false
 | .obj ..=>false
 | .rf ..=>false
 | _=>true
def nofs:LD->Bool
 | []=>true
 | x::xs=>nof x&&nofs xs
end
def wC(i C:Nat)(x:Str)(F:R->OD):R->OD:=fun ρ=>match c6 i ρ with
 | some (.obj k a ks ds)=>match zR ks ds x with
  | some (.obj 0 l ls es)=>if k=C+2/\tP i ρ=true/\m9 es=true/\m9 (putD ks ds x .non).2=true then (F (ρ.set i (some (.obj k a (putD ks ds x (.fro es)).1 (putD ks ds x (.fro es)).2)))).bind fun d=>if nof d then some d else none else none
  | _=>none
 | _=>none
def Ea(f:R->OD):R->Option LD:=fun ρ=>(f ρ).bind fun x=>match x with
 | .fro es=>some es
 | _=>none
end HW
namespace HW
open PySem PySem.Spec PyProof.Rows L2
section
variable{K:W.Frag}{H H' H1 H2:Hp}{A S:List Nat}
theorem so(m:sM A H)(s:tM A H H'):∀{d:D} {v:V},okN d=true->(∀b∈vn d,b∉A)->Rep K H d v->Rep K H' d v:=by
 intro d v h hA r
 match d,h,hA,r with
 | .obj 0 l ls es,h,hA,⟨xs,e,⟨z,its,n,rv,q⟩,t⟩=>exact⟨xs,e,⟨z,its,n,rv,s _ _ (hA l (List.mem_singleton.mpr rfl)) q⟩,i6.kq m s h t⟩
 | .obj (k+1) l ls es,h,_,_=>cases (show tB (.obj (k+1) l ls es)=true from h)
 | .rf a,h,_,_=>cases (show tB (.rf a)=true from h)
 | .non,_,_,r=>exact r
 | .bl _,_,_,r=>exact r
 | .int _,_,_,r=>exact r
 | .str _,_,_,r=>exact r
 | .tup ds,h,_,r=>exact Rep.kq m s (d:=.tup ds) h r
 | .lst ds,h,_,r=>exact Rep.kq m s (d:=.lst ds) h r
 | .fro ds,h,_,r=>exact Rep.kq m s (d:=.fro ds) h r
theorem nS(m:sM A H)(s:tM A H H'):∀{ds:LD} {vs:List V},ds.all okN=true->(∀b∈ds.flatMap vn,b∉A)->i6 K H ds vs->i6 K H' ds vs
 | [],_,_,_,r=>r
 | d::ds,_,h,hA,r=>by
  rw[List.all_cons,Bool.and_eq_true] at h
  rw[List.flatMap_cons] at hA
  obtain⟨v,vr,e,r1,r2⟩:=r
  exact⟨v,vr,e,so m s h.1 (fun b hb=>hA b (List.mem_append_left _ hb)) r1,nS m s h.2 (fun b hb=>hA b (List.mem_append_right _ hb)) r2⟩
theorem Rep.sep(m:sM A H)(s:tM A H H'):∀{d:D} {v:V},Bl A (some d)=true->Rep K H d v->Rep K H' d v:=by
 intro d v h r
 cases d with
 | obj k a ks es =>
  have h':((a::es.flatMap vn).all (fun x=>!A.contains x)&&es.all okN)=true:=h
  rw[Bool.and_eq_true] at h'
  have hA:∀b∈a::es.flatMap vn,b∉A:=fun b hb z=>by
   have:=List.all_eq_true.mp h'.1 b hb
   simp at this
   exact this z
  obtain⟨xs,e,q,t⟩:=r
  exact⟨xs,e,q.to fun u e' _=>s a u (hA a (.head _)) e',nS m s h'.2 (fun b hb=>hA b (.tail _ hb)) t⟩
 | _=>exact Rep.kq m s h r
theorem qH{ρ:R}{σ:L2.St}{i:Nat}{ob':D}{v:V}(er:sZ K H ρ σ)(m:sM A H)(s:tM A H H')(hn:uF i A ρ=true)(hv:σ[i]?=some (some v))(r:Rep K H' ob' v):sZ K H' (ρ.set i (some ob')) σ:=by
 refine⟨by rw[List.length_set];exact er.1,fun j d h=>?_⟩
 by_cases hj:j=i
 ·subst hj
  have hl:j<ρ.length:=by have:=(List.getElem?_eq_some_iff.mp h).1;simpa using this
  rw[List.getElem?_set_self hl] at h
  cases h
  exact⟨v,hv,r⟩
 ·rw[List.getElem?_set_ne (Ne.symm hj)] at h
  obtain⟨u,h1,h2⟩:=er.2 j d h
  have hd:Bl A (some d)=true:=List.all_eq_true.mp hn _ (List.mem_of_getElem? (i:=j) (by rw[List.getElem?_set_ne (Ne.symm hj)];exact h))
  exact⟨u,h1,Rep.sep m s hd h2⟩
theorem yJ{ρ:R}{σ τ:L2.St}{i:Nat}{ob o':D}(er:sY K H ρ τ σ)(m:sM S H)(hat:c6 i ρ=some ob)(ho:vU ob=true)(hn:uF i (adr ob) ρ=true)(hin:y9 S (adr ob)=true)(s1:i7 H H1)(kq:tM (adr ob) H1 H2)(m2:sM (adr ob) H2)
  (r:Rep K H2 o' (.ref (yF ob))):tM S H H2/\sM S H2/\sY K H2 (ρ.set i (some o')) τ σ:=by
 have sub:=CS hin
 have m1:=m.same s1
 have mS:sM S H2:=fun b hb=>by
  by_cases hba:b∈adr ob
  ·exact m2 b hba
  ·have hm:=m1 b hb
   cases e:H1 b with
   | none=>rw[e] at hm;exact hm.elim
   | some u=>rw[kq b u hba e];rw[e] at hm;exact hm
 obtain⟨v,hσ,rv⟩:=(er.mono s1).1.at hat
 have mo:=xh rv
 rw[ni ho rv] at hσ
 exact⟨(tM.of s1).trans (kq.mono sub),mS,qH (er.mono s1).1 mo kq hn hσ r,by rw[List.length_set];exact er.2⟩
end
section
variable{X:Cx}{pos:Pos}
theorem pz{F:R->Option LD}{G:LD->Option (D×D)}{S:List Nat}{i j:Nat}{ρ ρ':R}{σ τ:L2.St}{H:Hp}{d:D}{Q:VK}(hF:∀ ρ ds ob,F ρ=some ds->c6 i ρ=some ob->ds[j]?=some ob)(er:sY X.K H ρ τ σ)(m:sM S H)(e:yg i G F S ρ=some (d,ρ'))
  (q:∀v H',tM S H H'->sM S H'->Rep X.K H' d v->sY X.K H' ρ' τ σ->Q v H'):Id (CK X.K j G) [] E0 (KC X.K F) σ H Q:=by
 obtain⟨ob,hat,e⟩:=e9 e
 obtain⟨ds,e1,e⟩:=e9 e
 obtain⟨r,e2,e⟩:=e9 e
 split at e
 case isFalse=>cases e
 case isTrue hc =>
 obtain⟨ho,hn,hin⟩:=hc
 obtain⟨rfl,rfl⟩:r.1=d/\ρ.set i (some r.2)=ρ':=by simpa using e
 refine⟨ρ,ds,er.1,e1,fun vs H1 s1 r1=>?_⟩
 show CK X.K j G (vs++[]) H1 Q E0
 rw[List.append_nil]
 refine⟨ds,ob,r.1,r.2,r1,hF ρ ds ob e1 hat,ho,e2,fun v H2 kq m2 rd ro=>?_⟩
 obtain⟨a,b,c⟩:=yJ er m hat ho hn hin s1 kq m2 ro
 exact q v H2 a b rd c
variable{x:Str}{e:Expr}{es:List Expr}{F:R->Option LD}{G:LD->Option (D×D)}{k j:Nat}{ps:List Str}{p:Pos}
theorem iX(i:Nat)(C:Ek X.prog X.w X.K X.mg X.base k x ps j G)(hr:sL k X.A)(ha:SA X (e::es) F)(hF:∀ ρ ds ob,F ρ=some ds->c6 i ρ=some ob->ds[j]?=some ob){pos':Pos}(hg:Gl X x:=by rfl)(hdb:(x==("__debug__" : Str))=false:=by decide)
  (hs:swapsWith (.Call (.Name x p) (e::es) [] pos) none pos'.line X.env=pure false:=by rfl):MS X (.Expr (.Call (.Name x p) (e::es) [] pos) pos') (vQ (yg i G F)):=by
 have hst:=ha.2.2
 rw[List.all_cons,Bool.and_eq_true] at hst
 have he:=aE es X.env hst.1
 have hpl:=bu (pos:=pos) (env:=X.env) hst.2
 obtain⟨f,fd,a,m,kp,bd⟩:=C.ex
 refine fun S=>(iv (kY a hr hg m kp bd .nil wk ha.1 hdb he hpl) hs).imp fun E σ H ⟨ρ,τ,o,er,m,e,q⟩=>?_
 obtain⟨r,e1,rfl⟩:=p9 e
 exact pz hF er m e1 fun v H' kq mS _ er'=>q H' kq mS σ er'
theorem FX{F:R->Option LD}{G:LD->Option (D×D)}{S:List Nat}{i C:Nat}{mn:Str}{ρ ρ':R}{σ τ:L2.St}{H:Hp}{d:D}(er:sY X.K H ρ τ σ)(m:sM S H)(e:y3 i C mn G F S ρ=some (d,ρ')) :
  ∃a dx fs ds,σ[i]?=some (some (.ref a))/\H a=some (.ins C dx fs)/\fs.lookup mn=none/\F ρ=some ds/\∀(vs:List V) (H1:Hp) (Q:VK),i7 H H1->i6 X.K H1 ds vs->(∀v H',tM S H H'->sM S H'->Rep X.K H' d v->sY X.K H' ρ' τ σ->Q v H')->CK X.K 0 G (.ref a::vs) H1 Q E0:=by
 obtain⟨ob,hat,z1⟩:=e9 e
 obtain⟨ds,e1,z2⟩:=e9 z1
 obtain⟨r,e2,z3⟩:=e9 z2
 clear e z1 z2
 match ob,hat,e2,z3 with
 | .obj kk a ks es',hat,e2,z3 =>
  have z4:(if kk=C+2/\ks.contains mn=false/\uF i (a::es'.flatMap vn) ρ=true/\y9 S (a::es'.flatMap vn)=true then some (r.1,ρ.set i (some r.2)) else none)=some (d,ρ'):=z3
  split at z4
  case isFalse=>cases z4
  case isTrue hc =>
  obtain⟨rfl,hk,hn,hin⟩:=hc
  obtain⟨rfl,rfl⟩:r.1=d/\ρ.set i (some r.2)=ρ':=by simpa using z4
  obtain⟨v,hσ,rv⟩:=er.1.at hat
  have rv':=rv
  obtain⟨xs,ev,⟨hl,dx,hH⟩,t⟩:=rv
  subst ev
  refine⟨a,dx,_,ds,hσ,hH,ww hk,e1,fun vs H1 Q s1 r1 q=>?_⟩
  refine⟨.obj (C+2) a ks es'::ds,_,r.1,r.2,⟨_,vs,rfl,rv'.mono s1,r1⟩,rfl,rfl,e2,fun v H2 kq m2 rd ro=>?_⟩
  obtain⟨aa,b,c⟩:=yJ er m hat rfl hn hin s1 kq m2 ro
  exact q v H2 aa b rd c
variable{C:Nat}{mn:Str}{apos:Pos}
theorem sK (i:Nat) (c:wl X.K C) (M:v9 X.prog X.w X.K X.mg X.base k C mn ps G) (hr:sL k X.A) (ha:SA X (e::es) F) {px pos':Pos} (hN:X.N[i]?=some x:=by rfl) (hv:z8 X.env.scope x:=by first | exact Or.inl rfl | exact Or.inr (Or.inl rfl) | exact Or.inr (Or.inr rfl))
    (hd:(x==("__debug__" : Str))=false:=by decide) (hcd:(x==("__classdict__" : Str))=false:=by decide) {pl:Sem Bool}
    (ht:eval (.Call (.Attribute (.Name x px) mn apos) (e::es) [] pos) X.env=(do
      let ov <- eval (.Name x px) X.env
      standAt apos.atName
      let (f,first) <- holding [ov] (getMethod ov mn pl)
      callWith pos f first (backTo pos (starEach (e::es) X.env)) (backToKw pos (keywordEach [] X.env))):=by rfl)
    (hs:swapsWith (.Call (.Attribute (.Name x px) mn apos) (e::es) [] pos) none pos'.line X.env=pure false:=by rfl):MS X (.Expr (.Call (.Attribute (.Name x px) mn apos) (e::es) [] pos) pos') (vQ (y3 i C mn G F)):=by
  have hst:=ha.2.2
  rw[List.all_cons,Bool.and_eq_true] at hst
  have he:=aE es X.env hst.1
  have hpl:=bu (pos:=pos) (env:=X.env) hst.2
  obtain⟨f,fd,a,hm,bd⟩:=M.ex
  refine fun S=>(iv (kU (pv i hN hv hd hcd) c hm a hr bd .nil wk ha.1 he hpl ht) hs).imp fun E σ H ⟨ρ,τ,o,er,m,e,q⟩=>?_
  obtain⟨r,e1,rfl⟩:=p9 e
  obtain⟨a',dx,fs,ds,hσ,hH,hk,e2,run⟩:=FX er m e1
  exact⟨.ref a',hσ,a',dx,_,rfl,hH,hk,ρ,ds,er.1,e2,fun vs H1 s1 r1=>by
    show CK X.K 0 G (.ref a'::(vs++[])) H1 _ E0
    rw[List.append_nil]
    exact run vs H1 _ s1 r1 fun v H' kq mS _ er'=>q H' kq mS σ er'⟩
theorem qx (i:Nat) (c:wl X.K C) (M:v9 X.prog X.w X.K X.mg X.base k C mn ps G) (hr:sL k X.A) {px pos':Pos} (hN:X.N[i]?=some x:=by rfl) (hv:z8 X.env.scope x:=by first | exact Or.inl rfl | exact Or.inr (Or.inl rfl) | exact Or.inr (Or.inr rfl))
    (hd:(x==("__debug__" : Str))=false:=by decide) (hcd:(x==("__classdict__" : Str))=false:=by decide) {pl:Sem Bool}
    (ht:eval (.Call (.Attribute (.Name x px) mn apos) [] [] pos) X.env=(do
      let ov <- eval (.Name x px) X.env
      standAt apos.atName
      let (f,first) <- holding [ov] (getMethod ov mn pl)
      callWith pos f first (backTo pos (starEach [] X.env)) (backToKw pos (keywordEach [] X.env))):=by rfl)
    (hs:swapsWith (.Call (.Attribute (.Name x px) mn apos) [] [] pos) none pos'.line X.env=pure false:=by rfl):MS X (.Expr (.Call (.Attribute (.Name x px) mn apos) [] [] pos) pos') (vQ (y3 i C mn G c7)):=by
  obtain⟨f,fd,a,hm,bd⟩:=M.ex
  refine fun S=>(iv (iC (pv i hN hv hd hcd) c hm a hr bd .nil wk ht) hs).imp fun E σ H ⟨ρ,τ,o,er,m,e,q⟩=>?_
  obtain⟨r,e1,rfl⟩:=p9 e
  obtain⟨a',dx,fs,ds,hσ,hH,hk,e2,run⟩:=FX er m e1
  cases e2
  exact⟨.ref a',hσ,a',dx,_,rfl,hH,hk,run [] H _ (i7.refl _) rfl fun v H' kq mS _ er'=>q H' kq mS σ er'⟩
theorem qu{st:Stmt}:MS X st (fun _ _=>none):=fun S _ _ _ _ _ _ ⟨_,_,_,_,_,e,_⟩=>by cases e
theorem DZ{C:Nat}{f:Str}{g:MU}{F:R->Option LD}{ps:List Str}{NI:Nat}{ρ:R}{σ:L2.St}{H:Hp}{ds:LD}{Q:VK}(hn:ds.length+1=ps.length)(er:sZ X.K H ρ σ)(e1:F ρ=some ds)(hw:∀a l,a≠l->∃ob,xn NI C f g ds a l=some ob)
  (q:∀a l ob H',H a=none->H l=none->a≠l->xn NI C f g ds a l=some ob->i7 H H'->Rep X.K H' ob (.ref a)->sM [a,l] H'->Q (.ref a) H'):Ic C (K9 X.K ps.length NI C f g) [] E0 (KC X.K F) σ H Q:=by
 refine⟨ρ,ds,er,e1,fun vs H1 s1 r1 a dx ha0 hdx hne=>?_⟩
 rw[List.append_nil]
 have sn:i7 H1 (upd (upd H1 dx (.own a)) a (.ins C dx [])):=(aQ hdx _).trans (aQ (by rw[aq (Ne.symm hne)];exact ha0) _)
 have hHa:H a=none:=by
  cases hb:H a with
  | none=>rfl
  | some u=>rw[s1 a u hb] at ha0;cases ha0
 refine⟨a,ds,hn,⟨.ref a,vs,rfl,⟨[],rfl,⟨rfl,dx,av⟩,rfl⟩,r1.mono sn⟩,fun l=>?_,fun l ob H' hl hmk kq ro=>⟨rfl,q a l ob H' hHa ?_ ?_ hmk ?_ ro ?_⟩⟩
 ·obtain⟨ob,h1⟩:=hw a (a+1) (by omega)
  exact Eo h1 l
 ·cases hb:H l with
  | none=>rfl
  | some u=>rw[sn l u (s1 l u hb)] at hl;cases hl
 ·intro z;rw[<- z,av] at hl;cases hl
 ·intro b u hb
  have hba:b≠a:=fun z=>by rw[z,hHa] at hb;cases hb
  exact kq b u (fun z=>hba (List.mem_singleton.mp z)) (sn b u (s1 b u hb))
 ·have:=xh ro
  rw[Gv hmk] at this
  exact this
end
section
variable{X:Cx}{pins pins0:List (Addr×Obj)}{σ σ0:L2.St}{H H0:Hp}{s s0:Shared}{l:Addr}{its:List Value}{n:Nat}{xs:List V}
theorem Ng(I:L2.Inv X pins σ H s)(h:H l=some (.frz {cls:=.type "list",data:=.seq its.toArray n} (.own 0)))(r:l3 xs its)(z:xs.length<=sizeLine):L2.Inv X pins σ (upd H l (.frz {cls:=.type "list",data:=.seq its.toArray n} (.lst xs))) s:=by
 have e:=(I.hok l _ h).1
 exact I.write (t':=s.toks) (h':=s.heap) (o:=.frz {cls:=.type "list",data:=.seq its.toArray n} (.lst xs)) (x:=l) (e:=l) (by rw[h];trivial) (.inl rfl) (fun _ _ _ q=>q) ⟨_,e⟩ ⟨e,z,its,n,r,e⟩
theorem Jd{o:Obj}(I0:L2.Inv X pins0 σ0 H0 s0)(h0:H0 l=some (.frz o (.own 0)))(I:L2.Inv X pins σ H s)(h:H l=some (.frz o (.lst xs))):L2.Inv X pins σ (upd H l (.frz o (.own 0))) s:=by
 have e:=(I.hok l _ h).1
 have ne:∀{b:Addr},H b=none->b≠l:=fun {b} hb z=>by rw[z,h] at hb;cases hb
 refine⟨I.ok,I.os,I.bare,⟨I.base.keep,I.base.slot,fun b ob q nn hx=>?_,I.base.there,fun b ys q=>?_,fun b ob u ny q=>?_,fun b ps d q=>?_⟩,I.loc,I.cell,?_,fun y c hc=>?_,fun p hp=>?_,fun b u q=>?_,I.len⟩
 ·have z:=I.base.free b ob q nn hx
  rw[aq (ne z)];exact z
 ·have z:=I.base.tups b ys q
  rw[aq fun w=>by rw[w,h] at z;cases z];exact z
 ·have z:=I.base.frzs b ob u ny q
  rw[aq fun w=>?_]
  ·exact z
  ·have z0:=I0.base.frzs b ob u ny q
   rw[w,h0] at z0
   cases z0
   exact ny 0 rfl
 ·have z:=I.base.tbls b ps d q
  rw[aq fun w=>by rw[w,h] at z;cases z];exact z
 ·rw[aq (ne I.free)];exact I.free
 ·rw[aq (ne (I.freeC y c hc))];exact I.freeC y c hc
 ·obtain⟨p1,p2,p3⟩:=I.pin p hp
  exact⟨p1,by rw[aq (ne p2)];exact p2,p3⟩
 ·by_cases hb:b=l
  ·subst hb
   rw[av] at q
   cases q
   exact⟨e,_,e⟩
  ·rw[aq hb] at q
   refine(I.hok b u q).stay (fun c v _ r=>r) (fun c r=>?_) (fun c ys r=>?_) fun c _ _ r=>?_
   ·rw[aq fun w=>by rw[w,h] at r;cases r];exact r
   ·rw[aq fun w=>by rw[w,h] at r;cases r];exact r
   ·rw[aq fun w=>by rw[w,h] at r;cases r];exact r
end
section
variable{K:W.Frag}{H:Hp}{l:Addr}{o:Obj}{ys:List V}{u:HO}
mutual
theorem Rep.nof(h:H l=some (.frz o (.lst ys))):∀{d:D} {v:V},nof d=true->Rep K H d v->Rep K (upd H l u) d v
 | .non,_,_,r=>r
 | .bl _,_,_,r=>r
 | .int _,_,_,r=>r
 | .str _,_,_,r=>r
 | .tup ds,_,hn,r=>by
  obtain⟨a,xs,e,q,t⟩:=r
  refine⟨a,xs,e,?_,i6.nof h hn t⟩
  rcases q with (q | ⟨o',q⟩) | q
  ·exact .inl (.inl (by rw[aq fun w=>by rw[w,h] at q;cases q];exact q))
  ·exact .inl (.inr ⟨o',by rw[aq fun w=>by rw[w,h] at q;cases q];exact q⟩)
  ·exact .inr q
 | .lst ds,_,hn,r=>by
  obtain⟨a,xs,e,q,t⟩:=r
  exact⟨a,xs,e,by rw[aq fun w=>by rw[w,h] at q;cases q];exact q,i6.nof h hn t⟩
 | .fro _,_,hn,_=>by cases hn
 | .obj ..,_,hn,_=>by cases hn
 | .rf ..,_,hn,_=>by cases hn
theorem i6.nof(h:H l=some (.frz o (.lst ys))):∀{ds:LD} {vs:List V},nofs ds=true->i6 K H ds vs->i6 K (upd H l u) ds vs
 | [],_,_,r=>r
 | d::ds,_,hn,r=>by
  have hn':(HW.nof d&&nofs ds)=true:=hn
  rw[Bool.and_eq_true] at hn'
  obtain⟨v,vr,e,r1,r2⟩:=r
  exact⟨v,vr,e,Rep.nof h hn'.1 r1,i6.nof h hn'.2 r2⟩
end
theorem i6.dropLast:∀{ds:LD} {vs:List V},i6 K H ds vs->i6 K H ds.dropLast vs.dropLast
 | [],_,r=>by cases (show _=[] from r);rfl
 | [d],_,r=>by
  obtain⟨v,vr,rfl,_,r2⟩:=r
  cases (show vr=[] from r2);rfl
 | d::d'::ds,_,r=>by
  obtain⟨v,vr,rfl,r1,r2⟩:=r
  obtain⟨v',vr',e,r3,r4⟩:=r2
  subst e
  exact⟨v,_,rfl,r1,i6.dropLast (ds:=d'::ds) (vs:=v'::vr') ⟨v',vr',rfl,r3,r4⟩⟩
theorem jS:∀{ds:LD},m9 ds=true->m9 ds.dropLast=true
 | [],h=>h
 | [d],_=>rfl
 | d::d'::ds,h=>by
  have h':(tB d&&m9 (d'::ds))=true:=h
  rw[Bool.and_eq_true] at h'
  show(tB d&&m9 (d'::ds).dropLast)=true
  rw[h'.1,jS h'.2];rfl
theorem lJ{d:D}:∀{ds:LD},m9 ds=true->d∈ds->tB d=true
 | e::ds,h,hd=>by
  have h':(tB e&&m9 ds)=true:=h
  rw[Bool.and_eq_true] at h'
  rcases List.mem_cons.mp hd with rfl | hd
  ·exact h'.1
  ·exact lJ h'.2 hd
end
section
variable{X:Cx}{pos:Pos}
theorem sh{tg a:Expr}{f:R->OD}(ha:SE X a f):SI X tg a (Ea f):=(mU ha).imp fun σ H W ⟨ρ,ds,er,e,q⟩=>by
 obtain⟨x,e1,e⟩:=e9 e
 refine⟨ρ,x,er,e1,fun v H1 s1 r1=>?_⟩
 cases x with
 | fro xs =>
  cases e
  obtain⟨a,vs,ev,hq,t⟩:=r1
  exact .inl ⟨a,ev,.inl ⟨⟨vs,hq⟩,q _ H1 s1 (hZ hq t)⟩⟩
 | _=>cases e
theorem kR{e:Expr}{F:R->OD}{x:Str}(i C:Nat)(h:SE X e F):SE X e (wC i C x F):=by
 intro pins s σ H Q I ⟨ρ,d,er,e0,q⟩
 unfold wC at e0
 split at e0
 case h_2=>cases e0
 case h_1 k a ks ds hat =>
 split at e0
 case h_2=>cases e0
 case h_1 l ls es hkey =>
 split at e0
 case isFalse=>cases e0
 case isTrue hc =>
 obtain⟨rfl,h2,h5,h6⟩:=hc
 obtain⟨d',eF,e0⟩:=e9 e0
 split at e0
 case isFalse=>cases e0
 case isTrue hnf =>
 cases e0
 obtain⟨v,hσ,rv⟩:=er.at hat
 obtain⟨xs,ev,⟨hl,dx,hH⟩,t⟩:=rv
 subst ev
 obtain⟨y,hlk,ry⟩:=yw hkey t hl
 obtain⟨ys,ey,⟨hz,its,nn,rv,hL⟩,ty⟩:=ry
 subst ey
 have I1:=Ng I hL rv hz
 have k01:tM [l] H (upd H l (.frz {cls:=.type "list",data:=.seq its.toArray nn} (.lst ys))):=fun b u nb eb=>by rw[aq fun z=>nb (by rw[z];exact List.mem_singleton.mpr rfl)];exact eb
 have ml:sM [l] H:=fun b hb=>by rw[List.mem_singleton.mp hb,hL];trivial
 have hla:a≠l:=fun z=>by rw[z,hL] at hH;cases hH
 have kq:∀{d:D} {v:V},tB d=true->Rep X.K H d v->Rep X.K (upd H l (.frz {cls:=.type "list",data:=.seq its.toArray nn} (.lst ys))) d v:=fun hn r=>Rep.kq ml k01 hn r
 have rf:Rep X.K (upd H l (.frz {cls:=.type "list",data:=.seq its.toArray nn} (.lst ys))) (.fro es) (.ref l):=⟨l,ys,rfl,.inl (.inr ⟨_,av⟩),i6.kq ml k01 h5 ty⟩
 obtain⟨g1,g2⟩:=gk hkey hlk t hl h6 kq rf
 have rob:Rep X.K (upd H l (.frz {cls:=.type "list",data:=.seq its.toArray nn} (.lst ys))) (.obj (C+2) a (putD ks ds x (.fro es)).1 (putD ks ds x (.fro es)).2) (.ref a):=by
  rw[g1]
  exact⟨xs,rfl,⟨hl,dx,by rw[aq hla];exact hH⟩,g2⟩
 refine sX (h pins s σ _ (fun v H2=>i7 (upd H l (.frz {cls:=.type "list",data:=.seq its.toArray nn} (.lst ys))) H2/\Rep X.K H2 d v) I1 ⟨_,d,pT er ml k01 h2 hσ rob,eF,fun v H' s1 r1=>⟨s1,r1⟩⟩) fun u s1 ⟨v,H2,I2,ru,s12,rd⟩=>?_
 have hL2:=s12 _ _ av
 refine⟨v,_,Jd I hL I2 hL2,ru,q v _ (fun b w hb=>?_) (Rep.nof hL2 hnf rd)⟩
 by_cases hbl:b=l
 ·subst hbl
  rw[hL] at hb
  cases hb
  exact av
 ·rw[aq hbl]
  exact s12 b w (by rw[aq hbl];exact hb)
theorem pS{x y f:Str}{C:Nat}{px py pf ap cp:Pos}(j i:Nat)(hNd:X.N.Nodup)(c:wl X.K C)(n:q5 X.K C f)(hN:X.N[i]?=some x:=by rfl)(hv:z8 X.env.scope x:=by first | exact Or.inl rfl | exact Or.inr (Or.inl rfl) | exact Or.inr (Or.inr rfl))(hj:X.N[j]?=some y:=by rfl)(hy:Loc X.env.scope y:=by first | exact Or.inl rfl | exact Or.inr rfl)
  (hd:(x==("__debug__" : Str))=false:=by decide) (hcd:(x==("__classdict__" : Str))=false:=by decide) (hb1:attributeBase (.Name x px) f X.env (eval (.Name x px) X.env)=eval (.Name x px) X.env:=by rfl)
  (hbase:attributeBase (.Attribute (.Name x px) f pf) "pop" X.env (eval (.Attribute (.Name x px) f pf) X.env)=eval (.Attribute (.Name x px) f pf) X.env:=by rfl)
  (hline:(ap.endLine==cp.line)=true:=by rfl) (hs:swapsWith (.Call (.Attribute (.Attribute (.Name x px) f pf) "pop" ap) [] [] cp) (some (.Name y py)) pos.line X.env=pure false:=by rfl) (hf:X.fn y=true\/X.env.scope.names.lookup y=some .local:=by first | exact .inl rfl | exact .inr rfl) :
  MS X (.Assign [.Name y py] (.Call (.Attribute (.Attribute (.Name x px) f pf) "pop" ap) [] [] cp) pos) (EF j i C f):=by
 intro S pins s σ H E I ⟨ρ,τ,o,er,m,e,q⟩
 unfold EF at e
 split at e
 case h_2=>cases e
 case h_1 k a ks ds hat =>
 split at e
 case h_2=>cases e
 case h_1 l ls es hkey =>
 split at e
 case h_2=>cases e
 case h_1 d hlast =>
 split at e
 case isFalse=>cases e
 case isTrue hc =>
 obtain⟨rfl,hij,hjl,h2,h3,h5,h6,h7⟩:=hc
 cases e
 obtain⟨v,hσ,rv⟩:=er.1.at hat
 obtain⟨xs,ev,⟨hl,dx,hH⟩,t⟩:=rv
 subst ev
 obtain⟨y0,hlk,ry⟩:=yw hkey t hl
 obtain⟨ys,ey,⟨hz,its,nn,rv,hL⟩,ty⟩:=ry
 subst ey
 have hlen:es.length=ys.length:=ty.length
 rw[List.getLast?_eq_getElem?] at hlast
 obtain⟨w,hw,rw1⟩:=ty.get hlast
 rw[hlen] at hw
 refine wpAny_Assign_Name (sX (Q:=EP X pins σ fun v H5=>v=w/\tM S H H5/\sM S H5/\Rep X.K H5 d w/\sY X.K H5 (ρ.set i (some (.obj (C+2) a (putD ks ds f (.obj 0 l ls es.dropLast)).1 (putD ks ds f (.obj 0 l ls es.dropLast)).2))) τ σ) ?_ fun v s1 ⟨y',H5,I5,r5,ey,kq,mS,rd,er5⟩=>?_) hs
 ·refine wpAny_Call_method_late hbase rfl hline rfl (sX ((mJ (pv i (pos:=px) hN hv hd hcd) hb1) pins s σ H (fun v H1=>v=.ref l/\H1=H) I ⟨.ref a,hσ,a,C,dx,_,.ref l,rfl,hH,c,n,hlk,rfl,rfl⟩) fun v s1 ⟨y',H1,I1,r1,ey,eH⟩=>?_)
  subst ey eH
  cases (show v=_ from r1)
  have eo:=(I1.hok l _ hL).1
  refine⟨"list","list.pop",PySem.F.plainAttrs_list,PySem.F.slot_list_pop,PySem.F.type_list_pop,⟨_,eo,rfl⟩,fun b eb=>?_,?_⟩
  ·cases eb
   exact⟨_,eo,rfl⟩
  refine Calls.callWith_builtin rfl (evalArgs_nil3 ?_)
  have I3:=DT I1 hL rv hz
  refine sX (rF pins s1 σ (upd H1 l (.lst ys)) (.ref l) [] (.ref l) [] (fun v H3=>v=w/\H3=upd (upd H1 l (.lst ys)) l (.lst ys.dropLast)) I3 rfl .nil ⟨l,ys,w,rfl,rfl,av,hw,rfl,rfl⟩) fun v s3 ⟨v',H3,I4,r4,e4,e3⟩=>?_
  subst e3 e4
  obtain⟨its',n',rv',hz',I5⟩:=A8 I4 av
  generalize hH5:upd (upd (upd H1 l (.lst ys)) l (.lst ys.dropLast)) l (.frz {cls:=.type "list",data:=.seq its'.toArray n' } (.own 0))=H5 at I5
  have k25:tM [l] H1 H5:=fun b u nb eb=>by
   have hbl:b≠l:=fun z=>nb (by rw[z];exact List.mem_singleton.mpr rfl)
   subst hH5
   rw[aq hbl,aq hbl,aq hbl];exact eb
  have hL5:H5 l=some (.frz {cls:=.type "list",data:=.seq its'.toArray n' } (.own 0)):=by subst hH5;exact av
  have ml:sM [l] H1:=fun b hb=>by rw[List.mem_singleton.mp hb,hL];trivial
  have hla:a≠l:=fun z=>by rw[z,hL] at hH;cases hH
  have hH5a:H5 a=some (.ins C dx (ks.zip xs)):=k25 a _ (fun z=>hla (List.mem_singleton.mp z)) hH
  have kq:∀{d:D} {v:V},tB d=true->Rep X.K H1 d v->Rep X.K H5 d v:=fun hn r=>Rep.kq ml k25 hn r
  have rl:Rep X.K H5 (.obj 0 l ls es.dropLast) (.ref l):=⟨ys.dropLast,rfl,⟨hz',its',n',rv',hL5⟩,i6.kq ml k25 (jS h5) ty.dropLast⟩
  obtain⟨g1,g2⟩:=gk hkey hlk t hl h6 kq rl
  have rob:Rep X.K H5 (.obj (C+2) a (putD ks ds f (.obj 0 l ls es.dropLast)).1 (putD ks ds f (.obj 0 l ls es.dropLast)).2) (.ref a):=by
   rw[g1]
   exact⟨xs,rfl,⟨hl,dx,hH5a⟩,g2⟩
  have hlS:l∈S:=by simpa using h7
  have kqS:tM S H1 H5:=k25.mono fun b hb=>by rw[List.mem_singleton.mp hb];exact hlS
  have mS:sM S H5:=fun b hb=>by
   by_cases hbl:b=l
   ·rw[hbl,hL5];trivial
   ·have hm:=m b hb
    cases hb2:H1 b with
    | none=>rw[hb2] at hm;exact hm.elim
    | some u=>rw[k25 b u (fun z=>hbl (List.mem_singleton.mp z)) hb2];rw[hb2] at hm;exact hm
  exact⟨_,H5,I5,r4,rfl,kqS,mS,kq (lJ h5 (List.mem_of_getElem? hlast)) rw1,iy er m kqS h2 hσ rob⟩
 ·subst ey
  refine yh I5 hNd hj hy r5 (fun s2 I6=>⟨_,H5,I6,q H5 kq mS _ (er5.set (by simpa using hjl) rd)⟩) hf
end
end HW
namespace HW
open PySem
def JZ(i:Nat)(mk:LD->Nat->Nat->OD)(ds:LD)(w:MU)(S:List Nat)(ρ:R)(r:D):Prop:=∀a l,a≠l->a∉S->l∉S->∃ob ρ',mk ds a l=some ob/\w (a::l::S) (ρ.set i (some ob))=some (.rt r ρ')
theorem Ke(S:List Nat):∃a l:Nat,a≠l/\a∉S/\l∉S:=by
 have h:∀S:List Nat,∃n,∀x∈S,x<n:=fun S=>by
  induction S with
  | nil=>exact⟨0,fun _ h=>by cases h⟩
  | cons y S ih =>
   obtain⟨n,hn⟩:=ih
   refine⟨n+y+1,fun x hx=>?_⟩
   rcases List.mem_cons.mp hx with rfl | hx
   ·omega
   ·have:=hn x hx;omega
 obtain⟨n,hn⟩:=h S
 exact⟨n,n+1,by omega,fun z=>by have:=hn _ z;omega,fun z=>by have:=hn _ z;omega⟩
theorem JZ.uniq{i:Nat}{mk:LD->Nat->Nat->OD}{ds:LD}{w:MU}{S:List Nat}{ρ:R}{r r':D}(h:JZ i mk ds w S ρ r)(h':JZ i mk ds w S ρ r'):r=r':=by
 obtain⟨a,l,h1,h2,h3⟩:=Ke S
 obtain⟨ob,ρ1,e1,e2⟩:=h a l h1 h2 h3
 obtain⟨pb,ρ2,f1,f2⟩:=h' a l h1 h2 h3
 rw[e1] at f1;cases f1
 rw[e2] at f2
 exact(MO.rt.inj (Option.some.inj f2)).1
end HW
namespace HW
open PySem PySem.Spec PyProof.Rows L2
section
variable{X:Cx}{pos:Pos}{C:Nat}{f:Str}
end
structure CW (B:Heap) (l:List Env) (e C:Addr) (h:Heap):Prop where
 st:B.StaysIn h
 ne:B.get? e=none
 fr:h.FunFrames B l
 tr:∃a0 fl,h.TracedAtW B e (.ref C) a0 fl
section
variable{M:Model}{A:Around}{E:Value->Shared->Prop}{s:Shared}{B:Heap}{env env':Env}{outer:List Env}{L e C:Addr}{Q:Unit->Shared->Prop}
theorem Ce(hfr:A.frames=some (env::outer))(hf:env.frame=some L)(x:CW B (env::outer) e C s.heap)
  (hQ:∀h',CW B (env::outer) e C h'->s.heap.UpToSlots h'->Q () {s with heap:=h' }):wpAny M A (noteFrame (.ref e) env) Q E s:=by
 obtain⟨st,ne,fr,a0,fl,tr⟩:=x
 obtain⟨oe,vs,T,oT,ts,he,⟨hc,h0⟩,hd,h1,hnT,hTe,hT,hdT,h3⟩:=id tr
 unfold noteFrame
 simp only[hf]
 refine wpAny_bind (wpAny_field he hd h1 ?_)
 rw[if_pos (show(Value.ref T != Value.none)=true by simp)]
 refine wpAny_bind (wpAny_field hT hdT h3 ?_)
 by_cases hq:(fl==rawInt L)=true
 ·rw[if_pos hq]
  exact wpAny_pure (hQ s.heap ⟨st,ne,fr,a0,fl,tr⟩ (Heap.UpToSlots.refl _))
 ·rw[if_neg hq]
  refine wpAny_bind (wpAny_setField hT hdT (Array.getElem?_eq_some_iff.mp h3).1 ?_)
  generalize hg:s.heap.update T (Obj.mapFields fun a=>a.setIfInBounds 3 Value.none)=g
  have oth:∀b,b≠T->g.get? b=s.heap.get? b:=fun b hb=>by rw[<- hg];exact Heap.get?_update_other _ _ (Ne.symm hb)
  have nrec:∀b o,s.heap.get? b=some o->(∀ws,o.data≠.fields ws)->b≠T:=fun b o hb hn z=>by
   rw[z,hT] at hb
   cases hb
   exact hn ts hdT
  have stg:B.StaysIn g:=fun b o hb=>(oth b fun z=>by rw[z,hnT] at hb;cases hb).trans (st b o hb)
  have frg:g.FunFrames B (env::outer):=fr.of_keeps fun b o hb hn=>⟨o,(oth b (nrec b o hb hn)).trans hb,rfl⟩
  have heg:g.get? e=some oe:=(oth e (Ne.symm hTe)).trans he
  refine wpAny_entryW (s:={s with heap:=g}) hfr frg hf heg stg ne hd (Array.getElem?_eq_some_iff.mp h1).1 h0 fun h' ⟨k1,k2,k3,k4⟩=>?_
  refine hQ h' ⟨k1,ne,k2,a0,_,by rw[<- hc];exact k3⟩ fun b o hb hn=>k4 b o ((oth b (nrec b o hb hn)).trans hb) hn
theorem xE{fo:Option Addr}(x:CW B outer e C s.heap)(hQ:∀h',CW B outer e C h'->s.heap.UpToSlots h'->Q () {s with heap:=h' }):wpAny M A (setFlight (.ref e) fo) Q E s:=by
 obtain⟨st,ne,fr,a0,fl,tr⟩:=x
 obtain⟨oe,vs,T,oT,ts,he,hc,hd,h1,hnT,hTe,hT,hdT,h3⟩:=tr
 have hsz:3<ts.size:=(Array.getElem?_eq_some_iff.mp h3).1
 unfold setFlight
 refine wpAny_bind (wpAny_field he hd h1 ?_)
 rw[if_pos (show(Value.ref T != Value.none)=true by simp)]
 refine wpAny_setField hT hdT hsz ?_
 generalize fo.elim Value.none (fun f=>rawInt f)=nf
 have oth:∀b,b≠T->(s.heap.update T (Obj.mapFields fun a=>a.setIfInBounds 3 nf)).get? b=s.heap.get? b:=fun b hb=>Heap.get?_update_other _ _ (Ne.symm hb)
 have nrec:∀b o,s.heap.get? b=some o->(∀ws,o.data≠.fields ws)->b≠T:=fun b o hb hn z=>by
  rw[z,hT] at hb
  cases hb
  exact hn ts hdT
 refine hQ _ ⟨fun b o hb=>(oth b fun z=>by rw[z,hnT] at hb;cases hb).trans (st b o hb),ne,fr.of_keeps fun b o hb hn=>⟨o,(oth b (nrec b o hb hn)).trans hb,rfl⟩,a0,nf,
  oe,vs,T,_,_,(oth e (Ne.symm hTe)).trans he,hc,hd,h1,hnT,hTe,Heap.get?_update_self _ hT (Obj.isFreed_of_fields (Obj.data_mapFields hdT _)),Obj.data_mapFields hdT _,by simp[hsz]⟩ fun b o hb hn=>⟨o.slots,(oth b (nrec b o hb hn)).trans hb⟩
theorem CW.low(x:CW B (env::outer) e C s.heap):CW B outer e C s.heap:=⟨x.st,x.ne,x.fr.2.2,x.tr⟩
theorem Am(hfr:A.frames=some (env::outer))(hf:env.frame=some L)(x:CW B (env::outer) e C s.heap)
  (hQ:∀h',CW B outer e C h'->s.heap.UpToSlots h'->Q () {s with heap:=h' }):wpAny M A (leaving env (.ref e)) Q E s:=by
 unfold leaving
 refine wpAny_bind (Ce hfr hf x fun h1 x1 u1=>xE (s:={s with heap:=h1}) x1 fun h2 x2 u2=>?_)
 exact hQ h2 (CW.low (s:={s with heap:=h2}) x2) (u1.trans u2)
end
def y8(P:Program)(w:World):BK:=fun outer H s E ev s'=>∃e C B H',ev=.ref e/\s'.os=s.os/\AllBare s'.gens/\CW B outer e C s'.heap/\Un (vR outer) [] H H' s.heap s'.heap/\xt P w H' s'.heap /\
 (∀b o,s.heap.get? b=some o->b∉vR outer->∃o',B.get? b=some o')/\(∀b u,H' b=some u->∃o',B.get? b=some o')/\i7 H H'/\E (.ref C) none H'
structure NT (X:Cx) (pins:List (Addr×Obj)) (σ:L2.St) (B:Heap) (e C:Addr) (H':Hp) (s':Shared):Prop where
 inv:L2.Inv X pins σ H' s'
 ent:∀b o,X.s₀.heap.get? b=some o->b∉vR X.stack->b∉X.ex->∃o',B.get? b=some o'
 hld:∀b u,H' b=some u->∃o',B.get? b=some o'
 loc:X.env.locals∉vR X.stack->∃o',B.get? X.env.locals=some o'
 pin:∀p∈X.pn++pins,∃o',B.get? p.1=some o'
 exc:CW B X.stack e C s'.heap
def Oa(X:Cx)(e C:Addr)(H':Hp)(s':Shared):Prop:=∃pins σ B,NT X pins σ B e C H' s'
def XW(X:Cx)(C:Addr)(H':Hp):Prop:=∀e s',Oa X e C H' s'->X.xe (.ref e) s'
def EX(X:Cx):XK:=fun Cv _ H'=>∃C,Cv=.ref C/\XW X C H'
section
variable{X:Cx}{pins:List (Addr×Obj)}{σ:L2.St}{H H':Hp}{s s':Shared}{e C:Addr}
theorem Jq {E:XK} (I:L2.Inv X pins σ H s) (h:∃B,s'.os=s.os/\AllBare s'.gens/\CW B X.stack e C s'.heap/\Un (vR X.stack) [] H H' s.heap s'.heap/\xt X.prog X.w H' s'.heap /\
  (∀b o,s.heap.get? b=some o->b∉vR X.stack->∃o',B.get? b=some o')/\(∀b u,H' b=some u->∃o',B.get? b=some o')):∃B,NT X pins σ B e C H' s':=by
 obtain⟨B,os,bare,x,un,hok,c1,c2⟩:=h
 refine⟨B,I.call' (ch:=[]) os un hok bare (fun b hb=>absurd hb (by simp)),fun b o hb hn hx=>?_,c2,fun hn=>?_,fun p hp=>?_,x⟩
 ·obtain⟨o1,e1⟩:=I.base.there b o hb hx
  exact c1 b o1 e1 hn
 ·obtain⟨m,hm,_⟩:=I.loc
  obtain⟨o,_,_,ho,_⟩:=id hm
  exact c1 _ o ho hn
 ·obtain⟨e1,e2,e3,e4,_⟩:=I.pin p hp
  refine c1 p.1 p.2 e1 fun hm=>?_
  rcases List.mem_cons.mp (I.stkSub p.1 hm) with z | z
  ·exact e3 z
  ·exact e4 z
theorem IJ:wz (y8 X.prog X.w) X (EX X):=fun pins σ H s ev s' I ⟨e,C,B,H',ee,os,bare,x,un,hok,c1,c2,sm,C',eC,w⟩=>by
 subst ee
 cases eC
 obtain⟨B',xa⟩:=Jq (E:=EX X) I ⟨B,os,bare,x,un,hok,c1,c2⟩
 exact w e s' ⟨pins,σ,B',xa⟩
theorem yl{P:Program}{w:World}{B h h':Heap}(hok:xt P w H' h)(st:B.StaysIn h)(st':B.StaysIn h')(c2:∀b u,H' b=some u->∃o',B.get? b=some o'):xt P w H' h':=fun a o ha =>
 (hok a o ha).stay (fun b u hb e=>by
  have hH:∃v,H' b=some v:=by
   rcases hb with z | z
   ·exact⟨o,z ▸ ha⟩
   ·exact⟨_,z⟩
  obtain⟨v,hv⟩:=hH
  obtain⟨o',e'⟩:=c2 b v hv
  have:=st b o' e'
  rw[e] at this
  cases this
  exact st' b u e') (fun _ z=>z) (fun _ _ z=>z) (fun _ _ _ z=>z)
theorem zi{fs ex:List Addr}{H0:Hp}{B h0 h h':Heap}(u:Un fs ex H0 H' h0 h)(st:B.StaysIn h)(st':B.StaysIn h')(up:∀b∈fs,∀o,h.get? b=some o->(∀ws,o.data≠.fields ws)->∃sl,h'.get? b=some {o with slots:=sl})(nf:∀b∈fs,∃o,h.get? b=some o/\∀ws,o.data≠.fields ws)(c:∀b o,h0.get? b=some o->b∉fs->b∉ex->∃o',B.get? b=some o'):Un fs ex H0 H' h0 h':=by
 refine⟨fun b o hb n hf hx=>?_,fun b o hb n hf hx=>?_,u.free,fun b o hb hx=>?_,u.tups,u.frzs,u.tbls⟩
 ·obtain⟨o',e'⟩:=c b o hb hf hx
  have e1:=u.keep b o hb n hf hx
  have e2:=st b o' e'
  rw[e1] at e2
  cases e2
  exact st' b o e'
 ·obtain⟨sl,e1⟩:=u.slot b o hb n hf hx
  obtain⟨o1,e2,nd⟩:=nf b hf
  rw[e1] at e2
  cases e2
  obtain⟨sl2,e3⟩:=up b hf _ e1 nd
  exact⟨sl2,e3⟩
 ·by_cases hf:b∈fs
  ·obtain⟨o1,e2,nd⟩:=nf b hf
   obtain⟨sl2,e3⟩:=up b hf _ e2 nd
   exact⟨_,e3⟩
  ·obtain⟨o',e'⟩:=c b o hb hf hx
   exact⟨o',st' b o' e'⟩
end
section
variable{P:Program}{w:World}{K:W.Frag}{mg:Str->Option Value}{base:Heap}{N:List Str}{qual:Str}{scope:Scope}{f:Addr}{cd:Value}{A:Around}{outer:List Env}{s:Shared}{H H':Hp}{E:XK}{C:Addr}
theorem J2(hE:E (.ref C) none H')(hS:i7 H H'):XW (wt (y8 P w) P w K mg base N qual scope f cd A outer s H E) C H':=fun e s' ⟨pins,σ,B,I',c1,c2,_,_,x⟩=>by
 show wpAny (model P w) (A.deeper (envOfC qual scope s.heap.objs.size f cd)) (leaving (envOfC qual scope s.heap.objs.size f cd) (.ref e)) (fun _ s''=>y8 P w outer H s E (.ref e) s'') (fun e' s''=>y8 P w outer H s E e' s'') s'
 refine Am I'.ok.frames rfl x fun h' x' up=>?_
 have hfn:∀b o,s.heap.get? b=some o->b∉vR outer->b∉vR (envOfC qual scope s.heap.objs.size f cd::outer):=fun b o hb hn hm=>by
  have hm':b∈s.heap.objs.size::vR outer:=hm
  rcases List.mem_cons.mp hm' with z | z
  ·rw[z] at hb;exact Nat.lt_irrefl _ (Heap.lt_size hb)
  ·exact hn z
 have cov:∀b o,s.heap.get? b=some o->b∉vR outer->∃o',B.get? b=some o':=fun b o hb hn=>c1 b o hb (hfn b o hb hn) (by intro z;cases z)
 exact⟨e,C,B,H',rfl,I'.os,I'.bare,x',zi I'.base x.st x'.st (fun b _ o=>up b o) (fun b hb=>by
   obtain⟨_,o,ho,nd⟩:=x.fr.mem (List.mem_cons_of_mem _ hb:b∈s.heap.objs.size::vR outer)
   exact⟨o,ho,nd⟩) (fun b o hb hf _=>cov b o hb hf),yl I'.hok x.st x'.st c2,cov,c2,hS,hE⟩
end
section
variable{X:Cx}{pins:List (Addr×Obj)}{σ:L2.St}{H H':Hp}{s s':Shared}{e C:Addr}{B h':Heap}
theorem Gm(I:L2.Inv X pins σ H s)(st:B.StaysIn s.heap)(st':B.StaysIn h')(up:∀b∈X.env.locals::X.fs,∀o,s.heap.get? b=some o->(∀ws,o.data≠.fields ws)->∃sl,h'.get? b=some {o with slots:=sl})
  (ent:∀b o,X.s₀.heap.get? b=some o->b∉X.fs->b∉X.ex->∃o',B.get? b=some o') (hld:∀b u,H b=some u->∃o',B.get? b=some o') (pin:∀p∈X.pn++pins,∃o',B.get? p.1=some o')
  (cel:∀x c,X.env.cells.lookup x=some c->∃o',B.get? c=some o'):L2.Inv X pins σ H {s with heap:=h' }:=by
 have same:∀b o,(∃o',B.get? b=some o')->s.heap.get? b=some o->h'.get? b=some o:=fun b o ⟨o',e'⟩ hb=>by
  have:=st b o' e'
  rw[hb] at this
  cases this
  exact st' b o e'
 have nsL:∀m,s.heap.Ns X.env.locals m->h'.Ns X.env.locals m:=fun m hm=>by
  obtain⟨o,es,ep,ho,hd,r⟩:=hm
  obtain⟨sl,hs⟩:=up _ List.mem_cons_self o ho fun ws q=>by rw[hd] at q;cases q
  exact⟨_,es,ep,hs,hd,r⟩
 have cellK:∀x c v,X.env.cells.lookup x=some c->s.heap.IsCell c v->h'.IsCell c v:=fun x c v hc ⟨o,ho,hd⟩=>⟨o,same c o (cel x c hc) ho,hd⟩
 obtain⟨m,hm,hl⟩:=I.loc
 refine⟨I.ok,I.os,I.bare,zi I.base st st' (fun b hb o=>up b (List.mem_cons_of_mem _ hb) o) (fun b hb=>?_) ent,⟨m,nsL m hm,fun i x v h1 h2 h3=>?_⟩,fun x c hc=>?_,I.free,I.freeC,fun p hp=>?_,yl I.hok st st' hld,I.len⟩
 ·obtain⟨_,o,ho,nd⟩:=I.ok.funs.mem hb
  have hn:=I.ok.frf b hb
  by_cases hx:b∈X.ex
  ·exact absurd hb (I.ok.exfs b hx)
  ·obtain⟨sl,e1⟩:=I.base.any ho hn hx
   exact⟨_,e1,nd⟩
 ·obtain⟨u,r,lk⟩:=hl i x v h1 h2 h3
  refine⟨u,r,?_⟩
  rcases lk with q | ⟨k,c,hc,z⟩
  ·exact .inl q
  ·exact .inr ⟨k,c,hc,cellK x c _ hc z⟩
 ·obtain⟨v,z⟩:=I.cell x c hc
  exact⟨v,cellK x c v hc z⟩
 ·obtain⟨e1,e2,e3,e4,e5⟩:=I.pin p hp
  exact⟨same _ _ (pin p hp) e1,e2,e3,e4,e5⟩
end
end HW
namespace HW
open PySem
abbrev XD:=R->Option (Except Nat D)
abbrev XO:=R->Option (Except Nat Out)
def Dd(k:Nat)(f:R->OD):XO:=fun ρ=>(f ρ).map fun _=>.error k
def AJ:LD->OD
 | [.lst es,.bl k]=>(bools es).bind fun bs=>if bs.length<=1000 then some (.int ((bs.countP (·==k):Nat):Int)) else none
 | _=>none
def Aw:LD->OD
 | [.lst es,.bl k]=>(bools es).bind fun bs=>if k∈bs/\bs.length<=1000 then some (.int ((bs.idxOf k:Nat):Int)) else none
 | _=>none
def Ey(j a:Nat)(b:Bool):R->OD:=fun ρ=>match c6 j ρ with
 | some (.rf a')=>if a'=a then some (.bl b) else none
 | _=>none
def J0(n j e:Nat):R:=(List.replicate n none).set j (some (.rf e))
end HW
namespace HW
open PySem PySem.Spec PyProof.Rows L2
abbrev VE:List Value:=[.type "ValueError",.type "Exception",.type "BaseException",.type "object"]
def Ko:List Str:=["__init__","__getattribute__","__getattr__","__class__"]
def EG(K:W.Frag)(C:Addr)(bm:List Value)(newId:String):Prop:=
 ∃N nm q bs hdct sn sub ab col dd k0 k1 k2 k3 k5 mN,(∀n∈Ko,mN n=none)/\∀h,K.In h->h.get? C=some (excClassObj nm q C N bs bm hdct sn sub ab col dd k0 k1 k2 k3 k5 newId)/\h.Ns N mN
structure CH (K:W.Frag) (C Wz:Addr) (newId nW:String):Prop where
 own:EG K C (.ref Wz::VE) newId
 base:EG K Wz VE nW
theorem CH.tail{K:W.Frag}{C Wz:Addr}{newId nW:String}(T:CH K C Wz newId nW){h:Heap}(x:K.In h):OwnTail h VE (.ref Wz::VE):=by
 obtain⟨N,nm,q,bs,hdct,sn,sub,ab,col,dd,k0,k1,k2,k3,k5,mN,hq,hh⟩:=T.base
 exact .own (hh h x).1 (hh h x).2 (hq _ (.head _)) .base
def XM(X:Cx)(C:Addr)(H':Hp):Prop:=∀pins σ s e h' vs,L2.Inv X pins σ H' s->Heap.MadeExcOf s.heap h' e (.ref C) vs->X.xe (.ref e) {s with heap:=h' }
def XT(X:Cx)(C:Addr)(H':Hp):Prop:=XW X C H'/\XM X C H'
theorem Cq{P:Program}{w:World}{H:Hp}{h:Heap}{a:Addr}{o:HO}(x:ui P w H h a o):∃ob,h.get? a=some ob:=by
 cases o with
 | lst xs=>obtain⟨_,_,_,_,e⟩:=x;exact⟨_,e⟩
 | tup xs=>obtain⟨_,_,_,p⟩:=x;obtain⟨o,e,_⟩:=p;exact⟨_,e⟩
 | dK kvs=>obtain⟨_,_,_,_,o,_,_,e,_⟩:=x;exact⟨_,e⟩
 | dT kvs=>obtain⟨_,_,_,_,o,_,_,e,_⟩:=x;exact⟨_,e⟩
 | set S n=>obtain⟨o,_,_,_,e,_⟩:=x;exact⟨_,e⟩
 | ins C dx fs=>obtain⟨_,_,_,e,_⟩:=x;exact⟨_,e⟩
 | own y=>obtain⟨_,e⟩:=x;exact⟨_,e⟩
 | xd fs=>obtain⟨_,⟨_,_,_,e,_⟩,_⟩:=x;exact⟨_,e⟩
 | rng lo hi=>obtain⟨_,_,_,e⟩:=x;exact⟨_,e⟩
 | frz ob u=>obtain⟨e,_⟩:=x;exact⟨_,e⟩
 | tbl q c =>
  cases c with
  | true=>obtain⟨_,o,_,_,e,g,_⟩:=(show h.CodeRec (.ref a) q from x);cases e;exact⟨_,g⟩
  | false=>obtain⟨_,e,_⟩:=x;exact⟨_,e⟩
 | met f y=>exact⟨_,(show h.get? a=some _ from x)⟩
 | ext φ=>obtain⟨_,⟨_,e⟩,_⟩:=x;exact⟨_,e⟩
section
variable{P:Program}{w:World}{K:W.Frag}{mg:Str->Option Value}{base:Heap}{N:List Str}{qual:Str}{scope:Scope}{f:Addr}{cd:Value}{A:Around}{outer:List Env}{s:Shared}{H H':Hp}{E:XK}{C:Addr}
theorem Jm(hE:E (.ref C) none H')(hS:i7 H H'):XM (wt (y8 P w) P w K mg base N qual scope f cd A outer s H E) C H':=fun pins σ s1 e h1 vs I hm=>by
 show wpAny (model P w) (A.deeper (envOfC qual scope s.heap.objs.size f cd)) (leaving (envOfC qual scope s.heap.objs.size f cd) (.ref e)) (fun _ s''=>y8 P w outer H s E (.ref e) s'') (fun e' s''=>y8 P w outer H s E e' s'') {s1 with heap:=h1}
 generalize hl:vR (envOfC qual scope s.heap.objs.size f cd::outer)=l
 have hin:∀env∈(envOfC qual scope s.heap.objs.size f cd::outer),∀b,env.frame=some b->b∈l:=fun env he b hb=>by rw[<- hl];exact List.mem_filterMap.mpr ⟨env,he,hb⟩
 have stB:(W.hideAll s1.heap l).StaysIn s1.heap:=fun b o q=>W.of_hideAll _ q
 refine wpAny_leaves_madeW (s:={s1 with heap:=h1}) (base:=W.hideAll s1.heap l) (h:=s1.heap) I.ok.frames rfl stB (W.funFrames_hide I.stack hin) hm fun h' t fl _ _ up=>?_
 obtain⟨f1,f2,f3,f4⟩:=fl
 have cov:∀b o,s.heap.get? b=some o->b∉vR outer->∃o',(W.hideAll s1.heap l).get? b=some o':=fun b o hb hn=>by
  obtain⟨o1,e1⟩:=I.base.there b o hb (by intro z;cases z)
  refine⟨o1,W.hideAll_get _ e1 fun z=>?_⟩
  rw[<- hl] at z
  have z':b∈s.heap.objs.size::vR outer:=z
  rcases List.mem_cons.mp z' with q | q
  ·rw[q] at hb;exact Nat.lt_irrefl _ (Heap.lt_size hb)
  ·exact hn q
 have c2:∀b u,H' b=some u->∃o',(W.hideAll s1.heap l).get? b=some o':=fun b u hb=>by
  obtain⟨ob,e1⟩:=Cq (I.hok b u hb)
  refine⟨ob,W.hideAll_get _ e1 fun z=>?_⟩
  rw[<- hl] at z
  rw[I.stkFree b z] at hb
  cases hb
 exact⟨e,C,_,H',rfl,I.os,I.bare,⟨f1,f2,f3,_,_,f4.at⟩,zi I.base stB f1 (fun b _ o=>(Heap.UpToSlots.of_keeps hm.keeps).trans up b o) (fun b hb=>by
   obtain⟨_,o,ho,nd⟩:=I.stack.mem (List.mem_cons_of_mem _ hb:b∈s.heap.objs.size::vR outer)
   exact⟨o,ho,nd⟩) (fun b o hb hf _=>cov b o hb hf),yl I.hok stB f1 c2,cov,c2,hS,hE⟩
theorem JI(hE:E (.ref C) none H')(hS:i7 H H'):XT (wt (y8 P w) P w K mg base N qual scope f cd A outer s H E) C H':=⟨J2 hE hS,Jm hE hS⟩
end
section
variable(cl:Nat->Addr)
def Oh(X:Cx)(g:XO):TS:=fun E σ H=>∃ ρ τ r,sY X.K H ρ τ σ/\g ρ=some r/\match r with
 | .ok o=>∀H',i7 H H'->fin X.K E τ o H'
 | .error c=>∀H',i7 H H'->XT X (cl c) H'
def Of(K:W.Frag)(F:LD->Option (Except Nat D)):Sp:=fun vs H Q E=>∃ds r,i6 K H ds vs/\F ds=some r/\match r with
 | .ok d=>∀v H',i7 H H'->Rep K H' d v->Q v H'
 | .error c=>∀H',i7 H H'->E (.ref (cl c)) none H'
def MZ(X:Cx)(s:Stmt)(g:XO):Prop:=PS X s (Oh cl X g)
end
section
variable{X:Cx}{cl:Nat->Addr}{e:Expr}{es:List Expr}{st:Stmt}{sts:List Stmt}{pos p:Pos}{f:R->OD}{fx:XD}{g:XO}{u:R->Option Out}
structure EM (P:Program) (w:World) (K:W.Frag) (mg:Str->Option Value) (base:Heap) (cl:Nat->Addr) (k:Nat) (x:Str) (ps:List Str) (F:LD->Option (Except Nat D)):Prop where
 ex:∃f fd,k6 P w K mg base (y8 P w) k f fd ps (Of cl K F)/\mg x=some (.ref f)/\W.keepIn K (.ref f)=true/\Binds K fd ps []
theorem EM.mono{P:Program}{w:World}{K:W.Frag}{mg:Str->Option Value}{base:Heap}{j k:Nat}{x:Str}{ps:List Str}{F:LD->Option (Except Nat D)}(h:EM P w K mg base cl j x ps F)(hk:j<=k):EM P w K mg base cl k x ps F:=by
 obtain⟨f,fd,a,b⟩:=h.ex
 exact⟨f,fd,a.mono hk,b⟩
theorem EM.m{P:Program}{w:World}{K:W.Frag}{mg:Str->Option Value}{base:Heap}{j k:Nat}{x:Str}{ps:List Str}{F:LD->Option (Except Nat D)}(h:EM P w K mg base cl j x ps F)(hk:j<=k:=by decide):EM P w K mg base cl k x ps F:=h.mono hk
theorem Fp{c:Nat}{x:Str}{Wz:Addr}{newId nW Bn inN:String}{bmN:List Value}{np cpos:Pos}(T:CH X.K (cl c) Wz newId nW)(Fn:ExcBaseFacts Bn newId inN bmN)(hBn:VE.contains (.type Bn)=true)(hc:X.calm=true)(hm:X.mg x=some (.ref (cl c)))(ha:SE X e f)
  (hg:Gl X x:=by rfl) (hd:(x==("__debug__" : Str))=false:=by decide) (hst:noStar e=true:=by rfl):MZ cl X (.Raise (some (.Call (.Name x np) [e] [] cpos)) none pos) (Dd c f):=by
 intro pins s σ H D I ⟨ρ,τ,r,er,e1,q⟩
 obtain⟨d,e2,e3⟩:=p9 e1
 subst e3
 obtain⟨N,nm,qq,bs,hdct,sn,sub,ab,col,dd,k0,k1,k2,k3,k5,mN,hq,hh⟩:=T.own
 have tl:=T.tail I.kIn
 have hst1:=aE [] X.env hst
 refine wpAny_Raise_call_subU (C:=cl c) (nm:=nm) (q:=qq) (N:=N) (bs:=bs) (bm:=.ref Wz::VE) (hdct:=hdct) (sn:=sn) (sub:=sub) (ab:=ab) (col:=col) (dd:=dd) (k0:=k0) (k1:=k1) (k2:=k2) (k3:=k3) (k5:=k5) (newId:=newId) (bmB:=VE)
  Fn hBn F.excBase_ValueError (mN:=mN) (tl.hasType F.excBase_ValueError.hasBase) (I.ok.hd hc) (by rw[hst1];rfl) (hq _ (.head _)) (et I hg hm ⟨rfl,?_⟩ hd)
 have hA:=(ac ha af hst).1 cpos pins s σ H (fun vs H2=>i7 H H2/\i6 X.K H2 [d] vs) I ⟨ρ,[d],er.1,by show(f ρ).bind _=_;rw[e2];rfl,fun vs H2 s2 r2=>⟨s2,r2⟩⟩
 rw[hst1] at hA ⊢
 refine Calls.evalArgs_plain (sX hA fun us s2 ⟨vs,H2,I2,r2,s12,rd⟩=>?_)
 have x2:=I2.kIn
 refine⟨rfl,?_,(hh _ x2).1,(hh _ x2).2,T.tail x2,fun h' e' hme=>(q H2 s12).2 pins σ s2 e' h' us I2 hme⟩
 ·show us.length<=sizeLine
  rw[<- r2.length,<- rd.length]
  exact Nat.le_trans (show 1<=1000 by decide) (by decide)
end
structure uZ where
 c:Addr
 P:Addr
 q:Str
def A4(ts:List uZ)(b:Addr):Option HO:=(ts.find? fun t=>t.P==b).map fun t=>.tbl t.q false
theorem y_{ts:List uZ}{b:Addr}{u:HO}(h:A4 ts b=some u):∃t∈ts,t.P=b/\u=.tbl t.q false:=by
 unfold A4 at h
 cases e:ts.find? fun t=>t.P==b with
 | none=>rw[e] at h;cases h
 | some t =>
  rw[e] at h
  cases h
  exact⟨t,List.mem_of_find?_eq_some e,by simpa using List.find?_some e,rfl⟩
def DV(ts:List uZ)(a:Addr)(H:Hp):Prop:=∀b,(b≠a/\H b=A4 ts b)\/(b=a/\(H b=none\/∃o xs,H b=some (.frz o (.lst xs))))
structure uK (mg:Str->Option Value) (ts:List uZ) (base:Heap):Prop where
 code:∀t∈ts,W.CodeHd base t.c t.P
 bm:∃bm o,mg "__builtins__" = some (.ref bm)/\bm≠builtinsNs/\bm≠mainGlobals/\base.get? bm=some o/\o.cls=.type "module" /\ o.dict=some builtinsNs/\o.data=.plain
theorem EC{P:Program}{w:World}{K:W.Frag}{mg mb:Str->Option Value}{CX:BK}{k:Nat}{fa a:Addr}{fd:FuncData}{x:Str}{sp:Sp}{s₁:Shared}{vs:List Value}{ns:List Int}{ts:List uZ}
  (KX:K.In s₁.heap) (hns:s₁.heap.Ns mainGlobals mg) (hb:s₁.heap.Ns builtinsNs mb) (hbb:∀x:Str,x ≠ "__name__" -> mb x=bootBuiltins x) (hlim:s₁.heap.NoLimit) (hg:s₁.gens=#[])
  (ha:s₁.heap.get? a=some {cls:=.type "list",data:=.seq vs.toArray}) (hi:IntsAre vs ns) (hl:ns.length<=sizeLine) (hr:sL k callerA)
  (hT:∀t∈ts,W.CodeHd s₁.heap t.c t.P/\s₁.heap.get? t.P=some (W.tabObj #[])) (hK:∀t∈ts,K.lookup t.P=none)
  (hbm:∃bm o,mg "__builtins__" = some (.ref bm)/\bm≠builtinsNs/\bm≠mainGlobals/\s₁.heap.get? bm=some o/\o.cls=.type "module" /\ o.dict=some builtinsNs/\o.data=.plain)
  (F:∀base:Heap,K.In base->base.Ns mainGlobals mg->uK mg ts base->k6 P w K mg base CX k fa fd [x] sp) (hbind:∀(s:Shared) (u:Value),BindsTo s fd ⟨[u],[]⟩ [(x,u)])
  (hsp:∀H:Hp,DV ts a H->(∀t∈ts,t.P≠a)->u4 K H a (ns.map V.int)->sp [.ref a] H (fun v _=>v=.bl true) fun _ _ _=>False)
  (hCX:∀H e s',CX [] H s₁ (fun _ _ _=>False) e s'->False) :
  codeAny (model P w) callerA (.call (.ref fa) ⟨[.ref a],[]⟩) (fun r s'=>r=.ok (.ret (.bool true))/\OldK s₁.heap s'.heap/\s'.os=s₁.os/\AllBare s'.gens) s₁:=by
 have rv:=L2.vals_ints hi
 have lenV:=hi.length
 have aP:∀t∈ts,t.P≠a:=fun t ht z=>by
  have e:=(hT t ht).2
  rw[z,ha] at e;cases e
 have tabOk:∀(H:Hp) {b:Addr} {u:HO},A4 ts b=some u->ui P w H s₁.heap b u:=fun H {b u} h=>by
  obtain⟨t,ht,rfl,rfl⟩:=y_ h
  exact⟨#[],(hT t ht).2,trivial,fun pos cv hc=>by cases hc⟩
 have core:∀H:Hp,DV ts a H->u4 K H a (ns.map V.int)->xt P w H s₁.heap->(H a≠none->K.lookup a=none) ->
   codeAny (model P w) callerA (.call (.ref fa) ⟨[.ref a],[]⟩) (fun r s'=>r=.ok (.ret (.bool true))/\OldK s₁.heap s'.heap/\s'.os=s₁.os/\AllBare s'.gens) s₁:=by
  intro H hO hS hok hKa
  have what:∀{b:Addr} {u:HO},H b=some u->(b=a)\/∃t∈ts,t.P=b/\u=.tbl t.q false:=fun {b u} e=>by
   rcases hO b with ⟨_,z⟩ | ⟨z,_⟩
   ·rw[e] at z;exact .inr (y_ z.symm)
   ·exact .inl z
  have base_of:∀{b:Addr} {o:Obj},s₁.heap.get? b=some o->H b=none->(xM s₁.heap H).get? b=some o:=fun e n=>BM e n
  have free:∀{b:Addr} {o:Obj},s₁.heap.get? b=some o->(∀(its:Array Value) n,o.data≠.seq its n)->(o.cls≠.none)->H b=none:=fun {b o} e h1 h2=>by
   cases q:H b with
   | none=>rfl
   | some u =>
    rcases what q with z | ⟨t,ht,z,_⟩
    ·rw[z,ha] at e;cases e;exact absurd rfl (h1 _ _)
    ·rw[<- z,(hT t ht).2] at e;cases e;exact absurd rfl h2
  have noA:∀{b:Addr} {o:Obj} {es:Array DictEntry} {ep:Nat},s₁.heap.get? b=some o->o.data=.dict es ep->H b=none:=fun {b o es ep} e d=>by
   cases q:H b with
   | none=>rfl
   | some u =>
    rcases what q with z | ⟨t,ht,z,_⟩
    ·rw[z,ha] at e;cases e;cases (show Data.seq vs.toArray _=Data.dict es ep from d)
    ·rw[<- z,(hT t ht).2] at e;cases e;cases d
  have nsK:∀{b:Addr} {m:Str->Option Value},s₁.heap.Ns b m->(xM s₁.heap H).Ns b m:=fun {b m} ⟨o,es,ep,e,d,r⟩=>⟨o,es,ep,base_of e (noA e d),d,r⟩
  have hKb:K.In (xM s₁.heap H):=fun b o e=>base_of (KX b o e) (by
   cases q:H b with
   | none=>rfl
   | some u =>
    rcases what q with z | ⟨t,ht,z,_⟩
    ·subst z;rw[hKa (by rw[q];simp)] at e;cases e
    ·rw[<- z,hK t ht] at e;cases e)
  have hM:Mod K mg (xM s₁.heap H):=⟨hKb,nsK hns,⟨mb,nsK hb,hbb⟩,let ⟨mc,h1,h2⟩:=hlim;⟨mc,nsK h1,h2⟩⟩
  have hTB:uK mg ts (xM s₁.heap H):=by
   refine⟨fun t ht=>?_,?_⟩
   ·obtain⟨o,vs',file,tf,flags,tg,inF,text,tt,e,ec,ed,r⟩:=(hT t ht).1
    exact⟨o,vs',file,tf,flags,tg,inF,text,tt,base_of e (free e (fun its n z=>by rw[ed] at z;cases z) (by rw[ec];simp)),ec,ed,r⟩
   ·obtain⟨bm,o,b1,b2,b3,b4,b5,b6,b7⟩:=hbm
    exact⟨bm,o,b1,b2,b3,base_of b4 (free b4 (fun its n z=>by rw[b7] at z;cases z) (by rw[b5];simp)),b5,b6,b7⟩
  have e0:yB P w K mg (xM s₁.heap H) callerA [] s₁ H:=⟨rfl,hM,fun b o e=>DP e,Nat.le_of_eq (AE _ _),trivial,fun b hb=>absurd (show b∈([]:List Addr) from hb) (by simp),hok,.of_eq hg⟩
  refine codeAny_mono ((F _ hKb (nsK hns) hTB).run callerA [] s₁ H ⟨[.ref a],[]⟩ [.ref a] [.ref a] _ _ hr e0 (hbind s₁ (.ref a)) (.cons rfl .nil) (hsp H hO aP hS)) fun r s' h=>?_
  cases r with
  | error e=>exact(hCX H e s' h).elim
  | ok fl =>
   cases fl with
   | next=>exact False.elim h
   | brk=>exact False.elim h
   | cont=>exact False.elim h
   | ret u =>
    obtain⟨v,H',os,bare,un,hok',r',q⟩:=h
    have q':v=.bl true:=q
    subst q'
    obtain rfl:u=Value.bool true:=r'
    have tab:∀{b:Addr} {o:Obj},s₁.heap.get? b=some o->(s'.heap.get? b=some o)\/∃t∈ts,t.P=b/\o=W.tabObj #[]/\∃ps,s'.heap.get? b=some (W.tabObj ps):=fun {b o} e=>by
     cases qb:H b with
     | none=>exact .inl (un.keep b o e qb (by intro z;exact absurd (show b∈([]:List Addr) from z) (by simp)) (by simp))
     | some u =>
      rcases hO b with ⟨_,z⟩ | ⟨_,z⟩
      ·rw[qb] at z
       obtain⟨t,ht,zP,rfl⟩:=y_ z.symm
       have z2:=un.tbls b _ _ qb
       obtain⟨ps,g,_⟩:=(show ui P w H' s'.heap b (.tbl t.q false) from hok' b _ z2)
       have e2:=(hT t ht).2
       rw[zP,e] at e2
       exact .inr ⟨t,ht,zP,Option.some.inj e2,ps,g⟩
      ·rcases z with z | ⟨ob,xs,z⟩
       ·rw[qb] at z;cases z
       ·have z2:=un.frzs b ob _ (fun y q=>by cases q) z
        obtain⟨e1,_⟩:=hok b _ z
        obtain⟨e2,_⟩:=hok' b _ z2
        rw[e] at e1;cases e1
        exact .inl e2
    refine⟨rfl,⟨fun b o e=>?_,fun b o e=>?_⟩,os,bare⟩
    ·rcases tab e with z | ⟨t,ht,rfl,rfl,ps,g⟩
     ·exact .inl z
     ·exact .inr (.inl ⟨((hT t ht).1.tab (hT t ht).2).isCodeTable,rfl,#[],ps,rfl,by rw[Array.empty_append];exact g⟩)
    ·rcases tab e with z | ⟨t,ht,rfl,rfl,ps,g⟩
     ·exact⟨_,z⟩
     ·exact⟨_,g⟩
 cases hk:K.lookup a with
 | some o =>
  have e:=KX a o hk
  rw[ha] at e
  cases e
  have hn:A4 ts a=none:=by
   cases q:A4 ts a with
   | none=>rfl
   | some u=>obtain⟨t,ht,z,_⟩:=y_ q;exact absurd z (aP t ht)
  refine core (A4 ts) (fun b=>?_) (.inr ⟨_,vs.toArray,_,hk,rfl,rfl,rfl,by rw[List.size_toArray,lenV];exact hl,by simpa using rv⟩) (fun b u z=>tabOk _ z) fun z=>absurd hn z
  by_cases hb:b=a
  ·exact .inr ⟨hb,.inl (by rw[hb];exact hn)⟩
  ·exact .inl ⟨hb,rfl⟩
 | none =>
  refine core (fun b=>if b=a then some (.frz {cls:=.type "list",data:=.seq vs.toArray} (.lst (ns.map V.int))) else A4 ts b) (fun b=>?_) (.inl (.inr ⟨{cls:=.type "list",data:=.seq vs.toArray},if_pos rfl⟩)) (fun b u z=>?_) fun _=>hk
  ·by_cases hb:b=a
   ·exact .inr ⟨hb,.inr ⟨_,_,if_pos hb⟩⟩
   ·exact .inl ⟨hb,if_neg hb⟩
  ·by_cases hb:b=a
   ·have z':=(if_pos hb).symm.trans z
    cases z'
    subst hb
    exact⟨ha,by rw[List.length_map];exact hl,vs,_,rv,ha⟩
   ·exact tabOk _ ((if_neg hb).symm.trans z)
theorem yd{i j:Int}{t u:Tok}{c:Value}:∀{l:List Value},TriplesOk l->TriplesOk (l++[.int i t,.int j u,c])
 | [],_=>trivial
 | .int _ _::.int _ _::_::rest,h=>yd (l:=rest) h
theorem zK{pos:Pos}{i j:Int}{t u:Tok}{c cv:Value}:∀{l:List Value},TriplesOk l->codeAmong pos (l++[.int i t,.int j u,c])=some cv->codeAmong pos l=some cv\/cv=c
 | [],_,h=>by
  have h':(if (i==pos.line&&j==pos.col)=true then some c else codeAmong pos [])=some cv:=h
  split at h'
  ·cases h';exact .inr rfl
  ·cases h'
 | .int a ta::.int b tb::d::rest,hl,h=>by
  have h':(if (a==pos.line&&b==pos.col)=true then some d else codeAmong pos (rest++[.int i t,.int j u,c]))=some cv:=h
  show(if (a==pos.line&&b==pos.col)=true then some d else codeAmong pos rest)=some cv\/_
  split at h'
  ·rename_i z;rw[if_pos z];exact .inl h'
  ·rename_i z;rw[if_neg z];exact zK (l:=rest) hl h'
section
variable{X:Cx}{pins:List (Addr×Obj)}{σ:L2.St}{H:Hp}{s:Shared}
abbrev vX(o:Obj):HO:=.frz o (.ext fun _=>True)
theorem Gn{t:uZ}{ts:List uZ}{name:Str}{params:Arguments}{body:Expr}{scope:Scope}{clos:List (Str×Addr)}{pos:Pos}{line:Nat}(I:L2.Inv X pins σ H s)(TB:uK X.mg ts X.base)(ht:t∈ts)(hP:H t.P=some (.tbl t.q false))(hcode:X.env.code=.ref t.c)
  (hcl:closureFor scope X.env=pure clos):wpAny (model X.prog X.w) X.A (makeFunction name t.q params (.expr body) scope X.env [] [] [] pos line)
   (fun v s'=>∃f c' ctv pm H',v=.ref f/\L2.Inv X pins σ H' s'/\i7 H H'/\H f=none/\H' f=some (vX (W.kla_obj name t.q params body scope clos pm c' ctv))/\H' c'=some (.tbl t.q true)) X.xe s:=by
 obtain⟨tv,eP,tr,ent⟩:=(show ui X.prog X.w H s.heap t.P (.tbl t.q false) from I.hok _ _ hP)
 have hg:s.heap.Ns mainGlobals X.mg:=I.mod.glob.keeps I.bk
 have C:W.CodeHd s.heap t.c t.P:=(TB.code t ht).keeps I.bk
 have nbase:∀{b:Addr} {o:Obj},X.base.get? b=some o->b≠t.P:=fun e z=>by
  have:=(I.bs _ _ e).2
  rw[z,hP] at this;cases this
 have hgP:mainGlobals≠t.P:=by
  obtain⟨o,_,_,e,_⟩:=I.mod.glob
  exact nbase e
 have hb:s.heap.BuiltinsAt X.mg t.P:=by
  obtain⟨bm,o,b1,b2,b3,b4,b5⟩:=TB.bm
  exact⟨bm,o,b1,b2,b3,nbase b4,I.bk _ _ b4,b5⟩
 cases hc:codeAmong pos tv.toList with
 | none =>
  refine W.kla_makeFunction hcl I.ok.glob hg hcode C eP tr hc hgP hb fun c' ctv h' tk hx hge hlt hrec htb=>?_
  have hcs:∀{b:Addr} {u:HO},H b=some u->b≠c'/\b≠h'.objs.size:=fun e=>by
   have q:=I.hok.lt e
   exact⟨Nat.ne_of_lt (Nat.lt_of_lt_of_le q hge),Nat.ne_of_lt (Nat.lt_of_lt_of_le q (Nat.le_trans hge (Nat.le_of_lt hlt)))⟩
  have hF:H h'.objs.size=none:=I.hok.fresh (Nat.le_trans hge (Nat.le_of_lt hlt))
  have hCn:H c'=none:=I.hok.fresh hge
  refine⟨h'.objs.size,c',ctv,_,upd (upd H c' (.tbl t.q true)) h'.objs.size (vX (W.kla_obj name t.q params body scope clos ((X.mg "__name__").getD .none) c' ctv)),rfl,?_,fun b u e=>?_,hF,av,?_⟩
  ·have kp:∀b o,b≠t.P->s.heap.get? b=some o->(h'.push (W.kla_obj name t.q params body scope clos ((X.mg "__name__").getD .none) c' ctv)).get? b=some o:=fun b o nb e=>Heap.get?_push_of_some _ (hx b o nb e)
   have nP:∀{b:Addr},H b=none->b≠t.P:=fun e z=>by rw[z,hP] at e;cases e
   have st:∀{b:Addr} {u:HO},H b=some u->upd (upd H c' (.tbl t.q true)) h'.objs.size (vX (W.kla_obj name t.q params body scope clos ((X.mg "__name__").getD .none) c' ctv)) b=some u:=fun e=>by rw[aq (hcs e).2,aq (hcs e).1];exact e
   refine I.un ⟨fun b o e n _ _=>kp b o (nP n) e,fun b o e n _ _=>⟨o.slots,kp b o (nP n) e⟩,fun b o e n _=>?_,fun b o e _=>?_,fun b xs e=>st e,fun b o u _ e=>st e,fun b q d e=>st e⟩ fun b u e=>?_
   ·have q:=Heap.lt_size e
    rw[aq (Nat.ne_of_lt (Nat.lt_of_lt_of_le q (Nat.le_trans hge (Nat.le_of_lt hlt)))),aq (Nat.ne_of_lt (Nat.lt_of_lt_of_le q hge))];exact n
   ·by_cases hb:b=t.P
    ·exact⟨_,by rw[hb];exact Heap.get?_push_of_some _ htb⟩
    ·exact⟨o,kp b o hb e⟩
   ·by_cases hbf:b=h'.objs.size
    ·subst hbf
     rw[av] at e
     cases e
     exact⟨Heap.get?_push_size _ rfl,trivial,⟨_,Heap.get?_push_size _ rfl⟩,fun _ _ _ _=>trivial⟩
    ·rw[aq hbf] at e
     by_cases hbc:b=c'
     ·subst hbc
      rw[av] at e
      cases e
      exact hrec.push _
     ·rw[aq hbc] at e
      by_cases hbP:b=t.P
      ·subst hbP
       rw[hP] at e
       cases e
       refine⟨_,Heap.get?_push_of_some _ htb,by rw[Array.toList_append];exact yd tr,fun pos' cv hcv=>?_⟩
       rw[Array.toList_append] at hcv
       rcases zK tr hcv with z | z
       ·obtain⟨c2,e1,e2⟩:=ent pos' cv z
        exact⟨c2,e1,st e2⟩
       ·exact⟨c',z,by rw[aq (Nat.ne_of_lt hlt),av]⟩
      ·refine(I.hok b u e).stay (fun c v hcb r=>kp c v (fun z=>?_) r) (fun c r=>st r) (fun c xs r=>st r) fun c q d r=>st r
       rcases hcb with rfl | hcb
       ·exact hbP z
       ·rw[z,hP] at hcb;cases hcb
  ·rw[aq (hcs e).2,aq (hcs e).1];exact e
  ·rw[aq (Nat.ne_of_lt hlt),av]
 | some cv =>
  obtain⟨c',rfl,hcC⟩:=ent pos cv hc
  refine W.kla_makeFunctionHit hcl I.ok.glob hg hcode C eP tr hc hb fun ctv h' tk hk hsz=>?_
  have hcs:∀{b:Addr} {u:HO},H b=some u->b≠h'.objs.size:=fun e=>by
   exact Nat.ne_of_lt (Nat.lt_of_lt_of_le (I.hok.lt e) hsz)
  have hF:H h'.objs.size=none:=I.hok.fresh hsz
  refine⟨h'.objs.size,c',ctv,_,upd H h'.objs.size (vX (W.kla_obj name t.q params body scope clos ((X.mg "__name__").getD .none) c' ctv)),rfl,?_,fun b u e=>?_,hF,av,?_⟩
  ·have kp:∀b o,s.heap.get? b=some o->(h'.push (W.kla_obj name t.q params body scope clos ((X.mg "__name__").getD .none) c' ctv)).get? b=some o:=fun b o e=>Heap.get?_push_of_some _ (hk b o e)
   have st:∀{b:Addr} {u:HO},H b=some u->upd H h'.objs.size (vX (W.kla_obj name t.q params body scope clos ((X.mg "__name__").getD .none) c' ctv)) b=some u:=fun e=>by rw[aq (hcs e)];exact e
   refine I.un ⟨fun b o e n _ _=>kp b o e,fun b o e n _ _=>⟨o.slots,kp b o e⟩,fun b o e n _=>?_,fun b o e _=>⟨o,kp b o e⟩,fun b xs e=>st e,fun b o u _ e=>st e,fun b q d e=>st e⟩ fun b u e=>?_
   ·rw[aq (Nat.ne_of_lt (Nat.lt_of_lt_of_le (Heap.lt_size e) hsz))];exact n
   ·by_cases hbf:b=h'.objs.size
    ·subst hbf
     rw[av] at e
     cases e
     exact⟨Heap.get?_push_size _ rfl,trivial,⟨_,Heap.get?_push_size _ rfl⟩,fun _ _ _ _=>trivial⟩
    ·rw[aq hbf] at e
     exact(I.hok b u e).stay (fun c v _ r=>kp c v r) (fun c r=>st r) (fun c xs r=>st r) fun c q d r=>st r
  ·rw[aq (hcs e)];exact e
  ·rw[aq (hcs hcC)];exact hcC
end
theorem u5{α:Type}:∀{l:List (Str×α)} {x:Str} {u:α},(l.map (·.1)).Nodup->(x,u)∈l->l.lookup x=some u
 | (y,v)::l,x,u,nd,h=>by
  rw[List.map_cons,List.nodup_cons] at nd
  rw[List.lookup_cons]
  rcases List.mem_cons.mp h with e | h
  ·cases e;simp
  ·have hn:(x==y)=false:=beq_eq_false_iff_ne.mpr fun z=>nd.1 (List.mem_map.mpr ⟨(x,u),h,z⟩)
   rw[hn]
   exact u5 nd.2 h
def tJ(cl:List (Str×Addr))(b:Addr):Bool:=cl.any fun p=>p.2==b
def t7(cl:List (Str×Addr))(H:Hp):Hp:=fun b=>if tJ cl b then none else H b
def vt(cl:List (Str×Addr))(H H2:Hp):Hp:=fun b=>if tJ cl b then H b else H2 b
theorem CO{cl:List (Str×Addr)}{x:Str}{c:Addr}(h:cl.lookup x=some c):tJ cl c=true:=List.any_eq_true.mpr ⟨(x,c),PySem.mem_of_lookup h,by simp⟩
structure uO (N ps:List Str) (sc:Scope) (cl:List (Str×Addr)):Prop where
 kind:sc.kind=.function
 co:sc.isCoroutine=false
 gen:sc.isGenerator=false
 nd:N.Nodup
 pre:N.take ps.length=ps
 par:∀x∈ps,sc.names.lookup x=some .local
 nocell:∀y∈sc.names,y.2≠.cell
 fre:∀x∈N.drop ps.length,sc.names.lookup x=some .free
 has:∀x,sc.names.lookup x=some .free->∃c,cl.lookup x=some c
 ndc:(cl.map (·.1)).Nodup
 inj:∀x y c,cl.lookup x=some c->cl.lookup y=some c->x=y
def xF(H:Hp)(N ps:List Str)(cl:List (Str×Addr))(caps:List V):Prop:=
 caps.length=N.length - ps.length/\(∀b,tJ cl b=true->∃o u,H b=some (vX o)/\o.data=.cell (some u))/\∀(i:Nat) (x:Str) (v:V),(N.drop ps.length)[i]?=some x->caps[i]?=some v->∃c o u,cl.lookup x=some c/\H c=some (vX o)/\o.data=.cell (some u)/\RelV v u
theorem xF.to{H H':Hp}{N ps:List Str}{cl:List (Str×Addr)}{caps:List V}(h:xF H N ps cl caps)(s:∀b o,H b=some (vX o)->H' b=some (vX o)):xF H' N ps cl caps:=by
 obtain⟨h1,h2,h3⟩:=h
 refine⟨h1,fun b hb=>?_,fun i x v q1 q2=>?_⟩
 ·obtain⟨o,u,e,d⟩:=h2 b hb
  exact⟨o,u,s b o e,d⟩
 ·obtain⟨c,o,u,e1,e2,r⟩:=h3 i x v q1 q2
  exact⟨c,o,u,e1,s c o e2,r⟩
noncomputable def zA(CX:BK)(P:Program)(w:World)(K:W.Frag)(mg:Str->Option Value)(base:Heap)(N:List Str)(qual:Str)(scope:Scope)(cl:List (Str×Addr))(f:Addr)(cd:Value)(A:Around)(outer:List Env)(s:Shared)(H:Hp)(E:XK):Cx where
 prog:=P
 w:=w
 K:=K
 mg:=mg
 base:=base
 A:=A.deeper (W.envX qual scope s.heap.objs.size f cd cl)
 N:=N
 s₀:=s
 H₀:=t7 cl H
 env:=W.envX qual scope s.heap.objs.size f cd cl
 outer:=outer
 stack:=W.envX qual scope s.heap.objs.size f cd cl::outer
 ex:=[]
 calm:=true
 fn:=fun _=>false
 pn:=[]
 xe:=fun e s'=>wpAny (model P w) (A.deeper (W.envX qual scope s.heap.objs.size f cd cl)) (leaving (W.envX qual scope s.heap.objs.size f cd cl) e) (fun _ s''=>CX outer H s E e s'') (fun e' s''=>CX outer H s E e' s'') s'
theorem IK {CX:BK} {P:Program} {w:World} {K:W.Frag} {mg:Str->Option Value} {base:Heap} {k:Nat} {f c':Addr} {name qual:Str} {params:Arguments} {body:Expr} {scope:Scope} {cl:List (Str×Addr)} {pm ctv:Value} {N ps:List Str} {sp:Sp}
    (S:uO N ps scope cl) (len:∀vs H Q E,sp vs H Q E->vs.length=ps.length)
    (pre:∀vs H Q E,sp vs H Q E->H f=some (vX (W.kla_obj name qual params body scope cl pm c' ctv))/\H c'=some (.tbl qual true))
    (hbody:∀(A:Around) (outer:List Env) (s:Shared) (H:Hp) (vs:List V) (Q:VK) (E:XK),sL k (A.deeper (W.envX qual scope s.heap.objs.size f (.ref c') cl))->yB P w K mg base A outer s H->sp vs H Q E ->
      ∃caps t,xF H N ps cl caps/\PE (zA CX P w K mg base N qual scope cl f (.ref c') A outer s H E) body t/\t ((vs++caps).map some) (t7 cl H) fun v H2=>(∀b u,H2 b=some u->vt cl H H2 b=some u)->Q v (vt cl H H2)) :
    k6 P w K mg base CX (k+1) f (W.kla_fn name qual params body scope cl pm (.ref c') ctv) ps sp:=by
  refine⟨len,fun A outer s H args us vs Q E hr e0 hb r hsp=>?_⟩
  have hl:=len _ _ _ _ hsp
  obtain⟨hf,hc'⟩:=pre _ _ _ _ hsp
  obtain⟨caps,t,⟨cl1,cl2,cl3⟩,ht,hq⟩:=hbody A outer s H vs Q E (hr.deeper _) e0 hsp
  have lim:s.heap.NoLimit:=e0.mod.nolimit.keeps fun b o e=>(e0.bs b o e).1
  have ndP:ps.Nodup:=by rw[<- S.pre];exact S.nd.sublist (List.take_sublist _ _)
  have hpl:ps.length<=N.length:=by have:=congrArg List.length S.pre;rw[List.length_take] at this;omega
  have hul:us.length=ps.length:=by rw[<- r.length];exact hl
  have dr:∀{b:Addr} {u:HO},H b=some u->(∀o,u≠vX o)->tJ cl b=false:=fun {b u} e n=>by
    cases q:tJ cl b with
    | false=>rfl
    | true=>obtain⟨o,v,z,_⟩:=cl2 b q;rw[e] at z;cases z;exact absurd rfl (n o)
  have dk:∀{b:Addr} {u:HO},H b=some u->(∀o,u≠vX o)->t7 cl H b=some u:=fun {b u} e n=>by
    show(if tJ cl b then none else H b)=_
    rw[dr e n];exact e
  have dn:∀{b:Addr},H b=none->t7 cl H b=none:=fun {b} e=>by
    show(if tJ cl b then none else H b)=_
    split
    · rfl
    · exact e
  refine W.kla_callFunE hr.depth (e0.hok f _ hf).1 rfl S.co S.gen rfl (show ui P w H s.heap c' (.tbl qual true) from e0.hok c' _ hc') (hb _ _ _ _ ?_)
  refine wpAny_newFunctionEnv S.nocell (fun ⟨n,v⟩ hy=>S.par n (List.of_mem_zip hy).1) (fun h₁ hns hsb=>⟨lim.fresh _ hsb,?_⟩) S.kind
  show codeAny _ _ (.expr body (W.envX qual scope s.heap.objs.size f (.ref c') cl)) _ _
  have hk:∀b o,s.heap.get? b=some o->h₁.get? b=some o:=fun b o e=>hsb.extBut b o (Nat.ne_of_lt (Heap.lt_size e)) (Heap.get?_push_of_some _ e)
  have noA:∀b:Addr,b∉(zA CX P w K mg base N qual scope cl f (.ref c') A outer s H E).ex:=fun b z=>absurd (show b∈([]:List Addr) from z) (by simp)
  have hcell:∀x c,cl.lookup x=some c->∃u,h₁.IsCell c (some u):=fun x c e=>by
    obtain⟨o,u,z,d⟩:=cl2 c (CO e)
    exact⟨u,o,hk _ _ (e0.hok c _ z).1,d⟩
  have I:L2.Inv (zA CX P w K mg base N qual scope cl f (.ref c') A outer s H E) [] ((vs++caps).map some) (t7 cl H) {s with heap:=h₁,toks:=s.toks+(ps.zip us).length}:=by
    refine⟨⟨e0.mod,S.kind,rfl,rfl,Nat.le_refl _,S.inj,fun y hy=>?_,fun y c z _=>(by cases z),fun _=>hr.hd,Around.frames_deeper e0.frames,.inr ⟨rfl,rfl⟩,fun b z=>absurd z (noA b),fun b o e=>⟨(e0.bs b o e).1,dn (e0.bs b o e).2⟩,e0.bsz,fun b _ _=>noA b,fun b z=>absurd z (noA b),e0.funs,fun b hb=>dn (e0.frf b hb)⟩,
      rfl,e0.bare,Un.kept hk,⟨_,hns,fun i y v h1 h2 h3=>?_⟩,fun y c h=>let ⟨u,z⟩:=hcell y c h;⟨_,z⟩,dn (e0.hok.fresh (Nat.le_refl _)),fun y c h=>?_,fun p hp=>absurd (show p∈([]:List (Addr×Obj)) from hp) (by simp),fun b u e=>?_,?_⟩
    · have hy:scope.names.lookup y=some .cell\/scope.names.lookup y=some .free:=hy
      rcases hy with hy | hy
      · exact absurd rfl (S.nocell _ (PySem.mem_of_lookup hy))
      · exact S.has y hy
    · rw[List.getElem?_map] at h2
      cases e:(vs++caps)[i]? with
      | none=>rw[e] at h2;cases h2
      | some z =>
        rw[e] at h2
        cases h2
        by_cases hi:i<vs.length
        · rw[List.getElem?_append_left hi] at e
          obtain⟨u,hu,rv⟩:=r.get e
          have hp:ps[i]?=some y:=by rw[<- S.pre,List.getElem?_take_of_lt (by omega)];exact h1
          refine⟨u,rv,.inl ⟨S.par y (List.mem_of_getElem? hp),?_⟩⟩
          show(ps.zip us).reverse.lookup y=some u
          refine u5 ?_ ?_
          · rw[List.map_reverse,List.map_fst_zip (by omega),List.Nodup,List.pairwise_reverse];exact ndP.imp fun h=>Ne.symm h
          · rw[List.mem_reverse]
            exact List.mem_of_getElem? (i:=i) (List.getElem?_zip_eq_some.mpr ⟨hp,hu⟩)
        · rw[List.getElem?_append_right (by omega)] at e
          have hd:(N.drop ps.length)[i - vs.length]?=some y:=by rw[List.getElem?_drop,show ps.length+(i - vs.length)=i by omega];exact h1
          obtain⟨c,o,u,h4,h5,h6,h7⟩:=cl3 _ y v hd e
          exact⟨u,h7,.inr ⟨.inr (S.fre y (List.mem_of_getElem? hd)),c,h4,o,hk _ _ (e0.hok c _ h5).1,h6⟩⟩
    · show(if tJ cl c then none else H c)=none
      rw[CO (show cl.lookup y=some c from h)];rfl
    · have e':(if tJ cl b then none else H b)=some u:=e
      cases q:tJ cl b with
      | true=>rw[q] at e';cases e'
      | false =>
        rw[q] at e'
        exact(e0.hok b u e').stay (fun c v _ g=>hk c v g) (fun c g=>dk g fun o z=>by cases z) (fun c xs g=>dk g fun o z=>by cases z) fun c a d g=>dk g fun o z=>by cases z
    · show((vs++caps).map some).length=N.length
      rw[List.length_map,List.length_append,cl1,hl];omega
  refine W.kla_codeExpr (wpAny_mono (ht [] _ _ _ _ I hq) (fun u s' hs=>?_) fun e s' hs=>hs)
  obtain⟨v,H2,J,rv,q⟩:=hs
  have cellKept:∀{b:Addr},tJ cl b=true->∃o,H b=some (vX o)/\s'.heap.get? b=some o:=fun {b} hb=>by
    obtain⟨o,u',z,_⟩:=cl2 b hb
    have hfr:b∉vR outer:=fun m=>by rw[e0.frf b m] at z;cases z
    exact⟨o,z,J.base.keep b o (e0.hok b _ z).1 (by show(if tJ cl b then none else H b)=none;rw[hb];rfl) hfr (noA b)⟩
  have bk:∀{b:Addr} {u:HO},H2 b=some u->vt cl H H2 b=some u:=fun {b u} e=>by
    show(if tJ cl b then H b else H2 b)=_
    cases qq:tJ cl b with
    | false=>exact e
    | true =>
      obtain⟨p,hp,hpb⟩:=List.any_eq_true.mp qq
      have this:∃x,cl.lookup x=some b:=⟨p.1,u5 S.ndc (by rw[<- eq_of_beq hpb];exact hp)⟩
      obtain⟨x,hx⟩:=this
      have:=J.freeC x b hx
      rw[this] at e;cases e
  have bc:∀{b:Addr},tJ cl b=true->vt cl H H2 b=H b:=fun {b} hb=>by show(if tJ cl b then H b else H2 b)=_;rw[hb];rfl
  have bn:∀{b:Addr},tJ cl b=false->vt cl H H2 b=H2 b:=fun {b} hb=>by show(if tJ cl b then H b else H2 b)=_;rw[hb];rfl
  refine⟨v,vt cl H H2,J.os,J.bare,⟨fun b o e n hf' hx=>J.base.keep b o e (dn n) hf' (noA b),fun b o e n hf' hx=>J.base.slot b o e (dn n) hf' (noA b),fun b o e n hx=>?_,fun b o e hx=>J.base.there b o e (noA b),fun b xs e=>bk (J.base.tups b xs (dk e fun o z=>by cases z)),fun b o u ny e=>?_,fun b a d e=>bk (J.base.tbls b a d (dk e fun o z=>by cases z))⟩,fun b u e=>?_,rv,q fun b u e=>bk e⟩
  · cases hb:tJ cl b with
    | true=>rw[bc hb];exact n
    | false=>rw[bn hb];exact J.base.free b o e (dn n) (noA b)
  · cases hb:tJ cl b with
    | true=>rw[bc hb];exact e
    | false =>
      rw[bn hb]
      refine J.base.frzs b o u ny ?_
      show(if tJ cl b then none else H b)=_
      rw[hb];exact e
  · cases hb:tJ cl b with
    | true =>
      obtain⟨o,z,g⟩:=cellKept hb
      rw[bc hb,z] at e
      cases e
      exact⟨g,trivial,⟨_,g⟩,fun _ _ _ _=>trivial⟩
    | false =>
      rw[bn hb] at e
      exact(J.hok b u e).stay (fun c v _ g=>g) (fun c g=>bk g) (fun c xs g=>bk g) fun c a d g=>bk g
end HW
namespace HW
open PySem
open Sem (wp)
section
variable{prog:Program}{w:World}{A:Around}{E:Value->Shared->Prop}{h:Heap}{g:Array GenState}{d:Drawn}{t:Nat}{os:OsState}{a:Addr}{o:Obj}{tk:Tok}
end
open Sem (wp)
section
variable{M:Model}{A:Around}{E:Value->Shared->Prop}{h:Heap}{g:Array GenState}{d:Drawn}{t:Nat}{os:OsState}{K:W.Frag}{C Wz:Addr}{newId nW:String}
theorem Bs(T:CH K C Wz newId nW)(x:K.In h){n:Str}{y:Option Value}{Q:Option Value->Shared->Prop}(hn:n∈Ko)(hy:typeLookup (.type "ValueError") n=pure y)(hq:Q y ⟨h,g,d,t,os⟩):wpAny M A (typeLookup (.ref C) n) Q E ⟨h,g,d,t,os⟩:=by
 obtain⟨N,nm,q,bs,hdct,sn,sub,ab,col,dd,k0,k1,k2,k3,k5,mN,hqn,hh⟩:=T.own
 obtain⟨N',nm',q',bs',hdct',sn',sub',ab',col',dd',j0,j1,j2,j3,j5,mN',hqn',hh'⟩:=T.base
 have hrest:lookupAlong VE n=pure y:=by rw[typeLookup_eq,F.excBase_ValueError.mroIs] at hy;exact hy
 rw[typeLookup_eq]
 refine wpAny_bind (wpAny_mroOf_exc (hh h x).1 ?_)
 rw[lookupAlong_cons]
 refine wpAny_bind (wpAny_classOwn_exc (hh h x).1 (hh h x).2 ?_)
 rw[hqn n hn]
 show wpAny M A (lookupAlong (.ref Wz::VE) n) Q E _
 rw[lookupAlong_cons]
 refine wpAny_bind (wpAny_classOwn_exc (hh' h x).1 (hh' h x).2 ?_)
 rw[hqn' n hn]
 show wpAny M A (lookupAlong VE n) Q E _
 rw[hrest]
 exact wpAny_pure hq
theorem C8(T:CH K C Wz newId nW)(x:K.In h){b:Value}{Q:Bool->Shared->Prop}(hq:Q ((Value.ref C::.ref Wz::VE).contains b) ⟨h,g,d,t,os⟩):wpAny M A (isSubtype (.ref C) b) Q E ⟨h,g,d,t,os⟩:=by
 obtain⟨N,nm,q,bs,hdct,sn,sub,ab,col,dd,k0,k1,k2,k3,k5,mN,hqn,hh⟩:=T.own
 exact wpAny_isSubtype_exc (hh h x).1 hq
end
theorem JH:typeLookup (.type "ValueError") "__class__" = pure (some (.builtin "object.__class__")):=by rw[typeLookup_type,builtinLookup_eq_fast];kernel_rfl
section
variable{prog:Program}{w:World}{A:Around}{E:Value->Shared->Prop}{h:Heap}{g:Array GenState}{d:Drawn}{t:Nat}{os:OsState}{a:Addr}{o:Obj}{tk:Tok}{K:W.Frag}{C Wz:Addr}{newId nW:String}
theorem J9{R:Result->Shared->Prop}(T:CH K C Wz newId nW)(x:K.In h)(hx:h.get? a=some o)(hc:o.cls=.ref C)(hq:R (.ok (.ret (.ref C))) ⟨h,g,d,t,os⟩) :
  codeAny (model prog w) A (.call (.builtin "getset_descriptor.__get__") ⟨[.builtin "object.__class__",.ref a,.ref C],[]⟩) R ⟨h,g,d,t,os⟩:=by
 have hT5:(⟨h,g,d,t,os⟩:Shared).TypeIs (.builtin "object.__class__") "getset_descriptor":=F.typeOf_object_class
 have hcO:(Value.ref C::.ref Wz::VE).contains (.type (".".intercalate ("object.__class__".cutAt '.').dropLast))=true:=by rw[F.owner_object_class];rfl
 refine codeAny_call_builtin F.slot_gs_get.plain F.entry_gs_get (F.slot_gs_get.check _ _ _ _ _ _ _ _ hT5 (F.args_gs_get _ _ _) ?_)
 repeat (any_goals (first | assumption | (with_reducible refine wpAny_loadPart_at hx ?_;rw[hc]) | (with_reducible refine C8 T x ?_;rw[hcO]) | wp_step))
 refine⟨Code.quiet_builtin _ (by decide +kernel),codeAny_builtin F.entry_object_class ?_⟩
 repeat (any_goals (first | assumption | (with_reducible refine wpAny_loadPart_at hx ?_;rw[hc]) | wp_step))
theorem Jp{Q:Fin->Shared->Prop}(T:CH K C Wz newId nW)(x:K.In h)(hx:h.get? a=some o)(hc:o.cls=.ref C)(hq:Q (.done (.ret (.ref C))) ⟨h,g,d,t,os⟩) :
  wpAny (model prog w) A (Builtin.«object.__getattribute__» ⟨[.ref a,.str "__class__" tk],[]⟩) Q E ⟨h,g,d,t,os⟩:=by
 have hT5:(⟨h,g,d,t,os⟩:Shared).TypeIs (.builtin "object.__class__") "getset_descriptor":=F.typeOf_object_class
 have f5:=F.typeOf_object_class
 have f6:=F.slot_gs_get.lookup
 have f7:=F.slot_gs_set.lookup
 have hm:("__class__" : Str)∈Ko:=.tail _ (.tail _ (.tail _ (.head _)))
 repeat (any_goals (first | assumption | (with_reducible refine wpAny_loadPart_at hx ?_;rw[hc]) | with_reducible refine Bs T x hm JH ?_ | wp_step))
 refine J9 T x hx hc ?_
 repeat (any_goals (first | assumption | wp_step))
theorem FT{M:Model}{nameV:Value}{Q:Unit->Shared->Prop}(T:CH K C Wz newId nW)(x:K.In h)(hx:h.get? a=some o)(hc:o.cls=.ref C)(hq:Q () ⟨h,g,d,t,os⟩):wpAny M A (checkBuiltinCall "BaseException.__getattribute__" ⟨[.ref a,nameV],[]⟩) Q E ⟨h,g,d,t,os⟩:=by
 have hk:builtinKind "BaseException.__getattribute__" = some .slot:=by decide +kernel
 have hs:splitId "BaseException.__getattribute__" = some ("BaseException","__getattribute__"):=by decide +kernel
 have hcB:(Value.ref C::.ref Wz::VE).contains (.type "BaseException")=true:=rfl
 have ha:=F.args_bexc_ga (.ref a) nameV
 simp only[checkBuiltinCall,hk,hs]
 refine wpAny_bind ?_
 ·unfold isInstance
  repeat (first | (with_reducible refine wpAny_loadPart_at hx ?_;rw[hc]) | (with_reducible refine C8 T x ?_;rw[hcB]) | wp_step)
  exact hq
theorem Hs{R:Result->Shared->Prop}(T:CH K C Wz newId nW)(x:K.In h)(hx:h.get? a=some o)(hc:o.cls=.ref C)(hq:R (.ok (.ret (.ref C))) ⟨h,g,d,t,os⟩) :
  codeAny (model prog w) A (.call (.builtin "BaseException.__getattribute__") ⟨[.ref a,.str "__class__" tk],[]⟩) R ⟨h,g,d,t,os⟩:=
 codeAny_call_builtin F.attrBase_ValueError.ga.plain F.entry_bexc_ga (FT T x hx hc (Jp T x hx hc hq))
theorem Ld{Q:Value->Shared->Prop}(T:CH K C Wz newId nW)(x:K.In h)(hx:h.get? a=some o)(hc:o.cls=.ref C)(hq:Q (.ref C) ⟨h,g,d,t,os⟩):wpAny (model prog w) A (getAttrBy (.ref a) (.str "__class__" tk) false) Q E ⟨h,g,d,t,os⟩:=by
 have f3:=F.attrBase_ValueError.ga.bind (.ref a)
 have hx2:(Value.builtin "BaseException.__getattribute__" == Value.builtin "object.__getattribute__")=false:=by decide +kernel
 have hx1:(onTheHeap (Value.ref C)&&Value.builtin "BaseException.__getattribute__" == Value.builtin "object.__getattribute__")=false:=by rw[hx2];rfl
 have hm1:("__getattribute__" : Str)∈Ko:=.tail _ (.head _)
 have hm2:("__getattr__" : Str)∈Ko:=.tail _ (.tail _ (.head _))
 repeat (any_goals (first | assumption | (with_reducible refine wpAny_loadPart_at hx ?_;rw[hc]) | with_reducible refine Bs T x hm1 F.attrBase_ValueError.ga.lookup ?_ | with_reducible refine Bs T x hm2 F.attrBase_ValueError.noGetattr ?_ | wp_step))
 refine Hs T x hx hc ?_
 repeat (any_goals (first | assumption | wp_step))
theorem Hd{Q:Option Value->Shared->Prop}(T:CH K C Wz newId nW)(x:K.In h)(hx:h.get? a=some o)(hc:o.cls=.ref C)(hq:Q (some (.ref C)) ⟨h,g,d,t+1,os⟩):wpAny (model prog w) A (getAttr? (.ref a) "__class__") Q E ⟨h,g,d,t,os⟩:=by
 unfold getAttr? getAttrBy?
 repeat (any_goals (first | assumption | with_reducible apply Ld T x hx hc | wp_step))
end
theorem Fv{K:W.Frag}{C Wz:Addr}{newId nW:String}{a:Addr}{o:Obj}(T:CH K C Wz newId nW)(hc:o.cls=.ref C):W.KitX K (.ref a) (.ref C) (fun h=>h.get? a=some o) where
 ty:=fun M h _ p=>hc ▸ (W.Looks.ld p).andThen .now
 it:=fun M h X _=>by
  obtain⟨N,nm,q,bs,hdct,sn,sub,ab,col,dd,k0,k1,k2,k3,k5,mN,hqn,hh⟩:=T.own
  intro A' Q' E' s' k q
  unfold isType loadHead
  exact wpAny_bind (wpAny_loadPart (k _ _ (hh h X).1) (wpAny_pure q))
 ne:=fun h tp dd its n sl X htp=>by
  obtain⟨N,nm,q,bs,hdct,sn,sub,ab,col,dd',k0,k1,k2,k3,k5,mN,hqn,hh⟩:=T.own
  refine Bool.eq_false_iff.mpr fun q=>?_
  have e:C=tp:=Value.ref.inj (beq_iff_eq.mp q)
  subst e
  rw[(hh h X).1] at htp
  have z:Value.type "type" = Value.type "tuple":=congrArg Obj.cls (Option.some.inj htp)
  exact absurd (Value.type.inj z) (by decide)
 ca:=fun {_ _ _ _ _ s} X p k=>by
  obtain⟨h,g,d,t,os⟩:=s
  exact Hd T X p hc k
end HW
namespace HW
open PySem PySem.Spec PyProof.Rows L2
abbrev H_(X:Cx)(pins:List (Addr×Obj))(E:Value->Shared->Prop):Cx:={X with pn:=X.pn++pins,xe:=E}
abbrev N2(X:Cx)(pins:List (Addr×Obj))(e:Addr):Cx:={X with A:=X.A.mark (some (.ref e)),calm:=false,pn:=X.pn++pins,xe:=fun _ _=>False}
abbrev Lq(X:Cx)(pins:List (Addr×Obj))(e:Addr)(oe:Obj):Cx:={X with A:=X.A.mark (some (.ref e)),calm:=false,pn:=(X.pn++pins)++[(e,oe)],xe:=fun _ _=>False}
section
variable{X:Cx}{pins pins':List (Addr×Obj)}{σ:L2.St}{H:Hp}{s:Shared}{E:Value->Shared->Prop}{e:Addr}{oe:Obj}
theorem LP(I:L2.Inv X pins σ H s):L2.Inv (H_ X pins E) [] σ H s:=
 ⟨⟨I.ok.mod,I.ok.kind,I.ok.glob,I.ok.blt,I.ok.above,I.ok.inj,I.ok.has,I.ok.cab,I.ok.hd,I.ok.frames,I.ok.stk,I.ok.exf,I.ok.bs,I.ok.bsz,I.ok.noex,I.ok.exfs,I.ok.funs,I.ok.frf⟩,I.os,I.bare,I.base,I.loc,I.cell,I.free,I.freeC,fun p hp=>I.pin p (by rw[List.append_nil] at hp;exact hp),I.hok,I.len⟩
theorem DY(I:L2.Inv (H_ X pins E) pins' σ H s):L2.Inv X pins σ H s:=
 ⟨⟨I.ok.mod,I.ok.kind,I.ok.glob,I.ok.blt,I.ok.above,I.ok.inj,I.ok.has,I.ok.cab,I.ok.hd,I.ok.frames,I.ok.stk,I.ok.exf,I.ok.bs,I.ok.bsz,I.ok.noex,I.ok.exfs,I.ok.funs,I.ok.frf⟩,I.os,I.bare,I.base,I.loc,I.cell,I.free,I.freeC,fun p hp=>I.pin p (List.mem_append_left _ hp),I.hok,I.len⟩
theorem Ll(I:L2.Inv X pins σ H s)(e:Addr):L2.Inv (N2 X pins e) [] σ H s:=
 ⟨⟨I.ok.mod,I.ok.kind,I.ok.glob,I.ok.blt,I.ok.above,I.ok.inj,I.ok.has,I.ok.cab,fun z=>(by cases z),I.ok.frames,I.ok.stk,I.ok.exf,I.ok.bs,I.ok.bsz,I.ok.noex,I.ok.exfs,I.ok.funs,I.ok.frf⟩,I.os,I.bare,I.base,I.loc,I.cell,I.free,I.freeC,fun p hp=>I.pin p (by rw[List.append_nil] at hp;exact hp),I.hok,I.len⟩
theorem LW(I:L2.Inv X pins σ H s)(he:s.heap.get? e=some oe)(hn:H e=none)(hl:e≠X.env.locals)(hf:e∉X.fs)(hd:∀v,oe.data≠.cell v):L2.Inv (Lq X pins e oe) [] σ H s:=
 ⟨⟨I.ok.mod,I.ok.kind,I.ok.glob,I.ok.blt,I.ok.above,I.ok.inj,I.ok.has,I.ok.cab,fun z=>(by cases z),I.ok.frames,I.ok.stk,I.ok.exf,I.ok.bs,I.ok.bsz,I.ok.noex,I.ok.exfs,I.ok.funs,I.ok.frf⟩,I.os,I.bare,I.base,I.loc,I.cell,I.free,I.freeC,fun p hp=>by
  rw[List.append_nil] at hp
  rcases List.mem_append.mp hp with z | z
  ·exact I.pin p z
  ·rw[List.mem_singleton.mp z]
   exact⟨he,hn,hl,hf,hd⟩,I.hok,I.len⟩
theorem G4(I:L2.Inv (Lq X pins e oe) pins' σ H s)(hd:X.calm=true->X.A.handled=none):L2.Inv X pins σ H s:=
 ⟨⟨I.ok.mod,I.ok.kind,I.ok.glob,I.ok.blt,I.ok.above,I.ok.inj,I.ok.has,I.ok.cab,hd,I.ok.frames,I.ok.stk,I.ok.exf,I.ok.bs,I.ok.bsz,I.ok.noex,I.ok.exfs,I.ok.funs,I.ok.frf⟩,I.os,I.bare,I.base,I.loc,I.cell,I.free,I.freeC,fun p hp=>I.pin p (List.mem_append_left _ (List.mem_append_left _ hp)),I.hok,I.len⟩
theorem FN{j t:Nat}{n:Str}{v:Option Value}{m:Str->Option Value}{h':Heap}(I:L2.Inv X pins σ H s)(hN:X.N.Nodup)(hj:X.N[j]?=some n)
  (hl:∀(i:Nat) (x:Str) (w:V),X.N[i]?=some x->σ[i]?=some (some w)->z8 X.env.scope x->∃u,RelV w u/\Look X.env s.heap m x u) (hn:h'.Ns X.env.locals (fun x=>if x=n then v else m x)) (hs:Heap.SameBut X.env.locals s.heap h'):L2.Inv X pins (σ.set j none) H {s with heap:=h',toks:=t}:=by
 have cne:∀x c,X.env.cells.lookup x=some c->c≠X.env.locals:=fun x c hc z=>by
  obtain⟨v,o,ho,hd⟩:=I.cell x c hc
  obtain⟨m',⟨o',es,ep,ho',hd',_⟩,_⟩:=I.loc
  rw[z,ho'] at ho
  cases ho
  rw[hd'] at hd
  cases hd
 have cellK:∀x c w,X.env.cells.lookup x=some c->s.heap.IsCell c w->h'.IsCell c w:=fun x c w hc ⟨o,ho,hd⟩=>⟨o,(hs.2 c (cne x c hc)).trans ho,hd⟩
 have ne0:∀b o,X.s₀.heap.get? b=some o->b≠X.env.locals:=fun b o hb=>Nat.ne_of_lt (Nat.lt_of_lt_of_le (Heap.lt_size hb) I.ok.above)
 refine⟨I.ok,I.os,I.bare,⟨fun b o e n hb hx=>(hs.2 b (ne0 b o e)).trans (I.base.keep b o e n hb hx),fun b o e n hb hx=>?_,I.base.free,fun b o e hx=>?_,I.base.tups,I.base.frzs,I.base.tbls⟩,⟨_,hn,fun i x w h1 h2 h3=>?_⟩,fun x c hc=>?_,I.free,I.freeC,fun p hp=>?_,fun b ob e=>?_,by rw[List.length_set];exact I.len⟩
 ·obtain⟨sl,e1⟩:=I.base.slot b o e n hb hx
  exact⟨sl,(hs.2 b (ne0 b o e)).trans e1⟩
 ·obtain⟨o',e1⟩:=I.base.there b o e hx
  exact⟨o',(hs.2 b (ne0 b o e)).trans e1⟩
 ·have hij:i≠j:=fun z=>by
   subst z
   have hlt:i<σ.length:=by rw[I.len];exact(List.getElem?_eq_some_iff.mp hj).1
   rw[List.getElem?_set_self hlt] at h2
   cases h2
  rw[List.getElem?_set_ne (Ne.symm hij)] at h2
  obtain⟨u,r,lk⟩:=hl i x w h1 h2 h3
  have hxn:x≠n:=fun z=>hij (zp hN h1 (z ▸ hj))
  refine⟨u,r,?_⟩
  rcases lk with ⟨k,q⟩ | ⟨k,c,hc,z⟩
  ·exact .inl ⟨k,(if_neg hxn).trans q⟩
  ·exact .inr ⟨k,c,hc,cellK x c _ hc z⟩
 ·obtain⟨w,z⟩:=I.cell x c hc
  exact⟨w,cellK x c w hc z⟩
 ·obtain⟨e1,e2,e3,e4,e5⟩:=I.pin p hp
  exact⟨(hs.2 p.1 e3).trans e1,e2,e3,e4,e5⟩
 ·refine(I.hok b ob e).stay (fun c w' hc q=>(hs.2 c ?_).trans q) (fun _ q=>q) (fun _ _ q=>q) fun _ _ _ q=>q
  rintro rfl
  rcases hc with z | hc
  ·rw[<- z,I.free] at e;cases e
  ·rw[I.free] at hc;cases hc
end
section
variable{M:Model}{A:Around}{E:Value->Shared->Prop}{h:Heap}{g:Array GenState}{d:Drawn}{t:Nat}{os:OsState}{K:W.Frag}{C Wz e:Addr}{newId nW:String}{oe:Obj}
theorem FU(T:CH K C Wz newId nW)(x:K.In h){Q:Bool->Shared->Prop}(he:h.get? e=some oe)(hcls:oe.cls=.ref C)(hq:Q true ⟨h,g,d,t,os⟩):wpAny M A (excMatches (.ref e) (.ref Wz)) Q E ⟨h,g,d,t,os⟩:=by
 obtain⟨N',nm',q',bs',hdct',sn',sub',ab',col',dd',j0,j1,j2,j3,j5,mN',hqn',hh'⟩:=T.base
 have hW:=(hh' h x).1
 have hcB:(Value.ref Wz::VE).contains (.type "BaseException")=true:=rfl
 have hcW:(Value.ref C::.ref Wz::VE).contains (.ref Wz)=true:=by simp
 have f:=tc_notTuple
 unfold excMatches
 repeat (first | (with_reducible refine wpAny_loadPart_at he ?_;rw[hcls]) | with_reducible refine wpAny_loadPart_at hW ?_ | (with_reducible refine wpAny_isSubtype_exc hW ?_;rw[hcB]) | (with_reducible refine C8 T x ?_;rw[hcW]) | wp_step)
 exact hq
end
section
variable{X:Cx}{ca:Nat->Addr}{Wz:Addr}{newId nW:String}{x n:Str}{np apos hpos pos:Pos}{tg e0:Expr}{b₀:Stmt}{suite:List Stmt}{fx:XD}{stf:D->R->Option R}{gs:Nat->Nat->R->Option Out}
end
section
variable{X:Cx}{pos p:Pos}{e:Expr}{es:List Expr}{k i:Nat}{f c':Addr}{G:LD->OD}{F:R->Option LD}{name qual:Str}{params:Arguments}{body:Expr}{scope:Scope}{cl:List (Str×Addr)}{pm ctv:Value}{ps:List Str}
theorem HN{M:Model}(h:Heap)(x:h.get? f=some (W.kla_obj name qual params body scope cl pm c' ctv)):∃k,(k=Keeper.frame\/k=Keeper.machine\/k=Keeper.boundFrame)/\W.Looks M h (keeperOf (.ref f)) k:=
 ⟨.frame,.inl rfl,(W.Looks.ld (part:=none) x).andThen .now⟩
end
section
variable{X:Cx}{pins:List (Addr×Obj)}{σ:L2.St}{H:Hp}{s:Shared}{pos:Pos}
theorem rE{t:uZ}{ts:List uZ}{params:Arguments}{body:Expr}{scope:Scope}{clos:List (Str×Addr)}(TB:uK X.mg ts X.base)(ht:t∈ts)(hcode:X.env.code=.ref t.c)(hq:X.env.qual ++ "<lambda>" = t.q)(hcl:closureFor scope X.env=pure clos)(hdef:defaultsOf params X.env=([],[]):=by rfl) :
  PE X (.Lambda params body scope pos) fun σ H Q=>H t.P=some (.tbl t.q false)/\∀f c' ctv pm H',i7 H H'->H f=none->H' f=some (vX (W.kla_obj "<lambda>" t.q params body scope clos pm c' ctv))->H' c'=some (.tbl t.q true)->Q (.ref f) H':=by
 intro pins s σ H Q I ⟨hP,q⟩
 refine W.kla_eval hdef ?_
 rw[hq]
 refine sX (Gn I TB ht hP hcode hcl) fun v s' ⟨f,c',ctv,pm,H',ev,I',sm,hn,h1,h2⟩=>?_
 exact⟨.ref f,H',I',ev,q f c' ctv pm H' sm hn h1 h2⟩
def wy(cl:List (Str×Addr))(h:Heap)(H:Hp):Hp:=fun b=>if tJ cl b then (h.get? b).map vX else H b
theorem yb{cl:List (Str×Addr)}{h:Heap}{b:Addr}{o:Obj}(hb:tJ cl b=true)(e:h.get? b=some o):wy cl h H b=some (vX o):=by
 show(if tJ cl b then (h.get? b).map vX else H b)=_
 rw[if_pos hb,e];rfl
theorem uQ{cl:List (Str×Addr)}{h:Heap}{b:Addr}(hb:tJ cl b=false):wy cl h H b=H b:=by
 show(if tJ cl b then (h.get? b).map vX else H b)=_
 rw[if_neg (by rw[hb];decide)]
theorem uM{cl:List (Str×Addr)}{b:Addr}(hb:tJ cl b=false):t7 cl H b=H b:=by
 show(if tJ cl b then none else H b)=_
 rw[if_neg (by rw[hb];decide)]
theorem Eb{cl:List (Str×Addr)}{b:Addr}(hb:tJ cl b=true):t7 cl H b=none:=by
 show(if tJ cl b then none else H b)=_
 rw[if_pos hb]
theorem GR{k:Nat}{f:Addr}{fd:FuncData}{ps:List Str}{sp:Sp}{cl:List (Str×Addr)}{us:List Value}{vs:List V}{Q:VK}(F:k6 X.prog X.w X.K X.mg X.base sR k f fd ps sp)(hr:sL k X.A)(hb:Binds X.K fd ps [])(hfn:∀x,X.fn x=true)(hcl:∀b,tJ cl b=true->∃x,X.env.cells.lookup x=some b)
  (I:L2.Inv X pins σ H s) (r:l3 vs us) (h:sp vs (wy cl s.heap H) (fun v H'=>Q v (t7 cl H')) E0):wpAny (model X.prog X.w) X.A (call (.ref f) us) (EP X pins σ Q) X.xe s:=by
 have cellO:∀{b:Addr},tJ cl b=true->∃o v,s.heap.get? b=some o/\o.data=.cell v/\H b=none/\X.s₀.heap.objs.size<=b:=fun {b} hb=>by
  obtain⟨x,hx⟩:=hcl b hb
  obtain⟨v,o,e,d⟩:=I.cell x b hx
  exact⟨o,v,e,d,I.freeC x b hx,I.ok.cab x b (hfn x) hx⟩
 have nC:∀{b:Addr} {u:HO},H b=some u->tJ cl b=false:=fun {b u} e=>by
  cases q:tJ cl b with
  | false=>rfl
  | true=>obtain⟨_,_,_,_,z,_⟩:=cellO q;rw[e] at z;cases z
 have tk:∀{b:Addr} {u:HO},H b=some u->wy cl s.heap H b=some u:=fun e=>by rw[uQ (nC e)];exact e
 have hok:xt X.prog X.w (wy cl s.heap H) s.heap:=fun b u e=>by
  cases q:tJ cl b with
  | true =>
   obtain⟨o,_,g,_⟩:=cellO q
   rw[yb q g] at e
   cases e
   exact⟨g,trivial,⟨_,g⟩,fun _ _ _ _=>trivial⟩
  | false =>
   rw[uQ q] at e
   exact(I.hok b u e).stay (fun _ _ _ g=>g) (fun c g=>tk g) (fun c xs g=>tk g) fun c a d g=>tk g
 have low:∀{b:Addr},b<X.s₀.heap.objs.size->tJ cl b=false:=fun {b} hb=>by
  cases q:tJ cl b with
  | false=>rfl
  | true=>obtain⟨_,_,_,_,_,z⟩:=cellO q;exact absurd (Nat.lt_of_lt_of_le hb z) (Nat.lt_irrefl _)
 have e0:yB X.prog X.w X.K X.mg X.base X.A X.stack s (wy cl s.heap H):=by
  have z:=I.env0
  refine⟨z.frames,z.mod,fun b o e=>⟨(z.bs b o e).1,?_⟩,z.bsz,z.funs,fun b hb=>?_,hok,z.bare⟩
  ·rw[uQ (low (Nat.lt_of_lt_of_le (Heap.lt_size e) I.ok.bsz))];exact(z.bs b o e).2
  ·have n:=z.frf b hb
   cases q:tJ cl b with
   | false=>rw[uQ q];exact n
   | true =>
    obtain⟨x,hx⟩:=hcl b q
    rcases List.mem_cons.mp (I.stkSub b hb) with m | m
    ·exact absurd m (I.cne x b hx)
    ·obtain⟨_,o,ho,_⟩:=I.ok.funs.mem m
     rw[low (Heap.lt_size ho)] at q;cases q
 have hl:us.length=ps.length:=by rw[<- r.length];exact F.len _ _ _ _ h
 refine wpAny_call (codeAny_mono (F.run X.A X.stack s (wy cl s.heap H) ⟨us,[]⟩ us vs _ E0 hr e0 (by have:=hb s us I.kIn (by simpa using hl);simpa using this) r h) fun rr s' hq=>?_)
 cases rr with
 | error e=>exact wk pins σ H s e s' I hq
 | ok fl =>
  cases fl with
  | next=>exact False.elim hq
  | brk=>exact False.elim hq
  | cont=>exact False.elim hq
  | ret u =>
   obtain⟨v,H',os,bare,un,hok',rv,q⟩:=hq
   obtain⟨hh,g,d,tt,os'⟩:=s'
   obtain rfl:os'=s.os:=os
   have ck:∀{b:Addr},tJ cl b=true->∃o,s.heap.get? b=some o/\H' b=some (vX o)/\hh.get? b=some o:=fun {b} hb=>by
    obtain⟨o,_,e,_⟩:=cellO hb
    have z:=un.frzs b o _ (fun y w=>by cases w) (yb hb e)
    exact⟨o,e,z,(hok' b _ z).1⟩
   have bk:∀{b:Addr} {u:HO},H' b=some u->(∀o,u≠vX o)->t7 cl H' b=some u:=fun {b u} e n=>by
    cases qq:tJ cl b with
    | false=>rw[uM qq];exact e
    | true=>obtain⟨o,_,z,_⟩:=ck qq;rw[e] at z;cases z;exact absurd rfl (n o)
   refine⟨v,t7 cl H',I.call (h':=hh) (g':=g) (d':=d) (t':=tt) (ch:=[]) ⟨fun b o e n hf hx=>?_,fun b o e n hf hx=>?_,fun b o e n hx=>?_,fun b o e hx=>un.there b o e hx,fun b xs e=>bk (un.tups b xs (tk e)) (fun o z=>by cases z),fun b o u ny e=>?_,fun b a d' e=>bk (un.tbls b a d' (tk e)) (fun o z=>by cases z)⟩ (fun b u e=>?_) bare (fun b z=>absurd z (by simp)),rv,q⟩
   ·cases qq:tJ cl b with
    | true=>obtain⟨o',e1,_,e2⟩:=ck qq;rw[e] at e1;cases e1;exact e2
    | false=>exact un.keep b o e (by rw[uQ qq];exact n) hf hx
   ·cases qq:tJ cl b with
    | true=>obtain⟨o',e1,_,e2⟩:=ck qq;rw[e] at e1;cases e1;exact⟨o.slots,e2⟩
    | false=>exact un.slot b o e (by rw[uQ qq];exact n) hf hx
   ·cases qq:tJ cl b with
    | true=>exact Eb qq
    | false=>rw[uM qq];exact un.free b o e (by rw[uQ qq];exact n) hx
   ·rw[uM (nC e)];exact un.frzs b o u ny (tk e)
   ·cases qq:tJ cl b with
    | true=>rw[Eb qq] at e;cases e
    | false =>
     rw[uM qq] at e
     exact(hok' b u e).stay (fun _ _ _ g=>g) (fun c g=>bk g fun o z=>by cases z) (fun c xs g=>bk g fun o z=>by cases z) fun c a d g=>bk g fun o z=>by cases z
end
theorem Gf {l:W.OpenLaw} {n k:Nat} {q:Program} {loose:List Str} {XP:(Str->Option Value)->Heap->Prop} {YP:World->Heap->Prop} {d:DefRec} {K:Params->W.Frag} {CX:World->BK} {sp:World->List uZ->Sp} {x:Str}
    (hn:l.most=some n) (hn2:n<=sizeLine) (hdf:d.params.defaults=[]) (hr:sL k callerA)
    (hY:∀(w:World) (h:Heap),YP w h->(K w.params).In h)
    (F:∀(w:World) (mg:Str->Option Value) (fa:Addr) (h:Heap),(K w.params).In h->h.Ns mainGlobals mg->mg d.name=some (.ref fa) ->
      ∃(ts:List uZ) (fd:FuncData),(∀t∈ts,(K w.params).lookup t.P=none/\∃y d',(recsOf q).find? (fun e=>e.name==y)=some d'/\W.tabIn (K w.params) y=some (t.c,t.P))/\(∀(s:Shared) (u:Value),BindsTo s fd ⟨[u],[]⟩ [(x,u)]) /\
        ∀base:Heap,(K w.params).In base->base.Ns mainGlobals mg->uK mg ts base->k6 l.prog w (K w.params) mg base (CX w) k fa fd [x] (sp w ts))
    (hsp:∀(w:World) (ts:List uZ) (H:Hp) (a:Addr) (ns:List Int),ns.length<=n->DV ts a H->(∀t∈ts,t.P≠a)->u4 (K w.params) H a (ns.map V.int)->sp w ts [.ref a] H (fun v _=>v=.bl true) fun _ _ _=>False)
    (hCX:∀(w:World) (H:Hp) (s:Shared) (e:Value) (s':Shared),CX w [] H s (fun _ _ _=>False) e s'->False) :
    W.WalkO q loose XP YP l.row.toRowW d [] (fun f vs=>PySem.call f vs):=by
  refine Att.attach_call hn hdf fun w s₀ s₁ mg mb fa o pm cd doc a vs ns G Y ho hd hcd hmg hobj hints hlen hg=>?_
  have KX:=hY w _ Y
  obtain⟨ts,fd,hts,hb,hF⟩:=F w mg fa _ KX G.T.g hmg
  refine EC KX G.T.g G.T.b G.T.builtins G.T.nolimit hg hobj hints (Nat.le_trans hlen hn2) hr (fun t ht=>?_) (fun t ht=>(hts t ht).1) ?_ hF hb (fun H hO hP hS=>hsp w ts H a ns hlen hO hP hS) fun H e s'=>hCX w H s₁ e s'
  · obtain⟨_,y,d',h1,h2⟩:=hts t ht
    exact W.tab_of G.T KX h1 h2
  · obtain⟨bm,ob,b1,b2,b3,b4,b5,b6⟩:=G.T.bmain
    refine⟨bm,ob,b1,b2,fun z=>?_,b3,b4,b5,b6⟩
    obtain⟨o',es,ep,e,hd',_⟩:=G.T.g
    rw[z,e] at b3;cases b3;rw[hd'] at b6;cases b6
section
variable{X:Cx}{pins:List (Addr×Obj)}{σ:L2.St}{H Hp':Hp}{s:Shared}{pos:Pos}
structure Ec (X:Cx) (cl:List (Str×Addr)) (σ:L2.St) (H H':Hp):Prop where
 out:∀b,tJ cl b=false->H' b=H b
 cel:∀b,tJ cl b=true->H b=none/\∃o v,H' b=some (vX o)/\o.data=.cell v
 val:∀(i:Nat) (x:Str) (c:Addr) (v:V),X.N[i]?=some x->σ[i]?=some (some v)->cl.lookup x=some c->∃o u,H' c=some (vX o)/\o.data=.cell (some u)/\RelV v u
structure Gs (X:Cx) (cl:List (Str×Addr)):Prop where
 fn:∀x,X.fn x=true
 ndc:(cl.map (·.1)).Nodup
 of:∀x c,cl.lookup x=some c->X.env.cells.lookup x=some c/\X.env.scope.names.lookup x=some .cell
theorem Gs.lk{cl:List (Str×Addr)}(o:Gs X cl):∀b,tJ cl b=true->∃x,X.env.cells.lookup x=some b:=fun b hb=>by
 obtain⟨p,hp,e⟩:=List.any_eq_true.mp hb
 exact⟨p.1,(o.of p.1 b (u5 o.ndc (by rw[<- eq_of_beq e];exact hp))).1⟩
theorem Ft{cl:List (Str×Addr)}(o:Gs X cl)(I:L2.Inv X pins σ H s):Ec X cl σ H (wy cl s.heap H):=by
 refine⟨fun b hb=>uQ hb,fun b hb=>?_,fun i x c v h1 h2 h3=>?_⟩
 ·obtain⟨x,hx⟩:=o.lk b hb
  obtain⟨v,ob,e,d⟩:=I.cell x b hx
  exact⟨I.freeC x b hx,ob,v,yb hb e,d⟩
 ·obtain⟨hx,hk⟩:=o.of x c h3
  obtain⟨m,_,hl⟩:=I.loc
  obtain⟨u,rv,lk⟩:=hl i x v h1 h2 (.inr (.inl hk))
  rcases lk with ⟨z,_⟩ | ⟨_,c2,e2,ob,g,d⟩
  ·exact absurd (show some NameKind.cell=some NameKind.local from hk.symm.trans z) (by simp)
  ·rw[hx] at e2
   cases e2
   exact⟨ob,u,yb (CO h3) g,d,rv⟩
theorem pW{x:Str}{e:Expr}{es:List Expr}{k:Nat}{f:Addr}{fd:FuncData}{ps:List Str}{sp:Sp}{t:TA}{p:Pos}{cl:List (Str×Addr)}(F:k6 X.prog X.w X.K X.mg X.base sR k f fd ps sp)(hr:sL k X.A)(hg:Gl X x)(hm:X.mg x=some (.ref f))(hk:W.keepIn X.K (.ref f)=true)(hb:Binds X.K fd ps [])(o:Gs X cl)
  (ha:PA X (e::es) t) (hdb:(x==("__debug__" : Str))=false:=by decide) (he:starEach (e::es) X.env=(false,eval e X.env)::starEach es X.env:=by rfl) (hpl:(backTo pos (starEach es X.env)).any (·.1)=false:=by rfl) :
  PE X (.Call (.Name x p) (e::es) [] pos) fun σ H Q=>t σ H fun vs H1=>∀H2,Ec X cl σ H1 H2->sp vs H2 (fun v H'=>Q v (t7 cl H')) E0:=by
 intro pins s σ H Q I h
 refine wpAny_Call_Name_kw (et I hg hm ?_ hdb)
 refine W.callWith_K (h₀:=X.base) I.ok.mod.kin hk (sX (ha pos pins s σ H _ I h) fun us s1 ⟨vs,H1,I1,r,q⟩=>⟨I1.kIn,?_⟩) he hpl
 exact GR F hr hb o.fn o.lk I1 r (q _ (Ft o I1))
end
section
variable{K:W.Frag}{H H':Hp}
theorem vC.clo{a:Addr}{xs:List V}(s:∀b u,H b=some u->(∀o,u≠vX o)->H' b=some u)(h:vC K H a xs):vC K H' a xs:=by
 rcases h with (h | ⟨o,h⟩) | h
 ·exact .inl (.inl (s _ _ h fun o z=>by cases z))
 ·exact .inl (.inr ⟨o,s _ _ h fun o z=>by cases z⟩)
 ·exact .inr h
theorem u4.clo{a:Addr}{xs:List V}(s:∀b u,H b=some u->(∀o,u≠vX o)->H' b=some u)(h:u4 K H a xs):u4 K H' a xs:=by
 rcases h with (h | ⟨o,h⟩) | h
 ·exact .inl (.inl (s _ _ h fun o z=>by cases z))
 ·exact .inl (.inr ⟨o,s _ _ h fun o z=>by cases z⟩)
 ·exact .inr h
theorem Hu.clo{k a:Nat}{ks:List Str}{vs:List V}(s:∀b u,H b=some u->(∀o,u≠vX o)->H' b=some u)(h:Hu H k a ks vs):Hu H' k a ks vs:=by
 match k,h with
 | 0,⟨z,its,n,r,q⟩=>exact⟨z,its,n,r,s _ _ q fun o z=>by cases z⟩
 | 1,⟨z,q⟩=>exact⟨z,s _ _ q fun o z=>by cases z⟩
 | C+2,⟨z,dx,q⟩=>exact⟨z,dx,s _ _ q fun o z=>by cases z⟩
mutual
theorem Rep.clo(s:∀b u,H b=some u->(∀o,u≠vX o)->H' b=some u):∀{d:D} {v:V},Rep K H d v->Rep K H' d v
 | .non,_,h=>h
 | .bl _,_,h=>h
 | .int _,_,h=>h
 | .str _,_,h=>h
 | .tup ds,_,h=>by
  obtain⟨a,xs,e,q,r⟩:=h
  exact⟨a,xs,e,vC.clo s q,i6.clo s r⟩
 | .lst ds,_,h=>by
  obtain⟨a,xs,e,q,r⟩:=h
  exact⟨a,xs,e,s _ _ q (fun o z=>by cases z),i6.clo s r⟩
 | .fro ds,_,h=>by
  obtain⟨a,xs,e,q,r⟩:=h
  exact⟨a,xs,e,u4.clo s q,i6.clo s r⟩
 | .obj ..,_,h=>by
  obtain⟨xs,e,q,r⟩:=h
  exact⟨xs,e,q.clo s,i6.clo s r⟩
 | .rf _,_,h=>h
theorem i6.clo(s:∀b u,H b=some u->(∀o,u≠vX o)->H' b=some u):∀{ds:LD} {vs:List V},i6 K H ds vs->i6 K H' ds vs
 | [],_,h=>h
 | d::ds,_,h=>by
  obtain⟨v,r,e,q,t⟩:=h
  exact⟨v,r,e,Rep.clo s q,i6.clo s t⟩
end
theorem zB{cl:List (Str×Addr)}(hC:∀b,tJ cl b=true->∃o,H b=some (vX o)):∀b u,H b=some u->(∀o,u≠vX o)->t7 cl H b=some u:=fun b u e n=>by
 cases q:tJ cl b with
 | false=>rw[uM q];exact e
 | true =>
  obtain⟨o,z⟩:=hC b q
  rw[e] at z
  exact absurd (Option.some.inj z) (n o)
theorem qd:∀{ds:LD} {vs:List V},i6 K H ds vs->sZ K H (ds.map some) (vs.map some):=fun {ds vs} r=>by
 refine⟨by rw[List.length_map,List.length_map,r.length];exact Nat.le_refl _,fun i d h=>?_⟩
 rw[List.getElem?_map] at h
 obtain⟨d',e,q⟩:=p9 h
 cases q
 obtain⟨v,h1,h2⟩:=r.get e
 exact⟨v,by rw[List.getElem?_map,h1];rfl,h2⟩
end
section
variable{P:Program}{w:World}{K:W.Frag}{mg:Str->Option Value}{base:Heap}{N ps:List Str}{qual:Str}{scope:Scope}{cl:List (Str×Addr)}{f:Addr}{cd:Value}{A:Around}{outer:List Env}{s:Shared}{H H2:Hp}{E:XK}{C:Addr}{caps:List V}
theorem JF(S:uO N ps scope cl)(hcap:xF H N ps cl caps)(hokS:xt P w H s.heap)(frf:∀b∈vR outer,H b=none)(hE:E (.ref C) none (vt cl H H2))(hS:i7 (t7 cl H) H2):XW (zA (y8 P w) P w K mg base N qual scope cl f cd A outer s H E) C H2:=fun e s' ⟨pins,σ,B,J,c1,c2,_,_,x⟩=>by
 obtain⟨cl1,cl2,cl3⟩:=hcap
 show wpAny (model P w) (A.deeper (W.envX qual scope s.heap.objs.size f cd cl)) (leaving (W.envX qual scope s.heap.objs.size f cd cl) (.ref e)) (fun _ s''=>y8 P w outer H s E (.ref e) s'') (fun e' s''=>y8 P w outer H s E e' s'') s'
 refine Am J.ok.frames rfl x fun h' x' up=>?_
 have noA:∀b:Addr,b∉(zA (y8 P w) P w K mg base N qual scope cl f cd A outer s H E).ex:=fun b z=>absurd (show b∈([]:List Addr) from z) (by simp)
 have dr:∀{b:Addr} {u:HO},H b=some u->(∀o,u≠vX o)->tJ cl b=false:=fun {b u} e n=>by
  cases q:tJ cl b with
  | false=>rfl
  | true=>obtain⟨o,v,z,_⟩:=cl2 b q;rw[e] at z;cases z;exact absurd rfl (n o)
 have dk:∀{b:Addr} {u:HO},H b=some u->(∀o,u≠vX o)->t7 cl H b=some u:=fun {b u} e n=>by
  show(if tJ cl b then none else H b)=_
  rw[dr e n];exact e
 have dn:∀{b:Addr},H b=none->t7 cl H b=none:=fun {b} e=>by
  show(if tJ cl b then none else H b)=_
  split
  ·rfl
  ·exact e
 have bk:∀{b:Addr} {u:HO},H2 b=some u->vt cl H H2 b=some u:=fun {b u} e=>by
  show(if tJ cl b then H b else H2 b)=_
  cases qq:tJ cl b with
  | false=>exact e
  | true =>
   obtain⟨p,hp,hpb⟩:=List.any_eq_true.mp qq
   have this:∃x,cl.lookup x=some b:=⟨p.1,u5 S.ndc (by rw[<- eq_of_beq hpb];exact hp)⟩
   obtain⟨x,hx⟩:=this
   have:=J.freeC x b hx
   rw[this] at e;cases e
 have bc:∀{b:Addr},tJ cl b=true->vt cl H H2 b=H b:=fun {b} hb=>by show(if tJ cl b then H b else H2 b)=_;rw[hb];rfl
 have bn:∀{b:Addr},tJ cl b=false->vt cl H H2 b=H2 b:=fun {b} hb=>by show(if tJ cl b then H b else H2 b)=_;rw[hb];rfl
 have hfn:∀b o,s.heap.get? b=some o->b∉vR outer->b∉vR (W.envX qual scope s.heap.objs.size f cd cl::outer):=fun b o hb hn hm=>by
  have hm':b∈s.heap.objs.size::vR outer:=hm
  rcases List.mem_cons.mp hm' with z | z
  ·rw[z] at hb;exact Nat.lt_irrefl _ (Heap.lt_size hb)
  ·exact hn z
 have cov:∀b o,s.heap.get? b=some o->b∉vR outer->∃o',B.get? b=some o':=fun b o hb hn=>c1 b o hb (hfn b o hb hn) (by intro z;cases z)
 have cellKept:∀{b:Addr},tJ cl b=true->∃o,H b=some (vX o)/\s'.heap.get? b=some o/\∃o',B.get? b=some o':=fun {b} hb=>by
  obtain⟨o,u',z,_⟩:=cl2 b hb
  have hfr:b∉vR outer:=fun m=>by rw[frf b m] at z;cases z
  exact⟨o,z,J.base.keep b o (hokS b _ z).1 (by show(if tJ cl b then none else H b)=none;rw[hb];rfl) hfr (noA b),cov b o (hokS b _ z).1 hfr⟩
 have un0:Un (vR outer) [] H (vt cl H H2) s.heap s'.heap:=by
  refine⟨fun b o e n hf' hx=>J.base.keep b o e (dn n) hf' (noA b),fun b o e n hf' hx=>J.base.slot b o e (dn n) hf' (noA b),fun b o e n hx=>?_,fun b o e hx=>J.base.there b o e (noA b),fun b xs e=>bk (J.base.tups b xs (dk e fun o z=>by cases z)),fun b o u ny e=>?_,fun b a d e=>bk (J.base.tbls b a d (dk e fun o z=>by cases z))⟩
  ·cases hb:tJ cl b with
   | true=>rw[bc hb];exact n
   | false=>rw[bn hb];exact J.base.free b o e (dn n) (noA b)
  ·cases hb:tJ cl b with
   | true=>rw[bc hb];exact e
   | false =>
    rw[bn hb]
    refine J.base.frzs b o u ny ?_
    show(if tJ cl b then none else H b)=_
    rw[hb];exact e
 have hok0:xt P w (vt cl H H2) s'.heap:=fun b u e=>by
  cases hb:tJ cl b with
  | true =>
   obtain⟨o,z,g,_⟩:=cellKept hb
   rw[bc hb,z] at e
   cases e
   exact⟨g,trivial,⟨_,g⟩,fun _ _ _ _=>trivial⟩
  | false =>
   rw[bn hb] at e
   exact(J.hok b u e).stay (fun c v _ g=>g) (fun c g=>bk g) (fun c xs g=>bk g) fun c a d g=>bk g
 have c2':∀b u,vt cl H H2 b=some u->∃o',B.get? b=some o':=fun b u e=>by
  cases hb:tJ cl b with
  | true=>obtain⟨o,_,_,q⟩:=cellKept hb;exact q
  | false=>rw[bn hb] at e;exact c2 b u e
 have sm:i7 H (vt cl H H2):=fun b u e=>by
  cases hb:tJ cl b with
  | true=>rw[bc hb];exact e
  | false=>rw[bn hb];exact hS b u (by show(if tJ cl b then none else H b)=_;rw[hb];exact e)
 exact⟨e,C,B,_,rfl,J.os,J.bare,x',zi un0 x.st x'.st (fun b _ o=>up b o) (fun b hb=>by
   obtain⟨_,o,ho,nd⟩:=x.fr.mem (List.mem_cons_of_mem _ hb:b∈s.heap.objs.size::vR outer)
   exact⟨o,ho,nd⟩) (fun b o hb hf _=>cov b o hb hf),yl hok0 x.st x'.st c2',cov,c2',sm,hE⟩
end
section
variable{X:Cx}{ca:Nat->Addr}{pos p:Pos}{k:Nat}{f c':Addr}{name qual:Str}{params:Arguments}{body:Expr}{scope:Scope}{cl:List (Str×Addr)}{pm ctv:Value}{ps:List Str}
theorem oP{i:Nat}{x:Str}{sp:Sp}(hF:k6 X.prog X.w X.K X.mg X.base (y8 X.prog X.w) k f (W.kla_fn name qual params body scope cl pm (.ref c') ctv) ps sp)(bd:Binds X.K (W.kla_fn name qual params body scope cl pm (.ref c') ctv) ps [])(hr:sL k X.A)
  (hN:X.N[i]?=some x:=by rfl) (hv:z8 X.env.scope x:=by first | exact Or.inl rfl | exact Or.inr (Or.inl rfl) | exact Or.inr (Or.inr rfl)) (hd:(x==("__debug__" : Str))=false:=by decide) (hcd:(x==("__classdict__" : Str))=false:=by decide) :
  PE X (.Call (.Name x p) [] [] pos) fun σ H Q=>σ[i]?=some (some (.ref f))/\H f=some (vX (W.kla_obj name qual params body scope cl pm c' ctv))/\sp [] H Q (EX X):=by
 intro pins s σ H Q I ⟨x1,hf,h⟩
 refine wpAny_Call_Name_kw (sX (iR (pos:=p) hN hv hd hcd pins s σ H (fun v H1=>v=.ref f/\H1=H) I ⟨.ref f,x1,rfl,rfl⟩) fun u s1 ⟨v,H1,I1,rv,ev,eH⟩=>?_)
 subst ev eH
 cases (show u=_ from rv)
 refine W.callWith_of (P:=fun h=>h.get? f=some (W.kla_obj name qual params body scope cl pm c' ctv)) rfl HN (PyProof.Rows.evalArgs_empty ⟨(I1.hok f _ hf).1,?_⟩)
 exact zG (us:=[]) hF hr bd .nil IJ I1 .nil (by rw[List.append_nil];exact h)
end
section
variable{X:Cx}{ca:Nat->Addr}{Wz:Addr}{newId nW:String}{x n:Str}{np apos hpos pos:Pos}{b₀:Stmt}{suite:List Stmt}{gs:Nat->Nat->R->Option Out}
theorem qF{b1:Stmt}{tb:L2.St->Hp->(L2.St->Hp->Prop)->(Nat->Hp->Prop)->Prop}(j:Nat)(T:∀c,c<2->CH X.K (ca c) Wz newId nW)(hc:X.calm=true)(hcells:X.env.cells=[])(hstk:X.stack=X.env::X.outer)(hfr:X.env.frame=some X.env.locals)(hex:X.ex=[])(hN:X.N.Nodup)(hm:X.mg x=some (.ref Wz))
  (hmn:∀ σ H Qn Qe Qe',(∀c H',Qe c H'->Qe' c H')->tb σ H Qn Qe->tb σ H Qn Qe') (ha:∀pins E,PS (H_ X pins E) b1 (fun D σ H=>tb σ H D.nx fun c H'=>XW (H_ X pins E) (ca c) H'))
  (hs:∀pins e oe c,c<2->oe.cls=.ref (ca c)->SS (Lq X pins e oe) (b₀::suite) (gs c e))
  (hj:X.N[j]?=some n:=by rfl) (hloc:X.env.kindOf n=some .local:=by rfl) (hgl:Gl X x:=by rfl) (hd:(x==("__debug__" : Str))=false:=by decide) :
  PS X (.Try [b1] [.ExceptHandler (some (.Name x np)) (some n) (b₀::suite) hpos] [] [] pos) (fun D σ H=>tb σ H D.nx fun c H1=>c<2/\∀e:Nat,∃ ρ',gs c e (J0 X.N.length j e)=some (.nx ρ')/\∀ σ' H',i7 H1 H'->sZ X.K H' (ρ'.set j none) σ'->D.nx σ' H'):=by
 intro pins s σ H D I q
 refine wpAny_Try_except ?_
 generalize hE:(fun (ev:Value) (s₁:Shared)=>wpAny (model X.prog X.w) X.A (noteFrame ev X.env) (fun _ s₂=>wpAny (model X.prog X.w) X.A (setFlight ev none) (fun _ s₃=>wpAny (model X.prog X.w) X.A (handleBy ev X.env [.ExceptHandler (some (.Name x np)) (some n) (b₀::suite) hpos]) (SP X pins D) X.xe s₃) X.xe s₂) X.xe s₁)=E'
 have body:=(dA (ha pins E')) [] s σ H {nx:=fun σ' H'=>D.nx σ' H',rt:=fun _ _=>False} (LP I) (hmn _ _ _ _ _ (fun c H1 ⟨hc2,k⟩=>by
   rintro e s₁ ⟨pins',σ',B,xa⟩
   rw[<- hE]
   have xe1:CW B (X.env::X.outer) e (ca c) s₁.heap:=by rw[<- hstk];exact xa.exc
   have IX:L2.Inv X pins σ' H1 s₁:=DY xa.inv
   refine Ce (by rw[<- hstk];exact IX.ok.frames) hfr xe1 fun h1 x1 u1=>xE (s:={s₁ with heap:=h1}) x1 fun h2 x2 u2=>?_
   have hlf:X.env.locals∈vR X.stack:=by rw[hstk];exact List.mem_filterMap.mpr ⟨X.env,List.mem_cons_self,hfr⟩
   have fsub:∀b∈X.fs,b∈vR X.stack:=fun b hb=>by
    rw[hstk]
    obtain⟨env',z1,z2⟩:=List.mem_filterMap.mp hb
    exact List.mem_filterMap.mpr ⟨env',List.mem_cons_of_mem _ z1,z2⟩
   have stay:∀h':Heap,CW B (X.env::X.outer) e (ca c) h'->s₁.heap.UpToSlots h'->L2.Inv X pins σ' H1 {s₁ with heap:=h' }:=fun h' x' u' =>
    Gm IX xa.exc.st x'.st (fun b _ o ho nd=>u' b o ho nd) (fun b o hb hn hx=>xa.ent b o hb (fun hm=>by
     rcases List.mem_cons.mp (IX.stkSub b hm) with z | z
     ·rw[z] at hb;exact absurd (Nat.lt_of_lt_of_le (Heap.lt_size hb) IX.ok.above) (Nat.lt_irrefl _)
     ·exact hn z) hx) xa.hld (fun p hp=>xa.pin p (List.mem_append_left _ hp)) (fun y cc hcc=>by rw[hcells] at hcc;cases hcc)
   have I2:=stay h2 x2 (u1.trans u2)
   obtain⟨a0,fl,oe,vs,TT,oT,ts,he,⟨hcls,h0⟩,hdt,r4,r5,r6,r7,r8,r9⟩:=id x2.tr
   refine wpAny_handleBy_cons (codeAny_handlers_test (et (E:=_) (Ll I2 e) hgl hm ?_ hd)) (by intro z;cases z)
   refine FU (T c hc2) I2.kIn he hcls ?_
   refine codeAny_handlers_suite_as ?_
   refine xE (s:={s₁ with heap:=h2}) x2 fun h3 x3 u3=>?_
   have I3:=stay h3 x3 ((u1.trans u2).trans u3)
   obtain⟨a0',fl',oe',vs',TT',oT',ts',he',⟨hcls',h0'⟩,hdt',_⟩:=id x3.tr
   have hHe:H1 e=none:=by
    cases z:H1 e with
    | none=>rfl
    | some u=>obtain⟨o',eo⟩:=xa.hld e u z;rw[x3.ne] at eo;cases eo
   have nfr:∀b∈vR X.stack,e≠b:=fun b hb z=>by
    obtain⟨_,o,ho,nd⟩:=x3.fr.mem (by rw[<- hstk];exact hb)
    rw[<- z,he'] at ho
    cases ho
    exact nd vs' hdt'
   have J:=LW I3 he' hHe (nfr _ hlf) (fun z=>nfr e (fsub e z) rfl) (fun v z=>by rw[hdt'] at z;cases z)
   have lv:z8 X.env.scope n:=.inl hloc
   refine yh (X:=Lq X pins e oe') (i:=j) (v:=.ref e) (u:=.ref e) J hN hj (.inl hloc) rfl (fun s4 J4=>?_) (.inr hloc)
   obtain⟨ρ',eg,kk⟩:=k e
   have hlen:(J0 X.N.length j e).length=X.N.length:=by unfold J0;rw[List.length_set,List.length_replicate]
   have erH:sY X.K H1 (J0 X.N.length j e) [] (σ'.set j (some (.ref e))):=by
    refine⟨⟨by rw[hlen,List.length_set,I3.len];exact Nat.le_refl _,fun i d hi=>?_⟩,?_⟩
    ·unfold J0 at hi
     by_cases hij:i=j
     ·subst hij
      have hlt:i<(List.replicate X.N.length (none:Option HW.D)).length:=by rw[List.length_replicate];exact(List.getElem?_eq_some_iff.mp hj).1
      rw[List.getElem?_set_self hlt] at hi
      cases hi
      exact⟨.ref e,List.getElem?_set_self (by rw[I3.len];exact(List.getElem?_eq_some_iff.mp hj).1),rfl⟩
     ·rw[List.getElem?_set_ne (Ne.symm hij),List.getElem?_replicate] at hi
      split at hi<;>cases hi
    ·rw[hlen,<- I3.len]
     exact List.drop_eq_nil_of_le (by rw[List.length_set];exact Nat.le_refl _)
   refine wpAny_mono (hs pins e oe' c hc2 hcls' [] s4 _ H1 {nx:=fun σ5 H5=>i7 H1 H5/\sZ X.K H5 ρ' σ5,rt:=fun _ _=>False} J4 ⟨_,[],.nx ρ',erH,eg,fun H5 t5 σ5 er5=>⟨t5,er5.1⟩⟩) (fun fl5 s5 h5=>?_) fun _ _ z=>False.elim z
   cases fl5 with
   | next =>
    obtain⟨σ5,H5,J5,t5,er5⟩:=h5
    have I5:=G4 J5 I.ok.hd
    obtain⟨m,hns,hlk⟩:=I5.loc
    refine wpAny_nameGoes_keeps hloc hns (by rw[I5.ok.kind];rfl) fun h6 v6 hn6 sb6=>?_
    refine⟨σ5.set j none,H5,FN I5 hN hj hlk hn6 sb6,kk _ H5 t5 ⟨by rw[List.length_set,List.length_set];exact er5.1,fun i d hi=>?_⟩⟩
    by_cases hij:i=j
    ·subst hij
     have:i<ρ'.length:=by have:=(List.getElem?_eq_some_iff.mp hi).1;rwa [List.length_set] at this
     rw[List.getElem?_set_self this] at hi
     cases hi
    ·rw[List.getElem?_set_ne (Ne.symm hij)] at hi ⊢
     exact er5.2 i d hi
   | brk=>obtain⟨_,_,_,z⟩:=h5;exact z.elim
   | cont=>obtain⟨_,_,_,z⟩:=h5;exact z.elim
   | ret u=>obtain⟨_,_,_,_,_,z⟩:=h5;exact z.elim) q)
 refine wpAny_mono body (fun fl s₁ h=>?_) (fun ev s₁ h=>h)
 cases fl with
 | next =>
  obtain⟨σ',H',J,k⟩:=h
  exact wpAny_execs_nil ⟨σ',H',DY J,k⟩
 | brk=>obtain⟨_,_,_,z⟩:=h;exact z.elim
 | cont=>obtain⟨_,_,_,z⟩:=h;exact z.elim
 | ret u=>obtain⟨_,_,_,_,_,z⟩:=h;exact z.elim
end
end HW
namespace HW
open PySem
structure zr where
 q:Str
 params:Arguments
 body:Expr
 scope:Scope
 N:List Str
 ps:List Str
 deriving Inhabited
def Au:List Nat->R->Option LD
 | [],_=>some []
 | j::js,ρ=>(c6 j ρ).bind fun d=>(Au js ρ).map (d::·)
abbrev MX:=R->Option (Except Nat (D×D))
def xA(C:Nat)(m:Str)(j:Nat)(G:LD->Option (Except Nat (D×D)))(F:R->Option LD):MX:=fun ρ=>(c6 j ρ).bind fun ob=>(F ρ).bind fun ds=>match ob with
 | .obj k _ ks _=>if k=C+2/\ks.contains m=false then G (ob::ds) else none
 | _=>none
def ua:Str:=oS "told"
def wF(j:Nat)(js:List Nat)(g:MX)(fnd:Nat->OD)(S:List Nat)(ρ:R):Option (D×R):=(Au js ρ).bind fun ds=>(ds[j]?).bind fun ob=>(g (ds.map some)).bind fun r=>match r with
 | .ok (d,o')=>if vU ob=true/\uF (js.getD j 0) (adr ob) ρ=true/\y9 S (adr ob)=true/\js.getD j 0<ρ.length then some (.tup [.str ua,d],ρ.set (js.getD j 0) (some o')) else none
 | .error c=>if vU ob=true then (fnd c).map fun d=>(d,ρ) else none
def Lf(c:List Nat->R->Option (D×R))(F:D->D->Option Bool)(h:R->OD)(u w:MU):MU:=fun S ρ=>(c S ρ).bind fun p=>(h p.2).bind fun y=>(F p.1 y).bind fun b=>if b then u S p.2 else w S p.2
def IC(c:List Nat->R->Option (D×R))(F:D->D->Option Bool)(h f:R->OD):MU:=fun S ρ=>(c S ρ).bind fun p=>(h p.2).bind fun y=>(F p.1 y).bind fun b=>if b then (f p.2).map (.rt · p.2) else some (.rt (.bl false) p.2)
def DX(c:R->Option Bool)(f:R->OD)(k:Nat)(u:MU):List Nat->R->Option (Except Nat MO):=fun S ρ=>(c ρ).bind fun b=>if b then (f ρ).map fun _=>.error k else (u S ρ).map .ok
def Gg(n N j:Nat)(g:List Nat->R->Option (Except Nat MO)):LD->Option (Except Nat (D×D)):=fun ds=>if ds.length=n then (ds[j]?).bind fun ob=>if vU ob=true then (g (adr ob) (yz N ds)).bind fun o=>match o with
 | .error c=>some (.error c)
 | .ok (.nx ρ)=>(HE j ob .non ρ).map .ok
 | .ok (.rt d ρ)=>(HE j ob d ρ).map .ok
 else none else none
noncomputable def sB(i:Nat):Stmt->Stmt
 | .For _ _ b _ _=>b.getD i (.Pass ⟨0,0,0,0⟩)
 | .If _ b _ _=>b.getD i (.Pass ⟨0,0,0,0⟩)
 | .FunctionDef _ _ b ..=>b.getD i (.Pass ⟨0,0,0,0⟩)
 | s=>s
def sV:Stmt->Expr
 | .Assign _ v ..=>v
 | .Return (some v) _=>v
 | .Expr v _=>v
 | _=>.Name "" ⟨0,0,0,0⟩
def eA(i:Nat):Expr->Expr
 | .Call _ a _ _=>a.getD i (.Name "" ⟨0,0,0,0⟩)
 | e=>e
def Ii(q:Str)(N ps:List Str):Expr->zr
 | .Lambda a b c _=>⟨q,a,b,c,N,ps⟩
 | _=>default
def sT:Stmt->Expr
 | .If c ..=>c
 | _=>.Name "" ⟨0,0,0,0⟩
def NL:Expr->Expr
 | .Compare l ..=>l
 | e=>e
def Om(i:Nat):Expr->Expr
 | .BoolOp _ vs _=>vs.getD i (.Name "" ⟨0,0,0,0⟩)
 | e=>e
end HW
namespace HW
open PySem PySem.Spec PyProof.Rows L2
section
variable{X:Cx}
theorem Ig(k b:Bool):HC (.bl k) (.bool b)=(b==k):=by cases k<;>cases b<;>rfl
theorem xK{K:W.Frag}{H:Hp}:∀{ds:LD} {bs:List Bool} {vs:List V},bools ds=some bs->i6 K H ds vs->vs.all Af=true
 | [],_,vs,_,h=>by cases (show vs=[] from h);rfl
 | d::ds,bs,_,e,h=>by
  obtain⟨v,r,rfl,q,t⟩:=h
  cases d with
  | bl b =>
   obtain⟨bs',e1,_⟩:=p9 e
   cases (show v=_ from q)
   rw[List.all_cons,xK e1 t];rfl
  | _=>cases e
theorem qN:L8 X "list.count" AJ:=by
 intro pins s σ H x vs v us Q I rx rv h
 obtain⟨dx,ds,d,r1,r2,e,q⟩:=h
 match dx,ds,e with
 | .lst es,[.bl k],e =>
  obtain⟨a,xs,rfl,ha,rr⟩:=r1
  cases (show v=_ from rx)
  obtain⟨u,r',rfl,k1,r2⟩:=r2
  cases (show r'=[] from r2)
  cases (show u=_ from k1)
  obtain⟨u',rfl,rfl⟩:=vals1 rv
  obtain⟨bs,e1,e2⟩:=e9 (show(bools es).bind _=some d from e)
  split at e2
  case isFalse=>cases e2
  case isTrue hn =>
  cases e2
  obtain⟨_,its,n,rv2,hl,eo⟩:=I.lstM ha
  have hits:=yM e1 rr rv2
  have hEq:=fun (A:Around) (s:Shared)=>iB (A:=A) (s:=s) (x:=.bl k) (v:=.bool k) rfl rfl rv2 (xK e1 rr)
  refine call_meets PySem.F.slot_list_count ⟨_,eo,rfl⟩ PySem.F.entry_list_count (PySem.F.args_list_count_2 _ _)
   (PySem.SeqAt.list_countAt a its.toArray n none _ (.bool k) (HC (.bl k))) ⟨eo,fun y hy=>hEq _ _ y (by simpa using hy),?_⟩
  have hcnt:its.toArray.toList.countP (HC (.bl k))=bs.countP (·==k):=by
   rw[List.toList_toArray,hits,List.countP_map]
   exact congrArg (fun p=>List.countP p bs) (funext fun b=>Ig k b)
  rw[hcnt]
  exact⟨.int ((bs.countP (·==k):Nat):Int),H,I.tok _,⟨_,rfl⟩,q _ H (i7.refl H) rfl⟩
theorem rg:L8 X "list.index" Aw:=by
 intro pins s σ H x vs v us Q I rx rv h
 obtain⟨dx,ds,d,r1,r2,e,q⟩:=h
 match dx,ds,e with
 | .lst es,[.bl k],e =>
  obtain⟨a,xs,rfl,ha,rr⟩:=r1
  cases (show v=_ from rx)
  obtain⟨u,r',rfl,k1,r2⟩:=r2
  cases (show r'=[] from r2)
  cases (show u=_ from k1)
  obtain⟨u',rfl,rfl⟩:=vals1 rv
  obtain⟨bs,e1,e2⟩:=e9 (show(bools es).bind _=some d from e)
  split at e2
  case isFalse=>cases e2
  case isTrue hn =>
  cases e2
  obtain⟨_,its,n,rv2,hl,eo⟩:=I.lstM ha
  have hits:=yM e1 rr rv2
  have hEq:=fun (A:Around) (s:Shared)=>iB (A:=A) (s:=s) (x:=.bl k) (v:=.bool k) rfl rfl rv2 (xK e1 rr)
  have hj:bs.idxOf k<bs.length:=List.idxOf_lt_length_iff.mpr hn.1
  have hat:∀i (h1:i<its.length) (h2:i<bs.length),HC (.bl k) its[i]=(bs[i]==k):=fun i h1 h2=>by
   have:its[i]=.bool bs[i]:=by simp[hits]
   rw[this];exact Ig k _
  have hlen:its.length=bs.length:=by rw[hits,List.length_map]
  refine call_meets PySem.F.slot_list_index ⟨_,eo,rfl⟩ PySem.F.entry_list_index (PySem.F.args_list_index_2 _ _)
   (PySem.SeqAt.list_indexAt a its.toArray n none _ (.bool k) (HC (.bl k)) (bs.idxOf k) (by simpa [hlen] using hj) (by omega) ?_ ?_) ⟨eo,fun y hy=>hEq _ _ y (by simpa using hy),?_⟩
  ·show HC (.bl k) its[bs.idxOf k]=true
   rw[hat _ (by omega) hj]
   simpa using List.getElem_idxOf hj
  ·intro j hjs hlt
   show HC (.bl k) its[j]=false
   rw[hat j (by simpa using hjs) (by omega)]
   exact List.not_of_lt_findIdx (p:=(·==k)) hlt
  ·exact⟨.int ((bs.idxOf k:Nat):Int),H,I.tok _,⟨_,rfl⟩,q _ H (i7.refl H) rfl⟩
theorem Cf{G:LD->OD}(hG:G=AJ\/G=Aw){x:D}{ds:LD}{d:D}(h:G (x::ds)=some d):∃es,x=.lst es:=by
 rcases hG with rfl | rfl
 ·cases x with
  | lst z=>exact⟨z,rfl⟩
  | _=>cases h
 ·cases x with
  | lst z=>exact⟨z,rfl⟩
  | _=>cases h
theorem qI{a e:Expr}{es:List Expr}{f:R->OD}{F:R->Option LD}{ap cp:Pos}(ha:SE X a f)(hF:SA X (e::es) F)
  (hbase:attributeBase a "count" X.env (eval a X.env)=eval a X.env:=by rfl)
  (hfew:((backTo cp (starEach (e::es) X.env)).all (fun x=>!x.1)&&(backToKw cp (keywordEach [] X.env)).all (fun x=>x.1.isSome)&&decide ((e::es).length+([]:List Keyword).length+(if ([]:List Keyword).isEmpty then 0 else 1)<30))=true:=by rfl)
  (hline:(ap.endLine==cp.line)=true:=by rfl):SE X (.Call (.Attribute a "count" ap) (e::es) [] cp) (c8 AJ (c4 f F)):=by
 have hst:=hF.2.2
 rw[List.all_cons,Bool.and_eq_true] at hst
 refine(nV (T:="list") PySem.F.plainAttrs_list PySem.F.slot_list_count PySem.F.type_list_count qN ha hF.1 hbase hfew hline (aE es X.env hst.1) (bu (pos:=cp) (env:=X.env) hst.2)).imp fun σ H Q ⟨ρ,d,er,e,q⟩=>?_
 obtain⟨dd,e1,e⟩:=e9 e
 obtain⟨x,e2,e1⟩:=e9 e1
 obtain⟨ds,e3,e1⟩:=p9 e1
 subst e1
 obtain⟨es,rfl⟩:=Cf (.inl rfl) e
 exact⟨ρ,_,er,e2,fun v H1 s1 r1=>⟨by obtain⟨a,xs,rfl,ha,rr⟩:=r1;exact .inl ⟨rfl,xs,.inl (.inl ha)⟩,ρ,ds,er.mono s1,e3,fun vs H2 s2 r2=>⟨.lst es,ds,d,r1.mono s2,r2,e,fun u H3 s3 r3=>q u H3 (s1.trans (s2.trans s3)) r3⟩⟩⟩
theorem qU{a e:Expr}{es:List Expr}{f:R->OD}{F:R->Option LD}{ap cp:Pos}(ha:SE X a f)(hF:SA X (e::es) F)
  (hbase:attributeBase a "index" X.env (eval a X.env)=eval a X.env:=by rfl)
  (hfew:((backTo cp (starEach (e::es) X.env)).all (fun x=>!x.1)&&(backToKw cp (keywordEach [] X.env)).all (fun x=>x.1.isSome)&&decide ((e::es).length+([]:List Keyword).length+(if ([]:List Keyword).isEmpty then 0 else 1)<30))=true:=by rfl)
  (hline:(ap.endLine==cp.line)=true:=by rfl):SE X (.Call (.Attribute a "index" ap) (e::es) [] cp) (c8 Aw (c4 f F)):=by
 have hst:=hF.2.2
 rw[List.all_cons,Bool.and_eq_true] at hst
 refine(nV (T:="list") PySem.F.plainAttrs_list PySem.F.slot_list_index PySem.F.type_list_index rg ha hF.1 hbase hfew hline (aE es X.env hst.1) (bu (pos:=cp) (env:=X.env) hst.2)).imp fun σ H Q ⟨ρ,d,er,e,q⟩=>?_
 obtain⟨dd,e1,e⟩:=e9 e
 obtain⟨x,e2,e1⟩:=e9 e1
 obtain⟨ds,e3,e1⟩:=p9 e1
 subst e1
 obtain⟨es,rfl⟩:=Cf (.inr rfl) e
 exact⟨ρ,_,er,e2,fun v H1 s1 r1=>⟨by obtain⟨a,xs,rfl,ha,rr⟩:=r1;exact .inl ⟨rfl,xs,.inl (.inl ha)⟩,ρ,ds,er.mono s1,e3,fun vs H2 s2 r2=>⟨.lst es,ds,d,r1.mono s2,r2,e,fun u H3 s3 r3=>q u H3 (s1.trans (s2.trans s3)) r3⟩⟩⟩
def Nd(X:Cx)(x:Str)(c:Value):Prop:=∀pins σ H s (Q:Value->Shared->Prop) p,L2.Inv X pins σ H s->Q c s->wpAny (model X.prog X.w) X.A (eval (.Name x p) X.env) Q X.xe s
theorem Ga{x:Str}{c:Value}(hm:X.mg x=some c)(hg:Gl X x:=by rfl)(hd:(x==("__debug__" : Str))=false:=by decide):Nd X x c:=fun pins σ H s Q p I h=>et I hg hm h hd
theorem Ka{x:Str}{c:Value}(hm:X.mg x=none)(hv:bootBuiltins x=some c:=by kernel_rfl)(hg:Gl X x:=by rfl)(hn:x ≠ "__name__":=by decide)(hd:(x==("__debug__" : Str))=false:=by decide):Nd X x c:=fun pins σ H s Q p I h=>eY I hg hm hv h hn hd
theorem mO{C Wz e:Addr}{oe:Obj}{newId nW:String}{n x:Str}{cv:Value}{b:Bool}{p p1 p2 pos:Pos}(j:Nat)(T:CH X.K C Wz newId nW)(hp:(e,oe)∈X.pn)(hcl:oe.cls=.ref C)(hk:W.kitOne X.K (.ref C) cv=some b)(hx:Nd X x cv)(hm:X.mg "isinstance" = none)
  (hN:X.N[j]?=some n:=by rfl) (hv:z8 X.env.scope n:=by first | exact Or.inl rfl | exact Or.inr (Or.inl rfl) | exact Or.inr (Or.inr rfl)) (hg:Gl X "isinstance":=by rfl) (hd:(n==("__debug__" : Str))=false:=by decide) (hcd:(n==("__classdict__" : Str))=false:=by decide) :
  SE X (.Call (.Name "isinstance" p) [.Name n p1,.Name x p2] [] pos) (Ey j e b):=by
 intro pins s σ H Q I ⟨ρ,d,er,e1,q⟩
 have hb:d=.bl b/\c6 j ρ=some (.rf e):=by
  unfold Ey at e1
  split at e1
  ·rename_i a' hat
   split at e1
   ·rename_i ha
    cases e1
    exact⟨rfl,by rw[hat,ha]⟩
   ·cases e1
  ·cases e1
 obtain⟨rfl,hat⟩:=hb
 obtain⟨v,hσ,rv⟩:=er.at hat
 cases (show v=_ from rv)
 have st1:=aE (e:=.Name n p1) [.Name x p2] X.env rfl
 refine wpAny_Call_Name_kw (eY I hg hm (show bootBuiltins "isinstance" = some (.builtin "isinstance") by kernel_rfl) ?_ (by decide) (by decide))
 refine PyProof.Rows.callWith_builtin1 ?_ st1 (bu (pos:=pos) (env:=X.env) (es:=[.Name x p2]) rfl)
 refine spliced_more (sX ((iR (pos:=p1) hN hv hd hcd) pins s σ H (fun v H1=>v=.ref e/\H1=H) I ⟨.ref e,hσ,rfl,rfl⟩) fun u s1 ⟨y,H1,I1,r1,ey,eH⟩=>?_) st1
 subst ey eH
 cases (show u=_ from r1)
 refine spliced_more (hx pins σ H1 s1 _ p2 I1 ?_) (aE (e:=.Name x p2) [] X.env rfl)
 refine spliced_none ?_
 refine W.kia_one (Fv (a:=e) T hcl) I1.kIn (I1.pin _ (List.mem_append_left _ hp)).1 hk (fun z=>by cases z) fun tk=>?_
 exact⟨.bl b,H1,I1.kept (t':=tk) fun b o eb=>eb,rfl,q _ H1 (i7.refl H1) rfl⟩
end
theorem Dr{K:W.Frag}{C N:Addr}{bm bs sub:List Value}{newId:String}{nm q:Str}{hdct ab:Bool}{sn:List Str}{col:Option Bool}{dd:Option Addr}{k0 k1 k2 k3 k5:Option Value}
  (l:K.lookup C=some (excClassObj nm q C N bs bm hdct sn sub ab col dd k0 k1 k2 k3 k5 newId)) (ex:W.excIn K C VE newId=true) (h0:W.nsIn K N "__init__" = some none) (h1:W.nsIn K N "__getattribute__" = some none) (h2:W.nsIn K N "__getattr__" = some none) (h3:W.nsIn K N "__class__" = some none):EG K C bm newId:=by
 have hok:W.nsOkIn K N=true:=by
  unfold W.excIn at ex
  rw[l] at ex
  simp only[Bool.and_eq_true] at ex
  exact ex.1.2
 have hN:∃c d es n sl,K.lookup N=some ⟨c,d,.dict es n,sl⟩:=by
  unfold W.nsOkIn at hok
  split at hok
  ·rename_i c d es n sl ho
   exact⟨_,_,_,_,_,ho⟩
  ·cases hok
 obtain⟨c,d,es,ep,sl,hl⟩:=hN
 have nsH:∀h,K.In h->h.Ns N (fun x=>nsFind es x):=fun h x=>by
  obtain⟨o,es',ep',ho,hd,hs,hf⟩:=Heap.Ns.of_isNs (W.isNs_of_in x hok)
  have:=x _ _ hl
  rw[ho] at this
  cases this
  cases hd
  exact⟨_,es,ep,ho,rfl,hs,fun _=>rfl⟩
 refine⟨N,nm,q,bs,hdct,sn,sub,ab,col,dd,k0,k1,k2,k3,k5,fun x=>nsFind es x,fun n hn=>?_,fun h x=>⟨x _ _ l,nsH h x⟩⟩
 have none_of:∀n,W.nsIn K N n=some none->nsFind es n=none:=fun n e=>by
  unfold W.nsIn at e
  rw[hl] at e
  dsimp only at e
  split at e
  ·cases e
  ·rename_i he
   unfold nsFind findBy
   rw[<- Array.find?_toList,he]
   rfl
 simp only[Ko,List.mem_cons,List.not_mem_nil,or_false] at hn
 rcases hn with rfl | rfl | rfl | rfl
 ·exact none_of _ h0
 ·exact none_of _ h1
 ·exact none_of _ h2
 ·exact none_of _ h3
theorem B_{K:W.Frag}{C:Addr}:W.kitOne K (.ref C) (.ref C)=some true:=by unfold W.kitOne;rw[if_pos (by simp)]
theorem Ay{K:W.Frag}{C C':Addr}{cd:ClassData}(hne:(Value.ref C==Value.ref C')=false)(h1:W.clsIn K C'=some cd)(h2:W.typeIn K (.ref C')=some (.type "type")){b:Bool}(h3:W.subIn K (.ref C) (.ref C')=some b):W.kitOne K (.ref C) (.ref C')=some b:=by
 unfold W.kitOne
 rw[if_neg (by rw[hne];decide)]
 unfold W.kitCls
 dsimp only
 rw[h1,h2,if_pos (by rfl)]
 exact h3
theorem D6{K:W.Frag}{C:Addr}{T:String}{b:Bool}(hmt:W.kitMeta T=true)(h3:W.subIn K (.ref C) (.type T)=some b):W.kitOne K (.ref C) (.type T)=some b:=by
 unfold W.kitOne
 rw[if_neg (by intro z;cases beq_iff_eq.mp z)]
 unfold W.kitCls
 dsimp only
 rw[if_pos hmt]
 exact h3
abbrev NV:String:="ValueError.__new__"
structure Gb (K:W.Frag) (mg:Str->Option Value) (ca:Nat->Addr) (Wz:Addr):Prop where
 two:∀c,c<2->CH K (ca c) Wz NV NV
 k0:∀c,c<2->W.kitOne K (.ref (ca c)) (.ref (ca 0))=some (c==0)
 k1:∀c,c<2->W.kitOne K (.ref (ca c)) (.ref (ca 1))=some (c==1)
 kv:∀c,c<2->W.kitOne K (.ref (ca c)) (.type "ValueError")=some true
 m0:mg "NoText" = some (.ref (ca 0))
 m1:mg "NoDeed" = some (.ref (ca 1))
 mw:mg "WatchError" = some (.ref Wz)
section
variable{X:Cx}{ca:Nat->Addr}{Wz:Addr}{e:Expr}{es:List Expr}{f:R->OD}{F:R->Option LD}{p pos np cpos:Pos}
theorem El(EK:Gb X.K X.mg ca Wz)(hc:X.calm=true)(ha:SE X e f)(hg:Gl X "NoDeed":=by rfl)(hst:noStar e=true:=by rfl):MZ ca X (.Raise (some (.Call (.Name "NoDeed" np) [e] [] cpos)) none pos) (Dd 1 f):=
 Fp (EK.two 1 (by decide)) PySem.F.excBase_ValueError (by decide) hc EK.m1 ha hg (by decide) hst
end
section
variable{X:Cx}{ca:Nat->Addr}{Wz:Addr}{n y:Str}{np apos hpos pos rp yp:Pos}{tg e0:Expr}{b₀:Stmt}{suite:List Stmt}{fx:XD}{stf:D->R->Option R}{gs:Nat->Nat->R->Option Out}
end
section
variable{X:Cx}{k1 k2 v1 v2:Str}{ke1 ke2 e1 e2 i:Expr}{g:R->OD}{pd pos:Pos}
end
def Jh(a0 a1:Addr):Nat->Addr
 | 0=>a0
 | _=>a1
structure J_ (K:W.Frag) (a0 a1 aw:Addr):Prop where
 c0:EG K a0 (.ref aw::VE) NV
 c1:EG K a1 (.ref aw::VE) NV
 cw:EG K aw VE NV
 k01:W.kitOne K (.ref a0) (.ref a1)=some false
 k10:W.kitOne K (.ref a1) (.ref a0)=some false
 kv0:W.kitOne K (.ref a0) (.type "ValueError")=some true
 kv1:W.kitOne K (.ref a1) (.type "ValueError")=some true
theorem JV{K:W.Frag}{h:Heap}{mg:Str->Option Value}{a0 a1 aw:Addr}(X:K.In h)(G:h.Ns mainGlobals mg)(n0:W.nsIn K mainGlobals "NoText" = some (some (.ref a0)))(n1:W.nsIn K mainGlobals "NoDeed" = some (some (.ref a1)))(nw:W.nsIn K mainGlobals "WatchError" = some (some (.ref aw)))(p:J_ K a0 a1 aw):Gb K mg (Jh a0 a1) aw:=by
 refine⟨fun c hc=>?_,fun c hc=>?_,fun c hc=>?_,fun c hc=>?_,W.mg_of X G n0,W.mg_of X G n1,W.mg_of X G nw⟩
 all_goals (have:c=0\/c=1:=by omega)
 ·rcases this with rfl | rfl
  ·exact⟨p.c0,p.cw⟩
  ·exact⟨p.c1,p.cw⟩
 ·rcases this with rfl | rfl
  ·exact B_
  ·exact p.k10
 ·rcases this with rfl | rfl
  ·exact p.k01
  ·exact B_
 ·rcases this with rfl | rfl
  ·exact p.kv0
  ·exact p.kv1
theorem errp_mk{K:W.Frag}{a0 a1 aw:Addr}{cd0 cd1:ClassData}{N0:Addr}{bs0 sub0:List Value}{nm0 q0:Str}{hd0 ab0:Bool}{sn0:List Str}{col0:Option Bool}{dd0:Option Addr}{k00 k10 k20 k30 k50:Option Value}{N1:Addr}{bs1 Lx:List Value}{nm1 q1:Str}{hd1 ab1:Bool}{sn1:List Str}{col1:Option Bool}{dd1:Option Addr}{k01 k11 k21 k31 k51:Option Value}{Nw:Addr}{bsw subw:List Value}{nmw qw:Str}{hdw abw:Bool}{snw:List Str}{colw:Option Bool}{ddw:Option Addr}{k0w k1w k2w k3w k5w:Option Value}(l0:K.lookup a0=some (excClassObj nm0 q0 a0 N0 bs0 (.ref aw::VE) hd0 sn0 sub0 ab0 col0 dd0 k00 k10 k20 k30 k50 NV))(x0:W.excIn K a0 VE NV=true)(i0:W.nsIn K N0 "__init__" = some none)(g0:W.nsIn K N0 "__getattribute__" = some none)(e0:W.nsIn K N0 "__getattr__" = some none)(rr0:W.nsIn K N0 "__class__" = some none)(l1:K.lookup a1=some (excClassObj nm1 q1 a1 N1 bs1 (.ref aw::VE) hd1 sn1 Lx ab1 col1 dd1 k01 k11 k21 k31 k51 NV))(x1:W.excIn K a1 VE NV=true)(i1:W.nsIn K N1 "__init__" = some none)(g1:W.nsIn K N1 "__getattribute__" = some none)(e1:W.nsIn K N1 "__getattr__" = some none)(rr1:W.nsIn K N1 "__class__" = some none)(lw:K.lookup aw=some (excClassObj nmw qw aw Nw bsw VE hdw snw subw abw colw ddw k0w k1w k2w k3w k5w NV))(xw:W.excIn K aw VE NV=true)(iw:W.nsIn K Nw "__init__" = some none)(gw:W.nsIn K Nw "__getattribute__" = some none)(ew:W.nsIn K Nw "__getattr__" = some none)(rrw:W.nsIn K Nw "__class__" = some none)
  (ne:(Value.ref a0==Value.ref a1)=false) (en:(Value.ref a1==Value.ref a0)=false) (d0:W.clsIn K a0=some cd0) (d1:W.clsIn K a1=some cd1) (t0:W.typeIn K (.ref a0)=some (.type "type")) (t1:W.typeIn K (.ref a1)=some (.type "type"))
  (s01:W.subIn K (.ref a0) (.ref a1)=some false) (s10:W.subIn K (.ref a1) (.ref a0)=some false) (v0:W.subIn K (.ref a0) (.type "ValueError")=some true) (v1:W.subIn K (.ref a1) (.type "ValueError")=some true):J_ K a0 a1 aw:=
 ⟨Dr l0 x0 i0 g0 e0 rr0,Dr l1 x1 i1 g1 e1 rr1,Dr lw xw iw gw ew rrw,Ay ne d1 t1 s01,Ay en d0 t0 s10,D6 (by kernel_rfl) v0,D6 (by kernel_rfl) v1⟩
theorem se{X:Cx}:CI X .Eq w9:=by
 intro pins s σ H x y v u Q I rx ry h
 obtain⟨dx,dy,b,r1,r2,e,q⟩:=h
 have sc:Gp x y=true->decide (x=y)=b->wpAny (model X.prog X.w) X.A (compareOp .Eq v u) (EP X pins σ Q) X.xe s:=fun z1 z2=>H9 pins s σ H x y v u Q I rx ry ⟨z1,by rw[z2];exact q⟩
 cases dx with
 | int i=>obtain⟨j,e1,e⟩:=p9 e;cases (show x=_ from r1);cases vg e1 r2;exact sc rfl (xX.trans e)
 | str i=>obtain⟨j,e1,e⟩:=p9 e;cases (show x=_ from r1);cases CB e1 r2;exact sc rfl (ye.trans e)
 | bl i=>obtain⟨j,e1,e⟩:=p9 e;cases (show x=_ from r1);cases Fk e1 r2;exact sc rfl (zH.trans e)
 | _=>cases e
section
variable{K:W.Frag}{H:Hp}
theorem BS{K:W.Frag}{H:Hp}{ρ:R}{σ:L2.St}(er:sZ K H ρ σ):∀{js:List Nat} {cs:LD},Au js ρ=some cs->∃vs,i6 K H cs vs/\vs.length=js.length/\∀(i j:Nat) (v:V),js[i]?=some j->vs[i]?=some v->σ[j]?=some (some v)
 | [],_,h=>by cases h;exact⟨[],rfl,rfl,fun i j v h=>by cases h⟩
 | j::js,cs,h=>by
  obtain⟨d,e1,h⟩:=e9 h
  obtain⟨cs',e2,rfl⟩:=p9 h
  obtain⟨v,hσ,rv⟩:=er.at e1
  obtain⟨vs,r,hl,hg⟩:=BS er e2
  refine⟨v::vs,⟨v,vs,rfl,rv,r⟩,by simp[hl],fun i j' v' h1 h2=>?_⟩
  cases i with
  | zero=>cases h1;cases h2;exact hσ
  | succ i=>exact hg i j' v' h1 h2
end
structure Fd (X:Cx) (t:zr) (cl:List (Str×Addr)) (ct:uZ) (js:List Nat):Prop where
 TB:uK X.mg [ct] X.base
 hT:X.H₀ ct.P=some (.tbl ct.q false)
 tq:t.q=ct.q
 code:X.env.code=.ref ct.c
 qual:X.env.qual ++ "<lambda>" = ct.q
 hcl:closureFor t.scope X.env=pure cl
 hdf:defaultsOf t.params X.env=([],[])
 own:Gs X cl
 sc:uO t.N t.ps t.scope cl
 hjs:js.map (fun j=>X.N[j]?)=(t.N.drop t.ps.length).map some
 hcn:∀y c,cl.lookup y=some c->y∈t.N.drop t.ps.length
theorem Cs{X:Cx}{t:zr}{ct:uZ}{x:Str}{c:Addr}{j:Nat}(TB:uK X.mg [ct] X.base)(hT:X.H₀ ct.P=some (.tbl ct.q false))(tq:t.q=ct.q)(code:X.env.code=.ref ct.c)(qual:X.env.qual ++ "<lambda>" = ct.q)
  (fn:∀x,X.fn x=true) (hcl:closureFor t.scope X.env=pure [(x,c)]) (hdf:defaultsOf t.params X.env=([],[])) (hcell:X.env.cells.lookup x=some c) (hk:X.env.scope.names.lookup x=some .cell) (hN:X.N[j]?=some x)
  (kd:t.scope.kind=.function) (co:t.scope.isCoroutine=false) (gen:t.scope.isGenerator=false) (nd:t.N.Nodup) (hn:t.N=t.ps++[x]) (par:∀y∈t.ps,t.scope.names.lookup y=some .local) (noc:∀y∈t.scope.names,y.2≠.cell)
  (fre:t.scope.names.lookup x=some .free) (only:∀y∈t.scope.names,y.2=.free->y.1=x):Fd X t [(x,c)] ct [j]:=by
 have hdr:t.N.drop t.ps.length=[x]:=by rw[hn,List.drop_left]
 have lk:∀y c',List.lookup y [(x,c)]=some c'->y=x/\c'=c:=fun y c' h=>by
  rw[List.lookup_cons] at h
  cases q:y==x with
  | true=>rw[q] at h;cases h;exact⟨eq_of_beq q,rfl⟩
  | false=>rw[q] at h;cases h
 have lkx:List.lookup x [(x,c)]=some c:=by rw[List.lookup_cons];simp
 refine⟨TB,hT,tq,code,qual,hcl,hdf,⟨fn,by simp,fun y c' h=>?_⟩,⟨kd,co,gen,nd,by rw[hn,List.take_left],par,noc,fun y hy=>?_,fun y hy=>?_,by simp,fun y z c' h1 h2=>by rw[(lk y c' h1).1,(lk z c' h2).1]⟩,by rw[hdr];simp[hN],fun y c' h=>by rw[hdr,(lk y c' h).1];exact List.mem_singleton.mpr rfl⟩
 ·obtain⟨rfl,rfl⟩:=lk y c' h
  exact⟨hcell,hk⟩
 ·rw[hdr] at hy
  rw[List.mem_singleton.mp hy]
  exact fre
 ·have:=only _ (PySem.mem_of_lookup hy) rfl
  rw[show y=x from this]
  exact⟨c,lkx⟩
def ED(K:W.Frag)(H:Hp)(ob:D)(Q:VK)(Er:Nat->Hp->Prop):Except Nat (D×D)->Prop
 | .ok (d,o')=>∀v H',tM (adr ob) H H'->sM (adr ob) H'->Rep K H' d v->Rep K H' o' (.ref (yF ob))->Q v H'
 | .error c=>∀H',i7 H H'->Er c H'
theorem ED.imp{K:W.Frag}{H:Hp}{ob:D}{Q Q':VK}{Er Er':Nat->Hp->Prop}{r:Except Nat (D×D)}(h:ED K H ob Q Er r)(h1:∀v H',Q v H'->Q' v H')(h2:∀c H',Er c H'->Er' c H'):ED K H ob Q' Er' r:=by
 match r,h with
 | .ok (d,o'),h=>exact fun v H' a b c e=>h1 _ _ (h v H' a b c e)
 | .error c,h=>exact fun H' s=>h2 _ _ (h H' s)
section
variable(ca:Nat->Addr)
def NO(X:Cx)(j:Nat)(g:MX):TE:=fun σ H Q=>∃ ρ ob r,sZ X.K H ρ σ/\c6 j ρ=some ob/\vU ob=true/\g ρ=some r/\ED X.K H ob Q (fun c H'=>XW X (ca c) H') r
def IL(K:W.Frag)(n:Nat)(G:LD->Option (Except Nat (D×D))):Sp:=fun vs H Q E=>∃ob ds r,(ob::ds).length=n/\i6 K H (ob::ds) vs/\vU ob=true/\G (ob::ds)=some r/\ED K H ob Q (fun c H'=>E (.ref (ca c)) none H') r
structure BZ (P:Program) (w:World) (K:W.Frag) (mg:Str->Option Value) (base:Heap) (k C:Nat) (m:Str) (ps:List Str) (G:LD->Option (Except Nat (D×D))):Prop where
 ex:∃f fd,k6 P w K mg base (y8 P w) k f fd ps (IL ca K ps.length G)/\BU K C m f/\Binds K fd ps []
end
theorem BZ.m{ca:Nat->Addr}{P:Program}{w:World}{K:W.Frag}{mg:Str->Option Value}{base:Heap}{k k' C:Nat}{x:Str}{ps:List Str}{G:LD->Option (Except Nat (D×D))}(h:BZ ca P w K mg base k C x ps G)(hk:k<=k':=by decide):BZ ca P w K mg base k' C x ps G:=by
 obtain⟨f,fd,a,b⟩:=h.ex
 exact⟨f,fd,a.mono hk,b⟩
section
variable{X:Cx}{ca:Nat->Addr}{pos apos:Pos}{k C:Nat}{mn x:Str}{ps:List Str}{G:LD->Option (Except Nat (D×D))}
theorem lY (j:Nat) (c:wl X.K C) (M:BZ ca X.prog X.w X.K X.mg X.base k C mn ps G) (hr:sL k X.A) (hps:ps.length=1) {px:Pos} (hN:X.N[j]?=some x:=by rfl) (hv:z8 X.env.scope x:=by first | exact Or.inl rfl | exact Or.inr (Or.inl rfl) | exact Or.inr (Or.inr rfl))
    (hd:(x==("__debug__" : Str))=false:=by decide) (hcd:(x==("__classdict__" : Str))=false:=by decide) {pl:Sem Bool}
    (ht:eval (.Call (.Attribute (.Name x px) mn apos) [] [] pos) X.env=(do
      let ov <- eval (.Name x px) X.env
      standAt apos.atName
      let (f,first) <- holding [ov] (getMethod ov mn pl)
      callWith pos f first (backTo pos (starEach [] X.env)) (backToKw pos (keywordEach [] X.env))):=by rfl):PE X (.Call (.Attribute (.Name x px) mn apos) [] [] pos) (NO ca X j (xA C mn j G c7)):=by
  obtain⟨f,fd,F,hm,bd⟩:=M.ex
  refine(iC (pv j (pos:=px) hN hv hd hcd) c hm F hr bd .nil IJ ht).imp fun σ H Q ⟨ρ,ob,r,er,hat,ho,e,q⟩=>?_
  obtain⟨ob',e1,z1⟩:=e9 e
  rw[hat] at e1
  cases e1
  obtain⟨ds,e2,z2⟩:=e9 z1
  cases e2
  clear e z1
  match ob,z2,hat,ho,q with
  | .obj kk a ks es',z2,hat,ho,q =>
    have e:(if kk=C+2/\ks.contains mn=false then G [.obj kk a ks es'] else none)=some r:=z2
    split at e
    case isFalse=>cases e
    case isTrue hc =>
    obtain⟨rfl,hk⟩:=hc
    obtain⟨v,hσ,rv⟩:=er.at hat
    have rv':=rv
    obtain⟨xs,ev,⟨hl,dx,hH⟩,t⟩:=rv
    subst ev
    refine⟨.ref a,hσ,a,dx,_,rfl,hH,ww hk,?_⟩
    exact⟨.obj (C+2) a ks es',[],r,hps.symm,⟨_,[],rfl,rv',rfl⟩,rfl,e,q.imp (fun _ _ z=>z) fun c H' z=>⟨_,rfl,z⟩⟩
end
def zk(ca:Nat->Addr)(K:W.Frag)(t:zr)(j:Nat)(g:MX)(f c':Addr)(cl:List (Str×Addr))(pm ctv:Value):Sp:=fun vs H Q E=>vs=[]/\H f=some (vX (W.kla_obj "<lambda>" t.q t.params t.body t.scope cl pm c' ctv))/\H c'=some (.tbl t.q true) /\
 ∃caps ds ob r,xF H t.N t.ps cl caps/\i6 K H ds caps/\ds[j]?=some ob/\vU ob=true/\g (ds.map some)=some r/\ED K H ob Q (fun c H'=>E (.ref (ca c)) none H') r
theorem Iu{ca:Nat->Addr}{P:Program}{w:World}{K:W.Frag}{mg:Str->Option Value}{base:Heap}{k:Nat}{t:zr}{j:Nat}{g:MX}(hps:t.ps=[])
  (hb:∀(cl:List (Str×Addr)) (f c':Addr) (A:Around) (outer:List Env) (s:Shared) (H:Hp) (E:XK),uO t.N t.ps t.scope cl->sL k (A.deeper (W.envX t.q t.scope s.heap.objs.size f (.ref c') cl))->PE (zA (y8 P w) P w K mg base t.N t.q t.scope cl f (.ref c') A outer s H E) t.body (NO ca (zA (y8 P w) P w K mg base t.N t.q t.scope cl f (.ref c') A outer s H E) j g))
  (f c':Addr) (cl:List (Str×Addr)) (pm ctv:Value) (S:uO t.N t.ps t.scope cl):k6 P w K mg base (y8 P w) (k+1) f (W.kla_fn "<lambda>" t.q t.params t.body t.scope cl pm (.ref c') ctv) t.ps (zk ca K t j g f c' cl pm ctv):=by
 refine IK S (fun vs H Q E ⟨h,_⟩=>by rw[h,hps];rfl) (fun vs H Q E ⟨_,h1,h2,_⟩=>⟨h1,h2⟩) (fun A outer s H vs Q E hr e0 h=>?_)
 obtain⟨rfl,h1,h2,caps,ds,ob,r,h3,r2,hj,ho,e,q⟩:=h
 have hC:∀b,tJ cl b=true->∃o,H b=some (vX o):=fun b hb=>let ⟨o,_,z,_⟩:=h3.2.1 b hb;⟨o,z⟩
 have dc:=zB hC
 have rd:i6 K (t7 cl H) ds caps:=i6.clo dc r2
 refine⟨caps,_,h3,hb cl f c' A outer s H E S hr,ds.map some,ob,r,?_,?_,ho,e,?_⟩
 ·exact qd rd
 ·show(ds.map some).getD j none=some ob
  rw[List.getD_eq_getElem?_getD,List.getElem?_map,hj];rfl
 ·match r,q with
  | .ok (d,o'),q =>
   refine fun v H2 kq m2 rv ro bk=>q v _ (fun b u hn hu=>?_) (fun b hb=>?_) (rv.mono fun b u hu=>bk b u hu) (ro.mono fun b u hu=>bk b u hu)
   ·show(if tJ cl b then H b else H2 b)=some u
    cases qc:tJ cl b with
    | true=>exact hu
    | false=>exact kq b u hn (by rw[uM qc];exact hu)
   ·have:=m2 b hb
    cases hz:H2 b with
    | none=>rw[hz] at this;exact this.elim
    | some u=>rw[bk b u hz];rw[hz] at this;exact this
  | .error c,q =>
   refine fun H2 s2=>JF S h3 e0.hok e0.frf (q _ fun b u hu=>?_) s2
   show(if tJ cl b then H b else H2 b)=some u
   cases qc:tJ cl b with
   | true=>exact hu
   | false=>exact s2 b u (by rw[uM qc];exact hu)
section
variable(ca:Nat->Addr)
def N3(X:Cx)(S:List Nat)(g:List Nat->R->Option (Except Nat MO)):TS:=fun E σ H=>∃ ρ τ o,sY X.K H ρ τ σ/\sM S H/\g S ρ=some o/\match o with
 | .ok mo=>∀H',tM S H H'->sM S H'->Lj X.K E τ mo H'
 | .error c=>∀H',i7 H H'->XT X (ca c) H'
def NK(X:Cx)(sts:List Stmt)(g:List Nat->R->Option (Except Nat MO)):Prop:=∀S,PSs X sts (N3 ca X S g)
end
section
variable{X:Cx}{ca:Nat->Addr}{pos:Pos}
theorem FR{c:Expr}{st:Stmt}{sts:List Stmt}{s:R->Option Bool}{f:R->OD}{u:MU}{n:Nat}(hc:ST X c s)(hr:MZ ca X st (Dd n f))(hu:E7 X sts u):NK ca X (.If c [st] [] pos::sts) (DX s f n u):=fun S =>
 (dP (lS hc (dA hr) za) (hu S)).imp fun E σ H ⟨ρ,τ,o,er,m,e,q⟩=>by
  obtain⟨b,e1,e⟩:=e9 e
  refine⟨ρ,b,er.1,e1,fun H1 s1=>?_⟩
  cases b with
  | true =>
   rw[if_pos rfl] at e ⊢
   obtain⟨d,e2,e3⟩:=p9 e
   subst e3
   refine⟨ρ,τ,.error n,er.mono s1,?_,fun H2 s2=>q H2 (s1.trans s2)⟩
   show(f ρ).map _=_
   rw[e2];rfl
  | false =>
   rw[if_neg Bool.false_ne_true] at e ⊢
   obtain⟨mo,e2,e3⟩:=p9 e
   subst e3
   exact⟨ρ,τ,mo,er.mono s1,m.same s1,e2,fun H2 k2 m2=>q H2 ((tM.of s1).trans k2) m2⟩
end
theorem pR{ca:Nat->Addr}{P:Program}{w:World}{K:W.Frag}{mg:Str->Option Value}{base:Heap}{x qual:Str}{st:Stmt}{f:Addr}{fd:FuncData}{N ps:List Str}{k:Nat}{g:List Nat->R->Option (Except Nat MO)}
  (Fn:tE K x qual st f fd) (Sc:c9 N ps (c5 st))
  (hb:∀(cdv:Value) (A:Around) (outer:List Env) (s:Shared) (H:Hp) (E:XK),sL k (A.deeper (envOfC qual (c5 st) s.heap.objs.size f cdv))->NK ca (wt (y8 P w) P w K mg base N qual (c5 st) f cdv A outer s H E) (sS st) g) :
  k6 P w K mg base (y8 P w) (k+1) f fd ps (IL ca K ps.length (Gg ps.length N.length 0 g)):=by
 obtain⟨oc,od,kV,doc,pm,an,cdv,ct,osl,rfl,lk,hcd⟩:=Fn.ex
 refine pO lk hcd Sc (fun vs H Q E h=>?_) (fun A outer s H vs Q E hr h=>?_)
 ·obtain⟨ob,ds,r,hl,rr,_⟩:=h
  rw[<- rr.length];exact hl
 ·obtain⟨ob,ds,r,hl,rr,ho,e,q⟩:=h
  unfold Gg at e
  rw[if_pos hl] at e
  have e':(if vU ob=true then _ else none)=some r:=e
  rw[if_pos ho] at e'
  obtain⟨o,e1,e2⟩:=e9 e'
  obtain⟨v,hv,rv⟩:=rr.get (i:=0) rfl
  have ms:=xh rv
  refine⟨_,hb cdv A outer s H E hr (adr ob),yz N.length (ob::ds),_,o,(yu rr).t,ms,e1,?_⟩
  match o,e2 with
  | .error c,e2 =>
   cases e2
   exact fun H1 s1=>JI (q H1 s1) s1
  | .ok (.nx ρ),e2 =>
   obtain⟨⟨d,o'⟩,e3,e4⟩:=p9 e2
   subst e4
   intro H1 k1 m1 σ' er'
   obtain⟨ob',e5,e6⟩:=e9 e3
   split at e6
   ·rename_i hc
    obtain⟨rfl,rfl⟩:D.non=d/\ob'=o':=by simpa using e6
    have rr2:=(HA.of er'.1) 0 ob' (zf e5) hc.1
    rw[zb hc.1 ho hc.2] at rr2
    exact q .non H1 k1 m1 rfl rr2
   ·cases e6
  | .ok (.rt d' ρ),e2 =>
   obtain⟨⟨d,o'⟩,e3,e4⟩:=p9 e2
   subst e4
   intro H1 k1 m1 v rv ob1
   obtain⟨ob',e5,e6⟩:=e9 e3
   split at e6
   ·rename_i hc
    obtain⟨rfl,rfl⟩:d'=d/\ob'=o':=by simpa using e6
    have rr2:=ob1 0 ob' (zf e5) hc.1
    rw[zb hc.1 ho hc.2] at rr2
    exact q v H1 k1 m1 rv rr2
   ·cases e6
def zO(P:Program)(w:World)(K:W.Frag)(mg:Str->Option Value)(base:Heap)(ca:Nat->Addr)(k:Nat)(fnd:Nat->OD):Sp:=fun vs H Q _=>∃(t:zr) (j:Nat) (g:MX) (f c':Addr) (cl:List (Str×Addr)) (pm ctv:Value),vs=[.ref f]/\t.ps=[] /\
 k6 P w K mg base (y8 P w) k f (W.kla_fn "<lambda>" t.q t.params t.body t.scope cl pm (.ref c') ctv) t.ps (zk ca K t j g f c' cl pm ctv)/\Binds K (W.kla_fn "<lambda>" t.q t.params t.body t.scope cl pm (.ref c') ctv) t.ps [] /\
 zk ca K t j g f c' cl pm ctv [] H (fun v H1=>∀p,H1 p=none->Q (.ref p) (upd H1 p (.tup [.str ua,v]))) (fun Cv _ H1=>∃c d,Cv=.ref (ca c)/\fnd c=some d/\∀v H2,i7 H1 H2->Rep K H2 d v->Q v H2)
theorem zk.imp{ca:Nat->Addr}{K:W.Frag}{t:zr}{j:Nat}{g:MX}{f c':Addr}{cl:List (Str×Addr)}{pm ctv:Value}{vs:List V}{H:Hp}{Q Q':VK}{E E':XK}(h:zk ca K t j g f c' cl pm ctv vs H Q E)(h1:∀v H',Q v H'->Q' v H')(h2:∀c H',E (.ref (ca c)) none H'->E' (.ref (ca c)) none H'):zk ca K t j g f c' cl pm ctv vs H Q' E':=by
 obtain⟨a,b,c,caps,ds,ob,r,d,e,f1,g1,h3,q⟩:=h
 exact⟨a,b,c,caps,ds,ob,r,d,e,f1,g1,h3,q.imp h1 h2⟩
section
variable{X:Cx}{ca:Nat->Addr}{Wz:Addr}{y n dn:Str}{np dp cp tp yp yp2 rp lp apos hpos pos:Pos}{b₀:Stmt}{suite:List Stmt}{gs:Nat->Nat->R->Option Out}{k:Nat}{x1:_}{js1:_}
theorem qi{fnd:Nat->OD}(i j jf:Nat)(EK:Gb X.K X.mg ca Wz)(hr:sL k X.A)(hc:X.calm=true)(hcells:X.env.cells=[])(hstk:X.stack=X.env::X.outer)(hfr:X.env.frame=some X.env.locals)(hex:X.ex=[])(hN:X.N.Nodup)
  (hs:∀pins e oe c,c<2->oe.cls=.ref (ca c)->SS (Lq X pins e oe) (b₀::suite) (gs c e)) (hf:∀c d,fnd c=some d->c<2/\∀e:Nat,∃ ρ',gs c e (J0 X.N.length j e)=some (.nx ρ')/\c6 jf (ρ'.set j none)=some d)
  (hiN:X.N[i]?=some dn:=by rfl) (hiv:z8 X.env.scope dn:=by first | exact Or.inl rfl | exact Or.inr (Or.inl rfl) | exact Or.inr (Or.inr rfl)) (LX:(dn==("__debug__" : Str))=false:=by decide) (hicd:(dn==("__classdict__" : Str))=false:=by decide)
  (hyN:X.N[jf]?=some y:=by rfl) (hyl:Loc X.env.scope y:=by first | exact Or.inl rfl | exact Or.inr rfl) (hyv:z8 X.env.scope y:=by first | exact Or.inl rfl | exact Or.inr (Or.inl rfl) | exact Or.inr (Or.inr rfl)) (hyd:(y==("__debug__" : Str))=false:=by decide) (hycd:(y==("__classdict__" : Str))=false:=by decide)
  (hyf:X.fn y=true\/X.env.scope.names.lookup y=some .local:=by first | exact .inl rfl | exact .inr rfl) (hlt:jf<X.N.length:=by decide)
  (hsw:swapsWith (.Tuple [.Constant (.str ua) js1 lp,.Call (.Name dn dp) [] [] cp] x1 tp) (some (.Name y yp)) apos.line X.env=pure false:=by rfl)
  (hj:X.N[j]?=some n:=by rfl) (hloc:X.env.kindOf n=some .local:=by rfl) (hgl:Gl X "WatchError":=by rfl) :
  PSs X [.Try [.Assign [.Name y yp] (.Tuple [.Constant (.str ua) js1 lp,.Call (.Name dn dp) [] [] cp] x1 tp) apos] [.ExceptHandler (some (.Name "WatchError" np)) (some n) (b₀::suite) hpos] [] [] pos,.Return (some (.Name y yp2)) rp]
   (fun E σ H=>σ.length=X.N.length/\∃f,σ[i]?=some (some (.ref f))/\zO X.prog X.w X.K X.mg X.base ca k fnd [.ref f] H E.rt E0):=by
 intro pins s σ H E I ⟨hlen,f,hσ,t,jj,g,f',c',cl,pm,ctv,hv,hps,hF,bd,hsp⟩
 cases hv
 have hb1:∀(pins:List (Addr×Obj)) (E:Value->Shared->Prop),PS (H_ X pins E) (.Assign [.Name y yp] (.Tuple [.Constant (.str ua) js1 lp,.Call (.Name dn dp) [] [] cp] x1 tp) apos) (fun D σ H=>σ[i]?=some (some (.ref f))/\zk ca X.K t jj g f c' cl pm ctv [] H (fun v H1=>∀p,H1 p=none->D.nx (σ.set jf (some (.ref p))) (upd H1 p (.tup [.str ua,v]))) (fun Cv _ H1=>∃c,Cv=.ref (ca c)/\XW (H_ X pins E) (ca c) H1)):=fun pins E =>
  (mV (X:=H_ X pins E) (i:=jf) hN hyN hyl (kN (el Gz (el (oP (X:=H_ X pins E) (i:=i) (p:=dp) (pos:=cp) hF bd hr hiN hiv LX hicd) zy))) hsw hyf).imp fun D σ H ⟨h1,h2⟩=>by
   refine⟨h1,h2.2.1,h2.imp (fun v H1 q=>⟨?_,fun p hp=>q p hp⟩) fun c H1 ⟨c2,e,z⟩=>⟨_,e,z⟩⟩
   exact Nat.le_trans (show 2<=1000 by decide) (by decide)
 have key:=dP (qF (X:=X) (ca:=ca) (x:="WatchError") (np:=np) (hpos:=hpos) (pos:=pos) (b₀:=b₀) (suite:=suite) (gs:=gs)
  (tb:=fun σ H Qn Qe=>σ[i]?=some (some (.ref f))/\zk ca X.K t jj g f c' cl pm ctv [] H (fun v H1=>∀p,H1 p=none->Qn (σ.set jf (some (.ref p))) (upd H1 p (.tup [.str ua,v]))) (fun Cv _ H1=>∃c,Cv=.ref (ca c)/\Qe c H1))
  j EK.two hc hcells hstk hfr hex hN EK.mw
  (fun σ H Qn Qe Qe' hq ⟨h1,h2⟩=>⟨h1,h2.imp (fun _ _ z=>z) fun c H' ⟨c2,e,z⟩=>⟨c2,e,hq _ _ z⟩⟩)
  hb1 hs hj hloc hgl (by decide)) (dA (iN (pos:=rp) (pv jf (pos:=yp2) hyN hyv hyd hycd)))
 refine key pins s σ H E I ⟨hσ,hsp.imp (fun v H1 q p hp=>⟨.ref p,?_,q p hp⟩) fun c H1 ⟨c2,d,e2,e3,q⟩=>⟨c2,e2,?_⟩⟩
 ·rw[List.getElem?_set_self (by omega)]
 ·obtain⟨hc2,hg⟩:=hf c2 d e3
  refine⟨hc2,fun e=>?_⟩
  obtain⟨ρ',eg,ev⟩:=hg e
  refine⟨ρ',eg,fun σ' H' t er'=>?_⟩
  obtain⟨v,hv,rv⟩:=er'.at ev
  exact⟨v,hv,q v H' t rv⟩
end
theorem qA {ca:Nat->Addr} {P:Program} {w:World} {K:W.Frag} {mg:Str->Option Value} {base:Heap} {x qual:Str} {st:Stmt} {f:Addr} {fd:FuncData} {N ps:List Str} {k:Nat} {fnd:Nat->OD}
    (Fn:tE K x qual st f fd) (Sc:c9 N ps (c5 st)) (hps:ps.length=1) (hn:1<=N.length)
    (hb:∀(cdv:Value) (A:Around) (outer:List Env) (s:Shared) (H:Hp) (E:XK),sL k (A.deeper (envOfC qual (c5 st) s.heap.objs.size f cdv))->PSs (wt sR P w K mg base N qual (c5 st) f cdv A outer s H E).nox (sS st)
      (fun E σ H=>σ.length=N.length/\∃f,σ[0]?=some (some (.ref f))/\zO P w K mg base ca k fnd [.ref f] H E.rt E0)) :
    k6 P w K mg base sR (k+1) f fd ps (zO P w K mg base ca k fnd):=by
  refine Fn.ok Sc (fun vs H Q E h=>?_) (fun cdv A outer s H vs Q E hr h=>?_)
  · obtain⟨_,_,_,_,_,_,_,_,rfl,_⟩:=h
    rw[hps];rfl
  · obtain⟨t,j,g,fc,c',cl,pm,ctv,rfl,q⟩:=h
    refine⟨_,hb cdv A outer s H E hr,?_,fc,rfl,t,j,g,fc,c',cl,pm,ctv,rfl,q⟩
    unfold L2.start
    simp
    omega
structure xc (P:Program) (w:World) (K:W.Frag) (mg:Str->Option Value) (base:Heap) (ca:Nat->Addr) (k k0:Nat) (x:Str) (ps:List Str) (fnd:Nat->OD):Prop where
 ex:∃f fd,k6 P w K mg base sR k f fd ps (zO P w K mg base ca k0 fnd)/\mg x=some (.ref f)/\W.keepIn K (.ref f)=true/\Binds K fd ps []
theorem xc.m{P:Program}{w:World}{K:W.Frag}{mg:Str->Option Value}{base:Heap}{ca:Nat->Addr}{k k' k0:Nat}{x:Str}{ps:List Str}{fnd:Nat->OD}(h:xc P w K mg base ca k k0 x ps fnd)(hk:k<=k':=by decide):xc P w K mg base ca k' k0 x ps fnd:=by
 obtain⟨f,fd,a,b⟩:=h.ex
 exact⟨f,fd,a.mono hk,b⟩
def On(X:Cx)(j:Nat)(js:List Nat)(g:MX)(fnd:Nat->OD)(S:List Nat):TE:=fun σ H Q=>∃ ρ τ d ρ',sY X.K H ρ τ σ/\sM S H/\wF j js g fnd S ρ=some (d,ρ')/\∀v H',tM S H H'->sM S H'->Rep X.K H' d v->sY X.K H' ρ' τ σ->Q v H'
def MJ(X:Cx)(e:Expr)(j:Nat)(js:List Nat)(g:MX)(fnd:Nat->OD):Prop:=∀S,PE X e (On X j js g fnd S)
theorem D0:∀{js:List Nat} {ρ:R} {ds:LD} {j:Nat} {ob:D},Au js ρ=some ds->ds[j]?=some ob->c6 (js.getD j 0) ρ=some ob
 | [],_,_,j,ob,h,hj=>by cases h;cases hj
 | i::js,ρ,ds,j,ob,h,hj=>by
  obtain⟨d,e1,h⟩:=e9 h
  obtain⟨ds',e2,rfl⟩:=p9 h
  cases j with
  | zero=>cases hj;exact e1
  | succ j=>exact D0 (js:=js) e2 hj
section
variable{X:Cx}{ca:Nat->Addr}{pos p lpos:Pos}{k k0:Nat}{told:Str}{ps:List Str}{t:zr}{ct:uZ}{cl:List (Str×Addr)}{js:List Nat}{j:Nat}{g:MX}{fnd:Nat->OD}
theorem nX(C:xc X.prog X.w X.K X.mg X.base ca k k0 told ps fnd)(hr:sL k X.A)(o:Fd X t cl ct js)(hps:t.ps=[])
  (LM:∀(f c':Addr) (cl:List (Str×Addr)) (pm ctv:Value),uO t.N t.ps t.scope cl->k6 X.prog X.w X.K X.mg X.base (y8 X.prog X.w) k0 f (W.kla_fn "<lambda>" t.q t.params t.body t.scope cl pm (.ref c') ctv) t.ps (zk ca X.K t j g f c' cl pm ctv))
  (bd:∀(c':Addr) (cl:List (Str×Addr)) (pm ctv:Value),Binds X.K (W.kla_fn "<lambda>" t.q t.params t.body t.scope cl pm (.ref c') ctv) t.ps []) (hg:Gl X told:=by rfl) (hdb:(told==("__debug__" : Str))=false:=by decide) :
  MJ X (.Call (.Name told p) [.Lambda t.params t.body t.scope lpos] [] pos) j js g fnd:=by
 obtain⟨fa,fd,fok,hm,kp,bdT⟩:=C.ex
 intro S pins s σ H Q I ⟨ρ,τ,d,ρ',er,mS,e0,q⟩
 refine pW fok hr hg hm kp bdT o.own (el (rE (t:=ct) (ts:=[ct]) o.TB (.head _) o.code o.qual o.hcl o.hdf) zy) hdb rfl rfl pins s σ H Q I ⟨I.base.tbls _ _ _ o.hT,fun f c' ctv pm H1 s1 hn h1 h2 H2 tr=>?_⟩
 obtain⟨ds,eC,e0⟩:=e9 e0
 obtain⟨ob,hj,e0⟩:=e9 e0
 obtain⟨r,eg,e0⟩:=e9 e0
 have s12:i7 H1 H2:=fun b u hb=>by
  cases qc:tJ cl b with
  | false=>rw[tr.out b qc];exact hb
  | true=>rw[(tr.cel b qc).1] at hb;cases hb
 have er1:=er.mono s1
 obtain⟨cvs,rc,hl,hg'⟩:=BS er1.1 eC
 have hlen:js.length=t.N.length - t.ps.length:=by
  have:=congrArg List.length o.hjs
  rw[List.length_map,List.length_map,List.length_drop] at this
  exact this
 have at_i:∀(i:Nat) (y:Str),(t.N.drop t.ps.length)[i]?=some y->∃j,js[i]?=some j/\X.N[j]?=some y:=fun i y hy=>by
  have h:=congrArg (fun l=>l[i]?) o.hjs
  simp only[List.getElem?_map] at h
  rw[hy] at h
  cases hj:js[i]? with
  | none=>rw[hj] at h;cases h
  | some j=>rw[hj] at h;exact⟨j,rfl,Option.some.inj h⟩
 have caps:xF H2 t.N t.ps cl cvs:=by
  refine⟨by rw[hl,hlen],fun b hb=>?_,fun i y v hy hv=>?_⟩
  ·obtain⟨pr,hp,ep⟩:=List.any_eq_true.mp hb
   have hlk:cl.lookup pr.1=some b:=u5 o.own.ndc (by rw[<- eq_of_beq ep];exact hp)
   obtain⟨i,hi⟩:=List.getElem?_of_mem (o.hcn _ _ hlk)
   obtain⟨j,hj,hN⟩:=at_i i _ hi
   have hil:i<cvs.length:=by rw[hl];exact(List.getElem?_eq_some_iff.mp hj).1
   obtain⟨ob,u,z1,z2,_⟩:=tr.val j _ b cvs[i] hN (hg' i j _ hj (List.getElem?_eq_getElem hil)) hlk
   exact⟨ob,u,z1,z2⟩
  ·obtain⟨j,hj,hN⟩:=at_i i y hy
   obtain⟨c,hc⟩:=o.sc.has y (o.sc.fre y (List.mem_of_getElem? hy))
   obtain⟨ob,u,z1,z2,z3⟩:=tr.val j y c v hN (hg' i j v hj hv) hc
   exact⟨c,ob,u,hc,z1,z2,z3⟩
 have hcl:∀b,tJ cl b=true->∃o,H2 b=some (vX o):=fun b hb=>let ⟨o,_,z,_⟩:=caps.2.1 b hb;⟨o,z⟩
 have r2:i6 X.K H2 ds cvs:=rc.mono s12
 obtain⟨vo,hvo,ro⟩:=r2.get hj
 have h1':H2 f=some (vX (W.kla_obj "<lambda>" t.q t.params t.body t.scope cl pm c' ctv)):=by rw[o.tq];exact s12 _ _ h1
 have h2':H2 c'=some (.tbl t.q true):=by rw[o.tq];exact s12 _ _ h2
 have nC:∀b u,H1 b=some u->tJ cl b=false:=fun b u hb=>by
  cases qc:tJ cl b with
  | false=>rfl
  | true=>rw[(tr.cel b qc).1] at hb;cases hb
 match r,e0,eg with
 | .error c,e0,eg =>
  have e0':(if vU ob=true then (fnd c).map fun d=>(d,ρ) else none)=some (d,ρ'):=e0
  split at e0'
  case isFalse=>cases e0'
  case isTrue ho =>
  obtain⟨d',ef,ee⟩:=p9 e0'
  cases ee
  refine⟨t,j,g,f,c',cl,pm,ctv,rfl,hps,LM f c' cl pm ctv o.sc,bd c' cl pm ctv,rfl,h1',h2',cvs,ds,ob,.error c,caps,r2,hj,ho,eg,fun H3 s3=>⟨c,d,rfl,ef,fun v H4 s4 rv=>?_⟩⟩
  have sf:i7 H (t7 cl H4):=fun b u hb=>by
   have hb1:=s1 b u hb
   rw[uM (nC b u hb1)]
   exact s4 _ _ (s3 _ _ (s12 _ _ hb1))
  have hc4:∀b,tJ cl b=true->∃o,H4 b=some (vX o):=fun b hb=>let ⟨o,z⟩:=hcl b hb;⟨o,s4 _ _ (s3 _ _ z)⟩
  exact q v _ (tM.of sf) (mS.same sf) (Rep.clo (zB hc4) rv) (er.mono sf)
 | .ok (d1,o'),e0,eg =>
  have e0':(if vU ob=true/\uF (js.getD j 0) (adr ob) ρ=true/\y9 S (adr ob)=true/\js.getD j 0<ρ.length then some (D.tup [.str ua,d1],ρ.set (js.getD j 0) (some o')) else none)=some (d,ρ'):=e0
  split at e0'
  case isFalse=>cases e0'
  case isTrue hc =>
  cases e0'
  obtain⟨ho,hsep,hin,_⟩:=hc
  refine⟨t,j,g,f,c',cl,pm,ctv,rfl,hps,LM f c' cl pm ctv o.sc,bd c' cl pm ctv,rfl,h1',h2',cvs,ds,ob,.ok (d1,o'),caps,r2,hj,ho,eg,fun v H3 kq m3 rv ro' p0 hp0=>?_⟩
  have mo:sM (adr ob) H2:=xh ro
  have cellK:∀b,tJ cl b=true->∃o,H3 b=some (vX o):=fun b hb=>by
   obtain⟨oo,z⟩:=hcl b hb
   refine⟨oo,kq b _ (fun hz=>?_) z⟩
   have:=mo b hz
   rw[z] at this
   exact this
  have su:i7 H3 (upd H3 p0 (.tup [.str ua,v])):=aQ hp0 _
  have dc:=zB (H:=upd H3 p0 (.tup [.str ua,v])) (cl:=cl) fun b hb=>let ⟨oo,z⟩:=cellK b hb;⟨oo,su _ _ z⟩
  have ro3:Rep X.K (t7 cl (upd H3 p0 (.tup [.str ua,v]))) o' (.ref (yF ob)):=Rep.clo dc (ro'.mono su)
  have rv3:Rep X.K (t7 cl (upd H3 p0 (.tup [.str ua,v]))) (.tup [.str ua,d1]) (.ref p0):=Rep.clo dc ⟨p0,[.str ua,v],rfl,vC.of av,_,[v],rfl,rfl,v,[],rfl,rv.mono su,rfl⟩
  have kq1:tM (adr ob) H1 (t7 cl (upd H3 p0 (.tup [.str ua,v]))):=fun b u hn hb=>by
   rw[uM (nC b u hb)]
   exact su _ _ (kq b u hn (s12 _ _ hb))
  have m4:sM (adr ob) (t7 cl (upd H3 p0 (.tup [.str ua,v]))):=fun b hb=>by
   have h3:=m3 b hb
   cases hz:H3 b with
   | none=>rw[hz] at h3;exact h3.elim
   | some u =>
    have hnc:tJ cl b=false:=by
     cases qc:tJ cl b with
     | false=>rfl
     | true=>obtain⟨oo,z⟩:=cellK b qc;rw[z] at h3;exact h3.elim
    rw[uM hnc,su _ _ hz]
    rw[hz] at h3;exact h3
  obtain⟨a1,a2,a3⟩:=yJ er mS (D0 eC hj) ho hsep hin s1 kq1 m4 ro3
  exact q _ _ a1 a2 rv3 a3
theorem rR{e b:Expr}{B1 B2:List Stmt}{op:CmpOp}{F:D->D->Option Bool}{h:R->OD}{u w:MU}{pc:Pos}(ho:CI X op F)(ht:MJ X e j js g fnd)(hb:SE X b h)(h1:E7 X B1 u)(h2:E7 X B2 w)(hm:behindInMarks op b=false:=by first | exact A7 _ | with_unfolding_all rfl) :
  MS X (.If (.Compare e [op] [b] pc) B1 B2 pos) (Lf (wF j js g fnd) F h u w):=fun S=>(lS (ow ho (ht S) hb hm) (h1 S) (h2 S)).imp fun E σ H ⟨ρ,τ,o,er,m,eq,q⟩=>by
 obtain⟨⟨d,ρ'⟩,e1,eq⟩:=e9 eq
 obtain⟨y,e2,eq⟩:=e9 eq
 obtain⟨bb,e3,eq⟩:=e9 eq
 refine⟨ρ,τ,d,ρ',er,m,e1,fun v H1 k1 m1 rv er1=>⟨ρ',y,er1.1,e2,fun v2 H2 s2 r2=>⟨d,y,bb,rv.mono s2,r2,e3,bb,rfl,?_⟩⟩⟩
 cases bb with
 | true =>
  rw[if_pos rfl] at eq ⊢
  exact⟨ρ',τ,o,er1.mono s2,m1.same s2,eq,fun H3 k3 m3=>q H3 (k1.trans ((tM.of s2).trans k3)) m3⟩
 | false =>
  rw[if_neg Bool.false_ne_true] at eq ⊢
  exact⟨ρ',τ,o,er1.mono s2,m1.same s2,eq,fun H3 k3 m3=>q H3 (k1.trans ((tM.of s2).trans k3)) m3⟩
theorem qY{e b e2:Expr}{op:CmpOp}{F:D->D->Option Bool}{h f:R->OD}{pc pb:Pos}(ho:CI X op F)(ht:MJ X e j js g fnd)(hb:SE X b h)(h2:SE X (.BoolOp .And [e2] pb) f)(hm:behindInMarks op b=false:=by first | exact A7 _ | with_unfolding_all rfl) :
  MS X (.Return (some (.BoolOp .And [.Compare e [op] [b] pc,e2] pb)) pos) (IC (wF j js g fnd) F h f):=fun S=>(iN (pM (nU ho (ht S) hb hm) h2)).imp fun E σ H ⟨ρ,τ,o,er,m,eq,q⟩=>by
 obtain⟨⟨d,ρ'⟩,e1,eq⟩:=e9 eq
 obtain⟨y,e2',eq⟩:=e9 eq
 obtain⟨bb,e3,eq⟩:=e9 eq
 refine⟨ρ,τ,d,ρ',er,m,e1,fun v H1 k1 m1 rv er1=>⟨ρ',y,er1.1,e2',fun v2 H2 s2 r2=>⟨d,y,bb,rv.mono s2,r2,e3,bb,rfl,?_⟩⟩⟩
 cases bb with
 | true =>
  rw[if_pos rfl] at eq
  obtain⟨z,e4,e5⟩:=p9 eq
  subst e5
  exact⟨ρ',z,(er1.mono s2).1,e4,fun v3 H3 s3 r3=>q H3 (k1.trans (tM.of (s2.trans s3))) ((m1.same s2).same s3) v3 r3 (HA.of ((er1.mono s2).mono s3).1)⟩
 | false =>
  rw[if_neg Bool.false_ne_true] at eq
  cases eq
  exact q H2 (k1.trans (tM.of s2)) (m1.same s2) _ rfl (HA.of (er1.mono s2).1)
end
section
variable{X:Cx}{pos:Pos}
theorem oO{x y cn:Str}{e e':Expr}{es es':List Expr}{sts:List Stmt}{F F':R->Option LD}{g w:MU}{fi:Addr}{fd:FuncData}{ps:List Str}{f:Str}{C k NI:Nat}{px py pt pt2 p p1 p' p1':Pos}{kt k2:_}(i j:Nat)(hc:X.calm=true)(hN:X.N.Nodup)(M:Mk X.K C fi)(Fn:k6 X.prog X.w X.K X.mg X.base sR k fi fd ps (K9 X.K ps.length NI C f g))(bd:Binds X.K fd ps [])
  (hr:sL (k+1) X.A) (hm:X.mg cn=some (.ref C)) (ha:SA X (e::es) F) (ha':SA X (e'::es') F') (h2:E7 X sts w) (hn:(e::es).length+1=ps.length:=by rfl) (hn':(e'::es').length+1=ps.length:=by rfl) (hg:Gl X cn:=by rfl) (hdb:(cn==("__debug__" : Str))=false:=by decide) (hix:X.N[i]?=some x:=by rfl) (hjy:X.N[j]?=some y:=by rfl) (hij:i≠j:=by decide)
  (hx:Loc X.env.scope x:=by first | exact Or.inl rfl | exact Or.inr rfl) (hy:Loc X.env.scope y:=by first | exact Or.inl rfl | exact Or.inr rfl) (hfx:X.fn x=true\/X.env.scope.names.lookup x=some .local:=by first | exact .inl rfl | exact .inr rfl) (hfy:X.fn y=true\/X.env.scope.names.lookup y=some .local:=by first | exact .inl rfl | exact .inr rfl)
  (hs:swapsWithSole [.Tuple [.Name x px,.Name y py] kt pt] (.Tuple [.Call (.Name cn p) (e::es) [] p1,.Call (.Name cn p') (e'::es') [] p1'] k2 pt2) pos.line X.env=pure false:=by rfl)
  (hw:swappedStores [.Tuple [.Name x px,.Name y py] kt pt] (.Tuple [.Call (.Name cn p) (e::es) [] p1,.Call (.Name cn p') (e'::es') [] p1'] k2 pt2) X.env=pure none:=by rfl)
  (h1':(assignEach [.Tuple [.Name x px,.Name y py] kt pt] X.env).map (·.2)=[assign (.Tuple [.Name x px,.Name y py] kt pt) X.env]:=by rfl) (h2n:(assignEach [.Name x px,.Name y py] X.env).length=2:=by rfl) (h3n:(assignEach [.Name x px,.Name y py] X.env).findIdx? (·.1)=none:=by rfl)
  (h4n:(assignEach [.Name x px,.Name y py] X.env).map (·.2)=assign (.Name x px) X.env::(assignEach [.Name y py] X.env).map (·.2):=by rfl) (h5n:(assignEach [.Name y py] X.env).map (·.2)=assign (.Name y py) X.env::(assignEach [] X.env).map (·.2):=by rfl) :
  SS X (.Assign [.Tuple [.Name x px,.Name y py] kt pt] (.Tuple [.Call (.Name cn p) (e::es) [] p1,.Call (.Name cn p') (e'::es') [] p1'] k2 pt2) pos::sts) (Aq i j (xn NI C f g) F F' w):=by
 have hst:=ha.2.2
 rw[List.all_cons,Bool.and_eq_true] at hst
 have he:=aE es X.env hst.1
 have hpl:=bu (pos:=p1) (env:=X.env) hst.2
 have hst':=ha'.2.2
 rw[List.all_cons,Bool.and_eq_true] at hst'
 have he':=aE es' X.env hst'.1
 have hpl':=bu (pos:=p1') (env:=X.env) hst'.2
 intro pins s σ H E I ⟨ρ,τ,o,er,eo,qq⟩
 obtain⟨ds,ds',r,e1,e1',hi,hj,rfl,hw2⟩:=Fo eo
 have mk1:∀a l,a≠l->∃ob,xn NI C f g ds a l=some ob:=fun a l h=>by
  obtain⟨ob,_,_,h1,_⟩:=hw2 a l (a+l+1) (a+l+2) (by simp;omega)
  exact⟨ob,h1⟩
 have mk2:∀a l,a≠l->∃ob,xn NI C f g ds' a l=some ob:=fun a l h=>by
  obtain⟨_,ob,_,_,h1,_⟩:=hw2 (a+l+1) (a+l+2) a l (by simp;omega)
  exact⟨ob,h1⟩
 refine wpAny_execs_cons (sX ((pU (kN (el (om M Fn hr hg hm bd .nil wk ha.1 hdb he hpl) (el (om M Fn hr hg hm bd .nil wk ha'.1 hdb he' hpl') zy))) (rN hc (Ck (ku hN hix hx hfx) (Ck (ku hN hjy hy hfy) GW h5n) h4n) h2n h3n) hs hw h1') pins s σ H {E with nx:=fun σ' H'=>∃a l ob a' l' ob',H a=none/\H l=none/\H a'=none/\H l'=none/\[a,l,a',l'].Nodup/\σ'=(σ.set i (some (.ref a))).set j (some (.ref a'))/\xn NI C f g ds a l=some ob/\xn NI C f g ds' a' l'=some ob'/\i7 H H'/\Rep X.K H' ob (.ref a)/\Rep X.K H' ob' (.ref a')/\sM [a,l,a',l'] H' } I ?_) fun fl s1 z=>?_)
 ·unfold Jl KY IE
  refine DZ (by rw[ha.2.1 ρ ds e1];exact hn) er.1 e1 mk1 fun a l ob H1 ha0 hl0 hal hmk sm ro ms=>?_
  refine DZ (by rw[ha'.2.1 ρ ds' e1'];exact hn') (er.mono sm).1 e1' mk2 fun a' l' ob' H2 ha1 hl1 hal' hmk' sm' ro' ms'=>?_
  have ne:∀{b c:Nat},b ∈ [a,l]->H1 c=none->b≠c:=fun {b c} hb hc z=>by
   have:=ms b hb
   rw[z,hc] at this;exact this
  have nn:∀{c:Nat},H1 c=none->H c=none:=fun {c} hc=>by
   cases hb:H c with
   | none=>rfl
   | some u=>rw[sm c u hb] at hc;cases hc
  have m1:=ms.same sm'
  refine⟨Nat.le_trans (show 2<=1000 by decide) (by decide),fun p0 hp0=>⟨p0,_,rfl,vC.of av,rfl,_,_,rfl,_,_,rfl,rfl,a,l,ob,a',l',ob',ha0,hl0,nn ha1,nn hl1,?_,rfl,hmk,hmk',(sm.trans sm').trans (aQ hp0 _),(ro.mono sm').mono (aQ hp0 _),ro'.mono (aQ hp0 _),sM.same (fun b hb=>?_) (aQ hp0 _)⟩⟩
  ·have q1:=ne (.head _) ha1
   have q2:=ne (.head _) hl1
   have q3:=ne (.tail _ (.head _)) ha1
   have q4:=ne (.tail _ (.head _)) hl1
   simp only[List.nodup_cons,List.mem_cons,List.not_mem_nil,or_false,not_or,not_false_eq_true,List.nodup_nil,and_true]
   exact⟨⟨hal,q1,q2⟩,⟨q3,q4⟩,hal'⟩
  ·rcases List.mem_cons.mp hb with rfl | hb
   ·exact m1 _ (.head _)
   ·rcases List.mem_cons.mp hb with rfl | hb
    ·exact m1 _ (.tail _ (.head _))
    ·exact ms' b hb
 cases fl with
 | next =>
  obtain⟨σ',H',I',a,l,ob,a',l',ob',ha0,hl0,ha1,hl1,nd,rfl,hmk,hmk',sm,ro,ro',ms⟩:=z
  obtain⟨ob2,ob2',ρ',h1,h1',h3⟩:=hw2 a l a' l' nd
  rw[hmk] at h1
  cases h1
  rw[hmk'] at h1'
  cases h1'
  refine h2 [a,l,a',l'] pins s1 _ H' E I' ⟨(ρ.set i (some ob)).set j (some ob'),τ,_,((er.mono sm).set hi ro).set (by simpa using hj) ro',ms,h3,fun H2 kq m2=>?_⟩
  intro v rv _
  refine qq H2 (fun b u hb=>?_) v rv
  refine kq b u (fun z=>?_) (sm b u hb)
  rcases List.mem_cons.mp z with rfl | z
  ·rw[ha0] at hb;cases hb
  ·rcases List.mem_cons.mp z with rfl | z
   ·rw[hl0] at hb;cases hb
   ·rcases List.mem_cons.mp z with rfl | z
    ·rw[ha1] at hb;cases hb
    ·rw[List.mem_singleton.mp z,hl1] at hb;cases hb
 | brk=>exact z
 | cont=>exact z
 | ret v=>exact z
end
structure JW (K:W.Frag) (x qual:Str) (st:Stmt) (f:Addr) (fd:FuncData) (c:Addr):Prop where
 ex:∃(oc:Value) (od:Option Addr) (kV doc pm:Value) (an:Option Addr) (ct:Value) (osl:Array (Option Value)),
  fd=W.fnOf x qual (uc st) (sS st) (c5 st) .none kV doc pm an (.ref c) ct/\K.lookup f=some ⟨oc,od,.func fd,osl⟩/\W.codeIn K (.ref c) qual=true
 kp:W.keepIn K (.ref f)=true
def spT(K:W.Frag)(F:LD->OD)(t:uZ):Sp:=fun vs H Q E=>H t.P=some (.tbl t.q false)/\tQ K F vs H Q E
theorem qJ{P:Program}{w:World}{K:W.Frag}{mg:Str->Option Value}{base:Heap}{x qual:Str}{st:Stmt}{f:Addr}{fd:FuncData}{N ps:List Str}{k:Nat}{F:LD->OD}{g:R->Option Out}{t:uZ}
  (Fn:JW K x qual st f fd t.c) (S:c9 N ps (c5 st)) (hlen:∀ds d,F ds=some d->ds.length=ps.length)
  (hb:∀(A:Around) (outer:List Env) (s:Shared) (H:Hp) (E:XK),sL k (A.deeper (envOfC qual (c5 st) s.heap.objs.size f (.ref t.c)))->H t.P=some (.tbl t.q false)->SS (wt sR P w K mg base N qual (c5 st) f (.ref t.c) A outer s H E).nox (sS st) g)
  (hF:∀ds d,F ds=some d->wD (g (yz N.length ds))=some d):k6 P w K mg base sR (k+1) f fd ps (spT K F t):=by
 obtain⟨oc,od,kV,doc,pm,an,ct,osl,rfl,lk,hcd⟩:=Fn.ex
 refine pO lk hcd S (fun vs H Q E h=>?_) (fun A outer s H vs Q E hr h=>?_)
 ·obtain⟨_,ds,d,r,e,_⟩:=h
  rw[<- r.length]
  exact hlen ds d e
 ·obtain⟨hT,ds,d,r,e,q⟩:=h
  refine⟨_,(hb A outer s H E hr hT).nox,?_⟩
  have z:=hF ds d e
  cases ho:g (yz N.length ds) with
  | none=>rw[ho] at z;cases z
  | some o =>
   rw[ho] at z
   refine⟨yz N.length ds,_,o,(yu r).t,ho,fun H1 s1=>?_⟩
   cases o with
   | rt d'=>cases (show d'=d from Option.some.inj z);exact fun v rv=>q v H1 s1 rv
   | nx ρ=>cases (show D.non=d from Option.some.inj z);exact fun σ _=>q .non H1 s1 rfl
   | bk ρ=>cases z
   | ct ρ=>cases z
theorem Fl{K:W.Frag}{t:zr}(h:∀(c':Addr) (cl:List (Str×Addr)) (pm ctv:Value) (us:List Value),us.length=t.ps.length->bindArgs (W.kla_fn "<lambda>" t.q t.params t.body t.scope cl pm (.ref c') ctv) ⟨us,[]⟩=pure (t.ps.zip us)) :
  ∀(c':Addr) (cl:List (Str×Addr)) (pm ctv:Value),Binds K (W.kla_fn "<lambda>" t.q t.params t.body t.scope cl pm (.ref c') ctv) t.ps []:=fun c' cl pm ctv=>.all (h c' cl pm ctv)
theorem rO{K:W.Frag}{x:Str}{f c P:Addr}{oc oc2:Value}{od od2:Option Addr}{osl sl2:Array (Option Value)}{fd:FuncData}{vs:Array Value}(a:W.nsIn K mainGlobals x=some (some (.ref f)))(l:K.lookup f=some ⟨oc,od,.func fd,osl⟩)(hc:fd.code=.ref c)
  (l2:K.lookup c=some ⟨oc2,od2,.fields vs,sl2⟩) (h:vs[11]?=some (.ref P)):W.tabIn K x=some (c,P):=by
 unfold W.tabIn
 simp only[a,l,hc,l2,h]
def KF(K:W.Frag)(F:LD->OD)(ts:List uZ):Sp:=fun vs H Q E=>∀t,ts=[t]->spT K F t vs H Q E
theorem Jj{K:W.Frag}{F:LD->OD}{H:Hp}{ts:List uZ}{a:Addr}{vs:List V}{Q:VK}{E:XK}(hO:DV ts a H)(hP:∀t∈ts,t.P≠a)(h:tQ K F vs H Q E):KF K F ts vs H Q E:=fun t e=>by
 subst e
 refine⟨?_,h⟩
 rcases hO t.P with ⟨_,z⟩ | ⟨z,_⟩
 ·rw[z];simp[A4]
 ·exact absurd z (hP t (List.mem_singleton.mpr rfl))
theorem Jg{P:Program}{w:World}{K:W.Frag}{mg:Str->Option Value}{base:Heap}{k:Nat}{f:Addr}{fd:FuncData}{ps:List Str}{F:LD->OD}{t:uZ}(h:k6 P w K mg base sR k f fd ps (spT K F t)):k6 P w K mg base sR k f fd ps (KF K F [t]):=h.imp fun vs H Q E z=>z t rfl
theorem HJ{K:W.Frag}{F G:LD->OD}{t:uZ}(h:∀ds d,F ds=some d->G ds=some d):∀vs H Q E,spT K F t vs H Q E->spT K G t vs H Q E:=fun _ _ _ _ ⟨a,ds,d,r,e,q⟩=>⟨a,ds,d,r,h ds d e,q⟩
section
variable{X:Cx}{pos p:Pos}{x:Str}{e:Expr}{es:List Expr}{F:R->Option LD}{G:LD->Option (D×D)}{k j:Nat}{ps:List Str}
end
end HW
namespace HW
open PySem
inductive xo | none | hour | minute | zero | ahour | aminute | alarm | run | lap | cminute | csecond | full | count
 deriving DecidableEq,Inhabited
inductive vN | a | b | c
 deriving DecidableEq,Inhabited
inductive Face | time | alarm | laps | count
 deriving DecidableEq,Inhabited
noncomputable def xo.x:xo->Str
 | .none=>oS "none" | .hour=>oS "hour" | .minute=>oS "minute" | .zero=>oS "zero" | .ahour=>oS "ahour" | .aminute=>oS "aminute" | .alarm=>oS "alarm"
 | .run=>oS "run" | .lap=>oS "lap" | .cminute=>oS "cminute" | .csecond=>oS "csecond" | .full=>oS "full" | .count=>oS "count"
def vN.x:vN->Str
 | .a=>oS "a" | .b=>oS "b" | .c=>oS "c"
def vN.X:vN->Str
 | .a=>oS "A" | .b=>oS "B" | .c=>oS "C"
def vN.ix:vN->Nat
 | .a=>0 | .b=>1 | .c=>2
def Face.x:Face->Str
 | .time=>oS "time" | .alarm=>oS "alarm" | .laps=>oS "laps" | .count=>oS "count"
structure Md where
 face:Face
 stays:Bool
 rows:List (xo×Nat)
 deriving Inhabited
structure Bk where
 hold:Int
 back:Int
 modes:List Md
structure WS where
 mode:Nat
 clock:Int
 ah:Int
 am:Int
 aon:Bool
 lm:Int
 lr:Bool
 lk:List Int
 cm:Int
 cs:Int
 cl:Int
 cr:Bool
 ring:Int
 held:Option (vN×Option Int)
 idle:Int
def zC(r:xo×Nat):D:=.tup [.str r.1.x,.int (r.2:Int)]
def Md.d(m:Md):D:=.tup [.str m.face.x,.bl m.stays,.tup (m.rows.map zC)]
def Bk.d(b:Bk):D:=.tup [.int b.hold,.int b.back,.tup (b.modes.map Md.d)]
noncomputable def tV:Option Int->D
 | .none=>.non
 | .some k=>.int k
def wI:Option (vN×Option Int)->D
 | .none=>.non
 | .some (x,k)=>.tup [.str x.x,tV k]
def WS.alarmD(s:WS):D:=.tup [.int s.ah,.int s.am,.bl s.aon]
def WS.lapsD(s:WS):D:=.tup [.int s.lm,.bl s.lr,.tup (s.lk.map .int)]
def WS.countD(s:WS):D:=.tup [.int s.cm,.int s.cs,.int s.cl,.bl s.cr]
def WS.d(s:WS):D:=.tup [.int (s.mode:Int),.int s.clock,s.alarmD,s.lapsD,s.countD,.int s.ring,wI s.held,.int s.idle]
structure Md.Ok (n:Nat) (m:Md):Prop where
 six:m.rows.length=6
 nx:∀r∈m.rows,r.2<n
structure Bk.Ok (b:Bk):Prop where
 hold1:1<=b.hold
 hold9:b.hold<=9
 back0:0<=b.back
 back60:b.back<=60
 some1:1<=b.modes.length
 some8:b.modes.length<=8
 all:∀m∈b.modes,m.Ok b.modes.length
structure WS.Wk (b:Bk) (s:WS):Prop where
 bk:0<=b.back
 mode:s.mode<b.modes.length
 clock0:0<=s.clock
 clock1:s.clock<86400
 ah0:0<=s.ah
 ah1:s.ah<24
 am0:0<=s.am
 am1:s.am<60
 lm0:0<=s.lm
 lk:s.lk.length<=4
 cm0:0<=s.cm
 cm1:s.cm<60
 cs0:0<=s.cs
 cs1:s.cs<60
 cl0:0<=s.cl
 cl1:s.cl<3600
 cr:s.cr=true->0<s.cl
 ring0:0<=s.ring
 ring1:s.ring<=10
 idle0:0<=s.idle
 idle1:0<b.back->s.idle<b.back
 idle2:b.back=0->s.idle=0
structure WS.Ok (b:Bk) (s:WS):Prop extends WS.Wk b s where
 held:∀x k,s.held=some (x,some k)->0<=k/\k<b.hold
noncomputable def yq(s:WS)(m c:Int):WS:=if s.cr then s else {s with cm:=m,cs:=c,cl:=60*m+c,cr:=false}
def deed:xo->WS->WS
 | .none,s=>s
 | .hour,s=>{s with clock:=(s.clock+3600)%86400}
 | .minute,s=>{s with clock:=s.clock - s.clock%3600+(s.clock%3600+60)%3600}
 | .zero,s=>{s with clock:=s.clock - s.clock%60}
 | .ahour,s=>{s with ah:=(s.ah+1)%24}
 | .aminute,s=>{s with am:=(s.am+1)%60}
 | .alarm,s=>{s with aon:=!s.aon}
 | .run,s=>{s with lr:=!s.lr}
 | .lap,s=>if s.lr then (if 4<=s.lk.length then s else {s with lk:=s.lk++[s.lm]}) else {s with lm:=0,lk:=[]}
 | .cminute,s=>yq s ((s.cm+1)%60) s.cs
 | .csecond,s=>yq s s.cm ((s.cs+1)%60)
 | .full,s=>yq s s.cm s.cs
 | .count,s=>{s with cr:=!s.cr&&decide (0<s.cl)}
def Bk.row(b:Bk)(m i:Nat):xo×Nat:=(b.modes.getD m default).rows.getD i (.none,0)
def press(b:Bk)(s:WS)(i:Nat):WS:={deed (b.row s.mode i).1 s with mode:=(b.row s.mode i).2}
noncomputable def mx(i j:Int):Int:=if j > i then j else i
def WS.sec(s:WS):Int:=3600*s.ah+60*s.am
def n8(s:WS):Option Int:=if s.aon then some ((s.sec - s.clock - 1)%86400+1) else none
def ti(s:WS):Option Int:=if s.cr then some s.cl else none
def vO(s:WS)(n:Int):Option Int:=
 match n8 s,ti s with
 | some a,some c=>if a<=n then (if c<=n then some (mx (n - (n - a)%86400) c) else some (n - (n - a)%86400)) else (if c<=n then some c else none)
 | some a,none=>if a<=n then some (n - (n - a)%86400) else none
 | none,some c=>if c<=n then some c else none
 | none,none=>none
def zl(s:WS)(n:Int):Int:=
 match vO s n with
 | none=>mx 0 (s.ring - n)
 | some l=>mx 0 (10 - (n - l))
def A0(h:Option (vN×Option Int))(n:Int):Option (vN×Option Int):=
 match h with
 | some (x,some k)=>some (x,some (k+n))
 | h=>h
def v4(b:Bk)(s:WS):Int:=mx 1 (b.back - s.idle)
def wG(b:Bk)(s:WS)(n:Int):Int:=
 if s.held.isSome\/b.back=0 then s.idle else if n<v4 b s then s.idle+n else (n - v4 b s)%b.back
def wA(s:WS)(n:Int):Int:=if s.lr then s.lm+n else s.lm
def vW(s:WS)(n:Int):Int:=if s.cr then mx 0 (s.cl - n) else s.cl
def runsOn(s:WS)(n:Int):Bool:=s.cr&&decide (0<mx 0 (s.cl - n))
def counted(b:Bk)(s:WS)(n:Int):WS:=
 {s with clock:=(s.clock+n)%86400,lm:=wA s n,cl:=vW s n,cr:=runsOn s n,ring:=zl s n,held:=A0 s.held n,idle:=wG b s n}
def wB(b:Bk)(s:WS):Bool:=decide (0<b.back)&&(!decide (s.mode=0)&&!(b.modes.getD s.mode default).stays)
def sU(b:Bk)(s:WS):Option Int:=
 match s.held with
 | none=>if wB b s then some (v4 b s) else none
 | some (_,none)=>none
 | some (_,some k)=>some (mx 1 (b.hold - k))
def turned(b:Bk)(s:WS):WS:=
 match s.held with
 | none=>{s with mode:=0}
 | some (x,_)=>press b {s with held:=some (x,none)} (x.ix+3)
def behind(b:Bk)(s:WS)(t:Int):WS:=turned b (counted b s t)
def ticked(b:Bk)(s:WS)(n:Int):WS:=
 match sU b s with
 | none=>counted b s n
 | some t=>if n<t then counted b s n else counted b (behind b s t) (n - t)
def pushed(s:WS)(x:vN):WS:=if s.held.isSome then s else {s with ring:=0,held:=some (x,if 0<s.ring then none else some 0),idle:=0}
def letGo(b:Bk)(s:WS)(x:vN):WS:=
 match s.held with
 | some (y,k)=>if y=x then { (if k.isSome then press b s x.ix else s) with held:=none,idle:=0} else s
 | none=>s
inductive Ev | down (x:vN) | up (x:vN) | ticks (n:Int)
 deriving DecidableEq
def Ev.d:Ev->D
 | .down x=>.tup [.str (oS "down"),.str x.x]
 | .up x=>.tup [.str (oS "up"),.str x.x]
 | .ticks n=>.tup [.str (oS "ticks"),.int n]
def gone(b:Bk)(s:WS):Ev->WS
 | .down x=>pushed s x
 | .up x=>letGo b s x
 | .ticks n=>ticked b s n
theorem NE(i j:Int):i<=mx i j:=by unfold mx;split<;>omega
def BP(aon:Bool)(a:Int)(cr:Bool)(c r n:Int):Int:=
 if aon=true/\a<=n then (if cr=true/\c<=n then mx 0 (10 - (n - mx (n - (n - a)%86400) c)) else mx 0 (10 - (n - a)%86400)) else if cr=true/\c<=n then mx 0 (10 - (n - c)) else mx 0 (r - n)
theorem Eu(s:WS)(n:Int):zl s n=BP s.aon ((s.sec - s.clock - 1)%86400+1) s.cr s.cl s.ring n:=by
 unfold zl vO n8 ti BP
 generalize (s.sec - s.clock - 1)%86400+1=a
 have e:∀x:Int,n - (n - x)=x:=fun x=>by omega
 cases s.aon<;>cases s.cr<;>by_cases h1:a<=n<;>by_cases h2:s.cl<=n<;>simp[h1,h2,e]
theorem EO{b:Bk}{s:WS}(h:s.idle<b.back):v4 b s=b.back - s.idle:=by unfold v4 mx;split<;>omega
theorem AZ(x b:Int):(x - b)%b=x%b:=Int.sub_emod_right x b
theorem Ee{b:Bk}{s:WS}{n:Int}(w:s.Wk b)(hn:0<=n):wG b s n=if s.held.isSome=true\/b.back=0 then s.idle else (s.idle+n)%b.back:=by
 unfold wG
 have h0:=w.idle0
 by_cases h:s.held.isSome=true\/b.back=0
 ·rw[if_pos h,if_pos h]
 ·have hb:0<b.back:=by
   have:¬ b.back=0:=fun z=>h (.inr z)
   have:=w.bk
   omega
  have h1:=w.idle1 hb
  rw[if_neg h,if_neg h,EO h1]
  by_cases h2:n<b.back - s.idle
  ·rw[if_pos h2,Int.emod_eq_of_lt (by omega) (by omega)]
  ·rw[if_neg h2,show n - (b.back - s.idle)=s.idle+n - b.back by omega,AZ]
theorem xN(a:Int){b:Int}(h:0<b):a%b<b:=Int.emod_lt_of_pos a h
theorem yE(a:Int){b:Int}(h:0<b):0<=a%b:=Int.emod_nonneg a (by omega)
theorem GU(aon:Bool)(a:Int)(cr:Bool)(c r n:Int)(hr:r<=10)(hn:0<=n)(hc:cr=true->0<c)(ha:1<=a):0<=BP aon a cr c r n/\BP aon a cr c r n<=10:=by
 unfold BP
 split
 ·split
  ·unfold mx;split<;>(try split)<;>omega
  ·unfold mx;split<;>omega
 ·split
  ·unfold mx;split<;>omega
  ·unfold mx;split<;>omega
theorem WS.Wk.cnt{b:Bk}{s:WS}{n:Int}(w:s.Wk b)(hn:0<=n):(counted b s n).Wk b:=by
 have hr:=GU s.aon ((s.sec - s.clock - 1)%86400+1) s.cr s.cl s.ring n w.ring1 hn w.cr (by omega)
 rw[<- Eu] at hr
 have hl0:=w.lm0
 have hi:=Ee w hn
 have hcl0:=w.cl0
 have hcl1:=w.cl1
 exact {
  bk:=w.bk,mode:=w.mode,clock0:=yE _ (by decide),clock1:=xN _ (by decide),ah0:=w.ah0,ah1:=w.ah1,am0:=w.am0,am1:=w.am1
  lm0:=by show 0<=wA s n;unfold wA;split<;>omega
  lk:=w.lk,cm0:=w.cm0,cm1:=w.cm1,cs0:=w.cs0,cs1:=w.cs1
  cl0:=by show 0<=vW s n;unfold vW mx;split<;>(try split)<;>omega
  cl1:=by show vW s n<3600;unfold vW mx;split<;>(try split)<;>omega
  cr:=by
   show runsOn s n=true->0<vW s n
   intro h
   unfold runsOn at h
   unfold vW
   cases hc:s.cr
   ·rw[hc] at h;cases h
   ·rw[hc] at h;simp at h;simp;exact h
  ring0:=hr.1,ring1:=hr.2
  idle0:=by
   show 0<=wG b s n
   rw[hi]
   split
   ·exact w.idle0
   ·rename_i h
    have:¬ b.back=0:=fun z=>h (.inr z)
    exact Int.emod_nonneg _ this
  idle1:=fun hb=>by
   show wG b s n<b.back
   rw[hi]
   split
   ·exact w.idle1 hb
   ·exact xN _ hb
  idle2:=fun hb=>by
   show wG b s n=0
   rw[hi,if_pos (.inr hb)]
   exact w.idle2 hb}
theorem sg{b:Bk}(ok:b.Ok){m i:Nat}(hm:m<b.modes.length)(hi:i<6):(b.row m i).2<b.modes.length:=by
 unfold Bk.row
 have e:b.modes.getD m default=b.modes[m]:=by simp[List.getD_eq_getElem?_getD,hm]
 rw[e]
 have o:=ok.all _ (List.getElem_mem hm)
 have hi':i<b.modes[m].rows.length:=by rw[o.six];exact hi
 have e2:b.modes[m].rows.getD i (.none,0)=b.modes[m].rows[i]:=by simp[List.getD_eq_getElem?_getD,hi']
 rw[e2]
 exact o.nx _ (List.getElem_mem hi')
theorem Ei(d:xo)(s:WS):(deed d s).held=s.held:=by
 cases d<;>simp[deed,yq]<;>(repeat' split)<;>rfl
theorem WS.Wk.set{b:Bk}{s:WS}(w:s.Wk b){m c:Int}(m0:0<=m)(m1:m<60)(c0:0<=c)(c1:c<60):(yq s m c).Wk b:=by
 unfold yq
 split
 ·exact w
 ·exact {w with cm0:=m0,cm1:=m1,cs0:=c0,cs1:=c1,cl0:=(by show 0<=60*m+c;omega),cl1:=(by show 60*m+c<3600;omega),cr:=fun h=>by cases h}
theorem WS.Wk.dd{b:Bk}{s:WS}(w:s.Wk b)(d:xo):(deed d s).Wk b:=by
 have c0:=w.clock0;have c1:=w.clock1
 cases d with
 | none=>exact w
 | hour=>exact {w with clock0:=yE _ (by decide),clock1:=xN _ (by decide)}
 | minute=>exact {w with clock0:=(by show 0<=s.clock - s.clock%3600+(s.clock%3600+60)%3600;omega),clock1:=(by show s.clock - s.clock%3600+(s.clock%3600+60)%3600<86400;omega)}
 | zero=>exact {w with clock0:=(by show 0<=s.clock - s.clock%60;omega),clock1:=(by show s.clock - s.clock%60<86400;omega)}
 | ahour=>exact {w with ah0:=yE _ (by decide),ah1:=xN _ (by decide)}
 | aminute=>exact {w with am0:=yE _ (by decide),am1:=xN _ (by decide)}
 | alarm=>exact {w with}
 | run=>exact {w with}
 | lap =>
  show(if s.lr then (if 4<=s.lk.length then s else {s with lk:=s.lk++[s.lm]}) else {s with lm:=0,lk:=[]}:WS).Wk b
  split
  ·split
   ·exact w
   ·exact {w with lk:=(by show(s.lk++[s.lm]).length<=4;simp;omega)}
  ·exact {w with lm0:=Int.le_refl 0,lk:=Nat.zero_le _}
 | cminute=>exact w.set (yE _ (by decide)) (xN _ (by decide)) w.cs0 w.cs1
 | csecond=>exact w.set w.cm0 w.cm1 (yE _ (by decide)) (xN _ (by decide))
 | full=>exact w.set w.cm0 w.cm1 w.cs0 w.cs1
 | count =>
  have hc:(!s.cr&&decide (0<s.cl))=true->0<s.cl:=fun h=>by simp at h;exact h.2
  exact {w with cr:=hc}
theorem WS.Wk.prs{b:Bk}{s:WS}(ok:b.Ok)(w:s.Wk b){i:Nat}(hi:i<6):(press b s i).Wk b:=by
 have z:=w.dd (b.row s.mode i).1
 exact {z with mode:=sg ok w.mode hi}
theorem zQ(b:Bk)(s:WS)(i:Nat):(press b s i).held=s.held:=Ei _ _
theorem vN.ix3(x:vN):x.ix+3<6:=by cases x<;>decide
theorem vN.ix6(x:vN):x.ix<6:=by cases x<;>decide
theorem WS.Wk.trn{b:Bk}{s:WS}(ok:b.Ok)(w:s.Wk b):(turned b s).Wk b:=by
 unfold turned
 split
 ·exact {w with mode:=ok.some1}
 ·rename_i x k e
  exact WS.Wk.prs (s:={s with held:=some (x,none)}) ok {w with} x.ix3
theorem Cz{b:Bk}{s:WS}:sU b (turned b s)=none:=by
 unfold turned
 split
 ·rename_i e
  unfold sU
  simp[e,wB]
 ·rename_i x k e
  unfold sU
  rw[zQ]
theorem yy{b:Bk}{s:WS}{t:Int}(h:sU b s=some t):1<=t:=by
 unfold sU at h
 split at h
 ·split at h
  ·cases h;exact NE _ _
  ·cases h
 ·cases h
 ·cases h;exact NE _ _
theorem WS.Ok.cnt{b:Bk}{s:WS}{n:Int}(w:s.Ok b)(hn:0<=n)(h:∀t,sU b s=some t->n<t):(counted b s n).Ok b:=by
 refine {w.toWk.cnt hn with held:=fun x k e=>?_}
 have e':A0 s.held n=some (x,some k):=e
 rcases hs:s.held with _ | ⟨y,_ | j⟩
 ·rw[hs] at e';cases e'
 ·rw[hs] at e';cases e'
 ·rw[hs] at e'
  simp[A0] at e'
  obtain⟨rfl,rfl⟩:=e'
  have hj:=w.held y j hs
  have ht:=h (mx 1 (b.hold - j)) (by unfold sU;rw[hs])
  unfold mx at ht
  split at ht<;>omega
theorem EL{b:Bk}{s:WS}(ok:b.Ok)(w:s.Wk b):(turned b s).Ok b:=by
 refine {w.trn ok with held:=fun x k e=>?_}
 unfold turned at e
 split at e
 ·rename_i e2
  simp at e
  rw[e2] at e;cases e
 ·rw[zQ] at e;cases e
theorem G2{b:Bk}{s:WS}{n:Int}(ok:b.Ok)(w:s.Ok b)(hn:0<=n):(ticked b s n).Ok b:=by
 unfold ticked
 split
 ·rename_i e
  exact w.cnt hn fun t ht=>by rw[e] at ht;cases ht
 ·rename_i t e
  have ht:=yy e
  split
  ·rename_i h
   exact w.cnt hn fun t' ht'=>by rw[e] at ht';cases ht';exact h
  ·rename_i h
   exact(EL ok (w.toWk.cnt (by omega))).cnt (by omega) fun t' ht'=>by rw[Cz] at ht';cases ht'
theorem GQ{b:Bk}{s:WS}(ok:b.Ok)(w:s.Ok b)(x:vN):(pushed s x).Ok b:=by
 unfold pushed
 split
 ·exact w
 ·have hh:=ok.hold1
  refine {w with ring0:=Int.le_refl 0,ring1:=(by show(0:Int)<=10;decide),idle0:=Int.le_refl 0,idle1:=fun h=>h,idle2:=fun _=>rfl,held:=fun y k e=>?_}
  simp at e
  obtain⟨_,h2,h3⟩:=e
  subst h3
  omega
theorem JL{b:Bk}{s:WS}(ok:b.Ok)(w:s.Ok b)(x:vN):(letGo b s x).Ok b:=by
 unfold letGo
 split
 ·split
  ·have z:(if (by assumption:Option Int).isSome then press b s x.ix else s).Wk b:=by
    split
    ·exact w.toWk.prs ok x.ix6
    ·exact w.toWk
   exact {z with idle0:=Int.le_refl 0,idle1:=fun h=>h,idle2:=fun _=>rfl,held:=fun y k e=>by cases e}
  ·exact w
 ·exact w
def Ev.Ok:Ev->Prop
 | .ticks n=>1<=n
 | _=>True
theorem D9{b:Bk}{s:WS}(ok:b.Ok)(w:s.Ok b)(e:Ev)(h:e.Ok):(gone b s e).Ok b:=by
 cases e with
 | down x=>exact GQ ok w x
 | up x=>exact JL ok w x
 | ticks n=>exact G2 ok w (by have:1<=n:=h;omega)
def l7:WS:=⟨0,0,0,0,false,0,false,[],0,0,0,false,0,none,0⟩
theorem Cu{b:Bk}(ok:b.Ok):l7.Ok b where
 bk:=ok.back0
 mode:=ok.some1
 clock0:=by decide
 clock1:=by decide
 ah0:=by decide
 ah1:=by decide
 am0:=by decide
 am1:=by decide
 lm0:=by decide
 lk:=by decide
 cm0:=by decide
 cm1:=by decide
 cs0:=by decide
 cs1:=by decide
 cl0:=by decide
 cl1:=by decide
 cr:=by decide
 ring0:=by decide
 ring1:=by decide
 idle0:=by decide
 idle1:=fun h=>h
 idle2:=fun _=>rfl
 held:=fun x k e=>by cases e
def s_(b:Bk)(s:WS)(es:List Ev):WS:=es.foldl (gone b) s
theorem BV{b:Bk}(ok:b.Ok):∀{es:List Ev} {s:WS},s.Ok b->(∀e∈es,e.Ok)->(s_ b s es).Ok b
 | [],_,w,_=>w
 | e::es,s,w,h=>BV (es:=es) ok (D9 ok w e (h e List.mem_cons_self)) fun x hx=>h x (List.mem_cons_of_mem _ hx)
theorem Ex(b:Bk)(s:WS)(es fs:List Ev):s_ b s (es++fs)=s_ b (s_ b s es) fs:=List.foldl_append
abbrev Pr:=vN×Bool
def Pr.x(p:Pr):Str:=if p.2 then p.1.X else p.1.x
def Pr.ix(p:Pr):Nat:=if p.2 then p.1.ix+3 else p.1.ix
def Pr.evs(b:Bk)(p:Pr):List Ev:=if p.2 then [.down p.1,.ticks b.hold,.up p.1] else [.down p.1,.up p.1]
def Pr.code(p:Pr):Nat:=(if p.2 then 65 else 97)+p.1.ix
section
open Builtin Builtin.Str
theorem Lx{x:Str}{c a:Nat}:subAt x ⟨#[c]⟩ a=(x.cps[a]?==some c):=by
 have e:(⟨#[c]⟩:Str).length=1:=rfl
 unfold subAt
 rw[e]
 show(x.cps.extract a (a+1)==#[c])=_
 by_cases h:a<x.cps.size
 ·have:x.cps.extract a (a+1)=#[x.cps[a]]:=by
   apply Array.ext'
   simp[h,List.drop_eq_getElem_cons]
  rw[this,Array.getElem?_eq_getElem h,Bool.eq_iff_iff,beq_iff_eq,beq_iff_eq]
  constructor
  ·intro q
   have q':=congrArg Array.toList q
   simp at q'
   rw[q']
  ·intro q
   rw[Option.some.inj q]
 ·have:x.cps.extract a (a+1)=#[]:=by
   apply Array.ext'
   simp
   omega
  rw[this,Array.getElem?_eq_none (by omega)]
  rfl
end
end HW
set_option maxRecDepth 10000
namespace HW
open PySem
noncomputable section
def top(i:Nat):Stmt:=PySem.Challenge.pw_handwatch_k64_whole_undone_as_far.main.body.getD i (.Pass ⟨0,0,0,0⟩)
def CG:zr:=Ii "law.<locals>.<lambda>" ["_law_watch"] [] (eA 0 (NL (sT (sB 0 (sB 7 (top 90))))))
def CJ:zr:=Ii "law.<locals>.<lambda>" ["_law_watch"] [] (eA 0 (NL (Om 0 (sV (sB 16 (top 90))))))
def bR:D:=.int 0
def aU:D:=.int 1
def aZ:D:=.int 2
def bX:D:=.int 3
def aL:D:=.int 4
def d_:D:=.int 5
def bh:D:=.int 6
def dq:D:=.int 7
def fG:D:=.int 4
def fF:D:=.int 10
def eT:D:=.int 86400
def dY:D:=.int 1000000000000000000
def cV:List Str:=[oS "a",oS "b",oS "c",oS "A",oS "B",oS "C"]
theorem DU{it:R->Option LD}{st:D->R->Option R}{body:R->Option Out}{ρ:R}{ds:LD}{o:Out}(h1:it ρ=some ds)(h2:Bd st body ds ρ=some o):Cw it st body ρ=some o:=by simp[h1,h2]
theorem k7{f g:R->Option Out}{ρ ρ2:R}(h:f ρ=some (.nx ρ2)):l9 f g ρ=g ρ2:=by simp[h]
theorem y4{c:R->Option Bool}{f g:R->Option Out}{ρ:R}(h:c ρ=some true):yo c f g ρ=f ρ:=by simp[h]
theorem yI{c:R->Option Bool}{f g:R->Option Out}{ρ:R}(h:c ρ=some false):yo c f g ρ=g ρ:=by simp[h]
theorem vd{f g:R->Option Out}{ρ:R}{d:D}(h:f ρ=some (.rt d)):l9 f g ρ=some (.rt d):=by simp[h]
theorem n4{f:R->OD}{st:D->R->Option R}{ρ ρ':R}{d:D}(h:f ρ=some d)(h2:st d ρ=some ρ'):m6 f st ρ=some (.nx ρ'):=by simp[h,h2]
theorem i3{F:LD->OD}{g:R->Option LD}{ρ:R}{ds:LD}{d:D}(h:g ρ=some ds)(h2:F ds=some d):c8 F g ρ=some d:=by simp[h,h2]
theorem m8{f:R->OD}{g:R->Option LD}{ρ:R}{d:D}{ds:LD}(h:f ρ=some d)(h2:g ρ=some ds):c4 f g ρ=some (d::ds):=by simp[h,h2]
theorem i8{F:D->D->OD}{f g:R->OD}{ρ:R}{x y z:D}(h1:f ρ=some x)(h2:g ρ=some y)(h:F x y=some z):g9 F f g ρ=some z:=by simp only[g9,h1,h2,Option.bind_some,h]
theorem tK{F:D->D->Option Bool}{f g:R->OD}{ρ:R}{x y:D}{b:Bool}(h1:f ρ=some x)(h2:g ρ=some y)(h:F x y=some b):k9 F f g ρ=some b:=by simp only[k9,h1,h2,Option.bind_some,h]
theorem tupS{g:R->Option LD}{ρ:R}{ds:LD}(h:g ρ=some ds):n5 g ρ=some (.tup ds):=by simp[h]
theorem GM{c:R->Option Bool}{ρ:R}{b:Bool}(h:c ρ=some b):BD c ρ=some (.bl b):=by simp[h]
theorem AI{f:R->OD}{l h:R->Option (Option Int)}{ρ:R}{x d:D}{a b:Option Int}(h1:f ρ=some x)(h2:l ρ=some a)(h3:h ρ=some b)(h4:Kk x a b=some d):D7 f l h ρ=some d:=by simp only[D7,h1,h2,h3,Option.bind_some,h4]
theorem KZ{c d:R->Option Bool}{ρ:R}(h1:c ρ=some false)(h2:d ρ=some false):BF c d ρ=some false:=by simp[h1,h2]
theorem NF{c d:R->Option Bool}{ρ:R}{b:Bool}(h1:c ρ=some true)(h2:d ρ=some b):BR c d ρ=some b:=by simp[h1,h2]
theorem Kq{f g:R->OD}{ρ:R}{d:D}(h1:f ρ=some (.bl true))(h2:g ρ=some d):A1 f g ρ=some d:=by simp[h1,h2]
theorem GJ{c:R->Option Bool}{ρ:R}{b:Bool}(h:c ρ=some b):De c ρ=some (!b):=by simp[h]
theorem BG{f:R->OD}{ρ:R}{b:Bool}(h:f ρ=some (.bl b)):v8 f ρ=some b:=by simp[h]
theorem D5{c:R->Option Bool}{f g:R->OD}{ρ:R}{d:D}(h:c ρ=some true)(h2:f ρ=some d):BH c f g ρ=some d:=by simp[h,h2]
theorem E4{c:R->Option Bool}{f g:R->OD}{ρ:R}{d:D}(h:c ρ=some false)(h2:g ρ=some d):BH c f g ρ=some d:=by simp[h,h2]
theorem MB{c d:R->Option Bool}{ρ:R}(h1:c ρ=some true):BF c d ρ=some true:=by simp[h1]
theorem Ku{c d:R->Option Bool}{ρ:R}{b:Bool}(h1:c ρ=some false)(h2:d ρ=some b):BF c d ρ=some b:=by simp[h1,h2]
theorem JU{g:R->Option LD}{ρ:R}{ds:LD}(h:g ρ=some ds):FP g ρ=some (.lst ds):=by simp[h]
theorem BE{F:D->OD}{f:R->OD}{ρ:R}{x z:D}(h1:f ρ=some x)(h:F x=some z):vT F f ρ=some z:=by simp only[vT,h1,Option.bind_some,h]
theorem l4{k n:Nat}{g:R->Option Out}{ds:LD}{d:D}(h:g (yz n ds)=some (.rt d))(hl:ds.length=k:=by rfl):via k n g ds=some d:=by unfold via;rw[if_pos hl,h];rfl
theorem Ef{f g:R->OD}{ρ:R}(h1:f ρ=some (.bl false)):A1 f g ρ=some (.bl false):=by simp[h1]
theorem retS{f:R->OD}{ρ:R}{d:D}(h:f ρ=some d):l6 f ρ=some (.rt d):=by simp[h]
theorem modS{i j:Int}(h:0<j):sW (.int i) (.int j)=some (.int (i%j)):=by simp[h]
theorem Cb{i j:Int}(h:tG i j=true):wK (.int i) (.int j)=some (.int (i*j)):=by
 show(if tG i j=true then _ else none)=_
 rw[if_pos h]
theorem NJ{i j q:Int}(h:0<j)(e:i%j=q):sW (.int i) (.int j)=some (.int q):=by rw[<- e];exact modS h
theorem Oc{i:Int}(h:i=0):some (i==0)=some true:=by rw[h];rfl
theorem Ob{i:Int}(h:¬ i=0):some (i==0)=some false:=by rw[beq_eq_false_iff_ne.mpr h]
theorem dT{p:Prop}[Decidable p](h:p):some (decide p)=some true:=by rw[decide_eq_true h]
theorem dF{p:Prop}[Decidable p](h:¬ p):some (decide p)=some false:=by rw[decide_eq_false h]
mutual
theorem BW:∀d:D,tB d=true->Ij d d=true
 | .non,_=>rfl
 | .bl b,_=>beq_self_eq_true b
 | .int i,_=>beq_self_eq_true i
 | .str x,_=>beq_self_eq_true x
 | .tup xs,h=>xg xs h
 | .lst xs,h=>xg xs h
 | .fro xs,h=>xg xs h
 | .obj ..,h=>by cases h
 | .rf ..,h=>by cases h
theorem xg:∀ds:LD,m9 ds=true->Ad ds ds=true
 | [],_=>rfl
 | d::ds,h=>by
  have h':(tB d&&m9 ds)=true:=h
  rw[Bool.and_eq_true] at h'
  show(Ij d d&&Ad ds ds)=true
  rw[BW d h'.1,xg ds h'.2];rfl
end
theorem yD{d:D}(h:uS d<=100)(h2:p5 d=true):xm d d=some true:=by unfold xm;rw[if_pos ⟨h,h2,h2⟩,BW _ (bH h2)]
theorem wY{d:D}(h:uS d<=100)(h2:p5 d=true):xD d d=some false:=by unfold xD;rw[yD h h2];rfl
theorem zz(l:List Int):uX (l.map D.int)=0:=by induction l with | nil=>rfl | cons a l ih=>simp[uX,uS,ih]
theorem CV(l:List Int):t8 (l.map D.int)=true:=by induction l with | nil=>rfl | cons a l ih=>simp[t8,p5,ih]
theorem iA(x:vN):p5 (.str x.x)=true:=by rw[p5];cases x<;>decide +kernel
theorem mj(h:Option (vN×Option Int)):uS (wI h)<=1:=by rcases h with _ | ⟨x,_ | k⟩<;>simp[wI,tV,uS,uX]
theorem pN(h:Option (vN×Option Int)):p5 (wI h)=true:=by
 rcases h with _ | ⟨x,_ | k⟩
 ·rfl
 ·simp[wI,tV,p5,t8];have:=iA x;simp[p5] at this;exact this
 ·simp[wI,tV,p5,t8];have:=iA x;simp[p5] at this;exact this
theorem rD(s:WS):uS s.d<=100:=by
 have h:=mj s.held
 simp[WS.d,WS.alarmD,WS.lapsD,WS.countD,uS,uX,zz]
 omega
theorem kW(s:WS):p5 s.d=true:=by
 have h:=pN s.held
 simp[WS.d,WS.alarmD,WS.lapsD,WS.countD,p5,t8,CV,h]
theorem Lm(s:WS):xD s.d s.d=some false:=wY (rD s) (kW s)
theorem Oi:8<=sizeLine:=by decide
theorem w0(s:WS):i9 s.d (.int 0)=some (.int (s.mode:Int)):=rfl
theorem w1(s:WS):i9 s.d (.int 1)=some (.int s.clock):=rfl
theorem w2(s:WS):i9 s.d (.int 2)=some s.alarmD:=rfl
theorem w3(s:WS):i9 s.d (.int 3)=some s.lapsD:=rfl
theorem w4(s:WS):i9 s.d (.int 4)=some s.countD:=rfl
theorem w5(s:WS):i9 s.d (.int 5)=some (.int s.ring):=rfl
theorem w6(s:WS):i9 s.d (.int 6)=some (wI s.held):=rfl
theorem w7(s:WS):i9 s.d (.int 7)=some (.int s.idle):=rfl
theorem LL(s:WS):i9 s.alarmD (.int 0)=some (.int s.ah):=rfl
theorem KQ(s:WS):i9 s.alarmD (.int 1)=some (.int s.am):=rfl
theorem Lc(s:WS):i9 s.alarmD (.int 2)=some (.bl s.aon):=rfl
theorem LK(s:WS):i9 s.lapsD (.int 0)=some (.int s.lm):=rfl
theorem MF(s:WS):i9 s.lapsD (.int 1)=some (.bl s.lr):=rfl
theorem Lg(s:WS):i9 s.lapsD (.int 2)=some (.tup (s.lk.map .int)):=rfl
theorem K4(s:WS):i9 s.countD (.int 0)=some (.int s.cm):=rfl
theorem LF(s:WS):i9 s.countD (.int 1)=some (.int s.cs):=rfl
theorem Mc(s:WS):i9 s.countD (.int 2)=some (.int s.cl):=rfl
theorem Nh(s:WS):i9 s.countD (.int 3)=some (.bl s.cr):=rfl
theorem b0(b:Bk):i9 b.d (.int 0)=some (.int b.hold):=rfl
theorem b1(b:Bk):i9 b.d (.int 1)=some (.int b.back):=rfl
theorem b2(b:Bk):i9 b.d (.int 2)=some (.tup (b.modes.map Md.d)):=rfl
theorem m0(m:Md):i9 m.d (.int 0)=some (.str m.face.x):=rfl
theorem m1(m:Md):i9 m.d (.int 1)=some (.bl m.stays):=rfl
theorem m2(m:Md):i9 m.d (.int 2)=some (.tup (m.rows.map zC)):=rfl
theorem r0(r:xo×Nat):i9 (zC r) (.int 0)=some (.str r.1.x):=rfl
theorem r1(r:xo×Nat):i9 (zC r) (.int 1)=some (.int (r.2:Int)):=rfl
theorem h0(x:vN)(k:Option Int):i9 (wI (some (x,k))) (.int 0)=some (.str x.x):=rfl
theorem h1(x:vN)(k:Option Int):i9 (wI (some (x,k))) (.int 1)=some (tV k):=rfl
theorem AV{xs:LD}{i:Nat}(h:i<xs.length):Fi xs (i:Int)=some xs[i]:=by
 unfold Fi K7
 rw[if_pos (by omega),if_pos (by omega)]
 simp[h]
theorem kM(b:Bk){m:Nat}(h:m<b.modes.length):i9 (.tup (b.modes.map Md.d)) (.int (m:Int))=some (b.modes.getD m default).d:=by
 show Fi _ _=_
 rw[AV (by simpa using h)]
 simp[List.getD_eq_getElem?_getD,h]
theorem sr(m:Md){i:Nat}(h:i<m.rows.length):i9 (.tup (m.rows.map zC)) (.int (i:Int))=some (zC (m.rows.getD i (.none,0))):=by
 show Fi _ _=_
 rw[AV (by simpa using h)]
 simp[List.getD_eq_getElem?_getD,h]
theorem qy(b:Bk){m:Nat}(h:m<b.modes.length):b.modes.getD m default∈b.modes:=by
 have e:b.modes.getD m default=b.modes[m]:=by simp[List.getD_eq_getElem?_getD,h]
 rw[e];exact List.getElem_mem h
theorem Lv{i j:Int}(h1 : -(2 ^ 64)<i)(h2:i<2 ^ 64):wK (.int i) (.int j)=some (.int (i*j)):=by simp[uG h1 h2]
theorem GP(j:Int):wK (.int 3600) (.int j)=some (.int (3600*j)):=Lv (by decide) (by decide)
theorem Iz(j:Int):wK (.int 60) (.int j)=some (.int (60*j)):=Lv (by decide) (by decide)
theorem Hv(k:Option Int):wm (tV k) .non=some k.isSome:=by cases k<;>rfl
theorem KA(i j:Int):Dn [.int i,.int j]=some (.int (mx i j)):=rfl
def whole:D->Bool
 | .int _=>true
 | _=>false
def within(d:D)(l m:Int):Bool:=match d with
 | .int i=>decide (l<=i)&&decide (i<=m)
 | _=>false
def oneOf(d:D)(ws:LD):Bool:=match d with
 | .str x=>ws.any fun y=>L9 y (.str x)
 | _=>false
def NU(d:D)(m:Int):Bool:=match d with
 | .tup xs=>(xs.length:Int)==m
 | _=>false
noncomputable def x_:LD:=[.str (oS "none"),.str (oS "hour"),.str (oS "minute"),.str (oS "zero"),.str (oS "ahour"),.str (oS "aminute"),.str (oS "alarm"),.str (oS "run"),.str (oS "lap"),.str (oS "cminute"),.str (oS "csecond"),.str (oS "full"),.str (oS "count")]
def zt:LD:=[.str (oS "time"),.str (oS "alarm"),.str (oS "laps"),.str (oS "count")]
def yn(d:D)(m:Int):Bool:=match d with
 | .tup [a,b]=>oneOf a x_&&within b 0 (m - 1)
 | _=>false
def CN(d:D)(m:Int):Bool:=match d with
 | .tup xs=>xs.length==6&&xs.all fun x=>yn x m
 | _=>false
def xI(d:D)(m:Int):Bool:=match d with
 | .tup [a,b,c]=>oneOf a zt&&(NG b "bool" && CN c m)
 | _=>false
def AU(d:D):Bool:=match d with
 | .tup xs=>decide (1<=xs.length)&&(decide (xs.length<=8)&&xs.all fun x=>xI x xs.length)
 | _=>false
def A3(d:D):Bool:=match d with
 | .tup [a,b,c]=>within a 1 9&&(within b 0 60&&AU c)
 | _=>false
theorem within_int{d:D}{l h:Int}(e:within d l h=true):∃i:Int,d=.int i/\l<=i/\i<=h:=by
 cases d with
 | int i=>simp[within] at e;exact⟨i,rfl,e⟩
 | _=>cases e
theorem Gh{d:D}(e:NG d "bool" = true):∃b,d=.bl b:=by
 cases d with
 | bl b=>exact⟨b,rfl⟩
 | _=>simp at e
theorem AN{d:D}{ws:LD}(e:oneOf d ws=true):∃x,d=.str x/\(ws.any fun y=>L9 y (.str x))=true:=by
 cases d with
 | str x=>exact⟨x,rfl,e⟩
 | _=>cases e
theorem HD{d:D}(e:oneOf d x_=true):∃k:xo,d=.str k.x:=by
 obtain⟨x,rfl,h⟩:=AN e
 obtain⟨y,hy,h⟩:=List.any_eq_true.mp h
 have q:∀w:Str,L9 (.str w) (.str x)=true->w=x:=fun w z=>beq_iff_eq.mp z
 simp only[x_,List.mem_cons,List.not_mem_nil,or_false] at hy
 rcases hy with rfl | rfl | rfl | rfl | rfl | rfl | rfl | rfl | rfl | rfl | rfl | rfl | rfl
 ·exact⟨.none,congrArg D.str (q _ h).symm⟩
 ·exact⟨.hour,congrArg D.str (q _ h).symm⟩
 ·exact⟨.minute,congrArg D.str (q _ h).symm⟩
 ·exact⟨.zero,congrArg D.str (q _ h).symm⟩
 ·exact⟨.ahour,congrArg D.str (q _ h).symm⟩
 ·exact⟨.aminute,congrArg D.str (q _ h).symm⟩
 ·exact⟨.alarm,congrArg D.str (q _ h).symm⟩
 ·exact⟨.run,congrArg D.str (q _ h).symm⟩
 ·exact⟨.lap,congrArg D.str (q _ h).symm⟩
 ·exact⟨.cminute,congrArg D.str (q _ h).symm⟩
 ·exact⟨.csecond,congrArg D.str (q _ h).symm⟩
 ·exact⟨.full,congrArg D.str (q _ h).symm⟩
 ·exact⟨.count,congrArg D.str (q _ h).symm⟩
theorem GN{d:D}(e:oneOf d zt=true):∃k:Face,d=.str k.x:=by
 obtain⟨x,rfl,h⟩:=AN e
 obtain⟨y,hy,h⟩:=List.any_eq_true.mp h
 have q:∀w:Str,L9 (.str w) (.str x)=true->w=x:=fun w z=>beq_iff_eq.mp z
 simp only[zt,List.mem_cons,List.not_mem_nil,or_false] at hy
 rcases hy with rfl | rfl | rfl | rfl
 ·exact⟨.time,congrArg D.str (q _ h).symm⟩
 ·exact⟨.alarm,congrArg D.str (q _ h).symm⟩
 ·exact⟨.laps,congrArg D.str (q _ h).symm⟩
 ·exact⟨.count,congrArg D.str (q _ h).symm⟩
theorem rT{d:D}{n:Nat}(e:yn d n=true):∃r:xo×Nat,d=zC r/\r.2<n:=by
 unfold yn at e
 split at e
 ·rw[Bool.and_eq_true] at e
  obtain⟨k,rfl⟩:=HD e.1
  obtain⟨i,rfl,h0,h1⟩:=within_int e.2
  refine⟨(k,i.toNat),?_,?_⟩
  ·simp[zC,Int.toNat_of_nonneg h0]
  ·simp;omega
 ·cases e
theorem Ba{α:Type}{f:α->D}{P:α->Prop}{q:D->Bool}(h:∀d,q d=true->∃a,d=f a/\P a):∀{ds:LD},ds.all q=true->∃as:List α,ds=as.map f/\∀a∈as,P a
 | [],_=>⟨[],rfl,fun _ h=>by cases h⟩
 | d::ds,e=>by
  rw[List.all_cons,Bool.and_eq_true] at e
  obtain⟨a,rfl,ha⟩:=h d e.1
  obtain⟨as,rfl,hs⟩:=Ba h e.2
  exact⟨a::as,rfl,fun x hx=>by rcases List.mem_cons.mp hx with rfl | hx;exact ha;exact hs x hx⟩
theorem q_{d:D}{n:Nat}(e:xI d n=true):∃m:Md,d=m.d/\m.Ok n:=by
 unfold xI at e
 split at e
 ·rename_i a b c
  rw[Bool.and_eq_true,Bool.and_eq_true] at e
  obtain⟨f,rfl⟩:=GN e.1
  obtain⟨s,rfl⟩:=Gh e.2.1
  have e2:=e.2.2
  cases c with
  | tup xs =>
   unfold CN at e2
   simp only[Bool.and_eq_true] at e2
   obtain⟨rs,rfl,hr⟩:=Ba (f:=zC) (P:=fun r=>r.2<n) (fun d h=>rT h) e2.2
   refine⟨⟨f,s,rs⟩,rfl,?_,hr⟩
   have:=e2.1
   simpa using this
  | _=>cases e2
 ·cases e
theorem qO{d:D}(e:A3 d=true):∃b:Bk,d=b.d/\b.Ok:=by
 unfold A3 at e
 split at e
 ·rename_i a b c
  rw[Bool.and_eq_true,Bool.and_eq_true] at e
  obtain⟨i,rfl,i0,i1⟩:=within_int e.1
  obtain⟨j,rfl,j0,j1⟩:=within_int e.2.1
  have e2:=e.2.2
  cases c with
  | tup xs =>
   unfold AU at e2
   simp only[Bool.and_eq_true] at e2
   obtain⟨h1,h2,h3⟩:=e2
   obtain⟨ms,hm,hok⟩:=Ba (f:=Md.d) (P:=fun m=>m.Ok xs.length) (fun d h=>q_ h) h3
   have hl:xs.length=ms.length:=by rw[hm];simp
   refine⟨⟨i,j,ms⟩,by rw[hm];rfl,i0,i1,j0,j1,?_,?_,?_⟩
   ·have:=of_decide_eq_true h1;show 1<=ms.length;omega
   ·have:=of_decide_eq_true h2;show ms.length<=8;omega
   ·rw[hl] at hok;exact hok
  | _=>cases e2
 ·cases e
def qZ:R->Option Out:=
  (l9 (m6 (n5 (c4 (kI 0) (c4 (kI 0) (c4 (fun _=>some (.bl false)) c7)))) (setAt 1))
  (l9 (m6 (n5 (c4 (kI 0) (c4 (fun _=>some (.bl false)) (c4 (n5 c7) c7)))) (setAt 2))
  (l9 (m6 (n5 (c4 (kI 0) (c4 (kI 0) (c4 (kI 0) (c4 (fun _=>some (.bl false)) c7))))) (setAt 3))
  (l6 (n5 (c4 (kI 0) (c4 (kI 0) (c4 (c6 1) (c4 (c6 2) (c4 (c6 3) (c4 (kI 0) (c4 (fun _=>some .non) (c4 (kI 0) c7)))))))))))))
def cP:LD->OD:=via 1 4 qZ
theorem nT(b:D):cP [b]=some l7.d:=l4 ((k7 (n4 rfl rfl)).trans ((k7 (n4 rfl rfl)).trans ((k7 (n4 rfl rfl)).trans (retS rfl))))
def iM:R->Option Out:=
  (l9 (yo (k9 LQ (c6 1) (c8 vf (c4 (c6 0) c7)))
  (l6 (g9 i9 (c6 0) (c6 1)))
  tH)
  (l6 (kI 0)))
def bL:LD->OD:=via 2 2 iM
theorem Ez(ns:List Int)(k:Int)(h0:0<=k):∃c,bL [.fro (ns.map .int),.int k]=some (.int c):=by
 obtain⟨n,rfl⟩:=Int.eq_ofNat_of_zero_le h0
 by_cases h1:(n:Int)<((ns.map D.int).length:Int)
 ·have h2:n<(ns.map D.int).length:=Int.ofNat_lt.mp h1
  have h3:n<ns.length:=by rw[List.length_map] at h2;exact h2
  refine⟨ns[n],l4 (vd ((y4 (tK rfl (i3 (F:=vf) rfl rfl) (dT h1))).trans (retS (i8 rfl rfl ?_))))⟩
  exact(AV h2).trans (by rw[List.getElem_map])
 ·exact⟨0,l4 ((k7 (yI (tK rfl (i3 (F:=vf) rfl rfl) (dF h1)))).trans (retS rfl))⟩
def lb:R->Option Out:=
  (l9 (m6 (g9 sW (g9 wK (g9 p4 (g9 p4 (c8 bL (c4 (c6 0) (c4 (c6 1) c7))) (g9 wK (kI 7919) (c6 1))) (kI 1)) (kI 48271)) (kI 2147483647)) (setAt 2))
  (l6 (g9 sW (g9 p4 (g9 p4 (g9 wK (c6 2) (c6 2)) (g9 wK (kI 7) (c6 2))) (c6 1)) (kI 2147483629))))
def bD:LD->OD:=via 2 3 lb
theorem xO(ns:List Int)(k:Int)(h0:0<=k):∃m,bD [.fro (ns.map .int),.int k]=some (.int m)/\0<=m:=by
 obtain⟨c,hc⟩:=Ez ns k h0
 generalize hq:(c+7919*k+1)*48271%2147483647=q
 have q0:0<=q:=by rw[<- hq];exact Int.emod_nonneg _ (by decide)
 have q1:q<2147483647:=by rw[<- hq];exact Int.emod_lt_of_pos _ (by decide)
 have m1:tG 7919 k=true:=uG (by decide) (by decide)
 have m2:tG (c+7919*k+1) 48271=true:=Aj (by decide) (by decide)
 have m3:tG q q=true:=uG (by omega) (by omega)
 have m4:tG 7 q=true:=uG (by decide) (by decide)
 refine⟨(q*q+7*q+k)%2147483629,?_,Int.emod_nonneg _ (by decide)⟩
 exact l4 ((k7 (n4 (i8 (i8 (i8 (i8 (i3 rfl hc) (i8 rfl rfl (Cb m1)) rfl) rfl rfl) rfl (Cb m2)) rfl (NJ (by decide) hq)) rfl)).trans (retS (i8 (i8 (i8 (i8 rfl rfl (Cb m3)) (i8 rfl rfl (Cb m4)) rfl) rfl rfl) rfl (modS (by decide)))))
def k_:R->Option Out:=
  (l9 (m6 (g9 sW (g9 wK (g9 p4 (g9 p4 (c6 0) (g9 wK (kI 104729) (c6 1))) (kI 17)) (kI 69621)) (kI 2147483647)) (setAt 2))
  (l6 (g9 sW (g9 p4 (g9 p4 (g9 wK (c6 2) (c6 2)) (g9 wK (kI 3) (c6 2))) (c6 1)) (kI 2147483629))))
def aH:LD->OD:=via 2 3 k_
def vE(n k:Int):Int:=((n+104729*k+17)*69621%2147483647*((n+104729*k+17)*69621%2147483647)+3*((n+104729*k+17)*69621%2147483647)+k)%2147483629
theorem v5(n k:Int):aH [.int n,.int k]=some (.int (vE n k)):=by
 unfold vE
 generalize hq:(n+104729*k+17)*69621%2147483647=q
 have q0:0<=q:=by rw[<- hq];exact Int.emod_nonneg _ (by decide)
 have q1:q<2147483647:=by rw[<- hq];exact Int.emod_lt_of_pos _ (by decide)
 have m1:tG 104729 k=true:=uG (by decide) (by decide)
 have m2:tG (n+104729*k+17) 69621=true:=Aj (by decide) (by decide)
 have m3:tG q q=true:=uG (by omega) (by omega)
 have m4:tG 3 q=true:=uG (by decide) (by decide)
 exact l4 ((k7 (n4 (i8 (i8 (i8 (i8 rfl (i8 rfl rfl (Cb m1)) rfl) rfl rfl) rfl (Cb m2)) rfl (NJ (by decide) hq)) rfl)).trans (retS (i8 (i8 (i8 (i8 rfl rfl (Cb m3)) (i8 rfl rfl (Cb m4)) rfl) rfl rfl) rfl (modS (by decide)))))
def lC:R->Option Out:=
  (l9 (m6 (g9 p4 (kI 1) (g9 sW (c6 0) (kI 8))) (setAt 1))
  (l9 (m6 (n5 (c4 (kS "none") (c4 (kS "hour") (c4 (kS "minute") (c4 (kS "zero") (c4 (kS "ahour") (c4 (kS "aminute") (c4 (kS "alarm") (c4 (kS "run") (c4 (kS "lap") (c4 (kS "cminute") (c4 (kS "csecond") (c4 (kS "full") c7))))))))))))) (setAt 2))
  (l9 (m6 (n5 c7) (setAt 3))
  (l9 (Cw (uT (c6 1)) (setAt 4)
  (l9 (m6 (g9 uC (c8 aH (c4 (c6 0) (c4 (c6 4) c7))) (kI 4)) (setAt 5))
  (l9 (m6 (n5 c7) (setAt 6))
  (l9 (Cw (uT (kI 6)) (setAt 7)
  (l9 (m6 (g9 uC (c8 aH (c4 (c6 5) (c4 (g9 p4 (kI 10) (c6 7)) c7))) (kI 4)) (setAt 8))
  (m6 (g9 p4 (c6 6) (n5 (c4 (n5 (c4 (g9 i9 (g9 p4 (c6 2) (n5 (c4 (kS "count") c7))) (g9 sW (c6 8) (kI 13))) (c4 (g9 sW (g9 uC (c6 8) (kI 16)) (c6 1)) c7))) c7))) (setAt 6))))
  (l9 (m6 (g9 i9 (n5 (c4 (kS "time") (c4 (kS "alarm") (c4 (kS "laps") (c4 (kS "count") c7))))) (g9 sW (c6 5) (kI 4))) (setAt 9))
  (m6 (g9 p4 (c6 3) (n5 (c4 (n5 (c4 (c6 9) (c4 (BD (k9 w9 (g9 sW (g9 uC (c6 5) (kI 4)) (kI 2)) (kI 0))) (c4 (c6 6) c7)))) c7))) (setAt 3)))))))
  (l6 (n5 (c4 (g9 p4 (kI 1) (g9 sW (g9 uC (c6 0) (kI 8)) (g9 i9 (n5 (c4 (kI 3) (c4 (kI 9) c7))) (g9 sW (g9 uC (c6 0) (kI 128)) (kI 2))))) (c4 (g9 i9 (n5 (c4 (kI 0) (c4 (kI 7) (c4 (kI 60) (c4 (kI 1) (c4 (kI 20) c7)))))) (g9 sW (g9 uC (c6 0) (kI 256)) (kI 5))) (c4 (c6 3) c7)))))))))
def cI:LD->OD:=via 1 10 lC
def tF:LD:=[.str (oS "none"),.str (oS "hour"),.str (oS "minute"),.str (oS "zero"),.str (oS "ahour"),.str (oS "aminute"),.str (oS "alarm"),.str (oS "run"),.str (oS "lap"),.str (oS "cminute"),.str (oS "csecond"),.str (oS "full")]
theorem B5:∀x∈x_,oneOf x x_=true/\Fits x:=by
 intro x hx
 simp only[x_,List.mem_cons,List.not_mem_nil,or_false] at hx
 rcases hx with h | h | h | h | h | h | h | h | h | h | h | h | h<;>subst h<;>exact⟨by decide,.str _⟩
theorem Cm:∀x∈zt,oneOf x zt=true/\Fits x:=by
 intro x hx
 simp only[zt,List.mem_cons,List.not_mem_nil,or_false] at hx
 rcases hx with h | h | h | h<;>subst h<;>exact⟨by decide,.str _⟩
def zg:R->Option Out:=(l9 (m6 (g9 uC (c8 aH (c4 (c6 5) (c4 (g9 p4 (kI 10) (c6 7)) c7))) (kI 4)) (setAt 8))
 (m6 (g9 p4 (c6 6) (n5 (c4 (n5 (c4 (g9 i9 (g9 p4 (c6 2) (n5 (c4 (kS "count") c7))) (g9 sW (c6 8) (kI 13))) (c4 (g9 sW (g9 uC (c6 8) (kI 16)) (c6 1)) c7))) c7))) (setAt 6)))
theorem sz{n:Nat}(h:n<=1000):n<=sizeLine:=Nat.le_trans h (by decide)
theorem pZ{N m:Int}{ms rs:LD}{a b f:OD}{q j:Int}(hm:0<m)(hr:rs.length<=100)(hk:∀x∈rs,yn x m=true/\Fits x) :
  ∃o r,zg [some (.int N),some (.int m),some (.tup tF),some (.tup ms),a,some (.int q),some (.tup rs),some (.int j),b,f]=some (.nx [some (.int N),some (.int m),some (.tup tF),some (.tup ms),a,some (.int q),some (.tup (rs++[r])),some (.int j),o,f])/\yn r m=true/\Fits r:=by
 generalize hz:vE q (10+j) / 4=z
 obtain⟨x,hx,hat⟩:=xY (xs:=x_) (i:=z%13) (Int.emod_nonneg _ (by decide)) (Int.emod_lt_of_pos _ (by decide))
 have w0:0<=z / 16%m:=Int.emod_nonneg _ (by omega)
 have w1:z / 16%m<m:=Int.emod_lt_of_pos _ hm
 have hl:rs.length+1<=sizeLine:=sz (by omega)
 have hd:tF++[.str (oS "count")]=x_:=rfl
 have hs:tF.length+1<=sizeLine:=by decide
 refine⟨some (.int z),.tup [x,.int (z / 16%m)],?_,?_,?_⟩
 ·have ha:p4 (.tup tF) (.tup [.str (oS "count")])=some (.tup x_):=by
   show(if tF.length+1<=sizeLine then some (D.tup (tF++[.str (oS "count")])) else none)=_
   rw[if_pos hs,hd]
  have hb:p4 (.tup rs) (.tup [.tup [x,.int (z / 16%m)]])=some (.tup (rs++[.tup [x,.int (z / 16%m)]])):=by
   show(if rs.length+1<=sizeLine then _ else none)=_
   rw[if_pos hl]
  have hv:uC (.int (vE q (10+j))) (.int 4)=some (.int z):=by rw[<- hz];rfl
  exact(k7 (n4 (i8 (i3 (m8 rfl (m8 (i8 rfl rfl rfl) rfl)) (v5 _ _)) rfl hv) rfl)).trans (n4 (i8 rfl (tupS (m8 (tupS (m8 (i8 (i8 rfl rfl ha) (i8 rfl rfl (modS (by decide))) hat) (m8 (i8 (i8 rfl rfl rfl) rfl (modS hm)) rfl))) rfl)) hb) rfl)
 ·simp[yn,(B5 x hx).1,within,w0]
  omega
 ·exact .tup (by simp) (by
   intro y hy
   simp at hy
   rcases hy with h | h<;>subst h
   ·exact(B5 _ hx).2
   ·exact .int _)
def CC:R->Option Out:=(l9 (m6 (g9 uC (c8 aH (c4 (c6 0) (c4 (c6 4) c7))) (kI 4)) (setAt 5))
  (l9 (m6 (n5 c7) (setAt 6))
  (l9 (Cw (uT (kI 6)) (setAt 7) zg)
  (l9 (m6 (g9 i9 (n5 (c4 (kS "time") (c4 (kS "alarm") (c4 (kS "laps") (c4 (kS "count") c7))))) (g9 sW (c6 5) (kI 4))) (setAt 9))
  (m6 (g9 p4 (c6 3) (n5 (c4 (n5 (c4 (c6 9) (c4 (BD (k9 w9 (g9 sW (g9 uC (c6 5) (kI 4)) (kI 2)) (kI 0))) (c4 (c6 6) c7)))) c7))) (setAt 3))))))
def L0(N m q:Int)(ms:LD)(a f:OD)(i:Nat)(ρ:R):Prop:=∃rs o j,ρ=[some (.int N),some (.int m),some (.tup tF),some (.tup ms),a,some (.int q),some (.tup rs),j,o,f]/\rs.length=i/\∀x∈rs,yn x m=true/\Fits x
theorem oE{N m q:Int}{ms:LD}{a b c f:OD}(hm:0<m) :
  ∃rs o j,Bd (setAt 7) zg (uD 0 6) [some (.int N),some (.int m),some (.tup tF),some (.tup ms),a,some (.int q),some (.tup []),b,c,f]=some (.nx [some (.int N),some (.int m),some (.tup tF),some (.tup ms),a,some (.int q),some (.tup rs),j,o,f])/\rs.length=6/\∀x∈rs,yn x m=true/\Fits x:=by
 obtain⟨ρ',h1,rs,o,j,h2,h3,h4⟩:=zo (st:=setAt 7) (body:=zg) (L0 N m q ms a f) (uD 0 6) 0 [some (.int N),some (.int m),some (.tup tF),some (.tup ms),a,some (.int q),some (.tup []),b,c,f]
  ⟨[],c,b,rfl,rfl,fun x hx=>nomatch hx⟩ (fun i d ρ e p=>by
   obtain⟨rs,o,j,rfl,hl,hk⟩:=p
   obtain⟨rfl,hi⟩:=kQ e
   obtain⟨o',r,h1,h2,h3⟩:=pZ (N:=N) (ms:=ms) (a:=a) (b:=o) (f:=f) (q:=q) (j:=(i:Int)) hm (rs:=rs) (by omega) hk
   refine⟨_,_,rfl,h1,rs++[r],o',_,rfl,by simp[hl],fun x hx=>?_⟩
   rcases List.mem_append.mp hx with hx | hx
   ·exact hk x hx
   ·cases List.mem_singleton.mp hx
    exact⟨h2,h3⟩)
 subst h2
 refine⟨rs,o,j,h1,?_,h4⟩
 rw[h3,fL]
 rfl
theorem oI{N m:Int}{ms:LD}{k:Int}{a b c d e:OD}(hm:0<m)(hms:ms.length<=100) :
  ∃r o1 o2 o3 o4 o5,CC [some (.int N),some (.int m),some (.tup tF),some (.tup ms),some (.int k),a,b,c,d,e]=some (.nx [some (.int N),some (.int m),some (.tup tF),some (.tup (ms++[r])),some (.int k),o1,o2,o3,o4,o5])/\xI r m=true/\Fits r:=by
 generalize hq:vE N k / 4=q
 obtain⟨rs,o,j,h1,h2,h3⟩:=oE (N:=N) (m:=m) (q:=q) (ms:=ms) (a:=some (.int k)) (b:=c) (c:=d) (f:=e) hm
 obtain⟨x,hx,hat⟩:=xY (xs:=zt) (i:=q%4) (Int.emod_nonneg _ (by decide)) (Int.emod_lt_of_pos _ (by decide))
 have hl:ms.length+1<=sizeLine:=sz (by omega)
 refine⟨.tup [x,.bl (q / 4%2==0),.tup rs],some (.int q),some (.tup rs),j,o,some x,?_,?_,?_⟩
 rotate_left 1
 ·have ha:(rs.all fun y=>yn y m)=true:=List.all_eq_true.mpr fun y hy=>(h3 y hy).1
  simp[xI,(Cm x hx).1,CN,h2,ha]
 ·refine .tup (by simp) fun y hy=>?_
  simp at hy
  rcases hy with h | h | h<;>subst h
  ·exact(Cm _ hx).2
  ·exact .bl _
  ·exact .tup (by omega) fun y hy=>(h3 y hy).2
 ·have hat':Fi [.str (oS "time"),.str (oS "alarm"),.str (oS "laps"),.str (oS "count")] (q%4)=some x:=hat
  have hb:p4 (.tup ms) (.tup [.tup [x,.bl (q / 4%2==0),.tup rs]])=some (.tup (ms++[.tup [x,.bl (q / 4%2==0),.tup rs]])):=by
   show(if ms.length+1<=sizeLine then _ else none)=_
   rw[if_pos hl]
  have hv:uC (.int (vE N k)) (.int 4)=some (.int q):=by rw[<- hq];rfl
  exact(k7 (n4 (i8 (i3 (m8 rfl rfl) (v5 _ _)) rfl hv) rfl)).trans ((k7 (n4 (tupS rfl) rfl)).trans ((k7 (DU (ds:=uD 0 6) rfl h1)).trans ((k7 (n4 (i8 rfl (i8 rfl rfl (modS (by decide))) hat') rfl)).trans
   (n4 (i8 rfl (tupS (m8 (tupS (m8 rfl (m8 (GM (tK (i8 (i8 rfl rfl rfl) rfl (modS (by decide))) rfl rfl)) rfl))) rfl)) hb) rfl))))
def Le(N m:Int)(i:Nat)(ρ:R):Prop:=∃ms a b c d e f,ρ=[some (.int N),some (.int m),some (.tup tF),some (.tup ms),a,b,c,d,e,f]/\ms.length=i/\∀x∈ms,xI x m=true/\Fits x
theorem oW(N:Int):∃b,cI [.int N]=some b/\A3 b=true/\Fits b:=by
 generalize hM:1+N%8=m
 have hm0:0<m:=by have:=Int.emod_nonneg N (show(8:Int)≠0 by decide);omega
 have hm8:m<=8:=by have:=Int.emod_lt_of_pos N (show(0:Int)<8 by decide);omega
 obtain⟨ρ',h1,ms,a,b,c,d,e,f,h2,h3,h4⟩:=zo (st:=setAt 4) (body:=CC) (Le N m) (uD 0 m) 0 [some (.int N),some (.int m),some (.tup tF),some (.tup []),none,none,none,none,none,none]
  ⟨[],none,none,none,none,none,none,rfl,rfl,fun x hx=>nomatch hx⟩ (fun i d ρ e p=>by
   obtain⟨ms,a,b,c,d',e',f,rfl,hl,hk⟩:=p
   obtain⟨rfl,hi⟩:=kQ e
   obtain⟨r,o1,o2,o3,o4,o5,h1,h2,h3⟩:=oI (N:=N) (ms:=ms) (k:=(i:Int)) (a:=b) (b:=c) (c:=d') (d:=e') (e:=f) hm0 (by omega)
   refine⟨_,_,rfl,h1,ms++[r],_,_,_,_,_,_,rfl,by simp[hl],fun x hx=>?_⟩
   rcases List.mem_append.mp hx with hx | hx
   ·exact hk x hx
   ·cases List.mem_singleton.mp hx
    exact⟨h2,h3⟩)
 subst h2
 rw[fL] at h3
 have hlen:((ms.length:Nat):Int)=m:=by omega
 have hr : -4611686018427387904<=m/\m<4611686018427387904:=by omega
 obtain⟨p,hp,hat⟩:=xY (xs:=[.int 3,.int 9]) (i:=N / 128%2) (Int.emod_nonneg _ (by decide)) (Int.emod_lt_of_pos _ (by decide))
 have hp':∃v:Int,p=.int v/\0<v/\v<=9:=by
  simp at hp
  rcases hp with h | h<;>subst h
  ·exact⟨3,rfl,by decide,by decide⟩
  ·exact⟨9,rfl,by decide,by decide⟩
 obtain⟨v,rfl,hv0,hv9⟩:=hp'
 obtain⟨p2,hp2,hat2⟩:=xY (xs:=[.int 0,.int 7,.int 60,.int 1,.int 20]) (i:=N / 256%5) (Int.emod_nonneg _ (by decide)) (Int.emod_lt_of_pos _ (by decide))
 have hp2':∃v:Int,p2=.int v/\0<=v/\v<=60:=by
  simp at hp2
  rcases hp2 with h | h | h | h | h<;>subst h
  ·exact⟨0,rfl,by decide,by decide⟩
  ·exact⟨7,rfl,by decide,by decide⟩
  ·exact⟨60,rfl,by decide,by decide⟩
  ·exact⟨1,rfl,by decide,by decide⟩
  ·exact⟨20,rfl,by decide,by decide⟩
 obtain⟨v2,rfl,hv20,hv260⟩:=hp2'
 have w0:0<=N / 8%v:=Int.emod_nonneg _ (by omega)
 have w1:N / 8%v<v:=Int.emod_lt_of_pos _ hv0
 refine⟨.tup [.int (1+N / 8%v),.int v2,.tup ms],?_,?_,?_⟩
 ·have hi:uT (c6 1) [some (.int N),some (.int m),some (.tup tF),some (.tup []),none,none,none,none,none,none]=some (uD 0 m):=by
   show(if -4611686018427387904<=m/\m<4611686018427387904 then some (uD 0 m) else none)=_
   rw[if_pos hr]
  have h0:p4 (.int 1) (.int (N%8))=some (.int m):=by rw[<- hM];rfl
  exact l4 ((k7 (n4 (i8 rfl (i8 rfl rfl (modS (by decide))) h0) rfl)).trans ((k7 (n4 rfl rfl)).trans ((k7 (n4 (tupS rfl) rfl)).trans ((k7 (DU hi h1)).trans (retS (tupS (m8 (i8 rfl (i8 (i8 rfl rfl rfl) (i8 rfl (i8 (i8 rfl rfl rfl) rfl (modS (by decide))) hat) (modS hv0)) rfl) (m8 (i8 rfl (i8 (i8 rfl rfl rfl) rfl (modS (by decide))) hat2) rfl))))))))
 ·have ha:(ms.all fun y=>xI y ms.length)=true:=List.all_eq_true.mpr fun y hy=>by rw[hlen];exact(h4 y hy).1
  have g1:1<=ms.length:=by omega
  have g8:ms.length<=8:=by omega
  simp[A3,within,AU,ha,g1,g8]
  omega
 ·refine .tup (by simp) fun y hy=>?_
  simp at hy
  rcases hy with h | h | h<;>subst h
  ·exact .int _
  ·exact .int _
  ·exact .tup (by omega) fun y hy=>(h4 y hy).2
def kZ:R->Option Out:=
  (l9 (m6 (g9 i9 (kS "abcaab") (g9 sW (g9 uC (c6 0) (kI 8)) (kI 6))) (setAt 1))
  (l9 (m6 (g9 sW (c6 0) (kI 8)) (setAt 2))
  (l9 (yo (k9 LQ (c6 2) (kI 3))
  (l6 (n5 (c4 (kS "down") (c4 (c6 1) c7))))
  tH)
  (l9 (yo (k9 LQ (c6 2) (kI 6))
  (l6 (n5 (c4 (kS "up") (c4 (c6 1) c7))))
  tH)
  (l6 (n5 (c4 (kS "ticks") (c4 (g9 p4 (kI 1) (g9 sW (g9 uC (c6 0) (kI 64)) (g9 i9 (n5 (c4 (kI 4) (c4 (kI 12) (c4 (kI 130) c7)))) (g9 sW (g9 uC (c6 0) (kI 4096)) (kI 3))))) c7))))))))
def bz:LD->OD:=via 1 3 kZ
def JM:Ev->Prop
 | .ticks n=>n<=130
 | _=>True
def Ev.Lt(e:Ev):Prop:=e.Ok/\JM e
theorem Mx{i:Int}(h0:0<=i)(h1:i<6):∃x:vN,i9 (.str (oS "abcaab")) (.int i)=some (.str x.x):=by
 have:i=0\/i=1\/i=2\/i=3\/i=4\/i=5:=by omega
 rcases this with rfl | rfl | rfl | rfl | rfl | rfl
 ·exact⟨.a,rfl⟩
 ·exact⟨.b,rfl⟩
 ·exact⟨.c,rfl⟩
 ·exact⟨.a,rfl⟩
 ·exact⟨.a,rfl⟩
 ·exact⟨.b,rfl⟩
theorem LA{i:Int}(h0:0<=i)(h1:i<3):∃t:Int,i9 (.tup [.int 4,.int 12,.int 130]) (.int i)=some (.int t)/\0<t/\t<=130:=by
 have:i=0\/i=1\/i=2:=by omega
 rcases this with rfl | rfl | rfl
 ·exact⟨4,rfl,by decide,by decide⟩
 ·exact⟨12,rfl,by decide,by decide⟩
 ·exact⟨130,rfl,by decide,by decide⟩
theorem C4(n:Int):∃e:Ev,bz [.int n]=some e.d/\e.Lt:=by
 obtain⟨x,hx⟩:=Mx (i:=n / 8%6) (by omega) (by omega)
 by_cases h1:n%8<3
 ·exact⟨.down x,l4 ((k7 (n4 (i8 rfl (i8 (i8 rfl rfl rfl) rfl (modS (by decide))) hx) rfl)).trans ((k7 (n4 (i8 rfl rfl (modS (by decide))) rfl)).trans (vd ((y4 (tK rfl rfl (dT h1))).trans (retS rfl))))),trivial,trivial⟩
 ·by_cases h2:n%8<6
  ·exact⟨.up x,l4 ((k7 (n4 (i8 rfl (i8 (i8 rfl rfl rfl) rfl (modS (by decide))) hx) rfl)).trans ((k7 (n4 (i8 rfl rfl (modS (by decide))) rfl)).trans ((k7 (yI (tK rfl rfl (dF h1)))).trans (vd ((y4 (tK rfl rfl (dT h2))).trans (retS rfl)))))),trivial,trivial⟩
  ·obtain⟨t,ht,t0,t1⟩:=LA (i:=n / 4096%3) (by omega) (by omega)
   have hm:=Int.emod_nonneg (n / 64) (show t≠0 by omega)
   have hm2:=Int.emod_lt_of_pos (n / 64) t0
   exact⟨.ticks (1+n / 64%t),l4 ((k7 (n4 (i8 rfl (i8 (i8 rfl rfl rfl) rfl (modS (by decide))) hx) rfl)).trans ((k7 (n4 (i8 rfl rfl (modS (by decide))) rfl)).trans ((k7 (yI (tK rfl rfl (dF h1)))).trans ((k7 (yI (tK rfl rfl (dF h2)))).trans (retS (tupS (m8 rfl (m8 (i8 rfl (i8 (i8 rfl rfl rfl) (i8 rfl (i8 (i8 rfl rfl rfl) rfl (modS (by decide))) ht) (modS t0)) rfl) rfl)))))))),by show 1<=_;omega,by show _<=130;omega⟩
def f_:R->Option Out:=
 (l6 (c8 Dj (c4 (GG 1 (uT (g9 sW (c6 0) (g9 p4 (c6 1) (kI 1)))) (setAt 0) y6 (c8 bz (c4 (g9 uC (c8 aH (c4 (c6 1) (c4 (g9 p4 (kI 40) (c6 0)) c7))) (kI 4)) c7))) c7)))
def de:LD->OD:=via 2 2 f_
theorem pk(n m:Int)(hm:0<=m)(hm2:m<=100):∃es:List Ev,de [.int n,.int m]=some (.tup (es.map Ev.d))/\(∀e∈es,e.Lt)/\es.length<=m.toNat:=by
 have hk0:=Int.emod_nonneg n (show m+1≠0 by omega)
 have hk1:=Int.emod_lt_of_pos n (show 0<m+1 by omega)
 have hp:0<m+1:=by omega
 have key:∀(ds:LD) (ρ:R),(∀d∈ds,∃i:Int,d=.int i)->∃es:List Ev,wo (setAt 0) y6 (c8 bz (c4 (g9 uC (c8 aH (c4 (c6 1) (c4 (g9 p4 (kI 40) (c6 0)) c7))) (kI 4)) c7)) ds (none::some (.int n)::ρ)=some (es.map Ev.d)/\(∀e∈es,e.Lt)/\es.length=ds.length:=by
  intro ds ρ
  induction ds with
  | nil=>intro _;exact⟨[],rfl,(fun _ h=>by cases h),rfl⟩
  | cons d ds ih =>
   intro h
   obtain⟨i,rfl⟩:=h d List.mem_cons_self
   obtain⟨es,h1,h2,h3⟩:=ih fun x hx=>h x (List.mem_cons_of_mem _ hx)
   obtain⟨e,e1,e2⟩:=C4 (vE n (40+i) / 4)
   refine⟨e::es,?_,?_,by simp[h3]⟩
   ·simp[wo,v5,e1] at h1 ⊢
    rw[h1]
   ·intro x hx
    rcases List.mem_cons.mp hx with rfl | hx
    ·exact e2
    ·exact h2 x hx
 obtain⟨es,h1,h2,h3⟩:=key (uD 0 (n%(m+1))) [some (.int m)] (fun d hd=>by
  obtain⟨i,hi⟩:=List.mem_iff_getElem?.mp hd
  obtain⟨rfl,_⟩:=kQ hi
  exact⟨_,rfl⟩)
 rw[fL] at h3
 have hz:(uD 0 (n%(m+1))).length<=sizeLine:=by rw[fL];exact Nat.le_trans (show(n%(m+1)).toNat<=1000 by omega) (by decide)
 refine⟨es,?_,h2,by rw[h3];omega⟩
 have hr : -(2 ^ 62:Int)<=n%(m+1)/\n%(m+1)<2 ^ 62:=by omega
 have hlc:GG 1 (uT (g9 sW (c6 0) (g9 p4 (c6 1) (kI 1)))) (setAt 0) y6 (c8 bz (c4 (g9 uC (c8 aH (c4 (c6 1) (c4 (g9 p4 (kI 40) (c6 0)) c7))) (kI 4)) c7)) [some (.int n),some (.int m)]=some (.lst (es.map Ev.d)):=by
  have hi:uT (g9 sW (c6 0) (g9 p4 (c6 1) (kI 1))) [some (.int n),some (.int m)]=some (uD 0 (n%(m+1))):=by
   show(if 0<m+1 then some (D.int (n%(m+1))) else none).bind _=_
   rw[if_pos hp]
   show(if -(2 ^ 62:Int)<=n%(m+1)/\n%(m+1)<2 ^ 62 then some (uD 0 (n%(m+1))) else none)=_
   rw[if_pos hr]
  unfold GG
  rw[hi]
  show(if (uD 0 (n%(m+1))).length<=sizeLine then _ else none)=_
  rw[if_pos hz]
  show(wo _ _ _ _ (none::some (.int n)::[some (.int m)])).map _=_
  rw[h1]
  rfl
 show(if (2:Nat)=2 then wD (f_ [some (.int n),some (.int m)]) else none)=_
 rw[if_pos rfl]
 unfold f_
 simp only[l6,c8,c4,c7,hlc]
 rfl
def ky:R->Option Out:=
  (l9 (yo (k9 w9 (g9 sW (c6 1) (kI 2)) (kI 0))
  (l6 (c6 0))
  tH)
  (l9 (m6 (g9 sW (g9 uC (c6 1) (kI 2)) (c8 vf (c4 (g9 i9 (c6 0) (kI 2)) c7))) (setAt 2))
  (l9 (m6 (n5 (c4 (n5 (c4 (kS "csecond") (c4 (kI 0) c7))) (c4 (n5 (c4 (kS "count") (c4 (c6 2) c7))) (c4 (n5 (c4 (kS "aminute") (c4 (kI 0) c7))) (c4 (n5 (c4 (kS "alarm") (c4 (kI 0) c7))) (c4 (n5 (c4 (kS "full") (c4 (kI 0) c7))) (c4 (n5 (c4 (kS "none") (c4 (c6 2) c7))) c7))))))) (setAt 3))
  (l6 (n5 (c4 (g9 i9 (c6 0) (kI 0)) (c4 (g9 i9 (c6 0) (kI 1)) (c4 (g9 p4 (n5 (c4 (n5 (c4 (kS "count") (c4 (fun _=>some (.bl true)) (c4 (c6 3) c7)))) c7)) (D7 (g9 i9 (c6 0) (kI 2)) (aP (kI 1)) GH)) c7))))))))
def ce:LD->OD:=via 2 4 ky
def zN(b:Bk)(n:Int):Bk:=if n%2=0 then b else ⟨b.hold,b.back,⟨.count,true,[(.csecond,0),(.count,(n / 2%(b.modes.length:Int)).toNat),(.aminute,0),(.alarm,0),(.full,0),(.none,(n / 2%(b.modes.length:Int)).toNat)]⟩::b.modes.tail⟩
theorem Ge{b:Bk}(ok:b.Ok)(n:Int):(zN b n).Ok:=by
 unfold zN
 split
 ·exact ok
 ·have h1:=ok.some1
  have h0:(0:Int)<(b.modes.length:Int):=by omega
  have m0:=Int.emod_nonneg (n / 2) (show(b.modes.length:Int)≠0 by omega)
  have m1:=Int.emod_lt_of_pos (n / 2) h0
  have hl:b.modes.tail.length+1=b.modes.length:=by rw[List.length_tail];omega
  generalize hg:n / 2%(b.modes.length:Int)=g at *
  refine⟨ok.hold1,ok.hold9,ok.back0,ok.back60,Nat.succ_le_succ (Nat.zero_le _),by show b.modes.tail.length+1<=8;rw[hl];exact ok.some8,fun m hm=>?_⟩
  show m.Ok (b.modes.tail.length+1)
  rw[hl]
  rcases List.mem_cons.mp hm with rfl | hm
  ·refine⟨rfl,fun r hr=>?_⟩
   simp only[List.mem_cons,List.not_mem_nil,or_false] at hr
   rcases hr with rfl | rfl | rfl | rfl | rfl | rfl<;>show _<b.modes.length<;>omega
  ·exact ok.all m (List.mem_of_mem_tail hm)
theorem L1(xs ys:LD):cutD (xs++ys) (some (xs.length:Int)) none=ys:=by
 unfold cutD Dq
 dsimp only
 rw[if_neg (by omega)]
 simp
theorem Ht(m:D)(ms:LD):Kk (.tup (m::ms)) (some 1) none=some (.tup ms):=by
 show some (D.tup (cutD (m::ms) (some 1) none))=_
 rw[show cutD (m::ms) (some 1) none=ms from L1 [m] ms]
theorem qL{b:Bk}(ok:b.Ok)(n:Int):ce [b.d,.int n]=some (zN b n).d:=by
 have h1:=ok.some1
 have h0:(b.modes.length:Int)≠0:=by omega
 have m0:=Int.emod_nonneg (n / 2) h0
 have z:1000<=sizeLine:=by decide
 unfold zN
 by_cases h:n%2=0
 ·rw[if_pos h]
  exact l4 (vd ((y4 (tK (i8 rfl rfl (modS (by decide))) rfl (by show some (n%2==0)=some true;rw[h];rfl))).trans (retS rfl)))
 ·rw[if_neg h]
  have hlen:vf [.tup (b.modes.map Md.d)]=some (.int (b.modes.length:Int)):=by show some (D.int ((b.modes.map Md.d).length:Int))=_;rw[List.length_map]
  have hms:b.modes.map Md.d=(b.modes.map Md.d).head!::b.modes.tail.map Md.d:=by
   cases hb:b.modes with
   | nil=>rw[hb] at h1;exact absurd h1 (by decide)
   | cons m ms=>rfl
  have hsl:Kk (.tup (b.modes.map Md.d)) (some 1) none=some (.tup (b.modes.tail.map Md.d)):=by rw[hms,Ht]
  have e8:=ok.some8
  have htl:b.modes.tail.length<=8:=by rw[List.length_tail];omega
  have had:∀x:D,p4 (.tup [x]) (.tup (b.modes.tail.map Md.d))=some (.tup (x::b.modes.tail.map Md.d)):=fun x=>by
   show(if [x].length+(b.modes.tail.map Md.d).length<=sizeLine then _ else none)=_
   rw[if_pos (by rw[List.length_map];show 1+_<=_;omega)];rfl
  have hg:((n / 2%(b.modes.length:Int)).toNat:Int)=n / 2%(b.modes.length:Int):=Int.toNat_of_nonneg m0
  generalize hgg:n / 2%(b.modes.length:Int)=g at *
  have s1:m6 (g9 sW (g9 uC (c6 1) (kI 2)) (c8 vf (c4 (g9 i9 (c6 0) (kI 2)) c7))) (setAt 2) [some b.d,some (.int n),none,none]=some (.nx [some b.d,some (.int n),some (.int g),none]):=by
   rw[<- hgg]
   exact n4 (i8 (i8 rfl rfl rfl) (i3 (m8 (i8 rfl rfl rfl) rfl) hlen) (modS (by omega))) rfl
  refine l4 ((k7 (yI (tK (i8 rfl rfl (modS (by decide))) rfl (by show some (n%2==0)=some false;rw[beq_eq_false_iff_ne.mpr h])))).trans ((k7 s1).trans ((k7 (n4 (d:=.tup [.tup [.str (oS "csecond"),.int 0],.tup [.str (oS "count"),.int g],.tup [.str (oS "aminute"),.int 0],.tup [.str (oS "alarm"),.int 0],.tup [.str (oS "full"),.int 0],.tup [.str (oS "none"),.int g]]) rfl rfl)).trans ?_)))
  refine(retS (tupS (m8 (i8 rfl rfl rfl) (m8 (i8 rfl rfl rfl) (m8 (i8 (x:=.tup [.tup [.str (oS "count"),.bl true,.tup [.tup [.str (oS "csecond"),.int 0],.tup [.str (oS "count"),.int g],.tup [.str (oS "aminute"),.int 0],.tup [.str (oS "alarm"),.int 0],.tup [.str (oS "full"),.int 0],.tup [.str (oS "none"),.int g]]]]) rfl (AI (i8 rfl rfl rfl) rfl rfl hsl) (had _)) rfl))))).trans ?_
  rw[<- hg];rfl
def j8(C:Nat):R->Option Out:=
 (l6 (vT (t4 C (oS "rung")) (c6 0)))
def cq(C:Nat):LD->OD:=via 1 1 (j8 C)
def lV(C:Nat):R->Option Out:=
 (l6 (c8 Dj (c4 (wC 0 C (oS "past") (GG 1 (Ea (vT (t4 C (oS "past")) (c6 0))) (setAt 0) y6 (g9 i9 (c6 0) (kI 0)))) c7)))
def bx(C:Nat):LD->OD:=via 1 1 (lV C)
def oU:R->Option Out:=
  (JG 1 c7
  (xB (B6 (EJ (k9 Kj (c6 0) (fun _=>some dY))))
  (xB (BX 1 (c8 CU (c4 (c6 0) c7)))
  (Fj (l6 (c8 Bj (c4 (kS "") (c4 (c6 1) c7))))))))
def cz:LD->OD:=via 1 2 oU
theorem KD{p:R->LD->Option (Out×LD)}{q:R->LD->Option Out}{ρ ρ2:R}{ds ds2:LD}(h:p ρ ds=some (.nx ρ2,ds2)):xB p q ρ ds=q ρ2 ds2:=by simp[xB,h]
def tx(i:Int):Str:=Str.ofString (toString i)
theorem AK{n:Int}(h0:0<=n)(h1:n<1000000000000000000):n.natAbs.log2<1920:=by
 have h2:n.natAbs<2 ^ 60:=by omega
 by_cases hz:n.natAbs=0
 ·rw[hz];decide
 ·have:=(Nat.log2_lt hz).mpr h2;omega
theorem Bq{n:Int}(h0:0<=n)(h1:n<1000000000000000000):(tx n).length<=1921:=PyProof.Rows.int_text_len_1921 (AK h0 h1)
theorem ID{n:Int}(h0:0<=n)(h1:n<1000000000000000000):CU [.int n]=some (.str (tx n)):=if_pos (AK h0 h1)
theorem KP{x:Str}(h:x.length<=100000):Bj [.str (oS ""),.lst [.str x]]=some (.str x):=by
 have z:100000<=sizeLine:=by decide
 have e:(oS "").length=0:=by decide +kernel
 show(BL (oS "") [x]).map D.str=_
 unfold BL
 rw[if_pos]
 ·rfl
 ·constructor
  ·show 0+x.length+(oS "").length<=sizeLine
   rw[e];omega
  ·show x.length<=sizeLine
   omega
theorem jZ{n:Int}(h0:0<=n)(h1:n<1000000000000000000):cz [.int n]=some (.str (tx n)):=by
 have hw:EJ (k9 Kj (c6 0) (fun _=>some dY)) [some (.int n)]=some (.nx [some (.int n)]):=by
  have:¬ (1000000000000000000:Int)<=n:=by omega
  simp[dY,this]
 have hs:=ID h0 h1
 have hj:=KP (x:=tx n) (Nat.le_trans (Bq h0 h1) (by decide))
 have z:0<sizeLine:=by decide
 have a1:B6 (EJ (k9 Kj (c6 0) (fun _=>some dY))) [some (.int n)] []=some (.nx [some (.int n)],[]):=by
  show(EJ _ _).map _=_
  rw[hw];rfl
 have a2:BX 1 (c8 CU (c4 (c6 0) c7)) [some (.int n)] []=some (.nx [some (.int n)],[.str (tx n)]):=by
  show((CU [.int n]).bind _)=_
  rw[hs]
  show(if 1=1/\0<sizeLine then _ else none)=_
  rw[if_pos ⟨rfl,z⟩];rfl
 show wD (xB (B6 (EJ (k9 Kj (c6 0) (fun _=>some dY)))) _ [some (.int n)] [])=_
 rw[KD a1,KD a2]
 show wD ((Bj [.str (oS ""),.lst [.str (tx n)]]).map .rt)=_
 rw[hj];rfl
def jG:R->Option Out:=
 (l6 (c8 Lp (c4 (c8 cz (c4 (c6 0) c7)) (c4 (kI 2) (c4 (kS "0") c7)))))
def aK:LD->OD:=via 1 1 jG
def GI(n:Int):Str:=IF (tx n) 2 48
theorem w8{n:Int}(h0:0<=n)(h1:n<1000000000000000000):(GI n).length<=1921:=by
 unfold GI IF
 have:=Bq h0 h1
 split
 ·exact this
 ·show(Array.replicate _ _++(tx n).cps++Array.replicate _ _).size<=_
  have e:(tx n).cps.size=(tx n).length:=rfl
  simp
  omega
theorem cD{n:Int}(h0:0<=n)(h1:n<1000000000000000000):aK [.int n]=some (.str (GI n)):=by
 have hf:Lp [.str (tx n),.int 2,.str (oS "0")]=some (.str (GI n)):=by
  have e:(oS "0").length=1:=by decide +kernel
  have e2:(oS "0").cps.getD 0 0=48:=by decide +kernel
  show(if (0:Int)<=2/\(2:Int)<=1000/\(oS "0").length=1 then some (D.str (IF (tx n) (2:Int).toNat ((oS "0").cps.getD 0 0))) else none)=_
  rw[if_pos ⟨by decide,by decide,e⟩,e2];rfl
 exact l4 (retS (i3 (m8 (i3 rfl (jZ h0 h1)) rfl) hf))
def lz:R->Option Out:=
 (l6 (g9 p4 (g9 p4 (c8 aK (c4 (c6 0) c7)) (kS ":")) (c8 aK (c4 (c6 1) c7))))
def bN:LD->OD:=via 2 2 lz
theorem A2{x y:Str}(h:x.length+y.length<=100000):p4 (.str x) (.str y)=some (.str (x++y)):=by
 have z:100000<=sizeLine:=by decide
 show(if x.length+y.length<=sizeLine then _ else none)=_
 rw[if_pos (by omega)]
theorem vv(x y:Str):(x++y).length=x.length+y.length:=by
 show(x.cps++y.cps).size=_
 simp;rfl
def colon:Str:=oS ":"
theorem uh:colon.length=1:=by decide +kernel
def yY(h m:Int):Str:=GI h++colon++GI m
theorem AM{h m:Int}(a0:0<=h)(a1:h<1000000000000000000)(b0:0<=m)(b1:m<1000000000000000000):(yY h m).length<=3843:=by
 unfold yY
 rw[vv,vv,uh]
 have:=w8 a0 a1
 have:=w8 b0 b1
 omega
theorem hX{h m:Int}(a0:0<=h)(a1:h<1000000000000000000)(b0:0<=m)(b1:m<1000000000000000000):bN [.int h,.int m]=some (.str (yY h m)):=by
 have l1:=w8 a0 a1
 have l2:=w8 b0 b1
 refine l4 (retS (i8 (i8 (i3 rfl (cD a0 a1)) rfl (A2 ?_)) (i3 rfl (cD b0 b1)) (A2 ?_)))
 ·rw[show(oS ":").length=1 from uh];omega
 ·rw[vv,show(oS ":").length=1 from uh];omega
def lj:R->Option Out:=
  (l9 (m6 (g9 i9 (c6 0) (fun _=>some aU)) (setAt 1))
  (l6 (g9 p4 (g9 p4 (c8 bN (c4 (g9 uC (c6 1) (kI 3600)) (c4 (g9 sW (g9 uC (c6 1) (kI 60)) (kI 60)) c7))) (kS ":")) (c8 aK (c4 (g9 sW (c6 1) (kI 60)) c7)))))
def cG:LD->OD:=via 1 2 lj
def Iv(s:WS):Str:=yY (s.clock / 3600) (s.clock / 60%60)++colon++GI (s.clock%60)
theorem lB{b:Bk}{s:WS}(w:s.Wk b):cG [s.d]=some (.str (Iv s)):=by
 have c0:=w.clock0
 have c1:=w.clock1
 have l1:=AM (h:=s.clock / 3600) (m:=s.clock / 60%60) (by omega) (by omega) (by omega) (by omega)
 have l2:=w8 (n:=s.clock%60) (by omega) (by omega)
 refine l4 ((k7 (n4 (i8 rfl rfl (w1 s)) rfl)).trans (retS (i8 (i8 (i3 (m8 (i8 rfl rfl rfl) (m8 (i8 (i8 rfl rfl rfl) rfl (modS (by decide))) rfl)) (hX (h:=s.clock / 3600) (m:=s.clock / 60%60) (by omega) (by omega) (by omega) (by omega))) rfl (A2 ?_)) (i3 (m8 (i8 rfl rfl (modS (by decide))) rfl) (cD (n:=s.clock%60) (by omega) (by omega))) (A2 ?_))))
 ·rw[show(oS ":").length=1 from uh];omega
 ·rw[vv,show(oS ":").length=1 from uh];omega
def kn:R->Option Out:=
  (l9 (m6 (g9 i9 (c6 0) (fun _=>some aZ)) (setAt 1))
  (l6 (g9 p4 (c8 bN (c4 (g9 i9 (c6 1) (kI 0)) (c4 (g9 i9 (c6 1) (kI 1)) c7))) (BH (v8 (g9 i9 (c6 1) (kI 2))) (kS " on") (kS "")))))
def b_:LD->OD:=via 1 2 kn
def Kz:Str:=oS " on"
theorem Hh:Kz.length=3:=by decide +kernel
theorem Cc:(oS "").length=0:=by decide +kernel
def FM(s:WS):Str:=yY s.ah s.am++(if s.aon then Kz else oS "")
theorem kg{b:Bk}{s:WS}(w:s.Wk b):b_ [s.d]=some (.str (FM s)):=by
 have a0:=w.ah0
 have a1:s.ah<1000000000000000000:=by have:=w.ah1;omega
 have b0:=w.am0
 have b1:s.am<1000000000000000000:=by have:=w.am1;omega
 have l:=AM a0 a1 b0 b1
 have hon:∀(o:Bool) (ρ:R),(v8 (g9 i9 (c6 1) (kI 2))) ρ=some o->(BH (v8 (g9 i9 (c6 1) (kI 2))) (kS " on") (kS "")) ρ=some (.str (if o then Kz else oS "")):=fun o ρ h=>by
  cases o
  ·exact E4 h rfl
  ·exact D5 h rfl
 refine l4 ((k7 (n4 (i8 rfl rfl (w2 s)) rfl)).trans (retS (i8 (i3 (m8 (i8 rfl rfl (LL s)) (m8 (i8 rfl rfl (KQ s)) rfl)) (hX a0 a1 b0 b1)) (hon s.aon _ (BG (i8 rfl rfl (Lc s)))) (A2 ?_))))
 cases s.aon
 ·show(yY s.ah s.am).length+(oS "").length<=_
  rw[Cc];omega
 ·show(yY s.ah s.am).length+Kz.length<=_
  rw[Hh];omega
def jp:R->Option Out:=
 (l6 (g9 p4 (g9 p4 (c8 cz (c4 (g9 uC (c6 0) (kI 60)) c7)) (kS ":")) (c8 aK (c4 (g9 sW (c6 0) (kI 60)) c7))))
def br:LD->OD:=via 1 1 jp
def Di(s:Int):Str:=tx (s / 60)++colon++GI (s%60)
theorem fP{s:Int}(a0:0<=s)(a1:s<1000000000000000000):br [.int s]=some (.str (Di s))/\(Di s).length<=3843:=by
 have c0:0<=s / 60:=by omega
 have c1:s / 60<1000000000000000000:=by omega
 have d0:0<=s%60:=by omega
 have d1:s%60<1000000000000000000:=by omega
 have l1:=Bq c0 c1
 have l2:=w8 d0 d1
 constructor
 ·refine l4 (retS (i8 (i8 (i3 (m8 (i8 rfl rfl rfl) rfl) (jZ c0 c1)) rfl (A2 ?_)) (i3 (m8 (i8 rfl rfl (modS (by decide))) rfl) (cD d0 d1)) (A2 ?_)))
  ·rw[show(oS ":").length=1 from uh];omega
  ·rw[vv,show(oS ":").length=1 from uh];omega
 ·unfold Di
  rw[vv,vv,uh];omega
def mD:R->Option Out:=
  (l9 (m6 (g9 i9 (c6 0) (fun _=>some bX)) (setAt 1))
  (l9 (m6 (c8 vf (c4 (g9 i9 (c6 1) (kI 2)) c7)) (setAt 2))
  (l6 (g9 p4 (c8 br (c4 (g9 i9 (c6 1) (kI 0)) c7)) (BH (k9 C2 (c6 2) (kI 0)) (g9 p4 (kS " +") (c8 CU (c4 (c6 2) c7))) (kS ""))))))
def cJ:LD->OD:=via 1 3 mD
def Gy:Str:=oS " +"
theorem AH:Gy.length=2:=by decide +kernel
def Co(n:Nat):Str:=if 0<n then Gy++tx n else oS ""
def Ih(s:WS):Str:=Di s.lm++Co s.lk.length
theorem ly{b:Bk}{s:WS}(w:s.Wk b)(hl:s.lm<1000000000000000000):cJ [s.d]=some (.str (Ih s)):=by
 have a0:=w.lm0
 obtain⟨e,l⟩:=fP a0 hl
 have hk:=w.lk
 have k0:(0:Int)<=(s.lk.length:Int):=by omega
 have k1:(s.lk.length:Int)<1000000000000000000:=by omega
 have l2:=Bq k0 k1
 have hlen:c8 vf (c4 (g9 i9 (c6 1) (kI 2)) c7) [some s.d,some s.lapsD,none]=some (.int (s.lk.length:Int)):=i3 (m8 (i8 rfl rfl (Lg s)) rfl) (by simp)
 have hm:(BH (k9 C2 (c6 2) (kI 0)) (g9 p4 (kS " +") (c8 CU (c4 (c6 2) c7))) (kS "")) [some s.d,some s.lapsD,some (.int (s.lk.length:Int))]=some (.str (Co s.lk.length)):=by
  unfold Co
  by_cases h:0<s.lk.length
  ·rw[if_pos h]
   exact D5 (tK rfl rfl (dT (by omega))) (i8 rfl (i3 rfl (ID k0 k1)) (A2 (by rw[show(oS " +").length=2 from AH];omega)))
  ·rw[if_neg h]
   exact E4 (tK rfl rfl (dF (by omega))) rfl
 refine l4 ((k7 (n4 (i8 rfl rfl (w3 s)) rfl)).trans ((k7 (n4 hlen rfl)).trans (retS (i8 (i3 (m8 (i8 rfl rfl (LK s)) rfl) e) hm (A2 ?_)))))
 unfold Co
 split
 ·rw[vv,AH];omega
 ·rw[Cc];omega
def ko:R->Option Out:=
 (l6 (c8 br (c4 (g9 i9 (g9 i9 (c6 0) (fun _=>some aL)) (kI 2)) c7)))
def cu:LD->OD:=via 1 1 ko
theorem j7{b:Bk}{s:WS}(w:s.Wk b):cu [s.d]=some (.str (Di s.cl)):=by
 have a0:=w.cl0
 have a1:s.cl<1000000000000000000:=by have:=w.cl1;omega
 exact l4 (retS (i3 (m8 (i8 (i8 rfl rfl (w4 s)) rfl (Mc s)) rfl) (fP a0 a1).1))
def ut:List (Str×(LD->OD)):=[(oS "time",cG),(oS "alarm",b_),(oS "laps",cJ),(oS "count",cu)]
def qQ:R->Option Out:=
  (l9 (m6 (g9 i9 (g9 i9 (g9 i9 (c6 0) (kI 2)) (g9 i9 (c6 1) (fun _=>some bR))) (kI 0)) (setAt 2))
  (Ki 3 ut (c6 2) (fun G_=>(l6 (n5 (c4 (c6 2) (c4 (c8 G_ (c4 (c6 1) c7)) (c4 (BD (k9 C2 (g9 i9 (c6 1) (fun _=>some d_)) (kI 0))) c7))))))))
def fK:LD->OD:=via 2 4 qQ
def DR(f:Face)(s:WS):Str:=match f with
 | .time=>Iv s
 | .alarm=>FM s
 | .laps=>Ih s
 | .count=>Di s.cl
theorem Be{b:Bk}{s:WS}(w:s.Wk b)(hl:s.lm<1000000000000000000)(f:Face):∃F,ut.lookup f.x=some F/\F [s.d]=some (.str (DR f s)):=by
 cases f
 ·exact⟨_,rfl,lB w⟩
 ·exact⟨_,rfl,kg w⟩
 ·exact⟨_,rfl,ly w hl⟩
 ·exact⟨_,rfl,j7 w⟩
theorem qS{b:Bk}{s:WS}(w:s.Wk b)(hl:s.lm<1000000000000000000):fK [b.d,s.d]=some (.tup [.str (b.modes.getD s.mode default).face.x,.str (DR (b.modes.getD s.mode default).face s),.bl (decide (0<s.ring))]):=by
 have hm:=kM b w.mode
 generalize b.modes.getD s.mode default=md at *
 obtain⟨F,h1,h2⟩:=Be w hl md.face
 have q1:m6 (g9 i9 (g9 i9 (g9 i9 (c6 0) (kI 2)) (g9 i9 (c6 1) (fun _=>some bR))) (kI 0)) (setAt 2) [some b.d,some s.d,none,none]=some (.nx [some b.d,some s.d,some (.str md.face.x),none]):=
  n4 (i8 (i8 (i8 rfl rfl (b2 b)) (i8 rfl rfl (w0 s)) hm) rfl (m0 md)) rfl
 refine l4 ((k7 q1).trans ?_)
 simp[-i9,Ki,h1,h2,d_,w5]
def jH(C:Nat):R->Option Out:=
 (l6 (c8 fK (c4 (vT (t4 C (oS "book")) (c6 0)) (c4 (vT (t4 C (oS "present")) (c6 0)) c7))))
def bS(C:Nat):LD->OD:=via 1 1 (jH C)
def vz(b:Bk)(s:WS):D:=.tup [.str (b.modes.getD s.mode default).face.x,.str (DR (b.modes.getD s.mode default).face s),.bl (decide (0<s.ring))]
def IU(b:Bk):WS->List Ev->LD
 | _,[]=>[]
 | s,e::es=>vz b (gone b s e)::IU b (gone b s e) es
def NH:Ev->Int
 | .ticks n=>n
 | _=>0
theorem D8(d:xo){s:WS}(h:0<=s.lm):(deed d s).lm<=s.lm:=by
 cases d<;>simp[deed,yq]<;>(repeat' split)<;>first | exact Int.le_refl _ | exact h
theorem zh(s:WS){n:Int}(h:0<=n):wA s n<=s.lm+n:=by unfold wA;split<;>omega
theorem En{b:Bk}{s:WS}(h:0<=s.lm):(turned b s).lm<=s.lm:=by
 unfold turned
 split
 ·exact Int.le_refl _
 ·exact D8 _ h
theorem Hw{b:Bk}{s:WS}(w:s.Wk b)(e:Ev)(he:e.Ok):(gone b s e).lm<=s.lm+NH e:=by
 have h:=w.lm0
 cases e with
 | down x=>show(pushed s x).lm<=s.lm+0;unfold pushed;split<;>simp
 | up x =>
  show(letGo b s x).lm<=s.lm+0
  rw[Int.add_zero]
  unfold letGo
  split
  ·split
   ·split
    ·exact D8 _ h
    ·exact Int.le_refl _
   ·exact Int.le_refl _
  ·exact Int.le_refl _
 | ticks n =>
  have hn:1<=n:=he
  show(ticked b s n).lm<=s.lm+n
  unfold ticked
  split
  ·exact zh s (by omega)
  ·rename_i t ht
   have tp:=yy ht
   split
   ·exact zh s (by omega)
   ·have a1:=zh (behind b s t) (n:=n - t) (by omega)
    have a2:(behind b s t).lm<=(counted b s t).lm:=En (w.cnt (n:=t) (by omega)).lm0
    have a3:(counted b s t).lm<=s.lm+t:=zh s (by omega)
    show wA (behind b s t) (n - t)<=_
    omega
theorem cQ{x y:Str}(h1:p5 (.str x)=true)(h2:p5 (.str y)=true):p5 (.str (x++y))=true:=by
 rw[p5] at *
 show(x.cps++y.cps).all _=true
 rw[Array.all_append,h1,h2];rfl
theorem A6(s:String):(Str.ofString s).cps.all (·<0x110000)=true:=by
 rw[PySem.Str.ofString_eq_toList]
 simp only[List.all_toArray,List.all_eq_true,List.mem_map]
 rintro x ⟨c,_,rfl⟩
 apply decide_eq_true
 show c.val.toNat<0x110000
 have v:c.val.toNat<0xd800\/(0xdfff<c.val.toNat/\c.val.toNat<0x110000):=c.valid
 omega
theorem nj(n:Int):p5 (.str (tx n))=true:=by
 rw[p5]
 exact A6 _
theorem ir(n:Int):p5 (.str (GI n))=true:=by
 have h:=nj n
 rw[p5] at *
 unfold GI IF
 split
 ·exact h
 ·show(Array.replicate _ 48++(tx n).cps++Array.replicate _ 48).all _=true
  have r:∀k,(Array.replicate k 48).all (fun x=>decide (x<0x110000))=true:=by
   intro k
   rw[Array.all_eq_true]
   intro i hi
   simp
  rw[Array.all_append,Array.all_append,h,r,r];rfl
theorem gL:p5 (.str colon)=true:=by rw[p5];decide +kernel
theorem nN:p5 (.str (oS ""))=true:=by rw[p5];decide +kernel
theorem sk:p5 (.str Kz)=true:=by rw[p5];decide +kernel
theorem pJ:p5 (.str Gy)=true:=by rw[p5];decide +kernel
theorem lA(h m:Int):p5 (.str (yY h m))=true:=cQ (cQ (ir _) gL) (ir _)
theorem og(s:Int):p5 (.str (Di s))=true:=cQ (cQ (nj _) gL) (ir _)
theorem oz(f:Face)(s:WS):p5 (.str (DR f s))=true:=by
 cases f with
 | time=>exact cQ (cQ (lA _ _) gL) (ir _)
 | alarm=>exact cQ (lA _ _) (by split;exact sk;exact nN)
 | laps=>exact cQ (og _) (by unfold Co;split;exact cQ pJ (nj _);exact nN)
 | count=>exact og _
theorem qD(f:Face):p5 (.str f.x)=true:=by rw[p5];cases f<;>decide +kernel
theorem j4(b:Bk)(s:WS):p5 (vz b s)=true:=by
 unfold vz
 rw[p5,t8,t8,t8,t8,qD,oz];rfl
def jK(C:Nat):R->Option Out:=
 (l6 (vT (t4 C (oS "present")) (c6 0)))
def bW(C:Nat):LD->OD:=via 1 1 (jK C)
def kJ(C:Nat):R->Option Out:=
 (l6 (n5 (c4 (C9 C (oS "state") (bW C) (c6 0) c7) (c4 (C9 C (oS "shown") (bS C) (c6 0) c7) (c4 (C9 C (oS "rang") (cq C) (c6 0) c7) (c4 (C9 C (oS "row") (bx C) (c6 0) c7) c7))))))
def aM(C:Nat):LD->OD:=via 1 1 (kJ C)
def oM:R->Option Out:=
 (l6 (BH (v8 (g9 i9 (c6 0) (kI 1))) (n5 (c4 (g9 p4 (g9 i9 (c6 0) (kI 0)) (c6 1)) (c4 (fun _=>some (.bl true)) (c4 (g9 i9 (c6 0) (kI 2)) c7)))) (c6 0)))
def dS:LD->OD:=via 2 2 oM
theorem oN(s:WS)(n:Int):dS [s.lapsD,.int n]=some (.tup [.int (wA s n),.bl s.lr,.tup (s.lk.map .int)]):=by
 have e:wA s n=if s.lr then s.lm+n else s.lm:=rfl
 rw[e]
 have t:v8 (g9 i9 (c6 0) (kI 1)) [some s.lapsD,some (.int n)]=some s.lr:=BG (i8 rfl rfl (MF s))
 cases hr:s.lr with
 | false =>
  rw[hr] at t
  have q:s.lapsD=.tup [.int s.lm,.bl false,.tup (s.lk.map .int)]:=by rw[<- hr];rfl
  exact(l4 (retS (E4 t rfl))).trans (congrArg some q)
 | true =>
  rw[hr] at t
  exact l4 (retS (D5 t (tupS (m8 (i8 (i8 rfl rfl (LK s)) rfl rfl) (m8 rfl (m8 (i8 rfl rfl (Lg s)) rfl))))))
def nH:R->Option Out:=
  (l9 (yo (De (v8 (g9 i9 (c6 0) (kI 3))))
  (l6 (c6 0))
  tH)
  (l9 (m6 (c8 Dn (c4 (kI 0) (c4 (g9 vm (g9 i9 (c6 0) (kI 2)) (c6 1)) c7))) (setAt 2))
  (l6 (n5 (c4 (g9 i9 (c6 0) (kI 0)) (c4 (g9 i9 (c6 0) (kI 1)) (c4 (c6 2) (c4 (BD (k9 C2 (c6 2) (kI 0))) c7))))))))
def dh:LD->OD:=via 2 3 nH
theorem nB(s:WS)(n:Int):dh [s.countD,.int n]=some (.tup [.int s.cm,.int s.cs,.int (vW s n),.bl (runsOn s n)]):=by
 have e1:vW s n=if s.cr then mx 0 (s.cl - n) else s.cl:=rfl
 have e2:runsOn s n=(s.cr&&decide (0<mx 0 (s.cl - n))):=rfl
 rw[e1,e2]
 have t:v8 (g9 i9 (c6 0) (kI 3)) [some s.countD,some (.int n),none]=some s.cr:=BG (i8 rfl rfl (Nh s))
 cases hr:s.cr with
 | false =>
  rw[hr] at t
  have q:s.countD=.tup [.int s.cm,.int s.cs,.int s.cl,.bl false]:=by rw[<- hr];rfl
  exact(l4 (vd ((y4 (GJ (b:=false) t)).trans (retS rfl)))).trans (congrArg some q)
 | true =>
  rw[hr] at t
  exact l4 ((k7 ((yI (GJ (b:=true) t)).trans rfl)).trans ((k7 (n4 (i3 (m8 rfl (m8 (i8 (i8 rfl rfl (Mc s)) rfl rfl) rfl)) (KA _ _)) rfl)).trans (retS (tupS (m8 (i8 rfl rfl (K4 s)) (m8 (i8 rfl rfl (LF s)) (m8 rfl (m8 (GM (tK rfl rfl rfl)) rfl))))))))
def kH:R->Option Out:=
  (l9 (m6 (g9 i9 (c6 0) (fun _=>some aZ)) (setAt 1))
  (l9 (yo (De (v8 (g9 i9 (c6 1) (kI 2))))
  (l6 (fun _=>some .non))
  tH)
  (l9 (m6 (g9 p4 (g9 wK (kI 3600) (g9 i9 (c6 1) (kI 0))) (g9 wK (kI 60) (g9 i9 (c6 1) (kI 1)))) (setAt 2))
  (l6 (g9 p4 (g9 sW (g9 vm (g9 vm (c6 2) (g9 i9 (c6 0) (fun _=>some aU))) (kI 1)) (fun _=>some eT)) (kI 1))))))
def aO:LD->OD:=via 1 3 kH
theorem gi(s:WS):aO [s.d]=some (tV (n8 s)):=by
 have e2:=Lc s
 unfold n8
 cases ha:s.aon<;>rw[ha] at e2
 ·exact l4 ((k7 (n4 (i8 rfl rfl (w2 s)) rfl)).trans (vd ((y4 (GJ (b:=false) (BG (i8 rfl rfl e2)))).trans (retS rfl))))
 ·exact l4 ((k7 (n4 (i8 rfl rfl (w2 s)) rfl)).trans ((k7 (yI (GJ (b:=true) (BG (i8 rfl rfl e2))))).trans ((k7 (n4 (i8 (i8 rfl (i8 rfl rfl (LL s)) (GP _)) (i8 rfl (i8 rfl rfl (KQ s)) (Iz _)) rfl) rfl)).trans (retS (i8 (i8 (i8 (i8 rfl (i8 rfl rfl (w1 s)) rfl) rfl rfl) rfl (modS (by decide))) rfl rfl)))))
def j6:R->Option Out:=
  (l9 (m6 (g9 i9 (c6 0) (fun _=>some aL)) (setAt 1))
  (l6 (BH (v8 (g9 i9 (c6 1) (kI 3))) (g9 i9 (c6 1) (kI 2)) (fun _=>some .non))))
def aY:LD->OD:=via 1 2 j6
theorem gf(s:WS):aY [s.d]=some (tV (ti s)):=by
 have e3:=Nh s
 unfold ti
 cases ha:s.cr<;>rw[ha] at e3
 ·exact l4 ((k7 (n4 (i8 rfl rfl (w4 s)) rfl)).trans (retS (E4 (BG (i8 rfl rfl e3)) rfl)))
 ·exact l4 ((k7 (n4 (i8 rfl rfl (w4 s)) rfl)).trans (retS (D5 (BG (i8 rfl rfl e3)) (i8 rfl rfl (Mc s)))))
def lU:R->Option Out:=
  (l9 (m6 (c8 aO (c4 (c6 0) c7)) (setAt 2))
  (l9 (m6 (c8 aY (c4 (c6 0) c7)) (setAt 3))
  (JG 4 c7
  (xB (HZ (BR (k9 wm (c6 2) (fun _=>some .non)) (k9 Kv (c6 2) (c6 1)))
  (BX 4 (g9 vm (c6 1) (g9 sW (g9 vm (c6 1) (c6 2)) (fun _=>some eT))))
  An)
  (xB (HZ (BR (k9 wm (c6 3) (fun _=>some .non)) (k9 Kv (c6 3) (c6 1)))
  (BX 4 (c6 3))
  An)
  (Fj (l6 (c8 Ci (c4 (c6 4) c7)))))))))
def cK:LD->OD:=via 2 5 lU
def D4(n:Int)(o:Option Int):LD:=match o with
 | some a=>if a<=n then [.int (n - (n - a)%86400)] else []
 | none=>[]
def Ie(n:Int)(o:Option Int):LD:=match o with
 | some c=>if c<=n then [.int c] else []
 | none=>[]
theorem IO(s:WS)(n:Int):Ci [.lst (D4 n (n8 s)++Ie n (ti s))]=some (tV (vO s n)):=by
 unfold vO
 cases n8 s<;>cases ti s
 ·rfl
 ·rename_i c;by_cases h:c<=n<;>simp[D4,Ie,h,tV]
 ·rename_i a;by_cases h:a<=n<;>simp[D4,Ie,h,tV]
 ·rename_i a c;by_cases h:a<=n<;>by_cases h':c<=n<;>simp[D4,Ie,h,h',tV,mx]
theorem NC{p:R->LD->Option (Out×LD)}{q:R->LD->Option Out}{ρ ρ2:R}{ds ds2:LD}(h:p ρ ds=some (.nx ρ2,ds2)):xB p q ρ ds=q ρ2 ds2:=by simp[h]
theorem KW{c:R->Option Bool}{p q:R->LD->Option (Out×LD)}{ρ:R}{ds:LD}(h:c ρ=some true):HZ c p q ρ ds=p ρ ds:=by simp[h]
theorem KG{c:R->Option Bool}{p q:R->LD->Option (Out×LD)}{ρ:R}{ds:LD}(h:c ρ=some false):HZ c p q ρ ds=q ρ ds:=by simp[h]
theorem lx(s:WS)(n:Int):cK [s.d,.int n]=some (tV (vO s n)):=by
 have e1:=gi s
 have e2:=gf s
 rw[<- IO]
 generalize n8 s=a at *
 generalize ti s=c at *
 have z0:0<sizeLine:=by decide
 have z1:1<sizeLine:=by decide
 have q1:m6 (c8 aO (c4 (c6 0) c7)) (setAt 2) [some s.d,some (.int n),none,none,none]=some (.nx [some s.d,some (.int n),some (tV a),none,none]):=by
  show(aO [s.d]).bind _=_
  rw[e1];rfl
 have q2:m6 (c8 aY (c4 (c6 0) c7)) (setAt 3) [some s.d,some (.int n),some (tV a),none,none]=some (.nx [some s.d,some (.int n),some (tV a),some (tV c),none]):=by
  show(aY [s.d]).bind _=_
  rw[e2];rfl
 have q3:HZ (BR (k9 wm (c6 2) (fun _=>some .non)) (k9 Kv (c6 2) (c6 1))) (BX 4 (g9 vm (c6 1) (g9 sW (g9 vm (c6 1) (c6 2)) (fun _=>some eT)))) An [some s.d,some (.int n),some (tV a),some (tV c)] []=some (.nx [some s.d,some (.int n),some (tV a),some (tV c)],D4 n a):=by
  cases a with
  | none=>rfl
  | some a =>
   show _=some (Out.nx _,if a<=n then _ else _)
   by_cases h:a<=n
   ·rw[KW (dT h),if_pos h]
    show(if 4=4/\0<sizeLine then _ else none)=_
    rw[if_pos ⟨rfl,z0⟩];rfl
   ·rw[KG (dF h),if_neg h];rfl
 have hl:(D4 n a).length<=1:=by
  unfold D4
  split
  ·split<;>simp
  ·simp
 have hl2:(D4 n a).length<sizeLine:=Nat.lt_of_le_of_lt hl z1
 have q4:HZ (BR (k9 wm (c6 3) (fun _=>some .non)) (k9 Kv (c6 3) (c6 1))) (BX 4 (c6 3)) An [some s.d,some (.int n),some (tV a),some (tV c)] (D4 n a)=some (.nx [some s.d,some (.int n),some (tV a),some (tV c)],D4 n a++Ie n c):=by
  cases c with
  | none=>show some _=_;rw[show Ie n none=[] from rfl,List.append_nil]
  | some c =>
   show _=some (Out.nx _,D4 n a++if c<=n then _ else _)
   by_cases h:c<=n
   ·rw[KW (dT h),if_pos h]
    show(if 4=4/\(D4 n a).length<sizeLine then _ else none)=_
    rw[if_pos ⟨rfl,hl2⟩];rfl
   ·rw[KG (dF h),if_neg h,List.append_nil];rfl
 show wD (l9 (m6 (c8 aO (c4 (c6 0) c7)) (setAt 2)) _ [some s.d,some (.int n),none,none,none])=_
 rw[k7 q1,k7 q2]
 show wD (xB (HZ (BR (k9 wm (c6 2) (fun _=>some .non)) (k9 Kv (c6 2) (c6 1))) (BX 4 (g9 vm (c6 1) (g9 sW (g9 vm (c6 1) (c6 2)) (fun _=>some eT)))) An) _ [some s.d,some (.int n),some (tV a),some (tV c)] [])=_
 rw[NC q3,NC q4]
 show wD ((Ci [.lst (D4 n a++Ie n c)]).map .rt)=_
 cases Ci [.lst (D4 n a++Ie n c)]<;>rfl
def ph:R->Option Out:=
  (l9 (m6 (c8 cK (c4 (c6 0) (c4 (c6 1) c7))) (setAt 2))
  (l9 (yo (k9 yG (c6 2) (fun _=>some .non))
  (l6 (c8 Dn (c4 (kI 0) (c4 (g9 vm (g9 i9 (c6 0) (fun _=>some d_)) (c6 1)) c7))))
  tH)
  (l6 (c8 Dn (c4 (kI 0) (c4 (g9 vm (fun _=>some fF) (g9 vm (c6 1) (c6 2))) c7))))))
def dQ:LD->OD:=via 2 3 ph
theorem o_(s:WS)(n:Int):dQ [s.d,.int n]=some (.int (zl s n)):=by
 have e:=lx s n
 unfold zl
 cases h:vO s n with
 | none =>
  rw[h] at e
  exact l4 ((k7 (n4 (i3 rfl e) rfl)).trans (vd ((y4 (tK rfl rfl rfl)).trans (retS (i3 (m8 rfl (m8 (i8 (i8 rfl rfl (w5 s)) rfl rfl) rfl)) (KA _ _))))))
 | some l =>
  rw[h] at e
  exact l4 ((k7 (n4 (i3 rfl e) rfl)).trans ((k7 ((yI (tK rfl rfl rfl)).trans rfl)).trans (retS (i3 (m8 rfl (m8 (i8 rfl (i8 rfl rfl rfl) rfl) rfl)) (KA _ _)))))
def oJ:R->Option Out:=
  (l9 (yo (BF (k9 yG (c6 0) (fun _=>some .non)) (k9 yG (g9 i9 (c6 0) (kI 1)) (fun _=>some .non)))
  (l6 (c6 0))
  tH)
  (l6 (n5 (c4 (g9 i9 (c6 0) (kI 0)) (c4 (g9 p4 (g9 i9 (c6 0) (kI 1)) (c6 1)) c7)))))
def dO:LD->OD:=via 2 2 oJ
theorem oK(h:Option (vN×Option Int))(n:Int):dO [wI h,.int n]=some (wI (A0 h n)):=by
 rcases h with _ | ⟨x,_ | k⟩
 ·exact l4 (vd ((y4 (MB (tK rfl rfl rfl))).trans (retS rfl)))
 ·exact l4 (vd ((y4 (Ku (tK rfl rfl rfl) (tK (i8 rfl rfl rfl) rfl rfl))).trans (retS rfl)))
 ·exact l4 ((k7 ((yI (Ku (tK rfl rfl rfl) (tK (i8 rfl rfl rfl) rfl rfl))).trans rfl)).trans (retS (tupS (m8 (i8 rfl rfl rfl) (m8 (i8 (i8 rfl rfl rfl) rfl rfl) rfl)))))
def ib:R->Option Out:=
 (l6 (c8 Dn (c4 (kI 1) (c4 (g9 vm (g9 i9 (c6 0) (kI 1)) (g9 i9 (c6 1) (fun _=>some dq))) c7))))
def aV:LD->OD:=via 2 2 ib
theorem eU(b:Bk)(s:WS):aV [b.d,s.d]=some (.int (v4 b s)):=l4 (retS (i3 (m8 rfl (m8 (i8 (i8 rfl rfl (b1 b)) (i8 rfl rfl (w7 s)) rfl) rfl)) (KA _ _)))
def oC:R->Option Out:=
  (l9 (yo (BF (k9 wm (g9 i9 (c6 1) (fun _=>some bh)) (fun _=>some .non)) (k9 w9 (g9 i9 (c6 0) (kI 1)) (kI 0)))
  (l6 (g9 i9 (c6 1) (fun _=>some dq)))
  tH)
  (l9 (m6 (c8 aV (c4 (c6 0) (c4 (c6 1) c7))) (setAt 3))
  (l6 (BH (k9 LQ (c6 2) (c6 3)) (g9 p4 (g9 i9 (c6 1) (fun _=>some dq)) (c6 2)) (g9 sW (g9 vm (c6 2) (c6 3)) (g9 i9 (c6 0) (kI 1)))))))
def dN:LD->OD:=via 3 4 oC
theorem pi{b:Bk}{s:WS}(n:Int)(hb:0<=b.back):dN [b.d,s.d,.int n]=some (.int (wG b s n)):=by
 have e:=eU b s
 have e6:=w6 s
 have e7:=w7 s
 unfold wG
 cases hh:s.held with
 | some v =>
  rw[hh] at e6
  rw[if_pos (.inl rfl)]
  exact l4 (vd ((y4 (MB (tK (i8 rfl rfl e6) rfl rfl))).trans (retS (i8 rfl rfl e7))))
 | none =>
  rw[hh] at e6
  by_cases h0:b.back=0
  ·rw[if_pos (.inr h0)]
   exact l4 (vd ((y4 (Ku (tK (i8 rfl rfl e6) rfl rfl) (tK (i8 rfl rfl (b1 b)) rfl (Oc h0)))).trans (retS (i8 rfl rfl e7))))
  ·have hp:0<b.back:=by omega
   have q1:yo (BF (k9 wm (g9 i9 (c6 1) (fun _=>some bh)) (fun _=>some .non)) (k9 w9 (g9 i9 (c6 0) (kI 1)) (kI 0))) (l6 (g9 i9 (c6 1) (fun _=>some dq))) tH [some b.d,some s.d,some (.int n),none]=some (.nx [some b.d,some s.d,some (.int n),none]):=
    yI (Ku (tK (i8 rfl rfl e6) rfl rfl) (tK (i8 rfl rfl (b1 b)) rfl (Ob h0)))
   rw[if_neg (by rintro(z | z);cases z;exact h0 z)]
   by_cases h1:n<v4 b s
   ·rw[if_pos h1]
    exact l4 ((k7 q1).trans ((k7 (n4 (i3 rfl e) rfl)).trans (retS (D5 (tK (x:=.int n) (y:=.int (v4 b s)) rfl rfl (dT h1)) (i8 (i8 rfl rfl e7) rfl rfl)))))
   ·rw[if_neg h1]
    exact l4 ((k7 q1).trans ((k7 (n4 (i3 rfl e) rfl)).trans (retS (E4 (tK (x:=.int n) (y:=.int (v4 b s)) rfl rfl (dF h1)) (i8 rfl (i8 rfl rfl (b1 b)) (modS hp))))))
def ox:R->Option Out:=
 (l6 (n5 (c4 (g9 i9 (c6 1) (fun _=>some bR)) (c4 (g9 sW (g9 p4 (g9 i9 (c6 1) (fun _=>some aU)) (c6 2)) (fun _=>some eT)) (c4 (g9 i9 (c6 1) (fun _=>some aZ)) (c4 (c8 dS (c4 (g9 i9 (c6 1) (fun _=>some bX)) (c4 (c6 2) c7))) (c4 (c8 dh (c4 (g9 i9 (c6 1) (fun _=>some aL)) (c4 (c6 2) c7))) (c4 (c8 dQ (c4 (c6 1) (c4 (c6 2) c7))) (c4 (c8 dO (c4 (g9 i9 (c6 1) (fun _=>some bh)) (c4 (c6 2) c7))) (c4 (c8 dN (c4 (c6 0) (c4 (c6 1) (c4 (c6 2) c7)))) c7))))))))))
def cC:LD->OD:=via 3 3 ox
theorem gD{b:Bk}{s:WS}(n:Int)(hb:0<=b.back):cC [b.d,s.d,.int n]=some (counted b s n).d:=
 l4 (retS (tupS (m8 (i8 rfl rfl (w0 s)) (m8 (i8 (i8 (i8 rfl rfl (w1 s)) rfl rfl) rfl rfl) (m8 (i8 rfl rfl (w2 s)) (m8 (i3 (m8 (i8 rfl rfl (w3 s)) rfl) (oN s n)) (m8 (i3 (m8 (i8 rfl rfl (w4 s)) rfl) (nB s n)) (m8 (i3 rfl (o_ s n)) (m8 (i3 (m8 (i8 rfl rfl (w6 s)) rfl) (oK s.held n)) (m8 (i3 rfl (pi n hb)) rfl))))))))))
def lT:R->Option Out:=
 (l6 (A1 (BD (k9 C2 (g9 i9 (c6 0) (kI 1)) (kI 0))) (A1 (BD (k9 L7 (g9 i9 (c6 1) (fun _=>some bR)) (kI 0))) (C1 (g9 i9 (g9 i9 (g9 i9 (c6 0) (kI 2)) (g9 i9 (c6 1) (fun _=>some bR))) (kI 1))))))
def cH:LD->OD:=via 2 2 lT
theorem lK{b:Bk}{s:WS}(w:s.Wk b):cH [b.d,s.d]=some (.bl (wB b s)):=by
 have hm:=kM b w.mode
 unfold wB
 have c1:BD (k9 C2 (g9 i9 (c6 0) (kI 1)) (kI 0)) [some b.d,some s.d]=some (.bl (decide (0<b.back))):=GM (tK (i8 rfl rfl (b1 b)) rfl rfl)
 have e2:L7 (.int (s.mode:Int)) (.int 0)=some (!decide (s.mode=0)):=by
  show some (!((s.mode:Int)==0))=_
  cases s.mode<;>rfl
 have c2:BD (k9 L7 (g9 i9 (c6 1) (fun _=>some bR)) (kI 0)) [some b.d,some s.d]=some (.bl (!decide (s.mode=0))):=GM (tK (i8 rfl rfl (w0 s)) rfl e2)
 generalize b.modes.getD s.mode default=md at *
 have c3:C1 (g9 i9 (g9 i9 (g9 i9 (c6 0) (kI 2)) (g9 i9 (c6 1) (fun _=>some bR))) (kI 1)) [some b.d,some s.d]=some (.bl !md.stays):=by
  show(g9 i9 _ _ _).bind _=_
  rw[i8 (i8 (i8 rfl rfl (b2 b)) (i8 rfl rfl (w0 s)) hm) rfl (m1 md)];rfl
 generalize decide (0<b.back)=p at *
 generalize (!decide (s.mode=0))=q at *
 cases p
 ·exact l4 (retS (Ef c1))
 ·cases q
  ·exact l4 (retS (Kq c1 (Ef c2)))
  ·exact l4 (retS (Kq c1 (Kq c2 c3)))
def ie:R->Option Out:=
 (l6 (c8 Dn (c4 (kI 1) (c4 (g9 vm (g9 i9 (c6 0) (kI 0)) (g9 i9 (g9 i9 (c6 1) (fun _=>some bh)) (kI 1))) c7))))
def bE:LD->OD:=via 2 2 ie
theorem ij{b:Bk}{s:WS}{x:vN}{k:Int}(h:s.held=some (x,some k)):bE [b.d,s.d]=some (.int (mx 1 (b.hold - k))):=by
 have e6:=w6 s
 rw[h] at e6
 exact l4 (retS (i3 (m8 rfl (m8 (i8 (i8 rfl rfl (b0 b)) (i8 (i8 rfl rfl e6) rfl (h1 x (some k))) rfl) rfl)) (KA _ _)))
def mF:R->Option Out:=
  (l9 (m6 (g9 i9 (c6 1) (fun _=>some bh)) (setAt 2))
  (l9 (yo (k9 yG (c6 2) (fun _=>some .non))
  (l6 (BH (v8 (c8 cH (c4 (c6 0) (c4 (c6 1) c7)))) (c8 aV (c4 (c6 0) (c4 (c6 1) c7))) (fun _=>some .non)))
  tH)
  (l6 (BH (k9 yG (g9 i9 (c6 2) (kI 1)) (fun _=>some .non)) (fun _=>some .non) (c8 bE (c4 (c6 0) (c4 (c6 1) c7)))))))
def bJ:LD->OD:=via 2 3 mF
theorem g_{b:Bk}{s:WS}(w:s.Wk b):bJ [b.d,s.d]=some (tV (sU b s)):=by
 have e1:=lK w
 have e2:=eU b s
 have e6:=w6 s
 unfold sU
 rcases hs:s.held with _ | ⟨x,_ | k⟩<;>rw[hs] at e6
 ·cases hg:wB b s<;>rw[hg] at e1
  ·exact l4 ((k7 (n4 (i8 rfl rfl e6) rfl)).trans (vd ((y4 rfl).trans (retS (E4 (BG (i3 rfl e1)) rfl)))))
  ·exact l4 ((k7 (n4 (i8 rfl rfl e6) rfl)).trans (vd ((y4 rfl).trans (retS (D5 (BG (i3 rfl e1)) (i3 rfl e2))))))
 ·exact l4 ((k7 (n4 (i8 rfl rfl e6) rfl)).trans ((k7 (yI rfl)).trans (retS (D5 rfl rfl))))
 ·have e3:=ij (b:=b) hs
  exact l4 ((k7 (n4 (i8 rfl rfl e6) rfl)).trans ((k7 (yI rfl)).trans (retS (E4 rfl (i3 rfl e3)))))
def sy:R->Option Out:=
 (l6 (g9 p4 (g9 p4 (D7 (c6 0) GH (aP (c6 1))) (n5 (c4 (c6 2) c7))) (D7 (c6 0) (aP (g9 p4 (c6 1) (kI 1))) GH)))
def aG:LD->OD:=via 3 3 sy
section
variable(a b c d e f g i x:D)
theorem wJ{xs ys:LD}(h:xs.length+ys.length<=8):p4 (.tup xs) (.tup ys)=some (.tup (xs++ys)):=by
 show(if xs.length+ys.length<=sizeLine then _ else none)=_
 rw[if_pos (Nat.le_trans h Oi)]
theorem Mv:aG [.tup [a,b,c,d,e,f,g,i],.int 0,x]=some (.tup [x,b,c,d,e,f,g,i]):=l4 (retS (i8 (i8 (AI rfl rfl rfl rfl) (tupS (m8 rfl rfl)) (wJ (show 1<=8 by decide))) (AI rfl rfl rfl rfl) (wJ (show 8<=8 by decide))))
theorem M2:aG [.tup [a,b,c,d,e,f,g,i],.int 1,x]=some (.tup [a,x,c,d,e,f,g,i]):=l4 (retS (i8 (i8 (AI rfl rfl rfl rfl) (tupS (m8 rfl rfl)) (wJ (show 2<=8 by decide))) (AI rfl rfl rfl rfl) (wJ (show 8<=8 by decide))))
theorem put2:aG [.tup [a,b,c,d,e,f,g,i],.int 2,x]=some (.tup [a,b,x,d,e,f,g,i]):=l4 (retS (i8 (i8 (AI rfl rfl rfl rfl) (tupS (m8 rfl rfl)) (wJ (show 3<=8 by decide))) (AI rfl rfl rfl rfl) (wJ (show 8<=8 by decide))))
theorem put3:aG [.tup [a,b,c,d,e,f,g,i],.int 3,x]=some (.tup [a,b,c,x,e,f,g,i]):=l4 (retS (i8 (i8 (AI rfl rfl rfl rfl) (tupS (m8 rfl rfl)) (wJ (show 4<=8 by decide))) (AI rfl rfl rfl rfl) (wJ (show 8<=8 by decide))))
theorem M6:aG [.tup [a,b,c,d,e,f,g,i],.int 4,x]=some (.tup [a,b,c,d,x,f,g,i]):=l4 (retS (i8 (i8 (AI rfl rfl rfl rfl) (tupS (m8 rfl rfl)) (wJ (show 5<=8 by decide))) (AI rfl rfl rfl rfl) (wJ (show 8<=8 by decide))))
theorem M0:aG [.tup [a,b,c,d,e,f,g,i],.int 5,x]=some (.tup [a,b,c,d,e,x,g,i]):=l4 (retS (i8 (i8 (AI rfl rfl rfl rfl) (tupS (m8 rfl rfl)) (wJ (show 6<=8 by decide))) (AI rfl rfl rfl rfl) (wJ (show 8<=8 by decide))))
theorem IZ:aG [.tup [a,b,c,d,e,f,g,i],.int 6,x]=some (.tup [a,b,c,d,e,f,x,i]):=l4 (retS (i8 (i8 (AI rfl rfl rfl rfl) (tupS (m8 rfl rfl)) (wJ (show 7<=8 by decide))) (AI rfl rfl rfl rfl) (wJ (show 8<=8 by decide))))
theorem M1:aG [.tup [a,b,c,d,e,f,g,i],.int 7,x]=some (.tup [a,b,c,d,e,f,g,x]):=l4 (retS (i8 (i8 (AI rfl rfl rfl rfl) (tupS (m8 rfl rfl)) (wJ (show 8<=8 by decide))) (AI rfl rfl rfl rfl) (wJ (show 8<=8 by decide))))
end
theorem NW(s:WS)(m:Nat):aG [s.d,.int 0,.int (m:Int)]=some {s with mode:=m}.d:=Mv ..
theorem Ni(s:WS)(c:Int):aG [s.d,.int 1,.int c]=some {s with clock:=c}.d:=M2 ..
theorem MN(s:WS)(h m:Int)(o:Bool):aG [s.d,.int 2,.tup [.int h,.int m,.bl o]]=some {s with ah:=h,am:=m,aon:=o}.d:=put2 ..
theorem Nc(s:WS)(m:Int)(r:Bool)(k:List Int):aG [s.d,.int 3,.tup [.int m,.bl r,.tup (k.map .int)]]=some {s with lm:=m,lr:=r,lk:=k}.d:=put3 ..
theorem NS(s:WS)(m c l:Int)(r:Bool):aG [s.d,.int 4,.tup [.int m,.int c,.int l,.bl r]]=some {s with cm:=m,cs:=c,cl:=l,cr:=r}.d:=M6 ..
theorem NA(s:WS)(r:Int):aG [s.d,.int 5,.int r]=some {s with ring:=r}.d:=M0 ..
theorem KU(s:WS):aG [s.d,.int 6,.non]=some {s with held:=none}.d:=IZ ..
theorem LC(s:WS)(x:vN)(k:Option Int):aG [s.d,.int 6,.tup [.str x.x,tV k]]=some {s with held:=some (x,k)}.d:=IZ ..
theorem Nz(s:WS)(x:vN):aG [s.d,.int 6,.tup [.str x.x,.non]]=some {s with held:=some (x,none)}.d:=IZ ..
theorem Mj(s:WS)(i:Int):aG [s.d,.int 7,.int i]=some {s with idle:=i}.d:=M1 ..
def jY:R->Option Out:=
 (l6 (c6 0))
def cU:LD->OD:=via 1 1 jY
theorem oV(s:WS):cU [s.d]=some (deed .none s).d:=by simp[cU,via,jY,deed]
def jW:R->Option Out:=
 (l6 (c8 aG (c4 (c6 0) (c4 (fun _=>some aU) (c4 (g9 sW (g9 p4 (g9 i9 (c6 0) (fun _=>some aU)) (kI 3600)) (kI 86400)) c7)))))
def cT:LD->OD:=via 1 1 jW
theorem pe(s:WS):cT [s.d]=some (deed .hour s).d:=by simp[-i9,cT,via,jW,aU,w1,Ni,deed]
def hU:R->Option Out:=
  (l9 (m6 (g9 i9 (c6 0) (fun _=>some aU)) (setAt 1))
  (l9 (m6 (g9 sW (g9 p4 (g9 sW (c6 1) (kI 3600)) (kI 60)) (kI 3600)) (setAt 2))
  (l6 (c8 aG (c4 (c6 0) (c4 (fun _=>some aU) (c4 (g9 p4 (g9 vm (c6 1) (g9 sW (c6 1) (kI 3600))) (c6 2)) c7)))))))
def bZ:LD->OD:=via 1 3 hU
theorem mz(s:WS):bZ [s.d]=some (deed .minute s).d:=by simp[-i9,bZ,via,hU,aU,w1,Ni,deed]
def jU:R->Option Out:=
 (l6 (c8 aG (c4 (c6 0) (c4 (fun _=>some aU) (c4 (g9 vm (g9 i9 (c6 0) (fun _=>some aU)) (g9 sW (g9 i9 (c6 0) (fun _=>some aU)) (kI 60))) c7)))))
def cS:LD->OD:=via 1 1 jU
theorem oF(s:WS):cS [s.d]=some (deed .zero s).d:=by simp[-i9,cS,via,jU,aU,w1,Ni,deed]
def eV:R->Option Out:=
  (l9 (m6 (g9 i9 (c6 0) (fun _=>some aZ)) (setAt 1))
  (l6 (c8 aG (c4 (c6 0) (c4 (fun _=>some aZ) (c4 (n5 (c4 (g9 sW (g9 p4 (g9 i9 (c6 1) (kI 0)) (kI 1)) (kI 24)) (c4 (g9 i9 (c6 1) (kI 1)) (c4 (g9 i9 (c6 1) (kI 2)) c7)))) c7))))))
def bi:LD->OD:=via 1 2 eV
theorem ii(s:WS):bi [s.d]=some (deed .ahour s).d:=by simp[-i9,bi,via,eV,aZ,w2,LL,KQ,Lc,MN,deed]
def dv:R->Option Out:=
  (l9 (m6 (g9 i9 (c6 0) (fun _=>some aZ)) (setAt 1))
  (l6 (c8 aG (c4 (c6 0) (c4 (fun _=>some aZ) (c4 (n5 (c4 (g9 i9 (c6 1) (kI 0)) (c4 (g9 sW (g9 p4 (g9 i9 (c6 1) (kI 1)) (kI 1)) (kI 60)) (c4 (g9 i9 (c6 1) (kI 2)) c7)))) c7))))))
def aT:LD->OD:=via 1 2 dv
theorem gm(s:WS):aT [s.d]=some (deed .aminute s).d:=by simp[-i9,aT,via,dv,aZ,w2,LL,KQ,Lc,MN,deed]
def fw:R->Option Out:=
  (l9 (m6 (g9 i9 (c6 0) (fun _=>some aZ)) (setAt 1))
  (l6 (c8 aG (c4 (c6 0) (c4 (fun _=>some aZ) (c4 (n5 (c4 (g9 i9 (c6 1) (kI 0)) (c4 (g9 i9 (c6 1) (kI 1)) (c4 (C1 (g9 i9 (c6 1) (kI 2))) c7)))) c7))))))
def bv:LD->OD:=via 1 2 fw
theorem iZ(s:WS):bv [s.d]=some (deed .alarm s).d:=by simp[-i9,bv,via,fw,aZ,w2,LL,KQ,Lc,MN,deed]
def fN:R->Option Out:=
  (l9 (m6 (g9 i9 (c6 0) (fun _=>some bX)) (setAt 1))
  (l6 (c8 aG (c4 (c6 0) (c4 (fun _=>some bX) (c4 (n5 (c4 (g9 i9 (c6 1) (kI 0)) (c4 (C1 (g9 i9 (c6 1) (kI 1))) (c4 (g9 i9 (c6 1) (kI 2)) c7)))) c7))))))
def bG:LD->OD:=via 1 2 fN
theorem jt(s:WS):bG [s.d]=some (deed .run s).d:=by simp[-i9,bG,via,fN,bX,w3,LK,MF,Lg,Nc,deed]
def mL:R->Option Out:=
  (l9 (m6 (g9 i9 (c6 0) (fun _=>some bX)) (setAt 1))
  (l9 (yo (De (v8 (g9 i9 (c6 1) (kI 1))))
  (l6 (c8 aG (c4 (c6 0) (c4 (fun _=>some bX) (c4 (n5 (c4 (kI 0) (c4 (fun _=>some (.bl false)) (c4 (n5 c7) c7)))) c7)))))
  tH)
  (l9 (yo (k9 Kj (c8 vf (c4 (g9 i9 (c6 1) (kI 2)) c7)) (fun _=>some fG))
  (l6 (c6 0))
  tH)
  (l6 (c8 aG (c4 (c6 0) (c4 (fun _=>some bX) (c4 (n5 (c4 (g9 i9 (c6 1) (kI 0)) (c4 (fun _=>some (.bl true)) (c4 (g9 p4 (g9 i9 (c6 1) (kI 2)) (n5 (c4 (g9 i9 (c6 1) (kI 0)) c7))) c7)))) c7))))))))
def di:LD->OD:=via 1 2 mL
theorem nD(s:WS)(h:s.lk.length<=4):di [s.d]=some (deed .lap s).d:=by
 have t:v8 (g9 i9 (c6 1) (kI 1)) [some s.d,some s.lapsD]=some s.lr:=BG (i8 rfl rfl (MF s))
 have hl:vf [.tup (s.lk.map .int)]=some (.int s.lk.length):=by show some (D.int ((s.lk.map D.int).length:Int))=_;rw[List.length_map]
 have hlen:c8 vf (c4 (g9 i9 (c6 1) (kI 2)) c7) [some s.d,some s.lapsD]=some (.int s.lk.length):=i3 (m8 (i8 rfl rfl (Lg s)) rfl) hl
 have a1:m6 (g9 i9 (c6 0) (fun _=>some bX)) (setAt 1) [some s.d,none]=some (.nx [some s.d,some s.lapsD]):=n4 (i8 rfl rfl (w3 s)) rfl
 cases hr:s.lr with
 | false =>
  have e:deed .lap s={s with lm:=0,lr:=false,lk:=[]}:=by
   show(if s.lr then _ else {s with lm:=0,lk:=[]})=_
   rw[if_neg (by rw[hr];decide),<- hr]
  rw[hr] at t
  rw[e]
  exact l4 ((k7 a1).trans (vd ((y4 (GJ (b:=false) t)).trans (retS (i3 (m8 rfl (m8 rfl (m8 (tupS (m8 rfl (m8 rfl (m8 (tupS rfl) rfl)))) rfl))) (Nc s 0 false []))))))
 | true =>
  rw[hr] at t
  have n1:yo (De (v8 (g9 i9 (c6 1) (kI 1)))) (l6 (c8 aG (c4 (c6 0) (c4 (fun _=>some bX) (c4 (n5 (c4 (kI 0) (c4 (fun _=>some (.bl false)) (c4 (n5 c7) c7)))) c7))))) tH [some s.d,some s.lapsD]=some (.nx [some s.d,some s.lapsD]):=(yI (GJ (b:=true) t)).trans rfl
  by_cases h4:4<=s.lk.length
  ·have e:deed .lap s=s:=by
    show(if s.lr then (if 4<=s.lk.length then s else _) else _)=_
    rw[if_pos hr,if_pos h4]
   rw[e]
   exact l4 ((k7 a1).trans ((k7 n1).trans (vd ((y4 (tK hlen rfl (dT (Int.ofNat_le.mpr h4)))).trans (retS rfl)))))
  ·have e:deed .lap s={s with lm:=s.lm,lr:=true,lk:=s.lk++[s.lm]}:=by
    show(if s.lr then (if 4<=s.lk.length then s else {s with lk:=s.lk++[s.lm]}) else _)=_
    rw[if_pos hr,if_neg h4,<- hr]
   have ha:p4 (.tup (s.lk.map .int)) (.tup [.int s.lm])=some (.tup ((s.lk++[s.lm]).map .int)):=by
    rw[List.map_append]
    exact wJ (by rw[List.length_map];show s.lk.length+1<=8;omega)
   rw[e]
   exact l4 ((k7 a1).trans ((k7 n1).trans ((k7 ((yI (tK hlen rfl (dF fun q=>h4 (Int.ofNat_le.mp q)))).trans rfl)).trans (retS (i3 (m8 rfl (m8 rfl (m8 (tupS (m8 (i8 rfl rfl (LK s)) (m8 rfl (m8 (i8 (i8 rfl rfl (Lg s)) (tupS (m8 (i8 rfl rfl (LK s)) rfl)) ha) rfl)))) rfl))) (Nc s s.lm true (s.lk++[s.lm])))))))
def lR:R->Option Out:=
  (l9 (yo (v8 (g9 i9 (g9 i9 (c6 0) (fun _=>some aL)) (kI 3)))
  (l6 (c6 0))
  tH)
  (l6 (c8 aG (c4 (c6 0) (c4 (fun _=>some aL) (c4 (n5 (c4 (c6 1) (c4 (c6 2) (c4 (g9 p4 (g9 wK (kI 60) (c6 1)) (c6 2)) (c4 (fun _=>some (.bl false)) c7))))) c7))))))
def bV:LD->OD:=via 3 3 lR
theorem iL(s:WS)(m c:Int):bV [s.d,.int m,.int c]=some (yq s m c).d:=by
 cases hr:s.cr<;>simp[-i9,-wK,bV,via,lR,aL,w4,Nh,hr,yq,Iz,NS]
def dz:R->Option Out:=
  (l9 (m6 (g9 i9 (c6 0) (fun _=>some aL)) (setAt 1))
  (l6 (c8 bV (c4 (c6 0) (c4 (g9 sW (g9 p4 (g9 i9 (c6 1) (kI 0)) (kI 1)) (kI 60)) (c4 (g9 i9 (c6 1) (kI 1)) c7))))))
def aR:LD->OD:=via 1 2 dz
theorem gr(s:WS):aR [s.d]=some (deed .cminute s).d:=by simp[-i9,aR,via,dz,aL,w4,K4,LF,iL,deed]
def dw:R->Option Out:=
  (l9 (m6 (g9 i9 (c6 0) (fun _=>some aL)) (setAt 1))
  (l6 (c8 bV (c4 (c6 0) (c4 (g9 i9 (c6 1) (kI 0)) (c4 (g9 sW (g9 p4 (g9 i9 (c6 1) (kI 1)) (kI 1)) (kI 60)) c7))))))
def aS:LD->OD:=via 1 2 dw
theorem gx(s:WS):aS [s.d]=some (deed .csecond s).d:=by simp[-i9,aS,via,dw,aL,w4,K4,LF,iL,deed]
def lu:R->Option Out:=
  (l9 (m6 (g9 i9 (c6 0) (fun _=>some aL)) (setAt 1))
  (l6 (c8 bV (c4 (c6 0) (c4 (g9 i9 (c6 1) (kI 0)) (c4 (g9 i9 (c6 1) (kI 1)) c7))))))
def dR:LD->OD:=via 1 2 lu
theorem pP(s:WS):dR [s.d]=some (deed .full s).d:=by simp[-i9,dR,via,lu,aL,w4,K4,LF,iL,deed]
def jl:R->Option Out:=
  (l9 (m6 (g9 i9 (c6 0) (fun _=>some aL)) (setAt 1))
  (l9 (m6 (A1 (C1 (g9 i9 (c6 1) (kI 3))) (BD (k9 C2 (g9 i9 (c6 1) (kI 2)) (kI 0)))) (setAt 2))
  (l6 (c8 aG (c4 (c6 0) (c4 (fun _=>some aL) (c4 (n5 (c4 (g9 i9 (c6 1) (kI 0)) (c4 (g9 i9 (c6 1) (kI 1)) (c4 (g9 i9 (c6 1) (kI 2)) (c4 (c6 2) c7))))) c7)))))))
def bM:LD->OD:=via 1 3 jl
theorem iE(s:WS):bM [s.d]=some (deed .count s).d:=by
 have q:∀r:Bool,A1 (C1 (g9 i9 (c6 1) (kI 3))) (BD (k9 C2 (g9 i9 (c6 1) (kI 2)) (kI 0))) [some s.d,some (.tup [.int s.cm,.int s.cs,.int s.cl,.bl r]),none]=some (.bl (!r&&decide (0<s.cl))):=by
  intro r
  cases r
  ·exact Kq rfl (GM (tK (i8 rfl rfl rfl) rfl rfl))
  ·exact Ef rfl
 exact l4 ((k7 (n4 (i8 rfl rfl (w4 s)) rfl)).trans ((k7 (n4 (q s.cr) rfl)).trans (retS (i3 (m8 rfl (m8 rfl (m8 (tupS (m8 (i8 rfl rfl (K4 s)) (m8 (i8 rfl rfl (LF s)) (m8 (i8 rfl rfl (Mc s)) rfl)))) rfl))) (NS s s.cm s.cs s.cl _)))))
def w_:List (Str×(LD->OD)):=[(oS "none",cU),(oS "hour",cT),(oS "minute",bZ),(oS "zero",cS),(oS "ahour",bi),(oS "aminute",aT),(oS "alarm",bv),(oS "run",bG),(oS "lap",di),(oS "cminute",aR),(oS "csecond",aS),(oS "full",dR),(oS "count",bM)]
def kO:R->Option Out:=
  (l9 (m6 (g9 i9 (g9 i9 (g9 i9 (c6 0) (kI 2)) (g9 i9 (c6 1) (fun _=>some bR))) (kI 2)) (setAt 3))
  (l9 (m6 (g9 i9 (c6 3) (vT (Fm cV) (c6 2))) (setAt 4))
  (Ki 5 w_ (g9 i9 (c6 4) (kI 0)) (fun G_=>(l6 (c8 aG (c4 (c8 G_ (c4 (c6 1) c7)) (c4 (fun _=>some bR) (c4 (g9 i9 (c6 4) (kI 1)) c7)))))))))
def bA:LD->OD:=via 3 6 kO
theorem qX(d:xo)(s:WS)(h:s.lk.length<=4):∃F,w_.lookup d.x=some F/\F [s.d]=some (deed d s).d:=by
 cases d
 ·exact⟨_,rfl,oV s⟩
 ·exact⟨_,rfl,pe s⟩
 ·exact⟨_,rfl,mz s⟩
 ·exact⟨_,rfl,oF s⟩
 ·exact⟨_,rfl,ii s⟩
 ·exact⟨_,rfl,gm s⟩
 ·exact⟨_,rfl,iZ s⟩
 ·exact⟨_,rfl,jt s⟩
 ·exact⟨_,rfl,nD s h⟩
 ·exact⟨_,rfl,gr s⟩
 ·exact⟨_,rfl,gx s⟩
 ·exact⟨_,rfl,pP s⟩
 ·exact⟨_,rfl,iE s⟩
theorem LN(x:vN):Fm cV (.str x.x)=some (.int (x.ix:Int)):=by cases x<;>rfl
theorem Lo(x:vN):Fm cV (.str x.X)=some (.int ((x.ix+3:Nat):Int)):=by cases x<;>rfl
theorem Ox{i:Nat}{tab:List (Str×(LD->OD))}{f:R->OD}{g:(LD->OD)->R->Option Out}{ρ:R}{z:Str}{F:LD->OD}{o:Option Out}(h1:f ρ=some (.str z))(h2:tab.lookup z=some F)(hi:i<ρ.length)(h3:g F (ρ.set i none)=o):Ki i tab f g ρ=o:=by
 unfold Ki
 rw[h1]
 show(tab.lookup z).bind _=_
 rw[h2]
 show(if i<ρ.length then g F (ρ.set i none) else none)=_
 rw[if_pos hi,h3]
theorem gB{b:Bk}{s:WS}(ok:b.Ok)(w:s.Wk b){p:Str}{i:Nat}(hi:i<6)(hp:Fm cV (.str p)=some (.int (i:Int))):bA [b.d,s.d,.str p]=some (press b s i).d:=by
 have hm:=kM b w.mode
 have h6:=(ok.all _ (qy b w.mode)).six
 have hr:=sr (b.modes.getD s.mode default) (i:=i) (by rw[h6];exact hi)
 obtain⟨F,hF,hs⟩:=qX (b.row s.mode i).1 s w.lk
 unfold Bk.row at hF hs
 unfold press Bk.row
 generalize (b.modes.getD s.mode default)=md at *
 generalize (md.rows.getD i (xo.none,0))=rw_ at *
 exact l4 ((k7 (n4 (i8 (i8 (i8 rfl rfl (b2 b)) (i8 rfl rfl (w0 s)) hm) rfl (m2 md)) rfl)).trans ((k7 (n4 (i8 rfl (BE rfl hp) hr) rfl)).trans
  (Ox (i8 rfl rfl (r0 rw_)) hF (by simp) (retS (i3 (m8 (i3 rfl hs) (m8 rfl (m8 (i8 rfl rfl (r1 rw_)) rfl))) (NW _ _))))))
def pC:R->Option Out:=
  (l9 (m6 (g9 i9 (c6 1) (fun _=>some bh)) (setAt 2))
  (l9 (yo (k9 yG (c6 2) (fun _=>some .non))
  (l6 (c8 aG (c4 (c6 1) (c4 (fun _=>some bR) (c4 (kI 0) c7)))))
  tH)
  (l6 (c8 bA (c4 (c6 0) (c4 (c8 aG (c4 (c6 1) (c4 (fun _=>some bh) (c4 (n5 (c4 (g9 i9 (c6 2) (kI 0)) (c4 (fun _=>some .non) c7))) c7)))) (c4 (vT Nf (g9 i9 (c6 2) (kI 0))) c7)))))))
def fm:LD->OD:=via 2 3 pC
theorem MH(x:vN):Nf (.str x.x)=some (.str x.X):=by cases x<;>rfl
theorem Cr{b:Bk}{s:WS}(h:s.held=none):turned b s={s with mode:=0}:=by
 unfold turned
 split
 ·rfl
 ·rename_i e;rw[h] at e;cases e
theorem Cg{b:Bk}{s:WS}{x:vN}{k:Option Int}(h:s.held=some (x,k)):turned b s=press b {s with held:=some (x,none)} (x.ix+3):=by
 unfold turned
 split
 ·rename_i e;rw[h] at e;cases e
 ·rename_i e;rw[h] at e;cases e;rfl
theorem qt{b:Bk}{s:WS}(ok:b.Ok)(w:s.Wk b):fm [b.d,s.d]=some (turned b s).d:=by
 have e6:=w6 s
 rcases hs:s.held with _ | ⟨x,k⟩<;>rw[hs] at e6
 ·rw[Cr hs]
  exact l4 ((k7 (n4 (i8 rfl rfl e6) rfl)).trans (vd ((y4 rfl).trans (retS (i3 rfl (NW s 0))))))
 ·have e:=gB (s:={s with held:=some (x,none)}) ok {w with} x.ix3 (Lo x)
  rw[Cg hs]
  exact l4 ((k7 (n4 (i8 rfl rfl e6) rfl)).trans ((k7 (yI rfl)).trans (retS (i3 (m8 rfl (m8 (i3 (m8 rfl (m8 rfl (m8 (tupS (m8 (i8 rfl rfl (h0 x k)) rfl)) rfl))) (Nz s x)) (m8 (BE (i8 rfl rfl (h0 x k)) (MH x)) rfl))) e))))
def fO:R->Option Out:=
 (l6 (c8 fm (c4 (c6 0) (c4 (c8 cC (c4 (c6 0) (c4 (c6 1) (c4 (c8 bJ (c4 (c6 0) (c4 (c6 1) c7))) c7)))) c7))))
def bF:LD->OD:=via 2 2 fO
theorem qp{b:Bk}{s:WS}{t:Int}(ok:b.Ok)(w:s.Wk b)(h:sU b s=some t):bF [b.d,s.d]=some (behind b s t).d:=by
 have e1:=g_ w
 rw[h] at e1
 have ht:=yy h
 have e2:=gD (s:=s) t ok.back0
 have e3:=qt ok (w.cnt (n:=t) (by omega))
 simp only[tV] at e1
 simp[bF,via,fO,e1,e2,e3,behind]
def mB:R->Option Out:=
  (l9 (m6 (c8 bJ (c4 (c6 0) (c4 (c6 1) c7))) (setAt 3))
  (l9 (yo (BF (k9 yG (c6 3) (fun _=>some .non)) (k9 C2 (c6 3) (c6 2)))
  (l6 (FP (c4 (n5 (c4 (kI 0) (c4 (c6 1) (c4 (c6 2) c7)))) c7)))
  tH)
  (l6 (FP (c4 (n5 (c4 (kI 0) (c4 (c6 1) (c4 (c6 3) c7)))) (c4 (n5 (c4 (c6 3) (c4 (c8 bF (c4 (c6 0) (c4 (c6 1) c7))) (c4 (g9 vm (c6 2) (c6 3)) c7)))) c7))))))
def bf:LD->OD:=via 3 4 mB
def ue(b:Bk)(s:WS)(n:Int):LD:=match sU b s with
 | none=>[.tup [.int 0,s.d,.int n]]
 | some t=>if n<t then [.tup [.int 0,s.d,.int n]] else [.tup [.int 0,s.d,.int t],.tup [.int t,(behind b s t).d,.int (n - t)]]
theorem hV{b:Bk}{s:WS}(n:Int)(ok:b.Ok)(w:s.Wk b):bf [b.d,s.d,.int n]=some (.lst (ue b s n)):=by
 have e1:=g_ w
 unfold ue
 cases h:sU b s with
 | none =>
  rw[h] at e1
  exact l4 ((k7 (n4 (i3 rfl e1) rfl)).trans (vd ((y4 (MB rfl)).trans (retS rfl))))
 | some t =>
  have e2:=qp ok w h
  rw[h] at e1
  dsimp only
  by_cases hn:n<t
  ·rw[if_pos hn]
   exact l4 ((k7 (n4 (i3 rfl e1) rfl)).trans (vd ((y4 (Ku rfl (tK rfl rfl (dT hn)))).trans (retS rfl))))
  ·rw[if_neg hn]
   exact l4 ((k7 (n4 (i3 rfl e1) rfl)).trans ((k7 (yI (Ku rfl (tK rfl rfl (dF hn))))).trans (retS (JU (m8 rfl (m8 (tupS (m8 rfl (m8 (i3 rfl e2) rfl))) rfl))))))
def qj:R->Option Out:=
  (l9 (m6 (g9 i9 (c8 bf (c4 (c6 0) (c4 (c6 1) (c4 (c6 2) c7)))) (vT E8 (kI 1))) (setAt 3))
  (l6 (c8 cC (c4 (c6 0) (c4 (g9 i9 (c6 3) (kI 1)) (c4 (g9 i9 (c6 3) (kI 2)) c7))))))
def fE:LD->OD:=via 3 4 qj
theorem p_{b:Bk}{s:WS}(n:Int)(ok:b.Ok)(w:s.Wk b):fE [b.d,s.d,.int n]=some (ticked b s n).d:=by
 have e1:=hV n ok w
 unfold ue at e1
 unfold ticked
 have e2:=gD (s:=s) n ok.back0
 cases h:sU b s with
 | none =>
  rw[h] at e1
  exact l4 ((k7 (n4 (i8 (i3 rfl e1) rfl rfl) rfl)).trans (retS (i3 rfl e2)))
 | some t =>
  rw[h] at e1
  dsimp only at e1 ⊢
  have e3:=gD (s:=behind b s t) (n - t) ok.back0
  by_cases hn:n<t
  ·rw[if_pos hn] at e1 ⊢
   exact l4 ((k7 (n4 (i8 (i3 rfl e1) rfl rfl) rfl)).trans (retS (i3 rfl e2)))
  ·rw[if_neg hn] at e1 ⊢
   exact l4 ((k7 (n4 (i8 (i3 rfl e1) rfl rfl) rfl)).trans (retS (i3 rfl e3)))
def pH:R->Option Out:=
  (l9 (yo (k9 wm (g9 i9 (c6 0) (fun _=>some bh)) (fun _=>some .non))
  (l6 (c6 0))
  tH)
  (l9 (m6 (BH (k9 C2 (g9 i9 (c6 0) (fun _=>some d_)) (kI 0)) (fun _=>some .non) (kI 0)) (setAt 2))
  (l6 (c8 aG (c4 (c8 aG (c4 (c8 aG (c4 (c6 0) (c4 (fun _=>some d_) (c4 (kI 0) c7)))) (c4 (fun _=>some bh) (c4 (n5 (c4 (c6 1) (c4 (c6 2) c7))) c7)))) (c4 (fun _=>some dq) (c4 (kI 0) c7)))))))
def fj:LD->OD:=via 2 3 pH
theorem qv(s:WS)(x:vN):fj [s.d,.str x.x]=some (pushed s x).d:=by
 have e6:=w6 s
 have e5:=w5 s
 unfold pushed
 cases hh:s.held with
 | some v =>
  rw[hh] at e6
  exact l4 (vd ((y4 (tK (i8 rfl rfl e6) rfl rfl)).trans (retS rfl)))
 | none =>
  rw[hh] at e6
  by_cases hr:0<s.ring
  ·have z:=LC {s with ring:=0} x none
   simp only[Option.isSome_none,Bool.false_eq_true,if_false,if_pos hr]
   exact l4 ((k7 (yI (tK (i8 rfl rfl e6) rfl rfl))).trans ((k7 (n4 (D5 (tK (i8 rfl rfl e5) rfl (dT hr)) rfl) rfl)).trans (retS (i3 (m8 (i3 (m8 (i3 rfl (NA s 0)) rfl) z) rfl) (Mj _ 0)))))
  ·have z:=LC {s with ring:=0} x (some 0)
   simp only[Option.isSome_none,Bool.false_eq_true,if_false,if_neg hr]
   exact l4 ((k7 (yI (tK (i8 rfl rfl e6) rfl rfl))).trans ((k7 (n4 (E4 (tK (i8 rfl rfl e5) rfl (dF hr)) rfl) rfl)).trans (retS (i3 (m8 (i3 (m8 (i3 rfl (NA s 0)) rfl) z) rfl) (Mj _ 0)))))
def ki:R->Option Out:=
 (l6 (A1 (BD (k9 wm (g9 i9 (c6 0) (fun _=>some bh)) (fun _=>some .non))) (BD (k9 w9 (g9 i9 (g9 i9 (c6 0) (fun _=>some bh)) (kI 0)) (c6 1)))))
def bB:LD->OD:=via 2 2 ki
theorem JS(x y:vN):w9 (.str x.x) (.str y.x)=some (decide (x=y)):=by cases x<;>cases y<;>rfl
theorem gy(s:WS)(x:vN):bB [s.d,.str x.x]=some (.bl (match s.held with | some (y,_)=>decide (y=x) | none=>false)):=by
 have e6:=w6 s
 rcases hs:s.held with _ | ⟨y,k⟩<;>rw[hs] at e6
 ·exact l4 (retS (Ef (GM (tK (i8 rfl rfl e6) rfl rfl))))
 ·exact l4 (retS (Kq (GM (tK (i8 rfl rfl e6) rfl rfl)) (GM (tK (i8 (i8 rfl rfl e6) rfl (h0 y k)) rfl (JS y x)))))
def nq:R->Option Out:=
 (l6 (A1 (c8 bB (c4 (c6 0) (c4 (c6 1) c7))) (BD (k9 wm (g9 i9 (g9 i9 (c6 0) (fun _=>some bh)) (kI 1)) (fun _=>some .non)))))
def cW:LD->OD:=via 2 2 nq
theorem na(s:WS)(x:vN):cW [s.d,.str x.x]=some (.bl (match s.held with | some (y,k)=>decide (y=x)&&k.isSome | none=>false)):=by
 have e:=gy s x
 have e6:=w6 s
 rcases hs:s.held with _ | ⟨y,k⟩<;>rw[hs] at e e6
 ·exact l4 (retS (Ef (i3 rfl e)))
 ·by_cases hy:y=x
  ·simp only[hy,decide_true,Bool.true_and] at e ⊢
   exact l4 (retS (Kq (i3 rfl e) (GM (tK (i8 (i8 rfl rfl e6) rfl (h1 y k)) rfl (Hv k)))))
  ·simp only[hy,decide_false,Bool.false_and] at e ⊢
   exact l4 (retS (Ef (i3 rfl e)))
def pD:R->Option Out:=
  (l9 (yo (De (v8 (c8 bB (c4 (c6 1) (c4 (c6 2) c7)))))
  (l6 (c6 1))
  tH)
  (l9 (yo (v8 (c8 cW (c4 (c6 1) (c4 (c6 2) c7))))
  (m6 (c8 bA (c4 (c6 0) (c4 (c6 1) (c4 (c6 2) c7)))) (setAt 1))
  tH)
  (l6 (c8 aG (c4 (c8 aG (c4 (c6 1) (c4 (fun _=>some bh) (c4 (fun _=>some .non) c7)))) (c4 (fun _=>some dq) (c4 (kI 0) c7)))))))
def fh:LD->OD:=via 3 3 pD
theorem pF{b:Bk}{s:WS}(ok:b.Ok)(w:s.Wk b)(x:vN):fh [b.d,s.d,.str x.x]=some (letGo b s x).d:=by
 have e1:=gy s x
 have e2:=na s x
 have e3:=gB ok w x.ix6 (LN x)
 unfold letGo
 rcases hs:s.held with _ | ⟨y,k⟩<;>rw[hs] at e1 e2
 ·exact l4 (vd ((y4 (GJ (BG (i3 rfl e1)))).trans (retS rfl)))
 ·by_cases hy:y=x
  ·subst hy
   simp only[decide_true,Bool.true_and] at e1 e2
   dsimp only
   rw[if_pos rfl]
   cases k with
   | none=>exact l4 ((k7 (yI (GJ (BG (i3 rfl e1))))).trans ((k7 (yI (BG (i3 rfl e2)))).trans (retS (i3 (m8 (i3 rfl (KU s)) rfl) (Mj _ 0)))))
   | some j=>exact l4 ((k7 (yI (GJ (BG (i3 rfl e1))))).trans ((k7 ((y4 (BG (i3 rfl e2))).trans (n4 (i3 rfl e3) rfl))).trans (retS (i3 (m8 (i3 rfl (KU _)) rfl) (Mj _ 0)))))
  ·dsimp only at e1 ⊢
   rw[decide_eq_false hy] at e1
   rw[if_neg hy]
   exact l4 (vd ((y4 (GJ (BG (i3 rfl e1)))).trans (retS rfl)))
def rH:R->Option Out:=
  (l9 (yo (k9 w9 (g9 i9 (c6 2) (kI 0)) (kS "down"))
  (l6 (c8 fj (c4 (c6 1) (c4 (g9 i9 (c6 2) (kI 1)) c7))))
  tH)
  (l9 (yo (k9 w9 (g9 i9 (c6 2) (kI 0)) (kS "up"))
  (l6 (c8 fh (c4 (c6 0) (c4 (c6 1) (c4 (g9 i9 (c6 2) (kI 1)) c7)))))
  tH)
  (l6 (c8 fE (c4 (c6 0) (c4 (c6 1) (c4 (g9 i9 (c6 2) (kI 1)) c7)))))))
def gE:LD->OD:=via 3 3 rH
theorem Ju:w9 (.str (oS "down")) (.str (oS "down"))=some true:=rfl
theorem I_:w9 (.str (oS "up")) (.str (oS "down"))=some false:=rfl
theorem IM:w9 (.str (oS "ticks")) (.str (oS "down"))=some false:=rfl
theorem Js:w9 (.str (oS "up")) (.str (oS "up"))=some true:=rfl
theorem Jc:w9 (.str (oS "ticks")) (.str (oS "up"))=some false:=rfl
theorem rQ{b:Bk}{s:WS}(ok:b.Ok)(w:s.Wk b)(e:Ev):gE [b.d,s.d,e.d]=some (gone b s e).d:=by
 cases e with
 | down x=>exact l4 (vd ((y4 (tK rfl rfl Ju)).trans (retS (i3 rfl (qv s x)))))
 | up x=>exact l4 ((k7 (yI (tK rfl rfl I_))).trans (vd ((y4 (tK rfl rfl Js)).trans (retS (i3 rfl (pF ok w x))))))
 | ticks n=>exact l4 ((k7 (yI (tK rfl rfl IM))).trans ((k7 (yI (tK rfl rfl Jc))).trans (retS (i3 rfl (p_ n ok w)))))
def lg:R->Option Out:=
  (l9 (m6 (c8 aO (c4 (c6 0) c7)) (setAt 2))
  (l9 (m6 (c8 aY (c4 (c6 0) c7)) (setAt 3))
  (l9 (m6 (BH (BF (k9 yG (c6 2) (fun _=>some .non)) (k9 C2 (c6 2) (c6 1))) (kI 0) (g9 p4 (g9 uC (g9 vm (c6 1) (c6 2)) (fun _=>some eT)) (kI 1))) (setAt 4))
  (l9 (m6 (BH (BF (k9 yG (c6 3) (fun _=>some .non)) (BF (k9 C2 (c6 3) (c6 1)) (k9 xm (c6 3) (c6 2)))) (kI 0) (kI 1)) (setAt 5))
  (l6 (g9 p4 (c6 4) (c6 5)))))))
def bq:LD->OD:=via 2 6 lg
def K0(n:Int)(o:Option Int):Int:=match o with
 | some a=>if n<a then 0 else (n - a) / 86400+1
 | none=>0
def LZ(n:Int)(o p:Option Int):Int:=match p with
 | some c=>if n<c then 0 else if o=some c then 0 else 1
 | none=>0
theorem Gw{c d:R->Option Bool}{ρ:R}(h1:c ρ=some true):BF c d ρ=some true:=by simp[h1]
theorem DQ{c d:R->Option Bool}{ρ:R}{b:Bool}(h1:c ρ=some false)(h2:d ρ=some b):BF c d ρ=some b:=by simp[h1,h2]
theorem qk(c:Int)(o:Option Int):xm (.int c) (tV o)=some (decide (o=some c)):=by
 cases o with
 | none=>rfl
 | some a =>
  show some (c==a)=_
  by_cases h:a=c
  ·subst h;simp
  ·have h1:¬ c=a:=fun z=>h z.symm
   have h2:¬ (some a=some c):=fun z=>h (Option.some.inj z)
   rw[decide_eq_false h2,beq_eq_false_iff_ne.mpr h1]
theorem NZ(n:Int)(a:Option Int)(r:R)(x:OD):(BH (BF (k9 yG (c6 2) (fun _=>some .non)) (k9 C2 (c6 2) (c6 1))) (kI 0) (g9 p4 (g9 uC (g9 vm (c6 1) (c6 2)) (fun _=>some eT)) (kI 1))) (x::some (.int n)::some (tV a)::r)=some (.int (K0 n a)):=by
 cases a with
 | none=>exact D5 (Gw (tK rfl rfl rfl)) rfl
 | some a =>
  show _=some (D.int (if n<a then 0 else (n - a) / 86400+1))
  by_cases h:n<a
  ·rw[if_pos h]
   exact D5 (DQ (tK rfl rfl rfl) (tK rfl rfl (dT h))) rfl
  ·rw[if_neg h]
   exact E4 (KZ (tK rfl rfl rfl) (tK rfl rfl (dF h))) (i8 (i8 (i8 rfl rfl rfl) rfl rfl) rfl rfl)
theorem Oe(n:Int)(a c:Option Int)(r:R)(x:OD):(BH (BF (k9 yG (c6 3) (fun _=>some .non)) (BF (k9 C2 (c6 3) (c6 1)) (k9 xm (c6 3) (c6 2)))) (kI 0) (kI 1)) (x::some (.int n)::some (tV a)::some (tV c)::r)=some (.int (LZ n a c)):=by
 cases c with
 | none=>exact D5 (Gw (tK rfl rfl rfl)) rfl
 | some c =>
  show _=some (D.int (if n<c then 0 else if a=some c then 0 else 1))
  by_cases h:n<c
  ·rw[if_pos h]
   exact D5 (DQ (tK rfl rfl rfl) (Gw (tK rfl rfl (dT h)))) rfl
  ·rw[if_neg h]
   by_cases h2:a=some c
   ·rw[if_pos h2]
    exact D5 (DQ (tK rfl rfl rfl) (DQ (tK rfl rfl (dF h)) (tK rfl rfl ((qk c a).trans (by rw[decide_eq_true h2]))))) rfl
   ·rw[if_neg h2]
    exact E4 (KZ (tK rfl rfl rfl) (KZ (tK rfl rfl (dF h)) (tK rfl rfl ((qk c a).trans (by rw[decide_eq_false h2]))))) rfl
theorem jL(s:WS)(n:Int):bq [s.d,.int n]=some (.int (K0 n (n8 s)+LZ n (n8 s) (ti s))):=
 l4 ((k7 (n4 (i3 rfl (gi s)) rfl)).trans ((k7 (n4 (i3 rfl (gf s)) rfl)).trans ((k7 (n4 (NZ n _ _ _) rfl)).trans ((k7 (n4 (Oe n _ _ _ _) rfl)).trans (retS (i8 rfl rfl rfl))))))
def Ir(s:WS)(n:Int):Int:=K0 n (n8 s)+LZ n (n8 s) (ti s)
theorem C_{b:Bk}{s:WS}{n:Int}(w:s.Wk b)(h0:0<=n)(hn:n<259200):0<=Ir s n/\Ir s n<=50:=by
 have ha:∀a,n8 s=some a->1<=a/\a<=86400:=fun a h=>by
  unfold n8 at h
  split at h
  ·cases h;omega
  ·cases h
 have q1:0<=K0 n (n8 s)/\K0 n (n8 s)<=10:=by
  cases haa:n8 s with
  | none=>exact⟨Int.le_refl _,by show(0:Int)<=10;decide⟩
  | some a =>
   have ⟨h1,h2⟩:=ha a haa
   show 0<=(if n<a then (0:Int) else (n - a) / 86400+1)/\(if n<a then (0:Int) else (n - a) / 86400+1)<=10
   split<;>omega
 have q2:0<=LZ n (n8 s) (ti s)/\LZ n (n8 s) (ti s)<=1:=by
  cases ti s with
  | none=>exact⟨Int.le_refl _,by show(0:Int)<=1;decide⟩
  | some c =>
   show 0<=(if n<c then (0:Int) else if n8 s=some c then 0 else 1)/\(if n<c then (0:Int) else if n8 s=some c then 0 else 1)<=1
   split
   ·omega
   ·split<;>omega
 unfold Ir
 omega
def gF:R->Option Out:=
 (l6 (c8 Hc (c4 (GG 1 (yr (c8 bf (c4 (c6 0) (c4 (c6 1) (c4 (c6 2) c7))))) (setAt 0) y6 (c8 bq (c4 (g9 i9 (c6 0) (kI 1)) (c4 (g9 i9 (c6 0) (kI 2)) c7)))) c7)))
def bw:LD->OD:=via 3 3 gF
theorem II{i:Int}(h0:0<=i)(h1:i<=100):Hc [.lst [.int i]]=some (.int i):=by
 show(if 1<=1000/\[i].all _=true then some (D.int [i].sum) else none)=_
 rw[if_pos ⟨by decide,by simp;omega⟩]
 simp
theorem KB{i j:Int}(h0:0<=i)(h1:i<=100)(h2:0<=j)(h3:j<=100):Hc [.lst [.int i,.int j]]=some (.int (i+j)):=by
 show(if 2<=1000/\[i,j].all _=true then some (D.int [i,j].sum) else none)=_
 rw[if_pos ⟨by decide,by simp;omega⟩]
 simp
theorem B4{st:D->R->Option R}{e:R->OD}{ρ ρ1:R}{d x:D}{ds xs:LD}(h1:st d ρ=some ρ1)(h2:e ρ1=some x)(h3:wo st y6 e ds ρ=some xs):wo st y6 e (d::ds) ρ=some (x::xs):=by simp[wo,h1,h2,h3]
def Mz(b:Bk)(s:WS)(n:Int):Int:=match sU b s with
 | none=>Ir s n
 | some t=>if n<t then Ir s n else Ir s t+Ir (behind b s t) (n - t)
theorem sw{b:Bk}{s:WS}{n:Int}(ok:b.Ok)(w:s.Wk b)(h0:0<=n)(hn:n<259200):bw [b.d,s.d,.int n]=some (.int (Mz b s n)):=by
 have e1:=hV n ok w
 have z:2<=sizeLine:=by decide
 have q:yr (c8 bf (c4 (c6 0) (c4 (c6 1) (c4 (c6 2) c7)))) [some b.d,some s.d,some (.int n)]=some (ue b s n):=by
  show(c8 bf _ _).bind _=_
  rw[i3 rfl e1];rfl
 have one:∀(k:Int) (s':WS) (m:Int),c8 bq (c4 (g9 i9 (c6 0) (kI 1)) (c4 (g9 i9 (c6 0) (kI 2)) c7)) [some (.tup [.int k,s'.d,.int m]),some b.d,some s.d,some (.int n)]=some (.int (Ir s' m)):=fun k s' m =>
  i3 (m8 (i8 rfl rfl rfl) (m8 (i8 rfl rfl rfl) rfl)) (jL s' m)
 have lc:∀(l:LD),(ue b s n).length<=2->wo (setAt 0) y6 (c8 bq (c4 (g9 i9 (c6 0) (kI 1)) (c4 (g9 i9 (c6 0) (kI 2)) c7))) (ue b s n) [none,some b.d,some s.d,some (.int n)]=some l ->
   GG 1 (yr (c8 bf (c4 (c6 0) (c4 (c6 1) (c4 (c6 2) c7))))) (setAt 0) y6 (c8 bq (c4 (g9 i9 (c6 0) (kI 1)) (c4 (g9 i9 (c6 0) (kI 2)) c7))) [some b.d,some s.d,some (.int n)]=some (.lst l):=fun l hl hc=>by
  unfold GG
  rw[q,Option.bind_some,if_pos (by omega)]
  exact congrArg (Option.map D.lst) hc
 have bs:=C_ w h0 hn
 unfold ue at lc
 unfold Mz
 cases ht:sU b s with
 | none =>
  rw[ht] at lc
  exact l4 (retS (i3 (m8 (lc _ (by show 1<=2;decide) (B4 rfl (one _ _ _) rfl)) rfl) (II bs.1 (by omega))))
 | some t =>
  rw[ht] at lc
  dsimp only at lc ⊢
  have hp:=yy ht
  by_cases h:n<t
  ·rw[if_pos h] at lc ⊢
   exact l4 (retS (i3 (m8 (lc _ (by show 1<=2;decide) (B4 rfl (one _ _ _) rfl)) rfl) (II bs.1 (by omega))))
  ·rw[if_neg h] at lc ⊢
   have wb:(behind b s t).Wk b:=(w.cnt (n:=t) (by omega)).trn ok
   have b1:=C_ (n:=t) w (by omega) (by omega)
   have b2:=C_ (n:=n - t) wb (by omega) (by omega)
   exact l4 (retS (i3 (m8 (lc _ (by show 2<=2;decide) (B4 rfl (one _ _ _) (B4 rfl (one _ _ _) rfl))) rfl) (KB b1.1 (by omega) b2.1 (by omega))))
def mY:R->Option Out:=
 (l6 (BH (k9 w9 (g9 i9 (c6 2) (kI 0)) (kS "ticks")) (c8 bw (c4 (c6 0) (c4 (c6 1) (c4 (g9 i9 (c6 2) (kI 1)) c7)))) (kI 0)))
def cB:LD->OD:=via 3 3 mY
def xl(b:Bk)(s:WS):Ev->Int
 | .ticks n=>Mz b s n
 | _=>0
def A_:Ev->Prop
 | .ticks n=>1<=n/\n<259200
 | _=>True
theorem nr{b:Bk}{s:WS}(ok:b.Ok)(w:s.Wk b)(e:Ev)(h:A_ e):cB [b.d,s.d,e.d]=some (.int (xl b s e)):=by
 cases e with
 | ticks n=>exact l4 (retS (D5 (tK (i8 rfl rfl rfl) rfl rfl) (i3 (m8 rfl (m8 rfl (m8 (i8 rfl rfl rfl) rfl))) (sw ok w (by have:=h.1;omega) h.2))))
 | down x=>exact l4 (retS (E4 (tK (i8 rfl rfl rfl) rfl rfl) rfl))
 | up x=>exact l4 (retS (E4 (tK (i8 rfl rfl rfl) rfl rfl) rfl))
def c_(C:Nat):MU:=
  (um (uP (m6 (c8 gE (c4 (vT (t4 C (oS "book")) (c6 0)) (c4 (vT (t4 C (oS "present")) (c6 0)) (c4 (c6 1) c7)))) (setAt 2)))
  (um (uP (m6 (g9 p4 (vT (t4 C (oS "rung")) (c6 0)) (c8 cB (c4 (vT (t4 C (oS "book")) (c6 0)) (c4 (vT (t4 C (oS "present")) (c6 0)) (c4 (c6 1) c7))))) (setAt 3)))
  (um (HK 0 C (oS "past") (n5 (c4 (c6 1) (c4 (vT (t4 C (oS "present")) (c6 0)) (c4 (vT (t4 C (oS "rung")) (c6 0)) c7)))))
  (um (vD 0 C (oS "present") (c6 2))
  (vD 0 C (oS "rung") (c6 3))))))
def aN(C:Nat):LD->Option (D×D):=Bi 2 4 0 (c_ C)
def Wo(C a l:Nat)(b:Bk)(s:WS)(r:Int)(p:LD):D:=.obj (C+2) a [oS "book",oS "present",oS "rung",oS "past"] [b.d,s.d,.int r,.obj 0 l [] p]
theorem bT{α:Type}{f:α->D}(h:∀x,tB (f x)=true):∀l:List α,m9 (l.map f)=true
 | []=>rfl
 | x::l=>by show(tB (f x)&&m9 (l.map f))=true;rw[h x,bT h l];rfl
theorem qM(r:xo×Nat):tB (zC r)=true:=rfl
theorem rW(m:Md):tB m.d=true:=by
 show(true&&(true&&(m9 (m.rows.map zC)&&true)))=true
 rw[bT qM];rfl
theorem fZ(b:Bk):tB b.d=true:=by
 show(true&&(true&&(m9 (b.modes.map Md.d)&&true)))=true
 rw[bT rW];rfl
theorem da(s:WS):tB s.d=true:=bH (kW s)
theorem cZ(e:Ev):tB e.d=true:=by cases e<;>rfl
noncomputable def ug(s:WS)(e:Ev)(r:Int):D:=.tup [e.d,s.d,.int r]
theorem gu(s:WS)(e:Ev)(r:Int):tB (ug s e r)=true:=by
 show(tB e.d&&(tB s.d&&(true&&true)))=true
 rw[cZ,da];rfl
section
variable{C a l:Nat}{b:Bk}{s s':WS}{r:Int}{p:LD}{ρ:R}{f:R->OD}
theorem Fc:t4 C (oS "book") (Wo C a l b s r p)=some b.d:=by show(if C+2=C+2 then _ else none)=_;rw[if_pos rfl];rfl
theorem Cd:t4 C (oS "present") (Wo C a l b s r p)=some s.d:=by show(if C+2=C+2 then _ else none)=_;rw[if_pos rfl];rfl
theorem Gq:t4 C (oS "rung") (Wo C a l b s r p)=some (.int r):=by show(if C+2=C+2 then _ else none)=_;rw[if_pos rfl];rfl
theorem wS:y9 [a,l] (a::[b.d,s.d,.int r,.obj 0 l [] p].flatMap vn)=true:=by
 show y9 [a,l] [a,l]=true
 simp[y9]
theorem Nr(hn:m9 p=true):[b.d,s.d,.int r,.obj 0 l [] p].all okN=true:=by
 show(tB b.d&&(tB s.d&&(true&&(m9 p&&true))))=true
 rw[fZ,da,hn];rfl
theorem Il(hn:m9 p=true)(hb:tP 0 (some (Wo C a l b s r p)::ρ)=true)(hf:f (some (Wo C a l b s r p)::ρ)=some s'.d):vD 0 C (oS "present") f [a,l] (some (Wo C a l b s r p)::ρ)=some (.nx (some (Wo C a l b s' r p)::ρ)):=by
 show(f _).bind _=_
 rw[hf,Option.bind_some]
 exact if_pos ⟨rfl,da _,hb,wS,by decide,Nr hn,da s⟩
theorem Ia{r':Int}(hn:m9 p=true)(hb:tP 0 (some (Wo C a l b s r p)::ρ)=true)(hf:f (some (Wo C a l b s r p)::ρ)=some (.int r')):vD 0 C (oS "rung") f [a,l] (some (Wo C a l b s r p)::ρ)=some (.nx (some (Wo C a l b s r' p)::ρ)):=by
 show(f _).bind _=_
 rw[hf,Option.bind_some]
 exact if_pos ⟨rfl,rfl,hb,wS,by decide,Nr hn,rfl⟩
theorem Lw{d:D}(hn:m9 p=true)(hp:p.length<1000)(hd:tB d=true)(hb:tP 0 (some (Wo C a l b s r p)::ρ)=true)(hf:f (some (Wo C a l b s r p)::ρ)=some d):HK 0 C (oS "past") f [a,l] (some (Wo C a l b s r p)::ρ)=some (.nx (some (Wo C a l b s r (p++[d]))::ρ)):=by
 show(f _).bind _=_
 rw[hf,Option.bind_some]
 exact if_pos ⟨rfl,hd,hb,wS,hp,hn,by show(tB b.d&&(tB s.d&&(true&&(true&&true))))=true;rw[fZ,da];rfl,by simp⟩
end
theorem Fb{C a l:Nat}{b:Bk}{s:WS}{r:Int}{p:LD}(ok:b.Ok)(w:s.Wk b)(e:Ev)(h:A_ e)(hp:p.length<1000)(hn:m9 p=true) :
  aN C [Wo C a l b s r p,e.d]=some (.non,Wo C a l b (gone b s e) (r+xl b s e) (p++[ug s e r])):=by
 have s1:uP (m6 (c8 gE (c4 (vT (t4 C (oS "book")) (c6 0)) (c4 (vT (t4 C (oS "present")) (c6 0)) (c4 (c6 1) c7)))) (setAt 2)) [a,l] [some (Wo C a l b s r p),some e.d,none,none]=some (.nx [some (Wo C a l b s r p),some e.d,some (gone b s e).d,none]):=by
  show(m6 _ _ _).bind _=_
  rw[n4 (i3 (m8 (BE rfl Fc) (m8 (BE rfl Cd) (m8 rfl rfl))) (rQ ok w e)) rfl];rfl
 have s2:uP (m6 (g9 p4 (vT (t4 C (oS "rung")) (c6 0)) (c8 cB (c4 (vT (t4 C (oS "book")) (c6 0)) (c4 (vT (t4 C (oS "present")) (c6 0)) (c4 (c6 1) c7))))) (setAt 3)) [a,l] [some (Wo C a l b s r p),some e.d,some (gone b s e).d,none]=some (.nx [some (Wo C a l b s r p),some e.d,some (gone b s e).d,some (.int (r+xl b s e))]):=by
  show(m6 _ _ _).bind _=_
  rw[n4 (i8 (BE rfl Gq) (i3 (m8 (BE rfl Fc) (m8 (BE rfl Cd) (m8 rfl rfl))) (nr ok w e h)) rfl) rfl];rfl
 have nb:∀x y:OD,uE x=true->uE y=true->∀ob:D,tP 0 [some ob,some e.d,x,y]=true:=fun x y hx hy ob=>by
  show(true&&(tB e.d&&(uE x&&(uE y&&true))))=true
  rw[cZ,hx,hy];rfl
 have s3:=Lw (C:=C) (a:=a) (l:=l) (b:=b) (s:=s) (r:=r) (p:=p) (ρ:=[some e.d,some (gone b s e).d,some (.int (r+xl b s e))]) (f:=n5 (c4 (c6 1) (c4 (vT (t4 C (oS "present")) (c6 0)) (c4 (vT (t4 C (oS "rung")) (c6 0)) c7)))) (d:=ug s e r) hn hp (gu s e r) (nb (some (gone b s e).d) (some (.int (r+xl b s e))) (da _) rfl _) (tupS (m8 rfl (m8 (BE rfl Cd) (m8 (BE rfl Gq) rfl))))
 have hn':m9 (p++[ug s e r])=true:=by
  have:∀q:LD,m9 q=true->m9 (q++[ug s e r])=true:=fun q=>by
   induction q with
   | nil=>intro _;show(tB _&&true)=true;rw[gu];rfl
   | cons x q ih =>
    intro h
    have h':(tB x&&m9 q)=true:=h
    rw[Bool.and_eq_true] at h'
    show(tB x&&m9 (q++_))=true
    rw[h'.1,ih h'.2];rfl
  exact this p hn
 have s4:=Il (C:=C) (a:=a) (l:=l) (b:=b) (s:=s) (s':=gone b s e) (r:=r) (p:=p++[ug s e r]) (ρ:=[some e.d,some (gone b s e).d,some (.int (r+xl b s e))]) (f:=c6 2) hn' (nb (some (gone b s e).d) (some (.int (r+xl b s e))) (da _) rfl _) rfl
 have s5:=Ia (C:=C) (a:=a) (l:=l) (b:=b) (s:=gone b s e) (r:=r) (r':=r+xl b s e) (p:=p++[ug s e r]) (ρ:=[some e.d,some (gone b s e).d,some (.int (r+xl b s e))]) (f:=c6 3) hn' (nb (some (gone b s e).d) (some (.int (r+xl b s e))) (da _) rfl _) rfl
 have g:c_ C [a,l] [some (Wo C a l b s r p),some e.d,none,none]=some (.nx [some (Wo C a l b (gone b s e) (r+xl b s e) (p++[ug s e r])),some e.d,some (gone b s e).d,some (.int (r+xl b s e))]):=by
  show(uP _ [a,l] _).bind _=_
  rw[s1,Option.bind_some]
  show(uP _ [a,l] _).bind _=_
  rw[s2,Option.bind_some]
  show(HK _ _ _ _ [a,l] _).bind _=_
  rw[s3,Option.bind_some]
  show(vD _ _ _ _ [a,l] _).bind _=_
  rw[s4,Option.bind_some]
  exact s5
 show(c_ C [a,l] [some (Wo C a l b s r p),some e.d,none,none]).bind _=_
 rw[g,Option.bind_some]
 exact if_pos ⟨rfl,rfl⟩
theorem AL{C a l:Nat}{b:Bk}{s:WS}{r:Int}{p:LD}{mn:Str}{G:LD->Option (D×D)}{F:R->Option LD}{ρ:R}{ds:LD}{d ob':D}(h1:F (some (Wo C a l b s r p)::ρ)=some ds)(h2:G (Wo C a l b s r p::ds)=some (d,ob'))(h3:[oS "book",oS "present",oS "rung",oS "past"].contains mn=false)(h4:tP 0 (some (Wo C a l b s r p)::ρ)=true) :
  vy 0 C mn G F [a,l] (some (Wo C a l b s r p)::ρ)=some (d,some ob'::ρ):=by
 show(F _).bind _=_
 rw[h1,Option.bind_some,h2,Option.bind_some]
 exact if_pos ⟨rfl,h3,h4,wS⟩
def dZ(C:Nat):MU:=
 (vQ (vy 0 C (oS "happen") (aN C) (c4 (n5 (c4 (kS "down") (c4 (c6 1) c7))) c7)))
def bo(C:Nat):LD->Option (D×D):=Bi 2 2 0 (dZ C)
theorem IQ{C a l:Nat}{b:Bk}{s:WS}{r:Int}{p:LD}(ok:b.Ok)(w:s.Wk b)(x:vN)(hp:p.length<1000)(hn:m9 p=true) :
  bo C [Wo C a l b s r p,.str x.x]=some (.non,Wo C a l b (gone b s (.down x)) (r+xl b s (.down x)) (p++[ug s (.down x) r])):=by
 have g:dZ C [a,l] [some (Wo C a l b s r p),some (.str x.x)]=some (.nx [some (Wo C a l b (gone b s (.down x)) (r+xl b s (.down x)) (p++[ug s (.down x) r])),some (.str x.x)]):=by
  show(vy _ _ _ _ _ [a,l] _).map _=_
  rw[AL (ds:=[(Ev.down x).d]) rfl (Fb ok w (.down x) trivial hp hn) (by decide +kernel) rfl];rfl
 show(dZ C [a,l] [some (Wo C a l b s r p),some (.str x.x)]).bind _=_
 rw[g,Option.bind_some]
 exact if_pos ⟨rfl,rfl⟩
def dM(C:Nat):MU:=
 (vQ (vy 0 C (oS "happen") (aN C) (c4 (n5 (c4 (kS "ticks") (c4 (c6 1) c7))) c7)))
def bU(C:Nat):LD->Option (D×D):=Bi 2 2 0 (dM C)
theorem Hq{C a l:Nat}{b:Bk}{s:WS}{r:Int}{p:LD}(ok:b.Ok)(w:s.Wk b){n:Int}(h:1<=n/\n<259200)(hp:p.length<1000)(hn:m9 p=true) :
  bU C [Wo C a l b s r p,.int n]=some (.non,Wo C a l b (gone b s (.ticks n)) (r+xl b s (.ticks n)) (p++[ug s (.ticks n) r])):=by
 have g:dM C [a,l] [some (Wo C a l b s r p),some (.int n)]=some (.nx [some (Wo C a l b (gone b s (.ticks n)) (r+xl b s (.ticks n)) (p++[ug s (.ticks n) r])),some (.int n)]):=by
  show(vy _ _ _ _ _ [a,l] _).map _=_
  rw[AL (ds:=[(Ev.ticks n).d]) rfl (Fb ok w (.ticks n) h hp hn) (by decide +kernel) rfl];rfl
 show(dM C [a,l] [some (Wo C a l b s r p),some (.int n)]).bind _=_
 rw[g,Option.bind_some]
 exact if_pos ⟨rfl,rfl⟩
def ge(C:Nat):MU:=
 (vQ (vy 0 C (oS "happen") (aN C) (c4 (n5 (c4 (kS "up") (c4 (c6 1) c7))) c7)))
def bY(C:Nat):LD->Option (D×D):=Bi 2 2 0 (ge C)
theorem Ms{C a l:Nat}{b:Bk}{s:WS}{r:Int}{p:LD}(ok:b.Ok)(w:s.Wk b)(x:vN)(hp:p.length<1000)(hn:m9 p=true) :
  bY C [Wo C a l b s r p,.str x.x]=some (.non,Wo C a l b (gone b s (.up x)) (r+xl b s (.up x)) (p++[ug s (.up x) r])):=by
 have g:ge C [a,l] [some (Wo C a l b s r p),some (.str x.x)]=some (.nx [some (Wo C a l b (gone b s (.up x)) (r+xl b s (.up x)) (p++[ug s (.up x) r])),some (.str x.x)]):=by
  show(vy _ _ _ _ _ [a,l] _).map _=_
  rw[AL (ds:=[(Ev.up x).d]) rfl (Fb ok w (.up x) trivial hp hn) (by decide +kernel) rfl];rfl
 show(ge C [a,l] [some (Wo C a l b s r p),some (.str x.x)]).bind _=_
 rw[g,Option.bind_some]
 exact if_pos ⟨rfl,rfl⟩
def cE(C:Nat):MU:=
  (um (B0 (k9 w9 (g9 i9 (c6 1) (kI 0)) (kS "down"))
  (Bh (vy 0 C (oS "down") (bo C) (c4 (g9 i9 (c6 1) (kI 1)) c7)))
  vq)
  (um (B0 (k9 w9 (g9 i9 (c6 1) (kI 0)) (kS "up"))
  (Bh (vy 0 C (oS "up") (bY C) (c4 (g9 i9 (c6 1) (kI 1)) c7)))
  vq)
  (Bh (vy 0 C (oS "ticks") (bU C) (c4 (g9 i9 (c6 1) (kI 1)) c7)))))
def a_(C:Nat):LD->Option (D×D):=Bi 2 2 0 (cE C)
theorem Lr{C a l:Nat}{b:Bk}{s:WS}{r:Int}{p:LD}(ok:b.Ok)(w:s.Wk b)(e:Ev)(h:A_ e)(hp:p.length<1000)(hn:m9 p=true) :
  a_ C [Wo C a l b s r p,e.d]=some (.non,Wo C a l b (gone b s e) (r+xl b s e) (p++[ug s e r])):=by
 have nb:tP 0 [some (Wo C a l b s r p),some e.d]=true:=by show(true&&(tB e.d&&true))=true;rw[cZ];rfl
 have g:cE C [a,l] [some (Wo C a l b s r p),some e.d]=some (.rt .non [some (Wo C a l b (gone b s e) (r+xl b s e) (p++[ug s e r])),some e.d]):=by
  unfold cE
  cases e with
  | down x =>
   show(B0 _ _ _ [a,l] _).bind _=_
   have m:=AL (C:=C) (a:=a) (l:=l) (b:=b) (s:=s) (r:=r) (p:=p) (mn:=oS "down") (F:=c4 (g9 i9 (c6 1) (kI 1)) c7) (ρ:=[some (Ev.down x).d]) (ds:=[.str x.x]) (m8 (i8 rfl rfl rfl) rfl) (IQ ok w x hp hn) (by decide +kernel) nb
   have q:B0 (k9 w9 (g9 i9 (c6 1) (kI 0)) (kS "down")) (Bh (vy 0 C (oS "down") (bo C) (c4 (g9 i9 (c6 1) (kI 1)) c7))) vq [a,l] [some (Wo C a l b s r p),some (Ev.down x).d]=some (.rt .non [some (Wo C a l b (gone b s (.down x)) (r+xl b s (.down x)) (p++[ug s (.down x) r])),some (Ev.down x).d]):=by
    show(k9 _ _ _ _).bind _=_
    rw[tK (x:=.str (oS "down")) (y:=.str (oS "down")) (b:=true) (i8 rfl rfl rfl) rfl rfl,Option.bind_some,if_pos rfl]
    show(vy _ _ _ _ _ _ _).map _=_
    rw[m];rfl
   rw[q];rfl
  | up x =>
   have m:=AL (C:=C) (a:=a) (l:=l) (b:=b) (s:=s) (r:=r) (p:=p) (mn:=oS "up") (F:=c4 (g9 i9 (c6 1) (kI 1)) c7) (ρ:=[some (Ev.up x).d]) (ds:=[.str x.x]) (m8 (i8 rfl rfl rfl) rfl) (Ms ok w x hp hn) (by decide +kernel) nb
   have q1:B0 (k9 w9 (g9 i9 (c6 1) (kI 0)) (kS "down")) (Bh (vy 0 C (oS "down") (bo C) (c4 (g9 i9 (c6 1) (kI 1)) c7))) vq [a,l] [some (Wo C a l b s r p),some (Ev.up x).d]=some (.nx [some (Wo C a l b s r p),some (Ev.up x).d]):=by
    show(k9 _ _ _ _).bind _=_
    rw[tK (x:=.str (oS "up")) (y:=.str (oS "down")) (b:=false) (i8 rfl rfl rfl) rfl rfl];rfl
   have q:B0 (k9 w9 (g9 i9 (c6 1) (kI 0)) (kS "up")) (Bh (vy 0 C (oS "up") (bY C) (c4 (g9 i9 (c6 1) (kI 1)) c7))) vq [a,l] [some (Wo C a l b s r p),some (Ev.up x).d]=some (.rt .non [some (Wo C a l b (gone b s (.up x)) (r+xl b s (.up x)) (p++[ug s (.up x) r])),some (Ev.up x).d]):=by
    show(k9 _ _ _ _).bind _=_
    rw[tK (x:=.str (oS "up")) (y:=.str (oS "up")) (b:=true) (i8 rfl rfl rfl) rfl rfl,Option.bind_some,if_pos rfl]
    show(vy _ _ _ _ _ _ _).map _=_
    rw[m];rfl
   show(B0 _ _ _ [a,l] _).bind _=_
   rw[q1,Option.bind_some]
   show(B0 _ _ _ [a,l] _).bind _=_
   rw[q];rfl
  | ticks n =>
   have m:=AL (C:=C) (a:=a) (l:=l) (b:=b) (s:=s) (r:=r) (p:=p) (mn:=oS "ticks") (F:=c4 (g9 i9 (c6 1) (kI 1)) c7) (ρ:=[some (Ev.ticks n).d]) (ds:=[.int n]) (m8 (i8 rfl rfl rfl) rfl) (Hq ok w h hp hn) (by decide +kernel) nb
   have q1:B0 (k9 w9 (g9 i9 (c6 1) (kI 0)) (kS "down")) (Bh (vy 0 C (oS "down") (bo C) (c4 (g9 i9 (c6 1) (kI 1)) c7))) vq [a,l] [some (Wo C a l b s r p),some (Ev.ticks n).d]=some (.nx [some (Wo C a l b s r p),some (Ev.ticks n).d]):=by
    show(k9 _ _ _ _).bind _=_
    rw[tK (x:=.str (oS "ticks")) (y:=.str (oS "down")) (b:=false) (i8 rfl rfl rfl) rfl rfl];rfl
   have q:B0 (k9 w9 (g9 i9 (c6 1) (kI 0)) (kS "up")) (Bh (vy 0 C (oS "up") (bY C) (c4 (g9 i9 (c6 1) (kI 1)) c7))) vq [a,l] [some (Wo C a l b s r p),some (Ev.ticks n).d]=some (.nx [some (Wo C a l b s r p),some (Ev.ticks n).d]):=by
    show(k9 _ _ _ _).bind _=_
    rw[tK (x:=.str (oS "ticks")) (y:=.str (oS "up")) (b:=false) (i8 rfl rfl rfl) rfl rfl];rfl
   show(B0 _ _ _ [a,l] _).bind _=_
   rw[q1,Option.bind_some]
   show(B0 _ _ _ [a,l] _).bind _=_
   rw[q,Option.bind_some]
   show(vy _ _ _ _ _ _ _).map _=_
   rw[m];rfl
 show(cE C [a,l] [some (Wo C a l b s r p),some e.d]).bind _=_
 rw[g,Option.bind_some]
 exact if_pos ⟨rfl,rfl⟩
def AT:Nat->Nat->R->Option Out:=(fun c ea=>(l9 (m6 (FP (c4 (Ey 2 ea (c==0)) (c4 (Ey 2 ea (c==1)) c7))) (setAt 3))
  (l9 (m6 (n5 (c4 (kS "refused") (c4 (vT E8 (kI 1)) c7))) (setAt 1))
  (yo (BR (v8 (Ey 2 ea true)) (k9 w9 (c8 AJ (c4 (c6 3) (c4 (fun _=>some (.bl true)) c7))) (kI 1)))
  (m6 (n5 (c4 (kS "refused") (c4 (c8 Aw (c4 (c6 3) (c4 (fun _=>some (.bl true)) c7))) c7))) (setAt 1))
  tH))))
def sO:Nat->OD:=fun c=>if c<2 then some (.tup [.str (oS "refused"),.int (c:Int)]) else none
theorem Bt(c:Nat)(d:D)(h:sO c=some d):c<2/\∀e:Nat,∃ ρ',AT c e (J0 4 2 e)=some (.nx ρ')/\c6 1 (ρ'.set 2 none)=some d:=by
 unfold sO at h
 split at h
 ·rename_i hc
  cases h
  refine⟨hc,fun e=>?_⟩
  have hc':c=0\/c=1:=by omega
  have hi:∀(b:Bool) (x y:OD),Ey 2 e b [none,x,some (.rf e),y]=some (.bl b):=fun b x y=>if_pos rfl
  rcases hc' with rfl | rfl
  ·exact⟨[none,some (.tup [.str (oS "refused"),.int 0]),some (.rf e),some (.lst [.bl true,.bl false])],(k7 (ρ2:=[none,none,some (.rf e),some (.lst [.bl true,.bl false])]) (n4 (JU (m8 (hi true none none) (m8 (hi false none none) rfl))) rfl)).trans ((k7 (ρ2:=[none,some (.tup [.str (oS "refused"),.int (-1)]),some (.rf e),some (.lst [.bl true,.bl false])]) (n4 (tupS (m8 rfl (m8 (BE (F:=E8) (x:=.int 1) (z:=.int (-1)) rfl rfl) rfl))) rfl)).trans ((y4 (NF (BG (hi true _ _)) (tK (F:=w9) (x:=.int 1) (y:=.int 1) (i3 (F:=AJ) (ds:=[.lst [.bl true,.bl false],.bl true]) rfl rfl) rfl rfl))).trans (n4 (d:=.tup [.str (oS "refused"),.int 0]) (tupS (m8 rfl (m8 (i3 (F:=Aw) (ds:=[.lst [.bl true,.bl false],.bl true]) rfl rfl) rfl))) rfl))),rfl⟩
  ·exact⟨[none,some (.tup [.str (oS "refused"),.int 1]),some (.rf e),some (.lst [.bl false,.bl true])],(k7 (ρ2:=[none,none,some (.rf e),some (.lst [.bl false,.bl true])]) (n4 (JU (m8 (hi false none none) (m8 (hi true none none) rfl))) rfl)).trans ((k7 (ρ2:=[none,some (.tup [.str (oS "refused"),.int (-1)]),some (.rf e),some (.lst [.bl false,.bl true])]) (n4 (tupS (m8 rfl (m8 (BE (F:=E8) (x:=.int 1) (z:=.int (-1)) rfl rfl) rfl))) rfl)).trans ((y4 (NF (BG (hi true _ _)) (tK (F:=w9) (x:=.int 1) (y:=.int 1) (i3 (F:=AJ) (ds:=[.lst [.bl false,.bl true],.bl true]) rfl rfl) rfl rfl))).trans (n4 (d:=.tup [.str (oS "refused"),.int 1]) (tupS (m8 rfl (m8 (i3 (F:=Aw) (ds:=[.lst [.bl false,.bl true],.bl true]) rfl rfl) rfl))) rfl))),rfl⟩
 ·cases h
def bC(C:Nat):MU:=
  (um (B0 (k9 w9 (wC 0 C (oS "past") (c8 vf (c4 (vT (t4 C (oS "past")) (c6 0)) c7))) (kI 0))
  (fun _ _=>none)
  vq)
  (um (EF 1 0 C (oS "past"))
  (um (vD 0 C (oS "present") (g9 i9 (c6 1) (kI 1)))
  (vD 0 C (oS "rung") (g9 i9 (c6 1) (kI 2))))))
def bP(C:Nat):LD->Option (D×D):=Bi 1 2 0 (bC C)
def t_(C:Nat):List Nat->R->Option (Except Nat MO):=
  (DX (k9 w9 (wC 0 C (oS "past") (c8 vf (c4 (vT (t4 C (oS "past")) (c6 0)) c7))) (kI 0)) (kS "nothing is left that could be taken back") 1
  (um (EF 1 0 C (oS "past"))
  (um (vD 0 C (oS "present") (g9 i9 (c6 1) (kI 1)))
  (vD 0 C (oS "rung") (g9 i9 (c6 1) (kI 2))))))
def k8(C:Nat):LD->Option (Except Nat (D×D)):=Gg 1 2 0 (t_ C)
def bg(C:Nat):MU:=
  (um (vD 0 C (oS "book") (c6 1))
  (um (vD 0 C (oS "present") (c8 cP (c4 (c6 1) c7)))
  (um (vD 0 C (oS "rung") (kI 0))
  vq)))
theorem LO(C a l:Nat)(b:Bk):xn 2 C (oS "past") (bg C) [b.d] a l=some (Wo C a l b l7 0 []):=by
 have n1:=fZ b
 have n2:=da l7
 have hS:y9 [a] [a]=true:=by simp[y9]
 have s1:vD 0 C (oS "book") (c6 1) [a] [some (.obj (C+2) a [] []),some b.d]=some (.nx [some (.obj (C+2) a [oS "book"] [b.d]),some b.d]):=if_pos ⟨rfl,n1,by show(true&&(tB b.d&&true))=true;rw[n1];rfl,hS,by decide,rfl,rfl⟩
 have s2:vD 0 C (oS "present") (c8 cP (c4 (c6 1) c7)) [a] [some (.obj (C+2) a [oS "book"] [b.d]),some b.d]=some (.nx [some (.obj (C+2) a [oS "book",oS "present"] [b.d,l7.d]),some b.d]):=by
  show(c8 cP _ _).bind _=_
  rw[i3 rfl (nT _),Option.bind_some]
  exact if_pos ⟨rfl,n2,by show(true&&(tB b.d&&true))=true;rw[n1];rfl,hS,by decide,by show(okN b.d&&true)=true;rw[show okN b.d=tB b.d from rfl,n1];rfl,rfl⟩
 have s3:vD 0 C (oS "rung") (kI 0) [a] [some (.obj (C+2) a [oS "book",oS "present"] [b.d,l7.d]),some b.d]=some (.nx [some (.obj (C+2) a [oS "book",oS "present",oS "rung"] [b.d,l7.d,.int 0]),some b.d]):=
  if_pos ⟨rfl,rfl,by show(true&&(tB b.d&&true))=true;rw[n1];rfl,hS,by decide,by show(okN b.d&&(okN l7.d&&true))=true;rw[show okN b.d=tB b.d from rfl,n1];rfl,rfl⟩
 have g:bg C [a] [some (.obj (C+2) a [] []),some b.d]=some (.nx [some (.obj (C+2) a [oS "book",oS "present",oS "rung"] [b.d,l7.d,.int 0]),some b.d]):=by
  show(vD 0 C (oS "book") (c6 1) [a] _).bind _=_
  rw[s1,Option.bind_some]
  show(vD 0 C (oS "present") _ [a] _).bind _=_
  rw[s2,Option.bind_some]
  show(vD 0 C (oS "rung") _ [a] _).bind _=_
  rw[s3];rfl
 show(bg C [a] [some (.obj (C+2) a [] []),some b.d]).bind _=_
 rw[g,Option.bind_some]
 exact if_pos ⟨rfl,rfl,by show(tB b.d&&(tB l7.d&&(true&&true)))=true;rw[n1,n2];rfl,by show 3<100;decide⟩
def nO:R->Option Out:=
 (m6 (c8 bD (c4 (c6 0) (c4 (kI 0) c7))) (setAt 1))
def n_:R->Option Out:=
 (m6 (c8 ce (c4 (c8 cI (c4 (c6 1) c7)) (c4 (g9 uC (c8 aH (c4 (c6 1) (c4 (kI 77) c7))) (kI 4)) c7))) (setAt 2))
def oq:R->Option Out:=
 (m6 (c8 de (c4 (c8 bD (c4 (c6 0) (c4 (kI 1) c7))) (c4 (kI 14) c7))) (setAt 3))
def Dp(C:Nat):MU:=
 (vQ (yg 4 (a_ C) (c4 (c6 4) (c4 (c6 6) c7))))
def lh(C:Nat):MU:=(Dp C)
def CM(C:Nat):MU:=
  (Lf (wF 0 [4] (xA C (oS "undo") 0 (k8 C) c7) sO) xD (n5 (c4 (kS "told") (c4 (fun _=>some .non) c7)))
  (uP (l6 (fun _=>some (.bl false))))
  vq)
def l_(C:Nat):MU:=(CM C)
def CA(C:Nat):MU:=
 (vQ (yg 5 (a_ C) (c4 (c6 5) (c4 (c6 6) c7))))
def jX(C:Nat):MU:=(CA C)
def B7(C:Nat):MU:=
 (vQ (yg 4 (a_ C) (c4 (c6 4) (c4 (c6 6) c7))))
def jT(C:Nat):MU:=(B7 C)
def B8(C:Nat):MU:=
 (vQ (y3 4 C (oS "undo") (bP C) c7))
def jP(C:Nat):MU:=(B8 C)
def nR(C:Nat):MU:=
 (CD (yr (c6 3)) (setAt 6) (lh C))
def nM(C:Nat):MU:=
 (uP (m6 (c8 (aM C) (c4 (c6 4) c7)) (setAt 7)))
def ou(C:Nat):MU:=
 (uP (m6 (g9 sW (c8 bD (c4 (c6 0) (c4 (kI 2) c7))) (g9 p4 (c8 vf (c4 (c6 3) c7)) (kI 1))) (setAt 8)))
def oh(C:Nat):MU:=
 (CD (uT (c6 8)) (setAt 9) (l_ C))
def oj(C:Nat):MU:=
 (uP (m6 (g9 vm (c8 vf (c4 (c6 3) c7)) (c6 8)) (setAt 10)))
def me(C:Nat):MU:=
 (CD (yr (D7 (c6 3) GH (aP (c6 10)))) (setAt 6) (jX C))
def lM(C:Nat):MU:=
  (uP (yo (BF (k9 xD (c8 (aM C) (c4 (c6 4) c7)) (c8 (aM C) (c4 (c6 5) c7))) (k9 xD (C9 C (oS "row") (bx C) (c6 4) c7) (D7 (c6 3) GH (aP (c6 10)))))
  (l6 (fun _=>some (.bl false)))
  tH))
def mt(C:Nat):MU:=
 (CD (yr (D7 (c6 3) (aP (c6 10)) GH)) (setAt 6) (jT C))
def li(C:Nat):MU:=
  (uP (yo (k9 xD (c8 (aM C) (c4 (c6 4) c7)) (c6 7))
  (l6 (fun _=>some (.bl false)))
  tH))
def lD(C:Nat):MU:=
 (CD (uT (c8 vf (c4 (c6 3) c7))) (setAt 9) (jP C))
def lX(C:Nat):MU:=
 (uP (m6 (c8 (aM C) (c4 (c6 4) c7)) (setAt 11)))
def lW(C:Nat):MU:=
  (uP (yo (BF (k9 xD (g9 i9 (c6 11) (kI 0)) (c8 cP (c4 (c6 2) c7))) (k9 xD (D7 (c6 11) (aP (kI 2)) GH) (n5 (c4 (kI 0) (c4 (n5 c7) c7)))))
  (l6 (fun _=>some (.bl false)))
  tH))
def mh(C:Nat):MU:=
 (IC (wF 0 [4] (xA C (oS "undo") 0 (k8 C) c7) sO) xm (n5 (c4 (kS "refused") (c4 (kI 1) c7))) (BD (k9 xm (c8 (aM C) (c4 (c6 4) c7)) (c6 11))))
def rn(C:Nat):R->Option Out:=
 (l9 nO (l9 n_ (l9 oq (Aq 4 5 (xn 2 C (oS "past") (bg C)) (c4 (c6 2) c7) (c4 (c6 2) c7) (um (nR C) (um (nM C) (um (ou C) (um (oh C) (um (oj C) (um (me C) (um (lM C) (um (mt C) (um (li C) (um (lD C) (um (lX C) (um (lW C) (mh C)))))))))))))))))
def lH(C:Nat):LD->OD:=via 1 12 (rn C)
theorem sC(C:Nat):∀ds d,lH C ds=some d->wD (rn C (yz 12 ds))=some d:=fun _ _ h=>rm h
theorem sJ(C:Nat):∀ds d,lH C ds=some d->ds.length=1:=fun _ _ h=>oi h
abbrev z9:=Ev×WS×Int
def vS(x:z9):D:=ug x.2.1 x.1 x.2.2
def wH(P:List z9):LD:=P.map fun x=>x.1.d
def Wp(C a l:Nat)(b:Bk)(s:WS)(r:Int)(P:List z9):D:=Wo C a l b s r (P.map vS)
theorem EI(P:List z9):m9 (P.map vS)=true:=bT (fun x=>gu _ _ _) P
theorem KR(P:List z9)(x:z9):P.map vS++[ug x.2.1 x.1 x.2.2]=(P++[x]).map vS:=by rw[List.map_append];rfl
section
variable{C a l:Nat}{b:Bk}{s:WS}{r:Int}{P:List z9}{ρ:R}{F:R->OD}{d:D}
theorem Fq(hb:tP 0 (some (Wp C a l b s r P)::ρ)=true)(hF:F (some (.obj (C+2) a [oS "book",oS "present",oS "rung",oS "past"] [b.d,s.d,.int r,.fro (P.map vS)])::ρ)=some d)(hd:nof d=true):wC 0 C (oS "past") F (some (Wp C a l b s r P)::ρ)=some d:=by
 show(if _ then _ else none)=_
 rw[if_pos ⟨rfl,hb,EI P,by show(tB b.d&&(tB s.d&&(true&&(true&&true))))=true;rw[fZ,da];rfl⟩]
 show(F (some (.obj (C+2) a [oS "book",oS "present",oS "rung",oS "past"] [b.d,s.d,.int r,.fro (P.map vS)])::ρ)).bind _=_
 rw[hF,Option.bind_some,if_pos hd]
theorem Gu{q:LD}:t4 C (oS "past") (.obj (C+2) a [oS "book",oS "present",oS "rung",oS "past"] [b.d,s.d,.int r,.fro q])=some (.fro q):=by show(if C+2=C+2 then _ else none)=_;rw[if_pos rfl];rfl
end
theorem JY(e:Ev):nof e.d=true:=by cases e<;>rfl
theorem D3:∀P:List z9,nofs (wH P)=true
 | []=>rfl
 | x::P=>by show(nof x.1.d&&nofs (wH P))=true;rw[JY,D3 P];rfl
theorem lN(ρ:R):∀P:List z9,wo (setAt 0) y6 (g9 i9 (c6 0) (kI 0)) (P.map vS) (none::ρ)=some (wH P)
 | []=>rfl
 | x::P=>B4 rfl (i8 rfl rfl rfl) (lN ρ P)
section
variable{C a l:Nat}{b:Bk}{s:WS}{r:Int}{P:List z9}
theorem IH(hP:P.length<=1000):bx C [Wp C a l b s r P]=some (.tup (wH P)):=by
 have z:1000<=sizeLine:=by decide
 have hl:GG 1 (Ea (vT (t4 C (oS "past")) (c6 0))) (setAt 0) y6 (g9 i9 (c6 0) (kI 0)) [some (.obj (C+2) a [oS "book",oS "present",oS "rung",oS "past"] [b.d,s.d,.int r,.fro (P.map vS)])]=some (.lst (wH P)):=by
  have q:Ea (vT (t4 C (oS "past")) (c6 0)) [some (.obj (C+2) a [oS "book",oS "present",oS "rung",oS "past"] [b.d,s.d,.int r,.fro (P.map vS)])]=some (P.map vS):=by
   show(vT _ _ _).bind _=_
   rw[BE rfl Gu];rfl
  unfold GG
  rw[q,Option.bind_some,if_pos (by rw[List.length_map];omega)]
  exact congrArg (Option.map D.lst) (lN _ P)
 exact l4 (retS (i3 (m8 (Fq (ρ:=[]) rfl hl (D3 P)) rfl) rfl))
theorem HM(w:s.Wk b)(hl:s.lm<1000000000000000000):bS C [Wp C a l b s r P]=some (vz b s):=l4 (retS (i3 (m8 (BE rfl Fc) (m8 (BE rfl Cd) rfl)) (qS w hl)))
theorem Ja:cq C [Wp C a l b s r P]=some (.int r):=l4 (retS (BE rfl Gq))
theorem Hl:bW C [Wp C a l b s r P]=some s.d:=l4 (retS (BE rfl Cd))
def Gi(b:Bk)(s:WS)(r:Int)(P:List z9):D:=.tup [s.d,vz b s,.int r,.tup (wH P)]
theorem Fe{m:Str}{G:LD->OD}{ρ:R}{i:Nat}{d:D}(hm:[oS "book",oS "present",oS "rung",oS "past"].contains m=false)(h:c6 i ρ=some (Wp C a l b s r P))(hG:G [Wp C a l b s r P]=some d):C9 C m G (c6 i) c7 ρ=some d:=by
 show(c6 i ρ).bind _=_
 rw[h,Option.bind_some]
 show(if C+2=C+2/\_ then G [Wp C a l b s r P] else none)=_
 rw[if_pos ⟨rfl,hm⟩,hG]
theorem K6(w:s.Wk b)(hl:s.lm<1000000000000000000)(hP:P.length<=1000):aM C [Wp C a l b s r P]=some (Gi b s r P):=
 l4 (retS (tupS (m8 (Fe (by decide +kernel) rfl Hl) (m8 (Fe (by decide +kernel) rfl (HM w hl)) (m8 (Fe (by decide +kernel) rfl Ja) (m8 (Fe (by decide +kernel) rfl (IH hP)) rfl))))))
theorem FH(x:z9):bP C [Wp C a l b s r (P++[x])]=some (.non,Wp C a l b x.2.1 x.2.2 P):=by
 have hn:=EI (P++[x])
 have ln:wC 0 C (oS "past") (c8 vf (c4 (vT (t4 C (oS "past")) (c6 0)) c7)) [some (Wp C a l b s r (P++[x])),none]=some (.int (((P++[x]).map vS).length:Int)):=Fq (ρ:=[none]) rfl (i3 (m8 (BE rfl Gu) rfl) rfl) rfl
 have s1:B0 (k9 w9 (wC 0 C (oS "past") (c8 vf (c4 (vT (t4 C (oS "past")) (c6 0)) c7))) (kI 0)) (fun _ _=>none) vq [a,l] [some (Wp C a l b s r (P++[x])),none]=some (.nx [some (Wp C a l b s r (P++[x])),none]):=by
  show(k9 w9 _ _ _).bind _=_
  rw[tK (b:=false) ln rfl (by show some ((((P++[x]).map vS).length:Int)==0)=some false;rw[beq_eq_false_iff_ne.mpr (by simp;omega)])];rfl
 have s2:EF 1 0 C (oS "past") [a,l] [some (Wp C a l b s r (P++[x])),none]=some (.nx [some (Wp C a l b s r P),some (vS x)]):=by
  have e1:((P++[x]).map vS).getLast?=some (vS x):=by simp
  have e2:((P++[x]).map vS).dropLast=P.map vS:=by simp
  show(match ((P++[x]).map vS).getLast? with | some d=>(if _ then _ else none) | none=>none)=_
  rw[e1]
  show(if _ then some (MO.nx [some (Wo C a l b s r ((P++[x]).map vS).dropLast),some (vS x)]) else none)=_
  rw[if_pos ⟨rfl,by decide,by show 1<2;decide,rfl,wS,hn,by show(tB b.d&&(tB s.d&&(true&&(true&&true))))=true;rw[fZ,da];rfl,by simp⟩,e2];rfl
 have nb:∀ob:D,tP 0 [some ob,some (vS x)]=true:=fun ob=>by
  show(true&&(tB (vS x)&&true))=true
  rw[show tB (vS x)=true from gu _ _ _];rfl
 have s3:=Il (C:=C) (a:=a) (l:=l) (b:=b) (s:=s) (s':=x.2.1) (r:=r) (p:=P.map vS) (ρ:=[some (vS x)]) (f:=g9 i9 (c6 1) (kI 1)) (EI P) (nb _) (i8 rfl rfl rfl)
 have s4:=Ia (C:=C) (a:=a) (l:=l) (b:=b) (s:=x.2.1) (r:=r) (r':=x.2.2) (p:=P.map vS) (ρ:=[some (vS x)]) (f:=g9 i9 (c6 1) (kI 2)) (EI P) (nb _) (i8 rfl rfl rfl)
 have g:bC C [a,l] [some (Wp C a l b s r (P++[x])),none]=some (.nx [some (Wp C a l b x.2.1 x.2.2 P),some (vS x)]):=by
  show(B0 _ _ _ [a,l] _).bind _=_
  rw[s1,Option.bind_some]
  show(EF _ _ _ _ [a,l] _).bind _=_
  rw[s2,Option.bind_some]
  show(vD _ _ _ _ [a,l] _).bind _=_
  rw[show vD 0 C (oS "present") (g9 i9 (c6 1) (kI 1)) [a,l] [some (Wp C a l b s r P),some (vS x)]=_ from s3,Option.bind_some]
  exact s4
 show(bC C [a,l] [some (Wp C a l b s r (P++[x])),none]).bind _=_
 rw[g,Option.bind_some]
 exact if_pos ⟨rfl,rfl⟩
end
theorem vp{A:List Nat}{o:OD}(h:uE o=true):Bl A o=true:=by
 cases o with
 | none=>rfl
 | some d=>cases d<;>first | exact h | cases h
theorem JD{A:List Nat}{C a l:Nat}{b:Bk}{s:WS}{r:Int}{P:List z9}(h1:a∉A)(h2:l∉A):Bl A (some (Wp C a l b s r P))=true:=by
 show([a,l].all (fun x=>!A.contains x) && [b.d,s.d,.int r,.obj 0 l [] (P.map vS)].all okN)=true
 rw[Nr (EI P),Bool.and_true]
 simp[h1,h2]
theorem qK(s:WS):uS s.d<=5:=by
 have h:=mj s.held
 simp[WS.d,WS.alarmD,WS.lapsD,WS.countD,uS,uX,zz]
 omega
theorem rM(e:Ev):p5 e.d=true:=by
 cases e with
 | ticks n=>show(p5 (.str (oS "ticks"))&&(true&&true))=true;rw[show p5 (.str (oS "ticks"))=true by rw[p5];decide +kernel];rfl
 | down x=>show(p5 (.str (oS "down"))&&(p5 (.str x.x)&&true))=true;rw[iA,show p5 (.str (oS "down"))=true by rw[p5];decide +kernel];rfl
 | up x=>show(p5 (.str (oS "up"))&&(p5 (.str x.x)&&true))=true;rw[iA,show p5 (.str (oS "up"))=true by rw[p5];decide +kernel];rfl
theorem iz:∀P:List z9,t8 (wH P)=true
 | []=>rfl
 | x::P=>by show(p5 x.1.d&&t8 (wH P))=true;rw[rM,iz P];rfl
theorem kr:∀P:List z9,uX (wH P)<=1
 | []=>Nat.zero_le _
 | x::P=>by
  show max (uS x.1.d) (uX (wH P))<=1
  have h1:uS x.1.d<=1:=by cases x.1<;>exact Nat.le_refl 1
  have h2:=kr P
  omega
theorem rC(P:List z9):xD (.tup (wH P)) (.tup (wH P))=some false:=wY (by show uX _+1<=100;have:=kr P;omega) (by rw[p5];exact iz P)
theorem FW(b:Bk)(s:WS)(r:Int)(P:List z9):xm (Gi b s r P) (Gi b s r P)=some true:=
 yD (by show max (uS s.d) (max (uS (vz b s)) (max 0 (max (uX (wH P)+1) 0)))+1<=100;have:=qK s;have h2:uS (vz b s)=1:=rfl;have:=kr P;omega) (by show(p5 s.d&&(p5 (vz b s)&&(true&&(t8 (wH P)&&true))))=true;rw[kW,j4,iz];rfl)
theorem qV(b:Bk)(s:WS)(r:Int)(P:List z9):tB (Gi b s r P)=true:=bH (by show(p5 s.d&&(p5 (vz b s)&&(true&&(t8 (wH P)&&true))))=true;rw[kW,j4,iz];rfl)
theorem Oz{c:R->Option Bool}{u w:MU}{S:List Nat}{ρ:R}(h:c ρ=some false):B0 c u w S ρ=w S ρ:=by show(c ρ).bind _=_;rw[h];rfl
def Ah(b:Bk):WS->List Ev->Int
 | _,[]=>0
 | s,e::es=>xl b s e+Ah b (gone b s e) es
def BQ(b:Bk):WS->Int->List Ev->List z9
 | _,_,[]=>[]
 | s,r,e::es=>(e,s,r)::BQ b (gone b s e) (r+xl b s e) es
def We(C a l:Nat)(b:Bk)(es:List Ev):D:=Wp C a l b (s_ b l7 es) (Ah b l7 es) (BQ b l7 0 es)
def yj(b:Bk)(es:List Ev):D:=Gi b (s_ b l7 es) (Ah b l7 es) (BQ b l7 0 es)
theorem Dm(b:Bk)(s:WS)(es:List Ev)(e:Ev):s_ b s (es++[e])=gone b (s_ b s es) e:=Ex b s es [e]
theorem Cp(b:Bk)(e:Ev):∀(es:List Ev) (s:WS),Ah b s (es++[e])=Ah b s es+xl b (s_ b s es) e
 | [],s=>by show xl b s e+0=0+xl b s e;omega
 | x::es,s=>by
  show xl b s x+Ah b (gone b s x) (es++[e])=xl b s x+Ah b (gone b s x) es+xl b (s_ b (gone b s x) es) e
  rw[Cp b e es];omega
theorem yc(b:Bk)(e:Ev):∀(es:List Ev) (s:WS) (r:Int),BQ b s r (es++[e])=BQ b s r es++[(e,s_ b s es,r+Ah b s es)]
 | [],s,r=>by show [(e,s,r)]=[(e,s,r+0)];rw[Int.add_zero]
 | x::es,s,r=>by
  show(x,s,r)::BQ b (gone b s x) (r+xl b s x) (es++[e])=(x,s,r)::(BQ b (gone b s x) (r+xl b s x) es++[(e,s_ b (gone b s x) es,r+(xl b s x+Ah b (gone b s x) es))])
  rw[yc b e es,Int.add_assoc]
theorem zc(b:Bk):∀(es:List Ev) (s:WS) (r:Int),wH (BQ b s r es)=es.map Ev.d
 | [],_,_=>rfl
 | e::es,s,r=>congrArg (e.d::·) (zc b es _ _)
theorem Bg(b:Bk)(es:List Ev)(s:WS)(r:Int):(BQ b s r es).length=es.length:=by
 have:=congrArg List.length (zc b es s r)
 rw[List.length_map,show(wH (BQ b s r es)).length=(BQ b s r es).length from List.length_map ..] at this
 exact this
theorem Mn{e:Ev}(h:e.Lt):NH e<=130:=by
 cases e with
 | ticks n=>exact h.2
 | _=>show(0:Int)<=130;decide
theorem Ly{e:Ev}(h:e.Lt):A_ e:=by
 cases e with
 | ticks n=>exact⟨h.1,by have:n<=130:=h.2;omega⟩
 | _=>trivial
theorem CF{b:Bk}(ok:b.Ok):∀(es:List Ev) (s:WS),s.Ok b->(∀e∈es,e.Lt)->(s_ b s es).lm<=s.lm+130*es.length
 | [],s,_,_=>by show s.lm<=s.lm+130*0;omega
 | e::es,s,w,h=>by
  have he:=h e (.head _)
  have ih:=CF ok es (gone b s e) (D9 ok w e he.1) fun x hx=>h x (.tail _ hx)
  have:=Hw w.toWk e he.1
  have:=Mn he
  rw[List.length_cons]
  show(s_ b (gone b s e) es).lm<=_
  omega
def E6(es:List Ev):Prop:=(∀e∈es,e.Lt)/\es.length<=100
theorem E6.cat{es fs:List Ev}(h1:∀e∈es,e.Lt)(h2:∀e∈fs,e.Lt)(h:es.length+fs.length<=100):E6 (es++fs):=
 ⟨fun e he=>(List.mem_append.mp he).elim (h1 e) (h2 e),by rw[List.length_append];exact h⟩
section
variable{C a l:Nat}{b:Bk}{es:List Ev}
theorem rz(ok:b.Ok)(h:E6 es):(s_ b l7 es).Ok b:=BV ok (Cu ok) fun e he=>(h.1 e he).1
theorem K2(ok:b.Ok)(h:E6 es):(s_ b l7 es).lm<1000000000000000000:=by
 have h1:=CF ok es l7 (Cu ok) h.1
 have h2:=h.2
 have h3:l7.lm=0:=rfl
 omega
theorem Mu(ok:b.Ok)(h:E6 es){e:Ev}(he:e.Lt):a_ C [We C a l b es,e.d]=some (.non,We C a l b (es++[e])):=by
 have q:=Lr (C:=C) (a:=a) (l:=l) (r:=Ah b l7 es) (p:=(BQ b l7 0 es).map vS) ok (rz ok h).toWk e (Ly he) (by rw[List.length_map,Bg];have:=h.2;omega) (EI _)
 unfold We
 rw[yc,Cp,Dm,Int.zero_add]
 unfold Wp
 rw[<- KR]
 exact q
theorem Ln{e:Ev}:bP C [We C a l b (es++[e])]=some (.non,We C a l b es):=by
 have q:=FH (C:=C) (a:=a) (l:=l) (b:=b) (s:=s_ b l7 (es++[e])) (r:=Ah b l7 (es++[e])) (P:=BQ b l7 0 es) (e,s_ b l7 es,0+Ah b l7 es)
 rw[<- yc] at q
 have z:(0:Int)+Ah b l7 es=Ah b l7 es:=Int.zero_add _
 rw[z] at q
 exact q
theorem EQ(ok:b.Ok)(h:E6 es):aM C [We C a l b es]=some (yj b es):=K6 (rz ok h).toWk (K2 ok h) (by rw[Bg];have:=h.2;omega)
theorem Mo(h:E6 es):bx C [We C a l b es]=some (.tup (es.map Ev.d)):=by
 have q:=IH (C:=C) (a:=a) (l:=l) (b:=b) (s:=s_ b l7 es) (r:=Ah b l7 es) (P:=BQ b l7 0 es) (by rw[Bg];have:=h.2;omega)
 rw[zc] at q
 exact q
theorem zm{A:List Nat}(h1:a∉A)(h2:l∉A):Bl A (some (We C a l b es))=true:=JD h1 h2
end
theorem Gr(b:Bk)(es:List Ev):xD (yj b es) (yj b es)=some false:=by
 have h:=FW b (s_ b l7 es) (Ah b l7 es) (BQ b l7 0 es)
 show(xm _ _).map _=_
 rw[show xm (yj b es) (yj b es)=some true from h];rfl
theorem qr(b:Bk)(es:List Ev):tB (yj b es)=true:=qV _ _ _ _
theorem JE{i a l C:Nat}{b:Bk}{es:List Ev}{G:LD->Option (D×D)}{F:R->Option LD}{S:List Nat}{ρ:R}{d ob':D}{ds:LD}(h1:c6 i ρ=some (We C a l b es))(h2:F ρ=some ds)(h3:G ds=some (d,ob'))(h5:uF i [a,l] ρ=true)(h6:y9 S [a,l]=true):vQ (yg i G F) S ρ=some (.nx (ρ.set i (some ob'))):=by
 have q:yg i G F S ρ=some (d,ρ.set i (some ob')):=by
  unfold yg
  rw[h1,Option.bind_some,h2,Option.bind_some,h3,Option.bind_some]
  exact if_pos ⟨rfl,h5,h6⟩
 show(yg _ _ _ _ _).map _=_
 rw[q];rfl
theorem MA{i a l C:Nat}{b:Bk}{es:List Ev}{m:Str}{G:LD->Option (D×D)}{F:R->Option LD}{S:List Nat}{ρ:R}{d ob':D}{ds:LD}(h1:c6 i ρ=some (We C a l b es))(h2:F ρ=some ds)(h3:G (We C a l b es::ds)=some (d,ob'))(hm:[oS "book",oS "present",oS "rung",oS "past"].contains m=false)(h5:uF i [a,l] ρ=true)(h6:y9 S [a,l]=true):vQ (y3 i C m G F) S ρ=some (.nx (ρ.set i (some ob'))):=by
 have q:y3 i C m G F S ρ=some (d,ρ.set i (some ob')):=by
  unfold y3
  rw[h1,Option.bind_some,h2,Option.bind_some,h3,Option.bind_some]
  exact if_pos ⟨rfl,hm,h5,h6⟩
 show(y3 _ _ _ _ _ _ _).map _=_
 rw[q];rfl
theorem mN{u w:MU}{S:List Nat}{ρ ρ':R}(h:u S ρ=some (.nx ρ')):um u w S ρ=w S ρ':=by show(u S ρ).bind _=_;rw[h];rfl
theorem mP{p:R->Option Out}{S:List Nat}{ρ ρ':R}(h:p ρ=some (.nx ρ')):uP p S ρ=some (.nx ρ'):=by show(p ρ).bind _=_;rw[h];rfl
theorem Cy{it:R->Option LD}{vS:D->R->Option R}{u:MU}{S:List Nat}{ρ:R}{ds:LD}(h1:it ρ=some ds)(h2:m9 ds=true):CD it vS u S ρ=Bb vS u S ds ρ:=by
 unfold CD
 rw[h1,Option.bind_some,if_pos h2]
theorem DW{vS:D->R->Option R}{u:MU}{S:List Nat}{d:D}{ds:LD}{ρ ρ1 ρ2:R}(h1:vS d ρ=some ρ1)(h2:u S ρ1=some (.nx ρ2)):Bb vS u S (d::ds) ρ=Bb vS u S ds ρ2:=by
 show(vS d ρ).bind _=_
 rw[h1,Option.bind_some]
 show(u S ρ1).bind _=_
 rw[h2];rfl
section
variable{C a l:Nat}{b:Bk}{j:Nat}{u:MU}{S:List Nat}{T:OD->OD->R}
theorem AW(hset:∀W x d,setAt j d (T W x)=some (T W (some d)))(ht:∀(es:List Ev) (e:Ev),E6 es->e.Lt->u S (T (some (We C a l b es)) (some e.d))=some (.nx (T (some (We C a l b (es++[e]))) (some e.d)))) :
  ∀(xs es:List Ev) (x:OD),(∀e∈xs,e.Lt)->(∀e∈es,e.Lt)->es.length+xs.length<=100->uE x=true->∃x',uE x'=true/\Bb (setAt j) u S (xs.map Ev.d) (T (some (We C a l b es)) x)=some (.nx (T (some (We C a l b (es++xs))) x'))
 | [],es,x,_,_,_,hx=>⟨x,hx,by rw[List.append_nil];rfl⟩
 | e::xs,es,x,h1,h2,hl,_=>by
  rw[List.length_cons] at hl
  have he:=h1 e (.head _)
  obtain⟨x',hx',ih⟩:=AW hset ht xs (es++[e]) (some e.d) (fun y hy=>h1 y (.tail _ hy)) (E6.cat h2 (fun y hy=>by rw[List.mem_singleton.mp hy];exact he) (by show es.length+1<=100;omega)).1 (by rw[List.length_append];show es.length+1+_<=100;omega) (cZ e)
  refine⟨x',hx',(DW (hset _ _ _) (ht es e ⟨h2,by omega⟩ he)).trans (ih.trans ?_)⟩
  rw[List.append_assoc];rfl
theorem Dh(hset:∀W x d,setAt j d (T W x)=some (T W (some d)))(ht:∀(es:List Ev) (e:Ev) (d:D),tB d=true->u S (T (some (We C a l b (es++[e]))) (some d))=some (.nx (T (some (We C a l b es)) (some d))))(es:List Ev) :
  ∀(ds:LD) (xs:List Ev) (x:OD),ds.length=xs.length->m9 ds=true->uE x=true->∃x',uE x'=true/\Bb (setAt j) u S ds (T (some (We C a l b (es++xs))) x)=some (.nx (T (some (We C a l b es)) x'))
 | [],xs,x,hl,_,hx=>⟨x,hx,by rw[List.length_eq_zero_iff.mp hl.symm,List.append_nil];rfl⟩
 | d::ds,xs,x,hl,hn,_=>by
  have hn':(tB d&&m9 ds)=true:=hn
  rw[Bool.and_eq_true] at hn'
  rcases List.eq_nil_or_concat xs with rfl | ⟨ys,y,rfl⟩
  ·cases hl
  ·rw[List.concat_eq_append] at hl ⊢
   obtain⟨x',hx',ih⟩:=Dh hset ht es ds ys (some d) (by rw[List.length_append,List.length_cons] at hl;simp at hl;omega) hn'.2 hn'.1
   refine⟨x',hx',?_⟩
   rw[<- List.append_assoc]
   exact(DW (hset _ _ _) (ht (es++ys) y d hn'.1)).trans ih
end
section
variable{C a l:Nat}{b:Bk}{s:WS}{r:Int}{P:List z9}{es:List Ev}{S:List Nat}{ρ:R}
theorem IA:k9 w9 (wC 0 C (oS "past") (c8 vf (c4 (vT (t4 C (oS "past")) (c6 0)) c7))) (kI 0) [some (Wp C a l b s r P),none]=some (((P.map vS).length:Int)==0):=tK (Fq (ρ:=[none]) rfl (i3 (m8 (BE rfl Gu) rfl) rfl) rfl) rfl rfl
theorem LJ(hc:k9 w9 (wC 0 C (oS "past") (c8 vf (c4 (vT (t4 C (oS "past")) (c6 0)) c7))) (kI 0) ρ=some false):t_ C S ρ=(bC C S ρ).map .ok:=by
 have q:bC C S ρ=_:=mN (Oz hc)
 rw[q]
 show((k9 _ _ _ ρ).bind _:Option (Except Nat MO))=_
 rw[hc];rfl
theorem KM{x:z9}:k8 C [Wp C a l b s r (P++[x])]=some (.ok (.non,Wp C a l b x.2.1 x.2.2 P)):=by
 have q:=FH (C:=C) (a:=a) (l:=l) (b:=b) (s:=s) (r:=r) (P:=P) x
 have hc:k9 w9 (wC 0 C (oS "past") (c8 vf (c4 (vT (t4 C (oS "past")) (c6 0)) c7))) (kI 0) [some (Wp C a l b s r (P++[x])),none]=some false:=IA.trans (congrArg some (beq_eq_false_iff_ne.mpr (by simp;omega)))
 change (bC C [a,l] [some (Wp C a l b s r (P++[x])),none]).bind _=_ at q
 show(t_ C [a,l] [some (Wp C a l b s r (P++[x])),none]).bind _=_
 rw[LJ hc]
 cases hg:bC C [a,l] [some (Wp C a l b s r (P++[x])),none] with
 | none=>rw[hg] at q;cases q
 | some o =>
  rw[hg,Option.bind_some] at q
  cases o<;>first | exact congrArg (Option.map Except.ok) q | cases q
theorem Lu:k8 C [Wp C a l b s r []]=some (.error 1):=by
 show(t_ C [a,l] [some (Wp C a l b s r []),none]).bind _=_
 have q:t_ C [a,l] [some (Wp C a l b s r []),none]=some (.error 1):=by
  show((k9 _ _ _ _).bind _:Option (Except Nat MO))=_
  rw[IA];rfl
 rw[q];rfl
theorem Ov{e:Ev}:k8 C [We C a l b (es++[e])]=some (.ok (.non,We C a l b es)):=by
 have q:=KM (C:=C) (a:=a) (l:=l) (b:=b) (s:=s_ b l7 (es++[e])) (r:=Ah b l7 (es++[e])) (P:=BQ b l7 0 es) (x:=(e,s_ b l7 es,0+Ah b l7 es))
 rw[<- yc] at q
 have z:(0:Int)+Ah b l7 es=Ah b l7 es:=Int.zero_add _
 rw[z] at q
 exact q
theorem NM:xA C (oS "undo") 0 (k8 C) c7 [some (We C a l b es)]=k8 C [We C a l b es]:=if_pos ⟨rfl,by decide +kernel⟩
theorem Li{e:Ev}(h:c6 4 ρ=some (We C a l b (es++[e])))(hs:uF 4 [a,l] ρ=true)(hi:y9 S [a,l]=true)(hl:4<ρ.length):wF 0 [4] (xA C (oS "undo") 0 (k8 C) c7) sO S ρ=some (.tup [.str ua,.non],ρ.set 4 (some (We C a l b es))):=by
 have q:Au [4] ρ=some [We C a l b (es++[e])]:=by show(c6 4 ρ).bind _=_;rw[h];rfl
 unfold wF
 rw[q,Option.bind_some]
 show(xA C _ 0 _ c7 [some (We C a l b (es++[e]))]).bind _=_
 rw[NM,Ov,Option.bind_some]
 exact if_pos ⟨rfl,hs,hi,hl⟩
theorem Kw(h:c6 4 ρ=some (We C a l b [])):wF 0 [4] (xA C (oS "undo") 0 (k8 C) c7) sO S ρ=some (.tup [.str (oS "refused"),.int 1],ρ):=by
 have q:Au [4] ρ=some [We C a l b []]:=by show(c6 4 ρ).bind _=_;rw[h];rfl
 unfold wF
 rw[q,Option.bind_some]
 show(xA C _ 0 _ c7 [some (We C a l b [])]).bind _=_
 rw[NM,show k8 C [We C a l b []]=some (.error 1) from Lu,Option.bind_some]
 rfl
end
theorem HF:xD (.tup [.str ua,.non]) (.tup [.str ua,.non])=some false:=
 wY (by show 1<=100;decide) (by show(p5 (.str (oS "told"))&&(true&&true))=true;rw[show p5 (.str (oS "told"))=true by rw[p5];decide +kernel];rfl)
theorem GT:xm (.tup [.str (oS "refused"),.int 1]) (.tup [.str (oS "refused"),.int 1])=some true:=
 yD (by show 1<=100;decide) (by show(p5 (.str (oS "refused"))&&(true&&true))=true;rw[show p5 (.str (oS "refused"))=true by rw[p5];decide +kernel];rfl)
theorem E9{xs:LD}{k:Nat}(h:k<=xs.length):Kk (.tup xs) none (some (k:Int))=some (.tup (xs.take k)):=by
 show some (D.tup (cutD xs none (some (k:Int))))=_
 unfold cutD Dq
 dsimp only
 rw[if_neg (by omega),Int.toNat_natCast,Nat.min_eq_left h];rfl
theorem GY{xs:LD}{k:Nat}(h:k<=xs.length):Kk (.tup xs) (some (k:Int)) none=some (.tup (xs.drop k)):=by
 show some (D.tup (cutD xs (some (k:Int)) none))=_
 unfold cutD Dq
 dsimp only
 rw[if_neg (by omega),Int.toNat_natCast,Nat.min_eq_left h,List.take_of_length_le (by rw[List.length_drop];exact Nat.le_refl _)]
theorem ip(n:Int):m9 (uD 0 n)=true:=bT (fun _=>rfl) _
theorem qe{f:R->OD}{ρ:R}{n:Nat}(h:f ρ=some (.int n))(hn:n<=100):uT f ρ=some (uD 0 n):=by
 show(f ρ).bind _=_
 rw[h,Option.bind_some]
 exact if_pos ⟨by omega,by omega⟩
abbrev wu(Sc:D)(num:Int)(b:Bk)(rw:D)(w4 w5 o6 o7 o8 o9 o10 o11:OD):R:=[some Sc,some (.int num),some b.d,some rw,w4,w5,o6,o7,o8,o9,o10,o11]
section
variable{C:Nat}{S A:List Nat}{Sc rw:D}{num:Int}{b:Bk}{w4 w5 o6 o7 o8 o9 o10 o11:OD}
theorem K3{i:Nat}{ρ:R}(h:∀x∈ρ.set i none,Bl A x=true):uF i A ρ=true:=List.all_eq_true.mpr h
theorem G9(hS:tB Sc=true)(hr:tB rw=true)(h5:Bl A w5=true)(h:[o6,o7,o8,o9,o10,o11].all uE=true):uF 4 A (wu Sc num b rw w4 w5 o6 o7 o8 o9 o10 o11)=true:=by
 refine K3 fun x hx=>?_
 have hx':x=some Sc\/x=some (.int num)\/x=some b.d\/x=some rw\/x=none\/x=w5\/x ∈ [o6,o7,o8,o9,o10,o11]:=by simpa [wu,or_assoc] using hx
 rcases hx' with rfl | rfl | rfl | rfl | rfl | rfl | hx
 ·exact vp hS
 ·rfl
 ·exact vp (o:=some b.d) (fZ b)
 ·exact vp hr
 ·rfl
 ·exact h5
 ·exact vp (List.all_eq_true.mp h x hx)
theorem MG(hS:tB Sc=true)(hr:tB rw=true)(h4:Bl A w4=true)(h:[o6,o7,o8,o9,o10,o11].all uE=true):uF 5 A (wu Sc num b rw w4 w5 o6 o7 o8 o9 o10 o11)=true:=by
 refine K3 fun x hx=>?_
 have hx':x=some Sc\/x=some (.int num)\/x=some b.d\/x=some rw\/x=w4\/x=none\/x ∈ [o6,o7,o8,o9,o10,o11]:=by simpa [wu,or_assoc] using hx
 rcases hx' with rfl | rfl | rfl | rfl | rfl | rfl | hx
 ·exact vp hS
 ·rfl
 ·exact vp (o:=some b.d) (fZ b)
 ·exact vp hr
 ·exact h4
 ·rfl
 ·exact vp (List.all_eq_true.mp h x hx)
end
theorem Kx(b:Bk):yj b []=.tup [l7.d,vz b l7,.int 0,.tup []]:=rfl
theorem Ho(C:Nat)(ns:List Int):lH C [.fro (ns.map .int)]=some (.bl true):=by
 obtain⟨num,e0,_⟩:=xO ns 0 (by decide)
 obtain⟨n1,e1,_⟩:=xO ns 1 (by decide)
 obtain⟨n2,e2,_⟩:=xO ns 2 (by decide)
 obtain⟨bd,eb,hb,_⟩:=oW num
 obtain⟨b0,rfl,ok0⟩:=qO hb
 obtain⟨evs,er,hev,hl⟩:=pk n1 14 (by decide) (by decide)
 have hl14:evs.length<=14:=hl
 have hS:tB (.fro (ns.map D.int))=true:=bT (fun _=>rfl) ns
 generalize hSc:D.fro (ns.map .int)=Sc at *
 have ok:=Ge ok0 (vE num 77 / 4)
 have ey:=qL ok0 (vE num 77 / 4)
 generalize zN b0 (vE num 77 / 4)=b at *
 have hr:tB (.tup (evs.map Ev.d))=true:=bT cZ evs
 have s1:nO (yz 12 [Sc])=some (.nx (yz 12 [Sc,.int num])):=n4 (i3 rfl e0) rfl
 have s2:n_ (yz 12 [Sc,.int num])=some (.nx (yz 12 [Sc,.int num,b.d])):=n4 (i3 (m8 (i3 rfl eb) (m8 (i8 (i3 rfl (v5 num 77)) rfl rfl) rfl)) ey) rfl
 have s3:oq (yz 12 [Sc,.int num,b.d])=some (.nx (yz 12 [Sc,.int num,b.d,.tup (evs.map Ev.d)])):=n4 (i3 (m8 (i3 rfl e1) (m8 rfl rfl)) er) rfl
 refine l4 ((k7 s1).trans ((k7 s2).trans ((k7 s3).trans ?_)))
 refine FY (ds:=[b.d]) (ds':=[b.d]) (r:=.bl true) rfl rfl (by show 4<12;decide) (by show 5<12;decide) fun a l a' l' nd=>?_
 have nd':a' ∉ [a,l]/\l' ∉ [a,l]/\a ∉ [a',l']/\l ∉ [a',l']:=by
  simp only[List.nodup_cons,List.mem_cons,List.not_mem_nil,or_false,not_or,not_false_eq_true,List.nodup_nil,and_true] at *
  omega
 obtain⟨n1',n2',n3',n4'⟩:=nd'
 have i4:y9 [a,l,a',l'] [a,l]=true:=by simp[y9]
 have i5:y9 [a,l,a',l'] [a',l']=true:=by simp[y9]
 generalize hSS:[a,l,a',l']=S at *
 obtain⟨k,hk,hkl⟩:∃k:Nat,n2%((evs.length:Int)+1)=(k:Int)/\k<=evs.length:=by
  have h1:=Int.emod_nonneg n2 (b:=(evs.length:Int)+1) (by omega)
  have h2:=Int.emod_lt_of_pos n2 (b:=(evs.length:Int)+1) (by omega)
  exact⟨(n2%((evs.length:Int)+1)).toNat,by omega,by omega⟩
 have hdl:(evs.drop (evs.length - k)).length=k:=by rw[List.length_drop];omega
 have htd:evs.take (evs.length - k)++evs.drop (evs.length - k)=evs:=List.take_append_drop ..
 have hfl:evs.length - k<=evs.length:=by omega
 have hleft:(evs.length:Int) - (k:Int)=((evs.length - k:Nat):Int):=by omega
 have tk:(evs.map Ev.d).take (evs.length - k)=(evs.take (evs.length - k)).map Ev.d:=by rw[List.map_take]
 have dk:(evs.map Ev.d).drop (evs.length - k)=(evs.drop (evs.length - k)).map Ev.d:=by rw[List.map_drop]
 have hgo:∀x∈evs.take (evs.length - k),x.Lt:=fun x hx=>hev x (List.mem_of_mem_take hx)
 have hba:∀x∈evs.drop (evs.length - k),x.Lt:=fun x hx=>hev x (List.mem_of_mem_drop hx)
 have htl:(evs.take (evs.length - k)).length=evs.length - k:=by rw[List.length_take];omega
 have ll:(evs.map Ev.d).length=evs.length:=List.length_map ..
 generalize hleq:evs.length - k=f at *
 generalize hgoE:evs.take f=go at *
 generalize hbaE:evs.drop f=ba at *
 have fe:E6 evs:=⟨hev,by omega⟩
 have fg:E6 go:=⟨hgo,by omega⟩
 have f0:E6 []:=⟨fun _ h=>(by cases h),(by decide)⟩
 have hlen:∀ ρ:R,c6 3 ρ=some (.tup (evs.map Ev.d))->c8 vf (c4 (c6 3) c7) ρ=some (.int (evs.length:Int)):=fun ρ h=>i3 (m8 h rfl) (by show some (D.int ((evs.map Ev.d).length:Int))=_;rw[ll])
 have hsf:∀ ρ:R,c6 3 ρ=some (.tup (evs.map Ev.d))->c6 10 ρ=some (.int (f:Int))->D7 (c6 3) GH (aP (c6 10)) ρ=some (.tup (go.map Ev.d)):=fun ρ h h'=>AI h rfl (b:=some (f:Int)) (by show(c6 10 ρ).bind _=_;rw[h'];rfl) (by rw[E9 (by omega),tk])
 have hsb:∀ ρ:R,c6 3 ρ=some (.tup (evs.map Ev.d))->c6 10 ρ=some (.int (f:Int))->D7 (c6 3) (aP (c6 10)) GH ρ=some (.tup (ba.map Ev.d)):=fun ρ h h'=>AI h (a:=some (f:Int)) (by show(c6 10 ρ).bind _=_;rw[h'];rfl) rfl (by rw[GY (by omega),dk])
 have i3q:∀ ρ:R,c6 3 ρ=some (.tup (evs.map Ev.d))->yr (c6 3) ρ=some (evs.map Ev.d):=fun ρ h=>by show(c6 3 ρ).bind _=_;rw[h];rfl
 generalize hrw:D.tup (evs.map Ev.d)=rw_ at *
 have hA:uE (some (yj b evs))=true:=qr b evs
 generalize hWh:yj b evs=Wh at *
 obtain⟨x5,g5,l5⟩:=AW (C:=C) (a:=a) (l:=l) (b:=b) (j:=6) (u:=lh C) (S:=S) (T:=fun W x=>wu Sc num b rw_ W (some (We C a' l' b [])) x none none none none none) (fun _ _ _=>rfl) (fun fs e hf he=>JE (d:=.non) (es:=fs) rfl rfl (Mu ok hf he) (G9 hS hr (zm n1' n2') (by show(tB e.d&&true)=true;rw[cZ];rfl)) i4) evs [] none hev (fun _ h=>(by cases h)) (by show 0+_<=100;omega) rfl
 have s5:nR C S (wu Sc num b rw_ (some (We C a l b [])) (some (We C a' l' b [])) none none none none none none)=some (.nx (wu Sc num b rw_ (some (We C a l b evs)) (some (We C a' l' b [])) x5 none none none none none)):=(Cy (i3q _ rfl) (bT cZ evs)).trans l5
 have s6:nM C S (wu Sc num b rw_ (some (We C a l b evs)) (some (We C a' l' b [])) x5 none none none none none)=some (.nx (wu Sc num b rw_ (some (We C a l b evs)) (some (We C a' l' b [])) x5 (some Wh) none none none none)):=mP (n4 (i3 rfl ((EQ ok fe).trans (congrArg some hWh))) rfl)
 have s7:ou C S (wu Sc num b rw_ (some (We C a l b evs)) (some (We C a' l' b [])) x5 (some Wh) none none none none)=some (.nx (wu Sc num b rw_ (some (We C a l b evs)) (some (We C a' l' b [])) x5 (some Wh) (some (.int (k:Int))) none none none)):=mP (n4 (i8 (i3 (m8 rfl (m8 rfl rfl)) e2) (i8 (hlen _ rfl) rfl rfl) (by rw[<- hk];exact if_pos (by show(0:Int)<(evs.length:Int)+1;omega))) rfl)
 have q4:∀x6 x7 x8 x9 x10 x11:OD,uE x6=true->uE x7=true->uE x8=true->uE x9=true->uE x10=true->uE x11=true->[x6,x7,x8,x9,x10,x11].all uE=true:=fun x6 x7 x8 x9 x10 x11 h6 h7 h8 h9 h10 h11=>by
  show(uE x6&&(uE x7&&(uE x8&&(uE x9&&(uE x10&&(uE x11&&true))))))=true
  rw[h6,h7,h8,h9,h10,h11];rfl
 obtain⟨x8,g8,l8⟩:=Dh (C:=C) (a:=a) (l:=l) (b:=b) (j:=9) (u:=l_ C) (S:=S) (T:=fun W x=>wu Sc num b rw_ W (some (We C a' l' b [])) x5 (some Wh) (some (.int (k:Int))) x none none) (fun _ _ _=>rfl) (fun fs e d hd=>by
   show(wF _ _ _ _ S _).bind _=_
   rw[Li (ρ:=wu Sc num b rw_ (some (We C a l b (fs++[e]))) (some (We C a' l' b [])) x5 (some Wh) (some (.int (k:Int))) (some d) none none) (C:=C) (a:=a) (l:=l) (b:=b) (es:=fs) (e:=e) rfl (G9 hS hr (zm n1' n2') (q4 _ _ _ _ _ _ g5 hA rfl hd rfl rfl)) i4 (by show 4<12;decide),Option.bind_some]
   show(xD (.tup [.str ua,.non]) (.tup [.str ua,.non])).bind _=_
   rw[HF];rfl) go (uD 0 (k:Int)) ba none (by rw[fL,hdl];rfl) (ip _) rfl
 have s8:oh C S (wu Sc num b rw_ (some (We C a l b evs)) (some (We C a' l' b [])) x5 (some Wh) (some (.int (k:Int))) none none none)=some (.nx (wu Sc num b rw_ (some (We C a l b go)) (some (We C a' l' b [])) x5 (some Wh) (some (.int (k:Int))) x8 none none)):=by
  rw[htd] at l8
  exact(Cy (qe rfl (by omega)) (ip _)).trans l8
 have s9:oj C S (wu Sc num b rw_ (some (We C a l b go)) (some (We C a' l' b [])) x5 (some Wh) (some (.int (k:Int))) x8 none none)=some (.nx (wu Sc num b rw_ (some (We C a l b go)) (some (We C a' l' b [])) x5 (some Wh) (some (.int (k:Int))) x8 (some (.int (f:Int))) none)):=mP (n4 (i8 (hlen _ rfl) rfl (by rw[<- hleft];rfl)) rfl)
 obtain⟨x10,g10,l10⟩:=AW (C:=C) (a:=a') (l:=l') (b:=b) (j:=6) (u:=jX C) (S:=S) (T:=fun W x=>wu Sc num b rw_ (some (We C a l b go)) W x (some Wh) (some (.int (k:Int))) x8 (some (.int (f:Int))) none) (fun _ _ _=>rfl) (fun fs e hf he=>JE (d:=.non) (es:=fs) rfl rfl (Mu ok hf he) (MG hS hr (zm n3' n4') (q4 _ _ _ _ _ _ (cZ e) hA rfl g8 rfl rfl)) i5) go [] x5 hgo (fun _ h=>(by cases h)) (by show 0+_<=100;omega) g5
 have s10:me C S (wu Sc num b rw_ (some (We C a l b go)) (some (We C a' l' b [])) x5 (some Wh) (some (.int (k:Int))) x8 (some (.int (f:Int))) none)=some (.nx (wu Sc num b rw_ (some (We C a l b go)) (some (We C a' l' b go)) x10 (some Wh) (some (.int (k:Int))) x8 (some (.int (f:Int))) none)):=(Cy (by show(D7 _ _ _ _).bind _=_;rw[hsf _ rfl rfl];rfl) (bT cZ go)).trans l10
 have s11:lM C S (wu Sc num b rw_ (some (We C a l b go)) (some (We C a' l' b go)) x10 (some Wh) (some (.int (k:Int))) x8 (some (.int (f:Int))) none)=some (.nx (wu Sc num b rw_ (some (We C a l b go)) (some (We C a' l' b go)) x10 (some Wh) (some (.int (k:Int))) x8 (some (.int (f:Int))) none)):=
  mP ((yI (KZ (tK (i3 rfl (EQ ok fg)) (i3 rfl (EQ ok fg)) (Gr b _)) (tK (Fe (m:=oS "row") (by decide +kernel) rfl (Mo fg)) (hsf _ rfl rfl) (by have:=rC (BQ b l7 0 go);rw[zc] at this;exact this)))).trans rfl)
 obtain⟨x12,g12,l12⟩:=AW (C:=C) (a:=a) (l:=l) (b:=b) (j:=6) (u:=jT C) (S:=S) (T:=fun W x=>wu Sc num b rw_ W (some (We C a' l' b go)) x (some Wh) (some (.int (k:Int))) x8 (some (.int (f:Int))) none) (fun _ _ _=>rfl) (fun fs e hf he=>JE (d:=.non) (es:=fs) rfl rfl (Mu ok hf he) (G9 hS hr (zm n1' n2') (q4 _ _ _ _ _ _ (cZ e) hA rfl g8 rfl rfl)) i4) ba go x10 hba hgo (by omega) g10
 rw[htd] at l12
 have s12:mt C S (wu Sc num b rw_ (some (We C a l b go)) (some (We C a' l' b go)) x10 (some Wh) (some (.int (k:Int))) x8 (some (.int (f:Int))) none)=some (.nx (wu Sc num b rw_ (some (We C a l b evs)) (some (We C a' l' b go)) x12 (some Wh) (some (.int (k:Int))) x8 (some (.int (f:Int))) none)):=(Cy (by show(D7 _ _ _ _).bind _=_;rw[hsb _ rfl rfl];rfl) (bT cZ ba)).trans l12
 have s13:li C S (wu Sc num b rw_ (some (We C a l b evs)) (some (We C a' l' b go)) x12 (some Wh) (some (.int (k:Int))) x8 (some (.int (f:Int))) none)=some (.nx (wu Sc num b rw_ (some (We C a l b evs)) (some (We C a' l' b go)) x12 (some Wh) (some (.int (k:Int))) x8 (some (.int (f:Int))) none)):=
  mP ((yI (tK (i3 rfl ((EQ ok fe).trans (congrArg some hWh))) rfl (by rw[<- hWh];exact Gr b _))).trans rfl)
 obtain⟨x14,g14,l14⟩:=Dh (C:=C) (a:=a) (l:=l) (b:=b) (j:=9) (u:=jP C) (S:=S) (T:=fun W x=>wu Sc num b rw_ W (some (We C a' l' b go)) x12 (some Wh) (some (.int (k:Int))) x (some (.int (f:Int))) none) (fun _ _ _=>rfl) (fun fs e d hd=>MA (d:=.non) (es:=fs++[e]) rfl rfl Ln (by decide +kernel) (G9 hS hr (zm n1' n2') (q4 _ _ _ _ _ _ g12 hA rfl hd rfl rfl)) i4) [] (uD 0 (evs.length:Int)) evs x8 (by rw[fL];rfl) (ip _) g8
 have s14:lD C S (wu Sc num b rw_ (some (We C a l b evs)) (some (We C a' l' b go)) x12 (some Wh) (some (.int (k:Int))) x8 (some (.int (f:Int))) none)=some (.nx (wu Sc num b rw_ (some (We C a l b [])) (some (We C a' l' b go)) x12 (some Wh) (some (.int (k:Int))) x14 (some (.int (f:Int))) none)):=(Cy (qe (hlen _ rfl) (by omega)) (ip _)).trans l14
 have s15:lX C S (wu Sc num b rw_ (some (We C a l b [])) (some (We C a' l' b go)) x12 (some Wh) (some (.int (k:Int))) x14 (some (.int (f:Int))) none)=some (.nx (wu Sc num b rw_ (some (We C a l b [])) (some (We C a' l' b go)) x12 (some Wh) (some (.int (k:Int))) x14 (some (.int (f:Int))) (some (yj b [])))):=mP (n4 (i3 rfl (EQ ok f0)) rfl)
 have s16:lW C S (wu Sc num b rw_ (some (We C a l b [])) (some (We C a' l' b go)) x12 (some Wh) (some (.int (k:Int))) x14 (some (.int (f:Int))) (some (yj b [])))=some (.nx (wu Sc num b rw_ (some (We C a l b [])) (some (We C a' l' b go)) x12 (some Wh) (some (.int (k:Int))) x14 (some (.int (f:Int))) (some (yj b [])))):=
  mP ((yI (KZ (tK (i8 rfl rfl (by rw[Kx];rfl)) (i3 rfl (nT _)) (Lm _)) (tK (AI rfl (a:=some 2) rfl rfl (by rw[Kx];rfl)) (tupS (m8 rfl (m8 (tupS rfl) rfl))) (wY (by decide) (by decide))))).trans rfl)
 have s17:mh C S (wu Sc num b rw_ (some (We C a l b [])) (some (We C a' l' b go)) x12 (some Wh) (some (.int (k:Int))) x14 (some (.int (f:Int))) (some (yj b [])))=some (.rt (.bl true) (wu Sc num b rw_ (some (We C a l b [])) (some (We C a' l' b go)) x12 (some Wh) (some (.int (k:Int))) x14 (some (.int (f:Int))) (some (yj b [])))):=by
  show(wF _ _ _ _ S _).bind _=_
  rw[Kw (C:=C) (a:=a) (l:=l) (b:=b) rfl,Option.bind_some]
  show(xm (.tup [.str (oS "refused"),.int 1]) (.tup [.str (oS "refused"),.int 1])).bind _=_
  rw[GT,Option.bind_some]
  show(BD _ _).map _=_
  rw[GM (tK (i3 rfl (EQ ok f0)) rfl (FW _ _ _ _))];rfl
 exact⟨We C a l b [],We C a' l' b [],_,LO C a l b,LO C a' l' b,(mN s5).trans ((mN s6).trans ((mN s7).trans ((mN s8).trans ((mN s9).trans ((mN s10).trans ((mN s11).trans ((mN s12).trans ((mN s13).trans ((mN s14).trans ((mN s15).trans ((mN s16).trans s17)))))))))))⟩
end
end HW
set_option maxRecDepth 100000
namespace HW
open PySem PySem.Spec PyProof.Rows L2
variable{P:Program}{w:World}{K:W.Frag}{mg:Str->Option Value}{base:Heap}{k:Nat}{f:Addr}{fd:FuncData}
abbrev kF:Stmt:=top 16
theorem yf:c9 ["book","alarm","laps","count"] ["book"] (c5 kF):=tN
theorem qa(Fn:tE K "begun" "begun" kF f fd):k6 P w K mg base sR (k+1) f fd ["book"] (tQ K cP):=by
 refine ar Fn yf ?_
 intro _ _ _ _ _ _ hr
 refine aj ?_ ?_
 ·refine aA ?_ ?_
  ·exact ay (ac ae (ac ae (ac dt af)))
  exact al 1 yf.nd
 refine aj ?_ ?_
 ·refine aA ?_ ?_
  ·refine ay ?_
   refine ac ae ?_
   refine ac dt ?_
   refine ac ?_ af
   exact ay af
  exact al 2 yf.nd
 refine aj ?_ ?_
 ·refine aA ?_ ?_
  ·refine ay ?_
   exact ac ae (ac ae (ac ae (ac dt af)))
  exact al 3 yf.nd
 refine ao ?_
 refine ax ?_
 refine ay ?_
 refine ac ae ?_
 refine ac ae ?_
 refine ac (ad 1) ?_
 refine ac (ad 2) ?_
 exact ac (ad 3) (ac ae (ac aX (ac ae af)))
abbrev dg:Stmt:=top 80
theorem ia:c9 ["_law_script","_law_k"] ["_law_script","_law_k"] (c5 dg):=tN
theorem ic(tR:mg "len" = none)(Fn:tE K "_law_cell_at" "_law_cell_at" dg f fd):k6 P w K mg base sR (k+1) f fd ["_law_script","_law_k"] (tQ K bL):=by
 refine ar Fn ia ?_
 intro _ _ _ _ _ _ hr
 refine aj ?_ ?_
 ·refine cO ?_ ?_ aW
  ·refine aF nY (ad 1) ?_
   exact bp eL tR (ac (ad 0) af)
  refine ao ?_
  exact ax (ag (ad 0) (ad 1))
 refine ao ?_
 exact ax ae
abbrev eN:Stmt:=top 81
theorem xy:c9 ["_law_script","_law_k","_law_drawn_here"] ["_law_script","_law_k"] (c5 eN):=tN
theorem jM(vi:m7 P w K mg base k "_law_cell_at" ["_law_script","_law_k"] bL)(Fn:tE K "_law_mixed" "_law_mixed" eN f fd):k6 P w K mg base sR (k+1) f fd ["_law_script","_law_k"] (tQ K bD):=by
 refine ar Fn xy ?_
 intro _ _ _ _ _ _ hr
 refine aj ?_ ?_
 ·refine aA ?_ ?_
  ·refine ak aI ?_ ae
   refine ak cY ?_ ae
   refine ak aD ?_ ae
   refine ak aD ?_ ?_
   ·exact ai vi hr (ac (ad 0) (ac (ad 1) af))
   exact ak cY ae (ad 1)
  exact al 2 xy.nd
 refine ao ?_
 refine ax ?_
 refine ak aI ?_ ae
 refine ak aD ?_ (ad 1)
 refine ak aD ?_ ?_
 ·exact ak cY (ad 2) (ad 2)
 exact ak cY ae (ad 2)
abbrev eO:Stmt:=top 82
theorem xC:c9 ["_law_number","_law_k","_law_drawn_here"] ["_law_number","_law_k"] (c5 eO):=tN
theorem jr(Fn:tE K "_law_drawn" "_law_drawn" eO f fd):k6 P w K mg base sR (k+1) f fd ["_law_number","_law_k"] (tQ K aH):=by
 refine ar Fn xC ?_
 intro _ _ _ _ _ _ hr
 refine aj ?_ ?_
 ·refine aA ?_ ?_
  ·refine ak aI ?_ ae
   refine ak cY ?_ ae
   refine ak aD ?_ ae
   refine ak aD (ad 0) ?_
   exact ak cY ae (ad 1)
  exact al 2 xC.nd
 refine ao ?_
 refine ax ?_
 refine ak aI ?_ ae
 refine ak aD ?_ (ad 1)
 refine ak aD ?_ ?_
 ·exact ak cY (ad 2) (ad 2)
 exact ak cY ae (ad 2)
abbrev fk:Stmt:=top 83
theorem p8:c9 ["_law_number","_law_many","_law_deeds","_law_modes","_law_k","_law_drawn_here","_law_rows","_law_j","_law_one","_law_face"] ["_law_number"] (c5 fk):=tN
theorem kK(sP:m7 P w K mg base k "_law_drawn" ["_law_number","_law_k"] aH)(uu:mg "range" = none)(Fn:tE K "_law_book" "_law_book" fk f fd):k6 P w K mg base sR (k+1) f fd ["_law_number"] (tQ K cI):=by
 refine ar Fn p8 ?_
 intro _ _ _ _ _ _ hr
 refine aj ?_ ?_
 ·refine aA ?_ ?_
  ·refine ak aD ae ?_
   exact ak aI (ad 0) ae
  exact al 1 p8.nd
 refine aj ?_ ?_
 ·refine aA ?_ ?_
  ·refine ay ?_
   refine ac aB ?_
   refine ac aB ?_
   refine ac aB ?_
   refine ac aB ?_
   refine ac aB ?_
   refine ac aB ?_
   refine ac aB ?_
   refine ac aB ?_
   exact ac aB (ac aB (ac aB (ac aB af)))
  exact al 2 p8.nd
 refine aj ?_ ?_
 ·refine aA ?_ ?_
  ·exact ay af
  exact al 3 p8.nd
 refine aj ?_ ?_
 ·refine rA PassesOwn.never rfl ?_ ?_ ?_
  ·exact kB uu (ad 1)
  ·exact al 4 p8.nd
  refine aj ?_ ?_
  ·refine aA ?_ ?_
   ·refine ak bK ?_ ae
    exact ai sP hr (ac (ad 0) (ac (ad 4) af))
   exact al 5 p8.nd
  refine aj ?_ ?_
  ·refine aA ?_ ?_
   ·exact ay af
   exact al 6 p8.nd
  refine aj ?_ ?_
  ·refine rA PassesOwn.never rfl ?_ ?_ ?_
   ·exact kB uu ae
   ·exact al 7 p8.nd
   refine aj ?_ ?_
   ·refine aA ?_ ?_
    ·refine ak bK ?_ ae
     refine ai sP hr ?_
     refine ac (ad 5) ?_
     refine ac ?_ af
     exact ak aD ae (ad 7)
    exact al 8 p8.nd
   refine ao ?_
   refine aA ?_ ?_
   ·refine ak aD (ad 6) ?_
    refine ay ?_
    refine ac ?_ af
    refine ay ?_
    refine ac ?_ ?_
    ·refine ag ?_ ?_
     ·refine ak aD (ad 2) ?_
      exact ay (ac aB af)
     exact ak aI (ad 8) ae
    refine ac ?_ af
    refine ak aI ?_ (ad 1)
    exact ak bK (ad 8) ae
   exact al 6 p8.nd
  refine aj ?_ ?_
  ·refine aA ?_ ?_
   ·refine ag ?_ ?_
    ·refine ay ?_
     exact ac aB (ac aB (ac aB (ac aB af)))
    exact ak aI (ad 5) ae
   exact al 9 p8.nd
  refine ao ?_
  refine aA ?_ ?_
  ·refine ak aD (ad 3) ?_
   refine ay ?_
   refine ac ?_ af
   refine ay ?_
   refine ac (ad 9) ?_
   refine ac ?_ (ac (ad 6) af)
   refine dC (fz hr) ?_ ae
   refine ak aI ?_ ae
   exact ak bK (ad 5) ae
  exact al 3 p8.nd
 refine ao ?_
 refine ax ?_
 refine ay ?_
 refine ac ?_ ?_
 ·refine ak aD ae ?_
  refine ak aI ?_ ?_
  ·exact ak bK (ad 0) ae
  refine ag ?_ ?_
  ·exact ay (ac ae (ac ae af))
  refine ak aI ?_ ae
  exact ak bK (ad 0) ae
 refine ac ?_ (ac (ad 3) af)
 refine ag ?_ ?_
 ·refine ay ?_
  refine ac ae ?_
  exact ac ae (ac ae (ac ae (ac ae af)))
 refine ak aI ?_ ae
 exact ak bK (ad 0) ae
abbrev eh:Stmt:=top 84
theorem vB:c9 ["_law_number","_law_button","_law_kind"] ["_law_number"] (c5 eh):=tN
theorem jE(Fn:tE K "_law_event" "_law_event" eh f fd):k6 P w K mg base sR (k+1) f fd ["_law_number"] (tQ K bz):=by
 refine ar Fn vB ?_
 intro _ _ _ _ _ _ hr
 refine aj ?_ ?_
 ·refine aA ?_ ?_
  ·refine ag aB ?_
   refine ak aI ?_ ae
   exact ak bK (ad 0) ae
  exact al 1 vB.nd
 refine aj ?_ ?_
 ·refine aA ?_ ?_
  ·exact ak aI (ad 0) ae
  exact al 2 vB.nd
 refine aj ?_ ?_
 ·refine cO ?_ ?_ aW
  ·exact aF nY (ad 2) ae
  refine ao ?_
  refine ax ?_
  exact ay (ac aB (ac (ad 1) af))
 refine aj ?_ ?_
 ·refine cO ?_ ?_ aW
  ·exact aF nY (ad 2) ae
  refine ao ?_
  refine ax ?_
  exact ay (ac aB (ac (ad 1) af))
 refine ao ?_
 refine ax ?_
 refine ay ?_
 refine ac aB ?_
 refine ac ?_ af
 refine ak aD ae ?_
 refine ak aI ?_ ?_
 ·exact ak bK (ad 0) ae
 refine ag ?_ ?_
 ·exact ay (ac ae (ac ae (ac ae af)))
 refine ak aI ?_ ae
 exact ak bK (ad 0) ae
abbrev gc:Stmt:=top 85
theorem mG:c9 ["_law_number","_law_most"] ["_law_number","_law_most"] (c5 gc):=tN
theorem lq(sP:m7 P w K mg base k "_law_drawn" ["_law_number","_law_k"] aH)(v_:m7 P w K mg base k "_law_event" ["_law_number"] bz)(uu:mg "range" = none)(xj:mg "tuple" = none)(Fn:tE K "_law_row" "_law_row" gc f fd):k6 P w K mg base sR (k+1) f fd ["_law_number","_law_most"] (tQ K de):=by
 refine ar Fn mG ?_
 intro _ _ _ _ _ _ hr
 refine ao ?_
 refine ax ?_
 refine gj mq xj ?_
 refine ac ?_ af
 refine pj (T:=["_law_k"]) rfl ?_ ?_ ?_ ?_ (yH (by decide)) (show List.Nodup ((["_law_k"]:List Str)++(["_law_number" ,"_law_most"]:List Str)) from by decide +kernel)
 ·refine kB uu ?_
  refine ak aI (ad 0) ?_
  exact ak aD (ad 1) ae
 ·intro C s₃ H₃ fp
  exact al 0 (show List.Nodup (["_law_k" ,"_law_number" ,"_law_most"]:List Str) from by decide +kernel)
 ·intro C s₃ H₃ fp
  exact m_
 intro C s₃ H₃ fp
 refine ai v_ hr ?_
 refine ac ?_ af
 refine ak bK ?_ ae
 refine ai sP hr ?_
 refine ac (ad 1) ?_
 refine ac ?_ af
 exact ak aD ae (ad 0)
abbrev em:Stmt:=top 87
theorem vF:c9 ["_law_book_here","_law_number","_law_last","_law_rows"] ["_law_book_here","_law_number"] (c5 em):=tN
theorem jw(tR:mg "len" = none)(Fn:tE K "_law_ready" "_law_ready" em f fd):k6 P w K mg base sR (k+1) f fd ["_law_book_here","_law_number"] (tQ K ce):=by
 refine ar Fn vF ?_
 intro _ _ _ _ _ _ hr
 refine aj ?_ ?_
 ·refine cO ?_ ?_ aW
  ·refine aF (fz hr) ?_ ae
   exact ak aI (ad 1) ae
  refine ao ?_
  exact ax (ad 0)
 refine aj ?_ ?_
 ·refine aA ?_ ?_
  ·refine ak aI ?_ ?_
   ·exact ak bK (ad 1) ae
   exact bp eL tR (ac (ag (ad 0) ae) af)
  exact al 2 vF.nd
 refine aj ?_ ?_
 ·refine aA ?_ ?_
  ·refine ay ?_
   refine ac ?_ ?_
   ·exact ay (ac aB (ac ae af))
   refine ac ?_ ?_
   ·exact ay (ac aB (ac (ad 2) af))
   refine ac ?_ ?_
   ·exact ay (ac aB (ac ae af))
   refine ac ?_ ?_
   ·exact ay (ac aB (ac ae af))
   refine ac ?_ ?_
   ·exact ay (ac aB (ac ae af))
   refine ac ?_ af
   exact ay (ac aB (ac (ad 2) af))
  exact al 3 vF.nd
 refine ao ?_
 refine ax ?_
 refine ay ?_
 refine ac (ag (ad 0) ae) ?_
 refine ac (ag (ad 0) ae) ?_
 refine ac ?_ af
 refine ak aD ?_ ?_
 ·refine ay ?_
  refine ac ?_ af
  exact ay (ac aB (ac dt (ac (ad 3) af)))
 refine cX (ag (ad 0) ae) ?_ eQ
 exact eG ae
abbrev eE:Stmt:=inClass (top 77) 7
theorem jD:c9 ["self"] ["self"] (c5 eE):=tN
theorem jz{C:Nat}(cl:wl K C)(tS:q5 K C "rung")(Fn:tE K "rang" "Watch.rang" eE f fd):k6 P w K mg base sR (k+1) f fd ["self"] (tQ K (cq C)):=by
 refine ar Fn jD ?_
 intro _ _ _ _ _ _ hr
 refine ao ?_
 refine ax ?_
 exact ci cl tS (ad 0)
abbrev eZ:Stmt:=inClass (top 77) 9
theorem kh:c9 ["self"] ["self"] (c5 eZ):=tN
theorem kG(xj:mg "tuple" = none){C:Nat}(cl:wl K C)(tT:q5 K C "past")(Fn:tE K "row" "Watch.row" eZ f fd):k6 P w K mg base sR (k+1) f fd ["self"] (tQ K (bx C)):=by
 refine ar Fn kh ?_
 intro _ _ _ _ _ _ hr
 refine ao ?_
 refine ax ?_
 refine gj mq xj ?_
 refine ac ?_ af
 refine kR 0 C ?_
 refine pj (T:=["step"]) rfl ?_ ?_ ?_ (fun C s₃ H₃ fp=>(ag (ad 0) ae)) (yH (by decide)) (show List.Nodup ((["step"]:List Str)++(["self"]:List Str)) from by decide +kernel)
 ·refine sh ?_
  exact ci cl tT (ad 0)
 ·intro C s₃ H₃ fp
  exact al 0 (show List.Nodup (["step" ,"self"]:List Str) from by decide +kernel)
 intro C s₃ H₃ fp
 exact m_
abbrev gI:Stmt:=top 65
theorem zI:c9 ["number","texts"] ["number"] (c5 gI):=tN
theorem mX(xP:mg "reversed" = none)(AO:mg "str" = none)(Bu:t6 K mg "BLOCK" dY)(Fn:tE K "figures" "figures" gI f fd):k6 P w K mg base sR (k+1) f fd ["number"] (tQ K cz):=by
 refine ar Fn zI ?_
 intro _ _ _ _ _ _ hr
 refine pY 1 zI.nd af ?_
 refine io ?_ ?_
 ·refine qE ?_
  refine pG PassesOwn.never ?_
  exact aF rh (ad 0) (au Bu)
 refine io ?_ ?_
 ·refine nL 1 ?_
  exact gj qC AO (ac (ad 0) af)
 refine pL ?_
 refine ao ?_
 refine ax ?_
 exact qg rfl xP aB (ad 1)
abbrev dG:Stmt:=top 66
theorem jb:c9 ["number"] ["number"] (c5 dG):=tN
theorem iS(u6:m7 P w K mg base k "figures" ["number"] cz)(Fn:tE K "two_figures" "two_figures" dG f fd):k6 P w K mg base sR (k+1) f fd ["number"] (tQ K aK):=by
 refine ar Fn jb ?_
 intro _ _ _ _ _ _ hr
 refine ao ?_
 refine ax ?_
 refine sD ?_ (ac ae (ac aB af))
 exact ai u6 hr (ac (ad 0) af)
abbrev fu:Stmt:=top 67
theorem kz:c9 ["hour","minute"] ["hour","minute"] (c5 fu):=tN
theorem kC(q9:m7 P w K mg base k "two_figures" ["number"] aK)(Fn:tE K "hour_text" "hour_text" fu f fd):k6 P w K mg base sR (k+1) f fd ["hour","minute"] (tQ K bN):=by
 refine ar Fn kz ?_
 intro _ _ _ _ _ _ hr
 refine ao ?_
 refine ax ?_
 refine ak aD ?_ ?_
 ·refine ak aD ?_ aB
  exact ai q9 hr (ac (ad 0) af)
 exact ai q9 hr (ac (ad 1) af)
abbrev fB:Stmt:=top 69
theorem xZ:c9 ["state","clock"] ["state"] (c5 fB):=tN
theorem kE(uj:m7 P w K mg base k "hour_text" ["hour","minute"] bN)(q9:m7 P w K mg base k "two_figures" ["number"] aK)(sN:t6 K mg "CLOCK" aU)(Fn:tE K "time_text" "time_text" fB f fd):k6 P w K mg base sR (k+1) f fd ["state"] (tQ K cG):=by
 refine ar Fn xZ ?_
 intro _ _ _ _ _ _ hr
 refine aj ?_ ?_
 ·refine aA (ag (ad 0) (au sN)) ?_
  exact al 1 xZ.nd
 refine ao ?_
 refine ax ?_
 refine ak aD ?_ ?_
 ·refine ak aD ?_ aB
  refine ai uj hr ?_
  refine ac ?_ ?_
  ·exact ak bK (ad 1) ae
  refine ac ?_ af
  refine ak aI ?_ ae
  exact ak bK (ad 1) ae
 refine ai q9 hr ?_
 refine ac ?_ af
 exact ak aI (ad 1) ae
abbrev eD:Stmt:=top 70
theorem xx:c9 ["state","alarm"] ["state"] (c5 eD):=tN
theorem jF(uj:m7 P w K mg base k "hour_text" ["hour","minute"] bN)(sQ:t6 K mg "ALARM" aZ)(Fn:tE K "alarm_text" "alarm_text" eD f fd):k6 P w K mg base sR (k+1) f fd ["state"] (tQ K b_):=by
 refine ar Fn xx ?_
 intro _ _ _ _ _ _ hr
 refine aj ?_ ?_
 ·refine aA (ag (ad 0) (au sQ)) ?_
  exact al 1 xx.nd
 refine ao ?_
 refine ax ?_
 refine ak aD ?_ ?_
 ·refine ai uj hr ?_
  exact ac (ag (ad 1) ae) (ac (ag (ad 1) ae) af)
 refine ft ?_ aB aB
 exact db (ag (ad 1) ae)
abbrev dI:Stmt:=top 68
theorem jc:c9 ["seconds"] ["seconds"] (c5 dI):=tN
theorem iJ(u6:m7 P w K mg base k "figures" ["number"] cz)(q9:m7 P w K mg base k "two_figures" ["number"] aK)(Fn:tE K "minute_text" "minute_text" dI f fd):k6 P w K mg base sR (k+1) f fd ["seconds"] (tQ K br):=by
 refine ar Fn jc ?_
 intro _ _ _ _ _ _ hr
 refine ao ?_
 refine ax ?_
 refine ak aD ?_ ?_
 ·refine ak aD ?_ aB
  refine ai u6 hr ?_
  refine ac ?_ af
  exact ak bK (ad 0) ae
 refine ai q9 hr ?_
 refine ac ?_ af
 exact ak aI (ad 0) ae
abbrev fq:Stmt:=top 71
theorem vY:c9 ["state","laps","kept"] ["state"] (c5 fq):=tN
theorem le(tL:m7 P w K mg base k "minute_text" ["seconds"] br)(tR:mg "len" = none)(AO:mg "str" = none)(uf:t6 K mg "LAPS" bX)(Fn:tE K "laps_text" "laps_text" fq f fd):k6 P w K mg base sR (k+1) f fd ["state"] (tQ K cJ):=by
 refine ar Fn vY ?_
 intro _ _ _ _ _ _ hr
 refine aj ?_ ?_
 ·refine aA (ag (ad 0) (au uf)) ?_
  exact al 1 vY.nd
 refine aj ?_ ?_
 ·refine aA ?_ ?_
  ·exact bp eL tR (ac (ag (ad 1) ae) af)
  exact al 2 vY.nd
 refine ao ?_
 refine ax ?_
 refine ak aD ?_ ?_
 ·exact ai tL hr (ac (ag (ad 1) ae) af)
 refine ft ?_ ?_ aB
 ·exact aF gh (ad 2) ae
 refine ak aD aB ?_
 exact gj qC AO (ac (ad 2) af)
abbrev eS:Stmt:=top 72
theorem jA:c9 ["state"] ["state"] (c5 eS):=tN
theorem jC(tL:m7 P w K mg base k "minute_text" ["seconds"] br)(p6:t6 K mg "COUNT" aL)(Fn:tE K "count_text" "count_text" eS f fd):k6 P w K mg base sR (k+1) f fd ["state"] (tQ K cu):=by
 refine ar Fn jA ?_
 intro _ _ _ _ _ _ hr
 refine ao ?_
 refine ax ?_
 exact ai tL hr (ac (ag (ag (ad 0) (au p6)) ae) af)
abbrev kf:Stmt:=top 63
theorem zJ:c9 ["book","state","face","face_text"] ["book","state"] (c5 kf):=tN
theorem pQ(wa:m7 P w K mg base k "alarm_text" ["state"] b_)(wc:m7 P w K mg base k "count_text" ["state"] cu)(wN:m7 P w K mg base k "laps_text" ["state"] cJ)(wO:m7 P w K mg base k "time_text" ["state"] cG)(tU:t6 K mg "MODE" bR)(vH:t6 K mg "RING" d_)(we:Ct P w K mg base k "FACE_TEXTS" ut)(Fn:tE K "shown" "shown" kf f fd):k6 P w K mg base sR (k+1) f fd ["book","state"] (tQ K fK):=by
 refine ar Fn zJ ?_
 intro _ _ _ _ _ _ hr
 refine aj ?_ ?_
 ·refine aA ?_ ?_
  ·exact ag (ag (ag (ad 0) ae) (ag (ad 1) (au tU))) ae
  exact al 2 zJ.nd
 refine rB 3 zJ.nd we (ad 2) ?_
 intro fa G_ hF
 refine Fg ?_
 refine HG ?_
 refine zw ?_ ?_
 ·exact Jk (ad 2)
 refine zw ?_ ?_
 ·exact Ar hF hr (ac (ad 1) af)
 refine FZ ?_
 refine ac ?_ af
 exact dC gh (ag (ad 1) (au vH)) ae
abbrev dB:Stmt:=inClass (top 77) 5
theorem i_:c9 ["self"] ["self"] (c5 dB):=tN
theorem iK{C:Nat}(vI:m7 P w K mg base k "shown_going" ["book","state"] fK)(cl:wl K C)(vJ:q5 K C "book")(n6:q5 K C "present")(Fn:tE K "shown" "Watch.shown" dB f fd):k6 P w K mg base sR (k+1) f fd ["self"] (tQ K (bS C)):=by
 refine ar Fn i_ ?_
 intro _ _ _ _ _ _ hr
 refine ao ?_
 refine ax ?_
 refine ai vI hr ?_
 refine ac ?_ ?_
 ·exact ci cl vJ (ad 0)
 refine ac ?_ af
 exact ci cl n6 (ad 0)
abbrev dL:Stmt:=inClass (top 77) 6
theorem jm:c9 ["self"] ["self"] (c5 dL):=tN
theorem iD{C:Nat}(cl:wl K C)(n6:q5 K C "present")(Fn:tE K "state" "Watch.state" dL f fd):k6 P w K mg base sR (k+1) f fd ["self"] (tQ K (bW C)):=by
 refine ar Fn jm ?_
 intro _ _ _ _ _ _ hr
 refine ao ?_
 refine ax ?_
 exact ci cl n6 (ad 0)
abbrev ek:Stmt:=top 88
theorem jo:c9 ["_law_watch"] ["_law_watch"] (c5 ek):=tN
theorem jN{C:Nat}(cl:wl K C)(Dt:yC P w K mg base k C "rang" ["self"] (cq C))(AQ:yC P w K mg base k C "row" ["self"] (bx C))(Bv:yC P w K mg base k C "shown" ["self"] (bS C))(Bw:yC P w K mg base k C "state" ["self"] (bW C))(Fn:tE K "_law_asked" "_law_asked" ek f fd):k6 P w K mg base sR (k+1) f fd ["_law_watch"] (tQ K (aM C)):=by
 refine ar Fn jo ?_
 intro _ _ _ _ _ _ hr
 refine ao ?_
 refine ax ?_
 refine ay ?_
 refine ac ?_ ?_
 ·exact gp cl Bw hr (ad 0)
 refine ac ?_ ?_
 ·exact gp cl Bv hr (ad 0)
 refine ac ?_ ?_
 ·exact gp cl Dt hr (ad 0)
 refine ac ?_ af
 exact gp cl AQ hr (ad 0)
abbrev gY:Stmt:=top 41
theorem mW:c9 ["laps","many"] ["laps","many"] (c5 gY):=tN
theorem nF(Fn:tE K "laps_on" "laps_on" gY f fd):k6 P w K mg base sR (k+1) f fd ["laps","many"] (tQ K dS):=by
 refine ar Fn mW ?_
 intro _ _ _ _ _ _ hr
 refine ao ?_
 refine ax ?_
 refine ft ?_ ?_ (ad 0)
 ·exact db (ag (ad 0) ae)
 refine ay ?_
 refine ac ?_ (ac dt (ac (ag (ad 0) ae) af))
 exact ak aD (ag (ad 0) ae) (ad 1)
abbrev fY:Stmt:=top 42
theorem yU:c9 ["count","many","left"] ["count","many"] (c5 fY):=tN
theorem mv(uY:mg "max" = none)(Fn:tE K "count_on" "count_on" fY f fd):k6 P w K mg base sR (k+1) f fd ["count","many"] (tQ K dh):=by
 refine ar Fn yU ?_
 intro _ _ _ _ _ _ hr
 refine aj ?_ ?_
 ·refine cO ?_ ?_ aW
  ·refine ke ?_
   exact db (ag (ad 0) ae)
  refine ao ?_
  exact ax (ad 0)
 refine aj ?_ ?_
 ·refine aA ?_ ?_
  ·refine bp (ji rfl) uY ?_
   refine ac ae ?_
   refine ac ?_ af
   exact ak bQ (ag (ad 0) ae) (ad 1)
  exact al 2 yU.nd
 refine ao ?_
 refine ax ?_
 refine ay ?_
 refine ac (ag (ad 0) ae) ?_
 refine ac (ag (ad 0) ae) ?_
 refine ac (ad 2) ?_
 refine ac ?_ af
 exact dC gh (ad 2) ae
abbrev eK:Stmt:=top 37
theorem vA:c9 ["state","alarm","second"] ["state"] (c5 eK):=tN
theorem ju(sQ:t6 K mg "ALARM" aZ)(sN:t6 K mg "CLOCK" aU)(wq:t6 K mg "DAY" eT)(Fn:tE K "alarm_tick" "alarm_tick" eK f fd):k6 P w K mg base sR (k+1) f fd ["state"] (tQ K aO):=by
 refine ar Fn vA ?_
 intro _ _ _ _ _ _ hr
 refine aj ?_ ?_
 ·refine aA (ag (ad 0) (au sQ)) ?_
  exact al 1 vA.nd
 refine aj ?_ ?_
 ·refine cO ?_ ?_ aW
  ·refine ke ?_
   exact db (ag (ad 1) ae)
  refine ao ?_
  exact ax aX
 refine aj ?_ ?_
 ·refine aA ?_ ?_
  ·refine ak aD ?_ ?_
   ·exact ak cY ae (ag (ad 1) ae)
   exact ak cY ae (ag (ad 1) ae)
  exact al 2 vA.nd
 refine ao ?_
 refine ax ?_
 refine ak aD ?_ ae
 refine ak aI ?_ (au wq)
 refine ak bQ ?_ ae
 exact ak bQ (ad 2) (ag (ad 0) (au sN))
abbrev eI:Stmt:=top 38
theorem xu:c9 ["state","count"] ["state"] (c5 eI):=tN
theorem jB(p6:t6 K mg "COUNT" aL)(Fn:tE K "count_tick" "count_tick" eI f fd):k6 P w K mg base sR (k+1) f fd ["state"] (tQ K aY):=by
 refine ar Fn xu ?_
 intro _ _ _ _ _ _ hr
 refine aj ?_ ?_
 ·refine aA (ag (ad 0) (au p6)) ?_
  exact al 1 xu.nd
 refine ao ?_
 refine ax ?_
 refine ft ?_ (ag (ad 1) ae) aX
 exact db (ag (ad 1) ae)
abbrev fJ:Stmt:=top 39
theorem u0:c9 ["state","many","alarm","count","ticks"] ["state","many"] (c5 fJ):=tN
theorem kj(tW:m7 P w K mg base k "alarm_tick" ["state"] aO)(tX:m7 P w K mg base k "count_tick" ["state"] aY)(uY:mg "max" = none)(wq:t6 K mg "DAY" eT)(Fn:tE K "last_ring" "last_ring" fJ f fd):k6 P w K mg base sR (k+1) f fd ["state","many"] (tQ K cK):=by
 refine ar Fn u0 ?_
 intro _ _ _ _ _ _ hr
 refine aj ?_ ?_
 ·refine aA ?_ ?_
  ·exact ai tW hr (ac (ad 0) af)
  exact al 2 u0.nd
 refine aj ?_ ?_
 ·refine aA ?_ ?_
  ·exact ai tX hr (ac (ad 0) af)
  exact al 3 u0.nd
 refine pY 4 u0.nd af ?_
 refine io ?_ ?_
 ·refine rq ?_ ?_ ot
  ·refine fQ ?_
   refine nh ?_ ?_
   ·exact aF dU (ad 2) aX
   refine kP ?_
   exact aF ri (ad 2) (ad 1)
  refine nQ ?_
  refine nL 4 ?_
  refine ak bQ (ad 1) ?_
  refine ak aI ?_ (au wq)
  exact ak bQ (ad 1) (ad 2)
 refine io ?_ ?_
 ·refine rq ?_ ?_ ot
  ·refine fQ ?_
   refine nh ?_ ?_
   ·exact aF dU (ad 3) aX
   refine kP ?_
   exact aF ri (ad 3) (ad 1)
  refine nQ ?_
  exact nL 4 (ad 3)
 refine pL ?_
 refine ao ?_
 refine ax ?_
 exact qG rfl uY (ad 4)
abbrev gT:Stmt:=top 43
theorem zx:c9 ["state","many","last"] ["state","many"] (c5 gT):=tN
theorem nz(wQ:m7 P w K mg base k "last_ring" ["state","many"] cK)(uY:mg "max" = none)(wR:t6 K mg "FULL_RING" fF)(vH:t6 K mg "RING" d_)(Fn:tE K "ring_on" "ring_on" gT f fd):k6 P w K mg base sR (k+1) f fd ["state","many"] (tQ K dQ):=by
 refine ar Fn zx ?_
 intro _ _ _ _ _ _ hr
 refine aj ?_ ?_
 ·refine aA ?_ ?_
  ·exact ai wQ hr (ac (ad 0) (ac (ad 1) af))
  exact al 2 zx.nd
 refine aj ?_ ?_
 ·refine cO ?_ ?_ aW
  ·exact aF gt (ad 2) aX
  refine ao ?_
  refine ax ?_
  refine bp (ji rfl) uY ?_
  refine ac ae ?_
  refine ac ?_ af
  exact ak bQ (ag (ad 0) (au vH)) (ad 1)
 refine ao ?_
 refine ax ?_
 refine bp (ji rfl) uY ?_
 refine ac ae ?_
 refine ac ?_ af
 refine ak bQ (au wR) ?_
 exact ak bQ (ad 1) (ad 2)
abbrev gH:Stmt:=top 44
theorem nA:c9 ["held","many"] ["held","many"] (c5 gH):=tN
theorem nE(Fn:tE K "held_on" "held_on" gH f fd):k6 P w K mg base sR (k+1) f fd ["held","many"] (tQ K dO):=by
 refine ar Fn nA ?_
 intro _ _ _ _ _ _ hr
 refine aj ?_ ?_
 ·refine cO ?_ ?_ aW
  ·refine fQ ?_
   refine gZ ?_ ?_
   ·exact aF gt (ad 0) aX
   refine fR ?_
   exact aF gt (ag (ad 0) ae) aX
  refine ao ?_
  exact ax (ad 0)
 refine ao ?_
 refine ax ?_
 refine ay ?_
 refine ac (ag (ad 0) ae) ?_
 refine ac ?_ af
 exact ak aD (ag (ad 0) ae) (ad 1)
abbrev cL:Stmt:=top 45
theorem gW:c9 ["book","state"] ["book","state"] (c5 cL):=tN
theorem gM(uY:mg "max" = none)(uH:t6 K mg "IDLE" dq)(Fn:tE K "ticks_to_back" "ticks_to_back" cL f fd):k6 P w K mg base sR (k+1) f fd ["book","state"] (tQ K aV):=by
 refine ar Fn gW ?_
 intro _ _ _ _ _ _ hr
 refine ao ?_
 refine ax ?_
 refine bp (ji rfl) uY ?_
 refine ac ae ?_
 refine ac ?_ af
 exact ak bQ (ag (ad 0) ae) (ag (ad 1) (au uH))
abbrev gS:Stmt:=top 46
theorem zM:c9 ["book","state","many","ticks"] ["book","state","many"] (c5 gS):=tN
theorem nu(tj:m7 P w K mg base k "ticks_to_back" ["book","state"] aV)(q8:t6 K mg "HELD" bh)(uH:t6 K mg "IDLE" dq)(Fn:tE K "idle_on" "idle_on" gS f fd):k6 P w K mg base sR (k+1) f fd ["book","state","many"] (tQ K dN):=by
 refine ar Fn zM ?_
 intro _ _ _ _ _ _ hr
 refine aj ?_ ?_
 ·refine cO ?_ ?_ aW
  ·refine fQ ?_
   refine gZ ?_ ?_
   ·exact aF dU (ag (ad 1) (au q8)) aX
   refine fR ?_
   exact aF (fz hr) (ag (ad 0) ae) ae
  refine ao ?_
  exact ax (ag (ad 1) (au uH))
 refine aj ?_ ?_
 ·refine aA ?_ ?_
  ·exact ai tj hr (ac (ad 0) (ac (ad 1) af))
  exact al 3 zM.nd
 refine ao ?_
 refine ax ?_
 refine ft ?_ ?_ ?_
 ·exact aF nY (ad 2) (ad 3)
 ·exact ak aD (ag (ad 1) (au uH)) (ad 2)
 refine ak aI ?_ (ag (ad 0) ae)
 exact ak bQ (ad 2) (ad 3)
abbrev gX:Stmt:=top 47
theorem nk:c9 ["book","state","many"] ["book","state","many"] (c5 gX):=tN
theorem nG(xQ:m7 P w K mg base k "count_on" ["count","many"] dh)(yN:m7 P w K mg base k "held_on" ["held","many"] dO)(yO:m7 P w K mg base k "idle_on" ["book","state","many"] dN)(yP:m7 P w K mg base k "laps_on" ["laps","many"] dS)(yQ:m7 P w K mg base k "ring_on" ["state","many"] dQ)(sQ:t6 K mg "ALARM" aZ)(sN:t6 K mg "CLOCK" aU)(p6:t6 K mg "COUNT" aL)(wq:t6 K mg "DAY" eT)(q8:t6 K mg "HELD" bh)(uf:t6 K mg "LAPS" bX)(tU:t6 K mg "MODE" bR)(Fn:tE K "counted" "counted" gX f fd):k6 P w K mg base sR (k+1) f fd ["book","state","many"] (tQ K cC):=by
 refine ar Fn nk ?_
 intro _ _ _ _ _ _ hr
 refine ao ?_
 refine ax ?_
 refine ay ?_
 refine ac (ag (ad 1) (au tU)) ?_
 refine ac ?_ ?_
 ·refine ak aI ?_ (au wq)
  exact ak aD (ag (ad 1) (au sN)) (ad 2)
 refine ac (ag (ad 1) (au sQ)) ?_
 refine ac ?_ ?_
 ·refine ai yP hr ?_
  exact ac (ag (ad 1) (au uf)) (ac (ad 2) af)
 refine ac ?_ ?_
 ·refine ai xQ hr ?_
  exact ac (ag (ad 1) (au p6)) (ac (ad 2) af)
 refine ac ?_ ?_
 ·exact ai yQ hr (ac (ad 1) (ac (ad 2) af))
 refine ac ?_ ?_
 ·refine ai yN hr ?_
  exact ac (ag (ad 1) (au q8)) (ac (ad 2) af)
 refine ac ?_ af
 exact ai yO hr (ac (ad 0) (ac (ad 1) (ac (ad 2) af)))
abbrev fv:Stmt:=top 48
theorem kD:c9 ["book","state"] ["book","state"] (c5 fv):=tN
theorem la(tU:t6 K mg "MODE" bR)(Fn:tE K "goes_back" "goes_back" fv f fd):k6 P w K mg base sR (k+1) f fd ["book","state"] (tQ K cH):=by
 refine ar Fn kD ?_
 intro _ _ _ _ _ _ hr
 refine ao ?_
 refine ax ?_
 refine iU ?_ ?_
 ·exact dC gh (ag (ad 0) ae) ae
 refine iU ?_ ?_
 ·exact dC (sG hr) (ag (ad 1) (au tU)) ae
 refine iH ?_
 refine lf ?_
 exact ag (ag (ag (ad 0) ae) (ag (ad 1) (au tU))) ae
abbrev cN:Stmt:=top 49
theorem gJ:c9 ["book","state"] ["book","state"] (c5 cN):=tN
theorem gK(uY:mg "max" = none)(q8:t6 K mg "HELD" bh)(Fn:tE K "ticks_to_long" "ticks_to_long" cN f fd):k6 P w K mg base sR (k+1) f fd ["book","state"] (tQ K bE):=by
 refine ar Fn gJ ?_
 intro _ _ _ _ _ _ hr
 refine ao ?_
 refine ax ?_
 refine bp (ji rfl) uY ?_
 refine ac ae ?_
 refine ac ?_ af
 exact ak bQ (ag (ad 0) ae) (ag (ag (ad 1) (au q8)) ae)
abbrev eX:Stmt:=top 50
theorem ym:c9 ["book","state","held"] ["book","state"] (c5 eX):=tN
theorem km(wU:m7 P w K mg base k "goes_back" ["book","state"] cH)(tj:m7 P w K mg base k "ticks_to_back" ["book","state"] aV)(uV:m7 P w K mg base k "ticks_to_long" ["book","state"] bE)(q8:t6 K mg "HELD" bh)(Fn:tE K "turn_tick" "turn_tick" eX f fd):k6 P w K mg base sR (k+1) f fd ["book","state"] (tQ K bJ):=by
 refine ar Fn ym ?_
 intro _ _ _ _ _ _ hr
 refine aj ?_ ?_
 ·refine aA (ag (ad 1) (au q8)) ?_
  exact al 2 ym.nd
 refine aj ?_ ?_
 ·refine cO ?_ ?_ aW
  ·exact aF gt (ad 2) aX
  refine ao ?_
  refine ax ?_
  refine ft ?_ ?_ aX
  ·refine db ?_
   exact ai wU hr (ac (ad 0) (ac (ad 1) af))
  exact ai tj hr (ac (ad 0) (ac (ad 1) af))
 refine ao ?_
 refine ax ?_
 refine ft ?_ aX ?_
 ·exact aF gt (ag (ad 2) ae) aX
 exact ai uV hr (ac (ad 0) (ac (ad 1) af))
abbrev qo:Stmt:=top 17
theorem rL:c9 ["state","place","part"] ["state","place","part"] (c5 qo):=tN
theorem rS(Fn:tE K "put" "put" qo f fd):k6 P w K mg base sR (k+1) f fd ["state","place","part"] (tQ K aG):=by
 refine ar Fn rL ?_
 intro _ _ _ _ _ _ hr
 refine ao ?_
 refine ax ?_
 refine ak aD ?_ ?_
 ·refine ak aD ?_ ?_
  ·refine cX (ad 0) eQ ?_
   exact eG (ad 1)
  exact ay (ac (ad 2) af)
 refine cX (ad 0) ?_ eQ
 refine eG ?_
 exact ak aD (ad 1) ae
abbrev gC:Stmt:=top 19
theorem mQ:c9 ["state"] ["state"] (c5 gC):=tN
theorem nK(Fn:tE K "nothing" "nothing" gC f fd):k6 P w K mg base sR (k+1) f fd ["state"] (tQ K cU):=by
 refine ar Fn mQ ?_
 intro _ _ _ _ _ _ hr
 refine ao ?_
 exact ax (ad 0)
abbrev gO:Stmt:=top 20
theorem nc:c9 ["state"] ["state"] (c5 gO):=tN
theorem mK(n9:m7 P w K mg base k "put" ["state","place","part"] aG)(sN:t6 K mg "CLOCK" aU)(Fn:tE K "hour_on" "hour_on" gO f fd):k6 P w K mg base sR (k+1) f fd ["state"] (tQ K cT):=by
 refine ar Fn nc ?_
 intro _ _ _ _ _ _ hr
 refine ao ?_
 refine ax ?_
 refine ai n9 hr ?_
 refine ac (ad 0) ?_
 refine ac (au sN) ?_
 refine ac ?_ af
 refine ak aI ?_ ae
 exact ak aD (ag (ad 0) (au sN)) ae
abbrev e_:Stmt:=top 21
theorem v7:c9 ["state","clock","within"] ["state"] (c5 e_):=tN
theorem kL(n9:m7 P w K mg base k "put" ["state","place","part"] aG)(sN:t6 K mg "CLOCK" aU)(Fn:tE K "minute_on" "minute_on" e_ f fd):k6 P w K mg base sR (k+1) f fd ["state"] (tQ K bZ):=by
 refine ar Fn v7 ?_
 intro _ _ _ _ _ _ hr
 refine aj ?_ ?_
 ·refine aA (ag (ad 0) (au sN)) ?_
  exact al 1 v7.nd
 refine aj ?_ ?_
 ·refine aA ?_ ?_
  ·refine ak aI ?_ ae
   refine ak aD ?_ ae
   exact ak aI (ad 1) ae
  exact al 2 v7.nd
 refine ao ?_
 refine ax ?_
 refine ai n9 hr ?_
 refine ac (ad 0) ?_
 refine ac (au sN) ?_
 refine ac ?_ af
 refine ak aD ?_ (ad 2)
 refine ak bQ (ad 1) ?_
 exact ak aI (ad 1) ae
abbrev gR:Stmt:=top 22
theorem mT:c9 ["state"] ["state"] (c5 gR):=tN
theorem mM(n9:m7 P w K mg base k "put" ["state","place","part"] aG)(sN:t6 K mg "CLOCK" aU)(Fn:tE K "to_zero" "to_zero" gR f fd):k6 P w K mg base sR (k+1) f fd ["state"] (tQ K cS):=by
 refine ar Fn mT ?_
 intro _ _ _ _ _ _ hr
 refine ao ?_
 refine ax ?_
 refine ai n9 hr ?_
 refine ac (ad 0) ?_
 refine ac (au sN) ?_
 refine ac ?_ af
 refine ak bQ (ag (ad 0) (au sN)) ?_
 exact ak aI (ag (ad 0) (au sN)) ae
abbrev cM:Stmt:=top 23
theorem vP:c9 ["state","alarm"] ["state"] (c5 cM):=tN
theorem gQ(n9:m7 P w K mg base k "put" ["state","place","part"] aG)(sQ:t6 K mg "ALARM" aZ)(Fn:tE K "alarm_hour_on" "alarm_hour_on" cM f fd):k6 P w K mg base sR (k+1) f fd ["state"] (tQ K bi):=by
 refine ar Fn vP ?_
 intro _ _ _ _ _ _ hr
 refine aj ?_ ?_
 ·refine aA (ag (ad 0) (au sQ)) ?_
  exact al 1 vP.nd
 refine ao ?_
 refine ax ?_
 refine ai n9 hr ?_
 refine ac (ad 0) ?_
 refine ac (au sQ) ?_
 refine ac ?_ af
 refine ay ?_
 refine ac ?_ ?_
 ·refine ak aI ?_ ae
  exact ak aD (ag (ad 1) ae) ae
 exact ac (ag (ad 1) ae) (ac (ag (ad 1) ae) af)
abbrev cj:Stmt:=top 24
theorem vh:c9 ["state","alarm"] ["state"] (c5 cj):=tN
theorem fU(n9:m7 P w K mg base k "put" ["state","place","part"] aG)(sQ:t6 K mg "ALARM" aZ)(Fn:tE K "alarm_minute_on" "alarm_minute_on" cj f fd):k6 P w K mg base sR (k+1) f fd ["state"] (tQ K aT):=by
 refine ar Fn vh ?_
 intro _ _ _ _ _ _ hr
 refine aj ?_ ?_
 ·refine aA (ag (ad 0) (au sQ)) ?_
  exact al 1 vh.nd
 refine ao ?_
 refine ax ?_
 refine ai n9 hr ?_
 refine ac (ad 0) ?_
 refine ac (au sQ) ?_
 refine ac ?_ af
 refine ay ?_
 refine ac (ag (ad 1) ae) ?_
 refine ac ?_ (ac (ag (ad 1) ae) af)
 refine ak aI ?_ ae
 exact ak aD (ag (ad 1) ae) ae
abbrev dm:Stmt:=top 25
theorem wn:c9 ["state","alarm"] ["state"] (c5 dm):=tN
theorem ig(n9:m7 P w K mg base k "put" ["state","place","part"] aG)(sQ:t6 K mg "ALARM" aZ)(Fn:tE K "alarm_turned" "alarm_turned" dm f fd):k6 P w K mg base sR (k+1) f fd ["state"] (tQ K bv):=by
 refine ar Fn wn ?_
 intro _ _ _ _ _ _ hr
 refine aj ?_ ?_
 ·refine aA (ag (ad 0) (au sQ)) ?_
  exact al 1 wn.nd
 refine ao ?_
 refine ax ?_
 refine ai n9 hr ?_
 refine ac (ad 0) ?_
 refine ac (au sQ) ?_
 refine ac ?_ af
 refine ay ?_
 refine ac (ag (ad 1) ae) ?_
 refine ac (ag (ad 1) ae) ?_
 refine ac ?_ af
 exact lf (ag (ad 1) ae)
abbrev dE:Stmt:=top 26
theorem wM:c9 ["state","laps"] ["state"] (c5 dE):=tN
theorem jg(n9:m7 P w K mg base k "put" ["state","place","part"] aG)(uf:t6 K mg "LAPS" bX)(Fn:tE K "laps_turned" "laps_turned" dE f fd):k6 P w K mg base sR (k+1) f fd ["state"] (tQ K bG):=by
 refine ar Fn wM ?_
 intro _ _ _ _ _ _ hr
 refine aj ?_ ?_
 ·refine aA (ag (ad 0) (au uf)) ?_
  exact al 1 wM.nd
 refine ao ?_
 refine ax ?_
 refine ai n9 hr ?_
 refine ac (ad 0) ?_
 refine ac (au uf) ?_
 refine ac ?_ af
 refine ay ?_
 refine ac (ag (ad 1) ae) ?_
 refine ac ?_ (ac (ag (ad 1) ae) af)
 exact lf (ag (ad 1) ae)
abbrev fS:Stmt:=top 27
theorem yZ:c9 ["state","laps"] ["state"] (c5 fS):=tN
theorem mm(n9:m7 P w K mg base k "put" ["state","place","part"] aG)(tR:mg "len" = none)(uf:t6 K mg "LAPS" bX)(wV:t6 K mg "MOST_KEPT" fG)(Fn:tE K "lap_kept" "lap_kept" fS f fd):k6 P w K mg base sR (k+1) f fd ["state"] (tQ K di):=by
 refine ar Fn yZ ?_
 intro _ _ _ _ _ _ hr
 refine aj ?_ ?_
 ·refine aA (ag (ad 0) (au uf)) ?_
  exact al 1 yZ.nd
 refine aj ?_ ?_
 ·refine cO ?_ ?_ aW
  ·refine ke ?_
   exact db (ag (ad 1) ae)
  refine ao ?_
  refine ax ?_
  refine ai n9 hr ?_
  refine ac (ad 0) ?_
  refine ac (au uf) ?_
  refine ac ?_ af
  refine ay ?_
  refine ac ae ?_
  refine ac dt ?_
  refine ac ?_ af
  exact ay af
 refine aj ?_ ?_
 ·refine cO ?_ ?_ aW
  ·refine aF rh ?_ (au wV)
   exact bp eL tR (ac (ag (ad 1) ae) af)
  refine ao ?_
  exact ax (ad 0)
 refine ao ?_
 refine ax ?_
 refine ai n9 hr ?_
 refine ac (ad 0) ?_
 refine ac (au uf) ?_
 refine ac ?_ af
 refine ay ?_
 refine ac (ag (ad 1) ae) ?_
 refine ac dt ?_
 refine ac ?_ af
 refine ak aD (ag (ad 1) ae) ?_
 exact ay (ac (ag (ad 1) ae) af)
abbrev iQ:Stmt:=top 28
theorem oy:c9 ["state","minute","second"] ["state","minute","second"] (c5 iQ):=tN
theorem oA(n9:m7 P w K mg base k "put" ["state","place","part"] aG)(p6:t6 K mg "COUNT" aL)(Fn:tE K "set_to" "set_to" iQ f fd):k6 P w K mg base sR (k+1) f fd ["state","minute","second"] (tQ K bV):=by
 refine ar Fn oy ?_
 intro _ _ _ _ _ _ hr
 refine aj ?_ ?_
 ·refine cO ?_ ?_ aW
  ·exact db (ag (ag (ad 0) (au p6)) ae)
  refine ao ?_
  exact ax (ad 0)
 refine ao ?_
 refine ax ?_
 refine ai n9 hr ?_
 refine ac (ad 0) ?_
 refine ac (au p6) ?_
 refine ac ?_ af
 refine ay ?_
 refine ac (ad 1) ?_
 refine ac (ad 2) ?_
 refine ac ?_ (ac dt af)
 refine ak aD ?_ (ad 2)
 exact ak cY ae (ad 1)
abbrev cb:Stmt:=top 29
theorem va:c9 ["state","count"] ["state"] (c5 cb):=tN
theorem fX(uv:m7 P w K mg base k "set_to" ["state","minute","second"] bV)(p6:t6 K mg "COUNT" aL)(Fn:tE K "count_minute_on" "count_minute_on" cb f fd):k6 P w K mg base sR (k+1) f fd ["state"] (tQ K aR):=by
 refine ar Fn va ?_
 intro _ _ _ _ _ _ hr
 refine aj ?_ ?_
 ·refine aA (ag (ad 0) (au p6)) ?_
  exact al 1 va.nd
 refine ao ?_
 refine ax ?_
 refine ai uv hr ?_
 refine ac (ad 0) ?_
 refine ac ?_ (ac (ag (ad 1) ae) af)
 refine ak aI ?_ ae
 exact ak aD (ag (ad 1) ae) ae
abbrev cg:Stmt:=top 30
theorem ve:c9 ["state","count"] ["state"] (c5 cg):=tN
theorem fV(uv:m7 P w K mg base k "set_to" ["state","minute","second"] bV)(p6:t6 K mg "COUNT" aL)(Fn:tE K "count_second_on" "count_second_on" cg f fd):k6 P w K mg base sR (k+1) f fd ["state"] (tQ K aS):=by
 refine ar Fn ve ?_
 intro _ _ _ _ _ _ hr
 refine aj ?_ ?_
 ·refine aA (ag (ad 0) (au p6)) ?_
  exact al 1 ve.nd
 refine ao ?_
 refine ax ?_
 refine ai uv hr ?_
 refine ac (ad 0) ?_
 refine ac (ag (ad 1) ae) ?_
 refine ac ?_ af
 refine ak aI ?_ ae
 exact ak aD (ag (ad 1) ae) ae
abbrev iP:Stmt:=top 31
theorem AB:c9 ["state","count"] ["state"] (c5 iP):=tN
theorem oG(uv:m7 P w K mg base k "set_to" ["state","minute","second"] bV)(p6:t6 K mg "COUNT" aL)(Fn:tE K "filled" "filled" iP f fd):k6 P w K mg base sR (k+1) f fd ["state"] (tQ K dR):=by
 refine ar Fn AB ?_
 intro _ _ _ _ _ _ hr
 refine aj ?_ ?_
 ·refine aA (ag (ad 0) (au p6)) ?_
  exact al 1 AB.nd
 refine ao ?_
 refine ax ?_
 refine ai uv hr ?_
 refine ac (ad 0) ?_
 exact ac (ag (ad 1) ae) (ac (ag (ad 1) ae) af)
abbrev dj:Stmt:=top 32
theorem uU:c9 ["state","count","runs"] ["state"] (c5 dj):=tN
theorem il(n9:m7 P w K mg base k "put" ["state","place","part"] aG)(p6:t6 K mg "COUNT" aL)(Fn:tE K "count_turned" "count_turned" dj f fd):k6 P w K mg base sR (k+1) f fd ["state"] (tQ K bM):=by
 refine ar Fn uU ?_
 intro _ _ _ _ _ _ hr
 refine aj ?_ ?_
 ·refine aA (ag (ad 0) (au p6)) ?_
  exact al 1 uU.nd
 refine aj ?_ ?_
 ·refine aA ?_ ?_
  ·refine iU ?_ ?_
   ·exact lf (ag (ad 1) ae)
   refine iH ?_
   exact dC gh (ag (ad 1) ae) ae
  exact al 2 uU.nd
 refine ao ?_
 refine ax ?_
 refine ai n9 hr ?_
 refine ac (ad 0) ?_
 refine ac (au p6) ?_
 refine ac ?_ af
 refine ay ?_
 refine ac (ag (ad 1) ae) ?_
 exact ac (ag (ad 1) ae) (ac (ag (ad 1) ae) (ac (ad 2) af))
abbrev eR:Stmt:=top 34
theorem uJ:c9 ["book","state","press","rows","row","step"] ["book","state","press"] (c5 eR):=tN
theorem jI(uW:m7 P w K mg base k "alarm_hour_on" ["state"] bi)(uw:m7 P w K mg base k "alarm_minute_on" ["state"] aT)(vj:m7 P w K mg base k "alarm_turned" ["state"] bv)(ux:m7 P w K mg base k "count_minute_on" ["state"] aR)(uy:m7 P w K mg base k "count_second_on" ["state"] aS)(vk:m7 P w K mg base k "count_turned" ["state"] bM)(zS:m7 P w K mg base k "filled" ["state"] dR)(yR:m7 P w K mg base k "hour_on" ["state"] cT)(xR:m7 P w K mg base k "lap_kept" ["state"] di)(vK:m7 P w K mg base k "laps_turned" ["state"] bG)(wW:m7 P w K mg base k "minute_on" ["state"] bZ)(yS:m7 P w K mg base k "nothing" ["state"] cU)(n9:m7 P w K mg base k "put" ["state","place","part"] aG)(yT:m7 P w K mg base k "to_zero" ["state"] cS)(tU:t6 K mg "MODE" bR)(s_PRESSES:Jy K mg "PRESSES" cV)(Bx:Ct P w K mg base k "STEPS" w_)(Fn:tE K "press_done" "press_done" eR f fd):k6 P w K mg base sR (k+1) f fd ["book","state","press"] (tQ K bA):=by
 refine ar Fn uJ ?_
 intro _ _ _ _ _ _ hr
 refine aj ?_ ?_
 ·refine aA ?_ ?_
  ·exact ag (ag (ag (ad 0) ae) (ag (ad 1) (au tU))) ae
  exact al 3 uJ.nd
 refine aj ?_ ?_
 ·refine aA ?_ ?_
  ·refine ag (ad 3) ?_
   exact r_ s_PRESSES (ad 2)
  exact al 4 uJ.nd
 refine rB 5 uJ.nd Bx (ag (ad 4) ae) ?_
 intro fa G_ hF
 refine Fg ?_
 refine F_ n9 hr ?_
 refine zw ?_ ?_
 ·exact Ar hF hr (ac (ad 1) af)
 exact FZ (ac (au tU) (ac (ag (ad 4) ae) af))
abbrev iW:Stmt:=top 51
theorem Ai:c9 ["book","state","held"] ["book","state"] (c5 iW):=tN
theorem oH(tY:m7 P w K mg base k "press_done" ["book","state","press"] bA)(n9:m7 P w K mg base k "put" ["state","place","part"] aG)(q8:t6 K mg "HELD" bh)(tU:t6 K mg "MODE" bR)(Fn:tE K "turned" "turned" iW f fd):k6 P w K mg base sR (k+1) f fd ["book","state"] (tQ K fm):=by
 refine ar Fn Ai ?_
 intro _ _ _ _ _ _ hr
 refine aj ?_ ?_
 ·refine aA (ag (ad 1) (au q8)) ?_
  exact al 2 Ai.nd
 refine aj ?_ ?_
 ·refine cO ?_ ?_ aW
  ·exact aF gt (ad 2) aX
  refine ao ?_
  refine ax ?_
  exact ai n9 hr (ac (ad 1) (ac (au tU) (ac ae af)))
 refine ao ?_
 refine ax ?_
 refine ai tY hr ?_
 refine ac (ad 0) ?_
 refine ac ?_ ?_
 ·refine ai n9 hr ?_
  refine ac (ad 1) ?_
  refine ac (au q8) ?_
  refine ac ?_ af
  exact ay (ac (ag (ad 2) ae) (ac aX af))
 refine ac ?_ af
 exact sx (ag (ad 2) ae)
abbrev dJ:Stmt:=top 52
theorem jh:c9 ["book","state"] ["book","state"] (c5 dJ):=tN
theorem jk(u7:m7 P w K mg base k "counted" ["book","state","many"] cC)(uk:m7 P w K mg base k "turn_tick" ["book","state"] bJ)(zT:m7 P w K mg base k "turned" ["book","state"] fm)(Fn:tE K "behind_turn" "behind_turn" dJ f fd):k6 P w K mg base sR (k+1) f fd ["book","state"] (tQ K bF):=by
 refine ar Fn jh ?_
 intro _ _ _ _ _ _ hr
 refine ao ?_
 refine ax ?_
 refine ai zT hr ?_
 refine ac (ad 0) ?_
 refine ac ?_ af
 refine ai u7 hr ?_
 refine ac (ad 0) ?_
 refine ac (ad 1) ?_
 refine ac ?_ af
 exact ai uk hr (ac (ad 0) (ac (ad 1) af))
abbrev fH:Stmt:=top 53
theorem yi:c9 ["book","state","many","turn"] ["book","state","many"] (c5 fH):=tN
theorem kA(vL:m7 P w K mg base k "behind_turn" ["book","state"] bF)(uk:m7 P w K mg base k "turn_tick" ["book","state"] bJ)(Fn:tE K "stretches" "stretches" fH f fd):k6 P w K mg base sR (k+1) f fd ["book","state","many"] (tQ K bf):=by
 refine ar Fn yi ?_
 intro _ _ _ _ _ _ hr
 refine aj ?_ ?_
 ·refine aA ?_ ?_
  ·exact ai uk hr (ac (ad 0) (ac (ad 1) af))
  exact al 3 yi.nd
 refine aj ?_ ?_
 ·refine cO ?_ ?_ aW
  ·refine fQ ?_
   refine gZ ?_ ?_
   ·exact aF gt (ad 3) aX
   refine fR ?_
   exact aF gh (ad 3) (ad 2)
  refine ao ?_
  refine ax ?_
  refine mR ?_
  refine ac ?_ af
  exact ay (ac ae (ac (ad 1) (ac (ad 2) af)))
 refine ao ?_
 refine ax ?_
 refine mR ?_
 refine ac ?_ ?_
 ·exact ay (ac ae (ac (ad 1) (ac (ad 3) af)))
 refine ac ?_ af
 refine ay ?_
 refine ac (ad 3) ?_
 refine ac ?_ ?_
 ·exact ai vL hr (ac (ad 0) (ac (ad 1) af))
 refine ac ?_ af
 exact ak bQ (ad 2) (ad 3)
abbrev iG:Stmt:=top 54
theorem Ax:c9 ["book","state","many","last"] ["book","state","many"] (c5 iG):=tN
theorem oB(u7:m7 P w K mg base k "counted" ["book","state","many"] cC)(ul:m7 P w K mg base k "stretches" ["book","state","many"] bf)(Fn:tE K "ticked" "ticked" iG f fd):k6 P w K mg base sR (k+1) f fd ["book","state","many"] (tQ K fE):=by
 refine ar Fn Ax ?_
 intro _ _ _ _ _ _ hr
 refine aj ?_ ?_
 ·refine aA ?_ ?_
  ·refine ag ?_ ?_
   ·exact ai ul hr (ac (ad 0) (ac (ad 1) (ac (ad 2) af)))
   exact rj pX ae
  exact al 3 Ax.nd
 refine ao ?_
 refine ax ?_
 refine ai u7 hr ?_
 refine ac (ad 0) ?_
 exact ac (ag (ad 3) ae) (ac (ag (ad 3) ae) af)
abbrev je:Stmt:=top 59
theorem AF:c9 ["state","button","ticks"] ["state","button"] (c5 je):=tN
theorem oZ(n9:m7 P w K mg base k "put" ["state","place","part"] aG)(q8:t6 K mg "HELD" bh)(uH:t6 K mg "IDLE" dq)(vH:t6 K mg "RING" d_)(Fn:tE K "pushed" "pushed" je f fd):k6 P w K mg base sR (k+1) f fd ["state","button"] (tQ K fj):=by
 refine ar Fn AF ?_
 intro _ _ _ _ _ _ hr
 refine aj ?_ ?_
 ·refine cO ?_ ?_ aW
  ·exact aF dU (ag (ad 0) (au q8)) aX
  refine ao ?_
  exact ax (ad 0)
 refine aj ?_ ?_
 ·refine aA ?_ ?_
  ·refine ft ?_ aX ae
   exact aF gh (ag (ad 0) (au vH)) ae
  exact al 2 AF.nd
 refine ao ?_
 refine ax ?_
 refine ai n9 hr ?_
 refine ac ?_ (ac (au uH) (ac ae af))
 refine ai n9 hr ?_
 refine ac ?_ ?_
 ·exact ai n9 hr (ac (ad 0) (ac (au vH) (ac ae af)))
 refine ac (au q8) ?_
 refine ac ?_ af
 exact ay (ac (ad 1) (ac (ad 2) af))
abbrev eJ:Stmt:=top 61
theorem jq:c9 ["state","button"] ["state","button"] (c5 eJ):=tN
theorem jy(q8:t6 K mg "HELD" bh)(Fn:tE K "is_holding" "is_holding" eJ f fd):k6 P w K mg base sR (k+1) f fd ["state","button"] (tQ K bB):=by
 refine ar Fn jq ?_
 intro _ _ _ _ _ _ hr
 refine ao ?_
 refine ax ?_
 refine iU ?_ ?_
 ·exact dC dU (ag (ad 0) (au q8)) aX
 refine iH ?_
 exact dC (fz hr) (ag (ag (ad 0) (au q8)) ae) (ad 1)
abbrev fW:Stmt:=top 62
theorem lO:c9 ["state","button"] ["state","button"] (c5 fW):=tN
theorem lL(tZ:m7 P w K mg base k "is_holding" ["state","button"] bB)(q8:t6 K mg "HELD" bh)(Fn:tE K "is_short" "is_short" fW f fd):k6 P w K mg base sR (k+1) f fd ["state","button"] (tQ K cW):=by
 refine ar Fn lO ?_
 intro _ _ _ _ _ _ hr
 refine ao ?_
 refine ax ?_
 refine iU ?_ ?_
 ·exact ai tZ hr (ac (ad 0) (ac (ad 1) af))
 refine iH ?_
 exact dC dU (ag (ag (ad 0) (au q8)) ae) aX
abbrev jn:Stmt:=top 60
theorem Az:c9 ["book","state","button"] ["book","state","button"] (c5 jn):=tN
theorem oY(tZ:m7 P w K mg base k "is_holding" ["state","button"] bB)(xS:m7 P w K mg base k "is_short" ["state","button"] cW)(tY:m7 P w K mg base k "press_done" ["book","state","press"] bA)(n9:m7 P w K mg base k "put" ["state","place","part"] aG)(q8:t6 K mg "HELD" bh)(uH:t6 K mg "IDLE" dq)(Fn:tE K "let_go" "let_go" jn f fd):k6 P w K mg base sR (k+1) f fd ["book","state","button"] (tQ K fh):=by
 refine ar Fn Az ?_
 intro _ _ _ _ _ _ hr
 refine aj ?_ ?_
 ·refine cO ?_ ?_ aW
  ·refine ke ?_
   refine db ?_
   exact ai tZ hr (ac (ad 1) (ac (ad 2) af))
  refine ao ?_
  exact ax (ad 1)
 refine aj ?_ ?_
 ·refine cO ?_ ?_ aW
  ·refine db ?_
   exact ai xS hr (ac (ad 1) (ac (ad 2) af))
  refine ao ?_
  refine aA ?_ ?_
  ·exact ai tY hr (ac (ad 0) (ac (ad 1) (ac (ad 2) af)))
  exact al 1 Az.nd
 refine ao ?_
 refine ax ?_
 refine ai n9 hr ?_
 refine ac ?_ (ac (au uH) (ac ae af))
 exact ai n9 hr (ac (ad 1) (ac (au q8) (ac aX af)))
abbrev ng:Stmt:=top 58
theorem qP:c9 ["book","state","event"] ["book","state","event"] (c5 ng):=tN
theorem qT(zU:m7 P w K mg base k "let_go" ["book","state","button"] fh)(zV:m7 P w K mg base k "pushed" ["state","button"] fj)(zW:m7 P w K mg base k "ticked" ["book","state","many"] fE)(Fn:tE K "gone" "gone" ng f fd):k6 P w K mg base sR (k+1) f fd ["book","state","event"] (tQ K gE):=by
 refine ar Fn qP ?_
 intro _ _ _ _ _ _ hr
 refine aj ?_ ?_
 ·refine cO ?_ ?_ aW
  ·exact aF (fz hr) (ag (ad 2) ae) aB
  refine ao ?_
  refine ax ?_
  exact ai zV hr (ac (ad 1) (ac (ag (ad 2) ae) af))
 refine aj ?_ ?_
 ·refine cO ?_ ?_ aW
  ·exact aF (fz hr) (ag (ad 2) ae) aB
  refine ao ?_
  refine ax ?_
  refine ai zU hr ?_
  exact ac (ad 0) (ac (ad 1) (ac (ag (ad 2) ae) af))
 refine ao ?_
 refine ax ?_
 refine ai zW hr ?_
 exact ac (ad 0) (ac (ad 1) (ac (ag (ad 2) ae) af))
abbrev dW:Stmt:=top 40
theorem t9:c9 ["state","many","alarm","count","of_alarm","of_count"] ["state","many"] (c5 dW):=tN
theorem jJ(tW:m7 P w K mg base k "alarm_tick" ["state"] aO)(tX:m7 P w K mg base k "count_tick" ["state"] aY)(wq:t6 K mg "DAY" eT)(Fn:tE K "ring_count" "ring_count" dW f fd):k6 P w K mg base sR (k+1) f fd ["state","many"] (tQ K bq):=by
 refine ar Fn t9 ?_
 intro _ _ _ _ _ _ hr
 refine aj ?_ ?_
 ·refine aA ?_ ?_
  ·exact ai tW hr (ac (ad 0) af)
  exact al 2 t9.nd
 refine aj ?_ ?_
 ·refine aA ?_ ?_
  ·exact ai tX hr (ac (ad 0) af)
  exact al 3 t9.nd
 refine aj ?_ ?_
 ·refine aA ?_ ?_
  ·refine ft ?_ ae ?_
   ·refine fQ ?_
    refine gZ ?_ ?_
    ·exact aF gt (ad 2) aX
    refine fR ?_
    exact aF gh (ad 2) (ad 1)
   refine ak aD ?_ ae
   refine ak bK ?_ (au wq)
   exact ak bQ (ad 1) (ad 2)
  exact al 4 t9.nd
 refine aj ?_ ?_
 ·refine aA ?_ ?_
  ·refine ft ?_ ae ae
   refine fQ ?_
   refine gZ ?_ ?_
   ·exact aF gt (ad 3) aX
   refine gZ ?_ ?_
   ·exact aF gh (ad 3) (ad 1)
   refine fR ?_
   exact aF (nJ hr) (ad 3) (ad 2)
  exact al 5 t9.nd
 refine ao ?_
 refine ax ?_
 exact ak aD (ad 4) (ad 5)
abbrev cx:Stmt:=top 75
theorem gn:c9 ["book","state","many"] ["book","state","many"] (c5 cx):=tN
theorem gz(wf:m7 P w K mg base k "ring_count" ["state","many"] bq)(ul:m7 P w K mg base k "stretches" ["book","state","many"] bf)(GA:mg "sum" = none)(Fn:tE K "how_many_rings" "how_many_rings" cx f fd):k6 P w K mg base sR (k+1) f fd ["book","state","many"] (tQ K bw):=by
 refine ar Fn gn ?_
 intro _ _ _ _ _ _ hr
 refine ao ?_
 refine ax ?_
 refine rG rfl GA ?_
 refine pj (T:=["stretch"]) rfl ?_ ?_ ?_ ?_ (yH (by decide)) (show List.Nodup ((["stretch"]:List Str)++(["book" ,"state" ,"many"]:List Str)) from by decide +kernel)
 ·refine rZ ?_
  exact ai ul hr (ac (ad 0) (ac (ad 1) (ac (ad 2) af)))
 ·intro C s₃ H₃ fp
  exact al 0 (show List.Nodup (["stretch" ,"book" ,"state" ,"many"]:List Str) from by decide +kernel)
 ·intro C s₃ H₃ fp
  exact m_
 intro C s₃ H₃ fp
 refine ai wf hr ?_
 exact ac (ag (ad 0) ae) (ac (ag (ad 0) ae) af)
abbrev gb:Stmt:=top 78
theorem lE:c9 ["book","state","event"] ["book","state","event"] (c5 gb):=tN
theorem lQ(uI:m7 P w K mg base k "how_many_rings" ["book","state","many"] bw)(Fn:tE K "rings_by" "rings_by" gb f fd):k6 P w K mg base sR (k+1) f fd ["book","state","event"] (tQ K cB):=by
 refine ar Fn lE ?_
 intro _ _ _ _ _ _ hr
 refine ao ?_
 refine ax ?_
 refine ft ?_ ?_ ae
 ·exact aF (fz hr) (ag (ad 2) ae) aB
 refine ai uI hr ?_
 exact ac (ad 0) (ac (ad 1) (ac (ag (ad 2) ae) af))
abbrev df:Stmt:=inClass (top 77) 4
theorem uR:c9 ["self","event","behind","rung"] ["self","event"] (c5 df):=tN
theorem ik(Du:m7 P w K mg base k "gone" ["book","state","event"] gE)(xT:m7 P w K mg base k "rings_by" ["book","state","event"] cB){C:Nat}(cl:wl K C)(vJ:q5 K C "book")(tT:q5 K C "past")(n6:q5 K C "present")(tS:q5 K C "rung")(Fn:tE K "happen" "Watch.happen" df f fd):k6 P w K mg base sR (k+1) f fd ["self","event"] (CK K 0 (aN C)):=by
 refine fM (j:=0) Fn uR ?_
 intro _ _ _ _ _ _ hr
 refine aJ ?_ ?_
 ·refine cF ?_
  refine aA ?_ ?_
  ·refine ai Du hr ?_
   refine ac ?_ ?_
   ·exact ci cl vJ (ad 0)
   refine ac ?_ (ac (ad 1) af)
   exact ci cl n6 (ad 0)
  exact al 2 uR.nd
 refine aJ ?_ ?_
 ·refine cF ?_
  refine aA ?_ ?_
  ·refine ak aD ?_ ?_
   ·exact ci cl tS (ad 0)
   refine ai xT hr ?_
   refine ac ?_ ?_
   ·exact ci cl vJ (ad 0)
   refine ac ?_ (ac (ad 1) af)
   exact ci cl n6 (ad 0)
  exact al 3 uR.nd
 refine aJ ?_ ?_
 ·refine si 0 cl tT ?_
  refine ay ?_
  refine ac (ad 1) ?_
  refine ac ?_ ?_
  ·exact ci cl n6 (ad 0)
  refine ac ?_ af
  exact ci cl tS (ad 0)
 refine aJ ?_ ?_
 ·exact dX 0 cl n6 (ad 2)
 refine bj ?_
 exact dX 0 cl tS (ad 3)
abbrev eM:Stmt:=inClass (top 77) 1
theorem jv:c9 ["self","button"] ["self","button"] (c5 eM):=tN
theorem jx{C:Nat}(cl:wl K C)(uz:v9 P w K mg base k C "happen" ["self","event"] (aN C))(Fn:tE K "down" "Watch.down" eM f fd):k6 P w K mg base sR (k+1) f fd ["self","button"] (CK K 0 (bo C)):=by
 refine fM (j:=0) Fn jv ?_
 intro _ _ _ _ _ _ hr
 refine bj ?_
 refine nv 0 cl uz hr ?_
 refine ac ?_ af
 exact ay (ac aB (ac (ad 1) af))
abbrev dH:Stmt:=inClass (top 77) 3
theorem jd:c9 ["self","many"] ["self","many"] (c5 dH):=tN
theorem iO{C:Nat}(cl:wl K C)(uz:v9 P w K mg base k C "happen" ["self","event"] (aN C))(Fn:tE K "ticks" "Watch.ticks" dH f fd):k6 P w K mg base sR (k+1) f fd ["self","many"] (CK K 0 (bU C)):=by
 refine fM (j:=0) Fn jd ?_
 intro _ _ _ _ _ _ hr
 refine bj ?_
 refine nv 0 cl uz hr ?_
 refine ac ?_ af
 exact ay (ac aB (ac (ad 1) af))
abbrev fT:Stmt:=inClass (top 77) 2
theorem my:c9 ["self","button"] ["self","button"] (c5 fT):=tN
theorem mr{C:Nat}(cl:wl K C)(uz:v9 P w K mg base k C "happen" ["self","event"] (aN C))(Fn:tE K "up" "Watch.up" fT f fd):k6 P w K mg base sR (k+1) f fd ["self","button"] (CK K 0 (bY C)):=by
 refine fM (j:=0) Fn my ?_
 intro _ _ _ _ _ _ hr
 refine bj ?_
 refine nv 0 cl uz hr ?_
 refine ac ?_ af
 exact ay (ac aB (ac (ad 1) af))
abbrev dD:Stmt:=top 89
theorem iI:c9 ["_law_watch","_law_event_here"] ["_law_watch","_law_event_here"] (c5 dD):=tN
theorem iY{C:Nat}(cl:wl K C)(Dv:v9 P w K mg base k C "down" ["self","button"] (bo C))(By:v9 P w K mg base k C "ticks" ["self","many"] (bU C))(Kg:v9 P w K mg base k C "up" ["self","button"] (bY C))(Fn:tE K "_law_box_do" "_law_box_do" dD f fd):k6 P w K mg base sR (k+1) f fd ["_law_watch","_law_event_here"] (CK K 0 (a_ C)):=by
 refine fM (j:=0) Fn iI ?_
 intro _ _ _ _ _ _ hr
 refine aJ ?_ ?_
 ·refine pE ?_ ?_ iq
  ·exact aF (fz hr) (ag (ad 1) ae) aB
  refine bj ?_
  exact kx 0 cl Dv hr (ac (ag (ad 1) ae) af)
 refine aJ ?_ ?_
 ·refine pE ?_ ?_ iq
  ·exact aF (fz hr) (ag (ad 1) ae) aB
  refine bj ?_
  exact kx 0 cl Kg hr (ac (ag (ad 1) ae) af)
 refine bj ?_
 exact kx 0 cl By hr (ac (ag (ad 1) ae) af)
abbrev fD:Stmt:=top 86
theorem uq:c9 ["_law_deed","_law_found","e","_law_kinds"] ["_law_deed"] (c5 fD):=tN
theorem j_{ca:Nat->Addr}(wg:mg "ValueError" = none)(uA:mg "isinstance" = none){Wz:Addr}(EK:Gb K mg ca Wz)(Fn:tE K "_law_told" "_law_told" fD f fd):k6 P w K mg base sR (k+1) f fd ["_law_deed"] (zO P w K mg base ca k sO):=by
  refine qA Fn uq rfl (by decide) ?_
  intro _ _ _ _ _ _ hr
  exact(qi 0 2 1 EK hr rfl rfl rfl rfl rfl uq.nd (fun pins ea oe c hc2 hcl=>(aj (aA (mR (ac (mO 2 (EK.two c hc2) (List.mem_append_right _ (List.mem_singleton.mpr rfl)) hcl (EK.k0 c hc2) (Ga EK.m0) uA) (ac (mO 2 (EK.two c hc2) (List.mem_append_right _ (List.mem_singleton.mpr rfl)) hcl (EK.k1 c hc2) (Ga EK.m1) uA) af))) (al 3 uq.nd))
  (aj (aA (ay (ac aB (ac (rj pX ae) af))) (al 1 uq.nd))
  (ao (cO (fQ (nh (db (mO 2 (EK.two c hc2) (List.mem_append_right _ (List.mem_singleton.mpr rfl)) hcl (EK.kv c hc2) (Ka wg) uA)) (kP (aF se (qI (ad 3) (ac dt af)) ae))))
  (ao (aA (ay (ac aB (ac (qU (ad 3) (ac dt af)) af))) (al 1 uq.nd)))
  aW))))) Bt (hlt:=(by decide:1<4)))
abbrev cR:Stmt:=inClass (top 77) 8
theorem uL:c9 ["self","last"] ["self"] (c5 cR):=tN
theorem jO(tR:mg "len" = none){C:Nat}(cl:wl K C)(tT:q5 K C "past")(n6:q5 K C "present")(tS:q5 K C "rung")(Fn:tE K "undo" "Watch.undo" cR f fd):k6 P w K mg base sR (k+1) f fd ["self"] (CK K 0 (bP C)):=by
 refine fM (j:=0) Fn uL ?_
 intro _ _ _ _ _ _ hr
 refine aJ ?_ ?_
 ·refine pE ?_ ?_ iq
  ·refine aF (fz hr) ?_ ae
   refine kR 0 C ?_
   refine bp eL tR ?_
   refine ac ?_ af
   exact ci cl tT (ad 0)
  exact bj qu
 refine aJ ?_ ?_
 ·exact pS 1 0 uL.nd cl tT
 refine aJ ?_ ?_
 ·exact dX 0 cl n6 (ag (ad 1) ae)
 refine bj ?_
 exact dX 0 cl tS (ag (ad 1) ae)
theorem zj{P:Program}{w:World}{K:W.Frag}{mg:Str->Option Value}{base:Heap}{k:Nat}{ca:Nat->Addr}{Wz:Addr}(EK:Gb K mg ca Wz)(tR:mg "len" = none){C:Nat}(cl:wl K C)(tT:q5 K C "past")(n6:q5 K C "present")(tS:q5 K C "rung"){f:Addr}{fd:FuncData}(Fn:tE K "undo" "Watch.undo" cR f fd):k6 P w K mg base (y8 P w) (k+1) f fd ["self"] (IL ca K 1 (k8 C)):=by
  refine pR Fn uL ?_
  intro _ _ _ _ _ _ hr
  exact(FR (aF (fz hr) (kR 0 C (bp eL tR (ac (ci cl tT (ad 0)) af))) ae) (El EK rfl aB)
  (aJ (pS 1 0 uL.nd cl tT)
  (aJ (dX 0 cl n6 (ag (ad 1) ae))
  (bj (dX 0 cl tS (ag (ad 1) ae))))))
abbrev cy:Stmt:=inClass (top 77) 0
theorem gq:c9 ["self","book"] ["self","book"] (c5 cy):=tN
theorem gl(xk:m7 P w K mg base k "begun" ["book"] cP){C:Nat}(cl:wl K C)(vJ:q5 K C "book")(tT:q5 K C "past")(n6:q5 K C "present")(tS:q5 K C "rung")(Fn:tE K "__init__" "Watch.__init__" cy f fd):k6 P w K mg base sR (k+1) f fd ["self","book"] (K9 K 2 2 C "past" (bg C)):=by
 refine HI Fn gq ?_
 intro _ _ _ _ _ _ hr
 refine Bf ?_ ?_
 ·exact dX 0 cl vJ (ad 1)
 refine Bf ?_ ?_
 ·refine dX 0 cl n6 ?_
  exact ai xk hr (ac (ad 1) af)
 refine Bf ?_ ?_
 ·exact dX 0 cl tS ae
 exact G0 0 cl tT
theorem Jr{P:Program}{w:World}{K:W.Frag}{mg:Str->Option Value}{base:Heap}{k:Nat}{ca:Nat->Addr}{C:Nat}(cl:wl K C)(MX_undo:BZ ca P w K mg base k C "undo" ["self"] (k8 C))(f c':Addr)(cl':List (Str×Addr))(pm ctv:Value)(S:uO CG.N CG.ps CG.scope cl'):k6 P w K mg base (y8 P w) (k+1) f (W.kla_fn "<lambda>" CG.q CG.params CG.body CG.scope cl' pm (.ref c') ctv) CG.ps (zk ca K CG 0 (xA C (oS "undo") 0 (k8 C) c7) f c' cl' pm ctv):=
 Iu rfl (fun cl' f c' A outer s H E S hr=>lY 0 cl MX_undo hr rfl) f c' cl' pm ctv S
theorem JN{K:W.Frag}:∀(c':Addr) (cl:List (Str×Addr)) (pm ctv:Value),Binds K (W.kla_fn "<lambda>" CG.q CG.params CG.body CG.scope cl pm (.ref c') ctv) CG.ps []:=Fl fun _ _ _ _ us hl=>by cases us with | nil=>rfl | cons a b=>cases hl
theorem J3{P:Program}{w:World}{K:W.Frag}{mg:Str->Option Value}{base:Heap}{k:Nat}{ca:Nat->Addr}{C:Nat}(cl:wl K C)(MX_undo:BZ ca P w K mg base k C "undo" ["self"] (k8 C))(f c':Addr)(cl':List (Str×Addr))(pm ctv:Value)(S:uO CJ.N CJ.ps CJ.scope cl'):k6 P w K mg base (y8 P w) (k+1) f (W.kla_fn "<lambda>" CJ.q CJ.params CJ.body CJ.scope cl' pm (.ref c') ctv) CJ.ps (zk ca K CJ 0 (xA C (oS "undo") 0 (k8 C) c7) f c' cl' pm ctv):=
 Iu rfl (fun cl' f c' A outer s H E S hr=>lY 0 cl MX_undo hr rfl) f c' cl' pm ctv S
theorem JJ{K:W.Frag}:∀(c':Addr) (cl:List (Str×Addr)) (pm ctv:Value),Binds K (W.kla_fn "<lambda>" CJ.q CJ.params CJ.body CJ.scope cl pm (.ref c') ctv) CJ.ps []:=Fl fun _ _ _ _ us hl=>by cases us with | nil=>rfl | cons a b=>cases hl
abbrev du:Stmt:=top 90
theorem ur:c9 ["_law_script","_law_number","_law_book_here","_law_row_here","_law_watch","_law_other","_law_event_here","_law_whole","_law_back","_law_k","_law_left","_law_kept"] ["_law_script"] (c5 du):=tN
theorem rV(wX:m7 P w K mg base k "_law_book" ["_law_number"] cI)(sP:m7 P w K mg base k "_law_drawn" ["_law_number","_law_k"] aH)(uB:m7 P w K mg base k "_law_mixed" ["_law_script","_law_k"] bD)(wj:m7 P w K mg base k "_law_ready" ["_law_book_here","_law_number"] ce)(xU:m7 P w K mg base k "_law_row" ["_law_number","_law_most"] de)(xk:m7 P w K mg base k "begun" ["book"] cP)(tR:mg "len" = none)(uu:mg "range" = none){C:Nat}(tu:m7 P w K mg base k "_law_asked" ["_law_watch"] (aM C))(cl:wl K C)(Dw:v9 P w K mg base k C "undo" ["self"] (bP C))(AQ:yC P w K mg base k C "row" ["self"] (bx C)){ca:Nat->Addr}{kX:Nat}(vw:xc P w K mg base ca k (kX+1) "_law_told" ["_law_deed"] sO)(MX_undo:BZ ca P w K mg base kX C "undo" ["self"] (k8 C))(ub:Ek P w K mg base k "_law_box_do" ["_law_watch","_law_event_here"] 0 (a_ C)){fI:Addr}{fdI:FuncData}{kI:Nat}(MK:Mk K C fI)(FI:k6 P w K mg base sR kI fI fdI ["self","book"] (K9 K 2 2 C "past" (bg C)))(BI:Binds K fdI ["self","book"] [])(mgW:mg "Watch" = some (.ref C))(hkI:kI+1<=k){ct:uZ}(hq:ct.q=("law.<locals>.<lambda>" : Str))(TB:uK mg [ct] base)(Fn:JW K "law" "law" du f fd ct.c):k6 P w K mg base sR (k+1) f fd ["_law_script"] (spT K (lH C) ct):=by
 refine qJ Fn ur (sJ C) ?_ (sC C)
 intro A outer s H E hr hT
 have hrI:=hr.mono hkI
 have Lm1:=Cs (X:=(wt sR P w K mg base ["_law_script","_law_number","_law_book_here","_law_row_here","_law_watch","_law_other","_law_event_here","_law_whole","_law_back","_law_k","_law_left","_law_kept"] "law" (c5 du) f (.ref ct.c) A outer s H E).nox) (t:=CG) (ct:=ct) (x:="_law_watch") (c:=s.heap.objs.size+1) (j:=4) TB hT hq.symm rfl hq.symm (fun _=>rfl) rfl rfl rfl rfl rfl rfl rfl rfl (by decide) rfl (by decide +kernel) (by decide +kernel) rfl (by decide +kernel)
 have Lm2:=Cs (X:=(wt sR P w K mg base ["_law_script","_law_number","_law_book_here","_law_row_here","_law_watch","_law_other","_law_event_here","_law_whole","_law_back","_law_k","_law_left","_law_kept"] "law" (c5 du) f (.ref ct.c) A outer s H E).nox) (t:=CJ) (ct:=ct) (x:="_law_watch") (c:=s.heap.objs.size+1) (j:=4) TB hT hq.symm rfl hq.symm (fun _=>rfl) rfl rfl rfl rfl rfl rfl rfl rfl (by decide) rfl (by decide +kernel) (by decide +kernel) rfl (by decide +kernel)
 refine aj ?_ ?_
 ·refine aA ?_ ?_
  ·exact ai uB hr (ac (ad 0) (ac ae af))
  exact al 1 ur.nd
 refine aj ?_ ?_
 ·refine aA ?_ ?_
  ·refine ai wj hr ?_
   refine ac ?_ ?_
   ·exact ai wX hr (ac (ad 1) af)
   refine ac ?_ af
   refine ak bK ?_ ae
   exact ai sP hr (ac (ad 1) (ac ae af))
  exact al 2 ur.nd
 refine aj ?_ ?_
 ·refine aA ?_ ?_
  ·refine ai xU hr ?_
   refine ac ?_ (ac ae af)
   exact ai uB hr (ac (ad 0) (ac ae af))
  exact al 3 ur.nd
 refine oO 4 5 rfl ur.nd MK FI BI hrI mgW (ac (ad 2) af) (ac (ad 2) af) ?_
 refine aJ ?_ ?_
 ·refine iF PassesOwn.never rfl ?_ ?_ ?_
  ·exact kT (ad 3)
  ·exact al 6 ur.nd
  refine bj ?_
  exact iX 4 ub hr (ac (ad 4) (ac (ad 6) af)) Fy
 refine aJ ?_ ?_
 ·refine cF ?_
  refine aA ?_ ?_
  ·exact ai tu hr (ac (ad 4) af)
  exact al 7 ur.nd
 refine aJ ?_ ?_
 ·refine cF ?_
  refine aA ?_ ?_
  ·refine ak aI ?_ ?_
   ·exact ai uB hr (ac (ad 0) (ac ae af))
   refine ak aD ?_ ae
   exact bp eL tR (ac (ad 3) af)
  exact al 8 ur.nd
 refine aJ ?_ ?_
 ·refine iF PassesOwn.never rfl ?_ ?_ ?_
  ·exact mC uu (ad 8)
  ·exact al 9 ur.nd
  refine bj ?_
  refine rR (gN hr) (nX (t:=CG) vw hr Lm1 rfl (Jr cl MX_undo) (JN)) ?_ ?_ iq
  ·exact ay (ac aB (ac aX af))
  refine bj ?_
  refine cF ?_
  exact ax dt
 refine aJ ?_ ?_
 ·refine cF ?_
  refine aA ?_ ?_
  ·refine ak bQ ?_ (ad 8)
   exact bp eL tR (ac (ad 3) af)
  exact al 10 ur.nd
 refine aJ ?_ ?_
 ·refine iF PassesOwn.never rfl ?_ ?_ ?_
  ·refine kT ?_
   refine cX (ad 3) eQ ?_
   exact eG (ad 10)
  ·exact al 6 ur.nd
  refine bj ?_
  exact iX 5 ub hr (ac (ad 5) (ac (ad 6) af)) Fy
 refine aJ ?_ ?_
 ·refine cF ?_
  refine cO ?_ ?_ aW
  ·refine fQ ?_
   refine gZ ?_ ?_
   ·refine aF (gN hr) ?_ ?_
    ·exact ai tu hr (ac (ad 4) af)
    exact ai tu hr (ac (ad 5) af)
   refine fR ?_
   refine aF (gN hr) ?_ ?_
   ·exact gp cl AQ hr (ad 4)
   refine cX (ad 3) eQ ?_
   exact eG (ad 10)
  refine ao ?_
  exact ax dt
 refine aJ ?_ ?_
 ·refine iF PassesOwn.never rfl ?_ ?_ ?_
  ·refine kT ?_
   refine cX (ad 3) ?_ eQ
   exact eG (ad 10)
  ·exact al 6 ur.nd
  refine bj ?_
  exact iX 4 ub hr (ac (ad 4) (ac (ad 6) af)) Fy
 refine aJ ?_ ?_
 ·refine cF ?_
  refine cO ?_ ?_ aW
  ·refine aF (gN hr) ?_ (ad 7)
   exact ai tu hr (ac (ad 4) af)
  refine ao ?_
  exact ax dt
 refine aJ ?_ ?_
 ·refine iF PassesOwn.never rfl ?_ ?_ ?_
  ·refine mC uu ?_
   exact bp eL tR (ac (ad 3) af)
  ·exact al 9 ur.nd
  refine bj ?_
  exact qx 4 cl Dw hr
 refine aJ ?_ ?_
 ·refine cF ?_
  refine aA ?_ ?_
  ·exact ai tu hr (ac (ad 4) af)
  exact al 11 ur.nd
 refine aJ ?_ ?_
 ·refine cF ?_
  refine cO ?_ ?_ aW
  ·refine fQ ?_
   refine gZ ?_ ?_
   ·refine aF (gN hr) (ag (ad 11) ae) ?_
    exact ai xk hr (ac (ad 2) af)
   refine fR ?_
   refine aF (gN hr) ?_ ?_
   ·refine cX (ad 11) ?_ eQ
    exact eG ae
   refine ay ?_
   refine ac ae ?_
   refine ac ?_ af
   exact ay af
  refine ao ?_
  exact ax dt
 refine bj ?_
 refine qY (nJ hr) (nX (t:=CJ) vw hr Lm2 rfl (J3 cl MX_undo) (JJ)) ?_ ?_
 ·exact ay (ac aB (ac ae af))
 refine iH ?_
 refine dC (nJ hr) ?_ (ad 11)
 exact ai tu hr (ac (ad 4) af)
end HW
namespace HW
open PySem PySem.Spec PyProof.Rows L2
theorem AD(K:W.Frag)(H:Hp):∀ns:List Int,i6 K H (ns.map .int) (ns.map V.int)
 | []=>rfl
 | n::ns=>⟨.int n,_,rfl,rfl,AD K H ns⟩
def gU:LD->OD:=fun ds=>open Classical in if ∃ns:List Int,ds=[.fro (ns.map .int)] then some (.bl true) else none
theorem Fz(C:Nat):∀ds d,gU ds=some d->lH C ds=some d:=fun ds d h=>by
 unfold gU at h
 split at h
 ·rename_i z
  obtain⟨ns,rfl⟩:=z
  rw[Ho C ns];exact h
 ·cases h
theorem E_(ns:List Int)(_:ns.length<=63):gU [.fro (ns.map .int)]=some (.bl true):=if_pos ⟨ns,rfl⟩
theorem all_mk{l:W.OpenLaw}{w:World}{K:W.Frag}{h:Heap}{mg:Str->Option Value}{fa:Addr}
  {C:Addr}
  {eA eB eW:Addr}
  {q:Program} {cA pA:Addr} {oc2:Value} {od2:Option Addr} {vs2:Array Value} {sl2:Array (Option Value)} {f71:Addr} {od71 an71:Option Addr} {sl71:Array (Option Value)} {oc71 kV71 dc71 pm71 ct71:Value}
  {GB:Tok}
  {GC:Tok}
  {GD:Tok}
  {GE:Tok}
  {Kh:Tok}
  {Bz:Tok}
  {HQ:Tok}
  {HR:Tok}
  {HS:Tok}
  {HU:Tok}
  {BA:Tok}
  {HV:Tok}
  {xV:Addr} {Dx:Nat} {Dy:Array (Option Value)} {Dz DA DB DC DD DE:Tok}
  {vM:Addr} {Ae:Nat} {zX zY zZ z5:Tok}
  {z6:Addr} {GF:Nat} {ES ET EU EV EW EY EZ E1 E2 E3 DF DG DH:Tok}
  {f0 f1 f2 f3 f4 f5 f6 f7 f8 f9 f10 f11 f12 f13 f14 f15 f16 f17 f18 f19 f20 f21 f22 f23 f24 f25 f26 f27 f28 f29 f30 f31 f32 f33 f34 f35 f36 f37 f38 f39 f40 f41 f42 f43 f44 f45 f46 f47 f48 f49 f50 f51 f52 f53 f54 f55 f56 f57 f58 f59 f60 f61 f62 f63 f64 f65 f66 f67 f68 f69 f70:Addr}
  (X:K.In h) (G:h.Ns mainGlobals mg) (hfa:mg "law" = some (.ref fa))
  (aC:W.nsIn K mainGlobals "Watch" = some (some (.ref C))) (pg:W.plainGet K C Str.empty=true) (hd:W.hasDictIn K C=true) (po:W.plainOver K C=true) (sa:W.findIn K (.ref C) "__setattr__" = some (some (.builtin "object.__setattr__"))) (mkC:W.makesIn K C=true) (kc:W.keepIn K (.ref C)=true)
  (vJ:W.findIn K (.ref C) "book" = some none)
  (tT:W.findIn K (.ref C) "past" = some none)
  (n6:W.findIn K (.ref C) "present" = some none)
  (tS:W.findIn K (.ref C) "rung" = some none)
  (n0:W.nsIn K mainGlobals "NoText" = some (some (.ref eA))) (n1:W.nsIn K mainGlobals "NoDeed" = some (some (.ref eB))) (nw:W.nsIn K mainGlobals "WatchError" = some (some (.ref eW))) (ep:J_ K eA eB eW)
  (a0:ud K "begun" kF f0)
  (a1:ud K "_law_cell_at" dg f1)
  (a2:ud K "_law_mixed" eN f2)
  (a3:ud K "_law_drawn" eO f3)
  (a4:ud K "_law_book" fk f4)
  (a5:ud K "_law_event" eh f5)
  (a6:ud K "_law_row" gc f6)
  (a7:ud K "_law_ready" em f7)
  (a8:E5 K C "rang" "Watch.rang" eE f8)
  (a9:E5 K C "row" "Watch.row" eZ f9)
  (a10:ud K "figures" gI f10)
  (a11:ud K "two_figures" dG f11)
  (a12:ud K "hour_text" fu f12)
  (a13:ud K "time_text" fB f13)
  (a14:ud K "alarm_text" eD f14)
  (a15:ud K "minute_text" dI f15)
  (a16:ud K "laps_text" fq f16)
  (a17:ud K "count_text" eS f17)
  (a18:ud K "shown" kf f18)
  (a19:E5 K C "shown" "Watch.shown" dB f19)
  (a20:E5 K C "state" "Watch.state" dL f20)
  (a21:ud K "_law_asked" ek f21)
  (a22:ud K "laps_on" gY f22)
  (a23:ud K "count_on" fY f23)
  (a24:ud K "alarm_tick" eK f24)
  (a25:ud K "count_tick" eI f25)
  (a26:ud K "last_ring" fJ f26)
  (a27:ud K "ring_on" gT f27)
  (a28:ud K "held_on" gH f28)
  (a29:ud K "ticks_to_back" cL f29)
  (a30:ud K "idle_on" gS f30)
  (a31:ud K "counted" gX f31)
  (a32:ud K "goes_back" fv f32)
  (a33:ud K "ticks_to_long" cN f33)
  (a34:ud K "turn_tick" eX f34)
  (a35:ud K "put" qo f35)
  (a36:ud K "nothing" gC f36)
  (a37:ud K "hour_on" gO f37)
  (a38:ud K "minute_on" e_ f38)
  (a39:ud K "to_zero" gR f39)
  (a40:ud K "alarm_hour_on" cM f40)
  (a41:ud K "alarm_minute_on" cj f41)
  (a42:ud K "alarm_turned" dm f42)
  (a43:ud K "laps_turned" dE f43)
  (a44:ud K "lap_kept" fS f44)
  (a45:ud K "set_to" iQ f45)
  (a46:ud K "count_minute_on" cb f46)
  (a47:ud K "count_second_on" cg f47)
  (a48:ud K "filled" iP f48)
  (a49:ud K "count_turned" dj f49)
  (a50:ud K "press_done" eR f50)
  (a51:ud K "turned" iW f51)
  (a52:ud K "behind_turn" dJ f52)
  (a53:ud K "stretches" fH f53)
  (a54:ud K "ticked" iG f54)
  (a55:ud K "pushed" je f55)
  (a56:ud K "is_holding" eJ f56)
  (a57:ud K "is_short" fW f57)
  (a58:ud K "let_go" jn f58)
  (a59:ud K "gone" ng f59)
  (a60:ud K "ring_count" dW f60)
  (a61:ud K "how_many_rings" cx f61)
  (a62:ud K "rings_by" gb f62)
  (a63:E5 K C "happen" "Watch.happen" df f63)
  (a64:E5 K C "down" "Watch.down" eM f64)
  (a65:E5 K C "ticks" "Watch.ticks" dH f65)
  (a66:E5 K C "up" "Watch.up" fT f66)
  (a67:ud K "_law_box_do" dD f67)
  (a68:E5 K C "undo" "Watch.undo" cR f68)
  (a69:E5 K C "__init__" "Watch.__init__" cy f69)
  (a70:ud K "_law_told" fD f70)
  (a71:W.nsIn K mainGlobals "law" = some (some (.ref f71))) (l71:K.lookup f71=some ⟨oc71,od71,.func (W.fnOf "law" "law" (uc du) (sS du) (c5 du) .none kV71 dc71 pm71 an71 (.ref cA) ct71),sl71⟩) (c71:W.codeIn K (.ref cA) "law" = true) (k71:W.keepIn K (.ref f71)=true) (l2:K.lookup cA=some ⟨oc2,od2,.fields vs2,sl2⟩) (h11:vs2[11]?=some (.ref pA)) (nt:K.lookup pA=none) (hrec:∃d,(recsOf q).find? (fun e=>e.name==("law" : Str))=some d)
  (z7:W.nsIn K mainGlobals "shown_going" = some (some (.ref f18)))
  (BB:W.nsIn K mainGlobals "ValueError" = some none)
  (BC:W.nsIn K mainGlobals "isinstance" = some none)
  (L3:W.nsIn K mainGlobals "len" = some none)
  (L4:W.nsIn K mainGlobals "max" = some none)
  (HX:W.nsIn K mainGlobals "range" = some none)
  (DI:W.nsIn K mainGlobals "reversed" = some none)
  (L5:W.nsIn K mainGlobals "str" = some none)
  (L6:W.nsIn K mainGlobals "sum" = some none)
  (HY:W.nsIn K mainGlobals "tuple" = some none)
  (q_ALARM:W.nsIn K mainGlobals "ALARM" = some (some (.int 2 GB)))
  (q_BLOCK:W.nsIn K mainGlobals "BLOCK" = some (some (.int 1000000000000000000 GC)))
  (q_CLOCK:W.nsIn K mainGlobals "CLOCK" = some (some (.int 1 GD)))
  (q_COUNT:W.nsIn K mainGlobals "COUNT" = some (some (.int 4 GE)))
  (q_DAY:W.nsIn K mainGlobals "DAY" = some (some (.int 86400 Kh)))
  (q_FULL_RING:W.nsIn K mainGlobals "FULL_RING" = some (some (.int 10 Bz)))
  (q_HELD:W.nsIn K mainGlobals "HELD" = some (some (.int 6 HQ)))
  (q_IDLE:W.nsIn K mainGlobals "IDLE" = some (some (.int 7 HR)))
  (q_LAPS:W.nsIn K mainGlobals "LAPS" = some (some (.int 3 HS)))
  (q_MODE:W.nsIn K mainGlobals "MODE" = some (some (.int 0 HU)))
  (q_MOST_KEPT:W.nsIn K mainGlobals "MOST_KEPT" = some (some (.int 4 BA)))
  (q_RING:W.nsIn K mainGlobals "RING" = some (some (.int 5 HV)))
  (q_PRESSES:W.nsIn K mainGlobals "PRESSES" = some (some (.ref xV)))
  (rs_PRESSES:K.lookup xV=some ⟨.type "tuple",none,.seq #[.str (oS "a") Dz,.str (oS "b") DA,.str (oS "c") DB,.str (oS "A") DC,.str (oS "B") DD,.str (oS "C") DE] Dx,Dy⟩)
  (q_FACE_TEXTS:W.nsIn K mainGlobals "FACE_TEXTS" = some (some (.ref vM)))
  (r_FACE_TEXTS:K.lookup vM=some ⟨.type "dict",none,.dict (entries w [(oS "time",zX,.ref f13),(oS "alarm",zY,.ref f14),(oS "laps",zZ,.ref f16),(oS "count",z5,.ref f17)]).toArray Ae,#[]⟩)
  (q_STEPS:W.nsIn K mainGlobals "STEPS" = some (some (.ref z6)))
  (r_STEPS:K.lookup z6=some ⟨.type "dict",none,.dict (entries w [(oS "none",ES,.ref f36),(oS "hour",ET,.ref f37),(oS "minute",EU,.ref f38),(oS "zero",EV,.ref f39),(oS "ahour",EW,.ref f40),(oS "aminute",EY,.ref f41),(oS "alarm",EZ,.ref f42),(oS "run",E1,.ref f43),(oS "lap",E2,.ref f44),(oS "cminute",E3,.ref f46),(oS "csecond",DF,.ref f47),(oS "full",DG,.ref f48),(oS "count",DH,.ref f49)]).toArray GF,#[]⟩) :
  ∃(ts:List uZ) (fd:FuncData),(∀t∈ts,K.lookup t.P=none/\∃y d,(recsOf q).find? (fun e=>e.name==y)=some d/\W.tabIn K y=some (t.c,t.P))/\(∀(s:Shared) (v:Value),BindsTo s fd ⟨[v],[]⟩ [("_law_script",v)])/\∀base:Heap,K.In base->base.Ns mainGlobals mg->uK mg ts base->k6 l.prog w K mg base sR 13 fa fd ["_law_script"] (KF K gU ts):=by
 have e:=hfa.symm.trans (W.mg_of X G a71)
 cases e
 have cl:wl K C:=⟨pg,hd,po,sa⟩
 have mgW:=W.mg_of X G aC
 have EK:=JV X G n0 n1 nw ep
 obtain⟨d0,F0,a0⟩:=uo a0
 have b0:=F0.binds (ps:=["book"]) fun | _,_,_,_,_,_,[_],_=>rfl
 have g0:=W.mg_of X G a0
 obtain⟨d1,F1,a1⟩:=uo a1
 have b1:=F1.binds (ps:=["_law_script","_law_k"]) fun | _,_,_,_,_,_,[_,_],_=>rfl
 have g1:=W.mg_of X G a1
 obtain⟨d2,F2,a2⟩:=uo a2
 have b2:=F2.binds (ps:=["_law_script","_law_k"]) fun | _,_,_,_,_,_,[_,_],_=>rfl
 have g2:=W.mg_of X G a2
 obtain⟨d3,F3,a3⟩:=uo a3
 have b3:=F3.binds (ps:=["_law_number","_law_k"]) fun | _,_,_,_,_,_,[_,_],_=>rfl
 have g3:=W.mg_of X G a3
 obtain⟨d4,F4,a4⟩:=uo a4
 have b4:=F4.binds (ps:=["_law_number"]) fun | _,_,_,_,_,_,[_],_=>rfl
 have g4:=W.mg_of X G a4
 obtain⟨d5,F5,a5⟩:=uo a5
 have b5:=F5.binds (ps:=["_law_number"]) fun | _,_,_,_,_,_,[_],_=>rfl
 have g5:=W.mg_of X G a5
 obtain⟨d6,F6,a6⟩:=uo a6
 have b6:=F6.binds (ps:=["_law_number","_law_most"]) fun | _,_,_,_,_,_,[_,_],_=>rfl
 have g6:=W.mg_of X G a6
 obtain⟨d7,F7,a7⟩:=uo a7
 have b7:=F7.binds (ps:=["_law_book_here","_law_number"]) fun | _,_,_,_,_,_,[_,_],_=>rfl
 have g7:=W.mg_of X G a7
 obtain⟨d8,F8,M8⟩:=GL a8
 have b8:=F8.binds (ps:=["self"]) fun | _,_,_,_,_,_,[_],_=>rfl
 obtain⟨d9,F9,M9⟩:=GL a9
 have b9:=F9.binds (ps:=["self"]) fun | _,_,_,_,_,_,[_],_=>rfl
 obtain⟨d10,F10,a10⟩:=uo a10
 have b10:=F10.binds (ps:=["number"]) fun | _,_,_,_,_,_,[_],_=>rfl
 have g10:=W.mg_of X G a10
 obtain⟨d11,F11,a11⟩:=uo a11
 have b11:=F11.binds (ps:=["number"]) fun | _,_,_,_,_,_,[_],_=>rfl
 have g11:=W.mg_of X G a11
 obtain⟨d12,F12,a12⟩:=uo a12
 have b12:=F12.binds (ps:=["hour","minute"]) fun | _,_,_,_,_,_,[_,_],_=>rfl
 have g12:=W.mg_of X G a12
 obtain⟨d13,F13,a13⟩:=uo a13
 have b13:=F13.binds (ps:=["state"]) fun | _,_,_,_,_,_,[_],_=>rfl
 have g13:=W.mg_of X G a13
 obtain⟨d14,F14,a14⟩:=uo a14
 have b14:=F14.binds (ps:=["state"]) fun | _,_,_,_,_,_,[_],_=>rfl
 have g14:=W.mg_of X G a14
 obtain⟨d15,F15,a15⟩:=uo a15
 have b15:=F15.binds (ps:=["seconds"]) fun | _,_,_,_,_,_,[_],_=>rfl
 have g15:=W.mg_of X G a15
 obtain⟨d16,F16,a16⟩:=uo a16
 have b16:=F16.binds (ps:=["state"]) fun | _,_,_,_,_,_,[_],_=>rfl
 have g16:=W.mg_of X G a16
 obtain⟨d17,F17,a17⟩:=uo a17
 have b17:=F17.binds (ps:=["state"]) fun | _,_,_,_,_,_,[_],_=>rfl
 have g17:=W.mg_of X G a17
 obtain⟨d18,F18,a18⟩:=uo a18
 have b18:=F18.binds (ps:=["book","state"]) fun | _,_,_,_,_,_,[_,_],_=>rfl
 have g18:=W.mg_of X G a18
 obtain⟨d19,F19,M19⟩:=GL a19
 have b19:=F19.binds (ps:=["self"]) fun | _,_,_,_,_,_,[_],_=>rfl
 obtain⟨d20,F20,M20⟩:=GL a20
 have b20:=F20.binds (ps:=["self"]) fun | _,_,_,_,_,_,[_],_=>rfl
 obtain⟨d21,F21,a21⟩:=uo a21
 have b21:=F21.binds (ps:=["_law_watch"]) fun | _,_,_,_,_,_,[_],_=>rfl
 have g21:=W.mg_of X G a21
 obtain⟨d22,F22,a22⟩:=uo a22
 have b22:=F22.binds (ps:=["laps","many"]) fun | _,_,_,_,_,_,[_,_],_=>rfl
 have g22:=W.mg_of X G a22
 obtain⟨d23,F23,a23⟩:=uo a23
 have b23:=F23.binds (ps:=["count","many"]) fun | _,_,_,_,_,_,[_,_],_=>rfl
 have g23:=W.mg_of X G a23
 obtain⟨d24,F24,a24⟩:=uo a24
 have b24:=F24.binds (ps:=["state"]) fun | _,_,_,_,_,_,[_],_=>rfl
 have g24:=W.mg_of X G a24
 obtain⟨d25,F25,a25⟩:=uo a25
 have b25:=F25.binds (ps:=["state"]) fun | _,_,_,_,_,_,[_],_=>rfl
 have g25:=W.mg_of X G a25
 obtain⟨d26,F26,a26⟩:=uo a26
 have b26:=F26.binds (ps:=["state","many"]) fun | _,_,_,_,_,_,[_,_],_=>rfl
 have g26:=W.mg_of X G a26
 obtain⟨d27,F27,a27⟩:=uo a27
 have b27:=F27.binds (ps:=["state","many"]) fun | _,_,_,_,_,_,[_,_],_=>rfl
 have g27:=W.mg_of X G a27
 obtain⟨d28,F28,a28⟩:=uo a28
 have b28:=F28.binds (ps:=["held","many"]) fun | _,_,_,_,_,_,[_,_],_=>rfl
 have g28:=W.mg_of X G a28
 obtain⟨d29,F29,a29⟩:=uo a29
 have b29:=F29.binds (ps:=["book","state"]) fun | _,_,_,_,_,_,[_,_],_=>rfl
 have g29:=W.mg_of X G a29
 obtain⟨d30,F30,a30⟩:=uo a30
 have b30:=F30.binds (ps:=["book","state","many"]) fun | _,_,_,_,_,_,[_,_,_],_=>rfl
 have g30:=W.mg_of X G a30
 obtain⟨d31,F31,a31⟩:=uo a31
 have b31:=F31.binds (ps:=["book","state","many"]) fun | _,_,_,_,_,_,[_,_,_],_=>rfl
 have g31:=W.mg_of X G a31
 obtain⟨d32,F32,a32⟩:=uo a32
 have b32:=F32.binds (ps:=["book","state"]) fun | _,_,_,_,_,_,[_,_],_=>rfl
 have g32:=W.mg_of X G a32
 obtain⟨d33,F33,a33⟩:=uo a33
 have b33:=F33.binds (ps:=["book","state"]) fun | _,_,_,_,_,_,[_,_],_=>rfl
 have g33:=W.mg_of X G a33
 obtain⟨d34,F34,a34⟩:=uo a34
 have b34:=F34.binds (ps:=["book","state"]) fun | _,_,_,_,_,_,[_,_],_=>rfl
 have g34:=W.mg_of X G a34
 obtain⟨d35,F35,a35⟩:=uo a35
 have b35:=F35.binds (ps:=["state","place","part"]) fun | _,_,_,_,_,_,[_,_,_],_=>rfl
 have g35:=W.mg_of X G a35
 obtain⟨d36,F36,a36⟩:=uo a36
 have b36:=F36.binds (ps:=["state"]) fun | _,_,_,_,_,_,[_],_=>rfl
 have g36:=W.mg_of X G a36
 obtain⟨d37,F37,a37⟩:=uo a37
 have b37:=F37.binds (ps:=["state"]) fun | _,_,_,_,_,_,[_],_=>rfl
 have g37:=W.mg_of X G a37
 obtain⟨d38,F38,a38⟩:=uo a38
 have b38:=F38.binds (ps:=["state"]) fun | _,_,_,_,_,_,[_],_=>rfl
 have g38:=W.mg_of X G a38
 obtain⟨d39,F39,a39⟩:=uo a39
 have b39:=F39.binds (ps:=["state"]) fun | _,_,_,_,_,_,[_],_=>rfl
 have g39:=W.mg_of X G a39
 obtain⟨d40,F40,a40⟩:=uo a40
 have b40:=F40.binds (ps:=["state"]) fun | _,_,_,_,_,_,[_],_=>rfl
 have g40:=W.mg_of X G a40
 obtain⟨d41,F41,a41⟩:=uo a41
 have b41:=F41.binds (ps:=["state"]) fun | _,_,_,_,_,_,[_],_=>rfl
 have g41:=W.mg_of X G a41
 obtain⟨d42,F42,a42⟩:=uo a42
 have b42:=F42.binds (ps:=["state"]) fun | _,_,_,_,_,_,[_],_=>rfl
 have g42:=W.mg_of X G a42
 obtain⟨d43,F43,a43⟩:=uo a43
 have b43:=F43.binds (ps:=["state"]) fun | _,_,_,_,_,_,[_],_=>rfl
 have g43:=W.mg_of X G a43
 obtain⟨d44,F44,a44⟩:=uo a44
 have b44:=F44.binds (ps:=["state"]) fun | _,_,_,_,_,_,[_],_=>rfl
 have g44:=W.mg_of X G a44
 obtain⟨d45,F45,a45⟩:=uo a45
 have b45:=F45.binds (ps:=["state","minute","second"]) fun | _,_,_,_,_,_,[_,_,_],_=>rfl
 have g45:=W.mg_of X G a45
 obtain⟨d46,F46,a46⟩:=uo a46
 have b46:=F46.binds (ps:=["state"]) fun | _,_,_,_,_,_,[_],_=>rfl
 have g46:=W.mg_of X G a46
 obtain⟨d47,F47,a47⟩:=uo a47
 have b47:=F47.binds (ps:=["state"]) fun | _,_,_,_,_,_,[_],_=>rfl
 have g47:=W.mg_of X G a47
 obtain⟨d48,F48,a48⟩:=uo a48
 have b48:=F48.binds (ps:=["state"]) fun | _,_,_,_,_,_,[_],_=>rfl
 have g48:=W.mg_of X G a48
 obtain⟨d49,F49,a49⟩:=uo a49
 have b49:=F49.binds (ps:=["state"]) fun | _,_,_,_,_,_,[_],_=>rfl
 have g49:=W.mg_of X G a49
 obtain⟨d50,F50,a50⟩:=uo a50
 have b50:=F50.binds (ps:=["book","state","press"]) fun | _,_,_,_,_,_,[_,_,_],_=>rfl
 have g50:=W.mg_of X G a50
 obtain⟨d51,F51,a51⟩:=uo a51
 have b51:=F51.binds (ps:=["book","state"]) fun | _,_,_,_,_,_,[_,_],_=>rfl
 have g51:=W.mg_of X G a51
 obtain⟨d52,F52,a52⟩:=uo a52
 have b52:=F52.binds (ps:=["book","state"]) fun | _,_,_,_,_,_,[_,_],_=>rfl
 have g52:=W.mg_of X G a52
 obtain⟨d53,F53,a53⟩:=uo a53
 have b53:=F53.binds (ps:=["book","state","many"]) fun | _,_,_,_,_,_,[_,_,_],_=>rfl
 have g53:=W.mg_of X G a53
 obtain⟨d54,F54,a54⟩:=uo a54
 have b54:=F54.binds (ps:=["book","state","many"]) fun | _,_,_,_,_,_,[_,_,_],_=>rfl
 have g54:=W.mg_of X G a54
 obtain⟨d55,F55,a55⟩:=uo a55
 have b55:=F55.binds (ps:=["state","button"]) fun | _,_,_,_,_,_,[_,_],_=>rfl
 have g55:=W.mg_of X G a55
 obtain⟨d56,F56,a56⟩:=uo a56
 have b56:=F56.binds (ps:=["state","button"]) fun | _,_,_,_,_,_,[_,_],_=>rfl
 have g56:=W.mg_of X G a56
 obtain⟨d57,F57,a57⟩:=uo a57
 have b57:=F57.binds (ps:=["state","button"]) fun | _,_,_,_,_,_,[_,_],_=>rfl
 have g57:=W.mg_of X G a57
 obtain⟨d58,F58,a58⟩:=uo a58
 have b58:=F58.binds (ps:=["book","state","button"]) fun | _,_,_,_,_,_,[_,_,_],_=>rfl
 have g58:=W.mg_of X G a58
 obtain⟨d59,F59,a59⟩:=uo a59
 have b59:=F59.binds (ps:=["book","state","event"]) fun | _,_,_,_,_,_,[_,_,_],_=>rfl
 have g59:=W.mg_of X G a59
 obtain⟨d60,F60,a60⟩:=uo a60
 have b60:=F60.binds (ps:=["state","many"]) fun | _,_,_,_,_,_,[_,_],_=>rfl
 have g60:=W.mg_of X G a60
 obtain⟨d61,F61,a61⟩:=uo a61
 have b61:=F61.binds (ps:=["book","state","many"]) fun | _,_,_,_,_,_,[_,_,_],_=>rfl
 have g61:=W.mg_of X G a61
 obtain⟨d62,F62,a62⟩:=uo a62
 have b62:=F62.binds (ps:=["book","state","event"]) fun | _,_,_,_,_,_,[_,_,_],_=>rfl
 have g62:=W.mg_of X G a62
 obtain⟨d63,F63,M63⟩:=GL a63
 have b63:=F63.binds (ps:=["self","event"]) fun | _,_,_,_,_,_,[_,_],_=>rfl
 obtain⟨d64,F64,M64⟩:=GL a64
 have b64:=F64.binds (ps:=["self","button"]) fun | _,_,_,_,_,_,[_,_],_=>rfl
 obtain⟨d65,F65,M65⟩:=GL a65
 have b65:=F65.binds (ps:=["self","many"]) fun | _,_,_,_,_,_,[_,_],_=>rfl
 obtain⟨d66,F66,M66⟩:=GL a66
 have b66:=F66.binds (ps:=["self","button"]) fun | _,_,_,_,_,_,[_,_],_=>rfl
 obtain⟨d67,F67,a67⟩:=uo a67
 have b67:=F67.binds (ps:=["_law_watch","_law_event_here"]) fun | _,_,_,_,_,_,[_,_],_=>rfl
 have g67:=W.mg_of X G a67
 obtain⟨d68,F68,M68⟩:=GL a68
 have b68:=F68.binds (ps:=["self"]) fun | _,_,_,_,_,_,[_],_=>rfl
 obtain⟨d69,F69,M69⟩:=GL a69
 have b69:=F69.binds (ps:=["self","book"]) fun | _,_,_,_,_,_,[_,_],_=>rfl
 obtain⟨d70,F70,a70⟩:=uo a70
 have b70:=F70.binds (ps:=["_law_deed"]) fun | _,_,_,_,_,_,[_],_=>rfl
 have g70:=W.mg_of X G a70
 have F71:JW K "law" "law" du _ _ cA:=⟨⟨_,_,_,_,_,_,_,_,rfl,l71,c71⟩,k71⟩
 have g71:=W.mg_of X G a71
 have tb:=rO a71 l71 rfl l2 h11
 have b71:=Binds.all (K:=K) (fd:=W.fnOf "law" "law" (uc du) (sS du) (c5 du) .none kV71 dc71 pm71 an71 (.ref cA) ct71) (ps:=["_law_script"]) fun us hl=>by obtain⟨x0,rfl⟩:=Oy (us:=us) hl;rfl
 have ga_shown_going:=W.mg_of X G z7
 have wg:=W.mg_none_of X G BB
 have uA:=W.mg_none_of X G BC
 have tR:=W.mg_none_of X G L3
 have uY:=W.mg_none_of X G L4
 have uu:=W.mg_none_of X G HX
 have xP:=W.mg_none_of X G DI
 have AO:=W.mg_none_of X G L5
 have GA:=W.mg_none_of X G L6
 have xj:=W.mg_none_of X G HY
 have sQ:t6 K mg "ALARM" aZ:=⟨_,.int 2,W.mg_of X G q_ALARM,⟨_,rfl⟩,fun H=>rfl⟩
 have Bu:t6 K mg "BLOCK" dY:=⟨_,.int 1000000000000000000,W.mg_of X G q_BLOCK,⟨_,rfl⟩,fun H=>rfl⟩
 have sN:t6 K mg "CLOCK" aU:=⟨_,.int 1,W.mg_of X G q_CLOCK,⟨_,rfl⟩,fun H=>rfl⟩
 have p6:t6 K mg "COUNT" aL:=⟨_,.int 4,W.mg_of X G q_COUNT,⟨_,rfl⟩,fun H=>rfl⟩
 have wq:t6 K mg "DAY" eT:=⟨_,.int 86400,W.mg_of X G q_DAY,⟨_,rfl⟩,fun H=>rfl⟩
 have wR:t6 K mg "FULL_RING" fF:=⟨_,.int 10,W.mg_of X G q_FULL_RING,⟨_,rfl⟩,fun H=>rfl⟩
 have q8:t6 K mg "HELD" bh:=⟨_,.int 6,W.mg_of X G q_HELD,⟨_,rfl⟩,fun H=>rfl⟩
 have uH:t6 K mg "IDLE" dq:=⟨_,.int 7,W.mg_of X G q_IDLE,⟨_,rfl⟩,fun H=>rfl⟩
 have uf:t6 K mg "LAPS" bX:=⟨_,.int 3,W.mg_of X G q_LAPS,⟨_,rfl⟩,fun H=>rfl⟩
 have tU:t6 K mg "MODE" bR:=⟨_,.int 0,W.mg_of X G q_MODE,⟨_,rfl⟩,fun H=>rfl⟩
 have wV:t6 K mg "MOST_KEPT" fG:=⟨_,.int 4,W.mg_of X G q_MOST_KEPT,⟨_,rfl⟩,fun H=>rfl⟩
 have vH:t6 K mg "RING" d_:=⟨_,.int 5,W.mg_of X G q_RING,⟨_,rfl⟩,fun H=>rfl⟩
 have s_PRESSES:Jy K mg "PRESSES" cV:=⟨xV,_,_,_,W.mg_of X G q_PRESSES,rs_PRESSES,(.cons ⟨_,rfl⟩ (.cons ⟨_,rfl⟩ (.cons ⟨_,rfl⟩ (.cons ⟨_,rfl⟩ (.cons ⟨_,rfl⟩ (.cons ⟨_,rfl⟩ .nil))))))⟩
 have D_FACE_TEXTS:=W.mg_of X G q_FACE_TEXTS
 have D_STEPS:=W.mg_of X G q_STEPS
 obtain⟨dr,hdr⟩:=hrec
 refine⟨[⟨cA,pA,"law.<locals>.<lambda>"⟩],W.fnOf "law" "law" (uc du) (sS du) (c5 du) .none kV71 dc71 pm71 an71 (.ref cA) ct71,fun t ht=>by rw[List.mem_singleton.mp ht];exact⟨nt,"law",dr,hdr,tb⟩,fun s v=>.of_eq rfl,fun base _ _ TB=>?_⟩
 have xk:m7 l.prog w K mg base 1 "begun" ["book"] cP:=az F0 g0 b0 (qa (k:=0)  F0)
 have vi:m7 l.prog w K mg base 1 "_law_cell_at" ["_law_script","_law_k"] bL:=az F1 g1 b1 (ic (k:=0) tR F1)
 have uB:m7 l.prog w K mg base 2 "_law_mixed" ["_law_script","_law_k"] bD:=az F2 g2 b2 (jM (k:=1) vi.m F2)
 have sP:m7 l.prog w K mg base 1 "_law_drawn" ["_law_number","_law_k"] aH:=az F3 g3 b3 (jr (k:=0)  F3)
 have wX:m7 l.prog w K mg base 2 "_law_book" ["_law_number"] cI:=az F4 g4 b4 (kK (k:=1) sP.m uu F4)
 have v_:m7 l.prog w K mg base 1 "_law_event" ["_law_number"] bz:=az F5 g5 b5 (jE (k:=0)  F5)
 have xU:m7 l.prog w K mg base 2 "_law_row" ["_law_number","_law_most"] de:=az F6 g6 b6 (lq (k:=1) sP.m v_.m uu xj F6)
 have wj:m7 l.prog w K mg base 1 "_law_ready" ["_law_book_here","_law_number"] ce:=az F7 g7 b7 (jw (k:=0) tR F7)
 have Dt:yC l.prog w K mg base 1 C "rang" ["self"] (cq C):=⟨_,_,jz (k:=0) cl tS F8,M8,b8⟩
 have AQ:yC l.prog w K mg base 1 C "row" ["self"] (bx C):=⟨_,_,kG (k:=0) xj cl tT F9,M9,b9⟩
 have u6:m7 l.prog w K mg base 1 "figures" ["number"] cz:=az F10 g10 b10 (mX (k:=0) xP AO Bu F10)
 have q9:m7 l.prog w K mg base 2 "two_figures" ["number"] aK:=az F11 g11 b11 (iS (k:=1) u6.m F11)
 have uj:m7 l.prog w K mg base 3 "hour_text" ["hour","minute"] bN:=az F12 g12 b12 (kC (k:=2) q9.m F12)
 have wO:m7 l.prog w K mg base 4 "time_text" ["state"] cG:=az F13 g13 b13 (kE (k:=3) uj.m q9.m sN F13)
 have wa:m7 l.prog w K mg base 4 "alarm_text" ["state"] b_:=az F14 g14 b14 (jF (k:=3) uj.m sQ F14)
 have tL:m7 l.prog w K mg base 3 "minute_text" ["seconds"] br:=az F15 g15 b15 (iJ (k:=2) u6.m q9.m F15)
 have wN:m7 l.prog w K mg base 4 "laps_text" ["state"] cJ:=az F16 g16 b16 (le (k:=3) tL.m tR AO uf F16)
 have wc:m7 l.prog w K mg base 4 "count_text" ["state"] cu:=az F17 g17 b17 (jC (k:=3) tL.m p6 F17)
 have we:Ct l.prog w K mg base 4 "FACE_TEXTS" ut:=⟨vM,_,D_FACE_TEXTS,fun h X=>lG _ r_FACE_TEXTS (show List.Nodup [oS "time",oS "alarm",oS "laps",oS "count"] from by decide +kernel) h X,(.cons (tO wO.m g13) (.cons (tO wa.m g14) (.cons (tO wN.m g16) (.cons (tO wc.m g17) .nil))))⟩
 have Ed:=pQ (P:=l.prog) (w:=w) (base:=base) (k:=4) wa.m wc.m wN.m wO.m tU vH we F18
 have Mm:m7 l.prog w K mg base 5 "shown" ["book","state"] fK:=az F18 g18 b18 Ed
 have vI:m7 l.prog w K mg base 5 "shown_going" ["book","state"] fK:=⟨_,_,Ed,ga_shown_going,F18.kp,b18⟩
 have Bv:yC l.prog w K mg base 6 C "shown" ["self"] (bS C):=⟨_,_,iK (k:=5) vI.m cl vJ n6 F19,M19,b19⟩
 have Bw:yC l.prog w K mg base 1 C "state" ["self"] (bW C):=⟨_,_,iD (k:=0) cl n6 F20,M20,b20⟩
 have tu:m7 l.prog w K mg base 7 "_law_asked" ["_law_watch"] (aM C):=az F21 g21 b21 (jN (k:=6) cl Dt.m AQ.m Bv.m Bw.m F21)
 have yP:m7 l.prog w K mg base 1 "laps_on" ["laps","many"] dS:=az F22 g22 b22 (nF (k:=0)  F22)
 have xQ:m7 l.prog w K mg base 1 "count_on" ["count","many"] dh:=az F23 g23 b23 (mv (k:=0) uY F23)
 have tW:m7 l.prog w K mg base 1 "alarm_tick" ["state"] aO:=az F24 g24 b24 (ju (k:=0) sQ sN wq F24)
 have tX:m7 l.prog w K mg base 1 "count_tick" ["state"] aY:=az F25 g25 b25 (jB (k:=0) p6 F25)
 have wQ:m7 l.prog w K mg base 2 "last_ring" ["state","many"] cK:=az F26 g26 b26 (kj (k:=1) tW.m tX.m uY wq F26)
 have yQ:m7 l.prog w K mg base 3 "ring_on" ["state","many"] dQ:=az F27 g27 b27 (nz (k:=2) wQ.m uY wR vH F27)
 have yN:m7 l.prog w K mg base 1 "held_on" ["held","many"] dO:=az F28 g28 b28 (nE (k:=0)  F28)
 have tj:m7 l.prog w K mg base 1 "ticks_to_back" ["book","state"] aV:=az F29 g29 b29 (gM (k:=0) uY uH F29)
 have yO:m7 l.prog w K mg base 2 "idle_on" ["book","state","many"] dN:=az F30 g30 b30 (nu (k:=1) tj.m q8 uH F30)
 have u7:m7 l.prog w K mg base 4 "counted" ["book","state","many"] cC:=az F31 g31 b31 (nG (k:=3) xQ.m yN.m yO.m yP.m yQ.m sQ sN p6 wq q8 uf tU F31)
 have wU:m7 l.prog w K mg base 1 "goes_back" ["book","state"] cH:=az F32 g32 b32 (la (k:=0) tU F32)
 have uV:m7 l.prog w K mg base 1 "ticks_to_long" ["book","state"] bE:=az F33 g33 b33 (gK (k:=0) uY q8 F33)
 have uk:m7 l.prog w K mg base 2 "turn_tick" ["book","state"] bJ:=az F34 g34 b34 (km (k:=1) wU.m tj.m uV.m q8 F34)
 have n9:m7 l.prog w K mg base 1 "put" ["state","place","part"] aG:=az F35 g35 b35 (rS (k:=0)  F35)
 have yS:m7 l.prog w K mg base 1 "nothing" ["state"] cU:=az F36 g36 b36 (nK (k:=0)  F36)
 have yR:m7 l.prog w K mg base 2 "hour_on" ["state"] cT:=az F37 g37 b37 (mK (k:=1) n9.m sN F37)
 have wW:m7 l.prog w K mg base 2 "minute_on" ["state"] bZ:=az F38 g38 b38 (kL (k:=1) n9.m sN F38)
 have yT:m7 l.prog w K mg base 2 "to_zero" ["state"] cS:=az F39 g39 b39 (mM (k:=1) n9.m sN F39)
 have uW:m7 l.prog w K mg base 2 "alarm_hour_on" ["state"] bi:=az F40 g40 b40 (gQ (k:=1) n9.m sQ F40)
 have uw:m7 l.prog w K mg base 2 "alarm_minute_on" ["state"] aT:=az F41 g41 b41 (fU (k:=1) n9.m sQ F41)
 have vj:m7 l.prog w K mg base 2 "alarm_turned" ["state"] bv:=az F42 g42 b42 (ig (k:=1) n9.m sQ F42)
 have vK:m7 l.prog w K mg base 2 "laps_turned" ["state"] bG:=az F43 g43 b43 (jg (k:=1) n9.m uf F43)
 have xR:m7 l.prog w K mg base 2 "lap_kept" ["state"] di:=az F44 g44 b44 (mm (k:=1) n9.m tR uf wV F44)
 have uv:m7 l.prog w K mg base 2 "set_to" ["state","minute","second"] bV:=az F45 g45 b45 (oA (k:=1) n9.m p6 F45)
 have ux:m7 l.prog w K mg base 3 "count_minute_on" ["state"] aR:=az F46 g46 b46 (fX (k:=2) uv.m p6 F46)
 have uy:m7 l.prog w K mg base 3 "count_second_on" ["state"] aS:=az F47 g47 b47 (fV (k:=2) uv.m p6 F47)
 have zS:m7 l.prog w K mg base 3 "filled" ["state"] dR:=az F48 g48 b48 (oG (k:=2) uv.m p6 F48)
 have vk:m7 l.prog w K mg base 2 "count_turned" ["state"] bM:=az F49 g49 b49 (il (k:=1) n9.m p6 F49)
 have Bx:Ct l.prog w K mg base 3 "STEPS" w_:=⟨z6,_,D_STEPS,fun h X=>lG _ r_STEPS (show List.Nodup [oS "none",oS "hour",oS "minute",oS "zero",oS "ahour",oS "aminute",oS "alarm",oS "run",oS "lap",oS "cminute",oS "csecond",oS "full",oS "count"] from by decide +kernel) h X,(.cons (tO yS.m g36) (.cons (tO yR.m g37) (.cons (tO wW.m g38) (.cons (tO yT.m g39) (.cons (tO uW.m g40) (.cons (tO uw.m g41) (.cons (tO vj.m g42) (.cons (tO vK.m g43) (.cons (tO xR.m g44) (.cons (tO ux.m g46) (.cons (tO uy.m g47) (.cons (tO zS.m g48) (.cons (tO vk.m g49) .nil)))))))))))))⟩
 have tY:m7 l.prog w K mg base 4 "press_done" ["book","state","press"] bA:=az F50 g50 b50 (jI (k:=3) uW.m uw.m vj.m ux.m uy.m vk.m zS.m yR.m xR.m vK.m wW.m yS.m n9.m yT.m tU s_PRESSES Bx F50)
 have zT:m7 l.prog w K mg base 5 "turned" ["book","state"] fm:=az F51 g51 b51 (oH (k:=4) tY.m n9.m q8 tU F51)
 have vL:m7 l.prog w K mg base 6 "behind_turn" ["book","state"] bF:=az F52 g52 b52 (jk (k:=5) u7.m uk.m zT.m F52)
 have ul:m7 l.prog w K mg base 7 "stretches" ["book","state","many"] bf:=az F53 g53 b53 (kA (k:=6) vL.m uk.m F53)
 have zW:m7 l.prog w K mg base 8 "ticked" ["book","state","many"] fE:=az F54 g54 b54 (oB (k:=7) u7.m ul.m F54)
 have zV:m7 l.prog w K mg base 2 "pushed" ["state","button"] fj:=az F55 g55 b55 (oZ (k:=1) n9.m q8 uH vH F55)
 have tZ:m7 l.prog w K mg base 1 "is_holding" ["state","button"] bB:=az F56 g56 b56 (jy (k:=0) q8 F56)
 have xS:m7 l.prog w K mg base 2 "is_short" ["state","button"] cW:=az F57 g57 b57 (lL (k:=1) tZ.m q8 F57)
 have zU:m7 l.prog w K mg base 5 "let_go" ["book","state","button"] fh:=az F58 g58 b58 (oY (k:=4) tZ.m xS.m tY.m n9.m q8 uH F58)
 have Du:m7 l.prog w K mg base 9 "gone" ["book","state","event"] gE:=az F59 g59 b59 (qT (k:=8) zU.m zV.m zW.m F59)
 have wf:m7 l.prog w K mg base 2 "ring_count" ["state","many"] bq:=az F60 g60 b60 (jJ (k:=1) tW.m tX.m wq F60)
 have uI:m7 l.prog w K mg base 8 "how_many_rings" ["book","state","many"] bw:=az F61 g61 b61 (gz (k:=7) wf.m ul.m GA F61)
 have xT:m7 l.prog w K mg base 9 "rings_by" ["book","state","event"] cB:=az F62 g62 b62 (lQ (k:=8) uI.m F62)
 have uz:v9 l.prog w K mg base 10 C "happen" ["self","event"] (aN C):=⟨_,_,ik (k:=9) Du.m xT.m cl vJ tT n6 tS F63,M63,b63⟩
 have Dv:v9 l.prog w K mg base 11 C "down" ["self","button"] (bo C):=⟨_,_,jx (k:=10) cl uz.m F64,M64,b64⟩
 have By:v9 l.prog w K mg base 11 C "ticks" ["self","many"] (bU C):=⟨_,_,iO (k:=10) cl uz.m F65,M65,b65⟩
 have Kg:v9 l.prog w K mg base 11 C "up" ["self","button"] (bY C):=⟨_,_,mr (k:=10) cl uz.m F66,M66,b66⟩
 have ub:Ek l.prog w K mg base 12 "_law_box_do" ["_law_watch","_law_event_here"] 0 (a_ C):=⟨_,_,iY (k:=11) cl Dv.m By.m Kg.m F67,g67,F67.kp,b67⟩
 have Dw:v9 l.prog w K mg base 1 C "undo" ["self"] (bP C):=⟨_,_,jO (k:=0) tR cl tT n6 tS F68,M68,b68⟩
 have MX_undo:BZ (Jh eA eB) l.prog w K mg base 1 C "undo" ["self"] (k8 C):=⟨_,_,zj (k:=0) EK tR cl tT n6 tS F68,M68,b68⟩
 have FI:=gl (P:=l.prog) (w:=w) (base:=base) (k:=1) xk.m cl vJ tT n6 tS F69
 have vw:xc l.prog w K mg base (Jh eA eB) 3 2 "_law_told" ["_law_deed"] sO:=⟨_,_,j_ (k:=2) wg uA EK F70,g70,F70.kp,b70⟩
 exact Jg ((rV wX.m sP.m uB.m wj.m xU.m xk.m tR uu tu.m cl Dw.m AQ.m vw.m MX_undo ub.m ⟨mkC,M69.at_,M69.fn,kc⟩ FI b69 mgW (by decide) rfl TB F71).imp (HJ (Fz C)))
theorem walk {l:W.OpenLaw} {q:Program} {loose:List Str} {XP:(Str->Option Value)->Heap->Prop} {YP:World->Heap->Prop} {d:DefRec} {K:Params->W.Frag} (hn:l.most=some 63) (hdf:d.params.defaults=[])
    (hY:∀(w:World) (h:Heap),YP w h->(K w.params).In h)
    (F:∀(w:World) (mg:Str->Option Value) (fa:Addr) (h:Heap),(K w.params).In h->h.Ns mainGlobals mg->mg d.name=some (.ref fa) ->
      ∃(ts:List uZ) (fd:FuncData),(∀t∈ts,(K w.params).lookup t.P=none/\∃y d',(recsOf q).find? (fun e=>e.name==y)=some d'/\W.tabIn (K w.params) y=some (t.c,t.P))/\(∀(s:Shared) (u:Value),BindsTo s fd ⟨[u],[]⟩ [("_law_script",u)])/\∀base:Heap,(K w.params).In base->base.Ns mainGlobals mg->uK mg ts base->k6 l.prog w (K w.params) mg base sR 13 fa fd ["_law_script"] (KF (K w.params) gU ts)) :
    W.WalkO q loose XP YP l.row.toRowW d [] (fun f vs=>PySem.call f vs):=
  Gf (n:=63) (k:=13) (x:="_law_script") (CX:=fun _=>sR) (sp:=fun w ts=>KF (K w.params) gU ts) hn (by decide) hdf ⟨rfl,by decide,by decide,rfl⟩ hY F (fun w ts H a ns hl hO hP hS=>Jj hO hP ⟨[.fro (ns.map .int)],.bl true,i6.one ⟨a,ns.map V.int,rfl,hS,AD _ _ ns⟩,E_ ns hl,fun v H' _ hv=>hv⟩) fun _ _ _ _ _ z=>z
end HW
namespace PySem.W.Fast
theorem tw1199509230797326785:True:=⟨⟩
theorem tw7343599865645045187:True:=⟨⟩
theorem tw6524540050663225093:True:=⟨⟩
theorem tw7685729889868692007:True:=⟨⟩
theorem tw17766660001534852711:True:=⟨⟩
theorem tw18022803110473724265:True:=⟨⟩
theorem tw2368097096330557417:True:=⟨⟩
theorem tw7003132500948931338:True:=⟨⟩
theorem tw17646005984288522700:True:=⟨⟩
theorem tw16124772937524787437:True:=⟨⟩
theorem tw9845997332760036301:True:=⟨⟩
theorem tw576452631985063246:True:=⟨⟩
theorem tw13303462719505318414:True:=⟨⟩
theorem tw9738499115040937934:True:=⟨⟩
theorem tw3093980555152610895:True:=⟨⟩
theorem tw17073738590093491920:True:=⟨⟩
theorem tw13626450751469089202:True:=⟨⟩
theorem tw5353652659689362130:True:=⟨⟩
theorem tw7187398641413060116:True:=⟨⟩
theorem tw12719055421158039029:True:=⟨⟩
theorem tw8890961904518697399:True:=⟨⟩
theorem tw4179816944839762395:True:=⟨⟩
theorem tw4607628180402869948:True:=⟨⟩
theorem tw10096589851872255102:True:=⟨⟩
theorem tw2033762557421783966:True:=⟨⟩
theorem tw14304158713943106527:True:=⟨⟩
noncomputable def tw7028058128622810410:=PySem.Challenge.pw_handwatch_k64_whole_undone_as_far
theorem te7028058128622810410:PySem.Challenge.pw_handwatch_k64_whole_undone_as_far=tw7028058128622810410:=rfl
end PySem.W.Fast
open PySem PySem.W PyProof.Rows
set_option maxRecDepth 100000 in
set_option maxHeartbeats 0 in
theorem PySem.Challenge.cw_handwatch_k64_whole_undone_as_far_holds : PySem.Challenge.rw_handwatch_k64_whole_undone_as_far.Holds := by
 w_on;o_law;k_head;(case hw=>w_witness2)
 k_fill
 refine HW.walk (l:=PySem.Challenge.rw_handwatch_k64_whole_undone_as_far) rfl rfl (fun w h Y=>PySem.W.km_in_of Y) ?F
 case F =>
  intro w mg fa h KX G hmg
  refine' HW.all_mk KX G hmg ?_ ?_ ?_ ?_ ?_ ?_ ?_ ?_ ?_ ?_ ?_ ?_ ?_ ?_ ?_ ?_ ?_ ?_ ?_ ?_ ?_ ?_ ?_ ?_ ?_ ?_ ?_ ?_ ?_ ?_ ?_ ?_ ?_ ?_ ?_ ?_ ?_ ?_ ?_ ?_ ?_ ?_ ?_ ?_ ?_ ?_ ?_ ?_ ?_ ?_ ?_ ?_ ?_ ?_ ?_ ?_ ?_ ?_ ?_ ?_ ?_ ?_ ?_ ?_ ?_ ?_ ?_ ?_ ?_ ?_ ?_ ?_ ?_ ?_ ?_ ?_ ?_ ?_ ?_ ?_ ?_ ?_ ?_ ?_ ?_ ?_ ?_ ?_ ?_ ?_ ?_ ?_ ?_ ?_ ?_ ?_ ?_ ?_ ?_ ?_ ?_ ?_ ?_ ?_ ?_ ?_ ?_ ?_ ?_ ?_ ?_ ?_ ?_ ?_ ?_ ?_ ?_ ?_ ?_ ?_ ?_ ?_
  all_goals try first | k_is | (refine' HW.fn4_mk ?_ ?_ ?_ ?_<;>try k_is) | (refine' HW.fn5_mk ?_ ?_ ?_ ?_ ?_<;>try k_is) | (refine' HW.errp_mk ?_ ?_ ?_ ?_ ?_ ?_ ?_ ?_ ?_ ?_ ?_ ?_ ?_ ?_ ?_ ?_ ?_ ?_ ?_ ?_ ?_ ?_ ?_ ?_ ?_ ?_ ?_ ?_<;>try first | k_is | k_exc | rfl | kernel_rfl) | rfl | kernel_rfl | exact⟨_,rfl⟩
