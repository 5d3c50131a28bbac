import PyProof.Rows.All
import Wide.All
import OpenK.AllK
import Wide.FinOn
import Lean
import PyProof.EqAt
import PyProof.EqKinds
import PyProof.TupleCall
import KE.KLam
import PySem.Str
import PySem.Sem
import PyProof.StrWalks
import PyProof.ReprReads
import PyProof.ReprRoads
import PyProof.NeData
import PyProof.WalkInts
import PyProof.Rows.RegStrFacts
import PyProof.StrBlockI
import KE.IntText
import KE.KRevIter
import PyProof.StrBlock2
import KE.KIntText
import PyProof.Rows.Range3
import PyProof.ZipIter
import PyProof.Draws
import PyProof.IsRules
import PySem.SetOps
import PyProof.SetKind
import PyProof.DictStraight
import KE.KDictSum
import PyProof.Rows.SetFrom
import PyProof.Rows.SortShell
import PyProof.ListRange
import PyProof.Rows.FactsT2
import PyProof.Rows.FactsT3
import PySem.Builtin.Str.Common
import PyProof.StrCalls
import PyProof.DictWalks
import PyProof.Rows.TupDisplay
import PyProof.CollectWalk
import KE.KItemsList
import PyProof.ListNew
import PyProof.StrLawsIn
import PyProof.FitsReplace
import PyProof.ReprLen
import PyProof.P3In
import PyProof.FString5
import PySem.Challenge.RW_handwatch_k52_least
set_option Elab.async false
noncomputable section
set_option linter.all false
set_option maxRecDepth 100000
namespace L2
open PySem PySem.Spec PyProof.Rows
abbrev Key:=Sum Int Str
def oM:Key->Value->Bool
 | .inl k,v=>Value.isInt k v
 | .inr x,v=>Value.isStrOf x v
def BN(w:World):Key->Int
 | .inl k=>hashInt k
 | .inr x=>hashStr w x
theorem jp:∀{k:Key} {v:Value},oM k v=true->(∃i t,k=Sum.inl i/\v=Value.int i t)\/(∃x t,k=Sum.inr x/\v=Value.str x t)
 | .inl i,v,h=>by
  obtain⟨t,e⟩:=Value.isInt_shape (k:=i) (v:=v) h
  exact .inl ⟨i,t,rfl,e⟩
 | .inr x,v,h=>by
  obtain⟨t,e⟩:=Value.isStrOf_shape (x:=x) (v:=v) h
  exact .inr ⟨x,t,rfl,e⟩
theorem vy(i:Int)(t:Tok):oM (.inl i) (.int i t)=true:=by simp[oM,Value.isInt]
theorem vG(x:Str)(t:Tok):oM (.inr x) (.str x t)=true:=by simp[oM,Value.isStrOf]
theorem Aj(a b:Int):decide ((Sum.inl a:Key)=Sum.inl b)=(a==b):=by
 by_cases e:a=b
 ·subst e;simp
 ·have h:¬ (Sum.inl a:Key)=Sum.inl b:=fun q=>e (Sum.inl.inj q)
  rw[decide_eq_false h]
  exact(beq_eq_false_iff_ne.mpr e).symm
theorem zJ(a b:Str):decide ((Sum.inr a:Key)=Sum.inr b)=decide (a=b):=by
 by_cases e:a=b
 ·subst e;simp
 ·have h:¬ (Sum.inr a:Key)=Sum.inr b:=fun q=>e (Sum.inr.inj q)
  rw[decide_eq_false h,decide_eq_false e]
theorem Ah(a:Int)(b:Str):decide ((Sum.inl a:Key)=Sum.inr b)=false:=decide_eq_false (fun q=>nomatch q)
theorem Aq(a:Str)(b:Int):decide ((Sum.inr a:Key)=Sum.inl b)=false:=decide_eq_false (fun q=>nomatch q)
def i6(prog:Program)(w:World):PySem.KeyKind prog w Key where
 is:=oM
 hash:=BN w
 inj:=fun v a b ha hb=>by
  rcases jp ha with ⟨i,t,rfl,rfl⟩ | ⟨x,t,rfl,rfl⟩
  ·rcases jp hb with ⟨j,u,rfl,e⟩ | ⟨y,u,rfl,e⟩
   ·injection e with e1 _;rw[e1]
   ·exact nomatch e
  ·rcases jp hb with ⟨j,u,rfl,e⟩ | ⟨y,u,rfl,e⟩
   ·exact nomatch e
   ·injection e with e1 _;rw[e1]
 byValue:=fun k v h=>by
  rcases jp h with ⟨i,t,rfl,rfl⟩ | ⟨x,t,rfl,rfl⟩<;>rfl
 pyHash:=fun hv h=>by
  rcases jp hv with ⟨i,t,rfl,rfl⟩ | ⟨x,t,rfl,rfl⟩
  ·exact wpAny_pyHash_int h
  ·exact wpAny_pyHash_str h
 eqBool:=fun hu hv h=>by
  rcases jp hu with ⟨i,t,rfl,rfl⟩ | ⟨x,t,rfl,rfl⟩
  ·rcases jp hv with ⟨j,u,rfl,rfl⟩ | ⟨y,u,rfl,rfl⟩
   ·rw[Aj] at h;exact wpAny_eqBool_int h
   ·rw[Ah] at h;exact SeqAt.EqAt.int_str i t y u _ _ _ _ h
  ·rcases jp hv with ⟨j,u,rfl,rfl⟩ | ⟨y,u,rfl,rfl⟩
   ·rw[Aq] at h;exact SeqAt.EqAt.str_int x t j u _ _ _ _ h
   ·rw[zJ] at h;exact wpAny_eqBool_str h
 «strs»:=fun k x t v h=>by
  rcases jp h with ⟨i,u,rfl,e⟩ | ⟨y,u,rfl,e⟩
  ·exact nomatch e
  ·injection e with e1 _
   subst e1
   cases v<;>rfl
theorem tj(prog:Program)(w:World)(i:Int)(t:Tok):(i6 prog w).is (.inl i) (.int i t)=true:=vy i t
theorem s_(prog:Program)(w:World)(x:Str)(t:Tok):(i6 prog w).is (.inr x) (.str x t)=true:=vG x t
end L2
namespace L2
open PySem PySem.Spec PyProof.Rows
inductive V where
 | non | bl (b:Bool) | int (i:Int) | str (x:Str) | byt (b:Array UInt8) | flt (b:UInt64) | ref (a:Addr) | ty (n:String)
 deriving DecidableEq
def RelV:V->Value->Prop
 | .non,u=>u=Value.none
 | .bl b,u=>u=Value.bool b
 | .int i,u=>∃t,u=Value.int i t
 | .str x,u=>∃t,u=Value.str x t
 | .byt b,u=>∃t,u=Value.bytes b t
 | .flt b,u=>∃t,u=Value.float b t
 | .ref a,u=>u=Value.ref a
 | .ty n,u=>u=Value.type n
abbrev i5:List V->List Value->Prop:=Paired RelV
theorem i5.length{xs:List V}{us:List Value}(r:i5 xs us):xs.length=us.length:=Paired.length r
theorem i5.get:∀{xs:List V} {us:List Value} {i:Nat} {x:V},i5 xs us->xs[i]?=some x->∃u,us[i]?=some u/\RelV x u
 | _,_,_,_,.nil,e=>by simp at e
 | _,_,0,_,.cons r _,e=>by simp at e;subst e;exact⟨_,rfl,r⟩
 | _,_,i+1,x,.cons _ t,e=>by
  obtain⟨u,h1,h2⟩:=i5.get (i:=i) (x:=x) t (by simpa using e)
  exact⟨u,by simpa using h1,h2⟩
theorem i5.set{x:V}{u:Value}(r:RelV x u):∀{xs:List V} {us:List Value} (i:Nat),i5 xs us->i5 (xs.set i x) (us.set i u)
 | _,_,_,.nil=>.nil
 | _,_,0,.cons _ t=>.cons r t
 | _,_,i+1,.cons q t=>.cons q (i5.set r i t)
theorem i5.append:∀{xs ys:List V} {us ws:List Value},i5 xs us->i5 ys ws->i5 (xs++ys) (us++ws)
 | _,_,_,_,.nil,s=>s
 | _,_,_,_,.cons r t,s=>.cons r (i5.append t s)
theorem i5.take:∀{xs:List V} {us:List Value} (n:Nat),i5 xs us->i5 (xs.take n) (us.take n)
 | _,_,0,_=>.nil
 | _,_,_+1,.nil=>.nil
 | _,_,n+1,.cons r t=>.cons r (i5.take n t)
theorem i5.drop:∀{xs:List V} {us:List Value} (n:Nat),i5 xs us->i5 (xs.drop n) (us.drop n)
 | _,_,0,r=>r
 | _,_,_+1,.nil=>.nil
 | _,_,n+1,.cons _ t=>i5.drop n t
def nY:Option V->Option Value->Prop
 | some v,some u=>RelV v u
 | none,none=>True
 | _,_=>False
def KV{κ:Type}:List (κ×V)->List (κ×Value)->Prop:=Paired fun (p:κ×V) (q:κ×Value)=>p.1=q.1/\RelV p.2 q.2
def kV:Key->V
 | .inl i=>.int i
 | .inr x=>.str x
inductive HO where
 | lst (xs:List V)
 | tup (xs:List V)
 | dK (kvs:List (Key×V)) | dT (kvs:List (List Key×V))
 | set (S:Int->Bool) (n:Nat)
 | ins (C dx:Addr) (fs:List (Str×V))
 | own (x:Addr)
 | xd (fs:List (Str×V))
 | met (f x:Addr)
 | rng (lo hi:Int)
 | frz (o:Obj) (u:HO)
 | tbl (q:Str) (c:Bool)
 | ext (φ:Heap->Prop)
abbrev Hp:=Addr->Option HO
def upd(H:Hp)(a:Addr)(o:HO):Hp:=fun b=>if b=a then some o else H b
theorem af{H:Hp}{a:Addr}{o:HO}:upd H a o a=some o:=by unfold upd;rw[if_pos rfl]
theorem ai{H:Hp}{a b:Addr}{o:HO}(h:b≠a):upd H a o b=H b:=by unfold upd;rw[if_neg h]
theorem gk{H:Hp}{a:Addr}{o u:HO}:upd (upd H a o) a u=upd H a u:=by
 funext b;unfold upd;split<;>rfl
theorem w6{H:Hp}{a b:Addr}{o u:HO}(h:H a=some o)(h':H b=some u)(d:o≠u):a≠b:=by
 intro e;subst e;rw[h] at h';exact d (Option.some.inj h')
theorem j2{H:Hp}{a b:Addr}{o:HO}(h:H a=some o)(h':H b=none):a≠b:=by
 intro e;subst e;rw[h] at h';cases h'
def kK(h:Heap)(a:Addr)(its:Array Value):Prop:=∃o,h.get? a=some o/\o.cls=.type "tuple" /\ (∃n,o.data=.seq its n)/\o.dict=none
theorem kK.is{h:Heap}{a:Addr}{its:Array Value}(x:kK h a its):IsTup h a its:=by obtain⟨o,e,c,d,_⟩:=x;exact⟨o,e,c,d⟩
theorem kK.lt{h:Heap}{a:Addr}{its:Array Value}(x:kK h a its):a<h.objs.size:=x.is.lt
theorem kK.new(h:Heap)(its:Array Value):kK (h.push {cls:=.type "tuple",data:=.seq its}) h.objs.size its:=⟨_,Heap.get?_push_size _ rfl,rfl,⟨_,rfl⟩,rfl⟩
section
variable(P:Program)(w:World)
def jA(H:Hp)(h:Heap)(a:Addr):HO->Prop
 | .lst xs=>xs.length<=sizeLine/\∃(its:List Value) (n:Nat),i5 xs its/\h.get? a=some {cls:=.type "list",data:=.seq its.toArray n}
 | .tup xs=>xs.length<=sizeLine/\∃its:List Value,i5 xs its/\kK h a its.toArray
 | .dK kvs=>kvs.length<=sizeLine/\(a==sysModules)=false/\∃vs,KV kvs vs/\h.DictOf (i6 P w) a vs
 | .dT kvs=>kvs.length<=sizeLine/\(a==sysModules)=false/\∃xs:List (List Key×Addr×Value),
   Paired (fun (p:List Key×V) (q:List Key×Addr×Value)=>p.1=q.1/\H q.2.1=some (.tup (p.1.map kV))/\RelV p.2 q.2.2) kvs xs /\
   ∃o es ep,h.get? a=some o/\o.ExactDict/\o.data=.dict es ep/\es.toList=xs.map (entryOfKey (tupleKind (i6 P w)))/\(xs.map (·.1)).Nodup
 | .set S n=>h.SetOf (intKind P w) a S n
 | .ins C dx fs=>H dx=some (.own a)/\fs.length<=1000/\dx≠a/\h.get? a=some (PySem.W.instObj C dx) /\
   ∃mA,h.Ns1 dx mA/\(∀f,nY (fs.lookup f) (mA f))/\PySem.Within mA (fs.map (·.1))
 | .own _=>∃o,h.get? a=some o
 | .xd fs=>∃mA,h.Ns1 a mA/\∀f,nY (fs.lookup f) (mA f)
 | .rng lo hi=>∃t u v,h.get? a=some {cls:=.type "range",data:=.fields #[.int lo t,.int hi u,.int 1 v]}
 | .frz o u=>h.get? a=some o/\jA H h a u
 | .tbl q true=>h.CodeRec (.ref a) q
 | .tbl q false=>∃ts:Array Value,h.get? a=some {cls:=.none,data:=.fields ts}/\TriplesOk ts.toList/\∀(pos:Pos) (cv:Value),codeAmong pos ts.toList=some cv->∃c,cv=.ref c/\H c=some (.tbl q true)
 | .met f x=>h.get? a=some (PySem.W.methodObj (.ref f) (.ref x))
 | .ext φ=>φ h/\(∃o,h.get? a=some o)/\∀h1 h2:Heap,φ h1->(∀o,h1.get? a=some o->h2.get? a=some o)->φ h2
def mh(H:Hp)(h:Heap):Prop:=∀a o,H a=some o->jA P w H h a o
end
section
variable{P:Program}{w:World}{H H':Hp}{h h':Heap}{a:Addr}{o:HO}
theorem jA.lt(x:jA P w H h a o):a<h.objs.size:=by
 cases o with
 | lst xs=>obtain⟨_,_,_,_,e⟩:=x;exact Heap.lt_size e
 | tup xs=>obtain⟨_,_,_,p⟩:=x;exact p.lt
 | dK kvs=>obtain⟨_,_,_,_,o,_,_,e,_⟩:=x;exact Heap.lt_size e
 | dT kvs=>obtain⟨_,_,_,_,o,_,_,e,_⟩:=x;exact Heap.lt_size e
 | set S n=>obtain⟨o,_,_,_,e,_⟩:=x;exact Heap.lt_size e
 | ins C dx fs=>obtain⟨_,_,_,e,_⟩:=x;exact Heap.lt_size e
 | own y=>obtain⟨_,e⟩:=x;exact Heap.lt_size e
 | xd fs=>obtain⟨_,⟨_,_,_,e,_⟩,_⟩:=x;exact Heap.lt_size e
 | rng lo hi=>obtain⟨_,_,_,e⟩:=x;exact Heap.lt_size e
 | frz ob u=>obtain⟨e,_⟩:=x;exact Heap.lt_size e
 | tbl q c =>
  cases c with
  | true=>obtain⟨_,o,_,_,e,g,_⟩:=(show h.CodeRec (.ref a) q from x);cases e;exact Heap.lt_size g
  | false=>obtain⟨_,e,_⟩:=x;exact Heap.lt_size e
 | met f y=>exact Heap.lt_size (show h.get? a=some _ from x)
 | ext φ=>obtain⟨_,⟨_,e⟩,_⟩:=x;exact Heap.lt_size e
theorem Paired.mapP{α β:Type}{F G:α->β->Prop}:∀{l₁:List α} {l₂:List β},Paired F l₁ l₂->(∀a b,F a b->G a b)->Paired G l₁ l₂
 | _,_,.nil,_=>.nil
 | _,_,.cons r t,f=>.cons (f _ _ r) (Paired.mapP t f)
theorem jA.stay(x:jA P w H h a o)(k:∀b u,(b=a\/H b=some (.own a))->h.get? b=some u->h'.get? b=some u)
  (ho:∀b,H b=some (.own a)->H' b=some (.own a)) (ht:∀b xs,H b=some (.tup xs)->H' b=some (.tup xs)) (hc:∀b q c,H b=some (.tbl q c)->H' b=some (.tbl q c)):jA P w H' h' a o:=by
 induction o with
 | lst xs=>obtain⟨z,its,n,r,e⟩:=x;exact⟨z,its,n,r,k _ _ (.inl rfl) e⟩
 | tup xs=>obtain⟨z,its,r,ob,e,c⟩:=x;exact⟨z,its,r,ob,k _ _ (.inl rfl) e,c⟩
 | dK kvs=>obtain⟨z,y,vs,r,ob,es,ep,e,c⟩:=x;exact⟨z,y,vs,r,ob,es,ep,k _ _ (.inl rfl) e,c⟩
 | dT kvs =>
  obtain⟨z,y,xs,r,ob,es,ep,e,c⟩:=x
  exact⟨z,y,xs,Paired.mapP r fun p q z=>⟨z.1,ht _ _ z.2.1,z.2.2⟩,ob,es,ep,k _ _ (.inl rfl) e,c⟩
 | set S n=>obtain⟨ob,es,ep,t,e,c⟩:=x;exact⟨ob,es,ep,t,k _ _ (.inl rfl) e,c⟩
 | ins C dx fs =>
  obtain⟨d,z,ne,e,mA,⟨od,es,ep,e2,c⟩,r⟩:=x
  exact⟨ho _ d,z,ne,k _ _ (.inl rfl) e,mA,⟨od,es,ep,k _ _ (.inr d) e2,c⟩,r⟩
 | own y=>obtain⟨ob,e⟩:=x;exact⟨ob,k _ _ (.inl rfl) e⟩
 | xd fs=>obtain⟨mA,⟨od,es,ep,e,c⟩,r⟩:=x;exact⟨mA,⟨od,es,ep,k _ _ (.inl rfl) e,c⟩,r⟩
 | rng lo hi=>obtain⟨t,u,v,e⟩:=x;exact⟨t,u,v,k _ _ (.inl rfl) e⟩
 | frz ob u ih=>obtain⟨e,q⟩:=x;exact⟨k _ _ (.inl rfl) e,ih q⟩
 | tbl q c =>
  cases c with
  | true =>
   obtain⟨_,o,vs,t,e,g,r⟩:=(show h.CodeRec (.ref a) q from x)
   cases e
   exact⟨a,o,vs,t,rfl,k _ _ (.inl rfl) g,r⟩
  | false =>
   obtain⟨ts,e,t,r⟩:=x
   refine⟨ts,k _ _ (.inl rfl) e,t,fun pos cv hcv=>?_⟩
   obtain⟨c,e1,e2⟩:=r pos cv hcv
   exact⟨c,e1,hc _ _ _ e2⟩
 | met f y =>
  have e:h.get? a=some (PySem.W.methodObj (.ref f) (.ref y)):=x
  show h'.get? a=some (PySem.W.methodObj (.ref f) (.ref y))
  exact k a _ (.inl rfl) e
 | ext φ=>obtain⟨p,⟨o,e⟩,st⟩:=x;exact⟨st _ _ p fun o q=>k _ _ (.inl rfl) q,⟨o,k _ _ (.inl rfl) e⟩,st⟩
theorem mh.lt(x:mh P w H h)(e:H a=some o):a<h.objs.size:=(x a o e).lt
theorem mh.fresh(x:mh P w H h)(e:h.objs.size<=a):H a=none:=by
 cases q:H a with
 | none=>rfl
 | some u=>exact absurd (Nat.lt_of_lt_of_le (x.lt q) e) (Nat.lt_irrefl _)
theorem mh.kept(x:mh P w H h)(k:∀b u,h.get? b=some u->h'.get? b=some u):mh P w H h':=fun a o e =>
 (x a o e).stay (fun b u _ q=>k b u q) (fun _ q=>q) (fun _ _ q=>q) fun _ _ _ q=>q
theorem mh.laid(x:mh P w H h)(k:∀b u,h.get? b=some u->h'.get? b=some u)(hp:h.objs.size<=a)(new:jA P w (upd H a o) h' a o):mh P w (upd H a o) h':=fun b u e=>by
 have hn:=x.fresh hp
 by_cases hb:b=a
 ·subst hb;rw[af] at e;cases e;exact new
 ·rw[ai hb] at e
  exact(x b u e).stay (fun c v _ q=>k c v q) (fun c q=>by rw[ai (j2 q hn)];exact q) (fun c xs q=>by rw[ai (j2 q hn)];exact q) fun c _ _ q=>by rw[ai (j2 q hn)];exact q
end
def Rd(H:Hp)(a:Addr)(u:HO):Prop:=H a=some u\/∃o,H a=some (.frz o u)
theorem Rd.of{H:Hp}{a:Addr}{u:HO}(h:H a=some u):Rd H a u:=.inl h
theorem Rd.ok{P:Program}{w:World}{H:Hp}{h:Heap}{a:Addr}{u:HO}(r:Rd H a u)(x:mh P w H h):jA P w H h a u:=by
 rcases r with r | ⟨o,r⟩
 ·exact x a u r
 ·obtain⟨_,q⟩:=x a _ r
  exact q
def Ba:Option HO->Prop
 | some (.lst _)=>True
 | some (.dK _)=>True
 | some (.dT _)=>True
 | some (.set _ _)=>True
 | some (.ins _ _ _)=>True
 | some (.ext _)=>True
 | some (.frz _ (.own _))=>True
 | _=>False
section
variable{P:Program}{w:World}{H:Hp}{h h':Heap}{x e:Addr}{o':HO}
theorem mh.write(ok:mh P w H h)(mu:Ba (H x))(he:e=x\/H e=some (.own x))(k:∀b u,b≠e->h.get? b=some u->h'.get? b=some u)(heo:∃u,h'.get? e=some u)
  (new:jA P w (upd H x o') h' x o'):mh P w (upd H x o') h':=fun b u q=>by
 have nown:∀c y,H c=some (.own y)->c≠x:=fun c y r z=>by subst z;rw[r] at mu;exact mu
 have ntup:∀c xs,H c=some (.tup xs)->c≠x:=fun c xs r z=>by subst z;rw[r] at mu;exact mu
 by_cases hb:b=x
 ·subst hb;rw[af] at q;cases q;exact new
 ·rw[ai hb] at q
  by_cases hbe:b=e
  ·have q':H b=some (.own x):=by
    rcases he with z | z
    ·exact absurd (hbe.trans z) hb
    ·rw[hbe];exact z
   rw[q] at q';cases q'
   obtain⟨v,hv⟩:=heo
   exact⟨v,by rw[hbe];exact hv⟩
  ·refine(ok b u q).stay (fun c v hc r=>k c v ?_ r) (fun c r=>by rw[ai (nown c b r)];exact r) (fun c xs r=>by rw[ai (ntup c xs r)];exact r) fun c q d r=>by rw[ai fun z=>by subst z;rw[r] at mu;exact mu];exact r
   rcases hc with rfl | hc
   ·exact hbe
   ·rintro rfl
    rcases he with z | z
    ·exact nown c b hc z
    ·rw[hc] at z;cases z;exact hb rfl
end
structure Un (fs ex:List Addr) (H H':Hp) (h h':Heap):Prop where
 keep:∀b o,h.get? b=some o->H b=none->b∉fs->b∉ex->h'.get? b=some o
 slot:∀b o,h.get? b=some o->H b=none->b∈fs->b∉ex->∃sl,h'.get? b=some {o with slots:=sl}
 free:∀b o,h.get? b=some o->H b=none->b∉ex->H' b=none
 there:∀b o,h.get? b=some o->b∉ex->∃o',h'.get? b=some o'
 tups:∀b xs,H b=some (.tup xs)->H' b=some (.tup xs)
 frzs:∀b o u,(∀y,u≠.own y)->H b=some (.frz o u)->H' b=some (.frz o u)
 tbls:∀b q c,H b=some (.tbl q c)->H' b=some (.tbl q c)
section
variable{fs fs' ex ex':List Addr}{H H1 H2:Hp}{h h1 h2 h':Heap}{a x e:Addr}{o:HO}
theorem Un.any(u:Un fs ex H H1 h h1){b:Addr}{ob:Obj}(q:h.get? b=some ob)(n:H b=none)(hx:b∉ex):∃sl,h1.get? b=some {ob with slots:=sl}:=by
 by_cases hb:b∈fs
 ·exact u.slot b ob q n hb hx
 ·exact⟨ob.slots,u.keep b ob q n hb hx⟩
theorem Un.trans(a:Un fs ex H H1 h h1)(b:Un fs ex H1 H2 h1 h2):Un fs ex H H2 h h2 where
 keep:=fun c ob q n hc hx=>b.keep c ob (a.keep c ob q n hc hx) (a.free c ob q n hx) hc hx
 slot:=fun c ob q n hc hx=>by
  obtain⟨sl,e1⟩:=a.slot c ob q n hc hx
  obtain⟨sl',e2⟩:=b.slot c _ e1 (a.free c ob q n hx) hc hx
  exact⟨sl',e2⟩
 free:=fun c ob q n hx=>by
  obtain⟨o',e1⟩:=a.there c ob q hx
  exact b.free c o' e1 (a.free c ob q n hx) hx
 there:=fun c ob q hx=>by
  obtain⟨o',e1⟩:=a.there c ob q hx
  exact b.there c o' e1 hx
 tups:=fun c xs q=>b.tups c xs (a.tups c xs q)
 frzs:=fun c ob xs ny q=>b.frzs c ob xs ny (a.frzs c ob xs ny q)
 tbls:=fun c ps d q=>b.tbls c ps d (a.tbls c ps d q)
theorem Un.kept(k:∀b u,h.get? b=some u->h'.get? b=some u):Un fs ex H H h h':=
 ⟨fun b ob q _ _ _=>k b ob q,fun b ob q _ _ _=>⟨ob.slots,k b ob q⟩,fun _ _ _ n _=>n,fun b ob q _=>⟨ob,k b ob q⟩,fun _ _ q=>q,fun _ _ _ _ q=>q,fun _ _ _ q=>q⟩
theorem Un.refl:Un fs ex H H h h:=Un.kept fun _ _ q=>q
theorem Un.laid(k:∀b u,h.get? b=some u->h'.get? b=some u)(hp:h.objs.size<=a)(hn:H a=none):Un fs ex H (upd H a o) h h' where
 keep:=fun b u q _ _ _=>k b u q
 slot:=fun b u q _ _ _=>⟨u.slots,k b u q⟩
 free:=fun b u q n _=>by rw[ai (Nat.ne_of_lt (Nat.lt_of_lt_of_le (Heap.lt_size q) hp))];exact n
 there:=fun b u q _=>⟨u,k b u q⟩
 tups:=fun b xs q=>by rw[ai (j2 q hn)];exact q
 frzs:=fun b u xs _ q=>by rw[ai (j2 q hn)];exact q
 tbls:=fun b ps _ q=>by rw[ai (j2 q hn)];exact q
theorem Un.write(mu:Ba (H x))(he:e=x\/H e=some (.own x))(k:∀b u,b≠e->h.get? b=some u->h'.get? b=some u)(heo:∃u,h'.get? e=some u):Un fs ex H (upd H x o) h h':=by
 have hx:∀b,H b=none->b≠x:=fun b n z=>by subst z;rw[n] at mu;exact mu
 have hb:∀b,H b=none->b≠e:=fun b n z=>by
  subst z
  rcases he with r | r
  ·exact hx b n r
  ·rw[n] at r;cases r
 have hm:∀b u,H b=some u->¬ Ba (some u)->b≠x:=fun b u q nm z=>by subst z;rw[q] at mu;exact nm mu
 refine⟨fun b u q n _ _=>k b u (hb b n) q,fun b u q n _ _=>⟨u.slots,k b u (hb b n) q⟩,fun b u q n _=>by rw[ai (hx b n)];exact n,fun b u q _=>?_,
  fun b xs q=>by rw[ai (hm b _ q fun z=>z)];exact q,fun b u xs ny q=>by rw[ai (hm b _ q (by intro z;cases xs<;>first | exact z | exact ny _ rfl))];exact q,fun b ps _ q=>by rw[ai (hm b _ q fun z=>z)];exact q⟩
 by_cases hbe:b=e
 ·subst hbe;exact heo
 ·exact⟨u,k b u hbe q⟩
theorem Un.mono(u:Un fs ex H H1 h h1)(hs:∀b∈fs,b∈fs')(hx:∀b∈ex,b∈ex'):Un fs' ex' H H1 h h1:=
 ⟨fun b ob q n hb he=>u.keep b ob q n (fun z=>hb (hs b z)) fun z=>he (hx b z),fun _ _ q n _ he=>u.any q n fun z=>he (hx _ z),fun b ob q n he=>u.free b ob q n fun z=>he (hx b z),fun b ob q he=>u.there b ob q fun z=>he (hx b z),u.tups,u.frzs,u.tbls⟩
end
def Bz(h:Heap)(H:Hp):List Addr:=(List.range h.objs.size).filter fun a=>(H a).isSome
def mB(h:Heap)(H:Hp):Heap:=PySem.W.hideAll h (Bz h H)
theorem qj(h:Heap)(H:Hp):(mB h H).objs.size=h.objs.size:=PySem.W.hideAll_size _ _
theorem sH{h:Heap}{H:Hp}{b:Addr}{o:Obj}(e:h.get? b=some o)(n:H b=none):(mB h H).get? b=some o:=
 PySem.W.hideAll_get _ e fun hm=>by
  have q:(H b).isSome=true:=(List.mem_filter.mp hm).2
  rw[n] at q;simp at q
theorem uF{h:Heap}{H:Hp}{b:Addr}{o:Obj}(e:(mB h H).get? b=some o):h.get? b=some o/\H b=none:=by
 have e':h.get? b=some o:=PySem.W.of_hideAll (Bz h H) e
 refine⟨e',?_⟩
 cases q:H b with
 | none=>rfl
 | some x =>
  have hm:b∈Bz h H:=List.mem_filter.mpr ⟨List.mem_range.mpr (Heap.lt_size e'),by simp[q]⟩
  have z:(mB h H).get? b=none:=PySem.W.hideAll_none (Bz h H) hm
  rw[z] at e;cases e
def xY(g h:Heap)(L:Addr):List (Addr×Obj):=(List.range h.objs.size).filterMap fun a=>if a=L\/(g.get? a).isSome=true then none else (h.get? a).map fun o=>(a,o)
def rest(g h:Heap)(L d:Addr):List (Addr×Obj):=(xY g h L).filter fun p=>decide (p.1≠d)
end L2
namespace L2
open PySem PySem.Spec PyProof.Rows
structure Mod (K:PySem.W.Frag) (mg:Str->Option Value) (base:Heap):Prop where
 kin:K.In base
 glob:base.Ns mainGlobals mg
 blt:∃mb,base.Ns builtinsNs mb/\∀x:Str,x ≠ "__name__" -> mb x=bootBuiltins x
 nolimit:base.NoLimit
structure Cx where
 prog:Program
 w:World
 K:PySem.W.Frag
 mg:Str->Option Value
 base:Heap
 A:Around
 N:List Str
 s₀:Shared
 H₀:Hp
 env:Env
 outer:List Env
 stack:List Env
 ex:List Addr
 fn:Str->Bool
 calm:Bool
 pn:List (Addr×Obj)
 xe:Value->Shared->Prop
def va(l:List Env):List Addr:=l.filterMap (·.frame)
abbrev Cx.fs(X:Cx):List Addr:=va X.outer
def rN(sc:Scope)(x:Str):Prop:=sc.names.lookup x=some .local\/sc.names.lookup x=some .cell\/sc.names.lookup x=some .free
def Loc(sc:Scope)(x:Str):Prop:=sc.names.lookup x=some .local\/sc.names.lookup x=some .cell
def Look(env:Env)(h:Heap)(m:Str->Option Value)(x:Str)(u:Value):Prop:=
 (env.kindOf x=some .local/\m x=some u)\/((env.kindOf x=some .cell\/env.kindOf x=some .free)/\∃c,env.cells.lookup x=some c/\h.IsCell c (some u))
structure Cx.Ok (X:Cx):Prop where
 mod:Mod X.K X.mg X.base
 kind:X.env.scope.kind=.function
 glob:X.env.globals=mainGlobals
 blt:X.env.builtins=builtinsNs
 above:X.s₀.heap.objs.size<=X.env.locals
 inj:∀x y c,X.env.cells.lookup x=some c->X.env.cells.lookup y=some c->x=y
 has:∀x,(X.env.kindOf x=some .cell\/X.env.kindOf x=some .free)->∃c,X.env.cells.lookup x=some c
 cab:∀x c,X.fn x=true->X.env.cells.lookup x=some c->X.s₀.heap.objs.size<=c
 hd:X.calm=true->X.A.handled=none
 frames:X.A.frames=some X.stack
 stk:X.stack=X.outer\/(X.stack=X.env::X.outer/\X.env.frame=some X.env.locals)
 exf:∀b∈X.ex,b≠X.env.locals/\∀x c,X.env.cells.lookup x=some c->c≠b
 bs:∀b o,X.base.get? b=some o->X.s₀.heap.get? b=some o/\X.H₀ b=none
 bsz:X.base.objs.size<=X.s₀.heap.objs.size
 noex:∀b o,X.base.get? b=some o->b∉X.ex
 exfs:∀b∈X.ex,b∉X.fs
 funs:X.s₀.heap.FunFrames X.base X.outer
 frf:∀b∈X.fs,X.H₀ b=none
structure Inv (X:Cx) (pins:List (Addr×Obj)) (σ:List (Option V)) (H:Hp) (s:Shared):Prop where
 ok:X.Ok
 os:s.os=X.s₀.os
 bare:AllBare s.gens
 base:Un X.fs X.ex X.H₀ H X.s₀.heap s.heap
 loc:∃m,s.heap.Ns X.env.locals m/\∀(i:Nat) (x:Str) (v:V),X.N[i]?=some x->σ[i]?=some (some v)->rN X.env.scope x->∃u,RelV v u/\Look X.env s.heap m x u
 cell:∀x c,X.env.cells.lookup x=some c->∃v,s.heap.IsCell c v
 free:H X.env.locals=none
 freeC:∀x c,X.env.cells.lookup x=some c->H c=none
 pin:∀p∈X.pn++pins,s.heap.get? p.1=some p.2/\H p.1=none/\p.1≠X.env.locals/\p.1∉X.fs/\∀v,p.2.data≠.cell v
 hok:mh X.prog X.w H s.heap
 len:σ.length=X.N.length
section
variable{X:Cx}{pins:List (Addr×Obj)}{σ:List (Option V)}{H H':Hp}{s:Shared}{h':Heap}
theorem Cx.Ok.nofr(ok:X.Ok){b:Addr}{o:Obj}(e:X.base.get? b=some o):b∉X.fs:=fun hb=>by
 have:=(ok.funs.mem hb).1
 rw[e] at this;cases this
theorem Inv.bs(I:Inv X pins σ H s):∀b o,X.base.get? b=some o->s.heap.get? b=some o/\H b=none:=fun b o e =>
 ⟨I.base.keep b o (I.ok.bs b o e).1 (I.ok.bs b o e).2 (I.ok.nofr e) (I.ok.noex b o e),I.base.free b o (I.ok.bs b o e).1 (I.ok.bs b o e).2 (I.ok.noex b o e)⟩
theorem Inv.bk(I:Inv X pins σ H s):∀b o,X.base.get? b=some o->s.heap.get? b=some o:=fun b o e=>(I.bs b o e).1
theorem Inv.mod(I:Inv X pins σ H s):Mod X.K X.mg X.base:=I.ok.mod
theorem Inv.kIn(I:Inv X pins σ H s):X.K.In s.heap:=I.ok.mod.kin.keeps I.bk
theorem Inv.nolimit(I:Inv X pins σ H s):s.heap.NoLimit:=I.ok.mod.nolimit.keeps I.bk
theorem Inv.lt(I:Inv X pins σ H s):X.env.locals<s.heap.objs.size:=let ⟨_,hn,_⟩:=I.loc;hn.lt
theorem Inv.sz(I:Inv X pins σ H s):X.s₀.heap.objs.size<=s.heap.objs.size:=Nat.le_trans I.ok.above (Nat.le_of_lt I.lt)
theorem Inv.nofs(I:Inv X pins σ H s){a:Addr}(h:s.heap.objs.size<=a):a∉X.fs:=fun hb=>by
 obtain⟨_,o,ho,_⟩:=I.ok.funs.mem hb
 exact absurd (Nat.lt_of_lt_of_le (Heap.lt_size ho) (Nat.le_trans I.sz h)) (Nat.lt_irrefl _)
theorem Inv.cne(I:Inv X pins σ H s):∀x c,X.env.cells.lookup x=some c->c≠X.env.locals:=fun x c e z=>by
 obtain⟨v,o,ho,hd⟩:=I.cell x c e
 obtain⟨m,⟨o',es,ep,ho',hd',_⟩,_⟩:=I.loc
 rw[z,ho'] at ho;cases ho;rw[hd'] at hd;cases hd
theorem Inv.funs(I:Inv X pins σ H s):s.heap.FunFrames X.base X.outer:=by
 have all:∀(l:List Env),(∀b∈va l,b∈X.fs)->X.s₀.heap.FunFrames X.base l->s.heap.FunFrames X.base l:=by
  intro l
  induction l with
  | nil=>intro _ _;trivial
  | cons env r ih =>
   intro hs hl
   obtain⟨hk,⟨L,o,hf,hn,ho,hd⟩,hr⟩:=hl
   have hL:L∈X.fs:=hs L (by unfold va;rw[List.filterMap_cons,hf];exact List.mem_cons_self)
   obtain⟨sl,e⟩:=I.base.slot L o ho (I.ok.frf L hL) hL fun z=>I.ok.exfs L z hL
   exact⟨hk,⟨L,_,hf,hn,e,hd⟩,ih (fun b hb=>hs b (by unfold va;rw[List.filterMap_cons,hf];exact List.mem_cons_of_mem _ hb)) hr⟩
 exact all X.outer (fun _ hb=>hb) I.ok.funs
theorem Inv.stack(I:Inv X pins σ H s):s.heap.FunFrames X.base X.stack:=by
 rcases I.ok.stk with e | ⟨e,hf⟩
 ·rw[e];exact I.funs
 ·rw[e]
  obtain⟨m,hn,_⟩:=I.loc
  refine .cons (by rw[I.ok.kind];decide) hf hn ?_ I.funs
  exact Heap.get?_none_of_le (Nat.le_trans I.ok.bsz I.ok.above)
theorem Inv.stkSub(I:Inv X pins σ H s):∀b∈va X.stack,b∈X.env.locals::X.fs:=fun b hb=>by
 rcases I.ok.stk with e | ⟨e,hf⟩
 ·rw[e] at hb;exact List.mem_cons_of_mem _ hb
 ·rw[e] at hb
  unfold va at hb
  rw[List.filterMap_cons,hf] at hb
  exact hb
theorem Inv.stkFree(I:Inv X pins σ H s):∀b∈va X.stack,H b=none:=fun b hb=>by
 rcases List.mem_cons.mp (I.stkSub b hb) with e | hb
 ·rw[e];exact I.free
 ·obtain⟨_,o,ho,_⟩:=I.ok.funs.mem hb
  exact I.base.free b o ho (I.ok.frf b hb) fun z=>I.ok.exfs b z hb
theorem Inv.step{g':Array GenState}{t':Nat}{d':Drawn}{ch:List Addr}(I:Inv X pins σ H s)
  (hch:∀b∈ch,(b∈X.ex\/X.s₀.heap.objs.size<=b)/\b≠X.env.locals/\(∀x c,X.env.cells.lookup x=some c->c≠b)/\∀p∈X.pn++pins,p.1≠b)
  (keep:∀b o,b≠X.env.locals->b∉X.fs->b∉ch->s.heap.get? b=some o->H b=none->h'.get? b=some o)
  (slot:∀b o,b≠X.env.locals->b∈X.fs->b∉ch->s.heap.get? b=some o->H b=none->∃sl,h'.get? b=some {o with slots:=sl}) (free:∀b o,b∉ch->s.heap.get? b=some o->H b=none->H' b=none)
  (there:∀b o,b∉ch->s.heap.get? b=some o->∃o',h'.get? b=some o')
  (tups:∀b xs,H b=some (.tup xs)->H' b=some (.tup xs)) (frzs:∀b o u,(∀y,u≠.own y)->H b=some (.frz o u)->H' b=some (.frz o u)) (tbls:∀b q c,H b=some (.tbl q c)->H' b=some (.tbl q c))
  (ns:∀m,s.heap.Ns X.env.locals m->h'.Ns X.env.locals m) (hok:mh X.prog X.w H' h') (hg:AllBare g') :
  Inv X pins σ H' {s with heap:=h',gens:=g',drawn:=d',toks:=t' }:=by
 have neL:∀b o,X.s₀.heap.get? b=some o->b≠X.env.locals:=fun b o e=>Nat.ne_of_lt (Nat.lt_of_lt_of_le (Heap.lt_size e) I.ok.above)
 have neC:∀b o,X.s₀.heap.get? b=some o->b∉X.ex->b∉ch:=fun b o e hx hb=>by
  rcases(hch b hb).1 with z | z
  ·exact hx z
  ·exact absurd (Nat.lt_of_lt_of_le (Heap.lt_size e) z) (Nat.lt_irrefl _)
 have cellK:∀x c,X.env.cells.lookup x=some c->∀v,s.heap.IsCell c v->h'.IsCell c v:=fun x c e v ⟨o,ho,hd⟩=>by
  have nch:c∉ch:=fun z=>(hch c z).2.2.1 x c e rfl
  by_cases hc:c∈X.fs
  ·obtain⟨sl,q⟩:=slot c o (I.cne x c e) hc nch ho (I.freeC x c e)
   exact⟨_,q,hd⟩
  ·exact⟨o,keep c o (I.cne x c e) hc nch ho (I.freeC x c e),hd⟩
 refine⟨I.ok,I.os,hg,⟨fun b o e n hb hx=>?_,fun b o e n hb hx=>?_,fun b o e n hx=>?_,fun b o e hx=>?_,fun b xs e=>tups b xs (I.base.tups b xs e),fun b o xs ny e=>frzs b o xs ny (I.base.frzs b o xs ny e),fun b ps d e=>?_⟩,?_,fun x c e=>?_,?_,fun x c e=>?_,fun p hp=>?_,hok,I.len⟩
 ·exact keep b o (neL b o e) hb (neC b o e hx) (I.base.keep b o e n hb hx) (I.base.free b o e n hx)
 ·obtain⟨sl,e1⟩:=I.base.slot b o e n hb hx
  obtain⟨sl',e2⟩:=slot b _ (neL b o e) hb (neC b o e hx) e1 (I.base.free b o e n hx)
  exact⟨sl',e2⟩
 ·obtain⟨o',e1⟩:=I.base.there b o e hx
  exact free b o' (neC b o e hx) e1 (I.base.free b o e n hx)
 ·obtain⟨o',e1⟩:=I.base.there b o e hx
  exact there b o' (neC b o e hx) e1
 ·exact tbls b ps d (I.base.tbls b ps d e)
 ·obtain⟨m,hn,hl⟩:=I.loc
  refine⟨m,ns m hn,fun i x v e1 e2 e3=>?_⟩
  obtain⟨u,r,l⟩:=hl i x v e1 e2 e3
  refine⟨u,r,?_⟩
  rcases l with l | ⟨k,c,e,z⟩
  ·exact .inl l
  ·exact .inr ⟨k,c,e,cellK x c e _ z⟩
 ·obtain⟨v,z⟩:=I.cell x c e
  exact⟨v,cellK x c e v z⟩
 ·obtain⟨m,⟨o,_,_,ho,_⟩,_⟩:=I.loc
  exact free _ o (fun z=>(hch _ z).2.1 rfl) ho I.free
 ·obtain⟨v,o,ho,hd⟩:=I.cell x c e
  exact free c o (fun z=>(hch c z).2.2.1 x c e rfl) ho (I.freeC x c e)
 ·obtain⟨e,n,ne,nf,d⟩:=I.pin p hp
  have nch:p.1∉ch:=fun z=>(hch p.1 z).2.2.2 p hp rfl
  exact⟨keep p.1 p.2 ne nf nch e n,free p.1 p.2 nch e n,ne,nf,d⟩
theorem Inv.un{t':Nat}(I:Inv X pins σ H s)(u:Un X.fs [] H H' s.heap h')(hok:mh X.prog X.w H' h'):Inv X pins σ H' {s with heap:=h',toks:=t' }:=by
 obtain⟨m,⟨o,es,ep,ho,r⟩,_⟩:=id I.loc
 obtain⟨sl,hL⟩:=u.any ho I.free (by simp)
 exact I.step (g':=s.gens) (d':=s.drawn) (ch:=[]) (fun _ z=>nomatch z) (fun b o _ hb _ e n=>u.keep b o e n hb (by simp)) (fun b o _ hb _ e n=>u.slot b o e n hb (by simp)) (fun b o _ e n=>u.free b o e n (by simp)) (fun b o _ e=>u.there b o e (by simp)) u.tups u.frzs u.tbls (fun m' hm=>by
  obtain⟨o',es',ep',ho',r'⟩:=hm
  rw[ho] at ho';cases ho'
  exact⟨_,es',ep',hL,r'⟩) hok I.bare
theorem Inv.call{g':Array GenState}{t':Nat}{d':Drawn}{ch:List Addr}(I:Inv X pins σ H s)(u:Un (va X.stack) ch H H' s.heap h')(hok:mh X.prog X.w H' h')(hg:AllBare g')
  (hch:∀b∈ch,(b∈X.ex\/X.s₀.heap.objs.size<=b)/\b≠X.env.locals/\(∀x c,X.env.cells.lookup x=some c->c≠b)/\∀p∈X.pn++pins,p.1≠b) :
  Inv X pins σ H' {s with heap:=h',gens:=g',drawn:=d',toks:=t' }:=by
 obtain⟨m,⟨o,es,ep,ho,r⟩,_⟩:=id I.loc
 obtain⟨sl,hL⟩:=u.any ho I.free fun z=>(hch _ z).2.1 rfl
 exact I.step (ch:=ch) hch (fun b o hL hb hc e n=>u.keep b o e n (fun z=>(List.mem_cons.mp (I.stkSub b z)).elim hL hb) hc) (fun b o _ _ hc e n=>u.any e n hc) (fun b o hc e n=>u.free b o e n hc) (fun b o hc e=>u.there b o e hc) u.tups u.frzs u.tbls (fun m' hm=>by
  obtain⟨o',es',ep',ho',r'⟩:=hm
  rw[ho] at ho';cases ho'
  exact⟨_,es',ep',hL,r'⟩) hok hg
theorem Inv.turned{t':Nat}{it:Addr}(I:Inv X pins σ H s)(k:∀b o,b≠it->s.heap.get? b=some o->h'.get? b=some o)(hn:H it=none)(hL:it≠X.env.locals)
  (h1:it∈X.ex\/X.s₀.heap.objs.size<=it) (h2:∀x c,X.env.cells.lookup x=some c->c≠it) (h3:∀p∈X.pn++pins,p.1≠it):Inv X pins σ H {s with heap:=h',toks:=t' }:=by
 have nit:∀b u,H b=some u->b≠it:=fun b u e z=>by rw[z,hn] at e;cases e
 refine I.step (g':=s.gens) (d':=s.drawn) (ch:=[it]) (fun b hb=>?_) (fun b o _ _ hc e _=>k b o (fun z=>hc (by simp[z])) e) (fun b o _ _ hc e _=>⟨o.slots,k b o (fun z=>hc (by simp[z])) e⟩) (fun _ _ _ _ n=>n)
  (fun b o hc e=>⟨o,k b o (fun z=>hc (by simp[z])) e⟩) (fun _ _ e=>e) (fun _ _ _ _ e=>e) (fun _ _ _ e=>e) (fun m hm=>?_) (fun b u e=>?_) I.bare
 ·have e:b=it:=by simpa using hb
  subst e
  exact⟨h1,hL,h2,h3⟩
 ·obtain⟨o,es,ep,ho,r⟩:=hm
  exact⟨o,es,ep,k _ o (Ne.symm hL) ho,r⟩
 ·refine(I.hok b u e).stay (fun c v hc q=>k c v ?_ q) (fun _ q=>q) (fun _ _ q=>q) fun _ _ _ q=>q
  rcases hc with z | z
  ·rw[z];exact nit b u e
  ·exact nit c _ z
theorem Inv.tok(I:Inv X pins σ H s)(t:Nat):Inv X pins σ H {s with toks:=t}:=I.un (h':=s.heap) (t':=t) Un.refl I.hok
theorem Inv.kept{t':Nat}(I:Inv X pins σ H s)(k:∀b u,s.heap.get? b=some u->h'.get? b=some u):Inv X pins σ H {s with heap:=h',toks:=t' }:=I.un (Un.kept k) (I.hok.kept k)
theorem Inv.laid{a:Addr}{o:HO}{t':Nat}(I:Inv X pins σ H s)(k:∀b u,s.heap.get? b=some u->h'.get? b=some u)(hp:s.heap.objs.size<=a)(new:jA X.prog X.w (upd H a o) h' a o) :
  Inv X pins σ (upd H a o) {s with heap:=h',toks:=t' }:=I.un (Un.laid k hp (I.hok.fresh hp)) (I.hok.laid k hp new)
theorem Inv.write{x e:Addr}{o:HO}{t':Nat}(I:Inv X pins σ H s)(mu:Ba (H x))(he:e=x\/H e=some (.own x))(k:∀b u,b≠e->s.heap.get? b=some u->h'.get? b=some u)(heo:∃u,h'.get? e=some u)
  (new:jA X.prog X.w (upd H x o) h' x o):Inv X pins σ (upd H x o) {s with heap:=h',toks:=t' }:=I.un (Un.write mu he k heo) (I.hok.write mu he k heo new)
theorem Inv.pins_of{pins':List (Addr×Obj)}(I:Inv X pins σ H s)(h:∀p∈pins',s.heap.get? p.1=some p.2/\H p.1=none/\p.1≠X.env.locals/\p.1∉X.fs/\∀v,p.2.data≠.cell v):Inv X pins' σ H s:=
 ⟨I.ok,I.os,I.bare,I.base,I.loc,I.cell,I.free,I.freeC,fun p hp=>(List.mem_append.mp hp).elim (fun z=>I.pin p (List.mem_append_left _ z)) (h p),I.hok,I.len⟩
theorem sv{N:List Str}(hN:N.Nodup){i j:Nat}{x:Str}(a:N[i]?=some x)(b:N[j]?=some x):i=j:=by
 obtain⟨h1,e1⟩:=List.getElem?_eq_some_iff.mp a
 obtain⟨h2,e2⟩:=List.getElem?_eq_some_iff.mp b
 exact(List.getElem_inj hN).mp (e1.trans e2.symm)
theorem pO{M:Model}{A:Around}{E:Value->Shared->Prop}{i:Nat}{x:Str}{v:V}{u:Value}{Q:Unit->Shared->Prop}(I:Inv X pins σ H s)(hN:X.N.Nodup)(hi:X.N[i]?=some x)(hx:Loc X.env.scope x)(r:RelV v u)
  (h:∀s',Inv X pins (σ.set i (some v)) H s'->(∃a,Heap.SameBut a s.heap s'.heap/\(a=X.env.locals\/X.env.cells.lookup x=some a))->Q () s') (hf:X.fn x=true\/X.env.scope.names.lookup x=some .local:=by first | exact .inl rfl | exact .inr rfl | assumption):wpAny M A (storeName X.env x u) Q E s:=by
 obtain⟨m,hn,hl⟩:=id I.loc
 have hcls:(X.env.scope.kind==.class||(X.env.scope.kind==.module&&X.env.locals != X.env.globals))=false:=by rw[I.ok.kind];rfl
 have hiσ:i<σ.length:=by rw[I.len];exact(List.getElem?_eq_some_iff.mp hi).1
 have cne:=I.cne
 have tracked:∀{a:Addr} {h':Heap},(∃o,s.heap.get? a=some o/\H a=none)->Heap.SameBut a s.heap h'->mh X.prog X.w H h':=fun {a h'} ha hs b ob e=>by
  obtain⟨_,_,hfree⟩:=ha
  refine(I.hok b ob e).stay (fun c w' hc q=>(hs.2 c ?_).trans q) (fun _ q=>q) (fun _ _ q=>q) fun _ _ _ q=>q
  rintro rfl
  rcases hc with rfl | hc
  ·rw[hfree] at e;cases e
  ·rw[hfree] at hc;cases hc
 rcases hx with hk | hk
 ·refine wpAny_storeName_local hk hn (fun h' hn' hs=>?_) hcls
  obtain⟨oL,_,_,hoL,_⟩:=id hn
  refine h _ ⟨I.ok,I.os,I.bare,⟨fun b o e n hb hx=>?_,fun b o e n hb hx=>?_,I.base.free,fun b o e hx=>?_,I.base.tups,I.base.frzs,I.base.tbls⟩,⟨_,hn',fun j y v' e1 e2 e3=>?_⟩,fun y c e=>?_,I.free,I.freeC,fun p hp=>?_,tracked ⟨oL,hoL,I.free⟩ hs,by simpa using I.len⟩ ⟨_,hs,.inl rfl⟩
  ·exact(hs.2 b (Nat.ne_of_lt (Nat.lt_of_lt_of_le (Heap.lt_size e) I.ok.above))).trans (I.base.keep b o e n hb hx)
  ·obtain⟨sl,e1⟩:=I.base.slot b o e n hb hx
   exact⟨sl,(hs.2 b (Nat.ne_of_lt (Nat.lt_of_lt_of_le (Heap.lt_size e) I.ok.above))).trans e1⟩
  ·obtain⟨o',e1⟩:=I.base.there b o e hx
   exact⟨o',(hs.2 b (Nat.ne_of_lt (Nat.lt_of_lt_of_le (Heap.lt_size e) I.ok.above))).trans e1⟩
  ·by_cases hj:j=i
   ·subst hj
    rw[hi] at e1;cases e1
    rw[List.getElem?_set_self hiσ] at e2
    cases e2
    exact⟨u,r,.inl ⟨hk,by simp⟩⟩
   ·rw[List.getElem?_set_ne (Ne.symm hj)] at e2
    obtain⟨u',r',q⟩:=hl j y v' e1 e2 e3
    refine⟨u',r',?_⟩
    rcases q with ⟨k,e⟩ | ⟨k,c,e,z⟩
    ·refine .inl ⟨k,?_⟩
     have:y≠x:=fun e=>hj (sv hN e1 (e ▸ hi))
     simp[this,e]
    ·exact .inr ⟨k,c,e,z.sameBut hs (cne y c e)⟩
  ·obtain⟨w',z⟩:=I.cell y c e
   exact⟨w',z.sameBut hs (cne y c e)⟩
  ·obtain⟨e,n,ne,nf,d⟩:=I.pin p hp
   exact⟨(hs.2 p.1 ne).trans e,n,ne,nf,d⟩
 ·have hfn:X.fn x=true:=by
   rcases hf with z | z
   ·exact z
   ·rw[z] at hk;cases hk
  obtain⟨c,hc⟩:=I.ok.has x (.inl hk)
  obtain⟨w',z⟩:=I.cell x c hc
  refine wpAny_storeName_cell I.ok.kind hk hc z (fun h' hc' hs=>?_)
  obtain⟨oc,hoc,hocd⟩:=id z
  refine h {s with heap:=h' } ⟨I.ok,I.os,I.bare,⟨fun b o e n hb hx=>?_,fun b o e n hb hx=>?_,I.base.free,fun b o e hx=>?_,I.base.tups,I.base.frzs,I.base.tbls⟩,⟨m,hn.sameBut hs (Ne.symm (cne x c hc)),fun j y v' e1 e2 e3=>?_⟩,fun y c' e=>?_,I.free,I.freeC,fun p hp=>?_,tracked ⟨oc,hoc,I.freeC x c hc⟩ hs,by simpa using I.len⟩ ⟨c,hs,.inr hc⟩
  ·exact(hs.2 b (Nat.ne_of_lt (Nat.lt_of_lt_of_le (Heap.lt_size e) (I.ok.cab x c hfn hc)))).trans (I.base.keep b o e n hb hx)
  ·obtain⟨sl,e1⟩:=I.base.slot b o e n hb hx
   exact⟨sl,(hs.2 b (Nat.ne_of_lt (Nat.lt_of_lt_of_le (Heap.lt_size e) (I.ok.cab x c hfn hc)))).trans e1⟩
  ·obtain⟨o',e1⟩:=I.base.there b o e hx
   exact⟨o',(hs.2 b (Nat.ne_of_lt (Nat.lt_of_lt_of_le (Heap.lt_size e) (I.ok.cab x c hfn hc)))).trans e1⟩
  ·by_cases hj:j=i
   ·subst hj
    rw[hi] at e1;cases e1
    rw[List.getElem?_set_self hiσ] at e2
    cases e2
    exact⟨u,r,.inr ⟨.inl hk,c,hc,hc'⟩⟩
   ·rw[List.getElem?_set_ne (Ne.symm hj)] at e2
    obtain⟨u',r',q⟩:=hl j y v' e1 e2 e3
    refine⟨u',r',?_⟩
    rcases q with q | ⟨k,c',e,z'⟩
    ·exact .inl q
    ·refine .inr ⟨k,c',e,z'.sameBut hs ?_⟩
     rintro rfl
     exact hj (sv hN e1 (I.ok.inj _ _ _ e hc ▸ hi))
  ·by_cases hcc:c'=c
   ·subst hcc;exact⟨_,hc'⟩
   ·obtain⟨w2,z2⟩:=I.cell y c' e
    exact⟨w2,z2.sameBut hs hcc⟩
  ·obtain⟨e,n,ne,nf,d⟩:=I.pin p hp
   refine⟨(hs.2 p.1 ?_).trans e,n,ne,nf,d⟩
   intro q
   rw[q,hoc] at e
   have q':oc=p.2:=Option.some.inj e
   exact d w' (by rw[<- q'];exact hocd)
theorem sO{M:Model}{A:Around}{E:Value->Shared->Prop}{i:Nat}{x:Str}{v:V}{u:Value}{Q:Unit->Shared->Prop}(I:Inv X pins σ H s)(hN:X.N.Nodup)(hi:X.N[i]?=some x)(hx:Loc X.env.scope x)(r:RelV v u)
  (h:∀s',Inv X pins (σ.set i (some v)) H s'->Q () s') (hf:X.fn x=true\/X.env.scope.names.lookup x=some .local:=by first | exact .inl rfl | exact .inr rfl | assumption):wpAny M A (storeName X.env x u) Q E s:=
 pO I hN hi hx r (fun s' I' _=>h s' I') hf
theorem Inv.call'{s':Shared}{ch:List Addr}(I:Inv X pins σ H s)(ho:s'.os=s.os)(u:Un (va X.stack) ch H H' s.heap s'.heap)(hok:mh X.prog X.w H' s'.heap)(hg:AllBare s'.gens)
  (hch:∀b∈ch,(b∈X.ex\/X.s₀.heap.objs.size<=b)/\b≠X.env.locals/\(∀x c,X.env.cells.lookup x=some c->c≠b)/\∀p∈X.pn++pins,p.1≠b):Inv X pins σ H' s':=by
 obtain⟨h',g',d',t',o'⟩:=s'
 have e:o'=s.os:=ho
 subst e
 exact I.call (g':=g') (t':=t') (d':=d') u hok hg hch
end
abbrev XK:=Value->Option Addr->Hp->Prop
abbrev St:=List (Option V)
abbrev VK:=V->Hp->Prop
abbrev TE:=St->Hp->VK->Prop
abbrev TT:=St->Hp->(Bool->Hp->Prop)->Prop
abbrev TA:=St->Hp->(List V->Hp->Prop)->Prop
structure Ends where
 nx:St->Hp->Prop
 rt:VK
 bk:St->Hp->Prop:=fun _ _=>False
 ct:St->Hp->Prop:=fun _ _=>False
abbrev TS:=Ends->St->Hp->Prop
def EP(X:Cx)(pins:List (Addr×Obj))(σ:St)(Q:VK)(u:Value)(s':Shared):Prop:=∃v H',Inv X pins σ H' s'/\RelV v u/\Q v H'
def TP(X:Cx)(pins:List (Addr×Obj))(σ:St)(Q:Bool->Hp->Prop)(b:Bool)(s':Shared):Prop:=∃H',Inv X pins σ H' s'/\Q b H'
def AP(X:Cx)(pins:List (Addr×Obj))(σ:St)(Q:List V->Hp->Prop)(us:List Value)(s':Shared):Prop:=∃vs H',Inv X pins σ H' s'/\i5 vs us/\Q vs H'
def SP(X:Cx)(pins:List (Addr×Obj))(D:Ends)(f:Flow)(s':Shared):Prop:=
 match f with
 | .next=>∃ σ' H',Inv X pins σ' H' s'/\D.nx σ' H'
 | .brk=>∃ σ' H',Inv X pins σ' H' s'/\D.bk σ' H'
 | .cont=>∃ σ' H',Inv X pins σ' H' s'/\D.ct σ' H'
 | .ret u=>∃v σ' H',Inv X pins σ' H' s'/\RelV v u/\D.rt v H'
def PE(X:Cx)(e:Expr)(t:TE):Prop:=
 ∀(pins:List (Addr×Obj)) (s:Shared) (σ:St) (H:Hp) (Q:VK),Inv X pins σ H s->t σ H Q->wpAny (model X.prog X.w) X.A (eval e X.env) (EP X pins σ Q) X.xe s
def PT(X:Cx)(e:Expr)(t:TT):Prop:=
 ∀(pins:List (Addr×Obj)) (s:Shared) (σ:St) (H:Hp) (Q:Bool->Hp->Prop),Inv X pins σ H s->t σ H Q->wpAny (model X.prog X.w) X.A (isTrue e X.env (eval e X.env)) (TP X pins σ Q) X.xe s
def PW(X:Cx)(e:Expr)(t:TT):Prop:=
 ∀(whole:Sem Value) (pins:List (Addr×Obj)) (s:Shared) (σ:St) (H:Hp) (Q:Bool->Hp->Prop),Inv X pins σ H s->t σ H Q->wpAny (model X.prog X.w) X.A (isTrue e X.env whole) (TP X pins σ Q) X.xe s
theorem PW.pt{X:Cx}{e:Expr}{t:TT}(h:PW X e t):PT X e t:=h _
def PA(X:Cx)(es:List Expr)(t:TA):Prop:=
 ∀(pos:Pos) (pins:List (Addr×Obj)) (s:Shared) (σ:St) (H:Hp) (Q:List V->Hp->Prop),Inv X pins σ H s->t σ H Q->wpAny (model X.prog X.w) X.A (spliced (backTo pos (starEach es X.env))) (AP X pins σ Q) X.xe s
def PS(X:Cx)(st:Stmt)(t:TS):Prop:=
 ∀(pins:List (Addr×Obj)) (s:Shared) (σ:St) (H:Hp) (D:Ends),Inv X pins σ H s->t D σ H->wpAny (model X.prog X.w) X.A (exec st X.env) (SP X pins D) X.xe s
def PSs(X:Cx)(st:List Stmt)(t:TS):Prop:=
 ∀(pins:List (Addr×Obj)) (s:Shared) (σ:St) (H:Hp) (D:Ends),Inv X pins σ H s->t D σ H->wpAny (model X.prog X.w) X.A (execs st X.env) (SP X pins D) X.xe s
theorem jy{α:Type}{t:Sem α}{Q Q':α->Shared->Prop}{M:Model}{A:Around}{E:Value->Shared->Prop}{s:Shared}(h:wpAny M A t Q E s)(hQ:∀a s,Q a s->Q' a s):wpAny M A t Q' E s:=wpAny_mono h hQ fun _ _ x=>x
end L2
namespace L2
open PySem PySem.Spec PyProof.Rows
section
variable{X:Cx}
theorem bin{a b:Expr}{ta tb:TE}(ha:PE X a ta)(hb:PE X b tb){pins:List (Addr×Obj)}{s:Shared}{σ:St}{H:Hp}{R:V->V->Hp->Prop}(I:Inv X pins σ H s)(h:ta σ H fun x H1=>tb σ H1 fun y H2=>R x y H2)
  {α:Type} {Q:α->Shared->Prop} {f:Value->Value->Sem α}
  (hf:∀v u s2 x y H2,Inv X pins σ H2 s2->RelV x v->RelV y u->R x y H2->wpAny (model X.prog X.w) X.A (f v u) Q X.xe s2) :
  wpAny (model X.prog X.w) X.A (eval a X.env) (fun v s₁=>wpAny (model X.prog X.w) X.A (eval b X.env) (fun u s₂=>wpAny (model X.prog X.w) X.A (f v u) Q X.xe s₂) X.xe s₁) X.xe s:=by
 refine jy (ha pins s σ H _ I h) fun v s1 ⟨x,H1,I1,r1,q1⟩=>?_
 refine jy (hb pins s1 σ H1 _ I1 q1) fun u s2 ⟨y,H2,I2,r2,q2⟩=>?_
 exact hf v u s2 x y H2 I2 r1 r2 q2
def AL(i:Nat):TE:=fun σ H Q=>∃v,σ[i]?=some (some v)/\Q v H
def tC(v:V):TE:=fun _ H Q=>Q v H
theorem eI{i:Nat}{x:Str}{pos:Pos}(hN:X.N[i]?=some x)(hv:rN X.env.scope x)(hd:(x==("__debug__" : Str))=false:=by decide)(hcd:(x==("__classdict__" : Str))=false:=by decide):PE X (.Name x pos) (AL i):=by
 intro pins s σ H Q I h
 obtain⟨v,e,h⟩:=h
 obtain⟨m,hn,hl⟩:=I.loc
 obtain⟨u,r,l⟩:=hl i x v hN e hv
 have fin:EP X pins σ Q u s:=⟨v,H,I,r,h⟩
 rcases l with ⟨hk,hm⟩ | ⟨hk,c,hc,hcell⟩
 ·exact wpAny_Name (wpAny_loadName_local I.ok.kind hk hn hm fin) hd
 ·rcases hk with hk | hk
  ·exact wpAny_Name (wpAny_loadName_cell I.ok.kind hk hc hcell fin) hd
  ·exact wpAny_Name (wpAny_loadName_free I.ok.kind hk hc hcell fin hcd) hd
theorem zy{i j pos}:PE X (.Constant (.int i) j pos) (tC (.int i)):=fun _ _ _ H _ I h=>wpAny_Constant_int ⟨.int i,H,I.tok _,⟨_,rfl⟩,h⟩
theorem AT{b j pos}:PE X (.Constant (.bool b) j pos) (tC (.bl b)):=fun _ _ _ H _ I h=>Constant_bool ⟨.bl b,H,I,rfl,h⟩
theorem Ae{x j pos}:PE X (.Constant (.str x) j pos) (tC (.str x)):=fun _ _ _ H _ I h=>Calls.Constant_str ⟨.str x,H,I.tok _,⟨_,rfl⟩,h⟩
def Gl(X:Cx)(x:Str):Prop:=X.env.kindOf x=some .globalImplicit
theorem dq{E:Value->Shared->Prop}{pins:List (Addr×Obj)}{s:Shared}{σ:St}{H:Hp}{x:Str}{u:Value}{pos:Pos}{Q:Value->Shared->Prop}(I:Inv X pins σ H s)(hg:Gl X x)(hm:X.mg x=some u)(h:Q u s)
  (hd:(x==("__debug__" : Str))=false:=by decide):wpAny (model X.prog X.w) X.A (eval (.Name x pos) X.env) Q E s:=
 Calls.Name_function_global I.ok.kind hg (Calls.loadGlobal_global (by rw[I.ok.glob];exact I.mod.glob.keeps I.bk) hm h) hd
theorem c_{E:Value->Shared->Prop}{pins:List (Addr×Obj)}{s:Shared}{σ:St}{H:Hp}{x:Str}{u:Value}{pos:Pos}{Q:Value->Shared->Prop}(I:Inv X pins σ H s)(hg:Gl X x)(hm:X.mg x=none)(hv:bootBuiltins x=some u)(h:Q u s)
  (hn:x ≠ "__name__":=by decide) (hd:(x==("__debug__" : Str))=false:=by decide):wpAny (model X.prog X.w) X.A (eval (.Name x pos) X.env) Q E s:=by
 obtain⟨mb,h1,h2⟩:=I.mod.blt
 exact Calls.Name_function_global I.ok.kind hg (Calls.loadGlobal_builtin (by rw[I.ok.glob];exact I.mod.glob.keeps I.bk) hm (by rw[I.ok.blt];exact h1.keeps I.bk) ((h2 x hn).trans hv) h) hd
theorem gD{x:Str}{v:V}{u:Value}{pos:Pos}(hg:Gl X x)(hm:X.mg x=some u)(r:RelV v u)(hd:(x==("__debug__" : Str))=false:=by decide):PE X (.Name x pos) (tC v):=
 fun _ _ _ H _ I h=>dq I hg hm ⟨v,H,I,r,h⟩ hd
variable{a b:Expr}{ta tb:TE}{pos:Pos}
def PC(X:Cx)(op:CmpOp)(a b:Expr)(t:TE):Prop:=
 ∀(pins:List (Addr×Obj)) (s:Shared) (σ:St) (H:Hp) (Q:VK),Inv X pins σ H s->t σ H Q ->
  wpAny (model X.prog X.w) X.A (eval a X.env) (fun v s₁=>wpAny (model X.prog X.w) X.A (eval b X.env) (fun u s₂=>wpAny (model X.prog X.w) X.A (compareOp op v u) (EP X pins σ Q) X.xe s₂) X.xe s₁) X.xe s
theorem wo(b:Expr){op:CmpOp}(h:op≠.In)(h2:op≠.NotIn):behindInMarks op b=false:=by
 have e1:(op==CmpOp.In)=false:=by cases op<;>first | rfl | exact absurd rfl h
 have e2:(op==CmpOp.NotIn)=false:=by cases op<;>first | rfl | exact absurd rfl h2
 cases b<;>simp[behindInMarks,e1,e2]
def tB(t:TE):TT:=fun σ H Q=>t σ H fun x H1=>∃c,x=.bl c/\Q c H1
theorem iF{op:CmpOp}{t:TE}(h:PC X op a b t)(h1:behindInMarks op b=false:=by first | exact wo _ (by decide) (by decide) | rfl):PT X (.Compare a [op] [b] pos) (tB t):=by
 intro pins s σ H Q I hw
 refine wpAny_isTrue_Compare1 (jy (h pins s σ H _ I hw) fun v s1 h1=>jy h1 fun u s2 h2=>jy h2 fun c s3 ⟨x,H1,I1,r1,q1⟩=>?_) h1
 obtain⟨d,rfl,q⟩:=q1
 cases r1
 exact wpAny_truthy_bool ⟨H1,I1,q⟩
variable{tA tB':TT}{rest:List Expr}
end
end L2
namespace L2
open PySem PySem.Spec PyProof.Rows
def k4(K:PySem.W.Frag)(H:Hp)(a:Addr)(xs:List V):Prop:=
 Rd H a (.lst xs) \/
  ∃(o:Obj) (its:Array Value) (n:Nat),K.lookup a=some o/\o.cls=.type "list" /\ o.dict=none/\o.data=.seq its n/\its.size<=sizeLine/\i5 xs its.toList
def kD(K:PySem.W.Frag)(H:Hp)(a:Addr)(xs:List V):Prop:=
 Rd H a (.tup xs) \/
  ∃(o:Obj) (its:Array Value) (n:Nat),K.lookup a=some o/\o.cls=.type "tuple" /\ o.dict=none/\o.data=.seq its n/\its.size<=sizeLine/\i5 xs its.toList
def B7:Value->Option V
 | .none=>some .non
 | .bool b=>some (.bl b)
 | .int i _=>some (.int i)
 | .str x _=>some (.str x)
 | .bytes b _=>some (.byt b)
 | .float b _=>some (.flt b)
 | .ref a=>some (.ref a)
 | .type n=>some (.ty n)
 | _=>none
theorem RelV.abs{x:V}{u:Value}(r:RelV x u):B7 u=some x:=by
 cases x with
 | non=>cases r;rfl
 | bl _=>cases r;rfl
 | int _=>obtain⟨t,rfl⟩:=r;rfl
 | str _=>obtain⟨t,rfl⟩:=r;rfl
 | byt _=>obtain⟨t,rfl⟩:=r;rfl
 | flt _=>obtain⟨t,rfl⟩:=r;rfl
 | ref _=>cases r;rfl
 | ty _=>cases r;rfl
theorem RelV.inj{x y:V}{u:Value}(r:RelV x u)(q:RelV y u):x=y:=Option.some.inj (r.abs.symm.trans q.abs)
theorem i5.inj:∀{xs ys:List V} {us:List Value},i5 xs us->i5 ys us->xs=ys
 | _,_,_,.nil,.nil=>rfl
 | _,_,_,.cons r t,.cons r' t'=>by rw[r.inj r',i5.inj t t']
section
variable{X:Cx}{pins:List (Addr×Obj)}{σ:St}{H:Hp}{s:Shared}{a:Addr}{xs ys:List V}
theorem k4.of{K:PySem.W.Frag}(h:H a=some (.lst xs)):k4 K H a xs:=.inl (.inl h)
theorem kD.of{K:PySem.W.Frag}(h:H a=some (.tup xs)):kD K H a xs:=.inl (.inl h)
theorem Inv.list(I:Inv X pins σ H s)(h:k4 X.K H a xs):∃its:List Value,i5 xs its/\PlainL s.heap a its.toArray/\xs.length<=sizeLine:=by
 rcases h with h | ⟨o,its,n,hk,hc,hd,hs,hz,r⟩
 ·obtain⟨z,its,n,r,e⟩:=h.ok I.hok
  exact⟨its,r,⟨_,n,e,rfl,rfl,rfl⟩,z⟩
 ·refine⟨its.toList,r,⟨o,n,I.kIn a o hk,hc,hd,by simpa using hs⟩,?_⟩
  have e:=r.length
  simp only[Array.length_toList] at e
  omega
theorem Inv.tuple(I:Inv X pins σ H s)(h:kD X.K H a xs):∃its:List Value,i5 xs its/\IsTup s.heap a its.toArray/\xs.length<=sizeLine:=by
 rcases h with h | ⟨o,its,n,hk,hc,hd,hs,hz,r⟩
 ·obtain⟨z,its,r,p⟩:=h.ok I.hok
  exact⟨its,r,p.is,z⟩
 ·refine⟨its.toList,r,⟨o,I.kIn a o hk,hc,n,by simpa using hs⟩,?_⟩
  have e:=r.length
  simp only[Array.length_toList] at e
  omega
theorem Inv.list_inj(I:Inv X pins σ H s)(h:k4 X.K H a xs)(h':k4 X.K H a ys):xs=ys:=by
 obtain⟨its,r,⟨o,n,e,_,_,d⟩,_⟩:=I.list h
 obtain⟨its',r',⟨o',n',e',_,_,d'⟩,_⟩:=I.list h'
 rw[e] at e';cases e'
 rw[d] at d'
 injection d' with d1 _
 have:its=its':=by simpa using congrArg Array.toList d1
 subst this
 exact r.inj r'
theorem Inv.tuple_inj(I:Inv X pins σ H s)(h:kD X.K H a xs)(h':kD X.K H a ys):xs=ys:=by
 obtain⟨its,r,⟨o,e,_,n,d⟩,_⟩:=I.tuple h
 obtain⟨its',r',⟨o',e',_,n',d'⟩,_⟩:=I.tuple h'
 rw[e] at e';cases e'
 rw[d] at d'
 injection d' with d1 _
 have:its=its':=by simpa using congrArg Array.toList d1
 subst this
 exact r.inj r'
end
abbrev Cx.wish(X:Cx)(E:Value->Shared->Prop):Cx:={X with xe:=E}
abbrev Cx.nox(X:Cx):Cx:=X.wish fun _ _=>False
theorem Cx.Ok.wish{X:Cx}(ok:X.Ok)(E:Value->Shared->Prop):(X.wish E).Ok:=
 ⟨ok.mod,ok.kind,ok.glob,ok.blt,ok.above,ok.inj,ok.has,ok.cab,ok.hd,ok.frames,ok.stk,ok.exf,ok.bs,ok.bsz,ok.noex,ok.exfs,ok.funs,ok.frf⟩
theorem Cx.Ok.unwish{X:Cx}{E:Value->Shared->Prop}(ok:(X.wish E).Ok):X.Ok:=
 ⟨ok.mod,ok.kind,ok.glob,ok.blt,ok.above,ok.inj,ok.has,ok.cab,ok.hd,ok.frames,ok.stk,ok.exf,ok.bs,ok.bsz,ok.noex,ok.exfs,ok.funs,ok.frf⟩
section
variable{X:Cx}{pins:List (Addr×Obj)}{σ:St}{H:Hp}{s:Shared}{E:Value->Shared->Prop}
theorem Inv.wish(I:Inv X pins σ H s)(E:Value->Shared->Prop):Inv (X.wish E) pins σ H s:=⟨I.ok.wish E,I.os,I.bare,I.base,I.loc,I.cell,I.free,I.freeC,I.pin,I.hok,I.len⟩
theorem Inv.unwish(I:Inv (X.wish E) pins σ H s):Inv X pins σ H s:=⟨I.ok.unwish,I.os,I.bare,I.base,I.loc,I.cell,I.free,I.freeC,I.pin,I.hok,I.len⟩
theorem SP.unwish{D:Ends}{f:Flow}{s':Shared}(h:SP (X.wish E) pins D f s'):SP X pins D f s':=by
 cases f with
 | next=>obtain⟨σ',H',I,q⟩:=h;exact⟨σ',H',I.unwish,q⟩
 | brk=>obtain⟨σ',H',I,q⟩:=h;exact⟨σ',H',I.unwish,q⟩
 | cont=>obtain⟨σ',H',I,q⟩:=h;exact⟨σ',H',I.unwish,q⟩
 | ret u=>obtain⟨v,σ',H',I,r,q⟩:=h;exact⟨v,σ',H',I.unwish,r,q⟩
theorem PE.nox{e:Expr}{t:TE}(h:PE X.nox e t):PE X e t:=fun pins s σ H Q I hw =>
 wpAny_mono (h pins s σ H Q (I.wish _) hw) (fun _ _ ⟨v,H',I',r,q⟩=>⟨v,H',I'.unwish,r,q⟩) fun _ _ z=>False.elim z
theorem PT.nox{e:Expr}{t:TT}(h:PT X.nox e t):PT X e t:=fun pins s σ H Q I hw =>
 wpAny_mono (h pins s σ H Q (I.wish _) hw) (fun _ _ ⟨H',I',q⟩=>⟨H',I'.unwish,q⟩) fun _ _ z=>False.elim z
theorem PSs.nox{st:List Stmt}{t:TS}(h:PSs X.nox st t):PSs X st t:=fun pins s σ H D I hw =>
 wpAny_mono (h pins s σ H D (I.wish _) hw) (fun _ _ q=>q.unwish) fun _ _ z=>False.elim z
end
section
variable{X:Cx}{st:Stmt}{rest:List Stmt}{t u:TS}{e:Expr}{te:TE}{pos:Pos}
def A8:TS:=fun D σ H=>D.nx σ H
def BS(t u:TS):TS:=fun D σ H=>t {D with nx:=u D} σ H
theorem ro:PSs X [] A8:=fun _ _ σ H _ I h=>wpAny_execs_nil ⟨σ,H,I,h⟩
theorem aL(h1:PS X st t)(h2:PSs X rest u):PSs X (st::rest) (BS t u):=by
 intro pins s σ H D I h
 refine wpAny_execs_cons (jy (h1 pins s σ H {D with nx:=u D} I h) fun f s1 q=>?_)
 cases f with
 | next =>
  obtain⟨σ',H',I',q⟩:=q
  exact h2 pins s1 σ' H' D I' q
 | ret v=>exact q
 | brk=>exact q
 | cont=>exact q
theorem bz(h1:PS X st t):PSs X [st] t:=by
 intro pins s σ H D I h
 refine wpAny_execs_cons (jy (h1 pins s σ H D I h) fun f s1 q=>?_)
 cases f with
 | next=>exact wpAny_execs_nil q
 | ret v=>exact q
 | brk=>exact q
 | cont=>exact q
theorem Inv.quiet{pins:List (Addr×Obj)}{σ:St}{H:Hp}{s:Shared}(I:Inv X pins σ H s):interactive X.env=false:=by simp[interactive,I.ok.kind]
def BJ(te:TE):TS:=fun D σ H=>te σ H D.rt
theorem eD(he:PE X e te):PS X (.Return (some e) pos) (BJ te):=by
 intro pins s σ H D I h
 exact wpAny_Return_some (jy (he pins s σ H _ I h) fun v s1 ⟨x,H1,I1,r1,q1⟩=>⟨x,σ,H1,I1,r1,q1⟩)
def BW(c:TT)(t u:TS):TS:=fun D σ H=>c σ H fun b H1=>if b=true then t D σ H1 else u D σ H1
theorem fu{c:Expr}{a b:List Stmt}{tc:TT}(hc:PT X c tc)(ha:PSs X a t)(hb:PSs X b u):PS X (.If c a b pos) (BW tc t u):=by
 intro pins s σ H D I h
 refine wpAny_If (jy (hc pins s σ H _ I h) fun d s1 ⟨H1,I1,q1⟩=>?_)
 cases d with
 | true=>exact ha pins s1 σ H1 D I1 q1
 | false=>exact hb pins s1 σ H1 D I1 q1
end
abbrev TG:=V->St->Hp->(St->Hp->Prop)->Prop
abbrev x6:=List V->St->Hp->(St->Hp->Prop)->Prop
def PG(X:Cx)(target:Expr)(t:TG):Prop:=
 ∀(pins:List (Addr×Obj)) (s:Shared) (σ:St) (H:Hp) (v:V) (u:Value) (Q:St->Hp->Prop),Inv X pins σ H s->RelV v u->t v σ H Q ->
  wpAny (model X.prog X.w) X.A (assign target X.env u) (fun _ s'=>∃ σ' H',Inv X pins σ' H' s'/\Q σ' H') X.xe s
def PGs(X:Cx)(ts:List Expr)(t:x6):Prop:=
 ∀(pins:List (Addr×Obj)) (s:Shared) (σ:St) (H:Hp) (vs:List V) (us:List Value) (Q:St->Hp->Prop),Inv X pins σ H s->i5 vs us->t vs σ H Q ->
  wpAny (model X.prog X.w) X.A (assignInOrder ((assignEach ts X.env).map (·.2)) us) (fun _ s'=>∃ σ' H',Inv X pins σ' H' s'/\Q σ' H') X.xe s
section
variable{X:Cx}{pos:Pos}
def yQ(i:Nat):TG:=fun v σ H Q=>Q (σ.set i (some v)) H
theorem gS{i:Nat}{x:Str}(hN:X.N.Nodup)(hi:X.N[i]?=some x)(hx:Loc X.env.scope x)(hf:X.fn x=true\/X.env.scope.names.lookup x=some .local:=by first | exact .inl rfl | exact .inr rfl | assumption):PG X (.Name x pos) (yQ i):=by
 intro pins s σ H v u Q I r h
 exact wpAny_assign_Name (sO I hN hi hx r (fun s' I'=>⟨_,H,I',h⟩) hf)
def B4:x6:=fun vs σ H Q=>vs=[]/\Q σ H
def Bc(t:TG)(u:x6):x6:=fun vs σ H Q=>∃v r,vs=v::r/\t v σ H fun σ' H'=>u r σ' H' Q
theorem yt:PGs X [] B4:=by
 intro pins s σ H vs us Q I r h
 obtain⟨e,h⟩:=h
 subst e
 cases r
 exact assignInOrder_nil ⟨σ,H,I,h⟩
theorem w9{e:Expr}{es:List Expr}{t:TG}{u:x6}(h1:PG X e t)(h2:PGs X es u)
  (hs:(assignEach (e::es) X.env).map (·.2)=assign e X.env::(assignEach es X.env).map (·.2):=by rfl):PGs X (e::es) (Bc t u):=by
 intro pins s σ H vs us Q I r h
 obtain⟨v,vr,e1,h⟩:=h
 subst e1
 cases r with
 | cons r rr =>
  rw[hs]
  refine assignInOrder_cons (jy (h1 pins s σ H _ _ _ I r h) fun _ s1 ⟨σ1,H1,I1,q1⟩=>?_)
  exact h2 pins s1 σ1 H1 _ _ Q I1 rr q1
def BZ(K:PySem.W.Frag)(n:Nat)(t:x6):TG:=fun v σ H Q=>∃a xs,v=.ref a/\kD K H a xs/\xs.length=n/\t xs σ H Q
theorem iB{es:List Expr}{k:Nat}{t:x6}{n:Nat}(hc:X.calm=true)(h:PGs X es t)
  (hn:(assignEach es X.env).length=n:=by rfl) (hst:(assignEach es X.env).findIdx? (·.1)=none:=by rfl):PG X (.Tuple es k pos) (BZ X.K n t):=by
 intro pins s σ H v u Q I r hw
 obtain⟨a,xs,e1,hq,hl,hw⟩:=hw
 subst e1
 cases r
 obtain⟨its,rv,ht,hz⟩:=I.tuple hq
 refine assign_Tuple_tuple (I.ok.hd hc) ht (by simp[hn,<- hl,rv.length]) hst fun h' hx=>?_
 have I1:Inv X pins σ H {s with heap:=h' }:=I.kept (t':=s.toks) fun b o e=>hx b o (Nat.ne_of_lt (Heap.lt_size e)) e
 exact h pins _ σ H xs _ Q I1 (by simpa using rv) hw
def Bg(te:TE)(g:TG):TS:=fun D σ H=>te σ H fun x H1=>g x σ H1 D.nx
theorem io{tg e:Expr}{te:TE}{g:TG}(he:PE X e te)(hg:PG X tg g)(hs:swapsWithSole [tg] e pos.line X.env=pure false:=by rfl)(hw:swappedStores [tg] e X.env=pure none:=by rfl)
  (h1:(assignEach [tg] X.env).map (·.2)=[assign tg X.env]:=by rfl):PS X (.Assign [tg] e pos) (Bg te g):=by
 intro pins s σ H D I h
 refine wpAny_Assign_stores (jy (he pins s σ H _ I h) fun v s1 ⟨x,H1,I1,r1,q1⟩=>?_) hs hw
 rw[h1]
 exact jy (hg pins s1 σ H1 x v _ I1 r1 q1) fun _ s2 q=>q
theorem bR{i:Nat}{x:Str}{e:Expr}{te:TE}{pos':Pos}(hN:X.N.Nodup)(hi:X.N[i]?=some x)(hx:Loc X.env.scope x)(he:PE X e te)(hs:swapsWith e (some (.Name x pos')) pos.line X.env=pure false:=by rfl)(hf:X.fn x=true\/X.env.scope.names.lookup x=some .local:=by first | exact .inl rfl | exact .inr rfl | assumption) :
  PS X (.Assign [.Name x pos'] e pos) (Bg te (yQ i)):=by
 intro pins s σ H D I h
 refine wpAny_Assign_Name (jy (he pins s σ H _ I h) fun v s1 ⟨y,H1,I1,r1,q1⟩=>?_) hs
 exact sO I1 hN hi hx r1 (fun s2 I2=>⟨_,H1,I2,q1⟩) hf
end
section
variable{X:Cx}{pos:Pos}
def zW(c:TT)(tb:TS):TS:=fun D σ H=>∃W:Nat->St->Hp->Prop,(∃m,W m σ H)/\∀m σ H,W m σ H ->
 c σ H fun b H1=>if b=true then ∃N:St->Hp->Prop,(∀ σ' H',N σ' H'->∃m',m'<m/\W m' σ' H')/\tb {D with nx:=N,ct:=N,bk:=D.nx} σ H1 else D.nx σ H1
theorem cS{c:Expr}{body:List Stmt}{tc:TT}{tb:TS}(hp:PassesOwn (model X.prog X.w) X.A X.env X.xe)(hc:PT X c tc)(hb:PSs X body tb):PS X (.While c body [] pos) (zW tc tb):=by
 intro pins s σ H D I h
 obtain⟨W,⟨m0,w0⟩,turn⟩:=h
 refine wpAny_While (codeAny_whileLoop (fun n s'=>∃ σ' H',Inv X pins σ' H' s'/\W n σ' H') ?_ m0 ⟨σ,H,I,w0⟩)
 rintro n s1 ⟨σ1,H1,I1,w1⟩
 refine wpAny_passesOwn hp (jy (hc pins s1 σ1 H1 _ I1 (turn n σ1 H1 w1)) fun b s2 ⟨H2,I2,q2⟩=>?_)
 cases b with
 | true =>
  obtain⟨N,hN,q2⟩:=q2
  rw[if_pos rfl]
  refine wpAny_passesOwn hp (jy (hb pins s2 σ1 H2 _ I2 q2) fun f s3 q3=>?_)
  cases f with
  | next =>
   obtain⟨σ3,H3,I3,n3⟩:=q3
   obtain⟨m',hm,w3⟩:=hN σ3 H3 n3
   exact⟨m',hm,σ3,H3,I3,w3⟩
  | cont =>
   obtain⟨σ3,H3,I3,n3⟩:=q3
   obtain⟨m',hm,w3⟩:=hN σ3 H3 n3
   exact⟨m',hm,σ3,H3,I3,w3⟩
  | brk=>exact q3
  | ret v=>exact q3
 | false =>
  rw[if_neg Bool.false_ne_true]
  exact wpAny_execs_nil ⟨σ1,H2,I2,q2⟩
end
structure It where
 go:Nat->Hp->Prop
 yld:Nat->Hp->V->Hp->Prop
 stop:Nat->Hp->Prop
def my(X:Cx)(pins:List (Addr×Obj))(H:Hp)(b:Addr):Prop:=
 H b=none/\b≠X.env.locals/\b∉X.fs/\(b∈X.ex\/X.s₀.heap.objs.size<=b)/\(∀x c,X.env.cells.lookup x=some c->c≠b)/\∀p∈X.pn++pins,p.1≠b
theorem Inv.fpOk{X:Cx}{pins:List (Addr×Obj)}{σ:St}{H H':Hp}{s:Shared}{b:Addr}(I:Inv X pins σ H s)(hb:s.heap.objs.size<=b)(hn:H' b=none):my X pins H' b:=by
 refine⟨hn,Nat.ne_of_gt (Nat.lt_of_lt_of_le I.lt hb),I.nofs hb,.inr (Nat.le_trans I.sz hb),fun x c e z=>?_,fun p hp z=>?_⟩
 ·obtain⟨v,q⟩:=I.cell x c e
  exact absurd (Nat.lt_of_lt_of_le q.lt (by rw[z];exact hb)) (Nat.lt_irrefl _)
 ·exact absurd (Nat.lt_of_lt_of_le (Heap.lt_size (I.pin p hp).1) (by rw[z];exact hb)) (Nat.lt_irrefl _)
structure Turn (P:Program) (w:World) (K:PySem.W.Frag) (tg:Expr) (J:It) (fp:List Addr) (it:Addr) (tn:Nat->Heap->Prop):Prop where
 mem:it∈fp
 obj:∀i h,tn i h->∀b∈fp,∃o,h.get? b=some o/\∀v,o.data≠.cell v
 keep:∀i h h',tn i h->(∀b∈fp,∀o,h.get? b=some o->h'.get? b=some o)->tn i h'
 item:∀(X:Cx),X.prog=P->X.w=w->X.K=K->X.calm=true->∀(i:Nat) (pins:List (Addr×Obj)) (s:Shared) (σ:St) (H:Hp) (E:Value->Shared->Prop),Inv X pins σ H s->(∀b∈fp,my X pins H b)->tn i s.heap->J.go i H ->
  wpAny (model P w) X.A (pyNext (.ref it)) (fun r s1=>∃u,r=some u /\
   wpAny (model P w) X.A (letOwnedTupleGo tg (.ref it) u) (fun _ s2=>∃x H',Inv X pins σ H' s2/\RelV x u/\J.yld i H x H'/\tn (i+1) s2.heap/\∀b∈fp,H' b=none) E s1) E s
 done:∀(X:Cx),X.prog=P->X.w=w->X.K=K->X.calm=true->∀(i:Nat) (pins:List (Addr×Obj)) (s:Shared) (σ:St) (H:Hp) (E:Value->Shared->Prop),Inv X pins σ H s->(∀b∈fp,my X pins H b)->tn i s.heap->J.stop i H ->
  wpAny (model P w) X.A (pyNext (.ref it)) (fun r s1=>r=none/\Inv X pins σ H s1) E s
 self:∀(A:Around) (i:Nat) (s:Shared) (Q:Value->Shared->Prop) (E:Value->Shared->Prop),tn i s.heap->Q (.ref it) s->wpAny (model P w) A (pyIter (.ref it)) Q E s
abbrev TI:=St->Hp->(It->Hp->Prop)->Prop
def Cm(X:Cx)(pins:List (Addr×Obj))(σ:St)(tg:Expr)(R:It->Hp->Prop)(itv:Value)(s2:Shared):Prop:=
 ∃(it:Addr) (fp:List Addr) (tn:Nat->Heap->Prop) (J:It) (H':Hp),itv=.ref it/\Inv X pins σ H' s2/\Turn X.prog X.w X.K tg J fp it tn/\tn 0 s2.heap/\(∀b∈fp,my X pins H' b)/\R J H'
def PI(X:Cx)(tg iter:Expr)(wi:TI):Prop:=
 ∀(pins:List (Addr×Obj)) (s:Shared) (σ:St) (H:Hp) (R:It->Hp->Prop),Inv X pins σ H s->wi σ H R ->
  wpAny (model X.prog X.w) X.A (eval iter X.env) (fun v s1=>wpAny (model X.prog X.w) X.A (pyIter v) (Cm X pins σ tg R) X.xe s1) X.xe s
theorem uZ {M:Model} {A:Around} {E:Value->Shared->Prop} {s:Shared} {tg:Expr} {it:Addr} {u:Value} {o:Obj} {n:String} {vs:Array Value} {Q:Unit->Shared->Prop} (ho:s.heap.get? it=some o) (hc:o.cls=.type n) (hd:o.data=.fields vs)
    (hn:["enumerate","zip","dict_itemiterator","dict_reverseitemiterator","odict_iterator","itertools.zip_longest","itertools.pairwise"].contains n=false) (hQ:Q () s):wpAny M A (letOwnedTupleGo tg (.ref it) u) Q E s:=by
  unfold letOwnedTupleGo
  cases tg<;>first
    | exact wpAny_pure hQ
    | (cases u<;>first
        | exact wpAny_pure hQ
        | (refine wpAny_bind (wpAny_load ho ?_)
           rw[hc,hd]
           show wpAny M A (if (["enumerate","zip","dict_itemiterator","dict_reverseitemiterator","odict_iterator","itertools.zip_longest","itertools.pairwise"].contains n&&vs[0]?==some (rawInt _))=true then _ else _) Q E s
           rw[if_neg (by intro h;rw[hn,Bool.false_and] at h;cases h)]
           exact wpAny_pure hQ))
def BU(K:PySem.W.Frag)(a:Addr):It:=
 ⟨fun i H=>∃xs x,k4 K H a xs/\xs[i]?=some x,fun i H x H'=>H'=H/\∀xs,k4 K H a xs->xs[i]?=some x,fun i H=>∃xs,k4 K H a xs/\xs.length<=i⟩
def Cg(K:PySem.W.Frag)(a:Addr):It:=
 ⟨fun i H=>∃xs x,kD K H a xs/\xs[i]?=some x,fun i H x H'=>H'=H/\∀xs,kD K H a xs->xs[i]?=some x,fun i H=>∃xs,kD K H a xs/\xs.length<=i⟩
def Br(lo:Int)(n:Nat):It:=⟨fun i _=>i<n,fun i H x H'=>H'=H/\x=.int (lo+i),fun i _=>n<=i⟩
theorem vN{P:Program}{w:World}{K:PySem.W.Frag}{tg:Expr}(a it:Addr):Turn P w K tg (BU K a) [it] it (fun i h=>h.IsListIter it a i) where
 mem:=by simp
 obj:=fun i h st b hb=>by
  have e:b=it:=by simpa using hb
  subst e
  obtain⟨o,e,c,d⟩:=st
  exact⟨o,e,fun v z=>by rw[d] at z;cases z⟩
 keep:=fun i h h' st k=>st.at fun o e=>k it (by simp) o e
 item:=by
  intro X hP hw hK hc i pins s σ H E I hf st hg
  subst hP hw hK
  obtain⟨xs,x,hq,hx⟩:=hg
  obtain⟨its,rv,p,hz⟩:=I.list hq
  obtain⟨u,hu,ru⟩:=rv.get hx
  obtain⟨f0,f1,f2,f3,f4,f5⟩:=hf it (by simp)
  refine wpAny_pyNext_list_item st p.isList (x:=u) (by simpa using hu) fun h' st' sb=>?_
  have I1:Inv X pins σ H {s with heap:=h' }:=I.turned (t':=s.toks) (fun b o hb e=>(sb.2 b hb).trans e) f0 f1 f3 f4 f5
  obtain⟨o,e,c,d⟩:=id st'
  exact⟨u,rfl,uZ (s:={s with heap:=h' }) e c d (by decide) ⟨x,H,I1,ru,⟨rfl,fun ys hy=>by rw[I.list_inj hy hq];exact hx⟩,st',fun b hb=>(hf b hb).1⟩⟩
 done:=by
  intro X hP hw hK hc i pins s σ H E I hf st hg
  subst hP hw hK
  obtain⟨xs,hq,hx⟩:=hg
  obtain⟨its,rv,p,hz⟩:=I.list hq
  obtain⟨f0,f1,f2,f3,f4,f5⟩:=hf it (by simp)
  have hl:=rv.length
  exact wpAny_pyNext_list_end (I.ok.hd hc) st p.isList (by simp;omega) fun h' eb=>⟨rfl,I.turned (t':=s.toks) (fun b o hb e=>eb b o hb e) f0 f1 f3 f4 f5⟩
 self:=fun _ _ _ _ _ st h=>wpAny_pyIter_listiter st h
theorem ue{P:Program}{w:World}{K:PySem.W.Frag}{tg:Expr}(a it:Addr):Turn P w K tg (Cg K a) [it] it (fun i h=>h.IsTupleIter it a i) where
 mem:=by simp
 obj:=fun i h st b hb=>by
  have e:b=it:=by simpa using hb
  subst e
  obtain⟨o,e,c,d⟩:=st
  exact⟨o,e,fun v z=>by rw[d] at z;cases z⟩
 keep:=fun i h h' st k=>st.at fun o e=>k it (by simp) o e
 item:=by
  intro X hP hw hK hc i pins s σ H E I hf st hg
  subst hP hw hK
  obtain⟨xs,x,hq,hx⟩:=hg
  obtain⟨its,rv,p,hz⟩:=I.tuple hq
  obtain⟨u,hu,ru⟩:=rv.get hx
  obtain⟨f0,f1,f2,f3,f4,f5⟩:=hf it (by simp)
  refine wpAny_pyNext_tuple_item st (show s.heap.IsTuple a its.toArray from p) (x:=u) (by simpa using hu) fun h' st' sb=>?_
  have I1:Inv X pins σ H {s with heap:=h' }:=I.turned (t':=s.toks) (fun b o hb e=>(sb.2 b hb).trans e) f0 f1 f3 f4 f5
  obtain⟨o,e,c,d⟩:=id st'
  exact⟨u,rfl,uZ (s:={s with heap:=h' }) e c d (by decide) ⟨x,H,I1,ru,⟨rfl,fun ys hy=>by rw[I.tuple_inj hy hq];exact hx⟩,st',fun b hb=>(hf b hb).1⟩⟩
 done:=by
  intro X hP hw hK hc i pins s σ H E I hf st hg
  subst hP hw hK
  obtain⟨xs,hq,hx⟩:=hg
  obtain⟨its,rv,p,hz⟩:=I.tuple hq
  obtain⟨f0,f1,f2,f3,f4,f5⟩:=hf it (by simp)
  have hl:=rv.length
  exact wpAny_pyNext_tuple_end (I.ok.hd hc) st (show s.heap.IsTuple a its.toArray from p) (by simp;omega) fun h' eb=>⟨rfl,I.turned (t':=s.toks) (fun b o hb e=>eb b o hb e) f0 f1 f3 f4 f5⟩
 self:=fun _ _ _ _ _ st h=>wpAny_pyIter_tupleiter st h
theorem ud{P:Program}{w:World}{K:PySem.W.Frag}{tg:Expr}(it:Addr)(lo:Int)(n:Nat):Turn P w K tg (Br lo n) [it] it (fun i h=>IsRangeIter h it (lo+(i:Nat)*1) ((n:Int) - (i:Nat)) 1) where
 mem:=by simp
 obj:=fun i h st b hb=>by
  have e:b=it:=by simpa using hb
  subst e
  exact⟨_,st,fun v z=>by
   have z':Data.fields _=Data.cell v:=z
   cases z'⟩
 keep:=fun i h h' st k=>k it (by simp) _ st
 item:=by
  intro X hP hw hK hc i pins s σ H E I hf st hg
  subst hP hw hK
  obtain⟨f0,f1,f2,f3,f4,f5⟩:=hf it (by simp)
  have W:=Walks.range (prog:=X.prog) (w:=X.w) (I.ok.hd hc) it lo 1 n
  refine W.item i s _ _ hg st fun v h' tk hv st' kk=>?_
  obtain⟨t,rfl⟩:=hv
  have I1:Inv X pins σ H {s with heap:=h',toks:=tk}:=I.turned (fun b o hb e=>kk b o (by simpa using hb) e) f0 f1 f3 f4 f5
  refine⟨_,rfl,uZ (s:={s with heap:=h',toks:=tk}) (n:="range_iterator") st' rfl rfl (by decide) ⟨.int (lo+i),H,I1,⟨t,?_⟩,⟨rfl,rfl⟩,st',fun b hb=>(hf b hb).1⟩⟩
  rw[Int.mul_one]
 done:=by
  intro X hP hw hK hc i pins s σ H E I hf st hg
  subst hP hw hK
  obtain⟨f0,f1,f2,f3,f4,f5⟩:=hf it (by simp)
  exact wpAny_pyNext_range_end (I.ok.hd hc) st (by have:n<=i:=hg;omega) fun h' eb=>⟨rfl,I.turned (t':=s.toks) (fun b o hb e=>eb b o hb e) f0 f1 f3 f4 f5⟩
 self:=fun _ _ _ _ _ st h=>wpAny_pyIter_rangeiter st h
end L2
namespace L2
open PySem PySem.Spec PyProof.Rows
section
variable{X:Cx}{tg:Expr}
theorem wD{pins:List (Addr×Obj)}{σ:St}{H:Hp}{s:Shared}{R:It->Hp->Prop}{E:Value->Shared->Prop}{lo hi:Int}{t u v:Tok}{tk:Nat}(I:Inv X pins σ H s)(h1 : -(2 ^ 62)<=lo)(h2:lo<2 ^ 62)(h3 : -(2 ^ 62)<=hi)(h4:hi<2 ^ 62)
  (q:R (Br lo (hi - lo).toNat) H):wpAny (model X.prog X.w) X.A (pyIter (.ref s.heap.objs.size)) (Cm X pins σ tg R) E {s with heap:=s.heap.push {cls:=.type "range",data:=.fields #[.int lo t,.int hi u,.int 1 v]},toks:=tk}:=by
 refine wpAny_pyIter_range (IsRange.new ..) (small_one h1 h2 h3 h4) ?_
 have I1:Inv X pins σ H {s with heap:=s.heap.push {cls:=.type "range",data:=.fields #[.int lo t,.int hi u,.int 1 v]},toks:=tk}:=I.kept fun b o e=>Heap.get?_push_of_some _ e
 refine⟨(s.heap.push {cls:=.type "range",data:=.fields #[.int lo t,.int hi u,.int 1 v]}).objs.size,[(s.heap.push {cls:=.type "range",data:=.fields #[.int lo t,.int hi u,.int 1 v]}).objs.size],_,_,H,rfl,
  I1.kept (t':=tk) fun b o e=>Heap.get?_push_of_some _ e,ud _ lo (hi - lo).toNat,?_,fun b hb=>?_,q⟩
 ·have e1:lo+((0:Nat):Int)*1=lo:=by simp
  have e2:(((hi - lo).toNat:Nat):Int) - ((0:Nat):Int)=Builtin.Range.rangeSize lo hi 1:=by rw[rangeSize_one];split<;>omega
  show IsRangeIter _ _ (lo+((0:Nat):Int)*1) ((((hi - lo).toNat:Nat):Int) - ((0:Nat):Int)) 1
  rw[e1,e2]
  exact Heap.get?_push_size _ rfl
 ·have e:b=(s.heap.push {cls:=.type "range",data:=.fields #[.int lo t,.int hi u,.int 1 v]}).objs.size:=by simpa using hb
  subst e
  exact I1.fpOk (Nat.le_refl _) (I1.hok.fresh (Nat.le_refl _))
def AY(ta:TA):TI:=fun σ H R=>ta σ H fun vs H1=>∃j:Int,vs=[.int j] /\ -(2 ^ 62)<=j/\j<2 ^ 62/\R (Br 0 j.toNat) H1
theorem fr{a:Expr}{ta:TA}{p pos:Pos}(hg:Gl X "range")(hm:X.mg "range" = none)(ha:PA X [a] ta)(hs:starEach [a] X.env=[(false,eval a X.env)]:=by rfl):PI X tg (.Call (.Name "range" p) [a] [] pos) (AY ta):=by
 intro pins s σ H R I h
 refine Call_ (c_ I hg hm boot_range (PyProof.Rows.callWith_type1 (jy (ha pos pins s σ H _ I h) fun us s1 ⟨vs,H1,I1,r1,q1⟩=>?_) hs rfl))
 obtain⟨j,e,q1,q2,q⟩:=q1
 subst e
 cases r1 with
 | cons r rr =>
  cases rr
  obtain⟨t,rfl⟩:=r
  exact call_range_1 (wD I1 (by omega) (by omega) q1 q2 (by simpa using q))
def Cd(wi:TI)(g:TG)(tb:TS):TS:=fun D σ H=>wi σ H fun J H1=>∃W:Nat->Nat->St->Hp->Prop,(∃m,W 0 m σ H1)/\∀i m σ H,W i m σ H ->
 (J.stop i H/\D.nx σ H)\/(J.go i H/\∃N:St->Hp->Prop,(∀ σ' H',N σ' H'->∃m',m'<m/\W (i+1) m' σ' H')/\∀x H',J.yld i H x H'->g x σ H' fun σ2 H2=>tb {D with nx:=N,ct:=N,bk:=D.nx} σ2 H2)
def mr(fp:List Addr)(h:Heap):List (Addr×Obj):=fp.filterMap fun b=>(h.get? b).map fun o=>(b,o)
theorem bo{fp:List Addr}{h:Heap}{b:Addr}{o:Obj}(hb:b∈fp)(e:h.get? b=some o):(b,o)∈mr fp h:=List.mem_filterMap.mpr ⟨b,hb,by rw[e];rfl⟩
theorem pY{fp:List Addr}{h:Heap}{p:Addr×Obj}(hp:p∈mr fp h):p.1∈fp/\h.get? p.1=some p.2:=by
 obtain⟨b,hb,e⟩:=List.mem_filterMap.mp hp
 cases q:h.get? b with
 | none=>rw[q] at e;cases e
 | some o =>
  rw[q] at e
  have e':(b,o)=p:=Option.some.inj e
  subst e'
  exact⟨hb,q⟩
theorem Inv.pinned{pins:List (Addr×Obj)}{σ:St}{H:Hp}{s:Shared}{fp:List Addr}(I:Inv X pins σ H s)(hf:∀b∈fp,my X pins H b)(ho:∀b∈fp,∃o,s.heap.get? b=some o/\∀v,o.data≠.cell v):Inv X (pins++mr fp s.heap) σ H s:=
 I.pins_of fun p hp=>(List.mem_append.mp hp).elim (fun z=>I.pin p (List.mem_append_right _ z)) fun z=>by
  obtain⟨hb,e⟩:=pY z
  obtain⟨f0,f1,f2,_⟩:=hf p.1 hb
  obtain⟨o,e',d⟩:=ho p.1 hb
  rw[e] at e';cases e'
  exact⟨e,f0,f1,f2,d⟩
theorem Inv.unpinned{pins pl:List (Addr×Obj)}{σ:St}{H:Hp}{s:Shared}(I:Inv X (pins++pl) σ H s):Inv X pins σ H s:=I.pins_of fun p hp=>I.pin p (List.mem_append_right _ (List.mem_append_left _ hp))
theorem dF{iter:Expr}{body:List Stmt}{wi:TI}{g:TG}{tb:TS}{pos:Pos}(hp:PassesOwn (model X.prog X.w) X.A X.env X.xe)(hc:X.calm=true)(hi:PI X tg iter wi)(hg:PG X tg g)(hb:PSs X body tb)
  (hs:∀x,foldedSetIterable iter X.env x=pure x:=by intro _;rfl):PS X (.For tg iter body [] pos) (Cd wi g tb):=by
 intro pins s σ H D I h
 refine wpAny_For (jy (hi pins s σ H _ I h) fun v s1 h1=>jy h1 fun itv s2 h2=>?_) hs
 obtain⟨it,fp,tn,J,H2,e,I2,T,st2,f2,W,⟨m0,w0⟩,turn⟩:=h2
 subst e
 have stat:∀{H':Hp},(∀b∈fp,H' b=none)->∀b∈fp,my X pins H' b:=fun hn b hb=>⟨hn b hb,(f2 b hb).2⟩
 refine codeAny_forLoop_any (fun n s'=>∃i σ' H',Inv X pins σ' H' s'/\tn i s'.heap/\(∀b∈fp,H' b=none)/\W i n σ' H') ?_ m0 ⟨0,σ,H2,I2,st2,fun b hb=>(f2 b hb).1,w0⟩
 rintro n s3 ⟨i,σ3,H3,I3,st3,fr3,w3⟩
 rcases turn i n σ3 H3 w3 with ⟨stop,qn⟩ | ⟨go,N,hN,step⟩
 ·refine wpAny_passesOwn hp (jy (T.done X rfl rfl rfl hc i pins s3 σ3 H3 X.xe I3 (stat fr3) st3 stop) fun r s4 ⟨hr,I4⟩=>?_)
  subst hr
  exact wpAny_execs_nil ⟨σ3,H3,I4,qn⟩
 ·refine wpAny_passesOwn hp (jy (T.item X rfl rfl rfl hc i pins s3 σ3 H3 X.xe I3 (stat fr3) st3 go) fun r s4 ⟨u,hr,h4⟩=>?_)
  subst hr
  refine wpAny_passesOwn hp (jy h4 fun _ s5 ⟨x,H5,I5,r5,y5,st5,fr5⟩=>?_)
  have I5':=I5.pinned (stat fr5) (T.obj _ _ st5)
  refine wpAny_passesOwn hp (jy (hg _ s5 σ3 H5 x u _ I5' r5 (step x H5 y5)) fun _ s6 ⟨σ6,H6,I6,q6⟩=>?_)
  refine wpAny_passesOwn hp (jy (hb _ s6 σ6 H6 _ I6 q6) fun f s7 q7=>?_)
  have again:∀{σ7:St} {H7:Hp},Inv X (pins++mr fp s5.heap) σ7 H7 s7->N σ7 H7->∃m,m<n/\∃i σ' H',Inv X pins σ' H' s7/\tn i s7.heap/\(∀b∈fp,H' b=none)/\W i m σ' H':=fun {σ7 H7} I7 n7=>by
   obtain⟨m',hm,w7⟩:=hN σ7 H7 n7
   refine⟨m',hm,i+1,σ7,H7,I7.unpinned,T.keep _ _ _ st5 fun b hb o e=>(I7.pin (b,o) (List.mem_append_right _ (List.mem_append_right _ (bo hb e)))).1,fun b hb=>?_,w7⟩
   obtain⟨o,e,d⟩:=T.obj _ _ st5 b hb
   exact(I7.pin (b,o) (List.mem_append_right _ (List.mem_append_right _ (bo hb e)))).2.1
  cases f with
  | next=>obtain⟨σ7,H7,I7,n7⟩:=q7;exact again I7 n7
  | cont=>obtain⟨σ7,H7,I7,n7⟩:=q7;exact again I7 n7
  | brk=>obtain⟨σ7,H7,I7,q7⟩:=q7;exact⟨σ7,H7,I7.unpinned,q7⟩
  | ret v=>obtain⟨x7,σ7,H7,I7,r7,q7⟩:=q7;exact⟨x7,σ7,H7,I7.unpinned,r7,q7⟩
end
end L2
namespace L2
open PySem PySem.Spec PyProof.Rows
abbrev R2:=V->V->Hp->VK->Prop
def OpR(X:Cx)(f:Value->Value->Sem Value)(r:R2):Prop:=
 ∀(pins:List (Addr×Obj)) (s:Shared) (σ:St) (H:Hp) (x y:V) (v u:Value) (Q:VK),Inv X pins σ H s->RelV x v->RelV y u->r x y H Q ->
  wpAny (model X.prog X.w) X.A (f v u) (EP X pins σ Q) X.xe s
def UnR(X:Cx)(f:Value->Sem Value)(r:V->Hp->VK->Prop):Prop:=
 ∀(pins:List (Addr×Obj)) (s:Shared) (σ:St) (H:Hp) (x:V) (v:Value) (Q:VK),Inv X pins σ H s->RelV x v->r x H Q ->
  wpAny (model X.prog X.w) X.A (f v) (EP X pins σ Q) X.xe s
def CallR(X:Cx)(f:Value)(r:List V->Hp->VK->Prop):Prop:=
 ∀(pins:List (Addr×Obj)) (s:Shared) (σ:St) (H:Hp) (xs:List V) (us:List Value) (Q:VK),Inv X pins σ H s->i5 xs us->r xs H Q ->
  wpAny (model X.prog X.w) X.A (call f us) (EP X pins σ Q) X.xe s
def Bv(r:R2)(ta tb:TE):TE:=fun σ H Q=>ta σ H fun x H1=>tb σ H1 fun y H2=>r x y H2 Q
def rI(C:Int->Int->Prop)(g:Int->Int->V):R2:=fun x y H Q=>∃i j,x=.int i/\y=.int j/\C i j/\Q (g i j) H
def AA(g:Int->Int->V):R2:=fun x y H Q=>∃i j,x=.int i/\y=.int j/\Q (g i j) H
section
variable{X:Cx}{a b c:Expr}{ta tb tc:TE}{pos:Pos}
theorem zI(ha:PE X a ta)(hb:PE X b tb){pins:List (Addr×Obj)}{s:Shared}{σ:St}{H:Hp}{R:V->V->Hp->Prop}(I:Inv X pins σ H s)
  (h:ta σ H fun x H1=>tb σ H1 fun y H2=>R x y H2) {Q:Value->Shared->Prop} {f:Value->Value->Sem Value}
  (hf:∀v u s2 x y H2,Inv X pins σ H2 s2->RelV x v->RelV y u->R x y H2->wpAny (model X.prog X.w) X.A (f v u) Q X.xe s2) :
  wpAny (model X.prog X.w) X.A (eval a X.env) (fun v s₁=>wpAny (model X.prog X.w) X.A (eval b X.env) (fun u s₂=>wpAny (model X.prog X.w) X.A (f v u) Q X.xe s₂) X.xe s₁) X.xe s:=by
 refine jy (ha pins s σ H _ I h) fun v s1 ⟨x,H1,I1,r1,q1⟩=>?_
 refine jy (hb pins s1 σ H1 _ I1 q1) fun u s2 ⟨y,H2,I2,r2,q2⟩=>?_
 exact hf v u s2 x y H2 I2 r1 r2 q2
theorem g_{op:Operator}{r:R2}(ho:OpR X (binaryOp op) r)(ha:PE X a ta)(hb:PE X b tb):PE X (.BinOp a op b pos) (Bv r ta tb):=by
 intro pins s σ H Q I h
 exact wpAny_BinOp (zI ha hb I h fun v u s2 x y H2 I2 rx ry q=>ho pins s2 σ H2 x y v u Q I2 rx ry q)
theorem Cc{f:Value->Value->Sem Value}{C:Int->Int->Prop}{g:Int->Int->Int}
  (rule:∀(i j:Int) (t u:Tok) (s:Shared) (Q:Value->Shared->Prop) (E:Value->Shared->Prop),C i j->Q (.int (g i j) s.toks) {s with toks:=s.toks+1}->wpAny (model X.prog X.w) X.A (f (.int i t) (.int j u)) Q E s) :
  OpR X f (rI C fun i j=>.int (g i j)):=by
 intro pins s σ H x y v u Q I rx ry h
 obtain⟨i,j,rfl,rfl,hc,q⟩:=h
 obtain⟨t,rfl⟩:=rx
 obtain⟨t',rfl⟩:=ry
 exact rule i j t t' s _ _ hc ⟨.int (g i j),H,I.tok _,⟨_,rfl⟩,q⟩
theorem BB{f:Value->Value->Sem Value}{g:Int->Int->Int}
  (rule:∀(i j:Int) (t u:Tok) (s:Shared) (Q:Value->Shared->Prop) (E:Value->Shared->Prop),Q (.int (g i j) s.toks) {s with toks:=s.toks+1}->wpAny (model X.prog X.w) X.A (f (.int i t) (.int j u)) Q E s) :
  OpR X f (AA fun i j=>.int (g i j)):=by
 intro pins s σ H x y v u Q I rx ry h
 obtain⟨i,j,rfl,rfl,q⟩:=h
 obtain⟨t,rfl⟩:=rx
 obtain⟨t',rfl⟩:=ry
 exact rule i j t t' s _ _ ⟨.int (g i j),H,I.tok _,⟨_,rfl⟩,q⟩
theorem AJ{f:Value->Value->Sem Value}{g:Int->Int->Bool}
  (rule:∀(i j:Int) (t u:Tok) (s:Shared) (Q:Value->Shared->Prop) (E:Value->Shared->Prop),Q (.bool (g i j)) s->wpAny (model X.prog X.w) X.A (f (.int i t) (.int j u)) Q E s) :
  OpR X f (AA fun i j=>.bl (g i j)):=by
 intro pins s σ H x y v u Q I rx ry h
 obtain⟨i,j,rfl,rfl,q⟩:=h
 obtain⟨t,rfl⟩:=rx
 obtain⟨t',rfl⟩:=ry
 exact rule i j t t' s _ _ ⟨.bl (g i j),H,I,rfl,q⟩
def BX(i j:Int):Prop:=0<j/\j<1073741824
def ze(i j:Int):Prop:=(-(2 ^ 64)<i/\i<2 ^ 64)\/(-(2 ^ 64)<j/\j<2 ^ 64)
theorem ze.ok{i j:Int}(h:ze i j):IntMulOk i j:=by
 rcases h with ⟨h1,h2⟩ | ⟨h1,h2⟩
 ·exact .of_left (intBits_le_64 h1 h2)
 ·exact .of_right (intBits_le_64 h1 h2)
theorem zC:OpR X (binaryOp .Add) (AA fun i j=>.int (i+j)):=BB fun _ _ _ _ _ _ _ q=>add_int q
theorem zu:OpR X (binaryOp .Mult) (rI ze fun i j=>.int (i*j)):=Cc fun _ _ _ _ _ _ _ hc q=>mul_int q hc.ok
theorem yK:OpR X (binaryOp .FloorDiv) (rI BX fun i j=>.int (i / j)):=Cc fun i j _ _ _ _ _ hc q=>by
 have h1:(0:Int)<j:=hc.1
 have h2:j<1073741824:=hc.2
 exact floordiv_int (by omega) (by rw[Int.fdiv_eq_ediv_of_nonneg i (by omega)];exact q) (.inl (PyProof.noPylong_small (by omega)))
theorem zR:OpR X (binaryOp .Mod) (rI (fun _ j=>0<j) fun i j=>.int (i%j)):=Cc fun i j _ _ _ _ _ hc q=>by
 have h1:(0:Int)<j:=hc
 exact mod_int' (by omega) (by rw[Int.fmod_eq_emod_of_nonneg i (by omega)];exact q)
end
def Bf:V->V->Bool
 | .non,.non=>true | .non,.int _=>true | .int _,.non=>true | .non,.bl _=>true | .bl _,.non=>true | .non,.str _=>true | .str _,.non=>true
 | .int _,.int _=>true | .bl _,.bl _=>true | .str _,.str _=>true | .byt _,.byt _=>true
 | .int _,.str _=>true | .str _,.int _=>true | .bl _,.str _=>true | .str _,.bl _=>true
 | _,_=>false
def CW:R2:=fun x y H Q=>Bf x y=true/\Q (.bl (decide (x=y))) H
theorem uy{i j:Int}:decide (V.int i=V.int j)=(i==j):=by
 rw[Bool.eq_iff_iff]
 simp
theorem wn{i j:Bool}:decide (V.bl i=V.bl j)=(i==j):=by
 rw[Bool.eq_iff_iff]
 simp
theorem uE{i j:Str}:decide (V.str i=V.str j)=(i==j):=by
 rw[Bool.eq_iff_iff]
 simp
theorem yj{i j:Array UInt8}:decide (V.byt i=V.byt j)=(i.toList==j.toList):=by
 rw[Bool.eq_iff_iff]
 cases i
 cases j
 simp
section
variable{X:Cx}{a b c:Expr}{ta tb tc:TE}{pos:Pos}
theorem j5{pins:List (Addr×Obj)}{σ:St}{H:Hp}{s:Shared}{Q:VK}{k k':Bool}(I:Inv X pins σ H s)(q:Q (.bl k) H)(e:k=k'):EP X pins σ Q (.bool k') s:=by
 subst e
 exact⟨.bl k,H,I,rfl,q⟩
theorem AH:OpR X (compareOp .Eq) CW:=by
 intro pins s σ H x y v u Q I rx ry h
 obtain⟨hs,q⟩:=h
 cases x with
 | non =>
  cases rx
  cases y with
  | non=>cases ry;exact PySem.EqNone.eq_none_none (j5 I q (by simp))
  | bl j=>cases ry;exact PySem.EqNone.eq_none_bool (j5 I q (by simp))
  | int j=>obtain⟨t',rfl⟩:=ry;exact PySem.EqNone.eq_none_int (j5 I q (by simp))
  | str j=>obtain⟨t',rfl⟩:=ry;exact PySem.EqNone.eq_none_str (j5 I q (by simp))
  | _=>exact absurd (show false=true from hs) Bool.false_ne_true
 | bl i =>
  cases rx
  cases y with
  | non=>cases ry;exact PySem.EqNone.eq_bool_none (j5 I q (by simp))
  | bl j=>cases ry;exact eq_bool (j5 I q wn)
  | str j=>obtain⟨t',rfl⟩:=ry;exact PySem.EqMixed.eq_bool_str (j5 I q (by simp))
  | _=>exact absurd (show false=true from hs) Bool.false_ne_true
 | int i =>
  obtain⟨t,rfl⟩:=rx
  cases y with
  | non=>cases ry;exact PySem.EqNone.eq_int_none (j5 I q (by simp))
  | int j=>obtain⟨t',rfl⟩:=ry;exact eq_int (j5 I q uy)
  | str j=>obtain⟨t',rfl⟩:=ry;exact PySem.EqMixed.eq_int_str (j5 I q (by simp))
  | _=>exact absurd (show false=true from hs) Bool.false_ne_true
 | str i =>
  obtain⟨t,rfl⟩:=rx
  cases y with
  | non=>cases ry;exact PySem.EqNone.eq_str_none (j5 I q (by simp))
  | bl j=>cases ry;exact PySem.EqMixed.eq_str_bool (j5 I q (by simp))
  | int j=>obtain⟨t',rfl⟩:=ry;exact PySem.EqMixed.eq_str_int (j5 I q (by simp))
  | str j=>obtain⟨t',rfl⟩:=ry;exact eq_str (j5 I q uE)
  | _=>exact absurd (show false=true from hs) Bool.false_ne_true
 | byt i =>
  obtain⟨t,rfl⟩:=rx
  cases y with
  | byt j=>obtain⟨t',rfl⟩:=ry;exact PySem.W.eq_bytes (j5 I q yj)
  | _=>exact absurd (show false=true from hs) Bool.false_ne_true
 | _=>cases y<;>exact absurd (show false=true from hs) Bool.false_ne_true
theorem AI:OpR X (compareOp .Lt) (AA fun i j=>.bl (decide (i<j))):=AJ fun _ _ _ _ _ _ _ q=>lt_int q
theorem AW:OpR X (compareOp .Gt) (AA fun i j=>.bl (decide (j<i))):=AJ fun _ _ _ _ _ _ _ q=>gt_int q
theorem OpR.or{f:Value->Value->Sem Value}{r r':R2}(h:OpR X f r)(h':OpR X f r'):OpR X f (fun x y H Q=>r x y H Q\/r' x y H Q):=by
 intro pins s σ H x y v u Q I rx ry q
 rcases q with q | q
 ·exact h pins s σ H x y v u Q I rx ry q
 ·exact h' pins s σ H x y v u Q I rx ry q
theorem wY(b:Expr){op:CmpOp}(h:op≠.In:=by decide)(h2:op≠.NotIn:=by decide):behindInMarks op b=false:=by
 have e1:(op==CmpOp.In)=false:=by cases op<;>first | rfl | exact absurd rfl h
 have e2:(op==CmpOp.NotIn)=false:=by cases op<;>first | rfl | exact absurd rfl h2
 cases b<;>simp[behindInMarks,e1,e2]
theorem gJ{op:CmpOp}{r:R2}(ho:OpR X (compareOp op) r)(ha:PE X a ta)(hb:PE X b tb)(hm:behindInMarks op b=false):PE X (.Compare a [op] [b] pos) (Bv r ta tb):=by
 intro pins s σ H Q I h
 exact wpAny_Compare1 (zI ha hb I h fun v u s2 x y H2 I2 rx ry q=>ho pins s2 σ H2 x y v u Q I2 rx ry q) hm
def AD(t:TE):TT:=fun σ H Q=>t σ H fun x H'=>∃k,x=.bl k/\Q k H'
theorem gW{op:CmpOp}{r:R2}(ho:OpR X (compareOp op) r)(ha:PE X a ta)(hb:PE X b tb)(hm:behindInMarks op b=false):PT X (.Compare a [op] [b] pos) (AD (Bv r ta tb)):=by
 intro pins s σ H Q I h
 refine wpAny_isTrue_Compare1 (jy (ha pins s σ H _ I h) fun v s1 ⟨x,H1,I1,r1,q1⟩=>jy (hb pins s1 σ H1 _ I1 q1) fun u s2 ⟨y,H2,I2,r2,q2⟩ =>
  jy (ho pins s2 σ H2 x y v u _ I2 r1 r2 q2) fun c s3 ⟨z,H3,I3,r3,k,e,q3⟩=>?_) hm
 subst e
 cases r3
 exact wpAny_truthy_bool ⟨H3,I3,q3⟩
theorem qE:(sizeLine:Nat)<2 ^ 63:=by rw[sizeLine_eq];decide
theorem uj:OpR X (binaryOp .Add) (fun x y H Q=>∃i j,x=.str i/\y=.str j/\i.length+j.length<=sizeLine/\Q (.str (i++j)) H):=by
 intro pins s σ H x y v u Q I rx ry h
 obtain⟨i,j,rfl,rfl,hz,q⟩:=h
 obtain⟨t,rfl⟩:=rx
 obtain⟨t',rfl⟩:=ry
 exact add_str (fun t' tk=>⟨.str (i++j),H,I.tok _,⟨_,rfl⟩,q⟩) hz
theorem vals1{x:V}{us:List Value}(r:i5 [x] us):∃u,us=[u]/\RelV x u:=by
 cases r with
 | cons r1 r2=>cases r2;exact⟨_,rfl,r1⟩
theorem vm:CallR X (.type "int") (fun xs H Q=>(∃i,xs=[.int i]/\Q (.int i) H)\/∃k,xs=[.bl k]/\Q (.int (if k then 1 else 0)) H):=by
 intro pins s σ H xs us Q I r h
 rcases h with ⟨i,rfl,q⟩ | ⟨k,rfl,q⟩
 ·obtain⟨u,rfl,t,rfl⟩:=vals1 r
  exact call_int_int ⟨.int i,H,I,⟨_,rfl⟩,q⟩
 ·obtain⟨u,rfl,r1⟩:=vals1 r
  cases r1
  exact call_int_bool ⟨.int (if k then 1 else 0),H,I.tok _,⟨_,rfl⟩,q⟩
theorem qM:CallR X (.type "str") (fun xs H Q=>∃i,xs=[.int i]/\i.natAbs.log2<1920/\Q (.str (toString i)) H):=by
 intro pins s σ H xs us Q I r h
 obtain⟨i,rfl,hz,q⟩:=h
 obtain⟨u,rfl,t,rfl⟩:=vals1 r
 exact PySem.P.str_of_int hz ⟨.str _,H,I.tok _,⟨_,rfl⟩,q⟩
end
end L2
namespace L2
open PySem PySem.Spec PyProof.Rows
section
variable{prog:Program}{w:World}{A:Around}{E:Value->Shared->Prop}{s:Shared}{K:PySem.W.Frag}{x dx C f:Addr}{mA:Str->Option Value}{name:Str}{v:Value}
end
theorem nY.some_of{v:V}{o:Option Value}(r:nY (some v) o):∃u,o=some u/\RelV v u:=by
 cases o with
 | none=>exact(show False from r).elim
 | some u=>exact⟨u,rfl,r⟩
section
variable{P:Program}{w:World}{H H':Hp}{h h':Heap}{a C dx:Addr}{fs fs':List (Str×V)}
end
structure Cz (K:PySem.W.Frag) (C:Addr):Prop where
 pg:PySem.W.plainGet K C Str.empty=true
 hd:PySem.W.hasDictIn K C=true
 po:PySem.W.plainOver K C=true
 sa:PySem.W.findIn K (.ref C) "__setattr__" = some (some (.builtin "object.__setattr__"))
theorem Cz.get{K:PySem.W.Frag}{C:Addr}(c:Cz K C)(f:Str):PySem.W.plainGet K C f=true:=c.pg
structure Bx (K:PySem.W.Frag) (C:Addr) (f:Str) (v:V) (u:Value):Prop where
 at_:PySem.W.findIn K (.ref C) f=some (some u)
 rel:RelV v u
 get:PySem.W.specialIn K u "__get__" = some none
 cp:PySem.W.copiedNames.contains f=false
section
variable{X:Cx}{pins:List (Addr×Obj)}{σ:St}{H:Hp}{s:Shared}{a C dx:Addr}{fs:List (Str×V)}{f:Str}{v:V}{A:Around}{E:Value->Shared->Prop}
theorem Inv.made(I:Inv X pins σ H s):Inv X pins σ (upd (upd H s.heap.objs.size (.own (s.heap.objs.size+1))) (s.heap.objs.size+1) (.ins C s.heap.objs.size []))
  {s with heap:=(s.heap.push PySem.W.emptyDict).push (PySem.W.instObj C s.heap.objs.size)}:=by
 have e1:(s.heap.push PySem.W.emptyDict).get? s.heap.objs.size=some PySem.W.emptyDict:=Heap.get?_push_size s.heap rfl
 have e2:((s.heap.push PySem.W.emptyDict).push (PySem.W.instObj C s.heap.objs.size)).get? (s.heap.objs.size+1)=some (PySem.W.instObj C s.heap.objs.size):=by
  have:=Heap.get?_push_size (s.heap.push PySem.W.emptyDict) (o:=PySem.W.instObj C s.heap.objs.size) rfl
  rwa [Heap.size_push] at this
 have e3:(s.heap.push PySem.W.emptyDict).Ns s.heap.objs.size (fun _=>none):=⟨PySem.W.emptyDict,#[],_,e1,rfl,(fun e he=>absurd he (by simp)),fun _=>rfl⟩
 have I1:=I.laid (a:=s.heap.objs.size) (o:=.own (s.heap.objs.size+1)) (h':=s.heap.push PySem.W.emptyDict) (t':=s.toks) (fun b u q=>Heap.get?_push_of_some _ q) (Nat.le_refl _) ⟨_,e1⟩
 refine I1.laid (a:=s.heap.objs.size+1) (o:=.ins C s.heap.objs.size []) (t':=s.toks) (fun b u q=>Heap.get?_push_of_some _ q) (Nat.le_of_eq (Heap.size_push _ _)) ?_
 have ne:s.heap.objs.size≠s.heap.objs.size+1:=Nat.ne_of_lt (Nat.lt_succ_self _)
 refine⟨by rw[ai ne,af],Nat.zero_le _,ne,e2,fun _=>none,(Heap.Ns1.of_empty e3).at fun o q=>Heap.get?_push_of_some _ q,fun _=>True.intro,fun y hy=>absurd rfl hy⟩
end
section
variable{X:Cx}{o e value:Expr}{f:Str}{pos pos' tpos:Pos}{ta tv:TE}
end
section
variable{X:Cx}{pins:List (Addr×Obj)}{σ:St}{H:Hp}{s:Shared}{A:Around}{E:Value->Shared->Prop}{Q:Value->Shared->Prop}{c:Value}{b:Bool}
end
end L2
namespace L2
open PySem PySem.Spec PyProof.Rows
structure jo (k:Nat) (A:Around):Prop where
 hd:A.handled=none
 dp:A.depth+3*k+5<recursionLimit
 un:A.units+16*k+200<cLine
 gd:A.guards=some []
theorem jo.mono{j k:Nat}{A:Around}(r:jo k A)(h:j<=k):jo j A:=⟨r.hd,by have:=r.dp;omega,by have:=r.un;omega,r.gd⟩
theorem jo.deeper{k:Nat}{A:Around}(r:jo (k+1) A)(env:Env):jo k (A.deeper env):=
 ⟨r.hd,by have:=r.dp;show A.depth+1+3*k+5<_;omega,by have:=r.un;show A.units+3+16*k+200<_;omega,r.gd⟩
theorem jo.in1{k:Nat}{A:Around}(r:jo (k+1) A):jo k A.in1:=
 ⟨r.hd,by have:=r.dp;show A.depth+3*k+5<_;omega,by have:=r.un;show A.units+1+16*k+200<_;omega,r.gd⟩
theorem t8{A:Around}{C:Addr}{us:List Value}{kw:List (Str×Value)}:(A.under (.builtin "type.__call__" ⟨.ref C::us,kw⟩)).depth=A.depth+1:=by
 first | rfl | simp[Around.under,Code.weight,Code.isCreation,Code.isGuard,Code.isCaller,Code.frames,Code.isFrame,guardIds]
theorem tR{A:Around}{C:Addr}{us:List Value}{kw:List (Str×Value)}:(A.under (.builtin "type.__call__" ⟨.ref C::us,kw⟩)).units=A.units+1:=by
 first | rfl | simp[Around.under,Code.cUnits,Code.frames,Code.isFrame]
theorem jo.make{k:Nat}{A:Around}(r:jo (k+1) A)(C:Addr)(us:List Value)(kw:List (Str×Value)):jo k (A.under (.builtin "type.__call__" ⟨.ref C::us,kw⟩)):=
 ⟨r.hd,by have:=r.dp;rw[t8];omega,by have:=r.un;rw[tR];omega,by show pushGuards (Code.guards (.builtin "type.__call__" ⟨.ref C::us,kw⟩)) A.guards=_;rw[r.gd];first | rfl | simp[Code.guards,Code.isGuard,guardIds,pushGuards]⟩
theorem jo.depth{k:Nat}{A:Around}(r:jo k A):A.depth<recursionLimit:=by have:=r.dp;omega
theorem jo.units{k:Nat}{A:Around}(r:jo k A):A.units+64<cLine:=by have:=r.un;omega
def Ca:TA:=fun _ H Q=>Q [] H
def A7(ta:TE)(tr:TA):TA:=fun σ H Q=>ta σ H fun x H1=>tr σ H1 fun xs H2=>Q (x::xs) H2
section
variable{X:Cx}{e:Expr}{es:List Expr}{te:TE}{t:TA}{pos:Pos}
theorem xi:PA X [] Ca:=fun _ _ _ _ H Q I h=>Calls.spliced_nil ⟨[],H,I,.nil,h⟩
theorem dO(ha:PE X e te)(hr:PA X es t)(hs:starEach (e::es) X.env=(false,eval e X.env)::starEach es X.env:=by rfl):PA X (e::es) (A7 te t):=by
 intro pos pins s σ H Q I h
 rw[hs]
 show wpAny _ _ (spliced ((false,eval e X.env)::backTo pos (starEach es X.env))) _ _ s
 refine Calls.spliced_cons (jy (ha pins s σ H _ I h) fun u s1 ⟨x,H1,I1,r1,q1⟩=>?_)
 exact jy (hr pos pins s1 σ H1 _ I1 q1) fun us s2 ⟨xs,H2,I2,r2,q2⟩=>⟨x::xs,H2,I2,.cons r1 r2,q2⟩
def BL(t:TA):TE:=fun σ H Q=>t σ H fun xs H1=>xs.length<=sizeLine/\∀p,H1 p=none->Q (.ref p) (upd H1 p (.tup xs))
def B9(t:TA):TE:=fun σ H Q=>t σ H fun xs H1=>xs.length<=sizeLine/\∀p,H1 p=none->Q (.ref p) (upd H1 p (.lst xs))
theorem iu{x1}(h:PA X es t):PE X (.Tuple es x1 pos) (BL t):=by
 intro pins s σ H Q I hq
 refine wpAny_Tuple_spliced (jy (h pos pins s σ H _ I hq) fun us s1 ⟨xs,H1,I1,r,z,q⟩=>⟨by rw[<- r.length];exact z,?_⟩)
 have hf:H1 s1.heap.objs.size=none:=I1.hok.fresh (Nat.le_refl _)
 refine⟨.ref s1.heap.objs.size,upd H1 s1.heap.objs.size (.tup xs),I1.laid (t':=s1.toks) (fun b u e=>Heap.get?_push_of_some _ e) (Nat.le_refl _) ?_,rfl,q _ hf⟩
 exact⟨z,us,r,⟨_,Heap.get?_push_size _ rfl,rfl,⟨_,rfl⟩,rfl⟩⟩
theorem cC(h:PA X es t):PE X (.List es pos) (B9 t):=by
 intro pins s σ H Q I hq
 refine wpAny_List_spliced (jy (h pos pins s σ H _ I hq) fun us s1 ⟨xs,H1,I1,r,z,q⟩=>⟨by rw[<- r.length];exact z,?_⟩)
 have hf:H1 s1.heap.objs.size=none:=I1.hok.fresh (Nat.le_refl _)
 refine⟨.ref s1.heap.objs.size,upd H1 s1.heap.objs.size (.lst xs),I1.laid (t':=s1.toks) (fun b u e=>Heap.get?_push_of_some _ e) (Nat.le_refl _) ?_,rfl,q _ hf⟩
 exact⟨z,us,0,r,Heap.get?_push_size _ rfl⟩
end
abbrev Sp:=List V->Hp->VK->XK->Prop
abbrev sU:=List Env->Hp->Shared->XK->Value->Shared->Prop
structure nH (P:Program) (w:World) (K:PySem.W.Frag) (mg:Str->Option Value) (base:Heap) (A:Around) (outer:List Env) (s:Shared) (H:Hp):Prop where
 frames:A.frames=some outer
 mod:Mod K mg base
 bs:∀b o,base.get? b=some o->s.heap.get? b=some o/\H b=none
 bsz:base.objs.size<=s.heap.objs.size
 funs:s.heap.FunFrames base outer
 frf:∀b∈va outer,H b=none
 hok:mh P w H s.heap
 bare:AllBare s.gens
def CE(outer:List Env)(P:Program)(w:World)(H:Hp)(s:Shared)(Q:VK)(u:Value)(s':Shared):Prop:=
 ∃v H',s'.os=s.os/\AllBare s'.gens/\Un (va outer) [] H H' s.heap s'.heap/\mh P w H' s'.heap/\RelV v u/\Q v H'
def CR(CX:sU)(outer:List Env)(P:Program)(w:World)(H:Hp)(s:Shared)(Q:VK)(E:XK)(r:Result)(s':Shared):Prop:=
 match r with
 | .ok (.ret u)=>CE outer P w H s Q u s'
 | .ok _=>False
 | .error e=>CX outer H s E e s'
structure jl (P:Program) (w:World) (K:PySem.W.Frag) (mg:Str->Option Value) (base:Heap) (CX:sU) (k:Nat) (f:Addr) (fd:FuncData) (ps:List Str) (sp:Sp):Prop where
 len:∀vs H Q E,sp vs H Q E->vs.length=ps.length
 run:∀(A:Around) (outer:List Env) (s:Shared) (H:Hp) (args:Args) (us:List Value) (vs:List V) (Q:VK) (E:XK),jo k A->nH P w K mg base A outer s H->BindsTo s fd args (ps.zip us)->i5 vs us->sp vs H Q E ->
  codeAny (model P w) A (.call (.ref f) args) (CR CX outer P w H s Q E) s
theorem jl.mono{P:Program}{w:World}{K:PySem.W.Frag}{mg:Str->Option Value}{base:Heap}{CX:sU}{j k:Nat}{f:Addr}{fd:FuncData}{ps:List Str}{sp:Sp}(F:jl P w K mg base CX j f fd ps sp)(h:j<=k) :
  jl P w K mg base CX k f fd ps sp:=⟨F.len,fun A outer s H args us vs Q E hr=>F.run A outer s H args us vs Q E (hr.mono h)⟩
theorem jl.imp{P:Program}{w:World}{K:PySem.W.Frag}{mg:Str->Option Value}{base:Heap}{CX:sU}{k:Nat}{f:Addr}{fd:FuncData}{ps:List Str}{sp sp':Sp}(F:jl P w K mg base CX k f fd ps sp)
  (h:∀vs H Q E,sp' vs H Q E->sp vs H Q E):jl P w K mg base CX k f fd ps sp':=
 ⟨fun vs H Q E q=>F.len vs H Q E (h _ _ _ _ q),fun A outer s H args us vs Q E hr he hb hv hs=>F.run A outer s H args us vs Q E hr he hb hv (h _ _ _ _ hs)⟩
theorem nH.make{P:Program}{w:World}{K:PySem.W.Frag}{mg:Str->Option Value}{base:Heap}{A:Around}{outer:List Env}{s:Shared}{H:Hp}(e:nH P w K mg base A outer s H)(C:Addr)(us:List Value)(kw:List (Str×Value)) :
  nH P w K mg base (A.under (.builtin "type.__call__" ⟨.ref C::us,kw⟩)) outer s H:=⟨by first | exact e.frames | (simpa [Around.under,Code.envs,Code.isFrame,pushEnvs] using e.frames),e.mod,e.bs,e.bsz,e.funs,e.frf,e.hok,e.bare⟩
theorem nH.in1{P:Program}{w:World}{K:PySem.W.Frag}{mg:Str->Option Value}{base:Heap}{A:Around}{outer:List Env}{s:Shared}{H:Hp}(e:nH P w K mg base A outer s H) :
  nH P w K mg base A.in1 outer s H:=⟨e.frames,e.mod,e.bs,e.bsz,e.funs,e.frf,e.hok,e.bare⟩
section
variable{X:Cx}{pins:List (Addr×Obj)}{σ:St}{H:Hp}{s s':Shared}
theorem Inv.env0(I:Inv X pins σ H s):nH X.prog X.w X.K X.mg X.base X.A X.stack s H:=
 ⟨I.ok.frames,I.ok.mod,I.bs,Nat.le_trans I.ok.bsz I.sz,I.stack,I.stkFree,I.hok,I.bare⟩
theorem Inv.after{Q:VK}{u:Value}(I:Inv X pins σ H s)(h:CE X.stack X.prog X.w H s Q u s'):EP X pins σ Q u s':=by
 obtain⟨v,H',os,bare,un,hok,r,q⟩:=h
 obtain⟨hh,g,d,t,os'⟩:=s'
 obtain rfl:os'=s.os:=os
 exact⟨v,H',I.call (h':=hh) (g':=g) (d':=d) (t':=t) (ch:=[]) un hok bare (fun b z=>absurd z (by simp)),r,q⟩
end
def A1(sp:Sp)(dvs:List V)(E:XK)(t:TA):TE:=fun σ H Q=>t σ H fun vs H1=>sp (vs++dvs) H1 Q E
def Binds(K:PySem.W.Frag)(fd:FuncData)(ps:List Str)(ds:List Value):Prop:=
 ∀(s:Shared) (us:List Value),K.In s.heap->(us++ds).length=ps.length->BindsTo s fd ⟨us,[]⟩ (ps.zip (us++ds))
theorem Binds.all{K:PySem.W.Frag}{fd:FuncData}{ps:List Str}(h:∀us:List Value,us.length=ps.length->bindArgs fd ⟨us,[]⟩=pure (ps.zip us)):Binds K fd ps []:=fun s us _ hl=>by
 rw[List.append_nil] at hl ⊢
 exact .of_eq (h us hl)
def ua(CX:sU)(X:Cx)(E:XK):Prop:=∀(pins:List (Addr×Obj)) (σ:St) (H:Hp) (s:Shared) (e:Value) (s':Shared),Inv X pins σ H s->CX X.stack H s E e s'->X.xe e s'
section
variable{X:Cx}{CX:sU}{k:Nat}{f C:Addr}{fd:FuncData}{ps:List Str}{sp:Sp}{dvs:List V}{ds:List Value}{E:XK}{x m:Str}{p pos apos:Pos}{e o:Expr}{es:List Expr}{ta:TE}{t:TA}
theorem we{pins:List (Addr×Obj)}{σ:St}{H:Hp}{s:Shared}{Q:VK}{us:List Value}{vs:List V}(F:jl X.prog X.w X.K X.mg X.base CX k f fd ps sp)(hr:jo k X.A)(hb:Binds X.K fd ps ds)(hd:i5 dvs ds)(hx:ua CX X E)
  (I:Inv X pins σ H s) (r:i5 vs us) (h:sp (vs++dvs) H Q E):wpAny (model X.prog X.w) X.A (call (.ref f) us) (EP X pins σ Q) X.xe s:=by
 have r2:i5 (vs++dvs) (us++ds):=r.append hd
 have hl:(us++ds).length=ps.length:=by rw[<- r2.length];exact F.len _ _ _ _ h
 refine wpAny_call (codeAny_mono (F.run X.A X.stack s H ⟨us,[]⟩ (us++ds) (vs++dvs) Q E hr I.env0 (hb s us I.kIn hl) r2 h) fun r s' hq=>?_)
 cases r with
 | error e=>exact hx pins σ H s e s' I hq
 | ok fl =>
  cases fl with
  | ret u=>exact I.after hq
  | next=>exact False.elim hq
  | brk=>exact False.elim hq
  | cont=>exact False.elim hq
theorem dv(F:jl X.prog X.w X.K X.mg X.base CX k f fd ps sp)(hr:jo k X.A)(hg:Gl X x)(hm:X.mg x=some (.ref f))(hk:PySem.W.keepIn X.K (.ref f)=true)(hb:Binds X.K fd ps ds)(hd:i5 dvs ds)(hx:ua CX X E)
  (ha:PA X (e::es) t) (hdb:(x==("__debug__" : Str))=false:=by decide) (he:starEach (e::es) X.env=(false,eval e X.env)::starEach es X.env:=by rfl) (hpl:(backTo pos (starEach es X.env)).any (·.1)=false:=by rfl) :
  PE X (.Call (.Name x p) (e::es) [] pos) (A1 sp dvs E t):=by
 intro pins s σ H Q I h
 refine wpAny_Call_Name_kw (dq I hg hm ?_ hdb)
 refine PySem.W.callWith_K (h₀:=X.base) I.ok.mod.kin hk (jy (ha pos pins s σ H _ I h) fun us s1 ⟨vs,H1,I1,r,q⟩=>⟨I1.kIn,?_⟩) he hpl
 exact we F hr hb hd hx I1 r q
end
def PK(X:Cx)(kws:List Keyword)(t:TA):Prop:=
 ∀(pos:Pos) (pins:List (Addr×Obj)) (s:Shared) (σ:St) (H:Hp) (Q:List V->Hp->Prop),Inv X pins σ H s->t σ H Q->wpAny (model X.prog X.w) X.A (evalAll ((backToKw pos (keywordEach kws X.env)).map (·.2))) (AP X pins σ Q) X.xe s
section
variable{X:Cx}{CX:sU}{k:Nat}{f C:Addr}{fd:FuncData}{ps ks:List Str}{sp:Sp}{E:XK}{x m:Str}{p pos apos kpos:Pos}{e o:Expr}{es:List Expr}{kws:List Keyword}{te ta:TE}{t tk:TA}{nm:Option Str}
variable{g:List Value->List Value->List Value}{gV:List V->List V->List V}
end
structure jc (N P:List Str) (sc:Scope):Prop where
 kind:sc.kind=.function
 co:sc.isCoroutine=false
 gen:sc.isGenerator=false
 nd:N.Nodup
 pre:N.take P.length=P
 par:∀x∈P,sc.names.lookup x=some .local\/sc.names.lookup x=some .cell
 nofree:∀y∈sc.names,y.2≠.free
theorem rO{N P:List Str}{sc:Scope}(h1:N.Nodup:=by decide +kernel)(h2:∀x∈P,sc.names.lookup x=some .local\/sc.names.lookup x=some .cell:=by decide +kernel)(h3:∀y∈sc.names,y.2≠.free:=by decide +kernel)(k:sc.kind=.function:=by rfl)(c:sc.isCoroutine=false:=by rfl)(g:sc.isGenerator=false:=by rfl)(p:N.take P.length=P:=by rfl):jc N P sc:=⟨k,c,g,h1,p,h2,h3⟩
theorem qg{kindOf:Str->Option NameKind}{x:Str}:∀{binds:List (Str×Value)} {m:Str->Option Value},(∀v,(x,v)∉binds)->bindL kindOf binds m x=m x
 | [],_,_=>rfl
 | (n,v)::r,m,h=>by
  unfold bindL
  rw[qg fun w hw=>h w (List.mem_cons_of_mem _ hw)]
  split
  ·have:x≠n:=by rintro rfl;exact h v List.mem_cons_self
   simp[this]
  ·rfl
theorem qA{kindOf:Str->Option NameKind}{x:Str}:∀{binds:List (Str×Value)} {m:Str->Option Value},(∀v,(x,v)∉binds)->bindC kindOf binds m x=m x
 | [],_,_=>rfl
 | (n,v)::r,m,h=>by
  unfold bindC
  rw[qA fun w hw=>h w (List.mem_cons_of_mem _ hw)]
  split
  ·rfl
  ·have:x≠n:=by rintro rfl;exact h v List.mem_cons_self
   simp[this]
theorem qC{kindOf:Str->Option NameKind}{x:Str}{v:Value}:∀{P:List Str} {vs:List Value} {i:Nat} {m:Str->Option Value},P.Nodup->P[i]?=some x->vs[i]?=some v->kindOf x=some .local ->
  bindL kindOf (P.zip vs) m x=some v
 | [],_,_,_,_,h,_,_=>by simp at h
 | _::_,[],_,_,_,_,h,_=>by simp at h
 | p::P,w::vs,0,m,nd,h1,h2,hk=>by
  simp at h1 h2;subst h1;subst h2
  show bindL kindOf ((p,w)::P.zip vs) m p=_
  unfold bindL
  rw[qg fun v hv=>(List.nodup_cons.mp nd).1 (List.of_mem_zip hv).1,if_pos hk]
  simp
 | p::P,w::vs,i+1,m,nd,h1,h2,hk=>by
  show bindL kindOf ((p,w)::P.zip vs) m x=_
  unfold bindL
  exact qC (i:=i) (List.nodup_cons.mp nd).2 (by simpa using h1) (by simpa using h2) hk
theorem qd{kindOf:Str->Option NameKind}{x:Str}{v:Value}:∀{P:List Str} {vs:List Value} {i:Nat} {m:Str->Option Value},P.Nodup->P[i]?=some x->vs[i]?=some v->kindOf x≠some .local ->
  bindC kindOf (P.zip vs) m x=some v
 | [],_,_,_,_,h,_,_=>by simp at h
 | _::_,[],_,_,_,_,h,_=>by simp at h
 | p::P,w::vs,0,m,nd,h1,h2,hk=>by
  simp at h1 h2;subst h1;subst h2
  show bindC kindOf ((p,w)::P.zip vs) m p=_
  unfold bindC
  rw[qA fun v hv=>(List.nodup_cons.mp nd).1 (List.of_mem_zip hv).1,if_neg hk]
  simp
 | p::P,w::vs,i+1,m,nd,h1,h2,hk=>by
  show bindC kindOf ((p,w)::P.zip vs) m x=_
  unfold bindC
  exact qd (i:=i) (List.nodup_cons.mp nd).2 (by simpa using h1) (by simpa using h2) hk
def start(N:List Str)(vs:List V):St:=vs.map some++List.replicate (N.length - vs.length) none
def nW(CX:sU)(P:Program)(w:World)(K:PySem.W.Frag)(mg:Str->Option Value)(base:Heap)(N:List Str)(qual:Str)(scope:Scope)(f:Addr)(cd:Value)(A:Around)(outer:List Env)(s:Shared)(H:Hp)(E:XK):Cx where
 prog:=P
 w:=w
 K:=K
 mg:=mg
 base:=base
 A:=A.deeper (envOfC qual scope s.heap.objs.size f cd)
 N:=N
 s₀:=s
 H₀:=H
 env:=envOfC qual scope s.heap.objs.size f cd
 outer:=outer
 stack:=envOfC qual scope s.heap.objs.size f cd::outer
 ex:=[]
 calm:=true
 fn:=fun _=>true
 pn:=[]
 xe:=fun e s'=>wpAny (model P w) (A.deeper (envOfC qual scope s.heap.objs.size f cd)) (leaving (envOfC qual scope s.heap.objs.size f cd) e) (fun _ s''=>CX outer H s E e s'') (fun e' s''=>CX outer H s E e' s'') s'
theorem sA{sc:Scope}{n:Nat}{x:Str}(h:sc.names.lookup x=some .cell):∃c,(cellsFrom n sc.names []).lookup x=some c:=by
 have q:=PySem.W.cellsFrom_some sc.names n [] (.inl h)
 exact Option.isSome_iff_exists.mp q
theorem vC{CX:sU}{P:Program}{w:World}{K:PySem.W.Frag}{mg:Str->Option Value}{base:Heap}{N ps:List Str}{qual:Str}{scope:Scope}{f:Addr}{cd:Value}{A:Around}{outer:List Env}{s s1:Shared}{H:Hp}{E:XK}{us:List Value}{vs:List V}
  (S:jc N ps scope) (hd:A.handled=none) (e0:nH P w K mg base A outer s H) (hl:vs.length=ps.length) (r:i5 vs us)
  (x:InCallC s s.heap.objs.size (bindL (envOfC qual scope s.heap.objs.size f cd).kindOf (ps.zip us) fun _=>none) (cellsFrom (s.heap.objs.size+1) scope.names []) (bindC (envOfC qual scope s.heap.objs.size f cd).kindOf (ps.zip us) fun _=>none) s1) :
  Inv (nW CX P w K mg base N qual scope f cd A outer s H E) [] (start N vs) H s1:=by
 have hpl:ps.length<=N.length:=by have:=congrArg List.length S.pre;rw[List.length_take] at this;omega
 obtain⟨h1,tk,rfl,hk⟩:=x.done
 have noA:∀b:Addr,b∉(nW CX P w K mg base N qual scope f cd A outer s H E).ex:=fun b z=>absurd (show b∈([]:List Addr) from z) (by simp)
 refine⟨⟨e0.mod,S.kind,rfl,rfl,Nat.le_refl _,fun y z c h1 h2=>?_,fun y hy=>?_,fun y c _ h=>?_,fun _=>hd,Around.frames_deeper e0.frames,.inr ⟨rfl,rfl⟩,fun b z=>absurd z (noA b),e0.bs,e0.bsz,fun b _ _=>noA b,fun b z=>absurd z (noA b),e0.funs,e0.frf⟩,
  rfl,e0.bare,Un.kept hk,⟨_,x.toInCall.ns,fun i y v h1 h2 h3=>?_⟩,fun y c h=>⟨_,x.cell y c h⟩,e0.hok.fresh (Nat.le_refl _),fun y c h=>?_,fun p hp=>absurd (show p∈([]:List (Addr×Obj)) from hp) (by simp),e0.hok.kept hk,?_⟩
 ·exact name_of_addr x.apart (PySem.mem_of_lookup h1) (PySem.mem_of_lookup h2)
 ·have hy:scope.names.lookup y=some .cell\/scope.names.lookup y=some .free:=hy
  rcases hy with hy | hy
  ·exact sA hy
  ·exact absurd rfl (S.nofree _ (PySem.mem_of_lookup hy))
 ·exact Nat.le_of_lt (x.above y c (PySem.mem_of_lookup h))
 ·have hi:i<vs.length:=by
   unfold start at h2
   by_cases hi:i<vs.length
   ·exact hi
   ·rw[List.getElem?_append_right (by simpa using hi)] at h2
    rw[List.getElem?_replicate] at h2
    split at h2<;>cases h2
  have ha:vs[i]?=some v:=by
   unfold start at h2
   rw[List.getElem?_append_left (by simpa using hi),List.getElem?_map] at h2
   cases e:vs[i]? with
   | none=>rw[e] at h2;cases h2
   | some a=>rw[e] at h2;cases h2;rfl
  obtain⟨u,hu,rv⟩:=r.get ha
  have hp:ps[i]?=some y:=by
   rw[<- S.pre,List.getElem?_take_of_lt (by omega)];exact h1
  have ndP:ps.Nodup:=by rw[<- S.pre];exact S.nd.sublist (List.take_sublist _ _)
  refine⟨u,rv,?_⟩
  rcases S.par y (List.mem_of_getElem? hp) with k | k
  ·exact .inl ⟨k,qC ndP hp hu k⟩
  ·obtain⟨c,e⟩:=sA (n:=s.heap.objs.size+1) k
   refine .inr ⟨.inl k,c,e,?_⟩
   have q:=x.cell y c e
   rw[qd ndP hp hu (by show scope.names.lookup y≠_;rw[k];decide)] at q
   exact q
 ·exact e0.hok.fresh (Nat.le_of_lt (x.above y c (PySem.mem_of_lookup h)))
 ·unfold start
  show _=N.length
  rw[List.length_append,List.length_map,List.length_replicate]
  omega
theorem hU {CX:sU} {P:Program} {w:World} {K:PySem.W.Frag} {mg:Str->Option Value} {base:Heap} {k:Nat} {f:Addr} {name qual:Str} {params:Arguments} {body:List Stmt} {scope:Scope} {dV kV doc pm cdv ct oc:Value} {an od:Option Addr}
    {osl:Array (Option Value)} {N ps:List Str} {sp:Sp} (lk:K.lookup f=some ⟨oc,od,.func (PySem.W.fnOf name qual params body scope dV kV doc pm an cdv ct),osl⟩) (hcd:PySem.W.codeIn K cdv qual=true) (S:jc N ps scope)
    (len:∀vs H Q E,sp vs H Q E->vs.length=ps.length)
    (hbody:∀(A:Around) (outer:List Env) (s:Shared) (H:Hp) (vs:List V) (Q:VK) (E:XK),jo k (A.deeper (envOfC qual scope s.heap.objs.size f cdv))->sp vs H Q E ->
      ∃t,PSs (nW CX P w K mg base N qual scope f cdv A outer s H E) body t/\t {nx:=fun _ H'=>Q .non H',rt:=Q} (start N vs) H) :
    jl P w K mg base CX (k+1) f (PySem.W.fnOf name qual params body scope dV kV doc pm an cdv ct) ps sp:=by
  refine⟨len,fun A outer s H args us vs Q E hr e0 hb r hsp=>?_⟩
  have hl:=len _ _ _ _ hsp
  have KX:K.In s.heap:=e0.mod.kin.keeps fun b o e=>(e0.bs b o e).1
  have lim:s.heap.NoLimit:=e0.mod.nolimit.keeps fun b o e=>(e0.bs b o e).1
  have hkind:∀y∈ps.zip us,scope.names.lookup y.1=some .local\/(scope.names.lookup y.1=some .cell/\((cellsFrom (s.heap.objs.size+1) scope.names []).lookup y.1).isSome=true):=fun ⟨n,v⟩ hy=>by
    rcases S.par n (List.of_mem_zip hy).1 with q | q
    · exact .inl q
    · exact .inr ⟨q,PySem.W.cellsFrom_some _ _ _ (.inl q)⟩
  refine codeAny_call_function hr.depth (KX _ _ lk) rfl S.co S.gen rfl (PySem.W.codeRec_of KX hcd) (hb _ _ _ _ ?_)
  refine wpAny_newFunctionEnv_cells S.kind hkind fun env he s1 x=>?_
  subst he
  refine⟨lim.keeps x.toInCall.keep,codeAny_func ?_⟩
  obtain⟨t,ht,hq⟩:=hbody A outer s H vs Q E (hr.deeper _) hsp
  have I:Inv (nW CX P w K mg base N qual scope f cdv A outer s H E) [] (start N vs) H s1:=vC S hr.hd e0 hl r x
  refine wpAny_mono (ht [] s1 (start N vs) H _ I hq) (fun fl s' hs=>?_) fun e s' hs=>hs
  have fin:∀{σ':St} {H':Hp} {v:V} {u:Value},Inv (nW CX P w K mg base N qual scope f cdv A outer s H E) [] σ' H' s'->RelV v u->Q v H'->CE outer P w H s Q u s':=
    fun {σ' H' v u} J rv q=>⟨v,H',J.os,J.bare,J.base,J.hok,rv,q⟩
  cases fl with
  | ret u =>
    obtain⟨v,σ',H',J,rv,q⟩:=hs
    exact fin J rv q
  | next =>
    obtain⟨σ',H',J,q⟩:=hs
    exact fin (v:=V.non) (u:=Value.none) J rfl q
  | brk =>
    obtain⟨_,_,_,q⟩:=hs
    exact False.elim q
  | cont =>
    obtain⟨_,_,_,q⟩:=hs
    exact False.elim q
end L2
namespace L2
open PySem PySem.Spec PyProof.Rows
section
variable{X:Cx}{x:Str}{p pos:Pos}{e:Expr}{es:List Expr}{t:TA}{id T:String}{r:List V->Hp->VK->Prop}
def Cs(r:List V->Hp->VK->Prop)(t:TA):TE:=fun σ H Q=>t σ H fun vs H1=>r vs H1 Q
theorem fI(hc:CallR X (.builtin id) r)(hg:Gl X x)(hm:X.mg x=none)(hv:bootBuiltins x=some (.builtin id))(ha:PA X (e::es) t)(hn:x ≠ "__name__":=by decide)(hdb:(x==("__debug__" : Str))=false:=by decide)
  (he:starEach (e::es) X.env=(false,eval e X.env)::starEach es X.env:=by rfl) (hpl:(backTo pos (starEach es X.env)).any (·.1)=false:=by rfl):PE X (.Call (.Name x p) (e::es) [] pos) (Cs r t):=by
 intro pins s σ H Q I h
 refine wpAny_Call_Name_kw (c_ I hg hm hv ?_ hn hdb)
 exact PyProof.Rows.callWith_builtin1 (jy (ha pos pins s σ H _ I h) fun us s1 ⟨vs,H1,I1,r1,q1⟩=>hc pins s1 σ H1 vs us Q I1 r1 q1) he hpl
theorem fh(hc:CallR X (.type T) r)(hg:Gl X x)(hm:X.mg x=none)(hv:bootBuiltins x=some (.type T))(ha:PA X (e::es) t)(hn:x ≠ "__name__":=by decide)(hdb:(x==("__debug__" : Str))=false:=by decide)
  (he:starEach (e::es) X.env=(false,eval e X.env)::starEach es X.env:=by rfl) (hpl:(backTo pos (starEach es X.env)).any (·.1)=false:=by rfl):PE X (.Call (.Name x p) (e::es) [] pos) (Cs r t):=by
 intro pins s σ H Q I h
 refine wpAny_Call_Name_kw (c_ I hg hm hv ?_ hn hdb)
 exact PyProof.Rows.callWith_type1 (jy (ha pos pins s σ H _ I h) fun us s1 ⟨vs,H1,I1,r1,q1⟩=>hc pins s1 σ H1 vs us Q I1 r1 q1) he hpl
end
end L2
namespace HT
open PySem PyProof.Rows
section
open PySem.SeqAt
open PySem.AutoSeq1 (wpAny_loadPart')
open PySem.MeetsSeq PySem.MeetsSeq2 PySem.MeetsSeq3
end
section
variable{prog:Program}{w:World}{A:Around}{E:Value->Shared->Prop}{s:Shared}
theorem cat_tup{t b:Addr}{vs ws:List Value}{Q:Value->Shared->Prop}(ht:IsTup s.heap t vs.toArray)(hb:IsTup s.heap b ws.toArray)(hv:vs ≠ [])
  (h1:ws=[]->Q (.ref t) s) (h2:ws ≠ []->Q (.ref s.heap.objs.size) {s with heap:=s.heap.push {cls:=.type "tuple",data:=.seq (vs++ws).toArray} })
  (hsz:vs.length+ws.length<=sizeLine):wpAny (model prog w) A (binaryOp .Add (.ref t) (.ref b)) Q E s:=by
 obtain⟨⟨cls,dd,data,sl⟩,ho,hc,n,hd⟩:=id ht
 obtain⟨⟨cls2,dd2,data2,xP⟩,ho2,hc2,n2,hd2⟩:=id hb
 simp only at hc hd hc2 hd2
 subst hc hd hc2 hd2
 have e:vs.toArray++ws.toArray=(vs++ws).toArray:=by simp
 by_cases hw:ws=[]
 ·exact concat_meets ⟨_,ho,rfl⟩ ⟨_,ho2,rfl⟩ noFill_tuple_add seq_tuple_add PySem.F.slot_tuple_add PySem.F.entry_tuple_add (PySem.F.args_tuple_add_2 _ _)
   (tuple_addW1 t b vs.toArray ws.toArray n n2 dd dd2 sl xP (by simpa using hv) (by simp[hw])) ⟨ho,ho2,h1 hw⟩
 ·refine concat_meets ⟨_,ho,rfl⟩ ⟨_,ho2,rfl⟩ noFill_tuple_add seq_tuple_add PySem.F.slot_tuple_add PySem.F.entry_tuple_add (PySem.F.args_tuple_add_2 _ _)
   (tuple_addW2 t b vs.toArray ws.toArray n n2 dd dd2 sl xP (by simpa using hv) (by simpa using hw) (by rw[List.size_toArray,List.size_toArray];exact hsz)) ⟨ho,ho2,?_⟩
  rw[e]
  exact h2 hw
def sIx(n d:Nat):Option Int->Nat
 | none=>d
 | some v=>if v<0 then (v+(n:Int)).toNat else min v.toNat n
theorem zx(n d:Nat)(hd:d<=n)(o:Option Int):sIx n d o<=n:=by
 cases o with
 | none=>exact hd
 | some v =>
  show(if v<0 then (v+(n:Int)).toNat else min v.toNat n)<=n
  by_cases hv:v<0
  ·rw[if_pos hv];omega
  ·rw[if_neg hv];exact Nat.min_le_right _ _
theorem ux(v:Int)(n d:Nat):(if v<0 then max (v+(n:Int)) 0 else min v (n:Int))=((sIx n d (some v):Nat):Int):=by
 show(if v<0 then max (v+(n:Int)) 0 else min v (n:Int))=(((if v<0 then (v+(n:Int)).toNat else min v.toNat n):Nat):Int)
 by_cases hv:v<0
 ·simp only[if_pos hv];omega
 ·simp only[if_neg hv];omega
theorem tO(lo hi:Option Int)(n:Nat):Builtin.Slice.sliceAdjust lo hi 1 (n:Int)=(((sIx n 0 lo:Nat):Int),((sIx n n hi:Nat):Int)):=by
 have h1:¬ ((1:Int)<0):=by omega
 unfold Builtin.Slice.sliceAdjust
 simp only[h1,if_false]
 refine Prod.ext ?_ ?_
 ·cases lo with
  | none=>rfl
  | some v=>exact ux v n 0
 ·cases hi with
  | none=>rfl
  | some v=>exact ux v n n
theorem ui(i j:Nat):Builtin.Slice.slicePlaces (i:Int) (j:Int) 1=j - i:=by
 unfold Builtin.Slice.slicePlaces
 have h1:(1:Int) > 0:=by omega
 simp only[h1,if_true,Int.ediv_one]
 split<;>omega
theorem pd{v:Value}{o:Option Int}{Q:Option Int->Shared->Prop}(p:IsPart v o)(h:Q o s):wpAny (model prog w) A (Builtin.Slice.slicePartIndex v) Q E s:=by
 cases p with
 | none=>exact slicePart_none h
 | int i t=>exact slicePart_int h
theorem sliceApplied_gen{sl:Addr}{vl vu:Value}{lo hi:Option Int}{n:Nat}{Q:Int×Int×Nat->Shared->Prop}(hs:s.heap.IsSliceOf sl vl vu .none)(pl:IsPart vl lo)(pu:IsPart vu hi)
  (h:Q (((sIx n 0 lo:Nat):Int),1,sIx n n hi - sIx n 0 lo) s):wpAny (model prog w) A (Builtin.Slice.sliceApplied (.ref sl) (pure (n:Int))) Q E s:=by
 obtain⟨os,hos,hcs,hds⟩:=id hs
 unfold Builtin.Slice.sliceApplied Builtin.Slice.sliceFields
 refine wpAny_bind (wpAny_bind (wpAny_field hos hds (x:=vl) rfl (wpAny_bind (wpAny_field hos hds (x:=vu) rfl (wpAny_bind (wpAny_field hos hds (x:=.none) rfl (wpAny_pure ?_)))))))
 refine wpAny_bind (slicePart_none ?_)
 show wpAny _ _ (if ((1:Int)==0)=true then _ else _) _ _ s
 rw[if_neg (by decide)]
 refine wpAny_bind (pd pl (wpAny_bind (pd pu (wpAny_bind (wpAny_pure ?_)))))
 show wpAny _ _ (match Builtin.Slice.sliceAdjust lo hi 1 (n:Int) with | (lo,hi)=>pure (lo,(1:Int),Builtin.Slice.slicePlaces lo hi 1)) _ _ s
 rw[tO lo hi n]
 show wpAny _ _ (pure (((sIx n 0 lo:Nat):Int),(1:Int),Builtin.Slice.slicePlaces ((sIx n 0 lo:Nat):Int) ((sIx n n hi:Nat):Int) 1)) _ _ s
 rw[ui]
 exact wpAny_pure h
theorem v6(xs:Array Value)(i k:Nat):((List.range k).filterMap fun (m:Nat)=>xs[((i:Int)+(m:Int)*1).toNat]?).toArray=((xs.toList.drop i).take k).toArray:=by
 have e:(fun (m:Nat)=>xs[((i:Int)+(m:Int)*1).toNat]?)=fun m=>xs[i+m]?:=by
  funext m
  have:((i:Int)+(m:Int)*1).toNat=i+m:=by omega
  rw[this]
 rw[e]
 have:=pick_run xs i k
 rw[List.filterMap_map] at this
 have e2:((fun x=>xs[x]?) ∘ fun x=>i+x)=fun m=>xs[i+m]?:=rfl
 rw[e2] at this
 rw[this]
theorem getItem_tuple_cut{t sl:Addr}{items:Array Value}{vl vu:Value}{lo hi:Option Int}{Q:Value->Shared->Prop}(ht:IsTup s.heap t items)(hs:s.heap.IsSliceOf sl vl vu .none)(pl:IsPart vl lo)(pu:IsPart vu hi)
  (hw:¬ (sIx items.size 0 lo=0/\sIx items.size items.size hi=items.size))
  (h:Q (.ref s.heap.objs.size) {s with heap:=s.heap.push {cls:=.type "tuple",data:=.seq ((items.toList.drop (sIx items.size 0 lo)).take (sIx items.size items.size hi - sIx items.size 0 lo)).toArray} })
  (hsz:items.size<=sizeLine):wpAny (model prog w) A (getItem (.ref t) (.ref sl)) Q E s:=by
 have htake:sizeOk (.seq ((items.toList.drop (sIx items.size 0 lo)).take (sIx items.size items.size hi - sIx items.size 0 lo)).toArray):=by
  show((items.toList.drop (sIx items.size 0 lo)).take (sIx items.size items.size hi - sIx items.size 0 lo)).toArray.size<=sizeLine
  rw[List.size_toArray,List.length_take,List.length_drop,Array.length_toList]
  omega
 have hj:sIx items.size items.size hi<=items.size:=zx _ _ (Nat.le_refl _) hi
 obtain⟨os,hos,hcs,hds⟩:=id hs
 have hTs:s.TypeIs (.ref sl) "slice":=⟨os,hos,hcs⟩
 unfold getItem
 try with_reducible refine wpAny_holding ?_
 first | refine wpAny_bind (wpAny_pure ?_) | skip
 refine wpAny_bind (wpAny_sequenceKey ht.typeIs (by decide) ?_)
 refine wpAny_bind (wpAny_callSpecial?_slot (name:=Str.ofString "__getitem__") ht.typeIs PyProof.Rows.slot_tuple_getitem
  (wpAny_call_entry PyProof.Rows.slot_tuple_getitem ht.typeIs entry_tuple_getitem ?_ (args_tuple_getitem _ _)))
 show wpAny _ _ (Builtin.Tuple.tupleItemsOf (.ref t) >>= _) _ _ s
 refine wpAny_bind (tupleItemsOf_ ht ?_)
 refine wpAny_bind (wpAny_typeOf hTs ?_)
 rw[if_pos (by decide)]
 refine wpAny_bind (sliceApplied_gen hs pl pu ?_)
 have hno:¬ ((((sIx items.size 0 lo:Nat):Int)==0&&(1:Int)==1&&(sIx items.size items.size hi - sIx items.size 0 lo)==items.size)=true):=by
  intro q
  rw[Bool.and_eq_true,Bool.and_eq_true] at q
  have q1:((sIx items.size 0 lo:Nat):Int)=0:=eq_of_beq q.1.1
  have q2:sIx items.size items.size hi - sIx items.size 0 lo=items.size:=eq_of_beq q.2
  exact hw ⟨by omega,by omega⟩
 show wpAny _ _ (if (((sIx items.size 0 lo:Nat):Int)==0&&(1:Int)==1&&(sIx items.size items.size hi - sIx items.size 0 lo)==items.size)=true then _ else _) _ _ s
 rw[if_neg hno,v6]
 first
  | exact wpAny_bind (m:=Builtin.Tuple.tupleExact _) (wpAny_newObj_type (wpAny_pure ⟨_,rfl,wpAny_pure h⟩) htake)
  | exact wpAny_bind (m:=Builtin.Tuple.tupleExact _) (wpAny_newObj_type (wpAny_bind (wpAny_pure (wpAny_pure ⟨_,rfl,wpAny_pure h⟩))) htake)
  | exact wpAny_bind (wpAny_bind (m:=Builtin.Tuple.tupleExact _) (wpAny_newObj_type (wpAny_pure (wpAny_pure ⟨_,rfl,wpAny_pure h⟩)) htake))
  | exact wpAny_bind (wpAny_bind (m:=Builtin.Tuple.tupleExact _) (wpAny_newObj_type (wpAny_pure ⟨_,rfl,wpAny_pure h⟩) htake))
end
end HT
namespace L2
open PySem PySem.Spec PyProof.Rows
abbrev TO:=St->Hp->(Option Int->Hp->Prop)->Prop
def PO(X:Cx)(e:Option Expr)(t:TO):Prop:=
 ∀(pins:List (Addr×Obj)) (s:Shared) (σ:St) (H:Hp) (Q:Option Int->Hp->Prop),Inv X pins σ H s->t σ H Q ->
  wpAny (model X.prog X.w) X.A (evalPart e X.env) (fun u s'=>∃o H',Inv X pins σ H' s'/\IsPart u o/\Q o H') X.xe s
def yJ:TO:=fun _ H Q=>Q none H
def AO(t:TE):TO:=fun σ H Q=>t σ H fun x H1=>∃i,x=.int i/\Q (some i) H1
section
variable{X:Cx}{e:Expr}{te:TE}{lo hi:Option Expr}{tl th:TO}{pos p2:Pos}
theorem x5:PO X none yJ:=by
 intro pins s σ H Q I h
 rw[evalPart_none]
 exact wpAny_pure ⟨none,H,I,.none,h⟩
theorem yu(h:PE X e te):PO X (some e) (AO te):=by
 intro pins s σ H Q I hw
 rw[evalPart_some]
 refine jy (h pins s σ H _ I hw) fun u s1 ⟨x,H1,I1,r1,q1⟩=>?_
 obtain⟨i,rfl,q⟩:=q1
 obtain⟨t,rfl⟩:=r1
 exact⟨some i,H1,I1,.int i t,q⟩
def yY(X:Cx)(r:V->Option Int->Option Int->Hp->VK->Prop):Prop:=
 ∀(pins:List (Addr×Obj)) (s:Shared) (σ:St) (H:Hp) (x:V) (v vl vu:Value) (lo hi:Option Int) (sl:Addr) (Q:VK),Inv X pins σ H s->RelV x v->s.heap.IsSliceOf sl vl vu .none->IsPart vl lo->IsPart vu hi->r x lo hi H Q ->
  ∃T id,typeLookup (.type T) "__getitem__" = pure (some (.builtin id))/\s.TypeIs v T/\wpAny (model X.prog X.w) X.A (getItem v (.ref sl)) (EP X pins σ Q) X.xe s
theorem yY.or{r r':V->Option Int->Option Int->Hp->VK->Prop}(h:yY X r)(h':yY X r'):yY X (fun x lo hi H Q=>r x lo hi H Q\/r' x lo hi H Q):=by
 intro pins s σ H x v vl vu lo hi sl Q I rx hs pl pu q
 rcases q with q | q
 ·exact h pins s σ H x v vl vu lo hi sl Q I rx hs pl pu q
 ·exact h' pins s σ H x v vl vu lo hi sl Q I rx hs pl pu q
def C2(r:V->Option Int->Option Int->Hp->VK->Prop)(te:TE)(tl th:TO):TE:=fun σ H Q=>te σ H fun x H1=>tl σ H1 fun l H2=>th σ H2 fun u H3=>r x l u H3 Q
theorem fQ{r:V->Option Int->Option Int->Hp->VK->Prop}(hr:yY X r)(he:PE X e te)(hl:PO X lo tl)(hu:PO X hi th):PE X (.Subscript e (.Slice lo hi none p2) pos) (C2 r te tl th):=by
 intro pins s σ H Q I h
 refine Subscript_ (jy (he pins s σ H _ I h) fun v s1 ⟨x,H1,I1,r1,q1⟩=>?_)
 refine wpAny_Slice (jy (hl pins s1 σ H1 _ I1 q1) fun vl s2 ⟨l,H2,I2,pl,q2⟩=>jy (hu pins s2 σ H2 _ I2 q2) fun vu s3 ⟨u,H3,I3,pu,q3⟩=>?_)
 rw[evalPart_none]
 refine wpAny_pure ?_
 have I4:Inv X pins σ H3 {s3 with heap:=s3.heap.push {cls:=.type "slice",data:=.fields #[vl,vu,.none]} }:=I3.kept (t':=s3.toks) fun b ob q=>Heap.get?_push_of_some _ q
 obtain⟨T,id,hT,ht,hg⟩:=hr pins {s3 with heap:=s3.heap.push {cls:=.type "slice",data:=.fields #[vl,vu,.none]} } σ H3 x v vl vu l u s3.heap.objs.size Q I4 r1 (Heap.IsSliceOf.new ..) pl pu q3
 show wpAny (model X.prog X.w) X.A (subscriptTail e (.Slice lo hi none p2) v (.ref s3.heap.objs.size)) (EP X pins σ Q) X.xe {s3 with heap:=s3.heap.push {cls:=.type "slice",data:=.fields #[vl,vu,.none]} }
 exact tail_any (ops:=[.ref s3.heap.objs.size,v]) ht hT hg (by with_unfolding_all rfl)
def nZ(xs:List V)(lo hi:Option Int):List V:=(xs.drop (HT.sIx xs.length 0 lo)).take (HT.sIx xs.length xs.length hi - HT.sIx xs.length 0 lo)
theorem nU(xs:List V)(lo hi:Option Int):(nZ xs lo hi).length<=xs.length:=by
 unfold nZ
 rw[List.length_take,List.length_drop]
 omega
def B5(K:PySem.W.Frag):V->Option Int->Option Int->Hp->VK->Prop:=fun x lo hi H Q=>∃a xs,x=.ref a/\kD K H a xs /\
 ¬ (HT.sIx xs.length 0 lo=0/\HT.sIx xs.length xs.length hi=xs.length)/\∀p,H p=none->Q (.ref p) (upd H p (.tup (nZ xs lo hi)))
theorem zv:yY X (B5 X.K):=by
 intro pins s σ H x v vl vu lo hi sl Q I rx hs pl pu h
 obtain⟨a,xs,rfl,hx,hw,q⟩:=h
 cases rx
 obtain⟨its,r,ht,hz⟩:=I.tuple hx
 have hlen:its.toArray.size=xs.length:=by rw[List.size_toArray];exact r.length.symm
 refine⟨"tuple",_,PyProof.Rows.slot_tuple_getitem.lookup,ht.typeIs,?_⟩
 refine HT.getItem_tuple_cut ht hs pl pu (by rw[hlen];exact hw) ?_ (by rw[hlen];exact hz)
 rw[hlen]
 refine⟨.ref s.heap.objs.size,_,I.laid (t':=s.toks) (o:=.tup (nZ xs lo hi)) (fun b ob q=>Heap.get?_push_of_some _ q) (Nat.le_refl _) ?_,rfl,q _ (I.hok.fresh (Nat.le_refl _))⟩
 exact⟨Nat.le_trans (nU xs lo hi) hz,_,(r.drop (HT.sIx xs.length 0 lo)).take (HT.sIx xs.length xs.length hi - HT.sIx xs.length 0 lo),kK.new _ _⟩
def A3(K:PySem.W.Frag):R2:=fun x y H Q=>∃a b xs ys,x=.ref a/\y=.ref b/\kD K H a xs/\kD K H b ys/\xs ≠ []/\xs.length+ys.length<=sizeLine /\
 (ys=[]->Q (.ref a) H)/\(ys ≠ []->∀p,H p=none->Q (.ref p) (upd H p (.tup (xs++ys))))
theorem i5.nil_iff{xs:List V}{us:List Value}(r:i5 xs us):us=[]↔xs=[]:=by
 cases r with
 | nil=>simp
 | cons _ _=>simp
theorem yI:OpR X (binaryOp .Add) (A3 X.K):=by
 intro pins s σ H x y v u Q I rx ry h
 obtain⟨a,b,xs,ys,rfl,rfl,ha,hb,hx,hz,q1,q2⟩:=h
 cases rx
 cases ry
 obtain⟨its,r1,p1,_⟩:=I.tuple ha
 obtain⟨its2,r2,p2,_⟩:=I.tuple hb
 refine HT.cat_tup p1 p2 (fun z=>hx (r1.nil_iff.mp z)) (fun z=>⟨.ref a,H,I,rfl,q1 (r2.nil_iff.mp z)⟩) (fun z=>?_) (by rw[<- r1.length,<- r2.length];exact hz)
 refine⟨.ref s.heap.objs.size,_,I.laid (t':=s.toks) (o:=.tup (xs++ys)) (fun b ob q=>Heap.get?_push_of_some _ q) (Nat.le_refl _) ?_,rfl,q2 (fun w=>z (r2.nil_iff.mpr w)) _ (I.hok.fresh (Nat.le_refl _))⟩
 exact⟨by rw[List.length_append];exact hz,_,r1.append r2,kK.new _ _⟩
end
end L2
namespace L2
open PySem PySem.Spec PyProof.Rows
def AK(n:Nat)(i:Int):Option Nat:=if 0<=i then (if i<n then some i.toNat else none) else if -(n:Int)<=i then some (i+n).toNat else none
def zi{α:Type}(xs:List α)(i:Int):Option α:=(AK xs.length i).bind fun j=>xs[j]?
theorem xZ{n:Nat}{i:Int}{j:Nat}(h:AK n i=some j):seqIndex? i n=some j/\j<n /\ -(n:Int)<=i/\i<n:=by
 unfold AK at h
 by_cases h0:0<=i
 ·rw[if_pos h0] at h
  by_cases h1:i<n
  ·rw[if_pos h1] at h
   have e:i.toNat=j:=Option.some.inj h
   exact⟨by rw[seqIndex_of h0 h1,e],by omega,by omega,h1⟩
  ·rw[if_neg h1] at h;cases h
 ·rw[if_neg h0] at h
  by_cases h1 : -(n:Int)<=i
  ·rw[if_pos h1] at h
   have e:(i+n).toNat=j:=Option.some.inj h
   exact⟨by rw[seqIndex_neg (by omega) h1,e],by omega,h1,by omega⟩
  ·rw[if_neg h1] at h;cases h
theorem rH{α:Type}{xs:List α}{i:Int}{v:α}(h:zi xs i=some v):∃j,seqIndex? i xs.length=some j/\xs[j]?=some v/\j<xs.length /\ -(xs.length:Int)<=i/\i<xs.length:=by
 unfold zi at h
 cases e:AK xs.length i with
 | none=>rw[e] at h;cases h
 | some j =>
  rw[e] at h
  obtain⟨h1,h2,h3,h4⟩:=xZ e
  exact⟨j,h1,h,h2,h3,h4⟩
def uM(b:Expr):Prop:=∀o i,subscripted b false o i=operate [o,i] (getItem o i)
def IxR(X:Cx)(r:R2):Prop:=
 ∀(value slice:Expr) (pins:List (Addr×Obj)) (s:Shared) (σ:St) (H:Hp) (x y:V) (v u:Value) (Q:VK),Inv X pins σ H s->RelV x v->RelV y u->r x y H Q ->
  subscripted slice false v u=operate [v,u] (getItem v u)->wpAny (model X.prog X.w) X.A (subscriptTail value slice v u) (EP X pins σ Q) X.xe s
def y9(X:Cx)(id:String)(r:V->List V->Hp->VK->Prop):Prop:=
 ∀(pins:List (Addr×Obj)) (s:Shared) (σ:St) (H:Hp) (x:V) (xs:List V) (v:Value) (us:List Value) (Q:VK),Inv X pins σ H s->RelV x v->i5 xs us->r x xs H Q ->
  wpAny (model X.prog X.w) X.A (call (.builtin id) (v::us)) (EP X pins σ Q) X.xe s
section
variable{X:Cx}{a b:Expr}{ta tb:TE}{pos:Pos}
theorem IxR.or{r r':R2}(h:IxR X r)(h':IxR X r'):IxR X (fun x y H Q=>r x y H Q\/r' x y H Q):=by
 intro value slice pins s σ H x y v u Q I rx ry q hs
 rcases q with q | q
 ·exact h value slice pins s σ H x y v u Q I rx ry q hs
 ·exact h' value slice pins s σ H x y v u Q I rx ry q hs
theorem y9.or{id:String}{r r':V->List V->Hp->VK->Prop}(h:y9 X id r)(h':y9 X id r'):y9 X id (fun x xs H Q=>r x xs H Q\/r' x xs H Q):=by
 intro pins s σ H x xs v us Q I rx rs q
 rcases q with q | q
 ·exact h pins s σ H x xs v us Q I rx rs q
 ·exact h' pins s σ H x xs v us Q I rx rs q
theorem iH{r:R2}(hr:IxR X r)(ha:PE X a ta)(hb:PE X b tb)(hs:uM b):PE X (.Subscript a b pos) (Bv r ta tb):=by
 intro pins s σ H Q I h
 exact Subscript_ (zI ha hb I h fun v u s2 x y H2 I2 rx ry q=>hr a b pins s2 σ H2 x y v u Q I2 rx ry q (hs _ _))
def BE(K:PySem.W.Frag):R2:=fun x y H Q=>∃p xs i v,x=.ref p/\y=.int i/\k4 K H p xs/\zi xs i=some v/\Q v H
def BQ(K:PySem.W.Frag):R2:=fun x y H Q=>∃p xs i v,x=.ref p/\y=.int i/\kD K H p xs/\zi xs i=some v/\Q v H
def BM:R2:=fun x y H Q=>∃z i c,x=.str z/\y=.int i/\z.length<=sizeLine/\zi z.cps.toList i=some c/\Q (.str ⟨#[c]⟩) H
theorem yg:IxR X (BE X.K):=by
 intro value slice pins s σ H x y v u Q I rx ry h hs
 obtain⟨p,xs,i,z,rfl,rfl,hq,he,q⟩:=h
 cases rx
 obtain⟨t,rfl⟩:=ry
 obtain⟨its,r,pl,hz⟩:=I.list hq
 obtain⟨j,h1,h2,h3,h4,h5⟩:=rH he
 obtain⟨w,ew,rw'⟩:=r.get h2
 have hl:=r.length
 have hn:=qE
 have fin:EP X pins σ Q w s:=⟨z,H,I,rw',q⟩
 by_cases h0:0<=i
 ·have hj:i.toNat=j:=by
   rw[seqIndex_of h0 h5] at h1
   exact Option.some.inj h1
  exact item_listR pl.isList h0 (by omega) (by rw[hj];simpa using ew) fin hs
 ·have hj:(i+(its.toArray.size:Int)).toNat=j:=by
   rw[seqIndex_neg (by omega) h4] at h1
   rw[List.size_toArray,<- hl]
   exact Option.some.inj h1
  exact subscriptTail_builtinR (x:=w) pl.isList.typeIs slot_list_getitem.lookup
   (wpAny_getItem_list_neg (Q:=fun r s'=>r=w/\EP X pins σ Q r s') pl.isList (by omega) (by rw[List.size_toArray]<;>omega) (by omega) (by rw[hj];simpa using ew) ⟨rfl,fin⟩) hs
theorem zH:IxR X (BQ X.K):=by
 intro value slice pins s σ H x y v u Q I rx ry h hs
 obtain⟨p,xs,i,z,rfl,rfl,hq,he,q⟩:=h
 cases rx
 obtain⟨t,rfl⟩:=ry
 obtain⟨its,r,pl,hz⟩:=I.tuple hq
 obtain⟨j,h1,h2,h3,h4,h5⟩:=rH he
 obtain⟨w,ew,rw'⟩:=r.get h2
 have hl:=r.length
 have hn:=qE
 have fin:EP X pins σ Q w s:=⟨z,H,I,rw',q⟩
 exact subscriptTail_builtinR (x:=w) pl.typeIs slot_tuple_getitem.lookup
  (getItem_tuple (j:=j) (Q:=fun r s'=>r=w/\EP X pins σ Q r s') pl (by omega) (by omega) (by rw[List.size_toArray,<- hl];exact h1) (by simpa using ew) ⟨rfl,fin⟩) hs
theorem Ak:IxR X BM:=by
 intro value slice pins s σ H x y v u Q I rx ry h hs
 obtain⟨z,i,c,rfl,rfl,hz,he,q⟩:=h
 obtain⟨t,rfl⟩:=rx
 obtain⟨t',rfl⟩:=ry
 obtain⟨j,h1,h2,h3,h4,h5⟩:=rH he
 have hl:z.cps.toList.length=z.length:=by simp[Str.length]
 rw[hl] at h1 h4 h5
 have hn:=qE
 exact tail_any (typeIs_str s z t) slot_str_getitem.lookup (getItem_str (c:=c) (by
  have e1:decide (i < -(2 ^ 63:Int))=false:=decide_eq_false (by omega)
  have e2:decide (i ≥ 2 ^ 63)=false:=decide_eq_false (by omega)
  rw[e1,e2,Bool.or_false]) (by rw[h1];simpa using h2) ⟨.str ⟨#[c]⟩,H,I.tok _,⟨_,rfl⟩,q⟩) hs
theorem Inv.lst{pins:List (Addr×Obj)}{σ:St}{H:Hp}{s:Shared}{p:Addr}{xs:List V}(I:Inv X pins σ H s)(h:H p=some (.lst xs)) :
  ∃(its:List Value) (n:Nat),i5 xs its/\s.heap.get? p=some {cls:=.type "list",data:=.seq its.toArray n}/\xs.length<=sizeLine:=by
 obtain⟨z,its,n,r,e⟩:=I.hok p _ h
 exact⟨its,n,r,e,z⟩
theorem qO(lo hi:Option Int)(n:Nat):(sliceBounds lo hi none n).1=((HT.sIx n 0 lo:Nat):Int)/\(sliceBounds lo hi none n).2.1=((HT.sIx n n hi:Nat):Int)/\(sliceBounds lo hi none n).2.2=1:=by
 refine⟨?_,?_,rfl⟩
 ·cases lo with
  | none=>simp[sliceBounds,HT.sIx]
  | some i =>
   simp only[sliceBounds,HT.sIx,Option.getD_none,show(1:Int) > 0 by decide,if_true]
   by_cases h:i<0
   ·simp only[h,if_true]<;>omega
   ·simp only[h,if_false]<;>omega
 ·cases hi with
  | none=>simp[sliceBounds,HT.sIx]
  | some i =>
   simp only[sliceBounds,HT.sIx,Option.getD_none,show(1:Int) > 0 by decide,if_true]
   by_cases h:i<0
   ·simp only[h,if_true]<;>omega
   ·simp only[h,if_false]<;>omega
theorem pG(its:List Value)(lo hi:Option Int):slicePick its.toArray lo hi none=((its.drop (HT.sIx its.length 0 lo)).take (HT.sIx its.length its.length hi - HT.sIx its.length 0 lo)).toArray:=by
 obtain⟨h1,h2,h3⟩:=qO lo hi its.toArray.size
 unfold slicePick
 rw[h1,h2,h3]
 simp only[sliceRange_one,pick_run,List.size_toArray]<;>rfl
def Cf(K:PySem.W.Frag):V->Option Int->Option Int->Hp->VK->Prop:=fun x lo hi H Q=>∃a xs,x=.ref a/\k4 K H a xs/\∀p,H p=none->Q (.ref p) (upd H p (.lst (nZ xs lo hi)))
theorem yE:yY X (Cf X.K):=by
 intro pins s σ H x v vl vu lo hi sl Q I rx hs pl pu h
 obtain⟨a,xs,rfl,hx,q⟩:=h
 cases rx
 obtain⟨its,r,ht,hz⟩:=I.list hx
 have hlen:=r.length
 refine⟨"list",_,slot_list_getitem.lookup,ht.isList.typeIs,?_⟩
 refine wpAny_getItem_list_slice ht.isList hs pl pu .none (by simp) ?_ (by rw[List.size_toArray]<;>omega)
 rw[pG,<- hlen]
 refine⟨.ref s.heap.objs.size,_,I.laid (t':=s.toks) (o:=.lst (nZ xs lo hi)) (fun b ob q=>Heap.get?_push_of_some _ q) (Nat.le_refl _) ?_,rfl,q _ (I.hok.fresh (Nat.le_refl _))⟩
 exact⟨Nat.le_trans (nU xs lo hi) hz,_,0,(r.drop (HT.sIx xs.length 0 lo)).take (HT.sIx xs.length xs.length hi - HT.sIx xs.length 0 lo),Heap.get?_push_size _ rfl⟩
def me:V->Bool
 | .non=>true
 | .bl _=>true
 | .int _=>true
 | .str _=>true
 | _=>false
def ym:V->V->Bool
 | .non,.non=>true
 | .bl a,.bl b=>a==b
 | .bl a,.int b=>(if a then 1 else 0)==b
 | .int a,.bl b=>a==(if b then 1 else 0)
 | .int a,.int b=>a==b
 | .str a,.str b=>a==b
 | _,_=>false
theorem zE{A:Around}{s:Shared}{y x:V}{u v:Value}(ry:RelV y u)(rx:RelV x v)(fy:me y=true)(fx:me x=true):SeqAt.EqAt A s u v (ym y x):=by
 cases y with
 | non =>
  cases ry
  cases x with
  | non=>cases rx;exact SeqAt.EqAt.same _
  | bl b=>cases rx;exact SeqAt.EqAt.none_bool b
  | int b=>obtain⟨t,rfl⟩:=rx;exact SeqAt.EqAt.none_int b t
  | str b=>obtain⟨t,rfl⟩:=rx;exact SeqAt.EqAt.none_str b t
  | _=>exact absurd (show false=true from fx) Bool.false_ne_true
 | bl a =>
  cases ry
  cases x with
  | non=>cases rx;exact SeqAt.EqAt.bool_none a
  | bl b=>cases rx;exact SeqAt.EqAt.bool_bool a b
  | int b=>obtain⟨t,rfl⟩:=rx;exact SeqAt.EqAt.bool_int a b t
  | str b=>obtain⟨t,rfl⟩:=rx;exact SeqAt.EqAt.bool_str a b t
  | _=>exact absurd (show false=true from fx) Bool.false_ne_true
 | int a =>
  obtain⟨t',rfl⟩:=ry
  cases x with
  | non=>cases rx;exact SeqAt.EqAt.int_none a t'
  | bl b=>cases rx;exact SeqAt.EqAt.int_bool a t' b
  | int b=>obtain⟨t,rfl⟩:=rx;exact SeqAt.EqAt.int_int a t' b t
  | str b=>obtain⟨t,rfl⟩:=rx;exact SeqAt.EqAt.int_str a t' b t
  | _=>exact absurd (show false=true from fx) Bool.false_ne_true
 | str a =>
  obtain⟨t',rfl⟩:=ry
  cases x with
  | non=>cases rx;exact SeqAt.EqAt.str_none a t'
  | bl b=>cases rx;exact SeqAt.EqAt.str_bool a t' b
  | int b=>obtain⟨t,rfl⟩:=rx;exact SeqAt.EqAt.str_int a t' b t
  | str b=>obtain⟨t,rfl⟩:=rx;exact SeqAt.EqAt.str_str a t' b t
  | _=>exact absurd (show false=true from fx) Bool.false_ne_true
 | _=>exact absurd (show false=true from fy) Bool.false_ne_true
def yl(x:V)(u:Value):Bool:=match u with
 | .none=>ym .non x
 | .bool b=>ym (.bl b) x
 | .int i _=>ym (.int i) x
 | .str z _=>ym (.str z) x
 | _=>false
theorem wU{x y:V}{u:Value}(r:RelV y u)(f:me y=true):yl x u=ym y x:=by
 cases y with
 | non=>cases r;rfl
 | bl b=>cases r;rfl
 | int i=>obtain⟨t,rfl⟩:=r;rfl
 | str z=>obtain⟨t,rfl⟩:=r;rfl
 | _=>exact absurd (show false=true from f) Bool.false_ne_true
theorem rC{x:V}:∀{xs:List V} {us:List Value},i5 xs us->xs.all me=true->us.any (yl x)=xs.any fun y=>ym y x
 | _,_,.nil,_=>rfl
 | y::xs,u::us,.cons r t,f=>by
  rw[List.all_cons,Bool.and_eq_true] at f
  rw[List.any_cons,List.any_cons,wU r f.1,rC t f.2]
theorem cX{A:Around}{s:Shared}{x:V}{v:Value}(rx:RelV x v)(fx:me x=true):∀{xs:List V} {us:List Value},i5 xs us->xs.all me=true->∀u∈us,SeqAt.EqAt A s u v (yl x u)
 | _,_,.nil,_=>fun u hu=>by cases hu
 | y::xs,u::us,.cons r t,f=>fun u' hu=>by
  rw[List.all_cons,Bool.and_eq_true] at f
  rcases List.mem_cons.mp hu with rfl | hu
  ·rw[wU r f.1];exact zE r rx f.1 fx
  ·exact cX rx fx t f.2 u' hu
def Bu(x:V)(xs:List V):Bool:=xs.any fun y=>ym y x
def CK(K:PySem.W.Frag)(neg:Bool):R2:=fun x y H Q=>∃p xs,y=.ref p/\(k4 K H p xs\/kD K H p xs)/\me x=true/\xs.all me=true/\Q (.bl (if neg then !Bu x xs else Bu x xs)) H
theorem rF:OpR X (compareOp .NotIn) (CK X.K true):=by
 intro pins s σ H x y v u Q I rx ry h
 obtain⟨p,xs,rfl,hq,fx,fs,q⟩:=h
 cases ry
 rcases hq with hq | hq
 ·obtain⟨its,r,pl,hz⟩:=I.list hq
  refine SeqAt.notIn_listAt (yl x) pl.isList (fun w hw=>cX rx fx r fs w (by simpa using hw)) ⟨.bl _,H,I,rfl,?_⟩
  rw[show its.toArray.any (yl x)=its.any (yl x) by simp,rC r fs]
  exact q
 ·obtain⟨its,r,pl,hz⟩:=I.tuple hq
  refine SeqAt.notIn_tupleAt (yl x) pl (fun w hw=>cX rx fx r fs w (by simpa using hw)) ⟨.bl _,H,I,rfl,?_⟩
  rw[show its.toArray.any (yl x)=its.any (yl x) by simp,rC r fs]
  exact q
theorem rn:CallR X (.builtin "len") (fun xs H Q=>∃p ys,xs=[.ref p]/\(k4 X.K H p ys\/kD X.K H p ys)/\Q (.int ys.length) H):=by
 intro pins s σ H xs us Q I r h
 obtain⟨p,ys,rfl,hq,q⟩:=h
 obtain⟨u,rfl,rx⟩:=vals1 r
 cases rx
 have hn:=qE
 rcases hq with hq | hq
 ·obtain⟨its,r',pl,hz⟩:=I.list hq
  have hlen:=r'.length
  exact Calls.call_len_list pl.isList (by simp only[List.size_toArray]<;>omega) ⟨.int ys.length,H,I.tok _,⟨s.toks+1,by rw[List.size_toArray,hlen]⟩,q⟩
 ·obtain⟨its,r',pl,hz⟩:=I.tuple hq
  have hlen:=r'.length
  exact len_tuple pl (by simp only[List.size_toArray]<;>omega) ⟨.int ys.length,H,I.tok _,⟨s.toks+1,by rw[List.size_toArray,hlen]⟩,q⟩
theorem CallR.or{f:Value}{r r':List V->Hp->VK->Prop}(h:CallR X f r)(h':CallR X f r'):CallR X f (fun xs H Q=>r xs H Q\/r' xs H Q):=by
 intro pins s σ H xs us Q I rs q
 rcases q with q | q
 ·exact h pins s σ H xs us Q I rs q
 ·exact h' pins s σ H xs us Q I rs q
theorem pJ:CallR X (.type "tuple") (fun xs H Q=>∃p ys,xs=[.ref p]/\((k4 X.K H p ys/\∀l,H l=none->Q (.ref l) (upd H l (.tup ys)))\/(kD X.K H p ys/\Q (.ref p) H))):=by
 intro pins s σ H xs us Q I r h
 obtain⟨p,ys,rfl,h⟩:=h
 obtain⟨u,rfl,rx⟩:=vals1 r
 cases rx
 rcases h with ⟨hq,q⟩ | ⟨hq,q⟩
 ·obtain⟨its,r',pl,hz⟩:=I.list hq
  have hlen:=r'.length
  refine call_tuple_list pl.isList (fun h' kp=>?_) (by simp only[List.size_toArray]<;>omega)
  have I1:Inv X pins σ H {s with heap:=h' }:=I.kept (t':=s.toks) kp
  have I2:Inv X pins σ (upd H h'.objs.size (.tup ys)) {s with heap:=h'.push {cls:=.type "tuple",data:=.seq its.toArray} }:=
   I1.laid (t':=s.toks) (fun b o e=>Heap.get?_push_of_some _ e) (Nat.le_refl _) (show jA X.prog X.w _ _ _ (.tup ys) from⟨hz,its,r',kK.new _ _⟩)
  exact⟨.ref h'.objs.size,_,I2,rfl,q _ (I1.hok.fresh (Nat.le_refl _))⟩
 ·obtain⟨its,r',pl,hz⟩:=I.tuple hq
  exact call_tuple_same pl ⟨.ref p,H,I,rfl,q⟩
def Cw(K:PySem.W.Frag)(T:String)(x:V)(H:Hp):Prop:=match x with
 | .str _=>T = "str"
 | .int _=>T = "int"
 | .ref p=>(T = "list" /\ ∃xs,k4 K H p xs)\/(T = "tuple" /\ ∃o,K.lookup p=some o/\o.cls=.type "tuple" /\ o.dict=none) \/
   (T = "dict" /\ ((∃kvs,H p=some (.dK kvs))\/∃kvs,H p=some (.dT kvs)))\/(T = "set" /\ ∃S n,H p=some (.set S n))
 | _=>False
theorem zB{pins:List (Addr×Obj)}{σ:St}{H:Hp}{s:Shared}{T:String}{x:V}{v:Value}(I:Inv X pins σ H s)(r:RelV x v)(ty:Cw X.K T x H) :
  s.TypeIs v T/\∀a,v=.ref a->∃ob,s.heap.get? a=some ob/\ob.dict=none:=by
 cases x with
 | str z =>
  obtain⟨t,rfl⟩:=r
  cases (show T = "str" from ty)
  exact⟨typeIs_str s z t,fun _ e=>nomatch e⟩
 | int i =>
  obtain⟨t,rfl⟩:=r
  cases (show T = "int" from ty)
  exact⟨typeIs_int s i t,fun _ e=>nomatch e⟩
 | ref p =>
  cases r
  rcases ty with ⟨rfl,xs,hq⟩ | ⟨rfl,o,hk,hc,hd⟩ | ⟨rfl,hk⟩ | ⟨rfl,S,n,hk⟩
  ·obtain⟨its,_,pl,_⟩:=I.list hq
   refine⟨pl.isList.typeIs,fun a e=>?_⟩
   cases e
   obtain⟨o,n,e,c,hd,_⟩:=pl
   exact⟨o,e,hd⟩
  ·refine⟨⟨o,I.kIn p o hk,hc⟩,fun a e=>?_⟩
   cases e
   exact⟨o,I.kIn _ o hk,hd⟩
  ·have z:∃o,s.heap.get? p=some o/\o.ExactDict:=by
    rcases hk with ⟨kvs,hk⟩ | ⟨kvs,hk⟩
    ·obtain⟨_,_,_,_,o,_,_,e,ex,_⟩:=I.hok p _ hk
     exact⟨o,e,ex⟩
    ·obtain⟨_,_,_,_,o,_,_,e,ex,_⟩:=I.hok p _ hk
     exact⟨o,e,ex⟩
   obtain⟨o,e,ex⟩:=z
   refine⟨⟨o,e,ex.1⟩,fun a e2=>?_⟩
   cases e2
   exact⟨o,e,ex.2.1⟩
  ·obtain⟨o,_,_,_,e,ex,_⟩:=I.hok p _ hk
   refine⟨⟨o,e,ex.1⟩,fun a e2=>?_⟩
   cases e2
   exact⟨o,e,ex.2.1⟩
 | _=>exact False.elim ty
def CO(K:PySem.W.Frag)(T:String)(r:V->List V->Hp->VK->Prop)(to:TE)(t:TA):TE:=fun σ H Q=>to σ H fun x H1=>Cw K T x H1/\t σ H1 fun xs H2=>r x xs H2 Q
variable{o e:Expr}{es:List Expr}{to:TE}{t:TA}{name:Str}{apos cpos:Pos}{T id:String}{r:V->List V->Hp->VK->Prop}
theorem gY (pa:PlainAttrs T) (slot:Slot T name id) (hty:typeOf (.builtin id)=pure (.type "method_descriptor")) (hm:y9 X id r) (ho:PE X o to) (ha:PA X (e::es) t)
    (hbase:attributeBase o name X.env (eval o X.env)=eval o X.env:=by rfl)
    (hfew:((backTo cpos (starEach (e::es) X.env)).all (fun x=>!x.1)&&(backToKw cpos (keywordEach [] X.env)).all (fun x=>x.1.isSome)
      && decide ((e::es).length+([]:List Keyword).length+(if ([]:List Keyword).isEmpty then 0 else 1)<30))=true:=by rfl)
    (hline:(apos.endLine==cpos.line)=true:=by rfl) (hs:starEach (e::es) X.env=(false,eval e X.env)::starEach es X.env:=by rfl) (hplain:(backTo cpos (starEach es X.env)).any (·.1)=false:=by rfl) :
    PE X (.Call (.Attribute o name apos) (e::es) [] cpos) (CO X.K T r to t):=by
  intro pins s σ H Q I h
  refine wpAny_Call_method_late hbase hfew hline rfl (jy (ho pins s σ H _ I h) fun v s1 ⟨x,H1,I1,r1,ty,q1⟩=>?_)
  obtain⟨h1,h2⟩:=zB I1 r1 ty
  refine⟨T,id,pa,slot,hty,h1,h2,?_⟩
  have hA:=ha cpos pins s1 σ H1 _ I1 q1
  rw[hs] at hA ⊢
  refine Calls.callWith_builtin (by show(false||(backTo cpos (starEach es X.env)).any (·.1))=false;rw[hplain]<;>rfl) (Calls.evalArgs_plain ?_)
  exact jy hA fun us s2 ⟨vs,H2,I2,r2,q2⟩=>hm pins s2 σ H2 x vs v us Q I2 r1 r2 q2
/- xs.append(e),list.index on a module's tuple .. are y9 facts of 06m -/
end
end L2
namespace L2
open PySem PySem.Spec PyProof.Rows
def B6(X:Cx)(id:String)(r:V->List V->Hp->VK->Prop):Prop:=
 ∀(pins:List (Addr×Obj)) (s:Shared) (σ:St) (H:Hp) (x:V) (xs:List V) (v:Value) (us:List Value) (Q:VK),Inv X pins σ H s->RelV x v->i5 xs us->r x xs H Q ->
  wpAny (model X.prog X.w) X.A (call (.builtin id) (v::us)) (EP X pins σ Q) X.xe s
theorem i5.one:∀{x:V} {us:List Value},i5 [x] us->∃u,us=[u]/\RelV x u
 | _,_,h=>by cases h with | cons r t=>cases t;exact⟨_,rfl,r⟩
theorem i5.two:∀{x y:V} {us:List Value},i5 [x,y] us->∃u v,us=[u,v]/\RelV x u/\RelV y v
 | _,_,_,h=>by cases h with | cons r t=>cases t with | cons q t=>cases t;exact⟨_,_,rfl,r,q⟩
theorem i5.zero:∀{us:List Value},i5 [] us->us=[]
 | _,.nil=>rfl
theorem i5.dropLast{xs:List V}{us:List Value}(h:i5 xs us):i5 xs.dropLast us.dropLast:=by
 induction h with
 | nil=>exact .nil
 | cons r t ih =>
  cases t with
  | nil=>exact .nil
  | cons q t'=>exact .cons r ih
theorem i5.eraseIdx:∀{xs:List V} {us:List Value} (i:Nat),i5 xs us->i5 (xs.eraseIdx i) (us.eraseIdx i)
 | _,_,_,.nil=>.nil
 | _,_,0,.cons _ t=>t
 | _,_,i+1,.cons r t=>.cons r (i5.eraseIdx i t)
theorem i5.reverse{xs:List V}{us:List Value}(h:i5 xs us):i5 xs.reverse us.reverse:=by
 induction h with
 | nil=>exact .nil
 | cons r t ih=>rw[List.reverse_cons,List.reverse_cons];exact i5.append ih (.cons r .nil)
theorem i5.rep{xs:List V}{us:List Value}(h:i5 xs us):∀k:Nat,i5 (List.replicate k xs).flatten (List.replicate k us).flatten
 | 0=>.nil
 | k+1=>by
  rw[List.replicate_succ,List.replicate_succ,List.flatten_cons,List.flatten_cons]
  exact i5.append h (i5.rep h k)
theorem foldl_rep(its:List Value):∀(k:Nat) (acc:List Value),
  List.foldl (fun x1 x2=>x1++x2) acc.toArray (List.replicate k its.toArray)=(acc++(List.replicate k its).flatten).toArray
 | 0,acc=>by simp
 | k+1,acc=>by
  have e:acc.toArray++its.toArray=(acc++its).toArray:=by simp
  have e2:(acc++its)++(List.replicate k its).flatten=acc++(List.replicate (k+1) its).flatten:=by
   rw[List.replicate_succ,List.flatten_cons,List.append_assoc]
  rw[<- e2,<- foldl_rep its k (acc++its),<- e,List.replicate_succ,List.foldl_cons]
section
variable{X:Cx}{pins:List (Addr×Obj)}{σ:St}{H:Hp}{s:Shared}{l b:Addr}{xs ys zs:List V}
theorem Inv.lset{its its':List Value}{n:Nat}{f:Array Value->Array Value}{t':Nat}(I:Inv X pins σ H s)(hH:H l=some (.lst xs))
  (e:s.heap.get? l=some {cls:=.type "list",data:=.seq its.toArray n}) (hf:f its.toArray=its'.toArray) (hv:i5 ys its') (hz:ys.length<=sizeLine) :
  Inv X pins σ (upd H l (.lst ys)) {s with heap:=s.heap.update l (Obj.mapSeq f),toks:=t' }:=by
 have q:=PySem.IsL.update e f
 rw[hf] at q
 refine I.write (x:=l) (e:=l) (by rw[hH];exact trivial) (.inl rfl) (fun b' u hb hu=>(Heap.get?_update_other s.heap (Obj.mapSeq f) (Ne.symm hb)).trans hu) ⟨_,q⟩ ?_
 exact⟨hz,its',_,hv,q⟩
theorem Inv.lnew{its:List Value}{t':Nat}(I:Inv X pins σ H s)(hv:i5 ys its)(hz:ys.length<=sizeLine) :
  Inv X pins σ (upd H s.heap.objs.size (.lst ys)) {s with heap:=s.heap.push {cls:=.type "list",data:=.seq its.toArray},toks:=t' }:=
 I.laid (fun _ _ q=>Heap.get?_push_of_some _ q) (Nat.le_refl _) ⟨hz,its,0,hv,Heap.get?_push_size _ rfl⟩
theorem Inv.fresh(I:Inv X pins σ H s):H s.heap.objs.size=none:=I.hok.fresh (Nat.le_refl _)
theorem Inv.lstM(I:Inv X pins σ H s)(hH:H l=some (.lst xs)):xs.length<=sizeLine/\∃(its:List Value) (n:Nat),i5 xs its/\xs.length=its.length/\s.heap.get? l=some {cls:=.type "list",data:=.seq its.toArray n}:=by
 obtain⟨z,its,n,r,e⟩:=I.hok l _ hH
 exact⟨z,its,n,r,r.length,e⟩
theorem wu{n:Nat}(h:n<=sizeLine):Builtin.List.listTooLong n=false:=by
 unfold Builtin.List.listTooLong
 exact decide_eq_false (by omega)
end
section
variable{X:Cx}
def yA:V->List V->Hp->VK->Prop:=fun x vs H Q=>∃l xs y,x=.ref l/\vs=[y]/\H l=some (.lst xs)/\xs.length<sizeLine/\Q .non (upd H l (.lst (xs++[y])))
theorem cB:B6 X "list.append" yA:=by
 intro pins s σ H x vs v us Q I rx rv h
 obtain⟨l,xs,y,rfl,rfl,hH,hz,q⟩:=h
 cases rx
 obtain⟨u,rfl,ru⟩:=rv.one
 obtain⟨z,its,n,r,hl,e⟩:=I.lstM hH
 refine call_meets F.slot_list_append ⟨_,e,rfl⟩ F.entry_list_append (F.args_list_append_2 _ _) (PySem.list_append l its.toArray n u (by rw[List.size_toArray];omega)) ⟨e,?_⟩
 refine⟨.non,_,I.lset (its':=its++[u]) hH e (by simp) (r.append (.cons ru .nil)) ?_,rfl,q⟩
 rw[List.length_append,List.length_singleton]
 omega
def xQ:V->List V->Hp->VK->Prop:=fun x vs H Q=>∃l b xs zs,x=.ref l/\vs=[.ref b]/\H l=some (.lst xs)/\H b=some (.lst zs)/\xs.length+zs.length<=sizeLine/\Q .non (upd H l (.lst (xs++zs)))
theorem iG:B6 X "list.extend" xQ:=by
 intro pins s σ H x vs v us Q I rx rv h
 obtain⟨l,b,xs,zs,rfl,rfl,hH,hB,hz,q⟩:=h
 cases rx
 obtain⟨u,rfl,ru⟩:=rv.one
 cases ru
 obtain⟨z,its,n,r,hl,e⟩:=I.lstM hH
 obtain⟨z2,its2,n2,r2,hl2,e2⟩:=I.lstM hB
 have hsz:its.toArray.size+its2.toArray.size<=sizeLine:=by rw[List.size_toArray,List.size_toArray];omega
 have hlong:¬ (!its.toArray.isEmpty&&Builtin.List.listTooLong (its.toArray.size+its2.toArray.size))=true:=by
  rw[wu hsz,Bool.and_false]
  exact Bool.false_ne_true
 refine call_meets F.slot_list_extend ⟨_,e,rfl⟩ F.entry_list_extend (F.args_list_extend_2 _ _)
  (AutoSeq1.list_extend_list_list_0 l its.toArray n b its2.toArray n2 hlong (by rw[List.size_toArray];omega) (by omega)) ⟨e,e2,?_⟩
 refine⟨.non,_,I.lset (its':=its++its2) hH e (by simp) (r.append r2) ?_,rfl,q⟩
 rw[List.length_append]
 omega
def B0:R2:=fun x y H Q=>∃l b xs zs,x=.ref l/\y=.ref b/\H l=some (.lst xs)/\H b=some (.lst zs)/\xs.length+zs.length<=sizeLine/\∀p,H p=none->Q (.ref p) (upd H p (.lst (xs++zs)))
theorem zX:OpR X (binaryOp .Add) B0:=by
 intro pins s σ H x y v u Q I rx ry h
 obtain⟨l,b,xs,zs,rfl,rfl,hH,hB,hz,q⟩:=h
 cases rx
 cases ry
 obtain⟨z,its,n,r,hl,e⟩:=I.lstM hH
 obtain⟨z2,its2,n2,r2,hl2,e2⟩:=I.lstM hB
 refine PySem.P.add_list e e2 ?_ (by rw[List.size_toArray,List.size_toArray];omega)
 have ea:its.toArray++its2.toArray=(its++its2).toArray:=by simp
 rw[ea]
 exact⟨.ref _,_,I.lnew (t':=s.toks) (r.append r2) (by rw[List.length_append];omega),rfl,q _ I.fresh⟩
theorem eW{α:Type}(xs:List α)(k:Nat):(List.replicate k xs).flatten.length=k*xs.length:=by
 induction k with
 | zero=>simp
 | succ k ih=>rw[List.replicate_succ,List.flatten_cons,List.length_append,ih,Nat.succ_mul,Nat.add_comm]
end
section
variable{prog:Program}{w:World}{A:Around}{E:Value->Shared->Prop}{s:Shared}
set_option maxRecDepth 100000 in
end
section
variable{X:Cx}
end
end L2
namespace Att
open PySem PySem.W PySem.Calls PyProof.Rows
theorem cK{P:Params}{h:Heap}:∀(ns:List Int) (vs:List Value),WellAll P h vs (ns.map WData.int)->IntsAre vs ns:=by
 intro ns
 induction ns with
 | nil =>
  intro vs w
  rw[List.map_nil] at w
  cases w
  exact .nil
 | cons n ns ih =>
  intro vs w
  rw[List.map_cons] at w
  cases w with
  | cons a b =>
   cases a
   exact .cons _ _ (ih _ b)
theorem vU{l:OpenLaw}{n:Nat}(hn:l.most=some n){P:Params}{h:Heap}{args:List WData}{vals:List Value}
  (hpre:l.row.toRowW.claim.pre args=true) (hwl:WellAll P h vals args) :
  ∃a vs ns,vals=[Value.ref a]/\args=[WData.list (ns.map WData.int)]/\h.get? a=some {cls:=.type "list",data:=.seq vs.toArray}/\IntsAre vs ns/\ns.length<=n:=by
 have hsh:WShape.hasAll [] args [.list .int]=true:=(pre_splitW hpre).1
 have hc:l.pre.holds [] {args:=args}=true:=(pre_splitW hpre).2
 obtain⟨d,r,rfl,h1,h2⟩:=hasAllW_cons hsh
 obtain rfl:=hasAllW_nil h2
 obtain⟨xs,rfl,h3⟩:=hasW_list h1
 obtain⟨ns,rfl⟩:=items_int h3
 have hlen:ns.length<=n:=by
  unfold OpenLaw.pre at hc
  have h4:(WTm.not (.lt (.lit (.int (n:Int))) (.len (.arg 0)))).holds [] {args:=[.list (ns.map .int)]}=true:=by
   have h4:=(holds_andW hc).1
   rw[hn] at h4
   exact h4
  have h5:=condW_of h4 (w_not (w_lt w_lit (w_len_list (w_arg rfl))))
  rw[List.length_map] at h5
  refine Nat.le_of_not_lt fun q=>?_
  have q':(n:Int)<((ns.length:Nat):Int):=by omega
  first
   | (rw[decide_eq_true q'] at h5;exact absurd h5 (by decide))
   | (simp at h5;omega)
 cases hwl with
 | cons w1 w2 =>
  cases w2
  cases w1 with
  | list ho hall=>exact⟨_,_,ns,rfl,rfl,ho,cK ns _ hall,hlen⟩
theorem vF(l:OpenLaw)(args:List WData):l.row.toRowW.claim.post args (.bool true) args=true:=
 postW_of (r:=l.row.toRowW) (X:=(true==true))
  (show WShape.has [] (.bool true) .bool=true by first | rfl | decide | simp[WShape.has,WShape.arms,WShape.armsAll])
  (show(WTm.eq .res (.lit (.bool true))).value [] {args:=args,res:=some (.bool true),after:=args}=some (.bool (true==true)) from w_eq_bool (w_res rfl) w_lit) rfl
theorem attach_call {l:OpenLaw} {n:Nat} {q:Program} {loose:List Str} {XP:(Str->Option Value)->Heap->Prop} {YP:World->Heap->Prop} {d:DefRec}
    (hn:l.most=some n) (hdf:d.params.defaults=[])
    (call:∀(w:World) (s₀ s₁:Shared) (mg mb:Str->Option Value) (fa:Addr) (o:Obj) (pm cd doc:Value) (a:Addr) (vs:List Value) (ns:List Int),
      Ground q loose [] XP w s₀ mg mb s₁.heap->YP w s₁.heap ->
      s₁.heap.get? fa=some o->o.data=.func (docDef d.name d.params d.body d.scope pm cd doc)->s₁.heap.CodeRec cd d.name->mg d.name=some (.ref fa) ->
      s₁.heap.get? a=some {cls:=.type "list",data:=.seq vs.toArray}->IntsAre vs ns->ns.length<=n->s₁.gens=#[] ->
      codeAny (model l.prog w) callerA (.call (.ref fa) ⟨[.ref a],[]⟩) (fun r s'=>r=.ok (.ret (.bool true))/\OldK s₁.heap s'.heap/\s'.os=s₁.os/\AllBare s'.gens) s₁) :
    WalkO q loose XP YP l.row.toRowW d [] (fun f vs=>PySem.call f vs):=by
  intro w s₀ s₁ mg mb G Y fa o pm cd doc dV kV ho hd hcd hD hmg hg args vals as hpre hlay hrd hwl hlo
  obtain rfl:dV=.none:=Dflts.none hD hdf
  obtain rfl:kV=.none:=Dflts.noKw hD
  obtain⟨a,vs,ns,rfl,rfl,hobj,hints,hlen⟩:=vU hn hpre hwl
  refine enter_call (codeAny_mono (call w s₀ s₁ mg mb fa o pm cd doc a vs ns G Y ho (fd_plain hd) hcd hmg hobj hints hlen hg) fun r s' hq=>?_)
  obtain⟨rfl,h2,h3,h4⟩:=hq
  exact⟨.inl ⟨.bool true,.bool true,[],rfl,fun _=>rfl,.bool true,vF l _,fun _=>⟨List.Pairwise.nil,fun _ hm=>(nomatch hm)⟩⟩,h2,h3,h4⟩
section
variable{prog:Program}{w:World}{A:Around}{E:Value->Shared->Prop}{s:Shared}{K:Frag}
def ledger(h:Heap)(L d:Addr):List (Addr×Obj):=(List.range h.objs.size).filterMap fun a=>if a=L\/a=d then none else (h.get? a).map fun o=>(a,o)
end
end Att
namespace L2
open PySem PySem.Spec PyProof.Rows
theorem be:∀{vs:List Value} {ns:List Int},IntsAre vs ns->i5 (ns.map V.int) vs
 | _,_,.nil=>.nil
 | _,_,.cons n t h=>.cons ⟨t,rfl⟩ (be h)
def zT(H:Hp):Prop:=∀b,H b=none\/∃o xs,H b=some (.frz o (.lst xs))
theorem wC{P:Program}{w:World}{K:PySem.W.Frag}{mg mb:Str->Option Value}{CX:sU}{k:Nat}{fa a:Addr}{fd:FuncData}{x:Str}{sp:Sp}{s₁:Shared}{vs:List Value}{ns:List Int}
  (KX:K.In s₁.heap) (hns:s₁.heap.Ns mainGlobals mg) (hb:s₁.heap.Ns builtinsNs mb) (hbb:∀x:Str,x ≠ "__name__" -> mb x=bootBuiltins x) (hlim:s₁.heap.NoLimit) (hg:s₁.gens=#[])
  (ha:s₁.heap.get? a=some {cls:=.type "list",data:=.seq vs.toArray}) (hi:IntsAre vs ns) (hl:ns.length<=sizeLine) (hr:jo k callerA)
  (F:∀base:Heap,K.In base->base.Ns mainGlobals mg->jl P w K mg base CX k fa fd [x] sp) (hbind:∀(s:Shared) (u:Value),BindsTo s fd ⟨[u],[]⟩ [(x,u)])
  (hsp:∀H:Hp,zT H->k4 K H a (ns.map V.int)->sp [.ref a] H (fun v _=>v=.bl true) fun _ _ _=>False)
  (hCX:∀H e s',CX [] H s₁ (fun _ _ _=>False) e s'->False) :
  codeAny (model P w) callerA (.call (.ref fa) ⟨[.ref a],[]⟩) (fun r s'=>r=.ok (.ret (.bool true))/\OldK s₁.heap s'.heap/\s'.os=s₁.os/\AllBare s'.gens) s₁:=by
 have rv:=be hi
 have lenV:=hi.length
 have core:∀H:Hp,zT H->k4 K H a (ns.map V.int)->mh P w H s₁.heap->(∀b,H b≠none->b=a)->(H a≠none->K.lookup a=none) ->
   codeAny (model P w) callerA (.call (.ref fa) ⟨[.ref a],[]⟩) (fun r s'=>r=.ok (.ret (.bool true))/\OldK s₁.heap s'.heap/\s'.os=s₁.os/\AllBare s'.gens) s₁:=by
  intro H hO hS hok hA hK
  have base_of:∀{b:Addr} {o:Obj},s₁.heap.get? b=some o->H b=none->(mB s₁.heap H).get? b=some o:=fun e n=>sH e n
  have noA:∀{b:Addr} {o:Obj} {es:Array DictEntry} {ep:Nat},s₁.heap.get? b=some o->o.data=.dict es ep->H b=none:=fun {b o es ep} e d=>by
   cases q:H b with
   | none=>rfl
   | some u =>
    have e':b=a:=hA b (by rw[q];simp)
    subst e'
    rw[ha] at e;cases e
    have d':Data.seq vs.toArray _=Data.dict es ep:=d
    cases d'
  have nsK:∀{b:Addr} {m:Str->Option Value},s₁.heap.Ns b m->(mB s₁.heap H).Ns b m:=fun {b m} ⟨o,es,ep,e,d,r⟩=>⟨o,es,ep,base_of e (noA e d),d,r⟩
  have hKb:K.In (mB s₁.heap H):=fun b o e=>base_of (KX b o e) (by
   cases q:H b with
   | none=>rfl
   | some u =>
    have e':b=a:=hA b (by rw[q];simp)
    subst e'
    rw[hK (by rw[q];simp)] at e;cases e)
  have hM:Mod K mg (mB s₁.heap H):=⟨hKb,nsK hns,⟨mb,nsK hb,hbb⟩,let ⟨mc,h1,h2⟩:=hlim;⟨mc,nsK h1,h2⟩⟩
  have e0:nH P w K mg (mB s₁.heap H) callerA [] s₁ H:=⟨rfl,hM,fun b o e=>uF e,Nat.le_of_eq (qj _ _),trivial,fun b hb=>absurd (show b∈([]:List Addr) from hb) (by simp),hok,.of_eq hg⟩
  refine codeAny_mono ((F _ hKb (nsK hns)).run callerA [] s₁ H ⟨[.ref a],[]⟩ [.ref a] [.ref a] _ _ hr e0 (hbind s₁ (.ref a)) (.cons rfl .nil) (hsp H hO hS)) fun r s' h=>?_
  cases r with
  | error e=>exact(hCX H e s' h).elim
  | ok fl =>
   cases fl with
   | next=>exact False.elim h
   | brk=>exact False.elim h
   | cont=>exact False.elim h
   | ret u =>
    obtain⟨v,H',os,bare,un,hok',r',q⟩:=h
    have q':v=.bl true:=q
    subst q'
    obtain rfl:u=Value.bool true:=r'
    refine⟨rfl,OldK.of_keep fun b o e=>?_,os,bare⟩
    cases q:H b with
    | none=>exact un.keep b o e q (by intro z;exact absurd (show b∈([]:List Addr) from z) (by simp)) (by simp)
    | some u =>
     rcases hO b with z | ⟨ob,xs,z⟩
     ·rw[q] at z;cases z
     ·have z2:=un.frzs b ob _ (fun y q=>by cases q) z
      obtain⟨e1,_⟩:=hok b _ z
      obtain⟨e2,_⟩:=hok' b _ z2
      rw[e] at e1;cases e1
      exact e2
 cases hk:K.lookup a with
 | some o =>
  have e:=KX a o hk
  rw[ha] at e
  cases e
  refine core (fun _=>none) (fun _=>.inl rfl) (.inr ⟨_,vs.toArray,_,hk,rfl,rfl,rfl,by rw[List.size_toArray,lenV];exact hl,by simpa using rv⟩) (fun b u z=>by have z':(none:Option HO)=some u:=z;cases z') (fun b z=>absurd rfl z) fun z=>absurd rfl z
 | none =>
  refine core (fun b=>if b=a then some (.frz {cls:=.type "list",data:=.seq vs.toArray} (.lst (ns.map V.int))) else none) (fun b=>?_) (.inl (.inr ⟨{cls:=.type "list",data:=.seq vs.toArray},if_pos rfl⟩)) (fun b u z=>?_) (fun b z=>?_) fun _=>hk
  ·by_cases hb:b=a
   ·exact .inr ⟨_,_,if_pos hb⟩
   ·exact .inl (if_neg hb)
  ·by_cases hb:b=a
   ·have z':=(if_pos hb).symm.trans z
    cases z'
    subst hb
    exact⟨ha,by rw[List.length_map];exact hl,vs,_,rv,ha⟩
   ·have z':=(if_neg hb).symm.trans z
    cases z'
  ·by_cases hb:b=a
   ·exact hb
   ·exact absurd (if_neg hb) z
end L2
namespace L2
open PySem PySem.Spec PyProof.Rows
abbrev KOf{K:PySem.W.Frag}{h:Heap}(_:K.In h):PySem.W.Frag:=K
theorem walk_of {l:PySem.W.OpenLaw} {n k:Nat} {q:Program} {loose:List Str} {XP:(Str->Option Value)->Heap->Prop} {YP:World->Heap->Prop} {d:DefRec} {K:Params->PySem.W.Frag} {CX:World->sU} {sp:World->Sp} {x:Str}
    (hn:l.most=some n) (hn2:n<=sizeLine) (hdf:d.params.defaults=[]) (hr:jo k callerA)
    (hY:∀(w:World) (h:Heap),YP w h->(K w.params).In h)
    (F:∀(w:World) (mg:Str->Option Value) (fa:Addr) (h:Heap),(K w.params).In h->h.Ns mainGlobals mg->mg d.name=some (.ref fa) ->
      ∃fd:FuncData,(∀(s:Shared) (u:Value),BindsTo s fd ⟨[u],[]⟩ [(x,u)]) /\
        ∀base:Heap,(K w.params).In base->base.Ns mainGlobals mg->jl l.prog w (K w.params) mg base (CX w) k fa fd [x] (sp w))
    (hsp:∀(w:World) (H:Hp) (a:Addr) (ns:List Int),ns.length<=n->zT H->k4 (K w.params) H a (ns.map V.int)->sp w [.ref a] H (fun v _=>v=.bl true) fun _ _ _=>False)
    (hCX:∀(w:World) (H:Hp) (s:Shared) (e:Value) (s':Shared),CX w [] H s (fun _ _ _=>False) e s'->False) :
    PySem.W.WalkO q loose XP YP l.row.toRowW d [] (fun f vs=>PySem.call f vs):=by
  refine Att.attach_call hn hdf fun w s₀ s₁ mg mb fa o pm cd doc a vs ns G Y ho hd hcd hmg hobj hints hlen hg=>?_
  have KX:=hY w _ Y
  obtain⟨fd,hb,hF⟩:=F w mg fa _ KX G.T.g hmg
  exact wC KX G.T.g G.T.b G.T.builtins G.T.nolimit hg hobj hints (Nat.le_trans hlen hn2) hr hF hb (fun H hO hS=>hsp w H a ns hlen hO hS) fun H e s'=>hCX w H s₁ e s'
end L2
/- THE LAST THEOREM (shape;LID,My.* are yours):
  My.Adr: a structure of the addresses that your layer names (classes,functions);My.Txt K t: a structure (Prop) of the equations over K;
  My.txt_mk:{K} {implicit addresses ..} (e1:nsIn K mainGlobals "law" = some (some (.ref f))) (e2:K.lookup f=some ⟨oc,od,.func (fnOf "law" "law" params body scope dV kV doc pm an cdv ct),sl⟩) (e3:codeIn K cdv "law" = true) ..:∃t,My.Txt K t
set_option maxRecDepth 100000 in
set_option maxHeartbeats 0 in
theorem PySem.Challenge.cw_LID_holds : PySem.Challenge.rw_LID.Holds := by
 w_on;o_law;k_head;(case hw=>w_witness2)
 k_fill
 refine L2.walk_of (l:=PySem.Challenge.rw_LID) (n:=63) (k:=40) (x:="script") (CX:=fun w=>..) (sp:=fun _=>My.sp_law) rfl (by decide) rfl ⟨rfl,by decide,by decide⟩ (fun w h Y=>PySem.W.kIn_of Y) ?F ?S ?C
 case F =>
  intro w mg fa h KX G hmg
  have T:∃t,My.Txt (L2.KOf KX) t:=by
   dsimp only [L2.KOf]                          -- K must stand as «<heap const> w.params» for k_is
   refine' My.txt_mk ?e1 ?e2 ?e3 ..
   (case e1=>PySem.W.k_is)                    -- in the order: a name->its address->its object->its parts
   (case e2=>PySem.W.k_is)
   ..
  obtain⟨t,T⟩:=T
  have e0:=hmg.symm.trans (PySem.W.mg_of KX G T.law)
  cases e0                                       -- fa is the law's own address
  exact⟨_,fun s u=>.of_eq rfl,fun base kb nb=>My.law_fn T kb nb⟩     -- if «.of_eq rfl» comes too early: refine' ⟨_,?b,fun base kb nb=>My.law_fn T kb nb⟩;exact fun s u=>.of_eq rfl
 case S=>exact fun w H a ns hl hO hS=>..
 case C=>exact ..
(the tactic k_is has no namespace: write k_is) -/
namespace L2
open PySem PySem.Spec PyProof.Rows
def j8(s:Stmt):Arguments:=match s with
 | .FunctionDef _ a _ _ _ _ _ _ _ _=>a
 | _=>{posonlyargs:=[],args:=[],vararg:=none,kwonlyargs:=[],kw_defaults:=[],kwarg:=none,defaults:=[]}
def jw(s:Stmt):List Stmt:=match s with
 | .FunctionDef _ _ b _ _ _ _ _ _ _=>b
 | _=>[]
def iV(s:Stmt):Scope:=match s with
 | .FunctionDef _ _ _ _ _ _ sc _ _ _=>sc
 | _=>{kind:=.function,names:=[],isGenerator:=false,isCoroutine:=false}
abbrev kR:sU:=fun _ _ _ _ _ _=>False
abbrev E0:XK:=fun _ _ _=>False
theorem sF{X:Cx}:ua kR X E0:=fun _ _ _ _ _ _ _ h=>h.elim
structure m_ (K:PySem.W.Frag) (x qual:Str) (st:Stmt) (f:Addr) (fd:FuncData):Prop where
 ex:∃(oc:Value) (od:Option Addr) (kV doc pm:Value) (an:Option Addr) (cdv ct:Value) (osl:Array (Option Value)),
  fd=PySem.W.fnOf x qual (j8 st) (jw st) (iV st) .none kV doc pm an cdv ct/\K.lookup f=some ⟨oc,od,.func fd,osl⟩/\PySem.W.codeIn K cdv qual=true
 kp:PySem.W.keepIn K (.ref f)=true
section
variable{P:Program}{w:World}{K:PySem.W.Frag}{mg:Str->Option Value}{base:Heap}
theorem m_.ok {x qual:Str} {st:Stmt} {f:Addr} {fd:FuncData} {N ps:List Str} {k:Nat} {sp:Sp} (F:m_ K x qual st f fd) (S:jc N ps (iV st)) (len:∀ vs H Q E,sp vs H Q E->vs.length=ps.length)
    (hbody:∀(cdv:Value) (A:Around) (outer:List Env) (s:Shared) (H:Hp) (vs:List V) (Q:VK) (E:XK),jo k (A.deeper (envOfC qual (iV st) s.heap.objs.size f cdv))->sp vs H Q E ->
      ∃t,PSs (nW kR P w K mg base N qual (iV st) f cdv A outer s H E).nox (jw st) t/\t {nx:=fun _ H'=>Q .non H',rt:=Q} (start N vs) H):jl P w K mg base kR (k+1) f fd ps sp:=by
  obtain⟨oc,od,kV,doc,pm,an,cdv,ct,osl,rfl,lk,hcd⟩:=F.ex
  refine hU lk hcd S len fun A outer s H vs Q E hr hsp=>?_
  obtain⟨t,h,q⟩:=hbody cdv A outer s H vs Q E hr hsp
  exact⟨t,h.nox,q⟩
theorem m_.binds{x qual:Str}{st:Stmt}{f:Addr}{fd:FuncData}{ps:List Str}(F:m_ K x qual st f fd)
  (h:∀(kV doc pm:Value) (an:Option Addr) (cdv ct:Value) (us:List Value),us.length=ps.length->bindArgs (PySem.W.fnOf x qual (j8 st) (jw st) (iV st) .none kV doc pm an cdv ct) ⟨us,[]⟩=pure (ps.zip us)):Binds K fd ps []:=by
 obtain⟨oc,od,kV,doc,pm,an,cdv,ct,osl,rfl,lk,hcd⟩:=F.ex
 exact .all (h kV doc pm an cdv ct)
theorem fO{x qual:Str}{st:Stmt}{f:Addr}{oc:Value}{od an:Option Addr}{osl:Array (Option Value)}{kV doc pm cdv ct:Value}(l:K.lookup f=some ⟨oc,od,.func (PySem.W.fnOf x qual (j8 st) (jw st) (iV st) .none kV doc pm an cdv ct),osl⟩)
  (c:PySem.W.codeIn K cdv qual=true) (k:PySem.W.keepIn K (.ref f)=true):m_ K x qual st f (PySem.W.fnOf x qual (j8 st) (jw st) (iV st) .none kV doc pm an cdv ct):=⟨⟨oc,od,kV,doc,pm,an,cdv,ct,osl,rfl,l,c⟩,k⟩
end
theorem uX{A:Around}{k:Nat}(hr:jo k A):A.units+1<cLine:=Nat.lt_of_le_of_lt (Nat.add_le_add_left (by decide:1<=64) _) hr.units
theorem nr{n:Nat}(h:n<=1000):n<sizeLine:=Nat.lt_of_le_of_lt h (by decide)
section
variable{X:Cx}
theorem pv(i:Nat){x:Str}{pos:Pos}(hN:X.N[i]?=some x:=by rfl)(hv:rN X.env.scope x:=by first | exact Or.inl rfl | exact Or.inr (Or.inl rfl) | exact Or.inr (Or.inr rfl))(hd:(x==("__debug__" : Str))=false:=by decide)
  (hcd:(x==("__classdict__" : Str))=false:=by decide):PE X (.Name x pos) (AL i):=eI hN hv hd hcd
end
def iX(H H':Hp):Prop:=∀b o,H b=some o->H' b=some o
theorem iX.refl(H:Hp):iX H H:=fun _ _ h=>h
theorem iX.trans{H H1 H2:Hp}(a:iX H H1)(b:iX H1 H2):iX H H2:=fun c o h=>b c o (a c o h)
theorem iX.free{H H':Hp}(e:iX H H'){l:Addr}(h:H' l=Option.none):H l=Option.none:=by
 cases q:H l with
 | none=>rfl
 | some o =>
  rw[e l o q] at h
  cases h
theorem iX.seq{K:PySem.W.Frag}{H H':Hp}{a:Addr}{xs:List V}(e:iX H H')(h:k4 K H a xs):k4 K H' a xs:=by
 rcases h with (h | ⟨o,h⟩) | h
 ·exact .inl (.inl (e _ _ h))
 ·exact .inl (.inr ⟨o,e _ _ h⟩)
 ·exact .inr h
end L2
set_option maxHeartbeats 1000000
namespace HW
open PySem PySem.Spec PyProof.Rows L2
structure jZ where
 c:Addr
 P:Addr
 q:Str
def rj(ts:List jZ)(b:Addr):Option HO:=(ts.find? fun t=>t.P==b).map fun t=>.tbl t.q false
theorem oh{ts:List jZ}{b:Addr}{u:HO}(h:rj ts b=some u):∃t∈ts,t.P=b/\u=.tbl t.q false:=by
 unfold rj at h
 cases e:ts.find? fun t=>t.P==b with
 | none=>rw[e] at h;cases h
 | some t =>
  rw[e] at h
  cases h
  exact⟨t,List.mem_of_find?_eq_some e,by simpa using List.find?_some e,rfl⟩
def u7(ts:List jZ)(a:Addr)(H:Hp):Prop:=∀b,(b≠a/\H b=rj ts b)\/(b=a/\(H b=none\/∃o xs,H b=some (.frz o (.lst xs))))
structure kc (mg:Str->Option Value) (ts:List jZ) (base:Heap):Prop where
 code:∀t∈ts,W.CodeHd base t.c t.P
 bm:∃bm o,mg "__builtins__" = some (.ref bm)/\bm≠builtinsNs/\bm≠mainGlobals/\base.get? bm=some o/\o.cls=.type "module" /\ o.dict=some builtinsNs/\o.data=.plain
theorem vi{P:Program}{w:World}{K:W.Frag}{mg mb:Str->Option Value}{CX:sU}{k:Nat}{fa a:Addr}{fd:FuncData}{x:Str}{sp:Sp}{s₁:Shared}{vs:List Value}{ns:List Int}{ts:List jZ}
  (KX:K.In s₁.heap) (hns:s₁.heap.Ns mainGlobals mg) (hb:s₁.heap.Ns builtinsNs mb) (hbb:∀x:Str,x ≠ "__name__" -> mb x=bootBuiltins x) (hlim:s₁.heap.NoLimit) (hg:s₁.gens=#[])
  (ha:s₁.heap.get? a=some {cls:=.type "list",data:=.seq vs.toArray}) (hi:IntsAre vs ns) (hl:ns.length<=sizeLine) (hr:jo k callerA)
  (hT:∀t∈ts,W.CodeHd s₁.heap t.c t.P/\s₁.heap.get? t.P=some (W.tabObj #[])) (hK:∀t∈ts,K.lookup t.P=none)
  (hbm:∃bm o,mg "__builtins__" = some (.ref bm)/\bm≠builtinsNs/\bm≠mainGlobals/\s₁.heap.get? bm=some o/\o.cls=.type "module" /\ o.dict=some builtinsNs/\o.data=.plain)
  (F:∀base:Heap,K.In base->base.Ns mainGlobals mg->kc mg ts base->jl P w K mg base CX k fa fd [x] sp) (hbind:∀(s:Shared) (u:Value),BindsTo s fd ⟨[u],[]⟩ [(x,u)])
  (hsp:∀H:Hp,u7 ts a H->(∀t∈ts,t.P≠a)->k4 K H a (ns.map V.int)->sp [.ref a] H (fun v _=>v=.bl true) fun _ _ _=>False)
  (hCX:∀H e s',CX [] H s₁ (fun _ _ _=>False) e s'->False) :
  codeAny (model P w) callerA (.call (.ref fa) ⟨[.ref a],[]⟩) (fun r s'=>r=.ok (.ret (.bool true))/\OldK s₁.heap s'.heap/\s'.os=s₁.os/\AllBare s'.gens) s₁:=by
 have rv:=be hi
 have lenV:=hi.length
 have aP:∀t∈ts,t.P≠a:=fun t ht z=>by
  have e:=(hT t ht).2
  rw[z,ha] at e;cases e
 have tabOk:∀(H:Hp) {b:Addr} {u:HO},rj ts b=some u->jA P w H s₁.heap b u:=fun H {b u} h=>by
  obtain⟨t,ht,rfl,rfl⟩:=oh h
  exact⟨#[],(hT t ht).2,trivial,fun pos cv hc=>by cases hc⟩
 have core:∀H:Hp,u7 ts a H->k4 K H a (ns.map V.int)->mh P w H s₁.heap->(H a≠none->K.lookup a=none) ->
   codeAny (model P w) callerA (.call (.ref fa) ⟨[.ref a],[]⟩) (fun r s'=>r=.ok (.ret (.bool true))/\OldK s₁.heap s'.heap/\s'.os=s₁.os/\AllBare s'.gens) s₁:=by
  intro H hO hS hok hKa
  have what:∀{b:Addr} {u:HO},H b=some u->(b=a)\/∃t∈ts,t.P=b/\u=.tbl t.q false:=fun {b u} e=>by
   rcases hO b with ⟨_,z⟩ | ⟨z,_⟩
   ·rw[e] at z;exact .inr (oh z.symm)
   ·exact .inl z
  have base_of:∀{b:Addr} {o:Obj},s₁.heap.get? b=some o->H b=none->(mB s₁.heap H).get? b=some o:=fun e n=>sH e n
  have free:∀{b:Addr} {o:Obj},s₁.heap.get? b=some o->(∀(its:Array Value) n,o.data≠.seq its n)->(o.cls≠.none)->H b=none:=fun {b o} e h1 h2=>by
   cases q:H b with
   | none=>rfl
   | some u =>
    rcases what q with z | ⟨t,ht,z,_⟩
    ·rw[z,ha] at e;cases e;exact absurd rfl (h1 _ _)
    ·rw[<- z,(hT t ht).2] at e;cases e;exact absurd rfl h2
  have noA:∀{b:Addr} {o:Obj} {es:Array DictEntry} {ep:Nat},s₁.heap.get? b=some o->o.data=.dict es ep->H b=none:=fun {b o es ep} e d=>by
   cases q:H b with
   | none=>rfl
   | some u =>
    rcases what q with z | ⟨t,ht,z,_⟩
    ·rw[z,ha] at e;cases e;cases (show Data.seq vs.toArray _=Data.dict es ep from d)
    ·rw[<- z,(hT t ht).2] at e;cases e;cases d
  have nsK:∀{b:Addr} {m:Str->Option Value},s₁.heap.Ns b m->(mB s₁.heap H).Ns b m:=fun {b m} ⟨o,es,ep,e,d,r⟩=>⟨o,es,ep,base_of e (noA e d),d,r⟩
  have hKb:K.In (mB s₁.heap H):=fun b o e=>base_of (KX b o e) (by
   cases q:H b with
   | none=>rfl
   | some u =>
    rcases what q with z | ⟨t,ht,z,_⟩
    ·subst z;rw[hKa (by rw[q];simp)] at e;cases e
    ·rw[<- z,hK t ht] at e;cases e)
  have hM:Mod K mg (mB s₁.heap H):=⟨hKb,nsK hns,⟨mb,nsK hb,hbb⟩,let ⟨mc,h1,h2⟩:=hlim;⟨mc,nsK h1,h2⟩⟩
  have hTB:kc mg ts (mB s₁.heap H):=by
   refine⟨fun t ht=>?_,?_⟩
   ·obtain⟨o,vs',file,tf,flags,tg,inF,text,tt,e,ec,ed,r⟩:=(hT t ht).1
    exact⟨o,vs',file,tf,flags,tg,inF,text,tt,base_of e (free e (fun its n z=>by rw[ed] at z;cases z) (by rw[ec];simp)),ec,ed,r⟩
   ·obtain⟨bm,o,b1,b2,b3,b4,b5,b6,b7⟩:=hbm
    exact⟨bm,o,b1,b2,b3,base_of b4 (free b4 (fun its n z=>by rw[b7] at z;cases z) (by rw[b5];simp)),b5,b6,b7⟩
  have e0:nH P w K mg (mB s₁.heap H) callerA [] s₁ H:=⟨rfl,hM,fun b o e=>uF e,Nat.le_of_eq (qj _ _),trivial,fun b hb=>absurd (show b∈([]:List Addr) from hb) (by simp),hok,.of_eq hg⟩
  refine codeAny_mono ((F _ hKb (nsK hns) hTB).run callerA [] s₁ H ⟨[.ref a],[]⟩ [.ref a] [.ref a] _ _ hr e0 (hbind s₁ (.ref a)) (.cons rfl .nil) (hsp H hO aP hS)) fun r s' h=>?_
  cases r with
  | error e=>exact(hCX H e s' h).elim
  | ok fl =>
   cases fl with
   | next=>exact False.elim h
   | brk=>exact False.elim h
   | cont=>exact False.elim h
   | ret u =>
    obtain⟨v,H',os,bare,un,hok',r',q⟩:=h
    have q':v=.bl true:=q
    subst q'
    obtain rfl:u=Value.bool true:=r'
    have tab:∀{b:Addr} {o:Obj},s₁.heap.get? b=some o->(s'.heap.get? b=some o)\/∃t∈ts,t.P=b/\o=W.tabObj #[]/\∃ps,s'.heap.get? b=some (W.tabObj ps):=fun {b o} e=>by
     cases qb:H b with
     | none=>exact .inl (un.keep b o e qb (by intro z;exact absurd (show b∈([]:List Addr) from z) (by simp)) (by simp))
     | some u =>
      rcases hO b with ⟨_,z⟩ | ⟨_,z⟩
      ·rw[qb] at z
       obtain⟨t,ht,zP,rfl⟩:=oh z.symm
       have z2:=un.tbls b _ _ qb
       obtain⟨ps,g,_⟩:=(show jA P w H' s'.heap b (.tbl t.q false) from hok' b _ z2)
       have e2:=(hT t ht).2
       rw[zP,e] at e2
       exact .inr ⟨t,ht,zP,Option.some.inj e2,ps,g⟩
      ·rcases z with z | ⟨ob,xs,z⟩
       ·rw[qb] at z;cases z
       ·have z2:=un.frzs b ob _ (fun y q=>by cases q) z
        obtain⟨e1,_⟩:=hok b _ z
        obtain⟨e2,_⟩:=hok' b _ z2
        rw[e] at e1;cases e1
        exact .inl e2
    refine⟨rfl,⟨fun b o e=>?_,fun b o e=>?_⟩,os,bare⟩
    ·rcases tab e with z | ⟨t,ht,rfl,rfl,ps,g⟩
     ·exact .inl z
     ·exact .inr (.inl ⟨((hT t ht).1.tab (hT t ht).2).isCodeTable,rfl,#[],ps,rfl,by rw[Array.empty_append];exact g⟩)
    ·rcases tab e with z | ⟨t,ht,rfl,rfl,ps,g⟩
     ·exact⟨_,z⟩
     ·exact⟨_,g⟩
 cases hk:K.lookup a with
 | some o =>
  have e:=KX a o hk
  rw[ha] at e
  cases e
  have hn:rj ts a=none:=by
   cases q:rj ts a with
   | none=>rfl
   | some u=>obtain⟨t,ht,z,_⟩:=oh q;exact absurd z (aP t ht)
  refine core (rj ts) (fun b=>?_) (.inr ⟨_,vs.toArray,_,hk,rfl,rfl,rfl,by rw[List.size_toArray,lenV];exact hl,by simpa using rv⟩) (fun b u z=>tabOk _ z) fun z=>absurd hn z
  by_cases hb:b=a
  ·exact .inr ⟨hb,.inl (by rw[hb];exact hn)⟩
  ·exact .inl ⟨hb,rfl⟩
 | none =>
  refine core (fun b=>if b=a then some (.frz {cls:=.type "list",data:=.seq vs.toArray} (.lst (ns.map V.int))) else rj ts b) (fun b=>?_) (.inl (.inr ⟨{cls:=.type "list",data:=.seq vs.toArray},if_pos rfl⟩)) (fun b u z=>?_) fun _=>hk
  ·by_cases hb:b=a
   ·exact .inr ⟨hb,.inr ⟨_,_,if_pos hb⟩⟩
   ·exact .inl ⟨hb,if_neg hb⟩
  ·by_cases hb:b=a
   ·have z':=(if_pos hb).symm.trans z
    cases z'
    subst hb
    exact⟨ha,by rw[List.length_map];exact hl,vs,_,rv,ha⟩
   ·exact tabOk _ ((if_neg hb).symm.trans z)
theorem mW{i j:Int}{t u:Tok}{c:Value}:∀{l:List Value},TriplesOk l->TriplesOk (l++[.int i t,.int j u,c])
 | [],_=>trivial
 | .int _ _::.int _ _::_::rest,h=>mW (l:=rest) h
theorem oF{pos:Pos}{i j:Int}{t u:Tok}{c cv:Value}:∀{l:List Value},TriplesOk l->codeAmong pos (l++[.int i t,.int j u,c])=some cv->codeAmong pos l=some cv\/cv=c
 | [],_,h=>by
  have h':(if (i==pos.line&&j==pos.col)=true then some c else codeAmong pos [])=some cv:=h
  split at h'
  ·cases h';exact .inr rfl
  ·cases h'
 | .int a ta::.int b tb::d::rest,hl,h=>by
  have h':(if (a==pos.line&&b==pos.col)=true then some d else codeAmong pos (rest++[.int i t,.int j u,c]))=some cv:=h
  show(if (a==pos.line&&b==pos.col)=true then some d else codeAmong pos rest)=some cv\/_
  split at h'
  ·rename_i z;rw[if_pos z];exact .inl h'
  ·rename_i z;rw[if_neg z];exact oF (l:=rest) hl h'
section
variable{X:Cx}{pins:List (Addr×Obj)}{σ:L2.St}{H:Hp}{s:Shared}
abbrev lV(o:Obj):HO:=.frz o (.ext fun _=>True)
theorem xy{t:jZ}{ts:List jZ}{name:Str}{params:Arguments}{body:Expr}{scope:Scope}{clos:List (Str×Addr)}{pos:Pos}{line:Nat}(I:L2.Inv X pins σ H s)(TB:kc X.mg ts X.base)(ht:t∈ts)(hP:H t.P=some (.tbl t.q false))(hcode:X.env.code=.ref t.c)
  (hcl:closureFor scope X.env=pure clos):wpAny (model X.prog X.w) X.A (makeFunction name t.q params (.expr body) scope X.env [] [] [] pos line)
   (fun v s'=>∃f c' ctv pm H',v=.ref f/\L2.Inv X pins σ H' s'/\iX H H'/\H f=none/\H' f=some (lV (W.kla_obj name t.q params body scope clos pm c' ctv))/\H' c'=some (.tbl t.q true)) X.xe s:=by
 obtain⟨tv,eP,tr,ent⟩:=(show jA X.prog X.w H s.heap t.P (.tbl t.q false) from I.hok _ _ hP)
 have hg:s.heap.Ns mainGlobals X.mg:=I.mod.glob.keeps I.bk
 have C:W.CodeHd s.heap t.c t.P:=(TB.code t ht).keeps I.bk
 have nbase:∀{b:Addr} {o:Obj},X.base.get? b=some o->b≠t.P:=fun e z=>by
  have:=(I.bs _ _ e).2
  rw[z,hP] at this;cases this
 have hgP:mainGlobals≠t.P:=by
  obtain⟨o,_,_,e,_⟩:=I.mod.glob
  exact nbase e
 have hb:s.heap.BuiltinsAt X.mg t.P:=by
  obtain⟨bm,o,b1,b2,b3,b4,b5⟩:=TB.bm
  exact⟨bm,o,b1,b2,b3,nbase b4,I.bk _ _ b4,b5⟩
 cases hc:codeAmong pos tv.toList with
 | none =>
  refine W.kla_makeFunction hcl I.ok.glob hg hcode C eP tr hc hgP hb fun c' ctv h' tk hx hge hlt hrec htb=>?_
  have hcs:∀{b:Addr} {u:HO},H b=some u->b≠c'/\b≠h'.objs.size:=fun e=>by
   have q:=I.hok.lt e
   exact⟨Nat.ne_of_lt (Nat.lt_of_lt_of_le q hge),Nat.ne_of_lt (Nat.lt_of_lt_of_le q (Nat.le_trans hge (Nat.le_of_lt hlt)))⟩
  have hF:H h'.objs.size=none:=I.hok.fresh (Nat.le_trans hge (Nat.le_of_lt hlt))
  have hCn:H c'=none:=I.hok.fresh hge
  refine⟨h'.objs.size,c',ctv,_,upd (upd H c' (.tbl t.q true)) h'.objs.size (lV (W.kla_obj name t.q params body scope clos ((X.mg "__name__").getD .none) c' ctv)),rfl,?_,fun b u e=>?_,hF,af,?_⟩
  ·have kp:∀b o,b≠t.P->s.heap.get? b=some o->(h'.push (W.kla_obj name t.q params body scope clos ((X.mg "__name__").getD .none) c' ctv)).get? b=some o:=fun b o nb e=>Heap.get?_push_of_some _ (hx b o nb e)
   have nP:∀{b:Addr},H b=none->b≠t.P:=fun e z=>by rw[z,hP] at e;cases e
   have st:∀{b:Addr} {u:HO},H b=some u->upd (upd H c' (.tbl t.q true)) h'.objs.size (lV (W.kla_obj name t.q params body scope clos ((X.mg "__name__").getD .none) c' ctv)) b=some u:=fun e=>by rw[ai (hcs e).2,ai (hcs e).1];exact e
   refine I.un ⟨fun b o e n _ _=>kp b o (nP n) e,fun b o e n _ _=>⟨o.slots,kp b o (nP n) e⟩,fun b o e n _=>?_,fun b o e _=>?_,fun b xs e=>st e,fun b o u _ e=>st e,fun b q d e=>st e⟩ fun b u e=>?_
   ·have q:=Heap.lt_size e
    rw[ai (Nat.ne_of_lt (Nat.lt_of_lt_of_le q (Nat.le_trans hge (Nat.le_of_lt hlt)))),ai (Nat.ne_of_lt (Nat.lt_of_lt_of_le q hge))];exact n
   ·by_cases hb:b=t.P
    ·exact⟨_,by rw[hb];exact Heap.get?_push_of_some _ htb⟩
    ·exact⟨o,kp b o hb e⟩
   ·by_cases hbf:b=h'.objs.size
    ·subst hbf
     rw[af] at e
     cases e
     exact⟨Heap.get?_push_size _ rfl,trivial,⟨_,Heap.get?_push_size _ rfl⟩,fun _ _ _ _=>trivial⟩
    ·rw[ai hbf] at e
     by_cases hbc:b=c'
     ·subst hbc
      rw[af] at e
      cases e
      exact hrec.push _
     ·rw[ai hbc] at e
      by_cases hbP:b=t.P
      ·subst hbP
       rw[hP] at e
       cases e
       refine⟨_,Heap.get?_push_of_some _ htb,by rw[Array.toList_append];exact mW tr,fun pos' cv hcv=>?_⟩
       rw[Array.toList_append] at hcv
       rcases oF tr hcv with z | z
       ·obtain⟨c2,e1,e2⟩:=ent pos' cv z
        exact⟨c2,e1,st e2⟩
       ·exact⟨c',z,by rw[ai (Nat.ne_of_lt hlt),af]⟩
      ·refine(I.hok b u e).stay (fun c v hcb r=>kp c v (fun z=>?_) r) (fun c r=>st r) (fun c xs r=>st r) fun c q d r=>st r
       rcases hcb with rfl | hcb
       ·exact hbP z
       ·rw[z,hP] at hcb;cases hcb
  ·rw[ai (hcs e).2,ai (hcs e).1];exact e
  ·rw[ai (Nat.ne_of_lt hlt),af]
 | some cv =>
  obtain⟨c',rfl,hcC⟩:=ent pos cv hc
  refine W.kla_makeFunctionHit hcl I.ok.glob hg hcode C eP tr hc hb fun ctv h' tk hk hsz=>?_
  have hcs:∀{b:Addr} {u:HO},H b=some u->b≠h'.objs.size:=fun e=>by
   exact Nat.ne_of_lt (Nat.lt_of_lt_of_le (I.hok.lt e) hsz)
  have hF:H h'.objs.size=none:=I.hok.fresh hsz
  refine⟨h'.objs.size,c',ctv,_,upd H h'.objs.size (lV (W.kla_obj name t.q params body scope clos ((X.mg "__name__").getD .none) c' ctv)),rfl,?_,fun b u e=>?_,hF,af,?_⟩
  ·have kp:∀b o,s.heap.get? b=some o->(h'.push (W.kla_obj name t.q params body scope clos ((X.mg "__name__").getD .none) c' ctv)).get? b=some o:=fun b o e=>Heap.get?_push_of_some _ (hk b o e)
   have st:∀{b:Addr} {u:HO},H b=some u->upd H h'.objs.size (lV (W.kla_obj name t.q params body scope clos ((X.mg "__name__").getD .none) c' ctv)) b=some u:=fun e=>by rw[ai (hcs e)];exact e
   refine I.un ⟨fun b o e n _ _=>kp b o e,fun b o e n _ _=>⟨o.slots,kp b o e⟩,fun b o e n _=>?_,fun b o e _=>⟨o,kp b o e⟩,fun b xs e=>st e,fun b o u _ e=>st e,fun b q d e=>st e⟩ fun b u e=>?_
   ·rw[ai (Nat.ne_of_lt (Nat.lt_of_lt_of_le (Heap.lt_size e) hsz))];exact n
   ·by_cases hbf:b=h'.objs.size
    ·subst hbf
     rw[af] at e
     cases e
     exact⟨Heap.get?_push_size _ rfl,trivial,⟨_,Heap.get?_push_size _ rfl⟩,fun _ _ _ _=>trivial⟩
    ·rw[ai hbf] at e
     exact(I.hok b u e).stay (fun c v _ r=>kp c v r) (fun c r=>st r) (fun c xs r=>st r) fun c q d r=>st r
  ·rw[ai (hcs e)];exact e
  ·rw[ai (hcs hcC)];exact hcC
end
theorem lh{α:Type}:∀{l:List (Str×α)} {x:Str} {u:α},(l.map (·.1)).Nodup->(x,u)∈l->l.lookup x=some u
 | (y,v)::l,x,u,nd,h=>by
  rw[List.map_cons,List.nodup_cons] at nd
  rw[List.lookup_cons]
  rcases List.mem_cons.mp h with e | h
  ·cases e;simp
  ·have hn:(x==y)=false:=beq_eq_false_iff_ne.mpr fun z=>nd.1 (List.mem_map.mpr ⟨(x,u),h,z⟩)
   rw[hn]
   exact lh nd.2 h
def kh(cl:List (Str×Addr))(b:Addr):Bool:=cl.any fun p=>p.2==b
def lE(cl:List (Str×Addr))(H:Hp):Hp:=fun b=>if kh cl b then none else H b
def qy(cl:List (Str×Addr))(H H2:Hp):Hp:=fun b=>if kh cl b then H b else H2 b
theorem tU{cl:List (Str×Addr)}{x:Str}{c:Addr}(h:cl.lookup x=some c):kh cl c=true:=List.any_eq_true.mpr ⟨(x,c),PySem.mem_of_lookup h,by simp⟩
structure lb (N ps:List Str) (sc:Scope) (cl:List (Str×Addr)):Prop where
 kind:sc.kind=.function
 co:sc.isCoroutine=false
 gen:sc.isGenerator=false
 nd:N.Nodup
 pre:N.take ps.length=ps
 par:∀x∈ps,sc.names.lookup x=some .local
 nocell:∀y∈sc.names,y.2≠.cell
 fre:∀x∈N.drop ps.length,sc.names.lookup x=some .free
 has:∀x,sc.names.lookup x=some .free->∃c,cl.lookup x=some c
 ndc:(cl.map (·.1)).Nodup
 inj:∀x y c,cl.lookup x=some c->cl.lookup y=some c->x=y
def mt(H:Hp)(N ps:List Str)(cl:List (Str×Addr))(caps:List V):Prop:=
 caps.length=N.length - ps.length/\(∀b,kh cl b=true->∃o u,H b=some (lV o)/\o.data=.cell (some u))/\∀(i:Nat) (x:Str) (v:V),(N.drop ps.length)[i]?=some x->caps[i]?=some v->∃c o u,cl.lookup x=some c/\H c=some (lV o)/\o.data=.cell (some u)/\RelV v u
theorem mt.to{H H':Hp}{N ps:List Str}{cl:List (Str×Addr)}{caps:List V}(h:mt H N ps cl caps)(s:∀b o,H b=some (lV o)->H' b=some (lV o)):mt H' N ps cl caps:=by
 obtain⟨h1,h2,h3⟩:=h
 refine⟨h1,fun b hb=>?_,fun i x v q1 q2=>?_⟩
 ·obtain⟨o,u,e,d⟩:=h2 b hb
  exact⟨o,u,s b o e,d⟩
 ·obtain⟨c,o,u,e1,e2,r⟩:=h3 i x v q1 q2
  exact⟨c,o,u,e1,s c o e2,r⟩
def uW(CX:sU)(P:Program)(w:World)(K:W.Frag)(mg:Str->Option Value)(base:Heap)(N:List Str)(qual:Str)(scope:Scope)(cl:List (Str×Addr))(f:Addr)(cd:Value)(A:Around)(outer:List Env)(s:Shared)(H:Hp)(E:XK):Cx where
 prog:=P
 w:=w
 K:=K
 mg:=mg
 base:=base
 A:=A.deeper (W.envX qual scope s.heap.objs.size f cd cl)
 N:=N
 s₀:=s
 H₀:=lE cl H
 env:=W.envX qual scope s.heap.objs.size f cd cl
 outer:=outer
 stack:=W.envX qual scope s.heap.objs.size f cd cl::outer
 ex:=[]
 calm:=true
 fn:=fun _=>false
 pn:=[]
 xe:=fun e s'=>wpAny (model P w) (A.deeper (W.envX qual scope s.heap.objs.size f cd cl)) (leaving (W.envX qual scope s.heap.objs.size f cd cl) e) (fun _ s''=>CX outer H s E e s'') (fun e' s''=>CX outer H s E e' s'') s'
theorem zj {CX:sU} {P:Program} {w:World} {K:W.Frag} {mg:Str->Option Value} {base:Heap} {k:Nat} {f c':Addr} {name qual:Str} {params:Arguments} {body:Expr} {scope:Scope} {cl:List (Str×Addr)} {pm ctv:Value} {N ps:List Str} {sp:Sp}
    (S:lb N ps scope cl) (len:∀vs H Q E,sp vs H Q E->vs.length=ps.length)
    (pre:∀vs H Q E,sp vs H Q E->H f=some (lV (W.kla_obj name qual params body scope cl pm c' ctv))/\H c'=some (.tbl qual true))
    (hbody:∀(A:Around) (outer:List Env) (s:Shared) (H:Hp) (vs:List V) (Q:VK) (E:XK),jo k (A.deeper (W.envX qual scope s.heap.objs.size f (.ref c') cl))->nH P w K mg base A outer s H->sp vs H Q E ->
      ∃caps t,mt H N ps cl caps/\PE (uW CX P w K mg base N qual scope cl f (.ref c') A outer s H E) body t/\t ((vs++caps).map some) (lE cl H) fun v H2=>(∀b u,H2 b=some u->qy cl H H2 b=some u)->Q v (qy cl H H2)) :
    jl P w K mg base CX (k+1) f (W.kla_fn name qual params body scope cl pm (.ref c') ctv) ps sp:=by
  refine⟨len,fun A outer s H args us vs Q E hr e0 hb r hsp=>?_⟩
  have hl:=len _ _ _ _ hsp
  obtain⟨hf,hc'⟩:=pre _ _ _ _ hsp
  obtain⟨caps,t,⟨cl1,cl2,cl3⟩,ht,hq⟩:=hbody A outer s H vs Q E (hr.deeper _) e0 hsp
  have lim:s.heap.NoLimit:=e0.mod.nolimit.keeps fun b o e=>(e0.bs b o e).1
  have ndP:ps.Nodup:=by rw[<- S.pre];exact S.nd.sublist (List.take_sublist _ _)
  have hpl:ps.length<=N.length:=by have:=congrArg List.length S.pre;rw[List.length_take] at this;omega
  have hul:us.length=ps.length:=by rw[<- r.length];exact hl
  have dr:∀{b:Addr} {u:HO},H b=some u->(∀o,u≠lV o)->kh cl b=false:=fun {b u} e n=>by
    cases q:kh cl b with
    | false=>rfl
    | true=>obtain⟨o,v,z,_⟩:=cl2 b q;rw[e] at z;cases z;exact absurd rfl (n o)
  have dk:∀{b:Addr} {u:HO},H b=some u->(∀o,u≠lV o)->lE cl H b=some u:=fun {b u} e n=>by
    show(if kh cl b then none else H b)=_
    rw[dr e n];exact e
  have dn:∀{b:Addr},H b=none->lE cl H b=none:=fun {b} e=>by
    show(if kh cl b then none else H b)=_
    split
    · rfl
    · exact e
  refine W.kla_callFunE hr.depth (e0.hok f _ hf).1 rfl S.co S.gen rfl (show jA P w H s.heap c' (.tbl qual true) from e0.hok c' _ hc') (hb _ _ _ _ ?_)
  refine wpAny_newFunctionEnv S.nocell (fun ⟨n,v⟩ hy=>S.par n (List.of_mem_zip hy).1) (fun h₁ hns hsb=>⟨lim.fresh _ hsb,?_⟩) S.kind
  show codeAny _ _ (.expr body (W.envX qual scope s.heap.objs.size f (.ref c') cl)) _ _
  have hk:∀b o,s.heap.get? b=some o->h₁.get? b=some o:=fun b o e=>hsb.extBut b o (Nat.ne_of_lt (Heap.lt_size e)) (Heap.get?_push_of_some _ e)
  have noA:∀b:Addr,b∉(uW CX P w K mg base N qual scope cl f (.ref c') A outer s H E).ex:=fun b z=>absurd (show b∈([]:List Addr) from z) (by simp)
  have hcell:∀x c,cl.lookup x=some c->∃u,h₁.IsCell c (some u):=fun x c e=>by
    obtain⟨o,u,z,d⟩:=cl2 c (tU e)
    exact⟨u,o,hk _ _ (e0.hok c _ z).1,d⟩
  have I:L2.Inv (uW CX P w K mg base N qual scope cl f (.ref c') A outer s H E) [] ((vs++caps).map some) (lE cl H) {s with heap:=h₁,toks:=s.toks+(ps.zip us).length}:=by
    refine⟨⟨e0.mod,S.kind,rfl,rfl,Nat.le_refl _,S.inj,fun y hy=>?_,fun y c z _=>(by cases z),fun _=>hr.hd,Around.frames_deeper e0.frames,.inr ⟨rfl,rfl⟩,fun b z=>absurd z (noA b),fun b o e=>⟨(e0.bs b o e).1,dn (e0.bs b o e).2⟩,e0.bsz,fun b _ _=>noA b,fun b z=>absurd z (noA b),e0.funs,fun b hb=>dn (e0.frf b hb)⟩,
      rfl,e0.bare,Un.kept hk,⟨_,hns,fun i y v h1 h2 h3=>?_⟩,fun y c h=>let ⟨u,z⟩:=hcell y c h;⟨_,z⟩,dn (e0.hok.fresh (Nat.le_refl _)),fun y c h=>?_,fun p hp=>absurd (show p∈([]:List (Addr×Obj)) from hp) (by simp),fun b u e=>?_,?_⟩
    · have hy:scope.names.lookup y=some .cell\/scope.names.lookup y=some .free:=hy
      rcases hy with hy | hy
      · exact absurd rfl (S.nocell _ (PySem.mem_of_lookup hy))
      · exact S.has y hy
    · rw[List.getElem?_map] at h2
      cases e:(vs++caps)[i]? with
      | none=>rw[e] at h2;cases h2
      | some z =>
        rw[e] at h2
        cases h2
        by_cases hi:i<vs.length
        · rw[List.getElem?_append_left hi] at e
          obtain⟨u,hu,rv⟩:=r.get e
          have hp:ps[i]?=some y:=by rw[<- S.pre,List.getElem?_take_of_lt (by omega)];exact h1
          refine⟨u,rv,.inl ⟨S.par y (List.mem_of_getElem? hp),?_⟩⟩
          show(ps.zip us).reverse.lookup y=some u
          refine lh ?_ ?_
          · rw[List.map_reverse,List.map_fst_zip (by omega),List.Nodup,List.pairwise_reverse];exact ndP.imp fun h=>Ne.symm h
          · rw[List.mem_reverse]
            exact List.mem_of_getElem? (i:=i) (List.getElem?_zip_eq_some.mpr ⟨hp,hu⟩)
        · rw[List.getElem?_append_right (by omega)] at e
          have hd:(N.drop ps.length)[i - vs.length]?=some y:=by rw[List.getElem?_drop,show ps.length+(i - vs.length)=i by omega];exact h1
          obtain⟨c,o,u,h4,h5,h6,h7⟩:=cl3 _ y v hd e
          exact⟨u,h7,.inr ⟨.inr (S.fre y (List.mem_of_getElem? hd)),c,h4,o,hk _ _ (e0.hok c _ h5).1,h6⟩⟩
    · show(if kh cl c then none else H c)=none
      rw[tU (show cl.lookup y=some c from h)];rfl
    · have e':(if kh cl b then none else H b)=some u:=e
      cases q:kh cl b with
      | true=>rw[q] at e';cases e'
      | false =>
        rw[q] at e'
        exact(e0.hok b u e').stay (fun c v _ g=>hk c v g) (fun c g=>dk g fun o z=>by cases z) (fun c xs g=>dk g fun o z=>by cases z) fun c a d g=>dk g fun o z=>by cases z
    · show((vs++caps).map some).length=N.length
      rw[List.length_map,List.length_append,cl1,hl];omega
  refine W.kla_codeExpr (wpAny_mono (ht [] _ _ _ _ I hq) (fun u s' hs=>?_) fun e s' hs=>hs)
  obtain⟨v,H2,J,rv,q⟩:=hs
  have cellKept:∀{b:Addr},kh cl b=true->∃o,H b=some (lV o)/\s'.heap.get? b=some o:=fun {b} hb=>by
    obtain⟨o,u',z,_⟩:=cl2 b hb
    have hfr:b∉va outer:=fun m=>by rw[e0.frf b m] at z;cases z
    exact⟨o,z,J.base.keep b o (e0.hok b _ z).1 (by show(if kh cl b then none else H b)=none;rw[hb];rfl) hfr (noA b)⟩
  have bk:∀{b:Addr} {u:HO},H2 b=some u->qy cl H H2 b=some u:=fun {b u} e=>by
    show(if kh cl b then H b else H2 b)=_
    cases qq:kh cl b with
    | false=>exact e
    | true =>
      obtain⟨p,hp,hpb⟩:=List.any_eq_true.mp qq
      have this:∃x,cl.lookup x=some b:=⟨p.1,lh S.ndc (by rw[<- eq_of_beq hpb];exact hp)⟩
      obtain⟨x,hx⟩:=this
      have:=J.freeC x b hx
      rw[this] at e;cases e
  have bc:∀{b:Addr},kh cl b=true->qy cl H H2 b=H b:=fun {b} hb=>by show(if kh cl b then H b else H2 b)=_;rw[hb];rfl
  have bn:∀{b:Addr},kh cl b=false->qy cl H H2 b=H2 b:=fun {b} hb=>by show(if kh cl b then H b else H2 b)=_;rw[hb];rfl
  refine⟨v,qy cl H H2,J.os,J.bare,⟨fun b o e n hf' hx=>J.base.keep b o e (dn n) hf' (noA b),fun b o e n hf' hx=>J.base.slot b o e (dn n) hf' (noA b),fun b o e n hx=>?_,fun b o e hx=>J.base.there b o e (noA b),fun b xs e=>bk (J.base.tups b xs (dk e fun o z=>by cases z)),fun b o u ny e=>?_,fun b a d e=>bk (J.base.tbls b a d (dk e fun o z=>by cases z))⟩,fun b u e=>?_,rv,q fun b u e=>bk e⟩
  · cases hb:kh cl b with
    | true=>rw[bc hb];exact n
    | false=>rw[bn hb];exact J.base.free b o e (dn n) (noA b)
  · cases hb:kh cl b with
    | true=>rw[bc hb];exact e
    | false =>
      rw[bn hb]
      refine J.base.frzs b o u ny ?_
      show(if kh cl b then none else H b)=_
      rw[hb];exact e
  · cases hb:kh cl b with
    | true =>
      obtain⟨o,z,g⟩:=cellKept hb
      rw[bc hb,z] at e
      cases e
      exact⟨g,trivial,⟨_,g⟩,fun _ _ _ _=>trivial⟩
    | false =>
      rw[bn hb] at e
      exact(J.hok b u e).stay (fun c v _ g=>g) (fun c g=>bk g) (fun c xs g=>bk g) fun c a d g=>bk g
end HW
namespace HW
open PySem
open Sem (wp)
section
variable{prog:Program}{w:World}{A:Around}{E:Value->Shared->Prop}{h:Heap}{g:Array GenState}{d:Drawn}{t:Nat}{os:OsState}{a:Addr}{o:Obj}{tk:Tok}
end
structure lL where
 q:Str
 params:Arguments
 body:Expr
 scope:Scope
 N:List Str
 ps:List Str
 deriving Inhabited
inductive D where
 | non
 | bl (b:Bool)
 | int (i:Int)
 | str (x:Str)
 | tup (xs:List D)
 | lst (xs:List D)
 | fro (xs:List D)
 | obj (k a:Nat) (ks:List Str) (ds:List D)
 | dct (ks:List (Int ⊕ Str)) (ds:List D)
 | dcp (ks:List (Int×Int)) (ds:List D)
 | cl (t:lL) (a:Nat) (ds:List D)
 deriving Inhabited
abbrev R:=List (Option D)
abbrev OD:=Option D
abbrev LD:=List D
abbrev oS(x:String):Str:=Str.ofString x
@[simp] abbrev kI (n:Int):R->OD:=fun _=>some (.int n)
@[simp] abbrev kS (x:String):R->OD:=fun _=>some (.str (oS x))
inductive Out where
 | nx (ρ:R)
 | rt (d:D)
 | bk (ρ:R)
 | ct (ρ:R)
@[simp] def CV:D->Option Bool
 | .non=>some false
 | .bl b=>some b
 | .int i=>some (i != 0)
 | .str x=>if x.length<=sizeLine then some ((x.length:Int) != 0) else none
 | .tup xs=>some (!xs.isEmpty)
 | .lst xs=>some (!xs.isEmpty)
 | .fro xs=>some (!xs.isEmpty)
 | .obj ..=>none
 | .dct ..=>none
 | .dcp ..=>none
 | .cl ..=>none
def bI(b:Bool):Int:=if b then 1 else 0
def CH:D->Option Int
 | .int i=>some i
 | .bl b=>some (bI b)
 | _=>none
@[simp] def nI:D->Option Int
 | .int i=>some i
 | _=>none
@[simp] def tI:D->Option LD
 | .tup xs=>some xs
 | _=>none
@[simp] def lI:D->Option LD
 | .lst xs=>some xs
 | _=>none
@[simp] def sI:D->Option Str
 | .str x=>some x
 | _=>none
@[simp] def bO:D->Option Bool
 | .bl b=>some b
 | _=>none
@[simp] def jJ (x y:D):OD:=match x with
 | .int i=>(nI y).map fun j=>.int (i+j)
 | .tup xs=>(tI y).bind fun ys=>if xs.length+ys.length<=sizeLine then some (.tup (xs++ys)) else none
 | .lst xs=>(lI y).bind fun ys=>if xs.length+ys.length<=sizeLine then some (.lst (xs++ys)) else none
 | .str x=>(sI y).bind fun y=>if x.length+y.length<=sizeLine then some (.str (x++y)) else none
 | _=>none
def jI(i j:Int):Bool:=(decide (-(2 ^ 64)<i)&&decide (i<2 ^ 64))||(decide (-(2 ^ 64)<j)&&decide (j<2 ^ 64))
@[simp] def rE (x y:D):OD:=(nI x).bind fun i=>(nI y).bind fun j=>if jI i j then some (.int (i*j)) else none
@[simp] def lu (x y:D):OD:=(nI x).bind fun i=>(nI y).bind fun j=>if 0<j/\j<1073741824 then some (.int (i / j)) else none
@[simp] def j_ (x y:D):OD:=(nI x).bind fun i=>(nI y).bind fun j=>if 0<j then some (.int (i%j)) else none
@[simp] def Bt (x y:D):Option Bool:=(nI x).bind fun i=>(nI y).map fun j=>decide (i<j)
@[simp] def yV (x y:D):Option Bool:=(nI x).bind fun i=>(nI y).map fun j=>decide (j<i)
@[simp] def Af (x y:D):Option Bool:=match x with
 | .int i=>(nI y).map fun j=>i==j
 | .str a=>(sI y).map fun b=>a==b
 | .bl a=>(bO y).map fun b=>a==b
 | _=>none
@[simp] def vY:D->D->Option Bool:=Af
@[simp] def C6:D->Bool
 | .non=>true
 | _=>false
def flat:D->Bool
 | .non=>true
 | .bl _=>true
 | .int _=>true
 | .str _=>true
 | _=>false
def yX:D->D->Bool
 | .non,.non=>true
 | .bl a,.bl b=>a==b
 | .bl a,.int b=>bI a==b
 | .int a,.bl b=>a==bI b
 | .int a,.int b=>a==b
 | .str a,.str b=>a==b
 | _,_=>false
@[simp] def tZ:D->Option LD
 | .tup xs=>some xs
 | .lst xs=>some xs
 | .fro xs=>some xs
 | _=>none
@[simp] def rz (x y:D):Option Bool:=(tZ y).bind fun ys=>if flat x&&ys.all flat then some (!ys.any fun y=>yX y x) else none
mutual
def l8:D->D->Bool
 | .non,.non=>true
 | .bl a,.bl b=>a==b
 | .bl a,.int b=>bI a==b
 | .int a,.bl b=>a==bI b
 | .int a,.int b=>a==b
 | .str a,.str b=>a==b
 | .tup xs,.tup ys=>mw xs ys
 | .lst xs,.lst ys=>mw xs ys
 | .lst xs,.fro ys=>mw xs ys
 | .fro xs,.lst ys=>mw xs ys
 | .fro xs,.fro ys=>mw xs ys
 | _,_=>false
def mw:LD->LD->Bool
 | [],[]=>true
 | x::xs,y::ys=>l8 x y&&mw xs ys
 | _,_=>false
end
mutual
def j7:D->Nat
 | .tup xs=>kL xs+1
 | .lst xs=>kL xs+1
 | .fro xs=>kL xs+1
 | _=>0
def kL:LD->Nat
 | []=>0
 | x::xs=>max (j7 x) (kL xs)
end
mutual
def j6:D->Bool
 | .str x=>x.cps.all (·<0x110000)
 | .tup xs=>ka xs
 | .lst xs=>ka xs
 | .fro xs=>ka xs
 | .obj ..=>false
 | .dct ..=>false
 | .dcp ..=>false
 | .cl ..=>false
 | _=>true
def ka:LD->Bool
 | []=>true
 | x::xs=>j6 x&&ka xs
end
mutual
def lp:D->Bool
 | .tup xs=>jF xs
 | .lst xs=>jF xs
 | .fro xs=>jF xs
 | .obj ..=>false
 | .dct ..=>false
 | .dcp ..=>false
 | .cl ..=>false
 | _=>true
def jF:LD->Bool
 | []=>true
 | x::xs=>lp x&&jF xs
end
mutual
theorem aF:∀{d:D},j6 d=true->lp d=true
 | .non,_=>rfl
 | .bl _,_=>rfl
 | .int _,_=>rfl
 | .str _,_=>rfl
 | .tup xs,h=>ca (xs:=xs) h
 | .lst xs,h=>ca (xs:=xs) h
 | .fro xs,h=>ca (xs:=xs) h
 | .obj ..,h=>by cases h
 | .dct ..,h=>by cases h
 | .dcp ..,h=>by cases h
 | .cl ..,h=>by cases h
theorem ca:∀{xs:LD},ka xs=true->jF xs=true
 | [],_=>rfl
 | x::xs,h=>by
  have h':(j6 x&&ka xs)=true:=h
  rw[Bool.and_eq_true] at h'
  show(lp x&&jF xs)=true
  rw[aF h'.1,ca h'.2];rfl
end
def pK(x y:D):Option Bool:=if j7 x<=100/\j6 x=true/\j6 y=true then some (l8 x y) else none
def qK(x y:D):Option Bool:=(pK x y).map (!·)
def Ay(n:Nat)(i:Int):Option Nat:=if 0<=i then (if i<n then some i.toNat else none) else if -(n:Int)<=i then some (i+n).toNat else none
def tH(xs:LD)(i:Int):OD:=(Ay xs.length i).bind fun j=>xs[j]?
@[simp] def i4:D->D->OD
 | .tup xs,.int i=>tH xs i
 | .lst xs,.int i=>tH xs i
 | .fro xs,.int i=>tH xs i
 | .str x,.int i=>if x.length<=sizeLine then ((Ay x.length i).bind fun j=>x.cps.toList[j]?).map fun c=>.str ⟨#[c]⟩ else none
 | _,_=>none
def wM(n d:Nat):Option Int->Nat
 | none=>d
 | some v=>if v<0 then (v+(n:Int)).toNat else min v.toNat n
def cutD(xs:LD)(lo hi:Option Int):LD:=(xs.drop (wM xs.length 0 lo)).take (wM xs.length xs.length hi - wM xs.length 0 lo)
@[simp] def CN:D->Option Int->Option Int->OD
 | .tup xs,lo,hi=>some (.tup (cutD xs lo hi))
 | .lst xs,lo,hi=>some (.lst (cutD xs lo hi))
 | _,_,_=>none
@[simp] def CZ:D->Option (Option Int)
 | .int i=>some (some i)
 | _=>none
@[simp] def A5:D->String
 | .non=>"NoneType"
 | .bl _=>"bool"
 | .int _=>"int"
 | .str _=>"str"
 | .tup _=>"tuple"
 | .lst _=>"list"
 | .fro _=>"list"
 | .obj ..=>"object"
 | .dct ..=>"dict"
 | .dcp ..=>"dict"
 | .cl ..=>"function"
@[simp] def Co (d:D) (n:String):Bool:=decide (A5 d=n)||(decide (A5 d = "bool")&&decide (n = "int"))
@[simp] def lM:LD->OD
 | [d]=>(tZ d).map fun xs=>.int xs.length
 | _=>none
@[simp] def CG:LD->OD
 | [.tup xs]=>some (.lst xs)
 | [.lst xs]=>some (.lst xs)
 | _=>none
@[simp] def mv:LD->OD
 | [.tup xs]=>some (.tup xs)
 | [.lst xs]=>some (.tup xs)
 | _=>none
@[simp] def yo:LD->OD
 | [.int i]=>if i.natAbs.log2<1920 then some (.str (toString i)) else none
 | _=>none
@[simp] def rh:LD->OD
 | [.int i]=>some (.int i)
 | [.bl b]=>some (.int (if b then 1 else 0))
 | _=>none
def bools:LD->Option (List Bool)
 | []=>some []
 | .bl b::r=>(bools r).map (b::·)
 | _=>none
def mP(st:D->R->Option R)(body:R->Option Out):LD->R->Option Out
 | [],ρ=>some (.nx ρ)
 | d::ds,ρ=>(st d ρ).bind fun ρ1=>(body ρ1).bind fun o=>match o with
  | .nx ρ2=>mP st body ds ρ2
  | .ct ρ2=>mP st body ds ρ2
  | .bk ρ2=>some (.nx ρ2)
  | .rt r=>some (.rt r)
def lc(st:D->R->Option R)(c:R->Option Bool)(e:R->OD):LD->R->Option LD
 | [],_=>some []
 | d::ds,ρ=>(st d ρ).bind fun ρ1=>(c ρ1).bind fun b=>(if b then (e ρ1).map some else some none).bind fun x =>
   (lc st c e ds ρ).map fun r=>match x with
    | some y=>y::r
    | none=>r
@[simp] def jb (f g:R->Option Out):R->Option Out:=fun ρ=>(f ρ).bind fun o=>match o with
 | .nx ρ2=>g ρ2
 | o=>some o
@[simp] def iP (i:Nat) (ρ:R):OD:=ρ.getD i none
@[simp] def setAt (i:Nat) (d:D) (ρ:R):Option R:=if i<ρ.length then some (ρ.set i (some d)) else none
@[simp] def xU (c:R->Option Bool) (f g:R->Option Out):R->Option Out:=fun ρ=>(c ρ).bind fun b=>if b then f ρ else g ρ
@[simp] def iY (F:D->D->OD) (f g:R->OD):R->OD:=fun ρ=>(f ρ).bind fun x=>(g ρ).bind fun y=>F x y
@[simp] def jV (F:D->D->Option Bool) (f g:R->OD):R->Option Bool:=fun ρ=>(f ρ).bind fun x=>(g ρ).bind fun y=>F x y
@[simp] def tV (f:R->Option Bool):R->OD:=fun ρ=>(f ρ).map .bl
@[simp] def iQ:R->Option LD:=fun _=>some []
@[simp] def e8 (f:R->OD) (g:R->Option LD):R->Option LD:=fun ρ=>(f ρ).bind fun d=>(g ρ).map fun ds=>d::ds
@[simp] def iR (F:LD->OD) (g:R->Option LD):R->OD:=fun ρ=>(g ρ).bind F
@[simp] def ja (g:R->Option LD):R->OD:=fun ρ=>(g ρ).map .tup
@[simp] def si (g:R->Option LD):R->OD:=fun ρ=>(g ρ).map .lst
@[simp] def xH:R->Option (Option Int):=fun _=>some none
@[simp] def aP (f:R->OD):R->Option (Option Int):=fun ρ=>(f ρ).bind CZ
@[simp] def vV (f:R->OD) (l h:R->Option (Option Int)):R->OD:=fun ρ=>(f ρ).bind fun x=>(l ρ).bind fun a=>(h ρ).bind fun b=>CN x a b
@[simp] def k_ (f:R->OD):R->Option Out:=fun ρ=>(f ρ).map .rt
@[simp] def i9 (f:R->OD) (st:D->R->Option R):R->Option Out:=fun ρ=>(f ρ).bind fun d=>(st d ρ).map .nx
@[simp] def ox:R->Option Out:=fun ρ=>some (.nx ρ)
@[simp] def kx (it:R->Option LD) (st:D->R->Option R) (body:R->Option Out):R->Option Out:=fun ρ=>(it ρ).bind fun ds=>mP st body ds ρ
def chars(x:Str):LD:=x.cps.toList.map fun c=>.str ⟨#[c]⟩
@[simp] def jh (f:R->OD):R->Option LD:=fun ρ=>(f ρ).bind fun d=>match d with
 | .tup xs=>some xs
 | .lst xs=>some xs
 | .str x=>if x.cps.all (·<128) then some (chars x) else none
 | _=>none
def kj(a b:Int):LD:=(List.range (b - a).toNat).map fun (k:Nat)=>D.int (a+(k:Int))
@[simp] def jR (f:R->OD):R->Option LD:=fun ρ=>(f ρ).bind fun d=>match d with
 | .int j=>if -(2 ^ 62)<=j/\j<2 ^ 62 then some (kj 0 j) else none
 | _=>none
def lT(k:Nat)(it:R->Option LD)(st:D->R->Option R)(c:R->Option Bool)(e:R->OD):R->OD:=fun ρ =>
 (it ρ).bind fun ds=>if ds.length<=sizeLine then (lc st c e ds (List.replicate k none++ρ)).map .lst else none
@[simp] def jL:R->Option Bool:=fun _=>some true
@[simp] def qY (n:Nat) (ds:LD):R:=ds.map some++List.replicate (n - ds.length) none
@[simp] def jQ:Option Out->OD
 | some (.rt d)=>some d
 | some (.nx _)=>some .non
 | _=>none
@[simp] def sC:List (D->R->Option R)->LD->R->Option R
 | [],[],ρ=>some ρ
 | f::fs,d::ds,ρ=>(f d ρ).bind fun ρ1=>sC fs ds ρ1
 | _,_,_=>none
@[simp] def j4 (fs:List (D->R->Option R)):D->R->Option R
 | .tup ds,ρ=>sC fs ds ρ
 | _,_=>none
@[simp] def se (i:Nat) (f:R->OD):R->LD->Option (Out×LD):=fun ρ ds=>(f ρ).bind fun d=>if ρ.length=i/\ds.length<sizeLine then some (.nx ρ,ds++[d]) else none
def tY(st:D->R->Option R)(p:R->LD->Option (Out×LD)):LD->R->LD->Option (Out×LD)
 | [],ρ,ds=>some (.nx ρ,ds)
 | d::es,ρ,ds=>(st d ρ).bind fun ρ1=>(p ρ1 ds).bind fun r=>match r with
  | (.nx ρ2,ds2)=>tY st p es ρ2 ds2
  | (.ct ρ2,ds2)=>tY st p es ρ2 ds2
  | (.bk ρ2,ds2)=>some (.nx ρ2,ds2)
  | r=>some r
@[simp] def tF (it:R->Option LD) (st:D->R->Option R) (p:R->LD->Option (Out×LD)):R->LD->Option (Out×LD):=fun ρ ds=>(it ρ).bind fun es=>tY st p es ρ ds
@[simp] def zr (i:Nat) (F:R->Option LD) (q:R->LD->Option Out):R->Option Out:=fun ρ=>(F ρ).bind fun ds=>if ρ.length=i+1 then q (ρ.take i) ds else none
@[simp] def xF (p:R->LD->Option (Out×LD)) (q:R->LD->Option Out):R->LD->Option Out:=fun ρ ds=>(p ρ ds).bind fun r=>match r with
 | (.nx ρ2,ds2)=>q ρ2 ds2
 | (.rt d,_)=>some (.rt d)
 | _=>none
@[simp] def xA (w:R->Option Out):R->LD->Option Out:=fun ρ ds=>w (ρ++[some (.lst ds)])
theorem li{st:D->R->Option R}{e:R->OD}{ρ:R}(f:D->D):∀{ds:LD},(∀d∈ds,∃ ρ1,st d ρ=some ρ1/\e ρ1=some (f d))->lc st jL e ds ρ=some (ds.map f)
 | [],_=>rfl
 | d::ds,h=>by
  obtain⟨ρ1,h1,h2⟩:=h d List.mem_cons_self
  have ih:=li f fun x hx=>h x (List.mem_cons_of_mem _ hx)
  simp[lc,h1,h2,ih]
def via(k n:Nat)(g:R->Option Out)(ds:LD):OD:=if ds.length=k then jQ (g (qY n ds)) else none
theorem dH{k n:Nat}{g:R->Option Out}{ds:LD}{d:D}(h:via k n g ds=some d):ds.length=k:=by
 unfold via at h
 split at h
 ·assumption
 ·cases h
theorem fE{k n:Nat}{g:R->Option Out}{ds:LD}{d:D}(h:via k n g ds=some d):jQ (g (qY n ds))=some d:=by
 unfold via at h
 split at h
 ·exact h
 ·cases h
theorem pR{i j:Int}(h1 : -(2 ^ 64)<j)(h2:j<2 ^ 64):jI i j=true:=by unfold jI;rw[decide_eq_true h1,decide_eq_true h2];simp
theorem kJ{i j:Int}(h1 : -(2 ^ 64)<i)(h2:i<2 ^ 64):jI i j=true:=by unfold jI;rw[decide_eq_true h1,decide_eq_true h2];simp
theorem mO{st:D->R->Option R}{body:R->Option Out}(P:Nat->R->Prop):∀(ds:LD) (k:Nat) (ρ0:R),P k ρ0->(∀i d ρ,ds[i]?=some d->P (k+i) ρ->∃ ρ1 ρ2,st d ρ=some ρ1/\body ρ1=some (.nx ρ2)/\P (k+i+1) ρ2) ->
  ∃ ρ',mP st body ds ρ0=some (.nx ρ')/\P (k+ds.length) ρ'
 | [],k,ρ0,h0,_=>⟨ρ0,rfl,h0⟩
 | d::ds,k,ρ0,h0,hs=>by
  obtain⟨ρ1,ρ2,h1,h2,h3⟩:=hs 0 d ρ0 rfl h0
  obtain⟨ρ',h4,h5⟩:=mO P ds (k+1) ρ2 h3 fun i d' ρ e p=>by
   have q:=hs (i+1) d' ρ (by simpa using e) (by rw[show k+(i+1)=k+1+i by omega];exact p)
   rw[show k+(i+1)+1=k+1+i+1 by omega] at q
   exact q
  refine⟨ρ',?_,?_⟩
  ·simp[mP,h1,h2,h4]
  ·rw[show k+(d::ds).length=k+1+ds.length by simp;omega];exact h5
theorem eJ{n:Int}{i:Nat}{d:D}(e:(kj 0 n)[i]?=some d):d=.int i/\(i:Int)<n:=by
 unfold kj at e
 rw[List.getElem?_map] at e
 cases q:(List.range (n - 0).toNat)[i]? with
 | none=>rw[q] at e;cases e
 | some k =>
  rw[q] at e
  obtain⟨h1,h2⟩:=List.getElem?_eq_some_iff.mp q
  simp at h1 h2
  subst h2
  have e':D.int (0+(i:Int))=d:=Option.some.inj e
  rw[Int.zero_add] at e'
  exact⟨e'.symm,by omega⟩
theorem eQ(n:Int):(kj 0 n).length=n.toNat:=by simp[kj]
theorem mJ{xs:LD}{i:Int}(h0:0<=i)(h1:i<xs.length):∃x,x∈xs/\tH xs i=some x:=by
 have h2:i.toNat<xs.length:=by omega
 refine⟨xs[i.toNat],List.getElem_mem h2,?_⟩
 unfold tH Ay
 rw[if_pos h0,if_pos h1]
 simp[h2]
inductive Fits:D->Prop
 | non:Fits .non
 | bl (b:Bool):Fits (.bl b)
 | int (i:Int):Fits (.int i)
 | str (x:Str):Fits (.str x)
 | tup {xs:LD}:xs.length<=1000->(∀x∈xs,Fits x)->Fits (.tup xs)
end HW
namespace HW
open PySem PySem.Spec PyProof.Rows L2
def BA(x:Str):It:=⟨fun i _=>i<x.cps.size,fun i H v H'=>H'=H/\∃c,x.cps[i]?=some c/\v=.str ⟨#[c]⟩,fun i _=>x.cps.size<=i⟩
theorem xt{P:Program}{w:World}{K:W.Frag}{tg:Expr}(it:Addr)(x:Str)(t:Tok):Turn P w K tg (BA x) [it] it (fun i h=>h.IsStrIter it "str_ascii_iterator" x t i) where
 mem:=by simp
 obj:=fun i h st b hb=>by
  have e:b=it:=by simpa using hb
  subst e
  obtain⟨o,e,c,d⟩:=st
  exact⟨o,e,fun v z=>by rw[d] at z;cases z⟩
 keep:=fun i h h' st k=>by
  obtain⟨o,e,r⟩:=st
  exact⟨o,k it (by simp) o e,r⟩
 item:=by
  intro X hP hw hK hc i pins s σ H E I hf st hg
  subst hP hw hK
  have hg':i<x.cps.size:=hg
  obtain⟨f0,f1,f2,f3,f4,f5⟩:=hf it (by simp)
  refine wpAny_pyNext_ascii_item st (c:=x.cps[i]) (by simp[hg']) fun h' st' sb=>?_
  have I1:L2.Inv X pins σ H {s with heap:=h',toks:=s.toks+1}:=I.turned (t':=s.toks+1) (fun b o hb e=>(sb.2 b hb).trans e) f0 f1 f3 f4 f5
  obtain⟨o,e,c,d⟩:=id st'
  exact⟨_,rfl,uZ (s:={s with heap:=h',toks:=s.toks+1}) e c d (by decide) ⟨.str ⟨#[x.cps[i]]⟩,H,I1,⟨_,rfl⟩,⟨rfl,_,by simp[hg'],rfl⟩,st',fun b hb=>(hf b hb).1⟩⟩
 done:=by
  intro X hP hw hK hc i pins s σ H E I hf st hg
  subst hP hw hK
  have hg':x.cps.size<=i:=hg
  obtain⟨f0,f1,f2,f3,f4,f5⟩:=hf it (by simp)
  exact wpAny_pyNext_ascii_end (I.ok.hd hc) st (by simp;omega) fun h' eb=>⟨rfl,I.turned (t':=s.toks) (fun b o hb e=>eb b o hb e) f0 f1 f3 f4 f5⟩
 self:=fun _ _ _ _ _ st h=>wpAny_pyIter_striter_ascii st h
def BY(H:Hp)(k a:Nat)(ks:List Str)(vs:List V):Prop:=match k with
 | 0=>vs.length<=sizeLine/\∃(its:List Value) (n:Nat),i5 vs its/\H a=some (.frz {cls:=.type "list",data:=.seq its.toArray n} (.own 0))
 | 1=>ks.length=vs.length/\H a=some (.dK ((ks.map Sum.inr).zip vs))
 | C+2=>ks.length=vs.length/\∃dx,H a=some (.ins C dx (ks.zip vs))
theorem BY.to{H H':Hp}{k a:Nat}{ks:List Str}{vs:List V}(h:BY H k a ks vs)(e:∀u,H a=some u->(∀ φ,u≠.ext φ)->H' a=some u):BY H' k a ks vs:=by
 match k,h with
 | 0,⟨z,its,n,r,q⟩=>exact⟨z,its,n,r,e _ q fun φ z=>by cases z⟩
 | 1,⟨z,q⟩=>exact⟨z,e _ q fun φ z=>by cases z⟩
 | C+2,⟨z,dx,q⟩=>exact⟨z,dx,e _ q fun φ z=>by cases z⟩
def vk:List ((Int×Int)×Addr×V)->List (List Key×Addr×Value)->Prop:=Paired fun p q=>q.1=[.inl p.1.1,.inl p.1.2]/\q.2.1=p.2.1/\RelV p.2.2 q.2.2
def w8(P:Program)(w:World)(o:Obj)(xs:List ((Int×Int)×Addr×V)):Prop:=xs.length<=sizeLine/\∃qs es ep,vk xs qs/\o.ExactDict/\o.data=.dict es ep/\es.toList=qs.map (entryOfKey (tupleKind (i6 P w)))/\(qs.map (·.1)).Nodup
theorem AM(P P':Program)(w w':World)(i j:Int):tupleKeyHash (i6 P w) [.inl i,.inl j]=tupleKeyHash (i6 P' w') [.inl i,.inl j]:=by
 unfold tupleKeyHash
 have h:∀i:Int,(i6 P w).hash (.inl i)=(i6 P' w').hash (.inl i):=fun _=>rfl
 simp only[List.map_cons,List.map_nil,h]
theorem wg{prog:Program}{w:World}(k:List Key)(a:Addr)(v:Value):entryOfKey (tupleKind (i6 prog w)) (k,a,v)=⟨tupleKeyHash (i6 prog w) k,.ref a,v⟩:=rfl
theorem vk.entries(P P':Program)(w w':World){xs:List ((Int×Int)×Addr×V)}{qs:List (List Key×Addr×Value)}(h:vk xs qs):qs.map (entryOfKey (tupleKind (i6 P w)))=qs.map (entryOfKey (tupleKind (i6 P' w'))):=by
 refine List.map_congr_left fun q hq=>?_
 have:∃i j,q.1=[.inl i,.inl j]:=by
  induction h with
  | nil=>cases hq
  | cons e t ih =>
   rcases List.mem_cons.mp hq with rfl | hq
   ·exact⟨_,_,e.1⟩
   ·exact ih hq
 obtain⟨i,j,e⟩:=this
 obtain⟨k,a,v⟩:=q
 cases (show k=_ from e)
 rw[wg,wg,AM P P' w w']
theorem w8.any{P:Program}{w:World}{o:Obj}{xs:List ((Int×Int)×Addr×V)}(h:w8 P w o xs)(P':Program)(w':World):w8 P' w' o xs:=by
 obtain⟨z,qs,es,ep,h1,h2,h3,h4,h5⟩:=h
 exact⟨z,qs,es,ep,h1,h2,h3,by rw[h4];exact vk.entries P P' w w' h1,h5⟩
def pz(K:W.Frag)(H:Hp):List (Int×Int)->List Addr->Prop
 | [],as=>as=[]
 | k::ks,as=>∃a r,as=a::r/\kD K H a [.int k.1,.int k.2]/\pz K H ks r
def xS(K:W.Frag)(H:Hp)(a:Addr)(ks:List (Int×Int))(kas:List Addr)(xs:List V):Prop:=((a==sysModules)=false/\pz K H ks kas/\kas.length=xs.length)/\∃o P w,H a=some (.frz o (.own 0))/\w8 P w o (ks.zip (kas.zip xs))
theorem pz.to{K:W.Frag}{H H':Hp}(s:∀a xs,kD K H a xs->kD K H' a xs):∀{ks:List (Int×Int)} {kas:List Addr},pz K H ks kas->pz K H' ks kas
 | [],_,h=>h
 | k::ks,_,h=>by
  obtain⟨a,r,e,q,t⟩:=h
  exact⟨a,r,e,s _ _ q,pz.to s t⟩
theorem xS.to{K:W.Frag}{H H':Hp}{a:Addr}{ks:List (Int×Int)}{kas:List Addr}{xs:List V}(h:xS K H a ks kas xs)(s:∀a xs,kD K H a xs->kD K H' a xs)(s2:∀o u,H a=some (.frz o u)->H' a=some (.frz o u)):xS K H' a ks kas xs:=by
 obtain⟨⟨h1,h2,h3⟩,o,P,w,h4,h5⟩:=h
 exact⟨⟨h1,h2.to s,h3⟩,o,P,w,s2 _ _ h4,h5⟩
mutual
def Rep(K:W.Frag)(H:Hp):D->V->Prop
 | .non,v=>v=.non
 | .bl b,v=>v=.bl b
 | .int i,v=>v=.int i
 | .str x,v=>v=.str x
 | .tup ds,v=>∃a xs,v=.ref a/\kD K H a xs/\iU K H ds xs
 | .lst ds,v=>∃a xs,v=.ref a/\H a=some (.lst xs)/\iU K H ds xs
 | .fro ds,v=>∃a xs,v=.ref a/\k4 K H a xs/\iU K H ds xs
 | .obj k a ks ds,v=>v=.ref a
 | .cl t a ds,v=>v=.ref a/\∃cl xs pm ctv c',H a=some (lV (W.kla_obj "<lambda>" t.q t.params t.body t.scope cl pm c' ctv))/\H c'=some (.tbl t.q true)/\lb t.N t.ps t.scope cl/\mt H t.N t.ps cl xs/\iU K H ds xs
 | .dct ks ds,v=>∃a xs,v=.ref a/\(ks.length=xs.length/\∃o,H a=some (.frz o (.dK (ks.zip xs))))/\iU K H ds xs
 | .dcp ks ds,v=>∃a kas xs,v=.ref a/\xS K H a ks kas xs/\iU K H ds xs
def iU(K:W.Frag)(H:Hp):LD->List V->Prop
 | [],vs=>vs=[]
 | d::ds,vs=>∃v r,vs=v::r/\Rep K H d v/\iU K H ds r
end
theorem yP{K:W.Frag}{H H':Hp}{a:Addr}{xs:List V}(e:iX H H')(h:kD K H a xs):kD K H' a xs:=by
 rcases h with (h | ⟨o,h⟩) | h
 ·exact .inl (.inl (e _ _ h))
 ·exact .inl (.inr ⟨o,e _ _ h⟩)
 ·exact .inr h
mutual
theorem Rep.mono{K:W.Frag}{H H':Hp}(s:iX H H'):∀{d:D} {v:V},Rep K H d v->Rep K H' d v
 | .non,_,h=>h
 | .bl _,_,h=>h
 | .int _,_,h=>h
 | .str _,_,h=>h
 | .tup ds,_,h=>by
  obtain⟨a,xs,e,q,r⟩:=h
  exact⟨a,xs,e,yP s q,iU.mono s r⟩
 | .lst ds,_,h=>by
  obtain⟨a,xs,e,q,r⟩:=h
  exact⟨a,xs,e,s _ _ q,iU.mono s r⟩
 | .fro ds,_,h=>by
  obtain⟨a,xs,e,q,r⟩:=h
  exact⟨a,xs,e,s.seq q,iU.mono s r⟩
 | .obj ..,_,h=>h
 | .dct ks ds,_,h=>by
  obtain⟨a,xs,e,q,r⟩:=h
  exact⟨a,xs,e,⟨q.1,let ⟨o,z⟩:=q.2;⟨o,s _ _ z⟩⟩,iU.mono s r⟩
 | .dcp ks ds,_,h=>by
  obtain⟨a,kas,xs,e,q,r⟩:=h
  exact⟨a,kas,xs,e,q.to (fun _ _=>yP s) fun o u z=>s _ _ z,iU.mono s r⟩
 | .cl t a ds,_,h=>by
  obtain⟨e,cl,xs,pm,ctv,c',h1,h2,h3,h4,r⟩:=h
  exact⟨e,cl,xs,pm,ctv,c',s _ _ h1,s _ _ h2,h3,h4.to fun b o z=>s _ _ z,iU.mono s r⟩
theorem iU.mono{K:W.Frag}{H H':Hp}(s:iX H H'):∀{ds:LD} {vs:List V},iU K H ds vs->iU K H' ds vs
 | [],_,h=>h
 | d::ds,_,h=>by
  obtain⟨v,r,e,q,t⟩:=h
  exact⟨v,r,e,Rep.mono s q,iU.mono s t⟩
end
section
variable{K:W.Frag}{H:Hp}
theorem iU.length:∀{ds:LD} {vs:List V},iU K H ds vs->ds.length=vs.length
 | [],_,h=>by cases (show _=[] from h);rfl
 | d::ds,_,h=>by
  obtain⟨v,r,e,q,t⟩:=h
  subst e
  simp[iU.length t]
theorem iU.get:∀{ds:LD} {vs:List V} {i:Nat} {d:D},iU K H ds vs->ds[i]?=some d->∃v,vs[i]?=some v/\Rep K H d v
 | [],_,_,_,_,e=>by simp at e
 | d::ds,_,0,_,h,e=>by
  obtain⟨v,r,e',q,t⟩:=h
  subst e'
  simp at e
  subst e
  exact⟨v,by simp,q⟩
 | d::ds,_,i+1,_,h,e=>by
  obtain⟨v,r,e',q,t⟩:=h
  subst e'
  obtain⟨u,h1,h2⟩:=iU.get (i:=i) t (by simpa using e)
  exact⟨u,by simpa using h1,h2⟩
theorem iU.append:∀{ds es:LD} {vs us:List V},iU K H ds vs->iU K H es us->iU K H (ds++es) (vs++us)
 | [],_,_,_,h,t=>by cases (show _=[] from h);exact t
 | d::ds,_,_,_,h,t=>by
  obtain⟨v,r,e',q,t'⟩:=h
  subst e'
  exact⟨v,_,rfl,q,iU.append t' t⟩
theorem iU.drop:∀(n:Nat) {ds:LD} {vs:List V},iU K H ds vs->iU K H (ds.drop n) (vs.drop n)
 | 0,_,_,h=>by simpa using h
 | n+1,[],_,h=>by cases (show _=[] from h);exact rfl
 | n+1,d::ds,_,h=>by
  obtain⟨v,r,e',q,t'⟩:=h
  subst e'
  simpa using iU.drop n t'
theorem iU.take:∀(n:Nat) {ds:LD} {vs:List V},iU K H ds vs->iU K H (ds.take n) (vs.take n)
 | 0,_,_,h=>by simp only[List.take_zero];exact rfl
 | n+1,[],_,h=>by cases (show _=[] from h);exact rfl
 | n+1,d::ds,_,h=>by
  obtain⟨v,r,e',q,t'⟩:=h
  subst e'
  rw[List.take_succ_cons,List.take_succ_cons]
  exact⟨v,_,rfl,q,iU.take n t'⟩
theorem iU.one{d:D}{v:V}(h:Rep K H d v):iU K H [d] [v]:=⟨v,[],rfl,h,rfl⟩
theorem iU.nil:iU K H [] []:=rfl
theorem iU.cons{d:D}{v:V}{ds:LD}{vs:List V}(h:Rep K H d v)(t:iU K H ds vs):iU K H (d::ds) (v::vs):=⟨v,vs,rfl,h,t⟩
theorem iU.reverse:∀{ds:LD} {vs:List V},iU K H ds vs->iU K H ds.reverse vs.reverse
 | [],_,h=>by cases (show _=[] from h);exact rfl
 | d::ds,_,h=>by
  obtain⟨v,r,e',q,t'⟩:=h
  subst e'
  rw[List.reverse_cons,List.reverse_cons]
  exact iU.append (iU.reverse t') (iU.one q)
theorem iU.rep{ds:LD}{vs:List V}(h:iU K H ds vs):∀n:Nat,iU K H (List.replicate n ds).flatten (List.replicate n vs).flatten
 | 0=>rfl
 | n+1=>by
  rw[List.replicate_succ,List.replicate_succ,List.flatten_cons,List.flatten_cons]
  exact h.append (iU.rep h n)
def jK(K:W.Frag)(H:Hp)(ρ:R)(σ:L2.St):Prop:=ρ.length<=σ.length/\∀(i:Nat) (d:D),ρ[i]?=some (some d)->∃v,σ[i]?=some (some v)/\Rep K H d v
theorem jK.mono{H':Hp}{ρ:R}{σ:L2.St}(e:jK K H ρ σ)(s:iX H H'):jK K H' ρ σ:=⟨e.1,fun i d h=>let ⟨v,a,b⟩:=e.2 i d h;⟨v,a,b.mono s⟩⟩
theorem jK.at{ρ:R}{σ:L2.St}(e:jK K H ρ σ){i:Nat}{d:D}(h:iP i ρ=some d):∃v,σ[i]?=some (some v)/\Rep K H d v:=by
 refine e.2 i d ?_
 unfold iP at h
 rw[List.getD_eq_getElem?_getD] at h
 cases q:ρ[i]? with
 | none=>rw[q] at h;cases h
 | some o=>rw[q] at h;cases (show o=some d from h);rfl
theorem jK.set{ρ:R}{σ:L2.St}(e:jK K H ρ σ){i:Nat}{d:D}{v:V}(r:Rep K H d v):jK K H (ρ.set i (some d)) (σ.set i (some v)):=by
 refine⟨by simpa using e.1,fun j c h=>?_⟩
 by_cases hj:i=j
 ·subst hj
  by_cases hi:i<ρ.length
  ·rw[List.getElem?_set_self hi] at h
   cases h
   exact⟨v,by rw[List.getElem?_set_self (Nat.lt_of_lt_of_le hi e.1)],r⟩
  ·rw[List.getElem?_eq_none (by simpa using hi)] at h
   cases h
 ·rw[List.getElem?_set_ne hj] at h ⊢
  exact e.2 j c h
theorem jK.front{ρ:R}{σ:L2.St}(e:jK K H ρ σ)(k:Nat)(τ:L2.St)(hk:τ.length=k):jK K H (List.replicate k none++ρ) (τ++σ):=by
 subst hk
 refine⟨by simpa using e.1,fun i d h=>?_⟩
 by_cases hi:i<τ.length
 ·rw[List.getElem?_append_left (by simpa using hi),List.getElem?_replicate] at h
  split at h<;>cases h
 ·rw[List.getElem?_append_right (by simpa using hi),List.length_replicate] at h
  rw[List.getElem?_append_right (by simpa using hi)]
  exact e.2 _ d h
end
def jC(K:W.Frag)(H:Hp)(ρ:R)(τ:L2.St)(σ:L2.St):Prop:=jK K H ρ σ/\σ.drop ρ.length=τ
theorem jK.t{K:W.Frag}{H:Hp}{ρ:R}{σ:L2.St}(e:jK K H ρ σ):jC K H ρ (σ.drop ρ.length) σ:=⟨e,rfl⟩
theorem jC.mono{K:W.Frag}{H H':Hp}{ρ:R}{τ σ:L2.St}(e:jC K H ρ τ σ)(s:iX H H'):jC K H' ρ τ σ:=⟨e.1.mono s,e.2⟩
theorem jC.set{K:W.Frag}{H:Hp}{ρ:R}{τ σ:L2.St}(e:jC K H ρ τ σ){i:Nat}{d:D}{v:V}(hi:i<ρ.length)(r:Rep K H d v):jC K H (ρ.set i (some d)) τ (σ.set i (some v)):=by
 refine⟨e.1.set r,?_⟩
 rw[List.length_set,List.drop_set_of_lt hi]
 exact e.2
section
variable(K:W.Frag)
def tD(f:R->OD):TE:=fun σ H Q=>∃ ρ d,jK K H ρ σ/\f ρ=some d/\∀v H',iX H H'->Rep K H' d v->Q v H'
def Bs(f:R->Option Bool):TT:=fun σ H Q=>∃ ρ b,jK K H ρ σ/\f ρ=some b/\∀H',iX H H'->Q b H'
def CJ(f:R->Option LD):TA:=fun σ H Q=>∃ ρ ds,jK K H ρ σ/\f ρ=some ds/\∀vs H',iX H H'->iU K H' ds vs->Q vs H'
def CP(f:R->Option (Option Int)):TO:=fun σ H Q=>∃ ρ o,jK K H ρ σ/\f ρ=some o/\∀H',iX H H'->Q o H'
def fin(E:Ends)(τ:L2.St)(o:Out)(H':Hp):Prop:=
 match o with
 | .nx ρ=>∀ σ,jC K H' ρ τ σ->E.nx σ H'
 | .rt d=>∀v,Rep K H' d v->E.rt v H'
 | .bk ρ=>∀ σ,jC K H' ρ τ σ->E.bk σ H'
 | .ct ρ=>∀ σ,jC K H' ρ τ σ->E.ct σ H'
def AG(f:R->Option Out):TS:=fun E σ H=>∃ ρ τ o,jC K H ρ τ σ/\f ρ=some o/\∀H',iX H H'->fin K E τ o H'
def CC(st:D->R->Option R):TG:=fun v σ H Q=>∃ ρ τ d ρ',jC K H ρ τ σ/\Rep K H d v/\st d ρ=some ρ'/\∀ σ' H',iX H H'->jC K H' ρ' τ σ'->Q σ' H'
def B3(sts:List (D->R->Option R)):x6:=fun vs σ H Q=>∃ ρ τ ds ρ',jC K H ρ τ σ/\iU K H ds vs/\sC sts ds ρ=some ρ'/\∀ σ' H',iX H H'->jC K H' ρ' τ σ'->Q σ' H'
def Kp(H H':Hp):Prop:=∀b u,H b=some u->(∀ φ,u≠.ext φ)->H' b=some u
def k9(J:It)(ds:LD)(H:Hp):Prop:=
 (∀(i:Nat) (d:D) (H2:Hp),Kp H H2->ds[i]?=some d->J.go i H2/\∀x H3,J.yld i H2 x H3->iX H2 H3/\Rep K H3 d x)/\∀(i:Nat) (H2:Hp),Kp H H2->ds.length<=i->J.stop i H2
def CU(f:R->Option LD):TI:=fun σ H W=>∃ ρ ds,jK K H ρ σ/\f ρ=some ds/\∀J H',iX H H'->k9 K J ds H'->W J H'
def pC(F:LD->OD):Sp:=fun vs H Q _=>∃ds d,iU K H ds vs/\F ds=some d/\∀v H',iX H H'->Rep K H' d v->Q v H'
end
def SE(X:Cx)(e:Expr)(f:R->OD):Prop:=PE X e (tD X.K f)
def ST(X:Cx)(e:Expr)(f:R->Option Bool):Prop:=PT X e (Bs X.K f)
def noStar:Expr->Bool
 | .Starred _ _=>false
 | _=>true
theorem aw{e:Expr}(es:List Expr)(env:Env)(h:noStar e=true):starEach (e::es) env=(false,eval e env)::starEach es env:=by
 cases e<;>first | rfl | cases h
theorem aZ{pos:Pos}{env:Env}:∀{es:List Expr},es.all noStar=true->(backTo pos (starEach es env)).any (·.1)=false
 | [],_=>rfl
 | e::es,h=>by
  rw[List.all_cons,Bool.and_eq_true] at h
  rw[aw es env h.1]
  show(false||(backTo pos (starEach es env)).any (·.1))=false
  rw[aZ h.2]
  rfl
def SA(X:Cx)(es:List Expr)(f:R->Option LD):Prop:=PA X es (CJ X.K f)/\(∀ ρ ds,f ρ=some ds->ds.length=es.length)/\es.all noStar=true
def SO(X:Cx)(e:Option Expr)(f:R->Option (Option Int)):Prop:=PO X e (CP X.K f)
def S1(X:Cx)(s:Stmt)(f:R->Option Out):Prop:=PS X s (AG X.K f)
def SS(X:Cx)(s:List Stmt)(f:R->Option Out):Prop:=PSs X s (AG X.K f)
def SG(X:Cx)(e:Expr)(st:D->R->Option R):Prop:=PG X e (CC X.K st)
def By(X:Cx)(es:List Expr)(sts:List (D->R->Option R)):Prop:=PGs X es (B3 X.K sts)
def SI(X:Cx)(tg iter:Expr)(f:R->Option LD):Prop:=PI X tg iter (CU X.K f)
section
variable{X:Cx}{e a b c:Expr}{es:List Expr}{pos p:Pos}
theorem _root_.L2.PE.imp{t t':TE}(h:PE X e t)(hi:∀ σ H Q,t' σ H Q->t σ H Q):PE X e t':=fun pins s σ H Q I q=>h pins s σ H Q I (hi σ H Q q)
theorem _root_.L2.PT.imp{t t':TT}(h:PT X e t)(hi:∀ σ H Q,t' σ H Q->t σ H Q):PT X e t':=fun pins s σ H Q I q=>h pins s σ H Q I (hi σ H Q q)
theorem _root_.L2.PW.imp{t t':TT}(h:PW X e t)(hi:∀ σ H Q,t' σ H Q->t σ H Q):PW X e t':=fun wh pins s σ H Q I q=>h wh pins s σ H Q I (hi σ H Q q)
theorem _root_.L2.PA.imp{t t':TA}(h:PA X es t)(hi:∀ σ H Q,t' σ H Q->t σ H Q):PA X es t':=fun pos pins s σ H Q I q=>h pos pins s σ H Q I (hi σ H Q q)
theorem _root_.L2.PO.imp{e:Option Expr}{t t':TO}(h:PO X e t)(hi:∀ σ H Q,t' σ H Q->t σ H Q):PO X e t':=fun pins s σ H Q I q=>h pins s σ H Q I (hi σ H Q q)
theorem _root_.L2.PS.imp{s:Stmt}{t t':TS}(h:PS X s t)(hi:∀E σ H,t' E σ H->t E σ H):PS X s t':=fun pins s σ H E I q=>h pins s σ H E I (hi E σ H q)
theorem _root_.L2.PSs.imp{s:List Stmt}{t t':TS}(h:PSs X s t)(hi:∀E σ H,t' E σ H->t E σ H):PSs X s t':=fun pins s σ H E I q=>h pins s σ H E I (hi E σ H q)
theorem _root_.L2.PG.imp{t t':TG}(h:PG X e t)(hi:∀v σ H Q,t' v σ H Q->t v σ H Q):PG X e t':=fun pins s σ H v u Q I r q=>h pins s σ H v u Q I r (hi v σ H Q q)
theorem _root_.L2.PGs.imp{t t':x6}(h:PGs X es t)(hi:∀v σ H Q,t' v σ H Q->t v σ H Q):PGs X es t':=fun pins s σ H v u Q I r q=>h pins s σ H v u Q I r (hi v σ H Q q)
theorem _root_.L2.PI.imp{tg:Expr}{t t':TI}(h:PI X tg e t)(hi:∀ σ H Q,t' σ H Q->t σ H Q):PI X tg e t':=fun pins s σ H W I q=>h pins s σ H W I (hi σ H W q)
theorem iS{α β:Type}{o:Option α}{f:α->Option β}{y:β}(h:o.bind f=some y):∃x,o=some x/\f x=some y:=by
 cases o with
 | none=>cases h
 | some x=>exact⟨x,rfl,h⟩
theorem jS{α β:Type}{o:Option α}{f:α->β}{y:β}(h:o.map f=some y):∃x,o=some x/\f x=y:=by
 cases o with
 | none=>cases h
 | some x=>exact⟨x,rfl,Option.some.inj h⟩
theorem ac(i:Nat){x:Str}(hN:X.N[i]?=some x:=by rfl)(hv:rN X.env.scope x:=by first | exact Or.inl rfl | exact Or.inr (Or.inl rfl) | exact Or.inr (Or.inr rfl))(hd:(x==("__debug__" : Str))=false:=by decide)
  (hcd:(x==("__classdict__" : Str))=false:=by decide):SE X (.Name x pos) (iP i):=(eI hN hv hd hcd).imp fun σ H Q ⟨ρ,d,er,e,q⟩=>by
 obtain⟨v,h1,h2⟩:=er.at e
 exact⟨v,h1,q v H (iX.refl H) h2⟩
theorem ag{i j}:SE X (.Constant (.int i) j pos) (kI i):=zy.imp fun σ H Q ⟨ρ,d,er,e,q⟩=>by
 cases e
 exact q _ H (iX.refl H) rfl
theorem iJ{b j}:SE X (.Constant (.bool b) j pos) (fun _=>some (.bl b)):=AT.imp fun σ H Q ⟨ρ,d,er,e,q⟩=>by
 cases e
 exact q _ H (iX.refl H) rfl
theorem aE{x j}:SE X (.Constant (.str x) j pos) (fun _=>some (.str x)):=Ae.imp fun σ H Q ⟨ρ,d,er,e,q⟩=>by
 cases e
 exact q _ H (iX.refl H) rfl
def Bx(K:W.Frag)(mg:Str->Option Value)(x:Str)(d:D):Prop:=∃u v,mg x=some u/\RelV v u/\∀H,Rep K H d v
theorem fG{x:Str}{d:D}(h:Bx X.K X.mg x d)(hg:Gl X x:=by rfl)(hd:(x==("__debug__" : Str))=false:=by decide):SE X (.Name x pos) (fun _=>some d):=by
 obtain⟨u,v,hm,r,hr⟩:=h
 exact(gD hg hm r hd).imp fun σ H Q ⟨ρ,d',er,e,q⟩=>by
  cases e
  exact q v H (iX.refl H) (hr H)
def zw(X:Cx)(f:Value->Value->Sem Value)(F:D->D->OD):Prop:=
 OpR X f fun x y H Q=>∃dx dy d,Rep X.K H dx x/\Rep X.K H dy y/\F dx dy=some d/\∀v H',iX H H'->Rep X.K H' d v->Q v H'
def xN(X:Cx)(op:CmpOp)(F:D->D->Option Bool):Prop:=
 OpR X (compareOp op) fun x y H Q=>∃dx dy b,Rep X.K H dx x/\Rep X.K H dy y/\F dx dy=some b/\Q (.bl b) H
def zZ(X:Cx)(f:Value)(F:LD->OD):Prop:=
 CallR X f fun xs H Q=>∃ds d,iU X.K H ds xs/\F ds=some d/\∀v H',iX H H'->Rep X.K H' d v->Q v H'
theorem _root_.L2.OpR.imp{f:Value->Value->Sem Value}{r r':R2}(h:OpR X f r)(hi:∀x y H Q,r' x y H Q->r x y H Q):OpR X f r':=fun pins s σ H x y v u Q I rx ry q=>h pins s σ H x y v u Q I rx ry (hi x y H Q q)
theorem _root_.L2.UnR.imp{f:Value->Sem Value}{r r':V->Hp->VK->Prop}(h:UnR X f r)(hi:∀x H Q,r' x H Q->r x H Q):UnR X f r':=fun pins s σ H x v Q I rx q=>h pins s σ H x v Q I rx (hi x H Q q)
theorem _root_.L2.CallR.imp{f:Value}{r r':List V->Hp->VK->Prop}(h:CallR X f r)(hi:∀x H Q,r' x H Q->r x H Q):CallR X f r':=fun pins s σ H xs us Q I rx q=>h pins s σ H xs us Q I rx (hi xs H Q q)
variable{f g h:R->OD}
theorem two{σ:L2.St}{H:Hp}{Q:VK}{F:D->D->OD}(q:tD X.K (iY F f g) σ H Q) :
  tD X.K f σ H fun x H1=>tD X.K g σ H1 fun y H2=>∃dx dy d,Rep X.K H2 dx x/\Rep X.K H2 dy y/\F dx dy=some d/\∀v H',iX H2 H'->Rep X.K H' d v->Q v H':=by
 obtain⟨ρ,d,er,e,q⟩:=q
 obtain⟨x,e1,e⟩:=iS e
 obtain⟨y,e2,e⟩:=iS e
 exact⟨ρ,x,er,e1,fun v H1 s1 r1=>⟨ρ,y,er.mono s1,e2,fun u H2 s2 r2=>⟨x,y,d,r1.mono s2,r2,e,fun w H3 s3 r3=>q w H3 (s1.trans (s2.trans s3)) r3⟩⟩⟩
theorem aq{op:Operator}{F:D->D->OD}(ho:zw X (binaryOp op) F)(ha:SE X a f)(hb:SE X b g):SE X (.BinOp a op b pos) (iY F f g):=(g_ ho ha hb).imp fun σ H Q q=>two q
theorem BC{σ:L2.St}{H:Hp}{Q:Bool->Hp->Prop}{F:D->D->Option Bool}(q:Bs X.K (jV F f g) σ H Q) :
  tD X.K f σ H fun x H1=>tD X.K g σ H1 fun y H2=>∃dx dy b,Rep X.K H2 dx x/\Rep X.K H2 dy y/\F dx dy=some b/\Q b H2:=by
 obtain⟨ρ,d,er,e,q⟩:=q
 obtain⟨x,e1,e⟩:=iS e
 obtain⟨y,e2,e⟩:=iS e
 exact⟨ρ,x,er,e1,fun v H1 s1 r1=>⟨ρ,y,er.mono s1,e2,fun u H2 s2 r2=>⟨x,y,d,r1.mono s2,r2,e,q H2 (s1.trans s2)⟩⟩⟩
theorem zl{σ:L2.St}{H:Hp}{Q:VK}{f:R->Option Bool}(q:tD X.K (tV f) σ H Q):Bs X.K f σ H fun b H'=>Q (.bl b) H':=by
 obtain⟨ρ,d,er,e,q⟩:=q
 obtain⟨x,e1,e⟩:=jS e
 subst e
 exact⟨ρ,x,er,e1,fun H1 s1=>q _ H1 s1 rfl⟩
theorem dz{op:CmpOp}{F:D->D->Option Bool}(ho:xN X op F)(ha:SE X a f)(hb:SE X b g)(hm:behindInMarks op b=false:=by first | exact wY _ | with_unfolding_all rfl) :
  SE X (.Compare a [op] [b] pos) (tV (jV F f g)):=(gJ ho ha hb hm).imp fun σ H Q q=>BC (zl q)
theorem bT{op:CmpOp}{F:D->D->Option Bool}(ho:xN X op F)(ha:SE X a f)(hb:SE X b g)(hm:behindInMarks op b=false:=by first | exact wY _ | with_unfolding_all rfl) :
  ST X (.Compare a [op] [b] pos) (jV F f g):=(gW ho ha hb hm).imp fun σ H Q q=>by
 obtain⟨ρ,d,er,e,q⟩:=q
 obtain⟨x,e1,e⟩:=iS e
 obtain⟨y,e2,e⟩:=iS e
 exact⟨ρ,x,er,e1,fun v H1 s1 r1=>⟨ρ,y,er.mono s1,e2,fun u H2 s2 r2=>⟨x,y,d,r1.mono s2,r2,e,d,rfl,q H2 (s1.trans s2)⟩⟩⟩
variable{s t:R->Option Bool}{rest:List Expr}
variable{F:R->Option LD}
theorem ad:SA X [] iQ:=⟨xi.imp fun σ H Q ⟨ρ,d,er,e,q⟩=>by cases e;exact q [] H (iX.refl H) rfl,fun ρ ds e=>by cases e;rfl,rfl⟩
theorem aa(ha:SE X e f)(hr:SA X es F)(hs:noStar e=true:=by rfl):SA X (e::es) (e8 f F):=⟨(dO ha hr.1 (aw es X.env hs)).imp fun σ H Q ⟨ρ,ds,er,e,q⟩=>by
 obtain⟨x,e1,e⟩:=iS e
 obtain⟨y,e2,e⟩:=jS e
 subst e
 exact⟨ρ,x,er,e1,fun v H1 s1 r1=>⟨ρ,y,er.mono s1,e2,fun vs H2 s2 r2=>q _ H2 (s1.trans s2) (iU.cons (r1.mono s2) r2)⟩⟩,fun ρ ds e=>by
 obtain⟨x,e1,e⟩:=iS e
 obtain⟨y,e2,e⟩:=jS e
 subst e
 simp[hr.2.1 ρ y e2],by rw[List.all_cons,hs,hr.2.2];rfl⟩
theorem aH{H:Hp}{p:Addr}(h:H p=none)(o:HO):iX H (upd H p o):=fun b u q=>by rw[ai (j2 q h)];exact q
theorem au{k}(h:SA X es F)(hl:Nat.ble es.length 1000=true:=by rfl):SE X (.Tuple es k pos) (ja F):=(iu h.1).imp fun σ H Q ⟨ρ,d,er,e,q⟩=>by
 obtain⟨ds,e1,e⟩:=jS e
 subst e
 refine⟨ρ,ds,er,e1,fun vs H1 s1 r1=>⟨?_,fun p hp=>?_⟩⟩
 ·rw[<- r1.length,h.2.1 ρ ds e1];exact Nat.le_of_lt (nr (Nat.le_of_ble_eq_true hl))
 ·have s2:=aH hp (.tup vs)
  exact q _ _ (s1.trans s2) ⟨p,vs,rfl,kD.of af,r1.mono s2⟩
theorem fN(h:SA X es F)(hl:Nat.ble es.length 1000=true:=by rfl):SE X (.List es pos) (si F):=(cC h.1).imp fun σ H Q ⟨ρ,d,er,e,q⟩=>by
 obtain⟨ds,e1,e⟩:=jS e
 subst e
 refine⟨ρ,ds,er,e1,fun vs H1 s1 r1=>⟨?_,fun p hp=>?_⟩⟩
 ·rw[<- r1.length,h.2.1 ρ ds e1];exact Nat.le_of_lt (nr (Nat.le_of_ble_eq_true hl))
 ·have s2:=aH hp (.lst vs)
  exact q _ _ (s1.trans s2) ⟨p,vs,rfl,af,r1.mono s2⟩
structure kY (P:Program) (w:World) (K:W.Frag) (mg:Str->Option Value) (base:Heap) (k:Nat) (x:Str) (ps:List Str) (F:LD->OD):Prop where
 ex:∃f fd,jl P w K mg base kR k f fd ps (pC K F)/\mg x=some (.ref f)/\W.keepIn K (.ref f)=true/\Binds K fd ps []
theorem kY.mono{P:Program}{w:World}{K:W.Frag}{mg:Str->Option Value}{base:Heap}{j k:Nat}{x:Str}{ps:List Str}{F:LD->OD}(h:kY P w K mg base j x ps F)(hk:j<=k):kY P w K mg base k x ps F:=by
 obtain⟨f,fd,a,b⟩:=h.ex
 exact⟨f,fd,a.mono hk,b⟩
theorem kY.imp{P:Program}{w:World}{K:W.Frag}{mg:Str->Option Value}{base:Heap}{k:Nat}{x:Str}{ps:List Str}{F G:LD->OD}(h:kY P w K mg base k x ps F)(hi:∀ds d,G ds=some d->F ds=some d):kY P w K mg base k x ps G:=by
 obtain⟨f,fd,a,b⟩:=h.ex
 exact⟨f,fd,a.imp fun vs H Q E ⟨ds,d,r,e,q⟩=>⟨ds,d,r,hi ds d e,q⟩,b⟩
theorem aC{k:Nat}{x:Str}{ps:List Str}{G:LD->OD}(C:kY X.prog X.w X.K X.mg X.base k x ps G)(hr:jo k X.A)(ha:SA X (e::es) F)(hg:Gl X x:=by rfl)
  (hdb:(x==("__debug__" : Str))=false:=by decide) :
  SE X (.Call (.Name x p) (e::es) [] pos) (iR G F):=by
 have hst:=ha.2.2
 rw[List.all_cons,Bool.and_eq_true] at hst
 have he:=aw es X.env hst.1
 have hpl:=aZ (pos:=pos) (env:=X.env) hst.2
 obtain⟨f,fd,a,m,kp,bd⟩:=C.ex
 refine(dv a hr hg m kp bd .nil sF ha.1 hdb he hpl).imp fun σ H Q ⟨ρ,d,er,e,q⟩=>?_
 obtain⟨ds,e1,e⟩:=iS e
 exact⟨ρ,ds,er,e1,fun vs H1 s1 r1=>⟨ds,d,by rw[List.append_nil];exact r1,e,fun v H2 s2 r2=>q v H2 (s1.trans s2) r2⟩⟩
theorem ba{x:Str}{id:String}{G:LD->OD}(hc:zZ X (.builtin id) G)(hm:X.mg x=none)(ha:SA X (e::es) F)(hv:bootBuiltins x=some (.builtin id):=by kernel_rfl)(hg:Gl X x:=by rfl)(hn:x ≠ "__name__":=by decide)(hdb:(x==("__debug__" : Str))=false:=by decide):SE X (.Call (.Name x p) (e::es) [] pos) (iR G F):=
 (fI hc hg hm hv ha.1 hn hdb (aw es X.env (List.all_eq_true.mp ha.2.2 e List.mem_cons_self)) (aZ (List.all_eq_true.mpr fun x hx=>List.all_eq_true.mp ha.2.2 x (List.mem_cons_of_mem _ hx)))).imp fun σ H Q ⟨ρ,d,er,e,q⟩=>by
  obtain⟨ds,e1,e⟩:=iS e
  exact⟨ρ,ds,er,e1,fun vs H1 s1 r1=>⟨ds,d,r1,e,fun v H2 s2 r2=>q v H2 (s1.trans s2) r2⟩⟩
theorem bg{x:Str}{T:String}{G:LD->OD}(hc:zZ X (.type T) G)(hm:X.mg x=none)(ha:SA X (e::es) F)(hv:bootBuiltins x=some (.type T):=by kernel_rfl)(hg:Gl X x:=by rfl)(hn:x ≠ "__name__":=by decide)(hdb:(x==("__debug__" : Str))=false:=by decide):SE X (.Call (.Name x p) (e::es) [] pos) (iR G F):=
 (fh hc hg hm hv ha.1 hn hdb (aw es X.env (List.all_eq_true.mp ha.2.2 e List.mem_cons_self)) (aZ (List.all_eq_true.mpr fun x hx=>List.all_eq_true.mp ha.2.2 x (List.mem_cons_of_mem _ hx)))).imp fun σ H Q ⟨ρ,d,er,e,q⟩=>by
  obtain⟨ds,e1,e⟩:=iS e
  exact⟨ρ,ds,er,e1,fun vs H1 s1 r1=>⟨ds,d,r1,e,fun v H2 s2 r2=>q v H2 (s1.trans s2) r2⟩⟩
def CQ(X:Cx)(F:D->D->OD):Prop:=IxR X fun x y H Q=>∃dx dy d,Rep X.K H dx x/\Rep X.K H dy y/\F dx dy=some d/\∀v H',iX H H'->Rep X.K H' d v->Q v H'
theorem _root_.L2.IxR.imp{r r':R2}(h:IxR X r)(hi:∀x y H Q,r' x y H Q->r x y H Q):IxR X r':=fun value slice pins s σ H x y v u Q I rx ry q hs=>h value slice pins s σ H x y v u Q I rx ry (hi x y H Q q) hs
theorem Ac(n:Nat)(i:Int):Ay n i=AK n i:=rfl
theorem qP{K:W.Frag}{H:Hp}{ds:LD}{xs:List V}{i:Int}{d:D}(r:iU K H ds xs)(e:tH ds i=some d):∃v,zi xs i=some v/\Rep K H d v:=by
 obtain⟨j,e1,e2⟩:=iS e
 obtain⟨v,h1,h2⟩:=r.get e2
 refine⟨v,?_,h2⟩
 unfold zi
 rw[<- r.length,<- Ac,e1]
 exact h1
theorem BV:CQ X i4:=(yg.or (zH.or Ak)).imp fun x y H Q ⟨dx,dy,d,r1,r2,e,q⟩=>by
 cases dx with
 | tup ds =>
  cases dy with
  | int i =>
   obtain⟨a,xs,e1,hq,t⟩:=r1
   cases (show y=_ from r2)
   obtain⟨v,h1,h2⟩:=qP t e
   exact .inr (.inl ⟨a,xs,i,v,e1,rfl,hq,h1,q v H (iX.refl H) h2⟩)
  | _=>cases e
 | lst ds =>
  cases dy with
  | int i =>
   obtain⟨a,xs,e1,hq,t⟩:=r1
   cases (show y=_ from r2)
   obtain⟨v,h1,h2⟩:=qP t e
   exact .inl ⟨a,xs,i,v,e1,rfl,k4.of hq,h1,q v H (iX.refl H) h2⟩
  | _=>cases e
 | fro ds =>
  cases dy with
  | int i =>
   obtain⟨a,xs,e1,hq,t⟩:=r1
   cases (show y=_ from r2)
   obtain⟨v,h1,h2⟩:=qP t e
   exact .inl ⟨a,xs,i,v,e1,rfl,hq,h1,q v H (iX.refl H) h2⟩
  | _=>cases e
 | str z =>
  cases dy with
  | int i =>
   cases (show x=_ from r1)
   cases (show y=_ from r2)
   unfold i4 at e
   dsimp only at e
   split at e
   ·rename_i hz
    obtain⟨c,e1,e2⟩:=jS e
    subst e2
    exact .inr (.inr ⟨z,i,c,rfl,rfl,hz,(by rw[<- e1];rfl),q _ H (iX.refl H) rfl⟩)
   ·cases e
  | _=>cases e
 | _=>cases e
theorem ao(ha:SE X a f)(hb:SE X b g)(hs:uM b:=by intro _ _;rfl):SE X (.Subscript a b pos) (iY i4 f g):=(iH BV ha hb hs).imp fun σ H Q q=>two q
variable{st:Stmt}{sts:List Stmt}{u w:R->Option Out}
theorem ej:SS X [] ox:=ro.imp fun E σ H ⟨ρ,τ,o,er,e,q⟩=>by
 cases e
 exact q H (iX.refl H) σ er
theorem zO{E:Ends}{σ:L2.St}{H:Hp}{K:W.Frag}(q:AG K (jb u w) E σ H):AG K u {E with nx:=AG K w E} σ H:=by
 obtain⟨ρ,τ,o,er,e,q⟩:=q
 obtain⟨o1,e1,e⟩:=iS e
 refine⟨ρ,τ,o1,er,e1,fun H1 s1=>?_⟩
 cases o1 with
 | nx ρ2=>exact fun σ2 er2=>⟨ρ2,τ,o,er2,e,fun H2 s2=>q H2 (s1.trans s2)⟩
 | rt d=>cases e;exact q H1 s1
 | bk ρ2=>cases e;exact q H1 s1
 | ct ρ2=>cases e;exact q H1 s1
theorem al(h1:S1 X st u)(h2:SS X sts w):SS X (st::sts) (jb u w):=(aL h1 h2).imp fun E σ H q=>zO q
theorem aB(h1:S1 X st u):SS X [st] u:=bz h1
theorem a_(ha:SE X a f):S1 X (.Return (some a) pos) (k_ f):=(eD ha).imp fun E σ H ⟨ρ,τ,o,er,e,q⟩=>by
 obtain⟨x,e1,e⟩:=jS e
 subst e
 exact⟨ρ,x,er.1,e1,fun v H1 s1 r1=>q H1 s1 v r1⟩
theorem ii{B1 B2:List Stmt}(hc:ST X c s)(ha:SS X B1 u)(hb:SS X B2 w):S1 X (.If c B1 B2 pos) (xU s u w):=(fu hc ha hb).imp fun E σ H ⟨ρ,τ,o,er,e,q⟩=>by
 obtain⟨x,e1,e⟩:=iS e
 refine⟨ρ,x,er.1,e1,fun H1 s1=>?_⟩
 cases x with
 | true=>rw[if_pos rfl] at e ⊢;exact⟨ρ,τ,o,er.mono s1,e,fun H2 s2=>q H2 (s1.trans s2)⟩
 | false=>rw[if_neg Bool.false_ne_true] at e ⊢;exact⟨ρ,τ,o,er.mono s1,e,fun H2 s2=>q H2 (s1.trans s2)⟩
theorem ae(i:Nat){x:Str}(hN:X.N.Nodup)(hi:X.N[i]?=some x:=by rfl)(hx:Loc X.env.scope x:=by first | exact Or.inl rfl | exact Or.inr rfl)(hf:X.fn x=true\/X.env.scope.names.lookup x=some .local:=by first | exact .inl rfl | exact .inr rfl) :
  SG X (.Name x pos) (setAt i):=(gS hN hi hx hf).imp fun v σ H Q ⟨ρ,τ,d,ρ',er,r,e,q⟩=>by
 unfold setAt at e
 split at e
 ·rename_i hlt
  cases e
  exact q _ H (iX.refl H) (er.set hlt r)
 ·cases e
variable{stf:D->R->Option R}{stfs:List (D->R->Option R)}
theorem br:By X [] []:=yt.imp fun v σ H Q ⟨ρ,τ,ds,ρ',er,r,e,q⟩=>by
 cases ds with
 | nil=>cases e;exact⟨r,q σ H (iX.refl H) er⟩
 | cons d ds=>cases e
theorem ay(h1:SG X e stf)(h2:By X es stfs)(hs:(assignEach (e::es) X.env).map (·.2)=assign e X.env::(assignEach es X.env).map (·.2):=by rfl):By X (e::es) (stf::stfs):=
 (w9 h1 h2 hs).imp fun v σ H Q ⟨ρ,τ,ds,ρ',er,r,e,q⟩=>by
  cases ds with
  | nil=>cases e
  | cons d ds =>
   obtain⟨v1,vr,rfl,r1,rr⟩:=r
   obtain⟨ρ1,e1,e⟩:=iS e
   exact⟨v1,vr,rfl,ρ,τ,d,ρ1,er,r1,e1,fun σ1 H1 s1 er1=>⟨ρ1,τ,ds,ρ',er1,rr.mono s1,e,fun σ2 H2 s2 er2=>q σ2 H2 (s1.trans s2) er2⟩⟩
theorem pZ:∀{fs:List (D->R->Option R)} {ds:LD} {ρ ρ':R},sC fs ds ρ=some ρ'->ds.length=fs.length
 | [],[],_,_,_=>rfl
 | [],_::_,_,_,e=>by cases e
 | _::_,[],_,_,e=>by cases e
 | f::fs,d::ds,_,_,e=>by
  obtain⟨_,_,e⟩:=iS e
  simp[pZ e]
theorem bK{k}(hc:X.calm=true)(h:By X es stfs)(hn:(assignEach es X.env).length=stfs.length:=by rfl)(hst:(assignEach es X.env).findIdx? (·.1)=none:=by rfl):SG X (.Tuple es k pos) (j4 stfs):=
 (iB hc h hn hst).imp fun v σ H Q ⟨ρ,τ,d,ρ',er,r,e,q⟩=>by
  cases d with
  | tup ds =>
   obtain⟨a,xs,e1,hq,t⟩:=r
   exact⟨a,xs,e1,hq,by rw[<- t.length];exact pZ e,ρ,τ,ds,ρ',er,t,e,q⟩
  | _=>cases e
theorem az{tg:Expr}(ha:SE X a f)(hg:SG X tg stf)(hs:swapsWithSole [tg] a pos.line X.env=pure false:=by rfl)(hw:swappedStores [tg] a X.env=pure none:=by rfl)(h1:(assignEach [tg] X.env).map (·.2)=[assign tg X.env]:=by rfl) :
  S1 X (.Assign [tg] a pos) (i9 f stf):=(io ha hg hs hw h1).imp fun E σ H ⟨ρ,τ,o,er,e,q⟩=>by
 obtain⟨x,e1,e⟩:=iS e
 obtain⟨ρ',e2,e⟩:=jS e
 subst e
 exact⟨ρ,x,er.1,e1,fun v H1 s1 r1=>⟨ρ,τ,x,ρ',er.mono s1,r1,e2,fun σ2 H2 s2 er2=>q H2 (s1.trans s2) σ2 er2⟩⟩
theorem Kp.of{H H':Hp}(s:iX H H'):Kp H H':=fun b u e _=>s b u e
theorem Kp.refl(H:Hp):Kp H H:=fun _ _ e _=>e
theorem Kp.seq{K:W.Frag}{H H':Hp}{a:Addr}{xs:List V}(s:Kp H H')(h:k4 K H a xs):k4 K H' a xs:=by
 rcases h with (h | ⟨o,h⟩) | h
 ·exact .inl (.inl (s _ _ h fun φ z=>nomatch z))
 ·exact .inl (.inr ⟨o,s _ _ h fun φ z=>nomatch z⟩)
 ·exact .inr h
theorem Kp.tup{K:W.Frag}{H H':Hp}{a:Addr}{xs:List V}(s:Kp H H')(h:kD K H a xs):kD K H' a xs:=by
 rcases h with (h | ⟨o,h⟩) | h
 ·exact .inl (.inl (s _ _ h fun φ z=>nomatch z))
 ·exact .inl (.inr ⟨o,s _ _ h fun φ z=>nomatch z⟩)
 ·exact .inr h
mutual
theorem Rep.kp{K:W.Frag}{H H':Hp}(s:Kp H H'):∀{d:D} {v:V},Rep K H d v->Rep K H' d v
 | .non,_,h=>h
 | .bl _,_,h=>h
 | .int _,_,h=>h
 | .str _,_,h=>h
 | .tup ds,_,h=>by
  obtain⟨a,xs,e,q,r⟩:=h
  exact⟨a,xs,e,s.tup q,iU.kp s r⟩
 | .lst ds,_,h=>by
  obtain⟨a,xs,e,q,r⟩:=h
  exact⟨a,xs,e,s _ _ q (fun φ z=>by cases z),iU.kp s r⟩
 | .fro ds,_,h=>by
  obtain⟨a,xs,e,q,r⟩:=h
  exact⟨a,xs,e,s.seq q,iU.kp s r⟩
 | .obj ..,_,h=>h
 | .dct ks ds,_,h=>by
  obtain⟨a,xs,e,q,r⟩:=h
  exact⟨a,xs,e,⟨q.1,let ⟨o,z⟩:=q.2;⟨o,s _ _ z (fun φ z=>by cases z)⟩⟩,iU.kp s r⟩
 | .dcp ks ds,_,h=>by
  obtain⟨a,kas,xs,e,q,r⟩:=h
  exact⟨a,kas,xs,e,q.to (fun _ _=>s.tup) fun o u z=>s _ _ z (fun φ z=>by cases z),iU.kp s r⟩
 | .cl t a ds,_,h=>by
  obtain⟨e,cl,xs,pm,ctv,c',h1,h2,h3,h4,r⟩:=h
  exact⟨e,cl,xs,pm,ctv,c',s _ _ h1 (fun φ z=>by cases z),s _ _ h2 (fun φ z=>by cases z),h3,h4.to fun b o z=>s _ _ z (fun φ z=>by cases z),iU.kp s r⟩
theorem iU.kp{K:W.Frag}{H H':Hp}(s:Kp H H'):∀{ds:LD} {vs:List V},iU K H ds vs->iU K H' ds vs
 | [],_,h=>h
 | d::ds,_,h=>by
  obtain⟨v,r,e,q,t⟩:=h
  exact⟨v,r,e,Rep.kp s q,iU.kp s t⟩
end
theorem jK.kp{K:W.Frag}{H H':Hp}{ρ:R}{σ:L2.St}(e:jK K H ρ σ)(s:Kp H H'):jK K H' ρ σ:=⟨e.1,fun i d h=>let ⟨v,a,b⟩:=e.2 i d h;⟨v,a,b.kp s⟩⟩
theorem jC.kp{K:W.Frag}{H H':Hp}{ρ:R}{τ σ:L2.St}(e:jC K H ρ τ σ)(s:Kp H H'):jC K H' ρ τ σ:=⟨e.1.kp s,e.2⟩
theorem dX{K:W.Frag}{H:Hp}{a:Addr}{ds:LD}{xs:List V}(hq:k4 K H a xs)(t:iU K H ds xs):k9 K (BU K a) ds H:=by
 refine⟨fun i d H2 s2 e=>?_,fun i H2 s2 hl=>⟨xs,s2.seq hq,by rw[<- t.length];exact hl⟩⟩
 obtain⟨v,h1,h2⟩:=t.get e
 refine⟨⟨xs,v,s2.seq hq,h1⟩,fun x H3 ⟨e3,y⟩=>?_⟩
 subst e3
 have:=(y xs (s2.seq hq)).symm.trans h1
 cases this
 exact⟨iX.refl _,h2.kp s2⟩
theorem cU{K:W.Frag}{H:Hp}{a:Addr}{ds:LD}{xs:List V}(hq:kD K H a xs)(t:iU K H ds xs):k9 K (Cg K a) ds H:=by
 refine⟨fun i d H2 s2 e=>?_,fun i H2 s2 hl=>⟨xs,s2.tup hq,by rw[<- t.length];exact hl⟩⟩
 obtain⟨v,h1,h2⟩:=t.get e
 refine⟨⟨xs,v,s2.tup hq,h1⟩,fun x H3 ⟨e3,y⟩=>?_⟩
 subst e3
 have:=(y xs (s2.tup hq)).symm.trans h1
 cases this
 exact⟨iX.refl _,h2.kp s2⟩
theorem xI{a b:Int}{i:Nat}{d:D}(e:(kj a b)[i]?=some d):i<(b - a).toNat/\d=.int (a+i):=by
 unfold kj at e
 rw[List.getElem?_map] at e
 obtain⟨k,e1,e⟩:=jS e
 obtain⟨h1,h2⟩:=List.getElem?_eq_some_iff.mp e1
 rw[List.length_range] at h1
 rw[List.getElem_range] at h2
 subst h2
 exact⟨h1,e.symm⟩
theorem d_{K:W.Frag}{H:Hp}{a b:Int}:k9 K (Br a (b - a).toNat) (kj a b) H:=by
 refine⟨fun i d H2 s2 e=>?_,fun i H2 s2 hl=>by
  have z:(kj a b).length=(b - a).toNat:=by simp[kj]
  rw[z] at hl
  exact hl⟩
 obtain⟨h1,rfl⟩:=xI e
 refine⟨h1,fun x H3 ⟨e3,y⟩=>?_⟩
 subst e3
 exact⟨iX.refl _,y⟩
def BP(K:PySem.W.Frag)(tl:TE):TI:=fun σ H W=>tl σ H fun x H1=>(∃a,x=.ref a/\(((∃xs,k4 K H1 a xs)/\W (BU K a) H1)\/((∃xs,kD K H1 a xs)/\W (Cg K a) H1)))\/∃z,x=.str z/\z.cps.all (·<128)=true/\W (BA z) H1
theorem em{K:W.Frag}{H:Hp}{x:Str}:k9 K (BA x) (chars x) H:=by
 have hl:(chars x).length=x.cps.size:=by simp[chars]
 refine⟨fun i d H2 s2 e=>?_,fun i H2 s2 h=>by rw[hl] at h;exact h⟩
 have hi:i<x.cps.size:=by rw[<- hl];exact(List.getElem?_eq_some_iff.mp e).1
 refine⟨hi,fun v H3 ⟨e3,c,h1,h2⟩=>?_⟩
 subst e3
 refine⟨iX.refl _,?_⟩
 unfold chars at e
 rw[List.getElem?_map] at e
 obtain⟨c',e1,e⟩:=jS e
 have h1':x.cps.toList[i]?=some c:=by simpa using h1
 rw[h1'] at e1
 cases e1
 subst e
 exact h2
theorem fY{tg l:Expr}{tl:TE}(hl:PE X l tl):PI X tg l (BP X.K tl):=by
 intro pins s σ H W I h
 refine jy (hl pins s σ H _ I h) fun v s1 ⟨x,H1,I1,r1,q1⟩=>?_
 rcases q1 with ⟨a,e,q1⟩ | ⟨z,e,hz,q⟩
 rotate_left
 ·subst e
  obtain⟨t,rfl⟩:=r1
  refine wpAny_pyIter_ascii hz ?_
  refine⟨s1.heap.objs.size,[s1.heap.objs.size],_,_,H1,rfl,I1.kept (t':=s1.toks) fun b o e=>Heap.get?_push_of_some _ e,xt _ z t,⟨_,Heap.get?_push_size _ rfl,rfl,rfl⟩,fun b hb=>?_,q⟩
  have e:b=s1.heap.objs.size:=by simpa using hb
  subst e
  exact I1.fpOk (Nat.le_refl _) (I1.hok.fresh (Nat.le_refl _))
 subst e
 cases r1
 rcases q1 with ⟨⟨xs,hq⟩,q⟩ | ⟨⟨xs,hq⟩,q⟩
 ·obtain⟨its,rv,p,hz⟩:=I1.list hq
  refine wpAny_pyIter_list p.isList ?_
  refine⟨s1.heap.objs.size,[s1.heap.objs.size],_,_,H1,rfl,I1.kept (t':=s1.toks) fun b o e=>Heap.get?_push_of_some _ e,vN a _,⟨_,Heap.get?_push_size _ rfl,rfl,rfl⟩,fun b hb=>?_,q⟩
  have e:b=s1.heap.objs.size:=by simpa using hb
  subst e
  exact I1.fpOk (Nat.le_refl _) (I1.hok.fresh (Nat.le_refl _))
 ·obtain⟨its,rv,p,hz⟩:=I1.tuple hq
  refine wpAny_pyIter_tuple (show s1.heap.IsTuple a its.toArray from p) ?_
  refine⟨s1.heap.objs.size,[s1.heap.objs.size],_,_,H1,rfl,I1.kept (t':=s1.toks) fun b o e=>Heap.get?_push_of_some _ e,ue a _,⟨_,Heap.get?_push_size _ rfl,rfl,rfl⟩,fun b hb=>?_,q⟩
  have e:b=s1.heap.objs.size:=by simpa using hb
  subst e
  exact I1.fpOk (Nat.le_refl _) (I1.hok.fresh (Nat.le_refl _))
theorem aQ{tg:Expr}(ha:SE X a f):SI X tg a (jh f):=(fY ha).imp fun σ H W ⟨ρ,ds,er,e,q⟩=>by
 obtain⟨x,e1,e⟩:=iS e
 refine⟨ρ,x,er,e1,fun v H1 s1 r1=>?_⟩
 cases x with
 | tup xs =>
  cases e
  obtain⟨a,vs,ev,hq,t⟩:=r1
  exact .inl ⟨a,ev,.inr ⟨⟨vs,hq⟩,q _ H1 s1 (cU hq t)⟩⟩
 | lst xs =>
  cases e
  obtain⟨a,vs,ev,hq,t⟩:=r1
  exact .inl ⟨a,ev,.inl ⟨⟨vs,k4.of hq⟩,q _ H1 s1 (dX (k4.of hq) t)⟩⟩
 | str z =>
  dsimp only at e
  split at e
  ·rename_i hz
   cases e
   cases (show v=_ from r1)
   exact .inr ⟨z,rfl,hz,q _ H1 s1 em⟩
  ·cases e
 | _=>cases e
theorem bV{tg:Expr}(hm:X.mg "range" = none)(ha:SE X a f)(hg:Gl X "range":=by rfl)(hs:noStar a=true:=by rfl):SI X tg (.Call (.Name "range" p) [a] [] pos) (jR f):=
 (fr hg hm (aa ha ad hs).1 (aw [] X.env hs)).imp fun σ H W ⟨ρ,ds,er,e,q⟩=>by
  obtain⟨x,e1,e⟩:=iS e
  cases x with
  | int j =>
   dsimp only at e
   split at e
   ·rename_i hj
    cases e
    refine⟨ρ,[.int j],er,by show(f ρ).bind _=_;rw[e1];rfl,fun vs H1 s1 r1=>?_⟩
    obtain⟨v,r,rfl,r2,r3⟩:=r1
    cases (show v=_ from r2)
    cases (show r=_ from r3)
    refine⟨j,rfl,hj.1,hj.2,q _ H1 s1 ?_⟩
    have z:=d_ (K:=X.K) (H:=H1) (a:=0) (b:=j)
    rw[Int.sub_zero] at z
    exact z
   ·cases e
  | _=>cases e
theorem dl{tg iter:Expr}{B:List Stmt}{it:R->Option LD}(hp:PassesOwn (model X.prog X.w) X.A X.env X.xe)(hc:X.calm=true)(hi:SI X tg iter it)(hg:SG X tg stf)(hb:SS X B u)
  (hs:∀x,foldedSetIterable iter X.env x=pure x:=by intro _;rfl):S1 X (.For tg iter B [] pos) (kx it stf u):=(dF hp hc hi hg hb hs).imp fun E σ H ⟨ρ,τ,o,er,e,q⟩=>by
 obtain⟨ds,e1,e⟩:=iS e
 refine⟨ρ,ds,er.1,e1,fun J H1 s1 y=>?_⟩
 refine⟨fun i m σ' H'=>m=ds.length - i/\i<=ds.length/\iX H1 H'/\∃ ρ',jC X.K H' ρ' τ σ'/\mP stf u (ds.drop i) ρ'=some o,⟨ds.length,by simp,Nat.zero_le _,iX.refl _,ρ,er.mono s1,by simpa using e⟩,?_⟩
 rintro i m σ' H' ⟨rfl,hi,s2,ρ',er',e'⟩
 by_cases hlt:i<ds.length
 ·refine .inr ?_
  have hd:ds[i]?=some ds[i]:=by simp[hlt]
  obtain⟨hgo,hy⟩:=y.1 i ds[i] H' (Kp.of s2) hd
  rw[List.drop_eq_getElem_cons hlt] at e'
  obtain⟨ρ1,e2,e'⟩:=iS e'
  obtain⟨o1,e3,e'⟩:=iS e'
  refine⟨hgo,fun σ2 H2=>i+1<=ds.length/\iX H1 H2/\∃ ρ',jC X.K H2 ρ' τ σ2/\mP stf u (ds.drop (i+1)) ρ'=some o,fun σ2 H2 n2=>⟨ds.length - (i+1),by omega,rfl,n2.1,n2.2⟩,fun x H3 yx=>?_⟩
  obtain⟨s3,rx⟩:=hy x H3 yx
  refine⟨ρ',τ,ds[i],ρ1,er'.mono s3,rx,e2,fun σ4 H4 s4 er4=>⟨ρ1,τ,o1,er4,e3,fun H5 s5=>?_⟩⟩
  have s15:iX H1 H5:=s2.trans (s3.trans (s4.trans s5))
  cases o1 with
  | nx ρ2=>exact fun σ6 er6=>⟨hlt,s15,ρ2,er6,e'⟩
  | ct ρ2=>exact fun σ6 er6=>⟨hlt,s15,ρ2,er6,e'⟩
  | bk ρ2=>cases e';exact fun σ6 er6=>q H5 (s1.trans s15) σ6 er6
  | rt d=>cases e';exact q H5 (s1.trans s15)
 ·have e4:i=ds.length:=by omega
  subst e4
  rw[List.drop_length] at e'
  cases e'
  exact .inl ⟨y.2 _ H' (Kp.of s2) (Nat.le_refl _),q H' (s1.trans s2) σ' er'⟩
end
theorem n9{K:W.Frag}{H:Hp}{N:List Str}{ds:LD}{vs:List V}(r:iU K H ds vs):jK K H (qY N.length ds) (L2.start N vs):=by
 unfold qY L2.start
 refine⟨by simp[r.length],fun i d h=>?_⟩
 by_cases hi:i<ds.length
 ·rw[List.getElem?_append_left (by simpa using hi),List.getElem?_map] at h
  obtain⟨d',e1,e⟩:=jS h
  cases e
  obtain⟨v,h1,h2⟩:=r.get e1
  exact⟨v,by rw[List.getElem?_append_left (by rw[List.length_map,<- r.length];exact hi),List.getElem?_map,h1];rfl,h2⟩
 ·rw[List.getElem?_append_right (by simpa using hi),List.getElem?_replicate] at h
  split at h<;>cases h
theorem gb{P:Program}{w:World}{K:W.Frag}{mg:Str->Option Value}{base:Heap}{x qual:Str}{st:Stmt}{f:Addr}{fd:FuncData}{N ps:List Str}{k:Nat}{F:LD->OD}{g:R->Option Out}
  (Fn:m_ K x qual st f fd) (S:jc N ps (iV st)) (hlen:∀ds d,F ds=some d->ds.length=ps.length)
  (hb:∀(cdv:Value) (A:Around) (outer:List Env) (s:Shared) (H:Hp) (E:XK),jo k (A.deeper (envOfC qual (iV st) s.heap.objs.size f cdv))->SS (nW kR P w K mg base N qual (iV st) f cdv A outer s H E).nox (jw st) g)
  (hF:∀ds d,F ds=some d->jQ (g (qY N.length ds))=some d):jl P w K mg base kR (k+1) f fd ps (pC K F):=by
 refine Fn.ok S (fun vs H Q E h=>?_) (fun cdv A outer s H vs Q E hr h=>?_)
 ·obtain⟨ds,d,r,e,_⟩:=h
  rw[<- r.length]
  exact hlen ds d e
 ·obtain⟨ds,d,r,e,q⟩:=h
  refine⟨_,hb cdv A outer s H E hr,?_⟩
  have z:=hF ds d e
  cases ho:g (qY N.length ds) with
  | none=>rw[ho] at z;cases z
  | some o =>
   rw[ho] at z
   refine⟨qY N.length ds,_,o,(n9 r).t,ho,fun H1 s1=>?_⟩
   cases o with
   | rt d'=>cases (show d'=d from Option.some.inj z);exact fun v rv=>q v H1 s1 rv
   | nx ρ=>cases (show D.non=d from Option.some.inj z);exact fun σ _=>q .non H1 s1 rfl
   | bk ρ=>cases z
   | ct ρ=>cases z
theorem aK{P:Program}{w:World}{K:W.Frag}{mg:Str->Option Value}{base:Heap}{x qual:Str}{st:Stmt}{f:Addr}{fd:FuncData}{N ps:List Str}{k:Nat}{n m:Nat}{g:R->Option Out}
  (Fn:m_ K x qual st f fd) (S:jc N ps (iV st))
  (hb:∀(cdv:Value) (A:Around) (outer:List Env) (s:Shared) (H:Hp) (E:XK),jo k (A.deeper (envOfC qual (iV st) s.heap.objs.size f cdv))->SS (nW kR P w K mg base N qual (iV st) f cdv A outer s H E).nox (jw st) g)
  (h1:n=ps.length:=by rfl) (h2:m=N.length:=by rfl):jl P w K mg base kR (k+1) f fd ps (pC K (via n m g)):=by
 subst h1 h2
 exact gb Fn S (fun _ _ h=>dH h) hb fun _ _ h=>fE h
theorem aS{P:Program}{w:World}{K:W.Frag}{mg:Str->Option Value}{base:Heap}{x qual:Str}{st:Stmt}{f:Addr}{fd:FuncData}{ps:List Str}{k:Nat}{F:LD->OD}(Fn:m_ K x qual st f fd)(hm:mg x=some (.ref f))
  (hb:Binds K fd ps []) (h:jl P w K mg base kR k f fd ps (pC K F)):kY P w K mg base k x ps F:=⟨f,fd,h,hm,Fn.kp,hb⟩
section
variable{X:Cx}
theorem wa{prog:Program}{w:World}{A:Around}{E:Value->Shared->Prop}{s:Shared}{t b:Addr}{ws:List Value}{Q:Value->Shared->Prop}(ht:IsTup s.heap t ([]:List Value).toArray)(hb:IsTup s.heap b ws.toArray)
  (h:Q (.ref b) s):wpAny (model prog w) A (binaryOp .Add (.ref t) (.ref b)) Q E s:=by
 obtain⟨⟨cls,dd,data,sl⟩,ho,hc,n,hd⟩:=id ht
 obtain⟨⟨cls2,dd2,data2,xP⟩,ho2,hc2,n2,hd2⟩:=id hb
 simp only at hc hd hc2 hd2
 subst hc hd hc2 hd2
 exact concat_meets ⟨_,ho,rfl⟩ ⟨_,ho2,rfl⟩ noFill_tuple_add seq_tuple_add PySem.F.slot_tuple_add PySem.F.entry_tuple_add (PySem.F.args_tuple_add_2 _ _)
  (tuple_addW0 t b ([]:List Value).toArray ws.toArray n n2 dd dd2 sl xP (by simp)) ⟨ho,ho2,h⟩
theorem mf{K:W.Frag}{H:Hp}{d:D}{v:V}{i:Int}(e:nI d=some i)(r:Rep K H d v):v=.int i:=by
 cases d<;>cases e
 exact r
theorem Bi{K:W.Frag}{H:Hp}{d:D}{v:V}{xs:LD}(e:tI d=some xs)(r:Rep K H d v):Rep K H (.tup xs) v:=by
 cases d<;>cases e
 exact r
theorem A2{K:W.Frag}{H:Hp}{d:D}{v:V}{xs:LD}(e:lI d=some xs)(r:Rep K H d v):Rep K H (.lst xs) v:=by
 cases d<;>cases e
 exact r
theorem yW{K:W.Frag}{H:Hp}{d:D}{v:V}{x:Str}(e:sI d=some x)(r:Rep K H d v):v=.str x:=by
 cases d<;>cases e
 exact r
theorem Bh{K:W.Frag}{H:Hp}{d:D}{v:V}{x:Bool}(e:bO d=some x)(r:Rep K H d v):v=.bl x:=by
 cases d<;>cases e
 exact r
theorem vJ{α:Type}{p:Prop}[Decidable p]{x y:α}(h:(if p then some x else none)=some y):p/\x=y:=by
 split at h
 ·rename_i hp;exact⟨hp,Option.some.inj h⟩
 ·cases h
theorem aG:zw X (binaryOp .Add) jJ:=by
 intro pins s σ H x y v u Q I rx ry h
 obtain⟨dx,dy,d,r1,r2,e,q⟩:=h
 cases dx with
 | int i =>
  obtain⟨j,e1,rfl⟩:=jS e
  exact zC pins s σ H x y v u Q I rx ry ⟨i,j,r1,mf e1 r2,q _ H (iX.refl H) rfl⟩
 | tup xs =>
  obtain⟨ys,e1,e⟩:=iS e
  obtain⟨hz,rfl⟩:=vJ e
  obtain⟨a,vs,rfl,hq,t⟩:=r1
  obtain⟨b,us,rfl,hq2,t2⟩:=Bi e1 r2
  cases vs with
  | nil =>
   cases rx
   cases ry
   obtain⟨its,rr1,p1,_⟩:=I.tuple hq
   obtain⟨its2,rr2,p2,_⟩:=I.tuple hq2
   cases rr1
   refine wa p1 p2 ⟨.ref b,H,I,rfl,q _ H (iX.refl H) ⟨b,us,rfl,hq2,?_⟩⟩
   cases xs with
   | nil=>exact t2
   | cons x r=>obtain⟨_,_,z,_⟩:=t;cases z
  | cons v0 vr =>
   refine yI pins s σ H _ _ v u Q I rx ry ⟨a,b,v0::vr,us,rfl,rfl,hq,hq2,by simp,by rw[<- t.length,<- t2.length];exact hz,fun z=>?_,fun z p hp=>?_⟩
   ·subst z
    refine q _ H (iX.refl H) ⟨a,v0::vr,rfl,hq,?_⟩
    have:ys=[]:=List.length_eq_zero_iff.mp t2.length
    subst this
    rw[List.append_nil]
    exact t
   ·have s2:=aH hp (.tup (v0::vr++us))
    exact q _ _ s2 ⟨p,_,rfl,kD.of af,(t.append t2).mono s2⟩
 | lst xs =>
  obtain⟨ys,e1,e⟩:=iS e
  obtain⟨hz,rfl⟩:=vJ e
  obtain⟨a,vs,rfl,hq,t⟩:=r1
  obtain⟨b,us,rfl,hq2,t2⟩:=A2 e1 r2
  refine zX pins s σ H _ _ v u Q I rx ry ⟨a,b,vs,us,rfl,rfl,hq,hq2,by rw[<- t.length,<- t2.length];exact hz,fun p hp=>?_⟩
  have s2:=aH hp (.lst (vs++us))
  exact q _ _ s2 ⟨p,_,rfl,af,(t.append t2).mono s2⟩
 | str a =>
  obtain⟨b,e1,e⟩:=iS e
  obtain⟨hz,rfl⟩:=vJ e
  exact uj pins s σ H x y v u Q I rx ry ⟨a,b,r1,yW e1 r2,hz,q _ H (iX.refl H) rfl⟩
 | _=>cases e
theorem bH:zw X (binaryOp .Mult) rE:=by
 intro pins s σ H x y v u Q I rx ry h
 obtain⟨dx,dy,d,r1,r2,e,q⟩:=h
 obtain⟨i,e1,e⟩:=iS e
 obtain⟨j,e2,e⟩:=iS e
 obtain⟨hz,rfl⟩:=vJ e
 refine zu pins s σ H x y v u Q I rx ry ⟨i,j,mf e1 r1,mf e2 r2,?_,q _ H (iX.refl H) rfl⟩
 unfold jI at hz
 rw[Bool.or_eq_true,Bool.and_eq_true,Bool.and_eq_true] at hz
 exact hz.imp (fun z=>⟨of_decide_eq_true z.1,of_decide_eq_true z.2⟩) fun z=>⟨of_decide_eq_true z.1,of_decide_eq_true z.2⟩
theorem bG:zw X (binaryOp .FloorDiv) lu:=by
 intro pins s σ H x y v u Q I rx ry h
 obtain⟨dx,dy,d,r1,r2,e,q⟩:=h
 obtain⟨i,e1,e⟩:=iS e
 obtain⟨j,e2,e⟩:=iS e
 obtain⟨hz,rfl⟩:=vJ e
 exact yK pins s σ H x y v u Q I rx ry ⟨i,j,mf e1 r1,mf e2 r2,hz,q _ H (iX.refl H) rfl⟩
theorem aV:zw X (binaryOp .Mod) j_:=by
 intro pins s σ H x y v u Q I rx ry h
 obtain⟨dx,dy,d,r1,r2,e,q⟩:=h
 obtain⟨i,e1,e⟩:=iS e
 obtain⟨j,e2,e⟩:=iS e
 obtain⟨hz,rfl⟩:=vJ e
 exact zR pins s σ H x y v u Q I rx ry ⟨i,j,mf e1 r1,mf e2 r2,hz,q _ H (iX.refl H) rfl⟩
theorem Cr{op:CmpOp}{p:Int->Int->Bool}{F:D->D->Option Bool}(ho:OpR X (compareOp op) (AA fun i j=>.bl (p i j)))(hF:∀x y,F x y=(nI x).bind fun i=>(nI y).map fun j=>p i j):xN X op F:=by
 intro pins s σ H x y v u Q I rx ry h
 obtain⟨dx,dy,b,r1,r2,e,q⟩:=h
 rw[hF] at e
 obtain⟨i,e1,e⟩:=iS e
 obtain⟨j,e2,rfl⟩:=jS e
 exact ho pins s σ H x y v u Q I rx ry ⟨i,j,mf e1 r1,mf e2 r2,q⟩
theorem hR:xN X .Lt Bt:=Cr AI fun _ _=>rfl
theorem hV:xN X .Gt yV:=Cr AW fun _ _=>rfl
theorem sM{K:W.Frag}{H:Hp}{d:D}{v:V}(r:Rep K H d v)(f:flat d=true):me v=true:=by
 cases d<;>simp[flat] at f<;>(cases (show v=_ from r);rfl)
theorem yq{K:W.Frag}{H:Hp}{d e:D}{v u:V}(r:Rep K H d v)(r':Rep K H e u)(f:flat d=true)(f':flat e=true):ym v u=yX d e:=by
 cases d<;>simp[flat] at f<;>cases e<;>simp[flat] at f'<;>(cases (show v=_ from r);cases (show u=_ from r');rfl)
theorem pW{K:W.Frag}{H:Hp}:∀{ds:LD} {vs:List V},iU K H ds vs->ds.all flat=true->vs.all me=true
 | [],_,h,_=>by cases (show _=[] from h);rfl
 | d::ds,_,h,f=>by
  obtain⟨v,r,rfl,q,t⟩:=h
  rw[List.all_cons,Bool.and_eq_true] at f ⊢
  exact⟨sM q f.1,pW t f.2⟩
theorem uO{K:W.Frag}{H:Hp}{x:D}{vx:V}(rx:Rep K H x vx)(fx:flat x=true):∀{ds:LD} {vs:List V},iU K H ds vs->ds.all flat=true->Bu vx vs=ds.any fun y=>yX y x
 | [],_,h,_=>by cases (show _=[] from h);rfl
 | d::ds,_,h,f=>by
  obtain⟨v,r,rfl,q,t⟩:=h
  rw[List.all_cons,Bool.and_eq_true] at f
  have ih:=uO rx fx t f.2
  unfold Bu at ih ⊢
  rw[List.any_cons,List.any_cons,yq q rx f.1 fx,ih]
theorem p_{K:W.Frag}{H:Hp}{d:D}{v:V}{ys:LD}(r:Rep K H d v)(e:tZ d=some ys):∃p xs,v=.ref p/\(k4 K H p xs\/kD K H p xs)/\iU K H ys xs:=by
 cases d with
 | tup ds=>cases e;obtain⟨a,xs,rfl,q,t⟩:=r;exact⟨a,xs,rfl,.inr q,t⟩
 | lst ds=>cases e;obtain⟨a,xs,rfl,q,t⟩:=r;exact⟨a,xs,rfl,.inl (k4.of q),t⟩
 | fro ds=>cases e;obtain⟨a,xs,rfl,q,t⟩:=r;exact⟨a,xs,rfl,.inl q,t⟩
 | _=>cases e
theorem fK:xN X .NotIn rz:=by
 intro pins s σ H x y v u Q I rx ry h
 obtain⟨dx,dy,b,r1,r2,e,q⟩:=h
 obtain⟨ys,e1,e⟩:=iS e
 obtain⟨p,xs,rfl,hq,t⟩:=p_ r2 e1
 split at e
 ·rename_i hf
  rw[Bool.and_eq_true] at hf
  cases e
  refine rF pins s σ H x _ v u Q I rx ry ⟨p,xs,rfl,hq,sM r1 hf.1,pW t hf.2,?_⟩
  rw[uO r1 hf.1 t hf.2]
  exact q
 ·cases e
theorem cy:zZ X (.builtin "len") lM:=rn.imp fun xs H Q ⟨ds,d,r,e,q⟩=>by
 match ds,e with
 | [x],e =>
  obtain⟨ys,e1,e2⟩:=jS e
  subst e2
  obtain⟨v,r',rfl,r1,r2⟩:=r
  cases (show r'=[] from r2)
  obtain⟨p,vs,rfl,hq,t⟩:=p_ r1 e1
  exact⟨p,vs,rfl,hq,q _ H (iX.refl H) (by show V.int _=V.int _;rw[t.length])⟩
theorem bU:zZ X (.type "tuple") mv:=pJ.imp fun xs H Q ⟨ds,d,r,e,q⟩=>by
 match ds,e with
 | [.tup ys],e =>
  cases e
  obtain⟨v,r',rfl,⟨a,vs,rfl,hq,t⟩,r2⟩:=r
  cases (show r'=[] from r2)
  exact⟨a,vs,rfl,.inr ⟨hq,q _ H (iX.refl H) ⟨a,vs,rfl,hq,t⟩⟩⟩
 | [.lst ys],e =>
  cases e
  obtain⟨v,r',rfl,⟨a,vs,rfl,hq,t⟩,r2⟩:=r
  cases (show r'=[] from r2)
  exact⟨a,vs,rfl,.inl ⟨k4.of hq,fun l hl=>q _ _ (aH hl _) ⟨l,vs,rfl,kD.of af,t.mono (aH hl _)⟩⟩⟩
theorem ib:zZ X (.type "str") yo:=qM.imp fun xs H Q ⟨ds,d,r,e,q⟩=>by
 match ds,e with
 | [.int i],e =>
  have e':(if i.natAbs.log2<1920 then some (D.str (toString i)) else none)=some d:=e
  split at e'
  ·rename_i hz
   cases e'
   obtain⟨v,r',rfl,r1,r2⟩:=r
   cases (show r'=[] from r2)
   cases (show v=_ from r1)
   exact⟨i,rfl,hz,q _ H (iX.refl H) rfl⟩
  ·cases e'
theorem fX{k:Nat}(hr:jo k X.A):xN X .Eq vY:=by
 intro pins s σ H x y v u Q I rx ry h
 obtain⟨dx,dy,b,r1,r2,e,q⟩:=h
 have sc:Bf x y=true->decide (x=y)=b->wpAny (model X.prog X.w) X.A (compareOp .Eq v u) (EP X pins σ Q) X.xe s:=fun z1 z2=>AH pins s σ H x y v u Q I rx ry ⟨z1,by rw[z2];exact q⟩
 cases dx with
 | int i=>obtain⟨j,e1,e⟩:=jS e;cases (show x=_ from r1);cases mf e1 r2;exact sc rfl (uy.trans e)
 | str i=>obtain⟨j,e1,e⟩:=jS e;cases (show x=_ from r1);cases yW e1 r2;exact sc rfl (uE.trans e)
 | bl i=>obtain⟨j,e1,e⟩:=jS e;cases (show x=_ from r1);cases Bh e1 r2;exact sc rfl (wn.trans e)
 | _=>cases e
variable{a:Expr}{f:R->OD}{pos p2:Pos}{lo hi:Option Expr}{l h:R->Option (Option Int)}
theorem dM:SO X none xH:=x5.imp fun σ H Q ⟨ρ,o,er,e,q⟩=>by
 cases e
 exact q H (iX.refl H)
theorem dN(ha:SE X a f):SO X (some a) (aP f):=(yu ha).imp fun σ H Q ⟨ρ,o,er,e,q⟩=>by
 obtain⟨x,e1,e2⟩:=iS e
 refine⟨ρ,x,er,e1,fun v H1 s1 r1=>?_⟩
 cases x with
 | int i=>cases e2;exact⟨i,r1,q H1 s1⟩
 | _=>cases e2
theorem uD(n d:Nat)(o:Option Int):wM n d o=HT.sIx n d o:=rfl
theorem pE{prog:Program}{w:World}{A:Around}{E:Value->Shared->Prop}{s:Shared}{t sl:Addr}{items:Array Value}{vl vu:Value}{lo hi:Option Int}{Q:Value->Shared->Prop}(ht:IsTup s.heap t items)(hs:s.heap.IsSliceOf sl vl vu .none)(pl:IsPart vl lo)(pu:IsPart vu hi)
  (hw:HT.sIx items.size 0 lo=0/\HT.sIx items.size items.size hi=items.size) (h:Q (.ref t) s):wpAny (model prog w) A (getItem (.ref t) (.ref sl)) Q E s:=by
 obtain⟨os,hos,hcs,hds⟩:=id hs
 have hTs:s.TypeIs (.ref sl) "slice":=⟨os,hos,hcs⟩
 unfold getItem
 try with_reducible refine wpAny_holding ?_
 first | refine wpAny_bind (wpAny_pure ?_) | skip
 refine wpAny_bind (wpAny_sequenceKey ht.typeIs (by decide) ?_)
 refine wpAny_bind (wpAny_callSpecial?_slot (name:=oS "__getitem__") ht.typeIs PyProof.Rows.slot_tuple_getitem
  (wpAny_call_entry PyProof.Rows.slot_tuple_getitem ht.typeIs entry_tuple_getitem ?_ (args_tuple_getitem _ _)))
 show wpAny _ _ (Builtin.Tuple.tupleItemsOf (.ref t) >>= _) _ _ s
 refine wpAny_bind (tupleItemsOf_ ht ?_)
 refine wpAny_bind (wpAny_typeOf hTs ?_)
 rw[if_pos (by decide)]
 refine wpAny_bind (HT.sliceApplied_gen hs pl pu ?_)
 have hyes:((((HT.sIx items.size 0 lo:Nat):Int)==0&&(1:Int)==1&&(HT.sIx items.size items.size hi - HT.sIx items.size 0 lo)==items.size)=true):=by
  rw[hw.1,hw.2];simp
 show wpAny _ _ (if (((HT.sIx items.size 0 lo:Nat):Int)==0&&(1:Int)==1&&(HT.sIx items.size items.size hi - HT.sIx items.size 0 lo)==items.size)=true then _ else _) _ _ s
 rw[if_pos hyes]
 refine wpAny_bind (m:=Builtin.Tuple.tupleIsExact _) (wpAny_bind (wpAny_typeOf ht.typeIs (wpAny_pure ?_)))
 rw[if_pos (by decide)]
 exact wpAny_bind (wpAny_rule (wpAny_pure ⟨_,rfl,wpAny_pure h⟩))
theorem tS{xs:List V}{lo hi:Option Int}(h:HT.sIx xs.length 0 lo=0/\HT.sIx xs.length xs.length hi=xs.length):nZ xs lo hi=xs:=by
 unfold nZ
 rw[h.1,h.2,List.drop_zero,Nat.sub_zero,List.take_length]
def B_(K:W.Frag):V->Option Int->Option Int->Hp->VK->Prop:=fun x lo hi H Q=>∃a xs,x=.ref a/\kD K H a xs/\∀p H',iX H H'->kD K H' p (nZ xs lo hi)->Q (.ref p) H'
theorem za:yY X (B_ X.K):=by
 intro pins s σ H x v vl vu lo hi sl Q I rx hs pl pu h
 obtain⟨a,xs,rfl,hx,q⟩:=h
 by_cases hw:HT.sIx xs.length 0 lo=0/\HT.sIx xs.length xs.length hi=xs.length
 ·cases rx
  obtain⟨its,r,ht,hz⟩:=I.tuple hx
  have hlen:its.toArray.size=xs.length:=by rw[List.size_toArray];exact r.length.symm
  refine⟨"tuple",_,PyProof.Rows.slot_tuple_getitem.lookup,ht.typeIs,?_⟩
  exact pE ht hs pl pu (by rw[hlen];exact hw) ⟨.ref a,H,I,rfl,q a H (iX.refl H) (by rw[tS hw];exact hx)⟩
 ·exact zv pins s σ H (.ref a) v vl vu lo hi sl Q I rx hs pl pu ⟨a,xs,rfl,hx,hw,fun p hp=>q p _ (aH hp _) (kD.of af)⟩
theorem eU{K:W.Frag}{H:Hp}{ds:LD}{xs:List V}(t:iU K H ds xs)(lo hi:Option Int):iU K H (cutD ds lo hi) (nZ xs lo hi):=by
 unfold cutD nZ
 rw[t.length,uD,uD]
 exact(t.drop _).take _
theorem cO(ha:SE X a f)(hl:SO X lo l)(hh:SO X hi h):SE X (.Subscript a (.Slice lo hi none p2) pos) (vV f l h):=(fQ (za.or yE) ha hl hh).imp fun σ H Q ⟨ρ,d,er,e,q⟩=>by
 obtain⟨x,e1,e⟩:=iS e
 obtain⟨o1,e2,e⟩:=iS e
 obtain⟨o2,e3,e⟩:=iS e
 refine⟨ρ,x,er,e1,fun v H1 s1 r1=>⟨ρ,o1,er.mono s1,e2,fun H2 s2=>⟨ρ,o2,er.mono (s1.trans s2),e3,fun H3 s3=>?_⟩⟩⟩
 cases x with
 | tup xs =>
  cases e
  obtain⟨a,vs,rfl,hq,t⟩:=(r1.mono (s2.trans s3))
  exact .inl ⟨a,vs,rfl,hq,fun p H4 s4 sq=>q _ H4 (s1.trans (s2.trans (s3.trans s4))) ⟨p,_,rfl,sq,(eU t o1 o2).mono s4⟩⟩
 | lst xs =>
  cases e
  obtain⟨a,vs,rfl,hq,t⟩:=(r1.mono (s2.trans s3))
  refine .inr ⟨a,vs,rfl,k4.of hq,fun p hp=>?_⟩
  have s4:=aH hp (.lst (nZ vs o1 o2))
  exact q _ _ (s1.trans (s2.trans (s3.trans s4))) ⟨p,_,rfl,af,(eU t o1 o2).mono s4⟩
 | _=>cases e
end
set_option maxHeartbeats 2000000
def kA(names:List (Str×NameKind))(cells:List (Str×Addr))(acc:List (Str×Addr)):List (Str×Addr):=
 match names with
 | []=>acc
 | (n,k)::r=>kA r cells (if k==.free then (match cells.lookup n with | some c=>(n,c)::acc | none=>acc) else acc)
theorem mz {env:Env}:∀ (names:List (Str×NameKind)) (acc:List (Str×Addr)),(∀ p∈names,p.2=.free->∃ c,env.cells.lookup p.1=some c) ->
    (forIn names acc fun x r=>(match x with
      | (name,kind)=>if (kind==NameKind.free)=true then do
          let c <- cellOf env name
          pure (ForInStep.yield ((name,c)::r))
        else pure (ForInStep.yield r):Sem (ForInStep (List (Str×Addr)))))=(pure (kA names env.cells acc):Sem (List (Str×Addr)))
  | [],acc,_=>rfl
  | (n,k)::r,acc,h=>by
    rw[List.forIn_cons]
    cases hk:(k==NameKind.free) with
    | false =>
      have ih:=mz r acc fun p hp=>h p (List.mem_cons_of_mem _ hp)
      simp only[hk,kA,Bool.false_eq_true,if_false]
      exact ih
    | true =>
      obtain⟨c,hc⟩:=h (n,k) List.mem_cons_self (by simpa using hk)
      have ih:=mz r ((n,c)::acc) fun p hp=>h p (List.mem_cons_of_mem _ hp)
      have hcell:cellOf env n=pure c:=by unfold cellOf;rw[show env.cells.lookup n=some c from hc]
      simp only[hk,kA,if_true,hcell,show env.cells.lookup n=some c from hc]
      exact ih
theorem uf{scope:Scope}{env:Env}(h:∀p∈scope.names,p.2=.free->∃c,env.cells.lookup p.1=some c):closureFor scope env=pure (kA scope.names env.cells []):=by
 unfold closureFor
 have:=mz scope.names [] h
 simp only[bind_pure]
 exact this
theorem kN{β:Type}{y n:Str}{c:β}{l:List (Str×β)}:List.lookup y ((n,c)::l)=if y=n then some c else List.lookup y l:=by
 rw[List.lookup_cons]
 by_cases h:y=n
 ·subst h;simp
 ·have:(y==n)=false:=by simpa using h
  rw[this,if_neg h]
theorem oa{cells:List (Str×Addr)}:∀(names:List (Str×NameKind)) (acc:List (Str×Addr)),(∀y c,acc.lookup y=some c->cells.lookup y=some c)->∀y c,(kA names cells acc).lookup y=some c->cells.lookup y=some c
 | [],acc,h=>h
 | (n,k)::r,acc,h=>by
  unfold kA
  refine oa r _ ?_
  split
  ·cases hc:cells.lookup n with
   | none=>exact h
   | some c0 =>
    intro y c hy
    rw[kN] at hy
    split at hy
    ·rename_i e
     subst e
     cases hy
     exact hc
    ·exact h y c hy
  ·exact h
theorem pT{cells:List (Str×Addr)}{y:Str}:∀(names:List (Str×NameKind)) (acc:List (Str×Addr)),(acc.lookup y).isSome=true->((kA names cells acc).lookup y).isSome=true
 | [],acc,h=>h
 | (n,k)::r,acc,h=>by
  unfold kA
  refine pT r _ ?_
  split
  ·cases hc:cells.lookup n with
   | none=>exact h
   | some c0 =>
    dsimp only
    rw[kN]
    split
    ·rfl
    ·exact h
  ·exact h
theorem sQ{cells:List (Str×Addr)}{y:Str}{c:Addr}(hc:cells.lookup y=some c):∀(names:List (Str×NameKind)) (acc:List (Str×Addr)),(y,NameKind.free)∈names->((kA names cells acc).lookup y).isSome=true
 | (n,k)::r,acc,h=>by
  unfold kA
  rcases List.mem_cons.mp h with e | h
  ·cases e
   refine pT r _ ?_
   rw[if_pos (show(NameKind.free==NameKind.free)=true by decide),hc]
   dsimp only
   rw[kN,if_pos rfl]
   rfl
  ·exact sQ hc r _ h
theorem yy{cells:List (Str×Addr)}{names:List (Str×NameKind)}{y:Str}{c:Addr}(hc:cells.lookup y=some c)(h:(y,NameKind.free)∈names):(kA names cells []).lookup y=some c:=by
 obtain⟨c',e⟩:=Option.isSome_iff_exists.mp (sQ hc names [] h)
 have:=oa names [] (fun y c h=>by cases h) y c' e
 rw[hc] at this
 cases this
 exact e
theorem pj{env:Env}{y:Str}:∀(names:List (Str×NameKind)),(names.map fun (n,k)=>if (k==NameKind.free&&env.scope.kind==.function&&env.kindOf n==some .cell) then (n,NameKind.cell) else (n,k)).lookup y =
  (names.lookup y).map fun k=>if (k==NameKind.free&&env.scope.kind==.function&&env.kindOf y==some .cell) then NameKind.cell else k
 | []=>rfl
 | (n,k)::r=>by
  have hd:∀(c:Bool),(if c=true then (n,NameKind.cell) else (n,k))=(n,if c=true then NameKind.cell else k):=fun c=>by cases c<;>rfl
  rw[List.map_cons]
  show List.lookup y ((if (k==NameKind.free&&env.scope.kind==.function&&env.kindOf n==some .cell)=true then (n,NameKind.cell) else (n,k))::_)=_
  rw[hd,kN,kN]
  by_cases e:y=n
  ·subst e
   rw[if_pos rfl,if_pos rfl]
   rfl
  ·rw[if_neg e,if_neg e]
   exact pj r
def ot(sc outer:Scope)(T N:List Str):Bool:=
 sc.kind==.function&&(sc.names.all fun p=>p.2 != .cell&&(p.2 != .local||(sc.names.lookup p.1==some .local&&(T.contains p.1||p.1==(".0" : Str))))&&(p.2 != .free||outer.names.lookup p.1==some .cell||outer.names.lookup p.1==some .free)) &&
  (T.all fun t=>sc.names.lookup t==some .local)&&!N.contains (".0" : Str)
structure qS (sc outer:Scope) (T N:List Str):Prop where
 kind:sc.kind=.function
 nocell:∀y∈sc.names,y.2≠.cell
 names:∀y∈sc.names,y.2=.local->sc.names.lookup y.1=some .local
 loc:∀y,sc.names.lookup y=some .local->y∈T\/y=(".0" : Str)
 free:∀y∈sc.names,y.2=.free->outer.names.lookup y.1=some .cell\/outer.names.lookup y.1=some .free
 tg:∀t∈T,sc.names.lookup t=some .local
 no0:(".0" : Str)∉N
theorem qh{sc outer:Scope}{T N:List Str}(h:ot sc outer T N=true):qS sc outer T N:=by
 unfold ot at h
 rw[Bool.and_eq_true,Bool.and_eq_true,Bool.and_eq_true] at h
 obtain⟨⟨⟨h1,h2⟩,h3⟩,h4⟩:=h
 rw[List.all_eq_true] at h2 h3
 have g:∀y∈sc.names,y.2≠.cell/\(y.2=.local->sc.names.lookup y.1=some .local/\(y.1∈T\/y.1=(".0" : Str)))/\(y.2=.free->outer.names.lookup y.1=some .cell\/outer.names.lookup y.1=some .free):=fun y hy=>by
  have q:=h2 y hy
  rw[Bool.and_eq_true,Bool.and_eq_true] at q
  obtain⟨⟨q1,q2⟩,q3⟩:=q
  refine⟨by simpa using q1,fun hl=>?_,fun hf=>?_⟩
  ·rw[hl] at q2
   simpa using q2
  ·rw[hf] at q3
   simpa using q3
 refine⟨by simpa using h1,fun y hy=>(g y hy).1,fun y hy hl=>((g y hy).2.1 hl).1,fun y hy=>?_,fun y hy hf=>(g y hy).2.2 hf,fun t ht=>by simpa using h3 t ht,by simpa using h4⟩
 exact((g (y,.local) (PySem.mem_of_lookup hy)).2.1 rfl).2
def yk(X:Cx)(H:Hp):Prop:=∀b q c,X.H₀ b=some (.tbl q c)->H b=some (.tbl q c)
def pD(X:Cx)(T:List Str)(scope:Scope)(C:Addr)(fp:List Addr)(s₃:Shared)(H₃:Hp):Cx where
 prog:=X.prog
 w:=X.w
 K:=X.K
 mg:=X.mg
 base:=X.base
 A:=X.A
 N:=T++X.N
 s₀:=s₃
 H₀:=H₃
 env:=compEnvC scope (kA scope.names X.env.cells []) C X.env
 outer:=X.stack
 stack:=X.stack
 ex:=fp
 fn:=fun _=>false
 calm:=X.calm
 pn:=[]
 xe:=fun _ _=>False
section
variable{X:Cx}{pins:List (Addr×Obj)}{σ:L2.St}{H:Hp}{s:Shared}{T:List Str}{scope:Scope}{C:Addr}{fp:List Addr}{h₁:Heap}{t:Nat}
theorem wX(I:L2.Inv X pins σ H s)(ck:qS scope X.env.scope T X.N)(hnd:(T++X.N).Nodup)(hf:∀b∈fp,my X pins H b)(hfo:∀b∈fp,∃o,s.heap.get? b=some o)(hC:s.heap.objs.size<=C)
  (hk:∀b u,s.heap.get? b=some u->h₁.get? b=some u) (hns:h₁.Ns C (fun _=>none)) :
  L2.Inv (pD X T scope C fp s H) [] (List.replicate T.length none++σ) H {s with heap:=h₁,toks:=t}:=by
 have hlt:∀b∈fp,b<s.heap.objs.size:=fun b hb=>let ⟨o,e⟩:=hfo b hb;Heap.lt_size e
 have hcl:∀y c,(kA scope.names X.env.cells []).lookup y=some c->X.env.cells.lookup y=some c:=oa scope.names [] fun y c h=>by cases h
 have hfr:∀y,(y,NameKind.free)∈scope.names->(X.env.kindOf y=some .cell\/X.env.kindOf y=some .free)/\∃c,(kA scope.names X.env.cells []).lookup y=some c/\X.env.cells.lookup y=some c:=fun y hy=>by
  have k:=ck.free _ hy rfl
  obtain⟨c,hc⟩:=I.ok.has y k
  exact⟨k,c,yy hc hy,hc⟩
 have hkind:∀y,(compEnvC scope (kA scope.names X.env.cells []) C X.env).kindOf y=(scope.names.lookup y).map fun k=>if (k==NameKind.free&&X.env.scope.kind==.function&&X.env.kindOf y==some .cell) then NameKind.cell else k:=fun y=>pj scope.names
 have hvis:∀y,((compEnvC scope (kA scope.names X.env.cells []) C X.env).kindOf y=some .cell\/(compEnvC scope (kA scope.names X.env.cells []) C X.env).kindOf y=some .free)->(y,NameKind.free)∈scope.names:=fun y hy=>by
  rw[hkind] at hy
  cases hl:scope.names.lookup y with
  | none=>rw[hl] at hy;rcases hy with z | z<;>cases z
  | some k =>
   have hm:=PySem.mem_of_lookup hl
   rw[hl] at hy
   cases k with
   | free=>exact hm
   | cell=>exact absurd rfl (ck.nocell _ hm)
   | «local»=>rcases hy with z | z<;>cases z
   | globalExplicit=>rcases hy with z | z<;>cases z
   | globalImplicit=>rcases hy with z | z<;>cases z
 refine⟨⟨I.ok.mod,ck.kind,I.ok.glob,I.ok.blt,hC,fun x y c h1 h2=>I.ok.inj x y c (hcl x c h1) (hcl y c h2),fun y hy=>?_,fun y c h=>absurd (show false=true from h) Bool.false_ne_true,I.ok.hd,I.ok.frames,.inl rfl,fun b hb=>⟨?_,fun x c h=>?_⟩,I.bs,
  Nat.le_trans I.ok.bsz I.sz,fun b o e hb=>?_,fun b hb hz=>?_,I.stack,I.stkFree⟩,rfl,I.bare,Un.kept hk,⟨_,hns,fun i x v h1 h2 h3=>?_⟩,fun y c h=>?_,I.hok.fresh hC,fun y c h=>I.freeC y c (hcl y c h),fun p hp=>absurd (show p∈([]:List (Addr×Obj)) from hp) (by simp),I.hok.kept hk,?_⟩
 ·obtain⟨_,c,h1,_⟩:=hfr y (hvis y hy)
  exact⟨c,h1⟩
 ·exact Nat.ne_of_lt (Nat.lt_of_lt_of_le (hlt b hb) hC)
 ·exact(hf b hb).2.2.2.2.1 x c (hcl x c h)
 ·rcases(hf b hb).2.2.2.1 with z | z
  ·exact I.ok.noex b o e z
  ·exact absurd (Nat.lt_of_lt_of_le (Heap.lt_size e) (Nat.le_trans I.ok.bsz z)) (Nat.lt_irrefl _)
 ·rcases List.mem_cons.mp (I.stkSub b hz) with z | z
  ·exact(hf b hb).2.1 z
  ·exact(hf b hb).2.2.1 z
 ·by_cases hi:i<T.length
  ·rw[List.getElem?_append_left (by simpa using hi),List.getElem?_replicate] at h2
   split at h2<;>cases h2
  ·rw[List.getElem?_append_right (by simpa using hi),List.length_replicate] at h2
   have h1':X.N[i - T.length]?=some x:=by
    have z:(T++X.N)[i]?=some x:=h1
    rw[List.getElem?_append_right (by omega)] at z
    exact z
   have hxN:x∈X.N:=List.mem_of_getElem? h1'
   have hxf:(x,NameKind.free)∈scope.names:=by
    rcases h3 with z | z | z
    ·have z':(compEnvC scope (kA scope.names X.env.cells []) C X.env).kindOf x=some .local:=z
     rw[hkind] at z'
     cases hl:scope.names.lookup x with
     | none=>rw[hl] at z';cases z'
     | some k =>
      rw[hl] at z'
      have hkl:k=.local:=by
       cases k with
       | «local»=>rfl
       | free=>simp at z';split at z'<;>cases z'
       | cell=>cases z'
       | globalExplicit=>cases z'
       | globalImplicit=>cases z'
      subst hkl
      rcases ck.loc x hl with q | q
      ·exact absurd rfl ((List.nodup_append.mp hnd).2.2 x q x hxN)
      ·exact absurd (q ▸ hxN) ck.no0
    ·exact hvis x (.inl z)
    ·exact hvis x (.inr z)
   obtain⟨hk2,c,hc1,hc2⟩:=hfr x hxf
   obtain⟨m,hm,hl⟩:=I.loc
   obtain⟨u,ru,lk⟩:=hl _ x v h1' h2 (hk2.elim (fun z=>.inr (.inl z)) fun z=>.inr (.inr z))
   refine⟨u,ru,.inr ⟨?_,c,hc1,?_⟩⟩
   ·rcases h3 with z | z | z
    ·exfalso
     have z':(compEnvC scope (kA scope.names X.env.cells []) C X.env).kindOf x=some .local:=z
     rw[hkind] at z'
     cases hl2:scope.names.lookup x with
     | none=>rw[hl2] at z';cases z'
     | some k =>
      rw[hl2] at z'
      have hkl:k=.local:=by
       cases k with
       | «local»=>rfl
       | free=>simp at z';split at z'<;>cases z'
       | cell=>cases z'
       | globalExplicit=>cases z'
       | globalImplicit=>cases z'
      subst hkl
      rcases ck.loc x hl2 with q | q
      ·exact absurd rfl ((List.nodup_append.mp hnd).2.2 x q x hxN)
      ·exact absurd (q ▸ hxN) ck.no0
    ·exact .inl z
    ·exact .inr z
   ·rcases lk with ⟨kl,_⟩ | ⟨_,c',hc',hcell⟩
    ·rcases hk2 with z | z
     ·rw[kl] at z;cases z
     ·rw[kl] at z;cases z
    ·rw[hc2] at hc'
     cases hc'
     obtain⟨o,ho,hd⟩:=hcell
     exact⟨o,hk _ _ ho,hd⟩
 ·obtain⟨v,o,ho,hd⟩:=I.cell y c (hcl y c h)
  exact⟨v,o,hk _ _ ho,hd⟩
 ·show(List.replicate T.length none++σ).length=(T++X.N).length
  rw[List.length_append,List.length_append,List.length_replicate,I.len]
end
theorem qR {prog:Program} {w:World} {A:Around} {R':Result->Shared->Prop} {s:Shared} {elt target iter:Expr} {ifs:List Expr} {scope:Scope} {pos:Pos} {it acc:Value} {env:Env} (I:Nat->Shared->Prop)
    (turn:∀n s,I n s->wpAny (model prog w) A (pyNext it) (fun r s₁=>match r with
      | none=>R' (.ok .next) s₁
      | some v=>wpAny (model prog w) A (letOwnedTupleGo target it v) (fun _ s₁'=>wpAny (model prog w) A (assign target env v) (fun _ s₂ =>
          wpAny (model prog w) A (forIn ifs true fun c r=>if r=true then do let ok <- isTrue c env (eval c env);pure (ForInStep.yield ok) else pure (ForInStep.yield r)) (fun ok s₃ =>
            if ok=true then wpAny (model prog w) A (eval elt env) (fun x s₄ =>
              wpAny (model prog w) A (call (.builtin "list.append") [acc,x]) (fun _ s₅=>∃m,m<n/\I m s₅) (fun _ _=>False) s₄) (fun _ _=>False) s₃
            else ∃m,m<n/\I m s₃) (fun _ _=>False) s₂) (fun _ _=>False) s₁') (fun _ _=>False) s₁) (fun _ _=>False) s)
    (n:Nat) (h:I n s):codeAny (model prog w) A (.compLoop (.ListComp elt [⟨target,iter,ifs,0⟩] scope pos) 0 it acc env) R' s:=by
  refine codeAny_loop rfl I (fun n s hI=>?_) n h
  show wpAny _ A ((compTurn (.ListComp elt [⟨target,iter,ifs,0⟩] scope pos) 0 it acc env).onRaise (fun x=>do noteFrame x env;theTreesLotGoes x)) _ _ s
  refine wpAny_noted ?_
  rw[compTurn_list]
  have ff:∀{E:Value->Shared->Prop} (a:Value) (s:Shared),False->E a s:=fun _ _ z=>z.elim
  refine wpAny_bind (wpAny_standAt (wpAny_bind (wpAny_mono (turn n s hI) (fun r s₁ h₁=>?_) ff)))
  cases r with
  | none=>exact wpAny_pure h₁
  | some v =>
    refine wpAny_bind (wpAny_mono h₁ (fun _ s₁' h₁'=>?_) ff)
    refine wpAny_bind (wpAny_mono h₁' (fun _ s₂ h₂=>wpAny_bind (wpAny_mono h₂ (fun ok s₃ h₃=>?_) ff)) ff)
    cases ok with
    | false=>exact wpAny_pure ⟨rfl,h₃⟩
    | true =>
      exact wpAny_bind (wpAny_bind (wpAny_mono h₃ (fun x s₄ h₄=>wpAny_bind (wpAny_mono h₄ (fun _ s₅ h₅=>wpAny_pure (wpAny_pure ⟨rfl,h₅⟩)) ff)) ff))
def Bp(X:Cx)(ifs:List Expr)(c:R->Option Bool):Prop:=
 ∀(pins:List (Addr×Obj)) (s:Shared) (σ:L2.St) (H:Hp) (Q:Bool->Hp->Prop),L2.Inv X pins σ H s->Bs X.K c σ H Q ->
  wpAny (model X.prog X.w) X.A (forIn ifs true fun c r=>if r=true then do let ok <- isTrue c X.env (eval c X.env);pure (ForInStep.yield ok) else pure (ForInStep.yield r)) (TP X pins σ Q) X.xe s
theorem aX{X:Cx}:Bp X [] jL:=fun pins s σ H Q I ⟨ρ,b,er,e,q⟩=>by
 cases e
 exact wpAny_tests_nil ⟨H,I,q H (iX.refl H)⟩
section
variable{X:Cx}{pins:List (Addr×Obj)}{σ:L2.St}{H:Hp}{s:Shared}{T:List Str}{scope:Scope}
def pb(k:Nat)(stf:D->R->Option R):Prop:=∀(d:D) (τ ρ ρ1:R),τ.length=k->stf d (τ++ρ)=some ρ1->∃ τ',τ'.length=k/\ρ1=τ'++ρ
theorem jq{k i:Nat}(h:i<k):pb k (setAt i):=fun d τ ρ ρ1 hl e=>by
 unfold setAt at e
 split at e
 ·cases e
  exact⟨τ.set i (some d),by simp[hl],List.set_append_left _ _ (by omega)⟩
 ·cases e
theorem oU{k:Nat}:∀{fs:List (D->R->Option R)},(∀f∈fs,pb k f)->∀(ds:LD) (τ ρ ρ1:R),τ.length=k->sC fs ds (τ++ρ)=some ρ1->∃ τ',τ'.length=k/\ρ1=τ'++ρ
 | [],_,[],τ,ρ,ρ1,hl,e=>by cases e;exact⟨τ,hl,rfl⟩
 | [],_,_::_,_,_,_,_,e=>by cases e
 | _::_,_,[],_,_,_,_,e=>by cases e
 | f::fs,hf,d::ds,τ,ρ,ρ1,hl,e=>by
  obtain⟨ρ2,e1,e⟩:=iS e
  obtain⟨τ2,h2,rfl⟩:=hf f List.mem_cons_self d τ ρ ρ2 hl e1
  exact oU (fun g hg=>hf g (List.mem_cons_of_mem _ hg)) ds τ2 ρ ρ1 h2 e
theorem nG{k:Nat}{fs:List (D->R->Option R)}(hf:∀f∈fs,pb k f):pb k (j4 fs):=fun d τ ρ ρ1 hl e=>by
 cases d with
 | tup ds=>exact oU hf ds τ ρ ρ1 hl e
 | _=>cases e
theorem jK.forget{K:W.Frag}{H:Hp}{τ ρ:R}{σ:L2.St}(e:jK K H (τ++ρ) σ):jK K H (List.replicate τ.length none++ρ) σ:=by
 refine⟨by have:=e.1;simpa using this,fun i d h=>?_⟩
 by_cases hi:i<τ.length
 ·rw[List.getElem?_append_left (by simpa using hi),List.getElem?_replicate] at h
  split at h<;>cases h
 ·rw[List.getElem?_append_right (by simpa using hi),List.length_replicate] at h
  exact e.2 i d (by rw[List.getElem?_append_right (by omega)];exact h)
theorem A0{a:Addr}{o:HO}(I:L2.Inv X pins σ H s)(f:my X pins H a)(new:jA X.prog X.w (upd H a o) s.heap a o):L2.Inv X pins σ (upd H a o) s:=by
 obtain⟨f0,f1,f2,f3,f4,f5⟩:=f
 have ne:∀{b:Addr} {u:HO},H b=some u->b≠a:=fun e z=>by rw[z,f0] at e;cases e
 refine⟨I.ok,I.os,I.bare,⟨I.base.keep,I.base.slot,fun b ob e n hx=>?_,I.base.there,fun b xs e=>?_,fun b ob u ny e=>?_,fun b ps d e=>?_⟩,I.loc,I.cell,?_,fun x c e=>?_,fun p hp=>?_,fun b u e=>?_,I.len⟩
 ·have hb:b≠a:=fun z=>by
   rcases f3 with q | q
   ·exact hx (z ▸ q)
   ·exact absurd (Nat.lt_of_lt_of_le (Heap.lt_size e) (z ▸ q)) (Nat.lt_irrefl _)
  rw[ai hb]
  exact I.base.free b ob e n hx
 ·have q:=I.base.tups b xs e
  rw[ai (ne q)]
  exact q
 ·have q:=I.base.frzs b ob u ny e
  rw[ai (ne q)]
  exact q
 ·have q:=I.base.tbls b ps d e
  rw[ai (ne q)]
  exact q
 ·rw[ai (Ne.symm f1)]
  exact I.free
 ·rw[ai (f4 x c e)]
  exact I.freeC x c e
 ·obtain⟨q1,q2,q3⟩:=I.pin p hp
  exact⟨q1,by rw[ai (f5 p hp)];exact q2,q3⟩
 ·by_cases hb:b=a
  ·subst hb
   rw[af] at e
   cases e
   exact new
  ·rw[ai hb] at e
   refine(I.hok b u e).stay (fun _ _ _ q=>q) (fun c q=>?_) (fun c xs q=>?_) fun c _ _ q=>?_
   ·rw[ai (ne q)];exact q
   ·rw[ai (ne q)];exact q
   ·rw[ai (ne q)];exact q
theorem y6{C:Addr}{fp:List Addr}{s₃:Shared}{H₃ H':Hp}{b:Addr}{pl:List (Addr×Obj)}(hb:b∈fp\/s₃.heap.objs.size<=b)(hC:b≠C)(hfs:b∉va X.stack)(hcells:∀x c,(kA scope.names X.env.cells []).lookup x=some c->c≠b)(hn:H' b=none)(hp:∀p∈pl,p.1≠b) :
  my (pD X T scope C fp s₃ H₃) pl H' b:=⟨hn,hC,hfs,hb,hcells,fun p hp'=>hp p hp'⟩
theorem dY{elt iter tg:Expr}{ifs:List Expr}{pos:Pos}{it:Addr}{fp:List Addr}{tn:Nat->Heap->Prop}{J:It}{E:Value->Shared->Prop}{ρ:R}{ds out:LD}{stf:D->R->Option R}{cf:R->Option Bool}{ef:R->OD}
  (I:L2.Inv X pins σ H s) (hc:X.calm=true) (Tn:Turn X.prog X.w X.K tg J fp it tn) (st:tn 0 s.heap) (hf:∀b∈fp,my X pins H b)
  (ck:qS scope X.env.scope T X.N) (hnd:(T++X.N).Nodup) (hst:pb T.length stf) (er:jK X.K H ρ σ) (y:k9 X.K J ds H) (hz:ds.length<=sizeLine) (hout:lc stf cf ef ds (List.replicate T.length none++ρ)=some out)
  (hg:∀C s₃ H₃ fp,yk X H₃->SG (pD X T scope C fp s₃ H₃) tg stf) (hcnd:∀C s₃ H₃ fp,yk X H₃->Bp (pD X T scope C fp s₃ H₃) ifs cf) (he:∀C s₃ H₃ fp,yk X H₃->SE (pD X T scope C fp s₃ H₃) elt ef)
  {RR:Value->Addr->Result->Shared->Prop}
  (hRR:∀(a C:Addr) (H':Hp) (s':Shared) (vs:List V),iX H H'->H' a=some (.lst vs)->iU X.K H' out vs->L2.Inv X pins σ H' s'->my X pins H' C->(∃m,s'.heap.Ns C m)->RR (.ref a) C (.ok .next) s') :
  wpAny (model X.prog X.w) X.A (newList []) (fun acc s₃=>wpAny (model X.prog X.w) X.A (newFunctionEnv scope X.env.globals (kA scope.names X.env.cells []) [] X.env.qual none .none (some X.env)) (fun cenv s₄ =>
   codeAny (model X.prog X.w) X.A (.compStart (.ListComp elt [⟨tg,iter,ifs,0⟩] scope pos) 0 (.ref it) acc {cenv with scope:=relabel scope X.env}) (RR acc cenv.locals) s₄) E s₃) E s:=by
 refine wpAny_newObj_type (wpAny_newFunctionEnv ck.nocell (by intro y hy;simp at hy) (fun h₁ hns₁ hsb₁=>?_) ck.kind)
 dsimp only at hns₁ hsb₁ ⊢
 generalize hH2:s.heap.push {cls:=.type "list",dict:=none,data:=.seq ([]:List Value).toArray}=H2 at hns₁ hsb₁ ⊢
 generalize ha:s.heap.objs.size=a at *
 generalize hCe:H2.objs.size=C at hns₁ hsb₁ ⊢
 have hC:C=a+1:=by rw[<- hCe,<- hH2,Heap.size_push,ha]
 have haC':a<C:=by rw[hC];exact Nat.lt_succ_self a
 have haC:a≠C:=Nat.ne_of_lt haC'
 have hle:s.heap.objs.size<=a:=Nat.le_of_eq ha
 have hCle:s.heap.objs.size<=C:=Nat.le_trans hle (Nat.le_of_lt haC')
 have hlta:∀{b:Addr} {o:Obj},s.heap.get? b=some o->b<a:=fun e=>Nat.lt_of_lt_of_le (Heap.lt_size e) hle
 have old:∀b o,s.heap.get? b=some o->h₁.get? b=some o:=fun b o e=>hsb₁.extBut b o (Nat.ne_of_lt (Nat.lt_trans (hlta e) haC')) (Heap.get?_push_of_some _ (hH2 ▸ Heap.get?_push_of_some _ e))
 have hacc:h₁.get? a=some {cls:=.type "list",data:=.seq ([]:List Value).toArray}:=hsb₁.extBut _ _ haC (Heap.get?_push_of_some _ (hH2 ▸ (ha ▸ Heap.get?_push_size _ rfl)))
 have hfo:∀b∈fp,∃o,s.heap.get? b=some o:=fun b hb=>let ⟨o,e,_⟩:=Tn.obj 0 _ st b hb;⟨o,e⟩
 have hlt:∀b∈fp,b<a:=fun b hb=>let ⟨o,e⟩:=hfo b hb;hlta e
 have hns:h₁.Ns C (fun _=>none):=hns₁
 have I0:L2.Inv (pD X T scope C fp s H) [] (List.replicate T.length none++σ) H {s with heap:=h₁,toks:=s.toks+([]:List (Str×Value)).length}:=wX I ck hnd hf hfo hCle old hns
 have hcl:∀y c,(kA scope.names X.env.cells []).lookup y=some c->X.env.cells.lookup y=some c:=oa scope.names [] fun y c h=>by cases h
 have hfs:∀b,a<=b->b∉va X.stack:=fun b hb hz=>by
  rcases List.mem_cons.mp (I.stkSub b hz) with z | z
  ·exact absurd (Nat.lt_of_lt_of_le I.lt (Nat.le_trans hle (z ▸ hb))) (Nat.lt_irrefl _)
  ·exact I.nofs (Nat.le_trans hle hb) z
 have hcells:∀b,a<=b->∀x c,(kA scope.names X.env.cells []).lookup x=some c->c≠b:=fun b hb x c h z=>by
  obtain⟨v,q⟩:=I.cell x c (hcl x c h)
  exact absurd (Nat.lt_of_lt_of_le q.lt (Nat.le_trans hle (z ▸ hb))) (Nat.lt_irrefl _)
 have hfpok:∀{H':Hp} {pl:List (Addr×Obj)},(∀b∈fp,H' b=none)->(∀p∈pl,p.1∉fp)->∀b∈fp,my (pD X T scope C fp s H) pl H' b:=fun {H' pl} hn hp b hb =>
  y6 (.inl hb) (Nat.ne_of_lt (Nat.lt_trans (hlt b hb) haC')) (I0.ok.exfs b hb) (fun x c h=>(I0.ok.exf b hb).2 x c h) (hn b hb) fun p hp' z=>hp p hp' (z ▸ hb)
 have hAok:∀{H':Hp},H' a=none->∀b ∈ [a],my (pD X T scope C fp s H) [] H' b:=fun {H'} hn b hb=>by
  cases List.mem_singleton.mp hb
  exact y6 (.inr hle) haC (hfs a (Nat.le_refl _)) (hcells a (Nat.le_refl _)) hn fun p hp=>absurd hp (by simp)
 have hAfp:a∉fp:=fun z=>Nat.lt_irrefl _ (hlt a z)
 have loop:codeAny (model X.prog X.w) X.A (.compLoop (.ListComp elt [⟨tg,iter,ifs,0⟩] scope pos) 0 (.ref it) (.ref a) (compEnvC scope (kA scope.names X.env.cells []) C X.env))
   (RR (.ref a) C) {s with heap:=h₁,toks:=s.toks+([]:List (Str×Value)).length}:=by
  refine qR (fun n s'=>∃i σ' H' vs its k done rest,n=ds.length - i/\i<=ds.length/\L2.Inv (pD X T scope C fp s H) [] σ' H' s'/\tn i s'.heap/\(∀b∈fp,H' b=none)/\H' a=none/\iX H H' /\
   s'.heap.get? a=some {cls:=.type "list",data:=.seq (its:List Value).toArray k}/\i5 vs its/\iU X.K H' done vs/\vs.length<=i/\jK X.K H' (List.replicate T.length none++ρ) σ' /\
   lc stf cf ef (ds.drop i) (List.replicate T.length none++ρ)=some rest/\out=done++rest) ?_ ds.length
   ⟨0,_,H,[],[],0,[],out,by omega,Nat.zero_le _,I0,Tn.keep _ _ _ st (fun b hb o e=>old b o e),fun b hb=>(hf b hb).1,I.hok.fresh hle,iX.refl H,hacc,.nil,rfl,Nat.zero_le _,er.front T.length (List.replicate T.length none) (by simp),by simpa using hout,rfl⟩
  rintro n s' ⟨i,σ',H',vs,its,k,done,rest,rfl,hi,I',st',hn',hna,sm,ho,hv,hrd,hvl,er',hrest,hsum⟩
  have Ip:=I'.pinned (fp:=[a]) (hAok hna) fun b hb=>by
   cases List.mem_singleton.mp hb
   exact⟨_,ho,fun v z=>by cases z⟩
  generalize hP:([]:List (Addr×Obj))++mr [a] s'.heap=P at Ip
  have hPm:(a,({cls:=.type "list",data:=.seq its.toArray k}:Obj))∈P:=by rw[<- hP];exact List.mem_append_right _ (bo (by simp) ho)
  have hPa:∀p∈P,p.1∉fp:=fun p hp z=>by
   rw[<- hP] at hp
   obtain⟨q,_⟩:=pY hp
   rw[List.mem_singleton.mp q] at z
   exact hAfp z
  by_cases hlt':i<ds.length
  ·have hd:ds[i]?=some ds[i]:=by simp[hlt']
   obtain⟨hgo,hy⟩:=y.1 i ds[i] H' (Kp.of sm) hd
   rw[List.drop_eq_getElem_cons hlt'] at hrest
   obtain⟨ρ1,e1,hrest⟩:=iS hrest
   obtain⟨b,e2,hrest⟩:=iS hrest
   obtain⟨o,e3,hrest⟩:=iS hrest
   obtain⟨rest',e4,e5⟩:=jS hrest
   obtain⟨τ,hτ,hρ1⟩:=hst ds[i] (List.replicate T.length none) ρ ρ1 (by simp) e1
   refine jy (Tn.item (pD X T scope C fp s H) rfl rfl rfl hc i P s' σ' H' (fun _ _=>False) Ip (hfpok hn' hPa) st' hgo) fun r s1 ⟨u,hr,h4⟩=>?_
   subst hr
   refine jy h4 fun _ s2 ⟨x,H2',I2,r2,y2,st2,fr2⟩=>?_
   obtain⟨s12,rx⟩:=hy x H2' y2
   have I3:=I2.pinned (fp:=fp) (hfpok fr2 hPa) (Tn.obj _ _ st2)
   refine jy (hg C s H fp I.base.tbls _ s2 σ' H2' x u (fun σ3 H3=>iX H2' H3/\jK X.K H3 ρ1 σ3) I3 r2 ⟨_,_,ds[i],ρ1,(er'.mono s12).t,rx,e1,fun σ3 H3 s3 er3=>⟨s3,er3.1⟩⟩) fun _ s3 ⟨σ3,H3,I4,s23,er3⟩=>?_
   refine jy (hcnd C s H fp I.base.tbls _ s3 σ3 H3 (fun b' H4=>b'=b/\iX H3 H4) I4 ⟨ρ1,b,er3,e2,fun H4 s4=>⟨rfl,s4⟩⟩) fun b' s4 ⟨H4,I5,hb',s34⟩=>?_
   subst hb'
   have fin:∀{H5:Hp} {s5:Shared},L2.Inv (pD X T scope C fp s H) (P++mr fp s2.heap) σ3 H5 s5->(∀b∈fp,H5 b=none)/\H5 a=none/\s5.heap.get? a=some {cls:=.type "list",data:=.seq its.toArray k}/\(∀b∈fp,∀o,s2.heap.get? b=some o->s5.heap.get? b=some o):=fun {H5 s5} I6=>by
    refine⟨fun b hb=>?_,(I6.pin _ (List.mem_append_right _ (List.mem_append_left _ hPm))).2.1,(I6.pin _ (List.mem_append_right _ (List.mem_append_left _ hPm))).1,fun b hb o e=>(I6.pin (b,o) (List.mem_append_right _ (List.mem_append_right _ (bo hb e)))).1⟩
    obtain⟨o,e,_⟩:=Tn.obj _ _ st2 b hb
    exact(I6.pin (b,o) (List.mem_append_right _ (List.mem_append_right _ (bo hb e)))).2.1
   have unpin:∀{H5:Hp} {s5:Shared},L2.Inv (pD X T scope C fp s H) (P++mr fp s2.heap) σ3 H5 s5->L2.Inv (pD X T scope C fp s H) [] σ3 H5 s5:=fun I6=>I6.pins_of fun p hp=>absurd hp (by simp)
   have erb:∀{H5:Hp},iX H3 H5->jK X.K H5 (List.replicate T.length none++ρ) σ3:=fun s5=>by
    have z:=er3.mono s5
    rw[hρ1] at z
    have z2:=z.forget
    rw[hτ] at z2
    exact z2
   cases b' with
   | false =>
    cases e3
    rw[if_neg Bool.false_ne_true]
    obtain⟨q1,q2,q3,q4⟩:=fin I5
    have sm4:iX H H4:=sm.trans (s12.trans (s23.trans s34))
    have smr:iX H' H4:=s12.trans (s23.trans s34)
    exact⟨ds.length - (i+1),by omega,i+1,σ3,H4,vs,its,k,done,rest',rfl,hlt',unpin I5,Tn.keep _ _ _ st2 q4,q1,q2,sm4,q3,hv,hrd.mono smr,Nat.le_succ_of_le hvl,erb s34,e4,by rw[hsum,<- e5]⟩
   | true =>
    rw[if_pos rfl] at e3 ⊢
    obtain⟨yv,e6,e7⟩:=jS e3
    subst e7
    refine jy (he C s H fp I.base.tbls _ s4 σ3 H4 (fun v H5=>iX H4 H5/\Rep X.K H5 yv v) I5 ⟨ρ1,yv,er3.mono s34,e6,fun v H5 s5 r5=>⟨s5,r5⟩⟩) fun xv s5 ⟨v,H5,I6,rv,s45,ry⟩=>?_
    obtain⟨q1,q2,q3,q4⟩:=fin I6
    have hl:=hv.length
    refine call_meets F.slot_list_append ⟨_,q3,rfl⟩ F.entry_list_append (F.args_list_append_2 _ _) (PySem.list_append a its.toArray k xv (by rw[List.size_toArray];omega)) ⟨q3,?_⟩
    have q:=PySem.IsL.update q3 (fun xs=>xs.push xv)
    have sm5:iX H H5:=sm.trans (s12.trans (s23.trans (s34.trans s45)))
    have smr:iX H' H5:=s12.trans (s23.trans (s34.trans s45))
    have I7:L2.Inv (pD X T scope C fp s H) [] σ3 H5 {s5 with heap:=s5.heap.update a (Obj.mapSeq fun xs=>xs.push xv),toks:=s5.toks}:=
     (unpin I6).turned (it:=a) (t':=s5.toks) (fun b ob hb hu=>(Heap.get?_update_other s5.heap _ (Ne.symm hb)).trans hu) q2 haC (.inr hle) (hcells a (Nat.le_refl _)) fun p hp=>absurd (show p∈([]:List (Addr×Obj)) from hp) (by simp)
    refine⟨ds.length - (i+1),by omega,i+1,σ3,H5,vs++[v],its++[xv],(if (its.toArray.push xv).size==its.toArray.size then k else k+1),done++[yv],rest',rfl,hlt',I7,Tn.keep _ _ _ st2 fun b hb ob e=>?_,q1,q2,sm5,?_,hv.append (.cons rv .nil),(hrd.mono smr).append (iU.one ry),by simp;omega,erb (s34.trans s45),e4,by rw[hsum,<- e5];simp⟩
    ·have hne:b≠a:=fun z=>hAfp (z ▸ hb)
     exact(Heap.get?_update_other s5.heap _ (Ne.symm hne)).trans (q4 b hb ob e)
    ·have z:its.toArray.push xv=(its++[xv]).toArray:=by simp
     rw[<- z]
     exact q
  ·have ei:i=ds.length:=by omega
   subst ei
   rw[List.drop_length] at hrest
   cases hrest
   rw[List.append_nil] at hsum
   subst hsum
   refine jy (Tn.done (pD X T scope C fp s H) rfl rfl rfl hc ds.length P s' σ' H' (fun _ _=>False) Ip (hfpok hn' hPa) st' (y.2 _ H' (Kp.of sm) (Nat.le_refl _))) fun r s1 ⟨hr,I1⟩=>?_
   subst hr
   have ho1:=(I1.pin _ (List.mem_append_right _ hPm)).1
   have IX:L2.Inv X pins σ H' s1:=I.call' (ch:=fp) I1.os I1.base I1.hok I1.bare fun b hb=>⟨(hf b hb).2.2.2.1,(hf b hb).2.1,(hf b hb).2.2.2.2.1,(hf b hb).2.2.2.2.2⟩
   have fA:my X pins H' a:=I.fpOk hle hna
   have s2:=aH hna (.lst vs)
   refine hRR a C (upd H' a (.lst vs)) s1 vs (sm.trans s2) af (hrd.mono s2) (A0 IX fA ⟨Nat.le_trans hvl hz,its,k,hv,ho1⟩) (I.fpOk hCle ?_) (let ⟨m,q,_⟩:=I1.loc;⟨m,q⟩)
   rw[ai (Ne.symm haC)]
   exact I1.free
 exact codeAny_compStart_list loop (Tn.self _ _ _ _ _ (Tn.keep _ _ _ st fun b hb o e=>old b o e) loop)
variable{elt iter tg:Expr}{ifs:List Expr}{pos p2:Pos}{itf:R->Option LD}{stf:D->R->Option R}{cf:R->Option Bool}{ef:R->OD}
theorem dj(I:L2.Inv X pins σ H s)(ck:qS scope X.env.scope T X.N):closureFor scope X.env=pure (kA scope.names X.env.cells []):=uf fun p hp hf=>I.ok.has p.1 (ck.free p hp hf)
theorem bF(hc:X.calm=true)(hi:SI X tg iter itf)(hg:∀C s₃ H₃ fp,yk X H₃->SG (pD X T scope C fp s₃ H₃) tg stf)(hcnd:∀C s₃ H₃ fp,yk X H₃->Bp (pD X T scope C fp s₃ H₃) ifs cf)(he:∀C s₃ H₃ fp,yk X H₃->SE (pD X T scope C fp s₃ H₃) elt ef)
  (hst:pb T.length stf) (hnd:(T++X.N).Nodup) (ck:ot scope X.env.scope T X.N=true:=by rfl) (hs:∀x,foldedSetIterable iter X.env x=pure x:=by intro _;rfl) :
  SE X (.ListComp elt [⟨tg,iter,ifs,0⟩] scope pos) (lT T.length itf stf cf ef):=by
 intro pins s σ H Q I hw
 obtain⟨ρ,d,er,e,q⟩:=hw
 obtain⟨ds,e1,e⟩:=iS e
 have ck':=qh ck
 split at e
 ·rename_i hz
  obtain⟨out,e2,e3⟩:=jS e
  subst e3
  rw[eval_ListComp]
  refine wpAny_comprehension_free (use:=none) rfl hs (dj I ck') ck'.kind ck'.names ?_
  refine jy (hi pins s σ H (fun J H'=>iX H H'/\k9 X.K J ds H') I ⟨ρ,ds,er,e1,fun J H' s1 y=>⟨s1,y⟩⟩) fun v s1 h1=>jy h1 fun itv s2 h2=>?_
  obtain⟨it,fp,tn,J,H',ei,I2,Tn,st,hf,s12,y⟩:=h2
  subst ei
  refine dY (RR:=fun acc C=>compPost (model X.prog X.w) X.A X.xe none (EP X pins σ Q) acc C) I2 hc Tn st hf ck' hnd hst (er.mono s12) y hz e2 hg hcnd he ?_
  intro a C H3 s' vs sm ha hr I3 fC hns
  obtain⟨m,hm⟩:=hns
  refine⟨m,hm,fun h' hsb=>⟨.ref a,H3,?_,rfl,q _ H3 (s12.trans sm) ⟨a,vs,rfl,ha,hr⟩⟩⟩
  obtain⟨f0,f1,f2,f3,f4,f5⟩:=fC
  exact I3.turned (it:=C) (t':=s'.toks) (fun b o hb eb=>(hsb.2 b hb).trans eb) f0 f1 f3 f4 f5
 ·cases e
theorem gr{i:Nat}{x:Str}{py:Pos}{spos:Pos}(hc:X.calm=true)(hN:X.N.Nodup)(hi:SI X tg iter itf)(hg:∀C s₃ H₃ fp,yk X H₃->SG (pD X T scope C fp s₃ H₃) tg stf)(hcnd:∀C s₃ H₃ fp,yk X H₃->Bp (pD X T scope C fp s₃ H₃) ifs cf)(he:∀C s₃ H₃ fp,yk X H₃->SE (pD X T scope C fp s₃ H₃) elt ef)
  (hst:pb T.length stf) (hnd:(T++X.N).Nodup) (hix:X.N[i]?=some x:=by rfl) (hx:Loc X.env.scope x:=by first | exact Or.inl rfl | exact Or.inr rfl) (hfn:X.fn x=true\/X.env.scope.names.lookup x=some .local:=by first | exact .inl rfl | exact .inr rfl)
  (ck:ot scope X.env.scope T X.N=true:=by rfl) (hsw:swapsWith (.ListComp elt [⟨tg,iter,ifs,0⟩] scope pos) (some (.Name x py)) spos.line X.env=pure true:=by rfl) (hs:∀x,foldedSetIterable iter X.env x=pure x:=by intro _;rfl) :
  S1 X (.Assign [.Name x py] (.ListComp elt [⟨tg,iter,ifs,0⟩] scope pos) spos) (i9 (lT T.length itf stf cf ef) (setAt i)):=by
 intro pins s σ H E I hw
 obtain⟨ρ,τ,o,er,e,q⟩:=hw
 obtain⟨d,e0,e⟩:=iS e
 obtain⟨ρ',e9,e⟩:=jS e
 subst e
 unfold setAt at e9
 split at e9
 case isFalse=>cases e9
 case isTrue hlt =>
 cases e9
 obtain⟨ds,e1,e⟩:=iS e0
 have ck':=qh ck
 split at e
 ·rename_i hz
  obtain⟨out,e2,e3⟩:=jS e
  subst e3
  rw[exec_Assign_Name_used _ _ _ _ hsw]
  refine wpAny_bind (wpAny_standAt (wpAny_bind ?_))
  show wpAny _ X.A (do let _ <- comprehension (.ListComp elt [⟨tg,iter,ifs,0⟩] scope pos) scope X.env _ (newList []) false (eval iter X.env) (some (assign (.Name x py) X.env))) _ _ s
  refine wpAny_bind (wpAny_mono (wpAny_comprehension_free (use:=some (assign (.Name x py) X.env)) (Q:=fun _ s'=>SP X pins E .next s') rfl hs (dj I ck') ck'.kind ck'.names ?_) (fun _ s' hq=>wpAny_pure (wpAny_pure hq)) fun _ _ z=>z)
  refine jy (hi pins s σ H (fun J H'=>iX H H'/\k9 X.K J ds H') I ⟨ρ,ds,er.1,e1,fun J H' s1 y=>⟨s1,y⟩⟩) fun v s1 h1=>jy h1 fun itv s2 h2=>?_
  obtain⟨it,fp,tn,J,H',ei,I2,Tn,st,hf,s12,y⟩:=h2
  subst ei
  refine dY (RR:=fun acc C=>compPost (model X.prog X.w) X.A X.xe (some (assign (.Name x py) X.env)) (fun _ s'=>SP X pins E .next s') acc C) I2 hc Tn st hf ck' hnd hst (er.1.mono s12) y hz e2 hg hcnd he ?_
  intro a C H3 s' vs sm ha hr I3 fC hns
  obtain⟨m,hm⟩:=hns
  obtain⟨f0,f1,f2,f3,f4,f5⟩:=fC
  show wpAny _ X.A (assign (.Name x py) X.env (.ref a)) _ _ _
  refine wpAny_assign_Name (pO (v:=.ref a) I3 hN hix hx rfl (fun s'' I4 ⟨b,hsb,hb⟩=>?_) hfn)
  have hCb:C≠b:=by
   rcases hb with z | z
   ·exact z ▸ f1
   ·exact Ne.symm (f4 x b z)
  refine⟨m,hm.sameBut hsb hCb,fun h' hsb2=>⟨σ.set i (some (.ref a)),H3,I4.turned (it:=C) (t':=s''.toks) (fun b o hb eb=>(hsb2.2 b hb).trans eb) f0 f1 f3 f4 f5,q H3 (s12.trans sm) _ ?_⟩⟩
  exact(er.mono (s12.trans sm)).set hlt ⟨a,vs,rfl,ha,hr⟩
 ·cases e
end
end HW
namespace HW
open PySem
mutual
def toPy:D->PyData
 | .non=>.none
 | .bl b=>.bool b
 | .int i=>.int i
 | .str x=>.str x
 | .tup xs=>.tuple (jt xs)
 | .lst xs=>.list (jt xs)
 | .fro xs=>.list (jt xs)
 | .obj ..=>.dict []
 | .dct ..=>.dict []
 | .dcp ..=>.dict []
 | .cl ..=>.dict []
def jt:LD->List PyData
 | []=>[]
 | d::ds=>toPy d::jt ds
end
mutual
theorem dZ:∀{d:D},(toPy d).hasDict=false->lp d=true
 | .non,_=>rfl
 | .bl _,_=>rfl
 | .int _,_=>rfl
 | .str _,_=>rfl
 | .tup xs,h=>bP (xs:=xs) (by simpa [toPy,PyData.hasDict] using h)
 | .lst xs,h=>bP (xs:=xs) (by simpa [toPy,PyData.hasDict] using h)
 | .fro xs,h=>bP (xs:=xs) (by simpa [toPy,PyData.hasDict] using h)
 | .obj ..,h=>by simp[toPy,PyData.hasDict] at h
 | .dct ..,h=>by simp[toPy,PyData.hasDict] at h
 | .dcp ..,h=>by simp[toPy,PyData.hasDict] at h
 | .cl ..,h=>by simp[toPy,PyData.hasDict] at h
theorem bP:∀{xs:LD},PyData.hasDictAll (jt xs)=false->jF xs=true
 | [],_=>rfl
 | x::xs,h=>by
  have h':((toPy x).hasDict||PyData.hasDictAll (jt xs))=false:=by simpa [jt,PyData.hasDictAll] using h
  rw[Bool.or_eq_false_iff] at h'
  show(lp x&&jF xs)=true
  rw[dZ h'.1,bP h'.2];rfl
end
def nQ:LD->OD
 | [.tup ds]=>if (toPy (.tup ds)).showable=true/\(toPy (.tup ds)).hasDict=false/\(toPy (.tup ds)).depth<=100/\(toPy (.tup ds)).shown.length<=sizeLine then some (.str (toPy (.tup ds)).shown) else none
 | _=>none
end HW
set_option maxHeartbeats 1000000
namespace HW
open PySem PySem.Spec PyProof.Rows L2
section
variable{X:Cx}
theorem gi:zZ X (.type "int") rh:=vm.imp fun xs H Q ⟨ds,d,r,e,q⟩=>by
 match ds,e with
 | [.int i],e =>
  cases e
  obtain⟨v,r',rfl,r1,r2⟩:=r
  cases (show v=_ from r1)
  cases (show r'=[] from r2)
  exact .inl ⟨i,rfl,q _ H (iX.refl H) rfl⟩
 | [.bl b],e =>
  cases e
  obtain⟨v,r',rfl,r1,r2⟩:=r
  cases (show v=_ from r1)
  cases (show r'=[] from r2)
  exact .inr ⟨b,rfl,q _ H (iX.refl H) rfl⟩
mutual
theorem kP{pins:List (Addr×Obj)}{σ:L2.St}{H:Hp}{s:Shared}(I:L2.Inv X pins σ H s):∀{d:D} {v:V} {u:Value},lp d=true->Rep X.K H d v->RelV v u->∃as,Reads s.heap u (toPy d) as
 | .non,v,u,hn,h,r=>by
  cases (show v=_ from h)
  cases (show u=_ from r)
  exact⟨_,.none⟩
 | .bl b,v,u,hn,h,r=>by
  cases (show v=_ from h)
  cases (show u=_ from r)
  exact⟨_,.bool b⟩
 | .int i,v,u,hn,h,r=>by
  cases (show v=_ from h)
  obtain⟨t,rfl⟩:=r
  exact⟨_,.int i t⟩
 | .str x,v,u,hn,h,r=>by
  cases (show v=_ from h)
  obtain⟨t,rfl⟩:=r
  exact⟨_,.str x t⟩
 | .tup ds,v,u,hn,h,r=>by
  obtain⟨a,xs,rfl,q,t⟩:=h
  cases (show u=_ from r)
  obtain⟨its,rv,⟨o,e,c,n,dd⟩,_⟩:=I.tuple q
  obtain⟨as,ra⟩:=lj I hn t rv
  exact⟨_,.tuple e c dd (by simpa using ra)⟩
 | .lst ds,v,u,hn,h,r=>by
  obtain⟨a,xs,rfl,q,t⟩:=h
  cases (show u=_ from r)
  obtain⟨its,rv,⟨o,n,e,c,_,dd⟩,_⟩:=I.list (k4.of q)
  obtain⟨as,ra⟩:=lj I hn t rv
  exact⟨_,.list e c dd (by simpa using ra)⟩
 | .fro ds,v,u,hn,h,r=>by
  obtain⟨a,xs,rfl,q,t⟩:=h
  cases (show u=_ from r)
  obtain⟨its,rv,⟨o,n,e,c,_,dd⟩,_⟩:=I.list q
  obtain⟨as,ra⟩:=lj I hn t rv
  exact⟨_,.list e c dd (by simpa using ra)⟩
 | .obj ..,v,u,hn,h,r=>by cases hn
 | .dct ..,v,u,hn,h,r=>by cases hn
 | .dcp ..,v,u,hn,h,r=>by cases hn
 | .cl ..,v,u,hn,h,r=>by cases hn
theorem lj{pins:List (Addr×Obj)}{σ:L2.St}{H:Hp}{s:Shared}(I:L2.Inv X pins σ H s):∀{ds:LD} {vs:List V} {us:List Value},jF ds=true->iU X.K H ds vs->i5 vs us->∃as,ReadsAll s.heap us (jt ds) as
 | [],vs,us,hn,h,r=>by
  cases (show vs=[] from h)
  cases r
  exact⟨_,.nil⟩
 | d::ds,vs,us,hn,h,r=>by
  have hn':(lp d&&jF ds)=true:=hn
  rw[Bool.and_eq_true] at hn'
  obtain⟨v,vr,rfl,h1,h2⟩:=h
  cases r with
  | cons r1 r2 =>
   obtain⟨as,q1⟩:=kP I hn'.1 h1 r1
   obtain⟨bs,q2⟩:=lj I hn'.2 h2 r2
   exact⟨_,.cons q1 q2⟩
end
theorem eK{k:Nat}(hr:jo k X.A):zZ X (.builtin "repr") nQ:=by
 intro pins s σ H xs us Q I r h
 obtain⟨ds,d,rs,e,q⟩:=h
 match ds,e with
 | [.tup ys],e =>
  unfold nQ at e
  dsimp only at e
  split at e
  ·rename_i hc
   obtain⟨h1,h2,h3,h4⟩:=hc
   cases e
   obtain⟨v,r',rfl,r1,r2⟩:=rs
   cases (show r'=[] from r2)
   obtain⟨u,rfl,ru⟩:=r.one
   obtain⟨as,rd⟩:=kP I (dZ h2) r1 ru
   obtain⟨a,zs,rfl,_⟩:=r1
   cases (show u=_ from ru)
   refine repr_of_reads' rd h1 (PyData.noDict_hsm h2) hr.gd ?_ (fun _ _ e=>e) (fun h' t tk hk=>?_) h4
   ·have:=hr.un
    omega
   ·exact⟨.str _,H,I.kept hk,⟨t,rfl⟩,q _ H (iX.refl H) rfl⟩
  ·cases e
end
def jE(a:Addr)(xs:List V):HO:=.ext fun h=>xs.length<=sizeLine/\∃(its:List Value) (n:Nat),i5 xs its/\h.get? a=some {cls:=.type "list",data:=.seq its.toArray n}
section
variable{X:Cx}{pins:List (Addr×Obj)}{σ:L2.St}{H:Hp}{s:Shared}{a:Addr}{xs:List V}
theorem cL(I:L2.Inv X pins σ H s)(h:H a=some (jE a xs)):xs.length<=sizeLine/\∃(its:List Value) (n:Nat),i5 xs its/\s.heap.get? a=some {cls:=.type "list",data:=.seq its.toArray n}:=(I.hok a _ h).1
theorem nA(I:L2.Inv X pins σ H s)(h:H a=some (.lst xs)):L2.Inv X pins σ (upd H a (jE a xs)) s:=by
 obtain⟨z,its,n,r,e⟩:=I.hok a _ h
 have:=I.write (t':=s.toks) (h':=s.heap) (o:=jE a xs) (x:=a) (e:=a) (by rw[h];trivial) (.inl rfl) (fun _ _ _ q=>q) ⟨_,e⟩ ⟨⟨z,its,n,r,e⟩,⟨_,e⟩,fun h1 h2 ⟨z,its,n,r,e⟩ k=>⟨z,its,n,r,k _ e⟩⟩
 exact this
theorem nB(I:L2.Inv X pins σ H s)(h:H a=some (jE a xs)):L2.Inv X pins σ (upd H a (.lst xs)) s:=by
 obtain⟨z,its,n,r,e⟩:=cL I h
 have:=I.write (t':=s.toks) (h':=s.heap) (o:=.lst xs) (x:=a) (e:=a) (by rw[h];trivial) (.inl rfl) (fun _ _ _ q=>q) ⟨_,e⟩ ⟨z,its,n,r,e⟩
 exact this
def jM(a:Addr)(H H':Hp):Prop:=∀b u,b≠a->H b=some u->H' b=some u
theorem jM.of{H H':Hp}(h:iX H H'):jM a H H':=fun b u _ e=>h b u e
theorem jM.trans{H H1 H2:Hp}(h:jM a H H1)(h':jM a H1 H2):jM a H H2:=fun b u n e=>h' b u n (h b u n e)
theorem jM.upd{o:HO}:jM a H (upd H a o):=fun b u n e=>by rw[ai n];exact e
theorem jM.kp{H H':Hp}(h:jM a H H')(ho:H a=some (jE a xs)):Kp H H':=fun b u e n=>by
 by_cases hb:b=a
 ·subst hb
  rw[ho] at e
  cases e
  exact absurd rfl (n _)
 ·exact h b u hb e
end
section
variable(K:W.Frag)
def Cq(u:R->LD->Option (Out×LD)):TS:=fun E σ H=>∃ ρ τ a ds xs o ds',jC K H ρ (some (.ref a)::τ) σ/\H a=some (jE a xs)/\iU K H ds xs/\u ρ ds=some (o,ds') /\
 ∀H' xs',jM a H H'->H' a=some (jE a xs')->iU K H' ds' xs'->fin K E (some (.ref a)::τ) o H'
def C3(u:R->LD->Option Out):TS:=fun E σ H=>∃ ρ τ a ds xs o,jC K H ρ (some (.ref a)::τ) σ/\H a=some (jE a xs)/\iU K H ds xs/\u ρ ds=some o/\∀H',jM a H H'->fin K E τ o H'
end
def OS(X:Cx)(st:Stmt)(u:R->LD->Option (Out×LD)):Prop:=PS X st (Cq X.K u)
def Cu(X:Cx)(sts:List Stmt)(u:R->LD->Option (Out×LD)):Prop:=PSs X sts (Cq X.K u)
def OB(X:Cx)(sts:List Stmt)(u:R->LD->Option Out):Prop:=PSs X sts (C3 X.K u)
section
variable{X:Cx}{st:Stmt}{sts:List Stmt}{u:R->Option Out}{p q:R->LD->Option (Out×LD)}{pos:Pos}
theorem gt(h:OS X st p):Cu X [st] p:=bz h
theorem ia{tg iter:Expr}{B:List Stmt}{it:R->Option LD}{stf:D->R->Option R}(hp:PassesOwn (model X.prog X.w) X.A X.env X.xe)(hc:X.calm=true)(hi:SI X tg iter it)(hg:SG X tg stf)(hb:Cu X B p)
  (hs:∀x,foldedSetIterable iter X.env x=pure x:=by intro _;rfl):OS X (.For tg iter B [] pos) (tF it stf p):=(dF hp hc hi hg hb hs).imp fun E σ H ⟨ρ,τ,a,ls,xs,o,ls',er,ho,rp,e,q⟩=>by
 obtain⟨ds,e1,e⟩:=iS e
 refine⟨ρ,ds,er.1,e1,fun J H1 s1 y=>?_⟩
 refine⟨fun i m σ' H'=>m=ds.length - i/\i<=ds.length/\jM a H1 H'/\∃ ρ' l xs',jC X.K H' ρ' (some (.ref a)::τ) σ'/\H' a=some (jE a xs')/\iU X.K H' l xs'/\tY stf p (ds.drop i) ρ' l=some (o,ls'),
  ⟨ds.length,by simp,Nat.zero_le _,jM.of (iX.refl _),ρ,ls,xs,er.mono s1,s1 _ _ ho,rp.mono s1,by simpa using e⟩,?_⟩
 rintro i m σ' H' ⟨rfl,hi,s2,ρ',l,xs',er',ho',rp',e'⟩
 have kp:Kp H1 H':=s2.kp (s1 _ _ ho)
 by_cases hlt:i<ds.length
 ·refine .inr ?_
  have hd:ds[i]?=some ds[i]:=by simp[hlt]
  obtain⟨hgo,hy⟩:=y.1 i ds[i] H' kp hd
  rw[List.drop_eq_getElem_cons hlt] at e'
  obtain⟨ρ1,e2,e'⟩:=iS e'
  obtain⟨⟨o1,l1⟩,e3,e'⟩:=iS e'
  refine⟨hgo,fun σ2 H2=>i+1<=ds.length/\jM a H1 H2/\∃ ρ' l xs',jC X.K H2 ρ' (some (.ref a)::τ) σ2/\H2 a=some (jE a xs')/\iU X.K H2 l xs'/\tY stf p (ds.drop (i+1)) ρ' l=some (o,ls'),
   fun σ2 H2 n2=>⟨ds.length - (i+1),by omega,rfl,n2.1,n2.2⟩,fun x H3 yx=>?_⟩
  obtain⟨s3,rx⟩:=hy x H3 yx
  refine⟨ρ',_,ds[i],ρ1,er'.mono s3,rx,e2,fun σ4 H4 s4 er4=>⟨ρ1,τ,a,l,xs',o1,l1,er4,s4 _ _ (s3 _ _ ho'),(rp'.mono s3).mono s4,e3,fun H5 xs5 k5 ho5 rp5=>?_⟩⟩
  have s15:jM a H1 H5:=s2.trans ((jM.of s3).trans ((jM.of s4).trans k5))
  cases o1 with
  | nx ρ2=>exact fun σ6 er6=>⟨hlt,s15,ρ2,l1,xs5,er6,ho5,rp5,e'⟩
  | ct ρ2=>exact fun σ6 er6=>⟨hlt,s15,ρ2,l1,xs5,er6,ho5,rp5,e'⟩
  | bk ρ2=>cases e';exact fun σ6 er6=>q H5 xs5 ((jM.of s1).trans s15) ho5 rp5 σ6 er6
  | rt d=>cases e';exact q H5 xs5 ((jM.of s1).trans s15) ho5 rp5
 ·have e4:i=ds.length:=by omega
  subst e4
  rw[List.drop_length] at e'
  cases e'
  exact .inl ⟨y.2 _ H' kp (Nat.le_refl _),q H' xs' ((jM.of s1).trans s2) ho' rp' σ' er'⟩
theorem dt{K:W.Frag}{H:Hp}{ρ:R}{v:V}{τ σ:L2.St}(er:jC K H ρ (some v::τ) σ):σ[ρ.length]?=some (some v):=by
 have:=er.2
 have h0:(σ.drop ρ.length)[0]?=some (some v):=by rw[this];rfl
 rw[List.getElem?_drop] at h0
 simpa using h0
theorem iE{x name:Str}{e:Expr}{px ap cp:Pos}{f:R->OD}{id:String}{r:V->List V->Hp->VK->Prop}{g:LD->D->Option LD}{u:R->LD->Option (Out×LD)}(i:Nat)(slot:Slot "list" name id)(hty:typeOf (.builtin id)=pure (.type "method_descriptor"))(hm:B6 X id r)
  (hu:∀ ρ ds o ds',u ρ ds=some (o,ds')->ρ.length=i/\o=.nx ρ/\∃d,f ρ=some d/\g ds d=some ds')
  (hr:∀(H:Hp) (a:Addr) (xs:List V) (v:V) (ds ds':LD) (d:D) (Q:VK),H a=some (jE a xs)->iU X.K H ds xs->Rep X.K H d v->g ds d=some ds'->(∀xs',iU X.K H ds' xs'->Q .non (upd (upd H a (.lst xs)) a (.lst xs')))->r (.ref a) [v] (upd H a (.lst xs)) Q)
  (he:SE X e f) (hN:X.N[i]?=some x:=by rfl) (hv:rN X.env.scope x:=by first | exact Or.inl rfl | exact Or.inr (Or.inl rfl) | exact Or.inr (Or.inr rfl)) (hd:(x==("__debug__" : Str))=false:=by decide) (hcd:(x==("__classdict__" : Str))=false:=by decide)
  (hbase:attributeBase (.Name x px) name X.env (eval (.Name x px) X.env)=eval (.Name x px) X.env:=by rfl) (hst:noStar e=true:=by rfl)
  (hline:(ap.endLine==cp.line)=true:=by rfl) (hs:swapsWith (.Call (.Attribute (.Name x px) name ap) [e] [] cp) none pos.line X.env=pure false:=by rfl) :
  OS X (.Expr (.Call (.Attribute (.Name x px) name ap) [e] [] cp) pos) u:=by
 intro pins s σ H E I ⟨ρ,τ,a,ds,xs,o,ds',er,ho,rp,eu,qq⟩
 obtain⟨hi,rfl,d,e1,e2⟩:=hu ρ ds o ds' eu
 have hσ:=dt er
 rw[hi] at hσ
 have hst1:=aw [] X.env hst
 refine wpAny_Expr_any (wpAny_Call_method_late hbase ?_ hline rfl (jy ((pv i (pos:=px) hN hv hd hcd) pins s σ H (fun v H1=>v=.ref a/\H1=H) I ⟨.ref a,hσ,rfl,rfl⟩) fun v s1 ⟨y,H1,I1,r1,ey,eH⟩=>?_)) I.quiet hs
 ·rw[hst1]
  rfl
 subst ey eH
 cases (show v=_ from r1)
 obtain⟨z,its,n,rv,eo⟩:=cL I1 ho
 refine⟨"list",id,PySem.F.plainAttrs_list,slot,hty,⟨_,eo,rfl⟩,fun b eb=>?_,?_⟩
 ·cases eb
  exact⟨_,eo,rfl⟩
 have hA:=(aa he ad hst).1 cp pins s1 σ H1 (fun vs H2=>iX H1 H2/\iU X.K H2 [d] vs) I1 ⟨ρ,[d],er.1,by show(f ρ).bind _=_;rw[e1];rfl,fun vs H2 s2 r2=>⟨s2,r2⟩⟩
 rw[hst1] at hA ⊢
 refine Calls.callWith_builtin rfl (Calls.evalArgs_plain ?_)
 refine jy hA fun us s2 ⟨vs,H2,I2,r2,s12,rd⟩=>?_
 obtain⟨w,w',rfl,rw1,rw2⟩:=rd
 cases (show w'=[] from rw2)
 have ho2:=s12 _ _ ho
 have I3:=nB I2 ho2
 refine jy (hm pins s2 σ (upd H2 a (.lst xs)) (.ref a) [w] (.ref a) us (fun v H3=>∃xs',iU X.K H2 ds' xs'/\H3=upd (upd H2 a (.lst xs)) a (.lst xs')) I3 rfl r2 (hr H2 a xs w ds ds' d _ ho2 (rp.mono s12) rw1 e2 fun xs' rp'=>⟨xs',rp',rfl⟩)) fun v s3 ⟨v',H3,I4,_,xs',rp',e3⟩=>?_
 subst e3
 have I5:=nA I4 af
 generalize hH5:upd (upd (upd H2 a (.lst xs)) a (.lst xs')) a (jE a xs')=H5 at I5
 have k25:jM a H2 H5:=by
  subst hH5
  exact jM.upd.trans (jM.upd.trans jM.upd)
 have ho5:H5 a=some (jE a xs'):=by subst hH5;exact af
 have k15:jM a H1 H5:=(jM.of s12).trans k25
 refine⟨σ,H5,I5,qq H5 xs' k15 ho5 (rp'.kp (k25.kp ho2)) σ (er.kp (k15.kp ho))⟩
theorem iz{x:Str}{e:Expr}{px ap cp:Pos}{f:R->OD}(i:Nat)(he:SE X e f)(hN:X.N[i]?=some x:=by rfl)(hv:rN X.env.scope x:=by first | exact Or.inl rfl | exact Or.inr (Or.inl rfl) | exact Or.inr (Or.inr rfl))(hd:(x==("__debug__" : Str))=false:=by decide)(hcd:(x==("__classdict__" : Str))=false:=by decide)
  (hbase:attributeBase (.Name x px) "append" X.env (eval (.Name x px) X.env)=eval (.Name x px) X.env:=by rfl) (hst:noStar e=true:=by rfl)
  (hline:(ap.endLine==cp.line)=true:=by rfl) (hs:swapsWith (.Call (.Attribute (.Name x px) "append" ap) [e] [] cp) none pos.line X.env=pure false:=by rfl) :
  OS X (.Expr (.Call (.Attribute (.Name x px) "append" ap) [e] [] cp) pos) (se i f):=by
 refine iE (g:=fun ds d=>if ds.length<sizeLine then some (ds++[d]) else none) (f:=f) i PySem.F.slot_list_append PySem.F.type_list_append cB ?_ ?_ he hN hv hd hcd hbase hst hline hs
 ·intro ρ ds o ds' h
  obtain⟨d,e1,h⟩:=iS h
  split at h
  ·rename_i hc
   cases h
   exact⟨hc.1,rfl,d,e1,if_pos hc.2⟩
  ·cases h
 ·intro H a xs v ds ds' d Q ho rp rd e q
  split at e
  ·rename_i hc
   cases e
   exact⟨a,xs,v,rfl,rfl,af,by rw[<- rp.length];exact hc,q _ (rp.append (iU.one rd))⟩
  ·cases e
theorem gR{w:R->LD->Option Out}(h1:OS X st p)(h2:OB X sts w):OB X (st::sts) (xF p w):=(aL h1 h2).imp fun E σ H ⟨ρ,τ,a,ds,xs,o,er,ho,rp,e,qq⟩=>by
 obtain⟨⟨o1,ds1⟩,e1,e⟩:=iS e
 refine⟨ρ,τ,a,ds,xs,o1,ds1,er,ho,rp,e1,fun H1 xs1 k1 ho1 rp1=>?_⟩
 cases o1 with
 | nx ρ2=>exact fun σ2 er2=>⟨ρ2,τ,a,ds1,xs1,o,er2,ho1,rp1,e,fun H2 k2=>qq H2 (k1.trans k2)⟩
 | rt d=>cases e;exact qq H1 k1
 | bk ρ2=>cases e
 | ct ρ2=>cases e
theorem ik(h:SS X sts u):OB X sts (xA u):=by
 intro pins s σ H E I ⟨ρ,τ,a,ds,xs,o,er,ho,rp,e,qq⟩
 have I2:=nB I ho
 have k:jM a H (upd H a (.lst xs)):=jM.upd
 have hσ:=dt er
 have er2:=er.kp (k.kp ho)
 refine h pins s σ _ E I2 ⟨ρ++[some (D.lst ds)],τ,o,⟨⟨?_,fun i d hd=>?_⟩,?_⟩,(show u (ρ++[some (D.lst ds)])=some o from e),fun H' s'=>qq H' (k.trans (jM.of s'))⟩
 ·have:=(List.getElem?_eq_some_iff.mp hσ).1
  rw[List.length_append,List.length_singleton]
  exact this
 ·by_cases hi:i<ρ.length
  ·rw[List.getElem?_append_left hi] at hd
   exact er2.1.2 i d hd
  ·by_cases hi2:i=ρ.length
   ·subst hi2
    rw[List.getElem?_append_right (Nat.le_refl _),Nat.sub_self] at hd
    cases hd
    exact⟨_,hσ,a,xs,rfl,af,rp.kp (k.kp ho)⟩
   ·rw[List.getElem?_eq_none (by simp;omega)] at hd
    cases hd
 ·rw[List.length_append,List.length_singleton,<- List.drop_drop,er.2]
  rfl
theorem ir{x:Str}{es:List Expr}{F:R->Option LD}{w:R->LD->Option Out}{px p1:Pos}(i:Nat)(hN:X.N.Nodup)(hF:SA X es F)(h2:OB X sts w)(hix:X.N[i]?=some x:=by rfl)(hx:Loc X.env.scope x:=by first | exact Or.inl rfl | exact Or.inr rfl)
  (hl:Nat.ble es.length 1000=true:=by rfl) (hs:swapsWith (.List es p1) (some (.Name x px)) pos.line X.env=pure false:=by rfl) (hf:X.fn x=true\/X.env.scope.names.lookup x=some .local:=by first | exact .inl rfl | exact .inr rfl) :
  SS X (.Assign [.Name x px] (.List es p1) pos::sts) (zr i F w):=by
 intro pins s σ H E I ⟨ρ,τ,o,er,e,qq⟩
 obtain⟨ds,e1,e⟩:=iS e
 split at e
 case isFalse=>cases e
 case isTrue hlen =>
 refine wpAny_execs_cons (jy ((bR (i:=i) hN hix hx (cC hF.1) hs hf) pins s σ H {E with nx:=fun σ' H'=>∃a vs H1,σ'=σ.set i (some (.ref a))/\H'=upd H1 a (.lst vs)/\H1 a=none/\iX H H1/\iU X.K H1 ds vs} I ?_) fun f s1 q=>?_)
 ·refine⟨ρ,ds,er.1,e1,fun vs H1 s1 r1=>⟨?_,fun a ha=>⟨a,vs,H1,rfl,rfl,ha,s1,r1⟩⟩⟩
  rw[<- r1.length,hF.2.1 ρ ds e1]
  exact Nat.le_of_lt (nr (Nat.le_of_ble_eq_true hl))
 cases f with
 | next =>
  obtain⟨σ',H',I',a,vs,H1,rfl,rfl,ha,s1',r1⟩:=q
  have I2:=nA I' af
  generalize hH2:upd (upd H1 a (.lst vs)) a (jE a vs)=H2 at I2
  have k12:jM a H1 H2:=by
   subst hH2
   exact jM.upd.trans jM.upd
  have s12:iX H1 H2:=fun b u hb=>k12 b u (fun z=>by rw[z,ha] at hb;cases hb) hb
  have ho2:H2 a=some (jE a vs):=by subst hH2;exact af
  have hσi:i<σ.length:=Nat.lt_of_lt_of_le (by omega) er.1.1
  refine h2 pins s1 _ H2 E I2 ⟨ρ.take i,τ,a,ds,vs,o,⟨⟨?_,fun j d hd=>?_⟩,?_⟩,ho2,r1.mono s12,e,fun H' k=>qq H' fun b u hb=>?_⟩
  ·simp
   omega
  ·have hj:j<i:=by
    have:=(List.getElem?_eq_some_iff.mp hd).1
    simp at this
    omega
   rw[List.getElem?_take_of_lt hj] at hd
   obtain⟨v,h1,h2⟩:=er.1.2 j d hd
   exact⟨v,by rw[List.getElem?_set_ne (by omega)];exact h1,(h2.mono s1').mono s12⟩
  ·have hd:σ.drop (i+1)=τ:=by rw[<- hlen];exact er.2
   rw[List.length_take,Nat.min_eq_left (by omega),List.drop_eq_getElem_cons (by simpa using hσi)]
   congr 1
   ·simp
   ·rw[List.drop_set_of_lt (by omega)]
    exact hd
  ·have hb2:=s12 _ _ (s1' _ _ hb)
   exact k b u (fun z=>by
    have q:=s1' _ _ hb
    rw[z,ha] at q
    cases q) hb2
 | brk=>exact q
 | cont=>exact q
 | ret v=>exact q
end
mutual
theorem cx:∀d:D,j6 d=true->(toPy d).canLay0=true
 | .non,_=>by simp[toPy,PyData.canLay0]
 | .bl _,_=>by simp[toPy,PyData.canLay0]
 | .int _,_=>by simp[toPy,PyData.canLay0]
 | .str _,h=>by rw[j6] at h;simpa [toPy,PyData.canLay0,PyData.strOk] using h
 | .tup ds,h=>by rw[toPy,PyData.canLay0];exact cb ds h
 | .lst ds,h=>by rw[toPy,PyData.canLay0];exact cb ds h
 | .fro ds,h=>by rw[toPy,PyData.canLay0];exact cb ds h
 | .obj ..,h=>by cases h
 | .dct ..,h=>by cases h
 | .dcp ..,h=>by cases h
 | .cl ..,h=>by cases h
theorem cb:∀ds:LD,ka ds=true->PyData.canLayAll0 (jt ds)=true
 | [],_=>by simp[jt,PyData.canLayAll0]
 | d::ds,h=>by
  have h':(j6 d&&ka ds)=true:=h
  rw[Bool.and_eq_true] at h'
  rw[jt,PyData.canLayAll0,cx d h'.1,cb ds h'.2];rfl
end
mutual
theorem ee:∀d:D,lp d=true->(toPy d).depth=j7 d
 | .non,_=>by simp[toPy,PyData.depth,j7]
 | .bl _,_=>by simp[toPy,PyData.depth,j7]
 | .int _,_=>by simp[toPy,PyData.depth,j7]
 | .str _,_=>by simp[toPy,PyData.depth,j7]
 | .tup ds,h=>by rw[toPy,PyData.depth,j7,cM ds h]
 | .lst ds,h=>by rw[toPy,PyData.depth,j7,cM ds h]
 | .fro ds,h=>by rw[toPy,PyData.depth,j7,cM ds h]
 | .obj ..,h=>by cases h
 | .dct ..,h=>by cases h
 | .dcp ..,h=>by cases h
 | .cl ..,h=>by cases h
theorem cM:∀ds:LD,jF ds=true->PyData.depthAll (jt ds)=kL ds
 | [],_=>by simp[jt,PyData.depthAll,kL]
 | d::ds,h=>by
  have h':(lp d&&jF ds)=true:=h
  rw[Bool.and_eq_true] at h'
  rw[jt,PyData.depthAll,kL,ee d h'.1,cM ds h'.2]
end
mutual
theorem qZ:∀x y:D,lp x=true->lp y=true->PyData.eqv (toPy x) (toPy y)=l8 x y
 | .non,y,_,h=>by cases y<;>first | rfl | cases h
 | .bl a,y,_,h=>by cases y<;>first | rfl | cases h
 | .int a,y,_,h=>by cases y<;>first | rfl | cases h
 | .str a,y,_,h=>by cases y<;>first | rfl | cases h
 | .tup xs,y,g,h=>by
  cases y with
  | tup ys=>exact l6 xs ys g h
  | obj _ _ _ _=>cases h
  | dct _ _=>cases h
  | dcp _ _=>cases h
  | cl _ _ _=>cases h
  | _=>rfl
 | .lst xs,y,g,h=>by
  cases y with
  | lst ys=>exact l6 xs ys g h
  | fro ys=>exact l6 xs ys g h
  | obj _ _ _ _=>cases h
  | dct _ _=>cases h
  | dcp _ _=>cases h
  | cl _ _ _=>cases h
  | _=>rfl
 | .fro xs,y,g,h=>by
  cases y with
  | lst ys=>exact l6 xs ys g h
  | fro ys=>exact l6 xs ys g h
  | obj _ _ _ _=>cases h
  | dct _ _=>cases h
  | dcp _ _=>cases h
  | cl _ _ _=>cases h
  | _=>rfl
 | .obj ..,y,g,h=>by cases g
 | .dct ..,y,g,h=>by cases g
 | .dcp ..,y,g,h=>by cases g
 | .cl ..,y,g,h=>by cases g
theorem l6:∀xs ys:LD,jF xs=true->jF ys=true->PyData.eqvAll (jt xs) (jt ys)=mw xs ys
 | [],[],_,_=>rfl
 | [],_::_,_,_=>rfl
 | _::_,[],_,_=>rfl
 | x::xs,y::ys,g,h=>by
  have g':(lp x&&jF xs)=true:=g
  have h':(lp y&&jF ys)=true:=h
  rw[Bool.and_eq_true] at g' h'
  show(PyData.eqv (toPy x) (toPy y)&&PyData.eqvAll (jt xs) (jt ys))=(l8 x y&&mw xs ys)
  rw[qZ x y g'.1 h'.1,l6 xs ys g'.2 h'.2]
end
section
variable{X:Cx}
theorem pS{k:Nat}(hr:jo k X.A){dx dy:D}(h:j7 dx<=100)(hn:lp dx=true):X.A.units+min (toPy dx).depth (toPy dy).depth<cLine:=by
 have h1:=hr.un
 have h2:min (toPy dx).depth (toPy dy).depth<=100:=by rw[ee dx hn];omega
 omega
theorem ig{k:Nat}(hr:jo k X.A):xN X .Eq pK:=by
 intro pins s σ H x y v u Q I rx ry h
 obtain⟨dx,dy,b,r1,r2,e,q⟩:=h
 unfold pK at e
 split at e
 ·rename_i hd
  cases e
  obtain⟨as,ra⟩:=kP I (aF hd.2.1) r1 rx
  obtain⟨bs,rb⟩:=kP I (aF hd.2.2) r2 ry
  have z:=SeqAt.rcAt_reads ra rb (cx dx hd.2.1) (cx dy hd.2.2) (pS (dy:=dy) hr hd.1 (aF hd.2.1))
  rw[qZ _ _ (aF hd.2.1) (aF hd.2.2)] at z
  exact z _ _ _ _ ⟨.bl (l8 dx dy),H,I,rfl,q⟩
 ·cases e
theorem ie{k:Nat}(hr:jo k X.A):xN X .NotEq qK:=by
 intro pins s σ H x y v u Q I rx ry h
 obtain⟨dx,dy,b,r1,r2,e,q⟩:=h
 unfold qK pK at e
 split at e
 ·rename_i hd
  cases e
  obtain⟨as,ra⟩:=kP I (aF hd.2.1) r1 rx
  obtain⟨bs,rb⟩:=kP I (aF hd.2.2) r2 ry
  have z:=SeqAt.rcNeAt_reads ra rb (cx dx hd.2.1) (cx dy hd.2.2) (pS (dy:=dy) hr hd.1 (aF hd.2.1))
  rw[qZ _ _ (aF hd.2.1) (aF hd.2.2)] at z
  exact PySem.EqBoolInt.of_rcne z ⟨.bl (!l8 dx dy),H,I,rfl,q⟩
 ·cases e
end
section
variable{prog:Program}{w:World}{A:Around}{R':Result->Shared->Prop}{I:Addr}{fp wr:List Addr}{n:Nat}{P:Nat->Value->Prop}{St:Nat->Heap->Prop}
end
section
variable{prog:Program}{w:World}{A:Around}{E:Value->Shared->Prop}{s:Shared}
end
section
variable{X:Cx}
end
section
open PySem.SeqAt
open AutoSeq1 (wpAny_loadPart')
open MeetsSeq MeetsSeq2 MeetsSeq3 SeqRoads2
end
section
variable{X:Cx}
end
section
variable{X:Cx}
end
section
variable{X:Cx}{i k:Nat}{fa:Addr}{e a:Expr}{es:List Expr}{pos p:Pos}{f:R->OD}{F:R->Option LD}{G:LD->OD}
def Cy(P:Program)(w:World)(K:W.Frag)(mg:Str->Option Value)(base:Heap)(k:Nat)(fa:Addr)(G:LD->OD):Prop:=∃fd ps,jl P w K mg base kR k fa fd ps (pC K G)/\W.keepIn K (.ref fa)=true/\Binds K fd ps []
inductive Tab (P:Program) (w:World) (K:W.Frag) (mg:Str->Option Value) (base:Heap) (k:Nat):List (Str×(LD->OD))->List (Str×Value)->Prop
 | nil:Tab P w K mg base k [] []
 | cons {z:Str} {G:LD->OD} {fa:Addr} {t:List (Str×(LD->OD))} {vs:List (Str×Value)}:Cy P w K mg base k fa G->Tab P w K mg base k t vs->Tab P w K mg base k ((z,G)::t) ((z,.ref fa)::vs)
theorem Tab.get{P:Program}{w:World}{K:W.Frag}{mg:Str->Option Value}{base:Heap}{t:List (Str×(LD->OD))}{vs:List (Str×Value)}(h:Tab P w K mg base k t vs){z:Str}(e:t.lookup z=some G):∃fa,valueAt vs z=some (.ref fa)/\Cy P w K mg base k fa G:=by
 induction h with
 | nil=>cases e
 | @cons y G' fa t vs h1 h2 ih =>
  unfold valueAt
  rw[List.find?_cons]
  by_cases hz:y=z
  ·subst hz
   rw[List.lookup_cons,beq_self_eq_true] at e
   cases e
   simp
   exact h1
  ·rw[List.lookup_cons,beq_eq_false_iff_ne.mpr (fun q=>hz q.symm)] at e
   obtain⟨fb,q1,q2⟩:=ih e
   refine⟨fb,?_,q2⟩
   unfold valueAt at q1
   simp[hz]
   simpa using q1
def entries(w:World):List (Str×Tok×Value)->List DictEntry
 | []=>[]
 | (z,t,v)::r=>{hash:=PyData.keyHash w.params z,key:=.str z t,val:=v}::entries w r
end
section
variable{X:Cx}
end
end HW
namespace HW
open PySem
def C0(x:Str)(n c:Nat):Str:=if n<=x.length then x else Builtin.Str.padded x (n - x.length) 0 c
@[simp] def C7:LD->OD
 | [.str x,.int i,.str f]=>if 0<=i/\i<=1000/\f.length=1 then some (.str (C0 x i.toNat (f.cps.getD 0 0))) else none
 | _=>none
@[simp] def pX:D->D->OD
 | .tup xs,.int k=>if xs.length*k.toNat<=sizeLine/\0<k/\k<2 ^ 63 then some (.tup (List.replicate k.toNat xs).flatten) else none
 | _,_=>none
def yd(k:Nat):Out->Option Out
 | .nx ρ=>if k<ρ.length then some (.nx (ρ.set k none)) else none
 | .bk ρ=>if k<ρ.length then some (.bk (ρ.set k none)) else none
 | .ct ρ=>if k<ρ.length then some (.ct (ρ.set k none)) else none
 | .rt d=>some (.rt d)
def lN(k:Nat)(f:R->Option Out):R->Option Out:=fun ρ=>if k<ρ.length then (f (ρ.set k none)).bind (yd k) else none
def jb?:D->Option LD
 | .tup xs=>some xs
 | .lst xs=>some xs
 | .str x=>if x.cps.all (·<128) then some (chars x) else none
 | _=>none
def sh(xs ys:LD):LD:=List.zipWith (fun x y=>D.tup [x,y]) xs ys
@[simp] def oX (f g:R->OD):R->Option LD:=fun ρ=>(f ρ).bind fun x=>(g ρ).bind fun y=>(jb? x).bind fun xs=>(jb? y).map fun ys=>sh xs ys
theorem rQ(xs ys:LD):(sh xs ys).length=min xs.length ys.length:=by simp[sh]
theorem wF{xs ys:LD}{i:Nat}{d:D}(e:(sh xs ys)[i]?=some d):∃x y,xs[i]?=some x/\ys[i]?=some y/\d=.tup [x,y]:=by
 unfold sh at e
 rw[List.getElem?_zipWith] at e
 cases h1:xs[i]? with
 | none=>rw[h1] at e;cases e
 | some x=>cases h2:ys[i]? with
  | none=>rw[h1,h2] at e;cases e
  | some y=>rw[h1,h2] at e;exact⟨x,y,rfl,rfl,(Option.some.inj e).symm⟩
end HW
namespace HW
open PySem PySem.Spec PyProof.Rows L2
section
variable{X:Cx}{a:Expr}{f:R->OD}{pos p2:Pos}
end
theorem CD{us:List Value}(h:us.length=1):∃x0,us=[x0]:=by
 match us,h with
 | [x0],_=>exact⟨x0,rfl⟩
theorem ln2{us:List Value}(h:us.length=2):∃x0 x1,us=[x0,x1]:=by
 match us,h with
 | [x0,x1],_=>exact⟨x0,x1,rfl⟩
theorem C8{us:List Value}(h:us.length=3):∃x0 x1 x2,us=[x0,x1,x2]:=by
 match us,h with
 | [x0,x1,x2],_=>exact⟨x0,x1,x2,rfl⟩
section
variable{X:Cx}
def Cv(X:Cx)(id:String)(G:LD->OD):Prop:=y9 X id fun x vs H Q=>∃dx ds d,Rep X.K H dx x/\iU X.K H ds vs/\G (dx::ds)=some d/\∀v H',iX H H'->Rep X.K H' d v->Q v H'
end
section
variable{prog:Program}{w:World}{A:Around}{E:Value->Shared->Prop}{s:Shared}
end
section
variable{X:Cx}
end
section
variable{X:Cx}
theorem nh:fillsNumberSlot (.type "tuple") "mul" = pure false:=
 PySem.fillsNumberSlot_seq (id:="tuple.__mul__") (r:=some (.builtin "tuple.__rmul__")) PySem.F.slot_tuple_mul.lookup (by decide +kernel) PySem.F.slot_tuple_rmul.lookup (by decide +kernel)
theorem rB:seqRepeat? (.type "tuple")=pure (some (.builtin "tuple.__mul__")):=by
 unfold seqRepeat?
 rw[PySem.seqSlot_of (T:="tuple") (name:="__mul__") (id:="tuple.__mul__") PySem.F.slot_tuple_mul.lookup (by decide +kernel),PySem.seqSlot_of (T:="tuple") (name:="__rmul__") (id:="tuple.__rmul__") PySem.F.slot_tuple_rmul.lookup (by decide +kernel)]
 rfl
theorem oE(a:Int)(t:Tok)(l:Addr)(items:Array Value)(n:Nat)(dd:Option Addr)(sl:Array (Option Value)) :
  Meets (Builtin.«int.__rmul__» ⟨[.int a t,.ref l],[]⟩) (fun _ R s=>s.heap.get? l=some {cls:=.type "tuple",dict:=dd,data:=.seq items n,slots:=sl}/\R (.ok (.ret Value.notImplemented)) s):=
 .of_wp fun prog w A R s h=>by obtain⟨hp,g,d,tk,os⟩:=s;obtain⟨hl,h⟩:=h;wp_walk;exact⟨_,rfl,h⟩
theorem CA{b:Bool}(h:b=false):decide (b=true)=false:=by subst h;rfl
theorem pq(l:Addr)(items:Array Value)(n:Nat)(dd:Option Addr)(sl:Array (Option Value))(k:Int)(u:Tok)(h1:(decide (k < -(2 ^ 63))||decide (k ≥ 2 ^ 63))=false)(h2:(items.isEmpty||k==1)=true) :
  Meets (Builtin.«tuple.__mul__» ⟨[.ref l,.int k u],[]⟩) (fun _ R s=>s.heap.get? l=some {cls:=.type "tuple",dict:=dd,data:=.seq items n,slots:=sl}/\R (.ok (.ret (.ref l))) s):=
 .of_wp fun prog w A R s h=>by
  obtain⟨hp,g,d,tk,os⟩:=s;obtain⟨hl,h⟩:=h;have f1:=AutoSeq1.idx_int;have f2:=AutoSeq1.sub_tuple_tuple
  wp_walk using wpAny_loadPart' hl
  refine wpAny_ite_false (CA h1) ?_
  wp_walk using wpAny_loadPart' hl
  exact⟨_,rfl,h⟩
theorem pM(l:Addr)(items:Array Value)(n:Nat)(dd:Option Addr)(sl:Array (Option Value))(k:Int)(u:Tok)(h1:(decide (k < -(2 ^ 63))||decide (k ≥ 2 ^ 63))=false)(h2:(items.isEmpty||k==1)=false)
  (h3:(decide (k<=0)||items.isEmpty)=false) (h4:decide ((items.size:Int)*k > (2 ^ 63 - 1) / 8)=false) (h5:Builtin.Tuple.tupleTooMany ((items.size:Int)*k)=false) (h6:(List.foldl (fun x1 x2=>x1++x2) #[] (List.replicate k.toNat items)).size<=sizeLine) :
  Meets (Builtin.«tuple.__mul__» ⟨[.ref l,.int k u],[]⟩) (fun _ R s=>s.heap.get? l=some {cls:=.type "tuple",dict:=dd,data:=.seq items n,slots:=sl} /\
   R (.ok (.ret (.ref s.heap.objs.size))) {s with heap:=s.heap.push {cls:=Value.type "tuple",data:=Data.seq (List.foldl (fun x1 x2=>x1++x2) #[] (List.replicate k.toNat items))},toks:=s.toks}):=
 .of_wp fun prog w A R s h=>by
  obtain⟨hp,g,d,tk,os⟩:=s;obtain⟨hl,h⟩:=h;have f1:=AutoSeq1.idx_int;have f2:=AutoSeq1.sub_tuple_tuple
  wp_walk using wpAny_loadPart' hl
  refine wpAny_ite_false (CA h1) ?_
  wp_walk using wpAny_loadPart' hl
  refine wpAny_ite_false h4 ?_
  wp_walk using wpAny_loadPart' hl
  exact⟨_,rfl,h⟩
theorem gG:zw X (binaryOp .Mult) pX:=by
 intro pins s σ H x y v u Q I rx ry h
 obtain⟨dx,dy,d,r1,r2,e,q⟩:=h
 match dx,dy,e with
 | .tup xs,.int k,e =>
   have e':(if xs.length*k.toNat<=sizeLine/\0<k/\k<2 ^ 63 then some (D.tup (List.replicate k.toNat xs).flatten) else none)=some d:=e
   split at e'
   ·rename_i hz
    obtain⟨hz,k1,k2⟩:=hz
    cases e'
    obtain⟨a,vs,rfl,hq,t⟩:=r1
    cases (show y=_ from r2)
    cases rx
    obtain⟨tk,rfl⟩:=ry
    obtain⟨its,rr,p,hsz⟩:=I.tuple hq
    obtain⟨⟨cls,dd,data,sl⟩,ho,hc,n,hd⟩:=id p
    simp only at hc hd
    subst hc hd
    have hlen:xs.length=its.length:=t.length.trans rr.length
    have b1:(decide (k < -(2 ^ 63))||decide (k ≥ 2 ^ 63))=false:=by
     rw[decide_eq_false (by omega),decide_eq_false (by omega)];rfl
    have hnew:List.foldl (fun x1 x2=>x1++x2) #[] (List.replicate k.toNat its.toArray)=(List.replicate k.toNat its).flatten.toArray:=by
     have:=foldl_rep its k.toNat []
     rw[List.nil_append] at this
     exact this
    have hfs:(List.replicate k.toNat its).flatten.length<=sizeLine:=by rw[eW,<- hlen,Nat.mul_comm];exact hz
    refine wpAny_binaryOp_repeat_ref (T:="tuple") (U:="int") (by decide) ⟨_,ho,rfl⟩ (fun s'=>typeIs_int s' k tk) nh F.fills_int_mul F.slot_int_rmul rB F.slot_int_index.lookup
     (call_meets F.slot_int_rmul (typeIs_int s k tk) F.entry_int_rmul (F.args_int_rmul_2 _ _) (oE k tk a its.toArray n dd sl) ⟨ho,rfl,⟨_,ho,rfl⟩,?_⟩)
    by_cases hc:its=[]\/k=1
    ·have b2:(its.toArray.isEmpty||k==1)=true:=by
      rcases hc with hc | hc
      ·subst hc;rfl
      ·subst hc;simp
     refine call_meets PySem.F.slot_tuple_mul ⟨_,ho,rfl⟩ PySem.F.entry_tuple_mul (PySem.F.args_tuple_mul_2 _ _) (pq a its.toArray n dd sl k tk b1 b2) ⟨ho,?_⟩
     refine⟨.ref a,H,I,rfl,q _ H (iX.refl H) ⟨a,vs,rfl,hq,?_⟩⟩
     rcases hc with hc | hc
     ·subst hc
      have z:xs=[]:=List.length_eq_zero_iff.mp hlen
      subst z
      have z2:(List.replicate k.toNat ([]:LD)).flatten=[]:=by simp
      rw[z2]
      exact t
     ·subst hc
      have z2:(List.replicate (1:Int).toNat xs).flatten=xs:=by simp
      rw[z2]
      exact t
    ·have b2:(its.toArray.isEmpty||k==1)=false:=by
      have a1:its ≠ []:=fun z=>hc (.inl z)
      have a2:k≠1:=fun z=>hc (.inr z)
      cases its with
      | nil=>exact absurd rfl a1
      | cons x r=>simp[a2]
     have hk:¬ k<=0:=by omega
     have b3:(decide (k<=0)||its.toArray.isEmpty)=false:=by
      have a1:its ≠ []:=fun z=>hc (.inl z)
      rw[decide_eq_false hk]
      cases its with
      | nil=>exact absurd rfl a1
      | cons x r=>rfl
     have hk2:((its.toArray.size:Nat):Int)*k=((its.length*k.toNat:Nat):Int):=by
      rw[List.size_toArray,Int.natCast_mul,Int.toNat_of_nonneg (by omega)]
     have hz2:its.length*k.toNat<=16777216:=by rw[<- hlen];exact hz
     have b4:decide (((its.toArray.size:Nat):Int)*k > (2 ^ 63 - 1) / 8)=false:=decide_eq_false (by rw[hk2];omega)
     have b5:Builtin.Tuple.tupleTooMany (((its.toArray.size:Nat):Int)*k)=false:=by
      unfold Builtin.Tuple.tupleTooMany
      rw[hk2]
      exact decide_eq_false (by rw[sizeLine_eq];omega)
     refine call_meets PySem.F.slot_tuple_mul ⟨_,ho,rfl⟩ PySem.F.entry_tuple_mul (PySem.F.args_tuple_mul_2 _ _) (pM a its.toArray n dd sl k tk b1 b2 b3 b4 b5 (by rw[hnew,List.size_toArray];exact hfs)) ⟨ho,?_⟩
     rw[hnew]
     have hf:=I.hok.fresh (Nat.le_refl s.heap.objs.size)
     have s2:=aH hf (.tup (List.replicate k.toNat vs).flatten)
     refine⟨.ref s.heap.objs.size,_,I.laid (t':=s.toks) (o:=.tup (List.replicate k.toNat vs).flatten) (fun b ob q=>Heap.get?_push_of_some _ q) (Nat.le_refl _) ?_,rfl,q _ _ s2 ⟨_,_,rfl,kD.of af,(t.rep k.toNat).mono s2⟩⟩
     exact⟨by rw[eW,<- t.length,Nat.mul_comm];exact hz,_,rr.rep k.toNat,kK.new _ _⟩
   ·cases e'
end
section
variable{X:Cx}
end
section
variable{X:Cx}{pins:List (Addr×Obj)}{σ:L2.St}{H:Hp}{s:Shared}{k:Nat}{y:Str}
def Ci(X:Cx)(k:Nat)(y:Str):Cx:={X with N:=X.N.set k y}
theorem oN{α:Type}{l:List (Option α)}{i k:Nat}{v:α}(h:(l.set k none)[i]?=some (some v)):i≠k/\l[i]?=some (some v):=by
 by_cases e:i=k
 ·subst e
  rw[List.getElem?_set_self'] at h
  cases z:l[i]? with
  | none=>rw[z] at h;cases h
  | some w=>rw[z] at h;cases h
 ·rw[List.getElem?_set_ne (Ne.symm e)] at h
  exact⟨e,h⟩
theorem xR(I:L2.Inv X pins σ H s):L2.Inv (Ci X k y) pins (σ.set k none) H s where
 ok:=⟨I.ok.mod,I.ok.kind,I.ok.glob,I.ok.blt,I.ok.above,I.ok.inj,I.ok.has,I.ok.cab,I.ok.hd,I.ok.frames,I.ok.stk,I.ok.exf,I.ok.bs,I.ok.bsz,I.ok.noex,I.ok.exfs,I.ok.funs,I.ok.frf⟩
 os:=I.os
 bare:=I.bare
 base:=I.base
 loc:=let ⟨m,hn,hl⟩:=I.loc;⟨m,hn,fun i x v e1 e2 e3=>by
  obtain⟨n,e4⟩:=oN e2
  have e5:(X.N.set k y)[i]?=some x:=e1
  rw[List.getElem?_set_ne (Ne.symm n)] at e5
  exact hl i x v e5 e4 e3⟩
 cell:=I.cell
 free:=I.free
 freeC:=I.freeC
 pin:=I.pin
 hok:=I.hok
 len:=by show(σ.set k none).length=(X.N.set k y).length;rw[List.length_set,List.length_set];exact I.len
theorem l5(I:L2.Inv (Ci X k y) pins σ H s):L2.Inv X pins (σ.set k none) H s where
 ok:=⟨I.ok.mod,I.ok.kind,I.ok.glob,I.ok.blt,I.ok.above,I.ok.inj,I.ok.has,I.ok.cab,I.ok.hd,I.ok.frames,I.ok.stk,I.ok.exf,I.ok.bs,I.ok.bsz,I.ok.noex,I.ok.exfs,I.ok.funs,I.ok.frf⟩
 os:=I.os
 bare:=I.bare
 base:=I.base
 loc:=let ⟨m,hn,hl⟩:=I.loc;⟨m,hn,fun i x v e1 e2 e3=>by
  obtain⟨n,e4⟩:=oN e2
  exact hl i x v (by show(X.N.set k y)[i]?=some x;rw[List.getElem?_set_ne (Ne.symm n)];exact e1) e4 e3⟩
 cell:=I.cell
 free:=I.free
 freeC:=I.freeC
 pin:=I.pin
 hok:=I.hok
 len:=by have z:σ.length=(X.N.set k y).length:=I.len;rw[List.length_set] at z;rw[List.length_set];exact z
theorem cg{K:W.Frag}{ρ:R}{τ:L2.St}(e:jC K H ρ τ σ)(hk:k<ρ.length):jC K H (ρ.set k none) τ (σ.set k none):=by
 refine⟨⟨by rw[List.length_set,List.length_set];exact e.1.1,fun i d h=>?_⟩,?_⟩
 ·obtain⟨n,h2⟩:=oN h
  obtain⟨v,h3,h4⟩:=e.1.2 i d h2
  exact⟨v,by rw[List.getElem?_set_ne (Ne.symm n)];exact h3,h4⟩
 ·rw[List.length_set,List.drop_set_of_lt hk]
  exact e.2
theorem eO{st:Stmt}{f:R->Option Out}(k:Nat)(y:Str)(h:S1 (Ci X k y) st f):S1 X st (lN k f):=by
 intro pins s σ H E I hw
 obtain⟨ρ,τ,o,er,e,q⟩:=hw
 unfold lN at e
 split at e
 ·rename_i hk
  obtain⟨o1,e1,e2⟩:=iS e
  have z:=h pins s (σ.set k none) H ⟨fun σ' H'=>E.nx (σ'.set k none) H',E.rt,fun σ' H'=>E.bk (σ'.set k none) H',fun σ' H'=>E.ct (σ'.set k none) H'⟩ (xR I) ⟨ρ.set k none,τ,o1,cg er hk,e1,fun H' s1=>?_⟩
  ·refine jy z fun fl s' w=>?_
   cases fl with
   | next=>obtain⟨σ',H',I',q'⟩:=w;exact⟨_,H',l5 I',q'⟩
   | brk=>obtain⟨σ',H',I',q'⟩:=w;exact⟨_,H',l5 I',q'⟩
   | cont=>obtain⟨σ',H',I',q'⟩:=w;exact⟨_,H',l5 I',q'⟩
   | ret u=>obtain⟨v,σ',H',I',r,q'⟩:=w;exact⟨v,_,H',l5 I',r,q'⟩
  ·have q1:=q H' s1
   cases o1 with
   | nx ρ1 =>
    simp only[yd] at e2
    split at e2
    ·rename_i hk1;cases e2;exact fun σ' er'=>q1 _ (cg er' hk1)
    ·cases e2
   | bk ρ1 =>
    simp only[yd] at e2
    split at e2
    ·rename_i hk1;cases e2;exact fun σ' er'=>q1 _ (cg er' hk1)
    ·cases e2
   | ct ρ1 =>
    simp only[yd] at e2
    split at e2
    ·rename_i hk1;cases e2;exact fun σ' er'=>q1 _ (cg er' hk1)
    ·cases e2
   | rt d=>cases e2;exact q1
 ·cases e
end
end HW
namespace HW
open PySem
structure Ap (z TI TO i1 i2:Addr):Prop where
 a1:TI≠z
 a2:TO≠z
 a3:i1≠z
 a4:i2≠z
 a5:TI≠TO
 a6:TI≠i1
 a7:TI≠i2
 a8:TO≠i1
 a9:TO≠i2
 b1:i1≠i2
section
variable{prog:Program}{w:World}{A:Around}{E:Value->Shared->Prop}{g:_}{d:_}{os:_}
structure Nx (prog:Program) (w:World) (A:Around) (mk:Heap->Nat->Shared) (Good:Heap->Nat->Prop) (it:Addr) (st st':Heap->Prop) (P:Value->Prop):Prop where
 stay:∀h h',st h->(∀o,h.get? it=some o->h'.get? it=some o)->st h'
 stay':∀h h',st' h->(∀o,h.get? it=some o->h'.get? it=some o)->st' h'
 run:∀h tk (Q:Value->Shared->Prop) (E:Value->Shared->Prop),Good h tk->st h->(∀u h' tk',P u->st' h'->Heap.SameBut it h h'->Q u (mk h' tk')) ->
  wpAny (model prog w) A (Builtin.SmallTypes.nextOf (.ref it)) Q E (mk h tk)
structure Ne (prog:Program) (w:World) (A:Around) (mk:Heap->Nat->Shared) (Good:Heap->Nat->Prop) (it:Addr) (st:Heap->Prop):Prop where
 stay:∀h h',st h->(∀o,h.get? it=some o->h'.get? it=some o)->st h'
 run:∀h tk (Q:Value->Shared->Prop) (E:Value->Shared->Prop),Good h tk->st h->(∀h' e,Heap.ExtBut it h h'->(∃o,h'.get? e=some o/\o.cls=.type "StopIteration")->E (.ref e) (mk h' tk)) ->
  wpAny (model prog w) A (Builtin.SmallTypes.nextOf (.ref it)) Q E (mk h tk)
def kF(s:Shared)(h:Heap)(tk:Nat):Shared:={s with heap:=h,toks:=tk}
def Cl(Good:Heap->Nat->Prop)(cs:List Addr):Prop:=∀c∈cs,∀h tk h' tk',Good h tk->(∀b o,b≠c->h.get? b=some o->h'.get? b=some o)->Good h' tk'
variable{Good:Heap->Nat->Prop}{s:Shared}{z TI TO i1 i2:Addr}{a b:Value}{st1 st1' st2 st2':Heap->Prop}{P1 P2:Value->Prop}
theorem ge {Q:Value->Shared->Prop} (D:Ap z TI TO i1 i2) (hz:IsZip s.heap z TI TO .none) (hI:IsPair s.heap TI (.ref i1) (.ref i2)) (hO:IsPair s.heap TO a b)
    (g0:Good s.heap s.toks) (cl:Cl Good [z,TO,i1,i2]) (n1:Nx prog w A (kF s) Good i1 st1 st1' P1) (n2:Nx prog w A (kF s) Good i2 st2 st2' P2) (q1:st1 s.heap) (q2:st2 s.heap)
    (hQ:∀h5 tk u1 u2 h8,Good h5 tk->P1 u1->P2 u2->IsZip h5 z TI TO .ellipsis->IsPair h5 TI (.ref i1) (.ref i2)->IsPair h5 TO u1 u2->st1' h5->st2' h5->IsZip h8 z TI TO (rawInt h5.objs.size) ->
      (∀c o,c≠z->(h5.push {cls:=.type "tuple",data:=.seq #[u1,u2]}).get? c=some o->h8.get? c=some o)->Q (.ref h5.objs.size) (kF s h8 tk)) :
    wpAny (model prog w) A (Builtin.«zip.__next__» ⟨[.ref z],[]⟩) (fun fin s'=>∃v,fin=.done (.ret v)/\Q v s') E s:=by
  show wpAny _ _ (field (.ref z) 2 >>= _) _ _ _;refine wpAny_bind (wpAny_field hz rfl (x:=.bool false) rfl ?_)
  show wpAny _ _ (field (.ref z) 3 >>= _) _ _ _;refine wpAny_bind (wpAny_field hz rfl (x:=.ref TI) rfl ?_)
  refine wpAny_bind (wpAny_seqItems hI rfl ?_);show wpAny _ _ (Builtin.SmallTypes.ownedTupleIsFree (.ref z) >>= _) _ _ _
  refine wpAny_bind ?_;unfold Builtin.SmallTypes.ownedTupleIsFree
  refine wpAny_bind (wpAny_field hz rfl (x:=.none) rfl (wpAny_pure ?_));simp only[if_true]
  refine wpAny_bind (wpAny_rule ?_);refine wpAny_bind (wpAny_field hz rfl (x:=.ref TO) rfl ?_)
  refine wpAny_bind (wpAny_setField_rec hz (by simp) fun h1 hz1 s1=>?_)
  replace hz1:IsZip h1 z TI TO .ellipsis:=hz1
  have e1:∀b o,b≠z->s.heap.get? b=some o->h1.get? b=some o:=s1.extBut
  have g1:Good h1 s.toks:=cl z (by simp) _ _ _ _ g0 e1
  refine wpAny_bind ?_;simp only[List.zipIdx_cons,List.zipIdx_nil,List.forIn_cons,List.forIn_nil]
  refine wpAny_bind (wpAny_bind (wpAny_onRaise ?_));show wpAny _ _ (Builtin.SmallTypes.nextOf (.ref i1) >>= _) _ _ _
  refine wpAny_bind (n1.run h1 s.toks _ _ g1 (n1.stay _ _ q1 fun o=>e1 _ o D.a3) fun u1 h2 tk2 p1 t1 s2=>wpAny_pure ?_)
  have e2:∀b o,b≠i1->h1.get? b=some o->h2.get? b=some o:=s2.extBut
  have g2:Good h2 tk2:=cl i1 (by simp) _ _ _ _ g1 e2
  have O2:IsPair h2 TO a b:=e2 _ _ D.a8 (e1 _ _ D.a2 hO)
  refine wpAny_bind (wpAny_seqItems (s:=kF s h2 tk2) O2 rfl ?_)
  refine wpAny_bind (wpAny_updateSeq_pair (s:=kF s h2 tk2) O2 fun h3 O3 s3=>?_)
  replace O3:IsPair h3 TO u1 b:=O3
  have e3:∀b o,b≠TO->h2.get? b=some o->h3.get? b=some o:=s3.extBut
  have g3:Good h3 tk2:=cl TO (by simp) _ _ _ _ g2 e3
  refine wpAny_bind (wpAny_letGo (wpAny_pure ?_));refine wpAny_bind (wpAny_bind (wpAny_onRaise ?_))
  show wpAny _ _ (Builtin.SmallTypes.nextOf (.ref i2) >>= _) _ _ (kF s h3 tk2)
  refine wpAny_bind (n2.run h3 tk2 _ _ g3 (n2.stay _ _ q2 fun o q=>e3 _ o D.a9.symm (e2 _ o D.b1.symm (e1 _ o D.a4 q))) fun u2 h4 tk4 p2 t2 s4=>wpAny_pure ?_)
  have e4:∀b o,b≠i2->h3.get? b=some o->h4.get? b=some o:=s4.extBut
  have g4:Good h4 tk4:=cl i2 (by simp) _ _ _ _ g3 e4
  have O4:IsPair h4 TO u1 b:=e4 _ _ D.a9 O3
  refine wpAny_bind (wpAny_seqItems (s:=kF s h4 tk4) O4 rfl ?_)
  refine wpAny_bind (wpAny_updateSeq_pair (s:=kF s h4 tk4) O4 fun h5 O5 s5=>?_)
  replace O5:IsPair h5 TO u1 u2:=O5
  have e5:∀b o,b≠TO->h4.get? b=some o->h5.get? b=some o:=s5.extBut
  have g5:Good h5 tk4:=cl TO (by simp) _ _ _ _ g4 e5
  refine wpAny_bind (wpAny_letGo (wpAny_pure (wpAny_pure ?_)));refine wpAny_bind (wpAny_seqItems (s:=kF s h5 tk4) O5 rfl ?_)
  refine wpAny_bind (wpAny_newTuple (s:=kF s h5 tk4) ?_)
  have z5:IsZip h5 z TI TO .ellipsis:=e5 _ _ D.a2.symm (e4 _ _ D.a4.symm (e3 _ _ D.a2.symm (e2 _ _ D.a3.symm hz1)))
  have I5:IsPair h5 TI (.ref i1) (.ref i2):=e5 _ _ D.a5 (e4 _ _ D.a7 (e3 _ _ D.a5 (e2 _ _ D.a6 (e1 _ _ D.a1 hI))))
  show wpAny _ _ (Builtin.SmallTypes.ownedTupleHandOut (.ref z) (.ref h5.objs.size) >>= _) _ _ _
  refine wpAny_bind ?_;unfold Builtin.SmallTypes.ownedTupleHandOut
  have z6:IsZip (h5.push {cls:=.type "tuple",data:=.seq #[u1,u2]}) z TI TO .ellipsis:=Heap.get?_push_of_some _ z5
  refine wpAny_bind (wpAny_setField_rec (s:=kF s (h5.push {cls:=.type "tuple",data:=.seq #[u1,u2]}) tk4) z6 (by simp) fun h7 z7 s7=>?_)
  replace z7:IsZip h7 z TI TO (rawInt h5.objs.size):=z7
  refine wpAny_setField_rec (s:=kF s h7 tk4) z7 (by simp) fun h8 z8 s8=>?_
  replace z8:IsZip h8 z TI TO (rawInt h5.objs.size):=z8
  exact wpAny_pure ⟨_,rfl,hQ h5 tk4 u1 u2 h8 g5 p1 p2 z5 I5 O5 (n1.stay' _ _ t1 fun o q=>e5 _ o D.a8.symm (e4 _ o D.b1 (e3 _ o D.a8.symm q))) (n2.stay' _ _ t2 fun o q=>e5 _ o D.a9.symm q) z8
    fun c o n q=>s8.extBut _ _ n (s7.extBut _ _ n q)⟩
theorem fT{Q:Fin->Shared->Prop}(D:Ap z TI TO i1 i2)(hz:IsZip s.heap z TI TO .none)(hI:IsPair s.heap TI (.ref i1) (.ref i2))(hO:IsPair s.heap TO a b)
  (g0:Good s.heap s.toks) (cl:Cl Good [z,TO,i1,i2]) (q1:st1 s.heap) (q2:st2 s.heap)
  (n:Ne prog w A (kF s) Good i1 st1\/(Nx prog w A (kF s) Good i1 st1 st1' P1/\Ne prog w A (kF s) Good i2 st2))
  (hE:∀h' tk e,Good h' tk->(∃o,h'.get? e=some o/\o.cls=.type "StopIteration")->E (.ref e) (kF s h' tk)) :
  wpAny (model prog w) A (Builtin.«zip.__next__» ⟨[.ref z],[]⟩) Q E s:=by
 show wpAny _ _ (field (.ref z) 2 >>= _) _ _ _;refine wpAny_bind (wpAny_field hz rfl (x:=.bool false) rfl ?_)
 show wpAny _ _ (field (.ref z) 3 >>= _) _ _ _;refine wpAny_bind (wpAny_field hz rfl (x:=.ref TI) rfl ?_)
 refine wpAny_bind (wpAny_seqItems hI rfl ?_);show wpAny _ _ (Builtin.SmallTypes.ownedTupleIsFree (.ref z) >>= _) _ _ _
 refine wpAny_bind ?_;unfold Builtin.SmallTypes.ownedTupleIsFree
 refine wpAny_bind (wpAny_field hz rfl (x:=.none) rfl (wpAny_pure ?_));simp only[if_true]
 refine wpAny_bind (wpAny_rule ?_);refine wpAny_bind (wpAny_field hz rfl (x:=.ref TO) rfl ?_)
 refine wpAny_bind (wpAny_setField_rec hz (by simp) fun h1 hz1 s1=>?_)
 replace hz1:IsZip h1 z TI TO .ellipsis:=hz1
 have e1:∀b o,b≠z->s.heap.get? b=some o->h1.get? b=some o:=s1.extBut
 have g1:Good h1 s.toks:=cl z (by simp) _ _ _ _ g0 e1
 refine wpAny_bind ?_;simp only[List.zipIdx_cons,List.zipIdx_nil,List.forIn_cons,List.forIn_nil]
 refine wpAny_bind (wpAny_bind (wpAny_onRaise ?_));show wpAny _ _ (Builtin.SmallTypes.nextOf (.ref i1) >>= _) _ _ _
 rcases n with n | ⟨n1,n2⟩
 ·refine wpAny_bind (n.run h1 s.toks _ _ g1 (n.stay _ _ q1 fun o=>e1 _ o D.a3) fun h2 e s2 he=>?_)
  obtain⟨oe,q,ce⟩:=he
  have z2:IsZip h2 z TI TO .ellipsis:=s2 _ _ D.a3.symm hz1
  have ne:e≠z:=fun x=>by rw[x,z2] at q;cases q;simp at ce
  refine wpAny_setField_rec (s:=kF s h2 s.toks) z2 (by simp) fun h3 _ s3=>hE h3 s.toks e ?_ ⟨oe,s3.extBut _ _ ne q,ce⟩
  exact cl z (by simp) _ _ _ _ (cl i1 (by simp) _ _ _ s.toks g1 s2) s3.extBut
 ·refine wpAny_bind (n1.run h1 s.toks _ _ g1 (n1.stay _ _ q1 fun o=>e1 _ o D.a3) fun u1 h2 tk2 p1 t1 s2=>wpAny_pure ?_)
  have e2:∀b o,b≠i1->h1.get? b=some o->h2.get? b=some o:=s2.extBut
  have g2:Good h2 tk2:=cl i1 (by simp) _ _ _ _ g1 e2
  have O2:IsPair h2 TO a b:=e2 _ _ D.a8 (e1 _ _ D.a2 hO)
  refine wpAny_bind (wpAny_seqItems (s:=kF s h2 tk2) O2 rfl ?_)
  refine wpAny_bind (wpAny_updateSeq_pair (s:=kF s h2 tk2) O2 fun h3 O3 s3=>?_)
  have e3:∀b o,b≠TO->h2.get? b=some o->h3.get? b=some o:=s3.extBut
  have g3:Good h3 tk2:=cl TO (by simp) _ _ _ _ g2 e3
  refine wpAny_bind (wpAny_letGo (wpAny_pure ?_));refine wpAny_bind (wpAny_bind (wpAny_onRaise ?_))
  show wpAny _ _ (Builtin.SmallTypes.nextOf (.ref i2) >>= _) _ _ (kF s h3 tk2)
  refine wpAny_bind (n2.run h3 tk2 _ _ g3 (n2.stay _ _ q2 fun o q=>e3 _ o D.a9.symm (e2 _ o D.b1.symm (e1 _ o D.a4 q))) fun h4 e s4 he=>?_)
  obtain⟨oe,q,ce⟩:=he
  have z4:IsZip h4 z TI TO .ellipsis:=s4 _ _ D.a4.symm (e3 _ _ D.a2.symm (e2 _ _ D.a3.symm hz1))
  have ne:e≠z:=fun x=>by rw[x,z4] at q;cases q;simp at ce
  refine wpAny_setField_rec (s:=kF s h4 tk2) z4 (by simp) fun h5 _ s5=>hE h5 tk2 e ?_ ⟨oe,s5.extBut _ _ ne q,ce⟩
  exact cl z (by simp) _ _ _ _ (cl i2 (by simp) _ _ _ tk2 g3 s4) s5.extBut
theorem eG {Q:Value->Shared->Prop} (D:Ap z TI TO i1 i2) (hz:IsZip s.heap z TI TO .none) (hI:IsPair s.heap TI (.ref i1) (.ref i2)) (hO:IsPair s.heap TO a b)
    (g0:Good s.heap s.toks) (cl:Cl Good [z,TO,i1,i2]) (n1:Nx prog w A.in1 (kF s) Good i1 st1 st1' P1) (n2:Nx prog w A.in1 (kF s) Good i2 st2 st2' P2) (q1:st1 s.heap) (q2:st2 s.heap)
    (hQ:∀h5 tk u1 u2 h8,Good h5 tk->P1 u1->P2 u2->IsZip h5 z TI TO .ellipsis->IsPair h5 TI (.ref i1) (.ref i2)->IsPair h5 TO u1 u2->st1' h5->st2' h5->IsZip h8 z TI TO (rawInt h5.objs.size) ->
      (∀c o,c≠z->(h5.push {cls:=.type "tuple",data:=.seq #[u1,u2]}).get? c=some o->h8.get? c=some o)->Q (.ref h5.objs.size) (kF s h8 tk)) :
    wpAny (model prog w) A (pyNext (.ref z)) (fun r s'=>∃v,r=some v/\Q v s') E s:=by
  have hT:s.TypeIs (.ref z) "zip":=⟨_,hz,rfl⟩
  unfold pyNext
  exact wpAny_bind (wpAny_attempt (wpAny_callSpecial?_slot (name:=oS "__next__") hT F.slot_zip_next (wpAny_call_entry F.slot_zip_next hT F.entry_zip_next
      (ge (Q:=fun v s'=>_) D hz hI hO g0 cl n1 n2 q1 q2 fun h5 tk u1 u2 h8 c1 c2 c3 c4 c5 c6 c7 c8 c9 c10=>wpAny_pure ⟨_,rfl,hQ h5 tk u1 u2 h8 c1 c2 c3 c4 c5 c6 c7 c8 c9 c10⟩) (F.args_zip_next_1 _))))
theorem e_{Q:Option Value->Shared->Prop}(D:Ap z TI TO i1 i2)(hz:IsZip s.heap z TI TO .none)(hI:IsPair s.heap TI (.ref i1) (.ref i2))(hO:IsPair s.heap TO a b)
  (g0:Good s.heap s.toks) (cl:Cl Good [z,TO,i1,i2]) (q1:st1 s.heap) (q2:st2 s.heap)
  (n:Ne prog w A.in1 (kF s) Good i1 st1\/(Nx prog w A.in1 (kF s) Good i1 st1 st1' P1/\Ne prog w A.in1 (kF s) Good i2 st2))
  (hQ:∀h' tk,Good h' tk->Q none (kF s h' tk)):wpAny (model prog w) A (pyNext (.ref z)) Q E s:=by
 have hT:s.TypeIs (.ref z) "zip":=⟨_,hz,rfl⟩
 unfold pyNext
 refine wpAny_bind (wpAny_attempt (wpAny_callSpecial?_slot (name:=oS "__next__") hT F.slot_zip_next (wpAny_call_entry F.slot_zip_next hT F.entry_zip_next
  (fT D hz hI hO g0 cl q1 q2 n fun h' tk e gg he=>?_) (F.args_zip_next_1 _))))
 obtain⟨o,ho,hc⟩:=he
 exact wpAny_bind (wpAny_isInstance (s:=kF s h' tk) (T:="StopIteration") (b:=true) ⟨o,ho,hc⟩ isSubtype_stop (wpAny_pure (hQ _ _ gg)))
theorem bY{it l:Addr}{i:Nat}{items}{x:Value}{Q:Value->Shared->Prop}(hit:s.heap.IsTupleIter it l i)(hl:s.heap.IsTuple l items)(hx:items[i]?=some x)
  (hQ:∀h',h'.IsTupleIter it l (i+1)->Heap.SameBut it s.heap h'->Q x {s with heap:=h' }):wpAny (model prog w) A (Builtin.SmallTypes.nextOf (.ref it)) Q E s:=by
 obtain⟨o,ho,hc,hd⟩:=id hit
 obtain⟨ol,hol,_,nl,hdl⟩:=hl
 unfold Builtin.SmallTypes.nextOf
 refine wpAny_bind (wpAny_callSpecial?_slot (name:=oS "__next__") hit.typeIs F.slot_tuple_iterator_next (wpAny_call_entry F.slot_tuple_iterator_next hit.typeIs F.entry_tuple_iterator_next ?_ (F.args_tuple_iterator_next_1 _)))
 show wpAny _ _ (field (.ref it) 0 >>= _) _ _ s;refine wpAny_bind (wpAny_field ho hd (x:=.ref l) rfl ?_)
 show wpAny _ _ (if (Value.ref l==Value.none)=true then _ else _) _ _ s;rw[if_neg (show ¬ ((Value.ref l==Value.none)=true) from Bool.false_ne_true)]
 show wpAny _ _ (field (.ref it) 1 >>= _) _ _ s;refine wpAny_bind (wpAny_field ho hd (x:=.int i 0) rfl ?_)
 show wpAny _ _ (seqItems? (.ref l) >>= _) _ _ s;refine wpAny_bind (wpAny_seqItems hol hdl ?_)
 simp only[Int.toNat_natCast,hx]
 refine wpAny_bind (wpAny_setField ho hd (by simp) (wpAny_pure ⟨x,rfl,wpAny_pure (hQ _ ⟨_,Heap.get?_update_self _ ho (Obj.isFreed_of_fields (Obj.data_mapFields hd _)),(Obj.cls_mapFields ..).trans hc,?_⟩ (Heap.SameBut.update ..))⟩))
 rw[Obj.data_mapFields hd];simp[rawInt]
theorem cq{it l:Addr}{i:Nat}{items}{Q:Value->Shared->Prop}(hh:A.handled=none)(hit:s.heap.IsTupleIter it l i)(hl:s.heap.IsTuple l items)(hx:items[i]?=none)
  (hE:∀h' e,Heap.ExtBut it s.heap h'->(∃o,h'.get? e=some o/\o.cls=.type "StopIteration")->E (.ref e) {s with heap:=h' }):wpAny (model prog w) A (Builtin.SmallTypes.nextOf (.ref it)) Q E s:=by
 obtain⟨o,ho,hc,hd⟩:=id hit
 obtain⟨ol,hol,_,nl,hdl⟩:=hl
 unfold Builtin.SmallTypes.nextOf
 refine wpAny_bind (wpAny_callSpecial?_slot (name:=oS "__next__") hit.typeIs F.slot_tuple_iterator_next (wpAny_call_entry F.slot_tuple_iterator_next hit.typeIs F.entry_tuple_iterator_next ?_ (F.args_tuple_iterator_next_1 _)))
 show wpAny _ _ (field (.ref it) 0 >>= _) _ _ s;refine wpAny_bind (wpAny_field ho hd (x:=.ref l) rfl ?_)
 show wpAny _ _ (if (Value.ref l==Value.none)=true then _ else _) _ _ s;rw[if_neg (show ¬ ((Value.ref l==Value.none)=true) from Bool.false_ne_true)]
 show wpAny _ _ (field (.ref it) 1 >>= _) _ _ s;refine wpAny_bind (wpAny_field ho hd (x:=.int i 0) rfl ?_)
 show wpAny _ _ (seqItems? (.ref l) >>= _) _ _ s;refine wpAny_bind (wpAny_seqItems hol hdl ?_)
 simp only[Int.toNat_natCast,hx]
 refine wpAny_bind (wpAny_rule (wpAny_bind (wpAny_setField ho hd (by simp) ?_)));show wpAny _ _ (newExc (.type "StopIteration") [] >>= _) _ _ _
 refine wpAny_bind ?_;simp only[newExc,newTuple]
 refine wpAny_bind (wpAny_newObj_type ?_ (by size_fits));refine wpAny_bind (m:=firstArgMember _ _) (wpAny_of_eq (a:=Value.none) (by first | rfl | (simp only[firstArgMember];rfl)) ?_)
 refine wpAny_newObj_type ?_ (by size_fits);simp only[raiseNew]
 refine wpAny_bind (wpAny_handled ?_);first | rw[show A.in1.handled=none from hh] | rw[hh]
 exact wpAny_bind (wpAny_pure (wpAny_throw (hE _ _ (((Heap.SameBut.update ..).extBut.push _).push _) ⟨_,Heap.get?_push_size _ rfl,rfl⟩)))
inductive Src where
 | lst (a:Addr)
 | tup (a:Addr)
 | txt (x:Str) (t:Tok)
def Src.val:Src->Value
 | .lst a=>.ref a
 | .tup a=>.ref a
 | .txt x t=>.str x t
def Src.obj:Src->Obj
 | .lst a=>{cls:=.type "list_iterator",data:=.fields #[.ref a,.int 0 0]}
 | .tup a=>{cls:=.type "tuple_iterator",data:=.fields #[.ref a,.int 0 0]}
 | .txt x t=>{cls:=.type "str_ascii_iterator",data:=.fields #[.str x t,.int 0 0]}
def Src.ok(h:Heap):Src->Prop
 | .lst a=>∃xs,h.IsList a xs
 | .tup a=>∃xs,h.IsTuple a xs
 | .txt x _=>x.cps.all (·<128)=true
def Src.at(it:Addr)(i:Nat)(h:Heap):Src->Prop
 | .lst a=>h.IsListIter it a i
 | .tup a=>h.IsTupleIter it a i
 | .txt x t=>h.IsStrIter it "str_ascii_iterator" x t i
theorem Src.iter{S:Src}{Q:Value->Shared->Prop}(h:S.ok s.heap)(hQ:Q (.ref s.heap.objs.size) {s with heap:=s.heap.push S.obj}):wpAny (model prog w) A (pyIter S.val) Q E s:=by
 cases S with
 | lst a=>obtain⟨xs,h⟩:=h;exact wpAny_pyIter_list h hQ
 | tup a=>obtain⟨xs,h⟩:=h;exact wpAny_pyIter_tuple h hQ
 | txt x t=>exact wpAny_pyIter_ascii h hQ
theorem Src.keep{S:Src}{it:Addr}{i:Nat}{h h':Heap}(q:S.at it i h)(k:∀o,h.get? it=some o->h'.get? it=some o):S.at it i h':=by
 cases S with
 | lst a=>exact Heap.IsListIter.at q k
 | tup a=>obtain⟨o,e,r⟩:=q;exact⟨o,k o e,r⟩
 | txt x t=>obtain⟨o,e,r⟩:=q;exact⟨o,k o e,r⟩
theorem Src.obj_at{S:Src}{it:Addr}{i:Nat}{h:Heap}(q:S.at it i h):∃o,h.get? it=some o/\∀v,o.data≠.cell v:=by
 cases S with
 | lst a=>obtain⟨o,e,c,d⟩:=q;exact⟨o,e,fun v z=>by rw[d] at z;cases z⟩
 | tup a=>obtain⟨o,e,c,d⟩:=q;exact⟨o,e,fun v z=>by rw[d] at z;cases z⟩
 | txt x t=>obtain⟨o,e,c,d⟩:=q;exact⟨o,e,fun v z=>by rw[d] at z;cases z⟩
theorem Src.start{S:Src}{it:Addr}{h:Heap}(q:h.get? it=some S.obj):S.at it 0 h:=by
 cases S<;>exact⟨_,q,rfl,rfl⟩
theorem Src.nx {S:Src} {it:Addr} {i:Nat} {P:Value->Prop} (hx:∀h tk,Good h tk->match S with
  | .lst a=>∃xs x,h.IsList a xs/\xs[i]?=some x/\P x
  | .tup a=>∃xs x,h.IsTuple a xs/\xs[i]?=some x/\P x
  | .txt x _=>∃c,x.cps[i]?=some c/\∀u,P (.str ⟨#[c]⟩ u)):Nx prog w A (kF s) Good it (fun h=>S.at it i h) (fun h=>S.at it (i+1) h) P where
 stay:=fun _ _ q k=>Src.keep q k
 stay':=fun _ _ q k=>Src.keep q k
 run:=fun h tk Q E gg q hQ=>by
  have z:=hx h tk gg
  cases S with
  | lst a=>obtain⟨xs,x,l,e,p⟩:=z;exact wpAny_nextOf_list_item (s:=kF s h tk) q l e fun h' q' sb=>hQ x h' tk p q' sb
  | tup a=>obtain⟨xs,x,l,e,p⟩:=z;exact bY (s:=kF s h tk) q l e fun h' q' sb=>hQ x h' tk p q' sb
  | txt x t=>obtain⟨c,e,p⟩:=z;exact wpAny_nextOf_ascii_item (s:=kF s h tk) q e fun h' q' sb=>hQ _ h' (tk+1) (p _) q' sb
theorem Src.ne {S:Src} {it:Addr} {i:Nat} (hh:A.handled=none) (hx:∀h tk,Good h tk->match S with
  | .lst a=>∃xs,h.IsList a xs/\xs[i]?=none
  | .tup a=>∃xs,h.IsTuple a xs/\xs[i]?=none
  | .txt x _=>x.cps[i]?=none):Ne prog w A (kF s) Good it (fun h=>S.at it i h) where
 stay:=fun _ _ q k=>Src.keep q k
 run:=fun h tk Q E gg q hQ=>by
  have z:=hx h tk gg
  cases S with
  | lst a=>obtain⟨xs,l,e⟩:=z;exact wpAny_nextOf_list_end (s:=kF s h tk) hh q l e hQ
  | tup a=>obtain⟨xs,l,e⟩:=z;exact cq (s:=kF s h tk) hh q l e hQ
  | txt x t=>exact wpAny_nextOf_ascii_end (s:=kF s h tk) hh q z hQ
end
def xO(h:Heap)(S T:Src):Heap:=(((h.push S.obj).push T.obj).push {cls:=.type "tuple",data:=.seq #[.ref h.objs.size,.ref (h.push S.obj).objs.size]}).push {cls:=.type "tuple",data:=.seq #[.none,.none]}
def AB(h:Heap)(S T:Src):Obj:={cls:=.type "zip",data:=.fields #[.none,.bool false,.bool false,.ref ((h.push S.obj).push T.obj).objs.size,
 .ref (((h.push S.obj).push T.obj).push {cls:=.type "tuple",data:=.seq #[.ref h.objs.size,.ref (h.push S.obj).objs.size]}).objs.size]}
theorem Src.ok_push{S T:Src}{h:Heap}(q:T.ok h):T.ok (h.push S.obj):=by
 cases T with
 | lst a=>obtain⟨xs,q⟩:=q;exact⟨xs,Heap.IsList.push q _⟩
 | tup a=>obtain⟨xs,o,e,r⟩:=q;exact⟨xs,o,Heap.get?_push_of_some _ e,r⟩
 | txt x t=>exact q
theorem gB(S T:Src):Meets (Builtin.«zip.__new__» ⟨[.type "zip",S.val,T.val],[]⟩) (fun _ R s=>S.ok s.heap/\T.ok s.heap/\R (.ok (.ret (.ref (xO s.heap S T).objs.size))) {s with heap:=(xO s.heap S T).push (AB s.heap S T)}):=
 .of_wp fun prog w A R s h=>by
  obtain⟨hp,g,d,tk,os⟩:=s;obtain⟨q1,q2,h⟩:=h
  have hsub:=sub_zip
  have r1:Src.ok (Shared.heap ⟨hp,g,d,tk,os⟩) S:=q1
  have r2:Src.ok (Shared.heap ⟨hp.push S.obj,g,d,tk,os⟩) T:=Src.ok_push q2
  wp_walk using Src.iter r1,Src.iter r2
  exact⟨_,rfl,h⟩
section
variable{prog:Program}{w:World}{A:Around}{E:Value->Shared->Prop}{s:Shared}
theorem zL(n:Nat):Ap (n+4) (n+2) (n+3) n (n+1):=by
 have k:∀a b:Nat,a≠b->(show Addr from a)≠(show Addr from b):=fun a b h=>h
 constructor<;>exact k _ _ (by omega)
theorem fV {S T:Src} {Q:Value->Shared->Prop} (h1:S.ok s.heap) (h2:T.ok s.heap)
    (h:∀h' z TI TO i1 i2,Ap z TI TO i1 i2->IsZip h' z TI TO .none->IsPair h' TI (.ref i1) (.ref i2)->IsPair h' TO .none .none->S.at i1 0 h'->T.at i2 0 h'->(∀c ∈ [z,TI,TO,i1,i2],s.heap.objs.size<=c) ->
      (∀c o,s.heap.get? c=some o->h'.get? c=some o)->Q (.ref z) {s with heap:=h' }):wpAny (model prog w) A (call (.type "zip") [S.val,T.val]) Q E s:=by
  refine callType_new F.called_zip (by decide) (F.typeCall_zip_2 _ _) (F.newCall_zip_2 _ _) (fun obj=>F.args_object_init_3 obj _ _) F.entry_zip_new (gB S T) ⟨h1,h2,?_⟩
  have z1:(s.heap.push S.obj).objs.size=s.heap.objs.size+1:=Heap.size_push ..
  have z2:((s.heap.push S.obj).push T.obj).objs.size=s.heap.objs.size+2:=by rw[Heap.size_push,z1]
  have z3:(((s.heap.push S.obj).push T.obj).push {cls:=.type "tuple",data:=.seq #[.ref s.heap.objs.size,.ref (s.heap.push S.obj).objs.size]}).objs.size=s.heap.objs.size+3:=by rw[Heap.size_push,z2]
  have z4:(xO s.heap S T).objs.size=s.heap.objs.size+4:=by unfold xO;rw[Heap.size_push,z3]
  have k1:∀c o,(s.heap.push S.obj).get? c=some o->((xO s.heap S T).push (AB s.heap S T)).get? c=some o:=fun c o e=>Heap.get?_push_of_some _ (Heap.get?_push_of_some _ (Heap.get?_push_of_some _ (Heap.get?_push_of_some _ e)))
  have g1:=k1 _ _ (Heap.get?_push_size s.heap (o:=S.obj) (by cases S<;>rfl))
  have g2:((xO s.heap S T).push (AB s.heap S T)).get? (s.heap.push S.obj).objs.size=some T.obj:=Heap.get?_push_of_some _ (Heap.get?_push_of_some _ (Heap.get?_push_of_some _ (Heap.get?_push_size _ (by cases T<;>rfl))))
  have g3:((xO s.heap S T).push (AB s.heap S T)).get? ((s.heap.push S.obj).push T.obj).objs.size=some _:=Heap.get?_push_of_some _ (Heap.get?_push_of_some _ (Heap.get?_push_size _ rfl))
  have g4:((xO s.heap S T).push (AB s.heap S T)).get? (((s.heap.push S.obj).push T.obj).push {cls:=.type "tuple",data:=.seq #[.ref s.heap.objs.size,.ref (s.heap.push S.obj).objs.size]}).objs.size=some _:=Heap.get?_push_of_some _ (Heap.get?_push_size _ rfl)
  have g5:((xO s.heap S T).push (AB s.heap S T)).get? (xO s.heap S T).objs.size=some _:=Heap.get?_push_size _ rfl
  refine⟨⟨_,g5,rfl⟩,h _ _ _ _ _ _ ?_ g5 g3 g4 (Src.start g1) (Src.start g2) ?_ fun c o e=>k1 c o (Heap.get?_push_of_some _ e)⟩
  · rw[z4,z3,z2,z1]
    exact zL _
  · rw[z4,z3,z2,z1]
    intro c hc
    simp only[List.mem_cons,List.not_mem_nil,or_false] at hc
    rcases hc with rfl | rfl | rfl | rfl | rfl
    · exact Nat.le_add_right _ 4
    · exact Nat.le_add_right _ 2
    · exact Nat.le_add_right _ 3
    · exact Nat.le_refl _
    · exact Nat.le_add_right _ 1
end
end HW
namespace HW
open PySem PySem.Spec PyProof.Rows L2
def Src.go(K:W.Frag)(i:Nat)(H:Hp)(v:V):Src->Prop
 | .lst a=>∃xs,k4 K H a xs/\xs[i]?=some v
 | .tup a=>∃xs,kD K H a xs/\xs[i]?=some v
 | .txt x _=>∃c,x.cps[i]?=some c/\v=.str ⟨#[c]⟩
def Src.stop(K:W.Frag)(i:Nat)(H:Hp):Src->Prop
 | .lst a=>∃xs,k4 K H a xs/\xs.length<=i
 | .tup a=>∃xs,kD K H a xs/\xs.length<=i
 | .txt x _=>x.cps.size<=i
def Ck(K:W.Frag)(S T:Src):It:=⟨fun i H=>(∃v,S.go K i H v)/\∃u,T.go K i H u,
 fun i H x H'=>∃a v u,x=.ref a/\H a=none/\H'=upd H a (.tup [v,u])/\(∀v',S.go K i H v'->v'=v)/\∀u',T.go K i H u'->u'=u,
 fun i H=>S.stop K i H\/((∃v,S.go K i H v)/\T.stop K i H)⟩
section
variable{X:Cx}{pins:List (Addr×Obj)}{σ:L2.St}{H:Hp}{s:Shared}{S:Src}{i:Nat}{v:V}
theorem ez{A:Around}{it:Addr}(q:S.go X.K i H v):Nx X.prog X.w A (kF s) (fun h tk=>L2.Inv X pins σ H (kF s h tk)) it (fun h=>S.at it i h) (fun h=>S.at it (i+1) h) (RelV v):=by
 refine Src.nx fun h tk I=>?_
 cases S with
 | lst a =>
  obtain⟨xs,hq,hx⟩:=q
  obtain⟨its,rv,p,hz⟩:=I.list hq
  obtain⟨u,hu,ru⟩:=rv.get hx
  exact⟨_,u,p.isList,by simpa using hu,ru⟩
 | tup a =>
  obtain⟨xs,hq,hx⟩:=q
  obtain⟨its,rv,p,hz⟩:=I.tuple hq
  obtain⟨u,hu,ru⟩:=rv.get hx
  exact⟨its.toArray,u,p,by simpa using hu,ru⟩
 | txt x t =>
  obtain⟨c,hc,e⟩:=q
  subst e
  exact⟨c,hc,fun u=>⟨u,rfl⟩⟩
theorem fR{A:Around}{it:Addr}(hh:A.handled=none)(q:S.stop X.K i H):Ne X.prog X.w A (kF s) (fun h tk=>L2.Inv X pins σ H (kF s h tk)) it (fun h=>S.at it i h):=by
 refine Src.ne hh fun h tk I=>?_
 cases S with
 | lst a =>
  obtain⟨xs,hq,hx⟩:=q
  obtain⟨its,rv,p,hz⟩:=I.list hq
  have hl:=rv.length
  exact⟨_,p.isList,by simp;omega⟩
 | tup a =>
  obtain⟨xs,hq,hx⟩:=q
  obtain⟨its,rv,p,hz⟩:=I.tuple hq
  have hl:=rv.length
  exact⟨its.toArray,p,by simp;omega⟩
 | txt x t=>exact Array.getElem?_eq_none q
theorem eN{v':V}(I:L2.Inv X pins σ H s)(q:S.go X.K i H v)(q':S.go X.K i H v'):v'=v:=by
 cases S with
 | lst a =>
  obtain⟨xs,hq,hx⟩:=q
  obtain⟨ys,hq',hy⟩:=q'
  rw[I.list_inj hq' hq,hx] at hy
  exact(Option.some.inj hy).symm
 | tup a =>
  obtain⟨xs,hq,hx⟩:=q
  obtain⟨ys,hq',hy⟩:=q'
  rw[I.tuple_inj hq' hq,hx] at hy
  exact(Option.some.inj hy).symm
 | txt x t =>
  obtain⟨c,hc,e⟩:=q
  obtain⟨c',hc',e'⟩:=q'
  rw[hc] at hc'
  cases hc'
  rw[e,e']
end
theorem ww{P:Program}{w:World}{K:W.Frag}{es:List Expr}{x1:_}{tp:Pos}{z TI TO i1 i2:Addr}(S T:Src)(D:Ap z TI TO i1 i2) :
  Turn P w K (.Tuple es x1 tp) (Ck K S T) [z,TI,TO,i1,i2] z (fun i h=>IsZip h z TI TO .none/\IsPair h TI (.ref i1) (.ref i2)/\(∃a b,IsPair h TO a b)/\S.at i1 i h/\T.at i2 i h) where
 mem:=List.mem_cons_self
 obj:=fun i h ⟨q1,q2,⟨a,b,q3⟩,q4,q5⟩ c hc=>by
  simp only[List.mem_cons,List.not_mem_nil,or_false] at hc
  rcases hc with rfl | rfl | rfl | rfl | rfl
  ·exact⟨_,q1,fun v e=>nomatch (show Data.fields _=Data.cell v from e)⟩
  ·exact⟨_,q2,fun v e=>nomatch (show Data.seq _=Data.cell v from e)⟩
  ·exact⟨_,q3,fun v e=>nomatch (show Data.seq _=Data.cell v from e)⟩
  ·exact Src.obj_at q4
  ·exact Src.obj_at q5
 keep:=fun i h h' ⟨q1,q2,⟨a,b,q3⟩,q4,q5⟩ k=>⟨k _ (by simp) _ q1,k _ (by simp) _ q2,⟨a,b,k _ (by simp) _ q3⟩,Src.keep q4 (k _ (by simp)),Src.keep q5 (k _ (by simp))⟩
 item:=by
  rintro X rfl rfl rfl hc i pins s σ H E I hf ⟨q1,q2,⟨a,b,q3⟩,q4,q5⟩ ⟨⟨v,g1⟩,⟨u,g2⟩⟩
  have cl:Cl (fun h tk=>L2.Inv X pins σ H (kF s h tk)) [z,TO,i1,i2]:=fun c hc h tk h' tk' J k=>by
   obtain⟨f0,f1,f2,f3,f4,f5⟩:=hf c (by simp only[List.mem_cons,List.not_mem_nil,or_false] at hc ⊢;rcases hc with rfl | rfl | rfl | rfl<;>simp)
   exact J.turned (t':=tk') k f0 f1 f3 f4 f5
  obtain⟨f0,f1,f2,f3,f4,f5⟩:=hf z (by simp)
  refine eG (Good:=fun h tk=>L2.Inv X pins σ H (kF s h tk)) D q1 q2 q3 I cl (ez g1) (ez g2) q4 q5 fun h5 tk u1 u2 h8 G5 p1 p2 z5 I5 O5 t1 t2 z8 k8=>?_
  refine wpAny_letOwnedTupleGo_zip (s:=kF s h8 tk) z8 fun h9 z9 s9=>?_
  have hn:H h5.objs.size=none:=G5.hok.fresh (Nat.le_refl _)
  have lt:∀{c o},h5.get? c=some o->c≠h5.objs.size:=fun e=>Nat.ne_of_lt (Heap.lt_size e)
  have J6:L2.Inv X pins σ (upd H h5.objs.size (.tup [v,u])) {kF s h5 tk with heap:=h5.push {cls:=.type "tuple",data:=.seq #[u1,u2]},toks:=tk}:=
   G5.laid (t':=tk) (fun b u e=>Heap.get?_push_of_some _ e) (Nat.le_refl _) ⟨show 2<=sizeLine by decide,[u1,u2],.cons p1 (.cons p2 .nil),⟨_,Heap.get?_push_size _ rfl,rfl,⟨_,rfl⟩,rfl⟩⟩
  have J8:L2.Inv X pins σ (upd H h5.objs.size (.tup [v,u])) (kF s h8 tk):=J6.turned (t':=tk) (fun b o n e=>k8 b o n e) (by rw[ai (lt z5)];exact f0) f1 f3 f4 f5
  have J9:L2.Inv X pins σ (upd H h5.objs.size (.tup [v,u])) (kF s h9 tk):=J8.turned (t':=tk) (fun b o n e=>s9.extBut b o n e) (by rw[ai (lt z5)];exact f0) f1 f3 f4 f5
  have up:∀c o,c≠z->h5.get? c=some o->h9.get? c=some o:=fun c o n e=>s9.extBut c o n (k8 c o n (Heap.get?_push_of_some _ e))
  refine⟨.ref h5.objs.size,_,J9,rfl,⟨_,v,u,rfl,hn,rfl,fun v' q=>eN I g1 q,fun u' q=>eN I g2 q⟩,⟨z9,up _ _ D.a1 I5,⟨u1,u2,up _ _ D.a2 O5⟩,Src.keep t1 fun o=>up _ o D.a3,Src.keep t2 fun o=>up _ o D.a4⟩,fun c hc=>?_⟩
  have lv:∃o,h5.get? c=some o:=by
   simp only[List.mem_cons,List.not_mem_nil,or_false] at hc
   rcases hc with rfl | rfl | rfl | rfl | rfl
   ·exact⟨_,z5⟩
   ·exact⟨_,I5⟩
   ·exact⟨_,O5⟩
   ·obtain⟨o,e,_⟩:=Src.obj_at t1;exact⟨o,e⟩
   ·obtain⟨o,e,_⟩:=Src.obj_at t2;exact⟨o,e⟩
  obtain⟨o,e⟩:=lv
  rw[ai (lt e)]
  exact(hf c hc).1
 done:=by
  rintro X rfl rfl rfl hc i pins s σ H E I hf ⟨q1,q2,⟨a,b,q3⟩,q4,q5⟩ hg
  have cl:Cl (fun h tk=>L2.Inv X pins σ H (kF s h tk)) [z,TO,i1,i2]:=fun c hc h tk h' tk' J k=>by
   obtain⟨f0,f1,f2,f3,f4,f5⟩:=hf c (by simp only[List.mem_cons,List.not_mem_nil,or_false] at hc ⊢;rcases hc with rfl | rfl | rfl | rfl<;>simp)
   exact J.turned (t':=tk') k f0 f1 f3 f4 f5
  refine e_ (Good:=fun h tk=>L2.Inv X pins σ H (kF s h tk)) (st1:=fun h=>S.at i1 i h) (st2:=fun h=>T.at i2 i h) (st1':=fun h=>S.at i1 (i+1) h) (P1:=fun u=>∃v,RelV v u) D q1 q2 q3 I cl q4 q5 ?_ fun h' tk J=>⟨rfl,J⟩
  rcases hg with hg | ⟨⟨v,g1⟩,g2⟩
  ·exact .inl (fR (I.ok.hd hc) hg)
  ·refine .inr ⟨?_,fR (I.ok.hd hc) g2⟩
   have n:=ez (s:=s) (pins:=pins) (σ:=σ) (A:=X.A.in1) (it:=i1) g1
   exact⟨n.stay,n.stay',fun h tk Q E c1 c2 c3=>n.run h tk Q E c1 c2 fun u h' tk' p=>c3 u h' tk' ⟨v,p⟩⟩
 self:=fun _ _ _ _ _ st h=>wpAny_pyIter_zip st.1 h
section
variable{X:Cx}
def t9(K:W.Frag)(H:Hp)(ds:LD):Src->Prop
 | .lst a=>∃xs,k4 K H a xs/\iU K H ds xs
 | .tup a=>∃xs,kD K H a xs/\iU K H ds xs
 | .txt x _=>ds=chars x
theorem vE{x:Str}{i:Nat}{d:D}(e:(chars x)[i]?=some d):∃c,x.cps[i]?=some c/\d=.str ⟨#[c]⟩:=by
 unfold chars at e
 rw[List.getElem?_map] at e
 obtain⟨c,e1,e⟩:=jS e
 exact⟨c,by simpa using e1,e.symm⟩
theorem qV{K:W.Frag}{H H2:Hp}{ds:LD}{S:Src}{i:Nat}{d:D}(h:t9 K H ds S)(k:Kp H H2)(e:ds[i]?=some d):∃v,S.go K i H2 v/\Rep K H2 d v:=by
 cases S with
 | lst a =>
  obtain⟨xs,hq,t⟩:=h
  obtain⟨v,h1,h2⟩:=t.get e
  exact⟨v,⟨xs,k.seq hq,h1⟩,h2.kp k⟩
 | tup a =>
  obtain⟨xs,hq,t⟩:=h
  obtain⟨v,h1,h2⟩:=t.get e
  exact⟨v,⟨xs,k.tup hq,h1⟩,h2.kp k⟩
 | txt x t =>
  cases (show ds=_ from h)
  obtain⟨c,h1,rfl⟩:=vE e
  exact⟨_,⟨c,h1,rfl⟩,rfl⟩
theorem qz{K:W.Frag}{H H2:Hp}{ds:LD}{S:Src}{i:Nat}(h:t9 K H ds S)(k:Kp H H2)(e:ds.length<=i):S.stop K i H2:=by
 cases S with
 | lst a=>obtain⟨xs,hq,t⟩:=h;exact⟨xs,k.seq hq,by rw[<- t.length];exact e⟩
 | tup a=>obtain⟨xs,hq,t⟩:=h;exact⟨xs,k.tup hq,by rw[<- t.length];exact e⟩
 | txt x t =>
  cases (show ds=_ from h)
  have hl:(chars x).length=x.cps.size:=by simp[chars]
  rw[hl] at e
  exact e
theorem en{K:W.Frag}{H:Hp}{xs ys:LD}{S T:Src}(hS:t9 K H xs S)(hT:t9 K H ys T):k9 K (Ck K S T) (sh xs ys) H:=by
 refine⟨fun i d H2 k e=>?_,fun i H2 k hl=>?_⟩
 ·obtain⟨x,y,ex,ey,rfl⟩:=wF e
  obtain⟨v,g1,r1⟩:=qV hS k ex
  obtain⟨u,g2,r2⟩:=qV hT k ey
  refine⟨⟨⟨v,g1⟩,⟨u,g2⟩⟩,?_⟩
  rintro p H3 ⟨a,v',u',rfl,hn,rfl,w1,w2⟩
  cases w1 v g1
  cases w2 u g2
  have s3:=aH hn (.tup [v,u])
  exact⟨s3,a,[v,u],rfl,kD.of af,v,[u],rfl,r1.mono s3,u,[],rfl,r2.mono s3,rfl⟩
 ·by_cases hx:xs.length<=i
  ·exact .inl (qz hS k hx)
  ·have hx':i<xs.length:=by omega
   obtain⟨v,g1,_⟩:=qV hS k (List.getElem?_eq_getElem hx')
   refine .inr ⟨⟨v,g1⟩,qz hT k ?_⟩
   rw[rQ] at hl
   omega
theorem fP{pins:List (Addr×Obj)}{σ:L2.St}{H:Hp}{s:Shared}{x:D}{v:V}{u:Value}{xs:LD}(I:L2.Inv X pins σ H s)(e:jb? x=some xs)(r:Rep X.K H x v)(ru:RelV v u) :
  ∃S:Src,u=S.val/\S.ok s.heap/\t9 X.K H xs S:=by
 cases x with
 | tup ds =>
  cases e
  obtain⟨a,vs,rfl,hq,t⟩:=r
  cases (show u=_ from ru)
  obtain⟨its,rv,p,hz⟩:=I.tuple hq
  exact⟨.tup a,rfl,⟨its.toArray,p⟩,vs,hq,t⟩
 | lst ds =>
  cases e
  obtain⟨a,vs,rfl,hq,t⟩:=r
  cases (show u=_ from ru)
  obtain⟨its,rv,p,hz⟩:=I.list (k4.of hq)
  exact⟨.lst a,rfl,⟨_,p.isList⟩,vs,k4.of hq,t⟩
 | str z =>
  replace e:(if z.cps.all (·<128) then some (chars z) else none)=some xs:=e
  split at e
  ·rename_i hz
   cases e
   cases (show v=_ from r)
   obtain⟨t,rfl⟩:=ru
   exact⟨.txt z t,rfl,hz,rfl⟩
  ·cases e
 | _=>cases e
theorem hW{es:List Expr}{x1:_}{tp:Pos}{a b:Expr}{f g:R->OD}{p pos:Pos}(hm:X.mg "zip" = none)(ha:SE X a f)(hb:SE X b g)(hg:Gl X "zip":=by rfl)(hs:noStar a=true:=by rfl)(hs2:noStar b=true:=by rfl) :
  SI X (.Tuple es x1 tp) (.Call (.Name "zip" p) [a,b] [] pos) (oX f g):=by
 have z2:=aw [] X.env hs2
 have z1:=aw [b] X.env hs
 intro pins s σ H W I ⟨ρ,ds,er,e,q⟩
 obtain⟨x,e1,e⟩:=iS e
 obtain⟨y,e2,e⟩:=iS e
 obtain⟨xs,e3,e⟩:=iS e
 obtain⟨ys,e4,e⟩:=jS e
 subst e
 have PAA:=(aa ha (aa hb ad hs2) hs).1
 refine Call_ (c_ I hg hm (u:=.type "zip") (by kernel_rfl) (PyProof.Rows.callWith_type1 (jy (PAA pos pins s σ H (fun vs H1=>iX H H1/\iU X.K H1 [x,y] vs) I
  ⟨ρ,[x,y],er,by show(f ρ).bind _=_;rw[e1];show((g ρ).bind _).map _=_;rw[e2];rfl,fun vs H1 s1 r1=>⟨s1,r1⟩⟩) fun us s1 ⟨vs,H1,I1,r1,sm,q1⟩=>?_) (by rw[z1,z2]) (by rw[z2];rfl)))
 obtain⟨v,r,rfl,r2,r3⟩:=q1
 obtain⟨u,r',rfl,r4,r5⟩:=r3
 cases (show r'=_ from r5)
 cases r1 with
 | cons ra rr =>
  cases rr with
  | cons rb rr =>
   cases rr
   obtain⟨S,rfl,okS,dS⟩:=fP I1 e3 r2 ra
   obtain⟨T,rfl,okT,dT⟩:=fP I1 e4 r4 rb
   refine fV okS okT fun h' z TI TO i1 i2 D hz hI hO sS sT new kept=>?_
   refine wpAny_pyIter_zip (s:={s1 with heap:=h' }) hz ?_
   refine⟨z,[z,TI,TO,i1,i2],_,_,H1,rfl,I1.kept (t':=s1.toks) kept,ww S T D,⟨hz,hI,⟨_,_,hO⟩,sS,sT⟩,fun c hc=>I1.fpOk (new c hc) (I1.hok.fresh (new c hc)),q _ H1 sm (en dS dT)⟩
end
end HW
namespace HW
open PySem
def zY:List (Str×D)->Str->OD
 | [],_=>none
 | p::r,x=>if p.1=x then some p.2 else zY r x
end HW
namespace L2
open PySem PySem.Spec PyProof.Rows
section
variable{κ:Type}[DecidableEq κ]
def kQ(kvs:List (κ×V))(k:κ):Option V:=(kvs.find? fun kv=>decide (kv.1=k)).map (·.2)
def putK(kvs:List (κ×V))(k:κ)(v:V):List (κ×V):=
 if (kvs.any fun kv=>decide (kv.1=k))=true then kvs.map (fun kv=>if kv.1=k then (kv.1,v) else kv) else kvs++[(k,v)]
def yS(kvs:List (κ×V))(k:κ):List (κ×V):=kvs.filter fun kv=>decide (kv.1≠k)
theorem mL{p:κ×V}{r:List (κ×V)}{k:κ}(e:p.1=k):kQ (p::r) k=some p.2:=by simp[kQ,List.find?_cons,e]
theorem mX{p:κ×V}{r:List (κ×V)}{k:κ}(e:¬ p.1=k):kQ (p::r) k=kQ r k:=by simp[kQ,List.find?_cons,e]
theorem oY(k:κ):∀kvs:List (κ×V),(kvs.any fun kv=>decide (kv.1=k))=(kQ kvs k).isSome
 | []=>rfl
 | p::r=>by
  rw[List.any_cons]
  by_cases e:p.1=k
  ·simp only[mL e,decide_eq_true e,Bool.true_or,Option.isSome_some]
  ·rw[mX e,decide_eq_false e,Bool.false_or];exact oY k r
theorem nO(kvs:List (κ×V))(k:κ)(v:V):(putK kvs k v).length<=kvs.length+1:=by
 unfold putK
 split
 ·rw[List.length_map];omega
 ·rw[List.length_append,List.length_cons,List.length_nil];omega
theorem xk{kvs:List (κ×V)}{k:κ}(v:V)(h:kQ kvs k=none):putK kvs k v=kvs++[(k,v)]:=by
 unfold putK
 rw[oY,h]
 exact if_neg (by decide)
theorem nY.isSome_eq{o:Option V}{u:Option Value}(r:nY o u):o.isSome=u.isSome:=by
 cases o with
 | none=>cases u with
  | none=>rfl
  | some _=>exact(show False from r).elim
 | some _=>cases u with
  | none=>exact(show False from r).elim
  | some _=>rfl
theorem nY.getD{o:Option V}{u:Option Value}{d:V}{d':Value}(r:nY o u)(rd:RelV d d'):RelV (o.getD d) (u.getD d'):=by
 cases o with
 | none=>cases u with
  | none=>exact rd
  | some _=>exact(show False from r).elim
 | some _=>cases u with
  | none=>exact(show False from r).elim
  | some _=>exact r
theorem KV.val{kvs:List (κ×V)}{vs:List (κ×Value)}(r:KV kvs vs)(k:κ):nY (kQ kvs k) (valueAt vs k):=by
 unfold KV at r
 induction r with
 | nil=>exact True.intro
 | @cons p q ps qs h t ih =>
  obtain⟨h1,h2⟩:=h
  by_cases e:p.1=k
  ·have e':q.1=k:=h1.symm.trans e
   have b:valueAt (q::qs) k=some q.2:=by simp[valueAt,List.find?_cons,e']
   rw[mL e,b];exact h2
  ·have e':¬ q.1=k:=fun z=>e (h1.trans z)
   have b:valueAt (q::qs) k=valueAt qs k:=by simp[valueAt,List.find?_cons,e']
   rw[mX e,b];exact ih
theorem KV.any{kvs:List (κ×V)}{vs:List (κ×Value)}(r:KV kvs vs)(k:κ):(kvs.any fun kv=>decide (kv.1=k))=vs.any fun kv=>decide (kv.1=k):=by
 unfold KV at r
 induction r with
 | nil=>rfl
 | cons h t ih=>rw[List.any_cons,List.any_cons,ih,h.1]
theorem KV.repl{kvs:List (κ×V)}{vs:List (κ×Value)}(r:KV kvs vs)(k:κ){y:V}{u:Value}(ry:RelV y u) :
  KV (kvs.map fun kv=>if kv.1=k then (kv.1,y) else kv) (vs.map fun kv=>if kv.1=k then (kv.1,u) else kv):=by
 unfold KV at r ⊢
 induction r with
 | nil=>exact .nil
 | @cons p q ps qs h t ih =>
  rw[List.map_cons,List.map_cons]
  refine .cons ?_ ih
  obtain⟨h1,h2⟩:=h
  by_cases e:p.1=k
  ·rw[if_pos e,if_pos (h1.symm.trans e)];exact⟨h1,ry⟩
  ·rw[if_neg e,if_neg (fun z=>e (h1.trans z))];exact⟨h1,h2⟩
theorem KV.put{kvs:List (κ×V)}{vs:List (κ×Value)}(r:KV kvs vs)(k:κ){y:V}{u:Value}(ry:RelV y u):KV (putK kvs k y) (stored vs k u):=by
 unfold putK stored
 rw[r.any k]
 by_cases e:(vs.any fun kv=>decide (kv.1=k))=true
 ·rw[if_pos e,if_pos e];exact r.repl k ry
 ·rw[if_neg e,if_neg e];exact Paired.snoc r ⟨rfl,ry⟩
theorem KV.drop{kvs:List (κ×V)}{vs:List (κ×Value)}(r:KV kvs vs)(k:κ):KV (yS kvs k) (without vs k):=by
 unfold KV at r ⊢
 unfold yS without
 induction r with
 | nil=>exact .nil
 | @cons p q ps qs h t ih =>
  obtain⟨h1,h2⟩:=h
  rw[List.filter_cons,List.filter_cons]
  by_cases e:p.1=k
  ·have a:¬ decide (p.1≠k)=true:=by simp[e]
   have b:¬ decide (q.1≠k)=true:=by simp[h1.symm.trans e]
   rw[if_neg a,if_neg b];exact ih
  ·have e':¬ q.1=k:=fun z=>e (h1.trans z)
   have a:decide (p.1≠k)=true:=by simp[e]
   have b:decide (q.1≠k)=true:=by simp[e']
   rw[if_pos a,if_pos b];exact .cons ⟨h1,h2⟩ ih
theorem KV.keys{kvs:List (κ×V)}{vs:List (κ×Value)}(r:KV kvs vs):kvs.map (·.1)=vs.map (·.1):=by
 unfold KV at r
 induction r with
 | nil=>rfl
 | cons h t ih=>rw[List.map_cons,List.map_cons,ih,h.1]
theorem KV.length{kvs:List (κ×V)}{vs:List (κ×Value)}(r:KV kvs vs):kvs.length=vs.length:=Paired.length r
end
theorem so{P:Program}{w:World}{k:Key}{u:Value}(r:RelV (kV k) u):(i6 P w).is k u=true:=by
 cases k with
 | inl i=>obtain⟨t,e⟩:=(show ∃t,u=Value.int i t from r);subst e;exact tj P w i t
 | inr x=>obtain⟨t,e⟩:=(show ∃t,u=Value.str x t from r);subst e;exact s_ P w x t
theorem nj{P:Program}{w:World}:∀{ks:List Key} {us:List Value},i5 (ks.map kV) us->ItemsAre (i6 P w) ks us
 | [],_,r=>by rw[List.map_nil] at r;cases r;exact .nil
 | k::ks,_,r=>by
  rw[List.map_cons] at r
  cases r with
  | cons h t=>exact .cons (so h) (nj t)
abbrev KT(H:Hp):List (List Key×V)->List (List Key×Addr×Value)->Prop:=Paired fun p q=>p.1=q.1/\H q.2.1=some (.tup (p.1.map kV))/\RelV p.2 q.2.2
theorem KT.val{H:Hp}{kvs:List (List Key×V)}{xs:List (List Key×Addr×Value)}(r:KT H kvs xs)(k:List Key):nY (kQ kvs k) ((atKey xs k).map (·.2)):=by
 induction r with
 | nil=>exact True.intro
 | @cons p q ps qs h t ih =>
  obtain⟨h1,_,h2⟩:=h
  by_cases e:p.1=k
  ·have e':q.1=k:=h1.symm.trans e
   have b:atKey (q::qs) k=some q.2:=by simp[atKey,List.find?_cons,e']
   rw[mL e,b];exact h2
  ·have e':¬ q.1=k:=fun z=>e (h1.trans z)
   have b:atKey (q::qs) k=atKey qs k:=by simp[atKey,List.find?_cons,e']
   rw[mX e,b];exact ih
theorem KT.repl{H:Hp}{kvs:List (List Key×V)}{xs:List (List Key×Addr×Value)}(r:KT H kvs xs)(k:List Key){y:V}{u:Value}(ry:RelV y u) :
  KT H (kvs.map fun kv=>if kv.1=k then (kv.1,y) else kv) (xs.map (putAt k u)):=by
 induction r with
 | nil=>exact .nil
 | @cons p q ps qs h t ih =>
  rw[List.map_cons,List.map_cons]
  refine .cons ?_ ih
  obtain⟨h1,h2,h3⟩:=h
  unfold putAt
  by_cases e:p.1=k
  ·rw[if_pos e,if_pos (h1.symm.trans e)];exact⟨h1,h2,ry⟩
  ·rw[if_neg e,if_neg (fun z=>e (h1.trans z))];exact⟨h1,h2,h3⟩
theorem KT.put{H:Hp}{kvs:List (List Key×V)}{xs:List (List Key×Addr×Value)}(r:KT H kvs xs)(k:List Key){b:Addr}{y:V}{u:Value}(hb:H b=some (.tup (k.map kV)))(ry:RelV y u) :
  KT H (putK kvs k y) (storedH xs k b u):=by
 have e:(kvs.any fun kv=>decide (kv.1=k))=(atKey xs k).isSome:=by
  rw[oY,(r.val k).isSome_eq,Option.isSome_map]
 unfold putK storedH
 rw[e]
 by_cases q:(atKey xs k).isSome=true
 ·rw[if_pos q,if_pos q];exact r.repl k ry
 ·rw[if_neg q,if_neg q];exact Paired.snoc r ⟨rfl,hb,ry⟩
theorem KT.keeps{H H':Hp}{kvs:List (List Key×V)}{xs:List (List Key×Addr×Value)}(r:KT H kvs xs)(ht:∀b ys,H b=some (.tup ys)->H' b=some (.tup ys)):KT H' kvs xs:=
 Paired.mapP r fun _ _ z=>⟨z.1,ht _ _ z.2.1,z.2.2⟩
section
variable{P:Program}{w:World}{H:Hp}{h:Heap}{a:Addr}
theorem yZ{u:HO}(ok:mh P w H h)(e:Rd H a u):jA P w H h a u:=e.ok ok
theorem eV{kvs:List (Key×V)}(ok:mh P w H h)(e:Rd H a (.dK kvs)):kvs.length<=sizeLine/\(a==sysModules)=false/\∃vs,KV kvs vs/\h.DictOf (i6 P w) a vs:=
 show jA P w H h a (.dK kvs) from yZ ok e
theorem hJ{kvs:List (Key×V)}(ok:mh P w H h)(e:H a=some (.dK kvs)):kvs.length<=sizeLine/\(a==sysModules)=false/\∃vs,KV kvs vs/\h.DictOf (i6 P w) a vs:=eV ok (.inl e)
theorem rm{ks:List Key}(ok:mh P w H h)(e:H a=some (.tup (ks.map kV))):(tupleKind (i6 P w)).is h ks a:=by
 obtain⟨_,its,r,o,h1,h2,⟨n,h3⟩,_⟩:=(show jA P w H h a (.tup (ks.map kV)) from ok a _ e)
 exact⟨o,its.toArray,n,h1,h2,h3,by simpa using nj r⟩
theorem eS{kvs:List (List Key×V)}(ok:mh P w H h)(e:Rd H a (.dT kvs)):kvs.length<=sizeLine/\(a==sysModules)=false /\
  ∃xs,KT H kvs xs/\h.DictOfH (tupleKind (i6 P w)) a xs:=by
 obtain⟨z,y,xs,r,o,es,ep,h1,h2,h3,h4,h5⟩:=(show jA P w H h a (.dT kvs) from yZ ok e)
 refine⟨z,y,xs,r,o,es,ep,h1,h2,h3,h4,fun x hx=>?_,h5⟩
 have all:∀{l:List (List Key×V)} {m:List (List Key×Addr×Value)},KT H l m->∀x∈m,(tupleKind (i6 P w)).is h x.1 x.2.1:=by
  intro l m q
  induction q with
  | nil=>intro x hx;exact nomatch hx
  | @cons p q ps qs hq t ih =>
   intro x hx
   rcases List.mem_cons.mp hx with e | hx
   ·subst e
    exact rm ok (by rw[<- hq.1];exact hq.2.1)
   ·exact ih x hx
 exact all r x hx
theorem iN{kvs:List (List Key×V)}(ok:mh P w H h)(e:H a=some (.dT kvs)):kvs.length<=sizeLine/\(a==sysModules)=false /\
  ∃xs,KT H kvs xs/\h.DictOfH (tupleKind (i6 P w)) a xs:=eS ok (.inl e)
end
def oG(H:Hp)(a:Addr)(y:V)(r:Option V):Prop:=
 (∃kvs k,Rd H a (.dK kvs)/\y=kV k/\r=kQ kvs k)\/∃kvs k b,Rd H a (.dT kvs)/\y=.ref b/\H b=some (.tup (k.map kV))/\r=kQ kvs k
def tK(H:Hp)(a:Addr)(y v:V)(H':Hp):Prop:=
 (∃kvs k,H a=some (.dK kvs)/\y=kV k/\kvs.length<sizeLine/\H'=upd H a (.dK (putK kvs k v))) \/
 ∃kvs k b,H a=some (.dT kvs)/\y=.ref b/\H b=some (.tup (k.map kV))/\kvs.length<sizeLine/\H'=upd H a (.dT (putK kvs k v))
theorem oG.k{H:Hp}{a:Addr}{kvs:List (Key×V)}{k:Key}(e:H a=some (.dK kvs)):oG H a (kV k) (kQ kvs k):=.inl ⟨kvs,k,.inl e,rfl,rfl⟩
theorem oG.t{H:Hp}{a b:Addr}{kvs:List (List Key×V)}{k:List Key}(e:H a=some (.dT kvs))(eb:H b=some (.tup (k.map kV))):oG H a (.ref b) (kQ kvs k):=.inr ⟨kvs,k,b,.inl e,rfl,eb,rfl⟩
theorem tK.k{H:Hp}{a:Addr}{kvs:List (Key×V)}{k:Key}{v:V}(e:H a=some (.dK kvs))(hl:kvs.length<sizeLine):tK H a (kV k) v (upd H a (.dK (putK kvs k v))):=.inl ⟨kvs,k,e,rfl,hl,rfl⟩
theorem tK.t{H:Hp}{a b:Addr}{kvs:List (List Key×V)}{k:List Key}{v:V}(e:H a=some (.dT kvs))(eb:H b=some (.tup (k.map kV)))(hl:kvs.length<sizeLine) :
  tK H a (.ref b) v (upd H a (.dT (putK kvs k v))):=.inr ⟨kvs,k,b,e,rfl,eb,hl,rfl⟩
section
variable{X:Cx}{pins:List (Addr×Obj)}{σ:St}{H:Hp}{s:Shared}{a:Addr}{y v:V}{u r:Value}{o:Option V}{A:Around}{E:Value->Shared->Prop}
theorem Inv.big(I:Inv X pins σ H s):sysModules<s.heap.objs.size:=by
 have h:mainGlobals<s.heap.objs.size:=(I.mod.glob.keeps I.bk).lt
 exact Nat.lt_trans (by decide) h
theorem fj{Q:Value->Shared->Prop}(hu:A.units+1<cLine)(I:Inv X pins σ H s)(g:oG H a y (some v))(ry:RelV y u)(h:∀w' s',Inv X pins σ H s'->RelV v w'->Q w' s') :
  wpAny (model X.prog X.w) A (getItem (.ref a) u) Q E s:=by
 rcases g with ⟨kvs,k,e,ey,l⟩ | ⟨kvs,k,b,e,ey,eb,l⟩
 ·subst ey
  obtain⟨z,hd,vs,rel,dd⟩:=eV I.hok e
  obtain⟨w',hw,rw'⟩:=nY.some_of (v:=v) (o:=valueAt vs k) (by rw[l];exact rel.val k)
  exact wpAny_getItem_of (so ry) dd.mapOf hw (h w' _ (I.tok _) rw')
 ·subst ey
  cases (show u=Value.ref b from ry)
  obtain⟨z,hd,xs,rel,dd⟩:=eS I.hok e
  obtain⟨w',hw,rw'⟩:=nY.some_of (v:=v) (o:=(atKey xs k).map (·.2)) (by rw[l];exact rel.val k)
  obtain⟨p,hp,hp2⟩:=Option.map_eq_some_iff.mp hw
  refine wpAny_getItem_heap (tupleKind_room_in1 hu) (rm I.hok eb) dd hp ?_
  rw[hp2]
  exact h w' _ (I.tok _) rw'
theorem gm{Q:Value->Shared->Prop}(hu:A.units+1<cLine)(I:Inv X pins σ H s)(g:oG H a y o)(ry:RelV y u)(h:∀s',Inv X pins σ H s'->Q (.bool (!o.isSome)) s') :
  wpAny (model X.prog X.w) A (compareOp .NotIn u (.ref a)) Q E s:=by
 rcases g with ⟨kvs,k,e,ey,l⟩ | ⟨kvs,k,b,e,ey,eb,l⟩
 ·subst ey
  obtain⟨z,hd,vs,rel,dd⟩:=eV I.hok e
  refine wpAny_notIn_of (so ry) hd dd.mapOf ?_
  rw[<- (rel.val k).isSome_eq,<- l]
  exact h _ (I.tok _)
 ·subst ey
  cases (show u=Value.ref b from ry)
  obtain⟨z,hd,xs,rel,dd⟩:=eS I.hok e
  refine wpAny_notIn_heap (tupleKind_room_in1 hu) (rm I.hok eb) hd dd ?_
  have q:=(rel.val k).isSome_eq
  rw[Option.isSome_map] at q
  rw[<- q,<- l]
  exact h _ (I.tok _)
theorem bX{h':Heap}{t':Nat}{ob:HO}(I:Inv X pins σ H s)(mu:Ba (H a))(hs:Heap.SameBut a s.heap h')(he:∃q,h'.get? a=some q)(new:jA X.prog X.w (upd H a ob) h' a ob) :
  Inv X pins σ (upd H a ob) {s with heap:=h',toks:=t' }:=
 I.write (x:=a) (e:=a) mu (.inl rfl) (fun b q hb z=>(hs.2 b hb).trans z) he new
theorem fv{P:Program}{w:World}{H':Hp}{h':Heap}{kvs:List (Key×V)}{vs:List (Key×Value)}(z:kvs.length<=sizeLine)(hd:(a==sysModules)=false)(rel:KV kvs vs)(dd:h'.DictOf (i6 P w) a vs) :
  jA P w H' h' a (.dK kvs):=⟨z,hd,vs,rel,dd⟩
theorem fc{H':Hp}{Q:Unit->Shared->Prop}(hu:A.units+1<cLine)(I:Inv X pins σ H s)(g:tK H a y v H')(ry:RelV y u)(rv:RelV v r)(h:∀s',Inv X pins σ H' s'->Q () s') :
  wpAny (model X.prog X.w) A (setItem (.ref a) u r) Q E s:=by
 rcases g with ⟨kvs,k,e,ey,l,eH⟩ | ⟨kvs,k,b,e,ey,eb,l,eH⟩
 ·subst ey eH
  obtain⟨z,hd,vs,rel,dd⟩:=hJ I.hok e
  have hz:vs.length<=sizeLine:=by rw[<- rel.length];exact z
  have hl:(putK kvs k v).length<=sizeLine:=by have:=nO kvs k v;omega
  refine wpAny_setItem_pairs (hsz:=hz) (so ry) dd fun h' dd' hs=>h _ ?_
  have he:∃q,h'.get? a=some q:=let ⟨q,_,_,hq,_⟩:=dd';⟨q,hq⟩
  exact bX I (by rw[e];exact True.intro) hs he (fv hl hd (rel.put k rv) dd')
 ·subst ey eH
  cases (show u=Value.ref b from ry)
  obtain⟨z,hd,xs,rel,dd⟩:=iN I.hok e
  have hz:xs.length<=sizeLine:=by rw[<- Paired.length rel];exact z
  have hl:(putK kvs k v).length<=sizeLine:=by have:=nO kvs k v;omega
  refine wpAny_setItem_heap (hsz:=hz) (tupleKind_room_in1 hu) (rm I.hok eb) dd fun h' dd' hs=>h _ ?_
  obtain⟨q,es,ep,hq,h2,h3,h4,_,h5⟩:=dd'
  refine bX I (by rw[e];exact True.intro) hs ⟨q,hq⟩ ⟨hl,hd,_,(rel.put k eb rv).keeps fun c ys ec=>?_,q,es,ep,hq,h2,h3,h4,h5⟩
  rw[ai (w6 ec e (fun z=>nomatch z))]
  exact ec
end
section
variable{X:Cx}{pins:List (Addr×Obj)}{σ:St}{H:Hp}{s:Shared}{a:Addr}{kvs:List (Key×V)}{k:Key}{u:Value}{A:Around}{E:Value->Shared->Prop}
end
def A4(i:Expr):Prop:=∀ov iv,subscripted i false ov iv=operate [ov,iv] (getItem ov iv)
theorem x9{prog:Program}{w:World}{A:Around}{E:Value->Shared->Prop}{s:Shared}{env:Env}{value slice:Expr}{pos:Pos}{T id:String}{Q:Value->Shared->Prop}
  (hl:typeLookup (.type T) "__getitem__" = pure (some (.builtin id))) (hs:A4 slice)
  (h:wpAny (model prog w) A (eval value env) (fun o s₁=>wpAny (model prog w) A (eval slice env) (fun i s₂=>s₂.TypeIs o T/\wpAny (model prog w) A (getItem o i) Q E s₂) E s₁) E s) :
  wpAny (model prog w) A (eval (.Subscript value slice pos) env) Q E s:=by
 refine Subscript_ (wpAny_mono h (fun o s₁ h₁=>wpAny_mono h₁ (fun i s₂ h₂=>?_) fun _ _ x=>x) fun _ _ x=>x)
 obtain⟨hT,h₂⟩:=h₂
 unfold subscriptTail
 refine wpAny_bind ?_
 rw[getitemInPython_of_ne hT.not_modules]
 refine wpAny_bind (wpAny_specialOf hT hl ?_)
 have fin:wpAny (model prog w) A (subscripted slice false o i) (fun r s₃=>wpAny (model prog w) A (letTemporaryGo value o r >>= fun _=>pure r) Q E s₃) E s₂:=by
  rw[hs o i]
  exact wpAny_operating (wpAny_mono h₂ (fun r s₃ h₃=>wpAny_bind (wpAny_letTemporaryGo (wpAny_pure h₃))) fun _ _ x=>x)
 first
  | exact wpAny_pure (wpAny_bind fin)
  | exact wpAny_bind (wpAny_pure (wpAny_bind fin))
  | exact wpAny_bind fin
theorem sZ{X:Cx}{pins:List (Addr×Obj)}{σ:St}{H:Hp}{s:Shared}{a:Addr}{y:V}{o:Option V}(I:Inv X pins σ H s)(g:oG H a y o):s.TypeIs (.ref a) "dict":=by
 rcases g with ⟨kvs,k,e,_,_⟩ | ⟨kvs,k,b,e,_,_,_⟩
 ·obtain⟨_,_,vs,_,dd⟩:=eV I.hok e
  exact dd.typeIs
 ·obtain⟨_,_,xs,_,dd⟩:=eS I.hok e
  exact dd.typeIs
section
variable{X:Cx}{o i e value:Expr}{pos pos' tpos:Pos}{td ty tv:TE}
end
theorem fH{P:Program}{w:World}{H:Hp}(h:Heap)(hb:sysModules<h.objs.size):jA P w H (h.push {cls:=.type "dict",data:=.dict #[]}) h.objs.size (.dK []):=
 ⟨Nat.zero_le _,beq_eq_false_iff_ne.mpr (Ne.symm (Nat.ne_of_lt hb)),[],.nil,Heap.DictOf.new h⟩
section
variable{X:Cx}{pos:Pos}
end
def tM:List (TE×TE)->St->Hp->(List (V×V)->Hp->Prop)->Prop
 | [],_,H,Q=>Q [] H
 | (tk,tv)::r,σ,H,Q=>tk σ H fun x H1=>tv σ H1 fun y H2=>tM r σ H2 fun ps H3=>Q ((x,y)::ps) H3
abbrev VV:List (V×V)->List (Value×Value)->Prop:=Paired fun p q=>RelV p.1 q.1/\RelV p.2 q.2
def BR(X:Cx)(pos:Pos)(keys:List (Option Expr))(values:List Expr)(trs:List (TE×TE)):Prop:=
 ∀(pins:List (Addr×Obj)) (s:Shared) (σ:St) (H:Hp) (Q:List (V×V)->Hp->Prop),Inv X pins σ H s->tM trs σ H Q ->
  wpAny (model X.prog X.w) X.A (evalPairs (pairTrees keys values X.env pos)) (fun vs s'=>∃ps H',Inv X pins σ H' s'/\VV ps vs/\Q ps H') X.xe s
theorem yG{X:Cx}{pos:Pos}:BR X pos [] [] []:=fun pins s σ H Q I h=>pairTrees_nil_walk ⟨[],H,I,.nil,h⟩
theorem wl{X:Cx}{pos:Pos}{k v:Expr}{ks:List (Option Expr)}{vs:List Expr}{tk tv:TE}{trs:List (TE×TE)}(hk:PE X k tk)(hv:PE X v tv)(hr:BR X pos ks vs trs) :
  BR X pos (some k::ks) (v::vs) ((tk,tv)::trs):=fun pins s σ H Q I h =>
 pairTrees_cons_walk (jy (hk pins s σ H _ I h) fun u s1 ⟨x,H1,I1,rx,q1⟩=>jy (hv pins s1 σ H1 _ I1 q1) fun w2 s2 ⟨y,H2,I2,ry,q2⟩ =>
  jy (hr pins s2 σ H2 _ I2 q2) fun ws s3 ⟨ps,H3,I3,rel,q3⟩=>⟨(x,y)::ps,H3,I3,.cons ⟨rx,ry⟩ rel,q3⟩)
section
variable{X:Cx}{pins:List (Addr×Obj)}{σ:St}{H:Hp}{s:Shared}{a:Addr}{y d:V}{u r:Value}{o:Option V}{A:Around}{E:Value->Shared->Prop}
end
section
variable{X:Cx}{o e f:Expr}{apos cpos:Pos}{td ty tx:TE}
end
section
variable{X:Cx}{pins:List (Addr×Obj)}{σ:St}{H:Hp}{s:Shared}{a:Addr}{kvs:List (Key×V)}{A:Around}{E:Value->Shared->Prop}
end
section
variable{X:Cx}{pins:List (Addr×Obj)}{σ:St}{H:Hp}{s:Shared}{a:Addr}{y:V}{u:Value}{A:Around}{E:Value->Shared->Prop}
end
end L2
namespace HW
open PySem PySem.Spec PyProof.Rows L2
def pI(P:Program)(w:World)(a:Addr)(kvs:List (Key×V)):HO:=.ext fun h=>kvs.length<=sizeLine/\(a==sysModules)=false/\∃vs,KV kvs vs/\h.DictOf (i6 P w) a vs
section
variable{X:Cx}{pins:List (Addr×Obj)}{σ:L2.St}{H:Hp}{s:Shared}{a:Addr}{kvs:List (Key×V)}
theorem eZ(I:L2.Inv X pins σ H s)(h:H a=some (pI X.prog X.w a kvs)):kvs.length<=sizeLine/\(a==sysModules)=false/\∃vs,KV kvs vs/\s.heap.DictOf (i6 X.prog X.w) a vs:=(I.hok a _ h).1
theorem n_(I:L2.Inv X pins σ H s)(h:H a=some (.dK kvs)):L2.Inv X pins σ (upd H a (pI X.prog X.w a kvs)) s:=by
 obtain⟨z,y,vs,r,ob,es,ep,e,c⟩:=I.hok a _ h
 have:=I.write (t':=s.toks) (h':=s.heap) (o:=pI X.prog X.w a kvs) (x:=a) (e:=a) (by rw[h];trivial) (.inl rfl) (fun _ _ _ q=>q) ⟨_,e⟩ ⟨⟨z,y,vs,r,ob,es,ep,e,c⟩,⟨_,e⟩,fun h1 h2 ⟨z,y,vs,r,ob,es,ep,e,c⟩ k=>⟨z,y,vs,r,ob,es,ep,k _ e,c⟩⟩
 exact this
theorem xu(I:L2.Inv X pins σ H s)(h:H a=some (pI X.prog X.w a kvs)):L2.Inv X pins σ (upd H a (.dK kvs)) s:=by
 obtain⟨z,y,vs,r,ob,es,ep,e,c⟩:=eZ I h
 have:=I.write (t':=s.toks) (h':=s.heap) (o:=.dK kvs) (x:=a) (e:=a) (by rw[h];trivial) (.inl rfl) (fun _ _ _ q=>q) ⟨_,e⟩ ⟨z,y,vs,r,ob,es,ep,e,c⟩
 exact this
end
def lz(K:W.Frag)(H:Hp):List (Str×D)->List (Key×V)->Prop
 | [],vs=>vs=[]
 | p::r,vs=>∃v t,vs=(.inr p.1,v)::t/\Rep K H p.2 v/\lz K H r t
section
variable{K:W.Frag}{H H':Hp}
theorem lz.kp(s:Kp H H'):∀{ds:List (Str×D)} {vs:List (Key×V)},lz K H ds vs->lz K H' ds vs
 | [],_,h=>h
 | p::r,_,h=>by
  obtain⟨v,t,e,q,w⟩:=h
  exact⟨v,t,e,q.kp s,lz.kp s w⟩
theorem lz.mono(s:iX H H'){ds:List (Str×D)}{vs:List (Key×V)}(h:lz K H ds vs):lz K H' ds vs:=h.kp (Kp.of s)
theorem lz.snoc:∀{ds:List (Str×D)} {vs:List (Key×V)} {x:Str} {d:D} {v:V},lz K H ds vs->Rep K H d v->lz K H (ds++[(x,d)]) (vs++[(.inr x,v)])
 | [],_,x,d,v,h,r=>by
  cases (show _=[] from h)
  exact⟨v,[],rfl,r,rfl⟩
 | p::ds,_,x,d,v,h,r=>by
  obtain⟨u,t,e,q,w⟩:=h
  subst e
  exact⟨u,t++[(.inr x,v)],rfl,q,lz.snoc w r⟩
theorem lz.len:∀{ds:List (Str×D)} {vs:List (Key×V)},lz K H ds vs->ds.length=vs.length
 | [],_,h=>by cases (show _=[] from h);rfl
 | p::r,_,h=>by
  obtain⟨v,t,e,q,w⟩:=h
  subst e
  simp[lz.len w]
theorem lz.at:∀{ds:List (Str×D)} {vs:List (Key×V)} {x:Str},lz K H ds vs->match zY ds x with
  | some d=>∃v,kQ vs (Sum.inr x:Key)=some v/\Rep K H d v
  | none=>kQ vs (Sum.inr x:Key)=none
 | [],_,x,h=>by cases (show _=[] from h);rfl
 | p::r,_,x,h=>by
  obtain⟨v,t,e,q,w⟩:=h
  subst e
  have ih:=lz.at (x:=x) w
  unfold zY
  by_cases hx:p.1=x
  ·rw[if_pos hx]
   exact⟨v,mL (by rw[hx]),q⟩
  ·rw[if_neg hx]
   have n:kQ (((Sum.inr p.1:Key),v)::t) (Sum.inr x)=kQ t (Sum.inr x):=mX fun z=>hx (Sum.inr.inj z)
   rw[n]
   exact ih
end
def CT(P:Program)(w:World)(K:W.Frag)(g:R->List (Str×D)->OD):TE:=fun σ H Q=>∃ ρ τ a ds xs d,jC K H ρ (some (.ref a)::τ) σ/\H a=some (pI P w a xs)/\lz K H ds xs/\g ρ ds=some d/\∀v H',iX H H'->Rep K H' d v->Q v H'
def KE(X:Cx)(e:Expr)(g:R->List (Str×D)->OD):Prop:=PE X e (CT X.prog X.w X.K g)
section
variable{X:Cx}{st:Stmt}{sts:List Stmt}{u:R->Option Out}{w:R->List (Str×D)->Option Out}{pos:Pos}{e:Expr}{es:List Expr}{f:R->OD}{F:R->Option LD}
end
def Kd(H H':Hp):Prop:=∀b u,H b=some u->(∀kvs,u≠.dK kvs)->H' b=some u
mutual
theorem Rep.kd{K:W.Frag}{H H':Hp}(s:Kd H H'):∀{d:D} {v:V},lp d=true->Rep K H d v->Rep K H' d v
 | .non,_,hn,h=>h
 | .bl _,_,hn,h=>h
 | .int _,_,hn,h=>h
 | .str _,_,hn,h=>h
 | .tup ds,_,hn,h=>by
  obtain⟨a,xs,e,q,r⟩:=h
  refine⟨a,xs,e,?_,iU.kd s hn r⟩
  rcases q with (h | ⟨o,h⟩) | h
  ·exact .inl (.inl (s _ _ h fun φ z=>nomatch z))
  ·exact .inl (.inr ⟨o,s _ _ h fun φ z=>nomatch z⟩)
  ·exact .inr h
 | .lst ds,_,hn,h=>by
  obtain⟨a,xs,e,q,r⟩:=h
  exact⟨a,xs,e,s _ _ q (fun φ z=>by cases z),iU.kd s hn r⟩
 | .fro ds,_,hn,h=>by
  obtain⟨a,xs,e,q,r⟩:=h
  refine⟨a,xs,e,?_,iU.kd s hn r⟩
  rcases q with (h | ⟨o,h⟩) | h
  ·exact .inl (.inl (s _ _ h fun φ z=>nomatch z))
  ·exact .inl (.inr ⟨o,s _ _ h fun φ z=>nomatch z⟩)
  ·exact .inr h
 | .obj k a ks ds,_,hn,h=>by cases hn
 | .dct ks ds,_,hn,h=>by cases hn
 | .dcp ks ds,_,hn,h=>by cases hn
 | .cl t a ds,_,hn,h=>by cases hn
theorem iU.kd{K:W.Frag}{H H':Hp}(s:Kd H H'):∀{ds:LD} {vs:List V},jF ds=true->iU K H ds vs->iU K H' ds vs
 | [],_,_,h=>h
 | d::ds,_,hn,h=>by
  have hn':(lp d&&jF ds)=true:=hn
  rw[Bool.and_eq_true] at hn'
  obtain⟨v,r,e,q,t⟩:=h
  exact⟨v,r,e,Rep.kd s hn'.1 q,iU.kd s hn'.2 t⟩
end
section
variable{X:Cx}{sts:List Stmt}{w:R->List (Str×D)->Option Out}{pos:Pos}{f:R->OD}
end
end HW
namespace HW
open PySem
end HW
namespace HW
open PySem PySem.Spec PyProof.Rows L2
variable{X:Cx}
end HW
namespace HW
open PySem PySem.SetTable
theorem wj(xs:Array Nat)(j:Nat)(H:∀a b,a<b->b<xs.size->xs.getD a 0<xs.getD b 0):∀fuel lo hi,hi - lo<=fuel->lo<=hi->hi<=xs.size ->
  (∀i,i<lo->xs.getD i 0<j)->(∀i,hi<=i->i<xs.size->j<=xs.getD i 0) ->
  below.go xs j fuel lo hi<=xs.size/\(∀i,i<below.go xs j fuel lo hi->xs.getD i 0<j)/\(∀i,below.go xs j fuel lo hi<=i->i<xs.size->j<=xs.getD i 0):=by
 intro fuel
 induction fuel with
 | zero =>
  intro lo hi h1 h2 h3 h4 h5
  have:lo=hi:=by omega
  subst this
  exact⟨h3,h4,h5⟩
 | succ fuel ih =>
  intro lo hi h1 h2 h3 h4 h5
  unfold below.go
  by_cases hlt:lo<hi
  ·rw[if_pos hlt]
   have hm:(lo+hi) / 2<xs.size:=by omega
   have e:xs.getD ((lo+hi) / 2) j=xs.getD ((lo+hi) / 2) 0:=by simp[Array.getD,hm]
   show(if xs.getD ((lo+hi) / 2) j<j then _ else _:Nat)<=_/\_
   dsimp only
   rw[e]
   by_cases hc:xs.getD ((lo+hi) / 2) 0<j
   ·rw[if_pos hc]
    refine ih _ _ (by omega) (by omega) h3 (fun i hi'=>?_) h5
    by_cases he:i=(lo+hi) / 2
    ·subst he;exact hc
    ·exact Nat.lt_trans (H i _ (by omega) hm) hc
   ·rw[if_neg hc]
    refine ih _ _ (by omega) (by omega) (by omega) h4 (fun i hi' hs=>?_)
    by_cases he:i=(lo+hi) / 2
    ·subst he;omega
    ·have:=H _ i (by omega:(lo+hi) / 2<i) hs;omega
  ·rw[if_neg hlt]
   have:lo=hi:=by omega
   subst this
   exact⟨h3,h4,h5⟩
def Bw(xs:Array Nat):Prop:=∀a b,a<b->b<xs.size->xs.getD a 0<xs.getD b 0
theorem oI{xs:Array Nat}(H:Bw xs)(j:Nat):below xs j<=xs.size/\(∀i,i<below xs j->xs.getD i 0<j)/\(∀i,below xs j<=i->i<xs.size->j<=xs.getD i 0):=
 wj xs j H xs.size 0 xs.size (by omega) (by omega) (by omega) (fun i h=>by omega) (fun i h h'=>by omega)
theorem xV{xs:Array Nat}(H:Bw xs):below xs 0=0:=by
 obtain⟨a,b,c⟩:=oI H 0
 rcases Nat.eq_zero_or_pos (below xs 0) with h | h
 ·exact h
 ·have:=b 0 h;omega
theorem x3{xs:Array Nat}(H:Bw xs){i:Nat}(hi:i<xs.size):below xs (xs.getD i 0+1)=i+1:=by
 obtain⟨a,b,c⟩:=oI H (xs.getD i 0+1)
 generalize below xs (xs.getD i 0+1)=r at *
 rcases Nat.lt_or_ge i r with h | h
 ·rcases Nat.lt_or_ge (i+1) r with h' | h'
  ·have h1:=b (i+1) h'
   have h2:=H i (i+1) (by omega) (by omega)
   omega
  ·omega
 ·have:=c i h hi;omega
structure TI (t:SetTable) (n:Nat):Prop where
 mask:t.mask=7
 dum:t.dummies=#[]
 plain:t.plain=true
 ris:Bw t.place
 size:t.place.size=n
def way(i pt:Nat):Nat->Nat×Nat
 | 0=>(i,pt)
 | k+1=>way ((i*5+1+pt / 32)%8) (pt / 32) k
theorem TI.fits{t:SetTable}{n:Nat}(T:TI t n)(hn:n<=7):t.fits n=true:=by
 unfold SetTable.fits SetTable.fill
 rw[T.mask,T.dum,T.size]
 simp;omega
theorem TI.fresh(led:Bool):TI (.fresh 0 0 led) 0:=⟨rfl,rfl,rfl,fun a b h hb=>absurd hb (by simp[SetTable.fresh]),rfl⟩
theorem oH{α:Type}:∀(l:List α) (i:Nat) (x:α),l[i]?=some x->(x::l.eraseIdx i).Perm l
 | [],i,x,h=>by simp at h
 | a::l,0,x,h=>by simp at h;subst h;exact .refl _
 | a::l,i+1,x,h=>by
  simp only[List.getElem?_cons_succ] at h
  simp only[List.eraseIdx_cons_succ]
  exact(List.Perm.swap _ _ _).trans ((oH l i x h).cons a)
theorem uB{α:Type}(next:Nat->Nat):∀(fuel k:Nat) (left:List α) (out:Array α),left.length=fuel->(pickOrder.go next fuel k left out).toList.Perm (out.toList++left)
 | 0,k,left,out,h=>by
  have:left=[]:=List.eq_nil_of_length_eq_zero h
  subst this;rw[List.append_nil];exact .refl _
 | fuel+1,k,left,out,h=>by
  unfold pickOrder.go
  have hlt:next k%left.length<left.length:=Nat.mod_lt _ (by omega)
  rw[List.getElem?_eq_getElem hlt]
  dsimp only
  refine(uB next fuel (k+1) _ _ (by rw[List.length_eraseIdx_of_lt hlt];omega)).trans ?_
  rw[Array.toList_push,List.append_assoc]
  exact(oH left _ _ (List.getElem?_eq_getElem hlt)).append_left _
theorem p0{α:Type}(next:Nat->Nat)(xs:Array α):(pickOrder next xs).toList.Perm xs.toList:=by
 unfold pickOrder
 exact uB next xs.size 0 xs.toList #[] (by simp)
theorem vp{α:Type}(next:Nat->Nat)(xs:Array α):(pickOrder next xs).size=xs.size:=by
 rw[<- Array.length_toList,(p0 next xs).length_eq,Array.length_toList]
end HW
namespace HW
def intsOf:LD->Option (List Int)
 | []=>some []
 | .int i::r=>(intsOf r).map (i::·)
 | _::_=>none
end HW
namespace HW
open PySem
def Cp:Value->Int
 | .int n _=>n
 | _=>0
def t_(b:Bool)(h:Heap)(S:Addr)(ks:List Int):Prop:=
 ∃o es ep t,h.get? S=some o/\o.ExactSet/\o.data=.set es ep t/\(∀e∈es.toList,∃k tk,e=(hashInt k,Value.int k tk))/\TI t es.size/\t.led=b/\(es.toList.map fun e=>Cp e.2).Perm ks
theorem t_.at{b:Bool}{h h':Heap}{S:Addr}{ks:List Int}(x:t_ b h S ks)(e:∀o,h.get? S=some o->h'.get? S=some o):t_ b h' S ks:=let ⟨o,es,ep,t,ho,r⟩:=x;⟨o,es,ep,t,e _ ho,r⟩
section
variable{prog:Program}{w:World}{A:Around}{E:Value->Shared->Prop}{s:Shared}
end
end HW
namespace HW
open PySem PySem.Spec PyProof.Rows
def mI(h:Heap)(it S:Addr)(slot i n ep:Nat):Prop:=∃o,h.get? it=some o/\o.cls=.type "set_iterator" /\ o.data=.fields #[.int slot 0,.int i 0,.ref S,.int n 0,.int ep 0]
def nK(h:Heap)(S:Addr)(es:Array (Int×Value))(ep:Nat)(t:SetTable):Prop:=∃o,h.get? S=some o/\o.cls=.type "set" /\ o.data=.set es ep t
def slotAt(t:SetTable):Nat->Nat
 | 0=>0
 | i+1=>t.place.getD i 0+1
def qm(w:World):Bool:=w.params.followText "set-order"
structure zA (w:World) (S:Addr) (es:Array (Int×Value)) (ep:Nat) (t:SetTable) (ord:Array (Int×Value)):Prop where
 fits:t.fits es.size=true
 size:ord.size=es.size
 txt:qm w=true->ord=pickOrder (w.params.setOrder S ep) es
 plc:qm w=false->ord=es/\t.led=true/\(!t.plain&&decide (es.size > 1))=false/\∀i,i<=es.size->SetTable.below t.place (slotAt t i)=i
theorem mI.typeIs{s:Shared}{it S slot i n ep}(x:mI s.heap it S slot i n ep):s.TypeIs (.ref it) "set_iterator":=let ⟨o,ho,hc,_⟩:=x;⟨o,ho,hc⟩
theorem nK.typeIs{s:Shared}{S es ep t}(x:nK s.heap S es ep t):s.TypeIs (.ref S) "set":=let ⟨o,ho,hc,_⟩:=x;⟨o,ho,hc⟩
theorem nK.at{h h':Heap}{S es ep t}(x:nK h S es ep t)(e:∀o,h.get? S=some o->h'.get? S=some o):nK h' S es ep t:=let ⟨o,ho,r⟩:=x;⟨o,e _ ho,r⟩
theorem mI.at{h h':Heap}{it S slot i n ep}(x:mI h it S slot i n ep)(e:∀o,h.get? it=some o->h'.get? it=some o):mI h' it S slot i n ep:=let ⟨o,ho,r⟩:=x;⟨o,e _ ho,r⟩
theorem nK.lt{h:Heap}{S es ep t}(x:nK h S es ep t):S<h.objs.size:=let ⟨_,ho,_⟩:=x;Heap.lt_size ho
section
variable{prog:Program}{w:World}{A:Around}{E:Value->Shared->Prop}{s:Shared}{S:Addr}{es ord:Array (Int×Value)}{ep:Nat}{t:SetTable}
def nextOf(ord:Array (Int×Value))(i nx:Nat):Option (Value×Nat):=(ord[i]?).map fun e=>(e.2,nx)
end
set_option maxHeartbeats 3200000
section
variable{prog:Program}{w:World}{A:Around}{R:Result->Shared->Prop}{I:Addr}{fp wr:List Addr}{G:Array GenState->Array GenState->Prop}{n:Nat}{P:Nat->Value->Prop}{St:Nat->Shared->Prop}
end
section
variable{prog:Program}{w:World}{A:Around}{E:Value->Shared->Prop}{s:Shared}
abbrev xo(w:World):Obj:={cls:=.type "set",dict:=none,data:=.set #[] 0 (.fresh 0 0 (!qm w))}
theorem t_.new{h:Heap}{w:World}:t_ (!qm w) (h.push (xo w)) h.objs.size []:=
 ⟨xo w,#[],0,_,Heap.get?_push_size _ rfl,⟨rfl,rfl,rfl⟩,rfl,fun e he=>by simp at he,TI.fresh _,rfl,.refl _⟩
theorem t_.ord{h:Heap}{S:Addr}{ks:List Int}(x:t_ (!qm w) h S ks)(hn:ks.length<=4) :
  ∃es ep t ord,nK h S es ep t/\zA w S es ep t ord/\(ord.toList.map fun e=>Cp e.2).Perm ks/\∀e∈ord.toList,∃k tk,e.2=Value.int k tk:=by
 obtain⟨o,es,ep,t,ho,hex,hd,hel,hT,hled,hp⟩:=x
 have hlen:es.size=ks.length:=by rw[<- hp.length_eq,List.length_map,Array.length_toList]
 have hf:t.fits es.size=true:=hT.fits (by omega)
 have hel':∀e∈es.toList,∃k tk,e.2=Value.int k tk:=fun e he=>let ⟨k,tk,q⟩:=hel e he;⟨k,tk,by rw[q]⟩
 cases hb:qm w with
 | true =>
  have pp:=p0 (w.params.setOrder S ep) es
  exact⟨es,ep,t,pickOrder (w.params.setOrder S ep) es,⟨o,ho,hex.1,hd⟩,⟨hf,vp _ _,fun _=>rfl,fun z=>by rw[hb] at z;cases z⟩,(pp.map _).trans hp,fun e he=>hel' e (pp.mem_iff.mp he)⟩
 | false =>
  refine⟨es,ep,t,es,⟨o,ho,hex.1,hd⟩,⟨hf,rfl,(fun z=>by rw[hb] at z;cases z),fun _=>⟨rfl,by rw[hled,hb];rfl,by rw[hT.plain];rfl,fun i hi=>?_⟩⟩,hp,hel'⟩
  cases i with
  | zero=>exact xV hT.ris
  | succ i=>exact x3 hT.ris (by rw[hT.size];exact hi)
end
end HW
set_option maxHeartbeats 1000000
namespace HW
open PySem PySem.Spec PyProof.Rows L2
section
variable{X:Cx}
theorem be{K:W.Frag}{H:Hp}:∀{ds:LD} {ns:List Int} {xs:List V} {its:List Value},intsOf ds=some ns->iU K H ds xs->i5 xs its->IntsAre its ns
 | [],ns,xs,its,e,r,v=>by
  cases e
  cases (show xs=[] from r)
  cases v
  exact .nil
 | .int i::ds,ns,xs,its,e,r,v=>by
  obtain⟨ms,e1,e2⟩:=jS (show(intsOf ds).map (i::·)=some ns from e)
  subst e2
  obtain⟨x,xr,rfl,r1,r2⟩:=r
  cases (show x=_ from r1)
  cases v with
  | cons v1 v2 =>
   obtain⟨t,rfl⟩:=v1
   exact .cons i t (be e1 r2 v2)
 | .non::_,_,_,_,e,_,_=>by cases e
 | .bl _::_,_,_,_,e,_,_=>by cases e
 | .str _::_,_,_,_,e,_,_=>by cases e
 | .tup _::_,_,_,_,e,_,_=>by cases e
 | .lst _::_,_,_,_,e,_,_=>by cases e
 | .fro _::_,_,_,_,e,_,_=>by cases e
theorem cu{K:W.Frag}{H:Hp}:∀{ns:List Int} {its:List Value},IntsAre its ns->i5 (ns.map V.int) its/\iU K H (ns.map D.int) (ns.map V.int)
 | _,_,.nil=>⟨.nil,rfl⟩
 | _,_,.cons n t r=>⟨.cons ⟨t,rfl⟩ (cu (K:=K) (H:=H) r).1,⟨_,_,rfl,rfl,(cu r).2⟩⟩
variable{sts:List Stmt}
end
section
variable{prog:Program}{w:World}{A:Around}{R':Result->Shared->Prop}{I:Addr}{fp wr:List Addr}{n:Nat}{P:Nat->Value->Prop}{St:Nat->Heap->Prop}
end
section
variable{prog:Program}{w:World}{A:Around}{E:Value->Shared->Prop}{s:Shared}
end
section
variable{X:Cx}
end
end HW
namespace HW
end HW
namespace HW
open PySem PySem.Spec PyProof.Rows L2
section
variable{prog:Program}{w:World}{A:Around}{E:Value->Shared->Prop}{s:Shared}
end
section
variable{X:Cx}
end
end HW
namespace HW
end HW
namespace HW
open PySem PySem.Spec PyProof.Rows L2
section
variable{X:Cx}
end
section
variable{X:Cx}
end
end HW
namespace HW
end HW
namespace HW
open PySem PySem.Spec PyProof.Rows L2
section
variable{X:Cx}
end
end HW
namespace HW
open PySem
def nT:LD->OD
 | [.lst es,.int k]=>(intsOf es).bind fun ns=>if k∈ns/\ns.length<=1000 then some (.int ((ns.idxOf k:Nat):Int)) else none
 | _=>none
end HW
namespace HW
open PySem PySem.Spec PyProof.Rows L2
section
variable{X:Cx}
theorem gQ:Cv X "list.index" nT:=by
 intro pins s σ H x vs v us Q I rx rv h
 obtain⟨dx,ds,d,r1,r2,e,q⟩:=h
 match dx,ds,e with
 | .lst es,[.int k],e =>
  obtain⟨a,xs,rfl,ha,rr⟩:=r1
  cases (show v=_ from rx)
  obtain⟨u,r',rfl,k1,r2⟩:=r2
  cases (show r'=[] from r2)
  cases (show u=_ from k1)
  obtain⟨u',rfl,t2,rfl⟩:=rv.one
  obtain⟨ns,e1,e2⟩:=iS (show(intsOf es).bind _=some d from e)
  split at e2
  case isFalse=>cases e2
  case isTrue hn =>
  cases e2
  obtain⟨_,its,n,rv2,hl,eo⟩:=I.lstM ha
  have hI:=be e1 rr rv2
  have hlen:its.length=ns.length:=IntsAre.length hI
  have hj:ns.idxOf k<ns.length:=List.idxOf_lt_length_iff.mpr hn.1
  refine call_meets PySem.F.slot_list_index ⟨_,eo,rfl⟩ PySem.F.entry_list_index (PySem.F.args_list_index_2 _ _)
   (PySem.SeqAt.list_indexAt a its.toArray n none _ (.int k t2) (isInt k) (ns.idxOf k) (by simpa [hlen] using hj) (by omega) ?_ ?_) ⟨eo,fun y hy=>(eq_isInt k t2 hI y (by simpa using hy)).at _ _,?_⟩
  ·show isInt k its[ns.idxOf k]=true
   rw[isInt_at k hI _ (by omega) hj]
   simpa using List.getElem_idxOf hj
  ·intro j hjs hlt
   show isInt k its[j]=false
   rw[isInt_at k hI j (by simpa using hjs) (by omega)]
   exact ne_of_lt_idxOf hlt _
  ·exact⟨.int ((ns.idxOf k:Nat):Int),H,I.tok _,⟨_,rfl⟩,q _ H (iX.refl H) rfl⟩
theorem v4{x:D}{ds:LD}{d:D}(h:nT (x::ds)=some d):∃es,x=.lst es:=by
 cases x with
 | lst z=>exact⟨z,rfl⟩
 | _=>cases h
theorem gU{a e:Expr}{es:List Expr}{f:R->OD}{F:R->Option LD}{ap cp:Pos}(ha:SE X a f)(hF:SA X (e::es) F)
  (hbase:attributeBase a "index" X.env (eval a X.env)=eval a X.env:=by rfl)
  (hfew:((backTo cp (starEach (e::es) X.env)).all (fun x=>!x.1)&&(backToKw cp (keywordEach [] X.env)).all (fun x=>x.1.isSome)&&decide ((e::es).length+([]:List Keyword).length+(if ([]:List Keyword).isEmpty then 0 else 1)<30))=true:=by rfl)
  (hline:(ap.endLine==cp.line)=true:=by rfl):SE X (.Call (.Attribute a "index" ap) (e::es) [] cp) (iR nT (e8 f F)):=by
 have hst:=hF.2.2
 rw[List.all_cons,Bool.and_eq_true] at hst
 refine(gY (T:="list") PySem.F.plainAttrs_list PySem.F.slot_list_index PySem.F.type_list_index gQ ha hF.1 hbase hfew hline (aw es X.env hst.1) (aZ (pos:=cp) (env:=X.env) hst.2)).imp fun σ H Q ⟨ρ,d,er,e,q⟩=>?_
 obtain⟨dd,e1,e⟩:=iS e
 obtain⟨x,e2,e1⟩:=iS e1
 obtain⟨ds,e3,e1⟩:=jS e1
 subst e1
 obtain⟨es,rfl⟩:=v4 e
 exact⟨ρ,_,er,e2,fun v H1 s1 r1=>⟨by obtain⟨a,xs,rfl,ha,rr⟩:=r1;exact .inl ⟨rfl,xs,.inl (.inl ha)⟩,ρ,ds,er.mono s1,e3,fun vs H2 s2 r2=>⟨.lst es,ds,d,r1.mono s2,r2,e,fun u H3 s3 r3=>q u H3 (s1.trans (s2.trans s3)) r3⟩⟩⟩
end
abbrev rP(K:W.Frag)(n:Str)(st:Stmt)(f:Addr):Prop:=∃(oc:Value) (od an:Option Addr) (sl:Array (Option Value)) (kV dc pm cd ct:Value),W.nsIn K mainGlobals n=some (some (.ref f)) /\
 K.lookup f=some ⟨oc,od,.func (W.fnOf n n (j8 st) (jw st) (iV st) .none kV dc pm an cd ct),sl⟩/\W.codeIn K cd n=true/\W.keepIn K (.ref f)=true
theorem tJ{K:W.Frag}{n:Str}{st:Stmt}{f:Addr}(h:rP K n st f):∃fd,m_ K n n st f fd/\W.nsIn K mainGlobals n=some (some (.ref f)):=by
 obtain⟨oc,od,an,sl,kV,dc,pm,cd,ct,a,l,c,k⟩:=h
 exact⟨_,fO l c k,a⟩
theorem fn4_mk{K:W.Frag}{n:Str}{st:Stmt}{f:Addr}{oc:Value}{od an:Option Addr}{sl:Array (Option Value)}{kV dc pm cd ct:Value}(a:W.nsIn K mainGlobals n=some (some (.ref f)))
  (l:K.lookup f=some ⟨oc,od,.func (W.fnOf n n (j8 st) (jw st) (iV st) .none kV dc pm an cd ct),sl⟩) (c:W.codeIn K cd n=true) (k:W.keepIn K (.ref f)=true):rP K n st f:=⟨oc,od,an,sl,kV,dc,pm,cd,ct,a,l,c,k⟩
theorem kY.m{P:Program}{w:World}{K:W.Frag}{mg:Str->Option Value}{base:Heap}{j k:Nat}{x:Str}{ps:List Str}{F:LD->OD}(h:kY P w K mg base j x ps F)(hk:j<=k:=by decide):kY P w K mg base k x ps F:=h.mono hk
section
variable{X:Cx}{pos p:Pos}{e:Expr}{es:List Expr}{k i:Nat}{f c':Addr}{G:LD->OD}{F:R->Option LD}{name qual:Str}{params:Arguments}{body:Expr}{scope:Scope}{cl:List (Str×Addr)}{pm ctv:Value}{ps:List Str}
theorem x8{M:Model}(h:Heap)(x:h.get? f=some (W.kla_obj name qual params body scope cl pm c' ctv)):∃k,(k=Keeper.frame\/k=Keeper.machine\/k=Keeper.boundFrame)/\W.Looks M h (keeperOf (.ref f)) k:=
 ⟨.frame,.inl rfl,(W.Looks.ld (part:=none) x).andThen .now⟩
theorem fL{x:Str}{sp:Sp}{t:TA}(hF:jl X.prog X.w X.K X.mg X.base kR k f (W.kla_fn name qual params body scope cl pm (.ref c') ctv) ps sp)(bd:Binds X.K (W.kla_fn name qual params body scope cl pm (.ref c') ctv) ps [])(hr:jo k X.A)
  (ha:PA X (e::es) t) (he:starEach (e::es) X.env=(false,eval e X.env)::starEach es X.env) (hpl:(backTo pos (starEach es X.env)).any (·.1)=false) (hN:X.N[i]?=some x:=by rfl) (hv:rN X.env.scope x:=by first | exact Or.inl rfl | exact Or.inr (Or.inl rfl) | exact Or.inr (Or.inr rfl))
  (hd:(x==("__debug__" : Str))=false:=by decide) (hcd:(x==("__classdict__" : Str))=false:=by decide) :
  PE X (.Call (.Name x p) (e::es) [] pos) fun σ H Q=>σ[i]?=some (some (.ref f))/\t σ H fun vs H1=>H1 f=some (lV (W.kla_obj name qual params body scope cl pm c' ctv))/\sp vs H1 Q E0:=by
 intro pins s σ H Q I ⟨x1,h⟩
 refine wpAny_Call_Name_kw (jy (eI (pos:=p) hN hv hd hcd pins s σ H (fun v H1=>v=.ref f/\H1=H) I ⟨.ref f,x1,rfl,rfl⟩) fun u s1 ⟨v,H1,I1,rv,ev,eH⟩=>?_)
 subst ev eH
 cases (show u=_ from rv)
 rw[he]
 refine W.callWith_of (P:=fun h=>h.get? f=some (W.kla_obj name qual params body scope cl pm c' ctv)) (by show((false||(backTo pos (starEach es X.env)).any (·.1))||false)=false;rw[hpl];rfl) x8 (Calls.evalArgs_plain ?_)
 have hA:=ha pos pins s1 σ H1 (fun vs H2=>H2 f=some (lV (W.kla_obj name qual params body scope cl pm c' ctv))/\sp vs H2 Q E0) I1 h
 rw[he] at hA
 refine jy hA fun us s2 ⟨vs,H2,I2,r,hf,q⟩=>⟨(I2.hok f _ hf).1,?_⟩
 exact we hF hr bd .nil sF I2 r (by rw[List.append_nil];exact q)
end
section
variable{X:Cx}{pins:List (Addr×Obj)}{σ:L2.St}{H:Hp}{s:Shared}{pos:Pos}
theorem hZ{t:jZ}{ts:List jZ}{params:Arguments}{body:Expr}{scope:Scope}{clos:List (Str×Addr)}(TB:kc X.mg ts X.base)(ht:t∈ts)(hcode:X.env.code=.ref t.c)(hq:X.env.qual ++ "<lambda>" = t.q)(hcl:closureFor scope X.env=pure clos)(hdef:defaultsOf params X.env=([],[]):=by rfl) :
  PE X (.Lambda params body scope pos) fun σ H Q=>H t.P=some (.tbl t.q false)/\∀f c' ctv pm H',iX H H'->H f=none->H' f=some (lV (W.kla_obj "<lambda>" t.q params body scope clos pm c' ctv))->H' c'=some (.tbl t.q true)->Q (.ref f) H':=by
 intro pins s σ H Q I ⟨hP,q⟩
 refine W.kla_eval hdef ?_
 rw[hq]
 refine jy (xy I TB ht hP hcode hcl) fun v s' ⟨f,c',ctv,pm,H',ev,I',sm,hn,h1,h2⟩=>?_
 exact⟨.ref f,H',I',ev,q f c' ctv pm H' sm hn h1 h2⟩
def lR(cl:List (Str×Addr))(h:Heap)(H:Hp):Hp:=fun b=>if kh cl b then (h.get? b).map lV else H b
theorem mD{cl:List (Str×Addr)}{h:Heap}{b:Addr}{o:Obj}(hb:kh cl b=true)(e:h.get? b=some o):lR cl h H b=some (lV o):=by
 show(if kh cl b then (h.get? b).map lV else H b)=_
 rw[if_pos hb,e];rfl
theorem kz{cl:List (Str×Addr)}{h:Heap}{b:Addr}(hb:kh cl b=false):lR cl h H b=H b:=by
 show(if kh cl b then (h.get? b).map lV else H b)=_
 rw[if_neg (by rw[hb];decide)]
theorem lA{cl:List (Str×Addr)}{b:Addr}(hb:kh cl b=false):lE cl H b=H b:=by
 show(if kh cl b then none else H b)=_
 rw[if_neg (by rw[hb];decide)]
theorem uY{cl:List (Str×Addr)}{b:Addr}(hb:kh cl b=true):lE cl H b=none:=by
 show(if kh cl b then none else H b)=_
 rw[if_pos hb]
theorem yB{k:Nat}{f:Addr}{fd:FuncData}{ps:List Str}{sp:Sp}{cl:List (Str×Addr)}{us:List Value}{vs:List V}{Q:VK}(F:jl X.prog X.w X.K X.mg X.base kR k f fd ps sp)(hr:jo k X.A)(hb:Binds X.K fd ps [])(hfn:∀x,X.fn x=true)(hcl:∀b,kh cl b=true->∃x,X.env.cells.lookup x=some b)
  (I:L2.Inv X pins σ H s) (r:i5 vs us) (h:sp vs (lR cl s.heap H) (fun v H'=>Q v (lE cl H')) E0):wpAny (model X.prog X.w) X.A (call (.ref f) us) (EP X pins σ Q) X.xe s:=by
 have cellO:∀{b:Addr},kh cl b=true->∃o v,s.heap.get? b=some o/\o.data=.cell v/\H b=none/\X.s₀.heap.objs.size<=b:=fun {b} hb=>by
  obtain⟨x,hx⟩:=hcl b hb
  obtain⟨v,o,e,d⟩:=I.cell x b hx
  exact⟨o,v,e,d,I.freeC x b hx,I.ok.cab x b (hfn x) hx⟩
 have nC:∀{b:Addr} {u:HO},H b=some u->kh cl b=false:=fun {b u} e=>by
  cases q:kh cl b with
  | false=>rfl
  | true=>obtain⟨_,_,_,_,z,_⟩:=cellO q;rw[e] at z;cases z
 have tk:∀{b:Addr} {u:HO},H b=some u->lR cl s.heap H b=some u:=fun e=>by rw[kz (nC e)];exact e
 have hok:mh X.prog X.w (lR cl s.heap H) s.heap:=fun b u e=>by
  cases q:kh cl b with
  | true =>
   obtain⟨o,_,g,_⟩:=cellO q
   rw[mD q g] at e
   cases e
   exact⟨g,trivial,⟨_,g⟩,fun _ _ _ _=>trivial⟩
  | false =>
   rw[kz q] at e
   exact(I.hok b u e).stay (fun _ _ _ g=>g) (fun c g=>tk g) (fun c xs g=>tk g) fun c a d g=>tk g
 have low:∀{b:Addr},b<X.s₀.heap.objs.size->kh cl b=false:=fun {b} hb=>by
  cases q:kh cl b with
  | false=>rfl
  | true=>obtain⟨_,_,_,_,_,z⟩:=cellO q;exact absurd (Nat.lt_of_lt_of_le hb z) (Nat.lt_irrefl _)
 have e0:nH X.prog X.w X.K X.mg X.base X.A X.stack s (lR cl s.heap H):=by
  have z:=I.env0
  refine⟨z.frames,z.mod,fun b o e=>⟨(z.bs b o e).1,?_⟩,z.bsz,z.funs,fun b hb=>?_,hok,z.bare⟩
  ·rw[kz (low (Nat.lt_of_lt_of_le (Heap.lt_size e) I.ok.bsz))];exact(z.bs b o e).2
  ·have n:=z.frf b hb
   cases q:kh cl b with
   | false=>rw[kz q];exact n
   | true =>
    obtain⟨x,hx⟩:=hcl b q
    rcases List.mem_cons.mp (I.stkSub b hb) with m | m
    ·exact absurd m (I.cne x b hx)
    ·obtain⟨_,o,ho,_⟩:=I.ok.funs.mem m
     rw[low (Heap.lt_size ho)] at q;cases q
 have hl:us.length=ps.length:=by rw[<- r.length];exact F.len _ _ _ _ h
 refine wpAny_call (codeAny_mono (F.run X.A X.stack s (lR cl s.heap H) ⟨us,[]⟩ us vs _ E0 hr e0 (by have:=hb s us I.kIn (by simpa using hl);simpa using this) r h) fun rr s' hq=>?_)
 cases rr with
 | error e=>exact sF pins σ H s e s' I hq
 | ok fl =>
  cases fl with
  | next=>exact False.elim hq
  | brk=>exact False.elim hq
  | cont=>exact False.elim hq
  | ret u =>
   obtain⟨v,H',os,bare,un,hok',rv,q⟩:=hq
   obtain⟨hh,g,d,tt,os'⟩:=s'
   obtain rfl:os'=s.os:=os
   have ck:∀{b:Addr},kh cl b=true->∃o,s.heap.get? b=some o/\H' b=some (lV o)/\hh.get? b=some o:=fun {b} hb=>by
    obtain⟨o,_,e,_⟩:=cellO hb
    have z:=un.frzs b o _ (fun y w=>by cases w) (mD hb e)
    exact⟨o,e,z,(hok' b _ z).1⟩
   have bk:∀{b:Addr} {u:HO},H' b=some u->(∀o,u≠lV o)->lE cl H' b=some u:=fun {b u} e n=>by
    cases qq:kh cl b with
    | false=>rw[lA qq];exact e
    | true=>obtain⟨o,_,z,_⟩:=ck qq;rw[e] at z;cases z;exact absurd rfl (n o)
   refine⟨v,lE cl H',I.call (h':=hh) (g':=g) (d':=d) (t':=tt) (ch:=[]) ⟨fun b o e n hf hx=>?_,fun b o e n hf hx=>?_,fun b o e n hx=>?_,fun b o e hx=>un.there b o e hx,fun b xs e=>bk (un.tups b xs (tk e)) (fun o z=>by cases z),fun b o u ny e=>?_,fun b a d' e=>bk (un.tbls b a d' (tk e)) (fun o z=>by cases z)⟩ (fun b u e=>?_) bare (fun b z=>absurd z (by simp)),rv,q⟩
   ·cases qq:kh cl b with
    | true=>obtain⟨o',e1,_,e2⟩:=ck qq;rw[e] at e1;cases e1;exact e2
    | false=>exact un.keep b o e (by rw[kz qq];exact n) hf hx
   ·cases qq:kh cl b with
    | true=>obtain⟨o',e1,_,e2⟩:=ck qq;rw[e] at e1;cases e1;exact⟨o.slots,e2⟩
    | false=>exact un.slot b o e (by rw[kz qq];exact n) hf hx
   ·cases qq:kh cl b with
    | true=>exact uY qq
    | false=>rw[lA qq];exact un.free b o e (by rw[kz qq];exact n) hx
   ·rw[lA (nC e)];exact un.frzs b o u ny (tk e)
   ·cases qq:kh cl b with
    | true=>rw[uY qq] at e;cases e
    | false =>
     rw[lA qq] at e
     exact(hok' b u e).stay (fun _ _ _ g=>g) (fun c g=>bk g fun o z=>by cases z) (fun c xs g=>bk g fun o z=>by cases z) fun c a d g=>bk g fun o z=>by cases z
end
theorem wI {l:W.OpenLaw} {n k:Nat} {q:Program} {loose:List Str} {XP:(Str->Option Value)->Heap->Prop} {YP:World->Heap->Prop} {d:DefRec} {K:Params->W.Frag} {CX:World->sU} {sp:World->List jZ->Sp} {x:Str}
    (hn:l.most=some n) (hn2:n<=sizeLine) (hdf:d.params.defaults=[]) (hr:jo k callerA)
    (hY:∀(w:World) (h:Heap),YP w h->(K w.params).In h)
    (F:∀(w:World) (mg:Str->Option Value) (fa:Addr) (h:Heap),(K w.params).In h->h.Ns mainGlobals mg->mg d.name=some (.ref fa) ->
      ∃(ts:List jZ) (fd:FuncData),(∀t∈ts,(K w.params).lookup t.P=none/\∃y d',(recsOf q).find? (fun e=>e.name==y)=some d'/\W.tabIn (K w.params) y=some (t.c,t.P))/\(∀(s:Shared) (u:Value),BindsTo s fd ⟨[u],[]⟩ [(x,u)]) /\
        ∀base:Heap,(K w.params).In base->base.Ns mainGlobals mg->kc mg ts base->jl l.prog w (K w.params) mg base (CX w) k fa fd [x] (sp w ts))
    (hsp:∀(w:World) (ts:List jZ) (H:Hp) (a:Addr) (ns:List Int),ns.length<=n->u7 ts a H->(∀t∈ts,t.P≠a)->k4 (K w.params) H a (ns.map V.int)->sp w ts [.ref a] H (fun v _=>v=.bl true) fun _ _ _=>False)
    (hCX:∀(w:World) (H:Hp) (s:Shared) (e:Value) (s':Shared),CX w [] H s (fun _ _ _=>False) e s'->False) :
    W.WalkO q loose XP YP l.row.toRowW d [] (fun f vs=>PySem.call f vs):=by
  refine Att.attach_call hn hdf fun w s₀ s₁ mg mb fa o pm cd doc a vs ns G Y ho hd hcd hmg hobj hints hlen hg=>?_
  have KX:=hY w _ Y
  obtain⟨ts,fd,hts,hb,hF⟩:=F w mg fa _ KX G.T.g hmg
  refine vi KX G.T.g G.T.b G.T.builtins G.T.nolimit hg hobj hints (Nat.le_trans hlen hn2) hr (fun t ht=>?_) (fun t ht=>(hts t ht).1) ?_ hF hb (fun H hO hP hS=>hsp w ts H a ns hlen hO hP hS) fun H e s'=>hCX w H s₁ e s'
  · obtain⟨_,y,d',h1,h2⟩:=hts t ht
    exact W.tab_of G.T KX h1 h2
  · obtain⟨bm,ob,b1,b2,b3,b4,b5,b6⟩:=G.T.bmain
    refine⟨bm,ob,b1,b2,fun z=>?_,b3,b4,b5,b6⟩
    obtain⟨o',es,ep,e,hd',_⟩:=G.T.g
    rw[z,e] at b3;cases b3;rw[hd'] at b6;cases b6
section
variable{X:Cx}{pins:List (Addr×Obj)}{σ:L2.St}{H Hp':Hp}{s:Shared}{pos:Pos}
structure uT (X:Cx) (cl:List (Str×Addr)) (σ:L2.St) (H H':Hp):Prop where
 out:∀b,kh cl b=false->H' b=H b
 cel:∀b,kh cl b=true->H b=none/\∃o v,H' b=some (lV o)/\o.data=.cell v
 val:∀(i:Nat) (x:Str) (c:Addr) (v:V),X.N[i]?=some x->σ[i]?=some (some v)->cl.lookup x=some c->∃o u,H' c=some (lV o)/\o.data=.cell (some u)/\RelV v u
structure vj (X:Cx) (cl:List (Str×Addr)):Prop where
 fn:∀x,X.fn x=true
 ndc:(cl.map (·.1)).Nodup
 of:∀x c,cl.lookup x=some c->X.env.cells.lookup x=some c/\X.env.scope.names.lookup x=some .cell
theorem vj.lk{cl:List (Str×Addr)}(o:vj X cl):∀b,kh cl b=true->∃x,X.env.cells.lookup x=some b:=fun b hb=>by
 obtain⟨p,hp,e⟩:=List.any_eq_true.mp hb
 exact⟨p.1,(o.of p.1 b (lh o.ndc (by rw[<- eq_of_beq e];exact hp))).1⟩
theorem xp{cl:List (Str×Addr)}(o:vj X cl)(I:L2.Inv X pins σ H s):uT X cl σ H (lR cl s.heap H):=by
 refine⟨fun b hb=>kz hb,fun b hb=>?_,fun i x c v h1 h2 h3=>?_⟩
 ·obtain⟨x,hx⟩:=o.lk b hb
  obtain⟨v,ob,e,d⟩:=I.cell x b hx
  exact⟨I.freeC x b hx,ob,v,mD hb e,d⟩
 ·obtain⟨hx,hk⟩:=o.of x c h3
  obtain⟨m,_,hl⟩:=I.loc
  obtain⟨u,rv,lk⟩:=hl i x v h1 h2 (.inr (.inl hk))
  rcases lk with ⟨z,_⟩ | ⟨_,c2,e2,ob,g,d⟩
  ·exact absurd (show some NameKind.cell=some NameKind.local from hk.symm.trans z) (by simp)
  ·rw[hx] at e2
   cases e2
   exact⟨ob,u,mD (tU h3) g,d,rv⟩
theorem fW{x:Str}{e:Expr}{es:List Expr}{k:Nat}{f:Addr}{fd:FuncData}{ps:List Str}{sp:Sp}{t:TA}{p:Pos}{cl:List (Str×Addr)}(F:jl X.prog X.w X.K X.mg X.base kR k f fd ps sp)(hr:jo k X.A)(hg:Gl X x)(hm:X.mg x=some (.ref f))(hk:W.keepIn X.K (.ref f)=true)(hb:Binds X.K fd ps [])(o:vj X cl)
  (ha:PA X (e::es) t) (hdb:(x==("__debug__" : Str))=false:=by decide) (he:starEach (e::es) X.env=(false,eval e X.env)::starEach es X.env:=by rfl) (hpl:(backTo pos (starEach es X.env)).any (·.1)=false:=by rfl) :
  PE X (.Call (.Name x p) (e::es) [] pos) fun σ H Q=>t σ H fun vs H1=>∀H2,uT X cl σ H1 H2->sp vs H2 (fun v H'=>Q v (lE cl H')) E0:=by
 intro pins s σ H Q I h
 refine wpAny_Call_Name_kw (dq I hg hm ?_ hdb)
 refine W.callWith_K (h₀:=X.base) I.ok.mod.kin hk (jy (ha pos pins s σ H _ I h) fun us s1 ⟨vs,H1,I1,r,q⟩=>⟨I1.kIn,?_⟩) he hpl
 exact yB F hr hb o.fn o.lk I1 r (q _ (xp o I1))
end
end HW
namespace HW
open PySem
mutual
def CY:D->Bool
 | .tup xs=>nofs xs
 | .lst xs=>nofs xs
 | .fro _=>false
 | .obj ..=>false
 | .dct ..=>false
 | .dcp ..=>false
 | .cl ..=>false
 | _=>true
def nofs:LD->Bool
 | []=>true
 | x::xs=>CY x&&nofs xs
end
def vO:D->Bool
 | .dct _ ds=>jF ds
 | .dcp _ ds=>jF ds
 | d=>lp d
abbrev sd:=lL->Option (LD->OD)
def o_(L:sd)(i:Nat)(F:R->Option LD):R->OD:=fun ρ=>(iP i ρ).bind fun c=>(F ρ).bind fun as=>match c with
 | .cl t _ ds=>(L t).bind fun G=>if jF as=true/\jF ds=true/\as.length=t.ps.length then (G (as++ds)).bind fun d=>if lp d then some d else none else none
 | _=>none
def vD(n:Nat)(g:R->OD):LD->OD:=fun xs=>if xs.length=n then g (xs.map some) else none
def oT:List Nat->R->Option LD
 | [],_=>some []
 | j::js,ρ=>(iP j ρ).bind fun d=>(oT js ρ).map (d::·)
def mZ(G:LD->OD)(t:lL)(F C:R->Option LD):R->OD:=fun ρ=>(F ρ).bind fun as=>(C ρ).bind fun caps=>open Classical in
 if h:jF caps=true/\∃d,vO d=true/\∀a,G (as++[.cl t a caps])=some d then some h.2.choose else none
theorem wb{G:LD->OD}{t:lL}{F C:R->Option LD}{ρ:R}{as caps:LD}{d:D}(h1:F ρ=some as)(h2:C ρ=some caps)(h3:jF caps=true)(h4:vO d=true)(h5:∀a,G (as++[.cl t a caps])=some d):mZ G t F C ρ=some d:=by
 unfold mZ
 rw[h1,Option.bind_some,h2,Option.bind_some,dif_pos ⟨h3,d,h4,h5⟩]
 have z:=(show ∃d,vO d=true/\∀a,G (as++[.cl t a caps])=some d from⟨d,h4,h5⟩).choose_spec.2 0
 rw[h5 0] at z
 exact congrArg some (Option.some.inj z).symm
theorem xj{G:LD->OD}{t:lL}{F C:R->Option LD}{ρ:R}{d:D}(h:mZ G t F C ρ=some d):∃as caps,F ρ=some as/\C ρ=some caps/\jF caps=true/\vO d=true/\∀a,G (as++[.cl t a caps])=some d:=by
 unfold mZ at h
 cases e:F ρ with
 | none=>rw[e] at h;cases h
 | some as =>
  rw[e,Option.bind_some] at h
  cases e2:C ρ with
  | none=>rw[e2] at h;cases h
  | some caps =>
   rw[e2,Option.bind_some] at h
   split at h
   ·rename_i q
    cases h
    exact⟨as,caps,rfl,rfl,q.1,q.2.choose_spec⟩
   ·cases h
def sB(i:Nat):Stmt->Stmt
 | .For _ _ b _ _=>b.getD i (.Pass ⟨0,0,0,0⟩)
 | .If _ b _ _=>b.getD i (.Pass ⟨0,0,0,0⟩)
 | .FunctionDef _ _ b ..=>b.getD i (.Pass ⟨0,0,0,0⟩)
 | s=>s
def sV:Stmt->Expr
 | .Assign _ v ..=>v
 | .Return (some v) _=>v
 | .Expr v _=>v
 | _=>.Name "" ⟨0,0,0,0⟩
def eA(i:Nat):Expr->Expr
 | .Call _ a _ _=>a.getD i (.Name "" ⟨0,0,0,0⟩)
 | e=>e
def AV(q:Str)(N ps:List Str):Expr->lL
 | .Lambda a b c _=>⟨q,a,b,c,N,ps⟩
 | _=>default
end HW
namespace HW
open PySem PySem.Spec PyProof.Rows L2
section
variable{K:W.Frag}{H H':Hp}
theorem kD.clo{a:Addr}{xs:List V}(s:∀b u,H b=some u->(∀o,u≠lV o)->H' b=some u)(h:kD K H a xs):kD K H' a xs:=by
 rcases h with (h | ⟨o,h⟩) | h
 ·exact .inl (.inl (s _ _ h fun o z=>by cases z))
 ·exact .inl (.inr ⟨o,s _ _ h fun o z=>by cases z⟩)
 ·exact .inr h
theorem k4.clo{a:Addr}{xs:List V}(s:∀b u,H b=some u->(∀o,u≠lV o)->H' b=some u)(h:k4 K H a xs):k4 K H' a xs:=by
 rcases h with (h | ⟨o,h⟩) | h
 ·exact .inl (.inl (s _ _ h fun o z=>by cases z))
 ·exact .inl (.inr ⟨o,s _ _ h fun o z=>by cases z⟩)
 ·exact .inr h
mutual
theorem Rep.clo(s:∀b u,H b=some u->(∀o,u≠lV o)->H' b=some u):∀{d:D} {v:V},lp d=true->Rep K H d v->Rep K H' d v
 | .non,_,_,h=>h
 | .bl _,_,_,h=>h
 | .int _,_,_,h=>h
 | .str _,_,_,h=>h
 | .tup ds,_,hn,h=>by
  obtain⟨a,xs,e,q,r⟩:=h
  exact⟨a,xs,e,kD.clo s q,iU.clo s hn r⟩
 | .lst ds,_,hn,h=>by
  obtain⟨a,xs,e,q,r⟩:=h
  exact⟨a,xs,e,s _ _ q (fun o z=>by cases z),iU.clo s hn r⟩
 | .fro ds,_,hn,h=>by
  obtain⟨a,xs,e,q,r⟩:=h
  exact⟨a,xs,e,k4.clo s q,iU.clo s hn r⟩
 | .obj ..,_,hn,_=>by cases hn
 | .dct ..,_,hn,_=>by cases hn
 | .dcp ..,_,hn,_=>by cases hn
 | .cl ..,_,hn,_=>by cases hn
theorem iU.clo(s:∀b u,H b=some u->(∀o,u≠lV o)->H' b=some u):∀{ds:LD} {vs:List V},jF ds=true->iU K H ds vs->iU K H' ds vs
 | [],_,_,h=>h
 | d::ds,_,hn,h=>by
  have hn':(lp d&&jF ds)=true:=hn
  rw[Bool.and_eq_true] at hn'
  obtain⟨v,r,e,q,t⟩:=h
  exact⟨v,r,e,Rep.clo s hn'.1 q,iU.clo s hn'.2 t⟩
end
theorem Rep.cloC(s:∀b u,H b=some u->(∀o,u≠lV o)->H' b=some u){d:D}{v:V}(hn:vO d=true)(h:Rep K H d v):Rep K H' d v:=by
 match d,hn,h with
 | .dct ks ds,hn,h =>
  obtain⟨a,xs,e,⟨hl,o,q⟩,r⟩:=h
  exact⟨a,xs,e,⟨hl,o,s _ _ q (fun o' z=>by cases z)⟩,iU.clo s hn r⟩
 | .dcp ks ds,hn,h =>
  obtain⟨a,kas,xs,e,q,r⟩:=h
  obtain⟨⟨h1,h2,h3⟩,o,P,w,h4,h5⟩:=q
  exact⟨a,kas,xs,e,⟨⟨h1,h2.to (fun _ _=>kD.clo s),h3⟩,o,P,w,s _ _ h4 (fun o' z=>by cases z),h5⟩,iU.clo s hn r⟩
 | .non,hn,h=>exact Rep.clo s hn h
 | .bl _,hn,h=>exact Rep.clo s hn h
 | .int _,hn,h=>exact Rep.clo s hn h
 | .str _,hn,h=>exact Rep.clo s hn h
 | .tup _,hn,h=>exact Rep.clo s hn h
 | .lst _,hn,h=>exact Rep.clo s hn h
 | .fro _,hn,h=>exact Rep.clo s hn h
 | .obj ..,hn,h=>cases hn
 | .cl ..,hn,h=>cases hn
theorem rX{cl:List (Str×Addr)}(hC:∀b,kh cl b=true->∃o,H b=some (lV o)):∀b u,H b=some u->(∀o,u≠lV o)->lE cl H b=some u:=fun b u e n=>by
 cases q:kh cl b with
 | false=>rw[lA q];exact e
 | true =>
  obtain⟨o,z⟩:=hC b q
  rw[e] at z
  exact absurd (Option.some.inj z) (n o)
theorem fJ:∀{ds:LD} {vs:List V},iU K H ds vs->jK K H (ds.map some) (vs.map some):=fun {ds vs} r=>by
 refine⟨by rw[List.length_map,List.length_map,r.length];exact Nat.le_refl _,fun i d h=>?_⟩
 rw[List.getElem?_map] at h
 obtain⟨d',e,q⟩:=jS h
 cases q
 obtain⟨v,h1,h2⟩:=r.get e
 exact⟨v,by rw[List.getElem?_map,h1];rfl,h2⟩
end
def C1(K:W.Frag)(t:lL)(G:LD->OD)(f c':Addr)(cl:List (Str×Addr))(pm ctv:Value):Sp:=fun vs H Q _=>∃as ds caps d,H f=some (lV (W.kla_obj "<lambda>" t.q t.params t.body t.scope cl pm c' ctv))/\H c'=some (.tbl t.q true)/\mt H t.N t.ps cl caps /\
 as.length=t.ps.length/\iU K H as vs/\iU K H ds caps/\jF as=true/\jF ds=true/\G (as++ds)=some d/\lp d=true/\∀v H',iX H H'->Rep K H' d v->Q v H'
structure oV (P:Program) (w:World) (K:W.Frag) (mg:Str->Option Value) (base:Heap) (k:Nat) (t:lL) (G:LD->OD):Prop where
 ok:∀(f c':Addr) (cl:List (Str×Addr)) (pm ctv:Value),lb t.N t.ps t.scope cl->jl P w K mg base kR k f (W.kla_fn "<lambda>" t.q t.params t.body t.scope cl pm (.ref c') ctv) t.ps (C1 K t G f c' cl pm ctv)
 bd:∀(c':Addr) (cl:List (Str×Addr)) (pm ctv:Value),Binds K (W.kla_fn "<lambda>" t.q t.params t.body t.scope cl pm (.ref c') ctv) t.ps []
theorem oV.m{P:Program}{w:World}{K:W.Frag}{mg:Str->Option Value}{base:Heap}{k k':Nat}{t:lL}{G:LD->OD}(h:oV P w K mg base k t G)(hk:k<=k':=by decide):oV P w K mg base k' t G:=
 ⟨fun f c' cl pm ctv S=>(h.ok f c' cl pm ctv S).mono hk,h.bd⟩
theorem z_{P:Program}{w:World}{K:W.Frag}{mg:Str->Option Value}{base:Heap}{k:Nat}{t:lL}{g:R->OD}
  (hb:∀(cl:List (Str×Addr)) (f c':Addr) (A:Around) (outer:List Env) (s:Shared) (H:Hp) (E:XK),lb t.N t.ps t.scope cl->jo k (A.deeper (W.envX t.q t.scope s.heap.objs.size f (.ref c') cl))->SE (uW kR P w K mg base t.N t.q t.scope cl f (.ref c') A outer s H E) t.body g)
  (bd:∀(c':Addr) (cl:List (Str×Addr)) (pm ctv:Value),Binds K (W.kla_fn "<lambda>" t.q t.params t.body t.scope cl pm (.ref c') ctv) t.ps []):oV P w K mg base (k+1) t (vD t.N.length g):=by
 refine⟨fun f c' cl pm ctv S=>zj S (fun vs H Q E ⟨as,ds,caps,d,_,_,_,hl,r,_⟩=>by rw[<- r.length];exact hl) (fun vs H Q E ⟨as,ds,caps,d,h1,h2,_⟩=>⟨h1,h2⟩) (fun A outer s H vs Q E hr _ h=>?_),bd⟩
 obtain⟨as,ds,caps,d,h1,h2,h3,hl,r1,r2,n1,n2,e,nd,q⟩:=h
 have hC:∀b,kh cl b=true->∃o,H b=some (lV o):=fun b hb=>let ⟨o,_,z,_⟩:=h3.2.1 b hb;⟨o,z⟩
 have dc:=rX hC
 unfold vD at e
 split at e
 case isFalse=>cases e
 case isTrue hlen =>
 refine⟨caps,_,h3,hb cl f c' A outer s H E S hr,(as++ds).map some,d,?_,e,fun v H2 s2 rv bk=>q v _ (fun b u hu=>?_) (rv.mono fun b u hu=>bk b u hu)⟩
 ·exact fJ (iU.append (iU.clo dc n1 r1) (iU.clo dc n2 r2))
 ·show(if kh cl b then H b else H2 b)=some u
  cases qc:kh cl b with
  | true=>exact hu
  | false=>exact s2 b u (by rw[lA qc];exact hu)
section
variable{X:Cx}{pos p:Pos}{e:Expr}{es:List Expr}{k i:Nat}{F:R->Option LD}
theorem gh{x:Str}{L:sd}(i:Nat)(LO:∀t G,L t=some G->oV X.prog X.w X.K X.mg X.base k t G)(hr:jo k X.A)(ha:SA X (e::es) F)(hN:X.N[i]?=some x:=by rfl)(hv:rN X.env.scope x:=by first | exact Or.inl rfl | exact Or.inr (Or.inl rfl) | exact Or.inr (Or.inr rfl))
  (hd:(x==("__debug__" : Str))=false:=by decide) (hcd:(x==("__classdict__" : Str))=false:=by decide):SE X (.Call (.Name x p) (e::es) [] pos) (o_ L i F):=by
 have hst:=ha.2.2
 rw[List.all_cons,Bool.and_eq_true] at hst
 have he:=aw es X.env hst.1
 have hpl:=aZ (pos:=pos) (env:=X.env) hst.2
 intro pins s σ H Q I ⟨ρ,d,er,e0,q⟩
 obtain⟨c,hat,e1⟩:=iS e0
 obtain⟨as,eF,e2⟩:=iS e1
 match c,hat,e2 with
 | .cl t a ds,hat,e2 =>
 obtain⟨G,hG,e3⟩:=iS e2
 split at e3
 case isFalse=>cases e3
 case isTrue hc =>
 obtain⟨n1,n2,hl⟩:=hc
 obtain⟨d',hd',e4⟩:=iS e3
 split at e4
 case isFalse=>cases e4
 case isTrue nd =>
 cases e4
 obtain⟨v,hσ,rv⟩:=er.at hat
 obtain⟨ev,cl,xs,pm,ctv,c',h1,h2,S,h3,r⟩:=rv
 subst ev
 have lo:=LO t G hG
 refine fL (lo.ok a c' cl pm ctv S) (lo.bd c' cl pm ctv) hr ha.1 he hpl hN hv hd hcd pins s σ H Q I ⟨hσ,ρ,as,er,eF,fun vs H1 s1 r1=>⟨s1 _ _ h1,as,ds,xs,d,s1 _ _ h1,s1 _ _ h2,h3.to fun b o z=>s1 _ _ z,hl,r1,r.mono s1,n1,n2,hd',nd,fun u H2 s2 r2=>q u H2 (s1.trans s2) r2⟩⟩
end
theorem r_{K:W.Frag}{H:Hp}{ρ:R}{σ:L2.St}(er:jK K H ρ σ):∀{js:List Nat} {cs:LD},oT js ρ=some cs->∃vs,iU K H cs vs/\vs.length=js.length/\∀(i j:Nat) (v:V),js[i]?=some j->vs[i]?=some v->σ[j]?=some (some v)
 | [],_,h=>by cases h;exact⟨[],rfl,rfl,fun i j v h=>by cases h⟩
 | j::js,cs,h=>by
  obtain⟨d,e1,h⟩:=iS h
  obtain⟨cs',e2,rfl⟩:=jS h
  obtain⟨v,hσ,rv⟩:=er.at e1
  obtain⟨vs,r,hl,hg⟩:=r_ er e2
  refine⟨v::vs,⟨v,vs,rfl,rv,r⟩,by simp[hl],fun i j' v' h1 h2=>?_⟩
  cases i with
  | zero=>cases h1;cases h2;exact hσ
  | succ i=>exact hg i j' v' h1 h2
def Aw(K:W.Frag)(t:lL)(cl:List (Str×Addr))(Pt:Addr)(F:R->Option LD):TA:=fun σ H Q=>∃ ρ as,jK K H ρ σ/\F ρ=some as/\H Pt=some (.tbl t.q false) /\
 ∀vs f c' ctv pm H',iX H H'->iU K H' as vs->H f=none->H' f=some (lV (W.kla_obj "<lambda>" t.q t.params t.body t.scope cl pm c' ctv))->H' c'=some (.tbl t.q true)->Q (vs++[.ref f]) H'
section
variable{X:Cx}{pos p:Pos}{e:Expr}{es:List Expr}{k:Nat}{F:R->Option LD}{t:lL}{cl:List (Str×Addr)}{ct:jZ}{ts:List jZ}
theorem xG(TB:kc X.mg ts X.base)(ht:ct∈ts)(hcode:X.env.code=.ref ct.c)(hq:X.env.qual ++ "<lambda>" = ct.q)(htq:t.q=ct.q)(hcl:closureFor t.scope X.env=pure cl)(hdef:defaultsOf t.params X.env=([],[]):=by rfl):PA X [.Lambda t.params t.body t.scope pos] (Aw X.K t cl ct.P iQ):=
 (dO (hZ (pos:=pos) TB ht hcode hq hcl hdef) xi).imp fun σ H Q ⟨ρ,as,er,e,hP,q⟩=>by
  cases e
  rw[htq] at hP
  refine⟨hP,fun f c' ctv pm H' sm hn h1 h2=>?_⟩
  rw[<- htq] at h1 h2
  exact q [] f c' ctv pm H' sm rfl hn h1 h2
theorem wz{f:R->OD}{Pt:Addr}(ha:SE X e f)(hr:PA X es (Aw X.K t cl Pt F))(hs:noStar e=true:=by rfl):PA X (e::es) (Aw X.K t cl Pt (e8 f F)):=
 (dO ha hr (aw es X.env hs)).imp fun σ H Q ⟨ρ,as,er,e,hP,q⟩=>by
  obtain⟨x,e1,e⟩:=iS e
  obtain⟨y,e2,e⟩:=jS e
  subst e
  refine⟨ρ,x,er,e1,fun v H1 s1 r1=>⟨ρ,y,er.mono s1,e2,s1 _ _ hP,fun vs g c' ctv pm H2 s2 r2 hn h1 h2=>q (v::vs) g c' ctv pm H2 (s1.trans s2) (iU.cons (r1.mono s2) r2) ?_ h1 h2⟩⟩
  cases hb:H g with
  | none=>rfl
  | some u=>rw[s1 g u hb] at hn;cases hn
theorem gj{x:Str}{G:LD->OD}{ps:List Str}{js:List Nat}{Pt:Addr}(C:kY X.prog X.w X.K X.mg X.base k x ps G)(hr:jo k X.A)(hT:X.H₀ Pt=some (.tbl t.q false))(o:vj X cl)(S:lb t.N t.ps t.scope cl)
  (hjs:js.map (fun j=>X.N[j]?)=(t.N.drop t.ps.length).map some) (hcn:∀y c,cl.lookup y=some c->y∈t.N.drop t.ps.length) (ha:PA X (e::es) (Aw X.K t cl Pt F)) (hst:(e::es).all noStar=true:=by rfl) (hg:Gl X x:=by rfl) (hdb:(x==("__debug__" : Str))=false:=by decide) :
  SE X (.Call (.Name x p) (e::es) [] pos) (mZ G t F (oT js)):=by
 rw[List.all_cons,Bool.and_eq_true] at hst
 have he:=aw es X.env hst.1
 have hpl:=aZ (pos:=pos) (env:=X.env) hst.2
 obtain⟨fa,fd,fok,hm,kp,bd⟩:=C.ex
 intro pins s σ H Q I ⟨ρ,d,er,e0,q⟩
 obtain⟨as,cs,eF,eC,nc,nd,hG⟩:=xj e0
 refine fW fok hr hg hm kp bd o ha hdb he hpl pins s σ H Q I ⟨ρ,as,er,eF,I.base.tbls _ _ _ hT,fun vs f c' ctv pm H1 s1 r1 hn h1 h2 H2 tr=>?_⟩
 have s12:iX H1 H2:=fun b u hb=>by
  cases qc:kh cl b with
  | false=>rw[tr.out b qc];exact hb
  | true=>rw[(tr.cel b qc).1] at hb;cases hb
 obtain⟨cvs,rc,hl,hg'⟩:=r_ (er.mono s1) eC
 have hlen:js.length=t.N.length - t.ps.length:=by
  have:=congrArg List.length hjs
  rw[List.length_map,List.length_map,List.length_drop] at this
  exact this
 have at_i:∀(i:Nat) (y:Str),(t.N.drop t.ps.length)[i]?=some y->∃j,js[i]?=some j/\X.N[j]?=some y:=fun i y hy=>by
  have h:=congrArg (fun l=>l[i]?) hjs
  simp only[List.getElem?_map] at h
  rw[hy] at h
  cases hj:js[i]? with
  | none=>rw[hj] at h;cases h
  | some j=>rw[hj] at h;exact⟨j,rfl,Option.some.inj h⟩
 have caps:mt H2 t.N t.ps cl cvs:=by
  refine⟨by rw[hl,hlen],fun b hb=>?_,fun i y v hy hv=>?_⟩
  ·obtain⟨pr,hp,ep⟩:=List.any_eq_true.mp hb
   have hlk:cl.lookup pr.1=some b:=lh o.ndc (by rw[<- eq_of_beq ep];exact hp)
   obtain⟨i,hi⟩:=List.getElem?_of_mem (hcn _ _ hlk)
   obtain⟨j,hj,hN⟩:=at_i i _ hi
   have hil:i<cvs.length:=by rw[hl];exact(List.getElem?_eq_some_iff.mp hj).1
   obtain⟨ob,u,z1,z2,_⟩:=tr.val j _ b cvs[i] hN (hg' i j _ hj (List.getElem?_eq_getElem hil)) hlk
   exact⟨ob,u,z1,z2⟩
  ·obtain⟨j,hj,hN⟩:=at_i i y hy
   obtain⟨c,hc⟩:=S.has y (S.fre y (List.mem_of_getElem? hy))
   obtain⟨ob,u,z1,z2,z3⟩:=tr.val j y c v hN (hg' i j v hj hv) hc
   exact⟨c,ob,u,hc,z1,z2,z3⟩
 refine⟨as++[.cl t f cs],d,?_,hG f,fun v H' s2 rv=>q v _ (fun b u hb=>?_) (Rep.cloC (rX fun b hb=>?_) nd rv)⟩
 ·exact iU.append (r1.mono s12) (iU.one ⟨rfl,cl,cvs,pm,ctv,c',s12 _ _ h1,s12 _ _ h2,S,caps,rc.mono s12⟩)
 ·have hb1:=s1 b u hb
  cases qc:kh cl b with
  | true=>rw[(tr.cel b qc).1] at hb1;cases hb1
  | false=>rw[lA qc];exact s2 b u (s12 b u hb1)
 ·obtain⟨_,ob,_,z,_⟩:=tr.cel b hb
  exact⟨ob,s2 _ _ z⟩
end
structure Ag (K:W.Frag) (x qual:Str) (st:Stmt) (f:Addr) (fd:FuncData) (c:Addr):Prop where
 ex:∃(oc:Value) (od:Option Addr) (kV doc pm:Value) (an:Option Addr) (ct:Value) (osl:Array (Option Value)),
  fd=W.fnOf x qual (j8 st) (jw st) (iV st) .none kV doc pm an (.ref c) ct/\K.lookup f=some ⟨oc,od,.func fd,osl⟩/\W.codeIn K (.ref c) qual=true
 kp:W.keepIn K (.ref f)=true
def spT(K:W.Frag)(F:LD->OD)(t:jZ):Sp:=fun vs H Q E=>H t.P=some (.tbl t.q false)/\pC K F vs H Q E
theorem gP{P:Program}{w:World}{K:W.Frag}{mg:Str->Option Value}{base:Heap}{x qual:Str}{st:Stmt}{f:Addr}{fd:FuncData}{N ps:List Str}{k:Nat}{F:LD->OD}{g:R->Option Out}{t:jZ}
  (Fn:Ag K x qual st f fd t.c) (S:jc N ps (iV st)) (hlen:∀ds d,F ds=some d->ds.length=ps.length)
  (hb:∀(A:Around) (outer:List Env) (s:Shared) (H:Hp) (E:XK),jo k (A.deeper (envOfC qual (iV st) s.heap.objs.size f (.ref t.c)))->H t.P=some (.tbl t.q false)->SS (nW kR P w K mg base N qual (iV st) f (.ref t.c) A outer s H E).nox (jw st) g)
  (hF:∀ds d,F ds=some d->jQ (g (qY N.length ds))=some d):jl P w K mg base kR (k+1) f fd ps (spT K F t):=by
 obtain⟨oc,od,kV,doc,pm,an,ct,osl,rfl,lk,hcd⟩:=Fn.ex
 refine hU lk hcd S (fun vs H Q E h=>?_) (fun A outer s H vs Q E hr h=>?_)
 ·obtain⟨_,ds,d,r,e,_⟩:=h
  rw[<- r.length]
  exact hlen ds d e
 ·obtain⟨hT,ds,d,r,e,q⟩:=h
  refine⟨_,(hb A outer s H E hr hT).nox,?_⟩
  have z:=hF ds d e
  cases ho:g (qY N.length ds) with
  | none=>rw[ho] at z;cases z
  | some o =>
   rw[ho] at z
   refine⟨qY N.length ds,_,o,(n9 r).t,ho,fun H1 s1=>?_⟩
   cases o with
   | rt d'=>cases (show d'=d from Option.some.inj z);exact fun v rv=>q v H1 s1 rv
   | nx ρ=>cases (show D.non=d from Option.some.inj z);exact fun σ _=>q .non H1 s1 rfl
   | bk ρ=>cases z
   | ct ρ=>cases z
structure t5 (X:Cx) (t:lL) (cl:List (Str×Addr)) (ct:jZ) (js:List Nat):Prop where
 TB:kc X.mg [ct] X.base
 hT:X.H₀ ct.P=some (.tbl ct.q false)
 tq:t.q=ct.q
 code:X.env.code=.ref ct.c
 qual:X.env.qual ++ "<lambda>" = ct.q
 hcl:closureFor t.scope X.env=pure cl
 hdf:defaultsOf t.params X.env=([],[])
 own:vj X cl
 sc:lb t.N t.ps t.scope cl
 hjs:js.map (fun j=>X.N[j]?)=(t.N.drop t.ps.length).map some
 hcn:∀y c,cl.lookup y=some c->y∈t.N.drop t.ps.length
section
variable{X:Cx}{pos p:Pos}{e:Expr}{es:List Expr}{k:Nat}{F:R->Option LD}{t:lL}{cl:List (Str×Addr)}{ct:jZ}{js:List Nat}
theorem zD(o:t5 X t cl ct js):PA X [.Lambda t.params t.body t.scope pos] (Aw X.K t cl ct.P iQ):=
 xG o.TB (List.mem_singleton.mpr rfl) o.code o.qual o.tq o.hcl o.hdf
theorem fm{x:Str}{G:LD->OD}{ps:List Str}(C:kY X.prog X.w X.K X.mg X.base k x ps G)(hr:jo k X.A)(o:t5 X t cl ct js)(ha:PA X (e::es) (Aw X.K t cl ct.P F))(hst:(e::es).all noStar=true:=by rfl)(hg:Gl X x:=by rfl)(hdb:(x==("__debug__" : Str))=false:=by decide) :
  SE X (.Call (.Name x p) (e::es) [] pos) (mZ G t F (oT js)):=gj C hr (by rw[o.tq];exact o.hT) o.own o.sc o.hjs o.hcn ha hst hg hdb
end
def AS(P:Program)(w:World)(K:W.Frag)(mg:Str->Option Value)(base:Heap)(k:Nat)(L:sd):Prop:=∀t G,L t=some G->oV P w K mg base k t G
theorem AS.mono{P:Program}{w:World}{K:W.Frag}{mg:Str->Option Value}{base:Heap}{k k':Nat}{L:sd}(h:AS P w K mg base k L)(hk:k<=k'):AS P w K mg base k' L:=fun t G e=>(h t G e).m hk
theorem Aa{K:W.Frag}{t:lL}(h:∀(c':Addr) (cl:List (Str×Addr)) (pm ctv:Value) (us:List Value),us.length=t.ps.length->bindArgs (W.kla_fn "<lambda>" t.q t.params t.body t.scope cl pm (.ref c') ctv) ⟨us,[]⟩=pure (t.ps.zip us)) :
  ∀(c':Addr) (cl:List (Str×Addr)) (pm ctv:Value),Binds K (W.kla_fn "<lambda>" t.q t.params t.body t.scope cl pm (.ref c') ctv) t.ps []:=fun c' cl pm ctv=>.all (h c' cl pm ctv)
theorem iD{K:W.Frag}{x:Str}{f c P:Addr}{oc oc2:Value}{od od2:Option Addr}{osl xP:Array (Option Value)}{fd:FuncData}{vs:Array Value}(a:W.nsIn K mainGlobals x=some (some (.ref f)))(l:K.lookup f=some ⟨oc,od,.func fd,osl⟩)(hc:fd.code=.ref c)
  (l2:K.lookup c=some ⟨oc2,od2,.fields vs,xP⟩) (h:vs[11]?=some (.ref P)):W.tabIn K x=some (c,P):=by
 unfold W.tabIn
 simp only[a,l,hc,l2,h]
def Bb(K:W.Frag)(F:LD->OD)(ts:List jZ):Sp:=fun vs H Q E=>∀t,ts=[t]->spT K F t vs H Q E
theorem y7{K:W.Frag}{F:LD->OD}{H:Hp}{ts:List jZ}{a:Addr}{vs:List V}{Q:VK}{E:XK}(hO:u7 ts a H)(hP:∀t∈ts,t.P≠a)(h:pC K F vs H Q E):Bb K F ts vs H Q E:=fun t e=>by
 subst e
 refine⟨?_,h⟩
 rcases hO t.P with ⟨_,z⟩ | ⟨z,_⟩
 ·rw[z];simp[rj]
 ·exact absurd z (hP t (List.mem_singleton.mpr rfl))
theorem zp{P:Program}{w:World}{K:W.Frag}{mg:Str->Option Value}{base:Heap}{k:Nat}{f:Addr}{fd:FuncData}{ps:List Str}{F:LD->OD}{t:jZ}(h:jl P w K mg base kR k f fd ps (spT K F t)):jl P w K mg base kR k f fd ps (Bb K F [t]):=h.imp fun vs H Q E z=>z t rfl
end HW
namespace HW
open PySem
def oP:List (Int ⊕ Str)->Option (List Int)
 | []=>some []
 | .inl i::ks=>(oP ks).map (i::·)
 | _=>none
end HW
namespace HW
open PySem PySem.Spec PyProof.Rows L2
section
variable{X:Cx}
variable{o i:Expr}{f g:R->OD}{pos apos cpos:Pos}
end
theorem wL{P:Program}{w:World}{H:Hp}{h:Heap}{a:Addr}{o:Obj}{kvs:List (Key×V)}(ok:mh P w H h)(e:H a=some (.frz o (.dK kvs))) :
  (a==sysModules)=false/\∃vs es ep,KV kvs vs/\h.get? a=some o/\o.data=.dict es ep/\h.DictAt (i6 P w) a vs ep:=by
 obtain⟨g,z,hd,vs,r,o',es,ep,g',h1,h2,h3⟩:=(show jA P w H h a (.frz o (.dK kvs)) from ok a _ e)
 rw[g] at g'
 cases g'
 exact⟨hd,vs,es,ep,r,g,h2,o,es,g,h1,h2,h3⟩
section
variable{X:Cx}{a:Expr}{f:R->OD}
end
theorem eR:∀{vs:List Value} {ns:List Int},vs.length=ns.length->(∀(j:Nat) (v:Value) (n:Int),vs[j]?=some v->ns[j]?=some n->∃t,v=Value.int n t)->IntsAre vs ns
 | [],[],_,_=>.nil
 | v::vs,n::ns,hl,h=>by
  obtain⟨t,rfl⟩:=h 0 v n rfl rfl
  exact .cons n t (eR (by simpa using hl) fun j v' n' h1 h2=>h (j+1) v' n' h1 h2)
section
variable{X:Cx}
theorem tE:∀{ks:List (Int ⊕ Str)} {ns:List Int},oP ks=some ns->ks=ns.map Sum.inl
 | [],ns,h=>by cases h;rfl
 | .inl i::ks,ns,h=>by
  obtain⟨m,e,rfl⟩:=jS h
  rw[tE e];rfl
theorem uz:∀{kvs:List (Key×V)} {vs:List (Key×Value)},KV kvs vs->kvs.map (·.1)=vs.map (·.1)
 | _,_,.nil=>rfl
 | _,_,.cons h r=>by rw[List.map_cons,List.map_cons,uz r,h.1]
end
structure ri (P:Program) (w:World) (K:W.Frag) (mg:Str->Option Value) (base:Heap) (k:Nat) (x:Str) (ps:List Str) (F:LD->OD) (ct:jZ):Prop where
 ex:∃f fd,jl P w K mg base kR k f fd ps (spT K F ct)/\mg x=some (.ref f)/\W.keepIn K (.ref f)=true/\Binds K fd ps []
theorem ri.mono{P:Program}{w:World}{K:W.Frag}{mg:Str->Option Value}{base:Heap}{j k:Nat}{x:Str}{ps:List Str}{F:LD->OD}{ct:jZ}(h:ri P w K mg base j x ps F ct)(hk:j<=k):ri P w K mg base k x ps F ct:=by
 obtain⟨f,fd,a,b⟩:=h.ex
 exact⟨f,fd,a.mono hk,b⟩
theorem ri.m{P:Program}{w:World}{K:W.Frag}{mg:Str->Option Value}{base:Heap}{j k:Nat}{x:Str}{ps:List Str}{F:LD->OD}{ct:jZ}(h:ri P w K mg base j x ps F ct)(hk:j<=k:=by decide):ri P w K mg base k x ps F ct:=h.mono hk
theorem gH{P:Program}{w:World}{K:W.Frag}{mg:Str->Option Value}{base:Heap}{x qual:Str}{st:Stmt}{f:Addr}{fd:FuncData}{N ps:List Str}{k:Nat}{F:LD->OD}{g:R->Option Out}{t:jZ}
  (Fn:m_ K x qual st f fd) (S:jc N ps (iV st)) (hlen:∀ds d,F ds=some d->ds.length=ps.length)
  (hb:∀(cdv:Value) (A:Around) (outer:List Env) (s:Shared) (H:Hp) (E:XK),jo k (A.deeper (envOfC qual (iV st) s.heap.objs.size f cdv))->H t.P=some (.tbl t.q false)->SS (nW kR P w K mg base N qual (iV st) f cdv A outer s H E).nox (jw st) g)
  (hF:∀ds d,F ds=some d->jQ (g (qY N.length ds))=some d):jl P w K mg base kR (k+1) f fd ps (spT K F t):=by
 refine Fn.ok S (fun vs H Q E h=>?_) (fun cdv A outer s H vs Q E hr h=>?_)
 ·obtain⟨_,ds,d,r,e,_⟩:=h
  rw[<- r.length]
  exact hlen ds d e
 ·obtain⟨hT,ds,d,r,e,q⟩:=h
  refine⟨_,hb cdv A outer s H E hr hT,?_⟩
  have z:=hF ds d e
  cases ho:g (qY N.length ds) with
  | none=>rw[ho] at z;cases z
  | some o =>
   rw[ho] at z
   refine⟨qY N.length ds,_,o,(n9 r).t,ho,fun H1 s1=>?_⟩
   cases o with
   | rt d'=>cases (show d'=d from Option.some.inj z);exact fun v rv=>q v H1 s1 rv
   | nx ρ=>cases (show D.non=d from Option.some.inj z);exact fun σ _=>q .non H1 s1 rfl
   | bk ρ=>cases z
   | ct ρ=>cases z
section
variable{X:Cx}{p pos:Pos}{e:Expr}{es:List Expr}{F:R->Option LD}{ct:jZ}
theorem fe{k:Nat}{x:Str}{ps:List Str}{G:LD->OD}(C:ri X.prog X.w X.K X.mg X.base k x ps G ct)(hr:jo k X.A)(hT:X.H₀ ct.P=some (.tbl ct.q false))(ha:SA X (e::es) F)(hg:Gl X x:=by rfl)
  (hdb:(x==("__debug__" : Str))=false:=by decide):SE X (.Call (.Name x p) (e::es) [] pos) (iR G F):=by
 have hst:=ha.2.2
 rw[List.all_cons,Bool.and_eq_true] at hst
 have he:=aw es X.env hst.1
 have hpl:=aZ (pos:=pos) (env:=X.env) hst.2
 obtain⟨f,fd,a,m,kp,bd⟩:=C.ex
 intro pins s σ H Q I h
 have hP:=I.base.tbls _ _ _ hT
 refine((dv a hr hg m kp bd .nil sF ha.1 hdb he hpl).imp (t':=fun σ H Q=>H ct.P=some (.tbl ct.q false)/\tD X.K (iR G F) σ H Q) fun σ H Q ⟨hP,ρ,d,er,e,q⟩=>?_) pins s σ H Q I ⟨hP,h⟩
 obtain⟨ds,e1,e⟩:=iS e
 exact⟨ρ,ds,er,e1,fun vs H1 s1 r1=>⟨s1 _ _ hP,ds,d,by rw[List.append_nil];exact r1,e,fun v H2 s2 r2=>q v H2 (s1.trans s2) r2⟩⟩
end
end HW
namespace HW
open PySem
abbrev Ky:=Int ⊕ (Int×Int)
abbrev KI:=List (Ky×D)
def nX:D->Option Ky
 | .int i=>some (.inl i)
 | .tup [.int i,.int j]=>some (.inr (i,j))
 | _=>none
def i_:Ky->D
 | .inl i=>.int i
 | .inr p=>.tup [.int p.1,.int p.2]
theorem n6{d:D}{k:Ky}(h:nX d=some k):d=i_ k:=by
 match d,h with
 | .int i,h=>cases h;rfl
 | .tup [.int i,.int j],h=>cases h;rfl
def kin(kv:KI)(k:Ky):Bool:=!kv.isEmpty&&kv.all fun p=>p.1.isLeft==k.isLeft
abbrev WU:=R->Nat->KI->LD->Option (Out×KI×LD)
abbrev WE:=R->Nat->KI->OD
def jv:KI->Ky->OD
 | [],_=>none
 | (k,d)::kv,j=>if k=j then some d else jv kv j
def isAt(i:Nat)(ρ:R)(a:Nat):Prop:=iP i ρ=some (.obj 1 a [] [])
instance (i:Nat) (ρ:R) (a:Nat):Decidable (isAt i ρ a):=by
 unfold isAt
 match h:iP i ρ with
 | some (.obj 1 b [] []) =>
  by_cases e:b=a
  ·exact isTrue (by rw[e])
  ·exact isFalse (by intro z;cases z;exact e rfl)
 | none=>exact isFalse (by intro z;cases z)
 | some .non=>exact isFalse (by intro z;cases z)
 | some (.bl _)=>exact isFalse (by intro z;cases z)
 | some (.int _)=>exact isFalse (by intro z;cases z)
 | some (.str _)=>exact isFalse (by intro z;cases z)
 | some (.tup _)=>exact isFalse (by intro z;cases z)
 | some (.lst _)=>exact isFalse (by intro z;cases z)
 | some (.fro _)=>exact isFalse (by intro z;cases z)
 | some (.dct ..)=>exact isFalse (by intro z;cases z)
 | some (.dcp ..)=>exact isFalse (by intro z;cases z)
 | some (.cl ..)=>exact isFalse (by intro z;cases z)
 | some (.obj 0 ..)=>exact isFalse (by intro z;cases z)
 | some (.obj (_+2) ..)=>exact isFalse (by intro z;cases z)
 | some (.obj 1 _ (_::_) _)=>exact isFalse (by intro z;cases z)
 | some (.obj 1 _ [] (_::_))=>exact isFalse (by intro z;cases z)
def u3(u:R->Option Out):WU:=fun ρ _ kv ds=>(u ρ).map fun o=>(o,kv,ds)
def wk:WU:=fun ρ _ kv ds=>some (.nx ρ,kv,ds)
def uh(p q:WU):WU:=fun ρ a kv ds=>(p ρ a kv ds).bind fun r=>match r.1 with
 | .nx ρ1=>q ρ1 a r.2.1 r.2.2
 | o=>some (o,r.2)
def Bq(c:R->Nat->KI->Option Bool)(p q:WU):WU:=fun ρ a kv ds=>(c ρ a kv).bind fun b=>if b then p ρ a kv ds else q ρ a kv ds
def sx(st:D->R->Option R)(p:WU):LD->R->Nat->KI->LD->Option (Out×KI×LD)
 | [],ρ,_,kv,ds=>some (.nx ρ,kv,ds)
 | x::xs,ρ,a,kv,ds=>(st x ρ).bind fun ρ1=>(p ρ1 a kv ds).bind fun r=>match r.1 with
  | .nx ρ2=>sx st p xs ρ2 a r.2.1 r.2.2
  | .ct ρ2=>sx st p xs ρ2 a r.2.1 r.2.2
  | .bk ρ2=>some (.nx ρ2,r.2)
  | .rt d=>some (.rt d,r.2)
def mM(it:R->Option LD)(st:D->R->Option R)(p:WU):WU:=fun ρ a kv ds=>(it ρ).bind fun xs=>sx st p xs ρ a kv ds
def yD(i:Nat)(f:R->OD):WU:=fun ρ _ kv ds=>(f ρ).bind fun d=>if ρ.length=i/\ds.length<sizeLine then some (.nx ρ,kv,ds++[d]) else none
def vQ(f:R->OD):WE:=fun ρ _ _=>f ρ
def ph(i:Nat)(f:R->OD):WE:=fun ρ a kv=>(f ρ).bind fun k=>(nX k).bind fun j=>if isAt i ρ a/\kin kv j=true then jv kv j else none
def vv(F:D->D->OD)(f g:WE):WE:=fun ρ a kv=>(f ρ a kv).bind fun x=>(g ρ a kv).bind fun y=>F x y
def wm(i:Nat)(kf:R->OD)(g:WE):WU:=fun ρ a kv ds=>(g ρ a kv).bind fun d=>(kf ρ).bind fun k=>(nX k).bind fun j=>if isAt i ρ a/\kin kv j=true/\(jv kv j).isNone/\kv.length<1000 then some (.nx ρ,kv++[(j,d)],ds) else none
def ng(i:Nat)(kf:R->OD):R->Nat->KI->Option Bool:=fun ρ a kv=>(kf ρ).bind fun k=>(nX k).bind fun j=>if isAt i ρ a/\kin kv j=true then some (jv kv j).isNone else none
def sy(i:Nat)(p:WU):R->Nat->KI->Option (D×KI):=fun ρ a kv=>if ρ.length=i+1 then (p (ρ.take i) a kv []).bind fun r=>match r.1 with
 | .nx ρ1=>if ρ1.length=i then some (.lst r.2.2,r.2.1) else none
 | _=>none
 else none
def tw(g:LD->Nat->KI->Option (D×KI))(c:D):Nat->LD->Nat->KI->Option KI
 | 0,_,_,_=>none
 | _+1,[],_,kv=>some kv
 | n+1,x::l,a,kv=>(g [.obj 1 a [] [],.lst (x::l),c] a kv).bind fun r=>match r.1 with
  | .lst l'=>tw g c n l' a r.2
  | _=>none
def k1:Ky->Int ⊕ Str
 | .inl i=>.inl i
 | .inr p=>.inl p.1
def k2:Ky->Int×Int
 | .inl i=>(i,i)
 | .inr p=>p
def lP(kv:KI):D:=match kv with
 | (.inr _,_)::_=>.dcp (kv.map fun p=>k2 p.1) (kv.map fun p=>p.2)
 | _=>.dct (kv.map fun p=>k1 p.1) (kv.map fun p=>p.2)
def oC(g:LD->Nat->KI->Option (D×KI))(n i j:Nat)(e:D):R->Option Out:=fun ρ=>if ρ.length=n then (iP i ρ).bind fun s=>(iP j ρ).bind fun c=>(nX s).bind fun k =>
 open Classical in if h:∃kv:KI,kv ≠ []/\∀a,tw g c 100 [s] a [(k,e)]=some kv then some (.rt (lP h.choose)) else none
 else none
theorem w4{g:LD->Nat->KI->Option (D×KI)}{n i j:Nat}{e c s:D}{ρ:R}{k:Ky}{kv:KI}(h0:ρ.length=n)(h1:iP i ρ=some s)(h2:iP j ρ=some c)(hk:nX s=some k)(hn:kv ≠ [])(h:∀a,tw g c 100 [s] a [(k,e)]=some kv) :
  oC g n i j e ρ=some (.rt (lP kv)):=by
 unfold oC
 rw[if_pos h0,h1,Option.bind_some,h2,Option.bind_some,hk,Option.bind_some]
 have hx:∃kv:KI,kv ≠ []/\∀a,tw g c 100 [s] a [(k,e)]=some kv:=⟨kv,hn,h⟩
 rw[dif_pos hx]
 have:hx.choose=kv:=by
  have z:=hx.choose_spec.2 0
  rw[h 0] at z
  exact(Option.some.inj z).symm
 rw[this]
theorem w_{g:LD->Nat->KI->Option (D×KI)}{n i j:Nat}{e:D}{ρ:R}{o:Out}(h:oC g n i j e ρ=some o):ρ.length=n/\∃s c k kv,iP i ρ=some s/\iP j ρ=some c/\nX s=some k/\kv ≠ []/\(∀a,tw g c 100 [s] a [(k,e)]=some kv)/\o=.rt (lP kv):=by
 unfold oC at h
 split at h
 case isFalse=>cases h
 case isTrue h0 =>
 refine⟨h0,?_⟩
 cases e1:iP i ρ with
 | none=>rw[e1] at h;cases h
 | some s =>
  rw[e1,Option.bind_some] at h
  cases e2:iP j ρ with
  | none=>rw[e2] at h;cases h
  | some c =>
   rw[e2,Option.bind_some] at h
   cases e3:nX s with
   | none=>rw[e3] at h;cases h
   | some k =>
    rw[e3,Option.bind_some] at h
    split at h
    ·rename_i hx
     cases h
     exact⟨s,c,k,hx.choose,rfl,rfl,e3,hx.choose_spec.1,hx.choose_spec.2,rfl⟩
    ·cases h
theorem rA{i:Nat}{ρ:R}{d:D}(h:i<ρ.length):iP i (ρ.set i (some d))=some d:=by
 show(List.set ρ i (some d)).getD i none=some d
 rw[List.getD_eq_getElem?_getD,List.getElem?_set_self h]
 rfl
theorem nk{i j:Nat}{ρ:R}{d:OD}(h:i≠j):iP j (ρ.set i d)=iP j ρ:=by
 show(List.set ρ i d).getD j none=List.getD ρ j none
 rw[List.getD_eq_getElem?_getD,List.getElem?_set_ne h,<- List.getD_eq_getElem?_getD]
end HW
namespace HW
open PySem PySem.Spec PyProof.Rows L2
def vo(P:Program)(w:World)(d:Addr)(xs:List ((Int×Int)×Addr×V)):HO:=.ext fun h=>(d==sysModules)=false/\∃o,h.get? d=some o/\w8 P w o xs
abbrev kk(p:Int×Int):List Key:=[.inl p.1,.inl p.2]
section
variable{K:W.Frag}{H H':Hp}
def k7(K:W.Frag)(H:Hp):KI->List (Key×V)->Prop
 | [],xs=>xs=[]
 | (k,d)::kv,xs=>∃i v r,k=.inl i/\xs=(Sum.inl i,v)::r/\Rep K H d v/\k7 K H kv r
def kO(K:W.Frag)(H:Hp):KI->List ((Int×Int)×Addr×V)->Prop
 | [],xs=>xs=[]
 | (k,d)::kv,xs=>∃p a v r,k=.inr p/\xs=(p,a,v)::r/\kD K H a [.int p.1,.int p.2]/\Rep K H d v/\kO K H kv r
theorem k7.kp(s:Kp H H'):∀{kv:KI} {xs:List (Key×V)},k7 K H kv xs->k7 K H' kv xs
 | [],_,h=>h
 | (k,d)::kv,_,h=>by
  obtain⟨i,v,r,e0,e,q,t⟩:=h
  exact⟨i,v,r,e0,e,q.kp s,k7.kp s t⟩
theorem kO.kp(s:Kp H H'):∀{kv:KI} {xs:List ((Int×Int)×Addr×V)},kO K H kv xs->kO K H' kv xs
 | [],_,h=>h
 | (k,d)::kv,_,h=>by
  obtain⟨p,a,v,r,e0,e,q0,q,t⟩:=h
  exact⟨p,a,v,r,e0,e,s.tup q0,q.kp s,kO.kp s t⟩
theorem k7.snoc:∀{kv:KI} {xs:List (Key×V)} {k:Int} {d:D} {v:V},k7 K H kv xs->Rep K H d v->k7 K H (kv++[(.inl k,d)]) (xs++[(Sum.inl k,v)])
 | [],_,k,d,v,h,r=>by cases (show _=[] from h);exact⟨k,v,[],rfl,rfl,r,rfl⟩
 | (k',d')::kv,_,k,d,v,h,r=>by
  obtain⟨i',v',r',e,rfl,q,t⟩:=h
  exact⟨i',v',r'++[(Sum.inl k,v)],e,rfl,q,k7.snoc t r⟩
theorem kO.snoc:∀{kv:KI} {xs:List ((Int×Int)×Addr×V)} {k:Int×Int} {d:D} {a:Addr} {v:V},kO K H kv xs->kD K H a [.int k.1,.int k.2]->Rep K H d v->kO K H (kv++[(.inr k,d)]) (xs++[(k,a,v)])
 | [],_,k,d,a,v,h,q,r=>by cases (show _=[] from h);exact⟨k,a,v,[],rfl,rfl,q,r,rfl⟩
 | (k',d')::kv,_,k,d,a,v,h,q,r=>by
  obtain⟨p',a',v',r',e,rfl,q0,q',t⟩:=h
  exact⟨p',a',v',r'++[(k,a,v)],e,rfl,q0,q',kO.snoc t q r⟩
theorem k7.len:∀{kv:KI} {xs:List (Key×V)},k7 K H kv xs->kv.length=xs.length
 | [],_,h=>by cases (show _=[] from h);rfl
 | (k,d)::kv,_,h=>by
  obtain⟨i,v,r,_,rfl,q,t⟩:=h
  rw[List.length_cons,List.length_cons,k7.len t]
theorem kO.len:∀{kv:KI} {xs:List ((Int×Int)×Addr×V)},kO K H kv xs->kv.length=xs.length
 | [],_,h=>by cases (show _=[] from h);rfl
 | (k,d)::kv,_,h=>by
  obtain⟨p,a,v,r,_,rfl,_,q,t⟩:=h
  rw[List.length_cons,List.length_cons,kO.len t]
theorem k7.at:∀{kv:KI} {xs:List (Key×V)} {j:Int},k7 K H kv xs->(jv kv (.inl j)=none/\kQ xs (Sum.inl j:Key)=none)\/∃d v,jv kv (.inl j)=some d/\kQ xs (Sum.inl j:Key)=some v/\Rep K H d v
 | [],_,j,h=>by cases (show _=[] from h);exact .inl ⟨rfl,rfl⟩
 | (k,d)::kv,_,j,h=>by
  obtain⟨i,v,r,rfl,rfl,q,t⟩:=h
  by_cases hk:i=j
  ·refine .inr ⟨d,v,if_pos (by rw[hk]),?_,q⟩
   show((List.find? _ ((Sum.inl i,v)::r)).map _)=_
   rw[List.find?_cons_of_pos (by simpa using hk)]
   rfl
  ·have e1:jv ((.inl i,d)::kv) (.inl j)=jv kv (.inl j):=if_neg (fun z=>hk (Sum.inl.inj z))
   have e2:kQ ((Sum.inl i,v)::r) (Sum.inl j:Key)=kQ r (Sum.inl j:Key):=by
    show((List.find? _ ((Sum.inl i,v)::r)).map _)=_
    rw[List.find?_cons_of_neg (by simpa using hk)]
    rfl
   rw[e1,e2]
   exact k7.at t
theorem Am{p q:Int×Int}(h:kk p=kk q):p=q:=by
 have h1:=List.cons.inj h
 have h2:=List.cons.inj h1.2
 exact Prod.ext (Sum.inl.inj h1.1) (Sum.inl.inj h2.1)
theorem kO.at:∀{kv:KI} {xs:List ((Int×Int)×Addr×V)} {qs:List (List Key×Addr×Value)} {j:Int×Int},kO K H kv xs->vk xs qs->(jv kv (.inr j)=none/\atKey qs (kk j)=none)\/∃d v a u,jv kv (.inr j)=some d/\atKey qs (kk j)=some (a,u)/\RelV v u/\Rep K H d v
 | [],_,_,j,h,r=>by
  cases (show _=[] from h)
  cases r
  exact .inl ⟨rfl,rfl⟩
 | (k,d)::kv,_,qs,j,h,r=>by
  obtain⟨p,a,v,r',rfl,rfl,q0,q,t⟩:=h
  cases r with
  | @cons _ b _ ls e rt =>
  obtain⟨kb,ab,ub⟩:=b
  obtain⟨e1,e2,e3⟩:=e
  cases (show kb=_ from e1)
  by_cases hk:p=j
  ·subst hk
   refine .inr ⟨d,v,ab,ub,if_pos rfl,?_,e3,q⟩
   show((List.find? _ ((kk p,ab,ub)::ls)).map _)=_
   rw[List.find?_cons_of_pos (by simp)]
   rfl
  ·have e1:jv ((.inr p,d)::kv) (.inr j)=jv kv (.inr j):=if_neg (fun z=>hk (Sum.inr.inj z))
   have e2:atKey ((kk p,ab,ub)::ls) (kk j)=atKey ls (kk j):=by
    show((List.find? _ ((kk p,ab,ub)::ls)).map _)=_
    rw[List.find?_cons_of_neg (by simpa using fun z=>hk (Am z))]
    rfl
   show(jv ((.inr p,d)::kv) (.inr j)=none/\atKey ((kk p,ab,ub)::ls) (kk j)=none)\/∃d' v a u,jv ((.inr p,d)::kv) (.inr j)=some d'/\atKey ((kk p,ab,ub)::ls) (kk j)=some (a,u)/\RelV v u/\Rep K H d' v
   rw[e1,e2]
   exact kO.at t rt
end
def km(P:Program)(w:World)(K:W.Frag)(H:Hp)(d:Addr)(kv:KI):Prop:=(∃xs,H d=some (pI P w d xs)/\k7 K H kv xs)\/∃xs,H d=some (vo P w d xs)/\kO K H kv xs
section
variable{P:Program}{w:World}{K:W.Frag}{H H':Hp}{d a:Addr}{kv:KI}
theorem km.mono(h:km P w K H d kv)(s:iX H H'):km P w K H' d kv:=by
 rcases h with ⟨xs,h1,h2⟩ | ⟨xs,h1,h2⟩
 ·exact .inl ⟨xs,s _ _ h1,h2.kp (Kp.of s)⟩
 ·exact .inr ⟨xs,s _ _ h1,h2.kp (Kp.of s)⟩
theorem km.move(h:km P w K H d kv)(s:jM a H H')(hn:d≠a)(k:Kp H H'):km P w K H' d kv:=by
 rcases h with ⟨xs,h1,h2⟩ | ⟨xs,h1,h2⟩
 ·exact .inl ⟨xs,s _ _ hn h1,h2.kp k⟩
 ·exact .inr ⟨xs,s _ _ hn h1,h2.kp k⟩
theorem km.ext(h:km P w K H d kv):∃ φ,H d=some (.ext φ):=by
 rcases h with ⟨xs,h1,h2⟩ | ⟨xs,h1,h2⟩
 ·exact⟨_,h1⟩
 ·exact⟨_,h1⟩
theorem km.kp(h:km P w K H d kv)(s:jM d H H'):Kp H H':=fun b u e n=>by
 obtain⟨φ,h1⟩:=h.ext
 by_cases hb:b=d
 ·subst hb;rw[h1] at e;cases e;exact absurd rfl (n _)
 ·exact s b u hb e
theorem dQ{o u:HO}(h:H d=some o):upd (upd H d u) d o=H:=by
 funext b
 unfold upd
 by_cases e:b=d
 ·rw[if_pos e,e,h]
 ·rw[if_neg e,if_neg e]
end
section
variable{X:Cx}{pins:List (Addr×Obj)}{σ:L2.St}{H:Hp}{s:Shared}{d:Addr}{kv:KI}{A:Around}{E:Value->Shared->Prop}
theorem sR{a:Addr}{p:Int×Int}(I:L2.Inv X pins σ H s)(h:kD X.K H a [.int p.1,.int p.2]):(tupleKind (i6 X.prog X.w)).is s.heap (kk p) a:=by
 obtain⟨its,r,⟨o,e,c,n,dd⟩,_⟩:=I.tuple h
 exact⟨o,its.toArray,n,e,c,dd,by simpa using nj (P:=X.prog) (w:=X.w) (ks:=kk p) r⟩
theorem uA(I:L2.Inv X pins σ H s):∀{kv:KI} {xs:List ((Int×Int)×Addr×V)} {qs:List (List Key×Addr×Value)},kO X.K H kv xs->vk xs qs->∀x∈qs,(tupleKind (i6 X.prog X.w)).is s.heap x.1 x.2.1
 | [],_,_,h,r,x,hx=>by
  cases (show _=[] from h)
  cases r
  cases hx
 | (k,dd)::kv,_,qs,h,r,x,hx=>by
  obtain⟨p,a,v,r',rfl,rfl,q0,q,t⟩:=h
  cases r with
  | @cons _ b _ ls e rt =>
  rcases List.mem_cons.mp hx with rfl | hx
  ·rw[e.1,e.2.1]
   exact sR I q0
  ·exact uA I t rt x hx
theorem dI{xs:List ((Int×Int)×Addr×V)}(I:L2.Inv X pins σ H s)(h:H d=some (vo X.prog X.w d xs))(r:kO X.K H kv xs):(d==sysModules)=false/\xs.length<=sizeLine/\∃qs,vk xs qs/\s.heap.DictOfH (tupleKind (i6 X.prog X.w)) d qs:=by
 obtain⟨hd,o,g,z,qs,es,ep,h1,h2,h3,h4,h5⟩:=(I.hok d _ h).1
 exact⟨hd,z,qs,h1,o,es,ep,g,h2,h3,h4,uA I r h1,h5⟩
theorem nF{k:Ky}(h:kin kv k=true)(D:km X.prog X.w X.K H d kv):(∃j xs,k=.inl j/\H d=some (pI X.prog X.w d xs)/\k7 X.K H kv xs)\/∃p xs,k=.inr p/\H d=some (vo X.prog X.w d xs)/\kO X.K H kv xs:=by
 unfold kin at h
 rw[Bool.and_eq_true] at h
 match kv,h,D with
 | (k',d')::kv,h,D =>
  rw[List.all_cons,Bool.and_eq_true] at h
  have h2:=h.2.1
  rcases D with ⟨xs,h1,hr⟩ | ⟨xs,h1,hr⟩
  ·obtain⟨i,v,r,e,_⟩:=id hr
   subst e
   cases k with
   | inl j=>exact .inl ⟨j,xs,rfl,h1,hr⟩
   | inr p=>exact absurd (show(false:Bool)=true from h2) Bool.false_ne_true
  ·obtain⟨i,a,v,r,e,_⟩:=id hr
   subst e
   cases k with
   | inl j=>exact absurd (show(false:Bool)=true from h2) Bool.false_ne_true
   | inr p=>exact .inr ⟨p,xs,rfl,h1,hr⟩
theorem oi{k:Ky}{y:V}(h:Rep X.K H (i_ k) y):(∃i,k=.inl i/\y=.int i)\/∃p a,k=.inr p/\y=.ref a/\kD X.K H a [.int p.1,.int p.2]:=by
 cases k with
 | inl i=>exact .inl ⟨i,rfl,h⟩
 | inr p =>
  obtain⟨a,xs,rfl,hq,v1,r1,rfl,h1,v2,r2,rfl,h2,h3⟩:=h
  cases (show v1=_ from h1)
  cases (show v2=_ from h2)
  cases (show r2=_ from h3)
  exact .inr ⟨p,a,rfl,rfl,hq⟩
theorem Ad{k:Ky}{x:D}{y:V}{u:Value}{Q:Value->Shared->Prop}(hu:A.units+1<cLine)(I:L2.Inv X pins σ H s)(D:km X.prog X.w X.K H d kv)(hk:kin kv k=true)(hg:jv kv k=some x)(rk:Rep X.K H (i_ k) y)(ry:RelV y u)
  (h:∀v w' s',L2.Inv X pins σ H s'->RelV v w'->Rep X.K H x v->Q w' s'):s.TypeIs (.ref d) "dict" /\ wpAny (model X.prog X.w) A (getItem (.ref d) u) Q E s:=by
 rcases nF hk D with ⟨j,xs,rfl,h1,hr⟩ | ⟨p,xs,rfl,h1,hr⟩
 ·cases (show y=_ from rk)
  have I3:=xu I h1
  rcases k7.at (j:=j) hr with ⟨h2,_⟩ | ⟨d',v,h2,hv',rv⟩
  ·rw[h2] at hg;cases hg
  ·rw[h2] at hg;cases hg
   have g:oG (upd H d (.dK xs)) d (kV (.inl j)) (some v):=by rw[<- hv'];exact oG.k af
   refine⟨sZ I3 g,fj hu I3 g ry fun w' s3 I4 rw'=>h v w' s3 ?_ rw' rv⟩
   have:=n_ I4 af
   rw[dQ h1] at this
   exact this
 ·rcases oi rk with ⟨_,e,_⟩ | ⟨p',a,e,rfl,hq⟩
  ·cases e
  ·cases e
   cases (show u=_ from ry)
   obtain⟨hd,z,qs,hp,dd⟩:=dI I h1 hr
   rcases kO.at (j:=p) hr hp with ⟨h2,_⟩ | ⟨d',v,a',u',h2,h3,h4,h5⟩
   ·rw[h2] at hg;cases hg
   ·rw[h2] at hg;cases hg
    exact⟨dd.typeIs,wpAny_getItem_heap (tupleKind_room_in1 hu) (sR I hq) dd h3 (h v u' _ (I.tok _) h4 h5)⟩
theorem wA{k:Ky}{y:V}{u:Value}{Q:Value->Shared->Prop}(hu:A.units+1<cLine)(I:L2.Inv X pins σ H s)(D:km X.prog X.w X.K H d kv)(hk:kin kv k=true)(rk:Rep X.K H (i_ k) y)(ry:RelV y u)
  (h:∀s',L2.Inv X pins σ H s'->Q (.bool (jv kv k).isNone) s'):wpAny (model X.prog X.w) A (compareOp .NotIn u (.ref d)) Q E s:=by
 rcases nF hk D with ⟨j,xs,rfl,h1,hr⟩ | ⟨p,xs,rfl,h1,hr⟩
 ·cases (show y=_ from rk)
  have I3:=xu I h1
  have g:oG (upd H d (.dK xs)) d (kV (.inl j)) (kQ xs (Sum.inl j:Key)):=oG.k af
  refine gm hu I3 g ry fun s3 I4=>?_
  have:=n_ I4 af
  rw[dQ h1] at this
  have q:=h s3 this
  rcases k7.at (j:=j) hr with ⟨h2,h3⟩ | ⟨d',v',h2,h3,_⟩
  ·rw[h2] at q;rw[h3];exact q
  ·rw[h2] at q;rw[h3];exact q
 ·rcases oi rk with ⟨_,e,_⟩ | ⟨p',a,e,rfl,hq⟩
  ·cases e
  ·cases e
   cases (show u=_ from ry)
   obtain⟨hd,z,qs,hp,dd⟩:=dI I h1 hr
   refine wpAny_notIn_heap (tupleKind_room_in1 hu) (sR I hq) hd dd ?_
   have q:=h _ (I.tok (s.toks+(tupleKind (i6 X.prog X.w)).draws (kk p)))
   rcases kO.at (j:=p) hr hp with ⟨h2,h3⟩ | ⟨d',v,a',u',h2,h3,h4,h5⟩
   ·rw[h2] at q;rw[h3];exact q
   ·rw[h2] at q;rw[h3];exact q
theorem vk.snoc{xs:List ((Int×Int)×Addr×V)}{qs:List (List Key×Addr×Value)}{p:Int×Int}{a:Addr}{v:V}{u:Value}(h:vk xs qs)(r:RelV v u):vk (xs++[(p,a,v)]) (qs++[(kk p,a,u)]):=by
 induction h with
 | nil=>exact .cons ⟨rfl,rfl,r⟩ .nil
 | cons e t ih=>exact .cons e ih
theorem vk.len{xs:List ((Int×Int)×Addr×V)}{qs:List (List Key×Addr×Value)}(h:vk xs qs):xs.length=qs.length:=by
 induction h with
 | nil=>rfl
 | cons e t ih=>rw[List.length_cons,List.length_cons,ih]
theorem sG{h:Heap}{xs:List ((Int×Int)×Addr×V)}{qs:List (List Key×Addr×Value)}(hd:(d==sysModules)=false)(z:xs.length<=sizeLine)(hp:vk xs qs)(dd:h.DictOfH (tupleKind (i6 X.prog X.w)) d qs):jA X.prog X.w H h d (vo X.prog X.w d xs):=by
 obtain⟨o,es,ep,g,h2,h3,h4,_,h5⟩:=dd
 refine⟨⟨hd,o,g,z,qs,es,ep,hp,h2,h3,h4,h5⟩,⟨o,g⟩,?_⟩
 rintro h1 h2 ⟨e1,o,e2,e3⟩ k
 exact⟨e1,o,k o e2,e3⟩
theorem zc{k:Ky}{x:D}{y v:V}{u r:Value}{Q:Unit->Shared->Prop}(hu:A.units+1<cLine)(I:L2.Inv X pins σ H s)(D:km X.prog X.w X.K H d kv)(hk:kin kv k=true)(hg:(jv kv k).isNone=true)(hl:kv.length<1000)(rk:Rep X.K H (i_ k) y)(ry:RelV y u)(rx:Rep X.K H x v)(rv:RelV v r)
  (h:∀H' s',L2.Inv X pins σ H' s'->jM d H H'->km X.prog X.w X.K H' d (kv++[(k,x)])->Q () s'):wpAny (model X.prog X.w) A (setItem (.ref d) u r) Q E s:=by
 rcases nF hk D with ⟨j,xs,rfl,h1,hr⟩ | ⟨p,xs,rfl,h1,hr⟩
 ·cases (show y=_ from rk)
  have I4:=xu I h1
  have hnone:kQ xs (Sum.inl j:Key)=none:=by
   rcases k7.at (j:=j) hr with ⟨_,h2⟩ | ⟨d',v',h2,_,_⟩
   ·exact h2
   ·rw[h2] at hg;cases hg
  have hz:xs.length<sizeLine:=by rw[<- hr.len];exact Nat.lt_of_lt_of_le hl (by decide)
  have g:tK (upd H d (.dK xs)) d (kV (.inl j)) v (upd (upd H d (.dK xs)) d (.dK (putK xs (Sum.inl j:Key) v))):=tK.k af hz
  rw[xk v hnone] at g
  refine fc hu I4 g ry rv fun s4 I5=>?_
  have I6:=n_ I5 af
  generalize hH6:upd (upd (upd H d (.dK xs)) d (.dK (xs++[(Sum.inl j,v)]))) d (pI X.prog X.w d (xs++[(Sum.inl j,v)]))=H6 at I6
  have k36:jM d H H6:=by
   subst hH6
   exact jM.upd.trans (jM.upd.trans jM.upd)
  have ho6:H6 d=some (pI X.prog X.w d (xs++[(Sum.inl j,v)])):=by subst hH6;exact af
  have kp:=D.kp k36
  exact h H6 s4 I6 k36 (.inl ⟨_,ho6,(hr.kp kp).snoc (rx.kp kp)⟩)
 ·rcases oi rk with ⟨_,e,_⟩ | ⟨p',a,e,rfl,hq⟩
  ·cases e
  ·cases e
   cases (show u=_ from ry)
   obtain⟨hd,z,qs,hp,dd⟩:=dI I h1 hr
   have hnone:atKey qs (kk p)=none:=by
    rcases kO.at (j:=p) hr hp with ⟨_,h3⟩ | ⟨d',v,a',u',h2,h3,h4,h5⟩
    ·exact h3
    ·rw[h2] at hg;cases hg
   have hz:xs.length<1000:=by rw[<- hr.len];exact hl
   have zz:1000<=sizeLine:=by decide
   refine wpAny_setItem_heap (tupleKind_room_in1 hu) (sR I hq) dd (fun h' dd' hs=>?_) (by rw[<- hp.len];omega)
   rw[storedH_new hnone] at dd'
   have k1:jM d H (upd H d (vo X.prog X.w d (xs++[(p,a,v)]))):=jM.upd
   have kp:=D.kp k1
   have he:∃q,h'.get? d=some q:=let ⟨q,_,_,g,_⟩:=dd';⟨q,g⟩
   exact h _ _ (bX I (by rw[h1];trivial) hs he (sG hd (by rw[List.length_append];show xs.length+1<=_;omega) (hp.snoc rv) dd')) k1 (.inr ⟨_,af,(hr.kp kp).snoc (kp.tup hq) (rx.kp kp)⟩)
theorem tm{K:W.Frag}{H:Hp}:∀{kv:KI} {xs:List (Key×V)},k7 K H kv xs->∃vs,xs=(kv.map fun p=>k1 p.1).zip vs/\kv.length=vs.length/\iU K H (kv.map fun p=>p.2) vs
 | [],_,h=>by cases (show _=[] from h);exact⟨[],rfl,rfl,rfl⟩
 | (k,d)::kv,_,h=>by
  obtain⟨i,v,r,rfl,rfl,q,t⟩:=h
  obtain⟨vs,rfl,hl,rr⟩:=tm t
  exact⟨v::vs,rfl,by simp[hl],v,vs,rfl,q,rr⟩
theorem sw{K:W.Frag}{H:Hp}:∀{kv:KI} {xs:List ((Int×Int)×Addr×V)},kO K H kv xs->∃kas vs,xs=(kv.map fun p=>k2 p.1).zip (kas.zip vs)/\kas.length=vs.length/\pz K H (kv.map fun p=>k2 p.1) kas/\iU K H (kv.map fun p=>p.2) vs
 | [],_,h=>by cases (show _=[] from h);exact⟨[],[],rfl,rfl,rfl,rfl⟩
 | (k,d)::kv,_,h=>by
  obtain⟨p,a,v,r,rfl,rfl,q0,q,t⟩:=h
  obtain⟨kas,vs,rfl,hl,hk,rr⟩:=sw t
  exact⟨a::kas,v::vs,rfl,by simp[hl],⟨a,kas,rfl,q0,hk⟩,v,vs,rfl,q,rr⟩
theorem zt(I:L2.Inv X pins σ H s)(D:km X.prog X.w X.K H d kv)(hne:kv ≠ []):∃H',L2.Inv X pins σ H' s/\jM d H H'/\Rep X.K H' (lP kv) (.ref d):=by
 rcases D with ⟨xs,h1,hr⟩ | ⟨xs,h1,hr⟩
 ·obtain⟨z,hd,vs,r,dd⟩:=eZ I h1
  obtain⟨o,es,ep,e,rest⟩:=id dd
  have I':=I.write (t':=s.toks) (h':=s.heap) (o:=.frz o (.dK xs)) (x:=d) (e:=d) (by rw[h1];trivial) (.inl rfl) (fun _ _ _ q=>q) ⟨_,e⟩ ⟨e,z,hd,vs,r,dd⟩
  have k1:jM d H (upd H d (.frz o (.dK xs))):=jM.upd
  have kp:Kp H _:=km.kp (.inl ⟨xs,h1,hr⟩) k1
  obtain⟨ws,ex,lw,rw9⟩:=tm (hr.kp kp)
  refine⟨_,I',k1,?_⟩
  have e9:lP kv=.dct (kv.map fun p=>HW.k1 p.1) (kv.map fun p=>p.2):=by
   cases kv with
   | nil=>rfl
   | cons q kv =>
    obtain⟨i,_,_,e,_⟩:=hr
    obtain⟨k,dd⟩:=q
    cases (show k=_ from e)
    rfl
  rw[e9]
  exact⟨d,ws,rfl,⟨by rw[List.length_map];exact lw,o,by rw[<- ex];exact af⟩,rw9⟩
 ·obtain⟨hd,o,g,tt⟩:=(I.hok d _ h1).1
  have I':=I.write (t':=s.toks) (h':=s.heap) (o:=.frz o (.own 0)) (x:=d) (e:=d) (by rw[h1];trivial) (.inl rfl) (fun _ _ _ q=>q) ⟨_,g⟩ ⟨g,o,g⟩
  have k1:jM d H (upd H d (.frz o (.own 0))):=jM.upd
  have kp:Kp H _:=km.kp (.inr ⟨xs,h1,hr⟩) k1
  obtain⟨kas,vs,ex,hl,hk,rr⟩:=sw (hr.kp kp)
  refine⟨_,I',k1,?_⟩
  have e9:lP kv=.dcp (kv.map fun p=>k2 p.1) (kv.map fun p=>p.2):=by
   cases kv with
   | nil=>exact absurd rfl hne
   | cons q kv =>
    obtain⟨i,_,_,_,e,_⟩:=hr
    obtain⟨k,dd⟩:=q
    cases (show k=_ from e)
    rfl
  rw[e9]
  exact⟨d,kas,vs,rfl,⟨⟨hd,hk,hl⟩,o,X.prog,X.w,af,by rw[<- ex];exact tt⟩,rr⟩
end
section
variable{K:W.Frag}{H H':Hp}
def mF(d a:Addr)(H H':Hp):Prop:=∀b u,b≠d->b≠a->H b=some u->H' b=some u
theorem mF.of{d a:Addr}(h:iX H H'):mF d a H H':=fun b u _ _ e=>h b u e
theorem mF.trans{d a:Addr}{H1 H2:Hp}(h:mF d a H H1)(h':mF d a H1 H2):mF d a H H2:=fun b u n m e=>h' b u n m (h b u n m e)
theorem mF.d{d a:Addr}(h:jM d H H'):mF d a H H':=fun b u n _ e=>h b u n e
theorem mF.a{d a:Addr}(h:jM a H H'):mF d a H H':=fun b u _ m e=>h b u m e
def vZ(P:Program)(w:World)(K:W.Frag)(H:Hp)(d a:Addr)(kv:KI)(ds:LD):Prop:=d≠a/\km P w K H d kv/\∃ys,H a=some (jE a ys)/\iU K H ds ys
theorem vZ.mono{P:Program}{w:World}{d a:Addr}{kv:KI}{ds:LD}(h:vZ P w K H d a kv ds)(s:iX H H'):vZ P w K H' d a kv ds:=by
 obtain⟨n,h1,ys,h3,h4⟩:=h
 exact⟨n,h1.mono s,ys,s _ _ h3,h4.mono s⟩
theorem vZ.kp{P:Program}{w:World}{d a:Addr}{kv:KI}{ds:LD}(h:vZ P w K H d a kv ds)(s:mF d a H H'):Kp H H':=fun b u e n=>by
 obtain⟨_,h1,ys,h3,_⟩:=h
 obtain⟨φ,h1⟩:=h1.ext
 by_cases hb:b=d
 ·subst hb;rw[h1] at e;cases e;exact absurd rfl (n _)
 ·by_cases hc:b=a
  ·subst hc;rw[h3] at e;cases e;exact absurd rfl (n _)
  ·exact s b u hb hc e
end
section
variable(P:Program)(w:World)(K:W.Frag)
def tW(u:WU):TS:=fun E σ H=>∃ ρ τ d a kv ds o kv' ds',jC K H ρ (some (.ref a)::τ) σ/\vZ P w K H d a kv ds/\u ρ d kv ds=some (o,kv',ds')/\∀H',mF d a H H'->vZ P w K H' d a kv' ds'->fin K E (some (.ref a)::τ) o H'
def CM(g:WE):TE:=fun σ H Q=>∃ ρ τ d a kv ds x,jC K H ρ (some (.ref a)::τ) σ/\vZ P w K H d a kv ds/\g ρ d kv=some x/\∀v H',iX H H'->Rep K H' x v->Q v H'
def C4(g:R->Nat->KI->Option Bool):TT:=fun σ H Q=>∃ ρ τ d a kv ds b,jC K H ρ (some (.ref a)::τ) σ/\vZ P w K H d a kv ds/\g ρ d kv=some b/\∀H',iX H H'->Q b H'
end
def WJ(X:Cx)(st:Stmt)(u:WU):Prop:=PS X st (tW X.prog X.w X.K u)
def y8(X:Cx)(sts:List Stmt)(u:WU):Prop:=PSs X sts (tW X.prog X.w X.K u)
def Ax(X:Cx)(e:Expr)(g:WE):Prop:=PE X e (CM X.prog X.w X.K g)
def CF(X:Cx)(e:Expr)(g:R->Nat->KI->Option Bool):Prop:=PT X e (C4 X.prog X.w X.K g)
section
variable{X:Cx}{st:Stmt}{sts:List Stmt}{u:R->Option Out}{p q:WU}{pos:Pos}{e:Expr}{f:R->OD}
theorem yf(h:S1 X st u):WJ X st (u3 u):=PS.imp h fun E σ H ⟨ρ,τ,d,a,kv,ds,o,kv',ds',er,W,e,qq⟩=>by
 obtain⟨o1,e1,e2⟩:=jS e
 cases e2
 exact⟨ρ,_,o,er,e1,fun H' s=>qq H' (mF.of s) (W.mono s)⟩
theorem x_:y8 X [] wk:=ro.imp fun E σ H ⟨ρ,τ,d,a,kv,ds,o,kv',ds',er,W,e,qq⟩=>by
 cases e
 exact qq H (mF.of (iX.refl H)) W σ er
theorem rW(h1:WJ X st p)(h2:y8 X sts q):y8 X (st::sts) (uh p q):=(aL h1 h2).imp fun E σ H ⟨ρ,τ,d,a,kv,ds,o,kv',ds',er,W,e,qq⟩=>by
 obtain⟨⟨o1,kv1,ds1⟩,e1,e⟩:=iS e
 refine⟨ρ,τ,d,a,kv,ds,o1,kv1,ds1,er,W,e1,fun H1 k1 W1=>?_⟩
 cases o1 with
 | nx ρ2=>exact fun σ2 er2=>⟨ρ2,τ,d,a,kv1,ds1,o,kv',ds',er2,W1,e,fun H2 k2 W2=>qq H2 (k1.trans k2) W2⟩
 | rt x=>cases e;exact qq H1 k1 W1
 | bk ρ2=>cases e;exact qq H1 k1 W1
 | ct ρ2=>cases e;exact qq H1 k1 W1
theorem qJ(h:WJ X st p):y8 X [st] p:=bz h
theorem AN{c:Expr}{s:R->Nat->KI->Option Bool}{B1 B2:List Stmt}(hc:CF X c s)(ha:y8 X B1 p)(hb:y8 X B2 q):WJ X (.If c B1 B2 pos) (Bq s p q):=(fu hc ha hb).imp fun E σ H ⟨ρ,τ,d,a,kv,ds,o,kv',ds',er,W,e,qq⟩=>by
 obtain⟨x,e1,e⟩:=iS e
 refine⟨ρ,τ,d,a,kv,ds,x,er,W,e1,fun H1 s1=>?_⟩
 cases x with
 | true=>rw[if_pos rfl] at e ⊢;exact⟨ρ,τ,d,a,kv,ds,o,kv',ds',er.mono s1,W.mono s1,e,fun H2 k2=>qq H2 ((mF.of s1).trans k2)⟩
 | false=>rw[if_neg Bool.false_ne_true] at e ⊢;exact⟨ρ,τ,d,a,kv,ds,o,kv',ds',er.mono s1,W.mono s1,e,fun H2 k2=>qq H2 ((mF.of s1).trans k2)⟩
theorem xE{tg iter:Expr}{B:List Stmt}{it:R->Option LD}{stf:D->R->Option R}(hp:PassesOwn (model X.prog X.w) X.A X.env X.xe)(hc:X.calm=true)(hi:SI X tg iter it)(hg:SG X tg stf)(hb:y8 X B p)
  (hs:∀x,foldedSetIterable iter X.env x=pure x:=by intro _;rfl):WJ X (.For tg iter B [] pos) (mM it stf p):=(dF hp hc hi hg hb hs).imp fun E σ H ⟨ρ,τ,d,a,kv,ls,o,kv',ls',er,W,e,q⟩=>by
 obtain⟨ds,e1,e⟩:=iS e
 refine⟨ρ,ds,er.1,e1,fun J H1 s1 y=>?_⟩
 refine⟨fun i m σ' H'=>m=ds.length - i/\i<=ds.length/\mF d a H1 H'/\∃ ρ' k l,jC X.K H' ρ' (some (.ref a)::τ) σ'/\vZ X.prog X.w X.K H' d a k l/\sx stf p (ds.drop i) ρ' d k l=some (o,kv',ls'),
  ⟨ds.length,by simp,Nat.zero_le _,mF.of (iX.refl _),ρ,kv,ls,er.mono s1,W.mono s1,by simpa using e⟩,?_⟩
 rintro i m σ' H' ⟨rfl,hi,s2,ρ',k,l,er',W',e'⟩
 have kp:Kp H1 H':=(W.mono s1).kp s2
 by_cases hlt:i<ds.length
 ·refine .inr ?_
  have hd:ds[i]?=some ds[i]:=by simp[hlt]
  obtain⟨hgo,hy⟩:=y.1 i ds[i] H' kp hd
  rw[List.drop_eq_getElem_cons hlt] at e'
  obtain⟨ρ1,e2,e'⟩:=iS e'
  obtain⟨⟨o1,k1,l1⟩,e3,e'⟩:=iS e'
  refine⟨hgo,fun σ2 H2=>i+1<=ds.length/\mF d a H1 H2/\∃ ρ' k l,jC X.K H2 ρ' (some (.ref a)::τ) σ2/\vZ X.prog X.w X.K H2 d a k l/\sx stf p (ds.drop (i+1)) ρ' d k l=some (o,kv',ls'),
   fun σ2 H2 n2=>⟨ds.length - (i+1),by omega,rfl,n2.1,n2.2⟩,fun x H3 yx=>?_⟩
  obtain⟨s3,rx⟩:=hy x H3 yx
  refine⟨ρ',_,ds[i],ρ1,er'.mono s3,rx,e2,fun σ4 H4 s4 er4=>⟨ρ1,τ,d,a,k,l,o1,k1,l1,er4,(W'.mono s3).mono s4,e3,fun H5 k5 W5=>?_⟩⟩
  have s15:mF d a H1 H5:=s2.trans ((mF.of s3).trans ((mF.of s4).trans k5))
  cases o1 with
  | nx ρ2=>exact fun σ6 er6=>⟨hlt,s15,ρ2,k1,l1,er6,W5,e'⟩
  | ct ρ2=>exact fun σ6 er6=>⟨hlt,s15,ρ2,k1,l1,er6,W5,e'⟩
  | bk ρ2=>cases e';exact fun σ6 er6=>q H5 ((mF.of s1).trans s15) W5 σ6 er6
  | rt d=>cases e';exact q H5 ((mF.of s1).trans s15) W5
 ·have e4:i=ds.length:=by omega
  subst e4
  rw[List.drop_length] at e'
  cases e'
  exact .inl ⟨y.2 _ H' kp (Nat.le_refl _),q H' ((mF.of s1).trans s2) W' σ' er'⟩
theorem A6(h:SE X e f):Ax X e (vQ f):=PE.imp h fun σ H Q ⟨ρ,τ,d,a,kv,ds,x,er,W,e,q⟩=>⟨ρ,x,er.1,e,q⟩
theorem A9{op:Operator}{F:D->D->OD}{a b:Expr}{g h:WE}(ho:zw X (binaryOp op) F)(ha:Ax X a g)(hb:Ax X b h):Ax X (.BinOp a op b pos) (vv F g h):=(g_ ho ha hb).imp fun σ H Q ⟨ρ,τ,d,c,kv,ds,x,er,W,e,q⟩=>by
 obtain⟨y,e1,e⟩:=iS e
 obtain⟨z,e2,e⟩:=iS e
 exact⟨ρ,τ,d,c,kv,ds,y,er,W,e1,fun v H1 s1 r1=>⟨ρ,τ,d,c,kv,ds,z,er.mono s1,W.mono s1,e2,fun v2 H2 s2 r2=>⟨y,z,x,r1.mono s2,r2,e,fun v3 H3 s3 r3=>q v3 H3 ((s1.trans s2).trans s3) r3⟩⟩⟩
theorem obj_at{K:W.Frag}{H:Hp}{ρ:R}{τ σ:L2.St}{i:Nat}{d:Addr}(er:jC K H ρ τ σ)(h:isAt i ρ d):σ[i]?=some (some (.ref d)):=by
 obtain⟨v,hσ,r⟩:=er.1.at h
 cases (show v=_ from r)
 exact hσ
theorem zV{x:Str}{px:Pos}(i:Nat)(hu:X.A.units+1<cLine)(he:SE X e f)(hs:A4 e:=by exact fun _ _=>rfl)(hN:X.N[i]?=some x:=by rfl)(hv:rN X.env.scope x:=by first | exact Or.inl rfl | exact Or.inr (Or.inl rfl) | exact Or.inr (Or.inr rfl))(hd:(x==("__debug__" : Str))=false:=by decide)(hcd:(x==("__classdict__" : Str))=false:=by decide) :
  Ax X (.Subscript (.Name x px) e pos) (ph i f):=by
 intro pins s σ H Q I ⟨ρ,τ,d,a,kv,ds,y0,er,W,eq,q⟩
 obtain⟨dk,e1,eq⟩:=iS eq
 obtain⟨j,ek,eq⟩:=iS eq
 split at eq
 case isFalse=>cases eq
 case isTrue hc =>
 obtain⟨hi,hk⟩:=hc
 have hσ:=obj_at er hi
 refine x9 PySem.F.slot_dict_getitem.lookup hs (jy ((pv i (pos:=px) hN hv hd hcd) pins s σ H (fun v H1=>v=.ref d/\H1=H) I ⟨.ref d,hσ,rfl,rfl⟩) fun u s1 ⟨y,H1,I1,r1,ey,eH⟩=>?_)
 subst ey eH
 cases (show u=_ from r1)
 refine jy (he pins s1 σ H1 (fun v H2=>iX H1 H2/\Rep X.K H2 dk v) I1 ⟨ρ,dk,er.1,e1,fun v H2 s2 r2=>⟨s2,r2⟩⟩) fun iv s2 ⟨y,H2,I2,ry,s12,rk⟩=>?_
 obtain⟨_,D2,_⟩:=W.mono s12
 rw[n6 ek] at rk
 exact Ad hu I2 D2 hk eq rk ry fun v w' s3 I4 rw' rv=>⟨v,H2,I4,rw',q v _ s12 rv⟩
theorem zQ{x:Str}{ke:Expr}{kf:R->OD}{g:WE}{px pos':Pos}(i:Nat)(hu:X.A.units+1<cLine)(hk:SE X ke kf)(he:Ax X e g)(hN:X.N[i]?=some x:=by rfl)(hv:rN X.env.scope x:=by first | exact Or.inl rfl | exact Or.inr (Or.inl rfl) | exact Or.inr (Or.inr rfl))(hd:(x==("__debug__" : Str))=false:=by decide)(hcd:(x==("__classdict__" : Str))=false:=by decide)
  (hs:swapsWith e (some (.Subscript (.Name x px) ke pos')) pos.line X.env=pure false:=by rfl):WJ X (.Assign [.Subscript (.Name x px) ke pos'] e pos) (wm i kf g):=by
 intro pins s σ H E I ⟨ρ,τ,d,a,kv,ds,o,kv',ds',er,W,eq,qq⟩
 obtain⟨y0,e1,eq⟩:=iS eq
 obtain⟨k0,e2,eq⟩:=iS eq
 obtain⟨j,ek,eq⟩:=iS eq
 split at eq
 case isFalse=>cases eq
 case isTrue hc =>
 cases eq
 obtain⟨hi,hkn,hn,hl⟩:=hc
 have hσ:=obj_at er hi
 refine wpAny_Assign_Subscript (jy (he pins s σ H (fun v H1=>iX H H1/\Rep X.K H1 y0 v) I ⟨ρ,τ,d,a,kv,ds,y0,er,W,e1,fun v H1 s1 r1=>⟨s1,r1⟩⟩) fun r s1 ⟨v,H1,I1,rv,s01,rd⟩ =>
  jy ((pv i (pos:=px) hN hv hd hcd) pins s1 σ H1 (fun v H2=>v=.ref d/\H2=H1) I1 ⟨.ref d,hσ,rfl,rfl⟩) fun u s2 ⟨y,H2,I2,r2,ey,eH⟩=>?_) hs
 subst ey eH
 cases (show u=_ from r2)
 refine jy (hk pins s2 σ H2 (fun v H3=>iX H2 H3/\Rep X.K H3 k0 v) I2 ⟨ρ,k0,(er.mono s01).1,e2,fun v H3 s3 r3=>⟨s3,r3⟩⟩) fun iv s3 ⟨y,H3,I3,ry,s23,rk⟩=>?_
 have s03:=s01.trans s23
 have W3:=W.mono s03
 obtain⟨hda,D3,ys,hy3,ry3⟩:=id W3
 rw[n6 ek] at rk
 refine zc hu I3 D3 hkn hn hl rk ry (rd.mono s23) rv fun H6 s6 I6 k36 D6=>?_
 have kp36:=D3.kp k36
 exact⟨σ,H6,I6,qq H6 ((mF.of s03).trans (mF.d k36)) ⟨hda,D6,ys,k36 _ _ (Ne.symm hda) hy3,ry3.kp kp36⟩ σ ((er.mono s03).kp kp36)⟩
theorem y_{x:Str}{px ap cp:Pos}(i:Nat)(he:SE X e f)(hN:X.N[i]?=some x:=by rfl)(hv:rN X.env.scope x:=by first | exact Or.inl rfl | exact Or.inr (Or.inl rfl) | exact Or.inr (Or.inr rfl))(hd:(x==("__debug__" : Str))=false:=by decide)(hcd:(x==("__classdict__" : Str))=false:=by decide)
  (hbase:attributeBase (.Name x px) "append" X.env (eval (.Name x px) X.env)=eval (.Name x px) X.env:=by rfl) (hst:noStar e=true:=by rfl)
  (hline:(ap.endLine==cp.line)=true:=by rfl) (hs:swapsWith (.Call (.Attribute (.Name x px) "append" ap) [e] [] cp) none pos.line X.env=pure false:=by rfl) :
  WJ X (.Expr (.Call (.Attribute (.Name x px) "append" ap) [e] [] cp) pos) (yD i f):=by
 intro pins s σ H E I ⟨ρ,τ,d0,a,kv,ds,o,kv',ds',er,W,eu,qq⟩
 obtain⟨d,e1,eu⟩:=iS eu
 split at eu
 case isFalse=>cases eu
 case isTrue hc =>
 cases eu
 obtain⟨hi,hlen⟩:=hc
 have hσ:=dt er
 rw[hi] at hσ
 have hst1:=aw [] X.env hst
 refine wpAny_Expr_any (wpAny_Call_method_late hbase ?_ hline rfl (jy ((pv i (pos:=px) hN hv hd hcd) pins s σ H (fun v H1=>v=.ref a/\H1=H) I ⟨.ref a,hσ,rfl,rfl⟩) fun v s1 ⟨y,H1,I1,r1,ey,eH⟩=>?_)) I.quiet hs
 ·rw[hst1]
  rfl
 subst ey eH
 cases (show v=_ from r1)
 obtain⟨_,_,ys0,ho,_⟩:=id W
 obtain⟨z,its,n,rv,eo⟩:=cL I1 ho
 refine⟨"list","list.append",PySem.F.plainAttrs_list,PySem.F.slot_list_append,PySem.F.type_list_append,⟨_,eo,rfl⟩,fun b eb=>?_,?_⟩
 ·cases eb
  exact⟨_,eo,rfl⟩
 have hA:=(aa he ad hst).1 cp pins s1 σ H1 (fun vs H2=>iX H1 H2/\iU X.K H2 [d] vs) I1 ⟨ρ,[d],er.1,by show(f ρ).bind _=_;rw[e1];rfl,fun vs H2 s2 r2=>⟨s2,r2⟩⟩
 rw[hst1] at hA ⊢
 refine Calls.callWith_builtin rfl (Calls.evalArgs_plain ?_)
 refine jy hA fun us s2 ⟨vs,H2,I2,r2,s12,rd⟩=>?_
 obtain⟨w,w',rfl,rw1,rw2⟩:=rd
 cases (show w'=[] from rw2)
 obtain⟨hda,D2,ys,ho2,rp⟩:=W.mono s12
 have I3:=nB I2 ho2
 refine jy (cB pins s2 σ (upd H2 a (.lst ys)) (.ref a) [w] (.ref a) us (fun v H3=>H3=upd (upd H2 a (.lst ys)) a (.lst (ys++[w]))) I3 rfl r2 ⟨a,ys,w,rfl,rfl,af,by rw[<- rp.length];exact hlen,rfl⟩) fun v s3 ⟨v',H3,I4,_,e3⟩=>?_
 subst e3
 have I5:=nA I4 af
 generalize hH5:upd (upd (upd H2 a (.lst ys)) a (.lst (ys++[w]))) a (jE a (ys++[w]))=H5 at I5
 have k25:jM a H2 H5:=by
  subst hH5
  exact jM.upd.trans (jM.upd.trans jM.upd)
 have ho5:H5 a=some (jE a (ys++[w])):=by subst hH5;exact af
 have kp25:Kp H2 H5:=k25.kp ho2
 refine⟨σ,H5,I5,qq H5 ((mF.of s12).trans (mF.a k25)) ⟨hda,D2.move k25 hda kp25,_,ho5,(rp.kp kp25).append (iU.one (rw1.kp kp25))⟩ σ ((er.mono s12).kp kp25)⟩
theorem wJ{x:Str}{kf:R->OD}{px:Pos}(i:Nat)(hu:X.A.units+1<cLine)(hk:SE X e kf)(hN:X.N[i]?=some x:=by rfl)(hv:rN X.env.scope x:=by first | exact Or.inl rfl | exact Or.inr (Or.inl rfl) | exact Or.inr (Or.inr rfl))(hd:(x==("__debug__" : Str))=false:=by decide)(hcd:(x==("__classdict__" : Str))=false:=by decide) :
  CF X (.Compare e [.NotIn] [.Name x px] pos) (ng i kf):=by
 have PCx:PC X .NotIn e (.Name x px) (fun σ H Q=>∃ ρ τ d a kv ds b,jC X.K H ρ (some (.ref a)::τ) σ/\vZ X.prog X.w X.K H d a kv ds/\ng i kf ρ d kv=some b/\∀H',iX H H'->Q (.bl b) H'):=by
  intro pins s σ H Q I ⟨ρ,τ,d,a,kv,ds,b,er,W,eq,q⟩
  obtain⟨k0,e1,eq⟩:=iS eq
  obtain⟨j,ek,eq⟩:=iS eq
  split at eq
  case isFalse=>cases eq
  case isTrue hc =>
  cases eq
  obtain⟨hi,hkn⟩:=hc
  have hσ:=obj_at er hi
  refine jy (hk pins s σ H (fun v H2=>iX H H2/\Rep X.K H2 k0 v) I ⟨ρ,k0,er.1,e1,fun v H2 s2 r2=>⟨s2,r2⟩⟩) fun iv s1 ⟨y,H1,I1,ry,s01,rk⟩=>?_
  refine jy ((pv i (pos:=px) hN hv hd hcd) pins s1 σ H1 (fun v H2=>v=.ref d/\H2=H1) I1 ⟨.ref d,hσ,rfl,rfl⟩) fun u s2 ⟨y',H2,I2,r2,ey,eH⟩=>?_
  subst ey eH
  cases (show u=_ from r2)
  obtain⟨_,D2,_⟩:=W.mono s01
  rw[n6 ek] at rk
  exact wA hu I2 D2 hkn rk ry fun s3 I4=>⟨.bl (jv kv j).isNone,_,I4,rfl,q _ s01⟩
 exact(iF PCx (by rfl)).imp fun σ H Q ⟨ρ,τ,d,a,kv,ds,b,er,W,e,q⟩=>⟨ρ,τ,d,a,kv,ds,b,er,W,e,fun H' s=>⟨b,rfl,q H' s⟩⟩
end
section
variable(P:Program)(w:World)(K:W.Frag)
def CB(u:R->Nat->KI->Option (D×KI)):TS:=fun E σ H=>∃ ρ τ d kv r kv',jC K H ρ τ σ/\km P w K H d kv/\u ρ d kv=some (r,kv')/\∀H' v,jM d H H'->km P w K H' d kv'->Rep K H' r v->E.rt v H'
def yO(u:TS):TS:=fun E σ H=>∃a xs,H a=some (.lst xs)/\u E σ (upd H a (jE a xs))
def AZ(u:TS):TS:=fun E σ H=>∃a xs,H a=some (jE a xs)/\u E σ (upd H a (.lst xs))
def AR(u:TS):TS:=fun E σ H=>∃a kv,km P w K H a kv/\kv ≠ []/\∀H',jM a H H'->Rep K H' (lP kv) (.ref a)->u E σ H'
end
section
variable{X:Cx}{st:Stmt}{sts:List Stmt}{u:TS}{p q:WU}{pos:Pos}
theorem dJ(h:PSs X sts u):PSs X sts (yO u):=fun pins s σ H E I ⟨a,xs,ha,hu⟩=>h pins s σ _ E (nA I ha) hu
theorem gw(h:PSs X sts u):PSs X sts (AZ u):=fun pins s σ H E I ⟨a,xs,ha,hu⟩=>h pins s σ _ E (nB I ha) hu
theorem gq(h:PSs X sts u):PSs X sts (AR X.prog X.w X.K u):=fun pins s σ H E I ⟨a,kv,D,hne,hu⟩=>by
 obtain⟨H',I',k,r⟩:=zt I D hne
 exact h pins s σ _ E I' (hu H' k r)
theorem yr{x:Str}{px p1 p2 p3:Pos}(i:Nat)(hN:X.N.Nodup)(h:WJ X st p)(hix:X.N[i]?=some x:=by rfl)(hx:Loc X.env.scope x:=by first | exact Or.inl rfl | exact Or.inr rfl)(hv:rN X.env.scope x:=by first | exact Or.inl rfl | exact Or.inr (Or.inl rfl) | exact Or.inr (Or.inr rfl))
  (hs:swapsWith (.List [] p1) (some (.Name x px)) pos.line X.env=pure false:=by rfl) (hf:X.fn x=true\/X.env.scope.names.lookup x=some .local:=by first | exact .inl rfl | exact .inr rfl) (hd:(x==("__debug__" : Str))=false:=by decide) (hcd:(x==("__classdict__" : Str))=false:=by decide) :
  PSs X [.Assign [.Name x px] (.List [] p1) pos,st,.Return (some (.Name x p2)) p3] (CB X.prog X.w X.K (sy i p)):=by
 refine(aL (bR (i:=i) hN hix hx (cC ad.1) hs hf) (dJ (aL h (gw (bz (eD (pv i (pos:=p2) hix hv hd hcd))))))).imp fun E σ H ⟨ρ,τ,d,kv,r,kv',er,D0,e,qq⟩=>?_
 unfold sy at e
 split at e
 case isFalse=>cases e
 case isTrue hlen =>
 obtain⟨⟨o1,kv1,ds1⟩,e1,e⟩:=iS e
 match o1,e,e1 with
 | .nx ρ1,e,e1 =>
 dsimp only at e
 split at e
 case isFalse=>cases e
 case isTrue hl1 =>
 cases e
 refine⟨ρ,[],er.1,rfl,fun vs H1 s1 r1=>⟨?_,fun a ha=>?_⟩⟩
 ·rw[<- r1.length];exact Nat.zero_le _
 cases (show vs=[] from r1)
 refine⟨a,[],af,?_⟩
 generalize hH2:upd (upd H1 a (.lst [])) a (jE a [])=H2
 have k12:jM a H1 H2:=by
  subst hH2
  exact jM.upd.trans jM.upd
 have s12:iX H1 H2:=fun b u hb=>k12 b u (fun z=>by rw[z,ha] at hb;cases hb) hb
 have ho2:H2 a=some (jE a []):=by subst hH2;exact af
 have s02:=s1.trans s12
 obtain⟨φ,hdd⟩:=D0.ext
 have hda:d≠a:=fun z=>by
  have:=s1 _ _ hdd
  rw[z,ha] at this;cases this
 have hσi:i<σ.length:=Nat.lt_of_lt_of_le (by omega) er.1.1
 refine⟨ρ.take i,τ,d,a,kv,[],.nx ρ1,kv',ds1,⟨⟨?_,fun j d' hd'=>?_⟩,?_⟩,⟨hda,D0.mono s02,[],ho2,rfl⟩,e1,fun H3 k3 W3 σ3 er3=>?_⟩
 ·simp
  omega
 ·have hj:j<i:=by
   have:=(List.getElem?_eq_some_iff.mp hd').1
   simp at this
   omega
  rw[List.getElem?_take_of_lt hj] at hd'
  obtain⟨v,h1,h2⟩:=er.1.2 j d' hd'
  exact⟨v,by rw[List.getElem?_set_ne (by omega)];exact h1,h2.mono s02⟩
 ·have hd':σ.drop (i+1)=τ:=by rw[<- hlen];exact er.2
  rw[List.length_take,Nat.min_eq_left (by omega),List.drop_eq_getElem_cons (by simpa using hσi)]
  congr 1
  ·simp
  ·rw[List.drop_set_of_lt (by omega)]
   exact hd'
 ·obtain⟨_,D3,ys3,hy3,ry3⟩:=id W3
  have k34:jM a H3 (upd H3 a (.lst ys3)):=jM.upd
  have kp34:Kp H3 (upd H3 a (.lst ys3)):=k34.kp hy3
  have hσ:=dt er3
  rw[hl1] at hσ
  refine⟨a,ys3,hy3,.ref a,hσ,qq _ (.ref a) (fun b u hb e=>?_) (D3.move k34 hda kp34) ⟨a,ys3,rfl,af,ry3.kp kp34⟩⟩
  have hba:b≠a:=fun z=>by
   have:=s1 _ _ e
   rw[z,ha] at this;cases this
  exact k34 b u hba (k3 b u hb hba (s02 _ _ e))
end
def BD(P:Program)(w:World)(K:W.Frag)(m:Nat)(g:LD->Nat->KI->Option (D×KI)):Sp:=fun vs H Q _=>∃d ds rest kv r kv',vs=.ref d::rest/\rest.length+1=m/\iU K H ds rest/\km P w K H d kv/\g (.obj 1 d [] []::ds) d kv=some (r,kv') /\
 ∀H' v,jM d H H'->km P w K H' d kv'->Rep K H' r v->Q v H'
theorem gs{P:Program}{w:World}{K:W.Frag}{mg:Str->Option Value}{base:Heap}{x qual:Str}{st:Stmt}{f:Addr}{fd:FuncData}{N ps:List Str}{k:Nat}{g:R->Nat->KI->Option (D×KI)}
  (Fn:m_ K x qual st f fd) (S:jc N ps (iV st))
  (hb:∀(cdv:Value) (A:Around) (outer:List Env) (s:Shared) (H:Hp) (E:XK),jo k (A.deeper (envOfC qual (iV st) s.heap.objs.size f cdv))->PSs (nW kR P w K mg base N qual (iV st) f cdv A outer s H E).nox (jw st) (CB P w K g)) :
  jl P w K mg base kR (k+1) f fd ps (BD P w K ps.length fun ds=>g (qY N.length ds)):=by
 refine Fn.ok S (fun vs H Q E h=>?_) (fun cdv A outer s H vs Q E hr h=>?_)
 ·obtain⟨d,ds,rest,kv,r,kv',rfl,hl,_⟩:=h
  exact hl
 ·obtain⟨d,ds,rest,kv,r,kv',rfl,hl,rr,hd,e,q⟩:=h
  refine⟨_,hb cdv A outer s H E hr,qY N.length (.obj 1 d [] []::ds),_,d,kv,r,kv',(n9 (ds:=.obj 1 d [] []::ds) ⟨.ref d,rest,rfl,rfl,rr⟩).t,hd,e,fun H' v a b c=>q H' v a b c⟩
structure vB (P:Program) (w:World) (K:W.Frag) (mg:Str->Option Value) (base:Heap) (k:Nat) (x:Str) (ps:List Str) (g:LD->Nat->KI->Option (D×KI)):Prop where
 ex:∃f fd,jl P w K mg base kR k f fd ps (BD P w K ps.length g)/\mg x=some (.ref f)/\W.keepIn K (.ref f)=true/\Binds K fd ps []
theorem vB.m{P:Program}{w:World}{K:W.Frag}{mg:Str->Option Value}{base:Heap}{j k:Nat}{x:Str}{ps:List Str}{g:LD->Nat->KI->Option (D×KI)}(h:vB P w K mg base j x ps g)(hk:j<=k:=by decide):vB P w K mg base k x ps g:=by
 obtain⟨f,fd,a,b⟩:=h.ex
 exact⟨f,fd,a.mono hk,b⟩
def B8(P:Program)(w:World)(K:W.Frag)(tk tv:TE):TE:=fun σ H Q=>∀p,H p=none->tM [(tk,tv)] σ (upd H p (.dK [])) fun ps H2=>∃x y,ps=[(x,y)]/\H2 p=some (.dK [])/\∃ky e,Rep K H2 (i_ ky) x/\(∀H,Rep K H e y)/\∀H3,jM p H2 H3->km P w K H3 p [(ky,e)]->Q (.ref p) H3
theorem CS{K:W.Frag}{H:Hp}{p:Addr}{o:HO}(h:H p=some (.dK [])):(∀{a xs},kD K H a xs->kD K (upd H p o) a xs):=fun {a xs} q=>by
 have ne:∀{u},H a=some u->u≠.dK []->a≠p:=fun {u} e n z=>by rw[z,h] at e;exact n (Option.some.inj e).symm
 rcases q with (q | ⟨ob,q⟩) | q
 ·exact .inl (.inl (by rw[ai (ne q (fun z=>by cases z))];exact q))
 ·exact .inl (.inr ⟨ob,by rw[ai (ne q (fun z=>by cases z))];exact q⟩)
 ·exact .inr q
theorem iC{X:Cx}{pos:Pos}{k v:Expr}{tk tv:TE}(hu:X.A.units+1<cLine)(hk:PE X k tk)(hv:PE X v tv):PE X (.Dict [some k] [v] pos) (B8 X.prog X.w X.K tk tv):=by
 intro pins s σ H Q I q
 have hn:=I.hok.fresh (Nat.le_refl s.heap.objs.size)
 have I1:=I.laid (a:=s.heap.objs.size) (o:=.dK []) (h':=s.heap.push {cls:=.type "dict",data:=.dict #[]}) (t':=s.toks) (fun _ _ q=>Heap.get?_push_of_some _ q) (Nat.le_refl _) (fH s.heap I.big)
 refine wpAny_Dict_any rfl rfl (by simp) (by simp) ?_
 generalize s.heap.objs.size=d at *
 refine jy (wl (pos:=pos) hk hv yG pins _ σ _ (fun ps H2=>∃x y,ps=[(x,y)]/\H2 d=some (.dK [])/\∃ky e,Rep X.K H2 (i_ ky) x/\(∀H,Rep X.K H e y)/\∀H3,jM d H2 H3->km X.prog X.w X.K H3 d [(ky,e)]->Q (.ref d) H3) I1 (q d hn)) fun ws s2 ⟨ps,H2,I2,rel,x,y,eps,hd2,ky,e0,rk,re,q1⟩=>?_
 subst eps
 cases rel with
 | @cons _ b _ ls e rt =>
 cases rt
 obtain⟨u1,u2⟩:=b
 obtain⟨e1,e2⟩:=e
 show wpAny _ _ (storeAll d [(u1,u2)]) _ _ s2
 unfold storeAll
 rw[List.forIn_cons]
 refine wpAny_bind (wpAny_bind ?_)
 obtain⟨z,hsm,vs0,r0,dd⟩:=hJ I2.hok hd2
 cases r0
 rcases oi rk with ⟨i,rfl,rfl⟩ | ⟨r,a,rfl,rfl,hq⟩
 ·refine wpAny_dictSet_pairs (so (k:=(Sum.inl i:Key)) e1) dd fun h' dd' hs=>?_
  refine wpAny_pure (wpAny_pure ⟨.ref d,upd H2 d (pI X.prog X.w d [(Sum.inl i,y)]),?_,rfl,q1 _ jM.upd (.inl ⟨_,af,i,y,[],rfl,rfl,re _,rfl⟩)⟩)
  have he:∃q,h'.get? d=some q:=let ⟨q,_,_,g,_⟩:=dd';⟨q,g⟩
  have I3:=bX (ob:=.dK [(Sum.inl i,y)]) (t':=s2.toks+1) I2 (by rw[hd2];trivial) hs he (fv (by show 1<=sizeLine;decide) hsm (.cons ⟨rfl,e2⟩ .nil) dd')
  have I4:=n_ I3 af
  rw[gk] at I4
  exact I4
 ·cases (show u1=_ from e1)
  obtain⟨o,es,ep,g,hx,hdat,hko,hpr,hnd⟩:=dd
  have hes:es.toList=[]:=by
   have:=hpr.length
   exact List.length_eq_zero_iff.mp this
  have ddH:s2.heap.DictOfH (tupleKind (i6 X.prog X.w)) d []:=⟨o,es,ep,g,hx,hdat,by rw[hes];rfl,(fun x hx=>nomatch hx),List.nodup_nil⟩
  refine wpAny_dictSet_heap (knd:=tupleKind (i6 X.prog X.w)) (show X.A.units<cLine by omega) (sR I2 hq) ddH (fun h' dd' hs=>?_) (by show 0<=sizeLine;decide)
  rw[storedH_new rfl] at dd'
  have he:∃q,h'.get? d=some q:=let ⟨q,_,_,g,_⟩:=dd';⟨q,g⟩
  refine wpAny_pure (wpAny_pure ⟨.ref d,upd H2 d (vo X.prog X.w d [(r,a,y)]),?_,rfl,q1 _ jM.upd (.inr ⟨_,af,r,a,y,[],rfl,rfl,CS hd2 hq,re _,rfl⟩)⟩)
  exact bX I2 (by rw[hd2];trivial) hs he (sG hsm (by show 1<=sizeLine;decide) (.cons ⟨rfl,rfl,e2⟩ .nil) dd')
section
variable{X:Cx}{pos p1 p2 p3 p4 p5 p6 p7 p8 p9 p10 p11 p12 p13 p14:Pos}
theorem gL{k:Nat}{xf xs xc xw xn:Str}{ps:List Str}{g:LD->Nat->KI->Option (D×KI)}{c ve:Expr}{e:D}(n i j iw il:Nat)(hp:PassesOwn (model X.prog X.w) X.A X.env X.xe)(C:vB X.prog X.w X.K X.mg X.base k xf ps g)(hps:ps.length=3)(hr:jo k X.A)(hN:X.N.Nodup)(hc:ST X c (jV yV (iR lM (e8 (iP il) iQ)) (kI 0)))(hve:SE X ve (fun _=>some e))(rye:∀(A B:Hp) (v:V),Rep X.K A e v->Rep X.K B e v)
  (hij:i≠iw/\i≠il/\j≠iw/\j≠il/\iw≠il/\iw<n/\il<n:=by decide)
  (hxs:X.N[i]?=some xs:=by rfl) (hxc:X.N[j]?=some xc:=by rfl) (hxw:X.N[iw]?=some xw:=by rfl) (hxn:X.N[il]?=some xn:=by rfl)
  (vs:rN X.env.scope xs:=by first | exact Or.inl rfl | exact Or.inr (Or.inl rfl) | exact Or.inr (Or.inr rfl)) (vc:rN X.env.scope xc:=by first | exact Or.inl rfl | exact Or.inr (Or.inl rfl) | exact Or.inr (Or.inr rfl))
  (vw:rN X.env.scope xw:=by first | exact Or.inl rfl | exact Or.inr (Or.inl rfl) | exact Or.inr (Or.inr rfl)) (vn:rN X.env.scope xn:=by first | exact Or.inl rfl | exact Or.inr (Or.inl rfl) | exact Or.inr (Or.inr rfl))
  (lw:Loc X.env.scope xw:=by first | exact Or.inl rfl | exact Or.inr rfl) (ln:Loc X.env.scope xn:=by first | exact Or.inl rfl | exact Or.inr rfl)
  (fw:X.fn xw=true\/X.env.scope.names.lookup xw=some .local:=by first | exact .inl rfl | exact .inr rfl) (fn:X.fn xn=true\/X.env.scope.names.lookup xn=some .local:=by first | exact .inl rfl | exact .inr rfl)
  (ds:(xs==("__debug__" : Str))=false:=by decide) (dc:(xc==("__debug__" : Str))=false:=by decide) (dw:(xw==("__debug__" : Str))=false:=by decide) (dn:(xn==("__debug__" : Str))=false:=by decide) (df:(xf==("__debug__" : Str))=false:=by decide)
  (cs:(xs==("__classdict__" : Str))=false:=by decide) (cc:(xc==("__classdict__" : Str))=false:=by decide) (cw:(xw==("__classdict__" : Str))=false:=by decide) (cn:(xn==("__classdict__" : Str))=false:=by decide)
  (gf:Gl X xf:=by rfl)
  (s1:swapsWith (.Dict [some (.Name xs p2)] [ve] p3) (some (.Name xw p1)) p4.line X.env=pure false:=by rfl) (s2:swapsWith (.List [.Name xs p6] p7) (some (.Name xn p5)) p8.line X.env=pure false:=by rfl)
  (s3:swapsWith (.Call (.Name xf p10) [.Name xw p11,.Name xn p12,.Name xc p13] [] p9) (some (.Name xn p14)) pos.line X.env=pure false:=by rfl) {q1 q2 q3:Pos} :
  SS X [.Assign [.Name xw p1] (.Dict [some (.Name xs p2)] [ve] p3) p4,.Assign [.Name xn p5] (.List [.Name xs p6] p7) p8,.While c [.Assign [.Name xn p14] (.Call (.Name xf p10) [.Name xw p11,.Name xn p12,.Name xc p13] [] p9) pos] [] q1,.Return (some (.Name xw q2)) q3] (oC g n i j e):=by
 obtain⟨f,fd,a,m,kp,bd⟩:=C.ex
 obtain⟨n1,n2,n3,n4,n5,l1,l2⟩:=hij
 have ha:SA X [.Name xw p11,.Name xn p12,.Name xc p13] (e8 (iP iw) (e8 (iP il) (e8 (iP j) iQ))):=aa (ac iw hxw vw dw cw) (aa (ac il hxn vn dn cn) (aa (ac j hxc vc dc cc) ad))
 have hl1:SA X [.Name xs p6] (e8 (iP i) iQ):=aa (ac i hxs vs ds cs) ad
 have he':=aw (e:=.Name xw p11) [.Name xn p12,.Name xc p13] X.env rfl
 have hpl:=aZ (pos:=p9) (env:=X.env) (es:=[.Name xn p12,.Name xc p13]) rfl
 refine PSs.imp (aL (bR (i:=iw) hN hxw lw (iC (uX hr) (show SE X (.Name xs p2) (iP i) from ac i hxs vs ds cs) hve) s1 fw) (aL (bR (i:=il) hN hxn ln (cC hl1.1) s2 fn)
  (aL (cS hp hc (bz (bR (i:=il) hN hxn ln (dv a hr gf m kp bd .nil sF ha.1 df he' hpl) s3 fn))) (gq (bz (eD (pv iw (pos:=q2) hxw vw dw cw))))))) fun E σ H ⟨ρ,τ,o,er,eg,q⟩=>?_
 obtain⟨hlen,s,c',ky,kv,h1,h2,hky,hne,h3,rfl⟩:=w_ eg
 intro d hd
 have u0:=aH hd (.dK [])
 have nd:∀b u,H b=some u->b≠d:=fun b u eb z=>by rw[z,hd] at eb;cases eb
 refine⟨ρ,s,(er.mono u0).1,h1,fun v H1 t1 r1=>?_⟩
 refine⟨ρ,e,((er.mono u0).mono t1).1,rfl,fun y H2 t2 r2=>?_⟩
 have hd2:H2 d=some (.dK []):=t2 _ _ (t1 _ _ af)
 have rk:Rep X.K H2 (i_ ky) v:=by rw[<- n6 hky];exact r1.mono t2
 refine⟨v,y,rfl,hd2,ky,e,rk,fun H=>rye _ _ _ r2,fun H3 k23 D3=>?_⟩
 have s03:iX H H3:=fun b u eb=>k23 b u (nd b u eb) (t2 _ _ (t1 _ _ (u0 _ _ eb)))
 have er1:=(er.mono s03).set (i:=iw) (d:=.obj 1 d [] []) (v:=.ref d) (by omega) rfl
 refine⟨ρ.set iw (some (.obj 1 d [] [])),[s],er1.1,?_,fun vs4 H4 t4 r4=>⟨?_,fun l hl=>?_⟩⟩
 ·show(iP i (ρ.set iw _)).bind _=_
  rw[nk (Ne.symm n1),h1];rfl
 ·rw[<- r4.length];exact Nat.le_trans (show 1<=1000 by decide) (by decide)
 have u4:=aH hl (.lst vs4)
 have s05:=(s03.trans t4).trans u4
 have er2:=((er1.mono t4).mono u4).set (i:=il) (d:=.lst [s]) (v:=.ref l) (by rw[List.length_set];omega) ⟨l,vs4,rfl,af,r4.mono u4⟩
 refine⟨fun mm σ' H'=>∃ ρ' ls kv0,jC X.K H' ρ' τ σ'/\ρ'.length=n/\iP iw ρ'=some (.obj 1 d [] [])/\iP il ρ'=some (.lst ls)/\iP j ρ'=some c'/\km X.prog X.w X.K H' d kv0/\iX H H'/\tw g c' mm ls d kv0=some kv,
  ⟨100,_,[s],[(ky,e)],er2,by rw[List.length_set,List.length_set];exact hlen,?_,?_,?_,(D3.mono t4).mono u4,s05,h3 d⟩,?_⟩
 ·rw[nk (Ne.symm n5),rA (by omega)]
 ·rw[rA (by rw[List.length_set];omega)]
 ·rw[nk (Ne.symm n4),nk (Ne.symm n3)];exact h2
 rintro mm σ' H' ⟨ρ',ls,kv0,er',hl',v1,v2,v3,D',sm',ew⟩
 have hcv:jV yV (iR lM (e8 (iP il) iQ)) (kI 0) ρ'=some (decide (0<(ls.length:Int))):=by
  show(((iP il ρ').bind fun x=>(some []).map (x::·)).bind lM).bind (fun x=>(some (D.int 0)).bind fun y=>yV x y)=_
  rw[v2]
  show some (decide ((ls.length:Int) > 0))=_
  rfl
 refine⟨ρ',_,er'.1,hcv,fun H6 t6=>?_⟩
 cases mm with
 | zero=>cases ew
 | succ mm =>
 cases ls with
 | nil =>
  have ek:kv0=kv:=Option.some.inj ew
  subst ek
  rw[if_neg (by simp)]
  refine⟨d,kv0,D'.mono t6,hne,fun H9 k69 r9=>⟨.ref d,obj_at er' v1,q _ (fun b u eb=>k69 b u (nd b u eb) (t6 _ _ (sm' _ _ eb))) (.ref d) r9⟩⟩
 | cons x ls =>
  rw[if_pos (by simp)]
  obtain⟨⟨r,kv1⟩,eg1,ew⟩:=iS ew
  match r,ew,eg1 with
  | .lst l',ew,eg1 =>
  refine⟨_,fun σ2 H2 w=>⟨mm,Nat.lt_succ_self _,w⟩,ρ',[.obj 1 d [] [],.lst (x::ls),c'],(er'.mono t6).1,?_,fun vs7 H7 t7 r7=>?_⟩
  ·show(iP iw ρ').bind (fun x=>((iP il ρ').bind fun y=>((iP j ρ').bind fun z=>(some []).map (z::·)).map (y::·)).map (x::·))=_
   rw[v1,v2,v3];rfl
  obtain⟨v7,rest7,rfl,rv7,rr⟩:=r7
  cases (show v7=_ from rv7)
  have t67:=t6.trans t7
  refine⟨d,[.lst (x::ls),c'],rest7,kv0,.lst l',kv1,by simp,by rw[hps,<- rr.length];rfl,rr,D'.mono t67,eg1,fun H8 v8 k8 D8 rv8=>?_⟩
  have kp78:Kp H7 H8:=(D'.mono t67).kp k8
  refine⟨ρ'.set il (some (.lst l')),l',kv1,(((er'.mono t67).kp kp78).set (by omega) rv8),by rw[List.length_set];exact hl',?_,rA (by omega),?_,D8,fun b u eb=>k8 b u (nd b u eb) (t67 _ _ (sm' _ _ eb)),ew⟩
  ·rw[nk (Ne.symm n5)];exact v1
  ·rw[nk (Ne.symm n4)];exact v3
end
end HW
namespace HW
open PySem
abbrev pH:=List LD
abbrev NU:=R->pH->Option (Out×pH)
def rq(ρ:R)(ls:pH):R:=ρ++ls.map fun l=>some (.lst l)
def mR(u:R->Option Out):NU:=fun ρ ls=>(u ρ).map fun o=>(o,ls)
def yN:NU:=fun ρ ls=>some (.nx ρ,ls)
def lG(p q:NU):NU:=fun ρ ls=>(p ρ ls).bind fun r=>match r.1 with
 | .nx ρ1=>q ρ1 r.2
 | o=>some (o,r.2)
def BK(c:R->Option Bool)(p q:NU):NU:=fun ρ ls=>(c (rq ρ ls)).bind fun b=>if b then p ρ ls else q ρ ls
def ug(st:D->R->Option R)(p:NU):LD->R->pH->Option (Out×pH)
 | [],ρ,ls=>some (.nx ρ,ls)
 | x::xs,ρ,ls=>(st x ρ).bind fun ρ1=>(p ρ1 ls).bind fun r=>match r.1 with
  | .nx ρ2=>ug st p xs ρ2 r.2
  | .ct ρ2=>ug st p xs ρ2 r.2
  | .bk ρ2=>some (.nx ρ2,r.2)
  | .rt d=>some (.rt d,r.2)
mutual
def nol:D->Bool
 | .non=>true
 | .bl _=>true
 | .int _=>true
 | .str _=>true
 | .tup ds=>sD ds
 | _=>false
def sD:LD->Bool
 | []=>true
 | d::ds=>nol d&&sD ds
end
def qN(f:R->OD)(st:D->R->Option R)(p:NU):NU:=fun ρ ls=>(f (rq ρ ls)).bind fun d=>match d with
 | .tup xs=>if sD xs then ug st p xs ρ ls else none
 | _=>none
def sE(i j:Nat)(f:R->OD):NU:=fun ρ ls=>(f ρ).bind fun d=>(ls[j]?).bind fun l=>if ρ.length+j=i/\l.length<100000 then some (.nx ρ,ls.set j (l++[d])) else none
def qT(c:R->Option Bool)(p:NU):Nat->R->pH->Option (Out×pH)
 | 0,_,_=>none
 | n+1,ρ,ls=>(c (rq ρ ls)).bind fun b=>if b then (p ρ ls).bind fun r=>match r.1 with
  | .nx ρ1=>qT c p n ρ1 r.2
  | .ct ρ1=>qT c p n ρ1 r.2
  | .bk ρ1=>some (.nx ρ1,r.2)
  | .rt d=>some (.rt d,r.2)
  else some (.nx ρ,ls)
def lS(n:Nat)(c:R->Option Bool)(p:NU):NU:=qT c p n
def oR(i:Nat)(F:R->Option LD)(p:NU):NU:=fun ρ ls=>if ρ.length+ls.length=i then (F ρ).bind fun ds=>(p ρ (ls++[ds])).bind fun r=>match r.1 with
 | .rt d=>some (.rt d,r.2.dropLast)
 | _=>none
 else none
def oZ(g:R->Option Out):NU:=fun ρ ls=>(g (rq ρ ls)).bind fun o=>match o with
 | .rt d=>if nol d then some (.rt d,ls) else none
 | _=>none
def yC(i:Nat)(F:R->Option LD)(p:NU):R->Option Out:=fun ρ=>if i<ρ.length then (F (ρ.take i)).bind fun ds=>(p (ρ.take i) [ds]).bind fun r=>match r.1 with
 | .rt d=>some (.rt d)
 | _=>none
 else none
end HW
namespace HW
open PySem PySem.Spec PyProof.Rows L2
def l_(H:Hp)(as:List Addr)(f:Addr->HO):Hp:=fun b=>if b∈as then some (f b) else H b
section
variable{H:Hp}{as:List Addr}{f:Addr->HO}
theorem kq{a:Addr}(h:a∈as):l_ H as f a=some (f a):=if_pos h
theorem lO{a:Addr}(h:a∉as):l_ H as f a=H a:=if_neg h
theorem qf{a:Addr}:l_ H (a::as) f=l_ (upd H a (f a)) as f:=by
 funext b
 unfold l_
 by_cases hb:b∈as
 ·rw[if_pos hb,if_pos (List.mem_cons_of_mem _ hb)]
 ·rw[if_neg hb]
  by_cases e:b=a
  ·subst e;rw[if_pos List.mem_cons_self,af]
  ·rw[if_neg (fun z=>(List.mem_cons.mp z).elim e hb),ai e]
end
section
variable{X:Cx}{pins:List (Addr×Obj)}{σ:L2.St}{s:Shared}{xs:Addr->List V}
theorem oq:∀{as:List Addr} {H:Hp},as.Nodup->L2.Inv X pins σ H s->(∀a∈as,H a=some (jE a (xs a)))->L2.Inv X pins σ (l_ H as fun a=>.lst (xs a)) s
 | [],H,_,I,_=>by
  have e:l_ H [] (fun a=>HO.lst (xs a))=H:=by funext b;exact if_neg (fun z=>nomatch z)
  rw[e];exact I
 | a::as,H,nd,I,h=>by
  rw[qf]
  refine oq (List.nodup_cons.mp nd).2 (nB I (h a List.mem_cons_self)) fun b hb=>?_
  rw[ai (show b≠a from fun z=>(List.nodup_cons.mp nd).1 (by rw[<- z];exact hb))]
  exact h b (List.mem_cons_of_mem _ hb)
theorem om:∀{as:List Addr} {H:Hp},as.Nodup->L2.Inv X pins σ H s->(∀a∈as,H a=some (.lst (xs a)))->L2.Inv X pins σ (l_ H as fun a=>jE a (xs a)) s
 | [],H,_,I,_=>by
  have e:l_ H [] (fun a=>jE a (xs a))=H:=by funext b;exact if_neg (fun z=>nomatch z)
  rw[e];exact I
 | a::as,H,nd,I,h=>by
  rw[qf]
  refine om (List.nodup_cons.mp nd).2 (nA I (h a List.mem_cons_self)) fun b hb=>?_
  rw[ai (show b≠a from fun z=>(List.nodup_cons.mp nd).1 (by rw[<- z];exact hb))]
  exact h b (List.mem_cons_of_mem _ hb)
end
def l4(K:W.Frag)(H:Hp)(xs:Addr->List V):List Addr->pH->Prop
 | [],ls=>ls=[]
 | a::as,ls=>∃l r,ls=l::r/\iU K H l (xs a)/\l4 K H xs as r
def pN(K:W.Frag)(H:Hp)(as:List Addr)(ls:pH):Prop:=as.Nodup/\∃xs,(∀a∈as,H a=some (jE a (xs a)))/\l4 K H xs as ls
def m9(as:List Addr)(H H':Hp):Prop:=∀b u,b∉as->H b=some u->H' b=some u
def refs(as:List Addr):L2.St:=as.map fun a=>some (.ref a)
def kM(K:W.Frag)(H:Hp)(ρ:R)(as:List Addr)(σ:L2.St):Prop:=∃ τ,jC K H ρ (refs as++τ) σ
section
variable{K:W.Frag}{H H' H1 H2:Hp}{as:List Addr}{ls:pH}{xs:Addr->List V}{ρ:R}{σ:L2.St}
theorem m9.of(h:iX H H'):m9 as H H':=fun b u _ e=>h b u e
theorem m9.trans(h:m9 as H H1)(k:m9 as H1 H2):m9 as H H2:=fun b u n e=>k b u n (h b u n e)
theorem l4.kp(s:Kp H H'):∀{as:List Addr} {ls:pH},l4 K H xs as ls->l4 K H' xs as ls
 | [],_,h=>h
 | a::as,_,h=>by
  obtain⟨l,r,e,q,t⟩:=h
  exact⟨l,r,e,q.kp s,l4.kp s t⟩
theorem l4.len:∀{as:List Addr} {ls:pH},l4 K H xs as ls->ls.length=as.length
 | [],_,h=>by cases (show _=[] from h);rfl
 | a::as,_,h=>by
  obtain⟨l,r,rfl,q,t⟩:=h
  rw[List.length_cons,List.length_cons,l4.len t]
theorem l4.get:∀{as:List Addr} {ls:pH} {j:Nat} {l:LD},l4 K H xs as ls->ls[j]?=some l->∃a,as[j]?=some a/\iU K H l (xs a)
 | [],_,_,_,h,e=>by cases (show _=[] from h);cases e
 | a::as,_,0,l,h,e=>by
  obtain⟨l',r,rfl,q,t⟩:=h
  cases (show some l'=some l from e)
  exact⟨a,rfl,q⟩
 | a::as,_,j+1,l,h,e=>by
  obtain⟨l',r,rfl,q,t⟩:=h
  exact l4.get (j:=j) t e
theorem pN.mono(h:pN K H as ls)(s:iX H H'):pN K H' as ls:=by
 obtain⟨nd,xs,h1,h2⟩:=h
 exact⟨nd,xs,fun a ha=>s _ _ (h1 a ha),h2.kp (Kp.of s)⟩
theorem pN.kp(h:pN K H as ls)(s:m9 as H H'):Kp H H':=fun b u e n=>by
 obtain⟨nd,xs,h1,_⟩:=h
 by_cases hb:b∈as
 ·rw[h1 b hb] at e
  cases e
  exact absurd rfl (n _)
 ·exact s b u hb e
theorem pN.len(h:pN K H as ls):ls.length=as.length:=let ⟨_,_,_,r⟩:=h;r.len
theorem kM.mono(h:kM K H ρ as σ)(s:iX H H'):kM K H' ρ as σ:=let ⟨τ,e⟩:=h;⟨τ,e.mono s⟩
theorem kM.kp(h:kM K H ρ as σ)(s:Kp H H'):kM K H' ρ as σ:=let ⟨τ,e⟩:=h;⟨τ,e.kp s⟩
theorem kM.at(h:kM K H ρ as σ){j:Nat}{a:Addr}(ha:as[j]?=some a):σ[ρ.length+j]?=some (some (.ref a)):=by
 obtain⟨τ,e⟩:=h
 have h0:(σ.drop ρ.length)[j]?=some (some (.ref a)):=by
  rw[e.2,List.getElem?_append_left (by unfold refs;rw[List.length_map];exact(List.getElem?_eq_some_iff.mp ha).1)]
  unfold refs
  rw[List.getElem?_map,ha];rfl
 rwa [List.getElem?_drop] at h0
theorem dL(h:kM K H ρ as σ)(k:Kp H H')(hl:∀a∈as,H' a=some (.lst (xs a)))(r:l4 K H xs as ls):jK K H' (rq ρ ls) σ:=by
 have hlen:=r.len
 refine⟨?_,fun i d hi=>?_⟩
 ·obtain⟨τ,e⟩:=id h
  have h2:=congrArg List.length e.2
  rw[List.length_drop,List.length_append] at h2
  have h3:=e.1.1
  unfold rq
  rw[List.length_append,List.length_map]
  have h4:(refs as).length=as.length:=List.length_map ..
  omega
 ·unfold rq at hi
  by_cases hlt:i<ρ.length
  ·rw[List.getElem?_append_left hlt] at hi
   obtain⟨τ,e⟩:=h
   exact(e.kp k).1.2 i d hi
  ·rw[List.getElem?_append_right (by omega),List.getElem?_map] at hi
   obtain⟨l,hl1,hd⟩:=jS hi
   cases hd
   obtain⟨a,ha,rl⟩:=r.get hl1
   have z:=h.at ha
   rw[show ρ.length+(i - ρ.length)=i by omega] at z
   exact⟨.ref a,z,a,xs a,rfl,hl a (List.mem_of_getElem? ha),rl.kp k⟩
end
mutual
theorem Rep.nol{K:W.Frag}{H H':Hp}(s:∀b u,H b=some u->(∀ys,u≠.lst ys)->H' b=some u):∀{d:D} {v:V},HW.nol d=true->Rep K H d v->Rep K H' d v
 | .non,_,_,h=>h
 | .bl _,_,_,h=>h
 | .int _,_,_,h=>h
 | .str _,_,_,h=>h
 | .tup ds,_,hn,h=>by
  obtain⟨a,xs,e,q,r⟩:=h
  refine⟨a,xs,e,?_,iU.nol s hn r⟩
  rcases q with (q | ⟨o,q⟩) | q
  ·exact .inl (.inl (s _ _ q (fun ys z=>by cases z)))
  ·exact .inl (.inr ⟨o,s _ _ q (fun ys z=>by cases z)⟩)
  ·exact .inr q
 | .lst _,_,hn,_=>by cases hn
 | .fro _,_,hn,_=>by cases hn
 | .obj ..,_,hn,_=>by cases hn
 | .dct ..,_,hn,_=>by cases hn
 | .dcp ..,_,hn,_=>by cases hn
 | .cl ..,_,hn,_=>by cases hn
theorem iU.nol{K:W.Frag}{H H':Hp}(s:∀b u,H b=some u->(∀ys,u≠.lst ys)->H' b=some u):∀{ds:LD} {vs:List V},sD ds=true->iU K H ds vs->iU K H' ds vs
 | [],_,_,h=>h
 | d::ds,_,hn,h=>by
  have hn':(HW.nol d&&sD ds)=true:=hn
  rw[Bool.and_eq_true] at hn'
  obtain⟨v,r,e,q,t⟩:=h
  exact⟨v,r,e,Rep.nol s hn'.1 q,iU.nol s hn'.2 t⟩
end
section
variable(K:W.Frag)
def AF(E:Ends)(as:List Addr)(o:Out)(H':Hp):Prop:=
 match o with
 | .nx ρ=>∀ σ,kM K H' ρ as σ->E.nx σ H'
 | .rt d=>∀v,Rep K H' d v->E.rt v H'
 | .bk ρ=>∀ σ,kM K H' ρ as σ->E.bk σ H'
 | .ct ρ=>∀ σ,kM K H' ρ as σ->E.ct σ H'
def tN(u:NU):TS:=fun E σ H=>∃ ρ as ls o ls',kM K H ρ as σ/\pN K H as ls/\u ρ ls=some (o,ls')/\∀H',m9 as H H'->pN K H' as ls'->AF K E as o H'
def CI(c:R->Option Bool):TT:=fun σ H Q=>∃ ρ as ls b,kM K H ρ as σ/\pN K H as ls/\c (rq ρ ls)=some b/\∀H',iX H H'->Q b H'
def CL(f:R->OD):TE:=fun σ H Q=>∃ ρ as ls d,kM K H ρ as σ/\pN K H as ls/\f (rq ρ ls)=some d/\nol d=true/\∀v H',iX H H'->Rep K H' d v->Q v H'
end
def NJ(X:Cx)(st:Stmt)(u:NU):Prop:=PS X st (tN X.K u)
def vX(X:Cx)(sts:List Stmt)(u:NU):Prop:=PSs X sts (tN X.K u)
section
variable{X:Cx}{st:Stmt}{sts:List Stmt}{u:R->Option Out}{p q:NU}{pos:Pos}{e:Expr}
theorem bw{H H2:Hp}{as:List Addr}{xs:Addr->List V}(h:∀a∈as,H a=some (jE a (xs a)))(s:iX (l_ H as fun a=>.lst (xs a)) H2):iX H (l_ H2 as fun a=>jE a (xs a)):=fun b u e=>by
 by_cases hb:b∈as
 ·rw[kq hb,<- h b hb,e]
 ·rw[lO hb]
  exact s b u (by rw[lO hb];exact e)
theorem tQ{H:Hp}{as:List Addr}{xs:Addr->List V}(h:∀a∈as,H a=some (jE a (xs a))):Kp H (l_ H as fun a=>.lst (xs a)):=fun b u e n=>by
 by_cases hb:b∈as
 ·rw[h b hb] at e
  cases e
  exact absurd rfl (n _)
 ·rw[lO hb];exact e
theorem y4{c:R->Option Bool}(h:ST X e c):PT X e (CI X.K c):=by
 intro pins s σ H Q I ⟨ρ,as,ls,b,er,⟨nd,xs,h1,h2⟩,ec,q⟩
 refine jy (h pins s σ _ (fun b' H2=>b'=b/\iX (l_ H as fun a=>.lst (xs a)) H2) (oq nd I h1) ⟨rq ρ ls,b,dL er (tQ h1) (fun a ha=>kq ha) h2,ec,fun H' s'=>⟨rfl,s'⟩⟩) fun b' s2 ⟨H2,I2,eb,sm⟩=>?_
 subst eb
 exact⟨_,om nd I2 (fun a ha=>sm _ _ (kq ha)),q _ (bw h1 sm)⟩
theorem w6{f:R->OD}(h:SE X e f):PE X e (CL X.K f):=by
 intro pins s σ H Q I ⟨ρ,as,ls,d,er,⟨nd,xs,h1,h2⟩,ec,hn,q⟩
 refine jy (h pins s σ _ (fun v H2=>Rep X.K H2 d v/\iX (l_ H as fun a=>.lst (xs a)) H2) (oq nd I h1) ⟨rq ρ ls,d,dL er (tQ h1) (fun a ha=>kq ha) h2,ec,fun v H' s' r=>⟨r,s'⟩⟩) fun u s2 ⟨v,H2,I2,rv,rd,sm⟩=>?_
 refine⟨v,_,om nd I2 (fun a ha=>sm _ _ (kq ha)),rv,q v _ (bw h1 sm) (Rep.nol (fun b w eb n=>?_) hn rd)⟩
 have hb:b∉as:=fun hb=>by
  rw[sm _ _ (kq (f:=fun a=>HO.lst (xs a)) hb)] at eb
  exact n _ (Option.some.inj eb).symm
 rw[lO hb];exact eb
theorem wq(h:S1 X st u):NJ X st (mR u):=PS.imp h fun E σ H ⟨ρ,as,ls,o,ls',⟨τ,er⟩,N,e,q⟩=>by
 obtain⟨o1,e1,e2⟩:=jS e
 cases e2
 refine⟨ρ,_,o,er,e1,fun H' s=>?_⟩
 have z:=q H' (m9.of s) (N.mono s)
 cases o with
 | nx ρ2=>exact fun σ2 e2=>z σ2 ⟨τ,e2⟩
 | rt d=>exact z
 | bk ρ2=>exact fun σ2 e2=>z σ2 ⟨τ,e2⟩
 | ct ρ2=>exact fun σ2 e2=>z σ2 ⟨τ,e2⟩
theorem zg:vX X [] yN:=ro.imp fun E σ H ⟨ρ,as,ls,o,ls',er,N,e,q⟩=>by
 cases e
 exact q H (m9.of (iX.refl H)) N σ er
theorem oo(h1:NJ X st p)(h2:vX X sts q):vX X (st::sts) (lG p q):=(aL h1 h2).imp fun E σ H ⟨ρ,as,ls,o,ls',er,N,e,qq⟩=>by
 obtain⟨⟨o1,ls1⟩,e1,e⟩:=iS e
 refine⟨ρ,as,ls,o1,ls1,er,N,e1,fun H1 k1 N1=>?_⟩
 cases o1 with
 | nx ρ2=>exact fun σ2 er2=>⟨ρ2,as,ls1,o,ls',er2,N1,e,fun H2 k2 N2=>qq H2 (k1.trans k2) N2⟩
 | rt d=>cases e;exact qq H1 k1 N1
 | bk ρ2=>cases e;exact qq H1 k1 N1
 | ct ρ2=>cases e;exact qq H1 k1 N1
theorem tT(h:NJ X st p):vX X [st] p:=bz h
theorem Ce{c:Expr}{s:R->Option Bool}{B1 B2:List Stmt}(hc:ST X c s)(ha:vX X B1 p)(hb:vX X B2 q):NJ X (.If c B1 B2 pos) (BK s p q):=(fu (y4 hc) ha hb).imp fun E σ H ⟨ρ,as,ls,o,ls',er,N,e,qq⟩=>by
 obtain⟨x,e1,e⟩:=iS e
 refine⟨ρ,as,ls,x,er,N,e1,fun H1 s1=>?_⟩
 cases x with
 | true=>rw[if_pos rfl] at e ⊢;exact⟨ρ,as,ls,o,ls',er.mono s1,N.mono s1,e,fun H2 k2=>qq H2 ((m9.of s1).trans k2)⟩
 | false=>rw[if_neg Bool.false_ne_true] at e ⊢;exact⟨ρ,as,ls,o,ls',er.mono s1,N.mono s1,e,fun H2 k2=>qq H2 ((m9.of s1).trans k2)⟩
theorem wO{E:Ends}{stf:D->R->Option R}{J:It}{H1:Hp}{σ:L2.St}{ρ:R}{as:List Addr}{ls ls':pH}{ds:LD}{o:Out}(er:kM X.K H1 ρ as σ)(N:pN X.K H1 as ls)(e:ug stf p ds ρ ls=some (o,ls'))(y:k9 X.K J ds H1)(q:∀H',m9 as H1 H'->pN X.K H' as ls'->AF X.K E as o H') :
  ∃W:Nat->Nat->L2.St->Hp->Prop,(∃m,W 0 m σ H1)/\∀i m σ H,W i m σ H->(J.stop i H/\E.nx σ H)\/(J.go i H/\∃N:L2.St->Hp->Prop,(∀ σ' H',N σ' H'->∃m',m'<m/\W (i+1) m' σ' H')/\∀x H',J.yld i H x H'->(CC X.K stf) x σ H' fun σ2 H2=>(tN X.K p) {E with nx:=N,ct:=N,bk:=E.nx} σ2 H2):=by
 refine⟨fun i m σ' H'=>m=ds.length - i/\i<=ds.length/\m9 as H1 H'/\∃ ρ' l,kM X.K H' ρ' as σ'/\pN X.K H' as l/\ug stf p (ds.drop i) ρ' l=some (o,ls'),
  ⟨ds.length,by simp,Nat.zero_le _,m9.of (iX.refl _),ρ,ls,er,N,by simpa using e⟩,?_⟩
 rintro i m σ' H' ⟨rfl,hi,s2,ρ',l,er',N',e'⟩
 have kp:Kp H1 H':=N.kp s2
 by_cases hlt:i<ds.length
 ·refine .inr ?_
  have hd:ds[i]?=some ds[i]:=by simp[hlt]
  obtain⟨hgo,hy⟩:=y.1 i ds[i] H' kp hd
  rw[List.drop_eq_getElem_cons hlt] at e'
  obtain⟨ρ1,e2,e'⟩:=iS e'
  obtain⟨⟨o1,l1⟩,e3,e'⟩:=iS e'
  refine⟨hgo,fun σ2 H2=>i+1<=ds.length/\m9 as H1 H2/\∃ ρ' l,kM X.K H2 ρ' as σ2/\pN X.K H2 as l/\ug stf p (ds.drop (i+1)) ρ' l=some (o,ls'),
   fun σ2 H2 n2=>⟨ds.length - (i+1),by omega,rfl,n2.1,n2.2⟩,fun x H3 yx=>?_⟩
  obtain⟨s3,rx⟩:=hy x H3 yx
  obtain⟨τ,et⟩:=er'
  refine⟨ρ',_,ds[i],ρ1,et.mono s3,rx,e2,fun σ4 H4 s4 er4=>⟨ρ1,as,l,o1,l1,⟨τ,er4⟩,(N'.mono s3).mono s4,e3,fun H5 k5 N5=>?_⟩⟩
  have s15:m9 as H1 H5:=s2.trans ((m9.of s3).trans ((m9.of s4).trans k5))
  cases o1 with
  | nx ρ2=>exact fun σ6 er6=>⟨hlt,s15,ρ2,l1,er6,N5,e'⟩
  | ct ρ2=>exact fun σ6 er6=>⟨hlt,s15,ρ2,l1,er6,N5,e'⟩
  | bk ρ2=>cases e';exact fun σ6 er6=>q H5 s15 N5 σ6 er6
  | rt d=>cases e';exact q H5 s15 N5
 ·have e4:i=ds.length:=by omega
  subst e4
  rw[List.drop_length] at e'
  cases e'
  exact .inl ⟨y.2 _ H' kp (Nat.le_refl _),q H' s2 N' σ' er'⟩
theorem Ao{tg a:Expr}{B:List Stmt}{f:R->OD}{stf:D->R->Option R}(hp:PassesOwn (model X.prog X.w) X.A X.env X.xe)(hc:X.calm=true)(ha:SE X a f)(hg:SG X tg stf)(hb:vX X B p)
  (hs:∀x,foldedSetIterable a X.env x=pure x:=by intro _;rfl):NJ X (.For tg a B [] pos) (qN f stf p):=(dF hp hc (fY (w6 ha)) hg hb hs).imp fun E σ H ⟨ρ,as,ls,o,ls',er,N,e,q⟩=>by
 obtain⟨d,e1,e⟩:=iS e
 match d,e,e1 with
 | .tup xs,e,e1 =>
 dsimp only at e
 split at e
 case isFalse=>cases e
 case isTrue hn =>
 refine⟨ρ,as,ls,.tup xs,er,N,e1,hn,fun v H1 s1 r1=>?_⟩
 obtain⟨b,vs,ev,hq,t⟩:=r1
 exact .inl ⟨b,ev,.inr ⟨⟨vs,hq⟩,wO (er.mono s1) (N.mono s1) e (cU hq t) fun H' k N'=>q H' ((m9.of s1).trans k) N'⟩⟩
theorem yz{c:Expr}{B:List Stmt}{s:R->Option Bool}(n:Nat)(hp:PassesOwn (model X.prog X.w) X.A X.env X.xe)(hc:ST X c s)(hb:vX X B p):NJ X (.While c B [] pos) (lS n s p):=(cS hp (y4 hc) hb).imp fun E σ H ⟨ρ,as,ls,o,ls',er,N,e,q⟩=>by
 refine⟨fun m σ' H'=>∃ ρ' l,kM X.K H' ρ' as σ'/\pN X.K H' as l/\m9 as H H'/\qT s p m ρ' l=some (o,ls'),⟨n,ρ,ls,er,N,m9.of (iX.refl _),e⟩,?_⟩
 rintro m σ' H' ⟨ρ',l,er',N',k',e'⟩
 cases m with
 | zero=>cases e'
 | succ m =>
  obtain⟨b,e1,e'⟩:=iS e'
  refine⟨ρ',as,l,b,er',N',e1,fun H1 s1=>?_⟩
  cases b with
  | false =>
   rw[if_neg Bool.false_ne_true] at e' ⊢
   cases e'
   exact q H1 (k'.trans (m9.of s1)) (N'.mono s1) σ' (er'.mono s1)
  | true =>
   rw[if_pos rfl] at e' ⊢
   obtain⟨⟨o1,l1⟩,e3,e'⟩:=iS e'
   refine⟨fun σ2 H2=>∃ ρ' l,kM X.K H2 ρ' as σ2/\pN X.K H2 as l/\m9 as H H2/\qT s p m ρ' l=some (o,ls'),fun σ2 H2 z=>⟨m,Nat.lt_succ_self _,z⟩,ρ',as,l,o1,l1,er'.mono s1,N'.mono s1,e3,fun H5 k5 N5=>?_⟩
   have k15:m9 as H H5:=k'.trans ((m9.of s1).trans k5)
   cases o1 with
   | nx ρ2=>exact fun σ6 er6=>⟨ρ2,l1,er6,N5,k15,e'⟩
   | ct ρ2=>exact fun σ6 er6=>⟨ρ2,l1,er6,N5,k15,e'⟩
   | bk ρ2=>cases e';exact fun σ6 er6=>q H5 k15 N5 σ6 er6
   | rt d=>cases e';exact q H5 k15 N5
theorem l4.set{K:W.Frag}{H:Hp}{xs ys:Addr->List V}:∀{as:List Addr} {ls:pH} {j:Nat} {a:Addr} {l:LD},as.Nodup->l4 K H xs as ls->as[j]?=some a->(∀b,b≠a->ys b=xs b)->iU K H l (ys a)->l4 K H ys as (ls.set j l)
 | [],_,_,_,_,_,h,e,_,_=>by cases e
 | a'::as,_,0,a,l,nd,h,e,hb,r=>by
  obtain⟨l',r',rfl,q,t⟩:=h
  cases (show some a'=some a from e)
  refine⟨l,r',rfl,r,?_⟩
  have go:∀{as:List Addr} {ls:pH},a'∉as->l4 K H xs as ls->l4 K H ys as ls:=fun {as}=>by
   induction as with
   | nil=>intro ls _ h;exact h
   | cons c cs ih =>
    rintro ls hn ⟨l,r,e,q,t⟩
    exact⟨l,r,e,by rw[hb c (fun z=>hn (z ▸ List.mem_cons_self))];exact q,ih (fun z=>hn (List.mem_cons_of_mem _ z)) t⟩
  exact go (List.nodup_cons.mp nd).1 t
 | a'::as,_,j+1,a,l,nd,h,e,hb,r=>by
  obtain⟨l',r',rfl,q,t⟩:=h
  have hm:a∈as:=List.mem_of_getElem? (i:=j) (by simpa using e)
  refine⟨l',r'.set j l,rfl,?_,l4.set (List.nodup_cons.mp nd).2 t (by simpa using e) hb r⟩
  rw[hb a' (fun z=>(List.nodup_cons.mp nd).1 (z ▸ hm))]
  exact q
theorem y3{x:Str}{f:R->OD}{px ap cp:Pos}(i j:Nat)(he:SE X e f)(hN:X.N[i]?=some x:=by rfl)(hv:rN X.env.scope x:=by first | exact Or.inl rfl | exact Or.inr (Or.inl rfl) | exact Or.inr (Or.inr rfl))(hd:(x==("__debug__" : Str))=false:=by decide)(hcd:(x==("__classdict__" : Str))=false:=by decide)
  (hbase:attributeBase (.Name x px) "append" X.env (eval (.Name x px) X.env)=eval (.Name x px) X.env:=by rfl) (hst:noStar e=true:=by rfl)
  (hline:(ap.endLine==cp.line)=true:=by rfl) (hs:swapsWith (.Call (.Attribute (.Name x px) "append" ap) [e] [] cp) none pos.line X.env=pure false:=by rfl) :
  NJ X (.Expr (.Call (.Attribute (.Name x px) "append" ap) [e] [] cp) pos) (sE i j f):=by
 intro pins s σ H E I ⟨ρ,as,ls,o,ls',er,N,eu,qq⟩
 obtain⟨d,e1,eu⟩:=iS eu
 obtain⟨l,e2,eu⟩:=iS eu
 split at eu
 case isFalse=>cases eu
 case isTrue hc =>
 cases eu
 obtain⟨hi,hlen⟩:=hc
 obtain⟨nd,xs,h1,h2⟩:=id N
 obtain⟨a,ha,rl⟩:=h2.get e2
 have ham:a∈as:=List.mem_of_getElem? ha
 have hσ:=er.at ha
 rw[hi] at hσ
 have hst1:=aw [] X.env hst
 refine wpAny_Expr_any (wpAny_Call_method_late hbase ?_ hline rfl (jy ((pv i (pos:=px) hN hv hd hcd) pins s σ H (fun v H1=>v=.ref a/\H1=H) I ⟨.ref a,hσ,rfl,rfl⟩) fun v s1 ⟨y,H1,I1,r1,ey,eH⟩=>?_)) I.quiet hs
 ·rw[hst1]
  rfl
 subst ey eH
 cases (show v=_ from r1)
 obtain⟨z,its,n,rv,eo⟩:=cL I1 (h1 a ham)
 refine⟨"list","list.append",PySem.F.plainAttrs_list,PySem.F.slot_list_append,PySem.F.type_list_append,⟨_,eo,rfl⟩,fun b eb=>?_,?_⟩
 ·cases eb
  exact⟨_,eo,rfl⟩
 obtain⟨τ,et⟩:=id er
 have hA:=(aa he ad hst).1 cp pins s1 σ H1 (fun vs H2=>iX H1 H2/\iU X.K H2 [d] vs) I1 ⟨ρ,[d],et.1,by show(f ρ).bind _=_;rw[e1];rfl,fun vs H2 s2 r2=>⟨s2,r2⟩⟩
 rw[hst1] at hA ⊢
 refine Calls.callWith_builtin rfl (Calls.evalArgs_plain ?_)
 refine jy hA fun us s2 ⟨vs,H2,I2,r2,s12,rd⟩=>?_
 obtain⟨w,w',rfl,rw1,rw2⟩:=rd
 cases (show w'=[] from rw2)
 have ho2:H2 a=some (jE a (xs a)):=s12 _ _ (h1 a ham)
 have I3:=nB I2 ho2
 have zz:100000<=sizeLine:=by decide
 refine jy (cB pins s2 σ (upd H2 a (.lst (xs a))) (.ref a) [w] (.ref a) us (fun v H3=>H3=upd (upd H2 a (.lst (xs a))) a (.lst (xs a++[w]))) I3 rfl r2 ⟨a,xs a,w,rfl,rfl,af,by rw[<- rl.length];omega,rfl⟩) fun v s3 ⟨v',H3,I4,_,e3⟩=>?_
 subst e3
 have I5:=nA I4 af
 generalize hH5:upd (upd (upd H2 a (.lst (xs a))) a (.lst (xs a++[w]))) a (jE a (xs a++[w]))=H5 at I5
 have k25:jM a H2 H5:=by
  subst hH5
  exact jM.upd.trans (jM.upd.trans jM.upd)
 have ho5:H5 a=some (jE a (xs a++[w])):=by subst hH5;exact af
 have kp25:Kp H2 H5:=k25.kp ho2
 have kp15:Kp H1 H5:=fun b u e n=>kp25 b u (s12 _ _ e) n
 refine⟨σ,H5,I5,qq H5 (fun b u nb e=>k25 b u (fun z=>nb (z ▸ ham)) (s12 _ _ e)) ⟨nd,fun b=>if b=a then xs a++[w] else xs b,fun b hb=>?_,?_⟩ σ (er.kp kp15)⟩
 ·show H5 b=some (jE b (if b=a then xs a++[w] else xs b))
  by_cases hba:b=a
  ·subst hba;rw[if_pos rfl];exact ho5
  ·rw[if_neg hba];exact k25 _ _ hba (s12 _ _ (h1 b hb))
 ·refine l4.set (xs:=xs) nd (h2.kp kp15) ha (fun b hb=>if_neg hb) ?_
  rw[if_pos rfl]
  exact(rl.kp kp15).append (iU.one (rw1.kp kp25))
theorem l4.snoc{K:W.Frag}{H:Hp}{xs:Addr->List V}{a:Addr}{l:LD}(r:iU K H l (xs a)):∀{as:List Addr} {ls:pH},l4 K H xs as ls->l4 K H xs (as++[a]) (ls++[l])
 | [],_,h=>by cases (show _=[] from h);exact⟨l,[],rfl,r,rfl⟩
 | b::as,_,h=>by
  obtain⟨l',r',rfl,q,t⟩:=h
  exact⟨l',r'++[l],rfl,q,l4.snoc r t⟩
theorem l4.split{K:W.Frag}{H:Hp}{xs:Addr->List V}{a:Addr}:∀{as:List Addr} {ls:pH},l4 K H xs (as++[a]) ls->∃ls0 l,ls=ls0++[l]/\l4 K H xs as ls0/\iU K H l (xs a)
 | [],_,h=>by
  obtain⟨l,r,rfl,q,t⟩:=h
  cases (show r=[] from t)
  exact⟨[],l,rfl,rfl,q⟩
 | b::as,_,h=>by
  obtain⟨l',r',rfl,q,t⟩:=h
  obtain⟨ls0,l,rfl,h1,h2⟩:=l4.split t
  exact⟨l'::ls0,l,rfl,⟨l',ls0,rfl,q,h1⟩,h2⟩
theorem l4.cong{K:W.Frag}{H:Hp}{xs ys:Addr->List V}:∀{as:List Addr} {ls:pH},(∀a∈as,ys a=xs a)->l4 K H xs as ls->l4 K H ys as ls
 | [],_,_,h=>h
 | b::as,_,hb,h=>by
  obtain⟨l',r',e,q,t⟩:=h
  exact⟨l',r',e,by rw[hb b List.mem_cons_self];exact q,l4.cong (fun a ha=>hb a (List.mem_cons_of_mem _ ha)) t⟩
theorem sg{K:W.Frag}{H H2:Hp}{as:List Addr}{ls:pH}{a:Addr}{ds:LD}{vs:List V}(N:pN K H as ls)(hf:H a=none)(s:iX H H2)(ho:H2 a=some (jE a vs))(r:iU K H2 ds vs):pN K H2 (as++[a]) (ls++[ds]):=by
 obtain⟨nd,xs,h1,h2⟩:=N
 have hn:a∉as:=fun z=>by rw[h1 a z] at hf;cases hf
 refine⟨?_,fun b=>if b=a then vs else xs b,fun b hb=>?_,?_⟩
 ·rw[List.nodup_append]
  exact⟨nd,List.nodup_cons.mpr ⟨(fun z=>nomatch z),.nil⟩,fun x hx y hy=>by rw[List.mem_singleton.mp hy];exact fun z=>hn (by rw[<- z];exact hx)⟩
 ·show H2 b=some (jE b (if b=a then vs else xs b))
  by_cases e:b=a
  ·subst e;rw[if_pos rfl];exact ho
  ·rw[if_neg e]
   rcases List.mem_append.mp hb with hb | hb
   ·exact s _ _ (h1 b hb)
   ·exact absurd (List.mem_singleton.mp hb) e
 ·exact l4.snoc (xs:=fun b=>if b=a then vs else xs b) (by rw[if_pos rfl];exact r) (l4.cong (fun b hb=>if_neg fun z=>hn (by rw[<- z];exact hb)) (h2.kp (Kp.of s)))
theorem qi{K:W.Frag}{H:Hp}{ρ:R}{as:List Addr}{σ:L2.St}{a:Addr}(er:kM K H ρ as σ)(hl:ρ.length+as.length<σ.length):kM K H ρ (as++[a]) (σ.set (ρ.length+as.length) (some (.ref a))):=by
 obtain⟨τ,e1,e2⟩:=er
 have hr:(refs as).length=as.length:=List.length_map ..
 have ht:τ ≠ []:=fun z=>by
  have:=congrArg List.length e2
  rw[List.length_drop,List.length_append,z,hr,List.length_nil] at this
  omega
 obtain⟨o,τ',rfl⟩:=List.exists_cons_of_ne_nil ht
 refine⟨τ',⟨by rw[List.length_set];exact e1.1,fun j d hd=>?_⟩,?_⟩
 ·have hj:=(List.getElem?_eq_some_iff.mp hd).1
  obtain⟨v,h1,h2⟩:=e1.2 j d hd
  exact⟨v,by rw[List.getElem?_set_ne (by omega)];exact h1,h2⟩
 ·rw[List.drop_set,if_neg (by omega),e2,show ρ.length+as.length - ρ.length=(refs as).length by omega]
  unfold refs
  rw[List.map_append,List.append_assoc]
  simp
theorem qD{x:Str}{es:List Expr}{F:R->Option LD}{px p1:Pos}{E:Ends}{σ:L2.St}{H:Hp}{ρ:R}{ds:LD}{i:Nat}{u:TS}(hF:SA X es F)(hes:Nat.ble es.length 1000=true)(et:jK X.K H ρ σ)(e0:F ρ=some ds)
  (h:∀a vs H2,H a=none->iX H H2->H2 a=some (jE a vs)->iU X.K H2 ds vs->u E (σ.set i (some (.ref a))) H2):∃ ρ ds,jK X.K H ρ σ/\F ρ=some ds/\∀vs H',iX H H'->iU X.K H' ds vs->(vs.length<=sizeLine/\∀a,H' a=none->(yO u) E (σ.set i (some (.ref a))) (upd H' a (.lst vs))):=by
 refine⟨ρ,ds,et,e0,fun vs H1 s1 r1=>⟨?_,fun a ha=>⟨a,vs,af,?_⟩⟩⟩
 ·have hl1:=hF.2.1 ρ ds e0
  rw[<- r1.length,hl1]
  exact Nat.le_trans (Nat.le_of_ble_eq_true hes) (by decide)
 generalize hH2:upd (upd H1 a (.lst vs)) a (jE a vs)=H2
 have k12:jM a H1 H2:=by
  subst hH2
  exact jM.upd.trans jM.upd
 have ho2:H2 a=some (jE a vs):=by subst hH2;exact af
 have s12:iX H1 H2:=fun b u hb=>k12 b u (fun z=>by rw[z,ha] at hb;cases hb) hb
 have hHa:H a=none:=by
  cases hb:H a with
  | none=>rfl
  | some u=>rw[s1 _ _ hb] at ha;cases ha
 exact h a vs H2 hHa (s1.trans s12) ho2 (r1.mono s12)
theorem yH{x:Str}{es:List Expr}{F:R->Option LD}{px p1:Pos}(i:Nat)(hN:X.N.Nodup)(hF:SA X es F)(h:vX X sts p)(hix:X.N[i]?=some x:=by rfl)(hx:Loc X.env.scope x:=by first | exact Or.inl rfl | exact Or.inr rfl)
  (hes:Nat.ble es.length 1000=true:=by rfl) (hs:swapsWith (.List es p1) (some (.Name x px)) pos.line X.env=pure false:=by rfl) (hf:X.fn x=true\/X.env.scope.names.lookup x=some .local:=by first | exact .inl rfl | exact .inr rfl) :
  vX X (.Assign [.Name x px] (.List es p1) pos::sts) (oR i F p):=by
 intro pins s σ H E I ⟨ρ,as,ls,o,ls',er,N,e,qq⟩
 unfold oR at e
 split at e
 case isFalse=>cases e
 case isTrue hi =>
 obtain⟨ds,e0,e⟩:=iS e
 obtain⟨⟨o1,ls1⟩,e1,e⟩:=iS e
 match o1,e,e1 with
 | .rt d,e,e1 =>
 cases e
 have hil:ρ.length+as.length<σ.length:=by
  have h1:=(List.getElem?_eq_some_iff.mp hix).1
  have h2:=I.len
  rw[<- N.len]
  omega
 have hi':i=ρ.length+as.length:=by rw[<- N.len];exact hi.symm
 obtain⟨τ0,et⟩:=id er
 refine(aL (bR (i:=i) hN hix hx (cC hF.1) hs hf) (dJ h)) pins s σ H E I (qD (x:=x) (px:=px) (p1:=p1) hF hes et.1 e0 fun a vs H2 hHa s02 ho2 r2=>⟨ρ,as++[a],ls++[ds],.rt d,ls1,by rw[hi'];exact(qi er hil).mono s02,sg N hHa s02 ho2 r2,e1,fun H3 k3 N3=>?_⟩)
 have sm3:m9 as H H3:=fun b u hb e=>k3 b u (fun z=>by
  rcases List.mem_append.mp z with z | z
  ·exact hb z
  ·rw[List.mem_singleton.mp z,hHa] at e;cases e) (s02 _ _ e)
 obtain⟨nd3,xs3,g1,g2⟩:=id N3
 obtain⟨ls0,l,els,g3,g4⟩:=g2.split
 refine qq H3 sm3 ?_
 rw[els,List.dropLast_concat]
 exact⟨(List.nodup_append.mp nd3).1,xs3,fun b hb=>g1 b (List.mem_append_left _ hb),g3⟩
theorem zd{g:R->Option Out}(h:SS X sts g):vX X sts (oZ g):=by
 intro pins s σ H E I ⟨ρ,as,ls,o,ls',er,⟨nd,xs,h1,h2⟩,e,qq⟩
 obtain⟨o1,e1,e⟩:=iS e
 match o1,e,e1 with
 | .rt d,e,e1 =>
 dsimp only at e
 split at e
 case isFalse=>cases e
 case isTrue hn =>
 cases e
 refine jy (h pins s σ _ {nx:=fun _ _=>False,rt:=fun v H2=>Rep X.K H2 d v/\iX (l_ H as fun a=>.lst (xs a)) H2} (oq nd I h1) ⟨rq ρ ls,_,.rt d,(dL er (tQ h1) (fun a ha=>kq ha) h2).t,e1,fun H' s' v rv=>⟨rv,s'⟩⟩) fun fl s2 w=>?_
 cases fl with
 | next=>obtain⟨_,_,_,q'⟩:=w;exact q'.elim
 | brk=>obtain⟨_,_,_,q'⟩:=w;exact q'.elim
 | cont=>obtain⟨_,_,_,q'⟩:=w;exact q'.elim
 | ret u =>
  obtain⟨v,σ',H2,I2,rv,rd,sm⟩:=w
  have N3:pN X.K (l_ H2 as fun a=>jE a (xs a)) as ls:=⟨nd,xs,fun a ha=>kq ha,h2.kp (Kp.of (bw h1 sm))⟩
  refine⟨v,σ',_,om nd I2 (fun a ha=>sm _ _ (kq ha)),rv,qq _ (m9.of (bw h1 sm)) N3 v (Rep.nol (fun b w eb n=>?_) hn rd)⟩
  have hb:b∉as:=fun hb=>by
   rw[sm _ _ (kq (f:=fun a=>HO.lst (xs a)) hb)] at eb
   exact n _ (Option.some.inj eb).symm
  rw[lO hb];exact eb
theorem AQ{x:Str}{es:List Expr}{F:R->Option LD}{px p1:Pos}(i:Nat)(hN:X.N.Nodup)(hF:SA X es F)(h:vX X sts p)(hix:X.N[i]?=some x:=by rfl)(hx:Loc X.env.scope x:=by first | exact Or.inl rfl | exact Or.inr rfl)
  (hes:Nat.ble es.length 1000=true:=by rfl) (hs:swapsWith (.List es p1) (some (.Name x px)) pos.line X.env=pure false:=by rfl) (hf:X.fn x=true\/X.env.scope.names.lookup x=some .local:=by first | exact .inl rfl | exact .inr rfl) :
  SS X (.Assign [.Name x px] (.List es p1) pos::sts) (yC i F p):=by
 intro pins s σ H E I ⟨ρ,τ,o,er,e,qq⟩
 unfold yC at e
 split at e
 case isFalse=>cases e
 case isTrue hi =>
 obtain⟨ds,e0,e⟩:=iS e
 obtain⟨⟨o1,ls1⟩,e1,e⟩:=iS e
 match o1,e,e1 with
 | .rt d,e,e1 =>
 cases e
 have hl:(ρ.take i).length=i:=by rw[List.length_take];omega
 have hσ:=er.1.1
 have er0:kM X.K H (ρ.take i) [] σ:=by
  refine⟨σ.drop i,⟨by omega,fun j d' hd'=>?_⟩,by rw[hl];rfl⟩
  have hj:j<i:=by have:=(List.getElem?_eq_some_iff.mp hd').1;omega
  rw[List.getElem?_take_of_lt hj] at hd'
  exact er.1.2 j d' hd'
 have N0:pN X.K H [] []:=⟨.nil,fun _=>[],(fun a ha=>nomatch ha),rfl⟩
 obtain⟨τ0,et⟩:=id er0
 refine(aL (bR (i:=i) hN hix hx (cC hF.1) hs hf) (dJ h)) pins s σ H E I (qD (x:=x) (px:=px) (p1:=p1) hF hes et.1 e0 fun a vs H2 hHa s02 ho2 r2=>⟨ρ.take i,[a],[ds],.rt d,ls1,?_,sg N0 hHa s02 ho2 r2,e1,fun H3 k3 N3 v rv=>?_⟩)
 ·have z:=qi (a:=a) er0 (by show(ρ.take i).length+0<_;omega)
  have e9:(ρ.take i).length+([]:List Addr).length=i:=by rw[hl];rfl
  rw[e9] at z
  exact z.mono s02
 ·exact qq H3 (fun b u e=>k3 b u (fun z=>by rw[List.mem_singleton.mp z,hHa] at e;cases e) (s02 _ _ e)) v rv
end
section
variable{prog:Program}{w:World}{A:Around}{E:Value->Shared->Prop}{s:Shared}{d it:Addr}{o:Obj}{es:Array DictEntry}{ep i:Nat}
end
section
variable{X:Cx}{a:Expr}{f:R->OD}
end
section
variable{prog:Program}{w:World}{A:Around}{E:Value->Shared->Prop}{s:Shared}
variable{Good:Heap->Nat->Prop}{z TI TO i1 i2 T:Addr}{f:Bool}{st1 st1' st2 st2':Heap->Prop}{P1 P2:Value->Prop}
end
end HW
namespace HW
open PySem PySem.Calls PySem.Spec PyProof.Rows L2
section
variable{X:Cx}{pins:List (Addr×Obj)}{σ:L2.St}{H1:Hp}{xs ys:LD}{S T:Src}{z TI TO i1 i2 L:Addr}
variable(D:Ap z TI TO i1 i2)(hL:L≠z/\L≠TI/\L≠TO/\L≠i1/\L≠i2)(hfp:∀c ∈ [z,TI,TO,i1,i2,L],my X pins H1 c)(dS:t9 X.K H1 xs S)(dT:t9 X.K H1 ys T)(hlen:xs.length=ys.length)
include D hL hfp dS dT hlen
end
section
variable{X:Cx}
end
end HW
namespace HW
open PySem
section
open Builtin Builtin.Str
end
end HW
namespace HW
open PySem PySem.Spec PyProof.Rows L2
section
variable{prog:Program}{w:World}{A:Around}{R':Result->Shared->Prop}{I:Addr}{fp wr:List Addr}{n:Nat}{St:Nat->Heap->Prop}{xs:List Str}
abbrev PK(xs:List Str)(i:Nat)(v:Value):Prop:=∃x t,xs[i]?=some x/\v=.str x t
theorem PK.get{i:Nat}{v:Value}(h:PK xs i v):∃t,v=.str (xs.getD i Str.empty) t:=by
 obtain⟨x,t,h1,rfl⟩:=h
 exact⟨t,by rw[List.getD_eq_getElem?_getD,h1];rfl⟩
end
section
variable{prog:Program}{w:World}{A:Around}{E:Value->Shared->Prop}{s:Shared}
end
section
variable{X:Cx}
end
theorem wN{X:Cx}{t:lL}{ct:jZ}{x y:Str}{c d:Addr}{j l:Nat}(TB:kc X.mg [ct] X.base)(hT:X.H₀ ct.P=some (.tbl ct.q false))(tq:t.q=ct.q)(code:X.env.code=.ref ct.c)(qual:X.env.qual ++ "<lambda>" = ct.q)
  (fn:∀x,X.fn x=true) (hcl:closureFor t.scope X.env=pure [(x,c),(y,d)]) (hdf:defaultsOf t.params X.env=([],[])) (hcell:X.env.cells.lookup x=some c) (hk:X.env.scope.names.lookup x=some .cell) (hN:X.N[j]?=some x)
  (hcell2:X.env.cells.lookup y=some d) (hk2:X.env.scope.names.lookup y=some .cell) (hN2:X.N[l]?=some y) (hxy:x≠y) (hcd:c≠d)
  (kd:t.scope.kind=.function) (co:t.scope.isCoroutine=false) (gen:t.scope.isGenerator=false) (nd:t.N.Nodup) (hn:t.N=t.ps++[x,y]) (par:∀y∈t.ps,t.scope.names.lookup y=some .local) (noc:∀y∈t.scope.names,y.2≠.cell)
  (fre:t.scope.names.lookup x=some .free) (fre2:t.scope.names.lookup y=some .free) (only:∀z∈t.scope.names,z.2=.free->z.1=x\/z.1=y):t5 X t [(x,c),(y,d)] ct [j,l]:=by
 have hdr:t.N.drop t.ps.length=[x,y]:=by rw[hn,List.drop_left]
 have lk:∀z c',List.lookup z [(x,c),(y,d)]=some c'->(z=x/\c'=c)\/(z=y/\c'=d):=fun z c' h=>by
  rw[List.lookup_cons] at h
  cases q:z==x with
  | true=>rw[q] at h;cases h;exact .inl ⟨eq_of_beq q,rfl⟩
  | false =>
   rw[q] at h
   have h':List.lookup z [(y,d)]=some c':=h
   rw[List.lookup_cons] at h'
   cases q2:z==y with
   | true=>rw[q2] at h';cases h';exact .inr ⟨eq_of_beq q2,rfl⟩
   | false=>rw[q2] at h';cases h'
 have lkx:List.lookup x [(x,c),(y,d)]=some c:=by rw[List.lookup_cons];simp
 have lky:List.lookup y [(x,c),(y,d)]=some d:=by
  rw[List.lookup_cons]
  have:(y==x)=false:=by simpa using Ne.symm hxy
  rw[this]
  show List.lookup y [(y,d)]=some d
  rw[List.lookup_cons];simp
 have ndc:([(x,c),(y,d)].map (·.1)).Nodup:=by simp[hxy]
 refine⟨TB,hT,tq,code,qual,hcl,hdf,⟨fn,ndc,fun z c' h=>?_⟩,⟨kd,co,gen,nd,by rw[hn,List.take_left],par,noc,fun z hz=>?_,fun z hz=>?_,ndc,fun z w c' h1 h2=>?_⟩,by rw[hdr];simp[hN,hN2],fun z c' h=>?_⟩
 ·rcases lk z c' h with ⟨rfl,rfl⟩ | ⟨rfl,rfl⟩
  ·exact⟨hcell,hk⟩
  ·exact⟨hcell2,hk2⟩
 ·rw[hdr] at hz
  simp only[List.mem_cons,List.not_mem_nil,or_false] at hz
  rcases hz with rfl | rfl
  ·exact fre
  ·exact fre2
 ·rcases only _ (PySem.mem_of_lookup hz) rfl with h | h
  ·rw[show z=x from h];exact⟨c,lkx⟩
  ·rw[show z=y from h];exact⟨d,lky⟩
 ·rcases lk z c' h1 with ⟨a,b⟩ | ⟨a,b⟩<;>rcases lk w c' h2 with ⟨a',b'⟩ | ⟨a',b'⟩
  ·rw[a,a']
  ·exact absurd (b.symm.trans b') hcd
  ·exact absurd (b'.symm.trans b) hcd
  ·rw[a,a']
 ·rw[hdr]
  rcases lk z c' h with ⟨rfl,_⟩ | ⟨rfl,_⟩<;>simp
end HW
namespace HW
open PySem
def qX(c:R->Option Bool)(p:R->Option Out):Nat->R->Option Out
 | 0,_=>none
 | n+1,ρ=>(c ρ).bind fun b=>if b then (p ρ).bind fun r=>match r with
  | .nx ρ1=>qX c p n ρ1
  | .ct ρ1=>qX c p n ρ1
  | .bk ρ1=>some (.nx ρ1)
  | .rt d=>some (.rt d)
  else some (.nx ρ)
def kC:LD->OD
 | [.lst es,x]=>if j7 x<=100/\j6 x=true/\ka es=true/\es.length<=1000 then (if es.findIdx (fun y=>l8 y x)<es.length then some (.int ((es.findIdx (fun y=>l8 y x):Nat):Int)) else none) else none
 | _=>none
def wQ:D->D->Option Bool
 | .str x,.str y=>some (decide (y.cps.toList<x.cps.toList))
 | _,_=>none
def tP:LD->OD
 | [.dct ks _]=>(oP ks).bind fun ns=>if ns.length<=1000 then some (.lst (ns.map .int)) else none
 | _=>none
end HW
namespace HW
open PySem PySem.Spec PyProof.Rows L2
section
variable{X:Cx}{pos:Pos}
theorem fD{c:Expr}{B:List Stmt}{s:R->Option Bool}{u:R->Option Out}(n:Nat)(hp:PassesOwn (model X.prog X.w) X.A X.env X.xe)(hc:ST X c s)(hb:SS X B u):S1 X (.While c B [] pos) (qX s u n):=(cS hp hc hb).imp fun E σ H ⟨ρ,τ,o,er,e,q⟩=>by
 refine⟨fun m σ' H'=>∃ ρ',jC X.K H' ρ' τ σ'/\iX H H'/\qX s u m ρ'=some o,⟨n,ρ,er,iX.refl _,e⟩,?_⟩
 rintro m σ' H' ⟨ρ',er',k',e'⟩
 cases m with
 | zero=>cases e'
 | succ m =>
  obtain⟨b,e1,e'⟩:=iS e'
  refine⟨ρ',b,er'.1,e1,fun H1 s1=>?_⟩
  cases b with
  | false =>
   rw[if_neg Bool.false_ne_true] at e' ⊢
   cases e'
   exact q H1 (k'.trans s1) σ' (er'.mono s1)
  | true =>
   rw[if_pos rfl] at e' ⊢
   obtain⟨o1,e3,e'⟩:=iS e'
   refine⟨fun σ2 H2=>∃ ρ',jC X.K H2 ρ' τ σ2/\iX H H2/\qX s u m ρ'=some o,fun σ2 H2 z=>⟨m,Nat.lt_succ_self _,z⟩,ρ',τ,o1,er'.mono s1,e3,fun H5 k5=>?_⟩
   have k15:iX H H5:=k'.trans (s1.trans k5)
   cases o1 with
   | nx ρ2=>exact fun σ6 er6=>⟨ρ2,er6,k15,e'⟩
   | ct ρ2=>exact fun σ6 er6=>⟨ρ2,er6,k15,e'⟩
   | bk ρ2=>cases e';exact fun σ6 er6=>q H5 k15 σ6 er6
   | rt d=>cases e';exact q H5 k15
theorem xg{h:Heap}:∀{xs:List PyData} {vs:List Value} {as:List Addr},PyData.canLayAll0 xs=true->ReadsAll h vs xs as->∀{j:Nat} {v:Value},vs[j]?=some v->∃x,xs[j]?=some x/\SeqAt.readOf h v=x:=fun {xs vs as} hc r {j v} e=>by
 have z:=SeqAt.readsAll_map xs vs as hc r
 have:(vs.map (SeqAt.readOf h))[j]?=some (SeqAt.readOf h v):=by rw[List.getElem?_map,e];rfl
 rw[z] at this
 exact⟨_,this,rfl⟩
theorem nq:∀ds:LD,jt ds=ds.map toPy
 | []=>rfl
 | d::ds=>by rw[jt,nq ds,List.map_cons]
theorem gI{es:LD}(h:jF es=true){j:Nat}{d:D}(e:es[j]?=some d):lp d=true:=by
 induction es generalizing j with
 | nil=>cases e
 | cons x es ih =>
  have h':(lp x&&jF es)=true:=h
  rw[Bool.and_eq_true] at h'
  cases j with
  | zero=>cases e;exact h'.1
  | succ j=>exact ih h'.2 e
theorem gv{k:Nat}(hr:jo k X.A):Cv X "list.index" kC:=by
 intro pins s σ H x vs v us Q I rx rv h
 obtain⟨dx,ds,d,r1,r2,e,q⟩:=h
 match dx,ds,e with
 | .lst es,[y],e =>
  have e':(if j7 y<=100/\j6 y=true/\ka es=true/\es.length<=1000 then (if es.findIdx (fun z=>l8 z y)<es.length then some (D.int ((es.findIdx (fun z=>l8 z y):Nat):Int)) else none) else none)=some d:=e
  split at e'
  case isFalse=>cases e'
  case isTrue hd =>
  split at e'
  case isFalse=>cases e'
  case isTrue hj =>
  cases e'
  obtain⟨a,xs,rfl,ha,rr⟩:=r1
  cases (show v=_ from rx)
  obtain⟨u,r',rfl,k1,r2⟩:=r2
  cases (show r'=[] from r2)
  obtain⟨u',rfl,t2⟩:=rv.one
  obtain⟨_,its,n,rv2,hl,eo⟩:=I.lstM ha
  obtain⟨as,ra⟩:=kP I (aF hd.2.1) k1 t2
  have hle:j6 (.lst es)=true:=hd.2.2.1
  have hne:jF es=true:=aF hle
  obtain⟨bs,rb⟩:=lj I hne rr rv2
  have hcl:=cb es hd.2.2.1
  have hlen:its.length=es.length:=by
   have z:=congrArg List.length (SeqAt.readsAll_map _ _ _ hcl rb)
   rw[List.length_map,nq,List.length_map] at z
   exact z
  have at_j:∀(j:Nat) (hj:j<its.length) (hj2:j<es.length),PyData.eqv (SeqAt.readOf s.heap its[j]) (toPy y)=l8 es[j] y:=fun j hj hj2=>by
   obtain⟨p,hp,hq⟩:=xg hcl rb (j:=j) (v:=its[j]) (List.getElem?_eq_getElem hj)
   rw[nq,List.getElem?_map,List.getElem?_eq_getElem hj2] at hp
   rw[hq,<- Option.some.inj hp,qZ _ _ (gI hne (List.getElem?_eq_getElem hj2)) (aF hd.2.1)]
  have hu:X.A.units+1+min (PyData.depthAll (jt es)) (toPy y).depth<cLine:=by
   have h1:=hr.un
   have h2:min (PyData.depthAll (jt es)) (toPy y).depth<=100:=by rw[ee y (aF hd.2.1)];omega
   omega
  refine call_meets PySem.F.slot_list_index ⟨_,eo,rfl⟩ PySem.F.entry_list_index (PySem.F.args_list_index_2 _ _)
   (PySem.SeqAt.list_indexAt a its.toArray n none _ u' (fun z=>PyData.eqv (SeqAt.readOf s.heap z) (toPy y)) (es.findIdx fun z=>l8 z y) (by simpa [hlen] using hj) (by omega) ?_ ?_) ⟨eo,SeqAt.items_eqAt rb ra hcl (cx y hd.2.1) hu,?_⟩
  ·show PyData.eqv (SeqAt.readOf s.heap its[es.findIdx fun z=>l8 z y]) (toPy y)=true
   rw[at_j _ (by omega) hj]
   exact List.findIdx_getElem (w:=hj)
  ·intro j hjs hlt
   show PyData.eqv (SeqAt.readOf s.heap its[j]) (toPy y)=false
   rw[at_j j (by simpa using hjs) (by omega)]
   exact Bool.eq_false_iff.mpr (by simpa using List.not_of_lt_findIdx hlt)
  ·exact⟨.int _,H,I.tok _,⟨_,rfl⟩,q _ H (iX.refl H) rfl⟩
theorem v5{x:D}{ds:LD}{d:D}(h:kC (x::ds)=some d):∃es,x=.lst es:=by
 cases x with
 | lst z=>exact⟨z,rfl⟩
 | _=>cases h
theorem dC{k:Nat}(hr:jo k X.A){a e:Expr}{es:List Expr}{f:R->OD}{F:R->Option LD}{ap cp:Pos}(ha:SE X a f)(hF:SA X (e::es) F)
  (hbase:attributeBase a "index" X.env (eval a X.env)=eval a X.env:=by rfl)
  (hfew:((backTo cp (starEach (e::es) X.env)).all (fun x=>!x.1)&&(backToKw cp (keywordEach [] X.env)).all (fun x=>x.1.isSome)&&decide ((e::es).length+([]:List Keyword).length+(if ([]:List Keyword).isEmpty then 0 else 1)<30))=true:=by rfl)
  (hline:(ap.endLine==cp.line)=true:=by rfl):SE X (.Call (.Attribute a "index" ap) (e::es) [] cp) (iR kC (e8 f F)):=by
 have hst:=hF.2.2
 rw[List.all_cons,Bool.and_eq_true] at hst
 refine(gY (T:="list") PySem.F.plainAttrs_list PySem.F.slot_list_index PySem.F.type_list_index (gv hr) ha hF.1 hbase hfew hline (aw es X.env hst.1) (aZ (pos:=cp) (env:=X.env) hst.2)).imp fun σ H Q ⟨ρ,d,er,e,q⟩=>?_
 obtain⟨dd,e1,e⟩:=iS e
 obtain⟨x,e2,e1⟩:=iS e1
 obtain⟨ds,e3,e1⟩:=jS e1
 subst e1
 obtain⟨es,rfl⟩:=v5 e
 exact⟨ρ,_,er,e2,fun v H1 s1 r1=>⟨by obtain⟨a,xs,rfl,ha,rr⟩:=r1;exact .inl ⟨rfl,xs,.inl (.inl ha)⟩,ρ,ds,er.mono s1,e3,fun vs H2 s2 r2=>⟨.lst es,ds,d,r1.mono s2,r2,e,fun u H3 s3 r3=>q u H3 (s1.trans (s2.trans s3)) r3⟩⟩⟩
theorem ij:xN X .Gt wQ:=by
 intro pins s σ H x y v u Q I rx ry h
 obtain⟨dx,dy,b,r1,r2,e,q⟩:=h
 match dx,dy,e with
 | .str i,.str j,e =>
  cases e
  cases (show x=_ from r1)
  cases (show y=_ from r2)
  obtain⟨t,rfl⟩:=rx
  obtain⟨t',rfl⟩:=ry
  exact PySem.P.gt_str ⟨.bl _,H,I,rfl,q⟩
theorem f_{e:Expr}{f:R->OD}{p pos:Pos}(hc:X.calm=true)(hm:X.mg "list" = none)(he:SE X e f)(hg:Gl X "list":=by rfl)(hst:noStar e=true:=by rfl) :
  SE X (.Call (.Name "list" p) [e] [] pos) (iR tP (e8 f iQ)):=by
 intro pins s σ H Q I ⟨ρ,d,er,eq,q⟩
 obtain⟨ds,e1,e2⟩:=iS eq
 have hst1:=aw [] X.env hst
 have PAA:=(aa he ad hst).1 pos pins s σ H (fun vs H2=>iX H H2/\iU X.K H2 ds vs) I ⟨ρ,ds,er,e1,fun vs H2 s2 r2=>⟨s2,r2⟩⟩
 refine Call_ (c_ I hg hm boot_list ?_)
 refine PyProof.Rows.callWith_type1 (jy PAA fun us s1 ⟨vs,H1,I1,r1,s01,rp⟩=>?_) hst1 rfl
 match ds,e2 with
 | [.dct ks dd],e2 =>
  obtain⟨ns,e3,e4⟩:=iS (show(oP ks).bind _=some d from e2)
  split at e4
  case isFalse=>cases e4
  case isTrue hn =>
  cases e4
  obtain⟨v,r',rfl,⟨a,xs,rfl,⟨hl,o,hq⟩,rx⟩,rr⟩:=rp
  cases (show r'=[] from rr)
  obtain⟨u,rfl,ru⟩:=r1.one
  cases (show u=_ from ru)
  obtain⟨lo,ws,es,ep,rk,g,hd,hat⟩:=wL I1.hok hq
  have hk:ws.map (·.1)=ns.map Sum.inl:=by
   rw[<- uz rk,<- tE e3,List.map_fst_zip]
   omega
  have hl2:ws.length=ns.length:=by have:=congrArg List.length hk;rw[List.length_map,List.length_map] at this;exact this
  refine W.kdl_call (W.kdl_dict lo) (I1.ok.hd hc) hat (by rw[hl2,sizeLine_eq];omega) fun h' tk acc c' hkp hS' hacc=>?_
  have hal:acc.toList.length=ns.length:=by rw[Array.length_toList,hacc.1,hl2]
  have hI:IntsAre acc.toList ns:=eR hal fun j v n h1 h2=>by
   obtain⟨k,x,e1,e2⟩:=hacc.2 j v (by rw[<- Array.getElem?_toList];exact h1)
   have e3:(ws.map (·.1))[j]?=some k:=by rw[List.getElem?_map,e1];rfl
   rw[hk,List.getElem?_map,h2] at e3
   have e4:Sum.inl n=k:=Option.some.inj e3
   subst e4
   rcases jp (show oM (Sum.inl n) v=true from e2) with ⟨i,t,e5,rfl⟩ | ⟨y,t,e5,_⟩
   ·cases e5;exact⟨t,rfl⟩
   ·cases e5
  have hf:H1 s1.heap.objs.size=none:=I1.hok.fresh (Nat.le_refl _)
  obtain⟨v1,v2⟩:=cu (K:=X.K) (H:=upd H1 s1.heap.objs.size (.lst (ns.map V.int))) hI
  refine⟨.ref s1.heap.objs.size,upd H1 s1.heap.objs.size (.lst (ns.map V.int)),I1.laid (t':=tk) hkp (Nat.le_refl _) ⟨by rw[List.length_map,sizeLine_eq];omega,acc.toList,c',v1,by rw[hS']⟩,rfl,?_⟩
  refine q _ _ (s01.trans fun b u hb=>?_) ⟨_,_,rfl,af,v2⟩
  rw[ai fun z=>by rw[z,hf] at hb;cases hb]
  exact hb
end
end HW
namespace HW
open PySem
inductive jn | none | hour | minute | zero | ahour | aminute | alarm | run | lap | cminute | csecond | full | count
 deriving DecidableEq,Inhabited
inductive vA | a | b | c
 deriving DecidableEq,Inhabited
inductive Face | time | alarm | laps | count
 deriving DecidableEq,Inhabited
def jn.x:jn->Str
 | .none=>oS "none" | .hour=>oS "hour" | .minute=>oS "minute" | .zero=>oS "zero" | .ahour=>oS "ahour" | .aminute=>oS "aminute" | .alarm=>oS "alarm"
 | .run=>oS "run" | .lap=>oS "lap" | .cminute=>oS "cminute" | .csecond=>oS "csecond" | .full=>oS "full" | .count=>oS "count"
def vA.x:vA->Str
 | .a=>oS "a" | .b=>oS "b" | .c=>oS "c"
def vA.X:vA->Str
 | .a=>oS "A" | .b=>oS "B" | .c=>oS "C"
def vA.ix:vA->Nat
 | .a=>0 | .b=>1 | .c=>2
def Face.x:Face->Str
 | .time=>oS "time" | .alarm=>oS "alarm" | .laps=>oS "laps" | .count=>oS "count"
structure Md where
 face:Face
 stays:Bool
 rows:List (jn×Nat)
 deriving Inhabited
structure Bk where
 hold:Int
 back:Int
 modes:List Md
structure WS where
 mode:Nat
 clock:Int
 ah:Int
 am:Int
 aon:Bool
 lm:Int
 lr:Bool
 lk:List Int
 cm:Int
 cs:Int
 cl:Int
 cr:Bool
 ring:Int
 held:Option (vA×Option Int)
 idle:Int
def je(r:jn×Nat):D:=.tup [.str r.1.x,.int (r.2:Int)]
def Md.d(m:Md):D:=.tup [.str m.face.x,.bl m.stays,.tup (m.rows.map je)]
def Bk.d(b:Bk):D:=.tup [.int b.hold,.int b.back,.tup (b.modes.map Md.d)]
def BO:Option Int->D
 | .none=>.non
 | .some k=>.int k
def AE:Option (vA×Option Int)->D
 | .none=>.non
 | .some (x,k)=>.tup [.str x.x,BO k]
def WS.alarmD(s:WS):D:=.tup [.int s.ah,.int s.am,.bl s.aon]
def WS.lapsD(s:WS):D:=.tup [.int s.lm,.bl s.lr,.tup (s.lk.map .int)]
def WS.countD(s:WS):D:=.tup [.int s.cm,.int s.cs,.int s.cl,.bl s.cr]
def WS.d(s:WS):D:=.tup [.int (s.mode:Int),.int s.clock,s.alarmD,s.lapsD,s.countD,.int s.ring,AE s.held,.int s.idle]
structure Md.Ok (n:Nat) (m:Md):Prop where
 six:m.rows.length=6
 nx:∀r∈m.rows,r.2<n
structure Bk.Ok (b:Bk):Prop where
 hold1:1<=b.hold
 hold9:b.hold<=9
 back0:0<=b.back
 back60:b.back<=60
 some1:1<=b.modes.length
 some8:b.modes.length<=8
 all:∀m∈b.modes,m.Ok b.modes.length
structure WS.Wk (b:Bk) (s:WS):Prop where
 bk:0<=b.back
 mode:s.mode<b.modes.length
 clock0:0<=s.clock
 clock1:s.clock<86400
 ah0:0<=s.ah
 ah1:s.ah<24
 am0:0<=s.am
 am1:s.am<60
 lm0:0<=s.lm
 lk:s.lk.length<=4
 cm0:0<=s.cm
 cm1:s.cm<60
 cs0:0<=s.cs
 cs1:s.cs<60
 cl0:0<=s.cl
 cl1:s.cl<3600
 cr:s.cr=true->0<s.cl
 ring0:0<=s.ring
 ring1:s.ring<=10
 idle0:0<=s.idle
 idle1:0<b.back->s.idle<b.back
 idle2:b.back=0->s.idle=0
structure WS.Ok (b:Bk) (s:WS):Prop extends WS.Wk b s where
 held:∀x k,s.held=some (x,some k)->0<=k/\k<b.hold
def ti(s:WS)(m c:Int):WS:=if s.cr then s else {s with cm:=m,cs:=c,cl:=60*m+c,cr:=false}
def deed:jn->WS->WS
 | .none,s=>s
 | .hour,s=>{s with clock:=(s.clock+3600)%86400}
 | .minute,s=>{s with clock:=s.clock - s.clock%3600+(s.clock%3600+60)%3600}
 | .zero,s=>{s with clock:=s.clock - s.clock%60}
 | .ahour,s=>{s with ah:=(s.ah+1)%24}
 | .aminute,s=>{s with am:=(s.am+1)%60}
 | .alarm,s=>{s with aon:=!s.aon}
 | .run,s=>{s with lr:=!s.lr}
 | .lap,s=>if s.lr then (if 4<=s.lk.length then s else {s with lk:=s.lk++[s.lm]}) else {s with lm:=0,lk:=[]}
 | .cminute,s=>ti s ((s.cm+1)%60) s.cs
 | .csecond,s=>ti s s.cm ((s.cs+1)%60)
 | .full,s=>ti s s.cm s.cs
 | .count,s=>{s with cr:=!s.cr&&decide (0<s.cl)}
def Bk.row(b:Bk)(m i:Nat):jn×Nat:=(b.modes.getD m default).rows.getD i (.none,0)
def A_(b:Bk)(s:WS)(i:Nat):WS:={deed (b.row s.mode i).1 s with mode:=(b.row s.mode i).2}
def mx(i j:Int):Int:=if j > i then j else i
def WS.sec(s:WS):Int:=3600*s.ah+60*s.am
def vt(s:WS):Option Int:=if s.aon then some ((s.sec - s.clock - 1)%86400+1) else none
def vK(s:WS):Option Int:=if s.cr then some s.cl else none
def v_(s:WS)(n:Int):Option Int:=
 match vt s,vK s with
 | some a,some c=>if a<=n then (if c<=n then some (mx (n - (n - a)%86400) c) else some (n - (n - a)%86400)) else (if c<=n then some c else none)
 | some a,none=>if a<=n then some (n - (n - a)%86400) else none
 | none,some c=>if c<=n then some c else none
 | none,none=>none
def zM(s:WS)(n:Int):Int:=
 match v_ s n with
 | none=>mx 0 (s.ring - n)
 | some l=>mx 0 (10 - (n - l))
def zN(h:Option (vA×Option Int))(n:Int):Option (vA×Option Int):=
 match h with
 | some (x,some k)=>some (x,some (k+n))
 | h=>h
def wd(b:Bk)(s:WS):Int:=mx 1 (b.back - s.idle)
def zb(b:Bk)(s:WS)(n:Int):Int:=
 if s.held.isSome\/b.back=0 then s.idle else if n<wd b s then s.idle+n else (n - wd b s)%b.back
def Ar(s:WS)(n:Int):Int:=if s.lr then s.lm+n else s.lm
def Al(s:WS)(n:Int):Int:=if s.cr then mx 0 (s.cl - n) else s.cl
def runsOn(s:WS)(n:Int):Bool:=s.cr&&decide (0<mx 0 (s.cl - n))
def yi(b:Bk)(s:WS)(n:Int):WS:=
 {s with clock:=(s.clock+n)%86400,lm:=Ar s n,cl:=Al s n,cr:=runsOn s n,ring:=zM s n,held:=zN s.held n,idle:=zb b s n}
def turned(b:Bk)(s:WS):WS:=
 match s.held with
 | none=>{s with mode:=0}
 | some (x,_)=>A_ b {s with held:=some (x,none)} (x.ix+3)
def behind(b:Bk)(s:WS)(t:Int):WS:=turned b (yi b s t)
inductive Ev | down (x:vA) | up (x:vA) | ticks (n:Int)
 deriving DecidableEq
def Ev.d:Ev->D
 | .down x=>.tup [.str (oS "down"),.str x.x]
 | .up x=>.tup [.str (oS "up"),.str x.x]
 | .ticks n=>.tup [.str (oS "ticks"),.int n]
theorem pw(a:Int){b:Int}(h:0<b):a%b<b:=Int.emod_lt_of_pos a h
theorem oJ(a:Int){b:Int}(h:0<b):0<=a%b:=Int.emod_nonneg a (by omega)
theorem WS.Wk.set{b:Bk}{s:WS}(w:s.Wk b){m c:Int}(m0:0<=m)(m1:m<60)(c0:0<=c)(c1:c<60):(ti s m c).Wk b:=by
 unfold ti
 split
 ·exact w
 ·exact {w with cm0:=m0,cm1:=m1,cs0:=c0,cs1:=c1,cl0:=(by show 0<=60*m+c;omega),cl1:=(by show 60*m+c<3600;omega),cr:=fun h=>by cases h}
theorem WS.Wk.dd{b:Bk}{s:WS}(w:s.Wk b)(d:jn):(deed d s).Wk b:=by
 have c0:=w.clock0;have c1:=w.clock1
 cases d with
 | none=>exact w
 | hour=>exact {w with clock0:=oJ _ (by decide),clock1:=pw _ (by decide)}
 | minute=>exact {w with clock0:=(by show 0<=s.clock - s.clock%3600+(s.clock%3600+60)%3600;omega),clock1:=(by show s.clock - s.clock%3600+(s.clock%3600+60)%3600<86400;omega)}
 | zero=>exact {w with clock0:=(by show 0<=s.clock - s.clock%60;omega),clock1:=(by show s.clock - s.clock%60<86400;omega)}
 | ahour=>exact {w with ah0:=oJ _ (by decide),ah1:=pw _ (by decide)}
 | aminute=>exact {w with am0:=oJ _ (by decide),am1:=pw _ (by decide)}
 | alarm=>exact {w with}
 | run=>exact {w with}
 | lap =>
  show(if s.lr then (if 4<=s.lk.length then s else {s with lk:=s.lk++[s.lm]}) else {s with lm:=0,lk:=[]}:WS).Wk b
  split
  ·split
   ·exact w
   ·exact {w with lk:=(by show(s.lk++[s.lm]).length<=4;simp;omega)}
  ·exact {w with lm0:=Int.le_refl 0,lk:=Nat.zero_le _}
 | cminute=>exact w.set (oJ _ (by decide)) (pw _ (by decide)) w.cs0 w.cs1
 | csecond=>exact w.set w.cm0 w.cm1 (oJ _ (by decide)) (pw _ (by decide))
 | full=>exact w.set w.cm0 w.cm1 w.cs0 w.cs1
 | count =>
  have hc:(!s.cr&&decide (0<s.cl))=true->0<s.cl:=fun h=>by simp at h;exact h.2
  exact {w with cr:=hc}
def Ev.Ok:Ev->Prop
 | .ticks n=>1<=n
 | _=>True
abbrev Pr:=vA×Bool
def Pr.x(p:Pr):Str:=if p.2 then p.1.X else p.1.x
def Pr.ix(p:Pr):Nat:=if p.2 then p.1.ix+3 else p.1.ix
def Pr.code(p:Pr):Nat:=(if p.2 then 65 else 97)+p.1.ix
end HW
set_option maxRecDepth 10000
namespace HW
open PySem
noncomputable section
def top(i:Nat):Stmt:=PySem.Challenge.pw_handwatch_k52_least.main.body.getD i (.Pass ⟨0,0,0,0⟩)
def uc:lL:=AV "least.<locals>.<lambda>" ["head","modes","heads"] ["head"] (eA 1 (eA 0 (sV (sB 2 (top 8)))))
def aJ:D:=.tup [.str (oS "a"),.str (oS "b"),.str (oS "c"),.str (oS "A"),.str (oS "B"),.str (oS "C")]
def whole:D->Bool
 | .int _=>true
 | _=>false
def within(d:D)(l m:Int):Bool:=match d with
 | .int i=>decide (l<=i)&&decide (i<=m)
 | _=>false
def oneOf(d:D)(ws:LD):Bool:=match d with
 | .str x=>ws.any fun y=>yX y (.str x)
 | _=>false
def Ct(d:D)(m:Int):Bool:=match d with
 | .tup xs=>(xs.length:Int)==m
 | _=>false
def nL:LD:=[.str (oS "none"),.str (oS "hour"),.str (oS "minute"),.str (oS "zero"),.str (oS "ahour"),.str (oS "aminute"),.str (oS "alarm"),.str (oS "run"),.str (oS "lap"),.str (oS "cminute"),.str (oS "csecond"),.str (oS "full"),.str (oS "count")]
def oz:LD:=[.str (oS "time"),.str (oS "alarm"),.str (oS "laps"),.str (oS "count")]
def mV(d:D)(m:Int):Bool:=match d with
 | .tup [a,b]=>oneOf a nL&&within b 0 (m - 1)
 | _=>false
def tX(d:D)(m:Int):Bool:=match d with
 | .tup xs=>xs.length==6&&xs.all fun x=>mV x m
 | _=>false
def mq(d:D)(m:Int):Bool:=match d with
 | .tup [a,b,c]=>oneOf a oz&&(Co b "bool" && tX c m)
 | _=>false
def rg(d:D):Bool:=match d with
 | .tup xs=>decide (1<=xs.length)&&(decide (xs.length<=8)&&xs.all fun x=>mq x xs.length)
 | _=>false
def rf(d:D):Bool:=match d with
 | .tup [a,b,c]=>within a 1 9&&(within b 0 60&&rg c)
 | _=>false
theorem within_int{d:D}{l h:Int}(e:within d l h=true):∃i:Int,d=.int i/\l<=i/\i<=h:=by
 cases d with
 | int i=>simp[within] at e;exact⟨i,rfl,e⟩
 | _=>cases e
theorem wc{d:D}(e:Co d "bool" = true):∃b,d=.bl b:=by
 cases d with
 | bl b=>exact⟨b,rfl⟩
 | _=>simp at e
theorem qp{d:D}{ws:LD}(e:oneOf d ws=true):∃x,d=.str x/\(ws.any fun y=>yX y (.str x))=true:=by
 cases d with
 | str x=>exact⟨x,rfl,e⟩
 | _=>cases e
theorem yn{d:D}(e:oneOf d nL=true):∃k:jn,d=.str k.x:=by
 obtain⟨x,rfl,h⟩:=qp e
 obtain⟨y,hy,h⟩:=List.any_eq_true.mp h
 have q:∀w:Str,yX (.str w) (.str x)=true->w=x:=fun w z=>beq_iff_eq.mp z
 simp only[nL,List.mem_cons,List.not_mem_nil,or_false] at hy
 rcases hy with rfl | rfl | rfl | rfl | rfl | rfl | rfl | rfl | rfl | rfl | rfl | rfl | rfl
 ·exact⟨.none,congrArg D.str (q _ h).symm⟩
 ·exact⟨.hour,congrArg D.str (q _ h).symm⟩
 ·exact⟨.minute,congrArg D.str (q _ h).symm⟩
 ·exact⟨.zero,congrArg D.str (q _ h).symm⟩
 ·exact⟨.ahour,congrArg D.str (q _ h).symm⟩
 ·exact⟨.aminute,congrArg D.str (q _ h).symm⟩
 ·exact⟨.alarm,congrArg D.str (q _ h).symm⟩
 ·exact⟨.run,congrArg D.str (q _ h).symm⟩
 ·exact⟨.lap,congrArg D.str (q _ h).symm⟩
 ·exact⟨.cminute,congrArg D.str (q _ h).symm⟩
 ·exact⟨.csecond,congrArg D.str (q _ h).symm⟩
 ·exact⟨.full,congrArg D.str (q _ h).symm⟩
 ·exact⟨.count,congrArg D.str (q _ h).symm⟩
theorem yw{d:D}(e:oneOf d oz=true):∃k:Face,d=.str k.x:=by
 obtain⟨x,rfl,h⟩:=qp e
 obtain⟨y,hy,h⟩:=List.any_eq_true.mp h
 have q:∀w:Str,yX (.str w) (.str x)=true->w=x:=fun w z=>beq_iff_eq.mp z
 simp only[oz,List.mem_cons,List.not_mem_nil,or_false] at hy
 rcases hy with rfl | rfl | rfl | rfl
 ·exact⟨.time,congrArg D.str (q _ h).symm⟩
 ·exact⟨.alarm,congrArg D.str (q _ h).symm⟩
 ·exact⟨.laps,congrArg D.str (q _ h).symm⟩
 ·exact⟨.count,congrArg D.str (q _ h).symm⟩
theorem ic{d:D}{n:Nat}(e:mV d n=true):∃r:jn×Nat,d=je r/\r.2<n:=by
 unfold mV at e
 split at e
 ·rw[Bool.and_eq_true] at e
  obtain⟨k,rfl⟩:=yn e.1
  obtain⟨i,rfl,h0,h1⟩:=within_int e.2
  refine⟨(k,i.toNat),?_,?_⟩
  ·simp[je,Int.toNat_of_nonneg h0]
  ·simp;omega
 ·cases e
theorem qG{α:Type}{f:α->D}{P:α->Prop}{q:D->Bool}(h:∀d,q d=true->∃a,d=f a/\P a):∀{ds:LD},ds.all q=true->∃as:List α,ds=as.map f/\∀a∈as,P a
 | [],_=>⟨[],rfl,fun _ h=>by cases h⟩
 | d::ds,e=>by
  rw[List.all_cons,Bool.and_eq_true] at e
  obtain⟨a,rfl,ha⟩:=h d e.1
  obtain⟨as,rfl,hs⟩:=qG h e.2
  exact⟨a::as,rfl,fun x hx=>by rcases List.mem_cons.mp hx with rfl | hx;exact ha;exact hs x hx⟩
theorem gA{d:D}{n:Nat}(e:mq d n=true):∃m:Md,d=m.d/\m.Ok n:=by
 unfold mq at e
 split at e
 ·rename_i a b c
  rw[Bool.and_eq_true,Bool.and_eq_true] at e
  obtain⟨f,rfl⟩:=yw e.1
  obtain⟨s,rfl⟩:=wc e.2.1
  have e2:=e.2.2
  cases c with
  | tup xs =>
   unfold tX at e2
   simp only[Bool.and_eq_true] at e2
   obtain⟨rs,rfl,hr⟩:=qG (f:=je) (P:=fun r=>r.2<n) (fun d h=>ic h) e2.2
   refine⟨⟨f,s,rs⟩,rfl,?_,hr⟩
   have:=e2.1
   simpa using this
  | _=>cases e2
 ·cases e
theorem gF{d:D}(e:rf d=true):∃b:Bk,d=b.d/\b.Ok:=by
 unfold rf at e
 split at e
 ·rename_i a b c
  rw[Bool.and_eq_true,Bool.and_eq_true] at e
  obtain⟨i,rfl,i0,i1⟩:=within_int e.1
  obtain⟨j,rfl,j0,j1⟩:=within_int e.2.1
  have e2:=e.2.2
  cases c with
  | tup xs =>
   unfold rg at e2
   simp only[Bool.and_eq_true] at e2
   obtain⟨h1,h2,h3⟩:=e2
   obtain⟨ms,hm,hok⟩:=qG (f:=Md.d) (P:=fun m=>m.Ok xs.length) (fun d h=>gA h) h3
   have hl:xs.length=ms.length:=by rw[hm];simp
   refine⟨⟨i,j,ms⟩,by rw[hm];rfl,i0,i1,j0,j1,?_,?_,?_⟩
   ·have:=of_decide_eq_true h1;show 1<=ms.length;omega
   ·have:=of_decide_eq_true h2;show ms.length<=8;omega
   ·rw[hl] at hok;exact hok
  | _=>cases e2
 ·cases e
theorem u_{F:D->D->Option Bool}{f g:R->OD}{ρ:R}{x y:D}(h1:f ρ=some x)(h2:g ρ=some y):jV F f g ρ=F x y:=by simp[h1,h2]
theorem jN{F:LD->OD}{f:R->OD}{ρ:R}{x d:D}(h1:f ρ=some x)(h2:F [x]=some d):iR F (e8 f iQ) ρ=some d:=by simp[h1,h2]
theorem wx{f g k:R->OD}{ρ:R}{x y z:D}(h1:f ρ=some x)(h2:g ρ=some y)(h3:k ρ=some z):ja (e8 f (e8 g (e8 k iQ))) ρ=some (.tup [x,y,z]):=by simp[h1,h2,h3]
theorem BG{c:R->Option Bool}{ρ:R}{b:Bool}(h:c ρ=some b):tV c ρ=some (.bl b):=by simp[h]
theorem jk{f g:R->Option Out}{ρ ρ2:R}(h:f ρ=some (.nx ρ2)):jb f g ρ=g ρ2:=by simp[h]
theorem ju{f:R->OD}{st:D->R->Option R}{ρ ρ':R}{d:D}(h:f ρ=some d)(h2:st d ρ=some ρ'):i9 f st ρ=some (.nx ρ'):=by simp[h,h2]
theorem Cj{f:R->OD}{ρ:R}{m:Int}(h:f ρ=some (.int m))(h0:0<=m)(h1:m<=1000):jR f ρ=some (kj 0 m):=by
 have hr : -4611686018427387904<=m/\m<4611686018427387904:=by omega
 unfold jR
 rw[h]
 show(if -4611686018427387904<=m/\m<4611686018427387904 then some (kj 0 m) else none)=_
 rw[if_pos hr]
theorem inR{f:R->OD}{ρ:R}{n:Nat}(h:f ρ=some (.int n))(hn:n<=1000):jR f ρ=some (kj 0 n):=Cj h (by omega) (by omega)
theorem l0{f:R->OD}{ρ:R}{d:D}(h:f ρ=some d):jQ (k_ f ρ)=some d:=by simp[h]
theorem wH{n:Nat}(h:n<=2000):n<=sizeLine:=Nat.le_trans h (by decide)
theorem lY:∀{kv:KI} {x:Ky} {d:D} {r:KI},jv kv x=some d->jv (kv++r) x=some d
 | (k,d')::kv,x,d,r,h=>by
  show(if k=x then some d' else jv (kv++r) x)=some d
  have h':(if k=x then some d' else jv kv x)=some d:=h
  split at h'<;>rename_i hk
  ·rw[if_pos hk];exact h'
  ·rw[if_neg hk];exact lY h'
def gp:R->Option Out:=
 (k_ (lT 1 (jh (iY i4 (iP 0) (kI 2))) (setAt 0) jL (iY i4 (iP 0) (kI 1))))
def bN:LD->OD:=via 1 1 gp
def cz:R->Option Out:=
 (k_ (lT 1 (jh (iR bN (e8 (iP 0) iQ))) (setAt 0) jL (iY i4 (iP 2) (iP 0))))
def aj:LD->OD:=via 2 2 cz
def wW:R->OD:=(iR aj (e8 (iY i4 (iP 1) (iP 0)) (e8 (iP 2) iQ)))
def LL:sd:=fun t=>open Classical in if t=uc then some (vD 3 wW) else none
theorem C5:LL uc=some (vD 3 wW):=if_pos rfl
theorem BF:uc.ps.length=1:=rfl
def cP:R->Nat->KI->Option (D×KI):=
  (sy 6
  (mM (jh (iP 1)) (setAt 3)
  (uh (u3 (i9 (o_ LL 2 (e8 (iP 3) iQ)) (setAt 4)))
  (mM (jR (iR lM (e8 (fun _=>some aJ) iQ))) (setAt 5)
  (Bq (ng 0 (iY i4 (iP 4) (iP 5)))
  (uh (wm 0 (iY i4 (iP 4) (iP 5)) (vv jJ (ph 0 (iP 3)) (vQ (iY i4 (fun _=>some aJ) (iP 5)))))
  (yD 6 (iY i4 (iP 4) (iP 5))))
  wk)))))
def ar:LD->Nat->KI->Option (D×KI):=fun ds=>cP (qY 7 ds)
def lK:List Str:=[oS "a",oS "b",oS "c",oS "A",oS "B",oS "C"]
def jz(w:Str)(s:KI×LD)(ep:Ky×Str):KI×LD:=if (jv s.1 ep.1).isNone then (s.1++[(ep.1,.str (w++ep.2))],s.2++[i_ ep.1]) else s
def vW(lf:Bool)(kv:KI):Prop:=kv ≠ []/\∀p∈kv,p.1.isLeft=lf
theorem vW.kin{lf:Bool}{kv:KI}(h:vW lf kv){k:Ky}(hk:k.isLeft=lf):kin kv k=true:=by
 unfold HW.kin
 rw[Bool.and_eq_true]
 refine⟨?_,List.all_eq_true.mpr fun p hp=>by rw[h.2 p hp,hk];simp⟩
 cases kv with
 | nil=>exact absurd rfl h.1
 | cons=>rfl
theorem mS:∀k:Ky,nX (i_ k)=some k
 | .inl _=>rfl
 | .inr _=>rfl
theorem u5{lf:Bool}{w:Str}{s:KI×LD}{ep:Ky×Str}(h:vW lf s.1)(he:ep.1.isLeft=lf):vW lf (jz w s ep).1:=by
 unfold jz
 split
 ·refine⟨by simp,fun p hp=>?_⟩
  rcases List.mem_append.mp hp with z | z
  ·exact h.2 p z
  ·rw[List.mem_singleton.mp z];exact he
 ·exact h
theorem tu{lf:Bool}(w:Str):∀(l:List (Ky×Str)) {s:KI×LD},vW lf s.1->(∀q∈l,q.1.isLeft=lf)->vW lf (l.foldl (jz w) s).1
 | [],_,h,_=>h
 | e::l,s,h,hl=>tu w l (u5 h (hl e List.mem_cons_self)) fun q hq=>hl q (List.mem_cons_of_mem _ hq)
def Az:WU:=(Bq (ng 0 (iY i4 (iP 4) (iP 5)))
  (uh (wm 0 (iY i4 (iP 4) (iP 5)) (vv jJ (ph 0 (iP 3)) (vQ (iY i4 (fun _=>some aJ) (iP 5)))))
  (yD 6 (iY i4 (iP 4) (iP 5))))
  wk)
theorem nD{xs:LD}{i:Nat}{x:D}(h:xs[i]?=some x):tH xs (i:Int)=some x:=by
 have hi:=(List.getElem?_eq_some_iff.mp h).1
 unfold tH Ay
 rw[if_pos (by omega),if_pos (by omega)]
 exact h
theorem x4{d:Nat}{a1 a2:OD}{x:Ky}{es:List Ky}{i:Nat}{e:Ky}{p w:Str}{kv:KI}{ds:LD}(he:es[i]?=some e)(hp:lK[i]?=some p)(hw:jv kv x=some (.str w))(hk:kv.length<1000)(hd:ds.length<1000)(hl:w.length<1000){lf:Bool}(hKd:vW lf kv)(hxl:x.isLeft=lf)(hel:e.isLeft=lf) :
  Az [some (.obj 1 d [] []),a1,a2,some (i_ x),some (.lst (es.map i_)),some (.int i)] d kv ds=some (.nx [some (.obj 1 d [] []),a1,a2,some (i_ x),some (.lst (es.map i_)),some (.int i)],jz w (kv,ds) (e,p)):=by
 have q1:iY i4 (iP 4) (iP 5) [some (.obj 1 d [] []),a1,a2,some (i_ x),some (.lst (es.map i_)),some (.int i)]=some (i_ e):=by
  show tH (es.map i_) (i:Int)=_
  exact nD (by rw[List.getElem?_map,he];rfl)
 have q2:iY i4 (fun _=>some aJ) (iP 5) [some (.obj 1 d [] []),a1,a2,some (i_ x),some (.lst (es.map i_)),some (.int i)]=some (.str p):=by
  show tH (lK.map .str) (i:Int)=_
  exact nD (by rw[List.getElem?_map,hp];rfl)
 have hat:isAt 0 [some (.obj 1 d [] []),a1,a2,some (i_ x),some (.lst (es.map i_)),some (.int i)] d:=rfl
 have hpl:p.length<=1:=by
  have:∀y∈lK,y.length<=1:=by decide +kernel
  exact this p (List.mem_of_getElem? hp)
 generalize hρ:[some (.obj 1 d [] []),a1,a2,some (i_ x),some (.lst (es.map i_)),some (.int i)]=ρ at *
 have v3:iP 3 ρ=some (i_ x):=by rw[<- hρ];rfl
 have hlen:ρ.length=6:=by rw[<- hρ];rfl
 have t1:ng 0 (iY i4 (iP 4) (iP 5)) ρ d kv=some (jv kv e).isNone:=by
  unfold ng
  rw[q1]
  show((nX (i_ e)).bind fun j=>if isAt 0 ρ d/\kin kv j=true then some (jv kv j).isNone else none)=_
  rw[mS,Option.bind_some,if_pos ⟨hat,hKd.kin hel⟩]
 unfold Az Bq
 rw[t1,Option.bind_some]
 unfold jz
 cases hn:(jv kv e).isNone with
 | false=>rfl
 | true =>
  rw[if_pos rfl,if_pos rfl]
  have g1:ph 0 (iP 3) ρ d kv=some (.str w):=by
   unfold ph
   rw[v3]
   show((nX (i_ x)).bind fun j=>if isAt 0 ρ d/\kin kv j=true then jv kv j else none)=_
   rw[mS,Option.bind_some,if_pos ⟨hat,hKd.kin hxl⟩,hw]
  have g2:vv jJ (ph 0 (iP 3)) (vQ (iY i4 (fun _=>some aJ) (iP 5))) ρ d kv=some (.str (w++p)):=by
   unfold vv vQ
   rw[g1,Option.bind_some,q2,Option.bind_some]
   show(if w.length+p.length<=sizeLine then _ else _)=_
   rw[if_pos (wH (by omega))]
  have g3:wm 0 (iY i4 (iP 4) (iP 5)) (vv jJ (ph 0 (iP 3)) (vQ (iY i4 (fun _=>some aJ) (iP 5)))) ρ d kv ds=some (.nx ρ,kv++[(e,.str (w++p))],ds):=by
   unfold wm
   rw[g2,Option.bind_some,q1,Option.bind_some]
   rw[mS,Option.bind_some,if_pos ⟨hat,hKd.kin hel,hn,hk⟩]
  unfold uh
  rw[g3,Option.bind_some]
  unfold yD
  show((iY i4 (iP 4) (iP 5) ρ).bind fun d=>if ρ.length=6/\ds.length<sizeLine then _ else _)=_
  rw[q1,Option.bind_some,if_pos ⟨hlen,Nat.lt_of_lt_of_le hd (by decide)⟩]
theorem uS{d:Nat}{a1 a2:OD}{x:Ky}{es:List Ky}{w:Str}{lf:Bool}(hxl:x.isLeft=lf)(hes:∀e∈es,e.isLeft=lf)(h6:es.length=6)(hl:w.length<1000):∀(k:Nat) (o:OD) (kv:KI) (ds:LD),k<=6->vW lf kv->jv kv x=some (.str w)->kv.length+k<1000->ds.length+k<1000 ->
  ∃o',sx (setAt 5) Az ((kj 0 6).drop (6 - k)) [some (.obj 1 d [] []),a1,a2,some (i_ x),some (.lst (es.map i_)),o] d kv ds=some (.nx [some (.obj 1 d [] []),a1,a2,some (i_ x),some (.lst (es.map i_)),o'],((es.zip lK).drop (6 - k)).foldl (jz w) (kv,ds))
 | 0,o,kv,ds,_,_,_,_,_=>by
  refine⟨o,?_⟩
  have e2:(es.zip lK).drop 6=[]:=List.drop_eq_nil_of_le (by simp[lK,h6])
  rw[e2];rfl
 | k+1,o,kv,ds,hk,hKd,hw,h1,h2=>by
  have hi:6 - (k+1)<6:=by omega
  have e1:(kj 0 6).drop (6 - (k+1))=.int ((6 - (k+1):Nat):Int)::(kj 0 6).drop (6 - k):=by
   have hlen:(kj 0 6).length=6:=rfl
   rw[List.drop_eq_getElem_cons (by rw[hlen];exact hi),show 6 - (k+1)+1=6 - k by omega]
   congr 1
   simp[kj]
  have hz:(es.zip lK).length=6:=by simp[lK,h6]
  have e2:(es.zip lK).drop (6 - (k+1))=(es.zip lK)[6 - (k+1)]'(by omega)::(es.zip lK).drop (6 - k):=by
   rw[List.drop_eq_getElem_cons (by omega),show 6 - (k+1)+1=6 - k by omega]
  rw[e1,e2,List.getElem_zip,List.foldl_cons]
  have he:es[6 - (k+1)]?=some es[6 - (k+1)]:=List.getElem?_eq_getElem (by omega)
  have hp:lK[6 - (k+1)]?=some (lK[6 - (k+1)]'(by simp[lK];omega)):=List.getElem?_eq_getElem _
  have t:=x4 (d:=d) (a1:=a1) (a2:=a2) (ds:=ds) he hp hw (by omega) (by omega) hl hKd hxl (hes _ (List.getElem_mem _))
  have hKd':vW lf (jz w (kv,ds) (es[6 - (k+1)],lK[6 - (k+1)]'(by simp[lK];omega))).1:=u5 hKd (hes _ (List.getElem_mem _))
  generalize es[6 - (k+1)]=e at *
  generalize (lK[6 - (k+1)]'(by simp[lK];omega))=p at *
  obtain⟨hw',l1,l2⟩:jv (jz w (kv,ds) (e,p)).1 x=some (.str w)/\(jz w (kv,ds) (e,p)).1.length<=kv.length+1/\(jz w (kv,ds) (e,p)).2.length<=ds.length+1:=by
   unfold jz
   split
   ·exact⟨lY hw,by simp,by simp⟩
   ·exact⟨hw,Nat.le_succ _,Nat.le_succ _⟩
  obtain⟨o',r⟩:=uS (d:=d) (a1:=a1) (a2:=a2) (x:=x) hxl hes h6 hl k (some (.int ((6 - (k+1):Nat):Int))) (jz w (kv,ds) (e,p)).1 (jz w (kv,ds) (e,p)).2 (by omega) hKd' hw' (by omega) (by omega)
  refine⟨o',?_⟩
  show((some [some (.obj 1 d [] []),a1,a2,some (i_ x),some (.lst (es.map i_)),some (.int ((6 - (k+1):Nat):Int))]:Option R)).bind _=_
  rw[Option.bind_some,t]
  exact r
def nR(kv:KI)(x:Ky):Str:=match jv kv x with
 | some (.str w)=>w
 | _=>oS ""
def j3(go:Ky->List Ky)(s:KI×LD)(x:Ky):KI×LD:=((go x).zip lK).foldl (jz (nR s.1 x)) s
def vz:WU:=(uh (u3 (i9 (o_ LL 2 (e8 (iP 3) iQ)) (setAt 4)))
 (mM (jR (iR lM (e8 (fun _=>some aJ) iQ))) (setAt 5) Az))
def Gives(c:D)(go:Ky->List Ky)(x:Ky):Prop:=(go x).length=6/\∀ ρ:R,iP 2 ρ=some c->iP 3 ρ=some (i_ x)->o_ LL 2 (e8 (iP 3) iQ) ρ=some (.lst ((go x).map i_))
theorem xb{d:Nat}{a1 o4 o5:OD}{c:D}{go:Ky->List Ky}{x:Ky}{kv:KI}{ds:LD}{w:Str}{lf:Bool}(hxl:x.isLeft=lf)(hes:∀e∈go x,e.isLeft=lf)(hKd:vW lf kv)(hg:Gives c go x)(hw:jv kv x=some (.str w))(hl:w.length<1000)(hk:kv.length+6<1000)(hd:ds.length+6<1000) :
  ∃p4 p5,vz [some (.obj 1 d [] []),a1,some c,some (i_ x),o4,o5] d kv ds=some (.nx [some (.obj 1 d [] []),a1,some c,some (i_ x),p4,p5],j3 go (kv,ds) x):=by
 obtain⟨h6,hc⟩:=hg
 have e1:=hc [some (.obj 1 d [] []),a1,some c,some (i_ x),o4,o5] rfl rfl
 obtain⟨o',e2⟩:=uS (d:=d) (a1:=a1) (a2:=some c) (x:=x) (es:=go x) (w:=w) hxl hes h6 hl 6 o5 kv ds (Nat.le_refl _) hKd hw hk hd
 refine⟨some (.lst ((go x).map i_)),o',?_⟩
 have hwo:nR kv x=w:=by unfold nR;rw[hw]
 have e3:u3 (i9 (o_ LL 2 (e8 (iP 3) iQ)) (setAt 4)) [some (.obj 1 d [] []),a1,some c,some (i_ x),o4,o5] d kv ds=some (.nx [some (.obj 1 d [] []),a1,some c,some (i_ x),some (.lst ((go x).map i_)),o5],kv,ds):=by
  show((o_ LL 2 (e8 (iP 3) iQ) _).bind fun v=>(setAt 4 v _).map Out.nx).map _=_
  rw[e1]
  rfl
 unfold vz uh
 rw[e3,Option.bind_some]
 show mM (jR (iR lM (e8 (fun _=>some aJ) iQ))) (setAt 5) Az [some (.obj 1 d [] []),a1,some c,some (i_ x),some (.lst ((go x).map i_)),o5] d kv ds=_
 unfold mM
 show(some (kj 0 6)).bind _=_
 rw[Option.bind_some]
 unfold j3
 show sx (setAt 5) Az (kj 0 6) _ d kv ds=some (_,(((go x).zip lK).foldl (jz (nR kv x)) (kv,ds)))
 rw[hwo]
 exact e2
theorem wB(w:Str)(s:KI×LD)(ep:Ky×Str):(jz w s ep).1.length<=s.1.length+1/\(jz w s ep).2.length<=s.2.length+1:=by
 unfold jz
 split
 ·exact⟨by simp,by simp⟩
 ·exact⟨Nat.le_succ _,Nat.le_succ _⟩
theorem qw(w:Str):∀(l:List (Ky×Str)) (s:KI×LD),(l.foldl (jz w) s).1.length<=s.1.length+l.length/\(l.foldl (jz w) s).2.length<=s.2.length+l.length
 | [],s=>⟨Nat.le_refl _,Nat.le_refl _⟩
 | e::l,s=>by
  have h1:=wB w s e
  have h2:=qw w l (jz w s e)
  rw[List.foldl_cons,List.length_cons]
  omega
theorem xC(w:Str){s:KI×LD}{ep:Ky×Str}{x:Ky}{d:D}(h:jv s.1 x=some d):jv (jz w s ep).1 x=some d:=by
 unfold jz
 split
 ·exact lY h
 ·exact h
theorem qk(w:Str):∀(l:List (Ky×Str)) {s:KI×LD} {x:Ky} {d:D},jv s.1 x=some d->jv (l.foldl (jz w) s).1 x=some d
 | [],_,_,_,h=>h
 | e::l,s,x,d,h=>qk w l (xC w h)
theorem sr{d:Nat}{a1:OD}{c:D}{go:Ky->List Ky}{lf:Bool}:∀(xs:List Ky) (o3 o4 o5:OD) (kv:KI) (ds:LD),vW lf kv->(∀x∈xs,(Gives c go x/\x.isLeft=lf/\∀e∈go x,e.isLeft=lf)/\∃w,jv kv x=some (.str w)/\w.length<1000)->kv.length+6*xs.length<1000->ds.length+6*xs.length<1000 ->
  ∃p3 p4 p5,sx (setAt 3) vz (xs.map i_) [some (.obj 1 d [] []),a1,some c,o3,o4,o5] d kv ds=some (.nx [some (.obj 1 d [] []),a1,some c,p3,p4,p5],xs.foldl (j3 go) (kv,ds))
 | [],o3,o4,o5,kv,ds,_,_,_,_=>⟨o3,o4,o5,rfl⟩
 | x::xs,o3,o4,o5,kv,ds,hKd,h,h1,h2=>by
  rw[List.length_cons] at h1 h2
  obtain⟨⟨hg,hxl,hes⟩,w,hw,hl⟩:=h x List.mem_cons_self
  obtain⟨p4,p5,t⟩:=xb (d:=d) (a1:=a1) (o4:=o4) (o5:=o5) (ds:=ds) hxl hes hKd hg hw hl (by omega) (by omega)
  have hz:((go x).zip lK).length=6:=by simp[lK,hg.1]
  have hln:(j3 go (kv,ds) x).1.length<=kv.length+6/\(j3 go (kv,ds) x).2.length<=ds.length+6:=by
   have:=qw (nR kv x) ((go x).zip lK) (kv,ds)
   rw[hz] at this
   exact this
  obtain⟨q3,q4,q5,r⟩:=sr (d:=d) (a1:=a1) (c:=c) (go:=go) xs (some (i_ x)) p4 p5 (j3 go (kv,ds) x).1 (j3 go (kv,ds) x).2 (tu _ _ hKd fun q hq=>hes q.1 (List.of_mem_zip hq).1) (fun y hy=>by
   obtain⟨hg',w',hw',hl'⟩:=h y (List.mem_cons_of_mem _ hy)
   exact⟨hg',w',qk _ _ hw',hl'⟩) (by omega) (by omega)
  refine⟨q3,q4,q5,?_⟩
  show((some [some (.obj 1 d [] []),a1,some c,some (i_ x),o4,o5]:Option R)).bind _=_
  rw[Option.bind_some,t]
  exact r
theorem xx{d:Nat}{c:D}{go:Ky->List Ky}{xs:List Ky}{kv:KI}{lf:Bool}(hKd:vW lf kv)(h:∀x∈xs,(Gives c go x/\x.isLeft=lf/\∀e∈go x,e.isLeft=lf)/\∃w,jv kv x=some (.str w)/\w.length<1000)(h1:kv.length+6*xs.length<1000) :
  ar [.obj 1 d [] [],.lst (xs.map i_),c] d kv=some (.lst (xs.foldl (j3 go) (kv,[])).2,(xs.foldl (j3 go) (kv,[])).1):=by
 obtain⟨p3,p4,p5,r⟩:=sr (d:=d) (a1:=some (.lst (xs.map i_))) (c:=c) (go:=go) xs none none none kv [] hKd h h1 (by simp;omega)
 show sy 6 (mM (jh (iP 1)) (setAt 3) vz) [some (.obj 1 d [] []),some (.lst (xs.map i_)),some c,none,none,none,none] d kv=_
 unfold sy
 rw[if_pos (show([some (.obj 1 d [] []),some (.lst (xs.map i_)),some c,none,none,none,none]:R).length=6+1 from rfl)]
 have e:mM (jh (iP 1)) (setAt 3) vz [some (.obj 1 d [] []),some (.lst (xs.map i_)),some c,none,none,none] d kv []=some (.nx [some (.obj 1 d [] []),some (.lst (xs.map i_)),some c,p3,p4,p5],xs.foldl (j3 go) (kv,[])):=r
 show(mM (jh (iP 1)) (setAt 3) vz [some (.obj 1 d [] []),some (.lst (xs.map i_)),some c,none,none,none] d kv []).bind _=_
 rw[e]
 rfl
def iZ(kv:KI):List Ky:=kv.map (·.1)
theorem lg:∀{kv:KI} {x:Ky},jv kv x=none↔x∉iZ kv
 | [],x=>by simp[jv,iZ]
 | (k,d)::kv,x=>by
  have ih:=lg (kv:=kv) (x:=x)
  show(if k=x then some d else jv kv x)=none↔x∉k::iZ kv
  by_cases h:k=x
  ·rw[if_pos h];simp[h]
  ·rw[if_neg h,ih,List.mem_cons,not_or]
   exact⟨fun z=>⟨fun q=>h q.symm,z⟩,fun z=>z.2⟩
theorem mN:∀{kv:KI} {x:Ky} {d:D},(iZ kv).Nodup->(x,d)∈kv->jv kv x=some d
 | (k,d')::kv,x,d,nd,h=>by
  have nd':(k::iZ kv).Nodup:=nd
  rw[List.nodup_cons] at nd'
  show(if k=x then some d' else jv kv x)=some d
  rcases List.mem_cons.mp h with e | h
  ·cases e;rw[if_pos rfl]
  ·have:k≠x:=fun z=>nd'.1 (z ▸ List.mem_map.mpr ⟨(x,d),h,rfl⟩)
   rw[if_neg this]
   exact mN nd'.2 h
def xD(p:Ky×Str):Ky×D:=(p.1,.str p.2)
def Good(k:KI)(L:Nat)(bx:List Ky)(go:Ky->List Ky)(p:Ky×Str):Prop:=True/\p.1∈bx/\p.2.length=L+1/\∃(x:Ky) (w:Str) (i:Nat) (pr:Str),(x,D.str w)∈k/\(go x)[i]?=some p.1/\lK[i]?=some pr/\p.2=w++pr
def Av(k:KI)(L:Nat)(bx:List Ky)(go:Ky->List Ky)(s:KI×LD):Prop:=∃ext:List (Ky×Str),s.1=k++ext.map xD/\s.2=ext.map (fun p=>i_ p.1)/\(∀p∈ext,Good k L bx go p)/\(iZ s.1).Nodup
theorem zm{i:Nat}{pr:Str}(h:lK[i]?=some pr):pr.length=1:=by
 have:∀y∈lK,y.length=1:=by decide +kernel
 exact this pr (List.mem_of_getElem? h)
theorem str_len(a b:Str):(a++b).length=a.length+b.length:=by show(a.cps++b.cps).size=_;rw[Array.size_append];rfl
theorem ye{k:KI}{L:Nat}{bx:List Ky}{go:Ky->List Ky}{s:KI×LD}{x e:Ky}{w pr:Str}{i:Nat}(hE:Av k L bx go s)(hx:(x,D.str w)∈k)(hw:w.length=L)(he:(go x)[i]?=some e)(hp:lK[i]?=some pr)(h0:True)(hn:e∈bx) :
  Av k L bx go (jz w s (e,pr))/\e∈iZ (jz w s (e,pr)).1/\∀y∈iZ s.1,y∈iZ (jz w s (e,pr)).1:=by
 obtain⟨ext,e1,e2,hg,nd⟩:=hE
 unfold jz
 by_cases h:(jv s.1 e).isNone=true
 ·rw[if_pos h]
  have hk:e∉iZ s.1:=lg.mp (Option.isNone_iff_eq_none.mp h)
  have hks:iZ (s.1++[(e,D.str (w++pr))])=iZ s.1++[e]:=by simp[iZ]
  refine⟨⟨ext++[(e,w++pr)],?_,?_,fun p hp'=>?_,?_⟩,?_,fun y hy=>?_⟩
  ·show s.1++[(e,D.str (w++pr))]=_
   rw[e1,List.map_append,List.append_assoc];rfl
  ·show s.2++[i_ e]=_
   rw[e2,List.map_append];rfl
  ·rcases List.mem_append.mp hp' with z | z
   ·exact hg p z
   ·rw[List.mem_singleton.mp z]
    exact⟨h0,hn,by rw[str_len,hw,zm hp],x,w,i,pr,hx,he,hp,rfl⟩
  ·show(iZ (s.1++[(e,D.str (w++pr))])).Nodup
   rw[hks,List.nodup_append]
   refine⟨nd,by simp,fun a ha b hb=>?_⟩
   rw[List.mem_singleton.mp hb]
   exact fun z=>hk (z ▸ ha)
  ·show e∈iZ (s.1++[(e,D.str (w++pr))])
   rw[hks];simp
  ·show y∈iZ (s.1++[(e,D.str (w++pr))])
   rw[hks];exact List.mem_append_left _ hy
 ·rw[if_neg h]
  refine⟨⟨ext,e1,e2,hg,nd⟩,?_,fun y hy=>hy⟩
  exact Classical.byContradiction fun z=>h (by rw[lg.mpr z];rfl)
theorem uU{k:KI}{L:Nat}{bx:List Ky}{go:Ky->List Ky}{x:Ky}{w:Str}(hx:(x,D.str w)∈k)(hw:w.length=L)(hr:∀e∈go x,True/\e∈bx):∀(l:List (Ky×Str)) (s:KI×LD),(∀q∈l,∃i:Nat,(go x)[i]?=some q.1/\lK[i]?=some q.2)->Av k L bx go s ->
  Av k L bx go (l.foldl (jz w) s)/\(∀q∈l,q.1∈iZ (l.foldl (jz w) s).1)/\∀y∈iZ s.1,y∈iZ (l.foldl (jz w) s).1
 | [],s,_,hE=>⟨hE,fun q hq=>absurd hq (by simp),fun y hy=>hy⟩
 | (e,pr)::l,s,hl,hE=>by
  obtain⟨i,h1,h2⟩:=hl (e,pr) List.mem_cons_self
  obtain⟨h0,hn⟩:=hr e (List.mem_of_getElem? h1)
  obtain⟨a1,a2,a3⟩:=ye hE hx hw h1 h2 h0 hn
  obtain⟨b1,b2,b3⟩:=uU hx hw hr l _ (fun q hq=>hl q (List.mem_cons_of_mem _ hq)) a1
  refine⟨b1,fun q hq=>?_,fun y hy=>b3 y (a3 y hy)⟩
  rcases List.mem_cons.mp hq with z | z
  ·rw[z];exact b3 e a2
  ·exact b2 q z
theorem uQ{k:KI}{L:Nat}{bx:List Ky}{go:Ky->List Ky}(nd:(iZ k).Nodup):∀(xs:List Ky) (s:KI×LD),(∀x∈xs,(go x).length=6/\(∀e∈go x,True/\e∈bx)/\∃w,(x,D.str w)∈k/\w.length=L)->Av k L bx go s ->
  Av k L bx go (xs.foldl (j3 go) s)/\(∀x∈xs,∀e∈go x,e∈iZ (xs.foldl (j3 go) s).1)/\∀y∈iZ s.1,y∈iZ (xs.foldl (j3 go) s).1
 | [],s,_,hE=>⟨hE,fun x hx=>absurd hx (by simp),fun y hy=>hy⟩
 | x::xs,s,h,hE=>by
  obtain⟨h6,hr,w,hx,hw⟩:=h x List.mem_cons_self
  have hget:jv s.1 x=some (.str w):=by
   obtain⟨ext,e1,_,_,_⟩:=hE
   rw[e1]
   exact lY (mN nd hx)
  have hwo:nR s.1 x=w:=by unfold nR;rw[hget]
  have hz:∀q∈(go x).zip lK,∃i:Nat,(go x)[i]?=some q.1/\lK[i]?=some q.2:=fun q hq=>by
   obtain⟨i,hi⟩:=List.getElem?_of_mem hq
   obtain⟨z1,z2⟩:=List.getElem?_zip_eq_some.mp hi
   exact⟨i,z1,z2⟩
  obtain⟨a1,a2,a3⟩:=uU hx hw hr ((go x).zip lK) s hz hE
  have es:j3 go s x=((go x).zip lK).foldl (jz w) s:=by unfold j3;rw[hwo]
  rw[<- es] at a1 a2 a3
  obtain⟨b1,b2,b3⟩:=uQ nd xs (j3 go s x) (fun y hy=>h y (List.mem_cons_of_mem _ hy)) a1
  refine⟨b1,fun y hy e he=>?_,fun y hy=>b3 y (a3 y hy)⟩
  rcases List.mem_cons.mp hy with z | z
  ·subst z
   obtain⟨i,hi⟩:=List.getElem?_of_mem he
   have hi6:i<6:=by have:=(List.getElem?_eq_some_iff.mp hi).1;omega
   obtain⟨pr,hpr⟩:∃pr,lK[i]?=some pr:=⟨_,List.getElem?_eq_getElem (show i<lK.length from hi6)⟩
   exact b3 e (a2 (e,pr) (List.mem_of_getElem? (List.getElem?_zip_eq_some.mpr ⟨hi,hpr⟩)))
  ·exact b2 y z e he
structure BI (go:Ky->List Ky) (bx:List Ky) (s:Ky) (kv:KI) (xs:List Ky) (L:Nat):Prop where
 nd:(iZ kv).Nodup
 val:∀p∈kv,True/\p.1∈bx/\∃w,p.2=.str w/\w.length<=L
 st:(s,D.str (oS ""))∈kv
 new:∀x∈xs,∃w,(x,D.str w)∈kv/\w.length=L
 xl:xs.length<=kv.length
 cl:∀x w,(x,D.str w)∈kv->x∉xs->∀e∈go x,∃v,(e,D.str v)∈kv/\v.length<=w.length+1
 tr:∀x w,(x,D.str w)∈kv->(x=s/\w=oS "")\/∃(y:Ky) (v:Str) (i:Nat) (pr:Str),(y,D.str v)∈kv/\(go y)[i]?=some x/\lK[i]?=some pr/\w=v++pr
theorem m8{kv:KI}{x:Ky}(h:x∈iZ kv):∃d,(x,d)∈kv:=by
 obtain⟨p,hp,rfl⟩:=List.mem_map.mp h
 exact⟨p.2,hp⟩
theorem BI.inj{go:Ky->List Ky}{bx:List Ky}{s:Ky}{kv:KI}{xs:List Ky}{L:Nat}(h:BI go bx s kv xs L){x:Ky}{v w:Str}(h1:(x,D.str v)∈kv)(h2:(x,D.str w)∈kv):v=w:=by
 have:=(mN h.nd h1).symm.trans (mN h.nd h2)
 injection this with z
 injection z
theorem BI.len{go:Ky->List Ky}{bx:List Ky}{s:Ky}{kv:KI}{xs:List Ky}{L:Nat}(h:BI go bx s kv xs L):kv.length<=bx.length:=by
 have hl:(iZ kv).length<=bx.length:=List.Nodup.length_le_of_subset h.nd fun x hx=>by
  obtain⟨d,hd⟩:=m8 hx
  exact(h.val _ hd).2.1
 simpa [iZ] using hl
theorem BI.step{go:Ky->List Ky}{bx:List Ky}{s:Ky}{kv:KI}{xs:List Ky}{L:Nat}(h:BI go bx s kv xs L)(hgo:∀x:Ky,x∈bx->(go x).length=6/\∀e∈go x,True/\e∈bx) :
  ∃fd:List Ky,(xs.foldl (j3 go) (kv,[])).2=fd.map i_/\BI go bx s (xs.foldl (j3 go) (kv,[])).1 fd (L+1)/\(fd ≠ []->kv.length<(xs.foldl (j3 go) (kv,[])).1.length):=by
 have hx:∀x∈xs,(go x).length=6/\(∀e∈go x,True/\e∈bx)/\∃w,(x,D.str w)∈kv/\w.length=L:=fun x hx=>by
  obtain⟨w,hw,hl⟩:=h.new x hx
  obtain⟨h0,hn,_⟩:=h.val _ hw
  obtain⟨g1,g2⟩:=hgo x hn
  exact⟨g1,g2,w,hw,hl⟩
 obtain⟨⟨ext,e1,e2,hg,nd⟩,hc,hk⟩:=uQ h.nd xs (kv,[]) hx ⟨[],by simp,rfl,fun p hp=>absurd hp (by simp),h.nd⟩
 generalize (xs.foldl (j3 go) (kv,[])).1=kv' at *
 generalize (xs.foldl (j3 go) (kv,[])).2=fd' at *
 subst e1 e2
 have old:∀{p:Ky×D},p∈kv->p∈kv++ext.map xD:=fun hp=>List.mem_append_left _ hp
 have isnew:∀{x:Ky} {w:Str},(x,D.str w)∈kv++ext.map xD->(x,D.str w)∈kv\/(x,w)∈ext:=fun {x w} hm=>by
  rcases List.mem_append.mp hm with z | z
  ·exact .inl z
  ·obtain⟨p,hp,ep⟩:=List.mem_map.mp z
   unfold xD at ep
   injection ep with a b
   injection b with b
   subst a b
   exact .inr hp
 refine⟨ext.map (·.1),by rw[List.map_map];rfl,⟨nd,fun p hp=>?_,old h.st,fun x hx'=>?_,?_,fun x w hm hn e he=>?_,fun x w hm=>?_⟩,fun hne=>?_⟩
 ·rcases List.mem_append.mp hp with z | z
  ·obtain⟨h0,hn,w,hw,hl⟩:=h.val p z
   exact⟨h0,hn,w,hw,by omega⟩
  ·obtain⟨q,hq,rfl⟩:=List.mem_map.mp z
   obtain⟨h0,hn,hl,_⟩:=hg q hq
   exact⟨h0,hn,q.2,rfl,by omega⟩
 ·obtain⟨q,hq,rfl⟩:=List.mem_map.mp hx'
  exact⟨q.2,List.mem_append_right _ (List.mem_map.mpr ⟨q,hq,rfl⟩),(hg q hq).2.2.1⟩
 ·simp
 ·rcases isnew hm with z | z
  ·by_cases hxx:x∈xs
   ·obtain⟨d,hd⟩:=m8 (hc x hxx e he)
    obtain⟨v0,hv0,hl0⟩:=h.new x hxx
    have:w=v0:=h.inj z hv0
    rcases List.mem_append.mp hd with y | y
    ·obtain⟨_,_,v,hv,hl⟩:=h.val _ y
     have hv':d=.str v:=hv
     subst hv'
     exact⟨v,hd,by rw[this,hl0];omega⟩
    ·obtain⟨q,hq,eq⟩:=List.mem_map.mp y
     have eq':d=.str q.2:=by unfold xD at eq;injection eq with _ b;exact b.symm
     subst eq'
     exact⟨q.2,hd,by rw[(hg q hq).2.2.1,this,hl0];omega⟩
   ·obtain⟨v,hv,hl⟩:=h.cl x w z hxx e he
    exact⟨v,old hv,hl⟩
  ·exact absurd (List.mem_map.mpr ⟨(x,w),z,rfl⟩) hn
 ·rcases isnew hm with z | z
  ·rcases h.tr x w z with a | ⟨y,v,i,pr,h1,h2,h3,h4⟩
   ·exact .inl a
   ·exact .inr ⟨y,v,i,pr,old h1,h2,h3,h4⟩
  ·obtain⟨_,_,_,y,v,i,pr,h1,h2,h3,h4⟩:=hg (x,w) z
   exact .inr ⟨y,v,i,pr,old h1,h2,h3,h4⟩
 ·rw[List.length_append,List.length_map]
  have:ext ≠ []:=fun z=>hne (by rw[z];rfl)
  have:0<ext.length:=List.length_pos_iff.mpr this
  omega
def jO{α:Type}[DecidableEq α](sn:List α)(e:α):List α:=if e∈sn then sn else sn++[e]
def j9{α:Type}[DecidableEq α](go:α->List α)(sn:List α)(x:α):List α:=(go x).foldl jO sn
inductive sL {α:Type} (pr:List α->α->List α):List α->Nat->List α->Prop
 | done {sn:List α} {i:Nat}:sn.length<=i->sL pr sn i sn
 | step {sn r:List α} {i:Nat}:i<sn.length->sL pr ((sn.drop i).foldl pr sn) sn.length r->sL pr sn i r
theorem vR(w:Str)(s:KI×LD)(ep:Ky×Str):iZ (jz w s ep).1=jO (iZ s.1) ep.1:=by
 unfold jz jO
 by_cases h:ep.1∈iZ s.1
 ·rw[if_pos h,if_neg (fun z=>lg.mp (Option.isNone_iff_eq_none.mp z) h)]
 ·rw[if_neg h,if_pos (by rw[lg.mpr h];rfl)]
  simp[iZ]
theorem oy(w:Str):∀(l:List (Ky×Str)) (s:KI×LD),iZ (l.foldl (jz w) s).1=(l.map (·.1)).foldl jO (iZ s.1)
 | [],_=>rfl
 | e::l,s=>by rw[List.foldl_cons,oy w l,vR];rfl
theorem vP{go:Ky->List Ky}{s:KI×LD}{x:Ky}(h:(go x).length=6):iZ (j3 go s x).1=j9 go (iZ s.1) x:=by
 unfold j3 j9
 rw[oy,List.map_fst_zip (by rw[h];exact Nat.le_refl _)]
theorem pe{go:Ky->List Ky}:∀(xs:List Ky) (s:KI×LD),(∀x∈xs,(go x).length=6)->iZ (xs.foldl (j3 go) s).1=xs.foldl (j9 go) (iZ s.1)
 | [],_,_=>rfl
 | x::xs,s,h=>by rw[List.foldl_cons,pe xs _ fun y hy=>h y (List.mem_cons_of_mem _ hy),vP (h x List.mem_cons_self)];rfl
theorem tL(w:Str)(s:KI×LD)(ep:Ky×Str):∃F:List Ky,iZ (jz w s ep).1=iZ s.1++F/\(jz w s ep).2=s.2++F.map i_:=by
 unfold jz
 split
 ·exact⟨[ep.1],by simp[iZ],rfl⟩
 ·exact⟨[],by simp,by simp⟩
theorem nN(w:Str):∀(l:List (Ky×Str)) (s:KI×LD),∃F:List Ky,iZ (l.foldl (jz w) s).1=iZ s.1++F/\(l.foldl (jz w) s).2=s.2++F.map i_
 | [],s=>⟨[],by simp,by simp⟩
 | e::l,s=>by
  obtain⟨F1,a1,a2⟩:=tL w s e
  obtain⟨F2,b1,b2⟩:=nN w l (jz w s e)
  exact⟨F1++F2,by rw[List.foldl_cons,b1,a1,List.append_assoc],by rw[List.foldl_cons,b2,a2,List.append_assoc,List.map_append]⟩
theorem nV{go:Ky->List Ky}:∀(xs:List Ky) (s:KI×LD),∃F:List Ky,iZ (xs.foldl (j3 go) s).1=iZ s.1++F/\(xs.foldl (j3 go) s).2=s.2++F.map i_
 | [],s=>⟨[],by simp,by simp⟩
 | x::xs,s=>by
  obtain⟨F1,a1,a2⟩:=nN (nR s.1 x) ((go x).zip lK) s
  obtain⟨F2,b1,b2⟩:=nV xs (j3 go s x)
  refine⟨F1++F2,?_,?_⟩
  ·rw[List.foldl_cons,b1];unfold j3;rw[a1,List.append_assoc]
  ·rw[List.foldl_cons,b2];unfold j3;rw[a2,List.append_assoc,List.map_append]
theorem xJ{a b:Ky}(h:i_ a=i_ b):a=b:=by
 have:=congrArg nX h
 rw[mS,mS] at this
 exact Option.some.inj this
theorem qe:∀{a b:List Ky},a.map i_=b.map i_->a=b
 | [],[],_=>rfl
 | [],_::_,h=>by cases h
 | _::_,[],h=>by cases h
 | x::a,y::b,h=>by
  rw[List.map_cons,List.map_cons] at h
  injection h with h1 h2
  rw[xJ h1,qe h2]
theorem qx{go:Ky->List Ky}{bx:List Ky}{s:Ky}{lf:Bool}(hkd:∀x∈bx,x.isLeft=lf)(hn8:bx.length<=64)(hgo:∀x:Ky,x∈bx->(go x).length=6/\∀e∈go x,True/\e∈bx)(hgo2:True):∀(m:Nat) (xs:List Ky) (kv:KI) (L:Nat),BI go bx s kv xs L->L+m<=100->(xs ≠ []->bx.length+2<=m+kv.length)->1<=m->∀P:List Ky,iZ kv=P++xs ->
  ∃kf L',(∀c,(∀x:Ky,x∈bx->Gives c go x)->∀d,tw ar c m (xs.map i_) d kv=some kf)/\BI go bx s kf [] L'/\L'<=100/\sL (j9 go) (iZ kv) P.length (iZ kf)
 | 0,_,_,_,_,_,_,h,_,_=>absurd h (by decide)
 | m+1,[],kv,L,h,ji,_,_,P,hP=>⟨kv,L,fun c _ d=>rfl,h,by omega,.done (by rw[hP];simp)⟩
 | m+1,x::xs,kv,L,h,ji,hm,_,P,hP=>by
  have hm:=hm (by simp)
  obtain⟨fd,e2,h',hne⟩:=h.step hgo
  have hlen:=h.len
  have hxl:=h.xl
  have po:∀c,(∀x:Ky,x∈bx->Gives c go x)->∀d,ar [.obj 1 d [] [],.lst ((x::xs).map i_),c] d kv=some (.lst (fd.map i_),((x::xs).foldl (j3 go) (kv,[])).1):=fun c hG d=>by
   rw[<- e2]
   refine xx (lf:=lf) ⟨fun z=>by rw[z] at hxl;simp at hxl,fun p hp=>hkd _ (h.val p hp).2.1⟩ (fun y hy=>?_) (by omega)
   obtain⟨w,hw,hl⟩:=h.new y hy
   obtain⟨h0,hn,_⟩:=h.val _ hw
   exact⟨⟨hG y hn,hkd y hn,fun e he=>hkd e ((hgo y hn).2 e he).2⟩,w,mN h.nd hw,by omega⟩
  have hlen':=h'.len
  have hkeys:iZ ((x::xs).foldl (j3 go) (kv,[])).1=iZ kv++fd:=by
   obtain⟨F,a1,a2⟩:=nV (go:=go) (x::xs) (kv,[])
   rw[e2,List.nil_append] at a2
   rw[a1,qe a2]
  have hks:=pe (go:=go) (x::xs) (kv,[]) fun y hy=>(hgo y (let ⟨w,hw,_⟩:=h.new y hy;(h.val _ hw).2.1)).1
  obtain⟨kf,L',hk,hB,hb,hlr⟩:=qx hkd hn8 hgo trivial m fd _ (L+1) h' (by omega) (fun z=>by have:=hne z;omega) (by omega) (iZ kv) hkeys
  have hlr':sL (j9 go) (iZ kv) P.length (iZ kf):=by
   refine .step (by rw[hP];simp) ?_
   rw[show(iZ kv).drop P.length=x::xs by rw[hP];simp,<- hks]
   exact hlr
  refine⟨kf,L',fun c hG d=>?_,hB,hb,hlr'⟩
  show(ar [.obj 1 d [] [],.lst ((x::xs).map i_),c] d kv).bind _=_
  rw[po c hG d]
  exact hk c hG d
theorem xh{go:Ky->List Ky}{bx:List Ky}{s:Ky}{lf:Bool}(hkd:∀x∈bx,x.isLeft=lf)(hn8:bx.length<=64)(hs:s∈bx)(hgo:∀x:Ky,x∈bx->(go x).length=6/\∀e∈go x,True/\e∈bx) :
  ∃kf L',(∀c,(∀x:Ky,x∈bx->Gives c go x)->∀d,tw ar c 100 [i_ s] d [(s,.str (oS ""))]=some kf)/\BI go bx s kf [] L'/\L'<=100/\sL (j9 go) [s] 0 (iZ kf):=by
 have he:(oS "").length=0:=by decide +kernel
 refine qx hkd hn8 hgo trivial 100 [s] [(s,.str (oS ""))] 0 ⟨by simp[iZ],fun p hp=>?_,List.mem_cons_self,fun x hx=>?_,Nat.le_refl _,fun x w hm hn=>?_,fun x w hm=>?_⟩ (by decide) (fun _=>by simp;omega) (by decide) [] rfl
 ·rw[List.mem_singleton.mp hp];exact⟨trivial,hs,_,rfl,by rw[he];exact Nat.le_refl _⟩
 ·rw[List.mem_singleton.mp hx];exact⟨_,List.mem_cons_self,he⟩
 ·have z:=List.mem_singleton.mp hm
  injection z with a b
  exact absurd (by rw[a];exact List.mem_cons_self) hn
 ·have z:=List.mem_singleton.mp hm
  injection z with a b
  injection b with b
  exact .inl ⟨a,b⟩
def dE:R->Option Out:=
 (oC ar 4 0 1 (.str (oS "")))
def aI:LD->OD:=via 2 4 dE
def gT:R->Option Out:=
 (k_ (ja (e8 (iY i4 (iP 0) (kI 0)) (e8 (iY i4 (iP 0) (kI 1)) iQ))))
def bE:LD->OD:=via 1 1 gT
def eE:R->Option Out:=
 (k_ (lT 1 (jh (iY i4 (iP 0) (kI 2))) (setAt 0) jL (iY i4 (iP 0) (kI 0))))
def aT:LD->OD:=via 1 1 eE
def cR:R->Option Out:=
 (k_ (lT 1 (jh (iP 0)) (setAt 0) jL (iR kC (e8 (iP 1) (e8 (iP 0) iQ)))))
def ax:LD->OD:=via 1 1 cR
def bQ:R->Option Out:=
 (k_ (iR ax (e8 (lT 1 (jR (iR lM (e8 (iP 0) iQ))) (setAt 0) jL (ja (e8 (iY i4 (iP 2) (iP 0)) (e8 (iR aj (e8 (iY i4 (iP 1) (iP 0)) (e8 (iP 2) iQ))) iQ)))) iQ)))
def aA:LD->OD:=via 2 2 bQ
def dg:R->Option Out:=
  (jb (i9 (iR ax (e8 (lT 1 (jh (iP 0)) (setAt 0) jL (ja (e8 (iR bE (e8 (iP 0) iQ)) (e8 (iR aT (e8 (iP 0) iQ)) iQ)))) iQ)) (setAt 1))
  (jb (i9 (iR aA (e8 (iP 0) (e8 (iP 1) iQ))) (setAt 2))
  (jb (qX (jV qK (iP 2) (iP 1))
  (jb (i9 (iP 2) (setAt 1))
  (i9 (iR aA (e8 (iP 0) (e8 (iP 1) iQ))) (setAt 2))) 20)
  (k_ (iP 1)))))
def aR:LD->OD:=via 1 3 dg
def fU:R->Option Out:=
  (jb (i9 (lT 1 (jh (iY i4 (iP 0) (kI 2))) (setAt 0) jL (ja (e8 (iY i4 (iP 0) (kI 0)) (e8 (iR nT (e8 (iP 3) (e8 (iY i4 (iP 2) (iY i4 (iP 0) (kI 1))) iQ))) iQ)))) (setAt 3))
  (k_ (ja (e8 (iY i4 (iP 0) (kI 0)) (e8 (iY i4 (iP 0) (kI 1)) (e8 (iR mv (e8 (iP 3) iQ)) iQ))))))
def bf:LD->OD:=via 3 4 fU
def eY:R->Option Out:=
  (jb (i9 (iY i4 (iP 0) (kI 2)) (setAt 1))
  (jb (i9 (iR aR (e8 (iP 1) iQ)) (setAt 2))
  (jb (i9 (iR tP (e8 (mZ aI uc (e8 (kI 0) iQ) (oT [1,2])) iQ)) (setAt 3))
  (k_ (ja (e8 (iY i4 (iP 0) (kI 0)) (e8 (iY i4 (iP 0) (kI 1)) (e8 (iR mv (e8 (lT 1 (jh (iP 3)) (setAt 0) jL (iR bf (e8 (iY i4 (iP 2) (iP 0)) (e8 (iP 3) (e8 (iP 4) iQ))))) iQ)) iQ))))))))
def bb:LD->OD:=via 1 4 eY
theorem gN:∀ds d,bb ds=some d->jQ (eY (qY 4 ds))=some d:=fun _ _ h=>fE h
theorem gu:∀ds d,bb ds=some d->ds.length=1:=fun _ _ h=>dH h
def bq:R->Option Out:=
  (jb (xU (jV Bt (iP 1) (iR lM (e8 (iP 0) iQ)))
  (k_ (iY i4 (iP 0) (iP 1)))
  ox)
  (k_ (kI 0)))
def av:LD->OD
 | [.fro xs,.int k]=>if 0<=k then (if k<xs.length then xs[k.toNat]? else some (.int 0)) else none
 | _=>none
theorem cT:∀ds d,av ds=some d->jQ (bq (qY 2 ds))=some d
 | [.fro xs,.int k],d,h=>by
  unfold av at h
  dsimp only at h
  split at h
  ·rename_i h0
   split at h
   ·rename_i h1
    obtain⟨hk,e⟩:=List.getElem?_eq_some_iff.mp h
    simp[bq,h1,tH,Ay,h0]
    exact e
   ·rename_i h1
    cases h
    simp[bq,h1]
  ·cases h
theorem cW:∀ds d,av ds=some d->ds.length=2:=fun ds d h=>by unfold av at h;split at h<;>first | rfl | cases h
def ci:R->Option Out:=
  (jb (i9 (iY j_ (iY rE (iY jJ (iY jJ (iR av (e8 (iP 0) (e8 (iP 1) iQ))) (iY rE (kI 7919) (iP 1))) (kI 1)) (kI 48271)) (kI 2147483647)) (setAt 2))
  (k_ (iY j_ (iY jJ (iY jJ (iY rE (iP 2) (iP 2)) (iY rE (kI 7) (iP 2))) (iP 1)) (kI 2147483629))))
def ak:LD->OD:=via 2 3 ci
theorem vI(ns:List Int)(k:Int)(h0:0<=k):∃c,av [.fro (ns.map .int),.int k]=some (.int c):=by
 unfold av
 dsimp only
 rw[if_pos h0]
 by_cases h1:k<((ns.map D.int).length:Int)
 ·rw[if_pos h1]
  have h2:k.toNat<ns.length:=by simp at h1;omega
  exact⟨ns[k.toNat],by rw[List.getElem?_map,List.getElem?_eq_getElem h2];rfl⟩
 ·rw[if_neg h1]
  exact⟨0,rfl⟩
theorem oB(ns:List Int)(k:Int)(h0:0<=k):∃m,ak [.fro (ns.map .int),.int k]=some (.int m)/\0<=m:=by
 obtain⟨c,hc⟩:=vI ns k h0
 generalize hq:(c+7919*k+1)*48271%2147483647=q
 have q0:0<=q:=by rw[<- hq];exact Int.emod_nonneg _ (by decide)
 have q1:q<2147483647:=by rw[<- hq];exact Int.emod_lt_of_pos _ (by decide)
 have m1:jI 7919 k=true:=kJ (by decide) (by decide)
 have m2:jI (c+7919*k+1) 48271=true:=pR (by decide) (by decide)
 have m3:jI q q=true:=kJ (by omega) (by omega)
 have m4:jI 7 q=true:=kJ (by decide) (by decide)
 refine⟨(q*q+7*q+k)%2147483629,?_,Int.emod_nonneg _ (by decide)⟩
 simp[ak,via,ci,hc,m1,m2,hq,m3,m4]
def bZ:R->Option Out:=
  (jb (i9 (iY j_ (iY rE (iY jJ (iY jJ (iP 0) (iY rE (kI 104729) (iP 1))) (kI 17)) (kI 69621)) (kI 2147483647)) (setAt 2))
  (k_ (iY j_ (iY jJ (iY jJ (iY rE (iP 2) (iP 2)) (iY rE (kI 3) (iP 2))) (iP 1)) (kI 2147483629))))
def aD:LD->OD:=via 2 3 bZ
def rD(n k:Int):Int:=((n+104729*k+17)*69621%2147483647*((n+104729*k+17)*69621%2147483647)+3*((n+104729*k+17)*69621%2147483647)+k)%2147483629
theorem oD(n k:Int):aD [.int n,.int k]=some (.int (rD n k)):=by
 unfold rD
 generalize hq:(n+104729*k+17)*69621%2147483647=q
 have q0:0<=q:=by rw[<- hq];exact Int.emod_nonneg _ (by decide)
 have q1:q<2147483647:=by rw[<- hq];exact Int.emod_lt_of_pos _ (by decide)
 have m1:jI 104729 k=true:=kJ (by decide) (by decide)
 have m2:jI (n+104729*k+17) 69621=true:=pR (by decide) (by decide)
 have m3:jI q q=true:=kJ (by omega) (by omega)
 have m4:jI 3 q=true:=kJ (by decide) (by decide)
 simp[aD,via,bZ,m1,m2,hq,m3,m4]
def cD:R->Option Out:=
  (jb (i9 (iY jJ (kI 1) (iY j_ (iP 0) (kI 8))) (setAt 1))
  (jb (i9 (ja (e8 (kS "none") (e8 (kS "hour") (e8 (kS "minute") (e8 (kS "zero") (e8 (kS "ahour") (e8 (kS "aminute") (e8 (kS "alarm") (e8 (kS "run") (e8 (kS "lap") (e8 (kS "cminute") (e8 (kS "csecond") (e8 (kS "full") iQ))))))))))))) (setAt 2))
  (jb (i9 (ja iQ) (setAt 3))
  (jb (kx (jR (iP 1)) (setAt 4)
  (jb (i9 (iY lu (iR aD (e8 (iP 0) (e8 (iP 4) iQ))) (kI 4)) (setAt 5))
  (jb (i9 (ja iQ) (setAt 6))
  (jb (kx (jR (kI 6)) (setAt 7)
  (jb (i9 (iY lu (iR aD (e8 (iP 5) (e8 (iY jJ (kI 10) (iP 7)) iQ))) (kI 4)) (setAt 8))
  (i9 (iY jJ (iP 6) (ja (e8 (ja (e8 (iY i4 (iY jJ (iP 2) (ja (e8 (kS "count") iQ))) (iY j_ (iP 8) (kI 13))) (e8 (iY j_ (iY lu (iP 8) (kI 16)) (iP 1)) iQ))) iQ))) (setAt 6))))
  (jb (i9 (iY i4 (ja (e8 (kS "time") (e8 (kS "alarm") (e8 (kS "laps") (e8 (kS "count") iQ))))) (iY j_ (iP 5) (kI 4))) (setAt 9))
  (i9 (iY jJ (iP 3) (ja (e8 (ja (e8 (iP 9) (e8 (tV (jV vY (iY j_ (iY lu (iP 5) (kI 4)) (kI 2)) (kI 0))) (e8 (iP 6) iQ)))) iQ))) (setAt 3)))))))
  (k_ (ja (e8 (iY jJ (kI 1) (iY j_ (iY lu (iP 0) (kI 8)) (iY i4 (ja (e8 (kI 3) (e8 (kI 9) iQ))) (iY j_ (iY lu (iP 0) (kI 128)) (kI 2))))) (e8 (iY i4 (ja (e8 (kI 0) (e8 (kI 7) (e8 (kI 60) (e8 (kI 1) (e8 (kI 20) iQ)))))) (iY j_ (iY lu (iP 0) (kI 256)) (kI 5))) (e8 (iP 3) iQ)))))))))
def aM:LD->OD:=via 1 10 cD
def jT:LD:=[.str (oS "none"),.str (oS "hour"),.str (oS "minute"),.str (oS "zero"),.str (oS "ahour"),.str (oS "aminute"),.str (oS "alarm"),.str (oS "run"),.str (oS "lap"),.str (oS "cminute"),.str (oS "csecond"),.str (oS "full")]
theorem sf:∀x∈nL,oneOf x nL=true/\Fits x:=by
 intro x hx
 simp only[nL,List.mem_cons,List.not_mem_nil,or_false] at hx
 rcases hx with h | h | h | h | h | h | h | h | h | h | h | h | h<;>subst h<;>exact⟨by decide,.str _⟩
theorem rV:∀x∈oz,oneOf x oz=true/\Fits x:=by
 intro x hx
 simp only[oz,List.mem_cons,List.not_mem_nil,or_false] at hx
 rcases hx with h | h | h | h<;>subst h<;>exact⟨by decide,.str _⟩
def mT:R->Option Out:=(jb (i9 (iY lu (iR aD (e8 (iP 5) (e8 (iY jJ (kI 10) (iP 7)) iQ))) (kI 4)) (setAt 8))
 (i9 (iY jJ (iP 6) (ja (e8 (ja (e8 (iY i4 (iY jJ (iP 2) (ja (e8 (kS "count") iQ))) (iY j_ (iP 8) (kI 13))) (e8 (iY j_ (iY lu (iP 8) (kI 16)) (iP 1)) iQ))) iQ))) (setAt 6)))
theorem sz{n:Nat}(h:n<=1000):n<=sizeLine:=Nat.le_trans h (by decide)
theorem ga{N m:Int}{ms rs:LD}{a b f:OD}{q j:Int}(hm:0<m)(hr:rs.length<=100)(hk:∀x∈rs,mV x m=true/\Fits x) :
  ∃o r,mT [some (.int N),some (.int m),some (.tup jT),some (.tup ms),a,some (.int q),some (.tup rs),some (.int j),b,f]=some (.nx [some (.int N),some (.int m),some (.tup jT),some (.tup ms),a,some (.int q),some (.tup (rs++[r])),some (.int j),o,f])/\mV r m=true/\Fits r:=by
 generalize hz:rD q (10+j) / 4=z
 obtain⟨x,hx,hat⟩:=mJ (xs:=nL) (i:=z%13) (Int.emod_nonneg _ (by decide)) (Int.emod_lt_of_pos _ (by decide))
 have w0:0<=z / 16%m:=Int.emod_nonneg _ (by omega)
 have w1:z / 16%m<m:=Int.emod_lt_of_pos _ hm
 have hl:rs.length+1<=sizeLine:=sz (by omega)
 have hd:jT++[.str (oS "count")]=nL:=rfl
 have hs:jT.length+1<=sizeLine:=by decide
 refine⟨some (.int z),.tup [x,.int (z / 16%m)],?_,?_,?_⟩
 ·simp[mT,oD,hz,hd,hat,hm,hl,hs]
 ·simp[mV,(sf x hx).1,within,w0]
  omega
 ·exact .tup (by simp) (by
   intro y hy
   simp at hy
   rcases hy with h | h<;>subst h
   ·exact(sf _ hx).2
   ·exact .int _)
def m7:R->Option Out:=(jb (i9 (iY lu (iR aD (e8 (iP 0) (e8 (iP 4) iQ))) (kI 4)) (setAt 5))
  (jb (i9 (ja iQ) (setAt 6))
  (jb (kx (jR (kI 6)) (setAt 7) mT)
  (jb (i9 (iY i4 (ja (e8 (kS "time") (e8 (kS "alarm") (e8 (kS "laps") (e8 (kS "count") iQ))))) (iY j_ (iP 5) (kI 4))) (setAt 9))
  (i9 (iY jJ (iP 3) (ja (e8 (ja (e8 (iP 9) (e8 (tV (jV vY (iY j_ (iY lu (iP 5) (kI 4)) (kI 2)) (kI 0))) (e8 (iP 6) iQ)))) iQ))) (setAt 3))))))
def Be(N m q:Int)(ms:LD)(a f:OD)(i:Nat)(ρ:R):Prop:=∃rs o j,ρ=[some (.int N),some (.int m),some (.tup jT),some (.tup ms),a,some (.int q),some (.tup rs),j,o,f]/\rs.length=i/\∀x∈rs,mV x m=true/\Fits x
theorem ft{N m q:Int}{ms:LD}{a b c f:OD}(hm:0<m) :
  ∃rs o j,mP (setAt 7) mT (kj 0 6) [some (.int N),some (.int m),some (.tup jT),some (.tup ms),a,some (.int q),some (.tup []),b,c,f]=some (.nx [some (.int N),some (.int m),some (.tup jT),some (.tup ms),a,some (.int q),some (.tup rs),j,o,f])/\rs.length=6/\∀x∈rs,mV x m=true/\Fits x:=by
 obtain⟨ρ',h1,rs,o,j,h2,h3,h4⟩:=mO (st:=setAt 7) (body:=mT) (Be N m q ms a f) (kj 0 6) 0 [some (.int N),some (.int m),some (.tup jT),some (.tup ms),a,some (.int q),some (.tup []),b,c,f]
  ⟨[],c,b,rfl,rfl,fun x hx=>nomatch hx⟩ (fun i d ρ e p=>by
   obtain⟨rs,o,j,rfl,hl,hk⟩:=p
   obtain⟨rfl,hi⟩:=eJ e
   obtain⟨o',r,h1,h2,h3⟩:=ga (N:=N) (ms:=ms) (a:=a) (b:=o) (f:=f) (q:=q) (j:=(i:Int)) hm (rs:=rs) (by omega) hk
   refine⟨_,_,rfl,h1,rs++[r],o',_,rfl,by simp[hl],fun x hx=>?_⟩
   rcases List.mem_append.mp hx with hx | hx
   ·exact hk x hx
   ·cases List.mem_singleton.mp hx
    exact⟨h2,h3⟩)
 subst h2
 refine⟨rs,o,j,h1,?_,h4⟩
 rw[h3,eQ]
 rfl
theorem fq{N m:Int}{ms:LD}{k:Int}{a b c d e:OD}(hm:0<m)(hms:ms.length<=100) :
  ∃r o1 o2 o3 o4 o5,m7 [some (.int N),some (.int m),some (.tup jT),some (.tup ms),some (.int k),a,b,c,d,e]=some (.nx [some (.int N),some (.int m),some (.tup jT),some (.tup (ms++[r])),some (.int k),o1,o2,o3,o4,o5])/\mq r m=true/\Fits r:=by
 generalize hq:rD N k / 4=q
 obtain⟨rs,o,j,h1,h2,h3⟩:=ft (N:=N) (m:=m) (q:=q) (ms:=ms) (a:=some (.int k)) (b:=c) (c:=d) (f:=e) hm
 obtain⟨x,hx,hat⟩:=mJ (xs:=oz) (i:=q%4) (Int.emod_nonneg _ (by decide)) (Int.emod_lt_of_pos _ (by decide))
 have hl:ms.length+1<=sizeLine:=sz (by omega)
 refine⟨.tup [x,.bl (q / 4%2==0),.tup rs],some (.int q),some (.tup rs),j,o,some x,?_,?_,?_⟩
 rotate_left 1
 ·have ha:(rs.all fun y=>mV y m)=true:=List.all_eq_true.mpr fun y hy=>(h3 y hy).1
  simp[mq,(rV x hx).1,tX,h2,ha]
 ·refine .tup (by simp) fun y hy=>?_
  simp at hy
  rcases hy with h | h | h<;>subst h
  ·exact(rV _ hx).2
  ·exact .bl _
  ·exact .tup (by omega) fun y hy=>(h3 y hy).2
 ·have hat':tH [.str (oS "time"),.str (oS "alarm"),.str (oS "laps"),.str (oS "count")] (q%4)=some x:=hat
  simp[m7,oD,hq,h1,hat',hl]
def AX(N m:Int)(i:Nat)(ρ:R):Prop:=∃ms a b c d e f,ρ=[some (.int N),some (.int m),some (.tup jT),some (.tup ms),a,b,c,d,e,f]/\ms.length=i/\∀x∈ms,mq x m=true/\Fits x
theorem fg(N:Int):∃b,aM [.int N]=some b/\rf b=true/\Fits b:=by
  generalize hM:1+N%8=m
  have hm0:0<m:=by have:=Int.emod_nonneg N (show(8:Int)≠0 by decide);omega
  have hm8:m<=8:=by have:=Int.emod_lt_of_pos N (show(0:Int)<8 by decide);omega
  obtain⟨ρ',h1,ms,a,b,c,d,e,f,h2,h3,h4⟩:=mO (st:=setAt 4) (body:=m7) (AX N m) (kj 0 m) 0 [some (.int N),some (.int m),some (.tup jT),some (.tup []),none,none,none,none,none,none]
    ⟨[],none,none,none,none,none,none,rfl,rfl,fun x hx=>nomatch hx⟩ (fun i d ρ e p=>by
      obtain⟨ms,a,b,c,d',e',f,rfl,hl,hk⟩:=p
      obtain⟨rfl,hi⟩:=eJ e
      obtain⟨r,o1,o2,o3,o4,o5,h1,h2,h3⟩:=fq (N:=N) (ms:=ms) (k:=(i:Int)) (a:=b) (b:=c) (c:=d') (d:=e') (e:=f) hm0 (by omega)
      refine⟨_,_,rfl,h1,ms++[r],_,_,_,_,_,_,rfl,by simp[hl],fun x hx=>?_⟩
      rcases List.mem_append.mp hx with hx | hx
      · exact hk x hx
      · cases List.mem_singleton.mp hx
        exact⟨h2,h3⟩)
  subst h2
  rw[eQ] at h3
  have hlen:((ms.length:Nat):Int)=m:=by omega
  have hr : -4611686018427387904<=m/\m<4611686018427387904:=by omega
  obtain⟨p,hp,hat⟩:=mJ (xs:=[.int 3,.int 9]) (i:=N / 128%2) (Int.emod_nonneg _ (by decide)) (Int.emod_lt_of_pos _ (by decide))
  have hp':∃v:Int,p=.int v/\0<v/\v<=9:=by
    simp at hp
    rcases hp with h | h<;>subst h
    · exact⟨3,rfl,by decide,by decide⟩
    · exact⟨9,rfl,by decide,by decide⟩
  obtain⟨v,rfl,hv0,hv9⟩:=hp'
  obtain⟨p2,hp2,hat2⟩:=mJ (xs:=[.int 0,.int 7,.int 60,.int 1,.int 20]) (i:=N / 256%5) (Int.emod_nonneg _ (by decide)) (Int.emod_lt_of_pos _ (by decide))
  have hp2':∃v:Int,p2=.int v/\0<=v/\v<=60:=by
    simp at hp2
    rcases hp2 with h | h | h | h | h<;>subst h
    · exact⟨0,rfl,by decide,by decide⟩
    · exact⟨7,rfl,by decide,by decide⟩
    · exact⟨60,rfl,by decide,by decide⟩
    · exact⟨1,rfl,by decide,by decide⟩
    · exact⟨20,rfl,by decide,by decide⟩
  obtain⟨v2,rfl,hv20,hv260⟩:=hp2'
  have w0:0<=N / 8%v:=Int.emod_nonneg _ (by omega)
  have w1:N / 8%v<v:=Int.emod_lt_of_pos _ hv0
  refine⟨.tup [.int (1+N / 8%v),.int v2,.tup ms],?_,?_,?_⟩
  · have hg:cD=(jb (i9 (iY jJ (kI 1) (iY j_ (iP 0) (kI 8))) (setAt 1))
      (jb (i9 (ja (e8 (kS "none") (e8 (kS "hour") (e8 (kS "minute") (e8 (kS "zero") (e8 (kS "ahour") (e8 (kS "aminute") (e8 (kS "alarm") (e8 (kS "run") (e8 (kS "lap") (e8 (kS "cminute") (e8 (kS "csecond") (e8 (kS "full") iQ))))))))))))) (setAt 2))
      (jb (i9 (ja iQ) (setAt 3))
      (jb (kx (jR (iP 1)) (setAt 4) m7)
      (k_ (ja (e8 (iY jJ (kI 1) (iY j_ (iY lu (iP 0) (kI 8)) (iY i4 (ja (e8 (kI 3) (e8 (kI 9) iQ))) (iY j_ (iY lu (iP 0) (kI 128)) (kI 2))))) (e8 (iY i4 (ja (e8 (kI 0) (e8 (kI 7) (e8 (kI 60) (e8 (kI 1) (e8 (kI 20) iQ)))))) (iY j_ (iY lu (iP 0) (kI 256)) (kI 5))) (e8 (iP 3) iQ))))))))):=rfl
    unfold jT at h1
    simp[aM,via,hg,hM,hr,h1,hat,hat2,hv0]
  · have ha:(ms.all fun y=>mq y ms.length)=true:=List.all_eq_true.mpr fun y hy=>by rw[hlen];exact(h4 y hy).1
    have g1:1<=ms.length:=by omega
    have g8:ms.length<=8:=by omega
    simp[rf,within,rg,ha,g1,g8]
    omega
  · refine .tup (by simp) fun y hy=>?_
    simp at hy
    rcases hy with h | h | h<;>subst h
    · exact .int _
    · exact .int _
    · exact .tup (by omega) fun y hy=>(h4 y hy).2
def dP:R->Option Out:=
  (jb (i9 (ja iQ) (setAt 1))
  (jb (kx (jh (iY i4 (iP 0) (kI 2))) (j4 [(setAt 2),(setAt 3),(setAt 4)])
  (jb (i9 (iR mv (e8 (lT 2 (jh (iP 4)) (j4 [(setAt 0),(setAt 1)]) jL (ja (e8 (iY i4 (si (e8 (kS "none") (e8 (kS "hour") iQ))) (iR rh (e8 (tV (jV wQ (iP 0) (kS "count"))) iQ))) (e8 (iP 1) iQ)))) iQ)) (setAt 5))
  (i9 (iY jJ (iP 1) (ja (e8 (ja (e8 (iY i4 (si (e8 (kS "time") (e8 (kS "alarm") iQ))) (iR rh (e8 (tV (jV vY (iP 2) (kS "laps"))) iQ))) (e8 (fun _=>some (.bl true)) (e8 (iP 5) iQ)))) iQ))) (setAt 1))))
  (k_ (ja (e8 (iY i4 (iP 0) (kI 0)) (e8 (iY i4 (iP 0) (kI 1)) (e8 (iP 1) iQ)))))))
def aU:LD->OD:=via 1 6 dP
def dA:R->Option Out:=
  (jb (lN 4 (i9 (lT 1 (jh (iY i4 (iP 0) (kI 2))) (setAt 0) jL (iR nQ (e8 (vV (iP 0) xH (aP (kI 2))) iQ))) (setAt 1)))
  (jb (kx (jR (iR lM (e8 (iP 1) iQ))) (setAt 2)
  (zr 5 iQ
  (xF (tF (oX (iP 1) (iY i4 (iP 0) (kI 2))) (j4 [(setAt 3),(setAt 4)])
  (se 5 (iR nQ (e8 (ja (e8 (iP 3) (e8 (lT 2 (jh (iY i4 (iP 4) (kI 2))) (j4 [(setAt 0),(setAt 1)]) jL (ja (e8 (iP 0) (e8 (iY i4 (iP 3) (iP 1)) iQ)))) iQ))) iQ))))
  (xA (i9 (lT 1 (jh (iP 5)) (setAt 0) jL (iR yo (e8 (iR kC (e8 (iP 6) (e8 (iP 0) iQ))) iQ))) (setAt 1))))))
  (k_ (iP 1))))
def aO:LD->OD:=via 1 6 dA
def bv:NU:=
  (BK (jV rz (iY i4 (iP 3) (iP 6)) (iP 13))
  (lG (sE 13 1 (iY i4 (iP 3) (iP 6)))
  (sE 12 0 (iP 6)))
  yN)
def aN:NU:=
  (lG (qN (iY i4 (iY i4 (iY i4 (iP 1) (kI 2)) (iY i4 (iP 12) (iP 4))) (kI 2)) (j4 [(setAt 5),(setAt 6)]) bv)
  (mR (i9 (iY jJ (iP 4) (kI 1)) (setAt 4))))
def gX:R->Option Out:=
  (jb (i9 (iR aM (e8 (iR ak (e8 (iP 0) (e8 (kI 0) iQ))) iQ)) (setAt 1))
  (jb (xU (jV yV (iY j_ (iR ak (e8 (iP 0) (e8 (kI 1) iQ))) (kI 3)) (kI 0))
  (i9 (iR aU (e8 (iP 1) iQ)) (setAt 1))
  ox)
  (jb (xU (jV vY (iY j_ (iY lu (iR ak (e8 (iP 0) (e8 (kI 1) iQ))) (kI 4)) (kI 3)) (kI 0))
  (jb (lN 10 (lN 9 (lN 8 (i9 (iR mv (e8 (lT 3 (jh (iY i4 (iP 1) (kI 2))) (j4 [(setAt 0),(setAt 1),(setAt 2)]) jL (ja (e8 (iP 0) (e8 (iP 1) (e8 (iY pX (vV (iP 2) xH (aP (kI 1))) (kI 6)) iQ))))) iQ)) (setAt 2)))))
  (i9 (iY jJ (vV (iP 1) xH (aP (kI 2))) (ja (e8 (iP 2) iQ))) (setAt 1)))
  ox)
  (jb (i9 (iR aO (e8 (iP 1) iQ)) (setAt 3))
  (yC 12 (e8 (kI 0) iQ)
  (oR 13 (e8 (iY i4 (iP 3) (kI 0)) iQ)
  (lG (mR (i9 (kI 0) (setAt 4)))
  (lG (lS 100 (jV Bt (iP 4) (iR lM (e8 (iP 12) iQ))) aN)
  (oZ (jb (i9 (ja iQ) (setAt 2))
  (jb (kx (jh (iP 12)) (setAt 7)
  (jb (i9 (iY i4 (iY i4 (iP 1) (kI 2)) (iP 7)) (j4 [(setAt 8),(setAt 9),(setAt 10)]))
  (jb (i9 (ja iQ) (setAt 11))
  (jb (kx (jh (iP 10)) (j4 [(setAt 5),(setAt 6)])
  (i9 (iY jJ (iP 11) (ja (e8 (ja (e8 (iP 5) (e8 (iR kC (e8 (iP 13) (e8 (iY i4 (iP 3) (iP 6)) iQ))) iQ))) iQ))) (setAt 11)))
  (i9 (iY jJ (iP 2) (ja (e8 (ja (e8 (iP 8) (e8 (iP 9) (e8 (iP 11) iQ)))) iQ))) (setAt 2))))))
  (k_ (tV (jV pK (iR bb (e8 (iP 1) iQ)) (ja (e8 (iY i4 (iP 1) (kI 0)) (e8 (iY i4 (iP 1) (kI 1)) (e8 (iP 2) iQ))))))))))))))))))
def cE:LD->OD:=via 1 14 gX
theorem iI:∀ds d,cE ds=some d->jQ (gX (qY 14 ds))=some d:=fun _ _ h=>fE h
theorem iK:∀ds d,cE ds=some d->ds.length=1:=fun _ _ h=>dH h
def Bk.md(b:Bk)(x:Nat):Md:=b.modes.getD x default
def Md.row(m:Md)(k:Nat):jn×Nat:=m.rows.getD k default
theorem zf{b:Bk}{x:Nat}(h:x<b.modes.length):b.md x∈b.modes:=by
 unfold Bk.md
 rw[List.getD_eq_getElem?_getD,List.getElem?_eq_getElem h]
 exact List.getElem_mem h
theorem mn{b:Bk}(ok:b.Ok){x:Nat}(h:x<b.modes.length):(b.md x).Ok b.modes.length:=ok.all _ (zf h)
theorem uP{m:Md}{k:Nat}(h:k<m.rows.length):m.rows[k]?=some (m.row k):=by
 unfold Md.row
 rw[List.getD_eq_getElem?_getD,List.getElem?_eq_getElem h];rfl
def jn.ofX(x:Str):Option jn:=[jn.none,.hour,.minute,.zero,.ahour,.aminute,.alarm,.run,.lap,.cminute,.csecond,.full,.count].find? (·.x==x)
theorem y1(d:jn):jn.ofX d.x=some d:=by cases d<;>rfl
theorem sN{a b:jn}(h:a.x=b.x):a=b:=by
 have:=y1 a
 rw[h,y1 b] at this
 exact(Option.some.inj this).symm
theorem uH{b:Bk}{x:Nat}(h:x<b.modes.length):tH (b.modes.map Md.d) (x:Int)=some (b.md x).d:=
 nD (by rw[List.getElem?_map,List.getElem?_eq_getElem h];unfold Bk.md;rw[List.getD_eq_getElem?_getD,List.getElem?_eq_getElem h];rfl)
theorem yT{b:Bk}{x:Nat}{f g:R->OD}{ρ:R}(hf:f ρ=some b.d)(hg:g ρ=some (.int (x:Int)))(h:x<b.modes.length):iY i4 (iY i4 f (kI 2)) g ρ=some (b.md x).d:=by
 show((f ρ).bind fun x=>(some (D.int 2)).bind fun y=>i4 x y).bind (fun x=>(g ρ).bind fun y=>i4 x y)=_
 rw[hf,hg]
 exact uH h
theorem xP{f:R->OD}{ρ:R}{m:Md}(h:f ρ=some m.d):vV f xH (aP (kI 2)) ρ=some (.tup [.str m.face.x,.bl m.stays]):=by
 show(f ρ).bind _=_
 rw[h];rfl
theorem bJ{m:Md}(h:m.rows.length=6){β:Type}(f:jn×Nat->β):m.rows.map f=(List.range 6).map fun k=>f (m.row k):=by
 apply List.ext_getElem?
 intro i
 rw[List.getElem?_map,List.getElem?_map]
 by_cases hi:i<6
 ·rw[uP (by omega),List.getElem?_range hi];rfl
 ·rw[List.getElem?_eq_none (by omega),List.getElem?_eq_none (by simpa using hi)];rfl
theorem gC(m:Md):bE [m.d]=some (.tup [.str m.face.x,.bl m.stays]):=rfl
theorem uR{m:Md}(h:m.rows.length=6){j:Int}{f:jn×Nat->D}(hf:∀r,i4 (je r) (.int j)=some (f r)):lT 1 (jh (iY i4 (iP 0) (kI 2))) (setAt 0) jL (iY i4 (iP 0) (kI j)) [some m.d]=some (.lst ((List.range 6).map fun k=>f (m.row k))):=by
 have hc:lc (setAt 0) jL (iY i4 (iP 0) (kI j)) (m.rows.map je) (List.replicate 1 none++[some m.d])=some ((m.rows.map je).map fun d=>(i4 d (.int j)).getD .non):=
  li _ fun d hd=>by
   obtain⟨r,_,rfl⟩:=List.mem_map.mp hd
   refine⟨_,rfl,?_⟩
   rw[hf r]
   exact hf r
 have hi:jh (iY i4 (iP 0) (kI 2)) [some m.d]=some (m.rows.map je):=rfl
 unfold lT
 rw[hi,Option.bind_some,if_pos (wH (by rw[List.length_map];omega)),hc,List.map_map,bJ h]
 show some (D.lst _)=_
 congr 2
 apply List.map_congr_left
 intro k _
 show(i4 (je (m.row k)) (.int j)).getD .non=_
 rw[hf];rfl
theorem gl{m:Md}(h:m.rows.length=6):bN [m.d]=some (.lst ((List.range 6).map fun k=>.int ((m.row k).2:Int))):=
 l0 (uR h (j:=1) (f:=fun r=>.int (r.2:Int)) fun _=>rfl)
theorem gO{m:Md}(h:m.rows.length=6):aT [m.d]=some (.lst ((List.range 6).map fun k=>.str (m.row k).1.x)):=
 l0 (uR h (j:=0) (f:=fun r=>.str r.1.x) fun _=>rfl)
def i7{α:Type}[DecidableEq α](κ:Nat->α)(n i:Nat):Nat:=(List.range n).findIdx fun j=>decide (κ j=κ i)
theorem lQ{α:Type}[DecidableEq α]{κ:Nat->α}{n i:Nat}(hi:i<n):i7 κ n i<n:=by
 unfold i7
 have:=List.findIdx_lt_length_of_exists (xs:=List.range n) (p:=fun j=>decide (κ j=κ i)) ⟨i,List.mem_range.mpr hi,by simp⟩
 rwa [List.length_range] at this
theorem oO{α:Type}[DecidableEq α]{κ:Nat->α}{n i:Nat}(hi:i<n):κ (i7 κ n i)=κ i:=by
 have h:=lQ (κ:=κ) hi
 have w:(List.range n).findIdx (fun j=>decide (κ j=κ i))<(List.range n).length:=by rw[List.length_range];exact h
 have:=List.findIdx_getElem (w:=w)
 rw[List.getElem_range] at this
 exact of_decide_eq_true this
theorem qF{α:Type}[DecidableEq α]{κ:Nat->α}{n i j:Nat}(hj:j<i7 κ n i):κ j≠κ i:=by
 have:=List.not_of_lt_findIdx (xs:=List.range n) (p:=fun j=>decide (κ j=κ i)) hj
 rw[List.getElem_range] at this
 simpa using this
theorem xB{α:Type}[DecidableEq α]{κ:Nat->α}{n i:Nat}(hi:i<n):i7 κ n i<=i:=by
 rcases Nat.lt_or_ge i (i7 κ n i) with h | h
 ·exact absurd rfl (qF h)
 ·exact h
theorem mE{α:Type}[DecidableEq α]{κ:Nat->α}{n i j:Nat}(hi:i<n)(hj:j<n):i7 κ n i=i7 κ n j↔κ i=κ j:=by
 constructor
 ·intro h
  exact(oO hi).symm.trans ((congrArg κ h).trans (oO hj))
 ·intro h
  unfold i7
  rw[h]
theorem yh{α:Type}[DecidableEq α]{κ:Nat->α}{n i:Nat}(hi:i<n):i7 κ n (i7 κ n i)=i7 κ n i:=(mE (lQ hi) hi).mpr (oO hi)
theorem pP{α β:Type}[DecidableEq α][DecidableEq β]{κ:Nat->α}{μ:Nat->β}{n i:Nat}(h:∀a b,a<n->b<n->(κ a=κ b↔μ a=μ b))(hi:i<n):i7 κ n i=i7 μ n i:=by
 rcases Nat.lt_trichotomy (i7 κ n i) (i7 μ n i) with z | z | z
 ·exact absurd ((h _ _ (lQ hi) hi).mp (oO hi)) (qF z)
 ·exact z
 ·exact absurd ((h _ _ (lQ hi) hi).mpr (oO hi)) (qF z)
structure ya (n:Nat) (h:Nat->Nat):Prop where
 le:∀i,i<n->h i<=i
 id:∀i,i<n->h (h i)=h i
theorem qW{α:Type}[DecidableEq α](κ:Nat->α)(n:Nat):ya n (i7 κ n):=⟨fun _ hi=>xB hi,fun _ hi=>yh hi⟩
def m5(n:Nat)(h:Nat->Nat):Nat:=((List.range n).filter fun i=>decide (h i=i)).length
theorem qo{p q:Nat->Bool}:∀{l:List Nat},(∀x∈l,p x=true->q x=true)->(∃x∈l,q x=true/\p x=false)->(l.filter p).length<(l.filter q).length
 | [],_,h=>by obtain⟨x,hx,_⟩:=h;cases hx
 | a::l,h1,h2=>by
  have le:(l.filter p).length<=(l.filter q).length:=by
   have:∀l:List Nat,(∀x∈l,p x=true->q x=true)->(l.filter p).length<=(l.filter q).length:=fun l=>by
    induction l with
    | nil=>intro _;exact Nat.le_refl _
    | cons b l ih =>
     intro h
     have ih:=ih fun x hx=>h x (List.mem_cons_of_mem _ hx)
     have hb:=h b List.mem_cons_self
     rw[List.filter_cons,List.filter_cons]
     cases hp:p b with
     | true=>rw[hb hp];simp;exact ih
     | false =>
      cases hq:q b with
      | true=>simp;omega
      | false=>simpa using ih
   exact this l fun x hx=>h1 x (List.mem_cons_of_mem _ hx)
  rw[List.filter_cons,List.filter_cons]
  obtain⟨x,hx,hq,hp⟩:=h2
  rcases List.mem_cons.mp hx with rfl | hx
  ·rw[hq,hp];simp;omega
  ·have ih:=qo (l:=l) (fun x hx=>h1 x (List.mem_cons_of_mem _ hx)) ⟨x,hx,hq,hp⟩
   have ha:=h1 a List.mem_cons_self
   cases hpa:p a with
   | true=>rw[ha hpa];simp;exact ih
   | false =>
    cases hqa:q a with
    | true=>simp;omega
    | false=>simpa using ih
theorem wV{n:Nat}{h h':Nat->Nat}(f:ya n h)(f':ya n h')(r:∀i j,i<n->j<n->h' i=h' j->h i=h j)(x:∃i,i<n/\h' i≠h i):m5 n h<m5 n h':=by
 refine qo (fun i hi hh=>?_) ?_
 ·have hi:=List.mem_range.mp hi
  have e:h i=i:=of_decide_eq_true hh
  have l1:=f'.le i hi
  have e2:h (h' i)=h i:=r _ _ (by omega) hi (f'.id i hi)
  have l2:=f.le (h' i) (by omega)
  exact decide_eq_true (by omega)
 ·obtain⟨i,hi,hne⟩:=x
  have l1:=f'.le i hi
  refine⟨h' i,List.mem_range.mpr (by omega),decide_eq_true (f'.id i hi),decide_eq_false fun z=>hne ?_⟩
  rw[<- z]
  exact r _ _ (by omega) hi (f'.id i hi)
theorem wR(n:Nat)(h:Nat->Nat):m5 n h<=n:=by
 unfold m5
 exact Nat.le_trans (List.length_filter_le _ _) (by simp)
structure pF where
 n:Nat
 lk:Nat->Face×Bool
 dd:Nat->Nat->jn
 g:Nat->Nat->Nat
 gn:∀i k,i<n->k<6->g i k<n
 n1:1<=n
 n8:n<=8
section
variable{a:pF}
def vh(a:pF)(i:Nat):(Face×Bool)×List jn:=(a.lk i,(List.range 6).map (a.dd i))
def mG(a:pF)(h:Nat->Nat)(i:Nat):Nat×List Nat:=(h i,(List.range 6).map fun k=>h (a.g i k))
def iW(a:pF):Nat->Nat->Nat
 | 0=>i7 (vh a) a.n
 | t+1=>i7 (mG a (iW a t)) a.n
theorem qQ{α:Type}{f g:Nat->α}:(List.range 6).map f=(List.range 6).map g↔∀k,k<6->f k=g k:=by
 constructor
 ·intro h k hk
  have:=congrArg (fun l=>l[k]?) h
  simpa [List.getElem?_map,List.getElem?_range hk] using this
 ·intro h
  exact List.map_congr_left fun k hk=>h k (List.mem_range.mp hk)
theorem Ai{i j:Nat}:vh a i=vh a j↔a.lk i=a.lk j/\∀k,k<6->a.dd i k=a.dd j k:=by
 unfold vh
 rw[Prod.mk.injEq,qQ]
theorem qU{h:Nat->Nat}{i j:Nat}:mG a h i=mG a h j↔h i=h j/\∀k,k<6->h (a.g i k)=h (a.g j k):=by
 unfold mG
 rw[Prod.mk.injEq,qQ]
theorem uN(t:Nat):ya a.n (iW a t):=by
 cases t with
 | zero=>exact qW _ _
 | succ t=>exact qW _ _
theorem qL{i j:Nat}(hi:i<a.n)(hj:j<a.n):iW a 0 i=iW a 0 j↔a.lk i=a.lk j/\∀k,k<6->a.dd i k=a.dd j k:=(mE hi hj).trans Ai
theorem og(t:Nat){i j:Nat}(hi:i<a.n)(hj:j<a.n):iW a (t+1) i=iW a (t+1) j↔iW a t i=iW a t j/\∀k,k<6->iW a t (a.g i k)=iW a t (a.g j k):=(mE hi hj).trans qU
theorem oA(t:Nat):∀i j,i<a.n->j<a.n->iW a (t+1) i=iW a (t+1) j->iW a t i=iW a t j:=fun i j hi hj h=>((og t hi hj).mp h).1
theorem jW{T:Nat}(h:∀i,i<a.n->iW a (T+1) i=iW a T i):∀s i,i<a.n->iW a (T+s) i=iW a T i
 | 0,_,_=>rfl
 | s+1,i,hi=>by
  rw[<- h i hi]
  show i7 (mG a (iW a (T+s))) a.n i=i7 (mG a (iW a T)) a.n i
  refine pP (fun x y hx hy=>?_) hi
  rw[qU,qU,jW h s x hx,jW h s y hy]
  constructor
  ·rintro⟨h1,h2⟩
   exact⟨h1,fun k hk=>by have:=h2 k hk;rwa [jW h s _ (a.gn x k hx hk),jW h s _ (a.gn y k hy hk)] at this⟩
  ·rintro⟨h1,h2⟩
   exact⟨h1,fun k hk=>by rw[jW h s _ (a.gn x k hx hk),jW h s _ (a.gn y k hy hk)];exact h2 k hk⟩
def lJ(a:pF)(κ:Nat->Str)(i:Nat):Str×List (jn×Str):=(κ i,(List.range 6).map fun k=>(a.dd i k,κ (a.g i k)))
def jm(a:pF)(κ0:Nat->Str):Nat->Nat->Str
 | 0=>κ0
 | t+1=>fun i=>toString ((i7 (lJ a (jm a κ0 t)) a.n i:Nat):Int)
theorem qH{κ:Nat->Str}{i j:Nat}:lJ a κ i=lJ a κ j↔κ i=κ j/\∀k,k<6->a.dd i k=a.dd j k/\κ (a.g i k)=κ (a.g j k):=by
 unfold lJ
 rw[Prod.mk.injEq,qQ]
 simp only[Prod.mk.injEq]
theorem xX{x y:Nat}(hx:x<8)(hy:y<8):(toString ((x:Nat):Int):Str)=toString ((y:Nat):Int)↔x=y:=by
 constructor
 ·intro h
  have key:∀x:Fin 8,∀y:Fin 8,(toString ((x.val:Nat):Int):Str)=(toString ((y.val:Nat):Int):Str)->x=y:=by decide +kernel
  have:=key ⟨x,hx⟩ ⟨y,hy⟩ h
  exact congrArg Fin.val this
 ·rintro rfl;rfl
theorem nE{κ0:Nat->Str}(t:Nat){i j:Nat}(hi:i<a.n)(hj:j<a.n):jm a κ0 (t+1) i=jm a κ0 (t+1) j↔jm a κ0 t i=jm a κ0 t j/\∀k,k<6->a.dd i k=a.dd j k/\jm a κ0 t (a.g i k)=jm a κ0 t (a.g j k):=by
 have l1:=lQ (κ:=lJ a (jm a κ0 t)) hi
 have l2:=lQ (κ:=lJ a (jm a κ0 t)) hj
 exact(xX (Nat.lt_of_lt_of_le l1 a.n8) (Nat.lt_of_lt_of_le l2 a.n8)).trans ((mE hi hj).trans qH)
theorem vS{κ0:Nat->Str}:∃t,t<a.n/\∀i,i<a.n->i7 (lJ a (jm a κ0 (t+1))) a.n i=i7 (lJ a (jm a κ0 t)) a.n i:=by
 refine Classical.byContradiction fun hno=>?_
 have grow:∀m,m<=a.n->m+1<=m5 a.n (i7 (lJ a (jm a κ0 m)) a.n):=fun m=>by
  induction m with
  | zero =>
   intro _
   unfold m5
   refine List.length_pos_iff.mpr (List.ne_nil_of_mem (a:=0) (List.mem_filter.mpr ⟨List.mem_range.mpr a.n1,decide_eq_true ?_⟩))
   have:=xB (κ:=lJ a (jm a κ0 0)) (i:=0) a.n1
   omega
  | succ m ih =>
   intro hm
   have ih:=ih (by omega)
   have:=wV (qW (lJ a (jm a κ0 m)) a.n) (qW (lJ a (jm a κ0 (m+1))) a.n) (fun i j hi hj h=>by
    rw[mE hi hj] at h ⊢
    rw[qH] at h
    exact qH.mpr ((nE m hi hj).mp h.1)) (Classical.byContradiction fun z=>hno ⟨m,by omega,fun i hi=>Classical.byContradiction fun y=>z ⟨i,hi,y⟩⟩)
   omega
 have:=grow a.n (Nat.le_refl _)
 have:=wR a.n (i7 (lJ a (jm a κ0 a.n)) a.n)
 omega
theorem rU{κ0:Nat->Str}:∀s i j,i<a.n->j<a.n->(jm a κ0 (a.n+s) i=jm a κ0 (a.n+s) j↔jm a κ0 a.n i=jm a κ0 a.n j):=by
 obtain⟨t,ht,hst⟩:=vS (a:=a) (κ0:=κ0)
 have step:∀s i j,i<a.n->j<a.n->(jm a κ0 (t+1+s) i=jm a κ0 (t+1+s) j↔jm a κ0 (t+1) i=jm a κ0 (t+1) j):=fun s=>by
  induction s with
  | zero=>exact fun _ _ _ _=>Iff.rfl
  | succ s ih =>
   intro i j hi hj
   rw[show t+1+(s+1)=(t+1+s)+1 by omega,nE (t+1+s) hi hj,ih i j hi hj]
   have h2:(∀k,k<6->a.dd i k=a.dd j k/\jm a κ0 (t+1+s) (a.g i k)=jm a κ0 (t+1+s) (a.g j k))↔∀k,k<6->a.dd i k=a.dd j k/\jm a κ0 (t+1) (a.g i k)=jm a κ0 (t+1) (a.g j k):=by
    constructor
    ·exact fun h k hk=>⟨(h k hk).1,(ih _ _ (a.gn i k hi hk) (a.gn j k hj hk)).mp (h k hk).2⟩
    ·exact fun h k hk=>⟨(h k hk).1,(ih _ _ (a.gn i k hi hk) (a.gn j k hj hk)).mpr (h k hk).2⟩
   rw[h2,<- nE (t+1) hi hj]
   show(toString _:Str)=toString _↔(toString _:Str)=toString _
   rw[hst i hi,hst j hj]
 intro s i j hi hj
 have e1:=step (a.n+s - (t+1)) i j hi hj
 have e2:=step (a.n - (t+1)) i j hi hj
 rw[show t+1+(a.n+s - (t+1))=a.n+s by omega] at e1
 rw[show t+1+(a.n - (t+1))=a.n by omega] at e2
 exact e1.trans e2.symm
theorem oW{κ0:Nat->Str}(hκ:∀i j,i<a.n->j<a.n->(κ0 i=κ0 j↔a.lk i=a.lk j)):∀t i j,i<a.n->j<a.n->(jm a κ0 (t+1) i=jm a κ0 (t+1) j->iW a t i=iW a t j)/\(iW a t i=iW a t j->jm a κ0 t i=jm a κ0 t j/\∀k,k<6->a.dd i k=a.dd j k):=fun t=>by
 induction t with
 | zero =>
  intro i j hi hj
  constructor
  ·intro h
   have:=(nE 0 hi hj).mp h
   exact(qL hi hj).mpr ⟨(hκ i j hi hj).mp this.1,fun k hk=>(this.2 k hk).1⟩
  ·intro h
   have:=(qL hi hj).mp h
   exact⟨(hκ i j hi hj).mpr this.1,this.2⟩
 | succ t ih =>
  intro i j hi hj
  constructor
  ·intro h
   have:=(nE (t+1) hi hj).mp h
   exact(og t hi hj).mpr ⟨(ih i j hi hj).1 this.1,fun k hk=>(ih _ _ (a.gn i k hi hk) (a.gn j k hj hk)).1 (this.2 k hk).2⟩
  ·intro h
   have:=(og t hi hj).mp h
   have b:=(ih i j hi hj).2 this.1
   exact⟨(nE t hi hj).mpr ⟨b.1,fun k hk=>⟨b.2 k hk,((ih _ _ (a.gn i k hi hk) (a.gn j k hj hk)).2 (this.2 k hk)).1⟩⟩,b.2⟩
theorem zq{κ0:Nat->Str}(hκ:∀i j,i<a.n->j<a.n->(κ0 i=κ0 j↔a.lk i=a.lk j)){T:Nat}(hT:∀i,i<a.n->iW a (T+1) i=iW a T i){i j:Nat}(hi:i<a.n)(hj:j<a.n):jm a κ0 a.n i=jm a κ0 a.n j↔iW a T i=iW a T j:=by
 constructor
 ·intro h
  have h1:=(rU (T+1) i j hi hj).mpr h
  have h2:=((oW hκ (a.n+T) i j hi hj).1 (by rw[show a.n+T+1=a.n+(T+1) by omega];exact h1))
  rw[show a.n+T=T+a.n by omega,jW hT a.n i hi,jW hT a.n j hj] at h2
  exact h2
 ·intro h
  rw[<- jW hT a.n i hi,<- jW hT a.n j hj] at h
  have:=((oW hκ (T+a.n) i j hi hj).2 h).1
  rw[show T+a.n=a.n+T by omega] at this
  exact(rU T i j hi hj).mp this
theorem zG{T:Nat}(hT:∀i,i<a.n->iW a (T+1) i=iW a T i){i j:Nat}(hi:i<a.n)(hj:j<a.n)(h:iW a T i=iW a T j):a.lk i=a.lk j/\(∀k,k<6->a.dd i k=a.dd j k)/\∀k,k<6->iW a T (a.g i k)=iW a T (a.g j k):=by
 have h1:iW a (T+1) i=iW a (T+1) j:=by rw[hT i hi,hT j hj,h]
 have down:∀t i j,i<a.n->j<a.n->iW a t i=iW a t j->iW a 0 i=iW a 0 j:=fun t=>by
  induction t with
  | zero=>exact fun _ _ _ _ h=>h
  | succ t ih=>exact fun i j hi hj h=>ih i j hi hj (oA t i j hi hj h)
 have h0:=(qL hi hj).mp (down T i j hi hj h)
 exact⟨h0.1,h0.2,((og T hi hj).mp h1).2⟩
end
def iT(A:Bk)(ok:A.Ok):pF:=⟨A.modes.length,fun i=>((A.md i).face,(A.md i).stays),fun i k=>((A.md i).row k).1,fun i k=>((A.md i).row k).2,
 fun i k hi hk=>(mn ok hi).nx _ (List.mem_of_getElem? (uP (by rw[(mn ok hi).six];exact hk))),ok.some1,ok.some8⟩
theorem fz{α:Type}{T f:α->D}{e:R->OD}{ρ:R}:∀(xs:List α),(∀x∈xs,e (some (T x)::ρ)=some (f x))->lc (setAt 0) jL e (xs.map T) (none::ρ)=some (xs.map f)
 | [],_=>rfl
 | x::xs,h=>by
  have h1:=h x List.mem_cons_self
  have ih:=fz xs fun y hy=>h y (List.mem_cons_of_mem _ hy)
  have h0:setAt 0 (T x) (none::ρ)=some (some (T x)::ρ):=rfl
  rw[List.map_cons]
  simp only[lc,h0,Option.bind_some,jL,if_true,h1,ih,Option.map_some,List.map_cons]
theorem sY{α:Type}{T f:α->D}{it:R->Option LD}{e:R->OD}{ρ:R}{xs:List α}(hi:it ρ=some (xs.map T))(hl:xs.length<=1000)(h:∀x∈xs,e (some (T x)::ρ)=some (f x)):lT 1 it (setAt 0) jL e ρ=some (.lst (xs.map f)):=by
 unfold lT
 rw[hi,Option.bind_some,if_pos (wH (by rw[List.length_map];omega))]
 show(lc (setAt 0) jL e (xs.map T) (none::ρ)).map D.lst=_
 rw[fz xs h];rfl
theorem q_(A:Bk){β:Type}(f:Md->β):A.modes.map f=(List.range A.modes.length).map fun i=>f (A.md i):=by
 apply List.ext_getElem?
 intro i
 rw[List.getElem?_map,List.getElem?_map]
 by_cases hi:i<A.modes.length
 ·rw[List.getElem?_range hi,List.getElem?_eq_getElem hi]
  unfold Bk.md
  show _=some (f (A.modes.getD i default))
  rw[List.getD_eq_getElem?_getD,List.getElem?_eq_getElem hi];rfl
 ·rw[List.getElem?_eq_none (by omega),List.getElem?_eq_none (by simpa using hi)];rfl
theorem mK{α:Type}[DecidableEq α]{f g:Nat->D}{u v:Nat->α}(h:∀k,l8 (f k) (g k)=decide (u k=v k)):∀l:List Nat,mw (l.map f) (l.map g)=decide (l.map u=l.map v)
 | []=>rfl
 | x::l=>by
  show(l8 (f x) (g x)&&mw (l.map f) (l.map g))=_
  rw[h x,mK h l,<- Bool.decide_and]
  exact decide_eq_decide.mpr (by rw[List.map_cons,List.map_cons,List.cons.injEq])
theorem cQ(i j:Nat):l8 (.int (i:Int)) (.int (j:Int))=decide (i=j):=by
 show((i:Int)==(j:Int))=_
 by_cases h:i=j
 ·subst h;simp
 ·rw[decide_eq_false h,beq_eq_false_iff_ne.mpr (by omega)]
theorem dR(x y:Str):l8 (.str x) (.str y)=decide (x=y):=by
 show(x==y)=_
 by_cases h:x=y
 ·subst h;simp
 ·rw[decide_eq_false h,beq_eq_false_iff_ne.mpr h]
theorem jX{α:Type}{f:α->D}(h:∀x,j6 (f x)=true):∀l:List α,ka (l.map f)=true
 | []=>rfl
 | x::l=>by show(j6 (f x)&&ka _)=true;rw[h x,jX h l];rfl
theorem ll{α:Type}{f:α->D}{m:Nat}(h:∀x,j7 (f x)<=m):∀l:List α,kL (l.map f)<=m
 | []=>Nat.zero_le _
 | x::l=>by
  have:=h x
  have:=ll h l
  simp only[List.map_cons,kL]
  omega
theorem rT(d:jn):j6 (.str d.x)=true:=by cases d<;>decide +kernel
theorem sJ(d:Face):j6 (.str d.x)=true:=by cases d<;>decide +kernel
theorem eT{α:Type}[DecidableEq α]{T:Nat->D}{κ:Nat->α}{n:Nat}(hn:n<=8)(h:∀i j,l8 (T j) (T i)=decide (κ j=κ i))(hl:∀i,j6 (T i)=true)(hd:∀i,j7 (T i)<=100) :
  ax [.lst ((List.range n).map T)]=some (.lst ((List.range n).map fun i=>.int (i7 κ n i:Int))):=by
 refine l0 (sY (T:=T) (xs:=List.range n) rfl (by simp;omega) fun i hi=>?_)
 have hi:=List.mem_range.mp hi
 show kC [.lst ((List.range n).map T),T i]=_
 have ef:((List.range n).map T).findIdx (fun y=>l8 y (T i))=i7 κ n i:=by
  rw[List.findIdx_map]
  unfold i7
  congr 1
  funext j
  exact h i j
 show(if _ then (if ((List.range n).map T).findIdx (fun y=>l8 y (T i))<_ then some (D.int ((((List.range n).map T).findIdx (fun y=>l8 y (T i)):Nat):Int)) else none) else none)=_
 rw[ef,if_pos ⟨hd i,hl i,jX hl _,by simp;omega⟩,if_pos (by simpa using lQ hi)]
def ji(n:Nat)(h:Nat->Nat):D:=.lst ((List.range n).map fun i=>.int (h i:Int))
theorem An{g:R->Option Out}{x y:D}:via 2 2 g [x,y]=jQ (g [some x,some y]):=rfl
theorem xq{n i:Nat}{h:Nat->Nat}(hi:i<n):i4 (ji n h) (.int (i:Int))=some (.int (h i:Int)):=by
 show tH _ (i:Int)=_
 exact nD (by rw[List.getElem?_map,List.getElem?_range hi];rfl)
theorem gZ{A:Bk}(ok:A.Ok){i:Nat}{h:Nat->Nat}(hi:i<A.modes.length):aj [(A.md i).d,ji A.modes.length h]=some (.lst ((List.range 6).map fun k=>.int (h ((iT A ok).g i k):Int))):=by
 refine l0 (sY (T:=fun k=>D.int (((A.md i).row k).2:Int)) (xs:=List.range 6) ?_ (by simp) fun k hk=>?_)
 ·show((iR bN (e8 (iP 0) iQ)) [some (A.md i).d,some (ji A.modes.length h)]).bind _=_
  rw[jN (x:=(A.md i).d) rfl (gl (mn ok hi).six)];rfl
 ·exact xq ((iT A ok).gn i k hi (List.mem_range.mp hk))
theorem ip{A:Bk}(ok:A.Ok)(h:Nat->Nat):aA [.tup (A.modes.map Md.d),ji A.modes.length h]=some (ji A.modes.length (i7 (mG (iT A ok) h) A.modes.length)):=by
 have n8:=ok.some8
 have key1:lT 1 (jR (iR lM (e8 (iP 0) iQ))) (setAt 0) jL (ja (e8 (iY i4 (iP 2) (iP 0)) (e8 (iR aj (e8 (iY i4 (iP 1) (iP 0)) (e8 (iP 2) iQ))) iQ))) [some (.tup (A.modes.map Md.d)),some (ji A.modes.length h)]=some (.lst ((List.range A.modes.length).map fun i=>.tup [.int (h i:Int),.lst ((List.range 6).map fun k=>.int (h ((iT A ok).g i k):Int))])):=by
  refine sY (T:=fun i:Nat=>D.int (i:Int)) (xs:=List.range A.modes.length) ?_ (by simp;omega) fun i hi=>?_
  ·have hlen:iR lM (e8 (iP 0) iQ) [some (.tup (A.modes.map Md.d)),some (ji A.modes.length h)]=some (.int (A.modes.length:Int)):=by
    show some (D.int ((A.modes.map Md.d).length:Int))=_
    rw[List.length_map]
   rw[inR hlen (by omega)]
   unfold kj
   simp
  ·have hi:=List.mem_range.mp hi
   have a1:iY i4 (iP 2) (iP 0) [some (.int (i:Int)),some (.tup (A.modes.map Md.d)),some (ji A.modes.length h)]=some (.int (h i:Int)):=xq hi
   have a2:iY i4 (iP 1) (iP 0) [some (.int (i:Int)),some (.tup (A.modes.map Md.d)),some (ji A.modes.length h)]=some (A.md i).d:=uH hi
   have a3:iR aj (e8 (iY i4 (iP 1) (iP 0)) (e8 (iP 2) iQ)) [some (.int (i:Int)),some (.tup (A.modes.map Md.d)),some (ji A.modes.length h)]=some (.lst ((List.range 6).map fun k=>.int (h ((iT A ok).g i k):Int))):=by
    show((iY i4 (iP 1) (iP 0) _).bind fun x=>((some (ji A.modes.length h)).bind fun y=>(some []).map (y::·)).map (x::·)).bind aj=_
    rw[a2]
    exact gZ ok hi
   show((iY i4 (iP 2) (iP 0) _).bind fun x=>((iR aj _ _).bind fun y=>(some []).map (y::·)).map (x::·)).map D.tup=_
   rw[a1,a3];rfl
 have key2:ax [.lst ((List.range A.modes.length).map fun i=>.tup [.int (h i:Int),.lst ((List.range 6).map fun k=>.int (h ((iT A ok).g i k):Int))])]=some (.lst ((List.range A.modes.length).map fun i=>.int (i7 (mG (iT A ok) h) A.modes.length i:Int))):=by
  refine eT n8 (fun i j=>?_) (fun i=>?_) fun i=>?_
  ·show(l8 (.int (h j:Int)) (.int (h i:Int))&&(mw ((List.range 6).map fun k=>.int (h ((iT A ok).g j k):Int)) ((List.range 6).map fun k=>.int (h ((iT A ok).g i k):Int))&&true))=_
   rw[cQ,mK (u:=fun k=>h ((iT A ok).g j k)) (v:=fun k=>h ((iT A ok).g i k)) (fun k=>cQ _ _),Bool.and_true,<- Bool.decide_and]
   refine decide_eq_decide.mpr ?_
   unfold mG
   rw[Prod.mk.injEq]
  ·simp only[j6,ka]
   rw[jX (fun k=>rfl)];rfl
  ·have:=ll (f:=fun k=>D.int (h ((iT A ok).g i k):Int)) (m:=5) (fun k=>by simp[j7]) (List.range 6)
   simp only[j7,kL]
   omega
 exact(An (g:=bQ)).trans (l0 (jN key1 key2))
theorem gM{A:Bk}(ok:A.Ok)(t:Nat):aA [.tup (A.modes.map Md.d),ji A.modes.length (iW (iT A ok) t)]=some (ji A.modes.length (iW (iT A ok) (t+1))):=ip ok (iW (iT A ok) t)
theorem yF{F:LD->OD}{x y:D}{r:R}:iR F (e8 (iP 0) (e8 (iP 1) iQ)) (some x::some y::r)=F [x,y]:=rfl
theorem zK{f:R->OD}{x y:D}{o:OD}{d:D}(h:f [some x,some y,o]=some d):i9 f (setAt 2) [some x,some y,o]=some (.nx [some x,some y,some d]):=ju h rfl
theorem uV{A:Bk}(ok:A.Ok)(t:Nat)(o:OD):i9 (iR aA (e8 (iP 0) (e8 (iP 1) iQ))) (setAt 2) [some (.tup (A.modes.map Md.d)),some (ji A.modes.length (iW (iT A ok) t)),o]=some (.nx [some (.tup (A.modes.map Md.d)),some (ji A.modes.length (iW (iT A ok) t)),some (ji A.modes.length (iW (iT A ok) (t+1)))]):=
 zK (yF.trans (gM ok t))
theorem AC(n:Nat)(h h':Nat->Nat):qK (ji n h) (ji n h')=some (!decide (∀i,i<n->h i=h' i)):=by
 have hd:j7 (ji n h)<=100:=by
  have:=ll (f:=fun i=>D.int (h i:Int)) (m:=5) (fun k=>by simp[j7]) (List.range n)
  unfold ji
  simp only[j7]
  omega
 unfold qK pK
 rw[if_pos ⟨hd,jX (fun k=>rfl) _,jX (fun k=>rfl) _⟩]
 show some (!mw ((List.range n).map fun i=>.int (h i:Int)) ((List.range n).map fun i=>.int (h' i:Int)))=_
 rw[mK (u:=h) (v:=h') fun k=>cQ _ _]
 congr 2
 apply decide_eq_decide.mpr
 constructor
 ·intro z i hi
  have:=congrArg (fun l=>l[i]?) z
  simpa [List.getElem?_map,List.getElem?_range hi] using this
 ·exact fun z=>List.map_congr_left fun i hi=>z i (List.mem_range.mp hi)
def u6:R->Option Out:=(jb (i9 (iP 2) (setAt 1)) (i9 (iR aA (e8 (iP 0) (e8 (iP 1) iQ))) (setAt 2)))
theorem eM{A:Bk}(ok:A.Ok):∀(m t:Nat),9<=m+m5 A.modes.length (iW (iT A ok) t)->∃T,(∀i,i<A.modes.length->iW (iT A ok) (T+1) i=iW (iT A ok) T i)/\∃o,qX (jV qK (iP 2) (iP 1)) u6 m [some (.tup (A.modes.map Md.d)),some (ji A.modes.length (iW (iT A ok) t)),some (ji A.modes.length (iW (iT A ok) (t+1)))]=some (.nx [some (.tup (A.modes.map Md.d)),some (ji A.modes.length (iW (iT A ok) T)),o])
 | 0,t,h=>by have:=wR A.modes.length (iW (iT A ok) t);have:=ok.some8;omega
 | m+1,t,h=>by
  have c:jV qK (iP 2) (iP 1) [some (.tup (A.modes.map Md.d)),some (ji A.modes.length (iW (iT A ok) t)),some (ji A.modes.length (iW (iT A ok) (t+1)))]=some (!decide (∀i,i<A.modes.length->iW (iT A ok) (t+1) i=iW (iT A ok) t i)):=AC _ _ _
  by_cases hs:∀i,i<A.modes.length->iW (iT A ok) (t+1) i=iW (iT A ok) t i
  ·rw[decide_eq_true hs] at c
   refine⟨t,hs,some (ji A.modes.length (iW (iT A ok) (t+1))),?_⟩
   show(jV qK (iP 2) (iP 1) _).bind _=_
   rw[c];rfl
  ·rw[decide_eq_false hs] at c
   have hlt:=wV (uN (a:=iT A ok) t) (uN (a:=iT A ok) (t+1)) (oA t) (Classical.byContradiction fun z=>hs fun i hi=>Classical.byContradiction fun y=>z ⟨i,hi,y⟩)
   obtain⟨T,hT,o,e⟩:=eM ok m (t+1) (by have:m5 A.modes.length (iW (iT A ok) t)<m5 A.modes.length (iW (iT A ok) (t+1)):=hlt;omega)
   refine⟨T,hT,o,?_⟩
   have b:u6 [some (.tup (A.modes.map Md.d)),some (ji A.modes.length (iW (iT A ok) t)),some (ji A.modes.length (iW (iT A ok) (t+1)))]=some (.nx [some (.tup (A.modes.map Md.d)),some (ji A.modes.length (iW (iT A ok) (t+1))),some (ji A.modes.length (iW (iT A ok) (t+2)))]):=by
    unfold u6
    rw[jk (ju (d:=ji A.modes.length (iW (iT A ok) (t+1))) (ρ':=[some (.tup (A.modes.map Md.d)),some (ji A.modes.length (iW (iT A ok) (t+1))),some (ji A.modes.length (iW (iT A ok) (t+1)))]) rfl rfl)]
    exact uV ok (t+1) _
   unfold qX
   rw[c,Option.bind_some]
   rw[if_pos (show(!false)=true from rfl),b]
   exact e
theorem gE{A:Bk}(ok:A.Ok):∃T,(∀i,i<A.modes.length->iW (iT A ok) (T+1) i=iW (iT A ok) T i)/\aR [.tup (A.modes.map Md.d)]=some (ji A.modes.length (iW (iT A ok) T)):=by
 have n8:=ok.some8
 obtain⟨T,hT,o,e⟩:=eM ok 20 0 (by omega)
 refine⟨T,hT,?_⟩
 have s1:i9 (iR ax (e8 (lT 1 (jh (iP 0)) (setAt 0) jL (ja (e8 (iR bE (e8 (iP 0) iQ)) (e8 (iR aT (e8 (iP 0) iQ)) iQ)))) iQ)) (setAt 1) [some (.tup (A.modes.map Md.d)),none,none]=some (.nx [some (.tup (A.modes.map Md.d)),some (ji A.modes.length (iW (iT A ok) 0)),none]):=by
  refine ju (d:=ji A.modes.length (iW (iT A ok) 0)) (jN (x:=.lst ((List.range A.modes.length).map fun i=>.tup [.tup [.str (A.md i).face.x,.bl (A.md i).stays],.lst ((List.range 6).map fun k=>.str ((A.md i).row k).1.x)])) ?_ ?_) rfl
  ·refine sY (T:=fun i=>(A.md i).d) (xs:=List.range A.modes.length) ?_ (by simp;omega) fun i hi=>?_
   ·show some (A.modes.map Md.d)=_
    rw[q_]
   ·have hi:=List.mem_range.mp hi
    show((iR bE (e8 (iP 0) iQ) _).bind fun x=>((iR aT (e8 (iP 0) iQ) _).bind fun y=>(some []).map (y::·)).map (x::·)).map D.tup=_
    rw[jN (x:=(A.md i).d) rfl (gC _),jN (x:=(A.md i).d) rfl (gO (mn ok hi).six)];rfl
  ·refine eT (κ:=vh (iT A ok)) n8 (fun i j=>?_) (fun i=>?_) fun i=>?_
   ·show((l8 (.str (A.md j).face.x) (.str (A.md i).face.x)&&(((A.md j).stays==(A.md i).stays)&&true))&&(mw ((List.range 6).map fun k=>.str ((A.md j).row k).1.x) ((List.range 6).map fun k=>.str ((A.md i).row k).1.x)&&true))=_
    have hf:∀f g:Face,l8 (.str f.x) (.str g.x)=decide (f=g):=by intro f g;cases f<;>cases g<;>decide +kernel
    rw[hf,mK (u:=(iT A ok).dd j) (v:=(iT A ok).dd i) fun k=>by
     rw[dR]
     exact decide_eq_decide.mpr ⟨sN,fun z=>congrArg jn.x z⟩]
    have hb:∀x y:Bool,(x==y)=decide (x=y):=by intro x y;cases x<;>cases y<;>rfl
    rw[Bool.and_true,Bool.and_true,hb,<- Bool.decide_and,<- Bool.decide_and]
    refine decide_eq_decide.mpr ?_
    unfold vh
    rw[Prod.mk.injEq]
    show _↔((A.md j).face,(A.md j).stays)=((A.md i).face,(A.md i).stays)/\_
    rw[Prod.mk.injEq]
   ·have h1:=sJ (A.md i).face
    have h2:=jX (f:=fun k=>D.str ((A.md i).row k).1.x) (fun k=>rT _) (List.range 6)
    simp only[j6,ka] at *
    rw[h1,h2];rfl
   ·have:=ll (f:=fun k=>D.str ((A.md i).row k).1.x) (m:=5) (fun k=>by simp[j7]) (List.range 6)
    simp only[j7,kL]
    omega
 show jQ (jb _ _ [some (.tup (A.modes.map Md.d)),none,none])=_
 rw[jk s1]
 rw[jk (uV ok 0 none)]
 show jQ (jb (qX (jV qK (iP 2) (iP 1)) u6 20) _ _)=_
 rw[jk e]
 rfl
inductive k6 {α:Type} (pr:List α->α->List α):List α->Nat->List α->Prop
 | done {sn:List α} {i:Nat}:sn.length<=i->k6 pr sn i sn
 | step {sn r:List α} {i:Nat} {x:α}:sn[i]?=some x->k6 pr (pr sn x) (i+1) r->k6 pr sn i r
theorem k6.det{α:Type}{pr:List α->α->List α}{sn r:List α}{i:Nat}(h:k6 pr sn i r):∀{r':List α},k6 pr sn i r'->r=r':=by
 induction h with
 | done hl =>
  intro r' h'
  cases h' with
  | done _=>rfl
  | step hx _=>have:=(List.getElem?_eq_some_iff.mp hx).1;omega
 | step hx _ ih =>
  intro r' h'
  cases h' with
  | done hl=>have:=(List.getElem?_eq_some_iff.mp hx).1;omega
  | step hx' h2 =>
   rw[hx] at hx'
   cases hx'
   exact ih h2
theorem k6.block{α:Type}{pr:List α->α->List α}(hpr:∀sn x,∃e,pr sn x=sn++e){r:List α}:∀(d:Nat) (sn:List α) (i:Nat),i+d<=sn.length->k6 pr (((sn.drop i).take d).foldl pr sn) (i+d) r->k6 pr sn i r
 | 0,sn,i,_,h=>by simpa using h
 | d+1,sn,i,hl,h=>by
  have hi:i<sn.length:=by omega
  refine .step (x:=sn[i]) (List.getElem?_eq_getElem hi) (k6.block hpr d _ _ ?_ ?_)
  ·obtain⟨e,he⟩:=hpr sn sn[i]
   rw[he,List.length_append];omega
  ·rw[List.drop_eq_getElem_cons hi,List.take_succ_cons,List.foldl_cons] at h
   obtain⟨e,he⟩:=hpr sn sn[i]
   rw[show i+(d+1)=i+1+d by omega] at h
   rw[show((pr sn sn[i]).drop (i+1)).take d=(sn.drop (i+1)).take d by
    rw[he,List.drop_append_of_le_length (by omega),List.take_append_of_le_length (by rw[List.length_drop];omega)]]
   exact h
theorem sL.qr{α:Type}{pr:List α->α->List α}(hpr:∀sn x,∃e,pr sn x=sn++e){sn r:List α}{i:Nat}(h:sL pr sn i r):k6 pr sn i r:=by
 induction h with
 | done hl=>exact .done hl
 | step hi _ ih =>
  rename_i sn r i _
  refine k6.block hpr (sn.length - i) sn i (by omega) ?_
  rw[show i+(sn.length - i)=sn.length by omega,List.take_of_length_le (by rw[List.length_drop];exact Nat.le_refl _)]
  exact ih
theorem nu{α:Type}[DecidableEq α]:∀(l sn:List α),∃e,l.foldl jO sn=sn++e
 | [],sn=>⟨[],by simp⟩
 | x::l,sn=>by
  rw[List.foldl_cons]
  unfold jO
  split
  ·exact nu l sn
  ·obtain⟨e,he⟩:=nu l (sn++[x])
   exact⟨[x]++e,by rw[<- List.append_assoc];exact he⟩
theorem uw{α:Type}[DecidableEq α](go:α->List α)(sn:List α)(x:α):∃e,j9 go sn x=sn++e:=nu _ _
theorem wK{α β:Type}[DecidableEq α][DecidableEq β]{f:α->β}(hf:∀x y,f x=f y->x=y)(sn:List α)(e:α):jO (sn.map f) (f e)=(jO sn e).map f:=by
 unfold jO
 by_cases h:e∈sn
 ·rw[if_pos h,if_pos (List.mem_map.mpr ⟨e,h,rfl⟩)]
 ·rw[if_neg h,if_neg fun z=>h (by obtain⟨y,hy,hz⟩:=List.mem_map.mp z;exact hf _ _ hz ▸ hy),List.map_append];rfl
theorem qv{α β:Type}[DecidableEq α][DecidableEq β]{f:α->β}(hf:∀x y,f x=f y->x=y):∀(l sn:List α),(l.map f).foldl jO (sn.map f)=(l.foldl jO sn).map f
 | [],_=>rfl
 | x::l,sn=>by rw[List.map_cons,List.foldl_cons,List.foldl_cons,wK hf,qv hf l]
theorem k6.map{α β:Type}{pr:List α->α->List α}{pr':List β->β->List β}{f:α->β}(h:∀sn x,pr' (sn.map f) (f x)=(pr sn x).map f){sn r:List α}{i:Nat}(q:k6 pr sn i r):k6 pr' (sn.map f) i (r.map f):=by
 induction q with
 | done hl=>exact .done (by rw[List.length_map];exact hl)
 | step hx _ ih=>exact .step (x:=f _) (by rw[List.getElem?_map,hx];rfl) (by rw[h];exact ih)
def jj(x:Nat):Ky:=.inl (x:Int)
theorem oK(x y:Nat)(h:jj x=jj y):x=y:=by
 have:=Sum.inl.inj h
 omega
def kZ(a:pF)(h:Nat->Nat)(x:Nat):List Nat:=(List.range 6).map fun k=>h (a.g x k)
def mU(a:pF)(h:Nat->Nat):Ky->List Ky
 | .inl x=>(kZ a h x.toNat).map jj
 | .inr _=>[]
theorem uK(a:pF)(h:Nat->Nat)(x:Nat):mU a h (jj x)=(kZ a h x).map jj:=rfl
def mY(n:Nat):List Ky:=(List.range n).map jj
theorem ly{n:Nat}{x:Ky}:x∈mY n↔∃y,y<n/\x=jj y:=by
 unfold mY
 rw[List.mem_map]
 constructor
 ·rintro⟨y,hy,rfl⟩;exact⟨y,List.mem_range.mp hy,rfl⟩
 ·rintro⟨y,hy,rfl⟩;exact⟨y,List.mem_range.mpr hy,rfl⟩
theorem rY{n:Nat}:∀(l:List Ky),(∀e∈l,∃y,y<n/\e=jj y)->∃S:List Nat,l=S.map jj/\∀x∈S,x<n
 | [],_=>⟨[],rfl,fun x hx=>(by cases hx)⟩
 | e::l,h=>by
  obtain⟨y,hy,rfl⟩:=h e List.mem_cons_self
  obtain⟨S,rfl,hS⟩:=rY l fun z hz=>h z (List.mem_cons_of_mem _ hz)
  exact⟨y::S,rfl,fun x hx=>by rcases List.mem_cons.mp hx with rfl | z;exact hy;exact hS x z⟩
theorem bj{α:Type}{f:α->D}(h:∀a,lp (f a)=true):∀l:List α,jF (l.map f)=true
 | []=>rfl
 | a::l=>by show(lp (f a)&&jF _)=true;rw[h a,bj h l];rfl
theorem gz(r:jn×Nat):lp (je r)=true:=rfl
theorem fZ(m:Md):lp m.d=true:=by
 show(true&&(true&&(jF (m.rows.map je)&&true)))=true
 rw[bj gz];rfl
theorem yU{A:Bk}(ok:A.Ok){h:Nat->Nat}(hh:∀i,i<A.modes.length->h i<A.modes.length):∀x:Ky,x∈mY A.modes.length->(mU (iT A ok) h x).length=6/\∀e∈mU (iT A ok) h x,True/\e∈mY A.modes.length:=fun x hx=>by
 obtain⟨y,hy,rfl⟩:=ly.mp hx
 rw[uK]
 refine⟨by simp[kZ],fun e he=>⟨trivial,?_⟩⟩
 obtain⟨z,hz,rfl⟩:=List.mem_map.mp he
 obtain⟨k,hk,rfl⟩:=List.mem_map.mp hz
 exact ly.mpr ⟨_,hh _ ((iT A ok).gn y k hy (List.mem_range.mp hk)),rfl⟩
theorem yc{A:Bk}(ok:A.Ok){h:Nat->Nat}(hh:∀i,i<A.modes.length->h i<A.modes.length){c:Nat}(x:Ky)(hx:x∈mY A.modes.length):Gives (.cl uc c [.tup (A.modes.map Md.d),ji A.modes.length h]) (mU (iT A ok) h) x:=by
 obtain⟨y,hy,rfl⟩:=ly.mp hx
 refine⟨(yU ok hh _ hx).1,fun ρ h2 h3=>?_⟩
 unfold o_
 rw[h2,Option.bind_some]
 show((iP 3 ρ).bind fun y=>(some []).map (y::·)).bind _=_
 rw[h3]
 show(LL uc).bind _=_
 rw[C5,Option.bind_some]
 have nb1:lp (.tup (A.modes.map Md.d))=true:=bj fZ _
 have nb2:lp (ji A.modes.length h)=true:=bj (fun _=>rfl) _
 rw[if_pos ⟨rfl,by show(lp _&&(lp _&&true))=true;rw[nb1,nb2];rfl,BF.symm⟩]
 have e3:vD 3 wW ([i_ (jj y)]++[.tup (A.modes.map Md.d),ji A.modes.length h])=some (.lst ((mU (iT A ok) h (jj y)).map i_)):=by
  show iR aj _ [some (.int (y:Int)),some (.tup (A.modes.map Md.d)),some (ji A.modes.length h)]=_
  have a2:iY i4 (iP 1) (iP 0) [some (.int (y:Int)),some (.tup (A.modes.map Md.d)),some (ji A.modes.length h)]=some (A.md y).d:=uH hy
  show((iY i4 (iP 1) (iP 0) _).bind fun x=>((some (ji A.modes.length h)).bind fun y=>(some []).map (y::·)).map (x::·)).bind aj=_
  rw[a2]
  refine(gZ ok hy).trans ?_
  rw[uK,List.map_map,kZ,List.map_map]
  rfl
 rw[e3,Option.bind_some,if_pos (show lp (.lst ((mU (iT A ok) h (jj y)).map i_))=true from bj (fun k=>by cases k<;>rfl) _)]
theorem uL:∀S:List Nat,oP (S.map fun x:Nat=>(Sum.inl (x:Int):Int ⊕ Str))=some (S.map fun x:Nat=>(x:Int))
 | []=>rfl
 | x::S=>by show(oP _).map _=_;rw[uL S];rfl
theorem sj:∀S:List Nat,intsOf (S.map fun x:Nat=>D.int (x:Int))=some (S.map fun x:Nat=>(x:Int))
 | []=>rfl
 | x::S=>by show(intsOf _).map _=_;rw[sj S];rfl
theorem gK{A:Bk}(ok:A.Ok){h:Nat->Nat}(hh:∀i,i<A.modes.length->h i<A.modes.length):∃S:List Nat,k6 (j9 (kZ (iT A ok) h)) [0] 0 S/\(∀x∈S,x<A.modes.length)/\(∀x∈S,∀k,k<6->h ((iT A ok).g x k)∈S)/\S.length<=8 /\
  ∀r:R,iR tP (e8 (mZ aI uc (e8 (kI 0) iQ) (oT [1,2])) iQ) (some A.d::some (.tup (A.modes.map Md.d))::some (ji A.modes.length h)::r)=some (.lst (S.map fun x:Nat=>.int (x:Int))):=by
 have n1:=ok.some1
 have n8:=ok.some8
 obtain⟨kf,L,hk,hI,hL_q',hlr⟩:=xh (go:=mU (iT A ok) h) (bx:=mY A.modes.length) (s:=jj 0) (lf:=true) (fun x hx=>by obtain⟨y,_,rfl⟩:=ly.mp hx;rfl) (by simp[mY];omega) (ly.mpr ⟨0,n1,rfl⟩) (yU ok hh)
 have hks:∀e∈iZ kf,∃y,y<A.modes.length/\e=jj y:=fun e he=>by
  obtain⟨d,hd⟩:=m8 he
  exact ly.mp (hI.val _ hd).2.1
 obtain⟨S,hS,hSn⟩:=rY _ hks
 have hq:=hlr.qr (uw _)
 have hpr:∀(sn:List Nat) (x:Nat),j9 (mU (iT A ok) h) (sn.map jj) (jj x)=(j9 (kZ (iT A ok) h) sn x).map jj:=fun sn x=>by
  unfold j9
  rw[uK]
  exact qv oK _ _
 have lift:∀{sn:List Nat} {i:Nat} {r:List Ky},k6 (j9 (mU (iT A ok) h)) (sn.map jj) i r->∃r',r=r'.map jj/\k6 (j9 (kZ (iT A ok) h)) sn i r':=fun {sn i r} q=>by
  generalize hsn:sn.map jj=sk at q
  induction q generalizing sn with
  | done hl=>exact⟨sn,hsn.symm,.done (by rw[<- hsn,List.length_map] at hl;exact hl)⟩
  | step hx _ ih =>
   rw[<- hsn,List.getElem?_map] at hx
   cases hx':sn[‹Nat›]? with
   | none=>rw[hx'] at hx;cases hx
   | some x =>
    rw[hx'] at hx
    cases hx
    obtain⟨r',h1,h2⟩:=ih (sn:=j9 (kZ (iT A ok) h) sn x) (by rw[<- hpr,hsn])
    exact⟨r',h1,.step hx' h2⟩
 obtain⟨S',hS',hq'⟩:=lift (sn:=[0]) hq
 have hSS:S'=S:=by
  have z:=hS'.symm.trans hS
  have inj:∀(x y:List Nat),x.map jj=y.map jj->x=y:=fun x=>by
   induction x with
   | nil=>intro y hy;cases y with | nil=>rfl | cons=>cases hy
   | cons a x ih =>
    intro y hy
    cases y with
    | nil=>cases hy
    | cons b y =>
     rw[List.map_cons,List.map_cons] at hy
     injection hy with h1 h2
     rw[oK _ _ h1,ih y h2]
  exact inj _ _ z
 subst hSS
 have hlen:S'.length<=8:=by
  have:=hI.len
  have e:(iZ kf).length=S'.length:=by rw[hS,List.length_map]
  have e2:(iZ kf).length=kf.length:=by simp[iZ]
  have e3:(mY A.modes.length).length=A.modes.length:=by simp[mY]
  omega
 refine⟨S',hq',hSn,fun x hx k hk6=>?_,hlen,fun r=>?_⟩
 ·have hx':jj x∈iZ kf:=by rw[hS];exact List.mem_map.mpr ⟨x,hx,rfl⟩
  obtain⟨d,hd⟩:=m8 hx'
  obtain⟨_,_,w,hw,_⟩:=hI.val _ hd
  have hw':d=.str w:=hw
  subst hw'
  obtain⟨v,hv,_⟩:=hI.cl _ _ hd (by simp) (jj (h ((iT A ok).g x k))) (by
   rw[uK]
   exact List.mem_map.mpr ⟨_,List.mem_map.mpr ⟨k,List.mem_range.mpr hk6,rfl⟩,rfl⟩)
  have:jj (h ((iT A ok).g x k))∈iZ kf:=List.mem_map.mpr ⟨_,hv,rfl⟩
  rw[hS] at this
  obtain⟨y,hy,e⟩:=List.mem_map.mp this
  exact oK _ _ e ▸ hy
 ·have hne:kf ≠ []:=fun z=>by have:=hI.st;rw[z] at this;cases this
  have hd:lP kf=.dct (kf.map fun p=>k1 p.1) (kf.map fun p=>p.2):=by
   match kf,hne,hI with
   | (.inl q,d)::kf,_,_=>rfl
   | (.inr q,d)::kf,_,hI =>
    obtain⟨y,_,e⟩:=ly.mp (hI.val _ List.mem_cons_self).2.1
    cases e
  have ff:∀c,aI [i_ (jj 0),.cl uc c [.tup (A.modes.map Md.d),ji A.modes.length h]]=some (lP kf):=fun c=>by
   show jQ (oC ar 4 0 1 (.str (oS "")) [some (i_ (jj 0)),some (.cl uc c [.tup (A.modes.map Md.d),ji A.modes.length h]),none,none])=_
   exact(congrArg jQ (w4 (g:=ar) (n:=4) (i:=0) (j:=1) (e:=.str (oS "")) (c:=.cl uc c [.tup (A.modes.map Md.d),ji A.modes.length h]) (ρ:=[some (i_ (jj 0)),some (.cl uc c [.tup (A.modes.map Md.d),ji A.modes.length h]),none,none]) (s:=i_ (jj 0)) (k:=jj 0) (kv:=kf) rfl rfl rfl rfl hne (hk _ fun x hx=>yc ok hh x hx))).trans rfl
  have nv:vO (lP kf)=true:=by
   rw[hd]
   show jF (kf.map fun p=>p.2)=true
   have:∀l:KI,(∀p∈l,∃w,p.2=D.str w)->jF (l.map fun p=>p.2)=true:=fun l=>by
    induction l with
    | nil=>intro _;rfl
    | cons p l ih =>
     intro hp
     obtain⟨w,hw⟩:=hp p List.mem_cons_self
     show(lp p.2&&_)=true
     rw[hw,ih fun q hq=>hp q (List.mem_cons_of_mem _ hq)]
     rfl
   exact this kf fun p hp=>let ⟨_,_,w,hw,_⟩:=hI.val p hp;⟨w,hw⟩
  have nb1:lp (.tup (A.modes.map Md.d))=true:=bj fZ _
  have nb2:lp (ji A.modes.length h)=true:=bj (fun _=>rfl) _
  have hcw:mZ aI uc (e8 (kI 0) iQ) (oT [1,2]) (some A.d::some (.tup (A.modes.map Md.d))::some (ji A.modes.length h)::r)=some (lP kf):=
   wb (as:=[i_ (jj 0)]) (caps:=[.tup (A.modes.map Md.d),ji A.modes.length h]) rfl rfl (by show(lp _&&(lp _&&true))=true;rw[nb1,nb2];rfl) nv ff
  refine(jN hcw ?_)
  rw[hd]
  have ek:(kf.map fun p=>k1 p.1)=S'.map fun x:Nat=>(Sum.inl (x:Int):Int ⊕ Str):=by
   have:(kf.map fun p=>k1 p.1)=(iZ kf).map k1:=by unfold iZ;rw[List.map_map];rfl
   rw[this,hS,List.map_map];rfl
  show(oP (kf.map fun p=>k1 p.1)).bind _=_
  rw[ek,uL,Option.bind_some,if_pos (by rw[List.length_map];omega),List.map_map]
  rfl
def kX(S:List Nat)(x:Nat):Int:=((S.map fun y:Nat=>(y:Int)).idxOf (x:Int):Nat)
def nz(A:Bk)(ok:A.Ok)(h:Nat->Nat)(S:List Nat)(x:Nat):D:=.tup [.str (A.md x).face.x,.bl (A.md x).stays,.tup ((List.range 6).map fun k=>.tup [.str ((A.md x).row k).1.x,.int (kX S (h ((iT A ok).g x k)))])]
theorem iL{A:Bk}(ok:A.Ok){h:Nat->Nat}{S:List Nat}(hS8:S.length<=8){x:Nat}(hx:x<A.modes.length)(hc:∀k,k<6->h ((iT A ok).g x k)∈S):bf [(A.md x).d,ji A.modes.length h,.lst (S.map fun y:Nat=>.int (y:Int))]=some (nz A ok h S x):=by
 have key:lT 1 (jh (iY i4 (iP 0) (kI 2))) (setAt 0) jL (ja (e8 (iY i4 (iP 0) (kI 0)) (e8 (iR nT (e8 (iP 3) (e8 (iY i4 (iP 2) (iY i4 (iP 0) (kI 1))) iQ))) iQ))) [some (A.md x).d,some (ji A.modes.length h),some (.lst (S.map fun y:Nat=>.int (y:Int))),none]=some (.lst ((List.range 6).map fun k=>.tup [.str ((A.md x).row k).1.x,.int (kX S (h ((iT A ok).g x k)))])):=by
  refine sY (T:=fun k=>je ((A.md x).row k)) (xs:=List.range 6) ?_ (by simp) fun k hk=>?_
  ·show some ((A.md x).rows.map je)=_
   rw[bJ (mn ok hx).six]
  ·have hk:=List.mem_range.mp hk
   have a1:iY i4 (iP 2) (iY i4 (iP 0) (kI 1)) [some (je ((A.md x).row k)),some (A.md x).d,some (ji A.modes.length h),some (.lst (S.map fun y:Nat=>.int (y:Int))),none]=some (.int (h ((iT A ok).g x k):Int)):=xq ((iT A ok).gn x k hx hk)
   have a2:iR nT (e8 (iP 3) (e8 (iY i4 (iP 2) (iY i4 (iP 0) (kI 1))) iQ)) [some (je ((A.md x).row k)),some (A.md x).d,some (ji A.modes.length h),some (.lst (S.map fun y:Nat=>.int (y:Int))),none]=some (.int (kX S (h ((iT A ok).g x k)))):=by
    show((some (D.lst (S.map fun y:Nat=>D.int (y:Int)))).bind fun z=>((iY i4 (iP 2) (iY i4 (iP 0) (kI 1)) _).bind fun y=>(some []).map (y::·)).map (z::·)).bind nT=_
    rw[a1]
    show(intsOf (S.map fun y:Nat=>D.int (y:Int))).bind _=_
    rw[sj,Option.bind_some,if_pos ⟨List.mem_map.mpr ⟨_,hc k hk,rfl⟩,by rw[List.length_map];omega⟩]
    rfl
   show((some (D.str ((A.md x).row k).1.x)).bind fun z=>((iR nT _ _).bind fun y=>(some []).map (y::·)).map (z::·)).map D.tup=_
   rw[a2];rfl
 show jQ (jb _ _ [some (A.md x).d,some (ji A.modes.length h),some (.lst (S.map fun y:Nat=>.int (y:Int))),none])=_
 rw[jk (ju (ρ':=[some (A.md x).d,some (ji A.modes.length h),some (.lst (S.map fun y:Nat=>.int (y:Int))),some (.lst ((List.range 6).map fun k=>.tup [.str ((A.md x).row k).1.x,.int (kX S (h ((iT A ok).g x k)))]))]) key rfl)]
 rfl
theorem gy{A:Bk}(ok:A.Ok):∃(T:Nat) (S:List Nat),(∀i,i<A.modes.length->iW (iT A ok) (T+1) i=iW (iT A ok) T i)/\k6 (j9 (kZ (iT A ok) (iW (iT A ok) T))) [0] 0 S/\(∀x∈S,x<A.modes.length)/\(∀x∈S,∀k,k<6->iW (iT A ok) T ((iT A ok).g x k)∈S)/\S.length<=8 /\
  bb [A.d]=some (.tup [.int A.hold,.int A.back,.tup (S.map (nz A ok (iW (iT A ok) T) S))]):=by
 obtain⟨T,hT,eh⟩:=gE ok
 have hh:∀i,i<A.modes.length->iW (iT A ok) T i<A.modes.length:=fun i hi=>Nat.lt_of_le_of_lt ((uN (a:=iT A ok) T).le i hi) hi
 obtain⟨S,q,hS,hc,h8,eo⟩:=gK ok hh
 refine⟨T,S,hT,q,hS,hc,h8,?_⟩
 generalize iW (iT A ok) T=h at *
 have key:lT 1 (jh (iP 3)) (setAt 0) jL (iR bf (e8 (iY i4 (iP 2) (iP 0)) (e8 (iP 3) (e8 (iP 4) iQ)))) [some A.d,some (.tup (A.modes.map Md.d)),some (ji A.modes.length h),some (.lst (S.map fun y:Nat=>.int (y:Int)))]=some (.lst (S.map (nz A ok h S))):=by
  refine sY (T:=fun y:Nat=>D.int (y:Int)) (xs:=S) rfl (by omega) fun x hx=>?_
  have a1:iY i4 (iP 2) (iP 0) [some (.int (x:Int)),some A.d,some (.tup (A.modes.map Md.d)),some (ji A.modes.length h),some (.lst (S.map fun y:Nat=>.int (y:Int)))]=some (A.md x).d:=uH (hS x hx)
  show((iY i4 (iP 2) (iP 0) _).bind fun x=>((some (ji A.modes.length h)).bind fun y=>((some (D.lst (S.map fun y:Nat=>.int (y:Int)))).bind fun z=>(some []).map (z::·)).map (y::·)).map (x::·)).bind bf=_
  rw[a1]
  exact iL ok h8 (hS x hx) (hc x hx)
 show jQ (jb _ _ [some A.d,none,none,none])=_
 rw[jk (ρ2:=[some A.d,some (.tup (A.modes.map Md.d)),none,none]) rfl]
 rw[jk (ju (ρ':=[some A.d,some (.tup (A.modes.map Md.d)),some (ji A.modes.length h),none]) (jN (x:=.tup (A.modes.map Md.d)) rfl eh) rfl)]
 rw[jk (ju (ρ':=[some A.d,some (.tup (A.modes.map Md.d)),some (ji A.modes.length h),some (.lst (S.map fun y:Nat=>.int (y:Int)))]) (eo [none]) rfl)]
 refine l0 (wx (f:=iY i4 (iP 0) (kI 0)) (g:=iY i4 (iP 0) (kI 1)) (x:=.int A.hold) (y:=.int A.back) rfl rfl (jN key rfl))
theorem kn(x y:Str):(x++y).cps.toList=x.cps.toList++y.cps.toList:=by
 show(x.cps++y.cps).toList=_
 rw[Array.toList_append]
def l9(s:Str):List Nat:=(reprText s).cps.toList
def pL(n:Nat):Str:=toString ((n:Nat):Int)
def words:List Str:=[jn.none.x,jn.hour.x,jn.minute.x,jn.zero.x,jn.ahour.x,jn.aminute.x,jn.alarm.x,jn.run.x,jn.lap.x,jn.cminute.x,jn.csecond.x,jn.full.x,jn.count.x,
 oS "('time', True)",oS "('time', False)",oS "('alarm', True)",oS "('alarm', False)",oS "('laps', True)",oS "('laps', False)",oS "('count', True)",oS "('count', False)",
 pL 0,pL 1,pL 2,pL 3,pL 4,pL 5,pL 6,pL 7,pL 8]
theorem rS:∀s∈words,∀t∈words,(l9 t).take (l9 s).length=l9 s->s=t:=by decide +kernel
theorem ni:∀s∈words,(l9 s).length<=30/\(l9 s).all (fun c=>decide (c<128))=true:=by decide +kernel
theorem wt{s t:Str}(hs:s∈words)(ht:t∈words){x y:List Nat}(h:l9 s++x=l9 t++y):s=t/\x=y:=by
 have e:s=t:=by
  rcases Nat.le_total (l9 s).length (l9 t).length with hl | hl
  ·refine rS s hs t ht ?_
   have:=congrArg (List.take (l9 s).length) h
   rw[List.take_left,List.take_append_of_le_length hl] at this
   exact this.symm
  ·refine(rS t ht s hs ?_).symm
   have:=congrArg (List.take (l9 t).length) h
   rw[List.take_left,List.take_append_of_le_length hl] at this
   exact this
 subst e
 exact⟨rfl,List.append_cancel_left h⟩
def lU(p:Str×Str):List Nat:=[40]++(l9 p.1++([44,32]++(l9 p.2++[41])))
def oQ(p:Str×Str):Prop:=p.1∈words/\p.2∈words
theorem xa{p q:Str×Str}(hp:oQ p)(hq:oQ q){x y:List Nat}(h:lU p++x=lU q++y):p=q/\x=y:=by
 unfold lU at h
 simp only[List.append_assoc] at h
 have h1:=List.append_cancel_left h
 obtain⟨e1,h2⟩:=wt hp.1 hq.1 h1
 have h3:=List.append_cancel_left h2
 obtain⟨e2,h4⟩:=wt hp.2 hq.2 h3
 exact⟨Prod.ext e1 e2,List.append_cancel_left h4⟩
def lD(l:List (Str×Str)):List Nat:=l.flatMap fun p=>[44,32]++lU p
theorem v9:∀{l m:List (Str×Str)},l.length=m.length->(∀p∈l,oQ p)->(∀p∈m,oQ p)->∀{x y:List Nat},lD l++x=lD m++y->l=m/\x=y
 | [],[],_,_,_,x,y,h=>⟨rfl,h⟩
 | [],_::_,h,_,_,_,_,_=>by cases h
 | _::_,[],h,_,_,_,_,_=>by cases h
 | p::l,q::m,hl,h1,h2,x,y,h=>by
  unfold lD at h
  rw[List.flatMap_cons,List.flatMap_cons] at h
  simp only[List.append_assoc] at h
  have h:=List.append_cancel_left h
  obtain⟨e,h⟩:=xa (h1 p List.mem_cons_self) (h2 q List.mem_cons_self) h
  obtain⟨e2,h⟩:=v9 (by simpa using hl) (fun z hz=>h1 z (List.mem_cons_of_mem _ hz)) (fun z hz=>h2 z (List.mem_cons_of_mem _ hz)) (show lD l++x=lD m++y from h)
  exact⟨by rw[e,e2],h⟩
def lF(s:Str)(l:List (Str×Str)):D:=.tup [.str s,.lst (l.map fun p=>.tup [.str p.1,.str p.2])]
theorem u9:∀(ts:List Str) (k:Nat) (acc:Str),0<k->(textFrom k acc ts).cps.toList=acc.cps.toList++ts.flatMap fun t=>[44,32]++t.cps.toList
 | [],_,acc,_=>by simp[textFrom]
 | t::ts,k,acc,hk=>by
  show(textFrom (k+1) (acc++((if k > 0 then ", " else "" : String):Str)++t) ts).cps.toList=_
  rw[u9 ts (k+1) _ (Nat.succ_pos _),kn,kn,if_pos hk,List.flatMap_cons]
  have:(oS ", ").cps.toList=[44,32]:=by decide +kernel
  rw[this]
  simp only[List.append_assoc]
theorem uI(p:Str×Str):(tupleText [reprText p.1,reprText p.2]).cps.toList=lU p:=by
 show((oS "(" ++ (reprText p.1++oS ", " ++ reprText p.2))++oS ")").cps.toList=_
 rw[kn,kn,kn,kn,show(oS "(").cps.toList=[40] by decide +kernel,show(oS ", ").cps.toList=[44,32] by decide +kernel,show(oS ")").cps.toList=[41] by decide +kernel]
 unfold lU l9
 simp only[List.append_assoc]
theorem nM:∀l:List (Str×Str),PyData.shownAll (jt (l.map fun p=>D.tup [.str p.1,.str p.2]))=l.map fun p=>tupleText [reprText p.1,reprText p.2]
 | []=>rfl
 | p::l=>by
  show PyData.shown _::PyData.shownAll _=_
  rw[nM l];rfl
theorem ql(s:Str)(p:Str×Str)(l:List (Str×Str)):(toPy (lF s (p::l))).shown.cps.toList=[40]++(l9 s++([44,32,91]++(lU p++(lD l++[93,41])))):=by
 have e:(toPy (lF s (p::l))).shown=tupleText [reprText s,listText (PyData.shownAll (jt ((p::l).map fun p=>D.tup [.str p.1,.str p.2])))]:=rfl
 rw[e,nM]
 show((oS "(" ++ (reprText s++oS ", " ++ (textFrom 1 (oS "[" ++ oS "" ++ tupleText [reprText p.1,reprText p.2]) (l.map fun p=>tupleText [reprText p.1,reprText p.2])++oS "]")))++oS ")").cps.toList=_
 rw[kn,kn,kn,kn,kn,u9 _ 1 _ (by decide),kn,kn,uI,show(oS "(").cps.toList=[40] by decide +kernel,show(oS ", ").cps.toList=[44,32] by decide +kernel,show(oS ")").cps.toList=[41] by decide +kernel,show(oS "[").cps.toList=[91] by decide +kernel,show(oS "]").cps.toList=[93] by decide +kernel,show(oS "").cps.toList=[] by decide +kernel,List.flatMap_map]
 unfold lD l9
 simp only[uI,List.append_assoc,List.nil_append,List.append_nil]
 rfl
theorem wf{s t:Str}(hs:s∈words)(ht:t∈words){l m:List (Str×Str)}(hl:l.length=6)(hm:m.length=6)(h1:∀p∈l,oQ p)(h2:∀p∈m,oQ p):(toPy (lF s l)).shown=(toPy (lF t m)).shown↔s=t/\l=m:=by
 constructor
 ·intro h
  match l,m,hl,hm with
  | p::l,q::m,hl,hm =>
   have h:=congrArg (fun z:Str=>z.cps.toList) h
   simp only[ql] at h
   have h:=List.append_cancel_left h
   obtain⟨e1,h⟩:=wt hs ht h
   have h:=List.append_cancel_left h
   obtain⟨e2,h⟩:=xa (h1 p List.mem_cons_self) (h2 q List.mem_cons_self) h
   obtain⟨e3,_⟩:=v9 (by simp at hl hm;omega) (fun z hz=>h1 z (List.mem_cons_of_mem _ hz)) (fun z hz=>h2 z (List.mem_cons_of_mem _ hz)) h
   exact⟨e1,by rw[e2,e3]⟩
 ·rintro⟨rfl,rfl⟩;rfl
theorem sW{p:Str×Str}(h:oQ p):(lU p).length<=64/\∀c∈lU p,c<128:=by
 obtain⟨a1,a2⟩:=ni _ h.1
 obtain⟨b1,b2⟩:=ni _ h.2
 rw[List.all_eq_true] at a2 b2
 unfold lU
 refine⟨by simp only[List.length_append,List.length_cons,List.length_nil];omega,fun c hc=>?_⟩
 simp only[List.mem_append,List.mem_cons,List.not_mem_nil,or_false] at hc
 rcases hc with hc | hc | hc | hc | hc
 ·omega
 ·exact of_decide_eq_true (a2 c hc)
 ·omega
 ·exact of_decide_eq_true (b2 c hc)
 ·omega
theorem su:∀{l:List (Str×Str)},(∀p∈l,oQ p)->(lD l).length<=66*l.length/\∀c∈lD l,c<128
 | [],_=>⟨Nat.zero_le _,fun c hc=>(by cases hc)⟩
 | p::l,h=>by
  obtain⟨a1,a2⟩:=sW (h p List.mem_cons_self)
  obtain⟨b1,b2⟩:=su (l:=l) fun z hz=>h z (List.mem_cons_of_mem _ hz)
  have e:lD (p::l)=[44,32]++lU p++lD l:=by unfold lD;rw[List.flatMap_cons]
  rw[e]
  refine⟨by simp only[List.length_append,List.length_cons,List.length_nil];omega,fun c hc=>?_⟩
  simp only[List.mem_append,List.mem_cons,List.not_mem_nil,or_false] at hc
  rcases hc with (hc | hc) | hc
  ·omega
  ·exact a2 c hc
  ·exact b2 c hc
theorem ou{s:Str}(hs:s∈words){l:List (Str×Str)}(hl:l.length=6)(h:∀p∈l,oQ p):(toPy (lF s l)).shown.length<=1000/\(toPy (lF s l)).shown.cps.all (·<0x110000)=true:=by
 match l,hl with
 | p::l,hl =>
  have e:=ql s p l
  obtain⟨a1,a2⟩:=sW (h p List.mem_cons_self)
  obtain⟨b1,b2⟩:=su (l:=l) fun z hz=>h z (List.mem_cons_of_mem _ hz)
  obtain⟨c1,c2⟩:=ni _ hs
  rw[List.all_eq_true] at c2
  generalize (toPy (lF s (p::l))).shown=w at *
  have el:w.length=w.cps.toList.length:=by rw[Array.length_toList];rfl
  refine⟨?_,?_⟩
  ·rw[el,e]
   simp only[List.length_append,List.length_cons,List.length_nil] at *
   omega
  ·rw[<- Array.all_toList,List.all_eq_true,e]
   intro c hc
   simp only[List.mem_append,List.mem_cons,List.not_mem_nil,or_false] at hc
   refine decide_eq_true ?_
   rcases hc with hc | hc | hc | hc | hc | hc
   ·omega
   ·have:=of_decide_eq_true (c2 c hc);omega
   ·omega
   ·have:=a2 c hc;omega
   ·have:=b2 c hc;omega
   ·omega
theorem ow:∀l:List (Str×Str),PyData.showableAll (jt (l.map fun p=>D.tup [.str p.1,.str p.2]))=true/\PyData.hasDictAll (jt (l.map fun p=>D.tup [.str p.1,.str p.2]))=false/\PyData.depthAll (jt (l.map fun p=>D.tup [.str p.1,.str p.2]))<=1
 | []=>⟨rfl,rfl,Nat.zero_le _⟩
 | p::l=>by
  obtain⟨h1,h2,h3⟩:=ow l
  simp only[List.map_cons,jt,toPy,PyData.showableAll,PyData.showable,PyData.hasDictAll,PyData.hasDict,PyData.depthAll,PyData.depth,h1,h2]
  refine⟨rfl,rfl,?_⟩
  simp
  omega
theorem h_{s:Str}(hs:s∈words){l:List (Str×Str)}(hl:l.length=6)(h:∀p∈l,oQ p):nQ [lF s l]=some (.str (toPy (lF s l)).shown):=by
 obtain⟨a,b⟩:=ou hs hl h
 obtain⟨h1,h2,h3⟩:=ow l
 show(if _ then some (D.str (toPy (lF s l)).shown) else none)=_
 refine if_pos ⟨?_,?_,?_,wH (Nat.le_trans a (by decide))⟩
 ·simp only[toPy,jt,PyData.showable,PyData.showableAll,h1];rfl
 ·simp only[toPy,jt,PyData.hasDict,PyData.hasDictAll,h2];rfl
 ·simp only[toPy,jt,PyData.depth,PyData.depthAll]
  omega
theorem qI{k:Nat}{f:R->Option Out}{ρ ρ':R}(hk:k<ρ.length)(h:f (ρ.set k none)=some (.nx ρ'))(hk':k<ρ'.length):lN k f ρ=some (.nx (ρ'.set k none)):=by
 unfold lN
 rw[if_pos hk,h,Option.bind_some]
 show(if k<ρ'.length then _ else _)=_
 rw[if_pos hk']
def ku(A:Bk)(i:Nat):Str:=(toPy (.tup [.str (A.md i).face.x,.bl (A.md i).stays])).shown
def xm(p:Face×Bool):Str:=(toPy (.tup [.str p.1.x,.bl p.2])).shown
theorem Cb:∀(f:Face) (b:Bool),xm (f,b)∈words:=by intro f b;cases f<;>cases b<;>decide +kernel
theorem zo:∀(f g:Face) (b c:Bool),xm (f,b)=xm (g,c)↔(f,b)=(g,c):=by
 intro f g b c
 cases f<;>cases g<;>cases b<;>cases c<;>decide +kernel
theorem z0(d:jn):d.x∈words:=by cases d<;>simp[words]
theorem BH{n:Nat}(h:n<=8):pL n∈words:=by
 have:n=0\/n=1\/n=2\/n=3\/n=4\/n=5\/n=6\/n=7\/n=8:=by omega
 rcases this with rfl | rfl | rfl | rfl | rfl | rfl | rfl | rfl | rfl<;>simp[words]
theorem zS(A:Bk)(ok:A.Ok)(i j:Nat):ku A i=ku A j↔(iT A ok).lk i=(iT A ok).lk j:=zo _ _ _ _
theorem qt{α:Type}[DecidableEq α](κ:Nat->α)(n i:Nat):i7 κ n i<=n:=by
 unfold i7
 have:=List.findIdx_le_length (xs:=List.range n) (p:=fun j=>decide (κ j=κ i))
 rwa [List.length_range] at this
theorem AU{A:Bk}(ok:A.Ok):∀(t i:Nat),jm (iT A ok) (ku A) t i∈words
 | 0,i=>Cb _ _
 | t+1,i=>BH (Nat.le_trans (qt _ _ _) ok.some8)
def mi{A:Bk}(ok:A.Ok)(κ:Nat->Str)(i:Nat):List (Str×Str):=(List.range 6).map fun k=>(((iT A ok).dd i k).x,κ ((iT A ok).g i k))
def lH{A:Bk}(ok:A.Ok)(κ:Nat->Str)(i:Nat):Str:=(toPy (lF (κ i) (mi ok κ i))).shown
theorem uG{A:Bk}(ok:A.Ok){κ:Nat->Str}(hκ:∀i,κ i∈words)(i:Nat):∀p∈mi ok κ i,oQ p:=fun p hp=>by
 obtain⟨k,_,rfl⟩:=List.mem_map.mp hp
 exact⟨z0 _,hκ _⟩
theorem Ab{A:Bk}(ok:A.Ok){κ:Nat->Str}(hκ:∀i,κ i∈words)(i j:Nat):lH ok κ i=lH ok κ j↔lJ (iT A ok) κ i=lJ (iT A ok) κ j:=by
 unfold lH
 rw[wf (hκ i) (hκ j) (by simp[mi]) (by simp[mi]) (uG ok hκ i) (uG ok hκ j),qH]
 unfold mi
 rw[qQ]
 constructor
 ·rintro⟨h1,h2⟩
  exact⟨h1,fun k hk=>by have:=h2 k hk;rw[Prod.mk.injEq] at this;exact⟨sN this.1,this.2⟩⟩
 ·rintro⟨h1,h2⟩
  exact⟨h1,fun k hk=>by rw[(h2 k hk).1,(h2 k hk).2]⟩
def jf(n:Nat)(κ:Nat->Str):D:=.lst ((List.range n).map fun i=>.str (κ i))
theorem rR{n i:Nat}{κ:Nat->Str}(hi:i<n):i4 (jf n κ) (.int (i:Int))=some (.str (κ i)):=by
 show tH _ (i:Int)=_
 exact nD (by rw[List.getElem?_map,List.getElem?_range hi];rfl)
def nJ:R->OD:=(iR nQ (e8 (ja (e8 (iP 3) (e8 (lT 2 (jh (iY i4 (iP 4) (kI 2))) (j4 [(setAt 0),(setAt 1)]) jL (ja (e8 (iP 0) (e8 (iY i4 (iP 3) (iP 1)) iQ)))) iQ))) iQ))
theorem zF{A:Bk}(ok:A.Ok){κ:Nat->Str}(hκ:∀i,κ i∈words){i:Nat}(hi:i<A.modes.length)(o2:OD):nJ [some A.d,some (jf A.modes.length κ),o2,some (.str (κ i)),some (A.md i).d]=some (.str (lH ok κ i)):=by
 have key:lT 2 (jh (iY i4 (iP 4) (kI 2))) (j4 [(setAt 0),(setAt 1)]) jL (ja (e8 (iP 0) (e8 (iY i4 (iP 3) (iP 1)) iQ))) [some A.d,some (jf A.modes.length κ),o2,some (.str (κ i)),some (A.md i).d]=some (.lst ((mi ok κ i).map fun p=>.tup [.str p.1,.str p.2])):=by
  have hc:lc (j4 [(setAt 0),(setAt 1)]) jL (ja (e8 (iP 0) (e8 (iY i4 (iP 3) (iP 1)) iQ))) ((A.md i).rows.map je) (List.replicate 2 none++[some A.d,some (jf A.modes.length κ),o2,some (.str (κ i)),some (A.md i).d])=some (((A.md i).rows.map je).map fun d=>match d with | .tup [x,.int y]=>.tup [x,.str (κ y.toNat)] | _=>.non):=
   li _ fun d hd=>by
    obtain⟨r,hr,rfl⟩:=List.mem_map.mp hd
    refine⟨[some (.str r.1.x),some (.int (r.2:Int)),some A.d,some (jf A.modes.length κ),o2,some (.str (κ i)),some (A.md i).d],rfl,?_⟩
    have a1:iY i4 (iP 3) (iP 1) [some (.str r.1.x),some (.int (r.2:Int)),some A.d,some (jf A.modes.length κ),o2,some (.str (κ i)),some (A.md i).d]=some (.str (κ r.2)):=rR ((mn ok hi).nx r hr)
    show((some (D.str r.1.x)).bind fun x=>((iY i4 (iP 3) (iP 1) _).bind fun y=>(some []).map (y::·)).map (x::·)).map D.tup=_
    rw[a1];rfl
  unfold lT
  have hs:jh (iY i4 (iP 4) (kI 2)) [some A.d,some (jf A.modes.length κ),o2,some (.str (κ i)),some (A.md i).d]=some ((A.md i).rows.map je):=rfl
  rw[hs,Option.bind_some,if_pos (wH (by rw[List.length_map,(mn ok hi).six];decide)),hc,List.map_map,bJ (mn ok hi).six]
  unfold mi
  rw[List.map_map]
  rfl
 have key2:ja (e8 (iP 3) (e8 (lT 2 (jh (iY i4 (iP 4) (kI 2))) (j4 [(setAt 0),(setAt 1)]) jL (ja (e8 (iP 0) (e8 (iY i4 (iP 3) (iP 1)) iQ)))) iQ)) [some A.d,some (jf A.modes.length κ),o2,some (.str (κ i)),some (A.md i).d]=some (lF (κ i) (mi ok κ i)):=by
  show((some (D.str (κ i))).bind fun x=>((lT 2 _ _ _ _ _).bind fun y=>(some []).map (y::·)).map (x::·)).map D.tup=_
  rw[key];rfl
 exact jN key2 (h_ (hκ i) (by simp[mi]) (uG ok hκ i))
theorem vb{A:Bk}(ok:A.Ok){κ:Nat->Str}(hκ:∀i,κ i∈words)(o2:OD):∀(l:List Nat) (o3 o4:OD) (ds:LD),(∀i∈l,i<A.modes.length)->ds.length+l.length<=1000 ->
  ∃p3 p4,tY (j4 [(setAt 3),(setAt 4)]) (se 5 nJ) (l.map fun i=>.tup [.str (κ i),(A.md i).d]) [some A.d,some (jf A.modes.length κ),o2,o3,o4] ds=some (.nx [some A.d,some (jf A.modes.length κ),o2,p3,p4],ds++l.map fun i=>.str (lH ok κ i))
 | [],o3,o4,ds,_,_=>⟨o3,o4,by simp[tY]⟩
 | i::l,o3,o4,ds,h,hl=>by
  rw[List.length_cons] at hl
  obtain⟨p3,p4,ih⟩:=vb ok hκ o2 l (some (.str (κ i))) (some (A.md i).d) (ds++[.str (lH ok κ i)]) (fun j hj=>h j (List.mem_cons_of_mem _ hj)) (by rw[List.length_append];simp;omega)
  refine⟨p3,p4,?_⟩
  have k1:=zF ok hκ (h i List.mem_cons_self) o2
  have k2:se 5 nJ [some A.d,some (jf A.modes.length κ),o2,some (.str (κ i)),some (A.md i).d] ds=some (.nx [some A.d,some (jf A.modes.length κ),o2,some (.str (κ i)),some (A.md i).d],ds++[.str (lH ok κ i)]):=by
   show(nJ _).bind _=_
   rw[k1,Option.bind_some]
   exact if_pos ⟨rfl,Nat.lt_of_lt_of_le (show ds.length<1001 by omega) (by decide)⟩
  show(se 5 nJ [some A.d,some (jf A.modes.length κ),o2,some (.str (κ i)),some (A.md i).d] ds).bind _=_
  rw[show ds++((i::l).map fun i=>D.str (lH ok κ i))=ds++[.str (lH ok κ i)]++l.map fun i=>D.str (lH ok κ i) by simp,k2]
  exact ih
def uC:R->Option Out:=(zr 5 iQ
  (xF (tF (oX (iP 1) (iY i4 (iP 0) (kI 2))) (j4 [(setAt 3),(setAt 4)])
  (se 5 nJ))
  (xA (i9 (lT 1 (jh (iP 5)) (setAt 0) jL (iR yo (e8 (iR kC (e8 (iP 6) (e8 (iP 0) iQ))) iQ))) (setAt 1)))))
theorem vH{n:Nat}(h:n<=8):((n:Nat):Int).natAbs.log2<1920:=by
 have:n=0\/n=1\/n=2\/n=3\/n=4\/n=5\/n=6\/n=7\/n=8:=by omega
 rcases this with rfl | rfl | rfl | rfl | rfl | rfl | rfl | rfl | rfl<;>decide
theorem zh{α:Type}[DecidableEq α]{q:Nat->Str}{κ:Nat->α}{n i:Nat}(hw:∀j,j6 (D.str (q j))=true)(hq:∀a b,q a=q b↔κ a=κ b)(hn:n<=8)(hi:i<n):kC [.lst ((List.range n).map fun i=>.str (q i)),.str (q i)]=some (.int (i7 κ n i:Int)):=by
 have ef:((List.range n).map fun i=>D.str (q i)).findIdx (fun y=>l8 y (.str (q i)))=i7 κ n i:=by
  rw[List.findIdx_map]
  have e1:(List.range n).findIdx ((fun y=>l8 y (.str (q i))) ∘ fun i=>D.str (q i))=i7 q n i:=by
   unfold i7
   congr 1
  rw[e1]
  exact pP (fun a b _ _=>hq a b) hi
 show(if _ then (if ((List.range n).map fun i=>D.str (q i)).findIdx (fun y=>l8 y (.str (q i)))<_ then some (D.int ((((List.range n).map fun i=>D.str (q i)).findIdx (fun y=>l8 y (.str (q i))):Nat):Int)) else none) else none)=_
 rw[ef,if_pos ⟨by simp[j7],hw i,jX hw _,by simp;omega⟩,if_pos (by simpa using lQ hi)]
theorem yp{A:Bk}(ok:A.Ok){t:Nat}(o2 o3 o4 o5:OD):∃p3 p4 p5,uC [some A.d,some (jf A.modes.length (jm (iT A ok) (ku A) t)),o2,o3,o4,o5]=some (.nx [some A.d,some (jf A.modes.length (jm (iT A ok) (ku A) (t+1))),o2,p3,p4,p5]):=by
 have n8:=ok.some8
 have hκ:=AU ok t
 generalize hk:jm (iT A ok) (ku A) t=κ at *
 obtain⟨p3,p4,hl⟩:=vb ok hκ o2 (List.range A.modes.length) o3 o4 [] (fun i hi=>List.mem_range.mp hi) (by simp;omega)
 refine⟨p3,p4,some (.lst ((List.range A.modes.length).map fun i=>.str (lH ok κ i))),?_⟩
 have hz:oX (iP 1) (iY i4 (iP 0) (kI 2)) [some A.d,some (jf A.modes.length κ),o2,o3,o4]=some ((List.range A.modes.length).map fun i=>.tup [.str (κ i),(A.md i).d]):=by
  show some (sh ((List.range A.modes.length).map fun i=>.str (κ i)) (A.modes.map Md.d))=_
  rw[q_]
  unfold sh
  rw[List.zipWith_map,List.zipWith_self]
 have hlp:tF (oX (iP 1) (iY i4 (iP 0) (kI 2))) (j4 [(setAt 3),(setAt 4)]) (se 5 nJ) [some A.d,some (jf A.modes.length κ),o2,o3,o4] []=some (.nx [some A.d,some (jf A.modes.length κ),o2,p3,p4],(List.range A.modes.length).map fun i=>.str (lH ok κ i)):=by
  show(oX _ _ _).bind _=_
  rw[hz,Option.bind_some]
  exact hl
 have key:lT 1 (jh (iP 5)) (setAt 0) jL (iR yo (e8 (iR kC (e8 (iP 6) (e8 (iP 0) iQ))) iQ)) [some A.d,some (jf A.modes.length κ),o2,p3,p4,some (.lst ((List.range A.modes.length).map fun i=>.str (lH ok κ i)))]=some (jf A.modes.length (jm (iT A ok) (ku A) (t+1))):=by
  refine sY (T:=fun i=>D.str (lH ok κ i)) (f:=fun i=>D.str (jm (iT A ok) (ku A) (t+1) i)) (xs:=List.range A.modes.length) rfl (by simp;omega) fun i hi=>?_
  have hi:=List.mem_range.mp hi
  have hw:∀j,j6 (D.str (lH ok κ j))=true:=fun j=>(ou (hκ j) (by simp[mi]) (uG ok hκ j)).2
  have hi2:iR kC (e8 (iP 6) (e8 (iP 0) iQ)) (some (.str (lH ok κ i))::[some A.d,some (jf A.modes.length κ),o2,p3,p4,some (.lst ((List.range A.modes.length).map fun i=>.str (lH ok κ i)))])=some (.int (i7 (lJ (iT A ok) κ) A.modes.length i:Int)):=by
   have z:=zh (κ:=lJ (iT A ok) κ) hw (Ab ok hκ) n8 hi
   generalize lH ok κ=q at *
   exact z
  refine(jN hi2 ?_)
  show(if _ then some (D.str (toString ((i7 (lJ (iT A ok) κ) A.modes.length i:Nat):Int))) else none)=_
  rw[if_pos (vH (Nat.le_trans (qt _ _ _) n8)),<- hk]
  rfl
 show(tF (oX (iP 1) (iY i4 (iP 0) (kI 2))) (j4 [(setAt 3),(setAt 4)]) (se 5 nJ) [some A.d,some (jf A.modes.length κ),o2,o3,o4] []).bind _=_
 rw[hlp,Option.bind_some]
 exact ju key rfl
theorem gx{A:Bk}(ok:A.Ok):aO [A.d]=some (jf A.modes.length (jm (iT A ok) (ku A) A.modes.length)):=by
 have n8:=ok.some8
 have k0_q':lT 1 (jh (iY i4 (iP 0) (kI 2))) (setAt 0) jL (iR nQ (e8 (vV (iP 0) xH (aP (kI 2))) iQ)) [some A.d,none,none,none,none,none]=some (jf A.modes.length (ku A)):=by
  refine sY (T:=fun i=>(A.md i).d) (f:=fun i=>D.str (ku A i)) (xs:=List.range A.modes.length) ?_ (by simp;omega) fun i hi=>?_
  ·show some (A.modes.map Md.d)=_
   rw[q_]
  ·refine jN (xP (m:=A.md i) rfl) ?_
   have:∀(f:Face) (b:Bool),nQ [.tup [.str f.x,.bl b]]=some (.str (xm (f,b))):=fun f b=>by
    show(if _ then some (D.str (xm (f,b))) else none)=_
    exact if_pos (by cases f<;>cases b<;>decide +kernel)
   exact this _ _
 show jQ (jb _ _ [some A.d,none,none,none,none,none])=_
 rw[jk (qI (ρ':=[some A.d,some (jf A.modes.length (ku A)),none,none,none,none]) (show 4<6 by decide) (ju k0_q' rfl) (show 4<6 by decide))]
 obtain⟨ρ',hf,o2,o3,o4,o5,rfl⟩:=mO (st:=setAt 2) (body:=uC) (fun (t:Nat) (ρ:R)=>∃o2 o3 o4 o5,ρ=[some A.d,some (jf A.modes.length (jm (iT A ok) (ku A) t)),o2,o3,o4,o5]) (kj 0 A.modes.length) 0 [some A.d,some (jf A.modes.length (ku A)),none,none,none,none] ⟨none,none,none,none,rfl⟩ (by
  rintro i d ρ hd ⟨o2,o3,o4,o5,rfl⟩
  obtain⟨p3,p4,p5,ht⟩:=yp ok (t:=0+i) (some d) o3 o4 o5
  exact⟨_,_,rfl,ht,_,_,_,_,rfl⟩)
 have hlen:(kj 0 (A.modes.length:Int)).length=A.modes.length:=by unfold kj;simp
 rw[hlen,Nat.zero_add] at hf
 have hlp:kx (jR (iR lM (e8 (iP 1) iQ))) (setAt 2) uC [some A.d,some (jf A.modes.length (ku A)),none,none,none,none]=some (.nx [some A.d,some (jf A.modes.length (jm (iT A ok) (ku A) A.modes.length)),o2,o3,o4,o5]):=by
  have hl:iR lM (e8 (iP 1) iQ) [some A.d,some (jf A.modes.length (ku A)),none,none,none,none]=some (.int (A.modes.length:Int)):=by
   show some (D.int (((List.range A.modes.length).map fun i=>D.str (ku A i)).length:Int))=_
   simp
  show(jR _ _).bind _=_
  rw[inR hl (by omega),Option.bind_some]
  exact hf
 show jQ (jb (kx (jR (iR lM (e8 (iP 1) iQ))) (setAt 2) uC) _ _)=_
 rw[List.set_cons_succ,List.set_cons_succ,List.set_cons_succ,List.set_cons_succ,List.set_cons_zero,jk hlp]
 rfl
mutual
theorem sX:∀d:D,lp d=true->l8 d d=true
 | .non,_=>rfl
 | .bl b,_=>beq_self_eq_true b
 | .int i,_=>beq_self_eq_true i
 | .str x,_=>beq_self_eq_true x
 | .tup xs,h=>lZ xs h
 | .lst xs,h=>lZ xs h
 | .fro xs,h=>lZ xs h
 | .obj ..,h=>by cases h
 | .dct ..,h=>by cases h
 | .dcp ..,h=>by cases h
 | .cl ..,h=>by cases h
theorem lZ:∀ds:LD,jF ds=true->mw ds ds=true
 | [],_=>rfl
 | d::ds,h=>by
  have h':(lp d&&jF ds)=true:=h
  rw[Bool.and_eq_true] at h'
  show(l8 d d&&mw ds ds)=true
  rw[sX d h'.1,lZ ds h'.2];rfl
end
theorem vT{d:D}(h:j7 d<=100)(h2:j6 d=true):pK d d=some true:=by unfold pK;rw[if_pos ⟨h,h2,h2⟩,sX _ (aF h2)]
def kB(h:Nat->Nat)(od:List Nat)(y:Nat):List Nat:=if h y∈od.map h then od else od++[y]
theorem xW(h:Nat->Nat)(od:List Nat)(y:Nat):(kB h od y).map h=jO (od.map h) (h y):=by
 unfold kB jO
 split
 ·rfl
 ·rw[List.map_append];rfl
theorem sP(h:Nat->Nat):∀(l od:List Nat),(l.foldl (kB h) od).map h=(l.map h).foldl jO (od.map h)
 | [],_=>rfl
 | y::l,od=>by rw[List.foldl_cons,sP h l,xW];rfl
theorem yb(h:Nat->Nat)(od:List Nat)(y:Nat):(kB h od y).length<=od.length+1:=by
 unfold kB
 split
 ·exact Nat.le_succ _
 ·simp
theorem rG(h:Nat->Nat){n:Nat}:∀(l od:List Nat),(∀x∈l,x<n)->(∀x∈od,x<n)->∀x∈l.foldl (kB h) od,x<n
 | [],_,_,h2=>h2
 | y::l,od,h1,h2=>rG h l _ (fun x hx=>h1 x (List.mem_cons_of_mem _ hx)) fun x hx=>by
  unfold kB at hx
  split at hx
  ·exact h2 x hx
  ·rcases List.mem_append.mp hx with z | z
   ·exact h2 x z
   ·rw[List.mem_singleton.mp z];exact h1 y List.mem_cons_self
theorem xT{α:Type}[DecidableEq α]{sn:List α}{e:α}(h:sn.Nodup):(jO sn e).Nodup:=by
 unfold jO
 split
 ·exact h
 ·rename_i hn
  rw[List.nodup_append]
  refine⟨h,by simp,fun a ha b hb=>?_⟩
  rw[List.mem_singleton.mp hb]
  exact fun z=>hn (z ▸ ha)
theorem rZ{α:Type}[DecidableEq α]:∀(l:List α) {sn:List α},sn.Nodup->(l.foldl jO sn).Nodup
 | [],_,h=>h
 | _::l,_,h=>rZ l (xT h)
def jd(od:List Nat):LD:=od.map fun x:Nat=>.int (x:Int)
def i3(κ:Nat->Str)(od:List Nat):LD:=od.map fun x=>.str (κ x)
theorem wy{κ:Nat->Str}{h:Nat->Nat}{n:Nat}(hkh:∀i j,i<n->j<n->(κ i=κ j↔h i=h j)){od:List Nat}(hod:∀x∈od,x<n){y:Nat}(hy:y<n):rz (.str (κ y)) (.lst (i3 κ od))=some (!decide (h y∈od.map h)):=by
 show(if _ then some (!(i3 κ od).any fun z=>yX z (.str (κ y))) else none)=_
 have hf:(i3 κ od).all flat=true:=by unfold i3;rw[List.all_map];exact List.all_eq_true.mpr fun _ _=>rfl
 rw[if_pos (by rw[hf];rfl)]
 congr 2
 unfold i3
 rw[List.any_map]
 by_cases hm:h y∈od.map h
 ·rw[decide_eq_true hm]
  obtain⟨x,hx,e⟩:=List.mem_map.mp hm
  refine List.any_eq_true.mpr ⟨x,hx,?_⟩
  show(κ x==κ y)=true
  rw[(hkh x y (hod x hx) hy).mpr e];simp
 ·rw[decide_eq_false hm]
  refine Bool.eq_false_iff.mpr fun z=>hm ?_
  obtain⟨x,hx,e⟩:=List.any_eq_true.mp z
  have e':(κ x==κ y)=true:=e
  exact List.mem_map.mpr ⟨x,hx,(hkh x y (hod x hx) hy).mp (beq_iff_eq.mp e')⟩
theorem fi{A:Bk}{κ:Nat->Str}{h:Nat->Nat}(hkh:∀i j,i<A.modes.length->j<A.modes.length->(κ i=κ j↔h i=h j)){s o2 o4 o7 o8 o9 o10 o11:OD}{d:Str}{y:Nat}(hy:y<A.modes.length){od:List Nat}(hod:∀x∈od,x<A.modes.length)(hl:od.length<1000) :
  bv [s,some A.d,o2,some (jf A.modes.length κ),o4,some (.str d),some (.int (y:Int)),o7,o8,o9,o10,o11] [jd od,i3 κ od]=some (.nx [s,some A.d,o2,some (jf A.modes.length κ),o4,some (.str d),some (.int (y:Int)),o7,o8,o9,o10,o11],[jd (kB h od y),i3 κ (kB h od y)]):=by
 generalize hρ:([s,some A.d,o2,some (jf A.modes.length κ),o4,some (.str d),some (.int (y:Int)),o7,o8,o9,o10,o11]:R)=ρ
 have a1:iY i4 (iP 3) (iP 6) ρ=some (.str (κ y)):=by rw[<- hρ];exact rR hy
 have a1':iY i4 (iP 3) (iP 6) (rq ρ [jd od,i3 κ od])=some (.str (κ y)):=by rw[<- hρ];exact rR hy
 have a2:iP 13 (rq ρ [jd od,i3 κ od])=some (.lst (i3 κ od)):=by rw[<- hρ];rfl
 have a6:iP 6 ρ=some (.int (y:Int)):=by rw[<- hρ];rfl
 have hln:ρ.length=12:=by rw[<- hρ];rfl
 have c:jV rz (iY i4 (iP 3) (iP 6)) (iP 13) (rq ρ [jd od,i3 κ od])=some (!decide (h y∈od.map h)):=(u_ a1' a2).trans (wy hkh hod hy)
 unfold bv BK
 rw[c,Option.bind_some]
 unfold kB
 by_cases hm:h y∈od.map h
 ·rw[decide_eq_true hm,if_pos hm]
  rfl
 ·rw[decide_eq_false hm,if_neg hm]
  have n1:sE 13 1 (iY i4 (iP 3) (iP 6)) ρ [jd od,i3 κ od]=some (.nx ρ,[jd od,i3 κ (od++[y])]):=by
   unfold sE
   rw[a1,Option.bind_some]
   show(if ρ.length+1=13/\(i3 κ od).length<100000 then some (Out.nx ρ,[jd od,i3 κ od++[.str (κ y)]]) else none)=_
   rw[if_pos ⟨by omega,by unfold i3;rw[List.length_map];omega⟩]
   unfold i3
   rw[List.map_append];rfl
  show(sE 13 1 (iY i4 (iP 3) (iP 6)) ρ [jd od,i3 κ od]).bind _=_
  rw[n1,Option.bind_some]
  show sE 12 0 (iP 6) ρ [jd od,i3 κ (od++[y])]=_
  unfold sE
  rw[a6,Option.bind_some]
  show(if ρ.length+0=12/\(jd od).length<100000 then some (Out.nx ρ,[jd od++[.int (y:Int)],i3 κ (od++[y])]) else none)=_
  rw[if_pos ⟨by omega,by unfold jd;rw[List.length_map];omega⟩]
  unfold jd
  rw[List.map_append];rfl
theorem dm{A:Bk}{κ:Nat->Str}{h:Nat->Nat}(hkh:∀i j,i<A.modes.length->j<A.modes.length->(κ i=κ j↔h i=h j)){s o2 o4 o7 o8 o9 o10 o11:OD}:∀(rs:List (jn×Nat)) (o5 o6:OD) (od:List Nat),(∀r∈rs,r.2<A.modes.length)->(∀x∈od,x<A.modes.length)->od.length+rs.length<=900 ->
  ∃p5 p6,ug (j4 [(setAt 5),(setAt 6)]) bv (rs.map je) [s,some A.d,o2,some (jf A.modes.length κ),o4,o5,o6,o7,o8,o9,o10,o11] [jd od,i3 κ od]=some (.nx [s,some A.d,o2,some (jf A.modes.length κ),o4,p5,p6,o7,o8,o9,o10,o11],[jd ((rs.map (·.2)).foldl (kB h) od),i3 κ ((rs.map (·.2)).foldl (kB h) od)])
 | [],o5,o6,od,_,_,_=>⟨o5,o6,rfl⟩
 | r::rs,o5,o6,od,h1,h2,hl=>by
  rw[List.length_cons] at hl
  have t:=fi hkh (s:=s) (o2:=o2) (o4:=o4) (o7:=o7) (o8:=o8) (o9:=o9) (o10:=o10) (o11:=o11) (d:=r.1.x) (h1 r List.mem_cons_self) h2 (by omega)
  have hsl:=yb h od r.2
  obtain⟨p5,p6,ih⟩:=dm hkh (s:=s) (o2:=o2) (o4:=o4) (o7:=o7) (o8:=o8) (o9:=o9) (o10:=o10) (o11:=o11) rs (some (.str r.1.x)) (some (.int (r.2:Int))) (kB h od r.2) (fun z hz=>h1 z (List.mem_cons_of_mem _ hz)) (rG h [r.2] od (fun x hx=>by rw[List.mem_singleton.mp hx];exact h1 r List.mem_cons_self) h2) (by omega)
  refine⟨p5,p6,?_⟩
  show(bv [s,some A.d,o2,some (jf A.modes.length κ),o4,some (.str r.1.x),some (.int (r.2:Int)),o7,o8,o9,o10,o11] [jd od,i3 κ od]).bind _=_
  rw[t]
  exact ih
theorem qa:∀rs:List (jn×Nat),sD (rs.map je)=true
 | []=>rfl
 | r::rs=>by show(true&&sD _)=true;rw[qa rs];rfl
theorem iM{od:List Nat}{i x:Nat}(h:od[i]?=some x):i4 (.lst (jd od)) (.int (i:Int))=some (.int (x:Int)):=by
 show tH (jd od) (i:Int)=_
 exact nD (by unfold jd;rw[List.getElem?_map,h];rfl)
def mH:R->Option Bool:=(jV Bt (iP 4) (iR lM (e8 (iP 12) iQ)))
theorem eX{A:Bk}(ok:A.Ok){κ:Nat->Str}{h:Nat->Nat}(hkh:∀i j,i<A.modes.length->j<A.modes.length->(κ i=κ j↔h i=h j))(hhn:∀i,i<A.modes.length->h i<A.modes.length)
  (hb:∀x,x<A.modes.length->∀k,k<6->h ((iT A ok).g (h x) k)=h ((iT A ok).g x k)) {s o2 o7 o8 o9 o10 o11:OD}:∀(m i:Nat) (o5 o6:OD) (od:List Nat),10<=m+i->i<=od.length->(∀x∈od,x<A.modes.length)->(od.map h).Nodup ->
  ∃odf p4 p5 p6,qT mH aN m [s,some A.d,o2,some (jf A.modes.length κ),some (.int (i:Int)),o5,o6,o7,o8,o9,o10,o11] [jd od,i3 κ od]=some (.nx [s,some A.d,o2,some (jf A.modes.length κ),p4,p5,p6,o7,o8,o9,o10,o11],[jd odf,i3 κ odf])/\k6 (j9 (kZ (iT A ok) h)) (od.map h) i (odf.map h)/\(∀x∈odf,x<A.modes.length)/\odf.length<=8
 | m,i,o5,o6,od,hm,hi,hod,nd=>by
  have n8:=ok.some8
  have hlen:od.length<=A.modes.length:=by
   have:=List.Nodup.length_le_of_subset (l₂:=List.range A.modes.length) nd fun y hy=>by
    obtain⟨x,hx,rfl⟩:=List.mem_map.mp hy
    exact List.mem_range.mpr (hhn x (hod x hx))
   simpa using this
  cases m with
  | zero=>omega
  | succ m =>
   have c:mH (rq [s,some A.d,o2,some (jf A.modes.length κ),some (.int (i:Int)),o5,o6,o7,o8,o9,o10,o11] [jd od,i3 κ od])=some (decide (i<od.length)):=by
    show some (decide ((i:Int)<((jd od).length:Int)))=_
    unfold jd
    rw[List.length_map]
    congr 1
    exact decide_eq_decide.mpr (by omega)
   by_cases hlt:i<od.length
   ·rw[decide_eq_true hlt] at c
    have hx:od[i]?=some od[i]:=List.getElem?_eq_getElem hlt
    generalize od[i]=x at hx
    have hxn:=hod x (List.mem_of_getElem? hx)
    have mk:=mn ok hxn
    have ff:iY i4 (iY i4 (iY i4 (iP 1) (kI 2)) (iY i4 (iP 12) (iP 4))) (kI 2) (rq [s,some A.d,o2,some (jf A.modes.length κ),some (.int (i:Int)),o5,o6,o7,o8,o9,o10,o11] [jd od,i3 κ od])=some (.tup ((A.md x).rows.map je)):=by
     have e1:=yT (b:=A) (x:=x) (f:=iP 1) (g:=iY i4 (iP 12) (iP 4)) (ρ:=rq [s,some A.d,o2,some (jf A.modes.length κ),some (.int (i:Int)),o5,o6,o7,o8,o9,o10,o11] [jd od,i3 κ od]) rfl (iM hx) hxn
     show(iY i4 (iY i4 (iP 1) (kI 2)) (iY i4 (iP 12) (iP 4)) _).bind (fun z=>(some (D.int 2)).bind fun y=>i4 z y)=_
     rw[e1];rfl
    obtain⟨p5,p6,hl⟩:=dm hkh (s:=s) (o2:=o2) (o4:=some (.int (i:Int))) (o7:=o7) (o8:=o8) (o9:=o9) (o10:=o10) (o11:=o11) (A.md x).rows o5 o6 od mk.nx hod (by rw[mk.six];omega)
    have hmap:((A.md x).rows.map (·.2))=(List.range 6).map fun k=>(iT A ok).g x k:=bJ mk.six _
    rw[hmap] at hl
    have hpr:(((List.range 6).map fun k=>(iT A ok).g x k).foldl (kB h) od).map h=j9 (kZ (iT A ok) h) (od.map h) (h x):=by
     rw[sP,List.map_map]
     unfold j9 kZ
     congr 1
     exact List.map_congr_left fun k hk=>(hb x hxn k (List.mem_range.mp hk)).symm
    have hod':=rG h (n:=A.modes.length) ((List.range 6).map fun k=>(iT A ok).g x k) od (fun z hz=>by
     obtain⟨k,hk,rfl⟩:=List.mem_map.mp hz
     exact(iT A ok).gn x k hxn (List.mem_range.mp hk)) hod
    have nd':((((List.range 6).map fun k=>(iT A ok).g x k).foldl (kB h) od).map h).Nodup:=by rw[hpr];exact rZ _ nd
    have hlen':i+1<=(((List.range 6).map fun k=>(iT A ok).g x k).foldl (kB h) od).length:=by
     have e:=congrArg List.length hpr
     rw[List.length_map] at e
     obtain⟨e2,he2⟩:=uw (kZ (iT A ok) h) (od.map h) (h x)
     rw[he2,List.length_append,List.length_map] at e
     omega
    generalize ((List.range 6).map fun k=>(iT A ok).g x k).foldl (kB h) od=od' at *
    obtain⟨odf,q4,q5,q6,ih,iq,il,i8⟩:=eX ok hkh hhn hb (s:=s) (o2:=o2) (o7:=o7) (o8:=o8) (o9:=o9) (o10:=o10) (o11:=o11) m (i+1) p5 p6 od' (by omega) hlen' hod' nd'
    refine⟨odf,q4,q5,q6,?_,.step (x:=h x) (by rw[List.getElem?_map,hx];rfl) (by rw[<- hpr];exact iq),il,i8⟩
    have b:aN [s,some A.d,o2,some (jf A.modes.length κ),some (.int (i:Int)),o5,o6,o7,o8,o9,o10,o11] [jd od,i3 κ od]=some (.nx [s,some A.d,o2,some (jf A.modes.length κ),some (.int ((i+1:Nat):Int)),p5,p6,o7,o8,o9,o10,o11],[jd od',i3 κ od']):=by
     have b1:qN (iY i4 (iY i4 (iY i4 (iP 1) (kI 2)) (iY i4 (iP 12) (iP 4))) (kI 2)) (j4 [(setAt 5),(setAt 6)]) bv [s,some A.d,o2,some (jf A.modes.length κ),some (.int (i:Int)),o5,o6,o7,o8,o9,o10,o11] [jd od,i3 κ od]=some (.nx [s,some A.d,o2,some (jf A.modes.length κ),some (.int (i:Int)),p5,p6,o7,o8,o9,o10,o11],[jd od',i3 κ od']):=by
      unfold qN
      rw[ff,Option.bind_some]
      show(if sD ((A.md x).rows.map je) then _ else _)=_
      rw[if_pos (qa _)]
      exact hl
     unfold aN lG
     rw[b1]
     rfl
    unfold qT
    rw[c,Option.bind_some,if_pos rfl,b]
    exact ih
   ·rw[decide_eq_false hlt] at c
    refine⟨od,some (.int (i:Int)),o5,o6,?_,.done (by rw[List.length_map];omega),hod,by omega⟩
    unfold qT
    rw[c]
    rfl
theorem lq{p q:Nat->Bool}:∀{l:List Nat},(∀x∈l,p x=q x)->l.findIdx p=l.findIdx q
 | [],_=>rfl
 | a::l,h=>by
  rw[List.findIdx_cons,List.findIdx_cons,h a List.mem_cons_self,lq fun x hx=>h x (List.mem_cons_of_mem _ hx)]
theorem Bd{κ:Nat->Str}{h:Nat->Nat}{n:Nat}(hkh:∀i j,i<n->j<n->(κ i=κ j↔h i=h j)){od:List Nat}(hod:∀x∈od,x<n){y:Nat}(hy:y<n):od.findIdx (fun x=>decide (κ x=κ y))=((od.map h).map fun z:Nat=>(z:Int)).idxOf (h y:Int):=by
 rw[List.idxOf,List.findIdx_map,List.findIdx_map]
 refine lq fun x hx=>?_
 show _=((h x:Int)==(h y:Int))
 by_cases e:h x=h y
 ·rw[e,decide_eq_true ((hkh x y (hod x hx) hy).mpr e)];simp
 ·rw[decide_eq_false fun z=>e ((hkh x y (hod x hx) hy).mp z),beq_eq_false_iff_ne.mpr (by omega)]
def kE(A:Bk)(ok:A.Ok)(h:Nat->Nat)(S:List Nat)(x:Nat):D:=.tup [.str (A.md x).face.x,.bl (A.md x).stays,.tup ((List.range 6).map fun k=>.tup [.str ((A.md x).row k).1.x,.int (kX S (h ((iT A ok).g x k)))])]
def tG:R->Option Out:=(i9 (iY jJ (iP 11) (ja (e8 (ja (e8 (iP 5) (e8 (iR kC (e8 (iP 13) (e8 (iY i4 (iP 3) (iP 6)) iQ))) iQ))) iQ))) (setAt 11))
def pQ:R->Option Out:=(jb (i9 (iY i4 (iY i4 (iP 1) (kI 2)) (iP 7)) (j4 [(setAt 8),(setAt 9),(setAt 10)]))
  (jb (i9 (ja iQ) (setAt 11))
  (jb (kx (jh (iP 10)) (j4 [(setAt 5),(setAt 6)]) tG)
  (i9 (iY jJ (iP 2) (ja (e8 (ja (e8 (iP 8) (e8 (iP 9) (e8 (iP 11) iQ)))) iQ))) (setAt 2)))))
theorem zk{κ:Nat->Str}{h:Nat->Nat}{n:Nat}(hkh:∀i j,i<n->j<n->(κ i=κ j↔h i=h j))(hw:∀x,j6 (.str (κ x))=true){od:List Nat}(hod:∀x∈od,x<n)(h8:od.length<=8){y:Nat}(hy:y<n)(hin:h y∈od.map h):kC [.lst (i3 κ od),.str (κ y)]=some (.int (kX (od.map h) (h y))):=by
 have ef:(i3 κ od).findIdx (fun z=>l8 z (.str (κ y)))=((od.map h).map fun z:Nat=>(z:Int)).idxOf (h y:Int):=by
  rw[<- Bd hkh hod hy]
  unfold i3
  rw[List.findIdx_map]
  exact lq fun x _=>dR _ _
 have hlt:((od.map h).map fun z:Nat=>(z:Int)).idxOf (h y:Int)<(i3 κ od).length:=by
  have:=List.idxOf_lt_length_iff.mpr (show(h y:Int)∈(od.map h).map fun z:Nat=>(z:Int) from List.mem_map.mpr ⟨_,hin,rfl⟩)
  unfold i3
  simpa using this
 have hln:(i3 κ od).length<=1000:=by unfold i3;rw[List.length_map];omega
 have hly:ka (i3 κ od)=true:=jX hw _
 have hd:j7 (.str (κ y))<=100:=by simp[j7]
 generalize i3 κ od=es at *
 show(if _ then (if es.findIdx (fun z=>l8 z (.str (κ y)))<es.length then some (D.int ((es.findIdx (fun z=>l8 z (.str (κ y))):Nat):Int)) else none) else none)=_
 rw[if_pos ⟨hd,hw y,hly,hln⟩,ef,if_pos hlt]
 rfl
theorem cY{A:Bk}{κ:Nat->Str}{h:Nat->Nat}(hkh:∀i j,i<A.modes.length->j<A.modes.length->(κ i=κ j↔h i=h j))(hw:∀x,j6 (.str (κ x))=true){od:List Nat}(hod:∀x∈od,x<A.modes.length)(h8:od.length<=8){s o2 o4 o7 o8 o9 o10 o12:OD}:∀(rs:List (jn×Nat)) (o5 o6:OD) (ps:LD),(∀r∈rs,r.2<A.modes.length/\h r.2∈od.map h)->ps.length+rs.length<=1000 ->
  ∃p5 p6,mP (j4 [(setAt 5),(setAt 6)]) tG (rs.map je) [s,some A.d,o2,some (jf A.modes.length κ),o4,o5,o6,o7,o8,o9,o10,some (.tup ps),o12,some (.lst (i3 κ od))]=some (.nx [s,some A.d,o2,some (jf A.modes.length κ),o4,p5,p6,o7,o8,o9,o10,some (.tup (ps++rs.map fun r=>.tup [.str r.1.x,.int (kX (od.map h) (h r.2))])),o12,some (.lst (i3 κ od))])
 | [],o5,o6,ps,_,_=>⟨o5,o6,by simp[mP]⟩
 | r::rs,o5,o6,ps,h1,hl=>by
  rw[List.length_cons] at hl
  obtain⟨hr,hin⟩:=h1 r List.mem_cons_self
  obtain⟨p5,p6,ih⟩:=cY hkh hw hod h8 (s:=s) (o2:=o2) (o4:=o4) (o7:=o7) (o8:=o8) (o9:=o9) (o10:=o10) (o12:=o12) rs (some (.str r.1.x)) (some (.int (r.2:Int))) (ps++[.tup [.str r.1.x,.int (kX (od.map h) (h r.2))]]) (fun z hz=>h1 z (List.mem_cons_of_mem _ hz)) (by rw[List.length_append];simp;omega)
  refine⟨p5,p6,?_⟩
  have hi:=zk hkh hw hod h8 hr hin
  have t:tG [s,some A.d,o2,some (jf A.modes.length κ),o4,some (.str r.1.x),some (.int (r.2:Int)),o7,o8,o9,o10,some (.tup ps),o12,some (.lst (i3 κ od))]=some (.nx [s,some A.d,o2,some (jf A.modes.length κ),o4,some (.str r.1.x),some (.int (r.2:Int)),o7,o8,o9,o10,some (.tup (ps++[.tup [.str r.1.x,.int (kX (od.map h) (h r.2))]])),o12,some (.lst (i3 κ od))]):=by
   have hk:iY i4 (iP 3) (iP 6) [s,some A.d,o2,some (jf A.modes.length κ),o4,some (.str r.1.x),some (.int (r.2:Int)),o7,o8,o9,o10,some (.tup ps),o12,some (.lst (i3 κ od))]=some (.str (κ r.2)):=rR hr
   generalize i3 κ od=es at *
   generalize jf A.modes.length κ=kd at *
   refine ju (d:=.tup (ps++[.tup [.str r.1.x,.int (kX (od.map h) (h r.2))]])) ?_ rfl
   have e1:iR kC (e8 (iP 13) (e8 (iY i4 (iP 3) (iP 6)) iQ)) [s,some A.d,o2,some kd,o4,some (.str r.1.x),some (.int (r.2:Int)),o7,o8,o9,o10,some (.tup ps),o12,some (.lst es)]=some (.int (kX (od.map h) (h r.2))):=by
    show((some (D.lst es)).bind fun x=>((iY i4 (iP 3) (iP 6) _).bind fun y=>(some []).map (y::·)).map (x::·)).bind kC=_
    rw[hk]
    exact hi
   have e2:ja (e8 (ja (e8 (iP 5) (e8 (iR kC (e8 (iP 13) (e8 (iY i4 (iP 3) (iP 6)) iQ))) iQ))) iQ) [s,some A.d,o2,some kd,o4,some (.str r.1.x),some (.int (r.2:Int)),o7,o8,o9,o10,some (.tup ps),o12,some (.lst es)]=some (.tup [.tup [.str r.1.x,.int (kX (od.map h) (h r.2))]]):=by
    show((((some (D.str r.1.x)).bind fun x=>((iR kC _ _).bind fun y=>(some []).map (y::·)).map (x::·)).map D.tup).bind fun z=>(some []).map (z::·)).map D.tup=_
    rw[e1];rfl
   show(some (D.tup ps)).bind (fun x=>(ja _ _).bind fun y=>jJ x y)=_
   rw[e2]
   show(if ps.length+1<=sizeLine then _ else _)=_
   rw[if_pos (wH (by omega))]
  show(tG [s,some A.d,o2,some (jf A.modes.length κ),o4,some (.str r.1.x),some (.int (r.2:Int)),o7,o8,o9,o10,some (.tup ps),o12,some (.lst (i3 κ od))]).bind _=_
  rw[t,show ps++((r::rs).map fun r=>D.tup [.str r.1.x,.int (kX (od.map h) (h r.2))])=ps++[.tup [.str r.1.x,.int (kX (od.map h) (h r.2))]]++rs.map fun r=>D.tup [.str r.1.x,.int (kX (od.map h) (h r.2))] by simp]
  exact ih
theorem nS{A:Bk}(ok:A.Ok){κ:Nat->Str}{h:Nat->Nat}(hkh:∀i j,i<A.modes.length->j<A.modes.length->(κ i=κ j↔h i=h j))(hw:∀x,j6 (.str (κ x))=true){od:List Nat}(hod:∀x∈od,x<A.modes.length)(h8:od.length<=8)(hcl:∀x∈od,∀k,k<6->h ((iT A ok).g x k)∈od.map h){s o4 o12:OD}:∀(l:List Nat) (o5 o6 o7 o8 o9 o10 o11:OD) (ms:LD),(∀x∈l,x∈od)->ms.length+l.length<=1000 ->
  ∃p5 p6 p7 p8 p9 p10 p11,mP (setAt 7) pQ (jd l) [s,some A.d,some (.tup ms),some (jf A.modes.length κ),o4,o5,o6,o7,o8,o9,o10,o11,o12,some (.lst (i3 κ od))]=some (.nx [s,some A.d,some (.tup (ms++l.map (kE A ok h (od.map h)))),some (jf A.modes.length κ),o4,p5,p6,p7,p8,p9,p10,p11,o12,some (.lst (i3 κ od))])
 | [],o5,o6,o7,o8,o9,o10,o11,ms,_,_=>⟨o5,o6,o7,o8,o9,o10,o11,by simp[mP,jd]⟩
 | x::l,o5,o6,o7,o8,o9,o10,o11,ms,h1,hl=>by
  rw[List.length_cons] at hl
  have hx:=h1 x List.mem_cons_self
  have hxn:=hod x hx
  have mk:=mn ok hxn
  obtain⟨p5,p6,hr⟩:=cY hkh hw hod h8 (s:=s) (o2:=some (.tup ms)) (o4:=o4) (o7:=some (.int (x:Int))) (o8:=some (.str (A.md x).face.x)) (o9:=some (.bl (A.md x).stays)) (o10:=some (.tup ((A.md x).rows.map je))) (o12:=o12) (A.md x).rows o5 o6 [] (fun r hr=>by
   obtain⟨k,hk⟩:=List.getElem?_of_mem hr
   have hk6:k<6:=by have:=(List.getElem?_eq_some_iff.mp hk).1;rw[mk.six] at this;exact this
   have e:r=(A.md x).row k:=by rw[uP (by rw[mk.six];exact hk6)] at hk;exact(Option.some.inj hk).symm
   exact⟨mk.nx r hr,by rw[e];exact hcl x hx k hk6⟩) (by rw[mk.six];decide)
  have hm:([]++(A.md x).rows.map fun r=>D.tup [.str r.1.x,.int (kX (od.map h) (h r.2))])=(List.range 6).map fun k=>.tup [.str ((A.md x).row k).1.x,.int (kX (od.map h) (h ((iT A ok).g x k)))]:=by
   rw[List.nil_append,bJ mk.six];rfl
  rw[hm] at hr
  obtain⟨q5,q6,q7,q8,q9,q10,q11,ih⟩:=nS ok hkh hw hod h8 hcl (s:=s) (o4:=o4) (o12:=o12) l p5 p6 (some (.int (x:Int))) (some (.str (A.md x).face.x)) (some (.bl (A.md x).stays)) (some (.tup ((A.md x).rows.map je))) (some (.tup ((List.range 6).map fun k=>.tup [.str ((A.md x).row k).1.x,.int (kX (od.map h) (h ((iT A ok).g x k)))]))) (ms++[kE A ok h (od.map h) x]) (fun z hz=>h1 z (List.mem_cons_of_mem _ hz)) (by rw[List.length_append];simp;omega)
  refine⟨q5,q6,q7,q8,q9,q10,q11,?_⟩
  have t:pQ [s,some A.d,some (.tup ms),some (jf A.modes.length κ),o4,o5,o6,some (.int (x:Int)),o8,o9,o10,o11,o12,some (.lst (i3 κ od))]=some (.nx [s,some A.d,some (.tup (ms++[kE A ok h (od.map h) x])),some (jf A.modes.length κ),o4,p5,p6,some (.int (x:Int)),some (.str (A.md x).face.x),some (.bl (A.md x).stays),some (.tup ((A.md x).rows.map je)),some (.tup ((List.range 6).map fun k=>.tup [.str ((A.md x).row k).1.x,.int (kX (od.map h) (h ((iT A ok).g x k)))])),o12,some (.lst (i3 κ od))]):=by
   generalize i3 κ od=es at *
   generalize jf A.modes.length κ=kd at *
   unfold pQ
   have e1:=yT (b:=A) (x:=x) (f:=iP 1) (g:=iP 7) (ρ:=[s,some A.d,some (.tup ms),some kd,o4,o5,o6,some (.int (x:Int)),o8,o9,o10,o11,o12,some (.lst es)]) rfl rfl hxn
   rw[jk (ju (ρ':=[s,some A.d,some (.tup ms),some kd,o4,o5,o6,some (.int (x:Int)),some (.str (A.md x).face.x),some (.bl (A.md x).stays),some (.tup ((A.md x).rows.map je)),o11,o12,some (.lst es)]) e1 rfl)]
   rw[jk (ρ2:=[s,some A.d,some (.tup ms),some kd,o4,o5,o6,some (.int (x:Int)),some (.str (A.md x).face.x),some (.bl (A.md x).stays),some (.tup ((A.md x).rows.map je)),some (.tup []),o12,some (.lst es)]) rfl]
   have hlp:kx (jh (iP 10)) (j4 [(setAt 5),(setAt 6)]) tG [s,some A.d,some (.tup ms),some kd,o4,o5,o6,some (.int (x:Int)),some (.str (A.md x).face.x),some (.bl (A.md x).stays),some (.tup ((A.md x).rows.map je)),some (.tup []),o12,some (.lst es)]=_:=hr
   rw[jk hlp]
   generalize hps:(List.range 6).map (fun k=>D.tup [.str ((A.md x).row k).1.x,.int (kX (od.map h) (h ((iT A ok).g x k)))])=ps
   refine ju (d:=.tup (ms++[kE A ok h (od.map h) x])) ?_ rfl
   show(if ms.length+1<=sizeLine then some (D.tup (ms++[.tup [.str (A.md x).face.x,.bl (A.md x).stays,.tup ps]])) else none)=_
   rw[if_pos (wH (by omega)),<- hps]
   rfl
  show(pQ [s,some A.d,some (.tup ms),some (jf A.modes.length κ),o4,o5,o6,some (.int (x:Int)),o8,o9,o10,o11,o12,some (.lst (i3 κ od))]).bind _=_
  rw[t,show ms++(x::l).map (kE A ok h (od.map h))=ms++[kE A ok h (od.map h) x]++l.map (kE A ok h (od.map h)) by simp]
  exact ih
def kG(r:jn×Nat):jn×Nat:=(if decide ((oS "count").cps.toList<r.1.x.cps.toList) then .hour else .none,r.2)
def ko(m:Md):Md:=⟨if m.face=.laps then .alarm else .time,true,m.rows.map kG⟩
def vf:R->OD:=(iR mv (e8 (lT 2 (jh (iP 4)) (j4 [(setAt 0),(setAt 1)]) jL (ja (e8 (iY i4 (si (e8 (kS "none") (e8 (kS "hour") iQ))) (iR rh (e8 (tV (jV wQ (iP 0) (kS "count"))) iQ))) (e8 (iP 1) iQ)))) iQ))
def l3:R->Option Out:=(jb (i9 vf (setAt 5))
 (i9 (iY jJ (iP 1) (ja (e8 (ja (e8 (iY i4 (si (e8 (kS "time") (e8 (kS "alarm") iQ))) (iR rh (e8 (tV (jV vY (iP 2) (kS "laps"))) iQ))) (e8 (fun _=>some (.bl true)) (e8 (iP 5) iQ)))) iQ))) (setAt 1)))
theorem vM(b:Bool):i4 (.lst [.str (oS "none"),.str (oS "hour")]) (.int (if b then 1 else 0))=some (.str (if b then jn.hour else jn.none).x):=by cases b<;>rfl
theorem vq(f:Face):(vY (.str f.x) (.str (oS "laps")))=some (decide (f=.laps))/\i4 (.lst [.str (oS "time"),.str (oS "alarm")]) (.int (if decide (f=.laps) then 1 else 0))=some (.str (if f=.laps then Face.alarm else Face.time).x):=by
 cases f<;>exact⟨by decide +kernel,rfl⟩
theorem vL{m:Md}(h6:m.rows.length=6){s o1 o2 o3 o5:OD}:vf [s,o1,o2,o3,some (.tup (m.rows.map je)),o5]=some (.tup ((m.rows.map kG).map je)):=by
 have hc:lc (j4 [(setAt 0),(setAt 1)]) jL (ja (e8 (iY i4 (si (e8 (kS "none") (e8 (kS "hour") iQ))) (iR rh (e8 (tV (jV wQ (iP 0) (kS "count"))) iQ))) (e8 (iP 1) iQ))) (m.rows.map je) (List.replicate 2 none++[s,o1,o2,o3,some (.tup (m.rows.map je)),o5])=some ((m.rows.map je).map fun d=>match d with | .tup [.str x,y]=>.tup [.str (if decide ((oS "count").cps.toList<x.cps.toList) then jn.hour else jn.none).x,y] | _=>.non):=
  li _ fun d hd=>by
   obtain⟨r,hr,rfl⟩:=List.mem_map.mp hd
   refine⟨[some (.str r.1.x),some (.int (r.2:Int)),s,o1,o2,o3,some (.tup (m.rows.map je)),o5],rfl,?_⟩
   have z:=vM (decide ((oS "count").cps.toList<r.1.x.cps.toList))
   generalize hb:decide ((oS "count").cps.toList<r.1.x.cps.toList)=b at z
   have a1:iY i4 (si (e8 (kS "none") (e8 (kS "hour") iQ))) (iR rh (e8 (tV (jV wQ (iP 0) (kS "count"))) iQ)) [some (.str r.1.x),some (.int (r.2:Int)),s,o1,o2,o3,some (.tup (m.rows.map je)),o5]=some (.str (if b then jn.hour else jn.none).x):=by
    rw[<- z,<- hb];rfl
   show((iY i4 _ _ _).bind fun x=>((some (D.int (r.2:Int))).bind fun y=>(some []).map (y::·)).map (x::·)).map D.tup=_
   rw[a1]
   show _=some (D.tup [.str (if decide ((oS "count").cps.toList<r.1.x.cps.toList) then jn.hour else jn.none).x,.int (r.2:Int)])
   rw[hb];rfl
 refine jN (x:=.lst ((m.rows.map kG).map je)) ?_ rfl
 unfold lT
 have hs:jh (iP 4) [s,o1,o2,o3,some (.tup (m.rows.map je)),o5]=some (m.rows.map je):=rfl
 rw[hs,Option.bind_some,if_pos (wH (by rw[List.length_map,h6];decide)),hc,List.map_map,List.map_map]
 rfl
theorem pV{s:D}:∀(l:List Md) (o2 o3 o4 o5:OD) (ms:LD),(∀m∈l,m.rows.length=6)->ms.length+l.length<=1000 ->
  ∃p2 p3 p4 p5,mP (j4 [(setAt 2),(setAt 3),(setAt 4)]) l3 (l.map Md.d) [some s,some (.tup ms),o2,o3,o4,o5]=some (.nx [some s,some (.tup (ms++(l.map ko).map Md.d)),p2,p3,p4,p5])
 | [],o2,o3,o4,o5,ms,_,_=>⟨o2,o3,o4,o5,by simp[mP]⟩
 | m::l,o2,o3,o4,o5,ms,h,hl=>by
  rw[List.length_cons] at hl
  have h6:=h m List.mem_cons_self
  obtain⟨p2,p3,p4,p5,ih⟩:=pV (s:=s) l (some (.str m.face.x)) (some (.bl m.stays)) (some (.tup (m.rows.map je))) (some (.tup ((m.rows.map kG).map je))) (ms++[(ko m).d]) (fun z hz=>h z (List.mem_cons_of_mem _ hz)) (by rw[List.length_append];simp;omega)
  refine⟨p2,p3,p4,p5,?_⟩
  have t:l3 [some s,some (.tup ms),some (.str m.face.x),some (.bl m.stays),some (.tup (m.rows.map je)),o5]=some (.nx [some s,some (.tup (ms++[(ko m).d])),some (.str m.face.x),some (.bl m.stays),some (.tup (m.rows.map je)),some (.tup ((m.rows.map kG).map je))]):=by
   unfold l3
   rw[jk (ju (ρ':=[some s,some (.tup ms),some (.str m.face.x),some (.bl m.stays),some (.tup (m.rows.map je)),some (.tup ((m.rows.map kG).map je))]) (vL h6) rfl)]
   refine ju (d:=.tup (ms++[(ko m).d])) ?_ rfl
   obtain⟨f1,f2⟩:=vq m.face
   have e1:iY i4 (si (e8 (kS "time") (e8 (kS "alarm") iQ))) (iR rh (e8 (tV (jV vY (iP 2) (kS "laps"))) iQ)) [some s,some (.tup ms),some (.str m.face.x),some (.bl m.stays),some (.tup (m.rows.map je)),some (.tup ((m.rows.map kG).map je))]=some (.str (ko m).face.x):=by
    show(((((some (D.str m.face.x)).bind fun x=>(some (D.str (oS "laps"))).bind fun y=>vY x y).map D.bl).bind fun x=>(some []).map (x::·)).bind rh).bind (fun i=>i4 (.lst [.str (oS "time"),.str (oS "alarm")]) i)=_
    rw[Option.bind_some,Option.bind_some,f1]
    exact f2
   generalize hrs:(m.rows.map kG).map je=rs at *
   have e2:=wx (k:=iP 5) (z:=.tup rs) e1 (g:=fun _=>some (.bl true)) (y:=.bl true) rfl rfl
   show(some (D.tup ms)).bind (fun x=>((((ja _ _).bind fun z=>(some []).map (z::·)).map D.tup).bind fun y=>jJ x y))=_
   rw[e2]
   show(if ms.length+1<=sizeLine then some (D.tup (ms++[.tup [.str (ko m).face.x,.bl true,.tup rs]])) else none)=_
   rw[if_pos (wH (by omega)),<- hrs]
   rfl
  show(l3 [some s,some (.tup ms),some (.str m.face.x),some (.bl m.stays),some (.tup (m.rows.map je)),o5]).bind _=_
  rw[t,show ms++((m::l).map ko).map Md.d=ms++[(ko m).d]++(l.map ko).map Md.d by simp]
  exact ih
theorem vd{A:Bk}(ok:A.Ok){f:Md->Md}(hf:∀m,m.Ok A.modes.length->(f m).Ok A.modes.length):(⟨A.hold,A.back,A.modes.map f⟩:Bk).Ok:=by
 refine⟨ok.hold1,ok.hold9,ok.back0,ok.back60,?_,?_,?_⟩
 ·show 1<=(A.modes.map f).length;rw[List.length_map];exact ok.some1
 ·show(A.modes.map f).length<=8;rw[List.length_map];exact ok.some8
 ·show ∀m∈A.modes.map f,m.Ok (A.modes.map f).length
  rw[List.length_map]
  intro m hm
  obtain⟨m0,h0,rfl⟩:=List.mem_map.mp hm
  exact hf m0 (ok.all m0 h0)
theorem iy{A:Bk}(ok:A.Ok):∃B:Bk,B.Ok/\aU [A.d]=some B.d:=by
 refine⟨⟨A.hold,A.back,A.modes.map ko⟩,vd ok fun m hm=>⟨by show(m.rows.map kG).length=6;rw[List.length_map];exact hm.six,fun r hr=>?_⟩,?_⟩
 ·obtain⟨r0,h0,rfl⟩:=List.mem_map.mp hr
  exact hm.nx r0 h0
 ·obtain⟨p2,p3,p4,p5,hl⟩:=pV (s:=A.d) A.modes none none none none [] (fun m hm=>(ok.all m hm).six) (by have:=ok.some8;simp;omega)
  show jQ (jb _ _ [some A.d,none,none,none,none,none])=_
  rw[jk (ρ2:=[some A.d,some (.tup []),none,none,none,none]) rfl]
  have hlp:kx (jh (iY i4 (iP 0) (kI 2))) (j4 [(setAt 2),(setAt 3),(setAt 4)]) l3 [some A.d,some (.tup []),none,none,none,none]=_:=hl
  show jQ (jb (kx (jh (iY i4 (iP 0) (kI 2))) (j4 [(setAt 2),(setAt 3),(setAt 4)]) l3) _ _)=_
  rw[jk hlp]
  rfl
def qB(m:Md):Md:=⟨m.face,m.stays,List.replicate 6 (m.row 0)⟩
def pk:R->OD:=(iR mv (e8 (lT 3 (jh (iY i4 (iP 1) (kI 2))) (j4 [(setAt 0),(setAt 1),(setAt 2)]) jL (ja (e8 (iP 0) (e8 (iP 1) (e8 (iY pX (vV (iP 2) xH (aP (kI 1))) (kI 6)) iQ))))) iQ))
theorem iO{A:Bk}(ok:A.Ok){s:OD}{r:R}:pk (s::some A.d::r)=some (.tup ((A.modes.map qB).map Md.d)):=by
 have n8:=ok.some8
 have hc:lc (j4 [(setAt 0),(setAt 1),(setAt 2)]) jL (ja (e8 (iP 0) (e8 (iP 1) (e8 (iY pX (vV (iP 2) xH (aP (kI 1))) (kI 6)) iQ)))) (A.modes.map Md.d) (List.replicate 3 none++(s::some A.d::r))=some ((A.modes.map Md.d).map fun d=>match d with | .tup [f,b,.tup (x::_)]=>.tup [f,b,.tup [x,x,x,x,x,x]] | _=>.non):=
  li _ fun d hd=>by
   obtain⟨m,hm,rfl⟩:=List.mem_map.mp hd
   have h6:=(ok.all m hm).six
   obtain⟨f,b,rows⟩:=m
   match rows,h6 with
   | r0::rs,h6 =>
    refine⟨some (.str f.x)::some (.bl b)::some (.tup (je r0::rs.map je))::s::some A.d::r,rfl,?_⟩
    have a1:vV (iP 2) xH (aP (kI 1)) (some (.str f.x)::some (.bl b)::some (.tup (je r0::rs.map je))::s::some A.d::r)=some (.tup [je r0]):=by
     show some (D.tup (cutD (je r0::rs.map je) none (some 1)))=_
     unfold cutD wM
     simp
    have a2:iY pX (vV (iP 2) xH (aP (kI 1))) (kI 6) (some (.str f.x)::some (.bl b)::some (.tup (je r0::rs.map je))::s::some A.d::r)=some (.tup [je r0,je r0,je r0,je r0,je r0,je r0]):=by
     show(vV _ _ _ _).bind (fun x=>pX x (.int 6))=_
     rw[a1]
     show(if [je r0].length*6<=sizeLine/\(0:Int)<6/\(6:Int)<2 ^ 63 then some (D.tup (List.replicate 6 [je r0]).flatten) else none)=_
     rw[if_pos ⟨wH (show 1*6<=2000 by decide),by decide,by decide⟩]
     rfl
    exact wx (f:=iP 0) (g:=iP 1) (x:=.str f.x) (y:=.bl b) rfl rfl a2
 refine jN (x:=.lst ((A.modes.map qB).map Md.d)) ?_ rfl
 unfold lT
 have hs:jh (iY i4 (iP 1) (kI 2)) (s::some A.d::r)=some (A.modes.map Md.d):=rfl
 rw[hs,Option.bind_some,if_pos (wH (by rw[List.length_map];omega)),hc,List.map_map,List.map_map]
 show some (D.lst _)=_
 congr 2
 refine List.map_congr_left fun m hm=>?_
 have h6:=(ok.all m hm).six
 obtain⟨f,b,rows⟩:=m
 match rows,h6 with
 | r0::rs,h6=>rfl
theorem zU{A:Bk}(ok:A.Ok):(⟨A.hold,A.back,A.modes.map qB⟩:Bk).Ok:=vd ok fun m hm=>⟨by show(List.replicate 6 (m.row 0)).length=6;simp,fun r hr=>by
 have:r=m.row 0:=List.eq_of_mem_replicate hr
 rw[this]
 exact hm.nx _ (List.mem_of_getElem? (uP (by rw[hm.six];decide)))⟩
def mQ:R->Option Out:=(jb (i9 (ja iQ) (setAt 2))
  (jb (kx (jh (iP 12)) (setAt 7) pQ)
  (k_ (tV (jV pK (iR bb (e8 (iP 1) iQ)) (ja (e8 (iY i4 (iP 1) (kI 0)) (e8 (iY i4 (iP 1) (kI 1)) (e8 (iP 2) iQ)))))))))
def yR:R->Option Out:=(yC 12 (e8 (kI 0) iQ)
  (oR 13 (e8 (iY i4 (iP 3) (kI 0)) iQ)
  (lG (mR (i9 (kI 0) (setAt 4)))
  (lG (lS 100 mH aN)
  (oZ mQ)))))
theorem uJ{A:Bk}(ok:A.Ok)(h:Nat->Nat)(S:List Nat)(x:Nat):j6 (kE A ok h S x)=true/\j7 (kE A ok h S x)<=20:=by
 have h1:=sJ (A.md x).face
 have h2:=jX (f:=fun k=>D.tup [.str ((A.md x).row k).1.x,.int (kX S (h ((iT A ok).g x k)))]) (fun k=>by
  have:=rT ((A.md x).row k).1
  simp only[j6,ka] at *
  rw[this];rfl) (List.range 6)
 have h3:=ll (f:=fun k=>D.tup [.str ((A.md x).row k).1.x,.int (kX S (h ((iT A ok).g x k)))]) (m:=10) (fun k=>by simp[j7,kL]) (List.range 6)
 unfold kE
 constructor
 ·simp only[j6,ka] at *
  rw[h1,h2];rfl
 ·simp only[j7,kL]
  omega
theorem im{A:Bk}(ok:A.Ok){s o2 o4 o5 o6 o7 o8 o9 o10 o11:OD}:yR [s,some A.d,o2,some (jf A.modes.length (jm (iT A ok) (ku A) A.modes.length)),o4,o5,o6,o7,o8,o9,o10,o11,none,none]=some (.rt (.bl true)):=by
 have n1:=ok.some1
 have n8:=ok.some8
 obtain⟨T,S,hT,q,hS,hc,h8,eL⟩:=gy ok
 have hκ:=AU ok A.modes.length
 have hkh:∀i j,i<A.modes.length->j<A.modes.length->(jm (iT A ok) (ku A) A.modes.length i=jm (iT A ok) (ku A) A.modes.length j↔iW (iT A ok) T i=iW (iT A ok) T j):=fun i j hi hj=>zq (a:=iT A ok) (fun a b _ _=>zS A ok a b) hT hi hj
 have fo:=uN (a:=iT A ok) T
 have hhn:∀i,i<A.modes.length->iW (iT A ok) T i<A.modes.length:=fun i hi=>Nat.lt_of_le_of_lt (fo.le i hi) hi
 have hbis:∀x,x<A.modes.length->_:=fun x hx=>zG (a:=iT A ok) hT (hhn x hx) hx (fo.id x hx)
 have hb:∀x,x<A.modes.length->∀k,k<6->iW (iT A ok) T ((iT A ok).g (iW (iT A ok) T x) k)=iW (iT A ok) T ((iT A ok).g x k):=fun x hx k hk=>(hbis x hx).2.2 k hk
 have h00:iW (iT A ok) T 0=0:=by have:=fo.le 0 n1;omega
 have hw:∀x,j6 (.str (jm (iT A ok) (ku A) A.modes.length x))=true:=fun x=>by
  have:∀w∈words,j6 (.str w)=true:=by decide +kernel
  exact this _ (hκ x)
 generalize jm (iT A ok) (ku A) A.modes.length=κ at *
 have hsame:∀x,x<A.modes.length->nz A ok (iW (iT A ok) T) S (iW (iT A ok) T x)=kE A ok (iW (iT A ok) T) S x:=fun x hx=>by
  obtain⟨b1,b2,b3⟩:=hbis x hx
  have b1':((A.md (iW (iT A ok) T x)).face,(A.md (iW (iT A ok) T x)).stays)=((A.md x).face,(A.md x).stays):=b1
  rw[Prod.mk.injEq] at b1'
  unfold nz kE
  rw[b1'.1,b1'.2]
  congr 4
  refine congrArg D.tup (List.map_congr_left fun k hk=>?_)
  have hk:=List.mem_range.mp hk
  have b2':((A.md (iW (iT A ok) T x)).row k).1=((A.md x).row k).1:=b2 k hk
  rw[b2',b3 k hk]
 generalize iW (iT A ok) T=h at *
 obtain⟨odf,p4,p5,p6,hwh,hq,hod,hl8⟩:=eX ok hkh hhn hb (s:=s) (o2:=o2) (o7:=o7) (o8:=o8) (o9:=o9) (o10:=o10) (o11:=o11) 100 0 o5 o6 [0] (by decide) (Nat.zero_le _) (fun x hx=>by rw[List.mem_singleton.mp hx];exact n1) (by simp)
 have hS0:S=odf.map h:=by
  have hq':k6 (j9 (kZ (iT A ok) h)) [0] 0 (odf.map h):=by
   have:([0]:List Nat).map h=[0]:=by rw[List.map_cons,h00];rfl
   rw[<- this];exact hq
  exact q.det hq'
 subst hS0
 have hcl:∀x∈odf,∀k,k<6->h ((iT A ok).g x k)∈odf.map h:=fun x hx k hk=>by
  rw[<- hb x (hod x hx) k hk]
  exact hc _ (List.mem_map.mpr ⟨x,hx,rfl⟩) k hk
 obtain⟨r5,r6,r7,r8,r9,r10,r11,hml⟩:=nS ok hkh hw hod hl8 hcl (s:=s) (o4:=p4) (o12:=some (.lst (jd odf))) odf p5 p6 o7 o8 o9 o10 o11 [] (fun x hx=>hx) (by simp;omega)
 rw[List.nil_append] at hml
 have hmodes:(odf.map h).map (nz A ok h (odf.map h))=odf.map (kE A ok h (odf.map h)):=by
  rw[List.map_map]
  exact List.map_congr_left fun x hx=>hsame x (hod x hx)
 rw[hmodes] at eL
 have hll:ka (odf.map (kE A ok h (odf.map h)))=true:=jX (fun x=>(uJ ok h _ x).1) _
 have hdd:kL (odf.map (kE A ok h (odf.map h)))<=20:=ll (fun x=>(uJ ok h _ x).2) _
 have hrest:mQ (rq [s,some A.d,o2,some (jf A.modes.length κ),p4,p5,p6,o7,o8,o9,o10,o11] [jd odf,i3 κ odf])=some (.rt (.bl true)):=by
  generalize odf.map (kE A ok h (odf.map h))=ms at *
  generalize jf A.modes.length κ=kd at *
  generalize i3 κ odf=es at *
  show jb _ _ [s,some A.d,o2,some kd,p4,p5,p6,o7,o8,o9,o10,o11,some (.lst (jd odf)),some (.lst es)]=_
  rw[jk (ρ2:=[s,some A.d,some (.tup []),some kd,p4,p5,p6,o7,o8,o9,o10,o11,some (.lst (jd odf)),some (.lst es)]) rfl]
  have hlp:kx (jh (iP 12)) (setAt 7) pQ [s,some A.d,some (.tup []),some kd,p4,p5,p6,o7,o8,o9,o10,o11,some (.lst (jd odf)),some (.lst es)]=_:=hml
  rw[jk hlp]
  have e1:iR bb (e8 (iP 1) iQ) [s,some A.d,some (.tup ms),some kd,p4,r5,r6,r7,r8,r9,r10,r11,some (.lst (jd odf)),some (.lst es)]=_:=jN (x:=A.d) rfl eL
  have e2:ja (e8 (iY i4 (iP 1) (kI 0)) (e8 (iY i4 (iP 1) (kI 1)) (e8 (iP 2) iQ))) [s,some A.d,some (.tup ms),some kd,p4,r5,r6,r7,r8,r9,r10,r11,some (.lst (jd odf)),some (.lst es)]=some (.tup [.int A.hold,.int A.back,.tup ms]):=rfl
  have e3:pK (.tup [.int A.hold,.int A.back,.tup ms]) (.tup [.int A.hold,.int A.back,.tup ms])=some true:=vT (by simp only[j7,kL];omega) (by simp only[j6,ka];rw[hll];rfl)
  show(tV _ _).map Out.rt=_
  rw[BG ((u_ e1 e2).trans e3)]
  rfl
 have hk0:iY i4 (iP 3) (kI 0) [s,some A.d,o2,some (jf A.modes.length κ),o4,o5,o6,o7,o8,o9,o10,o11]=some (.str (κ 0)):=rR (i:=0) n1
 generalize jf A.modes.length κ=kd at *
 have e:∀X,qT mH aN 100 [s,some A.d,o2,some kd,some (.int ((0:Nat):Int)),o5,o6,o7,o8,o9,o10,o11] [jd [0],i3 κ [0]]=X->(lG (mR (i9 (kI 0) (setAt 4))) (lG (lS 100 mH aN) (oZ mQ))) [s,some A.d,o2,some kd,o4,o5,o6,o7,o8,o9,o10,o11] [[.int 0],[.str (κ 0)]]=X.bind fun r=>match r.1 with
  | .nx ρ1=>oZ mQ ρ1 r.2
  | o=>some (o,r.2):=fun X hX=>by rw[<- hX];rfl
 have e1:=e _ hwh
 rw[Option.bind_some] at e1
 have e2:oZ mQ [s,some A.d,o2,some kd,p4,p5,p6,o7,o8,o9,o10,o11] [jd odf,i3 κ odf]=some (.rt (.bl true),[jd odf,i3 κ odf]):=by
  unfold oZ
  rw[hrest];rfl
 have e3:(lG (mR (i9 (kI 0) (setAt 4))) (lG (lS 100 mH aN) (oZ mQ))) [s,some A.d,o2,some kd,o4,o5,o6,o7,o8,o9,o10,o11] [[.int 0],[.str (κ 0)]]=some (.rt (.bl true),[jd odf,i3 κ odf]):=e1.trans e2
 have e4:oR 13 (e8 (iY i4 (iP 3) (kI 0)) iQ) (lG (mR (i9 (kI 0) (setAt 4))) (lG (lS 100 mH aN) (oZ mQ))) [s,some A.d,o2,some kd,o4,o5,o6,o7,o8,o9,o10,o11] [[.int 0]]=some (.rt (.bl true),[jd odf]):=by
  unfold oR
  rw[if_pos (show([s,some A.d,o2,some kd,o4,o5,o6,o7,o8,o9,o10,o11]:R).length+([[.int 0]]:pH).length=13 from rfl)]
  show((iY i4 (iP 3) (kI 0) _).bind fun x=>(some []).map (x::·)).bind _=_
  rw[hk0]
  show((lG (mR (i9 (kI 0) (setAt 4))) (lG (lS 100 mH aN) (oZ mQ))) [s,some A.d,o2,some kd,o4,o5,o6,o7,o8,o9,o10,o11] [[.int 0],[.str (κ 0)]]).bind _=_
  rw[e3];rfl
 show(oR 13 (e8 (iY i4 (iP 3) (kI 0)) iQ) (lG (mR (i9 (kI 0) (setAt 4))) (lG (lS 100 mH aN) (oZ mQ))) [s,some A.d,o2,some kd,o4,o5,o6,o7,o8,o9,o10,o11] [[.int 0]]).bind _=_
 rw[e4];rfl
theorem w5{c:R->Option Bool}{f g:R->Option Out}{ρ:R}(h:c ρ=some true):xU c f g ρ=f ρ:=by simp[h]
theorem wG{c:R->Option Bool}{f g:R->Option Out}{ρ:R}(h:c ρ=some false):xU c f g ρ=g ρ:=by simp[h]
theorem wZ(ns:List Int)(_:ns.length<=63):cE [.fro (ns.map .int)]=some (.bl true):=by
  obtain⟨n0,e0,_⟩:=oB ns 0 (by decide)
  obtain⟨n1,e1,_⟩:=oB ns 1 (by decide)
  obtain⟨bd,hb,hbo,_⟩:=fg n0
  obtain⟨A,rfl,hA⟩:=gF hbo
  generalize hS:D.fro (ns.map .int)=S at *
  have m2:∀(i:Int) (n:Int),ak [S,.int i]=some (.int n)->∀r:R,iR ak (e8 (iP 0) (e8 (kI i) iQ)) (some S::r)=some (.int n):=fun i n h r=>h
  have s1:i9 (iR aM (e8 (iR ak (e8 (iP 0) (e8 (kI 0) iQ))) iQ)) (setAt 1) [some S,none,none,none,none,none,none,none,none,none,none,none,none,none]=some (.nx [some S,some A.d,none,none,none,none,none,none,none,none,none,none,none,none]):=
    ju (jN (m2 0 n0 e0 _) hb) rfl
  have s2:∃B:Bk,B.Ok/\xU (jV yV (iY j_ (iR ak (e8 (iP 0) (e8 (kI 1) iQ))) (kI 3)) (kI 0)) (i9 (iR aU (e8 (iP 1) iQ)) (setAt 1)) ox [some S,some A.d,none,none,none,none,none,none,none,none,none,none,none,none]=some (.nx [some S,some B.d,none,none,none,none,none,none,none,none,none,none,none,none]):=by
    have c:jV yV (iY j_ (iR ak (e8 (iP 0) (e8 (kI 1) iQ))) (kI 3)) (kI 0) [some S,some A.d,none,none,none,none,none,none,none,none,none,none,none,none]=some (decide (0<n1%3)):=by
      show(((iR ak (e8 (iP 0) (e8 (kI 1) iQ)) _).bind fun x=>(some (D.int 3)).bind fun y=>j_ x y).bind fun x=>(some (D.int 0)).bind fun y=>yV x y)=_
      rw[m2 1 n1 e1];rfl
    cases hc:decide (0<n1%3) with
    | false=>rw[hc] at c;exact⟨A,hA,wG c⟩
    | true =>
      rw[hc] at c
      obtain⟨B,hB,eB⟩:=iy hA
      exact⟨B,hB,(w5 c).trans (ju (jN (x:=A.d) rfl eB) rfl)⟩
  obtain⟨B,hB,s2⟩:=s2
  have s3:∃ C:Bk,C.Ok/\∃ o2,xU (jV vY (iY j_ (iY lu (iR ak (e8 (iP 0) (e8 (kI 1) iQ))) (kI 4)) (kI 3)) (kI 0))
      (jb (lN 10 (lN 9 (lN 8 (i9 pk (setAt 2)))))
      (i9 (iY jJ (vV (iP 1) xH (aP (kI 2))) (ja (e8 (iP 2) iQ))) (setAt 1)))
      ox [some S,some B.d,none,none,none,none,none,none,none,none,none,none,none,none]=some (.nx [some S,some C.d,o2,none,none,none,none,none,none,none,none,none,none,none]):=by
    have c:jV vY (iY j_ (iY lu (iR ak (e8 (iP 0) (e8 (kI 1) iQ))) (kI 4)) (kI 3)) (kI 0) [some S,some B.d,none,none,none,none,none,none,none,none,none,none,none,none]=some (n1 / 4%3==0):=by
      show((((iR ak (e8 (iP 0) (e8 (kI 1) iQ)) _).bind fun x=>(some (D.int 4)).bind fun y=>lu x y).bind fun x=>(some (D.int 3)).bind fun y=>j_ x y).bind fun x=>(some (D.int 0)).bind fun y=>vY x y)=_
      rw[m2 1 n1 e1];rfl
    cases hc:(n1 / 4%3==0) with
    | false=>rw[hc] at c;exact⟨B,hB,none,wG c⟩
    | true =>
      rw[hc] at c
      refine⟨⟨B.hold,B.back,B.modes.map qB⟩,zU hB,some (.tup ((B.modes.map qB).map Md.d)),(w5 c).trans ?_⟩
      have e:=iO hB (s:=some S) (r:=[none,none,none,none,none,none,none,none,none,none,none,none])
      generalize hms:(B.modes.map qB).map Md.d=ms at *
      have a1:i9 pk (setAt 2) [some S,some B.d,none,none,none,none,none,none,none,none,none,none,none,none]=some (.nx [some S,some B.d,some (.tup ms),none,none,none,none,none,none,none,none,none,none,none]):=ju e rfl
      have a2:lN 10 (lN 9 (lN 8 (i9 pk (setAt 2)))) [some S,some B.d,none,none,none,none,none,none,none,none,none,none,none,none]=some (.nx [some S,some B.d,some (.tup ms),none,none,none,none,none,none,none,none,none,none,none]):=
        qI (ρ':=[some S,some B.d,some (.tup ms),none,none,none,none,none,none,none,none,none,none,none]) (show 10<14 by decide) (qI (ρ':=[some S,some B.d,some (.tup ms),none,none,none,none,none,none,none,none,none,none,none]) (show 9<14 by decide) (qI (ρ':=[some S,some B.d,some (.tup ms),none,none,none,none,none,none,none,none,none,none,none]) (show 8<14 by decide) a1 (show 8<14 by decide)) (show 9<14 by decide)) (show 10<14 by decide)
      rw[jk a2]
      refine ju (d:=.tup [.int B.hold,.int B.back,.tup ms]) ?_ (by rw[<- hms];rfl)
      show(if 2+1<=sizeLine then some (D.tup ([.int B.hold,.int B.back]++[.tup ms])) else none)=_
      rw[if_pos (by decide)]
      rfl
  obtain⟨C,hC,o2,s3⟩:=s3
  have s4:i9 (iR aO (e8 (iP 1) iQ)) (setAt 3) [some S,some C.d,o2,none,none,none,none,none,none,none,none,none,none,none]=some (.nx [some S,some C.d,o2,some (jf C.modes.length (jm (iT C hC) (ku C) C.modes.length)),none,none,none,none,none,none,none,none,none,none]):=by
    have:=gx hC
    generalize jf C.modes.length (jm (iT C hC) (ku C) C.modes.length)=kd at *
    exact ju (jN (x:=C.d) rfl this) rfl
  have s5:=im hC (s:=some S) (o2:=o2) (o4:=none) (o5:=none) (o6:=none) (o7:=none) (o8:=none) (o9:=none) (o10:=none) (o11:=none)
  generalize jf C.modes.length (jm (iT C hC) (ku C) C.modes.length)=kd at *
  unfold cE via
  rw[if_pos (show [S].length=1 from rfl)]
  show jQ (jb _ _ [some S,none,none,none,none,none,none,none,none,none,none,none,none,none])=_
  rw[jk s1,jk s2]
  show jQ (jb (xU _ (jb (lN 10 (lN 9 (lN 8 (i9 pk (setAt 2))))) _) ox) _ _)=_
  rw[jk s3,jk s4]
  show jQ (yR _)=_
  rw[s5]
  rfl
end
end HW
set_option maxRecDepth 100000
namespace HW
open PySem PySem.Spec PyProof.Rows L2
variable{P:Program}{w:World}{K:W.Frag}{mg:Str->Option Value}{base:Heap}{k:Nat}{f:Addr}{fd:FuncData}
abbrev dG:Stmt:=top 2
theorem fS:jc ["mode"] ["mode"] (iV dG):=rO
theorem fM(Fn:m_ K "nexts" "nexts" dG f fd):jl P w K mg base kR (k+1) f fd ["mode"] (pC K bN):=by
 refine aK Fn fS ?_
 intro _ _ _ _ _ _ hr
 refine aB ?_
 refine a_ ?_
 refine bF (T:=["row"]) rfl ?_ ?_ ?_ (fun C s₃ H₃ fp hTC=>(ao (ac 0) ag)) (jq (by decide)) (show List.Nodup ((["row"]:List Str)++(["mode"]:List Str)) from by decide +kernel)
 ·exact aQ (ao (ac 0) ag)
 ·intro C s₃ H₃ fp hTC
  exact ae 0 (show List.Nodup (["row" ,"mode"]:List Str) from by decide +kernel)
 intro C s₃ H₃ fp hTC
 exact aX
abbrev aW:Stmt:=top 12
theorem b_:jc ["mode","heads"] ["mode","heads"] (iV aW):=rO
theorem bW(rJ:kY P w K mg base k "nexts" ["mode"] bN)(Fn:m_ K "heads_of_nexts" "heads_of_nexts" aW f fd):jl P w K mg base kR (k+1) f fd ["mode","heads"] (pC K aj):=by
 refine aK Fn b_ ?_
 intro _ _ _ _ _ _ hr
 refine aB ?_
 refine a_ ?_
 refine bF (T:=["number"]) rfl ?_ ?_ ?_ (fun C s₃ H₃ fp hTC=>(ao (ac 2) (ac 0))) (jq (by decide)) (show List.Nodup ((["number"]:List Str)++(["mode" ,"heads"]:List Str)) from by decide +kernel)
 ·refine aQ ?_
  exact aC rJ hr (aa (ac 0) ad)
 ·intro C s₃ H₃ fp hTC
  exact ae 0 (show List.Nodup (["number" ,"mode" ,"heads"]:List Str) from by decide +kernel)
 intro C s₃ H₃ fp hTC
 exact aX
theorem Bj{P:Program}{w:World}{K:W.Frag}{mg:Str->Option Value}{base:Heap}{k:Nat}(jr:kY P w K mg base k "heads_of_nexts" ["mode","heads"] aj):oV P w K mg base (k+1) uc (vD 3 wW):=by
 refine z_ (t:=uc) (g:=wW) (fun cl f cd A outer s H E S hr=>?_) (Aa fun _ _ _ _ us hl=>by obtain⟨x0,rfl⟩:=CD (us:=us) hl;rfl)
 exact(aC jr hr (aa (ao (ac 1) (ac 0)) (aa (ac 2) ad)))
abbrev bi:Stmt:=top 4
theorem jG:jc ["ways","newest","nexts_of","place","ends","number","found"] ["ways","newest","nexts_of"] (iV bi):=rO
theorem cF(ki:mg "len" = none)(jU:mg "range" = none)(l7:Bx K mg "PRESSES" aJ)(LO:AS P w K mg base k LL)(Fn:m_ K "one_press_on" "one_press_on" bi f fd):jl P w K mg base kR (k+1) f fd ["ways","newest","nexts_of"] (BD P w K 3 ar):=by
  refine gs Fn jG ?_
  intro _ _ _ _ _ _ hr
  exact(yr 6 jG.nd
  (xE PassesOwn.never rfl (aQ (ac 1)) (ae 3 jG.nd)
  (rW (yf (az (gh 2 LO hr (aa (ac 3) ad)) (ae 4 jG.nd)))
  (qJ (xE PassesOwn.never rfl (bV jU (ba cy ki (aa (fG l7) ad))) (ae 5 jG.nd)
  (qJ (AN (wJ 0 (uX hr) (ao (ac 4) (ac 5)))
  (rW (zQ 0 (uX hr) (ao (ac 4) (ac 5)) (A9 aG (zV 0 (uX hr) (ac 3)) (A6 (ao (fG l7) (ac 5)))))
  (qJ (y_ 6 (ao (ac 4) (ac 5)))))
  x_)))))))
abbrev bC:Stmt:=top 3
theorem ma:jc ["start","nexts_of","ways","newest"] ["start","nexts_of"] (iV bC):=rO
theorem db(ki:mg "len" = none)(kT:vB P w K mg base k "one_press_on" ["ways","newest","nexts_of"] ar)(Fn:m_ K "first_ways" "first_ways" bC f fd):jl P w K mg base kR (k+1) f fd ["start","nexts_of"] (pC K aI):=by
 refine aK Fn ma ?_
 intro _ _ _ _ _ _ hr
 refine gL 4 0 1 2 3 PassesOwn.never kT rfl hr ma.nd ?_ aE (fun _ _ _ r=>r)
 refine bT hV ?_ ag
 exact ba cy ki (aa (ac 3) ad)
abbrev du:Stmt:=top 6
theorem fF:jc ["mode"] ["mode"] (iV du):=rO
theorem fB(Fn:m_ K "looks" "looks" du f fd):jl P w K mg base kR (k+1) f fd ["mode"] (pC K bE):=by
 refine aK Fn fF ?_
 intro _ _ _ _ _ _ hr
 refine aB ?_
 refine a_ ?_
 refine au ?_
 exact aa (ao (ac 0) ag) (aa (ao (ac 0) ag) ad)
abbrev bS:Stmt:=top 7
theorem dU:jc ["mode"] ["mode"] (iV bS):=rO
theorem dW(Fn:m_ K "deeds_of" "deeds_of" bS f fd):jl P w K mg base kR (k+1) f fd ["mode"] (pC K aT):=by
 refine aK Fn dU ?_
 intro _ _ _ _ _ _ hr
 refine aB ?_
 refine a_ ?_
 refine bF (T:=["row"]) rfl ?_ ?_ ?_ (fun C s₃ H₃ fp hTC=>(ao (ac 0) ag)) (jq (by decide)) (show List.Nodup ((["row"]:List Str)++(["mode"]:List Str)) from by decide +kernel)
 ·exact aQ (ao (ac 0) ag)
 ·intro C s₃ H₃ fp hTC
  exact ae 0 (show List.Nodup (["row" ,"mode"]:List Str) from by decide +kernel)
 intro C s₃ H₃ fp hTC
 exact aX
abbrev bh:Stmt:=top 11
theorem cI:jc ["things"] ["things"] (iV bh):=rO
theorem cH(Fn:m_ K "first_places" "first_places" bh f fd):jl P w K mg base kR (k+1) f fd ["things"] (pC K ax):=by
 refine aK Fn cI ?_
 intro _ _ _ _ _ _ hr
 refine aB ?_
 refine a_ ?_
 refine bF (T:=["thing"]) rfl ?_ ?_ ?_ ?_ (jq (by decide)) (show List.Nodup ((["thing"]:List Str)++(["things"]:List Str)) from by decide +kernel)
 ·exact aQ (ac 0)
 ·intro C s₃ H₃ fp hTC
  exact ae 0 (show List.Nodup (["thing" ,"things"]:List Str) from by decide +kernel)
 ·intro C s₃ H₃ fp hTC
  exact aX
 intro C s₃ H₃ fp hTC
 exact dC hr (ac 1) (aa (ac 0) ad)
abbrev bu:Stmt:=top 10
theorem cV:jc ["modes","heads"] ["modes","heads"] (iV bu):=rO
theorem da(jB:kY P w K mg base k "first_places" ["things"] ax)(jr:kY P w K mg base k "heads_of_nexts" ["mode","heads"] aj)(ki:mg "len" = none)(jU:mg "range" = none)(Fn:m_ K "parted_once" "parted_once" bu f fd):jl P w K mg base kR (k+1) f fd ["modes","heads"] (pC K aA):=by
 refine aK Fn cV ?_
 intro _ _ _ _ _ _ hr
 refine aB ?_
 refine a_ ?_
 refine aC jB hr ?_
 refine aa ?_ ad
 refine bF (T:=["number"]) rfl ?_ ?_ ?_ ?_ (jq (by decide)) (show List.Nodup ((["number"]:List Str)++(["modes" ,"heads"]:List Str)) from by decide +kernel)
 ·refine bV jU ?_
  exact ba cy ki (aa (ac 0) ad)
 ·intro C s₃ H₃ fp hTC
  exact ae 0 (show List.Nodup (["number" ,"modes" ,"heads"]:List Str) from by decide +kernel)
 ·intro C s₃ H₃ fp hTC
  exact aX
 intro C s₃ H₃ fp hTC
 refine au ?_
 refine aa (ao (ac 2) (ac 0)) ?_
 refine aa ?_ ad
 exact aC jr hr (aa (ao (ac 1) (ac 0)) (aa (ac 2) ad))
abbrev bt:Stmt:=top 9
theorem jP:jc ["modes","heads","finer"] ["modes"] (iV bt):=rO
theorem cN(mC:kY P w K mg base k "deeds_of" ["mode"] aT)(jB:kY P w K mg base k "first_places" ["things"] ax)(rK:kY P w K mg base k "looks" ["mode"] bE)(kr:kY P w K mg base k "parted_once" ["modes","heads"] aA)(Fn:m_ K "alike_heads" "alike_heads" bt f fd):jl P w K mg base kR (k+1) f fd ["modes"] (pC K aR):=by
 refine aK Fn jP ?_
 intro _ _ _ _ _ _ hr
 refine al ?_ ?_
 ·refine az ?_ ?_
  ·refine aC jB hr ?_
   refine aa ?_ ad
   refine bF (T:=["mode"]) rfl ?_ ?_ ?_ ?_ (jq (by decide)) (show List.Nodup ((["mode"]:List Str)++(["modes" ,"heads" ,"finer"]:List Str)) from by decide +kernel)
   ·exact aQ (ac 0)
   ·intro C s₃ H₃ fp hTC
    exact ae 0 (show List.Nodup (["mode" ,"modes" ,"heads" ,"finer"]:List Str) from by decide +kernel)
   ·intro C s₃ H₃ fp hTC
    exact aX
   intro C s₃ H₃ fp hTC
   refine au ?_
   refine aa ?_ ?_
   ·exact aC rK hr (aa (ac 0) ad)
   refine aa ?_ ad
   exact aC mC hr (aa (ac 0) ad)
  exact ae 1 jP.nd
 refine al ?_ ?_
 ·refine az ?_ ?_
  ·exact aC kr hr (aa (ac 0) (aa (ac 1) ad))
  exact ae 2 jP.nd
 refine al ?_ ?_
 ·refine fD 20 PassesOwn.never ?_ ?_
  ·exact bT (ie hr) (ac 2) (ac 1)
  refine al ?_ ?_
  ·refine az (ac 2) ?_
   exact ae 1 jP.nd
  refine aB ?_
  refine az ?_ ?_
  ·exact aC kr hr (aa (ac 0) (aa (ac 1) ad))
  exact ae 2 jP.nd
 refine aB ?_
 exact a_ (ac 1)
abbrev cZ:Stmt:=top 13
theorem pU:jc ["mode","heads","order","rows"] ["mode","heads","order"] (iV cZ):=rO
theorem fk(jY:mg "tuple" = none)(Fn:m_ K "led_by" "led_by" cZ f fd):jl P w K mg base kR (k+1) f fd ["mode","heads","order"] (pC K bf):=by
 refine aK Fn pU ?_
 intro _ _ _ _ _ _ hr
 refine al ?_ ?_
 ·refine gr (T:=["row"]) rfl (i:=3) pU.nd ?_ ?_ ?_ ?_ (jq (by decide)) (show List.Nodup ((["row"]:List Str)++(["mode" ,"heads" ,"order" ,"rows"]:List Str)) from by decide +kernel)
  ·exact aQ (ao (ac 0) ag)
  ·intro C s₃ H₃ fp hTC
   exact ae 0 (show List.Nodup (["row" ,"mode" ,"heads" ,"order" ,"rows"]:List Str) from by decide +kernel)
  ·intro C s₃ H₃ fp hTC
   exact aX
  intro C s₃ H₃ fp hTC
  refine au ?_
  refine aa (ao (ac 0) ag) ?_
  refine aa ?_ ad
  exact gU (ac 3) (aa (ao (ac 2) (ao (ac 0) ag)) ad)
 refine aB ?_
 refine a_ ?_
 refine au ?_
 refine aa (ao (ac 0) ag) ?_
 refine aa (ao (ac 0) ag) ?_
 refine aa ?_ ad
 exact bg bU jY (aa (ac 3) ad)
abbrev aY:Stmt:=top 8
theorem m6:jc ["book","modes","heads","order"] ["book"] (iV aY):=rO
theorem gc{ct:jZ}(la:kY P w K mg base k "alike_heads" ["modes"] aR)(lB:kY P w K mg base k "first_ways" ["start","nexts_of"] aI)(pB:kY P w K mg base k "led_by" ["mode","heads","order"] bf)(uk:mg "list" = none)(jY:mg "tuple" = none)(hq:ct.q=("least.<locals>.<lambda>" : Str))(TB:kc mg [ct] base)(Fn:Ag K "least" "least" aY f fd ct.c):jl P w K mg base kR (k+1) f fd ["book"] (spT K bb ct):=by
 refine gP Fn m6 gu ?_ gN
 intro A outer s H E hr hT
 have Lm1:=wN (X:=(nW kR P w K mg base ["book","modes","heads","order"] "least" (iV aY) f (.ref ct.c) A outer s H E).nox) (t:=uc) (ct:=ct) (x:="modes") (y:="heads") (c:=s.heap.objs.size+3) (d:=s.heap.objs.size+2) (j:=1) (l:=2) TB hT hq.symm rfl hq.symm (fun _=>rfl) rfl rfl rfl rfl rfl rfl rfl rfl (by decide) (fun h=>absurd (Nat.add_left_cancel h) (by decide)) rfl rfl rfl (by decide) rfl (by decide +kernel) (by decide +kernel) rfl rfl (by decide +kernel)
 refine al ?_ ?_
 ·refine az (ao (ac 0) ag) ?_
  exact ae 1 m6.nd
 refine al ?_ ?_
 ·refine az ?_ ?_
  ·exact aC la hr (aa (ac 1) ad)
  exact ae 2 m6.nd
 refine al ?_ ?_
 ·refine az ?_ ?_
  ·refine f_ rfl uk ?_
   exact fm lB hr Lm1 (wz ag (zD Lm1))
  exact ae 3 m6.nd
 refine aB ?_
 refine a_ ?_
 refine au ?_
 refine aa (ao (ac 0) ag) ?_
 refine aa (ao (ac 0) ag) ?_
 refine aa ?_ ad
 refine bg bU jY ?_
 refine aa ?_ ad
 refine bF (T:=["head"]) rfl ?_ ?_ ?_ ?_ (jq (by decide)) (show List.Nodup ((["head"]:List Str)++(["book" ,"modes" ,"heads" ,"order"]:List Str)) from by decide +kernel)
 ·exact aQ (ac 3)
 ·intro C s₃ H₃ fp hTC
  exact ae 0 (show List.Nodup (["head" ,"book" ,"modes" ,"heads" ,"order"]:List Str) from by decide +kernel)
 ·intro C s₃ H₃ fp hTC
  exact aX
 intro C s₃ H₃ fp hTC
 refine aC pB hr ?_
 exact aa (ao (ac 2) (ac 0)) (aa (ac 3) (aa (ac 4) ad))
abbrev bp:Stmt:=top 15
theorem cJ:jc ["_law_script","_law_k"] ["_law_script","_law_k"] (iV bp):=rO
theorem cG(ki:mg "len" = none)(Fn:m_ K "_law_cell_at" "_law_cell_at" bp f fd):jl P w K mg base kR (k+1) f fd ["_law_script","_law_k"] (pC K av):=by
 refine gb Fn cJ cW ?_ cT
 intro _ _ _ _ _ _ hr
 refine al ?_ ?_
 ·refine ii ?_ ?_ ej
  ·refine bT hR (ac 1) ?_
   exact ba cy ki (aa (ac 0) ad)
  refine aB ?_
  exact a_ (ao (ac 0) (ac 1))
 refine aB ?_
 exact a_ ag
abbrev bD:Stmt:=top 16
theorem ml:jc ["_law_script","_law_k","_law_drawn_here"] ["_law_script","_law_k"] (iV bD):=rO
theorem di(kU:kY P w K mg base k "_law_cell_at" ["_law_script","_law_k"] av)(Fn:m_ K "_law_mixed" "_law_mixed" bD f fd):jl P w K mg base kR (k+1) f fd ["_law_script","_law_k"] (pC K ak):=by
 refine aK Fn ml ?_
 intro _ _ _ _ _ _ hr
 refine al ?_ ?_
 ·refine az ?_ ?_
  ·refine aq aV ?_ ag
   refine aq bH ?_ ag
   refine aq aG ?_ ag
   refine aq aG ?_ ?_
   ·exact aC kU hr (aa (ac 0) (aa (ac 1) ad))
   exact aq bH ag (ac 1)
  exact ae 2 ml.nd
 refine aB ?_
 refine a_ ?_
 refine aq aV ?_ ag
 refine aq aG ?_ (ac 1)
 refine aq aG ?_ ?_
 ·exact aq bH (ac 2) (ac 2)
 exact aq bH ag (ac 2)
abbrev bB:Stmt:=top 17
theorem mj:jc ["_law_number","_law_k","_law_drawn_here"] ["_law_number","_law_k"] (iV bB):=rO
theorem dh(Fn:m_ K "_law_drawn" "_law_drawn" bB f fd):jl P w K mg base kR (k+1) f fd ["_law_number","_law_k"] (pC K aD):=by
 refine aK Fn mj ?_
 intro _ _ _ _ _ _ hr
 refine al ?_ ?_
 ·refine az ?_ ?_
  ·refine aq aV ?_ ag
   refine aq bH ?_ ag
   refine aq aG ?_ ag
   refine aq aG (ac 0) ?_
   exact aq bH ag (ac 1)
  exact ae 2 mj.nd
 refine aB ?_
 refine a_ ?_
 refine aq aV ?_ ag
 refine aq aG ?_ (ac 1)
 refine aq aG ?_ ?_
 ·exact aq bH (ac 2) (ac 2)
 exact aq bH ag (ac 2)
abbrev bM:Stmt:=top 18
theorem jg:jc ["_law_number","_law_many","_law_deeds","_law_modes","_law_k","_law_drawn_here","_law_rows","_law_j","_law_one","_law_face"] ["_law_number"] (iV bM):=rO
theorem dB(kH:kY P w K mg base k "_law_drawn" ["_law_number","_law_k"] aD)(jU:mg "range" = none)(Fn:m_ K "_law_book" "_law_book" bM f fd):jl P w K mg base kR (k+1) f fd ["_law_number"] (pC K aM):=by
 refine aK Fn jg ?_
 intro _ _ _ _ _ _ hr
 refine al ?_ ?_
 ·refine az ?_ ?_
  ·refine aq aG ag ?_
   exact aq aV (ac 0) ag
  exact ae 1 jg.nd
 refine al ?_ ?_
 ·refine az ?_ ?_
  ·refine au ?_
   refine aa aE ?_
   refine aa aE ?_
   refine aa aE ?_
   refine aa aE ?_
   refine aa aE ?_
   refine aa aE ?_
   refine aa aE ?_
   refine aa aE ?_
   exact aa aE (aa aE (aa aE (aa aE ad)))
  exact ae 2 jg.nd
 refine al ?_ ?_
 ·refine az ?_ ?_
  ·exact au ad
  exact ae 3 jg.nd
 refine al ?_ ?_
 ·refine dl PassesOwn.never rfl ?_ ?_ ?_
  ·exact bV jU (ac 1)
  ·exact ae 4 jg.nd
  refine al ?_ ?_
  ·refine az ?_ ?_
   ·refine aq bG ?_ ag
    exact aC kH hr (aa (ac 0) (aa (ac 4) ad))
   exact ae 5 jg.nd
  refine al ?_ ?_
  ·refine az ?_ ?_
   ·exact au ad
   exact ae 6 jg.nd
  refine al ?_ ?_
  ·refine dl PassesOwn.never rfl ?_ ?_ ?_
   ·exact bV jU ag
   ·exact ae 7 jg.nd
   refine al ?_ ?_
   ·refine az ?_ ?_
    ·refine aq bG ?_ ag
     refine aC kH hr ?_
     refine aa (ac 5) ?_
     refine aa ?_ ad
     exact aq aG ag (ac 7)
    exact ae 8 jg.nd
   refine aB ?_
   refine az ?_ ?_
   ·refine aq aG (ac 6) ?_
    refine au ?_
    refine aa ?_ ad
    refine au ?_
    refine aa ?_ ?_
    ·refine ao ?_ ?_
     ·refine aq aG (ac 2) ?_
      exact au (aa aE ad)
     exact aq aV (ac 8) ag
    refine aa ?_ ad
    refine aq aV ?_ (ac 1)
    exact aq bG (ac 8) ag
   exact ae 6 jg.nd
  refine al ?_ ?_
  ·refine az ?_ ?_
   ·refine ao ?_ ?_
    ·refine au ?_
     exact aa aE (aa aE (aa aE (aa aE ad)))
    exact aq aV (ac 5) ag
   exact ae 9 jg.nd
  refine aB ?_
  refine az ?_ ?_
  ·refine aq aG (ac 3) ?_
   refine au ?_
   refine aa ?_ ad
   refine au ?_
   refine aa (ac 9) ?_
   refine aa ?_ (aa (ac 6) ad)
   refine dz (fX hr) ?_ ag
   refine aq aV ?_ ag
   exact aq bG (ac 5) ag
  exact ae 3 jg.nd
 refine aB ?_
 refine a_ ?_
 refine au ?_
 refine aa ?_ ?_
 ·refine aq aG ag ?_
  refine aq aV ?_ ?_
  ·exact aq bG (ac 0) ag
  refine ao ?_ ?_
  ·exact au (aa ag (aa ag ad))
  refine aq aV ?_ ag
  exact aq bG (ac 0) ag
 refine aa ?_ (aa (ac 3) ad)
 refine ao ?_ ?_
 ·refine au ?_
  refine aa ag ?_
  exact aa ag (aa ag (aa ag (aa ag ad)))
 refine aq aV ?_ ag
 exact aq bG (ac 0) ag
abbrev bL:Stmt:=top 19
theorem jD:jc ["_law_book_here","_law_modes","_law_face","_law_stays","_law_rows","_law_pairs"] ["_law_book_here"] (iV bL):=rO
theorem dD(vg:mg "int" = none)(jY:mg "tuple" = none)(Fn:m_ K "_law_poor" "_law_poor" bL f fd):jl P w K mg base kR (k+1) f fd ["_law_book_here"] (pC K aU):=by
 refine aK Fn jD ?_
 intro _ _ _ _ _ _ hr
 refine al ?_ ?_
 ·refine az ?_ ?_
  ·exact au ad
  exact ae 1 jD.nd
 refine al ?_ ?_
 ·refine dl PassesOwn.never rfl ?_ ?_ ?_
  ·exact aQ (ao (ac 0) ag)
  ·refine bK rfl ?_
   refine ay ?_ ?_
   ·exact ae 2 jD.nd
   refine ay ?_ ?_
   ·exact ae 3 jD.nd
   refine ay ?_ br
   exact ae 4 jD.nd
  refine al ?_ ?_
  ·refine az ?_ ?_
   ·refine bg bU jY ?_
    refine aa ?_ ad
    refine bF (T:=["_law_deed" ,"_law_goal"]) rfl ?_ ?_ ?_ ?_ (nG (by intro f hf;simp only[List.mem_cons,List.not_mem_nil,or_false] at hf;rcases hf with rfl | rfl<;>exact jq (by decide))) (show List.Nodup ((["_law_deed" ,"_law_goal"]:List Str)++(["_law_book_here" ,"_law_modes" ,"_law_face" ,"_law_stays" ,"_law_rows" ,"_law_pairs"]:List Str)) from by decide +kernel)
    ·exact aQ (ac 4)
    ·intro C s₃ H₃ fp hTC
     refine bK rfl ?_
     refine ay ?_ ?_
     ·exact ae 0 (show List.Nodup (["_law_deed" ,"_law_goal" ,"_law_book_here" ,"_law_modes" ,"_law_face" ,"_law_stays" ,"_law_rows" ,"_law_pairs"]:List Str) from by decide +kernel)
     refine ay ?_ br
     exact ae 1 (show List.Nodup (["_law_deed" ,"_law_goal" ,"_law_book_here" ,"_law_modes" ,"_law_face" ,"_law_stays" ,"_law_rows" ,"_law_pairs"]:List Str) from by decide +kernel)
    ·intro C s₃ H₃ fp hTC
     exact aX
    intro C s₃ H₃ fp hTC
    refine au ?_
    refine aa ?_ (aa (ac 1) ad)
    refine ao ?_ ?_
    ·exact fN (aa aE (aa aE ad))
    refine bg gi vg ?_
    refine aa ?_ ad
    exact dz ij (ac 0) aE
   exact ae 5 jD.nd
  refine aB ?_
  refine az ?_ ?_
  ·refine aq aG (ac 1) ?_
   refine au ?_
   refine aa ?_ ad
   refine au ?_
   refine aa ?_ (aa iJ (aa (ac 5) ad))
   refine ao ?_ ?_
   ·exact fN (aa aE (aa aE ad))
   refine bg gi vg ?_
   refine aa ?_ ad
   exact dz (fX hr) (ac 2) aE
  exact ae 1 jD.nd
 refine aB ?_
 refine a_ ?_
 refine au ?_
 exact aa (ao (ac 0) ag) (aa (ao (ac 0) ag) (aa (ac 1) ad))
abbrev bA:Stmt:=top 20
theorem jH:jc ["_law_book_here","_law_kinds_here","_law_turn","_law_kind","_law_mode","_law_looks"] ["_law_book_here"] (iV bA):=rO
theorem de(ki:mg "len" = none)(jU:mg "range" = none)(rL:mg "repr" = none)(xK:mg "str" = none)(xM:mg "zip" = none)(Fn:m_ K "_law_kinds" "_law_kinds" bA f fd):jl P w K mg base kR (k+1) f fd ["_law_book_here"] (pC K aO):=by
 refine aK Fn jH ?_
 intro _ _ _ _ _ _ hr
 refine al ?_ ?_
 ·refine eO 4 ".h4" ?_
  refine az ?_ ?_
  ·refine bF (T:=["_law_mode"]) rfl ?_ ?_ ?_ ?_ (jq (by decide)) (show List.Nodup ((["_law_mode"]:List Str)++(["_law_book_here" ,"_law_kinds_here" ,"_law_turn" ,"_law_kind" ,".h4" ,"_law_looks"]:List Str)) from by decide +kernel)
   ·exact aQ (ao (ac 0) ag)
   ·intro C s₃ H₃ fp hTC
    exact ae 0 (show List.Nodup (["_law_mode" ,"_law_book_here" ,"_law_kinds_here" ,"_law_turn" ,"_law_kind" ,".h4" ,"_law_looks"]:List Str) from by decide +kernel)
   ·intro C s₃ H₃ fp hTC
    exact aX
   intro C s₃ H₃ fp hTC
   refine ba (eK hr) rL ?_
   refine aa ?_ ad
   refine cO (ac 0) dM ?_
   exact dN ag
  exact ae 1 (show List.Nodup (["_law_book_here" ,"_law_kinds_here" ,"_law_turn" ,"_law_kind" ,".h4" ,"_law_looks"]:List Str) from by decide +kernel)
 refine al ?_ ?_
 ·refine dl PassesOwn.never rfl ?_ ?_ ?_
  ·refine bV jU ?_
   exact ba cy ki (aa (ac 1) ad)
  ·exact ae 2 jH.nd
  refine ir 5 jH.nd ad ?_
  refine gR ?_ ?_
  ·refine ia PassesOwn.never rfl ?_ ?_ ?_
   ·exact hW xM (ac 1) (ao (ac 0) ag)
   ·refine bK rfl ?_
    refine ay ?_ ?_
    ·exact ae 3 jH.nd
    refine ay ?_ br
    exact ae 4 jH.nd
   refine gt ?_
   refine iz 5 ?_
   refine ba (eK hr) rL ?_
   refine aa ?_ ad
   refine au ?_
   refine aa (ac 3) ?_
   refine aa ?_ ad
   refine bF (T:=["_law_deed" ,"_law_goal"]) rfl ?_ ?_ ?_ ?_ (nG (by intro f hf;simp only[List.mem_cons,List.not_mem_nil,or_false] at hf;rcases hf with rfl | rfl<;>exact jq (by decide))) (show List.Nodup ((["_law_deed" ,"_law_goal"]:List Str)++(["_law_book_here" ,"_law_kinds_here" ,"_law_turn" ,"_law_kind" ,"_law_mode" ,"_law_looks"]:List Str)) from by decide +kernel)
   ·exact aQ (ao (ac 4) ag)
   ·intro C s₃ H₃ fp hTC
    refine bK rfl ?_
    refine ay ?_ ?_
    ·exact ae 0 (show List.Nodup (["_law_deed" ,"_law_goal" ,"_law_book_here" ,"_law_kinds_here" ,"_law_turn" ,"_law_kind" ,"_law_mode" ,"_law_looks"]:List Str) from by decide +kernel)
    refine ay ?_ br
    exact ae 1 (show List.Nodup (["_law_deed" ,"_law_goal" ,"_law_book_here" ,"_law_kinds_here" ,"_law_turn" ,"_law_kind" ,"_law_mode" ,"_law_looks"]:List Str) from by decide +kernel)
   ·intro C s₃ H₃ fp hTC
    exact aX
   intro C s₃ H₃ fp hTC
   exact au (aa (ac 0) (aa (ao (ac 3) (ac 1)) ad))
  refine ik ?_
  refine aB ?_
  refine az ?_ ?_
  ·refine bF (T:=["_law_one"]) rfl ?_ ?_ ?_ ?_ (jq (by decide)) (show List.Nodup ((["_law_one"]:List Str)++(["_law_book_here" ,"_law_kinds_here" ,"_law_turn" ,"_law_kind" ,"_law_mode" ,"_law_looks"]:List Str)) from by decide +kernel)
   ·exact aQ (ac 5)
   ·intro C s₃ H₃ fp hTC
    exact ae 0 (show List.Nodup (["_law_one" ,"_law_book_here" ,"_law_kinds_here" ,"_law_turn" ,"_law_kind" ,"_law_mode" ,"_law_looks"]:List Str) from by decide +kernel)
   ·intro C s₃ H₃ fp hTC
    exact aX
   intro C s₃ H₃ fp hTC
   refine bg ib xK ?_
   refine aa ?_ ad
   exact dC hr (ac 6) (aa (ac 0) ad)
  exact ae 1 jH.nd
 refine aB ?_
 exact a_ (ac 1)
abbrev cj:Stmt:=top 21
theorem jx:jc ["_law_script","_law_book_here","_law_modes","_law_kinds_here","_law_at","_law_deed","_law_goal","_law_mode","_law_face","_law_stays","_law_rows","_law_pairs","_law_order","_law_names"] ["_law_script"] (iV cj):=rO
theorem iA{ct:jZ}(lW:kY P w K mg base k "_law_book" ["_law_number"] aM)(lC:kY P w K mg base k "_law_kinds" ["_law_book_here"] aO)(kg:kY P w K mg base k "_law_mixed" ["_law_script","_law_k"] ak)(lX:kY P w K mg base k "_law_poor" ["_law_book_here"] aU)(rM:ri P w K mg base k "least" ["book"] bb ct)(ki:mg "len" = none)(jY:mg "tuple" = none)(Fn:m_ K "law" "law" cj f fd):jl P w K mg base kR (k+1) f fd ["_law_script"] (spT K cE ct):=by
 refine gH Fn jx iK ?_ iI
 intro cdv A outer s H E hr hT
 refine al ?_ ?_
 ·refine az ?_ ?_
  ·refine aC lW hr ?_
   refine aa ?_ ad
   exact aC kg hr (aa (ac 0) (aa ag ad))
  exact ae 1 jx.nd
 refine al ?_ ?_
 ·refine ii ?_ ?_ ej
  ·refine bT hV ?_ ag
   refine aq aV ?_ ag
   exact aC kg hr (aa (ac 0) (aa ag ad))
  refine aB ?_
  refine az ?_ ?_
  ·exact aC lX hr (aa (ac 1) ad)
  exact ae 1 jx.nd
 refine al ?_ ?_
 ·refine ii ?_ ?_ ej
  ·refine bT (fX hr) ?_ ag
   refine aq aV ?_ ag
   refine aq bG ?_ ag
   exact aC kg hr (aa (ac 0) (aa ag ad))
  refine al ?_ ?_
  ·refine eO 10 ".h10" ?_
   refine eO 9 ".h9" ?_
   refine eO 8 ".h8" ?_
   refine az ?_ ?_
   ·refine bg bU jY ?_
    refine aa ?_ ad
    refine bF (T:=["_law_face" ,"_law_stays" ,"_law_rows"]) rfl ?_ ?_ ?_ ?_ (nG (by intro f hf;simp only[List.mem_cons,List.not_mem_nil,or_false] at hf;rcases hf with rfl | rfl | rfl<;>exact jq (by decide))) (show List.Nodup ((["_law_face" ,"_law_stays" ,"_law_rows"]:List Str)++(["_law_script" ,"_law_book_here" ,"_law_modes" ,"_law_kinds_here" ,"_law_at" ,"_law_deed" ,"_law_goal" ,"_law_mode" ,".h8" ,".h9" ,".h10" ,"_law_pairs" ,"_law_order" ,"_law_names"]:List Str)) from by decide +kernel)
    ·exact aQ (ao (ac 1) ag)
    ·intro C s₃ H₃ fp hTC
     refine bK rfl ?_
     refine ay ?_ ?_
     ·exact ae 0 (show List.Nodup (["_law_face" ,"_law_stays" ,"_law_rows" ,"_law_script" ,"_law_book_here" ,"_law_modes" ,"_law_kinds_here" ,"_law_at" ,"_law_deed" ,"_law_goal" ,"_law_mode" ,".h8" ,".h9" ,".h10" ,"_law_pairs" ,"_law_order" ,"_law_names"]:List Str) from by decide +kernel)
     refine ay ?_ ?_
     ·exact ae 1 (show List.Nodup (["_law_face" ,"_law_stays" ,"_law_rows" ,"_law_script" ,"_law_book_here" ,"_law_modes" ,"_law_kinds_here" ,"_law_at" ,"_law_deed" ,"_law_goal" ,"_law_mode" ,".h8" ,".h9" ,".h10" ,"_law_pairs" ,"_law_order" ,"_law_names"]:List Str) from by decide +kernel)
     refine ay ?_ br
     exact ae 2 (show List.Nodup (["_law_face" ,"_law_stays" ,"_law_rows" ,"_law_script" ,"_law_book_here" ,"_law_modes" ,"_law_kinds_here" ,"_law_at" ,"_law_deed" ,"_law_goal" ,"_law_mode" ,".h8" ,".h9" ,".h10" ,"_law_pairs" ,"_law_order" ,"_law_names"]:List Str) from by decide +kernel)
    ·intro C s₃ H₃ fp hTC
     exact aX
    intro C s₃ H₃ fp hTC
    refine au ?_
    refine aa (ac 0) ?_
    refine aa (ac 1) ?_
    refine aa ?_ ad
    refine aq gG ?_ ag
    refine cO (ac 2) dM ?_
    exact dN ag
   exact ae 2 (show List.Nodup (["_law_script" ,"_law_book_here" ,"_law_modes" ,"_law_kinds_here" ,"_law_at" ,"_law_deed" ,"_law_goal" ,"_law_mode" ,".h8" ,".h9" ,".h10" ,"_law_pairs" ,"_law_order" ,"_law_names"]:List Str) from by decide +kernel)
  refine aB ?_
  refine az ?_ ?_
  ·refine aq aG ?_ ?_
   ·refine cO (ac 1) dM ?_
    exact dN ag
   exact au (aa (ac 2) ad)
  exact ae 1 jx.nd
 refine al ?_ (AQ 12 jx.nd (aa ag ad) (yH 13 jx.nd (aa (ao (ac 3) ag) ad) (oo (wq (az ag (ae 4 jx.nd))) (oo (yz 100 PassesOwn.never (bT hR (ac 4) (ba cy ki (aa (ac 12) ad))) (oo (Ao PassesOwn.never rfl (ao (ao (ao (ac 1) ag) (ao (ac 12) (ac 4))) ag) (bK rfl (ay (ae 5 jx.nd) (ay (ae 6 jx.nd) br))) (tT (Ce (bT fK (ao (ac 3) (ac 6)) (ac 13)) (oo (y3 13 1 (ao (ac 3) (ac 6))) (tT (y3 12 0 (ac 6)))) zg))) (tT (wq (az (aq aG (ac 4) ag) (ae 4 jx.nd)))))) (zd (al (az (au ad) (ae 2 jx.nd)) (al (dl PassesOwn.never rfl (aQ (ac 12)) (ae 7 jx.nd) (al (az (ao (ao (ac 1) ag) (ac 7)) (bK rfl (ay (ae 8 jx.nd) (ay (ae 9 jx.nd) (ay (ae 10 jx.nd) br))))) (al (az (au ad) (ae 11 jx.nd)) (al (dl PassesOwn.never rfl (aQ (ac 10)) (bK rfl (ay (ae 5 jx.nd) (ay (ae 6 jx.nd) br))) (aB (az (aq aG (ac 11) (au (aa (au (aa (ac 5) (aa (dC hr (ac 13) (aa (ao (ac 3) (ac 6)) ad)) ad))) ad))) (ae 11 jx.nd)))) (aB (az (aq aG (ac 2) (au (aa (au (aa (ac 8) (aa (ac 9) (aa (ac 11) ad)))) ad))) (ae 2 jx.nd))))))) (aB (a_ (dz (ig hr) (fe rM hr hT (aa (ac 1) ad)) (au (aa (ao (ac 1) ag) (aa (ao (ac 1) ag) (aa (ac 2) ad))))))))))))))
 refine az ?_ ?_
 ·exact aC lC hr (aa (ac 1) ad)
 exact ae 3 jx.nd
end HW
namespace HW
open PySem PySem.Spec PyProof.Rows L2
theorem qu(K:W.Frag)(H:Hp):∀ns:List Int,iU K H (ns.map .int) (ns.map V.int)
 | []=>rfl
 | n::ns=>⟨.int n,_,rfl,rfl,qu K H ns⟩
theorem all_mk{l:W.OpenLaw}{w:World}{K:W.Frag}{h:Heap}{mg:Str->Option Value}{fa:Addr}
  {q:Program} {cA pA:Addr} {oc2:Value} {od2:Option Addr} {vs2:Array Value} {xP:Array (Option Value)} {f10:Addr} {od10 an10:Option Addr} {sl10:Array (Option Value)} {oc10 kV10 dc10 pm10 ct10:Value}
  {f17:Addr} {od17 an17:Option Addr} {sl17:Array (Option Value)} {oc17 kV17 dc17 pm17 cd17 ct17:Value}
  {kW:Addr} {ul:Nat} {um:Array (Option Value)} {uo uq ur ut uu uv:Tok}
  {f0 f1 f2 f3 f4 f5 f6 f7 f8 f9 f11 f12 f13 f14 f15 f16:Addr}
  (X:K.In h) (G:h.Ns mainGlobals mg) (hfa:mg "law" = some (.ref fa))
  (a0:rP K "nexts" dG f0)
  (a1:rP K "heads_of_nexts" aW f1)
  (a2:rP K "one_press_on" bi f2)
  (a3:rP K "first_ways" bC f3)
  (a4:rP K "looks" du f4)
  (a5:rP K "deeds_of" bS f5)
  (a6:rP K "first_places" bh f6)
  (a7:rP K "parted_once" bu f7)
  (a8:rP K "alike_heads" bt f8)
  (a9:rP K "led_by" cZ f9)
  (a10:W.nsIn K mainGlobals "least" = some (some (.ref f10))) (l10:K.lookup f10=some ⟨oc10,od10,.func (W.fnOf "least" "least" (j8 aY) (jw aY) (iV aY) .none kV10 dc10 pm10 an10 (.ref cA) ct10),sl10⟩) (c10:W.codeIn K (.ref cA) "least" = true) (k10:W.keepIn K (.ref f10)=true) (l2:K.lookup cA=some ⟨oc2,od2,.fields vs2,xP⟩) (h11:vs2[11]?=some (.ref pA)) (nt:K.lookup pA=none) (hrec:∃d,(recsOf q).find? (fun e=>e.name==("least" : Str))=some d)
  (a11:rP K "_law_cell_at" bp f11)
  (a12:rP K "_law_mixed" bD f12)
  (a13:rP K "_law_drawn" bB f13)
  (a14:rP K "_law_book" bM f14)
  (a15:rP K "_law_poor" bL f15)
  (a16:rP K "_law_kinds" bA f16)
  (a17:W.nsIn K mainGlobals "law" = some (some (.ref f17))) (l17:K.lookup f17=some ⟨oc17,od17,.func (W.fnOf "law" "law" (j8 cj) (jw cj) (iV cj) .none kV17 dc17 pm17 an17 cd17 ct17),sl17⟩) (c17:W.codeIn K cd17 "law" = true) (k17:W.keepIn K (.ref f17)=true)
  (Bl:W.nsIn K mainGlobals "int" = some none)
  (Bm:W.nsIn K mainGlobals "len" = some none)
  (As:W.nsIn K mainGlobals "list" = some none)
  (yL:W.nsIn K mainGlobals "range" = some none)
  (Au:W.nsIn K mainGlobals "repr" = some none)
  (Bn:W.nsIn K mainGlobals "str" = some none)
  (yM:W.nsIn K mainGlobals "tuple" = some none)
  (Bo:W.nsIn K mainGlobals "zip" = some none)
  (q_PRESSES:W.nsIn K mainGlobals "PRESSES" = some (some (.ref kW))) (r_PRESSES:K.lookup kW=some ⟨.type "tuple",none,.seq #[.str (oS "a") uo,.str (oS "b") uq,.str (oS "c") ur,.str (oS "A") ut,.str (oS "B") uu,.str (oS "C") uv] ul,um⟩) :
  ∃(ts:List jZ) (fd:FuncData),(∀t∈ts,K.lookup t.P=none/\∃y d,(recsOf q).find? (fun e=>e.name==y)=some d/\W.tabIn K y=some (t.c,t.P))/\(∀(s:Shared) (v:Value),BindsTo s fd ⟨[v],[]⟩ [("_law_script",v)])/\∀base:Heap,K.In base->base.Ns mainGlobals mg->kc mg ts base->jl l.prog w K mg base kR 7 fa fd ["_law_script"] (Bb K cE ts):=by
 have e:=hfa.symm.trans (W.mg_of X G a17)
 cases e
 obtain⟨d0,F0,a0⟩:=tJ a0
 have b0:=F0.binds (ps:=["mode"]) fun | _,_,_,_,_,_,[_],_=>rfl
 have g0:=W.mg_of X G a0
 obtain⟨d1,F1,a1⟩:=tJ a1
 have b1:=F1.binds (ps:=["mode","heads"]) fun | _,_,_,_,_,_,[_,_],_=>rfl
 have g1:=W.mg_of X G a1
 obtain⟨d2,F2,a2⟩:=tJ a2
 have b2:=F2.binds (ps:=["ways","newest","nexts_of"]) fun | _,_,_,_,_,_,[_,_,_],_=>rfl
 have g2:=W.mg_of X G a2
 obtain⟨d3,F3,a3⟩:=tJ a3
 have b3:=F3.binds (ps:=["start","nexts_of"]) fun | _,_,_,_,_,_,[_,_],_=>rfl
 have g3:=W.mg_of X G a3
 obtain⟨d4,F4,a4⟩:=tJ a4
 have b4:=F4.binds (ps:=["mode"]) fun | _,_,_,_,_,_,[_],_=>rfl
 have g4:=W.mg_of X G a4
 obtain⟨d5,F5,a5⟩:=tJ a5
 have b5:=F5.binds (ps:=["mode"]) fun | _,_,_,_,_,_,[_],_=>rfl
 have g5:=W.mg_of X G a5
 obtain⟨d6,F6,a6⟩:=tJ a6
 have b6:=F6.binds (ps:=["things"]) fun | _,_,_,_,_,_,[_],_=>rfl
 have g6:=W.mg_of X G a6
 obtain⟨d7,F7,a7⟩:=tJ a7
 have b7:=F7.binds (ps:=["modes","heads"]) fun | _,_,_,_,_,_,[_,_],_=>rfl
 have g7:=W.mg_of X G a7
 obtain⟨d8,F8,a8⟩:=tJ a8
 have b8:=F8.binds (ps:=["modes"]) fun | _,_,_,_,_,_,[_],_=>rfl
 have g8:=W.mg_of X G a8
 obtain⟨d9,F9,a9⟩:=tJ a9
 have b9:=F9.binds (ps:=["mode","heads","order"]) fun | _,_,_,_,_,_,[_,_,_],_=>rfl
 have g9:=W.mg_of X G a9
 have F10:Ag K "least" "least" aY _ _ cA:=⟨⟨_,_,_,_,_,_,_,_,rfl,l10,c10⟩,k10⟩
 have g10:=W.mg_of X G a10
 have tb:=iD a10 l10 rfl l2 h11
 have b10:=Binds.all (K:=K) (fd:=W.fnOf "least" "least" (j8 aY) (jw aY) (iV aY) .none kV10 dc10 pm10 an10 (.ref cA) ct10) (ps:=["book"]) fun us hl=>by obtain⟨x0,rfl⟩:=CD (us:=us) hl;rfl
 obtain⟨d11,F11,a11⟩:=tJ a11
 have b11:=F11.binds (ps:=["_law_script","_law_k"]) fun | _,_,_,_,_,_,[_,_],_=>rfl
 have g11:=W.mg_of X G a11
 obtain⟨d12,F12,a12⟩:=tJ a12
 have b12:=F12.binds (ps:=["_law_script","_law_k"]) fun | _,_,_,_,_,_,[_,_],_=>rfl
 have g12:=W.mg_of X G a12
 obtain⟨d13,F13,a13⟩:=tJ a13
 have b13:=F13.binds (ps:=["_law_number","_law_k"]) fun | _,_,_,_,_,_,[_,_],_=>rfl
 have g13:=W.mg_of X G a13
 obtain⟨d14,F14,a14⟩:=tJ a14
 have b14:=F14.binds (ps:=["_law_number"]) fun | _,_,_,_,_,_,[_],_=>rfl
 have g14:=W.mg_of X G a14
 obtain⟨d15,F15,a15⟩:=tJ a15
 have b15:=F15.binds (ps:=["_law_book_here"]) fun | _,_,_,_,_,_,[_],_=>rfl
 have g15:=W.mg_of X G a15
 obtain⟨d16,F16,a16⟩:=tJ a16
 have b16:=F16.binds (ps:=["_law_book_here"]) fun | _,_,_,_,_,_,[_],_=>rfl
 have g16:=W.mg_of X G a16
 have F17:=fO (st:=cj) l17 c17 k17
 have b17:=F17.binds (ps:=["_law_script"]) fun | _,_,_,_,_,_,[_],_=>rfl
 have g17:=W.mg_of X G a17
 have vg:=W.mg_none_of X G Bl
 have ki:=W.mg_none_of X G Bm
 have uk:=W.mg_none_of X G As
 have jU:=W.mg_none_of X G yL
 have rL:=W.mg_none_of X G Au
 have xK:=W.mg_none_of X G Bn
 have jY:=W.mg_none_of X G yM
 have xM:=W.mg_none_of X G Bo
 have l7:Bx K mg "PRESSES" aJ:=⟨.ref kW,.ref kW,W.mg_of X G q_PRESSES,rfl,fun H=>⟨kW,[.str (oS "a"),.str (oS "b"),.str (oS "c"),.str (oS "A"),.str (oS "B"),.str (oS "C")],rfl,.inr ⟨_,_,_,r_PRESSES,rfl,rfl,rfl,(by show 6<=sizeLine;decide),(.cons ⟨_,rfl⟩ (.cons ⟨_,rfl⟩ (.cons ⟨_,rfl⟩ (.cons ⟨_,rfl⟩ (.cons ⟨_,rfl⟩ (.cons ⟨_,rfl⟩ .nil))))))⟩,⟨_,_,rfl,rfl,⟨_,_,rfl,rfl,⟨_,_,rfl,rfl,⟨_,_,rfl,rfl,⟨_,_,rfl,rfl,⟨_,_,rfl,rfl,rfl⟩⟩⟩⟩⟩⟩⟩⟩
 obtain⟨dr,hdr⟩:=hrec
 refine⟨[⟨cA,pA,"least.<locals>.<lambda>"⟩],W.fnOf "law" "law" (j8 cj) (jw cj) (iV cj) .none kV17 dc17 pm17 an17 cd17 ct17,fun t ht=>by rw[List.mem_singleton.mp ht];exact⟨nt,"least",dr,hdr,tb⟩,fun s v=>.of_eq rfl,fun base _ _ TB=>?_⟩
 have rJ:kY l.prog w K mg base 1 "nexts" ["mode"] bN:=aS F0 g0 b0 (fM (k:=0)  F0)
 have jr:kY l.prog w K mg base 2 "heads_of_nexts" ["mode","heads"] aj:=aS F1 g1 b1 (bW (k:=1) rJ.m F1)
 have LO:AS l.prog w K mg base 3 LL:=fun t G e=>by
  unfold LL at e
  split at e
  ·rename_i z
   subst z
   cases e
   exact Bj (k:=2) jr.m
  ·cases e
 have kT:vB l.prog w K mg base 4 "one_press_on" ["ways","newest","nexts_of"] ar:=⟨_,_,cF (k:=3) ki jU l7 (LO.mono (by decide)) F2,g2,F2.kp,b2⟩
 have lB:kY l.prog w K mg base 5 "first_ways" ["start","nexts_of"] aI:=aS F3 g3 b3 (db (k:=4) ki kT.m F3)
 have rK:kY l.prog w K mg base 1 "looks" ["mode"] bE:=aS F4 g4 b4 (fB (k:=0)  F4)
 have mC:kY l.prog w K mg base 1 "deeds_of" ["mode"] aT:=aS F5 g5 b5 (dW (k:=0)  F5)
 have jB:kY l.prog w K mg base 1 "first_places" ["things"] ax:=aS F6 g6 b6 (cH (k:=0)  F6)
 have kr:kY l.prog w K mg base 3 "parted_once" ["modes","heads"] aA:=aS F7 g7 b7 (da (k:=2) jB.m jr.m ki jU F7)
 have la:kY l.prog w K mg base 4 "alike_heads" ["modes"] aR:=aS F8 g8 b8 (cN (k:=3) mC.m jB.m rK.m kr.m F8)
 have pB:kY l.prog w K mg base 1 "led_by" ["mode","heads","order"] bf:=aS F9 g9 b9 (fk (k:=0) jY F9)
 have rM:ri l.prog w K mg base 6 "least" ["book"] bb ⟨cA,pA,"least.<locals>.<lambda>"⟩:=⟨_,_,gc (k:=5) la.m lB.m pB.m uk jY rfl TB F10,g10,F10.kp,b10⟩
 have kU:kY l.prog w K mg base 1 "_law_cell_at" ["_law_script","_law_k"] av:=aS F11 g11 b11 (cG (k:=0) ki F11)
 have kg:kY l.prog w K mg base 2 "_law_mixed" ["_law_script","_law_k"] ak:=aS F12 g12 b12 (di (k:=1) kU.m F12)
 have kH:kY l.prog w K mg base 1 "_law_drawn" ["_law_number","_law_k"] aD:=aS F13 g13 b13 (dh (k:=0)  F13)
 have lW:kY l.prog w K mg base 2 "_law_book" ["_law_number"] aM:=aS F14 g14 b14 (dB (k:=1) kH.m jU F14)
 have lX:kY l.prog w K mg base 1 "_law_poor" ["_law_book_here"] aU:=aS F15 g15 b15 (dD (k:=0) vg jY F15)
 have lC:kY l.prog w K mg base 1 "_law_kinds" ["_law_book_here"] aO:=aS F16 g16 b16 (de (k:=0) ki jU rL xK xM F16)
 exact zp (iA lW.m lC.m kg.m lX.m rM.m ki jY F17)
theorem walk {l:W.OpenLaw} {q:Program} {loose:List Str} {XP:(Str->Option Value)->Heap->Prop} {YP:World->Heap->Prop} {d:DefRec} {K:Params->W.Frag} (hn:l.most=some 63) (hdf:d.params.defaults=[])
    (hY:∀(w:World) (h:Heap),YP w h->(K w.params).In h)
    (F:∀(w:World) (mg:Str->Option Value) (fa:Addr) (h:Heap),(K w.params).In h->h.Ns mainGlobals mg->mg d.name=some (.ref fa) ->
      ∃(ts:List jZ) (fd:FuncData),(∀t∈ts,(K w.params).lookup t.P=none/\∃y d',(recsOf q).find? (fun e=>e.name==y)=some d'/\W.tabIn (K w.params) y=some (t.c,t.P))/\(∀(s:Shared) (u:Value),BindsTo s fd ⟨[u],[]⟩ [("_law_script",u)])/\∀base:Heap,(K w.params).In base->base.Ns mainGlobals mg->kc mg ts base->jl l.prog w (K w.params) mg base kR 7 fa fd ["_law_script"] (Bb (K w.params) cE ts)) :
    W.WalkO q loose XP YP l.row.toRowW d [] (fun f vs=>PySem.call f vs):=
  wI (n:=63) (k:=7) (x:="_law_script") (CX:=fun _=>kR) (sp:=fun w ts=>Bb (K w.params) cE ts) hn (by decide) hdf ⟨rfl,by decide,by decide,rfl⟩ hY F (fun w ts H a ns hl hO hP hS=>y7 hO hP ⟨[.fro (ns.map .int)],.bl true,iU.one ⟨a,ns.map V.int,rfl,hS,qu _ _ ns⟩,wZ ns hl,fun v H' _ hv=>hv⟩) fun _ _ _ _ _ z=>z
end HW
namespace PySem.W.Fast
theorem tw1429894974247303874:True:=⟨⟩
theorem tw660549566024836646:True:=⟨⟩
theorem tw11554935023431267110:True:=⟨⟩
theorem tw16518657059586461031:True:=⟨⟩
theorem tw8102979576133543305:True:=⟨⟩
theorem tw15346779179237981065:True:=⟨⟩
theorem tw15854305428117709677:True:=⟨⟩
theorem tw9033453309529144655:True:=⟨⟩
theorem tw15909927250072014513:True:=⟨⟩
theorem tw12897636523194701981:True:=⟨⟩
noncomputable def tw10822836116672963774:=PySem.Challenge.pw_handwatch_k52_least
theorem te10822836116672963774:PySem.Challenge.pw_handwatch_k52_least=tw10822836116672963774:=rfl
end PySem.W.Fast
open PySem PySem.W PyProof.Rows
set_option maxRecDepth 100000 in
set_option maxHeartbeats 0 in
theorem PySem.Challenge.cw_handwatch_k52_least_holds : PySem.Challenge.rw_handwatch_k52_least.Holds := by
 w_on;o_law;k_head;(case hw=>w_witness2)
 k_fill
 refine HW.walk (l:=PySem.Challenge.rw_handwatch_k52_least) rfl rfl (fun w h Y=>PySem.W.km_in_of Y) ?F
 case F =>
  intro w mg fa h KX G hmg
  refine' HW.all_mk KX G hmg ?_ ?_ ?_ ?_ ?_ ?_ ?_ ?_ ?_ ?_ ?_ ?_ ?_ ?_ ?_ ?_ ?_ ?_ ?_ ?_ ?_ ?_ ?_ ?_ ?_ ?_ ?_ ?_ ?_ ?_ ?_ ?_ ?_ ?_ ?_ ?_ ?_ ?_
  all_goals try first | k_is | (refine' HW.fn4_mk ?_ ?_ ?_ ?_<;>try k_is) | rfl | kernel_rfl | exact⟨_,rfl⟩
