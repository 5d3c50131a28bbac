import PyProof.Rows.All
import Wide.All
import OpenK.AllK
import Wide.FinOn
import Lean
import PyProof.EqAt
import PyProof.EqKinds
import PyProof.TupleCall
import PySem.Str
import PySem.Sem
import PyProof.StrWalks
import PyProof.ReprReads
import PyProof.ReprRoads
import PyProof.NeData
import PyProof.WalkInts
import PyProof.Rows.RegStrFacts
import PyProof.StrBlockI
import KE.IntText
import KE.KRevIter
import PyProof.StrBlock2
import KE.KIntText
import PyProof.Rows.Range3
import PyProof.ZipIter
import PyProof.Draws
import PyProof.IsRules
import PySem.SetOps
import PyProof.SetScanFacts
import PyProof.SetKind
import PyProof.DictStraight
import KE.KDictSum
import PyProof.Rows.SetFrom
import PyProof.Rows.SortRuns
import PyProof.Rows.SortShell
import PyProof.ListRange
import PyProof.Rows.FactsT2
import PyProof.Rows.FactsT3
import PySem.Builtin.Str.Common
import PyProof.StrCalls
import PyProof.SumWalk
import PyProof.AttrMissHeap
import KE.KDictOf
import PyProof.TupleOfStr
import PyProof.WalksMore
import PyProof.StrLawsIn
import PyProof.FitsReplace
import PyProof.ReprLen
import PySem.Challenge.RW_handwatch_k31_whole_next_ring
set_option Elab.async false
noncomputable section
set_option linter.all false
set_option maxRecDepth 100000
namespace L2
open PySem PySem.Spec PyProof.Rows
abbrev Key:=Sum Int Str
def BI:Key->Value->Bool
 | .inl k,v=>Value.isInt k v
 | .inr x,v=>Value.isStrOf x v
def Fs(w:World):Key->Int
 | .inl k=>hashInt k
 | .inr x=>hashStr w x
theorem n6:∀{k:Key} {v:Value},BI k v=true->(∃i t,k=Sum.inl i/\v=Value.int i t)\/(∃x t,k=Sum.inr x/\v=Value.str x t)
 | .inl i,v,h=>by
  obtain⟨t,e⟩:=Value.isInt_shape (k:=i) (v:=v) h
  exact .inl ⟨i,t,rfl,e⟩
 | .inr x,v,h=>by
  obtain⟨t,e⟩:=Value.isStrOf_shape (x:=x) (v:=v) h
  exact .inr ⟨x,t,rfl,e⟩
theorem CG(a b:Int):decide ((Sum.inl a:Key)=Sum.inl b)=(a==b):=by
 by_cases e:a=b
 ·subst e;simp
 ·have h:¬ (Sum.inl a:Key)=Sum.inl b:=fun q=>e (Sum.inl.inj q)
  rw[decide_eq_false h]
  exact(beq_eq_false_iff_ne.mpr e).symm
theorem Cy(a b:Str):decide ((Sum.inr a:Key)=Sum.inr b)=decide (a=b):=by
 by_cases e:a=b
 ·subst e;simp
 ·have h:¬ (Sum.inr a:Key)=Sum.inr b:=fun q=>e (Sum.inr.inj q)
  rw[decide_eq_false h,decide_eq_false e]
theorem CY(a:Int)(b:Str):decide ((Sum.inl a:Key)=Sum.inr b)=false:=decide_eq_false (fun q=>nomatch q)
theorem Dc(a:Str)(b:Int):decide ((Sum.inr a:Key)=Sum.inl b)=false:=decide_eq_false (fun q=>nomatch q)
def uj(prog:Program)(w:World):PySem.KeyKind prog w Key where
 is:=BI
 hash:=Fs w
 inj:=fun v a b ha hb=>by
  rcases n6 ha with ⟨i,t,rfl,rfl⟩ | ⟨x,t,rfl,rfl⟩
  ·rcases n6 hb with ⟨j,u,rfl,e⟩ | ⟨y,u,rfl,e⟩
   ·injection e with e1 _;rw[e1]
   ·exact nomatch e
  ·rcases n6 hb with ⟨j,u,rfl,e⟩ | ⟨y,u,rfl,e⟩
   ·exact nomatch e
   ·injection e with e1 _;rw[e1]
 byValue:=fun k v h=>by
  rcases n6 h with ⟨i,t,rfl,rfl⟩ | ⟨x,t,rfl,rfl⟩<;>rfl
 pyHash:=fun hv h=>by
  rcases n6 hv with ⟨i,t,rfl,rfl⟩ | ⟨x,t,rfl,rfl⟩
  ·exact wpAny_pyHash_int h
  ·exact wpAny_pyHash_str h
 eqBool:=fun hu hv h=>by
  rcases n6 hu with ⟨i,t,rfl,rfl⟩ | ⟨x,t,rfl,rfl⟩
  ·rcases n6 hv with ⟨j,u,rfl,rfl⟩ | ⟨y,u,rfl,rfl⟩
   ·rw[CG] at h;exact wpAny_eqBool_int h
   ·rw[CY] at h;exact SeqAt.EqAt.int_str i t y u _ _ _ _ h
  ·rcases n6 hv with ⟨j,u,rfl,rfl⟩ | ⟨y,u,rfl,rfl⟩
   ·rw[Dc] at h;exact SeqAt.EqAt.str_int x t j u _ _ _ _ h
   ·rw[Cy] at h;exact wpAny_eqBool_str h
 «strs»:=fun k x t v h=>by
  rcases n6 h with ⟨i,u,rfl,e⟩ | ⟨y,u,rfl,e⟩
  ·exact nomatch e
  ·injection e with e1 _
   subst e1
   cases v<;>rfl
end L2
namespace L2
open PySem PySem.Spec PyProof.Rows
inductive V where
 | non | bl (b:Bool) | int (i:Int) | str (x:Str) | byt (b:Array UInt8) | flt (b:UInt64) | ref (a:Addr) | ty (n:String)
 deriving DecidableEq
def RelV:V->Value->Prop
 | .non,u=>u=Value.none
 | .bl b,u=>u=Value.bool b
 | .int i,u=>∃t,u=Value.int i t
 | .str x,u=>∃t,u=Value.str x t
 | .byt b,u=>∃t,u=Value.bytes b t
 | .flt b,u=>∃t,u=Value.float b t
 | .ref a,u=>u=Value.ref a
 | .ty n,u=>u=Value.type n
abbrev m9:List V->List Value->Prop:=Paired RelV
theorem m9.length{xs:List V}{us:List Value}(r:m9 xs us):xs.length=us.length:=Paired.length r
theorem m9.get:∀{xs:List V} {us:List Value} {i:Nat} {x:V},m9 xs us->xs[i]?=some x->∃u,us[i]?=some u/\RelV x u
 | _,_,_,_,.nil,e=>by simp at e
 | _,_,0,_,.cons r _,e=>by simp at e;subst e;exact⟨_,rfl,r⟩
 | _,_,i+1,x,.cons _ t,e=>by
  obtain⟨u,h1,h2⟩:=m9.get (i:=i) (x:=x) t (by simpa using e)
  exact⟨u,by simpa using h1,h2⟩
theorem m9.set{x:V}{u:Value}(r:RelV x u):∀{xs:List V} {us:List Value} (i:Nat),m9 xs us->m9 (xs.set i x) (us.set i u)
 | _,_,_,.nil=>.nil
 | _,_,0,.cons _ t=>.cons r t
 | _,_,i+1,.cons q t=>.cons q (m9.set r i t)
theorem m9.append:∀{xs ys:List V} {us ws:List Value},m9 xs us->m9 ys ws->m9 (xs++ys) (us++ws)
 | _,_,_,_,.nil,s=>s
 | _,_,_,_,.cons r t,s=>.cons r (m9.append t s)
theorem m9.take:∀{xs:List V} {us:List Value} (n:Nat),m9 xs us->m9 (xs.take n) (us.take n)
 | _,_,0,_=>.nil
 | _,_,_+1,.nil=>.nil
 | _,_,n+1,.cons r t=>.cons r (m9.take n t)
theorem m9.drop:∀{xs:List V} {us:List Value} (n:Nat),m9 xs us->m9 (xs.drop n) (us.drop n)
 | _,_,0,r=>r
 | _,_,_+1,.nil=>.nil
 | _,_,n+1,.cons _ t=>m9.drop n t
def wM:Option V->Option Value->Prop
 | some v,some u=>RelV v u
 | none,none=>True
 | _,_=>False
def KV{κ:Type}:List (κ×V)->List (κ×Value)->Prop:=Paired fun (p:κ×V) (q:κ×Value)=>p.1=q.1/\RelV p.2 q.2
def kV:Key->V
 | .inl i=>.int i
 | .inr x=>.str x
inductive HO where
 | lst (xs:List V)
 | tup (xs:List V)
 | dK (kvs:List (Key×V)) | dT (kvs:List (List Key×V))
 | set (S:Int->Bool) (n:Nat)
 | ins (C dx:Addr) (fs:List (Str×V))
 | own (x:Addr)
 | xd (fs:List (Str×V))
 | met (f x:Addr)
 | rng (lo hi:Int)
 | frz (o:Obj) (u:HO)
 | tbl (q:Str) (c:Bool)
 | ext (φ:Heap->Prop)
abbrev Hp:=Addr->Option HO
def upd(H:Hp)(a:Addr)(o:HO):Hp:=fun b=>if b=a then some o else H b
theorem aB{H:Hp}{a:Addr}{o:HO}:upd H a o a=some o:=by unfold upd;rw[if_pos rfl]
theorem aD{H:Hp}{a b:Addr}{o:HO}(h:b≠a):upd H a o b=H b:=by unfold upd;rw[if_neg h]
theorem oP{H:Hp}{a b:Addr}{o:HO}(h:H a=some o)(h':H b=none):a≠b:=by
 intro e;subst e;rw[h] at h';cases h'
def pD(h:Heap)(a:Addr)(its:Array Value):Prop:=∃o,h.get? a=some o/\o.cls=.type "tuple" /\ (∃n,o.data=.seq its n)/\o.dict=none
theorem pD.is{h:Heap}{a:Addr}{its:Array Value}(x:pD h a its):IsTup h a its:=by obtain⟨o,e,c,d,_⟩:=x;exact⟨o,e,c,d⟩
theorem pD.lt{h:Heap}{a:Addr}{its:Array Value}(x:pD h a its):a<h.objs.size:=x.is.lt
theorem pD.new(h:Heap)(its:Array Value):pD (h.push {cls:=.type "tuple",data:=.seq its}) h.objs.size its:=⟨_,Heap.get?_push_size _ rfl,rfl,⟨_,rfl⟩,rfl⟩
section
variable(P:Program)(w:World)
def qg(H:Hp)(h:Heap)(a:Addr):HO->Prop
 | .lst xs=>xs.length<=sizeLine/\∃(its:List Value) (n:Nat),m9 xs its/\h.get? a=some {cls:=.type "list",data:=.seq its.toArray n}
 | .tup xs=>xs.length<=sizeLine/\∃its:List Value,m9 xs its/\pD h a its.toArray
 | .dK kvs=>kvs.length<=sizeLine/\(a==sysModules)=false/\∃vs,KV kvs vs/\h.DictOf (uj P w) a vs
 | .dT kvs=>kvs.length<=sizeLine/\(a==sysModules)=false/\∃xs:List (List Key×Addr×Value),
   Paired (fun (p:List Key×V) (q:List Key×Addr×Value)=>p.1=q.1/\H q.2.1=some (.tup (p.1.map kV))/\RelV p.2 q.2.2) kvs xs /\
   ∃o es ep,h.get? a=some o/\o.ExactDict/\o.data=.dict es ep/\es.toList=xs.map (entryOfKey (tupleKind (uj P w)))/\(xs.map (·.1)).Nodup
 | .set S n=>h.SetOf (intKind P w) a S n
 | .ins C dx fs=>H dx=some (.own a)/\fs.length<=1000/\dx≠a/\h.get? a=some (PySem.W.instObj C dx) /\
   ∃mA,h.Ns1 dx mA/\(∀f,wM (fs.lookup f) (mA f))/\PySem.Within mA (fs.map (·.1))
 | .own _=>∃o,h.get? a=some o
 | .xd fs=>∃mA,h.Ns1 a mA/\∀f,wM (fs.lookup f) (mA f)
 | .rng lo hi=>∃t u v,h.get? a=some {cls:=.type "range",data:=.fields #[.int lo t,.int hi u,.int 1 v]}
 | .frz o u=>h.get? a=some o/\qg H h a u
 | .tbl q true=>h.CodeRec (.ref a) q
 | .tbl q false=>∃ts:Array Value,h.get? a=some {cls:=.none,data:=.fields ts}/\TriplesOk ts.toList/\∀(pos:Pos) (cv:Value),codeAmong pos ts.toList=some cv->∃c,cv=.ref c/\H c=some (.tbl q true)
 | .met f x=>h.get? a=some (PySem.W.methodObj (.ref f) (.ref x))
 | .ext φ=>φ h/\(∃o,h.get? a=some o)/\∀h1 h2:Heap,φ h1->(∀o,h1.get? a=some o->h2.get? a=some o)->φ h2
def uE(H:Hp)(h:Heap):Prop:=∀a o,H a=some o->qg P w H h a o
end
section
variable{P:Program}{w:World}{H H':Hp}{h h':Heap}{a:Addr}{o:HO}
theorem qg.lt(x:qg P w H h a o):a<h.objs.size:=by
 cases o with
 | lst xs=>obtain⟨_,_,_,_,e⟩:=x;exact Heap.lt_size e
 | tup xs=>obtain⟨_,_,_,p⟩:=x;exact p.lt
 | dK kvs=>obtain⟨_,_,_,_,o,_,_,e,_⟩:=x;exact Heap.lt_size e
 | dT kvs=>obtain⟨_,_,_,_,o,_,_,e,_⟩:=x;exact Heap.lt_size e
 | set S n=>obtain⟨o,_,_,_,e,_⟩:=x;exact Heap.lt_size e
 | ins C dx fs=>obtain⟨_,_,_,e,_⟩:=x;exact Heap.lt_size e
 | own y=>obtain⟨_,e⟩:=x;exact Heap.lt_size e
 | xd fs=>obtain⟨_,⟨_,_,_,e,_⟩,_⟩:=x;exact Heap.lt_size e
 | rng lo hi=>obtain⟨_,_,_,e⟩:=x;exact Heap.lt_size e
 | frz ob u=>obtain⟨e,_⟩:=x;exact Heap.lt_size e
 | tbl q c =>
  cases c with
  | true=>obtain⟨_,o,_,_,e,g,_⟩:=(show h.CodeRec (.ref a) q from x);cases e;exact Heap.lt_size g
  | false=>obtain⟨_,e,_⟩:=x;exact Heap.lt_size e
 | met f y=>exact Heap.lt_size (show h.get? a=some _ from x)
 | ext φ=>obtain⟨_,⟨_,e⟩,_⟩:=x;exact Heap.lt_size e
theorem Paired.mapP{α β:Type}{F G:α->β->Prop}:∀{l₁:List α} {l₂:List β},Paired F l₁ l₂->(∀a b,F a b->G a b)->Paired G l₁ l₂
 | _,_,.nil,_=>.nil
 | _,_,.cons r t,f=>.cons (f _ _ r) (Paired.mapP t f)
theorem qg.stay(x:qg P w H h a o)(k:∀b u,(b=a\/H b=some (.own a))->h.get? b=some u->h'.get? b=some u)
  (ho:∀b,H b=some (.own a)->H' b=some (.own a)) (ht:∀b xs,H b=some (.tup xs)->H' b=some (.tup xs)) (hc:∀b q c,H b=some (.tbl q c)->H' b=some (.tbl q c)):qg P w H' h' a o:=by
 induction o with
 | lst xs=>obtain⟨z,its,n,r,e⟩:=x;exact⟨z,its,n,r,k _ _ (.inl rfl) e⟩
 | tup xs=>obtain⟨z,its,r,ob,e,c⟩:=x;exact⟨z,its,r,ob,k _ _ (.inl rfl) e,c⟩
 | dK kvs=>obtain⟨z,y,vs,r,ob,es,ep,e,c⟩:=x;exact⟨z,y,vs,r,ob,es,ep,k _ _ (.inl rfl) e,c⟩
 | dT kvs =>
  obtain⟨z,y,xs,r,ob,es,ep,e,c⟩:=x
  exact⟨z,y,xs,Paired.mapP r fun p q z=>⟨z.1,ht _ _ z.2.1,z.2.2⟩,ob,es,ep,k _ _ (.inl rfl) e,c⟩
 | set S n=>obtain⟨ob,es,ep,t,e,c⟩:=x;exact⟨ob,es,ep,t,k _ _ (.inl rfl) e,c⟩
 | ins C dx fs =>
  obtain⟨d,z,ne,e,mA,⟨od,es,ep,e2,c⟩,r⟩:=x
  exact⟨ho _ d,z,ne,k _ _ (.inl rfl) e,mA,⟨od,es,ep,k _ _ (.inr d) e2,c⟩,r⟩
 | own y=>obtain⟨ob,e⟩:=x;exact⟨ob,k _ _ (.inl rfl) e⟩
 | xd fs=>obtain⟨mA,⟨od,es,ep,e,c⟩,r⟩:=x;exact⟨mA,⟨od,es,ep,k _ _ (.inl rfl) e,c⟩,r⟩
 | rng lo hi=>obtain⟨t,u,v,e⟩:=x;exact⟨t,u,v,k _ _ (.inl rfl) e⟩
 | frz ob u ih=>obtain⟨e,q⟩:=x;exact⟨k _ _ (.inl rfl) e,ih q⟩
 | tbl q c =>
  cases c with
  | true =>
   obtain⟨_,o,vs,t,e,g,r⟩:=(show h.CodeRec (.ref a) q from x)
   cases e
   exact⟨a,o,vs,t,rfl,k _ _ (.inl rfl) g,r⟩
  | false =>
   obtain⟨ts,e,t,r⟩:=x
   refine⟨ts,k _ _ (.inl rfl) e,t,fun pos cv hcv=>?_⟩
   obtain⟨c,e1,e2⟩:=r pos cv hcv
   exact⟨c,e1,hc _ _ _ e2⟩
 | met f y =>
  have e:h.get? a=some (PySem.W.methodObj (.ref f) (.ref y)):=x
  show h'.get? a=some (PySem.W.methodObj (.ref f) (.ref y))
  exact k a _ (.inl rfl) e
 | ext φ=>obtain⟨p,⟨o,e⟩,st⟩:=x;exact⟨st _ _ p fun o q=>k _ _ (.inl rfl) q,⟨o,k _ _ (.inl rfl) e⟩,st⟩
theorem uE.lt(x:uE P w H h)(e:H a=some o):a<h.objs.size:=(x a o e).lt
theorem uE.fresh(x:uE P w H h)(e:h.objs.size<=a):H a=none:=by
 cases q:H a with
 | none=>rfl
 | some u=>exact absurd (Nat.lt_of_lt_of_le (x.lt q) e) (Nat.lt_irrefl _)
theorem uE.kept(x:uE P w H h)(k:∀b u,h.get? b=some u->h'.get? b=some u):uE P w H h':=fun a o e =>
 (x a o e).stay (fun b u _ q=>k b u q) (fun _ q=>q) (fun _ _ q=>q) fun _ _ _ q=>q
theorem uE.laid(x:uE P w H h)(k:∀b u,h.get? b=some u->h'.get? b=some u)(hp:h.objs.size<=a)(new:qg P w (upd H a o) h' a o):uE P w (upd H a o) h':=fun b u e=>by
 have hn:=x.fresh hp
 by_cases hb:b=a
 ·subst hb;rw[aB] at e;cases e;exact new
 ·rw[aD hb] at e
  exact(x b u e).stay (fun c v _ q=>k c v q) (fun c q=>by rw[aD (oP q hn)];exact q) (fun c xs q=>by rw[aD (oP q hn)];exact q) fun c _ _ q=>by rw[aD (oP q hn)];exact q
end
def Rd(H:Hp)(a:Addr)(u:HO):Prop:=H a=some u\/∃o,H a=some (.frz o u)
theorem Rd.of{H:Hp}{a:Addr}{u:HO}(h:H a=some u):Rd H a u:=.inl h
theorem Rd.ok{P:Program}{w:World}{H:Hp}{h:Heap}{a:Addr}{u:HO}(r:Rd H a u)(x:uE P w H h):qg P w H h a u:=by
 rcases r with r | ⟨o,r⟩
 ·exact x a u r
 ·obtain⟨_,q⟩:=x a _ r
  exact q
def Ez:Option HO->Prop
 | some (.lst _)=>True
 | some (.dK _)=>True
 | some (.dT _)=>True
 | some (.set _ _)=>True
 | some (.ins _ _ _)=>True
 | some (.ext _)=>True
 | some (.frz _ (.own _))=>True
 | _=>False
section
variable{P:Program}{w:World}{H:Hp}{h h':Heap}{x e:Addr}{o':HO}
theorem uE.write(ok:uE P w H h)(mu:Ez (H x))(he:e=x\/H e=some (.own x))(k:∀b u,b≠e->h.get? b=some u->h'.get? b=some u)(heo:∃u,h'.get? e=some u)
  (new:qg P w (upd H x o') h' x o'):uE P w (upd H x o') h':=fun b u q=>by
 have nown:∀c y,H c=some (.own y)->c≠x:=fun c y r z=>by subst z;rw[r] at mu;exact mu
 have ntup:∀c xs,H c=some (.tup xs)->c≠x:=fun c xs r z=>by subst z;rw[r] at mu;exact mu
 by_cases hb:b=x
 ·subst hb;rw[aB] at q;cases q;exact new
 ·rw[aD hb] at q
  by_cases hbe:b=e
  ·have q':H b=some (.own x):=by
    rcases he with z | z
    ·exact absurd (hbe.trans z) hb
    ·rw[hbe];exact z
   rw[q] at q';cases q'
   obtain⟨v,hv⟩:=heo
   exact⟨v,by rw[hbe];exact hv⟩
  ·refine(ok b u q).stay (fun c v hc r=>k c v ?_ r) (fun c r=>by rw[aD (nown c b r)];exact r) (fun c xs r=>by rw[aD (ntup c xs r)];exact r) fun c q d r=>by rw[aD fun z=>by subst z;rw[r] at mu;exact mu];exact r
   rcases hc with rfl | hc
   ·exact hbe
   ·rintro rfl
    rcases he with z | z
    ·exact nown c b hc z
    ·rw[hc] at z;cases z;exact hb rfl
end
structure Un (fs ex:List Addr) (H H':Hp) (h h':Heap):Prop where
 keep:∀b o,h.get? b=some o->H b=none->b∉fs->b∉ex->h'.get? b=some o
 slot:∀b o,h.get? b=some o->H b=none->b∈fs->b∉ex->∃sl,h'.get? b=some {o with slots:=sl}
 free:∀b o,h.get? b=some o->H b=none->b∉ex->H' b=none
 there:∀b o,h.get? b=some o->b∉ex->∃o',h'.get? b=some o'
 tups:∀b xs,H b=some (.tup xs)->H' b=some (.tup xs)
 frzs:∀b o u,(∀y,u≠.own y)->H b=some (.frz o u)->H' b=some (.frz o u)
 tbls:∀b q c,H b=some (.tbl q c)->H' b=some (.tbl q c)
section
variable{fs fs' ex ex':List Addr}{H H1 H2:Hp}{h h1 h2 h':Heap}{a x e:Addr}{o:HO}
theorem Un.any(u:Un fs ex H H1 h h1){b:Addr}{ob:Obj}(q:h.get? b=some ob)(n:H b=none)(hx:b∉ex):∃sl,h1.get? b=some {ob with slots:=sl}:=by
 by_cases hb:b∈fs
 ·exact u.slot b ob q n hb hx
 ·exact⟨ob.slots,u.keep b ob q n hb hx⟩
theorem Un.trans(a:Un fs ex H H1 h h1)(b:Un fs ex H1 H2 h1 h2):Un fs ex H H2 h h2 where
 keep:=fun c ob q n hc hx=>b.keep c ob (a.keep c ob q n hc hx) (a.free c ob q n hx) hc hx
 slot:=fun c ob q n hc hx=>by
  obtain⟨sl,e1⟩:=a.slot c ob q n hc hx
  obtain⟨sl',e2⟩:=b.slot c _ e1 (a.free c ob q n hx) hc hx
  exact⟨sl',e2⟩
 free:=fun c ob q n hx=>by
  obtain⟨o',e1⟩:=a.there c ob q hx
  exact b.free c o' e1 (a.free c ob q n hx) hx
 there:=fun c ob q hx=>by
  obtain⟨o',e1⟩:=a.there c ob q hx
  exact b.there c o' e1 hx
 tups:=fun c xs q=>b.tups c xs (a.tups c xs q)
 frzs:=fun c ob xs ny q=>b.frzs c ob xs ny (a.frzs c ob xs ny q)
 tbls:=fun c ps d q=>b.tbls c ps d (a.tbls c ps d q)
theorem Un.kept(k:∀b u,h.get? b=some u->h'.get? b=some u):Un fs ex H H h h':=
 ⟨fun b ob q _ _ _=>k b ob q,fun b ob q _ _ _=>⟨ob.slots,k b ob q⟩,fun _ _ _ n _=>n,fun b ob q _=>⟨ob,k b ob q⟩,fun _ _ q=>q,fun _ _ _ _ q=>q,fun _ _ _ q=>q⟩
theorem Un.refl:Un fs ex H H h h:=Un.kept fun _ _ q=>q
theorem Un.laid(k:∀b u,h.get? b=some u->h'.get? b=some u)(hp:h.objs.size<=a)(hn:H a=none):Un fs ex H (upd H a o) h h' where
 keep:=fun b u q _ _ _=>k b u q
 slot:=fun b u q _ _ _=>⟨u.slots,k b u q⟩
 free:=fun b u q n _=>by rw[aD (Nat.ne_of_lt (Nat.lt_of_lt_of_le (Heap.lt_size q) hp))];exact n
 there:=fun b u q _=>⟨u,k b u q⟩
 tups:=fun b xs q=>by rw[aD (oP q hn)];exact q
 frzs:=fun b u xs _ q=>by rw[aD (oP q hn)];exact q
 tbls:=fun b ps _ q=>by rw[aD (oP q hn)];exact q
theorem Un.write(mu:Ez (H x))(he:e=x\/H e=some (.own x))(k:∀b u,b≠e->h.get? b=some u->h'.get? b=some u)(heo:∃u,h'.get? e=some u):Un fs ex H (upd H x o) h h':=by
 have hx:∀b,H b=none->b≠x:=fun b n z=>by subst z;rw[n] at mu;exact mu
 have hb:∀b,H b=none->b≠e:=fun b n z=>by
  subst z
  rcases he with r | r
  ·exact hx b n r
  ·rw[n] at r;cases r
 have hm:∀b u,H b=some u->¬ Ez (some u)->b≠x:=fun b u q nm z=>by subst z;rw[q] at mu;exact nm mu
 refine⟨fun b u q n _ _=>k b u (hb b n) q,fun b u q n _ _=>⟨u.slots,k b u (hb b n) q⟩,fun b u q n _=>by rw[aD (hx b n)];exact n,fun b u q _=>?_,
  fun b xs q=>by rw[aD (hm b _ q fun z=>z)];exact q,fun b u xs ny q=>by rw[aD (hm b _ q (by intro z;cases xs<;>first | exact z | exact ny _ rfl))];exact q,fun b ps _ q=>by rw[aD (hm b _ q fun z=>z)];exact q⟩
 by_cases hbe:b=e
 ·subst hbe;exact heo
 ·exact⟨u,k b u hbe q⟩
theorem Un.mono(u:Un fs ex H H1 h h1)(hs:∀b∈fs,b∈fs')(hx:∀b∈ex,b∈ex'):Un fs' ex' H H1 h h1:=
 ⟨fun b ob q n hb he=>u.keep b ob q n (fun z=>hb (hs b z)) fun z=>he (hx b z),fun _ _ q n _ he=>u.any q n fun z=>he (hx _ z),fun b ob q n he=>u.free b ob q n fun z=>he (hx b z),fun b ob q he=>u.there b ob q fun z=>he (hx b z),u.tups,u.frzs,u.tbls⟩
end
def Ex(h:Heap)(H:Hp):List Addr:=(List.range h.objs.size).filter fun a=>(H a).isSome
def wl(h:Heap)(H:Hp):Heap:=PySem.W.hideAll h (Ex h H)
theorem yW(h:Heap)(H:Hp):(wl h H).objs.size=h.objs.size:=PySem.W.hideAll_size _ _
theorem Af{h:Heap}{H:Hp}{b:Addr}{o:Obj}(e:h.get? b=some o)(n:H b=none):(wl h H).get? b=some o:=
 PySem.W.hideAll_get _ e fun hm=>by
  have q:(H b).isSome=true:=(List.mem_filter.mp hm).2
  rw[n] at q;simp at q
theorem Bg{h:Heap}{H:Hp}{b:Addr}{o:Obj}(e:(wl h H).get? b=some o):h.get? b=some o/\H b=none:=by
 have e':h.get? b=some o:=PySem.W.of_hideAll (Ex h H) e
 refine⟨e',?_⟩
 cases q:H b with
 | none=>rfl
 | some x =>
  have hm:b∈Ex h H:=List.mem_filter.mpr ⟨List.mem_range.mpr (Heap.lt_size e'),by simp[q]⟩
  have z:(wl h H).get? b=none:=PySem.W.hideAll_none (Ex h H) hm
  rw[z] at e;cases e
def Bn(g h:Heap)(L:Addr):List (Addr×Obj):=(List.range h.objs.size).filterMap fun a=>if a=L\/(g.get? a).isSome=true then none else (h.get? a).map fun o=>(a,o)
def rest(g h:Heap)(L d:Addr):List (Addr×Obj):=(Bn g h L).filter fun p=>decide (p.1≠d)
end L2
namespace L2
open PySem PySem.Spec PyProof.Rows
structure Mod (K:PySem.W.Frag) (mg:Str->Option Value) (base:Heap):Prop where
 kin:K.In base
 glob:base.Ns mainGlobals mg
 blt:∃mb,base.Ns builtinsNs mb/\∀x:Str,x ≠ "__name__" -> mb x=bootBuiltins x
 nolimit:base.NoLimit
structure Cx where
 prog:Program
 w:World
 K:PySem.W.Frag
 mg:Str->Option Value
 base:Heap
 A:Around
 N:List Str
 s₀:Shared
 H₀:Hp
 env:Env
 outer:List Env
 stack:List Env
 ex:List Addr
 fn:Str->Bool
 calm:Bool
 pn:List (Addr×Obj)
 xe:Value->Shared->Prop
def yO(l:List Env):List Addr:=l.filterMap (·.frame)
abbrev Cx.fs(X:Cx):List Addr:=yO X.outer
def BP(sc:Scope)(x:Str):Prop:=sc.names.lookup x=some .local\/sc.names.lookup x=some .cell\/sc.names.lookup x=some .free
def Loc(sc:Scope)(x:Str):Prop:=sc.names.lookup x=some .local\/sc.names.lookup x=some .cell
def Look(env:Env)(h:Heap)(m:Str->Option Value)(x:Str)(u:Value):Prop:=
 (env.kindOf x=some .local/\m x=some u)\/((env.kindOf x=some .cell\/env.kindOf x=some .free)/\∃c,env.cells.lookup x=some c/\h.IsCell c (some u))
structure Cx.Ok (X:Cx):Prop where
 mod:Mod X.K X.mg X.base
 kind:X.env.scope.kind=.function
 glob:X.env.globals=mainGlobals
 blt:X.env.builtins=builtinsNs
 above:X.s₀.heap.objs.size<=X.env.locals
 inj:∀x y c,X.env.cells.lookup x=some c->X.env.cells.lookup y=some c->x=y
 has:∀x,(X.env.kindOf x=some .cell\/X.env.kindOf x=some .free)->∃c,X.env.cells.lookup x=some c
 cab:∀x c,X.fn x=true->X.env.cells.lookup x=some c->X.s₀.heap.objs.size<=c
 hd:X.calm=true->X.A.handled=none
 frames:X.A.frames=some X.stack
 stk:X.stack=X.outer\/(X.stack=X.env::X.outer/\X.env.frame=some X.env.locals)
 exf:∀b∈X.ex,b≠X.env.locals/\∀x c,X.env.cells.lookup x=some c->c≠b
 bs:∀b o,X.base.get? b=some o->X.s₀.heap.get? b=some o/\X.H₀ b=none
 bsz:X.base.objs.size<=X.s₀.heap.objs.size
 noex:∀b o,X.base.get? b=some o->b∉X.ex
 exfs:∀b∈X.ex,b∉X.fs
 funs:X.s₀.heap.FunFrames X.base X.outer
 frf:∀b∈X.fs,X.H₀ b=none
structure Inv (X:Cx) (pins:List (Addr×Obj)) (σ:List (Option V)) (H:Hp) (s:Shared):Prop where
 ok:X.Ok
 os:s.os=X.s₀.os
 bare:AllBare s.gens
 base:Un X.fs X.ex X.H₀ H X.s₀.heap s.heap
 loc:∃m,s.heap.Ns X.env.locals m/\∀(i:Nat) (x:Str) (v:V),X.N[i]?=some x->σ[i]?=some (some v)->BP X.env.scope x->∃u,RelV v u/\Look X.env s.heap m x u
 cell:∀x c,X.env.cells.lookup x=some c->∃v,s.heap.IsCell c v
 free:H X.env.locals=none
 freeC:∀x c,X.env.cells.lookup x=some c->H c=none
 pin:∀p∈X.pn++pins,s.heap.get? p.1=some p.2/\H p.1=none/\p.1≠X.env.locals/\p.1∉X.fs/\∀v,p.2.data≠.cell v
 hok:uE X.prog X.w H s.heap
 len:σ.length=X.N.length
section
variable{X:Cx}{pins:List (Addr×Obj)}{σ:List (Option V)}{H H':Hp}{s:Shared}{h':Heap}
theorem Cx.Ok.nofr(ok:X.Ok){b:Addr}{o:Obj}(e:X.base.get? b=some o):b∉X.fs:=fun hb=>by
 have:=(ok.funs.mem hb).1
 rw[e] at this;cases this
theorem Inv.bs(I:Inv X pins σ H s):∀b o,X.base.get? b=some o->s.heap.get? b=some o/\H b=none:=fun b o e =>
 ⟨I.base.keep b o (I.ok.bs b o e).1 (I.ok.bs b o e).2 (I.ok.nofr e) (I.ok.noex b o e),I.base.free b o (I.ok.bs b o e).1 (I.ok.bs b o e).2 (I.ok.noex b o e)⟩
theorem Inv.bk(I:Inv X pins σ H s):∀b o,X.base.get? b=some o->s.heap.get? b=some o:=fun b o e=>(I.bs b o e).1
theorem Inv.mod(I:Inv X pins σ H s):Mod X.K X.mg X.base:=I.ok.mod
theorem Inv.kIn(I:Inv X pins σ H s):X.K.In s.heap:=I.ok.mod.kin.keeps I.bk
theorem Inv.nolimit(I:Inv X pins σ H s):s.heap.NoLimit:=I.ok.mod.nolimit.keeps I.bk
theorem Inv.lt(I:Inv X pins σ H s):X.env.locals<s.heap.objs.size:=let ⟨_,hn,_⟩:=I.loc;hn.lt
theorem Inv.sz(I:Inv X pins σ H s):X.s₀.heap.objs.size<=s.heap.objs.size:=Nat.le_trans I.ok.above (Nat.le_of_lt I.lt)
theorem Inv.nofs(I:Inv X pins σ H s){a:Addr}(h:s.heap.objs.size<=a):a∉X.fs:=fun hb=>by
 obtain⟨_,o,ho,_⟩:=I.ok.funs.mem hb
 exact absurd (Nat.lt_of_lt_of_le (Heap.lt_size ho) (Nat.le_trans I.sz h)) (Nat.lt_irrefl _)
theorem Inv.cne(I:Inv X pins σ H s):∀x c,X.env.cells.lookup x=some c->c≠X.env.locals:=fun x c e z=>by
 obtain⟨v,o,ho,hd⟩:=I.cell x c e
 obtain⟨m,⟨o',es,ep,ho',hd',_⟩,_⟩:=I.loc
 rw[z,ho'] at ho;cases ho;rw[hd'] at hd;cases hd
theorem Inv.funs(I:Inv X pins σ H s):s.heap.FunFrames X.base X.outer:=by
 have all:∀(l:List Env),(∀b∈yO l,b∈X.fs)->X.s₀.heap.FunFrames X.base l->s.heap.FunFrames X.base l:=by
  intro l
  induction l with
  | nil=>intro _ _;trivial
  | cons env r ih =>
   intro hs hl
   obtain⟨hk,⟨L,o,hf,hn,ho,hd⟩,hr⟩:=hl
   have hL:L∈X.fs:=hs L (by unfold yO;rw[List.filterMap_cons,hf];exact List.mem_cons_self)
   obtain⟨sl,e⟩:=I.base.slot L o ho (I.ok.frf L hL) hL fun z=>I.ok.exfs L z hL
   exact⟨hk,⟨L,_,hf,hn,e,hd⟩,ih (fun b hb=>hs b (by unfold yO;rw[List.filterMap_cons,hf];exact List.mem_cons_of_mem _ hb)) hr⟩
 exact all X.outer (fun _ hb=>hb) I.ok.funs
theorem Inv.stack(I:Inv X pins σ H s):s.heap.FunFrames X.base X.stack:=by
 rcases I.ok.stk with e | ⟨e,hf⟩
 ·rw[e];exact I.funs
 ·rw[e]
  obtain⟨m,hn,_⟩:=I.loc
  refine .cons (by rw[I.ok.kind];decide) hf hn ?_ I.funs
  exact Heap.get?_none_of_le (Nat.le_trans I.ok.bsz I.ok.above)
theorem Inv.stkSub(I:Inv X pins σ H s):∀b∈yO X.stack,b∈X.env.locals::X.fs:=fun b hb=>by
 rcases I.ok.stk with e | ⟨e,hf⟩
 ·rw[e] at hb;exact List.mem_cons_of_mem _ hb
 ·rw[e] at hb
  unfold yO at hb
  rw[List.filterMap_cons,hf] at hb
  exact hb
theorem Inv.stkFree(I:Inv X pins σ H s):∀b∈yO X.stack,H b=none:=fun b hb=>by
 rcases List.mem_cons.mp (I.stkSub b hb) with e | hb
 ·rw[e];exact I.free
 ·obtain⟨_,o,ho,_⟩:=I.ok.funs.mem hb
  exact I.base.free b o ho (I.ok.frf b hb) fun z=>I.ok.exfs b z hb
theorem Inv.step{g':Array GenState}{t':Nat}{d':Drawn}{ch:List Addr}(I:Inv X pins σ H s)
  (hch:∀b∈ch,(b∈X.ex\/X.s₀.heap.objs.size<=b)/\b≠X.env.locals/\(∀x c,X.env.cells.lookup x=some c->c≠b)/\∀p∈X.pn++pins,p.1≠b)
  (keep:∀b o,b≠X.env.locals->b∉X.fs->b∉ch->s.heap.get? b=some o->H b=none->h'.get? b=some o)
  (slot:∀b o,b≠X.env.locals->b∈X.fs->b∉ch->s.heap.get? b=some o->H b=none->∃sl,h'.get? b=some {o with slots:=sl}) (free:∀b o,b∉ch->s.heap.get? b=some o->H b=none->H' b=none)
  (there:∀b o,b∉ch->s.heap.get? b=some o->∃o',h'.get? b=some o')
  (tups:∀b xs,H b=some (.tup xs)->H' b=some (.tup xs)) (frzs:∀b o u,(∀y,u≠.own y)->H b=some (.frz o u)->H' b=some (.frz o u)) (tbls:∀b q c,H b=some (.tbl q c)->H' b=some (.tbl q c))
  (ns:∀m,s.heap.Ns X.env.locals m->h'.Ns X.env.locals m) (hok:uE X.prog X.w H' h') (hg:AllBare g') :
  Inv X pins σ H' {s with heap:=h',gens:=g',drawn:=d',toks:=t' }:=by
 have neL:∀b o,X.s₀.heap.get? b=some o->b≠X.env.locals:=fun b o e=>Nat.ne_of_lt (Nat.lt_of_lt_of_le (Heap.lt_size e) I.ok.above)
 have neC:∀b o,X.s₀.heap.get? b=some o->b∉X.ex->b∉ch:=fun b o e hx hb=>by
  rcases(hch b hb).1 with z | z
  ·exact hx z
  ·exact absurd (Nat.lt_of_lt_of_le (Heap.lt_size e) z) (Nat.lt_irrefl _)
 have cellK:∀x c,X.env.cells.lookup x=some c->∀v,s.heap.IsCell c v->h'.IsCell c v:=fun x c e v ⟨o,ho,hd⟩=>by
  have nch:c∉ch:=fun z=>(hch c z).2.2.1 x c e rfl
  by_cases hc:c∈X.fs
  ·obtain⟨sl,q⟩:=slot c o (I.cne x c e) hc nch ho (I.freeC x c e)
   exact⟨_,q,hd⟩
  ·exact⟨o,keep c o (I.cne x c e) hc nch ho (I.freeC x c e),hd⟩
 refine⟨I.ok,I.os,hg,⟨fun b o e n hb hx=>?_,fun b o e n hb hx=>?_,fun b o e n hx=>?_,fun b o e hx=>?_,fun b xs e=>tups b xs (I.base.tups b xs e),fun b o xs ny e=>frzs b o xs ny (I.base.frzs b o xs ny e),fun b ps d e=>?_⟩,?_,fun x c e=>?_,?_,fun x c e=>?_,fun p hp=>?_,hok,I.len⟩
 ·exact keep b o (neL b o e) hb (neC b o e hx) (I.base.keep b o e n hb hx) (I.base.free b o e n hx)
 ·obtain⟨sl,e1⟩:=I.base.slot b o e n hb hx
  obtain⟨sl',e2⟩:=slot b _ (neL b o e) hb (neC b o e hx) e1 (I.base.free b o e n hx)
  exact⟨sl',e2⟩
 ·obtain⟨o',e1⟩:=I.base.there b o e hx
  exact free b o' (neC b o e hx) e1 (I.base.free b o e n hx)
 ·obtain⟨o',e1⟩:=I.base.there b o e hx
  exact there b o' (neC b o e hx) e1
 ·exact tbls b ps d (I.base.tbls b ps d e)
 ·obtain⟨m,hn,hl⟩:=I.loc
  refine⟨m,ns m hn,fun i x v e1 e2 e3=>?_⟩
  obtain⟨u,r,l⟩:=hl i x v e1 e2 e3
  refine⟨u,r,?_⟩
  rcases l with l | ⟨k,c,e,z⟩
  ·exact .inl l
  ·exact .inr ⟨k,c,e,cellK x c e _ z⟩
 ·obtain⟨v,z⟩:=I.cell x c e
  exact⟨v,cellK x c e v z⟩
 ·obtain⟨m,⟨o,_,_,ho,_⟩,_⟩:=I.loc
  exact free _ o (fun z=>(hch _ z).2.1 rfl) ho I.free
 ·obtain⟨v,o,ho,hd⟩:=I.cell x c e
  exact free c o (fun z=>(hch c z).2.2.1 x c e rfl) ho (I.freeC x c e)
 ·obtain⟨e,n,ne,nf,d⟩:=I.pin p hp
  have nch:p.1∉ch:=fun z=>(hch p.1 z).2.2.2 p hp rfl
  exact⟨keep p.1 p.2 ne nf nch e n,free p.1 p.2 nch e n,ne,nf,d⟩
theorem Inv.un{t':Nat}(I:Inv X pins σ H s)(u:Un X.fs [] H H' s.heap h')(hok:uE X.prog X.w H' h'):Inv X pins σ H' {s with heap:=h',toks:=t' }:=by
 obtain⟨m,⟨o,es,ep,ho,r⟩,_⟩:=id I.loc
 obtain⟨sl,hL⟩:=u.any ho I.free (by simp)
 exact I.step (g':=s.gens) (d':=s.drawn) (ch:=[]) (fun _ z=>nomatch z) (fun b o _ hb _ e n=>u.keep b o e n hb (by simp)) (fun b o _ hb _ e n=>u.slot b o e n hb (by simp)) (fun b o _ e n=>u.free b o e n (by simp)) (fun b o _ e=>u.there b o e (by simp)) u.tups u.frzs u.tbls (fun m' hm=>by
  obtain⟨o',es',ep',ho',r'⟩:=hm
  rw[ho] at ho';cases ho'
  exact⟨_,es',ep',hL,r'⟩) hok I.bare
theorem Inv.call{g':Array GenState}{t':Nat}{d':Drawn}{ch:List Addr}(I:Inv X pins σ H s)(u:Un (yO X.stack) ch H H' s.heap h')(hok:uE X.prog X.w H' h')(hg:AllBare g')
  (hch:∀b∈ch,(b∈X.ex\/X.s₀.heap.objs.size<=b)/\b≠X.env.locals/\(∀x c,X.env.cells.lookup x=some c->c≠b)/\∀p∈X.pn++pins,p.1≠b) :
  Inv X pins σ H' {s with heap:=h',gens:=g',drawn:=d',toks:=t' }:=by
 obtain⟨m,⟨o,es,ep,ho,r⟩,_⟩:=id I.loc
 obtain⟨sl,hL⟩:=u.any ho I.free fun z=>(hch _ z).2.1 rfl
 exact I.step (ch:=ch) hch (fun b o hL hb hc e n=>u.keep b o e n (fun z=>(List.mem_cons.mp (I.stkSub b z)).elim hL hb) hc) (fun b o _ _ hc e n=>u.any e n hc) (fun b o hc e n=>u.free b o e n hc) (fun b o hc e=>u.there b o e hc) u.tups u.frzs u.tbls (fun m' hm=>by
  obtain⟨o',es',ep',ho',r'⟩:=hm
  rw[ho] at ho';cases ho'
  exact⟨_,es',ep',hL,r'⟩) hok hg
theorem Inv.turned{t':Nat}{it:Addr}(I:Inv X pins σ H s)(k:∀b o,b≠it->s.heap.get? b=some o->h'.get? b=some o)(hn:H it=none)(hL:it≠X.env.locals)
  (h1:it∈X.ex\/X.s₀.heap.objs.size<=it) (h2:∀x c,X.env.cells.lookup x=some c->c≠it) (h3:∀p∈X.pn++pins,p.1≠it):Inv X pins σ H {s with heap:=h',toks:=t' }:=by
 have nit:∀b u,H b=some u->b≠it:=fun b u e z=>by rw[z,hn] at e;cases e
 refine I.step (g':=s.gens) (d':=s.drawn) (ch:=[it]) (fun b hb=>?_) (fun b o _ _ hc e _=>k b o (fun z=>hc (by simp[z])) e) (fun b o _ _ hc e _=>⟨o.slots,k b o (fun z=>hc (by simp[z])) e⟩) (fun _ _ _ _ n=>n)
  (fun b o hc e=>⟨o,k b o (fun z=>hc (by simp[z])) e⟩) (fun _ _ e=>e) (fun _ _ _ _ e=>e) (fun _ _ _ e=>e) (fun m hm=>?_) (fun b u e=>?_) I.bare
 ·have e:b=it:=by simpa using hb
  subst e
  exact⟨h1,hL,h2,h3⟩
 ·obtain⟨o,es,ep,ho,r⟩:=hm
  exact⟨o,es,ep,k _ o (Ne.symm hL) ho,r⟩
 ·refine(I.hok b u e).stay (fun c v hc q=>k c v ?_ q) (fun _ q=>q) (fun _ _ q=>q) fun _ _ _ q=>q
  rcases hc with z | z
  ·rw[z];exact nit b u e
  ·exact nit c _ z
theorem Inv.tok(I:Inv X pins σ H s)(t:Nat):Inv X pins σ H {s with toks:=t}:=I.un (h':=s.heap) (t':=t) Un.refl I.hok
theorem Inv.kept{t':Nat}(I:Inv X pins σ H s)(k:∀b u,s.heap.get? b=some u->h'.get? b=some u):Inv X pins σ H {s with heap:=h',toks:=t' }:=I.un (Un.kept k) (I.hok.kept k)
theorem Inv.laid{a:Addr}{o:HO}{t':Nat}(I:Inv X pins σ H s)(k:∀b u,s.heap.get? b=some u->h'.get? b=some u)(hp:s.heap.objs.size<=a)(new:qg X.prog X.w (upd H a o) h' a o) :
  Inv X pins σ (upd H a o) {s with heap:=h',toks:=t' }:=I.un (Un.laid k hp (I.hok.fresh hp)) (I.hok.laid k hp new)
theorem Inv.write{x e:Addr}{o:HO}{t':Nat}(I:Inv X pins σ H s)(mu:Ez (H x))(he:e=x\/H e=some (.own x))(k:∀b u,b≠e->s.heap.get? b=some u->h'.get? b=some u)(heo:∃u,h'.get? e=some u)
  (new:qg X.prog X.w (upd H x o) h' x o):Inv X pins σ (upd H x o) {s with heap:=h',toks:=t' }:=I.un (Un.write mu he k heo) (I.hok.write mu he k heo new)
theorem Inv.pins_of{pins':List (Addr×Obj)}(I:Inv X pins σ H s)(h:∀p∈pins',s.heap.get? p.1=some p.2/\H p.1=none/\p.1≠X.env.locals/\p.1∉X.fs/\∀v,p.2.data≠.cell v):Inv X pins' σ H s:=
 ⟨I.ok,I.os,I.bare,I.base,I.loc,I.cell,I.free,I.freeC,fun p hp=>(List.mem_append.mp hp).elim (fun z=>I.pin p (List.mem_append_left _ z)) (h p),I.hok,I.len⟩
theorem wR{N:List Str}(hN:N.Nodup){i j:Nat}{x:Str}(a:N[i]?=some x)(b:N[j]?=some x):i=j:=by
 obtain⟨h1,e1⟩:=List.getElem?_eq_some_iff.mp a
 obtain⟨h2,e2⟩:=List.getElem?_eq_some_iff.mp b
 exact(List.getElem_inj hN).mp (e1.trans e2.symm)
theorem yU{M:Model}{A:Around}{E:Value->Shared->Prop}{i:Nat}{x:Str}{v:V}{u:Value}{Q:Unit->Shared->Prop}(I:Inv X pins σ H s)(hN:X.N.Nodup)(hi:X.N[i]?=some x)(hx:Loc X.env.scope x)(r:RelV v u)
  (h:∀s',Inv X pins (σ.set i (some v)) H s'->(∃a,Heap.SameBut a s.heap s'.heap/\(a=X.env.locals\/X.env.cells.lookup x=some a))->Q () s') (hf:X.fn x=true\/X.env.scope.names.lookup x=some .local:=by first | exact .inl rfl | exact .inr rfl | assumption):wpAny M A (storeName X.env x u) Q E s:=by
 obtain⟨m,hn,hl⟩:=id I.loc
 have hcls:(X.env.scope.kind==.class||(X.env.scope.kind==.module&&X.env.locals != X.env.globals))=false:=by rw[I.ok.kind];rfl
 have hiσ:i<σ.length:=by rw[I.len];exact(List.getElem?_eq_some_iff.mp hi).1
 have cne:=I.cne
 have tracked:∀{a:Addr} {h':Heap},(∃o,s.heap.get? a=some o/\H a=none)->Heap.SameBut a s.heap h'->uE X.prog X.w H h':=fun {a h'} ha hs b ob e=>by
  obtain⟨_,_,hfree⟩:=ha
  refine(I.hok b ob e).stay (fun c w' hc q=>(hs.2 c ?_).trans q) (fun _ q=>q) (fun _ _ q=>q) fun _ _ _ q=>q
  rintro rfl
  rcases hc with rfl | hc
  ·rw[hfree] at e;cases e
  ·rw[hfree] at hc;cases hc
 rcases hx with hk | hk
 ·refine wpAny_storeName_local hk hn (fun h' hn' hs=>?_) hcls
  obtain⟨oL,_,_,hoL,_⟩:=id hn
  refine h _ ⟨I.ok,I.os,I.bare,⟨fun b o e n hb hx=>?_,fun b o e n hb hx=>?_,I.base.free,fun b o e hx=>?_,I.base.tups,I.base.frzs,I.base.tbls⟩,⟨_,hn',fun j y v' e1 e2 e3=>?_⟩,fun y c e=>?_,I.free,I.freeC,fun p hp=>?_,tracked ⟨oL,hoL,I.free⟩ hs,by simpa using I.len⟩ ⟨_,hs,.inl rfl⟩
  ·exact(hs.2 b (Nat.ne_of_lt (Nat.lt_of_lt_of_le (Heap.lt_size e) I.ok.above))).trans (I.base.keep b o e n hb hx)
  ·obtain⟨sl,e1⟩:=I.base.slot b o e n hb hx
   exact⟨sl,(hs.2 b (Nat.ne_of_lt (Nat.lt_of_lt_of_le (Heap.lt_size e) I.ok.above))).trans e1⟩
  ·obtain⟨o',e1⟩:=I.base.there b o e hx
   exact⟨o',(hs.2 b (Nat.ne_of_lt (Nat.lt_of_lt_of_le (Heap.lt_size e) I.ok.above))).trans e1⟩
  ·by_cases hj:j=i
   ·subst hj
    rw[hi] at e1;cases e1
    rw[List.getElem?_set_self hiσ] at e2
    cases e2
    exact⟨u,r,.inl ⟨hk,by simp⟩⟩
   ·rw[List.getElem?_set_ne (Ne.symm hj)] at e2
    obtain⟨u',r',q⟩:=hl j y v' e1 e2 e3
    refine⟨u',r',?_⟩
    rcases q with ⟨k,e⟩ | ⟨k,c,e,z⟩
    ·refine .inl ⟨k,?_⟩
     have:y≠x:=fun e=>hj (wR hN e1 (e ▸ hi))
     simp[this,e]
    ·exact .inr ⟨k,c,e,z.sameBut hs (cne y c e)⟩
  ·obtain⟨w',z⟩:=I.cell y c e
   exact⟨w',z.sameBut hs (cne y c e)⟩
  ·obtain⟨e,n,ne,nf,d⟩:=I.pin p hp
   exact⟨(hs.2 p.1 ne).trans e,n,ne,nf,d⟩
 ·have hfn:X.fn x=true:=by
   rcases hf with z | z
   ·exact z
   ·rw[z] at hk;cases hk
  obtain⟨c,hc⟩:=I.ok.has x (.inl hk)
  obtain⟨w',z⟩:=I.cell x c hc
  refine wpAny_storeName_cell I.ok.kind hk hc z (fun h' hc' hs=>?_)
  obtain⟨oc,hoc,hocd⟩:=id z
  refine h {s with heap:=h' } ⟨I.ok,I.os,I.bare,⟨fun b o e n hb hx=>?_,fun b o e n hb hx=>?_,I.base.free,fun b o e hx=>?_,I.base.tups,I.base.frzs,I.base.tbls⟩,⟨m,hn.sameBut hs (Ne.symm (cne x c hc)),fun j y v' e1 e2 e3=>?_⟩,fun y c' e=>?_,I.free,I.freeC,fun p hp=>?_,tracked ⟨oc,hoc,I.freeC x c hc⟩ hs,by simpa using I.len⟩ ⟨c,hs,.inr hc⟩
  ·exact(hs.2 b (Nat.ne_of_lt (Nat.lt_of_lt_of_le (Heap.lt_size e) (I.ok.cab x c hfn hc)))).trans (I.base.keep b o e n hb hx)
  ·obtain⟨sl,e1⟩:=I.base.slot b o e n hb hx
   exact⟨sl,(hs.2 b (Nat.ne_of_lt (Nat.lt_of_lt_of_le (Heap.lt_size e) (I.ok.cab x c hfn hc)))).trans e1⟩
  ·obtain⟨o',e1⟩:=I.base.there b o e hx
   exact⟨o',(hs.2 b (Nat.ne_of_lt (Nat.lt_of_lt_of_le (Heap.lt_size e) (I.ok.cab x c hfn hc)))).trans e1⟩
  ·by_cases hj:j=i
   ·subst hj
    rw[hi] at e1;cases e1
    rw[List.getElem?_set_self hiσ] at e2
    cases e2
    exact⟨u,r,.inr ⟨.inl hk,c,hc,hc'⟩⟩
   ·rw[List.getElem?_set_ne (Ne.symm hj)] at e2
    obtain⟨u',r',q⟩:=hl j y v' e1 e2 e3
    refine⟨u',r',?_⟩
    rcases q with q | ⟨k,c',e,z'⟩
    ·exact .inl q
    ·refine .inr ⟨k,c',e,z'.sameBut hs ?_⟩
     rintro rfl
     exact hj (wR hN e1 (I.ok.inj _ _ _ e hc ▸ hi))
  ·by_cases hcc:c'=c
   ·subst hcc;exact⟨_,hc'⟩
   ·obtain⟨w2,z2⟩:=I.cell y c' e
    exact⟨w2,z2.sameBut hs hcc⟩
  ·obtain⟨e,n,ne,nf,d⟩:=I.pin p hp
   refine⟨(hs.2 p.1 ?_).trans e,n,ne,nf,d⟩
   intro q
   rw[q,hoc] at e
   have q':oc=p.2:=Option.some.inj e
   exact d w' (by rw[<- q'];exact hocd)
theorem wN{M:Model}{A:Around}{E:Value->Shared->Prop}{i:Nat}{x:Str}{v:V}{u:Value}{Q:Unit->Shared->Prop}(I:Inv X pins σ H s)(hN:X.N.Nodup)(hi:X.N[i]?=some x)(hx:Loc X.env.scope x)(r:RelV v u)
  (h:∀s',Inv X pins (σ.set i (some v)) H s'->Q () s') (hf:X.fn x=true\/X.env.scope.names.lookup x=some .local:=by first | exact .inl rfl | exact .inr rfl | assumption):wpAny M A (storeName X.env x u) Q E s:=
 yU I hN hi hx r (fun s' I' _=>h s' I') hf
theorem Inv.call'{s':Shared}{ch:List Addr}(I:Inv X pins σ H s)(ho:s'.os=s.os)(u:Un (yO X.stack) ch H H' s.heap s'.heap)(hok:uE X.prog X.w H' s'.heap)(hg:AllBare s'.gens)
  (hch:∀b∈ch,(b∈X.ex\/X.s₀.heap.objs.size<=b)/\b≠X.env.locals/\(∀x c,X.env.cells.lookup x=some c->c≠b)/\∀p∈X.pn++pins,p.1≠b):Inv X pins σ H' s':=by
 obtain⟨h',g',d',t',o'⟩:=s'
 have e:o'=s.os:=ho
 subst e
 exact I.call (g':=g') (t':=t') (d':=d') u hok hg hch
end
abbrev XK:=Value->Option Addr->Hp->Prop
abbrev St:=List (Option V)
abbrev VK:=V->Hp->Prop
abbrev TE:=St->Hp->VK->Prop
abbrev TT:=St->Hp->(Bool->Hp->Prop)->Prop
abbrev TA:=St->Hp->(List V->Hp->Prop)->Prop
structure Ends where
 nx:St->Hp->Prop
 rt:VK
 bk:St->Hp->Prop:=fun _ _=>False
 ct:St->Hp->Prop:=fun _ _=>False
abbrev TS:=Ends->St->Hp->Prop
def EP(X:Cx)(pins:List (Addr×Obj))(σ:St)(Q:VK)(u:Value)(s':Shared):Prop:=∃v H',Inv X pins σ H' s'/\RelV v u/\Q v H'
def TP(X:Cx)(pins:List (Addr×Obj))(σ:St)(Q:Bool->Hp->Prop)(b:Bool)(s':Shared):Prop:=∃H',Inv X pins σ H' s'/\Q b H'
def AP(X:Cx)(pins:List (Addr×Obj))(σ:St)(Q:List V->Hp->Prop)(us:List Value)(s':Shared):Prop:=∃vs H',Inv X pins σ H' s'/\m9 vs us/\Q vs H'
def SP(X:Cx)(pins:List (Addr×Obj))(D:Ends)(f:Flow)(s':Shared):Prop:=
 match f with
 | .next=>∃ σ' H',Inv X pins σ' H' s'/\D.nx σ' H'
 | .brk=>∃ σ' H',Inv X pins σ' H' s'/\D.bk σ' H'
 | .cont=>∃ σ' H',Inv X pins σ' H' s'/\D.ct σ' H'
 | .ret u=>∃v σ' H',Inv X pins σ' H' s'/\RelV v u/\D.rt v H'
def PE(X:Cx)(e:Expr)(t:TE):Prop:=
 ∀(pins:List (Addr×Obj)) (s:Shared) (σ:St) (H:Hp) (Q:VK),Inv X pins σ H s->t σ H Q->wpAny (model X.prog X.w) X.A (eval e X.env) (EP X pins σ Q) X.xe s
def PT(X:Cx)(e:Expr)(t:TT):Prop:=
 ∀(pins:List (Addr×Obj)) (s:Shared) (σ:St) (H:Hp) (Q:Bool->Hp->Prop),Inv X pins σ H s->t σ H Q->wpAny (model X.prog X.w) X.A (isTrue e X.env (eval e X.env)) (TP X pins σ Q) X.xe s
def PW(X:Cx)(e:Expr)(t:TT):Prop:=
 ∀(whole:Sem Value) (pins:List (Addr×Obj)) (s:Shared) (σ:St) (H:Hp) (Q:Bool->Hp->Prop),Inv X pins σ H s->t σ H Q->wpAny (model X.prog X.w) X.A (isTrue e X.env whole) (TP X pins σ Q) X.xe s
theorem PW.pt{X:Cx}{e:Expr}{t:TT}(h:PW X e t):PT X e t:=h _
def PA(X:Cx)(es:List Expr)(t:TA):Prop:=
 ∀(pos:Pos) (pins:List (Addr×Obj)) (s:Shared) (σ:St) (H:Hp) (Q:List V->Hp->Prop),Inv X pins σ H s->t σ H Q->wpAny (model X.prog X.w) X.A (spliced (backTo pos (starEach es X.env))) (AP X pins σ Q) X.xe s
def PS(X:Cx)(st:Stmt)(t:TS):Prop:=
 ∀(pins:List (Addr×Obj)) (s:Shared) (σ:St) (H:Hp) (D:Ends),Inv X pins σ H s->t D σ H->wpAny (model X.prog X.w) X.A (exec st X.env) (SP X pins D) X.xe s
def PSs(X:Cx)(st:List Stmt)(t:TS):Prop:=
 ∀(pins:List (Addr×Obj)) (s:Shared) (σ:St) (H:Hp) (D:Ends),Inv X pins σ H s->t D σ H->wpAny (model X.prog X.w) X.A (execs st X.env) (SP X pins D) X.xe s
theorem oy{α:Type}{t:Sem α}{Q Q':α->Shared->Prop}{M:Model}{A:Around}{E:Value->Shared->Prop}{s:Shared}(h:wpAny M A t Q E s)(hQ:∀a s,Q a s->Q' a s):wpAny M A t Q' E s:=wpAny_mono h hQ fun _ _ x=>x
end L2
namespace L2
open PySem PySem.Spec PyProof.Rows
section
variable{X:Cx}
theorem bin{a b:Expr}{ta tb:TE}(ha:PE X a ta)(hb:PE X b tb){pins:List (Addr×Obj)}{s:Shared}{σ:St}{H:Hp}{R:V->V->Hp->Prop}(I:Inv X pins σ H s)(h:ta σ H fun x H1=>tb σ H1 fun y H2=>R x y H2)
  {α:Type} {Q:α->Shared->Prop} {f:Value->Value->Sem α}
  (hf:∀v u s2 x y H2,Inv X pins σ H2 s2->RelV x v->RelV y u->R x y H2->wpAny (model X.prog X.w) X.A (f v u) Q X.xe s2) :
  wpAny (model X.prog X.w) X.A (eval a X.env) (fun v s₁=>wpAny (model X.prog X.w) X.A (eval b X.env) (fun u s₂=>wpAny (model X.prog X.w) X.A (f v u) Q X.xe s₂) X.xe s₁) X.xe s:=by
 refine oy (ha pins s σ H _ I h) fun v s1 ⟨x,H1,I1,r1,q1⟩=>?_
 refine oy (hb pins s1 σ H1 _ I1 q1) fun u s2 ⟨y,H2,I2,r2,q2⟩=>?_
 exact hf v u s2 x y H2 I2 r1 r2 q2
def Ei(i:Nat):TE:=fun σ H Q=>∃v,σ[i]?=some (some v)/\Q v H
def tC(v:V):TE:=fun _ H Q=>Q v H
theorem jy{i:Nat}{x:Str}{pos:Pos}(hN:X.N[i]?=some x)(hv:BP X.env.scope x)(hd:(x==("__debug__" : Str))=false:=by decide)(hcd:(x==("__classdict__" : Str))=false:=by decide):PE X (.Name x pos) (Ei i):=by
 intro pins s σ H Q I h
 obtain⟨v,e,h⟩:=h
 obtain⟨m,hn,hl⟩:=I.loc
 obtain⟨u,r,l⟩:=hl i x v hN e hv
 have fin:EP X pins σ Q u s:=⟨v,H,I,r,h⟩
 rcases l with ⟨hk,hm⟩ | ⟨hk,c,hc,hcell⟩
 ·exact wpAny_Name (wpAny_loadName_local I.ok.kind hk hn hm fin) hd
 ·rcases hk with hk | hk
  ·exact wpAny_Name (wpAny_loadName_cell I.ok.kind hk hc hcell fin) hd
  ·exact wpAny_Name (wpAny_loadName_free I.ok.kind hk hc hcell fin hcd) hd
theorem Dg{i j pos}:PE X (.Constant (.int i) j pos) (tC (.int i)):=fun _ _ _ H _ I h=>wpAny_Constant_int ⟨.int i,H,I.tok _,⟨_,rfl⟩,h⟩
theorem Ds{b j pos}:PE X (.Constant (.bool b) j pos) (tC (.bl b)):=fun _ _ _ H _ I h=>Constant_bool ⟨.bl b,H,I,rfl,h⟩
theorem Ca{j pos}:PE X (.Constant .none j pos) (tC .non):=fun _ _ _ H _ I h=>Constant_none ⟨.non,H,I,rfl,h⟩
theorem C7{x j pos}:PE X (.Constant (.str x) j pos) (tC (.str x)):=fun _ _ _ H _ I h=>Calls.Constant_str ⟨.str x,H,I.tok _,⟨_,rfl⟩,h⟩
def Gl(X:Cx)(x:Str):Prop:=X.env.kindOf x=some .globalImplicit
theorem jQ{E:Value->Shared->Prop}{pins:List (Addr×Obj)}{s:Shared}{σ:St}{H:Hp}{x:Str}{u:Value}{pos:Pos}{Q:Value->Shared->Prop}(I:Inv X pins σ H s)(hg:Gl X x)(hm:X.mg x=some u)(h:Q u s)
  (hd:(x==("__debug__" : Str))=false:=by decide):wpAny (model X.prog X.w) X.A (eval (.Name x pos) X.env) Q E s:=
 Calls.Name_function_global I.ok.kind hg (Calls.loadGlobal_global (by rw[I.ok.glob];exact I.mod.glob.keeps I.bk) hm h) hd
theorem bJ{E:Value->Shared->Prop}{pins:List (Addr×Obj)}{s:Shared}{σ:St}{H:Hp}{x:Str}{u:Value}{pos:Pos}{Q:Value->Shared->Prop}(I:Inv X pins σ H s)(hg:Gl X x)(hm:X.mg x=none)(hv:bootBuiltins x=some u)(h:Q u s)
  (hn:x ≠ "__name__":=by decide) (hd:(x==("__debug__" : Str))=false:=by decide):wpAny (model X.prog X.w) X.A (eval (.Name x pos) X.env) Q E s:=by
 obtain⟨mb,h1,h2⟩:=I.mod.blt
 exact Calls.Name_function_global I.ok.kind hg (Calls.loadGlobal_builtin (by rw[I.ok.glob];exact I.mod.glob.keeps I.bk) hm (by rw[I.ok.blt];exact h1.keeps I.bk) ((h2 x hn).trans hv) h) hd
theorem gZ{x:Str}{v:V}{u:Value}{pos:Pos}(hg:Gl X x)(hm:X.mg x=some u)(r:RelV v u)(hd:(x==("__debug__" : Str))=false:=by decide):PE X (.Name x pos) (tC v):=
 fun _ _ _ H _ I h=>jQ I hg hm ⟨v,H,I,r,h⟩ hd
variable{a b:Expr}{ta tb:TE}{pos:Pos}
variable{tA tB':TT}{rest:List Expr}
def Fe(t u:TT):TT:=fun σ H Q=>t σ H fun c H1=>if c=true then u σ H1 Q else Q false H1
def GK(t u:TT):TT:=fun σ H Q=>t σ H fun c H1=>if c=true then Q true H1 else u σ H1 Q
def ER(t:TT):TT:=fun σ H Q=>t σ H fun c H1=>Q (!c) H1
theorem Br(ha:PT X a tA):PW X (.BoolOp .And [a] pos) tA:=by
 intro wh pins s σ H Q I h
 refine isTrue_and (oy (ha pins s σ H Q I h) fun c s1 e=>?_)
 cases c with
 | true=>exact isTrue_and_nil e
 | false=>exact e
theorem C5(ha:PT X a tA):PW X (.BoolOp .Or [a] pos) tA:=by
 intro wh pins s σ H Q I h
 refine isTrue_or (oy (ha pins s σ H Q I h) fun c s1 e=>?_)
 cases c with
 | false=>exact isTrue_or_nil e
 | true=>exact e
theorem Cq(ha:PT X a tA)(hb:PW X (.BoolOp .And (b::rest) pos) tB'):PW X (.BoolOp .And (a::b::rest) pos) (Fe tA tB'):=by
 intro wh pins s σ H Q I h
 refine isTrue_and (oy (ha pins s σ H _ I h) fun c s1 ⟨H1,I1,q1⟩=>?_)
 cases c with
 | true=>exact hb wh pins s1 σ H1 Q I1 q1
 | false=>exact⟨H1,I1,q1⟩
theorem D3(ha:PT X a tA)(hb:PW X (.BoolOp .Or (b::rest) pos) tB'):PW X (.BoolOp .Or (a::b::rest) pos) (GK tA tB'):=by
 intro wh pins s σ H Q I h
 refine isTrue_or (oy (ha pins s σ H _ I h) fun c s1 ⟨H1,I1,q1⟩=>?_)
 cases c with
 | true=>exact⟨H1,I1,q1⟩
 | false=>exact hb wh pins s1 σ H1 Q I1 q1
theorem mP(ha:PT X a tA):PT X (.UnaryOp .Not a pos) (ER tA):=by
 intro pins s σ H Q I h
 exact isTrue_not (ha pins s σ H (fun c H1=>Q (!c) H1) I h)
def DM(ta tb:TE):TE:=fun σ H Q=>ta σ H fun x H1=>∃c,x=.bl c/\if c=true then tb σ H1 Q else Q (.bl false) H1
def D5(ta:TE):TE:=fun σ H Q=>ta σ H fun x H1=>∃c,x=.bl c/\Q (.bl (!c)) H1
theorem mG{op}{t:TE}(h:PE X a t):PE X (.BoolOp op [a] pos) t:=fun pins s σ H Q I hw=>BoolOp_one (h pins s σ H Q I hw)
theorem mz(ha:PE X a ta)(hb:PE X (.BoolOp .And (b::rest) pos) tb):PE X (.BoolOp .And (a::b::rest) pos) (DM ta tb):=by
 intro pins s σ H Q I h
 refine BoolOp_and (oy (ha pins s σ H _ I h) fun v s1 ⟨x,H1,I1,r1,q1⟩=>?_)
 obtain⟨c,rfl,q1⟩:=q1
 cases r1
 refine wpAny_truthy_bool ?_
 cases c with
 | true=>exact hb pins s1 σ H1 Q I1 q1
 | false=>exact⟨.bl false,H1,I1,rfl,q1⟩
theorem mU(ha:PE X a ta):PE X (.UnaryOp .Not a pos) (D5 ta):=by
 intro pins s σ H Q I h
 refine UnaryOp_ (oy (ha pins s σ H _ I h) fun v s1 ⟨x,H1,I1,r1,q1⟩=>?_)
 obtain⟨c,rfl,q1⟩:=q1
 cases r1
 exact not_of (wpAny_truthy_bool ⟨.bl (!c),H1,I1,rfl,q1⟩)
def Gj(t:TT)(ta tb:TE):TE:=fun σ H Q=>t σ H fun c H1=>if c=true then ta σ H1 Q else tb σ H1 Q
theorem ll{c:Expr}(hc:PT X c tA)(ha:PE X a ta)(hb:PE X b tb):PE X (.IfExp c a b pos) (Gj tA ta tb):=by
 intro pins s σ H Q I h
 refine wpAny_IfExp (oy (hc pins s σ H _ I h) fun d s1 ⟨H1,I1,q1⟩=>?_)
 cases d with
 | true=>exact ha pins s1 σ H1 Q I1 q1
 | false=>exact hb pins s1 σ H1 Q I1 q1
end
end L2
namespace L2
open PySem PySem.Spec PyProof.Rows
def qM(K:PySem.W.Frag)(H:Hp)(a:Addr)(xs:List V):Prop:=
 Rd H a (.lst xs) \/
  ∃(o:Obj) (its:Array Value) (n:Nat),K.lookup a=some o/\o.cls=.type "list" /\ o.dict=none/\o.data=.seq its n/\its.size<=sizeLine/\m9 xs its.toList
def q8(K:PySem.W.Frag)(H:Hp)(a:Addr)(xs:List V):Prop:=
 Rd H a (.tup xs) \/
  ∃(o:Obj) (its:Array Value) (n:Nat),K.lookup a=some o/\o.cls=.type "tuple" /\ o.dict=none/\o.data=.seq its n/\its.size<=sizeLine/\m9 xs its.toList
def FK:Value->Option V
 | .none=>some .non
 | .bool b=>some (.bl b)
 | .int i _=>some (.int i)
 | .str x _=>some (.str x)
 | .bytes b _=>some (.byt b)
 | .float b _=>some (.flt b)
 | .ref a=>some (.ref a)
 | .type n=>some (.ty n)
 | _=>none
theorem RelV.abs{x:V}{u:Value}(r:RelV x u):FK u=some x:=by
 cases x with
 | non=>cases r;rfl
 | bl _=>cases r;rfl
 | int _=>obtain⟨t,rfl⟩:=r;rfl
 | str _=>obtain⟨t,rfl⟩:=r;rfl
 | byt _=>obtain⟨t,rfl⟩:=r;rfl
 | flt _=>obtain⟨t,rfl⟩:=r;rfl
 | ref _=>cases r;rfl
 | ty _=>cases r;rfl
theorem RelV.inj{x y:V}{u:Value}(r:RelV x u)(q:RelV y u):x=y:=Option.some.inj (r.abs.symm.trans q.abs)
theorem m9.inj:∀{xs ys:List V} {us:List Value},m9 xs us->m9 ys us->xs=ys
 | _,_,_,.nil,.nil=>rfl
 | _,_,_,.cons r t,.cons r' t'=>by rw[r.inj r',m9.inj t t']
section
variable{X:Cx}{pins:List (Addr×Obj)}{σ:St}{H:Hp}{s:Shared}{a:Addr}{xs ys:List V}
theorem qM.of{K:PySem.W.Frag}(h:H a=some (.lst xs)):qM K H a xs:=.inl (.inl h)
theorem q8.of{K:PySem.W.Frag}(h:H a=some (.tup xs)):q8 K H a xs:=.inl (.inl h)
theorem Inv.list(I:Inv X pins σ H s)(h:qM X.K H a xs):∃its:List Value,m9 xs its/\PlainL s.heap a its.toArray/\xs.length<=sizeLine:=by
 rcases h with h | ⟨o,its,n,hk,hc,hd,hs,hz,r⟩
 ·obtain⟨z,its,n,r,e⟩:=h.ok I.hok
  exact⟨its,r,⟨_,n,e,rfl,rfl,rfl⟩,z⟩
 ·refine⟨its.toList,r,⟨o,n,I.kIn a o hk,hc,hd,by simpa using hs⟩,?_⟩
  have e:=r.length
  simp only[Array.length_toList] at e
  omega
theorem Inv.tuple(I:Inv X pins σ H s)(h:q8 X.K H a xs):∃its:List Value,m9 xs its/\IsTup s.heap a its.toArray/\xs.length<=sizeLine:=by
 rcases h with h | ⟨o,its,n,hk,hc,hd,hs,hz,r⟩
 ·obtain⟨z,its,r,p⟩:=h.ok I.hok
  exact⟨its,r,p.is,z⟩
 ·refine⟨its.toList,r,⟨o,I.kIn a o hk,hc,n,by simpa using hs⟩,?_⟩
  have e:=r.length
  simp only[Array.length_toList] at e
  omega
theorem Inv.list_inj(I:Inv X pins σ H s)(h:qM X.K H a xs)(h':qM X.K H a ys):xs=ys:=by
 obtain⟨its,r,⟨o,n,e,_,_,d⟩,_⟩:=I.list h
 obtain⟨its',r',⟨o',n',e',_,_,d'⟩,_⟩:=I.list h'
 rw[e] at e';cases e'
 rw[d] at d'
 injection d' with d1 _
 have:its=its':=by simpa using congrArg Array.toList d1
 subst this
 exact r.inj r'
theorem Inv.tuple_inj(I:Inv X pins σ H s)(h:q8 X.K H a xs)(h':q8 X.K H a ys):xs=ys:=by
 obtain⟨its,r,⟨o,e,_,n,d⟩,_⟩:=I.tuple h
 obtain⟨its',r',⟨o',e',_,n',d'⟩,_⟩:=I.tuple h'
 rw[e] at e';cases e'
 rw[d] at d'
 injection d' with d1 _
 have:its=its':=by simpa using congrArg Array.toList d1
 subst this
 exact r.inj r'
end
abbrev Cx.wish(X:Cx)(E:Value->Shared->Prop):Cx:={X with xe:=E}
abbrev Cx.nox(X:Cx):Cx:=X.wish fun _ _=>False
theorem Cx.Ok.wish{X:Cx}(ok:X.Ok)(E:Value->Shared->Prop):(X.wish E).Ok:=
 ⟨ok.mod,ok.kind,ok.glob,ok.blt,ok.above,ok.inj,ok.has,ok.cab,ok.hd,ok.frames,ok.stk,ok.exf,ok.bs,ok.bsz,ok.noex,ok.exfs,ok.funs,ok.frf⟩
theorem Cx.Ok.unwish{X:Cx}{E:Value->Shared->Prop}(ok:(X.wish E).Ok):X.Ok:=
 ⟨ok.mod,ok.kind,ok.glob,ok.blt,ok.above,ok.inj,ok.has,ok.cab,ok.hd,ok.frames,ok.stk,ok.exf,ok.bs,ok.bsz,ok.noex,ok.exfs,ok.funs,ok.frf⟩
section
variable{X:Cx}{pins:List (Addr×Obj)}{σ:St}{H:Hp}{s:Shared}{E:Value->Shared->Prop}
theorem Inv.wish(I:Inv X pins σ H s)(E:Value->Shared->Prop):Inv (X.wish E) pins σ H s:=⟨I.ok.wish E,I.os,I.bare,I.base,I.loc,I.cell,I.free,I.freeC,I.pin,I.hok,I.len⟩
theorem Inv.unwish(I:Inv (X.wish E) pins σ H s):Inv X pins σ H s:=⟨I.ok.unwish,I.os,I.bare,I.base,I.loc,I.cell,I.free,I.freeC,I.pin,I.hok,I.len⟩
theorem SP.unwish{D:Ends}{f:Flow}{s':Shared}(h:SP (X.wish E) pins D f s'):SP X pins D f s':=by
 cases f with
 | next=>obtain⟨σ',H',I,q⟩:=h;exact⟨σ',H',I.unwish,q⟩
 | brk=>obtain⟨σ',H',I,q⟩:=h;exact⟨σ',H',I.unwish,q⟩
 | cont=>obtain⟨σ',H',I,q⟩:=h;exact⟨σ',H',I.unwish,q⟩
 | ret u=>obtain⟨v,σ',H',I,r,q⟩:=h;exact⟨v,σ',H',I.unwish,r,q⟩
theorem PE.nox{e:Expr}{t:TE}(h:PE X.nox e t):PE X e t:=fun pins s σ H Q I hw =>
 wpAny_mono (h pins s σ H Q (I.wish _) hw) (fun _ _ ⟨v,H',I',r,q⟩=>⟨v,H',I'.unwish,r,q⟩) fun _ _ z=>False.elim z
theorem PT.nox{e:Expr}{t:TT}(h:PT X.nox e t):PT X e t:=fun pins s σ H Q I hw =>
 wpAny_mono (h pins s σ H Q (I.wish _) hw) (fun _ _ ⟨H',I',q⟩=>⟨H',I'.unwish,q⟩) fun _ _ z=>False.elim z
theorem PSs.nox{st:List Stmt}{t:TS}(h:PSs X.nox st t):PSs X st t:=fun pins s σ H D I hw =>
 wpAny_mono (h pins s σ H D (I.wish _) hw) (fun _ _ q=>q.unwish) fun _ _ z=>False.elim z
end
section
variable{X:Cx}{st:Stmt}{rest:List Stmt}{t u:TS}{e:Expr}{te:TE}{pos:Pos}
def DO:TS:=fun D σ H=>D.nx σ H
def Fm(t u:TS):TS:=fun D σ H=>t {D with nx:=u D} σ H
theorem wx:PSs X [] DO:=fun _ _ σ H _ I h=>wpAny_execs_nil ⟨σ,H,I,h⟩
theorem gm(h1:PS X st t)(h2:PSs X rest u):PSs X (st::rest) (Fm t u):=by
 intro pins s σ H D I h
 refine wpAny_execs_cons (oy (h1 pins s σ H {D with nx:=u D} I h) fun f s1 q=>?_)
 cases f with
 | next =>
  obtain⟨σ',H',I',q⟩:=q
  exact h2 pins s1 σ' H' D I' q
 | ret v=>exact q
 | brk=>exact q
 | cont=>exact q
theorem fP(h1:PS X st t):PSs X [st] t:=by
 intro pins s σ H D I h
 refine wpAny_execs_cons (oy (h1 pins s σ H D I h) fun f s1 q=>?_)
 cases f with
 | next=>exact wpAny_execs_nil q
 | ret v=>exact q
 | brk=>exact q
 | cont=>exact q
theorem Inv.quiet{pins:List (Addr×Obj)}{σ:St}{H:Hp}{s:Shared}(I:Inv X pins σ H s):interactive X.env=false:=by simp[interactive,I.ok.kind]
def Fp(te:TE):TS:=fun D σ H=>te σ H D.rt
theorem lw(he:PE X e te):PS X (.Return (some e) pos) (Fp te):=by
 intro pins s σ H D I h
 exact wpAny_Return_some (oy (he pins s σ H _ I h) fun v s1 ⟨x,H1,I1,r1,q1⟩=>⟨x,σ,H1,I1,r1,q1⟩)
def Ff(c:TT)(t u:TS):TS:=fun D σ H=>c σ H fun b H1=>if b=true then t D σ H1 else u D σ H1
theorem ly{c:Expr}{a b:List Stmt}{tc:TT}(hc:PT X c tc)(ha:PSs X a t)(hb:PSs X b u):PS X (.If c a b pos) (Ff tc t u):=by
 intro pins s σ H D I h
 refine wpAny_If (oy (hc pins s σ H _ I h) fun d s1 ⟨H1,I1,q1⟩=>?_)
 cases d with
 | true=>exact ha pins s1 σ H1 D I1 q1
 | false=>exact hb pins s1 σ H1 D I1 q1
end
abbrev TG:=V->St->Hp->(St->Hp->Prop)->Prop
abbrev FS:=List V->St->Hp->(St->Hp->Prop)->Prop
def PG(X:Cx)(target:Expr)(t:TG):Prop:=
 ∀(pins:List (Addr×Obj)) (s:Shared) (σ:St) (H:Hp) (v:V) (u:Value) (Q:St->Hp->Prop),Inv X pins σ H s->RelV v u->t v σ H Q ->
  wpAny (model X.prog X.w) X.A (assign target X.env u) (fun _ s'=>∃ σ' H',Inv X pins σ' H' s'/\Q σ' H') X.xe s
def PGs(X:Cx)(ts:List Expr)(t:FS):Prop:=
 ∀(pins:List (Addr×Obj)) (s:Shared) (σ:St) (H:Hp) (vs:List V) (us:List Value) (Q:St->Hp->Prop),Inv X pins σ H s->m9 vs us->t vs σ H Q ->
  wpAny (model X.prog X.w) X.A (assignInOrder ((assignEach ts X.env).map (·.2)) us) (fun _ s'=>∃ σ' H',Inv X pins σ' H' s'/\Q σ' H') X.xe s
section
variable{X:Cx}{pos:Pos}
def BH(i:Nat):TG:=fun v σ H Q=>Q (σ.set i (some v)) H
theorem mq{i:Nat}{x:Str}(hN:X.N.Nodup)(hi:X.N[i]?=some x)(hx:Loc X.env.scope x)(hf:X.fn x=true\/X.env.scope.names.lookup x=some .local:=by first | exact .inl rfl | exact .inr rfl | assumption):PG X (.Name x pos) (BH i):=by
 intro pins s σ H v u Q I r h
 exact wpAny_assign_Name (wN I hN hi hx r (fun s' I'=>⟨_,H,I',h⟩) hf)
def Eh(te:TE)(g:TG):TS:=fun D σ H=>te σ H fun x H1=>g x σ H1 D.nx
theorem mY{tg e:Expr}{te:TE}{g:TG}(he:PE X e te)(hg:PG X tg g)(hs:swapsWithSole [tg] e pos.line X.env=pure false:=by rfl)(hw:swappedStores [tg] e X.env=pure none:=by rfl)
  (h1:(assignEach [tg] X.env).map (·.2)=[assign tg X.env]:=by rfl):PS X (.Assign [tg] e pos) (Eh te g):=by
 intro pins s σ H D I h
 refine wpAny_Assign_stores (oy (he pins s σ H _ I h) fun v s1 ⟨x,H1,I1,r1,q1⟩=>?_) hs hw
 rw[h1]
 exact oy (hg pins s1 σ H1 x v _ I1 r1 q1) fun _ s2 q=>q
theorem js{i:Nat}{x:Str}{e:Expr}{te:TE}{pos':Pos}(hN:X.N.Nodup)(hi:X.N[i]?=some x)(hx:Loc X.env.scope x)(he:PE X e te)(hs:swapsWith e (some (.Name x pos')) pos.line X.env=pure false:=by rfl)(hf:X.fn x=true\/X.env.scope.names.lookup x=some .local:=by first | exact .inl rfl | exact .inr rfl | assumption) :
  PS X (.Assign [.Name x pos'] e pos) (Eh te (BH i)):=by
 intro pins s σ H D I h
 refine wpAny_Assign_Name (oy (he pins s σ H _ I h) fun v s1 ⟨y,H1,I1,r1,q1⟩=>?_) hs
 exact wN I1 hN hi hx r1 (fun s2 I2=>⟨_,H1,I2,q1⟩) hf
end
section
variable{X:Cx}{pos:Pos}
end
structure It where
 go:Nat->Hp->Prop
 yld:Nat->Hp->V->Hp->Prop
 stop:Nat->Hp->Prop
def sS(X:Cx)(pins:List (Addr×Obj))(H:Hp)(b:Addr):Prop:=
 H b=none/\b≠X.env.locals/\b∉X.fs/\(b∈X.ex\/X.s₀.heap.objs.size<=b)/\(∀x c,X.env.cells.lookup x=some c->c≠b)/\∀p∈X.pn++pins,p.1≠b
theorem Inv.fpOk{X:Cx}{pins:List (Addr×Obj)}{σ:St}{H H':Hp}{s:Shared}{b:Addr}(I:Inv X pins σ H s)(hb:s.heap.objs.size<=b)(hn:H' b=none):sS X pins H' b:=by
 refine⟨hn,Nat.ne_of_gt (Nat.lt_of_lt_of_le I.lt hb),I.nofs hb,.inr (Nat.le_trans I.sz hb),fun x c e z=>?_,fun p hp z=>?_⟩
 ·obtain⟨v,q⟩:=I.cell x c e
  exact absurd (Nat.lt_of_lt_of_le q.lt (by rw[z];exact hb)) (Nat.lt_irrefl _)
 ·exact absurd (Nat.lt_of_lt_of_le (Heap.lt_size (I.pin p hp).1) (by rw[z];exact hb)) (Nat.lt_irrefl _)
structure Turn (P:Program) (w:World) (K:PySem.W.Frag) (tg:Expr) (J:It) (fp:List Addr) (it:Addr) (tn:Nat->Heap->Prop):Prop where
 mem:it∈fp
 obj:∀i h,tn i h->∀b∈fp,∃o,h.get? b=some o/\∀v,o.data≠.cell v
 keep:∀i h h',tn i h->(∀b∈fp,∀o,h.get? b=some o->h'.get? b=some o)->tn i h'
 item:∀(X:Cx),X.prog=P->X.w=w->X.K=K->X.calm=true->∀(i:Nat) (pins:List (Addr×Obj)) (s:Shared) (σ:St) (H:Hp) (E:Value->Shared->Prop),Inv X pins σ H s->(∀b∈fp,sS X pins H b)->tn i s.heap->J.go i H ->
  wpAny (model P w) X.A (pyNext (.ref it)) (fun r s1=>∃u,r=some u /\
   wpAny (model P w) X.A (letOwnedTupleGo tg (.ref it) u) (fun _ s2=>∃x H',Inv X pins σ H' s2/\RelV x u/\J.yld i H x H'/\tn (i+1) s2.heap/\∀b∈fp,H' b=none) E s1) E s
 done:∀(X:Cx),X.prog=P->X.w=w->X.K=K->X.calm=true->∀(i:Nat) (pins:List (Addr×Obj)) (s:Shared) (σ:St) (H:Hp) (E:Value->Shared->Prop),Inv X pins σ H s->(∀b∈fp,sS X pins H b)->tn i s.heap->J.stop i H ->
  wpAny (model P w) X.A (pyNext (.ref it)) (fun r s1=>r=none/\Inv X pins σ H s1) E s
 self:∀(A:Around) (i:Nat) (s:Shared) (Q:Value->Shared->Prop) (E:Value->Shared->Prop),tn i s.heap->Q (.ref it) s->wpAny (model P w) A (pyIter (.ref it)) Q E s
abbrev TI:=St->Hp->(It->Hp->Prop)->Prop
def FL(X:Cx)(pins:List (Addr×Obj))(σ:St)(tg:Expr)(R:It->Hp->Prop)(itv:Value)(s2:Shared):Prop:=
 ∃(it:Addr) (fp:List Addr) (tn:Nat->Heap->Prop) (J:It) (H':Hp),itv=.ref it/\Inv X pins σ H' s2/\Turn X.prog X.w X.K tg J fp it tn/\tn 0 s2.heap/\(∀b∈fp,sS X pins H' b)/\R J H'
def PI(X:Cx)(tg iter:Expr)(wi:TI):Prop:=
 ∀(pins:List (Addr×Obj)) (s:Shared) (σ:St) (H:Hp) (R:It->Hp->Prop),Inv X pins σ H s->wi σ H R ->
  wpAny (model X.prog X.w) X.A (eval iter X.env) (fun v s1=>wpAny (model X.prog X.w) X.A (pyIter v) (FL X pins σ tg R) X.xe s1) X.xe s
theorem yD {M:Model} {A:Around} {E:Value->Shared->Prop} {s:Shared} {tg:Expr} {it:Addr} {u:Value} {o:Obj} {n:String} {vs:Array Value} {Q:Unit->Shared->Prop} (ho:s.heap.get? it=some o) (hc:o.cls=.type n) (hd:o.data=.fields vs)
    (hn:["enumerate","zip","dict_itemiterator","dict_reverseitemiterator","odict_iterator","itertools.zip_longest","itertools.pairwise"].contains n=false) (hQ:Q () s):wpAny M A (letOwnedTupleGo tg (.ref it) u) Q E s:=by
  unfold letOwnedTupleGo
  cases tg<;>first
    | exact wpAny_pure hQ
    | (cases u<;>first
        | exact wpAny_pure hQ
        | (refine wpAny_bind (wpAny_load ho ?_)
           rw[hc,hd]
           show wpAny M A (if (["enumerate","zip","dict_itemiterator","dict_reverseitemiterator","odict_iterator","itertools.zip_longest","itertools.pairwise"].contains n&&vs[0]?==some (rawInt _))=true then _ else _) Q E s
           rw[if_neg (by intro h;rw[hn,Bool.false_and] at h;cases h)]
           exact wpAny_pure hQ))
def EL(K:PySem.W.Frag)(a:Addr):It:=
 ⟨fun i H=>∃xs x,qM K H a xs/\xs[i]?=some x,fun i H x H'=>H'=H/\∀xs,qM K H a xs->xs[i]?=some x,fun i H=>∃xs,qM K H a xs/\xs.length<=i⟩
def FI(K:PySem.W.Frag)(a:Addr):It:=
 ⟨fun i H=>∃xs x,q8 K H a xs/\xs[i]?=some x,fun i H x H'=>H'=H/\∀xs,q8 K H a xs->xs[i]?=some x,fun i H=>∃xs,q8 K H a xs/\xs.length<=i⟩
def Es(lo:Int)(n:Nat):It:=⟨fun i _=>i<n,fun i H x H'=>H'=H/\x=.int (lo+i),fun i _=>n<=i⟩
theorem yP{P:Program}{w:World}{K:PySem.W.Frag}{tg:Expr}(a it:Addr):Turn P w K tg (EL K a) [it] it (fun i h=>h.IsListIter it a i) where
 mem:=by simp
 obj:=fun i h st b hb=>by
  have e:b=it:=by simpa using hb
  subst e
  obtain⟨o,e,c,d⟩:=st
  exact⟨o,e,fun v z=>by rw[d] at z;cases z⟩
 keep:=fun i h h' st k=>st.at fun o e=>k it (by simp) o e
 item:=by
  intro X hP hw hK hc i pins s σ H E I hf st hg
  subst hP hw hK
  obtain⟨xs,x,hq,hx⟩:=hg
  obtain⟨its,rv,p,hz⟩:=I.list hq
  obtain⟨u,hu,ru⟩:=rv.get hx
  obtain⟨f0,f1,f2,f3,f4,f5⟩:=hf it (by simp)
  refine wpAny_pyNext_list_item st p.isList (x:=u) (by simpa using hu) fun h' st' sb=>?_
  have I1:Inv X pins σ H {s with heap:=h' }:=I.turned (t':=s.toks) (fun b o hb e=>(sb.2 b hb).trans e) f0 f1 f3 f4 f5
  obtain⟨o,e,c,d⟩:=id st'
  exact⟨u,rfl,yD (s:={s with heap:=h' }) e c d (by decide) ⟨x,H,I1,ru,⟨rfl,fun ys hy=>by rw[I.list_inj hy hq];exact hx⟩,st',fun b hb=>(hf b hb).1⟩⟩
 done:=by
  intro X hP hw hK hc i pins s σ H E I hf st hg
  subst hP hw hK
  obtain⟨xs,hq,hx⟩:=hg
  obtain⟨its,rv,p,hz⟩:=I.list hq
  obtain⟨f0,f1,f2,f3,f4,f5⟩:=hf it (by simp)
  have hl:=rv.length
  exact wpAny_pyNext_list_end (I.ok.hd hc) st p.isList (by simp;omega) fun h' eb=>⟨rfl,I.turned (t':=s.toks) (fun b o hb e=>eb b o hb e) f0 f1 f3 f4 f5⟩
 self:=fun _ _ _ _ _ st h=>wpAny_pyIter_listiter st h
theorem xR{P:Program}{w:World}{K:PySem.W.Frag}{tg:Expr}(a it:Addr):Turn P w K tg (FI K a) [it] it (fun i h=>h.IsTupleIter it a i) where
 mem:=by simp
 obj:=fun i h st b hb=>by
  have e:b=it:=by simpa using hb
  subst e
  obtain⟨o,e,c,d⟩:=st
  exact⟨o,e,fun v z=>by rw[d] at z;cases z⟩
 keep:=fun i h h' st k=>st.at fun o e=>k it (by simp) o e
 item:=by
  intro X hP hw hK hc i pins s σ H E I hf st hg
  subst hP hw hK
  obtain⟨xs,x,hq,hx⟩:=hg
  obtain⟨its,rv,p,hz⟩:=I.tuple hq
  obtain⟨u,hu,ru⟩:=rv.get hx
  obtain⟨f0,f1,f2,f3,f4,f5⟩:=hf it (by simp)
  refine wpAny_pyNext_tuple_item st (show s.heap.IsTuple a its.toArray from p) (x:=u) (by simpa using hu) fun h' st' sb=>?_
  have I1:Inv X pins σ H {s with heap:=h' }:=I.turned (t':=s.toks) (fun b o hb e=>(sb.2 b hb).trans e) f0 f1 f3 f4 f5
  obtain⟨o,e,c,d⟩:=id st'
  exact⟨u,rfl,yD (s:={s with heap:=h' }) e c d (by decide) ⟨x,H,I1,ru,⟨rfl,fun ys hy=>by rw[I.tuple_inj hy hq];exact hx⟩,st',fun b hb=>(hf b hb).1⟩⟩
 done:=by
  intro X hP hw hK hc i pins s σ H E I hf st hg
  subst hP hw hK
  obtain⟨xs,hq,hx⟩:=hg
  obtain⟨its,rv,p,hz⟩:=I.tuple hq
  obtain⟨f0,f1,f2,f3,f4,f5⟩:=hf it (by simp)
  have hl:=rv.length
  exact wpAny_pyNext_tuple_end (I.ok.hd hc) st (show s.heap.IsTuple a its.toArray from p) (by simp;omega) fun h' eb=>⟨rfl,I.turned (t':=s.toks) (fun b o hb e=>eb b o hb e) f0 f1 f3 f4 f5⟩
 self:=fun _ _ _ _ _ st h=>wpAny_pyIter_tupleiter st h
theorem xN{P:Program}{w:World}{K:PySem.W.Frag}{tg:Expr}(it:Addr)(lo:Int)(n:Nat):Turn P w K tg (Es lo n) [it] it (fun i h=>IsRangeIter h it (lo+(i:Nat)*1) ((n:Int) - (i:Nat)) 1) where
 mem:=by simp
 obj:=fun i h st b hb=>by
  have e:b=it:=by simpa using hb
  subst e
  exact⟨_,st,fun v z=>by
   have z':Data.fields _=Data.cell v:=z
   cases z'⟩
 keep:=fun i h h' st k=>k it (by simp) _ st
 item:=by
  intro X hP hw hK hc i pins s σ H E I hf st hg
  subst hP hw hK
  obtain⟨f0,f1,f2,f3,f4,f5⟩:=hf it (by simp)
  have W:=Walks.range (prog:=X.prog) (w:=X.w) (I.ok.hd hc) it lo 1 n
  refine W.item i s _ _ hg st fun v h' tk hv st' kk=>?_
  obtain⟨t,rfl⟩:=hv
  have I1:Inv X pins σ H {s with heap:=h',toks:=tk}:=I.turned (fun b o hb e=>kk b o (by simpa using hb) e) f0 f1 f3 f4 f5
  refine⟨_,rfl,yD (s:={s with heap:=h',toks:=tk}) (n:="range_iterator") st' rfl rfl (by decide) ⟨.int (lo+i),H,I1,⟨t,?_⟩,⟨rfl,rfl⟩,st',fun b hb=>(hf b hb).1⟩⟩
  rw[Int.mul_one]
 done:=by
  intro X hP hw hK hc i pins s σ H E I hf st hg
  subst hP hw hK
  obtain⟨f0,f1,f2,f3,f4,f5⟩:=hf it (by simp)
  exact wpAny_pyNext_range_end (I.ok.hd hc) st (by have:n<=i:=hg;omega) fun h' eb=>⟨rfl,I.turned (t':=s.toks) (fun b o hb e=>eb b o hb e) f0 f1 f3 f4 f5⟩
 self:=fun _ _ _ _ _ st h=>wpAny_pyIter_rangeiter st h
end L2
namespace L2
open PySem PySem.Spec PyProof.Rows
section
variable{X:Cx}{tg:Expr}
theorem zE{pins:List (Addr×Obj)}{σ:St}{H:Hp}{s:Shared}{R:It->Hp->Prop}{E:Value->Shared->Prop}{lo hi:Int}{t u v:Tok}{tk:Nat}(I:Inv X pins σ H s)(h1 : -(2 ^ 62)<=lo)(h2:lo<2 ^ 62)(h3 : -(2 ^ 62)<=hi)(h4:hi<2 ^ 62)
  (q:R (Es lo (hi - lo).toNat) H):wpAny (model X.prog X.w) X.A (pyIter (.ref s.heap.objs.size)) (FL X pins σ tg R) E {s with heap:=s.heap.push {cls:=.type "range",data:=.fields #[.int lo t,.int hi u,.int 1 v]},toks:=tk}:=by
 refine wpAny_pyIter_range (IsRange.new ..) (small_one h1 h2 h3 h4) ?_
 have I1:Inv X pins σ H {s with heap:=s.heap.push {cls:=.type "range",data:=.fields #[.int lo t,.int hi u,.int 1 v]},toks:=tk}:=I.kept fun b o e=>Heap.get?_push_of_some _ e
 refine⟨(s.heap.push {cls:=.type "range",data:=.fields #[.int lo t,.int hi u,.int 1 v]}).objs.size,[(s.heap.push {cls:=.type "range",data:=.fields #[.int lo t,.int hi u,.int 1 v]}).objs.size],_,_,H,rfl,
  I1.kept (t':=tk) fun b o e=>Heap.get?_push_of_some _ e,xN _ lo (hi - lo).toNat,?_,fun b hb=>?_,q⟩
 ·have e1:lo+((0:Nat):Int)*1=lo:=by simp
  have e2:(((hi - lo).toNat:Nat):Int) - ((0:Nat):Int)=Builtin.Range.rangeSize lo hi 1:=by rw[rangeSize_one];split<;>omega
  show IsRangeIter _ _ (lo+((0:Nat):Int)*1) ((((hi - lo).toNat:Nat):Int) - ((0:Nat):Int)) 1
  rw[e1,e2]
  exact Heap.get?_push_size _ rfl
 ·have e:b=(s.heap.push {cls:=.type "range",data:=.fields #[.int lo t,.int hi u,.int 1 v]}).objs.size:=by simpa using hb
  subst e
  exact I1.fpOk (Nat.le_refl _) (I1.hok.fresh (Nat.le_refl _))
def DZ(ta:TA):TI:=fun σ H R=>ta σ H fun vs H1=>∃j:Int,vs=[.int j] /\ -(2 ^ 62)<=j/\j<2 ^ 62/\R (Es 0 j.toNat) H1
theorem kF{a:Expr}{ta:TA}{p pos:Pos}(hg:Gl X "range")(hm:X.mg "range" = none)(ha:PA X [a] ta)(hs:starEach [a] X.env=[(false,eval a X.env)]:=by rfl):PI X tg (.Call (.Name "range" p) [a] [] pos) (DZ ta):=by
 intro pins s σ H R I h
 refine Call_ (bJ I hg hm boot_range (PyProof.Rows.callWith_type1 (oy (ha pos pins s σ H _ I h) fun us s1 ⟨vs,H1,I1,r1,q1⟩=>?_) hs rfl))
 obtain⟨j,e,q1,q2,q⟩:=q1
 subst e
 cases r1 with
 | cons r rr =>
  cases rr
  obtain⟨t,rfl⟩:=r
  exact call_range_1 (zE I1 (by omega) (by omega) q1 q2 (by simpa using q))
def Fu(wi:TI)(g:TG)(tb:TS):TS:=fun D σ H=>wi σ H fun J H1=>∃W:Nat->Nat->St->Hp->Prop,(∃m,W 0 m σ H1)/\∀i m σ H,W i m σ H ->
 (J.stop i H/\D.nx σ H)\/(J.go i H/\∃N:St->Hp->Prop,(∀ σ' H',N σ' H'->∃m',m'<m/\W (i+1) m' σ' H')/\∀x H',J.yld i H x H'->g x σ H' fun σ2 H2=>tb {D with nx:=N,ct:=N,bk:=D.nx} σ2 H2)
def sw(fp:List Addr)(h:Heap):List (Addr×Obj):=fp.filterMap fun b=>(h.get? b).map fun o=>(b,o)
theorem cn{fp:List Addr}{h:Heap}{b:Addr}{o:Obj}(hb:b∈fp)(e:h.get? b=some o):(b,o)∈sw fp h:=List.mem_filterMap.mpr ⟨b,hb,by rw[e];rfl⟩
theorem vt{fp:List Addr}{h:Heap}{p:Addr×Obj}(hp:p∈sw fp h):p.1∈fp/\h.get? p.1=some p.2:=by
 obtain⟨b,hb,e⟩:=List.mem_filterMap.mp hp
 cases q:h.get? b with
 | none=>rw[q] at e;cases e
 | some o =>
  rw[q] at e
  have e':(b,o)=p:=Option.some.inj e
  subst e'
  exact⟨hb,q⟩
theorem Inv.pinned{pins:List (Addr×Obj)}{σ:St}{H:Hp}{s:Shared}{fp:List Addr}(I:Inv X pins σ H s)(hf:∀b∈fp,sS X pins H b)(ho:∀b∈fp,∃o,s.heap.get? b=some o/\∀v,o.data≠.cell v):Inv X (pins++sw fp s.heap) σ H s:=
 I.pins_of fun p hp=>(List.mem_append.mp hp).elim (fun z=>I.pin p (List.mem_append_right _ z)) fun z=>by
  obtain⟨hb,e⟩:=vt z
  obtain⟨f0,f1,f2,_⟩:=hf p.1 hb
  obtain⟨o,e',d⟩:=ho p.1 hb
  rw[e] at e';cases e'
  exact⟨e,f0,f1,f2,d⟩
theorem Inv.unpinned{pins pl:List (Addr×Obj)}{σ:St}{H:Hp}{s:Shared}(I:Inv X (pins++pl) σ H s):Inv X pins σ H s:=I.pins_of fun p hp=>I.pin p (List.mem_append_right _ (List.mem_append_left _ hp))
theorem kY{iter:Expr}{body:List Stmt}{wi:TI}{g:TG}{tb:TS}{pos:Pos}(hp:PassesOwn (model X.prog X.w) X.A X.env X.xe)(hc:X.calm=true)(hi:PI X tg iter wi)(hg:PG X tg g)(hb:PSs X body tb)
  (hs:∀x,foldedSetIterable iter X.env x=pure x:=by intro _;rfl):PS X (.For tg iter body [] pos) (Fu wi g tb):=by
 intro pins s σ H D I h
 refine wpAny_For (oy (hi pins s σ H _ I h) fun v s1 h1=>oy h1 fun itv s2 h2=>?_) hs
 obtain⟨it,fp,tn,J,H2,e,I2,T,st2,f2,W,⟨m0,w0⟩,turn⟩:=h2
 subst e
 have stat:∀{H':Hp},(∀b∈fp,H' b=none)->∀b∈fp,sS X pins H' b:=fun hn b hb=>⟨hn b hb,(f2 b hb).2⟩
 refine codeAny_forLoop_any (fun n s'=>∃i σ' H',Inv X pins σ' H' s'/\tn i s'.heap/\(∀b∈fp,H' b=none)/\W i n σ' H') ?_ m0 ⟨0,σ,H2,I2,st2,fun b hb=>(f2 b hb).1,w0⟩
 rintro n s3 ⟨i,σ3,H3,I3,st3,fr3,w3⟩
 rcases turn i n σ3 H3 w3 with ⟨stop,qn⟩ | ⟨go,N,hN,step⟩
 ·refine wpAny_passesOwn hp (oy (T.done X rfl rfl rfl hc i pins s3 σ3 H3 X.xe I3 (stat fr3) st3 stop) fun r s4 ⟨hr,I4⟩=>?_)
  subst hr
  exact wpAny_execs_nil ⟨σ3,H3,I4,qn⟩
 ·refine wpAny_passesOwn hp (oy (T.item X rfl rfl rfl hc i pins s3 σ3 H3 X.xe I3 (stat fr3) st3 go) fun r s4 ⟨u,hr,h4⟩=>?_)
  subst hr
  refine wpAny_passesOwn hp (oy h4 fun _ s5 ⟨x,H5,I5,r5,y5,st5,fr5⟩=>?_)
  have I5':=I5.pinned (stat fr5) (T.obj _ _ st5)
  refine wpAny_passesOwn hp (oy (hg _ s5 σ3 H5 x u _ I5' r5 (step x H5 y5)) fun _ s6 ⟨σ6,H6,I6,q6⟩=>?_)
  refine wpAny_passesOwn hp (oy (hb _ s6 σ6 H6 _ I6 q6) fun f s7 q7=>?_)
  have again:∀{σ7:St} {H7:Hp},Inv X (pins++sw fp s5.heap) σ7 H7 s7->N σ7 H7->∃m,m<n/\∃i σ' H',Inv X pins σ' H' s7/\tn i s7.heap/\(∀b∈fp,H' b=none)/\W i m σ' H':=fun {σ7 H7} I7 n7=>by
   obtain⟨m',hm,w7⟩:=hN σ7 H7 n7
   refine⟨m',hm,i+1,σ7,H7,I7.unpinned,T.keep _ _ _ st5 fun b hb o e=>(I7.pin (b,o) (List.mem_append_right _ (List.mem_append_right _ (cn hb e)))).1,fun b hb=>?_,w7⟩
   obtain⟨o,e,d⟩:=T.obj _ _ st5 b hb
   exact(I7.pin (b,o) (List.mem_append_right _ (List.mem_append_right _ (cn hb e)))).2.1
  cases f with
  | next=>obtain⟨σ7,H7,I7,n7⟩:=q7;exact again I7 n7
  | cont=>obtain⟨σ7,H7,I7,n7⟩:=q7;exact again I7 n7
  | brk=>obtain⟨σ7,H7,I7,q7⟩:=q7;exact⟨σ7,H7,I7.unpinned,q7⟩
  | ret v=>obtain⟨x7,σ7,H7,I7,r7,q7⟩:=q7;exact⟨x7,σ7,H7,I7.unpinned,r7,q7⟩
end
end L2
namespace L2
open PySem PySem.Spec PyProof.Rows
abbrev R2:=V->V->Hp->VK->Prop
def OpR(X:Cx)(f:Value->Value->Sem Value)(r:R2):Prop:=
 ∀(pins:List (Addr×Obj)) (s:Shared) (σ:St) (H:Hp) (x y:V) (v u:Value) (Q:VK),Inv X pins σ H s->RelV x v->RelV y u->r x y H Q ->
  wpAny (model X.prog X.w) X.A (f v u) (EP X pins σ Q) X.xe s
def UnR(X:Cx)(f:Value->Sem Value)(r:V->Hp->VK->Prop):Prop:=
 ∀(pins:List (Addr×Obj)) (s:Shared) (σ:St) (H:Hp) (x:V) (v:Value) (Q:VK),Inv X pins σ H s->RelV x v->r x H Q ->
  wpAny (model X.prog X.w) X.A (f v) (EP X pins σ Q) X.xe s
def CallR(X:Cx)(f:Value)(r:List V->Hp->VK->Prop):Prop:=
 ∀(pins:List (Addr×Obj)) (s:Shared) (σ:St) (H:Hp) (xs:List V) (us:List Value) (Q:VK),Inv X pins σ H s->m9 xs us->r xs H Q ->
  wpAny (model X.prog X.w) X.A (call f us) (EP X pins σ Q) X.xe s
def E4(X:Cx)(r:V->Hp->(Bool->Hp->Prop)->Prop):Prop:=
 ∀(pins:List (Addr×Obj)) (s:Shared) (σ:St) (H:Hp) (x:V) (v:Value) (Q:Bool->Hp->Prop),Inv X pins σ H s->RelV x v->r x H Q ->
  wpAny (model X.prog X.w) X.A (truthy v) (TP X pins σ Q) X.xe s
def EK(r:R2)(ta tb:TE):TE:=fun σ H Q=>ta σ H fun x H1=>tb σ H1 fun y H2=>r x y H2 Q
def GE(r:V->Hp->VK->Prop)(ta:TE):TE:=fun σ H Q=>ta σ H fun x H1=>r x H1 Q
def rI(C:Int->Int->Prop)(g:Int->Int->V):R2:=fun x y H Q=>∃i j,x=.int i/\y=.int j/\C i j/\Q (g i j) H
def Bq(g:Int->Int->V):R2:=fun x y H Q=>∃i j,x=.int i/\y=.int j/\Q (g i j) H
def rU(g:Int->V):V->Hp->VK->Prop:=fun x H Q=>∃i,x=.int i/\Q (g i) H
section
variable{X:Cx}{a b c:Expr}{ta tb tc:TE}{pos:Pos}
theorem Cc(ha:PE X a ta)(hb:PE X b tb){pins:List (Addr×Obj)}{s:Shared}{σ:St}{H:Hp}{R:V->V->Hp->Prop}(I:Inv X pins σ H s)
  (h:ta σ H fun x H1=>tb σ H1 fun y H2=>R x y H2) {Q:Value->Shared->Prop} {f:Value->Value->Sem Value}
  (hf:∀v u s2 x y H2,Inv X pins σ H2 s2->RelV x v->RelV y u->R x y H2->wpAny (model X.prog X.w) X.A (f v u) Q X.xe s2) :
  wpAny (model X.prog X.w) X.A (eval a X.env) (fun v s₁=>wpAny (model X.prog X.w) X.A (eval b X.env) (fun u s₂=>wpAny (model X.prog X.w) X.A (f v u) Q X.xe s₂) X.xe s₁) X.xe s:=by
 refine oy (ha pins s σ H _ I h) fun v s1 ⟨x,H1,I1,r1,q1⟩=>?_
 refine oy (hb pins s1 σ H1 _ I1 q1) fun u s2 ⟨y,H2,I2,r2,q2⟩=>?_
 exact hf v u s2 x y H2 I2 r1 r2 q2
theorem nk{op:Operator}{r:R2}(ho:OpR X (binaryOp op) r)(ha:PE X a ta)(hb:PE X b tb):PE X (.BinOp a op b pos) (EK r ta tb):=by
 intro pins s σ H Q I h
 exact wpAny_BinOp (Cc ha hb I h fun v u s2 x y H2 I2 rx ry q=>ho pins s2 σ H2 x y v u Q I2 rx ry q)
theorem nB{op:UnaryOp}{r:V->Hp->VK->Prop}(ho:UnR X (unaryOp op) r)(ha:PE X a ta):PE X (.UnaryOp op a pos) (GE r ta):=by
 intro pins s σ H Q I h
 exact UnaryOp_ (oy (ha pins s σ H _ I h) fun v s1 ⟨x,H1,I1,r1,q1⟩=>ho pins s1 σ H1 x v Q I1 r1 q1)
theorem Fx{f:Value->Value->Sem Value}{C:Int->Int->Prop}{g:Int->Int->Int}
  (rule:∀(i j:Int) (t u:Tok) (s:Shared) (Q:Value->Shared->Prop) (E:Value->Shared->Prop),C i j->Q (.int (g i j) s.toks) {s with toks:=s.toks+1}->wpAny (model X.prog X.w) X.A (f (.int i t) (.int j u)) Q E s) :
  OpR X f (rI C fun i j=>.int (g i j)):=by
 intro pins s σ H x y v u Q I rx ry h
 obtain⟨i,j,rfl,rfl,hc,q⟩:=h
 obtain⟨t,rfl⟩:=rx
 obtain⟨t',rfl⟩:=ry
 exact rule i j t t' s _ _ hc ⟨.int (g i j),H,I.tok _,⟨_,rfl⟩,q⟩
theorem DE{f:Value->Value->Sem Value}{g:Int->Int->Int}
  (rule:∀(i j:Int) (t u:Tok) (s:Shared) (Q:Value->Shared->Prop) (E:Value->Shared->Prop),Q (.int (g i j) s.toks) {s with toks:=s.toks+1}->wpAny (model X.prog X.w) X.A (f (.int i t) (.int j u)) Q E s) :
  OpR X f (Bq fun i j=>.int (g i j)):=by
 intro pins s σ H x y v u Q I rx ry h
 obtain⟨i,j,rfl,rfl,q⟩:=h
 obtain⟨t,rfl⟩:=rx
 obtain⟨t',rfl⟩:=ry
 exact rule i j t t' s _ _ ⟨.int (g i j),H,I.tok _,⟨_,rfl⟩,q⟩
theorem A0{f:Value->Value->Sem Value}{g:Int->Int->Bool}
  (rule:∀(i j:Int) (t u:Tok) (s:Shared) (Q:Value->Shared->Prop) (E:Value->Shared->Prop),Q (.bool (g i j)) s->wpAny (model X.prog X.w) X.A (f (.int i t) (.int j u)) Q E s) :
  OpR X f (Bq fun i j=>.bl (g i j)):=by
 intro pins s σ H x y v u Q I rx ry h
 obtain⟨i,j,rfl,rfl,q⟩:=h
 obtain⟨t,rfl⟩:=rx
 obtain⟨t',rfl⟩:=ry
 exact rule i j t t' s _ _ ⟨.bl (g i j),H,I,rfl,q⟩
def Fc(i j:Int):Prop:=0<j/\j<1073741824
def Co(i j:Int):Prop:=(-(2 ^ 64)<i/\i<2 ^ 64)\/(-(2 ^ 64)<j/\j<2 ^ 64)
theorem Co.ok{i j:Int}(h:Co i j):IntMulOk i j:=by
 rcases h with ⟨h1,h2⟩ | ⟨h1,h2⟩
 ·exact .of_left (intBits_le_64 h1 h2)
 ·exact .of_right (intBits_le_64 h1 h2)
theorem CM:OpR X (binaryOp .Add) (Bq fun i j=>.int (i+j)):=DE fun _ _ _ _ _ _ _ q=>add_int q
theorem CB:OpR X (binaryOp .Sub) (Bq fun i j=>.int (i - j)):=DE fun _ _ _ _ _ _ _ q=>sub_int q
theorem CT:OpR X (binaryOp .Mult) (rI Co fun i j=>.int (i*j)):=Fx fun _ _ _ _ _ _ _ hc q=>mul_int q hc.ok
theorem AY:OpR X (binaryOp .FloorDiv) (rI Fc fun i j=>.int (i / j)):=Fx fun i j _ _ _ _ _ hc q=>by
 have h1:(0:Int)<j:=hc.1
 have h2:j<1073741824:=hc.2
 exact floordiv_int (by omega) (by rw[Int.fdiv_eq_ediv_of_nonneg i (by omega)];exact q) (.inl (PyProof.noPylong_small (by omega)))
theorem Ce:OpR X (binaryOp .Mod) (rI (fun _ j=>0<j) fun i j=>.int (i%j)):=Fx fun i j _ _ _ _ _ hc q=>by
 have h1:(0:Int)<j:=hc
 exact mod_int' (by omega) (by rw[Int.fmod_eq_emod_of_nonneg i (by omega)];exact q)
theorem GJ{f:Value->Sem Value}{g:Int->Int}
  (rule:∀(i:Int) (t:Tok) (s:Shared) (Q:Value->Shared->Prop) (E:Value->Shared->Prop),Q (.int (g i) s.toks) {s with toks:=s.toks+1}->wpAny (model X.prog X.w) X.A (f (.int i t)) Q E s) :
  UnR X f (rU fun i=>.int (g i)):=by
 intro pins s σ H x v Q I rx h
 obtain⟨i,rfl,q⟩:=h
 obtain⟨t,rfl⟩:=rx
 exact rule i t s _ _ ⟨.int (g i),H,I.tok _,⟨_,rfl⟩,q⟩
theorem Di:UnR X (unaryOp .USub) (rU fun i=>.int (-i)):=GJ fun _ _ _ _ _ q=>neg_int q
end
def A7:V->V->Bool
 | .non,.non=>true | .non,.int _=>true | .int _,.non=>true | .non,.bl _=>true | .bl _,.non=>true | .non,.str _=>true | .str _,.non=>true
 | .int _,.int _=>true | .bl _,.bl _=>true | .str _,.str _=>true | .byt _,.byt _=>true
 | .int _,.str _=>true | .str _,.int _=>true | .bl _,.str _=>true | .str _,.bl _=>true
 | _,_=>false
def GI:R2:=fun x y H Q=>A7 x y=true/\Q (.bl (decide (x=y))) H
def GF:R2:=fun x y H Q=>A7 x y=true/\Q (.bl (!decide (x=y))) H
theorem uo{i j:Int}:decide (V.int i=V.int j)=(i==j):=by
 rw[Bool.eq_iff_iff]
 simp
theorem wm{i j:Bool}:decide (V.bl i=V.bl j)=(i==j):=by
 rw[Bool.eq_iff_iff]
 simp
theorem ug{i j:Str}:decide (V.str i=V.str j)=(i==j):=by
 rw[Bool.eq_iff_iff]
 simp
theorem yp{i j:Array UInt8}:decide (V.byt i=V.byt j)=(i.toList==j.toList):=by
 rw[Bool.eq_iff_iff]
 cases i
 cases j
 simp
section
variable{X:Cx}{a b c:Expr}{ta tb tc:TE}{pos:Pos}
theorem nO{pins:List (Addr×Obj)}{σ:St}{H:Hp}{s:Shared}{Q:VK}{k k':Bool}(I:Inv X pins σ H s)(q:Q (.bl k) H)(e:k=k'):EP X pins σ Q (.bool k') s:=by
 subst e
 exact⟨.bl k,H,I,rfl,q⟩
theorem DQ:OpR X (compareOp .Eq) GI:=by
 intro pins s σ H x y v u Q I rx ry h
 obtain⟨hs,q⟩:=h
 cases x with
 | non =>
  cases rx
  cases y with
  | non=>cases ry;exact PySem.EqNone.eq_none_none (nO I q (by simp))
  | bl j=>cases ry;exact PySem.EqNone.eq_none_bool (nO I q (by simp))
  | int j=>obtain⟨t',rfl⟩:=ry;exact PySem.EqNone.eq_none_int (nO I q (by simp))
  | str j=>obtain⟨t',rfl⟩:=ry;exact PySem.EqNone.eq_none_str (nO I q (by simp))
  | _=>exact absurd (show false=true from hs) Bool.false_ne_true
 | bl i =>
  cases rx
  cases y with
  | non=>cases ry;exact PySem.EqNone.eq_bool_none (nO I q (by simp))
  | bl j=>cases ry;exact eq_bool (nO I q wm)
  | str j=>obtain⟨t',rfl⟩:=ry;exact PySem.EqMixed.eq_bool_str (nO I q (by simp))
  | _=>exact absurd (show false=true from hs) Bool.false_ne_true
 | int i =>
  obtain⟨t,rfl⟩:=rx
  cases y with
  | non=>cases ry;exact PySem.EqNone.eq_int_none (nO I q (by simp))
  | int j=>obtain⟨t',rfl⟩:=ry;exact eq_int (nO I q uo)
  | str j=>obtain⟨t',rfl⟩:=ry;exact PySem.EqMixed.eq_int_str (nO I q (by simp))
  | _=>exact absurd (show false=true from hs) Bool.false_ne_true
 | str i =>
  obtain⟨t,rfl⟩:=rx
  cases y with
  | non=>cases ry;exact PySem.EqNone.eq_str_none (nO I q (by simp))
  | bl j=>cases ry;exact PySem.EqMixed.eq_str_bool (nO I q (by simp))
  | int j=>obtain⟨t',rfl⟩:=ry;exact PySem.EqMixed.eq_str_int (nO I q (by simp))
  | str j=>obtain⟨t',rfl⟩:=ry;exact eq_str (nO I q ug)
  | _=>exact absurd (show false=true from hs) Bool.false_ne_true
 | byt i =>
  obtain⟨t,rfl⟩:=rx
  cases y with
  | byt j=>obtain⟨t',rfl⟩:=ry;exact PySem.W.eq_bytes (nO I q yp)
  | _=>exact absurd (show false=true from hs) Bool.false_ne_true
 | _=>cases y<;>exact absurd (show false=true from hs) Bool.false_ne_true
theorem Ec:OpR X (compareOp .NotEq) GF:=by
 intro pins s σ H x y v u Q I rx ry h
 obtain⟨hs,q⟩:=h
 cases x with
 | non =>
  cases rx
  cases y with
  | non=>cases ry;exact PySem.EqNone.ne_none_none (nO I q (by simp))
  | bl j=>cases ry;exact PySem.EqNone.ne_none_bool (nO I q (by simp))
  | int j=>obtain⟨t',rfl⟩:=ry;exact PySem.EqNone.ne_none_int (nO I q (by simp))
  | str j=>obtain⟨t',rfl⟩:=ry;exact PySem.EqNone.ne_none_str (nO I q (by simp))
  | _=>exact absurd (show false=true from hs) Bool.false_ne_true
 | bl i =>
  cases rx
  cases y with
  | non=>cases ry;exact PySem.EqNone.ne_bool_none (nO I q (by simp))
  | bl j=>cases ry;exact ne_bool (nO I q (congrArg not wm))
  | str j=>obtain⟨t',rfl⟩:=ry;exact PySem.EqMixed.ne_bool_str (nO I q (by simp))
  | _=>exact absurd (show false=true from hs) Bool.false_ne_true
 | int i =>
  obtain⟨t,rfl⟩:=rx
  cases y with
  | non=>cases ry;exact PySem.EqNone.ne_int_none (nO I q (by simp))
  | int j=>obtain⟨t',rfl⟩:=ry;exact ne_int (nO I q (congrArg not uo))
  | str j=>obtain⟨t',rfl⟩:=ry;exact PySem.EqMixed.ne_int_str (nO I q (by simp))
  | _=>exact absurd (show false=true from hs) Bool.false_ne_true
 | str i =>
  obtain⟨t,rfl⟩:=rx
  cases y with
  | non=>cases ry;exact PySem.EqNone.ne_str_none (nO I q (by simp))
  | bl j=>cases ry;exact PySem.EqMixed.ne_str_bool (nO I q (by simp))
  | int j=>obtain⟨t',rfl⟩:=ry;exact PySem.EqMixed.ne_str_int (nO I q (by simp))
  | str j=>obtain⟨t',rfl⟩:=ry;exact ne_str (nO I q (congrArg not ug))
  | _=>exact absurd (show false=true from hs) Bool.false_ne_true
 | byt i =>
  obtain⟨t,rfl⟩:=rx
  cases y with
  | byt j=>obtain⟨t',rfl⟩:=ry;exact PySem.W.ne_bytes (nO I q (congrArg not yp))
  | _=>exact absurd (show false=true from hs) Bool.false_ne_true
 | _=>cases y<;>exact absurd (show false=true from hs) Bool.false_ne_true
theorem DA:OpR X (compareOp .Lt) (Bq fun i j=>.bl (decide (i<j))):=A0 fun _ _ _ _ _ _ _ q=>lt_int q
theorem DW:OpR X (compareOp .LtE) (Bq fun i j=>.bl (decide (i<=j))):=A0 fun _ _ _ _ _ _ _ q=>le_int q
theorem DH:OpR X (compareOp .Gt) (Bq fun i j=>.bl (decide (j<i))):=A0 fun _ _ _ _ _ _ _ q=>gt_int q
theorem DT:OpR X (compareOp .GtE) (Bq fun i j=>.bl (decide (j<=i))):=A0 fun _ _ _ _ _ _ _ q=>ge_int q
theorem Ct:OpR X (compareOp .Is) (fun x y H Q=>y=.non/\Q (.bl (decide (x=.non))) H):=by
 intro pins s σ H x y v u Q I rx ry h
 obtain⟨rfl,q⟩:=h
 cases ry
 refine is_none_gen (nO I q ?_)
 cases x<;>first
  | (cases rx;rfl)
  | (obtain⟨t,rfl⟩:=rx;rfl)
theorem AJ:OpR X (compareOp .IsNot) (fun x y H Q=>y=.non/\Q (.bl (!decide (x=.non))) H):=by
 intro pins s σ H x y v u Q I rx ry h
 obtain⟨rfl,q⟩:=h
 cases ry
 refine isnot_none_gen (nO I q ?_)
 cases x<;>first
  | (cases rx;rfl)
  | (obtain⟨t,rfl⟩:=rx;rfl)
theorem OpR.or{f:Value->Value->Sem Value}{r r':R2}(h:OpR X f r)(h':OpR X f r'):OpR X f (fun x y H Q=>r x y H Q\/r' x y H Q):=by
 intro pins s σ H x y v u Q I rx ry q
 rcases q with q | q
 ·exact h pins s σ H x y v u Q I rx ry q
 ·exact h' pins s σ H x y v u Q I rx ry q
theorem Aw(b:Expr){op:CmpOp}(h:op≠.In:=by decide)(h2:op≠.NotIn:=by decide):behindInMarks op b=false:=by
 have e1:(op==CmpOp.In)=false:=by cases op<;>first | rfl | exact absurd rfl h
 have e2:(op==CmpOp.NotIn)=false:=by cases op<;>first | rfl | exact absurd rfl h2
 cases b<;>simp[behindInMarks,e1,e2]
theorem lZ{op:CmpOp}{r:R2}(ho:OpR X (compareOp op) r)(ha:PE X a ta)(hb:PE X b tb)(hm:behindInMarks op b=false):PE X (.Compare a [op] [b] pos) (EK r ta tb):=by
 intro pins s σ H Q I h
 exact wpAny_Compare1 (Cc ha hb I h fun v u s2 x y H2 I2 rx ry q=>ho pins s2 σ H2 x y v u Q I2 rx ry q) hm
def BF(t:TE):TT:=fun σ H Q=>t σ H fun x H'=>∃k,x=.bl k/\Q k H'
theorem ma{op:CmpOp}{r:R2}(ho:OpR X (compareOp op) r)(ha:PE X a ta)(hb:PE X b tb)(hm:behindInMarks op b=false):PT X (.Compare a [op] [b] pos) (BF (EK r ta tb)):=by
 intro pins s σ H Q I h
 refine wpAny_isTrue_Compare1 (oy (ha pins s σ H _ I h) fun v s1 ⟨x,H1,I1,r1,q1⟩=>oy (hb pins s1 σ H1 _ I1 q1) fun u s2 ⟨y,H2,I2,r2,q2⟩ =>
  oy (ho pins s2 σ H2 x y v u _ I2 r1 r2 q2) fun c s3 ⟨z,H3,I3,r3,k,e,q3⟩=>?_) hm
 subst e
 cases r3
 exact wpAny_truthy_bool ⟨H3,I3,q3⟩
def Ac(r r':R2)(ta tb tc:TE):TE:=fun σ H Q=>ta σ H fun x H1=>tb σ H1 fun y H2=>r x y H2 fun z H3=>∃k,z=.bl k /\
 (if k=true then tc σ H3 fun w' H4=>r' y w' H4 Q else Q (.bl false) H3)
theorem kU{op op':CmpOp}{r r':R2}(ho:OpR X (compareOp op) r)(ho':OpR X (compareOp op') r')(ha:PE X a ta)(hb:PE X b tb)(hc:PE X c tc)
  (hm:lastMarks [op,op'] [b,c]=false:=by with_unfolding_all rfl):PT X (.Compare a [op,op'] [b,c] pos) (BF (Ac r r' ta tb tc)):=by
 intro pins s σ H Q I h
 refine isTrue_chain (oy (ha pins s σ H _ I h) fun v s1 ⟨x,H1,I1,r1,q1⟩=>test_link (oy (hb pins s1 σ H1 _ I1 q1) fun u s2 ⟨y,H2,I2,r2,q2⟩ =>
  oy (ho pins s2 σ H2 x y v u _ I2 r1 r2 q2) fun d s3 ⟨z,H3,I3,r3,k,e,q3⟩=>?_)) hm
 subst e
 cases r3
 refine wpAny_truthy_bool ?_
 cases k with
 | false =>
  obtain⟨k',e',q'⟩:=q3
  cases e'
  exact ite_ff ⟨H3,I3,q'⟩
 | true =>
  refine ite_tt (test_last (oy (hc pins s3 σ H3 _ I3 q3) fun w' s4 ⟨z',H4,I4,r4,q4⟩=>oy (ho' pins s4 σ H4 y z' u w' _ I4 r2 r4 q4) fun d' s5 ⟨z2,H5,I5,r5,k2,e2,q5⟩=>?_))
  subst e2
  cases r5
  exact wpAny_truthy_bool ⟨H5,I5,q5⟩
def CD(K:PySem.W.Frag)(x:V)(H:Hp)(k:Bool):Prop:=
 match x with
 | .non=>k=false
 | .bl b=>k=b
 | .int i=>k=(i != 0)
 | .str y=>y.length<=sizeLine/\k=((y.length:Int) != 0)
 | .byt y=>y.size<=sizeLine/\k=((y.size:Int) != 0)
 | .ref p=>(∃xs,qM K H p xs/\k=!xs.isEmpty)\/(∃xs,q8 K H p xs/\k=!xs.isEmpty)\/∃kvs,H p=some (.dK kvs)/\k=!kvs.isEmpty
 | _=>False
theorem xF{κ:Type}{kvs:List (κ×V)}{vs:List (κ×Value)}(r:KV kvs vs):(!vs.isEmpty)=!kvs.isEmpty:=by
 cases r<;>rfl
theorem uH{xs:List V}{its:List Value}(r:m9 xs its):(!its.toArray.isEmpty)=!xs.isEmpty:=by
 cases r<;>simp
theorem uz:(sizeLine:Nat)<2 ^ 63:=by rw[sizeLine_eq];decide
theorem Cg:E4 X (fun x H Q=>∃k,CD X.K x H k/\Q k H):=by
 intro pins s σ H x v Q I rx h
 obtain⟨k,e,q⟩:=h
 have hl:=uz
 have hs:sizeLine=16777216:=sizeLine_eq
 cases x with
 | non =>
  cases rx
  have e':k=false:=e
  subst e'
  exact truthy_none ⟨H,I,q⟩
 | bl b =>
  cases rx
  have e':k=b:=e
  subst e'
  exact wpAny_truthy_bool ⟨H,I,q⟩
 | int i =>
  obtain⟨t,rfl⟩:=rx
  have e':k=(i != 0):=e
  subst e'
  exact PySem.P.truthy_int ⟨H,I,q⟩
 | str y =>
  obtain⟨t,rfl⟩:=rx
  obtain⟨hy,e'⟩:y.length<=sizeLine/\k=((y.length:Int) != 0):=e
  subst e'
  exact PySem.P.truthy_str (by omega) ⟨H,I.tok _,q⟩
 | byt y =>
  obtain⟨t,rfl⟩:=rx
  obtain⟨hy,e'⟩:y.size<=sizeLine/\k=((y.size:Int) != 0):=e
  subst e'
  exact PySem.W.truthy_bytes (by omega) ⟨H,I.tok _,q⟩
 | ref p =>
  cases rx
  have e':(∃xs,qM X.K H p xs/\k=!xs.isEmpty)\/(∃xs,q8 X.K H p xs/\k=!xs.isEmpty)\/∃kvs,H p=some (.dK kvs)/\k=!kvs.isEmpty:=e
  rcases e' with ⟨xs,hx,e'⟩ | ⟨xs,hx,e'⟩ | ⟨kvs,hx,e'⟩
  ·subst e'
   obtain⟨its,r,pl,hz⟩:=I.list hx
   have hlen:=r.length
   exact wpAny_truthy_list pl.isList (by simp only[List.size_toArray];omega) ⟨H,I.tok _,by rw[uH r];exact q⟩
  ·subst e'
   obtain⟨its,r,pl,hz⟩:=I.tuple hx
   have hlen:=r.length
   exact truthy_tuple pl (by simp only[List.size_toArray];omega) ⟨H,I.tok _,by rw[uH r];exact q⟩
  ·subst e'
   obtain⟨hz,hS,vs,r,m⟩:kvs.length<=sizeLine/\(p==sysModules)=false/\∃vs,KV kvs vs/\s.heap.DictOf (uj X.prog X.w) p vs:=I.hok p _ hx
   have hlen:kvs.length=vs.length:=Paired.length r
   exact wpAny_truthy_dict hS m (by omega) ⟨H,I.tok _,by rw[xF r];exact q⟩
 | _=>exact(show False from e).elim
theorem kW(ha:PE X a ta)(he:∀whole,isTrue a X.env whole=(do let v <- whole;standAt a.pos;holding [v] (truthy v))) :
  PT X a (fun σ H Q=>ta σ H fun x H'=>∃k,CD X.K x H' k/\Q k H'):=by
 intro pins s σ H Q I h
 exact isTrue_plain (oy (ha pins s σ H _ I h) fun v s1 ⟨x,H1,I1,r1,q1⟩=>Cg pins s1 σ H1 x v Q I1 r1 q1) (he _)
theorem xV:OpR X (binaryOp .Add) (fun x y H Q=>∃i j,x=.str i/\y=.str j/\i.length+j.length<=sizeLine/\Q (.str (i++j)) H):=by
 intro pins s σ H x y v u Q I rx ry h
 obtain⟨i,j,rfl,rfl,hz,q⟩:=h
 obtain⟨t,rfl⟩:=rx
 obtain⟨t',rfl⟩:=ry
 exact add_str (fun t' tk=>⟨.str (i++j),H,I.tok _,⟨_,rfl⟩,q⟩) hz
theorem vals1{x:V}{us:List Value}(r:m9 [x] us):∃u,us=[u]/\RelV x u:=by
 cases r with
 | cons r1 r2=>cases r2;exact⟨_,rfl,r1⟩
theorem vals2{x y:V}{us:List Value}(r:m9 [x,y] us):∃u w',us=[u,w']/\RelV x u/\RelV y w':=by
 cases r with
 | cons r1 r2 =>
  cases r2 with
  | cons r3 r4=>cases r4;exact⟨_,_,rfl,r1,r3⟩
theorem kx(hc:X.calm=true):CallR X (.builtin "max") (fun xs H Q=>∃i j,xs=[.int i,.int j]/\Q (.int (if j > i then j else i)) H):=by
 intro pins s σ H xs us Q I r h
 obtain⟨i,j,rfl,q⟩:=h
 obtain⟨u,w',rfl,⟨t,rfl⟩,⟨t',rfl⟩⟩:=vals2 r
 refine max_two_ints (I.ok.hd hc) fun h' tk k=>⟨_,H,I.kept k,?_,q⟩
 by_cases hj:j > i
 ·rw[if_pos hj,if_pos hj];exact⟨_,rfl⟩
 ·rw[if_neg hj,if_neg hj];exact⟨_,rfl⟩
theorem yH:CallR X (.type "int") (fun xs H Q=>(∃i,xs=[.int i]/\Q (.int i) H)\/∃k,xs=[.bl k]/\Q (.int (if k then 1 else 0)) H):=by
 intro pins s σ H xs us Q I r h
 rcases h with ⟨i,rfl,q⟩ | ⟨k,rfl,q⟩
 ·obtain⟨u,rfl,t,rfl⟩:=vals1 r
  exact call_int_int ⟨.int i,H,I,⟨_,rfl⟩,q⟩
 ·obtain⟨u,rfl,r1⟩:=vals1 r
  cases r1
  exact call_int_bool ⟨.int (if k then 1 else 0),H,I.tok _,⟨_,rfl⟩,q⟩
end
end L2
namespace L2
open PySem PySem.Spec PyProof.Rows
section
variable{prog:Program}{w:World}{A:Around}{E:Value->Shared->Prop}{s:Shared}{K:PySem.W.Frag}{x dx C f:Addr}{mA:Str->Option Value}{name:Str}{v:Value}
end
section
variable{P:Program}{w:World}{H H':Hp}{h h':Heap}{a C dx:Addr}{fs fs':List (Str×V)}
end
structure FO (K:PySem.W.Frag) (C:Addr):Prop where
 pg:PySem.W.plainGet K C Str.empty=true
 hd:PySem.W.hasDictIn K C=true
 po:PySem.W.plainOver K C=true
 sa:PySem.W.findIn K (.ref C) "__setattr__" = some (some (.builtin "object.__setattr__"))
theorem FO.get{K:PySem.W.Frag}{C:Addr}(c:FO K C)(f:Str):PySem.W.plainGet K C f=true:=c.pg
structure pk (K:PySem.W.Frag) (C:Addr) (f:Str) (v:V) (u:Value):Prop where
 at_:PySem.W.findIn K (.ref C) f=some (some u)
 rel:RelV v u
 get:PySem.W.specialIn K u "__get__" = some none
 cp:PySem.W.copiedNames.contains f=false
structure DD (K:PySem.W.Frag) (C:Addr) (m:Str) (f:Addr):Prop where
 at_:PySem.W.findIn K (.ref C) m=some (some (.ref f))
 fn:PySem.W.isFn K (.ref f)=true
 kp:PySem.W.keepIn K (.ref f)=true
section
variable{X:Cx}{pins:List (Addr×Obj)}{σ:St}{H:Hp}{s:Shared}{a C dx:Addr}{fs:List (Str×V)}{f:Str}{v:V}{A:Around}{E:Value->Shared->Prop}
theorem Inv.made(I:Inv X pins σ H s):Inv X pins σ (upd (upd H s.heap.objs.size (.own (s.heap.objs.size+1))) (s.heap.objs.size+1) (.ins C s.heap.objs.size []))
  {s with heap:=(s.heap.push PySem.W.emptyDict).push (PySem.W.instObj C s.heap.objs.size)}:=by
 have e1:(s.heap.push PySem.W.emptyDict).get? s.heap.objs.size=some PySem.W.emptyDict:=Heap.get?_push_size s.heap rfl
 have e2:((s.heap.push PySem.W.emptyDict).push (PySem.W.instObj C s.heap.objs.size)).get? (s.heap.objs.size+1)=some (PySem.W.instObj C s.heap.objs.size):=by
  have:=Heap.get?_push_size (s.heap.push PySem.W.emptyDict) (o:=PySem.W.instObj C s.heap.objs.size) rfl
  rwa [Heap.size_push] at this
 have e3:(s.heap.push PySem.W.emptyDict).Ns s.heap.objs.size (fun _=>none):=⟨PySem.W.emptyDict,#[],_,e1,rfl,(fun e he=>absurd he (by simp)),fun _=>rfl⟩
 have I1:=I.laid (a:=s.heap.objs.size) (o:=.own (s.heap.objs.size+1)) (h':=s.heap.push PySem.W.emptyDict) (t':=s.toks) (fun b u q=>Heap.get?_push_of_some _ q) (Nat.le_refl _) ⟨_,e1⟩
 refine I1.laid (a:=s.heap.objs.size+1) (o:=.ins C s.heap.objs.size []) (t':=s.toks) (fun b u q=>Heap.get?_push_of_some _ q) (Nat.le_of_eq (Heap.size_push _ _)) ?_
 have ne:s.heap.objs.size≠s.heap.objs.size+1:=Nat.ne_of_lt (Nat.lt_succ_self _)
 refine⟨by rw[aD ne,aB],Nat.zero_le _,ne,e2,fun _=>none,(Heap.Ns1.of_empty e3).at fun o q=>Heap.get?_push_of_some _ q,fun _=>True.intro,fun y hy=>absurd rfl hy⟩
end
section
variable{X:Cx}{o e value:Expr}{f:Str}{pos pos' tpos:Pos}{ta tv:TE}
end
section
variable{X:Cx}{pins:List (Addr×Obj)}{σ:St}{H:Hp}{s:Shared}{A:Around}{E:Value->Shared->Prop}{Q:Value->Shared->Prop}{c:Value}{b:Bool}
end
end L2
namespace L2
open PySem PySem.Spec PyProof.Rows
structure oI (k:Nat) (A:Around):Prop where
 hd:A.handled=none
 dp:A.depth+3*k+5<recursionLimit
 un:A.units+16*k+200<cLine
 gd:A.guards=some []
theorem oI.mono{j k:Nat}{A:Around}(r:oI k A)(h:j<=k):oI j A:=⟨r.hd,by have:=r.dp;omega,by have:=r.un;omega,r.gd⟩
theorem oI.deeper{k:Nat}{A:Around}(r:oI (k+1) A)(env:Env):oI k (A.deeper env):=
 ⟨r.hd,by have:=r.dp;show A.depth+1+3*k+5<_;omega,by have:=r.un;show A.units+3+16*k+200<_;omega,r.gd⟩
theorem oI.in1{k:Nat}{A:Around}(r:oI (k+1) A):oI k A.in1:=
 ⟨r.hd,by have:=r.dp;show A.depth+3*k+5<_;omega,by have:=r.un;show A.units+1+16*k+200<_;omega,r.gd⟩
theorem xy{A:Around}{C:Addr}{us:List Value}{kw:List (Str×Value)}:(A.under (.builtin "type.__call__" ⟨.ref C::us,kw⟩)).depth=A.depth+1:=by
 first | rfl | simp[Around.under,Code.weight,Code.isCreation,Code.isGuard,Code.isCaller,Code.frames,Code.isFrame,guardIds]
theorem xO{A:Around}{C:Addr}{us:List Value}{kw:List (Str×Value)}:(A.under (.builtin "type.__call__" ⟨.ref C::us,kw⟩)).units=A.units+1:=by
 first | rfl | simp[Around.under,Code.cUnits,Code.frames,Code.isFrame]
theorem oI.make{k:Nat}{A:Around}(r:oI (k+1) A)(C:Addr)(us:List Value)(kw:List (Str×Value)):oI k (A.under (.builtin "type.__call__" ⟨.ref C::us,kw⟩)):=
 ⟨r.hd,by have:=r.dp;rw[xy];omega,by have:=r.un;rw[xO];omega,by show pushGuards (Code.guards (.builtin "type.__call__" ⟨.ref C::us,kw⟩)) A.guards=_;rw[r.gd];first | rfl | simp[Code.guards,Code.isGuard,guardIds,pushGuards]⟩
theorem oI.depth{k:Nat}{A:Around}(r:oI k A):A.depth<recursionLimit:=by have:=r.dp;omega
theorem oI.units{k:Nat}{A:Around}(r:oI k A):A.units+64<cLine:=by have:=r.un;omega
def FC:TA:=fun _ H Q=>Q [] H
def D2(ta:TE)(tr:TA):TA:=fun σ H Q=>ta σ H fun x H1=>tr σ H1 fun xs H2=>Q (x::xs) H2
section
variable{X:Cx}{e:Expr}{es:List Expr}{te:TE}{t:TA}{pos:Pos}
theorem Cw:PA X [] FC:=fun _ _ _ _ H Q I h=>Calls.spliced_nil ⟨[],H,I,.nil,h⟩
theorem j5(ha:PE X e te)(hr:PA X es t)(hs:starEach (e::es) X.env=(false,eval e X.env)::starEach es X.env:=by rfl):PA X (e::es) (D2 te t):=by
 intro pos pins s σ H Q I h
 rw[hs]
 show wpAny _ _ (spliced ((false,eval e X.env)::backTo pos (starEach es X.env))) _ _ s
 refine Calls.spliced_cons (oy (ha pins s σ H _ I h) fun u s1 ⟨x,H1,I1,r1,q1⟩=>?_)
 exact oy (hr pos pins s1 σ H1 _ I1 q1) fun us s2 ⟨xs,H2,I2,r2,q2⟩=>⟨x::xs,H2,I2,.cons r1 r2,q2⟩
def Fh(t:TA):TE:=fun σ H Q=>t σ H fun xs H1=>xs.length<=sizeLine/\∀p,H1 p=none->Q (.ref p) (upd H1 p (.tup xs))
def ES(t:TA):TE:=fun σ H Q=>t σ H fun xs H1=>xs.length<=sizeLine/\∀p,H1 p=none->Q (.ref p) (upd H1 p (.lst xs))
theorem mV{x1}(h:PA X es t):PE X (.Tuple es x1 pos) (Fh t):=by
 intro pins s σ H Q I hq
 refine wpAny_Tuple_spliced (oy (h pos pins s σ H _ I hq) fun us s1 ⟨xs,H1,I1,r,z,q⟩=>⟨by rw[<- r.length];exact z,?_⟩)
 have hf:H1 s1.heap.objs.size=none:=I1.hok.fresh (Nat.le_refl _)
 refine⟨.ref s1.heap.objs.size,upd H1 s1.heap.objs.size (.tup xs),I1.laid (t':=s1.toks) (fun b u e=>Heap.get?_push_of_some _ e) (Nat.le_refl _) ?_,rfl,q _ hf⟩
 exact⟨z,us,r,⟨_,Heap.get?_push_size _ rfl,rfl,⟨_,rfl⟩,rfl⟩⟩
theorem ln(h:PA X es t):PE X (.List es pos) (ES t):=by
 intro pins s σ H Q I hq
 refine wpAny_List_spliced (oy (h pos pins s σ H _ I hq) fun us s1 ⟨xs,H1,I1,r,z,q⟩=>⟨by rw[<- r.length];exact z,?_⟩)
 have hf:H1 s1.heap.objs.size=none:=I1.hok.fresh (Nat.le_refl _)
 refine⟨.ref s1.heap.objs.size,upd H1 s1.heap.objs.size (.lst xs),I1.laid (t':=s1.toks) (fun b u e=>Heap.get?_push_of_some _ e) (Nat.le_refl _) ?_,rfl,q _ hf⟩
 exact⟨z,us,0,r,Heap.get?_push_size _ rfl⟩
end
abbrev Sp:=List V->Hp->VK->XK->Prop
abbrev yV:=List Env->Hp->Shared->XK->Value->Shared->Prop
structure vj (P:Program) (w:World) (K:PySem.W.Frag) (mg:Str->Option Value) (base:Heap) (A:Around) (outer:List Env) (s:Shared) (H:Hp):Prop where
 frames:A.frames=some outer
 mod:Mod K mg base
 bs:∀b o,base.get? b=some o->s.heap.get? b=some o/\H b=none
 bsz:base.objs.size<=s.heap.objs.size
 funs:s.heap.FunFrames base outer
 frf:∀b∈yO outer,H b=none
 hok:uE P w H s.heap
 bare:AllBare s.gens
def CE(outer:List Env)(P:Program)(w:World)(H:Hp)(s:Shared)(Q:VK)(u:Value)(s':Shared):Prop:=
 ∃v H',s'.os=s.os/\AllBare s'.gens/\Un (yO outer) [] H H' s.heap s'.heap/\uE P w H' s'.heap/\RelV v u/\Q v H'
def CR(CX:yV)(outer:List Env)(P:Program)(w:World)(H:Hp)(s:Shared)(Q:VK)(E:XK)(r:Result)(s':Shared):Prop:=
 match r with
 | .ok (.ret u)=>CE outer P w H s Q u s'
 | .ok _=>False
 | .error e=>CX outer H s E e s'
structure nK (P:Program) (w:World) (K:PySem.W.Frag) (mg:Str->Option Value) (base:Heap) (CX:yV) (k:Nat) (f:Addr) (fd:FuncData) (ps:List Str) (sp:Sp):Prop where
 len:∀vs H Q E,sp vs H Q E->vs.length=ps.length
 run:∀(A:Around) (outer:List Env) (s:Shared) (H:Hp) (args:Args) (us:List Value) (vs:List V) (Q:VK) (E:XK),oI k A->vj P w K mg base A outer s H->BindsTo s fd args (ps.zip us)->m9 vs us->sp vs H Q E ->
  codeAny (model P w) A (.call (.ref f) args) (CR CX outer P w H s Q E) s
theorem nK.mono{P:Program}{w:World}{K:PySem.W.Frag}{mg:Str->Option Value}{base:Heap}{CX:yV}{j k:Nat}{f:Addr}{fd:FuncData}{ps:List Str}{sp:Sp}(F:nK P w K mg base CX j f fd ps sp)(h:j<=k) :
  nK P w K mg base CX k f fd ps sp:=⟨F.len,fun A outer s H args us vs Q E hr=>F.run A outer s H args us vs Q E (hr.mono h)⟩
theorem nK.imp{P:Program}{w:World}{K:PySem.W.Frag}{mg:Str->Option Value}{base:Heap}{CX:yV}{k:Nat}{f:Addr}{fd:FuncData}{ps:List Str}{sp sp':Sp}(F:nK P w K mg base CX k f fd ps sp)
  (h:∀vs H Q E,sp' vs H Q E->sp vs H Q E):nK P w K mg base CX k f fd ps sp':=
 ⟨fun vs H Q E q=>F.len vs H Q E (h _ _ _ _ q),fun A outer s H args us vs Q E hr he hb hv hs=>F.run A outer s H args us vs Q E hr he hb hv (h _ _ _ _ hs)⟩
theorem vj.make{P:Program}{w:World}{K:PySem.W.Frag}{mg:Str->Option Value}{base:Heap}{A:Around}{outer:List Env}{s:Shared}{H:Hp}(e:vj P w K mg base A outer s H)(C:Addr)(us:List Value)(kw:List (Str×Value)) :
  vj P w K mg base (A.under (.builtin "type.__call__" ⟨.ref C::us,kw⟩)) outer s H:=⟨by first | exact e.frames | (simpa [Around.under,Code.envs,Code.isFrame,pushEnvs] using e.frames),e.mod,e.bs,e.bsz,e.funs,e.frf,e.hok,e.bare⟩
theorem vj.in1{P:Program}{w:World}{K:PySem.W.Frag}{mg:Str->Option Value}{base:Heap}{A:Around}{outer:List Env}{s:Shared}{H:Hp}(e:vj P w K mg base A outer s H) :
  vj P w K mg base A.in1 outer s H:=⟨e.frames,e.mod,e.bs,e.bsz,e.funs,e.frf,e.hok,e.bare⟩
section
variable{X:Cx}{pins:List (Addr×Obj)}{σ:St}{H:Hp}{s s':Shared}
theorem Inv.env0(I:Inv X pins σ H s):vj X.prog X.w X.K X.mg X.base X.A X.stack s H:=
 ⟨I.ok.frames,I.ok.mod,I.bs,Nat.le_trans I.ok.bsz I.sz,I.stack,I.stkFree,I.hok,I.bare⟩
theorem Inv.after{Q:VK}{u:Value}(I:Inv X pins σ H s)(h:CE X.stack X.prog X.w H s Q u s'):EP X pins σ Q u s':=by
 obtain⟨v,H',os,bare,un,hok,r,q⟩:=h
 obtain⟨hh,g,d,t,os'⟩:=s'
 obtain rfl:os'=s.os:=os
 exact⟨v,H',I.call (h':=hh) (g':=g) (d':=d) (t':=t) (ch:=[]) un hok bare (fun b z=>absurd z (by simp)),r,q⟩
end
def Dw(sp:Sp)(dvs:List V)(E:XK)(t:TA):TE:=fun σ H Q=>t σ H fun vs H1=>sp (vs++dvs) H1 Q E
def Binds(K:PySem.W.Frag)(fd:FuncData)(ps:List Str)(ds:List Value):Prop:=
 ∀(s:Shared) (us:List Value),K.In s.heap->(us++ds).length=ps.length->BindsTo s fd ⟨us,[]⟩ (ps.zip (us++ds))
theorem Binds.all{K:PySem.W.Frag}{fd:FuncData}{ps:List Str}(h:∀us:List Value,us.length=ps.length->bindArgs fd ⟨us,[]⟩=pure (ps.zip us)):Binds K fd ps []:=fun s us _ hl=>by
 rw[List.append_nil] at hl ⊢
 exact .of_eq (h us hl)
def xJ(CX:yV)(X:Cx)(E:XK):Prop:=∀(pins:List (Addr×Obj)) (σ:St) (H:Hp) (s:Shared) (e:Value) (s':Shared),Inv X pins σ H s->CX X.stack H s E e s'->X.xe e s'
section
variable{X:Cx}{CX:yV}{k:Nat}{f C:Addr}{fd:FuncData}{ps:List Str}{sp:Sp}{dvs:List V}{ds:List Value}{E:XK}{x m:Str}{p pos apos:Pos}{e o:Expr}{es:List Expr}{ta:TE}{t:TA}
theorem Ah{pins:List (Addr×Obj)}{σ:St}{H:Hp}{s:Shared}{Q:VK}{us:List Value}{vs:List V}(F:nK X.prog X.w X.K X.mg X.base CX k f fd ps sp)(hr:oI k X.A)(hb:Binds X.K fd ps ds)(hd:m9 dvs ds)(hx:xJ CX X E)
  (I:Inv X pins σ H s) (r:m9 vs us) (h:sp (vs++dvs) H Q E):wpAny (model X.prog X.w) X.A (call (.ref f) us) (EP X pins σ Q) X.xe s:=by
 have r2:m9 (vs++dvs) (us++ds):=r.append hd
 have hl:(us++ds).length=ps.length:=by rw[<- r2.length];exact F.len _ _ _ _ h
 refine wpAny_call (codeAny_mono (F.run X.A X.stack s H ⟨us,[]⟩ (us++ds) (vs++dvs) Q E hr I.env0 (hb s us I.kIn hl) r2 h) fun r s' hq=>?_)
 cases r with
 | error e=>exact hx pins σ H s e s' I hq
 | ok fl =>
  cases fl with
  | ret u=>exact I.after hq
  | next=>exact False.elim hq
  | brk=>exact False.elim hq
  | cont=>exact False.elim hq
theorem jW(F:nK X.prog X.w X.K X.mg X.base CX k f fd ps sp)(hr:oI k X.A)(hg:Gl X x)(hm:X.mg x=some (.ref f))(hk:PySem.W.keepIn X.K (.ref f)=true)(hb:Binds X.K fd ps ds)(hd:m9 dvs ds)(hx:xJ CX X E)
  (ha:PA X (e::es) t) (hdb:(x==("__debug__" : Str))=false:=by decide) (he:starEach (e::es) X.env=(false,eval e X.env)::starEach es X.env:=by rfl) (hpl:(backTo pos (starEach es X.env)).any (·.1)=false:=by rfl) :
  PE X (.Call (.Name x p) (e::es) [] pos) (Dw sp dvs E t):=by
 intro pins s σ H Q I h
 refine wpAny_Call_Name_kw (jQ I hg hm ?_ hdb)
 refine PySem.W.callWith_K (h₀:=X.base) I.ok.mod.kin hk (oy (ha pos pins s σ H _ I h) fun us s1 ⟨vs,H1,I1,r,q⟩=>⟨I1.kIn,?_⟩) he hpl
 exact Ah F hr hb hd hx I1 r q
end
section
variable{X:Cx}{CX:yV}{k:Nat}{f C:Addr}{fd:FuncData}{ps ks:List Str}{sp:Sp}{E:XK}{x m:Str}{p pos apos kpos:Pos}{e o:Expr}{es:List Expr}{kws:List Keyword}{te ta:TE}{t tk:TA}{nm:Option Str}
variable{g:List Value->List Value->List Value}{gV:List V->List V->List V}
end
structure i5 (N P:List Str) (sc:Scope):Prop where
 kind:sc.kind=.function
 co:sc.isCoroutine=false
 gen:sc.isGenerator=false
 nd:N.Nodup
 pre:N.take P.length=P
 par:∀x∈P,sc.names.lookup x=some .local\/sc.names.lookup x=some .cell
 nofree:∀y∈sc.names,y.2≠.free
theorem p8{N P:List Str}{sc:Scope}(h1:N.Nodup:=by decide +kernel)(h2:∀x∈P,sc.names.lookup x=some .local\/sc.names.lookup x=some .cell:=by decide +kernel)(h3:∀y∈sc.names,y.2≠.free:=by decide +kernel)(k:sc.kind=.function:=by rfl)(c:sc.isCoroutine=false:=by rfl)(g:sc.isGenerator=false:=by rfl)(p:N.take P.length=P:=by rfl):i5 N P sc:=⟨k,c,g,h1,p,h2,h3⟩
theorem vH{kindOf:Str->Option NameKind}{x:Str}:∀{binds:List (Str×Value)} {m:Str->Option Value},(∀v,(x,v)∉binds)->bindL kindOf binds m x=m x
 | [],_,_=>rfl
 | (n,v)::r,m,h=>by
  unfold bindL
  rw[vH fun w hw=>h w (List.mem_cons_of_mem _ hw)]
  split
  ·have:x≠n:=by rintro rfl;exact h v List.mem_cons_self
   simp[this]
  ·rfl
theorem vL{kindOf:Str->Option NameKind}{x:Str}:∀{binds:List (Str×Value)} {m:Str->Option Value},(∀v,(x,v)∉binds)->bindC kindOf binds m x=m x
 | [],_,_=>rfl
 | (n,v)::r,m,h=>by
  unfold bindC
  rw[vL fun w hw=>h w (List.mem_cons_of_mem _ hw)]
  split
  ·rfl
  ·have:x≠n:=by rintro rfl;exact h v List.mem_cons_self
   simp[this]
theorem vF{kindOf:Str->Option NameKind}{x:Str}{v:Value}:∀{P:List Str} {vs:List Value} {i:Nat} {m:Str->Option Value},P.Nodup->P[i]?=some x->vs[i]?=some v->kindOf x=some .local ->
  bindL kindOf (P.zip vs) m x=some v
 | [],_,_,_,_,h,_,_=>by simp at h
 | _::_,[],_,_,_,_,h,_=>by simp at h
 | p::P,w::vs,0,m,nd,h1,h2,hk=>by
  simp at h1 h2;subst h1;subst h2
  show bindL kindOf ((p,w)::P.zip vs) m p=_
  unfold bindL
  rw[vH fun v hv=>(List.nodup_cons.mp nd).1 (List.of_mem_zip hv).1,if_pos hk]
  simp
 | p::P,w::vs,i+1,m,nd,h1,h2,hk=>by
  show bindL kindOf ((p,w)::P.zip vs) m x=_
  unfold bindL
  exact vF (i:=i) (List.nodup_cons.mp nd).2 (by simpa using h1) (by simpa using h2) hk
theorem vq{kindOf:Str->Option NameKind}{x:Str}{v:Value}:∀{P:List Str} {vs:List Value} {i:Nat} {m:Str->Option Value},P.Nodup->P[i]?=some x->vs[i]?=some v->kindOf x≠some .local ->
  bindC kindOf (P.zip vs) m x=some v
 | [],_,_,_,_,h,_,_=>by simp at h
 | _::_,[],_,_,_,_,h,_=>by simp at h
 | p::P,w::vs,0,m,nd,h1,h2,hk=>by
  simp at h1 h2;subst h1;subst h2
  show bindC kindOf ((p,w)::P.zip vs) m p=_
  unfold bindC
  rw[vL fun v hv=>(List.nodup_cons.mp nd).1 (List.of_mem_zip hv).1,if_neg hk]
  simp
 | p::P,w::vs,i+1,m,nd,h1,h2,hk=>by
  show bindC kindOf ((p,w)::P.zip vs) m x=_
  unfold bindC
  exact vq (i:=i) (List.nodup_cons.mp nd).2 (by simpa using h1) (by simpa using h2) hk
def start(N:List Str)(vs:List V):St:=vs.map some++List.replicate (N.length - vs.length) none
def w8(CX:yV)(P:Program)(w:World)(K:PySem.W.Frag)(mg:Str->Option Value)(base:Heap)(N:List Str)(qual:Str)(scope:Scope)(f:Addr)(cd:Value)(A:Around)(outer:List Env)(s:Shared)(H:Hp)(E:XK):Cx where
 prog:=P
 w:=w
 K:=K
 mg:=mg
 base:=base
 A:=A.deeper (envOfC qual scope s.heap.objs.size f cd)
 N:=N
 s₀:=s
 H₀:=H
 env:=envOfC qual scope s.heap.objs.size f cd
 outer:=outer
 stack:=envOfC qual scope s.heap.objs.size f cd::outer
 ex:=[]
 calm:=true
 fn:=fun _=>true
 pn:=[]
 xe:=fun e s'=>wpAny (model P w) (A.deeper (envOfC qual scope s.heap.objs.size f cd)) (leaving (envOfC qual scope s.heap.objs.size f cd) e) (fun _ s''=>CX outer H s E e s'') (fun e' s''=>CX outer H s E e' s'') s'
theorem xk{sc:Scope}{n:Nat}{x:Str}(h:sc.names.lookup x=some .cell):∃c,(cellsFrom n sc.names []).lookup x=some c:=by
 have q:=PySem.W.cellsFrom_some sc.names n [] (.inl h)
 exact Option.isSome_iff_exists.mp q
theorem y_{CX:yV}{P:Program}{w:World}{K:PySem.W.Frag}{mg:Str->Option Value}{base:Heap}{N ps:List Str}{qual:Str}{scope:Scope}{f:Addr}{cd:Value}{A:Around}{outer:List Env}{s s1:Shared}{H:Hp}{E:XK}{us:List Value}{vs:List V}
  (S:i5 N ps scope) (hd:A.handled=none) (e0:vj P w K mg base A outer s H) (hl:vs.length=ps.length) (r:m9 vs us)
  (x:InCallC s s.heap.objs.size (bindL (envOfC qual scope s.heap.objs.size f cd).kindOf (ps.zip us) fun _=>none) (cellsFrom (s.heap.objs.size+1) scope.names []) (bindC (envOfC qual scope s.heap.objs.size f cd).kindOf (ps.zip us) fun _=>none) s1) :
  Inv (w8 CX P w K mg base N qual scope f cd A outer s H E) [] (start N vs) H s1:=by
 have hpl:ps.length<=N.length:=by have:=congrArg List.length S.pre;rw[List.length_take] at this;omega
 obtain⟨h1,tk,rfl,hk⟩:=x.done
 have noA:∀b:Addr,b∉(w8 CX P w K mg base N qual scope f cd A outer s H E).ex:=fun b z=>absurd (show b∈([]:List Addr) from z) (by simp)
 refine⟨⟨e0.mod,S.kind,rfl,rfl,Nat.le_refl _,fun y z c h1 h2=>?_,fun y hy=>?_,fun y c _ h=>?_,fun _=>hd,Around.frames_deeper e0.frames,.inr ⟨rfl,rfl⟩,fun b z=>absurd z (noA b),e0.bs,e0.bsz,fun b _ _=>noA b,fun b z=>absurd z (noA b),e0.funs,e0.frf⟩,
  rfl,e0.bare,Un.kept hk,⟨_,x.toInCall.ns,fun i y v h1 h2 h3=>?_⟩,fun y c h=>⟨_,x.cell y c h⟩,e0.hok.fresh (Nat.le_refl _),fun y c h=>?_,fun p hp=>absurd (show p∈([]:List (Addr×Obj)) from hp) (by simp),e0.hok.kept hk,?_⟩
 ·exact name_of_addr x.apart (PySem.mem_of_lookup h1) (PySem.mem_of_lookup h2)
 ·have hy:scope.names.lookup y=some .cell\/scope.names.lookup y=some .free:=hy
  rcases hy with hy | hy
  ·exact xk hy
  ·exact absurd rfl (S.nofree _ (PySem.mem_of_lookup hy))
 ·exact Nat.le_of_lt (x.above y c (PySem.mem_of_lookup h))
 ·have hi:i<vs.length:=by
   unfold start at h2
   by_cases hi:i<vs.length
   ·exact hi
   ·rw[List.getElem?_append_right (by simpa using hi)] at h2
    rw[List.getElem?_replicate] at h2
    split at h2<;>cases h2
  have ha:vs[i]?=some v:=by
   unfold start at h2
   rw[List.getElem?_append_left (by simpa using hi),List.getElem?_map] at h2
   cases e:vs[i]? with
   | none=>rw[e] at h2;cases h2
   | some a=>rw[e] at h2;cases h2;rfl
  obtain⟨u,hu,rv⟩:=r.get ha
  have hp:ps[i]?=some y:=by
   rw[<- S.pre,List.getElem?_take_of_lt (by omega)];exact h1
  have ndP:ps.Nodup:=by rw[<- S.pre];exact S.nd.sublist (List.take_sublist _ _)
  refine⟨u,rv,?_⟩
  rcases S.par y (List.mem_of_getElem? hp) with k | k
  ·exact .inl ⟨k,vF ndP hp hu k⟩
  ·obtain⟨c,e⟩:=xk (n:=s.heap.objs.size+1) k
   refine .inr ⟨.inl k,c,e,?_⟩
   have q:=x.cell y c e
   rw[vq ndP hp hu (by show scope.names.lookup y≠_;rw[k];decide)] at q
   exact q
 ·exact e0.hok.fresh (Nat.le_of_lt (x.above y c (PySem.mem_of_lookup h)))
 ·unfold start
  show _=N.length
  rw[List.length_append,List.length_map,List.length_replicate]
  omega
theorem nv {CX:yV} {P:Program} {w:World} {K:PySem.W.Frag} {mg:Str->Option Value} {base:Heap} {k:Nat} {f:Addr} {name qual:Str} {params:Arguments} {body:List Stmt} {scope:Scope} {dV kV doc pm cdv ct oc:Value} {an od:Option Addr}
    {osl:Array (Option Value)} {N ps:List Str} {sp:Sp} (lk:K.lookup f=some ⟨oc,od,.func (PySem.W.fnOf name qual params body scope dV kV doc pm an cdv ct),osl⟩) (hcd:PySem.W.codeIn K cdv qual=true) (S:i5 N ps scope)
    (len:∀vs H Q E,sp vs H Q E->vs.length=ps.length)
    (hbody:∀(A:Around) (outer:List Env) (s:Shared) (H:Hp) (vs:List V) (Q:VK) (E:XK),oI k (A.deeper (envOfC qual scope s.heap.objs.size f cdv))->sp vs H Q E ->
      ∃t,PSs (w8 CX P w K mg base N qual scope f cdv A outer s H E) body t/\t {nx:=fun _ H'=>Q .non H',rt:=Q} (start N vs) H) :
    nK P w K mg base CX (k+1) f (PySem.W.fnOf name qual params body scope dV kV doc pm an cdv ct) ps sp:=by
  refine⟨len,fun A outer s H args us vs Q E hr e0 hb r hsp=>?_⟩
  have hl:=len _ _ _ _ hsp
  have KX:K.In s.heap:=e0.mod.kin.keeps fun b o e=>(e0.bs b o e).1
  have lim:s.heap.NoLimit:=e0.mod.nolimit.keeps fun b o e=>(e0.bs b o e).1
  have hkind:∀y∈ps.zip us,scope.names.lookup y.1=some .local\/(scope.names.lookup y.1=some .cell/\((cellsFrom (s.heap.objs.size+1) scope.names []).lookup y.1).isSome=true):=fun ⟨n,v⟩ hy=>by
    rcases S.par n (List.of_mem_zip hy).1 with q | q
    · exact .inl q
    · exact .inr ⟨q,PySem.W.cellsFrom_some _ _ _ (.inl q)⟩
  refine codeAny_call_function hr.depth (KX _ _ lk) rfl S.co S.gen rfl (PySem.W.codeRec_of KX hcd) (hb _ _ _ _ ?_)
  refine wpAny_newFunctionEnv_cells S.kind hkind fun env he s1 x=>?_
  subst he
  refine⟨lim.keeps x.toInCall.keep,codeAny_func ?_⟩
  obtain⟨t,ht,hq⟩:=hbody A outer s H vs Q E (hr.deeper _) hsp
  have I:Inv (w8 CX P w K mg base N qual scope f cdv A outer s H E) [] (start N vs) H s1:=y_ S hr.hd e0 hl r x
  refine wpAny_mono (ht [] s1 (start N vs) H _ I hq) (fun fl s' hs=>?_) fun e s' hs=>hs
  have fin:∀{σ':St} {H':Hp} {v:V} {u:Value},Inv (w8 CX P w K mg base N qual scope f cdv A outer s H E) [] σ' H' s'->RelV v u->Q v H'->CE outer P w H s Q u s':=
    fun {σ' H' v u} J rv q=>⟨v,H',J.os,J.bare,J.base,J.hok,rv,q⟩
  cases fl with
  | ret u =>
    obtain⟨v,σ',H',J,rv,q⟩:=hs
    exact fin J rv q
  | next =>
    obtain⟨σ',H',J,q⟩:=hs
    exact fin (v:=V.non) (u:=Value.none) J rfl q
  | brk =>
    obtain⟨_,_,_,q⟩:=hs
    exact False.elim q
  | cont =>
    obtain⟨_,_,_,q⟩:=hs
    exact False.elim q
end L2
namespace L2
open PySem PySem.Spec PyProof.Rows
section
variable{X:Cx}{x:Str}{p pos:Pos}{e:Expr}{es:List Expr}{t:TA}{id T:String}{r:List V->Hp->VK->Prop}
def FU(r:List V->Hp->VK->Prop)(t:TA):TE:=fun σ H Q=>t σ H fun vs H1=>r vs H1 Q
theorem kT(hc:CallR X (.builtin id) r)(hg:Gl X x)(hm:X.mg x=none)(hv:bootBuiltins x=some (.builtin id))(ha:PA X (e::es) t)(hn:x ≠ "__name__":=by decide)(hdb:(x==("__debug__" : Str))=false:=by decide)
  (he:starEach (e::es) X.env=(false,eval e X.env)::starEach es X.env:=by rfl) (hpl:(backTo pos (starEach es X.env)).any (·.1)=false:=by rfl):PE X (.Call (.Name x p) (e::es) [] pos) (FU r t):=by
 intro pins s σ H Q I h
 refine wpAny_Call_Name_kw (bJ I hg hm hv ?_ hn hdb)
 exact PyProof.Rows.callWith_builtin1 (oy (ha pos pins s σ H _ I h) fun us s1 ⟨vs,H1,I1,r1,q1⟩=>hc pins s1 σ H1 vs us Q I1 r1 q1) he hpl
theorem kL(hc:CallR X (.type T) r)(hg:Gl X x)(hm:X.mg x=none)(hv:bootBuiltins x=some (.type T))(ha:PA X (e::es) t)(hn:x ≠ "__name__":=by decide)(hdb:(x==("__debug__" : Str))=false:=by decide)
  (he:starEach (e::es) X.env=(false,eval e X.env)::starEach es X.env:=by rfl) (hpl:(backTo pos (starEach es X.env)).any (·.1)=false:=by rfl):PE X (.Call (.Name x p) (e::es) [] pos) (FU r t):=by
 intro pins s σ H Q I h
 refine wpAny_Call_Name_kw (bJ I hg hm hv ?_ hn hdb)
 exact PyProof.Rows.callWith_type1 (oy (ha pos pins s σ H _ I h) fun us s1 ⟨vs,H1,I1,r1,q1⟩=>hc pins s1 σ H1 vs us Q I1 r1 q1) he hpl
end
end L2
namespace HT
open PySem PyProof.Rows
section
open PySem.SeqAt
open PySem.AutoSeq1 (wpAny_loadPart')
open PySem.MeetsSeq PySem.MeetsSeq2 PySem.MeetsSeq3
end
section
variable{prog:Program}{w:World}{A:Around}{E:Value->Shared->Prop}{s:Shared}
theorem cat_tup{t b:Addr}{vs ws:List Value}{Q:Value->Shared->Prop}(ht:IsTup s.heap t vs.toArray)(hb:IsTup s.heap b ws.toArray)(hv:vs ≠ [])
  (h1:ws=[]->Q (.ref t) s) (h2:ws ≠ []->Q (.ref s.heap.objs.size) {s with heap:=s.heap.push {cls:=.type "tuple",data:=.seq (vs++ws).toArray} })
  (hsz:vs.length+ws.length<=sizeLine):wpAny (model prog w) A (binaryOp .Add (.ref t) (.ref b)) Q E s:=by
 obtain⟨⟨cls,dd,data,sl⟩,ho,hc,n,hd⟩:=id ht
 obtain⟨⟨cls2,dd2,data2,sl2⟩,ho2,hc2,n2,hd2⟩:=id hb
 simp only at hc hd hc2 hd2
 subst hc hd hc2 hd2
 have e:vs.toArray++ws.toArray=(vs++ws).toArray:=by simp
 by_cases hw:ws=[]
 ·exact concat_meets ⟨_,ho,rfl⟩ ⟨_,ho2,rfl⟩ noFill_tuple_add seq_tuple_add PySem.F.slot_tuple_add PySem.F.entry_tuple_add (PySem.F.args_tuple_add_2 _ _)
   (tuple_addW1 t b vs.toArray ws.toArray n n2 dd dd2 sl sl2 (by simpa using hv) (by simp[hw])) ⟨ho,ho2,h1 hw⟩
 ·refine concat_meets ⟨_,ho,rfl⟩ ⟨_,ho2,rfl⟩ noFill_tuple_add seq_tuple_add PySem.F.slot_tuple_add PySem.F.entry_tuple_add (PySem.F.args_tuple_add_2 _ _)
   (tuple_addW2 t b vs.toArray ws.toArray n n2 dd dd2 sl sl2 (by simpa using hv) (by simpa using hw) (by rw[List.size_toArray,List.size_toArray];exact hsz)) ⟨ho,ho2,?_⟩
  rw[e]
  exact h2 hw
def sIx(n d:Nat):Option Int->Nat
 | none=>d
 | some v=>if v<0 then (v+(n:Int)).toNat else min v.toNat n
theorem C9(n d:Nat)(hd:d<=n)(o:Option Int):sIx n d o<=n:=by
 cases o with
 | none=>exact hd
 | some v =>
  show(if v<0 then (v+(n:Int)).toNat else min v.toNat n)<=n
  by_cases hv:v<0
  ·rw[if_pos hv];omega
  ·rw[if_neg hv];exact Nat.min_le_right _ _
theorem yF(v:Int)(n d:Nat):(if v<0 then max (v+(n:Int)) 0 else min v (n:Int))=((sIx n d (some v):Nat):Int):=by
 show(if v<0 then max (v+(n:Int)) 0 else min v (n:Int))=(((if v<0 then (v+(n:Int)).toNat else min v.toNat n):Nat):Int)
 by_cases hv:v<0
 ·simp only[if_pos hv];omega
 ·simp only[if_neg hv];omega
theorem xP(lo hi:Option Int)(n:Nat):Builtin.Slice.sliceAdjust lo hi 1 (n:Int)=(((sIx n 0 lo:Nat):Int),((sIx n n hi:Nat):Int)):=by
 have h1:¬ ((1:Int)<0):=by omega
 unfold Builtin.Slice.sliceAdjust
 simp only[h1,if_false]
 refine Prod.ext ?_ ?_
 ·cases lo with
  | none=>rfl
  | some v=>exact yF v n 0
 ·cases hi with
  | none=>rfl
  | some v=>exact yF v n n
theorem xS(i j:Nat):Builtin.Slice.slicePlaces (i:Int) (j:Int) 1=j - i:=by
 unfold Builtin.Slice.slicePlaces
 have h1:(1:Int) > 0:=by omega
 simp only[h1,if_true,Int.ediv_one]
 split<;>omega
theorem uN{v:Value}{o:Option Int}{Q:Option Int->Shared->Prop}(p:IsPart v o)(h:Q o s):wpAny (model prog w) A (Builtin.Slice.slicePartIndex v) Q E s:=by
 cases p with
 | none=>exact slicePart_none h
 | int i t=>exact slicePart_int h
theorem sliceApplied_gen{sl:Addr}{vl vu:Value}{lo hi:Option Int}{n:Nat}{Q:Int×Int×Nat->Shared->Prop}(hs:s.heap.IsSliceOf sl vl vu .none)(pl:IsPart vl lo)(pu:IsPart vu hi)
  (h:Q (((sIx n 0 lo:Nat):Int),1,sIx n n hi - sIx n 0 lo) s):wpAny (model prog w) A (Builtin.Slice.sliceApplied (.ref sl) (pure (n:Int))) Q E s:=by
 obtain⟨os,hos,hcs,hds⟩:=id hs
 unfold Builtin.Slice.sliceApplied Builtin.Slice.sliceFields
 refine wpAny_bind (wpAny_bind (wpAny_field hos hds (x:=vl) rfl (wpAny_bind (wpAny_field hos hds (x:=vu) rfl (wpAny_bind (wpAny_field hos hds (x:=.none) rfl (wpAny_pure ?_)))))))
 refine wpAny_bind (slicePart_none ?_)
 show wpAny _ _ (if ((1:Int)==0)=true then _ else _) _ _ s
 rw[if_neg (by decide)]
 refine wpAny_bind (uN pl (wpAny_bind (uN pu (wpAny_bind (wpAny_pure ?_)))))
 show wpAny _ _ (match Builtin.Slice.sliceAdjust lo hi 1 (n:Int) with | (lo,hi)=>pure (lo,(1:Int),Builtin.Slice.slicePlaces lo hi 1)) _ _ s
 rw[xP lo hi n]
 show wpAny _ _ (pure (((sIx n 0 lo:Nat):Int),(1:Int),Builtin.Slice.slicePlaces ((sIx n 0 lo:Nat):Int) ((sIx n n hi:Nat):Int) 1)) _ _ s
 rw[xS]
 exact wpAny_pure h
theorem zF(xs:Array Value)(i k:Nat):((List.range k).filterMap fun (m:Nat)=>xs[((i:Int)+(m:Int)*1).toNat]?).toArray=((xs.toList.drop i).take k).toArray:=by
 have e:(fun (m:Nat)=>xs[((i:Int)+(m:Int)*1).toNat]?)=fun m=>xs[i+m]?:=by
  funext m
  have:((i:Int)+(m:Int)*1).toNat=i+m:=by omega
  rw[this]
 rw[e]
 have:=pick_run xs i k
 rw[List.filterMap_map] at this
 have e2:((fun x=>xs[x]?) ∘ fun x=>i+x)=fun m=>xs[i+m]?:=rfl
 rw[e2] at this
 rw[this]
theorem getItem_tuple_cut{t sl:Addr}{items:Array Value}{vl vu:Value}{lo hi:Option Int}{Q:Value->Shared->Prop}(ht:IsTup s.heap t items)(hs:s.heap.IsSliceOf sl vl vu .none)(pl:IsPart vl lo)(pu:IsPart vu hi)
  (hw:¬ (sIx items.size 0 lo=0/\sIx items.size items.size hi=items.size))
  (h:Q (.ref s.heap.objs.size) {s with heap:=s.heap.push {cls:=.type "tuple",data:=.seq ((items.toList.drop (sIx items.size 0 lo)).take (sIx items.size items.size hi - sIx items.size 0 lo)).toArray} })
  (hsz:items.size<=sizeLine):wpAny (model prog w) A (getItem (.ref t) (.ref sl)) Q E s:=by
 have htake:sizeOk (.seq ((items.toList.drop (sIx items.size 0 lo)).take (sIx items.size items.size hi - sIx items.size 0 lo)).toArray):=by
  show((items.toList.drop (sIx items.size 0 lo)).take (sIx items.size items.size hi - sIx items.size 0 lo)).toArray.size<=sizeLine
  rw[List.size_toArray,List.length_take,List.length_drop,Array.length_toList]
  omega
 have hj:sIx items.size items.size hi<=items.size:=C9 _ _ (Nat.le_refl _) hi
 obtain⟨os,hos,hcs,hds⟩:=id hs
 have hTs:s.TypeIs (.ref sl) "slice":=⟨os,hos,hcs⟩
 unfold getItem
 try with_reducible refine wpAny_holding ?_
 first | refine wpAny_bind (wpAny_pure ?_) | skip
 refine wpAny_bind (wpAny_sequenceKey ht.typeIs (by decide) ?_)
 refine wpAny_bind (wpAny_callSpecial?_slot (name:=Str.ofString "__getitem__") ht.typeIs PyProof.Rows.slot_tuple_getitem
  (wpAny_call_entry PyProof.Rows.slot_tuple_getitem ht.typeIs entry_tuple_getitem ?_ (args_tuple_getitem _ _)))
 show wpAny _ _ (Builtin.Tuple.tupleItemsOf (.ref t) >>= _) _ _ s
 refine wpAny_bind (tupleItemsOf_ ht ?_)
 refine wpAny_bind (wpAny_typeOf hTs ?_)
 rw[if_pos (by decide)]
 refine wpAny_bind (sliceApplied_gen hs pl pu ?_)
 have hno:¬ ((((sIx items.size 0 lo:Nat):Int)==0&&(1:Int)==1&&(sIx items.size items.size hi - sIx items.size 0 lo)==items.size)=true):=by
  intro q
  rw[Bool.and_eq_true,Bool.and_eq_true] at q
  have q1:((sIx items.size 0 lo:Nat):Int)=0:=eq_of_beq q.1.1
  have q2:sIx items.size items.size hi - sIx items.size 0 lo=items.size:=eq_of_beq q.2
  exact hw ⟨by omega,by omega⟩
 show wpAny _ _ (if (((sIx items.size 0 lo:Nat):Int)==0&&(1:Int)==1&&(sIx items.size items.size hi - sIx items.size 0 lo)==items.size)=true then _ else _) _ _ s
 rw[if_neg hno,zF]
 first
  | exact wpAny_bind (m:=Builtin.Tuple.tupleExact _) (wpAny_newObj_type (wpAny_pure ⟨_,rfl,wpAny_pure h⟩) htake)
  | exact wpAny_bind (m:=Builtin.Tuple.tupleExact _) (wpAny_newObj_type (wpAny_bind (wpAny_pure (wpAny_pure ⟨_,rfl,wpAny_pure h⟩))) htake)
  | exact wpAny_bind (wpAny_bind (m:=Builtin.Tuple.tupleExact _) (wpAny_newObj_type (wpAny_pure (wpAny_pure ⟨_,rfl,wpAny_pure h⟩)) htake))
  | exact wpAny_bind (wpAny_bind (m:=Builtin.Tuple.tupleExact _) (wpAny_newObj_type (wpAny_pure ⟨_,rfl,wpAny_pure h⟩) htake))
end
end HT
namespace L2
open PySem PySem.Spec PyProof.Rows
abbrev TO:=St->Hp->(Option Int->Hp->Prop)->Prop
def PO(X:Cx)(e:Option Expr)(t:TO):Prop:=
 ∀(pins:List (Addr×Obj)) (s:Shared) (σ:St) (H:Hp) (Q:Option Int->Hp->Prop),Inv X pins σ H s->t σ H Q ->
  wpAny (model X.prog X.w) X.A (evalPart e X.env) (fun u s'=>∃o H',Inv X pins σ H' s'/\IsPart u o/\Q o H') X.xe s
def Bj:TO:=fun _ H Q=>Q none H
def D7(t:TE):TO:=fun σ H Q=>t σ H fun x H1=>∃i,x=.int i/\Q (some i) H1
section
variable{X:Cx}{e:Expr}{te:TE}{lo hi:Option Expr}{tl th:TO}{pos p2:Pos}
theorem AK:PO X none Bj:=by
 intro pins s σ H Q I h
 rw[evalPart_none]
 exact wpAny_pure ⟨none,H,I,.none,h⟩
theorem AH(h:PE X e te):PO X (some e) (D7 te):=by
 intro pins s σ H Q I hw
 rw[evalPart_some]
 refine oy (h pins s σ H _ I hw) fun u s1 ⟨x,H1,I1,r1,q1⟩=>?_
 obtain⟨i,rfl,q⟩:=q1
 obtain⟨t,rfl⟩:=r1
 exact⟨some i,H1,I1,.int i t,q⟩
def BX(X:Cx)(r:V->Option Int->Option Int->Hp->VK->Prop):Prop:=
 ∀(pins:List (Addr×Obj)) (s:Shared) (σ:St) (H:Hp) (x:V) (v vl vu:Value) (lo hi:Option Int) (sl:Addr) (Q:VK),Inv X pins σ H s->RelV x v->s.heap.IsSliceOf sl vl vu .none->IsPart vl lo->IsPart vu hi->r x lo hi H Q ->
  ∃T id,typeLookup (.type T) "__getitem__" = pure (some (.builtin id))/\s.TypeIs v T/\wpAny (model X.prog X.w) X.A (getItem v (.ref sl)) (EP X pins σ Q) X.xe s
theorem BX.or{r r':V->Option Int->Option Int->Hp->VK->Prop}(h:BX X r)(h':BX X r'):BX X (fun x lo hi H Q=>r x lo hi H Q\/r' x lo hi H Q):=by
 intro pins s σ H x v vl vu lo hi sl Q I rx hs pl pu q
 rcases q with q | q
 ·exact h pins s σ H x v vl vu lo hi sl Q I rx hs pl pu q
 ·exact h' pins s σ H x v vl vu lo hi sl Q I rx hs pl pu q
def Gz(r:V->Option Int->Option Int->Hp->VK->Prop)(te:TE)(tl th:TO):TE:=fun σ H Q=>te σ H fun x H1=>tl σ H1 fun l H2=>th σ H2 fun u H3=>r x l u H3 Q
theorem lK{r:V->Option Int->Option Int->Hp->VK->Prop}(hr:BX X r)(he:PE X e te)(hl:PO X lo tl)(hu:PO X hi th):PE X (.Subscript e (.Slice lo hi none p2) pos) (Gz r te tl th):=by
 intro pins s σ H Q I h
 refine Subscript_ (oy (he pins s σ H _ I h) fun v s1 ⟨x,H1,I1,r1,q1⟩=>?_)
 refine wpAny_Slice (oy (hl pins s1 σ H1 _ I1 q1) fun vl s2 ⟨l,H2,I2,pl,q2⟩=>oy (hu pins s2 σ H2 _ I2 q2) fun vu s3 ⟨u,H3,I3,pu,q3⟩=>?_)
 rw[evalPart_none]
 refine wpAny_pure ?_
 have I4:Inv X pins σ H3 {s3 with heap:=s3.heap.push {cls:=.type "slice",data:=.fields #[vl,vu,.none]} }:=I3.kept (t':=s3.toks) fun b ob q=>Heap.get?_push_of_some _ q
 obtain⟨T,id,hT,ht,hg⟩:=hr pins {s3 with heap:=s3.heap.push {cls:=.type "slice",data:=.fields #[vl,vu,.none]} } σ H3 x v vl vu l u s3.heap.objs.size Q I4 r1 (Heap.IsSliceOf.new ..) pl pu q3
 show wpAny (model X.prog X.w) X.A (subscriptTail e (.Slice lo hi none p2) v (.ref s3.heap.objs.size)) (EP X pins σ Q) X.xe {s3 with heap:=s3.heap.push {cls:=.type "slice",data:=.fields #[vl,vu,.none]} }
 exact tail_any (ops:=[.ref s3.heap.objs.size,v]) ht hT hg (by with_unfolding_all rfl)
def uf(xs:List V)(lo hi:Option Int):List V:=(xs.drop (HT.sIx xs.length 0 lo)).take (HT.sIx xs.length xs.length hi - HT.sIx xs.length 0 lo)
theorem t8(xs:List V)(lo hi:Option Int):(uf xs lo hi).length<=xs.length:=by
 unfold uf
 rw[List.length_take,List.length_drop]
 omega
def Fl(K:PySem.W.Frag):V->Option Int->Option Int->Hp->VK->Prop:=fun x lo hi H Q=>∃a xs,x=.ref a/\q8 K H a xs /\
 ¬ (HT.sIx xs.length 0 lo=0/\HT.sIx xs.length xs.length hi=xs.length)/\∀p,H p=none->Q (.ref p) (upd H p (.tup (uf xs lo hi)))
theorem Ck:BX X (Fl X.K):=by
 intro pins s σ H x v vl vu lo hi sl Q I rx hs pl pu h
 obtain⟨a,xs,rfl,hx,hw,q⟩:=h
 cases rx
 obtain⟨its,r,ht,hz⟩:=I.tuple hx
 have hlen:its.toArray.size=xs.length:=by rw[List.size_toArray];exact r.length.symm
 refine⟨"tuple",_,PyProof.Rows.slot_tuple_getitem.lookup,ht.typeIs,?_⟩
 refine HT.getItem_tuple_cut ht hs pl pu (by rw[hlen];exact hw) ?_ (by rw[hlen];exact hz)
 rw[hlen]
 refine⟨.ref s.heap.objs.size,_,I.laid (t':=s.toks) (o:=.tup (uf xs lo hi)) (fun b ob q=>Heap.get?_push_of_some _ q) (Nat.le_refl _) ?_,rfl,q _ (I.hok.fresh (Nat.le_refl _))⟩
 exact⟨Nat.le_trans (t8 xs lo hi) hz,_,(r.drop (HT.sIx xs.length 0 lo)).take (HT.sIx xs.length xs.length hi - HT.sIx xs.length 0 lo),pD.new _ _⟩
def Ea(K:PySem.W.Frag):R2:=fun x y H Q=>∃a b xs ys,x=.ref a/\y=.ref b/\q8 K H a xs/\q8 K H b ys/\xs ≠ []/\xs.length+ys.length<=sizeLine /\
 (ys=[]->Q (.ref a) H)/\(ys ≠ []->∀p,H p=none->Q (.ref p) (upd H p (.tup (xs++ys))))
theorem m9.nil_iff{xs:List V}{us:List Value}(r:m9 xs us):us=[]↔xs=[]:=by
 cases r with
 | nil=>simp
 | cons _ _=>simp
theorem Bp:OpR X (binaryOp .Add) (Ea X.K):=by
 intro pins s σ H x y v u Q I rx ry h
 obtain⟨a,b,xs,ys,rfl,rfl,ha,hb,hx,hz,q1,q2⟩:=h
 cases rx
 cases ry
 obtain⟨its,r1,p1,_⟩:=I.tuple ha
 obtain⟨its2,r2,p2,_⟩:=I.tuple hb
 refine HT.cat_tup p1 p2 (fun z=>hx (r1.nil_iff.mp z)) (fun z=>⟨.ref a,H,I,rfl,q1 (r2.nil_iff.mp z)⟩) (fun z=>?_) (by rw[<- r1.length,<- r2.length];exact hz)
 refine⟨.ref s.heap.objs.size,_,I.laid (t':=s.toks) (o:=.tup (xs++ys)) (fun b ob q=>Heap.get?_push_of_some _ q) (Nat.le_refl _) ?_,rfl,q2 (fun w=>z (r2.nil_iff.mpr w)) _ (I.hok.fresh (Nat.le_refl _))⟩
 exact⟨by rw[List.length_append];exact hz,_,r1.append r2,pD.new _ _⟩
end
end L2
namespace L2
open PySem PySem.Spec PyProof.Rows
def D6(n:Nat)(i:Int):Option Nat:=if 0<=i then (if i<n then some i.toNat else none) else if -(n:Int)<=i then some (i+n).toNat else none
def C_{α:Type}(xs:List α)(i:Int):Option α:=(D6 xs.length i).bind fun j=>xs[j]?
theorem AX{n:Nat}{i:Int}{j:Nat}(h:D6 n i=some j):seqIndex? i n=some j/\j<n /\ -(n:Int)<=i/\i<n:=by
 unfold D6 at h
 by_cases h0:0<=i
 ·rw[if_pos h0] at h
  by_cases h1:i<n
  ·rw[if_pos h1] at h
   have e:i.toNat=j:=Option.some.inj h
   exact⟨by rw[seqIndex_of h0 h1,e],by omega,by omega,h1⟩
  ·rw[if_neg h1] at h;cases h
 ·rw[if_neg h0] at h
  by_cases h1 : -(n:Int)<=i
  ·rw[if_pos h1] at h
   have e:(i+n).toNat=j:=Option.some.inj h
   exact⟨by rw[seqIndex_neg (by omega) h1,e],by omega,h1,by omega⟩
  ·rw[if_neg h1] at h;cases h
theorem v5{α:Type}{xs:List α}{i:Int}{v:α}(h:C_ xs i=some v):∃j,seqIndex? i xs.length=some j/\xs[j]?=some v/\j<xs.length /\ -(xs.length:Int)<=i/\i<xs.length:=by
 unfold C_ at h
 cases e:D6 xs.length i with
 | none=>rw[e] at h;cases h
 | some j =>
  rw[e] at h
  obtain⟨h1,h2,h3,h4⟩:=AX e
  exact⟨j,h1,h,h2,h3,h4⟩
def v4(b:Expr):Prop:=∀o i,subscripted b false o i=operate [o,i] (getItem o i)
def IxR(X:Cx)(r:R2):Prop:=
 ∀(value slice:Expr) (pins:List (Addr×Obj)) (s:Shared) (σ:St) (H:Hp) (x y:V) (v u:Value) (Q:VK),Inv X pins σ H s->RelV x v->RelV y u->r x y H Q ->
  subscripted slice false v u=operate [v,u] (getItem v u)->wpAny (model X.prog X.w) X.A (subscriptTail value slice v u) (EP X pins σ Q) X.xe s
def AZ(X:Cx)(id:String)(r:V->List V->Hp->VK->Prop):Prop:=
 ∀(pins:List (Addr×Obj)) (s:Shared) (σ:St) (H:Hp) (x:V) (xs:List V) (v:Value) (us:List Value) (Q:VK),Inv X pins σ H s->RelV x v->m9 xs us->r x xs H Q ->
  wpAny (model X.prog X.w) X.A (call (.builtin id) (v::us)) (EP X pins σ Q) X.xe s
section
variable{X:Cx}{a b:Expr}{ta tb:TE}{pos:Pos}
theorem IxR.or{r r':R2}(h:IxR X r)(h':IxR X r'):IxR X (fun x y H Q=>r x y H Q\/r' x y H Q):=by
 intro value slice pins s σ H x y v u Q I rx ry q hs
 rcases q with q | q
 ·exact h value slice pins s σ H x y v u Q I rx ry q hs
 ·exact h' value slice pins s σ H x y v u Q I rx ry q hs
theorem AZ.or{id:String}{r r':V->List V->Hp->VK->Prop}(h:AZ X id r)(h':AZ X id r'):AZ X id (fun x xs H Q=>r x xs H Q\/r' x xs H Q):=by
 intro pins s σ H x xs v us Q I rx rs q
 rcases q with q | q
 ·exact h pins s σ H x xs v us Q I rx rs q
 ·exact h' pins s σ H x xs v us Q I rx rs q
theorem mt{r:R2}(hr:IxR X r)(ha:PE X a ta)(hb:PE X b tb)(hs:v4 b):PE X (.Subscript a b pos) (EK r ta tb):=by
 intro pins s σ H Q I h
 exact Subscript_ (Cc ha hb I h fun v u s2 x y H2 I2 rx ry q=>hr a b pins s2 σ H2 x y v u Q I2 rx ry q (hs _ _))
def EM(K:PySem.W.Frag):R2:=fun x y H Q=>∃p xs i v,x=.ref p/\y=.int i/\qM K H p xs/\C_ xs i=some v/\Q v H
def E3(K:PySem.W.Frag):R2:=fun x y H Q=>∃p xs i v,x=.ref p/\y=.int i/\q8 K H p xs/\C_ xs i=some v/\Q v H
def Fw:R2:=fun x y H Q=>∃z i c,x=.str z/\y=.int i/\z.length<=sizeLine/\C_ z.cps.toList i=some c/\Q (.str ⟨#[c]⟩) H
theorem A9:IxR X (EM X.K):=by
 intro value slice pins s σ H x y v u Q I rx ry h hs
 obtain⟨p,xs,i,z,rfl,rfl,hq,he,q⟩:=h
 cases rx
 obtain⟨t,rfl⟩:=ry
 obtain⟨its,r,pl,hz⟩:=I.list hq
 obtain⟨j,h1,h2,h3,h4,h5⟩:=v5 he
 obtain⟨w,ew,rw'⟩:=r.get h2
 have hl:=r.length
 have hn:=uz
 have fin:EP X pins σ Q w s:=⟨z,H,I,rw',q⟩
 by_cases h0:0<=i
 ·have hj:i.toNat=j:=by
   rw[seqIndex_of h0 h5] at h1
   exact Option.some.inj h1
  exact item_listR pl.isList h0 (by omega) (by rw[hj];simpa using ew) fin hs
 ·have hj:(i+(its.toArray.size:Int)).toNat=j:=by
   rw[seqIndex_neg (by omega) h4] at h1
   rw[List.size_toArray,<- hl]
   exact Option.some.inj h1
  exact subscriptTail_builtinR (x:=w) pl.isList.typeIs slot_list_getitem.lookup
   (wpAny_getItem_list_neg (Q:=fun r s'=>r=w/\EP X pins σ Q r s') pl.isList (by omega) (by rw[List.size_toArray]<;>omega) (by omega) (by rw[hj];simpa using ew) ⟨rfl,fin⟩) hs
theorem De:IxR X (E3 X.K):=by
 intro value slice pins s σ H x y v u Q I rx ry h hs
 obtain⟨p,xs,i,z,rfl,rfl,hq,he,q⟩:=h
 cases rx
 obtain⟨t,rfl⟩:=ry
 obtain⟨its,r,pl,hz⟩:=I.tuple hq
 obtain⟨j,h1,h2,h3,h4,h5⟩:=v5 he
 obtain⟨w,ew,rw'⟩:=r.get h2
 have hl:=r.length
 have hn:=uz
 have fin:EP X pins σ Q w s:=⟨z,H,I,rw',q⟩
 exact subscriptTail_builtinR (x:=w) pl.typeIs slot_tuple_getitem.lookup
  (getItem_tuple (j:=j) (Q:=fun r s'=>r=w/\EP X pins σ Q r s') pl (by omega) (by omega) (by rw[List.size_toArray,<- hl];exact h1) (by simpa using ew) ⟨rfl,fin⟩) hs
theorem Cr:IxR X Fw:=by
 intro value slice pins s σ H x y v u Q I rx ry h hs
 obtain⟨z,i,c,rfl,rfl,hz,he,q⟩:=h
 obtain⟨t,rfl⟩:=rx
 obtain⟨t',rfl⟩:=ry
 obtain⟨j,h1,h2,h3,h4,h5⟩:=v5 he
 have hl:z.cps.toList.length=z.length:=by simp[Str.length]
 rw[hl] at h1 h4 h5
 have hn:=uz
 exact tail_any (typeIs_str s z t) slot_str_getitem.lookup (getItem_str (c:=c) (by
  have e1:decide (i < -(2 ^ 63:Int))=false:=decide_eq_false (by omega)
  have e2:decide (i ≥ 2 ^ 63)=false:=decide_eq_false (by omega)
  rw[e1,e2,Bool.or_false]) (by rw[h1];simpa using h2) ⟨.str ⟨#[c]⟩,H,I.tok _,⟨_,rfl⟩,q⟩) hs
theorem Inv.lst{pins:List (Addr×Obj)}{σ:St}{H:Hp}{s:Shared}{p:Addr}{xs:List V}(I:Inv X pins σ H s)(h:H p=some (.lst xs)) :
  ∃(its:List Value) (n:Nat),m9 xs its/\s.heap.get? p=some {cls:=.type "list",data:=.seq its.toArray n}/\xs.length<=sizeLine:=by
 obtain⟨z,its,n,r,e⟩:=I.hok p _ h
 exact⟨its,n,r,e,z⟩
theorem vO(lo hi:Option Int)(n:Nat):(sliceBounds lo hi none n).1=((HT.sIx n 0 lo:Nat):Int)/\(sliceBounds lo hi none n).2.1=((HT.sIx n n hi:Nat):Int)/\(sliceBounds lo hi none n).2.2=1:=by
 refine⟨?_,?_,rfl⟩
 ·cases lo with
  | none=>simp[sliceBounds,HT.sIx]
  | some i =>
   simp only[sliceBounds,HT.sIx,Option.getD_none,show(1:Int) > 0 by decide,if_true]
   by_cases h:i<0
   ·simp only[h,if_true]<;>omega
   ·simp only[h,if_false]<;>omega
 ·cases hi with
  | none=>simp[sliceBounds,HT.sIx]
  | some i =>
   simp only[sliceBounds,HT.sIx,Option.getD_none,show(1:Int) > 0 by decide,if_true]
   by_cases h:i<0
   ·simp only[h,if_true]<;>omega
   ·simp only[h,if_false]<;>omega
theorem va(its:List Value)(lo hi:Option Int):slicePick its.toArray lo hi none=((its.drop (HT.sIx its.length 0 lo)).take (HT.sIx its.length its.length hi - HT.sIx its.length 0 lo)).toArray:=by
 obtain⟨h1,h2,h3⟩:=vO lo hi its.toArray.size
 unfold slicePick
 rw[h1,h2,h3]
 simp only[sliceRange_one,pick_run,List.size_toArray]<;>rfl
def E5(K:PySem.W.Frag):V->Option Int->Option Int->Hp->VK->Prop:=fun x lo hi H Q=>∃a xs,x=.ref a/\qM K H a xs/\∀p,H p=none->Q (.ref p) (upd H p (.lst (uf xs lo hi)))
theorem A5:BX X (E5 X.K):=by
 intro pins s σ H x v vl vu lo hi sl Q I rx hs pl pu h
 obtain⟨a,xs,rfl,hx,q⟩:=h
 cases rx
 obtain⟨its,r,ht,hz⟩:=I.list hx
 have hlen:=r.length
 refine⟨"list",_,slot_list_getitem.lookup,ht.isList.typeIs,?_⟩
 refine wpAny_getItem_list_slice ht.isList hs pl pu .none (by simp) ?_ (by rw[List.size_toArray]<;>omega)
 rw[va,<- hlen]
 refine⟨.ref s.heap.objs.size,_,I.laid (t':=s.toks) (o:=.lst (uf xs lo hi)) (fun b ob q=>Heap.get?_push_of_some _ q) (Nat.le_refl _) ?_,rfl,q _ (I.hok.fresh (Nat.le_refl _))⟩
 exact⟨Nat.le_trans (t8 xs lo hi) hz,_,0,(r.drop (HT.sIx xs.length 0 lo)).take (HT.sIx xs.length xs.length hi - HT.sIx xs.length 0 lo),Heap.get?_push_size _ rfl⟩
theorem vS:CallR X (.builtin "len") (fun xs H Q=>∃p ys,xs=[.ref p]/\(qM X.K H p ys\/q8 X.K H p ys)/\Q (.int ys.length) H):=by
 intro pins s σ H xs us Q I r h
 obtain⟨p,ys,rfl,hq,q⟩:=h
 obtain⟨u,rfl,rx⟩:=vals1 r
 cases rx
 have hn:=uz
 rcases hq with hq | hq
 ·obtain⟨its,r',pl,hz⟩:=I.list hq
  have hlen:=r'.length
  exact Calls.call_len_list pl.isList (by simp only[List.size_toArray]<;>omega) ⟨.int ys.length,H,I.tok _,⟨s.toks+1,by rw[List.size_toArray,hlen]⟩,q⟩
 ·obtain⟨its,r',pl,hz⟩:=I.tuple hq
  have hlen:=r'.length
  exact len_tuple pl (by simp only[List.size_toArray]<;>omega) ⟨.int ys.length,H,I.tok _,⟨s.toks+1,by rw[List.size_toArray,hlen]⟩,q⟩
theorem CallR.or{f:Value}{r r':List V->Hp->VK->Prop}(h:CallR X f r)(h':CallR X f r'):CallR X f (fun xs H Q=>r xs H Q\/r' xs H Q):=by
 intro pins s σ H xs us Q I rs q
 rcases q with q | q
 ·exact h pins s σ H xs us Q I rs q
 ·exact h' pins s σ H xs us Q I rs q
theorem wa:CallR X (.type "list") (fun xs H Q=>∃p ys,xs=[.ref p]/\(qM X.K H p ys\/q8 X.K H p ys)/\∀l,H l=none->Q (.ref l) (upd H l (.lst ys))):=by
 intro pins s σ H xs us Q I r h
 obtain⟨p,ys,rfl,hq,q⟩:=h
 obtain⟨u,rfl,rx⟩:=vals1 r
 cases rx
 have fin:∀(its:List Value),m9 ys its->ys.length<=sizeLine->∀(h':Heap) (c':Nat),(∀b o',s.heap.get? b=some o'->h'.get? b=some o') ->
   h'.get? s.heap.objs.size=some {cls:=.type "list",dict:=none,data:=.seq its.toArray c',slots:=#[]}->EP X pins σ Q (.ref s.heap.objs.size) {s with heap:=h' }:=fun its r' hz h' c' kp e =>
  ⟨.ref s.heap.objs.size,_,I.laid (t':=s.toks) kp (Nat.le_refl _) (show qg X.prog X.w _ h' _ (.lst ys) from⟨hz,its,c',r',e⟩),rfl,q _ (I.hok.fresh (Nat.le_refl _))⟩
 rcases hq with hq | hq
 ·obtain⟨its,r',pl,hz⟩:=I.list hq
  have hlen:=r'.length
  obtain⟨o,ho,hc,n,hd⟩:=pl.isList
  exact call_list_seq p (.inl rfl) ho hc hd (fun h' c' kp e=>fin its r' hz h' c' kp e) (by simp only[List.size_toArray]<;>omega)
 ·obtain⟨its,r',pl,hz⟩:=I.tuple hq
  have hlen:=r'.length
  obtain⟨o,ho,hc,n,hd⟩:=pl
  exact call_list_seq p (.inr rfl) ho hc hd (fun h' c' kp e=>fin its r' hz h' c' kp e) (by simp only[List.size_toArray]<;>omega)
theorem vk:CallR X (.type "tuple") (fun xs H Q=>∃p ys,xs=[.ref p]/\((qM X.K H p ys/\∀l,H l=none->Q (.ref l) (upd H l (.tup ys)))\/(q8 X.K H p ys/\Q (.ref p) H))):=by
 intro pins s σ H xs us Q I r h
 obtain⟨p,ys,rfl,h⟩:=h
 obtain⟨u,rfl,rx⟩:=vals1 r
 cases rx
 rcases h with ⟨hq,q⟩ | ⟨hq,q⟩
 ·obtain⟨its,r',pl,hz⟩:=I.list hq
  have hlen:=r'.length
  refine call_tuple_list pl.isList (fun h' kp=>?_) (by simp only[List.size_toArray]<;>omega)
  have I1:Inv X pins σ H {s with heap:=h' }:=I.kept (t':=s.toks) kp
  have I2:Inv X pins σ (upd H h'.objs.size (.tup ys)) {s with heap:=h'.push {cls:=.type "tuple",data:=.seq its.toArray} }:=
   I1.laid (t':=s.toks) (fun b o e=>Heap.get?_push_of_some _ e) (Nat.le_refl _) (show qg X.prog X.w _ _ _ (.tup ys) from⟨hz,its,r',pD.new _ _⟩)
  exact⟨.ref h'.objs.size,_,I2,rfl,q _ (I1.hok.fresh (Nat.le_refl _))⟩
 ·obtain⟨its,r',pl,hz⟩:=I.tuple hq
  exact call_tuple_same pl ⟨.ref p,H,I,rfl,q⟩
def EZ(K:PySem.W.Frag)(T:String)(x:V)(H:Hp):Prop:=match x with
 | .str _=>T = "str"
 | .int _=>T = "int"
 | .ref p=>(T = "list" /\ ∃xs,qM K H p xs)\/(T = "tuple" /\ ∃o,K.lookup p=some o/\o.cls=.type "tuple" /\ o.dict=none) \/
   (T = "dict" /\ ((∃kvs,H p=some (.dK kvs))\/∃kvs,H p=some (.dT kvs)))\/(T = "set" /\ ∃S n,H p=some (.set S n))
 | _=>False
theorem Ag{pins:List (Addr×Obj)}{σ:St}{H:Hp}{s:Shared}{T:String}{x:V}{v:Value}(I:Inv X pins σ H s)(r:RelV x v)(ty:EZ X.K T x H) :
  s.TypeIs v T/\∀a,v=.ref a->∃ob,s.heap.get? a=some ob/\ob.dict=none:=by
 cases x with
 | str z =>
  obtain⟨t,rfl⟩:=r
  cases (show T = "str" from ty)
  exact⟨typeIs_str s z t,fun _ e=>nomatch e⟩
 | int i =>
  obtain⟨t,rfl⟩:=r
  cases (show T = "int" from ty)
  exact⟨typeIs_int s i t,fun _ e=>nomatch e⟩
 | ref p =>
  cases r
  rcases ty with ⟨rfl,xs,hq⟩ | ⟨rfl,o,hk,hc,hd⟩ | ⟨rfl,hk⟩ | ⟨rfl,S,n,hk⟩
  ·obtain⟨its,_,pl,_⟩:=I.list hq
   refine⟨pl.isList.typeIs,fun a e=>?_⟩
   cases e
   obtain⟨o,n,e,c,hd,_⟩:=pl
   exact⟨o,e,hd⟩
  ·refine⟨⟨o,I.kIn p o hk,hc⟩,fun a e=>?_⟩
   cases e
   exact⟨o,I.kIn _ o hk,hd⟩
  ·have z:∃o,s.heap.get? p=some o/\o.ExactDict:=by
    rcases hk with ⟨kvs,hk⟩ | ⟨kvs,hk⟩
    ·obtain⟨_,_,_,_,o,_,_,e,ex,_⟩:=I.hok p _ hk
     exact⟨o,e,ex⟩
    ·obtain⟨_,_,_,_,o,_,_,e,ex,_⟩:=I.hok p _ hk
     exact⟨o,e,ex⟩
   obtain⟨o,e,ex⟩:=z
   refine⟨⟨o,e,ex.1⟩,fun a e2=>?_⟩
   cases e2
   exact⟨o,e,ex.2.1⟩
  ·obtain⟨o,_,_,_,e,ex,_⟩:=I.hok p _ hk
   refine⟨⟨o,e,ex.1⟩,fun a e2=>?_⟩
   cases e2
   exact⟨o,e,ex.2.1⟩
 | _=>exact False.elim ty
def FH(K:PySem.W.Frag)(T:String)(r:V->List V->Hp->VK->Prop)(to:TE):TE:=fun σ H Q=>to σ H fun x H1=>EZ K T x H1/\r x [] H1 Q
def GG(K:PySem.W.Frag)(T:String)(r:V->List V->Hp->VK->Prop)(to:TE)(t:TA):TE:=fun σ H Q=>to σ H fun x H1=>EZ K T x H1/\t σ H1 fun xs H2=>r x xs H2 Q
variable{o e:Expr}{es:List Expr}{to:TE}{t:TA}{name:Str}{apos cpos:Pos}{T id:String}{r:V->List V->Hp->VK->Prop}
theorem mE(pa:PlainAttrs T)(slot:Slot T name id)(hty:typeOf (.builtin id)=pure (.type "method_descriptor"))(hm:AZ X id r)(ho:PE X o to)
  (hbase:attributeBase o name X.env (eval o X.env)=eval o X.env:=by rfl) (hline:(apos.endLine==cpos.line)=true:=by rfl):PE X (.Call (.Attribute o name apos) [] [] cpos) (FH X.K T r to):=by
 intro pins s σ H Q I h
 refine wpAny_Call_method0_late hbase hline (oy (ho pins s σ H _ I h) fun v s1 ⟨x,H1,I1,r1,ty,q1⟩=>?_)
 obtain⟨h1,h2⟩:=Ag I1 r1 ty
 exact⟨T,id,pa,slot,hty,h1,h2,Calls.callWith_builtin rfl (PySem.evalArgs_none (hm pins s1 σ H1 x [] v [] Q I1 r1 .nil q1))⟩
theorem ng (pa:PlainAttrs T) (slot:Slot T name id) (hty:typeOf (.builtin id)=pure (.type "method_descriptor")) (hm:AZ X id r) (ho:PE X o to) (ha:PA X (e::es) t)
    (hbase:attributeBase o name X.env (eval o X.env)=eval o X.env:=by rfl)
    (hfew:((backTo cpos (starEach (e::es) X.env)).all (fun x=>!x.1)&&(backToKw cpos (keywordEach [] X.env)).all (fun x=>x.1.isSome)
      && decide ((e::es).length+([]:List Keyword).length+(if ([]:List Keyword).isEmpty then 0 else 1)<30))=true:=by rfl)
    (hline:(apos.endLine==cpos.line)=true:=by rfl) (hs:starEach (e::es) X.env=(false,eval e X.env)::starEach es X.env:=by rfl) (hplain:(backTo cpos (starEach es X.env)).any (·.1)=false:=by rfl) :
    PE X (.Call (.Attribute o name apos) (e::es) [] cpos) (GG X.K T r to t):=by
  intro pins s σ H Q I h
  refine wpAny_Call_method_late hbase hfew hline rfl (oy (ho pins s σ H _ I h) fun v s1 ⟨x,H1,I1,r1,ty,q1⟩=>?_)
  obtain⟨h1,h2⟩:=Ag I1 r1 ty
  refine⟨T,id,pa,slot,hty,h1,h2,?_⟩
  have hA:=ha cpos pins s1 σ H1 _ I1 q1
  rw[hs] at hA ⊢
  refine Calls.callWith_builtin (by show(false||(backTo cpos (starEach es X.env)).any (·.1))=false;rw[hplain]<;>rfl) (Calls.evalArgs_plain ?_)
  exact oy hA fun us s2 ⟨vs,H2,I2,r2,q2⟩=>hm pins s2 σ H2 x vs v us Q I2 r1 r2 q2
/- xs.append(e),list.index on a module's tuple .. are AZ facts of 06m -/
end
end L2
namespace L2
open PySem PySem.Spec PyProof.Rows
def E7(X:Cx)(id:String)(r:V->List V->Hp->VK->Prop):Prop:=
 ∀(pins:List (Addr×Obj)) (s:Shared) (σ:St) (H:Hp) (x:V) (xs:List V) (v:Value) (us:List Value) (Q:VK),Inv X pins σ H s->RelV x v->m9 xs us->r x xs H Q ->
  wpAny (model X.prog X.w) X.A (call (.builtin id) (v::us)) (EP X pins σ Q) X.xe s
theorem m9.one:∀{x:V} {us:List Value},m9 [x] us->∃u,us=[u]/\RelV x u
 | _,_,h=>by cases h with | cons r t=>cases t;exact⟨_,rfl,r⟩
theorem m9.two:∀{x y:V} {us:List Value},m9 [x,y] us->∃u v,us=[u,v]/\RelV x u/\RelV y v
 | _,_,_,h=>by cases h with | cons r t=>cases t with | cons q t=>cases t;exact⟨_,_,rfl,r,q⟩
theorem m9.zero:∀{us:List Value},m9 [] us->us=[]
 | _,.nil=>rfl
theorem m9.eraseIdx:∀{xs:List V} {us:List Value} (i:Nat),m9 xs us->m9 (xs.eraseIdx i) (us.eraseIdx i)
 | _,_,_,.nil=>.nil
 | _,_,0,.cons _ t=>t
 | _,_,i+1,.cons r t=>.cons r (m9.eraseIdx i t)
theorem m9.reverse{xs:List V}{us:List Value}(h:m9 xs us):m9 xs.reverse us.reverse:=by
 induction h with
 | nil=>exact .nil
 | cons r t ih=>rw[List.reverse_cons,List.reverse_cons];exact m9.append ih (.cons r .nil)
theorem m9.rep{xs:List V}{us:List Value}(h:m9 xs us):∀k:Nat,m9 (List.replicate k xs).flatten (List.replicate k us).flatten
 | 0=>.nil
 | k+1=>by
  rw[List.replicate_succ,List.replicate_succ,List.flatten_cons,List.flatten_cons]
  exact m9.append h (m9.rep h k)
theorem foldl_rep(its:List Value):∀(k:Nat) (acc:List Value),
  List.foldl (fun x1 x2=>x1++x2) acc.toArray (List.replicate k its.toArray)=(acc++(List.replicate k its).flatten).toArray
 | 0,acc=>by simp
 | k+1,acc=>by
  have e:acc.toArray++its.toArray=(acc++its).toArray:=by simp
  have e2:(acc++its)++(List.replicate k its).flatten=acc++(List.replicate (k+1) its).flatten:=by
   rw[List.replicate_succ,List.flatten_cons,List.append_assoc]
  rw[<- e2,<- foldl_rep its k (acc++its),<- e,List.replicate_succ,List.foldl_cons]
section
variable{X:Cx}{pins:List (Addr×Obj)}{σ:St}{H:Hp}{s:Shared}{l b:Addr}{xs ys zs:List V}
theorem Inv.lset{its its':List Value}{n:Nat}{f:Array Value->Array Value}{t':Nat}(I:Inv X pins σ H s)(hH:H l=some (.lst xs))
  (e:s.heap.get? l=some {cls:=.type "list",data:=.seq its.toArray n}) (hf:f its.toArray=its'.toArray) (hv:m9 ys its') (hz:ys.length<=sizeLine) :
  Inv X pins σ (upd H l (.lst ys)) {s with heap:=s.heap.update l (Obj.mapSeq f),toks:=t' }:=by
 have q:=PySem.IsL.update e f
 rw[hf] at q
 refine I.write (x:=l) (e:=l) (by rw[hH];exact trivial) (.inl rfl) (fun b' u hb hu=>(Heap.get?_update_other s.heap (Obj.mapSeq f) (Ne.symm hb)).trans hu) ⟨_,q⟩ ?_
 exact⟨hz,its',_,hv,q⟩
theorem Inv.lnew{its:List Value}{t':Nat}(I:Inv X pins σ H s)(hv:m9 ys its)(hz:ys.length<=sizeLine) :
  Inv X pins σ (upd H s.heap.objs.size (.lst ys)) {s with heap:=s.heap.push {cls:=.type "list",data:=.seq its.toArray},toks:=t' }:=
 I.laid (fun _ _ q=>Heap.get?_push_of_some _ q) (Nat.le_refl _) ⟨hz,its,0,hv,Heap.get?_push_size _ rfl⟩
theorem Inv.fresh(I:Inv X pins σ H s):H s.heap.objs.size=none:=I.hok.fresh (Nat.le_refl _)
theorem Inv.lstM(I:Inv X pins σ H s)(hH:H l=some (.lst xs)):xs.length<=sizeLine/\∃(its:List Value) (n:Nat),m9 xs its/\xs.length=its.length/\s.heap.get? l=some {cls:=.type "list",data:=.seq its.toArray n}:=by
 obtain⟨z,its,n,r,e⟩:=I.hok l _ hH
 exact⟨z,its,n,r,r.length,e⟩
theorem Ar{n:Nat}(h:n<=sizeLine):Builtin.List.listTooLong n=false:=by
 unfold Builtin.List.listTooLong
 exact decide_eq_false (by omega)
end
section
variable{X:Cx}
def AL:V->List V->Hp->VK->Prop:=fun x vs H Q=>∃l xs y,x=.ref l/\vs=[y]/\H l=some (.lst xs)/\xs.length<sizeLine/\Q .non (upd H l (.lst (xs++[y])))
theorem kD:E7 X "list.append" AL:=by
 intro pins s σ H x vs v us Q I rx rv h
 obtain⟨l,xs,y,rfl,rfl,hH,hz,q⟩:=h
 cases rx
 obtain⟨u,rfl,ru⟩:=rv.one
 obtain⟨z,its,n,r,hl,e⟩:=I.lstM hH
 refine call_meets F.slot_list_append ⟨_,e,rfl⟩ F.entry_list_append (F.args_list_append_2 _ _) (PySem.list_append l its.toArray n u (by rw[List.size_toArray];omega)) ⟨e,?_⟩
 refine⟨.non,_,I.lset (its':=its++[u]) hH e (by simp) (r.append (.cons ru .nil)) ?_,rfl,q⟩
 rw[List.length_append,List.length_singleton]
 omega
def Bh:V->List V->Hp->VK->Prop:=fun x vs H Q=>∃l b xs zs,x=.ref l/\vs=[.ref b]/\H l=some (.lst xs)/\H b=some (.lst zs)/\xs.length+zs.length<=sizeLine/\Q .non (upd H l (.lst (xs++zs)))
theorem kG:E7 X "list.extend" Bh:=by
 intro pins s σ H x vs v us Q I rx rv h
 obtain⟨l,b,xs,zs,rfl,rfl,hH,hB,hz,q⟩:=h
 cases rx
 obtain⟨u,rfl,ru⟩:=rv.one
 cases ru
 obtain⟨z,its,n,r,hl,e⟩:=I.lstM hH
 obtain⟨z2,its2,n2,r2,hl2,e2⟩:=I.lstM hB
 have hsz:its.toArray.size+its2.toArray.size<=sizeLine:=by rw[List.size_toArray,List.size_toArray];omega
 have hlong:¬ (!its.toArray.isEmpty&&Builtin.List.listTooLong (its.toArray.size+its2.toArray.size))=true:=by
  rw[Ar hsz,Bool.and_false]
  exact Bool.false_ne_true
 refine call_meets F.slot_list_extend ⟨_,e,rfl⟩ F.entry_list_extend (F.args_list_extend_2 _ _)
  (AutoSeq1.list_extend_list_list_0 l its.toArray n b its2.toArray n2 hlong (by rw[List.size_toArray];omega) (by omega)) ⟨e,e2,?_⟩
 refine⟨.non,_,I.lset (its':=its++its2) hH e (by simp) (r.append r2) ?_,rfl,q⟩
 rw[List.length_append]
 omega
def EX:R2:=fun x y H Q=>∃l b xs zs,x=.ref l/\y=.ref b/\H l=some (.lst xs)/\H b=some (.lst zs)/\xs.length+zs.length<=sizeLine/\∀p,H p=none->Q (.ref p) (upd H p (.lst (xs++zs)))
theorem BZ:OpR X (binaryOp .Add) EX:=by
 intro pins s σ H x y v u Q I rx ry h
 obtain⟨l,b,xs,zs,rfl,rfl,hH,hB,hz,q⟩:=h
 cases rx
 cases ry
 obtain⟨z,its,n,r,hl,e⟩:=I.lstM hH
 obtain⟨z2,its2,n2,r2,hl2,e2⟩:=I.lstM hB
 refine PySem.P.add_list e e2 ?_ (by rw[List.size_toArray,List.size_toArray];omega)
 have ea:its.toArray++its2.toArray=(its++its2).toArray:=by simp
 rw[ea]
 exact⟨.ref _,_,I.lnew (t':=s.toks) (r.append r2) (by rw[List.length_append];omega),rfl,q _ I.fresh⟩
theorem jP{α:Type}(xs:List α)(k:Nat):(List.replicate k xs).flatten.length=k*xs.length:=by
 induction k with
 | zero=>simp
 | succ k ih=>rw[List.replicate_succ,List.flatten_cons,List.length_append,ih,Nat.succ_mul,Nat.add_comm]
end
section
variable{prog:Program}{w:World}{A:Around}{E:Value->Shared->Prop}{s:Shared}
set_option maxRecDepth 100000 in
end
section
variable{X:Cx}
end
end L2
namespace Att
open PySem PySem.W PySem.Calls PyProof.Rows
theorem fH{P:Params}{h:Heap}:∀(ns:List Int) (vs:List Value),WellAll P h vs (ns.map WData.int)->IntsAre vs ns:=by
 intro ns
 induction ns with
 | nil =>
  intro vs w
  rw[List.map_nil] at w
  cases w
  exact .nil
 | cons n ns ih =>
  intro vs w
  rw[List.map_cons] at w
  cases w with
  | cons a b =>
   cases a
   exact .cons _ _ (ih _ b)
theorem y6{l:OpenLaw}{n:Nat}(hn:l.most=some n){P:Params}{h:Heap}{args:List WData}{vals:List Value}
  (hpre:l.row.toRowW.claim.pre args=true) (hwl:WellAll P h vals args) :
  ∃a vs ns,vals=[Value.ref a]/\args=[WData.list (ns.map WData.int)]/\h.get? a=some {cls:=.type "list",data:=.seq vs.toArray}/\IntsAre vs ns/\ns.length<=n:=by
 have hsh:WShape.hasAll [] args [.list .int]=true:=(pre_splitW hpre).1
 have hc:l.pre.holds [] {args:=args}=true:=(pre_splitW hpre).2
 obtain⟨d,r,rfl,h1,h2⟩:=hasAllW_cons hsh
 obtain rfl:=hasAllW_nil h2
 obtain⟨xs,rfl,h3⟩:=hasW_list h1
 obtain⟨ns,rfl⟩:=items_int h3
 have hlen:ns.length<=n:=by
  unfold OpenLaw.pre at hc
  have h4:(WTm.not (.lt (.lit (.int (n:Int))) (.len (.arg 0)))).holds [] {args:=[.list (ns.map .int)]}=true:=by
   have h4:=(holds_andW hc).1
   rw[hn] at h4
   exact h4
  have h5:=condW_of h4 (w_not (w_lt w_lit (w_len_list (w_arg rfl))))
  rw[List.length_map] at h5
  refine Nat.le_of_not_lt fun q=>?_
  have q':(n:Int)<((ns.length:Nat):Int):=by omega
  first
   | (rw[decide_eq_true q'] at h5;exact absurd h5 (by decide))
   | (simp at h5;omega)
 cases hwl with
 | cons w1 w2 =>
  cases w2
  cases w1 with
  | list ho hall=>exact⟨_,_,ns,rfl,rfl,ho,fH ns _ hall,hlen⟩
theorem yR(l:OpenLaw)(args:List WData):l.row.toRowW.claim.post args (.bool true) args=true:=
 postW_of (r:=l.row.toRowW) (X:=(true==true))
  (show WShape.has [] (.bool true) .bool=true by first | rfl | decide | simp[WShape.has,WShape.arms,WShape.armsAll])
  (show(WTm.eq .res (.lit (.bool true))).value [] {args:=args,res:=some (.bool true),after:=args}=some (.bool (true==true)) from w_eq_bool (w_res rfl) w_lit) rfl
theorem attach_call {l:OpenLaw} {n:Nat} {q:Program} {loose:List Str} {XP:(Str->Option Value)->Heap->Prop} {YP:World->Heap->Prop} {d:DefRec}
    (hn:l.most=some n) (hdf:d.params.defaults=[])
    (call:∀(w:World) (s₀ s₁:Shared) (mg mb:Str->Option Value) (fa:Addr) (o:Obj) (pm cd doc:Value) (a:Addr) (vs:List Value) (ns:List Int),
      Ground q loose [] XP w s₀ mg mb s₁.heap->YP w s₁.heap ->
      s₁.heap.get? fa=some o->o.data=.func (docDef d.name d.params d.body d.scope pm cd doc)->s₁.heap.CodeRec cd d.name->mg d.name=some (.ref fa) ->
      s₁.heap.get? a=some {cls:=.type "list",data:=.seq vs.toArray}->IntsAre vs ns->ns.length<=n->s₁.gens=#[] ->
      codeAny (model l.prog w) callerA (.call (.ref fa) ⟨[.ref a],[]⟩) (fun r s'=>r=.ok (.ret (.bool true))/\OldK s₁.heap s'.heap/\s'.os=s₁.os/\AllBare s'.gens) s₁) :
    WalkO q loose XP YP l.row.toRowW d [] (fun f vs=>PySem.call f vs):=by
  intro w s₀ s₁ mg mb G Y fa o pm cd doc dV kV ho hd hcd hD hmg hg args vals as hpre hlay hrd hwl hlo
  obtain rfl:dV=.none:=Dflts.none hD hdf
  obtain rfl:kV=.none:=Dflts.noKw hD
  obtain⟨a,vs,ns,rfl,rfl,hobj,hints,hlen⟩:=y6 hn hpre hwl
  refine enter_call (codeAny_mono (call w s₀ s₁ mg mb fa o pm cd doc a vs ns G Y ho (fd_plain hd) hcd hmg hobj hints hlen hg) fun r s' hq=>?_)
  obtain⟨rfl,h2,h3,h4⟩:=hq
  exact⟨.inl ⟨.bool true,.bool true,[],rfl,fun _=>rfl,.bool true,yR l _,fun _=>⟨List.Pairwise.nil,fun _ hm=>(nomatch hm)⟩⟩,h2,h3,h4⟩
section
variable{prog:Program}{w:World}{A:Around}{E:Value->Shared->Prop}{s:Shared}{K:Frag}
def ledger(h:Heap)(L d:Addr):List (Addr×Obj):=(List.range h.objs.size).filterMap fun a=>if a=L\/a=d then none else (h.get? a).map fun o=>(a,o)
end
end Att
namespace L2
open PySem PySem.Spec PyProof.Rows
theorem bZ:∀{vs:List Value} {ns:List Int},IntsAre vs ns->m9 (ns.map V.int) vs
 | _,_,.nil=>.nil
 | _,_,.cons n t h=>.cons ⟨t,rfl⟩ (bZ h)
def Dd(H:Hp):Prop:=∀b,H b=none\/∃o xs,H b=some (.frz o (.lst xs))
theorem zG{P:Program}{w:World}{K:PySem.W.Frag}{mg mb:Str->Option Value}{CX:yV}{k:Nat}{fa a:Addr}{fd:FuncData}{x:Str}{sp:Sp}{s₁:Shared}{vs:List Value}{ns:List Int}
  (KX:K.In s₁.heap) (hns:s₁.heap.Ns mainGlobals mg) (hb:s₁.heap.Ns builtinsNs mb) (hbb:∀x:Str,x ≠ "__name__" -> mb x=bootBuiltins x) (hlim:s₁.heap.NoLimit) (hg:s₁.gens=#[])
  (ha:s₁.heap.get? a=some {cls:=.type "list",data:=.seq vs.toArray}) (hi:IntsAre vs ns) (hl:ns.length<=sizeLine) (hr:oI k callerA)
  (F:∀base:Heap,K.In base->base.Ns mainGlobals mg->nK P w K mg base CX k fa fd [x] sp) (hbind:∀(s:Shared) (u:Value),BindsTo s fd ⟨[u],[]⟩ [(x,u)])
  (hsp:∀H:Hp,Dd H->qM K H a (ns.map V.int)->sp [.ref a] H (fun v _=>v=.bl true) fun _ _ _=>False)
  (hCX:∀H e s',CX [] H s₁ (fun _ _ _=>False) e s'->False) :
  codeAny (model P w) callerA (.call (.ref fa) ⟨[.ref a],[]⟩) (fun r s'=>r=.ok (.ret (.bool true))/\OldK s₁.heap s'.heap/\s'.os=s₁.os/\AllBare s'.gens) s₁:=by
 have rv:=bZ hi
 have lenV:=hi.length
 have core:∀H:Hp,Dd H->qM K H a (ns.map V.int)->uE P w H s₁.heap->(∀b,H b≠none->b=a)->(H a≠none->K.lookup a=none) ->
   codeAny (model P w) callerA (.call (.ref fa) ⟨[.ref a],[]⟩) (fun r s'=>r=.ok (.ret (.bool true))/\OldK s₁.heap s'.heap/\s'.os=s₁.os/\AllBare s'.gens) s₁:=by
  intro H hO hS hok hA hK
  have base_of:∀{b:Addr} {o:Obj},s₁.heap.get? b=some o->H b=none->(wl s₁.heap H).get? b=some o:=fun e n=>Af e n
  have noA:∀{b:Addr} {o:Obj} {es:Array DictEntry} {ep:Nat},s₁.heap.get? b=some o->o.data=.dict es ep->H b=none:=fun {b o es ep} e d=>by
   cases q:H b with
   | none=>rfl
   | some u =>
    have e':b=a:=hA b (by rw[q];simp)
    subst e'
    rw[ha] at e;cases e
    have d':Data.seq vs.toArray _=Data.dict es ep:=d
    cases d'
  have nsK:∀{b:Addr} {m:Str->Option Value},s₁.heap.Ns b m->(wl s₁.heap H).Ns b m:=fun {b m} ⟨o,es,ep,e,d,r⟩=>⟨o,es,ep,base_of e (noA e d),d,r⟩
  have hKb:K.In (wl s₁.heap H):=fun b o e=>base_of (KX b o e) (by
   cases q:H b with
   | none=>rfl
   | some u =>
    have e':b=a:=hA b (by rw[q];simp)
    subst e'
    rw[hK (by rw[q];simp)] at e;cases e)
  have hM:Mod K mg (wl s₁.heap H):=⟨hKb,nsK hns,⟨mb,nsK hb,hbb⟩,let ⟨mc,h1,h2⟩:=hlim;⟨mc,nsK h1,h2⟩⟩
  have e0:vj P w K mg (wl s₁.heap H) callerA [] s₁ H:=⟨rfl,hM,fun b o e=>Bg e,Nat.le_of_eq (yW _ _),trivial,fun b hb=>absurd (show b∈([]:List Addr) from hb) (by simp),hok,.of_eq hg⟩
  refine codeAny_mono ((F _ hKb (nsK hns)).run callerA [] s₁ H ⟨[.ref a],[]⟩ [.ref a] [.ref a] _ _ hr e0 (hbind s₁ (.ref a)) (.cons rfl .nil) (hsp H hO hS)) fun r s' h=>?_
  cases r with
  | error e=>exact(hCX H e s' h).elim
  | ok fl =>
   cases fl with
   | next=>exact False.elim h
   | brk=>exact False.elim h
   | cont=>exact False.elim h
   | ret u =>
    obtain⟨v,H',os,bare,un,hok',r',q⟩:=h
    have q':v=.bl true:=q
    subst q'
    obtain rfl:u=Value.bool true:=r'
    refine⟨rfl,OldK.of_keep fun b o e=>?_,os,bare⟩
    cases q:H b with
    | none=>exact un.keep b o e q (by intro z;exact absurd (show b∈([]:List Addr) from z) (by simp)) (by simp)
    | some u =>
     rcases hO b with z | ⟨ob,xs,z⟩
     ·rw[q] at z;cases z
     ·have z2:=un.frzs b ob _ (fun y q=>by cases q) z
      obtain⟨e1,_⟩:=hok b _ z
      obtain⟨e2,_⟩:=hok' b _ z2
      rw[e] at e1;cases e1
      exact e2
 cases hk:K.lookup a with
 | some o =>
  have e:=KX a o hk
  rw[ha] at e
  cases e
  refine core (fun _=>none) (fun _=>.inl rfl) (.inr ⟨_,vs.toArray,_,hk,rfl,rfl,rfl,by rw[List.size_toArray,lenV];exact hl,by simpa using rv⟩) (fun b u z=>by have z':(none:Option HO)=some u:=z;cases z') (fun b z=>absurd rfl z) fun z=>absurd rfl z
 | none =>
  refine core (fun b=>if b=a then some (.frz {cls:=.type "list",data:=.seq vs.toArray} (.lst (ns.map V.int))) else none) (fun b=>?_) (.inl (.inr ⟨{cls:=.type "list",data:=.seq vs.toArray},if_pos rfl⟩)) (fun b u z=>?_) (fun b z=>?_) fun _=>hk
  ·by_cases hb:b=a
   ·exact .inr ⟨_,_,if_pos hb⟩
   ·exact .inl (if_neg hb)
  ·by_cases hb:b=a
   ·have z':=(if_pos hb).symm.trans z
    cases z'
    subst hb
    exact⟨ha,by rw[List.length_map];exact hl,vs,_,rv,ha⟩
   ·have z':=(if_neg hb).symm.trans z
    cases z'
  ·by_cases hb:b=a
   ·exact hb
   ·exact absurd (if_neg hb) z
end L2
namespace L2
open PySem PySem.Spec PyProof.Rows
abbrev KOf{K:PySem.W.Frag}{h:Heap}(_:K.In h):PySem.W.Frag:=K
theorem walk_of {l:PySem.W.OpenLaw} {n k:Nat} {q:Program} {loose:List Str} {XP:(Str->Option Value)->Heap->Prop} {YP:World->Heap->Prop} {d:DefRec} {K:Params->PySem.W.Frag} {CX:World->yV} {sp:World->Sp} {x:Str}
    (hn:l.most=some n) (hn2:n<=sizeLine) (hdf:d.params.defaults=[]) (hr:oI k callerA)
    (hY:∀(w:World) (h:Heap),YP w h->(K w.params).In h)
    (F:∀(w:World) (mg:Str->Option Value) (fa:Addr) (h:Heap),(K w.params).In h->h.Ns mainGlobals mg->mg d.name=some (.ref fa) ->
      ∃fd:FuncData,(∀(s:Shared) (u:Value),BindsTo s fd ⟨[u],[]⟩ [(x,u)]) /\
        ∀base:Heap,(K w.params).In base->base.Ns mainGlobals mg->nK l.prog w (K w.params) mg base (CX w) k fa fd [x] (sp w))
    (hsp:∀(w:World) (H:Hp) (a:Addr) (ns:List Int),ns.length<=n->Dd H->qM (K w.params) H a (ns.map V.int)->sp w [.ref a] H (fun v _=>v=.bl true) fun _ _ _=>False)
    (hCX:∀(w:World) (H:Hp) (s:Shared) (e:Value) (s':Shared),CX w [] H s (fun _ _ _=>False) e s'->False) :
    PySem.W.WalkO q loose XP YP l.row.toRowW d [] (fun f vs=>PySem.call f vs):=by
  refine Att.attach_call hn hdf fun w s₀ s₁ mg mb fa o pm cd doc a vs ns G Y ho hd hcd hmg hobj hints hlen hg=>?_
  have KX:=hY w _ Y
  obtain⟨fd,hb,hF⟩:=F w mg fa _ KX G.T.g hmg
  exact zG KX G.T.g G.T.b G.T.builtins G.T.nolimit hg hobj hints (Nat.le_trans hlen hn2) hr hF hb (fun H hO hS=>hsp w H a ns hlen hO hS) fun H e s'=>hCX w H s₁ e s'
end L2
/- THE LAST THEOREM (shape;LID,My.* are yours):
  My.Adr: a structure of the addresses that your layer names (classes,functions);My.Txt K t: a structure (Prop) of the equations over K;
  My.txt_mk:{K} {implicit addresses ..} (e1:nsIn K mainGlobals "law" = some (some (.ref f))) (e2:K.lookup f=some ⟨oc,od,.func (fnOf "law" "law" params body scope dV kV doc pm an cdv ct),sl⟩) (e3:codeIn K cdv "law" = true) ..:∃t,My.Txt K t
set_option maxRecDepth 100000 in
set_option maxHeartbeats 0 in
theorem PySem.Challenge.cw_LID_holds : PySem.Challenge.rw_LID.Holds := by
 w_on;o_law;k_head;(case hw=>w_witness2)
 k_fill
 refine L2.walk_of (l:=PySem.Challenge.rw_LID) (n:=63) (k:=40) (x:="script") (CX:=fun w=>..) (sp:=fun _=>My.sp_law) rfl (by decide) rfl ⟨rfl,by decide,by decide⟩ (fun w h Y=>PySem.W.kIn_of Y) ?F ?S ?C
 case F =>
  intro w mg fa h KX G hmg
  have T:∃t,My.Txt (L2.KOf KX) t:=by
   dsimp only [L2.KOf]                          -- K must stand as «<heap const> w.params» for k_is
   refine' My.txt_mk ?e1 ?e2 ?e3 ..
   (case e1=>PySem.W.k_is)                    -- in the order: a name->its address->its object->its parts
   (case e2=>PySem.W.k_is)
   ..
  obtain⟨t,T⟩:=T
  have e0:=hmg.symm.trans (PySem.W.mg_of KX G T.law)
  cases e0                                       -- fa is the law's own address
  exact⟨_,fun s u=>.of_eq rfl,fun base kb nb=>My.law_fn T kb nb⟩     -- if «.of_eq rfl» comes too early: refine' ⟨_,?b,fun base kb nb=>My.law_fn T kb nb⟩;exact fun s u=>.of_eq rfl
 case S=>exact fun w H a ns hl hO hS=>..
 case C=>exact ..
(the tactic k_is has no namespace: write k_is) -/
namespace L2
open PySem PySem.Spec PyProof.Rows
def qt(s:Stmt):Arguments:=match s with
 | .FunctionDef _ a _ _ _ _ _ _ _ _=>a
 | _=>{posonlyargs:=[],args:=[],vararg:=none,kwonlyargs:=[],kw_defaults:=[],kwarg:=none,defaults:=[]}
def oW(s:Stmt):List Stmt:=match s with
 | .FunctionDef _ _ b _ _ _ _ _ _ _=>b
 | _=>[]
def c9(s:Stmt):Scope:=match s with
 | .FunctionDef _ _ _ _ _ _ sc _ _ _=>sc
 | _=>{kind:=.function,names:=[],isGenerator:=false,isCoroutine:=false}
abbrev oM:yV:=fun _ _ _ _ _ _=>False
abbrev E0:XK:=fun _ _ _=>False
theorem Aa{X:Cx}:xJ oM X E0:=fun _ _ _ _ _ _ _ h=>h.elim
structure pz (K:PySem.W.Frag) (x qual:Str) (st:Stmt) (f:Addr) (fd:FuncData):Prop where
 ex:∃(oc:Value) (od:Option Addr) (kV doc pm:Value) (an:Option Addr) (cdv ct:Value) (osl:Array (Option Value)),
  fd=PySem.W.fnOf x qual (qt st) (oW st) (c9 st) .none kV doc pm an cdv ct/\K.lookup f=some ⟨oc,od,.func fd,osl⟩/\PySem.W.codeIn K cdv qual=true
 kp:PySem.W.keepIn K (.ref f)=true
section
variable{P:Program}{w:World}{K:PySem.W.Frag}{mg:Str->Option Value}{base:Heap}
theorem pz.ok {x qual:Str} {st:Stmt} {f:Addr} {fd:FuncData} {N ps:List Str} {k:Nat} {sp:Sp} (F:pz K x qual st f fd) (S:i5 N ps (c9 st)) (len:∀ vs H Q E,sp vs H Q E->vs.length=ps.length)
    (hbody:∀(cdv:Value) (A:Around) (outer:List Env) (s:Shared) (H:Hp) (vs:List V) (Q:VK) (E:XK),oI k (A.deeper (envOfC qual (c9 st) s.heap.objs.size f cdv))->sp vs H Q E ->
      ∃t,PSs (w8 oM P w K mg base N qual (c9 st) f cdv A outer s H E).nox (oW st) t/\t {nx:=fun _ H'=>Q .non H',rt:=Q} (start N vs) H):nK P w K mg base oM (k+1) f fd ps sp:=by
  obtain⟨oc,od,kV,doc,pm,an,cdv,ct,osl,rfl,lk,hcd⟩:=F.ex
  refine nv lk hcd S len fun A outer s H vs Q E hr hsp=>?_
  obtain⟨t,h,q⟩:=hbody cdv A outer s H vs Q E hr hsp
  exact⟨t,h.nox,q⟩
theorem pz.binds{x qual:Str}{st:Stmt}{f:Addr}{fd:FuncData}{ps:List Str}(F:pz K x qual st f fd)
  (h:∀(kV doc pm:Value) (an:Option Addr) (cdv ct:Value) (us:List Value),us.length=ps.length->bindArgs (PySem.W.fnOf x qual (qt st) (oW st) (c9 st) .none kV doc pm an cdv ct) ⟨us,[]⟩=pure (ps.zip us)):Binds K fd ps []:=by
 obtain⟨oc,od,kV,doc,pm,an,cdv,ct,osl,rfl,lk,hcd⟩:=F.ex
 exact .all (h kV doc pm an cdv ct)
theorem lF{x qual:Str}{st:Stmt}{f:Addr}{oc:Value}{od an:Option Addr}{osl:Array (Option Value)}{kV doc pm cdv ct:Value}(l:K.lookup f=some ⟨oc,od,.func (PySem.W.fnOf x qual (qt st) (oW st) (c9 st) .none kV doc pm an cdv ct),osl⟩)
  (c:PySem.W.codeIn K cdv qual=true) (k:PySem.W.keepIn K (.ref f)=true):pz K x qual st f (PySem.W.fnOf x qual (qt st) (oW st) (c9 st) .none kV doc pm an cdv ct):=⟨⟨oc,od,kV,doc,pm,an,cdv,ct,osl,rfl,l,c⟩,k⟩
end
theorem tS{n:Nat}(h:n<=1000):n<sizeLine:=Nat.lt_of_le_of_lt h (by decide)
section
variable{X:Cx}
theorem pv(i:Nat){x:Str}{pos:Pos}(hN:X.N[i]?=some x:=by rfl)(hv:BP X.env.scope x:=by first | exact Or.inl rfl | exact Or.inr (Or.inl rfl) | exact Or.inr (Or.inr rfl))(hd:(x==("__debug__" : Str))=false:=by decide)
  (hcd:(x==("__classdict__" : Str))=false:=by decide):PE X (.Name x pos) (Ei i):=jy hN hv hd hcd
end
def k9(H H':Hp):Prop:=∀b o,H b=some o->H' b=some o
theorem k9.refl(H:Hp):k9 H H:=fun _ _ h=>h
theorem k9.trans{H H1 H2:Hp}(a:k9 H H1)(b:k9 H1 H2):k9 H H2:=fun c o h=>b c o (a c o h)
theorem k9.free{H H':Hp}(e:k9 H H'){l:Addr}(h:H' l=Option.none):H l=Option.none:=by
 cases q:H l with
 | none=>rfl
 | some o =>
  rw[e l o q] at h
  cases h
theorem k9.seq{K:PySem.W.Frag}{H H':Hp}{a:Addr}{xs:List V}(e:k9 H H')(h:qM K H a xs):qM K H' a xs:=by
 rcases h with (h | ⟨o,h⟩) | h
 ·exact .inl (.inl (e _ _ h))
 ·exact .inl (.inr ⟨o,e _ _ h⟩)
 ·exact .inr h
end L2
namespace HW
open PySem
inductive D where
 | non
 | bl (b:Bool)
 | int (i:Int)
 | str (x:Str)
 | tup (xs:List D)
 | lst (xs:List D)
 | fro (xs:List D)
 | obj (k a:Nat) (ks:List Str) (ds:List D)
 deriving Inhabited
abbrev R:=List (Option D)
abbrev OD:=Option D
abbrev LD:=List D
abbrev oS(x:String):Str:=Str.ofString x
@[simp] abbrev kI (n:Int):R->OD:=fun _=>some (.int n)
@[simp] abbrev kS (x:String):R->OD:=fun _=>some (.str (oS x))
inductive Out where
 | nx (ρ:R)
 | rt (d:D)
 | bk (ρ:R)
 | ct (ρ:R)
@[simp] def B7:D->Option Bool
 | .non=>some false
 | .bl b=>some b
 | .int i=>some (i != 0)
 | .str x=>if x.length<=sizeLine then some ((x.length:Int) != 0) else none
 | .tup xs=>some (!xs.isEmpty)
 | .lst xs=>some (!xs.isEmpty)
 | .fro xs=>some (!xs.isEmpty)
 | .obj ..=>none
def bI(b:Bool):Int:=if b then 1 else 0
def Gg:D->Option Int
 | .int i=>some i
 | .bl b=>some (bI b)
 | _=>none
@[simp] def nI:D->Option Int
 | .int i=>some i
 | _=>none
@[simp] def tI:D->Option LD
 | .tup xs=>some xs
 | _=>none
@[simp] def lI:D->Option LD
 | .lst xs=>some xs
 | _=>none
@[simp] def sI:D->Option Str
 | .str x=>some x
 | _=>none
@[simp] def bO:D->Option Bool
 | .bl b=>some b
 | _=>none
@[simp] def nM (x y:D):OD:=match x with
 | .int i=>(nI y).map fun j=>.int (i+j)
 | .tup xs=>(tI y).bind fun ys=>if xs.length+ys.length<=sizeLine then some (.tup (xs++ys)) else none
 | .lst xs=>(lI y).bind fun ys=>if xs.length+ys.length<=sizeLine then some (.lst (xs++ys)) else none
 | .str x=>(sI y).bind fun y=>if x.length+y.length<=sizeLine then some (.str (x++y)) else none
 | _=>none
@[simp] def pN (x y:D):OD:=(nI x).bind fun i=>(nI y).map fun j=>.int (i - j)
def nW(i j:Int):Bool:=(decide (-(2 ^ 64)<i)&&decide (i<2 ^ 64))||(decide (-(2 ^ 64)<j)&&decide (j<2 ^ 64))
@[simp] def rj (x y:D):OD:=(nI x).bind fun i=>(nI y).bind fun j=>if nW i j then some (.int (i*j)) else none
@[simp] def oE (x y:D):OD:=(nI x).bind fun i=>(nI y).bind fun j=>if 0<j/\j<1073741824 then some (.int (i / j)) else none
@[simp] def nJ (x y:D):OD:=(nI x).bind fun i=>(nI y).bind fun j=>if 0<j then some (.int (i%j)) else none
@[simp] def DC (x:D):OD:=(nI x).map fun i=>.int (-i)
@[simp] def Dp (x y:D):Option Bool:=(nI x).bind fun i=>(nI y).map fun j=>decide (i<j)
@[simp] def w_ (x y:D):Option Bool:=(nI x).bind fun i=>(nI y).map fun j=>decide (i<=j)
@[simp] def z6 (x y:D):Option Bool:=(nI x).bind fun i=>(nI y).map fun j=>decide (j<i)
@[simp] def F_ (x y:D):Option Bool:=(nI x).bind fun i=>(nI y).map fun j=>decide (j<=i)
@[simp] def zp (x y:D):Option Bool:=match x with
 | .int i=>(nI y).map fun j=>i==j
 | .str a=>(sI y).map fun b=>a==b
 | .bl a=>(bO y).map fun b=>a==b
 | _=>none
@[simp] def u5:D->D->Option Bool:=zp
@[simp] def Dl (x y:D):Option Bool:=(zp x y).map (!·)
@[simp] def AV:D->Bool
 | .non=>true
 | _=>false
@[simp] def tj (x y:D):Option Bool:=if AV y then some (AV x) else none
@[simp] def pB (x y:D):Option Bool:=(tj x y).map (!·)
def flat:D->Bool
 | .non=>true
 | .bl _=>true
 | .int _=>true
 | .str _=>true
 | _=>false
def EH:D->D->Bool
 | .non,.non=>true
 | .bl a,.bl b=>a==b
 | .bl a,.int b=>bI a==b
 | .int a,.bl b=>a==bI b
 | .int a,.int b=>a==b
 | .str a,.str b=>a==b
 | _,_=>false
@[simp] def Ap:D->Option LD
 | .tup xs=>some xs
 | .lst xs=>some xs
 | .fro xs=>some xs
 | _=>none
mutual
def BR:D->D->Bool
 | .non,.non=>true
 | .bl a,.bl b=>a==b
 | .bl a,.int b=>bI a==b
 | .int a,.bl b=>a==bI b
 | .int a,.int b=>a==b
 | .str a,.str b=>a==b
 | .tup xs,.tup ys=>u_ xs ys
 | .lst xs,.lst ys=>u_ xs ys
 | .lst xs,.fro ys=>u_ xs ys
 | .fro xs,.lst ys=>u_ xs ys
 | .fro xs,.fro ys=>u_ xs ys
 | _,_=>false
def u_:LD->LD->Bool
 | [],[]=>true
 | x::xs,y::ys=>BR x y&&u_ xs ys
 | _,_=>false
end
mutual
def rk:D->Nat
 | .tup xs=>tE xs+1
 | .lst xs=>tE xs+1
 | .fro xs=>tE xs+1
 | _=>0
def tE:LD->Nat
 | []=>0
 | x::xs=>max (rk x) (tE xs)
end
mutual
def sH:D->Bool
 | .str x=>x.cps.all (·<0x110000)
 | .tup xs=>sj xs
 | .lst xs=>sj xs
 | .fro xs=>sj xs
 | .obj ..=>false
 | _=>true
def sj:LD->Bool
 | []=>true
 | x::xs=>sH x&&sj xs
end
mutual
def we:D->Bool
 | .tup xs=>qU xs
 | .lst xs=>qU xs
 | .fro xs=>qU xs
 | .obj ..=>false
 | _=>true
def qU:LD->Bool
 | []=>true
 | x::xs=>we x&&qU xs
end
mutual
theorem bA:∀{d:D},sH d=true->we d=true
 | .non,_=>rfl
 | .bl _,_=>rfl
 | .int _,_=>rfl
 | .str _,_=>rfl
 | .tup xs,h=>eP (xs:=xs) h
 | .lst xs,h=>eP (xs:=xs) h
 | .fro xs,h=>eP (xs:=xs) h
 | .obj ..,h=>by cases h
theorem eP:∀{xs:LD},sj xs=true->qU xs=true
 | [],_=>rfl
 | x::xs,h=>by
  have h':(sH x&&sj xs)=true:=h
  rw[Bool.and_eq_true] at h'
  show(we x&&qU xs)=true
  rw[bA h'.1,eP h'.2];rfl
end
def wg(x y:D):Option Bool:=if rk x<=100/\sH x=true/\sH y=true then some (BR x y) else none
def sW(x y:D):Option Bool:=(wg x y).map (!·)
def DJ(n:Nat)(i:Int):Option Nat:=if 0<=i then (if i<n then some i.toNat else none) else if -(n:Int)<=i then some (i+n).toNat else none
def zz(xs:LD)(i:Int):OD:=(DJ xs.length i).bind fun j=>xs[j]?
@[simp] def i8:D->D->OD
 | .tup xs,.int i=>zz xs i
 | .lst xs,.int i=>zz xs i
 | .fro xs,.int i=>zz xs i
 | .str x,.int i=>if x.length<=sizeLine then ((DJ x.length i).bind fun j=>x.cps.toList[j]?).map fun c=>.str ⟨#[c]⟩ else none
 | _,_=>none
def A4(n d:Nat):Option Int->Nat
 | none=>d
 | some v=>if v<0 then (v+(n:Int)).toNat else min v.toNat n
def cutD(xs:LD)(lo hi:Option Int):LD:=(xs.drop (A4 xs.length 0 lo)).take (A4 xs.length xs.length hi - A4 xs.length 0 lo)
@[simp] def Fz:D->Option Int->Option Int->OD
 | .tup xs,lo,hi=>some (.tup (cutD xs lo hi))
 | .lst xs,lo,hi=>some (.lst (cutD xs lo hi))
 | _,_,_=>none
@[simp] def Gi:D->Option (Option Int)
 | .int i=>some (some i)
 | _=>none
@[simp] def Du:D->String
 | .non=>"NoneType"
 | .bl _=>"bool"
 | .int _=>"int"
 | .str _=>"str"
 | .tup _=>"tuple"
 | .lst _=>"list"
 | .fro _=>"list"
 | .obj ..=>"object"
@[simp] def B5:D->Bool
 | .obj ..=>true
 | _=>false
@[simp] def Gb (d:D) (n:String):Bool:=decide (Du d=n)||(decide (Du d = "bool")&&decide (n = "int"))
@[simp] def wA:LD->OD
 | [d]=>(Ap d).map fun xs=>.int xs.length
 | _=>none
@[simp] def zO:LD->OD
 | [.tup xs]=>some (.lst xs)
 | [.lst xs]=>some (.lst xs)
 | _=>none
@[simp] def uC:LD->OD
 | [.tup xs]=>some (.tup xs)
 | [.lst xs]=>some (.tup xs)
 | _=>none
@[simp] def vc:LD->OD
 | [.int i,.int j]=>some (.int (if j > i then j else i))
 | _=>none
@[simp] def CH:LD->OD
 | [.int i]=>some (.int i)
 | [.bl b]=>some (.int (if b then 1 else 0))
 | _=>none
@[simp] def wV:LD->OD
 | [.lst []]=>some .non
 | [.lst [.int a]]=>some (.int a)
 | [.lst [.int a,.int b]]=>some (.int (if b > a then b else a))
 | _=>none
def yq(x:Str):Option Str:=if x=oS "a" then some (oS "A") else if x=oS "b" then some (oS "B") else if x=oS "c" then some (oS "C") else none
def ET:D->OD
 | .str x=>(yq x).map .str
 | _=>none
def zv(ws:List Str):D->OD
 | .str x=>(ws.findIdx? (·==x)).map fun (j:Nat)=>.int (j:Int)
 | _=>none
def bools:LD->Option (List Bool)
 | []=>some []
 | .bl b::r=>(bools r).map (b::·)
 | _=>none
def wj(st:D->R->Option R)(body:R->Option Out):LD->R->Option Out
 | [],ρ=>some (.nx ρ)
 | d::ds,ρ=>(st d ρ).bind fun ρ1=>(body ρ1).bind fun o=>match o with
  | .nx ρ2=>wj st body ds ρ2
  | .ct ρ2=>wj st body ds ρ2
  | .bk ρ2=>some (.nx ρ2)
  | .rt r=>some (.rt r)
def qv(st:D->R->Option R)(c:R->Option Bool)(e:R->OD):LD->R->Option LD
 | [],_=>some []
 | d::ds,ρ=>(st d ρ).bind fun ρ1=>(c ρ1).bind fun b=>(if b then (e ρ1).map some else some none).bind fun x =>
   (qv st c e ds ρ).map fun r=>match x with
    | some y=>y::r
    | none=>r
@[simp] def l9 (f g:R->Option Out):R->Option Out:=fun ρ=>(f ρ).bind fun o=>match o with
 | .nx ρ2=>g ρ2
 | o=>some o
@[simp] def c5 (i:Nat) (ρ:R):OD:=ρ.getD i none
@[simp] def setAt (i:Nat) (d:D) (ρ:R):Option R:=if i<ρ.length then some (ρ.set i (some d)) else none
@[simp] def ri (c:R->Option Bool) (f g:R->Option Out):R->Option Out:=fun ρ=>(c ρ).bind fun b=>if b then f ρ else g ρ
@[simp] def ur (f g:R->OD):R->OD:=fun ρ=>(f ρ).bind fun x=>match x with
 | .bl true=>g ρ
 | .bl false=>some (.bl false)
 | _=>none
@[simp] def xt (f:R->OD):R->OD:=fun ρ=>(f ρ).bind fun x=>match x with
 | .bl b=>some (.bl !b)
 | _=>none
@[simp] def tH (f g:R->Option Bool):R->Option Bool:=fun ρ=>(f ρ).bind fun b=>if b then g ρ else some false
@[simp] def yS (f g:R->Option Bool):R->Option Bool:=fun ρ=>(f ρ).bind fun b=>if b then some true else g ρ
@[simp] def uv (f:R->Option Bool):R->Option Bool:=fun ρ=>(f ρ).map (!·)
@[simp] def zD (c:R->Option Bool) (f g:R->OD):R->OD:=fun ρ=>(c ρ).bind fun b=>if b then f ρ else g ρ
@[simp] def h7 (F:D->D->OD) (f g:R->OD):R->OD:=fun ρ=>(f ρ).bind fun x=>(g ρ).bind fun y=>F x y
@[simp] def BK (F:D->OD) (f:R->OD):R->OD:=fun ρ=>(f ρ).bind F
@[simp] def m7 (F:D->D->Option Bool) (f g:R->OD):R->Option Bool:=fun ρ=>(f ρ).bind fun x=>(g ρ).bind fun y=>F x y
@[simp] def Ab (F G:D->D->Option Bool) (f g h:R->OD):R->Option Bool:=fun ρ=>(f ρ).bind fun x=>(g ρ).bind fun y=>(F x y).bind fun b=>if b then (h ρ).bind fun z=>G y z else some false
@[simp] def ui (f:R->Option Bool):R->OD:=fun ρ=>(f ρ).map .bl
@[simp] def rE (f:R->OD):R->Option Bool:=fun ρ=>(f ρ).bind B7
@[simp] def c6:R->Option LD:=fun _=>some []
@[simp] def c4 (f:R->OD) (g:R->Option LD):R->Option LD:=fun ρ=>(f ρ).bind fun d=>(g ρ).map fun ds=>d::ds
@[simp] def h8 (F:LD->OD) (g:R->Option LD):R->OD:=fun ρ=>(g ρ).bind F
@[simp] def nF (g:R->Option LD):R->OD:=fun ρ=>(g ρ).map .tup
@[simp] def zq (g:R->Option LD):R->OD:=fun ρ=>(g ρ).map .lst
@[simp] def D0:R->Option (Option Int):=fun _=>some none
@[simp] def aP (f:R->OD):R->Option (Option Int):=fun ρ=>(f ρ).bind Gi
@[simp] def BQ (f:R->OD) (l h:R->Option (Option Int)):R->OD:=fun ρ=>(f ρ).bind fun x=>(l ρ).bind fun a=>(h ρ).bind fun b=>Fz x a b
@[simp] def nE (f:R->OD):R->Option Out:=fun ρ=>(f ρ).map .rt
@[simp] def nC (f:R->OD) (st:D->R->Option R):R->Option Out:=fun ρ=>(f ρ).bind fun d=>(st d ρ).map .nx
@[simp] def nV:R->Option Out:=fun ρ=>some (.nx ρ)
@[simp] def xc (it:R->Option LD) (st:D->R->Option R) (body:R->Option Out):R->Option Out:=fun ρ=>(it ρ).bind fun ds=>wj st body ds ρ
def chars(x:Str):LD:=x.cps.toList.map fun c=>.str ⟨#[c]⟩
@[simp] def pV (f:R->OD):R->Option LD:=fun ρ=>(f ρ).bind fun d=>match d with
 | .tup xs=>some xs
 | .lst xs=>some xs
 | .str x=>if x.cps.all (·<128) then some (chars x) else none
 | _=>none
def qy(a b:Int):LD:=(List.range (b - a).toNat).map fun (k:Nat)=>D.int (a+(k:Int))
@[simp] def rD (f:R->OD):R->Option LD:=fun ρ=>(f ρ).bind fun d=>match d with
 | .int j=>if -(2 ^ 62)<=j/\j<2 ^ 62 then some (qy 0 j) else none
 | _=>none
def wH(k:Nat)(it:R->Option LD)(st:D->R->Option R)(c:R->Option Bool)(e:R->OD):R->OD:=fun ρ =>
 (it ρ).bind fun ds=>if ds.length<=sizeLine then (qv st c e ds (List.replicate k none++ρ)).map .lst else none
@[simp] def uU:R->Option Bool:=fun _=>some true
@[simp] def xi (n:Nat) (ds:LD):R:=ds.map some++List.replicate (n - ds.length) none
@[simp] def uP:Option Out->OD
 | some (.rt d)=>some d
 | some (.nx _)=>some .non
 | _=>none
@[simp] def xM (i:Nat) (f:R->OD):R->LD->Option (Out×LD):=fun ρ ds=>(f ρ).bind fun d=>if ρ.length=i/\ds.length<sizeLine then some (.nx ρ,ds++[d]) else none
@[simp] def A2 (i:Nat) (f:R->OD):R->LD->Option (Out×LD):=fun ρ ds=>(f ρ).bind fun d=>match d with
 | .lst es=>if ρ.length=i/\ds.length+es.length<=sizeLine then some (.nx ρ,ds++es) else none
 | _=>none
@[simp] def uV:R->LD->Option (Out×LD):=fun ρ ds=>some (.nx ρ,ds)
@[simp] def A3 (c:R->Option Bool) (p q:R->LD->Option (Out×LD)):R->LD->Option (Out×LD):=fun ρ ds=>(c ρ).bind fun b=>if b then p ρ ds else q ρ ds
def vU(st:D->R->Option R)(p:R->LD->Option (Out×LD)):LD->R->LD->Option (Out×LD)
 | [],ρ,ds=>some (.nx ρ,ds)
 | d::es,ρ,ds=>(st d ρ).bind fun ρ1=>(p ρ1 ds).bind fun r=>match r with
  | (.nx ρ2,ds2)=>vU st p es ρ2 ds2
  | (.ct ρ2,ds2)=>vU st p es ρ2 ds2
  | (.bk ρ2,ds2)=>some (.nx ρ2,ds2)
  | r=>some r
@[simp] def BJ (it:R->Option LD) (st:D->R->Option R) (p:R->LD->Option (Out×LD)):R->LD->Option (Out×LD):=fun ρ ds=>(it ρ).bind fun es=>vU st p es ρ ds
@[simp] def AU (i:Nat) (F:R->Option LD) (q:R->LD->Option Out):R->Option Out:=fun ρ=>(F ρ).bind fun ds=>if ρ.length=i+1 then q (ρ.take i) ds else none
@[simp] def ua (p:R->LD->Option (Out×LD)) (q:R->LD->Option Out):R->LD->Option Out:=fun ρ ds=>(p ρ ds).bind fun r=>match r with
 | (.nx ρ2,ds2)=>q ρ2 ds2
 | (.rt d,_)=>some (.rt d)
 | _=>none
@[simp] def xb (w:R->Option Out):R->LD->Option Out:=fun ρ ds=>w (ρ++[some (.lst ds)])
def Eo(i:Nat)(tab:List (Str×(LD->OD)))(f:R->OD)(g:(LD->OD)->R->Option Out):R->Option Out:=fun ρ=>(f ρ).bind fun d=>match d with
 | .str z=>(tab.lookup z).bind fun F=>if i<ρ.length then g F (ρ.set i none) else none
 | _=>none
theorem tO{st:D->R->Option R}{e:R->OD}{ρ:R}(f:D->D):∀{ds:LD},(∀d∈ds,∃ ρ1,st d ρ=some ρ1/\e ρ1=some (f d))->qv st uU e ds ρ=some (ds.map f)
 | [],_=>rfl
 | d::ds,h=>by
  obtain⟨ρ1,h1,h2⟩:=h d List.mem_cons_self
  have ih:=tO f fun x hx=>h x (List.mem_cons_of_mem _ hx)
  simp[qv,h1,h2,ih]
def via(k n:Nat)(g:R->Option Out)(ds:LD):OD:=if ds.length=k then uP (g (xi n ds)) else none
theorem lT{k n:Nat}{g:R->Option Out}{ds:LD}{d:D}(h:via k n g ds=some d):ds.length=k:=by
 unfold via at h
 split at h
 ·assumption
 ·cases h
theorem np{k n:Nat}{g:R->Option Out}{ds:LD}{d:D}(h:via k n g ds=some d):uP (g (xi n ds))=some d:=by
 unfold via at h
 split at h
 ·exact h
 ·cases h
theorem vE{i j:Int}(h1 : -(2 ^ 64)<j)(h2:j<2 ^ 64):nW i j=true:=by unfold nW;rw[decide_eq_true h1,decide_eq_true h2];simp
theorem oR{i j:Int}(h1 : -(2 ^ 64)<i)(h2:i<2 ^ 64):nW i j=true:=by unfold nW;rw[decide_eq_true h1,decide_eq_true h2];simp
theorem uR{st:D->R->Option R}{body:R->Option Out}(P:Nat->R->Prop):∀(ds:LD) (k:Nat) (ρ0:R),P k ρ0->(∀i d ρ,ds[i]?=some d->P (k+i) ρ->∃ ρ1 ρ2,st d ρ=some ρ1/\body ρ1=some (.nx ρ2)/\P (k+i+1) ρ2) ->
  ∃ ρ',wj st body ds ρ0=some (.nx ρ')/\P (k+ds.length) ρ'
 | [],k,ρ0,h0,_=>⟨ρ0,rfl,h0⟩
 | d::ds,k,ρ0,h0,hs=>by
  obtain⟨ρ1,ρ2,h1,h2,h3⟩:=hs 0 d ρ0 rfl h0
  obtain⟨ρ',h4,h5⟩:=uR P ds (k+1) ρ2 h3 fun i d' ρ e p=>by
   have q:=hs (i+1) d' ρ (by simpa using e) (by rw[show k+(i+1)=k+1+i by omega];exact p)
   rw[show k+(i+1)+1=k+1+i+1 by omega] at q
   exact q
  refine⟨ρ',?_,?_⟩
  ·simp[wj,h1,h2,h4]
  ·rw[show k+(d::ds).length=k+1+ds.length by simp;omega];exact h5
theorem fV{n:Int}{i:Nat}{d:D}(e:(qy 0 n)[i]?=some d):d=.int i/\(i:Int)<n:=by
 unfold qy at e
 rw[List.getElem?_map] at e
 cases q:(List.range (n - 0).toNat)[i]? with
 | none=>rw[q] at e;cases e
 | some k =>
  rw[q] at e
  obtain⟨h1,h2⟩:=List.getElem?_eq_some_iff.mp q
  simp at h1 h2
  subst h2
  have e':D.int (0+(i:Int))=d:=Option.some.inj e
  rw[Int.zero_add] at e'
  exact⟨e'.symm,by omega⟩
theorem fQ(n:Int):(qy 0 n).length=n.toNat:=by simp[qy]
theorem ti{xs:LD}{i:Int}(h0:0<=i)(h1:i<xs.length):∃x,x∈xs/\zz xs i=some x:=by
 have h2:i.toNat<xs.length:=by omega
 refine⟨xs[i.toNat],List.getElem_mem h2,?_⟩
 unfold zz DJ
 rw[if_pos h0,if_pos h1]
 simp[h2]
inductive Fits:D->Prop
 | non:Fits .non
 | bl (b:Bool):Fits (.bl b)
 | int (i:Int):Fits (.int i)
 | str (x:Str):Fits (.str x)
 | tup {xs:LD}:xs.length<=1000->(∀x∈xs,Fits x)->Fits (.tup xs)
end HW
set_option maxHeartbeats 1000000
namespace HW
open PySem PySem.Spec PyProof.Rows L2
def FA(x:Str):It:=⟨fun i _=>i<x.cps.size,fun i H v H'=>H'=H/\∃c,x.cps[i]?=some c/\v=.str ⟨#[c]⟩,fun i _=>x.cps.size<=i⟩
theorem Ai{P:Program}{w:World}{K:W.Frag}{tg:Expr}(it:Addr)(x:Str)(t:Tok):Turn P w K tg (FA x) [it] it (fun i h=>h.IsStrIter it "str_ascii_iterator" x t i) where
 mem:=by simp
 obj:=fun i h st b hb=>by
  have e:b=it:=by simpa using hb
  subst e
  obtain⟨o,e,c,d⟩:=st
  exact⟨o,e,fun v z=>by rw[d] at z;cases z⟩
 keep:=fun i h h' st k=>by
  obtain⟨o,e,r⟩:=st
  exact⟨o,k it (by simp) o e,r⟩
 item:=by
  intro X hP hw hK hc i pins s σ H E I hf st hg
  subst hP hw hK
  have hg':i<x.cps.size:=hg
  obtain⟨f0,f1,f2,f3,f4,f5⟩:=hf it (by simp)
  refine wpAny_pyNext_ascii_item st (c:=x.cps[i]) (by simp[hg']) fun h' st' sb=>?_
  have I1:L2.Inv X pins σ H {s with heap:=h',toks:=s.toks+1}:=I.turned (t':=s.toks+1) (fun b o hb e=>(sb.2 b hb).trans e) f0 f1 f3 f4 f5
  obtain⟨o,e,c,d⟩:=id st'
  exact⟨_,rfl,yD (s:={s with heap:=h',toks:=s.toks+1}) e c d (by decide) ⟨.str ⟨#[x.cps[i]]⟩,H,I1,⟨_,rfl⟩,⟨rfl,_,by simp[hg'],rfl⟩,st',fun b hb=>(hf b hb).1⟩⟩
 done:=by
  intro X hP hw hK hc i pins s σ H E I hf st hg
  subst hP hw hK
  have hg':x.cps.size<=i:=hg
  obtain⟨f0,f1,f2,f3,f4,f5⟩:=hf it (by simp)
  exact wpAny_pyNext_ascii_end (I.ok.hd hc) st (by simp;omega) fun h' eb=>⟨rfl,I.turned (t':=s.toks) (fun b o hb e=>eb b o hb e) f0 f1 f3 f4 f5⟩
 self:=fun _ _ _ _ _ st h=>wpAny_pyIter_striter_ascii st h
def EA(H:Hp)(k a:Nat)(ks:List Str)(vs:List V):Prop:=match k with
 | 0=>vs.length<=sizeLine/\∃(its:List Value) (n:Nat),m9 vs its/\H a=some (.frz {cls:=.type "list",data:=.seq its.toArray n} (.own 0))
 | 1=>ks.length=vs.length/\H a=some (.dK ((ks.map Sum.inr).zip vs))
 | C+2=>ks.length=vs.length/\∃dx,H a=some (.ins C dx (ks.zip vs))
theorem EA.to{H H':Hp}{k a:Nat}{ks:List Str}{vs:List V}(h:EA H k a ks vs)(e:∀u,H a=some u->(∀ φ,u≠.ext φ)->H' a=some u):EA H' k a ks vs:=by
 match k,h with
 | 0,⟨z,its,n,r,q⟩=>exact⟨z,its,n,r,e _ q fun φ z=>by cases z⟩
 | 1,⟨z,q⟩=>exact⟨z,e _ q fun φ z=>by cases z⟩
 | C+2,⟨z,dx,q⟩=>exact⟨z,dx,e _ q fun φ z=>by cases z⟩
mutual
def Rep(K:W.Frag)(H:Hp):D->V->Prop
 | .non,v=>v=.non
 | .bl b,v=>v=.bl b
 | .int i,v=>v=.int i
 | .str x,v=>v=.str x
 | .tup ds,v=>∃a xs,v=.ref a/\q8 K H a xs/\i9 K H ds xs
 | .lst ds,v=>∃a xs,v=.ref a/\H a=some (.lst xs)/\i9 K H ds xs
 | .fro ds,v=>∃a xs,v=.ref a/\qM K H a xs/\i9 K H ds xs
 | .obj k a ks ds,v=>∃xs,v=.ref a/\EA H k a ks xs/\i9 K H ds xs
def i9(K:W.Frag)(H:Hp):LD->List V->Prop
 | [],vs=>vs=[]
 | d::ds,vs=>∃v r,vs=v::r/\Rep K H d v/\i9 K H ds r
end
theorem Dv{K:W.Frag}{H H':Hp}{a:Addr}{xs:List V}(e:k9 H H')(h:q8 K H a xs):q8 K H' a xs:=by
 rcases h with (h | ⟨o,h⟩) | h
 ·exact .inl (.inl (e _ _ h))
 ·exact .inl (.inr ⟨o,e _ _ h⟩)
 ·exact .inr h
mutual
theorem Rep.mono{K:W.Frag}{H H':Hp}(s:k9 H H'):∀{d:D} {v:V},Rep K H d v->Rep K H' d v
 | .non,_,h=>h
 | .bl _,_,h=>h
 | .int _,_,h=>h
 | .str _,_,h=>h
 | .tup ds,_,h=>by
  obtain⟨a,xs,e,q,r⟩:=h
  exact⟨a,xs,e,Dv s q,i9.mono s r⟩
 | .lst ds,_,h=>by
  obtain⟨a,xs,e,q,r⟩:=h
  exact⟨a,xs,e,s _ _ q,i9.mono s r⟩
 | .fro ds,_,h=>by
  obtain⟨a,xs,e,q,r⟩:=h
  exact⟨a,xs,e,s.seq q,i9.mono s r⟩
 | .obj k a ks ds,_,h=>by
  obtain⟨xs,e,q,r⟩:=h
  exact⟨xs,e,q.to fun u z _=>s _ u z,i9.mono s r⟩
theorem i9.mono{K:W.Frag}{H H':Hp}(s:k9 H H'):∀{ds:LD} {vs:List V},i9 K H ds vs->i9 K H' ds vs
 | [],_,h=>h
 | d::ds,_,h=>by
  obtain⟨v,r,e,q,t⟩:=h
  exact⟨v,r,e,Rep.mono s q,i9.mono s t⟩
end
section
variable{K:W.Frag}{H:Hp}
theorem i9.length:∀{ds:LD} {vs:List V},i9 K H ds vs->ds.length=vs.length
 | [],_,h=>by cases (show _=[] from h);rfl
 | d::ds,_,h=>by
  obtain⟨v,r,e,q,t⟩:=h
  subst e
  simp[i9.length t]
theorem i9.get:∀{ds:LD} {vs:List V} {i:Nat} {d:D},i9 K H ds vs->ds[i]?=some d->∃v,vs[i]?=some v/\Rep K H d v
 | [],_,_,_,_,e=>by simp at e
 | d::ds,_,0,_,h,e=>by
  obtain⟨v,r,e',q,t⟩:=h
  subst e'
  simp at e
  subst e
  exact⟨v,by simp,q⟩
 | d::ds,_,i+1,_,h,e=>by
  obtain⟨v,r,e',q,t⟩:=h
  subst e'
  obtain⟨u,h1,h2⟩:=i9.get (i:=i) t (by simpa using e)
  exact⟨u,by simpa using h1,h2⟩
theorem i9.append:∀{ds es:LD} {vs us:List V},i9 K H ds vs->i9 K H es us->i9 K H (ds++es) (vs++us)
 | [],_,_,_,h,t=>by cases (show _=[] from h);exact t
 | d::ds,_,_,_,h,t=>by
  obtain⟨v,r,e',q,t'⟩:=h
  subst e'
  exact⟨v,_,rfl,q,i9.append t' t⟩
theorem i9.drop:∀(n:Nat) {ds:LD} {vs:List V},i9 K H ds vs->i9 K H (ds.drop n) (vs.drop n)
 | 0,_,_,h=>by simpa using h
 | n+1,[],_,h=>by cases (show _=[] from h);exact rfl
 | n+1,d::ds,_,h=>by
  obtain⟨v,r,e',q,t'⟩:=h
  subst e'
  simpa using i9.drop n t'
theorem i9.take:∀(n:Nat) {ds:LD} {vs:List V},i9 K H ds vs->i9 K H (ds.take n) (vs.take n)
 | 0,_,_,h=>by simp only[List.take_zero];exact rfl
 | n+1,[],_,h=>by cases (show _=[] from h);exact rfl
 | n+1,d::ds,_,h=>by
  obtain⟨v,r,e',q,t'⟩:=h
  subst e'
  rw[List.take_succ_cons,List.take_succ_cons]
  exact⟨v,_,rfl,q,i9.take n t'⟩
theorem i9.one{d:D}{v:V}(h:Rep K H d v):i9 K H [d] [v]:=⟨v,[],rfl,h,rfl⟩
theorem i9.nil:i9 K H [] []:=rfl
theorem i9.cons{d:D}{v:V}{ds:LD}{vs:List V}(h:Rep K H d v)(t:i9 K H ds vs):i9 K H (d::ds) (v::vs):=⟨v,vs,rfl,h,t⟩
theorem i9.reverse:∀{ds:LD} {vs:List V},i9 K H ds vs->i9 K H ds.reverse vs.reverse
 | [],_,h=>by cases (show _=[] from h);exact rfl
 | d::ds,_,h=>by
  obtain⟨v,r,e',q,t'⟩:=h
  subst e'
  rw[List.reverse_cons,List.reverse_cons]
  exact i9.append (i9.reverse t') (i9.one q)
theorem i9.rep{ds:LD}{vs:List V}(h:i9 K H ds vs):∀n:Nat,i9 K H (List.replicate n ds).flatten (List.replicate n vs).flatten
 | 0=>rfl
 | n+1=>by
  rw[List.replicate_succ,List.replicate_succ,List.flatten_cons,List.flatten_cons]
  exact h.append (i9.rep h n)
def oA(K:W.Frag)(H:Hp)(ρ:R)(σ:L2.St):Prop:=ρ.length<=σ.length/\∀(i:Nat) (d:D),ρ[i]?=some (some d)->∃v,σ[i]?=some (some v)/\Rep K H d v
theorem oA.mono{H':Hp}{ρ:R}{σ:L2.St}(e:oA K H ρ σ)(s:k9 H H'):oA K H' ρ σ:=⟨e.1,fun i d h=>let ⟨v,a,b⟩:=e.2 i d h;⟨v,a,b.mono s⟩⟩
theorem oA.at{ρ:R}{σ:L2.St}(e:oA K H ρ σ){i:Nat}{d:D}(h:c5 i ρ=some d):∃v,σ[i]?=some (some v)/\Rep K H d v:=by
 refine e.2 i d ?_
 unfold c5 at h
 rw[List.getD_eq_getElem?_getD] at h
 cases q:ρ[i]? with
 | none=>rw[q] at h;cases h
 | some o=>rw[q] at h;cases (show o=some d from h);rfl
theorem oA.set{ρ:R}{σ:L2.St}(e:oA K H ρ σ){i:Nat}{d:D}{v:V}(r:Rep K H d v):oA K H (ρ.set i (some d)) (σ.set i (some v)):=by
 refine⟨by simpa using e.1,fun j c h=>?_⟩
 by_cases hj:i=j
 ·subst hj
  by_cases hi:i<ρ.length
  ·rw[List.getElem?_set_self hi] at h
   cases h
   exact⟨v,by rw[List.getElem?_set_self (Nat.lt_of_lt_of_le hi e.1)],r⟩
  ·rw[List.getElem?_eq_none (by simpa using hi)] at h
   cases h
 ·rw[List.getElem?_set_ne hj] at h ⊢
  exact e.2 j c h
theorem oA.front{ρ:R}{σ:L2.St}(e:oA K H ρ σ)(k:Nat)(τ:L2.St)(hk:τ.length=k):oA K H (List.replicate k none++ρ) (τ++σ):=by
 subst hk
 refine⟨by simpa using e.1,fun i d h=>?_⟩
 by_cases hi:i<τ.length
 ·rw[List.getElem?_append_left (by simpa using hi),List.getElem?_replicate] at h
  split at h<;>cases h
 ·rw[List.getElem?_append_right (by simpa using hi),List.length_replicate] at h
  rw[List.getElem?_append_right (by simpa using hi)]
  exact e.2 _ d h
end
def pG(K:W.Frag)(H:Hp)(ρ:R)(τ:L2.St)(σ:L2.St):Prop:=oA K H ρ σ/\σ.drop ρ.length=τ
theorem oA.t{K:W.Frag}{H:Hp}{ρ:R}{σ:L2.St}(e:oA K H ρ σ):pG K H ρ (σ.drop ρ.length) σ:=⟨e,rfl⟩
theorem pG.mono{K:W.Frag}{H H':Hp}{ρ:R}{τ σ:L2.St}(e:pG K H ρ τ σ)(s:k9 H H'):pG K H' ρ τ σ:=⟨e.1.mono s,e.2⟩
theorem pG.set{K:W.Frag}{H:Hp}{ρ:R}{τ σ:L2.St}(e:pG K H ρ τ σ){i:Nat}{d:D}{v:V}(hi:i<ρ.length)(r:Rep K H d v):pG K H (ρ.set i (some d)) τ (σ.set i (some v)):=by
 refine⟨e.1.set r,?_⟩
 rw[List.length_set,List.drop_set_of_lt hi]
 exact e.2
section
variable(K:W.Frag)
def tD(f:R->OD):TE:=fun σ H Q=>∃ ρ d,oA K H ρ σ/\f ρ=some d/\∀v H',k9 H H'->Rep K H' d v->Q v H'
def Do(f:R->Option Bool):TT:=fun σ H Q=>∃ ρ b,oA K H ρ σ/\f ρ=some b/\∀H',k9 H H'->Q b H'
def FP(f:R->Option LD):TA:=fun σ H Q=>∃ ρ ds,oA K H ρ σ/\f ρ=some ds/\∀vs H',k9 H H'->i9 K H' ds vs->Q vs H'
def Gn(f:R->Option (Option Int)):TO:=fun σ H Q=>∃ ρ o,oA K H ρ σ/\f ρ=some o/\∀H',k9 H H'->Q o H'
def fin(E:Ends)(τ:L2.St)(o:Out)(H':Hp):Prop:=
 match o with
 | .nx ρ=>∀ σ,pG K H' ρ τ σ->E.nx σ H'
 | .rt d=>∀v,Rep K H' d v->E.rt v H'
 | .bk ρ=>∀ σ,pG K H' ρ τ σ->E.bk σ H'
 | .ct ρ=>∀ σ,pG K H' ρ τ σ->E.ct σ H'
def Dm(f:R->Option Out):TS:=fun E σ H=>∃ ρ τ o,pG K H ρ τ σ/\f ρ=some o/\∀H',k9 H H'->fin K E τ o H'
def Gm(st:D->R->Option R):TG:=fun v σ H Q=>∃ ρ τ d ρ',pG K H ρ τ σ/\Rep K H d v/\st d ρ=some ρ'/\∀ σ' H',k9 H H'->pG K H' ρ' τ σ'->Q σ' H'
def Kp(H H':Hp):Prop:=∀b u,H b=some u->(∀ φ,u≠.ext φ)->H' b=some u
def sF(J:It)(ds:LD)(H:Hp):Prop:=
 (∀(i:Nat) (d:D) (H2:Hp),Kp H H2->ds[i]?=some d->J.go i H2/\∀x H3,J.yld i H2 x H3->k9 H2 H3/\Rep K H3 d x)/\∀(i:Nat) (H2:Hp),Kp H H2->ds.length<=i->J.stop i H2
def Gq(f:R->Option LD):TI:=fun σ H W=>∃ ρ ds,oA K H ρ σ/\f ρ=some ds/\∀J H',k9 H H'->sF K J ds H'->W J H'
def pA(F:LD->OD):Sp:=fun vs H Q _=>∃ds d,i9 K H ds vs/\F ds=some d/\∀v H',k9 H H'->Rep K H' d v->Q v H'
end
def SE(X:Cx)(e:Expr)(f:R->OD):Prop:=PE X e (tD X.K f)
def ST(X:Cx)(e:Expr)(f:R->Option Bool):Prop:=PT X e (Do X.K f)
def SW(X:Cx)(e:Expr)(f:R->Option Bool):Prop:=PW X e (Do X.K f)
def noStar:Expr->Bool
 | .Starred _ _=>false
 | _=>true
theorem aJ{e:Expr}(es:List Expr)(env:Env)(h:noStar e=true):starEach (e::es) env=(false,eval e env)::starEach es env:=by
 cases e<;>first | rfl | cases h
theorem eh{pos:Pos}{env:Env}:∀{es:List Expr},es.all noStar=true->(backTo pos (starEach es env)).any (·.1)=false
 | [],_=>rfl
 | e::es,h=>by
  rw[List.all_cons,Bool.and_eq_true] at h
  rw[aJ es env h.1]
  show(false||(backTo pos (starEach es env)).any (·.1))=false
  rw[eh h.2]
  rfl
def SA(X:Cx)(es:List Expr)(f:R->Option LD):Prop:=PA X es (FP X.K f)/\(∀ ρ ds,f ρ=some ds->ds.length=es.length)/\es.all noStar=true
def SO(X:Cx)(e:Option Expr)(f:R->Option (Option Int)):Prop:=PO X e (Gn X.K f)
def S1(X:Cx)(s:Stmt)(f:R->Option Out):Prop:=PS X s (Dm X.K f)
def SS(X:Cx)(s:List Stmt)(f:R->Option Out):Prop:=PSs X s (Dm X.K f)
def SG(X:Cx)(e:Expr)(st:D->R->Option R):Prop:=PG X e (Gm X.K st)
def SI(X:Cx)(tg iter:Expr)(f:R->Option LD):Prop:=PI X tg iter (Gq X.K f)
section
variable{X:Cx}{e a b c:Expr}{es:List Expr}{pos p:Pos}
theorem _root_.L2.PE.imp{t t':TE}(h:PE X e t)(hi:∀ σ H Q,t' σ H Q->t σ H Q):PE X e t':=fun pins s σ H Q I q=>h pins s σ H Q I (hi σ H Q q)
theorem _root_.L2.PT.imp{t t':TT}(h:PT X e t)(hi:∀ σ H Q,t' σ H Q->t σ H Q):PT X e t':=fun pins s σ H Q I q=>h pins s σ H Q I (hi σ H Q q)
theorem _root_.L2.PW.imp{t t':TT}(h:PW X e t)(hi:∀ σ H Q,t' σ H Q->t σ H Q):PW X e t':=fun wh pins s σ H Q I q=>h wh pins s σ H Q I (hi σ H Q q)
theorem _root_.L2.PA.imp{t t':TA}(h:PA X es t)(hi:∀ σ H Q,t' σ H Q->t σ H Q):PA X es t':=fun pos pins s σ H Q I q=>h pos pins s σ H Q I (hi σ H Q q)
theorem _root_.L2.PO.imp{e:Option Expr}{t t':TO}(h:PO X e t)(hi:∀ σ H Q,t' σ H Q->t σ H Q):PO X e t':=fun pins s σ H Q I q=>h pins s σ H Q I (hi σ H Q q)
theorem _root_.L2.PS.imp{s:Stmt}{t t':TS}(h:PS X s t)(hi:∀E σ H,t' E σ H->t E σ H):PS X s t':=fun pins s σ H E I q=>h pins s σ H E I (hi E σ H q)
theorem _root_.L2.PSs.imp{s:List Stmt}{t t':TS}(h:PSs X s t)(hi:∀E σ H,t' E σ H->t E σ H):PSs X s t':=fun pins s σ H E I q=>h pins s σ H E I (hi E σ H q)
theorem _root_.L2.PG.imp{t t':TG}(h:PG X e t)(hi:∀v σ H Q,t' v σ H Q->t v σ H Q):PG X e t':=fun pins s σ H v u Q I r q=>h pins s σ H v u Q I r (hi v σ H Q q)
theorem _root_.L2.PGs.imp{t t':FS}(h:PGs X es t)(hi:∀v σ H Q,t' v σ H Q->t v σ H Q):PGs X es t':=fun pins s σ H v u Q I r q=>h pins s σ H v u Q I r (hi v σ H Q q)
theorem _root_.L2.PI.imp{tg:Expr}{t t':TI}(h:PI X tg e t)(hi:∀ σ H Q,t' σ H Q->t σ H Q):PI X tg e t':=fun pins s σ H W I q=>h pins s σ H W I (hi σ H W q)
theorem i6{α β:Type}{o:Option α}{f:α->Option β}{y:β}(h:o.bind f=some y):∃x,o=some x/\f x=some y:=by
 cases o with
 | none=>cases h
 | some x=>exact⟨x,rfl,h⟩
theorem oD{α β:Type}{o:Option α}{f:α->β}{y:β}(h:o.map f=some y):∃x,o=some x/\f x=y:=by
 cases o with
 | none=>cases h
 | some x=>exact⟨x,rfl,Option.some.inj h⟩
theorem ab(i:Nat){x:Str}(hN:X.N[i]?=some x:=by rfl)(hv:BP X.env.scope x:=by first | exact Or.inl rfl | exact Or.inr (Or.inl rfl) | exact Or.inr (Or.inr rfl))(hd:(x==("__debug__" : Str))=false:=by decide)
  (hcd:(x==("__classdict__" : Str))=false:=by decide):SE X (.Name x pos) (c5 i):=(jy hN hv hd hcd).imp fun σ H Q ⟨ρ,d,er,e,q⟩=>by
 obtain⟨v,h1,h2⟩:=er.at e
 exact⟨v,h1,q v H (k9.refl H) h2⟩
theorem ad{i j}:SE X (.Constant (.int i) j pos) (kI i):=Dg.imp fun σ H Q ⟨ρ,d,er,e,q⟩=>by
 cases e
 exact q _ H (k9.refl H) rfl
theorem cg{b j}:SE X (.Constant (.bool b) j pos) (fun _=>some (.bl b)):=Ds.imp fun σ H Q ⟨ρ,d,er,e,q⟩=>by
 cases e
 exact q _ H (k9.refl H) rfl
theorem aH{j}:SE X (.Constant .none j pos) (fun _=>some .non):=Ca.imp fun σ H Q ⟨ρ,d,er,e,q⟩=>by
 cases e
 exact q _ H (k9.refl H) rfl
theorem aK{x j}:SE X (.Constant (.str x) j pos) (fun _=>some (.str x)):=C7.imp fun σ H Q ⟨ρ,d,er,e,q⟩=>by
 cases e
 exact q _ H (k9.refl H) rfl
def pk(K:W.Frag)(mg:Str->Option Value)(x:Str)(d:D):Prop:=∃u v,mg x=some u/\RelV v u/\∀H,Rep K H d v
theorem ar{x:Str}{d:D}(h:pk X.K X.mg x d)(hg:Gl X x:=by rfl)(hd:(x==("__debug__" : Str))=false:=by decide):SE X (.Name x pos) (fun _=>some d):=by
 obtain⟨u,v,hm,r,hr⟩:=h
 exact(gZ hg hm r hd).imp fun σ H Q ⟨ρ,d',er,e,q⟩=>by
  cases e
  exact q v H (k9.refl H) (hr H)
def BN(X:Cx)(f:Value->Value->Sem Value)(F:D->D->OD):Prop:=
 OpR X f fun x y H Q=>∃dx dy d,Rep X.K H dx x/\Rep X.K H dy y/\F dx dy=some d/\∀v H',k9 H H'->Rep X.K H' d v->Q v H'
def x5(X:Cx)(op:CmpOp)(F:D->D->Option Bool):Prop:=
 OpR X (compareOp op) fun x y H Q=>∃dx dy b,Rep X.K H dx x/\Rep X.K H dy y/\F dx dy=some b/\Q (.bl b) H
def FQ(X:Cx)(f:Value->Sem Value)(F:D->OD):Prop:=
 UnR X f fun x H Q=>∃dx d,Rep X.K H dx x/\F dx=some d/\∀v H',k9 H H'->Rep X.K H' d v->Q v H'
def CL(X:Cx)(f:Value)(F:LD->OD):Prop:=
 CallR X f fun xs H Q=>∃ds d,i9 X.K H ds xs/\F ds=some d/\∀v H',k9 H H'->Rep X.K H' d v->Q v H'
theorem _root_.L2.OpR.imp{f:Value->Value->Sem Value}{r r':R2}(h:OpR X f r)(hi:∀x y H Q,r' x y H Q->r x y H Q):OpR X f r':=fun pins s σ H x y v u Q I rx ry q=>h pins s σ H x y v u Q I rx ry (hi x y H Q q)
theorem _root_.L2.UnR.imp{f:Value->Sem Value}{r r':V->Hp->VK->Prop}(h:UnR X f r)(hi:∀x H Q,r' x H Q->r x H Q):UnR X f r':=fun pins s σ H x v Q I rx q=>h pins s σ H x v Q I rx (hi x H Q q)
theorem _root_.L2.CallR.imp{f:Value}{r r':List V->Hp->VK->Prop}(h:CallR X f r)(hi:∀x H Q,r' x H Q->r x H Q):CallR X f r':=fun pins s σ H xs us Q I rx q=>h pins s σ H xs us Q I rx (hi xs H Q q)
variable{f g h:R->OD}
theorem two{σ:L2.St}{H:Hp}{Q:VK}{F:D->D->OD}(q:tD X.K (h7 F f g) σ H Q) :
  tD X.K f σ H fun x H1=>tD X.K g σ H1 fun y H2=>∃dx dy d,Rep X.K H2 dx x/\Rep X.K H2 dy y/\F dx dy=some d/\∀v H',k9 H2 H'->Rep X.K H' d v->Q v H':=by
 obtain⟨ρ,d,er,e,q⟩:=q
 obtain⟨x,e1,e⟩:=i6 e
 obtain⟨y,e2,e⟩:=i6 e
 exact⟨ρ,x,er,e1,fun v H1 s1 r1=>⟨ρ,y,er.mono s1,e2,fun u H2 s2 r2=>⟨x,y,d,r1.mono s2,r2,e,fun w H3 s3 r3=>q w H3 (s1.trans (s2.trans s3)) r3⟩⟩⟩
theorem ag{op:Operator}{F:D->D->OD}(ho:BN X (binaryOp op) F)(ha:SE X a f)(hb:SE X b g):SE X (.BinOp a op b pos) (h7 F f g):=(nk ho ha hb).imp fun σ H Q q=>two q
theorem nh{op:UnaryOp}{F:D->OD}(ho:FQ X (unaryOp op) F)(ha:SE X a f):SE X (.UnaryOp op a pos) (BK F f):=(nB ho ha).imp fun σ H Q ⟨ρ,d,er,e,q⟩=>by
 obtain⟨x,e1,e⟩:=i6 e
 exact⟨ρ,x,er,e1,fun v H1 s1 r1=>⟨x,d,r1,e,fun w H2 s2 r2=>q w H2 (s1.trans s2) r2⟩⟩
theorem Fi{σ:L2.St}{H:Hp}{Q:Bool->Hp->Prop}{F:D->D->Option Bool}(q:Do X.K (m7 F f g) σ H Q) :
  tD X.K f σ H fun x H1=>tD X.K g σ H1 fun y H2=>∃dx dy b,Rep X.K H2 dx x/\Rep X.K H2 dy y/\F dx dy=some b/\Q b H2:=by
 obtain⟨ρ,d,er,e,q⟩:=q
 obtain⟨x,e1,e⟩:=i6 e
 obtain⟨y,e2,e⟩:=i6 e
 exact⟨ρ,x,er,e1,fun v H1 s1 r1=>⟨ρ,y,er.mono s1,e2,fun u H2 s2 r2=>⟨x,y,d,r1.mono s2,r2,e,q H2 (s1.trans s2)⟩⟩⟩
theorem B4{σ:L2.St}{H:Hp}{Q:VK}{f:R->Option Bool}(q:tD X.K (ui f) σ H Q):Do X.K f σ H fun b H'=>Q (.bl b) H':=by
 obtain⟨ρ,d,er,e,q⟩:=q
 obtain⟨x,e1,e⟩:=oD e
 subst e
 exact⟨ρ,x,er,e1,fun H1 s1=>q _ H1 s1 rfl⟩
theorem br{op:CmpOp}{F:D->D->Option Bool}(ho:x5 X op F)(ha:SE X a f)(hb:SE X b g)(hm:behindInMarks op b=false:=by first | exact Aw _ | with_unfolding_all rfl) :
  SE X (.Compare a [op] [b] pos) (ui (m7 F f g)):=(lZ ho ha hb hm).imp fun σ H Q q=>Fi (B4 q)
theorem ay{op:CmpOp}{F:D->D->Option Bool}(ho:x5 X op F)(ha:SE X a f)(hb:SE X b g)(hm:behindInMarks op b=false:=by first | exact Aw _ | with_unfolding_all rfl) :
  ST X (.Compare a [op] [b] pos) (m7 F f g):=(ma ho ha hb hm).imp fun σ H Q q=>by
 obtain⟨ρ,d,er,e,q⟩:=q
 obtain⟨x,e1,e⟩:=i6 e
 obtain⟨y,e2,e⟩:=i6 e
 exact⟨ρ,x,er,e1,fun v H1 s1 r1=>⟨ρ,y,er.mono s1,e2,fun u H2 s2 r2=>⟨x,y,d,r1.mono s2,r2,e,d,rfl,q H2 (s1.trans s2)⟩⟩⟩
theorem zA{σ:L2.St}{H:Hp}{Q:Bool->Hp->Prop}{F G:D->D->Option Bool}{Qv:VK}(hQ:∀b H',Q b H'->Qv (.bl b) H')(q:Do X.K (Ab F G f g h) σ H Q) :
  Ac (fun x y H Q=>∃dx dy b,Rep X.K H dx x/\Rep X.K H dy y/\F dx dy=some b/\Q (.bl b) H) (fun x y H Q=>∃dx dy b,Rep X.K H dx x/\Rep X.K H dy y/\G dx dy=some b/\Q (.bl b) H)
   (tD X.K f) (tD X.K g) (tD X.K h) σ H Qv:=by
 obtain⟨ρ,d,er,e,q⟩:=q
 obtain⟨x,e1,e⟩:=i6 e
 obtain⟨y,e2,e⟩:=i6 e
 obtain⟨k,e3,e⟩:=i6 e
 refine⟨ρ,x,er,e1,fun v H1 s1 r1=>⟨ρ,y,er.mono s1,e2,fun u H2 s2 r2=>⟨x,y,k,r1.mono s2,r2,e3,k,rfl,?_⟩⟩⟩
 cases k with
 | false =>
  cases e
  rw[if_neg Bool.false_ne_true]
  exact hQ _ _ (q H2 (s1.trans s2))
 | true =>
  rw[if_pos rfl] at e ⊢
  obtain⟨z,e4,e⟩:=i6 e
  exact⟨ρ,z,er.mono (s1.trans s2),e4,fun w' H3 s3 r3=>⟨y,z,d,r2.mono s3,r3,e,hQ _ _ (q H3 (s1.trans (s2.trans s3)))⟩⟩
theorem lO{op op':CmpOp}{F G:D->D->Option Bool}(ho:x5 X op F)(ho':x5 X op' G)(ha:SE X a f)(hb:SE X b g)(hc:SE X c h)(hm:lastMarks [op,op'] [b,c]=false:=by with_unfolding_all rfl) :
  ST X (.Compare a [op,op'] [b,c] pos) (Ab F G f g h):=(kU ho ho' ha hb hc hm).imp fun σ H Q q=>zA (Qv:=fun x H'=>∃k,x=.bl k/\Q k H') (fun b _ z=>⟨b,rfl,z⟩) q
theorem A1{H:Hp}{d:D}{v:V}{b:Bool}{K:W.Frag}(r:Rep K H d v)(e:B7 d=some b):CD K v H b:=by
 cases d with
 | non=>cases (show v=_ from r);cases e;exact rfl
 | bl c=>cases (show v=_ from r);cases e;exact rfl
 | int i=>cases (show v=_ from r);cases e;exact rfl
 | str x =>
  cases (show v=_ from r)
  unfold B7 at e
  dsimp only at e
  split at e
  ·rename_i hx
   cases e
   exact⟨hx,rfl⟩
  ·cases e
 | tup ds =>
  obtain⟨a,xs,rfl,q,t⟩:=r
  cases e
  refine .inr (.inl ⟨xs,q,?_⟩)
  cases ds with
  | nil=>cases (show xs=[] from t);rfl
  | cons d ds=>obtain⟨_,_,rfl,_⟩:=t;rfl
 | lst ds =>
  obtain⟨a,xs,rfl,q,t⟩:=r
  cases e
  refine .inl ⟨xs,qM.of q,?_⟩
  cases ds with
  | nil=>cases (show xs=[] from t);rfl
  | cons d ds=>obtain⟨_,_,rfl,_⟩:=t;rfl
 | fro ds =>
  obtain⟨a,xs,rfl,q,t⟩:=r
  cases e
  refine .inl ⟨xs,q,?_⟩
  cases ds with
  | nil=>cases (show xs=[] from t);rfl
  | cons d ds=>obtain⟨_,_,rfl,_⟩:=t;rfl
 | obj k a ks ds=>cases e
theorem ce(ha:SE X a f)(he:∀whole,isTrue a X.env whole=(do let v <- whole;standAt a.pos;holding [v] (truthy v)):=by intro _;rfl):ST X a (rE f):=(kW ha he).imp fun σ H Q ⟨ρ,b,er,e,q⟩=>by
 obtain⟨x,e1,e⟩:=i6 e
 exact⟨ρ,x,er,e1,fun v H1 s1 r1=>⟨b,A1 r1 e,q H1 s1⟩⟩
variable{s t:R->Option Bool}{rest:List Expr}
theorem cA{e:Expr}(h:SW X e s):ST X e s:=PW.pt h
theorem dY(ha:ST X a s):SW X (.BoolOp .And [a] pos) s:=Br ha
theorem dB(ha:ST X a s):SW X (.BoolOp .Or [a] pos) s:=C5 ha
theorem eF(ha:ST X a s)(hb:SW X (.BoolOp .And (b::rest) pos) t):SW X (.BoolOp .And (a::b::rest) pos) (tH s t):=(Cq ha hb).imp fun σ H Q ⟨ρ,k,er,e,q⟩=>by
 obtain⟨x,e1,e⟩:=i6 e
 refine⟨ρ,x,er,e1,fun H1 s1=>?_⟩
 cases x with
 | false=>cases e;rw[if_neg Bool.false_ne_true];exact q H1 s1
 | true=>rw[if_pos rfl] at e ⊢;exact⟨ρ,k,er.mono s1,e,fun H2 s2=>q H2 (s1.trans s2)⟩
theorem fB(ha:ST X a s)(hb:SW X (.BoolOp .Or (b::rest) pos) t):SW X (.BoolOp .Or (a::b::rest) pos) (yS s t):=(D3 ha hb).imp fun σ H Q ⟨ρ,k,er,e,q⟩=>by
 obtain⟨x,e1,e⟩:=i6 e
 refine⟨ρ,x,er,e1,fun H1 s1=>?_⟩
 cases x with
 | true=>cases e;rw[if_pos rfl];exact q H1 s1
 | false=>rw[if_neg Bool.false_ne_true] at e ⊢;exact⟨ρ,k,er.mono s1,e,fun H2 s2=>q H2 (s1.trans s2)⟩
theorem fv(ha:ST X a s):ST X (.UnaryOp .Not a pos) (uv s):=(mP ha).imp fun σ H Q ⟨ρ,k,er,e,q⟩=>by
 obtain⟨x,e1,e⟩:=oD e
 subst e
 exact⟨ρ,x,er,e1,fun H1 s1=>q H1 s1⟩
theorem fq{op}(ha:SE X a f):SE X (.BoolOp op [a] pos) f:=mG ha
theorem eE(ha:SE X a f)(hb:SE X (.BoolOp .And (b::rest) pos) g):SE X (.BoolOp .And (a::b::rest) pos) (ur f g):=(mz ha hb).imp fun σ H Q ⟨ρ,d,er,e,q⟩=>by
 obtain⟨x,e1,e⟩:=i6 e
 refine⟨ρ,x,er,e1,fun v H1 s1 r1=>?_⟩
 cases x with
 | bl c =>
  cases (show v=_ from r1)
  refine⟨c,rfl,?_⟩
  cases c with
  | false=>cases e;rw[if_neg Bool.false_ne_true];exact q _ H1 s1 rfl
  | true=>rw[if_pos rfl];exact⟨ρ,d,er.mono s1,e,fun v H2 s2 r2=>q v H2 (s1.trans s2) r2⟩
 | _=>cases e
theorem ij(ha:SE X a f):SE X (.UnaryOp .Not a pos) (xt f):=(mU ha).imp fun σ H Q ⟨ρ,d,er,e,q⟩=>by
 obtain⟨x,e1,e⟩:=i6 e
 refine⟨ρ,x,er,e1,fun v H1 s1 r1=>?_⟩
 cases x with
 | bl c =>
  cases (show v=_ from r1)
  cases e
  exact⟨c,rfl,q _ H1 s1 rfl⟩
 | _=>cases e
theorem gb(hc:ST X c s)(ha:SE X a f)(hb:SE X b g):SE X (.IfExp c a b pos) (zD s f g):=(ll hc ha hb).imp fun σ H Q ⟨ρ,d,er,e,q⟩=>by
 obtain⟨x,e1,e⟩:=i6 e
 refine⟨ρ,x,er,e1,fun H1 s1=>?_⟩
 cases x with
 | true=>rw[if_pos rfl] at e ⊢;exact⟨ρ,d,er.mono s1,e,fun v H2 s2 r2=>q v H2 (s1.trans s2) r2⟩
 | false=>rw[if_neg Bool.false_ne_true] at e ⊢;exact⟨ρ,d,er.mono s1,e,fun v H2 s2 r2=>q v H2 (s1.trans s2) r2⟩
variable{F:R->Option LD}
theorem ae:SA X [] c6:=⟨Cw.imp fun σ H Q ⟨ρ,d,er,e,q⟩=>by cases e;exact q [] H (k9.refl H) rfl,fun ρ ds e=>by cases e;rfl,rfl⟩
theorem aa(ha:SE X e f)(hr:SA X es F)(hs:noStar e=true:=by rfl):SA X (e::es) (c4 f F):=⟨(j5 ha hr.1 (aJ es X.env hs)).imp fun σ H Q ⟨ρ,ds,er,e,q⟩=>by
 obtain⟨x,e1,e⟩:=i6 e
 obtain⟨y,e2,e⟩:=oD e
 subst e
 exact⟨ρ,x,er,e1,fun v H1 s1 r1=>⟨ρ,y,er.mono s1,e2,fun vs H2 s2 r2=>q _ H2 (s1.trans s2) (i9.cons (r1.mono s2) r2)⟩⟩,fun ρ ds e=>by
 obtain⟨x,e1,e⟩:=i6 e
 obtain⟨y,e2,e⟩:=oD e
 subst e
 simp[hr.2.1 ρ y e2],by rw[List.all_cons,hs,hr.2.2];rfl⟩
theorem aV{H:Hp}{p:Addr}(h:H p=none)(o:HO):k9 H (upd H p o):=fun b u q=>by rw[aD (oP q h)];exact q
theorem aq{k}(h:SA X es F)(hl:Nat.ble es.length 1000=true:=by rfl):SE X (.Tuple es k pos) (nF F):=(mV h.1).imp fun σ H Q ⟨ρ,d,er,e,q⟩=>by
 obtain⟨ds,e1,e⟩:=oD e
 subst e
 refine⟨ρ,ds,er,e1,fun vs H1 s1 r1=>⟨?_,fun p hp=>?_⟩⟩
 ·rw[<- r1.length,h.2.1 ρ ds e1];exact Nat.le_of_lt (tS (Nat.le_of_ble_eq_true hl))
 ·have s2:=aV hp (.tup vs)
  exact q _ _ (s1.trans s2) ⟨p,vs,rfl,q8.of aB,r1.mono s2⟩
theorem jh(h:SA X es F)(hl:Nat.ble es.length 1000=true:=by rfl):SE X (.List es pos) (zq F):=(ln h.1).imp fun σ H Q ⟨ρ,d,er,e,q⟩=>by
 obtain⟨ds,e1,e⟩:=oD e
 subst e
 refine⟨ρ,ds,er,e1,fun vs H1 s1 r1=>⟨?_,fun p hp=>?_⟩⟩
 ·rw[<- r1.length,h.2.1 ρ ds e1];exact Nat.le_of_lt (tS (Nat.le_of_ble_eq_true hl))
 ·have s2:=aV hp (.lst vs)
  exact q _ _ (s1.trans s2) ⟨p,vs,rfl,aB,r1.mono s2⟩
structure nN (P:Program) (w:World) (K:W.Frag) (mg:Str->Option Value) (base:Heap) (k:Nat) (x:Str) (ps:List Str) (F:LD->OD):Prop where
 ex:∃f fd,nK P w K mg base oM k f fd ps (pA K F)/\mg x=some (.ref f)/\W.keepIn K (.ref f)=true/\Binds K fd ps []
theorem nN.mono{P:Program}{w:World}{K:W.Frag}{mg:Str->Option Value}{base:Heap}{j k:Nat}{x:Str}{ps:List Str}{F:LD->OD}(h:nN P w K mg base j x ps F)(hk:j<=k):nN P w K mg base k x ps F:=by
 obtain⟨f,fd,a,b⟩:=h.ex
 exact⟨f,fd,a.mono hk,b⟩
theorem nN.imp{P:Program}{w:World}{K:W.Frag}{mg:Str->Option Value}{base:Heap}{k:Nat}{x:Str}{ps:List Str}{F G:LD->OD}(h:nN P w K mg base k x ps F)(hi:∀ds d,G ds=some d->F ds=some d):nN P w K mg base k x ps G:=by
 obtain⟨f,fd,a,b⟩:=h.ex
 exact⟨f,fd,a.imp fun vs H Q E ⟨ds,d,r,e,q⟩=>⟨ds,d,r,hi ds d e,q⟩,b⟩
theorem aj{k:Nat}{x:Str}{ps:List Str}{G:LD->OD}(C:nN X.prog X.w X.K X.mg X.base k x ps G)(hr:oI k X.A)(ha:SA X (e::es) F)(hg:Gl X x:=by rfl)
  (hdb:(x==("__debug__" : Str))=false:=by decide) :
  SE X (.Call (.Name x p) (e::es) [] pos) (h8 G F):=by
 have hst:=ha.2.2
 rw[List.all_cons,Bool.and_eq_true] at hst
 have he:=aJ es X.env hst.1
 have hpl:=eh (pos:=pos) (env:=X.env) hst.2
 obtain⟨f,fd,a,m,kp,bd⟩:=C.ex
 refine(jW a hr hg m kp bd .nil Aa ha.1 hdb he hpl).imp fun σ H Q ⟨ρ,d,er,e,q⟩=>?_
 obtain⟨ds,e1,e⟩:=i6 e
 exact⟨ρ,ds,er,e1,fun vs H1 s1 r1=>⟨ds,d,by rw[List.append_nil];exact r1,e,fun v H2 s2 r2=>q v H2 (s1.trans s2) r2⟩⟩
theorem bE{x:Str}{id:String}{G:LD->OD}(hc:CL X (.builtin id) G)(hm:X.mg x=none)(ha:SA X (e::es) F)(hv:bootBuiltins x=some (.builtin id):=by kernel_rfl)(hg:Gl X x:=by rfl)(hn:x ≠ "__name__":=by decide)(hdb:(x==("__debug__" : Str))=false:=by decide):SE X (.Call (.Name x p) (e::es) [] pos) (h8 G F):=
 (kT hc hg hm hv ha.1 hn hdb (aJ es X.env (List.all_eq_true.mp ha.2.2 e List.mem_cons_self)) (eh (List.all_eq_true.mpr fun x hx=>List.all_eq_true.mp ha.2.2 x (List.mem_cons_of_mem _ hx)))).imp fun σ H Q ⟨ρ,d,er,e,q⟩=>by
  obtain⟨ds,e1,e⟩:=i6 e
  exact⟨ρ,ds,er,e1,fun vs H1 s1 r1=>⟨ds,d,r1,e,fun v H2 s2 r2=>q v H2 (s1.trans s2) r2⟩⟩
theorem dL{x:Str}{T:String}{G:LD->OD}(hc:CL X (.type T) G)(hm:X.mg x=none)(ha:SA X (e::es) F)(hv:bootBuiltins x=some (.type T):=by kernel_rfl)(hg:Gl X x:=by rfl)(hn:x ≠ "__name__":=by decide)(hdb:(x==("__debug__" : Str))=false:=by decide):SE X (.Call (.Name x p) (e::es) [] pos) (h8 G F):=
 (kL hc hg hm hv ha.1 hn hdb (aJ es X.env (List.all_eq_true.mp ha.2.2 e List.mem_cons_self)) (eh (List.all_eq_true.mpr fun x hx=>List.all_eq_true.mp ha.2.2 x (List.mem_cons_of_mem _ hx)))).imp fun σ H Q ⟨ρ,d,er,e,q⟩=>by
  obtain⟨ds,e1,e⟩:=i6 e
  exact⟨ρ,ds,er,e1,fun vs H1 s1 r1=>⟨ds,d,r1,e,fun v H2 s2 r2=>q v H2 (s1.trans s2) r2⟩⟩
def Gv(X:Cx)(F:D->D->OD):Prop:=IxR X fun x y H Q=>∃dx dy d,Rep X.K H dx x/\Rep X.K H dy y/\F dx dy=some d/\∀v H',k9 H H'->Rep X.K H' d v->Q v H'
theorem _root_.L2.IxR.imp{r r':R2}(h:IxR X r)(hi:∀x y H Q,r' x y H Q->r x y H Q):IxR X r':=fun value slice pins s σ H x y v u Q I rx ry q hs=>h value slice pins s σ H x y v u Q I rx ry (hi x y H Q q) hs
theorem C0(n:Nat)(i:Int):DJ n i=D6 n i:=rfl
theorem wn{K:W.Frag}{H:Hp}{ds:LD}{xs:List V}{i:Int}{d:D}(r:i9 K H ds xs)(e:zz ds i=some d):∃v,C_ xs i=some v/\Rep K H d v:=by
 obtain⟨j,e1,e2⟩:=i6 e
 obtain⟨v,h1,h2⟩:=r.get e2
 refine⟨v,?_,h2⟩
 unfold C_
 rw[<- r.length,<- C0,e1]
 exact h1
theorem Fd:Gv X i8:=(A9.or (De.or Cr)).imp fun x y H Q ⟨dx,dy,d,r1,r2,e,q⟩=>by
 cases dx with
 | tup ds =>
  cases dy with
  | int i =>
   obtain⟨a,xs,e1,hq,t⟩:=r1
   cases (show y=_ from r2)
   obtain⟨v,h1,h2⟩:=wn t e
   exact .inr (.inl ⟨a,xs,i,v,e1,rfl,hq,h1,q v H (k9.refl H) h2⟩)
  | _=>cases e
 | lst ds =>
  cases dy with
  | int i =>
   obtain⟨a,xs,e1,hq,t⟩:=r1
   cases (show y=_ from r2)
   obtain⟨v,h1,h2⟩:=wn t e
   exact .inl ⟨a,xs,i,v,e1,rfl,qM.of hq,h1,q v H (k9.refl H) h2⟩
  | _=>cases e
 | fro ds =>
  cases dy with
  | int i =>
   obtain⟨a,xs,e1,hq,t⟩:=r1
   cases (show y=_ from r2)
   obtain⟨v,h1,h2⟩:=wn t e
   exact .inl ⟨a,xs,i,v,e1,rfl,hq,h1,q v H (k9.refl H) h2⟩
  | _=>cases e
 | str z =>
  cases dy with
  | int i =>
   cases (show x=_ from r1)
   cases (show y=_ from r2)
   unfold i8 at e
   dsimp only at e
   split at e
   ·rename_i hz
    obtain⟨c,e1,e2⟩:=oD e
    subst e2
    exact .inr (.inr ⟨z,i,c,rfl,rfl,hz,(by rw[<- e1];rfl),q _ H (k9.refl H) rfl⟩)
   ·cases e
  | _=>cases e
 | _=>cases e
theorem af(ha:SE X a f)(hb:SE X b g)(hs:v4 b:=by intro _ _;rfl):SE X (.Subscript a b pos) (h7 i8 f g):=(mt Fd ha hb hs).imp fun σ H Q q=>two q
variable{st:Stmt}{sts:List Stmt}{u w:R->Option Out}
theorem aI:SS X [] nV:=wx.imp fun E σ H ⟨ρ,τ,o,er,e,q⟩=>by
 cases e
 exact q H (k9.refl H) σ er
theorem CP{E:Ends}{σ:L2.St}{H:Hp}{K:W.Frag}(q:Dm K (l9 u w) E σ H):Dm K u {E with nx:=Dm K w E} σ H:=by
 obtain⟨ρ,τ,o,er,e,q⟩:=q
 obtain⟨o1,e1,e⟩:=i6 e
 refine⟨ρ,τ,o1,er,e1,fun H1 s1=>?_⟩
 cases o1 with
 | nx ρ2=>exact fun σ2 er2=>⟨ρ2,τ,o,er2,e,fun H2 s2=>q H2 (s1.trans s2)⟩
 | rt d=>cases e;exact q H1 s1
 | bk ρ2=>cases e;exact q H1 s1
 | ct ρ2=>cases e;exact q H1 s1
theorem ai(h1:S1 X st u)(h2:SS X sts w):SS X (st::sts) (l9 u w):=(gm h1 h2).imp fun E σ H q=>CP q
theorem al(h1:S1 X st u):SS X [st] u:=fP h1
theorem aw(ha:SE X a f):S1 X (.Return (some a) pos) (nE f):=(lw ha).imp fun E σ H ⟨ρ,τ,o,er,e,q⟩=>by
 obtain⟨x,e1,e⟩:=oD e
 subst e
 exact⟨ρ,x,er.1,e1,fun v H1 s1 r1=>q H1 s1 v r1⟩
theorem bx{B1 B2:List Stmt}(hc:ST X c s)(ha:SS X B1 u)(hb:SS X B2 w):S1 X (.If c B1 B2 pos) (ri s u w):=(ly hc ha hb).imp fun E σ H ⟨ρ,τ,o,er,e,q⟩=>by
 obtain⟨x,e1,e⟩:=i6 e
 refine⟨ρ,x,er.1,e1,fun H1 s1=>?_⟩
 cases x with
 | true=>rw[if_pos rfl] at e ⊢;exact⟨ρ,τ,o,er.mono s1,e,fun H2 s2=>q H2 (s1.trans s2)⟩
 | false=>rw[if_neg Bool.false_ne_true] at e ⊢;exact⟨ρ,τ,o,er.mono s1,e,fun H2 s2=>q H2 (s1.trans s2)⟩
theorem ak(i:Nat){x:Str}(hN:X.N.Nodup)(hi:X.N[i]?=some x:=by rfl)(hx:Loc X.env.scope x:=by first | exact Or.inl rfl | exact Or.inr rfl)(hf:X.fn x=true\/X.env.scope.names.lookup x=some .local:=by first | exact .inl rfl | exact .inr rfl) :
  SG X (.Name x pos) (setAt i):=(mq hN hi hx hf).imp fun v σ H Q ⟨ρ,τ,d,ρ',er,r,e,q⟩=>by
 unfold setAt at e
 split at e
 ·rename_i hlt
  cases e
  exact q _ H (k9.refl H) (er.set hlt r)
 ·cases e
variable{stf:D->R->Option R}{stfs:List (D->R->Option R)}
theorem ax{tg:Expr}(ha:SE X a f)(hg:SG X tg stf)(hs:swapsWithSole [tg] a pos.line X.env=pure false:=by rfl)(hw:swappedStores [tg] a X.env=pure none:=by rfl)(h1:(assignEach [tg] X.env).map (·.2)=[assign tg X.env]:=by rfl) :
  S1 X (.Assign [tg] a pos) (nC f stf):=(mY ha hg hs hw h1).imp fun E σ H ⟨ρ,τ,o,er,e,q⟩=>by
 obtain⟨x,e1,e⟩:=i6 e
 obtain⟨ρ',e2,e⟩:=oD e
 subst e
 exact⟨ρ,x,er.1,e1,fun v H1 s1 r1=>⟨ρ,τ,x,ρ',er.mono s1,r1,e2,fun σ2 H2 s2 er2=>q H2 (s1.trans s2) σ2 er2⟩⟩
theorem Kp.of{H H':Hp}(s:k9 H H'):Kp H H':=fun b u e _=>s b u e
theorem Kp.refl(H:Hp):Kp H H:=fun _ _ e _=>e
theorem Kp.seq{K:W.Frag}{H H':Hp}{a:Addr}{xs:List V}(s:Kp H H')(h:qM K H a xs):qM K H' a xs:=by
 rcases h with (h | ⟨o,h⟩) | h
 ·exact .inl (.inl (s _ _ h fun φ z=>nomatch z))
 ·exact .inl (.inr ⟨o,s _ _ h fun φ z=>nomatch z⟩)
 ·exact .inr h
theorem Kp.tup{K:W.Frag}{H H':Hp}{a:Addr}{xs:List V}(s:Kp H H')(h:q8 K H a xs):q8 K H' a xs:=by
 rcases h with (h | ⟨o,h⟩) | h
 ·exact .inl (.inl (s _ _ h fun φ z=>nomatch z))
 ·exact .inl (.inr ⟨o,s _ _ h fun φ z=>nomatch z⟩)
 ·exact .inr h
mutual
theorem Rep.kp{K:W.Frag}{H H':Hp}(s:Kp H H'):∀{d:D} {v:V},Rep K H d v->Rep K H' d v
 | .non,_,h=>h
 | .bl _,_,h=>h
 | .int _,_,h=>h
 | .str _,_,h=>h
 | .tup ds,_,h=>by
  obtain⟨a,xs,e,q,r⟩:=h
  exact⟨a,xs,e,s.tup q,i9.kp s r⟩
 | .lst ds,_,h=>by
  obtain⟨a,xs,e,q,r⟩:=h
  exact⟨a,xs,e,s _ _ q (fun φ z=>by cases z),i9.kp s r⟩
 | .fro ds,_,h=>by
  obtain⟨a,xs,e,q,r⟩:=h
  exact⟨a,xs,e,s.seq q,i9.kp s r⟩
 | .obj k a ks ds,_,h=>by
  obtain⟨xs,e,q,r⟩:=h
  exact⟨xs,e,q.to fun u z n=>s _ u z n,i9.kp s r⟩
theorem i9.kp{K:W.Frag}{H H':Hp}(s:Kp H H'):∀{ds:LD} {vs:List V},i9 K H ds vs->i9 K H' ds vs
 | [],_,h=>h
 | d::ds,_,h=>by
  obtain⟨v,r,e,q,t⟩:=h
  exact⟨v,r,e,Rep.kp s q,i9.kp s t⟩
end
theorem oA.kp{K:W.Frag}{H H':Hp}{ρ:R}{σ:L2.St}(e:oA K H ρ σ)(s:Kp H H'):oA K H' ρ σ:=⟨e.1,fun i d h=>let ⟨v,a,b⟩:=e.2 i d h;⟨v,a,b.kp s⟩⟩
theorem pG.kp{K:W.Frag}{H H':Hp}{ρ:R}{τ σ:L2.St}(e:pG K H ρ τ σ)(s:Kp H H'):pG K H' ρ τ σ:=⟨e.1.kp s,e.2⟩
theorem iV{K:W.Frag}{H:Hp}{a:Addr}{ds:LD}{xs:List V}(hq:qM K H a xs)(t:i9 K H ds xs):sF K (EL K a) ds H:=by
 refine⟨fun i d H2 s2 e=>?_,fun i H2 s2 hl=>⟨xs,s2.seq hq,by rw[<- t.length];exact hl⟩⟩
 obtain⟨v,h1,h2⟩:=t.get e
 refine⟨⟨xs,v,s2.seq hq,h1⟩,fun x H3 ⟨e3,y⟩=>?_⟩
 subst e3
 have:=(y xs (s2.seq hq)).symm.trans h1
 cases this
 exact⟨k9.refl _,h2.kp s2⟩
theorem jv{K:W.Frag}{H:Hp}{a:Addr}{ds:LD}{xs:List V}(hq:q8 K H a xs)(t:i9 K H ds xs):sF K (FI K a) ds H:=by
 refine⟨fun i d H2 s2 e=>?_,fun i H2 s2 hl=>⟨xs,s2.tup hq,by rw[<- t.length];exact hl⟩⟩
 obtain⟨v,h1,h2⟩:=t.get e
 refine⟨⟨xs,v,s2.tup hq,h1⟩,fun x H3 ⟨e3,y⟩=>?_⟩
 subst e3
 have:=(y xs (s2.tup hq)).symm.trans h1
 cases this
 exact⟨k9.refl _,h2.kp s2⟩
theorem zr{a b:Int}{i:Nat}{d:D}(e:(qy a b)[i]?=some d):i<(b - a).toNat/\d=.int (a+i):=by
 unfold qy at e
 rw[List.getElem?_map] at e
 obtain⟨k,e1,e⟩:=oD e
 obtain⟨h1,h2⟩:=List.getElem?_eq_some_iff.mp e1
 rw[List.length_range] at h1
 rw[List.getElem_range] at h2
 subst h2
 exact⟨h1,e.symm⟩
theorem jm{K:W.Frag}{H:Hp}{a b:Int}:sF K (Es a (b - a).toNat) (qy a b) H:=by
 refine⟨fun i d H2 s2 e=>?_,fun i H2 s2 hl=>by
  have z:(qy a b).length=(b - a).toNat:=by simp[qy]
  rw[z] at hl
  exact hl⟩
 obtain⟨h1,rfl⟩:=zr e
 refine⟨h1,fun x H3 ⟨e3,y⟩=>?_⟩
 subst e3
 exact⟨k9.refl _,y⟩
def Fy(K:PySem.W.Frag)(tl:TE):TI:=fun σ H W=>tl σ H fun x H1=>(∃a,x=.ref a/\(((∃xs,qM K H1 a xs)/\W (EL K a) H1)\/((∃xs,q8 K H1 a xs)/\W (FI K a) H1)))\/∃z,x=.str z/\z.cps.all (·<128)=true/\W (FA z) H1
theorem jF{K:W.Frag}{H:Hp}{x:Str}:sF K (FA x) (chars x) H:=by
 have hl:(chars x).length=x.cps.size:=by simp[chars]
 refine⟨fun i d H2 s2 e=>?_,fun i H2 s2 h=>by rw[hl] at h;exact h⟩
 have hi:i<x.cps.size:=by rw[<- hl];exact(List.getElem?_eq_some_iff.mp e).1
 refine⟨hi,fun v H3 ⟨e3,c,h1,h2⟩=>?_⟩
 subst e3
 refine⟨k9.refl _,?_⟩
 unfold chars at e
 rw[List.getElem?_map] at e
 obtain⟨c',e1,e⟩:=oD e
 have h1':x.cps.toList[i]?=some c:=by simpa using h1
 rw[h1'] at e1
 cases e1
 subst e
 exact h2
theorem mF{tg l:Expr}{tl:TE}(hl:PE X l tl):PI X tg l (Fy X.K tl):=by
 intro pins s σ H W I h
 refine oy (hl pins s σ H _ I h) fun v s1 ⟨x,H1,I1,r1,q1⟩=>?_
 rcases q1 with ⟨a,e,q1⟩ | ⟨z,e,hz,q⟩
 rotate_left
 ·subst e
  obtain⟨t,rfl⟩:=r1
  refine wpAny_pyIter_ascii hz ?_
  refine⟨s1.heap.objs.size,[s1.heap.objs.size],_,_,H1,rfl,I1.kept (t':=s1.toks) fun b o e=>Heap.get?_push_of_some _ e,Ai _ z t,⟨_,Heap.get?_push_size _ rfl,rfl,rfl⟩,fun b hb=>?_,q⟩
  have e:b=s1.heap.objs.size:=by simpa using hb
  subst e
  exact I1.fpOk (Nat.le_refl _) (I1.hok.fresh (Nat.le_refl _))
 subst e
 cases r1
 rcases q1 with ⟨⟨xs,hq⟩,q⟩ | ⟨⟨xs,hq⟩,q⟩
 ·obtain⟨its,rv,p,hz⟩:=I1.list hq
  refine wpAny_pyIter_list p.isList ?_
  refine⟨s1.heap.objs.size,[s1.heap.objs.size],_,_,H1,rfl,I1.kept (t':=s1.toks) fun b o e=>Heap.get?_push_of_some _ e,yP a _,⟨_,Heap.get?_push_size _ rfl,rfl,rfl⟩,fun b hb=>?_,q⟩
  have e:b=s1.heap.objs.size:=by simpa using hb
  subst e
  exact I1.fpOk (Nat.le_refl _) (I1.hok.fresh (Nat.le_refl _))
 ·obtain⟨its,rv,p,hz⟩:=I1.tuple hq
  refine wpAny_pyIter_tuple (show s1.heap.IsTuple a its.toArray from p) ?_
  refine⟨s1.heap.objs.size,[s1.heap.objs.size],_,_,H1,rfl,I1.kept (t':=s1.toks) fun b o e=>Heap.get?_push_of_some _ e,xR a _,⟨_,Heap.get?_push_size _ rfl,rfl,rfl⟩,fun b hb=>?_,q⟩
  have e:b=s1.heap.objs.size:=by simpa using hb
  subst e
  exact I1.fpOk (Nat.le_refl _) (I1.hok.fresh (Nat.le_refl _))
theorem gj{tg:Expr}(ha:SE X a f):SI X tg a (pV f):=(mF ha).imp fun σ H W ⟨ρ,ds,er,e,q⟩=>by
 obtain⟨x,e1,e⟩:=i6 e
 refine⟨ρ,x,er,e1,fun v H1 s1 r1=>?_⟩
 cases x with
 | tup xs =>
  cases e
  obtain⟨a,vs,ev,hq,t⟩:=r1
  exact .inl ⟨a,ev,.inr ⟨⟨vs,hq⟩,q _ H1 s1 (jv hq t)⟩⟩
 | lst xs =>
  cases e
  obtain⟨a,vs,ev,hq,t⟩:=r1
  exact .inl ⟨a,ev,.inl ⟨⟨vs,qM.of hq⟩,q _ H1 s1 (iV (qM.of hq) t)⟩⟩
 | str z =>
  dsimp only at e
  split at e
  ·rename_i hz
   cases e
   cases (show v=_ from r1)
   exact .inr ⟨z,rfl,hz,q _ H1 s1 jF⟩
  ·cases e
 | _=>cases e
theorem fT{tg:Expr}(hm:X.mg "range" = none)(ha:SE X a f)(hg:Gl X "range":=by rfl)(hs:noStar a=true:=by rfl):SI X tg (.Call (.Name "range" p) [a] [] pos) (rD f):=
 (kF hg hm (aa ha ae hs).1 (aJ [] X.env hs)).imp fun σ H W ⟨ρ,ds,er,e,q⟩=>by
  obtain⟨x,e1,e⟩:=i6 e
  cases x with
  | int j =>
   dsimp only at e
   split at e
   ·rename_i hj
    cases e
    refine⟨ρ,[.int j],er,by show(f ρ).bind _=_;rw[e1];rfl,fun vs H1 s1 r1=>?_⟩
    obtain⟨v,r,rfl,r2,r3⟩:=r1
    cases (show v=_ from r2)
    cases (show r=_ from r3)
    refine⟨j,rfl,hj.1,hj.2,q _ H1 s1 ?_⟩
    have z:=jm (K:=X.K) (H:=H1) (a:=0) (b:=j)
    rw[Int.sub_zero] at z
    exact z
   ·cases e
  | _=>cases e
theorem mw{tg iter:Expr}{B:List Stmt}{it:R->Option LD}(hp:PassesOwn (model X.prog X.w) X.A X.env X.xe)(hc:X.calm=true)(hi:SI X tg iter it)(hg:SG X tg stf)(hb:SS X B u)
  (hs:∀x,foldedSetIterable iter X.env x=pure x:=by intro _;rfl):S1 X (.For tg iter B [] pos) (xc it stf u):=(kY hp hc hi hg hb hs).imp fun E σ H ⟨ρ,τ,o,er,e,q⟩=>by
 obtain⟨ds,e1,e⟩:=i6 e
 refine⟨ρ,ds,er.1,e1,fun J H1 s1 y=>?_⟩
 refine⟨fun i m σ' H'=>m=ds.length - i/\i<=ds.length/\k9 H1 H'/\∃ ρ',pG X.K H' ρ' τ σ'/\wj stf u (ds.drop i) ρ'=some o,⟨ds.length,by simp,Nat.zero_le _,k9.refl _,ρ,er.mono s1,by simpa using e⟩,?_⟩
 rintro i m σ' H' ⟨rfl,hi,s2,ρ',er',e'⟩
 by_cases hlt:i<ds.length
 ·refine .inr ?_
  have hd:ds[i]?=some ds[i]:=by simp[hlt]
  obtain⟨hgo,hy⟩:=y.1 i ds[i] H' (Kp.of s2) hd
  rw[List.drop_eq_getElem_cons hlt] at e'
  obtain⟨ρ1,e2,e'⟩:=i6 e'
  obtain⟨o1,e3,e'⟩:=i6 e'
  refine⟨hgo,fun σ2 H2=>i+1<=ds.length/\k9 H1 H2/\∃ ρ',pG X.K H2 ρ' τ σ2/\wj stf u (ds.drop (i+1)) ρ'=some o,fun σ2 H2 n2=>⟨ds.length - (i+1),by omega,rfl,n2.1,n2.2⟩,fun x H3 yx=>?_⟩
  obtain⟨s3,rx⟩:=hy x H3 yx
  refine⟨ρ',τ,ds[i],ρ1,er'.mono s3,rx,e2,fun σ4 H4 s4 er4=>⟨ρ1,τ,o1,er4,e3,fun H5 s5=>?_⟩⟩
  have s15:k9 H1 H5:=s2.trans (s3.trans (s4.trans s5))
  cases o1 with
  | nx ρ2=>exact fun σ6 er6=>⟨hlt,s15,ρ2,er6,e'⟩
  | ct ρ2=>exact fun σ6 er6=>⟨hlt,s15,ρ2,er6,e'⟩
  | bk ρ2=>cases e';exact fun σ6 er6=>q H5 (s1.trans s15) σ6 er6
  | rt d=>cases e';exact q H5 (s1.trans s15)
 ·have e4:i=ds.length:=by omega
  subst e4
  rw[List.drop_length] at e'
  cases e'
  exact .inl ⟨y.2 _ H' (Kp.of s2) (Nat.le_refl _),q H' (s1.trans s2) σ' er'⟩
end
theorem AI{K:W.Frag}{H:Hp}{N:List Str}{ds:LD}{vs:List V}(r:i9 K H ds vs):oA K H (xi N.length ds) (L2.start N vs):=by
 unfold xi L2.start
 refine⟨by simp[r.length],fun i d h=>?_⟩
 by_cases hi:i<ds.length
 ·rw[List.getElem?_append_left (by simpa using hi),List.getElem?_map] at h
  obtain⟨d',e1,e⟩:=oD h
  cases e
  obtain⟨v,h1,h2⟩:=r.get e1
  exact⟨v,by rw[List.getElem?_append_left (by rw[List.length_map,<- r.length];exact hi),List.getElem?_map,h1];rfl,h2⟩
 ·rw[List.getElem?_append_right (by simpa using hi),List.getElem?_replicate] at h
  split at h<;>cases h
theorem mO{P:Program}{w:World}{K:W.Frag}{mg:Str->Option Value}{base:Heap}{x qual:Str}{st:Stmt}{f:Addr}{fd:FuncData}{N ps:List Str}{k:Nat}{F:LD->OD}{g:R->Option Out}
  (Fn:pz K x qual st f fd) (S:i5 N ps (c9 st)) (hlen:∀ds d,F ds=some d->ds.length=ps.length)
  (hb:∀(cdv:Value) (A:Around) (outer:List Env) (s:Shared) (H:Hp) (E:XK),oI k (A.deeper (envOfC qual (c9 st) s.heap.objs.size f cdv))->SS (w8 oM P w K mg base N qual (c9 st) f cdv A outer s H E).nox (oW st) g)
  (hF:∀ds d,F ds=some d->uP (g (xi N.length ds))=some d):nK P w K mg base oM (k+1) f fd ps (pA K F):=by
 refine Fn.ok S (fun vs H Q E h=>?_) (fun cdv A outer s H vs Q E hr h=>?_)
 ·obtain⟨ds,d,r,e,_⟩:=h
  rw[<- r.length]
  exact hlen ds d e
 ·obtain⟨ds,d,r,e,q⟩:=h
  refine⟨_,hb cdv A outer s H E hr,?_⟩
  have z:=hF ds d e
  cases ho:g (xi N.length ds) with
  | none=>rw[ho] at z;cases z
  | some o =>
   rw[ho] at z
   refine⟨xi N.length ds,_,o,(AI r).t,ho,fun H1 s1=>?_⟩
   cases o with
   | rt d'=>cases (show d'=d from Option.some.inj z);exact fun v rv=>q v H1 s1 rv
   | nx ρ=>cases (show D.non=d from Option.some.inj z);exact fun σ _=>q .non H1 s1 rfl
   | bk ρ=>cases z
   | ct ρ=>cases z
theorem au{P:Program}{w:World}{K:W.Frag}{mg:Str->Option Value}{base:Heap}{x qual:Str}{st:Stmt}{f:Addr}{fd:FuncData}{N ps:List Str}{k:Nat}{n m:Nat}{g:R->Option Out}
  (Fn:pz K x qual st f fd) (S:i5 N ps (c9 st))
  (hb:∀(cdv:Value) (A:Around) (outer:List Env) (s:Shared) (H:Hp) (E:XK),oI k (A.deeper (envOfC qual (c9 st) s.heap.objs.size f cdv))->SS (w8 oM P w K mg base N qual (c9 st) f cdv A outer s H E).nox (oW st) g)
  (h1:n=ps.length:=by rfl) (h2:m=N.length:=by rfl):nK P w K mg base oM (k+1) f fd ps (pA K (via n m g)):=by
 subst h1 h2
 exact mO Fn S (fun _ _ h=>lT h) hb fun _ _ h=>np h
theorem aA{P:Program}{w:World}{K:W.Frag}{mg:Str->Option Value}{base:Heap}{x qual:Str}{st:Stmt}{f:Addr}{fd:FuncData}{ps:List Str}{k:Nat}{F:LD->OD}(Fn:pz K x qual st f fd)(hm:mg x=some (.ref f))
  (hb:Binds K fd ps []) (h:nK P w K mg base oM k f fd ps (pA K F)):nN P w K mg base k x ps F:=⟨f,fd,h,hm,Fn.kp,hb⟩
section
variable{X:Cx}
theorem zJ{prog:Program}{w:World}{A:Around}{E:Value->Shared->Prop}{s:Shared}{t b:Addr}{ws:List Value}{Q:Value->Shared->Prop}(ht:IsTup s.heap t ([]:List Value).toArray)(hb:IsTup s.heap b ws.toArray)
  (h:Q (.ref b) s):wpAny (model prog w) A (binaryOp .Add (.ref t) (.ref b)) Q E s:=by
 obtain⟨⟨cls,dd,data,sl⟩,ho,hc,n,hd⟩:=id ht
 obtain⟨⟨cls2,dd2,data2,sl2⟩,ho2,hc2,n2,hd2⟩:=id hb
 simp only at hc hd hc2 hd2
 subst hc hd hc2 hd2
 exact concat_meets ⟨_,ho,rfl⟩ ⟨_,ho2,rfl⟩ noFill_tuple_add seq_tuple_add PySem.F.slot_tuple_add PySem.F.entry_tuple_add (PySem.F.args_tuple_add_2 _ _)
  (tuple_addW0 t b ([]:List Value).toArray ws.toArray n n2 dd dd2 sl sl2 (by simp)) ⟨ho,ho2,h⟩
theorem oQ{K:W.Frag}{H:Hp}{d:D}{v:V}{i:Int}(e:nI d=some i)(r:Rep K H d v):v=.int i:=by
 cases d<;>cases e
 exact r
theorem DS{K:W.Frag}{H:Hp}{d:D}{v:V}{xs:LD}(e:tI d=some xs)(r:Rep K H d v):Rep K H (.tup xs) v:=by
 cases d<;>cases e
 exact r
theorem Dr{K:W.Frag}{H:Hp}{d:D}{v:V}{xs:LD}(e:lI d=some xs)(r:Rep K H d v):Rep K H (.lst xs) v:=by
 cases d<;>cases e
 exact r
theorem zy{K:W.Frag}{H:Hp}{d:D}{v:V}{x:Str}(e:sI d=some x)(r:Rep K H d v):v=.str x:=by
 cases d<;>cases e
 exact r
theorem BE{K:W.Frag}{H:Hp}{d:D}{v:V}{x:Bool}(e:bO d=some x)(r:Rep K H d v):v=.bl x:=by
 cases d<;>cases e
 exact r
theorem xj{α:Type}{p:Prop}[Decidable p]{x y:α}(h:(if p then some x else none)=some y):p/\x=y:=by
 split at h
 ·rename_i hp;exact⟨hp,Option.some.inj h⟩
 ·cases h
theorem az:BN X (binaryOp .Add) nM:=by
 intro pins s σ H x y v u Q I rx ry h
 obtain⟨dx,dy,d,r1,r2,e,q⟩:=h
 cases dx with
 | int i =>
  obtain⟨j,e1,rfl⟩:=oD e
  exact CM pins s σ H x y v u Q I rx ry ⟨i,j,r1,oQ e1 r2,q _ H (k9.refl H) rfl⟩
 | tup xs =>
  obtain⟨ys,e1,e⟩:=i6 e
  obtain⟨hz,rfl⟩:=xj e
  obtain⟨a,vs,rfl,hq,t⟩:=r1
  obtain⟨b,us,rfl,hq2,t2⟩:=DS e1 r2
  cases vs with
  | nil =>
   cases rx
   cases ry
   obtain⟨its,rr1,p1,_⟩:=I.tuple hq
   obtain⟨its2,rr2,p2,_⟩:=I.tuple hq2
   cases rr1
   refine zJ p1 p2 ⟨.ref b,H,I,rfl,q _ H (k9.refl H) ⟨b,us,rfl,hq2,?_⟩⟩
   cases xs with
   | nil=>exact t2
   | cons x r=>obtain⟨_,_,z,_⟩:=t;cases z
  | cons v0 vr =>
   refine Bp pins s σ H _ _ v u Q I rx ry ⟨a,b,v0::vr,us,rfl,rfl,hq,hq2,by simp,by rw[<- t.length,<- t2.length];exact hz,fun z=>?_,fun z p hp=>?_⟩
   ·subst z
    refine q _ H (k9.refl H) ⟨a,v0::vr,rfl,hq,?_⟩
    have:ys=[]:=List.length_eq_zero_iff.mp t2.length
    subst this
    rw[List.append_nil]
    exact t
   ·have s2:=aV hp (.tup (v0::vr++us))
    exact q _ _ s2 ⟨p,_,rfl,q8.of aB,(t.append t2).mono s2⟩
 | lst xs =>
  obtain⟨ys,e1,e⟩:=i6 e
  obtain⟨hz,rfl⟩:=xj e
  obtain⟨a,vs,rfl,hq,t⟩:=r1
  obtain⟨b,us,rfl,hq2,t2⟩:=Dr e1 r2
  refine BZ pins s σ H _ _ v u Q I rx ry ⟨a,b,vs,us,rfl,rfl,hq,hq2,by rw[<- t.length,<- t2.length];exact hz,fun p hp=>?_⟩
  have s2:=aV hp (.lst (vs++us))
  exact q _ _ s2 ⟨p,_,rfl,aB,(t.append t2).mono s2⟩
 | str a =>
  obtain⟨b,e1,e⟩:=i6 e
  obtain⟨hz,rfl⟩:=xj e
  exact xV pins s σ H x y v u Q I rx ry ⟨a,b,r1,zy e1 r2,hz,q _ H (k9.refl H) rfl⟩
 | _=>cases e
theorem bg:BN X (binaryOp .Sub) pN:=by
 intro pins s σ H x y v u Q I rx ry h
 obtain⟨dx,dy,d,r1,r2,e,q⟩:=h
 obtain⟨i,e1,e⟩:=i6 e
 obtain⟨j,e2,rfl⟩:=oD e
 exact CB pins s σ H x y v u Q I rx ry ⟨i,j,oQ e1 r1,oQ e2 r2,q _ H (k9.refl H) rfl⟩
theorem bT:BN X (binaryOp .Mult) rj:=by
 intro pins s σ H x y v u Q I rx ry h
 obtain⟨dx,dy,d,r1,r2,e,q⟩:=h
 obtain⟨i,e1,e⟩:=i6 e
 obtain⟨j,e2,e⟩:=i6 e
 obtain⟨hz,rfl⟩:=xj e
 refine CT pins s σ H x y v u Q I rx ry ⟨i,j,oQ e1 r1,oQ e2 r2,?_,q _ H (k9.refl H) rfl⟩
 unfold nW at hz
 rw[Bool.or_eq_true,Bool.and_eq_true,Bool.and_eq_true] at hz
 exact hz.imp (fun z=>⟨of_decide_eq_true z.1,of_decide_eq_true z.2⟩) fun z=>⟨of_decide_eq_true z.1,of_decide_eq_true z.2⟩
theorem aR:BN X (binaryOp .FloorDiv) oE:=by
 intro pins s σ H x y v u Q I rx ry h
 obtain⟨dx,dy,d,r1,r2,e,q⟩:=h
 obtain⟨i,e1,e⟩:=i6 e
 obtain⟨j,e2,e⟩:=i6 e
 obtain⟨hz,rfl⟩:=xj e
 exact AY pins s σ H x y v u Q I rx ry ⟨i,j,oQ e1 r1,oQ e2 r2,hz,q _ H (k9.refl H) rfl⟩
theorem av:BN X (binaryOp .Mod) nJ:=by
 intro pins s σ H x y v u Q I rx ry h
 obtain⟨dx,dy,d,r1,r2,e,q⟩:=h
 obtain⟨i,e1,e⟩:=i6 e
 obtain⟨j,e2,e⟩:=i6 e
 obtain⟨hz,rfl⟩:=xj e
 exact Ce pins s σ H x y v u Q I rx ry ⟨i,j,oQ e1 r1,oQ e2 r2,hz,q _ H (k9.refl H) rfl⟩
theorem mI:FQ X (unaryOp .USub) DC:=by
 intro pins s σ H x v Q I rx h
 obtain⟨dx,d,r1,e,q⟩:=h
 obtain⟨i,e1,rfl⟩:=oD e
 exact Di pins s σ H x v Q I rx ⟨i,oQ e1 r1,q _ H (k9.refl H) rfl⟩
theorem Er{op:CmpOp}{p:Int->Int->Bool}{F:D->D->Option Bool}(ho:OpR X (compareOp op) (Bq fun i j=>.bl (p i j)))(hF:∀x y,F x y=(nI x).bind fun i=>(nI y).map fun j=>p i j):x5 X op F:=by
 intro pins s σ H x y v u Q I rx ry h
 obtain⟨dx,dy,b,r1,r2,e,q⟩:=h
 rw[hF] at e
 obtain⟨i,e1,e⟩:=i6 e
 obtain⟨j,e2,rfl⟩:=oD e
 exact ho pins s σ H x y v u Q I rx ry ⟨i,j,oQ e1 r1,oQ e2 r2,q⟩
theorem iH:x5 X .Lt Dp:=Er DA fun _ _=>rfl
theorem fz:x5 X .LtE w_:=Er DW fun _ _=>rfl
theorem fE:x5 X .Gt z6:=Er DH fun _ _=>rfl
theorem nj:x5 X .GtE F_:=Er DT fun _ _=>rfl
theorem y3{K:W.Frag}{H:Hp}{d:D}{v:V}{ys:LD}(r:Rep K H d v)(e:Ap d=some ys):∃p xs,v=.ref p/\(qM K H p xs\/q8 K H p xs)/\i9 K H ys xs:=by
 cases d with
 | tup ds=>cases e;obtain⟨a,xs,rfl,q,t⟩:=r;exact⟨a,xs,rfl,.inr q,t⟩
 | lst ds=>cases e;obtain⟨a,xs,rfl,q,t⟩:=r;exact⟨a,xs,rfl,.inl (qM.of q),t⟩
 | fro ds=>cases e;obtain⟨a,xs,rfl,q,t⟩:=r;exact⟨a,xs,rfl,.inl q,t⟩
 | _=>cases e
theorem uK{K:W.Frag}{H:Hp}{d:D}{v:V}(r:Rep K H d v):AV d=decide (v=.non):=by
 cases d with
 | tup c=>obtain⟨_,_,rfl,_⟩:=r;rfl
 | lst c=>obtain⟨_,_,rfl,_⟩:=r;rfl
 | fro c=>obtain⟨_,_,rfl,_⟩:=r;rfl
 | obj k a ks ds=>obtain⟨_,rfl,_⟩:=r;rfl
 | _=>cases (show v=_ from r);rfl
theorem yA{K:W.Frag}{H:Hp}{d:D}{v:V}(r:Rep K H d v)(h:AV d=true):v=.non:=by
 rw[uK r] at h
 exact of_decide_eq_true h
theorem dN:x5 X .Is tj:=by
 intro pins s σ H x y v u Q I rx ry h
 obtain⟨dx,dy,b,r1,r2,e,q⟩:=h
 obtain⟨h1,rfl⟩:=xj e
 exact Ct pins s σ H x y v u Q I rx ry ⟨yA r2 h1,by rw[<- uK r1];exact q⟩
theorem bu:x5 X .IsNot pB:=by
 intro pins s σ H x y v u Q I rx ry h
 obtain⟨dx,dy,b,r1,r2,e,q⟩:=h
 obtain⟨k,e2,rfl⟩:=oD e
 obtain⟨h1,rfl⟩:=xj e2
 exact AJ pins s σ H x y v u Q I rx ry ⟨yA r2 h1,by rw[<- uK r1];exact q⟩
theorem jH:CL X (.builtin "len") wA:=vS.imp fun xs H Q ⟨ds,d,r,e,q⟩=>by
 match ds,e with
 | [x],e =>
  obtain⟨ys,e1,e2⟩:=oD e
  subst e2
  obtain⟨v,r',rfl,r1,r2⟩:=r
  cases (show r'=[] from r2)
  obtain⟨p,vs,rfl,hq,t⟩:=y3 r1 e1
  exact⟨p,vs,rfl,hq,q _ H (k9.refl H) (by show V.int _=V.int _;rw[t.length])⟩
theorem lS:CL X (.type "list") zO:=wa.imp fun xs H Q ⟨ds,d,r,e,q⟩=>by
 match ds,e with
 | [.tup ys],e =>
  cases e
  obtain⟨v,r',rfl,⟨a,vs,rfl,hq,t⟩,r2⟩:=r
  cases (show r'=[] from r2)
  exact⟨a,vs,rfl,.inr hq,fun l hl=>q _ _ (aV hl _) ⟨l,vs,rfl,aB,t.mono (aV hl _)⟩⟩
 | [.lst ys],e =>
  cases e
  obtain⟨v,r',rfl,⟨a,vs,rfl,hq,t⟩,r2⟩:=r
  cases (show r'=[] from r2)
  exact⟨a,vs,rfl,.inl (qM.of hq),fun l hl=>q _ _ (aV hl _) ⟨l,vs,rfl,aB,t.mono (aV hl _)⟩⟩
theorem gs:CL X (.type "tuple") uC:=vk.imp fun xs H Q ⟨ds,d,r,e,q⟩=>by
 match ds,e with
 | [.tup ys],e =>
  cases e
  obtain⟨v,r',rfl,⟨a,vs,rfl,hq,t⟩,r2⟩:=r
  cases (show r'=[] from r2)
  exact⟨a,vs,rfl,.inr ⟨hq,q _ H (k9.refl H) ⟨a,vs,rfl,hq,t⟩⟩⟩
 | [.lst ys],e =>
  cases e
  obtain⟨v,r',rfl,⟨a,vs,rfl,hq,t⟩,r2⟩:=r
  cases (show r'=[] from r2)
  exact⟨a,vs,rfl,.inl ⟨qM.of hq,fun l hl=>q _ _ (aV hl _) ⟨l,vs,rfl,q8.of aB,t.mono (aV hl _)⟩⟩⟩
theorem df{k:Nat}(hr:oI k X.A):x5 X .Eq u5:=by
 intro pins s σ H x y v u Q I rx ry h
 obtain⟨dx,dy,b,r1,r2,e,q⟩:=h
 have sc:A7 x y=true->decide (x=y)=b->wpAny (model X.prog X.w) X.A (compareOp .Eq v u) (EP X pins σ Q) X.xe s:=fun z1 z2=>DQ pins s σ H x y v u Q I rx ry ⟨z1,by rw[z2];exact q⟩
 cases dx with
 | int i=>obtain⟨j,e1,e⟩:=oD e;cases (show x=_ from r1);cases oQ e1 r2;exact sc rfl (uo.trans e)
 | str i=>obtain⟨j,e1,e⟩:=oD e;cases (show x=_ from r1);cases zy e1 r2;exact sc rfl (ug.trans e)
 | bl i=>obtain⟨j,e1,e⟩:=oD e;cases (show x=_ from r1);cases BE e1 r2;exact sc rfl (wm.trans e)
 | _=>cases e
theorem mv{k:Nat}(hr:oI k X.A):x5 X .NotEq Dl:=by
 intro pins s σ H x y v u Q I rx ry h
 obtain⟨dx,dy,b,r1,r2,e0,q⟩:=h
 obtain⟨c,e,rfl⟩:=oD e0
 clear e0
 have sc:A7 x y=true->decide (x=y)=c->wpAny (model X.prog X.w) X.A (compareOp .NotEq v u) (EP X pins σ Q) X.xe s:=fun z1 z2=>Ec pins s σ H x y v u Q I rx ry ⟨z1,by rw[z2];exact q⟩
 cases dx with
 | int i=>obtain⟨j,e1,e⟩:=oD e;cases (show x=_ from r1);cases oQ e1 r2;exact sc rfl (uo.trans e)
 | str i=>obtain⟨j,e1,e⟩:=oD e;cases (show x=_ from r1);cases zy e1 r2;exact sc rfl (ug.trans e)
 | bl i=>obtain⟨j,e1,e⟩:=oD e;cases (show x=_ from r1);cases BE e1 r2;exact sc rfl (wm.trans e)
 | _=>cases e
variable{a:Expr}{f:R->OD}{pos p2:Pos}{lo hi:Option Expr}{l h:R->Option (Option Int)}
theorem fX:SO X none D0:=AK.imp fun σ H Q ⟨ρ,o,er,e,q⟩=>by
 cases e
 exact q H (k9.refl H)
theorem d_(ha:SE X a f):SO X (some a) (aP f):=(AH ha).imp fun σ H Q ⟨ρ,o,er,e,q⟩=>by
 obtain⟨x,e1,e2⟩:=i6 e
 refine⟨ρ,x,er,e1,fun v H1 s1 r1=>?_⟩
 cases x with
 | int i=>cases e2;exact⟨i,r1,q H1 s1⟩
 | _=>cases e2
theorem yj(n d:Nat)(o:Option Int):A4 n d o=HT.sIx n d o:=rfl
theorem vf{prog:Program}{w:World}{A:Around}{E:Value->Shared->Prop}{s:Shared}{t sl:Addr}{items:Array Value}{vl vu:Value}{lo hi:Option Int}{Q:Value->Shared->Prop}(ht:IsTup s.heap t items)(hs:s.heap.IsSliceOf sl vl vu .none)(pl:IsPart vl lo)(pu:IsPart vu hi)
  (hw:HT.sIx items.size 0 lo=0/\HT.sIx items.size items.size hi=items.size) (h:Q (.ref t) s):wpAny (model prog w) A (getItem (.ref t) (.ref sl)) Q E s:=by
 obtain⟨os,hos,hcs,hds⟩:=id hs
 have hTs:s.TypeIs (.ref sl) "slice":=⟨os,hos,hcs⟩
 unfold getItem
 try with_reducible refine wpAny_holding ?_
 first | refine wpAny_bind (wpAny_pure ?_) | skip
 refine wpAny_bind (wpAny_sequenceKey ht.typeIs (by decide) ?_)
 refine wpAny_bind (wpAny_callSpecial?_slot (name:=oS "__getitem__") ht.typeIs PyProof.Rows.slot_tuple_getitem
  (wpAny_call_entry PyProof.Rows.slot_tuple_getitem ht.typeIs entry_tuple_getitem ?_ (args_tuple_getitem _ _)))
 show wpAny _ _ (Builtin.Tuple.tupleItemsOf (.ref t) >>= _) _ _ s
 refine wpAny_bind (tupleItemsOf_ ht ?_)
 refine wpAny_bind (wpAny_typeOf hTs ?_)
 rw[if_pos (by decide)]
 refine wpAny_bind (HT.sliceApplied_gen hs pl pu ?_)
 have hyes:((((HT.sIx items.size 0 lo:Nat):Int)==0&&(1:Int)==1&&(HT.sIx items.size items.size hi - HT.sIx items.size 0 lo)==items.size)=true):=by
  rw[hw.1,hw.2];simp
 show wpAny _ _ (if (((HT.sIx items.size 0 lo:Nat):Int)==0&&(1:Int)==1&&(HT.sIx items.size items.size hi - HT.sIx items.size 0 lo)==items.size)=true then _ else _) _ _ s
 rw[if_pos hyes]
 refine wpAny_bind (m:=Builtin.Tuple.tupleIsExact _) (wpAny_bind (wpAny_typeOf ht.typeIs (wpAny_pure ?_)))
 rw[if_pos (by decide)]
 exact wpAny_bind (wpAny_rule (wpAny_pure ⟨_,rfl,wpAny_pure h⟩))
theorem xU{xs:List V}{lo hi:Option Int}(h:HT.sIx xs.length 0 lo=0/\HT.sIx xs.length xs.length hi=xs.length):uf xs lo hi=xs:=by
 unfold uf
 rw[h.1,h.2,List.drop_zero,Nat.sub_zero,List.take_length]
def E6(K:W.Frag):V->Option Int->Option Int->Hp->VK->Prop:=fun x lo hi H Q=>∃a xs,x=.ref a/\q8 K H a xs/\∀p H',k9 H H'->q8 K H' p (uf xs lo hi)->Q (.ref p) H'
theorem CS:BX X (E6 X.K):=by
 intro pins s σ H x v vl vu lo hi sl Q I rx hs pl pu h
 obtain⟨a,xs,rfl,hx,q⟩:=h
 by_cases hw:HT.sIx xs.length 0 lo=0/\HT.sIx xs.length xs.length hi=xs.length
 ·cases rx
  obtain⟨its,r,ht,hz⟩:=I.tuple hx
  have hlen:its.toArray.size=xs.length:=by rw[List.size_toArray];exact r.length.symm
  refine⟨"tuple",_,PyProof.Rows.slot_tuple_getitem.lookup,ht.typeIs,?_⟩
  exact vf ht hs pl pu (by rw[hlen];exact hw) ⟨.ref a,H,I,rfl,q a H (k9.refl H) (by rw[xU hw];exact hx)⟩
 ·exact Ck pins s σ H (.ref a) v vl vu lo hi sl Q I rx hs pl pu ⟨a,xs,rfl,hx,hw,fun p hp=>q p _ (aV hp _) (q8.of aB)⟩
theorem ka{K:W.Frag}{H:Hp}{ds:LD}{xs:List V}(t:i9 K H ds xs)(lo hi:Option Int):i9 K H (cutD ds lo hi) (uf xs lo hi):=by
 unfold cutD uf
 rw[t.length,yj,yj]
 exact(t.drop _).take _
theorem dD(ha:SE X a f)(hl:SO X lo l)(hh:SO X hi h):SE X (.Subscript a (.Slice lo hi none p2) pos) (BQ f l h):=(lK (CS.or A5) ha hl hh).imp fun σ H Q ⟨ρ,d,er,e,q⟩=>by
 obtain⟨x,e1,e⟩:=i6 e
 obtain⟨o1,e2,e⟩:=i6 e
 obtain⟨o2,e3,e⟩:=i6 e
 refine⟨ρ,x,er,e1,fun v H1 s1 r1=>⟨ρ,o1,er.mono s1,e2,fun H2 s2=>⟨ρ,o2,er.mono (s1.trans s2),e3,fun H3 s3=>?_⟩⟩⟩
 cases x with
 | tup xs =>
  cases e
  obtain⟨a,vs,rfl,hq,t⟩:=(r1.mono (s2.trans s3))
  exact .inl ⟨a,vs,rfl,hq,fun p H4 s4 sq=>q _ H4 (s1.trans (s2.trans (s3.trans s4))) ⟨p,_,rfl,sq,(ka t o1 o2).mono s4⟩⟩
 | lst xs =>
  cases e
  obtain⟨a,vs,rfl,hq,t⟩:=(r1.mono (s2.trans s3))
  refine .inr ⟨a,vs,rfl,qM.of hq,fun p hp=>?_⟩
  have s4:=aV hp (.lst (uf vs o1 o2))
  exact q _ _ (s1.trans (s2.trans (s3.trans s4))) ⟨p,_,rfl,aB,(ka t o1 o2).mono s4⟩
 | _=>cases e
end
set_option maxHeartbeats 2000000
def pM(names:List (Str×NameKind))(cells:List (Str×Addr))(acc:List (Str×Addr)):List (Str×Addr):=
 match names with
 | []=>acc
 | (n,k)::r=>pM r cells (if k==.free then (match cells.lookup n with | some c=>(n,c)::acc | none=>acc) else acc)
theorem sx {env:Env}:∀ (names:List (Str×NameKind)) (acc:List (Str×Addr)),(∀ p∈names,p.2=.free->∃ c,env.cells.lookup p.1=some c) ->
    (forIn names acc fun x r=>(match x with
      | (name,kind)=>if (kind==NameKind.free)=true then do
          let c <- cellOf env name
          pure (ForInStep.yield ((name,c)::r))
        else pure (ForInStep.yield r):Sem (ForInStep (List (Str×Addr)))))=(pure (pM names env.cells acc):Sem (List (Str×Addr)))
  | [],acc,_=>rfl
  | (n,k)::r,acc,h=>by
    rw[List.forIn_cons]
    cases hk:(k==NameKind.free) with
    | false =>
      have ih:=sx r acc fun p hp=>h p (List.mem_cons_of_mem _ hp)
      simp only[hk,pM,Bool.false_eq_true,if_false]
      exact ih
    | true =>
      obtain⟨c,hc⟩:=h (n,k) List.mem_cons_self (by simpa using hk)
      have ih:=sx r ((n,c)::acc) fun p hp=>h p (List.mem_cons_of_mem _ hp)
      have hcell:cellOf env n=pure c:=by unfold cellOf;rw[show env.cells.lookup n=some c from hc]
      simp only[hk,pM,if_true,hcell,show env.cells.lookup n=some c from hc]
      exact ih
theorem xH{scope:Scope}{env:Env}(h:∀p∈scope.names,p.2=.free->∃c,env.cells.lookup p.1=some c):closureFor scope env=pure (pM scope.names env.cells []):=by
 unfold closureFor
 have:=sx scope.names [] h
 simp only[bind_pure]
 exact this
theorem qi{β:Type}{y n:Str}{c:β}{l:List (Str×β)}:List.lookup y ((n,c)::l)=if y=n then some c else List.lookup y l:=by
 rw[List.lookup_cons]
 by_cases h:y=n
 ·subst h;simp
 ·have:(y==n)=false:=by simpa using h
  rw[this,if_neg h]
theorem uh{cells:List (Str×Addr)}:∀(names:List (Str×NameKind)) (acc:List (Str×Addr)),(∀y c,acc.lookup y=some c->cells.lookup y=some c)->∀y c,(pM names cells acc).lookup y=some c->cells.lookup y=some c
 | [],acc,h=>h
 | (n,k)::r,acc,h=>by
  unfold pM
  refine uh r _ ?_
  split
  ·cases hc:cells.lookup n with
   | none=>exact h
   | some c0 =>
    intro y c hy
    rw[qi] at hy
    split at hy
    ·rename_i e
     subst e
     cases hy
     exact hc
    ·exact h y c hy
  ·exact h
theorem vJ{cells:List (Str×Addr)}{y:Str}:∀(names:List (Str×NameKind)) (acc:List (Str×Addr)),(acc.lookup y).isSome=true->((pM names cells acc).lookup y).isSome=true
 | [],acc,h=>h
 | (n,k)::r,acc,h=>by
  unfold pM
  refine vJ r _ ?_
  split
  ·cases hc:cells.lookup n with
   | none=>exact h
   | some c0 =>
    dsimp only
    rw[qi]
    split
    ·rfl
    ·exact h
  ·exact h
theorem xo{cells:List (Str×Addr)}{y:Str}{c:Addr}(hc:cells.lookup y=some c):∀(names:List (Str×NameKind)) (acc:List (Str×Addr)),(y,NameKind.free)∈names->((pM names cells acc).lookup y).isSome=true
 | (n,k)::r,acc,h=>by
  unfold pM
  rcases List.mem_cons.mp h with e | h
  ·cases e
   refine vJ r _ ?_
   rw[if_pos (show(NameKind.free==NameKind.free)=true by decide),hc]
   dsimp only
   rw[qi,if_pos rfl]
   rfl
  ·exact xo hc r _ h
theorem Bc{cells:List (Str×Addr)}{names:List (Str×NameKind)}{y:Str}{c:Addr}(hc:cells.lookup y=some c)(h:(y,NameKind.free)∈names):(pM names cells []).lookup y=some c:=by
 obtain⟨c',e⟩:=Option.isSome_iff_exists.mp (xo hc names [] h)
 have:=uh names [] (fun y c h=>by cases h) y c' e
 rw[hc] at this
 cases this
 exact e
theorem uB{env:Env}{y:Str}:∀(names:List (Str×NameKind)),(names.map fun (n,k)=>if (k==NameKind.free&&env.scope.kind==.function&&env.kindOf n==some .cell) then (n,NameKind.cell) else (n,k)).lookup y =
  (names.lookup y).map fun k=>if (k==NameKind.free&&env.scope.kind==.function&&env.kindOf y==some .cell) then NameKind.cell else k
 | []=>rfl
 | (n,k)::r=>by
  have hd:∀(c:Bool),(if c=true then (n,NameKind.cell) else (n,k))=(n,if c=true then NameKind.cell else k):=fun c=>by cases c<;>rfl
  rw[List.map_cons]
  show List.lookup y ((if (k==NameKind.free&&env.scope.kind==.function&&env.kindOf n==some .cell)=true then (n,NameKind.cell) else (n,k))::_)=_
  rw[hd,qi,qi]
  by_cases e:y=n
  ·subst e
   rw[if_pos rfl,if_pos rfl]
   rfl
  ·rw[if_neg e,if_neg e]
   exact uB r
def wq(sc outer:Scope)(T N:List Str):Bool:=
 sc.kind==.function&&(sc.names.all fun p=>p.2 != .cell&&(p.2 != .local||(sc.names.lookup p.1==some .local&&(T.contains p.1||p.1==(".0" : Str))))&&(p.2 != .free||outer.names.lookup p.1==some .cell||outer.names.lookup p.1==some .free)) &&
  (T.all fun t=>sc.names.lookup t==some .local)&&!N.contains (".0" : Str)
structure v_ (sc outer:Scope) (T N:List Str):Prop where
 kind:sc.kind=.function
 nocell:∀y∈sc.names,y.2≠.cell
 names:∀y∈sc.names,y.2=.local->sc.names.lookup y.1=some .local
 loc:∀y,sc.names.lookup y=some .local->y∈T\/y=(".0" : Str)
 free:∀y∈sc.names,y.2=.free->outer.names.lookup y.1=some .cell\/outer.names.lookup y.1=some .free
 tg:∀t∈T,sc.names.lookup t=some .local
 no0:(".0" : Str)∉N
theorem yZ{sc outer:Scope}{T N:List Str}(h:wq sc outer T N=true):v_ sc outer T N:=by
 unfold wq at h
 rw[Bool.and_eq_true,Bool.and_eq_true,Bool.and_eq_true] at h
 obtain⟨⟨⟨h1,h2⟩,h3⟩,h4⟩:=h
 rw[List.all_eq_true] at h2 h3
 have g:∀y∈sc.names,y.2≠.cell/\(y.2=.local->sc.names.lookup y.1=some .local/\(y.1∈T\/y.1=(".0" : Str)))/\(y.2=.free->outer.names.lookup y.1=some .cell\/outer.names.lookup y.1=some .free):=fun y hy=>by
  have q:=h2 y hy
  rw[Bool.and_eq_true,Bool.and_eq_true] at q
  obtain⟨⟨q1,q2⟩,q3⟩:=q
  refine⟨by simpa using q1,fun hl=>?_,fun hf=>?_⟩
  ·rw[hl] at q2
   simpa using q2
  ·rw[hf] at q3
   simpa using q3
 refine⟨by simpa using h1,fun y hy=>(g y hy).1,fun y hy hl=>((g y hy).2.1 hl).1,fun y hy=>?_,fun y hy hf=>(g y hy).2.2 hf,fun t ht=>by simpa using h3 t ht,by simpa using h4⟩
 exact((g (y,.local) (PySem.mem_of_lookup hy)).2.1 rfl).2
def wG(X:Cx)(T:List Str)(scope:Scope)(C:Addr)(fp:List Addr)(s₃:Shared)(H₃:Hp):Cx where
 prog:=X.prog
 w:=X.w
 K:=X.K
 mg:=X.mg
 base:=X.base
 A:=X.A
 N:=T++X.N
 s₀:=s₃
 H₀:=H₃
 env:=compEnvC scope (pM scope.names X.env.cells []) C X.env
 outer:=X.stack
 stack:=X.stack
 ex:=fp
 fn:=fun _=>false
 calm:=X.calm
 pn:=[]
 xe:=fun _ _=>False
section
variable{X:Cx}{pins:List (Addr×Obj)}{σ:L2.St}{H:Hp}{s:Shared}{T:List Str}{scope:Scope}{C:Addr}{fp:List Addr}{h₁:Heap}{t:Nat}
theorem zS(I:L2.Inv X pins σ H s)(ck:v_ scope X.env.scope T X.N)(hnd:(T++X.N).Nodup)(hf:∀b∈fp,sS X pins H b)(hfo:∀b∈fp,∃o,s.heap.get? b=some o)(hC:s.heap.objs.size<=C)
  (hk:∀b u,s.heap.get? b=some u->h₁.get? b=some u) (hns:h₁.Ns C (fun _=>none)) :
  L2.Inv (wG X T scope C fp s H) [] (List.replicate T.length none++σ) H {s with heap:=h₁,toks:=t}:=by
 have hlt:∀b∈fp,b<s.heap.objs.size:=fun b hb=>let ⟨o,e⟩:=hfo b hb;Heap.lt_size e
 have hcl:∀y c,(pM scope.names X.env.cells []).lookup y=some c->X.env.cells.lookup y=some c:=uh scope.names [] fun y c h=>by cases h
 have hfr:∀y,(y,NameKind.free)∈scope.names->(X.env.kindOf y=some .cell\/X.env.kindOf y=some .free)/\∃c,(pM scope.names X.env.cells []).lookup y=some c/\X.env.cells.lookup y=some c:=fun y hy=>by
  have k:=ck.free _ hy rfl
  obtain⟨c,hc⟩:=I.ok.has y k
  exact⟨k,c,Bc hc hy,hc⟩
 have hkind:∀y,(compEnvC scope (pM scope.names X.env.cells []) C X.env).kindOf y=(scope.names.lookup y).map fun k=>if (k==NameKind.free&&X.env.scope.kind==.function&&X.env.kindOf y==some .cell) then NameKind.cell else k:=fun y=>uB scope.names
 have hvis:∀y,((compEnvC scope (pM scope.names X.env.cells []) C X.env).kindOf y=some .cell\/(compEnvC scope (pM scope.names X.env.cells []) C X.env).kindOf y=some .free)->(y,NameKind.free)∈scope.names:=fun y hy=>by
  rw[hkind] at hy
  cases hl:scope.names.lookup y with
  | none=>rw[hl] at hy;rcases hy with z | z<;>cases z
  | some k =>
   have hm:=PySem.mem_of_lookup hl
   rw[hl] at hy
   cases k with
   | free=>exact hm
   | cell=>exact absurd rfl (ck.nocell _ hm)
   | «local»=>rcases hy with z | z<;>cases z
   | globalExplicit=>rcases hy with z | z<;>cases z
   | globalImplicit=>rcases hy with z | z<;>cases z
 refine⟨⟨I.ok.mod,ck.kind,I.ok.glob,I.ok.blt,hC,fun x y c h1 h2=>I.ok.inj x y c (hcl x c h1) (hcl y c h2),fun y hy=>?_,fun y c h=>absurd (show false=true from h) Bool.false_ne_true,I.ok.hd,I.ok.frames,.inl rfl,fun b hb=>⟨?_,fun x c h=>?_⟩,I.bs,
  Nat.le_trans I.ok.bsz I.sz,fun b o e hb=>?_,fun b hb hz=>?_,I.stack,I.stkFree⟩,rfl,I.bare,Un.kept hk,⟨_,hns,fun i x v h1 h2 h3=>?_⟩,fun y c h=>?_,I.hok.fresh hC,fun y c h=>I.freeC y c (hcl y c h),fun p hp=>absurd (show p∈([]:List (Addr×Obj)) from hp) (by simp),I.hok.kept hk,?_⟩
 ·obtain⟨_,c,h1,_⟩:=hfr y (hvis y hy)
  exact⟨c,h1⟩
 ·exact Nat.ne_of_lt (Nat.lt_of_lt_of_le (hlt b hb) hC)
 ·exact(hf b hb).2.2.2.2.1 x c (hcl x c h)
 ·rcases(hf b hb).2.2.2.1 with z | z
  ·exact I.ok.noex b o e z
  ·exact absurd (Nat.lt_of_lt_of_le (Heap.lt_size e) (Nat.le_trans I.ok.bsz z)) (Nat.lt_irrefl _)
 ·rcases List.mem_cons.mp (I.stkSub b hz) with z | z
  ·exact(hf b hb).2.1 z
  ·exact(hf b hb).2.2.1 z
 ·by_cases hi:i<T.length
  ·rw[List.getElem?_append_left (by simpa using hi),List.getElem?_replicate] at h2
   split at h2<;>cases h2
  ·rw[List.getElem?_append_right (by simpa using hi),List.length_replicate] at h2
   have h1':X.N[i - T.length]?=some x:=by
    have z:(T++X.N)[i]?=some x:=h1
    rw[List.getElem?_append_right (by omega)] at z
    exact z
   have hxN:x∈X.N:=List.mem_of_getElem? h1'
   have hxf:(x,NameKind.free)∈scope.names:=by
    rcases h3 with z | z | z
    ·have z':(compEnvC scope (pM scope.names X.env.cells []) C X.env).kindOf x=some .local:=z
     rw[hkind] at z'
     cases hl:scope.names.lookup x with
     | none=>rw[hl] at z';cases z'
     | some k =>
      rw[hl] at z'
      have hkl:k=.local:=by
       cases k with
       | «local»=>rfl
       | free=>simp at z';split at z'<;>cases z'
       | cell=>cases z'
       | globalExplicit=>cases z'
       | globalImplicit=>cases z'
      subst hkl
      rcases ck.loc x hl with q | q
      ·exact absurd rfl ((List.nodup_append.mp hnd).2.2 x q x hxN)
      ·exact absurd (q ▸ hxN) ck.no0
    ·exact hvis x (.inl z)
    ·exact hvis x (.inr z)
   obtain⟨hk2,c,hc1,hc2⟩:=hfr x hxf
   obtain⟨m,hm,hl⟩:=I.loc
   obtain⟨u,ru,lk⟩:=hl _ x v h1' h2 (hk2.elim (fun z=>.inr (.inl z)) fun z=>.inr (.inr z))
   refine⟨u,ru,.inr ⟨?_,c,hc1,?_⟩⟩
   ·rcases h3 with z | z | z
    ·exfalso
     have z':(compEnvC scope (pM scope.names X.env.cells []) C X.env).kindOf x=some .local:=z
     rw[hkind] at z'
     cases hl2:scope.names.lookup x with
     | none=>rw[hl2] at z';cases z'
     | some k =>
      rw[hl2] at z'
      have hkl:k=.local:=by
       cases k with
       | «local»=>rfl
       | free=>simp at z';split at z'<;>cases z'
       | cell=>cases z'
       | globalExplicit=>cases z'
       | globalImplicit=>cases z'
      subst hkl
      rcases ck.loc x hl2 with q | q
      ·exact absurd rfl ((List.nodup_append.mp hnd).2.2 x q x hxN)
      ·exact absurd (q ▸ hxN) ck.no0
    ·exact .inl z
    ·exact .inr z
   ·rcases lk with ⟨kl,_⟩ | ⟨_,c',hc',hcell⟩
    ·rcases hk2 with z | z
     ·rw[kl] at z;cases z
     ·rw[kl] at z;cases z
    ·rw[hc2] at hc'
     cases hc'
     obtain⟨o,ho,hd⟩:=hcell
     exact⟨o,hk _ _ ho,hd⟩
 ·obtain⟨v,o,ho,hd⟩:=I.cell y c (hcl y c h)
  exact⟨v,o,hk _ _ ho,hd⟩
 ·show(List.replicate T.length none++σ).length=(T++X.N).length
  rw[List.length_append,List.length_append,List.length_replicate,I.len]
end
theorem wz {prog:Program} {w:World} {A:Around} {R':Result->Shared->Prop} {s:Shared} {elt target iter:Expr} {ifs:List Expr} {scope:Scope} {pos:Pos} {it acc:Value} {env:Env} (I:Nat->Shared->Prop)
    (turn:∀n s,I n s->wpAny (model prog w) A (pyNext it) (fun r s₁=>match r with
      | none=>R' (.ok .next) s₁
      | some v=>wpAny (model prog w) A (letOwnedTupleGo target it v) (fun _ s₁'=>wpAny (model prog w) A (assign target env v) (fun _ s₂ =>
          wpAny (model prog w) A (forIn ifs true fun c r=>if r=true then do let ok <- isTrue c env (eval c env);pure (ForInStep.yield ok) else pure (ForInStep.yield r)) (fun ok s₃ =>
            if ok=true then wpAny (model prog w) A (eval elt env) (fun x s₄ =>
              wpAny (model prog w) A (call (.builtin "list.append") [acc,x]) (fun _ s₅=>∃m,m<n/\I m s₅) (fun _ _=>False) s₄) (fun _ _=>False) s₃
            else ∃m,m<n/\I m s₃) (fun _ _=>False) s₂) (fun _ _=>False) s₁') (fun _ _=>False) s₁) (fun _ _=>False) s)
    (n:Nat) (h:I n s):codeAny (model prog w) A (.compLoop (.ListComp elt [⟨target,iter,ifs,0⟩] scope pos) 0 it acc env) R' s:=by
  refine codeAny_loop rfl I (fun n s hI=>?_) n h
  show wpAny _ A ((compTurn (.ListComp elt [⟨target,iter,ifs,0⟩] scope pos) 0 it acc env).onRaise (fun x=>do noteFrame x env;theTreesLotGoes x)) _ _ s
  refine wpAny_noted ?_
  rw[compTurn_list]
  have ff:∀{E:Value->Shared->Prop} (a:Value) (s:Shared),False->E a s:=fun _ _ z=>z.elim
  refine wpAny_bind (wpAny_standAt (wpAny_bind (wpAny_mono (turn n s hI) (fun r s₁ h₁=>?_) ff)))
  cases r with
  | none=>exact wpAny_pure h₁
  | some v =>
    refine wpAny_bind (wpAny_mono h₁ (fun _ s₁' h₁'=>?_) ff)
    refine wpAny_bind (wpAny_mono h₁' (fun _ s₂ h₂=>wpAny_bind (wpAny_mono h₂ (fun ok s₃ h₃=>?_) ff)) ff)
    cases ok with
    | false=>exact wpAny_pure ⟨rfl,h₃⟩
    | true =>
      exact wpAny_bind (wpAny_bind (wpAny_mono h₃ (fun x s₄ h₄=>wpAny_bind (wpAny_mono h₄ (fun _ s₅ h₅=>wpAny_pure (wpAny_pure ⟨rfl,h₅⟩)) ff)) ff))
def EI(X:Cx)(ifs:List Expr)(c:R->Option Bool):Prop:=
 ∀(pins:List (Addr×Obj)) (s:Shared) (σ:L2.St) (H:Hp) (Q:Bool->Hp->Prop),L2.Inv X pins σ H s->Do X.K c σ H Q ->
  wpAny (model X.prog X.w) X.A (forIn ifs true fun c r=>if r=true then do let ok <- isTrue c X.env (eval c X.env);pure (ForInStep.yield ok) else pure (ForInStep.yield r)) (TP X pins σ Q) X.xe s
theorem hW{X:Cx}:EI X [] uU:=fun pins s σ H Q I ⟨ρ,b,er,e,q⟩=>by
 cases e
 exact wpAny_tests_nil ⟨H,I,q H (k9.refl H)⟩
theorem lP{X:Cx}{e:Expr}{c:R->Option Bool}(h:ST X e c):EI X [e] c:=fun pins s σ H Q I q=>wpAny_tests_one (h pins s σ H Q I q)
section
variable{X:Cx}{pins:List (Addr×Obj)}{σ:L2.St}{H:Hp}{s:Shared}{T:List Str}{scope:Scope}
def zX(k:Nat)(stf:D->R->Option R):Prop:=∀(d:D) (τ ρ ρ1:R),τ.length=k->stf d (τ++ρ)=some ρ1->∃ τ',τ'.length=k/\ρ1=τ'++ρ
theorem p9{k i:Nat}(h:i<k):zX k (setAt i):=fun d τ ρ ρ1 hl e=>by
 unfold setAt at e
 split at e
 ·cases e
  exact⟨τ.set i (some d),by simp[hl],List.set_append_left _ _ (by omega)⟩
 ·cases e
theorem oA.forget{K:W.Frag}{H:Hp}{τ ρ:R}{σ:L2.St}(e:oA K H (τ++ρ) σ):oA K H (List.replicate τ.length none++ρ) σ:=by
 refine⟨by have:=e.1;simpa using this,fun i d h=>?_⟩
 by_cases hi:i<τ.length
 ·rw[List.getElem?_append_left (by simpa using hi),List.getElem?_replicate] at h
  split at h<;>cases h
 ·rw[List.getElem?_append_right (by simpa using hi),List.length_replicate] at h
  exact e.2 i d (by rw[List.getElem?_append_right (by omega)];exact h)
theorem DB{a:Addr}{o:HO}(I:L2.Inv X pins σ H s)(f:sS X pins H a)(new:qg X.prog X.w (upd H a o) s.heap a o):L2.Inv X pins σ (upd H a o) s:=by
 obtain⟨f0,f1,f2,f3,f4,f5⟩:=f
 have ne:∀{b:Addr} {u:HO},H b=some u->b≠a:=fun e z=>by rw[z,f0] at e;cases e
 refine⟨I.ok,I.os,I.bare,⟨I.base.keep,I.base.slot,fun b ob e n hx=>?_,I.base.there,fun b xs e=>?_,fun b ob u ny e=>?_,fun b ps d e=>?_⟩,I.loc,I.cell,?_,fun x c e=>?_,fun p hp=>?_,fun b u e=>?_,I.len⟩
 ·have hb:b≠a:=fun z=>by
   rcases f3 with q | q
   ·exact hx (z ▸ q)
   ·exact absurd (Nat.lt_of_lt_of_le (Heap.lt_size e) (z ▸ q)) (Nat.lt_irrefl _)
  rw[aD hb]
  exact I.base.free b ob e n hx
 ·have q:=I.base.tups b xs e
  rw[aD (ne q)]
  exact q
 ·have q:=I.base.frzs b ob u ny e
  rw[aD (ne q)]
  exact q
 ·have q:=I.base.tbls b ps d e
  rw[aD (ne q)]
  exact q
 ·rw[aD (Ne.symm f1)]
  exact I.free
 ·rw[aD (f4 x c e)]
  exact I.freeC x c e
 ·obtain⟨q1,q2,q3⟩:=I.pin p hp
  exact⟨q1,by rw[aD (f5 p hp)];exact q2,q3⟩
 ·by_cases hb:b=a
  ·subst hb
   rw[aB] at e
   cases e
   exact new
  ·rw[aD hb] at e
   refine(I.hok b u e).stay (fun _ _ _ q=>q) (fun c q=>?_) (fun c xs q=>?_) fun c _ _ q=>?_
   ·rw[aD (ne q)];exact q
   ·rw[aD (ne q)];exact q
   ·rw[aD (ne q)];exact q
theorem BO{C:Addr}{fp:List Addr}{s₃:Shared}{H₃ H':Hp}{b:Addr}{pl:List (Addr×Obj)}(hb:b∈fp\/s₃.heap.objs.size<=b)(hC:b≠C)(hfs:b∉yO X.stack)(hcells:∀x c,(pM scope.names X.env.cells []).lookup x=some c->c≠b)(hn:H' b=none)(hp:∀p∈pl,p.1≠b) :
  sS (wG X T scope C fp s₃ H₃) pl H' b:=⟨hn,hC,hfs,hb,hcells,fun p hp'=>hp p hp'⟩
theorem lJ{elt iter tg:Expr}{ifs:List Expr}{pos:Pos}{it:Addr}{fp:List Addr}{tn:Nat->Heap->Prop}{J:It}{E:Value->Shared->Prop}{ρ:R}{ds out:LD}{stf:D->R->Option R}{cf:R->Option Bool}{ef:R->OD}
  (I:L2.Inv X pins σ H s) (hc:X.calm=true) (Tn:Turn X.prog X.w X.K tg J fp it tn) (st:tn 0 s.heap) (hf:∀b∈fp,sS X pins H b)
  (ck:v_ scope X.env.scope T X.N) (hnd:(T++X.N).Nodup) (hst:zX T.length stf) (er:oA X.K H ρ σ) (y:sF X.K J ds H) (hz:ds.length<=sizeLine) (hout:qv stf cf ef ds (List.replicate T.length none++ρ)=some out)
  (hg:∀C s₃ H₃ fp,SG (wG X T scope C fp s₃ H₃) tg stf) (hcnd:∀C s₃ H₃ fp,EI (wG X T scope C fp s₃ H₃) ifs cf) (he:∀C s₃ H₃ fp,SE (wG X T scope C fp s₃ H₃) elt ef)
  {RR:Value->Addr->Result->Shared->Prop}
  (hRR:∀(a C:Addr) (H':Hp) (s':Shared) (vs:List V),k9 H H'->H' a=some (.lst vs)->i9 X.K H' out vs->L2.Inv X pins σ H' s'->sS X pins H' C->(∃m,s'.heap.Ns C m)->RR (.ref a) C (.ok .next) s') :
  wpAny (model X.prog X.w) X.A (newList []) (fun acc s₃=>wpAny (model X.prog X.w) X.A (newFunctionEnv scope X.env.globals (pM scope.names X.env.cells []) [] X.env.qual none .none (some X.env)) (fun cenv s₄ =>
   codeAny (model X.prog X.w) X.A (.compStart (.ListComp elt [⟨tg,iter,ifs,0⟩] scope pos) 0 (.ref it) acc {cenv with scope:=relabel scope X.env}) (RR acc cenv.locals) s₄) E s₃) E s:=by
 refine wpAny_newObj_type (wpAny_newFunctionEnv ck.nocell (by intro y hy;simp at hy) (fun h₁ hns₁ hsb₁=>?_) ck.kind)
 dsimp only at hns₁ hsb₁ ⊢
 generalize hH2:s.heap.push {cls:=.type "list",dict:=none,data:=.seq ([]:List Value).toArray}=H2 at hns₁ hsb₁ ⊢
 generalize ha:s.heap.objs.size=a at *
 generalize hCe:H2.objs.size=C at hns₁ hsb₁ ⊢
 have hC:C=a+1:=by rw[<- hCe,<- hH2,Heap.size_push,ha]
 have haC':a<C:=by rw[hC];exact Nat.lt_succ_self a
 have haC:a≠C:=Nat.ne_of_lt haC'
 have hle:s.heap.objs.size<=a:=Nat.le_of_eq ha
 have hCle:s.heap.objs.size<=C:=Nat.le_trans hle (Nat.le_of_lt haC')
 have hlta:∀{b:Addr} {o:Obj},s.heap.get? b=some o->b<a:=fun e=>Nat.lt_of_lt_of_le (Heap.lt_size e) hle
 have old:∀b o,s.heap.get? b=some o->h₁.get? b=some o:=fun b o e=>hsb₁.extBut b o (Nat.ne_of_lt (Nat.lt_trans (hlta e) haC')) (Heap.get?_push_of_some _ (hH2 ▸ Heap.get?_push_of_some _ e))
 have hacc:h₁.get? a=some {cls:=.type "list",data:=.seq ([]:List Value).toArray}:=hsb₁.extBut _ _ haC (Heap.get?_push_of_some _ (hH2 ▸ (ha ▸ Heap.get?_push_size _ rfl)))
 have hfo:∀b∈fp,∃o,s.heap.get? b=some o:=fun b hb=>let ⟨o,e,_⟩:=Tn.obj 0 _ st b hb;⟨o,e⟩
 have hlt:∀b∈fp,b<a:=fun b hb=>let ⟨o,e⟩:=hfo b hb;hlta e
 have hns:h₁.Ns C (fun _=>none):=hns₁
 have I0:L2.Inv (wG X T scope C fp s H) [] (List.replicate T.length none++σ) H {s with heap:=h₁,toks:=s.toks+([]:List (Str×Value)).length}:=zS I ck hnd hf hfo hCle old hns
 have hcl:∀y c,(pM scope.names X.env.cells []).lookup y=some c->X.env.cells.lookup y=some c:=uh scope.names [] fun y c h=>by cases h
 have hfs:∀b,a<=b->b∉yO X.stack:=fun b hb hz=>by
  rcases List.mem_cons.mp (I.stkSub b hz) with z | z
  ·exact absurd (Nat.lt_of_lt_of_le I.lt (Nat.le_trans hle (z ▸ hb))) (Nat.lt_irrefl _)
  ·exact I.nofs (Nat.le_trans hle hb) z
 have hcells:∀b,a<=b->∀x c,(pM scope.names X.env.cells []).lookup x=some c->c≠b:=fun b hb x c h z=>by
  obtain⟨v,q⟩:=I.cell x c (hcl x c h)
  exact absurd (Nat.lt_of_lt_of_le q.lt (Nat.le_trans hle (z ▸ hb))) (Nat.lt_irrefl _)
 have hfpok:∀{H':Hp} {pl:List (Addr×Obj)},(∀b∈fp,H' b=none)->(∀p∈pl,p.1∉fp)->∀b∈fp,sS (wG X T scope C fp s H) pl H' b:=fun {H' pl} hn hp b hb =>
  BO (.inl hb) (Nat.ne_of_lt (Nat.lt_trans (hlt b hb) haC')) (I0.ok.exfs b hb) (fun x c h=>(I0.ok.exf b hb).2 x c h) (hn b hb) fun p hp' z=>hp p hp' (z ▸ hb)
 have hAok:∀{H':Hp},H' a=none->∀b ∈ [a],sS (wG X T scope C fp s H) [] H' b:=fun {H'} hn b hb=>by
  cases List.mem_singleton.mp hb
  exact BO (.inr hle) haC (hfs a (Nat.le_refl _)) (hcells a (Nat.le_refl _)) hn fun p hp=>absurd hp (by simp)
 have hAfp:a∉fp:=fun z=>Nat.lt_irrefl _ (hlt a z)
 have loop:codeAny (model X.prog X.w) X.A (.compLoop (.ListComp elt [⟨tg,iter,ifs,0⟩] scope pos) 0 (.ref it) (.ref a) (compEnvC scope (pM scope.names X.env.cells []) C X.env))
   (RR (.ref a) C) {s with heap:=h₁,toks:=s.toks+([]:List (Str×Value)).length}:=by
  refine wz (fun n s'=>∃i σ' H' vs its k done rest,n=ds.length - i/\i<=ds.length/\L2.Inv (wG X T scope C fp s H) [] σ' H' s'/\tn i s'.heap/\(∀b∈fp,H' b=none)/\H' a=none/\k9 H H' /\
   s'.heap.get? a=some {cls:=.type "list",data:=.seq (its:List Value).toArray k}/\m9 vs its/\i9 X.K H' done vs/\vs.length<=i/\oA X.K H' (List.replicate T.length none++ρ) σ' /\
   qv stf cf ef (ds.drop i) (List.replicate T.length none++ρ)=some rest/\out=done++rest) ?_ ds.length
   ⟨0,_,H,[],[],0,[],out,by omega,Nat.zero_le _,I0,Tn.keep _ _ _ st (fun b hb o e=>old b o e),fun b hb=>(hf b hb).1,I.hok.fresh hle,k9.refl H,hacc,.nil,rfl,Nat.zero_le _,er.front T.length (List.replicate T.length none) (by simp),by simpa using hout,rfl⟩
  rintro n s' ⟨i,σ',H',vs,its,k,done,rest,rfl,hi,I',st',hn',hna,sm,ho,hv,hrd,hvl,er',hrest,hsum⟩
  have Ip:=I'.pinned (fp:=[a]) (hAok hna) fun b hb=>by
   cases List.mem_singleton.mp hb
   exact⟨_,ho,fun v z=>by cases z⟩
  generalize hP:([]:List (Addr×Obj))++sw [a] s'.heap=P at Ip
  have hPm:(a,({cls:=.type "list",data:=.seq its.toArray k}:Obj))∈P:=by rw[<- hP];exact List.mem_append_right _ (cn (by simp) ho)
  have hPa:∀p∈P,p.1∉fp:=fun p hp z=>by
   rw[<- hP] at hp
   obtain⟨q,_⟩:=vt hp
   rw[List.mem_singleton.mp q] at z
   exact hAfp z
  by_cases hlt':i<ds.length
  ·have hd:ds[i]?=some ds[i]:=by simp[hlt']
   obtain⟨hgo,hy⟩:=y.1 i ds[i] H' (Kp.of sm) hd
   rw[List.drop_eq_getElem_cons hlt'] at hrest
   obtain⟨ρ1,e1,hrest⟩:=i6 hrest
   obtain⟨b,e2,hrest⟩:=i6 hrest
   obtain⟨o,e3,hrest⟩:=i6 hrest
   obtain⟨rest',e4,e5⟩:=oD hrest
   obtain⟨τ,hτ,hρ1⟩:=hst ds[i] (List.replicate T.length none) ρ ρ1 (by simp) e1
   refine oy (Tn.item (wG X T scope C fp s H) rfl rfl rfl hc i P s' σ' H' (fun _ _=>False) Ip (hfpok hn' hPa) st' hgo) fun r s1 ⟨u,hr,h4⟩=>?_
   subst hr
   refine oy h4 fun _ s2 ⟨x,H2',I2,r2,y2,st2,fr2⟩=>?_
   obtain⟨s12,rx⟩:=hy x H2' y2
   have I3:=I2.pinned (fp:=fp) (hfpok fr2 hPa) (Tn.obj _ _ st2)
   refine oy (hg C s H fp _ s2 σ' H2' x u (fun σ3 H3=>k9 H2' H3/\oA X.K H3 ρ1 σ3) I3 r2 ⟨_,_,ds[i],ρ1,(er'.mono s12).t,rx,e1,fun σ3 H3 s3 er3=>⟨s3,er3.1⟩⟩) fun _ s3 ⟨σ3,H3,I4,s23,er3⟩=>?_
   refine oy (hcnd C s H fp _ s3 σ3 H3 (fun b' H4=>b'=b/\k9 H3 H4) I4 ⟨ρ1,b,er3,e2,fun H4 s4=>⟨rfl,s4⟩⟩) fun b' s4 ⟨H4,I5,hb',s34⟩=>?_
   subst hb'
   have fin:∀{H5:Hp} {s5:Shared},L2.Inv (wG X T scope C fp s H) (P++sw fp s2.heap) σ3 H5 s5->(∀b∈fp,H5 b=none)/\H5 a=none/\s5.heap.get? a=some {cls:=.type "list",data:=.seq its.toArray k}/\(∀b∈fp,∀o,s2.heap.get? b=some o->s5.heap.get? b=some o):=fun {H5 s5} I6=>by
    refine⟨fun b hb=>?_,(I6.pin _ (List.mem_append_right _ (List.mem_append_left _ hPm))).2.1,(I6.pin _ (List.mem_append_right _ (List.mem_append_left _ hPm))).1,fun b hb o e=>(I6.pin (b,o) (List.mem_append_right _ (List.mem_append_right _ (cn hb e)))).1⟩
    obtain⟨o,e,_⟩:=Tn.obj _ _ st2 b hb
    exact(I6.pin (b,o) (List.mem_append_right _ (List.mem_append_right _ (cn hb e)))).2.1
   have unpin:∀{H5:Hp} {s5:Shared},L2.Inv (wG X T scope C fp s H) (P++sw fp s2.heap) σ3 H5 s5->L2.Inv (wG X T scope C fp s H) [] σ3 H5 s5:=fun I6=>I6.pins_of fun p hp=>absurd hp (by simp)
   have erb:∀{H5:Hp},k9 H3 H5->oA X.K H5 (List.replicate T.length none++ρ) σ3:=fun s5=>by
    have z:=er3.mono s5
    rw[hρ1] at z
    have z2:=z.forget
    rw[hτ] at z2
    exact z2
   cases b' with
   | false =>
    cases e3
    rw[if_neg Bool.false_ne_true]
    obtain⟨q1,q2,q3,q4⟩:=fin I5
    have sm4:k9 H H4:=sm.trans (s12.trans (s23.trans s34))
    have smr:k9 H' H4:=s12.trans (s23.trans s34)
    exact⟨ds.length - (i+1),by omega,i+1,σ3,H4,vs,its,k,done,rest',rfl,hlt',unpin I5,Tn.keep _ _ _ st2 q4,q1,q2,sm4,q3,hv,hrd.mono smr,Nat.le_succ_of_le hvl,erb s34,e4,by rw[hsum,<- e5]⟩
   | true =>
    rw[if_pos rfl] at e3 ⊢
    obtain⟨yv,e6,e7⟩:=oD e3
    subst e7
    refine oy (he C s H fp _ s4 σ3 H4 (fun v H5=>k9 H4 H5/\Rep X.K H5 yv v) I5 ⟨ρ1,yv,er3.mono s34,e6,fun v H5 s5 r5=>⟨s5,r5⟩⟩) fun xv s5 ⟨v,H5,I6,rv,s45,ry⟩=>?_
    obtain⟨q1,q2,q3,q4⟩:=fin I6
    have hl:=hv.length
    refine call_meets F.slot_list_append ⟨_,q3,rfl⟩ F.entry_list_append (F.args_list_append_2 _ _) (PySem.list_append a its.toArray k xv (by rw[List.size_toArray];omega)) ⟨q3,?_⟩
    have q:=PySem.IsL.update q3 (fun xs=>xs.push xv)
    have sm5:k9 H H5:=sm.trans (s12.trans (s23.trans (s34.trans s45)))
    have smr:k9 H' H5:=s12.trans (s23.trans (s34.trans s45))
    have I7:L2.Inv (wG X T scope C fp s H) [] σ3 H5 {s5 with heap:=s5.heap.update a (Obj.mapSeq fun xs=>xs.push xv),toks:=s5.toks}:=
     (unpin I6).turned (it:=a) (t':=s5.toks) (fun b ob hb hu=>(Heap.get?_update_other s5.heap _ (Ne.symm hb)).trans hu) q2 haC (.inr hle) (hcells a (Nat.le_refl _)) fun p hp=>absurd (show p∈([]:List (Addr×Obj)) from hp) (by simp)
    refine⟨ds.length - (i+1),by omega,i+1,σ3,H5,vs++[v],its++[xv],(if (its.toArray.push xv).size==its.toArray.size then k else k+1),done++[yv],rest',rfl,hlt',I7,Tn.keep _ _ _ st2 fun b hb ob e=>?_,q1,q2,sm5,?_,hv.append (.cons rv .nil),(hrd.mono smr).append (i9.one ry),by simp;omega,erb (s34.trans s45),e4,by rw[hsum,<- e5];simp⟩
    ·have hne:b≠a:=fun z=>hAfp (z ▸ hb)
     exact(Heap.get?_update_other s5.heap _ (Ne.symm hne)).trans (q4 b hb ob e)
    ·have z:its.toArray.push xv=(its++[xv]).toArray:=by simp
     rw[<- z]
     exact q
  ·have ei:i=ds.length:=by omega
   subst ei
   rw[List.drop_length] at hrest
   cases hrest
   rw[List.append_nil] at hsum
   subst hsum
   refine oy (Tn.done (wG X T scope C fp s H) rfl rfl rfl hc ds.length P s' σ' H' (fun _ _=>False) Ip (hfpok hn' hPa) st' (y.2 _ H' (Kp.of sm) (Nat.le_refl _))) fun r s1 ⟨hr,I1⟩=>?_
   subst hr
   have ho1:=(I1.pin _ (List.mem_append_right _ hPm)).1
   have IX:L2.Inv X pins σ H' s1:=I.call' (ch:=fp) I1.os I1.base I1.hok I1.bare fun b hb=>⟨(hf b hb).2.2.2.1,(hf b hb).2.1,(hf b hb).2.2.2.2.1,(hf b hb).2.2.2.2.2⟩
   have fA:sS X pins H' a:=I.fpOk hle hna
   have s2:=aV hna (.lst vs)
   refine hRR a C (upd H' a (.lst vs)) s1 vs (sm.trans s2) aB (hrd.mono s2) (DB IX fA ⟨Nat.le_trans hvl hz,its,k,hv,ho1⟩) (I.fpOk hCle ?_) (let ⟨m,q,_⟩:=I1.loc;⟨m,q⟩)
   rw[aD (Ne.symm haC)]
   exact I1.free
 exact codeAny_compStart_list loop (Tn.self _ _ _ _ _ (Tn.keep _ _ _ st fun b hb o e=>old b o e) loop)
variable{elt iter tg:Expr}{ifs:List Expr}{pos p2:Pos}{itf:R->Option LD}{stf:D->R->Option R}{cf:R->Option Bool}{ef:R->OD}
theorem kM(I:L2.Inv X pins σ H s)(ck:v_ scope X.env.scope T X.N):closureFor scope X.env=pure (pM scope.names X.env.cells []):=xH fun p hp hf=>I.ok.has p.1 (ck.free p hp hf)
theorem gQ(hc:X.calm=true)(hi:SI X tg iter itf)(hg:∀C s₃ H₃ fp,SG (wG X T scope C fp s₃ H₃) tg stf)(hcnd:∀C s₃ H₃ fp,EI (wG X T scope C fp s₃ H₃) ifs cf)(he:∀C s₃ H₃ fp,SE (wG X T scope C fp s₃ H₃) elt ef)
  (hst:zX T.length stf) (hnd:(T++X.N).Nodup) (ck:wq scope X.env.scope T X.N=true:=by rfl) (hs:∀x,foldedSetIterable iter X.env x=pure x:=by intro _;rfl) :
  SE X (.ListComp elt [⟨tg,iter,ifs,0⟩] scope pos) (wH T.length itf stf cf ef):=by
 intro pins s σ H Q I hw
 obtain⟨ρ,d,er,e,q⟩:=hw
 obtain⟨ds,e1,e⟩:=i6 e
 have ck':=yZ ck
 split at e
 ·rename_i hz
  obtain⟨out,e2,e3⟩:=oD e
  subst e3
  rw[eval_ListComp]
  refine wpAny_comprehension_free (use:=none) rfl hs (kM I ck') ck'.kind ck'.names ?_
  refine oy (hi pins s σ H (fun J H'=>k9 H H'/\sF X.K J ds H') I ⟨ρ,ds,er,e1,fun J H' s1 y=>⟨s1,y⟩⟩) fun v s1 h1=>oy h1 fun itv s2 h2=>?_
  obtain⟨it,fp,tn,J,H',ei,I2,Tn,st,hf,s12,y⟩:=h2
  subst ei
  refine lJ (RR:=fun acc C=>compPost (model X.prog X.w) X.A X.xe none (EP X pins σ Q) acc C) I2 hc Tn st hf ck' hnd hst (er.mono s12) y hz e2 hg hcnd he ?_
  intro a C H3 s' vs sm ha hr I3 fC hns
  obtain⟨m,hm⟩:=hns
  refine⟨m,hm,fun h' hsb=>⟨.ref a,H3,?_,rfl,q _ H3 (s12.trans sm) ⟨a,vs,rfl,ha,hr⟩⟩⟩
  obtain⟨f0,f1,f2,f3,f4,f5⟩:=fC
  exact I3.turned (it:=C) (t':=s'.toks) (fun b o hb eb=>(hsb.2 b hb).trans eb) f0 f1 f3 f4 f5
 ·cases e
end
end HW
namespace HW
open PySem
mutual
def toPy:D->PyData
 | .non=>.none
 | .bl b=>.bool b
 | .int i=>.int i
 | .str x=>.str x
 | .tup xs=>.tuple (qh xs)
 | .lst xs=>.list (qh xs)
 | .fro xs=>.list (qh xs)
 | .obj ..=>.dict []
def qh:LD->List PyData
 | []=>[]
 | d::ds=>toPy d::qh ds
end
end HW
set_option maxHeartbeats 1000000
namespace HW
open PySem PySem.Spec PyProof.Rows L2
section
variable{X:Cx}
theorem ints2{K:W.Frag}{H:Hp}{i j:Int}{xs:List V}(r:i9 K H [.int i,.int j] xs):xs=[.int i,.int j]:=by
 obtain⟨v,r',rfl,r1,w,r'',rfl,r2,r3⟩:=r
 cases (show v=_ from r1)
 cases (show w=_ from r2)
 cases (show r''=[] from r3)
 rfl
theorem fw(hc:X.calm=true):CL X (.builtin "max") vc:=(kx hc).imp fun xs H Q ⟨ds,d,r,e,q⟩=>by
 match ds,e with
 | [.int i,.int j],e =>
  cases e
  exact⟨i,j,ints2 r,q _ H (k9.refl H) rfl⟩
theorem mZ:CL X (.type "int") CH:=yH.imp fun xs H Q ⟨ds,d,r,e,q⟩=>by
 match ds,e with
 | [.int i],e =>
  cases e
  obtain⟨v,r',rfl,r1,r2⟩:=r
  cases (show v=_ from r1)
  cases (show r'=[] from r2)
  exact .inl ⟨i,rfl,q _ H (k9.refl H) rfl⟩
 | [.bl b],e =>
  cases e
  obtain⟨v,r',rfl,r1,r2⟩:=r
  cases (show v=_ from r1)
  cases (show r'=[] from r2)
  exact .inr ⟨b,rfl,q _ H (k9.refl H) rfl⟩
mutual
theorem ro{pins:List (Addr×Obj)}{σ:L2.St}{H:Hp}{s:Shared}(I:L2.Inv X pins σ H s):∀{d:D} {v:V} {u:Value},we d=true->Rep X.K H d v->RelV v u->∃as,Reads s.heap u (toPy d) as
 | .non,v,u,hn,h,r=>by
  cases (show v=_ from h)
  cases (show u=_ from r)
  exact⟨_,.none⟩
 | .bl b,v,u,hn,h,r=>by
  cases (show v=_ from h)
  cases (show u=_ from r)
  exact⟨_,.bool b⟩
 | .int i,v,u,hn,h,r=>by
  cases (show v=_ from h)
  obtain⟨t,rfl⟩:=r
  exact⟨_,.int i t⟩
 | .str x,v,u,hn,h,r=>by
  cases (show v=_ from h)
  obtain⟨t,rfl⟩:=r
  exact⟨_,.str x t⟩
 | .tup ds,v,u,hn,h,r=>by
  obtain⟨a,xs,rfl,q,t⟩:=h
  cases (show u=_ from r)
  obtain⟨its,rv,⟨o,e,c,n,dd⟩,_⟩:=I.tuple q
  obtain⟨as,ra⟩:=rW I hn t rv
  exact⟨_,.tuple e c dd (by simpa using ra)⟩
 | .lst ds,v,u,hn,h,r=>by
  obtain⟨a,xs,rfl,q,t⟩:=h
  cases (show u=_ from r)
  obtain⟨its,rv,⟨o,n,e,c,_,dd⟩,_⟩:=I.list (qM.of q)
  obtain⟨as,ra⟩:=rW I hn t rv
  exact⟨_,.list e c dd (by simpa using ra)⟩
 | .fro ds,v,u,hn,h,r=>by
  obtain⟨a,xs,rfl,q,t⟩:=h
  cases (show u=_ from r)
  obtain⟨its,rv,⟨o,n,e,c,_,dd⟩,_⟩:=I.list q
  obtain⟨as,ra⟩:=rW I hn t rv
  exact⟨_,.list e c dd (by simpa using ra)⟩
 | .obj ..,v,u,hn,h,r=>by cases hn
theorem rW{pins:List (Addr×Obj)}{σ:L2.St}{H:Hp}{s:Shared}(I:L2.Inv X pins σ H s):∀{ds:LD} {vs:List V} {us:List Value},qU ds=true->i9 X.K H ds vs->m9 vs us->∃as,ReadsAll s.heap us (qh ds) as
 | [],vs,us,hn,h,r=>by
  cases (show vs=[] from h)
  cases r
  exact⟨_,.nil⟩
 | d::ds,vs,us,hn,h,r=>by
  have hn':(we d&&qU ds)=true:=hn
  rw[Bool.and_eq_true] at hn'
  obtain⟨v,vr,rfl,h1,h2⟩:=h
  cases r with
  | cons r1 r2 =>
   obtain⟨as,q1⟩:=ro I hn'.1 h1 r1
   obtain⟨bs,q2⟩:=rW I hn'.2 h2 r2
   exact⟨_,.cons q1 q2⟩
end
end
def rm(a:Addr)(xs:List V):HO:=.ext fun h=>xs.length<=sizeLine/\∃(its:List Value) (n:Nat),m9 xs its/\h.get? a=some {cls:=.type "list",data:=.seq its.toArray n}
section
variable{X:Cx}{pins:List (Addr×Obj)}{σ:L2.St}{H:Hp}{s:Shared}{a:Addr}{xs:List V}
theorem jV(I:L2.Inv X pins σ H s)(h:H a=some (rm a xs)):xs.length<=sizeLine/\∃(its:List Value) (n:Nat),m9 xs its/\s.heap.get? a=some {cls:=.type "list",data:=.seq its.toArray n}:=(I.hok a _ h).1
theorem xB(I:L2.Inv X pins σ H s)(h:H a=some (.lst xs)):L2.Inv X pins σ (upd H a (rm a xs)) s:=by
 obtain⟨z,its,n,r,e⟩:=I.hok a _ h
 have:=I.write (t':=s.toks) (h':=s.heap) (o:=rm a xs) (x:=a) (e:=a) (by rw[h];trivial) (.inl rfl) (fun _ _ _ q=>q) ⟨_,e⟩ ⟨⟨z,its,n,r,e⟩,⟨_,e⟩,fun h1 h2 ⟨z,its,n,r,e⟩ k=>⟨z,its,n,r,k _ e⟩⟩
 exact this
theorem z7(I:L2.Inv X pins σ H s)(h:H a=some (rm a xs)):L2.Inv X pins σ (upd H a (.lst xs)) s:=by
 obtain⟨z,its,n,r,e⟩:=jV I h
 have:=I.write (t':=s.toks) (h':=s.heap) (o:=.lst xs) (x:=a) (e:=a) (by rw[h];trivial) (.inl rfl) (fun _ _ _ q=>q) ⟨_,e⟩ ⟨z,its,n,r,e⟩
 exact this
def qN(a:Addr)(H H':Hp):Prop:=∀b u,b≠a->H b=some u->H' b=some u
theorem qN.of{H H':Hp}(h:k9 H H'):qN a H H':=fun b u _ e=>h b u e
theorem qN.trans{H H1 H2:Hp}(h:qN a H H1)(h':qN a H1 H2):qN a H H2:=fun b u n e=>h' b u n (h b u n e)
theorem qN.upd{o:HO}:qN a H (upd H a o):=fun b u n e=>by rw[aD n];exact e
theorem qN.kp{H H':Hp}(h:qN a H H')(ho:H a=some (rm a xs)):Kp H H':=fun b u e n=>by
 by_cases hb:b=a
 ·subst hb
  rw[ho] at e
  cases e
  exact absurd rfl (n _)
 ·exact h b u hb e
end
section
variable(K:W.Frag)
def FW(u:R->LD->Option (Out×LD)):TS:=fun E σ H=>∃ ρ τ a ds xs o ds',pG K H ρ (some (.ref a)::τ) σ/\H a=some (rm a xs)/\i9 K H ds xs/\u ρ ds=some (o,ds') /\
 ∀H' xs',qN a H H'->H' a=some (rm a xs')->i9 K H' ds' xs'->fin K E (some (.ref a)::τ) o H'
def Gu(u:R->LD->Option Out):TS:=fun E σ H=>∃ ρ τ a ds xs o,pG K H ρ (some (.ref a)::τ) σ/\H a=some (rm a xs)/\i9 K H ds xs/\u ρ ds=some o/\∀H',qN a H H'->fin K E τ o H'
end
def OS(X:Cx)(st:Stmt)(u:R->LD->Option (Out×LD)):Prop:=PS X st (FW X.K u)
def DK(X:Cx)(sts:List Stmt)(u:R->LD->Option (Out×LD)):Prop:=PSs X sts (FW X.K u)
def OB(X:Cx)(sts:List Stmt)(u:R->LD->Option Out):Prop:=PSs X sts (Gu X.K u)
section
variable{X:Cx}{st:Stmt}{sts:List Stmt}{u:R->Option Out}{p q:R->LD->Option (Out×LD)}{pos:Pos}
theorem hZ:DK X [] uV:=wx.imp fun E σ H ⟨ρ,τ,a,ds,xs,o,ds',er,ho,rp,e,q⟩=>by
 cases e
 exact q H xs (qN.of (k9.refl H)) ho rp σ er
theorem fY(h:OS X st p):DK X [st] p:=fP h
theorem lE{c:Expr}{s:R->Option Bool}{B1 B2:List Stmt}(hc:ST X c s)(ha:DK X B1 p)(hb:DK X B2 q):OS X (.If c B1 B2 pos) (A3 s p q):=(ly hc ha hb).imp fun E σ H ⟨ρ,τ,a,ds,xs,o,ds',er,ho,rp,e,qq⟩=>by
 obtain⟨x,e1,e⟩:=i6 e
 refine⟨ρ,x,er.1,e1,fun H1 s1=>?_⟩
 cases x with
 | true=>rw[if_pos rfl] at e ⊢;exact⟨ρ,τ,a,ds,xs,o,ds',er.mono s1,s1 _ _ ho,rp.mono s1,e,fun H2 xs2 k2=>qq H2 xs2 ((qN.of s1).trans k2)⟩
 | false=>rw[if_neg Bool.false_ne_true] at e ⊢;exact⟨ρ,τ,a,ds,xs,o,ds',er.mono s1,s1 _ _ ho,rp.mono s1,e,fun H2 xs2 k2=>qq H2 xs2 ((qN.of s1).trans k2)⟩
theorem mC{tg iter:Expr}{B:List Stmt}{it:R->Option LD}{stf:D->R->Option R}(hp:PassesOwn (model X.prog X.w) X.A X.env X.xe)(hc:X.calm=true)(hi:SI X tg iter it)(hg:SG X tg stf)(hb:DK X B p)
  (hs:∀x,foldedSetIterable iter X.env x=pure x:=by intro _;rfl):OS X (.For tg iter B [] pos) (BJ it stf p):=(kY hp hc hi hg hb hs).imp fun E σ H ⟨ρ,τ,a,ls,xs,o,ls',er,ho,rp,e,q⟩=>by
 obtain⟨ds,e1,e⟩:=i6 e
 refine⟨ρ,ds,er.1,e1,fun J H1 s1 y=>?_⟩
 refine⟨fun i m σ' H'=>m=ds.length - i/\i<=ds.length/\qN a H1 H'/\∃ ρ' l xs',pG X.K H' ρ' (some (.ref a)::τ) σ'/\H' a=some (rm a xs')/\i9 X.K H' l xs'/\vU stf p (ds.drop i) ρ' l=some (o,ls'),
  ⟨ds.length,by simp,Nat.zero_le _,qN.of (k9.refl _),ρ,ls,xs,er.mono s1,s1 _ _ ho,rp.mono s1,by simpa using e⟩,?_⟩
 rintro i m σ' H' ⟨rfl,hi,s2,ρ',l,xs',er',ho',rp',e'⟩
 have kp:Kp H1 H':=s2.kp (s1 _ _ ho)
 by_cases hlt:i<ds.length
 ·refine .inr ?_
  have hd:ds[i]?=some ds[i]:=by simp[hlt]
  obtain⟨hgo,hy⟩:=y.1 i ds[i] H' kp hd
  rw[List.drop_eq_getElem_cons hlt] at e'
  obtain⟨ρ1,e2,e'⟩:=i6 e'
  obtain⟨⟨o1,l1⟩,e3,e'⟩:=i6 e'
  refine⟨hgo,fun σ2 H2=>i+1<=ds.length/\qN a H1 H2/\∃ ρ' l xs',pG X.K H2 ρ' (some (.ref a)::τ) σ2/\H2 a=some (rm a xs')/\i9 X.K H2 l xs'/\vU stf p (ds.drop (i+1)) ρ' l=some (o,ls'),
   fun σ2 H2 n2=>⟨ds.length - (i+1),by omega,rfl,n2.1,n2.2⟩,fun x H3 yx=>?_⟩
  obtain⟨s3,rx⟩:=hy x H3 yx
  refine⟨ρ',_,ds[i],ρ1,er'.mono s3,rx,e2,fun σ4 H4 s4 er4=>⟨ρ1,τ,a,l,xs',o1,l1,er4,s4 _ _ (s3 _ _ ho'),(rp'.mono s3).mono s4,e3,fun H5 xs5 k5 ho5 rp5=>?_⟩⟩
  have s15:qN a H1 H5:=s2.trans ((qN.of s3).trans ((qN.of s4).trans k5))
  cases o1 with
  | nx ρ2=>exact fun σ6 er6=>⟨hlt,s15,ρ2,l1,xs5,er6,ho5,rp5,e'⟩
  | ct ρ2=>exact fun σ6 er6=>⟨hlt,s15,ρ2,l1,xs5,er6,ho5,rp5,e'⟩
  | bk ρ2=>cases e';exact fun σ6 er6=>q H5 xs5 ((qN.of s1).trans s15) ho5 rp5 σ6 er6
  | rt d=>cases e';exact q H5 xs5 ((qN.of s1).trans s15) ho5 rp5
 ·have e4:i=ds.length:=by omega
  subst e4
  rw[List.drop_length] at e'
  cases e'
  exact .inl ⟨y.2 _ H' kp (Nat.le_refl _),q H' xs' ((qN.of s1).trans s2) ho' rp' σ' er'⟩
theorem jt{K:W.Frag}{H:Hp}{ρ:R}{v:V}{τ σ:L2.St}(er:pG K H ρ (some v::τ) σ):σ[ρ.length]?=some (some v):=by
 have:=er.2
 have h0:(σ.drop ρ.length)[0]?=some (some v):=by rw[this];rfl
 rw[List.getElem?_drop] at h0
 simpa using h0
theorem lz{x name:Str}{e:Expr}{px ap cp:Pos}{f:R->OD}{id:String}{r:V->List V->Hp->VK->Prop}{g:LD->D->Option LD}{u:R->LD->Option (Out×LD)}(i:Nat)(slot:Slot "list" name id)(hty:typeOf (.builtin id)=pure (.type "method_descriptor"))(hm:E7 X id r)
  (hu:∀ ρ ds o ds',u ρ ds=some (o,ds')->ρ.length=i/\o=.nx ρ/\∃d,f ρ=some d/\g ds d=some ds')
  (hr:∀(H:Hp) (a:Addr) (xs:List V) (v:V) (ds ds':LD) (d:D) (Q:VK),H a=some (rm a xs)->i9 X.K H ds xs->Rep X.K H d v->g ds d=some ds'->(∀xs',i9 X.K H ds' xs'->Q .non (upd (upd H a (.lst xs)) a (.lst xs')))->r (.ref a) [v] (upd H a (.lst xs)) Q)
  (he:SE X e f) (hN:X.N[i]?=some x:=by rfl) (hv:BP X.env.scope x:=by first | exact Or.inl rfl | exact Or.inr (Or.inl rfl) | exact Or.inr (Or.inr rfl)) (hd:(x==("__debug__" : Str))=false:=by decide) (hcd:(x==("__classdict__" : Str))=false:=by decide)
  (hbase:attributeBase (.Name x px) name X.env (eval (.Name x px) X.env)=eval (.Name x px) X.env:=by rfl) (hst:noStar e=true:=by rfl)
  (hline:(ap.endLine==cp.line)=true:=by rfl) (hs:swapsWith (.Call (.Attribute (.Name x px) name ap) [e] [] cp) none pos.line X.env=pure false:=by rfl) :
  OS X (.Expr (.Call (.Attribute (.Name x px) name ap) [e] [] cp) pos) u:=by
 intro pins s σ H E I ⟨ρ,τ,a,ds,xs,o,ds',er,ho,rp,eu,qq⟩
 obtain⟨hi,rfl,d,e1,e2⟩:=hu ρ ds o ds' eu
 have hσ:=jt er
 rw[hi] at hσ
 have hst1:=aJ [] X.env hst
 refine wpAny_Expr_any (wpAny_Call_method_late hbase ?_ hline rfl (oy ((pv i (pos:=px) hN hv hd hcd) pins s σ H (fun v H1=>v=.ref a/\H1=H) I ⟨.ref a,hσ,rfl,rfl⟩) fun v s1 ⟨y,H1,I1,r1,ey,eH⟩=>?_)) I.quiet hs
 ·rw[hst1]
  rfl
 subst ey eH
 cases (show v=_ from r1)
 obtain⟨z,its,n,rv,eo⟩:=jV I1 ho
 refine⟨"list",id,PySem.F.plainAttrs_list,slot,hty,⟨_,eo,rfl⟩,fun b eb=>?_,?_⟩
 ·cases eb
  exact⟨_,eo,rfl⟩
 have hA:=(aa he ae hst).1 cp pins s1 σ H1 (fun vs H2=>k9 H1 H2/\i9 X.K H2 [d] vs) I1 ⟨ρ,[d],er.1,by show(f ρ).bind _=_;rw[e1];rfl,fun vs H2 s2 r2=>⟨s2,r2⟩⟩
 rw[hst1] at hA ⊢
 refine Calls.callWith_builtin rfl (Calls.evalArgs_plain ?_)
 refine oy hA fun us s2 ⟨vs,H2,I2,r2,s12,rd⟩=>?_
 obtain⟨w,w',rfl,rw1,rw2⟩:=rd
 cases (show w'=[] from rw2)
 have ho2:=s12 _ _ ho
 have I3:=z7 I2 ho2
 refine oy (hm pins s2 σ (upd H2 a (.lst xs)) (.ref a) [w] (.ref a) us (fun v H3=>∃xs',i9 X.K H2 ds' xs'/\H3=upd (upd H2 a (.lst xs)) a (.lst xs')) I3 rfl r2 (hr H2 a xs w ds ds' d _ ho2 (rp.mono s12) rw1 e2 fun xs' rp'=>⟨xs',rp',rfl⟩)) fun v s3 ⟨v',H3,I4,_,xs',rp',e3⟩=>?_
 subst e3
 have I5:=xB I4 aB
 generalize hH5:upd (upd (upd H2 a (.lst xs)) a (.lst xs')) a (rm a xs')=H5 at I5
 have k25:qN a H2 H5:=by
  subst hH5
  exact qN.upd.trans (qN.upd.trans qN.upd)
 have ho5:H5 a=some (rm a xs'):=by subst hH5;exact aB
 have k15:qN a H1 H5:=(qN.of s12).trans k25
 refine⟨σ,H5,I5,qq H5 xs' k15 ho5 (rp'.kp (k25.kp ho2)) σ (er.kp (k15.kp ho))⟩
theorem ji{x:Str}{e:Expr}{px ap cp:Pos}{f:R->OD}(i:Nat)(he:SE X e f)(hN:X.N[i]?=some x:=by rfl)(hv:BP X.env.scope x:=by first | exact Or.inl rfl | exact Or.inr (Or.inl rfl) | exact Or.inr (Or.inr rfl))(hd:(x==("__debug__" : Str))=false:=by decide)(hcd:(x==("__classdict__" : Str))=false:=by decide)
  (hbase:attributeBase (.Name x px) "append" X.env (eval (.Name x px) X.env)=eval (.Name x px) X.env:=by rfl) (hst:noStar e=true:=by rfl)
  (hline:(ap.endLine==cp.line)=true:=by rfl) (hs:swapsWith (.Call (.Attribute (.Name x px) "append" ap) [e] [] cp) none pos.line X.env=pure false:=by rfl) :
  OS X (.Expr (.Call (.Attribute (.Name x px) "append" ap) [e] [] cp) pos) (xM i f):=by
 refine lz (g:=fun ds d=>if ds.length<sizeLine then some (ds++[d]) else none) (f:=f) i PySem.F.slot_list_append PySem.F.type_list_append kD ?_ ?_ he hN hv hd hcd hbase hst hline hs
 ·intro ρ ds o ds' h
  obtain⟨d,e1,h⟩:=i6 h
  split at h
  ·rename_i hc
   cases h
   exact⟨hc.1,rfl,d,e1,if_pos hc.2⟩
  ·cases h
 ·intro H a xs v ds ds' d Q ho rp rd e q
  split at e
  ·rename_i hc
   cases e
   exact⟨a,xs,v,rfl,rfl,aB,by rw[<- rp.length];exact hc,q _ (rp.append (i9.one rd))⟩
  ·cases e
theorem mK{x:Str}{e:Expr}{px ap cp:Pos}{f:R->OD}(i:Nat)(he:SE X e f)(hN:X.N[i]?=some x:=by rfl)(hv:BP X.env.scope x:=by first | exact Or.inl rfl | exact Or.inr (Or.inl rfl) | exact Or.inr (Or.inr rfl))(hd:(x==("__debug__" : Str))=false:=by decide)(hcd:(x==("__classdict__" : Str))=false:=by decide)
  (hbase:attributeBase (.Name x px) "extend" X.env (eval (.Name x px) X.env)=eval (.Name x px) X.env:=by rfl) (hst:noStar e=true:=by rfl)
  (hline:(ap.endLine==cp.line)=true:=by rfl) (hs:swapsWith (.Call (.Attribute (.Name x px) "extend" ap) [e] [] cp) none pos.line X.env=pure false:=by rfl) :
  OS X (.Expr (.Call (.Attribute (.Name x px) "extend" ap) [e] [] cp) pos) (A2 i f):=by
 refine lz (g:=fun ds d=>match d with | .lst es=>if ds.length+es.length<=sizeLine then some (ds++es) else none | _=>none) (f:=f) i PySem.F.slot_list_extend PySem.F.type_list_extend kG ?_ ?_ he hN hv hd hcd hbase hst hline hs
 ·intro ρ ds o ds' h
  obtain⟨d,e1,h⟩:=i6 h
  cases d with
  | lst es =>
   dsimp only at h
   split at h
   ·rename_i hc
    cases h
    exact⟨hc.1,rfl,_,e1,if_pos hc.2⟩
   ·cases h
  | _=>cases h
 ·intro H a xs v ds ds' d Q ho rp rd e q
  cases d with
  | lst es =>
   dsimp only at e
   split at e
   ·rename_i hc
    cases e
    obtain⟨b,zs,rfl,hb,rz⟩:=rd
    have hne:b≠a:=fun z=>by
     rw[z,ho] at hb
     cases hb
    exact⟨a,b,xs,zs,rfl,rfl,aB,by rw[aD hne];exact hb,by rw[<- rp.length,<- rz.length];exact hc,q _ (rp.append rz)⟩
   ·cases e
  | _=>cases e
theorem fR{w:R->LD->Option Out}(h1:OS X st p)(h2:OB X sts w):OB X (st::sts) (ua p w):=(gm h1 h2).imp fun E σ H ⟨ρ,τ,a,ds,xs,o,er,ho,rp,e,qq⟩=>by
 obtain⟨⟨o1,ds1⟩,e1,e⟩:=i6 e
 refine⟨ρ,τ,a,ds,xs,o1,ds1,er,ho,rp,e1,fun H1 xs1 k1 ho1 rp1=>?_⟩
 cases o1 with
 | nx ρ2=>exact fun σ2 er2=>⟨ρ2,τ,a,ds1,xs1,o,er2,ho1,rp1,e,fun H2 k2=>qq H2 (k1.trans k2)⟩
 | rt d=>cases e;exact qq H1 k1
 | bk ρ2=>cases e
 | ct ρ2=>cases e
theorem jB(h:SS X sts u):OB X sts (xb u):=by
 intro pins s σ H E I ⟨ρ,τ,a,ds,xs,o,er,ho,rp,e,qq⟩
 have I2:=z7 I ho
 have k:qN a H (upd H a (.lst xs)):=qN.upd
 have hσ:=jt er
 have er2:=er.kp (k.kp ho)
 refine h pins s σ _ E I2 ⟨ρ++[some (D.lst ds)],τ,o,⟨⟨?_,fun i d hd=>?_⟩,?_⟩,(show u (ρ++[some (D.lst ds)])=some o from e),fun H' s'=>qq H' (k.trans (qN.of s'))⟩
 ·have:=(List.getElem?_eq_some_iff.mp hσ).1
  rw[List.length_append,List.length_singleton]
  exact this
 ·by_cases hi:i<ρ.length
  ·rw[List.getElem?_append_left hi] at hd
   exact er2.1.2 i d hd
  ·by_cases hi2:i=ρ.length
   ·subst hi2
    rw[List.getElem?_append_right (Nat.le_refl _),Nat.sub_self] at hd
    cases hd
    exact⟨_,hσ,a,xs,rfl,aB,rp.kp (k.kp ho)⟩
   ·rw[List.getElem?_eq_none (by simp;omega)] at hd
    cases hd
 ·rw[List.length_append,List.length_singleton,<- List.drop_drop,er.2]
  rfl
theorem jx{x:Str}{es:List Expr}{F:R->Option LD}{w:R->LD->Option Out}{px p1:Pos}(i:Nat)(hN:X.N.Nodup)(hF:SA X es F)(h2:OB X sts w)(hix:X.N[i]?=some x:=by rfl)(hx:Loc X.env.scope x:=by first | exact Or.inl rfl | exact Or.inr rfl)
  (hl:Nat.ble es.length 1000=true:=by rfl) (hs:swapsWith (.List es p1) (some (.Name x px)) pos.line X.env=pure false:=by rfl) (hf:X.fn x=true\/X.env.scope.names.lookup x=some .local:=by first | exact .inl rfl | exact .inr rfl) :
  SS X (.Assign [.Name x px] (.List es p1) pos::sts) (AU i F w):=by
 intro pins s σ H E I ⟨ρ,τ,o,er,e,qq⟩
 obtain⟨ds,e1,e⟩:=i6 e
 split at e
 case isFalse=>cases e
 case isTrue hlen =>
 refine wpAny_execs_cons (oy ((js (i:=i) hN hix hx (ln hF.1) hs hf) pins s σ H {E with nx:=fun σ' H'=>∃a vs H1,σ'=σ.set i (some (.ref a))/\H'=upd H1 a (.lst vs)/\H1 a=none/\k9 H H1/\i9 X.K H1 ds vs} I ?_) fun f s1 q=>?_)
 ·refine⟨ρ,ds,er.1,e1,fun vs H1 s1 r1=>⟨?_,fun a ha=>⟨a,vs,H1,rfl,rfl,ha,s1,r1⟩⟩⟩
  rw[<- r1.length,hF.2.1 ρ ds e1]
  exact Nat.le_of_lt (tS (Nat.le_of_ble_eq_true hl))
 cases f with
 | next =>
  obtain⟨σ',H',I',a,vs,H1,rfl,rfl,ha,s1',r1⟩:=q
  have I2:=xB I' aB
  generalize hH2:upd (upd H1 a (.lst vs)) a (rm a vs)=H2 at I2
  have k12:qN a H1 H2:=by
   subst hH2
   exact qN.upd.trans qN.upd
  have s12:k9 H1 H2:=fun b u hb=>k12 b u (fun z=>by rw[z,ha] at hb;cases hb) hb
  have ho2:H2 a=some (rm a vs):=by subst hH2;exact aB
  have hσi:i<σ.length:=Nat.lt_of_lt_of_le (by omega) er.1.1
  refine h2 pins s1 _ H2 E I2 ⟨ρ.take i,τ,a,ds,vs,o,⟨⟨?_,fun j d hd=>?_⟩,?_⟩,ho2,r1.mono s12,e,fun H' k=>qq H' fun b u hb=>?_⟩
  ·simp
   omega
  ·have hj:j<i:=by
    have:=(List.getElem?_eq_some_iff.mp hd).1
    simp at this
    omega
   rw[List.getElem?_take_of_lt hj] at hd
   obtain⟨v,h1,h2⟩:=er.1.2 j d hd
   exact⟨v,by rw[List.getElem?_set_ne (by omega)];exact h1,(h2.mono s1').mono s12⟩
  ·have hd:σ.drop (i+1)=τ:=by rw[<- hlen];exact er.2
   rw[List.length_take,Nat.min_eq_left (by omega),List.drop_eq_getElem_cons (by simpa using hσi)]
   congr 1
   ·simp
   ·rw[List.drop_set_of_lt (by omega)]
    exact hd
  ·have hb2:=s12 _ _ (s1' _ _ hb)
   exact k b u (fun z=>by
    have q:=s1' _ _ hb
    rw[z,ha] at q
    cases q) hb2
 | brk=>exact q
 | cont=>exact q
 | ret v=>exact q
end
mutual
theorem gi:∀d:D,sH d=true->(toPy d).canLay0=true
 | .non,_=>by simp[toPy,PyData.canLay0]
 | .bl _,_=>by simp[toPy,PyData.canLay0]
 | .int _,_=>by simp[toPy,PyData.canLay0]
 | .str _,h=>by rw[sH] at h;simpa [toPy,PyData.canLay0,PyData.strOk] using h
 | .tup ds,h=>by rw[toPy,PyData.canLay0];exact fS ds h
 | .lst ds,h=>by rw[toPy,PyData.canLay0];exact fS ds h
 | .fro ds,h=>by rw[toPy,PyData.canLay0];exact fS ds h
 | .obj ..,h=>by cases h
theorem fS:∀ds:LD,sj ds=true->PyData.canLayAll0 (qh ds)=true
 | [],_=>by simp[qh,PyData.canLayAll0]
 | d::ds,h=>by
  have h':(sH d&&sj ds)=true:=h
  rw[Bool.and_eq_true] at h'
  rw[qh,PyData.canLayAll0,gi d h'.1,fS ds h'.2];rfl
end
mutual
theorem li:∀d:D,we d=true->(toPy d).depth=rk d
 | .non,_=>by simp[toPy,PyData.depth,rk]
 | .bl _,_=>by simp[toPy,PyData.depth,rk]
 | .int _,_=>by simp[toPy,PyData.depth,rk]
 | .str _,_=>by simp[toPy,PyData.depth,rk]
 | .tup ds,h=>by rw[toPy,PyData.depth,rk,fU ds h]
 | .lst ds,h=>by rw[toPy,PyData.depth,rk,fU ds h]
 | .fro ds,h=>by rw[toPy,PyData.depth,rk,fU ds h]
 | .obj ..,h=>by cases h
theorem fU:∀ds:LD,qU ds=true->PyData.depthAll (qh ds)=tE ds
 | [],_=>by simp[qh,PyData.depthAll,tE]
 | d::ds,h=>by
  have h':(we d&&qU ds)=true:=h
  rw[Bool.and_eq_true] at h'
  rw[qh,PyData.depthAll,tE,li d h'.1,fU ds h'.2]
end
mutual
theorem xx:∀x y:D,we x=true->we y=true->PyData.eqv (toPy x) (toPy y)=BR x y
 | .non,y,_,h=>by cases y<;>first | rfl | cases h
 | .bl a,y,_,h=>by cases y<;>first | rfl | cases h
 | .int a,y,_,h=>by cases y<;>first | rfl | cases h
 | .str a,y,_,h=>by cases y<;>first | rfl | cases h
 | .tup xs,y,g,h=>by
  cases y with
  | tup ys=>exact rX xs ys g h
  | obj _ _ _ _=>cases h
  | _=>rfl
 | .lst xs,y,g,h=>by
  cases y with
  | lst ys=>exact rX xs ys g h
  | fro ys=>exact rX xs ys g h
  | obj _ _ _ _=>cases h
  | _=>rfl
 | .fro xs,y,g,h=>by
  cases y with
  | lst ys=>exact rX xs ys g h
  | fro ys=>exact rX xs ys g h
  | obj _ _ _ _=>cases h
  | _=>rfl
 | .obj ..,y,g,h=>by cases g
theorem rX:∀xs ys:LD,qU xs=true->qU ys=true->PyData.eqvAll (qh xs) (qh ys)=u_ xs ys
 | [],[],_,_=>rfl
 | [],_::_,_,_=>rfl
 | _::_,[],_,_=>rfl
 | x::xs,y::ys,g,h=>by
  have g':(we x&&qU xs)=true:=g
  have h':(we y&&qU ys)=true:=h
  rw[Bool.and_eq_true] at g' h'
  show(PyData.eqv (toPy x) (toPy y)&&PyData.eqvAll (qh xs) (qh ys))=(BR x y&&u_ xs ys)
  rw[xx x y g'.1 h'.1,rX xs ys g'.2 h'.2]
end
section
variable{X:Cx}
theorem vo{k:Nat}(hr:oI k X.A){dx dy:D}(h:rk dx<=100)(hn:we dx=true):X.A.units+min (toPy dx).depth (toPy dy).depth<cLine:=by
 have h1:=hr.un
 have h2:min (toPy dx).depth (toPy dy).depth<=100:=by rw[li dx hn];omega
 omega
theorem lA{k:Nat}(hr:oI k X.A):x5 X .Eq wg:=by
 intro pins s σ H x y v u Q I rx ry h
 obtain⟨dx,dy,b,r1,r2,e,q⟩:=h
 unfold wg at e
 split at e
 ·rename_i hd
  cases e
  obtain⟨as,ra⟩:=ro I (bA hd.2.1) r1 rx
  obtain⟨bs,rb⟩:=ro I (bA hd.2.2) r2 ry
  have z:=SeqAt.rcAt_reads ra rb (gi dx hd.2.1) (gi dy hd.2.2) (vo (dy:=dy) hr hd.1 (bA hd.2.1))
  rw[xx _ _ (bA hd.2.1) (bA hd.2.2)] at z
  exact z _ _ _ _ ⟨.bl (BR dx dy),H,I,rfl,q⟩
 ·cases e
theorem eL{k:Nat}(hr:oI k X.A):x5 X .NotEq sW:=by
 intro pins s σ H x y v u Q I rx ry h
 obtain⟨dx,dy,b,r1,r2,e,q⟩:=h
 unfold sW wg at e
 split at e
 ·rename_i hd
  cases e
  obtain⟨as,ra⟩:=ro I (bA hd.2.1) r1 rx
  obtain⟨bs,rb⟩:=ro I (bA hd.2.2) r2 ry
  have z:=SeqAt.rcNeAt_reads ra rb (gi dx hd.2.1) (gi dy hd.2.2) (vo (dy:=dy) hr hd.1 (bA hd.2.1))
  rw[xx _ _ (bA hd.2.1) (bA hd.2.2)] at z
  exact PySem.EqBoolInt.of_rcne z ⟨.bl (!BR dx dy),H,I,rfl,q⟩
 ·cases e
end
section
variable{prog:Program}{w:World}{A:Around}{R':Result->Shared->Prop}{I:Addr}{fp wr:List Addr}{n:Nat}{P:Nat->Value->Prop}{St:Nat->Heap->Prop}
abbrev wI:List (Str×Value):=[(oS "default",Value.none)]
abbrev AR(S:Addr)(vs:Array Value)(c:Nat)(h:Heap):Prop:=h.get? S=some {cls:=.type "list",dict:=none,data:=.seq vs c,slots:=#[]}
theorem rZ:(toString "max" ++ toString ".loop" : String) = "max.loop":=by decide
theorem Bi(W:Walks prog w A.in1 I fp wr n P St)(bt:Nat->Nat->Bool)(hcmp:CmpOf prog w A.in1 .Gt P bt)(S:Addr)(hSf:S∉fp):∀(k j:Nat) (s:Shared) (vb:Value) (c:Nat),n - (j+1)=k->j+1<=n->St (j+1) s.heap->P (argBest bt j) vb->AR S #[vb,vb] c s.heap ->
  (∀v h' tk,P (argBest bt (n - 1)) v->(∀b o,b∉wr->b≠S->s.heap.get? b=some o->h'.get? b=some o)->R' (.ok (.ret v)) {s with heap:=h',toks:=tk})->codeAny (model prog w) A (.builtin "max.loop" ⟨[.ref I,.none,.ref S],wI⟩) R' s:=by
 have hSw:S∉wr:=fun z=>hSf (W.sub _ z)
 intro k
 induction k with
 | zero =>
  intro j s vb c hk hj hst hPb hS hR
  have hin:j+1=n:=by omega
  refine codeAny_builtin F.entry_max_loop ?_;rw[Around.under_plainId F.plain_max_loop _];show wpAny _ A.in1 (seqItems? (.ref S) >>= _) _ _ s
  refine wpAny_bind (wpAny_seqItems hS rfl ?_);show wpAny _ A.in1 (tryCatch (pyNext (.ref I)) _ >>= _) _ _ s
  refine wpAny_bind (wpAny_tryCatch (W.done s _ _ (hin ▸ hst) fun h1 t1 k1=>?_));have hS1:=k1 S _ hSw hS
  show wpAny _ A.in1 (updateSeq S (fun _=>#[]) >>= _) _ _ _;refine wpAny_bind (wpAny_updateSeq hS1 rfl (wpAny_bind (wpAny_letGo (wpAny_pure ?_))))
  exact hR vb _ t1 (by rw[<- hin];exact hPb) fun b o hbw hbS e=>(Heap.get?_update_other _ _ (Ne.symm hbS)).trans (k1 b o hbw e)
 | succ k ih =>
  intro j s vb c hk hj hst hPb hS hR
  have hlt:j+1<n:=by omega
  refine codeAny_builtin F.entry_max_loop ?_;rw[Around.under_plainId F.plain_max_loop _];show wpAny _ A.in1 (seqItems? (.ref S) >>= _) _ _ s
  refine wpAny_bind (wpAny_seqItems hS rfl ?_);show wpAny _ A.in1 (tryCatch (pyNext (.ref I)) _ >>= _) _ _ s
  refine wpAny_bind (wpAny_tryCatch (W.item (j+1) s _ _ hlt hst fun v h1 t1 hP st1 k1=>?_));have hS1:=k1 S _ hSw hS
  show wpAny _ A.in1 (tryCatch (holding [v,v] (richCompare .Gt v vb >>= _)) _ >>= _) _ _ _;refine wpAny_bind (wpAny_tryCatch (wpAny_holding (wpAny_bind (hcmp (j+1) (argBest bt j) v vb _ _ _ hP hPb ?_))))
  refine wpAny_bind (wpAny_holding (wpAny_truthy_bool ?_));refine wpAny_bind (wpAny_letGo (wpAny_pure ?_))
  cases hb:bt (j+1) (argBest bt j) with
  | true =>
   simp only[if_true];refine wpAny_bind (wpAny_updateSeq hS1 rfl (wpAny_bind (wpAny_letGo ?_)));rw[rZ]
   refine wpAny_pure ⟨plainId_quiet F.plain_max_loop _,ih (j+1) _ v _ (by omega) hlt (W.frame _ _ _ st1 fun b hbf o e=>?_) (by simp only[argBest,hb,if_true];exact hP) (Heap.get?_update_self _ hS1 rfl) fun v' h2 t2 hP' k2=>?_⟩
   ·refine(Heap.get?_update_other _ _ fun z:S=b=>hSf ?_).trans e;rw[z];exact hbf
   ·refine hR v' h2 t2 hP' fun b o hbw hbS e=>k2 b o hbw hbS ?_;exact(Heap.get?_update_other _ _ (Ne.symm hbS)).trans (k1 b o hbw e)
  | false =>
   simp only[Bool.false_eq_true,if_false];refine wpAny_bind (wpAny_letGo ?_);rw[rZ]
   refine wpAny_pure ⟨plainId_quiet F.plain_max_loop _,ih (j+1) _ vb c (by omega) hlt st1 (by simp only[argBest,hb,Bool.false_eq_true,if_false];exact hPb) hS1 fun v' h2 t2 hP' k2=>?_⟩
   refine hR v' h2 t2 hP' fun b o hbw hbS e=>k2 b o hbw hbS ?_;exact k1 b o hbw e
theorem zw(W:Walks prog w A.in1 I fp wr n P St)(bt:Nat->Nat->Bool)(hcmp:CmpOf prog w A.in1 .Gt P bt)(S:Addr)(hSf:S∉fp){s:Shared}{c:Nat}(hst:St 0 s.heap)(hS:AR S #[] c s.heap)
  (h0:n=0->∀h' tk,(∀b o,b∉wr->b≠S->s.heap.get? b=some o->h'.get? b=some o)->R' (.ok (.ret .none)) {s with heap:=h',toks:=tk})
  (hR:0<n->∀v h' tk,P (argBest bt (n - 1)) v->(∀b o,b∉wr->b≠S->s.heap.get? b=some o->h'.get? b=some o)->R' (.ok (.ret v)) {s with heap:=h',toks:=tk}):codeAny (model prog w) A (.builtin "max.loop" ⟨[.ref I,.none,.ref S],wI⟩) R' s:=by
 have hSw:S∉wr:=fun z=>hSf (W.sub _ z)
 refine codeAny_builtin F.entry_max_loop ?_;rw[Around.under_plainId F.plain_max_loop _];show wpAny _ A.in1 (seqItems? (.ref S) >>= _) _ _ s
 refine wpAny_bind (wpAny_seqItems hS rfl ?_);show wpAny _ A.in1 (tryCatch (pyNext (.ref I)) _ >>= _) _ _ s
 by_cases hn:0<n
 ·refine wpAny_bind (wpAny_tryCatch (W.item 0 s _ _ hn hst fun v h1 t1 hP st1 k1=>?_));have hS1:=k1 S _ hSw hS
  show wpAny _ A.in1 (updateSeq S (fun _=>#[v,v]) >>= _) _ _ _;refine wpAny_bind (wpAny_updateSeq hS1 rfl ?_);rw[rZ]
  refine wpAny_pure ⟨plainId_quiet F.plain_max_loop _,Bi W bt hcmp S hSf _ 0 _ v _ rfl hn (W.frame _ _ _ st1 fun b hbf o e=>?_) hP (Heap.get?_update_self _ hS1 rfl) fun v' h2 t2 hP' k2=>?_⟩
  ·refine(Heap.get?_update_other _ _ fun z:S=b=>hSf ?_).trans e;rw[z];exact hbf
  ·refine hR hn v' h2 t2 hP' fun b o hbw hbS e=>k2 b o hbw hbS ?_;exact(Heap.get?_update_other _ _ (Ne.symm hbS)).trans (k1 b o hbw e)
 ·have hz:n=0:=by omega
  refine wpAny_bind (wpAny_tryCatch (W.done s _ _ (hz ▸ hst) fun h1 t1 k1=>?_))
  refine wpAny_bind (wpAny_rule (wpAny_pure ?_))
  exact h0 hz h1 t1 fun b o hbw hbS e=>k1 b o hbw e
end
section
variable{prog:Program}{w:World}{A:Around}{E:Value->Shared->Prop}{s:Shared}
theorem yN(a:Value):argsOk "max" ⟨[a],wI⟩:=by unfold argsOk;kernel_rfl
theorem ft{l:Addr}{its:List Value}{val:Nat->Int}{Q:Value->Shared->Prop}(hh:A.handled=none)(hl:s.heap.IsList l its.toArray)(hv:∀(i:Nat) v,its.toArray[i]?=some v->∃t,v=.int (val i) t)
  (h0:its=[]->∀h' tk,(∀b o,s.heap.get? b=some o->h'.get? b=some o)->Q .none {s with heap:=h',toks:=tk})
  (h1:its ≠ []->∀v h' tk,its.toArray[argBest (fun i j=>decide (val i > val j)) (its.length - 1)]?=some v->(∀b o,s.heap.get? b=some o->h'.get? b=some o)->Q v {s with heap:=h',toks:=tk}) :
  wpAny (model prog w) A (call (.builtin "max") [.ref l] wI) Q E s:=by
 refine wpAny_call (codeAny_call_builtin F.plain_max F.entry_max ?_)
 simp only[checkBuiltinCall,F.kind_max]
 have main:wpAny (model prog w) A.in1 (Builtin.«max» ⟨[.ref l],wI⟩) (fun fin s'=>match fin with
   | .done f=>(match (Except.ok f:Result) with
    | .ok (.ret v)=>Q v s'
    | .ok _=>False
    | .error e=>E e s')
   | .again c'=>c'.quiet=true/\codeAny (model prog w) A c' (fun r s'=>match r with
    | .ok (.ret v)=>Q v s'
    | .ok _=>False
    | .error e=>E e s') s') E s:=by
  show wpAny _ A.in1 (Builtin.Builtins.bindParams "max" ["key","default"] 0 ⟨[],wI⟩ >>= _) _ _ s
  refine wpAny_bind (wpAny_of_eq (show Builtin.Builtins.bindParams "max" ["key","default"] 0 ⟨[],wI⟩=pure [none,some .none] from rfl) ?_)
  refine wpAny_bind (wpAny_pure (wpAny_bind (wpAny_pyIter_list hl ?_)))
  refine wpAny_bind (wpAny_newObj_type ?_)
  rw[rZ]
  have hlt:l<s.heap.objs.size:=by
   obtain⟨o,e,_⟩:=hl
   exact Heap.lt_size e
  generalize hI:s.heap.objs.size=J at hlt
  generalize h1e:s.heap.push {cls:=Value.type "list_iterator",data:=Data.fields #[Value.ref l,Value.int 0 0]}=H1
  have hJ:H1.objs.size=J+1:=by rw[<- h1e,Heap.size_push,hI]
  have k1:∀b o,s.heap.get? b=some o->H1.get? b=some o:=fun b o e=>by rw[<- h1e];exact Heap.get?_push_of_some _ e
  have st1:H1.IsListIter J l 0/\H1.IsList l its.toArray:=⟨by rw[<- h1e,<- hI];exact⟨_,Heap.get?_push_size _ rfl,rfl,rfl⟩,hl.at fun o e=>k1 _ _ e⟩
  have hne:l≠J:=Nat.ne_of_lt hlt
  have hSf:H1.objs.size ∉ [J,l]:=by
   rw[hJ]
   intro z
   rcases List.mem_cons.mp z with z | z
   ·exact absurd z (Nat.ne_of_gt (Nat.lt_succ_self J))
   ·rw[<- List.mem_singleton.mp z] at hlt
    exact absurd hlt (Nat.not_lt.mpr (Nat.le_succ J))
  have W:=Walks.list (prog:=prog) (w:=w) (A:=A.in1) hh J l hne its.toArray
  have old:∀{h':Heap},(∀b o,b ∉ [J]->b≠H1.objs.size->(H1.push {cls:=Value.type "list",data:=Data.seq ([]:List Value).toArray}).get? b=some o->h'.get? b=some o)->∀b o,s.heap.get? b=some o->h'.get? b=some o:=fun kk b o e=>by
   have hb:b<J:=by rw[<- hI];exact Heap.lt_size e
   refine kk b o (fun z=>absurd (List.mem_singleton.mp z) (Nat.ne_of_lt hb)) ?_ (Heap.get?_push_of_some _ (k1 b o e))
   rw[hJ]
   exact Nat.ne_of_lt (Nat.lt_succ_of_lt hb)
  refine wpAny_pure ⟨plainId_quiet F.plain_max_loop _,zw W _ (CmpOf.ints_gt val hv) H1.objs.size hSf (W.frame _ _ _ st1 fun b _ o e=>Heap.get?_push_of_some _ e) (Heap.get?_push_size _ rfl) (fun hz h' tk kk=>?_) fun hn v h' tk hP kk=>?_⟩
  ·exact h0 (by simpa using hz) h' tk (old kk)
  ·refine h1 (fun z=>by subst z;simp at hn) v h' tk ?_ (old kk)
   simpa using hP
 cases hsig:Manifest.signature? "max" with
 | none=>exact wpAny_pure main
 | some sig =>
  have ha:=yN (.ref l)
  simp only[argsOk,hsig] at ha
  have h2:Bind.checkArgs "max" sig ⟨[.ref l],wI⟩=pure ():=ha
  show wpAny _ A.in1 (Bind.checkArgs "max" sig ⟨[.ref l],wI⟩) _ _ s
  rw[h2]
  exact wpAny_pure main
end
section
variable{X:Cx}
theorem lV{e:Expr}{f:R->OD}{p kp p2 pos:Pos}{j:Nat}(hc:X.calm=true)(hm:X.mg "max" = none)(he:SE X e f)(hg:Gl X "max":=by rfl)(hst:noStar e=true:=by rfl) :
  SE X (.Call (.Name "max" p) [e] [⟨some "default",.Constant .none j p2,kp⟩] pos) (h8 wV (c4 f c6)):=by
 intro pins s σ H Q I ⟨ρ,d,er,eq,q⟩
 obtain⟨ds,e1,e2⟩:=i6 eq
 have hst1:=aJ [] X.env hst
 refine wpAny_Call_Name_kw (bJ I hg hm boot_max ?_ (by decide) (by decide))
 refine callWith_kw (oy ((aa he ae hst).1 pos pins s σ H (fun vs H2=>k9 H H2/\i9 X.K H2 ds vs) I ⟨ρ,ds,er,e1,fun vs H2 s2 r2=>⟨s2,r2⟩⟩) fun us s1 ⟨vs,H1,I1,r1,s01,rp⟩=>?_) (by rw[hst1];rfl) (by rw[hst1];rfl) rfl rfl
 refine kws_cons (Constant_none (kws_nil ?_))
 have hh:=I1.ok.hd hc
 match ds,e2 with
 | [.lst []],e2 =>
  cases e2
  obtain⟨v,r',rfl,⟨a,xs,rfl,ha,rx⟩,rr⟩:=rp
  cases (show r'=[] from rr)
  cases (show xs=[] from rx)
  obtain⟨u,rfl,ru⟩:=r1.one
  cases (show u=_ from ru)
  obtain⟨_,its,n,rv,hl,eo⟩:=I1.lstM ha
  cases rv
  exact ft (val:=fun _=>0) hh ⟨_,eo,rfl,n,rfl⟩ (fun i v hv=>by simp at hv) (fun _ h' tk k=>⟨.non,H1,I1.kept k,rfl,q _ H1 s01 rfl⟩) fun z=>absurd rfl z
 | [.lst [.int a1]],e2 =>
  cases e2
  obtain⟨v,r',rfl,⟨a,xs,rfl,ha,rx⟩,rr⟩:=rp
  cases (show r'=[] from rr)
  obtain⟨x1,x2,rfl,rx1,rx2⟩:=rx
  cases (show x1=_ from rx1)
  cases (show x2=[] from rx2)
  obtain⟨u,rfl,ru⟩:=r1.one
  cases (show u=_ from ru)
  obtain⟨_,its,n,rv,hl,eo⟩:=I1.lstM ha
  obtain⟨w1,rfl,t1,rfl⟩:=rv.one
  refine ft (val:=fun _=>a1) hh ⟨_,eo,rfl,n,rfl⟩ (fun i v hv=>?_) (fun z=>by cases z) fun _ v h' tk hv k=>?_
  ·have z:=(Array.getElem?_eq_some_iff.mp hv).1
   have z0:i=0:=by simpa using z
   subst z0
   exact⟨t1,(Option.some.inj hv).symm⟩
  ·have hv':Value.int a1 t1=v:=Option.some.inj hv
   subst hv'
   exact⟨.int a1,H1,I1.kept k,⟨t1,rfl⟩,q _ H1 s01 rfl⟩
 | [.lst [.int a1,.int a2]],e2 =>
  cases e2
  obtain⟨v,r',rfl,⟨a,xs,rfl,ha,rx⟩,rr⟩:=rp
  cases (show r'=[] from rr)
  have hx:=ints2 rx
  subst hx
  obtain⟨u,rfl,ru⟩:=r1.one
  cases (show u=_ from ru)
  obtain⟨_,its,n,rv,hl,eo⟩:=I1.lstM ha
  obtain⟨w1,w2,rfl,⟨t1,rfl⟩,⟨t2,rfl⟩⟩:=vals2 rv
  refine ft (val:=fun i=>if i=0 then a1 else a2) hh ⟨_,eo,rfl,n,rfl⟩ (fun i v hv=>?_) (fun z=>by cases z) fun _ v h' tk hv k=>?_
  ·have z:=(Array.getElem?_eq_some_iff.mp hv).1
   have z0:i=0\/i=1:=by
    have:i<2:=by simpa using z
    omega
   rcases z0 with rfl | rfl
   ·exact⟨t1,(Option.some.inj hv).symm⟩
   ·exact⟨t2,(Option.some.inj hv).symm⟩
  ·by_cases hgt:a2 > a1
   ·have hb:argBest (fun i j=>decide ((if i=0 then a1 else a2) > (if j=0 then a1 else a2))) ([Value.int a1 t1,Value.int a2 t2].length - 1)=1:=by simp[argBest,hgt]
    rw[hb] at hv
    have hv':Value.int a2 t2=v:=Option.some.inj hv
    subst hv'
    exact⟨.int a2,H1,I1.kept k,⟨t2,rfl⟩,q _ H1 s01 (by show V.int a2=V.int _;rw[if_pos hgt])⟩
   ·have hb:argBest (fun i j=>decide ((if i=0 then a1 else a2) > (if j=0 then a1 else a2))) ([Value.int a1 t1,Value.int a2 t2].length - 1)=0:=by simp[argBest,hgt]
    rw[hb] at hv
    have hv':Value.int a1 t1=v:=Option.some.inj hv
    subst hv'
    exact⟨.int a1,H1,I1.kept k,⟨t1,rfl⟩,q _ H1 s01 (by show V.int a1=V.int _;rw[if_neg hgt])⟩
end
section
open PySem.SeqAt
open AutoSeq1 (wpAny_loadPart')
open MeetsSeq MeetsSeq2 MeetsSeq3 SeqRoads2
theorem u9(l:Addr)(items:Array Value)(n:Nat)(dd:Option Addr)(sl:Array (Option Value))(x:Value)(j:Nat)(hj:j<items.size) :
  Meets (Builtin.«tuple.index» ⟨[.ref l,x],[]⟩) (fun A R s=>s.heap.get? l=some {cls:=.type "tuple",dict:=dd,data:=.seq items n,slots:=sl}/\(∀i (h:i<items.size),i<=j->EqAt A.in1 s items[i] x (decide (i=j)))/\R (.ok (.ret (.int (j:Int) s.toks))) {s with toks:=s.toks+1}):=
 .of_wp fun prog w A R s h=>by
  obtain⟨hp,g,d,tk,os⟩:=s
  obtain⟨hl,he,h⟩:=h
  unfold Builtin.«tuple.index»
  simp only[Std.Legacy.Range.forIn_eq_forIn_range']
  wp_walk using wpAny_loadPart' hl,wpAny_forIn_list _ (fun rest b s'=>s'=⟨hp,g,d,tk,os⟩/\b=(none,())/\∃k,k<=j/\rest=List.range' k (items.size - k)) _
  case turn =>
   rintro i rest b s' ⟨rfl,rfl,k,hk,e⟩
   have hs:items.size - k=(items.size - (k+1))+1:=by omega
   rw[hs,List.range'_succ] at e
   cases e
   have hlt:i<items.size:=by omega
   have hi:items[i]?=some items[i]:=by simp[hlt]
   rw[hi]
   refine wpAny_bind (he i hlt hk prog w _ _ ?_)
   by_cases hij:i=j
   ·subst hij
    rw[decide_eq_true rfl]
    wp_walk
    exact⟨_,rfl,h⟩
   ·rw[decide_eq_false hij]
    wp_walk
    exact⟨rfl,rfl,i+1,by omega,rfl⟩
  case fin =>
   rintro b s' ⟨rfl,rfl,k,hk,e⟩
   have hs:items.size - k=(items.size - (k+1))+1:=by omega
   rw[hs,List.range'_succ] at e
   cases e
  case h =>
   refine⟨rfl,rfl,0,Nat.zero_le _,?_⟩
   simp
end
def B6(K:W.Frag)(mg:Str->Option Value)(x:Str)(ws:List Str):Prop:=∃a its n sl,mg x=some (.ref a)/\K.lookup a=some ⟨.type "tuple",none,.seq its n,sl⟩/\m9 (ws.map V.str) its.toList
section
variable{X:Cx}
def EQ(K:W.Frag):V->List V->Hp->VK->Prop:=fun x vs H Q=>∃(p:Addr) (its:Array Value) (n:Nat) (sl:Array (Option Value)) (ws:List Str) (z:Str) (j:Nat),x=.ref p/\vs=[.str z]/\K.lookup p=some ⟨.type "tuple",none,.seq its n,sl⟩/\m9 (ws.map V.str) its.toList/\ws.findIdx? (·==z)=some j/\Q (.int (j:Nat)) H
theorem mD:AZ X "tuple.index" (EQ X.K):=by
 intro pins s σ H x vs v us Q I rx rv h
 obtain⟨p,its,n,sl,ws,z,j,rfl,rfl,hk,hv,hj,q⟩:=h
 cases (show v=_ from rx)
 obtain⟨u,rfl,t,rfl⟩:=rv.one
 have e:=I.kIn p _ hk
 obtain⟨h1,h2,h3⟩:=List.findIdx?_eq_some_iff_getElem.mp hj
 have hlen:ws.length=its.size:=by have:=hv.length;simpa using this
 refine call_meets F.slot_tuple_index ⟨_,e,rfl⟩ F.entry_tuple_index (F.args_tuple_index_2 _ _) (u9 p its n none sl (.str z t) j (by omega)) ⟨e,fun i hi hle=>?_,?_⟩
 ·have hw:i<ws.length:=by omega
  obtain⟨u,hu,ru⟩:=hv.get (i:=i) (x:=.str ws[i]) (by simp[hw])
  obtain⟨t2,rfl⟩:=ru
  have he:its[i]=Value.str ws[i] t2:=by
   have:its[i]?=some (Value.str ws[i] t2):=by simpa using hu
   rw[Array.getElem?_eq_getElem hi] at this
   exact Option.some.inj this
  rw[he]
  have hb:(ws[i]==z)=decide (i=j):=by
   by_cases hij:i=j
   ·subst hij
    rw[decide_eq_true rfl]
    exact h2
   ·rw[decide_eq_false hij]
    exact Bool.eq_false_iff.mpr (h3 i (by omega))
  rw[<- hb]
  exact SeqAt.EqAt.str_str _ _ _ _
 ·exact⟨.int (j:Nat),H,I.tok _,⟨_,rfl⟩,q⟩
theorem mS{x:Str}{ws:List Str}{e:Expr}{f:R->OD}{px ap cp:Pos}(hc:B6 X.K X.mg x ws)(he:SE X e f)(hg:Gl X x:=by rfl)(hd:(x==("__debug__" : Str))=false:=by decide)
  (hbase:attributeBase (.Name x px) "index" X.env (eval (.Name x px) X.env)=eval (.Name x px) X.env:=by rfl) (hst:noStar e=true:=by rfl) (hline:(ap.endLine==cp.line)=true:=by rfl) :
  SE X (.Call (.Attribute (.Name x px) "index" ap) [e] [] cp) (BK (zv ws) f):=by
 obtain⟨a,its,n,sl,hm,hk,hv⟩:=hc
 have hs:=aJ [] X.env hst
 refine(ng (T:="tuple") PySem.F.plainAttrs_tuple PySem.F.slot_tuple_index PySem.F.type_tuple_index mD (gZ (v:=.ref a) hg hm rfl hd) (aa he ae hst).1 hbase (by rw[hs];rfl) hline hs rfl).imp fun σ H Q ⟨ρ,d,er,e,q⟩=>?_
 obtain⟨y,e1,e⟩:=i6 e
 cases y with
 | str z =>
  obtain⟨j,e2,e3⟩:=oD e
  subst e3
  refine⟨.inr (.inl ⟨rfl,_,hk,rfl,rfl⟩),ρ,[.str z],er,by show(f ρ).bind _=_;rw[e1];rfl,fun vs H2 s2 r2=>?_⟩
  obtain⟨v,r',rfl,h1,h2⟩:=r2
  cases (show v=_ from h1)
  cases (show r'=[] from h2)
  exact⟨a,its,n,sl,ws,z,j,rfl,rfl,hk,hv,e2,q _ H2 s2 rfl⟩
 | _=>cases e
end
section
variable{X:Cx}
def Gh:V->List V->Hp->VK->Prop:=fun x vs H Q=>∃z w,x=.str z/\vs=[]/\yq z=some w/\Q (.str w) H
theorem AE{z w:Str}(h:yq z=some w):Builtin.Str.tooLong (placed z fun _ c=>Unicode.upperOf c).size=false/\(⟨placed z fun _ c=>Unicode.upperOf c⟩:Str)=w:=by
 unfold yq at h
 split at h
 ·rename_i e;cases h;subst e;exact⟨by decide +kernel,by decide +kernel⟩
 ·split at h
  ·rename_i e;cases h;subst e;exact⟨by decide +kernel,by decide +kernel⟩
  ·split at h
   ·rename_i e;cases h;subst e;exact⟨by decide +kernel,by decide +kernel⟩
   ·cases h
theorem nt:AZ X "str.upper" Gh:=by
 intro pins s σ H x vs v us Q I rx rv h
 obtain⟨z,w,rfl,rfl,hz,q⟩:=h
 obtain⟨t,rfl⟩:=rx
 cases rv
 obtain⟨f1,f2⟩:=AE hz
 exact call_gives F.slot_str_upper (typeIs_str s z t) F.entry_str_upper (F.args_str_upper_1 _) (gives_str_upper z t f1) ⟨Nat.le_of_not_lt (of_decide_eq_false f1),.str w,H,I.tok _,⟨_,by rw[f2]⟩,q⟩
theorem nz{a:Expr}{f:R->OD}{ap cp:Pos}(ha:SE X a f)(hbase:attributeBase a "upper" X.env (eval a X.env)=eval a X.env:=by rfl)(hline:(ap.endLine==cp.line)=true:=by rfl) :
  SE X (.Call (.Attribute a "upper" ap) [] [] cp) (BK ET f):=(mE (T:="str") PySem.F.plainAttrs_str PySem.F.slot_str_upper PySem.F.type_str_upper nt ha hbase hline).imp fun σ H Q ⟨ρ,d,er,e,q⟩=>by
 obtain⟨x,e1,e⟩:=i6 e
 cases x with
 | str z =>
  obtain⟨w,e2,e3⟩:=oD e
  subst e3
  exact⟨ρ,_,er,e1,fun v H1 s1 r1=>by cases (show v=_ from r1);exact⟨rfl,z,w,rfl,rfl,e2,q _ H1 s1 rfl⟩⟩
 | _=>cases e
end
section
variable{X:Cx}{i k:Nat}{fa:Addr}{e a:Expr}{es:List Expr}{pos p:Pos}{f:R->OD}{F:R->Option LD}{G:LD->OD}
def E1(i:Nat)(fa:Addr)(σ:L2.St):Prop:=σ[i]?=some (some (.ref fa))
def EG(X:Cx)(i:Nat)(fa:Addr)(e:Expr)(f:R->OD):Prop:=PE X e (fun σ H Q=>E1 i fa σ/\tD X.K f σ H Q)
def EF(X:Cx)(i:Nat)(fa:Addr)(es:List Expr)(F:R->Option LD):Prop:=PA X es (fun σ H Q=>E1 i fa σ/\FP X.K F σ H Q)/\(∀ ρ ds,F ρ=some ds->ds.length=es.length)/\es.all noStar=true
def FZ(X:Cx)(i:Nat)(fa:Addr)(st:Stmt)(g:R->Option Out):Prop:=PS X st (fun E σ H=>E1 i fa σ/\Dm X.K g E σ H)
def Eb(P:Program)(w:World)(K:W.Frag)(mg:Str->Option Value)(base:Heap)(k:Nat)(fa:Addr)(G:LD->OD):Prop:=∃fd ps,nK P w K mg base oM k fa fd ps (pA K G)/\W.keepIn K (.ref fa)=true/\Binds K fd ps []
theorem pE{P:Program}{w:World}{K:W.Frag}{mg:Str->Option Value}{base:Heap}{x:Str}{ps:List Str}(C:nN P w K mg base k x ps G)(h:mg x=some (.ref fa)):Eb P w K mg base k fa G:=by
 obtain⟨f,fd,a,m,kp,bd⟩:=C.ex
 rw[h] at m
 cases m
 exact⟨fd,ps,a,kp,bd⟩
theorem CF(h:SA X es F):EF X i fa es F:=⟨h.1.imp fun _ _ _ q=>q.2,h.2⟩
theorem zN(ha:EG X i fa e f)(hr:EF X i fa es F)(hs:noStar e=true:=by rfl):EF X i fa (e::es) (c4 f F):=⟨(j5 ha hr.1 (aJ es X.env hs)).imp fun σ H Q ⟨x,ρ,ds,er,e,q⟩=>by
 obtain⟨d,e1,e⟩:=i6 e
 obtain⟨y,e2,e⟩:=oD e
 subst e
 exact⟨x,ρ,d,er,e1,fun v H1 s1 r1=>⟨x,ρ,y,er.mono s1,e2,fun vs H2 s2 r2=>q _ H2 (s1.trans s2) (i9.cons (r1.mono s2) r2)⟩⟩,fun ρ ds e=>by
 obtain⟨d,e1,e⟩:=i6 e
 obtain⟨y,e2,e⟩:=oD e
 subst e
 simp[hr.2.1 ρ y e2],by rw[List.all_cons,hs,hr.2.2];rfl⟩
theorem Ak{x:Str}{ps:List Str}(C:nN X.prog X.w X.K X.mg X.base k x ps G)(hr:oI k X.A)(ha:EF X i fa (e::es) F)(hg:Gl X x:=by rfl)
  (hdb:(x==("__debug__" : Str))=false:=by decide):EG X i fa (.Call (.Name x p) (e::es) [] pos) (h8 G F):=by
 have hst:=ha.2.2
 rw[List.all_cons,Bool.and_eq_true] at hst
 have he:=aJ es X.env hst.1
 have hpl:=eh (pos:=pos) (env:=X.env) hst.2
 obtain⟨f,fd,a,m,kp,bd⟩:=C.ex
 refine(jW a hr hg m kp bd .nil Aa ha.1 hdb he hpl).imp fun σ H Q ⟨x,ρ,d,er,e,q⟩=>?_
 obtain⟨ds,e1,e⟩:=i6 e
 exact⟨x,ρ,ds,er,e1,fun vs H1 s1 r1=>⟨ds,d,by rw[List.append_nil];exact r1,e,fun v H2 s2 r2=>q v H2 (s1.trans s2) r2⟩⟩
theorem yX{x:Str}(hF:Eb X.prog X.w X.K X.mg X.base k fa G)(hr:oI k X.A)(ha:SA X (e::es) F)(hN:X.N[i]?=some x:=by rfl)(hv:BP X.env.scope x:=by first | exact Or.inl rfl | exact Or.inr (Or.inl rfl) | exact Or.inr (Or.inr rfl))
  (hd:(x==("__debug__" : Str))=false:=by decide) (hcd:(x==("__classdict__" : Str))=false:=by decide):EG X i fa (.Call (.Name x p) (e::es) [] pos) (h8 G F):=by
 have hst:=ha.2.2
 rw[List.all_cons,Bool.and_eq_true] at hst
 have he:=aJ es X.env hst.1
 have hpl:=eh (pos:=pos) (env:=X.env) hst.2
 obtain⟨fd,ps,a,kp,bd⟩:=hF
 intro pins s σ H Q I h
 obtain⟨x1,ρ,d,er,e,q⟩:=h
 obtain⟨ds,e1,e⟩:=i6 e
 refine wpAny_Call_Name_kw (oy (jy (pos:=p) hN hv hd hcd pins s σ H (fun v H1=>v=.ref fa/\H1=H) I ⟨.ref fa,x1,rfl,rfl⟩) fun u s1 ⟨v,H1,I1,rv,ev,eH⟩=>?_)
 subst ev eH
 cases (show u=_ from rv)
 refine W.callWith_K (h₀:=X.base) I1.ok.mod.kin kp (oy (ha.1 pos pins s1 σ H1 (fun vs H2=>k9 H1 H2/\i9 X.K H2 ds vs) I1 ⟨ρ,ds,er,e1,fun vs H2 s2 r2=>⟨s2,r2⟩⟩) fun us s2 ⟨vs,H2,I2,r,s12,rp⟩=>⟨I2.kIn,?_⟩) he hpl
 exact Ah a hr bd .nil Aa I2 r ⟨ds,d,by rw[List.append_nil];exact rp,e,fun v H3 s3 r3=>q v H3 (s12.trans s3) r3⟩
theorem CN(ha:EG X i fa a f):FZ X i fa (.Return (some a) pos) (nE f):=(lw ha).imp fun E σ H ⟨x,ρ,τ,o,er,e,q⟩=>by
 obtain⟨d,e1,e⟩:=oD e
 subst e
 exact⟨x,ρ,d,er.1,e1,fun v H1 s1 r1=>q H1 s1 v r1⟩
inductive Tab (P:Program) (w:World) (K:W.Frag) (mg:Str->Option Value) (base:Heap) (k:Nat):List (Str×(LD->OD))->List (Str×Value)->Prop
 | nil:Tab P w K mg base k [] []
 | cons {z:Str} {G:LD->OD} {fa:Addr} {t:List (Str×(LD->OD))} {vs:List (Str×Value)}:Eb P w K mg base k fa G->Tab P w K mg base k t vs->Tab P w K mg base k ((z,G)::t) ((z,.ref fa)::vs)
theorem Tab.get{P:Program}{w:World}{K:W.Frag}{mg:Str->Option Value}{base:Heap}{t:List (Str×(LD->OD))}{vs:List (Str×Value)}(h:Tab P w K mg base k t vs){z:Str}(e:t.lookup z=some G):∃fa,valueAt vs z=some (.ref fa)/\Eb P w K mg base k fa G:=by
 induction h with
 | nil=>cases e
 | @cons y G' fa t vs h1 h2 ih =>
  unfold valueAt
  rw[List.find?_cons]
  by_cases hz:y=z
  ·subst hz
   rw[List.lookup_cons,beq_self_eq_true] at e
   cases e
   simp
   exact h1
  ·rw[List.lookup_cons,beq_eq_false_iff_ne.mpr (fun q=>hz q.symm)] at e
   obtain⟨fb,q1,q2⟩:=ih e
   refine⟨fb,?_,q2⟩
   unfold valueAt at q1
   simp[hz]
   simpa using q1
def zI(P:Program)(w:World)(K:W.Frag)(mg:Str->Option Value)(base:Heap)(k:Nat)(T:Str)(t:List (Str×(LD->OD))):Prop:=∃a vs,mg T=some (.ref a)/\(∀h:Heap,K.In h->h.DictOf (strKind P w) a vs)/\Tab P w K mg base k t vs
def entries(w:World):List (Str×Tok×Value)->List DictEntry
 | []=>[]
 | (z,t,v)::r=>{hash:=PyData.keyHash w.params z,key:=.str z t,val:=v}::entries w r
theorem lh{P:Program}{w:World}{K:W.Frag}{a:Addr}{n:Nat}(l:List (Str×Tok×Value))(hk:K.lookup a=some ⟨.type "dict",none,.dict (entries w l).toArray n,#[]⟩)(hn:(l.map (·.1)).Nodup)(h:Heap)(X:K.In h) :
  h.DictOf (strKind P w) a (l.map fun p=>(p.1,p.2.2)):=by
 refine⟨_,_,_,X _ _ hk,⟨rfl,rfl,rfl⟩,rfl,?_,?_,?_⟩
 ·intro e he
  have he':e∈entries w l:=by simpa using he
  clear he hk hn
  induction l with
  | nil=>cases he'
  | cons p l ih =>
   obtain⟨z,t,v⟩:=p
   rcases List.mem_cons.mp he' with rfl | h2
   ·exact⟨z,strKind_is P w z t,rfl⟩
   ·exact ih h2
 ·show Pairs _ (entries w l) _
  clear hk hn
  induction l with
  | nil=>exact .nil
  | cons p l ih =>
   obtain⟨z,t,v⟩:=p
   exact .cons (strKind_is P w z t) rfl ih
 ·rw[List.map_map]
  exact hn
theorem oA.hide{K:W.Frag}{H:Hp}{ρ:R}{σ:L2.St}(e:oA K H ρ σ)(i:Nat)(v:Option V):oA K H (ρ.set i none) (σ.set i v):=by
 refine⟨by simpa using e.1,fun j c h=>?_⟩
 by_cases hj:i=j
 ·subst hj
  by_cases hi:i<ρ.length
  ·rw[List.getElem?_set_self hi] at h
   cases h
  ·rw[List.getElem?_eq_none (by simpa using hi)] at h
   cases h
 ·rw[List.getElem?_set_ne hj] at h ⊢
  exact e.2 j c h
theorem nA{T x:Str}{pt px ps:Pos}{st:Stmt}{t:List (Str×(LD->OD))}{g:(LD->OD)->R->Option Out}(i:Nat)(hN:X.N.Nodup)(hT:zI X.prog X.w X.K X.mg X.base k T t)(he:SE X e f)(hb:∀fa G,Eb X.prog X.w X.K X.mg X.base k fa G->FZ X i fa st (g G))
  (hg:Gl X T:=by rfl) (hi:X.N[i]?=some x:=by rfl) (hx:Loc X.env.scope x:=by first | exact Or.inl rfl | exact Or.inr rfl) (hs:v4 e:=by intro _ _;rfl)
  (hw:swapsWith (.Subscript (.Name T pt) e ps) (some (.Name x px)) pos.line X.env=pure false:=by rfl) (hf:X.fn x=true\/X.env.scope.names.lookup x=some .local:=by first | exact .inl rfl | exact .inr rfl) (hdb:(T==("__debug__" : Str))=false:=by decide) :
  SS X [.Assign [.Name x px] (.Subscript (.Name T pt) e ps) pos,st] (Eo i t f g):=by
 obtain⟨a,vs,hm,hd,ht⟩:=hT
 have hix:IxR X (fun x y H Q=>∃z fa,x=.ref a/\y=.str z/\valueAt vs z=some (.ref fa)/\Q (.ref fa) H):=by
  intro value slice pins s σ H x y v u Q I rx ry h hs
  obtain⟨z,fa,rfl,rfl,hv,q⟩:=h
  cases rx
  obtain⟨tk,rfl⟩:=ry
  have hdd:=hd s.heap I.kIn
  exact tail_any hdd.mapOf.typeIs PySem.F.slot_dict_getitem.lookup (wpAny_getItem_of (strKind_is X.prog X.w z tk) hdd.mapOf hv ⟨.ref fa,H,I.tok _,rfl,q⟩) hs
 have hsub:=mt (pos:=ps) hix (gZ (pos:=pt) (v:=.ref a) hg hm rfl hdb) he hs
 intro pins s σ H E I h
 obtain⟨ρ,τ,o,er,ef,q⟩:=h
 obtain⟨d,e1,ef⟩:=i6 ef
 cases d with
 | str z =>
  obtain⟨G,e2,e3⟩:=i6 ef
  obtain⟨fa,hv,hF⟩:=ht.get e2
  have hl:i<σ.length:=by
   rw[I.len]
   exact(List.getElem?_eq_some_iff.mp hi).1
  split at e3
  case isFalse=>cases e3
  case isTrue hlt =>
  refine gm (js hN hi hx hsub hw hf) (fP (hb fa G hF)) pins s σ H E I ?_
  refine⟨ρ,_,er.1,e1,fun v H1 s1 r1=>⟨z,fa,rfl,r1,hv,?_⟩⟩
  refine⟨List.getElem?_set_self hl,ρ.set i none,τ,o,⟨(er.1.mono s1).hide i _,?_⟩,e3,fun H2 s2=>q H2 (s1.trans s2)⟩
  rw[List.length_set,List.drop_set_of_lt hlt]
  exact er.2
 | _=>cases ef
end
section
variable{X:Cx}
end
end HW
namespace HW
open PySem
def GB(x:Str)(n c:Nat):Str:=if n<=x.length then x else Builtin.Str.padded x (n - x.length) 0 c
@[simp] def GL:LD->OD
 | [.str x,.int i,.str f]=>if 0<=i/\i<=1000/\f.length=1 then some (.str (GB x i.toNat (f.cps.getD 0 0))) else none
 | _=>none
@[simp] def wY:D->D->OD
 | .tup xs,.int k=>if xs.length*k.toNat<=sizeLine/\0<k/\k<2 ^ 63 then some (.tup (List.replicate k.toNat xs).flatten) else none
 | _,_=>none
def ou(a b c:Int):Nat:=if a<b then ((b - a - 1) / c+1).toNat else 0
def qe(a b c:Int):LD:=(List.range (ou a b c)).map fun (k:Nat)=>D.int (a+(k:Int)*c)
@[simp] def tM (f g h:R->OD):R->Option LD:=fun ρ=>(f ρ).bind fun x=>(g ρ).bind fun y=>(h ρ).bind fun z=>(nI x).bind fun i=>(nI y).bind fun j=>(nI z).bind fun c =>
 if -(2 ^ 60)<=i/\i<2 ^ 60 /\ -(2 ^ 60)<=j/\j<2 ^ 60/\0<c/\c<1073741824 then some (qe i j c) else none
end HW
namespace HW
open PySem PySem.Spec PyProof.Rows L2
section
variable{X:Cx}{a:Expr}{f:R->OD}{pos p2:Pos}
end
theorem GM{us:List Value}(h:us.length=1):∃x0,us=[x0]:=by
 match us,h with
 | [x0],_=>exact⟨x0,rfl⟩
theorem ln2{us:List Value}(h:us.length=2):∃x0 x1,us=[x0,x1]:=by
 match us,h with
 | [x0,x1],_=>exact⟨x0,x1,rfl⟩
theorem GN{us:List Value}(h:us.length=3):∃x0 x1 x2,us=[x0,x1,x2]:=by
 match us,h with
 | [x0,x1,x2],_=>exact⟨x0,x1,x2,rfl⟩
section
variable{X:Cx}
end
section
variable{prog:Program}{w:World}{A:Around}{E:Value->Shared->Prop}{s:Shared}
end
section
variable{X:Cx}
end
section
variable{X:Cx}
theorem qK:fillsNumberSlot (.type "tuple") "mul" = pure false:=
 PySem.fillsNumberSlot_seq (id:="tuple.__mul__") (r:=some (.builtin "tuple.__rmul__")) PySem.F.slot_tuple_mul.lookup (by decide +kernel) PySem.F.slot_tuple_rmul.lookup (by decide +kernel)
theorem tu:seqRepeat? (.type "tuple")=pure (some (.builtin "tuple.__mul__")):=by
 unfold seqRepeat?
 rw[PySem.seqSlot_of (T:="tuple") (name:="__mul__") (id:="tuple.__mul__") PySem.F.slot_tuple_mul.lookup (by decide +kernel),PySem.seqSlot_of (T:="tuple") (name:="__rmul__") (id:="tuple.__rmul__") PySem.F.slot_tuple_rmul.lookup (by decide +kernel)]
 rfl
theorem rB(a:Int)(t:Tok)(l:Addr)(items:Array Value)(n:Nat)(dd:Option Addr)(sl:Array (Option Value)) :
  Meets (Builtin.«int.__rmul__» ⟨[.int a t,.ref l],[]⟩) (fun _ R s=>s.heap.get? l=some {cls:=.type "tuple",dict:=dd,data:=.seq items n,slots:=sl}/\R (.ok (.ret Value.notImplemented)) s):=
 .of_wp fun prog w A R s h=>by obtain⟨hp,g,d,tk,os⟩:=s;obtain⟨hl,h⟩:=h;wp_walk;exact⟨_,rfl,h⟩
theorem E_{b:Bool}(h:b=false):decide (b=true)=false:=by subst h;rfl
theorem rC(l:Addr)(items:Array Value)(n:Nat)(dd:Option Addr)(sl:Array (Option Value))(k:Int)(u:Tok)(h1:(decide (k < -(2 ^ 63))||decide (k ≥ 2 ^ 63))=false)(h2:(items.isEmpty||k==1)=true) :
  Meets (Builtin.«tuple.__mul__» ⟨[.ref l,.int k u],[]⟩) (fun _ R s=>s.heap.get? l=some {cls:=.type "tuple",dict:=dd,data:=.seq items n,slots:=sl}/\R (.ok (.ret (.ref l))) s):=
 .of_wp fun prog w A R s h=>by
  obtain⟨hp,g,d,tk,os⟩:=s;obtain⟨hl,h⟩:=h;have f1:=AutoSeq1.idx_int;have f2:=AutoSeq1.sub_tuple_tuple
  wp_walk using wpAny_loadPart' hl
  refine wpAny_ite_false (E_ h1) ?_
  wp_walk using wpAny_loadPart' hl
  exact⟨_,rfl,h⟩
theorem vg(l:Addr)(items:Array Value)(n:Nat)(dd:Option Addr)(sl:Array (Option Value))(k:Int)(u:Tok)(h1:(decide (k < -(2 ^ 63))||decide (k ≥ 2 ^ 63))=false)(h2:(items.isEmpty||k==1)=false)
  (h3:(decide (k<=0)||items.isEmpty)=false) (h4:decide ((items.size:Int)*k > (2 ^ 63 - 1) / 8)=false) (h5:Builtin.Tuple.tupleTooMany ((items.size:Int)*k)=false) (h6:(List.foldl (fun x1 x2=>x1++x2) #[] (List.replicate k.toNat items)).size<=sizeLine) :
  Meets (Builtin.«tuple.__mul__» ⟨[.ref l,.int k u],[]⟩) (fun _ R s=>s.heap.get? l=some {cls:=.type "tuple",dict:=dd,data:=.seq items n,slots:=sl} /\
   R (.ok (.ret (.ref s.heap.objs.size))) {s with heap:=s.heap.push {cls:=Value.type "tuple",data:=Data.seq (List.foldl (fun x1 x2=>x1++x2) #[] (List.replicate k.toNat items))},toks:=s.toks}):=
 .of_wp fun prog w A R s h=>by
  obtain⟨hp,g,d,tk,os⟩:=s;obtain⟨hl,h⟩:=h;have f1:=AutoSeq1.idx_int;have f2:=AutoSeq1.sub_tuple_tuple
  wp_walk using wpAny_loadPart' hl
  refine wpAny_ite_false (E_ h1) ?_
  wp_walk using wpAny_loadPart' hl
  refine wpAny_ite_false h4 ?_
  wp_walk using wpAny_loadPart' hl
  exact⟨_,rfl,h⟩
theorem jZ:BN X (binaryOp .Mult) wY:=by
 intro pins s σ H x y v u Q I rx ry h
 obtain⟨dx,dy,d,r1,r2,e,q⟩:=h
 match dx,dy,e with
 | .tup xs,.int k,e =>
   have e':(if xs.length*k.toNat<=sizeLine/\0<k/\k<2 ^ 63 then some (D.tup (List.replicate k.toNat xs).flatten) else none)=some d:=e
   split at e'
   ·rename_i hz
    obtain⟨hz,k1,k2⟩:=hz
    cases e'
    obtain⟨a,vs,rfl,hq,t⟩:=r1
    cases (show y=_ from r2)
    cases rx
    obtain⟨tk,rfl⟩:=ry
    obtain⟨its,rr,p,hsz⟩:=I.tuple hq
    obtain⟨⟨cls,dd,data,sl⟩,ho,hc,n,hd⟩:=id p
    simp only at hc hd
    subst hc hd
    have hlen:xs.length=its.length:=t.length.trans rr.length
    have b1:(decide (k < -(2 ^ 63))||decide (k ≥ 2 ^ 63))=false:=by
     rw[decide_eq_false (by omega),decide_eq_false (by omega)];rfl
    have hnew:List.foldl (fun x1 x2=>x1++x2) #[] (List.replicate k.toNat its.toArray)=(List.replicate k.toNat its).flatten.toArray:=by
     have:=foldl_rep its k.toNat []
     rw[List.nil_append] at this
     exact this
    have hfs:(List.replicate k.toNat its).flatten.length<=sizeLine:=by rw[jP,<- hlen,Nat.mul_comm];exact hz
    refine wpAny_binaryOp_repeat_ref (T:="tuple") (U:="int") (by decide) ⟨_,ho,rfl⟩ (fun s'=>typeIs_int s' k tk) qK F.fills_int_mul F.slot_int_rmul tu F.slot_int_index.lookup
     (call_meets F.slot_int_rmul (typeIs_int s k tk) F.entry_int_rmul (F.args_int_rmul_2 _ _) (rB k tk a its.toArray n dd sl) ⟨ho,rfl,⟨_,ho,rfl⟩,?_⟩)
    by_cases hc:its=[]\/k=1
    ·have b2:(its.toArray.isEmpty||k==1)=true:=by
      rcases hc with hc | hc
      ·subst hc;rfl
      ·subst hc;simp
     refine call_meets PySem.F.slot_tuple_mul ⟨_,ho,rfl⟩ PySem.F.entry_tuple_mul (PySem.F.args_tuple_mul_2 _ _) (rC a its.toArray n dd sl k tk b1 b2) ⟨ho,?_⟩
     refine⟨.ref a,H,I,rfl,q _ H (k9.refl H) ⟨a,vs,rfl,hq,?_⟩⟩
     rcases hc with hc | hc
     ·subst hc
      have z:xs=[]:=List.length_eq_zero_iff.mp hlen
      subst z
      have z2:(List.replicate k.toNat ([]:LD)).flatten=[]:=by simp
      rw[z2]
      exact t
     ·subst hc
      have z2:(List.replicate (1:Int).toNat xs).flatten=xs:=by simp
      rw[z2]
      exact t
    ·have b2:(its.toArray.isEmpty||k==1)=false:=by
      have a1:its ≠ []:=fun z=>hc (.inl z)
      have a2:k≠1:=fun z=>hc (.inr z)
      cases its with
      | nil=>exact absurd rfl a1
      | cons x r=>simp[a2]
     have hk:¬ k<=0:=by omega
     have b3:(decide (k<=0)||its.toArray.isEmpty)=false:=by
      have a1:its ≠ []:=fun z=>hc (.inl z)
      rw[decide_eq_false hk]
      cases its with
      | nil=>exact absurd rfl a1
      | cons x r=>rfl
     have hk2:((its.toArray.size:Nat):Int)*k=((its.length*k.toNat:Nat):Int):=by
      rw[List.size_toArray,Int.natCast_mul,Int.toNat_of_nonneg (by omega)]
     have hz2:its.length*k.toNat<=16777216:=by rw[<- hlen];exact hz
     have b4:decide (((its.toArray.size:Nat):Int)*k > (2 ^ 63 - 1) / 8)=false:=decide_eq_false (by rw[hk2];omega)
     have b5:Builtin.Tuple.tupleTooMany (((its.toArray.size:Nat):Int)*k)=false:=by
      unfold Builtin.Tuple.tupleTooMany
      rw[hk2]
      exact decide_eq_false (by rw[sizeLine_eq];omega)
     refine call_meets PySem.F.slot_tuple_mul ⟨_,ho,rfl⟩ PySem.F.entry_tuple_mul (PySem.F.args_tuple_mul_2 _ _) (vg a its.toArray n dd sl k tk b1 b2 b3 b4 b5 (by rw[hnew,List.size_toArray];exact hfs)) ⟨ho,?_⟩
     rw[hnew]
     have hf:=I.hok.fresh (Nat.le_refl s.heap.objs.size)
     have s2:=aV hf (.tup (List.replicate k.toNat vs).flatten)
     refine⟨.ref s.heap.objs.size,_,I.laid (t':=s.toks) (o:=.tup (List.replicate k.toNat vs).flatten) (fun b ob q=>Heap.get?_push_of_some _ q) (Nat.le_refl _) ?_,rfl,q _ _ s2 ⟨_,_,rfl,q8.of aB,(t.rep k.toNat).mono s2⟩⟩
     exact⟨by rw[jP,<- t.length,Nat.mul_comm];exact hz,_,rr.rep k.toNat,pD.new _ _⟩
   ·cases e'
end
theorem zU{a b c:Int}(ha : -(2 ^ 60)<=a)(ha':a<2 ^ 60)(hb : -(2 ^ 60)<=b)(hb':b<2 ^ 60)(hc:0<c)(hc':c<1073741824):Builtin.Range.small a b c=true:=by
 have hd:0<=(b - a - 1) / c\/b - a - 1<0:=by
  by_cases h:b - a - 1<0
  ·exact .inr h
  ·exact .inl (Int.ediv_nonneg (by omega) (by omega))
 have hd2:a<b->(b - a - 1) / c<=b - a - 1:=fun h=>Int.ediv_le_self _ (by omega)
 unfold Builtin.Range.small Builtin.Range.rangeSize
 simp only[Builtin.Range.rangeFitsLong,Bool.and_eq_true,Bool.or_eq_true,decide_eq_true_eq,beq_iff_eq,gt_iff_lt,hc,if_true]
 split<;>omega
section
variable{X:Cx}
theorem vD{a b c:Int}(hc:0<c):((ou a b c:Nat):Int)=Builtin.Range.rangeSize a b c:=by
 unfold ou Builtin.Range.rangeSize
 rw[if_pos (show c > 0 from hc)]
 split
 ·rename_i h
  have:0<=(b - a - 1) / c:=Int.ediv_nonneg (by omega) (by omega)
  omega
 ·rfl
end
section
variable{X:Cx}{pins:List (Addr×Obj)}{σ:L2.St}{H:Hp}{s:Shared}{k:Nat}{y:Str}
def hid(X:Cx)(k:Nat)(y:Str):Cx:={X with N:=X.N.set k y}
end
end HW
namespace HW
open PySem
section
variable{prog:Program}{w:World}{A:Around}{E:Value->Shared->Prop}{g:_}{d:_}{os:_}
structure Nx (prog:Program) (w:World) (A:Around) (mk:Heap->Nat->Shared) (Good:Heap->Nat->Prop) (it:Addr) (st st':Heap->Prop) (P:Value->Prop):Prop where
 stay:∀h h',st h->(∀o,h.get? it=some o->h'.get? it=some o)->st h'
 stay':∀h h',st' h->(∀o,h.get? it=some o->h'.get? it=some o)->st' h'
 run:∀h tk (Q:Value->Shared->Prop) (E:Value->Shared->Prop),Good h tk->st h->(∀u h' tk',P u->st' h'->Heap.SameBut it h h'->Q u (mk h' tk')) ->
  wpAny (model prog w) A (Builtin.SmallTypes.nextOf (.ref it)) Q E (mk h tk)
structure Ne (prog:Program) (w:World) (A:Around) (mk:Heap->Nat->Shared) (Good:Heap->Nat->Prop) (it:Addr) (st:Heap->Prop):Prop where
 stay:∀h h',st h->(∀o,h.get? it=some o->h'.get? it=some o)->st h'
 run:∀h tk (Q:Value->Shared->Prop) (E:Value->Shared->Prop),Good h tk->st h->(∀h' e,Heap.ExtBut it h h'->(∃o,h'.get? e=some o/\o.cls=.type "StopIteration")->E (.ref e) (mk h' tk)) ->
  wpAny (model prog w) A (Builtin.SmallTypes.nextOf (.ref it)) Q E (mk h tk)
def BS(s:Shared)(h:Heap)(tk:Nat):Shared:={s with heap:=h,toks:=tk}
variable{Good:Heap->Nat->Prop}{s:Shared}{z TI TO i1 i2:Addr}{a b:Value}{st1 st1' st2 st2':Heap->Prop}{P1 P2:Value->Prop}
theorem eN{it l:Addr}{i:Nat}{items}{x:Value}{Q:Value->Shared->Prop}(hit:s.heap.IsTupleIter it l i)(hl:s.heap.IsTuple l items)(hx:items[i]?=some x)
  (hQ:∀h',h'.IsTupleIter it l (i+1)->Heap.SameBut it s.heap h'->Q x {s with heap:=h' }):wpAny (model prog w) A (Builtin.SmallTypes.nextOf (.ref it)) Q E s:=by
 obtain⟨o,ho,hc,hd⟩:=id hit
 obtain⟨ol,hol,_,nl,hdl⟩:=hl
 unfold Builtin.SmallTypes.nextOf
 refine wpAny_bind (wpAny_callSpecial?_slot (name:=oS "__next__") hit.typeIs F.slot_tuple_iterator_next (wpAny_call_entry F.slot_tuple_iterator_next hit.typeIs F.entry_tuple_iterator_next ?_ (F.args_tuple_iterator_next_1 _)))
 show wpAny _ _ (field (.ref it) 0 >>= _) _ _ s;refine wpAny_bind (wpAny_field ho hd (x:=.ref l) rfl ?_)
 show wpAny _ _ (if (Value.ref l==Value.none)=true then _ else _) _ _ s;rw[if_neg (show ¬ ((Value.ref l==Value.none)=true) from Bool.false_ne_true)]
 show wpAny _ _ (field (.ref it) 1 >>= _) _ _ s;refine wpAny_bind (wpAny_field ho hd (x:=.int i 0) rfl ?_)
 show wpAny _ _ (seqItems? (.ref l) >>= _) _ _ s;refine wpAny_bind (wpAny_seqItems hol hdl ?_)
 simp only[Int.toNat_natCast,hx]
 refine wpAny_bind (wpAny_setField ho hd (by simp) (wpAny_pure ⟨x,rfl,wpAny_pure (hQ _ ⟨_,Heap.get?_update_self _ ho (Obj.isFreed_of_fields (Obj.data_mapFields hd _)),(Obj.cls_mapFields ..).trans hc,?_⟩ (Heap.SameBut.update ..))⟩))
 rw[Obj.data_mapFields hd];simp[rawInt]
theorem fk{it l:Addr}{i:Nat}{items}{Q:Value->Shared->Prop}(hh:A.handled=none)(hit:s.heap.IsTupleIter it l i)(hl:s.heap.IsTuple l items)(hx:items[i]?=none)
  (hE:∀h' e,Heap.ExtBut it s.heap h'->(∃o,h'.get? e=some o/\o.cls=.type "StopIteration")->E (.ref e) {s with heap:=h' }):wpAny (model prog w) A (Builtin.SmallTypes.nextOf (.ref it)) Q E s:=by
 obtain⟨o,ho,hc,hd⟩:=id hit
 obtain⟨ol,hol,_,nl,hdl⟩:=hl
 unfold Builtin.SmallTypes.nextOf
 refine wpAny_bind (wpAny_callSpecial?_slot (name:=oS "__next__") hit.typeIs F.slot_tuple_iterator_next (wpAny_call_entry F.slot_tuple_iterator_next hit.typeIs F.entry_tuple_iterator_next ?_ (F.args_tuple_iterator_next_1 _)))
 show wpAny _ _ (field (.ref it) 0 >>= _) _ _ s;refine wpAny_bind (wpAny_field ho hd (x:=.ref l) rfl ?_)
 show wpAny _ _ (if (Value.ref l==Value.none)=true then _ else _) _ _ s;rw[if_neg (show ¬ ((Value.ref l==Value.none)=true) from Bool.false_ne_true)]
 show wpAny _ _ (field (.ref it) 1 >>= _) _ _ s;refine wpAny_bind (wpAny_field ho hd (x:=.int i 0) rfl ?_)
 show wpAny _ _ (seqItems? (.ref l) >>= _) _ _ s;refine wpAny_bind (wpAny_seqItems hol hdl ?_)
 simp only[Int.toNat_natCast,hx]
 refine wpAny_bind (wpAny_rule (wpAny_bind (wpAny_setField ho hd (by simp) ?_)));show wpAny _ _ (newExc (.type "StopIteration") [] >>= _) _ _ _
 refine wpAny_bind ?_;simp only[newExc,newTuple]
 refine wpAny_bind (wpAny_newObj_type ?_ (by size_fits));refine wpAny_bind (m:=firstArgMember _ _) (wpAny_of_eq (a:=Value.none) (by first | rfl | (simp only[firstArgMember];rfl)) ?_)
 refine wpAny_newObj_type ?_ (by size_fits);simp only[raiseNew]
 refine wpAny_bind (wpAny_handled ?_);first | rw[show A.in1.handled=none from hh] | rw[hh]
 exact wpAny_bind (wpAny_pure (wpAny_throw (hE _ _ (((Heap.SameBut.update ..).extBut.push _).push _) ⟨_,Heap.get?_push_size _ rfl,rfl⟩)))
inductive Src where
 | lst (a:Addr)
 | tup (a:Addr)
 | txt (x:Str) (t:Tok)
def Src.val:Src->Value
 | .lst a=>.ref a
 | .tup a=>.ref a
 | .txt x t=>.str x t
def Src.obj:Src->Obj
 | .lst a=>{cls:=.type "list_iterator",data:=.fields #[.ref a,.int 0 0]}
 | .tup a=>{cls:=.type "tuple_iterator",data:=.fields #[.ref a,.int 0 0]}
 | .txt x t=>{cls:=.type "str_ascii_iterator",data:=.fields #[.str x t,.int 0 0]}
def Src.ok(h:Heap):Src->Prop
 | .lst a=>∃xs,h.IsList a xs
 | .tup a=>∃xs,h.IsTuple a xs
 | .txt x _=>x.cps.all (·<128)=true
def Src.at(it:Addr)(i:Nat)(h:Heap):Src->Prop
 | .lst a=>h.IsListIter it a i
 | .tup a=>h.IsTupleIter it a i
 | .txt x t=>h.IsStrIter it "str_ascii_iterator" x t i
theorem Src.iter{S:Src}{Q:Value->Shared->Prop}(h:S.ok s.heap)(hQ:Q (.ref s.heap.objs.size) {s with heap:=s.heap.push S.obj}):wpAny (model prog w) A (pyIter S.val) Q E s:=by
 cases S with
 | lst a=>obtain⟨xs,h⟩:=h;exact wpAny_pyIter_list h hQ
 | tup a=>obtain⟨xs,h⟩:=h;exact wpAny_pyIter_tuple h hQ
 | txt x t=>exact wpAny_pyIter_ascii h hQ
theorem Src.keep{S:Src}{it:Addr}{i:Nat}{h h':Heap}(q:S.at it i h)(k:∀o,h.get? it=some o->h'.get? it=some o):S.at it i h':=by
 cases S with
 | lst a=>exact Heap.IsListIter.at q k
 | tup a=>obtain⟨o,e,r⟩:=q;exact⟨o,k o e,r⟩
 | txt x t=>obtain⟨o,e,r⟩:=q;exact⟨o,k o e,r⟩
theorem Src.start{S:Src}{it:Addr}{h:Heap}(q:h.get? it=some S.obj):S.at it 0 h:=by
 cases S<;>exact⟨_,q,rfl,rfl⟩
theorem Src.nx {S:Src} {it:Addr} {i:Nat} {P:Value->Prop} (hx:∀h tk,Good h tk->match S with
  | .lst a=>∃xs x,h.IsList a xs/\xs[i]?=some x/\P x
  | .tup a=>∃xs x,h.IsTuple a xs/\xs[i]?=some x/\P x
  | .txt x _=>∃c,x.cps[i]?=some c/\∀u,P (.str ⟨#[c]⟩ u)):Nx prog w A (BS s) Good it (fun h=>S.at it i h) (fun h=>S.at it (i+1) h) P where
 stay:=fun _ _ q k=>Src.keep q k
 stay':=fun _ _ q k=>Src.keep q k
 run:=fun h tk Q E gg q hQ=>by
  have z:=hx h tk gg
  cases S with
  | lst a=>obtain⟨xs,x,l,e,p⟩:=z;exact wpAny_nextOf_list_item (s:=BS s h tk) q l e fun h' q' sb=>hQ x h' tk p q' sb
  | tup a=>obtain⟨xs,x,l,e,p⟩:=z;exact eN (s:=BS s h tk) q l e fun h' q' sb=>hQ x h' tk p q' sb
  | txt x t=>obtain⟨c,e,p⟩:=z;exact wpAny_nextOf_ascii_item (s:=BS s h tk) q e fun h' q' sb=>hQ _ h' (tk+1) (p _) q' sb
theorem Src.ne {S:Src} {it:Addr} {i:Nat} (hh:A.handled=none) (hx:∀h tk,Good h tk->match S with
  | .lst a=>∃xs,h.IsList a xs/\xs[i]?=none
  | .tup a=>∃xs,h.IsTuple a xs/\xs[i]?=none
  | .txt x _=>x.cps[i]?=none):Ne prog w A (BS s) Good it (fun h=>S.at it i h) where
 stay:=fun _ _ q k=>Src.keep q k
 run:=fun h tk Q E gg q hQ=>by
  have z:=hx h tk gg
  cases S with
  | lst a=>obtain⟨xs,l,e⟩:=z;exact wpAny_nextOf_list_end (s:=BS s h tk) hh q l e hQ
  | tup a=>obtain⟨xs,l,e⟩:=z;exact fk (s:=BS s h tk) hh q l e hQ
  | txt x t=>exact wpAny_nextOf_ascii_end (s:=BS s h tk) hh q z hQ
end
section
variable{prog:Program}{w:World}{A:Around}{E:Value->Shared->Prop}{s:Shared}
end
end HW
namespace HW
open PySem PySem.Spec PyProof.Rows L2
def Src.go(K:W.Frag)(i:Nat)(H:Hp)(v:V):Src->Prop
 | .lst a=>∃xs,qM K H a xs/\xs[i]?=some v
 | .tup a=>∃xs,q8 K H a xs/\xs[i]?=some v
 | .txt x _=>∃c,x.cps[i]?=some c/\v=.str ⟨#[c]⟩
def Src.stop(K:W.Frag)(i:Nat)(H:Hp):Src->Prop
 | .lst a=>∃xs,qM K H a xs/\xs.length<=i
 | .tup a=>∃xs,q8 K H a xs/\xs.length<=i
 | .txt x _=>x.cps.size<=i
section
variable{X:Cx}{pins:List (Addr×Obj)}{σ:L2.St}{H:Hp}{s:Shared}{S:Src}{i:Nat}{v:V}
end
section
variable{X:Cx}
end
end HW
namespace HW
open PySem
def C2:List (Str×D)->Str->OD
 | [],_=>none
 | p::r,x=>if p.1=x then some p.2 else C2 r x
end HW
namespace L2
open PySem PySem.Spec PyProof.Rows
section
variable{κ:Type}[DecidableEq κ]
def se(kvs:List (κ×V))(k:κ):Option V:=(kvs.find? fun kv=>decide (kv.1=k)).map (·.2)
def putK(kvs:List (κ×V))(k:κ)(v:V):List (κ×V):=
 if (kvs.any fun kv=>decide (kv.1=k))=true then kvs.map (fun kv=>if kv.1=k then (kv.1,v) else kv) else kvs++[(k,v)]
def BD(kvs:List (κ×V))(k:κ):List (κ×V):=kvs.filter fun kv=>decide (kv.1≠k)
theorem tf{p:κ×V}{r:List (κ×V)}{k:κ}(e:p.1=k):se (p::r) k=some p.2:=by simp[se,List.find?_cons,e]
theorem sT{p:κ×V}{r:List (κ×V)}{k:κ}(e:¬ p.1=k):se (p::r) k=se r k:=by simp[se,List.find?_cons,e]
theorem xa(k:κ):∀kvs:List (κ×V),(kvs.any fun kv=>decide (kv.1=k))=(se kvs k).isSome
 | []=>rfl
 | p::r=>by
  rw[List.any_cons]
  by_cases e:p.1=k
  ·simp only[tf e,decide_eq_true e,Bool.true_or,Option.isSome_some]
  ·rw[sT e,decide_eq_false e,Bool.false_or];exact xa k r
theorem wM.isSome_eq{o:Option V}{u:Option Value}(r:wM o u):o.isSome=u.isSome:=by
 cases o with
 | none=>cases u with
  | none=>rfl
  | some _=>exact(show False from r).elim
 | some _=>cases u with
  | none=>exact(show False from r).elim
  | some _=>rfl
theorem wM.getD{o:Option V}{u:Option Value}{d:V}{d':Value}(r:wM o u)(rd:RelV d d'):RelV (o.getD d) (u.getD d'):=by
 cases o with
 | none=>cases u with
  | none=>exact rd
  | some _=>exact(show False from r).elim
 | some _=>cases u with
  | none=>exact(show False from r).elim
  | some _=>exact r
theorem KV.val{kvs:List (κ×V)}{vs:List (κ×Value)}(r:KV kvs vs)(k:κ):wM (se kvs k) (valueAt vs k):=by
 unfold KV at r
 induction r with
 | nil=>exact True.intro
 | @cons p q ps qs h t ih =>
  obtain⟨h1,h2⟩:=h
  by_cases e:p.1=k
  ·have e':q.1=k:=h1.symm.trans e
   have b:valueAt (q::qs) k=some q.2:=by simp[valueAt,List.find?_cons,e']
   rw[tf e,b];exact h2
  ·have e':¬ q.1=k:=fun z=>e (h1.trans z)
   have b:valueAt (q::qs) k=valueAt qs k:=by simp[valueAt,List.find?_cons,e']
   rw[sT e,b];exact ih
theorem KV.any{kvs:List (κ×V)}{vs:List (κ×Value)}(r:KV kvs vs)(k:κ):(kvs.any fun kv=>decide (kv.1=k))=vs.any fun kv=>decide (kv.1=k):=by
 unfold KV at r
 induction r with
 | nil=>rfl
 | cons h t ih=>rw[List.any_cons,List.any_cons,ih,h.1]
theorem KV.repl{kvs:List (κ×V)}{vs:List (κ×Value)}(r:KV kvs vs)(k:κ){y:V}{u:Value}(ry:RelV y u) :
  KV (kvs.map fun kv=>if kv.1=k then (kv.1,y) else kv) (vs.map fun kv=>if kv.1=k then (kv.1,u) else kv):=by
 unfold KV at r ⊢
 induction r with
 | nil=>exact .nil
 | @cons p q ps qs h t ih =>
  rw[List.map_cons,List.map_cons]
  refine .cons ?_ ih
  obtain⟨h1,h2⟩:=h
  by_cases e:p.1=k
  ·rw[if_pos e,if_pos (h1.symm.trans e)];exact⟨h1,ry⟩
  ·rw[if_neg e,if_neg (fun z=>e (h1.trans z))];exact⟨h1,h2⟩
theorem KV.put{kvs:List (κ×V)}{vs:List (κ×Value)}(r:KV kvs vs)(k:κ){y:V}{u:Value}(ry:RelV y u):KV (putK kvs k y) (stored vs k u):=by
 unfold putK stored
 rw[r.any k]
 by_cases e:(vs.any fun kv=>decide (kv.1=k))=true
 ·rw[if_pos e,if_pos e];exact r.repl k ry
 ·rw[if_neg e,if_neg e];exact Paired.snoc r ⟨rfl,ry⟩
theorem KV.drop{kvs:List (κ×V)}{vs:List (κ×Value)}(r:KV kvs vs)(k:κ):KV (BD kvs k) (without vs k):=by
 unfold KV at r ⊢
 unfold BD without
 induction r with
 | nil=>exact .nil
 | @cons p q ps qs h t ih =>
  obtain⟨h1,h2⟩:=h
  rw[List.filter_cons,List.filter_cons]
  by_cases e:p.1=k
  ·have a:¬ decide (p.1≠k)=true:=by simp[e]
   have b:¬ decide (q.1≠k)=true:=by simp[h1.symm.trans e]
   rw[if_neg a,if_neg b];exact ih
  ·have e':¬ q.1=k:=fun z=>e (h1.trans z)
   have a:decide (p.1≠k)=true:=by simp[e]
   have b:decide (q.1≠k)=true:=by simp[e']
   rw[if_pos a,if_pos b];exact .cons ⟨h1,h2⟩ ih
theorem KV.keys{kvs:List (κ×V)}{vs:List (κ×Value)}(r:KV kvs vs):kvs.map (·.1)=vs.map (·.1):=by
 unfold KV at r
 induction r with
 | nil=>rfl
 | cons h t ih=>rw[List.map_cons,List.map_cons,ih,h.1]
theorem KV.length{kvs:List (κ×V)}{vs:List (κ×Value)}(r:KV kvs vs):kvs.length=vs.length:=Paired.length r
end
abbrev KT(H:Hp):List (List Key×V)->List (List Key×Addr×Value)->Prop:=Paired fun p q=>p.1=q.1/\H q.2.1=some (.tup (p.1.map kV))/\RelV p.2 q.2.2
theorem KT.val{H:Hp}{kvs:List (List Key×V)}{xs:List (List Key×Addr×Value)}(r:KT H kvs xs)(k:List Key):wM (se kvs k) ((atKey xs k).map (·.2)):=by
 induction r with
 | nil=>exact True.intro
 | @cons p q ps qs h t ih =>
  obtain⟨h1,_,h2⟩:=h
  by_cases e:p.1=k
  ·have e':q.1=k:=h1.symm.trans e
   have b:atKey (q::qs) k=some q.2:=by simp[atKey,List.find?_cons,e']
   rw[tf e,b];exact h2
  ·have e':¬ q.1=k:=fun z=>e (h1.trans z)
   have b:atKey (q::qs) k=atKey qs k:=by simp[atKey,List.find?_cons,e']
   rw[sT e,b];exact ih
theorem KT.repl{H:Hp}{kvs:List (List Key×V)}{xs:List (List Key×Addr×Value)}(r:KT H kvs xs)(k:List Key){y:V}{u:Value}(ry:RelV y u) :
  KT H (kvs.map fun kv=>if kv.1=k then (kv.1,y) else kv) (xs.map (putAt k u)):=by
 induction r with
 | nil=>exact .nil
 | @cons p q ps qs h t ih =>
  rw[List.map_cons,List.map_cons]
  refine .cons ?_ ih
  obtain⟨h1,h2,h3⟩:=h
  unfold putAt
  by_cases e:p.1=k
  ·rw[if_pos e,if_pos (h1.symm.trans e)];exact⟨h1,h2,ry⟩
  ·rw[if_neg e,if_neg (fun z=>e (h1.trans z))];exact⟨h1,h2,h3⟩
theorem KT.put{H:Hp}{kvs:List (List Key×V)}{xs:List (List Key×Addr×Value)}(r:KT H kvs xs)(k:List Key){b:Addr}{y:V}{u:Value}(hb:H b=some (.tup (k.map kV)))(ry:RelV y u) :
  KT H (putK kvs k y) (storedH xs k b u):=by
 have e:(kvs.any fun kv=>decide (kv.1=k))=(atKey xs k).isSome:=by
  rw[xa,(r.val k).isSome_eq,Option.isSome_map]
 unfold putK storedH
 rw[e]
 by_cases q:(atKey xs k).isSome=true
 ·rw[if_pos q,if_pos q];exact r.repl k ry
 ·rw[if_neg q,if_neg q];exact Paired.snoc r ⟨rfl,hb,ry⟩
theorem KT.keeps{H H':Hp}{kvs:List (List Key×V)}{xs:List (List Key×Addr×Value)}(r:KT H kvs xs)(ht:∀b ys,H b=some (.tup ys)->H' b=some (.tup ys)):KT H' kvs xs:=
 Paired.mapP r fun _ _ z=>⟨z.1,ht _ _ z.2.1,z.2.2⟩
section
variable{P:Program}{w:World}{H:Hp}{h:Heap}{a:Addr}
end
def Bt(H:Hp)(a:Addr)(y:V)(r:Option V):Prop:=
 (∃kvs k,Rd H a (.dK kvs)/\y=kV k/\r=se kvs k)\/∃kvs k b,Rd H a (.dT kvs)/\y=.ref b/\H b=some (.tup (k.map kV))/\r=se kvs k
def Bd(H:Hp)(a:Addr)(y v:V)(H':Hp):Prop:=
 (∃kvs k,H a=some (.dK kvs)/\y=kV k/\kvs.length<sizeLine/\H'=upd H a (.dK (putK kvs k v))) \/
 ∃kvs k b,H a=some (.dT kvs)/\y=.ref b/\H b=some (.tup (k.map kV))/\kvs.length<sizeLine/\H'=upd H a (.dT (putK kvs k v))
theorem Bt.k{H:Hp}{a:Addr}{kvs:List (Key×V)}{k:Key}(e:H a=some (.dK kvs)):Bt H a (kV k) (se kvs k):=.inl ⟨kvs,k,.inl e,rfl,rfl⟩
theorem Bt.t{H:Hp}{a b:Addr}{kvs:List (List Key×V)}{k:List Key}(e:H a=some (.dT kvs))(eb:H b=some (.tup (k.map kV))):Bt H a (.ref b) (se kvs k):=.inr ⟨kvs,k,b,.inl e,rfl,eb,rfl⟩
theorem Bd.k{H:Hp}{a:Addr}{kvs:List (Key×V)}{k:Key}{v:V}(e:H a=some (.dK kvs))(hl:kvs.length<sizeLine):Bd H a (kV k) v (upd H a (.dK (putK kvs k v))):=.inl ⟨kvs,k,e,rfl,hl,rfl⟩
theorem Bd.t{H:Hp}{a b:Addr}{kvs:List (List Key×V)}{k:List Key}{v:V}(e:H a=some (.dT kvs))(eb:H b=some (.tup (k.map kV)))(hl:kvs.length<sizeLine) :
  Bd H a (.ref b) v (upd H a (.dT (putK kvs k v))):=.inr ⟨kvs,k,b,e,rfl,eb,hl,rfl⟩
section
variable{X:Cx}{pins:List (Addr×Obj)}{σ:St}{H:Hp}{s:Shared}{a:Addr}{y v:V}{u r:Value}{o:Option V}{A:Around}{E:Value->Shared->Prop}
end
section
variable{X:Cx}{pins:List (Addr×Obj)}{σ:St}{H:Hp}{s:Shared}{a:Addr}{kvs:List (Key×V)}{k:Key}{u:Value}{A:Around}{E:Value->Shared->Prop}
end
section
variable{X:Cx}{o i e value:Expr}{pos pos' tpos:Pos}{td ty tv:TE}
end
section
variable{X:Cx}{pos:Pos}
end
section
variable{X:Cx}{pins:List (Addr×Obj)}{σ:St}{H:Hp}{s:Shared}{a:Addr}{y d:V}{u r:Value}{o:Option V}{A:Around}{E:Value->Shared->Prop}
end
section
variable{X:Cx}{o e f:Expr}{apos cpos:Pos}{td ty tx:TE}
end
section
variable{X:Cx}{pins:List (Addr×Obj)}{σ:St}{H:Hp}{s:Shared}{a:Addr}{kvs:List (Key×V)}{A:Around}{E:Value->Shared->Prop}
end
section
variable{X:Cx}{pins:List (Addr×Obj)}{σ:St}{H:Hp}{s:Shared}{a:Addr}{y:V}{u:Value}{A:Around}{E:Value->Shared->Prop}
end
end L2
namespace HW
open PySem PySem.Spec PyProof.Rows L2
def EN(P:Program)(w:World)(a:Addr)(kvs:List (Key×V)):HO:=.ext fun h=>kvs.length<=sizeLine/\(a==sysModules)=false/\∃vs,KV kvs vs/\h.DictOf (uj P w) a vs
section
variable{X:Cx}{pins:List (Addr×Obj)}{σ:L2.St}{H:Hp}{s:Shared}{a:Addr}{kvs:List (Key×V)}
end
def qO(K:W.Frag)(H:Hp):List (Str×D)->List (Key×V)->Prop
 | [],vs=>vs=[]
 | p::r,vs=>∃v t,vs=(.inr p.1,v)::t/\Rep K H p.2 v/\qO K H r t
section
variable{K:W.Frag}{H H':Hp}
theorem qO.kp(s:Kp H H'):∀{ds:List (Str×D)} {vs:List (Key×V)},qO K H ds vs->qO K H' ds vs
 | [],_,h=>h
 | p::r,_,h=>by
  obtain⟨v,t,e,q,w⟩:=h
  exact⟨v,t,e,q.kp s,qO.kp s w⟩
theorem qO.mono(s:k9 H H'){ds:List (Str×D)}{vs:List (Key×V)}(h:qO K H ds vs):qO K H' ds vs:=h.kp (Kp.of s)
theorem qO.snoc:∀{ds:List (Str×D)} {vs:List (Key×V)} {x:Str} {d:D} {v:V},qO K H ds vs->Rep K H d v->qO K H (ds++[(x,d)]) (vs++[(.inr x,v)])
 | [],_,x,d,v,h,r=>by
  cases (show _=[] from h)
  exact⟨v,[],rfl,r,rfl⟩
 | p::ds,_,x,d,v,h,r=>by
  obtain⟨u,t,e,q,w⟩:=h
  subst e
  exact⟨u,t++[(.inr x,v)],rfl,q,qO.snoc w r⟩
theorem qO.len:∀{ds:List (Str×D)} {vs:List (Key×V)},qO K H ds vs->ds.length=vs.length
 | [],_,h=>by cases (show _=[] from h);rfl
 | p::r,_,h=>by
  obtain⟨v,t,e,q,w⟩:=h
  subst e
  simp[qO.len w]
theorem qO.at:∀{ds:List (Str×D)} {vs:List (Key×V)} {x:Str},qO K H ds vs->match C2 ds x with
  | some d=>∃v,se vs (Sum.inr x:Key)=some v/\Rep K H d v
  | none=>se vs (Sum.inr x:Key)=none
 | [],_,x,h=>by cases (show _=[] from h);rfl
 | p::r,_,x,h=>by
  obtain⟨v,t,e,q,w⟩:=h
  subst e
  have ih:=qO.at (x:=x) w
  unfold C2
  by_cases hx:p.1=x
  ·rw[if_pos hx]
   exact⟨v,tf (by rw[hx]),q⟩
  ·rw[if_neg hx]
   have n:se (((Sum.inr p.1:Key),v)::t) (Sum.inr x)=se t (Sum.inr x):=sT fun z=>hx (Sum.inr.inj z)
   rw[n]
   exact ih
end
def Gk(P:Program)(w:World)(K:W.Frag)(g:R->List (Str×D)->OD):TE:=fun σ H Q=>∃ ρ τ a ds xs d,pG K H ρ (some (.ref a)::τ) σ/\H a=some (EN P w a xs)/\qO K H ds xs/\g ρ ds=some d/\∀v H',k9 H H'->Rep K H' d v->Q v H'
def KE(X:Cx)(e:Expr)(g:R->List (Str×D)->OD):Prop:=PE X e (Gk X.prog X.w X.K g)
section
variable{X:Cx}{st:Stmt}{sts:List Stmt}{u:R->Option Out}{w:R->List (Str×D)->Option Out}{pos:Pos}{e:Expr}{es:List Expr}{f:R->OD}{F:R->Option LD}
end
section
variable{X:Cx}{sts:List Stmt}{w:R->List (Str×D)->Option Out}{pos:Pos}{f:R->OD}
end
end HW
namespace HW
open PySem
end HW
namespace HW
open PySem PySem.Spec PyProof.Rows L2
variable{X:Cx}
end HW
namespace HW
open PySem PySem.SetTable
theorem zH(xs:Array Nat)(j:Nat)(H:∀a b,a<b->b<xs.size->xs.getD a 0<xs.getD b 0):∀fuel lo hi,hi - lo<=fuel->lo<=hi->hi<=xs.size ->
  (∀i,i<lo->xs.getD i 0<j)->(∀i,hi<=i->i<xs.size->j<=xs.getD i 0) ->
  below.go xs j fuel lo hi<=xs.size/\(∀i,i<below.go xs j fuel lo hi->xs.getD i 0<j)/\(∀i,below.go xs j fuel lo hi<=i->i<xs.size->j<=xs.getD i 0):=by
 intro fuel
 induction fuel with
 | zero =>
  intro lo hi h1 h2 h3 h4 h5
  have:lo=hi:=by omega
  subst this
  exact⟨h3,h4,h5⟩
 | succ fuel ih =>
  intro lo hi h1 h2 h3 h4 h5
  unfold below.go
  by_cases hlt:lo<hi
  ·rw[if_pos hlt]
   have hm:(lo+hi) / 2<xs.size:=by omega
   have e:xs.getD ((lo+hi) / 2) j=xs.getD ((lo+hi) / 2) 0:=by simp[Array.getD,hm]
   show(if xs.getD ((lo+hi) / 2) j<j then _ else _:Nat)<=_/\_
   dsimp only
   rw[e]
   by_cases hc:xs.getD ((lo+hi) / 2) 0<j
   ·rw[if_pos hc]
    refine ih _ _ (by omega) (by omega) h3 (fun i hi'=>?_) h5
    by_cases he:i=(lo+hi) / 2
    ·subst he;exact hc
    ·exact Nat.lt_trans (H i _ (by omega) hm) hc
   ·rw[if_neg hc]
    refine ih _ _ (by omega) (by omega) (by omega) h4 (fun i hi' hs=>?_)
    by_cases he:i=(lo+hi) / 2
    ·subst he;omega
    ·have:=H _ i (by omega:(lo+hi) / 2<i) hs;omega
  ·rw[if_neg hlt]
   have:lo=hi:=by omega
   subst this
   exact⟨h3,h4,h5⟩
def Ba(xs:Array Nat):Prop:=∀a b,a<b->b<xs.size->xs.getD a 0<xs.getD b 0
theorem qT{xs:Array Nat}(H:Ba xs)(j:Nat):below xs j<=xs.size/\(∀i,i<below xs j->xs.getD i 0<j)/\(∀i,below xs j<=i->i<xs.size->j<=xs.getD i 0):=
 zH xs j H xs.size 0 xs.size (by omega) (by omega) (by omega) (fun i h=>by omega) (fun i h h'=>by omega)
theorem AQ{xs:Array Nat}(H:Ba xs):below xs 0=0:=by
 obtain⟨a,b,c⟩:=qT H 0
 rcases Nat.eq_zero_or_pos (below xs 0) with h | h
 ·exact h
 ·have:=b 0 h;omega
theorem AT{xs:Array Nat}(H:Ba xs){i:Nat}(hi:i<xs.size):below xs (xs.getD i 0+1)=i+1:=by
 obtain⟨a,b,c⟩:=qT H (xs.getD i 0+1)
 generalize below xs (xs.getD i 0+1)=r at *
 rcases Nat.lt_or_ge i r with h | h
 ·rcases Nat.lt_or_ge (i+1) r with h' | h'
  ·have h1:=b (i+1) h'
   have h2:=H i (i+1) (by omega) (by omega)
   omega
  ·omega
 ·have:=c i h hi;omega
theorem sZ{α:Type}(xs:Array α)(p:Nat)(x:α):(insertAt xs p x).toList=xs.toList.take p++x::xs.toList.drop p:=by
 simp[SetTable.insertAt,List.extract_eq_take_drop,List.take_of_length_le]
theorem getD_list{α:Type}(xs:Array α)(i:Nat)(d:α):xs.getD i d=xs.toList[i]?.getD d:=by simp
theorem vP{α:Type}(xs:Array α){p i:Nat}(x d:α)(hp:p<=xs.size)(h:i<p):(insertAt xs p x).getD i d=xs.getD i d:=by
 rw[getD_list,getD_list,sZ,List.getElem?_append_left (by rw[List.length_take_of_le (by simpa using hp)];exact h),List.getElem?_take_of_lt h]
theorem zQ{α:Type}(xs:Array α){p:Nat}(x d:α)(hp:p<=xs.size):(insertAt xs p x).getD p d=x:=by
 have e:(xs.toList.take p).length=p:=List.length_take_of_le (by simpa using hp)
 rw[getD_list,sZ,List.getElem?_append_right (by rw[e];exact Nat.le_refl _),e,Nat.sub_self];rfl
theorem zK{α:Type}(xs:Array α){p i:Nat}(x d:α)(hp:p<=xs.size)(h:p<=i):(insertAt xs p x).getD (i+1) d=xs.getD i d:=by
 have e:(xs.toList.take p).length=p:=List.length_take_of_le (by simpa using hp)
 rw[getD_list,getD_list,sZ,List.getElem?_append_right (by rw[e];exact Nat.le_succ_of_le h),e,Nat.succ_sub h,List.getElem?_cons_succ,List.getElem?_drop,Nat.add_sub_cancel' h]
theorem pK{α:Type}(xs:Array α)(p:Nat)(x:α)(hp:p<=xs.size):(insertAt xs p x).size=xs.size+1:=by
 rw[<- Array.length_toList,sZ,List.length_append,List.length_cons,<- Nat.add_assoc,<- List.length_append,List.take_append_drop,Array.length_toList]
theorem xY{xs:Array Nat}(H:Ba xs){j:Nat}(hj:(xs[below xs j]?==some j)=false):Ba (insertAt xs (below xs j) j):=by
 obtain⟨a,b,c⟩:=qT H j
 have hne:below xs j<xs.size->xs.getD (below xs j) 0≠j:=fun h e=>by
  rw[Array.getElem?_eq_getElem h] at hj
  simp[Array.getD,h] at e
  simp[e] at hj
 generalize below xs j=r at *
 intro u v huv hv
 rw[pK _ _ _ a] at hv
 rcases Nat.lt_trichotomy v r with h2 | h2 | h2
 ·rw[vP _ _ _ a h2,vP _ _ _ a (Nat.lt_trans huv h2)]
  exact H u v huv (Nat.lt_of_lt_of_le h2 a)
 ·subst h2
  rw[zQ _ _ _ a,vP _ _ _ a huv]
  exact b u huv
 ·obtain⟨w,rfl⟩:∃w,v=w+1:=⟨v - 1,(Nat.succ_pred_eq_of_pos (Nat.lt_of_le_of_lt (Nat.zero_le _) h2)).symm⟩
  have hw:w<xs.size:=Nat.lt_of_succ_lt_succ hv
  have hrw:r<=w:=Nat.le_of_lt_succ h2
  have hjw:j<xs.getD w 0:=by
   rcases Nat.eq_or_lt_of_le hrw with q | q
   ·subst q
    exact Nat.lt_of_le_of_ne (c r hrw hw) (Ne.symm (hne hw))
   ·exact Nat.lt_of_le_of_lt (c r (Nat.le_refl _) (Nat.lt_trans q hw)) (H r w q hw)
  rw[zK _ _ _ a hrw]
  rcases Nat.lt_trichotomy u r with h1 | h1 | h1
  ·rw[vP _ _ _ a h1]
   exact Nat.lt_trans (b u h1) hjw
  ·subst h1
   rw[zQ _ _ _ a]
   exact hjw
  ·obtain⟨z,rfl⟩:∃z,u=z+1:=⟨u - 1,(Nat.succ_pred_eq_of_pos (Nat.lt_of_le_of_lt (Nat.zero_le _) h1)).symm⟩
   rw[zK _ _ _ a (Nat.le_of_lt_succ h1)]
   exact H z w (Nat.lt_of_succ_lt_succ huv) hw
structure TI (t:SetTable) (n:Nat):Prop where
 mask:t.mask=7
 dum:t.dummies=#[]
 plain:t.plain=true
 ris:Ba t.place
 size:t.place.size=n
theorem slot_of{t:SetTable}(hd:t.dummies=#[])(j:Nat):t.slot j=if (t.place[below t.place j]?==some j)=true then .live (below t.place j) else .empty:=by
 unfold SetTable.slot
 dsimp only
 rw[hd]
 by_cases h:(t.place[below t.place j]?==some j)=true
 ·rw[if_pos h,if_pos h]
 ·rw[if_neg h,if_neg h];rfl
theorem TI.fits{t:SetTable}{n:Nat}(T:TI t n)(hn:n<=7):t.fits n=true:=by
 unfold SetTable.fits SetTable.fill
 rw[T.mask,T.dum,T.size]
 simp;omega
theorem TI.fresh(led:Bool):TI (.fresh 0 0 led) 0:=⟨rfl,rfl,rfl,fun a b h hb=>absurd hb (by simp[SetTable.fresh]),rfl⟩
theorem uD{α:Type}:∀(l:List α) (i:Nat) (x:α),l[i]?=some x->(x::l.eraseIdx i).Perm l
 | [],i,x,h=>by simp at h
 | a::l,0,x,h=>by simp at h;subst h;exact .refl _
 | a::l,i+1,x,h=>by
  simp only[List.getElem?_cons_succ] at h
  simp only[List.eraseIdx_cons_succ]
  exact(List.Perm.swap _ _ _).trans ((uD l i x h).cons a)
theorem yu{α:Type}(next:Nat->Nat):∀(fuel k:Nat) (left:List α) (out:Array α),left.length=fuel->(pickOrder.go next fuel k left out).toList.Perm (out.toList++left)
 | 0,k,left,out,h=>by
  have:left=[]:=List.eq_nil_of_length_eq_zero h
  subst this;rw[List.append_nil];exact .refl _
 | fuel+1,k,left,out,h=>by
  unfold pickOrder.go
  have hlt:next k%left.length<left.length:=Nat.mod_lt _ (by omega)
  rw[List.getElem?_eq_getElem hlt]
  dsimp only
  refine(yu next fuel (k+1) _ _ (by rw[List.length_eraseIdx_of_lt hlt];omega)).trans ?_
  rw[Array.toList_push,List.append_assoc]
  exact(uD left _ _ (List.getElem?_eq_getElem hlt)).append_left _
theorem vm{α:Type}(next:Nat->Nat)(xs:Array α):(pickOrder next xs).toList.Perm xs.toList:=by
 unfold pickOrder
 exact yu next xs.size 0 xs.toList #[] (by simp)
theorem y8{α:Type}(next:Nat->Nat)(xs:Array α):(pickOrder next xs).size=xs.size:=by
 rw[<- Array.length_toList,(vm next xs).length_eq,Array.length_toList]
def Au(m:Nat):Prop:=m=7\/m=31\/m=127\/m=511
def qG(m i pt:Nat):Nat->Nat×Nat
 | 0=>(i,pt)
 | k+1=>qG m ((i*5+1+pt / 32)%(m+1)) (pt / 32) k
theorem uq(m k:Nat):∀i pt n,qG m i pt (k+n)=qG m (qG m i pt k).1 (qG m i pt k).2 n:=by
 induction k with
 | zero=>intro i pt n;rw[Nat.zero_add];rfl
 | succ k ih=>intro i pt n;rw[Nat.succ_add];exact ih _ _ _
theorem ym(m:Nat):∀k i pt,i<=m->(qG m i pt k).1<=m
 | 0,_,_,h=>h
 | k+1,i,pt,_=>ym m k _ _ (Nat.le_of_lt_succ (Nat.mod_lt _ (Nat.succ_pos m)))
theorem wd(m:Nat):∀k i pt,pt<32 ^ k->(qG m i pt k).2=0
 | 0,_,pt,h=>by simp at h;exact h
 | k+1,i,pt,h=>wd m k _ _ (by rw[Nat.pow_succ] at h;exact Nat.div_lt_of_lt_mul (by omega))
def CU(m:Nat):Nat->Nat->List Nat
 | 0,_=>[]
 | k+1,i=>i::CU m k ((i*5+1)%(m+1))
theorem yr(m:Nat):∀k i x,x∈CU m k i->∃j,j<k/\(qG m i 0 j).1=x
 | 0,i,x,h=>by cases h
 | k+1,i,x,h=>by
  rcases List.mem_cons.mp h with e | e
  ·exact⟨0,by omega,e.symm⟩
  ·obtain⟨j,h1,h2⟩:=yr m k _ x e
   exact⟨j+1,by omega,h2⟩
def zu(m:Nat):Bool:=((List.range (m+1)).all fun j=>(CU m (m+1) 0).contains j)&&(qG m 0 0 (m+1)).1==0
theorem zZ{m:Nat}(h:Au m):zu m=true:=by
 rcases h with rfl | rfl | rfl | rfl<;>decide +kernel
theorem yw{m:Nat}(h:Au m)(j:Nat)(hj:j<=m):∃k,k<m+1/\(qG m 0 0 k).1=j:=by
 have e:=zZ h
 unfold zu at e
 rw[Bool.and_eq_true] at e
 have:=List.all_eq_true.mp e.1 j (List.mem_range.mpr (by omega))
 exact yr m _ _ _ (by simpa using this)
theorem z5(m k i:Nat):(qG m i 0 k).2=0:=wd m k i 0 (Nat.pow_pos (by decide))
theorem zT{m:Nat}(h:Au m)(i j:Nat)(hi:i<=m)(hj:j<=m):∃k,k<m+1/\(qG m i 0 k).1=j:=by
 obtain⟨a,a1,a2⟩:=yw h i hi
 obtain⟨b,b1,b2⟩:=yw h j hj
 have e:(qG m 0 0 (m+1)).1=0:=by
  have:=zZ h
  unfold zu at this
  rw[Bool.and_eq_true] at this
  simpa using this.2
 have hw:∀k,qG m i 0 k=qG m 0 0 (a+k):=fun k=>by rw[uq,z5,a2]
 by_cases hab:a<=b
 ·exact⟨b - a,by omega,by rw[hw,Nat.add_sub_cancel' hab];exact b2⟩
 ·refine⟨m+1 - a+b,by omega,?_⟩
  rw[hw,show a+(m+1 - a+b)=(m+1)+b by omega,uq,z5,e];exact b2
theorem uL{m:Nat}(h:Au m)(i pt j:Nat)(hi:i<=m)(hp:pt<2 ^ 64)(hj:j<=m):∃k,k<m+14/\(qG m i pt k).1=j:=by
 have h1:=wd m 13 i pt (Nat.lt_of_lt_of_le hp (by decide))
 obtain⟨k,hk,e⟩:=zT h (qG m i pt 13).1 j (ym m 13 _ _ hi) hj
 refine⟨13+k,by omega,?_⟩
 rw[uq,h1];exact e
theorem yB(h:Int):bits h<2 ^ 64:=by
 unfold bits
 have h1:=Int.emod_lt_of_pos h (show(0:Int)<2 ^ 64 by decide)
 have h2:=Int.emod_nonneg h (show(2 ^ 64:Int)≠0 by decide)
 omega
theorem vx:∀l l':List Nat,l.Nodup->(∀x∈l,x∈l')->l.length<=l'.length
 | [],l',_,_=>Nat.zero_le _
 | x::l,l',hd,h=>by
  have hx:=h x (.head _)
  have hn:=List.nodup_cons.mp hd
  have:=vx l (l'.erase x) hn.2 fun y hy=>(List.mem_erase_of_ne (fun (e:y=x)=>hn.1 (e ▸ hy))).mpr (h y (.tail _ hy))
  have e:=List.length_erase_of_mem hx
  have p:=List.length_pos_of_mem hx
  rw[List.length_cons];omega
theorem FF{xs:Array Nat}(H:Ba xs){m:Nat}(hs:xs.size<=m):∃j,j<=m/\∀i:Nat,xs[i]?≠some j:=by
 refine Classical.byContradiction fun hn=>?_
 have hall:∀j,j<=m->j∈xs.toList:=fun j hj=>by
  refine Classical.byContradiction fun h=>hn ⟨j,hj,fun i e=>h ?_⟩
  exact List.mem_of_getElem? (by rw[Array.getElem?_toList];exact e)
 have:=vx (List.range (m+1)) xs.toList List.nodup_range fun j hj=>hall j (by have:=List.mem_range.mp hj;omega)
 rw[List.length_range,Array.length_toList] at this
 omega
structure TK (t:SetTable) (n:Nat):Prop where
 mask:Au t.mask
 dum:t.dummies=#[]
 plain:t.plain=true
 ris:Ba t.place
 size:t.place.size=n
def vn(t:SetTable)(j:Nat):Prop:=(t.place[below t.place j]?==some j)=false
def EW(m i pt:Nat):Probe:=⟨i,runEnd m i - i,i,pt,none⟩
theorem C1{t:SetTable}(hd:t.dummies=#[])(h:Int)(i pt:Nat):∀r fuel j,r<fuel ->
  (∃j',vn t j'/\probe.go t (fun _=>h+1) h fuel ⟨j,r,i,pt,none⟩=some (.empty j' none)) \/
  probe.go t (fun _=>h+1) h fuel ⟨j,r,i,pt,none⟩=probe.go t (fun _=>h+1) h (fuel - r - 1) (EW t.mask ((i*5+1+pt / 32)%(t.mask+1)) (pt / 32)):=by
 intro r
 induction r with
 | zero =>
  intro fuel j hf
  obtain⟨f,rfl⟩:∃f,fuel=f+1:=⟨fuel - 1,by omega⟩
  cases hc:(t.place[below t.place j]?==some j) with
  | false =>
   refine .inl ⟨j,hc,?_⟩
   unfold probe.go
   show(match t.slot j with | .empty=>_ | .dummy=>_ | .live _=>_)=_
   rw[slot_of hd,hc]
   rfl
  | true =>
   refine .inr ?_
   conv=>lhs;unfold probe.go
   show(match t.slot j with | .empty=>_ | .dummy=>_ | .live _=>_)=_
   rw[slot_of hd,hc,if_pos rfl]
   show(if (h+1==h)=true then _ else _)=_
   rw[if_neg (by simp;omega)]
   rfl
 | succ r ih =>
  intro fuel j hf
  obtain⟨f,rfl⟩:∃f,fuel=f+1:=⟨fuel - 1,by omega⟩
  cases hc:(t.place[below t.place j]?==some j) with
  | false =>
   refine .inl ⟨j,hc,?_⟩
   unfold probe.go
   show(match t.slot j with | .empty=>_ | .dummy=>_ | .live _=>_)=_
   rw[slot_of hd,hc]
   rfl
  | true =>
   have e:probe.go t (fun _=>h+1) h (f+1) ⟨j,r+1,i,pt,none⟩=probe.go t (fun _=>h+1) h f ⟨j+1,r,i,pt,none⟩:=by
    conv=>lhs;unfold probe.go
    show(match t.slot j with | .empty=>_ | .dummy=>_ | .live _=>_)=_
    rw[slot_of hd,hc,if_pos rfl]
    show(if (h+1==h)=true then _ else _)=_
    rw[if_neg (by simp;omega)]
    rfl
   rw[e,show f+1 - (r+1) - 1=f - r - 1 by omega]
   exact ih f (j+1) (by omega)
theorem B8(m i:Nat):runEnd m i - i<=9:=by
 unfold runEnd
 split<;>omega
theorem AF{t:SetTable}(hd:t.dummies=#[])(h:Int):∀k fuel i pt,10*k<fuel->vn t (qG t.mask i pt k).1 ->
  ∃j,vn t j/\probe.go t (fun _=>h+1) h fuel (EW t.mask i pt)=some (.empty j none):=by
 intro k
 induction k with
 | zero =>
  intro fuel i pt hf he
  obtain⟨f,rfl⟩:∃f,fuel=f+1:=⟨fuel - 1,by omega⟩
  have he':(t.place[below t.place i]?==some i)=false:=he
  refine⟨i,he',?_⟩
  unfold probe.go
  show(match t.slot i with | .empty=>_ | .dummy=>_ | .live _=>_)=_
  rw[slot_of hd,he']
  rfl
 | succ k ih =>
  intro fuel i pt hf he
  have hr:=B8 t.mask i
  rcases C1 hd h i pt (runEnd t.mask i - i) fuel i (by omega) with a | a
  ·exact a
  ·obtain⟨j,h1,h2⟩:=ih (fuel - (runEnd t.mask i - i) - 1) ((i*5+1+pt / 32)%(t.mask+1)) (pt / 32) (by omega) he
   exact⟨j,h1,a.trans h2⟩
theorem zx{t:SetTable}{n:Nat}(T:TK t n)(hn:n<=t.mask)(h:Int):∃j,vn t j/\t.freeSlot h=some (j,false):=by
 obtain⟨g,hg,hgap⟩:=FF T.ris (by rw[T.size];exact hn)
 have hi:bits h%(t.mask+1)<=t.mask:=Nat.le_of_lt_succ (Nat.mod_lt _ (Nat.succ_pos _))
 obtain⟨k,hk,e⟩:=uL T.mask (bits h%(t.mask+1)) (bits h) g hi (yB h) hg
 have he:vn t (qG t.mask (bits h%(t.mask+1)) (bits h) k).1:=by
  unfold vn
  rw[e];simpa using hgap _
 obtain⟨j,h1,h2⟩:=AF T.dum h k (10*turns t.mask) (bits h%(t.mask+1)) (bits h) (by unfold turns;omega) he
 refine⟨j,h1,?_⟩
 unfold SetTable.freeSlot
 have hs:t.probeStart h=EW t.mask (bits h%(t.mask+1)) (bits h):=rfl
 rw[hs]
 unfold SetTable.probe
 rw[h2]
 rfl
theorem TK.fits{t:SetTable}{n:Nat}(T:TK t n)(hn:n<=t.mask):t.fits n=true:=by
 unfold SetTable.fits SetTable.fill
 rw[T.dum,T.size]
 simp;omega
theorem TK.fresh(led:Bool):TK (.fresh 0 0 led) 0:=⟨.inl rfl,rfl,rfl,fun a b h hb=>absurd hb (by simp[SetTable.fresh]),rfl⟩
theorem A8{t:SetTable}{es:Array (Int×Value)}(T:TK t es.size)(hn:es.size+1<=t.mask)(h:Int)(x:Value) :
  ∃p t',p<=es.size/\layNew t es h x=(insertAt es p (h,x),t',false,false)/\TK t' (insertAt es p (h,x)).size/\t'.led=t.led/\t'.mask=t.mask:=by
 obtain⟨j,h1,h2⟩:=zx T (by omega) h
 have hp:below t.place j<=es.size:=by rw[<- T.size];exact(qT T.ris j).1
 have hsz:(insertAt t.place (below t.place j) j).size=es.size+1:=by rw[pK _ _ _ (by rw[T.size];exact hp),T.size]
 have hse:(insertAt es (below t.place j) (h,x)).size=es.size+1:=pK _ _ _ hp
 have hput:t.put j=({t with place:=insertAt t.place (below t.place j) j,dummies:=#[]},below t.place j):=by
  unfold SetTable.put
  rw[T.dum]
  rfl
 have hT:TK {t with place:=insertAt t.place (below t.place j) j,dummies:=#[]} (insertAt es (below t.place j) (h,x)).size:=⟨T.mask,rfl,T.plain,xY T.ris h1,by rw[hse];exact hsz⟩
 have hfit:({t with place:=insertAt t.place (below t.place j) j,dummies:=#[]}:SetTable).fits (es.size+1)=true:=by
  rw[<- hse];exact hT.fits (by rw[hse];exact hn)
 refine⟨below t.place j,{t with place:=insertAt t.place (below t.place j) j,dummies:=#[]},hp,?_,hT,rfl,rfl⟩
 unfold layNew
 rw[h2]
 dsimp only
 rw[hput]
 dsimp only
 rw[hse]
 unfold SetTable.orStandIn
 rw[hfit]
 rfl
theorem zP{m:Nat}{ow:Array (Option Nat)}:∀k fuel i pt,k<fuel->ow[(qG m i pt k).1]?=some none->∃j,layClean.free m ow fuel i pt=some j/\ow[j]?=some none:=by
 intro k
 induction k with
 | zero =>
  intro fuel i pt hf he
  obtain⟨f,rfl⟩:∃f,fuel=f+1:=⟨fuel - 1,by omega⟩
  unfold layClean.free
  cases hc:(List.range (runEnd m i+1 - i)).find? fun k=>(ow.getD (i+k) (some 0)).isNone with
  | some r =>
   refine⟨_,rfl,?_⟩
   have:=List.find?_some hc
   rw[getD_list,Array.getElem?_toList] at this
   cases hx:ow[i+r]? with
   | none=>rw[hx] at this;cases this
   | some y=>rw[hx] at this;cases y with
    | none=>rfl
    | some z=>cases this
  | none =>
   have he':ow[i]?=some none:=he
   have hr:0∈List.range (runEnd m i+1 - i):=List.mem_range.mpr (by unfold runEnd;split<;>omega)
   have:=List.find?_eq_none.mp hc 0 hr
   rw[getD_list,Array.getElem?_toList,Nat.add_zero,he'] at this
   exact absurd rfl this
 | succ k ih =>
  intro fuel i pt hf he
  obtain⟨f,rfl⟩:∃f,fuel=f+1:=⟨fuel - 1,by omega⟩
  unfold layClean.free
  cases hc:(List.range (runEnd m i+1 - i)).find? fun k=>(ow.getD (i+k) (some 0)).isNone with
  | some r =>
   refine⟨_,rfl,?_⟩
   have:=List.find?_some hc
   rw[getD_list,Array.getElem?_toList] at this
   cases hx:ow[i+r]? with
   | none=>rw[hx] at this;cases this
   | some y=>rw[hx] at this;cases y with
    | none=>rfl
    | some z=>cases this
  | none=>exact ih f _ _ (by omega) he
theorem xg:∀(l:List (Option Nat)) (j k:Nat),l[j]?=some none->((l.set j (some k)).filterMap id).Perm (k::l.filterMap id)
 | [],j,k,h=>by simp at h
 | a::l,0,k,h=>by simp at h;subst h;exact .refl _
 | a::l,j+1,k,h=>by
  simp only[List.getElem?_cons_succ] at h
  have:=xg l j k h
  cases a with
  | none=>exact this
  | some z=>exact(this.cons z).trans (.swap _ _ _)
def Own(m:Nat)(ow:Array (Option Nat))(k:Nat):Prop:=ow.size=m+1/\(ow.toList.filterMap id).Perm (List.range k)
theorem lW{m:Nat}{ow:Array (Option Nat)}{k:Nat}(o:Own m ow k)(hk:k<=m):∃g,g<=m/\ow[g]?=some none:=by
 refine Classical.byContradiction fun hn=>?_
 have hall:∀(l:List (Option Nat)),(∀x∈l,x≠none)->(l.filterMap id).length=l.length:=fun l=>by
  induction l with
  | nil=>intro _;rfl
  | cons a l ih =>
   intro h
   cases a with
   | none=>exact absurd rfl (h none (.head _))
   | some z=>exact congrArg (·+1) (ih fun x hx=>h x (.tail _ hx))
 have h1:=hall ow.toList fun x hx e=>by
  subst e
  obtain⟨i,hi⟩:=List.getElem?_of_mem hx
  have hl:i<ow.toList.length:=by
   rcases Nat.lt_or_ge i ow.toList.length with z | z
   ·exact z
   ·rw[List.getElem?_eq_none z] at hi;cases hi
  rw[Array.length_toList,o.1] at hl
  exact hn ⟨i,by omega,by rw[<- Array.getElem?_toList];exact hi⟩
 have h2:=o.2.length_eq
 rw[h1,List.length_range,Array.length_toList,o.1] at h2
 omega
theorem lp{m:Nat}(hm:Au m){ow:Array (Option Nat)}{k:Nat}(o:Own m ow k)(hk:k<=m)(h:Int):∃j,layClean.free m ow (turns m) (bits h%(m+1)) (bits h)=some j/\Own m (ow.setIfInBounds j (some k)) (k+1):=by
 obtain⟨g,hg,he⟩:=lW o hk
 obtain⟨n,hn,e⟩:=uL hm (bits h%(m+1)) (bits h) g (Nat.le_of_lt_succ (Nat.mod_lt _ (Nat.succ_pos _))) (yB h) hg
 obtain⟨j,h1,h2⟩:=zP (m:=m) (ow:=ow) n (turns m) (bits h%(m+1)) (bits h) (by unfold turns;omega) (by rw[e];exact he)
 refine⟨j,h1,by rw[Array.size_setIfInBounds];exact o.1,?_⟩
 rw[Array.toList_setIfInBounds,List.range_succ]
 refine(xg _ j k (by rw[Array.getElem?_toList];exact h2)).trans ?_
 exact(o.2.cons k).trans (List.perm_append_singleton _ _).symm
theorem jf{m:Nat}(hm:Au m):∀(hs:List Int) (ow:Array (Option Nat)) (k:Nat),Own m ow k->k+hs.length<=m ->
  ∃ow',hs.foldl (fun (acc:Option (Array (Option Nat)×Nat)) h=>do
   let (owner,k) <- acc
   let j <- layClean.free m owner (turns m) (bits h%(m+1)) (bits h)
   pure (owner.setIfInBounds j (some k),k+1)) (some (ow,k))=some (ow',k+hs.length)/\Own m ow' (k+hs.length)
 | [],ow,k,o,_=>⟨ow,rfl,o⟩
 | h::r,ow,k,o,hk=>by
  rw[List.length_cons] at hk ⊢
  obtain⟨j,h1,o'⟩:=lp hm o (by omega) h
  obtain⟨ow',h2,h3⟩:=jf hm r _ (k+1) o' (by omega)
  rw[show k+(r.length+1)=k+1+r.length by omega]
  refine⟨ow',?_,h3⟩
  rw[List.foldl_cons]
  dsimp only [bind,Option.bind]
  rw[h1]
  exact h2
theorem xh(ow:Array (Option Nat))(m:Nat)(h:ow.size=m+1):(((List.range (m+1)).filterMap fun j=>(ow.getD j none).map (j,·)).map (·.2))=ow.toList.filterMap id:=by
 rw[List.map_filterMap]
 have e:ow.toList=(List.range (m+1)).map fun j=>ow.getD j none:=by
  refine List.ext_getElem? fun i=>?_
  rw[List.getElem?_map]
  by_cases hi:i<m+1
  ·rw[List.getElem?_range hi,List.getElem?_eq_getElem (by rw[Array.length_toList,h];exact hi)]
   simp[Array.getD,h,hi]
  ·rw[List.getElem?_eq_none (by rw[Array.length_toList,h];omega),List.getElem?_eq_none (by rw[List.length_range];omega)];rfl
 rw[e,List.filterMap_map]
 congr 1
 funext j
 simp[Option.map_map,Function.comp_def]
theorem zM(ow:Array (Option Nat))(m:Nat):(((List.range (m+1)).filterMap fun j=>(ow.getD j none).map (j,·)).map (·.1)).Pairwise (·<·):=by
 have hp:(List.range (m+1)).Pairwise (·<·):=List.pairwise_lt_range
 revert hp
 generalize List.range (m+1)=l
 intro hp
 rw[List.pairwise_map]
 refine List.Pairwise.filterMap _ (fun a a' haa b hb b' hb'=>?_) hp
 obtain⟨x,_,rfl⟩:=Option.map_eq_some_iff.mp hb
 obtain⟨y,_,rfl⟩:=Option.map_eq_some_iff.mp hb'
 exact haa
theorem z_{l:List Nat}(h:l.Pairwise (·<·)):Ba l.toArray:=by
 intro a b hab hb
 have hb':b<l.length:=by simpa using hb
 have:=List.pairwise_iff_getElem.mp h a b (by omega) hb' hab
 simp only[getD_list,List.getElem?_eq_getElem hb',List.getElem?_eq_getElem (show a<l.length by omega)]
 exact this
theorem CI{t:SetTable}{es:Array (Int×Value)}{m w:Nat}(hm:Au m)(hw:sizeAbove w - 1=m)(hpl:t.plain=true)(hn:es.size<=m) :
  ∃es' t',relayAll t es w=(es',t',false)/\TK t' es'.size/\t'.led=t.led/\t'.mask=m/\es'.toList.Perm es.toList:=by
 have o0:Own m (Array.replicate (m+1) none) 0:=⟨by simp,by simp⟩
 obtain⟨ow,h1,o⟩:=jf hm (es.map (·.1)).toList _ 0 o0 (by rw[Nat.zero_add,Array.length_toList,Array.size_map];exact hn)
 rw[Nat.zero_add,Array.length_toList,Array.size_map] at h1 o
 have hc:layClean m (es.map (·.1))=some ow:=by
  unfold layClean
  rw[<- Array.foldl_toList]
  exact congrArg (Option.map (·.1)) h1
 have hl:t.relaid (es.map (·.1)) w=some ({mask:=m,place:=(((List.range (m+1)).filterMap fun j=>(ow.getD j none).map (j,·)).map (·.1)).toArray,dummies:=#[],finger:=t.finger,led:=t.led,moves:=t.movedTo m,plain:=t.plain},(ow.toList.filterMap id).toArray):=by
  unfold relaid laid
  rw[hw,hc,<- xh ow m o.1]
  rfl
 have hfl:(((List.range (m+1)).filterMap fun j=>(ow.getD j none).map (j,·)).map (·.1)).length=es.size:=by
  rw[List.length_map,<- List.length_map (f:=(·.2)),xh ow m o.1,o.2.length_eq,List.length_range]
 have hpm:=relayAll_perm t es w
 have hcov:coversAll (ow.toList.filterMap id).toArray es.size=true:=by
  unfold coversAll
  exact List.isPerm_iff.mpr o.2
 have hes:((ow.toList.filterMap id).toArray.filterMap (es[·]?)).size=es.size:=by
  rw[<- Array.length_toList,Array.toList_filterMap]
  have:=(o.2.filterMap (es[·]?)).length_eq
  rw[this]
  have e2:(List.range es.size).filterMap (es[·]?)=es.toList:=by
   have:(List.range es.size).map (es[·]?)=es.toList.map some:=by
    refine List.ext_getElem? fun i=>?_
    rw[List.getElem?_map,List.getElem?_map]
    by_cases hi:i<es.size
    ·rw[List.getElem?_range hi,Array.getElem?_toList,Array.getElem?_eq_getElem hi];exact congrArg some (Array.getElem?_eq_getElem hi)
    ·rw[List.getElem?_eq_none (by rw[List.length_range];omega),Array.getElem?_toList,Array.getElem?_eq_none (by omega)];rfl
   have e3:=List.filterMap_map (f:=(es[·]?)) (g:=id) (l:=List.range es.size)
   rw[this] at e3
   refine e3.symm.trans ?_
   simp
  rw[e2,Array.length_toList]
 unfold relayAll at hpm ⊢
 rw[hl] at hpm ⊢
 dsimp only at hpm ⊢
 have hT:TK {mask:=m,place:=(((List.range (m+1)).filterMap fun j=>(ow.getD j none).map (j,·)).map (·.1)).toArray,dummies:=#[],finger:=t.finger,led:=t.led,moves:=t.movedTo m,plain:=t.plain} ((ow.toList.filterMap id).toArray.filterMap (es[·]?)).size:=
  ⟨hm,rfl,hpl,z_ (zM ow m),by rw[hes];simpa using hfl⟩
 have hf:=hT.fits (by rw[hes];exact hn)
 rw[hcov,hf,Bool.true_and,if_pos rfl] at hpm ⊢
 exact⟨_,_,rfl,hT,rfl,rfl,hpm⟩
end HW
namespace HW
def oV(σ:List Int)(k:Int):List Int:=if σ.any (·==k) then σ else σ++[k]
def rh(xs:List Int):List Int:=xs.foldl oV []
def yJ(x:Int):List Int->List Int
 | []=>[x]
 | y::r=>if x<=y then x::y::r else y::yJ x r
def pC:List Int->List Int
 | []=>[]
 | x::r=>yJ x (pC r)
def intsOf:LD->Option (List Int)
 | []=>some []
 | .int i::r=>(intsOf r).map (i::·)
 | _::_=>none
def Fk:LD->OD
 | [.lst ds]=>(intsOf ds).bind fun ns=>if ns.length<=120 then some (.lst ((pC (rh ns)).map .int)) else none
 | _=>none
def z9:D->D->OD
 | .tup [x],.int k=>if k=0 then some (.tup []) else if k=1 then some (.tup [x]) else none
 | _,_=>none
def BC:LD->OD
 | [.lst []]=>some .non
 | [.lst [.int a]]=>some (.int a)
 | [.lst [.int a,.int b]]=>some (.int (if b<a then b else a))
 | _=>none
theorem tP(x:Int):∀l:List Int,(yJ x l).Perm (x::l)
 | []=>.refl _
 | y::r=>by
  unfold yJ
  split
  ·exact .refl _
  ·exact((tP x r).cons y).trans (.swap _ _ _)
theorem oB:∀l:List Int,(pC l).Perm l
 | []=>.refl _
 | x::r=>(tP x _).trans ((oB r).cons x)
theorem uw(x:Int):∀l:List Int,l.Pairwise (·<=·)->(yJ x l).Pairwise (·<=·)
 | [],_=>List.pairwise_singleton _ _
 | y::r,h=>by
  unfold yJ
  have h1:∀{z},z∈r->y<=z:=fun hz=>List.rel_of_pairwise_cons h hz
  split
  ·rename_i hx
   refine List.Pairwise.cons (fun z hz=>?_) h
   rcases List.mem_cons.mp hz with e | e
   ·rw[e];exact hx
   ·exact Int.le_trans hx (h1 e)
  ·rename_i hx
   refine List.Pairwise.cons (fun z hz=>?_) (uw x r h.of_cons)
   rcases List.mem_cons.mp ((tP x r).mem_iff.mp hz) with e | e
   ·rw[e];omega
   ·exact h1 e
theorem rG:∀l:List Int,(pC l).Pairwise (·<=·)
 | []=>.nil
 | x::r=>uw x _ (rG r)
theorem ld{ns ns':List Int}(hp:ns'.Perm ns)(hs:ns'.Pairwise (·<=·)):ns'=pC ns:=
 List.Perm.eq_of_pairwise (fun _ _ _ _ a b=>Int.le_antisymm a b) hs (rG ns) (hp.trans (oB ns).symm)
theorem qI:∀(xs σ:List Int),(xs.foldl oV σ).length<=σ.length+xs.length
 | [],σ=>Nat.le_refl _
 | x::r,σ=>by
  refine Nat.le_trans (qI r (oV σ x)) ?_
  have:(oV σ x).length<=σ.length+1:=by
   unfold oV
   split
   ·omega
   ·simp
  rw[List.length_cons];omega
def qx(i:Nat)(s:R->Option Bool)(f:R->Option LD)(w:R->LD->Option Out):R->LD->Option Out:=fun ρ ds=>(s ρ).bind fun b =>
 if b then (f ρ).bind fun es=>if ρ.length=i/\es.length<=1000 then w ρ es else none else w ρ ds
end HW
namespace HW
open PySem
def Cz:Value->Int
 | .int n _=>n
 | _=>0
def qE(b:Bool)(h:Heap)(S:Addr)(ks:List Int):Prop:=
 ∃o es ep t,h.get? S=some o/\o.ExactSet/\o.data=.set es ep t/\(∀e∈es.toList,∃k tk,e=(hashInt k,Value.int k tk))/\TK t es.size/\es.size*5<t.mask*3/\t.led=b/\(es.toList.map fun e=>Cz e.2).Perm ks
theorem qE.at{b:Bool}{h h':Heap}{S:Addr}{ks:List Int}(x:qE b h S ks)(e:∀o,h.get? S=some o->h'.get? S=some o):qE b h' S ks:=let ⟨o,es,ep,t,ho,r⟩:=x;⟨o,es,ep,t,e _ ho,r⟩
theorem wQ(k:Int):∀l:List (Int×Value),(∀e∈l,∃k tk,e=(hashInt k,Value.int k tk))->(l.findIdx? fun e=>Value.isInt k e.2).isSome=(l.map fun e=>Cz e.2).any (·==k)
 | [],_=>rfl
 | e::l,h=>by
  obtain⟨k',tk,rfl⟩:=h e (.head _)
  rw[List.findIdx?_cons,List.map_cons,List.any_cons]
  have e1:Value.isInt k (Value.int k' tk)=(k'==k):=by
   unfold Value.isInt
   simp[BEq.comm]
  show(if Value.isInt k (Value.int k' tk)=true then some 0 else _).isSome=((k'==k)||_)
  rw[e1]
  cases (k'==k) with
  | true=>rfl
  | false =>
   rw[if_neg Bool.false_ne_true,Option.isSome_map,Bool.false_or]
   exact wQ k l fun e he=>h e (.tail _ he)
theorem zC{l l':List Int}(p:l.Perm l')(k:Int):l.any (·==k)=l'.any (·==k):=p.any_eq
section
variable{prog:Program}{w:World}{A:Around}{E:Value->Shared->Prop}{s:Shared}
theorem yG{b:Bool}{S:Addr}{ks:List Int}{k:Int}{tk:Tok}{Q:Bool->Shared->Prop}(hS:qE b s.heap S ks)(hn:ks.length<120)
  (h:∀r h',Heap.SameBut S s.heap h'->qE b h' S (oV ks k)->Q r {s with heap:=h' }) :
  wpAny (model prog w) A (setAddHashed S (.int k tk) ((intKind prog w).hash k)) Q E s:=by
 obtain⟨o,es,ep,t,ho,hex,hd,hel,hT,hro,hled,hp⟩:=hS
 have hlen:es.size=ks.length:=by rw[<- hp.length_eq,List.length_map,Array.length_toList]
 have hf:t.fits es.size=true:=hT.fits (by omega)
 have hkey:=intKind_is prog w k tk
 have hE:ElemsOf (intKind prog w) es.toList:=fun e he=>by
  obtain⟨k',tk',rfl⟩:=hel e he
  exact⟨⟨k',intKind_is prog w k' tk',rfl⟩,rfl⟩
 have hb:es.size<scanBound:=by unfold scanBound;omega
 unfold setAddHashed setAddHashedIn
 refine wpAny_holding (wpAny_bind (wpAny_setState_of ho hd hf ?_))
 dsimp only
 rw[byScan_of (knd:=intKind prog w) rfl hb hE]
 simp only[↓reduceIte]
 unfold setAddByScan
 refine wpAny_bind ?_
 refine wpAny_bind (wpAny_rule ?_)
 refine wpAny_bind (wpAny_setScan_of hkey ho hd hf hE ?_)
 have hany:=wQ k es.toList hel
 rw[zC hp] at hany
 cases hr:List.findIdx? (fun e=>(intKind prog w).is k e.2) es.toList with
 | some j =>
  dsimp only
  have hr':(List.findIdx? (fun e=>Value.isInt k e.2) es.toList)=some j:=hr
  rw[hr'] at hany
  have hst:oV ks k=ks:=by unfold oV;rw[<- hany];rfl
  refine wpAny_pure (wpAny_pure ?_)
  exact h false s.heap (Heap.SameBut.refl S s.heap) ⟨o,es,ep,t,ho,hex,hd,hel,hT,hro,hled,by rw[hst];exact hp⟩
 | none =>
  dsimp only
  have hr':(List.findIdx? (fun e=>Value.isInt k e.2) es.toList)=none:=hr
  rw[hr'] at hany
  have hst:oV ks k=ks++[k]:=by unfold oV;rw[<- hany];rfl
  obtain⟨p,t',hpl,hL,hT',hled',hma⟩:=A8 hT (by have:=hT.mask;unfold Au at this;omega) ((intKind prog w).hash k) (.int k tk)
  have hperm:=SetTable.insertAt_perm es p ((intKind prog w).hash k,Value.int k tk)
  have hsz:(SetTable.insertAt es p ((intKind prog w).hash k,Value.int k tk)).size=es.size+1:=pK _ _ _ hpl
  rw[hL]
  generalize SetTable.insertAt es p ((intKind prog w).hash k,Value.int k tk)=es' at *
  dsimp only
  refine wpAny_bind (wpAny_of_eq (a:=()) rfl ?_)
  rw[if_pos hT'.plain]
  refine wpAny_bind ?_
  rw[hashByValue_scannable 8 (x:=Value.int k tk) rfl]
  refine wpAny_pure ?_
  show wpAny _ _ (storeSet S es' t' >>= fun _=>_) _ _ _
  refine wpAny_bind (wpAny_storeSet_of ho hd ?_ (by rw[sizeLine_eq];omega))
  have hg:(s.heap.update S (Obj.putSet es' t')).get? S=some {o with data:=.set es' (ep+1) t' }:=by
   have:=Heap.get?_update_self (Obj.putSet es' t') ho (by rw[putSet_of es' t' hd];rfl)
   rw[putSet_of es' t' hd] at this;exact this
  have hel1:∀e∈es'.toList,∃k tk,e=(hashInt k,Value.int k tk):=fun e he=>by
   have:=hperm.mem_iff.mp he
   rw[Array.toList_push] at this
   rcases List.mem_append.mp this with q | q
   ·exact hel e q
   ·exact⟨k,tk,List.mem_singleton.mp q⟩
  have hp1:(es'.toList.map fun e=>Cz e.2).Perm (oV ks k):=by
   rw[hst]
   refine(hperm.map _).trans ?_
   rw[Array.toList_push,List.map_append]
   exact hp.append_right _
  show wpAny _ _ (if (!false&&t'.tooFull)=true then _ else _) _ _ _
  have htf:t'.tooFull=decide (es'.size*5 ≥ t'.mask*3):=by
   unfold SetTable.tooFull SetTable.fill
   rw[hT'.dum,hT'.size];rfl
  cases hfu:t'.tooFull with
  | false =>
   refine wpAny_pure (wpAny_pure ?_)
   rw[hfu] at htf
   have hro':=of_decide_eq_false htf.symm
   exact h true _ (Heap.SameBut.update s.heap S (Obj.putSet es' t')) ⟨_,es',ep+1,t',hg,hex,rfl,hel1,hT',by omega,hled'.trans hled,hp1⟩
  | true =>
   rw[hfu] at htf
   have hro':=of_decide_eq_true htf.symm
   rw[hma] at hro'
   obtain⟨m,hm,hw,hb1⟩:∃m,Au m/\SetTable.sizeAbove (SetTable.grown es'.size) - 1=m/\es'.size*5<m*3:=by
    have:=hT.mask
    unfold Au at this
    rcases this with e | e | e | e
    ·have:es'.size=5:=by omega
     rw[this];exact⟨31,.inr (.inl rfl),by decide,by omega⟩
    ·have:es'.size=19:=by omega
     rw[this];exact⟨127,.inr (.inr (.inl rfl)),by decide,by omega⟩
    ·have:es'.size=77:=by omega
     rw[this];exact⟨511,.inr (.inr (.inr rfl)),by decide,by omega⟩
    ·omega
   obtain⟨e2,t2,hR,hT2,hl2,hm2,hp2⟩:=CI (t:=t') (es:=es') hm hw hT'.plain (by omega)
   have hs2:e2.size=es'.size:=by rw[<- Array.length_toList,hp2.length_eq,Array.length_toList]
   rw[if_pos (show(!false&&true)=true from rfl),if_pos (show plainKind (Value.int k tk)=true from rfl),hR]
   dsimp only
   refine wpAny_bind (wpAny_of_eq (a:=()) rfl ?_)
   refine wpAny_bind (wpAny_storeSet_of hg rfl ?_ (by rw[sizeLine_eq];omega))
   refine wpAny_pure (wpAny_pure ?_)
   have hg2:((s.heap.update S (Obj.putSet es' t')).update S (Obj.putSet e2 t2)).get? S=some {o with data:=.set e2 (ep+1+1) t2}:=by
    have:=Heap.get?_update_self (Obj.putSet e2 t2) hg (by rw[putSet_of e2 t2 rfl];rfl)
    rw[putSet_of e2 t2 rfl] at this;exact this
   refine h true _ ((Heap.SameBut.update s.heap S (Obj.putSet es' t')).trans (Heap.SameBut.update _ S (Obj.putSet e2 t2))) ⟨_,e2,ep+1+1,t2,hg2,hex,rfl,fun e he=>hel1 e (hp2.mem_iff.mp he),hT2,by rw[hm2,hs2];exact hb1,(hl2.trans hled').trans hled,(hp2.map _).trans hp1⟩
end
end HW
namespace HW
open PySem PySem.Spec PyProof.Rows
theorem oC:Slot "set_iterator" "__next__" "set_iterator.__next__" :=
 .of (owner:="set_iterator") (n:="__next__") (by rw[typeLookup_type,builtinLookup_eq_fast];kernel_rfl) (by decide +kernel) (by decide +kernel) (by decide +kernel)
  (by first | exact .inl (by decide +kernel) | exact .inr (by decide +kernel)) (by rw[isSubtype_type];kernel_rfl)
theorem sr:entryFor table "set_iterator.__next__" = some Builtin.«set_iterator.__next__»:=entryFor_of_tree (by kernel_rfl)
theorem tw(a:Value):argsOk "set_iterator.__next__" ⟨[a],[]⟩:=by unfold argsOk;kernel_rfl
theorem tB:Slot "set_iterator" "__iter__" "set_iterator.__iter__" :=
 .of (owner:="set_iterator") (n:="__iter__") (by rw[typeLookup_type,builtinLookup_eq_fast];kernel_rfl) (by decide +kernel) (by decide +kernel) (by decide +kernel)
  (by first | exact .inl (by decide +kernel) | exact .inr (by decide +kernel)) (by rw[isSubtype_type];kernel_rfl)
theorem u6:entryFor table "set_iterator.__iter__" = some Builtin.«dict_keyiterator.__iter__»:=
 entryFor_alias (id':="dict_keyiterator.__iter__") (by kernel_rfl) rfl (by decide +kernel) (by kernel_rfl)
theorem wB(a:Value):argsOk "set_iterator.__iter__" ⟨[a],[]⟩:=by unfold argsOk;kernel_rfl
theorem v9:entryFor table "set.__iter__" = some Builtin.«frozenset.__iter__»:=
 entryFor_alias (id':="frozenset.__iter__") (by kernel_rfl) rfl (by decide +kernel) (by kernel_rfl)
def pI(h:Heap)(it S:Addr)(slot i n ep:Nat):Prop:=∃o,h.get? it=some o/\o.cls=.type "set_iterator" /\ o.data=.fields #[.int slot 0,.int i 0,.ref S,.int n 0,.int ep 0]
def pW(h:Heap)(S:Addr)(es:Array (Int×Value))(ep:Nat)(t:SetTable):Prop:=∃o,h.get? S=some o/\o.cls=.type "set" /\ o.data=.set es ep t
def slotAt(t:SetTable):Nat->Nat
 | 0=>0
 | i+1=>t.place.getD i 0+1
def oz(w:World):Bool:=w.params.followText "set-order"
structure sE (w:World) (S:Addr) (es:Array (Int×Value)) (ep:Nat) (t:SetTable) (ord:Array (Int×Value)):Prop where
 fits:t.fits es.size=true
 size:ord.size=es.size
 txt:oz w=true->ord=pickOrder (w.params.setOrder S ep) es
 plc:oz w=false->ord=es/\t.led=true/\(!t.plain&&decide (es.size > 1))=false/\∀i,i<=es.size->SetTable.below t.place (slotAt t i)=i
theorem pI.typeIs{s:Shared}{it S slot i n ep}(x:pI s.heap it S slot i n ep):s.TypeIs (.ref it) "set_iterator":=let ⟨o,ho,hc,_⟩:=x;⟨o,ho,hc⟩
theorem pW.typeIs{s:Shared}{S es ep t}(x:pW s.heap S es ep t):s.TypeIs (.ref S) "set":=let ⟨o,ho,hc,_⟩:=x;⟨o,ho,hc⟩
theorem pW.at{h h':Heap}{S es ep t}(x:pW h S es ep t)(e:∀o,h.get? S=some o->h'.get? S=some o):pW h' S es ep t:=let ⟨o,ho,r⟩:=x;⟨o,e _ ho,r⟩
theorem pI.at{h h':Heap}{it S slot i n ep}(x:pI h it S slot i n ep)(e:∀o,h.get? it=some o->h'.get? it=some o):pI h' it S slot i n ep:=let ⟨o,ho,r⟩:=x;⟨o,e _ ho,r⟩
theorem pW.lt{h:Heap}{S es ep t}(x:pW h S es ep t):S<h.objs.size:=let ⟨_,ho,_⟩:=x;Heap.lt_size ho
section
variable{prog:Program}{w:World}{A:Around}{E:Value->Shared->Prop}{s:Shared}{S:Addr}{es ord:Array (Int×Value)}{ep:Nat}{t:SetTable}
theorem fW{Q:(Array (Int×Value)×Nat×SetTable)->Shared->Prop}(x:pW s.heap S es ep t)(hf:t.fits es.size=true)(h:Q (es,ep,t) s):wpAny (model prog w) A (setState S) Q E s:=by
 obtain⟨o,ho,hc,hd⟩:=x
 exact wpAny_setState_of ho hd hf h
theorem jJ{Q:Array (Int×Value)->Shared->Prop}(x:pW s.heap S es ep t)(hf:t.fits es.size=true)(h:Q es s):wpAny (model prog w) A (setEntries S) Q E s:=by
 obtain⟨o,ho,hc,hd⟩:=x
 exact wpAny_setEntries_of ho hd hf h
theorem mR{Q:Bool->Shared->Prop}(h:Q (oz w) s):wpAny (model prog w) A setsByText Q E s:=by
 unfold setsByText
 exact wpAny_bind (wpAny_askSetting (wpAny_pure h))
theorem my{Q:Value->Shared->Prop}(x:pW s.heap S es ep t)(hO:sE w S es ep t ord)
  (h:Q (.ref s.heap.objs.size) {s with heap:=s.heap.push {cls:=.type "set_iterator",data:=.fields #[.int 0 0,.int 0 0,.ref S,.int es.size 0,.int ep 0]} }):wpAny (model prog w) A (pyIter (.ref S)) Q E s:=by
 refine wpAny_pyIter_slot x.typeIs F.slot_set_iter (wpAny_call_entry F.slot_set_iter x.typeIs v9 ?_ (F.args_set_iter_1 _))
 unfold Builtin.«frozenset.__iter__»
 refine wpAny_bind (m:=Builtin.Frozenset.slot0 "__iter__" ⟨[.ref S],[]⟩) (wpAny_of_eq (a:=S) rfl ?_)
 refine wpAny_bind ?_
 unfold Builtin.Frozenset.sizeOf
 refine wpAny_bind (jJ x hO.fits (wpAny_pure ?_))
 refine wpAny_bind ?_
 have hd:∀{Q':Bool->Shared->Prop},Q' false s->wpAny (model prog w) A.in1 (setDrawn S) Q' E s:=fun hq=>by
  unfold setDrawn
  refine wpAny_bind (fW x hO.fits (wpAny_bind (mR (wpAny_pure ?_))))
  have z:(!oz w&&(!t.plain&&decide (es.size > 1)))=false:=by
   cases hb:oz w with
   | true=>rfl
   | false=>rw[(hO.plc hb).2.2.1];rfl
  show _
  exact z ▸ hq
 refine hd ?_
 dsimp only
 rw[if_neg Bool.false_ne_true]
 refine wpAny_bind (wpAny_pure ?_)
 refine wpAny_bind ?_
 unfold setEpoch
 refine wpAny_bind (fW x hO.fits (wpAny_pure ?_))
 refine wpAny_bind (wpAny_newObj_type (wpAny_pure ⟨_,rfl,"set_iterator",_,⟨_,Heap.get?_push_size _ rfl,rfl⟩,oC.lookup,?_⟩))
 exact h
def nextOf(ord:Array (Int×Value))(i nx:Nat):Option (Value×Nat):=(ord[i]?).map fun e=>(e.2,nx)
theorem gR{slot i:Nat}{Q:Option (Value×Nat)->Shared->Prop}(x:pW s.heap S es ep t)(hO:sE w S es ep t ord)(hs:oz w=false->slot=slotAt t i)(hi:i<=es.size)
  (h:∀nx,(oz w=false->nx=slotAt t (i+1))->Q (nextOf ord i nx) s):wpAny (model prog w) A (setNext S slot i ep) Q E s:=by
 unfold setNext
 refine wpAny_bind (fW x hO.fits ?_)
 dsimp only
 refine wpAny_bind (mR ?_)
 cases hb:oz w with
 | true =>
  rw[if_pos rfl,if_neg (by simp)]
  refine wpAny_bind ?_
  unfold setWalk
  refine wpAny_bind (fW x hO.fits ?_)
  dsimp only
  refine wpAny_bind (mR ?_)
  rw[hb,if_pos rfl]
  refine wpAny_bind (wpAny_askSetting (wpAny_pure (wpAny_pure ?_)))
  have:=h slot (fun z=>by rw[hb] at z;cases z)
  rw[hO.txt hb] at this
  exact this
 | false =>
  obtain⟨e1,e2,e3,e4⟩:=hO.plc hb
  rw[if_neg Bool.false_ne_true]
  show wpAny _ _ (if (!t.plain&&decide (es.size > 1))=true then _ else _) _ _ _
  rw[e3,if_neg Bool.false_ne_true]
  show wpAny _ _ ((if (!t.led&&!es.isEmpty)=true then _ else _) >>= _) _ _ _
  rw[e2,if_neg (by simp)]
  refine wpAny_bind (wpAny_pure (wpAny_pure ?_))
  rw[hs hb,e4 i hi,<- e1]
  have hp:t.place.size=es.size:=by
   have:=hO.fits
   simp only[SetTable.fits,Bool.and_eq_true,beq_iff_eq] at this
   exact this.1
  by_cases hlt:i<es.size
  ·have:=h (t.place.getD i 0+1) (fun _=>rfl)
   unfold nextOf at this
   rw[e1] at this ⊢
   have hpi:i<t.place.size:=by rw[hp];exact hlt
   rw[Array.getElem?_eq_getElem hlt,Array.getElem?_eq_getElem hpi]
   rw[Array.getElem?_eq_getElem hlt] at this
   simp only[Array.getD_eq_getD_getElem?,Array.getElem?_eq_getElem hpi,Option.getD_some,Option.map_some] at this
   exact this
  ·have:=h (slotAt t (i+1)) (fun _=>rfl)
   unfold nextOf at this
   rw[e1] at this ⊢
   rw[Array.getElem?_eq_none (Nat.le_of_not_lt hlt)] at this ⊢
   exact this
theorem mW{it:Addr}{slot i:Nat}{Q:Option Value->Shared->Prop}(hit:pI s.heap it S slot i es.size ep)(hne:S≠it)(x:pW s.heap S es ep t)(hO:sE w S es ep t ord)(hs:oz w=false->slot=slotAt t i)(hi:i<ord.size)
  (hQ:∀nx h',(oz w=false->nx=slotAt t (i+1))->pI h' it S nx (i+1) es.size ep->Heap.ExtBut it s.heap h'->Q (some ord[i].2) {s with heap:=h' }):wpAny (model prog w) A (pyNext (.ref it)) Q E s:=by
 obtain⟨o,ho,hc,hd⟩:=id hit
 unfold pyNext
 refine wpAny_bind (wpAny_attempt (wpAny_callSpecial?_slot (name:=oS "__next__") hit.typeIs oC
  (wpAny_call_entry oC hit.typeIs sr ?_ (tw _))))
 unfold Builtin.«set_iterator.__next__»
 refine wpAny_bind (m:=slotArgs "__next__" 0 ⟨[.ref it],[]⟩) (wpAny_of_eq (a:=(.ref it,[])) rfl ?_)
 refine wpAny_bind (wpAny_fieldsOf ho hd ?_)
 dsimp only
 refine wpAny_bind (jJ x hO.fits ?_)
 rw[if_neg (by simp)]
 have hi':i<=es.size:=by rw[<- hO.size];exact Nat.le_of_lt hi
 show wpAny _ _ (setNext S slot i ep >>= _) _ _ _
 refine wpAny_bind (gR x hO hs hi' fun nx hnx=>?_)
 rw[nextOf,Array.getElem?_eq_getElem hi]
 simp only[Option.map_some]
 refine wpAny_bind (wpAny_setField ho hd (by simp) ?_)
 generalize hH1:s.heap.update it (Obj.mapFields (·.setIfInBounds 0 (rawInt nx)))=H1
 have ho1:∃o1,H1.get? it=some o1/\o1.cls=.type "set_iterator" /\ o1.data=.fields #[.int nx 0,.int i 0,.ref S,.int es.size 0,.int ep 0]:=by
  subst hH1
  exact⟨_,Heap.get?_update_self _ ho (Obj.isFreed_of_fields (Obj.data_mapFields hd _)),(Obj.cls_mapFields ..).trans hc,by rw[Obj.data_mapFields hd];simp[rawInt]⟩
 obtain⟨o1,ho1,hc1,hd1⟩:=ho1
 refine wpAny_bind (wpAny_setField (s:={s with heap:=H1}) ho1 hd1 (by simp) ?_)
 generalize hH2:H1.update it (Obj.mapFields (·.setIfInBounds 1 (rawInt ((i:Int)+1))))=H2
 have ho2:pI H2 it S nx (i+1) es.size ep:=by
  subst hH2
  exact⟨_,Heap.get?_update_self _ ho1 (Obj.isFreed_of_fields (Obj.data_mapFields hd1 _)),(Obj.cls_mapFields ..).trans hc1,by rw[Obj.data_mapFields hd1];simp[rawInt]⟩
 have hx:Heap.ExtBut it s.heap H2:=fun b u hb e=>by
  subst hH2;subst hH1
  exact(Heap.get?_update_other _ _ (Ne.symm hb)).trans ((Heap.get?_update_other _ _ (Ne.symm hb)).trans e)
 exact wpAny_pure ⟨_,rfl,wpAny_pure (hQ nx H2 hnx ho2 hx)⟩
theorem nw{it:Addr}{slot i:Nat}{Q:Option Value->Shared->Prop}(hh:A.handled=none)(hit:pI s.heap it S slot i es.size ep)(hne:S≠it)(x:pW s.heap S es ep t)(hO:sE w S es ep t ord)(hs:oz w=false->slot=slotAt t i)(hi:i=ord.size)
  (hQ:∀h',Heap.ExtBut it s.heap h'->Q none {s with heap:=h' }):wpAny (model prog w) A (pyNext (.ref it)) Q E s:=by
 obtain⟨o,ho,hc,hd⟩:=id hit
 unfold pyNext
 refine wpAny_bind (wpAny_attempt (wpAny_callSpecial?_slot (name:=oS "__next__") hit.typeIs oC
  (wpAny_call_entry oC hit.typeIs sr ?_ (tw _))))
 unfold Builtin.«set_iterator.__next__»
 refine wpAny_bind (m:=slotArgs "__next__" 0 ⟨[.ref it],[]⟩) (wpAny_of_eq (a:=(.ref it,[])) rfl ?_)
 refine wpAny_bind (wpAny_fieldsOf ho hd ?_)
 dsimp only
 refine wpAny_bind (jJ x hO.fits ?_)
 rw[if_neg (by simp)]
 have hi':i<=es.size:=by rw[<- hO.size,hi];exact Nat.le_refl _
 show wpAny _ _ (setNext S slot i ep >>= _) _ _ _
 refine wpAny_bind (gR x hO hs hi' fun nx hnx=>?_)
 rw[nextOf,Array.getElem?_eq_none (by rw[hi];exact Nat.le_refl _)]
 simp only[Option.map_none]
 refine wpAny_bind (wpAny_setField ho hd (by simp) ?_)
 show wpAny _ _ (newExc (.type "StopIteration") [] >>= _) _ _ _
 refine wpAny_bind ?_
 simp only[newExc,newTuple]
 refine wpAny_bind (wpAny_newObj_type ?_ (by size_fits))
 refine wpAny_bind (m:=firstArgMember _ _) (wpAny_of_eq (a:=Value.none) (by first | rfl | (simp only[firstArgMember];rfl)) ?_)
 refine wpAny_newObj_type ?_ (by size_fits)
 simp only[raiseNew]
 refine wpAny_bind (wpAny_handled ?_)
 rw[show A.in1.handled=none from hh]
 refine wpAny_bind (wpAny_pure (wpAny_throw ?_))
 refine wpAny_bind (wpAny_isInstance (T:="StopIteration") (b:=true) ⟨_,Heap.get?_push_size _ rfl,rfl⟩ isSubtype_stop ?_)
 exact wpAny_pure (hQ _ (((Heap.SameBut.update ..).extBut.push _).push _))
theorem y7(hh:A.handled=none)(I:Addr)(hne:S≠I)(hO:sE w S es ep t ord) :
  Walks prog w A I [I,S] [I] ord.size (fun i v=>∃e,ord[i]?=some e/\v=e.2) (fun i h=>(∃slot,pI h I S slot i es.size ep/\(oz w=false->slot=slotAt t i))/\pW h S es ep t) where
 sub:=fun b hb=>by simp at hb;simp[hb]
 frame:=fun _ _ _ st hk=>⟨let ⟨sl,a,b⟩:=st.1;⟨sl,a.at fun o e=>hk I (by simp) o e,b⟩,st.2.at fun o e=>hk S (by simp) o e⟩
 item:=fun i s Q E hi st hQ=>by
  obtain⟨⟨sl,a,b⟩,c⟩:=st
  refine mW a hne c hO b hi fun nx h' hnx hit' hs'=>?_
  exact hQ _ h' s.toks ⟨ord[i],by simp[hi],rfl⟩ ⟨⟨nx,hit',hnx⟩,c.at fun o e=>hs' S o hne e⟩ fun b o hb e=>hs' b o (fun h=>hb (by simp[h])) e
 done:=fun s Q E st hQ=>by
  obtain⟨⟨sl,a,b⟩,c⟩:=st
  exact nw hh a hne c hO b rfl fun h' he'=>hQ h' s.toks fun b o hb e=>he' b o (fun h=>hb (by simp[h])) e
 self:=fun _ s Q E st hQ=>by
  obtain⟨⟨sl,a,b⟩,c⟩:=st
  refine wpAny_pyIter_slot a.typeIs tB (wpAny_call_entry tB a.typeIs u6 ?_ (wB _))
  show wpAny _ _ (ret (.ref I)) _ _ s
  exact wpAny_pure ⟨_,rfl,"set_iterator",_,a.typeIs,oC.lookup,hQ⟩
theorem Aq{Q:Bool->Shared->Prop}(hT:s.TypeIs (.ref S) "set")(h:Q false s):wpAny (model prog w) A (Builtin.List.listLengthHint (.ref S)) Q E s:=by
 unfold Builtin.List.listLengthHint
 refine wpAny_bind (wpAny_specialOf hT PySem.F.slot_set_len.lookup ?_)
 generalize hid:("set.__len__" : String)=id0
 wp_delta
 rw[show splitId id0=some ("set","__len__") from by subst hid;decide +kernel]
 subst hid
 refine wpAny_bind (wpAny_isInstance (T:="set") (b:=true) hT (by rw[isSubtype_type];kernel_rfl) ?_)
 refine wpAny_ite_split (fun hab=>absurd hab (by decide)) (fun _=>?_)
 refine wpAny_ite_split (fun _=>?_) (fun hab=>absurd (by decide +kernel) hab)
 refine wpAny_bind (wpAny_typeOf hT ?_)
 exact wpAny_pure h
theorem lU(hO:sE w S es ep t ord):W.KdlSrc prog w "set" S S ord.size (fun i v=>∃e,ord[i]?=some e/\v=e.2) (fun h=>pW h S es ep t) where
 type:=fun _ hm=>hm.typeIs
 there:=fun _ hm=>⟨hm.lt,hm.lt⟩
 keep:=fun _ _ hm hk=>hm.at fun o e=>hk S (.inl rfl) o e
 notList:=by decide
 notTuple:=by decide
 hint:=fun _ _ _ _ hm hq=>Aq hm.typeIs hq
 iter:=fun _ _ hh hm=>⟨_,_,(fun _ _ hq=>my hm hO hq),y7 hh _ (Nat.ne_of_lt hm.lt) hO,⟨⟨0,⟨_,Heap.get?_push_size _ rfl,rfl,rfl⟩,fun _=>rfl⟩,hm.at fun o e=>Heap.get?_push_of_some _ e⟩⟩
end
end HW
namespace HW
open PySem PyProof.Rows
def kn(p:Keyed):Int:=numOf p.1
def vY(xs:List Keyed):Prop:=∀p∈xs,∃n t,p.1=.int n t
def Be:Bool->Keyed->Array Keyed->Nat->Nat->Nat->StateT SortSt Sem (Option Nat):=sortPriv% PySem.Builtin.gallop
section
variable{prog:Program}{w:World}{A:Around}{E:Value->Shared->Prop}{s:Shared}
theorem xn{st:SortSt}{x y:Keyed}{Q:Option Bool->SortSt->Prop}(hk:kindOf st=oneType')(hx:∃n t,x.1=.int n t)(hy:∃n t,y.1=.int n t)(h:Q (some (decide (kn x<kn y))) st):wpS (model prog w) A E s (lt' x y) Q st:=by
 obtain⟨n,t,e1⟩:=hx
 obtain⟨m,u,e2⟩:=hy
 rw[lt'_eq]
 refine wpS_bind (wpS_get ?_)
 rw[hk,keyLt'_oneType,e1,e2]
 refine wpS_bind (wpS_lift (wpAny_attempt (oneLt_int ⟨rfl,?_⟩)))
 have e:decide (kn x<kn y)=decide (n<m):=by unfold kn;rw[e1,e2];rfl
 rw[e] at h
 exact wpS_pure h
theorem nS{st:SortSt}{arr:Array Keyed}{i:Nat}{x:Keyed}{Q:Keyed->SortSt->Prop}(h1:arr[i]?=some x)(h:Q x st):wpS (model prog w) A E s (elem' arr i) Q st:=by
 rw[elem'_eq,h1]
 exact wpS_pure h
def ud(left:Bool)(key x:Keyed):Bool:=if left then decide (kn x<kn key) else !decide (kn key<kn x)
theorem CC{st:SortSt}{left:Bool}{key x:Keyed}{arr:Array Keyed}{i:Nat}{Q:Option Bool->SortSt->Prop}(hk:kindOf st=oneType')(h1:arr[i]?=some x)(hx:∃n t,x.1=.int n t)(hy:∃n t,key.1=.int n t)(h:Q (some (ud left key x)) st) :
  wpS (model prog w) A E s (elem' arr i >>= fun x=>if left then lt' x key else lt' key x >>= fun r=>pure (r.map fun b=>!b)) Q st:=by
 refine wpS_bind (nS h1 ?_)
 cases left with
 | true=>exact xn hk hx hy h
 | false =>
  rw[if_neg Bool.false_ne_true]
  exact wpS_bind (xn hk hy hx (wpS_pure h))
structure z8 (arr:Array Keyed) (base n:Nat):Prop where
 at':∀i,i<n->∃x,arr[base+i]?=some x/\∃m t,x.1=.int m t
 le:∀i j x y,i<=j->j<n->arr[base+i]?=some x->arr[base+j]?=some y->kn x<=kn y
theorem p_{st:SortSt}{left:Bool}{key:Keyed}{arr:Array Keyed}{base n hint:Nat}{Q:Option Nat->SortSt->Prop}(hk:kindOf st=oneType')(hy:∃n t,key.1=.int n t)(hp:z8 arr base n)(hh:hint<n)
  (h:∀r,r<=n->(∀i x,i<r->arr[base+i]?=some x->ud left key x=true)->(∀i x,r<=i->i<n->arr[base+i]?=some x->ud left key x=false)->Q (some r) st) :
  wpS (model prog w) A E s (Be left key arr base n hint) Q st:=by
 have mono:∀i j x y,i<=j->j<n->arr[base+i]?=some x->arr[base+j]?=some y->ud left key y=true->ud left key x=true:=fun i j x y hij hj h1 h2 hb=>by
  have:=hp.le i j x y hij hj h1 h2
  unfold ud at hb ⊢
  cases left with
  | true =>
   rw[if_pos rfl] at hb ⊢
   have:=of_decide_eq_true hb
   exact decide_eq_true (by omega)
  | false =>
   rw[if_neg Bool.false_ne_true,Bool.not_eq_true',decide_eq_false_iff_not] at hb ⊢
   omega
 let B:Nat->Prop:=fun i=>∃x,arr[base+i]?=some x/\ud left key x=true
 let N:Nat->Prop:=fun i=>∃x,arr[base+i]?=some x/\ud left key x=false
 have bdown:∀i j,i<=j->j<n->B j->B i:=fun i j hij hj ⟨y,h1,h2⟩=>by
  obtain⟨x,hx,_⟩:=hp.at' i (by omega)
  exact⟨x,hx,mono i j x y hij hj hx h1 h2⟩
 have nup:∀i j,i<=j->j<n->N i->N j:=fun i j hij hj ⟨x,h1,h2⟩=>by
  obtain⟨y,hy',_⟩:=hp.at' j hj
  refine⟨y,hy',?_⟩
  cases hb:ud left key y with
  | false=>rfl
  | true=>rw[mono i j x y hij hj h1 hy' hb] at h2;cases h2
 have bn:∀i,B i->¬ N i:=fun i ⟨x,h1,h2⟩ ⟨y,h3,h4⟩=>by rw[h1] at h3;cases h3;rw[h2] at h4;cases h4
 have fin:∀r,r<=n->(∀i,i<r->B i)->(∀i,r<=i->i<n->N i)->Q (some r) st:=fun r hr hb hn=>h r hr (fun i x hi hx=>by
  obtain⟨y,h1,h2⟩:=hb i hi
  rw[hx] at h1;cases h1;exact h2) (fun i x hi hin hx=>by
  obtain⟨y,h1,h2⟩:=hn i hi hin
  rw[hx] at h1;cases h1;exact h2)
 have ask:∀(i:Nat) (Q':Option Bool->SortSt->Prop),i<n->(B i->Q' (some true) st)->(N i->Q' (some false) st)->wpS (model prog w) A E s (elem' arr (base+i) >>= fun x=>if left then lt' x key else lt' key x >>= fun r=>pure (r.map fun b=>!b)) Q' st:=fun i Q' hi h1 h2=>by
  obtain⟨x,hx,hxi⟩:=hp.at' i hi
  refine CC hk hx hxi hy ?_
  cases hb:ud left key x with
  | true=>exact h1 ⟨x,hx,hb⟩
  | false=>exact h2 ⟨x,hx,hb⟩
 have last:∀(f:Nat->Option (Option Nat)×Nat×Nat->StateT SortSt Sem (ForInStep (Option (Option Nat)×Nat×Nat))) (lo hi:Nat),(∀x l Q',Q' (ForInStep.done (none,l,l)) st->wpS (model prog w) A E s (f x (none,l,l)) Q' st) ->
   (∀x l r Q',l<r->r<=n->(B (l+(r - l) / 2)->Q' (ForInStep.yield (none,l+(r - l) / 2+1,r)) st)->(N (l+(r - l) / 2)->Q' (ForInStep.yield (none,l,l+(r - l) / 2)) st)->wpS (model prog w) A E s (f x (none,l,r)) Q' st) ->
   lo<=hi->hi<=n->(∀i,i<lo->B i)->(∀i,hi<=i->i<n->N i) ->
   wpS (model prog w) A E s (forIn [0:n] (none,lo,hi) f) (fun c st'=>st'=st/\∃l,c=(none,l,l)/\l<=n/\(∀i,i<l->B i)/\(∀i,l<=i->i<n->N i)) st:=fun f lo hi f1 f2 h1 h2 h3 h4=>by
  refine wpS_forRange (I:=fun x c st'=>st'=st/\∃l r,c=(none,l,r)/\l<=r/\r<=n/\r - l<=n - x/\(∀i,i<l->B i)/\(∀i,r<=i->i<n->N i)) ?step ?fin ⟨rfl,lo,hi,rfl,h1,h2,by omega,h3,h4⟩
  case fin =>
   rintro c st' ⟨rfl,l,r,rfl,a1,a2,a3,a4,a5⟩
   have:l=r:=by omega
   subst this
   exact⟨rfl,l,rfl,a2,a4,a5⟩
  case step =>
   rintro x c st' _ hx ⟨rfl,l,r,rfl,a1,a2,a3,a4,a5⟩
   by_cases hge:l=r
   ·subst hge
    exact f1 x l _ ⟨rfl,l,rfl,a2,a4,a5⟩
   ·refine f2 x l r _ (by omega) a2 (fun hb=>?_) fun hn=>?_
    ·exact⟨rfl,_,_,rfl,by omega,by omega,by omega,fun i hi=>bdown i _ (by omega) (by omega) hb,a5⟩
    ·exact⟨rfl,_,_,rfl,by omega,by omega,by omega,a4,fun i hi hin=>nup _ i hi hin hn⟩
 refine wpS_bind (ask hint _ hh (fun hb=>?_) fun hn=>?_)
 ·dsimp only
  rw[if_pos rfl]
  refine wpS_bind (wpS_mono (wpS_forRange (I:=fun x c st'=>st'=st/\∃l o,c=(none,l,o)/\x+1<=o/\l<o/\hint+l<n/\B (hint+l))
   (Q:=fun c st'=>st'=st/\∃l o,c=(none,l,o)/\l<o/\hint+l<n/\B (hint+l)/\(n - hint<=o\/(hint+o<n/\N (hint+o)))) ?step ?fin ⟨rfl,0,1,rfl,by omega,by omega,hh,hb⟩) ?post)
  case fin =>
   rintro c st' ⟨rfl,l,o,rfl,a1,a2,a3,a4⟩
   exact⟨rfl,l,o,rfl,a2,a3,a4,.inl (by omega)⟩
  case step =>
   rintro x c st' _ hx ⟨rfl,l,o,rfl,a1,a2,a3,a4⟩
   dsimp only
   by_cases hge:o ≥ n - hint
   ·rw[if_pos hge]
    exact wpS_pure ⟨rfl,l,o,rfl,a2,a3,a4,.inl hge⟩
   ·rw[if_neg hge]
    refine wpS_bind (ask _ _ (by omega) (fun hb=>?_) fun hn=>?_)
    ·exact wpS_pure ⟨rfl,o,2*o+1,rfl,by omega,by omega,by omega,hb⟩
    ·exact wpS_pure ⟨rfl,l,o,rfl,a2,a3,a4,.inr ⟨by omega,hn⟩⟩
  case post =>
   rintro c st' ⟨rfl,l,o,rfl,a2,a3,a4,a5⟩
   refine wpS_bind (wpS_mono (last _ (hint+l+1) (hint+min o (n - hint)) (fun x l Q' hq=>?_) (fun x l r Q' hl hr q1 q2=>?_) (by omega) (by omega) (fun i hi=>bdown i (hint+l) (by omega) a3 a4) (fun i hi hin=>?_)) ?_)
   ·dsimp only
    rw[if_pos (Nat.le_refl _)]
    exact wpS_pure hq
   ·dsimp only
    rw[if_neg (by omega)]
    exact wpS_bind (ask _ _ (by omega) (fun hb=>wpS_pure (q1 hb)) fun hn=>wpS_pure (q2 hn))
   ·rcases a5 with a5 | ⟨a5,a6⟩
    ·omega
    ·exact nup (hint+o) i (by omega) hin a6
   ·rintro c st' ⟨rfl,l,rfl,b1,b2,b3⟩
    exact wpS_pure (fin l b1 b2 b3)
 ·dsimp only
  rw[if_neg Bool.false_ne_true]
  refine wpS_bind (wpS_mono (wpS_forRange (I:=fun x c st'=>st'=st/\∃l o,c=(none,l,o)/\x+1<=o/\l<o/\l<=hint/\N (hint - l))
   (Q:=fun c st'=>st'=st/\∃l o,c=(none,l,o)/\l<o/\l<=hint/\N (hint - l)/\(hint+1<=o\/(o<=hint/\B (hint - o)))) ?step ?fin ⟨rfl,0,1,rfl,by omega,by omega,by omega,hn⟩) ?post)
  case fin =>
   rintro c st' ⟨rfl,l,o,rfl,a1,a2,a3,a4⟩
   exact⟨rfl,l,o,rfl,a2,a3,a4,.inl (by omega)⟩
  case step =>
   rintro x c st' _ hx ⟨rfl,l,o,rfl,a1,a2,a3,a4⟩
   dsimp only
   by_cases hge:o ≥ hint+1
   ·rw[if_pos hge]
    exact wpS_pure ⟨rfl,l,o,rfl,a2,a3,a4,.inl hge⟩
   ·rw[if_neg hge]
    refine wpS_bind (ask _ _ (by omega) (fun hb=>?_) fun hn=>?_)
    ·exact wpS_pure ⟨rfl,l,o,rfl,a2,a3,a4,.inr ⟨by omega,hb⟩⟩
    ·exact wpS_pure ⟨rfl,o,2*o+1,rfl,by omega,by omega,by omega,hn⟩
  case post =>
   rintro c st' ⟨rfl,l,o,rfl,a2,a3,a4,a5⟩
   refine wpS_bind (wpS_mono (last _ (hint+1 - min o (hint+1)) (hint - l) (fun x l Q' hq=>?_) (fun x l r Q' hl hr q1 q2=>?_) (by omega) (by omega) (fun i hi=>?_) (fun i hi hin=>nup (hint - l) i hi hin a4)) ?_)
   ·dsimp only
    rw[if_pos (Nat.le_refl _)]
    exact wpS_pure hq
   ·dsimp only
    rw[if_neg (by omega)]
    exact wpS_bind (ask _ _ (by omega) (fun hb=>wpS_pure (q1 hb)) fun hn=>wpS_pure (q2 hn))
   ·rcases a5 with a5 | ⟨a5,a6⟩
    ·omega
    ·exact bdown i (hint - o) (by omega) (by omega) a6
   ·rintro c st' ⟨rfl,l,rfl,b1,b2,b3⟩
    exact wpS_pure (fin l b1 b2 b3)
end
def Pw(l:List Keyed):Prop:=l.Pairwise fun x y=>kn x<=kn y
def Up(l m:List Keyed):Prop:=∀x∈l,∀y∈m,kn x<=kn y
theorem Pw.app{l m:List Keyed}(h1:Pw l)(h2:Pw m)(h:Up l m):Pw (l++m):=List.pairwise_append.mpr ⟨h1,h2,h⟩
structure Mg (T out X Y:List Keyed):Prop where
 pw:Pw out
 px:Pw X
 py:Pw Y
 ux:Up out X
 uy:Up out Y
 pm:(out++X++Y).Perm T
theorem Mg.takeY{T out X Y1 Y2:List Keyed}(h:Mg T out X (Y1++Y2))(hu:Up Y1 X):Mg T (out++Y1) X Y2:=by
 obtain⟨p1,p2,p12⟩:=List.pairwise_append.mp h.py
 refine⟨h.pw.app p1 fun x hx y hy=>h.uy x hx y (List.mem_append_left _ hy),h.px,p2,fun x hx y hy=>?_,fun x hx y hy=>?_,?_⟩
 ·rcases List.mem_append.mp hx with z | z
  ·exact h.ux x z y hy
  ·exact hu x z y hy
 ·rcases List.mem_append.mp hx with z | z
  ·exact h.uy x z y (List.mem_append_right _ hy)
  ·exact p12 x z y hy
 ·refine List.Perm.trans ?_ h.pm
  rw[List.append_assoc,List.append_assoc,List.append_assoc]
  refine List.Perm.append_left out ?_
  rw[<- List.append_assoc,<- List.append_assoc]
  exact List.Perm.append_right Y2 List.perm_append_comm
theorem Mg.takeX{T out X1 X2 Y:List Keyed}(h:Mg T out (X1++X2) Y)(hu:Up X1 Y):Mg T (out++X1) X2 Y:=by
 obtain⟨p1,p2,p12⟩:=List.pairwise_append.mp h.px
 refine⟨h.pw.app p1 fun x hx y hy=>h.ux x hx y (List.mem_append_left _ hy),p2,h.py,fun x hx y hy=>?_,fun x hx y hy=>?_,?_⟩
 ·rcases List.mem_append.mp hx with z | z
  ·exact h.ux x z y (List.mem_append_right _ hy)
  ·exact p12 x z y hy
 ·rcases List.mem_append.mp hx with z | z
  ·exact h.uy x z y hy
  ·exact hu x z y hy
 ·have:=h.pm
  rw[<- List.append_assoc out X1 X2] at this
  exact this
def qz(T r:List Keyed):Prop:=Pw r/\r.Perm T
theorem Mg.endX{T out X:List Keyed}(h:Mg T out X []):qz T (out++X):=⟨h.pw.app h.px h.ux,by have:=h.pm;rw[List.append_nil] at this;exact this⟩
theorem Mg.endY{T out Y:List Keyed}(h:Mg T out [] Y):qz T (out++Y):=⟨h.pw.app h.py h.uy,by have:=h.pm;rw[List.append_nil] at this;exact this⟩
theorem Mg.lastX{T out Y:List Keyed}{x:Keyed}(h:Mg T out [x] Y)(hu:Up Y [x]):qz T (out++Y++[x]):=by
 have h2:Mg T (out++Y) [x] []:=Mg.takeY (Y2:=[]) (by rw[List.append_nil];exact h) hu
 exact h2.endX
def zm:Array Keyed->Array Keyed->StateT SortSt Sem (Array Keyed):=sortPriv% PySem.Builtin.mergeLo
abbrev CQ(st:SortSt)(g:Nat):SortSt:=SortSt.mk' (kindOf st) (arrOf st) (pendingOf st) g (failedOf st)
structure w9 (st st':SortSt):Prop where
 kind:kindOf st'=kindOf st
 arr:arrOf st'=arrOf st
 pend:pendingOf st'=pendingOf st
 failed:failedOf st'=failedOf st
theorem w9.gal{st st':SortSt}(h:w9 st st')(g:Nat):w9 st (CQ st' g):=⟨h.kind,h.arr,h.pend,h.failed⟩
theorem ot{a:Array Keyed}{i:Nat}(h:i<a.size):∃x,a[i]?=some x/\a.toList.drop i=x::a.toList.drop (i+1)/\x∈a.toList:=by
 have h':i<a.toList.length:=by rw[Array.length_toList];exact h
 refine⟨a[i],Array.getElem?_eq_getElem h,?_,by simp⟩
 rw[List.drop_eq_getElem_cons h']
 simp
theorem z8.of{a:Array Keyed}(hp:Pw a.toList)(hi:vY a.toList)(base:Nat):z8 a base (a.size - base):=by
 refine⟨fun i h=>?_,fun i j x y hij hj h1 h2=>?_⟩
 ·obtain⟨x,h1,_,h3⟩:=ot (a:=a) (i:=base+i) (by omega)
  exact⟨x,h1,hi x h3⟩
 ·obtain⟨a1,rfl⟩:=Array.getElem?_eq_some_iff.mp h1
  obtain⟨a2,rfl⟩:=Array.getElem?_eq_some_iff.mp h2
  by_cases z:i=j
  ·subst z;exact Int.le_refl _
  ·have:=List.pairwise_iff_getElem.mp hp (base+i) (base+j) (by rw[Array.length_toList];exact a1) (by rw[Array.length_toList];exact a2) (by omega)
   simpa using this
theorem ul{a:Array Keyed}{i k:Nat}{x:Keyed}(h:x∈(a.toList.drop i).take k):∃j,j<k/\a[i+j]?=some x:=by
 obtain⟨j,hj⟩:=List.getElem?_of_mem h
 have hk:j<k:=by have:=(List.getElem?_eq_some_iff.mp hj).1;rw[List.length_take] at this;omega
 rw[List.getElem?_take_of_lt hk,List.getElem?_drop] at hj
 exact⟨j,hk,by rw[<- Array.getElem?_toList];exact hj⟩
theorem wk{a:Array Keyed}{i k:Nat}{x:Keyed}(h:x∈a.toList.drop (i+k)):∃j,k<=j/\j<a.size - i/\a[i+j]?=some x:=by
 obtain⟨j,hj⟩:=List.getElem?_of_mem h
 rw[List.getElem?_drop] at hj
 have hl:=(List.getElem?_eq_some_iff.mp hj).1
 rw[Array.length_toList] at hl
 exact⟨k+j,by omega,by omega,by rw[<- Array.getElem?_toList,<- Nat.add_assoc];exact hj⟩
theorem wy(l:List Keyed)(i k:Nat):l.drop i=(l.drop i).take k++l.drop (i+k):=by
 rw[<- List.drop_drop,List.take_append_drop]
theorem sU(a:Array Keyed)(i k:Nat):(a.extract i (i+k)).toList=(a.toList.drop i).take k:=by
 rw[Array.toList_extract,List.extract_eq_take_drop];congr 1;omega
theorem wK(out a:Array Keyed)(i:Nat):out++a.extract i (i+0)=out:=by
 apply Array.ext'
 rw[Array.toList_append,sU,List.take_zero,List.append_nil]
theorem rR(a:Array Keyed)(i:Nat):(a.extract i a.size).toList=a.toList.drop i:=by
 rw[Array.toList_extract,List.extract_eq_take_drop]
 exact List.take_of_length_le (by rw[List.length_drop,Array.length_toList];exact Nat.le_refl _)
section
variable{prog:Program}{w:World}{A:Around}{E:Value->Shared->Prop}{s:Shared}
structure Mi (T:List Keyed) (a b out:Array Keyed) (ia ib:Nat):Prop where
 m:Mg T out.toList (a.toList.drop ia) (b.toList.drop ib)
 la:ia+1<a.size
 lb:ib<b.size
theorem ww{α:Type}{c:Prop}[Decidable c]{x y:StateT SortSt Sem α}{Q:α->SortSt->Prop}{st:SortSt}(h1:wpS (model prog w) A E s x Q st)(h2:wpS (model prog w) A E s y Q st):wpS (model prog w) A E s (if c then x else y) Q st:=by
 split
 ·exact h1
 ·exact h2
theorem xD{st:SortSt}{a b:Array Keyed}{Q:Array Keyed->SortSt->Prop}(hk:kindOf st=oneType')(ha:Pw a.toList)(hb:Pw b.toList)(ia:vY a.toList)(ib:vY b.toList)(a1:0<a.size)(b1:0<b.size)
  (h0:∀y,b[0]?=some y->Up [y] a.toList) (hl:∀x,a[a.size - 1]?=some x->Up b.toList [x])
  (h:∀r st',w9 st st'->qz (a.toList++b.toList) r.toList->Q r st'):wpS (model prog w) A E s (zm a b) Q st:=by
 have lastD:∀i,i+1=a.size->∃x,a.toList.drop i=[x]/\Up b.toList [x]:=fun i hi=>by
  obtain⟨x,e1,e2,_⟩:=ot (a:=a) (i:=i) (by omega)
  refine⟨x,?_,hl x (by rw[<- e1];congr 1;omega)⟩
  rw[e2,List.drop_eq_nil_of_le (by rw[Array.length_toList];omega)]
 have doneB:∀(out:Array Keyed) (i j:Nat),Mg (a.toList++b.toList) out.toList (a.toList.drop i) (b.toList.drop j)->j=b.size->qz (a.toList++b.toList) (out++a.extract i a.size++b.extract j b.size).toList:=fun out i j m hj=>by
  rw[Array.toList_append,Array.toList_append,rR,rR]
  have e:b.toList.drop j=[]:=List.drop_eq_nil_of_le (by rw[Array.length_toList];omega)
  rw[e] at m ⊢
  rw[List.append_nil]
  exact m.endX
 have doneA:∀(out:Array Keyed) (i j:Nat),Mg (a.toList++b.toList) out.toList (a.toList.drop i) (b.toList.drop j)->i=a.size->qz (a.toList++b.toList) (out++a.extract i a.size++b.extract j b.size).toList:=fun out i j m hj=>by
  rw[Array.toList_append,Array.toList_append,rR,rR]
  have e:a.toList.drop i=[]:=List.drop_eq_nil_of_le (by rw[Array.length_toList];omega)
  rw[e] at m ⊢
  rw[List.append_nil]
  exact m.endY
 have lastA:∀(out:Array Keyed) (i j:Nat),Mg (a.toList++b.toList) out.toList (a.toList.drop i) (b.toList.drop j)->i+1=a.size->qz (a.toList++b.toList) (out++b.extract j b.size++a.extract i a.size).toList:=fun out i j m hi=>by
  obtain⟨x,e,hu⟩:=lastD i hi
  rw[Array.toList_append,Array.toList_append,rR,rR,e]
  rw[e] at m
  exact m.lastX fun y hy=>hu y (List.mem_of_mem_drop hy)
 have pushB:∀(out:Array Keyed) (i j:Nat) (y:Keyed),Mg (a.toList++b.toList) out.toList (a.toList.drop i) (b.toList.drop j)->b[j]?=some y->Up [y] (a.toList.drop i)->Mg (a.toList++b.toList) (out.push y).toList (a.toList.drop i) (b.toList.drop (j+1)):=fun out i j y m hy hu=>by
  obtain⟨y',e1,e2,_⟩:=ot (a:=b) (i:=j) (Array.getElem?_eq_some_iff.mp hy).1
  rw[hy] at e1;cases e1
  rw[e2] at m
  rw[Array.toList_push]
  exact Mg.takeY (Y1:=[y]) m hu
 have pushA:∀(out:Array Keyed) (i j:Nat) (x:Keyed),Mg (a.toList++b.toList) out.toList (a.toList.drop i) (b.toList.drop j)->a[i]?=some x->Up [x] (b.toList.drop j)->Mg (a.toList++b.toList) (out.push x).toList (a.toList.drop (i+1)) (b.toList.drop j):=fun out i j x m hx hu=>by
  obtain⟨x',e1,e2,_⟩:=ot (a:=a) (i:=i) (Array.getElem?_eq_some_iff.mp hx).1
  rw[hx] at e1;cases e1
  rw[e2] at m
  rw[Array.toList_push]
  exact Mg.takeX (X1:=[x]) m hu
 have headA:∀(i:Nat) (x:Keyed),a[i]?=some x->Up [x] (a.toList.drop i):=fun i x hx y hy z hz=>by
  rw[List.mem_singleton.mp hy]
  obtain⟨x',e1,e2,_⟩:=ot (a:=a) (i:=i) (Array.getElem?_eq_some_iff.mp hx).1
  rw[hx] at e1;cases e1
  have:=ha.sublist (List.drop_sublist i a.toList)
  rw[e2] at this hz
  rcases List.mem_cons.mp hz with rfl | hz
  ·exact Int.le_refl _
  ·exact List.rel_of_pairwise_cons this hz
 have headB:∀(i:Nat) (x:Keyed),b[i]?=some x->Up [x] (b.toList.drop i):=fun i x hx y hy z hz=>by
  rw[List.mem_singleton.mp hy]
  obtain⟨x',e1,e2,_⟩:=ot (a:=b) (i:=i) (Array.getElem?_eq_some_iff.mp hx).1
  rw[hx] at e1;cases e1
  have:=hb.sublist (List.drop_sublist i b.toList)
  rw[e2] at this hz
  rcases List.mem_cons.mp hz with rfl | hz
  ·exact Int.le_refl _
  ·exact List.rel_of_pairwise_cons this hz
 obtain⟨y0,f1,f2,f3⟩:=ot (a:=b) (i:=0) b1
 have M0:Mg (a.toList++b.toList) #[y0].toList (a.toList.drop 0) (b.toList.drop 1):=by
  have m:Mg (a.toList++b.toList) #[].toList (a.toList.drop 0) (b.toList.drop 0):=⟨List.Pairwise.nil,ha,hb,fun x hx=>(by cases hx),fun x hx=>(by cases hx),by simp⟩
  exact pushB #[] 0 0 y0 m f1 (h0 y0 f1)
 refine wpS_bind (wpS_lift (wpAny_rule ⟨rfl,?_⟩))
 dsimp only
 refine wpS_bind (nS f1 ?_)
 by_cases c1:1=b.size
 ·rw[if_pos (by simpa using c1)]
  exact wpS_pure (h _ _ ⟨rfl,rfl,rfl,rfl⟩ (doneB _ 0 1 M0 c1))
 rw[if_neg (by simpa using c1)]
 by_cases c2:0+1=a.size
 ·rw[if_pos (by simpa using c2)]
  exact wpS_pure (h _ _ ⟨rfl,rfl,rfl,rfl⟩ (lastA _ 0 1 M0 c2))
 rw[if_neg (by simpa using c2)]
 refine wpS_bind (wpS_get ?_)
 have I0:Mi (a.toList++b.toList) a b #[y0] 0 1:=⟨M0,by omega,by omega⟩
 refine wpS_bind (wpS_mono (wpS_forRange
  (I:=fun x c st'=>w9 st st'/\∃out i j g,c=(none,out,i,j,g)/\Mi (a.toList++b.toList) a b out i j/\(a.size - i)+(b.size - j)+x<=a.size+b.size)
  (Q:=fun c st'=>w9 st st'/\∃r o,c=(some r,o)/\qz (a.toList++b.toList) r.toList) ?step ?fin ⟨⟨rfl,rfl,rfl,rfl⟩,_,0,1,_,rfl,I0,by omega⟩) ?post)
 case post =>
  rintro c st' ⟨hs,r,o,rfl,ho⟩
  exact wpS_pure (h r st' hs ho)
 case fin =>
  rintro c st' ⟨hs,out,i,j,g,rfl,mi,hm⟩
  have:=mi.lb
  omega
 case step =>
  rintro x c st' _ hx ⟨hs,out,i,j,g,rfl,mi,hm⟩
  dsimp only
  refine wpS_bind (wpS_mono (wpS_forRange
   (I:=fun x c st'=>w9 st st'/\∃out' i' j' ac bc,c=(none,out',i',j',ac,bc)/\Mi (a.toList++b.toList) a b out' i' j'/\(a.size - i')+(b.size - j')+x<=(a.size - i)+(b.size - j))
   (Q:=fun c st'=>w9 st st'/\((∃r o,c=(some r,o)/\qz (a.toList++b.toList) r.toList)\/∃out' i' j' ac bc,c=(none,out',i',j',ac,bc)/\Mi (a.toList++b.toList) a b out' i' j'/\(a.size - i')+(b.size - j')+1<=(a.size - i)+(b.size - j))) ?istep ?ifin ⟨hs,out,i,j,0,0,rfl,mi,by omega⟩) ?ipost)
  case ifin =>
   rintro c st' ⟨hs,out',i',j',ac,bc,rfl,mi',hm'⟩
   exact⟨hs,.inr ⟨out',i',j',ac,bc,rfl,mi',by omega⟩⟩
  case istep =>
   rintro y c st' _ hy ⟨hs,out',i',j',ac,bc,rfl,mi',hm'⟩
   dsimp only
   have la:=mi'.la
   have lb:=mi'.lb
   obtain⟨q,q1,q2,q3⟩:=ot (a:=b) (i:=j') lb
   obtain⟨p,p1,p2,p3⟩:=ot (a:=a) (i:=i') (by omega)
   refine wpS_bind (nS q1 (wpS_bind (nS p1 (wpS_bind (xn (hs.kind.trans hk) (ib q q3) (ia p p3) ?_)))))
   by_cases hlt:kn q<kn p
   ·simp only[hlt,decide_true,if_true]
    refine wpS_bind (nS q1 ?_)
    have m2:=pushB _ i' j' q mi'.m q1 fun u hu v hv=>by
     rw[List.mem_singleton.mp hu]
     exact Int.le_trans (Int.le_of_lt hlt) (headA i' p p1 p (.head _) v hv)
    by_cases e:j'+1=b.size
    ·rw[if_pos (by simpa using e)]
     exact wpS_pure ⟨hs,.inl ⟨_,_,rfl,doneB _ _ _ m2 e⟩⟩
    ·rw[if_neg (by simpa using e)]
     have mi2:Mi (a.toList++b.toList) a b (out'.push q) i' (j'+1):=⟨m2,la,by omega⟩
     split
     ·exact wpS_pure ⟨hs,.inr ⟨_,_,_,_,_,rfl,mi2,by omega⟩⟩
     ·exact wpS_pure ⟨hs,_,_,_,_,_,rfl,mi2,by omega⟩
   ·simp only[hlt,decide_false,Bool.false_eq_true,if_false]
    refine wpS_bind (nS p1 ?_)
    have m2:=pushA _ i' j' p mi'.m p1 fun u hu v hv=>by
     rw[List.mem_singleton.mp hu]
     exact Int.le_trans (Int.not_lt.mp hlt) (headB j' q q1 q (.head _) v hv)
    by_cases e:i'+1+1=a.size
    ·rw[if_pos (by simpa using e)]
     exact wpS_pure ⟨hs,.inl ⟨_,_,rfl,lastA _ _ _ m2 e⟩⟩
    ·rw[if_neg (by simpa using e)]
     have mi2:Mi (a.toList++b.toList) a b (out'.push p) (i'+1) j':=⟨m2,by omega,lb⟩
     split
     ·exact wpS_pure ⟨hs,.inr ⟨_,_,_,_,_,rfl,mi2,by omega⟩⟩
     ·exact wpS_pure ⟨hs,_,_,_,_,_,rfl,mi2,by omega⟩
  case ipost =>
   rintro c st1 ⟨hs1,⟨r,o,rfl,ho⟩ | ⟨out1,i1,j1,ac,bc,rfl,mi1,hm1⟩⟩
   ·exact wpS_pure ⟨hs1,r,_,rfl,ho⟩
   dsimp only
   refine wpS_bind (wpS_lift (wpAny_rule ⟨rfl,?_⟩))
   refine wpS_bind (wpS_mono (wpS_forRange
    (I:=fun _ c st'=>w9 st st'/\∃out' i' j' g' ac bc,c=(none,out',i',j',g',ac,bc)/\Mi (a.toList++b.toList) a b out' i' j'/\(a.size - i')+(b.size - j')<=(a.size - i1)+(b.size - j1))
    (Q:=fun c st'=>w9 st st'/\((∃r o,c=(some r,o)/\qz (a.toList++b.toList) r.toList)\/∃out' i' j' g' ac bc,c=(none,out',i',j',g',ac,bc)/\Mi (a.toList++b.toList) a b out' i' j'/\(a.size - i')+(b.size - j')<=(a.size - i1)+(b.size - j1))) ?gstep ?gfin ⟨hs1,out1,i1,j1,_,ac,bc,rfl,mi1,by omega⟩) ?gpost)
   case gfin =>
    rintro c st' ⟨hs,out',i',j',g',ac,bc,rfl,mi',hm'⟩
    exact⟨hs,.inr ⟨out',i',j',g',ac,bc,rfl,mi',hm'⟩⟩
   case gpost =>
    rintro c st2 ⟨hs2,⟨r,o,rfl,ho⟩ | ⟨out2,i2,j2,g2,ac,bc,rfl,mi2,hm2⟩⟩
    ·exact wpS_pure ⟨hs2,r,_,rfl,ho⟩
    ·exact wpS_bind (wpS_modify (wpS_pure ⟨hs2.gal _,out2,i2,j2,_,rfl,mi2,by omega⟩))
   case gstep =>
    rintro y c st' _ hy ⟨hs,out',i',j',g',ac,bc,rfl,mi',hm'⟩
    dsimp only
    have la:=mi'.la
    have lb:=mi'.lb
    obtain⟨q,q1,q2,q3⟩:=ot (a:=b) (i:=j') lb
    have leap1:∀(k:Nat),k<=a.size - i'->(∀n x,n<k->a[i'+n]?=some x->ud false q x=true)->(∀n x,k<=n->n<a.size - i'->a[i'+n]?=some x->ud false q x=false) ->
      Mg (a.toList++b.toList) (out'++a.extract i' (i'+k)).toList (a.toList.drop (i'+k)) (b.toList.drop j')/\Up [q] (a.toList.drop (i'+k)):=fun k hkn h1 h2=>by
     constructor
     ·have m:=mi'.m
      rw[wy a.toList i' k] at m
      rw[Array.toList_append,sU]
      refine m.takeX fun u hu v hv=>?_
      obtain⟨n,hn,e⟩:=ul hu
      have:=h1 n u hn e
      unfold ud at this
      rw[if_neg Bool.false_ne_true,Bool.not_eq_true',decide_eq_false_iff_not] at this
      exact Int.le_trans (Int.not_lt.mp this) (headB j' q q1 q (.head _) v hv)
     ·intro u hu v hv
      rw[List.mem_singleton.mp hu]
      obtain⟨n,hn,hn2,e⟩:=wk hv
      have:=h2 n v hn hn2 e
      unfold ud at this
      rw[if_neg Bool.false_ne_true,Bool.not_eq_false',decide_eq_true_iff] at this
      exact Int.le_of_lt this
    by_cases hg:g' > 1
    case' pos=>rw[if_pos hg]
    case' neg=>rw[if_neg hg]
    all_goals
     refine wpS_bind (wpS_modify ?_)
     refine wpS_bind (nS q1 ?_)
     refine wpS_bind (p_ (hs.kind.trans hk) (ib q q3) (z8.of ha ia i') (by omega) fun k hkn h1 h2=>?_)
     obtain⟨m1,u1⟩:=leap1 k hkn h1 h2
     dsimp only
     by_cases hk0:k > 0
     case' pos =>
      rw[if_pos hk0]
      by_cases e1:i'+k+1=a.size
      case pos =>
       rw[if_pos (by simpa using e1)]
       exact wpS_pure ⟨hs.gal _,.inl ⟨_,_,rfl,lastA _ _ _ m1 e1⟩⟩
      rw[if_neg (by simpa using e1)]
      by_cases e2:i'+k=a.size
      case pos =>
       rw[if_pos (by simpa using e2)]
       exact wpS_pure ⟨hs.gal _,.inl ⟨_,_,rfl,doneA _ _ _ m1 e2⟩⟩
      rw[if_neg (by simpa using e2)]
      have l3:i'+k+1<a.size:=by omega
      have r3:i'<=i'+k:=by omega
      generalize out'++a.extract i' (i'+k)=out3 at m1 ⊢
      generalize i'+k=i3 at m1 u1 l3 r3 ⊢
     case' neg =>
      rw[if_neg hk0]
      have k0:k=0:=by omega
      subst k0
      have l3:=la
      have r3:=Nat.le_refl i'
      have ee:out'++a.extract i' (i'+0)=out':=wK _ _ _
      rw[ee,Nat.add_zero] at m1
      rw[Nat.add_zero] at u1
      generalize out'=out3 at m1 ⊢
      generalize hi3:i'=i3 at m1 u1 l3 ⊢
      rw[hi3] at r3
     all_goals
      refine wpS_bind (nS q1 ?_)
      have m3:=pushB out3 i3 j' q m1 q1 u1
      by_cases e3:j'+1=b.size
      case pos =>
       rw[if_pos (by simpa using e3)]
       exact wpS_pure ⟨hs.gal _,.inl ⟨_,_,rfl,doneB _ _ _ m3 e3⟩⟩
      rw[if_neg (by simpa using e3)]
      obtain⟨p,p1,p2,p3⟩:=ot (a:=a) (i:=i3) (by omega)
      refine wpS_bind (nS p1 ?_)
      refine wpS_bind (p_ (hs.kind.trans hk) (ia p p3) (z8.of hb ib (j'+1)) (by omega) fun k2 hkn2 g1 g2=>?_)
      have m4:Mg (a.toList++b.toList) (out3.push q++b.extract (j'+1) (j'+1+k2)).toList (a.toList.drop i3) (b.toList.drop (j'+1+k2)):=by
       have m:=m3
       rw[wy b.toList (j'+1) k2] at m
       rw[Array.toList_append,sU]
       refine m.takeY fun u hu v hv=>?_
       obtain⟨n,hn,e⟩:=ul hu
       have:=g1 n u hn e
       unfold ud at this
       rw[if_pos rfl,decide_eq_true_iff] at this
       exact Int.le_trans (Int.le_of_lt this) (headA i3 p p1 p (.head _) v hv)
      have u4:Up [p] (b.toList.drop (j'+1+k2)):=fun u hu v hv=>by
       rw[List.mem_singleton.mp hu]
       obtain⟨n,hn,hn2,e⟩:=wk hv
       have:=g2 n v hn hn2 e
       unfold ud at this
       rw[if_pos rfl,decide_eq_false_iff_not] at this
       exact Int.not_lt.mp this
      dsimp only
      by_cases hk2:k2 > 0
      case' pos =>
       rw[if_pos hk2]
       by_cases e4:j'+1+k2=b.size
       case pos =>
        rw[if_pos (by simpa using e4)]
        exact wpS_pure ⟨hs.gal _,.inl ⟨_,_,rfl,doneB _ _ _ m4 e4⟩⟩
       rw[if_neg (by simpa using e4)]
       have l4:j'+1+k2<b.size:=by omega
       have r4:j'+1<=j'+1+k2:=by omega
       generalize out3.push q++b.extract (j'+1) (j'+1+k2)=out4 at m4 ⊢
       generalize j'+1+k2=j4 at m4 u4 l4 r4 ⊢
      case' neg =>
       rw[if_neg hk2]
       have k0:k2=0:=by omega
       subst k0
       have l4:j'+1<b.size:=by omega
       have ee:out3.push q++b.extract (j'+1) (j'+1+0)=out3.push q:=wK _ _ _
       rw[ee,Nat.add_zero] at m4
       rw[Nat.add_zero] at u4
       have r4:=Nat.le_refl (j'+1)
       generalize out3.push q=out4 at m4 ⊢
       generalize hj4:j'+1=j4 at m4 u4 l4 ⊢
       rw[hj4] at r4
      all_goals
       refine wpS_bind (nS p1 ?_)
       have m5:=pushA out4 i3 j4 p m4 p1 u4
       by_cases e5:i3+1+1=a.size
       case pos =>
        rw[if_pos (by simpa using e5)]
        exact wpS_pure ⟨hs.gal _,.inl ⟨_,_,rfl,lastA _ _ _ m5 e5⟩⟩
       rw[if_neg (by simpa using e5)]
       refine ww ?_ ?_
       ·exact wpS_pure ⟨hs.gal _,.inr ⟨_,_,_,_,_,_,rfl,⟨m5,by omega,l4⟩,by omega⟩⟩
       ·exact wpS_pure ⟨hs.gal _,_,_,_,_,_,_,rfl,⟨m5,by omega,l4⟩,by omega⟩
end
structure Mh (T R X Y:List Keyed):Prop where
 pw:Pw R
 px:Pw X
 py:Pw Y
 ux:Up X R
 uy:Up Y R
 pm:(X++Y++R).Perm T
theorem Mh.takeY{T R X Y1 Y2:List Keyed}(h:Mh T R X (Y1++Y2))(hu:Up X Y2):Mh T (Y2++R) X Y1:=by
 obtain⟨p1,p2,p12⟩:=List.pairwise_append.mp h.py
 refine⟨Pw.app p2 h.pw fun x hx y hy=>h.uy x (List.mem_append_right _ hx) y hy,h.px,p1,fun x hx y hy=>?_,fun x hx y hy=>?_,?_⟩
 ·rcases List.mem_append.mp hy with z | z
  ·exact hu x hx y z
  ·exact h.ux x hx y z
 ·rcases List.mem_append.mp hy with z | z
  ·exact p12 x hx y z
  ·exact h.uy x (List.mem_append_left _ hx) y z
 ·have:=h.pm
  rw[List.append_assoc X,List.append_assoc Y1] at this
  rw[List.append_assoc X]
  exact this
theorem Mh.takeX{T R X1 X2 Y:List Keyed}(h:Mh T R (X1++X2) Y)(hu:Up Y X2):Mh T (X2++R) X1 Y:=by
 obtain⟨p1,p2,p12⟩:=List.pairwise_append.mp h.px
 refine⟨Pw.app p2 h.pw fun x hx y hy=>h.ux x (List.mem_append_right _ hx) y hy,p1,h.py,fun x hx y hy=>?_,fun x hx y hy=>?_,?_⟩
 ·rcases List.mem_append.mp hy with z | z
  ·exact p12 x hx y z
  ·exact h.ux x (List.mem_append_left _ hx) y z
 ·rcases List.mem_append.mp hy with z | z
  ·exact hu x hx y z
  ·exact h.uy x hx y z
 ·refine List.Perm.trans ?_ h.pm
  rw[List.append_assoc,List.append_assoc,List.append_assoc]
  refine List.Perm.append_left X1 ?_
  rw[<- List.append_assoc,<- List.append_assoc]
  exact List.Perm.append_right R List.perm_append_comm
theorem Mh.endX{T R X:List Keyed}(h:Mh T R X []):qz T (X++R):=⟨h.px.app h.pw h.ux,by have:=h.pm;rw[List.append_nil] at this;exact this⟩
theorem Mh.endY{T R Y:List Keyed}(h:Mh T R [] Y):qz T (Y++R):=⟨h.py.app h.pw h.uy,h.pm⟩
theorem Mh.firstY{T R X:List Keyed}{y:Keyed}(h:Mh T R X [y])(hu:Up [y] X):qz T ([y]++X++R):=by
 have h2:Mh T (X++R) [] [y]:=Mh.takeX (X1:=[]) h hu
 rw[List.append_assoc]
 exact h2.endY
def As:Array Keyed->Array Keyed->StateT SortSt Sem (Array Keyed):=sortPriv% PySem.Builtin.mergeHi
theorem z8.of0{a:Array Keyed}(hp:Pw a.toList)(hi:vY a.toList){n:Nat}(hn:n<=a.size):z8 a 0 n:=by
 have h:=z8.of hp hi 0
 exact⟨fun i hi=>h.at' i (by omega),fun i j x y hij hj=>h.le i j x y hij (by omega)⟩
theorem nR{a:Array Keyed}{i:Nat}(h:i<a.size):∃x,a[i]?=some x/\a.toList.take (i+1)=a.toList.take i++[x]/\x∈a.toList:=by
 obtain⟨x,h1,_,h3⟩:=ot h
 refine⟨x,h1,?_,h3⟩
 rw[List.take_add_one,Array.getElem?_toList,h1];rfl
theorem rO(a:Array Keyed)(i n:Nat):(a.extract i n).toList=(a.toList.take n).drop i:=by
 rw[Array.toList_extract,List.extract_eq_drop_take']
theorem rQ(a:Array Keyed)(n:Nat):(a.extract 0 n).toList=a.toList.take n:=by rw[rO];rfl
theorem tG(l:List Keyed){i n:Nat}(h:i<=n):l.take n=l.take i++(l.take n).drop i:=by
 have:=List.take_append_drop i (l.take n)
 rw[List.take_take,Nat.min_eq_left h] at this
 exact this.symm
theorem xE{a:Array Keyed}{i:Nat}{x:Keyed}(h:x∈a.toList.take i):∃j,j<i/\a[0+j]?=some x:=by
 have h':x∈(a.toList.drop 0).take i:=h
 exact ul h'
theorem xW{a:Array Keyed}{i n:Nat}{x:Keyed}(h:x∈(a.toList.take n).drop i):∃j,i<=j/\j<n/\a[0+j]?=some x:=by
 obtain⟨j,hj⟩:=List.getElem?_of_mem h
 rw[List.getElem?_drop] at hj
 have hl:=(List.getElem?_eq_some_iff.mp hj).1
 rw[List.length_take] at hl
 rw[List.getElem?_take_of_lt (by omega)] at hj
 exact⟨i+j,by omega,by omega,by rw[<- Array.getElem?_toList,Nat.zero_add];exact hj⟩
section
variable{prog:Program}{w:World}{A:Around}{E:Value->Shared->Prop}{s:Shared}
structure Mj (T:List Keyed) (a b out:Array Keyed) (na nb:Nat):Prop where
 m:Mh T out.toList.reverse (a.toList.take na) (b.toList.take nb)
 la:0<na
 lb:1<nb
 sa:na<=a.size
 sb:nb<=b.size
theorem xw{st:SortSt}{a b:Array Keyed}{Q:Array Keyed->SortSt->Prop}(hk:kindOf st=oneType')(ha:Pw a.toList)(hb:Pw b.toList)(ia:vY a.toList)(ib:vY b.toList)(a1:0<a.size)(b1:0<b.size)
  (h0:∀y,b[0]?=some y->Up [y] a.toList) (hl:∀x,a[a.size - 1]?=some x->Up b.toList [x])
  (h:∀r st',w9 st st'->qz (a.toList++b.toList) r.toList->Q r st'):wpS (model prog w) A E s (As a b) Q st:=by
 have doneA:∀(out:Array Keyed) (i j:Nat),Mh (a.toList++b.toList) out.toList.reverse (a.toList.take i) (b.toList.take j)->i=0->qz (a.toList++b.toList) (a.extract 0 i++b.extract 0 j++out.reverse).toList:=fun out i j m hi=>by
  rw[Array.toList_append,Array.toList_append,rQ,rQ,Array.toList_reverse]
  subst hi
  exact m.endY
 have doneB:∀(out:Array Keyed) (i j:Nat),Mh (a.toList++b.toList) out.toList.reverse (a.toList.take i) (b.toList.take j)->j=0->qz (a.toList++b.toList) (a.extract 0 i++b.extract 0 j++out.reverse).toList:=fun out i j m hj=>by
  rw[Array.toList_append,Array.toList_append,rQ,rQ,Array.toList_reverse]
  subst hj
  have:=m.endX
  rw[List.take_zero,List.append_nil]
  exact this
 have firstB:∀(out:Array Keyed) (i j:Nat),Mh (a.toList++b.toList) out.toList.reverse (a.toList.take i) (b.toList.take j)->j=1->qz (a.toList++b.toList) (b.extract 0 j++a.extract 0 i++out.reverse).toList:=fun out i j m hj=>by
  rw[Array.toList_append,Array.toList_append,rQ,rQ,Array.toList_reverse]
  subst hj
  obtain⟨y,e1,e2,_⟩:=nR (a:=b) (i:=0) b1
  have e:b.toList.take 1=[y]:=e2
  rw[e] at m ⊢
  exact m.firstY fun u hu v hv=>h0 y e1 u hu v (List.mem_of_mem_take hv)
 have pushB:∀(out:Array Keyed) (i j:Nat) (y:Keyed),Mh (a.toList++b.toList) out.toList.reverse (a.toList.take i) (b.toList.take (j+1))->b[j]?=some y->Up (a.toList.take i) [y]->Mh (a.toList++b.toList) (out.push y).toList.reverse (a.toList.take i) (b.toList.take j):=fun out i j y m hy hu=>by
  obtain⟨y',e1,e2,_⟩:=nR (a:=b) (i:=j) (Array.getElem?_eq_some_iff.mp hy).1
  rw[hy] at e1;cases e1
  rw[e2] at m
  rw[Array.toList_push,List.reverse_append]
  exact Mh.takeY (Y2:=[y]) m hu
 have pushA:∀(out:Array Keyed) (i j:Nat) (x:Keyed),Mh (a.toList++b.toList) out.toList.reverse (a.toList.take (i+1)) (b.toList.take j)->a[i]?=some x->Up (b.toList.take j) [x]->Mh (a.toList++b.toList) (out.push x).toList.reverse (a.toList.take i) (b.toList.take j):=fun out i j x m hx hu=>by
  obtain⟨x',e1,e2,_⟩:=nR (a:=a) (i:=i) (Array.getElem?_eq_some_iff.mp hx).1
  rw[hx] at e1;cases e1
  rw[e2] at m
  rw[Array.toList_push,List.reverse_append]
  exact Mh.takeX (X2:=[x]) m hu
 have tailA:∀(i:Nat) (x:Keyed),a[i]?=some x->Up (a.toList.take (i+1)) [x]:=fun i x hx z hz y hy=>by
  rw[List.mem_singleton.mp hy]
  obtain⟨x',e1,e2,_⟩:=nR (a:=a) (i:=i) (Array.getElem?_eq_some_iff.mp hx).1
  rw[hx] at e1;cases e1
  have:=ha.sublist (List.take_sublist (i+1) a.toList)
  rw[e2] at this hz
  rcases List.mem_append.mp hz with hz | hz
  ·exact(List.pairwise_append.mp this).2.2 z hz x (.head _)
  ·rw[List.mem_singleton.mp hz];exact Int.le_refl _
 have tailB:∀(i:Nat) (x:Keyed),b[i]?=some x->Up (b.toList.take (i+1)) [x]:=fun i x hx z hz y hy=>by
  rw[List.mem_singleton.mp hy]
  obtain⟨x',e1,e2,_⟩:=nR (a:=b) (i:=i) (Array.getElem?_eq_some_iff.mp hx).1
  rw[hx] at e1;cases e1
  have:=hb.sublist (List.take_sublist (i+1) b.toList)
  rw[e2] at this hz
  rcases List.mem_append.mp hz with hz | hz
  ·exact(List.pairwise_append.mp this).2.2 z hz x (.head _)
  ·rw[List.mem_singleton.mp hz];exact Int.le_refl _
 obtain⟨x0,f1,f2,f3⟩:=nR (a:=a) (i:=a.size - 1) (by omega)
 have M0:Mh (a.toList++b.toList) #[x0].toList.reverse (a.toList.take (a.size - 1)) (b.toList.take b.size):=by
  have e1:a.toList.take (a.size - 1+1)=a.toList:=List.take_of_length_le (by rw[Array.length_toList];omega)
  have e2:b.toList.take b.size=b.toList:=List.take_of_length_le (by rw[Array.length_toList];omega)
  have m:Mh (a.toList++b.toList) #[].toList.reverse (a.toList.take (a.size - 1+1)) (b.toList.take b.size):=by
   rw[e1,e2]
   exact⟨List.Pairwise.nil,ha,hb,fun x _ y hy=>(by cases hy),fun x _ y hy=>(by cases hy),by simp⟩
  exact pushA #[] _ _ x0 m f1 (by rw[e2];exact hl x0 f1)
 refine wpS_bind (wpS_lift (wpAny_rule ⟨rfl,?_⟩))
 dsimp only
 refine wpS_bind (nS f1 ?_)
 by_cases c1:a.size - 1=0
 ·rw[if_pos (by simpa using c1)]
  exact wpS_pure (h _ _ ⟨rfl,rfl,rfl,rfl⟩ (doneA _ _ _ M0 c1))
 rw[if_neg (by simpa using c1)]
 by_cases c2:b.size=1
 ·rw[if_pos (by simpa using c2)]
  exact wpS_pure (h _ _ ⟨rfl,rfl,rfl,rfl⟩ (firstB _ _ _ M0 c2))
 rw[if_neg (by simpa using c2)]
 refine wpS_bind (wpS_get ?_)
 have I0:Mj (a.toList++b.toList) a b #[x0] (a.size - 1) b.size:=⟨M0,by omega,by omega,by omega,by omega⟩
 refine wpS_bind (wpS_mono (wpS_forRange
  (I:=fun x c st'=>w9 st st'/\∃i j out g,c=(none,i,j,out,g)/\Mj (a.toList++b.toList) a b out i j/\i+j+x<=a.size+b.size)
  (Q:=fun c st'=>w9 st st'/\∃r o,c=(some r,o)/\qz (a.toList++b.toList) r.toList) ?step ?fin ⟨⟨rfl,rfl,rfl,rfl⟩,_,_,_,_,rfl,I0,by omega⟩) ?post)
 case post =>
  rintro c st' ⟨hs,r,o,rfl,ho⟩
  exact wpS_pure (h r st' hs ho)
 case fin =>
  rintro c st' ⟨hs,i,j,out,g,rfl,mi,hm⟩
  have:=mi.lb
  omega
 case step =>
  rintro x c st' _ hx ⟨hs,i,j,out,g,rfl,mi,hm⟩
  dsimp only
  refine wpS_bind (wpS_mono (wpS_forRange
   (I:=fun x c st'=>w9 st st'/\∃i' j' out' ac bc,c=(none,i',j',out',ac,bc)/\Mj (a.toList++b.toList) a b out' i' j'/\i'+j'+x<=i+j)
   (Q:=fun c st'=>w9 st st'/\((∃r o,c=(some r,o)/\qz (a.toList++b.toList) r.toList)\/∃i' j' out' ac bc,c=(none,i',j',out',ac,bc)/\Mj (a.toList++b.toList) a b out' i' j'/\i'+j'+1<=i+j)) ?istep ?ifin ⟨hs,i,j,out,0,0,rfl,mi,by omega⟩) ?ipost)
  case ifin =>
   rintro c st' ⟨hs,i',j',out',ac,bc,rfl,mi',hm'⟩
   exact⟨hs,.inr ⟨i',j',out',ac,bc,rfl,mi',by omega⟩⟩
  case istep =>
   rintro y c st' _ hy ⟨hs,i',j',out',ac,bc,rfl,mi',hm'⟩
   dsimp only
   have la:=mi'.la
   have lb:=mi'.lb
   have sa:=mi'.sa
   have sb:=mi'.sb
   obtain⟨n,rfl⟩:∃n,i'=n+1:=⟨i' - 1,by omega⟩
   obtain⟨m,rfl⟩:∃m,j'=m+1:=⟨j' - 1,by omega⟩
   simp only[Nat.add_sub_cancel]
   obtain⟨q,q1,q2,q3⟩:=nR (a:=b) (i:=m) (by omega)
   obtain⟨p,p1,p2,p3⟩:=nR (a:=a) (i:=n) (by omega)
   refine wpS_bind (nS q1 (wpS_bind (nS p1 (wpS_bind (xn (hs.kind.trans hk) (ib q q3) (ia p p3) ?_)))))
   by_cases hlt:kn q<kn p
   ·simp only[hlt,decide_true,if_true]
    refine wpS_bind (nS p1 ?_)
    have m2:=pushA _ n (m+1) p mi'.m p1 fun u hu v hv=>by
     rw[List.mem_singleton.mp hv]
     exact Int.le_trans (tailB m q q1 u hu q (.head _)) (Int.le_of_lt hlt)
    by_cases e:n=0
    ·rw[if_pos (by simpa using e)]
     exact wpS_pure ⟨hs,.inl ⟨_,_,rfl,doneA _ _ _ m2 e⟩⟩
    ·rw[if_neg (by simpa using e)]
     have mi2:Mj (a.toList++b.toList) a b (out'.push p) n (m+1):=⟨m2,by omega,lb,by omega,sb⟩
     refine ww ?_ ?_
     ·exact wpS_pure ⟨hs,.inr ⟨_,_,_,_,_,rfl,mi2,by omega⟩⟩
     ·exact wpS_pure ⟨hs,_,_,_,_,_,rfl,mi2,by omega⟩
   ·simp only[hlt,decide_false,Bool.false_eq_true,if_false]
    refine wpS_bind (nS q1 ?_)
    have m2:=pushB _ (n+1) m q mi'.m q1 fun u hu v hv=>by
     rw[List.mem_singleton.mp hv]
     exact Int.le_trans (tailA n p p1 u hu p (.head _)) (Int.not_lt.mp hlt)
    by_cases e:m=1
    ·rw[if_pos (by simpa using e)]
     exact wpS_pure ⟨hs,.inl ⟨_,_,rfl,firstB _ _ _ m2 e⟩⟩
    ·rw[if_neg (by simpa using e)]
     have mi2:Mj (a.toList++b.toList) a b (out'.push q) (n+1) m:=⟨m2,la,by omega,sa,by omega⟩
     refine ww ?_ ?_
     ·exact wpS_pure ⟨hs,.inr ⟨_,_,_,_,_,rfl,mi2,by omega⟩⟩
     ·exact wpS_pure ⟨hs,_,_,_,_,_,rfl,mi2,by omega⟩
  case ipost =>
   rintro c st1 ⟨hs1,⟨r,o,rfl,ho⟩ | ⟨i1,j1,out1,ac,bc,rfl,mi1,hm1⟩⟩
   ·exact wpS_pure ⟨hs1,r,_,rfl,ho⟩
   dsimp only
   refine wpS_bind (wpS_lift (wpAny_rule ⟨rfl,?_⟩))
   refine wpS_bind (wpS_mono (wpS_forRange
    (I:=fun _ c st'=>w9 st st'/\∃i' j' out' g' ac bc,c=(none,i',j',out',g',ac,bc)/\Mj (a.toList++b.toList) a b out' i' j'/\i'+j'<=i1+j1)
    (Q:=fun c st'=>w9 st st'/\((∃r o,c=(some r,o)/\qz (a.toList++b.toList) r.toList)\/∃i' j' out' g' ac bc,c=(none,i',j',out',g',ac,bc)/\Mj (a.toList++b.toList) a b out' i' j'/\i'+j'<=i1+j1)) ?gstep ?gfin ⟨hs1,i1,j1,out1,_,ac,bc,rfl,mi1,by omega⟩) ?gpost)
   case gfin =>
    rintro c st' ⟨hs,i',j',out',g',ac,bc,rfl,mi',hm'⟩
    exact⟨hs,.inr ⟨i',j',out',g',ac,bc,rfl,mi',hm'⟩⟩
   case gpost =>
    rintro c st2 ⟨hs2,⟨r,o,rfl,ho⟩ | ⟨i2,j2,out2,g2,ac,bc,rfl,mi2,hm2⟩⟩
    ·exact wpS_pure ⟨hs2,r,_,rfl,ho⟩
    ·exact wpS_bind (wpS_modify (wpS_pure ⟨hs2.gal _,i2,j2,out2,_,rfl,mi2,by omega⟩))
   case gstep =>
    rintro y c st' _ hy ⟨hs,i',j',out',g',ac,bc,rfl,mi',hm'⟩
    dsimp only
    have la:=mi'.la
    have lb:=mi'.lb
    have sa:=mi'.sa
    have sb:=mi'.sb
    obtain⟨m,rfl⟩:∃m,j'=m+1:=⟨j' - 1,by omega⟩
    simp only[Nat.add_sub_cancel]
    obtain⟨q,q1,q2,q3⟩:=nR (a:=b) (i:=m) (by omega)
    have leap1:∀(k:Nat),k<=i'->(∀n x,n<k->a[0+n]?=some x->ud false q x=true)->(∀n x,k<=n->n<i'->a[0+n]?=some x->ud false q x=false) ->
      Mh (a.toList++b.toList) (out'++(a.extract k i').reverse).toList.reverse (a.toList.take k) (b.toList.take (m+1))/\Up (a.toList.take k) [q]:=fun k hkn h1 h2=>by
     constructor
     ·have mm:=mi'.m
      rw[tG a.toList hkn] at mm
      rw[Array.toList_append,Array.toList_reverse,List.reverse_append,List.reverse_reverse,rO]
      refine mm.takeX fun u hu v hv=>?_
      obtain⟨n,hn,hn2,e⟩:=xW hv
      have:=h2 n v hn hn2 e
      unfold ud at this
      rw[if_neg Bool.false_ne_true,Bool.not_eq_false',decide_eq_true_iff] at this
      exact Int.le_trans (tailB m q q1 u hu q (.head _)) (Int.le_of_lt this)
     ·intro u hu v hv
      rw[List.mem_singleton.mp hv]
      obtain⟨n,hn,e⟩:=xE hu
      have:=h1 n u hn e
      unfold ud at this
      rw[if_neg Bool.false_ne_true,Bool.not_eq_true',decide_eq_false_iff_not] at this
      exact Int.not_lt.mp this
    by_cases hg:g' > 1
    case' pos=>rw[if_pos hg]
    case' neg=>rw[if_neg hg]
    all_goals
     refine wpS_bind (wpS_modify ?_)
     refine wpS_bind (nS q1 ?_)
     refine wpS_bind (p_ (hs.kind.trans hk) (ib q q3) (z8.of0 ha ia sa) (by omega) fun k hkn h1 h2=>?_)
     obtain⟨m1,u1⟩:=leap1 k hkn h1 h2
     dsimp only
     by_cases hk0:i' - k > 0
     case' pos =>
      rw[if_pos hk0]
      by_cases e1:k=0
      case pos =>
       rw[if_pos (by simpa using e1)]
       exact wpS_pure ⟨hs.gal _,.inl ⟨_,_,rfl,doneA _ _ _ m1 e1⟩⟩
      rw[if_neg (by simpa using e1)]
      have l3:0<k:=by omega
      have r3:k<=i':=hkn
      generalize out'++(a.extract k i').reverse=out3 at m1 ⊢
      generalize hi3:k=i3 at m1 u1 l3 r3 ⊢
     case' neg =>
      rw[if_neg hk0]
      have k0:k=i':=by omega
      subst k0
      have l3:=la
      have ee:out'++(a.extract k k).reverse=out':=by
       apply Array.ext'
       rw[Array.toList_append,Array.toList_reverse,rO,List.drop_eq_nil_of_le (List.length_take_le _ _),List.reverse_nil,List.append_nil]
      rw[ee] at m1
      have r3:=Nat.le_refl k
      generalize out'=out3 at m1 ⊢
      generalize hi3:k=i3 at m1 u1 l3 ⊢
      rw[hi3] at r3
     all_goals
      refine wpS_bind (nS q1 ?_)
      have m3:=pushB out3 i3 m q m1 q1 u1
      by_cases e3:m=1
      case pos =>
       rw[if_pos (by simpa using e3)]
       exact wpS_pure ⟨hs.gal _,.inl ⟨_,_,rfl,firstB _ _ _ m3 e3⟩⟩
      rw[if_neg (by simpa using e3)]
      obtain⟨n,rfl⟩:∃n,i3=n+1:=⟨i3 - 1,by omega⟩
      simp only[Nat.add_sub_cancel]
      obtain⟨p,p1,p2,p3⟩:=nR (a:=a) (i:=n) (by omega)
      refine wpS_bind (nS p1 ?_)
      refine wpS_bind (p_ (hs.kind.trans hk) (ia p p3) (z8.of0 hb ib (show m<=b.size by omega)) (by omega) fun k2 hkn2 g1 g2=>?_)
      have m4:Mh (a.toList++b.toList) (out3.push q++(b.extract k2 m).reverse).toList.reverse (a.toList.take (n+1)) (b.toList.take k2):=by
       have mm:=m3
       rw[tG b.toList hkn2] at mm
       rw[Array.toList_append,Array.toList_reverse,List.reverse_append,List.reverse_reverse,rO]
       refine mm.takeY fun u hu v hv=>?_
       obtain⟨l,hn,hn2,e⟩:=xW hv
       have:=g2 l v hn hn2 e
       unfold ud at this
       rw[if_pos rfl,decide_eq_false_iff_not] at this
       exact Int.le_trans (tailA n p p1 u hu p (.head _)) (Int.not_lt.mp this)
      have u4:Up (b.toList.take k2) [p]:=fun u hu v hv=>by
       rw[List.mem_singleton.mp hv]
       obtain⟨l,hn,e⟩:=xE hu
       have:=g1 l u hn e
       unfold ud at this
       rw[if_pos rfl,decide_eq_true_iff] at this
       exact Int.le_of_lt this
      dsimp only
      by_cases hk2:m - k2 > 0
      case' pos =>
       rw[if_pos hk2]
       by_cases e4:k2=1
       case pos =>
        rw[if_pos (by simpa using e4)]
        exact wpS_pure ⟨hs.gal _,.inl ⟨_,_,rfl,firstB _ _ _ m4 e4⟩⟩
       rw[if_neg (by simpa using e4)]
       by_cases e5:k2=0
       case pos =>
        rw[if_pos (by simpa using e5)]
        exact wpS_pure ⟨hs.gal _,.inl ⟨_,_,rfl,doneB _ _ _ m4 e5⟩⟩
       rw[if_neg (by simpa using e5)]
       have l4:1<k2:=by omega
       have r4:k2<=m:=hkn2
       generalize out3.push q++(b.extract k2 m).reverse=out4 at m4 ⊢
       generalize hj4:k2=j4 at m4 u4 l4 r4 ⊢
      case' neg =>
       rw[if_neg hk2]
       have k0:k2=m:=by omega
       subst k0
       have l4:1<k2:=by omega
       have ee:out3.push q++(b.extract k2 k2).reverse=out3.push q:=by
        apply Array.ext'
        rw[Array.toList_append,Array.toList_reverse,rO,List.drop_eq_nil_of_le (List.length_take_le _ _),List.reverse_nil,List.append_nil]
       rw[ee] at m4
       have r4:=Nat.le_refl k2
       generalize out3.push q=out4 at m4 ⊢
       generalize hj4:k2=j4 at m4 u4 l4 ⊢
       rw[hj4] at r4
      all_goals
       refine wpS_bind (nS p1 ?_)
       have m5:=pushA out4 n j4 p m4 p1 u4
       by_cases e6:n=0
       case pos =>
        rw[if_pos (by simpa using e6)]
        exact wpS_pure ⟨hs.gal _,.inl ⟨_,_,rfl,doneA _ _ _ m5 e6⟩⟩
       rw[if_neg (by simpa using e6)]
       refine ww ?_ ?_
       ·exact wpS_pure ⟨hs.gal _,.inr ⟨_,_,_,_,_,_,rfl,⟨m5,by omega,l4,by omega,by omega⟩,by omega⟩⟩
       ·exact wpS_pure ⟨hs.gal _,_,_,_,_,_,_,rfl,⟨m5,by omega,l4,by omega,by omega⟩,by omega⟩
end
def vC(xs:Array Keyed)(a b:Nat):Prop:=∀i j,a<=i->i<=j->j<b->K xs i<=K xs j
def Dn(xs:Array Keyed)(a b:Nat):Prop:=∀i j,a<=i->i<=j->j<b->K xs j<=K xs i
structure Sc (a₀:Array Keyed) (p:Array (Nat×Nat×Nat)) (lo:Nat) (x₀:Array Keyed) (st:SortSt):Prop where
 perm:(arrOf st).Perm a₀
 kind:kindOf st=oneType'
 failed:failedOf st=none
 pend:pendingOf st=p
 low:∀k,k<lo->K (arrOf st) k=K x₀ k
section
variable{a₀ x₀:Array Keyed}{p:Array (Nat×Nat×Nat)}{lo:Nat}
theorem Sc.size{st:SortSt}(h:Sc a₀ p lo x₀ st):(arrOf st).size=a₀.size:=h.perm.size_eq
theorem Sc.set{st:SortSt}(h:Sc a₀ p lo x₀ st){xs:Array Keyed}(hp:xs.Perm (arrOf st))(hl:∀k,k<lo->K xs k=K (arrOf st) k):Sc a₀ p lo x₀ (setArr st xs):=
 ⟨hp.trans h.perm,h.kind,h.failed,h.pend,fun k hk=>(hl k hk).trans (h.low k hk)⟩
theorem Sc.el{st:SortSt}(h:Sc a₀ p lo x₀ st)(h0:IntKeys a₀){i:Nat}(hi:i<a₀.size):∃x,(arrOf st)[i]?=some x/\(∃n t,x.1=.int n t)/\kn x=K (arrOf st) i:=by
 have hi':i<(arrOf st).size:=by rw[h.size];exact hi
 refine⟨(arrOf st)[i],Array.getElem?_eq_getElem hi',h0 _ ((Array.perm_iff_toList_perm.mp h.perm).mem_iff.mp (by simp)),?_⟩
 unfold K
 rw[Array.getElem?_eq_getElem hi'];rfl
variable{prog:Program}{w:World}{A:Around}{E:Value->Shared->Prop}{s:Shared}
theorem uS{st:SortSt}(h:Sc a₀ p lo x₀ st)(h0:IntKeys a₀){i j:Nat}(hi:i<a₀.size)(hj:j<a₀.size){Q:Option Bool->SortSt->Prop}(hq:Q (some (decide (K (arrOf st) i<K (arrOf st) j))) st):wpS (model prog w) A E s (ltAt' i j) Q st:=by
 obtain⟨x,e1,ex,k1⟩:=h.el h0 hi
 obtain⟨y,e2,ey,k2⟩:=h.el h0 hj
 rw[ltAt'_eq]
 rw[<- k1,<- k2] at hq
 exact wpS_bind (wpS_get (wpS_bind (nS e1 (wpS_bind (nS e2 (xn h.kind ex ey hq))))))
theorem zW{st:SortSt}{a n:Nat}(f:Nat->Option (Option Nat)×Nat->StateT SortSt Sem (ForInStep (Option (Option Nat)×Nat)))
  (hf:∀x i Q',a<=i->i<n->(K (arrOf st) (lo+i)<K (arrOf st) (lo+i - 1)->Q' (ForInStep.done (none,i)) st)->(¬ K (arrOf st) (lo+i)<K (arrOf st) (lo+i - 1)->Q' (ForInStep.yield (none,i+1)) st)->wpS (model prog w) A E s (f x (none,i)) Q' st)
  (ha:1<=a) (han:a<=n) (hs:vC (arrOf st) lo (lo+a)) :
  wpS (model prog w) A E s (forIn [a:n] (none,a) f) (fun c st'=>st'=st/\∃m,c=(none,m)/\a<=m/\m<=n/\vC (arrOf st) lo (lo+m)/\(m=n\/K (arrOf st) (lo+m)<K (arrOf st) (lo+m - 1))) st:=by
 refine wpS_forRange (I:=fun x c st'=>st'=st/\c=(none,x)/\vC (arrOf st) lo (lo+x)) ?step ?fin ⟨rfl,rfl,hs⟩
 case fin =>
  rintro c st' ⟨rfl,rfl,h⟩
  rw[show max a n=n by omega] at h ⊢
  exact⟨rfl,n,rfl,han,Nat.le_refl _,h,.inl rfl⟩
 case step =>
  rintro x c st' hx1 hx2 ⟨rfl,rfl,h⟩
  refine hf x x _ hx1 hx2 (fun hl=>⟨rfl,x,rfl,hx1,by omega,h,.inr hl⟩) fun hl=>⟨rfl,rfl,fun i j h1 h2 h3=>?_⟩
  by_cases z:j<lo+x
  ·exact h i j h1 h2 z
  ·have e:j=lo+x:=by omega
   subst e
   by_cases y:i=lo+x
   ·rw[y];exact Int.le_refl _
   ·exact Int.le_trans (h i (lo+x - 1) h1 (by omega) (by omega)) (Int.not_lt.mp hl)
theorem Sc.rev{st:SortSt}(h:Sc a₀ p lo x₀ st){i j:Nat}(hi:lo<=i)(hj:j<=a₀.size):Sc a₀ p lo x₀ (setArr st (mirror (arrOf st) i j ((j - i) / 2))):=
 h.set (mirror_perm _ _ _ _) fun k hk=>by rw[K_mirror (by rw[h.size];exact hj),if_neg (by omega)]
theorem vT{st:SortSt}{i j:Nat}{Q:Unit->SortSt->Prop}(h:Q () (setArr st (mirror (arrOf st) i j ((j - i) / 2)))):wpS (model prog w) A E s (reverseSlice' i j) Q st:=by
 rw[reverseSlice'_eq];exact wpS_modify h
theorem zB{st:SortSt}(h:Sc a₀ p lo x₀ st)(h0:IntKeys a₀){n:Nat}(hn:lo+n<=a₀.size)(h1:1<=n){Q:Option Nat->SortSt->Prop}
  (hq:∀m st',Sc a₀ p lo x₀ st'->1<=m->m<=n->vC (arrOf st') lo (lo+m)->Q (some m) st'):wpS (model prog w) A E s (countRun' lo n) Q st:=by
 have up:∀(st1:SortSt),Sc a₀ p lo x₀ st1->∀(i:Nat),i<n->1<=i->∀(Q':ForInStep (Option (Option Nat)×Nat)->SortSt->Prop) (f:Option Bool->StateT SortSt Sem (ForInStep (Option (Option Nat)×Nat))),(K (arrOf st1) (lo+i)<K (arrOf st1) (lo+i - 1)->wpS (model prog w) A E s (f (some true)) Q' st1)->(¬ K (arrOf st1) (lo+i)<K (arrOf st1) (lo+i - 1)->wpS (model prog w) A E s (f (some false)) Q' st1)->wpS (model prog w) A E s (ltAt' (lo+i) (lo+i - 1) >>= f) Q' st1:=fun st1 hS i hi hi1 Q' f g1 g2=>by
  refine wpS_bind (uS hS h0 (by omega) (by omega) ?_)
  by_cases z:K (arrOf st1) (lo+i)<K (arrOf st1) (lo+i - 1)
  ·rw[decide_eq_true z];exact g1 z
  ·rw[decide_eq_false z];exact g2 z
 rw[countRun'_eq]
 dsimp only
 refine wpS_bind (wpS_mono (zW _ (fun x i Q' hi1 hi2 q1 q2=>up st h i hi2 hi1 Q' _ (fun z=>wpS_pure (q1 z)) fun z=>wpS_pure (q2 z)) (Nat.le_refl 1) h1 (fun i j a1 a2 a3=>by rw[show i=j by omega];exact Int.le_refl _)) ?_)
 rintro c st' ⟨rfl,m,rfl,m1,m2,hs,hor⟩
 dsimp only
 by_cases e:m=n
 ·rw[if_pos (by simpa using e)]
  exact wpS_pure (hq m st' h m1 m2 hs)
 rw[if_neg (by simpa using e)]
 have hlt:=hor.resolve_left e
 have hsz:=h.size
 by_cases hm:m > 1
 case' pos =>
  rw[if_pos hm]
  refine wpS_bind (uS h h0 (by omega) (by omega) ?_)
  by_cases hr:K (arrOf st') lo<K (arrOf st') (lo+m - 1)
  case pos =>
   rw[decide_eq_true hr]
   exact wpS_pure (hq m st' h m1 m2 hs)
  rw[decide_eq_false hr]
  dsimp only
  rw[if_neg Bool.false_ne_true]
  have hall:∀k,lo<=k->k<lo+m->K (arrOf st') k=K (arrOf st') (lo+m - 1):=fun k k1 k2=>by
   have q1:=hs lo k (Nat.le_refl _) k1 k2
   have q2:=hs k (lo+m - 1) k1 (by omega) (by omega)
   omega
  refine wpS_bind (vT ?_)
  have hS:=h.rev (i:=lo) (j:=lo+m) (Nat.le_refl _) (by omega)
  have hK:∀k,K (mirror (arrOf st') lo (lo+m) ((lo+m - lo) / 2)) k=K (arrOf st') k:=fun k=>K_mirror_equal (by rw[hsz];omega) hall k
  have hD:Dn (arrOf (setArr st' (mirror (arrOf st') lo (lo+m) ((lo+m - lo) / 2)))) lo (lo+(m+1)):=fun i j a1 a2 a3=>by
   show K (mirror _ _ _ _) j<=K (mirror _ _ _ _) i
   rw[hK,hK]
   by_cases z:j<lo+m
   ·rw[hall i a1 (by omega),hall j (by omega) z];exact Int.le_refl _
   ·rw[show j=lo+m by omega]
    by_cases y:i=lo+m
    ·rw[y];exact Int.le_refl _
    ·rw[hall i a1 (by omega)];exact Int.le_of_lt hlt
  generalize setArr st' (mirror (arrOf st') lo (lo+m) ((lo+m - lo) / 2))=st2 at hS hD ⊢
 case' neg =>
  rw[if_neg hm]
  have hS:=h
  have hD:Dn (arrOf st') lo (lo+(m+1)):=fun i j a1 a2 a3=>by
   by_cases y:i=j
   ·rw[y];exact Int.le_refl _
   ·rw[show i=lo+m - 1 by omega,show j=lo+m by omega];exact Int.le_of_lt hlt
  generalize hst2:st'=st2 at hS hD ⊢
 all_goals
  refine wpS_bind (wpS_lift (wpAny_rule ⟨rfl,?_⟩))
  refine wpS_bind (wpS_mono (wpS_forRange
   (I:=fun x c st3=>∃q,c=(none,x,q)/\Sc a₀ p lo x₀ st3/\Dn (arrOf st3) lo (lo+x)/\q+1<=x/\∀i,lo+x - (q+1)<=i->i<lo+x->K (arrOf st3) i=K (arrOf st3) (lo+x - 1))
   (Q:=fun c st3=>∃y q,c=(none,y,q)/\m+1<=y/\y<=n/\Sc a₀ p lo x₀ st3/\Dn (arrOf st3) lo (lo+y)/\q+1<=y/\∀i,lo+y - (q+1)<=i->i<lo+y->K (arrOf st3) i=K (arrOf st3) (lo+y - 1)) ?step ?fin ⟨0,rfl,hS,hD,by omega,fun i i1 i2=>by rw[show i=lo+(m+1) - 1 by omega]⟩) ?post)
  case fin =>
   rintro c st3 ⟨q,rfl,s1,s2,s3,s4⟩
   rw[show max (m+1) n=n by omega] at s2 s3 s4 ⊢
   exact⟨n,q,rfl,by omega,Nat.le_refl _,s1,s2,s3,s4⟩
  case step =>
   rintro x c st3 x1 x2 ⟨q,rfl,s1,s2,s3,s4⟩
   dsimp only
   have sz:=s1.size
   refine wpS_bind (uS s1 h0 (by omega) (by omega) ?_)
   by_cases z:K (arrOf st3) (lo+x)<K (arrOf st3) (lo+x - 1)
   ·rw[decide_eq_true z]
    dsimp only
    rw[if_pos rfl]
    have nx:∀xs:Array Keyed,(∀k,K xs k=K (arrOf st3) k)->Dn xs lo (lo+(x+1)):=fun xs hk i j a1 a2 a3=>by
     rw[hk,hk]
     by_cases y:j<lo+x
     ·exact s2 i j a1 a2 y
     ·rw[show j=lo+x by omega]
      by_cases v:i=lo+x
      ·rw[v];exact Int.le_refl _
      ·exact Int.le_trans (Int.le_of_lt z) (s2 i (lo+x - 1) a1 (by omega) (by omega))
    by_cases hq0:q > 0
    ·rw[if_pos hq0]
     exact wpS_bind (vT (wpS_pure ⟨0,rfl,s1.rev (by omega) (by omega),nx _ (K_mirror_equal (by rw[sz];omega) s4),by omega,fun i i1 i2=>by rw[show i=lo+(x+1) - 1 by omega]⟩))
    ·rw[if_neg hq0]
     exact wpS_pure ⟨0,rfl,s1,nx _ fun _=>rfl,by omega,fun i i1 i2=>by rw[show i=lo+(x+1) - 1 by omega]⟩
   ·rw[decide_eq_false z]
    dsimp only
    rw[if_neg Bool.false_ne_true]
    refine wpS_bind (uS s1 h0 (by omega) (by omega) ?_)
    by_cases y:K (arrOf st3) (lo+x - 1)<K (arrOf st3) (lo+x)
    ·rw[decide_eq_true y]
     exact wpS_pure ⟨x,q,rfl,x1,by omega,s1,s2,s3,s4⟩
    ·rw[decide_eq_false y]
     have ex:K (arrOf st3) (lo+x)=K (arrOf st3) (lo+x - 1):=by omega
     refine wpS_pure ⟨q+1,rfl,s1,fun i j a1 a2 a3=>?_,by omega,fun i i1 i2=>?_⟩
     ·by_cases v:j<lo+x
      ·exact s2 i j a1 a2 v
      ·rw[show j=lo+x by omega]
       by_cases u:i=lo+x
       ·rw[u];exact Int.le_refl _
       ·rw[ex];exact s2 i (lo+x - 1) a1 (by omega) (by omega)
     ·rw[show lo+(x+1) - 1=lo+x by omega]
      by_cases u:i=lo+x
      ·rw[u]
      ·rw[ex];exact s4 i (by omega) (by omega)
  case post =>
   rintro c st3 ⟨y,q,rfl,y1,y2,s1,s2,s3,s4⟩
   dsimp only
   have sz:=s1.size
   by_cases hq0:q > 0
   case' pos =>
    rw[if_pos hq0]
    refine wpS_bind (vT ?_)
    have t1:=s1.rev (i:=lo+y - (q+1)) (j:=lo+y) (by omega) (by omega)
    have t2:Dn (arrOf (setArr st3 (mirror (arrOf st3) (lo+y - (q+1)) (lo+y) ((lo+y - (lo+y - (q+1))) / 2)))) lo (lo+y):=fun i j a1 a2 a3=>by
     show K (mirror _ _ _ _) j<=K (mirror _ _ _ _) i
     rw[K_mirror_equal (by rw[sz];omega) s4,K_mirror_equal (by rw[sz];omega) s4]
     exact s2 i j a1 a2 a3
    generalize setArr st3 (mirror (arrOf st3) (lo+y - (q+1)) (lo+y) ((lo+y - (lo+y - (q+1))) / 2))=st4 at t1 t2 ⊢
   case' neg =>
    rw[if_neg hq0]
    have t1:=s1
    have t2:=s2
    generalize hst4:st3=st4 at t1 t2 ⊢
   all_goals
    refine wpS_bind (vT ?_)
    have u1:=t1.rev (i:=lo) (j:=lo+y) (Nat.le_refl _) (by omega)
    have u2:vC (arrOf (setArr st4 (mirror (arrOf st4) lo (lo+y) ((lo+y - lo) / 2)))) lo (lo+y):=fun i j a1 a2 a3=>by
     show K (mirror _ _ _ _) i<=K (mirror _ _ _ _) j
     rw[K_mirror (by rw[t1.size];omega),K_mirror (by rw[t1.size];omega),if_pos ⟨a1,by omega⟩,if_pos ⟨by omega,a3⟩]
     exact t2 _ _ (by omega) (by omega) (by omega)
    generalize setArr st4 (mirror (arrOf st4) lo (lo+y) ((lo+y - lo) / 2))=st5 at u1 u2 ⊢
    refine wpS_bind (wpS_mono (zW _ (fun x i Q' hi1 hi2 q1 q2=>up st5 u1 i hi2 (by omega) Q' _ (fun z=>wpS_pure (q1 z)) fun z=>wpS_pure (q2 z)) (by omega) y2 u2) ?_)
    rintro c st6 ⟨rfl,m',rfl,v1,v2,v3,_⟩
    exact wpS_pure (hq m' _ u1 (by omega) v2 v3)
end
section
variable{a₀ x₀:Array Keyed}{p:Array (Nat×Nat×Nat)}{lo:Nat}{prog:Program}{w:World}{A:Around}{E:Value->Shared->Prop}{s:Shared}
theorem Al{st:SortSt}(h:Sc a₀ p lo x₀ st)(h0:IntKeys a₀){n ok:Nat}(hn:lo+n<=a₀.size)(hok:ok<=n)(hs:vC (arrOf st) lo (lo+ok)){Q:Bool->SortSt->Prop}
  (hq:∀st',Sc a₀ p lo x₀ st'->vC (arrOf st') lo (lo+n)->Q true st'):wpS (model prog w) A E s (binarySort' lo n ok) Q st:=by
 rw[binarySort'_eq]
 dsimp only
 refine wpS_bind (wpS_mono (wpS_forRange (I:=fun k c st'=>c=(none,())/\Sc a₀ p lo x₀ st'/\vC (arrOf st') lo (lo+min k n))
  (Q:=fun c st'=>c=(none,())/\Sc a₀ p lo x₀ st'/\vC (arrOf st') lo (lo+n)) ?step ?fin ⟨rfl,h,fun i j a1 a2 a3=>?init⟩) ?post)
 case init =>
  by_cases z:ok=0
  ·rw[show i=j by omega];exact Int.le_refl _
  ·exact hs i j a1 a2 (by omega)
 case post =>
  rintro c st' ⟨rfl,s1,s2⟩
  exact wpS_pure (hq st' s1 s2)
 case fin =>
  rintro c st' ⟨rfl,s1,s2⟩
  rw[show min (max (max ok 1) n) n=n by omega] at s2
  exact⟨rfl,s1,s2⟩
 case step =>
  rintro k c st' k1 k2 ⟨rfl,s1,s2⟩
  rw[show min k n=k by omega] at s2
  refine wpS_bind (wpS_mono (wpS_forRange
   (I:=fun x c st2=>st2=st'/\∃l r,c=(none,l,r)/\l<=r/\r<=k/\r - l<=k - x/\(∀i,lo<=i->i<lo+l->K (arrOf st') i<=K (arrOf st') (lo+k))/\∀i,lo+r<=i->i<lo+k->K (arrOf st') (lo+k)<K (arrOf st') i)
   (Q:=fun c st2=>st2=st'/\∃l,c=(none,l,l)/\l<=k/\(∀i,lo<=i->i<lo+l->K (arrOf st') i<=K (arrOf st') (lo+k))/\∀i,lo+l<=i->i<lo+k->K (arrOf st') (lo+k)<K (arrOf st') i) ?istep ?ifin ⟨rfl,0,k,rfl,by omega,Nat.le_refl _,by omega,fun i i1 i2=>by omega,fun i i1 i2=>by omega⟩) ?ipost)
  case ifin =>
   rintro c st2 ⟨rfl,l,r,rfl,b1,b2,b3,b4,b5⟩
   have:l=r:=by omega
   subst this
   exact⟨rfl,l,rfl,b2,b4,b5⟩
  case istep =>
   rintro x c st2 _ hx ⟨rfl,l,r,rfl,b1,b2,b3,b4,b5⟩
   dsimp only
   by_cases z:l ≥ r
   ·rw[if_pos z]
    have:l=r:=by omega
    subst this
    exact wpS_pure ⟨rfl,l,rfl,b2,b4,b5⟩
   ·rw[if_neg z]
    refine wpS_bind (uS s1 h0 (by omega) (by omega) ?_)
    by_cases y:K (arrOf st2) (lo+k)<K (arrOf st2) (lo+(l+r) / 2)
    ·rw[decide_eq_true y]
     exact wpS_pure ⟨rfl,l,(l+r) / 2,rfl,by omega,by omega,by omega,b4,fun i i1 i2=>Int.lt_of_lt_of_le y (s2 _ _ (by omega) i1 i2)⟩
    ·rw[decide_eq_false y]
     exact wpS_pure ⟨rfl,(l+r) / 2+1,r,rfl,by omega,by omega,by omega,fun i i1 i2=>Int.le_trans (s2 i (lo+(l+r) / 2) i1 (by omega) (by omega)) (Int.not_lt.mp y),b5⟩
  case ipost =>
   rintro c st2 ⟨rfl,l,rfl,b2,b4,b5⟩
   dsimp only
   rw[moveDown'_eq]
   have hks:lo+k<(arrOf st2).size:=by rw[s1.size];omega
   refine wpS_bind (wpS_modify (wpS_pure ⟨rfl,s1.set (bubble_perm _ _ _) fun i hi=>?_,fun i j a1 a2 a3=>?_⟩))
   ·rw[K_bubble hks (by omega),if_neg (by omega),if_neg (by omega)]
   ·rw[show min (k+1) n=k+1 by omega] at a3
    show K (bubble (arrOf st2) (lo+k) (lo+k - (lo+l))) i<=K (bubble (arrOf st2) (lo+k) (lo+k - (lo+l))) j
    rw[K_bubble hks (by omega),K_bubble hks (by omega),show lo+k - (lo+k - (lo+l))=lo+l by omega]
    repeat' split
    all_goals first
     | (exfalso;omega)
     | exact Int.le_refl _
     | exact b4 _ (by omega) (by omega)
     | exact Int.le_of_lt (b5 _ (by omega) (by omega))
     | exact s2 _ _ (by omega) (by omega) (by omega)
end
theorem tR{xs:Array Keyed}{i:Nat}{x:Keyed}(h:xs.toList[i]?=some x):K xs i=kn x:=by
 unfold K
 rw[<- Array.getElem?_toList,h];rfl
theorem BW{xs:Array Keyed}{a b:Nat}(h:vC xs a b):Pw ((xs.toList.take b).drop a):=by
 refine List.pairwise_iff_getElem.mpr fun i j hi hj hij=>?_
 have g:∀i (hi:i<((xs.toList.take b).drop a).length),xs.toList[a+i]?=some ((xs.toList.take b).drop a)[i]/\a+i<b:=fun i hi=>by
  have e:=List.getElem?_eq_getElem hi
  rw[List.getElem?_drop] at e
  have l:=hi
  rw[List.length_drop,List.length_take] at l
  rw[List.getElem?_take_of_lt (by omega)] at e
  exact⟨e,by omega⟩
 obtain⟨e1,_⟩:=g i hi
 obtain⟨e2,l2⟩:=g j hj
 rw[<- tR e1,<- tR e2]
 exact h _ _ (by omega) (by omega) l2
theorem xZ{xs:Array Keyed}(h:Pw xs.toList):SortedTo xs xs.size:=fun i j hij hj=>by
 have hj':j<xs.toList.length:=by rw[Array.length_toList];exact hj
 have hi':i<xs.toList.length:=by omega
 rw[tR (List.getElem?_eq_getElem hi'),tR (List.getElem?_eq_getElem hj')]
 by_cases z:i=j
 ·subst z;exact Int.le_refl _
 ·exact List.pairwise_iff_getElem.mp h i j hi' hj' (by omega)
theorem yy(k:Nat):∀(m:List Keyed) (i:Nat) (arr:Array Keyed),k+i+m.length<=arr.size->((m.zipIdx i).foldl (fun a x=>a.setIfInBounds (k+x.2) x.1) arr).toList=arr.toList.take (k+i)++m++arr.toList.drop (k+i+m.length)
 | [],i,arr,_=>by simp
 | x::m,i,arr,h=>by
  rw[List.length_cons] at h
  rw[List.zipIdx_cons,List.foldl_cons,yy k m (i+1) _ (by rw[Array.size_setIfInBounds];omega),Array.toList_setIfInBounds]
  have hl:k+i<arr.toList.length:=by rw[Array.length_toList];omega
  have e1:(arr.toList.set (k+i) x).take (k+(i+1))=arr.toList.take (k+i)++[x]:=by
   rw[<- Nat.add_assoc,List.take_add_one,List.getElem?_set_self hl,List.take_set_of_le (Nat.le_refl _)];rfl
  have e2:(arr.toList.set (k+i) x).drop (k+(i+1)+m.length)=arr.toList.drop (k+i+(x::m).length):=by
   rw[List.drop_set_of_lt (by omega)]
   congr 1
   simp;omega
  rw[e1,e2]
  simp
section
variable{a₀:Array Keyed}{prog:Program}{w:World}{A:Around}{E:Value->Shared->Prop}{s:Shared}
theorem Cm{σ:Type}{st st':σ}{Q:PUnit->σ->Prop}(h:Q ⟨⟩ st'):wpS (model prog w) A E s (set st':StateT σ Sem PUnit) Q st:=by
 unfold wpS
 rw[StateT.run_set]
 exact wpAny_pure ⟨rfl,h⟩
theorem CZ{st:SortSt}{n1 n2 pw z:Nat}(hp:(arrOf st).Perm a₀)(hk:kindOf st=oneType')(hf:failedOf st=none)(hpe:pendingOf st=#[(0,n1,pw),(n1,n2,z)])(h0:IntKeys a₀)(hn:n1+n2=a₀.size)(p1:1<=n1)(p2:1<=n2)(s1:vC (arrOf st) 0 n1)(s2:vC (arrOf st) n1 (n1+n2)){Q:Bool->SortSt->Prop}
  (hq:∀st',(arrOf st').Perm a₀->kindOf st'=oneType'->failedOf st'=none->pendingOf st'=#[(0,n1+n2,pw)]->SortedTo (arrOf st') a₀.size->Q true st'):wpS (model prog w) A E s (mergeAt' 0) Q st:=by
 have hsz:(arrOf st).size=n1+n2:=by rw[hp.size_eq,hn]
 have hint:vY (arrOf st).toList:=fun x hx=>h0 x ((Array.perm_iff_toList_perm.mp hp).mem_iff.mp hx)
 have pa:Pw ((arrOf st).toList.take n1):=BW s1
 have pb:Pw ((arrOf st).toList.drop n1):=by
  have:=BW s2
  rw[List.take_of_length_le (by rw[Array.length_toList];omega)] at this
  exact this
 have prt:∀base n,base+n<=n1+n2->vC (arrOf st) base (base+n)->z8 (arrOf st) base n:=fun base n hb hs=>by
  refine⟨fun i hi=>?_,fun i j x y hij hj e1 e2=>?_⟩
  ·obtain⟨x,e1,_,e3⟩:=ot (a:=arrOf st) (i:=base+i) (by omega)
   exact⟨x,e1,hint x e3⟩
  ·rw[<- tR (by rw[Array.getElem?_toList];exact e1),<- tR (by rw[Array.getElem?_toList];exact e2)]
   exact hs _ _ (by omega) (by omega) (by omega)
 have hpe':(sortPriv% PySem.Builtin.SortState.pending) st=#[(0,n1,pw),(n1,n2,z)]:=hpe
 refine wpS_bind (wpS_get ?_)
 dsimp only
 rw[hpe']
 refine wpS_bind (Cm ?_)
 obtain⟨key,k1,k2,k3⟩:=ot (a:=arrOf st) (i:=n1) (by omega)
 refine wpS_bind (nS k1 ?_)
 refine wpS_bind (p_ hk (hint key k3) (prt 0 n1 (by omega) (by rw[Nat.zero_add];exact s1)) (by omega) fun k kn1 g1 g2=>?_)
 have keyB:Up [key] ((arrOf st).toList.drop n1):=fun u hu v hv=>by
  rw[List.mem_singleton.mp hu]
  rw[k2] at hv pb
  rcases List.mem_cons.mp hv with rfl | hv
  ·exact Int.le_refl _
  ·exact List.rel_of_pairwise_cons pb hv
 have lowA:Up ((arrOf st).toList.take k) [key]:=fun u hu v hv=>by
  rw[List.mem_singleton.mp hv]
  obtain⟨n,hn',e⟩:=xE hu
  have:=g1 n u hn' e
  unfold ud at this
  rw[if_neg Bool.false_ne_true,Bool.not_eq_true',decide_eq_false_iff_not] at this
  exact Int.not_lt.mp this
 have whole:(arrOf st).toList=(arrOf st).toList.take n1++(arrOf st).toList.drop n1:=(List.take_append_drop _ _).symm
 have penOk:((#[(0,n1,pw),(n1,n2,z)]:Array (Nat×Nat×Nat)).setIfInBounds 0 (0,n1+n2,pw)).eraseIdxIfInBounds (0+1)=#[(0,n1+n2,pw)]:=by simp[Array.eraseIdxIfInBounds,Array.eraseIdx]
 dsimp only
 by_cases e:n1 - k=0
 ·rw[if_pos (by simpa using e)]
  have ek:k=n1:=by omega
  subst ek
  refine wpS_pure (hq _ hp hk hf penOk ?_)
  have hs':SortedTo (arrOf st) (arrOf st).size:=xZ (by
   rw[whole]
   exact Pw.app pa pb fun u hu v hv=>Int.le_trans (lowA u hu key (.head _)) (keyB key (.head _) v hv))
  rw[hp.size_eq] at hs'
  exact hs'
 rw[if_neg (by simpa using e)]
 obtain⟨top,t1,t2,t3⟩:=nR (a:=arrOf st) (i:=n1 - 1) (by omega)
 have e1:0+k+(n1 - k) - 1=n1 - 1:=by omega
 refine wpS_bind (nS (x:=top) (by rw[e1];exact t1) ?_)
 refine wpS_bind (p_ hk (hint top t3) (prt n1 n2 (Nat.le_refl _) s2) (by omega) fun nb nb1 f1 f2=>?_)
 rw[show n1 - 1+1=n1 by omega] at t2
 have topA:Up ((arrOf st).toList.take n1) [top]:=fun u hu v hv=>by
  rw[List.mem_singleton.mp hv]
  rw[t2] at hu pa
  rcases List.mem_append.mp hu with hu | hu
  ·exact(List.pairwise_append.mp pa).2.2 u hu top (.head _)
  ·rw[List.mem_singleton.mp hu];exact Int.le_refl _
 have highB:Up [top] ((arrOf st).toList.drop (n1+nb)):=fun u hu v hv=>by
  rw[List.mem_singleton.mp hu]
  obtain⟨n,hn',hn2,e⟩:=wk hv
  have:=f2 n v hn' (by rw[hsz] at hn2;omega) e
  unfold ud at this
  rw[if_pos rfl,decide_eq_false_iff_not] at this
  exact Int.not_lt.mp this
 have midB:Up (((arrOf st).toList.drop n1).take nb) [top]:=fun u hu v hv=>by
  rw[List.mem_singleton.mp hv]
  obtain⟨n,hn',e⟩:=ul hu
  have:=f1 n u hn' e
  unfold ud at this
  rw[if_pos rfl,decide_eq_true_iff] at this
  exact Int.le_of_lt this
 have midA:Up [key] (((arrOf st).toList.take n1).drop k):=fun u hu v hv=>by
  rw[List.mem_singleton.mp hu]
  obtain⟨n,hn',hn2,e⟩:=xW hv
  have:=g2 n v hn' hn2 e
  unfold ud at this
  rw[if_neg Bool.false_ne_true,Bool.not_eq_false',decide_eq_true_iff] at this
  exact Int.le_of_lt this
 dsimp only
 by_cases e2:nb=0
 ·rw[if_pos (by simpa using e2)]
  subst e2
  refine wpS_pure (hq _ hp hk hf penOk ?_)
  have hs':SortedTo (arrOf st) (arrOf st).size:=xZ (by
   rw[whole]
   exact Pw.app pa pb fun u hu v hv=>Int.le_trans (topA u hu top (.head _)) (highB top (.head _) v hv))
  rw[hp.size_eq] at hs'
  exact hs'
 rw[if_neg (by simpa using e2)]
 have sA:=tG (arrOf st).toList kn1
 have sB:=wy (arrOf st).toList n1 nb
 have whole2:(arrOf st).toList=(arrOf st).toList.take k++(((arrOf st).toList.take n1).drop k++((arrOf st).toList.drop n1).take nb)++(arrOf st).toList.drop (n1+nb):=by
  conv=>lhs;rw[whole,sA,sB]
  simp[List.append_assoc]
 have pX:Pw (((arrOf st).toList.take n1).drop k):=pa.sublist (List.drop_sublist _ _)
 have pY:Pw (((arrOf st).toList.drop n1).take nb):=pb.sublist (List.take_sublist _ _)
 have xl:((arrOf st).extract (0+k) n1).toList=((arrOf st).toList.take n1).drop k:=by rw[rO,Nat.zero_add]
 have yl:((arrOf st).extract n1 (n1+nb)).toList=((arrOf st).toList.drop n1).take nb:=sU _ _ _
 have xs1:((arrOf st).extract (0+k) n1).size=n1 - k:=by rw[<- Array.length_toList,xl,List.length_drop,List.length_take,Array.length_toList];omega
 have ys1:((arrOf st).extract n1 (n1+nb)).size=nb:=by rw[<- Array.length_toList,yl,List.length_take,List.length_drop,Array.length_toList];omega
 have endOk:∀(r:Array Keyed) (st2:SortSt),arrOf st2=arrOf st->qz (((arrOf st).extract (0+k) n1).toList++((arrOf st).extract n1 (n1+nb)).toList) r.toList ->
   (r.toList.zipIdx.foldl (fun a x=>a.setIfInBounds (0+k+x.2) x.1) (arrOf st2)).Perm a₀/\SortedTo (r.toList.zipIdx.foldl (fun a x=>a.setIfInBounds (0+k+x.2) x.1) (arrOf st2)) a₀.size:=fun r st2 ea ho=>by
  rw[xl,yl] at ho
  have rl:r.toList.length=n1 - k+nb:=by
   have l:=ho.2.length_eq
   rw[List.length_append] at l
   have l1:(((arrOf st).toList.take n1).drop k).length=n1 - k:=by rw[<- xl,Array.length_toList,xs1]
   have l2:(((arrOf st).toList.drop n1).take nb).length=nb:=by rw[<- yl,Array.length_toList,ys1]
   omega
  have e3:=yy (0+k) r.toList 0 (arrOf st2) (by rw[ea,hsz];omega)
  rw[ea] at e3 ⊢
  rw[show 0+k+0=k by omega,show k+r.toList.length=n1+nb by omega] at e3
  have pm:((arrOf st).toList.take k++r.toList++(arrOf st).toList.drop (n1+nb)).Perm (arrOf st).toList:=by
   conv=>rhs;rw[whole2]
   exact((List.Perm.append_left _ ho.2).append_right _)
  have per:(r.toList.zipIdx.foldl (fun a x=>a.setIfInBounds (0+k+x.2) x.1) (arrOf st)).Perm a₀:=by
   refine Array.Perm.trans (Array.perm_iff_toList_perm.mpr ?_) hp
   rw[e3];exact pm
  refine⟨per,?_⟩
  have so:=xZ (xs:=r.toList.zipIdx.foldl (fun a x=>a.setIfInBounds (0+k+x.2) x.1) (arrOf st)) (by
   rw[e3]
   have mem:∀x∈r.toList,x∈((arrOf st).toList.take n1).drop k\/x∈((arrOf st).toList.drop n1).take nb:=fun x hx=>List.mem_append.mp (ho.2.mem_iff.mp hx)
   have pu:Pw ((arrOf st).toList.take k):=by
    have:=pa.sublist (List.take_sublist k _)
    rw[List.take_take,Nat.min_eq_left kn1] at this
    exact this
   refine Pw.app (Pw.app pu ho.1 fun u hu v hv=>?_) (pb.sublist (by rw[<- List.drop_drop];exact List.drop_sublist _ _)) fun u hu v hv=>?_
   ·rcases mem v hv with z1 | z1
    ·rw[sA] at pa
     exact(List.pairwise_append.mp pa).2.2 u hu v z1
    ·exact Int.le_trans (lowA u hu key (.head _)) (keyB key (.head _) v (List.mem_of_mem_take z1))
   ·rcases List.mem_append.mp hu with z1 | z1
    ·refine Int.le_trans (lowA u z1 key (.head _)) (keyB key (.head _) v ?_)
     rw[<- List.drop_drop] at hv
     exact List.mem_of_mem_drop hv
    ·rcases mem u z1 with z2 | z2
     ·exact Int.le_trans (topA u (List.mem_of_mem_drop z2) top (.head _)) (highB top (.head _) v hv)
     ·exact Int.le_trans (midB u z2 top (.head _)) (highB top (.head _) v hv))
  rw[per.size_eq] at so
  exact so
 have g0:∀y,((arrOf st).extract n1 (n1+nb))[0]?=some y->Up [y] ((arrOf st).extract (0+k) n1).toList:=fun y hy=>by
  rw[xl]
  have:y=key:=by
   rw[<- Array.getElem?_toList,yl,List.getElem?_take_of_lt (by omega),List.getElem?_drop,Array.getElem?_toList,Nat.add_zero,k1] at hy
   exact(Option.some.inj hy).symm
  rw[this];exact midA
 have gl:∀x,((arrOf st).extract (0+k) n1)[((arrOf st).extract (0+k) n1).size - 1]?=some x->Up ((arrOf st).extract n1 (n1+nb)).toList [x]:=fun x hx=>by
  rw[yl]
  have:x=top:=by
   rw[xs1,<- Array.getElem?_toList,xl,List.getElem?_drop,List.getElem?_take_of_lt (by omega),Array.getElem?_toList,show k+(n1 - k - 1)=n1 - 1 by omega,t1] at hx
   exact(Option.some.inj hx).symm
  rw[this];exact midB
 have iX:vY ((arrOf st).extract (0+k) n1).toList:=fun x hx=>hint x (by rw[xl] at hx;exact List.mem_of_mem_take (List.mem_of_mem_drop hx))
 have iY:vY ((arrOf st).extract n1 (n1+nb)).toList:=fun x hx=>hint x (by rw[yl] at hx;exact List.mem_of_mem_drop (List.mem_of_mem_take hx))
 by_cases e4:n1 - k<=nb
 ·rw[if_pos e4]
  refine wpS_bind (xD (a:=(arrOf st).extract (0+k) n1) (b:=(arrOf st).extract n1 (n1+nb)) hk (by rw[xl];exact pX) (by rw[yl];exact pY) iX iY (by rw[xs1];omega) (by rw[ys1];omega) g0 gl fun r st2 hs ho=>?_)
  obtain⟨o1,o2⟩:=endOk r st2 hs.arr ho
  refine wpS_bind (wpS_modify (wpS_bind (wpS_get ?_)))
  have hf2:failedOf st2=none:=hs.failed.trans hf
  have:(failedOf st2).isNone=true:=by rw[hf2];rfl
  refine wpS_pure ?_
  show Q (failedOf st2).isNone _
  rw[this]
  exact hq _ o1 (hs.kind.trans hk) hf2 (hs.pend.trans penOk) o2
 ·rw[if_neg e4]
  refine wpS_bind (xw (a:=(arrOf st).extract (0+k) n1) (b:=(arrOf st).extract n1 (n1+nb)) hk (by rw[xl];exact pX) (by rw[yl];exact pY) iX iY (by rw[xs1];omega) (by rw[ys1];omega) g0 gl fun r st2 hs ho=>?_)
  obtain⟨o1,o2⟩:=endOk r st2 hs.arr ho
  refine wpS_bind (wpS_modify (wpS_bind (wpS_get ?_)))
  have hf2:failedOf st2=none:=hs.failed.trans hf
  have:(failedOf st2).isNone=true:=by rw[hf2];rfl
  refine wpS_pure ?_
  show Q (failedOf st2).isNone _
  rw[this]
  exact hq _ o1 (hs.kind.trans hk) hf2 (hs.pend.trans penOk) o2
end
theorem y9{n:Nat}(h1:64<=n)(h2:n<128):minRun' n n 0=n / 2+n%2:=by
 obtain⟨f,rfl⟩:∃f,n=f+2:=⟨n - 2,by omega⟩
 rw[minRun'_succ,if_neg (by omega),minRun'_succ,if_pos (by omega)]
 omega
section
variable{a₀:Array Keyed}{prog:Program}{w:World}{A:Around}{E:Value->Shared->Prop}{s:Shared}
inductive uM (a₀:Array Keyed) (st:SortSt):Prop
 | one:pendingOf st=#[(0,a₀.size,0)]->vC (arrOf st) 0 a₀.size->uM a₀ st
 | two (n1 n2 pw:Nat):n1+n2=a₀.size->1<=n1->1<=n2->pendingOf st=#[(0,n1,pw),(n1,n2,0)]->vC (arrOf st) 0 n1->vC (arrOf st) n1 (n1+n2)->uM a₀ st
structure Sd (a₀:Array Keyed) (st:SortSt):Prop where
 perm:(arrOf st).Perm a₀
 kind:kindOf st=oneType'
 failed:failedOf st=none
theorem AW{st:SortSt}(hd:Sd a₀ st)(hp:pendingOf st=#[])(h0:IntKeys a₀)(h1:64<=a₀.size)(h2:a₀.size<128){Q:Unit->SortSt->Prop}
  (hq:∀st',(arrOf st').Perm a₀->failedOf st'=none->SortedTo (arrOf st') a₀.size->Q () st'):wpS (model prog w) A E s sortRuns' Q st:=by
 have hsz:(arrOf st).size=a₀.size:=hd.perm.size_eq
 generalize hn:a₀.size=n at *
 have hr:=y9 h1 h2
 rw[sortRuns'_eq]
 refine wpS_bind (wpS_get ?_)
 dsimp only
 rw[hsz,hr]
 refine wpS_bind (wpS_mono (wpS_forRange
  (I:=fun x c st'=>Sd a₀ st'/\((x=0/\c=(none,0)/\pendingOf st'=#[])\/(x=1/\∃n1,c=(none,n1)/\n1<n/\n / 2+n%2<=n1/\pendingOf st'=#[(0,n1,0)]/\vC (arrOf st') 0 n1)\/(1<=x/\c=(none,n)/\uM a₀ st')))
  (Q:=fun c st'=>Sd a₀ st'/\c=(none,n)/\uM a₀ st') ?step ?fin ⟨hd,.inl ⟨rfl,rfl,hp⟩⟩) ?post)
 case fin =>
  rintro c st' ⟨d,⟨hx,_⟩ | ⟨hx,_⟩ | ⟨_,rfl,dn⟩⟩
  ·omega
  ·omega
  ·exact⟨d,rfl,dn⟩
 case step =>
  rintro x c st' _ hx ⟨d,⟨rfl,rfl,e⟩ | ⟨rfl,n1,rfl,l1,l2,e,so⟩ | ⟨hx1,rfl,dn⟩⟩
  ·dsimp only
   rw[if_neg (by omega)]
   have sc:Sc a₀ #[] 0 (arrOf st') st':=⟨d.perm,d.kind,d.failed,e,fun k hk=>by omega⟩
   refine wpS_bind (zB sc h0 (by omega) (by omega) fun m st2 sc2 m1 m2 s2=>?_)
   dsimp only
   have fin1:∀(n1:Nat) (st3:SortSt),Sc a₀ #[] 0 (arrOf st') st3->n / 2+n%2<=n1->n1<=n->vC (arrOf st3) 0 (0+n1)->Sd a₀ (setPending st3 ((pendingOf st3).push (0,n1,0)))/\((0+1=0/\((none,0+n1):Option Unit×Nat)=(none,0)/\pendingOf (setPending st3 ((pendingOf st3).push (0,n1,0)))=#[])\/(0+1=1/\∃n2,((none,0+n1):Option Unit×Nat)=(none,n2)/\n2<n/\n / 2+n%2<=n2/\pendingOf (setPending st3 ((pendingOf st3).push (0,n1,0)))=#[(0,n2,0)]/\vC (arrOf st3) 0 n2)\/(1<=0+1/\((none,0+n1):Option Unit×Nat)=(none,n)/\uM a₀ (setPending st3 ((pendingOf st3).push (0,n1,0))))):=fun n1 st3 c3 b1 b2 b3=>by
    rw[Nat.zero_add] at b3
    have hpe:(pendingOf st3).push (0,n1,0)=#[(0,n1,0)]:=by rw[c3.pend];rfl
    refine⟨⟨c3.perm,c3.kind,c3.failed⟩,?_⟩
    by_cases z:n1<n
    ·exact .inr (.inl ⟨rfl,n1,by rw[Nat.zero_add],z,b1,hpe,b3⟩)
    ·have z':n1=n:=by omega
     subst z'
     exact .inr (.inr ⟨Nat.le_refl _,by rw[Nat.zero_add],.one (by rw[hn];exact hpe) (by rw[hn];exact b3)⟩)
   by_cases hm:m<n / 2+n%2
   ·rw[if_pos hm]
    refine wpS_bind (wpS_lift (wpAny_rule ⟨rfl,?_⟩))
    refine wpS_bind (Al sc2 h0 (by omega) (by omega) s2 fun st3 sc3 s3=>?_)
    rw[if_neg (by simp)]
    refine wpS_bind (wpS_get ?_)
    have hb:(pendingOf st3).back?=none:=by rw[sc3.pend];rfl
    rw[hb]
    exact wpS_bind (wpS_modify (wpS_pure (fin1 _ st3 sc3 (by omega) (by omega) s3)))
   ·rw[if_neg hm]
    refine wpS_bind (wpS_get ?_)
    have hb:(pendingOf st2).back?=none:=by rw[sc2.pend];rfl
    rw[hb]
    exact wpS_bind (wpS_modify (wpS_pure (fin1 _ st2 sc2 (by omega) (by omega) s2)))
  ·dsimp only
   rw[if_neg (by omega)]
   have sc:Sc a₀ #[(0,n1,0)] n1 (arrOf st') st':=⟨d.perm,d.kind,d.failed,e,fun k hk=>rfl⟩
   refine wpS_bind (zB sc h0 (by omega) (by omega) fun m st2 sc2 m1 m2 s2=>?_)
   dsimp only
   have fin2:∀(st3:SortSt) (pw:Nat),Sc a₀ #[(0,n1,0)] n1 (arrOf st') st3->vC (arrOf st3) n1 (n1+(n - n1))->uM a₀ (setPending (setPending st3 ((pendingOf st3).modify ((pendingOf st3).size - 1) fun x=>(x.1,x.2.1,pw))) (((pendingOf st3).modify ((pendingOf st3).size - 1) fun x=>(x.1,x.2.1,pw)).push (n1,n - n1,0))):=fun st3 pw c3 b3=>by
    have hpe:((pendingOf st3).modify ((pendingOf st3).size - 1) fun x=>(x.1,x.2.1,pw)).push (n1,n - n1,0)=#[(0,n1,pw),(n1,n - n1,0)]:=by rw[c3.pend];rfl
    refine .two n1 (n - n1) pw (by omega) (by omega) (by omega) hpe (fun i j a1 a2 a3=>?_) b3
    show K (arrOf st3) i<=K (arrOf st3) j
    rw[c3.low i (by omega),c3.low j a3]
    exact so i j a1 a2 a3
   have loop:∀(st3:SortSt) (f:Nat->Option Unit×Unit->StateT SortSt Sem (ForInStep (Option Unit×Unit))),(∀x Q',Q' (ForInStep.done (none,())) st3->wpS (model prog w) A E s (f x (none,())) Q' st3)->wpS (model prog w) A E s (forIn [0:n] (none,()) f) (fun c st4=>st4=st3/\c=(none,())) st3:=fun st3 f hf =>
    wpS_forRange (I:=fun _ c st4=>st4=st3/\c=(none,())) (fun x c st4 _ _ hc=>by obtain⟨rfl,rfl⟩:=hc;exact hf x _ ⟨rfl,rfl⟩) (fun _ _ hc=>hc) ⟨rfl,rfl⟩
   have nn:n1+(n - n1)=n:=by omega
   by_cases hm:m<n / 2+n%2
   case' pos =>
    rw[if_pos hm]
    refine wpS_bind (wpS_lift (wpAny_rule ⟨rfl,?_⟩))
    have fo:min (n - n1) (n / 2+n%2)=n - n1:=by omega
    rw[fo]
    refine wpS_bind (Al sc2 h0 (by omega) (by omega) s2 fun st3 sc3 s3=>?_)
    rw[if_neg (by simp)]
   case' neg =>
    rw[if_neg hm]
    have em:m=n - n1:=by omega
    subst em
    have sc3:=sc2
    have s3:=s2
    generalize hst3:st2=st3 at sc3 s3 ⊢
   all_goals
    refine wpS_bind (wpS_get ?_)
    have hb:(pendingOf st3).back?=some (0,n1,0):=by rw[sc3.pend];rfl
    rw[hb]
    dsimp only
    refine wpS_bind (wpS_mono (loop st3 _ fun x Q' hQ=>?_) ?_)
    ·refine wpS_bind (wpS_get ?_)
     have hz:¬ (pendingOf st3).size > 1:=by rw[sc3.pend];exact(show ¬ 1 > 1 by decide)
     rw[if_neg hz]
     exact wpS_pure hQ
    ·rintro c st4 ⟨rfl,rfl⟩
     refine wpS_bind (wpS_modify (wpS_bind (wpS_modify (wpS_pure ⟨⟨sc3.perm,sc3.kind,sc3.failed⟩,.inr (.inr ⟨by omega,by rw[nn],fin2 _ _ sc3 s3⟩)⟩))))
  ·dsimp only
   rw[if_pos (Nat.le_refl _)]
   exact wpS_pure ⟨d,rfl,dn⟩
 case post =>
  rintro c st' ⟨d,rfl,dn⟩
  dsimp only
  refine wpS_bind (wpS_mono (wpS_forRange
   (I:=fun x c st2=>c=(none,())/\Sd a₀ st2/\((x=0/\uM a₀ st2)\/(1<=x/\(pendingOf st2).size<=1/\SortedTo (arrOf st2) n)))
   (Q:=fun c st2=>c=(none,())/\Sd a₀ st2/\SortedTo (arrOf st2) n) ?mstep ?mfin ⟨rfl,d,.inl ⟨rfl,dn⟩⟩) ?mpost)
  case mfin =>
   rintro c st2 ⟨rfl,d2,⟨hx,_⟩ | ⟨_,_,so⟩⟩
   ·omega
   ·exact⟨rfl,d2,so⟩
  case mpost =>
   rintro c st2 ⟨rfl,d2,so⟩
   exact wpS_pure (hq st2 d2.perm d2.failed so)
  case mstep =>
   rintro x c st2 _ hx ⟨rfl,d2,⟨rfl,dn2⟩ | ⟨_,hz,so⟩⟩
   ·refine wpS_bind (wpS_get ?_)
    cases dn2 with
    | one e so =>
     rw[if_pos (by rw[e];exact Nat.le_refl 1)]
     exact wpS_pure ⟨rfl,d2,fun i j hij hj=>so i j (Nat.zero_le _) hij (by rw[hn];exact hj)⟩
    | two n1 n2 pw q1 q2 q3 e s1 s2 =>
     rw[if_neg (by rw[e];exact(show ¬ 2<=1 by decide))]
     have ei:(if Option.any (fun x=>decide (x<(pendingOf st2)[(pendingOf st2).size - 2+1]?.elim 0 fun x=>x.snd.fst)) (if (pendingOf st2).size - 2 > 0 then Option.map (fun x=>x.snd.fst) (pendingOf st2)[(pendingOf st2).size - 2 - 1]? else none)=true then (pendingOf st2).size - 2 - 1 else (pendingOf st2).size - 2)=0:=by rw[e];rfl
     rw[ei]
     refine wpS_bind (CZ d2.perm d2.kind d2.failed e h0 q1 q2 q3 s1 s2 fun st3 t1 t2 t3 t4 t5=>?_)
     rw[if_neg (by simp)]
     exact wpS_pure ⟨rfl,⟨t1,t2,t3⟩,.inr ⟨by omega,by rw[t4];exact Nat.le_refl 1,by rw[hn] at t5;exact t5⟩⟩
   ·refine wpS_bind (wpS_get ?_)
    rw[if_pos hz]
    exact wpS_pure ⟨rfl,d2,so⟩
end
end HW
namespace HW
open PySem PySem.Spec PyProof.Rows
section
variable{prog:Program}{w:World}{A:Around}{E:Value->Shared->Prop}{s:Shared}
theorem Aj{a₀:Array (Value×Value)}{st:SortSt}(hd:Sd a₀ st)(hp:pendingOf st=#[])(h0:IntKeys a₀)(h1:2<=a₀.size)(h2:a₀.size<128){Q:Unit->SortSt->Prop}
  (hq:∀st',(arrOf st').Perm a₀->failedOf st'=none->SortedTo (arrOf st') a₀.size->Q () st'):wpS (model prog w) A E s sortRuns' Q st:=by
 by_cases hc:a₀.size<64
 ·exact wpS_sortRuns h0 ⟨hd.perm,hd.kind,hd.failed,hp⟩ h1 hc hq
 ·exact AW hd hp h0 (by omega) h2 hq
theorem AN{us:List Value}{ks:List Int}(hk:IntsAre us ks)(h:2<=us.length):keyKind' us.toArray=pure oneType':=by
 match us,hk,h with
 | [],_,h=>simp at h
 | [_],_,h=>simp at h
 | a::b::r,hk,_=>exact keyKind_ints hk
theorem ko{L:Addr}{us:List Value}{ks:List Int}{e₀:Nat}{P:Fin->Shared->Prop}(ho:s.heap.get? L=some (seqObj "list" us.toArray e₀))
  (hk:IntsAre us ks) (hb:us.length<128)
  (h:∀(o:Array Value) (ms:List Int),IntsAre o.toList ms->ms.Perm ks->ms.Pairwise (·<=·)->P (.done (.ret .none)) {s with heap:=sortedHeap s.heap L us o}) :
  wpAny (model prog w) A (Builtin.«list.sort» ⟨[.ref L],[]⟩) P E s:=by
 by_cases hc:us.length<64
 ·exact list_sort_tree ho hk hc h
 rw[list_sort_plain]
 have hL:=Heap.lt_size ho
 refine wpAny_bind (listItems_at ho rfl (wpAny_bind (listUpdate_at ho rfl ?_)))
 obtain⟨m1,g1⟩:∃m,(s.heap.update L (Obj.mapSeq fun _=>#[])).get? L=some (seqObj "list" #[] m):=⟨_,get?_update_seq ho _⟩
 refine wpAny_bind (seqEpoch_at g1 rfl (wpAny_bind (wpAny_newTuple (wpAny_bind (wpAny_newList (wpAny_holding ?_))))))
 have g2:=Heap.get?_push_of_some (seqObj "list" #[] 0) (Heap.get?_push_of_some (seqObj "tuple" us.toArray 0) g1)
 dsimp only
 have n2:¬ us.toArray.size<2:=by simp;omega
 rw[if_neg n2,if_neg n2,AN hk (by omega)]
 refine wpAny_bind (wpAny_pure (wpAny_bind (wpAny_mono (Aj (a₀:=pairsOf us) (st:=SortSt.mk' oneType' (us.toArray.zip us.toArray) #[] 7 none)
  (Q:=fun _ z=>(arrOf z).Perm (pairsOf us)/\failedOf z=none/\SortedTo (arrOf z) (pairsOf us).size)
  ⟨Array.Perm.refl _,rfl,rfl⟩ rfl hk.intKeys (by rw[pairsOf_size];omega) (by rw[pairsOf_size];exact hb) fun z b1 b2 b3=>⟨b1,b2,b3⟩) ?_ fun _ _ e=>e)))
 rintro⟨⟨⟩,z⟩ s' ⟨rfl,p1,p2,p3⟩
 dsimp only
 refine wpAny_bind (seqEpoch_at g2 rfl ?_)
 have hz:((arrOf z).map (·.2)).size<=sizeLine+1:=by rw[Array.size_map,p1.size_eq,pairsOf_size,sizeLine_eq];omega
 refine wpAny_bind (listUpdate_at g2 rfl ?_ (hsz2:=hz))
 rw[p2]
 simp only[bne_self_eq_false,Bool.false_eq_true,if_false]
 obtain⟨ms,q1,q2,q3⟩:=sorted_out hk p1 p3
 exact wpAny_pure (h _ ms q1 q2 q3)
end
set_option maxHeartbeats 3200000
def sf(val:Nat->Int)(i:Nat):List Int:=((List.range i).map val).foldl oV []
theorem yT(val:Nat->Int)(i:Nat):sf val (i+1)=oV (sf val i) (val i):=by
 unfold sf;rw[List.range_succ,List.map_append,List.foldl_append];rfl
theorem zY(val:Nat->Int)(i:Nat):(sf val i).length<=i:=by
 have:=qI ((List.range i).map val) []
 unfold sf
 simpa using this
section
variable{prog:Program}{w:World}{A:Around}{R:Result->Shared->Prop}{I:Addr}{fp wr:List Addr}{G:Array GenState->Array GenState->Prop}{n:Nat}{P:Nat->Value->Prop}{St:Nat->Shared->Prop}
theorem iE{b:Bool}(W:WalksS prog w A.in1 I fp wr G n P St)(S:Addr)(hSf:S∉fp)
  (val:Nat->Int) (hval:∀i v,P i v->∃t,v=.int (val i) t) (hb:n<=120) :
  ∀(k i:Nat) (s:Shared),n - i=k->i<=n->St i s->qE b s.heap S (sf val i) ->
   (∀s',Moved (S::wr) G s s'->qE b s'.heap S (sf val n)->R (.ok (.ret .none)) s') ->
   codeAny (model prog w) A (.builtin "set.update.loop" ⟨[.ref S,.ref I],[]⟩) R s:=by
 have hSw:S∉wr:=fun h=>hSf (W.sub _ h)
 have hsub:∀b∈wr,b∈S::wr:=fun b hb=>List.mem_cons_of_mem _ hb
 intro k
 induction k with
 | zero =>
  intro i s hk hi hst hS hR
  have hin:i=n:=by omega
  subst hin
  refine codeAny_builtin F.entry_set_update_loop ?_
  rw[Around.under_plainId F.plain_set_update_loop _]
  show wpAny _ A.in1 (pyNext (.ref I) >>= _) _ _ s
  refine wpAny_bind (W.done s _ _ hst fun s' hm=>?_)
  show wpAny _ A.in1 (ret Value.none) _ _ s'
  exact wpAny_pure (hR s' (hm.mono hsub) (hS.at fun o ho=>hm.heap S _ hSw ho))
 | succ k ih =>
  intro i s hk hi hst hS hR
  have hlt:i<n:=by omega
  refine codeAny_builtin F.entry_set_update_loop ?_
  rw[Around.under_plainId F.plain_set_update_loop _]
  show wpAny _ A.in1 (pyNext (.ref I) >>= _) _ _ s
  refine wpAny_bind (W.item i s _ _ hlt hst fun v s' hP hst' hm=>?_)
  obtain⟨t,rfl⟩:=hval i v hP
  have hS':qE b s'.heap S (sf val i):=hS.at fun o ho=>hm.heap S _ hSw ho
  show wpAny _ A.in1 (holding [Value.int (val i) t] (setAdd S (.int (val i) t)) >>= _) _ _ s'
  refine wpAny_bind (wpAny_holding ?_)
  unfold setAdd
  refine wpAny_holding ?_
  refine wpAny_bind ((intKind prog w).pyHash (k:=val i) (intKind_is _ _ _ _) ?_)
  have hroom:(sf val i).length<120:=by have:=zY val i;omega
  refine yG (s:={s' with toks:=s'.toks+1}) hS' hroom fun r h' hsb hS2=>?_
  have hSi:qE b h' S (sf val (i+1)):=by rw[yT];exact hS2
  refine wpAny_pure ⟨plainId_quiet F.plain_set_update_loop _,ih (i+1) _ (by omega) hlt (W.frame _ s' _ _ hst' (Nat.le_succ _) fun b hb o e=>?_) hSi fun s'' hm'' hS''=>?_⟩
  ·rw[hsb.2 b (fun h:b=S=>hSf (by rw[<- h];exact hb))];exact e
  ·refine hR s'' (Moved.trans W.gtrans ((hm.mono hsub).then_heap (Nat.le_succ _) fun b o hb e=>?_) hm'') hS''
   rw[hsb.2 b (fun h:b=S=>hb (by rw[h];exact List.mem_cons_self))];exact e
end
section
variable{prog:Program}{w:World}{A:Around}{E:Value->Shared->Prop}{s:Shared}
abbrev oe(w:World):Obj:={cls:=.type "set",dict:=none,data:=.set #[] 0 (.fresh 0 0 (!oz w))}
theorem yo(a:Value){Q₁:Value->Shared->Prop}
  (h:Q₁ (.ref s.heap.objs.size) {s with heap:=s.heap.push (oe w)}) :
  codeAny (model prog w) A (.call (.builtin "set.__new__") ⟨[.type "set",a],[]⟩) (wants Q₁ E) s:=by
 refine codeAny_of_tree ?_
 show wpAny _ A.in1 (do checkBuiltinCall "set.__new__" ⟨[.type "set",a],[]⟩;again (.builtin "set.__new__" ⟨[.type "set",a],[]⟩)) _ _ s
 refine wpAny_bind (wpAny_of_eq (PySem.F.newCall_set_1 a) (wpAny_pure ⟨plainId_quiet PySem.F.plain_set_new _,codeAny_builtin PySem.F.entry_set_new ?_⟩))
 rw[Around.under_plainId PySem.F.plain_set_new _]
 unfold Builtin.«set.__new__» Builtin.Frozenset.newClass
 have hsub:=PySem.sub_set_self
 obtain⟨hp,g,d,tk,os⟩:=s
 dsimp only
 wp_walk
 refine wpAny_askSetting (wpAny_pure ?_)
 dsimp only
 simp only[newObj]
 refine wpAny_bind (wpAny_alloc (wpAny_pure ?_))
 exact wpAny_pure h
theorem qE.new{h:Heap}{w:World}:qE (!oz w) (h.push (oe w)) h.objs.size []:=
 ⟨oe w,#[],0,_,Heap.get?_push_size _ rfl,⟨rfl,rfl,rfl⟩,rfl,fun e he=>by simp at he,TK.fresh _,Nat.zero_lt_succ _,rfl,.refl _⟩
theorem lc {l:Addr} {items:Array Value} {val:Nat->Int} {Q:Value->Shared->Prop}
    (hh:A.handled=none) (hl:s.heap.IsList l items) (hval:∀(i:Nat) (v:Value),items[i]?=some v->∃t,v=.int (val i) t) (hb:items.size<=120)
    (h:∀(h':Heap) (tk:Nat),qE (!oz w) h' s.heap.objs.size (sf val items.size) ->
      (∀b o,b<s.heap.objs.size->s.heap.get? b=some o->h'.get? b=some o)->Q (.ref s.heap.objs.size) {s with heap:=h',toks:=tk}) :
    wpAny (model prog w) A (call (.type "set") [.ref l]) Q E s:=by
  obtain⟨c,tl,hmro⟩:=PySem.F.called_set.mro
  have hmade:=PySem.F.called_set.made
  have hsub:=PySem.F.called_set.sub
  refine wpAny_call (codeAny_of_tree ?_)
  show wpAny _ _ (callAny (.type "set") _) _ _ _
  refine wpAny_pure ⟨Code.quiet_builtin _ (by decide +kernel),codeAny_builtin PySem.F.entry_type_call ?_⟩
  rw[Around.under_plain (weight_type_call_type "set" [.ref l] []) rfl]
  have h1:=PySem.F.called_set.notType
  have h2:=PySem.F.called_set.canCreate
  have hct:=PySem.F.typeCall_set_1 (.ref l)
  repeat (any_goals (first | assumption | wp_step))
  refine codeAny_mono (yo (.ref l) (E:=E) (Q₁:=fun obj s₁=>obj=.ref s.heap.objs.size/\s₁={s with heap:=s.heap.push (oe w)}) ⟨rfl,rfl⟩) fun r s₁ hr=>?_
  cases r with
  | error e=>exact hr
  | ok fl =>
    cases fl with
    | ret obj =>
      obtain⟨rfl,rfl⟩:=hr
      have hS:(s.heap.push (oe w)).get? s.heap.objs.size=some (oe w):=Heap.get?_push_size _ rfl
      have hT:Shared.TypeIs {s with heap:=s.heap.push (oe w)} (.ref s.heap.objs.size) "set":=⟨_,hS,rfl⟩
      have hli:=PySem.F.called_set.init.lookup
      have hbi:=PySem.F.called_set.init.bind (.ref s.heap.objs.size)
      repeat (any_goals (first | assumption | wp_step))
      refine codeAny_mono (codeAny_call_builtin (R:=wants (fun r s₂=>r=.none/\∃ h' tk,s₂={s with heap:=h',toks:=tk} /\
          qE (!oz w) h' s.heap.objs.size (sf val items.size) /\
          (∀b o,b<s.heap.objs.size->s.heap.get? b=some o->h'.get? b=some o)) E) PySem.F.called_set.init.plain PySem.F.entry_set_init (PySem.check_set_init_1 hT ?_)) fun r₂ s₂ hr₂=>?_
      · obtain⟨ol,hol,hcl,nl,hdl⟩:=hl
        obtain⟨ocls,odict,odata,oslots⟩:=ol
        simp only at hcl hdl
        subst hcl;subst hdl
        have hol':(s.heap.push (oe w)).get? l=some {cls:=.type "list",dict:=odict,data:=.seq items nl,slots:=oslots}:=Heap.get?_push_of_some _ hol
        have hsls:=PySem.F.sub_list_set
        have hslf:=PySem.F.sub_list_frozenset
        have hne:(Value.type "list" == Value.type "dict")=false:=by decide
        have hl1:(s.heap.push (oe w)).IsList l items:=⟨_,hol',rfl,nl,rfl⟩
        unfold Builtin.«set.__init__» noKeywords Builtin.Frozenset.updateFrom
        generalize hPI:pyIter=PI
        wp_walk
        subst hPI
        refine wpAny_pyIter_list hl1 ?_
        refine wpAny_bind (wpAny_runValue ?_)
        have hlS:l<s.heap.objs.size:=Heap.lt_size hol
        have hh3:A.in1.in1.in1.handled=none:=by simp[hh]
        have hneI:l≠(s.heap.push (oe w)).objs.size:=by
          rw[Heap.size_push];exact Nat.ne_of_lt (Nat.lt_succ_of_lt hlS)
        have hSf:s.heap.objs.size ∉ [(s.heap.push (oe w)).objs.size,l]:=by
          rw[Heap.size_push];simp only[List.mem_cons,List.mem_singleton,List.not_mem_nil,or_false,not_or]
          exact⟨Nat.ne_of_lt (Nat.lt_succ_self _),Nat.ne_of_gt hlS⟩
        refine iE (b:=!oz w) ((Walks.list hh3 _ l hneI items).toS) s.heap.objs.size
          hSf val hval hb (items.size - 0) 0 _ (by omega) (Nat.zero_le _)
          ⟨⟨_,Heap.get?_push_size _ rfl,rfl,rfl⟩,(hl1.push _)⟩ ?hS0 ?hR
        case hS0=>exact qE.new.at fun o e=>Heap.get?_push_of_some _ e
        case hR =>
          intro s' hm hS'
          obtain⟨h',g',d',tk',os'⟩:=s'
          have eg:g'=s.gens:=hm.gens
          have ed:d'=s.drawn:=hm.drawn
          have eo:os'=s.os:=hm.os
          subst eg;subst ed;subst eo
          show wpAny _ _ _ _ _ _
          refine wpAny_pure ?_
          show wpAny _ _ (ret Value.none) _ _ _
          refine wpAny_pure ⟨rfl,h',tk',rfl,hS',fun b o hb e=>?_⟩
          have hb1:b≠s.heap.objs.size:=Nat.ne_of_lt hb
          have hb2:b≠(s.heap.push (oe w)).objs.size:=by
            rw[Heap.size_push];exact Nat.ne_of_lt (Nat.lt_succ_of_lt hb)
          exact hm.heap b o (by simp only[List.mem_cons,List.mem_singleton,List.not_mem_nil,or_false,not_or];exact⟨hb1,hb2⟩) (Heap.get?_push_of_some _ (Heap.get?_push_of_some _ e))
      · cases r₂ with
        | error e=>exact hr₂
        | ok fl₂ =>
          cases fl₂ with
          | ret r =>
            obtain⟨rfl,h',tk,rfl,hS',hk'⟩:=hr₂
            repeat (any_goals (first | assumption | wp_step))
            exact h _ _ hS' hk'
          | _=>exact hr₂.elim
    | _=>exact hr.elim
theorem qE.ord{h:Heap}{S:Addr}{ks:List Int}(x:qE (!oz w) h S ks)(hn:ks.length<=120) :
  ∃es ep t ord,pW h S es ep t/\sE w S es ep t ord/\(ord.toList.map fun e=>Cz e.2).Perm ks/\∀e∈ord.toList,∃k tk,e.2=Value.int k tk:=by
 obtain⟨o,es,ep,t,ho,hex,hd,hel,hT,hro,hled,hp⟩:=x
 have hlen:es.size=ks.length:=by rw[<- hp.length_eq,List.length_map,Array.length_toList]
 have hf:t.fits es.size=true:=hT.fits (by omega)
 have hel':∀e∈es.toList,∃k tk,e.2=Value.int k tk:=fun e he=>let ⟨k,tk,q⟩:=hel e he;⟨k,tk,by rw[q]⟩
 cases hb:oz w with
 | true =>
  have pp:=vm (w.params.setOrder S ep) es
  exact⟨es,ep,t,pickOrder (w.params.setOrder S ep) es,⟨o,ho,hex.1,hd⟩,⟨hf,y8 _ _,fun _=>rfl,fun z=>by rw[hb] at z;cases z⟩,(pp.map _).trans hp,fun e he=>hel' e (pp.mem_iff.mp he)⟩
 | false =>
  refine⟨es,ep,t,es,⟨o,ho,hex.1,hd⟩,⟨hf,rfl,(fun z=>by rw[hb] at z;cases z),fun _=>⟨rfl,by rw[hled,hb];rfl,by rw[hT.plain];rfl,fun i hi=>?_⟩⟩,hp,hel'⟩
  cases i with
  | zero=>exact AQ hT.ris
  | succ i=>exact AT hT.ris (by rw[hT.size];exact hi)
theorem kd:∀{vs:List Value},(∀v∈vs,∃k tk,v=Value.int k tk)->IntsAre vs (vs.map Cz)
 | [],_=>.nil
 | v::r,h=>by
  obtain⟨k,tk,rfl⟩:=h v (.head _)
  exact .cons k tk (kd fun u hu=>h u (.tail _ hu))
theorem yI{α:Type}{acc ord:List α}(hl:acc.length=ord.length)(h:∀(j:Nat) (v:α),acc[j]?=some v->ord[j]?=some v):acc=ord:=by
 refine List.ext_getElem? fun j=>?_
 by_cases hj:j<acc.length
 ·rw[List.getElem?_eq_getElem hj];exact(h j _ (List.getElem?_eq_getElem hj)).symm
 ·rw[List.getElem?_eq_none (by omega),List.getElem?_eq_none (by omega)]
theorem uO{S:Addr}{ks:List Int}{Q:Value->Shared->Prop}(hh:A.handled=none)(x:qE (!oz w) s.heap S ks)(hn:ks.length<=120)
  (h:∀(D:Addr) (h':Heap) (tk n:Nat) (its:List Value),S<D->(∀b o,s.heap.get? b=some o->h'.get? b=some o)->h'.get? D=some {cls:=.type "list",data:=.seq its.toArray n}->IntsAre its (pC ks)->Q (.ref D) {s with heap:=h',toks:=tk}) :
  wpAny (model prog w) A (call (.builtin "sorted") [.ref S]) Q E s:=by
 obtain⟨es,ep,t,ord,hI,hO,hperm,hint⟩:=x.ord hn
 have hol:ord.size=ks.length:=by rw[<- hperm.length_eq,List.length_map,Array.length_toList]
 refine Calls.call_function_entry kind_sorted plain_sorted entry_sorted (args_sorted1 _) ?_
 unfold Builtin.«sorted»
 refine wpAny_bind (m:=checkCount "sorted" 1 1 _) (wpAny_pure ?_)
 refine wpAny_bind (W.kdu_collect (A:=A.in1) (lU hO) hh hI (by rw[sizeLine_eq];omega) fun h' tk acc hk hacc=>?_)
 have hl:acc.toList.length=ord.size:=by rw[Array.length_toList];exact hacc.1
 have hae:acc.toList=ord.toList.map (·.2):=by
  refine yI (by rw[hl,List.length_map,Array.length_toList]) fun j v e=>?_
  obtain⟨y,h1,h2⟩:=hacc.2 j v (by rw[<- Array.getElem?_toList];exact e)
  rw[List.getElem?_map,Array.getElem?_toList,h1,h2];rfl
 have hints:IntsAre acc.toList (acc.toList.map Cz):=kd fun v hv=>by
  rw[hae] at hv
  obtain⟨e,he,rfl⟩:=List.mem_map.mp hv
  exact hint e he
 have hpk:(acc.toList.map Cz).Perm ks:=by
  rw[hae,List.map_map];exact hperm
 refine wpAny_bind (wpAny_newList ?_ (by rw[hl,sizeLine_eq];omega))
 have hoL:(h'.push (seqObj "list" acc.toList.toArray 0)).get? h'.objs.size=some (seqObj "list" acc.toList.toArray 0):=Heap.get?_push_size _ rfl
 refine wpAny_bind (wpAny_holding (wpAny_call_entry slot_list_sort ⟨_,hoL,rfl⟩ entry_list_sort (ko hoL hints (by rw[hl];omega) fun out ns' a1 a2 a3=>⟨_,rfl,?_⟩) (args_list_sort _)))
 refine wpAny_pure ⟨_,rfl,?_⟩
 have hns:ns'=pC ks:=ld (a2.trans hpk) a3
 subst hns
 have hD:S<h'.objs.size:=Heap.lt_size (hk S _ hI.choose_spec.1)
 obtain⟨n1,g1⟩:∃n1,((h'.push (seqObj "list" acc.toList.toArray 0)).update h'.objs.size (Obj.mapSeq fun _=>#[])).get? h'.objs.size=some (seqObj "list" #[] n1):=⟨_,get?_update_seq hoL (fun _=>#[])⟩
 have g2:((((h'.push (seqObj "list" acc.toList.toArray 0)).update h'.objs.size (Obj.mapSeq fun _=>#[])).push (seqObj "tuple" acc.toList.toArray 0)).push (seqObj "list" #[] 0)).get? h'.objs.size=some (seqObj "list" #[] n1):=Heap.get?_push_of_some _ (Heap.get?_push_of_some _ g1)
 obtain⟨n3,g3⟩:∃n3,(sortedHeap (h'.push (seqObj "list" acc.toList.toArray 0)) h'.objs.size acc.toList out).get? h'.objs.size=some (seqObj "list" out n3):=⟨_,get?_update_seq g2 (fun _=>out)⟩
 refine h h'.objs.size _ tk n3 out.toList hD (fun b o e=>?_) (by rw[g3]) a1
 have hb:b≠h'.objs.size:=Nat.ne_of_lt (Heap.lt_size (hk b o e))
 exact(Heap.get?_update_other _ _ (Ne.symm hb)).trans (Heap.get?_push_of_some _ (Heap.get?_push_of_some _ ((Heap.get?_update_other _ _ (Ne.symm hb)).trans (Heap.get?_push_of_some _ (hk b o e)))))
end
end HW
set_option maxHeartbeats 1000000
namespace HW
open PySem PySem.Spec PyProof.Rows L2
section
variable{X:Cx}
theorem bZ{K:W.Frag}{H:Hp}:∀{ds:LD} {ns:List Int} {xs:List V} {its:List Value},intsOf ds=some ns->i9 K H ds xs->m9 xs its->IntsAre its ns
 | [],ns,xs,its,e,r,v=>by
  cases e
  cases (show xs=[] from r)
  cases v
  exact .nil
 | .int i::ds,ns,xs,its,e,r,v=>by
  obtain⟨ms,e1,e2⟩:=oD (show(intsOf ds).map (i::·)=some ns from e)
  subst e2
  obtain⟨x,xr,rfl,r1,r2⟩:=r
  cases (show x=_ from r1)
  cases v with
  | cons v1 v2 =>
   obtain⟨t,rfl⟩:=v1
   exact .cons i t (bZ e1 r2 v2)
 | .non::_,_,_,_,e,_,_=>by cases e
 | .bl _::_,_,_,_,e,_,_=>by cases e
 | .str _::_,_,_,_,e,_,_=>by cases e
 | .tup _::_,_,_,_,e,_,_=>by cases e
 | .lst _::_,_,_,_,e,_,_=>by cases e
 | .fro _::_,_,_,_,e,_,_=>by cases e
theorem bX{K:W.Frag}{H:Hp}:∀{ns:List Int} {its:List Value},IntsAre its ns->m9 (ns.map V.int) its/\i9 K H (ns.map D.int) (ns.map V.int)
 | _,_,.nil=>⟨.nil,rfl⟩
 | _,_,.cons n t r=>⟨.cons ⟨t,rfl⟩ (bX (K:=K) (H:=H) r).1,⟨_,_,rfl,rfl,(bX r).2⟩⟩
theorem yz(ns:List Int):sf (fun i=>ns.getD i 0) ns.length=rh ns:=by
 unfold sf rh
 congr 1
 refine List.ext_getElem? fun j=>?_
 rw[List.getElem?_map]
 by_cases h:j<ns.length
 ·rw[List.getElem?_range h,List.getElem?_eq_getElem h];simp[h]
 ·rw[List.getElem?_eq_none (by simpa using h),List.getElem?_eq_none (by omega)];rfl
theorem ie:∀(its:List Value) (ns:List Int),its.length=ns.length->(∀(j:Nat) (v:Value),its[j]?=some v->∃t,v=.int (ns.getD j 0) t)->IntsAre its ns
 | [],[],_,_=>.nil
 | [],_::_,h,_=>by cases h
 | _::_,[],h,_=>by cases h
 | v::r,n::ns,hl,h=>by
  obtain⟨t,e⟩:=h 0 v rfl
  cases (show v=.int n t from e)
  exact .cons n t (ie r ns (Nat.succ.inj hl) fun j u hu=>h (j+1) u hu)
theorem ni{e:Expr}{f:R->OD}{p p' pos pos':Pos}(hc:X.calm=true)(hm:X.mg "sorted" = none)(hm':X.mg "set" = none)(he:SE X e f)(hg:Gl X "sorted":=by rfl)(hg':Gl X "set":=by rfl)(hst:noStar e=true:=by rfl) :
  SE X (.Call (.Name "sorted" p) [.Call (.Name "set" p') [e] [] pos'] [] pos) (h8 Fk (c4 f c6)):=by
 intro pins s σ H Q I ⟨ρ,d,er,eq,q⟩
 obtain⟨ds,e1,e2⟩:=i6 eq
 have hst1:=aJ [] X.env hst
 refine Call_ (bJ I hg hm boot_sorted ?_)
 refine Calls.callWith_builtin rfl (Calls.evalArgs_plain (Calls.spliced_cons ?_))
 refine Call_ (bJ I hg' hm' boot_set ?_)
 refine PyProof.Rows.callWith_type1 (oy ((aa he ae hst).1 pos' pins s σ H (fun vs H2=>k9 H H2/\i9 X.K H2 ds vs) I ⟨ρ,ds,er,e1,fun vs H2 s2 r2=>⟨s2,r2⟩⟩) fun us s1 ⟨vs,H1,I1,r1,s01,rp⟩=>?_) (by rw[hst1]) rfl
 have hh:=I1.ok.hd hc
 match ds,e2 with
 | [.lst es],e2 =>
  obtain⟨ns,e3,e4⟩:=i6 (show(intsOf es).bind _=some d from e2)
  split at e4
  case isFalse=>cases e4
  case isTrue hn =>
  cases e4
  obtain⟨v,r',rfl,⟨a,xs,rfl,ha,rx⟩,rr⟩:=rp
  cases (show r'=[] from rr)
  obtain⟨u,rfl,ru⟩:=r1.one
  cases (show u=_ from ru)
  obtain⟨_,its,n,rv,hl,eo⟩:=I1.lstM ha
  have hI:=bZ e3 rx rv
  have hlen:its.length=ns.length:=IntsAre.length hI
  refine lc (val:=fun i=>ns.getD i 0) hh ⟨_,eo,rfl,n,rfl⟩ (fun i v hv=>IntsAre.int_at hI i v (by simpa using hv)) (by rw[List.size_toArray,hlen];exact hn) fun h' tk hS hk=>?_
  have hz2:its.toArray.size=ns.length:=by rw[List.size_toArray];exact hlen
  rw[hz2,yz] at hS
  refine Calls.spliced_nil ?_
  have hd4:(rh ns).length<=120:=Nat.le_trans (qI ns []) (by simpa using hn)
  refine uO (s:={s1 with heap:=h',toks:=tk}) hh hS hd4 fun D h2 tk2 n2 its2 hD hk2 hg2 hi2=>?_
  obtain⟨v1,v2⟩:=bX (K:=X.K) (H:=upd H1 D (.lst ((pC (rh ns)).map V.int))) hi2
  have hz:((pC (rh ns)).map V.int).length<=sizeLine:=by
   rw[List.length_map,(oB _).length_eq,sizeLine_eq];omega
  have hf:H1 D=none:=I1.hok.fresh (Nat.le_of_lt hD)
  refine⟨.ref D,upd H1 D (.lst ((pC (rh ns)).map V.int)),I1.laid (t':=tk2) (fun b o eb=>hk2 b o (hk b o (Heap.lt_size eb) eb)) (Nat.le_of_lt hD) ⟨hz,its2,n2,v1,hg2⟩,rfl,?_⟩
  refine q _ _ (s01.trans fun b u hb=>?_) ⟨D,_,rfl,aB,v2⟩
  rw[aD fun z=>by rw[z,hf] at hb;cases hb]
  exact hb
theorem me{a b c:Expr}{f g h:R->OD}{p p' pos pos':Pos}(hcm:X.calm=true)(hm:X.mg "list" = none)(hm':X.mg "range" = none)(ha:SE X a f)(hb:SE X b g)(hc:SE X c h)(hg:Gl X "list":=by rfl)(hg':Gl X "range":=by rfl)(hs:noStar a=true:=by rfl)(hs2:noStar b=true:=by rfl)(hs3:noStar c=true:=by rfl) :
  PE X (.Call (.Name "list" p) [.Call (.Name "range" p') [a,b,c] [] pos'] [] pos) (fun σ H Q=>∃ ρ es,oA X.K H ρ σ/\tM f g h ρ=some es/\es.length<=1000/\∀(D:Addr) vs H1,k9 H H1->H1 D=none->i9 X.K H1 es vs->Q (.ref D) (upd H1 D (.lst vs))):=by
 have z3:=aJ [] X.env hs3
 have z2:=aJ [c] X.env hs2
 have z1:=aJ [b,c] X.env hs
 intro pins s σ H Q I ⟨ρ,es,er,e,hn,q⟩
 obtain⟨x,e1,e⟩:=i6 e
 obtain⟨y,e2,e⟩:=i6 e
 obtain⟨z,e3,e⟩:=i6 e
 obtain⟨i,e4,e⟩:=i6 e
 obtain⟨j,e5,e⟩:=i6 e
 obtain⟨k,e6,e⟩:=i6 e
 split at e
 case isFalse=>cases e
 case isTrue hz =>
 cases e
 refine Call_ (bJ I hg hm boot_list ?_)
 refine PyProof.Rows.callWith_type1 (Calls.spliced_cons ?_) rfl rfl
 refine Call_ (bJ I hg' hm' boot_range ?_)
 refine PyProof.Rows.callWith_type1 (oy ((aa ha (aa hb (aa hc ae hs3) hs2) hs).1 pos' pins s σ H (fun vs H2=>k9 H H2/\i9 X.K H2 [x,y,z] vs) I ⟨ρ,[x,y,z],er,by show(f ρ).bind _=_;rw[e1];show((g ρ).bind _).map _=_;rw[e2];show(((h ρ).bind _).map _).map _=_;rw[e3];rfl,fun vs H2 s2 r2=>⟨s2,r2⟩⟩) fun us s1 ⟨vs,H1,I1,r1,s01,rp⟩=>?_) (by rw[z1,z2,z3]) (by rw[z2,z3];rfl)
 obtain⟨v,r,rfl,r2,r3⟩:=rp
 obtain⟨u,r',rfl,r4,r5⟩:=r3
 obtain⟨w,r'',rfl,r6,r7⟩:=r5
 cases (show r''=_ from r7)
 have hv:=oQ e4 r2
 have hu:=oQ e5 r4
 have hw:=oQ e6 r6
 subst hv hu hw
 obtain⟨q1,q2,q3,q4,q5,q6⟩:=hz
 cases r1 with
 | cons r rr =>
  cases rr with
  | cons r' rr =>
   cases rr with
   | cons r'' rr =>
    cases rr
    obtain⟨t,rfl⟩:=r
    obtain⟨t',rfl⟩:=r'
    obtain⟨t'',rfl⟩:=r''
    refine call_range_3 (by omega) ?_ (.inl (PyProof.noPylong_small (by omega)))
    refine Calls.spliced_nil ?_
    have hlen:(qe i j k).length=ou i j k:=by simp[qe]
    generalize hob:({cls:=.type "range",data:=.fields #[.int i t,.int j t',.int k t'']}:Obj)=ob
    have hR:IsRange (s1.heap.push ob) s1.heap.objs.size i j k t t' t'':=by subst hob;exact IsRange.new ..
    refine call_list_range (s:={s1 with heap:=s1.heap.push ob}) (n:=ou i j k) (I1.ok.hd hcm) hR (zU q1 q2 q3 q4 q5 q6) (vD q5).symm (by rw[<- hlen];omega) fun h' tk acc c' hk hS' hacc=>?_
    have hD:s1.heap.objs.size<=(s1.heap.push ob).objs.size:=by rw[Heap.size_push];exact Nat.le_succ _
    generalize (s1.heap.push ob).objs.size=Da at hS' hD
    have hI:IntsAre acc.toList ((List.range (ou i j k)).map fun (m:Nat)=>i+(m:Int)*k):=by
     refine ie _ _ (by rw[Array.length_toList,List.length_map,List.length_range];exact hacc.1) fun m v hv=>?_
     have hm:m<ou i j k:=by
      have:=(List.getElem?_eq_some_iff.mp hv).1
      rw[Array.length_toList,hacc.1] at this
      exact this
     obtain⟨t,e⟩:=hacc.2 m v (by rw[<- Array.getElem?_toList];exact hv)
     refine⟨t,e.trans ?_⟩
     simp[List.getD_eq_getElem?_getD,List.getElem?_map,List.getElem?_range hm]
    have hmp:qe i j k=((List.range (ou i j k)).map fun (m:Nat)=>i+(m:Int)*k).map D.int:=by
     unfold qe;rw[List.map_map];rfl
    obtain⟨v1,v2⟩:=bX (K:=X.K) (H:=H1) hI
    have hf:H1 Da=none:=I1.hok.fresh hD
    rw[hmp] at q
    refine⟨.ref Da,upd H1 Da (.lst (((List.range (ou i j k)).map fun (m:Nat)=>i+(m:Int)*k).map V.int)),I1.laid (t':=tk) (o:=.lst (((List.range (ou i j k)).map fun (m:Nat)=>i+(m:Int)*k).map V.int)) (fun b o eb=>hk b o (Heap.get?_push_of_some _ eb)) hD ⟨?_,acc.toList,c',v1,by rw[hS']⟩,rfl,q Da _ H1 s01 hf v2⟩
    rw[List.length_map,List.length_map,List.length_range,<- hlen,sizeLine_eq];omega
variable{sts:List Stmt}
theorem lx{x:Str}{c ea eb ec:Expr}{s:R->Option Bool}{f g h:R->OD}{w:R->LD->Option Out}{px p1 p2 p1' p2' pos pos':Pos}(i:Nat)(hcm:X.calm=true)(hm:X.mg "list" = none)(hm':X.mg "range" = none)(hN:X.N.Nodup)
  (hc:ST X c s) (ha:SE X ea f) (hb:SE X eb g) (hd:SE X ec h) (h2:OB X sts w) (hix:X.N[i]?=some x:=by rfl) (hx:Loc X.env.scope x:=by first | exact Or.inl rfl | exact Or.inr rfl) (hg:Gl X "list":=by rfl) (hg':Gl X "range":=by rfl)
  (hsa:noStar ea=true:=by rfl) (hsb:noStar eb=true:=by rfl) (hsc:noStar ec=true:=by rfl)
  (hs:swapsWith (.Call (.Name "list" p1) [.Call (.Name "range" p2) [ea,eb,ec] [] p2'] [] p1') (some (.Name x px)) pos.line X.env=pure false:=by rfl) (hf:X.fn x=true\/X.env.scope.names.lookup x=some .local:=by first | exact .inl rfl | exact .inr rfl) :
  OB X (.If c [.Assign [.Name x px] (.Call (.Name "list" p1) [.Call (.Name "range" p2) [ea,eb,ec] [] p2'] [] p1') pos] [] pos'::sts) (qx i s (tM f g h) w):=by
 intro pins st σ H E I ⟨ρ,τ,a,ds,xs,o,er,ho,rp,e,qq⟩
 obtain⟨b,EU,e⟩:=i6 e
 refine wpAny_execs_cons (oy ((ly hc (fP (js (i:=i) hN hix hx (me (p:=p1) (p':=p2) (pos:=p1') (pos':=p2') hcm hm hm' ha hb hd hg hg' hsa hsb hsc) hs hf)) wx) pins st σ H
  {E with nx:=fun σ' H'=>(b=false/\σ'=σ/\k9 H H')\/(b=true/\∃a' vs es H1,tM f g h ρ=some es/\σ'=σ.set i (some (.ref a'))/\H'=upd H1 a' (.lst vs)/\H1 a'=none/\k9 H H1/\i9 X.K H1 es vs)} I ?_) fun fl s1 q=>?_)
 ·refine⟨ρ,b,er.1,EU,fun H1 s1=>?_⟩
  cases b with
  | false=>rw[if_neg Bool.false_ne_true];exact .inl ⟨rfl,rfl,s1⟩
  | true =>
   rw[if_pos rfl] at e ⊢
   obtain⟨es,e1,e⟩:=i6 e
   split at e
   ·rename_i hz
    exact⟨ρ,es,er.1.mono s1,e1,hz.2,fun D vs H2 s2 hf rr=>.inr ⟨rfl,D,vs,es,H2,e1,rfl,rfl,hf,s1.trans s2,rr⟩⟩
   ·cases e
 cases fl with
 | next =>
  obtain⟨σ',H',I',q | q⟩:=q
  ·obtain⟨rfl,rfl,s1⟩:=q
   rw[if_neg Bool.false_ne_true] at e
   exact h2 pins _ _ H' E I' ⟨ρ,τ,a,ds,xs,o,er.mono s1,s1 _ _ ho,rp.mono s1,e,fun H2 k=>qq H2 ((qN.of s1).trans k)⟩
  ·obtain⟨rfl,a',vs,es,H1,e1,rfl,rfl,hf,s1',r1⟩:=q
   rw[if_pos rfl,e1] at e
   simp only[Option.bind_some] at e
   split at e
   case isFalse=>cases e
   case isTrue hz =>
   have I2:=xB I' aB
   generalize hH2:upd (upd H1 a' (.lst vs)) a' (rm a' vs)=H2 at I2
   have k12:qN a' H1 H2:=by
    subst hH2
    exact qN.upd.trans qN.upd
   have s12:k9 H1 H2:=fun b u hb=>k12 b u (fun z=>by rw[z,hf] at hb;cases hb) hb
   have ho2:H2 a'=some (rm a' vs):=by subst hH2;exact aB
   have hσi:i<σ.length:=by
    have:=(List.getElem?_eq_some_iff.mp (jt er)).1
    rw[<- hz.1];exact this
   have r2:i9 X.K H2 es vs:=r1.mono s12
   refine h2 pins _ _ H2 E I2 ⟨ρ,τ,a',es,vs,o,⟨⟨?_,fun j d hd=>?_⟩,?_⟩,ho2,r2,e,fun H' k=>qq H' fun b u hne hb=>?_⟩
   ·rw[List.length_set];exact er.1.1
   ·have hj:j<i:=by
     rw[<- hz.1];exact(List.getElem?_eq_some_iff.mp hd).1
    obtain⟨v,h1,h2⟩:=er.1.2 j d hd
    exact⟨v,by rw[List.getElem?_set_ne (by omega)];exact h1,(h2.mono s1').mono s12⟩
   ·have hd:σ.drop i=some (.ref a)::τ:=by rw[<- hz.1];exact er.2
    rw[hz.1,List.drop_eq_getElem_cons (by simpa using hσi)]
    congr 1
    ·simp
    ·rw[List.drop_set_of_lt (by omega),<- List.drop_drop,hd];rfl
   ·have hb1:=s1' _ _ hb
    exact k b u (fun z=>by rw[z,hf] at hb1;cases hb1) (s12 _ _ hb1)
 | brk=>exact q
 | cont=>exact q
 | ret v=>exact q
theorem uJ(l:Addr)(items:Array Value)(n:Nat)(dd:Option Addr)(sl:Array (Option Value))(k:Int)(u:Tok)(h1:(decide (k < -(2 ^ 63))||decide (k ≥ 2 ^ 63))=false)(h2:(items.isEmpty||k==1)=false)
  (h3:(decide (k<=0)||items.isEmpty)=true) :
  Meets (Builtin.«tuple.__mul__» ⟨[.ref l,.int k u],[]⟩) (fun _ R s=>s.heap.get? l=some {cls:=.type "tuple",dict:=dd,data:=.seq items n,slots:=sl} /\
   R (.ok (.ret (.ref s.heap.objs.size))) {s with heap:=s.heap.push {cls:=Value.type "tuple",data:=Data.seq #[]},toks:=s.toks}):=
 .of_wp fun prog w A R s h=>by
  obtain⟨hp,g,d,tk,os⟩:=s;obtain⟨hl,h⟩:=h;have f1:=AutoSeq1.idx_int;have f2:=AutoSeq1.sub_tuple_tuple
  wp_walk using wpAny_loadPart' hl
  refine wpAny_ite_false (E_ h1) ?_
  wp_walk using wpAny_loadPart' hl
  exact⟨_,rfl,h⟩
theorem lX:BN X (binaryOp .Mult) z9:=by
 intro pins s σ H x y v u Q I rx ry h
 obtain⟨dx,dy,d,r1,r2,e,q⟩:=h
 match dx,dy,e with
 | .tup [x1],.int k,e =>
  have e':(if k=0 then some (D.tup []) else if k=1 then some (D.tup [x1]) else none)=some d:=e
  have r1':=r1
  obtain⟨a,vs,rfl,hq,t⟩:=r1
  cases (show y=_ from r2)
  cases rx
  obtain⟨tk,rfl⟩:=ry
  obtain⟨its,rr,p,hsz⟩:=I.tuple hq
  obtain⟨⟨cls,dd,data,sl⟩,ho,hc,n,hd⟩:=id p
  simp only at hc hd
  subst hc hd
  refine wpAny_binaryOp_repeat_ref (T:="tuple") (U:="int") (by decide) ⟨_,ho,rfl⟩ (fun s'=>typeIs_int s' k tk) qK F.fills_int_mul F.slot_int_rmul tu F.slot_int_index.lookup
   (call_meets F.slot_int_rmul (typeIs_int s k tk) F.entry_int_rmul (F.args_int_rmul_2 _ _) (rB k tk a its.toArray n dd sl) ⟨ho,rfl,⟨_,ho,rfl⟩,?_⟩)
  by_cases h0:k=0
  ·rw[if_pos h0] at e'
   subst h0
   cases e'
   have b2:(its.toArray.isEmpty||(0:Int)==1)=false:=by
    cases its with
    | nil=>exact nomatch t.length.trans rr.length
    | cons x r=>rfl
   refine call_meets PySem.F.slot_tuple_mul ⟨_,ho,rfl⟩ PySem.F.entry_tuple_mul (PySem.F.args_tuple_mul_2 _ _) (uJ a its.toArray n dd sl 0 tk rfl b2 rfl) ⟨ho,?_⟩
   have s2:=aV (I.hok.fresh (Nat.le_refl s.heap.objs.size)) (.tup [])
   exact⟨.ref s.heap.objs.size,_,I.laid (t':=s.toks) (o:=.tup []) (fun b ob q=>Heap.get?_push_of_some _ q) (Nat.le_refl _) ⟨Nat.zero_le _,[],.nil,pD.new _ _⟩,rfl,q _ _ s2 ⟨_,[],rfl,q8.of aB,rfl⟩⟩
  ·rw[if_neg h0] at e'
   by_cases h1:k=1
   ·rw[if_pos h1] at e'
    subst h1
    cases e'
    have b2:(its.toArray.isEmpty||(1:Int)==1)=true:=Bool.or_true _
    exact call_meets PySem.F.slot_tuple_mul ⟨_,ho,rfl⟩ PySem.F.entry_tuple_mul (PySem.F.args_tuple_mul_2 _ _) (rC a its.toArray n dd sl 1 tk rfl b2) ⟨ho,.ref a,H,I,rfl,q _ H (k9.refl H) r1'⟩
   ·rw[if_neg h1] at e'
    cases e'
end
section
variable{prog:Program}{w:World}{A:Around}{R':Result->Shared->Prop}{I:Addr}{fp wr:List Addr}{n:Nat}{P:Nat->Value->Prop}{St:Nat->Heap->Prop}
theorem qP:(toString "min" ++ toString ".loop" : String) = "min.loop":=by decide
theorem Bl(W:Walks prog w A.in1 I fp wr n P St)(bt:Nat->Nat->Bool)(hcmp:CmpOf prog w A.in1 .Lt P bt)(S:Addr)(hSf:S∉fp):∀(k j:Nat) (s:Shared) (vb:Value) (c:Nat),n - (j+1)=k->j+1<=n->St (j+1) s.heap->P (argBest bt j) vb->AR S #[vb,vb] c s.heap ->
  (∀v h' tk,P (argBest bt (n - 1)) v->(∀b o,b∉wr->b≠S->s.heap.get? b=some o->h'.get? b=some o)->R' (.ok (.ret v)) {s with heap:=h',toks:=tk})->codeAny (model prog w) A (.builtin "min.loop" ⟨[.ref I,.none,.ref S],wI⟩) R' s:=by
 have hSw:S∉wr:=fun z=>hSf (W.sub _ z)
 intro k
 induction k with
 | zero =>
  intro j s vb c hk hj hst hPb hS hR
  have hin:j+1=n:=by omega
  refine codeAny_builtin F.entry_min_loop ?_;rw[Around.under_plainId F.plain_min_loop _];show wpAny _ A.in1 (seqItems? (.ref S) >>= _) _ _ s
  refine wpAny_bind (wpAny_seqItems hS rfl ?_);show wpAny _ A.in1 (tryCatch (pyNext (.ref I)) _ >>= _) _ _ s
  refine wpAny_bind (wpAny_tryCatch (W.done s _ _ (hin ▸ hst) fun h1 t1 k1=>?_));have hS1:=k1 S _ hSw hS
  show wpAny _ A.in1 (updateSeq S (fun _=>#[]) >>= _) _ _ _;refine wpAny_bind (wpAny_updateSeq hS1 rfl (wpAny_bind (wpAny_letGo (wpAny_pure ?_))))
  exact hR vb _ t1 (by rw[<- hin];exact hPb) fun b o hbw hbS e=>(Heap.get?_update_other _ _ (Ne.symm hbS)).trans (k1 b o hbw e)
 | succ k ih =>
  intro j s vb c hk hj hst hPb hS hR
  have hlt:j+1<n:=by omega
  refine codeAny_builtin F.entry_min_loop ?_;rw[Around.under_plainId F.plain_min_loop _];show wpAny _ A.in1 (seqItems? (.ref S) >>= _) _ _ s
  refine wpAny_bind (wpAny_seqItems hS rfl ?_);show wpAny _ A.in1 (tryCatch (pyNext (.ref I)) _ >>= _) _ _ s
  refine wpAny_bind (wpAny_tryCatch (W.item (j+1) s _ _ hlt hst fun v h1 t1 hP st1 k1=>?_));have hS1:=k1 S _ hSw hS
  show wpAny _ A.in1 (tryCatch (holding [v,v] (richCompare .Lt v vb >>= _)) _ >>= _) _ _ _;refine wpAny_bind (wpAny_tryCatch (wpAny_holding (wpAny_bind (hcmp (j+1) (argBest bt j) v vb _ _ _ hP hPb ?_))))
  refine wpAny_bind (wpAny_holding (wpAny_truthy_bool ?_));refine wpAny_bind (wpAny_letGo (wpAny_pure ?_))
  cases hb:bt (j+1) (argBest bt j) with
  | true =>
   simp only[if_true];refine wpAny_bind (wpAny_updateSeq hS1 rfl (wpAny_bind (wpAny_letGo ?_)));rw[qP]
   refine wpAny_pure ⟨plainId_quiet F.plain_min_loop _,ih (j+1) _ v _ (by omega) hlt (W.frame _ _ _ st1 fun b hbf o e=>?_) (by simp only[argBest,hb,if_true];exact hP) (Heap.get?_update_self _ hS1 rfl) fun v' h2 t2 hP' k2=>?_⟩
   ·refine(Heap.get?_update_other _ _ fun z:S=b=>hSf ?_).trans e;rw[z];exact hbf
   ·refine hR v' h2 t2 hP' fun b o hbw hbS e=>k2 b o hbw hbS ?_;exact(Heap.get?_update_other _ _ (Ne.symm hbS)).trans (k1 b o hbw e)
  | false =>
   simp only[Bool.false_eq_true,if_false];refine wpAny_bind (wpAny_letGo ?_);rw[qP]
   refine wpAny_pure ⟨plainId_quiet F.plain_min_loop _,ih (j+1) _ vb c (by omega) hlt st1 (by simp only[argBest,hb,Bool.false_eq_true,if_false];exact hPb) hS1 fun v' h2 t2 hP' k2=>?_⟩
   refine hR v' h2 t2 hP' fun b o hbw hbS e=>k2 b o hbw hbS ?_;exact k1 b o hbw e
theorem zR(W:Walks prog w A.in1 I fp wr n P St)(bt:Nat->Nat->Bool)(hcmp:CmpOf prog w A.in1 .Lt P bt)(S:Addr)(hSf:S∉fp){s:Shared}{c:Nat}(hst:St 0 s.heap)(hS:AR S #[] c s.heap)
  (h0:n=0->∀h' tk,(∀b o,b∉wr->b≠S->s.heap.get? b=some o->h'.get? b=some o)->R' (.ok (.ret .none)) {s with heap:=h',toks:=tk})
  (hR:0<n->∀v h' tk,P (argBest bt (n - 1)) v->(∀b o,b∉wr->b≠S->s.heap.get? b=some o->h'.get? b=some o)->R' (.ok (.ret v)) {s with heap:=h',toks:=tk}):codeAny (model prog w) A (.builtin "min.loop" ⟨[.ref I,.none,.ref S],wI⟩) R' s:=by
 have hSw:S∉wr:=fun z=>hSf (W.sub _ z)
 refine codeAny_builtin F.entry_min_loop ?_;rw[Around.under_plainId F.plain_min_loop _];show wpAny _ A.in1 (seqItems? (.ref S) >>= _) _ _ s
 refine wpAny_bind (wpAny_seqItems hS rfl ?_);show wpAny _ A.in1 (tryCatch (pyNext (.ref I)) _ >>= _) _ _ s
 by_cases hn:0<n
 ·refine wpAny_bind (wpAny_tryCatch (W.item 0 s _ _ hn hst fun v h1 t1 hP st1 k1=>?_));have hS1:=k1 S _ hSw hS
  show wpAny _ A.in1 (updateSeq S (fun _=>#[v,v]) >>= _) _ _ _;refine wpAny_bind (wpAny_updateSeq hS1 rfl ?_);rw[qP]
  refine wpAny_pure ⟨plainId_quiet F.plain_min_loop _,Bl W bt hcmp S hSf _ 0 _ v _ rfl hn (W.frame _ _ _ st1 fun b hbf o e=>?_) hP (Heap.get?_update_self _ hS1 rfl) fun v' h2 t2 hP' k2=>?_⟩
  ·refine(Heap.get?_update_other _ _ fun z:S=b=>hSf ?_).trans e;rw[z];exact hbf
  ·refine hR hn v' h2 t2 hP' fun b o hbw hbS e=>k2 b o hbw hbS ?_;exact(Heap.get?_update_other _ _ (Ne.symm hbS)).trans (k1 b o hbw e)
 ·have hz:n=0:=by omega
  refine wpAny_bind (wpAny_tryCatch (W.done s _ _ (hz ▸ hst) fun h1 t1 k1=>?_))
  refine wpAny_bind (wpAny_rule (wpAny_pure ?_))
  exact h0 hz h1 t1 fun b o hbw hbS e=>k1 b o hbw e
end
section
variable{prog:Program}{w:World}{A:Around}{E:Value->Shared->Prop}{s:Shared}
theorem za(a:Value):argsOk "min" ⟨[a],wI⟩:=by unfold argsOk;kernel_rfl
theorem eX{l:Addr}{its:List Value}{val:Nat->Int}{Q:Value->Shared->Prop}(hh:A.handled=none)(hl:s.heap.IsList l its.toArray)(hv:∀(i:Nat) v,its.toArray[i]?=some v->∃t,v=.int (val i) t)
  (h0:its=[]->∀h' tk,(∀b o,s.heap.get? b=some o->h'.get? b=some o)->Q .none {s with heap:=h',toks:=tk})
  (h1:its ≠ []->∀v h' tk,its.toArray[argBest (fun i j=>decide (val i<val j)) (its.length - 1)]?=some v->(∀b o,s.heap.get? b=some o->h'.get? b=some o)->Q v {s with heap:=h',toks:=tk}) :
  wpAny (model prog w) A (call (.builtin "min") [.ref l] wI) Q E s:=by
 refine wpAny_call (codeAny_call_builtin F.plain_min F.entry_min ?_)
 simp only[checkBuiltinCall,F.kind_min]
 have main:wpAny (model prog w) A.in1 (Builtin.«min» ⟨[.ref l],wI⟩) (fun fin s'=>match fin with
   | .done f=>(match (Except.ok f:Result) with
    | .ok (.ret v)=>Q v s'
    | .ok _=>False
    | .error e=>E e s')
   | .again c'=>c'.quiet=true/\codeAny (model prog w) A c' (fun r s'=>match r with
    | .ok (.ret v)=>Q v s'
    | .ok _=>False
    | .error e=>E e s') s') E s:=by
  show wpAny _ A.in1 (Builtin.Builtins.bindParams "min" ["key","default"] 0 ⟨[],wI⟩ >>= _) _ _ s
  refine wpAny_bind (wpAny_of_eq (show Builtin.Builtins.bindParams "min" ["key","default"] 0 ⟨[],wI⟩=pure [none,some .none] from rfl) ?_)
  refine wpAny_bind (wpAny_pure (wpAny_bind (wpAny_pyIter_list hl ?_)))
  refine wpAny_bind (wpAny_newObj_type ?_)
  rw[qP]
  have hlt:l<s.heap.objs.size:=by
   obtain⟨o,e,_⟩:=hl
   exact Heap.lt_size e
  generalize hI:s.heap.objs.size=J at hlt
  generalize h1e:s.heap.push {cls:=Value.type "list_iterator",data:=Data.fields #[Value.ref l,Value.int 0 0]}=H1
  have hJ:H1.objs.size=J+1:=by rw[<- h1e,Heap.size_push,hI]
  have k1:∀b o,s.heap.get? b=some o->H1.get? b=some o:=fun b o e=>by rw[<- h1e];exact Heap.get?_push_of_some _ e
  have st1:H1.IsListIter J l 0/\H1.IsList l its.toArray:=⟨by rw[<- h1e,<- hI];exact⟨_,Heap.get?_push_size _ rfl,rfl,rfl⟩,hl.at fun o e=>k1 _ _ e⟩
  have hne:l≠J:=Nat.ne_of_lt hlt
  have hSf:H1.objs.size ∉ [J,l]:=by
   rw[hJ]
   intro z
   rcases List.mem_cons.mp z with z | z
   ·exact absurd z (Nat.ne_of_gt (Nat.lt_succ_self J))
   ·rw[<- List.mem_singleton.mp z] at hlt
    exact absurd hlt (Nat.not_lt.mpr (Nat.le_succ J))
  have W:=Walks.list (prog:=prog) (w:=w) (A:=A.in1) hh J l hne its.toArray
  have old:∀{h':Heap},(∀b o,b ∉ [J]->b≠H1.objs.size->(H1.push {cls:=Value.type "list",data:=Data.seq ([]:List Value).toArray}).get? b=some o->h'.get? b=some o)->∀b o,s.heap.get? b=some o->h'.get? b=some o:=fun kk b o e=>by
   have hb:b<J:=by rw[<- hI];exact Heap.lt_size e
   refine kk b o (fun z=>absurd (List.mem_singleton.mp z) (Nat.ne_of_lt hb)) ?_ (Heap.get?_push_of_some _ (k1 b o e))
   rw[hJ]
   exact Nat.ne_of_lt (Nat.lt_succ_of_lt hb)
  refine wpAny_pure ⟨plainId_quiet F.plain_min_loop _,zR W _ (CmpOf.ints_lt val hv) H1.objs.size hSf (W.frame _ _ _ st1 fun b _ o e=>Heap.get?_push_of_some _ e) (Heap.get?_push_size _ rfl) (fun hz h' tk kk=>?_) fun hn v h' tk hP kk=>?_⟩
  ·exact h0 (by simpa using hz) h' tk (old kk)
  ·refine h1 (fun z=>by subst z;simp at hn) v h' tk ?_ (old kk)
   simpa using hP
 cases hsig:Manifest.signature? "min" with
 | none=>exact wpAny_pure main
 | some sig =>
  have ha:=za (.ref l)
  simp only[argsOk,hsig] at ha
  have h2:Bind.checkArgs "min" sig ⟨[.ref l],wI⟩=pure ():=ha
  show wpAny _ A.in1 (Bind.checkArgs "min" sig ⟨[.ref l],wI⟩) _ _ s
  rw[h2]
  exact wpAny_pure main
end
section
variable{X:Cx}
theorem mo{e:Expr}{f:R->OD}{p kp p2 pos:Pos}{j:Nat}(hc:X.calm=true)(hm:X.mg "min" = none)(he:SE X e f)(hg:Gl X "min":=by rfl)(hst:noStar e=true:=by rfl) :
  SE X (.Call (.Name "min" p) [e] [⟨some "default",.Constant .none j p2,kp⟩] pos) (h8 BC (c4 f c6)):=by
 intro pins s σ H Q I ⟨ρ,d,er,eq,q⟩
 obtain⟨ds,e1,e2⟩:=i6 eq
 have hst1:=aJ [] X.env hst
 refine wpAny_Call_Name_kw (bJ I hg hm boot_min ?_ (by decide) (by decide))
 refine callWith_kw (oy ((aa he ae hst).1 pos pins s σ H (fun vs H2=>k9 H H2/\i9 X.K H2 ds vs) I ⟨ρ,ds,er,e1,fun vs H2 s2 r2=>⟨s2,r2⟩⟩) fun us s1 ⟨vs,H1,I1,r1,s01,rp⟩=>?_) (by rw[hst1];rfl) (by rw[hst1];rfl) rfl rfl
 refine kws_cons (Constant_none (kws_nil ?_))
 have hh:=I1.ok.hd hc
 match ds,e2 with
 | [.lst []],e2 =>
  cases e2
  obtain⟨v,r',rfl,⟨a,xs,rfl,ha,rx⟩,rr⟩:=rp
  cases (show r'=[] from rr)
  cases (show xs=[] from rx)
  obtain⟨u,rfl,ru⟩:=r1.one
  cases (show u=_ from ru)
  obtain⟨_,its,n,rv,hl,eo⟩:=I1.lstM ha
  cases rv
  exact eX (val:=fun _=>0) hh ⟨_,eo,rfl,n,rfl⟩ (fun i v hv=>by simp at hv) (fun _ h' tk k=>⟨.non,H1,I1.kept k,rfl,q _ H1 s01 rfl⟩) fun z=>absurd rfl z
 | [.lst [.int a1]],e2 =>
  cases e2
  obtain⟨v,r',rfl,⟨a,xs,rfl,ha,rx⟩,rr⟩:=rp
  cases (show r'=[] from rr)
  obtain⟨x1,x2,rfl,rx1,rx2⟩:=rx
  cases (show x1=_ from rx1)
  cases (show x2=[] from rx2)
  obtain⟨u,rfl,ru⟩:=r1.one
  cases (show u=_ from ru)
  obtain⟨_,its,n,rv,hl,eo⟩:=I1.lstM ha
  obtain⟨w1,rfl,t1,rfl⟩:=rv.one
  refine eX (val:=fun _=>a1) hh ⟨_,eo,rfl,n,rfl⟩ (fun i v hv=>?_) (fun z=>by cases z) fun _ v h' tk hv k=>?_
  ·have z:=(Array.getElem?_eq_some_iff.mp hv).1
   have z0:i=0:=by simpa using z
   subst z0
   exact⟨t1,(Option.some.inj hv).symm⟩
  ·have hv':Value.int a1 t1=v:=Option.some.inj hv
   subst hv'
   exact⟨.int a1,H1,I1.kept k,⟨t1,rfl⟩,q _ H1 s01 rfl⟩
 | [.lst [.int a1,.int a2]],e2 =>
  cases e2
  obtain⟨v,r',rfl,⟨a,xs,rfl,ha,rx⟩,rr⟩:=rp
  cases (show r'=[] from rr)
  have hx:=ints2 rx
  subst hx
  obtain⟨u,rfl,ru⟩:=r1.one
  cases (show u=_ from ru)
  obtain⟨_,its,n,rv,hl,eo⟩:=I1.lstM ha
  obtain⟨w1,w2,rfl,⟨t1,rfl⟩,⟨t2,rfl⟩⟩:=vals2 rv
  refine eX (val:=fun i=>if i=0 then a1 else a2) hh ⟨_,eo,rfl,n,rfl⟩ (fun i v hv=>?_) (fun z=>by cases z) fun _ v h' tk hv k=>?_
  ·have z:=(Array.getElem?_eq_some_iff.mp hv).1
   have z0:i=0\/i=1:=by
    have:i<2:=by simpa using z
    omega
   rcases z0 with rfl | rfl
   ·exact⟨t1,(Option.some.inj hv).symm⟩
   ·exact⟨t2,(Option.some.inj hv).symm⟩
  ·by_cases hgt:a2<a1
   ·have hb:argBest (fun i j=>decide ((if i=0 then a1 else a2)<(if j=0 then a1 else a2))) ([Value.int a1 t1,Value.int a2 t2].length - 1)=1:=by simp[argBest,hgt]
    rw[hb] at hv
    have hv':Value.int a2 t2=v:=Option.some.inj hv
    subst hv'
    exact⟨.int a2,H1,I1.kept k,⟨t2,rfl⟩,q _ H1 s01 (by show V.int a2=V.int _;rw[if_pos hgt])⟩
   ·have hb:argBest (fun i j=>decide ((if i=0 then a1 else a2)<(if j=0 then a1 else a2))) ([Value.int a1 t1,Value.int a2 t2].length - 1)=0:=by simp[argBest,hgt]
    rw[hb] at hv
    have hv':Value.int a1 t1=v:=Option.some.inj hv
    subst hv'
    exact⟨.int a1,H1,I1.kept k,⟨t1,rfl⟩,q _ H1 s01 (by show V.int a1=V.int _;rw[if_neg hgt])⟩
end
end HW
namespace HW
end HW
namespace HW
open PySem PySem.Spec PyProof.Rows L2
section
variable{prog:Program}{w:World}{A:Around}{E:Value->Shared->Prop}{s:Shared}
end
section
variable{X:Cx}
end
end HW
namespace HW
end HW
namespace HW
open PySem PySem.Spec PyProof.Rows L2
section
variable{X:Cx}
end
end HW
namespace HW
open PySem
end HW
namespace HW
open PySem PySem.Spec PyProof.Rows L2
section
variable{X:Cx}
end
abbrev pZ(K:W.Frag)(n:Str)(st:Stmt)(f:Addr):Prop:=∃(oc:Value) (od an:Option Addr) (sl:Array (Option Value)) (kV dc pm cd ct:Value),W.nsIn K mainGlobals n=some (some (.ref f)) /\
 K.lookup f=some ⟨oc,od,.func (W.fnOf n n (qt st) (oW st) (c9 st) .none kV dc pm an cd ct),sl⟩/\W.codeIn K cd n=true/\W.keepIn K (.ref f)=true
theorem qc{K:W.Frag}{n:Str}{st:Stmt}{f:Addr}(h:pZ K n st f):∃fd,pz K n n st f fd/\W.nsIn K mainGlobals n=some (some (.ref f)):=by
 obtain⟨oc,od,an,sl,kV,dc,pm,cd,ct,a,l,c,k⟩:=h
 exact⟨_,lF l c k,a⟩
theorem fn4_mk{K:W.Frag}{n:Str}{st:Stmt}{f:Addr}{oc:Value}{od an:Option Addr}{sl:Array (Option Value)}{kV dc pm cd ct:Value}(a:W.nsIn K mainGlobals n=some (some (.ref f)))
  (l:K.lookup f=some ⟨oc,od,.func (W.fnOf n n (qt st) (oW st) (c9 st) .none kV dc pm an cd ct),sl⟩) (c:W.codeIn K cd n=true) (k:W.keepIn K (.ref f)=true):pZ K n st f:=⟨oc,od,an,sl,kV,dc,pm,cd,ct,a,l,c,k⟩
theorem nN.m{P:Program}{w:World}{K:W.Frag}{mg:Str->Option Value}{base:Heap}{j k:Nat}{x:Str}{ps:List Str}{F:LD->OD}(h:nN P w K mg base j x ps F)(hk:j<=k:=by decide):nN P w K mg base k x ps F:=h.mono hk
end HW
namespace HW
open PySem
inductive MO where
 | nx (ρ:R)
 | rt (d:D) (ρ:R)
abbrev MU:=List Nat->R->Option MO
def yL:D->List Nat
 | .obj _ a _ _=>[a]
 | _=>[]
def adr:D->List Nat
 | .obj _ a _ es=>a::es.flatMap yL
 | _=>[]
def okN:D->Bool
 | .obj 0 _ _ es=>qU es
 | d=>we d
def B_:D->Nat
 | .obj _ a _ _=>a
 | _=>0
end HW
namespace HW
open PySem PySem.Spec PyProof.Rows L2
def D_:Option HO->Prop
 | some (.ins _ _ _)=>True
 | some (.dK _)=>True
 | some (.frz _ (.own _))=>True
 | _=>False
def vh(S:List Nat)(H H':Hp):Prop:=∀b u,b∉S->H b=some u->H' b=some u
def tQ(S:List Nat)(H:Hp):Prop:=∀b∈S,D_ (H b)
section
variable{S T:List Nat}{H H' H1 H2:Hp}{K:W.Frag}
theorem vh.of(h:k9 H H'):vh S H H':=fun b u _ e=>h b u e
theorem vh.refl:vh S H H:=fun _ _ _ e=>e
theorem vh.trans(h:vh S H H1)(k:vh S H1 H2):vh S H H2:=fun b u n e=>k b u n (h b u n e)
theorem vh.mono(h:vh S H H')(hs:∀b∈S,b∈T):vh T H H':=fun b u n e=>h b u (fun z=>n (hs b z)) e
theorem tQ.same(m:tQ S H)(s:k9 H H'):tQ S H':=fun b hb=>by
 have h:=m b hb
 cases e:H b with
 | none=>rw[e] at h;exact h.elim
 | some u=>rw[s b u e];rw[e] at h;exact h
theorem tQ.nin{a:Nat}{u:HO}(m:tQ S H)(e:H a=some u)(n:¬ D_ (some u)):a∉S:=fun z=>n (by have:=m a z;rw[e] at this;exact this)
theorem vh.tup{a:Addr}{xs:List V}(m:tQ S H)(s:vh S H H')(h:q8 K H a xs):q8 K H' a xs:=by
 rcases h with (h | ⟨o,h⟩) | h
 ·exact .inl (.inl (s _ _ (m.nin h fun z=>z) h))
 ·exact .inl (.inr ⟨o,s _ _ (m.nin h fun z=>z) h⟩)
 ·exact .inr h
theorem vh.seq{a:Addr}{xs:List V}(m:tQ S H)(s:vh S H H')(h:qM K H a xs):qM K H' a xs:=by
 rcases h with (h | ⟨o,h⟩) | h
 ·exact .inl (.inl (s _ _ (m.nin h fun z=>z) h))
 ·exact .inl (.inr ⟨o,s _ _ (m.nin h fun z=>z) h⟩)
 ·exact .inr h
end
mutual
theorem Rep.kq{S:List Nat}{K:W.Frag}{H H':Hp}(m:tQ S H)(s:vh S H H'):∀{d:D} {v:V},we d=true->Rep K H d v->Rep K H' d v
 | .non,_,_,h=>h
 | .bl _,_,_,h=>h
 | .int _,_,_,h=>h
 | .str _,_,_,h=>h
 | .tup ds,_,hn,h=>by
  obtain⟨a,xs,e,q,r⟩:=h
  exact⟨a,xs,e,s.tup m q,i9.kq m s hn r⟩
 | .lst ds,_,hn,h=>by
  obtain⟨a,xs,e,q,r⟩:=h
  exact⟨a,xs,e,s _ _ (m.nin q fun z=>z) q,i9.kq m s hn r⟩
 | .fro ds,_,hn,h=>by
  obtain⟨a,xs,e,q,r⟩:=h
  exact⟨a,xs,e,s.seq m q,i9.kq m s hn r⟩
 | .obj ..,_,hn,_=>by cases hn
theorem i9.kq{S:List Nat}{K:W.Frag}{H H':Hp}(m:tQ S H)(s:vh S H H'):∀{ds:LD} {vs:List V},qU ds=true->i9 K H ds vs->i9 K H' ds vs
 | [],_,_,h=>h
 | d::ds,_,hn,h=>by
  have hn':(we d&&qU ds)=true:=hn
  rw[Bool.and_eq_true] at hn'
  obtain⟨v,r,e,q,t⟩:=h
  exact⟨v,r,e,Rep.kq m s hn'.1 q,i9.kq m s hn'.2 t⟩
end
section
variable{S T:List Nat}{H H' H1 H2:Hp}{K:W.Frag}
theorem i9.mem:∀{ds:LD} {vs:List V} {d:D},i9 K H ds vs->d∈ds->∃v,Rep K H d v
 | [],_,_,_,h=>by cases h
 | e::ds,vs,d,h,hd=>by
  obtain⟨v,r,_,q,t⟩:=h
  rcases List.mem_cons.mp hd with rfl | hd
  ·exact⟨v,q⟩
  ·exact i9.mem t hd
theorem mT{ob:D}{v:V}(h:B5 ob=true)(r:Rep K H ob v):v=.ref (B_ ob):=by
 cases ob with
 | obj k a ks es=>obtain⟨xs,e,_⟩:=r;exact e
 | _=>cases h
def FX(K:W.Frag)(H:Hp)(ρ:R):Prop:=∀(j:Nat) (d:D),ρ[j]?=some (some d)->B5 d=true->Rep K H d (.ref (B_ d))
theorem FX.of{ρ:R}{σ:L2.St}(e:oA K H ρ σ):FX K H ρ:=fun j d h ho=>by
 obtain⟨v,_,r⟩:=e.2 j d h
 rw[<- mT ho r];exact r
variable(K)
def FV(j:Nat)(G:LD->Option (D×D)):Sp:=fun vs H Q _=>∃ds ob d o',i9 K H ds vs/\ds[j]?=some ob/\B5 ob=true/\G ds=some (d,o')/\∀v H',vh (adr ob) H H'->tQ (adr ob) H'->Rep K H' d v->Rep K H' o' (.ref (B_ ob))->Q v H'
end
section
variable{X:Cx}{st:Stmt}{sts:List Stmt}{u w:MU}{pos:Pos}
end
section
variable{K:W.Frag}{H H':Hp}
end
section
variable{X:Cx}{pos:Pos}
section
variable{pins:List (Addr×Obj)}{σ:L2.St}{H:Hp}{s:Shared}{a:Addr}{xs:List V}{its:List Value}{n:Nat}
end
end
section
variable{K:W.Frag}{H H':Hp}
end
section
variable{X:Cx}{pos:Pos}
structure Cf (P:Program) (w:World) (K:W.Frag) (mg:Str->Option Value) (base:Heap) (k:Nat) (x:Str) (ps:List Str) (j:Nat) (G:LD->Option (D×D)):Prop where
 ex:∃f fd,nK P w K mg base oM k f fd ps (FV K j G)/\mg x=some (.ref f)/\W.keepIn K (.ref f)=true/\Binds K fd ps []
structure Dh (P:Program) (w:World) (K:W.Frag) (mg:Str->Option Value) (base:Heap) (k C:Nat) (m:Str) (ps:List Str) (G:LD->Option (D×D)):Prop where
 ex:∃f fd,nK P w K mg base oM k f fd ps (FV K 0 G)/\DD K C m f/\Binds K fd ps []
structure Cs (P:Program) (w:World) (K:W.Frag) (mg:Str->Option Value) (base:Heap) (k C:Nat) (m:Str) (ps:List Str) (G:LD->OD):Prop where
 ex:∃f fd,nK P w K mg base oM k f fd ps (pA K G)/\DD K C m f/\Binds K fd ps []
theorem Cf.m{P:Program}{w:World}{K:W.Frag}{mg:Str->Option Value}{base:Heap}{k k':Nat}{x:Str}{ps:List Str}{j:Nat}{G:LD->Option (D×D)}(h:Cf P w K mg base k x ps j G)(hk:k<=k':=by decide):Cf P w K mg base k' x ps j G:=by
 obtain⟨f,fd,a,b⟩:=h.ex
 exact⟨f,fd,a.mono hk,b⟩
theorem Dh.m{P:Program}{w:World}{K:W.Frag}{mg:Str->Option Value}{base:Heap}{k k' C:Nat}{x:Str}{ps:List Str}{G:LD->Option (D×D)}(h:Dh P w K mg base k C x ps G)(hk:k<=k':=by decide):Dh P w K mg base k' C x ps G:=by
 obtain⟨f,fd,a,b⟩:=h.ex
 exact⟨f,fd,a.mono hk,b⟩
theorem Cs.m{P:Program}{w:World}{K:W.Frag}{mg:Str->Option Value}{base:Heap}{k k' C:Nat}{x:Str}{ps:List Str}{G:LD->OD}(h:Cs P w K mg base k C x ps G)(hk:k<=k':=by decide):Cs P w K mg base k' C x ps G:=by
 obtain⟨f,fd,a,b⟩:=h.ex
 exact⟨f,fd,a.mono hk,b⟩
end
section
variable{X:Cx}{pos:Pos}
variable{x:Str}{e:Expr}{es:List Expr}{F:R->Option LD}{G:LD->Option (D×D)}{k j:Nat}{ps:List Str}{p:Pos}
variable{C:Nat}{mn:Str}{apos:Pos}
end
section
variable{X:Cx}{pos:Pos}{C:Nat}{f:Str}
end
section
variable{X:Cx}
end
end HW
namespace HW
open PySem
def Ft(A:List Nat):OD->Bool
 | some (.obj _ a _ es)=>(a::es.flatMap yL).all (fun x=>!A.contains x)&&es.all okN
 | some d=>we d
 | none=>true
mutual
def nof:D->Bool
 | .tup xs=>nofs xs
 | .lst xs=>nofs xs
 | .fro _=>false
 | .obj ..=>false
 | _=>true
def nofs:LD->Bool
 | []=>true
 | x::xs=>nof x&&nofs xs
end
end HW
namespace HW
open PySem PySem.Spec PyProof.Rows L2
section
variable{K:W.Frag}{H H' H1 H2:Hp}{A S:List Nat}
theorem mM(m:tQ A H)(s:vh A H H'):∀{d:D} {v:V},okN d=true->(∀b∈yL d,b∉A)->Rep K H d v->Rep K H' d v:=by
 intro d v h hA r
 match d,h,hA,r with
 | .obj 0 l ls es,h,hA,⟨xs,e,⟨z,its,n,rv,q⟩,t⟩=>exact⟨xs,e,⟨z,its,n,rv,s _ _ (hA l (List.mem_singleton.mpr rfl)) q⟩,i9.kq m s h t⟩
 | .obj (k+1) l ls es,h,_,_=>cases (show we (.obj (k+1) l ls es)=true from h)
 | .non,_,_,r=>exact r
 | .bl _,_,_,r=>exact r
 | .int _,_,_,r=>exact r
 | .str _,_,_,r=>exact r
 | .tup ds,h,_,r=>exact Rep.kq m s (d:=.tup ds) h r
 | .lst ds,h,_,r=>exact Rep.kq m s (d:=.lst ds) h r
 | .fro ds,h,_,r=>exact Rep.kq m s (d:=.fro ds) h r
theorem jU(m:tQ A H)(s:vh A H H'):∀{ds:LD} {vs:List V},ds.all okN=true->(∀b∈ds.flatMap yL,b∉A)->i9 K H ds vs->i9 K H' ds vs
 | [],_,_,_,r=>r
 | d::ds,_,h,hA,r=>by
  rw[List.all_cons,Bool.and_eq_true] at h
  rw[List.flatMap_cons] at hA
  obtain⟨v,vr,e,r1,r2⟩:=r
  exact⟨v,vr,e,mM m s h.1 (fun b hb=>hA b (List.mem_append_left _ hb)) r1,jU m s h.2 (fun b hb=>hA b (List.mem_append_right _ hb)) r2⟩
theorem Rep.sep(m:tQ A H)(s:vh A H H'):∀{d:D} {v:V},Ft A (some d)=true->Rep K H d v->Rep K H' d v:=by
 intro d v h r
 cases d with
 | obj k a ks es =>
  have h':((a::es.flatMap yL).all (fun x=>!A.contains x)&&es.all okN)=true:=h
  rw[Bool.and_eq_true] at h'
  have hA:∀b∈a::es.flatMap yL,b∉A:=fun b hb z=>by
   have:=List.all_eq_true.mp h'.1 b hb
   simp at this
   exact this z
  obtain⟨xs,e,q,t⟩:=r
  exact⟨xs,e,q.to fun u e' _=>s a u (hA a (.head _)) e',jU m s h'.2 (fun b hb=>hA b (.tail _ hb)) t⟩
 | _=>exact Rep.kq m s h r
end
section
variable{X:Cx}{pos:Pos}
variable{x:Str}{e:Expr}{es:List Expr}{F:R->Option LD}{G:LD->Option (D×D)}{k j:Nat}{ps:List Str}{p:Pos}
variable{C:Nat}{mn:Str}{apos:Pos}
end
section
variable{X:Cx}{pins pins0:List (Addr×Obj)}{σ σ0:L2.St}{H H0:Hp}{s s0:Shared}{l:Addr}{its:List Value}{n:Nat}{xs:List V}
end
section
variable{K:W.Frag}{H:Hp}{l:Addr}{o:Obj}{ys:List V}{u:HO}
mutual
theorem Rep.nof(h:H l=some (.frz o (.lst ys))):∀{d:D} {v:V},nof d=true->Rep K H d v->Rep K (upd H l u) d v
 | .non,_,_,r=>r
 | .bl _,_,_,r=>r
 | .int _,_,_,r=>r
 | .str _,_,_,r=>r
 | .tup ds,_,hn,r=>by
  obtain⟨a,xs,e,q,t⟩:=r
  refine⟨a,xs,e,?_,i9.nof h hn t⟩
  rcases q with (q | ⟨o',q⟩) | q
  ·exact .inl (.inl (by rw[aD fun w=>by rw[w,h] at q;cases q];exact q))
  ·exact .inl (.inr ⟨o',by rw[aD fun w=>by rw[w,h] at q;cases q];exact q⟩)
  ·exact .inr q
 | .lst ds,_,hn,r=>by
  obtain⟨a,xs,e,q,t⟩:=r
  exact⟨a,xs,e,by rw[aD fun w=>by rw[w,h] at q;cases q];exact q,i9.nof h hn t⟩
 | .fro _,_,hn,_=>by cases hn
 | .obj ..,_,hn,_=>by cases hn
theorem i9.nof(h:H l=some (.frz o (.lst ys))):∀{ds:LD} {vs:List V},nofs ds=true->i9 K H ds vs->i9 K (upd H l u) ds vs
 | [],_,_,r=>r
 | d::ds,_,hn,r=>by
  have hn':(HW.nof d&&nofs ds)=true:=hn
  rw[Bool.and_eq_true] at hn'
  obtain⟨v,vr,e,r1,r2⟩:=r
  exact⟨v,vr,e,Rep.nof h hn'.1 r1,i9.nof h hn'.2 r2⟩
end
end
section
variable{X:Cx}{pos:Pos}
end
end HW
namespace HW
open PySem
section
variable{prog:Program}{w:World}{A:Around}{E:Value->Shared->Prop}
variable{Good:Heap->Nat->Prop}{s:Shared}{z TI TO i1 i2 p:Addr}{b:Bool}{op:Obj}{st1 st1' st2 st2':Heap->Prop}{P1 P2:Value->Prop}
end
end HW
namespace HW
open PySem PySem.Spec PyProof.Rows L2
section
variable{X:Cx}{pins:List (Addr×Obj)}{σ:L2.St}{s:Shared}{A:Around}{E:Value->Shared->Prop}{H:Hp}{d T:Addr}{kvs:List (Key×V)}{k:Str}{v:V}{u1 u2:Value}
end
section
variable{X:Cx}{pins:List (Addr×Obj)}{σ:L2.St}{s:Shared}{A:Around}{E:Value->Shared->Prop}{H0:Hp}{S T:Src}{z TI TO i1 i2 p d:Addr}{ks:List Str}{vs pq:List V}{R:Result->Shared->Prop}{res:Value}
end
section
variable{X:Cx}
end
section
variable{K:W.Frag}{H H':Hp}
end
section
variable{X:Cx}{pos:Pos}
theorem pG.hid{K:W.Frag}{H:Hp}{ρ:R}{τ σ:L2.St}{j:Nat}{v:V}(e:pG K H ρ τ σ)(hj:ρ[j]?=some none):pG K H ρ τ (σ.set j (some v)):=by
 have hl:j<ρ.length:=(List.getElem?_eq_some_iff.mp hj).1
 refine⟨⟨by simpa using e.1.1,fun i d h=>?_⟩,by rw[List.drop_set_of_lt hl];exact e.2⟩
 have hij:j≠i:=fun z=>by rw[z,h] at hj;cases hj
 rw[List.getElem?_set_ne hij]
 exact e.1.2 i d h
end
section
variable{X:Cx}{pos:Pos}
def Gs(K:W.Frag)(mk:LD->Nat->Nat->OD):Sp:=fun vs H Q _=>∃ds,i9 K H ds vs/\(∃ob,mk ds 0 1=some ob)/\∀a l ob H',H a=none->H l=none->a≠l->mk ds a l=some ob->k9 H H'->Rep K H' ob (.ref a)->Q (.ref a) H'
structure CJ (P:Program) (w:World) (K:W.Frag) (mg:Str->Option Value) (base:Heap) (k:Nat) (x:Str) (ps:List Str) (mk:LD->Nat->Nat->OD):Prop where
 ex:∃f fd,nK P w K mg base oM k f fd ps (Gs K mk)/\mg x=some (.ref f)/\W.keepIn K (.ref f)=true/\Binds K fd ps []
theorem CJ.m{P:Program}{w:World}{K:W.Frag}{mg:Str->Option Value}{base:Heap}{k k':Nat}{x:Str}{ps:List Str}{mk:LD->Nat->Nat->OD}(h:CJ P w K mg base k x ps mk)(hk:k<=k':=by decide):CJ P w K mg base k' x ps mk:=by
 obtain⟨f,fd,a,b⟩:=h.ex
 exact⟨f,fd,a.mono hk,b⟩
end
end HW
namespace HW
open PySem
def Df:LD->OD
 | [.tup ds]=>(intsOf ds).bind fun ns=>if ns.length<=120 then some (.lst ((pC (rh ns)).map .int)) else none
 | _=>none
def Bs(f g h:R->OD):R->OD:=fun ρ=>(tM f g h ρ).bind fun es=>if es.length<=1000 then some (.tup es) else none
end HW
set_option maxHeartbeats 3200000
namespace HW
open PySem PySem.Spec PyProof.Rows L2
open AutoSeq1 (wpAny_loadPart')
theorem ve {prog:Program} {w:World} {A:Around} {E:Value->Shared->Prop} {s:Shared} {r:Addr} {a b c:Int} {t u v:Tok} {n:Nat} {R:List Value->Shared->Prop} (hh:A.handled=none) (hr:IsRange s.heap r a b c t u v) (hsmall:Builtin.Range.small a b c=true) (hn:Builtin.Range.rangeSize a b c=n) (hlen:n<=2 ^ 24)
    (h:∀(h':Heap) (tk:Nat) (acc:Array Value),(∀b o,s.heap.get? b=some o->h'.get? b=some o)->s.heap.objs.size<=h'.objs.size->ItemsOf (fun i v=>∃t,v=.int (a+i*c) t) acc n->R acc.toList {s with heap:=h',toks:=tk}) :
    wpAny (model prog w) A (collect (.ref r)) R E s:=by
  unfold collect
  refine wpAny_bind (wpAny_runValue (codeAny_builtin entry_proto_collect' ?_))
  rw[Around.under_plainId PySem.F.plain_proto_collect _]
  show wpAny _ A.in1 (newList [] >>= fun l=>again (.builtin "list.__iadd__" ⟨[l,.ref r],[]⟩)) _ _ s
  refine wpAny_bind (wpAny_newObj_type ?_)
  refine wpAny_pure ⟨plainId_quiet PySem.F.plain_list_iadd _,codeAny_builtin entry_list_iadd' ?_⟩
  rw[Around.under_plainId PySem.F.plain_list_iadd _]
  have hS:(s.heap.push {cls:=.type "list",data:=.seq ([]:List Value).toArray}).get? s.heap.objs.size=some {cls:=.type "list",data:=.seq #[]}:=Heap.get?_push_size _ rfl
  show wpAny _ A.in1 (Builtin.List.listExtendWith (.ref s.heap.objs.size) (.ref r) (.ref s.heap.objs.size)) _ _ _
  have key:=wpAny_extend_range (prog:=prog) (w:=w) (A:=A) (s:={s with heap:=s.heap.push {cls:=.type "list",data:=.seq ([]:List Value).toArray} })
    (R:=fun (q:Result) (s':Shared)=>∃(h':Heap) (tk:Nat) (acc:Array Value) (c₁:Nat),q=.ok (.ret (.ref s.heap.objs.size))/\s'={s with heap:=h',toks:=tk} /\
      (∀b o,s.heap.get? b=some o->h'.get? b=some o)/\h'.get? s.heap.objs.size=some {cls:=.type "list",dict:=none,data:=.seq acc c₁,slots:=#[]}/\ItemsOf (fun i v=>∃t,v=.int (a+i*c) t) acc n)
    hh (Heap.get?_push_of_some _ hr) hsmall hn hlen s.heap.objs.size (.ref s.heap.objs.size) 0 hS
    (fun h' tk acc c hk hS' hacc=>⟨h',tk,acc,c,rfl,rfl,fun b o e=>hk b o (Nat.ne_of_lt (Heap.lt_size e)) (Heap.get?_push_of_some _ e),hS',hacc⟩)
  refine wpAny_mono key (fun fin s' x=>?_) fun e s' x=>?_
  · cases fin with
    | done f =>
      obtain⟨h',tk,acc,c,e,rfl,hk,hS',hacc⟩:=x
      cases e
      show wpAny _ A (load s.heap.objs.size >>= _) _ _ _
      exact wpAny_bind (wpAny_load hS' (wpAny_pure (h h' tk acc hk (Nat.le_of_lt (Heap.lt_size hS')) hacc)))
    | again c₁ =>
      refine⟨x.1,codeAny_mono x.2 fun q s₂ y=>?_⟩
      obtain⟨h',tk,acc,c,rfl,rfl,hk,hS',hacc⟩:=y
      show wpAny _ A (load s.heap.objs.size >>= _) _ _ _
      exact wpAny_bind (wpAny_load hS' (wpAny_pure (h h' tk acc hk (Nat.le_of_lt (Heap.lt_size hS')) hacc)))
  · obtain⟨_,_,_,_,e',_⟩:=x
    cases e'
theorem tp (r:Addr) (a b c:Int) (t u v:Tok) (n:Nat) (hsmall:Builtin.Range.small a b c=true) (hn:Builtin.Range.rangeSize a b c=n) (hlen:n<=1000) :
    Meets (Builtin.«tuple.__new__» ⟨[.type "tuple",.ref r],[]⟩)
      (fun A R s=>A.handled=none/\IsRange s.heap r a b c t u v/\∀(h':Heap) (tk:Nat) (acc:Array Value),(∀b o,s.heap.get? b=some o->h'.get? b=some o)->s.heap.objs.size<=h'.objs.size->ItemsOf (fun i v=>∃t,v=.int (a+i*c) t) acc n ->
        R (.ok (.ret (.ref h'.objs.size))) {s with heap:=h'.push {cls:=.type "tuple",data:=.seq acc},toks:=tk}):=
  .of_wp fun prog w A R s h=>by
    obtain⟨hh,hr,h⟩:=h
    have hsub:=sub_tuple_self
    have hinit:=init_tuple_lookup
    have hmh:=madeHere_tuple
    have hT:s.TypeIs (.ref r) "range":=⟨_,hr,rfl⟩
    have hh1:A.in1.handled=none:=hh
    wp_walk using wpAny_typeOf hT,ve hh1 hr hsmall hn (Nat.le_trans hlen (by decide))
    intro h' tk acc hk hs hacc
    show wpAny _ _ (Builtin.Tuple.tupleExact acc.toList.toArray >>= fun v=>ret v) _ _ _
    unfold Builtin.Tuple.tupleExact
    refine wpAny_bind (wpAny_newObj_type ?_ (show acc.toList.toArray.size<=sizeLine by simp only[Array.toArray_toList];rw[hacc.1];exact Nat.le_trans hlen (by decide)))
    refine wpAny_pure ⟨_,rfl,?_⟩
    have e:acc.toList.toArray=acc:=by simp
    rw[e]
    exact h h' tk acc hk hs hacc
theorem fi{prog:Program}{w:World}{A:Around}{E:Value->Shared->Prop}{s:Shared}{Q:Value->Shared->Prop}{r:Addr}{a b c:Int}{t u v:Tok}{n:Nat}(hh:A.handled=none)(hr:IsRange s.heap r a b c t u v)(hsmall:Builtin.Range.small a b c=true)(hn:Builtin.Range.rangeSize a b c=n)(hlen:n<=1000)
  (h:∀(h':Heap) (tk:Nat) (acc:Array Value),(∀b o,s.heap.get? b=some o->h'.get? b=some o)->s.heap.objs.size<=h'.objs.size->ItemsOf (fun i v=>∃t,v=.int (a+i*c) t) acc n->Q (.ref h'.objs.size) {s with heap:=h'.push {cls:=.type "tuple",data:=.seq acc},toks:=tk}) :
  wpAny (model prog w) A (call (.type "tuple") [.ref r]) Q E s:=
 callType_new F.called_tuple (by decide) (F.typeCall_tuple_1 _) (F.newCall_tuple_1 _) (fun obj=>F.args_object_init_2 obj _) F.entry_tuple_new
  (tp r a b c t u v n hsmall hn hlen) ⟨hh,hr,fun h' tk acc hk hs hacc=>⟨⟨_,Heap.get?_push_size _ rfl,rfl⟩,h h' tk acc hk hs hacc⟩⟩
section
variable{prog:Program}{w:World}{A:Around}{E:Value->Shared->Prop}{s:Shared}
theorem kh {l:Addr} {items:Array Value} {val:Nat->Int} {Q:Value->Shared->Prop}
    (hh:A.handled=none) (hl:s.heap.IsTuple l items) (hval:∀(i:Nat) (v:Value),items[i]?=some v->∃t,v=.int (val i) t) (hb:items.size<=120)
    (h:∀(h':Heap) (tk:Nat),qE (!oz w) h' s.heap.objs.size (sf val items.size) ->
      (∀b o,b<s.heap.objs.size->s.heap.get? b=some o->h'.get? b=some o)->Q (.ref s.heap.objs.size) {s with heap:=h',toks:=tk}) :
    wpAny (model prog w) A (call (.type "set") [.ref l]) Q E s:=by
  obtain⟨c,tl,hmro⟩:=PySem.F.called_set.mro
  have hmade:=PySem.F.called_set.made
  have hsub:=PySem.F.called_set.sub
  refine wpAny_call (codeAny_of_tree ?_)
  show wpAny _ _ (callAny (.type "set") _) _ _ _
  refine wpAny_pure ⟨Code.quiet_builtin _ (by decide +kernel),codeAny_builtin PySem.F.entry_type_call ?_⟩
  rw[Around.under_plain (weight_type_call_type "set" [.ref l] []) rfl]
  have h1:=PySem.F.called_set.notType
  have h2:=PySem.F.called_set.canCreate
  have hct:=PySem.F.typeCall_set_1 (.ref l)
  repeat (any_goals (first | assumption | wp_step))
  refine codeAny_mono (yo (.ref l) (E:=E) (Q₁:=fun obj s₁=>obj=.ref s.heap.objs.size/\s₁={s with heap:=s.heap.push (oe w)}) ⟨rfl,rfl⟩) fun r s₁ hr=>?_
  cases r with
  | error e=>exact hr
  | ok fl =>
    cases fl with
    | ret obj =>
      obtain⟨rfl,rfl⟩:=hr
      have hS:(s.heap.push (oe w)).get? s.heap.objs.size=some (oe w):=Heap.get?_push_size _ rfl
      have hT:Shared.TypeIs {s with heap:=s.heap.push (oe w)} (.ref s.heap.objs.size) "set":=⟨_,hS,rfl⟩
      have hli:=PySem.F.called_set.init.lookup
      have hbi:=PySem.F.called_set.init.bind (.ref s.heap.objs.size)
      repeat (any_goals (first | assumption | wp_step))
      refine codeAny_mono (codeAny_call_builtin (R:=wants (fun r s₂=>r=.none/\∃ h' tk,s₂={s with heap:=h',toks:=tk} /\
          qE (!oz w) h' s.heap.objs.size (sf val items.size) /\
          (∀b o,b<s.heap.objs.size->s.heap.get? b=some o->h'.get? b=some o)) E) PySem.F.called_set.init.plain PySem.F.entry_set_init (PySem.check_set_init_1 hT ?_)) fun r₂ s₂ hr₂=>?_
      · obtain⟨ol,hol,hcl,nl,hdl⟩:=hl
        obtain⟨ocls,odict,odata,oslots⟩:=ol
        simp only at hcl hdl
        subst hcl;subst hdl
        have hol':(s.heap.push (oe w)).get? l=some {cls:=.type "tuple",dict:=odict,data:=.seq items nl,slots:=oslots}:=Heap.get?_push_of_some _ hol
        have hsls:=PySem.F.sub_tuple_set
        have hslf:=PySem.F.sub_tuple_frozenset
        have hne:(Value.type "tuple" == Value.type "dict")=false:=by decide
        have hl1:(s.heap.push (oe w)).IsTuple l items:=⟨_,hol',rfl,nl,rfl⟩
        unfold Builtin.«set.__init__» noKeywords Builtin.Frozenset.updateFrom
        generalize hPI:pyIter=PI
        wp_walk
        subst hPI
        refine wpAny_pyIter_tuple hl1 ?_
        refine wpAny_bind (wpAny_runValue ?_)
        have hlS:l<s.heap.objs.size:=Heap.lt_size hol
        have hh3:A.in1.in1.in1.handled=none:=by simp[hh]
        have hneI:l≠(s.heap.push (oe w)).objs.size:=by
          rw[Heap.size_push];exact Nat.ne_of_lt (Nat.lt_succ_of_lt hlS)
        have hSf:s.heap.objs.size ∉ [(s.heap.push (oe w)).objs.size,l]:=by
          rw[Heap.size_push];simp only[List.mem_cons,List.mem_singleton,List.not_mem_nil,or_false,not_or]
          exact⟨Nat.ne_of_lt (Nat.lt_succ_self _),Nat.ne_of_gt hlS⟩
        refine iE (b:=!oz w) ((Walks.tuple hh3 _ l hneI items).toS) s.heap.objs.size
          hSf val hval hb (items.size - 0) 0 _ (by omega) (Nat.zero_le _)
          ⟨⟨_,Heap.get?_push_size _ rfl,rfl,rfl⟩,(hl1.at fun o e=>Heap.get?_push_of_some _ e)⟩ ?hS0 ?hR
        case hS0=>exact qE.new.at fun o e=>Heap.get?_push_of_some _ e
        case hR =>
          intro s' hm hS'
          obtain⟨h',g',d',tk',os'⟩:=s'
          have eg:g'=s.gens:=hm.gens
          have ed:d'=s.drawn:=hm.drawn
          have eo:os'=s.os:=hm.os
          subst eg;subst ed;subst eo
          show wpAny _ _ _ _ _ _
          refine wpAny_pure ?_
          show wpAny _ _ (ret Value.none) _ _ _
          refine wpAny_pure ⟨rfl,h',tk',rfl,hS',fun b o hb e=>?_⟩
          have hb1:b≠s.heap.objs.size:=Nat.ne_of_lt hb
          have hb2:b≠(s.heap.push (oe w)).objs.size:=by
            rw[Heap.size_push];exact Nat.ne_of_lt (Nat.lt_succ_of_lt hb)
          exact hm.heap b o (by simp only[List.mem_cons,List.mem_singleton,List.not_mem_nil,or_false,not_or];exact⟨hb1,hb2⟩) (Heap.get?_push_of_some _ (Heap.get?_push_of_some _ e))
      · cases r₂ with
        | error e=>exact hr₂
        | ok fl₂ =>
          cases fl₂ with
          | ret r =>
            obtain⟨rfl,h',tk,rfl,hS',hk'⟩:=hr₂
            repeat (any_goals (first | assumption | wp_step))
            exact h _ _ hS' hk'
          | _=>exact hr₂.elim
    | _=>exact hr.elim
end
section
variable{X:Cx}
theorem mN{e:Expr}{f:R->OD}{p p' pos pos':Pos}(hc:X.calm=true)(hm:X.mg "sorted" = none)(hm':X.mg "set" = none)(he:SE X e f)(hg:Gl X "sorted":=by rfl)(hg':Gl X "set":=by rfl)(hst:noStar e=true:=by rfl) :
  SE X (.Call (.Name "sorted" p) [.Call (.Name "set" p') [e] [] pos'] [] pos) (h8 Df (c4 f c6)):=by
 intro pins s σ H Q I ⟨ρ,d,er,eq,q⟩
 obtain⟨ds,e1,e2⟩:=i6 eq
 have hst1:=aJ [] X.env hst
 refine Call_ (bJ I hg hm boot_sorted ?_)
 refine Calls.callWith_builtin rfl (Calls.evalArgs_plain (Calls.spliced_cons ?_))
 refine Call_ (bJ I hg' hm' boot_set ?_)
 refine PyProof.Rows.callWith_type1 (oy ((aa he ae hst).1 pos' pins s σ H (fun vs H2=>k9 H H2/\i9 X.K H2 ds vs) I ⟨ρ,ds,er,e1,fun vs H2 s2 r2=>⟨s2,r2⟩⟩) fun us s1 ⟨vs,H1,I1,r1,s01,rp⟩=>?_) (by rw[hst1]) rfl
 have hh:=I1.ok.hd hc
 match ds,e2 with
 | [.tup es],e2 =>
  obtain⟨ns,e3,e4⟩:=i6 (show(intsOf es).bind _=some d from e2)
  split at e4
  case isFalse=>cases e4
  case isTrue hn =>
  cases e4
  obtain⟨v,r',rfl,⟨a,xs,rfl,ha,rx⟩,rr⟩:=rp
  cases (show r'=[] from rr)
  obtain⟨u,rfl,ru⟩:=r1.one
  cases (show u=_ from ru)
  obtain⟨its,rv,eo,_⟩:=I1.tuple ha
  have hI:=bZ e3 rx rv
  have hlen:its.length=ns.length:=IntsAre.length hI
  refine kh (val:=fun i=>ns.getD i 0) hh eo (fun i v hv=>IntsAre.int_at hI i v (by simpa using hv)) (by rw[List.size_toArray,hlen];exact hn) fun h' tk hS hk=>?_
  have hz2:its.toArray.size=ns.length:=by rw[List.size_toArray];exact hlen
  rw[hz2,yz] at hS
  refine Calls.spliced_nil ?_
  have hd4:(rh ns).length<=120:=Nat.le_trans (qI ns []) (by simpa using hn)
  refine uO (s:={s1 with heap:=h',toks:=tk}) hh hS hd4 fun D h2 tk2 n2 its2 hD hk2 hg2 hi2=>?_
  obtain⟨v1,v2⟩:=bX (K:=X.K) (H:=upd H1 D (.lst ((pC (rh ns)).map V.int))) hi2
  have hz:((pC (rh ns)).map V.int).length<=sizeLine:=by
   rw[List.length_map,(oB _).length_eq,sizeLine_eq];omega
  have hf:H1 D=none:=I1.hok.fresh (Nat.le_of_lt hD)
  refine⟨.ref D,upd H1 D (.lst ((pC (rh ns)).map V.int)),I1.laid (t':=tk2) (fun b o eb=>hk2 b o (hk b o (Heap.lt_size eb) eb)) (Nat.le_of_lt hD) ⟨hz,its2,n2,v1,hg2⟩,rfl,?_⟩
  refine q _ _ (s01.trans fun b u hb=>?_) ⟨D,_,rfl,aB,v2⟩
  rw[aD fun z=>by rw[z,hf] at hb;cases hb]
  exact hb
theorem mQ{a b c:Expr}{f g h:R->OD}{p p' pos pos':Pos}(hcm:X.calm=true)(hm:X.mg "tuple" = none)(hm':X.mg "range" = none)(ha:SE X a f)(hb:SE X b g)(hc:SE X c h)(hg:Gl X "tuple":=by rfl)(hg':Gl X "range":=by rfl)(hs:noStar a=true:=by rfl)(hs2:noStar b=true:=by rfl)(hs3:noStar c=true:=by rfl) :
  SE X (.Call (.Name "tuple" p) [.Call (.Name "range" p') [a,b,c] [] pos'] [] pos) (Bs f g h):=by
 have z3:=aJ [] X.env hs3
 have z2:=aJ [c] X.env hs2
 have z1:=aJ [b,c] X.env hs
 intro pins s σ H Q I ⟨ρ,d,er,e,q⟩
 obtain⟨es,e,e0⟩:=i6 e
 obtain⟨x,e1,e⟩:=i6 e
 obtain⟨y,e2,e⟩:=i6 e
 obtain⟨z,e3,e⟩:=i6 e
 obtain⟨i,e4,e⟩:=i6 e
 obtain⟨j,e5,e⟩:=i6 e
 obtain⟨k,e6,e⟩:=i6 e
 split at e
 case isFalse=>cases e
 case isTrue hz =>
 cases e
 split at e0
 case isFalse=>cases e0
 case isTrue hn =>
 cases e0
 refine Call_ (bJ I hg hm boot_tuple ?_)
 refine PyProof.Rows.callWith_type1 (Calls.spliced_cons ?_) rfl rfl
 refine Call_ (bJ I hg' hm' boot_range ?_)
 refine PyProof.Rows.callWith_type1 (oy ((aa ha (aa hb (aa hc ae hs3) hs2) hs).1 pos' pins s σ H (fun vs H2=>k9 H H2/\i9 X.K H2 [x,y,z] vs) I ⟨ρ,[x,y,z],er,by show(f ρ).bind _=_;rw[e1];show((g ρ).bind _).map _=_;rw[e2];show(((h ρ).bind _).map _).map _=_;rw[e3];rfl,fun vs H2 s2 r2=>⟨s2,r2⟩⟩) fun us s1 ⟨vs,H1,I1,r1,s01,rp⟩=>?_) (by rw[z1,z2,z3]) (by rw[z2,z3];rfl)
 obtain⟨v,r,rfl,r2,r3⟩:=rp
 obtain⟨u,r',rfl,r4,r5⟩:=r3
 obtain⟨w,r'',rfl,r6,r7⟩:=r5
 cases (show r''=_ from r7)
 have hv:=oQ e4 r2
 have hu:=oQ e5 r4
 have hw:=oQ e6 r6
 subst hv hu hw
 obtain⟨q1,q2,q3,q4,q5,q6⟩:=hz
 cases r1 with
 | cons r rr =>
  cases rr with
  | cons r' rr =>
   cases rr with
   | cons r'' rr =>
    cases rr
    obtain⟨t,rfl⟩:=r
    obtain⟨t',rfl⟩:=r'
    obtain⟨t'',rfl⟩:=r''
    refine call_range_3 (by omega) ?_ (.inl (PyProof.noPylong_small (by omega)))
    refine Calls.spliced_nil ?_
    have hlen:(qe i j k).length=ou i j k:=by simp[qe]
    generalize hob:({cls:=.type "range",data:=.fields #[.int i t,.int j t',.int k t'']}:Obj)=ob
    have hR:IsRange (s1.heap.push ob) s1.heap.objs.size i j k t t' t'':=by subst hob;exact IsRange.new ..
    refine fi (s:={s1 with heap:=s1.heap.push ob}) (n:=ou i j k) (I1.ok.hd hcm) hR (zU q1 q2 q3 q4 q5 q6) (vD q5).symm (by rw[<- hlen];exact hn) fun h' tk acc hk hD' hacc=>?_
    have hD:s1.heap.objs.size<=h'.objs.size:=Nat.le_trans (by rw[Heap.size_push];exact Nat.le_succ _) hD'
    have hI:IntsAre acc.toList ((List.range (ou i j k)).map fun (m:Nat)=>i+(m:Int)*k):=by
     refine ie _ _ (by rw[Array.length_toList,List.length_map,List.length_range];exact hacc.1) fun m v hv=>?_
     have hm:m<ou i j k:=by
      have:=(List.getElem?_eq_some_iff.mp hv).1
      rw[Array.length_toList,hacc.1] at this
      exact this
     obtain⟨t,e⟩:=hacc.2 m v (by rw[<- Array.getElem?_toList];exact hv)
     refine⟨t,e.trans ?_⟩
     simp[List.getD_eq_getElem?_getD,List.getElem?_map,List.getElem?_range hm]
    have hmp:qe i j k=((List.range (ou i j k)).map fun (m:Nat)=>i+(m:Int)*k).map D.int:=by
     unfold qe;rw[List.map_map];rfl
    rw[hmp] at q
    have hnl:((List.range (ou i j k)).map fun (m:Nat)=>i+(m:Int)*k).length<=1000:=by rw[List.length_map,List.length_range,<- hlen];exact hn
    generalize (List.range (ou i j k)).map (fun (m:Nat)=>i+(m:Int)*k)=ns at *
    have hf:H1 h'.objs.size=none:=I1.hok.fresh hD
    obtain⟨v1,v2⟩:=bX (K:=X.K) (H:=upd H1 h'.objs.size (.tup (ns.map V.int))) hI
    refine⟨.ref h'.objs.size,upd H1 h'.objs.size (.tup (ns.map V.int)),I1.laid (t':=tk) (o:=.tup (ns.map V.int)) (fun b o eb=>Heap.get?_push_of_some _ (hk b o (Heap.get?_push_of_some _ eb))) hD ⟨?_,acc.toList,v1,pD.new _ _⟩,rfl,?_⟩
    ·rw[List.length_map,sizeLine_eq];omega
    ·refine q _ _ (s01.trans fun b u hb=>?_) ⟨h'.objs.size,_,rfl,q8.of aB,v2⟩
     rw[aD fun z=>by rw[z,hf] at hb;cases hb]
     exact hb
end
end HW
set_option maxHeartbeats 1000000
namespace HW
open PySem
inductive sg | none | hour | minute | zero | ahour | aminute | alarm | run | lap | cminute | csecond | full | count
 deriving DecidableEq,Inhabited
inductive qZ | a | b | c
 deriving DecidableEq,Inhabited
inductive Face | time | alarm | laps | count
 deriving DecidableEq,Inhabited
def sg.x:sg->Str
 | .none=>oS "none" | .hour=>oS "hour" | .minute=>oS "minute" | .zero=>oS "zero" | .ahour=>oS "ahour" | .aminute=>oS "aminute" | .alarm=>oS "alarm"
 | .run=>oS "run" | .lap=>oS "lap" | .cminute=>oS "cminute" | .csecond=>oS "csecond" | .full=>oS "full" | .count=>oS "count"
def qZ.x:qZ->Str
 | .a=>oS "a" | .b=>oS "b" | .c=>oS "c"
def qZ.X:qZ->Str
 | .a=>oS "A" | .b=>oS "B" | .c=>oS "C"
def qZ.ix:qZ->Nat
 | .a=>0 | .b=>1 | .c=>2
def Face.x:Face->Str
 | .time=>oS "time" | .alarm=>oS "alarm" | .laps=>oS "laps" | .count=>oS "count"
structure Md where
 face:Face
 stays:Bool
 rows:List (sg×Nat)
 deriving Inhabited
structure Bk where
 hold:Int
 back:Int
 modes:List Md
structure WS where
 mode:Nat
 clock:Int
 ah:Int
 am:Int
 aon:Bool
 lm:Int
 lr:Bool
 lk:List Int
 cm:Int
 cs:Int
 cl:Int
 cr:Bool
 ring:Int
 held:Option (qZ×Option Int)
 idle:Int
def qR(r:sg×Nat):D:=.tup [.str r.1.x,.int (r.2:Int)]
def Md.d(m:Md):D:=.tup [.str m.face.x,.bl m.stays,.tup (m.rows.map qR)]
def Bk.d(b:Bk):D:=.tup [.int b.hold,.int b.back,.tup (b.modes.map Md.d)]
def nU:Option Int->D
 | .none=>.non
 | .some k=>.int k
def q_:Option (qZ×Option Int)->D
 | .none=>.non
 | .some (x,k)=>.tup [.str x.x,nU k]
def WS.alarmD(s:WS):D:=.tup [.int s.ah,.int s.am,.bl s.aon]
def WS.lapsD(s:WS):D:=.tup [.int s.lm,.bl s.lr,.tup (s.lk.map .int)]
def WS.countD(s:WS):D:=.tup [.int s.cm,.int s.cs,.int s.cl,.bl s.cr]
def WS.d(s:WS):D:=.tup [.int (s.mode:Int),.int s.clock,s.alarmD,s.lapsD,s.countD,.int s.ring,q_ s.held,.int s.idle]
structure Md.Ok (n:Nat) (m:Md):Prop where
 six:m.rows.length=6
 nx:∀r∈m.rows,r.2<n
structure Bk.Ok (b:Bk):Prop where
 hold1:1<=b.hold
 hold9:b.hold<=9
 back0:0<=b.back
 back60:b.back<=60
 some1:1<=b.modes.length
 some8:b.modes.length<=8
 all:∀m∈b.modes,m.Ok b.modes.length
structure WS.Wk (b:Bk) (s:WS):Prop where
 bk:0<=b.back
 mode:s.mode<b.modes.length
 clock0:0<=s.clock
 clock1:s.clock<86400
 ah0:0<=s.ah
 ah1:s.ah<24
 am0:0<=s.am
 am1:s.am<60
 lm0:0<=s.lm
 lk:s.lk.length<=4
 cm0:0<=s.cm
 cm1:s.cm<60
 cs0:0<=s.cs
 cs1:s.cs<60
 cl0:0<=s.cl
 cl1:s.cl<3600
 cr:s.cr=true->0<s.cl
 ring0:0<=s.ring
 ring1:s.ring<=10
 idle0:0<=s.idle
 idle1:0<b.back->s.idle<b.back
 idle2:b.back=0->s.idle=0
structure WS.Ok (b:Bk) (s:WS):Prop extends WS.Wk b s where
 held:∀x k,s.held=some (x,some k)->0<=k/\k<b.hold
def sY(s:WS)(m c:Int):WS:=if s.cr then s else {s with cm:=m,cs:=c,cl:=60*m+c,cr:=false}
def deed:sg->WS->WS
 | .none,s=>s
 | .hour,s=>{s with clock:=(s.clock+3600)%86400}
 | .minute,s=>{s with clock:=s.clock - s.clock%3600+(s.clock%3600+60)%3600}
 | .zero,s=>{s with clock:=s.clock - s.clock%60}
 | .ahour,s=>{s with ah:=(s.ah+1)%24}
 | .aminute,s=>{s with am:=(s.am+1)%60}
 | .alarm,s=>{s with aon:=!s.aon}
 | .run,s=>{s with lr:=!s.lr}
 | .lap,s=>if s.lr then (if 4<=s.lk.length then s else {s with lk:=s.lk++[s.lm]}) else {s with lm:=0,lk:=[]}
 | .cminute,s=>sY s ((s.cm+1)%60) s.cs
 | .csecond,s=>sY s s.cm ((s.cs+1)%60)
 | .full,s=>sY s s.cm s.cs
 | .count,s=>{s with cr:=!s.cr&&decide (0<s.cl)}
def Bk.row(b:Bk)(m i:Nat):sg×Nat:=(b.modes.getD m default).rows.getD i (.none,0)
def press(b:Bk)(s:WS)(i:Nat):WS:={deed (b.row s.mode i).1 s with mode:=(b.row s.mode i).2}
def mx(i j:Int):Int:=if j > i then j else i
def WS.sec(s:WS):Int:=3600*s.ah+60*s.am
def k7(s:WS):Option Int:=if s.aon then some ((s.sec - s.clock - 1)%86400+1) else none
def i7(s:WS):Option Int:=if s.cr then some s.cl else none
def oX(s:WS)(n:Int):Option Int:=
 match k7 s,i7 s with
 | some a,some c=>if a<=n then (if c<=n then some (mx (n - (n - a)%86400) c) else some (n - (n - a)%86400)) else (if c<=n then some c else none)
 | some a,none=>if a<=n then some (n - (n - a)%86400) else none
 | none,some c=>if c<=n then some c else none
 | none,none=>none
def oK(s:WS)(n:Int):Int:=
 match oX s n with
 | none=>mx 0 (s.ring - n)
 | some l=>mx 0 (10 - (n - l))
def oa(h:Option (qZ×Option Int))(n:Int):Option (qZ×Option Int):=
 match h with
 | some (x,some k)=>some (x,some (k+n))
 | h=>h
def pR(b:Bk)(s:WS):Int:=mx 1 (b.back - s.idle)
def oJ(b:Bk)(s:WS)(n:Int):Int:=
 if s.held.isSome\/b.back=0 then s.idle else if n<pR b s then s.idle+n else (n - pR b s)%b.back
def oY(s:WS)(n:Int):Int:=if s.lr then s.lm+n else s.lm
def n_(s:WS)(n:Int):Int:=if s.cr then mx 0 (s.cl - n) else s.cl
def runsOn(s:WS)(n:Int):Bool:=s.cr&&decide (0<mx 0 (s.cl - n))
def counted(b:Bk)(s:WS)(n:Int):WS:=
 {s with clock:=(s.clock+n)%86400,lm:=oY s n,cl:=n_ s n,cr:=runsOn s n,ring:=oK s n,held:=oa s.held n,idle:=oJ b s n}
def oO(b:Bk)(s:WS):Bool:=decide (0<b.back)&&(!decide (s.mode=0)&&!(b.modes.getD s.mode default).stays)
def k6(b:Bk)(s:WS):Option Int:=
 match s.held with
 | none=>if oO b s then some (pR b s) else none
 | some (_,none)=>none
 | some (_,some k)=>some (mx 1 (b.hold - k))
def turned(b:Bk)(s:WS):WS:=
 match s.held with
 | none=>{s with mode:=0}
 | some (x,_)=>press b {s with held:=some (x,none)} (x.ix+3)
def behind(b:Bk)(s:WS)(t:Int):WS:=turned b (counted b s t)
def ticked(b:Bk)(s:WS)(n:Int):WS:=
 match k6 b s with
 | none=>counted b s n
 | some t=>if n<t then counted b s n else counted b (behind b s t) (n - t)
def pushed(s:WS)(x:qZ):WS:=if s.held.isSome then s else {s with ring:=0,held:=some (x,if 0<s.ring then none else some 0),idle:=0}
def letGo(b:Bk)(s:WS)(x:qZ):WS:=
 match s.held with
 | some (y,k)=>if y=x then { (if k.isSome then press b s x.ix else s) with held:=none,idle:=0} else s
 | none=>s
inductive Ev | down (x:qZ) | up (x:qZ) | ticks (n:Int)
 deriving DecidableEq
def Ev.d:Ev->D
 | .down x=>.tup [.str (oS "down"),.str x.x]
 | .up x=>.tup [.str (oS "up"),.str x.x]
 | .ticks n=>.tup [.str (oS "ticks"),.int n]
def gone(b:Bk)(s:WS):Ev->WS
 | .down x=>pushed s x
 | .up x=>letGo b s x
 | .ticks n=>ticked b s n
theorem Ga(i j:Int):i<=mx i j:=by unfold mx;split<;>omega
theorem xu{b:Bk}{s:WS}{m n:Int}(hm:0<=m)(hn:0<=n):n_ (counted b s m) n=n_ s (m+n):=by
 unfold n_ counted runsOn n_ mx
 cases s.cr
 ·simp
 ·simp
  split<;>split<;>(try split)<;>omega
theorem p7(s:WS){n:Int}(hn:0<=n):runsOn s n=(s.cr&&decide (n<s.cl)):=by
 unfold runsOn mx
 congr 1
 by_cases h:n<s.cl
 ·rw[if_pos (by omega),decide_eq_true h,decide_eq_true (by omega)]
 ·rw[if_neg (by omega),decide_eq_false h,decide_eq_false (by omega)]
theorem rS(s:WS){n:Int}(h:n<s.cl):n_ s n=if s.cr then s.cl - n else s.cl:=by
 unfold n_
 have e:mx 0 (s.cl - n)=s.cl - n:=by unfold mx;split<;>omega
 rw[e]
theorem xA{b:Bk}{s:WS}{m n:Int}(hm:0<=m)(hn:0<=n):runsOn (counted b s m) n=runsOn s (m+n):=by
 rw[p7 _ hn,p7 _ (by omega)]
 show(runsOn s m&&decide (n<n_ s m))=_
 rw[p7 _ hm]
 cases hc:s.cr
 ·rfl
 ·by_cases h:m<s.cl
  ·rw[rS s h,if_pos hc]
   by_cases h2:m+n<s.cl
   ·rw[decide_eq_true h,decide_eq_true h2,decide_eq_true (by omega)];rfl
   ·rw[decide_eq_true h,decide_eq_false h2,decide_eq_false (by omega)];rfl
  ·rw[decide_eq_false h,decide_eq_false (show ¬ m+n<s.cl by omega)]
   rfl
def qD(aon:Bool)(a:Int)(cr:Bool)(c r n:Int):Int:=
 if aon=true/\a<=n then (if cr=true/\c<=n then mx 0 (10 - (n - mx (n - (n - a)%86400) c)) else mx 0 (10 - (n - a)%86400)) else if cr=true/\c<=n then mx 0 (10 - (n - c)) else mx 0 (r - n)
theorem qJ(s:WS)(n:Int):oK s n=qD s.aon ((s.sec - s.clock - 1)%86400+1) s.cr s.cl s.ring n:=by
 unfold oK oX k7 i7 qD
 generalize (s.sec - s.clock - 1)%86400+1=a
 have e:∀x:Int,n - (n - x)=x:=fun x=>by omega
 cases s.aon<;>cases s.cr<;>by_cases h1:a<=n<;>by_cases h2:s.cl<=n<;>simp[h1,h2,e]
theorem xq{b:Bk}{s:WS}{m n:Int}(w:s.Wk b)(hm:0<=m)(hn:0<=n):oK (counted b s m) n=oK s (m+n):=by
 have hc0:=w.clock0;have hc1:=w.clock1;have hcr:=w.cr;have hr:=w.ring0
 have hl0:=w.cl0
 rw[qJ,qJ]
 show qD s.aon ((s.sec - (s.clock+m)%86400 - 1)%86400+1) (runsOn s m) (n_ s m) (oK s m) n=_
 rw[qJ,p7 s hm]
 generalize s.sec=sec
 generalize s.clock=ck at hc0 hc1 ⊢
 have ea:(sec - (ck+m)%86400 - 1)%86400=(sec - ck - 1 - m)%86400:=by omega
 rw[ea]
 generalize sec - ck - 1=q
 cases ha:s.aon<;>cases hc:s.cr
 ·-- none of both
  simp[qD]
  unfold mx
  split<;>split<;>(try split)<;>omega
 ·have hcl:=hcr hc
  by_cases h:m<s.cl
  ·rw[rS s h,if_pos hc,decide_eq_true h]
   simp[qD]
   have h':¬ s.cl<=m:=by omega
   simp[h']
   by_cases h2:s.cl - m<=n
   ·rw[if_pos h2,if_pos (by omega)];congr 1;omega
   ·rw[if_neg h2,if_neg (by omega)];unfold mx;split<;>split<;>(try split)<;>omega
  ·rw[decide_eq_false h]
   have h':s.cl<=m:=by omega
   have h'':s.cl<=m+n:=by omega
   simp[qD,h',h'']
   unfold mx;split<;>split<;>(try split)<;>omega
 ·simp[qD]
  by_cases h1:q%86400+1<=m
  ·rw[if_pos h1,if_pos (show q%86400+1<=m+n by omega)]
   by_cases h2:(q - m)%86400+1<=n
   ·rw[if_pos h2];congr 1;omega
   ·rw[if_neg h2];unfold mx;split<;>split<;>(try split)<;>omega
  ·rw[if_neg h1]
   have e1:(q - m)%86400=q%86400 - m:=by omega
   rw[e1]
   by_cases h2:q%86400 - m+1<=n
   ·rw[if_pos h2,if_pos (by omega)];congr 1;omega
   ·rw[if_neg h2,if_neg (by omega)];unfold mx;split<;>split<;>(try split)<;>omega
 ·have hcl:=hcr hc
  by_cases h:m<s.cl
  ·rw[rS s h,if_pos hc,decide_eq_true h]
   have h':¬ s.cl<=m:=by omega
   simp[qD,h']
   by_cases h1:q%86400+1<=m
   ·rw[if_pos h1,if_pos (show q%86400+1<=m+n by omega)]
    by_cases h2:(q - m)%86400+1<=n<;>by_cases h3:s.cl - m<=n
    ·rw[if_pos h2,if_pos h3,if_pos (show s.cl<=m+n by omega)];unfold mx;split<;>split<;>(try split)<;>(try split)<;>omega
    ·rw[if_pos h2,if_neg h3,if_neg (show ¬ s.cl<=m+n by omega)];congr 1;omega
    ·rw[if_neg h2,if_pos h3,if_pos (show s.cl<=m+n by omega)];unfold mx;split<;>split<;>(try split)<;>(try split)<;>omega
    ·rw[if_neg h2,if_neg h3,if_neg (show ¬ s.cl<=m+n by omega)];unfold mx;split<;>split<;>(try split)<;>omega
   ·rw[if_neg h1]
    have e1:(q - m)%86400=q%86400 - m:=by omega
    rw[e1]
    by_cases h2:q%86400 - m+1<=n<;>by_cases h3:s.cl - m<=n
    ·rw[if_pos h2,if_pos h3,if_pos (show q%86400+1<=m+n by omega),if_pos (show s.cl<=m+n by omega)];unfold mx;split<;>split<;>(try split)<;>(try split)<;>omega
    ·rw[if_pos h2,if_neg h3,if_pos (show q%86400+1<=m+n by omega),if_neg (show ¬ s.cl<=m+n by omega)];congr 1;omega
    ·rw[if_neg h2,if_pos h3,if_neg (show ¬ q%86400+1<=m+n by omega),if_pos (show s.cl<=m+n by omega)];congr 1;omega
    ·rw[if_neg h2,if_neg h3,if_neg (show ¬ q%86400+1<=m+n by omega),if_neg (show ¬ s.cl<=m+n by omega)];unfold mx;split<;>split<;>(try split)<;>omega
  ·rw[decide_eq_false h]
   have h':s.cl<=m:=by omega
   have h'':s.cl<=m+n:=by omega
   simp[qD,h',h'']
   by_cases h1:q%86400+1<=m
   ·rw[if_pos h1,if_pos (show q%86400+1<=m+n by omega)]
    by_cases h2:(q - m)%86400+1<=n
    ·rw[if_pos h2];unfold mx;split<;>split<;>(try split)<;>(try split)<;>omega
    ·rw[if_neg h2];unfold mx;split<;>split<;>(try split)<;>(try split)<;>omega
   ·rw[if_neg h1]
    have e1:(q - m)%86400=q%86400 - m:=by omega
    rw[e1]
    by_cases h2:q%86400 - m+1<=n
    ·rw[if_pos h2,if_pos (by omega)];unfold mx;split<;>split<;>(try split)<;>(try split)<;>omega
    ·rw[if_neg h2,if_neg (by omega)];unfold mx;split<;>split<;>(try split)<;>omega
theorem tK{b:Bk}{s:WS}(h:s.idle<b.back):pR b s=b.back - s.idle:=by unfold pR mx;split<;>omega
theorem wo(x b:Int):(x - b)%b=x%b:=Int.sub_emod_right x b
theorem qa{b:Bk}{s:WS}{n:Int}(w:s.Wk b)(hn:0<=n):oJ b s n=if s.held.isSome=true\/b.back=0 then s.idle else (s.idle+n)%b.back:=by
 unfold oJ
 have h0:=w.idle0
 by_cases h:s.held.isSome=true\/b.back=0
 ·rw[if_pos h,if_pos h]
 ·have hb:0<b.back:=by
   have:¬ b.back=0:=fun z=>h (.inr z)
   have:=w.bk
   omega
  have h1:=w.idle1 hb
  rw[if_neg h,if_neg h,tK h1]
  by_cases h2:n<b.back - s.idle
  ·rw[if_pos h2,Int.emod_eq_of_lt (by omega) (by omega)]
  ·rw[if_neg h2,show n - (b.back - s.idle)=s.idle+n - b.back by omega,wo]
theorem wL(h:Option (qZ×Option Int))(n:Int):(oa h n).isSome=h.isSome:=by
 unfold oa;split<;>rfl
theorem xG(h:Option (qZ×Option Int))(m n:Int):oa (oa h m) n=oa h (m+n):=by
 rcases h with _ | ⟨x,_ | k⟩
 ·rfl
 ·rfl
 ·simp[oa];omega
theorem sG(a:Int){b:Int}(h:0<b):a%b<b:=Int.emod_lt_of_pos a h
theorem tL(a:Int){b:Int}(h:0<b):0<=a%b:=Int.emod_nonneg a (by omega)
theorem A6(aon:Bool)(a:Int)(cr:Bool)(c r n:Int)(hr:r<=10)(hn:0<=n)(hc:cr=true->0<c)(ha:1<=a):0<=qD aon a cr c r n/\qD aon a cr c r n<=10:=by
 unfold qD
 split
 ·split
  ·unfold mx;split<;>(try split)<;>omega
  ·unfold mx;split<;>omega
 ·split
  ·unfold mx;split<;>omega
  ·unfold mx;split<;>omega
theorem WS.Wk.cnt{b:Bk}{s:WS}{n:Int}(w:s.Wk b)(hn:0<=n):(counted b s n).Wk b:=by
 have hr:=A6 s.aon ((s.sec - s.clock - 1)%86400+1) s.cr s.cl s.ring n w.ring1 hn w.cr (by omega)
 rw[<- qJ] at hr
 have hl0:=w.lm0
 have hi:=qa w hn
 have hcl0:=w.cl0
 have hcl1:=w.cl1
 exact {
  bk:=w.bk,mode:=w.mode,clock0:=tL _ (by decide),clock1:=sG _ (by decide),ah0:=w.ah0,ah1:=w.ah1,am0:=w.am0,am1:=w.am1
  lm0:=by show 0<=oY s n;unfold oY;split<;>omega
  lk:=w.lk,cm0:=w.cm0,cm1:=w.cm1,cs0:=w.cs0,cs1:=w.cs1
  cl0:=by show 0<=n_ s n;unfold n_ mx;split<;>(try split)<;>omega
  cl1:=by show n_ s n<3600;unfold n_ mx;split<;>(try split)<;>omega
  cr:=by
   show runsOn s n=true->0<n_ s n
   intro h
   unfold runsOn at h
   unfold n_
   cases hc:s.cr
   ·rw[hc] at h;cases h
   ·rw[hc] at h;simp at h;simp;exact h
  ring0:=hr.1,ring1:=hr.2
  idle0:=by
   show 0<=oJ b s n
   rw[hi]
   split
   ·exact w.idle0
   ·rename_i h
    have:¬ b.back=0:=fun z=>h (.inr z)
    exact Int.emod_nonneg _ this
  idle1:=fun hb=>by
   show oJ b s n<b.back
   rw[hi]
   split
   ·exact w.idle1 hb
   ·exact sG _ hb
  idle2:=fun hb=>by
   show oJ b s n=0
   rw[hi,if_pos (.inr hb)]
   exact w.idle2 hb}
theorem xI{b:Bk}{s:WS}{m n:Int}(w:s.Wk b)(hm:0<=m)(hn:0<=n):oJ b (counted b s m) n=oJ b s (m+n):=by
 rw[qa (w.cnt hm) hn,qa w (by omega)]
 show(if (oa s.held m).isSome=true\/b.back=0 then oJ b s m else (oJ b s m+n)%b.back)=_
 rw[wL,qa w hm]
 split
 ·rfl
 ·rw[Int.emod_add_emod,Int.add_assoc]
theorem xK{b:Bk}{s:WS}{m n:Int}:oY (counted b s m) n=oY s (m+n):=by
 unfold oY
 show(if s.lr=true then oY s m+n else oY s m)=_
 unfold oY
 split<;>omega
theorem qu{b:Bk}{s:WS}{m n:Int}(w:s.Wk b)(hm:0<=m)(hn:0<=n):counted b (counted b s m) n=counted b s (m+n):=by
 have e1:=xu (b:=b) (s:=s) hm hn
 have e2:=xA (b:=b) (s:=s) hm hn
 have e3:=xq w hm hn
 have e4:=xI w hm hn
 have e5:=xK (b:=b) (s:=s) (m:=m) (n:=n)
 have e6:=xG s.held m n
 have e7:((s.clock+m)%86400+n)%86400=(s.clock+(m+n))%86400:=by omega
 show({counted b s m with clock:=((s.clock+m)%86400+n)%86400,lm:=oY (counted b s m) n,cl:=n_ (counted b s m) n,cr:=runsOn (counted b s m) n,ring:=oK (counted b s m) n,held:=oa (oa s.held m) n,idle:=oJ b (counted b s m) n}:WS)=_
 rw[e1,e2,e3,e4,e5,e6,e7]
 rfl
theorem vZ{b:Bk}{s:WS}(w:s.Wk b):counted b s 0=s:=by
 have e1:n_ s 0=s.cl:=by
  have:=w.cl0
  unfold n_ mx
  split
  ·split<;>omega
  ·rfl
 have e2:runsOn s 0=s.cr:=by
  rw[p7 s (Int.le_refl 0)]
  cases hc:s.cr
  ·rfl
  ·simp[w.cr hc]
 have e3:oK s 0=s.ring:=by
  rw[qJ]
  have h0:=w.ring0
  unfold qD
  rw[if_neg (by rintro⟨_,z⟩;omega),if_neg (by rintro⟨h,z⟩;have:=w.cr h;omega)]
  unfold mx;split<;>omega
 have e4:oJ b s 0=s.idle:=by
  rw[qa w (Int.le_refl 0)]
  split
  ·rfl
  ·rename_i h
   have hb:=w.bk
   have h0:=w.idle0
   have hb':0<b.back:=by
    have:¬ b.back=0:=fun z=>h (.inr z)
    omega
   rw[Int.add_zero,Int.emod_eq_of_lt h0 (w.idle1 hb')]
 have e5:oY s 0=s.lm:=by unfold oY;split<;>omega
 have e6:oa s.held 0=s.held:=by rcases s.held with _ | ⟨x,_ | k⟩<;>simp[oa]
 have e7:(s.clock+0)%86400=s.clock:=by have:=w.clock0;have:=w.clock1;omega
 unfold counted
 rw[e1,e2,e3,e4,e5,e6,e7]
theorem mX{b:Bk}(ok:b.Ok){m i:Nat}(hm:m<b.modes.length)(hi:i<6):(b.row m i).2<b.modes.length:=by
 unfold Bk.row
 have e:b.modes.getD m default=b.modes[m]:=by simp[List.getD_eq_getElem?_getD,hm]
 rw[e]
 have o:=ok.all _ (List.getElem_mem hm)
 have hi':i<b.modes[m].rows.length:=by rw[o.six];exact hi
 have e2:b.modes[m].rows.getD i (.none,0)=b.modes[m].rows[i]:=by simp[List.getD_eq_getElem?_getD,hi']
 rw[e2]
 exact o.nx _ (List.getElem_mem hi')
theorem yY(d:sg)(s:WS):(deed d s).held=s.held:=by
 cases d<;>simp[deed,sY]<;>(repeat' split)<;>rfl
theorem yQ(d:sg)(s:WS):(deed d s).ring=s.ring:=by
 cases d<;>simp[deed,sY]<;>(repeat' split)<;>rfl
theorem WS.Wk.set{b:Bk}{s:WS}(w:s.Wk b){m c:Int}(m0:0<=m)(m1:m<60)(c0:0<=c)(c1:c<60):(sY s m c).Wk b:=by
 unfold sY
 split
 ·exact w
 ·exact {w with cm0:=m0,cm1:=m1,cs0:=c0,cs1:=c1,cl0:=(by show 0<=60*m+c;omega),cl1:=(by show 60*m+c<3600;omega),cr:=fun h=>by cases h}
theorem WS.Wk.dd{b:Bk}{s:WS}(w:s.Wk b)(d:sg):(deed d s).Wk b:=by
 have c0:=w.clock0;have c1:=w.clock1
 cases d with
 | none=>exact w
 | hour=>exact {w with clock0:=tL _ (by decide),clock1:=sG _ (by decide)}
 | minute=>exact {w with clock0:=(by show 0<=s.clock - s.clock%3600+(s.clock%3600+60)%3600;omega),clock1:=(by show s.clock - s.clock%3600+(s.clock%3600+60)%3600<86400;omega)}
 | zero=>exact {w with clock0:=(by show 0<=s.clock - s.clock%60;omega),clock1:=(by show s.clock - s.clock%60<86400;omega)}
 | ahour=>exact {w with ah0:=tL _ (by decide),ah1:=sG _ (by decide)}
 | aminute=>exact {w with am0:=tL _ (by decide),am1:=sG _ (by decide)}
 | alarm=>exact {w with}
 | run=>exact {w with}
 | lap =>
  show(if s.lr then (if 4<=s.lk.length then s else {s with lk:=s.lk++[s.lm]}) else {s with lm:=0,lk:=[]}:WS).Wk b
  split
  ·split
   ·exact w
   ·exact {w with lk:=(by show(s.lk++[s.lm]).length<=4;simp;omega)}
  ·exact {w with lm0:=Int.le_refl 0,lk:=Nat.zero_le _}
 | cminute=>exact w.set (tL _ (by decide)) (sG _ (by decide)) w.cs0 w.cs1
 | csecond=>exact w.set w.cm0 w.cm1 (tL _ (by decide)) (sG _ (by decide))
 | full=>exact w.set w.cm0 w.cm1 w.cs0 w.cs1
 | count =>
  have hc:(!s.cr&&decide (0<s.cl))=true->0<s.cl:=fun h=>by simp at h;exact h.2
  exact {w with cr:=hc}
theorem WS.Wk.prs{b:Bk}{s:WS}(ok:b.Ok)(w:s.Wk b){i:Nat}(hi:i<6):(press b s i).Wk b:=by
 have z:=w.dd (b.row s.mode i).1
 exact {z with mode:=mX ok w.mode hi}
theorem ut(b:Bk)(s:WS)(i:Nat):(press b s i).held=s.held:=yY _ _
theorem qZ.ix3(x:qZ):x.ix+3<6:=by cases x<;>decide
theorem qZ.ix6(x:qZ):x.ix<6:=by cases x<;>decide
theorem WS.Wk.trn{b:Bk}{s:WS}(ok:b.Ok)(w:s.Wk b):(turned b s).Wk b:=by
 unfold turned
 split
 ·exact {w with mode:=ok.some1}
 ·rename_i x k e
  exact WS.Wk.prs (s:={s with held:=some (x,none)}) ok {w with} x.ix3
theorem t_{b:Bk}{s:WS}:k6 b (turned b s)=none:=by
 unfold turned
 split
 ·rename_i e
  unfold k6
  simp[e,oO]
 ·rename_i x k e
  unfold k6
  rw[ut]
theorem sv{b:Bk}{s:WS}{n:Int}(w:s.Wk b)(hn:0<=n)(h:k6 b s=none):k6 b (counted b s n)=none:=by
 unfold k6 at h ⊢
 show(match oa s.held n with | none=>if oO b s then some (pR b (counted b s n)) else none | some (_,none)=>none | some (_,some k)=>some (mx 1 (b.hold - k)))=none
 rcases hs:s.held with _ | ⟨x,_ | k⟩
 ·rw[hs] at h
  by_cases hg:oO b s=true
  ·simp[hg] at h
  ·simp[oa,hg]
 ·rfl
 ·rw[hs] at h;cases h
theorem u7{b:Bk}{s:WS}{n t:Int}(w:s.Ok b)(hn:0<=n)(h:k6 b s=some t)(hlt:n<t):k6 b (counted b s n)=some (t - n):=by
 unfold k6 at h ⊢
 show(match oa s.held n with | none=>if oO b s then some (pR b (counted b s n)) else none | some (_,none)=>none | some (_,some k)=>some (mx 1 (b.hold - k)))=_
 rcases hs:s.held with _ | ⟨x,_ | k⟩
 ·rw[hs] at h
  by_cases hg:oO b s=true
  ·simp[hg] at h
   simp[oa,hg]
   have hb:0<b.back:=by unfold oO at hg;simp at hg;exact hg.1
   have h1:=w.idle1 hb
   rw[tK h1] at h
   have hi:=qa w.toWk hn
   rw[hs] at hi
   rw[if_neg (by simp;omega),Int.emod_eq_of_lt (by have:=w.idle0;omega) (by omega)] at hi
   rw[tK (show(counted b s n).idle<b.back by show oJ b s n<b.back;rw[hi];omega)]
   show b.back - oJ b s n=_
   rw[hi]
   omega
  ·simp[hg] at h
 ·rw[hs] at h;cases h
 ·rw[hs] at h
  have hk:=w.held x k hs
  simp[oa] at h ⊢
  unfold mx at h ⊢
  split at h<;>split<;>omega
theorem oo{b:Bk}{s:WS}{t:Int}(h:k6 b s=some t):1<=t:=by
 unfold k6 at h
 split at h
 ·split at h
  ·cases h;exact Ga _ _
  ·cases h
 ·cases h
 ·cases h;exact Ga _ _
theorem WS.Ok.cnt{b:Bk}{s:WS}{n:Int}(w:s.Ok b)(hn:0<=n)(h:∀t,k6 b s=some t->n<t):(counted b s n).Ok b:=by
 refine {w.toWk.cnt hn with held:=fun x k e=>?_}
 have e':oa s.held n=some (x,some k):=e
 rcases hs:s.held with _ | ⟨y,_ | j⟩
 ·rw[hs] at e';cases e'
 ·rw[hs] at e';cases e'
 ·rw[hs] at e'
  simp[oa] at e'
  obtain⟨rfl,rfl⟩:=e'
  have hj:=w.held y j hs
  have ht:=h (mx 1 (b.hold - j)) (by unfold k6;rw[hs])
  unfold mx at ht
  split at ht<;>omega
theorem vp{b:Bk}{s:WS}(ok:b.Ok)(w:s.Wk b):(turned b s).Ok b:=by
 refine {w.trn ok with held:=fun x k e=>?_}
 unfold turned at e
 split at e
 ·rename_i e2
  simp at e
  rw[e2] at e;cases e
 ·rw[ut] at e;cases e
theorem tm{b:Bk}{s:WS}{n:Int}(ok:b.Ok)(w:s.Ok b)(hn:0<=n):(ticked b s n).Ok b:=by
 unfold ticked
 split
 ·rename_i e
  exact w.cnt hn fun t ht=>by rw[e] at ht;cases ht
 ·rename_i t e
  have ht:=oo e
  split
  ·rename_i h
   exact w.cnt hn fun t' ht'=>by rw[e] at ht';cases ht';exact h
  ·rename_i h
   exact(vp ok (w.toWk.cnt (by omega))).cnt (by omega) fun t' ht'=>by rw[t_] at ht';cases ht'
theorem xQ{b:Bk}{s:WS}{m n:Int}(ok:b.Ok)(w:s.Ok b)(hm:0<=m)(hn:0<=n):ticked b (ticked b s m) n=ticked b s (m+n):=by
 cases e:k6 b s with
 | none =>
  have e1:ticked b s m=counted b s m:=by unfold ticked;rw[e]
  have e2:ticked b s (m+n)=counted b s (m+n):=by unfold ticked;rw[e]
  rw[e1,e2]
  have e3:=sv w.toWk hm e
  unfold ticked
  rw[e3]
  exact qu w.toWk hm hn
 | some t =>
  have ht:=oo e
  by_cases h1:m<t
  ·have e1:ticked b s m=counted b s m:=by unfold ticked;rw[e];exact if_pos h1
   rw[e1]
   have e3:=u7 w hm e h1
   unfold ticked
   rw[e3,e]
   dsimp only
   by_cases h2:m+n<t
   ·rw[if_pos (by omega),if_pos h2]
    exact qu w.toWk hm hn
   ·rw[if_neg (by omega),if_neg h2]
    unfold behind
    rw[qu w.toWk hm (by omega),show m+(t - m)=t by omega,show n - (t - m)=m+n - t by omega]
  ·have e1:ticked b s m=counted b (behind b s t) (m - t):=by unfold ticked;rw[e];exact if_neg h1
   have e2:ticked b s (m+n)=counted b (behind b s t) (m+n - t):=by unfold ticked;rw[e];exact if_neg (by omega)
   rw[e1,e2]
   have wb:=vp ok (w.toWk.cnt (n:=t) (by omega))
   have e3:=sv (n:=m - t) wb.toWk (by omega) t_
   show ticked b (counted b (turned b (counted b s t)) (m - t)) n=_
   unfold ticked
   rw[e3]
   dsimp only
   rw[qu wb.toWk (by omega) hn,show m - t+n=m+n - t by omega]
   rfl
def Ev.Ok:Ev->Prop
 | .ticks n=>1<=n
 | _=>True
abbrev Pr:=qZ×Bool
def Pr.x(p:Pr):Str:=if p.2 then p.1.X else p.1.x
def Pr.ix(p:Pr):Nat:=if p.2 then p.1.ix+3 else p.1.ix
def Pr.code(p:Pr):Nat:=(if p.2 then 65 else 97)+p.1.ix
section
open Builtin Builtin.Str
end
end HW
set_option maxRecDepth 10000
namespace HW
open PySem
def bL:D:=.int 0
def aW:D:=.int 1
def a_:D:=.int 2
def bK:D:=.int 3
def aL:D:=.int 4
def eZ:D:=.int 5
def aT:D:=.int 6
def ca:D:=.int 7
def dG:D:=.int 4
def du:D:=.int 10
def dk:D:=.int 86400
def bY:List Str:=[oS "a",oS "b",oS "c",oS "A",oS "B",oS "C"]
theorem yn{it:R->Option LD}{st:D->R->Option R}{body:R->Option Out}{ρ:R}{ds:LD}{o:Out}(h1:it ρ=some ds)(h2:wj st body ds ρ=some o):xc it st body ρ=some o:=by simp[h1,h2]
theorem k4{f g:R->Option Out}{ρ ρ2:R}(h:f ρ=some (.nx ρ2)):l9 f g ρ=g ρ2:=by simp[h]
theorem sy{c:R->Option Bool}{f g:R->Option Out}{ρ:R}(h:c ρ=some true):ri c f g ρ=f ρ:=by simp[h]
theorem rc{c:R->Option Bool}{f g:R->Option Out}{ρ:R}(h:c ρ=some false):ri c f g ρ=g ρ:=by simp[h]
theorem p0{f g:R->Option Out}{ρ:R}{d:D}(h:f ρ=some (.rt d)):l9 f g ρ=some (.rt d):=by simp[h]
theorem nD{f:R->OD}{st:D->R->Option R}{ρ ρ':R}{d:D}(h:f ρ=some d)(h2:st d ρ=some ρ'):nC f st ρ=some (.nx ρ'):=by simp[h,h2]
theorem i4{F:LD->OD}{g:R->Option LD}{ρ:R}{ds:LD}{d:D}(h:g ρ=some ds)(h2:F ds=some d):h8 F g ρ=some d:=by simp[h,h2]
theorem m8{f:R->OD}{g:R->Option LD}{ρ:R}{d:D}{ds:LD}(h:f ρ=some d)(h2:g ρ=some ds):c4 f g ρ=some (d::ds):=by simp[h,h2]
theorem k8{F:D->D->OD}{f g:R->OD}{ρ:R}{x y z:D}(h1:f ρ=some x)(h2:g ρ=some y)(h:F x y=some z):h7 F f g ρ=some z:=by simp only[h7,h1,h2,Option.bind_some,h]
theorem ox{F:D->D->Option Bool}{f g:R->OD}{ρ:R}{x y:D}{b:Bool}(h1:f ρ=some x)(h2:g ρ=some y)(h:F x y=some b):m7 F f g ρ=some b:=by simp only[m7,h1,h2,Option.bind_some,h]
theorem tupS{g:R->Option LD}{ρ:R}{ds:LD}(h:g ρ=some ds):nF g ρ=some (.tup ds):=by simp[h]
theorem x4{c:R->Option Bool}{ρ:R}{b:Bool}(h:c ρ=some b):ui c ρ=some (.bl b):=by simp[h]
theorem v6{f:R->OD}{l h:R->Option (Option Int)}{ρ:R}{x d:D}{a b:Option Int}(h1:f ρ=some x)(h2:l ρ=some a)(h3:h ρ=some b)(h4:Fz x a b=some d):BQ f l h ρ=some d:=by simp only[BQ,h1,h2,h3,Option.bind_some,h4]
theorem Ew{c d:R->Option Bool}{ρ:R}(h1:c ρ=some false)(h2:d ρ=some false):yS c d ρ=some false:=by simp[h1,h2]
theorem Dz{c d:R->Option Bool}{ρ:R}(h1:c ρ=some false):tH c d ρ=some false:=by simp[h1]
theorem AO{c d:R->Option Bool}{ρ:R}{b:Bool}(h1:c ρ=some true)(h2:d ρ=some b):tH c d ρ=some b:=by simp[h1,h2]
theorem BL{f g:R->OD}{ρ:R}{d:D}(h1:f ρ=some (.bl true))(h2:g ρ=some d):ur f g ρ=some d:=by simp[h1,h2]
theorem zl{c:R->Option Bool}{ρ:R}{b:Bool}(h:c ρ=some b):uv c ρ=some (!b):=by simp[h]
theorem vM{f:R->OD}{ρ:R}{b:Bool}(h:f ρ=some (.bl b)):rE f ρ=some b:=by simp[h]
theorem CK{c:R->Option Bool}{f g:R->OD}{ρ:R}{d:D}(h:c ρ=some true)(h2:f ρ=some d):zD c f g ρ=some d:=by simp[h,h2]
theorem B9{c:R->Option Bool}{f g:R->OD}{ρ:R}{d:D}(h:c ρ=some false)(h2:g ρ=some d):zD c f g ρ=some d:=by simp[h,h2]
theorem Ep{c d:R->Option Bool}{ρ:R}(h1:c ρ=some true):yS c d ρ=some true:=by simp[h1]
theorem Bu{c d:R->Option Bool}{ρ:R}{b:Bool}(h1:c ρ=some false)(h2:d ρ=some b):yS c d ρ=some b:=by simp[h1,h2]
theorem Fq{g:R->Option LD}{ρ:R}{ds:LD}(h:g ρ=some ds):zq g ρ=some (.lst ds):=by simp[h]
theorem FY{F:D->OD}{f:R->OD}{ρ:R}{x z:D}(h1:f ρ=some x)(h:F x=some z):BK F f ρ=some z:=by simp only[BK,h1,Option.bind_some,h]
theorem nG{k n:Nat}{g:R->Option Out}{ds:LD}{d:D}(h:g (xi n ds)=some (.rt d))(hl:ds.length=k:=by rfl):via k n g ds=some d:=by unfold via;rw[if_pos hl,h];rfl
theorem xT{f g:R->OD}{ρ:R}(h1:f ρ=some (.bl false)):ur f g ρ=some (.bl false):=by simp[h1]
theorem retS{f:R->OD}{ρ:R}{d:D}(h:f ρ=some d):nE f ρ=some (.rt d):=by simp[h]
theorem Gp(i:Int):Dl (.int i) (.int i)=some false:=by simp
theorem modS{i j:Int}(h:0<j):nJ (.int i) (.int j)=some (.int (i%j)):=by simp[h]
theorem wU{i j:Int}(h:nW i j=true):rj (.int i) (.int j)=some (.int (i*j)):=by
 show(if nW i j=true then _ else none)=_
 rw[if_pos h]
theorem FR{i j q:Int}(h:0<j)(e:i%j=q):nJ (.int i) (.int j)=some (.int q):=by rw[<- e];exact modS h
theorem Ed{i:Int}(h:i=0):some (i==0)=some true:=by rw[h];rfl
theorem Et{i:Int}(h:¬ i=0):some (i==0)=some false:=by rw[beq_eq_false_iff_ne.mpr h]
theorem dT{p:Prop}[Decidable p](h:p):some (decide p)=some true:=by rw[decide_eq_true h]
theorem dF{p:Prop}[Decidable p](h:¬ p):some (decide p)=some false:=by rw[decide_eq_false h]
mutual
theorem xf:∀d:D,we d=true->BR d d=true
 | .non,_=>rfl
 | .bl b,_=>beq_self_eq_true b
 | .int i,_=>beq_self_eq_true i
 | .str x,_=>beq_self_eq_true x
 | .tup xs,h=>rT xs h
 | .lst xs,h=>rT xs h
 | .fro xs,h=>rT xs h
 | .obj ..,h=>by cases h
theorem rT:∀ds:LD,qU ds=true->u_ ds ds=true
 | [],_=>rfl
 | d::ds,h=>by
  have h':(we d&&qU ds)=true:=h
  rw[Bool.and_eq_true] at h'
  show(BR d d&&u_ ds ds)=true
  rw[xf d h'.1,rT ds h'.2];rfl
end
theorem vA{d:D}(h:rk d<=100)(h2:sH d=true):wg d d=some true:=by unfold wg;rw[if_pos ⟨h,h2,h2⟩,xf _ (bA h2)]
theorem tN{d:D}(h:rk d<=100)(h2:sH d=true):sW d d=some false:=by unfold sW;rw[vA h h2];rfl
theorem sL(l:List Int):tE (l.map D.int)=0:=by induction l with | nil=>rfl | cons a l ih=>simp[tE,rk,ih]
theorem sC(l:List Int):sj (l.map D.int)=true:=by induction l with | nil=>rfl | cons a l ih=>simp[sj,sH,ih]
theorem Gx:8<=sizeLine:=by decide
theorem w0(s:WS):i8 s.d (.int 0)=some (.int (s.mode:Int)):=rfl
theorem w1(s:WS):i8 s.d (.int 1)=some (.int s.clock):=rfl
theorem w2(s:WS):i8 s.d (.int 2)=some s.alarmD:=rfl
theorem w3(s:WS):i8 s.d (.int 3)=some s.lapsD:=rfl
theorem w4(s:WS):i8 s.d (.int 4)=some s.countD:=rfl
theorem w5(s:WS):i8 s.d (.int 5)=some (.int s.ring):=rfl
theorem w6(s:WS):i8 s.d (.int 6)=some (q_ s.held):=rfl
theorem w7(s:WS):i8 s.d (.int 7)=some (.int s.idle):=rfl
theorem Eu(s:WS):i8 s.alarmD (.int 0)=some (.int s.ah):=rfl
theorem ED(s:WS):i8 s.alarmD (.int 1)=some (.int s.am):=rfl
theorem D9(s:WS):i8 s.alarmD (.int 2)=some (.bl s.aon):=rfl
theorem EJ(s:WS):i8 s.lapsD (.int 0)=some (.int s.lm):=rfl
theorem FD(s:WS):i8 s.lapsD (.int 1)=some (.bl s.lr):=rfl
theorem EB(s:WS):i8 s.lapsD (.int 2)=some (.tup (s.lk.map .int)):=rfl
theorem DG(s:WS):i8 s.countD (.int 0)=some (.int s.cm):=rfl
theorem Dx(s:WS):i8 s.countD (.int 1)=some (.int s.cs):=rfl
theorem EO(s:WS):i8 s.countD (.int 2)=some (.int s.cl):=rfl
theorem EE(s:WS):i8 s.countD (.int 3)=some (.bl s.cr):=rfl
theorem b0(b:Bk):i8 b.d (.int 0)=some (.int b.hold):=rfl
theorem b1(b:Bk):i8 b.d (.int 1)=some (.int b.back):=rfl
theorem b2(b:Bk):i8 b.d (.int 2)=some (.tup (b.modes.map Md.d)):=rfl
theorem m0(m:Md):i8 m.d (.int 0)=some (.str m.face.x):=rfl
theorem m1(m:Md):i8 m.d (.int 1)=some (.bl m.stays):=rfl
theorem m2(m:Md):i8 m.d (.int 2)=some (.tup (m.rows.map qR)):=rfl
theorem r0(r:sg×Nat):i8 (qR r) (.int 0)=some (.str r.1.x):=rfl
theorem r1(r:sg×Nat):i8 (qR r) (.int 1)=some (.int (r.2:Int)):=rfl
theorem h0(x:qZ)(k:Option Int):i8 (q_ (some (x,k))) (.int 0)=some (.str x.x):=rfl
theorem h1(x:qZ)(k:Option Int):i8 (q_ (some (x,k))) (.int 1)=some (nU k):=rfl
theorem vW{xs:LD}{i:Nat}(h:i<xs.length):zz xs (i:Int)=some xs[i]:=by
 unfold zz DJ
 rw[if_pos (by omega),if_pos (by omega)]
 simp[h]
theorem j9(b:Bk){m:Nat}(h:m<b.modes.length):i8 (.tup (b.modes.map Md.d)) (.int (m:Int))=some (b.modes.getD m default).d:=by
 show zz _ _=_
 rw[vW (by simpa using h)]
 simp[List.getD_eq_getElem?_getD,h]
theorem m_(m:Md){i:Nat}(h:i<m.rows.length):i8 (.tup (m.rows.map qR)) (.int (i:Int))=some (qR (m.rows.getD i (.none,0))):=by
 show zz _ _=_
 rw[vW (by simpa using h)]
 simp[List.getD_eq_getElem?_getD,h]
theorem lN(b:Bk){m:Nat}(h:m<b.modes.length):b.modes.getD m default∈b.modes:=by
 have e:b.modes.getD m default=b.modes[m]:=by simp[List.getD_eq_getElem?_getD,h]
 rw[e];exact List.getElem_mem h
theorem Ef{i j:Int}(h1 : -(2 ^ 64)<i)(h2:i<2 ^ 64):rj (.int i) (.int j)=some (.int (i*j)):=by simp[oR h1 h2]
theorem A_(j:Int):rj (.int 3600) (.int j)=some (.int (3600*j)):=Ef (by decide) (by decide)
theorem BY(j:Int):rj (.int 60) (.int j)=some (.int (60*j)):=Ef (by decide) (by decide)
theorem AG(k:Option Int):pB (nU k) .non=some k.isSome:=by cases k<;>rfl
theorem DL(i j:Int):vc [.int i,.int j]=some (.int (mx i j)):=rfl
def whole:D->Bool
 | .int _=>true
 | _=>false
def within(d:D)(l m:Int):Bool:=match d with
 | .int i=>decide (l<=i)&&decide (i<=m)
 | _=>false
def oneOf(d:D)(ws:LD):Bool:=match d with
 | .str x=>ws.any fun y=>EH y (.str x)
 | _=>false
def FN(d:D)(m:Int):Bool:=match d with
 | .tup xs=>(xs.length:Int)==m
 | _=>false
def s_:LD:=[.str (oS "none"),.str (oS "hour"),.str (oS "minute"),.str (oS "zero"),.str (oS "ahour"),.str (oS "aminute"),.str (oS "alarm"),.str (oS "run"),.str (oS "lap"),.str (oS "cminute"),.str (oS "csecond"),.str (oS "full"),.str (oS "count")]
def uI:LD:=[.str (oS "time"),.str (oS "alarm"),.str (oS "laps"),.str (oS "count")]
def sV(d:D)(m:Int):Bool:=match d with
 | .tup [a,b]=>oneOf a s_&&within b 0 (m - 1)
 | _=>false
def x3(d:D)(m:Int):Bool:=match d with
 | .tup xs=>xs.length==6&&xs.all fun x=>sV x m
 | _=>false
def sD(d:D)(m:Int):Bool:=match d with
 | .tup [a,b,c]=>oneOf a uI&&(Gb b "bool" && x3 c m)
 | _=>false
def wf(d:D):Bool:=match d with
 | .tup xs=>decide (1<=xs.length)&&(decide (xs.length<=8)&&xs.all fun x=>sD x xs.length)
 | _=>false
def vV(d:D):Bool:=match d with
 | .tup [a,b,c]=>within a 1 9&&(within b 0 60&&wf c)
 | _=>false
theorem within_int{d:D}{l h:Int}(e:within d l h=true):∃i:Int,d=.int i/\l<=i/\i<=h:=by
 cases d with
 | int i=>simp[within] at e;exact⟨i,rfl,e⟩
 | _=>cases e
theorem zt{d:D}(e:Gb d "bool" = true):∃b,d=.bl b:=by
 cases d with
 | bl b=>exact⟨b,rfl⟩
 | _=>simp at e
theorem vy{d:D}{ws:LD}(e:oneOf d ws=true):∃x,d=.str x/\(ws.any fun y=>EH y (.str x))=true:=by
 cases d with
 | str x=>exact⟨x,rfl,e⟩
 | _=>cases e
theorem Bf{d:D}(e:oneOf d s_=true):∃k:sg,d=.str k.x:=by
 obtain⟨x,rfl,h⟩:=vy e
 obtain⟨y,hy,h⟩:=List.any_eq_true.mp h
 have q:∀w:Str,EH (.str w) (.str x)=true->w=x:=fun w z=>beq_iff_eq.mp z
 simp only[s_,List.mem_cons,List.not_mem_nil,or_false] at hy
 rcases hy with rfl | rfl | rfl | rfl | rfl | rfl | rfl | rfl | rfl | rfl | rfl | rfl | rfl
 ·exact⟨.none,congrArg D.str (q _ h).symm⟩
 ·exact⟨.hour,congrArg D.str (q _ h).symm⟩
 ·exact⟨.minute,congrArg D.str (q _ h).symm⟩
 ·exact⟨.zero,congrArg D.str (q _ h).symm⟩
 ·exact⟨.ahour,congrArg D.str (q _ h).symm⟩
 ·exact⟨.aminute,congrArg D.str (q _ h).symm⟩
 ·exact⟨.alarm,congrArg D.str (q _ h).symm⟩
 ·exact⟨.run,congrArg D.str (q _ h).symm⟩
 ·exact⟨.lap,congrArg D.str (q _ h).symm⟩
 ·exact⟨.cminute,congrArg D.str (q _ h).symm⟩
 ·exact⟨.csecond,congrArg D.str (q _ h).symm⟩
 ·exact⟨.full,congrArg D.str (q _ h).symm⟩
 ·exact⟨.count,congrArg D.str (q _ h).symm⟩
theorem Bm{d:D}(e:oneOf d uI=true):∃k:Face,d=.str k.x:=by
 obtain⟨x,rfl,h⟩:=vy e
 obtain⟨y,hy,h⟩:=List.any_eq_true.mp h
 have q:∀w:Str,EH (.str w) (.str x)=true->w=x:=fun w z=>beq_iff_eq.mp z
 simp only[uI,List.mem_cons,List.not_mem_nil,or_false] at hy
 rcases hy with rfl | rfl | rfl | rfl
 ·exact⟨.time,congrArg D.str (q _ h).symm⟩
 ·exact⟨.alarm,congrArg D.str (q _ h).symm⟩
 ·exact⟨.laps,congrArg D.str (q _ h).symm⟩
 ·exact⟨.count,congrArg D.str (q _ h).symm⟩
theorem mJ{d:D}{n:Nat}(e:sV d n=true):∃r:sg×Nat,d=qR r/\r.2<n:=by
 unfold sV at e
 split at e
 ·rw[Bool.and_eq_true] at e
  obtain⟨k,rfl⟩:=Bf e.1
  obtain⟨i,rfl,h0,h1⟩:=within_int e.2
  refine⟨(k,i.toNat),?_,?_⟩
  ·simp[qR,Int.toNat_of_nonneg h0]
  ·simp;omega
 ·cases e
theorem wc{α:Type}{f:α->D}{P:α->Prop}{q:D->Bool}(h:∀d,q d=true->∃a,d=f a/\P a):∀{ds:LD},ds.all q=true->∃as:List α,ds=as.map f/\∀a∈as,P a
 | [],_=>⟨[],rfl,fun _ h=>by cases h⟩
 | d::ds,e=>by
  rw[List.all_cons,Bool.and_eq_true] at e
  obtain⟨a,rfl,ha⟩:=h d e.1
  obtain⟨as,rfl,hs⟩:=wc h e.2
  exact⟨a::as,rfl,fun x hx=>by rcases List.mem_cons.mp hx with rfl | hx;exact ha;exact hs x hx⟩
theorem l_{d:D}{n:Nat}(e:sD d n=true):∃m:Md,d=m.d/\m.Ok n:=by
 unfold sD at e
 split at e
 ·rename_i a b c
  rw[Bool.and_eq_true,Bool.and_eq_true] at e
  obtain⟨f,rfl⟩:=Bm e.1
  obtain⟨s,rfl⟩:=zt e.2.1
  have e2:=e.2.2
  cases c with
  | tup xs =>
   unfold x3 at e2
   simp only[Bool.and_eq_true] at e2
   obtain⟨rs,rfl,hr⟩:=wc (f:=qR) (P:=fun r=>r.2<n) (fun d h=>mJ h) e2.2
   refine⟨⟨f,s,rs⟩,rfl,?_,hr⟩
   have:=e2.1
   simpa using this
  | _=>cases e2
 ·cases e
theorem lR{d:D}(e:vV d=true):∃b:Bk,d=b.d/\b.Ok:=by
 unfold vV at e
 split at e
 ·rename_i a b c
  rw[Bool.and_eq_true,Bool.and_eq_true] at e
  obtain⟨i,rfl,i0,i1⟩:=within_int e.1
  obtain⟨j,rfl,j0,j1⟩:=within_int e.2.1
  have e2:=e.2.2
  cases c with
  | tup xs =>
   unfold wf at e2
   simp only[Bool.and_eq_true] at e2
   obtain⟨h1,h2,h3⟩:=e2
   obtain⟨ms,hm,hok⟩:=wc (f:=Md.d) (P:=fun m=>m.Ok xs.length) (fun d h=>l_ h) h3
   have hl:xs.length=ms.length:=by rw[hm];simp
   refine⟨⟨i,j,ms⟩,by rw[hm];rfl,i0,i1,j0,j1,?_,?_,?_⟩
   ·have:=of_decide_eq_true h1;show 1<=ms.length;omega
   ·have:=of_decide_eq_true h2;show ms.length<=8;omega
   ·rw[hl] at hok;exact hok
  | _=>cases e2
 ·cases e
def hV:R->Option Out:=
  (l9 (nC (h7 nJ (h7 rj (h7 nM (h7 nM (c5 0) (h7 rj (kI 104729) (c5 1))) (kI 17)) (kI 69621)) (kI 2147483647)) (setAt 2))
  (nE (h7 nJ (h7 nM (h7 nM (h7 rj (c5 2) (c5 2)) (h7 rj (kI 3) (c5 2))) (c5 1)) (kI 2147483629))))
def aG:LD->OD:=via 2 3 hV
def oh(n k:Int):Int:=((n+104729*k+17)*69621%2147483647*((n+104729*k+17)*69621%2147483647)+3*((n+104729*k+17)*69621%2147483647)+k)%2147483629
theorem qS(n k:Int):aG [.int n,.int k]=some (.int (oh n k)):=by
 unfold oh
 generalize hq:(n+104729*k+17)*69621%2147483647=q
 have q0:0<=q:=by rw[<- hq];exact Int.emod_nonneg _ (by decide)
 have q1:q<2147483647:=by rw[<- hq];exact Int.emod_lt_of_pos _ (by decide)
 have m1:nW 104729 k=true:=oR (by decide) (by decide)
 have m2:nW (n+104729*k+17) 69621=true:=vE (by decide) (by decide)
 have m3:nW q q=true:=oR (by omega) (by omega)
 have m4:nW 3 q=true:=oR (by decide) (by decide)
 exact nG ((k4 (nD (k8 (k8 (k8 (k8 rfl (k8 rfl rfl (wU m1)) rfl) rfl rfl) rfl (wU m2)) rfl (FR (by decide) hq)) rfl)).trans (retS (k8 (k8 (k8 (k8 rfl rfl (wU m3)) (k8 rfl rfl (wU m4)) rfl) rfl rfl) rfl (modS (by decide)))))
def iA:R->Option Out:=
  (l9 (nC (h7 nM (kI 1) (h7 nJ (c5 0) (kI 8))) (setAt 1))
  (l9 (nC (nF (c4 (kS "none") (c4 (kS "hour") (c4 (kS "minute") (c4 (kS "zero") (c4 (kS "ahour") (c4 (kS "aminute") (c4 (kS "alarm") (c4 (kS "run") (c4 (kS "lap") (c4 (kS "cminute") (c4 (kS "csecond") (c4 (kS "full") c6))))))))))))) (setAt 2))
  (l9 (nC (nF c6) (setAt 3))
  (l9 (xc (rD (c5 1)) (setAt 4)
  (l9 (nC (h7 oE (h8 aG (c4 (c5 0) (c4 (c5 4) c6))) (kI 4)) (setAt 5))
  (l9 (nC (nF c6) (setAt 6))
  (l9 (xc (rD (kI 6)) (setAt 7)
  (l9 (nC (h7 oE (h8 aG (c4 (c5 5) (c4 (h7 nM (kI 10) (c5 7)) c6))) (kI 4)) (setAt 8))
  (nC (h7 nM (c5 6) (nF (c4 (nF (c4 (h7 i8 (h7 nM (c5 2) (nF (c4 (kS "count") c6))) (h7 nJ (c5 8) (kI 13))) (c4 (h7 nJ (h7 oE (c5 8) (kI 16)) (c5 1)) c6))) c6))) (setAt 6))))
  (l9 (nC (h7 i8 (nF (c4 (kS "time") (c4 (kS "alarm") (c4 (kS "laps") (c4 (kS "count") c6))))) (h7 nJ (c5 5) (kI 4))) (setAt 9))
  (nC (h7 nM (c5 3) (nF (c4 (nF (c4 (c5 9) (c4 (ui (m7 u5 (h7 nJ (h7 oE (c5 5) (kI 4)) (kI 2)) (kI 0))) (c4 (c5 6) c6)))) c6))) (setAt 3)))))))
  (nE (nF (c4 (h7 nM (kI 1) (h7 nJ (h7 oE (c5 0) (kI 8)) (h7 i8 (nF (c4 (kI 3) (c4 (kI 9) c6))) (h7 nJ (h7 oE (c5 0) (kI 128)) (kI 2))))) (c4 (h7 i8 (nF (c4 (kI 0) (c4 (kI 7) (c4 (kI 60) (c4 (kI 1) (c4 (kI 20) c6)))))) (h7 nJ (h7 oE (c5 0) (kI 256)) (kI 5))) (c4 (c5 3) c6)))))))))
def bN:LD->OD:=via 1 10 iA
def og:LD:=[.str (oS "none"),.str (oS "hour"),.str (oS "minute"),.str (oS "zero"),.str (oS "ahour"),.str (oS "aminute"),.str (oS "alarm"),.str (oS "run"),.str (oS "lap"),.str (oS "cminute"),.str (oS "csecond"),.str (oS "full")]
theorem wX:∀x∈s_,oneOf x s_=true/\Fits x:=by
 intro x hx
 simp only[s_,List.mem_cons,List.not_mem_nil,or_false] at hx
 rcases hx with h | h | h | h | h | h | h | h | h | h | h | h | h<;>subst h<;>exact⟨by decide,.str _⟩
theorem wZ:∀x∈uI,oneOf x uI=true/\Fits x:=by
 intro x hx
 simp only[uI,List.mem_cons,List.not_mem_nil,or_false] at hx
 rcases hx with h | h | h | h<;>subst h<;>exact⟨by decide,.str _⟩
def uk:R->Option Out:=(l9 (nC (h7 oE (h8 aG (c4 (c5 5) (c4 (h7 nM (kI 10) (c5 7)) c6))) (kI 4)) (setAt 8))
 (nC (h7 nM (c5 6) (nF (c4 (nF (c4 (h7 i8 (h7 nM (c5 2) (nF (c4 (kS "count") c6))) (h7 nJ (c5 8) (kI 13))) (c4 (h7 nJ (h7 oE (c5 8) (kI 16)) (c5 1)) c6))) c6))) (setAt 6)))
theorem sz{n:Nat}(h:n<=1000):n<=sizeLine:=Nat.le_trans h (by decide)
theorem lH{N m:Int}{ms rs:LD}{a b f:OD}{q j:Int}(hm:0<m)(hr:rs.length<=100)(hk:∀x∈rs,sV x m=true/\Fits x) :
  ∃o r,uk [some (.int N),some (.int m),some (.tup og),some (.tup ms),a,some (.int q),some (.tup rs),some (.int j),b,f]=some (.nx [some (.int N),some (.int m),some (.tup og),some (.tup ms),a,some (.int q),some (.tup (rs++[r])),some (.int j),o,f])/\sV r m=true/\Fits r:=by
 generalize hz:oh q (10+j) / 4=z
 obtain⟨x,hx,hat⟩:=ti (xs:=s_) (i:=z%13) (Int.emod_nonneg _ (by decide)) (Int.emod_lt_of_pos _ (by decide))
 have w0:0<=z / 16%m:=Int.emod_nonneg _ (by omega)
 have w1:z / 16%m<m:=Int.emod_lt_of_pos _ hm
 have hl:rs.length+1<=sizeLine:=sz (by omega)
 have hd:og++[.str (oS "count")]=s_:=rfl
 have hs:og.length+1<=sizeLine:=by decide
 refine⟨some (.int z),.tup [x,.int (z / 16%m)],?_,?_,?_⟩
 ·have ha:nM (.tup og) (.tup [.str (oS "count")])=some (.tup s_):=by
   show(if og.length+1<=sizeLine then some (D.tup (og++[.str (oS "count")])) else none)=_
   rw[if_pos hs,hd]
  have hb:nM (.tup rs) (.tup [.tup [x,.int (z / 16%m)]])=some (.tup (rs++[.tup [x,.int (z / 16%m)]])):=by
   show(if rs.length+1<=sizeLine then _ else none)=_
   rw[if_pos hl]
  have hv:oE (.int (oh q (10+j))) (.int 4)=some (.int z):=by rw[<- hz];rfl
  exact(k4 (nD (k8 (i4 (m8 rfl (m8 (k8 rfl rfl rfl) rfl)) (qS _ _)) rfl hv) rfl)).trans (nD (k8 rfl (tupS (m8 (tupS (m8 (k8 (k8 rfl rfl ha) (k8 rfl rfl (modS (by decide))) hat) (m8 (k8 (k8 rfl rfl rfl) rfl (modS hm)) rfl))) rfl)) hb) rfl)
 ·simp[sV,(wX x hx).1,within,w0]
  omega
 ·exact .tup (by simp) (by
   intro y hy
   simp at hy
   rcases hy with h | h<;>subst h
   ·exact(wX _ hx).2
   ·exact .int _)
def xm:R->Option Out:=(l9 (nC (h7 oE (h8 aG (c4 (c5 0) (c4 (c5 4) c6))) (kI 4)) (setAt 5))
  (l9 (nC (nF c6) (setAt 6))
  (l9 (xc (rD (kI 6)) (setAt 7) uk)
  (l9 (nC (h7 i8 (nF (c4 (kS "time") (c4 (kS "alarm") (c4 (kS "laps") (c4 (kS "count") c6))))) (h7 nJ (c5 5) (kI 4))) (setAt 9))
  (nC (h7 nM (c5 3) (nF (c4 (nF (c4 (c5 9) (c4 (ui (m7 u5 (h7 nJ (h7 oE (c5 5) (kI 4)) (kI 2)) (kI 0))) (c4 (c5 6) c6)))) c6))) (setAt 3))))))
def D8(N m q:Int)(ms:LD)(a f:OD)(i:Nat)(ρ:R):Prop:=∃rs o j,ρ=[some (.int N),some (.int m),some (.tup og),some (.tup ms),a,some (.int q),some (.tup rs),j,o,f]/\rs.length=i/\∀x∈rs,sV x m=true/\Fits x
theorem kz{N m q:Int}{ms:LD}{a b c f:OD}(hm:0<m) :
  ∃rs o j,wj (setAt 7) uk (qy 0 6) [some (.int N),some (.int m),some (.tup og),some (.tup ms),a,some (.int q),some (.tup []),b,c,f]=some (.nx [some (.int N),some (.int m),some (.tup og),some (.tup ms),a,some (.int q),some (.tup rs),j,o,f])/\rs.length=6/\∀x∈rs,sV x m=true/\Fits x:=by
 obtain⟨ρ',h1,rs,o,j,h2,h3,h4⟩:=uR (st:=setAt 7) (body:=uk) (D8 N m q ms a f) (qy 0 6) 0 [some (.int N),some (.int m),some (.tup og),some (.tup ms),a,some (.int q),some (.tup []),b,c,f]
  ⟨[],c,b,rfl,rfl,fun x hx=>nomatch hx⟩ (fun i d ρ e p=>by
   obtain⟨rs,o,j,rfl,hl,hk⟩:=p
   obtain⟨rfl,hi⟩:=fV e
   obtain⟨o',r,h1,h2,h3⟩:=lH (N:=N) (ms:=ms) (a:=a) (b:=o) (f:=f) (q:=q) (j:=(i:Int)) hm (rs:=rs) (by omega) hk
   refine⟨_,_,rfl,h1,rs++[r],o',_,rfl,by simp[hl],fun x hx=>?_⟩
   rcases List.mem_append.mp hx with hx | hx
   ·exact hk x hx
   ·cases List.mem_singleton.mp hx
    exact⟨h2,h3⟩)
 subst h2
 refine⟨rs,o,j,h1,?_,h4⟩
 rw[h3,fQ]
 rfl
theorem kK{N m:Int}{ms:LD}{k:Int}{a b c d e:OD}(hm:0<m)(hms:ms.length<=100) :
  ∃r o1 o2 o3 o4 o5,xm [some (.int N),some (.int m),some (.tup og),some (.tup ms),some (.int k),a,b,c,d,e]=some (.nx [some (.int N),some (.int m),some (.tup og),some (.tup (ms++[r])),some (.int k),o1,o2,o3,o4,o5])/\sD r m=true/\Fits r:=by
 generalize hq:oh N k / 4=q
 obtain⟨rs,o,j,h1,h2,h3⟩:=kz (N:=N) (m:=m) (q:=q) (ms:=ms) (a:=some (.int k)) (b:=c) (c:=d) (f:=e) hm
 obtain⟨x,hx,hat⟩:=ti (xs:=uI) (i:=q%4) (Int.emod_nonneg _ (by decide)) (Int.emod_lt_of_pos _ (by decide))
 have hl:ms.length+1<=sizeLine:=sz (by omega)
 refine⟨.tup [x,.bl (q / 4%2==0),.tup rs],some (.int q),some (.tup rs),j,o,some x,?_,?_,?_⟩
 rotate_left 1
 ·have ha:(rs.all fun y=>sV y m)=true:=List.all_eq_true.mpr fun y hy=>(h3 y hy).1
  simp[sD,(wZ x hx).1,x3,h2,ha]
 ·refine .tup (by simp) fun y hy=>?_
  simp at hy
  rcases hy with h | h | h<;>subst h
  ·exact(wZ _ hx).2
  ·exact .bl _
  ·exact .tup (by omega) fun y hy=>(h3 y hy).2
 ·have hat':zz [.str (oS "time"),.str (oS "alarm"),.str (oS "laps"),.str (oS "count")] (q%4)=some x:=hat
  have hb:nM (.tup ms) (.tup [.tup [x,.bl (q / 4%2==0),.tup rs]])=some (.tup (ms++[.tup [x,.bl (q / 4%2==0),.tup rs]])):=by
   show(if ms.length+1<=sizeLine then _ else none)=_
   rw[if_pos hl]
  have hv:oE (.int (oh N k)) (.int 4)=some (.int q):=by rw[<- hq];rfl
  exact(k4 (nD (k8 (i4 (m8 rfl rfl) (qS _ _)) rfl hv) rfl)).trans ((k4 (nD (tupS rfl) rfl)).trans ((k4 (yn (ds:=qy 0 6) rfl h1)).trans ((k4 (nD (k8 rfl (k8 rfl rfl (modS (by decide))) hat') rfl)).trans
   (nD (k8 rfl (tupS (m8 (tupS (m8 rfl (m8 (x4 (ox (k8 (k8 rfl rfl rfl) rfl (modS (by decide))) rfl rfl)) rfl))) rfl)) hb) rfl))))
def Dy(N m:Int)(i:Nat)(ρ:R):Prop:=∃ms a b c d e f,ρ=[some (.int N),some (.int m),some (.tup og),some (.tup ms),a,b,c,d,e,f]/\ms.length=i/\∀x∈ms,sD x m=true/\Fits x
theorem kE(N:Int):∃b,bN [.int N]=some b/\vV b=true/\Fits b:=by
 generalize hM:1+N%8=m
 have hm0:0<m:=by have:=Int.emod_nonneg N (show(8:Int)≠0 by decide);omega
 have hm8:m<=8:=by have:=Int.emod_lt_of_pos N (show(0:Int)<8 by decide);omega
 obtain⟨ρ',h1,ms,a,b,c,d,e,f,h2,h3,h4⟩:=uR (st:=setAt 4) (body:=xm) (Dy N m) (qy 0 m) 0 [some (.int N),some (.int m),some (.tup og),some (.tup []),none,none,none,none,none,none]
  ⟨[],none,none,none,none,none,none,rfl,rfl,fun x hx=>nomatch hx⟩ (fun i d ρ e p=>by
   obtain⟨ms,a,b,c,d',e',f,rfl,hl,hk⟩:=p
   obtain⟨rfl,hi⟩:=fV e
   obtain⟨r,o1,o2,o3,o4,o5,h1,h2,h3⟩:=kK (N:=N) (ms:=ms) (k:=(i:Int)) (a:=b) (b:=c) (c:=d') (d:=e') (e:=f) hm0 (by omega)
   refine⟨_,_,rfl,h1,ms++[r],_,_,_,_,_,_,rfl,by simp[hl],fun x hx=>?_⟩
   rcases List.mem_append.mp hx with hx | hx
   ·exact hk x hx
   ·cases List.mem_singleton.mp hx
    exact⟨h2,h3⟩)
 subst h2
 rw[fQ] at h3
 have hlen:((ms.length:Nat):Int)=m:=by omega
 have hr : -4611686018427387904<=m/\m<4611686018427387904:=by omega
 obtain⟨p,hp,hat⟩:=ti (xs:=[.int 3,.int 9]) (i:=N / 128%2) (Int.emod_nonneg _ (by decide)) (Int.emod_lt_of_pos _ (by decide))
 have hp':∃v:Int,p=.int v/\0<v/\v<=9:=by
  simp at hp
  rcases hp with h | h<;>subst h
  ·exact⟨3,rfl,by decide,by decide⟩
  ·exact⟨9,rfl,by decide,by decide⟩
 obtain⟨v,rfl,hv0,hv9⟩:=hp'
 obtain⟨p2,hp2,hat2⟩:=ti (xs:=[.int 0,.int 7,.int 60,.int 1,.int 20]) (i:=N / 256%5) (Int.emod_nonneg _ (by decide)) (Int.emod_lt_of_pos _ (by decide))
 have hp2':∃v:Int,p2=.int v/\0<=v/\v<=60:=by
  simp at hp2
  rcases hp2 with h | h | h | h | h<;>subst h
  ·exact⟨0,rfl,by decide,by decide⟩
  ·exact⟨7,rfl,by decide,by decide⟩
  ·exact⟨60,rfl,by decide,by decide⟩
  ·exact⟨1,rfl,by decide,by decide⟩
  ·exact⟨20,rfl,by decide,by decide⟩
 obtain⟨v2,rfl,hv20,hv260⟩:=hp2'
 have w0:0<=N / 8%v:=Int.emod_nonneg _ (by omega)
 have w1:N / 8%v<v:=Int.emod_lt_of_pos _ hv0
 refine⟨.tup [.int (1+N / 8%v),.int v2,.tup ms],?_,?_,?_⟩
 ·have hi:rD (c5 1) [some (.int N),some (.int m),some (.tup og),some (.tup []),none,none,none,none,none,none]=some (qy 0 m):=by
   show(if -4611686018427387904<=m/\m<4611686018427387904 then some (qy 0 m) else none)=_
   rw[if_pos hr]
  have h0:nM (.int 1) (.int (N%8))=some (.int m):=by rw[<- hM];rfl
  exact nG ((k4 (nD (k8 rfl (k8 rfl rfl (modS (by decide))) h0) rfl)).trans ((k4 (nD rfl rfl)).trans ((k4 (nD (tupS rfl) rfl)).trans ((k4 (yn hi h1)).trans (retS (tupS (m8 (k8 rfl (k8 (k8 rfl rfl rfl) (k8 rfl (k8 (k8 rfl rfl rfl) rfl (modS (by decide))) hat) (modS hv0)) rfl) (m8 (k8 rfl (k8 (k8 rfl rfl rfl) rfl (modS (by decide))) hat2) rfl))))))))
 ·have ha:(ms.all fun y=>sD y ms.length)=true:=List.all_eq_true.mpr fun y hy=>by rw[hlen];exact(h4 y hy).1
  have g1:1<=ms.length:=by omega
  have g8:ms.length<=8:=by omega
  simp[vV,within,wf,ha,g1,g8]
  omega
 ·refine .tup (by simp) fun y hy=>?_
  simp at hy
  rcases hy with h | h | h<;>subst h
  ·exact .int _
  ·exact .int _
  ·exact .tup (by omega) fun y hy=>(h4 y hy).2
def gn:R->Option Out:=
  (l9 (ri (m7 Dp (c5 1) (h8 wA (c4 (c5 0) c6)))
  (nE (h7 i8 (c5 0) (c5 1)))
  nV)
  (nE (kI 0)))
def bq:LD->OD:=via 2 2 gn
theorem yM(ns:List Int)(k:Int)(h0:0<=k):∃c,bq [.fro (ns.map .int),.int k]=some (.int c):=by
 obtain⟨n,rfl⟩:=Int.eq_ofNat_of_zero_le h0
 by_cases h1:(n:Int)<((ns.map D.int).length:Int)
 ·have h2:n<(ns.map D.int).length:=Int.ofNat_lt.mp h1
  have h3:n<ns.length:=by rw[List.length_map] at h2;exact h2
  refine⟨ns[n],nG (p0 ((sy (ox rfl (i4 (F:=wA) rfl rfl) (dT h1))).trans (retS (k8 rfl rfl ?_))))⟩
  exact(vW h2).trans (by rw[List.getElem_map])
 ·exact⟨0,nG ((k4 (rc (ox rfl (i4 (F:=wA) rfl rfl) (dF h1)))).trans (retS rfl))⟩
def ip:R->Option Out:=
  (l9 (nC (h7 nJ (h7 rj (h7 nM (h7 nM (h8 bq (c4 (c5 0) (c4 (c5 1) c6))) (h7 rj (kI 7919) (c5 1))) (kI 1)) (kI 48271)) (kI 2147483647)) (setAt 2))
  (nE (h7 nJ (h7 nM (h7 nM (h7 rj (c5 2) (c5 2)) (h7 rj (kI 7) (c5 2))) (c5 1)) (kI 2147483629))))
def ba:LD->OD:=via 2 3 ip
theorem qV(ns:List Int)(k:Int)(h0:0<=k):∃m,ba [.fro (ns.map .int),.int k]=some (.int m)/\0<=m:=by
 obtain⟨c,hc⟩:=yM ns k h0
 generalize hq:(c+7919*k+1)*48271%2147483647=q
 have q0:0<=q:=by rw[<- hq];exact Int.emod_nonneg _ (by decide)
 have q1:q<2147483647:=by rw[<- hq];exact Int.emod_lt_of_pos _ (by decide)
 have m1:nW 7919 k=true:=oR (by decide) (by decide)
 have m2:nW (c+7919*k+1) 48271=true:=vE (by decide) (by decide)
 have m3:nW q q=true:=oR (by omega) (by omega)
 have m4:nW 7 q=true:=oR (by decide) (by decide)
 refine⟨(q*q+7*q+k)%2147483629,?_,Int.emod_nonneg _ (by decide)⟩
 exact nG ((k4 (nD (k8 (k8 (k8 (k8 (i4 rfl hc) (k8 rfl rfl (wU m1)) rfl) rfl rfl) rfl (wU m2)) rfl (FR (by decide) hq)) rfl)).trans (retS (k8 (k8 (k8 (k8 rfl rfl (wU m3)) (k8 rfl rfl (wU m4)) rfl) rfl rfl) rfl (modS (by decide)))))
def cj:R->Option Out:=
 (nC (wH 1 (rD (kI 9)) (setAt 0) uU (h7 oE (h8 aG (c4 (c5 2) (c4 (c5 0) c6))) (kI 4))) (setAt 2))
def dm:R->Option Out:=
 (nC (h7 i8 (nF (c4 (h7 nJ (h7 i8 (c5 2) (kI 0)) (kI 86400)) (c4 (h7 pN (kI 86399) (h7 nJ (h7 i8 (c5 2) (kI 0)) (kI 90))) (c4 (h7 nJ (h7 i8 (c5 2) (kI 0)) (kI 90)) c6)))) (h7 nJ (h7 i8 (c5 2) (kI 1)) (kI 3))) (setAt 3))
def dr:R->Option Out:=
 (nC (h7 nJ (h7 nM (h7 oE (c5 3) (kI 60)) (h7 nJ (h7 i8 (c5 2) (kI 2)) (kI 4))) (kI 1440)) (setAt 4))
def dW:R->Option Out:=
 (nC (nF (c4 (h7 oE (c5 4) (kI 60)) (c4 (h7 nJ (c5 4) (kI 60)) (c4 (ui (m7 u5 (h7 nJ (h7 i8 (c5 2) (kI 3)) (kI 2)) (kI 0))) c6)))) (setAt 5))
def dR:R->Option Out:=
  (ri (m7 u5 (h7 nJ (h7 oE (h7 i8 (c5 2) (kI 3)) (kI 2)) (kI 3)) (kI 0))
  (nC (nF (c4 (h7 nJ (h7 i8 (c5 2) (kI 2)) (kI 24)) (c4 (h7 nJ (h7 oE (h7 i8 (c5 2) (kI 2)) (kI 24)) (kI 60)) (c4 (ui (m7 u5 (h7 nJ (h7 i8 (c5 2) (kI 3)) (kI 2)) (kI 0))) c6)))) (setAt 5))
  nV)
def dv:R->Option Out:=
 (nC (h8 uC (c4 (wH 1 (rD (h7 nJ (h7 i8 (c5 2) (kI 4)) (kI 5))) (setAt 0) uU (h7 nJ (h7 oE (h8 aG (c4 (h7 i8 (c5 3) (kI 4)) (c4 (c5 0) c6))) (kI 4)) (kI 400))) c6)) (setAt 6))
def dU:R->Option Out:=
 (nC (nF (c4 (h7 nJ (h7 oE (h7 i8 (c5 2) (kI 4)) (kI 8)) (h7 i8 (nF (c4 (kI 9999) (c4 (kI 60) c6))) (h7 nJ (h7 oE (h7 i8 (c5 2) (kI 4)) (kI 65536)) (kI 2)))) (c4 (ui (m7 u5 (h7 nJ (h7 oE (h7 i8 (c5 2) (kI 4)) (kI 131072)) (kI 2)) (kI 0))) (c4 (c5 6) c6)))) (setAt 7))
def dE:R->Option Out:=
 (nC (h7 nJ (h7 i8 (c5 2) (kI 5)) (h7 i8 (nF (c4 (kI 3600) (c4 (kI 20) (c4 (kI 1) c6)))) (h7 nJ (h7 oE (h7 i8 (c5 2) (kI 5)) (kI 4096)) (kI 3)))) (setAt 8))
def dI:R->Option Out:=
 (nC (nF (c4 (h7 nJ (h7 oE (h7 i8 (c5 2) (kI 5)) (kI 16384)) (kI 60)) (c4 (h7 nJ (h7 i8 (c5 2) (kI 6)) (kI 60)) (c4 (c5 8) (c4 (ur (ui (m7 z6 (c5 8) (kI 0))) (ui (m7 z6 (h7 nJ (h7 oE (h7 i8 (c5 2) (kI 6)) (kI 64)) (kI 3)) (kI 0)))) c6))))) (setAt 9))
def dg:R->Option Out:=
 (nC (fun _=>some .non) (setAt 10))
def da:R->Option Out:=
  (ri (m7 u5 (h7 nJ (h7 i8 (c5 2) (kI 7)) (kI 3)) (kI 0))
  (l9 (nC (nF (c4 (h7 i8 (kS "abc") (h7 nJ (h7 oE (h7 i8 (c5 2) (kI 7)) (kI 4)) (kI 3))) (c4 (h7 nJ (h7 oE (h7 i8 (c5 2) (kI 7)) (kI 16)) (h7 i8 (c5 0) (kI 0))) c6))) (setAt 10))
  (ri (m7 u5 (h7 nJ (h7 oE (h7 i8 (c5 2) (kI 7)) (kI 256)) (kI 3)) (kI 0))
  (nC (nF (c4 (h7 i8 (c5 10) (kI 0)) (c4 (fun _=>some .non) c6))) (setAt 10))
  nV))
  nV)
def c_:R->Option Out:=
 (nC (h7 rj (h7 nJ (h7 i8 (c5 2) (kI 8)) (kI 11)) (h7 nJ (h7 oE (h7 i8 (c5 2) (kI 8)) (kI 16)) (kI 2))) (setAt 11))
def db:R->Option Out:=
 (nC (h7 nJ (h7 oE (h7 i8 (c5 2) (kI 8)) (kI 64)) (h8 vc (c4 (kI 1) (c4 (h7 i8 (c5 0) (kI 1)) c6)))) (setAt 12))
def cZ:R->Option Out:=
 (nE (nF (c4 (h7 nJ (h7 oE (h7 i8 (c5 2) (kI 6)) (kI 256)) (h8 wA (c4 (h7 i8 (c5 0) (kI 2)) c6))) (c4 (c5 3) (c4 (c5 5) (c4 (c5 7) (c4 (c5 9) (c4 (c5 11) (c4 (c5 10) (c4 (c5 12) c6))))))))))
def im:R->Option Out:=
 (l9 cj (l9 dm (l9 dr (l9 dW (l9 dR (l9 dv (l9 dU (l9 dE (l9 dI (l9 dg (l9 da (l9 c_ (l9 db cZ)))))))))))))
def bw:LD->OD:=via 2 13 im
def Am(n:Int):D->D
 | .int i=>.int (oh n i / 4)
 | d=>d
theorem Fj:qy 0 9=[.int 0,.int 1,.int 2,.int 3,.int 4,.int 5,.int 6,.int 7,.int 8]:=rfl
theorem BU(a:Int){b:Int}(h:0<b):0<=a%b:=Int.emod_nonneg a (by omega)
theorem BM(a:Int){b:Int}(h:0<b):a%b<b:=Int.emod_lt_of_pos a h
theorem BG{a b c:Int}(P:Int->Prop)(ha:P a)(hb:P b)(hc:P c)(k:Int):∃v,i8 (.tup [.int a,.int b,.int c]) (.int (k%3))=some (.int v)/\P v:=by
 have h:k%3=0\/k%3=1\/k%3=2:=by omega
 rcases h with h | h | h<;>rw[h]
 ·exact⟨a,rfl,ha⟩
 ·exact⟨b,rfl,hb⟩
 ·exact⟨c,rfl,hc⟩
theorem D4{a b:Int}(P:Int->Prop)(ha:P a)(hb:P b)(k:Int):∃v,i8 (.tup [.int a,.int b]) (.int (k%2))=some (.int v)/\P v:=by
 have h:k%2=0\/k%2=1:=by omega
 rcases h with h | h<;>rw[h]
 ·exact⟨a,rfl,ha⟩
 ·exact⟨b,rfl,hb⟩
theorem FJ(k:Int):∃x:qZ,i8 (.str (oS "abc")) (.int (k%3))=some (.str x.x):=by
 have h:k%3=0\/k%3=1\/k%3=2:=by omega
 rcases h with h | h | h<;>rw[h]
 ·exact⟨.a,rfl⟩
 ·exact⟨.b,rfl⟩
 ·exact⟨.c,rfl⟩
theorem Gd{k:Nat}{it:R->Option LD}{st:D->R->Option R}{c:R->Option Bool}{e:R->OD}{ρ:R}{ds out:LD}(h1:it ρ=some ds)(h2:ds.length<=sizeLine)(h3:qv st c e ds (List.replicate k none++ρ)=some out):wH k it st c e ρ=some (.lst out):=by simp[wH,h1,h2,h3]
theorem eb(a:Int){b:Int}(h:0<b):0<=a%b/\a%b<b:=⟨BU a h,BM a h⟩
theorem EU(a:Int):0<=86399 - a%90/\86399 - a%90<86400:=by omega
theorem GH(a:Int):0<=a%90/\a%90<86400:=by omega
theorem Gy(a:Int):0<=a%24/\a%24<24/\0<=a / 24%60/\a / 24%60<60:=by omega
theorem Gr{a:Int}(h0:0<=a)(h1:a<1440):0<=a / 60/\a / 60<24/\0<=a%60/\a%60<60:=by omega
theorem GA(a:Int) : -(2 ^ 62:Int)<=a%5/\a%5<2 ^ 62:=by omega
theorem GD(a:Int):(a%5).toNat<=5:=by omega
theorem Gw(a c:Int):nW (a%11) c=true:=oR (by omega) (by omega)
theorem Gf(a c:Int):0<=a%11*(c%2)/\a%11*(c%2)<=10:=by
 have q5:c%2=0\/c%2=1:=by omega
 rcases q5 with q5 | q5<;>rw[q5]<;>omega
theorem GC{a:Int}{k:Nat}(h0:0<=a)(h1:a<k):a.toNat<k:=by omega
theorem kg{b:Bk}(ok:b.Ok)(n:Int):∃s:WS,bw [b.d,.int n]=some s.d/\s.Ok b/\s.lm<9999:=by
 have hh:0<b.hold:=by have:=ok.hold1;omega
 have hb:=ok.back0
 have hm:=ok.some1
 have b0:i8 b.d (.int 0)=some (.int b.hold):=rfl
 have b1:i8 b.d (.int 1)=some (.int b.back):=rfl
 have b2:i8 b.d (.int 2)=some (.tup (b.modes.map Md.d)):=rfl
 generalize b.d=B at *
 generalize e0:oh n 0 / 4=d0
 generalize e1:oh n 1 / 4=d1
 generalize e2:oh n 2 / 4=d2
 generalize e3:oh n 3 / 4=d3
 generalize e4:oh n 4 / 4=d4
 generalize e5:oh n 5 / 4=d5
 generalize e6:oh n 6 / 4=d6
 generalize e7:oh n 7 / 4=d7
 generalize e8:oh n 8 / 4=d8
 have s1:cj [some B,some (.int n),none,none,none,none,none,none,none,none,none,none,none]=some (.nx [some B,some (.int n),some (.lst [.int d0,.int d1,.int d2,.int d3,.int d4,.int d5,.int d6,.int d7,.int d8]),none,none,none,none,none,none,none,none,none,none]):=by
  refine nD (Gd (ds:=qy 0 9) (by simp) (by rw[fQ];decide) (tO (Am n) fun d hd=>?_)) ?_
  ·obtain⟨i,hi⟩:=List.getElem?_of_mem hd
   obtain⟨rfl,_⟩:=fV hi
   exact⟨_,rfl,by simp[qS,Am]⟩
  ·rw[Fj]
   simp[Am,e0,e1,e2,e3,e4,e5,e6,e7,e8]
 have l0:i8 (.lst [.int d0,.int d1,.int d2,.int d3,.int d4,.int d5,.int d6,.int d7,.int d8]) (.int 0)=some (.int d0):=rfl
 have l1:i8 (.lst [.int d0,.int d1,.int d2,.int d3,.int d4,.int d5,.int d6,.int d7,.int d8]) (.int 1)=some (.int d1):=rfl
 have l2:i8 (.lst [.int d0,.int d1,.int d2,.int d3,.int d4,.int d5,.int d6,.int d7,.int d8]) (.int 2)=some (.int d2):=rfl
 have l3:i8 (.lst [.int d0,.int d1,.int d2,.int d3,.int d4,.int d5,.int d6,.int d7,.int d8]) (.int 3)=some (.int d3):=rfl
 have l4:i8 (.lst [.int d0,.int d1,.int d2,.int d3,.int d4,.int d5,.int d6,.int d7,.int d8]) (.int 4)=some (.int d4):=rfl
 have l5:i8 (.lst [.int d0,.int d1,.int d2,.int d3,.int d4,.int d5,.int d6,.int d7,.int d8]) (.int 5)=some (.int d5):=rfl
 have l6:i8 (.lst [.int d0,.int d1,.int d2,.int d3,.int d4,.int d5,.int d6,.int d7,.int d8]) (.int 6)=some (.int d6):=rfl
 have l7:i8 (.lst [.int d0,.int d1,.int d2,.int d3,.int d4,.int d5,.int d6,.int d7,.int d8]) (.int 7)=some (.int d7):=rfl
 have l8:i8 (.lst [.int d0,.int d1,.int d2,.int d3,.int d4,.int d5,.int d6,.int d7,.int d8]) (.int 8)=some (.int d8):=rfl
 obtain⟨c,c2,c20,c21⟩:=BG (fun c=>0<=c/\c<86400) (eb d0 (by decide)) (EU d0) (GH d0) d1
 have s2:dm [some B,some (.int n),some (.lst [.int d0,.int d1,.int d2,.int d3,.int d4,.int d5,.int d6,.int d7,.int d8]),none,none,none,none,none,none,none,none,none,none]=some (.nx [some B,some (.int n),some (.lst [.int d0,.int d1,.int d2,.int d3,.int d4,.int d5,.int d6,.int d7,.int d8]),some (.int c),none,none,none,none,none,none,none,none,none]):=nD c2 rfl
 have s3:dr [some B,some (.int n),some (.lst [.int d0,.int d1,.int d2,.int d3,.int d4,.int d5,.int d6,.int d7,.int d8]),some (.int c),none,none,none,none,none,none,none,none,none]=some (.nx [some B,some (.int n),some (.lst [.int d0,.int d1,.int d2,.int d3,.int d4,.int d5,.int d6,.int d7,.int d8]),some (.int c),some (.int ((c / 60+d2%4)%1440)),none,none,none,none,none,none,none,none]):=nD rfl rfl
 have hn0:0<=(c / 60+d2%4)%1440:=BU _ (by decide)
 have hn1:(c / 60+d2%4)%1440<1440:=BM _ (by decide)
 generalize (c / 60+d2%4)%1440=nr at *
 have s4:dW [some B,some (.int n),some (.lst [.int d0,.int d1,.int d2,.int d3,.int d4,.int d5,.int d6,.int d7,.int d8]),some (.int c),some (.int nr),none,none,none,none,none,none,none,none]=some (.nx [some B,some (.int n),some (.lst [.int d0,.int d1,.int d2,.int d3,.int d4,.int d5,.int d6,.int d7,.int d8]),some (.int c),some (.int nr),some (.tup [.int (nr / 60),.int (nr%60),.bl (d3%2==0)]),none,none,none,none,none,none,none]):=nD rfl rfl
 have s5:∃(ah am:Int) (ao:Bool),dR [some B,some (.int n),some (.lst [.int d0,.int d1,.int d2,.int d3,.int d4,.int d5,.int d6,.int d7,.int d8]),some (.int c),some (.int nr),some (.tup [.int (nr / 60),.int (nr%60),.bl (d3%2==0)]),none,none,none,none,none,none,none]=some (.nx [some B,some (.int n),some (.lst [.int d0,.int d1,.int d2,.int d3,.int d4,.int d5,.int d6,.int d7,.int d8]),some (.int c),some (.int nr),some (.tup [.int ah,.int am,.bl ao]),none,none,none,none,none,none,none])/\(0<=ah/\ah<24/\0<=am/\am<60):=by
  by_cases hc:d3 / 2%3=0
  ·exact⟨d2%24,d2 / 24%60,d3%2==0,(sy (Ed hc)).trans (nD rfl rfl),Gy d2⟩
  ·exact⟨nr / 60,nr%60,d3%2==0,rc (Et hc),Gr hn0 hn1⟩
 obtain⟨ah,am,ao,s5,ha0,ha1,ham0,ham1⟩:=s5
 have r0:0<=d4%5:=BU _ (by decide)
 have r5:d4%5<5:=BM _ (by decide)
 have s6:∃ks:List Int,dv [some B,some (.int n),some (.lst [.int d0,.int d1,.int d2,.int d3,.int d4,.int d5,.int d6,.int d7,.int d8]),some (.int c),some (.int nr),some (.tup [.int ah,.int am,.bl ao]),none,none,none,none,none,none,none]=some (.nx [some B,some (.int n),some (.lst [.int d0,.int d1,.int d2,.int d3,.int d4,.int d5,.int d6,.int d7,.int d8]),some (.int c),some (.int nr),some (.tup [.int ah,.int am,.bl ao]),some (.tup (ks.map .int)),none,none,none,none,none,none])/\ks.length<=4:=by
  refine⟨(List.range (d4%5).toNat).map fun (k:Nat)=>oh d4 (k:Int) / 4%400,?_,by simp;omega⟩
  refine nD (d:=.tup (((List.range (d4%5).toNat).map fun (k:Nat)=>oh d4 (k:Int) / 4%400).map .int)) ?_ rfl
  have hl:wH 1 (rD (h7 nJ (h7 i8 (c5 2) (kI 4)) (kI 5))) (setAt 0) uU (h7 nJ (h7 oE (h8 aG (c4 (h7 i8 (c5 3) (kI 4)) (c4 (c5 0) c6))) (kI 4)) (kI 400)) [some B,some (.int n),some (.lst [.int d0,.int d1,.int d2,.int d3,.int d4,.int d5,.int d6,.int d7,.int d8]),some (.int c),some (.int nr),some (.tup [.int ah,.int am,.bl ao]),none,none,none,none,none,none,none]=some (.lst (((List.range (d4%5).toNat).map fun (k:Nat)=>oh d4 (k:Int) / 4%400).map .int)):=by
   refine Gd (ds:=qy 0 (d4%5)) ?_ ?_ ?_
   ·have q : -(2 ^ 62:Int)<=d4%5/\d4%5<2 ^ 62:=GA d4
    show(if -(2 ^ 62:Int)<=d4%5/\d4%5<2 ^ 62 then some (qy 0 (d4%5)) else none)=_
    rw[if_pos q]
   ·rw[fQ]
    exact Nat.le_trans (GD d4) (by decide)
   ·rw[tO (fun d=>match d with | .int i=>.int (oh d4 i / 4%400) | d=>d) fun d hd=>?_]
    ·simp[qy]
    ·obtain⟨i,hi⟩:=List.getElem?_of_mem hd
     obtain⟨rfl,_⟩:=fV hi
     refine⟨_,rfl,?_⟩
     show((aG [.int d4,.int (i:Int)]).bind fun x=>oE x (.int 4)).bind _=_
     rw[qS]
     rfl
  simp only[h8,c4,c6,hl]
  rfl
 obtain⟨ks,s6,hks⟩:=s6
 obtain⟨v7,c7,c70,c71⟩:=D4 (fun v=>0<v/\v<=9999) (show(0:Int)<9999/\(9999:Int)<=9999 by decide) (show(0:Int)<60/\(60:Int)<=9999 by decide) (d4 / 65536)
 have s7:dU [some B,some (.int n),some (.lst [.int d0,.int d1,.int d2,.int d3,.int d4,.int d5,.int d6,.int d7,.int d8]),some (.int c),some (.int nr),some (.tup [.int ah,.int am,.bl ao]),some (.tup (ks.map .int)),none,none,none,none,none,none]=some (.nx [some B,some (.int n),some (.lst [.int d0,.int d1,.int d2,.int d3,.int d4,.int d5,.int d6,.int d7,.int d8]),some (.int c),some (.int nr),some (.tup [.int ah,.int am,.bl ao]),some (.tup (ks.map .int)),some (.tup [.int (d4 / 8%v7),.bl (d4 / 131072%2==0),.tup (ks.map .int)]),none,none,none,none,none]):=by
  have hd:=modS (i:=d4 / 8) c70
  refine nD ?_ rfl
  show(((i8 (.tup [.int 9999,.int 60]) (.int (d4 / 65536%2))).bind fun y=>nJ (.int (d4 / 8)) y).bind _).map _=_
  rw[c7]
  show((nJ (.int (d4 / 8)) (.int v7)).bind _).map _=_
  rw[hd]
  rfl
 have hlm:=BU (d4 / 8) c70
 have hlm1:d4 / 8%v7<9999:=by have:=BM (d4 / 8) c70;omega
 generalize d4 / 8%v7=lm at *
 generalize (d4 / 131072%2==0)=lr at *
 obtain⟨v8,c8,c80,c81⟩:=BG (fun v=>0<v/\v<=3600) (show(0:Int)<3600/\(3600:Int)<=3600 by decide) (show(0:Int)<20/\(20:Int)<=3600 by decide) (show(0:Int)<1/\(1:Int)<=3600 by decide) (d5 / 4096)
 have s8:dE [some B,some (.int n),some (.lst [.int d0,.int d1,.int d2,.int d3,.int d4,.int d5,.int d6,.int d7,.int d8]),some (.int c),some (.int nr),some (.tup [.int ah,.int am,.bl ao]),some (.tup (ks.map .int)),some (.tup [.int lm,.bl lr,.tup (ks.map .int)]),none,none,none,none,none]=some (.nx [some B,some (.int n),some (.lst [.int d0,.int d1,.int d2,.int d3,.int d4,.int d5,.int d6,.int d7,.int d8]),some (.int c),some (.int nr),some (.tup [.int ah,.int am,.bl ao]),some (.tup (ks.map .int)),some (.tup [.int lm,.bl lr,.tup (ks.map .int)]),some (.int (d5%v8)),none,none,none,none]):=by
  refine nD ?_ rfl
  show(i8 (.tup [.int 3600,.int 20,.int 1]) (.int (d5 / 4096%3))).bind (fun y=>nJ (.int d5) y)=_
  rw[c8]
  exact modS c80
 have q80:=BU d5 c80
 have q81:=BM d5 c80
 generalize d5%v8=lf at *
 have s9:∃ru:Bool,dI [some B,some (.int n),some (.lst [.int d0,.int d1,.int d2,.int d3,.int d4,.int d5,.int d6,.int d7,.int d8]),some (.int c),some (.int nr),some (.tup [.int ah,.int am,.bl ao]),some (.tup (ks.map .int)),some (.tup [.int lm,.bl lr,.tup (ks.map .int)]),some (.int lf),none,none,none,none]=some (.nx [some B,some (.int n),some (.lst [.int d0,.int d1,.int d2,.int d3,.int d4,.int d5,.int d6,.int d7,.int d8]),some (.int c),some (.int nr),some (.tup [.int ah,.int am,.bl ao]),some (.tup (ks.map .int)),some (.tup [.int lm,.bl lr,.tup (ks.map .int)]),some (.int lf),some (.tup [.int (d5 / 16384%60),.int (d6%60),.int lf,.bl ru]),none,none,none])/\(ru=true->0<lf):=by
  by_cases hc:0<lf
  ·exact⟨decide (0<d6 / 64%3),nD (tupS (m8 rfl (m8 rfl (m8 rfl (m8 (BL (x4 (ox rfl rfl (dT hc))) rfl) rfl))))) rfl,fun _=>hc⟩
  ·exact⟨false,nD (tupS (m8 rfl (m8 rfl (m8 rfl (m8 (xT (x4 (ox rfl rfl (dF hc)))) rfl))))) rfl,fun h=>nomatch h⟩
 obtain⟨ru,s9,hru⟩:=s9
 have hcm:0<=d5 / 16384%60/\d5 / 16384%60<60:=eb _ (by decide)
 have hcs:0<=d6%60/\d6%60<60:=eb _ (by decide)
 generalize d5 / 16384%60=cm at *
 generalize d6%60=cs at *
 have s10:dg [some B,some (.int n),some (.lst [.int d0,.int d1,.int d2,.int d3,.int d4,.int d5,.int d6,.int d7,.int d8]),some (.int c),some (.int nr),some (.tup [.int ah,.int am,.bl ao]),some (.tup (ks.map .int)),some (.tup [.int lm,.bl lr,.tup (ks.map .int)]),some (.int lf),some (.tup [.int cm,.int cs,.int lf,.bl ru]),none,none,none]=some (.nx [some B,some (.int n),some (.lst [.int d0,.int d1,.int d2,.int d3,.int d4,.int d5,.int d6,.int d7,.int d8]),some (.int c),some (.int nr),some (.tup [.int ah,.int am,.bl ao]),some (.tup (ks.map .int)),some (.tup [.int lm,.bl lr,.tup (ks.map .int)]),some (.int lf),some (.tup [.int cm,.int cs,.int lf,.bl ru]),some .non,none,none]):=rfl
 have s11:∃h:Option (qZ×Option Int),da [some B,some (.int n),some (.lst [.int d0,.int d1,.int d2,.int d3,.int d4,.int d5,.int d6,.int d7,.int d8]),some (.int c),some (.int nr),some (.tup [.int ah,.int am,.bl ao]),some (.tup (ks.map .int)),some (.tup [.int lm,.bl lr,.tup (ks.map .int)]),some (.int lf),some (.tup [.int cm,.int cs,.int lf,.bl ru]),some .non,none,none]=some (.nx [some B,some (.int n),some (.lst [.int d0,.int d1,.int d2,.int d3,.int d4,.int d5,.int d6,.int d7,.int d8]),some (.int c),some (.int nr),some (.tup [.int ah,.int am,.bl ao]),some (.tup (ks.map .int)),some (.tup [.int lm,.bl lr,.tup (ks.map .int)]),some (.int lf),some (.tup [.int cm,.int cs,.int lf,.bl ru]),some (q_ h),none,none])/\∀x k,h=some (x,some k)->0<=k/\k<b.hold:=by
  by_cases hc:d7%3=0
  ·obtain⟨x,hx⟩:=FJ (d7 / 4)
   have q1:=BU (d7 / 16) hh
   have q2:=BM (d7 / 16) hh
   by_cases hc2:d7 / 256%3=0
   ·refine⟨some (x,none),?_,fun y k z=>by cases z⟩
    have x0:i8 (.tup [.str x.x,.int (d7 / 16%b.hold)]) (.int 0)=some (.str x.x):=rfl
    exact(sy (Ed hc)).trans ((k4 (nD (tupS (m8 (k8 rfl rfl hx) (m8 (k8 rfl (k8 rfl rfl b0) (modS hh)) rfl))) rfl)).trans ((sy (Ed hc2)).trans (nD (tupS (m8 (k8 rfl rfl x0) rfl)) rfl)))
   ·refine⟨some (x,some (d7 / 16%b.hold)),?_,fun y k z=>by cases z;exact⟨q1,q2⟩⟩
    exact(sy (Ed hc)).trans ((k4 (nD (tupS (m8 (k8 rfl rfl hx) (m8 (k8 rfl (k8 rfl rfl b0) (modS hh)) rfl))) rfl)).trans (rc (Et hc2)))
  ·exact⟨none,rc (Et hc),fun y k z=>by cases z⟩
 obtain⟨he,s11,hhe⟩:=s11
 have s12:∃rg:Int,c_ [some B,some (.int n),some (.lst [.int d0,.int d1,.int d2,.int d3,.int d4,.int d5,.int d6,.int d7,.int d8]),some (.int c),some (.int nr),some (.tup [.int ah,.int am,.bl ao]),some (.tup (ks.map .int)),some (.tup [.int lm,.bl lr,.tup (ks.map .int)]),some (.int lf),some (.tup [.int cm,.int cs,.int lf,.bl ru]),some (q_ he),none,none]=some (.nx [some B,some (.int n),some (.lst [.int d0,.int d1,.int d2,.int d3,.int d4,.int d5,.int d6,.int d7,.int d8]),some (.int c),some (.int nr),some (.tup [.int ah,.int am,.bl ao]),some (.tup (ks.map .int)),some (.tup [.int lm,.bl lr,.tup (ks.map .int)]),some (.int lf),some (.tup [.int cm,.int cs,.int lf,.bl ru]),some (q_ he),some (.int rg),none])/\0<=rg/\rg<=10:=by
  have mf:nW (d8%11) (d8 / 16%2)=true:=Gw d8 _
  refine⟨d8%11*(d8 / 16%2),nD (by show(if nW (d8%11) (d8 / 16%2) then some (D.int (d8%11*(d8 / 16%2))) else none)=_;rw[if_pos mf]) rfl,Gf d8 (d8 / 16)⟩
 obtain⟨rg,s12,rg0,rg1⟩:=s12
 have s13:∃id:Int,db [some B,some (.int n),some (.lst [.int d0,.int d1,.int d2,.int d3,.int d4,.int d5,.int d6,.int d7,.int d8]),some (.int c),some (.int nr),some (.tup [.int ah,.int am,.bl ao]),some (.tup (ks.map .int)),some (.tup [.int lm,.bl lr,.tup (ks.map .int)]),some (.int lf),some (.tup [.int cm,.int cs,.int lf,.bl ru]),some (q_ he),some (.int rg),none]=some (.nx [some B,some (.int n),some (.lst [.int d0,.int d1,.int d2,.int d3,.int d4,.int d5,.int d6,.int d7,.int d8]),some (.int c),some (.int nr),some (.tup [.int ah,.int am,.bl ao]),some (.tup (ks.map .int)),some (.tup [.int lm,.bl lr,.tup (ks.map .int)]),some (.int lf),some (.tup [.int cm,.int cs,.int lf,.bl ru]),some (q_ he),some (.int rg),some (.int id)])/\0<=id/\(0<b.back->id<b.back)/\(b.back=0->id=0):=by
  by_cases hc:1<b.back
  ·have hc0:0<b.back:=by omega
   exact⟨d8 / 64%b.back,nD (k8 rfl (i4 (m8 rfl (m8 (k8 rfl rfl b1) rfl)) (show vc [.int 1,.int b.back]=some (.int b.back) by simp[hc])) (modS hc0)) rfl,BU _ hc0,fun _=>BM _ hc0,fun z=>by omega⟩
  ·exact⟨0,nD (k8 rfl (i4 (m8 rfl (m8 (k8 rfl rfl b1) rfl)) (show vc [.int 1,.int b.back]=some (.int 1) by simp[hc])) ((modS (by decide)).trans (by rw[Int.emod_one]))) rfl,Int.le_refl 0,fun z=>z,fun _=>rfl⟩
 obtain⟨id,s13,id0,id1,id2⟩:=s13
 have hml:(0:Int)<(b.modes.length:Int):=by omega
 have q1:=BU (d6 / 256) hml
 have q2:=BM (d6 / 256) hml
 refine⟨⟨(d6 / 256%b.modes.length).toNat,c,ah,am,ao,lm,lr,ks,cm,cs,lf,ru,rg,he,id⟩,?_,?_,hlm1⟩
 ·show(if (2:Nat)=2 then uP (l9 cj _ [some B,some (.int n),none,none,none,none,none,none,none,none,none,none,none]) else none)=_
  rw[if_pos rfl,k4 s1,k4 s2,k4 s3,k4 s4,k4 s5,k4 s6,k4 s7,k4 s8,k4 s9,k4 s10,k4 s11,k4 s12,k4 s13]
  have hmn:0<b.modes.length:=hm
  have hlen:wA [.tup (b.modes.map Md.d)]=some (.int (b.modes.length:Int)):=by simp
  rw[show cZ [some B,some (.int n),some (.lst [.int d0,.int d1,.int d2,.int d3,.int d4,.int d5,.int d6,.int d7,.int d8]),some (.int c),some (.int nr),some (.tup [.int ah,.int am,.bl ao]),some (.tup (ks.map .int)),some (.tup [.int lm,.bl lr,.tup (ks.map .int)]),some (.int lf),some (.tup [.int cm,.int cs,.int lf,.bl ru]),some (q_ he),some (.int rg),some (.int id)]=_ from retS (tupS (m8 (k8 rfl (i4 (m8 (k8 rfl rfl b2) rfl) hlen) (modS hml)) rfl))]
  simp[WS.d,WS.alarmD,WS.lapsD,WS.countD,Int.toNat_of_nonneg q1]
 ·exact {bk:=hb,mode:=GC q1 q2,clock0:=c20,clock1:=c21,ah0:=ha0,ah1:=ha1,am0:=ham0,am1:=ham1,lm0:=hlm,lk:=hks,cm0:=hcm.1,cm1:=hcm.2,cs0:=hcs.1,cs1:=hcs.2,cl0:=q80,cl1:=Int.lt_of_lt_of_le q81 c81,cr:=hru,ring0:=rg0,ring1:=rg1,idle0:=id0,idle1:=id1,idle2:=id2,held:=hhe}
theorem lQ{b:Bk}(ok:b.Ok)(n:Int):∃s:WS,bw [b.d,.int n]=some s.d/\s.Ok b:=let ⟨s,h1,h2,_⟩:=kg ok n;⟨s,h1,h2⟩
def ik:R->Option Out:=
 (nE (ur (ui (m7 pB (h7 i8 (c5 0) (fun _=>some aT)) (fun _=>some .non))) (ui (m7 u5 (h7 i8 (h7 i8 (c5 0) (fun _=>some aT)) (kI 0)) (c5 1)))))
def bj:LD->OD:=via 2 2 ik
theorem B0(x y:qZ):u5 (.str x.x) (.str y.x)=some (decide (x=y)):=by cases x<;>cases y<;>rfl
theorem eO(s:WS)(x:qZ):bj [s.d,.str x.x]=some (.bl (match s.held with | some (y,_)=>decide (y=x) | none=>false)):=by
 have e6:=w6 s
 rcases hs:s.held with _ | ⟨y,k⟩<;>rw[hs] at e6
 ·exact nG (retS (xT (x4 (ox (k8 rfl rfl e6) rfl rfl))))
 ·exact nG (retS (BL (x4 (ox (k8 rfl rfl e6) rfl rfl)) (x4 (ox (k8 (k8 rfl rfl e6) rfl (h0 y k)) rfl (B0 y x)))))
def jp:R->Option Out:=
 (nE (ur (h8 bj (c4 (c5 0) (c4 (c5 1) c6))) (ui (m7 pB (h7 i8 (h7 i8 (c5 0) (fun _=>some aT)) (kI 1)) (fun _=>some .non)))))
def ci:LD->OD:=via 2 2 jp
theorem jD(s:WS)(x:qZ):ci [s.d,.str x.x]=some (.bl (match s.held with | some (y,k)=>decide (y=x)&&k.isSome | none=>false)):=by
 have e:=eO s x
 have e6:=w6 s
 rcases hs:s.held with _ | ⟨y,k⟩<;>rw[hs] at e e6
 ·exact nG (retS (xT (i4 rfl e)))
 ·by_cases hy:y=x
  ·simp only[hy,decide_true,Bool.true_and] at e ⊢
   exact nG (retS (BL (i4 rfl e) (x4 (ox (k8 (k8 rfl rfl e6) rfl (h1 y k)) rfl (AG k)))))
  ·simp only[hy,decide_false,Bool.false_and] at e ⊢
   exact nG (retS (xT (i4 rfl e)))
def nu:R->Option Out:=
 (nE (h7 nM (h7 nM (BQ (c5 0) D0 (aP (c5 1))) (nF (c4 (c5 2) c6))) (BQ (c5 0) (aP (h7 nM (c5 1) (kI 1))) D0)))
def aC:LD->OD:=via 3 3 nu
section
variable(a b c d e f g i x:D)
theorem qr{xs ys:LD}(h:xs.length+ys.length<=8):nM (.tup xs) (.tup ys)=some (.tup (xs++ys)):=by
 show(if xs.length+ys.length<=sizeLine then _ else none)=_
 rw[if_pos (Nat.le_trans h Gx)]
theorem FG:aC [.tup [a,b,c,d,e,f,g,i],.int 0,x]=some (.tup [x,b,c,d,e,f,g,i]):=nG (retS (k8 (k8 (v6 rfl rfl rfl rfl) (tupS (m8 rfl rfl)) (qr (show 1<=8 by decide))) (v6 rfl rfl rfl rfl) (qr (show 8<=8 by decide))))
theorem FE:aC [.tup [a,b,c,d,e,f,g,i],.int 1,x]=some (.tup [a,x,c,d,e,f,g,i]):=nG (retS (k8 (k8 (v6 rfl rfl rfl rfl) (tupS (m8 rfl rfl)) (qr (show 2<=8 by decide))) (v6 rfl rfl rfl rfl) (qr (show 8<=8 by decide))))
theorem put2:aC [.tup [a,b,c,d,e,f,g,i],.int 2,x]=some (.tup [a,b,x,d,e,f,g,i]):=nG (retS (k8 (k8 (v6 rfl rfl rfl rfl) (tupS (m8 rfl rfl)) (qr (show 3<=8 by decide))) (v6 rfl rfl rfl rfl) (qr (show 8<=8 by decide))))
theorem put3:aC [.tup [a,b,c,d,e,f,g,i],.int 3,x]=some (.tup [a,b,c,x,e,f,g,i]):=nG (retS (k8 (k8 (v6 rfl rfl rfl rfl) (tupS (m8 rfl rfl)) (qr (show 4<=8 by decide))) (v6 rfl rfl rfl rfl) (qr (show 8<=8 by decide))))
theorem Fv:aC [.tup [a,b,c,d,e,f,g,i],.int 4,x]=some (.tup [a,b,c,d,x,f,g,i]):=nG (retS (k8 (k8 (v6 rfl rfl rfl rfl) (tupS (m8 rfl rfl)) (qr (show 5<=8 by decide))) (v6 rfl rfl rfl rfl) (qr (show 8<=8 by decide))))
theorem E9:aC [.tup [a,b,c,d,e,f,g,i],.int 5,x]=some (.tup [a,b,c,d,e,x,g,i]):=nG (retS (k8 (k8 (v6 rfl rfl rfl rfl) (tupS (m8 rfl rfl)) (qr (show 6<=8 by decide))) (v6 rfl rfl rfl rfl) (qr (show 8<=8 by decide))))
theorem CA:aC [.tup [a,b,c,d,e,f,g,i],.int 6,x]=some (.tup [a,b,c,d,e,f,x,i]):=nG (retS (k8 (k8 (v6 rfl rfl rfl rfl) (tupS (m8 rfl rfl)) (qr (show 7<=8 by decide))) (v6 rfl rfl rfl rfl) (qr (show 8<=8 by decide))))
theorem Fo:aC [.tup [a,b,c,d,e,f,g,i],.int 7,x]=some (.tup [a,b,c,d,e,f,g,x]):=nG (retS (k8 (k8 (v6 rfl rfl rfl rfl) (tupS (m8 rfl rfl)) (qr (show 8<=8 by decide))) (v6 rfl rfl rfl rfl) (qr (show 8<=8 by decide))))
end
theorem FM(s:WS)(m:Nat):aC [s.d,.int 0,.int (m:Int)]=some {s with mode:=m}.d:=FG ..
theorem E8(s:WS)(c:Int):aC [s.d,.int 1,.int c]=some {s with clock:=c}.d:=FE ..
theorem Fg(s:WS)(h m:Int)(o:Bool):aC [s.d,.int 2,.tup [.int h,.int m,.bl o]]=some {s with ah:=h,am:=m,aon:=o}.d:=put2 ..
theorem EV(s:WS)(m:Int)(r:Bool)(k:List Int):aC [s.d,.int 3,.tup [.int m,.bl r,.tup (k.map .int)]]=some {s with lm:=m,lr:=r,lk:=k}.d:=put3 ..
theorem Gc(s:WS)(m c l:Int)(r:Bool):aC [s.d,.int 4,.tup [.int m,.int c,.int l,.bl r]]=some {s with cm:=m,cs:=c,cl:=l,cr:=r}.d:=Fv ..
theorem FT(s:WS)(r:Int):aC [s.d,.int 5,.int r]=some {s with ring:=r}.d:=E9 ..
theorem Ee(s:WS):aC [s.d,.int 6,.non]=some {s with held:=none}.d:=CA ..
theorem DX(s:WS)(x:qZ)(k:Option Int):aC [s.d,.int 6,.tup [.str x.x,nU k]]=some {s with held:=some (x,k)}.d:=CA ..
theorem Fb(s:WS)(x:qZ):aC [s.d,.int 6,.tup [.str x.x,.non]]=some {s with held:=some (x,none)}.d:=CA ..
theorem EC(s:WS)(i:Int):aC [s.d,.int 7,.int i]=some {s with idle:=i}.d:=Fo ..
def de:R->Option Out:=
  (l9 (nC (h7 i8 (c5 0) (fun _=>some a_)) (setAt 1))
  (nE (h8 aC (c4 (c5 0) (c4 (fun _=>some a_) (c4 (nF (c4 (h7 nJ (h7 nM (h7 i8 (c5 1) (kI 0)) (kI 1)) (kI 24)) (c4 (h7 i8 (c5 1) (kI 1)) (c4 (h7 i8 (c5 1) (kI 2)) c6)))) c6))))))
def aY:LD->OD:=via 1 2 de
theorem fG(s:WS):aY [s.d]=some (deed .ahour s).d:=by simp[-i8,aY,via,de,a_,w2,Eu,ED,D9,Fg,deed]
def cy:R->Option Out:=
  (l9 (nC (h7 i8 (c5 0) (fun _=>some a_)) (setAt 1))
  (nE (h8 aC (c4 (c5 0) (c4 (fun _=>some a_) (c4 (nF (c4 (h7 i8 (c5 1) (kI 0)) (c4 (h7 nJ (h7 nM (h7 i8 (c5 1) (kI 1)) (kI 1)) (kI 60)) (c4 (h7 i8 (c5 1) (kI 2)) c6)))) c6))))))
def aO:LD->OD:=via 1 2 cy
theorem eQ(s:WS):aO [s.d]=some (deed .aminute s).d:=by simp[-i8,aO,via,cy,a_,w2,Eu,ED,D9,Fg,deed]
def dQ:R->Option Out:=
  (l9 (nC (h7 i8 (c5 0) (fun _=>some a_)) (setAt 1))
  (nE (h8 aC (c4 (c5 0) (c4 (fun _=>some a_) (c4 (nF (c4 (h7 i8 (c5 1) (kI 0)) (c4 (h7 i8 (c5 1) (kI 1)) (c4 (xt (h7 i8 (c5 1) (kI 2))) c6)))) c6))))))
def bf:LD->OD:=via 1 2 dQ
theorem gq(s:WS):bf [s.d]=some (deed .alarm s).d:=by simp[-i8,bf,via,dQ,a_,w2,Eu,ED,D9,Fg,deed]
def iD:R->Option Out:=
  (l9 (ri (rE (h7 i8 (h7 i8 (c5 0) (fun _=>some aL)) (kI 3)))
  (nE (c5 0))
  nV)
  (nE (h8 aC (c4 (c5 0) (c4 (fun _=>some aL) (c4 (nF (c4 (c5 1) (c4 (c5 2) (c4 (h7 nM (h7 rj (kI 60) (c5 1)) (c5 2)) (c4 (fun _=>some (.bl false)) c6))))) c6))))))
def bz:LD->OD:=via 3 3 iD
theorem gp(s:WS)(m c:Int):bz [s.d,.int m,.int c]=some (sY s m c).d:=by
 cases hr:s.cr<;>simp[-i8,-rj,bz,via,iD,aL,w4,EE,hr,sY,BY,Gc]
def cB:R->Option Out:=
  (l9 (nC (h7 i8 (c5 0) (fun _=>some aL)) (setAt 1))
  (nE (h8 bz (c4 (c5 0) (c4 (h7 nJ (h7 nM (h7 i8 (c5 1) (kI 0)) (kI 1)) (kI 60)) (c4 (h7 i8 (c5 1) (kI 1)) c6))))))
def aM:LD->OD:=via 1 2 cB
theorem eT(s:WS):aM [s.d]=some (deed .cminute s).d:=by simp[-i8,aM,via,cB,aL,w4,DG,Dx,gp,deed]
def cC:R->Option Out:=
  (l9 (nC (h7 i8 (c5 0) (fun _=>some aL)) (setAt 1))
  (nE (h8 bz (c4 (c5 0) (c4 (h7 i8 (c5 1) (kI 0)) (c4 (h7 nJ (h7 nM (h7 i8 (c5 1) (kI 1)) (kI 1)) (kI 60)) c6))))))
def aN:LD->OD:=via 1 2 cC
theorem eM(s:WS):aN [s.d]=some (deed .csecond s).d:=by simp[-i8,aN,via,cC,aL,w4,DG,Dx,gp,deed]
def gc:R->Option Out:=
  (l9 (nC (h7 i8 (c5 0) (fun _=>some aL)) (setAt 1))
  (l9 (nC (ur (xt (h7 i8 (c5 1) (kI 3))) (ui (m7 z6 (h7 i8 (c5 1) (kI 2)) (kI 0)))) (setAt 2))
  (nE (h8 aC (c4 (c5 0) (c4 (fun _=>some aL) (c4 (nF (c4 (h7 i8 (c5 1) (kI 0)) (c4 (h7 i8 (c5 1) (kI 1)) (c4 (h7 i8 (c5 1) (kI 2)) (c4 (c5 2) c6))))) c6)))))))
def bp:LD->OD:=via 1 3 gc
theorem gu(s:WS):bp [s.d]=some (deed .count s).d:=by
 have q:∀r:Bool,ur (xt (h7 i8 (c5 1) (kI 3))) (ui (m7 z6 (h7 i8 (c5 1) (kI 2)) (kI 0))) [some s.d,some (.tup [.int s.cm,.int s.cs,.int s.cl,.bl r]),none]=some (.bl (!r&&decide (0<s.cl))):=by
  intro r
  cases r
  ·exact BL rfl (x4 (ox (k8 rfl rfl rfl) rfl rfl))
  ·exact xT rfl
 exact nG ((k4 (nD (k8 rfl rfl (w4 s)) rfl)).trans ((k4 (nD (q s.cr) rfl)).trans (retS (i4 (m8 rfl (m8 rfl (m8 (tupS (m8 (k8 rfl rfl (DG s)) (m8 (k8 rfl rfl (Dx s)) (m8 (k8 rfl rfl (EO s)) rfl)))) rfl))) (Gc s s.cm s.cs s.cl _)))))
def iw:R->Option Out:=
  (l9 (nC (h7 i8 (c5 0) (fun _=>some aL)) (setAt 1))
  (nE (h8 bz (c4 (c5 0) (c4 (h7 i8 (c5 1) (kI 0)) (c4 (h7 i8 (c5 1) (kI 1)) c6))))))
def cJ:LD->OD:=via 1 2 iw
theorem lL(s:WS):cJ [s.d]=some (deed .full s).d:=by simp[-i8,cJ,via,iw,aL,w4,DG,Dx,gp,deed]
def gT:R->Option Out:=
 (nE (h8 aC (c4 (c5 0) (c4 (fun _=>some aW) (c4 (h7 nJ (h7 nM (h7 i8 (c5 0) (fun _=>some aW)) (kI 3600)) (kI 86400)) c6)))))
def bV:LD->OD:=via 1 1 gT
theorem kO(s:WS):bV [s.d]=some (deed .hour s).d:=by simp[-i8,bV,via,gT,aW,w1,E8,deed]
def jk:R->Option Out:=
  (l9 (nC (h7 i8 (c5 0) (fun _=>some bK)) (setAt 1))
  (l9 (ri (uv (rE (h7 i8 (c5 1) (kI 1))))
  (nE (h8 aC (c4 (c5 0) (c4 (fun _=>some bK) (c4 (nF (c4 (kI 0) (c4 (fun _=>some (.bl false)) (c4 (nF c6) c6)))) c6)))))
  nV)
  (l9 (ri (m7 F_ (h8 wA (c4 (h7 i8 (c5 1) (kI 2)) c6)) (fun _=>some dG))
  (nE (c5 0))
  nV)
  (nE (h8 aC (c4 (c5 0) (c4 (fun _=>some bK) (c4 (nF (c4 (h7 i8 (c5 1) (kI 0)) (c4 (fun _=>some (.bl true)) (c4 (h7 nM (h7 i8 (c5 1) (kI 2)) (nF (c4 (h7 i8 (c5 1) (kI 0)) c6))) c6)))) c6))))))))
def cc:LD->OD:=via 1 2 jk
theorem ju(s:WS)(h:s.lk.length<=4):cc [s.d]=some (deed .lap s).d:=by
 have t:rE (h7 i8 (c5 1) (kI 1)) [some s.d,some s.lapsD]=some s.lr:=vM (k8 rfl rfl (FD s))
 have hl:wA [.tup (s.lk.map .int)]=some (.int s.lk.length):=by show some (D.int ((s.lk.map D.int).length:Int))=_;rw[List.length_map]
 have hlen:h8 wA (c4 (h7 i8 (c5 1) (kI 2)) c6) [some s.d,some s.lapsD]=some (.int s.lk.length):=i4 (m8 (k8 rfl rfl (EB s)) rfl) hl
 have a1:nC (h7 i8 (c5 0) (fun _=>some bK)) (setAt 1) [some s.d,none]=some (.nx [some s.d,some s.lapsD]):=nD (k8 rfl rfl (w3 s)) rfl
 cases hr:s.lr with
 | false =>
  have e:deed .lap s={s with lm:=0,lr:=false,lk:=[]}:=by
   show(if s.lr then _ else {s with lm:=0,lk:=[]})=_
   rw[if_neg (by rw[hr];decide),<- hr]
  rw[hr] at t
  rw[e]
  exact nG ((k4 a1).trans (p0 ((sy (zl (b:=false) t)).trans (retS (i4 (m8 rfl (m8 rfl (m8 (tupS (m8 rfl (m8 rfl (m8 (tupS rfl) rfl)))) rfl))) (EV s 0 false []))))))
 | true =>
  rw[hr] at t
  have n1:ri (uv (rE (h7 i8 (c5 1) (kI 1)))) (nE (h8 aC (c4 (c5 0) (c4 (fun _=>some bK) (c4 (nF (c4 (kI 0) (c4 (fun _=>some (.bl false)) (c4 (nF c6) c6)))) c6))))) nV [some s.d,some s.lapsD]=some (.nx [some s.d,some s.lapsD]):=(rc (zl (b:=true) t)).trans rfl
  by_cases h4:4<=s.lk.length
  ·have e:deed .lap s=s:=by
    show(if s.lr then (if 4<=s.lk.length then s else _) else _)=_
    rw[if_pos hr,if_pos h4]
   rw[e]
   exact nG ((k4 a1).trans ((k4 n1).trans (p0 ((sy (ox hlen rfl (dT (Int.ofNat_le.mpr h4)))).trans (retS rfl)))))
  ·have e:deed .lap s={s with lm:=s.lm,lr:=true,lk:=s.lk++[s.lm]}:=by
    show(if s.lr then (if 4<=s.lk.length then s else {s with lk:=s.lk++[s.lm]}) else _)=_
    rw[if_pos hr,if_neg h4,<- hr]
   have ha:nM (.tup (s.lk.map .int)) (.tup [.int s.lm])=some (.tup ((s.lk++[s.lm]).map .int)):=by
    rw[List.map_append]
    exact qr (by rw[List.length_map];show s.lk.length+1<=8;omega)
   rw[e]
   exact nG ((k4 a1).trans ((k4 n1).trans ((k4 ((rc (ox hlen rfl (dF fun q=>h4 (Int.ofNat_le.mp q)))).trans rfl)).trans (retS (i4 (m8 rfl (m8 rfl (m8 (tupS (m8 (k8 rfl rfl (EJ s)) (m8 rfl (m8 (k8 (k8 rfl rfl (EB s)) (tupS (m8 (k8 rfl rfl (EJ s)) rfl)) ha) rfl)))) rfl))) (EV s s.lm true (s.lk++[s.lm])))))))
def ej:R->Option Out:=
  (l9 (nC (h7 i8 (c5 0) (fun _=>some bK)) (setAt 1))
  (nE (h8 aC (c4 (c5 0) (c4 (fun _=>some bK) (c4 (nF (c4 (h7 i8 (c5 1) (kI 0)) (c4 (xt (h7 i8 (c5 1) (kI 1))) (c4 (h7 i8 (c5 1) (kI 2)) c6)))) c6))))))
def bo:LD->OD:=via 1 2 ej
theorem gI(s:WS):bo [s.d]=some (deed .run s).d:=by simp[-i8,bo,via,ej,bK,w3,EJ,FD,EB,EV,deed]
def fD:R->Option Out:=
  (l9 (nC (h7 i8 (c5 0) (fun _=>some aW)) (setAt 1))
  (l9 (nC (h7 nJ (h7 nM (h7 nJ (c5 1) (kI 3600)) (kI 60)) (kI 3600)) (setAt 2))
  (nE (h8 aC (c4 (c5 0) (c4 (fun _=>some aW) (c4 (h7 nM (h7 pN (c5 1) (h7 nJ (c5 1) (kI 3600))) (c5 2)) c6)))))))
def bC:LD->OD:=via 1 3 fD
theorem iT(s:WS):bC [s.d]=some (deed .minute s).d:=by simp[-i8,bC,via,fD,aW,w1,E8,deed]
def gO:R->Option Out:=
 (nE (c5 0))
def bU:LD->OD:=via 1 1 gO
theorem kt(s:WS):bU [s.d]=some (deed .none s).d:=by simp[bU,via,gO,deed]
def gP:R->Option Out:=
 (nE (h8 aC (c4 (c5 0) (c4 (fun _=>some aW) (c4 (h7 pN (h7 i8 (c5 0) (fun _=>some aW)) (h7 nJ (h7 i8 (c5 0) (fun _=>some aW)) (kI 60))) c6)))))
def bW:LD->OD:=via 1 1 gP
theorem kB(s:WS):bW [s.d]=some (deed .zero s).d:=by simp[-i8,bW,via,gP,aW,w1,E8,deed]
def rY:List (Str×(LD->OD)):=[(oS "none",bU),(oS "hour",bV),(oS "minute",bC),(oS "zero",bW),(oS "ahour",aY),(oS "aminute",aO),(oS "alarm",bf),(oS "run",bo),(oS "lap",cc),(oS "cminute",aM),(oS "csecond",aN),(oS "full",cJ),(oS "count",bp)]
def gY:R->Option Out:=
  (l9 (nC (h7 i8 (h7 i8 (h7 i8 (c5 0) (kI 2)) (h7 i8 (c5 1) (fun _=>some bL))) (kI 2)) (setAt 3))
  (l9 (nC (h7 i8 (c5 3) (BK (zv bY) (c5 2))) (setAt 4))
  (Eo 5 rY (h7 i8 (c5 4) (kI 0)) (fun G_=>(nE (h8 aC (c4 (h8 G_ (c4 (c5 1) c6)) (c4 (fun _=>some bL) (c4 (h7 i8 (c5 4) (kI 1)) c6)))))))))
def bi:LD->OD:=via 3 6 gY
theorem mj(d:sg)(s:WS)(h:s.lk.length<=4):∃F,rY.lookup d.x=some F/\F [s.d]=some (deed d s).d:=by
 cases d
 ·exact⟨_,rfl,kt s⟩
 ·exact⟨_,rfl,kO s⟩
 ·exact⟨_,rfl,iT s⟩
 ·exact⟨_,rfl,kB s⟩
 ·exact⟨_,rfl,fG s⟩
 ·exact⟨_,rfl,eQ s⟩
 ·exact⟨_,rfl,gq s⟩
 ·exact⟨_,rfl,gI s⟩
 ·exact⟨_,rfl,ju s h⟩
 ·exact⟨_,rfl,eT s⟩
 ·exact⟨_,rfl,eM s⟩
 ·exact⟨_,rfl,lL s⟩
 ·exact⟨_,rfl,gu s⟩
theorem Eg(x:qZ):zv bY (.str x.x)=some (.int (x.ix:Int)):=by cases x<;>rfl
theorem Dq(x:qZ):zv bY (.str x.X)=some (.int ((x.ix+3:Nat):Int)):=by cases x<;>rfl
theorem Ge{i:Nat}{tab:List (Str×(LD->OD))}{f:R->OD}{g:(LD->OD)->R->Option Out}{ρ:R}{z:Str}{F:LD->OD}{o:Option Out}(h1:f ρ=some (.str z))(h2:tab.lookup z=some F)(hi:i<ρ.length)(h3:g F (ρ.set i none)=o):Eo i tab f g ρ=o:=by
 unfold Eo
 rw[h1]
 show(tab.lookup z).bind _=_
 rw[h2]
 show(if i<ρ.length then g F (ρ.set i none) else none)=_
 rw[if_pos hi,h3]
theorem eS{b:Bk}{s:WS}(ok:b.Ok)(w:s.Wk b){p:Str}{i:Nat}(hi:i<6)(hp:zv bY (.str p)=some (.int (i:Int))):bi [b.d,s.d,.str p]=some (press b s i).d:=by
 have hm:=j9 b w.mode
 have h6:=(ok.all _ (lN b w.mode)).six
 have hr:=m_ (b.modes.getD s.mode default) (i:=i) (by rw[h6];exact hi)
 obtain⟨F,hF,hs⟩:=mj (b.row s.mode i).1 s w.lk
 unfold Bk.row at hF hs
 unfold press Bk.row
 generalize (b.modes.getD s.mode default)=md at *
 generalize (md.rows.getD i (sg.none,0))=rw_ at *
 exact nG ((k4 (nD (k8 (k8 (k8 rfl rfl (b2 b)) (k8 rfl rfl (w0 s)) hm) rfl (m2 md)) rfl)).trans ((k4 (nD (k8 rfl (FY rfl hp) hr) rfl)).trans
  (Ge (k8 rfl rfl (r0 rw_)) hF (by simp) (retS (i4 (m8 (i4 rfl hs) (m8 rfl (m8 (k8 rfl rfl (r1 rw_)) rfl))) (FM _ _))))))
def lv:R->Option Out:=
  (l9 (ri (uv (rE (h8 bj (c4 (c5 1) (c4 (c5 2) c6)))))
  (nE (c5 1))
  nV)
  (l9 (ri (rE (h8 ci (c4 (c5 1) (c4 (c5 2) c6))))
  (nC (h8 bi (c4 (c5 0) (c4 (c5 1) (c4 (c5 2) c6)))) (setAt 1))
  nV)
  (nE (h8 aC (c4 (h8 aC (c4 (c5 1) (c4 (fun _=>some aT) (c4 (fun _=>some .non) c6)))) (c4 (fun _=>some ca) (c4 (kI 0) c6)))))))
def dJ:LD->OD:=via 3 3 lv
theorem lu{b:Bk}{s:WS}(ok:b.Ok)(w:s.Wk b)(x:qZ):dJ [b.d,s.d,.str x.x]=some (letGo b s x).d:=by
 have e1:=eO s x
 have e2:=jD s x
 have e3:=eS ok w x.ix6 (Eg x)
 unfold letGo
 rcases hs:s.held with _ | ⟨y,k⟩<;>rw[hs] at e1 e2
 ·exact nG (p0 ((sy (zl (vM (i4 rfl e1)))).trans (retS rfl)))
 ·by_cases hy:y=x
  ·subst hy
   simp only[decide_true,Bool.true_and] at e1 e2
   dsimp only
   rw[if_pos rfl]
   cases k with
   | none=>exact nG ((k4 (rc (zl (vM (i4 rfl e1))))).trans ((k4 (rc (vM (i4 rfl e2)))).trans (retS (i4 (m8 (i4 rfl (Ee s)) rfl) (EC _ 0)))))
   | some j=>exact nG ((k4 (rc (zl (vM (i4 rfl e1))))).trans ((k4 ((sy (vM (i4 rfl e2))).trans (nD (i4 rfl e3) rfl))).trans (retS (i4 (m8 (i4 rfl (Ee _)) rfl) (EC _ 0)))))
  ·dsimp only at e1 ⊢
   rw[decide_eq_false hy] at e1
   rw[if_neg hy]
   exact nG (p0 ((sy (zl (vM (i4 rfl e1)))).trans (retS rfl)))
def lB:R->Option Out:=
  (l9 (ri (m7 pB (h7 i8 (c5 0) (fun _=>some aT)) (fun _=>some .non))
  (nE (c5 0))
  nV)
  (l9 (nC (zD (m7 z6 (h7 i8 (c5 0) (fun _=>some eZ)) (kI 0)) (fun _=>some .non) (kI 0)) (setAt 2))
  (nE (h8 aC (c4 (h8 aC (c4 (h8 aC (c4 (c5 0) (c4 (fun _=>some eZ) (c4 (kI 0) c6)))) (c4 (fun _=>some aT) (c4 (nF (c4 (c5 1) (c4 (c5 2) c6))) c6)))) (c4 (fun _=>some ca) (c4 (kI 0) c6)))))))
def dC:LD->OD:=via 2 3 lB
theorem lD(s:WS)(x:qZ):dC [s.d,.str x.x]=some (pushed s x).d:=by
 have e6:=w6 s
 have e5:=w5 s
 unfold pushed
 cases hh:s.held with
 | some v =>
  rw[hh] at e6
  exact nG (p0 ((sy (ox (k8 rfl rfl e6) rfl rfl)).trans (retS rfl)))
 | none =>
  rw[hh] at e6
  by_cases hr:0<s.ring
  ·have z:=DX {s with ring:=0} x none
   simp only[Option.isSome_none,Bool.false_eq_true,if_false,if_pos hr]
   exact nG ((k4 (rc (ox (k8 rfl rfl e6) rfl rfl))).trans ((k4 (nD (CK (ox (k8 rfl rfl e5) rfl (dT hr)) rfl) rfl)).trans (retS (i4 (m8 (i4 (m8 (i4 rfl (FT s 0)) rfl) z) rfl) (EC _ 0)))))
  ·have z:=DX {s with ring:=0} x (some 0)
   simp only[Option.isSome_none,Bool.false_eq_true,if_false,if_neg hr]
   exact nG ((k4 (rc (ox (k8 rfl rfl e6) rfl rfl))).trans ((k4 (nD (B9 (ox (k8 rfl rfl e5) rfl (dF hr)) rfl) rfl)).trans (retS (i4 (m8 (i4 (m8 (i4 rfl (FT s 0)) rfl) z) rfl) (EC _ 0)))))
def jE:R->Option Out:=
  (l9 (ri (uv (rE (h7 i8 (c5 0) (kI 3))))
  (nE (c5 0))
  nV)
  (l9 (nC (h8 vc (c4 (kI 0) (c4 (h7 pN (h7 i8 (c5 0) (kI 2)) (c5 1)) c6))) (setAt 2))
  (nE (nF (c4 (h7 i8 (c5 0) (kI 0)) (c4 (h7 i8 (c5 0) (kI 1)) (c4 (c5 2) (c4 (ui (m7 z6 (c5 2) (kI 0))) c6))))))))
def cu:LD->OD:=via 2 3 jE
theorem jl(s:WS)(n:Int):cu [s.countD,.int n]=some (.tup [.int s.cm,.int s.cs,.int (n_ s n),.bl (runsOn s n)]):=by
 have e1:n_ s n=if s.cr then mx 0 (s.cl - n) else s.cl:=rfl
 have e2:runsOn s n=(s.cr&&decide (0<mx 0 (s.cl - n))):=rfl
 rw[e1,e2]
 have t:rE (h7 i8 (c5 0) (kI 3)) [some s.countD,some (.int n),none]=some s.cr:=vM (k8 rfl rfl (EE s))
 cases hr:s.cr with
 | false =>
  rw[hr] at t
  have q:s.countD=.tup [.int s.cm,.int s.cs,.int s.cl,.bl false]:=by rw[<- hr];rfl
  exact(nG (p0 ((sy (zl (b:=false) t)).trans (retS rfl)))).trans (congrArg some q)
 | true =>
  rw[hr] at t
  exact nG ((k4 ((rc (zl (b:=true) t)).trans rfl)).trans ((k4 (nD (i4 (m8 rfl (m8 (k8 (k8 rfl rfl (EO s)) rfl rfl) rfl)) (DL _ _)) rfl)).trans (retS (tupS (m8 (k8 rfl rfl (DG s)) (m8 (k8 rfl rfl (Dx s)) (m8 rfl (m8 (x4 (ox rfl rfl rfl)) rfl))))))))
def kA:R->Option Out:=
  (l9 (ri (yS (m7 tj (c5 0) (fun _=>some .non)) (m7 tj (h7 i8 (c5 0) (kI 1)) (fun _=>some .non)))
  (nE (c5 0))
  nV)
  (nE (nF (c4 (h7 i8 (c5 0) (kI 0)) (c4 (h7 nM (h7 i8 (c5 0) (kI 1)) (c5 1)) c6)))))
def cF:LD->OD:=via 2 2 kA
theorem kR(h:Option (qZ×Option Int))(n:Int):cF [q_ h,.int n]=some (q_ (oa h n)):=by
 rcases h with _ | ⟨x,_ | k⟩
 ·exact nG (p0 ((sy (Ep (ox rfl rfl rfl))).trans (retS rfl)))
 ·exact nG (p0 ((sy (Bu (ox rfl rfl rfl) (ox (k8 rfl rfl rfl) rfl rfl))).trans (retS rfl)))
 ·exact nG ((k4 ((rc (Bu (ox rfl rfl rfl) (ox (k8 rfl rfl rfl) rfl rfl))).trans rfl)).trans (retS (tupS (m8 (k8 rfl rfl rfl) (m8 (k8 (k8 rfl rfl rfl) rfl rfl) rfl)))))
def fN:R->Option Out:=
 (nE (h8 vc (c4 (kI 1) (c4 (h7 pN (h7 i8 (c5 0) (kI 1)) (h7 i8 (c5 1) (fun _=>some ca))) c6))))
def aQ:LD->OD:=via 2 2 fN
theorem cY(b:Bk)(s:WS):aQ [b.d,s.d]=some (.int (pR b s)):=nG (retS (i4 (m8 rfl (m8 (k8 (k8 rfl rfl (b1 b)) (k8 rfl rfl (w7 s)) rfl) rfl)) (DL _ _)))
def kQ:R->Option Out:=
  (l9 (ri (yS (m7 pB (h7 i8 (c5 1) (fun _=>some aT)) (fun _=>some .non)) (m7 u5 (h7 i8 (c5 0) (kI 1)) (kI 0)))
  (nE (h7 i8 (c5 1) (fun _=>some ca)))
  nV)
  (l9 (nC (h8 aQ (c4 (c5 0) (c4 (c5 1) c6))) (setAt 3))
  (nE (zD (m7 Dp (c5 2) (c5 3)) (h7 nM (h7 i8 (c5 1) (fun _=>some ca)) (c5 2)) (h7 nJ (h7 pN (c5 2) (c5 3)) (h7 i8 (c5 0) (kI 1)))))))
def cI:LD->OD:=via 3 4 kQ
theorem kr{b:Bk}{s:WS}(n:Int)(hb:0<=b.back):cI [b.d,s.d,.int n]=some (.int (oJ b s n)):=by
 have e:=cY b s
 have e6:=w6 s
 have e7:=w7 s
 unfold oJ
 cases hh:s.held with
 | some v =>
  rw[hh] at e6
  rw[if_pos (.inl rfl)]
  exact nG (p0 ((sy (Ep (ox (k8 rfl rfl e6) rfl rfl))).trans (retS (k8 rfl rfl e7))))
 | none =>
  rw[hh] at e6
  by_cases h0:b.back=0
  ·rw[if_pos (.inr h0)]
   exact nG (p0 ((sy (Bu (ox (k8 rfl rfl e6) rfl rfl) (ox (k8 rfl rfl (b1 b)) rfl (Ed h0)))).trans (retS (k8 rfl rfl e7))))
  ·have hp:0<b.back:=by omega
   have q1:ri (yS (m7 pB (h7 i8 (c5 1) (fun _=>some aT)) (fun _=>some .non)) (m7 u5 (h7 i8 (c5 0) (kI 1)) (kI 0))) (nE (h7 i8 (c5 1) (fun _=>some ca))) nV [some b.d,some s.d,some (.int n),none]=some (.nx [some b.d,some s.d,some (.int n),none]):=
    rc (Bu (ox (k8 rfl rfl e6) rfl rfl) (ox (k8 rfl rfl (b1 b)) rfl (Et h0)))
   rw[if_neg (by rintro(z | z);cases z;exact h0 z)]
   by_cases h1:n<pR b s
   ·rw[if_pos h1]
    exact nG ((k4 q1).trans ((k4 (nD (i4 rfl e) rfl)).trans (retS (CK (ox (x:=.int n) (y:=.int (pR b s)) rfl rfl (dT h1)) (k8 (k8 rfl rfl e7) rfl rfl)))))
   ·rw[if_neg h1]
    exact nG ((k4 q1).trans ((k4 (nD (i4 rfl e) rfl)).trans (retS (B9 (ox (x:=.int n) (y:=.int (pR b s)) rfl rfl (dF h1)) (k8 rfl (k8 rfl rfl (b1 b)) (modS hp))))))
def ky:R->Option Out:=
 (nE (zD (rE (h7 i8 (c5 0) (kI 1))) (nF (c4 (h7 nM (h7 i8 (c5 0) (kI 0)) (c5 1)) (c4 (fun _=>some (.bl true)) (c4 (h7 i8 (c5 0) (kI 2)) c6)))) (c5 0)))
def cG:LD->OD:=via 2 2 ky
theorem km(s:WS)(n:Int):cG [s.lapsD,.int n]=some (.tup [.int (oY s n),.bl s.lr,.tup (s.lk.map .int)]):=by
 have e:oY s n=if s.lr then s.lm+n else s.lm:=rfl
 rw[e]
 have t:rE (h7 i8 (c5 0) (kI 1)) [some s.lapsD,some (.int n)]=some s.lr:=vM (k8 rfl rfl (FD s))
 cases hr:s.lr with
 | false =>
  rw[hr] at t
  have q:s.lapsD=.tup [.int s.lm,.bl false,.tup (s.lk.map .int)]:=by rw[<- hr];rfl
  exact(nG (retS (B9 t rfl))).trans (congrArg some q)
 | true =>
  rw[hr] at t
  exact nG (retS (CK t (tupS (m8 (k8 (k8 rfl rfl (EJ s)) rfl rfl) (m8 rfl (m8 (k8 rfl rfl (EB s)) rfl))))))
def hG:R->Option Out:=
  (l9 (nC (h7 i8 (c5 0) (fun _=>some a_)) (setAt 1))
  (l9 (ri (uv (rE (h7 i8 (c5 1) (kI 2))))
  (nE (fun _=>some .non))
  nV)
  (l9 (nC (h7 nM (h7 rj (kI 3600) (h7 i8 (c5 1) (kI 0))) (h7 rj (kI 60) (h7 i8 (c5 1) (kI 1)))) (setAt 2))
  (nE (h7 nM (h7 nJ (h7 pN (h7 pN (c5 2) (h7 i8 (c5 0) (fun _=>some aW))) (kI 1)) (fun _=>some dk)) (kI 1))))))
def aE:LD->OD:=via 1 3 hG
theorem cT(s:WS):aE [s.d]=some (nU (k7 s)):=by
 have e2:=D9 s
 unfold k7
 cases ha:s.aon<;>rw[ha] at e2
 ·exact nG ((k4 (nD (k8 rfl rfl (w2 s)) rfl)).trans (p0 ((sy (zl (b:=false) (vM (k8 rfl rfl e2)))).trans (retS rfl))))
 ·exact nG ((k4 (nD (k8 rfl rfl (w2 s)) rfl)).trans ((k4 (rc (zl (b:=true) (vM (k8 rfl rfl e2))))).trans ((k4 (nD (k8 (k8 rfl (k8 rfl rfl (Eu s)) (A_ _)) (k8 rfl (k8 rfl rfl (ED s)) (BY _)) rfl) rfl)).trans (retS (k8 (k8 (k8 (k8 rfl (k8 rfl rfl (w1 s)) rfl) rfl rfl) rfl (modS (by decide))) rfl rfl)))))
def ii:R->Option Out:=
  (l9 (nC (h7 i8 (c5 0) (fun _=>some aL)) (setAt 1))
  (nE (zD (rE (h7 i8 (c5 1) (kI 3))) (h7 i8 (c5 1) (kI 2)) (fun _=>some .non))))
def aF:LD->OD:=via 1 2 ii
theorem cX(s:WS):aF [s.d]=some (nU (i7 s)):=by
 have e3:=EE s
 unfold i7
 cases ha:s.cr<;>rw[ha] at e3
 ·exact nG ((k4 (nD (k8 rfl rfl (w4 s)) rfl)).trans (retS (B9 (vM (k8 rfl rfl e3)) rfl)))
 ·exact nG ((k4 (nD (k8 rfl rfl (w4 s)) rfl)).trans (retS (CK (vM (k8 rfl rfl e3)) (k8 rfl rfl (EO s)))))
def iv:R->Option Out:=
  (l9 (nC (h8 aE (c4 (c5 0) c6)) (setAt 2))
  (l9 (nC (h8 aF (c4 (c5 0) c6)) (setAt 3))
  (AU 4 c6
  (ua (A3 (tH (m7 pB (c5 2) (fun _=>some .non)) (m7 w_ (c5 2) (c5 1)))
  (xM 4 (h7 pN (c5 1) (h7 nJ (h7 pN (c5 1) (c5 2)) (fun _=>some dk))))
  uV)
  (ua (A3 (tH (m7 pB (c5 3) (fun _=>some .non)) (m7 w_ (c5 3) (c5 1)))
  (xM 4 (c5 3))
  uV)
  (xb (nE (h8 wV (c4 (c5 4) c6)))))))))
def bP:LD->OD:=via 2 5 iv
def yk(n:Int)(o:Option Int):LD:=match o with
 | some a=>if a<=n then [.int (n - (n - a)%86400)] else []
 | none=>[]
def BV(n:Int)(o:Option Int):LD:=match o with
 | some c=>if c<=n then [.int c] else []
 | none=>[]
theorem CO(s:WS)(n:Int):wV [.lst (yk n (k7 s)++BV n (i7 s))]=some (nU (oX s n)):=by
 unfold oX
 cases k7 s<;>cases i7 s
 ·rfl
 ·rename_i c;by_cases h:c<=n<;>simp[yk,BV,h,nU]
 ·rename_i a;by_cases h:a<=n<;>simp[yk,BV,h,nU]
 ·rename_i a c;by_cases h:a<=n<;>by_cases h':c<=n<;>simp[yk,BV,h,h',nU,mx]
theorem Ey{p:R->LD->Option (Out×LD)}{q:R->LD->Option Out}{ρ ρ2:R}{ds ds2:LD}(h:p ρ ds=some (.nx ρ2,ds2)):ua p q ρ ds=q ρ2 ds2:=by simp[h]
theorem CW{c:R->Option Bool}{p q:R->LD->Option (Out×LD)}{ρ:R}{ds:LD}(h:c ρ=some true):A3 c p q ρ ds=p ρ ds:=by simp[h]
theorem AM{c:R->Option Bool}{p q:R->LD->Option (Out×LD)}{ρ:R}{ds:LD}(h:c ρ=some false):A3 c p q ρ ds=q ρ ds:=by simp[h]
theorem iS(s:WS)(n:Int):bP [s.d,.int n]=some (nU (oX s n)):=by
 have e1:=cT s
 have e2:=cX s
 rw[<- CO]
 generalize k7 s=a at *
 generalize i7 s=c at *
 have z0:0<sizeLine:=by decide
 have z1:1<sizeLine:=by decide
 have q1:nC (h8 aE (c4 (c5 0) c6)) (setAt 2) [some s.d,some (.int n),none,none,none]=some (.nx [some s.d,some (.int n),some (nU a),none,none]):=by
  show(aE [s.d]).bind _=_
  rw[e1];rfl
 have q2:nC (h8 aF (c4 (c5 0) c6)) (setAt 3) [some s.d,some (.int n),some (nU a),none,none]=some (.nx [some s.d,some (.int n),some (nU a),some (nU c),none]):=by
  show(aF [s.d]).bind _=_
  rw[e2];rfl
 have q3:A3 (tH (m7 pB (c5 2) (fun _=>some .non)) (m7 w_ (c5 2) (c5 1))) (xM 4 (h7 pN (c5 1) (h7 nJ (h7 pN (c5 1) (c5 2)) (fun _=>some dk)))) uV [some s.d,some (.int n),some (nU a),some (nU c)] []=some (.nx [some s.d,some (.int n),some (nU a),some (nU c)],yk n a):=by
  cases a with
  | none=>rfl
  | some a =>
   show _=some (Out.nx _,if a<=n then _ else _)
   by_cases h:a<=n
   ·rw[CW (dT h),if_pos h]
    show(if 4=4/\0<sizeLine then _ else none)=_
    rw[if_pos ⟨rfl,z0⟩];rfl
   ·rw[AM (dF h),if_neg h];rfl
 have hl:(yk n a).length<=1:=by
  unfold yk
  split
  ·split<;>simp
  ·simp
 have hl2:(yk n a).length<sizeLine:=Nat.lt_of_le_of_lt hl z1
 have q4:A3 (tH (m7 pB (c5 3) (fun _=>some .non)) (m7 w_ (c5 3) (c5 1))) (xM 4 (c5 3)) uV [some s.d,some (.int n),some (nU a),some (nU c)] (yk n a)=some (.nx [some s.d,some (.int n),some (nU a),some (nU c)],yk n a++BV n c):=by
  cases c with
  | none=>show some _=_;rw[show BV n none=[] from rfl,List.append_nil]
  | some c =>
   show _=some (Out.nx _,yk n a++if c<=n then _ else _)
   by_cases h:c<=n
   ·rw[CW (dT h),if_pos h]
    show(if 4=4/\(yk n a).length<sizeLine then _ else none)=_
    rw[if_pos ⟨rfl,hl2⟩];rfl
   ·rw[AM (dF h),if_neg h,List.append_nil];rfl
 show uP (l9 (nC (h8 aE (c4 (c5 0) c6)) (setAt 2)) _ [some s.d,some (.int n),none,none,none])=_
 rw[k4 q1,k4 q2]
 show uP (ua (A3 (tH (m7 pB (c5 2) (fun _=>some .non)) (m7 w_ (c5 2) (c5 1))) (xM 4 (h7 pN (c5 1) (h7 nJ (h7 pN (c5 1) (c5 2)) (fun _=>some dk)))) uV) _ [some s.d,some (.int n),some (nU a),some (nU c)] [])=_
 rw[Ey q3,Ey q4]
 show uP ((wV [.lst (yk n a++BV n c)]).map .rt)=_
 cases wV [.lst (yk n a++BV n c)]<;>rfl
def kP:R->Option Out:=
  (l9 (nC (h8 bP (c4 (c5 0) (c4 (c5 1) c6))) (setAt 2))
  (l9 (ri (m7 tj (c5 2) (fun _=>some .non))
  (nE (h8 vc (c4 (kI 0) (c4 (h7 pN (h7 i8 (c5 0) (fun _=>some eZ)) (c5 1)) c6))))
  nV)
  (nE (h8 vc (c4 (kI 0) (c4 (h7 pN (fun _=>some du) (h7 pN (c5 1) (c5 2))) c6))))))
def cK:LD->OD:=via 2 3 kP
theorem kj(s:WS)(n:Int):cK [s.d,.int n]=some (.int (oK s n)):=by
 have e:=iS s n
 unfold oK
 cases h:oX s n with
 | none =>
  rw[h] at e
  exact nG ((k4 (nD (i4 rfl e) rfl)).trans (p0 ((sy (ox rfl rfl rfl)).trans (retS (i4 (m8 rfl (m8 (k8 (k8 rfl rfl (w5 s)) rfl rfl) rfl)) (DL _ _))))))
 | some l =>
  rw[h] at e
  exact nG ((k4 (nD (i4 rfl e) rfl)).trans ((k4 ((rc (ox rfl rfl rfl)).trans rfl)).trans (retS (i4 (m8 rfl (m8 (k8 rfl (k8 rfl rfl rfl) rfl) rfl)) (DL _ _)))))
def kf:R->Option Out:=
 (nE (nF (c4 (h7 i8 (c5 1) (fun _=>some bL)) (c4 (h7 nJ (h7 nM (h7 i8 (c5 1) (fun _=>some aW)) (c5 2)) (fun _=>some dk)) (c4 (h7 i8 (c5 1) (fun _=>some a_)) (c4 (h8 cG (c4 (h7 i8 (c5 1) (fun _=>some bK)) (c4 (c5 2) c6))) (c4 (h8 cu (c4 (h7 i8 (c5 1) (fun _=>some aL)) (c4 (c5 2) c6))) (c4 (h8 cK (c4 (c5 1) (c4 (c5 2) c6))) (c4 (h8 cF (c4 (h7 i8 (c5 1) (fun _=>some aT)) (c4 (c5 2) c6))) (c4 (h8 cI (c4 (c5 0) (c4 (c5 1) (c4 (c5 2) c6)))) c6))))))))))
def bH:LD->OD:=via 3 3 kf
theorem fg{b:Bk}{s:WS}(n:Int)(hb:0<=b.back):bH [b.d,s.d,.int n]=some (counted b s n).d:=
 nG (retS (tupS (m8 (k8 rfl rfl (w0 s)) (m8 (k8 (k8 (k8 rfl rfl (w1 s)) rfl rfl) rfl rfl) (m8 (k8 rfl rfl (w2 s)) (m8 (i4 (m8 (k8 rfl rfl (w3 s)) rfl) (km s n)) (m8 (i4 (m8 (k8 rfl rfl (w4 s)) rfl) (jl s n)) (m8 (i4 rfl (kj s n)) (m8 (i4 (m8 (k8 rfl rfl (w6 s)) rfl) (kR s.held n)) (m8 (i4 rfl (kr n hb)) rfl))))))))))
def iF:R->Option Out:=
 (nE (ur (ui (m7 z6 (h7 i8 (c5 0) (kI 1)) (kI 0))) (ur (ui (m7 Dl (h7 i8 (c5 1) (fun _=>some bL)) (kI 0))) (xt (h7 i8 (h7 i8 (h7 i8 (c5 0) (kI 2)) (h7 i8 (c5 1) (fun _=>some bL))) (kI 1))))))
def bM:LD->OD:=via 2 2 iF
theorem iU{b:Bk}{s:WS}(w:s.Wk b):bM [b.d,s.d]=some (.bl (oO b s)):=by
 have hm:=j9 b w.mode
 unfold oO
 have c1:ui (m7 z6 (h7 i8 (c5 0) (kI 1)) (kI 0)) [some b.d,some s.d]=some (.bl (decide (0<b.back))):=x4 (ox (k8 rfl rfl (b1 b)) rfl rfl)
 have e2:Dl (.int (s.mode:Int)) (.int 0)=some (!decide (s.mode=0)):=by
  show some (!((s.mode:Int)==0))=_
  cases s.mode<;>rfl
 have c2:ui (m7 Dl (h7 i8 (c5 1) (fun _=>some bL)) (kI 0)) [some b.d,some s.d]=some (.bl (!decide (s.mode=0))):=x4 (ox (k8 rfl rfl (w0 s)) rfl e2)
 generalize b.modes.getD s.mode default=md at *
 have c3:xt (h7 i8 (h7 i8 (h7 i8 (c5 0) (kI 2)) (h7 i8 (c5 1) (fun _=>some bL))) (kI 1)) [some b.d,some s.d]=some (.bl !md.stays):=by
  show(h7 i8 _ _ _).bind _=_
  rw[k8 (k8 (k8 rfl rfl (b2 b)) (k8 rfl rfl (w0 s)) hm) rfl (m1 md)];rfl
 generalize decide (0<b.back)=p at *
 generalize (!decide (s.mode=0))=q at *
 cases p
 ·exact nG (retS (xT c1))
 ·cases q
  ·exact nG (retS (BL c1 (xT c2)))
  ·exact nG (retS (BL c1 (BL c2 c3)))
def fJ:R->Option Out:=
 (nE (h8 vc (c4 (kI 1) (c4 (h7 pN (h7 i8 (c5 0) (kI 0)) (h7 i8 (h7 i8 (c5 1) (fun _=>some aT)) (kI 1))) c6))))
def bm:LD->OD:=via 2 2 fJ
theorem fM{b:Bk}{s:WS}{x:qZ}{k:Int}(h:s.held=some (x,some k)):bm [b.d,s.d]=some (.int (mx 1 (b.hold - k))):=by
 have e6:=w6 s
 rw[h] at e6
 exact nG (retS (i4 (m8 rfl (m8 (k8 (k8 rfl rfl (b0 b)) (k8 (k8 rfl rfl e6) rfl (h1 x (some k))) rfl) rfl)) (DL _ _)))
def iM:R->Option Out:=
  (l9 (nC (h7 i8 (c5 1) (fun _=>some aT)) (setAt 2))
  (l9 (ri (m7 tj (c5 2) (fun _=>some .non))
  (nE (zD (rE (h8 bM (c4 (c5 0) (c4 (c5 1) c6)))) (h8 aQ (c4 (c5 0) (c4 (c5 1) c6))) (fun _=>some .non)))
  nV)
  (nE (zD (m7 tj (h7 i8 (c5 2) (kI 1)) (fun _=>some .non)) (fun _=>some .non) (h8 bm (c4 (c5 0) (c4 (c5 1) c6)))))))
def be:LD->OD:=via 2 3 iM
theorem dz{b:Bk}{s:WS}(w:s.Wk b):be [b.d,s.d]=some (nU (k6 b s)):=by
 have e1:=iU w
 have e2:=cY b s
 have e6:=w6 s
 unfold k6
 rcases hs:s.held with _ | ⟨x,_ | k⟩<;>rw[hs] at e6
 ·cases hg:oO b s<;>rw[hg] at e1
  ·exact nG ((k4 (nD (k8 rfl rfl e6) rfl)).trans (p0 ((sy rfl).trans (retS (B9 (vM (i4 rfl e1)) rfl)))))
  ·exact nG ((k4 (nD (k8 rfl rfl e6) rfl)).trans (p0 ((sy rfl).trans (retS (CK (vM (i4 rfl e1)) (i4 rfl e2))))))
 ·exact nG ((k4 (nD (k8 rfl rfl e6) rfl)).trans ((k4 (rc rfl)).trans (retS (CK rfl rfl))))
 ·have e3:=fM (b:=b) hs
  exact nG ((k4 (nD (k8 rfl rfl e6) rfl)).trans ((k4 (rc rfl)).trans (retS (B9 rfl (i4 rfl e3)))))
def lj:R->Option Out:=
  (l9 (nC (h7 i8 (c5 1) (fun _=>some aT)) (setAt 2))
  (l9 (ri (m7 tj (c5 2) (fun _=>some .non))
  (nE (h8 aC (c4 (c5 1) (c4 (fun _=>some bL) (c4 (kI 0) c6)))))
  nV)
  (nE (h8 bi (c4 (c5 0) (c4 (h8 aC (c4 (c5 1) (c4 (fun _=>some aT) (c4 (nF (c4 (h7 i8 (c5 2) (kI 0)) (c4 (fun _=>some .non) c6))) c6)))) (c4 (BK ET (h7 i8 (c5 2) (kI 0))) c6)))))))
def dt:LD->OD:=via 2 3 lj
theorem EY(x:qZ):ET (.str x.x)=some (.str x.X):=by cases x<;>rfl
theorem ue{b:Bk}{s:WS}(h:s.held=none):turned b s={s with mode:=0}:=by
 unfold turned
 split
 ·rfl
 ·rename_i e;rw[h] at e;cases e
theorem wW{b:Bk}{s:WS}{x:qZ}{k:Option Int}(h:s.held=some (x,k)):turned b s=press b {s with held:=some (x,none)} (x.ix+3):=by
 unfold turned
 split
 ·rename_i e;rw[h] at e;cases e
 ·rename_i e;rw[h] at e;cases e;rfl
theorem lC{b:Bk}{s:WS}(ok:b.Ok)(w:s.Wk b):dt [b.d,s.d]=some (turned b s).d:=by
 have e6:=w6 s
 rcases hs:s.held with _ | ⟨x,k⟩<;>rw[hs] at e6
 ·rw[ue hs]
  exact nG ((k4 (nD (k8 rfl rfl e6) rfl)).trans (p0 ((sy rfl).trans (retS (i4 rfl (FM s 0))))))
 ·have e:=eS (s:={s with held:=some (x,none)}) ok {w with} x.ix3 (Dq x)
  rw[wW hs]
  exact nG ((k4 (nD (k8 rfl rfl e6) rfl)).trans ((k4 (rc rfl)).trans (retS (i4 (m8 rfl (m8 (i4 (m8 rfl (m8 rfl (m8 (tupS (m8 (k8 rfl rfl (h0 x k)) rfl)) rfl))) (Fb s x)) (m8 (FY (k8 rfl rfl (h0 x k)) (EY x)) rfl))) e))))
def en:R->Option Out:=
 (nE (h8 dt (c4 (c5 0) (c4 (h8 bH (c4 (c5 0) (c4 (c5 1) (c4 (h8 be (c4 (c5 0) (c4 (c5 1) c6))) c6)))) c6))))
def aS:LD->OD:=via 2 2 en
theorem je{b:Bk}{s:WS}{t:Int}(ok:b.Ok)(w:s.Wk b)(h:k6 b s=some t):aS [b.d,s.d]=some (behind b s t).d:=by
 have e1:=dz w
 rw[h] at e1
 have ht:=oo h
 have e2:=fg (s:=s) t ok.back0
 have e3:=lC ok (w.cnt (n:=t) (by omega))
 simp only[nU] at e1
 simp[aS,via,en,e1,e2,e3,behind]
def iZ:R->Option Out:=
  (l9 (nC (h8 be (c4 (c5 0) (c4 (c5 1) c6))) (setAt 3))
  (l9 (ri (yS (m7 tj (c5 3) (fun _=>some .non)) (m7 z6 (c5 3) (c5 2)))
  (nE (zq (c4 (nF (c4 (kI 0) (c4 (c5 1) (c4 (c5 2) c6)))) c6)))
  nV)
  (nE (zq (c4 (nF (c4 (kI 0) (c4 (c5 1) (c4 (c5 3) c6)))) (c4 (nF (c4 (c5 3) (c4 (h8 aS (c4 (c5 0) (c4 (c5 1) c6))) (c4 (h7 pN (c5 2) (c5 3)) c6)))) c6))))))
def aZ:LD->OD:=via 3 4 iZ
def pF(b:Bk)(s:WS)(n:Int):LD:=match k6 b s with
 | none=>[.tup [.int 0,s.d,.int n]]
 | some t=>if n<t then [.tup [.int 0,s.d,.int n]] else [.tup [.int 0,s.d,.int t],.tup [.int t,(behind b s t).d,.int (n - t)]]
theorem fF{b:Bk}{s:WS}(n:Int)(ok:b.Ok)(w:s.Wk b):aZ [b.d,s.d,.int n]=some (.lst (pF b s n)):=by
 have e1:=dz w
 unfold pF
 cases h:k6 b s with
 | none =>
  rw[h] at e1
  exact nG ((k4 (nD (i4 rfl e1) rfl)).trans (p0 ((sy (Ep rfl)).trans (retS rfl))))
 | some t =>
  have e2:=je ok w h
  rw[h] at e1
  dsimp only
  by_cases hn:n<t
  ·rw[if_pos hn]
   exact nG ((k4 (nD (i4 rfl e1) rfl)).trans (p0 ((sy (Bu rfl (ox rfl rfl (dT hn)))).trans (retS rfl))))
  ·rw[if_neg hn]
   exact nG ((k4 (nD (i4 rfl e1) rfl)).trans ((k4 (rc (Bu rfl (ox rfl rfl (dF hn))))).trans (retS (Fq (m8 rfl (m8 (tupS (m8 rfl (m8 (i4 rfl e2) rfl))) rfl))))))
def lG:R->Option Out:=
  (l9 (nC (h7 i8 (h8 aZ (c4 (c5 0) (c4 (c5 1) (c4 (c5 2) c6)))) (BK DC (kI 1))) (setAt 3))
  (nE (h8 bH (c4 (c5 0) (c4 (h7 i8 (c5 3) (kI 1)) (c4 (h7 i8 (c5 3) (kI 2)) c6))))))
def dq:LD->OD:=via 3 4 lG
theorem lM{b:Bk}{s:WS}(n:Int)(ok:b.Ok)(w:s.Wk b):dq [b.d,s.d,.int n]=some (ticked b s n).d:=by
 have e1:=fF n ok w
 unfold pF at e1
 unfold ticked
 have e2:=fg (s:=s) n ok.back0
 cases h:k6 b s with
 | none =>
  rw[h] at e1
  exact nG ((k4 (nD (k8 (i4 rfl e1) rfl rfl) rfl)).trans (retS (i4 rfl e2)))
 | some t =>
  rw[h] at e1
  dsimp only at e1 ⊢
  have e3:=fg (s:=behind b s t) (n - t) ok.back0
  by_cases hn:n<t
  ·rw[if_pos hn] at e1 ⊢
   exact nG ((k4 (nD (k8 (i4 rfl e1) rfl rfl) rfl)).trans (retS (i4 rfl e2)))
  ·rw[if_neg hn] at e1 ⊢
   exact nG ((k4 (nD (k8 (i4 rfl e1) rfl rfl) rfl)).trans (retS (i4 rfl e3)))
def mH:R->Option Out:=
  (l9 (ri (m7 u5 (h7 i8 (c5 2) (kI 0)) (kS "down"))
  (nE (h8 dC (c4 (c5 1) (c4 (h7 i8 (c5 2) (kI 1)) c6))))
  nV)
  (l9 (ri (m7 u5 (h7 i8 (c5 2) (kI 0)) (kS "up"))
  (nE (h8 dJ (c4 (c5 0) (c4 (c5 1) (c4 (h7 i8 (c5 2) (kI 1)) c6)))))
  nV)
  (nE (h8 dq (c4 (c5 0) (c4 (c5 1) (c4 (h7 i8 (c5 2) (kI 1)) c6)))))))
def dH:LD->OD:=via 3 3 mH
theorem Cv:u5 (.str (oS "down")) (.str (oS "down"))=some true:=rfl
theorem C8:u5 (.str (oS "up")) (.str (oS "down"))=some false:=rfl
theorem CV:u5 (.str (oS "ticks")) (.str (oS "down"))=some false:=rfl
theorem Cp:u5 (.str (oS "up")) (.str (oS "up"))=some true:=rfl
theorem Ci:u5 (.str (oS "ticks")) (.str (oS "up"))=some false:=rfl
theorem jz{b:Bk}{s:WS}(ok:b.Ok)(w:s.Wk b)(e:Ev):dH [b.d,s.d,e.d]=some (gone b s e).d:=by
 cases e with
 | down x=>exact nG (p0 ((sy (ox rfl rfl Cv)).trans (retS (i4 rfl (lD s x)))))
 | up x=>exact nG ((k4 (rc (ox rfl rfl C8))).trans (p0 ((sy (ox rfl rfl Cp)).trans (retS (i4 rfl (lu ok w x))))))
 | ticks n=>exact nG ((k4 (rc (ox rfl rfl CV))).trans ((k4 (rc (ox rfl rfl Ci))).trans (retS (i4 rfl (lM n ok w)))))
def ir:R->Option Out:=
 (nE (h8 BC (c4 (wH 1 (pV (nF (c4 (h8 aE (c4 (c5 0) c6)) (c4 (h8 aF (c4 (c5 0) c6)) c6)))) (setAt 0) (m7 pB (c5 0) (fun _=>some .non)) (c5 0)) c6)))
def bv:LD->OD:=via 1 1 ir
def om(s:WS):Option Int:=match k7 s,i7 s with
 | some a,some c=>some (if c<a then c else a)
 | some a,none=>some a
 | none,o=>o
theorem eU(s:WS):bv [s.d]=some (nU (om s)):=by
 have e1:=cT s
 have e2:=cX s
 unfold om
 generalize k7 s=a at *
 generalize i7 s=c at *
 have z1:1<=sizeLine:=by decide
 have z2:2<=sizeLine:=by decide
 have q:wH 1 (pV (nF (c4 (h8 aE (c4 (c5 0) c6)) (c4 (h8 aF (c4 (c5 0) c6)) c6)))) (setAt 0) (m7 pB (c5 0) (fun _=>some .non)) (c5 0) [some s.d]=some (.lst ((a.toList++c.toList).map D.int)):=by
  unfold wH
  have h:pV (nF (c4 (h8 aE (c4 (c5 0) c6)) (c4 (h8 aF (c4 (c5 0) c6)) c6))) [some s.d]=some [nU a,nU c]:=by
   show(nF _ _).bind _=_
   rw[tupS (m8 (i4 rfl e1) (m8 (i4 rfl e2) rfl))];rfl
  rw[h,Option.bind_some,if_pos (show [nU a,nU c].length<=sizeLine from z2)]
  cases a<;>cases c<;>rfl
 refine nG (retS (i4 (m8 q rfl) ?_))
 cases a<;>cases c<;>rfl
def gH:R->Option Out:=
 (nC (h8 bv (c4 (c5 1) c6)) (setAt 2))
def gJ:R->Option Out:=
 (nC (h8 be (c4 (c5 0) (c4 (c5 1) c6))) (setAt 3))
def gC:R->Option Out:=
  (ri (yS (m7 tj (c5 3) (fun _=>some .non)) (tH (m7 pB (c5 2) (fun _=>some .non)) (m7 w_ (c5 2) (c5 3))))
  (nE (c5 2))
  nV)
def gF:R->Option Out:=
 (nC (h8 bv (c4 (h8 aS (c4 (c5 0) (c4 (c5 1) c6))) c6)) (setAt 4))
def gz:R->Option Out:=
 (nE (zD (m7 tj (c5 4) (fun _=>some .non)) (fun _=>some .non) (h7 nM (c5 3) (c5 4))))
def jb:R->Option Out:=
 (l9 gH (l9 gJ (l9 gC (l9 gF gz))))
def bh:LD->OD:=via 2 5 jb
def qQ(b:Bk)(s:WS)(t:Int):Option Int:=(om (behind b s t)).map (t+·)
def oi(b:Bk)(s:WS):Option Int:=match k6 b s with
 | none=>om s
 | some t=>match om s with
  | none=>qQ b s t
  | some f=>if f<=t then some f else qQ b s t
theorem yt{ρ:R}{t:Int}(o:Option Int)(e3:c5 3 ρ=some (.int t))(e4:c5 4 ρ=some (nU o)):zD (m7 tj (c5 4) (fun _=>some .non)) (fun _=>some .non) (h7 nM (c5 3) (c5 4)) ρ=some (nU (o.map (t+·))):=by
 cases o with
 | none=>exact CK (ox e4 rfl rfl) rfl
 | some f=>exact B9 (ox e4 rfl rfl) (k8 e3 e4 rfl)
theorem cz{b:Bk}{s:WS}(ok:b.Ok)(w:s.Wk b):bh [b.d,s.d]=some (nU (oi b s)):=by
 have e1:=eU s
 have e2:=dz w
 unfold oi
 cases h:k6 b s with
 | none =>
  rw[h] at e2
  exact nG ((k4 (nD (i4 rfl e1) rfl)).trans ((k4 (nD (i4 rfl e2) rfl)).trans (p0 ((sy (Ep rfl)).trans (retS rfl)))))
 | some t =>
  rw[h] at e2
  have e3:=je ok w h
  have e4:=eU (behind b s t)
  dsimp only
  unfold qQ
  generalize om (behind b s t)=o at *
  cases hf:om s with
  | none =>
   rw[hf] at e1
   exact nG ((k4 (nD (i4 rfl e1) rfl)).trans ((k4 (nD (i4 rfl e2) rfl)).trans ((k4 (rc (Bu rfl (Dz rfl)))).trans ((k4 (nD (i4 (m8 (i4 rfl e3) rfl) e4) rfl)).trans (retS (yt o rfl rfl))))))
  | some f =>
   rw[hf] at e1
   dsimp only
   by_cases hle:f<=t
   ·rw[if_pos hle]
    exact nG ((k4 (nD (i4 rfl e1) rfl)).trans ((k4 (nD (i4 rfl e2) rfl)).trans (p0 ((sy (Bu rfl (AO rfl (ox (x:=.int f) (y:=.int t) rfl rfl (dT hle))))).trans (retS rfl)))))
   ·rw[if_neg hle]
    exact nG ((k4 (nD (i4 rfl e1) rfl)).trans ((k4 (nD (i4 rfl e2) rfl)).trans ((k4 (rc (Bu rfl (AO rfl (ox (x:=.int f) (y:=.int t) rfl rfl (dF hle)))))).trans ((k4 (nD (i4 (m8 (i4 rfl e3) rfl) e4) rfl)).trans (retS (yt o rfl rfl))))))
def dj:R->Option Out:=
 (nC (h8 aE (c4 (c5 0) c6)) (setAt 2))
def dh:R->Option Out:=
 (nC (h8 aF (c4 (c5 0) c6)) (setAt 3))
def pQ:R->Option Bool:=
 (m7 pB (c5 2) (fun _=>some .non))
def pP:R->Option LD:=
 (tM (c5 2) (h7 nM (c5 1) (kI 1)) (fun _=>some dk))
def rA:R->LD->Option (Out×LD):=
  (A3 (tH (m7 pB (c5 3) (fun _=>some .non)) (m7 w_ (c5 3) (c5 1)))
  (xM 4 (c5 3))
  uV)
def dl:R->Option Out:=
 (nE (h8 Fk (c4 (c5 4) c6)))
def gX:R->Option Out:=
 (l9 dj (l9 dh (AU 4 c6 (qx 4 pQ pP (ua rA (xb dl))))))
def bb:LD->OD:=via 2 5 gX
def uF(n:Int)(o:Option Int):List Int:=match o with
 | some a=>(List.range (ou a (n+1) 86400)).map fun (k:Nat)=>a+(k:Int)*86400
 | none=>[]
def xp(n:Int)(o:Option Int):List Int:=match o with
 | some c=>if c<=n then [c] else []
 | none=>[]
def qk(s:WS)(n:Int):List Int:=pC (rh (uF n (k7 s)++xp n (i7 s)))
theorem sJ:∀l:List Int,intsOf (l.map D.int)=some l
 | []=>rfl
 | i::l=>by show(intsOf (l.map D.int)).map _=_;rw[sJ l];rfl
theorem wt{a n:Int}(h1:1<=a)(hn:n<8700000):ou a (n+1) 86400<=101:=by
 unfold ou
 split<;>omega
theorem Cb{ds:LD}{ns:List Int}(e:ds=ns.map D.int)(h:ns.length<=120):Fk [.lst ds]=some (.lst ((pC (rh ns)).map D.int)):=by
 subst e
 show(intsOf _).bind _=_
 rw[sJ]
 exact if_pos h
theorem DY{i:Nat}{s:R->Option Bool}{f:R->Option LD}{w:R->LD->Option Out}{ρ:R}{ds es:LD}(h1:s ρ=some true)(h2:f ρ=some es)(h3:ρ.length=i)(h4:es.length<=1000):qx i s f w ρ ds=w ρ es:=by
 unfold qx;rw[h1]
 show(f ρ).bind _=_
 rw[h2]
 exact if_pos ⟨h3,h4⟩
theorem DV{i:Nat}{s:R->Option Bool}{f:R->Option LD}{w:R->LD->Option Out}{ρ:R}{ds:LD}(h1:s ρ=some false):qx i s f w ρ ds=w ρ ds:=by
 unfold qx;rw[h1];rfl
theorem qH{s:WS}{a:Int}(h:k7 s=some a):1<=a/\a<=86400:=by
 unfold k7 at h
 split at h
 ·cases h;omega
 ·cases h
theorem iq(s:WS){n:Int}(h0:0<=n)(hn:n<8700000):bb [s.d,.int n]=some (.lst ((qk s n).map .int)):=by
 have e1:=cT s
 have e2:=cX s
 have hA:∀a,k7 s=some a->1<=a/\a<=86400:=fun a h=>qH h
 unfold qk
 generalize k7 s=a at *
 generalize i7 s=c at *
 have q1:dj [some s.d,some (.int n),none,none,none]=some (.nx [some s.d,some (.int n),some (nU a),none,none]):=nD (i4 rfl e1) rfl
 have q2:dh [some s.d,some (.int n),some (nU a),none,none]=some (.nx [some s.d,some (.int n),some (nU a),some (nU c),none]):=nD (i4 rfl e2) rfl
 have q3:∀w,qx 4 pQ pP w [some s.d,some (.int n),some (nU a),some (nU c)] []=w [some s.d,some (.int n),some (nU a),some (nU c)] ((uF n a).map D.int):=fun w=>by
  cases a with
  | none=>exact DV rfl
  | some a =>
   obtain⟨a1,a2⟩:=hA a rfl
   have hl:=wt a1 hn
   have e:qe a (n+1) 86400=(uF n (some a)).map D.int:=by
    show _=((List.range _).map _).map _
    rw[List.map_map];rfl
   rw[<- e]
   refine DY rfl ?_ rfl ?_
   ·show(if -(2 ^ 60)<=a/\a<2 ^ 60 /\ -(2 ^ 60)<=n+1/\n+1<2 ^ 60/\(0:Int)<86400/\(86400:Int)<1073741824 then some (qe a (n+1) 86400) else none)=_
    rw[if_pos ⟨by omega,by omega,by omega,by omega,by decide,by decide⟩]
   ·unfold qe;rw[List.length_map,List.length_range];omega
 have hlA:(uF n a).length<=101:=by
  cases a with
  | none=>exact Nat.zero_le _
  | some a =>
   obtain⟨a1,a2⟩:=hA a rfl
   have hl:=wt a1 hn
   unfold uF;rw[List.length_map,List.length_range];exact hl
 have hlC:(xp n c).length<=1:=by
  unfold xp
  split
  ·split<;>simp
  ·decide
 have q4:rA [some s.d,some (.int n),some (nU a),some (nU c)] ((uF n a).map D.int)=some (.nx [some s.d,some (.int n),some (nU a),some (nU c)],(uF n a++xp n c).map D.int):=by
  rw[List.map_append]
  cases c with
  | none =>
   refine(AM (Dz rfl)).trans ?_
   show some (_,_)=some (_,_++[])
   rw[List.append_nil]
  | some c =>
   by_cases h:c<=n
   ·refine(CW (AO rfl (ox (x:=.int c) (y:=.int n) rfl rfl (dT h)))).trans ?_
    show(if 4=4/\((uF n a).map D.int).length<sizeLine then _ else none)=_
    rw[if_pos ⟨rfl,by rw[List.length_map,PySem.sizeLine_eq];omega⟩]
    unfold xp
    dsimp only
    rw[if_pos h];rfl
   ·refine(AM (AO rfl (ox (x:=.int c) (y:=.int n) rfl rfl (dF h)))).trans ?_
    unfold xp
    dsimp only
    rw[if_neg h]
    show some (_,_)=some (_,_++[])
    rw[List.append_nil]
 have q6:dl [some s.d,some (.int n),some (nU a),some (nU c),some (.lst ((uF n a++xp n c).map D.int))]=some (.rt (.lst ((pC (rh (uF n a++xp n c))).map D.int))):=
  retS (i4 rfl (Cb rfl (by rw[List.length_append];omega)))
 refine nG ((k4 q1).trans ((k4 q2).trans ?_))
 show qx 4 pQ pP _ [some s.d,some (.int n),some (nU a),some (nU c)] []=_
 rw[q3,Ey q4]
 exact q6
theorem gS{s:WS}{n:Int}(hn:n<8700000):(qk s n).length<=102:=by
 unfold qk
 rw[(oB _).length_eq]
 refine Nat.le_trans (qI _ []) ?_
 have hlA:(uF n (k7 s)).length<=101:=by
  cases h:k7 s with
  | none=>exact Nat.zero_le _
  | some a =>
   have hl:=wt (qH h).1 hn
   unfold uF;rw[List.length_map,List.length_range];exact hl
 have hlC:(xp n (i7 s)).length<=1:=by
  unfold xp
  split
  ·split<;>simp
  ·decide
 rw[List.length_nil,List.length_append];omega
theorem vR{st:D->R->Option R}{p:R->LD->Option (Out×LD)}{d:D}{es ds ds2:LD}{ρ ρ1 ρ2:R}(h1:st d ρ=some ρ1)(h2:p ρ1 ds=some (.nx ρ2,ds2)):vU st p (d::es) ρ ds=vU st p es ρ2 ds2:=by
 show(st d ρ).bind _=_
 rw[h1]
 show(p ρ1 ds).bind _=_
 rw[h2];rfl
def vi:R->LD->Option (Out×LD):=
 (A2 4 (wH 1 (pV (h8 bb (c4 (h7 i8 (c5 3) (kI 1)) (c4 (h7 i8 (c5 3) (kI 2)) c6)))) (setAt 0) uU (h7 nM (h7 i8 (c5 4) (kI 0)) (c5 0))))
def qw:R->LD->Option (Out×LD):=vi
def rP:R->LD->Option (Out×LD):=
 (BJ (pV (h8 aZ (c4 (c5 0) (c4 (c5 1) (c4 (c5 2) c6))))) (setAt 3) qw)
def gU:R->Option Out:=
 (nE (h8 uC (c4 (c5 4) c6)))
def mr:R->Option Out:=
 (AU 4 c6 (ua rP (xb gU)))
def cx:LD->OD:=via 3 5 mr
theorem iO(k:Int)(a b c:OD)(x y:D):∀l:List Int,qv (setAt 0) uU (h7 nM (h7 i8 (c5 4) (kI 0)) (c5 0)) (l.map D.int) [none,a,b,c,some (.tup [.int k,x,y])]=some (l.map fun i=>D.int (k+i))
 | []=>rfl
 | i::l=>by
  have ih:=iO k a b c x y l
  show(qv _ _ _ (l.map D.int) _).map (fun r=>D.int (k+i)::r)=_
  rw[ih];rfl
theorem ez{a b c:OD}{k:Int}(s:WS){n:Int}(ds:LD)(hd:ds.length<=102)(h0:0<=n)(hn:n<8700000) :
  qw [a,b,c,some (.tup [.int k,s.d,.int n])] ds=some (.nx [a,b,c,some (.tup [.int k,s.d,.int n])],ds++(qk s n).map fun i=>D.int (k+i)):=by
 have hl:=gS (s:=s) hn
 have e:=iq s h0 hn
 have q:pV (h8 bb (c4 (h7 i8 (c5 3) (kI 1)) (c4 (h7 i8 (c5 3) (kI 2)) c6))) [a,b,c,some (.tup [.int k,s.d,.int n])]=some ((qk s n).map D.int):=by
  show(h8 bb _ _).bind _=_
  rw[i4 (ds:=[s.d,.int n]) (m8 (k8 rfl rfl rfl) (m8 (k8 rfl rfl rfl) rfl)) e]
  rfl
 have q2:wH 1 (pV (h8 bb (c4 (h7 i8 (c5 3) (kI 1)) (c4 (h7 i8 (c5 3) (kI 2)) c6)))) (setAt 0) uU (h7 nM (h7 i8 (c5 4) (kI 0)) (c5 0)) [a,b,c,some (.tup [.int k,s.d,.int n])]=some (.lst ((qk s n).map fun i=>D.int (k+i))):=by
  unfold wH
  rw[q,Option.bind_some,if_pos (by rw[List.length_map,PySem.sizeLine_eq];omega)]
  show(qv _ _ _ _ [none,a,b,c,_]).map _=_
  rw[iO];rfl
 show A2 4 _ _ ds=_
 unfold A2
 rw[q2,Option.bind_some]
 exact if_pos ⟨rfl,by rw[List.length_map,PySem.sizeLine_eq];omega⟩
def nH(b:Bk)(s:WS)(n:Int):List Int:=match k6 b s with
 | none=>qk s n
 | some t=>if n<t then qk s n else qk s t++(qk (behind b s t) (n - t)).map (t+·)
theorem Cj(l:List Int):(l.map fun i=>D.int (0+i))=l.map D.int:=by
 refine List.map_congr_left fun i _=>?_
 rw[Int.zero_add]
theorem fZ{b:Bk}{s:WS}{n:Int}(ok:b.Ok)(w:s.Wk b)(h0:0<=n)(hn:n<8700000):cx [b.d,s.d,.int n]=some (.tup ((nH b s n).map D.int)):=by
 have e1:=fF n ok w
 have key:∃x,rP [some b.d,some s.d,some (.int n),none] []=some (.nx [some b.d,some s.d,some (.int n),some x],(nH b s n).map D.int):=by
  have hit:pV (h8 aZ (c4 (c5 0) (c4 (c5 1) (c4 (c5 2) c6)))) [some b.d,some s.d,some (.int n),none]=some (pF b s n):=by
   show(h8 aZ _ _).bind _=_
   rw[i4 rfl e1];rfl
  have q:rP [some b.d,some s.d,some (.int n),none] []=vU (setAt 3) qw (pF b s n) [some b.d,some s.d,some (.int n),none] []:=by
   show(pV _ _).bind _=_
   rw[hit];rfl
  rw[q]
  have one:∀x:D,x=.tup [.int 0,s.d,.int n]->vU (setAt 3) qw [x] [some b.d,some s.d,some (.int n),none] []=some (.nx [some b.d,some s.d,some (.int n),some x],(qk s n).map D.int):=fun x hx=>by
   subst hx
   rw[vR rfl (ez s [] (Nat.zero_le _) h0 hn),List.nil_append,Cj];rfl
  unfold pF nH
  cases h:k6 b s with
  | none=>exact⟨_,one _ rfl⟩
  | some t =>
   dsimp only
   by_cases ht:n<t
   ·rw[if_pos ht,if_pos ht];exact⟨_,one _ rfl⟩
   ·rw[if_neg ht,if_neg ht]
    have htp:=oo h
    refine⟨.tup [.int t,(behind b s t).d,.int (n - t)],?_⟩
    rw[vR rfl (ez s [] (Nat.zero_le _) (by omega) (by omega)),vR rfl (ez (behind b s t) _ ?_ (by omega) (by omega)),List.nil_append,Cj,List.map_append,List.map_map]
    ·rfl
    ·rw[List.nil_append,Cj,List.length_map];exact gS (by omega)
 obtain⟨x,key⟩:=key
 refine nG ?_
 show ua rP (xb gU) [some b.d,some s.d,some (.int n),none] []=_
 rw[Ey key]
 rfl
def jS:R->Option Out:=
 (nC (h8 bN (c4 (h8 ba (c4 (c5 0) (c4 (kI 0) c6))) c6)) (setAt 1))
def j_:R->Option Out:=
 (nC (h8 bw (c4 (c5 1) (c4 (h8 ba (c4 (c5 0) (c4 (kI 1) c6))) c6))) (setAt 2))
def j3:R->Option Out:=
 (nC (h7 nM (h7 nM (h7 wY (nF (c4 (nF (c4 (kS "none") (c4 (kI 0) c6))) c6)) (kI 3)) (nF (c4 (nF (c4 (kS "alarm") (c4 (kI 0) c6))) c6))) (h7 wY (nF (c4 (nF (c4 (kS "none") (c4 (kI 0) c6))) c6)) (kI 2))) (setAt 3))
def jX:R->Option Out:=
 (nC (nF (c4 (h7 i8 (c5 1) (kI 0)) (c4 (kI 0) (c4 (nF (c4 (nF (c4 (kS "time") (c4 (fun _=>some (.bl true)) (c4 (c5 3) c6)))) c6)) c6)))) (setAt 4))
def jY:R->Option Out:=
 (nC (h7 nM (h7 nM (nF (c4 (kI 0) (c4 (h7 pN (kI 86400) (h7 i8 (c5 1) (kI 0))) (c4 (nF (c4 (kI 0) (c4 (kI 0) (c4 (fun _=>some (.bl false)) c6)))) c6)))) (BQ (c5 2) (aP (kI 3)) (aP (kI 4)))) (nF (c4 (nF (c4 (kI 0) (c4 (kI 0) (c4 (kI 0) (c4 (fun _=>some (.bl false)) c6))))) (c4 (kI 0) (c4 (nF (c4 (kS "a") (c4 (kI 0) c6))) (c4 (kI 0) c6)))))) (setAt 5))
def jR:R->Option Out:=
  (ri (yS (m7 sW (h8 bh (c4 (c5 4) (c4 (c5 5) c6))) (h7 nM (kI 86400) (h7 i8 (c5 1) (kI 0)))) (m7 pB (h8 bh (c4 (c5 4) (c4 (h7 nM (BQ (c5 5) D0 (aP (kI 6))) (nF (c4 (fun _=>some .non) (c4 (kI 0) c6)))) c6))) (fun _=>some .non)))
  (nE (fun _=>some (.bl false)))
  nV)
def jT:R->Option Out:=
 (nC (h8 bh (c4 (c5 1) (c4 (c5 2) c6))) (setAt 6))
def kc:R->Option Out:=
 (nC (h7 nM (kI 1) (h7 nJ (h8 ba (c4 (c5 0) (c4 (kI 2) c6))) (kI 8640000))) (setAt 7))
def j8:R->Option Out:=
 (nC (h8 cx (c4 (c5 1) (c4 (c5 2) (c4 (c5 7) c6)))) (setAt 8))
def iR:R->Option Out:=
  (ri (yS (m7 sW (h8 zO (c4 (c5 8) c6)) (h8 Df (c4 (c5 8) c6))) (m7 sW (wH 1 (pV (c5 8)) (setAt 0) (uv (Ab w_ w_ (kI 1) (c5 0) (c5 8))) (c5 0)) (zq c6)))
  (nE (fun _=>some (.bl false)))
  nV)
def iN:R->Option Out:=
  (ri (m7 tj (c5 6) (fun _=>some .non))
  (nE (ui (m7 wg (c5 8) (nF c6))))
  nV)
def iB:R->Option Out:=
  (ri (yS (m7 sW (BQ (c5 8) D0 (aP (kI 1))) (h7 z9 (nF (c4 (c5 6) c6)) (h8 CH (c4 (ui (m7 w_ (c5 6) (c5 7))) c6)))) (m7 Dp (c5 6) (kI 1)))
  (nE (fun _=>some (.bl false)))
  nV)
def iL:R->Option Out:=
  (ri (m7 Dl (h7 i8 (h8 dH (c4 (c5 1) (c4 (c5 2) (c4 (nF (c4 (kS "ticks") (c4 (c5 6) c6))) c6)))) (kI 5)) (kI 10))
  (nE (fun _=>some (.bl false)))
  nV)
def iQ:R->Option Out:=
  (ri (m7 z6 (c5 6) (kI 1))
  (l9 (ri (yS (m7 sW (h8 cx (c4 (c5 1) (c4 (c5 2) (c4 (h7 pN (c5 6) (kI 1)) c6)))) (nF c6)) (tH (m7 u5 (h7 i8 (h8 dH (c4 (c5 1) (c4 (c5 2) (c4 (nF (c4 (kS "ticks") (c4 (h7 pN (c5 6) (kI 1)) c6))) c6)))) (kI 5)) (kI 10)) (m7 Dp (h7 i8 (c5 2) (kI 5)) (kI 10))))
  (nE (fun _=>some (.bl false)))
  nV)
  (ri (m7 sW (h8 bh (c4 (c5 1) (c4 (h8 dH (c4 (c5 1) (c4 (c5 2) (c4 (nF (c4 (kS "ticks") (c4 (h7 pN (c5 6) (kI 1)) c6))) c6)))) c6))) (kI 1))
  (nE (fun _=>some (.bl false)))
  nV))
  nV)
def iP:R->Option Out:=
 (nC (h7 nM (kI 1) (h7 nJ (h8 ba (c4 (c5 0) (c4 (kI 3) c6))) (c5 7))) (setAt 9))
def jd:R->Option Out:=
  (ri (m7 Dp (c5 9) (c5 7))
  (l9 (nC (h8 cx (c4 (c5 1) (c4 (h8 dH (c4 (c5 1) (c4 (c5 2) (c4 (nF (c4 (kS "ticks") (c4 (c5 9) c6))) c6)))) (c4 (h7 pN (c5 7) (c5 9)) c6)))) (setAt 10))
  (ri (m7 sW (h7 nM (h8 cx (c4 (c5 1) (c4 (c5 2) (c4 (c5 9) c6)))) (h8 uC (c4 (wH 1 (pV (c5 10)) (setAt 0) uU (h7 nM (c5 10) (c5 0))) c6))) (c5 8))
  (nE (fun _=>some (.bl false)))
  nV))
  nV)
def iz:R->Option Out:=
  (ri (tH (m7 tj (h7 i8 (c5 2) (kI 6)) (fun _=>some .non)) (tH (rE (h7 i8 (h7 i8 (c5 2) (kI 2)) (kI 2))) (uv (rE (h7 i8 (h7 i8 (c5 2) (kI 4)) (kI 3))))))
  (nE (ur (ui (m7 wg (c5 8) (Bs (c5 6) (h7 nM (c5 7) (kI 1)) (kI 86400)))) (ui (m7 w_ (c5 6) (kI 86400)))))
  nV)
def iK:R->Option Out:=
 (nE (fun _=>some (.bl true)))
def nq:R->Option Out:=
 (l9 jS (l9 j_ (l9 j3 (l9 jX (l9 jY (l9 jR (l9 jT (l9 kc (l9 j8 (l9 iR (l9 iN (l9 iB (l9 iL (l9 iQ (l9 iP (l9 jd (l9 iz iK)))))))))))))))))
def ja:LD->OD:=via 1 11 nq
theorem dX:∀(l l':List Int),l.Pairwise (·<·)->l'.Pairwise (·<·)->(∀x,x∈l↔x∈l')->l=l'
 | [],[],_,_,_=>rfl
 | [],y::r,_,_,h=>absurd ((h y).mpr (.head _)) (by simp)
 | x::l,[],_,_,h=>absurd ((h x).mp (.head _)) (by simp)
 | x::l,y::r,h1,h2,h=>by
  have a1:∀z∈l,x<z:=fun z hz=>List.rel_of_pairwise_cons h1 hz
  have a2:∀z∈r,y<z:=fun z hz=>List.rel_of_pairwise_cons h2 hz
  have e:x=y:=by
   rcases List.mem_cons.mp ((h x).mp (.head _)) with q | q
   ·exact q
   ·rcases List.mem_cons.mp ((h y).mpr (.head _)) with q' | q'
    ·exact q'.symm
    ·have:=a1 _ q';have:=a2 _ q;omega
  subst e
  rw[dX l r h1.of_cons h2.of_cons fun z=>⟨fun hz=>?_,fun hz=>?_⟩]
  ·rcases List.mem_cons.mp ((h z).mp (.tail _ hz)) with q | q
   ·have:=a1 z hz;omega
   ·exact q
  ·rcases List.mem_cons.mp ((h z).mpr (.tail _ hz)) with q | q
   ·have:=a2 z hz;omega
   ·exact q
theorem kX(σ:List Int)(k x:Int):x∈oV σ k↔x∈σ\/x=k:=by
 unfold oV
 split
 ·rename_i h
  obtain⟨y,hy,e⟩:=List.any_eq_true.mp h
  have:y=k:=by simpa using e
  subst this
  exact⟨.inl,fun q=>q.elim id fun q=>q ▸ hy⟩
 ·simp
theorem jc(x:Int):∀(l σ:List Int),x∈l.foldl oV σ↔x∈σ\/x∈l
 | [],σ=>by simp
 | k::l,σ=>by rw[List.foldl_cons,jc x l,kX];simp[or_assoc]
theorem xC{σ:List Int}(k:Int)(h:σ.Nodup):(oV σ k).Nodup:=by
 unfold oV
 split
 ·exact h
 ·rename_i q
  rw[List.nodup_append]
  refine⟨h,by simp,fun a ha b hb e=>q (List.any_eq_true.mpr ⟨a,ha,?_⟩)⟩
  rw[e,List.mem_singleton.mp hb];simp
theorem uA:∀(l σ:List Int),σ.Nodup->(l.foldl oV σ).Nodup
 | [],_,h=>h
 | k::l,σ,h=>uA l _ (xC k h)
def sd(l:List Int):List Int:=pC (rh l)
theorem k_(l:List Int)(x:Int):x∈sd l↔x∈l:=by
 unfold sd rh
 rw[(oB _).mem_iff,jc];simp
theorem wJ(l:List Int):(sd l).Pairwise (·<·):=by
 have h1:(sd l).Pairwise (·<=·):=rG _
 have h2:(sd l).Nodup:=(oB _).nodup_iff.mpr (uA l [] List.nodup_nil)
 exact(h1.and h2).imp fun ⟨a,b⟩=>by omega
theorem j7(n a x:Int):x∈uF n (some a)↔a<=x/\x<=n/\(x - a)%86400=0:=by
 show x∈(List.range (ou a (n+1) 86400)).map _↔_
 rw[List.mem_map]
 constructor
 ·rintro⟨k,hk,rfl⟩
  rw[List.mem_range] at hk
  unfold ou at hk
  split at hk<;>omega
 ·rintro⟨h1,h2,h3⟩
  refine⟨((x - a) / 86400).toNat,?_,by omega⟩
  rw[List.mem_range]
  unfold ou
  split<;>omega
def Rg(s:WS)(x:Int):Prop:=(∃a,k7 s=some a/\a<=x/\(x - a)%86400=0)\/i7 s=some x
theorem aX(s:WS)(n x:Int):x∈qk s n↔Rg s x/\x<=n:=by
 show x∈sd _↔_
 rw[k_,List.mem_append]
 unfold Rg
 have h2:x∈xp n (i7 s)↔i7 s=some x/\x<=n:=by
  cases hc:i7 s with
  | none=>simp[xp]
  | some c =>
   unfold xp
   dsimp only
   by_cases q:c<=n
   ·rw[if_pos q];simp;constructor
    ·rintro rfl;exact⟨rfl,q⟩
    ·rintro⟨h,_⟩;exact h.symm
   ·rw[if_neg q];simp;rintro rfl;omega
 rw[h2]
 cases ha:k7 s with
 | none=>simp[uF]
 | some a =>
  rw[j7]
  constructor
  ·rintro(⟨q1,q2,q3⟩ | ⟨q1,q2⟩)
   ·exact⟨.inl ⟨a,rfl,q1,q3⟩,q2⟩
   ·exact⟨.inr q1,q2⟩
  ·rintro⟨⟨a',e,q1,q3⟩ | q,q2⟩
   ·cases e;exact .inl ⟨q1,q2,q3⟩
   ·exact .inr ⟨q,q2⟩
theorem z4{b:Bk}{s:WS}(w:s.Wk b){c:Int}(h:i7 s=some c):1<=c:=by
 unfold i7 at h
 split at h
 ·rename_i q;cases h;have:=w.cr q;omega
 ·cases h
theorem tJ{b:Bk}{s:WS}(w:s.Wk b){x:Int}(h:Rg s x):1<=x:=by
 rcases h with ⟨a,e,q1,q2⟩ | h
 ·have:=(qH e).1;omega
 ·exact z4 w h
theorem cH{b:Bk}{s:WS}(ok:b.Ok)(w:s.Wk b)(n:Int):(nH b s n).Pairwise (·<·):=by
 unfold nH
 cases h:k6 b s with
 | none=>exact wJ _
 | some t =>
  have ht:=oo h
  dsimp only
  split
  ·exact wJ _
  ·have wb:(behind b s t).Wk b:=(w.cnt (n:=t) (by omega)).trn ok
   rw[List.pairwise_append]
   refine⟨wJ _,List.pairwise_map.mpr ((wJ _).imp fun h=>by omega),fun x hx y hy=>?_⟩
   rw[aX] at hx
   obtain⟨z,hz,rfl⟩:=List.mem_map.mp hy
   rw[aX] at hz
   have:=tJ wb hz.1
   omega
theorem cq{s:WS}(h:om s=none)(x:Int):¬ Rg s x:=by
 unfold om at h
 rintro(⟨a,e,_,_⟩ | e)<;>rw[e] at h
 ·cases hc:i7 s<;>rw[hc] at h<;>cases h
 ·cases ha:k7 s<;>rw[ha] at h<;>cases h
theorem cP{s:WS}{f:Int}(h:om s=some f):Rg s f/\∀x,Rg s x->f<=x:=by
 unfold om at h
 unfold Rg
 cases ha:k7 s with
 | none =>
  rw[ha] at h
  have hc:i7 s=some f:=h
  refine⟨.inr hc,fun x hx=>?_⟩
  rcases hx with ⟨a,e,_,_⟩ | e
  ·cases e
  ·rw[hc] at e;cases e;exact Int.le_refl _
 | some a =>
  cases hc:i7 s with
  | none =>
   rw[ha,hc] at h
   cases h
   refine⟨.inl ⟨f,rfl,Int.le_refl _,by omega⟩,fun x hx=>?_⟩
   rcases hx with ⟨a',e,q,_⟩ | e
   ·cases e;exact q
   ·cases e
  | some c =>
   rw[ha,hc] at h
   dsimp only at h
   cases h
   refine⟨?_,fun x hx=>?_⟩
   ·split
    ·exact .inr rfl
    ·exact .inl ⟨a,rfl,Int.le_refl _,by omega⟩
   ·rcases hx with ⟨a',e,q,_⟩ | e
    ·cases e;split<;>omega
    ·cases e;split<;>omega
def RB(b:Bk)(s:WS)(x:Int):Prop:=match k6 b s with
 | none=>Rg s x
 | some t=>(x<=t/\Rg s x)\/(t<x/\Rg (behind b s t) (x - t))
theorem rV{b:Bk}{s:WS}{t:Int}(ok:b.Ok)(w:s.Wk b)(ht:1<=t):(behind b s t).Wk b:=(w.cnt (n:=t) (by omega)).trn ok
theorem rF{b:Bk}{s:WS}{x:Int}(w:s.Wk b)(h:RB b s x):1<=x:=by
 unfold RB at h
 cases hT:k6 b s with
 | none=>rw[hT] at h;exact tJ w h
 | some t =>
  rw[hT] at h
  have ht:=oo hT
  rcases h with ⟨_,h⟩ | ⟨h,_⟩
  ·exact tJ w h
  ·omega
theorem aU{b:Bk}{s:WS}(ok:b.Ok)(w:s.Wk b)(n x:Int):x∈nH b s n↔RB b s x/\x<=n:=by
 unfold nH RB
 cases h:k6 b s with
 | none=>exact aX s n x
 | some t =>
  have ht:=oo h
  dsimp only
  have wb:=rV ok w ht
  by_cases hn:n<t
  ·rw[if_pos hn,aX]
   constructor
   ·rintro⟨q1,q2⟩;exact⟨.inl ⟨by omega,q1⟩,q2⟩
   ·rintro⟨⟨_,q1⟩ | ⟨q,_⟩,q2⟩
    ·exact⟨q1,q2⟩
    ·omega
  ·rw[if_neg hn,List.mem_append,List.mem_map,aX]
   constructor
   ·rintro(⟨q1,q2⟩ | ⟨y,q,rfl⟩)
    ·exact⟨.inl ⟨q2,q1⟩,by omega⟩
    ·rw[aX] at q
     have:=tJ wb q.1
     refine⟨.inr ⟨by omega,?_⟩,by omega⟩
     rw[show t+y - t=y by omega];exact q.1
   ·rintro⟨⟨q1,q2⟩ | ⟨q1,q2⟩,q3⟩
    ·exact .inl ⟨q2,q1⟩
    ·refine .inr ⟨x - t,?_,by omega⟩
     rw[aX];exact⟨q2,by omega⟩
theorem gN{b:Bk}{s:WS}(h:oi b s=none)(x:Int):¬ RB b s x:=by
 unfold oi at h
 unfold RB
 cases hT:k6 b s with
 | none=>rw[hT] at h;exact cq h x
 | some t =>
  rw[hT] at h
  dsimp only at h ⊢
  cases hf:om s with
  | none =>
   rw[hf] at h
   have hb:om (behind b s t)=none:=by simpa [qQ] using h
   rintro(⟨_,q⟩ | ⟨_,q⟩)
   ·exact cq hf _ q
   ·exact cq hb _ q
  | some f =>
   rw[hf] at h
   dsimp only at h
   split at h
   ·cases h
   ·rename_i hle
    have hb:om (behind b s t)=none:=by simpa [qQ] using h
    rintro(⟨q0,q⟩ | ⟨_,q⟩)
    ·have:=(cP hf).2 _ q;omega
    ·exact cq hb _ q
theorem bB{b:Bk}{s:WS}{f:Int}(ok:b.Ok)(w:s.Wk b)(h:oi b s=some f):RB b s f/\∀x,RB b s x->f<=x:=by
 unfold oi at h
 unfold RB
 cases hT:k6 b s with
 | none=>rw[hT] at h;exact cP h
 | some t =>
  have ht:=oo hT
  have wb:=rV ok w ht
  rw[hT] at h
  dsimp only at h ⊢
  have late:(∀x,Rg s x->t<x)->qQ b s t=some f->((f<=t/\Rg s f)\/(t<f/\Rg (behind b s t) (f - t)))/\∀x,((x<=t/\Rg s x)\/(t<x/\Rg (behind b s t) (x - t)))->f<=x:=fun hx hl=>by
   obtain⟨g,hg,e⟩:=Option.map_eq_some_iff.mp hl
   subst e
   obtain⟨q1,q2⟩:=cP hg
   have:=tJ wb q1
   refine⟨.inr ⟨by omega,by rw[show t+g - t=g by omega];exact q1⟩,fun x hh=>?_⟩
   rcases hh with ⟨z,q⟩ | ⟨z,q⟩
   ·have:=hx x q;omega
   ·have:=q2 _ q;omega
  cases hf:om s with
  | none =>
   rw[hf] at h
   exact late (fun x q=>absurd q (cq hf x)) h
  | some g =>
   rw[hf] at h
   dsimp only at h
   obtain⟨q1,q2⟩:=cP hf
   split at h
   ·rename_i hle
    cases h
    refine⟨.inl ⟨hle,q1⟩,fun x hh=>?_⟩
    rcases hh with ⟨_,q⟩ | ⟨z,_⟩
    ·exact q2 x q
    ·omega
   ·exact late (fun x q=>by have:=q2 x q;omega) h
theorem Bo{s:WS}{x:Int}(h:Rg s x):oK s x=10:=by
 have hl:oX s x=some x:=by
  unfold oX
  rcases h with ⟨a,e,q1,q2⟩ | e
  ·rw[e]
   cases hc:i7 s with
   | none =>
    dsimp only
    rw[if_pos q1];congr 1;omega
   | some c =>
    dsimp only
    rw[if_pos q1]
    split
    ·congr 1;unfold mx;split<;>omega
    ·congr 1;omega
  ·rw[e]
   cases ha:k7 s with
   | none=>dsimp only;rw[if_pos (Int.le_refl _)]
   | some a =>
    dsimp only
    rw[if_pos (Int.le_refl _)]
    split
    ·have:=Int.emod_nonneg (x - a) (show(86400:Int)≠0 by decide)
     congr 1;unfold mx;split<;>omega
    ·exact if_pos (Int.le_refl _)
 unfold oK
 rw[hl]
 show mx 0 (10 - (x - x))=10
 unfold mx;split<;>omega
theorem zL{b:Bk}{s:WS}{x:Int}(w:s.Wk b)(hx:1<=x)(h:¬ Rg s x):oK s x<=9:=by
 have r0:=w.ring0
 have r1:=w.ring1
 have hC:∀c,i7 s=some c->c≠x:=fun c e z=>h (.inr (by rw[e,z]))
 have hA:∀a,k7 s=some a->a<=x->(x - a)%86400≠0:=fun a e q z=>h (.inl ⟨a,e,q,z⟩)
 unfold oK oX
 cases ha:k7 s with
 | none =>
  cases hc:i7 s with
  | none=>dsimp only;unfold mx;split<;>omega
  | some c =>
   have:=hC c hc
   dsimp only
   split<;>(rename_i q;split at q<;>first | (cases q;unfold mx;split<;>omega) | (cases q) )
 | some a =>
  have h1:=hA a ha
  have h2:=Int.emod_nonneg (x - a) (show(86400:Int)≠0 by decide)
  cases hc:i7 s with
  | none =>
   dsimp only
   by_cases q:a<=x
   ·rw[if_pos q];have:=h1 q;dsimp only;unfold mx;split<;>omega
   ·rw[if_neg q];dsimp only;unfold mx;split<;>omega
  | some c =>
   have:=hC c hc
   dsimp only
   by_cases q:a<=x
   ·rw[if_pos q];have:=h1 q
    by_cases q':c<=x
    ·rw[if_pos q'];dsimp only;unfold mx;split<;>split<;>omega
    ·rw[if_neg q'];dsimp only;unfold mx;split<;>omega
   ·rw[if_neg q]
    by_cases q':c<=x
    ·rw[if_pos q'];dsimp only;unfold mx;split<;>omega
    ·rw[if_neg q'];dsimp only;unfold mx;split<;>omega
theorem wO{b:Bk}{s:WS}{t:Int}:(behind b s t).ring=oK s t:=by
 unfold behind turned
 split
 ·rfl
 ·show(deed _ _).ring=_
  rw[yQ];rfl
theorem um{b:Bk}{s:WS}{x:Int}(ok:b.Ok)(w:s.Wk b)(hx:1<=x):RB b s x↔(ticked b s x).ring=10:=by
 have dich:∀{u:WS} {y:Int},u.Wk b->1<=y->(Rg u y↔oK u y=10):=fun {u y} wu hy =>
  ⟨fun h=>Bo h,fun h=>Classical.byContradiction fun z=>by have:=zL wu hy z;omega⟩
 unfold RB ticked
 cases hT:k6 b s with
 | none=>exact dich w hx
 | some t =>
  have ht:=oo hT
  have wb:=rV ok w ht
  dsimp only
  by_cases q:x<t
  ·rw[if_pos q]
   constructor
   ·rintro(⟨_,h⟩ | ⟨h,_⟩)
    ·exact(dich w hx).mp h
    ·omega
   ·intro h;exact .inl ⟨by omega,(dich w hx).mpr h⟩
  ·rw[if_neg q]
   by_cases q':x=t
   ·subst q'
    rw[Int.sub_self,vZ wb,wO]
    constructor
    ·rintro(⟨_,h⟩ | ⟨h,_⟩)
     ·exact(dich w hx).mp h
     ·omega
    ·intro h;exact .inl ⟨Int.le_refl _,(dich w hx).mpr h⟩
   ·constructor
    ·rintro(⟨h,_⟩ | ⟨_,h⟩)
     ·omega
     ·exact(dich wb (by omega)).mp h
    ·intro h;exact .inr ⟨by omega,(dich wb (by omega)).mpr h⟩
theorem uQ{b:Bk}{s:WS}{n y:Int}(ok:b.Ok)(w:s.Ok b)(hn:0<=n)(hy:1<=y):RB b (ticked b s n) y↔RB b s (n+y):=by
 rw[um ok (tm ok w hn).toWk hy,um ok w.toWk (by omega),xQ ok w hn (by omega)]
theorem DN{l:List Int}(h:l.Pairwise (·<·)):sd l=l:=dX _ _ (wJ l) h fun x=>k_ l x
theorem AS{l:List Int}(h:l.length<=120):Df [.tup (l.map D.int)]=some (.lst ((sd l).map D.int)):=by
 show(intsOf _).bind _=_
 rw[sJ]
 exact if_pos h
theorem cS{s:WS}{n:Int}(h0:0<=n):((qk s n).length:Int)<=n / 86400+2:=by
 unfold qk
 rw[(oB _).length_eq]
 have h:=qI (uF n (k7 s)++xp n (i7 s)) []
 rw[List.length_nil,List.length_append] at h
 have hlA:((uF n (k7 s)).length:Int)<=n / 86400+1:=by
  cases h:k7 s with
  | none=>show(0:Int)<=_;omega
  | some a =>
   have:=(qH h).1
   unfold uF;rw[List.length_map,List.length_range]
   unfold ou
   split<;>omega
 have hlC:(xp n (i7 s)).length<=1:=by
  unfold xp
  split
  ·split<;>simp
  ·decide
 unfold rh
 omega
theorem dZ{b:Bk}{s:WS}{n:Int}(h0:0<=n)(hn:n<8700000):(nH b s n).length<=120:=by
 unfold nH
 cases h:k6 b s with
 | none=>have:=cS (s:=s) h0;dsimp only;omega
 | some t =>
  have ht:=oo h
  dsimp only
  split
  ·have:=cS (s:=s) h0;omega
  ·have h1:=cS (s:=s) (n:=t) (by omega)
   have h2:=cS (s:=behind b s t) (n:=n - t) (by omega)
   rw[List.length_append,List.length_map]
   omega
theorem iJ{o0 o1 o2 o3 o4 o5 o6 o8 o9 o10:OD}{n:Int}:∀l:List Int,(∀x∈l,1<=x/\x<=n)->qv (setAt 0) (uv (Ab w_ w_ (kI 1) (c5 0) (c5 8))) (c5 0) (l.map D.int) [none,o0,o1,o2,o3,o4,o5,o6,some (.int n),o8,o9,o10]=some []
 | [],_=>rfl
 | i::l,h=>by
  have ih:=iJ (o0:=o0) (o1:=o1) (o2:=o2) (o3:=o3) (o4:=o4) (o5:=o5) (o6:=o6) (o8:=o8) (o9:=o9) (o10:=o10) (n:=n) l fun x hx=>h x (.tail _ hx)
  obtain⟨h1,h2⟩:=h i (.head _)
  simp[qv,ih,h1,h2]
theorem j6{o0 o1 o2 o3 o4 o5 o6 o7 o8 o10:OD}{p:Int}:∀l:List Int,qv (setAt 0) uU (h7 nM (c5 10) (c5 0)) (l.map D.int) [none,o0,o1,o2,o3,o4,o5,o6,o7,o8,some (.int p),o10]=some ((l.map (p+·)).map D.int)
 | []=>rfl
 | i::l=>by
  have ih:=j6 (o0:=o0) (o1:=o1) (o2:=o2) (o3:=o3) (o4:=o4) (o5:=o5) (o6:=o6) (o7:=o7) (o8:=o8) (o10:=o10) (p:=p) l
  simp[qv,ih]
def rq:List (sg×Nat):=[(.none,0),(.none,0),(.none,0),(.alarm,0),(.none,0),(.none,0)]
def qF(b:Bk):Bk:=⟨b.hold,0,[⟨.time,true,rq⟩]⟩
def sk(b:Bk)(s:WS):WS:=⟨0,86400 - b.hold,0,0,false,s.lm,s.lr,s.lk,0,0,0,false,0,some (.a,some 0),0⟩
def Av(b:Bk)(s:WS):WS:=⟨0,86400 - b.hold,0,0,false,s.lm,s.lr,s.lk,0,0,0,false,0,none,0⟩
theorem yC{b:Bk}(ok:b.Ok):(qF b).Ok where
 hold1:=ok.hold1
 hold9:=ok.hold9
 back0:=Int.le_refl _
 back60:=by show(0:Int)<=60;decide
 some1:=Nat.le_refl _
 some8:=by show 1<=8;decide
 all:=fun m hm=>by
  have:m=⟨.time,true,rq⟩:=List.mem_singleton.mp hm
  subst this
  refine⟨rfl,fun r hr=>?_⟩
  show r.2<1
  unfold rq at hr
  simp at hr
  rcases hr with rfl | rfl | rfl | rfl | rfl | rfl<;>decide
theorem yE{b:Bk}{s:WS}(ok:b.Ok)(w:s.Wk b):(sk b s).Wk (qF b):=by
 have h1:=ok.hold1
 have h9:=ok.hold9
 exact {bk:=Int.le_refl _,mode:=Nat.zero_lt_one,clock0:=by show 0<=86400 - b.hold;omega,clock1:=by show 86400 - b.hold<86400;omega,ah0:=Int.le_refl _,ah1:=by show(0:Int)<24;decide,am0:=Int.le_refl _,am1:=by show(0:Int)<60;decide,lm0:=w.lm0,lk:=w.lk,cm0:=Int.le_refl _,cm1:=by show(0:Int)<60;decide,cs0:=Int.le_refl _,cs1:=by show(0:Int)<60;decide,cl0:=Int.le_refl _,cl1:=by show(0:Int)<3600;decide,cr:=fun h=>(by cases h),ring0:=Int.le_refl _,ring1:=by show(0:Int)<=10;decide,idle0:=Int.le_refl _,idle1:=fun h=>(by cases h),idle2:=fun _=>rfl}
theorem Ae{b:Bk}{s:WS}(ok:b.Ok)(w:s.Wk b):(Av b s).Wk (qF b):={yE ok w with}
theorem y4{b:Bk}{s:WS}(ok:b.Ok):oi (qF b) (sk b s)=some (86400+b.hold):=by
 have h1:=ok.hold1
 have hT:k6 (qF b) (sk b s)=some b.hold:=by
  show some (mx 1 (b.hold - 0))=_
  unfold mx;congr 1;split<;>omega
 have hA:k7 (behind (qF b) (sk b s) b.hold)=some 86400:=by
  show some ((3600*0+60*0 - (86400 - b.hold+b.hold)%86400 - 1)%86400+1)=_
  congr 1;omega
 have hC:i7 (behind (qF b) (sk b s) b.hold)=none:=rfl
 have hF:om (behind (qF b) (sk b s) b.hold)=some 86400:=by unfold om;rw[hA,hC]
 unfold oi
 rw[hT]
 show qQ (qF b) (sk b s) b.hold=_
 unfold qQ
 rw[hF]
 show some (b.hold+86400)=_
 congr 1;omega
theorem yK{b:Bk}{s:WS}:oi (qF b) (Av b s)=none:=rfl
theorem t9{b:Bk}{s:WS}{t:Int}(hh:s.held=none):behind b s t={counted b s t with mode:=0}:=by
 refine ue ?_
 show oa s.held t=none
 rw[hh];rfl
theorem vQ{b:Bk}{s:WS}{t:Int}(hh:s.held=none):k7 (behind b s t)=if s.aon then some ((s.sec - (s.clock+t)%86400 - 1)%86400+1) else none:=by
 rw[t9 hh];rfl
theorem vX{b:Bk}{s:WS}{t:Int}(hh:s.held=none)(ht:0<=t):i7 (behind b s t)=if s.cr=true/\t<s.cl then some (s.cl - t) else none:=by
 rw[t9 hh]
 have e:i7 {counted b s t with mode:=0}=if runsOn s t then some (n_ s t) else none:=rfl
 rw[e,p7 s ht]
 by_cases h:t<s.cl
 ·rw[rS s h,decide_eq_true h]
  cases s.cr<;>simp[h]
 ·rw[decide_eq_false h]
  simp[h]
theorem vz{b:Bk}{s:WS}{t y:Int}(hh:s.held=none)(ht:1<=t)(hy:1<=y):Rg (behind b s t) y↔Rg s (t+y):=by
 unfold Rg
 rw[vQ hh,vX hh (by omega)]
 have a0:k7 s=if s.aon then some ((s.sec - s.clock - 1)%86400+1) else none:=rfl
 have c0:i7 s=if s.cr then some s.cl else none:=rfl
 rw[a0,c0]
 have hc:(if s.cr=true/\t<s.cl then some (s.cl - t) else none)=some y↔(if s.cr=true then some s.cl else none)=some (t+y):=by
  cases s.cr
  ·simp
  ·by_cases q:t<s.cl
   ·simp[q];omega
   ·simp[q];omega
 rw[hc]
 have ha:(∃a,(if s.aon=true then some ((s.sec - (s.clock+t)%86400 - 1)%86400+1) else none)=some a/\a<=y/\(y - a)%86400=0)↔(∃a,(if s.aon=true then some ((s.sec - s.clock - 1)%86400+1) else none)=some a/\a<=t+y/\(t+y - a)%86400=0):=by
  cases s.aon
  ·simp
  ·simp only[if_true]
   constructor
   ·rintro⟨a,e,q1,q2⟩
    cases e
    exact⟨_,rfl,by omega,by omega⟩
   ·rintro⟨a,e,q1,q2⟩
    cases e
    exact⟨_,rfl,by omega,by omega⟩
 rw[ha]
theorem gW{b:Bk}{s:WS}(ok:b.Ok)(w:s.Wk b)(hh:s.held=none)(n x:Int):x∈nH b s n↔Rg s x/\x<=n:=by
 unfold nH
 cases h:k6 b s with
 | none=>exact aX s n x
 | some t =>
  have ht:=oo h
  dsimp only
  by_cases hn:n<t
  ·rw[if_pos hn];exact aX s n x
  ·rw[if_neg hn,List.mem_append,List.mem_map,aX]
   have wb:(behind b s t).Wk b:=(w.cnt (n:=t) (by omega)).trn ok
   constructor
   ·rintro(⟨q1,q2⟩ | ⟨y,q,rfl⟩)
    ·exact⟨q1,by omega⟩
    ·rw[aX] at q
     exact⟨(vz hh ht (tJ wb q.1)).mp q.1,by omega⟩
   ·rintro⟨q1,q2⟩
    by_cases q:x<=t
    ·exact .inl ⟨q1,q⟩
    ·refine .inr ⟨x - t,?_,by omega⟩
     rw[aX]
     refine⟨(vz hh ht (by omega)).mpr ?_,by omega⟩
     have e:t+(x - t)=x:=by omega
     rw[e];exact q1
theorem Ao(l:List Int):wg (.tup (l.map D.int)) (.tup (l.map D.int))=some true:=vA (by simp[rk,sL]) (by simp[sH,sC])
theorem Bb{b:Bk}{s:WS}{t:Int}(ok:b.Ok)(w:s.Ok b)(h:k6 b s=some t):t<=60:=by
 have:=ok.hold9
 have:=ok.back60
 have:=w.idle0
 unfold k6 at h
 split at h
 ·split at h
  ·cases h;unfold pR mx;split<;>omega
  ·cases h
 ·cases h
 ·rename_i x k hk
  have:=w.held _ _ hk
  cases h;unfold mx;split<;>omega
theorem iI{b:Bk}{s:WS}{f:Int}(w:s.Wk b)(h:om s=some f):f<=86400:=by
 have hc:∀c,i7 s=some c->c<=86400:=fun c e=>by
  have:=w.cl1
  unfold i7 at e
  split at e
  ·cases e;omega
  ·cases e
 unfold om at h
 cases ha:k7 s with
 | none=>rw[ha] at h;exact hc f h
 | some a =>
  have:=(qH ha).2
  cases hk:i7 s with
  | none=>rw[ha,hk] at h;cases h;exact this
  | some c =>
   have h2:=hc c hk
   rw[ha,hk] at h
   dsimp only at h
   cases h;split<;>omega
theorem mh{b:Bk}{s:WS}{f:Int}(ok:b.Ok)(w:s.Ok b)(h:oi b s=some f):f<=86460:=by
 unfold oi at h
 cases hT:k6 b s with
 | none=>rw[hT] at h;have:=iI w.toWk h;omega
 | some t =>
  have ht:=Bb ok w hT
  have wb:=rV ok w.toWk (oo hT)
  have late:qQ b s t=some f->f<=86460:=fun hl=>by
   obtain⟨g,hg,e⟩:=Option.map_eq_some_iff.mp hl
   have:=iI wb hg
   omega
  rw[hT] at h
  dsimp only at h
  cases hf:om s with
  | none=>rw[hf] at h;exact late h
  | some g =>
   rw[hf] at h
   dsimp only at h
   split at h
   ·cases h;omega
   ·exact late h
theorem yi{b:Bk}{s:WS}(ok:b.Ok)(w:s.Wk b)(hh:s.held=none)(x:Int):RB b s x↔Rg s x:=by
 have h1:=aU ok w x x
 have h2:=gW ok w hh x x
 constructor
 ·intro h;exact(h2.mp (h1.mpr ⟨h,Int.le_refl _⟩)).1
 ·intro h;exact(h1.mp (h2.mpr ⟨h,Int.le_refl _⟩)).1
theorem C6(n a:Int):(uF n (some a)).Pairwise (·<·):=by
 show((List.range _).map _).Pairwise _
 rw[List.pairwise_map]
 exact List.pairwise_lt_range.imp fun {i j} h=>by omega
theorem x6{b:Bk}{s:WS}{f n:Int}(ok:b.Ok)(w:s.Wk b)(hh:s.held=none)(ha:s.aon=true)(hc:s.cr=false)(hf:oi b s=some f):f<=86400/\nH b s n=uF n (some f):=by
 have eC:i7 s=none:=by unfold i7;rw[hc];rfl
 obtain⟨a,eA⟩:∃a,k7 s=some a:=by unfold k7;rw[ha];exact⟨_,rfl⟩
 obtain⟨q1,q2⟩:=bB ok w hf
 have hR:∀x,Rg s x↔a<=x/\(x - a)%86400=0:=fun x=>by
  unfold Rg
  rw[eA,eC]
  constructor
  ·rintro(⟨a',e,z⟩ | e)
   ·cases e;exact z
   ·cases e
  ·intro z;exact .inl ⟨a,rfl,z⟩
 have h1:=(hR f).mp ((yi ok w hh f).mp q1)
 have h2:=q2 a ((yi ok w hh a).mpr ((hR a).mpr ⟨Int.le_refl _,by omega⟩))
 have hfa:f=a:=by omega
 subst hfa
 refine⟨(qH eA).2,dX _ _ (cH ok w n) (C6 n f) fun x=>?_⟩
 rw[gW ok w hh,j7,hR]
 constructor
 ·rintro⟨⟨z1,z2⟩,z3⟩;exact⟨z1,z3,z2⟩
 ·rintro⟨z1,z3,z2⟩;exact⟨⟨z1,z2⟩,z3⟩
theorem eI{b:Bk}{s:WS}{n:Int}(ok:b.Ok)(w:s.Wk b)(h:∀x,RB b s x->n<x):nH b s n=[]:=by
 cases hl:nH b s n with
 | nil=>rfl
 | cons x l =>
  have:=(aU ok w n x).mp (by rw[hl];exact .head _)
  have:=h x this.1
  omega
theorem jK{b:Bk}{s:WS}{n f:Int}(ok:b.Ok)(w:s.Wk b)(h:oi b s=some f)(hn:f<=n):∃l,nH b s n=f::l:=by
 obtain⟨q1,q2⟩:=bB ok w h
 have hm:=(aU ok w n f).mpr ⟨q1,hn⟩
 have hp:=cH ok w n
 cases hl:nH b s n with
 | nil=>rw[hl] at hm;cases hm
 | cons x l =>
  rw[hl] at hm hp
  have hx:=(aU ok w n x).mp (by rw[hl];exact .head _)
  have:=q2 x hx.1
  rcases List.mem_cons.mp hm with e | e
  ·exact⟨l,by rw[e]⟩
  ·have:=List.rel_of_pairwise_cons hp e;omega
theorem iy{b:Bk}{s:WS}{n p:Int}(ok:b.Ok)(w:s.Ok b)(hp:1<=p)(hn:p<n):nH b s p++(nH b (ticked b s p) (n - p)).map (p+·)=nH b s n:=by
 have w2:=(tm ok w (n:=p) (by omega)).toWk
 refine dX _ _ ?_ (cH ok w.toWk n) fun x=>?_
 ·rw[List.pairwise_append]
  refine⟨cH ok w.toWk p,List.pairwise_map.mpr ((cH ok w2 _).imp fun h=>by omega),fun x hx y hy=>?_⟩
  obtain⟨z,hz,rfl⟩:=List.mem_map.mp hy
  have h1:=(aU ok w.toWk _ _).mp hx
  have h2:=(aU ok w2 _ _).mp hz
  have:=rF w2 h2.1
  omega
 ·rw[List.mem_append,List.mem_map,aU ok w.toWk,aU ok w.toWk]
  constructor
  ·rintro(⟨q1,q2⟩ | ⟨z,hz,rfl⟩)
   ·exact⟨q1,by omega⟩
   ·have h2:=(aU ok w2 _ _).mp hz
    exact⟨(uQ ok w (by omega) (rF w2 h2.1)).mp h2.1,by omega⟩
  ·rintro⟨q1,q2⟩
   by_cases q:x<=p
   ·exact .inl ⟨q1,q⟩
   ·refine .inr ⟨x - p,(aU ok w2 _ _).mpr ⟨(uQ ok w (by omega) (by omega)).mpr ?_,by omega⟩,by omega⟩
    rw[show p+(x - p)=x by omega];exact q1
theorem xX{b:Bk}{s:WS}{n:Int}(ok:b.Ok)(w:s.Ok b)(hn:1<=n)(h:¬ RB b s n):(ticked b s n).ring≠10:=fun e=>h ((um ok w.toWk hn).mpr e)
theorem lq{b:Bk}{s:WS}{f:Int}(ok:b.Ok)(w:s.Ok b)(h:oi b s=some f)(hf:1<f):oi b (ticked b s (f - 1))=some 1:=by
 obtain⟨q1,q2⟩:=bB ok w.toWk h
 have w2:=(tm ok w (n:=f - 1) (by omega)).toWk
 have h1:RB b (ticked b s (f - 1)) 1:=(uQ ok w (by omega) (by omega)).mpr (by rw[show f - 1+1=f by omega];exact q1)
 cases hx:oi b (ticked b s (f - 1)) with
 | none=>exact absurd h1 (gN hx 1)
 | some g =>
  obtain⟨z1,z2⟩:=bB ok w2 hx
  have:=z2 1 h1
  have:=rF w2 z1
  congr 1;omega
abbrev sR(Sc:D)(b:Bk)(s:WS)(o6 o7 o8 o9 o10:OD):R:=[some Sc,some b.d,some s.d,some (.tup (rq.map qR)),some (qF b).d,some (sk b s).d,o6,o7,o8,o9,o10]
theorem DU:wY (.tup [.tup [.str (oS "none"),.int 0]]) (.int 3)=some (.tup [qR (.none,0),qR (.none,0),qR (.none,0)]):=by
 show(if 1*3<=sizeLine/\(0:Int)<3/\(3:Int)<2 ^ 63 then _ else none)=_
 rw[if_pos ⟨by decide,by decide,by decide⟩];rfl
theorem DI:wY (.tup [.tup [.str (oS "none"),.int 0]]) (.int 2)=some (.tup [qR (.none,0),qR (.none,0)]):=by
 show(if 1*2<=sizeLine/\(0:Int)<2/\(2:Int)<2 ^ 63 then _ else none)=_
 rw[if_pos ⟨by decide,by decide,by decide⟩];rfl
theorem DR{Sc:D}{b:Bk}{s:WS}:j3 (xi 11 [Sc,b.d,s.d])=some (.nx (xi 11 [Sc,b.d,s.d,.tup (rq.map qR)])):=
 nD (k8 (k8 (k8 rfl rfl DU) (tupS (m8 (tupS rfl) rfl)) (qr (show 4<=8 by decide))) (k8 rfl rfl DI) (qr (show 6<=8 by decide))) rfl
theorem DF{Sc:D}{b:Bk}{s:WS}:jX (xi 11 [Sc,b.d,s.d,.tup (rq.map qR)])=some (.nx (xi 11 [Sc,b.d,s.d,.tup (rq.map qR),(qF b).d])):=
 nD (tupS (m8 (k8 rfl rfl (b0 b)) (m8 rfl (m8 (tupS (m8 (tupS (m8 rfl (m8 rfl (m8 rfl rfl)))) rfl)) rfl)))) rfl
theorem DP{Sc:D}{b:Bk}{s:WS}:jY (xi 11 [Sc,b.d,s.d,.tup (rq.map qR),(qF b).d])=some (.nx (sR Sc b s none none none none none)):=
 nD (d:=(sk b s).d) (k8 (k8 (tupS (m8 rfl (m8 (k8 rfl (k8 rfl rfl (b0 b)) rfl) (m8 rfl rfl)))) (v6 (x:=s.d) (d:=.tup [s.lapsD]) rfl rfl rfl rfl) (qr (show 4<=8 by decide))) (tupS (m8 rfl (m8 rfl (m8 rfl (m8 rfl rfl))))) (qr (show 8<=8 by decide))) rfl
theorem zV(i:Int):sW (.int i) (.int i)=some false:=tN (by simp[rk]) (by simp[sH])
theorem D1{Sc:D}{b:Bk}{s:WS}(ok:b.Ok)(w:s.Wk b):jR (sR Sc b s none none none none none)=some (.nx (sR Sc b s none none none none none)):=by
 have e1:=cz (yC ok) (yE ok w)
 rw[y4 ok] at e1
 have e2:=cz (yC ok) (Ae ok w)
 rw[yK] at e2
 have a2:nM (.tup [.int 0,.int (86400 - b.hold),.tup [.int 0,.int 0,.bl false],s.lapsD,.tup [.int 0,.int 0,.int 0,.bl false],.int 0]) (.tup [.non,.int 0])=some (Av b s).d:=qr (show 8<=8 by decide)
 refine rc (Ew (ox (i4 rfl e1) (k8 rfl (k8 rfl rfl (b0 b)) rfl) (zV _)) (ox (i4 (m8 rfl (m8 (k8 (v6 (x:=(sk b s).d) rfl rfl rfl rfl) (tupS (m8 rfl (m8 rfl rfl))) a2) rfl)) e2) rfl rfl))
theorem Ad(l:List Int):sW (.lst (l.map D.int)) (.lst (l.map D.int))=some false:=tN (by simp[rk,sL]) (by simp[sH,sC])
theorem tup_ne(l:List Int):sW (.tup (l.map D.int)) (.tup (l.map D.int))=some false:=tN (by simp[rk,sL]) (by simp[sH,sC])
abbrev vd(l:List Int):OD:=some (.tup (l.map D.int))
theorem Cu{Sc:D}{b:Bk}{s:WS}{n:Int}{o6:OD}(ok:b.Ok)(w:s.Wk b)(n0:0<=n)(n1:n<8700000) :
  iR (sR Sc b s o6 (some (.int n)) (vd (nH b s n)) none none)=some (.nx (sR Sc b s o6 (some (.int n)) (vd (nH b s n)) none none)):=by
 have hl:=dZ (b:=b) (s:=s) n0 n1
 have hp:=cH ok w n
 have hm:=fun x h=>(aU ok w n x).mp h
 generalize nH b s n=l at *
 have e1:=AS hl
 rw[DN hp] at e1
 have e2:wH 1 (pV (c5 8)) (setAt 0) (uv (Ab w_ w_ (kI 1) (c5 0) (c5 8))) (c5 0) (sR Sc b s o6 (some (.int n)) (vd l) none none)=some (.lst []):=by
  unfold wH
  have h:pV (c5 8) (sR Sc b s o6 (some (.int n)) (vd l) none none)=some (l.map D.int):=rfl
  rw[h,Option.bind_some,if_pos (by rw[List.length_map,PySem.sizeLine_eq];omega)]
  exact congrArg (Option.map D.lst) (iJ l fun x hx=>⟨rF w (hm x hx).1,(hm x hx).2⟩)
 exact rc (Ew (ox (i4 (F:=zO) rfl rfl) (i4 rfl e1) (Ad l)) (ox e2 rfl (Ad [])))
theorem E2(l:List Int):Fz (.tup (l.map D.int)) none (some 1)=some (.tup ((l.take 1).map D.int)):=by
 show some (D.tup (cutD _ _ _))=_
 cases l with
 | nil=>rfl
 | cons x l =>
  congr 2
theorem C3{Sc:D}{b:Bk}{s:WS}{n f:Int}(ok:b.Ok)(w:s.Wk b)(hf:oi b s=some f) :
  iB (sR Sc b s (some (.int f)) (some (.int n)) (vd (nH b s n)) none none)=some (.nx (sR Sc b s (some (.int f)) (some (.int n)) (vd (nH b s n)) none none)):=by
 obtain⟨q1,q2⟩:=bB ok w hf
 have f1:=rF w q1
 have key:∃c:Bool,w_ (.int f) (.int n)=some c/\z9 (.tup [.int f]) (.int (if c then 1 else 0))=some (.tup (((nH b s n).take 1).map D.int)):=by
  by_cases h:f<=n
  ·obtain⟨l,e⟩:=jK ok w hf h
   exact⟨true,dT h,by rw[e];rfl⟩
  ·have e:=eI (n:=n) ok w fun x hx=>by have:=q2 x hx;omega
   exact⟨false,dF h,by rw[e];rfl⟩
 obtain⟨c,k1,k2⟩:=key
 generalize nH b s n=l at *
 have hi:CH [.bl c]=some (.int (if c then 1 else 0)):=by cases c<;>rfl
 exact rc (Ew (ox (v6 rfl rfl rfl (E2 l)) (k8 (tupS (m8 rfl rfl)) (i4 (m8 (x4 (ox rfl rfl k1)) rfl) hi) k2) (tup_ne _)) (ox (x:=.int f) (y:=.int 1) rfl rfl (dF (by omega))))
theorem Cd{Sc:D}{b:Bk}{s:WS}{n f:Int}{o8:OD}(ok:b.Ok)(w:s.Wk b)(hf:oi b s=some f) :
  iL (sR Sc b s (some (.int f)) (some (.int n)) o8 none none)=some (.nx (sR Sc b s (some (.int f)) (some (.int n)) o8 none none)):=by
 obtain⟨q1,q2⟩:=bB ok w hf
 have f1:=rF w q1
 have e:=jz ok w (.ticks f)
 have h:(gone b s (.ticks f)).ring=10:=(um ok w f1).mp q1
 have e5:=w5 (gone b s (.ticks f))
 rw[h] at e5
 exact rc (ox (k8 (i4 (m8 rfl (m8 rfl (m8 (tupS (m8 rfl (m8 rfl rfl))) rfl))) e) rfl e5) rfl (Gp 10))
theorem B3{Sc:D}{b:Bk}{s:WS}{n f:Int}{o8:OD}(ok:b.Ok)(w:s.Ok b)(hf:oi b s=some f) :
  iQ (sR Sc b s (some (.int f)) (some (.int n)) o8 none none)=some (.nx (sR Sc b s (some (.int f)) (some (.int n)) o8 none none)):=by
 obtain⟨q1,q2⟩:=bB ok w.toWk hf
 have f1:=rF w.toWk q1
 have f2:=mh ok w hf
 by_cases h1:1<f
 ·have e1:=fZ (n:=f - 1) ok w.toWk (by omega) (by omega)
  rw[eI (n:=f - 1) ok w.toWk fun x hx=>by have:=q2 x hx;omega] at e1
  have e2:=jz ok w.toWk (.ticks (f - 1))
  have hr:(gone b s (.ticks (f - 1))).ring≠10:=xX ok w (by omega) fun h=>by have:=q2 _ h;omega
  have e5:=w5 (gone b s (.ticks (f - 1)))
  have w2:=tm ok w (n:=f - 1) (by omega)
  have e3:=cz ok w2.toWk
  rw[lq ok w hf h1] at e3
  have c1:u5 (.int (gone b s (.ticks (f - 1))).ring) (.int 10)=some false:=by
   show some ((gone b s (.ticks (f - 1))).ring==10)=some false
   rw[beq_eq_false_iff_ne.mpr hr]
  refine(sy (ox (x:=.int f) (y:=.int 1) rfl rfl (dT h1))).trans ((k4 (rc (Ew (ox (i4 (m8 rfl (m8 rfl (m8 (k8 (x:=.int f) (y:=.int 1) rfl rfl rfl) rfl))) e1) rfl (tup_ne [])) (Dz (ox (k8 (i4 (m8 rfl (m8 rfl (m8 (tupS (m8 rfl (m8 (k8 (x:=.int f) (y:=.int 1) rfl rfl rfl) rfl))) rfl))) e2) rfl e5) rfl c1))))).trans (rc (ox (i4 (m8 rfl (m8 (i4 (m8 rfl (m8 rfl (m8 (tupS (m8 rfl (m8 (k8 (x:=.int f) (y:=.int 1) rfl rfl rfl) rfl))) rfl))) e2) rfl)) e3) rfl (zV 1))))
 ·exact rc (ox (x:=.int f) (y:=.int 1) rfl rfl (dF h1))
theorem C4{Sc:D}{b:Bk}{s:WS}{n f p:Int}(ok:b.Ok)(w:s.Ok b)(n1:n<8700000)(p1:1<=p) :
  ∃o10,jd (sR Sc b s (some (.int f)) (some (.int n)) (vd (nH b s n)) (some (.int p)) none)=some (.nx (sR Sc b s (some (.int f)) (some (.int n)) (vd (nH b s n)) (some (.int p)) o10)):=by
 by_cases h:p<n
 ·have e1:=jz ok w.toWk (.ticks p)
  have w2:=tm ok w (n:=p) (by omega)
  have e2:=fZ (n:=n - p) ok w2.toWk (by omega) (by omega)
  have e3:=fZ (n:=p) ok w.toWk (by omega) (by omega)
  have hq:=iy ok w p1 h
  have hl2:=dZ (b:=b) (s:=ticked b s p) (n:=n - p) (by omega) (by omega)
  have hl3:=dZ (b:=b) (s:=s) (n:=p) (by omega) (by omega)
  rw[<- hq]
  have hg:gone b s (.ticks p)=ticked b s p:=rfl
  rw[hg] at e1
  generalize nH b s p=l1 at *
  generalize nH b (ticked b s p) (n - p)=l2 at *
  have a1:nM (.tup (l1.map D.int)) (.tup ((l2.map (p+·)).map D.int))=some (.tup ((l1++l2.map (p+·)).map D.int)):=by
   rw[List.map_append]
   refine if_pos ?_
   rw[List.length_map,List.length_map,List.length_map,PySem.sizeLine_eq];omega
  have hc:wH 1 (pV (c5 10)) (setAt 0) uU (h7 nM (c5 10) (c5 0)) (sR Sc b s (some (.int f)) (some (.int n)) (vd (l1++l2.map (p+·))) (some (.int p)) (vd l2))=some (.lst ((l2.map (p+·)).map D.int)):=by
   unfold wH
   have h:pV (c5 10) (sR Sc b s (some (.int f)) (some (.int n)) (vd (l1++l2.map (p+·))) (some (.int p)) (vd l2))=some (l2.map D.int):=rfl
   rw[h,Option.bind_some,if_pos (by rw[List.length_map,PySem.sizeLine_eq];omega)]
   exact congrArg (Option.map D.lst) (j6 l2)
  refine⟨vd l2,(sy (ox (x:=.int p) (y:=.int n) rfl rfl (dT h))).trans ((k4 (nD (i4 (m8 rfl (m8 (i4 (m8 rfl (m8 rfl (m8 (tupS (m8 rfl (m8 rfl rfl))) rfl))) e1) (m8 (k8 (x:=.int n) (y:=.int p) rfl rfl rfl) rfl))) e2) rfl)).trans ?_)⟩
  exact rc (ox (k8 (i4 rfl e3) (i4 (F:=uC) (m8 hc rfl) rfl) a1) rfl (tup_ne _))
 ·exact⟨none,rc (ox (x:=.int p) (y:=.int n) rfl rfl (dF h))⟩
theorem An(n f:Int):qe f (n+1) 86400=(uF n (some f)).map D.int:=by
 show _=((List.range _).map _).map _
 rw[List.map_map];rfl
theorem Dt{Sc:D}{b:Bk}{s:WS}{n f:Int}{o9 o10:OD}(ok:b.Ok)(w:s.Wk b)(n0:0<=n)(n1:n<8700000)(hf:oi b s=some f) :
  l9 iz iK (sR Sc b s (some (.int f)) (some (.int n)) (vd (nH b s n)) o9 o10)=some (.rt (.bl true)):=by
 have e6:=w6 s
 have e2:=w2 s
 have ea:=D9 s
 have e4:=w4 s
 have ec:=EE s
 cases hh:s.held with
 | some h =>
  rw[hh] at e6
  obtain⟨x,k⟩:=h
  exact(k4 (rc (Dz (ox (k8 rfl rfl e6) rfl rfl)))).trans (retS rfl)
 | none =>
  rw[hh] at e6
  cases ha:s.aon with
  | false =>
   rw[ha] at ea
   exact(k4 (rc (AO (ox (k8 rfl rfl e6) rfl rfl) (Dz (vM (k8 (k8 rfl rfl e2) rfl ea)))))).trans (retS rfl)
  | true =>
   rw[ha] at ea
   cases hc:s.cr with
   | true =>
    rw[hc] at ec
    exact(k4 (rc (AO (ox (k8 rfl rfl e6) rfl rfl) (AO (vM (k8 (k8 rfl rfl e2) rfl ea)) (zl (vM (k8 (k8 rfl rfl e4) rfl ec))))))).trans (retS rfl)
   | false =>
    rw[hc] at ec
    obtain⟨z1,z2⟩:=x6 (n:=n) ok w hh ha hc hf
    have f1:=rF w (bB ok w hf).1
    have hl:=dZ (b:=b) (s:=s) n0 n1
    rw[z2] at hl ⊢
    have e3:Bs (c5 6) (h7 nM (c5 7) (kI 1)) (kI 86400) (sR Sc b s (some (.int f)) (some (.int n)) (vd (uF n (some f))) o9 o10)=some (.tup ((uF n (some f)).map D.int)):=by
     rw[<- An]
     have h:tM (c5 6) (h7 nM (c5 7) (kI 1)) (kI 86400) (sR Sc b s (some (.int f)) (some (.int n)) (vd (uF n (some f))) o9 o10)=some (qe f (n+1) 86400):=by
      show(if -(2 ^ 60)<=f/\f<2 ^ 60 /\ -(2 ^ 60)<=n+1/\n+1<2 ^ 60/\(0:Int)<86400/\(86400:Int)<1073741824 then some (qe f (n+1) 86400) else none)=_
      rw[if_pos ⟨by omega,by omega,by omega,by omega,by decide,by decide⟩]
     unfold Bs
     rw[h,Option.bind_some,if_pos (by rw[An,List.length_map];omega)]
    refine p0 ((sy (AO (ox (k8 rfl rfl e6) rfl rfl) (AO (vM (k8 (k8 rfl rfl e2) rfl ea)) (zl (vM (k8 (k8 rfl rfl e4) rfl ec)))))).trans (retS (BL (x4 (ox rfl e3 (Ao _))) (x4 (ox (x:=.int f) (y:=.int 86400) rfl rfl (dT z1))))))
theorem zo(ns:List Int)(_:ns.length<=63):ja [.fro (ns.map .int)]=some (.bl true):=by
 obtain⟨n0,e0,hn0⟩:=qV ns 0 (by decide)
 obtain⟨n1,e1,hn1⟩:=qV ns 1 (by decide)
 obtain⟨n2,e2,hn2⟩:=qV ns 2 (by decide)
 obtain⟨n3,e3,hn3⟩:=qV ns 3 (by decide)
 obtain⟨bd,eb,hb,_⟩:=kE n0
 obtain⟨b,rfl,ok⟩:=lR hb
 obtain⟨s,es,w⟩:=lQ ok n1
 generalize hS:D.fro (ns.map .int)=Sc at *
 have s1:jS (xi 11 [Sc])=some (.nx (xi 11 [Sc,b.d])):=nD (i4 (m8 (i4 rfl e0) rfl) eb) rfl
 have s2:j_ (xi 11 [Sc,b.d])=some (.nx (xi 11 [Sc,b.d,s.d])):=nD (i4 (m8 rfl (m8 (i4 rfl e1) rfl)) es) rfl
 have e7:=cz ok w.toWk
 have s7:jT (sR Sc b s none none none none none)=some (.nx (sR Sc b s (some (nU (oi b s))) none none none none)):=nD (i4 rfl e7) rfl
 have s8:kc (sR Sc b s (some (nU (oi b s))) none none none none)=some (.nx (sR Sc b s (some (nU (oi b s))) (some (.int (1+n2%8640000))) none none none)):=nD (k8 rfl (k8 (i4 rfl e2) rfl (modS (by decide))) rfl) rfl
 generalize hn:1+n2%8640000=n at *
 have hn1:1<=n:=by omega
 have hn2:n<8700000:=by omega
 have e9:=fZ (n:=n) ok w.toWk (by omega) hn2
 have s9:j8 (sR Sc b s (some (nU (oi b s))) (some (.int n)) none none none)=some (.nx (sR Sc b s (some (nU (oi b s))) (some (.int n)) (vd (nH b s n)) none none)):=nD (i4 rfl e9) rfl
 have s10:=Cu (Sc:=Sc) (o6:=some (nU (oi b s))) ok w.toWk (by omega) hn2
 refine nG ((k4 s1).trans ((k4 s2).trans ((k4 DR).trans ((k4 DF).trans ((k4 DP).trans ((k4 (D1 ok w.toWk)).trans ((k4 s7).trans ((k4 s8).trans ((k4 s9).trans ((k4 s10).trans ?_))))))))))
 cases hf:oi b s with
 | none =>
  have hz:=eI (n:=n) ok w.toWk fun x hx=>absurd hx (gN hf x)
  rw[hz]
  exact p0 ((sy (ox (x:=.non) rfl rfl rfl)).trans (retS (x4 (ox rfl (tupS rfl) (Ao [])))))
 | some f =>
  have s11:iN (sR Sc b s (some (nU (some f))) (some (.int n)) (vd (nH b s n)) none none)=some (.nx (sR Sc b s (some (.int f)) (some (.int n)) (vd (nH b s n)) none none)):=rc (ox (x:=.int f) rfl rfl rfl)
  have s15:iP (sR Sc b s (some (.int f)) (some (.int n)) (vd (nH b s n)) none none)=some (.nx (sR Sc b s (some (.int f)) (some (.int n)) (vd (nH b s n)) (some (.int (1+n3%n))) none)):=nD (k8 rfl (k8 (i4 rfl e3) rfl (modS (by omega))) rfl) rfl
  have:=Int.emod_nonneg n3 (show n≠0 by omega)
  obtain⟨o10,s16⟩:=C4 (Sc:=Sc) (f:=f) ok w hn2 (show 1<=1+n3%n by omega)
  exact(k4 s11).trans ((k4 (C3 ok w.toWk hf)).trans ((k4 (Cd ok w.toWk hf)).trans ((k4 (B3 ok w hf)).trans ((k4 s15).trans ((k4 s16).trans (Dt ok w.toWk (by omega) hn2 hf))))))
end HW
set_option maxRecDepth 100000
namespace HW
open PySem PySem.Spec PyProof.Rows L2
variable{P:Program}{w:World}{K:W.Frag}{mg:Str->Option Value}{base:Heap}{k:Nat}{f:Addr}{fd:FuncData}
def top(i:Nat):Stmt:=PySem.Challenge.pw_handwatch_k31_whole_next_ring.main.body.getD i (.Pass ⟨0,0,0,0⟩)
abbrev cQ:Stmt:=top 63
theorem sh:i5 ["_law_number","_law_k","_law_drawn_here"] ["_law_number","_law_k"] (c9 cQ):=p8
theorem gD(Fn:pz K "_law_drawn" "_law_drawn" cQ f fd):nK P w K mg base oM (k+1) f fd ["_law_number","_law_k"] (pA K aG):=by
 refine au Fn sh ?_
 intro _ _ _ _ _ _ hr
 refine ai ?_ ?_
 ·refine ax ?_ ?_
  ·refine ag av ?_ ad
   refine ag bT ?_ ad
   refine ag az ?_ ad
   refine ag az (ab 0) ?_
   exact ag bT ad (ab 1)
  exact ak 2 sh.nd
 refine al ?_
 refine aw ?_
 refine ag av ?_ ad
 refine ag az ?_ (ab 1)
 refine ag az ?_ ?_
 ·exact ag bT (ab 2) (ab 2)
 exact ag bT ad (ab 2)
abbrev dP:Stmt:=top 64
theorem nP:i5 ["_law_number","_law_many","_law_deeds","_law_modes","_law_k","_law_drawn_here","_law_rows","_law_j","_law_one","_law_face"] ["_law_number"] (c9 dP):=p8
theorem hU(n8:nN P w K mg base k "_law_drawn" ["_law_number","_law_k"] aG)(ov:mg "range" = none)(Fn:pz K "_law_book" "_law_book" dP f fd):nK P w K mg base oM (k+1) f fd ["_law_number"] (pA K bN):=by
 refine au Fn nP ?_
 intro _ _ _ _ _ _ hr
 refine ai ?_ ?_
 ·refine ax ?_ ?_
  ·refine ag az ad ?_
   exact ag av (ab 0) ad
  exact ak 1 nP.nd
 refine ai ?_ ?_
 ·refine ax ?_ ?_
  ·refine aq ?_
   refine aa aK ?_
   refine aa aK ?_
   refine aa aK ?_
   refine aa aK ?_
   refine aa aK ?_
   refine aa aK ?_
   refine aa aK ?_
   refine aa aK ?_
   exact aa aK (aa aK (aa aK (aa aK ae)))
  exact ak 2 nP.nd
 refine ai ?_ ?_
 ·refine ax ?_ ?_
  ·exact aq ae
  exact ak 3 nP.nd
 refine ai ?_ ?_
 ·refine mw PassesOwn.never rfl ?_ ?_ ?_
  ·exact fT ov (ab 1)
  ·exact ak 4 nP.nd
  refine ai ?_ ?_
  ·refine ax ?_ ?_
   ·refine ag aR ?_ ad
    exact aj n8 hr (aa (ab 0) (aa (ab 4) ae))
   exact ak 5 nP.nd
  refine ai ?_ ?_
  ·refine ax ?_ ?_
   ·exact aq ae
   exact ak 6 nP.nd
  refine ai ?_ ?_
  ·refine mw PassesOwn.never rfl ?_ ?_ ?_
   ·exact fT ov ad
   ·exact ak 7 nP.nd
   refine ai ?_ ?_
   ·refine ax ?_ ?_
    ·refine ag aR ?_ ad
     refine aj n8 hr ?_
     refine aa (ab 5) ?_
     refine aa ?_ ae
     exact ag az ad (ab 7)
    exact ak 8 nP.nd
   refine al ?_
   refine ax ?_ ?_
   ·refine ag az (ab 6) ?_
    refine aq ?_
    refine aa ?_ ae
    refine aq ?_
    refine aa ?_ ?_
    ·refine af ?_ ?_
     ·refine ag az (ab 2) ?_
      exact aq (aa aK ae)
     exact ag av (ab 8) ad
    refine aa ?_ ae
    refine ag av ?_ (ab 1)
    exact ag aR (ab 8) ad
   exact ak 6 nP.nd
  refine ai ?_ ?_
  ·refine ax ?_ ?_
   ·refine af ?_ ?_
    ·refine aq ?_
     exact aa aK (aa aK (aa aK (aa aK ae)))
    exact ag av (ab 5) ad
   exact ak 9 nP.nd
  refine al ?_
  refine ax ?_ ?_
  ·refine ag az (ab 3) ?_
   refine aq ?_
   refine aa ?_ ae
   refine aq ?_
   refine aa (ab 9) ?_
   refine aa ?_ (aa (ab 6) ae)
   refine br (df hr) ?_ ad
   refine ag av ?_ ad
   exact ag aR (ab 5) ad
  exact ak 3 nP.nd
 refine al ?_
 refine aw ?_
 refine aq ?_
 refine aa ?_ ?_
 ·refine ag az ad ?_
  refine ag av ?_ ?_
  ·exact ag aR (ab 0) ad
  refine af ?_ ?_
  ·exact aq (aa ad (aa ad ae))
  refine ag av ?_ ad
  exact ag aR (ab 0) ad
 refine aa ?_ (aa (ab 3) ae)
 refine af ?_ ?_
 ·refine aq ?_
  refine aa ad ?_
  exact aa ad (aa ad (aa ad (aa ad ae)))
 refine ag av ?_ ad
 exact ag aR (ab 0) ad
abbrev cb:Stmt:=top 61
theorem fO:i5 ["_law_script","_law_k"] ["_law_script","_law_k"] (c9 cb):=p8
theorem fI(tF:mg "len" = none)(Fn:pz K "_law_cell_at" "_law_cell_at" cb f fd):nK P w K mg base oM (k+1) f fd ["_law_script","_law_k"] (pA K bq):=by
 refine au Fn fO ?_
 intro _ _ _ _ _ _ hr
 refine ai ?_ ?_
 ·refine bx ?_ ?_ aI
  ·refine ay iH (ab 1) ?_
   exact bE jH tF (aa (ab 0) ae)
  refine al ?_
  exact aw (af (ab 0) (ab 1))
 refine al ?_
 exact aw ad
abbrev cL:Stmt:=top 62
theorem su:i5 ["_law_script","_law_k","_law_drawn_here"] ["_law_script","_law_k"] (c9 cL):=p8
theorem gK(qm:nN P w K mg base k "_law_cell_at" ["_law_script","_law_k"] bq)(Fn:pz K "_law_mixed" "_law_mixed" cL f fd):nK P w K mg base oM (k+1) f fd ["_law_script","_law_k"] (pA K ba):=by
 refine au Fn su ?_
 intro _ _ _ _ _ _ hr
 refine ai ?_ ?_
 ·refine ax ?_ ?_
  ·refine ag av ?_ ad
   refine ag bT ?_ ad
   refine ag az ?_ ad
   refine ag az ?_ ?_
   ·exact aj qm hr (aa (ab 0) (aa (ab 1) ae))
   exact ag bT ad (ab 1)
  exact ak 2 su.nd
 refine al ?_
 refine aw ?_
 refine ag av ?_ ad
 refine ag az ?_ (ab 1)
 refine ag az ?_ ?_
 ·exact ag bT (ab 2) (ab 2)
 exact ag bT ad (ab 2)
abbrev cW:Stmt:=top 65
theorem m6:i5 ["_law_book_here","_law_number","_law_drawn_here","_law_clock","_law_near","_law_alarm","_law_kept","_law_laps","_law_left","_law_count","_law_held","_law_ring","_law_idle"] ["_law_book_here","_law_number"] (c9 cW):=p8
theorem gB(n8:nN P w K mg base k "_law_drawn" ["_law_number","_law_k"] aG)(tF:mg "len" = none)(oZ:mg "max" = none)(ov:mg "range" = none)(pL:mg "tuple" = none)(Fn:pz K "_law_state" "_law_state" cW f fd):nK P w K mg base oM (k+1) f fd ["_law_book_here","_law_number"] (pA K bw):=by
 refine au Fn m6 ?_
 intro _ _ _ _ _ _ hr
 refine ai ?_ ?_
 ·refine ax ?_ ?_
  ·refine gQ (T:=["_law_k"]) rfl ?_ ?_ ?_ ?_ (p9 (by decide)) (show List.Nodup ((["_law_k"]:List Str)++(["_law_book_here" ,"_law_number" ,"_law_drawn_here" ,"_law_clock" ,"_law_near" ,"_law_alarm" ,"_law_kept" ,"_law_laps" ,"_law_left" ,"_law_count" ,"_law_held" ,"_law_ring" ,"_law_idle"]:List Str)) from by decide +kernel)
   ·exact fT ov ad
   ·intro C s₃ H₃ fp
    exact ak 0 (show List.Nodup (["_law_k" ,"_law_book_here" ,"_law_number" ,"_law_drawn_here" ,"_law_clock" ,"_law_near" ,"_law_alarm" ,"_law_kept" ,"_law_laps" ,"_law_left" ,"_law_count" ,"_law_held" ,"_law_ring" ,"_law_idle"]:List Str) from by decide +kernel)
   ·intro C s₃ H₃ fp
    exact hW
   intro C s₃ H₃ fp
   refine ag aR ?_ ad
   exact aj n8 hr (aa (ab 2) (aa (ab 0) ae))
  exact ak 2 m6.nd
 refine ai ?_ ?_
 ·refine ax ?_ ?_
  ·refine af ?_ ?_
   ·refine aq ?_
    refine aa ?_ ?_
    ·exact ag av (af (ab 2) ad) ad
    refine aa ?_ ?_
    ·refine ag bg ad ?_
     exact ag av (af (ab 2) ad) ad
    refine aa ?_ ae
    exact ag av (af (ab 2) ad) ad
   exact ag av (af (ab 2) ad) ad
  exact ak 3 m6.nd
 refine ai ?_ ?_
 ·refine ax ?_ ?_
  ·refine ag av ?_ ad
   refine ag az ?_ ?_
   ·exact ag aR (ab 3) ad
   exact ag av (af (ab 2) ad) ad
  exact ak 4 m6.nd
 refine ai ?_ ?_
 ·refine ax ?_ ?_
  ·refine aq ?_
   refine aa ?_ ?_
   ·exact ag aR (ab 4) ad
   refine aa ?_ ?_
   ·exact ag av (ab 4) ad
   refine aa ?_ ae
   refine br (df hr) ?_ ad
   exact ag av (af (ab 2) ad) ad
  exact ak 5 m6.nd
 refine ai ?_ ?_
 ·refine bx ?_ ?_ aI
  ·refine ay (df hr) ?_ ad
   refine ag av ?_ ad
   exact ag aR (af (ab 2) ad) ad
  refine al ?_
  refine ax ?_ ?_
  ·refine aq ?_
   refine aa ?_ ?_
   ·exact ag av (af (ab 2) ad) ad
   refine aa ?_ ?_
   ·refine ag av ?_ ad
    exact ag aR (af (ab 2) ad) ad
   refine aa ?_ ae
   refine br (df hr) ?_ ad
   exact ag av (af (ab 2) ad) ad
  exact ak 5 m6.nd
 refine ai ?_ ?_
 ·refine ax ?_ ?_
  ·refine dL gs pL ?_
   refine aa ?_ ae
   refine gQ (T:=["_law_k"]) rfl ?_ ?_ ?_ ?_ (p9 (by decide)) (show List.Nodup ((["_law_k"]:List Str)++(["_law_book_here" ,"_law_number" ,"_law_drawn_here" ,"_law_clock" ,"_law_near" ,"_law_alarm" ,"_law_kept" ,"_law_laps" ,"_law_left" ,"_law_count" ,"_law_held" ,"_law_ring" ,"_law_idle"]:List Str)) from by decide +kernel)
   ·refine fT ov ?_
    exact ag av (af (ab 2) ad) ad
   ·intro C s₃ H₃ fp
    exact ak 0 (show List.Nodup (["_law_k" ,"_law_book_here" ,"_law_number" ,"_law_drawn_here" ,"_law_clock" ,"_law_near" ,"_law_alarm" ,"_law_kept" ,"_law_laps" ,"_law_left" ,"_law_count" ,"_law_held" ,"_law_ring" ,"_law_idle"]:List Str) from by decide +kernel)
   ·intro C s₃ H₃ fp
    exact hW
   intro C s₃ H₃ fp
   refine ag av ?_ ad
   refine ag aR ?_ ad
   exact aj n8 hr (aa (af (ab 3) ad) (aa (ab 0) ae))
  exact ak 6 m6.nd
 refine ai ?_ ?_
 ·refine ax ?_ ?_
  ·refine aq ?_
   refine aa ?_ ?_
   ·refine ag av ?_ ?_
    ·exact ag aR (af (ab 2) ad) ad
    refine af ?_ ?_
    ·exact aq (aa ad (aa ad ae))
    refine ag av ?_ ad
    exact ag aR (af (ab 2) ad) ad
   refine aa ?_ (aa (ab 6) ae)
   refine br (df hr) ?_ ad
   refine ag av ?_ ad
   exact ag aR (af (ab 2) ad) ad
  exact ak 7 m6.nd
 refine ai ?_ ?_
 ·refine ax ?_ ?_
  ·refine ag av (af (ab 2) ad) ?_
   refine af ?_ ?_
   ·exact aq (aa ad (aa ad (aa ad ae)))
   refine ag av ?_ ad
   exact ag aR (af (ab 2) ad) ad
  exact ak 8 m6.nd
 refine ai ?_ ?_
 ·refine ax ?_ ?_
  ·refine aq ?_
   refine aa ?_ ?_
   ·refine ag av ?_ ad
    exact ag aR (af (ab 2) ad) ad
   refine aa ?_ ?_
   ·exact ag av (af (ab 2) ad) ad
   refine aa (ab 8) ?_
   refine aa ?_ ae
   refine eE ?_ ?_
   ·exact br fE (ab 8) ad
   refine fq ?_
   refine br fE ?_ ad
   refine ag av ?_ ad
   exact ag aR (af (ab 2) ad) ad
  exact ak 9 m6.nd
 refine ai ?_ ?_
 ·refine ax aH ?_
  exact ak 10 m6.nd
 refine ai ?_ ?_
 ·refine bx ?_ ?_ aI
  ·refine ay (df hr) ?_ ad
   exact ag av (af (ab 2) ad) ad
  refine ai ?_ ?_
  ·refine ax ?_ ?_
   ·refine aq ?_
    refine aa ?_ ?_
    ·refine af aK ?_
     refine ag av ?_ ad
     exact ag aR (af (ab 2) ad) ad
    refine aa ?_ ae
    refine ag av ?_ (af (ab 0) ad)
    exact ag aR (af (ab 2) ad) ad
   exact ak 10 m6.nd
  refine al ?_
  refine bx ?_ ?_ aI
  ·refine ay (df hr) ?_ ad
   refine ag av ?_ ad
   exact ag aR (af (ab 2) ad) ad
  refine al ?_
  refine ax ?_ ?_
  ·exact aq (aa (af (ab 10) ad) (aa aH ae))
  exact ak 10 m6.nd
 refine ai ?_ ?_
 ·refine ax ?_ ?_
  ·refine ag bT ?_ ?_
   ·exact ag av (af (ab 2) ad) ad
   refine ag av ?_ ad
   exact ag aR (af (ab 2) ad) ad
  exact ak 11 m6.nd
 refine ai ?_ ?_
 ·refine ax ?_ ?_
  ·refine ag av ?_ ?_
   ·exact ag aR (af (ab 2) ad) ad
   exact bE (fw rfl) oZ (aa ad (aa (af (ab 0) ad) ae))
  exact ak 12 m6.nd
 refine al ?_
 refine aw ?_
 refine aq ?_
 refine aa ?_ ?_
 ·refine ag av ?_ ?_
  ·exact ag aR (af (ab 2) ad) ad
  exact bE jH tF (aa (af (ab 0) ad) ae)
 refine aa (ab 3) ?_
 refine aa (ab 5) ?_
 refine aa (ab 7) ?_
 refine aa (ab 9) ?_
 exact aa (ab 11) (aa (ab 10) (aa (ab 12) ae))
abbrev cN:Stmt:=top 58
theorem gy:i5 ["state","button"] ["state","button"] (c9 cN):=p8
theorem gG(nQ:pk K mg "HELD" aT)(Fn:pz K "is_holding" "is_holding" cN f fd):nK P w K mg base oM (k+1) f fd ["state","button"] (pA K bj):=by
 refine au Fn gy ?_
 intro _ _ _ _ _ _ hr
 refine al ?_
 refine aw ?_
 refine eE ?_ ?_
 ·exact br bu (af (ab 0) (ar nQ)) aH
 refine fq ?_
 exact br (df hr) (af (af (ab 0) (ar nQ)) ad) (ab 1)
abbrev eB:Stmt:=top 59
theorem iW:i5 ["state","button"] ["state","button"] (c9 eB):=p8
theorem iC(oF:nN P w K mg base k "is_holding" ["state","button"] bj)(nQ:pk K mg "HELD" aT)(Fn:pz K "is_short" "is_short" eB f fd):nK P w K mg base oM (k+1) f fd ["state","button"] (pA K ci):=by
 refine au Fn iW ?_
 intro _ _ _ _ _ _ hr
 refine al ?_
 refine aw ?_
 refine eE ?_ ?_
 ·exact aj oF hr (aa (ab 0) (aa (ab 1) ae))
 refine fq ?_
 exact br bu (af (af (ab 0) (ar nQ)) ad) aH
abbrev lg:Stmt:=top 12
theorem mL:i5 ["state","place","part"] ["state","place","part"] (c9 lg):=p8
theorem mB(Fn:pz K "put" "put" lg f fd):nK P w K mg base oM (k+1) f fd ["state","place","part"] (pA K aC):=by
 refine au Fn mL ?_
 intro _ _ _ _ _ _ hr
 refine al ?_
 refine aw ?_
 refine ag az ?_ ?_
 ·refine ag az ?_ ?_
  ·refine dD (ab 0) fX ?_
   exact d_ (ab 1)
  exact aq (aa (ab 2) ae)
 refine dD (ab 0) ?_ fX
 refine d_ ?_
 exact ag az (ab 1) ad
abbrev bQ:Stmt:=top 18
theorem qC:i5 ["state","alarm"] ["state"] (c9 bQ):=p8
theorem fu(nL:nN P w K mg base k "put" ["state","place","part"] aC)(n4:pk K mg "ALARM" a_)(Fn:pz K "alarm_hour_on" "alarm_hour_on" bQ f fd):nK P w K mg base oM (k+1) f fd ["state"] (pA K aY):=by
 refine au Fn qC ?_
 intro _ _ _ _ _ _ hr
 refine ai ?_ ?_
 ·refine ax (af (ab 0) (ar n4)) ?_
  exact ak 1 qC.nd
 refine al ?_
 refine aw ?_
 refine aj nL hr ?_
 refine aa (ab 0) ?_
 refine aa (ar n4) ?_
 refine aa ?_ ae
 refine aq ?_
 refine aa ?_ ?_
 ·refine ag av ?_ ad
  exact ag az (af (ab 1) ad) ad
 exact aa (af (ab 1) ad) (aa (af (ab 1) ad) ae)
abbrev bG:Stmt:=top 19
theorem qf:i5 ["state","alarm"] ["state"] (c9 bG):=p8
theorem eJ(nL:nN P w K mg base k "put" ["state","place","part"] aC)(n4:pk K mg "ALARM" a_)(Fn:pz K "alarm_minute_on" "alarm_minute_on" bG f fd):nK P w K mg base oM (k+1) f fd ["state"] (pA K aO):=by
 refine au Fn qf ?_
 intro _ _ _ _ _ _ hr
 refine ai ?_ ?_
 ·refine ax (af (ab 0) (ar n4)) ?_
  exact ak 1 qf.nd
 refine al ?_
 refine aw ?_
 refine aj nL hr ?_
 refine aa (ab 0) ?_
 refine aa (ar n4) ?_
 refine aa ?_ ae
 refine aq ?_
 refine aa (af (ab 1) ad) ?_
 refine aa ?_ (aa (af (ab 1) ad) ae)
 refine ag av ?_ ad
 exact ag az (af (ab 1) ad) ad
abbrev b_:Stmt:=top 20
theorem q9:i5 ["state","alarm"] ["state"] (c9 b_):=p8
theorem fL(nL:nN P w K mg base k "put" ["state","place","part"] aC)(n4:pk K mg "ALARM" a_)(Fn:pz K "alarm_turned" "alarm_turned" b_ f fd):nK P w K mg base oM (k+1) f fd ["state"] (pA K bf):=by
 refine au Fn q9 ?_
 intro _ _ _ _ _ _ hr
 refine ai ?_ ?_
 ·refine ax (af (ab 0) (ar n4)) ?_
  exact ak 1 q9.nd
 refine al ?_
 refine aw ?_
 refine aj nL hr ?_
 refine aa (ab 0) ?_
 refine aa (ar n4) ?_
 refine aa ?_ ae
 refine aq ?_
 refine aa (af (ab 1) ad) ?_
 refine aa (af (ab 1) ad) ?_
 refine aa ?_ ae
 exact ij (af (ab 1) ad)
abbrev gh:Stmt:=top 23
theorem ki:i5 ["state","minute","second"] ["state","minute","second"] (c9 gh):=p8
theorem ku(nL:nN P w K mg base k "put" ["state","place","part"] aC)(nT:pk K mg "COUNT" aL)(Fn:pz K "set_to" "set_to" gh f fd):nK P w K mg base oM (k+1) f fd ["state","minute","second"] (pA K bz):=by
 refine au Fn ki ?_
 intro _ _ _ _ _ _ hr
 refine ai ?_ ?_
 ·refine bx ?_ ?_ aI
  ·exact ce (af (af (ab 0) (ar nT)) ad)
  refine al ?_
  exact aw (ab 0)
 refine al ?_
 refine aw ?_
 refine aj nL hr ?_
 refine aa (ab 0) ?_
 refine aa (ar nT) ?_
 refine aa ?_ ae
 refine aq ?_
 refine aa (ab 1) ?_
 refine aa (ab 2) ?_
 refine aa ?_ (aa cg ae)
 refine ag az ?_ (ab 2)
 exact ag bT ad (ab 1)
abbrev bF:Stmt:=top 24
theorem qd:i5 ["state","count"] ["state"] (c9 bF):=p8
theorem eG(o_:nN P w K mg base k "set_to" ["state","minute","second"] bz)(nT:pk K mg "COUNT" aL)(Fn:pz K "count_minute_on" "count_minute_on" bF f fd):nK P w K mg base oM (k+1) f fd ["state"] (pA K aM):=by
 refine au Fn qd ?_
 intro _ _ _ _ _ _ hr
 refine ai ?_ ?_
 ·refine ax (af (ab 0) (ar nT)) ?_
  exact ak 1 qd.nd
 refine al ?_
 refine aw ?_
 refine aj o_ hr ?_
 refine aa (ab 0) ?_
 refine aa ?_ (aa (af (ab 1) ad) ae)
 refine ag av ?_ ad
 exact ag az (af (ab 1) ad) ad
abbrev bD:Stmt:=top 25
theorem ql:i5 ["state","count"] ["state"] (c9 bD):=p8
theorem eD(o_:nN P w K mg base k "set_to" ["state","minute","second"] bz)(nT:pk K mg "COUNT" aL)(Fn:pz K "count_second_on" "count_second_on" bD f fd):nK P w K mg base oM (k+1) f fd ["state"] (pA K aN):=by
 refine au Fn ql ?_
 intro _ _ _ _ _ _ hr
 refine ai ?_ ?_
 ·refine ax (af (ab 0) (ar nT)) ?_
  exact ak 1 ql.nd
 refine al ?_
 refine aw ?_
 refine aj o_ hr ?_
 refine aa (ab 0) ?_
 refine aa (af (ab 1) ad) ?_
 refine aa ?_ ae
 refine ag av ?_ ad
 exact ag az (af (ab 1) ad) ad
abbrev cw:Stmt:=top 27
theorem pO:i5 ["state","count","runs"] ["state"] (c9 cw):=p8
theorem fK(nL:nN P w K mg base k "put" ["state","place","part"] aC)(nT:pk K mg "COUNT" aL)(Fn:pz K "count_turned" "count_turned" cw f fd):nK P w K mg base oM (k+1) f fd ["state"] (pA K bp):=by
 refine au Fn pO ?_
 intro _ _ _ _ _ _ hr
 refine ai ?_ ?_
 ·refine ax (af (ab 0) (ar nT)) ?_
  exact ak 1 pO.nd
 refine ai ?_ ?_
 ·refine ax ?_ ?_
  ·refine eE ?_ ?_
   ·exact ij (af (ab 1) ad)
   refine fq ?_
   exact br fE (af (ab 1) ad) ad
  exact ak 2 pO.nd
 refine al ?_
 refine aw ?_
 refine aj nL hr ?_
 refine aa (ab 0) ?_
 refine aa (ar nT) ?_
 refine aa ?_ ae
 refine aq ?_
 refine aa (af (ab 1) ad) ?_
 exact aa (af (ab 1) ad) (aa (af (ab 1) ad) (aa (ab 2) ae))
abbrev gr:Stmt:=top 26
theorem vK:i5 ["state","count"] ["state"] (c9 gr):=p8
theorem kJ(o_:nN P w K mg base k "set_to" ["state","minute","second"] bz)(nT:pk K mg "COUNT" aL)(Fn:pz K "filled" "filled" gr f fd):nK P w K mg base oM (k+1) f fd ["state"] (pA K cJ):=by
 refine au Fn vK ?_
 intro _ _ _ _ _ _ hr
 refine ai ?_ ?_
 ·refine ax (af (ab 0) (ar nT)) ?_
  exact ak 1 vK.nd
 refine al ?_
 refine aw ?_
 refine aj o_ hr ?_
 refine aa (ab 0) ?_
 exact aa (af (ab 1) ad) (aa (af (ab 1) ad) ae)
abbrev fh:Stmt:=top 15
theorem jM:i5 ["state"] ["state"] (c9 fh):=p8
theorem jr(nL:nN P w K mg base k "put" ["state","place","part"] aC)(nX:pk K mg "CLOCK" aW)(Fn:pz K "hour_on" "hour_on" fh f fd):nK P w K mg base oM (k+1) f fd ["state"] (pA K bV):=by
 refine au Fn jM ?_
 intro _ _ _ _ _ _ hr
 refine al ?_
 refine aw ?_
 refine aj nL hr ?_
 refine aa (ab 0) ?_
 refine aa (ar nX) ?_
 refine aa ?_ ae
 refine ag av ?_ ad
 exact ag az (af (ab 0) (ar nX)) ad
abbrev et:Stmt:=top 22
theorem uc:i5 ["state","laps"] ["state"] (c9 et):=p8
theorem iG(nL:nN P w K mg base k "put" ["state","place","part"] aC)(tF:mg "len" = none)(pS:pk K mg "LAPS" bK)(rH:pk K mg "MOST_KEPT" dG)(Fn:pz K "lap_kept" "lap_kept" et f fd):nK P w K mg base oM (k+1) f fd ["state"] (pA K cc):=by
 refine au Fn uc ?_
 intro _ _ _ _ _ _ hr
 refine ai ?_ ?_
 ·refine ax (af (ab 0) (ar pS)) ?_
  exact ak 1 uc.nd
 refine ai ?_ ?_
 ·refine bx ?_ ?_ aI
  ·refine fv ?_
   exact ce (af (ab 1) ad)
  refine al ?_
  refine aw ?_
  refine aj nL hr ?_
  refine aa (ab 0) ?_
  refine aa (ar pS) ?_
  refine aa ?_ ae
  refine aq ?_
  refine aa ad ?_
  refine aa cg ?_
  refine aa ?_ ae
  exact aq ae
 refine ai ?_ ?_
 ·refine bx ?_ ?_ aI
  ·refine ay nj ?_ (ar rH)
   exact bE jH tF (aa (af (ab 1) ad) ae)
  refine al ?_
  exact aw (ab 0)
 refine al ?_
 refine aw ?_
 refine aj nL hr ?_
 refine aa (ab 0) ?_
 refine aa (ar pS) ?_
 refine aa ?_ ae
 refine aq ?_
 refine aa (af (ab 1) ad) ?_
 refine aa cg ?_
 refine aa ?_ ae
 refine ag az (af (ab 1) ad) ?_
 exact aq (aa (af (ab 1) ad) ae)
abbrev cE:Stmt:=top 21
theorem rn:i5 ["state","laps"] ["state"] (c9 cE):=p8
theorem ga(nL:nN P w K mg base k "put" ["state","place","part"] aC)(pS:pk K mg "LAPS" bK)(Fn:pz K "laps_turned" "laps_turned" cE f fd):nK P w K mg base oM (k+1) f fd ["state"] (pA K bo):=by
 refine au Fn rn ?_
 intro _ _ _ _ _ _ hr
 refine ai ?_ ?_
 ·refine ax (af (ab 0) (ar pS)) ?_
  exact ak 1 rn.nd
 refine al ?_
 refine aw ?_
 refine aj nL hr ?_
 refine aa (ab 0) ?_
 refine aa (ar pS) ?_
 refine aa ?_ ae
 refine aq ?_
 refine aa (af (ab 1) ad) ?_
 refine aa ?_ (aa (af (ab 1) ad) ae)
 exact ij (af (ab 1) ad)
abbrev dS:Stmt:=top 16
theorem qW:i5 ["state","clock","within"] ["state"] (c9 dS):=p8
theorem iu(nL:nN P w K mg base k "put" ["state","place","part"] aC)(nX:pk K mg "CLOCK" aW)(Fn:pz K "minute_on" "minute_on" dS f fd):nK P w K mg base oM (k+1) f fd ["state"] (pA K bC):=by
 refine au Fn qW ?_
 intro _ _ _ _ _ _ hr
 refine ai ?_ ?_
 ·refine ax (af (ab 0) (ar nX)) ?_
  exact ak 1 qW.nd
 refine ai ?_ ?_
 ·refine ax ?_ ?_
  ·refine ag av ?_ ad
   refine ag az ?_ ad
   exact ag av (ab 1) ad
  exact ak 2 qW.nd
 refine al ?_
 refine aw ?_
 refine aj nL hr ?_
 refine aa (ab 0) ?_
 refine aa (ar nX) ?_
 refine aa ?_ ae
 refine ag az ?_ (ab 2)
 refine ag bg (ab 1) ?_
 exact ag av (ab 1) ad
abbrev fr:Stmt:=top 14
theorem jo:i5 ["state"] ["state"] (c9 fr):=p8
theorem jj(Fn:pz K "nothing" "nothing" fr f fd):nK P w K mg base oM (k+1) f fd ["state"] (pA K bU):=by
 refine au Fn jo ?_
 intro _ _ _ _ _ _ hr
 refine al ?_
 exact aw (ab 0)
abbrev fj:Stmt:=top 17
theorem jC:i5 ["state"] ["state"] (c9 fj):=p8
theorem jI(nL:nN P w K mg base k "put" ["state","place","part"] aC)(nX:pk K mg "CLOCK" aW)(Fn:pz K "to_zero" "to_zero" fj f fd):nK P w K mg base oM (k+1) f fd ["state"] (pA K bW):=by
 refine au Fn jC ?_
 intro _ _ _ _ _ _ hr
 refine al ?_
 refine aw ?_
 refine aj nL hr ?_
 refine aa (ab 0) ?_
 refine aa (ar nX) ?_
 refine aa ?_ ae
 refine ag bg (af (ab 0) (ar nX)) ?_
 exact ag av (af (ab 0) (ar nX)) ad
abbrev cM:Stmt:=top 29
theorem pJ:i5 ["book","state","press","rows","row","step"] ["book","state","press"] (c9 cM):=p8
theorem gx(pT:nN P w K mg base k "alarm_hour_on" ["state"] aY)(pd:nN P w K mg base k "alarm_minute_on" ["state"] aO)(qo:nN P w K mg base k "alarm_turned" ["state"] bf)(pe:nN P w K mg base k "count_minute_on" ["state"] aM)(ph:nN P w K mg base k "count_second_on" ["state"] aN)(qp:nN P w K mg base k "count_turned" ["state"] bp)(uW:nN P w K mg base k "filled" ["state"] cJ)(tT:nN P w K mg base k "hour_on" ["state"] bV)(sM:nN P w K mg base k "lap_kept" ["state"] cc)(qB:nN P w K mg base k "laps_turned" ["state"] bo)(rJ:nN P w K mg base k "minute_on" ["state"] bC)(tU:nN P w K mg base k "nothing" ["state"] bU)(nL:nN P w K mg base k "put" ["state","place","part"] aC)(tV:nN P w K mg base k "to_zero" ["state"] bW)(pj:pk K mg "MODE" bL)(s_PRESSES:B6 K mg "PRESSES" bY)(wC:zI P w K mg base k "STEPS" rY)(Fn:pz K "press_done" "press_done" cM f fd):nK P w K mg base oM (k+1) f fd ["book","state","press"] (pA K bi):=by
 refine au Fn pJ ?_
 intro _ _ _ _ _ _ hr
 refine ai ?_ ?_
 ·refine ax ?_ ?_
  ·exact af (af (af (ab 0) ad) (af (ab 1) (ar pj))) ad
  exact ak 3 pJ.nd
 refine ai ?_ ?_
 ·refine ax ?_ ?_
  ·refine af (ab 3) ?_
   exact mS s_PRESSES (ab 2)
  exact ak 4 pJ.nd
 refine nA 5 pJ.nd wC (af (ab 4) ad) ?_
 intro fa G_ hF
 refine CN ?_
 refine Ak nL hr ?_
 refine zN ?_ ?_
 ·exact yX hF hr (aa (ab 1) ae)
 exact CF (aa (ar pj) (aa (af (ab 4) ad) ae))
abbrev ge:Stmt:=top 57
theorem vw:i5 ["book","state","button"] ["book","state","button"] (c9 ge):=p8
theorem ke(oF:nN P w K mg base k "is_holding" ["state","button"] bj)(sN:nN P w K mg base k "is_short" ["state","button"] ci)(oG:nN P w K mg base k "press_done" ["book","state","press"] bi)(nL:nN P w K mg base k "put" ["state","place","part"] aC)(nQ:pk K mg "HELD" aT)(pH:pk K mg "IDLE" ca)(Fn:pz K "let_go" "let_go" ge f fd):nK P w K mg base oM (k+1) f fd ["book","state","button"] (pA K dJ):=by
 refine au Fn vw ?_
 intro _ _ _ _ _ _ hr
 refine ai ?_ ?_
 ·refine bx ?_ ?_ aI
  ·refine fv ?_
   refine ce ?_
   exact aj oF hr (aa (ab 1) (aa (ab 2) ae))
  refine al ?_
  exact aw (ab 1)
 refine ai ?_ ?_
 ·refine bx ?_ ?_ aI
  ·refine ce ?_
   exact aj sN hr (aa (ab 1) (aa (ab 2) ae))
  refine al ?_
  refine ax ?_ ?_
  ·exact aj oG hr (aa (ab 0) (aa (ab 1) (aa (ab 2) ae)))
  exact ak 1 vw.nd
 refine al ?_
 refine aw ?_
 refine aj nL hr ?_
 refine aa ?_ (aa (ar pH) (aa ad ae))
 exact aj nL hr (aa (ab 1) (aa (ar nQ) (aa aH ae)))
abbrev gf:Stmt:=top 56
theorem vG:i5 ["state","button","ticks"] ["state","button"] (c9 gf):=p8
theorem kN(nL:nN P w K mg base k "put" ["state","place","part"] aC)(nQ:pk K mg "HELD" aT)(pH:pk K mg "IDLE" ca)(sO:pk K mg "RING" eZ)(Fn:pz K "pushed" "pushed" gf f fd):nK P w K mg base oM (k+1) f fd ["state","button"] (pA K dC):=by
 refine au Fn vG ?_
 intro _ _ _ _ _ _ hr
 refine ai ?_ ?_
 ·refine bx ?_ ?_ aI
  ·exact ay bu (af (ab 0) (ar nQ)) aH
  refine al ?_
  exact aw (ab 0)
 refine ai ?_ ?_
 ·refine ax ?_ ?_
  ·refine gb ?_ aH ad
   exact ay fE (af (ab 0) (ar sO)) ad
  exact ak 2 vG.nd
 refine al ?_
 refine aw ?_
 refine aj nL hr ?_
 refine aa ?_ (aa (ar pH) (aa ad ae))
 refine aj nL hr ?_
 refine aa ?_ ?_
 ·exact aj nL hr (aa (ab 0) (aa (ar sO) (aa ad ae)))
 refine aa (ar nQ) ?_
 refine aa ?_ ae
 exact aq (aa (ab 1) (aa (ab 2) ae))
abbrev eK:Stmt:=top 38
theorem ub:i5 ["count","many","left"] ["count","many"] (c9 eK):=p8
theorem i_(oZ:mg "max" = none)(Fn:pz K "count_on" "count_on" eK f fd):nK P w K mg base oM (k+1) f fd ["count","many"] (pA K cu):=by
 refine au Fn ub ?_
 intro _ _ _ _ _ _ hr
 refine ai ?_ ?_
 ·refine bx ?_ ?_ aI
  ·refine fv ?_
   exact ce (af (ab 0) ad)
  refine al ?_
  exact aw (ab 0)
 refine ai ?_ ?_
 ·refine ax ?_ ?_
  ·refine bE (fw rfl) oZ ?_
   refine aa ad ?_
   refine aa ?_ ae
   exact ag bg (af (ab 0) ad) (ab 1)
  exact ak 2 ub.nd
 refine al ?_
 refine aw ?_
 refine aq ?_
 refine aa (af (ab 0) ad) ?_
 refine aa (af (ab 0) ad) ?_
 refine aa (ab 2) ?_
 refine aa ?_ ae
 exact br fE (ab 2) ad
abbrev eV:Stmt:=top 40
theorem jw:i5 ["held","many"] ["held","many"] (c9 eV):=p8
theorem jN(Fn:pz K "held_on" "held_on" eV f fd):nK P w K mg base oM (k+1) f fd ["held","many"] (pA K cF):=by
 refine au Fn jw ?_
 intro _ _ _ _ _ _ hr
 refine ai ?_ ?_
 ·refine bx ?_ ?_ aI
  ·refine cA ?_
   refine fB ?_ ?_
   ·exact ay dN (ab 0) aH
   refine dB ?_
   exact ay dN (af (ab 0) ad) aH
  refine al ?_
  exact aw (ab 0)
 refine al ?_
 refine aw ?_
 refine aq ?_
 refine aa (af (ab 0) ad) ?_
 refine aa ?_ ae
 exact ag az (af (ab 0) ad) (ab 1)
abbrev bS:Stmt:=top 41
theorem e_:i5 ["book","state"] ["book","state"] (c9 bS):=p8
theorem fc(oZ:mg "max" = none)(pH:pk K mg "IDLE" ca)(Fn:pz K "ticks_to_back" "ticks_to_back" bS f fd):nK P w K mg base oM (k+1) f fd ["book","state"] (pA K aQ):=by
 refine au Fn e_ ?_
 intro _ _ _ _ _ _ hr
 refine al ?_
 refine aw ?_
 refine bE (fw rfl) oZ ?_
 refine aa ad ?_
 refine aa ?_ ae
 exact ag bg (af (ab 0) ad) (af (ab 1) (ar pH))
abbrev fm:Stmt:=top 42
theorem uG:i5 ["book","state","many","ticks"] ["book","state","many"] (c9 fm):=p8
theorem jO(n5:nN P w K mg base k "ticks_to_back" ["book","state"] aQ)(nQ:pk K mg "HELD" aT)(pH:pk K mg "IDLE" ca)(Fn:pz K "idle_on" "idle_on" fm f fd):nK P w K mg base oM (k+1) f fd ["book","state","many"] (pA K cI):=by
 refine au Fn uG ?_
 intro _ _ _ _ _ _ hr
 refine ai ?_ ?_
 ·refine bx ?_ ?_ aI
  ·refine cA ?_
   refine fB ?_ ?_
   ·exact ay bu (af (ab 1) (ar nQ)) aH
   refine dB ?_
   exact ay (df hr) (af (ab 0) ad) ad
  refine al ?_
  exact aw (af (ab 1) (ar pH))
 refine ai ?_ ?_
 ·refine ax ?_ ?_
  ·exact aj n5 hr (aa (ab 0) (aa (ab 1) ae))
  exact ak 3 uG.nd
 refine al ?_
 refine aw ?_
 refine gb ?_ ?_ ?_
 ·exact ay iH (ab 2) (ab 3)
 ·exact ag az (af (ab 1) (ar pH)) (ab 2)
 refine ag av ?_ (af (ab 0) ad)
 exact ag bg (ab 2) (ab 3)
abbrev fx:Stmt:=top 37
theorem jG:i5 ["laps","many"] ["laps","many"] (c9 fx):=p8
theorem jL(Fn:pz K "laps_on" "laps_on" fx f fd):nK P w K mg base oM (k+1) f fd ["laps","many"] (pA K cG):=by
 refine au Fn jG ?_
 intro _ _ _ _ _ _ hr
 refine al ?_
 refine aw ?_
 refine gb ?_ ?_ (ab 0)
 ·exact ce (af (ab 0) ad)
 refine aq ?_
 refine aa ?_ (aa cg (aa (af (ab 0) ad) ae))
 exact ag az (af (ab 0) ad) (ab 1)
abbrev cV:Stmt:=top 32
theorem qA:i5 ["state","alarm","second"] ["state"] (c9 cV):=p8
theorem gL(n4:pk K mg "ALARM" a_)(nX:pk K mg "CLOCK" aW)(rf:pk K mg "DAY" dk)(Fn:pz K "alarm_tick" "alarm_tick" cV f fd):nK P w K mg base oM (k+1) f fd ["state"] (pA K aE):=by
 refine au Fn qA ?_
 intro _ _ _ _ _ _ hr
 refine ai ?_ ?_
 ·refine ax (af (ab 0) (ar n4)) ?_
  exact ak 1 qA.nd
 refine ai ?_ ?_
 ·refine bx ?_ ?_ aI
  ·refine fv ?_
   exact ce (af (ab 1) ad)
  refine al ?_
  exact aw aH
 refine ai ?_ ?_
 ·refine ax ?_ ?_
  ·refine ag az ?_ ?_
   ·exact ag bT ad (af (ab 1) ad)
   exact ag bT ad (af (ab 1) ad)
  exact ak 2 qA.nd
 refine al ?_
 refine aw ?_
 refine ag az ?_ ad
 refine ag av ?_ (ar rf)
 refine ag bg ?_ ad
 exact ag bg (ab 2) (af (ab 0) (ar nX))
abbrev cO:Stmt:=top 33
theorem si:i5 ["state","count"] ["state"] (c9 cO):=p8
theorem gM(nT:pk K mg "COUNT" aL)(Fn:pz K "count_tick" "count_tick" cO f fd):nK P w K mg base oM (k+1) f fd ["state"] (pA K aF):=by
 refine au Fn si ?_
 intro _ _ _ _ _ _ hr
 refine ai ?_ ?_
 ·refine ax (af (ab 0) (ar nT)) ?_
  exact ak 1 si.nd
 refine al ?_
 refine aw ?_
 refine gb ?_ (af (ab 1) ad) aH
 exact ce (af (ab 1) ad)
abbrev dA:Stmt:=top 35
theorem p5:i5 ["state","many","alarm","count","ticks"] ["state","many"] (c9 dA):=p8
theorem hX(nY:nN P w K mg base k "alarm_tick" ["state"] aE)(nZ:nN P w K mg base k "count_tick" ["state"] aF)(oZ:mg "max" = none)(rf:pk K mg "DAY" dk)(Fn:pz K "last_ring" "last_ring" dA f fd):nK P w K mg base oM (k+1) f fd ["state","many"] (pA K bP):=by
 refine au Fn p5 ?_
 intro _ _ _ _ _ _ hr
 refine ai ?_ ?_
 ·refine ax ?_ ?_
  ·exact aj nY hr (aa (ab 0) ae)
  exact ak 2 p5.nd
 refine ai ?_ ?_
 ·refine ax ?_ ?_
  ·exact aj nZ hr (aa (ab 0) ae)
  exact ak 3 p5.nd
 refine jx 4 p5.nd ae ?_
 refine fR ?_ ?_
 ·refine lE ?_ ?_ hZ
  ·refine cA ?_
   refine eF ?_ ?_
   ·exact ay bu (ab 2) aH
   refine dY ?_
   exact ay fz (ab 2) (ab 1)
  refine fY ?_
  refine ji 4 ?_
  refine ag bg (ab 1) ?_
  refine ag av ?_ (ar rf)
  exact ag bg (ab 1) (ab 2)
 refine fR ?_ ?_
 ·refine lE ?_ ?_ hZ
  ·refine cA ?_
   refine eF ?_ ?_
   ·exact ay bu (ab 3) aH
   refine dY ?_
   exact ay fz (ab 3) (ab 1)
  refine fY ?_
  exact ji 4 (ab 3)
 refine jB ?_
 refine al ?_
 refine aw ?_
 exact lV rfl oZ (ab 4)
abbrev eY:Stmt:=top 39
theorem uu:i5 ["state","many","last"] ["state","many"] (c9 eY):=p8
theorem jq(rK:nN P w K mg base k "last_ring" ["state","many"] bP)(oZ:mg "max" = none)(rL:pk K mg "FULL_RING" du)(sO:pk K mg "RING" eZ)(Fn:pz K "ring_on" "ring_on" eY f fd):nK P w K mg base oM (k+1) f fd ["state","many"] (pA K cK):=by
 refine au Fn uu ?_
 intro _ _ _ _ _ _ hr
 refine ai ?_ ?_
 ·refine ax ?_ ?_
  ·exact aj rK hr (aa (ab 0) (aa (ab 1) ae))
  exact ak 2 uu.nd
 refine ai ?_ ?_
 ·refine bx ?_ ?_ aI
  ·exact ay dN (ab 2) aH
  refine al ?_
  refine aw ?_
  refine bE (fw rfl) oZ ?_
  refine aa ad ?_
  refine aa ?_ ae
  exact ag bg (af (ab 0) (ar sO)) (ab 1)
 refine al ?_
 refine aw ?_
 refine bE (fw rfl) oZ ?_
 refine aa ad ?_
 refine aa ?_ ae
 refine ag bg (ar rL) ?_
 exact ag bg (ab 1) (ab 2)
abbrev fe:Stmt:=top 43
theorem jA:i5 ["book","state","many"] ["book","state","many"] (c9 fe):=p8
theorem jn(sP:nN P w K mg base k "count_on" ["count","many"] cu)(tW:nN P w K mg base k "held_on" ["held","many"] cF)(tX:nN P w K mg base k "idle_on" ["book","state","many"] cI)(tY:nN P w K mg base k "laps_on" ["laps","many"] cG)(tZ:nN P w K mg base k "ring_on" ["state","many"] cK)(n4:pk K mg "ALARM" a_)(nX:pk K mg "CLOCK" aW)(nT:pk K mg "COUNT" aL)(rf:pk K mg "DAY" dk)(nQ:pk K mg "HELD" aT)(pS:pk K mg "LAPS" bK)(pj:pk K mg "MODE" bL)(Fn:pz K "counted" "counted" fe f fd):nK P w K mg base oM (k+1) f fd ["book","state","many"] (pA K bH):=by
 refine au Fn jA ?_
 intro _ _ _ _ _ _ hr
 refine al ?_
 refine aw ?_
 refine aq ?_
 refine aa (af (ab 1) (ar pj)) ?_
 refine aa ?_ ?_
 ·refine ag av ?_ (ar rf)
  exact ag az (af (ab 1) (ar nX)) (ab 2)
 refine aa (af (ab 1) (ar n4)) ?_
 refine aa ?_ ?_
 ·refine aj tY hr ?_
  exact aa (af (ab 1) (ar pS)) (aa (ab 2) ae)
 refine aa ?_ ?_
 ·refine aj sP hr ?_
  exact aa (af (ab 1) (ar nT)) (aa (ab 2) ae)
 refine aa ?_ ?_
 ·exact aj tZ hr (aa (ab 1) (aa (ab 2) ae))
 refine aa ?_ ?_
 ·refine aj tW hr ?_
  exact aa (af (ab 1) (ar nQ)) (aa (ab 2) ae)
 refine aa ?_ ae
 exact aj tX hr (aa (ab 0) (aa (ab 1) (aa (ab 2) ae)))
abbrev dO:Stmt:=top 44
theorem h_:i5 ["book","state"] ["book","state"] (c9 dO):=p8
theorem il(pj:pk K mg "MODE" bL)(Fn:pz K "goes_back" "goes_back" dO f fd):nK P w K mg base oM (k+1) f fd ["book","state"] (pA K bM):=by
 refine au Fn h_ ?_
 intro _ _ _ _ _ _ hr
 refine al ?_
 refine aw ?_
 refine eE ?_ ?_
 ·exact br fE (af (ab 0) ad) ad
 refine eE ?_ ?_
 ·exact br (mv hr) (af (ab 1) (ar pj)) ad
 refine fq ?_
 refine ij ?_
 exact af (af (af (ab 0) ad) (af (ab 1) (ar pj))) ad
abbrev bR:Stmt:=top 45
theorem eW:i5 ["book","state"] ["book","state"] (c9 bR):=p8
theorem fy(oZ:mg "max" = none)(nQ:pk K mg "HELD" aT)(Fn:pz K "ticks_to_long" "ticks_to_long" bR f fd):nK P w K mg base oM (k+1) f fd ["book","state"] (pA K bm):=by
 refine au Fn eW ?_
 intro _ _ _ _ _ _ hr
 refine al ?_
 refine aw ?_
 refine bE (fw rfl) oZ ?_
 refine aa ad ?_
 refine aa ?_ ae
 exact ag bg (af (ab 0) ad) (af (af (ab 1) (ar nQ)) ad)
abbrev di:Stmt:=top 46
theorem sX:i5 ["book","state","held"] ["book","state"] (c9 di):=p8
theorem ig(rM:nN P w K mg base k "goes_back" ["book","state"] bM)(n5:nN P w K mg base k "ticks_to_back" ["book","state"] aQ)(pU:nN P w K mg base k "ticks_to_long" ["book","state"] bm)(nQ:pk K mg "HELD" aT)(Fn:pz K "turn_tick" "turn_tick" di f fd):nK P w K mg base oM (k+1) f fd ["book","state"] (pA K be):=by
 refine au Fn sX ?_
 intro _ _ _ _ _ _ hr
 refine ai ?_ ?_
 ·refine ax (af (ab 1) (ar nQ)) ?_
  exact ak 2 sX.nd
 refine ai ?_ ?_
 ·refine bx ?_ ?_ aI
  ·exact ay dN (ab 2) aH
  refine al ?_
  refine aw ?_
  refine gb ?_ ?_ aH
  ·refine ce ?_
   exact aj rM hr (aa (ab 0) (aa (ab 1) ae))
  exact aj n5 hr (aa (ab 0) (aa (ab 1) ae))
 refine al ?_
 refine aw ?_
 refine gb ?_ aH ?_
 ·exact ay dN (af (ab 2) ad) aH
 exact aj pU hr (aa (ab 0) (aa (ab 1) ae))
abbrev gv:Stmt:=top 47
theorem vv:i5 ["book","state","held"] ["book","state"] (c9 gv):=p8
theorem kC(oG:nN P w K mg base k "press_done" ["book","state","press"] bi)(nL:nN P w K mg base k "put" ["state","place","part"] aC)(nQ:pk K mg "HELD" aT)(pj:pk K mg "MODE" bL)(Fn:pz K "turned" "turned" gv f fd):nK P w K mg base oM (k+1) f fd ["book","state"] (pA K dt):=by
 refine au Fn vv ?_
 intro _ _ _ _ _ _ hr
 refine ai ?_ ?_
 ·refine ax (af (ab 1) (ar nQ)) ?_
  exact ak 2 vv.nd
 refine ai ?_ ?_
 ·refine bx ?_ ?_ aI
  ·exact ay dN (ab 2) aH
  refine al ?_
  refine aw ?_
  exact aj nL hr (aa (ab 1) (aa (ar pj) (aa ad ae)))
 refine al ?_
 refine aw ?_
 refine aj oG hr ?_
 refine aa (ab 0) ?_
 refine aa ?_ ?_
 ·refine aj nL hr ?_
  refine aa (ab 1) ?_
  refine aa (ar nQ) ?_
  refine aa ?_ ae
  exact aq (aa (af (ab 2) ad) (aa aH ae))
 refine aa ?_ ae
 exact nz (af (ab 2) ad)
abbrev cD:Stmt:=top 48
theorem gt:i5 ["book","state"] ["book","state"] (c9 cD):=p8
theorem gk(qb:nN P w K mg base k "counted" ["book","state","many"] bH)(n9:nN P w K mg base k "turn_tick" ["book","state"] be)(uX:nN P w K mg base k "turned" ["book","state"] dt)(Fn:pz K "behind_turn" "behind_turn" cD f fd):nK P w K mg base oM (k+1) f fd ["book","state"] (pA K aS):=by
 refine au Fn gt ?_
 intro _ _ _ _ _ _ hr
 refine al ?_
 refine aw ?_
 refine aj uX hr ?_
 refine aa (ab 0) ?_
 refine aa ?_ ae
 refine aj qb hr ?_
 refine aa (ab 0) ?_
 refine aa (ab 1) ?_
 refine aa ?_ ae
 exact aj n9 hr (aa (ab 0) (aa (ab 1) ae))
abbrev dM:Stmt:=top 49
theorem tq:i5 ["book","state","many","turn"] ["book","state","many"] (c9 dM):=p8
theorem ic(oq:nN P w K mg base k "behind_turn" ["book","state"] aS)(n9:nN P w K mg base k "turn_tick" ["book","state"] be)(Fn:pz K "stretches" "stretches" dM f fd):nK P w K mg base oM (k+1) f fd ["book","state","many"] (pA K aZ):=by
 refine au Fn tq ?_
 intro _ _ _ _ _ _ hr
 refine ai ?_ ?_
 ·refine ax ?_ ?_
  ·exact aj n9 hr (aa (ab 0) (aa (ab 1) ae))
  exact ak 3 tq.nd
 refine ai ?_ ?_
 ·refine bx ?_ ?_ aI
  ·refine cA ?_
   refine fB ?_ ?_
   ·exact ay dN (ab 3) aH
   refine dB ?_
   exact ay fE (ab 3) (ab 2)
  refine al ?_
  refine aw ?_
  refine jh ?_
  refine aa ?_ ae
  exact aq (aa ad (aa (ab 1) (aa (ab 2) ae)))
 refine al ?_
 refine aw ?_
 refine jh ?_
 refine aa ?_ ?_
 ·exact aq (aa ad (aa (ab 1) (aa (ab 3) ae)))
 refine aa ?_ ae
 refine aq ?_
 refine aa (ab 3) ?_
 refine aa ?_ ?_
 ·exact aj oq hr (aa (ab 0) (aa (ab 1) ae))
 refine aa ?_ ae
 exact ag bg (ab 2) (ab 3)
abbrev f_:Stmt:=top 50
theorem vB:i5 ["book","state","many","last"] ["book","state","many"] (c9 f_):=p8
theorem kH(qb:nN P w K mg base k "counted" ["book","state","many"] bH)(oT:nN P w K mg base k "stretches" ["book","state","many"] aZ)(Fn:pz K "ticked" "ticked" f_ f fd):nK P w K mg base oM (k+1) f fd ["book","state","many"] (pA K dq):=by
 refine au Fn vB ?_
 intro _ _ _ _ _ _ hr
 refine ai ?_ ?_
 ·refine ax ?_ ?_
  ·refine af ?_ ?_
   ·exact aj oT hr (aa (ab 0) (aa (ab 1) (aa (ab 2) ae)))
   exact nh mI ad
  exact ak 3 vB.nd
 refine al ?_
 refine aw ?_
 refine aj qb hr ?_
 refine aa (ab 0) ?_
 exact aa (af (ab 3) ad) (aa (af (ab 3) ad) ae)
abbrev jg:Stmt:=top 55
theorem ml:i5 ["book","state","event"] ["book","state","event"] (c9 jg):=p8
theorem lY(uY:nN P w K mg base k "let_go" ["book","state","button"] dJ)(uZ:nN P w K mg base k "pushed" ["state","button"] dC)(u0:nN P w K mg base k "ticked" ["book","state","many"] dq)(Fn:pz K "gone" "gone" jg f fd):nK P w K mg base oM (k+1) f fd ["book","state","event"] (pA K dH):=by
 refine au Fn ml ?_
 intro _ _ _ _ _ _ hr
 refine ai ?_ ?_
 ·refine bx ?_ ?_ aI
  ·exact ay (df hr) (af (ab 2) ad) aK
  refine al ?_
  refine aw ?_
  exact aj uZ hr (aa (ab 1) (aa (af (ab 2) ad) ae))
 refine ai ?_ ?_
 ·refine bx ?_ ?_ aI
  ·exact ay (df hr) (af (ab 2) ad) aK
  refine al ?_
  refine aw ?_
  refine aj uY hr ?_
  exact aa (ab 0) (aa (ab 1) (aa (af (ab 2) ad) ae))
 refine al ?_
 refine aw ?_
 refine aj u0 hr ?_
 exact aa (ab 0) (aa (ab 1) (aa (af (ab 2) ad) ae))
abbrev cR:Stmt:=top 34
theorem gE:i5 ["state"] ["state"] (c9 cR):=p8
theorem gA(nY:nN P w K mg base k "alarm_tick" ["state"] aE)(nZ:nN P w K mg base k "count_tick" ["state"] aF)(Ax:mg "min" = none)(Fn:pz K "first_ring" "first_ring" cR f fd):nK P w K mg base oM (k+1) f fd ["state"] (pA K bv):=by
 refine au Fn gE ?_
 intro _ _ _ _ _ _ hr
 refine al ?_
 refine aw ?_
 refine mo rfl Ax ?_
 refine gQ (T:=["tick"]) rfl ?_ ?_ ?_ (fun C s₃ H₃ fp=>(ab 0)) (p9 (by decide)) (show List.Nodup ((["tick"]:List Str)++(["state"]:List Str)) from by decide +kernel)
 ·refine gj ?_
  refine aq ?_
  refine aa ?_ ?_
  ·exact aj nY hr (aa (ab 0) ae)
  refine aa ?_ ae
  exact aj nZ hr (aa (ab 0) ae)
 ·intro C s₃ H₃ fp
  exact ak 0 (show List.Nodup (["tick" ,"state"]:List Str) from by decide +kernel)
 intro C s₃ H₃ fp
 refine lP ?_
 exact ay bu (ab 0) aH
abbrev dw:Stmt:=top 53
theorem p4:i5 ["book","state","first","turn","later"] ["book","state"] (c9 dw):=p8
theorem g_(oq:nN P w K mg base k "behind_turn" ["book","state"] aS)(p6:nN P w K mg base k "first_ring" ["state"] bv)(n9:nN P w K mg base k "turn_tick" ["book","state"] be)(Fn:pz K "next_ring" "next_ring" dw f fd):nK P w K mg base oM (k+1) f fd ["book","state"] (pA K bh):=by
 refine au Fn p4 ?_
 intro _ _ _ _ _ _ hr
 refine ai ?_ ?_
 ·refine ax ?_ ?_
  ·exact aj p6 hr (aa (ab 1) ae)
  exact ak 2 p4.nd
 refine ai ?_ ?_
 ·refine ax ?_ ?_
  ·exact aj n9 hr (aa (ab 0) (aa (ab 1) ae))
  exact ak 3 p4.nd
 refine ai ?_ ?_
 ·refine bx ?_ ?_ aI
  ·refine cA ?_
   refine fB ?_ ?_
   ·exact ay dN (ab 3) aH
   refine dB ?_
   refine cA ?_
   refine eF ?_ ?_
   ·exact ay bu (ab 2) aH
   refine dY ?_
   exact ay fz (ab 2) (ab 3)
  refine al ?_
  exact aw (ab 2)
 refine ai ?_ ?_
 ·refine ax ?_ ?_
  ·refine aj p6 hr ?_
   refine aa ?_ ae
   exact aj oq hr (aa (ab 0) (aa (ab 1) ae))
  exact ak 4 p4.nd
 refine al ?_
 refine aw ?_
 refine gb ?_ aH ?_
 ·exact ay dN (ab 4) aH
 exact ag az (ab 3) (ab 4)
abbrev cU:Stmt:=top 36
theorem oN:i5 ["state","many","alarm","count","ticks"] ["state","many"] (c9 cU):=p8
theorem gw(nY:nN P w K mg base k "alarm_tick" ["state"] aE)(nZ:nN P w K mg base k "count_tick" ["state"] aF)(t6:mg "list" = none)(ov:mg "range" = none)(vN:mg "set" = none)(qL:mg "sorted" = none)(rf:pk K mg "DAY" dk)(Fn:pz K "ring_ticks" "ring_ticks" cU f fd):nK P w K mg base oM (k+1) f fd ["state","many"] (pA K bb):=by
 refine au Fn oN ?_
 intro _ _ _ _ _ _ hr
 refine ai ?_ ?_
 ·refine ax ?_ ?_
  ·exact aj nY hr (aa (ab 0) ae)
  exact ak 2 oN.nd
 refine ai ?_ ?_
 ·refine ax ?_ ?_
  ·exact aj nZ hr (aa (ab 0) ae)
  exact ak 3 oN.nd
 refine jx 4 oN.nd ae ?_
 refine lx 4 rfl t6 ov oN.nd ?_ (ab 2) ?_ (ar rf) ?_
 ·exact ay bu (ab 2) aH
 ·exact ag az (ab 1) ad
 refine fR ?_ ?_
 ·refine lE ?_ ?_ hZ
  ·refine cA ?_
   refine eF ?_ ?_
   ·exact ay bu (ab 3) aH
   refine dY ?_
   exact ay fz (ab 3) (ab 1)
  refine fY ?_
  exact ji 4 (ab 3)
 refine jB ?_
 refine al ?_
 refine aw ?_
 exact ni rfl qL vN (ab 4)
abbrev io:Stmt:=top 52
theorem uT:i5 ["book","state","many","stretch","ticks"] ["book","state","many"] (c9 io):=p8
theorem kZ(qX:nN P w K mg base k "ring_ticks" ["state","many"] bb)(oT:nN P w K mg base k "stretches" ["book","state","many"] aZ)(pL:mg "tuple" = none)(Fn:pz K "rings" "rings" io f fd):nK P w K mg base oM (k+1) f fd ["book","state","many"] (pA K cx):=by
 refine au Fn uT ?_
 intro _ _ _ _ _ _ hr
 refine jx 4 uT.nd ae ?_
 refine fR ?_ ?_
 ·refine mC PassesOwn.never rfl ?_ ?_ ?_
  ·refine gj ?_
   exact aj oT hr (aa (ab 0) (aa (ab 1) (aa (ab 2) ae)))
  ·exact ak 3 uT.nd
  refine fY ?_
  refine mK 4 ?_
  refine gQ (T:=["tick"]) rfl ?_ ?_ ?_ ?_ (p9 (by decide)) (show List.Nodup ((["tick"]:List Str)++(["book" ,"state" ,"many" ,"stretch" ,"ticks"]:List Str)) from by decide +kernel)
  ·refine gj ?_
   refine aj qX hr ?_
   exact aa (af (ab 3) ad) (aa (af (ab 3) ad) ae)
  ·intro C s₃ H₃ fp
   exact ak 0 (show List.Nodup (["tick" ,"book" ,"state" ,"many" ,"stretch" ,"ticks"]:List Str) from by decide +kernel)
  ·intro C s₃ H₃ fp
   exact hW
  intro C s₃ H₃ fp
  exact ag az (af (ab 4) ad) (ab 0)
 refine jB ?_
 refine al ?_
 refine aw ?_
 exact dL gs pL (aa (ab 4) ae)
abbrev eR:Stmt:=top 66
theorem qj:i5 ["_law_script","_law_book_here","_law_state_here","_law_rows","_law_late","_law_then","_law_first","_law_many","_law_some","_law_part","_law_later"] ["_law_script"] (c9 eR):=p8
theorem nc(rN:nN P w K mg base k "_law_book" ["_law_number"] bN)(oH:nN P w K mg base k "_law_mixed" ["_law_script","_law_k"] ba)(qY:nN P w K mg base k "_law_state" ["_law_book_here","_law_number"] bw)(t7:nN P w K mg base k "gone" ["book","state","event"] dH)(oU:nN P w K mg base k "next_ring" ["book","state"] bh)(r_:nN P w K mg base k "rings" ["book","state","many"] cx)(Ay:mg "int" = none)(t6:mg "list" = none)(ov:mg "range" = none)(vN:mg "set" = none)(qL:mg "sorted" = none)(pL:mg "tuple" = none)(Fn:pz K "law" "law" eR f fd):nK P w K mg base oM (k+1) f fd ["_law_script"] (pA K ja):=by
 refine au Fn qj ?_
 intro _ _ _ _ _ _ hr
 refine ai ?_ ?_
 ·refine ax ?_ ?_
  ·refine aj rN hr ?_
   refine aa ?_ ae
   exact aj oH hr (aa (ab 0) (aa ad ae))
  exact ak 1 qj.nd
 refine ai ?_ ?_
 ·refine ax ?_ ?_
  ·refine aj qY hr ?_
   refine aa (ab 1) ?_
   refine aa ?_ ae
   exact aj oH hr (aa (ab 0) (aa ad ae))
  exact ak 2 qj.nd
 refine ai ?_ ?_
 ·refine ax ?_ ?_
  ·refine ag az ?_ ?_
   ·refine ag az ?_ ?_
    ·refine ag jZ ?_ ad
     refine aq ?_
     refine aa ?_ ae
     exact aq (aa aK (aa ad ae))
    refine aq ?_
    refine aa ?_ ae
    exact aq (aa aK (aa ad ae))
   refine ag jZ ?_ ad
   refine aq ?_
   refine aa ?_ ae
   exact aq (aa aK (aa ad ae))
  exact ak 3 qj.nd
 refine ai ?_ ?_
 ·refine ax ?_ ?_
  ·refine aq ?_
   refine aa (af (ab 1) ad) ?_
   refine aa ad ?_
   refine aa ?_ ae
   refine aq ?_
   refine aa ?_ ae
   exact aq (aa aK (aa cg (aa (ab 3) ae)))
  exact ak 4 qj.nd
 refine ai ?_ ?_
 ·refine ax ?_ ?_
  ·refine ag az ?_ ?_
   ·refine ag az ?_ ?_
    ·refine aq ?_
     refine aa ad ?_
     refine aa ?_ ?_
     ·exact ag bg ad (af (ab 1) ad)
     refine aa ?_ ae
     exact aq (aa ad (aa ad (aa cg ae)))
    refine dD (ab 2) ?_ ?_
    ·exact d_ ad
    exact d_ ad
   refine aq ?_
   refine aa ?_ ?_
   ·refine aq ?_
    exact aa ad (aa ad (aa ad (aa cg ae)))
   refine aa ad ?_
   refine aa ?_ (aa ad ae)
   exact aq (aa aK (aa ad ae))
  exact ak 5 qj.nd
 refine ai ?_ ?_
 ·refine bx ?_ ?_ aI
  ·refine cA ?_
   refine fB ?_ ?_
   ·refine ay (eL hr) ?_ ?_
    ·exact aj oU hr (aa (ab 4) (aa (ab 5) ae))
    exact ag az ad (af (ab 1) ad)
   refine dB ?_
   refine ay bu ?_ aH
   refine aj oU hr ?_
   refine aa (ab 4) ?_
   refine aa ?_ ae
   refine ag az ?_ ?_
   ·refine dD (ab 5) fX ?_
    exact d_ ad
   exact aq (aa aH (aa ad ae))
  refine al ?_
  exact aw cg
 refine ai ?_ ?_
 ·refine ax ?_ ?_
  ·exact aj oU hr (aa (ab 1) (aa (ab 2) ae))
  exact ak 6 qj.nd
 refine ai ?_ ?_
 ·refine ax ?_ ?_
  ·refine ag az ad ?_
   refine ag av ?_ ad
   exact aj oH hr (aa (ab 0) (aa ad ae))
  exact ak 7 qj.nd
 refine ai ?_ ?_
 ·refine ax ?_ ?_
  ·exact aj r_ hr (aa (ab 1) (aa (ab 2) (aa (ab 7) ae)))
  exact ak 8 qj.nd
 refine ai ?_ ?_
 ·refine bx ?_ ?_ aI
  ·refine cA ?_
   refine fB ?_ ?_
   ·refine ay (eL hr) ?_ ?_
    ·exact dL lS t6 (aa (ab 8) ae)
    exact mN rfl qL vN (ab 8)
   refine dB ?_
   refine ay (eL hr) ?_ ?_
   ·refine gQ (T:=["_law_at"]) rfl ?_ ?_ ?_ (fun C s₃ H₃ fp=>(ab 0)) (p9 (by decide)) (show List.Nodup ((["_law_at"]:List Str)++(["_law_script" ,"_law_book_here" ,"_law_state_here" ,"_law_rows" ,"_law_late" ,"_law_then" ,"_law_first" ,"_law_many" ,"_law_some" ,"_law_part" ,"_law_later"]:List Str)) from by decide +kernel)
    ·exact gj (ab 8)
    ·intro C s₃ H₃ fp
     exact ak 0 (show List.Nodup (["_law_at" ,"_law_script" ,"_law_book_here" ,"_law_state_here" ,"_law_rows" ,"_law_late" ,"_law_then" ,"_law_first" ,"_law_many" ,"_law_some" ,"_law_part" ,"_law_later"]:List Str) from by decide +kernel)
    intro C s₃ H₃ fp
    refine lP ?_
    refine fv ?_
    exact lO fz fz ad (ab 0) (ab 8)
   exact jh ae
  refine al ?_
  exact aw cg
 refine ai ?_ ?_
 ·refine bx ?_ ?_ aI
  ·exact ay dN (ab 6) aH
  refine al ?_
  refine aw ?_
  refine br (lA hr) (ab 8) ?_
  exact aq ae
 refine ai ?_ ?_
 ·refine bx ?_ ?_ aI
  ·refine cA ?_
   refine fB ?_ ?_
   ·refine ay (eL hr) ?_ ?_
    ·refine dD (ab 8) fX ?_
     exact d_ ad
    refine ag lX ?_ ?_
    ·exact aq (aa (ab 6) ae)
    refine dL mZ Ay ?_
    refine aa ?_ ae
    exact br fz (ab 6) (ab 7)
   refine dB ?_
   exact ay iH (ab 6) ad
  refine al ?_
  exact aw cg
 refine ai ?_ ?_
 ·refine bx ?_ ?_ aI
  ·refine ay (mv hr) ?_ ad
   refine af ?_ ad
   refine aj t7 hr ?_
   refine aa (ab 1) ?_
   refine aa (ab 2) ?_
   refine aa ?_ ae
   exact aq (aa aK (aa (ab 6) ae))
  refine al ?_
  exact aw cg
 refine ai ?_ ?_
 ·refine bx ?_ ?_ aI
  ·exact ay fE (ab 6) ad
  refine ai ?_ ?_
  ·refine bx ?_ ?_ aI
   ·refine cA ?_
    refine fB ?_ ?_
    ·refine ay (eL hr) ?_ ?_
     ·refine aj r_ hr ?_
      refine aa (ab 1) ?_
      refine aa (ab 2) ?_
      refine aa ?_ ae
      exact ag bg (ab 6) ad
     exact aq ae
    refine dB ?_
    refine cA ?_
    refine eF ?_ ?_
    ·refine ay (df hr) ?_ ad
     refine af ?_ ad
     refine aj t7 hr ?_
     refine aa (ab 1) ?_
     refine aa (ab 2) ?_
     refine aa ?_ ae
     refine aq ?_
     refine aa aK ?_
     refine aa ?_ ae
     exact ag bg (ab 6) ad
    refine dY ?_
    exact ay iH (af (ab 2) ad) ad
   refine al ?_
   exact aw cg
  refine al ?_
  refine bx ?_ ?_ aI
  ·refine ay (eL hr) ?_ ad
   refine aj oU hr ?_
   refine aa (ab 1) ?_
   refine aa ?_ ae
   refine aj t7 hr ?_
   refine aa (ab 1) ?_
   refine aa (ab 2) ?_
   refine aa ?_ ae
   refine aq ?_
   refine aa aK ?_
   refine aa ?_ ae
   exact ag bg (ab 6) ad
  refine al ?_
  exact aw cg
 refine ai ?_ ?_
 ·refine ax ?_ ?_
  ·refine ag az ad ?_
   refine ag av ?_ (ab 7)
   exact aj oH hr (aa (ab 0) (aa ad ae))
  exact ak 9 qj.nd
 refine ai ?_ ?_
 ·refine bx ?_ ?_ aI
  ·exact ay iH (ab 9) (ab 7)
  refine ai ?_ ?_
  ·refine ax ?_ ?_
   ·refine aj r_ hr ?_
    refine aa (ab 1) ?_
    refine aa ?_ ?_
    ·refine aj t7 hr ?_
     refine aa (ab 1) ?_
     refine aa (ab 2) ?_
     refine aa ?_ ae
     exact aq (aa aK (aa (ab 9) ae))
    refine aa ?_ ae
    exact ag bg (ab 7) (ab 9)
   exact ak 10 qj.nd
  refine al ?_
  refine bx ?_ ?_ aI
  ·refine ay (eL hr) ?_ (ab 8)
   refine ag az ?_ ?_
   ·exact aj r_ hr (aa (ab 1) (aa (ab 2) (aa (ab 9) ae)))
   refine dL gs pL ?_
   refine aa ?_ ae
   refine gQ (T:=["_law_at"]) rfl ?_ ?_ ?_ ?_ (p9 (by decide)) (show List.Nodup ((["_law_at"]:List Str)++(["_law_script" ,"_law_book_here" ,"_law_state_here" ,"_law_rows" ,"_law_late" ,"_law_then" ,"_law_first" ,"_law_many" ,"_law_some" ,"_law_part" ,"_law_later"]:List Str)) from by decide +kernel)
   ·exact gj (ab 10)
   ·intro C s₃ H₃ fp
    exact ak 0 (show List.Nodup (["_law_at" ,"_law_script" ,"_law_book_here" ,"_law_state_here" ,"_law_rows" ,"_law_late" ,"_law_then" ,"_law_first" ,"_law_many" ,"_law_some" ,"_law_part" ,"_law_later"]:List Str) from by decide +kernel)
   ·intro C s₃ H₃ fp
    exact hW
   intro C s₃ H₃ fp
   exact ag az (ab 10) (ab 0)
  refine al ?_
  exact aw cg
 refine ai ?_ ?_
 ·refine bx ?_ ?_ aI
  ·refine cA ?_
   refine eF ?_ ?_
   ·exact ay dN (af (ab 2) ad) aH
   refine eF ?_ ?_
   ·exact ce (af (af (ab 2) ad) ad)
   refine dY ?_
   refine fv ?_
   exact ce (af (af (ab 2) ad) ad)
  refine al ?_
  refine aw ?_
  refine eE ?_ ?_
  ·refine br (lA hr) (ab 8) ?_
   refine mQ rfl pL ov (ab 6) ?_ ad
   exact ag az (ab 7) ad
  refine fq ?_
  exact br fz (ab 6) ad
 refine al ?_
 exact aw cg
end HW
namespace HW
open PySem PySem.Spec PyProof.Rows L2
theorem vI(K:W.Frag)(H:Hp):∀ns:List Int,i9 K H (ns.map .int) (ns.map V.int)
 | []=>rfl
 | n::ns=>⟨.int n,_,rfl,rfl,vI K H ns⟩
theorem all_mk{l:W.OpenLaw}{w:World}{K:W.Frag}{h:Heap}{mg:Str->Option Value}{fa:Addr}
  {f47:Addr} {od47 an47:Option Addr} {sl47:Array (Option Value)} {oc47 kV47 dc47 pm47 cd47 ct47:Value}
  {Az:Tok}
  {AA:Tok}
  {AB:Tok}
  {Dj:Tok}
  {wD:Tok}
  {Bv:Tok}
  {Bw:Tok}
  {Bx:Tok}
  {By:Tok}
  {wF:Tok}
  {Bz:Tok}
  {sQ:Addr} {x8:Nat} {x9:Array (Option Value)} {x_ ya yb yc yd ye:Tok}
  {u3:Addr} {AC:Nat} {zb zc zd ze zf zg zh zi zj zk yf yg yh:Tok}
  {f0 f1 f2 f3 f4 f5 f6 f7 f8 f9 f10 f11 f12 f13 f14 f15 f16 f17 f18 f19 f20 f21 f22 f23 f24 f25 f26 f27 f28 f29 f30 f31 f32 f33 f34 f35 f36 f37 f38 f39 f40 f41 f42 f43 f44 f45 f46:Addr}
  (X:K.In h) (G:h.Ns mainGlobals mg) (hfa:mg "law" = some (.ref fa))
  (a0:pZ K "_law_drawn" cQ f0)
  (a1:pZ K "_law_book" dP f1)
  (a2:pZ K "_law_cell_at" cb f2)
  (a3:pZ K "_law_mixed" cL f3)
  (a4:pZ K "_law_state" cW f4)
  (a5:pZ K "is_holding" cN f5)
  (a6:pZ K "is_short" eB f6)
  (a7:pZ K "put" lg f7)
  (a8:pZ K "alarm_hour_on" bQ f8)
  (a9:pZ K "alarm_minute_on" bG f9)
  (a10:pZ K "alarm_turned" b_ f10)
  (a11:pZ K "set_to" gh f11)
  (a12:pZ K "count_minute_on" bF f12)
  (a13:pZ K "count_second_on" bD f13)
  (a14:pZ K "count_turned" cw f14)
  (a15:pZ K "filled" gr f15)
  (a16:pZ K "hour_on" fh f16)
  (a17:pZ K "lap_kept" et f17)
  (a18:pZ K "laps_turned" cE f18)
  (a19:pZ K "minute_on" dS f19)
  (a20:pZ K "nothing" fr f20)
  (a21:pZ K "to_zero" fj f21)
  (a22:pZ K "press_done" cM f22)
  (a23:pZ K "let_go" ge f23)
  (a24:pZ K "pushed" gf f24)
  (a25:pZ K "count_on" eK f25)
  (a26:pZ K "held_on" eV f26)
  (a27:pZ K "ticks_to_back" bS f27)
  (a28:pZ K "idle_on" fm f28)
  (a29:pZ K "laps_on" fx f29)
  (a30:pZ K "alarm_tick" cV f30)
  (a31:pZ K "count_tick" cO f31)
  (a32:pZ K "last_ring" dA f32)
  (a33:pZ K "ring_on" eY f33)
  (a34:pZ K "counted" fe f34)
  (a35:pZ K "goes_back" dO f35)
  (a36:pZ K "ticks_to_long" bR f36)
  (a37:pZ K "turn_tick" di f37)
  (a38:pZ K "turned" gv f38)
  (a39:pZ K "behind_turn" cD f39)
  (a40:pZ K "stretches" dM f40)
  (a41:pZ K "ticked" f_ f41)
  (a42:pZ K "gone" jg f42)
  (a43:pZ K "first_ring" cR f43)
  (a44:pZ K "next_ring" dw f44)
  (a45:pZ K "ring_ticks" cU f45)
  (a46:pZ K "rings" io f46)
  (a47:W.nsIn K mainGlobals "law" = some (some (.ref f47))) (l47:K.lookup f47=some ⟨oc47,od47,.func (W.fnOf "law" "law" (qt eR) (oW eR) (c9 eR) .none kV47 dc47 pm47 an47 cd47 ct47),sl47⟩) (c47:W.codeIn K cd47 "law" = true) (k47:W.keepIn K (.ref f47)=true)
  (Ej:W.nsIn K mainGlobals "int" = some none)
  (Ek:W.nsIn K mainGlobals "len" = some none)
  (Dk:W.nsIn K mainGlobals "list" = some none)
  (El:W.nsIn K mainGlobals "max" = some none)
  (Em:W.nsIn K mainGlobals "min" = some none)
  (BA:W.nsIn K mainGlobals "range" = some none)
  (En:W.nsIn K mainGlobals "set" = some none)
  (AD:W.nsIn K mainGlobals "sorted" = some none)
  (BB:W.nsIn K mainGlobals "tuple" = some none)
  (q_ALARM:W.nsIn K mainGlobals "ALARM" = some (some (.int 2 Az)))
  (q_CLOCK:W.nsIn K mainGlobals "CLOCK" = some (some (.int 1 AA)))
  (q_COUNT:W.nsIn K mainGlobals "COUNT" = some (some (.int 4 AB)))
  (q_DAY:W.nsIn K mainGlobals "DAY" = some (some (.int 86400 Dj)))
  (q_FULL_RING:W.nsIn K mainGlobals "FULL_RING" = some (some (.int 10 wD)))
  (q_HELD:W.nsIn K mainGlobals "HELD" = some (some (.int 6 Bv)))
  (q_IDLE:W.nsIn K mainGlobals "IDLE" = some (some (.int 7 Bw)))
  (q_LAPS:W.nsIn K mainGlobals "LAPS" = some (some (.int 3 Bx)))
  (q_MODE:W.nsIn K mainGlobals "MODE" = some (some (.int 0 By)))
  (q_MOST_KEPT:W.nsIn K mainGlobals "MOST_KEPT" = some (some (.int 4 wF)))
  (q_RING:W.nsIn K mainGlobals "RING" = some (some (.int 5 Bz)))
  (q_PRESSES:W.nsIn K mainGlobals "PRESSES" = some (some (.ref sQ)))
  (rs_PRESSES:K.lookup sQ=some ⟨.type "tuple",none,.seq #[.str (oS "a") x_,.str (oS "b") ya,.str (oS "c") yb,.str (oS "A") yc,.str (oS "B") yd,.str (oS "C") ye] x8,x9⟩)
  (q_STEPS:W.nsIn K mainGlobals "STEPS" = some (some (.ref u3)))
  (r_STEPS:K.lookup u3=some ⟨.type "dict",none,.dict (entries w [(oS "none",zb,.ref f20),(oS "hour",zc,.ref f16),(oS "minute",zd,.ref f19),(oS "zero",ze,.ref f21),(oS "ahour",zf,.ref f8),(oS "aminute",zg,.ref f9),(oS "alarm",zh,.ref f10),(oS "run",zi,.ref f18),(oS "lap",zj,.ref f17),(oS "cminute",zk,.ref f12),(oS "csecond",yf,.ref f13),(oS "full",yg,.ref f15),(oS "count",yh,.ref f14)]).toArray AC,#[]⟩) :
  ∃fd:FuncData,(∀(s:Shared) (v:Value),BindsTo s fd ⟨[v],[]⟩ [("_law_script",v)])/\∀base:Heap,K.In base->base.Ns mainGlobals mg->nK l.prog w K mg base oM 10 fa fd ["_law_script"] (pA K ja):=by
 have e:=hfa.symm.trans (W.mg_of X G a47)
 cases e
 obtain⟨d0,F0,a0⟩:=qc a0
 have b0:=F0.binds (ps:=["_law_number","_law_k"]) fun | _,_,_,_,_,_,[_,_],_=>rfl
 have g0:=W.mg_of X G a0
 obtain⟨d1,F1,a1⟩:=qc a1
 have b1:=F1.binds (ps:=["_law_number"]) fun | _,_,_,_,_,_,[_],_=>rfl
 have g1:=W.mg_of X G a1
 obtain⟨d2,F2,a2⟩:=qc a2
 have b2:=F2.binds (ps:=["_law_script","_law_k"]) fun | _,_,_,_,_,_,[_,_],_=>rfl
 have g2:=W.mg_of X G a2
 obtain⟨d3,F3,a3⟩:=qc a3
 have b3:=F3.binds (ps:=["_law_script","_law_k"]) fun | _,_,_,_,_,_,[_,_],_=>rfl
 have g3:=W.mg_of X G a3
 obtain⟨d4,F4,a4⟩:=qc a4
 have b4:=F4.binds (ps:=["_law_book_here","_law_number"]) fun | _,_,_,_,_,_,[_,_],_=>rfl
 have g4:=W.mg_of X G a4
 obtain⟨d5,F5,a5⟩:=qc a5
 have b5:=F5.binds (ps:=["state","button"]) fun | _,_,_,_,_,_,[_,_],_=>rfl
 have g5:=W.mg_of X G a5
 obtain⟨d6,F6,a6⟩:=qc a6
 have b6:=F6.binds (ps:=["state","button"]) fun | _,_,_,_,_,_,[_,_],_=>rfl
 have g6:=W.mg_of X G a6
 obtain⟨d7,F7,a7⟩:=qc a7
 have b7:=F7.binds (ps:=["state","place","part"]) fun | _,_,_,_,_,_,[_,_,_],_=>rfl
 have g7:=W.mg_of X G a7
 obtain⟨d8,F8,a8⟩:=qc a8
 have b8:=F8.binds (ps:=["state"]) fun | _,_,_,_,_,_,[_],_=>rfl
 have g8:=W.mg_of X G a8
 obtain⟨d9,F9,a9⟩:=qc a9
 have b9:=F9.binds (ps:=["state"]) fun | _,_,_,_,_,_,[_],_=>rfl
 have g9:=W.mg_of X G a9
 obtain⟨d10,F10,a10⟩:=qc a10
 have b10:=F10.binds (ps:=["state"]) fun | _,_,_,_,_,_,[_],_=>rfl
 have g10:=W.mg_of X G a10
 obtain⟨d11,F11,a11⟩:=qc a11
 have b11:=F11.binds (ps:=["state","minute","second"]) fun | _,_,_,_,_,_,[_,_,_],_=>rfl
 have g11:=W.mg_of X G a11
 obtain⟨d12,F12,a12⟩:=qc a12
 have b12:=F12.binds (ps:=["state"]) fun | _,_,_,_,_,_,[_],_=>rfl
 have g12:=W.mg_of X G a12
 obtain⟨d13,F13,a13⟩:=qc a13
 have b13:=F13.binds (ps:=["state"]) fun | _,_,_,_,_,_,[_],_=>rfl
 have g13:=W.mg_of X G a13
 obtain⟨d14,F14,a14⟩:=qc a14
 have b14:=F14.binds (ps:=["state"]) fun | _,_,_,_,_,_,[_],_=>rfl
 have g14:=W.mg_of X G a14
 obtain⟨d15,F15,a15⟩:=qc a15
 have b15:=F15.binds (ps:=["state"]) fun | _,_,_,_,_,_,[_],_=>rfl
 have g15:=W.mg_of X G a15
 obtain⟨d16,F16,a16⟩:=qc a16
 have b16:=F16.binds (ps:=["state"]) fun | _,_,_,_,_,_,[_],_=>rfl
 have g16:=W.mg_of X G a16
 obtain⟨d17,F17,a17⟩:=qc a17
 have b17:=F17.binds (ps:=["state"]) fun | _,_,_,_,_,_,[_],_=>rfl
 have g17:=W.mg_of X G a17
 obtain⟨d18,F18,a18⟩:=qc a18
 have b18:=F18.binds (ps:=["state"]) fun | _,_,_,_,_,_,[_],_=>rfl
 have g18:=W.mg_of X G a18
 obtain⟨d19,F19,a19⟩:=qc a19
 have b19:=F19.binds (ps:=["state"]) fun | _,_,_,_,_,_,[_],_=>rfl
 have g19:=W.mg_of X G a19
 obtain⟨d20,F20,a20⟩:=qc a20
 have b20:=F20.binds (ps:=["state"]) fun | _,_,_,_,_,_,[_],_=>rfl
 have g20:=W.mg_of X G a20
 obtain⟨d21,F21,a21⟩:=qc a21
 have b21:=F21.binds (ps:=["state"]) fun | _,_,_,_,_,_,[_],_=>rfl
 have g21:=W.mg_of X G a21
 obtain⟨d22,F22,a22⟩:=qc a22
 have b22:=F22.binds (ps:=["book","state","press"]) fun | _,_,_,_,_,_,[_,_,_],_=>rfl
 have g22:=W.mg_of X G a22
 obtain⟨d23,F23,a23⟩:=qc a23
 have b23:=F23.binds (ps:=["book","state","button"]) fun | _,_,_,_,_,_,[_,_,_],_=>rfl
 have g23:=W.mg_of X G a23
 obtain⟨d24,F24,a24⟩:=qc a24
 have b24:=F24.binds (ps:=["state","button"]) fun | _,_,_,_,_,_,[_,_],_=>rfl
 have g24:=W.mg_of X G a24
 obtain⟨d25,F25,a25⟩:=qc a25
 have b25:=F25.binds (ps:=["count","many"]) fun | _,_,_,_,_,_,[_,_],_=>rfl
 have g25:=W.mg_of X G a25
 obtain⟨d26,F26,a26⟩:=qc a26
 have b26:=F26.binds (ps:=["held","many"]) fun | _,_,_,_,_,_,[_,_],_=>rfl
 have g26:=W.mg_of X G a26
 obtain⟨d27,F27,a27⟩:=qc a27
 have b27:=F27.binds (ps:=["book","state"]) fun | _,_,_,_,_,_,[_,_],_=>rfl
 have g27:=W.mg_of X G a27
 obtain⟨d28,F28,a28⟩:=qc a28
 have b28:=F28.binds (ps:=["book","state","many"]) fun | _,_,_,_,_,_,[_,_,_],_=>rfl
 have g28:=W.mg_of X G a28
 obtain⟨d29,F29,a29⟩:=qc a29
 have b29:=F29.binds (ps:=["laps","many"]) fun | _,_,_,_,_,_,[_,_],_=>rfl
 have g29:=W.mg_of X G a29
 obtain⟨d30,F30,a30⟩:=qc a30
 have b30:=F30.binds (ps:=["state"]) fun | _,_,_,_,_,_,[_],_=>rfl
 have g30:=W.mg_of X G a30
 obtain⟨d31,F31,a31⟩:=qc a31
 have b31:=F31.binds (ps:=["state"]) fun | _,_,_,_,_,_,[_],_=>rfl
 have g31:=W.mg_of X G a31
 obtain⟨d32,F32,a32⟩:=qc a32
 have b32:=F32.binds (ps:=["state","many"]) fun | _,_,_,_,_,_,[_,_],_=>rfl
 have g32:=W.mg_of X G a32
 obtain⟨d33,F33,a33⟩:=qc a33
 have b33:=F33.binds (ps:=["state","many"]) fun | _,_,_,_,_,_,[_,_],_=>rfl
 have g33:=W.mg_of X G a33
 obtain⟨d34,F34,a34⟩:=qc a34
 have b34:=F34.binds (ps:=["book","state","many"]) fun | _,_,_,_,_,_,[_,_,_],_=>rfl
 have g34:=W.mg_of X G a34
 obtain⟨d35,F35,a35⟩:=qc a35
 have b35:=F35.binds (ps:=["book","state"]) fun | _,_,_,_,_,_,[_,_],_=>rfl
 have g35:=W.mg_of X G a35
 obtain⟨d36,F36,a36⟩:=qc a36
 have b36:=F36.binds (ps:=["book","state"]) fun | _,_,_,_,_,_,[_,_],_=>rfl
 have g36:=W.mg_of X G a36
 obtain⟨d37,F37,a37⟩:=qc a37
 have b37:=F37.binds (ps:=["book","state"]) fun | _,_,_,_,_,_,[_,_],_=>rfl
 have g37:=W.mg_of X G a37
 obtain⟨d38,F38,a38⟩:=qc a38
 have b38:=F38.binds (ps:=["book","state"]) fun | _,_,_,_,_,_,[_,_],_=>rfl
 have g38:=W.mg_of X G a38
 obtain⟨d39,F39,a39⟩:=qc a39
 have b39:=F39.binds (ps:=["book","state"]) fun | _,_,_,_,_,_,[_,_],_=>rfl
 have g39:=W.mg_of X G a39
 obtain⟨d40,F40,a40⟩:=qc a40
 have b40:=F40.binds (ps:=["book","state","many"]) fun | _,_,_,_,_,_,[_,_,_],_=>rfl
 have g40:=W.mg_of X G a40
 obtain⟨d41,F41,a41⟩:=qc a41
 have b41:=F41.binds (ps:=["book","state","many"]) fun | _,_,_,_,_,_,[_,_,_],_=>rfl
 have g41:=W.mg_of X G a41
 obtain⟨d42,F42,a42⟩:=qc a42
 have b42:=F42.binds (ps:=["book","state","event"]) fun | _,_,_,_,_,_,[_,_,_],_=>rfl
 have g42:=W.mg_of X G a42
 obtain⟨d43,F43,a43⟩:=qc a43
 have b43:=F43.binds (ps:=["state"]) fun | _,_,_,_,_,_,[_],_=>rfl
 have g43:=W.mg_of X G a43
 obtain⟨d44,F44,a44⟩:=qc a44
 have b44:=F44.binds (ps:=["book","state"]) fun | _,_,_,_,_,_,[_,_],_=>rfl
 have g44:=W.mg_of X G a44
 obtain⟨d45,F45,a45⟩:=qc a45
 have b45:=F45.binds (ps:=["state","many"]) fun | _,_,_,_,_,_,[_,_],_=>rfl
 have g45:=W.mg_of X G a45
 obtain⟨d46,F46,a46⟩:=qc a46
 have b46:=F46.binds (ps:=["book","state","many"]) fun | _,_,_,_,_,_,[_,_,_],_=>rfl
 have g46:=W.mg_of X G a46
 have F47:=lF (st:=eR) l47 c47 k47
 have b47:=F47.binds (ps:=["_law_script"]) fun | _,_,_,_,_,_,[_],_=>rfl
 have g47:=W.mg_of X G a47
 have Ay:=W.mg_none_of X G Ej
 have tF:=W.mg_none_of X G Ek
 have t6:=W.mg_none_of X G Dk
 have oZ:=W.mg_none_of X G El
 have Ax:=W.mg_none_of X G Em
 have ov:=W.mg_none_of X G BA
 have vN:=W.mg_none_of X G En
 have qL:=W.mg_none_of X G AD
 have pL:=W.mg_none_of X G BB
 have n4:pk K mg "ALARM" a_:=⟨_,.int 2,W.mg_of X G q_ALARM,⟨_,rfl⟩,fun H=>rfl⟩
 have nX:pk K mg "CLOCK" aW:=⟨_,.int 1,W.mg_of X G q_CLOCK,⟨_,rfl⟩,fun H=>rfl⟩
 have nT:pk K mg "COUNT" aL:=⟨_,.int 4,W.mg_of X G q_COUNT,⟨_,rfl⟩,fun H=>rfl⟩
 have rf:pk K mg "DAY" dk:=⟨_,.int 86400,W.mg_of X G q_DAY,⟨_,rfl⟩,fun H=>rfl⟩
 have rL:pk K mg "FULL_RING" du:=⟨_,.int 10,W.mg_of X G q_FULL_RING,⟨_,rfl⟩,fun H=>rfl⟩
 have nQ:pk K mg "HELD" aT:=⟨_,.int 6,W.mg_of X G q_HELD,⟨_,rfl⟩,fun H=>rfl⟩
 have pH:pk K mg "IDLE" ca:=⟨_,.int 7,W.mg_of X G q_IDLE,⟨_,rfl⟩,fun H=>rfl⟩
 have pS:pk K mg "LAPS" bK:=⟨_,.int 3,W.mg_of X G q_LAPS,⟨_,rfl⟩,fun H=>rfl⟩
 have pj:pk K mg "MODE" bL:=⟨_,.int 0,W.mg_of X G q_MODE,⟨_,rfl⟩,fun H=>rfl⟩
 have rH:pk K mg "MOST_KEPT" dG:=⟨_,.int 4,W.mg_of X G q_MOST_KEPT,⟨_,rfl⟩,fun H=>rfl⟩
 have sO:pk K mg "RING" eZ:=⟨_,.int 5,W.mg_of X G q_RING,⟨_,rfl⟩,fun H=>rfl⟩
 have s_PRESSES:B6 K mg "PRESSES" bY:=⟨sQ,_,_,_,W.mg_of X G q_PRESSES,rs_PRESSES,(.cons ⟨_,rfl⟩ (.cons ⟨_,rfl⟩ (.cons ⟨_,rfl⟩ (.cons ⟨_,rfl⟩ (.cons ⟨_,rfl⟩ (.cons ⟨_,rfl⟩ .nil))))))⟩
 have D_STEPS:=W.mg_of X G q_STEPS
 refine⟨W.fnOf "law" "law" (qt eR) (oW eR) (c9 eR) .none kV47 dc47 pm47 an47 cd47 ct47,fun s v=>.of_eq rfl,fun base _ _=>?_⟩
 have n8:nN l.prog w K mg base 1 "_law_drawn" ["_law_number","_law_k"] aG:=aA F0 g0 b0 (gD (k:=0)  F0)
 have rN:nN l.prog w K mg base 2 "_law_book" ["_law_number"] bN:=aA F1 g1 b1 (hU (k:=1) n8.m ov F1)
 have qm:nN l.prog w K mg base 1 "_law_cell_at" ["_law_script","_law_k"] bq:=aA F2 g2 b2 (fI (k:=0) tF F2)
 have oH:nN l.prog w K mg base 2 "_law_mixed" ["_law_script","_law_k"] ba:=aA F3 g3 b3 (gK (k:=1) qm.m F3)
 have qY:nN l.prog w K mg base 2 "_law_state" ["_law_book_here","_law_number"] bw:=aA F4 g4 b4 (gB (k:=1) n8.m tF oZ ov pL F4)
 have oF:nN l.prog w K mg base 1 "is_holding" ["state","button"] bj:=aA F5 g5 b5 (gG (k:=0) nQ F5)
 have sN:nN l.prog w K mg base 2 "is_short" ["state","button"] ci:=aA F6 g6 b6 (iC (k:=1) oF.m nQ F6)
 have nL:nN l.prog w K mg base 1 "put" ["state","place","part"] aC:=aA F7 g7 b7 (mB (k:=0)  F7)
 have pT:nN l.prog w K mg base 2 "alarm_hour_on" ["state"] aY:=aA F8 g8 b8 (fu (k:=1) nL.m n4 F8)
 have pd:nN l.prog w K mg base 2 "alarm_minute_on" ["state"] aO:=aA F9 g9 b9 (eJ (k:=1) nL.m n4 F9)
 have qo:nN l.prog w K mg base 2 "alarm_turned" ["state"] bf:=aA F10 g10 b10 (fL (k:=1) nL.m n4 F10)
 have o_:nN l.prog w K mg base 2 "set_to" ["state","minute","second"] bz:=aA F11 g11 b11 (ku (k:=1) nL.m nT F11)
 have pe:nN l.prog w K mg base 3 "count_minute_on" ["state"] aM:=aA F12 g12 b12 (eG (k:=2) o_.m nT F12)
 have ph:nN l.prog w K mg base 3 "count_second_on" ["state"] aN:=aA F13 g13 b13 (eD (k:=2) o_.m nT F13)
 have qp:nN l.prog w K mg base 2 "count_turned" ["state"] bp:=aA F14 g14 b14 (fK (k:=1) nL.m nT F14)
 have uW:nN l.prog w K mg base 3 "filled" ["state"] cJ:=aA F15 g15 b15 (kJ (k:=2) o_.m nT F15)
 have tT:nN l.prog w K mg base 2 "hour_on" ["state"] bV:=aA F16 g16 b16 (jr (k:=1) nL.m nX F16)
 have sM:nN l.prog w K mg base 2 "lap_kept" ["state"] cc:=aA F17 g17 b17 (iG (k:=1) nL.m tF pS rH F17)
 have qB:nN l.prog w K mg base 2 "laps_turned" ["state"] bo:=aA F18 g18 b18 (ga (k:=1) nL.m pS F18)
 have rJ:nN l.prog w K mg base 2 "minute_on" ["state"] bC:=aA F19 g19 b19 (iu (k:=1) nL.m nX F19)
 have tU:nN l.prog w K mg base 1 "nothing" ["state"] bU:=aA F20 g20 b20 (jj (k:=0)  F20)
 have tV:nN l.prog w K mg base 2 "to_zero" ["state"] bW:=aA F21 g21 b21 (jI (k:=1) nL.m nX F21)
 have wC:zI l.prog w K mg base 3 "STEPS" rY:=⟨u3,_,D_STEPS,fun h X=>lh _ r_STEPS (show List.Nodup [oS "none",oS "hour",oS "minute",oS "zero",oS "ahour",oS "aminute",oS "alarm",oS "run",oS "lap",oS "cminute",oS "csecond",oS "full",oS "count"] from by decide +kernel) h X,(.cons (pE tU.m g20) (.cons (pE tT.m g16) (.cons (pE rJ.m g19) (.cons (pE tV.m g21) (.cons (pE pT.m g8) (.cons (pE pd.m g9) (.cons (pE qo.m g10) (.cons (pE qB.m g18) (.cons (pE sM.m g17) (.cons (pE pe.m g12) (.cons (pE ph.m g13) (.cons (pE uW.m g15) (.cons (pE qp.m g14) .nil)))))))))))))⟩
 have oG:nN l.prog w K mg base 4 "press_done" ["book","state","press"] bi:=aA F22 g22 b22 (gx (k:=3) pT.m pd.m qo.m pe.m ph.m qp.m uW.m tT.m sM.m qB.m rJ.m tU.m nL.m tV.m pj s_PRESSES wC F22)
 have uY:nN l.prog w K mg base 5 "let_go" ["book","state","button"] dJ:=aA F23 g23 b23 (ke (k:=4) oF.m sN.m oG.m nL.m nQ pH F23)
 have uZ:nN l.prog w K mg base 2 "pushed" ["state","button"] dC:=aA F24 g24 b24 (kN (k:=1) nL.m nQ pH sO F24)
 have sP:nN l.prog w K mg base 1 "count_on" ["count","many"] cu:=aA F25 g25 b25 (i_ (k:=0) oZ F25)
 have tW:nN l.prog w K mg base 1 "held_on" ["held","many"] cF:=aA F26 g26 b26 (jN (k:=0)  F26)
 have n5:nN l.prog w K mg base 1 "ticks_to_back" ["book","state"] aQ:=aA F27 g27 b27 (fc (k:=0) oZ pH F27)
 have tX:nN l.prog w K mg base 2 "idle_on" ["book","state","many"] cI:=aA F28 g28 b28 (jO (k:=1) n5.m nQ pH F28)
 have tY:nN l.prog w K mg base 1 "laps_on" ["laps","many"] cG:=aA F29 g29 b29 (jL (k:=0)  F29)
 have nY:nN l.prog w K mg base 1 "alarm_tick" ["state"] aE:=aA F30 g30 b30 (gL (k:=0) n4 nX rf F30)
 have nZ:nN l.prog w K mg base 1 "count_tick" ["state"] aF:=aA F31 g31 b31 (gM (k:=0) nT F31)
 have rK:nN l.prog w K mg base 2 "last_ring" ["state","many"] bP:=aA F32 g32 b32 (hX (k:=1) nY.m nZ.m oZ rf F32)
 have tZ:nN l.prog w K mg base 3 "ring_on" ["state","many"] cK:=aA F33 g33 b33 (jq (k:=2) rK.m oZ rL sO F33)
 have qb:nN l.prog w K mg base 4 "counted" ["book","state","many"] bH:=aA F34 g34 b34 (jn (k:=3) sP.m tW.m tX.m tY.m tZ.m n4 nX nT rf nQ pS pj F34)
 have rM:nN l.prog w K mg base 1 "goes_back" ["book","state"] bM:=aA F35 g35 b35 (il (k:=0) pj F35)
 have pU:nN l.prog w K mg base 1 "ticks_to_long" ["book","state"] bm:=aA F36 g36 b36 (fy (k:=0) oZ nQ F36)
 have n9:nN l.prog w K mg base 2 "turn_tick" ["book","state"] be:=aA F37 g37 b37 (ig (k:=1) rM.m n5.m pU.m nQ F37)
 have uX:nN l.prog w K mg base 5 "turned" ["book","state"] dt:=aA F38 g38 b38 (kC (k:=4) oG.m nL.m nQ pj F38)
 have oq:nN l.prog w K mg base 6 "behind_turn" ["book","state"] aS:=aA F39 g39 b39 (gk (k:=5) qb.m n9.m uX.m F39)
 have oT:nN l.prog w K mg base 7 "stretches" ["book","state","many"] aZ:=aA F40 g40 b40 (ic (k:=6) oq.m n9.m F40)
 have u0:nN l.prog w K mg base 8 "ticked" ["book","state","many"] dq:=aA F41 g41 b41 (kH (k:=7) qb.m oT.m F41)
 have t7:nN l.prog w K mg base 9 "gone" ["book","state","event"] dH:=aA F42 g42 b42 (lY (k:=8) uY.m uZ.m u0.m F42)
 have p6:nN l.prog w K mg base 2 "first_ring" ["state"] bv:=aA F43 g43 b43 (gA (k:=1) nY.m nZ.m Ax F43)
 have oU:nN l.prog w K mg base 7 "next_ring" ["book","state"] bh:=aA F44 g44 b44 (g_ (k:=6) oq.m p6.m n9.m F44)
 have qX:nN l.prog w K mg base 2 "ring_ticks" ["state","many"] bb:=aA F45 g45 b45 (gw (k:=1) nY.m nZ.m t6 ov vN qL rf F45)
 have r_:nN l.prog w K mg base 8 "rings" ["book","state","many"] cx:=aA F46 g46 b46 (kZ (k:=7) qX.m oT.m pL F46)
 exact nc rN.m oH.m qY.m t7.m oU.m r_.m Ay t6 ov vN qL pL F47
theorem walk {l:W.OpenLaw} {q:Program} {loose:List Str} {XP:(Str->Option Value)->Heap->Prop} {YP:World->Heap->Prop} {d:DefRec} {K:Params->W.Frag} (hn:l.most=some 63) (hdf:d.params.defaults=[])
    (hY:∀(w:World) (h:Heap),YP w h->(K w.params).In h)
    (F:∀(w:World) (mg:Str->Option Value) (fa:Addr) (h:Heap),(K w.params).In h->h.Ns mainGlobals mg->mg d.name=some (.ref fa) ->
      ∃fd:FuncData,(∀(s:Shared) (u:Value),BindsTo s fd ⟨[u],[]⟩ [("_law_script",u)])/\∀base:Heap,(K w.params).In base->base.Ns mainGlobals mg->nK l.prog w (K w.params) mg base oM 10 fa fd ["_law_script"] (pA (K w.params) ja)) :
    W.WalkO q loose XP YP l.row.toRowW d [] (fun f vs=>PySem.call f vs):=
  L2.walk_of (n:=63) (k:=10) (x:="_law_script") (CX:=fun _=>oM) (sp:=fun w=>pA (K w.params) ja) hn (by decide) hdf ⟨rfl,by decide,by decide,rfl⟩ hY F (fun w H a ns hl _ hS=>⟨[.fro (ns.map .int)],.bl true,i9.one ⟨a,ns.map V.int,rfl,hS,vI _ _ ns⟩,zo ns hl,fun v H' _ hv=>hv⟩) fun _ _ _ _ _ z=>z
end HW
namespace PySem.W.Fast
theorem tw3590823729905916288:True:=⟨⟩
theorem tw15065608788874745248:True:=⟨⟩
theorem tw843719274161909568:True:=⟨⟩
theorem tw7199303098016364416:True:=⟨⟩
theorem tw15257854022534096801:True:=⟨⟩
theorem tw9564815270916688836:True:=⟨⟩
theorem tw4699618921382209927:True:=⟨⟩
theorem tw16895097695699164777:True:=⟨⟩
theorem tw13851014604738482221:True:=⟨⟩
theorem tw13930302437475513873:True:=⟨⟩
theorem tw11659058302478759538:True:=⟨⟩
theorem tw6402269456632412915:True:=⟨⟩
theorem tw17540242605694049783:True:=⟨⟩
theorem tw2721425058875222712:True:=⟨⟩
theorem tw3987217895938183837:True:=⟨⟩
theorem tw9538701578316534685:True:=⟨⟩
noncomputable def tw18186755206511841206:=PySem.Challenge.pw_handwatch_k31_whole_next_ring
theorem te18186755206511841206:PySem.Challenge.pw_handwatch_k31_whole_next_ring=tw18186755206511841206:=rfl
end PySem.W.Fast
open PySem PySem.W PyProof.Rows
set_option maxRecDepth 100000 in
set_option maxHeartbeats 0 in
theorem PySem.Challenge.cw_handwatch_k31_whole_next_ring_holds : PySem.Challenge.rw_handwatch_k31_whole_next_ring.Holds := by
 w_on;o_law;k_head;(case hw=>w_witness2)
 k_fill
 refine HW.walk (l:=PySem.Challenge.rw_handwatch_k31_whole_next_ring) rfl rfl (fun w h Y=>PySem.W.kIn_of Y) ?F
 case F =>
  intro w mg fa h KX G hmg
  refine' HW.all_mk KX G hmg ?_ ?_ ?_ ?_ ?_ ?_ ?_ ?_ ?_ ?_ ?_ ?_ ?_ ?_ ?_ ?_ ?_ ?_ ?_ ?_ ?_ ?_ ?_ ?_ ?_ ?_ ?_ ?_ ?_ ?_ ?_ ?_ ?_ ?_ ?_ ?_ ?_ ?_ ?_ ?_ ?_ ?_ ?_ ?_ ?_ ?_ ?_ ?_ ?_ ?_ ?_ ?_ ?_ ?_ ?_ ?_ ?_ ?_ ?_ ?_ ?_ ?_ ?_ ?_ ?_ ?_ ?_ ?_ ?_ ?_ ?_ ?_ ?_ ?_ ?_
  all_goals try first | k_is | (refine' HW.fn4_mk ?_ ?_ ?_ ?_<;>try k_is)
