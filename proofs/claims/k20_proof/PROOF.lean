import PyProof.Rows.All
import Wide.All
import OpenK.AllK
import Wide.FinOn
import Lean
import PyProof.EqAt
import PyProof.EqKinds
import PyProof.TupleCall
import PySem.Str
import PySem.Sem
import PyProof.ReprReads
import PyProof.Rows.RegStrFacts
import PyProof.StrBlockI
import KE.IntText
import KE.KLam
import PyProof.StrWalks
import PyProof.ReprRoads
import PyProof.NeData
import PyProof.WalkInts
import KE.KRevIter
import PyProof.StrBlock2
import KE.KIntText
import PyProof.Rows.Range3
import PyProof.StrLawsIn
import PyProof.FitsReplace
import PyProof.ReprLen
import PyProof.ZipIter
import PyProof.Draws
import PyProof.IsRules
import PySem.Builtin.Str.Common
import PySem.SetOps
import PyProof.SetKind
import PyProof.DictStraight
import KE.KDictSum
import PyProof.Rows.SetFrom
import PyProof.Rows.SortShell
import PyProof.ListRange
import PyProof.Rows.FactsT2
import PyProof.Rows.FactsT3
import PyProof.StrCalls
import PyProof.SumWalk
import PyProof.AttrMissHeap
import KE.KDictOf
import PySem.Challenge.RW_handwatch_k20_rows
set_option Elab.async false
noncomputable section
set_option linter.all false
set_option maxRecDepth 100000
namespace L2
open PySem PySem.Spec PyProof.Rows
abbrev Key:=Sum Int Str
noncomputable def CM:Key->Value->Bool
 | .inl k,v=>Value.isInt k v
 | .inr x,v=>Value.isStrOf x v
def Of(w:World):Key->Int
 | .inl k=>hashInt k
 | .inr x=>hashStr w x
theorem ul:∀{k:Key} {v:Value},CM k v=true->(∃i t,k=Sum.inl i/\v=Value.int i t)\/(∃x t,k=Sum.inr x/\v=Value.str x t)
 | .inl i,v,h=>by
  obtain⟨t,e⟩:=Value.isInt_shape (k:=i) (v:=v) h
  exact .inl ⟨i,t,rfl,e⟩
 | .inr x,v,h=>by
  obtain⟨t,e⟩:=Value.isStrOf_shape (x:=x) (v:=v) h
  exact .inr ⟨x,t,rfl,e⟩
theorem GU(i:Int)(t:Tok):CM (.inl i) (.int i t)=true:=by simp[CM,Value.isInt]
theorem GX(x:Str)(t:Tok):CM (.inr x) (.str x t)=true:=by simp[CM,Value.isStrOf]
theorem Lw(a b:Int):decide ((Sum.inl a:Key)=Sum.inl b)=(a==b):=by
 by_cases e:a=b
 ·subst e;simp
 ·have h:¬ (Sum.inl a:Key)=Sum.inl b:=fun q=>e (Sum.inl.inj q)
  rw[decide_eq_false h]
  exact(beq_eq_false_iff_ne.mpr e).symm
theorem Lm(a b:Str):decide ((Sum.inr a:Key)=Sum.inr b)=decide (a=b):=by
 by_cases e:a=b
 ·subst e;simp
 ·have h:¬ (Sum.inr a:Key)=Sum.inr b:=fun q=>e (Sum.inr.inj q)
  rw[decide_eq_false h,decide_eq_false e]
theorem L1(a:Int)(b:Str):decide ((Sum.inl a:Key)=Sum.inr b)=false:=decide_eq_false (fun q=>nomatch q)
theorem LS(a:Str)(b:Int):decide ((Sum.inr a:Key)=Sum.inl b)=false:=decide_eq_false (fun q=>nomatch q)
def ua(prog:Program)(w:World):PySem.KeyKind prog w Key where
 is:=CM
 hash:=Of w
 inj:=fun v a b ha hb=>by
  rcases ul ha with ⟨i,t,rfl,rfl⟩ | ⟨x,t,rfl,rfl⟩
  ·rcases ul hb with ⟨j,u,rfl,e⟩ | ⟨y,u,rfl,e⟩
   ·injection e with e1 _;rw[e1]
   ·exact nomatch e
  ·rcases ul hb with ⟨j,u,rfl,e⟩ | ⟨y,u,rfl,e⟩
   ·exact nomatch e
   ·injection e with e1 _;rw[e1]
 byValue:=fun k v h=>by
  rcases ul h with ⟨i,t,rfl,rfl⟩ | ⟨x,t,rfl,rfl⟩<;>rfl
 pyHash:=fun hv h=>by
  rcases ul hv with ⟨i,t,rfl,rfl⟩ | ⟨x,t,rfl,rfl⟩
  ·exact wpAny_pyHash_int h
  ·exact wpAny_pyHash_str h
 eqBool:=fun hu hv h=>by
  rcases ul hu with ⟨i,t,rfl,rfl⟩ | ⟨x,t,rfl,rfl⟩
  ·rcases ul hv with ⟨j,u,rfl,rfl⟩ | ⟨y,u,rfl,rfl⟩
   ·rw[Lw] at h;exact wpAny_eqBool_int h
   ·rw[L1] at h;exact SeqAt.EqAt.int_str i t y u _ _ _ _ h
  ·rcases ul hv with ⟨j,u,rfl,rfl⟩ | ⟨y,u,rfl,rfl⟩
   ·rw[LS] at h;exact SeqAt.EqAt.str_int x t j u _ _ _ _ h
   ·rw[Lm] at h;exact wpAny_eqBool_str h
 «strs»:=fun k x t v h=>by
  rcases ul h with ⟨i,u,rfl,e⟩ | ⟨y,u,rfl,e⟩
  ·exact nomatch e
  ·injection e with e1 _
   subst e1
   cases v<;>rfl
theorem Eg(prog:Program)(w:World)(i:Int)(t:Tok):(ua prog w).is (.inl i) (.int i t)=true:=GU i t
theorem Ed(prog:Program)(w:World)(x:Str)(t:Tok):(ua prog w).is (.inr x) (.str x t)=true:=GX x t
end L2
namespace L2
open PySem PySem.Spec PyProof.Rows
inductive V where
 | non | bl (b:Bool) | int (i:Int) | str (x:Str) | byt (b:Array UInt8) | flt (b:UInt64) | ref (a:Addr) | ty (n:String)
 deriving DecidableEq
def RelV:V->Value->Prop
 | .non,u=>u=Value.none
 | .bl b,u=>u=Value.bool b
 | .int i,u=>∃t,u=Value.int i t
 | .str x,u=>∃t,u=Value.str x t
 | .byt b,u=>∃t,u=Value.bytes b t
 | .flt b,u=>∃t,u=Value.float b t
 | .ref a,u=>u=Value.ref a
 | .ty n,u=>u=Value.type n
abbrev p9:List V->List Value->Prop:=Paired RelV
theorem p9.length{xs:List V}{us:List Value}(r:p9 xs us):xs.length=us.length:=Paired.length r
theorem p9.get:∀{xs:List V} {us:List Value} {i:Nat} {x:V},p9 xs us->xs[i]?=some x->∃u,us[i]?=some u/\RelV x u
 | _,_,_,_,.nil,e=>by simp at e
 | _,_,0,_,.cons r _,e=>by simp at e;subst e;exact⟨_,rfl,r⟩
 | _,_,i+1,x,.cons _ t,e=>by
  obtain⟨u,h1,h2⟩:=p9.get (i:=i) (x:=x) t (by simpa using e)
  exact⟨u,by simpa using h1,h2⟩
theorem p9.set{x:V}{u:Value}(r:RelV x u):∀{xs:List V} {us:List Value} (i:Nat),p9 xs us->p9 (xs.set i x) (us.set i u)
 | _,_,_,.nil=>.nil
 | _,_,0,.cons _ t=>.cons r t
 | _,_,i+1,.cons q t=>.cons q (p9.set r i t)
theorem p9.append:∀{xs ys:List V} {us ws:List Value},p9 xs us->p9 ys ws->p9 (xs++ys) (us++ws)
 | _,_,_,_,.nil,s=>s
 | _,_,_,_,.cons r t,s=>.cons r (p9.append t s)
theorem p9.take:∀{xs:List V} {us:List Value} (n:Nat),p9 xs us->p9 (xs.take n) (us.take n)
 | _,_,0,_=>.nil
 | _,_,_+1,.nil=>.nil
 | _,_,n+1,.cons r t=>.cons r (p9.take n t)
theorem p9.drop:∀{xs:List V} {us:List Value} (n:Nat),p9 xs us->p9 (xs.drop n) (us.drop n)
 | _,_,0,r=>r
 | _,_,_+1,.nil=>.nil
 | _,_,n+1,.cons _ t=>p9.drop n t
def AO:Option V->Option Value->Prop
 | some v,some u=>RelV v u
 | none,none=>True
 | _,_=>False
def KV{κ:Type}:List (κ×V)->List (κ×Value)->Prop:=Paired fun (p:κ×V) (q:κ×Value)=>p.1=q.1/\RelV p.2 q.2
def kV:Key->V
 | .inl i=>.int i
 | .inr x=>.str x
inductive HO where
 | lst (xs:List V)
 | tup (xs:List V)
 | dK (kvs:List (Key×V)) | dT (kvs:List (List Key×V))
 | set (S:Int->Bool) (n:Nat)
 | ins (C dx:Addr) (fs:List (Str×V))
 | own (x:Addr)
 | xd (fs:List (Str×V))
 | met (f x:Addr)
 | rng (lo hi:Int)
 | frz (o:Obj) (u:HO)
 | tbl (q:Str) (c:Bool)
 | ext (φ:Heap->Prop)
abbrev Hp:=Addr->Option HO
def upd(H:Hp)(a:Addr)(o:HO):Hp:=fun b=>if b=a then some o else H b
theorem ax{H:Hp}{a:Addr}{o:HO}:upd H a o a=some o:=by unfold upd;rw[if_pos rfl]
theorem au{H:Hp}{a b:Addr}{o:HO}(h:b≠a):upd H a o b=H b:=by unfold upd;rw[if_neg h]
theorem jZ{H:Hp}{a:Addr}{o u:HO}:upd (upd H a o) a u=upd H a u:=by
 funext b;unfold upd;split<;>rfl
theorem NS{H:Hp}{a b:Addr}{o u:HO}(h:H a=some o)(h':H b=some u)(d:o≠u):a≠b:=by
 intro e;subst e;rw[h] at h';exact d (Option.some.inj h')
theorem ux{H:Hp}{a b:Addr}{o:HO}(h:H a=some o)(h':H b=none):a≠b:=by
 intro e;subst e;rw[h] at h';cases h'
def wF(h:Heap)(a:Addr)(its:Array Value):Prop:=∃o,h.get? a=some o/\o.cls=.type "tuple" /\ (∃n,o.data=.seq its n)/\o.dict=none
theorem wF.is{h:Heap}{a:Addr}{its:Array Value}(x:wF h a its):IsTup h a its:=by obtain⟨o,e,c,d,_⟩:=x;exact⟨o,e,c,d⟩
theorem wF.lt{h:Heap}{a:Addr}{its:Array Value}(x:wF h a its):a<h.objs.size:=x.is.lt
theorem wF.new(h:Heap)(its:Array Value):wF (h.push {cls:=.type "tuple",data:=.seq its}) h.objs.size its:=⟨_,Heap.get?_push_size _ rfl,rfl,⟨_,rfl⟩,rfl⟩
section
variable(P:Program)(w:World)
def u5(H:Hp)(h:Heap)(a:Addr):HO->Prop
 | .lst xs=>xs.length<=sizeLine/\∃(its:List Value) (n:Nat),p9 xs its/\h.get? a=some {cls:=.type "list",data:=.seq its.toArray n}
 | .tup xs=>xs.length<=sizeLine/\∃its:List Value,p9 xs its/\wF h a its.toArray
 | .dK kvs=>kvs.length<=sizeLine/\(a==sysModules)=false/\∃vs,KV kvs vs/\h.DictOf (ua P w) a vs
 | .dT kvs=>kvs.length<=sizeLine/\(a==sysModules)=false/\∃xs:List (List Key×Addr×Value),
   Paired (fun (p:List Key×V) (q:List Key×Addr×Value)=>p.1=q.1/\H q.2.1=some (.tup (p.1.map kV))/\RelV p.2 q.2.2) kvs xs /\
   ∃o es ep,h.get? a=some o/\o.ExactDict/\o.data=.dict es ep/\es.toList=xs.map (entryOfKey (tupleKind (ua P w)))/\(xs.map (·.1)).Nodup
 | .set S n=>h.SetOf (intKind P w) a S n
 | .ins C dx fs=>H dx=some (.own a)/\fs.length<=1000/\dx≠a/\h.get? a=some (PySem.W.instObj C dx) /\
   ∃mA,h.Ns1 dx mA/\(∀f,AO (fs.lookup f) (mA f))/\PySem.Within mA (fs.map (·.1))
 | .own _=>∃o,h.get? a=some o
 | .xd fs=>∃mA,h.Ns1 a mA/\∀f,AO (fs.lookup f) (mA f)
 | .rng lo hi=>∃t u v,h.get? a=some {cls:=.type "range",data:=.fields #[.int lo t,.int hi u,.int 1 v]}
 | .frz o u=>h.get? a=some o/\u5 H h a u
 | .tbl q true=>h.CodeRec (.ref a) q
 | .tbl q false=>∃ts:Array Value,h.get? a=some {cls:=.none,data:=.fields ts}/\TriplesOk ts.toList/\∀(pos:Pos) (cv:Value),codeAmong pos ts.toList=some cv->∃c,cv=.ref c/\H c=some (.tbl q true)
 | .met f x=>h.get? a=some (PySem.W.methodObj (.ref f) (.ref x))
 | .ext φ=>φ h/\(∃o,h.get? a=some o)/\∀h1 h2:Heap,φ h1->(∀o,h1.get? a=some o->h2.get? a=some o)->φ h2
def zu(H:Hp)(h:Heap):Prop:=∀a o,H a=some o->u5 P w H h a o
end
section
variable{P:Program}{w:World}{H H':Hp}{h h':Heap}{a:Addr}{o:HO}
theorem u5.lt(x:u5 P w H h a o):a<h.objs.size:=by
 cases o with
 | lst xs=>obtain⟨_,_,_,_,e⟩:=x;exact Heap.lt_size e
 | tup xs=>obtain⟨_,_,_,p⟩:=x;exact p.lt
 | dK kvs=>obtain⟨_,_,_,_,o,_,_,e,_⟩:=x;exact Heap.lt_size e
 | dT kvs=>obtain⟨_,_,_,_,o,_,_,e,_⟩:=x;exact Heap.lt_size e
 | set S n=>obtain⟨o,_,_,_,e,_⟩:=x;exact Heap.lt_size e
 | ins C dx fs=>obtain⟨_,_,_,e,_⟩:=x;exact Heap.lt_size e
 | own y=>obtain⟨_,e⟩:=x;exact Heap.lt_size e
 | xd fs=>obtain⟨_,⟨_,_,_,e,_⟩,_⟩:=x;exact Heap.lt_size e
 | rng lo hi=>obtain⟨_,_,_,e⟩:=x;exact Heap.lt_size e
 | frz ob u=>obtain⟨e,_⟩:=x;exact Heap.lt_size e
 | tbl q c =>
  cases c with
  | true=>obtain⟨_,o,_,_,e,g,_⟩:=(show h.CodeRec (.ref a) q from x);cases e;exact Heap.lt_size g
  | false=>obtain⟨_,e,_⟩:=x;exact Heap.lt_size e
 | met f y=>exact Heap.lt_size (show h.get? a=some _ from x)
 | ext φ=>obtain⟨_,⟨_,e⟩,_⟩:=x;exact Heap.lt_size e
theorem Paired.mapP{α β:Type}{F G:α->β->Prop}:∀{l₁:List α} {l₂:List β},Paired F l₁ l₂->(∀a b,F a b->G a b)->Paired G l₁ l₂
 | _,_,.nil,_=>.nil
 | _,_,.cons r t,f=>.cons (f _ _ r) (Paired.mapP t f)
theorem u5.stay(x:u5 P w H h a o)(k:∀b u,(b=a\/H b=some (.own a))->h.get? b=some u->h'.get? b=some u)
  (ho:∀b,H b=some (.own a)->H' b=some (.own a)) (ht:∀b xs,H b=some (.tup xs)->H' b=some (.tup xs)) (hc:∀b q c,H b=some (.tbl q c)->H' b=some (.tbl q c)):u5 P w H' h' a o:=by
 induction o with
 | lst xs=>obtain⟨z,its,n,r,e⟩:=x;exact⟨z,its,n,r,k _ _ (.inl rfl) e⟩
 | tup xs=>obtain⟨z,its,r,ob,e,c⟩:=x;exact⟨z,its,r,ob,k _ _ (.inl rfl) e,c⟩
 | dK kvs=>obtain⟨z,y,vs,r,ob,es,ep,e,c⟩:=x;exact⟨z,y,vs,r,ob,es,ep,k _ _ (.inl rfl) e,c⟩
 | dT kvs =>
  obtain⟨z,y,xs,r,ob,es,ep,e,c⟩:=x
  exact⟨z,y,xs,Paired.mapP r fun p q z=>⟨z.1,ht _ _ z.2.1,z.2.2⟩,ob,es,ep,k _ _ (.inl rfl) e,c⟩
 | set S n=>obtain⟨ob,es,ep,t,e,c⟩:=x;exact⟨ob,es,ep,t,k _ _ (.inl rfl) e,c⟩
 | ins C dx fs =>
  obtain⟨d,z,ne,e,mA,⟨od,es,ep,e2,c⟩,r⟩:=x
  exact⟨ho _ d,z,ne,k _ _ (.inl rfl) e,mA,⟨od,es,ep,k _ _ (.inr d) e2,c⟩,r⟩
 | own y=>obtain⟨ob,e⟩:=x;exact⟨ob,k _ _ (.inl rfl) e⟩
 | xd fs=>obtain⟨mA,⟨od,es,ep,e,c⟩,r⟩:=x;exact⟨mA,⟨od,es,ep,k _ _ (.inl rfl) e,c⟩,r⟩
 | rng lo hi=>obtain⟨t,u,v,e⟩:=x;exact⟨t,u,v,k _ _ (.inl rfl) e⟩
 | frz ob u ih=>obtain⟨e,q⟩:=x;exact⟨k _ _ (.inl rfl) e,ih q⟩
 | tbl q c =>
  cases c with
  | true =>
   obtain⟨_,o,vs,t,e,g,r⟩:=(show h.CodeRec (.ref a) q from x)
   cases e
   exact⟨a,o,vs,t,rfl,k _ _ (.inl rfl) g,r⟩
  | false =>
   obtain⟨ts,e,t,r⟩:=x
   refine⟨ts,k _ _ (.inl rfl) e,t,fun pos cv hcv=>?_⟩
   obtain⟨c,e1,e2⟩:=r pos cv hcv
   exact⟨c,e1,hc _ _ _ e2⟩
 | met f y =>
  have e:h.get? a=some (PySem.W.methodObj (.ref f) (.ref y)):=x
  show h'.get? a=some (PySem.W.methodObj (.ref f) (.ref y))
  exact k a _ (.inl rfl) e
 | ext φ=>obtain⟨p,⟨o,e⟩,st⟩:=x;exact⟨st _ _ p fun o q=>k _ _ (.inl rfl) q,⟨o,k _ _ (.inl rfl) e⟩,st⟩
theorem zu.lt(x:zu P w H h)(e:H a=some o):a<h.objs.size:=(x a o e).lt
theorem zu.fresh(x:zu P w H h)(e:h.objs.size<=a):H a=none:=by
 cases q:H a with
 | none=>rfl
 | some u=>exact absurd (Nat.lt_of_lt_of_le (x.lt q) e) (Nat.lt_irrefl _)
theorem zu.kept(x:zu P w H h)(k:∀b u,h.get? b=some u->h'.get? b=some u):zu P w H h':=fun a o e =>
 (x a o e).stay (fun b u _ q=>k b u q) (fun _ q=>q) (fun _ _ q=>q) fun _ _ _ q=>q
theorem zu.laid(x:zu P w H h)(k:∀b u,h.get? b=some u->h'.get? b=some u)(hp:h.objs.size<=a)(new:u5 P w (upd H a o) h' a o):zu P w (upd H a o) h':=fun b u e=>by
 have hn:=x.fresh hp
 by_cases hb:b=a
 ·subst hb;rw[ax] at e;cases e;exact new
 ·rw[au hb] at e
  exact(x b u e).stay (fun c v _ q=>k c v q) (fun c q=>by rw[au (ux q hn)];exact q) (fun c xs q=>by rw[au (ux q hn)];exact q) fun c _ _ q=>by rw[au (ux q hn)];exact q
end
def Rd(H:Hp)(a:Addr)(u:HO):Prop:=H a=some u\/∃o,H a=some (.frz o u)
theorem Rd.of{H:Hp}{a:Addr}{u:HO}(h:H a=some u):Rd H a u:=.inl h
theorem Rd.ok{P:Program}{w:World}{H:Hp}{h:Heap}{a:Addr}{u:HO}(r:Rd H a u)(x:zu P w H h):u5 P w H h a u:=by
 rcases r with r | ⟨o,r⟩
 ·exact x a u r
 ·obtain⟨_,q⟩:=x a _ r
  exact q
def MY:Option HO->Prop
 | some (.lst _)=>True
 | some (.dK _)=>True
 | some (.dT _)=>True
 | some (.set _ _)=>True
 | some (.ins _ _ _)=>True
 | some (.ext _)=>True
 | some (.frz _ (.own _))=>True
 | _=>False
section
variable{P:Program}{w:World}{H:Hp}{h h':Heap}{x e:Addr}{o':HO}
theorem zu.write(ok:zu P w H h)(mu:MY (H x))(he:e=x\/H e=some (.own x))(k:∀b u,b≠e->h.get? b=some u->h'.get? b=some u)(heo:∃u,h'.get? e=some u)
  (new:u5 P w (upd H x o') h' x o'):zu P w (upd H x o') h':=fun b u q=>by
 have nown:∀c y,H c=some (.own y)->c≠x:=fun c y r z=>by subst z;rw[r] at mu;exact mu
 have ntup:∀c xs,H c=some (.tup xs)->c≠x:=fun c xs r z=>by subst z;rw[r] at mu;exact mu
 by_cases hb:b=x
 ·subst hb;rw[ax] at q;cases q;exact new
 ·rw[au hb] at q
  by_cases hbe:b=e
  ·have q':H b=some (.own x):=by
    rcases he with z | z
    ·exact absurd (hbe.trans z) hb
    ·rw[hbe];exact z
   rw[q] at q';cases q'
   obtain⟨v,hv⟩:=heo
   exact⟨v,by rw[hbe];exact hv⟩
  ·refine(ok b u q).stay (fun c v hc r=>k c v ?_ r) (fun c r=>by rw[au (nown c b r)];exact r) (fun c xs r=>by rw[au (ntup c xs r)];exact r) fun c q d r=>by rw[au fun z=>by subst z;rw[r] at mu;exact mu];exact r
   rcases hc with rfl | hc
   ·exact hbe
   ·rintro rfl
    rcases he with z | z
    ·exact nown c b hc z
    ·rw[hc] at z;cases z;exact hb rfl
end
structure Un (fs ex:List Addr) (H H':Hp) (h h':Heap):Prop where
 keep:∀b o,h.get? b=some o->H b=none->b∉fs->b∉ex->h'.get? b=some o
 slot:∀b o,h.get? b=some o->H b=none->b∈fs->b∉ex->∃sl,h'.get? b=some {o with slots:=sl}
 free:∀b o,h.get? b=some o->H b=none->b∉ex->H' b=none
 there:∀b o,h.get? b=some o->b∉ex->∃o',h'.get? b=some o'
 tups:∀b xs,H b=some (.tup xs)->H' b=some (.tup xs)
 frzs:∀b o u,(∀y,u≠.own y)->H b=some (.frz o u)->H' b=some (.frz o u)
 tbls:∀b q c,H b=some (.tbl q c)->H' b=some (.tbl q c)
section
variable{fs fs' ex ex':List Addr}{H H1 H2:Hp}{h h1 h2 h':Heap}{a x e:Addr}{o:HO}
theorem Un.any(u:Un fs ex H H1 h h1){b:Addr}{ob:Obj}(q:h.get? b=some ob)(n:H b=none)(hx:b∉ex):∃sl,h1.get? b=some {ob with slots:=sl}:=by
 by_cases hb:b∈fs
 ·exact u.slot b ob q n hb hx
 ·exact⟨ob.slots,u.keep b ob q n hb hx⟩
theorem Un.trans(a:Un fs ex H H1 h h1)(b:Un fs ex H1 H2 h1 h2):Un fs ex H H2 h h2 where
 keep:=fun c ob q n hc hx=>b.keep c ob (a.keep c ob q n hc hx) (a.free c ob q n hx) hc hx
 slot:=fun c ob q n hc hx=>by
  obtain⟨sl,e1⟩:=a.slot c ob q n hc hx
  obtain⟨sl',e2⟩:=b.slot c _ e1 (a.free c ob q n hx) hc hx
  exact⟨sl',e2⟩
 free:=fun c ob q n hx=>by
  obtain⟨o',e1⟩:=a.there c ob q hx
  exact b.free c o' e1 (a.free c ob q n hx) hx
 there:=fun c ob q hx=>by
  obtain⟨o',e1⟩:=a.there c ob q hx
  exact b.there c o' e1 hx
 tups:=fun c xs q=>b.tups c xs (a.tups c xs q)
 frzs:=fun c ob xs ny q=>b.frzs c ob xs ny (a.frzs c ob xs ny q)
 tbls:=fun c ps d q=>b.tbls c ps d (a.tbls c ps d q)
theorem Un.kept(k:∀b u,h.get? b=some u->h'.get? b=some u):Un fs ex H H h h':=
 ⟨fun b ob q _ _ _=>k b ob q,fun b ob q _ _ _=>⟨ob.slots,k b ob q⟩,fun _ _ _ n _=>n,fun b ob q _=>⟨ob,k b ob q⟩,fun _ _ q=>q,fun _ _ _ _ q=>q,fun _ _ _ q=>q⟩
theorem Un.refl:Un fs ex H H h h:=Un.kept fun _ _ q=>q
theorem Un.laid(k:∀b u,h.get? b=some u->h'.get? b=some u)(hp:h.objs.size<=a)(hn:H a=none):Un fs ex H (upd H a o) h h' where
 keep:=fun b u q _ _ _=>k b u q
 slot:=fun b u q _ _ _=>⟨u.slots,k b u q⟩
 free:=fun b u q n _=>by rw[au (Nat.ne_of_lt (Nat.lt_of_lt_of_le (Heap.lt_size q) hp))];exact n
 there:=fun b u q _=>⟨u,k b u q⟩
 tups:=fun b xs q=>by rw[au (ux q hn)];exact q
 frzs:=fun b u xs _ q=>by rw[au (ux q hn)];exact q
 tbls:=fun b ps _ q=>by rw[au (ux q hn)];exact q
theorem Un.write(mu:MY (H x))(he:e=x\/H e=some (.own x))(k:∀b u,b≠e->h.get? b=some u->h'.get? b=some u)(heo:∃u,h'.get? e=some u):Un fs ex H (upd H x o) h h':=by
 have hx:∀b,H b=none->b≠x:=fun b n z=>by subst z;rw[n] at mu;exact mu
 have hb:∀b,H b=none->b≠e:=fun b n z=>by
  subst z
  rcases he with r | r
  ·exact hx b n r
  ·rw[n] at r;cases r
 have hm:∀b u,H b=some u->¬ MY (some u)->b≠x:=fun b u q nm z=>by subst z;rw[q] at mu;exact nm mu
 refine⟨fun b u q n _ _=>k b u (hb b n) q,fun b u q n _ _=>⟨u.slots,k b u (hb b n) q⟩,fun b u q n _=>by rw[au (hx b n)];exact n,fun b u q _=>?_,
  fun b xs q=>by rw[au (hm b _ q fun z=>z)];exact q,fun b u xs ny q=>by rw[au (hm b _ q (by intro z;cases xs<;>first | exact z | exact ny _ rfl))];exact q,fun b ps _ q=>by rw[au (hm b _ q fun z=>z)];exact q⟩
 by_cases hbe:b=e
 ·subst hbe;exact heo
 ·exact⟨u,k b u hbe q⟩
theorem Un.mono(u:Un fs ex H H1 h h1)(hs:∀b∈fs,b∈fs')(hx:∀b∈ex,b∈ex'):Un fs' ex' H H1 h h1:=
 ⟨fun b ob q n hb he=>u.keep b ob q n (fun z=>hb (hs b z)) fun z=>he (hx b z),fun _ _ q n _ he=>u.any q n fun z=>he (hx _ z),fun b ob q n he=>u.free b ob q n fun z=>he (hx b z),fun b ob q he=>u.there b ob q fun z=>he (hx b z),u.tups,u.frzs,u.tbls⟩
end
def Ob(h:Heap)(H:Hp):List Addr:=(List.range h.objs.size).filter fun a=>(H a).isSome
def Dy(h:Heap)(H:Hp):Heap:=PySem.W.hideAll h (Ob h H)
theorem Gr(h:Heap)(H:Hp):(Dy h H).objs.size=h.objs.size:=PySem.W.hideAll_size _ _
theorem IM{h:Heap}{H:Hp}{b:Addr}{o:Obj}(e:h.get? b=some o)(n:H b=none):(Dy h H).get? b=some o:=
 PySem.W.hideAll_get _ e fun hm=>by
  have q:(H b).isSome=true:=(List.mem_filter.mp hm).2
  rw[n] at q;simp at q
theorem Jy{h:Heap}{H:Hp}{b:Addr}{o:Obj}(e:(Dy h H).get? b=some o):h.get? b=some o/\H b=none:=by
 have e':h.get? b=some o:=PySem.W.of_hideAll (Ob h H) e
 refine⟨e',?_⟩
 cases q:H b with
 | none=>rfl
 | some x =>
  have hm:b∈Ob h H:=List.mem_filter.mpr ⟨List.mem_range.mpr (Heap.lt_size e'),by simp[q]⟩
  have z:(Dy h H).get? b=none:=PySem.W.hideAll_none (Ob h H) hm
  rw[z] at e;cases e
def JG(g h:Heap)(L:Addr):List (Addr×Obj):=(List.range h.objs.size).filterMap fun a=>if a=L\/(g.get? a).isSome=true then none else (h.get? a).map fun o=>(a,o)
def rest(g h:Heap)(L d:Addr):List (Addr×Obj):=(JG g h L).filter fun p=>decide (p.1≠d)
end L2
namespace L2
open PySem PySem.Spec PyProof.Rows
structure Mod (K:PySem.W.Frag) (mg:Str->Option Value) (base:Heap):Prop where
 kin:K.In base
 glob:base.Ns mainGlobals mg
 blt:∃mb,base.Ns builtinsNs mb/\∀x:Str,x ≠ "__name__" -> mb x=bootBuiltins x
 nolimit:base.NoLimit
structure Cx where
 prog:Program
 w:World
 K:PySem.W.Frag
 mg:Str->Option Value
 base:Heap
 A:Around
 N:List Str
 s₀:Shared
 H₀:Hp
 env:Env
 outer:List Env
 stack:List Env
 ex:List Addr
 fn:Str->Bool
 calm:Bool
 pn:List (Addr×Obj)
 xe:Value->Shared->Prop
def GE(l:List Env):List Addr:=l.filterMap (·.frame)
abbrev Cx.fs(X:Cx):List Addr:=GE X.outer
def G0(sc:Scope)(x:Str):Prop:=sc.names.lookup x=some .local\/sc.names.lookup x=some .cell\/sc.names.lookup x=some .free
def Loc(sc:Scope)(x:Str):Prop:=sc.names.lookup x=some .local\/sc.names.lookup x=some .cell
def Look(env:Env)(h:Heap)(m:Str->Option Value)(x:Str)(u:Value):Prop:=
 (env.kindOf x=some .local/\m x=some u)\/((env.kindOf x=some .cell\/env.kindOf x=some .free)/\∃c,env.cells.lookup x=some c/\h.IsCell c (some u))
structure Cx.Ok (X:Cx):Prop where
 mod:Mod X.K X.mg X.base
 kind:X.env.scope.kind=.function
 glob:X.env.globals=mainGlobals
 blt:X.env.builtins=builtinsNs
 above:X.s₀.heap.objs.size<=X.env.locals
 inj:∀x y c,X.env.cells.lookup x=some c->X.env.cells.lookup y=some c->x=y
 has:∀x,(X.env.kindOf x=some .cell\/X.env.kindOf x=some .free)->∃c,X.env.cells.lookup x=some c
 cab:∀x c,X.fn x=true->X.env.cells.lookup x=some c->X.s₀.heap.objs.size<=c
 hd:X.calm=true->X.A.handled=none
 frames:X.A.frames=some X.stack
 stk:X.stack=X.outer\/(X.stack=X.env::X.outer/\X.env.frame=some X.env.locals)
 exf:∀b∈X.ex,b≠X.env.locals/\∀x c,X.env.cells.lookup x=some c->c≠b
 bs:∀b o,X.base.get? b=some o->X.s₀.heap.get? b=some o/\X.H₀ b=none
 bsz:X.base.objs.size<=X.s₀.heap.objs.size
 noex:∀b o,X.base.get? b=some o->b∉X.ex
 exfs:∀b∈X.ex,b∉X.fs
 funs:X.s₀.heap.FunFrames X.base X.outer
 frf:∀b∈X.fs,X.H₀ b=none
structure Inv (X:Cx) (pins:List (Addr×Obj)) (σ:List (Option V)) (H:Hp) (s:Shared):Prop where
 ok:X.Ok
 os:s.os=X.s₀.os
 bare:AllBare s.gens
 base:Un X.fs X.ex X.H₀ H X.s₀.heap s.heap
 loc:∃m,s.heap.Ns X.env.locals m/\∀(i:Nat) (x:Str) (v:V),X.N[i]?=some x->σ[i]?=some (some v)->G0 X.env.scope x->∃u,RelV v u/\Look X.env s.heap m x u
 cell:∀x c,X.env.cells.lookup x=some c->∃v,s.heap.IsCell c v
 free:H X.env.locals=none
 freeC:∀x c,X.env.cells.lookup x=some c->H c=none
 pin:∀p∈X.pn++pins,s.heap.get? p.1=some p.2/\H p.1=none/\p.1≠X.env.locals/\p.1∉X.fs/\∀v,p.2.data≠.cell v
 hok:zu X.prog X.w H s.heap
 len:σ.length=X.N.length
section
variable{X:Cx}{pins:List (Addr×Obj)}{σ:List (Option V)}{H H':Hp}{s:Shared}{h':Heap}
theorem Cx.Ok.nofr(ok:X.Ok){b:Addr}{o:Obj}(e:X.base.get? b=some o):b∉X.fs:=fun hb=>by
 have:=(ok.funs.mem hb).1
 rw[e] at this;cases this
theorem Inv.bs(I:Inv X pins σ H s):∀b o,X.base.get? b=some o->s.heap.get? b=some o/\H b=none:=fun b o e =>
 ⟨I.base.keep b o (I.ok.bs b o e).1 (I.ok.bs b o e).2 (I.ok.nofr e) (I.ok.noex b o e),I.base.free b o (I.ok.bs b o e).1 (I.ok.bs b o e).2 (I.ok.noex b o e)⟩
theorem Inv.bk(I:Inv X pins σ H s):∀b o,X.base.get? b=some o->s.heap.get? b=some o:=fun b o e=>(I.bs b o e).1
theorem Inv.mod(I:Inv X pins σ H s):Mod X.K X.mg X.base:=I.ok.mod
theorem Inv.kIn(I:Inv X pins σ H s):X.K.In s.heap:=I.ok.mod.kin.keeps I.bk
theorem Inv.nolimit(I:Inv X pins σ H s):s.heap.NoLimit:=I.ok.mod.nolimit.keeps I.bk
theorem Inv.lt(I:Inv X pins σ H s):X.env.locals<s.heap.objs.size:=let ⟨_,hn,_⟩:=I.loc;hn.lt
theorem Inv.sz(I:Inv X pins σ H s):X.s₀.heap.objs.size<=s.heap.objs.size:=Nat.le_trans I.ok.above (Nat.le_of_lt I.lt)
theorem Inv.nofs(I:Inv X pins σ H s){a:Addr}(h:s.heap.objs.size<=a):a∉X.fs:=fun hb=>by
 obtain⟨_,o,ho,_⟩:=I.ok.funs.mem hb
 exact absurd (Nat.lt_of_lt_of_le (Heap.lt_size ho) (Nat.le_trans I.sz h)) (Nat.lt_irrefl _)
theorem Inv.cne(I:Inv X pins σ H s):∀x c,X.env.cells.lookup x=some c->c≠X.env.locals:=fun x c e z=>by
 obtain⟨v,o,ho,hd⟩:=I.cell x c e
 obtain⟨m,⟨o',es,ep,ho',hd',_⟩,_⟩:=I.loc
 rw[z,ho'] at ho;cases ho;rw[hd'] at hd;cases hd
theorem Inv.funs(I:Inv X pins σ H s):s.heap.FunFrames X.base X.outer:=by
 have all:∀(l:List Env),(∀b∈GE l,b∈X.fs)->X.s₀.heap.FunFrames X.base l->s.heap.FunFrames X.base l:=by
  intro l
  induction l with
  | nil=>intro _ _;trivial
  | cons env r ih =>
   intro hs hl
   obtain⟨hk,⟨L,o,hf,hn,ho,hd⟩,hr⟩:=hl
   have hL:L∈X.fs:=hs L (by unfold GE;rw[List.filterMap_cons,hf];exact List.mem_cons_self)
   obtain⟨sl,e⟩:=I.base.slot L o ho (I.ok.frf L hL) hL fun z=>I.ok.exfs L z hL
   exact⟨hk,⟨L,_,hf,hn,e,hd⟩,ih (fun b hb=>hs b (by unfold GE;rw[List.filterMap_cons,hf];exact List.mem_cons_of_mem _ hb)) hr⟩
 exact all X.outer (fun _ hb=>hb) I.ok.funs
theorem Inv.stack(I:Inv X pins σ H s):s.heap.FunFrames X.base X.stack:=by
 rcases I.ok.stk with e | ⟨e,hf⟩
 ·rw[e];exact I.funs
 ·rw[e]
  obtain⟨m,hn,_⟩:=I.loc
  refine .cons (by rw[I.ok.kind];decide) hf hn ?_ I.funs
  exact Heap.get?_none_of_le (Nat.le_trans I.ok.bsz I.ok.above)
theorem Inv.stkSub(I:Inv X pins σ H s):∀b∈GE X.stack,b∈X.env.locals::X.fs:=fun b hb=>by
 rcases I.ok.stk with e | ⟨e,hf⟩
 ·rw[e] at hb;exact List.mem_cons_of_mem _ hb
 ·rw[e] at hb
  unfold GE at hb
  rw[List.filterMap_cons,hf] at hb
  exact hb
theorem Inv.stkFree(I:Inv X pins σ H s):∀b∈GE X.stack,H b=none:=fun b hb=>by
 rcases List.mem_cons.mp (I.stkSub b hb) with e | hb
 ·rw[e];exact I.free
 ·obtain⟨_,o,ho,_⟩:=I.ok.funs.mem hb
  exact I.base.free b o ho (I.ok.frf b hb) fun z=>I.ok.exfs b z hb
theorem Inv.step{g':Array GenState}{t':Nat}{d':Drawn}{ch:List Addr}(I:Inv X pins σ H s)
  (hch:∀b∈ch,(b∈X.ex\/X.s₀.heap.objs.size<=b)/\b≠X.env.locals/\(∀x c,X.env.cells.lookup x=some c->c≠b)/\∀p∈X.pn++pins,p.1≠b)
  (keep:∀b o,b≠X.env.locals->b∉X.fs->b∉ch->s.heap.get? b=some o->H b=none->h'.get? b=some o)
  (slot:∀b o,b≠X.env.locals->b∈X.fs->b∉ch->s.heap.get? b=some o->H b=none->∃sl,h'.get? b=some {o with slots:=sl}) (free:∀b o,b∉ch->s.heap.get? b=some o->H b=none->H' b=none)
  (there:∀b o,b∉ch->s.heap.get? b=some o->∃o',h'.get? b=some o')
  (tups:∀b xs,H b=some (.tup xs)->H' b=some (.tup xs)) (frzs:∀b o u,(∀y,u≠.own y)->H b=some (.frz o u)->H' b=some (.frz o u)) (tbls:∀b q c,H b=some (.tbl q c)->H' b=some (.tbl q c))
  (ns:∀m,s.heap.Ns X.env.locals m->h'.Ns X.env.locals m) (hok:zu X.prog X.w H' h') (hg:AllBare g') :
  Inv X pins σ H' {s with heap:=h',gens:=g',drawn:=d',toks:=t' }:=by
 have neL:∀b o,X.s₀.heap.get? b=some o->b≠X.env.locals:=fun b o e=>Nat.ne_of_lt (Nat.lt_of_lt_of_le (Heap.lt_size e) I.ok.above)
 have neC:∀b o,X.s₀.heap.get? b=some o->b∉X.ex->b∉ch:=fun b o e hx hb=>by
  rcases(hch b hb).1 with z | z
  ·exact hx z
  ·exact absurd (Nat.lt_of_lt_of_le (Heap.lt_size e) z) (Nat.lt_irrefl _)
 have cellK:∀x c,X.env.cells.lookup x=some c->∀v,s.heap.IsCell c v->h'.IsCell c v:=fun x c e v ⟨o,ho,hd⟩=>by
  have nch:c∉ch:=fun z=>(hch c z).2.2.1 x c e rfl
  by_cases hc:c∈X.fs
  ·obtain⟨sl,q⟩:=slot c o (I.cne x c e) hc nch ho (I.freeC x c e)
   exact⟨_,q,hd⟩
  ·exact⟨o,keep c o (I.cne x c e) hc nch ho (I.freeC x c e),hd⟩
 refine⟨I.ok,I.os,hg,⟨fun b o e n hb hx=>?_,fun b o e n hb hx=>?_,fun b o e n hx=>?_,fun b o e hx=>?_,fun b xs e=>tups b xs (I.base.tups b xs e),fun b o xs ny e=>frzs b o xs ny (I.base.frzs b o xs ny e),fun b ps d e=>?_⟩,?_,fun x c e=>?_,?_,fun x c e=>?_,fun p hp=>?_,hok,I.len⟩
 ·exact keep b o (neL b o e) hb (neC b o e hx) (I.base.keep b o e n hb hx) (I.base.free b o e n hx)
 ·obtain⟨sl,e1⟩:=I.base.slot b o e n hb hx
  obtain⟨sl',e2⟩:=slot b _ (neL b o e) hb (neC b o e hx) e1 (I.base.free b o e n hx)
  exact⟨sl',e2⟩
 ·obtain⟨o',e1⟩:=I.base.there b o e hx
  exact free b o' (neC b o e hx) e1 (I.base.free b o e n hx)
 ·obtain⟨o',e1⟩:=I.base.there b o e hx
  exact there b o' (neC b o e hx) e1
 ·exact tbls b ps d (I.base.tbls b ps d e)
 ·obtain⟨m,hn,hl⟩:=I.loc
  refine⟨m,ns m hn,fun i x v e1 e2 e3=>?_⟩
  obtain⟨u,r,l⟩:=hl i x v e1 e2 e3
  refine⟨u,r,?_⟩
  rcases l with l | ⟨k,c,e,z⟩
  ·exact .inl l
  ·exact .inr ⟨k,c,e,cellK x c e _ z⟩
 ·obtain⟨v,z⟩:=I.cell x c e
  exact⟨v,cellK x c e v z⟩
 ·obtain⟨m,⟨o,_,_,ho,_⟩,_⟩:=I.loc
  exact free _ o (fun z=>(hch _ z).2.1 rfl) ho I.free
 ·obtain⟨v,o,ho,hd⟩:=I.cell x c e
  exact free c o (fun z=>(hch c z).2.2.1 x c e rfl) ho (I.freeC x c e)
 ·obtain⟨e,n,ne,nf,d⟩:=I.pin p hp
  have nch:p.1∉ch:=fun z=>(hch p.1 z).2.2.2 p hp rfl
  exact⟨keep p.1 p.2 ne nf nch e n,free p.1 p.2 nch e n,ne,nf,d⟩
theorem Inv.un{t':Nat}(I:Inv X pins σ H s)(u:Un X.fs [] H H' s.heap h')(hok:zu X.prog X.w H' h'):Inv X pins σ H' {s with heap:=h',toks:=t' }:=by
 obtain⟨m,⟨o,es,ep,ho,r⟩,_⟩:=id I.loc
 obtain⟨sl,hL⟩:=u.any ho I.free (by simp)
 exact I.step (g':=s.gens) (d':=s.drawn) (ch:=[]) (fun _ z=>nomatch z) (fun b o _ hb _ e n=>u.keep b o e n hb (by simp)) (fun b o _ hb _ e n=>u.slot b o e n hb (by simp)) (fun b o _ e n=>u.free b o e n (by simp)) (fun b o _ e=>u.there b o e (by simp)) u.tups u.frzs u.tbls (fun m' hm=>by
  obtain⟨o',es',ep',ho',r'⟩:=hm
  rw[ho] at ho';cases ho'
  exact⟨_,es',ep',hL,r'⟩) hok I.bare
theorem Inv.call{g':Array GenState}{t':Nat}{d':Drawn}{ch:List Addr}(I:Inv X pins σ H s)(u:Un (GE X.stack) ch H H' s.heap h')(hok:zu X.prog X.w H' h')(hg:AllBare g')
  (hch:∀b∈ch,(b∈X.ex\/X.s₀.heap.objs.size<=b)/\b≠X.env.locals/\(∀x c,X.env.cells.lookup x=some c->c≠b)/\∀p∈X.pn++pins,p.1≠b) :
  Inv X pins σ H' {s with heap:=h',gens:=g',drawn:=d',toks:=t' }:=by
 obtain⟨m,⟨o,es,ep,ho,r⟩,_⟩:=id I.loc
 obtain⟨sl,hL⟩:=u.any ho I.free fun z=>(hch _ z).2.1 rfl
 exact I.step (ch:=ch) hch (fun b o hL hb hc e n=>u.keep b o e n (fun z=>(List.mem_cons.mp (I.stkSub b z)).elim hL hb) hc) (fun b o _ _ hc e n=>u.any e n hc) (fun b o hc e n=>u.free b o e n hc) (fun b o hc e=>u.there b o e hc) u.tups u.frzs u.tbls (fun m' hm=>by
  obtain⟨o',es',ep',ho',r'⟩:=hm
  rw[ho] at ho';cases ho'
  exact⟨_,es',ep',hL,r'⟩) hok hg
theorem Inv.turned{t':Nat}{it:Addr}(I:Inv X pins σ H s)(k:∀b o,b≠it->s.heap.get? b=some o->h'.get? b=some o)(hn:H it=none)(hL:it≠X.env.locals)
  (h1:it∈X.ex\/X.s₀.heap.objs.size<=it) (h2:∀x c,X.env.cells.lookup x=some c->c≠it) (h3:∀p∈X.pn++pins,p.1≠it):Inv X pins σ H {s with heap:=h',toks:=t' }:=by
 have nit:∀b u,H b=some u->b≠it:=fun b u e z=>by rw[z,hn] at e;cases e
 refine I.step (g':=s.gens) (d':=s.drawn) (ch:=[it]) (fun b hb=>?_) (fun b o _ _ hc e _=>k b o (fun z=>hc (by simp[z])) e) (fun b o _ _ hc e _=>⟨o.slots,k b o (fun z=>hc (by simp[z])) e⟩) (fun _ _ _ _ n=>n)
  (fun b o hc e=>⟨o,k b o (fun z=>hc (by simp[z])) e⟩) (fun _ _ e=>e) (fun _ _ _ _ e=>e) (fun _ _ _ e=>e) (fun m hm=>?_) (fun b u e=>?_) I.bare
 ·have e:b=it:=by simpa using hb
  subst e
  exact⟨h1,hL,h2,h3⟩
 ·obtain⟨o,es,ep,ho,r⟩:=hm
  exact⟨o,es,ep,k _ o (Ne.symm hL) ho,r⟩
 ·refine(I.hok b u e).stay (fun c v hc q=>k c v ?_ q) (fun _ q=>q) (fun _ _ q=>q) fun _ _ _ q=>q
  rcases hc with z | z
  ·rw[z];exact nit b u e
  ·exact nit c _ z
theorem Inv.tok(I:Inv X pins σ H s)(t:Nat):Inv X pins σ H {s with toks:=t}:=I.un (h':=s.heap) (t':=t) Un.refl I.hok
theorem Inv.kept{t':Nat}(I:Inv X pins σ H s)(k:∀b u,s.heap.get? b=some u->h'.get? b=some u):Inv X pins σ H {s with heap:=h',toks:=t' }:=I.un (Un.kept k) (I.hok.kept k)
theorem Inv.laid{a:Addr}{o:HO}{t':Nat}(I:Inv X pins σ H s)(k:∀b u,s.heap.get? b=some u->h'.get? b=some u)(hp:s.heap.objs.size<=a)(new:u5 X.prog X.w (upd H a o) h' a o) :
  Inv X pins σ (upd H a o) {s with heap:=h',toks:=t' }:=I.un (Un.laid k hp (I.hok.fresh hp)) (I.hok.laid k hp new)
theorem Inv.write{x e:Addr}{o:HO}{t':Nat}(I:Inv X pins σ H s)(mu:MY (H x))(he:e=x\/H e=some (.own x))(k:∀b u,b≠e->s.heap.get? b=some u->h'.get? b=some u)(heo:∃u,h'.get? e=some u)
  (new:u5 X.prog X.w (upd H x o) h' x o):Inv X pins σ (upd H x o) {s with heap:=h',toks:=t' }:=I.un (Un.write mu he k heo) (I.hok.write mu he k heo new)
theorem Inv.pins_of{pins':List (Addr×Obj)}(I:Inv X pins σ H s)(h:∀p∈pins',s.heap.get? p.1=some p.2/\H p.1=none/\p.1≠X.env.locals/\p.1∉X.fs/\∀v,p.2.data≠.cell v):Inv X pins' σ H s:=
 ⟨I.ok,I.os,I.bare,I.base,I.loc,I.cell,I.free,I.freeC,fun p hp=>(List.mem_append.mp hp).elim (fun z=>I.pin p (List.mem_append_left _ z)) (h p),I.hok,I.len⟩
theorem DZ{N:List Str}(hN:N.Nodup){i j:Nat}{x:Str}(a:N[i]?=some x)(b:N[j]?=some x):i=j:=by
 obtain⟨h1,e1⟩:=List.getElem?_eq_some_iff.mp a
 obtain⟨h2,e2⟩:=List.getElem?_eq_some_iff.mp b
 exact(List.getElem_inj hN).mp (e1.trans e2.symm)
theorem GH{M:Model}{A:Around}{E:Value->Shared->Prop}{i:Nat}{x:Str}{v:V}{u:Value}{Q:Unit->Shared->Prop}(I:Inv X pins σ H s)(hN:X.N.Nodup)(hi:X.N[i]?=some x)(hx:Loc X.env.scope x)(r:RelV v u)
  (h:∀s',Inv X pins (σ.set i (some v)) H s'->(∃a,Heap.SameBut a s.heap s'.heap/\(a=X.env.locals\/X.env.cells.lookup x=some a))->Q () s') (hf:X.fn x=true\/X.env.scope.names.lookup x=some .local:=by first | exact .inl rfl | exact .inr rfl | assumption):wpAny M A (storeName X.env x u) Q E s:=by
 obtain⟨m,hn,hl⟩:=id I.loc
 have hcls:(X.env.scope.kind==.class||(X.env.scope.kind==.module&&X.env.locals != X.env.globals))=false:=by rw[I.ok.kind];rfl
 have hiσ:i<σ.length:=by rw[I.len];exact(List.getElem?_eq_some_iff.mp hi).1
 have cne:=I.cne
 have tracked:∀{a:Addr} {h':Heap},(∃o,s.heap.get? a=some o/\H a=none)->Heap.SameBut a s.heap h'->zu X.prog X.w H h':=fun {a h'} ha hs b ob e=>by
  obtain⟨_,_,hfree⟩:=ha
  refine(I.hok b ob e).stay (fun c w' hc q=>(hs.2 c ?_).trans q) (fun _ q=>q) (fun _ _ q=>q) fun _ _ _ q=>q
  rintro rfl
  rcases hc with rfl | hc
  ·rw[hfree] at e;cases e
  ·rw[hfree] at hc;cases hc
 rcases hx with hk | hk
 ·refine wpAny_storeName_local hk hn (fun h' hn' hs=>?_) hcls
  obtain⟨oL,_,_,hoL,_⟩:=id hn
  refine h _ ⟨I.ok,I.os,I.bare,⟨fun b o e n hb hx=>?_,fun b o e n hb hx=>?_,I.base.free,fun b o e hx=>?_,I.base.tups,I.base.frzs,I.base.tbls⟩,⟨_,hn',fun j y v' e1 e2 e3=>?_⟩,fun y c e=>?_,I.free,I.freeC,fun p hp=>?_,tracked ⟨oL,hoL,I.free⟩ hs,by simpa using I.len⟩ ⟨_,hs,.inl rfl⟩
  ·exact(hs.2 b (Nat.ne_of_lt (Nat.lt_of_lt_of_le (Heap.lt_size e) I.ok.above))).trans (I.base.keep b o e n hb hx)
  ·obtain⟨sl,e1⟩:=I.base.slot b o e n hb hx
   exact⟨sl,(hs.2 b (Nat.ne_of_lt (Nat.lt_of_lt_of_le (Heap.lt_size e) I.ok.above))).trans e1⟩
  ·obtain⟨o',e1⟩:=I.base.there b o e hx
   exact⟨o',(hs.2 b (Nat.ne_of_lt (Nat.lt_of_lt_of_le (Heap.lt_size e) I.ok.above))).trans e1⟩
  ·by_cases hj:j=i
   ·subst hj
    rw[hi] at e1;cases e1
    rw[List.getElem?_set_self hiσ] at e2
    cases e2
    exact⟨u,r,.inl ⟨hk,by simp⟩⟩
   ·rw[List.getElem?_set_ne (Ne.symm hj)] at e2
    obtain⟨u',r',q⟩:=hl j y v' e1 e2 e3
    refine⟨u',r',?_⟩
    rcases q with ⟨k,e⟩ | ⟨k,c,e,z⟩
    ·refine .inl ⟨k,?_⟩
     have:y≠x:=fun e=>hj (DZ hN e1 (e ▸ hi))
     simp[this,e]
    ·exact .inr ⟨k,c,e,z.sameBut hs (cne y c e)⟩
  ·obtain⟨w',z⟩:=I.cell y c e
   exact⟨w',z.sameBut hs (cne y c e)⟩
  ·obtain⟨e,n,ne,nf,d⟩:=I.pin p hp
   exact⟨(hs.2 p.1 ne).trans e,n,ne,nf,d⟩
 ·have hfn:X.fn x=true:=by
   rcases hf with z | z
   ·exact z
   ·rw[z] at hk;cases hk
  obtain⟨c,hc⟩:=I.ok.has x (.inl hk)
  obtain⟨w',z⟩:=I.cell x c hc
  refine wpAny_storeName_cell I.ok.kind hk hc z (fun h' hc' hs=>?_)
  obtain⟨oc,hoc,hocd⟩:=id z
  refine h {s with heap:=h' } ⟨I.ok,I.os,I.bare,⟨fun b o e n hb hx=>?_,fun b o e n hb hx=>?_,I.base.free,fun b o e hx=>?_,I.base.tups,I.base.frzs,I.base.tbls⟩,⟨m,hn.sameBut hs (Ne.symm (cne x c hc)),fun j y v' e1 e2 e3=>?_⟩,fun y c' e=>?_,I.free,I.freeC,fun p hp=>?_,tracked ⟨oc,hoc,I.freeC x c hc⟩ hs,by simpa using I.len⟩ ⟨c,hs,.inr hc⟩
  ·exact(hs.2 b (Nat.ne_of_lt (Nat.lt_of_lt_of_le (Heap.lt_size e) (I.ok.cab x c hfn hc)))).trans (I.base.keep b o e n hb hx)
  ·obtain⟨sl,e1⟩:=I.base.slot b o e n hb hx
   exact⟨sl,(hs.2 b (Nat.ne_of_lt (Nat.lt_of_lt_of_le (Heap.lt_size e) (I.ok.cab x c hfn hc)))).trans e1⟩
  ·obtain⟨o',e1⟩:=I.base.there b o e hx
   exact⟨o',(hs.2 b (Nat.ne_of_lt (Nat.lt_of_lt_of_le (Heap.lt_size e) (I.ok.cab x c hfn hc)))).trans e1⟩
  ·by_cases hj:j=i
   ·subst hj
    rw[hi] at e1;cases e1
    rw[List.getElem?_set_self hiσ] at e2
    cases e2
    exact⟨u,r,.inr ⟨.inl hk,c,hc,hc'⟩⟩
   ·rw[List.getElem?_set_ne (Ne.symm hj)] at e2
    obtain⟨u',r',q⟩:=hl j y v' e1 e2 e3
    refine⟨u',r',?_⟩
    rcases q with q | ⟨k,c',e,z'⟩
    ·exact .inl q
    ·refine .inr ⟨k,c',e,z'.sameBut hs ?_⟩
     rintro rfl
     exact hj (DZ hN e1 (I.ok.inj _ _ _ e hc ▸ hi))
  ·by_cases hcc:c'=c
   ·subst hcc;exact⟨_,hc'⟩
   ·obtain⟨w2,z2⟩:=I.cell y c' e
    exact⟨w2,z2.sameBut hs hcc⟩
  ·obtain⟨e,n,ne,nf,d⟩:=I.pin p hp
   refine⟨(hs.2 p.1 ?_).trans e,n,ne,nf,d⟩
   intro q
   rw[q,hoc] at e
   have q':oc=p.2:=Option.some.inj e
   exact d w' (by rw[<- q'];exact hocd)
theorem DX{M:Model}{A:Around}{E:Value->Shared->Prop}{i:Nat}{x:Str}{v:V}{u:Value}{Q:Unit->Shared->Prop}(I:Inv X pins σ H s)(hN:X.N.Nodup)(hi:X.N[i]?=some x)(hx:Loc X.env.scope x)(r:RelV v u)
  (h:∀s',Inv X pins (σ.set i (some v)) H s'->Q () s') (hf:X.fn x=true\/X.env.scope.names.lookup x=some .local:=by first | exact .inl rfl | exact .inr rfl | assumption):wpAny M A (storeName X.env x u) Q E s:=
 GH I hN hi hx r (fun s' I' _=>h s' I') hf
theorem Inv.call'{s':Shared}{ch:List Addr}(I:Inv X pins σ H s)(ho:s'.os=s.os)(u:Un (GE X.stack) ch H H' s.heap s'.heap)(hok:zu X.prog X.w H' s'.heap)(hg:AllBare s'.gens)
  (hch:∀b∈ch,(b∈X.ex\/X.s₀.heap.objs.size<=b)/\b≠X.env.locals/\(∀x c,X.env.cells.lookup x=some c->c≠b)/\∀p∈X.pn++pins,p.1≠b):Inv X pins σ H' s':=by
 obtain⟨h',g',d',t',o'⟩:=s'
 have e:o'=s.os:=ho
 subst e
 exact I.call (g':=g') (t':=t') (d':=d') u hok hg hch
end
abbrev XK:=Value->Option Addr->Hp->Prop
abbrev St:=List (Option V)
abbrev VK:=V->Hp->Prop
abbrev TE:=St->Hp->VK->Prop
abbrev TT:=St->Hp->(Bool->Hp->Prop)->Prop
abbrev TA:=St->Hp->(List V->Hp->Prop)->Prop
structure Ends where
 nx:St->Hp->Prop
 rt:VK
 bk:St->Hp->Prop:=fun _ _=>False
 ct:St->Hp->Prop:=fun _ _=>False
abbrev TS:=Ends->St->Hp->Prop
def EP(X:Cx)(pins:List (Addr×Obj))(σ:St)(Q:VK)(u:Value)(s':Shared):Prop:=∃v H',Inv X pins σ H' s'/\RelV v u/\Q v H'
def TP(X:Cx)(pins:List (Addr×Obj))(σ:St)(Q:Bool->Hp->Prop)(b:Bool)(s':Shared):Prop:=∃H',Inv X pins σ H' s'/\Q b H'
def AP(X:Cx)(pins:List (Addr×Obj))(σ:St)(Q:List V->Hp->Prop)(us:List Value)(s':Shared):Prop:=∃vs H',Inv X pins σ H' s'/\p9 vs us/\Q vs H'
def SP(X:Cx)(pins:List (Addr×Obj))(D:Ends)(f:Flow)(s':Shared):Prop:=
 match f with
 | .next=>∃ σ' H',Inv X pins σ' H' s'/\D.nx σ' H'
 | .brk=>∃ σ' H',Inv X pins σ' H' s'/\D.bk σ' H'
 | .cont=>∃ σ' H',Inv X pins σ' H' s'/\D.ct σ' H'
 | .ret u=>∃v σ' H',Inv X pins σ' H' s'/\RelV v u/\D.rt v H'
def PE(X:Cx)(e:Expr)(t:TE):Prop:=
 ∀(pins:List (Addr×Obj)) (s:Shared) (σ:St) (H:Hp) (Q:VK),Inv X pins σ H s->t σ H Q->wpAny (model X.prog X.w) X.A (eval e X.env) (EP X pins σ Q) X.xe s
def PT(X:Cx)(e:Expr)(t:TT):Prop:=
 ∀(pins:List (Addr×Obj)) (s:Shared) (σ:St) (H:Hp) (Q:Bool->Hp->Prop),Inv X pins σ H s->t σ H Q->wpAny (model X.prog X.w) X.A (isTrue e X.env (eval e X.env)) (TP X pins σ Q) X.xe s
def PW(X:Cx)(e:Expr)(t:TT):Prop:=
 ∀(whole:Sem Value) (pins:List (Addr×Obj)) (s:Shared) (σ:St) (H:Hp) (Q:Bool->Hp->Prop),Inv X pins σ H s->t σ H Q->wpAny (model X.prog X.w) X.A (isTrue e X.env whole) (TP X pins σ Q) X.xe s
theorem PW.pt{X:Cx}{e:Expr}{t:TT}(h:PW X e t):PT X e t:=h _
def PA(X:Cx)(es:List Expr)(t:TA):Prop:=
 ∀(pos:Pos) (pins:List (Addr×Obj)) (s:Shared) (σ:St) (H:Hp) (Q:List V->Hp->Prop),Inv X pins σ H s->t σ H Q->wpAny (model X.prog X.w) X.A (spliced (backTo pos (starEach es X.env))) (AP X pins σ Q) X.xe s
def PS(X:Cx)(st:Stmt)(t:TS):Prop:=
 ∀(pins:List (Addr×Obj)) (s:Shared) (σ:St) (H:Hp) (D:Ends),Inv X pins σ H s->t D σ H->wpAny (model X.prog X.w) X.A (exec st X.env) (SP X pins D) X.xe s
def PSs(X:Cx)(st:List Stmt)(t:TS):Prop:=
 ∀(pins:List (Addr×Obj)) (s:Shared) (σ:St) (H:Hp) (D:Ends),Inv X pins σ H s->t D σ H->wpAny (model X.prog X.w) X.A (execs st X.env) (SP X pins D) X.xe s
theorem ug{α:Type}{t:Sem α}{Q Q':α->Shared->Prop}{M:Model}{A:Around}{E:Value->Shared->Prop}{s:Shared}(h:wpAny M A t Q E s)(hQ:∀a s,Q a s->Q' a s):wpAny M A t Q' E s:=wpAny_mono h hQ fun _ _ x=>x
end L2
namespace L2
open PySem PySem.Spec PyProof.Rows
section
variable{X:Cx}
theorem bin{a b:Expr}{ta tb:TE}(ha:PE X a ta)(hb:PE X b tb){pins:List (Addr×Obj)}{s:Shared}{σ:St}{H:Hp}{R:V->V->Hp->Prop}(I:Inv X pins σ H s)(h:ta σ H fun x H1=>tb σ H1 fun y H2=>R x y H2)
  {α:Type} {Q:α->Shared->Prop} {f:Value->Value->Sem α}
  (hf:∀v u s2 x y H2,Inv X pins σ H2 s2->RelV x v->RelV y u->R x y H2->wpAny (model X.prog X.w) X.A (f v u) Q X.xe s2) :
  wpAny (model X.prog X.w) X.A (eval a X.env) (fun v s₁=>wpAny (model X.prog X.w) X.A (eval b X.env) (fun u s₂=>wpAny (model X.prog X.w) X.A (f v u) Q X.xe s₂) X.xe s₁) X.xe s:=by
 refine ug (ha pins s σ H _ I h) fun v s1 ⟨x,H1,I1,r1,q1⟩=>?_
 refine ug (hb pins s1 σ H1 _ I1 q1) fun u s2 ⟨y,H2,I2,r2,q2⟩=>?_
 exact hf v u s2 x y H2 I2 r1 r2 q2
def MK(i:Nat):TE:=fun σ H Q=>∃v,σ[i]?=some (some v)/\Q v H
def tC(v:V):TE:=fun _ H Q=>Q v H
theorem mm{i:Nat}{x:Str}{pos:Pos}(hN:X.N[i]?=some x)(hv:G0 X.env.scope x)(hd:(x==("__debug__" : Str))=false:=by decide)(hcd:(x==("__classdict__" : Str))=false:=by decide):PE X (.Name x pos) (MK i):=by
 intro pins s σ H Q I h
 obtain⟨v,e,h⟩:=h
 obtain⟨m,hn,hl⟩:=I.loc
 obtain⟨u,r,l⟩:=hl i x v hN e hv
 have fin:EP X pins σ Q u s:=⟨v,H,I,r,h⟩
 rcases l with ⟨hk,hm⟩ | ⟨hk,c,hc,hcell⟩
 ·exact wpAny_Name (wpAny_loadName_local I.ok.kind hk hn hm fin) hd
 ·rcases hk with hk | hk
  ·exact wpAny_Name (wpAny_loadName_cell I.ok.kind hk hc hcell fin) hd
  ·exact wpAny_Name (wpAny_loadName_free I.ok.kind hk hc hcell fin hcd) hd
theorem Lc{i j pos}:PE X (.Constant (.int i) j pos) (tC (.int i)):=fun _ _ _ H _ I h=>wpAny_Constant_int ⟨.int i,H,I.tok _,⟨_,rfl⟩,h⟩
theorem MH{b j pos}:PE X (.Constant (.bool b) j pos) (tC (.bl b)):=fun _ _ _ H _ I h=>Constant_bool ⟨.bl b,H,I,rfl,h⟩
theorem L9{j pos}:PE X (.Constant .none j pos) (tC .non):=fun _ _ _ H _ I h=>Constant_none ⟨.non,H,I,rfl,h⟩
theorem K0{x j pos}:PE X (.Constant (.str x) j pos) (tC (.str x)):=fun _ _ _ H _ I h=>Calls.Constant_str ⟨.str x,H,I.tok _,⟨_,rfl⟩,h⟩
def Gl(X:Cx)(x:Str):Prop:=X.env.kindOf x=some .globalImplicit
theorem nR{E:Value->Shared->Prop}{pins:List (Addr×Obj)}{s:Shared}{σ:St}{H:Hp}{x:Str}{u:Value}{pos:Pos}{Q:Value->Shared->Prop}(I:Inv X pins σ H s)(hg:Gl X x)(hm:X.mg x=some u)(h:Q u s)
  (hd:(x==("__debug__" : Str))=false:=by decide):wpAny (model X.prog X.w) X.A (eval (.Name x pos) X.env) Q E s:=
 Calls.Name_function_global I.ok.kind hg (Calls.loadGlobal_global (by rw[I.ok.glob];exact I.mod.glob.keeps I.bk) hm h) hd
theorem da{E:Value->Shared->Prop}{pins:List (Addr×Obj)}{s:Shared}{σ:St}{H:Hp}{x:Str}{u:Value}{pos:Pos}{Q:Value->Shared->Prop}(I:Inv X pins σ H s)(hg:Gl X x)(hm:X.mg x=none)(hv:bootBuiltins x=some u)(h:Q u s)
  (hn:x ≠ "__name__":=by decide) (hd:(x==("__debug__" : Str))=false:=by decide):wpAny (model X.prog X.w) X.A (eval (.Name x pos) X.env) Q E s:=by
 obtain⟨mb,h1,h2⟩:=I.mod.blt
 exact Calls.Name_function_global I.ok.kind hg (Calls.loadGlobal_builtin (by rw[I.ok.glob];exact I.mod.glob.keeps I.bk) hm (by rw[I.ok.blt];exact h1.keeps I.bk) ((h2 x hn).trans hv) h) hd
theorem kd{x:Str}{v:V}{u:Value}{pos:Pos}(hg:Gl X x)(hm:X.mg x=some u)(r:RelV v u)(hd:(x==("__debug__" : Str))=false:=by decide):PE X (.Name x pos) (tC v):=
 fun _ _ _ H _ I h=>nR I hg hm ⟨v,H,I,r,h⟩ hd
variable{a b:Expr}{ta tb:TE}{pos:Pos}
variable{tA tB':TT}{rest:List Expr}
def Ph(t u:TT):TT:=fun σ H Q=>t σ H fun c H1=>if c=true then u σ H1 Q else Q false H1
def P3(t u:TT):TT:=fun σ H Q=>t σ H fun c H1=>if c=true then Q true H1 else u σ H1 Q
def Oy(t:TT):TT:=fun σ H Q=>t σ H fun c H1=>Q (!c) H1
theorem JM(ha:PT X a tA):PW X (.BoolOp .And [a] pos) tA:=by
 intro wh pins s σ H Q I h
 refine isTrue_and (ug (ha pins s σ H Q I h) fun c s1 e=>?_)
 cases c with
 | true=>exact isTrue_and_nil e
 | false=>exact e
theorem LK(ha:PT X a tA):PW X (.BoolOp .Or [a] pos) tA:=by
 intro wh pins s σ H Q I h
 refine isTrue_or (ug (ha pins s σ H Q I h) fun c s1 e=>?_)
 cases c with
 | false=>exact isTrue_or_nil e
 | true=>exact e
theorem K3(ha:PT X a tA)(hb:PW X (.BoolOp .And (b::rest) pos) tB'):PW X (.BoolOp .And (a::b::rest) pos) (Ph tA tB'):=by
 intro wh pins s σ H Q I h
 refine isTrue_and (ug (ha pins s σ H _ I h) fun c s1 ⟨H1,I1,q1⟩=>?_)
 cases c with
 | true=>exact hb wh pins s1 σ H1 Q I1 q1
 | false=>exact⟨H1,I1,q1⟩
theorem M1(ha:PT X a tA)(hb:PW X (.BoolOp .Or (b::rest) pos) tB'):PW X (.BoolOp .Or (a::b::rest) pos) (P3 tA tB'):=by
 intro wh pins s σ H Q I h
 refine isTrue_or (ug (ha pins s σ H _ I h) fun c s1 ⟨H1,I1,q1⟩=>?_)
 cases c with
 | true=>exact⟨H1,I1,q1⟩
 | false=>exact hb wh pins s1 σ H1 Q I1 q1
theorem sF(ha:PT X a tA):PT X (.UnaryOp .Not a pos) (Oy tA):=by
 intro pins s σ H Q I h
 exact isTrue_not (ha pins s σ H (fun c H1=>Q (!c) H1) I h)
def M7(ta tb:TE):TE:=fun σ H Q=>ta σ H fun x H1=>∃c,x=.bl c/\if c=true then tb σ H1 Q else Q (.bl false) H1
def MN(ta:TE):TE:=fun σ H Q=>ta σ H fun x H1=>∃c,x=.bl c/\Q (.bl (!c)) H1
theorem sC{op}{t:TE}(h:PE X a t):PE X (.BoolOp op [a] pos) t:=fun pins s σ H Q I hw=>BoolOp_one (h pins s σ H Q I hw)
theorem sg(ha:PE X a ta)(hb:PE X (.BoolOp .And (b::rest) pos) tb):PE X (.BoolOp .And (a::b::rest) pos) (M7 ta tb):=by
 intro pins s σ H Q I h
 refine BoolOp_and (ug (ha pins s σ H _ I h) fun v s1 ⟨x,H1,I1,r1,q1⟩=>?_)
 obtain⟨c,rfl,q1⟩:=q1
 cases r1
 refine wpAny_truthy_bool ?_
 cases c with
 | true=>exact hb pins s1 σ H1 Q I1 q1
 | false=>exact⟨.bl false,H1,I1,rfl,q1⟩
theorem rZ(ha:PE X a ta):PE X (.UnaryOp .Not a pos) (MN ta):=by
 intro pins s σ H Q I h
 refine UnaryOp_ (ug (ha pins s σ H _ I h) fun v s1 ⟨x,H1,I1,r1,q1⟩=>?_)
 obtain⟨c,rfl,q1⟩:=q1
 cases r1
 exact not_of (wpAny_truthy_bool ⟨.bl (!c),H1,I1,rfl,q1⟩)
def Qs(t:TT)(ta tb:TE):TE:=fun σ H Q=>t σ H fun c H1=>if c=true then ta σ H1 Q else tb σ H1 Q
theorem pw{c:Expr}(hc:PT X c tA)(ha:PE X a ta)(hb:PE X b tb):PE X (.IfExp c a b pos) (Qs tA ta tb):=by
 intro pins s σ H Q I h
 refine wpAny_IfExp (ug (hc pins s σ H _ I h) fun d s1 ⟨H1,I1,q1⟩=>?_)
 cases d with
 | true=>exact ha pins s1 σ H1 Q I1 q1
 | false=>exact hb pins s1 σ H1 Q I1 q1
end
end L2
namespace L2
open PySem PySem.Spec PyProof.Rows
def wZ(K:PySem.W.Frag)(H:Hp)(a:Addr)(xs:List V):Prop:=
 Rd H a (.lst xs) \/
  ∃(o:Obj) (its:Array Value) (n:Nat),K.lookup a=some o/\o.cls=.type "list" /\ o.dict=none/\o.data=.seq its n/\its.size<=sizeLine/\p9 xs its.toList
def xy(K:PySem.W.Frag)(H:Hp)(a:Addr)(xs:List V):Prop:=
 Rd H a (.tup xs) \/
  ∃(o:Obj) (its:Array Value) (n:Nat),K.lookup a=some o/\o.cls=.type "tuple" /\ o.dict=none/\o.data=.seq its n/\its.size<=sizeLine/\p9 xs its.toList
def OA:Value->Option V
 | .none=>some .non
 | .bool b=>some (.bl b)
 | .int i _=>some (.int i)
 | .str x _=>some (.str x)
 | .bytes b _=>some (.byt b)
 | .float b _=>some (.flt b)
 | .ref a=>some (.ref a)
 | .type n=>some (.ty n)
 | _=>none
theorem RelV.abs{x:V}{u:Value}(r:RelV x u):OA u=some x:=by
 cases x with
 | non=>cases r;rfl
 | bl _=>cases r;rfl
 | int _=>obtain⟨t,rfl⟩:=r;rfl
 | str _=>obtain⟨t,rfl⟩:=r;rfl
 | byt _=>obtain⟨t,rfl⟩:=r;rfl
 | flt _=>obtain⟨t,rfl⟩:=r;rfl
 | ref _=>cases r;rfl
 | ty _=>cases r;rfl
theorem RelV.inj{x y:V}{u:Value}(r:RelV x u)(q:RelV y u):x=y:=Option.some.inj (r.abs.symm.trans q.abs)
theorem p9.inj:∀{xs ys:List V} {us:List Value},p9 xs us->p9 ys us->xs=ys
 | _,_,_,.nil,.nil=>rfl
 | _,_,_,.cons r t,.cons r' t'=>by rw[r.inj r',p9.inj t t']
section
variable{X:Cx}{pins:List (Addr×Obj)}{σ:St}{H:Hp}{s:Shared}{a:Addr}{xs ys:List V}
theorem wZ.of{K:PySem.W.Frag}(h:H a=some (.lst xs)):wZ K H a xs:=.inl (.inl h)
theorem xy.of{K:PySem.W.Frag}(h:H a=some (.tup xs)):xy K H a xs:=.inl (.inl h)
theorem Inv.list(I:Inv X pins σ H s)(h:wZ X.K H a xs):∃its:List Value,p9 xs its/\PlainL s.heap a its.toArray/\xs.length<=sizeLine:=by
 rcases h with h | ⟨o,its,n,hk,hc,hd,hs,hz,r⟩
 ·obtain⟨z,its,n,r,e⟩:=h.ok I.hok
  exact⟨its,r,⟨_,n,e,rfl,rfl,rfl⟩,z⟩
 ·refine⟨its.toList,r,⟨o,n,I.kIn a o hk,hc,hd,by simpa using hs⟩,?_⟩
  have e:=r.length
  simp only[Array.length_toList] at e
  omega
theorem Inv.tuple(I:Inv X pins σ H s)(h:xy X.K H a xs):∃its:List Value,p9 xs its/\IsTup s.heap a its.toArray/\xs.length<=sizeLine:=by
 rcases h with h | ⟨o,its,n,hk,hc,hd,hs,hz,r⟩
 ·obtain⟨z,its,r,p⟩:=h.ok I.hok
  exact⟨its,r,p.is,z⟩
 ·refine⟨its.toList,r,⟨o,I.kIn a o hk,hc,n,by simpa using hs⟩,?_⟩
  have e:=r.length
  simp only[Array.length_toList] at e
  omega
theorem Inv.list_inj(I:Inv X pins σ H s)(h:wZ X.K H a xs)(h':wZ X.K H a ys):xs=ys:=by
 obtain⟨its,r,⟨o,n,e,_,_,d⟩,_⟩:=I.list h
 obtain⟨its',r',⟨o',n',e',_,_,d'⟩,_⟩:=I.list h'
 rw[e] at e';cases e'
 rw[d] at d'
 injection d' with d1 _
 have:its=its':=by simpa using congrArg Array.toList d1
 subst this
 exact r.inj r'
theorem Inv.tuple_inj(I:Inv X pins σ H s)(h:xy X.K H a xs)(h':xy X.K H a ys):xs=ys:=by
 obtain⟨its,r,⟨o,e,_,n,d⟩,_⟩:=I.tuple h
 obtain⟨its',r',⟨o',e',_,n',d'⟩,_⟩:=I.tuple h'
 rw[e] at e';cases e'
 rw[d] at d'
 injection d' with d1 _
 have:its=its':=by simpa using congrArg Array.toList d1
 subst this
 exact r.inj r'
end
abbrev Cx.wish(X:Cx)(E:Value->Shared->Prop):Cx:={X with xe:=E}
abbrev Cx.nox(X:Cx):Cx:=X.wish fun _ _=>False
theorem Cx.Ok.wish{X:Cx}(ok:X.Ok)(E:Value->Shared->Prop):(X.wish E).Ok:=
 ⟨ok.mod,ok.kind,ok.glob,ok.blt,ok.above,ok.inj,ok.has,ok.cab,ok.hd,ok.frames,ok.stk,ok.exf,ok.bs,ok.bsz,ok.noex,ok.exfs,ok.funs,ok.frf⟩
theorem Cx.Ok.unwish{X:Cx}{E:Value->Shared->Prop}(ok:(X.wish E).Ok):X.Ok:=
 ⟨ok.mod,ok.kind,ok.glob,ok.blt,ok.above,ok.inj,ok.has,ok.cab,ok.hd,ok.frames,ok.stk,ok.exf,ok.bs,ok.bsz,ok.noex,ok.exfs,ok.funs,ok.frf⟩
section
variable{X:Cx}{pins:List (Addr×Obj)}{σ:St}{H:Hp}{s:Shared}{E:Value->Shared->Prop}
theorem Inv.wish(I:Inv X pins σ H s)(E:Value->Shared->Prop):Inv (X.wish E) pins σ H s:=⟨I.ok.wish E,I.os,I.bare,I.base,I.loc,I.cell,I.free,I.freeC,I.pin,I.hok,I.len⟩
theorem Inv.unwish(I:Inv (X.wish E) pins σ H s):Inv X pins σ H s:=⟨I.ok.unwish,I.os,I.bare,I.base,I.loc,I.cell,I.free,I.freeC,I.pin,I.hok,I.len⟩
theorem SP.unwish{D:Ends}{f:Flow}{s':Shared}(h:SP (X.wish E) pins D f s'):SP X pins D f s':=by
 cases f with
 | next=>obtain⟨σ',H',I,q⟩:=h;exact⟨σ',H',I.unwish,q⟩
 | brk=>obtain⟨σ',H',I,q⟩:=h;exact⟨σ',H',I.unwish,q⟩
 | cont=>obtain⟨σ',H',I,q⟩:=h;exact⟨σ',H',I.unwish,q⟩
 | ret u=>obtain⟨v,σ',H',I,r,q⟩:=h;exact⟨v,σ',H',I.unwish,r,q⟩
theorem PE.nox{e:Expr}{t:TE}(h:PE X.nox e t):PE X e t:=fun pins s σ H Q I hw =>
 wpAny_mono (h pins s σ H Q (I.wish _) hw) (fun _ _ ⟨v,H',I',r,q⟩=>⟨v,H',I'.unwish,r,q⟩) fun _ _ z=>False.elim z
theorem PT.nox{e:Expr}{t:TT}(h:PT X.nox e t):PT X e t:=fun pins s σ H Q I hw =>
 wpAny_mono (h pins s σ H Q (I.wish _) hw) (fun _ _ ⟨H',I',q⟩=>⟨H',I'.unwish,q⟩) fun _ _ z=>False.elim z
theorem PSs.nox{st:List Stmt}{t:TS}(h:PSs X.nox st t):PSs X st t:=fun pins s σ H D I hw =>
 wpAny_mono (h pins s σ H D (I.wish _) hw) (fun _ _ q=>q.unwish) fun _ _ z=>False.elim z
end
section
variable{X:Cx}{st:Stmt}{rest:List Stmt}{t u:TS}{e:Expr}{te:TE}{pos:Pos}
def NA:TS:=fun D σ H=>D.nx σ H
def Pg(t u:TS):TS:=fun D σ H=>t {D with nx:=u D} σ H
theorem AS:PSs X [] NA:=fun _ _ σ H _ I h=>wpAny_execs_nil ⟨σ,H,I,h⟩
theorem cg(h1:PS X st t)(h2:PSs X rest u):PSs X (st::rest) (Pg t u):=by
 intro pins s σ H D I h
 refine wpAny_execs_cons (ug (h1 pins s σ H {D with nx:=u D} I h) fun f s1 q=>?_)
 cases f with
 | next =>
  obtain⟨σ',H',I',q⟩:=q
  exact h2 pins s1 σ' H' D I' q
 | ret v=>exact q
 | brk=>exact q
 | cont=>exact q
theorem fu(h1:PS X st t):PSs X [st] t:=by
 intro pins s σ H D I h
 refine wpAny_execs_cons (ug (h1 pins s σ H D I h) fun f s1 q=>?_)
 cases f with
 | next=>exact wpAny_execs_nil q
 | ret v=>exact q
 | brk=>exact q
 | cont=>exact q
theorem Inv.quiet{pins:List (Addr×Obj)}{σ:St}{H:Hp}{s:Shared}(I:Inv X pins σ H s):interactive X.env=false:=by simp[interactive,I.ok.kind]
def MV(te:TE):TS:=fun D σ H=>te σ H fun _ H1=>D.nx σ H1
theorem rc(he:PE X e te)(hs:swapsWith e none pos.line X.env=pure false:=by rfl):PS X (.Expr e pos) (MV te):=by
 intro pins s σ H D I h
 exact wpAny_Expr_any (ug (he pins s σ H _ I h) fun v s1 ⟨x,H1,I1,r1,q1⟩=>⟨σ,H1,I1,q1⟩) I.quiet hs
def Pq(te:TE):TS:=fun D σ H=>te σ H D.rt
theorem mM(he:PE X e te):PS X (.Return (some e) pos) (Pq te):=by
 intro pins s σ H D I h
 exact wpAny_Return_some (ug (he pins s σ H _ I h) fun v s1 ⟨x,H1,I1,r1,q1⟩=>⟨x,σ,H1,I1,r1,q1⟩)
def Po(c:TT)(t u:TS):TS:=fun D σ H=>c σ H fun b H1=>if b=true then t D σ H1 else u D σ H1
theorem nC{c:Expr}{a b:List Stmt}{tc:TT}(hc:PT X c tc)(ha:PSs X a t)(hb:PSs X b u):PS X (.If c a b pos) (Po tc t u):=by
 intro pins s σ H D I h
 refine wpAny_If (ug (hc pins s σ H _ I h) fun d s1 ⟨H1,I1,q1⟩=>?_)
 cases d with
 | true=>exact ha pins s1 σ H1 D I1 q1
 | false=>exact hb pins s1 σ H1 D I1 q1
end
abbrev TG:=V->St->Hp->(St->Hp->Prop)->Prop
abbrev JZ:=List V->St->Hp->(St->Hp->Prop)->Prop
def PG(X:Cx)(target:Expr)(t:TG):Prop:=
 ∀(pins:List (Addr×Obj)) (s:Shared) (σ:St) (H:Hp) (v:V) (u:Value) (Q:St->Hp->Prop),Inv X pins σ H s->RelV v u->t v σ H Q ->
  wpAny (model X.prog X.w) X.A (assign target X.env u) (fun _ s'=>∃ σ' H',Inv X pins σ' H' s'/\Q σ' H') X.xe s
def PGs(X:Cx)(ts:List Expr)(t:JZ):Prop:=
 ∀(pins:List (Addr×Obj)) (s:Shared) (σ:St) (H:Hp) (vs:List V) (us:List Value) (Q:St->Hp->Prop),Inv X pins σ H s->p9 vs us->t vs σ H Q ->
  wpAny (model X.prog X.w) X.A (assignInOrder ((assignEach ts X.env).map (·.2)) us) (fun _ s'=>∃ σ' H',Inv X pins σ' H' s'/\Q σ' H') X.xe s
section
variable{X:Cx}{pos:Pos}
def KI(i:Nat):TG:=fun v σ H Q=>Q (σ.set i (some v)) H
theorem qS{i:Nat}{x:Str}(hN:X.N.Nodup)(hi:X.N[i]?=some x)(hx:Loc X.env.scope x)(hf:X.fn x=true\/X.env.scope.names.lookup x=some .local:=by first | exact .inl rfl | exact .inr rfl | assumption):PG X (.Name x pos) (KI i):=by
 intro pins s σ H v u Q I r h
 exact wpAny_assign_Name (DX I hN hi hx r (fun s' I'=>⟨_,H,I',h⟩) hf)
def OH:JZ:=fun vs σ H Q=>vs=[]/\Q σ H
def Nk(t:TG)(u:JZ):JZ:=fun vs σ H Q=>∃v r,vs=v::r/\t v σ H fun σ' H'=>u r σ' H' Q
theorem Jp:PGs X [] OH:=by
 intro pins s σ H vs us Q I r h
 obtain⟨e,h⟩:=h
 subst e
 cases r
 exact assignInOrder_nil ⟨σ,H,I,h⟩
theorem IF{e:Expr}{es:List Expr}{t:TG}{u:JZ}(h1:PG X e t)(h2:PGs X es u)
  (hs:(assignEach (e::es) X.env).map (·.2)=assign e X.env::(assignEach es X.env).map (·.2):=by rfl):PGs X (e::es) (Nk t u):=by
 intro pins s σ H vs us Q I r h
 obtain⟨v,vr,e1,h⟩:=h
 subst e1
 cases r with
 | cons r rr =>
  rw[hs]
  refine assignInOrder_cons (ug (h1 pins s σ H _ _ _ I r h) fun _ s1 ⟨σ1,H1,I1,q1⟩=>?_)
  exact h2 pins s1 σ1 H1 _ _ Q I1 rr q1
def OQ(K:PySem.W.Frag)(n:Nat)(t:JZ):TG:=fun v σ H Q=>∃a xs,v=.ref a/\xy K H a xs/\xs.length=n/\t xs σ H Q
theorem rX{es:List Expr}{k:Nat}{t:JZ}{n:Nat}(hc:X.calm=true)(h:PGs X es t)
  (hn:(assignEach es X.env).length=n:=by rfl) (hst:(assignEach es X.env).findIdx? (·.1)=none:=by rfl):PG X (.Tuple es k pos) (OQ X.K n t):=by
 intro pins s σ H v u Q I r hw
 obtain⟨a,xs,e1,hq,hl,hw⟩:=hw
 subst e1
 cases r
 obtain⟨its,rv,ht,hz⟩:=I.tuple hq
 refine assign_Tuple_tuple (I.ok.hd hc) ht (by simp[hn,<- hl,rv.length]) hst fun h' hx=>?_
 have I1:Inv X pins σ H {s with heap:=h' }:=I.kept (t':=s.toks) fun b o e=>hx b o (Nat.ne_of_lt (Heap.lt_size e)) e
 exact h pins _ σ H xs _ Q I1 (by simpa using rv) hw
def MR(te:TE)(g:TG):TS:=fun D σ H=>te σ H fun x H1=>g x σ H1 D.nx
theorem sx{tg e:Expr}{te:TE}{g:TG}(he:PE X e te)(hg:PG X tg g)(hs:swapsWithSole [tg] e pos.line X.env=pure false:=by rfl)(hw:swappedStores [tg] e X.env=pure none:=by rfl)
  (h1:(assignEach [tg] X.env).map (·.2)=[assign tg X.env]:=by rfl):PS X (.Assign [tg] e pos) (MR te g):=by
 intro pins s σ H D I h
 refine wpAny_Assign_stores (ug (he pins s σ H _ I h) fun v s1 ⟨x,H1,I1,r1,q1⟩=>?_) hs hw
 rw[h1]
 exact ug (hg pins s1 σ H1 x v _ I1 r1 q1) fun _ s2 q=>q
theorem gQ{i:Nat}{x:Str}{e:Expr}{te:TE}{pos':Pos}(hN:X.N.Nodup)(hi:X.N[i]?=some x)(hx:Loc X.env.scope x)(he:PE X e te)(hs:swapsWith e (some (.Name x pos')) pos.line X.env=pure false:=by rfl)(hf:X.fn x=true\/X.env.scope.names.lookup x=some .local:=by first | exact .inl rfl | exact .inr rfl | assumption) :
  PS X (.Assign [.Name x pos'] e pos) (MR te (KI i)):=by
 intro pins s σ H D I h
 refine wpAny_Assign_Name (ug (he pins s σ H _ I h) fun v s1 ⟨y,H1,I1,r1,q1⟩=>?_) hs
 exact DX I1 hN hi hx r1 (fun s2 I2=>⟨_,H1,I2,q1⟩) hf
end
section
variable{X:Cx}{pos:Pos}
def K_(c:TT)(tb:TS):TS:=fun D σ H=>∃W:Nat->St->Hp->Prop,(∃m,W m σ H)/\∀m σ H,W m σ H ->
 c σ H fun b H1=>if b=true then ∃N:St->Hp->Prop,(∀ σ' H',N σ' H'->∃m',m'<m/\W m' σ' H')/\tb {D with nx:=N,ct:=N,bk:=D.nx} σ H1 else D.nx σ H1
theorem qf{c:Expr}{body:List Stmt}{tc:TT}{tb:TS}(hp:PassesOwn (model X.prog X.w) X.A X.env X.xe)(hc:PT X c tc)(hb:PSs X body tb):PS X (.While c body [] pos) (K_ tc tb):=by
 intro pins s σ H D I h
 obtain⟨W,⟨m0,w0⟩,turn⟩:=h
 refine wpAny_While (codeAny_whileLoop (fun n s'=>∃ σ' H',Inv X pins σ' H' s'/\W n σ' H') ?_ m0 ⟨σ,H,I,w0⟩)
 rintro n s1 ⟨σ1,H1,I1,w1⟩
 refine wpAny_passesOwn hp (ug (hc pins s1 σ1 H1 _ I1 (turn n σ1 H1 w1)) fun b s2 ⟨H2,I2,q2⟩=>?_)
 cases b with
 | true =>
  obtain⟨N,hN,q2⟩:=q2
  rw[if_pos rfl]
  refine wpAny_passesOwn hp (ug (hb pins s2 σ1 H2 _ I2 q2) fun f s3 q3=>?_)
  cases f with
  | next =>
   obtain⟨σ3,H3,I3,n3⟩:=q3
   obtain⟨m',hm,w3⟩:=hN σ3 H3 n3
   exact⟨m',hm,σ3,H3,I3,w3⟩
  | cont =>
   obtain⟨σ3,H3,I3,n3⟩:=q3
   obtain⟨m',hm,w3⟩:=hN σ3 H3 n3
   exact⟨m',hm,σ3,H3,I3,w3⟩
  | brk=>exact q3
  | ret v=>exact q3
 | false =>
  rw[if_neg Bool.false_ne_true]
  exact wpAny_execs_nil ⟨σ1,H2,I2,q2⟩
end
structure It where
 go:Nat->Hp->Prop
 yld:Nat->Hp->V->Hp->Prop
 stop:Nat->Hp->Prop
def yM(X:Cx)(pins:List (Addr×Obj))(H:Hp)(b:Addr):Prop:=
 H b=none/\b≠X.env.locals/\b∉X.fs/\(b∈X.ex\/X.s₀.heap.objs.size<=b)/\(∀x c,X.env.cells.lookup x=some c->c≠b)/\∀p∈X.pn++pins,p.1≠b
theorem Inv.fpOk{X:Cx}{pins:List (Addr×Obj)}{σ:St}{H H':Hp}{s:Shared}{b:Addr}(I:Inv X pins σ H s)(hb:s.heap.objs.size<=b)(hn:H' b=none):yM X pins H' b:=by
 refine⟨hn,Nat.ne_of_gt (Nat.lt_of_lt_of_le I.lt hb),I.nofs hb,.inr (Nat.le_trans I.sz hb),fun x c e z=>?_,fun p hp z=>?_⟩
 ·obtain⟨v,q⟩:=I.cell x c e
  exact absurd (Nat.lt_of_lt_of_le q.lt (by rw[z];exact hb)) (Nat.lt_irrefl _)
 ·exact absurd (Nat.lt_of_lt_of_le (Heap.lt_size (I.pin p hp).1) (by rw[z];exact hb)) (Nat.lt_irrefl _)
structure Turn (P:Program) (w:World) (K:PySem.W.Frag) (tg:Expr) (J:It) (fp:List Addr) (it:Addr) (tn:Nat->Heap->Prop):Prop where
 mem:it∈fp
 obj:∀i h,tn i h->∀b∈fp,∃o,h.get? b=some o/\∀v,o.data≠.cell v
 keep:∀i h h',tn i h->(∀b∈fp,∀o,h.get? b=some o->h'.get? b=some o)->tn i h'
 item:∀(X:Cx),X.prog=P->X.w=w->X.K=K->X.calm=true->∀(i:Nat) (pins:List (Addr×Obj)) (s:Shared) (σ:St) (H:Hp) (E:Value->Shared->Prop),Inv X pins σ H s->(∀b∈fp,yM X pins H b)->tn i s.heap->J.go i H ->
  wpAny (model P w) X.A (pyNext (.ref it)) (fun r s1=>∃u,r=some u /\
   wpAny (model P w) X.A (letOwnedTupleGo tg (.ref it) u) (fun _ s2=>∃x H',Inv X pins σ H' s2/\RelV x u/\J.yld i H x H'/\tn (i+1) s2.heap/\∀b∈fp,H' b=none) E s1) E s
 done:∀(X:Cx),X.prog=P->X.w=w->X.K=K->X.calm=true->∀(i:Nat) (pins:List (Addr×Obj)) (s:Shared) (σ:St) (H:Hp) (E:Value->Shared->Prop),Inv X pins σ H s->(∀b∈fp,yM X pins H b)->tn i s.heap->J.stop i H ->
  wpAny (model P w) X.A (pyNext (.ref it)) (fun r s1=>r=none/\Inv X pins σ H s1) E s
 self:∀(A:Around) (i:Nat) (s:Shared) (Q:Value->Shared->Prop) (E:Value->Shared->Prop),tn i s.heap->Q (.ref it) s->wpAny (model P w) A (pyIter (.ref it)) Q E s
abbrev TI:=St->Hp->(It->Hp->Prop)->Prop
def Pz(X:Cx)(pins:List (Addr×Obj))(σ:St)(tg:Expr)(R:It->Hp->Prop)(itv:Value)(s2:Shared):Prop:=
 ∃(it:Addr) (fp:List Addr) (tn:Nat->Heap->Prop) (J:It) (H':Hp),itv=.ref it/\Inv X pins σ H' s2/\Turn X.prog X.w X.K tg J fp it tn/\tn 0 s2.heap/\(∀b∈fp,yM X pins H' b)/\R J H'
def PI(X:Cx)(tg iter:Expr)(wi:TI):Prop:=
 ∀(pins:List (Addr×Obj)) (s:Shared) (σ:St) (H:Hp) (R:It->Hp->Prop),Inv X pins σ H s->wi σ H R ->
  wpAny (model X.prog X.w) X.A (eval iter X.env) (fun v s1=>wpAny (model X.prog X.w) X.A (pyIter v) (Pz X pins σ tg R) X.xe s1) X.xe s
theorem FI {M:Model} {A:Around} {E:Value->Shared->Prop} {s:Shared} {tg:Expr} {it:Addr} {u:Value} {o:Obj} {n:String} {vs:Array Value} {Q:Unit->Shared->Prop} (ho:s.heap.get? it=some o) (hc:o.cls=.type n) (hd:o.data=.fields vs)
    (hn:["enumerate","zip","dict_itemiterator","dict_reverseitemiterator","odict_iterator","itertools.zip_longest","itertools.pairwise"].contains n=false) (hQ:Q () s):wpAny M A (letOwnedTupleGo tg (.ref it) u) Q E s:=by
  unfold letOwnedTupleGo
  cases tg<;>first
    | exact wpAny_pure hQ
    | (cases u<;>first
        | exact wpAny_pure hQ
        | (refine wpAny_bind (wpAny_load ho ?_)
           rw[hc,hd]
           show wpAny M A (if (["enumerate","zip","dict_itemiterator","dict_reverseitemiterator","odict_iterator","itertools.zip_longest","itertools.pairwise"].contains n&&vs[0]?==some (rawInt _))=true then _ else _) Q E s
           rw[if_neg (by intro h;rw[hn,Bool.false_and] at h;cases h)]
           exact wpAny_pure hQ))
noncomputable def N5(K:PySem.W.Frag)(a:Addr):It:=
 ⟨fun i H=>∃xs x,wZ K H a xs/\xs[i]?=some x,fun i H x H'=>H'=H/\∀xs,wZ K H a xs->xs[i]?=some x,fun i H=>∃xs,wZ K H a xs/\xs.length<=i⟩
def N6(K:PySem.W.Frag)(a:Addr):It:=
 ⟨fun i H=>∃xs x,xy K H a xs/\xs[i]?=some x,fun i H x H'=>H'=H/\∀xs,xy K H a xs->xs[i]?=some x,fun i H=>∃xs,xy K H a xs/\xs.length<=i⟩
def Mf(lo:Int)(n:Nat):It:=⟨fun i _=>i<n,fun i H x H'=>H'=H/\x=.int (lo+i),fun i _=>n<=i⟩
theorem G4{P:Program}{w:World}{K:PySem.W.Frag}{tg:Expr}(a it:Addr):Turn P w K tg (N5 K a) [it] it (fun i h=>h.IsListIter it a i) where
 mem:=by simp
 obj:=fun i h st b hb=>by
  have e:b=it:=by simpa using hb
  subst e
  obtain⟨o,e,c,d⟩:=st
  exact⟨o,e,fun v z=>by rw[d] at z;cases z⟩
 keep:=fun i h h' st k=>st.at fun o e=>k it (by simp) o e
 item:=by
  intro X hP hw hK hc i pins s σ H E I hf st hg
  subst hP hw hK
  obtain⟨xs,x,hq,hx⟩:=hg
  obtain⟨its,rv,p,hz⟩:=I.list hq
  obtain⟨u,hu,ru⟩:=rv.get hx
  obtain⟨f0,f1,f2,f3,f4,f5⟩:=hf it (by simp)
  refine wpAny_pyNext_list_item st p.isList (x:=u) (by simpa using hu) fun h' st' sb=>?_
  have I1:Inv X pins σ H {s with heap:=h' }:=I.turned (t':=s.toks) (fun b o hb e=>(sb.2 b hb).trans e) f0 f1 f3 f4 f5
  obtain⟨o,e,c,d⟩:=id st'
  exact⟨u,rfl,FI (s:={s with heap:=h' }) e c d (by decide) ⟨x,H,I1,ru,⟨rfl,fun ys hy=>by rw[I.list_inj hy hq];exact hx⟩,st',fun b hb=>(hf b hb).1⟩⟩
 done:=by
  intro X hP hw hK hc i pins s σ H E I hf st hg
  subst hP hw hK
  obtain⟨xs,hq,hx⟩:=hg
  obtain⟨its,rv,p,hz⟩:=I.list hq
  obtain⟨f0,f1,f2,f3,f4,f5⟩:=hf it (by simp)
  have hl:=rv.length
  exact wpAny_pyNext_list_end (I.ok.hd hc) st p.isList (by simp;omega) fun h' eb=>⟨rfl,I.turned (t':=s.toks) (fun b o hb e=>eb b o hb e) f0 f1 f3 f4 f5⟩
 self:=fun _ _ _ _ _ st h=>wpAny_pyIter_listiter st h
theorem E6{P:Program}{w:World}{K:PySem.W.Frag}{tg:Expr}(a it:Addr):Turn P w K tg (N6 K a) [it] it (fun i h=>h.IsTupleIter it a i) where
 mem:=by simp
 obj:=fun i h st b hb=>by
  have e:b=it:=by simpa using hb
  subst e
  obtain⟨o,e,c,d⟩:=st
  exact⟨o,e,fun v z=>by rw[d] at z;cases z⟩
 keep:=fun i h h' st k=>st.at fun o e=>k it (by simp) o e
 item:=by
  intro X hP hw hK hc i pins s σ H E I hf st hg
  subst hP hw hK
  obtain⟨xs,x,hq,hx⟩:=hg
  obtain⟨its,rv,p,hz⟩:=I.tuple hq
  obtain⟨u,hu,ru⟩:=rv.get hx
  obtain⟨f0,f1,f2,f3,f4,f5⟩:=hf it (by simp)
  refine wpAny_pyNext_tuple_item st (show s.heap.IsTuple a its.toArray from p) (x:=u) (by simpa using hu) fun h' st' sb=>?_
  have I1:Inv X pins σ H {s with heap:=h' }:=I.turned (t':=s.toks) (fun b o hb e=>(sb.2 b hb).trans e) f0 f1 f3 f4 f5
  obtain⟨o,e,c,d⟩:=id st'
  exact⟨u,rfl,FI (s:={s with heap:=h' }) e c d (by decide) ⟨x,H,I1,ru,⟨rfl,fun ys hy=>by rw[I.tuple_inj hy hq];exact hx⟩,st',fun b hb=>(hf b hb).1⟩⟩
 done:=by
  intro X hP hw hK hc i pins s σ H E I hf st hg
  subst hP hw hK
  obtain⟨xs,hq,hx⟩:=hg
  obtain⟨its,rv,p,hz⟩:=I.tuple hq
  obtain⟨f0,f1,f2,f3,f4,f5⟩:=hf it (by simp)
  have hl:=rv.length
  exact wpAny_pyNext_tuple_end (I.ok.hd hc) st (show s.heap.IsTuple a its.toArray from p) (by simp;omega) fun h' eb=>⟨rfl,I.turned (t':=s.toks) (fun b o hb e=>eb b o hb e) f0 f1 f3 f4 f5⟩
 self:=fun _ _ _ _ _ st h=>wpAny_pyIter_tupleiter st h
theorem E8{P:Program}{w:World}{K:PySem.W.Frag}{tg:Expr}(it:Addr)(lo:Int)(n:Nat):Turn P w K tg (Mf lo n) [it] it (fun i h=>IsRangeIter h it (lo+(i:Nat)*1) ((n:Int) - (i:Nat)) 1) where
 mem:=by simp
 obj:=fun i h st b hb=>by
  have e:b=it:=by simpa using hb
  subst e
  exact⟨_,st,fun v z=>by
   have z':Data.fields _=Data.cell v:=z
   cases z'⟩
 keep:=fun i h h' st k=>k it (by simp) _ st
 item:=by
  intro X hP hw hK hc i pins s σ H E I hf st hg
  subst hP hw hK
  obtain⟨f0,f1,f2,f3,f4,f5⟩:=hf it (by simp)
  have W:=Walks.range (prog:=X.prog) (w:=X.w) (I.ok.hd hc) it lo 1 n
  refine W.item i s _ _ hg st fun v h' tk hv st' kk=>?_
  obtain⟨t,rfl⟩:=hv
  have I1:Inv X pins σ H {s with heap:=h',toks:=tk}:=I.turned (fun b o hb e=>kk b o (by simpa using hb) e) f0 f1 f3 f4 f5
  refine⟨_,rfl,FI (s:={s with heap:=h',toks:=tk}) (n:="range_iterator") st' rfl rfl (by decide) ⟨.int (lo+i),H,I1,⟨t,?_⟩,⟨rfl,rfl⟩,st',fun b hb=>(hf b hb).1⟩⟩
  rw[Int.mul_one]
 done:=by
  intro X hP hw hK hc i pins s σ H E I hf st hg
  subst hP hw hK
  obtain⟨f0,f1,f2,f3,f4,f5⟩:=hf it (by simp)
  exact wpAny_pyNext_range_end (I.ok.hd hc) st (by have:n<=i:=hg;omega) fun h' eb=>⟨rfl,I.turned (t':=s.toks) (fun b o hb e=>eb b o hb e) f0 f1 f3 f4 f5⟩
 self:=fun _ _ _ _ _ st h=>wpAny_pyIter_rangeiter st h
end L2
namespace L2
open PySem PySem.Spec PyProof.Rows
section
variable{X:Cx}{tg:Expr}
theorem Il{pins:List (Addr×Obj)}{σ:St}{H:Hp}{s:Shared}{R:It->Hp->Prop}{E:Value->Shared->Prop}{lo hi:Int}{t u v:Tok}{tk:Nat}(I:Inv X pins σ H s)(h1 : -(2 ^ 62)<=lo)(h2:lo<2 ^ 62)(h3 : -(2 ^ 62)<=hi)(h4:hi<2 ^ 62)
  (q:R (Mf lo (hi - lo).toNat) H):wpAny (model X.prog X.w) X.A (pyIter (.ref s.heap.objs.size)) (Pz X pins σ tg R) E {s with heap:=s.heap.push {cls:=.type "range",data:=.fields #[.int lo t,.int hi u,.int 1 v]},toks:=tk}:=by
 refine wpAny_pyIter_range (IsRange.new ..) (small_one h1 h2 h3 h4) ?_
 have I1:Inv X pins σ H {s with heap:=s.heap.push {cls:=.type "range",data:=.fields #[.int lo t,.int hi u,.int 1 v]},toks:=tk}:=I.kept fun b o e=>Heap.get?_push_of_some _ e
 refine⟨(s.heap.push {cls:=.type "range",data:=.fields #[.int lo t,.int hi u,.int 1 v]}).objs.size,[(s.heap.push {cls:=.type "range",data:=.fields #[.int lo t,.int hi u,.int 1 v]}).objs.size],_,_,H,rfl,
  I1.kept (t':=tk) fun b o e=>Heap.get?_push_of_some _ e,E8 _ lo (hi - lo).toNat,?_,fun b hb=>?_,q⟩
 ·have e1:lo+((0:Nat):Int)*1=lo:=by simp
  have e2:(((hi - lo).toNat:Nat):Int) - ((0:Nat):Int)=Builtin.Range.rangeSize lo hi 1:=by rw[rangeSize_one];split<;>omega
  show IsRangeIter _ _ (lo+((0:Nat):Int)*1) ((((hi - lo).toNat:Nat):Int) - ((0:Nat):Int)) 1
  rw[e1,e2]
  exact Heap.get?_push_size _ rfl
 ·have e:b=(s.heap.push {cls:=.type "range",data:=.fields #[.int lo t,.int hi u,.int 1 v]}).objs.size:=by simpa using hb
  subst e
  exact I1.fpOk (Nat.le_refl _) (I1.hok.fresh (Nat.le_refl _))
def MA(ta:TA):TI:=fun σ H R=>ta σ H fun vs H1=>∃j:Int,vs=[.int j] /\ -(2 ^ 62)<=j/\j<2 ^ 62/\R (Mf 0 j.toNat) H1
theorem jU{a:Expr}{ta:TA}{p pos:Pos}(hg:Gl X "range")(hm:X.mg "range" = none)(ha:PA X [a] ta)(hs:starEach [a] X.env=[(false,eval a X.env)]:=by rfl):PI X tg (.Call (.Name "range" p) [a] [] pos) (MA ta):=by
 intro pins s σ H R I h
 refine Call_ (da I hg hm boot_range (PyProof.Rows.callWith_type1 (ug (ha pos pins s σ H _ I h) fun us s1 ⟨vs,H1,I1,r1,q1⟩=>?_) hs rfl))
 obtain⟨j,e,q1,q2,q⟩:=q1
 subst e
 cases r1 with
 | cons r rr =>
  cases rr
  obtain⟨t,rfl⟩:=r
  exact call_range_1 (Il I1 (by omega) (by omega) q1 q2 (by simpa using q))
def O0(wi:TI)(g:TG)(tb:TS):TS:=fun D σ H=>wi σ H fun J H1=>∃W:Nat->Nat->St->Hp->Prop,(∃m,W 0 m σ H1)/\∀i m σ H,W i m σ H ->
 (J.stop i H/\D.nx σ H)\/(J.go i H/\∃N:St->Hp->Prop,(∀ σ' H',N σ' H'->∃m',m'<m/\W (i+1) m' σ' H')/\∀x H',J.yld i H x H'->g x σ H' fun σ2 H2=>tb {D with nx:=N,ct:=N,bk:=D.nx} σ2 H2)
def y6(fp:List Addr)(h:Heap):List (Addr×Obj):=fp.filterMap fun b=>(h.get? b).map fun o=>(b,o)
theorem cY{fp:List Addr}{h:Heap}{b:Addr}{o:Obj}(hb:b∈fp)(e:h.get? b=some o):(b,o)∈y6 fp h:=List.mem_filterMap.mpr ⟨b,hb,by rw[e];rfl⟩
theorem CG{fp:List Addr}{h:Heap}{p:Addr×Obj}(hp:p∈y6 fp h):p.1∈fp/\h.get? p.1=some p.2:=by
 obtain⟨b,hb,e⟩:=List.mem_filterMap.mp hp
 cases q:h.get? b with
 | none=>rw[q] at e;cases e
 | some o =>
  rw[q] at e
  have e':(b,o)=p:=Option.some.inj e
  subst e'
  exact⟨hb,q⟩
theorem Inv.pinned{pins:List (Addr×Obj)}{σ:St}{H:Hp}{s:Shared}{fp:List Addr}(I:Inv X pins σ H s)(hf:∀b∈fp,yM X pins H b)(ho:∀b∈fp,∃o,s.heap.get? b=some o/\∀v,o.data≠.cell v):Inv X (pins++y6 fp s.heap) σ H s:=
 I.pins_of fun p hp=>(List.mem_append.mp hp).elim (fun z=>I.pin p (List.mem_append_right _ z)) fun z=>by
  obtain⟨hb,e⟩:=CG z
  obtain⟨f0,f1,f2,_⟩:=hf p.1 hb
  obtain⟨o,e',d⟩:=ho p.1 hb
  rw[e] at e';cases e'
  exact⟨e,f0,f1,f2,d⟩
theorem Inv.unpinned{pins pl:List (Addr×Obj)}{σ:St}{H:Hp}{s:Shared}(I:Inv X (pins++pl) σ H s):Inv X pins σ H s:=I.pins_of fun p hp=>I.pin p (List.mem_append_right _ (List.mem_append_left _ hp))
theorem me{iter:Expr}{body:List Stmt}{wi:TI}{g:TG}{tb:TS}{pos:Pos}(hp:PassesOwn (model X.prog X.w) X.A X.env X.xe)(hc:X.calm=true)(hi:PI X tg iter wi)(hg:PG X tg g)(hb:PSs X body tb)
  (hs:∀x,foldedSetIterable iter X.env x=pure x:=by intro _;rfl):PS X (.For tg iter body [] pos) (O0 wi g tb):=by
 intro pins s σ H D I h
 refine wpAny_For (ug (hi pins s σ H _ I h) fun v s1 h1=>ug h1 fun itv s2 h2=>?_) hs
 obtain⟨it,fp,tn,J,H2,e,I2,T,st2,f2,W,⟨m0,w0⟩,turn⟩:=h2
 subst e
 have stat:∀{H':Hp},(∀b∈fp,H' b=none)->∀b∈fp,yM X pins H' b:=fun hn b hb=>⟨hn b hb,(f2 b hb).2⟩
 refine codeAny_forLoop_any (fun n s'=>∃i σ' H',Inv X pins σ' H' s'/\tn i s'.heap/\(∀b∈fp,H' b=none)/\W i n σ' H') ?_ m0 ⟨0,σ,H2,I2,st2,fun b hb=>(f2 b hb).1,w0⟩
 rintro n s3 ⟨i,σ3,H3,I3,st3,fr3,w3⟩
 rcases turn i n σ3 H3 w3 with ⟨stop,qn⟩ | ⟨go,N,hN,step⟩
 ·refine wpAny_passesOwn hp (ug (T.done X rfl rfl rfl hc i pins s3 σ3 H3 X.xe I3 (stat fr3) st3 stop) fun r s4 ⟨hr,I4⟩=>?_)
  subst hr
  exact wpAny_execs_nil ⟨σ3,H3,I4,qn⟩
 ·refine wpAny_passesOwn hp (ug (T.item X rfl rfl rfl hc i pins s3 σ3 H3 X.xe I3 (stat fr3) st3 go) fun r s4 ⟨u,hr,h4⟩=>?_)
  subst hr
  refine wpAny_passesOwn hp (ug h4 fun _ s5 ⟨x,H5,I5,r5,y5,st5,fr5⟩=>?_)
  have I5':=I5.pinned (stat fr5) (T.obj _ _ st5)
  refine wpAny_passesOwn hp (ug (hg _ s5 σ3 H5 x u _ I5' r5 (step x H5 y5)) fun _ s6 ⟨σ6,H6,I6,q6⟩=>?_)
  refine wpAny_passesOwn hp (ug (hb _ s6 σ6 H6 _ I6 q6) fun f s7 q7=>?_)
  have again:∀{σ7:St} {H7:Hp},Inv X (pins++y6 fp s5.heap) σ7 H7 s7->N σ7 H7->∃m,m<n/\∃i σ' H',Inv X pins σ' H' s7/\tn i s7.heap/\(∀b∈fp,H' b=none)/\W i m σ' H':=fun {σ7 H7} I7 n7=>by
   obtain⟨m',hm,w7⟩:=hN σ7 H7 n7
   refine⟨m',hm,i+1,σ7,H7,I7.unpinned,T.keep _ _ _ st5 fun b hb o e=>(I7.pin (b,o) (List.mem_append_right _ (List.mem_append_right _ (cY hb e)))).1,fun b hb=>?_,w7⟩
   obtain⟨o,e,d⟩:=T.obj _ _ st5 b hb
   exact(I7.pin (b,o) (List.mem_append_right _ (List.mem_append_right _ (cY hb e)))).2.1
  cases f with
  | next=>obtain⟨σ7,H7,I7,n7⟩:=q7;exact again I7 n7
  | cont=>obtain⟨σ7,H7,I7,n7⟩:=q7;exact again I7 n7
  | brk=>obtain⟨σ7,H7,I7,q7⟩:=q7;exact⟨σ7,H7,I7.unpinned,q7⟩
  | ret v=>obtain⟨x7,σ7,H7,I7,r7,q7⟩:=q7;exact⟨x7,σ7,H7,I7.unpinned,r7,q7⟩
end
end L2
namespace L2
open PySem PySem.Spec PyProof.Rows
abbrev R2:=V->V->Hp->VK->Prop
def OpR(X:Cx)(f:Value->Value->Sem Value)(r:R2):Prop:=
 ∀(pins:List (Addr×Obj)) (s:Shared) (σ:St) (H:Hp) (x y:V) (v u:Value) (Q:VK),Inv X pins σ H s->RelV x v->RelV y u->r x y H Q ->
  wpAny (model X.prog X.w) X.A (f v u) (EP X pins σ Q) X.xe s
def UnR(X:Cx)(f:Value->Sem Value)(r:V->Hp->VK->Prop):Prop:=
 ∀(pins:List (Addr×Obj)) (s:Shared) (σ:St) (H:Hp) (x:V) (v:Value) (Q:VK),Inv X pins σ H s->RelV x v->r x H Q ->
  wpAny (model X.prog X.w) X.A (f v) (EP X pins σ Q) X.xe s
def CallR(X:Cx)(f:Value)(r:List V->Hp->VK->Prop):Prop:=
 ∀(pins:List (Addr×Obj)) (s:Shared) (σ:St) (H:Hp) (xs:List V) (us:List Value) (Q:VK),Inv X pins σ H s->p9 xs us->r xs H Q ->
  wpAny (model X.prog X.w) X.A (call f us) (EP X pins σ Q) X.xe s
def Ol(X:Cx)(r:V->Hp->(Bool->Hp->Prop)->Prop):Prop:=
 ∀(pins:List (Addr×Obj)) (s:Shared) (σ:St) (H:Hp) (x:V) (v:Value) (Q:Bool->Hp->Prop),Inv X pins σ H s->RelV x v->r x H Q ->
  wpAny (model X.prog X.w) X.A (truthy v) (TP X pins σ Q) X.xe s
def N1(r:R2)(ta tb:TE):TE:=fun σ H Q=>ta σ H fun x H1=>tb σ H1 fun y H2=>r x y H2 Q
def Qq(r:V->Hp->VK->Prop)(ta:TE):TE:=fun σ H Q=>ta σ H fun x H1=>r x H1 Q
def rI(C:Int->Int->Prop)(g:Int->Int->V):R2:=fun x y H Q=>∃i j,x=.int i/\y=.int j/\C i j/\Q (g i j) H
def Ju(g:Int->Int->V):R2:=fun x y H Q=>∃i j,x=.int i/\y=.int j/\Q (g i j) H
def rU(g:Int->V):V->Hp->VK->Prop:=fun x H Q=>∃i,x=.int i/\Q (g i) H
section
variable{X:Cx}{a b c:Expr}{ta tb tc:TE}{pos:Pos}
theorem Ld(ha:PE X a ta)(hb:PE X b tb){pins:List (Addr×Obj)}{s:Shared}{σ:St}{H:Hp}{R:V->V->Hp->Prop}(I:Inv X pins σ H s)
  (h:ta σ H fun x H1=>tb σ H1 fun y H2=>R x y H2) {Q:Value->Shared->Prop} {f:Value->Value->Sem Value}
  (hf:∀v u s2 x y H2,Inv X pins σ H2 s2->RelV x v->RelV y u->R x y H2->wpAny (model X.prog X.w) X.A (f v u) Q X.xe s2) :
  wpAny (model X.prog X.w) X.A (eval a X.env) (fun v s₁=>wpAny (model X.prog X.w) X.A (eval b X.env) (fun u s₂=>wpAny (model X.prog X.w) X.A (f v u) Q X.xe s₂) X.xe s₁) X.xe s:=by
 refine ug (ha pins s σ H _ I h) fun v s1 ⟨x,H1,I1,r1,q1⟩=>?_
 refine ug (hb pins s1 σ H1 _ I1 q1) fun u s2 ⟨y,H2,I2,r2,q2⟩=>?_
 exact hf v u s2 x y H2 I2 r1 r2 q2
theorem sV{op:Operator}{r:R2}(ho:OpR X (binaryOp op) r)(ha:PE X a ta)(hb:PE X b tb):PE X (.BinOp a op b pos) (N1 r ta tb):=by
 intro pins s σ H Q I h
 exact wpAny_BinOp (Ld ha hb I h fun v u s2 x y H2 I2 rx ry q=>ho pins s2 σ H2 x y v u Q I2 rx ry q)
theorem sM{op:UnaryOp}{r:V->Hp->VK->Prop}(ho:UnR X (unaryOp op) r)(ha:PE X a ta):PE X (.UnaryOp op a pos) (Qq r ta):=by
 intro pins s σ H Q I h
 exact UnaryOp_ (ug (ha pins s σ H _ I h) fun v s1 ⟨x,H1,I1,r1,q1⟩=>ho pins s1 σ H1 x v Q I1 r1 q1)
theorem Pa{f:Value->Value->Sem Value}{C:Int->Int->Prop}{g:Int->Int->Int}
  (rule:∀(i j:Int) (t u:Tok) (s:Shared) (Q:Value->Shared->Prop) (E:Value->Shared->Prop),C i j->Q (.int (g i j) s.toks) {s with toks:=s.toks+1}->wpAny (model X.prog X.w) X.A (f (.int i t) (.int j u)) Q E s) :
  OpR X f (rI C fun i j=>.int (g i j)):=by
 intro pins s σ H x y v u Q I rx ry h
 obtain⟨i,j,rfl,rfl,hc,q⟩:=h
 obtain⟨t,rfl⟩:=rx
 obtain⟨t',rfl⟩:=ry
 exact rule i j t t' s _ _ hc ⟨.int (g i j),H,I.tok _,⟨_,rfl⟩,q⟩
theorem MQ{f:Value->Value->Sem Value}{g:Int->Int->Int}
  (rule:∀(i j:Int) (t u:Tok) (s:Shared) (Q:Value->Shared->Prop) (E:Value->Shared->Prop),Q (.int (g i j) s.toks) {s with toks:=s.toks+1}->wpAny (model X.prog X.w) X.A (f (.int i t) (.int j u)) Q E s) :
  OpR X f (Ju fun i j=>.int (g i j)):=by
 intro pins s σ H x y v u Q I rx ry h
 obtain⟨i,j,rfl,rfl,q⟩:=h
 obtain⟨t,rfl⟩:=rx
 obtain⟨t',rfl⟩:=ry
 exact rule i j t t' s _ _ ⟨.int (g i j),H,I.tok _,⟨_,rfl⟩,q⟩
theorem JU{f:Value->Value->Sem Value}{g:Int->Int->Bool}
  (rule:∀(i j:Int) (t u:Tok) (s:Shared) (Q:Value->Shared->Prop) (E:Value->Shared->Prop),Q (.bool (g i j)) s->wpAny (model X.prog X.w) X.A (f (.int i t) (.int j u)) Q E s) :
  OpR X f (Ju fun i j=>.bl (g i j)):=by
 intro pins s σ H x y v u Q I rx ry h
 obtain⟨i,j,rfl,rfl,q⟩:=h
 obtain⟨t,rfl⟩:=rx
 obtain⟨t',rfl⟩:=ry
 exact rule i j t t' s _ _ ⟨.bl (g i j),H,I,rfl,q⟩
def OV(i j:Int):Prop:=0<j/\j<1073741824
def LB(i j:Int):Prop:=(-(2 ^ 64)<i/\i<2 ^ 64)\/(-(2 ^ 64)<j/\j<2 ^ 64)
theorem LB.ok{i j:Int}(h:LB i j):IntMulOk i j:=by
 rcases h with ⟨h1,h2⟩ | ⟨h1,h2⟩
 ·exact .of_left (intBits_le_64 h1 h2)
 ·exact .of_right (intBits_le_64 h1 h2)
theorem K9:OpR X (binaryOp .Add) (Ju fun i j=>.int (i+j)):=MQ fun _ _ _ _ _ _ _ q=>add_int q
theorem Lj:OpR X (binaryOp .Sub) (Ju fun i j=>.int (i - j)):=MQ fun _ _ _ _ _ _ _ q=>sub_int q
theorem LE:OpR X (binaryOp .Mult) (rI LB fun i j=>.int (i*j)):=Pa fun _ _ _ _ _ _ _ hc q=>mul_int q hc.ok
theorem JY:OpR X (binaryOp .FloorDiv) (rI OV fun i j=>.int (i / j)):=Pa fun i j _ _ _ _ _ hc q=>by
 have h1:(0:Int)<j:=hc.1
 have h2:j<1073741824:=hc.2
 exact floordiv_int (by omega) (by rw[Int.fdiv_eq_ediv_of_nonneg i (by omega)];exact q) (.inl (PyProof.noPylong_small (by omega)))
theorem LV:OpR X (binaryOp .Mod) (rI (fun _ j=>0<j) fun i j=>.int (i%j)):=Pa fun i j _ _ _ _ _ hc q=>by
 have h1:(0:Int)<j:=hc
 exact mod_int' (by omega) (by rw[Int.fmod_eq_emod_of_nonneg i (by omega)];exact q)
theorem Qc{f:Value->Sem Value}{g:Int->Int}
  (rule:∀(i:Int) (t:Tok) (s:Shared) (Q:Value->Shared->Prop) (E:Value->Shared->Prop),Q (.int (g i) s.toks) {s with toks:=s.toks+1}->wpAny (model X.prog X.w) X.A (f (.int i t)) Q E s) :
  UnR X f (rU fun i=>.int (g i)):=by
 intro pins s σ H x v Q I rx h
 obtain⟨i,rfl,q⟩:=h
 obtain⟨t,rfl⟩:=rx
 exact rule i t s _ _ ⟨.int (g i),H,I.tok _,⟨_,rfl⟩,q⟩
theorem Lf:UnR X (unaryOp .USub) (rU fun i=>.int (-i)):=Qc fun _ _ _ _ _ q=>neg_int q
end
noncomputable def J4:V->V->Bool
 | .non,.non=>true | .non,.int _=>true | .int _,.non=>true | .non,.bl _=>true | .bl _,.non=>true | .non,.str _=>true | .str _,.non=>true
 | .int _,.int _=>true | .bl _,.bl _=>true | .str _,.str _=>true | .byt _,.byt _=>true
 | .int _,.str _=>true | .str _,.int _=>true | .bl _,.str _=>true | .str _,.bl _=>true
 | _,_=>false
def PY:R2:=fun x y H Q=>J4 x y=true/\Q (.bl (decide (x=y))) H
def Qo:R2:=fun x y H Q=>J4 x y=true/\Q (.bl (!decide (x=y))) H
theorem AU{i j:Int}:decide (V.int i=V.int j)=(i==j):=by
 rw[Bool.eq_iff_iff]
 simp
theorem Dh{i j:Bool}:decide (V.bl i=V.bl j)=(i==j):=by
 rw[Bool.eq_iff_iff]
 simp
theorem AY{i j:Str}:decide (V.str i=V.str j)=(i==j):=by
 rw[Bool.eq_iff_iff]
 simp
theorem FH{i j:Array UInt8}:decide (V.byt i=V.byt j)=(i.toList==j.toList):=by
 rw[Bool.eq_iff_iff]
 cases i
 cases j
 simp
section
variable{X:Cx}{a b c:Expr}{ta tb tc:TE}{pos:Pos}
theorem tK{pins:List (Addr×Obj)}{σ:St}{H:Hp}{s:Shared}{Q:VK}{k k':Bool}(I:Inv X pins σ H s)(q:Q (.bl k) H)(e:k=k'):EP X pins σ Q (.bool k') s:=by
 subst e
 exact⟨.bl k,H,I,rfl,q⟩
theorem Ng:OpR X (compareOp .Eq) PY:=by
 intro pins s σ H x y v u Q I rx ry h
 obtain⟨hs,q⟩:=h
 cases x with
 | non =>
  cases rx
  cases y with
  | non=>cases ry;exact PySem.EqNone.eq_none_none (tK I q (by simp))
  | bl j=>cases ry;exact PySem.EqNone.eq_none_bool (tK I q (by simp))
  | int j=>obtain⟨t',rfl⟩:=ry;exact PySem.EqNone.eq_none_int (tK I q (by simp))
  | str j=>obtain⟨t',rfl⟩:=ry;exact PySem.EqNone.eq_none_str (tK I q (by simp))
  | _=>exact absurd (show false=true from hs) Bool.false_ne_true
 | bl i =>
  cases rx
  cases y with
  | non=>cases ry;exact PySem.EqNone.eq_bool_none (tK I q (by simp))
  | bl j=>cases ry;exact eq_bool (tK I q Dh)
  | str j=>obtain⟨t',rfl⟩:=ry;exact PySem.EqMixed.eq_bool_str (tK I q (by simp))
  | _=>exact absurd (show false=true from hs) Bool.false_ne_true
 | int i =>
  obtain⟨t,rfl⟩:=rx
  cases y with
  | non=>cases ry;exact PySem.EqNone.eq_int_none (tK I q (by simp))
  | int j=>obtain⟨t',rfl⟩:=ry;exact eq_int (tK I q AU)
  | str j=>obtain⟨t',rfl⟩:=ry;exact PySem.EqMixed.eq_int_str (tK I q (by simp))
  | _=>exact absurd (show false=true from hs) Bool.false_ne_true
 | str i =>
  obtain⟨t,rfl⟩:=rx
  cases y with
  | non=>cases ry;exact PySem.EqNone.eq_str_none (tK I q (by simp))
  | bl j=>cases ry;exact PySem.EqMixed.eq_str_bool (tK I q (by simp))
  | int j=>obtain⟨t',rfl⟩:=ry;exact PySem.EqMixed.eq_str_int (tK I q (by simp))
  | str j=>obtain⟨t',rfl⟩:=ry;exact eq_str (tK I q AY)
  | _=>exact absurd (show false=true from hs) Bool.false_ne_true
 | byt i =>
  obtain⟨t,rfl⟩:=rx
  cases y with
  | byt j=>obtain⟨t',rfl⟩:=ry;exact PySem.W.eq_bytes (tK I q FH)
  | _=>exact absurd (show false=true from hs) Bool.false_ne_true
 | _=>cases y<;>exact absurd (show false=true from hs) Bool.false_ne_true
theorem Mq:OpR X (compareOp .NotEq) Qo:=by
 intro pins s σ H x y v u Q I rx ry h
 obtain⟨hs,q⟩:=h
 cases x with
 | non =>
  cases rx
  cases y with
  | non=>cases ry;exact PySem.EqNone.ne_none_none (tK I q (by simp))
  | bl j=>cases ry;exact PySem.EqNone.ne_none_bool (tK I q (by simp))
  | int j=>obtain⟨t',rfl⟩:=ry;exact PySem.EqNone.ne_none_int (tK I q (by simp))
  | str j=>obtain⟨t',rfl⟩:=ry;exact PySem.EqNone.ne_none_str (tK I q (by simp))
  | _=>exact absurd (show false=true from hs) Bool.false_ne_true
 | bl i =>
  cases rx
  cases y with
  | non=>cases ry;exact PySem.EqNone.ne_bool_none (tK I q (by simp))
  | bl j=>cases ry;exact ne_bool (tK I q (congrArg not Dh))
  | str j=>obtain⟨t',rfl⟩:=ry;exact PySem.EqMixed.ne_bool_str (tK I q (by simp))
  | _=>exact absurd (show false=true from hs) Bool.false_ne_true
 | int i =>
  obtain⟨t,rfl⟩:=rx
  cases y with
  | non=>cases ry;exact PySem.EqNone.ne_int_none (tK I q (by simp))
  | int j=>obtain⟨t',rfl⟩:=ry;exact ne_int (tK I q (congrArg not AU))
  | str j=>obtain⟨t',rfl⟩:=ry;exact PySem.EqMixed.ne_int_str (tK I q (by simp))
  | _=>exact absurd (show false=true from hs) Bool.false_ne_true
 | str i =>
  obtain⟨t,rfl⟩:=rx
  cases y with
  | non=>cases ry;exact PySem.EqNone.ne_str_none (tK I q (by simp))
  | bl j=>cases ry;exact PySem.EqMixed.ne_str_bool (tK I q (by simp))
  | int j=>obtain⟨t',rfl⟩:=ry;exact PySem.EqMixed.ne_str_int (tK I q (by simp))
  | str j=>obtain⟨t',rfl⟩:=ry;exact ne_str (tK I q (congrArg not AY))
  | _=>exact absurd (show false=true from hs) Bool.false_ne_true
 | byt i =>
  obtain⟨t,rfl⟩:=rx
  cases y with
  | byt j=>obtain⟨t',rfl⟩:=ry;exact PySem.W.ne_bytes (tK I q (congrArg not FH))
  | _=>exact absurd (show false=true from hs) Bool.false_ne_true
 | _=>cases y<;>exact absurd (show false=true from hs) Bool.false_ne_true
theorem M_:OpR X (compareOp .Lt) (Ju fun i j=>.bl (decide (i<j))):=JU fun _ _ _ _ _ _ _ q=>lt_int q
theorem NM:OpR X (compareOp .LtE) (Ju fun i j=>.bl (decide (i<=j))):=JU fun _ _ _ _ _ _ _ q=>le_int q
theorem MP:OpR X (compareOp .Gt) (Ju fun i j=>.bl (decide (j<i))):=JU fun _ _ _ _ _ _ _ q=>gt_int q
theorem MF:OpR X (compareOp .GtE) (Ju fun i j=>.bl (decide (j<=i))):=JU fun _ _ _ _ _ _ _ q=>ge_int q
theorem Lb:OpR X (compareOp .Is) (fun x y H Q=>y=.non/\Q (.bl (decide (x=.non))) H):=by
 intro pins s σ H x y v u Q I rx ry h
 obtain⟨rfl,q⟩:=h
 cases ry
 refine is_none_gen (tK I q ?_)
 cases x<;>first
  | (cases rx;rfl)
  | (obtain⟨t,rfl⟩:=rx;rfl)
theorem Jd:OpR X (compareOp .IsNot) (fun x y H Q=>y=.non/\Q (.bl (!decide (x=.non))) H):=by
 intro pins s σ H x y v u Q I rx ry h
 obtain⟨rfl,q⟩:=h
 cases ry
 refine isnot_none_gen (tK I q ?_)
 cases x<;>first
  | (cases rx;rfl)
  | (obtain⟨t,rfl⟩:=rx;rfl)
theorem OpR.or{f:Value->Value->Sem Value}{r r':R2}(h:OpR X f r)(h':OpR X f r'):OpR X f (fun x y H Q=>r x y H Q\/r' x y H Q):=by
 intro pins s σ H x y v u Q I rx ry q
 rcases q with q | q
 ·exact h pins s σ H x y v u Q I rx ry q
 ·exact h' pins s σ H x y v u Q I rx ry q
theorem Io(b:Expr){op:CmpOp}(h:op≠.In:=by decide)(h2:op≠.NotIn:=by decide):behindInMarks op b=false:=by
 have e1:(op==CmpOp.In)=false:=by cases op<;>first | rfl | exact absurd rfl h
 have e2:(op==CmpOp.NotIn)=false:=by cases op<;>first | rfl | exact absurd rfl h2
 cases b<;>simp[behindInMarks,e1,e2]
theorem qO{op:CmpOp}{r:R2}(ho:OpR X (compareOp op) r)(ha:PE X a ta)(hb:PE X b tb)(hm:behindInMarks op b=false):PE X (.Compare a [op] [b] pos) (N1 r ta tb):=by
 intro pins s σ H Q I h
 exact wpAny_Compare1 (Ld ha hb I h fun v u s2 x y H2 I2 rx ry q=>ho pins s2 σ H2 x y v u Q I2 rx ry q) hm
def NL(t:TE):TT:=fun σ H Q=>t σ H fun x H'=>∃k,x=.bl k/\Q k H'
theorem qQ{op:CmpOp}{r:R2}(ho:OpR X (compareOp op) r)(ha:PE X a ta)(hb:PE X b tb)(hm:behindInMarks op b=false):PT X (.Compare a [op] [b] pos) (NL (N1 r ta tb)):=by
 intro pins s σ H Q I h
 refine wpAny_isTrue_Compare1 (ug (ha pins s σ H _ I h) fun v s1 ⟨x,H1,I1,r1,q1⟩=>ug (hb pins s1 σ H1 _ I1 q1) fun u s2 ⟨y,H2,I2,r2,q2⟩ =>
  ug (ho pins s2 σ H2 x y v u _ I2 r1 r2 q2) fun c s3 ⟨z,H3,I3,r3,k,e,q3⟩=>?_) hm
 subst e
 cases r3
 exact wpAny_truthy_bool ⟨H3,I3,q3⟩
def LH(K:PySem.W.Frag)(x:V)(H:Hp)(k:Bool):Prop:=
 match x with
 | .non=>k=false
 | .bl b=>k=b
 | .int i=>k=(i != 0)
 | .str y=>y.length<=sizeLine/\k=((y.length:Int) != 0)
 | .byt y=>y.size<=sizeLine/\k=((y.size:Int) != 0)
 | .ref p=>(∃xs,wZ K H p xs/\k=!xs.isEmpty)\/(∃xs,xy K H p xs/\k=!xs.isEmpty)\/∃kvs,H p=some (.dK kvs)/\k=!kvs.isEmpty
 | _=>False
theorem Fg{κ:Type}{kvs:List (κ×V)}{vs:List (κ×Value)}(r:KV kvs vs):(!vs.isEmpty)=!kvs.isEmpty:=by
 cases r<;>rfl
theorem Bc{xs:List V}{its:List Value}(r:p9 xs its):(!its.toArray.isEmpty)=!xs.isEmpty:=by
 cases r<;>simp
theorem Ad:(sizeLine:Nat)<2 ^ 63:=by rw[sizeLine_eq];decide
theorem Ln:Ol X (fun x H Q=>∃k,LH X.K x H k/\Q k H):=by
 intro pins s σ H x v Q I rx h
 obtain⟨k,e,q⟩:=h
 have hl:=Ad
 have hs:sizeLine=16777216:=sizeLine_eq
 cases x with
 | non =>
  cases rx
  have e':k=false:=e
  subst e'
  exact truthy_none ⟨H,I,q⟩
 | bl b =>
  cases rx
  have e':k=b:=e
  subst e'
  exact wpAny_truthy_bool ⟨H,I,q⟩
 | int i =>
  obtain⟨t,rfl⟩:=rx
  have e':k=(i != 0):=e
  subst e'
  exact PySem.P.truthy_int ⟨H,I,q⟩
 | str y =>
  obtain⟨t,rfl⟩:=rx
  obtain⟨hy,e'⟩:y.length<=sizeLine/\k=((y.length:Int) != 0):=e
  subst e'
  exact PySem.P.truthy_str (by omega) ⟨H,I.tok _,q⟩
 | byt y =>
  obtain⟨t,rfl⟩:=rx
  obtain⟨hy,e'⟩:y.size<=sizeLine/\k=((y.size:Int) != 0):=e
  subst e'
  exact PySem.W.truthy_bytes (by omega) ⟨H,I.tok _,q⟩
 | ref p =>
  cases rx
  have e':(∃xs,wZ X.K H p xs/\k=!xs.isEmpty)\/(∃xs,xy X.K H p xs/\k=!xs.isEmpty)\/∃kvs,H p=some (.dK kvs)/\k=!kvs.isEmpty:=e
  rcases e' with ⟨xs,hx,e'⟩ | ⟨xs,hx,e'⟩ | ⟨kvs,hx,e'⟩
  ·subst e'
   obtain⟨its,r,pl,hz⟩:=I.list hx
   have hlen:=r.length
   exact wpAny_truthy_list pl.isList (by simp only[List.size_toArray];omega) ⟨H,I.tok _,by rw[Bc r];exact q⟩
  ·subst e'
   obtain⟨its,r,pl,hz⟩:=I.tuple hx
   have hlen:=r.length
   exact truthy_tuple pl (by simp only[List.size_toArray];omega) ⟨H,I.tok _,by rw[Bc r];exact q⟩
  ·subst e'
   obtain⟨hz,hS,vs,r,m⟩:kvs.length<=sizeLine/\(p==sysModules)=false/\∃vs,KV kvs vs/\s.heap.DictOf (ua X.prog X.w) p vs:=I.hok p _ hx
   have hlen:kvs.length=vs.length:=Paired.length r
   exact wpAny_truthy_dict hS m (by omega) ⟨H,I.tok _,by rw[Fg r];exact q⟩
 | _=>exact(show False from e).elim
theorem qz(ha:PE X a ta)(he:∀whole,isTrue a X.env whole=(do let v <- whole;standAt a.pos;holding [v] (truthy v))) :
  PT X a (fun σ H Q=>ta σ H fun x H'=>∃k,LH X.K x H' k/\Q k H'):=by
 intro pins s σ H Q I h
 exact isTrue_plain (ug (ha pins s σ H _ I h) fun v s1 ⟨x,H1,I1,r1,q1⟩=>Ln pins s1 σ H1 x v Q I1 r1 q1) (he _)
theorem E3:OpR X (binaryOp .Add) (fun x y H Q=>∃i j,x=.str i/\y=.str j/\i.length+j.length<=sizeLine/\Q (.str (i++j)) H):=by
 intro pins s σ H x y v u Q I rx ry h
 obtain⟨i,j,rfl,rfl,hz,q⟩:=h
 obtain⟨t,rfl⟩:=rx
 obtain⟨t',rfl⟩:=ry
 exact add_str (fun t' tk=>⟨.str (i++j),H,I.tok _,⟨_,rfl⟩,q⟩) hz
theorem vals1{x:V}{us:List Value}(r:p9 [x] us):∃u,us=[u]/\RelV x u:=by
 cases r with
 | cons r1 r2=>cases r2;exact⟨_,rfl,r1⟩
theorem vals2{x y:V}{us:List Value}(r:p9 [x,y] us):∃u w',us=[u,w']/\RelV x u/\RelV y w':=by
 cases r with
 | cons r1 r2 =>
  cases r2 with
  | cons r3 r4=>cases r4;exact⟨_,_,rfl,r1,r3⟩
theorem oH(hc:X.calm=true):CallR X (.builtin "max") (fun xs H Q=>∃i j,xs=[.int i,.int j]/\Q (.int (if j > i then j else i)) H):=by
 intro pins s σ H xs us Q I r h
 obtain⟨i,j,rfl,q⟩:=h
 obtain⟨u,w',rfl,⟨t,rfl⟩,⟨t',rfl⟩⟩:=vals2 r
 refine max_two_ints (I.ok.hd hc) fun h' tk k=>⟨_,H,I.kept k,?_,q⟩
 by_cases hj:j > i
 ·rw[if_pos hj,if_pos hj];exact⟨_,rfl⟩
 ·rw[if_neg hj,if_neg hj];exact⟨_,rfl⟩
theorem GJ:CallR X (.type "int") (fun xs H Q=>(∃i,xs=[.int i]/\Q (.int i) H)\/∃k,xs=[.bl k]/\Q (.int (if k then 1 else 0)) H):=by
 intro pins s σ H xs us Q I r h
 rcases h with ⟨i,rfl,q⟩ | ⟨k,rfl,q⟩
 ·obtain⟨u,rfl,t,rfl⟩:=vals1 r
  exact call_int_int ⟨.int i,H,I,⟨_,rfl⟩,q⟩
 ·obtain⟨u,rfl,r1⟩:=vals1 r
  cases r1
  exact call_int_bool ⟨.int (if k then 1 else 0),H,I.tok _,⟨_,rfl⟩,q⟩
theorem Dc:CallR X (.type "str") (fun xs H Q=>∃i,xs=[.int i]/\i.natAbs.log2<1920/\Q (.str (toString i)) H):=by
 intro pins s σ H xs us Q I r h
 obtain⟨i,rfl,hz,q⟩:=h
 obtain⟨u,rfl,t,rfl⟩:=vals1 r
 exact PySem.P.str_of_int hz ⟨.str _,H,I.tok _,⟨_,rfl⟩,q⟩
end
end L2
namespace L2
open PySem PySem.Spec PyProof.Rows
section
variable{prog:Program}{w:World}{A:Around}{E:Value->Shared->Prop}{s:Shared}{K:PySem.W.Frag}{x dx C f:Addr}{mA:Str->Option Value}{name:Str}{v:Value}
end
def Ff(f:Str)(v:V):List (Str×V)->List (Str×V)
 | []=>[(f,v)]
 | (g,x)::r=>if g=f then (g,v)::r else (g,x)::Ff f v r
theorem AO.some_of{v:V}{o:Option Value}(r:AO (some v) o):∃u,o=some u/\RelV v u:=by
 cases o with
 | none=>exact(show False from r).elim
 | some u=>exact⟨u,rfl,r⟩
section
variable{P:Program}{w:World}{H H':Hp}{h h':Heap}{a C dx:Addr}{fs fs':List (Str×V)}
end
structure PF (K:PySem.W.Frag) (C:Addr):Prop where
 pg:PySem.W.plainGet K C Str.empty=true
 hd:PySem.W.hasDictIn K C=true
 po:PySem.W.plainOver K C=true
 sa:PySem.W.findIn K (.ref C) "__setattr__" = some (some (.builtin "object.__setattr__"))
theorem PF.get{K:PySem.W.Frag}{C:Addr}(c:PF K C)(f:Str):PySem.W.plainGet K C f=true:=c.pg
structure uZ (K:PySem.W.Frag) (C:Addr) (f:Str) (v:V) (u:Value):Prop where
 at_:PySem.W.findIn K (.ref C) f=some (some u)
 rel:RelV v u
 get:PySem.W.specialIn K u "__get__" = some none
 cp:PySem.W.copiedNames.contains f=false
structure Nq (K:PySem.W.Frag) (C:Addr) (m:Str) (f:Addr):Prop where
 at_:PySem.W.findIn K (.ref C) m=some (some (.ref f))
 fn:PySem.W.isFn K (.ref f)=true
 kp:PySem.W.keepIn K (.ref f)=true
section
variable{X:Cx}{pins:List (Addr×Obj)}{σ:St}{H:Hp}{s:Shared}{a C dx:Addr}{fs:List (Str×V)}{f:Str}{v:V}{A:Around}{E:Value->Shared->Prop}
theorem Inv.made(I:Inv X pins σ H s):Inv X pins σ (upd (upd H s.heap.objs.size (.own (s.heap.objs.size+1))) (s.heap.objs.size+1) (.ins C s.heap.objs.size []))
  {s with heap:=(s.heap.push PySem.W.emptyDict).push (PySem.W.instObj C s.heap.objs.size)}:=by
 have e1:(s.heap.push PySem.W.emptyDict).get? s.heap.objs.size=some PySem.W.emptyDict:=Heap.get?_push_size s.heap rfl
 have e2:((s.heap.push PySem.W.emptyDict).push (PySem.W.instObj C s.heap.objs.size)).get? (s.heap.objs.size+1)=some (PySem.W.instObj C s.heap.objs.size):=by
  have:=Heap.get?_push_size (s.heap.push PySem.W.emptyDict) (o:=PySem.W.instObj C s.heap.objs.size) rfl
  rwa [Heap.size_push] at this
 have e3:(s.heap.push PySem.W.emptyDict).Ns s.heap.objs.size (fun _=>none):=⟨PySem.W.emptyDict,#[],_,e1,rfl,(fun e he=>absurd he (by simp)),fun _=>rfl⟩
 have I1:=I.laid (a:=s.heap.objs.size) (o:=.own (s.heap.objs.size+1)) (h':=s.heap.push PySem.W.emptyDict) (t':=s.toks) (fun b u q=>Heap.get?_push_of_some _ q) (Nat.le_refl _) ⟨_,e1⟩
 refine I1.laid (a:=s.heap.objs.size+1) (o:=.ins C s.heap.objs.size []) (t':=s.toks) (fun b u q=>Heap.get?_push_of_some _ q) (Nat.le_of_eq (Heap.size_push _ _)) ?_
 have ne:s.heap.objs.size≠s.heap.objs.size+1:=Nat.ne_of_lt (Nat.lt_succ_self _)
 refine⟨by rw[au ne,ax],Nat.zero_le _,ne,e2,fun _=>none,(Heap.Ns1.of_empty e3).at fun o q=>Heap.get?_push_of_some _ q,fun _=>True.intro,fun y hy=>absurd rfl hy⟩
end
section
variable{X:Cx}{o e value:Expr}{f:Str}{pos pos' tpos:Pos}{ta tv:TE}
end
section
variable{X:Cx}{pins:List (Addr×Obj)}{σ:St}{H:Hp}{s:Shared}{A:Around}{E:Value->Shared->Prop}{Q:Value->Shared->Prop}{c:Value}{b:Bool}
end
end L2
namespace L2
open PySem PySem.Spec PyProof.Rows
structure uB (k:Nat) (A:Around):Prop where
 hd:A.handled=none
 dp:A.depth+3*k+5<recursionLimit
 un:A.units+16*k+200<cLine
 gd:A.guards=some []
theorem uB.mono{j k:Nat}{A:Around}(r:uB k A)(h:j<=k):uB j A:=⟨r.hd,by have:=r.dp;omega,by have:=r.un;omega,r.gd⟩
theorem uB.deeper{k:Nat}{A:Around}(r:uB (k+1) A)(env:Env):uB k (A.deeper env):=
 ⟨r.hd,by have:=r.dp;show A.depth+1+3*k+5<_;omega,by have:=r.un;show A.units+3+16*k+200<_;omega,r.gd⟩
theorem uB.in1{k:Nat}{A:Around}(r:uB (k+1) A):uB k A.in1:=
 ⟨r.hd,by have:=r.dp;show A.depth+3*k+5<_;omega,by have:=r.un;show A.units+1+16*k+200<_;omega,r.gd⟩
theorem EC{A:Around}{C:Addr}{us:List Value}{kw:List (Str×Value)}:(A.under (.builtin "type.__call__" ⟨.ref C::us,kw⟩)).depth=A.depth+1:=by
 first | rfl | simp[Around.under,Code.weight,Code.isCreation,Code.isGuard,Code.isCaller,Code.frames,Code.isFrame,guardIds]
theorem EM{A:Around}{C:Addr}{us:List Value}{kw:List (Str×Value)}:(A.under (.builtin "type.__call__" ⟨.ref C::us,kw⟩)).units=A.units+1:=by
 first | rfl | simp[Around.under,Code.cUnits,Code.frames,Code.isFrame]
theorem uB.make{k:Nat}{A:Around}(r:uB (k+1) A)(C:Addr)(us:List Value)(kw:List (Str×Value)):uB k (A.under (.builtin "type.__call__" ⟨.ref C::us,kw⟩)):=
 ⟨r.hd,by have:=r.dp;rw[EC];omega,by have:=r.un;rw[EM];omega,by show pushGuards (Code.guards (.builtin "type.__call__" ⟨.ref C::us,kw⟩)) A.guards=_;rw[r.gd];first | rfl | simp[Code.guards,Code.isGuard,guardIds,pushGuards]⟩
theorem uB.depth{k:Nat}{A:Around}(r:uB k A):A.depth<recursionLimit:=by have:=r.dp;omega
theorem uB.units{k:Nat}{A:Around}(r:uB k A):A.units+64<cLine:=by have:=r.un;omega
def ON:TA:=fun _ H Q=>Q [] H
def Mt(ta:TE)(tr:TA):TA:=fun σ H Q=>ta σ H fun x H1=>tr σ H1 fun xs H2=>Q (x::xs) H2
section
variable{X:Cx}{e:Expr}{es:List Expr}{te:TE}{t:TA}{pos:Pos}
theorem HD:PA X [] ON:=fun _ _ _ _ H Q I h=>Calls.spliced_nil ⟨[],H,I,.nil,h⟩
theorem nP(ha:PE X e te)(hr:PA X es t)(hs:starEach (e::es) X.env=(false,eval e X.env)::starEach es X.env:=by rfl):PA X (e::es) (Mt te t):=by
 intro pos pins s σ H Q I h
 rw[hs]
 show wpAny _ _ (spliced ((false,eval e X.env)::backTo pos (starEach es X.env))) _ _ s
 refine Calls.spliced_cons (ug (ha pins s σ H _ I h) fun u s1 ⟨x,H1,I1,r1,q1⟩=>?_)
 exact ug (hr pos pins s1 σ H1 _ I1 q1) fun us s2 ⟨xs,H2,I2,r2,q2⟩=>⟨x::xs,H2,I2,.cons r1 r2,q2⟩
def Pe(t:TA):TE:=fun σ H Q=>t σ H fun xs H1=>xs.length<=sizeLine/\∀p,H1 p=none->Q (.ref p) (upd H1 p (.tup xs))
def Pp(t:TA):TE:=fun σ H Q=>t σ H fun xs H1=>xs.length<=sizeLine/\∀p,H1 p=none->Q (.ref p) (upd H1 p (.lst xs))
theorem qv{x1}(h:PA X es t):PE X (.Tuple es x1 pos) (Pe t):=by
 intro pins s σ H Q I hq
 refine wpAny_Tuple_spliced (ug (h pos pins s σ H _ I hq) fun us s1 ⟨xs,H1,I1,r,z,q⟩=>⟨by rw[<- r.length];exact z,?_⟩)
 have hf:H1 s1.heap.objs.size=none:=I1.hok.fresh (Nat.le_refl _)
 refine⟨.ref s1.heap.objs.size,upd H1 s1.heap.objs.size (.tup xs),I1.laid (t':=s1.toks) (fun b u e=>Heap.get?_push_of_some _ e) (Nat.le_refl _) ?_,rfl,q _ hf⟩
 exact⟨z,us,r,⟨_,Heap.get?_push_size _ rfl,rfl,⟨_,rfl⟩,rfl⟩⟩
theorem mE(h:PA X es t):PE X (.List es pos) (Pp t):=by
 intro pins s σ H Q I hq
 refine wpAny_List_spliced (ug (h pos pins s σ H _ I hq) fun us s1 ⟨xs,H1,I1,r,z,q⟩=>⟨by rw[<- r.length];exact z,?_⟩)
 have hf:H1 s1.heap.objs.size=none:=I1.hok.fresh (Nat.le_refl _)
 refine⟨.ref s1.heap.objs.size,upd H1 s1.heap.objs.size (.lst xs),I1.laid (t':=s1.toks) (fun b u e=>Heap.get?_push_of_some _ e) (Nat.le_refl _) ?_,rfl,q _ hf⟩
 exact⟨z,us,0,r,Heap.get?_push_size _ rfl⟩
end
abbrev Sp:=List V->Hp->VK->XK->Prop
abbrev G6:=List Env->Hp->Shared->XK->Value->Shared->Prop
structure BY (P:Program) (w:World) (K:PySem.W.Frag) (mg:Str->Option Value) (base:Heap) (A:Around) (outer:List Env) (s:Shared) (H:Hp):Prop where
 frames:A.frames=some outer
 mod:Mod K mg base
 bs:∀b o,base.get? b=some o->s.heap.get? b=some o/\H b=none
 bsz:base.objs.size<=s.heap.objs.size
 funs:s.heap.FunFrames base outer
 frf:∀b∈GE outer,H b=none
 hok:zu P w H s.heap
 bare:AllBare s.gens
def CE(outer:List Env)(P:Program)(w:World)(H:Hp)(s:Shared)(Q:VK)(u:Value)(s':Shared):Prop:=
 ∃v H',s'.os=s.os/\AllBare s'.gens/\Un (GE outer) [] H H' s.heap s'.heap/\zu P w H' s'.heap/\RelV v u/\Q v H'
def CR(CX:G6)(outer:List Env)(P:Program)(w:World)(H:Hp)(s:Shared)(Q:VK)(E:XK)(r:Result)(s':Shared):Prop:=
 match r with
 | .ok (.ret u)=>CE outer P w H s Q u s'
 | .ok _=>False
 | .error e=>CX outer H s E e s'
structure n5 (P:Program) (w:World) (K:PySem.W.Frag) (mg:Str->Option Value) (base:Heap) (CX:G6) (k:Nat) (f:Addr) (fd:FuncData) (ps:List Str) (sp:Sp):Prop where
 len:∀vs H Q E,sp vs H Q E->vs.length=ps.length
 run:∀(A:Around) (outer:List Env) (s:Shared) (H:Hp) (args:Args) (us:List Value) (vs:List V) (Q:VK) (E:XK),uB k A->BY P w K mg base A outer s H->BindsTo s fd args (ps.zip us)->p9 vs us->sp vs H Q E ->
  codeAny (model P w) A (.call (.ref f) args) (CR CX outer P w H s Q E) s
theorem n5.mono{P:Program}{w:World}{K:PySem.W.Frag}{mg:Str->Option Value}{base:Heap}{CX:G6}{j k:Nat}{f:Addr}{fd:FuncData}{ps:List Str}{sp:Sp}(F:n5 P w K mg base CX j f fd ps sp)(h:j<=k) :
  n5 P w K mg base CX k f fd ps sp:=⟨F.len,fun A outer s H args us vs Q E hr=>F.run A outer s H args us vs Q E (hr.mono h)⟩
theorem n5.imp{P:Program}{w:World}{K:PySem.W.Frag}{mg:Str->Option Value}{base:Heap}{CX:G6}{k:Nat}{f:Addr}{fd:FuncData}{ps:List Str}{sp sp':Sp}(F:n5 P w K mg base CX k f fd ps sp)
  (h:∀vs H Q E,sp' vs H Q E->sp vs H Q E):n5 P w K mg base CX k f fd ps sp':=
 ⟨fun vs H Q E q=>F.len vs H Q E (h _ _ _ _ q),fun A outer s H args us vs Q E hr he hb hv hs=>F.run A outer s H args us vs Q E hr he hb hv (h _ _ _ _ hs)⟩
theorem BY.make{P:Program}{w:World}{K:PySem.W.Frag}{mg:Str->Option Value}{base:Heap}{A:Around}{outer:List Env}{s:Shared}{H:Hp}(e:BY P w K mg base A outer s H)(C:Addr)(us:List Value)(kw:List (Str×Value)) :
  BY P w K mg base (A.under (.builtin "type.__call__" ⟨.ref C::us,kw⟩)) outer s H:=⟨by first | exact e.frames | (simpa [Around.under,Code.envs,Code.isFrame,pushEnvs] using e.frames),e.mod,e.bs,e.bsz,e.funs,e.frf,e.hok,e.bare⟩
theorem BY.in1{P:Program}{w:World}{K:PySem.W.Frag}{mg:Str->Option Value}{base:Heap}{A:Around}{outer:List Env}{s:Shared}{H:Hp}(e:BY P w K mg base A outer s H) :
  BY P w K mg base A.in1 outer s H:=⟨e.frames,e.mod,e.bs,e.bsz,e.funs,e.frf,e.hok,e.bare⟩
section
variable{X:Cx}{pins:List (Addr×Obj)}{σ:St}{H:Hp}{s s':Shared}
theorem Inv.env0(I:Inv X pins σ H s):BY X.prog X.w X.K X.mg X.base X.A X.stack s H:=
 ⟨I.ok.frames,I.ok.mod,I.bs,Nat.le_trans I.ok.bsz I.sz,I.stack,I.stkFree,I.hok,I.bare⟩
theorem Inv.after{Q:VK}{u:Value}(I:Inv X pins σ H s)(h:CE X.stack X.prog X.w H s Q u s'):EP X pins σ Q u s':=by
 obtain⟨v,H',os,bare,un,hok,r,q⟩:=h
 obtain⟨hh,g,d,t,os'⟩:=s'
 obtain rfl:os'=s.os:=os
 exact⟨v,H',I.call (h':=hh) (g':=g) (d':=d) (t':=t) (ch:=[]) un hok bare (fun b z=>absurd z (by simp)),r,q⟩
end
def KF(sp:Sp)(dvs:List V)(E:XK)(t:TA):TE:=fun σ H Q=>t σ H fun vs H1=>sp (vs++dvs) H1 Q E
def Binds(K:PySem.W.Frag)(fd:FuncData)(ps:List Str)(ds:List Value):Prop:=
 ∀(s:Shared) (us:List Value),K.In s.heap->(us++ds).length=ps.length->BindsTo s fd ⟨us,[]⟩ (ps.zip (us++ds))
theorem Binds.all{K:PySem.W.Frag}{fd:FuncData}{ps:List Str}(h:∀us:List Value,us.length=ps.length->bindArgs fd ⟨us,[]⟩=pure (ps.zip us)):Binds K fd ps []:=fun s us _ hl=>by
 rw[List.append_nil] at hl ⊢
 exact .of_eq (h us hl)
def Fd(CX:G6)(X:Cx)(E:XK):Prop:=∀(pins:List (Addr×Obj)) (σ:St) (H:Hp) (s:Shared) (e:Value) (s':Shared),Inv X pins σ H s->CX X.stack H s E e s'->X.xe e s'
section
variable{X:Cx}{CX:G6}{k:Nat}{f C:Addr}{fd:FuncData}{ps:List Str}{sp:Sp}{dvs:List V}{ds:List Value}{E:XK}{x m:Str}{p pos apos:Pos}{e o:Expr}{es:List Expr}{ta:TE}{t:TA}
theorem Iw{pins:List (Addr×Obj)}{σ:St}{H:Hp}{s:Shared}{Q:VK}{us:List Value}{vs:List V}(F:n5 X.prog X.w X.K X.mg X.base CX k f fd ps sp)(hr:uB k X.A)(hb:Binds X.K fd ps ds)(hd:p9 dvs ds)(hx:Fd CX X E)
  (I:Inv X pins σ H s) (r:p9 vs us) (h:sp (vs++dvs) H Q E):wpAny (model X.prog X.w) X.A (call (.ref f) us) (EP X pins σ Q) X.xe s:=by
 have r2:p9 (vs++dvs) (us++ds):=r.append hd
 have hl:(us++ds).length=ps.length:=by rw[<- r2.length];exact F.len _ _ _ _ h
 refine wpAny_call (codeAny_mono (F.run X.A X.stack s H ⟨us,[]⟩ (us++ds) (vs++dvs) Q E hr I.env0 (hb s us I.kIn hl) r2 h) fun r s' hq=>?_)
 cases r with
 | error e=>exact hx pins σ H s e s' I hq
 | ok fl =>
  cases fl with
  | ret u=>exact I.after hq
  | next=>exact False.elim hq
  | brk=>exact False.elim hq
  | cont=>exact False.elim hq
theorem io(F:n5 X.prog X.w X.K X.mg X.base CX k f fd ps sp)(hr:uB k X.A)(hg:Gl X x)(hm:X.mg x=some (.ref f))(hk:PySem.W.keepIn X.K (.ref f)=true)(hb:Binds X.K fd ps ds)(hd:p9 dvs ds)(hx:Fd CX X E)
  (ha:PA X (e::es) t) (hdb:(x==("__debug__" : Str))=false:=by decide) (he:starEach (e::es) X.env=(false,eval e X.env)::starEach es X.env:=by rfl) (hpl:(backTo pos (starEach es X.env)).any (·.1)=false:=by rfl) :
  PE X (.Call (.Name x p) (e::es) [] pos) (KF sp dvs E t):=by
 intro pins s σ H Q I h
 refine wpAny_Call_Name_kw (nR I hg hm ?_ hdb)
 refine PySem.W.callWith_K (h₀:=X.base) I.ok.mod.kin hk (ug (ha pos pins s σ H _ I h) fun us s1 ⟨vs,H1,I1,r,q⟩=>⟨I1.kIn,?_⟩) he hpl
 exact Iw F hr hb hd hx I1 r q
end
section
variable{X:Cx}{CX:G6}{k:Nat}{f C:Addr}{fd:FuncData}{ps ks:List Str}{sp:Sp}{E:XK}{x m:Str}{p pos apos kpos:Pos}{e o:Expr}{es:List Expr}{kws:List Keyword}{te ta:TE}{t tk:TA}{nm:Option Str}
variable{g:List Value->List Value->List Value}{gV:List V->List V->List V}
end
structure i7 (N P:List Str) (sc:Scope):Prop where
 kind:sc.kind=.function
 co:sc.isCoroutine=false
 gen:sc.isGenerator=false
 nd:N.Nodup
 pre:N.take P.length=P
 par:∀x∈P,sc.names.lookup x=some .local\/sc.names.lookup x=some .cell
 nofree:∀y∈sc.names,y.2≠.free
theorem uI{N P:List Str}{sc:Scope}(h1:N.Nodup:=by decide +kernel)(h2:∀x∈P,sc.names.lookup x=some .local\/sc.names.lookup x=some .cell:=by decide +kernel)(h3:∀y∈sc.names,y.2≠.free:=by decide +kernel)(k:sc.kind=.function:=by rfl)(c:sc.isCoroutine=false:=by rfl)(g:sc.isGenerator=false:=by rfl)(p:N.take P.length=P:=by rfl):i7 N P sc:=⟨k,c,g,h1,p,h2,h3⟩
theorem Co{kindOf:Str->Option NameKind}{x:Str}:∀{binds:List (Str×Value)} {m:Str->Option Value},(∀v,(x,v)∉binds)->bindL kindOf binds m x=m x
 | [],_,_=>rfl
 | (n,v)::r,m,h=>by
  unfold bindL
  rw[Co fun w hw=>h w (List.mem_cons_of_mem _ hw)]
  split
  ·have:x≠n:=by rintro rfl;exact h v List.mem_cons_self
   simp[this]
  ·rfl
theorem CQ{kindOf:Str->Option NameKind}{x:Str}:∀{binds:List (Str×Value)} {m:Str->Option Value},(∀v,(x,v)∉binds)->bindC kindOf binds m x=m x
 | [],_,_=>rfl
 | (n,v)::r,m,h=>by
  unfold bindC
  rw[CQ fun w hw=>h w (List.mem_cons_of_mem _ hw)]
  split
  ·rfl
  ·have:x≠n:=by rintro rfl;exact h v List.mem_cons_self
   simp[this]
theorem Cm{kindOf:Str->Option NameKind}{x:Str}{v:Value}:∀{P:List Str} {vs:List Value} {i:Nat} {m:Str->Option Value},P.Nodup->P[i]?=some x->vs[i]?=some v->kindOf x=some .local ->
  bindL kindOf (P.zip vs) m x=some v
 | [],_,_,_,_,h,_,_=>by simp at h
 | _::_,[],_,_,_,_,h,_=>by simp at h
 | p::P,w::vs,0,m,nd,h1,h2,hk=>by
  simp at h1 h2;subst h1;subst h2
  show bindL kindOf ((p,w)::P.zip vs) m p=_
  unfold bindL
  rw[Co fun v hv=>(List.nodup_cons.mp nd).1 (List.of_mem_zip hv).1,if_pos hk]
  simp
 | p::P,w::vs,i+1,m,nd,h1,h2,hk=>by
  show bindL kindOf ((p,w)::P.zip vs) m x=_
  unfold bindL
  exact Cm (i:=i) (List.nodup_cons.mp nd).2 (by simpa using h1) (by simpa using h2) hk
theorem CB{kindOf:Str->Option NameKind}{x:Str}{v:Value}:∀{P:List Str} {vs:List Value} {i:Nat} {m:Str->Option Value},P.Nodup->P[i]?=some x->vs[i]?=some v->kindOf x≠some .local ->
  bindC kindOf (P.zip vs) m x=some v
 | [],_,_,_,_,h,_,_=>by simp at h
 | _::_,[],_,_,_,_,h,_=>by simp at h
 | p::P,w::vs,0,m,nd,h1,h2,hk=>by
  simp at h1 h2;subst h1;subst h2
  show bindC kindOf ((p,w)::P.zip vs) m p=_
  unfold bindC
  rw[CQ fun v hv=>(List.nodup_cons.mp nd).1 (List.of_mem_zip hv).1,if_neg hk]
  simp
 | p::P,w::vs,i+1,m,nd,h1,h2,hk=>by
  show bindC kindOf ((p,w)::P.zip vs) m x=_
  unfold bindC
  exact CB (i:=i) (List.nodup_cons.mp nd).2 (by simpa using h1) (by simpa using h2) hk
def start(N:List Str)(vs:List V):St:=vs.map some++List.replicate (N.length - vs.length) none
noncomputable def BZ(CX:G6)(P:Program)(w:World)(K:PySem.W.Frag)(mg:Str->Option Value)(base:Heap)(N:List Str)(qual:Str)(scope:Scope)(f:Addr)(cd:Value)(A:Around)(outer:List Env)(s:Shared)(H:Hp)(E:XK):Cx where
 prog:=P
 w:=w
 K:=K
 mg:=mg
 base:=base
 A:=A.deeper (envOfC qual scope s.heap.objs.size f cd)
 N:=N
 s₀:=s
 H₀:=H
 env:=envOfC qual scope s.heap.objs.size f cd
 outer:=outer
 stack:=envOfC qual scope s.heap.objs.size f cd::outer
 ex:=[]
 calm:=true
 fn:=fun _=>true
 pn:=[]
 xe:=fun e s'=>wpAny (model P w) (A.deeper (envOfC qual scope s.heap.objs.size f cd)) (leaving (envOfC qual scope s.heap.objs.size f cd) e) (fun _ s''=>CX outer H s E e s'') (fun e' s''=>CX outer H s E e' s'') s'
theorem D_{sc:Scope}{n:Nat}{x:Str}(h:sc.names.lookup x=some .cell):∃c,(cellsFrom n sc.names []).lookup x=some c:=by
 have q:=PySem.W.cellsFrom_some sc.names n [] (.inl h)
 exact Option.isSome_iff_exists.mp q
theorem GT{CX:G6}{P:Program}{w:World}{K:PySem.W.Frag}{mg:Str->Option Value}{base:Heap}{N ps:List Str}{qual:Str}{scope:Scope}{f:Addr}{cd:Value}{A:Around}{outer:List Env}{s s1:Shared}{H:Hp}{E:XK}{us:List Value}{vs:List V}
  (S:i7 N ps scope) (hd:A.handled=none) (e0:BY P w K mg base A outer s H) (hl:vs.length=ps.length) (r:p9 vs us)
  (x:InCallC s s.heap.objs.size (bindL (envOfC qual scope s.heap.objs.size f cd).kindOf (ps.zip us) fun _=>none) (cellsFrom (s.heap.objs.size+1) scope.names []) (bindC (envOfC qual scope s.heap.objs.size f cd).kindOf (ps.zip us) fun _=>none) s1) :
  Inv (BZ CX P w K mg base N qual scope f cd A outer s H E) [] (start N vs) H s1:=by
 have hpl:ps.length<=N.length:=by have:=congrArg List.length S.pre;rw[List.length_take] at this;omega
 obtain⟨h1,tk,rfl,hk⟩:=x.done
 have noA:∀b:Addr,b∉(BZ CX P w K mg base N qual scope f cd A outer s H E).ex:=fun b z=>absurd (show b∈([]:List Addr) from z) (by simp)
 refine⟨⟨e0.mod,S.kind,rfl,rfl,Nat.le_refl _,fun y z c h1 h2=>?_,fun y hy=>?_,fun y c _ h=>?_,fun _=>hd,Around.frames_deeper e0.frames,.inr ⟨rfl,rfl⟩,fun b z=>absurd z (noA b),e0.bs,e0.bsz,fun b _ _=>noA b,fun b z=>absurd z (noA b),e0.funs,e0.frf⟩,
  rfl,e0.bare,Un.kept hk,⟨_,x.toInCall.ns,fun i y v h1 h2 h3=>?_⟩,fun y c h=>⟨_,x.cell y c h⟩,e0.hok.fresh (Nat.le_refl _),fun y c h=>?_,fun p hp=>absurd (show p∈([]:List (Addr×Obj)) from hp) (by simp),e0.hok.kept hk,?_⟩
 ·exact name_of_addr x.apart (PySem.mem_of_lookup h1) (PySem.mem_of_lookup h2)
 ·have hy:scope.names.lookup y=some .cell\/scope.names.lookup y=some .free:=hy
  rcases hy with hy | hy
  ·exact D_ hy
  ·exact absurd rfl (S.nofree _ (PySem.mem_of_lookup hy))
 ·exact Nat.le_of_lt (x.above y c (PySem.mem_of_lookup h))
 ·have hi:i<vs.length:=by
   unfold start at h2
   by_cases hi:i<vs.length
   ·exact hi
   ·rw[List.getElem?_append_right (by simpa using hi)] at h2
    rw[List.getElem?_replicate] at h2
    split at h2<;>cases h2
  have ha:vs[i]?=some v:=by
   unfold start at h2
   rw[List.getElem?_append_left (by simpa using hi),List.getElem?_map] at h2
   cases e:vs[i]? with
   | none=>rw[e] at h2;cases h2
   | some a=>rw[e] at h2;cases h2;rfl
  obtain⟨u,hu,rv⟩:=r.get ha
  have hp:ps[i]?=some y:=by
   rw[<- S.pre,List.getElem?_take_of_lt (by omega)];exact h1
  have ndP:ps.Nodup:=by rw[<- S.pre];exact S.nd.sublist (List.take_sublist _ _)
  refine⟨u,rv,?_⟩
  rcases S.par y (List.mem_of_getElem? hp) with k | k
  ·exact .inl ⟨k,Cm ndP hp hu k⟩
  ·obtain⟨c,e⟩:=D_ (n:=s.heap.objs.size+1) k
   refine .inr ⟨.inl k,c,e,?_⟩
   have q:=x.cell y c e
   rw[CB ndP hp hu (by show scope.names.lookup y≠_;rw[k];decide)] at q
   exact q
 ·exact e0.hok.fresh (Nat.le_of_lt (x.above y c (PySem.mem_of_lookup h)))
 ·unfold start
  show _=N.length
  rw[List.length_append,List.length_map,List.length_replicate]
  omega
theorem s_ {CX:G6} {P:Program} {w:World} {K:PySem.W.Frag} {mg:Str->Option Value} {base:Heap} {k:Nat} {f:Addr} {name qual:Str} {params:Arguments} {body:List Stmt} {scope:Scope} {dV kV doc pm cdv ct oc:Value} {an od:Option Addr}
    {osl:Array (Option Value)} {N ps:List Str} {sp:Sp} (lk:K.lookup f=some ⟨oc,od,.func (PySem.W.fnOf name qual params body scope dV kV doc pm an cdv ct),osl⟩) (hcd:PySem.W.codeIn K cdv qual=true) (S:i7 N ps scope)
    (len:∀vs H Q E,sp vs H Q E->vs.length=ps.length)
    (hbody:∀(A:Around) (outer:List Env) (s:Shared) (H:Hp) (vs:List V) (Q:VK) (E:XK),uB k (A.deeper (envOfC qual scope s.heap.objs.size f cdv))->sp vs H Q E ->
      ∃t,PSs (BZ CX P w K mg base N qual scope f cdv A outer s H E) body t/\t {nx:=fun _ H'=>Q .non H',rt:=Q} (start N vs) H) :
    n5 P w K mg base CX (k+1) f (PySem.W.fnOf name qual params body scope dV kV doc pm an cdv ct) ps sp:=by
  refine⟨len,fun A outer s H args us vs Q E hr e0 hb r hsp=>?_⟩
  have hl:=len _ _ _ _ hsp
  have KX:K.In s.heap:=e0.mod.kin.keeps fun b o e=>(e0.bs b o e).1
  have lim:s.heap.NoLimit:=e0.mod.nolimit.keeps fun b o e=>(e0.bs b o e).1
  have hkind:∀y∈ps.zip us,scope.names.lookup y.1=some .local\/(scope.names.lookup y.1=some .cell/\((cellsFrom (s.heap.objs.size+1) scope.names []).lookup y.1).isSome=true):=fun ⟨n,v⟩ hy=>by
    rcases S.par n (List.of_mem_zip hy).1 with q | q
    · exact .inl q
    · exact .inr ⟨q,PySem.W.cellsFrom_some _ _ _ (.inl q)⟩
  refine codeAny_call_function hr.depth (KX _ _ lk) rfl S.co S.gen rfl (PySem.W.codeRec_of KX hcd) (hb _ _ _ _ ?_)
  refine wpAny_newFunctionEnv_cells S.kind hkind fun env he s1 x=>?_
  subst he
  refine⟨lim.keeps x.toInCall.keep,codeAny_func ?_⟩
  obtain⟨t,ht,hq⟩:=hbody A outer s H vs Q E (hr.deeper _) hsp
  have I:Inv (BZ CX P w K mg base N qual scope f cdv A outer s H E) [] (start N vs) H s1:=GT S hr.hd e0 hl r x
  refine wpAny_mono (ht [] s1 (start N vs) H _ I hq) (fun fl s' hs=>?_) fun e s' hs=>hs
  have fin:∀{σ':St} {H':Hp} {v:V} {u:Value},Inv (BZ CX P w K mg base N qual scope f cdv A outer s H E) [] σ' H' s'->RelV v u->Q v H'->CE outer P w H s Q u s':=
    fun {σ' H' v u} J rv q=>⟨v,H',J.os,J.bare,J.base,J.hok,rv,q⟩
  cases fl with
  | ret u =>
    obtain⟨v,σ',H',J,rv,q⟩:=hs
    exact fin J rv q
  | next =>
    obtain⟨σ',H',J,q⟩:=hs
    exact fin (v:=V.non) (u:=Value.none) J rfl q
  | brk =>
    obtain⟨_,_,_,q⟩:=hs
    exact False.elim q
  | cont =>
    obtain⟨_,_,_,q⟩:=hs
    exact False.elim q
end L2
namespace L2
open PySem PySem.Spec PyProof.Rows
section
variable{X:Cx}{x:Str}{p pos:Pos}{e:Expr}{es:List Expr}{t:TA}{id T:String}{r:List V->Hp->VK->Prop}
def PV(r:List V->Hp->VK->Prop)(t:TA):TE:=fun σ H Q=>t σ H fun vs H1=>r vs H1 Q
theorem qu(hc:CallR X (.builtin id) r)(hg:Gl X x)(hm:X.mg x=none)(hv:bootBuiltins x=some (.builtin id))(ha:PA X (e::es) t)(hn:x ≠ "__name__":=by decide)(hdb:(x==("__debug__" : Str))=false:=by decide)
  (he:starEach (e::es) X.env=(false,eval e X.env)::starEach es X.env:=by rfl) (hpl:(backTo pos (starEach es X.env)).any (·.1)=false:=by rfl):PE X (.Call (.Name x p) (e::es) [] pos) (PV r t):=by
 intro pins s σ H Q I h
 refine wpAny_Call_Name_kw (da I hg hm hv ?_ hn hdb)
 exact PyProof.Rows.callWith_builtin1 (ug (ha pos pins s σ H _ I h) fun us s1 ⟨vs,H1,I1,r1,q1⟩=>hc pins s1 σ H1 vs us Q I1 r1 q1) he hpl
theorem og(hc:CallR X (.type T) r)(hg:Gl X x)(hm:X.mg x=none)(hv:bootBuiltins x=some (.type T))(ha:PA X (e::es) t)(hn:x ≠ "__name__":=by decide)(hdb:(x==("__debug__" : Str))=false:=by decide)
  (he:starEach (e::es) X.env=(false,eval e X.env)::starEach es X.env:=by rfl) (hpl:(backTo pos (starEach es X.env)).any (·.1)=false:=by rfl):PE X (.Call (.Name x p) (e::es) [] pos) (PV r t):=by
 intro pins s σ H Q I h
 refine wpAny_Call_Name_kw (da I hg hm hv ?_ hn hdb)
 exact PyProof.Rows.callWith_type1 (ug (ha pos pins s σ H _ I h) fun us s1 ⟨vs,H1,I1,r1,q1⟩=>hc pins s1 σ H1 vs us Q I1 r1 q1) he hpl
end
end L2
namespace HT
open PySem PyProof.Rows
section
open PySem.SeqAt
open PySem.AutoSeq1 (wpAny_loadPart')
open PySem.MeetsSeq PySem.MeetsSeq2 PySem.MeetsSeq3
end
section
variable{prog:Program}{w:World}{A:Around}{E:Value->Shared->Prop}{s:Shared}
theorem cat_tup{t b:Addr}{vs ws:List Value}{Q:Value->Shared->Prop}(ht:IsTup s.heap t vs.toArray)(hb:IsTup s.heap b ws.toArray)(hv:vs ≠ [])
  (h1:ws=[]->Q (.ref t) s) (h2:ws ≠ []->Q (.ref s.heap.objs.size) {s with heap:=s.heap.push {cls:=.type "tuple",data:=.seq (vs++ws).toArray} })
  (hsz:vs.length+ws.length<=sizeLine):wpAny (model prog w) A (binaryOp .Add (.ref t) (.ref b)) Q E s:=by
 obtain⟨⟨cls,dd,data,sl⟩,ho,hc,n,hd⟩:=id ht
 obtain⟨⟨cls2,dd2,data2,sl2⟩,ho2,hc2,n2,hd2⟩:=id hb
 simp only at hc hd hc2 hd2
 subst hc hd hc2 hd2
 have e:vs.toArray++ws.toArray=(vs++ws).toArray:=by simp
 by_cases hw:ws=[]
 ·exact concat_meets ⟨_,ho,rfl⟩ ⟨_,ho2,rfl⟩ noFill_tuple_add seq_tuple_add PySem.F.slot_tuple_add PySem.F.entry_tuple_add (PySem.F.args_tuple_add_2 _ _)
   (tuple_addW1 t b vs.toArray ws.toArray n n2 dd dd2 sl sl2 (by simpa using hv) (by simp[hw])) ⟨ho,ho2,h1 hw⟩
 ·refine concat_meets ⟨_,ho,rfl⟩ ⟨_,ho2,rfl⟩ noFill_tuple_add seq_tuple_add PySem.F.slot_tuple_add PySem.F.entry_tuple_add (PySem.F.args_tuple_add_2 _ _)
   (tuple_addW2 t b vs.toArray ws.toArray n n2 dd dd2 sl sl2 (by simpa using hv) (by simpa using hw) (by rw[List.size_toArray,List.size_toArray];exact hsz)) ⟨ho,ho2,?_⟩
  rw[e]
  exact h2 hw
def sIx(n d:Nat):Option Int->Nat
 | none=>d
 | some v=>if v<0 then (v+(n:Int)).toNat else min v.toNat n
theorem LY(n d:Nat)(hd:d<=n)(o:Option Int):sIx n d o<=n:=by
 cases o with
 | none=>exact hd
 | some v =>
  show(if v<0 then (v+(n:Int)).toNat else min v.toNat n)<=n
  by_cases hv:v<0
  ·rw[if_pos hv];omega
  ·rw[if_neg hv];exact Nat.min_le_right _ _
theorem FR(v:Int)(n d:Nat):(if v<0 then max (v+(n:Int)) 0 else min v (n:Int))=((sIx n d (some v):Nat):Int):=by
 show(if v<0 then max (v+(n:Int)) 0 else min v (n:Int))=(((if v<0 then (v+(n:Int)).toNat else min v.toNat n):Nat):Int)
 by_cases hv:v<0
 ·simp only[if_pos hv];omega
 ·simp only[if_neg hv];omega
theorem EL(lo hi:Option Int)(n:Nat):Builtin.Slice.sliceAdjust lo hi 1 (n:Int)=(((sIx n 0 lo:Nat):Int),((sIx n n hi:Nat):Int)):=by
 have h1:¬ ((1:Int)<0):=by omega
 unfold Builtin.Slice.sliceAdjust
 simp only[h1,if_false]
 refine Prod.ext ?_ ?_
 ·cases lo with
  | none=>rfl
  | some v=>exact FR v n 0
 ·cases hi with
  | none=>rfl
  | some v=>exact FR v n n
theorem E_(i j:Nat):Builtin.Slice.slicePlaces (i:Int) (j:Int) 1=j - i:=by
 unfold Builtin.Slice.slicePlaces
 have h1:(1:Int) > 0:=by omega
 simp only[h1,if_true,Int.ediv_one]
 split<;>omega
theorem Bn{v:Value}{o:Option Int}{Q:Option Int->Shared->Prop}(p:IsPart v o)(h:Q o s):wpAny (model prog w) A (Builtin.Slice.slicePartIndex v) Q E s:=by
 cases p with
 | none=>exact slicePart_none h
 | int i t=>exact slicePart_int h
theorem sliceApplied_gen{sl:Addr}{vl vu:Value}{lo hi:Option Int}{n:Nat}{Q:Int×Int×Nat->Shared->Prop}(hs:s.heap.IsSliceOf sl vl vu .none)(pl:IsPart vl lo)(pu:IsPart vu hi)
  (h:Q (((sIx n 0 lo:Nat):Int),1,sIx n n hi - sIx n 0 lo) s):wpAny (model prog w) A (Builtin.Slice.sliceApplied (.ref sl) (pure (n:Int))) Q E s:=by
 obtain⟨os,hos,hcs,hds⟩:=id hs
 unfold Builtin.Slice.sliceApplied Builtin.Slice.sliceFields
 refine wpAny_bind (wpAny_bind (wpAny_field hos hds (x:=vl) rfl (wpAny_bind (wpAny_field hos hds (x:=vu) rfl (wpAny_bind (wpAny_field hos hds (x:=.none) rfl (wpAny_pure ?_)))))))
 refine wpAny_bind (slicePart_none ?_)
 show wpAny _ _ (if ((1:Int)==0)=true then _ else _) _ _ s
 rw[if_neg (by decide)]
 refine wpAny_bind (Bn pl (wpAny_bind (Bn pu (wpAny_bind (wpAny_pure ?_)))))
 show wpAny _ _ (match Builtin.Slice.sliceAdjust lo hi 1 (n:Int) with | (lo,hi)=>pure (lo,(1:Int),Builtin.Slice.slicePlaces lo hi 1)) _ _ s
 rw[EL lo hi n]
 show wpAny _ _ (pure (((sIx n 0 lo:Nat):Int),(1:Int),Builtin.Slice.slicePlaces ((sIx n 0 lo:Nat):Int) ((sIx n n hi:Nat):Int) 1)) _ _ s
 rw[E_]
 exact wpAny_pure h
theorem HQ(xs:Array Value)(i k:Nat):((List.range k).filterMap fun (m:Nat)=>xs[((i:Int)+(m:Int)*1).toNat]?).toArray=((xs.toList.drop i).take k).toArray:=by
 have e:(fun (m:Nat)=>xs[((i:Int)+(m:Int)*1).toNat]?)=fun m=>xs[i+m]?:=by
  funext m
  have:((i:Int)+(m:Int)*1).toNat=i+m:=by omega
  rw[this]
 rw[e]
 have:=pick_run xs i k
 rw[List.filterMap_map] at this
 have e2:((fun x=>xs[x]?) ∘ fun x=>i+x)=fun m=>xs[i+m]?:=rfl
 rw[e2] at this
 rw[this]
theorem getItem_tuple_cut{t sl:Addr}{items:Array Value}{vl vu:Value}{lo hi:Option Int}{Q:Value->Shared->Prop}(ht:IsTup s.heap t items)(hs:s.heap.IsSliceOf sl vl vu .none)(pl:IsPart vl lo)(pu:IsPart vu hi)
  (hw:¬ (sIx items.size 0 lo=0/\sIx items.size items.size hi=items.size))
  (h:Q (.ref s.heap.objs.size) {s with heap:=s.heap.push {cls:=.type "tuple",data:=.seq ((items.toList.drop (sIx items.size 0 lo)).take (sIx items.size items.size hi - sIx items.size 0 lo)).toArray} })
  (hsz:items.size<=sizeLine):wpAny (model prog w) A (getItem (.ref t) (.ref sl)) Q E s:=by
 have htake:sizeOk (.seq ((items.toList.drop (sIx items.size 0 lo)).take (sIx items.size items.size hi - sIx items.size 0 lo)).toArray):=by
  show((items.toList.drop (sIx items.size 0 lo)).take (sIx items.size items.size hi - sIx items.size 0 lo)).toArray.size<=sizeLine
  rw[List.size_toArray,List.length_take,List.length_drop,Array.length_toList]
  omega
 have hj:sIx items.size items.size hi<=items.size:=LY _ _ (Nat.le_refl _) hi
 obtain⟨os,hos,hcs,hds⟩:=id hs
 have hTs:s.TypeIs (.ref sl) "slice":=⟨os,hos,hcs⟩
 unfold getItem
 try with_reducible refine wpAny_holding ?_
 first | refine wpAny_bind (wpAny_pure ?_) | skip
 refine wpAny_bind (wpAny_sequenceKey ht.typeIs (by decide) ?_)
 refine wpAny_bind (wpAny_callSpecial?_slot (name:=Str.ofString "__getitem__") ht.typeIs PyProof.Rows.slot_tuple_getitem
  (wpAny_call_entry PyProof.Rows.slot_tuple_getitem ht.typeIs entry_tuple_getitem ?_ (args_tuple_getitem _ _)))
 show wpAny _ _ (Builtin.Tuple.tupleItemsOf (.ref t) >>= _) _ _ s
 refine wpAny_bind (tupleItemsOf_ ht ?_)
 refine wpAny_bind (wpAny_typeOf hTs ?_)
 rw[if_pos (by decide)]
 refine wpAny_bind (sliceApplied_gen hs pl pu ?_)
 have hno:¬ ((((sIx items.size 0 lo:Nat):Int)==0&&(1:Int)==1&&(sIx items.size items.size hi - sIx items.size 0 lo)==items.size)=true):=by
  intro q
  rw[Bool.and_eq_true,Bool.and_eq_true] at q
  have q1:((sIx items.size 0 lo:Nat):Int)=0:=eq_of_beq q.1.1
  have q2:sIx items.size items.size hi - sIx items.size 0 lo=items.size:=eq_of_beq q.2
  exact hw ⟨by omega,by omega⟩
 show wpAny _ _ (if (((sIx items.size 0 lo:Nat):Int)==0&&(1:Int)==1&&(sIx items.size items.size hi - sIx items.size 0 lo)==items.size)=true then _ else _) _ _ s
 rw[if_neg hno,HQ]
 first
  | exact wpAny_bind (m:=Builtin.Tuple.tupleExact _) (wpAny_newObj_type (wpAny_pure ⟨_,rfl,wpAny_pure h⟩) htake)
  | exact wpAny_bind (m:=Builtin.Tuple.tupleExact _) (wpAny_newObj_type (wpAny_bind (wpAny_pure (wpAny_pure ⟨_,rfl,wpAny_pure h⟩))) htake)
  | exact wpAny_bind (wpAny_bind (m:=Builtin.Tuple.tupleExact _) (wpAny_newObj_type (wpAny_pure (wpAny_pure ⟨_,rfl,wpAny_pure h⟩)) htake))
  | exact wpAny_bind (wpAny_bind (m:=Builtin.Tuple.tupleExact _) (wpAny_newObj_type (wpAny_pure ⟨_,rfl,wpAny_pure h⟩) htake))
end
end HT
namespace L2
open PySem PySem.Spec PyProof.Rows
abbrev TO:=St->Hp->(Option Int->Hp->Prop)->Prop
def PO(X:Cx)(e:Option Expr)(t:TO):Prop:=
 ∀(pins:List (Addr×Obj)) (s:Shared) (σ:St) (H:Hp) (Q:Option Int->Hp->Prop),Inv X pins σ H s->t σ H Q ->
  wpAny (model X.prog X.w) X.A (evalPart e X.env) (fun u s'=>∃o H',Inv X pins σ H' s'/\IsPart u o/\Q o H') X.xe s
def JK:TO:=fun _ H Q=>Q none H
def MZ(t:TE):TO:=fun σ H Q=>t σ H fun x H1=>∃i,x=.int i/\Q (some i) H1
section
variable{X:Cx}{e:Expr}{te:TE}{lo hi:Option Expr}{tl th:TO}{pos p2:Pos}
theorem JV:PO X none JK:=by
 intro pins s σ H Q I h
 rw[evalPart_none]
 exact wpAny_pure ⟨none,H,I,.none,h⟩
theorem JC(h:PE X e te):PO X (some e) (MZ te):=by
 intro pins s σ H Q I hw
 rw[evalPart_some]
 refine ug (h pins s σ H _ I hw) fun u s1 ⟨x,H1,I1,r1,q1⟩=>?_
 obtain⟨i,rfl,q⟩:=q1
 obtain⟨t,rfl⟩:=r1
 exact⟨some i,H1,I1,.int i t,q⟩
def J0(X:Cx)(r:V->Option Int->Option Int->Hp->VK->Prop):Prop:=
 ∀(pins:List (Addr×Obj)) (s:Shared) (σ:St) (H:Hp) (x:V) (v vl vu:Value) (lo hi:Option Int) (sl:Addr) (Q:VK),Inv X pins σ H s->RelV x v->s.heap.IsSliceOf sl vl vu .none->IsPart vl lo->IsPart vu hi->r x lo hi H Q ->
  ∃T id,typeLookup (.type T) "__getitem__" = pure (some (.builtin id))/\s.TypeIs v T/\wpAny (model X.prog X.w) X.A (getItem v (.ref sl)) (EP X pins σ Q) X.xe s
theorem J0.or{r r':V->Option Int->Option Int->Hp->VK->Prop}(h:J0 X r)(h':J0 X r'):J0 X (fun x lo hi H Q=>r x lo hi H Q\/r' x lo hi H Q):=by
 intro pins s σ H x v vl vu lo hi sl Q I rx hs pl pu q
 rcases q with q | q
 ·exact h pins s σ H x v vl vu lo hi sl Q I rx hs pl pu q
 ·exact h' pins s σ H x v vl vu lo hi sl Q I rx hs pl pu q
def Qj(r:V->Option Int->Option Int->Hp->VK->Prop)(te:TE)(tl th:TO):TE:=fun σ H Q=>te σ H fun x H1=>tl σ H1 fun l H2=>th σ H2 fun u H3=>r x l u H3 Q
theorem ly{r:V->Option Int->Option Int->Hp->VK->Prop}(hr:J0 X r)(he:PE X e te)(hl:PO X lo tl)(hu:PO X hi th):PE X (.Subscript e (.Slice lo hi none p2) pos) (Qj r te tl th):=by
 intro pins s σ H Q I h
 refine Subscript_ (ug (he pins s σ H _ I h) fun v s1 ⟨x,H1,I1,r1,q1⟩=>?_)
 refine wpAny_Slice (ug (hl pins s1 σ H1 _ I1 q1) fun vl s2 ⟨l,H2,I2,pl,q2⟩=>ug (hu pins s2 σ H2 _ I2 q2) fun vu s3 ⟨u,H3,I3,pu,q3⟩=>?_)
 rw[evalPart_none]
 refine wpAny_pure ?_
 have I4:Inv X pins σ H3 {s3 with heap:=s3.heap.push {cls:=.type "slice",data:=.fields #[vl,vu,.none]} }:=I3.kept (t':=s3.toks) fun b ob q=>Heap.get?_push_of_some _ q
 obtain⟨T,id,hT,ht,hg⟩:=hr pins {s3 with heap:=s3.heap.push {cls:=.type "slice",data:=.fields #[vl,vu,.none]} } σ H3 x v vl vu l u s3.heap.objs.size Q I4 r1 (Heap.IsSliceOf.new ..) pl pu q3
 show wpAny (model X.prog X.w) X.A (subscriptTail e (.Slice lo hi none p2) v (.ref s3.heap.objs.size)) (EP X pins σ Q) X.xe {s3 with heap:=s3.heap.push {cls:=.type "slice",data:=.fields #[vl,vu,.none]} }
 exact tail_any (ops:=[.ref s3.heap.objs.size,v]) ht hT hg (by with_unfolding_all rfl)
def AK(xs:List V)(lo hi:Option Int):List V:=(xs.drop (HT.sIx xs.length 0 lo)).take (HT.sIx xs.length xs.length hi - HT.sIx xs.length 0 lo)
theorem AE(xs:List V)(lo hi:Option Int):(AK xs lo hi).length<=xs.length:=by
 unfold AK
 rw[List.length_take,List.length_drop]
 omega
def OZ(K:PySem.W.Frag):V->Option Int->Option Int->Hp->VK->Prop:=fun x lo hi H Q=>∃a xs,x=.ref a/\xy K H a xs /\
 ¬ (HT.sIx xs.length 0 lo=0/\HT.sIx xs.length xs.length hi=xs.length)/\∀p,H p=none->Q (.ref p) (upd H p (.tup (AK xs lo hi)))
theorem LQ:J0 X (OZ X.K):=by
 intro pins s σ H x v vl vu lo hi sl Q I rx hs pl pu h
 obtain⟨a,xs,rfl,hx,hw,q⟩:=h
 cases rx
 obtain⟨its,r,ht,hz⟩:=I.tuple hx
 have hlen:its.toArray.size=xs.length:=by rw[List.size_toArray];exact r.length.symm
 refine⟨"tuple",_,PyProof.Rows.slot_tuple_getitem.lookup,ht.typeIs,?_⟩
 refine HT.getItem_tuple_cut ht hs pl pu (by rw[hlen];exact hw) ?_ (by rw[hlen];exact hz)
 rw[hlen]
 refine⟨.ref s.heap.objs.size,_,I.laid (t':=s.toks) (o:=.tup (AK xs lo hi)) (fun b ob q=>Heap.get?_push_of_some _ q) (Nat.le_refl _) ?_,rfl,q _ (I.hok.fresh (Nat.le_refl _))⟩
 exact⟨Nat.le_trans (AE xs lo hi) hz,_,(r.drop (HT.sIx xs.length 0 lo)).take (HT.sIx xs.length xs.length hi - HT.sIx xs.length 0 lo),wF.new _ _⟩
def Nb(K:PySem.W.Frag):R2:=fun x y H Q=>∃a b xs ys,x=.ref a/\y=.ref b/\xy K H a xs/\xy K H b ys/\xs ≠ []/\xs.length+ys.length<=sizeLine /\
 (ys=[]->Q (.ref a) H)/\(ys ≠ []->∀p,H p=none->Q (.ref p) (upd H p (.tup (xs++ys))))
theorem p9.nil_iff{xs:List V}{us:List Value}(r:p9 xs us):us=[]↔xs=[]:=by
 cases r with
 | nil=>simp
 | cons _ _=>simp
theorem Jj:OpR X (binaryOp .Add) (Nb X.K):=by
 intro pins s σ H x y v u Q I rx ry h
 obtain⟨a,b,xs,ys,rfl,rfl,ha,hb,hx,hz,q1,q2⟩:=h
 cases rx
 cases ry
 obtain⟨its,r1,p1,_⟩:=I.tuple ha
 obtain⟨its2,r2,p2,_⟩:=I.tuple hb
 refine HT.cat_tup p1 p2 (fun z=>hx (r1.nil_iff.mp z)) (fun z=>⟨.ref a,H,I,rfl,q1 (r2.nil_iff.mp z)⟩) (fun z=>?_) (by rw[<- r1.length,<- r2.length];exact hz)
 refine⟨.ref s.heap.objs.size,_,I.laid (t':=s.toks) (o:=.tup (xs++ys)) (fun b ob q=>Heap.get?_push_of_some _ q) (Nat.le_refl _) ?_,rfl,q2 (fun w=>z (r2.nil_iff.mpr w)) _ (I.hok.fresh (Nat.le_refl _))⟩
 exact⟨by rw[List.length_append];exact hz,_,r1.append r2,wF.new _ _⟩
end
end L2
namespace L2
open PySem PySem.Spec PyProof.Rows
noncomputable def Ni(n:Nat)(i:Int):Option Nat:=if 0<=i then (if i<n then some i.toNat else none) else if -(n:Int)<=i then some (i+n).toNat else none
def LW{α:Type}(xs:List α)(i:Int):Option α:=(Ni xs.length i).bind fun j=>xs[j]?
theorem JX{n:Nat}{i:Int}{j:Nat}(h:Ni n i=some j):seqIndex? i n=some j/\j<n /\ -(n:Int)<=i/\i<n:=by
 unfold Ni at h
 by_cases h0:0<=i
 ·rw[if_pos h0] at h
  by_cases h1:i<n
  ·rw[if_pos h1] at h
   have e:i.toNat=j:=Option.some.inj h
   exact⟨by rw[seqIndex_of h0 h1,e],by omega,by omega,h1⟩
  ·rw[if_neg h1] at h;cases h
 ·rw[if_neg h0] at h
  by_cases h1 : -(n:Int)<=i
  ·rw[if_pos h1] at h
   have e:(i+n).toNat=j:=Option.some.inj h
   exact⟨by rw[seqIndex_neg (by omega) h1,e],by omega,h1,by omega⟩
  ·rw[if_neg h1] at h;cases h
theorem C9{α:Type}{xs:List α}{i:Int}{v:α}(h:LW xs i=some v):∃j,seqIndex? i xs.length=some j/\xs[j]?=some v/\j<xs.length /\ -(xs.length:Int)<=i/\i<xs.length:=by
 unfold LW at h
 cases e:Ni xs.length i with
 | none=>rw[e] at h;cases h
 | some j =>
  rw[e] at h
  obtain⟨h1,h2,h3,h4⟩:=JX e
  exact⟨j,h1,h,h2,h3,h4⟩
def CU(b:Expr):Prop:=∀o i,subscripted b false o i=operate [o,i] (getItem o i)
def IxR(X:Cx)(r:R2):Prop:=
 ∀(value slice:Expr) (pins:List (Addr×Obj)) (s:Shared) (σ:St) (H:Hp) (x y:V) (v u:Value) (Q:VK),Inv X pins σ H s->RelV x v->RelV y u->r x y H Q ->
  subscripted slice false v u=operate [v,u] (getItem v u)->wpAny (model X.prog X.w) X.A (subscriptTail value slice v u) (EP X pins σ Q) X.xe s
def Ia(X:Cx)(id:String)(r:V->List V->Hp->VK->Prop):Prop:=
 ∀(pins:List (Addr×Obj)) (s:Shared) (σ:St) (H:Hp) (x:V) (xs:List V) (v:Value) (us:List Value) (Q:VK),Inv X pins σ H s->RelV x v->p9 xs us->r x xs H Q ->
  wpAny (model X.prog X.w) X.A (call (.builtin id) (v::us)) (EP X pins σ Q) X.xe s
section
variable{X:Cx}{a b:Expr}{ta tb:TE}{pos:Pos}
theorem IxR.or{r r':R2}(h:IxR X r)(h':IxR X r'):IxR X (fun x y H Q=>r x y H Q\/r' x y H Q):=by
 intro value slice pins s σ H x y v u Q I rx ry q hs
 rcases q with q | q
 ·exact h value slice pins s σ H x y v u Q I rx ry q hs
 ·exact h' value slice pins s σ H x y v u Q I rx ry q hs
theorem Ia.or{id:String}{r r':V->List V->Hp->VK->Prop}(h:Ia X id r)(h':Ia X id r'):Ia X id (fun x xs H Q=>r x xs H Q\/r' x xs H Q):=by
 intro pins s σ H x xs v us Q I rx rs q
 rcases q with q | q
 ·exact h pins s σ H x xs v us Q I rx rs q
 ·exact h' pins s σ H x xs v us Q I rx rs q
theorem rN{r:R2}(hr:IxR X r)(ha:PE X a ta)(hb:PE X b tb)(hs:CU b):PE X (.Subscript a b pos) (N1 r ta tb):=by
 intro pins s σ H Q I h
 exact Subscript_ (Ld ha hb I h fun v u s2 x y H2 I2 rx ry q=>hr a b pins s2 σ H2 x y v u Q I2 rx ry q (hs _ _))
def Ot(K:PySem.W.Frag):R2:=fun x y H Q=>∃p xs i v,x=.ref p/\y=.int i/\wZ K H p xs/\LW xs i=some v/\Q v H
def OL(K:PySem.W.Frag):R2:=fun x y H Q=>∃p xs i v,x=.ref p/\y=.int i/\xy K H p xs/\LW xs i=some v/\Q v H
def OO:R2:=fun x y H Q=>∃z i c,x=.str z/\y=.int i/\z.length<=sizeLine/\LW z.cps.toList i=some c/\Q (.str ⟨#[c]⟩) H
theorem JW:IxR X (Ot X.K):=by
 intro value slice pins s σ H x y v u Q I rx ry h hs
 obtain⟨p,xs,i,z,rfl,rfl,hq,he,q⟩:=h
 cases rx
 obtain⟨t,rfl⟩:=ry
 obtain⟨its,r,pl,hz⟩:=I.list hq
 obtain⟨j,h1,h2,h3,h4,h5⟩:=C9 he
 obtain⟨w,ew,rw'⟩:=r.get h2
 have hl:=r.length
 have hn:=Ad
 have fin:EP X pins σ Q w s:=⟨z,H,I,rw',q⟩
 by_cases h0:0<=i
 ·have hj:i.toNat=j:=by
   rw[seqIndex_of h0 h5] at h1
   exact Option.some.inj h1
  exact item_listR pl.isList h0 (by omega) (by rw[hj];simpa using ew) fin hs
 ·have hj:(i+(its.toArray.size:Int)).toNat=j:=by
   rw[seqIndex_neg (by omega) h4] at h1
   rw[List.size_toArray,<- hl]
   exact Option.some.inj h1
  exact subscriptTail_builtinR (x:=w) pl.isList.typeIs slot_list_getitem.lookup
   (wpAny_getItem_list_neg (Q:=fun r s'=>r=w/\EP X pins σ Q r s') pl.isList (by omega) (by rw[List.size_toArray]<;>omega) (by omega) (by rw[hj];simpa using ew) ⟨rfl,fin⟩) hs
theorem L6:IxR X (OL X.K):=by
 intro value slice pins s σ H x y v u Q I rx ry h hs
 obtain⟨p,xs,i,z,rfl,rfl,hq,he,q⟩:=h
 cases rx
 obtain⟨t,rfl⟩:=ry
 obtain⟨its,r,pl,hz⟩:=I.tuple hq
 obtain⟨j,h1,h2,h3,h4,h5⟩:=C9 he
 obtain⟨w,ew,rw'⟩:=r.get h2
 have hl:=r.length
 have hn:=Ad
 have fin:EP X pins σ Q w s:=⟨z,H,I,rw',q⟩
 exact subscriptTail_builtinR (x:=w) pl.typeIs slot_tuple_getitem.lookup
  (getItem_tuple (j:=j) (Q:=fun r s'=>r=w/\EP X pins σ Q r s') pl (by omega) (by omega) (by rw[List.size_toArray,<- hl];exact h1) (by simpa using ew) ⟨rfl,fin⟩) hs
theorem La:IxR X OO:=by
 intro value slice pins s σ H x y v u Q I rx ry h hs
 obtain⟨z,i,c,rfl,rfl,hz,he,q⟩:=h
 obtain⟨t,rfl⟩:=rx
 obtain⟨t',rfl⟩:=ry
 obtain⟨j,h1,h2,h3,h4,h5⟩:=C9 he
 have hl:z.cps.toList.length=z.length:=by simp[Str.length]
 rw[hl] at h1 h4 h5
 have hn:=Ad
 exact tail_any (typeIs_str s z t) slot_str_getitem.lookup (getItem_str (c:=c) (by
  have e1:decide (i < -(2 ^ 63:Int))=false:=decide_eq_false (by omega)
  have e2:decide (i ≥ 2 ^ 63)=false:=decide_eq_false (by omega)
  rw[e1,e2,Bool.or_false]) (by rw[h1];simpa using h2) ⟨.str ⟨#[c]⟩,H,I.tok _,⟨_,rfl⟩,q⟩) hs
theorem Inv.lst{pins:List (Addr×Obj)}{σ:St}{H:Hp}{s:Shared}{p:Addr}{xs:List V}(I:Inv X pins σ H s)(h:H p=some (.lst xs)) :
  ∃(its:List Value) (n:Nat),p9 xs its/\s.heap.get? p=some {cls:=.type "list",data:=.seq its.toArray n}/\xs.length<=sizeLine:=by
 obtain⟨z,its,n,r,e⟩:=I.hok p _ h
 exact⟨its,n,r,e,z⟩
theorem C3(lo hi:Option Int)(n:Nat):(sliceBounds lo hi none n).1=((HT.sIx n 0 lo:Nat):Int)/\(sliceBounds lo hi none n).2.1=((HT.sIx n n hi:Nat):Int)/\(sliceBounds lo hi none n).2.2=1:=by
 refine⟨?_,?_,rfl⟩
 ·cases lo with
  | none=>simp[sliceBounds,HT.sIx]
  | some i =>
   simp only[sliceBounds,HT.sIx,Option.getD_none,show(1:Int) > 0 by decide,if_true]
   by_cases h:i<0
   ·simp only[h,if_true]<;>omega
   ·simp only[h,if_false]<;>omega
 ·cases hi with
  | none=>simp[sliceBounds,HT.sIx]
  | some i =>
   simp only[sliceBounds,HT.sIx,Option.getD_none,show(1:Int) > 0 by decide,if_true]
   by_cases h:i<0
   ·simp only[h,if_true]<;>omega
   ·simp only[h,if_false]<;>omega
theorem B5(its:List Value)(lo hi:Option Int):slicePick its.toArray lo hi none=((its.drop (HT.sIx its.length 0 lo)).take (HT.sIx its.length its.length hi - HT.sIx its.length 0 lo)).toArray:=by
 obtain⟨h1,h2,h3⟩:=C3 lo hi its.toArray.size
 unfold slicePick
 rw[h1,h2,h3]
 simp only[sliceRange_one,pick_run,List.size_toArray]<;>rfl
def O8(K:PySem.W.Frag):V->Option Int->Option Int->Hp->VK->Prop:=fun x lo hi H Q=>∃a xs,x=.ref a/\wZ K H a xs/\∀p,H p=none->Q (.ref p) (upd H p (.lst (AK xs lo hi)))
theorem Kb:J0 X (O8 X.K):=by
 intro pins s σ H x v vl vu lo hi sl Q I rx hs pl pu h
 obtain⟨a,xs,rfl,hx,q⟩:=h
 cases rx
 obtain⟨its,r,ht,hz⟩:=I.list hx
 have hlen:=r.length
 refine⟨"list",_,slot_list_getitem.lookup,ht.isList.typeIs,?_⟩
 refine wpAny_getItem_list_slice ht.isList hs pl pu .none (by simp) ?_ (by rw[List.size_toArray]<;>omega)
 rw[B5,<- hlen]
 refine⟨.ref s.heap.objs.size,_,I.laid (t':=s.toks) (o:=.lst (AK xs lo hi)) (fun b ob q=>Heap.get?_push_of_some _ q) (Nat.le_refl _) ?_,rfl,q _ (I.hok.fresh (Nat.le_refl _))⟩
 exact⟨Nat.le_trans (AE xs lo hi) hz,_,0,(r.drop (HT.sIx xs.length 0 lo)).take (HT.sIx xs.length xs.length hi - HT.sIx xs.length 0 lo),Heap.get?_push_size _ rfl⟩
def yU:V->Bool
 | .non=>true
 | .bl _=>true
 | .int _=>true
 | .str _=>true
 | _=>false
noncomputable def J3:V->V->Bool
 | .non,.non=>true
 | .bl a,.bl b=>a==b
 | .bl a,.int b=>(if a then 1 else 0)==b
 | .int a,.bl b=>a==(if b then 1 else 0)
 | .int a,.int b=>a==b
 | .str a,.str b=>a==b
 | _,_=>false
theorem L3{A:Around}{s:Shared}{y x:V}{u v:Value}(ry:RelV y u)(rx:RelV x v)(fy:yU y=true)(fx:yU x=true):SeqAt.EqAt A s u v (J3 y x):=by
 cases y with
 | non =>
  cases ry
  cases x with
  | non=>cases rx;exact SeqAt.EqAt.same _
  | bl b=>cases rx;exact SeqAt.EqAt.none_bool b
  | int b=>obtain⟨t,rfl⟩:=rx;exact SeqAt.EqAt.none_int b t
  | str b=>obtain⟨t,rfl⟩:=rx;exact SeqAt.EqAt.none_str b t
  | _=>exact absurd (show false=true from fx) Bool.false_ne_true
 | bl a =>
  cases ry
  cases x with
  | non=>cases rx;exact SeqAt.EqAt.bool_none a
  | bl b=>cases rx;exact SeqAt.EqAt.bool_bool a b
  | int b=>obtain⟨t,rfl⟩:=rx;exact SeqAt.EqAt.bool_int a b t
  | str b=>obtain⟨t,rfl⟩:=rx;exact SeqAt.EqAt.bool_str a b t
  | _=>exact absurd (show false=true from fx) Bool.false_ne_true
 | int a =>
  obtain⟨t',rfl⟩:=ry
  cases x with
  | non=>cases rx;exact SeqAt.EqAt.int_none a t'
  | bl b=>cases rx;exact SeqAt.EqAt.int_bool a t' b
  | int b=>obtain⟨t,rfl⟩:=rx;exact SeqAt.EqAt.int_int a t' b t
  | str b=>obtain⟨t,rfl⟩:=rx;exact SeqAt.EqAt.int_str a t' b t
  | _=>exact absurd (show false=true from fx) Bool.false_ne_true
 | str a =>
  obtain⟨t',rfl⟩:=ry
  cases x with
  | non=>cases rx;exact SeqAt.EqAt.str_none a t'
  | bl b=>cases rx;exact SeqAt.EqAt.str_bool a t' b
  | int b=>obtain⟨t,rfl⟩:=rx;exact SeqAt.EqAt.str_int a t' b t
  | str b=>obtain⟨t,rfl⟩:=rx;exact SeqAt.EqAt.str_str a t' b t
  | _=>exact absurd (show false=true from fx) Bool.false_ne_true
 | _=>exact absurd (show false=true from fy) Bool.false_ne_true
def Je(x:V)(u:Value):Bool:=match u with
 | .none=>J3 .non x
 | .bool b=>J3 (.bl b) x
 | .int i _=>J3 (.int i) x
 | .str z _=>J3 (.str z) x
 | _=>false
theorem Ii{x y:V}{u:Value}(r:RelV y u)(f:yU y=true):Je x u=J3 y x:=by
 cases y with
 | non=>cases r;rfl
 | bl b=>cases r;rfl
 | int i=>obtain⟨t,rfl⟩:=r;rfl
 | str z=>obtain⟨t,rfl⟩:=r;rfl
 | _=>exact absurd (show false=true from f) Bool.false_ne_true
theorem Dz{x:V}:∀{xs:List V} {us:List Value},p9 xs us->xs.all yU=true->us.any (Je x)=xs.any fun y=>J3 y x
 | _,_,.nil,_=>rfl
 | y::xs,u::us,.cons r t,f=>by
  rw[List.all_cons,Bool.and_eq_true] at f
  rw[List.any_cons,List.any_cons,Ii r f.1,Dz t f.2]
theorem iV{A:Around}{s:Shared}{x:V}{v:Value}(rx:RelV x v)(fx:yU x=true):∀{xs:List V} {us:List Value},p9 xs us->xs.all yU=true->∀u∈us,SeqAt.EqAt A s u v (Je x u)
 | _,_,.nil,_=>fun u hu=>by cases hu
 | y::xs,u::us,.cons r t,f=>fun u' hu=>by
  rw[List.all_cons,Bool.and_eq_true] at f
  rcases List.mem_cons.mp hu with rfl | hu
  ·rw[Ii r f.1];exact L3 r rx f.1 fx
  ·exact iV rx fx t f.2 u' hu
def N0(x:V)(xs:List V):Bool:=xs.any fun y=>J3 y x
def P_(K:PySem.W.Frag)(neg:Bool):R2:=fun x y H Q=>∃p xs,y=.ref p/\(wZ K H p xs\/xy K H p xs)/\yU x=true/\xs.all yU=true/\Q (.bl (if neg then !N0 x xs else N0 x xs)) H
theorem GR:OpR X (compareOp .In) (P_ X.K false):=by
 intro pins s σ H x y v u Q I rx ry h
 obtain⟨p,xs,rfl,hq,fx,fs,q⟩:=h
 cases ry
 rcases hq with hq | hq
 ·obtain⟨its,r,pl,hz⟩:=I.list hq
  refine SeqAt.in_listAt (Je x) pl.isList (fun w hw=>iV rx fx r fs w (by simpa using hw)) ⟨.bl _,H,I,rfl,?_⟩
  rw[show its.toArray.any (Je x)=its.any (Je x) by simp,Dz r fs]
  exact q
 ·obtain⟨its,r,pl,hz⟩:=I.tuple hq
  refine SeqAt.in_tupleAt (Je x) pl (fun w hw=>iV rx fx r fs w (by simpa using hw)) ⟨.bl _,H,I,rfl,?_⟩
  rw[show its.toArray.any (Je x)=its.any (Je x) by simp,Dz r fs]
  exact q
theorem C0:CallR X (.builtin "len") (fun xs H Q=>∃p ys,xs=[.ref p]/\(wZ X.K H p ys\/xy X.K H p ys)/\Q (.int ys.length) H):=by
 intro pins s σ H xs us Q I r h
 obtain⟨p,ys,rfl,hq,q⟩:=h
 obtain⟨u,rfl,rx⟩:=vals1 r
 cases rx
 have hn:=Ad
 rcases hq with hq | hq
 ·obtain⟨its,r',pl,hz⟩:=I.list hq
  have hlen:=r'.length
  exact Calls.call_len_list pl.isList (by simp only[List.size_toArray]<;>omega) ⟨.int ys.length,H,I.tok _,⟨s.toks+1,by rw[List.size_toArray,hlen]⟩,q⟩
 ·obtain⟨its,r',pl,hz⟩:=I.tuple hq
  have hlen:=r'.length
  exact len_tuple pl (by simp only[List.size_toArray]<;>omega) ⟨.int ys.length,H,I.tok _,⟨s.toks+1,by rw[List.size_toArray,hlen]⟩,q⟩
theorem DA:CallR X (.builtin "len") (fun xs H Q=>∃z,xs=[.str z]/\z.length<=sizeLine/\Q (.int z.length) H):=by
 intro pins s σ H xs us Q I r h
 obtain⟨z,rfl,hz,q⟩:=h
 obtain⟨u,rfl,t,rfl⟩:=vals1 r
 have hn:=Ad
 exact len_str (by omega) ⟨.int z.length,H,I.tok _,⟨_,rfl⟩,q⟩
theorem CallR.or{f:Value}{r r':List V->Hp->VK->Prop}(h:CallR X f r)(h':CallR X f r'):CallR X f (fun xs H Q=>r xs H Q\/r' xs H Q):=by
 intro pins s σ H xs us Q I rs q
 rcases q with q | q
 ·exact h pins s σ H xs us Q I rs q
 ·exact h' pins s σ H xs us Q I rs q
theorem yS:CallR X (.type "tuple") (fun xs H Q=>∃p ys,xs=[.ref p]/\((wZ X.K H p ys/\∀l,H l=none->Q (.ref l) (upd H l (.tup ys)))\/(xy X.K H p ys/\Q (.ref p) H))):=by
 intro pins s σ H xs us Q I r h
 obtain⟨p,ys,rfl,h⟩:=h
 obtain⟨u,rfl,rx⟩:=vals1 r
 cases rx
 rcases h with ⟨hq,q⟩ | ⟨hq,q⟩
 ·obtain⟨its,r',pl,hz⟩:=I.list hq
  have hlen:=r'.length
  refine call_tuple_list pl.isList (fun h' kp=>?_) (by simp only[List.size_toArray]<;>omega)
  have I1:Inv X pins σ H {s with heap:=h' }:=I.kept (t':=s.toks) kp
  have I2:Inv X pins σ (upd H h'.objs.size (.tup ys)) {s with heap:=h'.push {cls:=.type "tuple",data:=.seq its.toArray} }:=
   I1.laid (t':=s.toks) (fun b o e=>Heap.get?_push_of_some _ e) (Nat.le_refl _) (show u5 X.prog X.w _ _ _ (.tup ys) from⟨hz,its,r',wF.new _ _⟩)
  exact⟨.ref h'.objs.size,_,I2,rfl,q _ (I1.hok.fresh (Nat.le_refl _))⟩
 ·obtain⟨its,r',pl,hz⟩:=I.tuple hq
  exact call_tuple_same pl ⟨.ref p,H,I,rfl,q⟩
def Pd(K:PySem.W.Frag)(T:String)(x:V)(H:Hp):Prop:=match x with
 | .str _=>T = "str"
 | .int _=>T = "int"
 | .ref p=>(T = "list" /\ ∃xs,wZ K H p xs)\/(T = "tuple" /\ ∃o,K.lookup p=some o/\o.cls=.type "tuple" /\ o.dict=none) \/
   (T = "dict" /\ ((∃kvs,H p=some (.dK kvs))\/∃kvs,H p=some (.dT kvs)))\/(T = "set" /\ ∃S n,H p=some (.set S n))
 | _=>False
theorem E5{pins:List (Addr×Obj)}{σ:St}{H:Hp}{s:Shared}{T:String}{x:V}{v:Value}(I:Inv X pins σ H s)(r:RelV x v)(ty:Pd X.K T x H) :
  s.TypeIs v T/\∀a,v=.ref a->∃ob,s.heap.get? a=some ob/\ob.dict=none:=by
 cases x with
 | str z =>
  obtain⟨t,rfl⟩:=r
  cases (show T = "str" from ty)
  exact⟨typeIs_str s z t,fun _ e=>nomatch e⟩
 | int i =>
  obtain⟨t,rfl⟩:=r
  cases (show T = "int" from ty)
  exact⟨typeIs_int s i t,fun _ e=>nomatch e⟩
 | ref p =>
  cases r
  rcases ty with ⟨rfl,xs,hq⟩ | ⟨rfl,o,hk,hc,hd⟩ | ⟨rfl,hk⟩ | ⟨rfl,S,n,hk⟩
  ·obtain⟨its,_,pl,_⟩:=I.list hq
   refine⟨pl.isList.typeIs,fun a e=>?_⟩
   cases e
   obtain⟨o,n,e,c,hd,_⟩:=pl
   exact⟨o,e,hd⟩
  ·refine⟨⟨o,I.kIn p o hk,hc⟩,fun a e=>?_⟩
   cases e
   exact⟨o,I.kIn _ o hk,hd⟩
  ·have z:∃o,s.heap.get? p=some o/\o.ExactDict:=by
    rcases hk with ⟨kvs,hk⟩ | ⟨kvs,hk⟩
    ·obtain⟨_,_,_,_,o,_,_,e,ex,_⟩:=I.hok p _ hk
     exact⟨o,e,ex⟩
    ·obtain⟨_,_,_,_,o,_,_,e,ex,_⟩:=I.hok p _ hk
     exact⟨o,e,ex⟩
   obtain⟨o,e,ex⟩:=z
   refine⟨⟨o,e,ex.1⟩,fun a e2=>?_⟩
   cases e2
   exact⟨o,e,ex.2.1⟩
  ·obtain⟨o,_,_,_,e,ex,_⟩:=I.hok p _ hk
   refine⟨⟨o,e,ex.1⟩,fun a e2=>?_⟩
   cases e2
   exact⟨o,e,ex.2.1⟩
 | _=>exact False.elim ty
def OM(K:PySem.W.Frag)(T:String)(r:V->List V->Hp->VK->Prop)(to:TE):TE:=fun σ H Q=>to σ H fun x H1=>Pd K T x H1/\r x [] H1 Q
def Qf(K:PySem.W.Frag)(T:String)(r:V->List V->Hp->VK->Prop)(to:TE)(t:TA):TE:=fun σ H Q=>to σ H fun x H1=>Pd K T x H1/\t σ H1 fun xs H2=>r x xs H2 Q
variable{o e:Expr}{es:List Expr}{to:TE}{t:TA}{name:Str}{apos cpos:Pos}{T id:String}{r:V->List V->Hp->VK->Prop}
theorem qx(pa:PlainAttrs T)(slot:Slot T name id)(hty:typeOf (.builtin id)=pure (.type "method_descriptor"))(hm:Ia X id r)(ho:PE X o to)
  (hbase:attributeBase o name X.env (eval o X.env)=eval o X.env:=by rfl) (hline:(apos.endLine==cpos.line)=true:=by rfl):PE X (.Call (.Attribute o name apos) [] [] cpos) (OM X.K T r to):=by
 intro pins s σ H Q I h
 refine wpAny_Call_method0_late hbase hline (ug (ho pins s σ H _ I h) fun v s1 ⟨x,H1,I1,r1,ty,q1⟩=>?_)
 obtain⟨h1,h2⟩:=E5 I1 r1 ty
 exact⟨T,id,pa,slot,hty,h1,h2,Calls.callWith_builtin rfl (PySem.evalArgs_none (hm pins s1 σ H1 x [] v [] Q I1 r1 .nil q1))⟩
theorem rM (pa:PlainAttrs T) (slot:Slot T name id) (hty:typeOf (.builtin id)=pure (.type "method_descriptor")) (hm:Ia X id r) (ho:PE X o to) (ha:PA X (e::es) t)
    (hbase:attributeBase o name X.env (eval o X.env)=eval o X.env:=by rfl)
    (hfew:((backTo cpos (starEach (e::es) X.env)).all (fun x=>!x.1)&&(backToKw cpos (keywordEach [] X.env)).all (fun x=>x.1.isSome)
      && decide ((e::es).length+([]:List Keyword).length+(if ([]:List Keyword).isEmpty then 0 else 1)<30))=true:=by rfl)
    (hline:(apos.endLine==cpos.line)=true:=by rfl) (hs:starEach (e::es) X.env=(false,eval e X.env)::starEach es X.env:=by rfl) (hplain:(backTo cpos (starEach es X.env)).any (·.1)=false:=by rfl) :
    PE X (.Call (.Attribute o name apos) (e::es) [] cpos) (Qf X.K T r to t):=by
  intro pins s σ H Q I h
  refine wpAny_Call_method_late hbase hfew hline rfl (ug (ho pins s σ H _ I h) fun v s1 ⟨x,H1,I1,r1,ty,q1⟩=>?_)
  obtain⟨h1,h2⟩:=E5 I1 r1 ty
  refine⟨T,id,pa,slot,hty,h1,h2,?_⟩
  have hA:=ha cpos pins s1 σ H1 _ I1 q1
  rw[hs] at hA ⊢
  refine Calls.callWith_builtin (by show(false||(backTo cpos (starEach es X.env)).any (·.1))=false;rw[hplain]<;>rfl) (Calls.evalArgs_plain ?_)
  exact ug hA fun us s2 ⟨vs,H2,I2,r2,q2⟩=>hm pins s2 σ H2 x vs v us Q I2 r1 r2 q2
/- xs.append(e),list.index on a module's tuple .. are Ia facts of 06m -/
end
end L2
namespace L2
open PySem PySem.Spec PyProof.Rows
def OW(X:Cx)(id:String)(r:V->List V->Hp->VK->Prop):Prop:=
 ∀(pins:List (Addr×Obj)) (s:Shared) (σ:St) (H:Hp) (x:V) (xs:List V) (v:Value) (us:List Value) (Q:VK),Inv X pins σ H s->RelV x v->p9 xs us->r x xs H Q ->
  wpAny (model X.prog X.w) X.A (call (.builtin id) (v::us)) (EP X pins σ Q) X.xe s
theorem p9.one:∀{x:V} {us:List Value},p9 [x] us->∃u,us=[u]/\RelV x u
 | _,_,h=>by cases h with | cons r t=>cases t;exact⟨_,rfl,r⟩
theorem p9.two:∀{x y:V} {us:List Value},p9 [x,y] us->∃u v,us=[u,v]/\RelV x u/\RelV y v
 | _,_,_,h=>by cases h with | cons r t=>cases t with | cons q t=>cases t;exact⟨_,_,rfl,r,q⟩
theorem p9.zero:∀{us:List Value},p9 [] us->us=[]
 | _,.nil=>rfl
theorem p9.eraseIdx:∀{xs:List V} {us:List Value} (i:Nat),p9 xs us->p9 (xs.eraseIdx i) (us.eraseIdx i)
 | _,_,_,.nil=>.nil
 | _,_,0,.cons _ t=>t
 | _,_,i+1,.cons r t=>.cons r (p9.eraseIdx i t)
theorem p9.reverse{xs:List V}{us:List Value}(h:p9 xs us):p9 xs.reverse us.reverse:=by
 induction h with
 | nil=>exact .nil
 | cons r t ih=>rw[List.reverse_cons,List.reverse_cons];exact p9.append ih (.cons r .nil)
section
variable{X:Cx}{pins:List (Addr×Obj)}{σ:St}{H:Hp}{s:Shared}{l b:Addr}{xs ys zs:List V}
theorem Inv.lset{its its':List Value}{n:Nat}{f:Array Value->Array Value}{t':Nat}(I:Inv X pins σ H s)(hH:H l=some (.lst xs))
  (e:s.heap.get? l=some {cls:=.type "list",data:=.seq its.toArray n}) (hf:f its.toArray=its'.toArray) (hv:p9 ys its') (hz:ys.length<=sizeLine) :
  Inv X pins σ (upd H l (.lst ys)) {s with heap:=s.heap.update l (Obj.mapSeq f),toks:=t' }:=by
 have q:=PySem.IsL.update e f
 rw[hf] at q
 refine I.write (x:=l) (e:=l) (by rw[hH];exact trivial) (.inl rfl) (fun b' u hb hu=>(Heap.get?_update_other s.heap (Obj.mapSeq f) (Ne.symm hb)).trans hu) ⟨_,q⟩ ?_
 exact⟨hz,its',_,hv,q⟩
theorem Inv.lnew{its:List Value}{t':Nat}(I:Inv X pins σ H s)(hv:p9 ys its)(hz:ys.length<=sizeLine) :
  Inv X pins σ (upd H s.heap.objs.size (.lst ys)) {s with heap:=s.heap.push {cls:=.type "list",data:=.seq its.toArray},toks:=t' }:=
 I.laid (fun _ _ q=>Heap.get?_push_of_some _ q) (Nat.le_refl _) ⟨hz,its,0,hv,Heap.get?_push_size _ rfl⟩
theorem Inv.fresh(I:Inv X pins σ H s):H s.heap.objs.size=none:=I.hok.fresh (Nat.le_refl _)
theorem Inv.lstM(I:Inv X pins σ H s)(hH:H l=some (.lst xs)):xs.length<=sizeLine/\∃(its:List Value) (n:Nat),p9 xs its/\xs.length=its.length/\s.heap.get? l=some {cls:=.type "list",data:=.seq its.toArray n}:=by
 obtain⟨z,its,n,r,e⟩:=I.hok l _ hH
 exact⟨z,its,n,r,r.length,e⟩
theorem Ik{n:Nat}(h:n<=sizeLine):Builtin.List.listTooLong n=false:=by
 unfold Builtin.List.listTooLong
 exact decide_eq_false (by omega)
end
section
variable{X:Cx}
def J5:V->List V->Hp->VK->Prop:=fun x vs H Q=>∃l xs y,x=.ref l/\vs=[y]/\H l=some (.lst xs)/\xs.length<sizeLine/\Q .non (upd H l (.lst (xs++[y])))
theorem jK:OW X "list.append" J5:=by
 intro pins s σ H x vs v us Q I rx rv h
 obtain⟨l,xs,y,rfl,rfl,hH,hz,q⟩:=h
 cases rx
 obtain⟨u,rfl,ru⟩:=rv.one
 obtain⟨z,its,n,r,hl,e⟩:=I.lstM hH
 refine call_meets F.slot_list_append ⟨_,e,rfl⟩ F.entry_list_append (F.args_list_append_2 _ _) (PySem.list_append l its.toArray n u (by rw[List.size_toArray];omega)) ⟨e,?_⟩
 refine⟨.non,_,I.lset (its':=its++[u]) hH e (by simp) (r.append (.cons ru .nil)) ?_,rfl,q⟩
 rw[List.length_append,List.length_singleton]
 omega
def Kf:V->List V->Hp->VK->Prop:=fun x vs H Q=>∃l b xs zs,x=.ref l/\vs=[.ref b]/\H l=some (.lst xs)/\H b=some (.lst zs)/\xs.length+zs.length<=sizeLine/\Q .non (upd H l (.lst (xs++zs)))
theorem oj:OW X "list.extend" Kf:=by
 intro pins s σ H x vs v us Q I rx rv h
 obtain⟨l,b,xs,zs,rfl,rfl,hH,hB,hz,q⟩:=h
 cases rx
 obtain⟨u,rfl,ru⟩:=rv.one
 cases ru
 obtain⟨z,its,n,r,hl,e⟩:=I.lstM hH
 obtain⟨z2,its2,n2,r2,hl2,e2⟩:=I.lstM hB
 have hsz:its.toArray.size+its2.toArray.size<=sizeLine:=by rw[List.size_toArray,List.size_toArray];omega
 have hlong:¬ (!its.toArray.isEmpty&&Builtin.List.listTooLong (its.toArray.size+its2.toArray.size))=true:=by
  rw[Ik hsz,Bool.and_false]
  exact Bool.false_ne_true
 refine call_meets F.slot_list_extend ⟨_,e,rfl⟩ F.entry_list_extend (F.args_list_extend_2 _ _)
  (AutoSeq1.list_extend_list_list_0 l its.toArray n b its2.toArray n2 hlong (by rw[List.size_toArray];omega) (by omega)) ⟨e,e2,?_⟩
 refine⟨.non,_,I.lset (its':=its++its2) hH e (by simp) (r.append r2) ?_,rfl,q⟩
 rw[List.length_append]
 omega
def Om:R2:=fun x y H Q=>∃l b xs zs,x=.ref l/\y=.ref b/\H l=some (.lst xs)/\H b=some (.lst zs)/\xs.length+zs.length<=sizeLine/\∀p,H p=none->Q (.ref p) (upd H p (.lst (xs++zs)))
theorem Ll:OpR X (binaryOp .Add) Om:=by
 intro pins s σ H x y v u Q I rx ry h
 obtain⟨l,b,xs,zs,rfl,rfl,hH,hB,hz,q⟩:=h
 cases rx
 cases ry
 obtain⟨z,its,n,r,hl,e⟩:=I.lstM hH
 obtain⟨z2,its2,n2,r2,hl2,e2⟩:=I.lstM hB
 refine PySem.P.add_list e e2 ?_ (by rw[List.size_toArray,List.size_toArray];omega)
 have ea:its.toArray++its2.toArray=(its++its2).toArray:=by simp
 rw[ea]
 exact⟨.ref _,_,I.lnew (t':=s.toks) (r.append r2) (by rw[List.length_append];omega),rfl,q _ I.fresh⟩
end
section
variable{prog:Program}{w:World}{A:Around}{E:Value->Shared->Prop}{s:Shared}
set_option maxRecDepth 100000 in
end
section
variable{X:Cx}
end
end L2
namespace Att
open PySem PySem.W PySem.Calls PyProof.Rows
theorem ig{P:Params}{h:Heap}:∀(ns:List Int) (vs:List Value),WellAll P h vs (ns.map WData.int)->IntsAre vs ns:=by
 intro ns
 induction ns with
 | nil =>
  intro vs w
  rw[List.map_nil] at w
  cases w
  exact .nil
 | cons n ns ih =>
  intro vs w
  rw[List.map_cons] at w
  cases w with
  | cons a b =>
   cases a
   exact .cons _ _ (ih _ b)
theorem Gy{l:OpenLaw}{n:Nat}(hn:l.most=some n){P:Params}{h:Heap}{args:List WData}{vals:List Value}
  (hpre:l.row.toRowW.claim.pre args=true) (hwl:WellAll P h vals args) :
  ∃a vs ns,vals=[Value.ref a]/\args=[WData.list (ns.map WData.int)]/\h.get? a=some {cls:=.type "list",data:=.seq vs.toArray}/\IntsAre vs ns/\ns.length<=n:=by
 have hsh:WShape.hasAll [] args [.list .int]=true:=(pre_splitW hpre).1
 have hc:l.pre.holds [] {args:=args}=true:=(pre_splitW hpre).2
 obtain⟨d,r,rfl,h1,h2⟩:=hasAllW_cons hsh
 obtain rfl:=hasAllW_nil h2
 obtain⟨xs,rfl,h3⟩:=hasW_list h1
 obtain⟨ns,rfl⟩:=items_int h3
 have hlen:ns.length<=n:=by
  unfold OpenLaw.pre at hc
  have h4:(WTm.not (.lt (.lit (.int (n:Int))) (.len (.arg 0)))).holds [] {args:=[.list (ns.map .int)]}=true:=by
   have h4:=(holds_andW hc).1
   rw[hn] at h4
   exact h4
  have h5:=condW_of h4 (w_not (w_lt w_lit (w_len_list (w_arg rfl))))
  rw[List.length_map] at h5
  refine Nat.le_of_not_lt fun q=>?_
  have q':(n:Int)<((ns.length:Nat):Int):=by omega
  first
   | (rw[decide_eq_true q'] at h5;exact absurd h5 (by decide))
   | (simp at h5;omega)
 cases hwl with
 | cons w1 w2 =>
  cases w2
  cases w1 with
  | list ho hall=>exact⟨_,_,ns,rfl,rfl,ho,ig ns _ hall,hlen⟩
theorem Gv(l:OpenLaw)(args:List WData):l.row.toRowW.claim.post args (.bool true) args=true:=
 postW_of (r:=l.row.toRowW) (X:=(true==true))
  (show WShape.has [] (.bool true) .bool=true by first | rfl | decide | simp[WShape.has,WShape.arms,WShape.armsAll])
  (show(WTm.eq .res (.lit (.bool true))).value [] {args:=args,res:=some (.bool true),after:=args}=some (.bool (true==true)) from w_eq_bool (w_res rfl) w_lit) rfl
theorem attach_call {l:OpenLaw} {n:Nat} {q:Program} {loose:List Str} {XP:(Str->Option Value)->Heap->Prop} {YP:World->Heap->Prop} {d:DefRec}
    (hn:l.most=some n) (hdf:d.params.defaults=[])
    (call:∀(w:World) (s₀ s₁:Shared) (mg mb:Str->Option Value) (fa:Addr) (o:Obj) (pm cd doc:Value) (a:Addr) (vs:List Value) (ns:List Int),
      Ground q loose [] XP w s₀ mg mb s₁.heap->YP w s₁.heap ->
      s₁.heap.get? fa=some o->o.data=.func (docDef d.name d.params d.body d.scope pm cd doc)->s₁.heap.CodeRec cd d.name->mg d.name=some (.ref fa) ->
      s₁.heap.get? a=some {cls:=.type "list",data:=.seq vs.toArray}->IntsAre vs ns->ns.length<=n->s₁.gens=#[] ->
      codeAny (model l.prog w) callerA (.call (.ref fa) ⟨[.ref a],[]⟩) (fun r s'=>r=.ok (.ret (.bool true))/\OldK s₁.heap s'.heap/\s'.os=s₁.os/\AllBare s'.gens) s₁) :
    WalkO q loose XP YP l.row.toRowW d [] (fun f vs=>PySem.call f vs):=by
  intro w s₀ s₁ mg mb G Y fa o pm cd doc dV kV ho hd hcd hD hmg hg args vals as hpre hlay hrd hwl hlo
  obtain rfl:dV=.none:=Dflts.none hD hdf
  obtain rfl:kV=.none:=Dflts.noKw hD
  obtain⟨a,vs,ns,rfl,rfl,hobj,hints,hlen⟩:=Gy hn hpre hwl
  refine enter_call (codeAny_mono (call w s₀ s₁ mg mb fa o pm cd doc a vs ns G Y ho (fd_plain hd) hcd hmg hobj hints hlen hg) fun r s' hq=>?_)
  obtain⟨rfl,h2,h3,h4⟩:=hq
  exact⟨.inl ⟨.bool true,.bool true,[],rfl,fun _=>rfl,.bool true,Gv l _,fun _=>⟨List.Pairwise.nil,fun _ hm=>(nomatch hm)⟩⟩,h2,h3,h4⟩
section
variable{prog:Program}{w:World}{A:Around}{E:Value->Shared->Prop}{s:Shared}{K:Frag}
def ledger(h:Heap)(L d:Addr):List (Addr×Obj):=(List.range h.objs.size).filterMap fun a=>if a=L\/a=d then none else (h.get? a).map fun o=>(a,o)
end
end Att
namespace L2
open PySem PySem.Spec PyProof.Rows
theorem dG:∀{vs:List Value} {ns:List Int},IntsAre vs ns->p9 (ns.map V.int) vs
 | _,_,.nil=>.nil
 | _,_,.cons n t h=>.cons ⟨t,rfl⟩ (dG h)
def Lz(H:Hp):Prop:=∀b,H b=none\/∃o xs,H b=some (.frz o (.lst xs))
theorem IG{P:Program}{w:World}{K:PySem.W.Frag}{mg mb:Str->Option Value}{CX:G6}{k:Nat}{fa a:Addr}{fd:FuncData}{x:Str}{sp:Sp}{s₁:Shared}{vs:List Value}{ns:List Int}
  (KX:K.In s₁.heap) (hns:s₁.heap.Ns mainGlobals mg) (hb:s₁.heap.Ns builtinsNs mb) (hbb:∀x:Str,x ≠ "__name__" -> mb x=bootBuiltins x) (hlim:s₁.heap.NoLimit) (hg:s₁.gens=#[])
  (ha:s₁.heap.get? a=some {cls:=.type "list",data:=.seq vs.toArray}) (hi:IntsAre vs ns) (hl:ns.length<=sizeLine) (hr:uB k callerA)
  (F:∀base:Heap,K.In base->base.Ns mainGlobals mg->n5 P w K mg base CX k fa fd [x] sp) (hbind:∀(s:Shared) (u:Value),BindsTo s fd ⟨[u],[]⟩ [(x,u)])
  (hsp:∀H:Hp,Lz H->wZ K H a (ns.map V.int)->sp [.ref a] H (fun v _=>v=.bl true) fun _ _ _=>False)
  (hCX:∀H e s',CX [] H s₁ (fun _ _ _=>False) e s'->False) :
  codeAny (model P w) callerA (.call (.ref fa) ⟨[.ref a],[]⟩) (fun r s'=>r=.ok (.ret (.bool true))/\OldK s₁.heap s'.heap/\s'.os=s₁.os/\AllBare s'.gens) s₁:=by
 have rv:=dG hi
 have lenV:=hi.length
 have core:∀H:Hp,Lz H->wZ K H a (ns.map V.int)->zu P w H s₁.heap->(∀b,H b≠none->b=a)->(H a≠none->K.lookup a=none) ->
   codeAny (model P w) callerA (.call (.ref fa) ⟨[.ref a],[]⟩) (fun r s'=>r=.ok (.ret (.bool true))/\OldK s₁.heap s'.heap/\s'.os=s₁.os/\AllBare s'.gens) s₁:=by
  intro H hO hS hok hA hK
  have base_of:∀{b:Addr} {o:Obj},s₁.heap.get? b=some o->H b=none->(Dy s₁.heap H).get? b=some o:=fun e n=>IM e n
  have noA:∀{b:Addr} {o:Obj} {es:Array DictEntry} {ep:Nat},s₁.heap.get? b=some o->o.data=.dict es ep->H b=none:=fun {b o es ep} e d=>by
   cases q:H b with
   | none=>rfl
   | some u =>
    have e':b=a:=hA b (by rw[q];simp)
    subst e'
    rw[ha] at e;cases e
    have d':Data.seq vs.toArray _=Data.dict es ep:=d
    cases d'
  have nsK:∀{b:Addr} {m:Str->Option Value},s₁.heap.Ns b m->(Dy s₁.heap H).Ns b m:=fun {b m} ⟨o,es,ep,e,d,r⟩=>⟨o,es,ep,base_of e (noA e d),d,r⟩
  have hKb:K.In (Dy s₁.heap H):=fun b o e=>base_of (KX b o e) (by
   cases q:H b with
   | none=>rfl
   | some u =>
    have e':b=a:=hA b (by rw[q];simp)
    subst e'
    rw[hK (by rw[q];simp)] at e;cases e)
  have hM:Mod K mg (Dy s₁.heap H):=⟨hKb,nsK hns,⟨mb,nsK hb,hbb⟩,let ⟨mc,h1,h2⟩:=hlim;⟨mc,nsK h1,h2⟩⟩
  have e0:BY P w K mg (Dy s₁.heap H) callerA [] s₁ H:=⟨rfl,hM,fun b o e=>Jy e,Nat.le_of_eq (Gr _ _),trivial,fun b hb=>absurd (show b∈([]:List Addr) from hb) (by simp),hok,.of_eq hg⟩
  refine codeAny_mono ((F _ hKb (nsK hns)).run callerA [] s₁ H ⟨[.ref a],[]⟩ [.ref a] [.ref a] _ _ hr e0 (hbind s₁ (.ref a)) (.cons rfl .nil) (hsp H hO hS)) fun r s' h=>?_
  cases r with
  | error e=>exact(hCX H e s' h).elim
  | ok fl =>
   cases fl with
   | next=>exact False.elim h
   | brk=>exact False.elim h
   | cont=>exact False.elim h
   | ret u =>
    obtain⟨v,H',os,bare,un,hok',r',q⟩:=h
    have q':v=.bl true:=q
    subst q'
    obtain rfl:u=Value.bool true:=r'
    refine⟨rfl,OldK.of_keep fun b o e=>?_,os,bare⟩
    cases q:H b with
    | none=>exact un.keep b o e q (by intro z;exact absurd (show b∈([]:List Addr) from z) (by simp)) (by simp)
    | some u =>
     rcases hO b with z | ⟨ob,xs,z⟩
     ·rw[q] at z;cases z
     ·have z2:=un.frzs b ob _ (fun y q=>by cases q) z
      obtain⟨e1,_⟩:=hok b _ z
      obtain⟨e2,_⟩:=hok' b _ z2
      rw[e] at e1;cases e1
      exact e2
 cases hk:K.lookup a with
 | some o =>
  have e:=KX a o hk
  rw[ha] at e
  cases e
  refine core (fun _=>none) (fun _=>.inl rfl) (.inr ⟨_,vs.toArray,_,hk,rfl,rfl,rfl,by rw[List.size_toArray,lenV];exact hl,by simpa using rv⟩) (fun b u z=>by have z':(none:Option HO)=some u:=z;cases z') (fun b z=>absurd rfl z) fun z=>absurd rfl z
 | none =>
  refine core (fun b=>if b=a then some (.frz {cls:=.type "list",data:=.seq vs.toArray} (.lst (ns.map V.int))) else none) (fun b=>?_) (.inl (.inr ⟨{cls:=.type "list",data:=.seq vs.toArray},if_pos rfl⟩)) (fun b u z=>?_) (fun b z=>?_) fun _=>hk
  ·by_cases hb:b=a
   ·exact .inr ⟨_,_,if_pos hb⟩
   ·exact .inl (if_neg hb)
  ·by_cases hb:b=a
   ·have z':=(if_pos hb).symm.trans z
    cases z'
    subst hb
    exact⟨ha,by rw[List.length_map];exact hl,vs,_,rv,ha⟩
   ·have z':=(if_neg hb).symm.trans z
    cases z'
  ·by_cases hb:b=a
   ·exact hb
   ·exact absurd (if_neg hb) z
end L2
namespace L2
open PySem PySem.Spec PyProof.Rows
abbrev KOf{K:PySem.W.Frag}{h:Heap}(_:K.In h):PySem.W.Frag:=K
theorem walk_of {l:PySem.W.OpenLaw} {n k:Nat} {q:Program} {loose:List Str} {XP:(Str->Option Value)->Heap->Prop} {YP:World->Heap->Prop} {d:DefRec} {K:Params->PySem.W.Frag} {CX:World->G6} {sp:World->Sp} {x:Str}
    (hn:l.most=some n) (hn2:n<=sizeLine) (hdf:d.params.defaults=[]) (hr:uB k callerA)
    (hY:∀(w:World) (h:Heap),YP w h->(K w.params).In h)
    (F:∀(w:World) (mg:Str->Option Value) (fa:Addr) (h:Heap),(K w.params).In h->h.Ns mainGlobals mg->mg d.name=some (.ref fa) ->
      ∃fd:FuncData,(∀(s:Shared) (u:Value),BindsTo s fd ⟨[u],[]⟩ [(x,u)]) /\
        ∀base:Heap,(K w.params).In base->base.Ns mainGlobals mg->n5 l.prog w (K w.params) mg base (CX w) k fa fd [x] (sp w))
    (hsp:∀(w:World) (H:Hp) (a:Addr) (ns:List Int),ns.length<=n->Lz H->wZ (K w.params) H a (ns.map V.int)->sp w [.ref a] H (fun v _=>v=.bl true) fun _ _ _=>False)
    (hCX:∀(w:World) (H:Hp) (s:Shared) (e:Value) (s':Shared),CX w [] H s (fun _ _ _=>False) e s'->False) :
    PySem.W.WalkO q loose XP YP l.row.toRowW d [] (fun f vs=>PySem.call f vs):=by
  refine Att.attach_call hn hdf fun w s₀ s₁ mg mb fa o pm cd doc a vs ns G Y ho hd hcd hmg hobj hints hlen hg=>?_
  have KX:=hY w _ Y
  obtain⟨fd,hb,hF⟩:=F w mg fa _ KX G.T.g hmg
  exact IG KX G.T.g G.T.b G.T.builtins G.T.nolimit hg hobj hints (Nat.le_trans hlen hn2) hr hF hb (fun H hO hS=>hsp w H a ns hlen hO hS) fun H e s'=>hCX w H s₁ e s'
end L2
/- THE LAST THEOREM (shape;LID,My.* are yours):
  My.Adr: a structure of the addresses that your layer names (classes,functions);My.Txt K t: a structure (Prop) of the equations over K;
  My.txt_mk:{K} {implicit addresses ..} (e1:nsIn K mainGlobals "law" = some (some (.ref f))) (e2:K.lookup f=some ⟨oc,od,.func (fnOf "law" "law" params body scope dV kV doc pm an cdv ct),sl⟩) (e3:codeIn K cdv "law" = true) ..:∃t,My.Txt K t
set_option maxRecDepth 100000 in
set_option maxHeartbeats 0 in
theorem PySem.Challenge.cw_LID_holds : PySem.Challenge.rw_LID.Holds := by
 w_on;o_law;k_head;(case hw=>w_witness2)
 k_fill
 refine L2.walk_of (l:=PySem.Challenge.rw_LID) (n:=63) (k:=40) (x:="script") (CX:=fun w=>..) (sp:=fun _=>My.sp_law) rfl (by decide) rfl ⟨rfl,by decide,by decide⟩ (fun w h Y=>PySem.W.kIn_of Y) ?F ?S ?C
 case F =>
  intro w mg fa h KX G hmg
  have T:∃t,My.Txt (L2.KOf KX) t:=by
   dsimp only [L2.KOf]                          -- K must stand as «<heap const> w.params» for k_is
   refine' My.txt_mk ?e1 ?e2 ?e3 ..
   (case e1=>PySem.W.k_is)                    -- in the order: a name->its address->its object->its parts
   (case e2=>PySem.W.k_is)
   ..
  obtain⟨t,T⟩:=T
  have e0:=hmg.symm.trans (PySem.W.mg_of KX G T.law)
  cases e0                                       -- fa is the law's own address
  exact⟨_,fun s u=>.of_eq rfl,fun base kb nb=>My.law_fn T kb nb⟩     -- if «.of_eq rfl» comes too early: refine' ⟨_,?b,fun base kb nb=>My.law_fn T kb nb⟩;exact fun s u=>.of_eq rfl
 case S=>exact fun w H a ns hl hO hS=>..
 case C=>exact ..
(the tactic k_is has no namespace: write k_is) -/
namespace L2
open PySem PySem.Spec PyProof.Rows
def wV(s:Stmt):Arguments:=match s with
 | .FunctionDef _ a _ _ _ _ _ _ _ _=>a
 | _=>{posonlyargs:=[],args:=[],vararg:=none,kwonlyargs:=[],kw_defaults:=[],kwarg:=none,defaults:=[]}
def uO(s:Stmt):List Stmt:=match s with
 | .FunctionDef _ _ b _ _ _ _ _ _ _=>b
 | _=>[]
def i6(s:Stmt):Scope:=match s with
 | .FunctionDef _ _ _ _ _ _ sc _ _ _=>sc
 | _=>{kind:=.function,names:=[],isGenerator:=false,isCoroutine:=false}
abbrev ui:G6:=fun _ _ _ _ _ _=>False
abbrev E0:XK:=fun _ _ _=>False
theorem D7{X:Cx}:Fd ui X E0:=fun _ _ _ _ _ _ _ h=>h.elim
structure uu (K:PySem.W.Frag) (x qual:Str) (st:Stmt) (f:Addr) (fd:FuncData):Prop where
 ex:∃(oc:Value) (od:Option Addr) (kV doc pm:Value) (an:Option Addr) (cdv ct:Value) (osl:Array (Option Value)),
  fd=PySem.W.fnOf x qual (wV st) (uO st) (i6 st) .none kV doc pm an cdv ct/\K.lookup f=some ⟨oc,od,.func fd,osl⟩/\PySem.W.codeIn K cdv qual=true
 kp:PySem.W.keepIn K (.ref f)=true
section
variable{P:Program}{w:World}{K:PySem.W.Frag}{mg:Str->Option Value}{base:Heap}
theorem uu.ok {x qual:Str} {st:Stmt} {f:Addr} {fd:FuncData} {N ps:List Str} {k:Nat} {sp:Sp} (F:uu K x qual st f fd) (S:i7 N ps (i6 st)) (len:∀ vs H Q E,sp vs H Q E->vs.length=ps.length)
    (hbody:∀(cdv:Value) (A:Around) (outer:List Env) (s:Shared) (H:Hp) (vs:List V) (Q:VK) (E:XK),uB k (A.deeper (envOfC qual (i6 st) s.heap.objs.size f cdv))->sp vs H Q E ->
      ∃t,PSs (BZ ui P w K mg base N qual (i6 st) f cdv A outer s H E).nox (uO st) t/\t {nx:=fun _ H'=>Q .non H',rt:=Q} (start N vs) H):n5 P w K mg base ui (k+1) f fd ps sp:=by
  obtain⟨oc,od,kV,doc,pm,an,cdv,ct,osl,rfl,lk,hcd⟩:=F.ex
  refine s_ lk hcd S len fun A outer s H vs Q E hr hsp=>?_
  obtain⟨t,h,q⟩:=hbody cdv A outer s H vs Q E hr hsp
  exact⟨t,h.nox,q⟩
theorem uu.binds{x qual:Str}{st:Stmt}{f:Addr}{fd:FuncData}{ps:List Str}(F:uu K x qual st f fd)
  (h:∀(kV doc pm:Value) (an:Option Addr) (cdv ct:Value) (us:List Value),us.length=ps.length->bindArgs (PySem.W.fnOf x qual (wV st) (uO st) (i6 st) .none kV doc pm an cdv ct) ⟨us,[]⟩=pure (ps.zip us)):Binds K fd ps []:=by
 obtain⟨oc,od,kV,doc,pm,an,cdv,ct,osl,rfl,lk,hcd⟩:=F.ex
 exact .all (h kV doc pm an cdv ct)
theorem qc{x qual:Str}{st:Stmt}{f:Addr}{oc:Value}{od an:Option Addr}{osl:Array (Option Value)}{kV doc pm cdv ct:Value}(l:K.lookup f=some ⟨oc,od,.func (PySem.W.fnOf x qual (wV st) (uO st) (i6 st) .none kV doc pm an cdv ct),osl⟩)
  (c:PySem.W.codeIn K cdv qual=true) (k:PySem.W.keepIn K (.ref f)=true):uu K x qual st f (PySem.W.fnOf x qual (wV st) (uO st) (i6 st) .none kV doc pm an cdv ct):=⟨⟨oc,od,kV,doc,pm,an,cdv,ct,osl,rfl,l,c⟩,k⟩
end
theorem p8{A:Around}{k:Nat}(hr:uB k A):A.units+1<cLine:=Nat.lt_of_le_of_lt (Nat.add_le_add_left (by decide:1<=64) _) hr.units
theorem yH{n:Nat}(h:n<=1000):n<sizeLine:=Nat.lt_of_le_of_lt h (by decide)
section
variable{X:Cx}
theorem pv(i:Nat){x:Str}{pos:Pos}(hN:X.N[i]?=some x:=by rfl)(hv:G0 X.env.scope x:=by first | exact Or.inl rfl | exact Or.inr (Or.inl rfl) | exact Or.inr (Or.inr rfl))(hd:(x==("__debug__" : Str))=false:=by decide)
  (hcd:(x==("__classdict__" : Str))=false:=by decide):PE X (.Name x pos) (MK i):=mm hN hv hd hcd
end
def l3(H H':Hp):Prop:=∀b o,H b=some o->H' b=some o
theorem l3.refl(H:Hp):l3 H H:=fun _ _ h=>h
theorem l3.trans{H H1 H2:Hp}(a:l3 H H1)(b:l3 H1 H2):l3 H H2:=fun c o h=>b c o (a c o h)
theorem l3.free{H H':Hp}(e:l3 H H'){l:Addr}(h:H' l=Option.none):H l=Option.none:=by
 cases q:H l with
 | none=>rfl
 | some o =>
  rw[e l o q] at h
  cases h
theorem l3.seq{K:PySem.W.Frag}{H H':Hp}{a:Addr}{xs:List V}(e:l3 H H')(h:wZ K H a xs):wZ K H' a xs:=by
 rcases h with (h | ⟨o,h⟩) | h
 ·exact .inl (.inl (e _ _ h))
 ·exact .inl (.inr ⟨o,e _ _ h⟩)
 ·exact .inr h
end L2
namespace HW
open PySem
inductive D where
 | non
 | bl (b:Bool)
 | int (i:Int)
 | str (x:Str)
 | tup (xs:List D)
 | lst (xs:List D)
 | fro (xs:List D)
 | obj (k a:Nat) (ks:List Str) (ds:List D)
 deriving Inhabited
abbrev R:=List (Option D)
abbrev OD:=Option D
abbrev LD:=List D
abbrev oS(x:String):Str:=Str.ofString x
@[simp] abbrev kI (n:Int):R->OD:=fun _=>some (.int n)
@[simp] abbrev kS (x:String):R->OD:=fun _=>some (.str (oS x))
inductive Out where
 | nx (ρ:R)
 | rt (d:D)
 | bk (ρ:R)
 | ct (ρ:R)
@[simp] noncomputable def Le:D->Option Bool
 | .non=>some false
 | .bl b=>some b
 | .int i=>some (i != 0)
 | .str x=>if x.length<=sizeLine then some ((x.length:Int) != 0) else none
 | .tup xs=>some (!xs.isEmpty)
 | .lst xs=>some (!xs.isEmpty)
 | .fro xs=>some (!xs.isEmpty)
 | .obj ..=>none
noncomputable def bI(b:Bool):Int:=if b then 1 else 0
def Qi:D->Option Int
 | .int i=>some i
 | .bl b=>some (bI b)
 | _=>none
@[simp] noncomputable def nI:D->Option Int
 | .int i=>some i
 | _=>none
@[simp] def tI:D->Option LD
 | .tup xs=>some xs
 | _=>none
@[simp] def lI:D->Option LD
 | .lst xs=>some xs
 | _=>none
@[simp] noncomputable def sI:D->Option Str
 | .str x=>some x
 | _=>none
@[simp] def bO:D->Option Bool
 | .bl b=>some b
 | _=>none
@[simp] def l8 (x y:D):OD:=match x with
 | .int i=>(nI y).map fun j=>.int (i+j)
 | .tup xs=>(tI y).bind fun ys=>if xs.length+ys.length<=sizeLine then some (.tup (xs++ys)) else none
 | .lst xs=>(lI y).bind fun ys=>if xs.length+ys.length<=sizeLine then some (.lst (xs++ys)) else none
 | .str x=>(sI y).bind fun y=>if x.length+y.length<=sizeLine then some (.str (x++y)) else none
 | _=>none
@[simp] def vE (x y:D):OD:=(nI x).bind fun i=>(nI y).map fun j=>.int (i - j)
def ur(i j:Int):Bool:=(decide (-(2 ^ 64)<i)&&decide (i<2 ^ 64))||(decide (-(2 ^ 64)<j)&&decide (j<2 ^ 64))
@[simp] def vK (x y:D):OD:=(nI x).bind fun i=>(nI y).bind fun j=>if ur i j then some (.int (i*j)) else none
@[simp] def vn (x y:D):OD:=(nI x).bind fun i=>(nI y).bind fun j=>if 0<j/\j<1073741824 then some (.int (i / j)) else none
@[simp] def tG (x y:D):OD:=(nI x).bind fun i=>(nI y).bind fun j=>if 0<j then some (.int (i%j)) else none
@[simp] def MX (x:D):OD:=(nI x).map fun i=>.int (-i)
@[simp] def Nw (x y:D):Option Bool:=(nI x).bind fun i=>(nI y).map fun j=>decide (i<j)
@[simp] def L0 (x y:D):Option Bool:=(nI x).bind fun i=>(nI y).map fun j=>decide (i<=j)
@[simp] def AT (x y:D):Option Bool:=(nI x).bind fun i=>(nI y).map fun j=>decide (j<i)
@[simp] def Ml (x y:D):Option Bool:=(nI x).bind fun i=>(nI y).map fun j=>decide (j<=i)
@[simp] def CZ (x y:D):Option Bool:=match x with
 | .int i=>(nI y).map fun j=>i==j
 | .str a=>(sI y).map fun b=>a==b
 | .bl a=>(bO y).map fun b=>a==b
 | _=>none
@[simp] def uW:D->D->Option Bool:=CZ
@[simp] def Hi (x y:D):Option Bool:=(CZ x y).map (!·)
@[simp] def Jz:D->Bool
 | .non=>true
 | _=>false
@[simp] def zT (x y:D):Option Bool:=if Jz y then some (Jz x) else none
@[simp] def uJ (x y:D):Option Bool:=(zT x y).map (!·)
def flat:D->Bool
 | .non=>true
 | .bl _=>true
 | .int _=>true
 | .str _=>true
 | _=>false
def L7:D->D->Bool
 | .non,.non=>true
 | .bl a,.bl b=>a==b
 | .bl a,.int b=>bI a==b
 | .int a,.bl b=>a==bI b
 | .int a,.int b=>a==b
 | .str a,.str b=>a==b
 | _,_=>false
@[simp] def E1:D->Option LD
 | .tup xs=>some xs
 | .lst xs=>some xs
 | .fro xs=>some xs
 | _=>none
@[simp] def N4 (x y:D):Option Bool:=(E1 y).bind fun ys=>if flat x&&ys.all flat then some (ys.any fun y=>L7 y x) else none
mutual
def KN:D->D->Bool
 | .non,.non=>true
 | .bl a,.bl b=>a==b
 | .bl a,.int b=>bI a==b
 | .int a,.bl b=>a==bI b
 | .int a,.int b=>a==b
 | .str a,.str b=>a==b
 | .tup xs,.tup ys=>B6 xs ys
 | .lst xs,.lst ys=>B6 xs ys
 | .lst xs,.fro ys=>B6 xs ys
 | .fro xs,.lst ys=>B6 xs ys
 | .fro xs,.fro ys=>B6 xs ys
 | _,_=>false
def B6:LD->LD->Bool
 | [],[]=>true
 | x::xs,y::ys=>KN x y&&B6 xs ys
 | _,_=>false
end
mutual
def wQ:D->Nat
 | .tup xs=>vW xs+1
 | .lst xs=>vW xs+1
 | .fro xs=>vW xs+1
 | _=>0
def vW:LD->Nat
 | []=>0
 | x::xs=>max (wQ x) (vW xs)
end
mutual
def tP:D->Bool
 | .str x=>x.cps.all (·<0x110000)
 | .tup xs=>uF xs
 | .lst xs=>uF xs
 | .fro xs=>uF xs
 | .obj ..=>false
 | _=>true
def uF:LD->Bool
 | []=>true
 | x::xs=>tP x&&uF xs
end
mutual
def t_:D->Bool
 | .tup xs=>m6 xs
 | .lst xs=>m6 xs
 | .fro xs=>m6 xs
 | .obj ..=>false
 | _=>true
def m6:LD->Bool
 | []=>true
 | x::xs=>t_ x&&m6 xs
end
mutual
theorem bT:∀{d:D},tP d=true->t_ d=true
 | .non,_=>rfl
 | .bl _,_=>rfl
 | .int _,_=>rfl
 | .str _,_=>rfl
 | .tup xs,h=>fg (xs:=xs) h
 | .lst xs,h=>fg (xs:=xs) h
 | .fro xs,h=>fg (xs:=xs) h
 | .obj ..,h=>by cases h
theorem fg:∀{xs:LD},uF xs=true->m6 xs=true
 | [],_=>rfl
 | x::xs,h=>by
  have h':(tP x&&uF xs)=true:=h
  rw[Bool.and_eq_true] at h'
  show(t_ x&&m6 xs)=true
  rw[bT h'.1,fg h'.2];rfl
end
def Et(x y:D):Option Bool:=if wQ x<=100/\tP x=true/\tP y=true then some (KN x y) else none
def Bt(x y:D):Option Bool:=(Et x y).map (!·)
noncomputable def Mw(n:Nat)(i:Int):Option Nat:=if 0<=i then (if i<n then some i.toNat else none) else if -(n:Int)<=i then some (i+n).toNat else none
def Hm(xs:LD)(i:Int):OD:=(Mw xs.length i).bind fun j=>xs[j]?
@[simp] def k9:D->D->OD
 | .tup xs,.int i=>Hm xs i
 | .lst xs,.int i=>Hm xs i
 | .fro xs,.int i=>Hm xs i
 | .str x,.int i=>if x.length<=sizeLine then ((Mw x.length i).bind fun j=>x.cps.toList[j]?).map fun c=>.str ⟨#[c]⟩ else none
 | _,_=>none
noncomputable def HI(n d:Nat):Option Int->Nat
 | none=>d
 | some v=>if v<0 then (v+(n:Int)).toNat else min v.toNat n
def cutD(xs:LD)(lo hi:Option Int):LD:=(xs.drop (HI xs.length 0 lo)).take (HI xs.length xs.length hi - HI xs.length 0 lo)
@[simp] def Pw:D->Option Int->Option Int->OD
 | .tup xs,lo,hi=>some (.tup (cutD xs lo hi))
 | .lst xs,lo,hi=>some (.lst (cutD xs lo hi))
 | _,_,_=>none
@[simp] def P5:D->Option (Option Int)
 | .int i=>some (some i)
 | _=>none
@[simp] def M3:D->String
 | .non=>"NoneType"
 | .bl _=>"bool"
 | .int _=>"int"
 | .str _=>"str"
 | .tup _=>"tuple"
 | .lst _=>"list"
 | .fro _=>"list"
 | .obj ..=>"object"
@[simp] def AM:D->Bool
 | .obj ..=>true
 | _=>false
@[simp] def Pv (d:D) (n:String):Bool:=decide (M3 d=n)||(decide (M3 d = "bool")&&decide (n = "int"))
@[simp] def C5:LD->OD
 | [d]=>(E1 d).map fun xs=>.int xs.length
 | _=>none
@[simp] def PH:LD->OD
 | [.tup xs]=>some (.lst xs)
 | [.lst xs]=>some (.lst xs)
 | _=>none
@[simp] def Ac:LD->OD
 | [.tup xs]=>some (.tup xs)
 | [.lst xs]=>some (.tup xs)
 | _=>none
@[simp] def Ez:LD->OD
 | [.int i]=>if i.natAbs.log2<1920 then some (.str (toString i)) else none
 | _=>none
@[simp] def DD:LD->OD
 | [.int i,.int j]=>some (.int (if j > i then j else i))
 | _=>none
@[simp] def xq:LD->OD
 | [.int i]=>some (.int i)
 | [.bl b]=>some (.int (if b then 1 else 0))
 | _=>none
@[simp] def D6:LD->OD
 | [.lst []]=>some .non
 | [.lst [.int a]]=>some (.int a)
 | [.lst [.int a,.int b]]=>some (.int (if b > a then b else a))
 | _=>none
def FS(x:Str):Option Str:=if x=oS "a" then some (oS "A") else if x=oS "b" then some (oS "B") else if x=oS "c" then some (oS "C") else none
def Ds(x:Str):Option Str:=if x=oS "a" \/ x=oS "A" then some (oS "a") else if x=oS "b" \/ x=oS "B" then some (oS "b") else if x=oS "c" \/ x=oS "C" then some (oS "c") else none
def KM:D->OD
 | .str x=>(FS x).map .str
 | _=>none
def GD:D->OD
 | .str x=>(Ds x).map .str
 | _=>none
def HH(ws:List Str):D->OD
 | .str x=>(ws.findIdx? (·==x)).map fun (j:Nat)=>.int (j:Int)
 | _=>none
def bools:LD->Option (List Bool)
 | []=>some []
 | .bl b::r=>(bools r).map (b::·)
 | _=>none
noncomputable def zH(st:D->R->Option R)(body:R->Option Out):LD->R->Option Out
 | [],ρ=>some (.nx ρ)
 | d::ds,ρ=>(st d ρ).bind fun ρ1=>(body ρ1).bind fun o=>match o with
  | .nx ρ2=>zH st body ds ρ2
  | .ct ρ2=>zH st body ds ρ2
  | .bk ρ2=>some (.nx ρ2)
  | .rt r=>some (.rt r)
noncomputable def vV(st:D->R->Option R)(c:R->Option Bool)(e:R->OD):LD->R->Option LD
 | [],_=>some []
 | d::ds,ρ=>(st d ρ).bind fun ρ1=>(c ρ1).bind fun b=>(if b then (e ρ1).map some else some none).bind fun x =>
   (vV st c e ds ρ).map fun r=>match x with
    | some y=>y::r
    | none=>r
@[simp] def n4 (f g:R->Option Out):R->Option Out:=fun ρ=>(f ρ).bind fun o=>match o with
 | .nx ρ2=>g ρ2
 | o=>some o
@[simp] noncomputable def e9 (i:Nat) (ρ:R):OD:=ρ.getD i none
@[simp] def setAt (i:Nat) (d:D) (ρ:R):Option R:=if i<ρ.length then some (ρ.set i (some d)) else none
@[simp] def yD (c:R->Option Bool) (f g:R->Option Out):R->Option Out:=fun ρ=>(c ρ).bind fun b=>if b then f ρ else g ρ
@[simp] def zJ (f g:R->OD):R->OD:=fun ρ=>(f ρ).bind fun x=>match x with
 | .bl true=>g ρ
 | .bl false=>some (.bl false)
 | _=>none
@[simp] def yj (f:R->OD):R->OD:=fun ρ=>(f ρ).bind fun x=>match x with
 | .bl b=>some (.bl !b)
 | _=>none
@[simp] def x4 (f g:R->Option Bool):R->Option Bool:=fun ρ=>(f ρ).bind fun b=>if b then g ρ else some false
@[simp] def IW (f g:R->Option Bool):R->Option Bool:=fun ρ=>(f ρ).bind fun b=>if b then some true else g ρ
@[simp] def y7 (f:R->Option Bool):R->Option Bool:=fun ρ=>(f ρ).map (!·)
@[simp] def FO (c:R->Option Bool) (f g:R->OD):R->OD:=fun ρ=>(c ρ).bind fun b=>if b then f ρ else g ρ
@[simp] def i5 (F:D->D->OD) (f g:R->OD):R->OD:=fun ρ=>(f ρ).bind fun x=>(g ρ).bind fun y=>F x y
@[simp] def Fi (F:D->OD) (f:R->OD):R->OD:=fun ρ=>(f ρ).bind F
@[simp] def l4 (F:D->D->Option Bool) (f g:R->OD):R->Option Bool:=fun ρ=>(f ρ).bind fun x=>(g ρ).bind fun y=>F x y
@[simp] def x5 (f:R->Option Bool):R->OD:=fun ρ=>(f ρ).map .bl
@[simp] def u_ (f:R->OD):R->Option Bool:=fun ρ=>(f ρ).bind Le
@[simp] def i3:R->Option LD:=fun _=>some []
@[simp] def e8 (f:R->OD) (g:R->Option LD):R->Option LD:=fun ρ=>(f ρ).bind fun d=>(g ρ).map fun ds=>d::ds
@[simp] def i4 (F:LD->OD) (g:R->Option LD):R->OD:=fun ρ=>(g ρ).bind F
@[simp] def l5 (g:R->Option LD):R->OD:=fun ρ=>(g ρ).map .tup
@[simp] def BB (g:R->Option LD):R->OD:=fun ρ=>(g ρ).map .lst
@[simp] def I8:R->Option (Option Int):=fun _=>some none
@[simp] def aP (f:R->OD):R->Option (Option Int):=fun ρ=>(f ρ).bind P5
@[simp] def KA (f:R->OD) (l h:R->Option (Option Int)):R->OD:=fun ρ=>(f ρ).bind fun x=>(l ρ).bind fun a=>(h ρ).bind fun b=>Pw x a b
@[simp] def n6 (f:R->OD):R->Option Out:=fun ρ=>(f ρ).map .rt
@[simp] noncomputable def l6 (f:R->OD) (st:D->R->Option R):R->Option Out:=fun ρ=>(f ρ).bind fun d=>(st d ρ).map .nx
@[simp] def ub:R->Option Out:=fun ρ=>some (.nx ρ)
@[simp] def Ar (it:R->Option LD) (st:D->R->Option R) (body:R->Option Out):R->Option Out:=fun ρ=>(it ρ).bind fun ds=>zH st body ds ρ
def chars(x:Str):LD:=x.cps.toList.map fun c=>.str ⟨#[c]⟩
@[simp] def ve (f:R->OD):R->Option LD:=fun ρ=>(f ρ).bind fun d=>match d with
 | .tup xs=>some xs
 | .lst xs=>some xs
 | .str x=>if x.cps.all (·<128) then some (chars x) else none
 | _=>none
def uN(a b:Int):LD:=(List.range (b - a).toNat).map fun (k:Nat)=>D.int (a+(k:Int))
@[simp] def uD (f:R->OD):R->Option LD:=fun ρ=>(f ρ).bind fun d=>match d with
 | .int j=>if -(2 ^ 62)<=j/\j<2 ^ 62 then some (uN 0 j) else none
 | _=>none
def En(k:Nat)(it:R->Option LD)(st:D->R->Option R)(c:R->Option Bool)(e:R->OD):R->OD:=fun ρ =>
 (it ρ).bind fun ds=>if ds.length<=sizeLine then (vV st c e ds (List.replicate k none++ρ)).map .lst else none
@[simp] def yK:R->Option Bool:=fun _=>some true
@[simp] noncomputable def Cp (n:Nat) (ds:LD):R:=ds.map some++List.replicate (n - ds.length) none
@[simp] def xX:Option Out->OD
 | some (.rt d)=>some d
 | some (.nx _)=>some .non
 | _=>none
@[simp] noncomputable def Gh:List (D->R->Option R)->LD->R->Option R
 | [],[],ρ=>some ρ
 | f::fs,d::ds,ρ=>(f d ρ).bind fun ρ1=>Gh fs ds ρ1
 | _,_,_=>none
@[simp] def xJ (fs:List (D->R->Option R)):D->R->Option R
 | .tup ds,ρ=>Gh fs ds ρ
 | _,_=>none
@[simp] def yV (u:R->Option Out):R->LD->Option (Out×LD):=fun ρ ds=>(u ρ).map fun o=>(o,ds)
@[simp] def A_ (i:Nat) (f:R->OD):R->LD->Option (Out×LD):=fun ρ ds=>(f ρ).bind fun d=>if ρ.length=i/\ds.length<sizeLine then some (.nx ρ,ds++[d]) else none
@[simp] def Ey (i:Nat) (f:R->OD):R->LD->Option (Out×LD):=fun ρ ds=>(f ρ).bind fun d=>match d with
 | .lst es=>if ρ.length=i/\ds.length+es.length<=sizeLine then some (.nx ρ,ds++es) else none
 | _=>none
@[simp] def Av:R->LD->Option (Out×LD):=fun ρ ds=>some (.nx ρ,ds)
@[simp] def B7 (p q:R->LD->Option (Out×LD)):R->LD->Option (Out×LD):=fun ρ ds=>(p ρ ds).bind fun r=>match r with
 | (.nx ρ2,wU)=>q ρ2 wU
 | r=>some r
@[simp] def IZ (c:R->Option Bool) (p q:R->LD->Option (Out×LD)):R->LD->Option (Out×LD):=fun ρ ds=>(c ρ).bind fun b=>if b then p ρ ds else q ρ ds
noncomputable def zL(st:D->R->Option R)(p:R->LD->Option (Out×LD)):LD->R->LD->Option (Out×LD)
 | [],ρ,ds=>some (.nx ρ,ds)
 | d::es,ρ,ds=>(st d ρ).bind fun ρ1=>(p ρ1 ds).bind fun r=>match r with
  | (.nx ρ2,wU)=>zL st p es ρ2 wU
  | (.ct ρ2,wU)=>zL st p es ρ2 wU
  | (.bk ρ2,wU)=>some (.nx ρ2,wU)
  | r=>some r
@[simp] def FD (it:R->Option LD) (st:D->R->Option R) (p:R->LD->Option (Out×LD)):R->LD->Option (Out×LD):=fun ρ ds=>(it ρ).bind fun es=>zL st p es ρ ds
@[simp] def Fc (i:Nat) (F:R->Option LD) (q:R->LD->Option Out):R->Option Out:=fun ρ=>(F ρ).bind fun ds=>if ρ.length=i+1 then q (ρ.take i) ds else none
@[simp] def wB (p:R->LD->Option (Out×LD)) (q:R->LD->Option Out):R->LD->Option Out:=fun ρ ds=>(p ρ ds).bind fun r=>match r with
 | (.nx ρ2,wU)=>q ρ2 wU
 | (.rt d,_)=>some (.rt d)
 | _=>none
@[simp] def yW (w:R->Option Out):R->LD->Option Out:=fun ρ ds=>w (ρ++[some (.lst ds)])
def Mg(i:Nat)(tab:List (Str×(LD->OD)))(f:R->OD)(g:(LD->OD)->R->Option Out):R->Option Out:=fun ρ=>(f ρ).bind fun d=>match d with
 | .str z=>(tab.lookup z).bind fun F=>if i<ρ.length then g F (ρ.set i none) else none
 | _=>none
theorem Cc{st:D->R->Option R}{e:R->OD}{ρ:R}(f:D->D):∀{ds:LD},(∀d∈ds,∃ ρ1,st d ρ=some ρ1/\e ρ1=some (f d))->vV st yK e ds ρ=some (ds.map f)
 | [],_=>rfl
 | d::ds,h=>by
  obtain⟨ρ1,h1,h2⟩:=h d List.mem_cons_self
  have ih:=Cc f fun x hx=>h x (List.mem_cons_of_mem _ hx)
  simp[vV,h1,h2,ih]
def via(k n:Nat)(g:R->Option Out)(ds:LD):OD:=if ds.length=k then xX (g (Cp n ds)) else none
theorem nM{k n:Nat}{g:R->Option Out}{ds:LD}{d:D}(h:via k n g ds=some d):ds.length=k:=by
 unfold via at h
 split at h
 ·assumption
 ·cases h
theorem rL{k n:Nat}{g:R->Option Out}{ds:LD}{d:D}(h:via k n g ds=some d):xX (g (Cp n ds))=some d:=by
 unfold via at h
 split at h
 ·exact h
 ·cases h
theorem CP{i j:Int}(h1 : -(2 ^ 64)<j)(h2:j<2 ^ 64):ur i j=true:=by unfold ur;rw[decide_eq_true h1,decide_eq_true h2];simp
theorem vG{i j:Int}(h1 : -(2 ^ 64)<i)(h2:i<2 ^ 64):ur i j=true:=by unfold ur;rw[decide_eq_true h1,decide_eq_true h2];simp
theorem Bl{st:D->R->Option R}{body:R->Option Out}(P:Nat->R->Prop):∀(ds:LD) (k:Nat) (ρ0:R),P k ρ0->(∀i d ρ,ds[i]?=some d->P (k+i) ρ->∃ ρ1 ρ2,st d ρ=some ρ1/\body ρ1=some (.nx ρ2)/\P (k+i+1) ρ2) ->
  ∃ ρ',zH st body ds ρ0=some (.nx ρ')/\P (k+ds.length) ρ'
 | [],k,ρ0,h0,_=>⟨ρ0,rfl,h0⟩
 | d::ds,k,ρ0,h0,hs=>by
  obtain⟨ρ1,ρ2,h1,h2,h3⟩:=hs 0 d ρ0 rfl h0
  obtain⟨ρ',h4,h5⟩:=Bl P ds (k+1) ρ2 h3 fun i d' ρ e p=>by
   have q:=hs (i+1) d' ρ (by simpa using e) (by rw[show k+(i+1)=k+1+i by omega];exact p)
   rw[show k+(i+1)+1=k+1+i+1 by omega] at q
   exact q
  refine⟨ρ',?_,?_⟩
  ·simp[zH,h1,h2,h4]
  ·rw[show k+(d::ds).length=k+1+ds.length by simp;omega];exact h5
theorem jY{n:Int}{i:Nat}{d:D}(e:(uN 0 n)[i]?=some d):d=.int i/\(i:Int)<n:=by
 unfold uN at e
 rw[List.getElem?_map] at e
 cases q:(List.range (n - 0).toNat)[i]? with
 | none=>rw[q] at e;cases e
 | some k =>
  rw[q] at e
  obtain⟨h1,h2⟩:=List.getElem?_eq_some_iff.mp q
  simp at h1 h2
  subst h2
  have e':D.int (0+(i:Int))=d:=Option.some.inj e
  rw[Int.zero_add] at e'
  exact⟨e'.symm,by omega⟩
theorem iw(n:Int):(uN 0 n).length=n.toNat:=by simp[uN]
theorem zj{xs:LD}{i:Int}(h0:0<=i)(h1:i<xs.length):∃x,x∈xs/\Hm xs i=some x:=by
 have h2:i.toNat<xs.length:=by omega
 refine⟨xs[i.toNat],List.getElem_mem h2,?_⟩
 unfold Hm Mw
 rw[if_pos h0,if_pos h1]
 simp[h2]
inductive Fits:D->Prop
 | non:Fits .non
 | bl (b:Bool):Fits (.bl b)
 | int (i:Int):Fits (.int i)
 | str (x:Str):Fits (.str x)
 | tup {xs:LD}:xs.length<=1000->(∀x∈xs,Fits x)->Fits (.tup xs)
mutual
def toPy:D->PyData
 | .non=>.none
 | .bl b=>.bool b
 | .int i=>.int i
 | .str x=>.str x
 | .tup xs=>.tuple (wD xs)
 | .lst xs=>.list (wD xs)
 | .fro xs=>.list (wD xs)
 | .obj ..=>.dict []
def wD:LD->List PyData
 | []=>[]
 | d::ds=>toPy d::wD ds
end
set_option maxHeartbeats 1000000
inductive uY | none | hour | minute | zero | ahour | aminute | alarm | run | lap | cminute | csecond | full | count
 deriving DecidableEq,Inhabited
inductive vI | a | b | c
 deriving DecidableEq,Inhabited
inductive Face | time | alarm | laps | count
 deriving DecidableEq,Inhabited
def uY.x:uY->Str
 | .none=>oS "none" | .hour=>oS "hour" | .minute=>oS "minute" | .zero=>oS "zero" | .ahour=>oS "ahour" | .aminute=>oS "aminute" | .alarm=>oS "alarm"
 | .run=>oS "run" | .lap=>oS "lap" | .cminute=>oS "cminute" | .csecond=>oS "csecond" | .full=>oS "full" | .count=>oS "count"
def vI.x:vI->Str
 | .a=>oS "a" | .b=>oS "b" | .c=>oS "c"
def vI.X:vI->Str
 | .a=>oS "A" | .b=>oS "B" | .c=>oS "C"
def vI.ix:vI->Nat
 | .a=>0 | .b=>1 | .c=>2
def Face.x:Face->Str
 | .time=>oS "time" | .alarm=>oS "alarm" | .laps=>oS "laps" | .count=>oS "count"
structure Md where
 face:Face
 stays:Bool
 rows:List (uY×Nat)
 deriving Inhabited
structure Bk where
 hold:Int
 back:Int
 modes:List Md
structure WS where
 mode:Nat
 clock:Int
 ah:Int
 am:Int
 aon:Bool
 lm:Int
 lr:Bool
 lk:List Int
 cm:Int
 cs:Int
 cl:Int
 cr:Bool
 ring:Int
 held:Option (vI×Option Int)
 idle:Int
def AN(r:uY×Nat):D:=.tup [.str r.1.x,.int (r.2:Int)]
def Md.d(m:Md):D:=.tup [.str m.face.x,.bl m.stays,.tup (m.rows.map AN)]
def Bk.d(b:Bk):D:=.tup [.int b.hold,.int b.back,.tup (b.modes.map Md.d)]
noncomputable def ue:Option Int->D
 | .none=>.non
 | .some k=>.int k
def uw:Option (vI×Option Int)->D
 | .none=>.non
 | .some (x,k)=>.tup [.str x.x,ue k]
def WS.alarmD(s:WS):D:=.tup [.int s.ah,.int s.am,.bl s.aon]
def WS.lapsD(s:WS):D:=.tup [.int s.lm,.bl s.lr,.tup (s.lk.map .int)]
def WS.countD(s:WS):D:=.tup [.int s.cm,.int s.cs,.int s.cl,.bl s.cr]
def WS.d(s:WS):D:=.tup [.int (s.mode:Int),.int s.clock,s.alarmD,s.lapsD,s.countD,.int s.ring,uw s.held,.int s.idle]
structure Md.Ok (n:Nat) (m:Md):Prop where
 six:m.rows.length=6
 nx:∀r∈m.rows,r.2<n
structure Bk.Ok (b:Bk):Prop where
 hold1:1<=b.hold
 hold9:b.hold<=9
 back0:0<=b.back
 back60:b.back<=60
 some1:1<=b.modes.length
 some8:b.modes.length<=8
 all:∀m∈b.modes,m.Ok b.modes.length
structure WS.Wk (b:Bk) (s:WS):Prop where
 bk:0<=b.back
 mode:s.mode<b.modes.length
 clock0:0<=s.clock
 clock1:s.clock<86400
 ah0:0<=s.ah
 ah1:s.ah<24
 am0:0<=s.am
 am1:s.am<60
 lm0:0<=s.lm
 lk:s.lk.length<=4
 cm0:0<=s.cm
 cm1:s.cm<60
 cs0:0<=s.cs
 cs1:s.cs<60
 cl0:0<=s.cl
 cl1:s.cl<3600
 cr:s.cr=true->0<s.cl
 ring0:0<=s.ring
 ring1:s.ring<=10
 idle0:0<=s.idle
 idle1:0<b.back->s.idle<b.back
 idle2:b.back=0->s.idle=0
structure WS.Ok (b:Bk) (s:WS):Prop extends WS.Wk b s where
 held:∀x k,s.held=some (x,some k)->0<=k/\k<b.hold
noncomputable def xU(s:WS)(m c:Int):WS:=if s.cr then s else {s with cm:=m,cs:=c,cl:=60*m+c,cr:=false}
def deed:uY->WS->WS
 | .none,s=>s
 | .hour,s=>{s with clock:=(s.clock+3600)%86400}
 | .minute,s=>{s with clock:=s.clock - s.clock%3600+(s.clock%3600+60)%3600}
 | .zero,s=>{s with clock:=s.clock - s.clock%60}
 | .ahour,s=>{s with ah:=(s.ah+1)%24}
 | .aminute,s=>{s with am:=(s.am+1)%60}
 | .alarm,s=>{s with aon:=!s.aon}
 | .run,s=>{s with lr:=!s.lr}
 | .lap,s=>if s.lr then (if 4<=s.lk.length then s else {s with lk:=s.lk++[s.lm]}) else {s with lm:=0,lk:=[]}
 | .cminute,s=>xU s ((s.cm+1)%60) s.cs
 | .csecond,s=>xU s s.cm ((s.cs+1)%60)
 | .full,s=>xU s s.cm s.cs
 | .count,s=>{s with cr:=!s.cr&&decide (0<s.cl)}
def Bk.row(b:Bk)(m i:Nat):uY×Nat:=(b.modes.getD m default).rows.getD i (.none,0)
def press(b:Bk)(s:WS)(i:Nat):WS:={deed (b.row s.mode i).1 s with mode:=(b.row s.mode i).2}
noncomputable def mx(i j:Int):Int:=if j > i then j else i
def WS.sec(s:WS):Int:=3600*s.ah+60*s.am
def tM(s:WS):Option Int:=if s.aon then some ((s.sec - s.clock - 1)%86400+1) else none
def tN(s:WS):Option Int:=if s.cr then some s.cl else none
def xw(s:WS)(n:Int):Option Int:=
 match tM s,tN s with
 | some a,some c=>if a<=n then (if c<=n then some (mx (n - (n - a)%86400) c) else some (n - (n - a)%86400)) else (if c<=n then some c else none)
 | some a,none=>if a<=n then some (n - (n - a)%86400) else none
 | none,some c=>if c<=n then some c else none
 | none,none=>none
def wG(s:WS)(n:Int):Int:=
 match xw s n with
 | none=>mx 0 (s.ring - n)
 | some l=>mx 0 (10 - (n - l))
def tT(h:Option (vI×Option Int))(n:Int):Option (vI×Option Int):=
 match h with
 | some (x,some k)=>some (x,some (k+n))
 | h=>h
def wc(b:Bk)(s:WS):Int:=mx 1 (b.back - s.idle)
def tS(b:Bk)(s:WS)(n:Int):Int:=
 if s.held.isSome\/b.back=0 then s.idle else if n<wc b s then s.idle+n else (n - wc b s)%b.back
def tQ(s:WS)(n:Int):Int:=if s.lr then s.lm+n else s.lm
def tX(s:WS)(n:Int):Int:=if s.cr then mx 0 (s.cl - n) else s.cl
def runsOn(s:WS)(n:Int):Bool:=s.cr&&decide (0<mx 0 (s.cl - n))
def counted(b:Bk)(s:WS)(n:Int):WS:=
 {s with clock:=(s.clock+n)%86400,lm:=tQ s n,cl:=tX s n,cr:=runsOn s n,ring:=wG s n,held:=tT s.held n,idle:=tS b s n}
def tO(b:Bk)(s:WS):Bool:=decide (0<b.back)&&(!decide (s.mode=0)&&!(b.modes.getD s.mode default).stays)
def l7(b:Bk)(s:WS):Option Int:=
 match s.held with
 | none=>if tO b s then some (wc b s) else none
 | some (_,none)=>none
 | some (_,some k)=>some (mx 1 (b.hold - k))
def turned(b:Bk)(s:WS):WS:=
 match s.held with
 | none=>{s with mode:=0}
 | some (x,_)=>press b {s with held:=some (x,none)} (x.ix+3)
def behind(b:Bk)(s:WS)(t:Int):WS:=turned b (counted b s t)
def ticked(b:Bk)(s:WS)(n:Int):WS:=
 match l7 b s with
 | none=>counted b s n
 | some t=>if n<t then counted b s n else counted b (behind b s t) (n - t)
def pushed(s:WS)(x:vI):WS:=if s.held.isSome then s else {s with ring:=0,held:=some (x,if 0<s.ring then none else some 0),idle:=0}
def letGo(b:Bk)(s:WS)(x:vI):WS:=
 match s.held with
 | some (y,k)=>if y=x then { (if k.isSome then press b s x.ix else s) with held:=none,idle:=0} else s
 | none=>s
inductive Ev | down (x:vI) | up (x:vI) | ticks (n:Int)
 deriving DecidableEq
def Ev.d:Ev->D
 | .down x=>.tup [.str (oS "down"),.str x.x]
 | .up x=>.tup [.str (oS "up"),.str x.x]
 | .ticks n=>.tup [.str (oS "ticks"),.int n]
def gone(b:Bk)(s:WS):Ev->WS
 | .down x=>pushed s x
 | .up x=>letGo b s x
 | .ticks n=>ticked b s n
theorem PU(i j:Int):i<=mx i j:=by unfold mx;split<;>omega
theorem EI{b:Bk}{s:WS}{m n:Int}(hm:0<=m)(hn:0<=n):tX (counted b s m) n=tX s (m+n):=by
 unfold tX counted runsOn tX mx
 cases s.cr
 ·simp
 ·simp
  split<;>split<;>(try split)<;>omega
theorem vi(s:WS){n:Int}(hn:0<=n):runsOn s n=(s.cr&&decide (n<s.cl)):=by
 unfold runsOn mx
 congr 1
 by_cases h:n<s.cl
 ·rw[if_pos (by omega),decide_eq_true h,decide_eq_true (by omega)]
 ·rw[if_neg (by omega),decide_eq_false h,decide_eq_false (by omega)]
theorem xn(s:WS){n:Int}(h:n<s.cl):tX s n=if s.cr then s.cl - n else s.cl:=by
 unfold tX
 have e:mx 0 (s.cl - n)=s.cl - n:=by unfold mx;split<;>omega
 rw[e]
theorem EV{b:Bk}{s:WS}{m n:Int}(hm:0<=m)(hn:0<=n):runsOn (counted b s m) n=runsOn s (m+n):=by
 rw[vi _ hn,vi _ (by omega)]
 show(runsOn s m&&decide (n<tX s m))=_
 rw[vi _ hm]
 cases hc:s.cr
 ·rfl
 ·by_cases h:m<s.cl
  ·rw[xn s h,if_pos hc]
   by_cases h2:m+n<s.cl
   ·rw[decide_eq_true h,decide_eq_true h2,decide_eq_true (by omega)];rfl
   ·rw[decide_eq_true h,decide_eq_false h2,decide_eq_false (by omega)];rfl
  ·rw[decide_eq_false h,decide_eq_false (show ¬ m+n<s.cl by omega)]
   rfl
def wY(aon:Bool)(a:Int)(cr:Bool)(c r n:Int):Int:=
 if aon=true/\a<=n then (if cr=true/\c<=n then mx 0 (10 - (n - mx (n - (n - a)%86400) c)) else mx 0 (10 - (n - a)%86400)) else if cr=true/\c<=n then mx 0 (10 - (n - c)) else mx 0 (r - n)
theorem ww(s:WS)(n:Int):wG s n=wY s.aon ((s.sec - s.clock - 1)%86400+1) s.cr s.cl s.ring n:=by
 unfold wG xw tM tN wY
 generalize (s.sec - s.clock - 1)%86400+1=a
 have e:∀x:Int,n - (n - x)=x:=fun x=>by omega
 cases s.aon<;>cases s.cr<;>by_cases h1:a<=n<;>by_cases h2:s.cl<=n<;>simp[h1,h2,e]
theorem EF{b:Bk}{s:WS}{m n:Int}(w:s.Wk b)(hm:0<=m)(hn:0<=n):wG (counted b s m) n=wG s (m+n):=by
 have hc0:=w.clock0;have hc1:=w.clock1;have hcr:=w.cr;have hr:=w.ring0
 have hl0:=w.cl0
 rw[ww,ww]
 show wY s.aon ((s.sec - (s.clock+m)%86400 - 1)%86400+1) (runsOn s m) (tX s m) (wG s m) n=_
 rw[ww,vi s hm]
 generalize s.sec=sec
 generalize s.clock=ck at hc0 hc1 ⊢
 have ea:(sec - (ck+m)%86400 - 1)%86400=(sec - ck - 1 - m)%86400:=by omega
 rw[ea]
 generalize sec - ck - 1=q
 cases ha:s.aon<;>cases hc:s.cr
 ·-- none of both
  simp[wY]
  unfold mx
  split<;>split<;>(try split)<;>omega
 ·have hcl:=hcr hc
  by_cases h:m<s.cl
  ·rw[xn s h,if_pos hc,decide_eq_true h]
   simp[wY]
   have h':¬ s.cl<=m:=by omega
   simp[h']
   by_cases h2:s.cl - m<=n
   ·rw[if_pos h2,if_pos (by omega)];congr 1;omega
   ·rw[if_neg h2,if_neg (by omega)];unfold mx;split<;>split<;>(try split)<;>omega
  ·rw[decide_eq_false h]
   have h':s.cl<=m:=by omega
   have h'':s.cl<=m+n:=by omega
   simp[wY,h',h'']
   unfold mx;split<;>split<;>(try split)<;>omega
 ·simp[wY]
  by_cases h1:q%86400+1<=m
  ·rw[if_pos h1,if_pos (show q%86400+1<=m+n by omega)]
   by_cases h2:(q - m)%86400+1<=n
   ·rw[if_pos h2];congr 1;omega
   ·rw[if_neg h2];unfold mx;split<;>split<;>(try split)<;>omega
  ·rw[if_neg h1]
   have e1:(q - m)%86400=q%86400 - m:=by omega
   rw[e1]
   by_cases h2:q%86400 - m+1<=n
   ·rw[if_pos h2,if_pos (by omega)];congr 1;omega
   ·rw[if_neg h2,if_neg (by omega)];unfold mx;split<;>split<;>(try split)<;>omega
 ·have hcl:=hcr hc
  by_cases h:m<s.cl
  ·rw[xn s h,if_pos hc,decide_eq_true h]
   have h':¬ s.cl<=m:=by omega
   simp[wY,h']
   by_cases h1:q%86400+1<=m
   ·rw[if_pos h1,if_pos (show q%86400+1<=m+n by omega)]
    by_cases h2:(q - m)%86400+1<=n<;>by_cases h3:s.cl - m<=n
    ·rw[if_pos h2,if_pos h3,if_pos (show s.cl<=m+n by omega)];unfold mx;split<;>split<;>(try split)<;>(try split)<;>omega
    ·rw[if_pos h2,if_neg h3,if_neg (show ¬ s.cl<=m+n by omega)];congr 1;omega
    ·rw[if_neg h2,if_pos h3,if_pos (show s.cl<=m+n by omega)];unfold mx;split<;>split<;>(try split)<;>(try split)<;>omega
    ·rw[if_neg h2,if_neg h3,if_neg (show ¬ s.cl<=m+n by omega)];unfold mx;split<;>split<;>(try split)<;>omega
   ·rw[if_neg h1]
    have e1:(q - m)%86400=q%86400 - m:=by omega
    rw[e1]
    by_cases h2:q%86400 - m+1<=n<;>by_cases h3:s.cl - m<=n
    ·rw[if_pos h2,if_pos h3,if_pos (show q%86400+1<=m+n by omega),if_pos (show s.cl<=m+n by omega)];unfold mx;split<;>split<;>(try split)<;>(try split)<;>omega
    ·rw[if_pos h2,if_neg h3,if_pos (show q%86400+1<=m+n by omega),if_neg (show ¬ s.cl<=m+n by omega)];congr 1;omega
    ·rw[if_neg h2,if_pos h3,if_neg (show ¬ q%86400+1<=m+n by omega),if_pos (show s.cl<=m+n by omega)];congr 1;omega
    ·rw[if_neg h2,if_neg h3,if_neg (show ¬ q%86400+1<=m+n by omega),if_neg (show ¬ s.cl<=m+n by omega)];unfold mx;split<;>split<;>(try split)<;>omega
  ·rw[decide_eq_false h]
   have h':s.cl<=m:=by omega
   have h'':s.cl<=m+n:=by omega
   simp[wY,h',h'']
   by_cases h1:q%86400+1<=m
   ·rw[if_pos h1,if_pos (show q%86400+1<=m+n by omega)]
    by_cases h2:(q - m)%86400+1<=n
    ·rw[if_pos h2];unfold mx;split<;>split<;>(try split)<;>(try split)<;>omega
    ·rw[if_neg h2];unfold mx;split<;>split<;>(try split)<;>(try split)<;>omega
   ·rw[if_neg h1]
    have e1:(q - m)%86400=q%86400 - m:=by omega
    rw[e1]
    by_cases h2:q%86400 - m+1<=n
    ·rw[if_pos h2,if_pos (by omega)];unfold mx;split<;>split<;>(try split)<;>(try split)<;>omega
    ·rw[if_neg h2,if_neg (by omega)];unfold mx;split<;>split<;>(try split)<;>omega
theorem xl{b:Bk}{s:WS}(h:s.idle<b.back):wc b s=b.back - s.idle:=by unfold wc mx;split<;>omega
theorem Dv(x b:Int):(x - b)%b=x%b:=Int.sub_emod_right x b
theorem vH{b:Bk}{s:WS}{n:Int}(w:s.Wk b)(hn:0<=n):tS b s n=if s.held.isSome=true\/b.back=0 then s.idle else (s.idle+n)%b.back:=by
 unfold tS
 have h0:=w.idle0
 by_cases h:s.held.isSome=true\/b.back=0
 ·rw[if_pos h,if_pos h]
 ·have hb:0<b.back:=by
   have:¬ b.back=0:=fun z=>h (.inr z)
   have:=w.bk
   omega
  have h1:=w.idle1 hb
  rw[if_neg h,if_neg h,xl h1]
  by_cases h2:n<b.back - s.idle
  ·rw[if_pos h2,Int.emod_eq_of_lt (by omega) (by omega)]
  ·rw[if_neg h2,show n - (b.back - s.idle)=s.idle+n - b.back by omega,Dv]
theorem Ei(h:Option (vI×Option Int))(n:Int):(tT h n).isSome=h.isSome:=by
 unfold tT;split<;>rfl
theorem ED(h:Option (vI×Option Int))(m n:Int):tT (tT h m) n=tT h (m+n):=by
 rcases h with _ | ⟨x,_ | k⟩
 ·rfl
 ·rfl
 ·simp[tT];omega
theorem y0(a:Int){b:Int}(h:0<b):a%b<b:=Int.emod_lt_of_pos a h
theorem zW(a:Int){b:Int}(h:0<b):0<=a%b:=Int.emod_nonneg a (by omega)
theorem Jg(aon:Bool)(a:Int)(cr:Bool)(c r n:Int)(hr:r<=10)(hn:0<=n)(hc:cr=true->0<c)(ha:1<=a):0<=wY aon a cr c r n/\wY aon a cr c r n<=10:=by
 unfold wY
 split
 ·split
  ·unfold mx;split<;>(try split)<;>omega
  ·unfold mx;split<;>omega
 ·split
  ·unfold mx;split<;>omega
  ·unfold mx;split<;>omega
theorem WS.Wk.cnt{b:Bk}{s:WS}{n:Int}(w:s.Wk b)(hn:0<=n):(counted b s n).Wk b:=by
 have hr:=Jg s.aon ((s.sec - s.clock - 1)%86400+1) s.cr s.cl s.ring n w.ring1 hn w.cr (by omega)
 rw[<- ww] at hr
 have hl0:=w.lm0
 have hi:=vH w hn
 have hcl0:=w.cl0
 have hcl1:=w.cl1
 exact {
  bk:=w.bk,mode:=w.mode,clock0:=zW _ (by decide),clock1:=y0 _ (by decide),ah0:=w.ah0,ah1:=w.ah1,am0:=w.am0,am1:=w.am1
  lm0:=by show 0<=tQ s n;unfold tQ;split<;>omega
  lk:=w.lk,cm0:=w.cm0,cm1:=w.cm1,cs0:=w.cs0,cs1:=w.cs1
  cl0:=by show 0<=tX s n;unfold tX mx;split<;>(try split)<;>omega
  cl1:=by show tX s n<3600;unfold tX mx;split<;>(try split)<;>omega
  cr:=by
   show runsOn s n=true->0<tX s n
   intro h
   unfold runsOn at h
   unfold tX
   cases hc:s.cr
   ·rw[hc] at h;cases h
   ·rw[hc] at h;simp at h;simp;exact h
  ring0:=hr.1,ring1:=hr.2
  idle0:=by
   show 0<=tS b s n
   rw[hi]
   split
   ·exact w.idle0
   ·rename_i h
    have:¬ b.back=0:=fun z=>h (.inr z)
    exact Int.emod_nonneg _ this
  idle1:=fun hb=>by
   show tS b s n<b.back
   rw[hi]
   split
   ·exact w.idle1 hb
   ·exact y0 _ hb
  idle2:=fun hb=>by
   show tS b s n=0
   rw[hi,if_pos (.inr hb)]
   exact w.idle2 hb}
theorem E4{b:Bk}{s:WS}{m n:Int}(w:s.Wk b)(hm:0<=m)(hn:0<=n):tS b (counted b s m) n=tS b s (m+n):=by
 rw[vH (w.cnt hm) hn,vH w (by omega)]
 show(if (tT s.held m).isSome=true\/b.back=0 then tS b s m else (tS b s m+n)%b.back)=_
 rw[Ei,vH w hm]
 split
 ·rfl
 ·rw[Int.emod_add_emod,Int.add_assoc]
theorem EN{b:Bk}{s:WS}{m n:Int}:tQ (counted b s m) n=tQ s (m+n):=by
 unfold tQ
 show(if s.lr=true then tQ s m+n else tQ s m)=_
 unfold tQ
 split<;>omega
theorem w8{b:Bk}{s:WS}{m n:Int}(w:s.Wk b)(hm:0<=m)(hn:0<=n):counted b (counted b s m) n=counted b s (m+n):=by
 have e1:=EI (b:=b) (s:=s) hm hn
 have e2:=EV (b:=b) (s:=s) hm hn
 have e3:=EF w hm hn
 have e4:=E4 w hm hn
 have e5:=EN (b:=b) (s:=s) (m:=m) (n:=n)
 have e6:=ED s.held m n
 have e7:((s.clock+m)%86400+n)%86400=(s.clock+(m+n))%86400:=by omega
 show({counted b s m with clock:=((s.clock+m)%86400+n)%86400,lm:=tQ (counted b s m) n,cl:=tX (counted b s m) n,cr:=runsOn (counted b s m) n,ring:=wG (counted b s m) n,held:=tT (tT s.held m) n,idle:=tS b (counted b s m) n}:WS)=_
 rw[e1,e2,e3,e4,e5,e6,e7]
 rfl
theorem xK{b:Bk}{s:WS}(w:s.Wk b):counted b s 0=s:=by
 have e1:tX s 0=s.cl:=by
  have:=w.cl0
  unfold tX mx
  split
  ·split<;>omega
  ·rfl
 have e2:runsOn s 0=s.cr:=by
  rw[vi s (Int.le_refl 0)]
  cases hc:s.cr
  ·rfl
  ·simp[w.cr hc]
 have e3:wG s 0=s.ring:=by
  rw[ww]
  have h0:=w.ring0
  unfold wY
  rw[if_neg (by rintro⟨_,z⟩;omega),if_neg (by rintro⟨h,z⟩;have:=w.cr h;omega)]
  unfold mx;split<;>omega
 have e4:tS b s 0=s.idle:=by
  rw[vH w (Int.le_refl 0)]
  split
  ·rfl
  ·rename_i h
   have hb:=w.bk
   have h0:=w.idle0
   have hb':0<b.back:=by
    have:¬ b.back=0:=fun z=>h (.inr z)
    omega
   rw[Int.add_zero,Int.emod_eq_of_lt h0 (w.idle1 hb')]
 have e5:tQ s 0=s.lm:=by unfold tQ;split<;>omega
 have e6:tT s.held 0=s.held:=by rcases s.held with _ | ⟨x,_ | k⟩<;>simp[tT]
 have e7:(s.clock+0)%86400=s.clock:=by have:=w.clock0;have:=w.clock1;omega
 unfold counted
 rw[e1,e2,e3,e4,e5,e6,e7]
theorem sk{b:Bk}(ok:b.Ok){m i:Nat}(hm:m<b.modes.length)(hi:i<6):(b.row m i).2<b.modes.length:=by
 unfold Bk.row
 have e:b.modes.getD m default=b.modes[m]:=by simp[List.getD_eq_getElem?_getD,hm]
 rw[e]
 have o:=ok.all _ (List.getElem_mem hm)
 have hi':i<b.modes[m].rows.length:=by rw[o.six];exact hi
 have e2:b.modes[m].rows.getD i (.none,0)=b.modes[m].rows[i]:=by simp[List.getD_eq_getElem?_getD,hi']
 rw[e2]
 exact o.nx _ (List.getElem_mem hi')
theorem GP(d:uY)(s:WS):(deed d s).held=s.held:=by
 cases d<;>simp[deed,xU]<;>(repeat' split)<;>rfl
theorem WS.Wk.set{b:Bk}{s:WS}(w:s.Wk b){m c:Int}(m0:0<=m)(m1:m<60)(c0:0<=c)(c1:c<60):(xU s m c).Wk b:=by
 unfold xU
 split
 ·exact w
 ·exact {w with cm0:=m0,cm1:=m1,cs0:=c0,cs1:=c1,cl0:=(by show 0<=60*m+c;omega),cl1:=(by show 60*m+c<3600;omega),cr:=fun h=>by cases h}
theorem WS.Wk.dd{b:Bk}{s:WS}(w:s.Wk b)(d:uY):(deed d s).Wk b:=by
 have c0:=w.clock0;have c1:=w.clock1
 cases d with
 | none=>exact w
 | hour=>exact {w with clock0:=zW _ (by decide),clock1:=y0 _ (by decide)}
 | minute=>exact {w with clock0:=(by show 0<=s.clock - s.clock%3600+(s.clock%3600+60)%3600;omega),clock1:=(by show s.clock - s.clock%3600+(s.clock%3600+60)%3600<86400;omega)}
 | zero=>exact {w with clock0:=(by show 0<=s.clock - s.clock%60;omega),clock1:=(by show s.clock - s.clock%60<86400;omega)}
 | ahour=>exact {w with ah0:=zW _ (by decide),ah1:=y0 _ (by decide)}
 | aminute=>exact {w with am0:=zW _ (by decide),am1:=y0 _ (by decide)}
 | alarm=>exact {w with}
 | run=>exact {w with}
 | lap =>
  show(if s.lr then (if 4<=s.lk.length then s else {s with lk:=s.lk++[s.lm]}) else {s with lm:=0,lk:=[]}:WS).Wk b
  split
  ·split
   ·exact w
   ·exact {w with lk:=(by show(s.lk++[s.lm]).length<=4;simp;omega)}
  ·exact {w with lm0:=Int.le_refl 0,lk:=Nat.zero_le _}
 | cminute=>exact w.set (zW _ (by decide)) (y0 _ (by decide)) w.cs0 w.cs1
 | csecond=>exact w.set w.cm0 w.cm1 (zW _ (by decide)) (y0 _ (by decide))
 | full=>exact w.set w.cm0 w.cm1 w.cs0 w.cs1
 | count =>
  have hc:(!s.cr&&decide (0<s.cl))=true->0<s.cl:=fun h=>by simp at h;exact h.2
  exact {w with cr:=hc}
theorem WS.Wk.prs{b:Bk}{s:WS}(ok:b.Ok)(w:s.Wk b){i:Nat}(hi:i<6):(press b s i).Wk b:=by
 have z:=w.dd (b.row s.mode i).1
 exact {z with mode:=sk ok w.mode hi}
theorem By(b:Bk)(s:WS)(i:Nat):(press b s i).held=s.held:=GP _ _
theorem vI.ix3(x:vI):x.ix+3<6:=by cases x<;>decide
theorem vI.ix6(x:vI):x.ix<6:=by cases x<;>decide
theorem WS.Wk.trn{b:Bk}{s:WS}(ok:b.Ok)(w:s.Wk b):(turned b s).Wk b:=by
 unfold turned
 split
 ·exact {w with mode:=ok.some1}
 ·rename_i x k e
  exact WS.Wk.prs (s:={s with held:=some (x,none)}) ok {w with} x.ix3
theorem x6{b:Bk}{s:WS}:l7 b (turned b s)=none:=by
 unfold turned
 split
 ·rename_i e
  unfold l7
  simp[e,tO]
 ·rename_i x k e
  unfold l7
  rw[By]
theorem vT{b:Bk}{s:WS}{n:Int}(w:s.Wk b)(hn:0<=n)(h:l7 b s=none):l7 b (counted b s n)=none:=by
 unfold l7 at h ⊢
 show(match tT s.held n with | none=>if tO b s then some (wc b (counted b s n)) else none | some (_,none)=>none | some (_,some k)=>some (mx 1 (b.hold - k)))=none
 rcases hs:s.held with _ | ⟨x,_ | k⟩
 ·rw[hs] at h
  by_cases hg:tO b s=true
  ·simp[hg] at h
  ·simp[tT,hg]
 ·rfl
 ·rw[hs] at h;cases h
theorem xf{b:Bk}{s:WS}{n t:Int}(w:s.Ok b)(hn:0<=n)(h:l7 b s=some t)(hlt:n<t):l7 b (counted b s n)=some (t - n):=by
 unfold l7 at h ⊢
 show(match tT s.held n with | none=>if tO b s then some (wc b (counted b s n)) else none | some (_,none)=>none | some (_,some k)=>some (mx 1 (b.hold - k)))=_
 rcases hs:s.held with _ | ⟨x,_ | k⟩
 ·rw[hs] at h
  by_cases hg:tO b s=true
  ·simp[hg] at h
   simp[tT,hg]
   have hb:0<b.back:=by unfold tO at hg;simp at hg;exact hg.1
   have h1:=w.idle1 hb
   rw[xl h1] at h
   have hi:=vH w.toWk hn
   rw[hs] at hi
   rw[if_neg (by simp;omega),Int.emod_eq_of_lt (by have:=w.idle0;omega) (by omega)] at hi
   rw[xl (show(counted b s n).idle<b.back by show tS b s n<b.back;rw[hi];omega)]
   show b.back - tS b s n=_
   rw[hi]
   omega
  ·simp[hg] at h
 ·rw[hs] at h;cases h
 ·rw[hs] at h
  have hk:=w.held x k hs
  simp[tT] at h ⊢
  unfold mx at h ⊢
  split at h<;>split<;>omega
theorem vp{b:Bk}{s:WS}{t:Int}(h:l7 b s=some t):1<=t:=by
 unfold l7 at h
 split at h
 ·split at h
  ·cases h;exact PU _ _
  ·cases h
 ·cases h
 ·cases h;exact PU _ _
theorem WS.Ok.cnt{b:Bk}{s:WS}{n:Int}(w:s.Ok b)(hn:0<=n)(h:∀t,l7 b s=some t->n<t):(counted b s n).Ok b:=by
 refine {w.toWk.cnt hn with held:=fun x k e=>?_}
 have e':tT s.held n=some (x,some k):=e
 rcases hs:s.held with _ | ⟨y,_ | j⟩
 ·rw[hs] at e';cases e'
 ·rw[hs] at e';cases e'
 ·rw[hs] at e'
  simp[tT] at e'
  obtain⟨rfl,rfl⟩:=e'
  have hj:=w.held y j hs
  have ht:=h (mx 1 (b.hold - j)) (by unfold l7;rw[hs])
  unfold mx at ht
  split at ht<;>omega
theorem Cd{b:Bk}{s:WS}(ok:b.Ok)(w:s.Wk b):(turned b s).Ok b:=by
 refine {w.trn ok with held:=fun x k e=>?_}
 unfold turned at e
 split at e
 ·rename_i e2
  simp at e
  rw[e2] at e;cases e
 ·rw[By] at e;cases e
theorem De{b:Bk}{s:WS}{n:Int}(ok:b.Ok)(w:s.Ok b)(hn:0<=n):(ticked b s n).Ok b:=by
 unfold ticked
 split
 ·rename_i e
  exact w.cnt hn fun t ht=>by rw[e] at ht;cases ht
 ·rename_i t e
  have ht:=vp e
  split
  ·rename_i h
   exact w.cnt hn fun t' ht'=>by rw[e] at ht';cases ht';exact h
  ·rename_i h
   exact(Cd ok (w.toWk.cnt (by omega))).cnt (by omega) fun t' ht'=>by rw[x6] at ht';cases ht'
theorem AB{b:Bk}{s:WS}(w:s.Ok b):ticked b s 0=s:=by
 unfold ticked
 split
 ·exact xK w.toWk
 ·rename_i t e
  have ht:=vp e
  rw[if_pos (by omega)]
  exact xK w.toWk
theorem Bf{b:Bk}{s:WS}{m n:Int}(ok:b.Ok)(w:s.Ok b)(hm:0<=m)(hn:0<=n):ticked b (ticked b s m) n=ticked b s (m+n):=by
 cases e:l7 b s with
 | none =>
  have e1:ticked b s m=counted b s m:=by unfold ticked;rw[e]
  have e2:ticked b s (m+n)=counted b s (m+n):=by unfold ticked;rw[e]
  rw[e1,e2]
  have e3:=vT w.toWk hm e
  unfold ticked
  rw[e3]
  exact w8 w.toWk hm hn
 | some t =>
  have ht:=vp e
  by_cases h1:m<t
  ·have e1:ticked b s m=counted b s m:=by unfold ticked;rw[e];exact if_pos h1
   rw[e1]
   have e3:=xf w hm e h1
   unfold ticked
   rw[e3,e]
   dsimp only
   by_cases h2:m+n<t
   ·rw[if_pos (by omega),if_pos h2]
    exact w8 w.toWk hm hn
   ·rw[if_neg (by omega),if_neg h2]
    unfold behind
    rw[w8 w.toWk hm (by omega),show m+(t - m)=t by omega,show n - (t - m)=m+n - t by omega]
  ·have e1:ticked b s m=counted b (behind b s t) (m - t):=by unfold ticked;rw[e];exact if_neg h1
   have e2:ticked b s (m+n)=counted b (behind b s t) (m+n - t):=by unfold ticked;rw[e];exact if_neg (by omega)
   rw[e1,e2]
   have wb:=Cd ok (w.toWk.cnt (n:=t) (by omega))
   have e3:=vT (n:=m - t) wb.toWk (by omega) x6
   show ticked b (counted b (turned b (counted b s t)) (m - t)) n=_
   unfold ticked
   rw[e3]
   dsimp only
   rw[w8 wb.toWk (by omega) hn,show m - t+n=m+n - t by omega]
   rfl
theorem JQ{b:Bk}{s:WS}(ok:b.Ok)(w:s.Ok b)(x:vI):(pushed s x).Ok b:=by
 unfold pushed
 split
 ·exact w
 ·have hh:=ok.hold1
  refine {w with ring0:=Int.le_refl 0,ring1:=(by show(0:Int)<=10;decide),idle0:=Int.le_refl 0,idle1:=fun h=>h,idle2:=fun _=>rfl,held:=fun y k e=>?_}
  simp at e
  obtain⟨_,h2,h3⟩:=e
  subst h3
  omega
theorem Lo{b:Bk}{s:WS}(ok:b.Ok)(w:s.Ok b)(x:vI):(letGo b s x).Ok b:=by
 unfold letGo
 split
 ·split
  ·have z:(if (by assumption:Option Int).isSome then press b s x.ix else s).Wk b:=by
    split
    ·exact w.toWk.prs ok x.ix6
    ·exact w.toWk
   exact {z with idle0:=Int.le_refl 0,idle1:=fun h=>h,idle2:=fun _=>rfl,held:=fun y k e=>by cases e}
  ·exact w
 ·exact w
def Ev.Ok:Ev->Prop
 | .ticks n=>1<=n
 | _=>True
theorem xH{b:Bk}{s:WS}(ok:b.Ok)(w:s.Ok b)(e:Ev)(h:e.Ok):(gone b s e).Ok b:=by
 cases e with
 | down x=>exact JQ ok w x
 | up x=>exact Lo ok w x
 | ticks n=>exact De ok w (by have:1<=n:=h;omega)
def tm:WS:=⟨0,0,0,0,false,0,false,[],0,0,0,false,0,none,0⟩
theorem Bd{b:Bk}(ok:b.Ok):tm.Ok b where
 bk:=ok.back0
 mode:=ok.some1
 clock0:=by decide
 clock1:=by decide
 ah0:=by decide
 ah1:=by decide
 am0:=by decide
 am1:=by decide
 lm0:=by decide
 lk:=by decide
 cm0:=by decide
 cm1:=by decide
 cs0:=by decide
 cs1:=by decide
 cl0:=by decide
 cl1:=by decide
 cr:=by decide
 ring0:=by decide
 ring1:=by decide
 idle0:=by decide
 idle1:=fun h=>h
 idle2:=fun _=>rfl
 held:=fun x k e=>by cases e
def v9(b:Bk)(s:WS)(es:List Ev):WS:=es.foldl (gone b) s
theorem Bx{b:Bk}(ok:b.Ok):∀{es:List Ev} {s:WS},s.Ok b->(∀e∈es,e.Ok)->(v9 b s es).Ok b
 | [],_,w,_=>w
 | e::es,s,w,h=>Bx (es:=es) ok (xH ok w e (h e List.mem_cons_self)) fun x hx=>h x (List.mem_cons_of_mem _ hx)
theorem GI(b:Bk)(s:WS)(es fs:List Ev):v9 b s (es++fs)=v9 b (v9 b s es) fs:=List.foldl_append
abbrev Pr:=vI×Bool
def Pr.x(p:Pr):Str:=if p.2 then p.1.X else p.1.x
def Pr.ix(p:Pr):Nat:=if p.2 then p.1.ix+3 else p.1.ix
def Pr.evs(b:Bk)(p:Pr):List Ev:=if p.2 then [.down p.1,.ticks b.hold,.up p.1] else [.down p.1,.up p.1]
def Pr.code(p:Pr):Nat:=(if p.2 then 65 else 97)+p.1.ix
def m8(ps:List Pr):Str:=⟨(ps.map Pr.code).toArray⟩
theorem Pr.x_code(p:Pr):Pr.x p=⟨#[Pr.code p]⟩:=by
 obtain⟨x,l⟩:=p
 cases x<;>cases l<;>rfl
theorem zE(ps:List Pr):chars (m8 ps)=ps.map fun p=>.str (Pr.x p):=by
 simp[chars,m8,Pr.x_code]
theorem Pr.code_lt(p:Pr):Pr.code p<128:=by
 obtain⟨x,l⟩:=p
 cases x<;>cases l<;>decide
theorem zw(ps:List Pr):(m8 ps).cps.all (·<128)=true:=by
 rw[Array.all_eq_true']
 intro c hc
 simp[m8] at hc
 rcases hc with ⟨x,h⟩
 have:=Pr.code_lt
 rcases h with ⟨_,h⟩ | ⟨_,h⟩<;>(rw[<- h];simp[Pr.code_lt])
def zZ(b:Bk)(s:WS)(p:Pr):WS:=v9 b s (Pr.evs b p)
def vq(b:Bk)(s:WS)(ps:List Pr):WS:=ps.foldl (zZ b) s
theorem ET{b:Bk}(ok:b.Ok)(p:Pr):∀e∈Pr.evs b p,e.Ok:=by
 have h:=ok.hold1
 obtain⟨x,l⟩:=p
 cases l<;>simp[Pr.evs,Ev.Ok,h]
theorem Ci{b:Bk}{s:WS}(ok:b.Ok)(w:s.Ok b)(p:Pr):(zZ b s p).Ok b:=Bx ok w (ET ok p)
theorem An{b:Bk}(ok:b.Ok):∀{ps:List Pr} {s:WS},s.Ok b->(vq b s ps).Ok b
 | [],_,w=>w
 | p::ps,s,w=>An (ps:=ps) ok (Ci ok w p)
def BG:LD->Option (List Str)
 | []=>some []
 | d::r=>(sI d).bind fun x=>(BG r).map fun xs=>x::xs
def Au(sep:Str)(xs:List Str):Option Str:=if xs.toArray.foldl (fun n x=>n+x.length+sep.length) 0<=sizeLine/\(Builtin.Str.glued sep xs).length<=sizeLine then some (Builtin.Str.glued sep xs) else none
@[simp] def Cf:LD->OD
 | [.str s,.lst ds]=>(BG ds).bind fun xs=>(Au s xs).map .str
 | _=>none
@[simp] def Dd:LD->OD
 | [.str s,.lst ds]=>(BG ds.reverse).bind fun xs=>(Au s xs).map .str
 | _=>none
noncomputable def KH(x:Str)(n c:Nat):Str:=if n<=x.length then x else Builtin.Str.padded x (n - x.length) 0 c
@[simp] def Nm:LD->OD
 | [.str x,.int i,.str f]=>if 0<=i/\i<=1000/\f.length=1 then some (.str (KH x i.toNat (f.cps.getD 0 0))) else none
 | _=>none
@[simp] def Nj:D->Option Int->Option Int->OD
 | .str z,lo,hi=>if z.length<=sizeLine then some (.str (Txt.slice z lo hi)) else none
 | _,_,_=>none
@[simp] def Ms (f:R->OD) (l h:R->Option (Option Int)):R->OD:=fun ρ=>(f ρ).bind fun x=>(l ρ).bind fun a=>(h ρ).bind fun b=>Nj x a b
@[simp] def PR:LD->OD
 | [.str x]=>if x.length<=640 then (PySem.intText? x).map .int else none
 | _=>none
noncomputable def wj(a b c:Int):Nat:=if a<b then ((b - a - 1) / c+1).toNat else 0
def Aw(a b c:Int):LD:=(List.range (wj a b c)).map fun (k:Nat)=>D.int (a+(k:Int)*c)
@[simp] def C4 (f g h:R->OD):R->Option LD:=fun ρ=>(f ρ).bind fun x=>(g ρ).bind fun y=>(h ρ).bind fun z=>(nI x).bind fun i=>(nI y).bind fun j=>(nI z).bind fun c =>
 if -(2 ^ 60)<=i/\i<2 ^ 60 /\ -(2 ^ 60)<=j/\j<2 ^ 60/\0<c/\c<1073741824 then some (Aw i j c) else none
@[simp] def GQ (c:R->Option Bool):R->Option Out:=fun ρ=>(c ρ).bind fun b=>if b then none else some (.nx ρ)
@[simp] def FE:LD->OD
 | [.str x]=>if x.length<=sizeLine then some (.int x.length) else none
 | _=>none
end HW
namespace HW
open PySem PySem.Spec PyProof.Rows L2
section
variable{X:Cx}{pins:List (Addr×Obj)}{σ:L2.St}{H:Hp}{s:Shared}
end
theorem Ck{α:Type}:∀{l:List (Str×α)} {x:Str} {u:α},(l.map (·.1)).Nodup->(x,u)∈l->l.lookup x=some u
 | (y,v)::l,x,u,nd,h=>by
  rw[List.map_cons,List.nodup_cons] at nd
  rw[List.lookup_cons]
  rcases List.mem_cons.mp h with e | h
  ·cases e;simp
  ·have hn:(x==y)=false:=beq_eq_false_iff_ne.mpr fun z=>nd.1 (List.mem_map.mpr ⟨(x,u),h,z⟩)
   rw[hn]
   exact Ck nd.2 h
def Qb(cl:List (Str×Addr))(b:Addr):Bool:=cl.any fun p=>p.2==b
def Mv(x:Str):It:=⟨fun i _=>i<x.cps.size,fun i H v H'=>H'=H/\∃c,x.cps[i]?=some c/\v=.str ⟨#[c]⟩,fun i _=>x.cps.size<=i⟩
theorem HP{P:Program}{w:World}{K:W.Frag}{tg:Expr}(it:Addr)(x:Str)(t:Tok):Turn P w K tg (Mv x) [it] it (fun i h=>h.IsStrIter it "str_ascii_iterator" x t i) where
 mem:=by simp
 obj:=fun i h st b hb=>by
  have e:b=it:=by simpa using hb
  subst e
  obtain⟨o,e,c,d⟩:=st
  exact⟨o,e,fun v z=>by rw[d] at z;cases z⟩
 keep:=fun i h h' st k=>by
  obtain⟨o,e,r⟩:=st
  exact⟨o,k it (by simp) o e,r⟩
 item:=by
  intro X hP hw hK hc i pins s σ H E I hf st hg
  subst hP hw hK
  have hg':i<x.cps.size:=hg
  obtain⟨f0,f1,f2,f3,f4,f5⟩:=hf it (by simp)
  refine wpAny_pyNext_ascii_item st (c:=x.cps[i]) (by simp[hg']) fun h' st' sb=>?_
  have I1:L2.Inv X pins σ H {s with heap:=h',toks:=s.toks+1}:=I.turned (t':=s.toks+1) (fun b o hb e=>(sb.2 b hb).trans e) f0 f1 f3 f4 f5
  obtain⟨o,e,c,d⟩:=id st'
  exact⟨_,rfl,FI (s:={s with heap:=h',toks:=s.toks+1}) e c d (by decide) ⟨.str ⟨#[x.cps[i]]⟩,H,I1,⟨_,rfl⟩,⟨rfl,_,by simp[hg'],rfl⟩,st',fun b hb=>(hf b hb).1⟩⟩
 done:=by
  intro X hP hw hK hc i pins s σ H E I hf st hg
  subst hP hw hK
  have hg':x.cps.size<=i:=hg
  obtain⟨f0,f1,f2,f3,f4,f5⟩:=hf it (by simp)
  exact wpAny_pyNext_ascii_end (I.ok.hd hc) st (by simp;omega) fun h' eb=>⟨rfl,I.turned (t':=s.toks) (fun b o hb e=>eb b o hb e) f0 f1 f3 f4 f5⟩
 self:=fun _ _ _ _ _ st h=>wpAny_pyIter_striter_ascii st h
def Mj(H:Hp)(k a:Nat)(ks:List Str)(vs:List V):Prop:=match k with
 | 0=>vs.length<=sizeLine/\∃(its:List Value) (n:Nat),p9 vs its/\H a=some (.frz {cls:=.type "list",data:=.seq its.toArray n} (.own 0))
 | 1=>ks.length=vs.length/\H a=some (.dK ((ks.map Sum.inr).zip vs))
 | C+2=>ks.length=vs.length/\∃dx,H a=some (.ins C dx (ks.zip vs))
theorem Mj.to{H H':Hp}{k a:Nat}{ks:List Str}{vs:List V}(h:Mj H k a ks vs)(e:∀u,H a=some u->(∀ φ,u≠.ext φ)->H' a=some u):Mj H' k a ks vs:=by
 match k,h with
 | 0,⟨z,its,n,r,q⟩=>exact⟨z,its,n,r,e _ q fun φ z=>by cases z⟩
 | 1,⟨z,q⟩=>exact⟨z,e _ q fun φ z=>by cases z⟩
 | C+2,⟨z,dx,q⟩=>exact⟨z,dx,e _ q fun φ z=>by cases z⟩
mutual
def Rep(K:W.Frag)(H:Hp):D->V->Prop
 | .non,v=>v=.non
 | .bl b,v=>v=.bl b
 | .int i,v=>v=.int i
 | .str x,v=>v=.str x
 | .tup ds,v=>∃a xs,v=.ref a/\xy K H a xs/\l0 K H ds xs
 | .lst ds,v=>∃a xs,v=.ref a/\H a=some (.lst xs)/\l0 K H ds xs
 | .fro ds,v=>∃a xs,v=.ref a/\wZ K H a xs/\l0 K H ds xs
 | .obj k a ks ds,v=>∃xs,v=.ref a/\Mj H k a ks xs/\l0 K H ds xs
def l0(K:W.Frag)(H:Hp):LD->List V->Prop
 | [],vs=>vs=[]
 | d::ds,vs=>∃v r,vs=v::r/\Rep K H d v/\l0 K H ds r
end
theorem MM{K:W.Frag}{H H':Hp}{a:Addr}{xs:List V}(e:l3 H H')(h:xy K H a xs):xy K H' a xs:=by
 rcases h with (h | ⟨o,h⟩) | h
 ·exact .inl (.inl (e _ _ h))
 ·exact .inl (.inr ⟨o,e _ _ h⟩)
 ·exact .inr h
mutual
theorem Rep.mono{K:W.Frag}{H H':Hp}(s:l3 H H'):∀{d:D} {v:V},Rep K H d v->Rep K H' d v
 | .non,_,h=>h
 | .bl _,_,h=>h
 | .int _,_,h=>h
 | .str _,_,h=>h
 | .tup ds,_,h=>by
  obtain⟨a,xs,e,q,r⟩:=h
  exact⟨a,xs,e,MM s q,l0.mono s r⟩
 | .lst ds,_,h=>by
  obtain⟨a,xs,e,q,r⟩:=h
  exact⟨a,xs,e,s _ _ q,l0.mono s r⟩
 | .fro ds,_,h=>by
  obtain⟨a,xs,e,q,r⟩:=h
  exact⟨a,xs,e,s.seq q,l0.mono s r⟩
 | .obj k a ks ds,_,h=>by
  obtain⟨xs,e,q,r⟩:=h
  exact⟨xs,e,q.to fun u z _=>s _ u z,l0.mono s r⟩
theorem l0.mono{K:W.Frag}{H H':Hp}(s:l3 H H'):∀{ds:LD} {vs:List V},l0 K H ds vs->l0 K H' ds vs
 | [],_,h=>h
 | d::ds,_,h=>by
  obtain⟨v,r,e,q,t⟩:=h
  exact⟨v,r,e,Rep.mono s q,l0.mono s t⟩
end
section
variable{K:W.Frag}{H:Hp}
theorem l0.length:∀{ds:LD} {vs:List V},l0 K H ds vs->ds.length=vs.length
 | [],_,h=>by cases (show _=[] from h);rfl
 | d::ds,_,h=>by
  obtain⟨v,r,e,q,t⟩:=h
  subst e
  simp[l0.length t]
theorem l0.get:∀{ds:LD} {vs:List V} {i:Nat} {d:D},l0 K H ds vs->ds[i]?=some d->∃v,vs[i]?=some v/\Rep K H d v
 | [],_,_,_,_,e=>by simp at e
 | d::ds,_,0,_,h,e=>by
  obtain⟨v,r,e',q,t⟩:=h
  subst e'
  simp at e
  subst e
  exact⟨v,by simp,q⟩
 | d::ds,_,i+1,_,h,e=>by
  obtain⟨v,r,e',q,t⟩:=h
  subst e'
  obtain⟨u,h1,h2⟩:=l0.get (i:=i) t (by simpa using e)
  exact⟨u,by simpa using h1,h2⟩
theorem l0.append:∀{ds es:LD} {vs us:List V},l0 K H ds vs->l0 K H es us->l0 K H (ds++es) (vs++us)
 | [],_,_,_,h,t=>by cases (show _=[] from h);exact t
 | d::ds,_,_,_,h,t=>by
  obtain⟨v,r,e',q,t'⟩:=h
  subst e'
  exact⟨v,_,rfl,q,l0.append t' t⟩
theorem l0.drop:∀(n:Nat) {ds:LD} {vs:List V},l0 K H ds vs->l0 K H (ds.drop n) (vs.drop n)
 | 0,_,_,h=>by simpa using h
 | n+1,[],_,h=>by cases (show _=[] from h);exact rfl
 | n+1,d::ds,_,h=>by
  obtain⟨v,r,e',q,t'⟩:=h
  subst e'
  simpa using l0.drop n t'
theorem l0.take:∀(n:Nat) {ds:LD} {vs:List V},l0 K H ds vs->l0 K H (ds.take n) (vs.take n)
 | 0,_,_,h=>by simp only[List.take_zero];exact rfl
 | n+1,[],_,h=>by cases (show _=[] from h);exact rfl
 | n+1,d::ds,_,h=>by
  obtain⟨v,r,e',q,t'⟩:=h
  subst e'
  rw[List.take_succ_cons,List.take_succ_cons]
  exact⟨v,_,rfl,q,l0.take n t'⟩
theorem l0.one{d:D}{v:V}(h:Rep K H d v):l0 K H [d] [v]:=⟨v,[],rfl,h,rfl⟩
theorem l0.nil:l0 K H [] []:=rfl
theorem l0.cons{d:D}{v:V}{ds:LD}{vs:List V}(h:Rep K H d v)(t:l0 K H ds vs):l0 K H (d::ds) (v::vs):=⟨v,vs,rfl,h,t⟩
theorem l0.reverse:∀{ds:LD} {vs:List V},l0 K H ds vs->l0 K H ds.reverse vs.reverse
 | [],_,h=>by cases (show _=[] from h);exact rfl
 | d::ds,_,h=>by
  obtain⟨v,r,e',q,t'⟩:=h
  subst e'
  rw[List.reverse_cons,List.reverse_cons]
  exact l0.append (l0.reverse t') (l0.one q)
def uy(K:W.Frag)(H:Hp)(ρ:R)(σ:L2.St):Prop:=ρ.length<=σ.length/\∀(i:Nat) (d:D),ρ[i]?=some (some d)->∃v,σ[i]?=some (some v)/\Rep K H d v
theorem uy.mono{H':Hp}{ρ:R}{σ:L2.St}(e:uy K H ρ σ)(s:l3 H H'):uy K H' ρ σ:=⟨e.1,fun i d h=>let ⟨v,a,b⟩:=e.2 i d h;⟨v,a,b.mono s⟩⟩
theorem uy.at{ρ:R}{σ:L2.St}(e:uy K H ρ σ){i:Nat}{d:D}(h:e9 i ρ=some d):∃v,σ[i]?=some (some v)/\Rep K H d v:=by
 refine e.2 i d ?_
 unfold e9 at h
 rw[List.getD_eq_getElem?_getD] at h
 cases q:ρ[i]? with
 | none=>rw[q] at h;cases h
 | some o=>rw[q] at h;cases (show o=some d from h);rfl
theorem uy.set{ρ:R}{σ:L2.St}(e:uy K H ρ σ){i:Nat}{d:D}{v:V}(r:Rep K H d v):uy K H (ρ.set i (some d)) (σ.set i (some v)):=by
 refine⟨by simpa using e.1,fun j c h=>?_⟩
 by_cases hj:i=j
 ·subst hj
  by_cases hi:i<ρ.length
  ·rw[List.getElem?_set_self hi] at h
   cases h
   exact⟨v,by rw[List.getElem?_set_self (Nat.lt_of_lt_of_le hi e.1)],r⟩
  ·rw[List.getElem?_eq_none (by simpa using hi)] at h
   cases h
 ·rw[List.getElem?_set_ne hj] at h ⊢
  exact e.2 j c h
theorem uy.front{ρ:R}{σ:L2.St}(e:uy K H ρ σ)(k:Nat)(τ:L2.St)(hk:τ.length=k):uy K H (List.replicate k none++ρ) (τ++σ):=by
 subst hk
 refine⟨by simpa using e.1,fun i d h=>?_⟩
 by_cases hi:i<τ.length
 ·rw[List.getElem?_append_left (by simpa using hi),List.getElem?_replicate] at h
  split at h<;>cases h
 ·rw[List.getElem?_append_right (by simpa using hi),List.length_replicate] at h
  rw[List.getElem?_append_right (by simpa using hi)]
  exact e.2 _ d h
end
def uv(K:W.Frag)(H:Hp)(ρ:R)(τ:L2.St)(σ:L2.St):Prop:=uy K H ρ σ/\σ.drop ρ.length=τ
theorem uy.t{K:W.Frag}{H:Hp}{ρ:R}{σ:L2.St}(e:uy K H ρ σ):uv K H ρ (σ.drop ρ.length) σ:=⟨e,rfl⟩
theorem uv.mono{K:W.Frag}{H H':Hp}{ρ:R}{τ σ:L2.St}(e:uv K H ρ τ σ)(s:l3 H H'):uv K H' ρ τ σ:=⟨e.1.mono s,e.2⟩
theorem uv.set{K:W.Frag}{H:Hp}{ρ:R}{τ σ:L2.St}(e:uv K H ρ τ σ){i:Nat}{d:D}{v:V}(hi:i<ρ.length)(r:Rep K H d v):uv K H (ρ.set i (some d)) τ (σ.set i (some v)):=by
 refine⟨e.1.set r,?_⟩
 rw[List.length_set,List.drop_set_of_lt hi]
 exact e.2
section
variable(K:W.Frag)
def tD(f:R->OD):TE:=fun σ H Q=>∃ ρ d,uy K H ρ σ/\f ρ=some d/\∀v H',l3 H H'->Rep K H' d v->Q v H'
def MJ(f:R->Option Bool):TT:=fun σ H Q=>∃ ρ b,uy K H ρ σ/\f ρ=some b/\∀H',l3 H H'->Q b H'
def O6(f:R->Option LD):TA:=fun σ H Q=>∃ ρ ds,uy K H ρ σ/\f ρ=some ds/\∀vs H',l3 H H'->l0 K H' ds vs->Q vs H'
def P7(f:R->Option (Option Int)):TO:=fun σ H Q=>∃ ρ o,uy K H ρ σ/\f ρ=some o/\∀H',l3 H H'->Q o H'
def fin(E:Ends)(τ:L2.St)(o:Out)(H':Hp):Prop:=
 match o with
 | .nx ρ=>∀ σ,uv K H' ρ τ σ->E.nx σ H'
 | .rt d=>∀v,Rep K H' d v->E.rt v H'
 | .bk ρ=>∀ σ,uv K H' ρ τ σ->E.bk σ H'
 | .ct ρ=>∀ σ,uv K H' ρ τ σ->E.ct σ H'
def KR(f:R->Option Out):TS:=fun E σ H=>∃ ρ τ o,uv K H ρ τ σ/\f ρ=some o/\∀H',l3 H H'->fin K E τ o H'
def Qt(st:D->R->Option R):TG:=fun v σ H Q=>∃ ρ τ d ρ',uv K H ρ τ σ/\Rep K H d v/\st d ρ=some ρ'/\∀ σ' H',l3 H H'->uv K H' ρ' τ σ'->Q σ' H'
def O1(sts:List (D->R->Option R)):JZ:=fun vs σ H Q=>∃ ρ τ ds ρ',uv K H ρ τ σ/\l0 K H ds vs/\Gh sts ds ρ=some ρ'/\∀ σ' H',l3 H H'->uv K H' ρ' τ σ'->Q σ' H'
def Kp(H H':Hp):Prop:=∀b u,H b=some u->(∀ φ,u≠.ext φ)->H' b=some u
def xB(J:It)(ds:LD)(H:Hp):Prop:=
 (∀(i:Nat) (d:D) (H2:Hp),Kp H H2->ds[i]?=some d->J.go i H2/\∀x H3,J.yld i H2 x H3->l3 H2 H3/\Rep K H3 d x)/\∀(i:Nat) (H2:Hp),Kp H H2->ds.length<=i->J.stop i H2
def Qr(f:R->Option LD):TI:=fun σ H W=>∃ ρ ds,uy K H ρ σ/\f ρ=some ds/\∀J H',l3 H H'->xB K J ds H'->W J H'
def uE(F:LD->OD):Sp:=fun vs H Q _=>∃ds d,l0 K H ds vs/\F ds=some d/\∀v H',l3 H H'->Rep K H' d v->Q v H'
end
def SE(X:Cx)(e:Expr)(f:R->OD):Prop:=PE X e (tD X.K f)
def ST(X:Cx)(e:Expr)(f:R->Option Bool):Prop:=PT X e (MJ X.K f)
def SW(X:Cx)(e:Expr)(f:R->Option Bool):Prop:=PW X e (MJ X.K f)
def noStar:Expr->Bool
 | .Starred _ _=>false
 | _=>true
theorem aK{e:Expr}(es:List Expr)(env:Env)(h:noStar e=true):starEach (e::es) env=(false,eval e env)::starEach es env:=by
 cases e<;>first | rfl | cases h
theorem cP{pos:Pos}{env:Env}:∀{es:List Expr},es.all noStar=true->(backTo pos (starEach es env)).any (·.1)=false
 | [],_=>rfl
 | e::es,h=>by
  rw[List.all_cons,Bool.and_eq_true] at h
  rw[aK es env h.1]
  show(false||(backTo pos (starEach es env)).any (·.1))=false
  rw[cP h.2]
  rfl
def SA(X:Cx)(es:List Expr)(f:R->Option LD):Prop:=PA X es (O6 X.K f)/\(∀ ρ ds,f ρ=some ds->ds.length=es.length)/\es.all noStar=true
def SO(X:Cx)(e:Option Expr)(f:R->Option (Option Int)):Prop:=PO X e (P7 X.K f)
def S1(X:Cx)(s:Stmt)(f:R->Option Out):Prop:=PS X s (KR X.K f)
def SS(X:Cx)(s:List Stmt)(f:R->Option Out):Prop:=PSs X s (KR X.K f)
def SG(X:Cx)(e:Expr)(st:D->R->Option R):Prop:=PG X e (Qt X.K st)
def N_(X:Cx)(es:List Expr)(sts:List (D->R->Option R)):Prop:=PGs X es (O1 X.K sts)
def SI(X:Cx)(tg iter:Expr)(f:R->Option LD):Prop:=PI X tg iter (Qr X.K f)
section
variable{X:Cx}{e a b c:Expr}{es:List Expr}{pos p:Pos}
theorem _root_.L2.PE.imp{t t':TE}(h:PE X e t)(hi:∀ σ H Q,t' σ H Q->t σ H Q):PE X e t':=fun pins s σ H Q I q=>h pins s σ H Q I (hi σ H Q q)
theorem _root_.L2.PT.imp{t t':TT}(h:PT X e t)(hi:∀ σ H Q,t' σ H Q->t σ H Q):PT X e t':=fun pins s σ H Q I q=>h pins s σ H Q I (hi σ H Q q)
theorem _root_.L2.PW.imp{t t':TT}(h:PW X e t)(hi:∀ σ H Q,t' σ H Q->t σ H Q):PW X e t':=fun wh pins s σ H Q I q=>h wh pins s σ H Q I (hi σ H Q q)
theorem _root_.L2.PA.imp{t t':TA}(h:PA X es t)(hi:∀ σ H Q,t' σ H Q->t σ H Q):PA X es t':=fun pos pins s σ H Q I q=>h pos pins s σ H Q I (hi σ H Q q)
theorem _root_.L2.PO.imp{e:Option Expr}{t t':TO}(h:PO X e t)(hi:∀ σ H Q,t' σ H Q->t σ H Q):PO X e t':=fun pins s σ H Q I q=>h pins s σ H Q I (hi σ H Q q)
theorem _root_.L2.PS.imp{s:Stmt}{t t':TS}(h:PS X s t)(hi:∀E σ H,t' E σ H->t E σ H):PS X s t':=fun pins s σ H E I q=>h pins s σ H E I (hi E σ H q)
theorem _root_.L2.PSs.imp{s:List Stmt}{t t':TS}(h:PSs X s t)(hi:∀E σ H,t' E σ H->t E σ H):PSs X s t':=fun pins s σ H E I q=>h pins s σ H E I (hi E σ H q)
theorem _root_.L2.PG.imp{t t':TG}(h:PG X e t)(hi:∀v σ H Q,t' v σ H Q->t v σ H Q):PG X e t':=fun pins s σ H v u Q I r q=>h pins s σ H v u Q I r (hi v σ H Q q)
theorem _root_.L2.PGs.imp{t t':JZ}(h:PGs X es t)(hi:∀v σ H Q,t' v σ H Q->t v σ H Q):PGs X es t':=fun pins s σ H v u Q I r q=>h pins s σ H v u Q I r (hi v σ H Q q)
theorem _root_.L2.PI.imp{tg:Expr}{t t':TI}(h:PI X tg e t)(hi:∀ σ H Q,t' σ H Q->t σ H Q):PI X tg e t':=fun pins s σ H W I q=>h pins s σ H W I (hi σ H W q)
theorem i9{α β:Type}{o:Option α}{f:α->Option β}{y:β}(h:o.bind f=some y):∃x,o=some x/\f x=some y:=by
 cases o with
 | none=>cases h
 | some x=>exact⟨x,rfl,h⟩
theorem ud{α β:Type}{o:Option α}{f:α->β}{y:β}(h:o.map f=some y):∃x,o=some x/\f x=y:=by
 cases o with
 | none=>cases h
 | some x=>exact⟨x,rfl,Option.some.inj h⟩
theorem ac(i:Nat){x:Str}(hN:X.N[i]?=some x:=by rfl)(hv:G0 X.env.scope x:=by first | exact Or.inl rfl | exact Or.inr (Or.inl rfl) | exact Or.inr (Or.inr rfl))(hd:(x==("__debug__" : Str))=false:=by decide)
  (hcd:(x==("__classdict__" : Str))=false:=by decide):SE X (.Name x pos) (e9 i):=(mm hN hv hd hcd).imp fun σ H Q ⟨ρ,d,er,e,q⟩=>by
 obtain⟨v,h1,h2⟩:=er.at e
 exact⟨v,h1,q v H (l3.refl H) h2⟩
theorem ae{i j}:SE X (.Constant (.int i) j pos) (kI i):=Lc.imp fun σ H Q ⟨ρ,d,er,e,q⟩=>by
 cases e
 exact q _ H (l3.refl H) rfl
theorem en{b j}:SE X (.Constant (.bool b) j pos) (fun _=>some (.bl b)):=MH.imp fun σ H Q ⟨ρ,d,er,e,q⟩=>by
 cases e
 exact q _ H (l3.refl H) rfl
theorem aM{j}:SE X (.Constant .none j pos) (fun _=>some .non):=L9.imp fun σ H Q ⟨ρ,d,er,e,q⟩=>by
 cases e
 exact q _ H (l3.refl H) rfl
theorem ag{x j}:SE X (.Constant (.str x) j pos) (fun _=>some (.str x)):=K0.imp fun σ H Q ⟨ρ,d,er,e,q⟩=>by
 cases e
 exact q _ H (l3.refl H) rfl
def uZ(K:W.Frag)(mg:Str->Option Value)(x:Str)(d:D):Prop:=∃u v,mg x=some u/\RelV v u/\∀H,Rep K H d v
theorem ay{x:Str}{d:D}(h:uZ X.K X.mg x d)(hg:Gl X x:=by rfl)(hd:(x==("__debug__" : Str))=false:=by decide):SE X (.Name x pos) (fun _=>some d):=by
 obtain⟨u,v,hm,r,hr⟩:=h
 exact(kd hg hm r hd).imp fun σ H Q ⟨ρ,d',er,e,q⟩=>by
  cases e
  exact q v H (l3.refl H) (hr H)
def K2(X:Cx)(f:Value->Value->Sem Value)(F:D->D->OD):Prop:=
 OpR X f fun x y H Q=>∃dx dy d,Rep X.K H dx x/\Rep X.K H dy y/\F dx dy=some d/\∀v H',l3 H H'->Rep X.K H' d v->Q v H'
def Gm(X:Cx)(op:CmpOp)(F:D->D->Option Bool):Prop:=
 OpR X (compareOp op) fun x y H Q=>∃dx dy b,Rep X.K H dx x/\Rep X.K H dy y/\F dx dy=some b/\Q (.bl b) H
def PD(X:Cx)(f:Value->Sem Value)(F:D->OD):Prop:=
 UnR X f fun x H Q=>∃dx d,Rep X.K H dx x/\F dx=some d/\∀v H',l3 H H'->Rep X.K H' d v->Q v H'
def JO(X:Cx)(f:Value)(F:LD->OD):Prop:=
 CallR X f fun xs H Q=>∃ds d,l0 X.K H ds xs/\F ds=some d/\∀v H',l3 H H'->Rep X.K H' d v->Q v H'
theorem _root_.L2.OpR.imp{f:Value->Value->Sem Value}{r r':R2}(h:OpR X f r)(hi:∀x y H Q,r' x y H Q->r x y H Q):OpR X f r':=fun pins s σ H x y v u Q I rx ry q=>h pins s σ H x y v u Q I rx ry (hi x y H Q q)
theorem _root_.L2.UnR.imp{f:Value->Sem Value}{r r':V->Hp->VK->Prop}(h:UnR X f r)(hi:∀x H Q,r' x H Q->r x H Q):UnR X f r':=fun pins s σ H x v Q I rx q=>h pins s σ H x v Q I rx (hi x H Q q)
theorem _root_.L2.CallR.imp{f:Value}{r r':List V->Hp->VK->Prop}(h:CallR X f r)(hi:∀x H Q,r' x H Q->r x H Q):CallR X f r':=fun pins s σ H xs us Q I rx q=>h pins s σ H xs us Q I rx (hi xs H Q q)
variable{f g h:R->OD}
theorem two{σ:L2.St}{H:Hp}{Q:VK}{F:D->D->OD}(q:tD X.K (i5 F f g) σ H Q) :
  tD X.K f σ H fun x H1=>tD X.K g σ H1 fun y H2=>∃dx dy d,Rep X.K H2 dx x/\Rep X.K H2 dy y/\F dx dy=some d/\∀v H',l3 H2 H'->Rep X.K H' d v->Q v H':=by
 obtain⟨ρ,d,er,e,q⟩:=q
 obtain⟨x,e1,e⟩:=i9 e
 obtain⟨y,e2,e⟩:=i9 e
 exact⟨ρ,x,er,e1,fun v H1 s1 r1=>⟨ρ,y,er.mono s1,e2,fun u H2 s2 r2=>⟨x,y,d,r1.mono s2,r2,e,fun w H3 s3 r3=>q w H3 (s1.trans (s2.trans s3)) r3⟩⟩⟩
theorem al{op:Operator}{F:D->D->OD}(ho:K2 X (binaryOp op) F)(ha:SE X a f)(hb:SE X b g):SE X (.BinOp a op b pos) (i5 F f g):=(sV ho ha hb).imp fun σ H Q q=>two q
theorem sP{op:UnaryOp}{F:D->OD}(ho:PD X (unaryOp op) F)(ha:SE X a f):SE X (.UnaryOp op a pos) (Fi F f):=(sM ho ha).imp fun σ H Q ⟨ρ,d,er,e,q⟩=>by
 obtain⟨x,e1,e⟩:=i9 e
 exact⟨ρ,x,er,e1,fun v H1 s1 r1=>⟨x,d,r1,e,fun w H2 s2 r2=>q w H2 (s1.trans s2) r2⟩⟩
theorem OK{σ:L2.St}{H:Hp}{Q:Bool->Hp->Prop}{F:D->D->Option Bool}(q:MJ X.K (l4 F f g) σ H Q) :
  tD X.K f σ H fun x H1=>tD X.K g σ H1 fun y H2=>∃dx dy b,Rep X.K H2 dx x/\Rep X.K H2 dy y/\F dx dy=some b/\Q b H2:=by
 obtain⟨ρ,d,er,e,q⟩:=q
 obtain⟨x,e1,e⟩:=i9 e
 obtain⟨y,e2,e⟩:=i9 e
 exact⟨ρ,x,er,e1,fun v H1 s1 r1=>⟨ρ,y,er.mono s1,e2,fun u H2 s2 r2=>⟨x,y,d,r1.mono s2,r2,e,q H2 (s1.trans s2)⟩⟩⟩
theorem KY{σ:L2.St}{H:Hp}{Q:VK}{f:R->Option Bool}(q:tD X.K (x5 f) σ H Q):MJ X.K f σ H fun b H'=>Q (.bl b) H':=by
 obtain⟨ρ,d,er,e,q⟩:=q
 obtain⟨x,e1,e⟩:=ud e
 subst e
 exact⟨ρ,x,er,e1,fun H1 s1=>q _ H1 s1 rfl⟩
theorem bH{op:CmpOp}{F:D->D->Option Bool}(ho:Gm X op F)(ha:SE X a f)(hb:SE X b g)(hm:behindInMarks op b=false:=by first | exact Io _ | with_unfolding_all rfl) :
  SE X (.Compare a [op] [b] pos) (x5 (l4 F f g)):=(qO ho ha hb hm).imp fun σ H Q q=>OK (KY q)
theorem aE{op:CmpOp}{F:D->D->Option Bool}(ho:Gm X op F)(ha:SE X a f)(hb:SE X b g)(hm:behindInMarks op b=false:=by first | exact Io _ | with_unfolding_all rfl) :
  ST X (.Compare a [op] [b] pos) (l4 F f g):=(qQ ho ha hb hm).imp fun σ H Q q=>by
 obtain⟨ρ,d,er,e,q⟩:=q
 obtain⟨x,e1,e⟩:=i9 e
 obtain⟨y,e2,e⟩:=i9 e
 exact⟨ρ,x,er,e1,fun v H1 s1 r1=>⟨ρ,y,er.mono s1,e2,fun u H2 s2 r2=>⟨x,y,d,r1.mono s2,r2,e,d,rfl,q H2 (s1.trans s2)⟩⟩⟩
theorem J2{H:Hp}{d:D}{v:V}{b:Bool}{K:W.Frag}(r:Rep K H d v)(e:Le d=some b):LH K v H b:=by
 cases d with
 | non=>cases (show v=_ from r);cases e;exact rfl
 | bl c=>cases (show v=_ from r);cases e;exact rfl
 | int i=>cases (show v=_ from r);cases e;exact rfl
 | str x =>
  cases (show v=_ from r)
  unfold Le at e
  dsimp only at e
  split at e
  ·rename_i hx
   cases e
   exact⟨hx,rfl⟩
  ·cases e
 | tup ds =>
  obtain⟨a,xs,rfl,q,t⟩:=r
  cases e
  refine .inr (.inl ⟨xs,q,?_⟩)
  cases ds with
  | nil=>cases (show xs=[] from t);rfl
  | cons d ds=>obtain⟨_,_,rfl,_⟩:=t;rfl
 | lst ds =>
  obtain⟨a,xs,rfl,q,t⟩:=r
  cases e
  refine .inl ⟨xs,wZ.of q,?_⟩
  cases ds with
  | nil=>cases (show xs=[] from t);rfl
  | cons d ds=>obtain⟨_,_,rfl,_⟩:=t;rfl
 | fro ds =>
  obtain⟨a,xs,rfl,q,t⟩:=r
  cases e
  refine .inl ⟨xs,q,?_⟩
  cases ds with
  | nil=>cases (show xs=[] from t);rfl
  | cons d ds=>obtain⟨_,_,rfl,_⟩:=t;rfl
 | obj k a ks ds=>cases e
theorem bV(ha:SE X a f)(he:∀whole,isTrue a X.env whole=(do let v <- whole;standAt a.pos;holding [v] (truthy v)):=by intro _;rfl):ST X a (u_ f):=(qz ha he).imp fun σ H Q ⟨ρ,b,er,e,q⟩=>by
 obtain⟨x,e1,e⟩:=i9 e
 exact⟨ρ,x,er,e1,fun v H1 s1 r1=>⟨b,J2 r1 e,q H1 s1⟩⟩
variable{s t:R->Option Bool}{rest:List Expr}
theorem dC{e:Expr}(h:SW X e s):ST X e s:=PW.pt h
theorem di(ha:ST X a s):SW X (.BoolOp .And [a] pos) s:=JM ha
theorem iM(ha:ST X a s):SW X (.BoolOp .Or [a] pos) s:=LK ha
theorem eN(ha:ST X a s)(hb:SW X (.BoolOp .And (b::rest) pos) t):SW X (.BoolOp .And (a::b::rest) pos) (x4 s t):=(K3 ha hb).imp fun σ H Q ⟨ρ,k,er,e,q⟩=>by
 obtain⟨x,e1,e⟩:=i9 e
 refine⟨ρ,x,er,e1,fun H1 s1=>?_⟩
 cases x with
 | false=>cases e;rw[if_neg Bool.false_ne_true];exact q H1 s1
 | true=>rw[if_pos rfl] at e ⊢;exact⟨ρ,k,er.mono s1,e,fun H2 s2=>q H2 (s1.trans s2)⟩
theorem lY(ha:ST X a s)(hb:SW X (.BoolOp .Or (b::rest) pos) t):SW X (.BoolOp .Or (a::b::rest) pos) (IW s t):=(M1 ha hb).imp fun σ H Q ⟨ρ,k,er,e,q⟩=>by
 obtain⟨x,e1,e⟩:=i9 e
 refine⟨ρ,x,er,e1,fun H1 s1=>?_⟩
 cases x with
 | true=>cases e;rw[if_pos rfl];exact q H1 s1
 | false=>rw[if_neg Bool.false_ne_true] at e ⊢;exact⟨ρ,k,er.mono s1,e,fun H2 s2=>q H2 (s1.trans s2)⟩
theorem gT(ha:ST X a s):ST X (.UnaryOp .Not a pos) (y7 s):=(sF ha).imp fun σ H Q ⟨ρ,k,er,e,q⟩=>by
 obtain⟨x,e1,e⟩:=ud e
 subst e
 exact⟨ρ,x,er,e1,fun H1 s1=>q H1 s1⟩
theorem gJ{op}(ha:SE X a f):SE X (.BoolOp op [a] pos) f:=sC ha
theorem fO(ha:SE X a f)(hb:SE X (.BoolOp .And (b::rest) pos) g):SE X (.BoolOp .And (a::b::rest) pos) (zJ f g):=(sg ha hb).imp fun σ H Q ⟨ρ,d,er,e,q⟩=>by
 obtain⟨x,e1,e⟩:=i9 e
 refine⟨ρ,x,er,e1,fun v H1 s1 r1=>?_⟩
 cases x with
 | bl c =>
  cases (show v=_ from r1)
  refine⟨c,rfl,?_⟩
  cases c with
  | false=>cases e;rw[if_neg Bool.false_ne_true];exact q _ H1 s1 rfl
  | true=>rw[if_pos rfl];exact⟨ρ,d,er.mono s1,e,fun v H2 s2 r2=>q v H2 (s1.trans s2) r2⟩
 | _=>cases e
theorem fT(ha:SE X a f):SE X (.UnaryOp .Not a pos) (yj f):=(rZ ha).imp fun σ H Q ⟨ρ,d,er,e,q⟩=>by
 obtain⟨x,e1,e⟩:=i9 e
 refine⟨ρ,x,er,e1,fun v H1 s1 r1=>?_⟩
 cases x with
 | bl c =>
  cases (show v=_ from r1)
  cases e
  exact⟨c,rfl,q _ H1 s1 rfl⟩
 | _=>cases e
theorem fW(hc:ST X c s)(ha:SE X a f)(hb:SE X b g):SE X (.IfExp c a b pos) (FO s f g):=(pw hc ha hb).imp fun σ H Q ⟨ρ,d,er,e,q⟩=>by
 obtain⟨x,e1,e⟩:=i9 e
 refine⟨ρ,x,er,e1,fun H1 s1=>?_⟩
 cases x with
 | true=>rw[if_pos rfl] at e ⊢;exact⟨ρ,d,er.mono s1,e,fun v H2 s2 r2=>q v H2 (s1.trans s2) r2⟩
 | false=>rw[if_neg Bool.false_ne_true] at e ⊢;exact⟨ρ,d,er.mono s1,e,fun v H2 s2 r2=>q v H2 (s1.trans s2) r2⟩
variable{F:R->Option LD}
theorem af:SA X [] i3:=⟨HD.imp fun σ H Q ⟨ρ,d,er,e,q⟩=>by cases e;exact q [] H (l3.refl H) rfl,fun ρ ds e=>by cases e;rfl,rfl⟩
theorem ab(ha:SE X e f)(hr:SA X es F)(hs:noStar e=true:=by rfl):SA X (e::es) (e8 f F):=⟨(nP ha hr.1 (aK es X.env hs)).imp fun σ H Q ⟨ρ,ds,er,e,q⟩=>by
 obtain⟨x,e1,e⟩:=i9 e
 obtain⟨y,e2,e⟩:=ud e
 subst e
 exact⟨ρ,x,er,e1,fun v H1 s1 r1=>⟨ρ,y,er.mono s1,e2,fun vs H2 s2 r2=>q _ H2 (s1.trans s2) (l0.cons (r1.mono s2) r2)⟩⟩,fun ρ ds e=>by
 obtain⟨x,e1,e⟩:=i9 e
 obtain⟨y,e2,e⟩:=ud e
 subst e
 simp[hr.2.1 ρ y e2],by rw[List.all_cons,hs,hr.2.2];rfl⟩
theorem aN{H:Hp}{p:Addr}(h:H p=none)(o:HO):l3 H (upd H p o):=fun b u q=>by rw[au (ux q h)];exact q
theorem av{k}(h:SA X es F)(hl:Nat.ble es.length 1000=true:=by rfl):SE X (.Tuple es k pos) (l5 F):=(qv h.1).imp fun σ H Q ⟨ρ,d,er,e,q⟩=>by
 obtain⟨ds,e1,e⟩:=ud e
 subst e
 refine⟨ρ,ds,er,e1,fun vs H1 s1 r1=>⟨?_,fun p hp=>?_⟩⟩
 ·rw[<- r1.length,h.2.1 ρ ds e1];exact Nat.le_of_lt (yH (Nat.le_of_ble_eq_true hl))
 ·have s2:=aN hp (.tup vs)
  exact q _ _ (s1.trans s2) ⟨p,vs,rfl,xy.of ax,r1.mono s2⟩
theorem gu(h:SA X es F)(hl:Nat.ble es.length 1000=true:=by rfl):SE X (.List es pos) (BB F):=(mE h.1).imp fun σ H Q ⟨ρ,d,er,e,q⟩=>by
 obtain⟨ds,e1,e⟩:=ud e
 subst e
 refine⟨ρ,ds,er,e1,fun vs H1 s1 r1=>⟨?_,fun p hp=>?_⟩⟩
 ·rw[<- r1.length,h.2.1 ρ ds e1];exact Nat.le_of_lt (yH (Nat.le_of_ble_eq_true hl))
 ·have s2:=aN hp (.lst vs)
  exact q _ _ (s1.trans s2) ⟨p,vs,rfl,ax,r1.mono s2⟩
structure p6 (P:Program) (w:World) (K:W.Frag) (mg:Str->Option Value) (base:Heap) (k:Nat) (x:Str) (ps:List Str) (F:LD->OD):Prop where
 ex:∃f fd,n5 P w K mg base ui k f fd ps (uE K F)/\mg x=some (.ref f)/\W.keepIn K (.ref f)=true/\Binds K fd ps []
theorem p6.mono{P:Program}{w:World}{K:W.Frag}{mg:Str->Option Value}{base:Heap}{j k:Nat}{x:Str}{ps:List Str}{F:LD->OD}(h:p6 P w K mg base j x ps F)(hk:j<=k):p6 P w K mg base k x ps F:=by
 obtain⟨f,fd,a,b⟩:=h.ex
 exact⟨f,fd,a.mono hk,b⟩
theorem p6.imp{P:Program}{w:World}{K:W.Frag}{mg:Str->Option Value}{base:Heap}{k:Nat}{x:Str}{ps:List Str}{F G:LD->OD}(h:p6 P w K mg base k x ps F)(hi:∀ds d,G ds=some d->F ds=some d):p6 P w K mg base k x ps G:=by
 obtain⟨f,fd,a,b⟩:=h.ex
 exact⟨f,fd,a.imp fun vs H Q E ⟨ds,d,r,e,q⟩=>⟨ds,d,r,hi ds d e,q⟩,b⟩
theorem ak{k:Nat}{x:Str}{ps:List Str}{G:LD->OD}(C:p6 X.prog X.w X.K X.mg X.base k x ps G)(hr:uB k X.A)(ha:SA X (e::es) F)(hg:Gl X x:=by rfl)
  (hdb:(x==("__debug__" : Str))=false:=by decide) :
  SE X (.Call (.Name x p) (e::es) [] pos) (i4 G F):=by
 have hst:=ha.2.2
 rw[List.all_cons,Bool.and_eq_true] at hst
 have he:=aK es X.env hst.1
 have hpl:=cP (pos:=pos) (env:=X.env) hst.2
 obtain⟨f,fd,a,m,kp,bd⟩:=C.ex
 refine(io a hr hg m kp bd .nil D7 ha.1 hdb he hpl).imp fun σ H Q ⟨ρ,d,er,e,q⟩=>?_
 obtain⟨ds,e1,e⟩:=i9 e
 exact⟨ρ,ds,er,e1,fun vs H1 s1 r1=>⟨ds,d,by rw[List.append_nil];exact r1,e,fun v H2 s2 r2=>q v H2 (s1.trans s2) r2⟩⟩
theorem bW{x:Str}{id:String}{G:LD->OD}(hc:JO X (.builtin id) G)(hm:X.mg x=none)(ha:SA X (e::es) F)(hv:bootBuiltins x=some (.builtin id):=by kernel_rfl)(hg:Gl X x:=by rfl)(hn:x ≠ "__name__":=by decide)(hdb:(x==("__debug__" : Str))=false:=by decide):SE X (.Call (.Name x p) (e::es) [] pos) (i4 G F):=
 (qu hc hg hm hv ha.1 hn hdb (aK es X.env (List.all_eq_true.mp ha.2.2 e List.mem_cons_self)) (cP (List.all_eq_true.mpr fun x hx=>List.all_eq_true.mp ha.2.2 x (List.mem_cons_of_mem _ hx)))).imp fun σ H Q ⟨ρ,d,er,e,q⟩=>by
  obtain⟨ds,e1,e⟩:=i9 e
  exact⟨ρ,ds,er,e1,fun vs H1 s1 r1=>⟨ds,d,r1,e,fun v H2 s2 r2=>q v H2 (s1.trans s2) r2⟩⟩
theorem bm{x:Str}{T:String}{G:LD->OD}(hc:JO X (.type T) G)(hm:X.mg x=none)(ha:SA X (e::es) F)(hv:bootBuiltins x=some (.type T):=by kernel_rfl)(hg:Gl X x:=by rfl)(hn:x ≠ "__name__":=by decide)(hdb:(x==("__debug__" : Str))=false:=by decide):SE X (.Call (.Name x p) (e::es) [] pos) (i4 G F):=
 (og hc hg hm hv ha.1 hn hdb (aK es X.env (List.all_eq_true.mp ha.2.2 e List.mem_cons_self)) (cP (List.all_eq_true.mpr fun x hx=>List.all_eq_true.mp ha.2.2 x (List.mem_cons_of_mem _ hx)))).imp fun σ H Q ⟨ρ,d,er,e,q⟩=>by
  obtain⟨ds,e1,e⟩:=i9 e
  exact⟨ρ,ds,er,e1,fun vs H1 s1 r1=>⟨ds,d,r1,e,fun v H2 s2 r2=>q v H2 (s1.trans s2) r2⟩⟩
def Qh(X:Cx)(F:D->D->OD):Prop:=IxR X fun x y H Q=>∃dx dy d,Rep X.K H dx x/\Rep X.K H dy y/\F dx dy=some d/\∀v H',l3 H H'->Rep X.K H' d v->Q v H'
theorem _root_.L2.IxR.imp{r r':R2}(h:IxR X r)(hi:∀x y H Q,r' x y H Q->r x y H Q):IxR X r':=fun value slice pins s σ H x y v u Q I rx ry q hs=>h value slice pins s σ H x y v u Q I rx ry (hi x y H Q q) hs
theorem Ls(n:Nat)(i:Int):Mw n i=Ni n i:=rfl
theorem Dp{K:W.Frag}{H:Hp}{ds:LD}{xs:List V}{i:Int}{d:D}(r:l0 K H ds xs)(e:Hm ds i=some d):∃v,LW xs i=some v/\Rep K H d v:=by
 obtain⟨j,e1,e2⟩:=i9 e
 obtain⟨v,h1,h2⟩:=r.get e2
 refine⟨v,?_,h2⟩
 unfold LW
 rw[<- r.length,<- Ls,e1]
 exact h1
theorem OX:Qh X k9:=(JW.or (L6.or La)).imp fun x y H Q ⟨dx,dy,d,r1,r2,e,q⟩=>by
 cases dx with
 | tup ds =>
  cases dy with
  | int i =>
   obtain⟨a,xs,e1,hq,t⟩:=r1
   cases (show y=_ from r2)
   obtain⟨v,h1,h2⟩:=Dp t e
   exact .inr (.inl ⟨a,xs,i,v,e1,rfl,hq,h1,q v H (l3.refl H) h2⟩)
  | _=>cases e
 | lst ds =>
  cases dy with
  | int i =>
   obtain⟨a,xs,e1,hq,t⟩:=r1
   cases (show y=_ from r2)
   obtain⟨v,h1,h2⟩:=Dp t e
   exact .inl ⟨a,xs,i,v,e1,rfl,wZ.of hq,h1,q v H (l3.refl H) h2⟩
  | _=>cases e
 | fro ds =>
  cases dy with
  | int i =>
   obtain⟨a,xs,e1,hq,t⟩:=r1
   cases (show y=_ from r2)
   obtain⟨v,h1,h2⟩:=Dp t e
   exact .inl ⟨a,xs,i,v,e1,rfl,hq,h1,q v H (l3.refl H) h2⟩
  | _=>cases e
 | str z =>
  cases dy with
  | int i =>
   cases (show x=_ from r1)
   cases (show y=_ from r2)
   unfold k9 at e
   dsimp only at e
   split at e
   ·rename_i hz
    obtain⟨c,e1,e2⟩:=ud e
    subst e2
    exact .inr (.inr ⟨z,i,c,rfl,rfl,hz,(by rw[<- e1];rfl),q _ H (l3.refl H) rfl⟩)
   ·cases e
  | _=>cases e
 | _=>cases e
theorem aj(ha:SE X a f)(hb:SE X b g)(hs:CU b:=by intro _ _;rfl):SE X (.Subscript a b pos) (i5 k9 f g):=(rN OX ha hb hs).imp fun σ H Q q=>two q
variable{st:Stmt}{sts:List Stmt}{u w:R->Option Out}
theorem aU:SS X [] ub:=AS.imp fun E σ H ⟨ρ,τ,o,er,e,q⟩=>by
 cases e
 exact q H (l3.refl H) σ er
theorem Lk{E:Ends}{σ:L2.St}{H:Hp}{K:W.Frag}(q:KR K (n4 u w) E σ H):KR K u {E with nx:=KR K w E} σ H:=by
 obtain⟨ρ,τ,o,er,e,q⟩:=q
 obtain⟨o1,e1,e⟩:=i9 e
 refine⟨ρ,τ,o1,er,e1,fun H1 s1=>?_⟩
 cases o1 with
 | nx ρ2=>exact fun σ2 er2=>⟨ρ2,τ,o,er2,e,fun H2 s2=>q H2 (s1.trans s2)⟩
 | rt d=>cases e;exact q H1 s1
 | bk ρ2=>cases e;exact q H1 s1
 | ct ρ2=>cases e;exact q H1 s1
theorem ao(h1:S1 X st u)(h2:SS X sts w):SS X (st::sts) (n4 u w):=(cg h1 h2).imp fun E σ H q=>Lk q
theorem ar(h1:S1 X st u):SS X [st] u:=fu h1
theorem aC(ha:SE X a f):S1 X (.Return (some a) pos) (n6 f):=(mM ha).imp fun E σ H ⟨ρ,τ,o,er,e,q⟩=>by
 obtain⟨x,e1,e⟩:=ud e
 subst e
 exact⟨ρ,x,er.1,e1,fun v H1 s1 r1=>q H1 s1 v r1⟩
theorem cy{B1 B2:List Stmt}(hc:ST X c s)(ha:SS X B1 u)(hb:SS X B2 w):S1 X (.If c B1 B2 pos) (yD s u w):=(nC hc ha hb).imp fun E σ H ⟨ρ,τ,o,er,e,q⟩=>by
 obtain⟨x,e1,e⟩:=i9 e
 refine⟨ρ,x,er.1,e1,fun H1 s1=>?_⟩
 cases x with
 | true=>rw[if_pos rfl] at e ⊢;exact⟨ρ,τ,o,er.mono s1,e,fun H2 s2=>q H2 (s1.trans s2)⟩
 | false=>rw[if_neg Bool.false_ne_true] at e ⊢;exact⟨ρ,τ,o,er.mono s1,e,fun H2 s2=>q H2 (s1.trans s2)⟩
theorem ai(i:Nat){x:Str}(hN:X.N.Nodup)(hi:X.N[i]?=some x:=by rfl)(hx:Loc X.env.scope x:=by first | exact Or.inl rfl | exact Or.inr rfl)(hf:X.fn x=true\/X.env.scope.names.lookup x=some .local:=by first | exact .inl rfl | exact .inr rfl) :
  SG X (.Name x pos) (setAt i):=(qS hN hi hx hf).imp fun v σ H Q ⟨ρ,τ,d,ρ',er,r,e,q⟩=>by
 unfold setAt at e
 split at e
 ·rename_i hlt
  cases e
  exact q _ H (l3.refl H) (er.set hlt r)
 ·cases e
variable{stf:D->R->Option R}{stfs:List (D->R->Option R)}
theorem dl:N_ X [] []:=Jp.imp fun v σ H Q ⟨ρ,τ,ds,ρ',er,r,e,q⟩=>by
 cases ds with
 | nil=>cases e;exact⟨r,q σ H (l3.refl H) er⟩
 | cons d ds=>cases e
theorem aJ(h1:SG X e stf)(h2:N_ X es stfs)(hs:(assignEach (e::es) X.env).map (·.2)=assign e X.env::(assignEach es X.env).map (·.2):=by rfl):N_ X (e::es) (stf::stfs):=
 (IF h1 h2 hs).imp fun v σ H Q ⟨ρ,τ,ds,ρ',er,r,e,q⟩=>by
  cases ds with
  | nil=>cases e
  | cons d ds =>
   obtain⟨v1,vr,rfl,r1,rr⟩:=r
   obtain⟨ρ1,e1,e⟩:=i9 e
   exact⟨v1,vr,rfl,ρ,τ,d,ρ1,er,r1,e1,fun σ1 H1 s1 er1=>⟨ρ1,τ,ds,ρ',er1,rr.mono s1,e,fun σ2 H2 s2 er2=>q σ2 H2 (s1.trans s2) er2⟩⟩
theorem CS:∀{fs:List (D->R->Option R)} {ds:LD} {ρ ρ':R},Gh fs ds ρ=some ρ'->ds.length=fs.length
 | [],[],_,_,_=>rfl
 | [],_::_,_,_,e=>by cases e
 | _::_,[],_,_,e=>by cases e
 | f::fs,d::ds,_,_,e=>by
  obtain⟨_,_,e⟩:=i9 e
  simp[CS e]
theorem eD{k}(hc:X.calm=true)(h:N_ X es stfs)(hn:(assignEach es X.env).length=stfs.length:=by rfl)(hst:(assignEach es X.env).findIdx? (·.1)=none:=by rfl):SG X (.Tuple es k pos) (xJ stfs):=
 (rX hc h hn hst).imp fun v σ H Q ⟨ρ,τ,d,ρ',er,r,e,q⟩=>by
  cases d with
  | tup ds =>
   obtain⟨a,xs,e1,hq,t⟩:=r
   exact⟨a,xs,e1,hq,by rw[<- t.length];exact CS e,ρ,τ,ds,ρ',er,t,e,q⟩
  | _=>cases e
theorem aD{tg:Expr}(ha:SE X a f)(hg:SG X tg stf)(hs:swapsWithSole [tg] a pos.line X.env=pure false:=by rfl)(hw:swappedStores [tg] a X.env=pure none:=by rfl)(h1:(assignEach [tg] X.env).map (·.2)=[assign tg X.env]:=by rfl) :
  S1 X (.Assign [tg] a pos) (l6 f stf):=(sx ha hg hs hw h1).imp fun E σ H ⟨ρ,τ,o,er,e,q⟩=>by
 obtain⟨x,e1,e⟩:=i9 e
 obtain⟨ρ',e2,e⟩:=ud e
 subst e
 exact⟨ρ,x,er.1,e1,fun v H1 s1 r1=>⟨ρ,τ,x,ρ',er.mono s1,r1,e2,fun σ2 H2 s2 er2=>q H2 (s1.trans s2) σ2 er2⟩⟩
theorem Kp.of{H H':Hp}(s:l3 H H'):Kp H H':=fun b u e _=>s b u e
theorem Kp.refl(H:Hp):Kp H H:=fun _ _ e _=>e
theorem Kp.seq{K:W.Frag}{H H':Hp}{a:Addr}{xs:List V}(s:Kp H H')(h:wZ K H a xs):wZ K H' a xs:=by
 rcases h with (h | ⟨o,h⟩) | h
 ·exact .inl (.inl (s _ _ h fun φ z=>nomatch z))
 ·exact .inl (.inr ⟨o,s _ _ h fun φ z=>nomatch z⟩)
 ·exact .inr h
theorem Kp.tup{K:W.Frag}{H H':Hp}{a:Addr}{xs:List V}(s:Kp H H')(h:xy K H a xs):xy K H' a xs:=by
 rcases h with (h | ⟨o,h⟩) | h
 ·exact .inl (.inl (s _ _ h fun φ z=>nomatch z))
 ·exact .inl (.inr ⟨o,s _ _ h fun φ z=>nomatch z⟩)
 ·exact .inr h
mutual
theorem Rep.kp{K:W.Frag}{H H':Hp}(s:Kp H H'):∀{d:D} {v:V},Rep K H d v->Rep K H' d v
 | .non,_,h=>h
 | .bl _,_,h=>h
 | .int _,_,h=>h
 | .str _,_,h=>h
 | .tup ds,_,h=>by
  obtain⟨a,xs,e,q,r⟩:=h
  exact⟨a,xs,e,s.tup q,l0.kp s r⟩
 | .lst ds,_,h=>by
  obtain⟨a,xs,e,q,r⟩:=h
  exact⟨a,xs,e,s _ _ q (fun φ z=>by cases z),l0.kp s r⟩
 | .fro ds,_,h=>by
  obtain⟨a,xs,e,q,r⟩:=h
  exact⟨a,xs,e,s.seq q,l0.kp s r⟩
 | .obj k a ks ds,_,h=>by
  obtain⟨xs,e,q,r⟩:=h
  exact⟨xs,e,q.to fun u z n=>s _ u z n,l0.kp s r⟩
theorem l0.kp{K:W.Frag}{H H':Hp}(s:Kp H H'):∀{ds:LD} {vs:List V},l0 K H ds vs->l0 K H' ds vs
 | [],_,h=>h
 | d::ds,_,h=>by
  obtain⟨v,r,e,q,t⟩:=h
  exact⟨v,r,e,Rep.kp s q,l0.kp s t⟩
end
theorem uy.kp{K:W.Frag}{H H':Hp}{ρ:R}{σ:L2.St}(e:uy K H ρ σ)(s:Kp H H'):uy K H' ρ σ:=⟨e.1,fun i d h=>let ⟨v,a,b⟩:=e.2 i d h;⟨v,a,b.kp s⟩⟩
theorem uv.kp{K:W.Frag}{H H':Hp}{ρ:R}{τ σ:L2.St}(e:uv K H ρ τ σ)(s:Kp H H'):uv K H' ρ τ σ:=⟨e.1.kp s,e.2⟩
theorem lS{K:W.Frag}{H:Hp}{a:Addr}{ds:LD}{xs:List V}(hq:wZ K H a xs)(t:l0 K H ds xs):xB K (N5 K a) ds H:=by
 refine⟨fun i d H2 s2 e=>?_,fun i H2 s2 hl=>⟨xs,s2.seq hq,by rw[<- t.length];exact hl⟩⟩
 obtain⟨v,h1,h2⟩:=t.get e
 refine⟨⟨xs,v,s2.seq hq,h1⟩,fun x H3 ⟨e3,y⟩=>?_⟩
 subst e3
 have:=(y xs (s2.seq hq)).symm.trans h1
 cases this
 exact⟨l3.refl _,h2.kp s2⟩
theorem nh{K:W.Frag}{H:Hp}{a:Addr}{ds:LD}{xs:List V}(hq:xy K H a xs)(t:l0 K H ds xs):xB K (N6 K a) ds H:=by
 refine⟨fun i d H2 s2 e=>?_,fun i H2 s2 hl=>⟨xs,s2.tup hq,by rw[<- t.length];exact hl⟩⟩
 obtain⟨v,h1,h2⟩:=t.get e
 refine⟨⟨xs,v,s2.tup hq,h1⟩,fun x H3 ⟨e3,y⟩=>?_⟩
 subst e3
 have:=(y xs (s2.tup hq)).symm.trans h1
 cases this
 exact⟨l3.refl _,h2.kp s2⟩
theorem IB{a b:Int}{i:Nat}{d:D}(e:(uN a b)[i]?=some d):i<(b - a).toNat/\d=.int (a+i):=by
 unfold uN at e
 rw[List.getElem?_map] at e
 obtain⟨k,e1,e⟩:=ud e
 obtain⟨h1,h2⟩:=List.getElem?_eq_some_iff.mp e1
 rw[List.length_range] at h1
 rw[List.getElem_range] at h2
 subst h2
 exact⟨h1,e.symm⟩
theorem iS{K:W.Frag}{H:Hp}{a b:Int}:xB K (Mf a (b - a).toNat) (uN a b) H:=by
 refine⟨fun i d H2 s2 e=>?_,fun i H2 s2 hl=>by
  have z:(uN a b).length=(b - a).toNat:=by simp[uN]
  rw[z] at hl
  exact hl⟩
 obtain⟨h1,rfl⟩:=IB e
 refine⟨h1,fun x H3 ⟨e3,y⟩=>?_⟩
 subst e3
 exact⟨l3.refl _,y⟩
def Pi(K:PySem.W.Frag)(tl:TE):TI:=fun σ H W=>tl σ H fun x H1=>(∃a,x=.ref a/\(((∃xs,wZ K H1 a xs)/\W (N5 K a) H1)\/((∃xs,xy K H1 a xs)/\W (N6 K a) H1)))\/∃z,x=.str z/\z.cps.all (·<128)=true/\W (Mv z) H1
theorem jm{K:W.Frag}{H:Hp}{x:Str}:xB K (Mv x) (chars x) H:=by
 have hl:(chars x).length=x.cps.size:=by simp[chars]
 refine⟨fun i d H2 s2 e=>?_,fun i H2 s2 h=>by rw[hl] at h;exact h⟩
 have hi:i<x.cps.size:=by rw[<- hl];exact(List.getElem?_eq_some_iff.mp e).1
 refine⟨hi,fun v H3 ⟨e3,c,h1,h2⟩=>?_⟩
 subst e3
 refine⟨l3.refl _,?_⟩
 unfold chars at e
 rw[List.getElem?_map] at e
 obtain⟨c',e1,e⟩:=ud e
 have h1':x.cps.toList[i]?=some c:=by simpa using h1
 rw[h1'] at e1
 cases e1
 subst e
 exact h2
theorem qw{tg l:Expr}{tl:TE}(hl:PE X l tl):PI X tg l (Pi X.K tl):=by
 intro pins s σ H W I h
 refine ug (hl pins s σ H _ I h) fun v s1 ⟨x,H1,I1,r1,q1⟩=>?_
 rcases q1 with ⟨a,e,q1⟩ | ⟨z,e,hz,q⟩
 rotate_left
 ·subst e
  obtain⟨t,rfl⟩:=r1
  refine wpAny_pyIter_ascii hz ?_
  refine⟨s1.heap.objs.size,[s1.heap.objs.size],_,_,H1,rfl,I1.kept (t':=s1.toks) fun b o e=>Heap.get?_push_of_some _ e,HP _ z t,⟨_,Heap.get?_push_size _ rfl,rfl,rfl⟩,fun b hb=>?_,q⟩
  have e:b=s1.heap.objs.size:=by simpa using hb
  subst e
  exact I1.fpOk (Nat.le_refl _) (I1.hok.fresh (Nat.le_refl _))
 subst e
 cases r1
 rcases q1 with ⟨⟨xs,hq⟩,q⟩ | ⟨⟨xs,hq⟩,q⟩
 ·obtain⟨its,rv,p,hz⟩:=I1.list hq
  refine wpAny_pyIter_list p.isList ?_
  refine⟨s1.heap.objs.size,[s1.heap.objs.size],_,_,H1,rfl,I1.kept (t':=s1.toks) fun b o e=>Heap.get?_push_of_some _ e,G4 a _,⟨_,Heap.get?_push_size _ rfl,rfl,rfl⟩,fun b hb=>?_,q⟩
  have e:b=s1.heap.objs.size:=by simpa using hb
  subst e
  exact I1.fpOk (Nat.le_refl _) (I1.hok.fresh (Nat.le_refl _))
 ·obtain⟨its,rv,p,hz⟩:=I1.tuple hq
  refine wpAny_pyIter_tuple (show s1.heap.IsTuple a its.toArray from p) ?_
  refine⟨s1.heap.objs.size,[s1.heap.objs.size],_,_,H1,rfl,I1.kept (t':=s1.toks) fun b o e=>Heap.get?_push_of_some _ e,E6 a _,⟨_,Heap.get?_push_size _ rfl,rfl,rfl⟩,fun b hb=>?_,q⟩
  have e:b=s1.heap.objs.size:=by simpa using hb
  subst e
  exact I1.fpOk (Nat.le_refl _) (I1.hok.fresh (Nat.le_refl _))
theorem dO{tg:Expr}(ha:SE X a f):SI X tg a (ve f):=(qw ha).imp fun σ H W ⟨ρ,ds,er,e,q⟩=>by
 obtain⟨x,e1,e⟩:=i9 e
 refine⟨ρ,x,er,e1,fun v H1 s1 r1=>?_⟩
 cases x with
 | tup xs =>
  cases e
  obtain⟨a,vs,ev,hq,t⟩:=r1
  exact .inl ⟨a,ev,.inr ⟨⟨vs,hq⟩,q _ H1 s1 (nh hq t)⟩⟩
 | lst xs =>
  cases e
  obtain⟨a,vs,ev,hq,t⟩:=r1
  exact .inl ⟨a,ev,.inl ⟨⟨vs,wZ.of hq⟩,q _ H1 s1 (lS (wZ.of hq) t)⟩⟩
 | str z =>
  dsimp only at e
  split at e
  ·rename_i hz
   cases e
   cases (show v=_ from r1)
   exact .inr ⟨z,rfl,hz,q _ H1 s1 jm⟩
  ·cases e
 | _=>cases e
theorem iA{tg:Expr}(hm:X.mg "range" = none)(ha:SE X a f)(hg:Gl X "range":=by rfl)(hs:noStar a=true:=by rfl):SI X tg (.Call (.Name "range" p) [a] [] pos) (uD f):=
 (jU hg hm (ab ha af hs).1 (aK [] X.env hs)).imp fun σ H W ⟨ρ,ds,er,e,q⟩=>by
  obtain⟨x,e1,e⟩:=i9 e
  cases x with
  | int j =>
   dsimp only at e
   split at e
   ·rename_i hj
    cases e
    refine⟨ρ,[.int j],er,by show(f ρ).bind _=_;rw[e1];rfl,fun vs H1 s1 r1=>?_⟩
    obtain⟨v,r,rfl,r2,r3⟩:=r1
    cases (show v=_ from r2)
    cases (show r=_ from r3)
    refine⟨j,rfl,hj.1,hj.2,q _ H1 s1 ?_⟩
    have z:=iS (K:=X.K) (H:=H1) (a:=0) (b:=j)
    rw[Int.sub_zero] at z
    exact z
   ·cases e
  | _=>cases e
theorem ll{tg iter:Expr}{B:List Stmt}{it:R->Option LD}(hp:PassesOwn (model X.prog X.w) X.A X.env X.xe)(hc:X.calm=true)(hi:SI X tg iter it)(hg:SG X tg stf)(hb:SS X B u)
  (hs:∀x,foldedSetIterable iter X.env x=pure x:=by intro _;rfl):S1 X (.For tg iter B [] pos) (Ar it stf u):=(me hp hc hi hg hb hs).imp fun E σ H ⟨ρ,τ,o,er,e,q⟩=>by
 obtain⟨ds,e1,e⟩:=i9 e
 refine⟨ρ,ds,er.1,e1,fun J H1 s1 y=>?_⟩
 refine⟨fun i m σ' H'=>m=ds.length - i/\i<=ds.length/\l3 H1 H'/\∃ ρ',uv X.K H' ρ' τ σ'/\zH stf u (ds.drop i) ρ'=some o,⟨ds.length,by simp,Nat.zero_le _,l3.refl _,ρ,er.mono s1,by simpa using e⟩,?_⟩
 rintro i m σ' H' ⟨rfl,hi,s2,ρ',er',e'⟩
 by_cases hlt:i<ds.length
 ·refine .inr ?_
  have hd:ds[i]?=some ds[i]:=by simp[hlt]
  obtain⟨hgo,hy⟩:=y.1 i ds[i] H' (Kp.of s2) hd
  rw[List.drop_eq_getElem_cons hlt] at e'
  obtain⟨ρ1,e2,e'⟩:=i9 e'
  obtain⟨o1,e3,e'⟩:=i9 e'
  refine⟨hgo,fun σ2 H2=>i+1<=ds.length/\l3 H1 H2/\∃ ρ',uv X.K H2 ρ' τ σ2/\zH stf u (ds.drop (i+1)) ρ'=some o,fun σ2 H2 n2=>⟨ds.length - (i+1),by omega,rfl,n2.1,n2.2⟩,fun x H3 yx=>?_⟩
  obtain⟨s3,rx⟩:=hy x H3 yx
  refine⟨ρ',τ,ds[i],ρ1,er'.mono s3,rx,e2,fun σ4 H4 s4 er4=>⟨ρ1,τ,o1,er4,e3,fun H5 s5=>?_⟩⟩
  have s15:l3 H1 H5:=s2.trans (s3.trans (s4.trans s5))
  cases o1 with
  | nx ρ2=>exact fun σ6 er6=>⟨hlt,s15,ρ2,er6,e'⟩
  | ct ρ2=>exact fun σ6 er6=>⟨hlt,s15,ρ2,er6,e'⟩
  | bk ρ2=>cases e';exact fun σ6 er6=>q H5 (s1.trans s15) σ6 er6
  | rt d=>cases e';exact q H5 (s1.trans s15)
 ·have e4:i=ds.length:=by omega
  subst e4
  rw[List.drop_length] at e'
  cases e'
  exact .inl ⟨y.2 _ H' (Kp.of s2) (Nat.le_refl _),q H' (s1.trans s2) σ' er'⟩
end
theorem Dg{K:W.Frag}{H:Hp}{N:List Str}{ds:LD}{vs:List V}(r:l0 K H ds vs):uy K H (Cp N.length ds) (L2.start N vs):=by
 unfold Cp L2.start
 refine⟨by simp[r.length],fun i d h=>?_⟩
 by_cases hi:i<ds.length
 ·rw[List.getElem?_append_left (by simpa using hi),List.getElem?_map] at h
  obtain⟨d',e1,e⟩:=ud h
  cases e
  obtain⟨v,h1,h2⟩:=r.get e1
  exact⟨v,by rw[List.getElem?_append_left (by rw[List.length_map,<- r.length];exact hi),List.getElem?_map,h1];rfl,h2⟩
 ·rw[List.getElem?_append_right (by simpa using hi),List.getElem?_replicate] at h
  split at h<;>cases h
theorem pJ{P:Program}{w:World}{K:W.Frag}{mg:Str->Option Value}{base:Heap}{x qual:Str}{st:Stmt}{f:Addr}{fd:FuncData}{N ps:List Str}{k:Nat}{F:LD->OD}{g:R->Option Out}
  (Fn:uu K x qual st f fd) (S:i7 N ps (i6 st)) (hlen:∀ds d,F ds=some d->ds.length=ps.length)
  (hb:∀(cdv:Value) (A:Around) (outer:List Env) (s:Shared) (H:Hp) (E:XK),uB k (A.deeper (envOfC qual (i6 st) s.heap.objs.size f cdv))->SS (BZ ui P w K mg base N qual (i6 st) f cdv A outer s H E).nox (uO st) g)
  (hF:∀ds d,F ds=some d->xX (g (Cp N.length ds))=some d):n5 P w K mg base ui (k+1) f fd ps (uE K F):=by
 refine Fn.ok S (fun vs H Q E h=>?_) (fun cdv A outer s H vs Q E hr h=>?_)
 ·obtain⟨ds,d,r,e,_⟩:=h
  rw[<- r.length]
  exact hlen ds d e
 ·obtain⟨ds,d,r,e,q⟩:=h
  refine⟨_,hb cdv A outer s H E hr,?_⟩
  have z:=hF ds d e
  cases ho:g (Cp N.length ds) with
  | none=>rw[ho] at z;cases z
  | some o =>
   rw[ho] at z
   refine⟨Cp N.length ds,_,o,(Dg r).t,ho,fun H1 s1=>?_⟩
   cases o with
   | rt d'=>cases (show d'=d from Option.some.inj z);exact fun v rv=>q v H1 s1 rv
   | nx ρ=>cases (show D.non=d from Option.some.inj z);exact fun σ _=>q .non H1 s1 rfl
   | bk ρ=>cases z
   | ct ρ=>cases z
theorem aw{P:Program}{w:World}{K:W.Frag}{mg:Str->Option Value}{base:Heap}{x qual:Str}{st:Stmt}{f:Addr}{fd:FuncData}{N ps:List Str}{k:Nat}{n m:Nat}{g:R->Option Out}
  (Fn:uu K x qual st f fd) (S:i7 N ps (i6 st))
  (hb:∀(cdv:Value) (A:Around) (outer:List Env) (s:Shared) (H:Hp) (E:XK),uB k (A.deeper (envOfC qual (i6 st) s.heap.objs.size f cdv))->SS (BZ ui P w K mg base N qual (i6 st) f cdv A outer s H E).nox (uO st) g)
  (h1:n=ps.length:=by rfl) (h2:m=N.length:=by rfl):n5 P w K mg base ui (k+1) f fd ps (uE K (via n m g)):=by
 subst h1 h2
 exact pJ Fn S (fun _ _ h=>nM h) hb fun _ _ h=>rL h
theorem aB{P:Program}{w:World}{K:W.Frag}{mg:Str->Option Value}{base:Heap}{x qual:Str}{st:Stmt}{f:Addr}{fd:FuncData}{ps:List Str}{k:Nat}{F:LD->OD}(Fn:uu K x qual st f fd)(hm:mg x=some (.ref f))
  (hb:Binds K fd ps []) (h:n5 P w K mg base ui k f fd ps (uE K F)):p6 P w K mg base k x ps F:=⟨f,fd,h,hm,Fn.kp,hb⟩
section
variable{X:Cx}
theorem HG{prog:Program}{w:World}{A:Around}{E:Value->Shared->Prop}{s:Shared}{t b:Addr}{ws:List Value}{Q:Value->Shared->Prop}(ht:IsTup s.heap t ([]:List Value).toArray)(hb:IsTup s.heap b ws.toArray)
  (h:Q (.ref b) s):wpAny (model prog w) A (binaryOp .Add (.ref t) (.ref b)) Q E s:=by
 obtain⟨⟨cls,dd,data,sl⟩,ho,hc,n,hd⟩:=id ht
 obtain⟨⟨cls2,dd2,data2,sl2⟩,ho2,hc2,n2,hd2⟩:=id hb
 simp only at hc hd hc2 hd2
 subst hc hd hc2 hd2
 exact concat_meets ⟨_,ho,rfl⟩ ⟨_,ho2,rfl⟩ noFill_tuple_add seq_tuple_add PySem.F.slot_tuple_add PySem.F.entry_tuple_add (PySem.F.args_tuple_add_2 _ _)
  (tuple_addW0 t b ([]:List Value).toArray ws.toArray n n2 dd dd2 sl sl2 (by simp)) ⟨ho,ho2,h⟩
theorem vZ{K:W.Frag}{H:Hp}{d:D}{v:V}{i:Int}(e:nI d=some i)(r:Rep K H d v):v=.int i:=by
 cases d<;>cases e
 exact r
theorem NO{K:W.Frag}{H:Hp}{d:D}{v:V}{xs:LD}(e:tI d=some xs)(r:Rep K H d v):Rep K H (.tup xs) v:=by
 cases d<;>cases e
 exact r
theorem Nv{K:W.Frag}{H:Hp}{d:D}{v:V}{xs:LD}(e:lI d=some xs)(r:Rep K H d v):Rep K H (.lst xs) v:=by
 cases d<;>cases e
 exact r
theorem Gj{K:W.Frag}{H:Hp}{d:D}{v:V}{x:Str}(e:sI d=some x)(r:Rep K H d v):v=.str x:=by
 cases d<;>cases e
 exact r
theorem Kr{K:W.Frag}{H:Hp}{d:D}{v:V}{x:Bool}(e:bO d=some x)(r:Rep K H d v):v=.bl x:=by
 cases d<;>cases e
 exact r
theorem DS{α:Type}{p:Prop}[Decidable p]{x y:α}(h:(if p then some x else none)=some y):p/\x=y:=by
 split at h
 ·rename_i hp;exact⟨hp,Option.some.inj h⟩
 ·cases h
theorem aA:K2 X (binaryOp .Add) l8:=by
 intro pins s σ H x y v u Q I rx ry h
 obtain⟨dx,dy,d,r1,r2,e,q⟩:=h
 cases dx with
 | int i =>
  obtain⟨j,e1,rfl⟩:=ud e
  exact K9 pins s σ H x y v u Q I rx ry ⟨i,j,r1,vZ e1 r2,q _ H (l3.refl H) rfl⟩
 | tup xs =>
  obtain⟨ys,e1,e⟩:=i9 e
  obtain⟨hz,rfl⟩:=DS e
  obtain⟨a,vs,rfl,hq,t⟩:=r1
  obtain⟨b,us,rfl,hq2,t2⟩:=NO e1 r2
  cases vs with
  | nil =>
   cases rx
   cases ry
   obtain⟨its,rr1,p1,_⟩:=I.tuple hq
   obtain⟨its2,rr2,p2,_⟩:=I.tuple hq2
   cases rr1
   refine HG p1 p2 ⟨.ref b,H,I,rfl,q _ H (l3.refl H) ⟨b,us,rfl,hq2,?_⟩⟩
   cases xs with
   | nil=>exact t2
   | cons x r=>obtain⟨_,_,z,_⟩:=t;cases z
  | cons v0 vr =>
   refine Jj pins s σ H _ _ v u Q I rx ry ⟨a,b,v0::vr,us,rfl,rfl,hq,hq2,by simp,by rw[<- t.length,<- t2.length];exact hz,fun z=>?_,fun z p hp=>?_⟩
   ·subst z
    refine q _ H (l3.refl H) ⟨a,v0::vr,rfl,hq,?_⟩
    have:ys=[]:=List.length_eq_zero_iff.mp t2.length
    subst this
    rw[List.append_nil]
    exact t
   ·have s2:=aN hp (.tup (v0::vr++us))
    exact q _ _ s2 ⟨p,_,rfl,xy.of ax,(t.append t2).mono s2⟩
 | lst xs =>
  obtain⟨ys,e1,e⟩:=i9 e
  obtain⟨hz,rfl⟩:=DS e
  obtain⟨a,vs,rfl,hq,t⟩:=r1
  obtain⟨b,us,rfl,hq2,t2⟩:=Nv e1 r2
  refine Ll pins s σ H _ _ v u Q I rx ry ⟨a,b,vs,us,rfl,rfl,hq,hq2,by rw[<- t.length,<- t2.length];exact hz,fun p hp=>?_⟩
  have s2:=aN hp (.lst (vs++us))
  exact q _ _ s2 ⟨p,_,rfl,ax,(t.append t2).mono s2⟩
 | str a =>
  obtain⟨b,e1,e⟩:=i9 e
  obtain⟨hz,rfl⟩:=DS e
  exact E3 pins s σ H x y v u Q I rx ry ⟨a,b,r1,Gj e1 r2,hz,q _ H (l3.refl H) rfl⟩
 | _=>cases e
theorem bJ:K2 X (binaryOp .Sub) vE:=by
 intro pins s σ H x y v u Q I rx ry h
 obtain⟨dx,dy,d,r1,r2,e,q⟩:=h
 obtain⟨i,e1,e⟩:=i9 e
 obtain⟨j,e2,rfl⟩:=ud e
 exact Lj pins s σ H x y v u Q I rx ry ⟨i,j,vZ e1 r1,vZ e2 r2,q _ H (l3.refl H) rfl⟩
theorem bY:K2 X (binaryOp .Mult) vK:=by
 intro pins s σ H x y v u Q I rx ry h
 obtain⟨dx,dy,d,r1,r2,e,q⟩:=h
 obtain⟨i,e1,e⟩:=i9 e
 obtain⟨j,e2,e⟩:=i9 e
 obtain⟨hz,rfl⟩:=DS e
 refine LE pins s σ H x y v u Q I rx ry ⟨i,j,vZ e1 r1,vZ e2 r2,?_,q _ H (l3.refl H) rfl⟩
 unfold ur at hz
 rw[Bool.or_eq_true,Bool.and_eq_true,Bool.and_eq_true] at hz
 exact hz.imp (fun z=>⟨of_decide_eq_true z.1,of_decide_eq_true z.2⟩) fun z=>⟨of_decide_eq_true z.1,of_decide_eq_true z.2⟩
theorem bM:K2 X (binaryOp .FloorDiv) vn:=by
 intro pins s σ H x y v u Q I rx ry h
 obtain⟨dx,dy,d,r1,r2,e,q⟩:=h
 obtain⟨i,e1,e⟩:=i9 e
 obtain⟨j,e2,e⟩:=i9 e
 obtain⟨hz,rfl⟩:=DS e
 exact JY pins s σ H x y v u Q I rx ry ⟨i,j,vZ e1 r1,vZ e2 r2,hz,q _ H (l3.refl H) rfl⟩
theorem aG:K2 X (binaryOp .Mod) tG:=by
 intro pins s σ H x y v u Q I rx ry h
 obtain⟨dx,dy,d,r1,r2,e,q⟩:=h
 obtain⟨i,e1,e⟩:=i9 e
 obtain⟨j,e2,e⟩:=i9 e
 obtain⟨hz,rfl⟩:=DS e
 exact LV pins s σ H x y v u Q I rx ry ⟨i,j,vZ e1 r1,vZ e2 r2,hz,q _ H (l3.refl H) rfl⟩
theorem sj:PD X (unaryOp .USub) MX:=by
 intro pins s σ H x v Q I rx h
 obtain⟨dx,d,r1,e,q⟩:=h
 obtain⟨i,e1,rfl⟩:=ud e
 exact Lf pins s σ H x v Q I rx ⟨i,vZ e1 r1,q _ H (l3.refl H) rfl⟩
theorem N2{op:CmpOp}{p:Int->Int->Bool}{F:D->D->Option Bool}(ho:OpR X (compareOp op) (Ju fun i j=>.bl (p i j)))(hF:∀x y,F x y=(nI x).bind fun i=>(nI y).map fun j=>p i j):Gm X op F:=by
 intro pins s σ H x y v u Q I rx ry h
 obtain⟨dx,dy,b,r1,r2,e,q⟩:=h
 rw[hF] at e
 obtain⟨i,e1,e⟩:=i9 e
 obtain⟨j,e2,rfl⟩:=ud e
 exact ho pins s σ H x y v u Q I rx ry ⟨i,j,vZ e1 r1,vZ e2 r2,q⟩
theorem nH:Gm X .Lt Nw:=N2 M_ fun _ _=>rfl
theorem pI:Gm X .LtE L0:=N2 NM fun _ _=>rfl
theorem el:Gm X .Gt AT:=N2 MP fun _ _=>rfl
theorem rQ:Gm X .GtE Ml:=N2 MF fun _ _=>rfl
theorem Eh{K:W.Frag}{H:Hp}{d:D}{v:V}(r:Rep K H d v)(f:flat d=true):yU v=true:=by
 cases d<;>simp[flat] at f<;>(cases (show v=_ from r);rfl)
theorem Jn{K:W.Frag}{H:Hp}{d e:D}{v u:V}(r:Rep K H d v)(r':Rep K H e u)(f:flat d=true)(f':flat e=true):J3 v u=L7 d e:=by
 cases d<;>simp[flat] at f<;>cases e<;>simp[flat] at f'<;>(cases (show v=_ from r);cases (show u=_ from r');rfl)
theorem CN{K:W.Frag}{H:Hp}:∀{ds:LD} {vs:List V},l0 K H ds vs->ds.all flat=true->vs.all yU=true
 | [],_,h,_=>by cases (show _=[] from h);rfl
 | d::ds,_,h,f=>by
  obtain⟨v,r,rfl,q,t⟩:=h
  rw[List.all_cons,Bool.and_eq_true] at f ⊢
  exact⟨Eh q f.1,CN t f.2⟩
theorem FT{K:W.Frag}{H:Hp}{x:D}{vx:V}(rx:Rep K H x vx)(fx:flat x=true):∀{ds:LD} {vs:List V},l0 K H ds vs->ds.all flat=true->N0 vx vs=ds.any fun y=>L7 y x
 | [],_,h,_=>by cases (show _=[] from h);rfl
 | d::ds,_,h,f=>by
  obtain⟨v,r,rfl,q,t⟩:=h
  rw[List.all_cons,Bool.and_eq_true] at f
  have ih:=FT rx fx t f.2
  unfold N0 at ih ⊢
  rw[List.any_cons,List.any_cons,Jn q rx f.1 fx,ih]
theorem Cy{K:W.Frag}{H:Hp}{d:D}{v:V}{ys:LD}(r:Rep K H d v)(e:E1 d=some ys):∃p xs,v=.ref p/\(wZ K H p xs\/xy K H p xs)/\l0 K H ys xs:=by
 cases d with
 | tup ds=>cases e;obtain⟨a,xs,rfl,q,t⟩:=r;exact⟨a,xs,rfl,.inr q,t⟩
 | lst ds=>cases e;obtain⟨a,xs,rfl,q,t⟩:=r;exact⟨a,xs,rfl,.inl (wZ.of q),t⟩
 | fro ds=>cases e;obtain⟨a,xs,rfl,q,t⟩:=r;exact⟨a,xs,rfl,.inl q,t⟩
 | _=>cases e
theorem sQ:Gm X .In N4:=by
 intro pins s σ H x y v u Q I rx ry h
 obtain⟨dx,dy,b,r1,r2,e,q⟩:=h
 obtain⟨ys,e1,e⟩:=i9 e
 obtain⟨p,xs,rfl,hq,t⟩:=Cy r2 e1
 split at e
 ·rename_i hf
  rw[Bool.and_eq_true] at hf
  cases e
  refine GR pins s σ H x _ v u Q I rx ry ⟨p,xs,rfl,hq,Eh r1 hf.1,CN t hf.2,?_⟩
  rw[FT r1 hf.1 t hf.2]
  exact q
 ·cases e
theorem A2{K:W.Frag}{H:Hp}{d:D}{v:V}(r:Rep K H d v):Jz d=decide (v=.non):=by
 cases d with
 | tup c=>obtain⟨_,_,rfl,_⟩:=r;rfl
 | lst c=>obtain⟨_,_,rfl,_⟩:=r;rfl
 | fro c=>obtain⟨_,_,rfl,_⟩:=r;rfl
 | obj k a ks ds=>obtain⟨_,rfl,_⟩:=r;rfl
 | _=>cases (show v=_ from r);rfl
theorem FX{K:W.Frag}{H:Hp}{d:D}{v:V}(r:Rep K H d v)(h:Jz d=true):v=.non:=by
 rw[A2 r] at h
 exact of_decide_eq_true h
theorem gq:Gm X .Is zT:=by
 intro pins s σ H x y v u Q I rx ry h
 obtain⟨dx,dy,b,r1,r2,e,q⟩:=h
 obtain⟨h1,rfl⟩:=DS e
 exact Lb pins s σ H x y v u Q I rx ry ⟨FX r2 h1,by rw[<- A2 r1];exact q⟩
theorem bB:Gm X .IsNot uJ:=by
 intro pins s σ H x y v u Q I rx ry h
 obtain⟨dx,dy,b,r1,r2,e,q⟩:=h
 obtain⟨k,e2,rfl⟩:=ud e
 obtain⟨h1,rfl⟩:=DS e2
 exact Jd pins s σ H x y v u Q I rx ry ⟨FX r2 h1,by rw[<- A2 r1];exact q⟩
theorem mD:JO X (.builtin "len") C5:=C0.imp fun xs H Q ⟨ds,d,r,e,q⟩=>by
 match ds,e with
 | [x],e =>
  obtain⟨ys,e1,e2⟩:=ud e
  subst e2
  obtain⟨v,r',rfl,r1,r2⟩:=r
  cases (show r'=[] from r2)
  obtain⟨p,vs,rfl,hq,t⟩:=Cy r1 e1
  exact⟨p,vs,rfl,hq,q _ H (l3.refl H) (by show V.int _=V.int _;rw[t.length])⟩
theorem gp:JO X (.type "tuple") Ac:=yS.imp fun xs H Q ⟨ds,d,r,e,q⟩=>by
 match ds,e with
 | [.tup ys],e =>
  cases e
  obtain⟨v,r',rfl,⟨a,vs,rfl,hq,t⟩,r2⟩:=r
  cases (show r'=[] from r2)
  exact⟨a,vs,rfl,.inr ⟨hq,q _ H (l3.refl H) ⟨a,vs,rfl,hq,t⟩⟩⟩
 | [.lst ys],e =>
  cases e
  obtain⟨v,r',rfl,⟨a,vs,rfl,hq,t⟩,r2⟩:=r
  cases (show r'=[] from r2)
  exact⟨a,vs,rfl,.inl ⟨wZ.of hq,fun l hl=>q _ _ (aN hl _) ⟨l,vs,rfl,xy.of ax,t.mono (aN hl _)⟩⟩⟩
theorem qb:JO X (.type "str") Ez:=Dc.imp fun xs H Q ⟨ds,d,r,e,q⟩=>by
 match ds,e with
 | [.int i],e =>
  have e':(if i.natAbs.log2<1920 then some (D.str (toString i)) else none)=some d:=e
  split at e'
  ·rename_i hz
   cases e'
   obtain⟨v,r',rfl,r1,r2⟩:=r
   cases (show r'=[] from r2)
   cases (show v=_ from r1)
   exact⟨i,rfl,hz,q _ H (l3.refl H) rfl⟩
  ·cases e'
theorem bw{k:Nat}(hr:uB k X.A):Gm X .Eq uW:=by
 intro pins s σ H x y v u Q I rx ry h
 obtain⟨dx,dy,b,r1,r2,e,q⟩:=h
 have sc:J4 x y=true->decide (x=y)=b->wpAny (model X.prog X.w) X.A (compareOp .Eq v u) (EP X pins σ Q) X.xe s:=fun z1 z2=>Ng pins s σ H x y v u Q I rx ry ⟨z1,by rw[z2];exact q⟩
 cases dx with
 | int i=>obtain⟨j,e1,e⟩:=ud e;cases (show x=_ from r1);cases vZ e1 r2;exact sc rfl (AU.trans e)
 | str i=>obtain⟨j,e1,e⟩:=ud e;cases (show x=_ from r1);cases Gj e1 r2;exact sc rfl (AY.trans e)
 | bl i=>obtain⟨j,e1,e⟩:=ud e;cases (show x=_ from r1);cases Kr e1 r2;exact sc rfl (Dh.trans e)
 | _=>cases e
theorem qH{k:Nat}(hr:uB k X.A):Gm X .NotEq Hi:=by
 intro pins s σ H x y v u Q I rx ry h
 obtain⟨dx,dy,b,r1,r2,e0,q⟩:=h
 obtain⟨c,e,rfl⟩:=ud e0
 clear e0
 have sc:J4 x y=true->decide (x=y)=c->wpAny (model X.prog X.w) X.A (compareOp .NotEq v u) (EP X pins σ Q) X.xe s:=fun z1 z2=>Mq pins s σ H x y v u Q I rx ry ⟨z1,by rw[z2];exact q⟩
 cases dx with
 | int i=>obtain⟨j,e1,e⟩:=ud e;cases (show x=_ from r1);cases vZ e1 r2;exact sc rfl (AU.trans e)
 | str i=>obtain⟨j,e1,e⟩:=ud e;cases (show x=_ from r1);cases Gj e1 r2;exact sc rfl (AY.trans e)
 | bl i=>obtain⟨j,e1,e⟩:=ud e;cases (show x=_ from r1);cases Kr e1 r2;exact sc rfl (Dh.trans e)
 | _=>cases e
variable{a:Expr}{f:R->OD}{pos p2:Pos}{lo hi:Option Expr}{l h:R->Option (Option Int)}
theorem ge:SO X none I8:=JV.imp fun σ H Q ⟨ρ,o,er,e,q⟩=>by
 cases e
 exact q H (l3.refl H)
theorem gn(ha:SE X a f):SO X (some a) (aP f):=(JC ha).imp fun σ H Q ⟨ρ,o,er,e,q⟩=>by
 obtain⟨x,e1,e2⟩:=i9 e
 refine⟨ρ,x,er,e1,fun v H1 s1 r1=>?_⟩
 cases x with
 | int i=>cases e2;exact⟨i,r1,q H1 s1⟩
 | _=>cases e2
theorem FP(n d:Nat)(o:Option Int):HI n d o=HT.sIx n d o:=rfl
theorem BW{prog:Program}{w:World}{A:Around}{E:Value->Shared->Prop}{s:Shared}{t sl:Addr}{items:Array Value}{vl vu:Value}{lo hi:Option Int}{Q:Value->Shared->Prop}(ht:IsTup s.heap t items)(hs:s.heap.IsSliceOf sl vl vu .none)(pl:IsPart vl lo)(pu:IsPart vu hi)
  (hw:HT.sIx items.size 0 lo=0/\HT.sIx items.size items.size hi=items.size) (h:Q (.ref t) s):wpAny (model prog w) A (getItem (.ref t) (.ref sl)) Q E s:=by
 obtain⟨os,hos,hcs,hds⟩:=id hs
 have hTs:s.TypeIs (.ref sl) "slice":=⟨os,hos,hcs⟩
 unfold getItem
 try with_reducible refine wpAny_holding ?_
 first | refine wpAny_bind (wpAny_pure ?_) | skip
 refine wpAny_bind (wpAny_sequenceKey ht.typeIs (by decide) ?_)
 refine wpAny_bind (wpAny_callSpecial?_slot (name:=oS "__getitem__") ht.typeIs PyProof.Rows.slot_tuple_getitem
  (wpAny_call_entry PyProof.Rows.slot_tuple_getitem ht.typeIs entry_tuple_getitem ?_ (args_tuple_getitem _ _)))
 show wpAny _ _ (Builtin.Tuple.tupleItemsOf (.ref t) >>= _) _ _ s
 refine wpAny_bind (tupleItemsOf_ ht ?_)
 refine wpAny_bind (wpAny_typeOf hTs ?_)
 rw[if_pos (by decide)]
 refine wpAny_bind (HT.sliceApplied_gen hs pl pu ?_)
 have hyes:((((HT.sIx items.size 0 lo:Nat):Int)==0&&(1:Int)==1&&(HT.sIx items.size items.size hi - HT.sIx items.size 0 lo)==items.size)=true):=by
  rw[hw.1,hw.2];simp
 show wpAny _ _ (if (((HT.sIx items.size 0 lo:Nat):Int)==0&&(1:Int)==1&&(HT.sIx items.size items.size hi - HT.sIx items.size 0 lo)==items.size)=true then _ else _) _ _ s
 rw[if_pos hyes]
 refine wpAny_bind (m:=Builtin.Tuple.tupleIsExact _) (wpAny_bind (wpAny_typeOf ht.typeIs (wpAny_pure ?_)))
 rw[if_pos (by decide)]
 exact wpAny_bind (wpAny_rule (wpAny_pure ⟨_,rfl,wpAny_pure h⟩))
theorem Fe{xs:List V}{lo hi:Option Int}(h:HT.sIx xs.length 0 lo=0/\HT.sIx xs.length xs.length hi=xs.length):AK xs lo hi=xs:=by
 unfold AK
 rw[h.1,h.2,List.drop_zero,Nat.sub_zero,List.take_length]
def Oi(K:W.Frag):V->Option Int->Option Int->Hp->VK->Prop:=fun x lo hi H Q=>∃a xs,x=.ref a/\xy K H a xs/\∀p H',l3 H H'->xy K H' p (AK xs lo hi)->Q (.ref p) H'
theorem Ly:J0 X (Oi X.K):=by
 intro pins s σ H x v vl vu lo hi sl Q I rx hs pl pu h
 obtain⟨a,xs,rfl,hx,q⟩:=h
 by_cases hw:HT.sIx xs.length 0 lo=0/\HT.sIx xs.length xs.length hi=xs.length
 ·cases rx
  obtain⟨its,r,ht,hz⟩:=I.tuple hx
  have hlen:its.toArray.size=xs.length:=by rw[List.size_toArray];exact r.length.symm
  refine⟨"tuple",_,PyProof.Rows.slot_tuple_getitem.lookup,ht.typeIs,?_⟩
  exact BW ht hs pl pu (by rw[hlen];exact hw) ⟨.ref a,H,I,rfl,q a H (l3.refl H) (by rw[Fe hw];exact hx)⟩
 ·exact LQ pins s σ H (.ref a) v vl vu lo hi sl Q I rx hs pl pu ⟨a,xs,rfl,hx,hw,fun p hp=>q p _ (aN hp _) (xy.of ax)⟩
theorem nL{K:W.Frag}{H:Hp}{ds:LD}{xs:List V}(t:l0 K H ds xs)(lo hi:Option Int):l0 K H (cutD ds lo hi) (AK xs lo hi):=by
 unfold cutD AK
 rw[t.length,FP,FP]
 exact(t.drop _).take _
theorem iK(ha:SE X a f)(hl:SO X lo l)(hh:SO X hi h):SE X (.Subscript a (.Slice lo hi none p2) pos) (KA f l h):=(ly (Ly.or Kb) ha hl hh).imp fun σ H Q ⟨ρ,d,er,e,q⟩=>by
 obtain⟨x,e1,e⟩:=i9 e
 obtain⟨o1,e2,e⟩:=i9 e
 obtain⟨o2,e3,e⟩:=i9 e
 refine⟨ρ,x,er,e1,fun v H1 s1 r1=>⟨ρ,o1,er.mono s1,e2,fun H2 s2=>⟨ρ,o2,er.mono (s1.trans s2),e3,fun H3 s3=>?_⟩⟩⟩
 cases x with
 | tup xs =>
  cases e
  obtain⟨a,vs,rfl,hq,t⟩:=(r1.mono (s2.trans s3))
  exact .inl ⟨a,vs,rfl,hq,fun p H4 s4 sq=>q _ H4 (s1.trans (s2.trans (s3.trans s4))) ⟨p,_,rfl,sq,(nL t o1 o2).mono s4⟩⟩
 | lst xs =>
  cases e
  obtain⟨a,vs,rfl,hq,t⟩:=(r1.mono (s2.trans s3))
  refine .inr ⟨a,vs,rfl,wZ.of hq,fun p hp=>?_⟩
  have s4:=aN hp (.lst (AK vs o1 o2))
  exact q _ _ (s1.trans (s2.trans (s3.trans s4))) ⟨p,_,rfl,ax,(nL t o1 o2).mono s4⟩
 | _=>cases e
theorem le:∀{xs:List V} {us:List Value},p9 xs us->p9 xs.reverse us.reverse
 | _,_,.nil=>.nil
 | _,_,.cons r t=>by
  rw[List.reverse_cons,List.reverse_cons]
  exact(le t).append (.cons r .nil)
end
set_option maxHeartbeats 2000000
noncomputable def vY(names:List (Str×NameKind))(cells:List (Str×Addr))(acc:List (Str×Addr)):List (Str×Addr):=
 match names with
 | []=>acc
 | (n,k)::r=>vY r cells (if k==.free then (match cells.lookup n with | some c=>(n,c)::acc | none=>acc) else acc)
theorem zb {env:Env}:∀ (names:List (Str×NameKind)) (acc:List (Str×Addr)),(∀ p∈names,p.2=.free->∃ c,env.cells.lookup p.1=some c) ->
    (forIn names acc fun x r=>(match x with
      | (name,kind)=>if (kind==NameKind.free)=true then do
          let c <- cellOf env name
          pure (ForInStep.yield ((name,c)::r))
        else pure (ForInStep.yield r):Sem (ForInStep (List (Str×Addr)))))=(pure (vY names env.cells acc):Sem (List (Str×Addr)))
  | [],acc,_=>rfl
  | (n,k)::r,acc,h=>by
    rw[List.forIn_cons]
    cases hk:(k==NameKind.free) with
    | false =>
      have ih:=zb r acc fun p hp=>h p (List.mem_cons_of_mem _ hp)
      simp only[hk,vY,Bool.false_eq_true,if_false]
      exact ih
    | true =>
      obtain⟨c,hc⟩:=h (n,k) List.mem_cons_self (by simpa using hk)
      have ih:=zb r ((n,c)::acc) fun p hp=>h p (List.mem_cons_of_mem _ hp)
      have hcell:cellOf env n=pure c:=by unfold cellOf;rw[show env.cells.lookup n=some c from hc]
      simp only[hk,vY,if_true,hcell,show env.cells.lookup n=some c from hc]
      exact ih
theorem E2{scope:Scope}{env:Env}(h:∀p∈scope.names,p.2=.free->∃c,env.cells.lookup p.1=some c):closureFor scope env=pure (vY scope.names env.cells []):=by
 unfold closureFor
 have:=zb scope.names [] h
 simp only[bind_pure]
 exact this
theorem wz{β:Type}{y n:Str}{c:β}{l:List (Str×β)}:List.lookup y ((n,c)::l)=if y=n then some c else List.lookup y l:=by
 rw[List.lookup_cons]
 by_cases h:y=n
 ·subst h;simp
 ·have:(y==n)=false:=by simpa using h
  rw[this,if_neg h]
theorem A1{cells:List (Str×Addr)}:∀(names:List (Str×NameKind)) (acc:List (Str×Addr)),(∀y c,acc.lookup y=some c->cells.lookup y=some c)->∀y c,(vY names cells acc).lookup y=some c->cells.lookup y=some c
 | [],acc,h=>h
 | (n,k)::r,acc,h=>by
  unfold vY
  refine A1 r _ ?_
  split
  ·cases hc:cells.lookup n with
   | none=>exact h
   | some c0 =>
    intro y c hy
    rw[wz] at hy
    split at hy
    ·rename_i e
     subst e
     cases hy
     exact hc
    ·exact h y c hy
  ·exact h
theorem Ca{cells:List (Str×Addr)}{y:Str}:∀(names:List (Str×NameKind)) (acc:List (Str×Addr)),(acc.lookup y).isSome=true->((vY names cells acc).lookup y).isSome=true
 | [],acc,h=>h
 | (n,k)::r,acc,h=>by
  unfold vY
  refine Ca r _ ?_
  split
  ·cases hc:cells.lookup n with
   | none=>exact h
   | some c0 =>
    dsimp only
    rw[wz]
    split
    ·rfl
    ·exact h
  ·exact h
theorem Ea{cells:List (Str×Addr)}{y:Str}{c:Addr}(hc:cells.lookup y=some c):∀(names:List (Str×NameKind)) (acc:List (Str×Addr)),(y,NameKind.free)∈names->((vY names cells acc).lookup y).isSome=true
 | (n,k)::r,acc,h=>by
  unfold vY
  rcases List.mem_cons.mp h with e | h
  ·cases e
   refine Ca r _ ?_
   rw[if_pos (show(NameKind.free==NameKind.free)=true by decide),hc]
   dsimp only
   rw[wz,if_pos rfl]
   rfl
  ·exact Ea hc r _ h
theorem Jt{cells:List (Str×Addr)}{names:List (Str×NameKind)}{y:Str}{c:Addr}(hc:cells.lookup y=some c)(h:(y,NameKind.free)∈names):(vY names cells []).lookup y=some c:=by
 obtain⟨c',e⟩:=Option.isSome_iff_exists.mp (Ea hc names [] h)
 have:=A1 names [] (fun y c h=>by cases h) y c' e
 rw[hc] at this
 cases this
 exact e
theorem Bq{env:Env}{y:Str}:∀(names:List (Str×NameKind)),(names.map fun (n,k)=>if (k==NameKind.free&&env.scope.kind==.function&&env.kindOf n==some .cell) then (n,NameKind.cell) else (n,k)).lookup y =
  (names.lookup y).map fun k=>if (k==NameKind.free&&env.scope.kind==.function&&env.kindOf y==some .cell) then NameKind.cell else k
 | []=>rfl
 | (n,k)::r=>by
  have hd:∀(c:Bool),(if c=true then (n,NameKind.cell) else (n,k))=(n,if c=true then NameKind.cell else k):=fun c=>by cases c<;>rfl
  rw[List.map_cons]
  show List.lookup y ((if (k==NameKind.free&&env.scope.kind==.function&&env.kindOf n==some .cell)=true then (n,NameKind.cell) else (n,k))::_)=_
  rw[hd,wz,wz]
  by_cases e:y=n
  ·subst e
   rw[if_pos rfl,if_pos rfl]
   rfl
  ·rw[if_neg e,if_neg e]
   exact Bq r
noncomputable def Df(sc outer:Scope)(T N:List Str):Bool:=
 sc.kind==.function&&(sc.names.all fun p=>p.2 != .cell&&(p.2 != .local||(sc.names.lookup p.1==some .local&&(T.contains p.1||p.1==(".0" : Str))))&&(p.2 != .free||outer.names.lookup p.1==some .cell||outer.names.lookup p.1==some .free)) &&
  (T.all fun t=>sc.names.lookup t==some .local)&&!N.contains (".0" : Str)
structure CW (sc outer:Scope) (T N:List Str):Prop where
 kind:sc.kind=.function
 nocell:∀y∈sc.names,y.2≠.cell
 names:∀y∈sc.names,y.2=.local->sc.names.lookup y.1=some .local
 loc:∀y,sc.names.lookup y=some .local->y∈T\/y=(".0" : Str)
 free:∀y∈sc.names,y.2=.free->outer.names.lookup y.1=some .cell\/outer.names.lookup y.1=some .free
 tg:∀t∈T,sc.names.lookup t=some .local
 no0:(".0" : Str)∉N
theorem GK{sc outer:Scope}{T N:List Str}(h:Df sc outer T N=true):CW sc outer T N:=by
 unfold Df at h
 rw[Bool.and_eq_true,Bool.and_eq_true,Bool.and_eq_true] at h
 obtain⟨⟨⟨h1,h2⟩,h3⟩,h4⟩:=h
 rw[List.all_eq_true] at h2 h3
 have g:∀y∈sc.names,y.2≠.cell/\(y.2=.local->sc.names.lookup y.1=some .local/\(y.1∈T\/y.1=(".0" : Str)))/\(y.2=.free->outer.names.lookup y.1=some .cell\/outer.names.lookup y.1=some .free):=fun y hy=>by
  have q:=h2 y hy
  rw[Bool.and_eq_true,Bool.and_eq_true] at q
  obtain⟨⟨q1,q2⟩,q3⟩:=q
  refine⟨by simpa using q1,fun hl=>?_,fun hf=>?_⟩
  ·rw[hl] at q2
   simpa using q2
  ·rw[hf] at q3
   simpa using q3
 refine⟨by simpa using h1,fun y hy=>(g y hy).1,fun y hy hl=>((g y hy).2.1 hl).1,fun y hy=>?_,fun y hy hf=>(g y hy).2.2 hf,fun t ht=>by simpa using h3 t ht,by simpa using h4⟩
 exact((g (y,.local) (PySem.mem_of_lookup hy)).2.1 rfl).2
def DM(X:Cx)(T:List Str)(scope:Scope)(C:Addr)(fp:List Addr)(s₃:Shared)(H₃:Hp):Cx where
 prog:=X.prog
 w:=X.w
 K:=X.K
 mg:=X.mg
 base:=X.base
 A:=X.A
 N:=T++X.N
 s₀:=s₃
 H₀:=H₃
 env:=compEnvC scope (vY scope.names X.env.cells []) C X.env
 outer:=X.stack
 stack:=X.stack
 ex:=fp
 fn:=fun _=>false
 calm:=X.calm
 pn:=[]
 xe:=fun _ _=>False
section
variable{X:Cx}{pins:List (Addr×Obj)}{σ:L2.St}{H:Hp}{s:Shared}{T:List Str}{scope:Scope}{C:Addr}{fp:List Addr}{h₁:Heap}{t:Nat}
theorem Id(I:L2.Inv X pins σ H s)(ck:CW scope X.env.scope T X.N)(hnd:(T++X.N).Nodup)(hf:∀b∈fp,yM X pins H b)(hfo:∀b∈fp,∃o,s.heap.get? b=some o)(hC:s.heap.objs.size<=C)
  (hk:∀b u,s.heap.get? b=some u->h₁.get? b=some u) (hns:h₁.Ns C (fun _=>none)) :
  L2.Inv (DM X T scope C fp s H) [] (List.replicate T.length none++σ) H {s with heap:=h₁,toks:=t}:=by
 have hlt:∀b∈fp,b<s.heap.objs.size:=fun b hb=>let ⟨o,e⟩:=hfo b hb;Heap.lt_size e
 have hcl:∀y c,(vY scope.names X.env.cells []).lookup y=some c->X.env.cells.lookup y=some c:=A1 scope.names [] fun y c h=>by cases h
 have hfr:∀y,(y,NameKind.free)∈scope.names->(X.env.kindOf y=some .cell\/X.env.kindOf y=some .free)/\∃c,(vY scope.names X.env.cells []).lookup y=some c/\X.env.cells.lookup y=some c:=fun y hy=>by
  have k:=ck.free _ hy rfl
  obtain⟨c,hc⟩:=I.ok.has y k
  exact⟨k,c,Jt hc hy,hc⟩
 have hkind:∀y,(compEnvC scope (vY scope.names X.env.cells []) C X.env).kindOf y=(scope.names.lookup y).map fun k=>if (k==NameKind.free&&X.env.scope.kind==.function&&X.env.kindOf y==some .cell) then NameKind.cell else k:=fun y=>Bq scope.names
 have hvis:∀y,((compEnvC scope (vY scope.names X.env.cells []) C X.env).kindOf y=some .cell\/(compEnvC scope (vY scope.names X.env.cells []) C X.env).kindOf y=some .free)->(y,NameKind.free)∈scope.names:=fun y hy=>by
  rw[hkind] at hy
  cases hl:scope.names.lookup y with
  | none=>rw[hl] at hy;rcases hy with z | z<;>cases z
  | some k =>
   have hm:=PySem.mem_of_lookup hl
   rw[hl] at hy
   cases k with
   | free=>exact hm
   | cell=>exact absurd rfl (ck.nocell _ hm)
   | «local»=>rcases hy with z | z<;>cases z
   | globalExplicit=>rcases hy with z | z<;>cases z
   | globalImplicit=>rcases hy with z | z<;>cases z
 refine⟨⟨I.ok.mod,ck.kind,I.ok.glob,I.ok.blt,hC,fun x y c h1 h2=>I.ok.inj x y c (hcl x c h1) (hcl y c h2),fun y hy=>?_,fun y c h=>absurd (show false=true from h) Bool.false_ne_true,I.ok.hd,I.ok.frames,.inl rfl,fun b hb=>⟨?_,fun x c h=>?_⟩,I.bs,
  Nat.le_trans I.ok.bsz I.sz,fun b o e hb=>?_,fun b hb hz=>?_,I.stack,I.stkFree⟩,rfl,I.bare,Un.kept hk,⟨_,hns,fun i x v h1 h2 h3=>?_⟩,fun y c h=>?_,I.hok.fresh hC,fun y c h=>I.freeC y c (hcl y c h),fun p hp=>absurd (show p∈([]:List (Addr×Obj)) from hp) (by simp),I.hok.kept hk,?_⟩
 ·obtain⟨_,c,h1,_⟩:=hfr y (hvis y hy)
  exact⟨c,h1⟩
 ·exact Nat.ne_of_lt (Nat.lt_of_lt_of_le (hlt b hb) hC)
 ·exact(hf b hb).2.2.2.2.1 x c (hcl x c h)
 ·rcases(hf b hb).2.2.2.1 with z | z
  ·exact I.ok.noex b o e z
  ·exact absurd (Nat.lt_of_lt_of_le (Heap.lt_size e) (Nat.le_trans I.ok.bsz z)) (Nat.lt_irrefl _)
 ·rcases List.mem_cons.mp (I.stkSub b hz) with z | z
  ·exact(hf b hb).2.1 z
  ·exact(hf b hb).2.2.1 z
 ·by_cases hi:i<T.length
  ·rw[List.getElem?_append_left (by simpa using hi),List.getElem?_replicate] at h2
   split at h2<;>cases h2
  ·rw[List.getElem?_append_right (by simpa using hi),List.length_replicate] at h2
   have h1':X.N[i - T.length]?=some x:=by
    have z:(T++X.N)[i]?=some x:=h1
    rw[List.getElem?_append_right (by omega)] at z
    exact z
   have hxN:x∈X.N:=List.mem_of_getElem? h1'
   have hxf:(x,NameKind.free)∈scope.names:=by
    rcases h3 with z | z | z
    ·have z':(compEnvC scope (vY scope.names X.env.cells []) C X.env).kindOf x=some .local:=z
     rw[hkind] at z'
     cases hl:scope.names.lookup x with
     | none=>rw[hl] at z';cases z'
     | some k =>
      rw[hl] at z'
      have hkl:k=.local:=by
       cases k with
       | «local»=>rfl
       | free=>simp at z';split at z'<;>cases z'
       | cell=>cases z'
       | globalExplicit=>cases z'
       | globalImplicit=>cases z'
      subst hkl
      rcases ck.loc x hl with q | q
      ·exact absurd rfl ((List.nodup_append.mp hnd).2.2 x q x hxN)
      ·exact absurd (q ▸ hxN) ck.no0
    ·exact hvis x (.inl z)
    ·exact hvis x (.inr z)
   obtain⟨hk2,c,hc1,hc2⟩:=hfr x hxf
   obtain⟨m,hm,hl⟩:=I.loc
   obtain⟨u,ru,lk⟩:=hl _ x v h1' h2 (hk2.elim (fun z=>.inr (.inl z)) fun z=>.inr (.inr z))
   refine⟨u,ru,.inr ⟨?_,c,hc1,?_⟩⟩
   ·rcases h3 with z | z | z
    ·exfalso
     have z':(compEnvC scope (vY scope.names X.env.cells []) C X.env).kindOf x=some .local:=z
     rw[hkind] at z'
     cases hl2:scope.names.lookup x with
     | none=>rw[hl2] at z';cases z'
     | some k =>
      rw[hl2] at z'
      have hkl:k=.local:=by
       cases k with
       | «local»=>rfl
       | free=>simp at z';split at z'<;>cases z'
       | cell=>cases z'
       | globalExplicit=>cases z'
       | globalImplicit=>cases z'
      subst hkl
      rcases ck.loc x hl2 with q | q
      ·exact absurd rfl ((List.nodup_append.mp hnd).2.2 x q x hxN)
      ·exact absurd (q ▸ hxN) ck.no0
    ·exact .inl z
    ·exact .inr z
   ·rcases lk with ⟨kl,_⟩ | ⟨_,c',hc',hcell⟩
    ·rcases hk2 with z | z
     ·rw[kl] at z;cases z
     ·rw[kl] at z;cases z
    ·rw[hc2] at hc'
     cases hc'
     obtain⟨o,ho,hd⟩:=hcell
     exact⟨o,hk _ _ ho,hd⟩
 ·obtain⟨v,o,ho,hd⟩:=I.cell y c (hcl y c h)
  exact⟨v,o,hk _ _ ho,hd⟩
 ·show(List.replicate T.length none++σ).length=(T++X.N).length
  rw[List.length_append,List.length_append,List.length_replicate,I.len]
end
theorem C6 {prog:Program} {w:World} {A:Around} {R':Result->Shared->Prop} {s:Shared} {elt target iter:Expr} {ifs:List Expr} {scope:Scope} {pos:Pos} {it acc:Value} {env:Env} (I:Nat->Shared->Prop)
    (turn:∀n s,I n s->wpAny (model prog w) A (pyNext it) (fun r s₁=>match r with
      | none=>R' (.ok .next) s₁
      | some v=>wpAny (model prog w) A (letOwnedTupleGo target it v) (fun _ s₁'=>wpAny (model prog w) A (assign target env v) (fun _ s₂ =>
          wpAny (model prog w) A (forIn ifs true fun c r=>if r=true then do let ok <- isTrue c env (eval c env);pure (ForInStep.yield ok) else pure (ForInStep.yield r)) (fun ok s₃ =>
            if ok=true then wpAny (model prog w) A (eval elt env) (fun x s₄ =>
              wpAny (model prog w) A (call (.builtin "list.append") [acc,x]) (fun _ s₅=>∃m,m<n/\I m s₅) (fun _ _=>False) s₄) (fun _ _=>False) s₃
            else ∃m,m<n/\I m s₃) (fun _ _=>False) s₂) (fun _ _=>False) s₁') (fun _ _=>False) s₁) (fun _ _=>False) s)
    (n:Nat) (h:I n s):codeAny (model prog w) A (.compLoop (.ListComp elt [⟨target,iter,ifs,0⟩] scope pos) 0 it acc env) R' s:=by
  refine codeAny_loop rfl I (fun n s hI=>?_) n h
  show wpAny _ A ((compTurn (.ListComp elt [⟨target,iter,ifs,0⟩] scope pos) 0 it acc env).onRaise (fun x=>do noteFrame x env;theTreesLotGoes x)) _ _ s
  refine wpAny_noted ?_
  rw[compTurn_list]
  have ff:∀{E:Value->Shared->Prop} (a:Value) (s:Shared),False->E a s:=fun _ _ z=>z.elim
  refine wpAny_bind (wpAny_standAt (wpAny_bind (wpAny_mono (turn n s hI) (fun r s₁ h₁=>?_) ff)))
  cases r with
  | none=>exact wpAny_pure h₁
  | some v =>
    refine wpAny_bind (wpAny_mono h₁ (fun _ s₁' h₁'=>?_) ff)
    refine wpAny_bind (wpAny_mono h₁' (fun _ s₂ h₂=>wpAny_bind (wpAny_mono h₂ (fun ok s₃ h₃=>?_) ff)) ff)
    cases ok with
    | false=>exact wpAny_pure ⟨rfl,h₃⟩
    | true =>
      exact wpAny_bind (wpAny_bind (wpAny_mono h₃ (fun x s₄ h₄=>wpAny_bind (wpAny_mono h₄ (fun _ s₅ h₅=>wpAny_pure (wpAny_pure ⟨rfl,h₅⟩)) ff)) ff))
def Pm(X:Cx)(ifs:List Expr)(c:R->Option Bool):Prop:=
 ∀(pins:List (Addr×Obj)) (s:Shared) (σ:L2.St) (H:Hp) (Q:Bool->Hp->Prop),L2.Inv X pins σ H s->MJ X.K c σ H Q ->
  wpAny (model X.prog X.w) X.A (forIn ifs true fun c r=>if r=true then do let ok <- isTrue c X.env (eval c X.env);pure (ForInStep.yield ok) else pure (ForInStep.yield r)) (TP X pins σ Q) X.xe s
theorem iF{X:Cx}:Pm X [] yK:=fun pins s σ H Q I ⟨ρ,b,er,e,q⟩=>by
 cases e
 exact wpAny_tests_nil ⟨H,I,q H (l3.refl H)⟩
section
variable{X:Cx}{pins:List (Addr×Obj)}{σ:L2.St}{H:Hp}{s:Shared}{T:List Str}{scope:Scope}
def Hv(k:Nat)(stf:D->R->Option R):Prop:=∀(d:D) (τ ρ ρ1:R),τ.length=k->stf d (τ++ρ)=some ρ1->∃ τ',τ'.length=k/\ρ1=τ'++ρ
theorem xx{k i:Nat}(h:i<k):Hv k (setAt i):=fun d τ ρ ρ1 hl e=>by
 unfold setAt at e
 split at e
 ·cases e
  exact⟨τ.set i (some d),by simp[hl],List.set_append_left _ _ (by omega)⟩
 ·cases e
theorem uy.forget{K:W.Frag}{H:Hp}{τ ρ:R}{σ:L2.St}(e:uy K H (τ++ρ) σ):uy K H (List.replicate τ.length none++ρ) σ:=by
 refine⟨by have:=e.1;simpa using this,fun i d h=>?_⟩
 by_cases hi:i<τ.length
 ·rw[List.getElem?_append_left (by simpa using hi),List.getElem?_replicate] at h
  split at h<;>cases h
 ·rw[List.getElem?_append_right (by simpa using hi),List.length_replicate] at h
  exact e.2 i d (by rw[List.getElem?_append_right (by omega)];exact h)
theorem NJ{a:Addr}{o:HO}(I:L2.Inv X pins σ H s)(f:yM X pins H a)(new:u5 X.prog X.w (upd H a o) s.heap a o):L2.Inv X pins σ (upd H a o) s:=by
 obtain⟨f0,f1,f2,f3,f4,f5⟩:=f
 have ne:∀{b:Addr} {u:HO},H b=some u->b≠a:=fun e z=>by rw[z,f0] at e;cases e
 refine⟨I.ok,I.os,I.bare,⟨I.base.keep,I.base.slot,fun b ob e n hx=>?_,I.base.there,fun b xs e=>?_,fun b ob u ny e=>?_,fun b ps d e=>?_⟩,I.loc,I.cell,?_,fun x c e=>?_,fun p hp=>?_,fun b u e=>?_,I.len⟩
 ·have hb:b≠a:=fun z=>by
   rcases f3 with q | q
   ·exact hx (z ▸ q)
   ·exact absurd (Nat.lt_of_lt_of_le (Heap.lt_size e) (z ▸ q)) (Nat.lt_irrefl _)
  rw[au hb]
  exact I.base.free b ob e n hx
 ·have q:=I.base.tups b xs e
  rw[au (ne q)]
  exact q
 ·have q:=I.base.frzs b ob u ny e
  rw[au (ne q)]
  exact q
 ·have q:=I.base.tbls b ps d e
  rw[au (ne q)]
  exact q
 ·rw[au (Ne.symm f1)]
  exact I.free
 ·rw[au (f4 x c e)]
  exact I.freeC x c e
 ·obtain⟨q1,q2,q3⟩:=I.pin p hp
  exact⟨q1,by rw[au (f5 p hp)];exact q2,q3⟩
 ·by_cases hb:b=a
  ·subst hb
   rw[ax] at e
   cases e
   exact new
  ·rw[au hb] at e
   refine(I.hok b u e).stay (fun _ _ _ q=>q) (fun c q=>?_) (fun c xs q=>?_) fun c _ _ q=>?_
   ·rw[au (ne q)];exact q
   ·rw[au (ne q)];exact q
   ·rw[au (ne q)];exact q
theorem KS{C:Addr}{fp:List Addr}{s₃:Shared}{H₃ H':Hp}{b:Addr}{pl:List (Addr×Obj)}(hb:b∈fp\/s₃.heap.objs.size<=b)(hC:b≠C)(hfs:b∉GE X.stack)(hcells:∀x c,(vY scope.names X.env.cells []).lookup x=some c->c≠b)(hn:H' b=none)(hp:∀p∈pl,p.1≠b) :
  yM (DM X T scope C fp s₃ H₃) pl H' b:=⟨hn,hC,hfs,hb,hcells,fun p hp'=>hp p hp'⟩
theorem qt{elt iter tg:Expr}{ifs:List Expr}{pos:Pos}{it:Addr}{fp:List Addr}{tn:Nat->Heap->Prop}{J:It}{E:Value->Shared->Prop}{ρ:R}{ds out:LD}{stf:D->R->Option R}{cf:R->Option Bool}{ef:R->OD}
  (I:L2.Inv X pins σ H s) (hc:X.calm=true) (Tn:Turn X.prog X.w X.K tg J fp it tn) (st:tn 0 s.heap) (hf:∀b∈fp,yM X pins H b)
  (ck:CW scope X.env.scope T X.N) (hnd:(T++X.N).Nodup) (hst:Hv T.length stf) (er:uy X.K H ρ σ) (y:xB X.K J ds H) (hz:ds.length<=sizeLine) (hout:vV stf cf ef ds (List.replicate T.length none++ρ)=some out)
  (hg:∀C s₃ H₃ fp,SG (DM X T scope C fp s₃ H₃) tg stf) (hcnd:∀C s₃ H₃ fp,Pm (DM X T scope C fp s₃ H₃) ifs cf) (he:∀C s₃ H₃ fp,SE (DM X T scope C fp s₃ H₃) elt ef)
  {RR:Value->Addr->Result->Shared->Prop}
  (hRR:∀(a C:Addr) (H':Hp) (s':Shared) (vs:List V),l3 H H'->H' a=some (.lst vs)->l0 X.K H' out vs->L2.Inv X pins σ H' s'->yM X pins H' C->(∃m,s'.heap.Ns C m)->RR (.ref a) C (.ok .next) s') :
  wpAny (model X.prog X.w) X.A (newList []) (fun acc s₃=>wpAny (model X.prog X.w) X.A (newFunctionEnv scope X.env.globals (vY scope.names X.env.cells []) [] X.env.qual none .none (some X.env)) (fun cenv s₄ =>
   codeAny (model X.prog X.w) X.A (.compStart (.ListComp elt [⟨tg,iter,ifs,0⟩] scope pos) 0 (.ref it) acc {cenv with scope:=relabel scope X.env}) (RR acc cenv.locals) s₄) E s₃) E s:=by
 refine wpAny_newObj_type (wpAny_newFunctionEnv ck.nocell (by intro y hy;simp at hy) (fun h₁ hns₁ hsb₁=>?_) ck.kind)
 dsimp only at hns₁ hsb₁ ⊢
 generalize hH2:s.heap.push {cls:=.type "list",dict:=none,data:=.seq ([]:List Value).toArray}=H2 at hns₁ hsb₁ ⊢
 generalize ha:s.heap.objs.size=a at *
 generalize hCe:H2.objs.size=C at hns₁ hsb₁ ⊢
 have hC:C=a+1:=by rw[<- hCe,<- hH2,Heap.size_push,ha]
 have haC':a<C:=by rw[hC];exact Nat.lt_succ_self a
 have haC:a≠C:=Nat.ne_of_lt haC'
 have hle:s.heap.objs.size<=a:=Nat.le_of_eq ha
 have hCle:s.heap.objs.size<=C:=Nat.le_trans hle (Nat.le_of_lt haC')
 have hlta:∀{b:Addr} {o:Obj},s.heap.get? b=some o->b<a:=fun e=>Nat.lt_of_lt_of_le (Heap.lt_size e) hle
 have old:∀b o,s.heap.get? b=some o->h₁.get? b=some o:=fun b o e=>hsb₁.extBut b o (Nat.ne_of_lt (Nat.lt_trans (hlta e) haC')) (Heap.get?_push_of_some _ (hH2 ▸ Heap.get?_push_of_some _ e))
 have hacc:h₁.get? a=some {cls:=.type "list",data:=.seq ([]:List Value).toArray}:=hsb₁.extBut _ _ haC (Heap.get?_push_of_some _ (hH2 ▸ (ha ▸ Heap.get?_push_size _ rfl)))
 have hfo:∀b∈fp,∃o,s.heap.get? b=some o:=fun b hb=>let ⟨o,e,_⟩:=Tn.obj 0 _ st b hb;⟨o,e⟩
 have hlt:∀b∈fp,b<a:=fun b hb=>let ⟨o,e⟩:=hfo b hb;hlta e
 have hns:h₁.Ns C (fun _=>none):=hns₁
 have I0:L2.Inv (DM X T scope C fp s H) [] (List.replicate T.length none++σ) H {s with heap:=h₁,toks:=s.toks+([]:List (Str×Value)).length}:=Id I ck hnd hf hfo hCle old hns
 have hcl:∀y c,(vY scope.names X.env.cells []).lookup y=some c->X.env.cells.lookup y=some c:=A1 scope.names [] fun y c h=>by cases h
 have hfs:∀b,a<=b->b∉GE X.stack:=fun b hb hz=>by
  rcases List.mem_cons.mp (I.stkSub b hz) with z | z
  ·exact absurd (Nat.lt_of_lt_of_le I.lt (Nat.le_trans hle (z ▸ hb))) (Nat.lt_irrefl _)
  ·exact I.nofs (Nat.le_trans hle hb) z
 have hcells:∀b,a<=b->∀x c,(vY scope.names X.env.cells []).lookup x=some c->c≠b:=fun b hb x c h z=>by
  obtain⟨v,q⟩:=I.cell x c (hcl x c h)
  exact absurd (Nat.lt_of_lt_of_le q.lt (Nat.le_trans hle (z ▸ hb))) (Nat.lt_irrefl _)
 have hfpok:∀{H':Hp} {pl:List (Addr×Obj)},(∀b∈fp,H' b=none)->(∀p∈pl,p.1∉fp)->∀b∈fp,yM (DM X T scope C fp s H) pl H' b:=fun {H' pl} hn hp b hb =>
  KS (.inl hb) (Nat.ne_of_lt (Nat.lt_trans (hlt b hb) haC')) (I0.ok.exfs b hb) (fun x c h=>(I0.ok.exf b hb).2 x c h) (hn b hb) fun p hp' z=>hp p hp' (z ▸ hb)
 have hAok:∀{H':Hp},H' a=none->∀b ∈ [a],yM (DM X T scope C fp s H) [] H' b:=fun {H'} hn b hb=>by
  cases List.mem_singleton.mp hb
  exact KS (.inr hle) haC (hfs a (Nat.le_refl _)) (hcells a (Nat.le_refl _)) hn fun p hp=>absurd hp (by simp)
 have hAfp:a∉fp:=fun z=>Nat.lt_irrefl _ (hlt a z)
 have loop:codeAny (model X.prog X.w) X.A (.compLoop (.ListComp elt [⟨tg,iter,ifs,0⟩] scope pos) 0 (.ref it) (.ref a) (compEnvC scope (vY scope.names X.env.cells []) C X.env))
   (RR (.ref a) C) {s with heap:=h₁,toks:=s.toks+([]:List (Str×Value)).length}:=by
  refine C6 (fun n s'=>∃i σ' H' vs its k done rest,n=ds.length - i/\i<=ds.length/\L2.Inv (DM X T scope C fp s H) [] σ' H' s'/\tn i s'.heap/\(∀b∈fp,H' b=none)/\H' a=none/\l3 H H' /\
   s'.heap.get? a=some {cls:=.type "list",data:=.seq (its:List Value).toArray k}/\p9 vs its/\l0 X.K H' done vs/\vs.length<=i/\uy X.K H' (List.replicate T.length none++ρ) σ' /\
   vV stf cf ef (ds.drop i) (List.replicate T.length none++ρ)=some rest/\out=done++rest) ?_ ds.length
   ⟨0,_,H,[],[],0,[],out,by omega,Nat.zero_le _,I0,Tn.keep _ _ _ st (fun b hb o e=>old b o e),fun b hb=>(hf b hb).1,I.hok.fresh hle,l3.refl H,hacc,.nil,rfl,Nat.zero_le _,er.front T.length (List.replicate T.length none) (by simp),by simpa using hout,rfl⟩
  rintro n s' ⟨i,σ',H',vs,its,k,done,rest,rfl,hi,I',st',hn',hna,sm,ho,hv,hrd,hvl,er',hrest,hsum⟩
  have Ip:=I'.pinned (fp:=[a]) (hAok hna) fun b hb=>by
   cases List.mem_singleton.mp hb
   exact⟨_,ho,fun v z=>by cases z⟩
  generalize hP:([]:List (Addr×Obj))++y6 [a] s'.heap=P at Ip
  have hPm:(a,({cls:=.type "list",data:=.seq its.toArray k}:Obj))∈P:=by rw[<- hP];exact List.mem_append_right _ (cY (by simp) ho)
  have hPa:∀p∈P,p.1∉fp:=fun p hp z=>by
   rw[<- hP] at hp
   obtain⟨q,_⟩:=CG hp
   rw[List.mem_singleton.mp q] at z
   exact hAfp z
  by_cases hlt':i<ds.length
  ·have hd:ds[i]?=some ds[i]:=by simp[hlt']
   obtain⟨hgo,hy⟩:=y.1 i ds[i] H' (Kp.of sm) hd
   rw[List.drop_eq_getElem_cons hlt'] at hrest
   obtain⟨ρ1,e1,hrest⟩:=i9 hrest
   obtain⟨b,e2,hrest⟩:=i9 hrest
   obtain⟨o,e3,hrest⟩:=i9 hrest
   obtain⟨rest',e4,e5⟩:=ud hrest
   obtain⟨τ,hτ,hρ1⟩:=hst ds[i] (List.replicate T.length none) ρ ρ1 (by simp) e1
   refine ug (Tn.item (DM X T scope C fp s H) rfl rfl rfl hc i P s' σ' H' (fun _ _=>False) Ip (hfpok hn' hPa) st' hgo) fun r s1 ⟨u,hr,h4⟩=>?_
   subst hr
   refine ug h4 fun _ s2 ⟨x,H2',I2,r2,y2,st2,fr2⟩=>?_
   obtain⟨s12,rx⟩:=hy x H2' y2
   have I3:=I2.pinned (fp:=fp) (hfpok fr2 hPa) (Tn.obj _ _ st2)
   refine ug (hg C s H fp _ s2 σ' H2' x u (fun σ3 H3=>l3 H2' H3/\uy X.K H3 ρ1 σ3) I3 r2 ⟨_,_,ds[i],ρ1,(er'.mono s12).t,rx,e1,fun σ3 H3 s3 er3=>⟨s3,er3.1⟩⟩) fun _ s3 ⟨σ3,H3,I4,s23,er3⟩=>?_
   refine ug (hcnd C s H fp _ s3 σ3 H3 (fun b' H4=>b'=b/\l3 H3 H4) I4 ⟨ρ1,b,er3,e2,fun H4 s4=>⟨rfl,s4⟩⟩) fun b' s4 ⟨H4,I5,hb',s34⟩=>?_
   subst hb'
   have fin:∀{H5:Hp} {s5:Shared},L2.Inv (DM X T scope C fp s H) (P++y6 fp s2.heap) σ3 H5 s5->(∀b∈fp,H5 b=none)/\H5 a=none/\s5.heap.get? a=some {cls:=.type "list",data:=.seq its.toArray k}/\(∀b∈fp,∀o,s2.heap.get? b=some o->s5.heap.get? b=some o):=fun {H5 s5} I6=>by
    refine⟨fun b hb=>?_,(I6.pin _ (List.mem_append_right _ (List.mem_append_left _ hPm))).2.1,(I6.pin _ (List.mem_append_right _ (List.mem_append_left _ hPm))).1,fun b hb o e=>(I6.pin (b,o) (List.mem_append_right _ (List.mem_append_right _ (cY hb e)))).1⟩
    obtain⟨o,e,_⟩:=Tn.obj _ _ st2 b hb
    exact(I6.pin (b,o) (List.mem_append_right _ (List.mem_append_right _ (cY hb e)))).2.1
   have unpin:∀{H5:Hp} {s5:Shared},L2.Inv (DM X T scope C fp s H) (P++y6 fp s2.heap) σ3 H5 s5->L2.Inv (DM X T scope C fp s H) [] σ3 H5 s5:=fun I6=>I6.pins_of fun p hp=>absurd hp (by simp)
   have erb:∀{H5:Hp},l3 H3 H5->uy X.K H5 (List.replicate T.length none++ρ) σ3:=fun s5=>by
    have z:=er3.mono s5
    rw[hρ1] at z
    have z2:=z.forget
    rw[hτ] at z2
    exact z2
   cases b' with
   | false =>
    cases e3
    rw[if_neg Bool.false_ne_true]
    obtain⟨q1,q2,q3,q4⟩:=fin I5
    have sm4:l3 H H4:=sm.trans (s12.trans (s23.trans s34))
    have smr:l3 H' H4:=s12.trans (s23.trans s34)
    exact⟨ds.length - (i+1),by omega,i+1,σ3,H4,vs,its,k,done,rest',rfl,hlt',unpin I5,Tn.keep _ _ _ st2 q4,q1,q2,sm4,q3,hv,hrd.mono smr,Nat.le_succ_of_le hvl,erb s34,e4,by rw[hsum,<- e5]⟩
   | true =>
    rw[if_pos rfl] at e3 ⊢
    obtain⟨yv,e6,e7⟩:=ud e3
    subst e7
    refine ug (he C s H fp _ s4 σ3 H4 (fun v H5=>l3 H4 H5/\Rep X.K H5 yv v) I5 ⟨ρ1,yv,er3.mono s34,e6,fun v H5 s5 r5=>⟨s5,r5⟩⟩) fun xv s5 ⟨v,H5,I6,rv,s45,ry⟩=>?_
    obtain⟨q1,q2,q3,q4⟩:=fin I6
    have hl:=hv.length
    refine call_meets F.slot_list_append ⟨_,q3,rfl⟩ F.entry_list_append (F.args_list_append_2 _ _) (PySem.list_append a its.toArray k xv (by rw[List.size_toArray];omega)) ⟨q3,?_⟩
    have q:=PySem.IsL.update q3 (fun xs=>xs.push xv)
    have sm5:l3 H H5:=sm.trans (s12.trans (s23.trans (s34.trans s45)))
    have smr:l3 H' H5:=s12.trans (s23.trans (s34.trans s45))
    have I7:L2.Inv (DM X T scope C fp s H) [] σ3 H5 {s5 with heap:=s5.heap.update a (Obj.mapSeq fun xs=>xs.push xv),toks:=s5.toks}:=
     (unpin I6).turned (it:=a) (t':=s5.toks) (fun b ob hb hu=>(Heap.get?_update_other s5.heap _ (Ne.symm hb)).trans hu) q2 haC (.inr hle) (hcells a (Nat.le_refl _)) fun p hp=>absurd (show p∈([]:List (Addr×Obj)) from hp) (by simp)
    refine⟨ds.length - (i+1),by omega,i+1,σ3,H5,vs++[v],its++[xv],(if (its.toArray.push xv).size==its.toArray.size then k else k+1),done++[yv],rest',rfl,hlt',I7,Tn.keep _ _ _ st2 fun b hb ob e=>?_,q1,q2,sm5,?_,hv.append (.cons rv .nil),(hrd.mono smr).append (l0.one ry),by simp;omega,erb (s34.trans s45),e4,by rw[hsum,<- e5];simp⟩
    ·have hne:b≠a:=fun z=>hAfp (z ▸ hb)
     exact(Heap.get?_update_other s5.heap _ (Ne.symm hne)).trans (q4 b hb ob e)
    ·have z:its.toArray.push xv=(its++[xv]).toArray:=by simp
     rw[<- z]
     exact q
  ·have ei:i=ds.length:=by omega
   subst ei
   rw[List.drop_length] at hrest
   cases hrest
   rw[List.append_nil] at hsum
   subst hsum
   refine ug (Tn.done (DM X T scope C fp s H) rfl rfl rfl hc ds.length P s' σ' H' (fun _ _=>False) Ip (hfpok hn' hPa) st' (y.2 _ H' (Kp.of sm) (Nat.le_refl _))) fun r s1 ⟨hr,I1⟩=>?_
   subst hr
   have ho1:=(I1.pin _ (List.mem_append_right _ hPm)).1
   have IX:L2.Inv X pins σ H' s1:=I.call' (ch:=fp) I1.os I1.base I1.hok I1.bare fun b hb=>⟨(hf b hb).2.2.2.1,(hf b hb).2.1,(hf b hb).2.2.2.2.1,(hf b hb).2.2.2.2.2⟩
   have fA:yM X pins H' a:=I.fpOk hle hna
   have s2:=aN hna (.lst vs)
   refine hRR a C (upd H' a (.lst vs)) s1 vs (sm.trans s2) ax (hrd.mono s2) (NJ IX fA ⟨Nat.le_trans hvl hz,its,k,hv,ho1⟩) (I.fpOk hCle ?_) (let ⟨m,q,_⟩:=I1.loc;⟨m,q⟩)
   rw[au (Ne.symm haC)]
   exact I1.free
 exact codeAny_compStart_list loop (Tn.self _ _ _ _ _ (Tn.keep _ _ _ st fun b hb o e=>old b o e) loop)
variable{elt iter tg:Expr}{ifs:List Expr}{pos p2:Pos}{itf:R->Option LD}{stf:D->R->Option R}{cf:R->Option Bool}{ef:R->OD}
theorem oZ(I:L2.Inv X pins σ H s)(ck:CW scope X.env.scope T X.N):closureFor scope X.env=pure (vY scope.names X.env.cells []):=E2 fun p hp hf=>I.ok.has p.1 (ck.free p hp hf)
theorem kT(hc:X.calm=true)(hi:SI X tg iter itf)(hg:∀C s₃ H₃ fp,SG (DM X T scope C fp s₃ H₃) tg stf)(hcnd:∀C s₃ H₃ fp,Pm (DM X T scope C fp s₃ H₃) ifs cf)(he:∀C s₃ H₃ fp,SE (DM X T scope C fp s₃ H₃) elt ef)
  (hst:Hv T.length stf) (hnd:(T++X.N).Nodup) (ck:Df scope X.env.scope T X.N=true:=by rfl) (hs:∀x,foldedSetIterable iter X.env x=pure x:=by intro _;rfl) :
  SE X (.ListComp elt [⟨tg,iter,ifs,0⟩] scope pos) (En T.length itf stf cf ef):=by
 intro pins s σ H Q I hw
 obtain⟨ρ,d,er,e,q⟩:=hw
 obtain⟨ds,e1,e⟩:=i9 e
 have ck':=GK ck
 split at e
 ·rename_i hz
  obtain⟨out,e2,e3⟩:=ud e
  subst e3
  rw[eval_ListComp]
  refine wpAny_comprehension_free (use:=none) rfl hs (oZ I ck') ck'.kind ck'.names ?_
  refine ug (hi pins s σ H (fun J H'=>l3 H H'/\xB X.K J ds H') I ⟨ρ,ds,er,e1,fun J H' s1 y=>⟨s1,y⟩⟩) fun v s1 h1=>ug h1 fun itv s2 h2=>?_
  obtain⟨it,fp,tn,J,H',ei,I2,Tn,st,hf,s12,y⟩:=h2
  subst ei
  refine qt (RR:=fun acc C=>compPost (model X.prog X.w) X.A X.xe none (EP X pins σ Q) acc C) I2 hc Tn st hf ck' hnd hst (er.mono s12) y hz e2 hg hcnd he ?_
  intro a C H3 s' vs sm ha hr I3 fC hns
  obtain⟨m,hm⟩:=hns
  refine⟨m,hm,fun h' hsb=>⟨.ref a,H3,?_,rfl,q _ H3 (s12.trans sm) ⟨a,vs,rfl,ha,hr⟩⟩⟩
  obtain⟨f0,f1,f2,f3,f4,f5⟩:=fC
  exact I3.turned (it:=C) (t':=s'.toks) (fun b o hb eb=>(hsb.2 b hb).trans eb) f0 f1 f3 f4 f5
 ·cases e
end
set_option maxHeartbeats 1000000
section
variable{X:Cx}
theorem ints2{K:W.Frag}{H:Hp}{i j:Int}{xs:List V}(r:l0 K H [.int i,.int j] xs):xs=[.int i,.int j]:=by
 obtain⟨v,r',rfl,r1,w,r'',rfl,r2,r3⟩:=r
 cases (show v=_ from r1)
 cases (show w=_ from r2)
 cases (show r''=[] from r3)
 rfl
theorem gY(hc:X.calm=true):JO X (.builtin "max") DD:=(oH hc).imp fun xs H Q ⟨ds,d,r,e,q⟩=>by
 match ds,e with
 | [.int i,.int j],e =>
  cases e
  exact⟨i,j,ints2 r,q _ H (l3.refl H) rfl⟩
theorem fK:JO X (.type "int") xq:=GJ.imp fun xs H Q ⟨ds,d,r,e,q⟩=>by
 match ds,e with
 | [.int i],e =>
  cases e
  obtain⟨v,r',rfl,r1,r2⟩:=r
  cases (show v=_ from r1)
  cases (show r'=[] from r2)
  exact .inl ⟨i,rfl,q _ H (l3.refl H) rfl⟩
 | [.bl b],e =>
  cases e
  obtain⟨v,r',rfl,r1,r2⟩:=r
  cases (show v=_ from r1)
  cases (show r'=[] from r2)
  exact .inr ⟨b,rfl,q _ H (l3.refl H) rfl⟩
mutual
theorem x8{pins:List (Addr×Obj)}{σ:L2.St}{H:Hp}{s:Shared}(I:L2.Inv X pins σ H s):∀{d:D} {v:V} {u:Value},t_ d=true->Rep X.K H d v->RelV v u->∃as,Reads s.heap u (toPy d) as
 | .non,v,u,hn,h,r=>by
  cases (show v=_ from h)
  cases (show u=_ from r)
  exact⟨_,.none⟩
 | .bl b,v,u,hn,h,r=>by
  cases (show v=_ from h)
  cases (show u=_ from r)
  exact⟨_,.bool b⟩
 | .int i,v,u,hn,h,r=>by
  cases (show v=_ from h)
  obtain⟨t,rfl⟩:=r
  exact⟨_,.int i t⟩
 | .str x,v,u,hn,h,r=>by
  cases (show v=_ from h)
  obtain⟨t,rfl⟩:=r
  exact⟨_,.str x t⟩
 | .tup ds,v,u,hn,h,r=>by
  obtain⟨a,xs,rfl,q,t⟩:=h
  cases (show u=_ from r)
  obtain⟨its,rv,⟨o,e,c,n,dd⟩,_⟩:=I.tuple q
  obtain⟨as,ra⟩:=yC I hn t rv
  exact⟨_,.tuple e c dd (by simpa using ra)⟩
 | .lst ds,v,u,hn,h,r=>by
  obtain⟨a,xs,rfl,q,t⟩:=h
  cases (show u=_ from r)
  obtain⟨its,rv,⟨o,n,e,c,_,dd⟩,_⟩:=I.list (wZ.of q)
  obtain⟨as,ra⟩:=yC I hn t rv
  exact⟨_,.list e c dd (by simpa using ra)⟩
 | .fro ds,v,u,hn,h,r=>by
  obtain⟨a,xs,rfl,q,t⟩:=h
  cases (show u=_ from r)
  obtain⟨its,rv,⟨o,n,e,c,_,dd⟩,_⟩:=I.list q
  obtain⟨as,ra⟩:=yC I hn t rv
  exact⟨_,.list e c dd (by simpa using ra)⟩
 | .obj ..,v,u,hn,h,r=>by cases hn
theorem yC{pins:List (Addr×Obj)}{σ:L2.St}{H:Hp}{s:Shared}(I:L2.Inv X pins σ H s):∀{ds:LD} {vs:List V} {us:List Value},m6 ds=true->l0 X.K H ds vs->p9 vs us->∃as,ReadsAll s.heap us (wD ds) as
 | [],vs,us,hn,h,r=>by
  cases (show vs=[] from h)
  cases r
  exact⟨_,.nil⟩
 | d::ds,vs,us,hn,h,r=>by
  have hn':(t_ d&&m6 ds)=true:=hn
  rw[Bool.and_eq_true] at hn'
  obtain⟨v,vr,rfl,h1,h2⟩:=h
  cases r with
  | cons r1 r2 =>
   obtain⟨as,q1⟩:=x8 I hn'.1 h1 r1
   obtain⟨bs,q2⟩:=yC I hn'.2 h2 r2
   exact⟨_,.cons q1 q2⟩
end
end
noncomputable def yi(a:Addr)(xs:List V):HO:=.ext fun h=>xs.length<=sizeLine/\∃(its:List Value) (n:Nat),p9 xs its/\h.get? a=some {cls:=.type "list",data:=.seq its.toArray n}
section
variable{X:Cx}{pins:List (Addr×Obj)}{σ:L2.St}{H:Hp}{s:Shared}{a:Addr}{xs:List V}
theorem nO(I:L2.Inv X pins σ H s)(h:H a=some (yi a xs)):xs.length<=sizeLine/\∃(its:List Value) (n:Nat),p9 xs its/\s.heap.get? a=some {cls:=.type "list",data:=.seq its.toArray n}:=(I.hok a _ h).1
theorem EK(I:L2.Inv X pins σ H s)(h:H a=some (.lst xs)):L2.Inv X pins σ (upd H a (yi a xs)) s:=by
 obtain⟨z,its,n,r,e⟩:=I.hok a _ h
 have:=I.write (t':=s.toks) (h':=s.heap) (o:=yi a xs) (x:=a) (e:=a) (by rw[h];trivial) (.inl rfl) (fun _ _ _ q=>q) ⟨_,e⟩ ⟨⟨z,its,n,r,e⟩,⟨_,e⟩,fun h1 h2 ⟨z,its,n,r,e⟩ k=>⟨z,its,n,r,k _ e⟩⟩
 exact this
theorem IC(I:L2.Inv X pins σ H s)(h:H a=some (yi a xs)):L2.Inv X pins σ (upd H a (.lst xs)) s:=by
 obtain⟨z,its,n,r,e⟩:=nO I h
 have:=I.write (t':=s.toks) (h':=s.heap) (o:=.lst xs) (x:=a) (e:=a) (by rw[h];trivial) (.inl rfl) (fun _ _ _ q=>q) ⟨_,e⟩ ⟨z,its,n,r,e⟩
 exact this
def xm(a:Addr)(H H':Hp):Prop:=∀b u,b≠a->H b=some u->H' b=some u
theorem xm.of{H H':Hp}(h:l3 H H'):xm a H H':=fun b u _ e=>h b u e
theorem xm.trans{H H1 H2:Hp}(h:xm a H H1)(h':xm a H1 H2):xm a H H2:=fun b u n e=>h' b u n (h b u n e)
theorem xm.upd{o:HO}:xm a H (upd H a o):=fun b u n e=>by rw[au n];exact e
theorem xm.kp{H H':Hp}(h:xm a H H')(ho:H a=some (yi a xs)):Kp H H':=fun b u e n=>by
 by_cases hb:b=a
 ·subst hb
  rw[ho] at e
  cases e
  exact absurd rfl (n _)
 ·exact h b u hb e
end
section
variable(K:W.Frag)
def On(u:R->LD->Option (Out×LD)):TS:=fun E σ H=>∃ ρ τ a ds xs o ds',uv K H ρ (some (.ref a)::τ) σ/\H a=some (yi a xs)/\l0 K H ds xs/\u ρ ds=some (o,ds') /\
 ∀H' xs',xm a H H'->H' a=some (yi a xs')->l0 K H' ds' xs'->fin K E (some (.ref a)::τ) o H'
def P6(u:R->LD->Option Out):TS:=fun E σ H=>∃ ρ τ a ds xs o,uv K H ρ (some (.ref a)::τ) σ/\H a=some (yi a xs)/\l0 K H ds xs/\u ρ ds=some o/\∀H',xm a H H'->fin K E τ o H'
end
def OS(X:Cx)(st:Stmt)(u:R->LD->Option (Out×LD)):Prop:=PS X st (On X.K u)
def KU(X:Cx)(sts:List Stmt)(u:R->LD->Option (Out×LD)):Prop:=PSs X sts (On X.K u)
def OB(X:Cx)(sts:List Stmt)(u:R->LD->Option Out):Prop:=PSs X sts (P6 X.K u)
section
variable{X:Cx}{st:Stmt}{sts:List Stmt}{u:R->Option Out}{p q:R->LD->Option (Out×LD)}{pos:Pos}
theorem FN{E:Ends}{σ:L2.St}{H:Hp}{K:W.Frag}(h:On K (yV u) E σ H):KR K u E σ H:=by
 obtain⟨ρ,τ,a,ds,xs,o,ds',er,ho,rp,e,q⟩:=h
 obtain⟨o1,e1,e2⟩:=ud e
 cases e2
 exact⟨ρ,_,o,er,e1,fun H' s=>q H' xs (xm.of s) (s _ _ ho) (rp.mono s)⟩
theorem nF(h:S1 X st u):OS X st (yV u):=PS.imp h fun E σ H z=>FN z
theorem qo(h:SS X sts u):KU X sts (yV u):=PSs.imp h fun E σ H z=>FN z
theorem iB:KU X [] Av:=AS.imp fun E σ H ⟨ρ,τ,a,ds,xs,o,ds',er,ho,rp,e,q⟩=>by
 cases e
 exact q H xs (xm.of (l3.refl H)) ho rp σ er
theorem ji(h1:OS X st p)(h2:KU X sts q):KU X (st::sts) (B7 p q):=(cg h1 h2).imp fun E σ H ⟨ρ,τ,a,ds,xs,o,ds',er,ho,rp,e,qq⟩=>by
 obtain⟨⟨o1,x3⟩,e1,e⟩:=i9 e
 refine⟨ρ,τ,a,ds,xs,o1,x3,er,ho,rp,e1,fun H1 xs1 k1 ho1 rp1=>?_⟩
 cases o1 with
 | nx ρ2=>exact fun σ2 er2=>⟨ρ2,τ,a,x3,xs1,o,ds',er2,ho1,rp1,e,fun H2 xs2 k2 ho2 rp2=>qq H2 xs2 (k1.trans k2) ho2 rp2⟩
 | rt d=>cases e;exact qq H1 xs1 k1 ho1 rp1
 | bk ρ2=>cases e;exact qq H1 xs1 k1 ho1 rp1
 | ct ρ2=>cases e;exact qq H1 xs1 k1 ho1 rp1
theorem fr(h:OS X st p):KU X [st] p:=fu h
theorem nB{c:Expr}{s:R->Option Bool}{B1 B2:List Stmt}(hc:ST X c s)(ha:KU X B1 p)(hb:KU X B2 q):OS X (.If c B1 B2 pos) (IZ s p q):=(nC hc ha hb).imp fun E σ H ⟨ρ,τ,a,ds,xs,o,ds',er,ho,rp,e,qq⟩=>by
 obtain⟨x,e1,e⟩:=i9 e
 refine⟨ρ,x,er.1,e1,fun H1 s1=>?_⟩
 cases x with
 | true=>rw[if_pos rfl] at e ⊢;exact⟨ρ,τ,a,ds,xs,o,ds',er.mono s1,s1 _ _ ho,rp.mono s1,e,fun H2 xs2 k2=>qq H2 xs2 ((xm.of s1).trans k2)⟩
 | false=>rw[if_neg Bool.false_ne_true] at e ⊢;exact⟨ρ,τ,a,ds,xs,o,ds',er.mono s1,s1 _ _ ho,rp.mono s1,e,fun H2 xs2 k2=>qq H2 xs2 ((xm.of s1).trans k2)⟩
theorem m_{tg iter:Expr}{B:List Stmt}{it:R->Option LD}{stf:D->R->Option R}(hp:PassesOwn (model X.prog X.w) X.A X.env X.xe)(hc:X.calm=true)(hi:SI X tg iter it)(hg:SG X tg stf)(hb:KU X B p)
  (hs:∀x,foldedSetIterable iter X.env x=pure x:=by intro _;rfl):OS X (.For tg iter B [] pos) (FD it stf p):=(me hp hc hi hg hb hs).imp fun E σ H ⟨ρ,τ,a,ls,xs,o,ls',er,ho,rp,e,q⟩=>by
 obtain⟨ds,e1,e⟩:=i9 e
 refine⟨ρ,ds,er.1,e1,fun J H1 s1 y=>?_⟩
 refine⟨fun i m σ' H'=>m=ds.length - i/\i<=ds.length/\xm a H1 H'/\∃ ρ' l xs',uv X.K H' ρ' (some (.ref a)::τ) σ'/\H' a=some (yi a xs')/\l0 X.K H' l xs'/\zL stf p (ds.drop i) ρ' l=some (o,ls'),
  ⟨ds.length,by simp,Nat.zero_le _,xm.of (l3.refl _),ρ,ls,xs,er.mono s1,s1 _ _ ho,rp.mono s1,by simpa using e⟩,?_⟩
 rintro i m σ' H' ⟨rfl,hi,s2,ρ',l,xs',er',ho',rp',e'⟩
 have kp:Kp H1 H':=s2.kp (s1 _ _ ho)
 by_cases hlt:i<ds.length
 ·refine .inr ?_
  have hd:ds[i]?=some ds[i]:=by simp[hlt]
  obtain⟨hgo,hy⟩:=y.1 i ds[i] H' kp hd
  rw[List.drop_eq_getElem_cons hlt] at e'
  obtain⟨ρ1,e2,e'⟩:=i9 e'
  obtain⟨⟨o1,l1⟩,e3,e'⟩:=i9 e'
  refine⟨hgo,fun σ2 H2=>i+1<=ds.length/\xm a H1 H2/\∃ ρ' l xs',uv X.K H2 ρ' (some (.ref a)::τ) σ2/\H2 a=some (yi a xs')/\l0 X.K H2 l xs'/\zL stf p (ds.drop (i+1)) ρ' l=some (o,ls'),
   fun σ2 H2 n2=>⟨ds.length - (i+1),by omega,rfl,n2.1,n2.2⟩,fun x H3 yx=>?_⟩
  obtain⟨s3,rx⟩:=hy x H3 yx
  refine⟨ρ',_,ds[i],ρ1,er'.mono s3,rx,e2,fun σ4 H4 s4 er4=>⟨ρ1,τ,a,l,xs',o1,l1,er4,s4 _ _ (s3 _ _ ho'),(rp'.mono s3).mono s4,e3,fun H5 xs5 k5 ho5 rp5=>?_⟩⟩
  have s15:xm a H1 H5:=s2.trans ((xm.of s3).trans ((xm.of s4).trans k5))
  cases o1 with
  | nx ρ2=>exact fun σ6 er6=>⟨hlt,s15,ρ2,l1,xs5,er6,ho5,rp5,e'⟩
  | ct ρ2=>exact fun σ6 er6=>⟨hlt,s15,ρ2,l1,xs5,er6,ho5,rp5,e'⟩
  | bk ρ2=>cases e';exact fun σ6 er6=>q H5 xs5 ((xm.of s1).trans s15) ho5 rp5 σ6 er6
  | rt d=>cases e';exact q H5 xs5 ((xm.of s1).trans s15) ho5 rp5
 ·have e4:i=ds.length:=by omega
  subst e4
  rw[List.drop_length] at e'
  cases e'
  exact .inl ⟨y.2 _ H' kp (Nat.le_refl _),q H' xs' ((xm.of s1).trans s2) ho' rp' σ' er'⟩
theorem mj{K:W.Frag}{H:Hp}{ρ:R}{v:V}{τ σ:L2.St}(er:uv K H ρ (some v::τ) σ):σ[ρ.length]?=some (some v):=by
 have:=er.2
 have h0:(σ.drop ρ.length)[0]?=some (some v):=by rw[this];rfl
 rw[List.getElem?_drop] at h0
 simpa using h0
theorem pQ{x name:Str}{e:Expr}{px ap cp:Pos}{f:R->OD}{id:String}{r:V->List V->Hp->VK->Prop}{g:LD->D->Option LD}{u:R->LD->Option (Out×LD)}(i:Nat)(slot:Slot "list" name id)(hty:typeOf (.builtin id)=pure (.type "method_descriptor"))(hm:OW X id r)
  (hu:∀ ρ ds o ds',u ρ ds=some (o,ds')->ρ.length=i/\o=.nx ρ/\∃d,f ρ=some d/\g ds d=some ds')
  (hr:∀(H:Hp) (a:Addr) (xs:List V) (v:V) (ds ds':LD) (d:D) (Q:VK),H a=some (yi a xs)->l0 X.K H ds xs->Rep X.K H d v->g ds d=some ds'->(∀xs',l0 X.K H ds' xs'->Q .non (upd (upd H a (.lst xs)) a (.lst xs')))->r (.ref a) [v] (upd H a (.lst xs)) Q)
  (he:SE X e f) (hN:X.N[i]?=some x:=by rfl) (hv:G0 X.env.scope x:=by first | exact Or.inl rfl | exact Or.inr (Or.inl rfl) | exact Or.inr (Or.inr rfl)) (hd:(x==("__debug__" : Str))=false:=by decide) (hcd:(x==("__classdict__" : Str))=false:=by decide)
  (hbase:attributeBase (.Name x px) name X.env (eval (.Name x px) X.env)=eval (.Name x px) X.env:=by rfl) (hst:noStar e=true:=by rfl)
  (hline:(ap.endLine==cp.line)=true:=by rfl) (hs:swapsWith (.Call (.Attribute (.Name x px) name ap) [e] [] cp) none pos.line X.env=pure false:=by rfl) :
  OS X (.Expr (.Call (.Attribute (.Name x px) name ap) [e] [] cp) pos) u:=by
 intro pins s σ H E I ⟨ρ,τ,a,ds,xs,o,ds',er,ho,rp,eu,qq⟩
 obtain⟨hi,rfl,d,e1,e2⟩:=hu ρ ds o ds' eu
 have hσ:=mj er
 rw[hi] at hσ
 have hst1:=aK [] X.env hst
 refine wpAny_Expr_any (wpAny_Call_method_late hbase ?_ hline rfl (ug ((pv i (pos:=px) hN hv hd hcd) pins s σ H (fun v H1=>v=.ref a/\H1=H) I ⟨.ref a,hσ,rfl,rfl⟩) fun v s1 ⟨y,H1,I1,r1,ey,eH⟩=>?_)) I.quiet hs
 ·rw[hst1]
  rfl
 subst ey eH
 cases (show v=_ from r1)
 obtain⟨z,its,n,rv,eo⟩:=nO I1 ho
 refine⟨"list",id,PySem.F.plainAttrs_list,slot,hty,⟨_,eo,rfl⟩,fun b eb=>?_,?_⟩
 ·cases eb
  exact⟨_,eo,rfl⟩
 have hA:=(ab he af hst).1 cp pins s1 σ H1 (fun vs H2=>l3 H1 H2/\l0 X.K H2 [d] vs) I1 ⟨ρ,[d],er.1,by show(f ρ).bind _=_;rw[e1];rfl,fun vs H2 s2 r2=>⟨s2,r2⟩⟩
 rw[hst1] at hA ⊢
 refine Calls.callWith_builtin rfl (Calls.evalArgs_plain ?_)
 refine ug hA fun us s2 ⟨vs,H2,I2,r2,s12,rd⟩=>?_
 obtain⟨w,w',rfl,rw1,rw2⟩:=rd
 cases (show w'=[] from rw2)
 have ho2:=s12 _ _ ho
 have I3:=IC I2 ho2
 refine ug (hm pins s2 σ (upd H2 a (.lst xs)) (.ref a) [w] (.ref a) us (fun v H3=>∃xs',l0 X.K H2 ds' xs'/\H3=upd (upd H2 a (.lst xs)) a (.lst xs')) I3 rfl r2 (hr H2 a xs w ds ds' d _ ho2 (rp.mono s12) rw1 e2 fun xs' rp'=>⟨xs',rp',rfl⟩)) fun v s3 ⟨v',H3,I4,_,xs',rp',e3⟩=>?_
 subst e3
 have I5:=EK I4 ax
 generalize hH5:upd (upd (upd H2 a (.lst xs)) a (.lst xs')) a (yi a xs')=H5 at I5
 have k25:xm a H2 H5:=by
  subst hH5
  exact xm.upd.trans (xm.upd.trans xm.upd)
 have ho5:H5 a=some (yi a xs'):=by subst hH5;exact ax
 have k15:xm a H1 H5:=(xm.of s12).trans k25
 refine⟨σ,H5,I5,qq H5 xs' k15 ho5 (rp'.kp (k25.kp ho2)) σ (er.kp (k15.kp ho))⟩
theorem gB{x:Str}{e:Expr}{px ap cp:Pos}{f:R->OD}(i:Nat)(he:SE X e f)(hN:X.N[i]?=some x:=by rfl)(hv:G0 X.env.scope x:=by first | exact Or.inl rfl | exact Or.inr (Or.inl rfl) | exact Or.inr (Or.inr rfl))(hd:(x==("__debug__" : Str))=false:=by decide)(hcd:(x==("__classdict__" : Str))=false:=by decide)
  (hbase:attributeBase (.Name x px) "append" X.env (eval (.Name x px) X.env)=eval (.Name x px) X.env:=by rfl) (hst:noStar e=true:=by rfl)
  (hline:(ap.endLine==cp.line)=true:=by rfl) (hs:swapsWith (.Call (.Attribute (.Name x px) "append" ap) [e] [] cp) none pos.line X.env=pure false:=by rfl) :
  OS X (.Expr (.Call (.Attribute (.Name x px) "append" ap) [e] [] cp) pos) (A_ i f):=by
 refine pQ (g:=fun ds d=>if ds.length<sizeLine then some (ds++[d]) else none) (f:=f) i PySem.F.slot_list_append PySem.F.type_list_append jK ?_ ?_ he hN hv hd hcd hbase hst hline hs
 ·intro ρ ds o ds' h
  obtain⟨d,e1,h⟩:=i9 h
  split at h
  ·rename_i hc
   cases h
   exact⟨hc.1,rfl,d,e1,if_pos hc.2⟩
  ·cases h
 ·intro H a xs v ds ds' d Q ho rp rd e q
  split at e
  ·rename_i hc
   cases e
   exact⟨a,xs,v,rfl,rfl,ax,by rw[<- rp.length];exact hc,q _ (rp.append (l0.one rd))⟩
  ·cases e
theorem pj{x:Str}{e:Expr}{px ap cp:Pos}{f:R->OD}(i:Nat)(he:SE X e f)(hN:X.N[i]?=some x:=by rfl)(hv:G0 X.env.scope x:=by first | exact Or.inl rfl | exact Or.inr (Or.inl rfl) | exact Or.inr (Or.inr rfl))(hd:(x==("__debug__" : Str))=false:=by decide)(hcd:(x==("__classdict__" : Str))=false:=by decide)
  (hbase:attributeBase (.Name x px) "extend" X.env (eval (.Name x px) X.env)=eval (.Name x px) X.env:=by rfl) (hst:noStar e=true:=by rfl)
  (hline:(ap.endLine==cp.line)=true:=by rfl) (hs:swapsWith (.Call (.Attribute (.Name x px) "extend" ap) [e] [] cp) none pos.line X.env=pure false:=by rfl) :
  OS X (.Expr (.Call (.Attribute (.Name x px) "extend" ap) [e] [] cp) pos) (Ey i f):=by
 refine pQ (g:=fun ds d=>match d with | .lst es=>if ds.length+es.length<=sizeLine then some (ds++es) else none | _=>none) (f:=f) i PySem.F.slot_list_extend PySem.F.type_list_extend oj ?_ ?_ he hN hv hd hcd hbase hst hline hs
 ·intro ρ ds o ds' h
  obtain⟨d,e1,h⟩:=i9 h
  cases d with
  | lst es =>
   dsimp only at h
   split at h
   ·rename_i hc
    cases h
    exact⟨hc.1,rfl,_,e1,if_pos hc.2⟩
   ·cases h
  | _=>cases h
 ·intro H a xs v ds ds' d Q ho rp rd e q
  cases d with
  | lst es =>
   dsimp only at e
   split at e
   ·rename_i hc
    cases e
    obtain⟨b,zs,rfl,hb,rz⟩:=rd
    have hne:b≠a:=fun z=>by
     rw[z,ho] at hb
     cases hb
    exact⟨a,b,xs,zs,rfl,rfl,ax,by rw[au hne];exact hb,by rw[<- rp.length,<- rz.length];exact hc,q _ (rp.append rz)⟩
   ·cases e
  | _=>cases e
theorem dg{w:R->LD->Option Out}(h1:OS X st p)(h2:OB X sts w):OB X (st::sts) (wB p w):=(cg h1 h2).imp fun E σ H ⟨ρ,τ,a,ds,xs,o,er,ho,rp,e,qq⟩=>by
 obtain⟨⟨o1,x3⟩,e1,e⟩:=i9 e
 refine⟨ρ,τ,a,ds,xs,o1,x3,er,ho,rp,e1,fun H1 xs1 k1 ho1 rp1=>?_⟩
 cases o1 with
 | nx ρ2=>exact fun σ2 er2=>⟨ρ2,τ,a,x3,xs1,o,er2,ho1,rp1,e,fun H2 k2=>qq H2 (k1.trans k2)⟩
 | rt d=>cases e;exact qq H1 k1
 | bk ρ2=>cases e
 | ct ρ2=>cases e
theorem gH(h:SS X sts u):OB X sts (yW u):=by
 intro pins s σ H E I ⟨ρ,τ,a,ds,xs,o,er,ho,rp,e,qq⟩
 have I2:=IC I ho
 have k:xm a H (upd H a (.lst xs)):=xm.upd
 have hσ:=mj er
 have er2:=er.kp (k.kp ho)
 refine h pins s σ _ E I2 ⟨ρ++[some (D.lst ds)],τ,o,⟨⟨?_,fun i d hd=>?_⟩,?_⟩,(show u (ρ++[some (D.lst ds)])=some o from e),fun H' s'=>qq H' (k.trans (xm.of s'))⟩
 ·have:=(List.getElem?_eq_some_iff.mp hσ).1
  rw[List.length_append,List.length_singleton]
  exact this
 ·by_cases hi:i<ρ.length
  ·rw[List.getElem?_append_left hi] at hd
   exact er2.1.2 i d hd
  ·by_cases hi2:i=ρ.length
   ·subst hi2
    rw[List.getElem?_append_right (Nat.le_refl _),Nat.sub_self] at hd
    cases hd
    exact⟨_,hσ,a,xs,rfl,ax,rp.kp (k.kp ho)⟩
   ·rw[List.getElem?_eq_none (by simp;omega)] at hd
    cases hd
 ·rw[List.length_append,List.length_singleton,<- List.drop_drop,er.2]
  rfl
theorem gI{x:Str}{es:List Expr}{F:R->Option LD}{w:R->LD->Option Out}{px p1:Pos}(i:Nat)(hN:X.N.Nodup)(hF:SA X es F)(h2:OB X sts w)(hix:X.N[i]?=some x:=by rfl)(hx:Loc X.env.scope x:=by first | exact Or.inl rfl | exact Or.inr rfl)
  (hl:Nat.ble es.length 1000=true:=by rfl) (hs:swapsWith (.List es p1) (some (.Name x px)) pos.line X.env=pure false:=by rfl) (hf:X.fn x=true\/X.env.scope.names.lookup x=some .local:=by first | exact .inl rfl | exact .inr rfl) :
  SS X (.Assign [.Name x px] (.List es p1) pos::sts) (Fc i F w):=by
 intro pins s σ H E I ⟨ρ,τ,o,er,e,qq⟩
 obtain⟨ds,e1,e⟩:=i9 e
 split at e
 case isFalse=>cases e
 case isTrue hlen =>
 refine wpAny_execs_cons (ug ((gQ (i:=i) hN hix hx (mE hF.1) hs hf) pins s σ H {E with nx:=fun σ' H'=>∃a vs H1,σ'=σ.set i (some (.ref a))/\H'=upd H1 a (.lst vs)/\H1 a=none/\l3 H H1/\l0 X.K H1 ds vs} I ?_) fun f s1 q=>?_)
 ·refine⟨ρ,ds,er.1,e1,fun vs H1 s1 r1=>⟨?_,fun a ha=>⟨a,vs,H1,rfl,rfl,ha,s1,r1⟩⟩⟩
  rw[<- r1.length,hF.2.1 ρ ds e1]
  exact Nat.le_of_lt (yH (Nat.le_of_ble_eq_true hl))
 cases f with
 | next =>
  obtain⟨σ',H',I',a,vs,H1,rfl,rfl,ha,s1',r1⟩:=q
  have I2:=EK I' ax
  generalize hH2:upd (upd H1 a (.lst vs)) a (yi a vs)=H2 at I2
  have k12:xm a H1 H2:=by
   subst hH2
   exact xm.upd.trans xm.upd
  have s12:l3 H1 H2:=fun b u hb=>k12 b u (fun z=>by rw[z,ha] at hb;cases hb) hb
  have ho2:H2 a=some (yi a vs):=by subst hH2;exact ax
  have hσi:i<σ.length:=Nat.lt_of_lt_of_le (by omega) er.1.1
  refine h2 pins s1 _ H2 E I2 ⟨ρ.take i,τ,a,ds,vs,o,⟨⟨?_,fun j d hd=>?_⟩,?_⟩,ho2,r1.mono s12,e,fun H' k=>qq H' fun b u hb=>?_⟩
  ·simp
   omega
  ·have hj:j<i:=by
    have:=(List.getElem?_eq_some_iff.mp hd).1
    simp at this
    omega
   rw[List.getElem?_take_of_lt hj] at hd
   obtain⟨v,h1,h2⟩:=er.1.2 j d hd
   exact⟨v,by rw[List.getElem?_set_ne (by omega)];exact h1,(h2.mono s1').mono s12⟩
  ·have hd:σ.drop (i+1)=τ:=by rw[<- hlen];exact er.2
   rw[List.length_take,Nat.min_eq_left (by omega),List.drop_eq_getElem_cons (by simpa using hσi)]
   congr 1
   ·simp
   ·rw[List.drop_set_of_lt (by omega)]
    exact hd
  ·have hb2:=s12 _ _ (s1' _ _ hb)
   exact k b u (fun z=>by
    have q:=s1' _ _ hb
    rw[z,ha] at q
    cases q) hb2
 | brk=>exact q
 | cont=>exact q
 | ret v=>exact q
end
mutual
theorem jj:∀d:D,tP d=true->(toPy d).canLay0=true
 | .non,_=>by simp[toPy,PyData.canLay0]
 | .bl _,_=>by simp[toPy,PyData.canLay0]
 | .int _,_=>by simp[toPy,PyData.canLay0]
 | .str _,h=>by rw[tP] at h;simpa [toPy,PyData.canLay0,PyData.strOk] using h
 | .tup ds,h=>by rw[toPy,PyData.canLay0];exact iq ds h
 | .lst ds,h=>by rw[toPy,PyData.canLay0];exact iq ds h
 | .fro ds,h=>by rw[toPy,PyData.canLay0];exact iq ds h
 | .obj ..,h=>by cases h
theorem iq:∀ds:LD,uF ds=true->PyData.canLayAll0 (wD ds)=true
 | [],_=>by simp[wD,PyData.canLayAll0]
 | d::ds,h=>by
  have h':(tP d&&uF ds)=true:=h
  rw[Bool.and_eq_true] at h'
  rw[wD,PyData.canLayAll0,jj d h'.1,iq ds h'.2];rfl
end
mutual
theorem qr:∀d:D,t_ d=true->(toPy d).depth=wQ d
 | .non,_=>by simp[toPy,PyData.depth,wQ]
 | .bl _,_=>by simp[toPy,PyData.depth,wQ]
 | .int _,_=>by simp[toPy,PyData.depth,wQ]
 | .str _,_=>by simp[toPy,PyData.depth,wQ]
 | .tup ds,h=>by rw[toPy,PyData.depth,wQ,iu ds h]
 | .lst ds,h=>by rw[toPy,PyData.depth,wQ,iu ds h]
 | .fro ds,h=>by rw[toPy,PyData.depth,wQ,iu ds h]
 | .obj ..,h=>by cases h
theorem iu:∀ds:LD,m6 ds=true->PyData.depthAll (wD ds)=vW ds
 | [],_=>by simp[wD,PyData.depthAll,vW]
 | d::ds,h=>by
  have h':(t_ d&&m6 ds)=true:=h
  rw[Bool.and_eq_true] at h'
  rw[wD,PyData.depthAll,vW,qr d h'.1,iu ds h'.2]
end
mutual
theorem EA:∀x y:D,t_ x=true->t_ y=true->PyData.eqv (toPy x) (toPy y)=KN x y
 | .non,y,_,h=>by cases y<;>first | rfl | cases h
 | .bl a,y,_,h=>by cases y<;>first | rfl | cases h
 | .int a,y,_,h=>by cases y<;>first | rfl | cases h
 | .str a,y,_,h=>by cases y<;>first | rfl | cases h
 | .tup xs,y,g,h=>by
  cases y with
  | tup ys=>exact yB xs ys g h
  | obj _ _ _ _=>cases h
  | _=>rfl
 | .lst xs,y,g,h=>by
  cases y with
  | lst ys=>exact yB xs ys g h
  | fro ys=>exact yB xs ys g h
  | obj _ _ _ _=>cases h
  | _=>rfl
 | .fro xs,y,g,h=>by
  cases y with
  | lst ys=>exact yB xs ys g h
  | fro ys=>exact yB xs ys g h
  | obj _ _ _ _=>cases h
  | _=>rfl
 | .obj ..,y,g,h=>by cases g
theorem yB:∀xs ys:LD,m6 xs=true->m6 ys=true->PyData.eqvAll (wD xs) (wD ys)=B6 xs ys
 | [],[],_,_=>rfl
 | [],_::_,_,_=>rfl
 | _::_,[],_,_=>rfl
 | x::xs,y::ys,g,h=>by
  have g':(t_ x&&m6 xs)=true:=g
  have h':(t_ y&&m6 ys)=true:=h
  rw[Bool.and_eq_true] at g' h'
  show(PyData.eqv (toPy x) (toPy y)&&PyData.eqvAll (wD xs) (wD ys))=(KN x y&&B6 xs ys)
  rw[EA x y g'.1 h'.1,yB xs ys g'.2 h'.2]
end
section
variable{X:Cx}
theorem Cb{k:Nat}(hr:uB k X.A){dx dy:D}(h:wQ dx<=100)(hn:t_ dx=true):X.A.units+min (toPy dx).depth (toPy dy).depth<cLine:=by
 have h1:=hr.un
 have h2:min (toPy dx).depth (toPy dy).depth<=100:=by rw[qr dx hn];omega
 omega
theorem sn{k:Nat}(hr:uB k X.A):Gm X .Eq Et:=by
 intro pins s σ H x y v u Q I rx ry h
 obtain⟨dx,dy,b,r1,r2,e,q⟩:=h
 unfold Et at e
 split at e
 ·rename_i hd
  cases e
  obtain⟨as,ra⟩:=x8 I (bT hd.2.1) r1 rx
  obtain⟨bs,rb⟩:=x8 I (bT hd.2.2) r2 ry
  have z:=SeqAt.rcAt_reads ra rb (jj dx hd.2.1) (jj dy hd.2.2) (Cb (dy:=dy) hr hd.1 (bT hd.2.1))
  rw[EA _ _ (bT hd.2.1) (bT hd.2.2)] at z
  exact z _ _ _ _ ⟨.bl (KN dx dy),H,I,rfl,q⟩
 ·cases e
theorem kG{k:Nat}(hr:uB k X.A):Gm X .NotEq Bt:=by
 intro pins s σ H x y v u Q I rx ry h
 obtain⟨dx,dy,b,r1,r2,e,q⟩:=h
 unfold Bt Et at e
 split at e
 ·rename_i hd
  cases e
  obtain⟨as,ra⟩:=x8 I (bT hd.2.1) r1 rx
  obtain⟨bs,rb⟩:=x8 I (bT hd.2.2) r2 ry
  have z:=SeqAt.rcNeAt_reads ra rb (jj dx hd.2.1) (jj dy hd.2.2) (Cb (dy:=dy) hr hd.1 (bT hd.2.1))
  rw[EA _ _ (bT hd.2.1) (bT hd.2.2)] at z
  exact PySem.EqBoolInt.of_rcne z ⟨.bl (!KN dx dy),H,I,rfl,q⟩
 ·cases e
end
section
variable{prog:Program}{w:World}{A:Around}{R':Result->Shared->Prop}{I:Addr}{fp wr:List Addr}{n:Nat}{P:Nat->Value->Prop}{St:Nat->Heap->Prop}
abbrev J1:List (Str×Value):=[(oS "default",Value.none)]
abbrev ME(S:Addr)(vs:Array Value)(c:Nat)(h:Heap):Prop:=h.get? S=some {cls:=.type "list",dict:=none,data:=.seq vs c,slots:=#[]}
theorem yG:(toString "max" ++ toString ".loop" : String) = "max.loop":=by decide
theorem JL(W:Walks prog w A.in1 I fp wr n P St)(bt:Nat->Nat->Bool)(hcmp:CmpOf prog w A.in1 .Gt P bt)(S:Addr)(hSf:S∉fp):∀(k j:Nat) (s:Shared) (vb:Value) (c:Nat),n - (j+1)=k->j+1<=n->St (j+1) s.heap->P (argBest bt j) vb->ME S #[vb,vb] c s.heap ->
  (∀v h' tk,P (argBest bt (n - 1)) v->(∀b o,b∉wr->b≠S->s.heap.get? b=some o->h'.get? b=some o)->R' (.ok (.ret v)) {s with heap:=h',toks:=tk})->codeAny (model prog w) A (.builtin "max.loop" ⟨[.ref I,.none,.ref S],J1⟩) R' s:=by
 have hSw:S∉wr:=fun z=>hSf (W.sub _ z)
 intro k
 induction k with
 | zero =>
  intro j s vb c hk hj hst hPb hS hR
  have hin:j+1=n:=by omega
  refine codeAny_builtin F.entry_max_loop ?_;rw[Around.under_plainId F.plain_max_loop _];show wpAny _ A.in1 (seqItems? (.ref S) >>= _) _ _ s
  refine wpAny_bind (wpAny_seqItems hS rfl ?_);show wpAny _ A.in1 (tryCatch (pyNext (.ref I)) _ >>= _) _ _ s
  refine wpAny_bind (wpAny_tryCatch (W.done s _ _ (hin ▸ hst) fun h1 t1 k1=>?_));have hS1:=k1 S _ hSw hS
  show wpAny _ A.in1 (updateSeq S (fun _=>#[]) >>= _) _ _ _;refine wpAny_bind (wpAny_updateSeq hS1 rfl (wpAny_bind (wpAny_letGo (wpAny_pure ?_))))
  exact hR vb _ t1 (by rw[<- hin];exact hPb) fun b o hbw hbS e=>(Heap.get?_update_other _ _ (Ne.symm hbS)).trans (k1 b o hbw e)
 | succ k ih =>
  intro j s vb c hk hj hst hPb hS hR
  have hlt:j+1<n:=by omega
  refine codeAny_builtin F.entry_max_loop ?_;rw[Around.under_plainId F.plain_max_loop _];show wpAny _ A.in1 (seqItems? (.ref S) >>= _) _ _ s
  refine wpAny_bind (wpAny_seqItems hS rfl ?_);show wpAny _ A.in1 (tryCatch (pyNext (.ref I)) _ >>= _) _ _ s
  refine wpAny_bind (wpAny_tryCatch (W.item (j+1) s _ _ hlt hst fun v h1 t1 hP st1 k1=>?_));have hS1:=k1 S _ hSw hS
  show wpAny _ A.in1 (tryCatch (holding [v,v] (richCompare .Gt v vb >>= _)) _ >>= _) _ _ _;refine wpAny_bind (wpAny_tryCatch (wpAny_holding (wpAny_bind (hcmp (j+1) (argBest bt j) v vb _ _ _ hP hPb ?_))))
  refine wpAny_bind (wpAny_holding (wpAny_truthy_bool ?_));refine wpAny_bind (wpAny_letGo (wpAny_pure ?_))
  cases hb:bt (j+1) (argBest bt j) with
  | true =>
   simp only[if_true];refine wpAny_bind (wpAny_updateSeq hS1 rfl (wpAny_bind (wpAny_letGo ?_)));rw[yG]
   refine wpAny_pure ⟨plainId_quiet F.plain_max_loop _,ih (j+1) _ v _ (by omega) hlt (W.frame _ _ _ st1 fun b hbf o e=>?_) (by simp only[argBest,hb,if_true];exact hP) (Heap.get?_update_self _ hS1 rfl) fun v' h2 t2 hP' k2=>?_⟩
   ·refine(Heap.get?_update_other _ _ fun z:S=b=>hSf ?_).trans e;rw[z];exact hbf
   ·refine hR v' h2 t2 hP' fun b o hbw hbS e=>k2 b o hbw hbS ?_;exact(Heap.get?_update_other _ _ (Ne.symm hbS)).trans (k1 b o hbw e)
  | false =>
   simp only[Bool.false_eq_true,if_false];refine wpAny_bind (wpAny_letGo ?_);rw[yG]
   refine wpAny_pure ⟨plainId_quiet F.plain_max_loop _,ih (j+1) _ vb c (by omega) hlt st1 (by simp only[argBest,hb,Bool.false_eq_true,if_false];exact hPb) hS1 fun v' h2 t2 hP' k2=>?_⟩
   refine hR v' h2 t2 hP' fun b o hbw hbS e=>k2 b o hbw hbS ?_;exact k1 b o hbw e
theorem HJ(W:Walks prog w A.in1 I fp wr n P St)(bt:Nat->Nat->Bool)(hcmp:CmpOf prog w A.in1 .Gt P bt)(S:Addr)(hSf:S∉fp){s:Shared}{c:Nat}(hst:St 0 s.heap)(hS:ME S #[] c s.heap)
  (h0:n=0->∀h' tk,(∀b o,b∉wr->b≠S->s.heap.get? b=some o->h'.get? b=some o)->R' (.ok (.ret .none)) {s with heap:=h',toks:=tk})
  (hR:0<n->∀v h' tk,P (argBest bt (n - 1)) v->(∀b o,b∉wr->b≠S->s.heap.get? b=some o->h'.get? b=some o)->R' (.ok (.ret v)) {s with heap:=h',toks:=tk}):codeAny (model prog w) A (.builtin "max.loop" ⟨[.ref I,.none,.ref S],J1⟩) R' s:=by
 have hSw:S∉wr:=fun z=>hSf (W.sub _ z)
 refine codeAny_builtin F.entry_max_loop ?_;rw[Around.under_plainId F.plain_max_loop _];show wpAny _ A.in1 (seqItems? (.ref S) >>= _) _ _ s
 refine wpAny_bind (wpAny_seqItems hS rfl ?_);show wpAny _ A.in1 (tryCatch (pyNext (.ref I)) _ >>= _) _ _ s
 by_cases hn:0<n
 ·refine wpAny_bind (wpAny_tryCatch (W.item 0 s _ _ hn hst fun v h1 t1 hP st1 k1=>?_));have hS1:=k1 S _ hSw hS
  show wpAny _ A.in1 (updateSeq S (fun _=>#[v,v]) >>= _) _ _ _;refine wpAny_bind (wpAny_updateSeq hS1 rfl ?_);rw[yG]
  refine wpAny_pure ⟨plainId_quiet F.plain_max_loop _,JL W bt hcmp S hSf _ 0 _ v _ rfl hn (W.frame _ _ _ st1 fun b hbf o e=>?_) hP (Heap.get?_update_self _ hS1 rfl) fun v' h2 t2 hP' k2=>?_⟩
  ·refine(Heap.get?_update_other _ _ fun z:S=b=>hSf ?_).trans e;rw[z];exact hbf
  ·refine hR hn v' h2 t2 hP' fun b o hbw hbS e=>k2 b o hbw hbS ?_;exact(Heap.get?_update_other _ _ (Ne.symm hbS)).trans (k1 b o hbw e)
 ·have hz:n=0:=by omega
  refine wpAny_bind (wpAny_tryCatch (W.done s _ _ (hz ▸ hst) fun h1 t1 k1=>?_))
  refine wpAny_bind (wpAny_rule (wpAny_pure ?_))
  exact h0 hz h1 t1 fun b o hbw hbS e=>k1 b o hbw e
end
section
variable{prog:Program}{w:World}{A:Around}{E:Value->Shared->Prop}{s:Shared}
theorem GB(a:Value):argsOk "max" ⟨[a],J1⟩:=by unfold argsOk;kernel_rfl
theorem gF{l:Addr}{its:List Value}{val:Nat->Int}{Q:Value->Shared->Prop}(hh:A.handled=none)(hl:s.heap.IsList l its.toArray)(hv:∀(i:Nat) v,its.toArray[i]?=some v->∃t,v=.int (val i) t)
  (h0:its=[]->∀h' tk,(∀b o,s.heap.get? b=some o->h'.get? b=some o)->Q .none {s with heap:=h',toks:=tk})
  (h1:its ≠ []->∀v h' tk,its.toArray[argBest (fun i j=>decide (val i > val j)) (its.length - 1)]?=some v->(∀b o,s.heap.get? b=some o->h'.get? b=some o)->Q v {s with heap:=h',toks:=tk}) :
  wpAny (model prog w) A (call (.builtin "max") [.ref l] J1) Q E s:=by
 refine wpAny_call (codeAny_call_builtin F.plain_max F.entry_max ?_)
 simp only[checkBuiltinCall,F.kind_max]
 have main:wpAny (model prog w) A.in1 (Builtin.«max» ⟨[.ref l],J1⟩) (fun fin s'=>match fin with
   | .done f=>(match (Except.ok f:Result) with
    | .ok (.ret v)=>Q v s'
    | .ok _=>False
    | .error e=>E e s')
   | .again c'=>c'.quiet=true/\codeAny (model prog w) A c' (fun r s'=>match r with
    | .ok (.ret v)=>Q v s'
    | .ok _=>False
    | .error e=>E e s') s') E s:=by
  show wpAny _ A.in1 (Builtin.Builtins.bindParams "max" ["key","default"] 0 ⟨[],J1⟩ >>= _) _ _ s
  refine wpAny_bind (wpAny_of_eq (show Builtin.Builtins.bindParams "max" ["key","default"] 0 ⟨[],J1⟩=pure [none,some .none] from rfl) ?_)
  refine wpAny_bind (wpAny_pure (wpAny_bind (wpAny_pyIter_list hl ?_)))
  refine wpAny_bind (wpAny_newObj_type ?_)
  rw[yG]
  have hlt:l<s.heap.objs.size:=by
   obtain⟨o,e,_⟩:=hl
   exact Heap.lt_size e
  generalize hI:s.heap.objs.size=J at hlt
  generalize h1e:s.heap.push {cls:=Value.type "list_iterator",data:=Data.fields #[Value.ref l,Value.int 0 0]}=H1
  have hJ:H1.objs.size=J+1:=by rw[<- h1e,Heap.size_push,hI]
  have k1:∀b o,s.heap.get? b=some o->H1.get? b=some o:=fun b o e=>by rw[<- h1e];exact Heap.get?_push_of_some _ e
  have st1:H1.IsListIter J l 0/\H1.IsList l its.toArray:=⟨by rw[<- h1e,<- hI];exact⟨_,Heap.get?_push_size _ rfl,rfl,rfl⟩,hl.at fun o e=>k1 _ _ e⟩
  have hne:l≠J:=Nat.ne_of_lt hlt
  have hSf:H1.objs.size ∉ [J,l]:=by
   rw[hJ]
   intro z
   rcases List.mem_cons.mp z with z | z
   ·exact absurd z (Nat.ne_of_gt (Nat.lt_succ_self J))
   ·rw[<- List.mem_singleton.mp z] at hlt
    exact absurd hlt (Nat.not_lt.mpr (Nat.le_succ J))
  have W:=Walks.list (prog:=prog) (w:=w) (A:=A.in1) hh J l hne its.toArray
  have old:∀{h':Heap},(∀b o,b ∉ [J]->b≠H1.objs.size->(H1.push {cls:=Value.type "list",data:=Data.seq ([]:List Value).toArray}).get? b=some o->h'.get? b=some o)->∀b o,s.heap.get? b=some o->h'.get? b=some o:=fun kk b o e=>by
   have hb:b<J:=by rw[<- hI];exact Heap.lt_size e
   refine kk b o (fun z=>absurd (List.mem_singleton.mp z) (Nat.ne_of_lt hb)) ?_ (Heap.get?_push_of_some _ (k1 b o e))
   rw[hJ]
   exact Nat.ne_of_lt (Nat.lt_succ_of_lt hb)
  refine wpAny_pure ⟨plainId_quiet F.plain_max_loop _,HJ W _ (CmpOf.ints_gt val hv) H1.objs.size hSf (W.frame _ _ _ st1 fun b _ o e=>Heap.get?_push_of_some _ e) (Heap.get?_push_size _ rfl) (fun hz h' tk kk=>?_) fun hn v h' tk hP kk=>?_⟩
  ·exact h0 (by simpa using hz) h' tk (old kk)
  ·refine h1 (fun z=>by subst z;simp at hn) v h' tk ?_ (old kk)
   simpa using hP
 cases hsig:Manifest.signature? "max" with
 | none=>exact wpAny_pure main
 | some sig =>
  have ha:=GB (.ref l)
  simp only[argsOk,hsig] at ha
  have h2:Bind.checkArgs "max" sig ⟨[.ref l],J1⟩=pure ():=ha
  show wpAny _ A.in1 (Bind.checkArgs "max" sig ⟨[.ref l],J1⟩) _ _ s
  rw[h2]
  exact wpAny_pure main
end
section
variable{X:Cx}
theorem rh{e:Expr}{f:R->OD}{p kp p2 pos:Pos}{j:Nat}(hc:X.calm=true)(hm:X.mg "max" = none)(he:SE X e f)(hg:Gl X "max":=by rfl)(hst:noStar e=true:=by rfl) :
  SE X (.Call (.Name "max" p) [e] [⟨some "default",.Constant .none j p2,kp⟩] pos) (i4 D6 (e8 f i3)):=by
 intro pins s σ H Q I ⟨ρ,d,er,eq,q⟩
 obtain⟨ds,e1,e2⟩:=i9 eq
 have hst1:=aK [] X.env hst
 refine wpAny_Call_Name_kw (da I hg hm boot_max ?_ (by decide) (by decide))
 refine callWith_kw (ug ((ab he af hst).1 pos pins s σ H (fun vs H2=>l3 H H2/\l0 X.K H2 ds vs) I ⟨ρ,ds,er,e1,fun vs H2 s2 r2=>⟨s2,r2⟩⟩) fun us s1 ⟨vs,H1,I1,r1,s01,rp⟩=>?_) (by rw[hst1];rfl) (by rw[hst1];rfl) rfl rfl
 refine kws_cons (Constant_none (kws_nil ?_))
 have hh:=I1.ok.hd hc
 match ds,e2 with
 | [.lst []],e2 =>
  cases e2
  obtain⟨v,r',rfl,⟨a,xs,rfl,ha,rx⟩,rr⟩:=rp
  cases (show r'=[] from rr)
  cases (show xs=[] from rx)
  obtain⟨u,rfl,ru⟩:=r1.one
  cases (show u=_ from ru)
  obtain⟨_,its,n,rv,hl,eo⟩:=I1.lstM ha
  cases rv
  exact gF (val:=fun _=>0) hh ⟨_,eo,rfl,n,rfl⟩ (fun i v hv=>by simp at hv) (fun _ h' tk k=>⟨.non,H1,I1.kept k,rfl,q _ H1 s01 rfl⟩) fun z=>absurd rfl z
 | [.lst [.int a1]],e2 =>
  cases e2
  obtain⟨v,r',rfl,⟨a,xs,rfl,ha,rx⟩,rr⟩:=rp
  cases (show r'=[] from rr)
  obtain⟨x1,x2,rfl,rx1,rx2⟩:=rx
  cases (show x1=_ from rx1)
  cases (show x2=[] from rx2)
  obtain⟨u,rfl,ru⟩:=r1.one
  cases (show u=_ from ru)
  obtain⟨_,its,n,rv,hl,eo⟩:=I1.lstM ha
  obtain⟨w1,rfl,t1,rfl⟩:=rv.one
  refine gF (val:=fun _=>a1) hh ⟨_,eo,rfl,n,rfl⟩ (fun i v hv=>?_) (fun z=>by cases z) fun _ v h' tk hv k=>?_
  ·have z:=(Array.getElem?_eq_some_iff.mp hv).1
   have z0:i=0:=by simpa using z
   subst z0
   exact⟨t1,(Option.some.inj hv).symm⟩
  ·have hv':Value.int a1 t1=v:=Option.some.inj hv
   subst hv'
   exact⟨.int a1,H1,I1.kept k,⟨t1,rfl⟩,q _ H1 s01 rfl⟩
 | [.lst [.int a1,.int a2]],e2 =>
  cases e2
  obtain⟨v,r',rfl,⟨a,xs,rfl,ha,rx⟩,rr⟩:=rp
  cases (show r'=[] from rr)
  have hx:=ints2 rx
  subst hx
  obtain⟨u,rfl,ru⟩:=r1.one
  cases (show u=_ from ru)
  obtain⟨_,its,n,rv,hl,eo⟩:=I1.lstM ha
  obtain⟨w1,w2,rfl,⟨t1,rfl⟩,⟨t2,rfl⟩⟩:=vals2 rv
  refine gF (val:=fun i=>if i=0 then a1 else a2) hh ⟨_,eo,rfl,n,rfl⟩ (fun i v hv=>?_) (fun z=>by cases z) fun _ v h' tk hv k=>?_
  ·have z:=(Array.getElem?_eq_some_iff.mp hv).1
   have z0:i=0\/i=1:=by
    have:i<2:=by simpa using z
    omega
   rcases z0 with rfl | rfl
   ·exact⟨t1,(Option.some.inj hv).symm⟩
   ·exact⟨t2,(Option.some.inj hv).symm⟩
  ·by_cases hgt:a2 > a1
   ·have hb:argBest (fun i j=>decide ((if i=0 then a1 else a2) > (if j=0 then a1 else a2))) ([Value.int a1 t1,Value.int a2 t2].length - 1)=1:=by simp[argBest,hgt]
    rw[hb] at hv
    have hv':Value.int a2 t2=v:=Option.some.inj hv
    subst hv'
    exact⟨.int a2,H1,I1.kept k,⟨t2,rfl⟩,q _ H1 s01 (by show V.int a2=V.int _;rw[if_pos hgt])⟩
   ·have hb:argBest (fun i j=>decide ((if i=0 then a1 else a2) > (if j=0 then a1 else a2))) ([Value.int a1 t1,Value.int a2 t2].length - 1)=0:=by simp[argBest,hgt]
    rw[hb] at hv
    have hv':Value.int a1 t1=v:=Option.some.inj hv
    subst hv'
    exact⟨.int a1,H1,I1.kept k,⟨t1,rfl⟩,q _ H1 s01 (by show V.int a1=V.int _;rw[if_neg hgt])⟩
end
section
open PySem.SeqAt
open AutoSeq1 (wpAny_loadPart')
open MeetsSeq MeetsSeq2 MeetsSeq3 SeqRoads2
theorem B3(l:Addr)(items:Array Value)(n:Nat)(dd:Option Addr)(sl:Array (Option Value))(x:Value)(j:Nat)(hj:j<items.size) :
  Meets (Builtin.«tuple.index» ⟨[.ref l,x],[]⟩) (fun A R s=>s.heap.get? l=some {cls:=.type "tuple",dict:=dd,data:=.seq items n,slots:=sl}/\(∀i (h:i<items.size),i<=j->EqAt A.in1 s items[i] x (decide (i=j)))/\R (.ok (.ret (.int (j:Int) s.toks))) {s with toks:=s.toks+1}):=
 .of_wp fun prog w A R s h=>by
  obtain⟨hp,g,d,tk,os⟩:=s
  obtain⟨hl,he,h⟩:=h
  unfold Builtin.«tuple.index»
  simp only[Std.Legacy.Range.forIn_eq_forIn_range']
  wp_walk using wpAny_loadPart' hl,wpAny_forIn_list _ (fun rest b s'=>s'=⟨hp,g,d,tk,os⟩/\b=(none,())/\∃k,k<=j/\rest=List.range' k (items.size - k)) _
  case turn =>
   rintro i rest b s' ⟨rfl,rfl,k,hk,e⟩
   have hs:items.size - k=(items.size - (k+1))+1:=by omega
   rw[hs,List.range'_succ] at e
   cases e
   have hlt:i<items.size:=by omega
   have hi:items[i]?=some items[i]:=by simp[hlt]
   rw[hi]
   refine wpAny_bind (he i hlt hk prog w _ _ ?_)
   by_cases hij:i=j
   ·subst hij
    rw[decide_eq_true rfl]
    wp_walk
    exact⟨_,rfl,h⟩
   ·rw[decide_eq_false hij]
    wp_walk
    exact⟨rfl,rfl,i+1,by omega,rfl⟩
  case fin =>
   rintro b s' ⟨rfl,rfl,k,hk,e⟩
   have hs:items.size - k=(items.size - (k+1))+1:=by omega
   rw[hs,List.range'_succ] at e
   cases e
  case h =>
   refine⟨rfl,rfl,0,Nat.zero_le _,?_⟩
   simp
end
def LJ(K:W.Frag)(mg:Str->Option Value)(x:Str)(ws:List Str):Prop:=∃a its n sl,mg x=some (.ref a)/\K.lookup a=some ⟨.type "tuple",none,.seq its n,sl⟩/\p9 (ws.map V.str) its.toList
section
variable{X:Cx}
def OU(K:W.Frag):V->List V->Hp->VK->Prop:=fun x vs H Q=>∃(p:Addr) (its:Array Value) (n:Nat) (sl:Array (Option Value)) (ws:List Str) (z:Str) (j:Nat),x=.ref p/\vs=[.str z]/\K.lookup p=some ⟨.type "tuple",none,.seq its n,sl⟩/\p9 (ws.map V.str) its.toList/\ws.findIdx? (·==z)=some j/\Q (.int (j:Nat)) H
theorem sL:Ia X "tuple.index" (OU X.K):=by
 intro pins s σ H x vs v us Q I rx rv h
 obtain⟨p,its,n,sl,ws,z,j,rfl,rfl,hk,hv,hj,q⟩:=h
 cases (show v=_ from rx)
 obtain⟨u,rfl,t,rfl⟩:=rv.one
 have e:=I.kIn p _ hk
 obtain⟨h1,h2,h3⟩:=List.findIdx?_eq_some_iff_getElem.mp hj
 have hlen:ws.length=its.size:=by have:=hv.length;simpa using this
 refine call_meets F.slot_tuple_index ⟨_,e,rfl⟩ F.entry_tuple_index (F.args_tuple_index_2 _ _) (B3 p its n none sl (.str z t) j (by omega)) ⟨e,fun i hi hle=>?_,?_⟩
 ·have hw:i<ws.length:=by omega
  obtain⟨u,hu,ru⟩:=hv.get (i:=i) (x:=.str ws[i]) (by simp[hw])
  obtain⟨t2,rfl⟩:=ru
  have he:its[i]=Value.str ws[i] t2:=by
   have:its[i]?=some (Value.str ws[i] t2):=by simpa using hu
   rw[Array.getElem?_eq_getElem hi] at this
   exact Option.some.inj this
  rw[he]
  have hb:(ws[i]==z)=decide (i=j):=by
   by_cases hij:i=j
   ·subst hij
    rw[decide_eq_true rfl]
    exact h2
   ·rw[decide_eq_false hij]
    exact Bool.eq_false_iff.mpr (h3 i (by omega))
  rw[<- hb]
  exact SeqAt.EqAt.str_str _ _ _ _
 ·exact⟨.int (j:Nat),H,I.tok _,⟨_,rfl⟩,q⟩
theorem sD{x:Str}{ws:List Str}{e:Expr}{f:R->OD}{px ap cp:Pos}(hc:LJ X.K X.mg x ws)(he:SE X e f)(hg:Gl X x:=by rfl)(hd:(x==("__debug__" : Str))=false:=by decide)
  (hbase:attributeBase (.Name x px) "index" X.env (eval (.Name x px) X.env)=eval (.Name x px) X.env:=by rfl) (hst:noStar e=true:=by rfl) (hline:(ap.endLine==cp.line)=true:=by rfl) :
  SE X (.Call (.Attribute (.Name x px) "index" ap) [e] [] cp) (Fi (HH ws) f):=by
 obtain⟨a,its,n,sl,hm,hk,hv⟩:=hc
 have hs:=aK [] X.env hst
 refine(rM (T:="tuple") PySem.F.plainAttrs_tuple PySem.F.slot_tuple_index PySem.F.type_tuple_index sL (kd (v:=.ref a) hg hm rfl hd) (ab he af hst).1 hbase (by rw[hs];rfl) hline hs rfl).imp fun σ H Q ⟨ρ,d,er,e,q⟩=>?_
 obtain⟨y,e1,e⟩:=i9 e
 cases y with
 | str z =>
  obtain⟨j,e2,e3⟩:=ud e
  subst e3
  refine⟨.inr (.inl ⟨rfl,_,hk,rfl,rfl⟩),ρ,[.str z],er,by show(f ρ).bind _=_;rw[e1];rfl,fun vs H2 s2 r2=>?_⟩
  obtain⟨v,r',rfl,h1,h2⟩:=r2
  cases (show v=_ from h1)
  cases (show r'=[] from h2)
  exact⟨a,its,n,sl,ws,z,j,rfl,rfl,hk,hv,e2,q _ H2 s2 rfl⟩
 | _=>cases e
end
section
variable{X:Cx}
def Qk:V->List V->Hp->VK->Prop:=fun x vs H Q=>∃z w,x=.str z/\vs=[]/\FS z=some w/\Q (.str w) H
def Oe:V->List V->Hp->VK->Prop:=fun x vs H Q=>∃z w,x=.str z/\vs=[]/\Ds z=some w/\Q (.str w) H
theorem Ji{z w:Str}(h:FS z=some w):Builtin.Str.tooLong (placed z fun _ c=>Unicode.upperOf c).size=false/\(⟨placed z fun _ c=>Unicode.upperOf c⟩:Str)=w:=by
 unfold FS at h
 split at h
 ·rename_i e;cases h;subst e;exact⟨by decide +kernel,by decide +kernel⟩
 ·split at h
  ·rename_i e;cases h;subst e;exact⟨by decide +kernel,by decide +kernel⟩
  ·split at h
   ·rename_i e;cases h;subst e;exact⟨by decide +kernel,by decide +kernel⟩
   ·cases h
theorem HE{z w:Str}(h:Ds z=some w):Builtin.Str.tooLong (placed z fun i _=>Unicode.lowerAt z.cps i).size=false/\(⟨placed z fun i _=>Unicode.lowerAt z.cps i⟩:Str)=w:=by
 unfold Ds at h
 split at h
 ·rename_i e;cases h;rcases e with e | e<;>subst e<;>exact⟨by decide +kernel,by decide +kernel⟩
 ·split at h
  ·rename_i e;cases h;rcases e with e | e<;>subst e<;>exact⟨by decide +kernel,by decide +kernel⟩
  ·split at h
   ·rename_i e;cases h;rcases e with e | e<;>subst e<;>exact⟨by decide +kernel,by decide +kernel⟩
   ·cases h
theorem sU:Ia X "str.upper" Qk:=by
 intro pins s σ H x vs v us Q I rx rv h
 obtain⟨z,w,rfl,rfl,hz,q⟩:=h
 obtain⟨t,rfl⟩:=rx
 cases rv
 obtain⟨f1,f2⟩:=Ji hz
 exact call_gives F.slot_str_upper (typeIs_str s z t) F.entry_str_upper (F.args_str_upper_1 _) (gives_str_upper z t f1) ⟨Nat.le_of_not_lt (of_decide_eq_false f1),.str w,H,I.tok _,⟨_,by rw[f2]⟩,q⟩
theorem rV:Ia X "str.lower" Oe:=by
 intro pins s σ H x vs v us Q I rx rv h
 obtain⟨z,w,rfl,rfl,hz,q⟩:=h
 obtain⟨t,rfl⟩:=rx
 cases rv
 obtain⟨f1,f2⟩:=HE hz
 exact call_gives F.slot_str_lower (typeIs_str s z t) F.entry_str_lower (F.args_str_lower_1 _) (gives_str_lower z t f1) ⟨Nat.le_of_not_lt (of_decide_eq_false f1),.str w,H,I.tok _,⟨_,by rw[f2]⟩,q⟩
theorem qE{a:Expr}{f:R->OD}{ap cp:Pos}(ha:SE X a f)(hbase:attributeBase a "upper" X.env (eval a X.env)=eval a X.env:=by rfl)(hline:(ap.endLine==cp.line)=true:=by rfl) :
  SE X (.Call (.Attribute a "upper" ap) [] [] cp) (Fi KM f):=(qx (T:="str") PySem.F.plainAttrs_str PySem.F.slot_str_upper PySem.F.type_str_upper sU ha hbase hline).imp fun σ H Q ⟨ρ,d,er,e,q⟩=>by
 obtain⟨x,e1,e⟩:=i9 e
 cases x with
 | str z =>
  obtain⟨w,e2,e3⟩:=ud e
  subst e3
  exact⟨ρ,_,er,e1,fun v H1 s1 r1=>by cases (show v=_ from r1);exact⟨rfl,z,w,rfl,rfl,e2,q _ H1 s1 rfl⟩⟩
 | _=>cases e
theorem pE{a:Expr}{f:R->OD}{ap cp:Pos}(ha:SE X a f)(hbase:attributeBase a "lower" X.env (eval a X.env)=eval a X.env:=by rfl)(hline:(ap.endLine==cp.line)=true:=by rfl) :
  SE X (.Call (.Attribute a "lower" ap) [] [] cp) (Fi GD f):=(qx (T:="str") PySem.F.plainAttrs_str PySem.F.slot_str_lower PySem.F.type_str_lower rV ha hbase hline).imp fun σ H Q ⟨ρ,d,er,e,q⟩=>by
 obtain⟨x,e1,e⟩:=i9 e
 cases x with
 | str z =>
  obtain⟨w,e2,e3⟩:=ud e
  subst e3
  exact⟨ρ,_,er,e1,fun v H1 s1 r1=>by cases (show v=_ from r1);exact⟨rfl,z,w,rfl,rfl,e2,q _ H1 s1 rfl⟩⟩
 | _=>cases e
end
section
variable{X:Cx}{i k:Nat}{fa:Addr}{e a:Expr}{es:List Expr}{pos p:Pos}{f:R->OD}{F:R->Option LD}{G:LD->OD}
def Oc(i:Nat)(fa:Addr)(σ:L2.St):Prop:=σ[i]?=some (some (.ref fa))
def Mn(X:Cx)(i:Nat)(fa:Addr)(e:Expr)(f:R->OD):Prop:=PE X e (fun σ H Q=>Oc i fa σ/\tD X.K f σ H Q)
def Nc(X:Cx)(i:Nat)(fa:Addr)(es:List Expr)(F:R->Option LD):Prop:=PA X es (fun σ H Q=>Oc i fa σ/\O6 X.K F σ H Q)/\(∀ ρ ds,F ρ=some ds->ds.length=es.length)/\es.all noStar=true
def PJ(X:Cx)(i:Nat)(fa:Addr)(st:Stmt)(g:R->Option Out):Prop:=PS X st (fun E σ H=>Oc i fa σ/\KR X.K g E σ H)
def NR(P:Program)(w:World)(K:W.Frag)(mg:Str->Option Value)(base:Heap)(k:Nat)(fa:Addr)(G:LD->OD):Prop:=∃fd ps,n5 P w K mg base ui k fa fd ps (uE K G)/\W.keepIn K (.ref fa)=true/\Binds K fd ps []
theorem uK{P:Program}{w:World}{K:W.Frag}{mg:Str->Option Value}{base:Heap}{x:Str}{ps:List Str}(C:p6 P w K mg base k x ps G)(h:mg x=some (.ref fa)):NR P w K mg base k fa G:=by
 obtain⟨f,fd,a,m,kp,bd⟩:=C.ex
 rw[h] at m
 cases m
 exact⟨fd,ps,a,kp,bd⟩
theorem LG(h:SE X e f):Mn X i fa e f:=h.imp fun _ _ _ q=>q.2
theorem Ib(h:SA X es F):Nc X i fa es F:=⟨h.1.imp fun _ _ _ q=>q.2,h.2⟩
theorem Bz(ha:Mn X i fa e f)(hr:Nc X i fa es F)(hs:noStar e=true:=by rfl):Nc X i fa (e::es) (e8 f F):=⟨(nP ha hr.1 (aK es X.env hs)).imp fun σ H Q ⟨x,ρ,ds,er,e,q⟩=>by
 obtain⟨d,e1,e⟩:=i9 e
 obtain⟨y,e2,e⟩:=ud e
 subst e
 exact⟨x,ρ,d,er,e1,fun v H1 s1 r1=>⟨x,ρ,y,er.mono s1,e2,fun vs H2 s2 r2=>q _ H2 (s1.trans s2) (l0.cons (r1.mono s2) r2)⟩⟩,fun ρ ds e=>by
 obtain⟨d,e1,e⟩:=i9 e
 obtain⟨y,e2,e⟩:=ud e
 subst e
 simp[hr.2.1 ρ y e2],by rw[List.all_cons,hs,hr.2.2];rfl⟩
theorem HX{x:Str}{ps:List Str}(C:p6 X.prog X.w X.K X.mg X.base k x ps G)(hr:uB k X.A)(ha:Nc X i fa (e::es) F)(hg:Gl X x:=by rfl)
  (hdb:(x==("__debug__" : Str))=false:=by decide):Mn X i fa (.Call (.Name x p) (e::es) [] pos) (i4 G F):=by
 have hst:=ha.2.2
 rw[List.all_cons,Bool.and_eq_true] at hst
 have he:=aK es X.env hst.1
 have hpl:=cP (pos:=pos) (env:=X.env) hst.2
 obtain⟨f,fd,a,m,kp,bd⟩:=C.ex
 refine(io a hr hg m kp bd .nil D7 ha.1 hdb he hpl).imp fun σ H Q ⟨x,ρ,d,er,e,q⟩=>?_
 obtain⟨ds,e1,e⟩:=i9 e
 exact⟨x,ρ,ds,er,e1,fun vs H1 s1 r1=>⟨ds,d,by rw[List.append_nil];exact r1,e,fun v H2 s2 r2=>q v H2 (s1.trans s2) r2⟩⟩
theorem Jv{k}(h:Nc X i fa es F)(hl:Nat.ble es.length 1000=true:=by rfl):Mn X i fa (.Tuple es k pos) (l5 F):=(qv h.1).imp fun σ H Q ⟨x,ρ,d,er,e,q⟩=>by
 obtain⟨ds,e1,e⟩:=ud e
 subst e
 refine⟨x,ρ,ds,er,e1,fun vs H1 s1 r1=>⟨?_,fun p hp=>?_⟩⟩
 ·rw[<- r1.length,h.2.1 ρ ds e1];exact Nat.le_of_lt (yH (Nat.le_of_ble_eq_true hl))
 ·have s2:=aN hp (.tup vs)
  exact q _ _ (s1.trans s2) ⟨p,vs,rfl,xy.of ax,r1.mono s2⟩
theorem B_{x:Str}(hF:NR X.prog X.w X.K X.mg X.base k fa G)(hr:uB k X.A)(ha:SA X (e::es) F)(hN:X.N[i]?=some x:=by rfl)(hv:G0 X.env.scope x:=by first | exact Or.inl rfl | exact Or.inr (Or.inl rfl) | exact Or.inr (Or.inr rfl))
  (hd:(x==("__debug__" : Str))=false:=by decide) (hcd:(x==("__classdict__" : Str))=false:=by decide):Mn X i fa (.Call (.Name x p) (e::es) [] pos) (i4 G F):=by
 have hst:=ha.2.2
 rw[List.all_cons,Bool.and_eq_true] at hst
 have he:=aK es X.env hst.1
 have hpl:=cP (pos:=pos) (env:=X.env) hst.2
 obtain⟨fd,ps,a,kp,bd⟩:=hF
 intro pins s σ H Q I h
 obtain⟨x1,ρ,d,er,e,q⟩:=h
 obtain⟨ds,e1,e⟩:=i9 e
 refine wpAny_Call_Name_kw (ug (mm (pos:=p) hN hv hd hcd pins s σ H (fun v H1=>v=.ref fa/\H1=H) I ⟨.ref fa,x1,rfl,rfl⟩) fun u s1 ⟨v,H1,I1,rv,ev,eH⟩=>?_)
 subst ev eH
 cases (show u=_ from rv)
 refine W.callWith_K (h₀:=X.base) I1.ok.mod.kin kp (ug (ha.1 pos pins s1 σ H1 (fun vs H2=>l3 H1 H2/\l0 X.K H2 ds vs) I1 ⟨ρ,ds,er,e1,fun vs H2 s2 r2=>⟨s2,r2⟩⟩) fun us s2 ⟨vs,H2,I2,r,s12,rp⟩=>⟨I2.kIn,?_⟩) he hpl
 exact Iw a hr bd .nil D7 I2 r ⟨ds,d,by rw[List.append_nil];exact rp,e,fun v H3 s3 r3=>q v H3 (s12.trans s3) r3⟩
theorem Hq(ha:Mn X i fa a f):PJ X i fa (.Return (some a) pos) (n6 f):=(mM ha).imp fun E σ H ⟨x,ρ,τ,o,er,e,q⟩=>by
 obtain⟨d,e1,e⟩:=ud e
 subst e
 exact⟨x,ρ,d,er.1,e1,fun v H1 s1 r1=>q H1 s1 v r1⟩
inductive Tab (P:Program) (w:World) (K:W.Frag) (mg:Str->Option Value) (base:Heap) (k:Nat):List (Str×(LD->OD))->List (Str×Value)->Prop
 | nil:Tab P w K mg base k [] []
 | cons {z:Str} {G:LD->OD} {fa:Addr} {t:List (Str×(LD->OD))} {vs:List (Str×Value)}:NR P w K mg base k fa G->Tab P w K mg base k t vs->Tab P w K mg base k ((z,G)::t) ((z,.ref fa)::vs)
theorem Tab.get{P:Program}{w:World}{K:W.Frag}{mg:Str->Option Value}{base:Heap}{t:List (Str×(LD->OD))}{vs:List (Str×Value)}(h:Tab P w K mg base k t vs){z:Str}(e:t.lookup z=some G):∃fa,valueAt vs z=some (.ref fa)/\NR P w K mg base k fa G:=by
 induction h with
 | nil=>cases e
 | @cons y G' fa t vs h1 h2 ih =>
  unfold valueAt
  rw[List.find?_cons]
  by_cases hz:y=z
  ·subst hz
   rw[List.lookup_cons,beq_self_eq_true] at e
   cases e
   simp
   exact h1
  ·rw[List.lookup_cons,beq_eq_false_iff_ne.mpr (fun q=>hz q.symm)] at e
   obtain⟨fb,q1,q2⟩:=ih e
   refine⟨fb,?_,q2⟩
   unfold valueAt at q1
   simp[hz]
   simpa using q1
def El(P:Program)(w:World)(K:W.Frag)(mg:Str->Option Value)(base:Heap)(k:Nat)(T:Str)(t:List (Str×(LD->OD))):Prop:=∃a vs,mg T=some (.ref a)/\(∀h:Heap,K.In h->h.DictOf (strKind P w) a vs)/\Tab P w K mg base k t vs
def entries(w:World):List (Str×Tok×Value)->List DictEntry
 | []=>[]
 | (z,t,v)::r=>{hash:=PyData.keyHash w.params z,key:=.str z t,val:=v}::entries w r
theorem lw{P:Program}{w:World}{K:W.Frag}{a:Addr}{n:Nat}(l:List (Str×Tok×Value))(hk:K.lookup a=some ⟨.type "dict",none,.dict (entries w l).toArray n,#[]⟩)(hn:(l.map (·.1)).Nodup)(h:Heap)(X:K.In h) :
  h.DictOf (strKind P w) a (l.map fun p=>(p.1,p.2.2)):=by
 refine⟨_,_,_,X _ _ hk,⟨rfl,rfl,rfl⟩,rfl,?_,?_,?_⟩
 ·intro e he
  have he':e∈entries w l:=by simpa using he
  clear he hk hn
  induction l with
  | nil=>cases he'
  | cons p l ih =>
   obtain⟨z,t,v⟩:=p
   rcases List.mem_cons.mp he' with rfl | h2
   ·exact⟨z,strKind_is P w z t,rfl⟩
   ·exact ih h2
 ·show Pairs _ (entries w l) _
  clear hk hn
  induction l with
  | nil=>exact .nil
  | cons p l ih =>
   obtain⟨z,t,v⟩:=p
   exact .cons (strKind_is P w z t) rfl ih
 ·rw[List.map_map]
  exact hn
theorem uy.hide{K:W.Frag}{H:Hp}{ρ:R}{σ:L2.St}(e:uy K H ρ σ)(i:Nat)(v:Option V):uy K H (ρ.set i none) (σ.set i v):=by
 refine⟨by simpa using e.1,fun j c h=>?_⟩
 by_cases hj:i=j
 ·subst hj
  by_cases hi:i<ρ.length
  ·rw[List.getElem?_set_self hi] at h
   cases h
  ·rw[List.getElem?_eq_none (by simpa using hi)] at h
   cases h
 ·rw[List.getElem?_set_ne hj] at h ⊢
  exact e.2 j c h
theorem rO{T x:Str}{pt px ps:Pos}{st:Stmt}{t:List (Str×(LD->OD))}{g:(LD->OD)->R->Option Out}(i:Nat)(hN:X.N.Nodup)(hT:El X.prog X.w X.K X.mg X.base k T t)(he:SE X e f)(hb:∀fa G,NR X.prog X.w X.K X.mg X.base k fa G->PJ X i fa st (g G))
  (hg:Gl X T:=by rfl) (hi:X.N[i]?=some x:=by rfl) (hx:Loc X.env.scope x:=by first | exact Or.inl rfl | exact Or.inr rfl) (hs:CU e:=by intro _ _;rfl)
  (hw:swapsWith (.Subscript (.Name T pt) e ps) (some (.Name x px)) pos.line X.env=pure false:=by rfl) (hf:X.fn x=true\/X.env.scope.names.lookup x=some .local:=by first | exact .inl rfl | exact .inr rfl) (hdb:(T==("__debug__" : Str))=false:=by decide) :
  SS X [.Assign [.Name x px] (.Subscript (.Name T pt) e ps) pos,st] (Mg i t f g):=by
 obtain⟨a,vs,hm,hd,ht⟩:=hT
 have hix:IxR X (fun x y H Q=>∃z fa,x=.ref a/\y=.str z/\valueAt vs z=some (.ref fa)/\Q (.ref fa) H):=by
  intro value slice pins s σ H x y v u Q I rx ry h hs
  obtain⟨z,fa,rfl,rfl,hv,q⟩:=h
  cases rx
  obtain⟨tk,rfl⟩:=ry
  have hdd:=hd s.heap I.kIn
  exact tail_any hdd.mapOf.typeIs PySem.F.slot_dict_getitem.lookup (wpAny_getItem_of (strKind_is X.prog X.w z tk) hdd.mapOf hv ⟨.ref fa,H,I.tok _,rfl,q⟩) hs
 have hsub:=rN (pos:=ps) hix (kd (pos:=pt) (v:=.ref a) hg hm rfl hdb) he hs
 intro pins s σ H E I h
 obtain⟨ρ,τ,o,er,ef,q⟩:=h
 obtain⟨d,e1,ef⟩:=i9 ef
 cases d with
 | str z =>
  obtain⟨G,e2,e3⟩:=i9 ef
  obtain⟨fa,hv,hF⟩:=ht.get e2
  have hl:i<σ.length:=by
   rw[I.len]
   exact(List.getElem?_eq_some_iff.mp hi).1
  split at e3
  case isFalse=>cases e3
  case isTrue hlt =>
  refine cg (gQ hN hi hx hsub hw hf) (fu (hb fa G hF)) pins s σ H E I ?_
  refine⟨ρ,_,er.1,e1,fun v H1 s1 r1=>⟨z,fa,rfl,r1,hv,?_⟩⟩
  refine⟨List.getElem?_set_self hl,ρ.set i none,τ,o,⟨(er.1.mono s1).hide i _,?_⟩,e3,fun H2 s2=>q H2 (s1.trans s2)⟩
  rw[List.length_set,List.drop_set_of_lt hlt]
  exact er.2
 | _=>cases ef
end
section
variable{X:Cx}
end
section
variable{X:Cx}{a:Expr}{f:R->OD}{pos p2:Pos}
end
theorem Qv{us:List Value}(h:us.length=1):∃x0,us=[x0]:=by
 match us,h with
 | [x0],_=>exact⟨x0,rfl⟩
theorem ln2{us:List Value}(h:us.length=2):∃x0 x1,us=[x0,x1]:=by
 match us,h with
 | [x0,x1],_=>exact⟨x0,x1,rfl⟩
theorem Qu{us:List Value}(h:us.length=3):∃x0 x1 x2,us=[x0,x1,x2]:=by
 match us,h with
 | [x0,x1,x2],_=>exact⟨x0,x1,x2,rfl⟩
section
variable{X:Cx}
def N8(X:Cx)(id:String)(G:LD->OD):Prop:=Ia X id fun x vs H Q=>∃dx ds d,Rep X.K H dx x/\l0 X.K H ds vs/\G (dx::ds)=some d/\∀v H',l3 H H'->Rep X.K H' d v->Q v H'
theorem qG {a e:Expr} {es:List Expr} {f:R->OD} {F:R->Option LD} {G:LD->OD} {name:Str} {id:String} {ap cp:Pos} (slot:Slot "str" name id)
    (hty:typeOf (.builtin id)=pure (.type "method_descriptor")) (hm:N8 X id G) (hG:∀x ds d,G (x::ds)=some d->∃z,x=.str z) (ha:SE X a f) (hF:SA X (e::es) F)
    (hbase:attributeBase a name X.env (eval a X.env)=eval a X.env:=by rfl)
    (hfew:((backTo cp (starEach (e::es) X.env)).all (fun x=>!x.1)&&(backToKw cp (keywordEach [] X.env)).all (fun x=>x.1.isSome)
      && decide ((e::es).length+([]:List Keyword).length+(if ([]:List Keyword).isEmpty then 0 else 1)<30))=true:=by rfl)
    (hline:(ap.endLine==cp.line)=true:=by rfl) :
    SE X (.Call (.Attribute a name ap) (e::es) [] cp) (i4 G (e8 f F)):=by
  have hst:=hF.2.2
  rw[List.all_cons,Bool.and_eq_true] at hst
  refine(rM (T:="str") PySem.F.plainAttrs_str slot hty hm ha hF.1 hbase hfew hline (aK es X.env hst.1) (cP (pos:=cp) (env:=X.env) hst.2)).imp fun σ H Q ⟨ρ,d,er,e,q⟩=>?_
  obtain⟨dd,e1,e⟩:=i9 e
  obtain⟨x,e2,e1⟩:=i9 e1
  obtain⟨ds,e3,e1⟩:=ud e1
  subst e1
  obtain⟨z,rfl⟩:=hG x ds d e
  exact⟨ρ,_,er,e2,fun v H1 s1 r1=>⟨by cases (show v=_ from r1);exact rfl,ρ,ds,er.mono s1,e3,fun vs H2 s2 r2=>⟨.str z,ds,d,r1.mono s2,r2,e,fun u H3 s3 r3=>q u H3 (s1.trans (s2.trans s3)) r3⟩⟩⟩
theorem Ab:∀{K:W.Frag} {H:Hp} {ds:LD} {vs:List V} {us:List Value} {xs:List Str},BG ds=some xs->l0 K H ds vs->p9 vs us->∃l:List (Str×Tok),us=strValues l/\l.map (·.1)=xs
 | _,_,[],vs,us,xs,e,r,h=>by
  cases e
  cases (show vs=[] from r)
  cases h
  exact⟨[],rfl,rfl⟩
 | K,H,d::ds,vs,us,xs,e,r,h=>by
  obtain⟨x,e1,e⟩:=i9 e
  obtain⟨ys,e2,rfl⟩:=ud e
  obtain⟨v,vs',rfl,r1,r2⟩:=r
  have hv:=Gj e1 r1
  subst hv
  cases h with
  | cons h1 h2 =>
   obtain⟨t,rfl⟩:=h1
   obtain⟨l,rfl,rfl⟩:=Ab e2 r2 h2
   exact⟨(x,t)::l,rfl,rfl⟩
theorem Ct{sep:Str}{l:List (Str×Tok)}{pins:List (Addr×Obj)}{σ:L2.St}{H:Hp}{s:Shared}{Q:VK}(I:L2.Inv X pins σ H s)(hz:(Builtin.Str.glued sep (l.map (·.1))).length<=sizeLine)
  (q:Q (.str (Builtin.Str.glued sep (l.map (·.1)))) H):(joinMade sep l).post (EP X pins σ Q) s:=by
 have key:∀t,EP X pins σ Q (.str (Builtin.Str.glued sep (l.map (·.1))) t) s:=fun t=>⟨.str _,H,I,⟨t,rfl⟩,q⟩
 match l,hz,key with
 | [],hz,key=>exact⟨hz,.str _,H,I.tok _,⟨_,rfl⟩,q⟩
 | [p],hz,key=>exact key p.2
 | p1::p2::r,hz,key=>exact⟨hz,.str _,H,I.tok _,⟨_,rfl⟩,q⟩
theorem qU:N8 X "str.join" Cf:=by
 intro pins s σ H x vs v us Q I rx rv h
 obtain⟨dx,ds,d,r1,r2,e,q⟩:=h
 match dx,ds,e with
 | .str sep,[.lst es],e =>
  obtain⟨xs,e1,e⟩:=i9 e
  obtain⟨w,e2,rfl⟩:=ud e
  unfold Au at e2
  split at e2
  ·rename_i hz
   cases e2
   cases (show x=_ from r1)
   obtain⟨t,rfl⟩:=rx
   obtain⟨u,r',rfl,h1,h2⟩:=r2
   cases (show r'=[] from h2)
   obtain⟨a,ws,rfl,hq,t1⟩:=h1
   obtain⟨u',rfl,hu⟩:=rv.one
   cases (show u'=_ from hu)
   obtain⟨its,rr,ht,_⟩:=I.list (wZ.of hq)
   obtain⟨l,rfl,rfl⟩:=Ab e1 t1 rr
   exact call_meets F.slot_str_join (typeIs_str s sep t) F.entry_str_join (F.args_str_join_2 _ _) (meets_str_join_list sep t a l (decide_eq_false (Nat.not_lt.mpr hz.1))) ⟨ht.isList,Ct I hz.2 (q _ H (l3.refl H) rfl)⟩
  ·cases e2
theorem HL(x:Str)(i:Int)(c:Nat)(t u u2:Tok)(h0:0<=i)(h1:i<=1000) :
  Gives (Builtin.«str.rjust» ⟨[.str x t,.int i u,.str ⟨#[c]⟩ u2],[]⟩) (if i<=x.length then .val (.str x t) else .str (Builtin.Str.padded x (i.toNat - x.length) 0 c)):=by
 have ei:Builtin.Str.asSsize (toString "str." ++ toString "rjust") (.int i u)=pure i:=asSsize_int _ _ _ (by rw[decide_eq_false (by omega),decide_eq_false (by omega)];rfl)
 have ez:Builtin.Str.tooLong i.toNat=false:=decide_eq_false (by
  have z:1000<=sizeLine:=by decide
  omega)
 have eb:Builtin.«str.rjust» ⟨[.str x t,.int i u,.str ⟨#[c]⟩ u2],[]⟩=(Builtin.Str.asSsize (toString "str." ++ toString "rjust") (.int i u) >>= fun n =>
   if n<=(x.length:Int) then (do rule (toString "str." ++ toString "rjust" ++ toString ".long-enough");ret (.str x t))
   else if Builtin.Str.tooLong n.toNat=true then unsupported (toString "str." ++ toString "rjust" ++ toString ":memory") else retStr (Builtin.Str.padded x (n.toNat - x.length) 0 c)):=rfl
 rw[eb,ei]
 show Gives (if i<=(x.length:Int) then _ else if Builtin.Str.tooLong i.toNat=true then _ else _) _
 rw[ez]
 split
 ·exact Gives.rule (Gives.of_eq rfl)
 ·exact Gives.of_eq rfl
theorem Hx{x:D}{ds:LD}{d:D}(h:Cf (x::ds)=some d):∃z,x=.str z:=by
 cases x with
 | str z=>exact⟨z,rfl⟩
 | _=>cases h
end
section
variable{prog:Program}{w:World}{A:Around}{E:Value->Shared->Prop}{s:Shared}
theorem Gw:typeLookup (.type "list_reverseiterator") "__len__" = pure none:=by
 rw[typeLookup_type,builtinLookup_eq_fast];kernel_rfl -- list_reverseiterator
theorem Iv:typeLookup (.type "list_reverseiterator") "__length_hint__" = pure (some (.builtin "list_reverseiterator.__length_hint__")):=by
 rw[typeLookup_type,builtinLookup_eq_fast];kernel_rfl -- list_reverseiterator
abbrev Ga(its:Array Value)(i:Nat)(v:Value):Prop:=its[its.size - 1 - i]?=some v
theorem D1{Q:List Value->Shared->Prop}{j l:Addr}{its:Array Value}(hh:A.handled=none)(hne:l≠j)(hj:s.heap.IsRevIter j l ((its.size:Int) - 1))(hl:s.heap.IsList l its)(hz:its.size<=sizeLine)
  (hQ:∀s' acc,Moved [j] (fun a b=>b=a) s s'->ItemsOf (Ga its) acc its.size->Q acc.toList s'):wpAny (model prog w) A (collect (.ref j)) Q E s:=by
 have W:=(Walks.listRev (prog:=prog) (w:=w) (A:=A.in1) hh j l hne its).toS
 have st0:(0<=its.size/\s.heap.IsRevIter j l ((its.size:Int) - 1 - ((0:Nat):Int))/\s.heap.IsList l its):=⟨Nat.zero_le _,by rw[show(its.size:Int) - 1 - ((0:Nat):Int)=(its.size:Int) - 1 by omega];exact hj,hl⟩
 have hjs:j<s.heap.objs.size:=let ⟨o,ho,_⟩:=hj;Heap.lt_size ho
 have hls:l<s.heap.objs.size:=let ⟨o,ho,_⟩:=hl;Heap.lt_size ho
 have hnf:s.heap.objs.size ∉ [j,l]:=fun hm=>by
  rcases List.mem_cons.mp hm with ej | hm'
  ·exact absurd hjs (by rw[ej];exact Nat.lt_irrefl _)
  ·exact absurd hls (by rw[List.mem_singleton.mp hm'];exact Nat.lt_irrefl _)
 unfold collect
 refine wpAny_bind (wpAny_runValue (codeAny_builtin PySem.F.entry_proto_collect ?_))
 rw[Around.under_plainId PySem.F.plain_proto_collect _];show wpAny _ A.in1 (newList [] >>= fun q=>again (.builtin "list.__iadd__" ⟨[q,.ref j],[]⟩)) _ _ s
 refine wpAny_bind (wpAny_newObj_type (wpAny_pure ⟨plainId_quiet PySem.F.plain_list_iadd _,codeAny_builtin PySem.F.entry_list_iadd ?_⟩));rw[Around.under_plainId PySem.F.plain_list_iadd _]
 have st1:=W.frame 0 s (s.heap.push {cls:=.type "list",data:=.seq ([]:List Value).toArray}) s.toks st0 (Nat.le_refl _) fun b _ o e=>Heap.get?_push_of_some _ e
 have new1:(s.heap.push {cls:=.type "list",data:=.seq ([]:List Value).toArray}).get? s.heap.objs.size=some {cls:=.type "list",data:=.seq ([]:List Value).toArray}:=Heap.get?_push_size _ rfl
 have ne1:Builtin.List.listSameRef (.ref s.heap.objs.size) (.ref j)=false:=by
  have:s.heap.objs.size≠j:=fun e=>hnf (by rw[e];exact List.mem_cons_self)
  simp[Builtin.List.listSameRef,this]
 have ty1:=(show _ from st1).2.1.typeIs (s:={s with heap:=s.heap.push {cls:=.type "list",data:=.seq ([]:List Value).toArray} })
 show wpAny _ A.in1 (Builtin.List.listExtendWith (.ref s.heap.objs.size) (.ref j) (.ref s.heap.objs.size)) _ _ _
 unfold Builtin.List.listExtendWith;refine wpAny_bind (wpAny_typeOf ty1 ?_)
 rw[if_neg (by rw[ne1];decide)]
 refine wpAny_bind (W.self 0 _ _ _ st1 (wpAny_bind (wpAny_holding ?_)));unfold Builtin.List.listLengthHint
 refine wpAny_bind (wpAny_specialOf ty1 Gw ?_)
 show wpAny _ A.in1 (specialOf (Value.ref j) (oS "__length_hint__") >>= _) _ _ _
 refine wpAny_bind (wpAny_specialOf ty1 Iv ?_)
 generalize hid:("list_reverseiterator.__length_hint__" : String)=nm
 wp_delta
 rw[show splitId nm=some ("list_reverseiterator","__length_hint__") from by subst hid;decide +kernel]
 subst hid
 refine wpAny_bind (wpAny_isInstance (b:=true) ty1 (by rw[isSubtype_type];kernel_rfl) ?_)
 refine wpAny_pure ?_
 rw[if_neg (by decide)]
 refine wpAny_pure ⟨plainId_quiet PySem.F.plain_extend_loop _,codeAny_extend_loopS W hz _ hnf _ its.size 0 _ _ _ rfl (Nat.zero_le _) st1 new1 (ItemsOf.nil (Ga its)) fun s' acc' c' hm hS' hacc=>?_⟩
 show wpAny _ A (load s.heap.objs.size >>= _) _ _ s';exact wpAny_bind (wpAny_load hS' (wpAny_pure (hQ s' acc' (Moved.drop_new (o:={cls:=.type "list",data:=.seq ([]:List Value).toArray}) (tk:=s.toks) hm (Nat.le_refl _)) hacc)))
theorem G3{lv:List (Str×Tok)}{acc:Array Value}(h:ItemsOf (Ga (strValues lv).toArray) acc (strValues lv).toArray.size):acc.toList=strValues lv.reverse:=by
 have hn:(strValues lv).toArray.size=lv.length:=by simp[strValues]
 have hr:strValues lv.reverse=(strValues lv).reverse:=by simp[strValues]
 rw[hr]
 have hs:acc.size=lv.length:=h.1.trans hn
 have hl:(strValues lv).length=lv.length:=by simp[strValues]
 refine List.ext_getElem (by rw[List.length_reverse,Array.length_toList,hs,hl]) fun i h1 h2=>?_
 have h3:i<acc.size:=by simpa using h1
 have z:=h.2 i acc[i] (Array.getElem?_eq_getElem h3)
 unfold Ga at z
 rw[hn] at z
 have hi:i<lv.length:=by omega
 have z2:(strValues lv)[lv.length - 1 - i]?=some acc[i]:=by simpa using z
 rw[List.getElem_reverse]
 have h4:lv.length - 1 - i<(strValues lv).length:=by omega
 rw[List.getElem?_eq_getElem h4] at z2
 have z3:=Option.some.inj z2
 rw[Array.getElem_toList]
 simp only[hl]
 exact z3.symm
theorem ER(sep:Str)(l:List (Str×Tok))(h:Builtin.Str.tooLong ((l.map (·.1)).toArray.foldl (·+·.length+sep.length) 0)=false):Gives (joinTail sep (strValues l)) (joinMade sep l):=by
 match l,h with
 | [],h=>exact gives_joinTail sep [] h
 | [a],h=>exact gives_joinTail sep [a] h
 | a::b::r,h=>exact gives_joinTail sep (a::b::r) h
theorem IK{Q:Value->Shared->Prop}{sep:Str}{t:Tok}{j l:Addr}{lv:List (Str×Tok)}(hh:A.handled=none)(hne:l≠j)(hj:s.heap.IsRevIter j l ((lv.length:Int) - 1))(hl:s.heap.IsList l (strValues lv).toArray)(hz:lv.length<=sizeLine)
  (hg:Builtin.Str.tooLong ((lv.reverse.map (·.1)).toArray.foldl (·+·.length+sep.length) 0)=false) (hQ:∀s',Moved [j] (fun a b=>b=a) s s'->(joinMade sep lv.reverse).post Q s') :
  wpAny (model prog w) A (call (.builtin "str.join") [.str sep t,.ref j]) Q E s:=by
 have hn:(strValues lv).toArray.size=lv.length:=by simp[strValues]
 refine wpAny_call (codeAny_call_builtin PySem.F.slot_str_join.plain PySem.F.entry_str_join (PySem.F.slot_str_join.check _ _ _ _ _ _ _ _ (typeIs_str _ _ _) (PySem.F.args_str_join_2 _ _) ?_))
 rw[join_tree_other]
 refine wpAny_bind (wpAny_typeOf hj.typeIs ?_)
 show wpAny _ A.in1 ((pyIter (.ref j)).tryCatch _ >>= fun it=>collect it >>= fun items=>joinTail sep items) _ _ s
 refine wpAny_bind (wpAny_tryCatch (wpAny_pyIter_revIter hj (wpAny_bind (D1 (A:=A.in1) hh hne (by rw[hn];exact hj) hl (by rw[hn];exact hz) fun s' acc hm hacc=>?_))))
 rw[G3 hacc]
 exact ER sep lv.reverse hg prog w A (wants Q E) s' (hQ s' hm)
end
section
variable{X:Cx}
theorem qa {a e:Expr} {f g:R->OD} {ap cp pr p2:Pos} (hc:X.calm=true) (hm:X.mg "reversed" = none) (ha:SE X a f) (he:SE X e g) (hg:Gl X "reversed":=by rfl) (hst:noStar e=true:=by rfl)
    (hbase:attributeBase a "join" X.env (eval a X.env)=eval a X.env:=by rfl)
    (hfew:((backTo cp (starEach [.Call (.Name "reversed" pr) [e] [] p2] X.env)).all (fun x=>!x.1)&&(backToKw cp (keywordEach [] X.env)).all (fun x=>x.1.isSome)
      && decide ([Expr.Call (.Name "reversed" pr) [e] [] p2].length+([]:List Keyword).length+(if ([]:List Keyword).isEmpty then 0 else 1)<30))=true:=by rfl)
    (hline:(ap.endLine==cp.line)=true:=by rfl) :
    SE X (.Call (.Attribute a "join" ap) [.Call (.Name "reversed" pr) [e] [] p2] [] cp) (i4 Dd (e8 f (e8 g i3))):=by
  intro pins s σ H Q I hw
  obtain⟨ρ,d,er,e0,q⟩:=hw
  obtain⟨dd,e1,e0⟩:=i9 e0
  obtain⟨x,e2,e1⟩:=i9 e1
  obtain⟨ds,e3,e1⟩:=ud e1
  subst e1
  obtain⟨y,e4,e3⟩:=i9 e3
  cases e3
  match x,y,e0 with
  | .str sep,.lst es,e0 =>
    obtain⟨xs,e5,e0⟩:=i9 e0
    obtain⟨wd,e6,rfl⟩:=ud e0
    unfold Au at e6
    split at e6
    · rename_i hz
      cases e6
      have hst1:=aK [] X.env hst
      refine wpAny_Call_method_late hbase hfew hline rfl (ug (ha pins s σ H (fun v H1=>l3 H H1/\Rep X.K H1 (.str sep) v) I ⟨ρ,_,er,e2,fun v H1 s1 r1=>⟨s1,r1⟩⟩) fun v s1 ⟨vx,H1,I1,r1,s01,rp⟩=>?_)
      cases (show vx=_ from rp)
      obtain⟨t,rfl⟩:=r1
      obtain⟨h1,h2⟩:=E5 (T:="str") (x:=.str sep) I1 ⟨t,rfl⟩ rfl
      refine⟨"str","str.join",PySem.F.plainAttrs_str,PySem.F.slot_str_join,PySem.F.type_str_join,h1,h2,?_⟩
      refine Calls.callWith_builtin rfl (Calls.evalArgs_plain (Calls.spliced_cons ?_))
      refine wpAny_Call_Name_kw (da I1 hg hm (u:=.type "reversed") (by kernel_rfl) ?_)
      refine callWith_type1 ?_ hst1 rfl
      rw[hst1]
      refine Calls.spliced_cons (ug (he pins s1 σ H1 (fun v H2=>l3 H1 H2/\Rep X.K H2 (.lst es) v) I1 ⟨ρ,_,er.mono s01,e4,fun v H2 s2 r2=>⟨s2,r2⟩⟩) fun u s2 ⟨vu,H2,I2,ru,s12,rl⟩=>Calls.spliced_nil ?_)
      obtain⟨b,vs,rfl,hq,ts⟩:=rl
      cases (show u=_ from ru)
      obtain⟨its,rr,ht,hlen⟩:=I2.list (wZ.of hq)
      obtain⟨lv,hu,hx⟩:=Ab e5 ts.reverse (le rr)
      have hi:its=strValues lv.reverse:=by
        have z:=congrArg List.reverse hu
        rw[List.reverse_reverse] at z
        rw[z];simp[strValues]
      subst hi
      subst hx
      have hlb:b<s2.heap.objs.size:=let ⟨o,ho,_⟩:=ht.isList;Heap.lt_size ho
      have hn:(strValues lv.reverse).toArray.size=lv.reverse.length:=by simp[strValues]
      have hlv:lv.reverse.length<=sizeLine:=by rw[<- hn,List.size_toArray,<- rr.length];exact hlen
      refine call_reversed_list ht.isList (Calls.spliced_nil ?_)
      refine IK (I1.ok.hd hc) (lv:=lv.reverse) (Nat.ne_of_lt hlb) ⟨_,Heap.get?_push_size _ rfl,rfl,by rw[hn];rfl⟩ (ht.isList.at fun o ho=>Heap.get?_push_of_some _ ho) hlv ?_ fun s' hm=>?_
      · rw[List.reverse_reverse]
        exact decide_eq_false (Nat.not_lt.mpr hz.1)
      · rw[List.reverse_reverse]
        have I3:L2.Inv X pins σ H2 s':=by
          rw[hm.eq_with]
          exact I2.kept fun c o ho=>hm.heap c o (fun hc=>absurd (Heap.lt_size ho) (by rw[List.mem_singleton.mp hc];exact Nat.lt_irrefl _)) (Heap.get?_push_of_some _ ho)
        exact Ct I3 hz.2 (q _ H2 (s01.trans s12) rfl)
    · cases e6
theorem qm{c:Expr}{body:List Stmt}{f:R->Option Bool}{pos:Pos}(hp:PassesOwn (model X.prog X.w) X.A X.env X.xe)(hc:ST X c f):S1 X (.While c body [] pos) (GQ f):=by
 have hb:PSs X body (fun _ _ _=>False):=fun pins s σ H D I h=>h.elim
 refine(qf hp hc hb).imp fun E σ H ⟨ρ,τ,o,er,e,q⟩=>?_
 obtain⟨b,e1,e⟩:=i9 e
 cases b with
 | true=>cases e
 | false =>
  cases e
  refine⟨fun m σ' H'=>σ'=σ/\H'=H,⟨0,rfl,rfl⟩,?_⟩
  rintro m _ _ ⟨rfl,rfl⟩
  exact⟨ρ,false,er.1,e1,fun H1 s1=>(if_neg (show ¬ (false=true) from Bool.false_ne_true)).mpr (q H1 s1 _ (er.mono s1))⟩
theorem tf:N8 X "str.rjust" Nm:=by
 intro pins s σ H x vs v us Q I rx rv h
 obtain⟨dx,ds,d,r1,r2,e,q⟩:=h
 match dx,ds,e with
 | .str z,[.int i,.str g],e =>
  replace e:(if 0<=i/\i<=1000/\g.length=1 then some (D.str (KH z i.toNat (g.cps.getD 0 0))) else none)=some d:=e
  split at e
  ·rename_i hz
   obtain⟨h0,h1,hg⟩:=hz
   cases e
   cases (show x=_ from r1)
   obtain⟨t,rfl⟩:=rx
   obtain⟨u,r',rfl,k1,r2⟩:=r2
   obtain⟨u2,r3,rfl,k2,r2⟩:=r2
   cases (show r3=[] from r2)
   cases (show u=_ from k1)
   cases (show u2=_ from k2)
   obtain⟨w1,w2,rfl,⟨t1,rfl⟩,⟨t2,rfl⟩⟩:=rv.two
   obtain⟨c,hc⟩:∃c,g=⟨#[c]⟩:=by
    obtain⟨⟨l⟩⟩:=g
    match l,hg with
    | [c],_=>exact⟨c,rfl⟩
   subst hc
   have hi:(i.toNat:Int)=i:=by omega
   refine call_gives PySem.F.slot_str_rjust (typeIs_str s z t) PySem.F.entry_str_rjust (PySem.F.args_str_rjust_3 _ _ _) (HL z i c t t1 t2 h0 h1) ?_
   have q':=q (.str (KH z i.toNat c)) H (l3.refl H) rfl
   unfold KH at q'
   by_cases hl:i.toNat<=z.length
   ·rw[if_pos hl] at q'
    rw[if_pos (by omega)]
    exact⟨.str z,H,I,⟨t,rfl⟩,q'⟩
   ·rw[if_neg hl] at q'
    rw[if_neg (by omega)]
    refine⟨?_,.str _,H,I.tok _,⟨_,rfl⟩,q'⟩
    have z1:1000<=sizeLine:=by decide
    have z2:(Builtin.Str.padded z (i.toNat - z.length) 0 c).length=i.toNat:=by
     show(Array.replicate _ _++z.cps++Array.replicate _ _).size=_
     simp
     have:z.cps.size=z.length:=rfl
     omega
    rw[z2]
    omega
  ·cases e
theorem L5{x:D}{ds:LD}{d:D}(h:Nm (x::ds)=some d):∃z,x=.str z:=by
 cases x with
 | str z=>exact⟨z,rfl⟩
 | _=>cases h
theorem rn{a e:Expr}{es:List Expr}{f:R->OD}{F:R->Option LD}{ap cp:Pos}(ha:SE X a f)(hF:SA X (e::es) F)
  (hbase:attributeBase a "join" X.env (eval a X.env)=eval a X.env:=by rfl)
  (hfew:((backTo cp (starEach (e::es) X.env)).all (fun x=>!x.1)&&(backToKw cp (keywordEach [] X.env)).all (fun x=>x.1.isSome)&&decide ((e::es).length+([]:List Keyword).length+(if ([]:List Keyword).isEmpty then 0 else 1)<30))=true:=by rfl)
  (hline:(ap.endLine==cp.line)=true:=by rfl):SE X (.Call (.Attribute a "join" ap) (e::es) [] cp) (i4 Cf (e8 f F)):=
 qG PySem.F.slot_str_join PySem.F.type_str_join qU (fun _ _ _ h=>Hx h) ha hF hbase hfew hline
theorem sO{a e:Expr}{es:List Expr}{f:R->OD}{F:R->Option LD}{ap cp:Pos}(ha:SE X a f)(hF:SA X (e::es) F)
  (hbase:attributeBase a "rjust" X.env (eval a X.env)=eval a X.env:=by rfl)
  (hfew:((backTo cp (starEach (e::es) X.env)).all (fun x=>!x.1)&&(backToKw cp (keywordEach [] X.env)).all (fun x=>x.1.isSome)&&decide ((e::es).length+([]:List Keyword).length+(if ([]:List Keyword).isEmpty then 0 else 1)<30))=true:=by rfl)
  (hline:(ap.endLine==cp.line)=true:=by rfl):SE X (.Call (.Attribute a "rjust" ap) (e::es) [] cp) (i4 Nm (e8 f F)):=
 qG PySem.F.slot_str_rjust PySem.F.type_str_rjust tf (fun _ _ _ h=>L5 h) ha hF hbase hfew hline
end
section
variable{X:Cx}
theorem zX:fillsNumberSlot (.type "tuple") "mul" = pure false:=
 PySem.fillsNumberSlot_seq (id:="tuple.__mul__") (r:=some (.builtin "tuple.__rmul__")) PySem.F.slot_tuple_mul.lookup (by decide +kernel) PySem.F.slot_tuple_rmul.lookup (by decide +kernel)
theorem DB:seqRepeat? (.type "tuple")=pure (some (.builtin "tuple.__mul__")):=by
 unfold seqRepeat?
 rw[PySem.seqSlot_of (T:="tuple") (name:="__mul__") (id:="tuple.__mul__") PySem.F.slot_tuple_mul.lookup (by decide +kernel),PySem.seqSlot_of (T:="tuple") (name:="__rmul__") (id:="tuple.__rmul__") PySem.F.slot_tuple_rmul.lookup (by decide +kernel)]
 rfl
theorem BE(a:Int)(t:Tok)(l:Addr)(items:Array Value)(n:Nat)(dd:Option Addr)(sl:Array (Option Value)) :
  Meets (Builtin.«int.__rmul__» ⟨[.int a t,.ref l],[]⟩) (fun _ R s=>s.heap.get? l=some {cls:=.type "tuple",dict:=dd,data:=.seq items n,slots:=sl}/\R (.ok (.ret Value.notImplemented)) s):=
 .of_wp fun prog w A R s h=>by obtain⟨hp,g,d,tk,os⟩:=s;obtain⟨hl,h⟩:=h;wp_walk;exact⟨_,rfl,h⟩
theorem PK{b:Bool}(h:b=false):decide (b=true)=false:=by subst h;rfl
theorem Ba(l:Addr)(items:Array Value)(n:Nat)(dd:Option Addr)(sl:Array (Option Value))(k:Int)(u:Tok)(h1:(decide (k < -(2 ^ 63))||decide (k ≥ 2 ^ 63))=false)(h2:(items.isEmpty||k==1)=true) :
  Meets (Builtin.«tuple.__mul__» ⟨[.ref l,.int k u],[]⟩) (fun _ R s=>s.heap.get? l=some {cls:=.type "tuple",dict:=dd,data:=.seq items n,slots:=sl}/\R (.ok (.ret (.ref l))) s):=
 .of_wp fun prog w A R s h=>by
  obtain⟨hp,g,d,tk,os⟩:=s;obtain⟨hl,h⟩:=h;have f1:=AutoSeq1.idx_int;have f2:=AutoSeq1.sub_tuple_tuple
  wp_walk using wpAny_loadPart' hl
  refine wpAny_ite_false (PK h1) ?_
  wp_walk using wpAny_loadPart' hl
  exact⟨_,rfl,h⟩
def Pc:V->Option Int->Option Int->Hp->VK->Prop:=fun x lo hi H Q=>∃z,x=.str z/\z.length<=sizeLine/\Q (.str (Txt.slice z lo hi)) H
theorem LU:J0 X Pc:=by
 intro pins s σ H x v vl vu lo hi sl Q I rx hs pl pu h
 obtain⟨z,rfl,hz,q⟩:=h
 obtain⟨t,rfl⟩:=rx
 refine⟨"str",_,PySem.F.slot_str_getitem.lookup,typeIs_str _ _ _,?_⟩
 have key:∀(l u:Option (Int×Tok)),s.heap.IsSlice sl l u none->l.map (·.1)=lo->u.map (·.1)=hi->wpAny (model X.prog X.w) X.A (getItem (.str z t) (.ref sl)) (EP X pins σ Q) X.xe s:=fun l u hs h1 h2=>by
  subst h1 h2
  exact wpAny_getItem_str_slice (st:=none) hs rfl (post_val_or_str ⟨Nat.le_trans (Txt.slice_le z _ _) hz,fun t' k=>⟨.str _,H,I.kept fun _ _ e=>e,⟨_,rfl⟩,q⟩⟩)
 cases pl with
 | none=>cases pu with
  | none=>exact key none none hs rfl rfl
  | int j tj=>exact key none (some (j,tj)) hs rfl rfl
 | int i ti=>cases pu with
  | none=>exact key (some (i,ti)) none hs rfl rfl
  | int j tj=>exact key (some (i,ti)) (some (j,tj)) hs rfl rfl
theorem jM{a:Expr}{lo hi:Option Expr}{f:R->OD}{l h:R->Option (Option Int)}{p2 pos:Pos}(ha:SE X a f)(hl:SO X lo l)(hh:SO X hi h):SE X (.Subscript a (.Slice lo hi none p2) pos) (Ms f l h):=(ly LU ha hl hh).imp fun σ H Q ⟨ρ,d,er,e,q⟩=>by
 obtain⟨x,e1,e⟩:=i9 e
 obtain⟨o1,e2,e⟩:=i9 e
 obtain⟨o2,e3,e⟩:=i9 e
 refine⟨ρ,x,er,e1,fun v H1 s1 r1=>⟨ρ,o1,er.mono s1,e2,fun H2 s2=>⟨ρ,o2,er.mono (s1.trans s2),e3,fun H3 s3=>?_⟩⟩⟩
 cases x with
 | str z =>
  simp only[Nj] at e
  split at e
  ·rename_i hz
   cases e
   cases (show v=_ from r1)
   exact⟨z,rfl,hz,q _ H3 (s1.trans (s2.trans s3)) rfl⟩
  ·cases e
 | _=>cases e
end
theorem K5{a b c:Int}(ha : -(2 ^ 60)<=a)(ha':a<2 ^ 60)(hb : -(2 ^ 60)<=b)(hb':b<2 ^ 60)(hc:0<c)(hc':c<1073741824):Builtin.Range.small a b c=true:=by
 have hd:0<=(b - a - 1) / c\/b - a - 1<0:=by
  by_cases h:b - a - 1<0
  ·exact .inr h
  ·exact .inl (Int.ediv_nonneg (by omega) (by omega))
 have hd2:a<b->(b - a - 1) / c<=b - a - 1:=fun h=>Int.ediv_le_self _ (by omega)
 unfold Builtin.Range.small Builtin.Range.rangeSize
 simp only[Builtin.Range.rangeFitsLong,Bool.and_eq_true,Bool.or_eq_true,decide_eq_true_eq,beq_iff_eq,gt_iff_lt,hc,if_true]
 split<;>omega
section
variable{X:Cx}
theorem GO{a b c:Int}(hc:0<c):((wj a b c:Nat):Int)=Builtin.Range.rangeSize a b c:=by
 unfold wj Builtin.Range.rangeSize
 rw[if_pos (show c > 0 from hc)]
 split
 ·rename_i h
  have:0<=(b - a - 1) / c:=Int.ediv_nonneg (by omega) (by omega)
  omega
 ·rfl
end
section
variable{X:Cx}{pins:List (Addr×Obj)}{σ:L2.St}{H:Hp}{s:Shared}{k:Nat}{y:Str}
def hid(X:Cx)(k:Nat)(y:Str):Cx:={X with N:=X.N.set k y}
end
end HW
namespace HW
open PySem
section
open Builtin Builtin.Str
end
theorem CJ(g:Str):∀(r:List Str) (acc:Array Nat),(r.foldl (fun acc p=>acc++g.cps++p.cps) acc).toList=acc.toList++r.flatMap fun p=>g.cps.toList++p.cps.toList
 | [],acc=>by simp
 | p::r,acc=>by
  rw[List.foldl_cons,CJ g r]
  simp
structure Ap (z TI TO i1 i2:Addr):Prop where
 a1:TI≠z
 a2:TO≠z
 a3:i1≠z
 a4:i2≠z
 a5:TI≠TO
 a6:TI≠i1
 a7:TI≠i2
 a8:TO≠i1
 a9:TO≠i2
 b1:i1≠i2
section
variable{prog:Program}{w:World}{A:Around}{E:Value->Shared->Prop}{g:_}{d:_}{os:_}
structure Nx (prog:Program) (w:World) (A:Around) (mk:Heap->Nat->Shared) (Good:Heap->Nat->Prop) (it:Addr) (st st':Heap->Prop) (P:Value->Prop):Prop where
 stay:∀h h',st h->(∀o,h.get? it=some o->h'.get? it=some o)->st h'
 stay':∀h h',st' h->(∀o,h.get? it=some o->h'.get? it=some o)->st' h'
 run:∀h tk (Q:Value->Shared->Prop) (E:Value->Shared->Prop),Good h tk->st h->(∀u h' tk',P u->st' h'->Heap.SameBut it h h'->Q u (mk h' tk')) ->
  wpAny (model prog w) A (Builtin.SmallTypes.nextOf (.ref it)) Q E (mk h tk)
structure Ne (prog:Program) (w:World) (A:Around) (mk:Heap->Nat->Shared) (Good:Heap->Nat->Prop) (it:Addr) (st:Heap->Prop):Prop where
 stay:∀h h',st h->(∀o,h.get? it=some o->h'.get? it=some o)->st h'
 run:∀h tk (Q:Value->Shared->Prop) (E:Value->Shared->Prop),Good h tk->st h->(∀h' e,Heap.ExtBut it h h'->(∃o,h'.get? e=some o/\o.cls=.type "StopIteration")->E (.ref e) (mk h' tk)) ->
  wpAny (model prog w) A (Builtin.SmallTypes.nextOf (.ref it)) Q E (mk h tk)
def u9(s:Shared)(h:Heap)(tk:Nat):Shared:={s with heap:=h,toks:=tk}
def Cl(Good:Heap->Nat->Prop)(cs:List Addr):Prop:=∀c∈cs,∀h tk h' tk',Good h tk->(∀b o,b≠c->h.get? b=some o->h'.get? b=some o)->Good h' tk'
variable{Good:Heap->Nat->Prop}{s:Shared}{z TI TO i1 i2:Addr}{a b:Value}{st1 st1' st2 st2':Heap->Prop}{P1 P2:Value->Prop}
theorem pC {Q:Value->Shared->Prop} (D:Ap z TI TO i1 i2) (hz:IsZip s.heap z TI TO .none) (hI:IsPair s.heap TI (.ref i1) (.ref i2)) (hO:IsPair s.heap TO a b)
    (g0:Good s.heap s.toks) (cl:Cl Good [z,TO,i1,i2]) (n1:Nx prog w A (u9 s) Good i1 st1 st1' P1) (n2:Nx prog w A (u9 s) Good i2 st2 st2' P2) (q1:st1 s.heap) (q2:st2 s.heap)
    (hQ:∀h5 tk u1 u2 h8,Good h5 tk->P1 u1->P2 u2->IsZip h5 z TI TO .ellipsis->IsPair h5 TI (.ref i1) (.ref i2)->IsPair h5 TO u1 u2->st1' h5->st2' h5->IsZip h8 z TI TO (rawInt h5.objs.size) ->
      (∀c o,c≠z->(h5.push {cls:=.type "tuple",data:=.seq #[u1,u2]}).get? c=some o->h8.get? c=some o)->Q (.ref h5.objs.size) (u9 s h8 tk)) :
    wpAny (model prog w) A (Builtin.«zip.__next__» ⟨[.ref z],[]⟩) (fun fin s'=>∃v,fin=.done (.ret v)/\Q v s') E s:=by
  show wpAny _ _ (field (.ref z) 2 >>= _) _ _ _;refine wpAny_bind (wpAny_field hz rfl (x:=.bool false) rfl ?_)
  show wpAny _ _ (field (.ref z) 3 >>= _) _ _ _;refine wpAny_bind (wpAny_field hz rfl (x:=.ref TI) rfl ?_)
  refine wpAny_bind (wpAny_seqItems hI rfl ?_);show wpAny _ _ (Builtin.SmallTypes.ownedTupleIsFree (.ref z) >>= _) _ _ _
  refine wpAny_bind ?_;unfold Builtin.SmallTypes.ownedTupleIsFree
  refine wpAny_bind (wpAny_field hz rfl (x:=.none) rfl (wpAny_pure ?_));simp only[if_true]
  refine wpAny_bind (wpAny_rule ?_);refine wpAny_bind (wpAny_field hz rfl (x:=.ref TO) rfl ?_)
  refine wpAny_bind (wpAny_setField_rec hz (by simp) fun h1 hz1 s1=>?_)
  replace hz1:IsZip h1 z TI TO .ellipsis:=hz1
  have e1:∀b o,b≠z->s.heap.get? b=some o->h1.get? b=some o:=s1.extBut
  have g1:Good h1 s.toks:=cl z (by simp) _ _ _ _ g0 e1
  refine wpAny_bind ?_;simp only[List.zipIdx_cons,List.zipIdx_nil,List.forIn_cons,List.forIn_nil]
  refine wpAny_bind (wpAny_bind (wpAny_onRaise ?_));show wpAny _ _ (Builtin.SmallTypes.nextOf (.ref i1) >>= _) _ _ _
  refine wpAny_bind (n1.run h1 s.toks _ _ g1 (n1.stay _ _ q1 fun o=>e1 _ o D.a3) fun u1 h2 tk2 p1 t1 s2=>wpAny_pure ?_)
  have e2:∀b o,b≠i1->h1.get? b=some o->h2.get? b=some o:=s2.extBut
  have g2:Good h2 tk2:=cl i1 (by simp) _ _ _ _ g1 e2
  have O2:IsPair h2 TO a b:=e2 _ _ D.a8 (e1 _ _ D.a2 hO)
  refine wpAny_bind (wpAny_seqItems (s:=u9 s h2 tk2) O2 rfl ?_)
  refine wpAny_bind (wpAny_updateSeq_pair (s:=u9 s h2 tk2) O2 fun h3 O3 s3=>?_)
  replace O3:IsPair h3 TO u1 b:=O3
  have e3:∀b o,b≠TO->h2.get? b=some o->h3.get? b=some o:=s3.extBut
  have g3:Good h3 tk2:=cl TO (by simp) _ _ _ _ g2 e3
  refine wpAny_bind (wpAny_letGo (wpAny_pure ?_));refine wpAny_bind (wpAny_bind (wpAny_onRaise ?_))
  show wpAny _ _ (Builtin.SmallTypes.nextOf (.ref i2) >>= _) _ _ (u9 s h3 tk2)
  refine wpAny_bind (n2.run h3 tk2 _ _ g3 (n2.stay _ _ q2 fun o q=>e3 _ o D.a9.symm (e2 _ o D.b1.symm (e1 _ o D.a4 q))) fun u2 h4 tk4 p2 t2 s4=>wpAny_pure ?_)
  have e4:∀b o,b≠i2->h3.get? b=some o->h4.get? b=some o:=s4.extBut
  have g4:Good h4 tk4:=cl i2 (by simp) _ _ _ _ g3 e4
  have O4:IsPair h4 TO u1 b:=e4 _ _ D.a9 O3
  refine wpAny_bind (wpAny_seqItems (s:=u9 s h4 tk4) O4 rfl ?_)
  refine wpAny_bind (wpAny_updateSeq_pair (s:=u9 s h4 tk4) O4 fun h5 O5 s5=>?_)
  replace O5:IsPair h5 TO u1 u2:=O5
  have e5:∀b o,b≠TO->h4.get? b=some o->h5.get? b=some o:=s5.extBut
  have g5:Good h5 tk4:=cl TO (by simp) _ _ _ _ g4 e5
  refine wpAny_bind (wpAny_letGo (wpAny_pure (wpAny_pure ?_)));refine wpAny_bind (wpAny_seqItems (s:=u9 s h5 tk4) O5 rfl ?_)
  refine wpAny_bind (wpAny_newTuple (s:=u9 s h5 tk4) ?_)
  have z5:IsZip h5 z TI TO .ellipsis:=e5 _ _ D.a2.symm (e4 _ _ D.a4.symm (e3 _ _ D.a2.symm (e2 _ _ D.a3.symm hz1)))
  have I5:IsPair h5 TI (.ref i1) (.ref i2):=e5 _ _ D.a5 (e4 _ _ D.a7 (e3 _ _ D.a5 (e2 _ _ D.a6 (e1 _ _ D.a1 hI))))
  show wpAny _ _ (Builtin.SmallTypes.ownedTupleHandOut (.ref z) (.ref h5.objs.size) >>= _) _ _ _
  refine wpAny_bind ?_;unfold Builtin.SmallTypes.ownedTupleHandOut
  have z6:IsZip (h5.push {cls:=.type "tuple",data:=.seq #[u1,u2]}) z TI TO .ellipsis:=Heap.get?_push_of_some _ z5
  refine wpAny_bind (wpAny_setField_rec (s:=u9 s (h5.push {cls:=.type "tuple",data:=.seq #[u1,u2]}) tk4) z6 (by simp) fun h7 z7 s7=>?_)
  replace z7:IsZip h7 z TI TO (rawInt h5.objs.size):=z7
  refine wpAny_setField_rec (s:=u9 s h7 tk4) z7 (by simp) fun h8 z8 s8=>?_
  replace z8:IsZip h8 z TI TO (rawInt h5.objs.size):=z8
  exact wpAny_pure ⟨_,rfl,hQ h5 tk4 u1 u2 h8 g5 p1 p2 z5 I5 O5 (n1.stay' _ _ t1 fun o q=>e5 _ o D.a8.symm (e4 _ o D.b1 (e3 _ o D.a8.symm q))) (n2.stay' _ _ t2 fun o q=>e5 _ o D.a9.symm q) z8
    fun c o n q=>s8.extBut _ _ n (s7.extBut _ _ n q)⟩
theorem mU {Q:Value->Shared->Prop} (D:Ap z TI TO i1 i2) (hz:IsZip s.heap z TI TO .none) (hI:IsPair s.heap TI (.ref i1) (.ref i2)) (hO:IsPair s.heap TO a b)
    (g0:Good s.heap s.toks) (cl:Cl Good [z,TO,i1,i2]) (n1:Nx prog w A.in1 (u9 s) Good i1 st1 st1' P1) (n2:Nx prog w A.in1 (u9 s) Good i2 st2 st2' P2) (q1:st1 s.heap) (q2:st2 s.heap)
    (hQ:∀h5 tk u1 u2 h8,Good h5 tk->P1 u1->P2 u2->IsZip h5 z TI TO .ellipsis->IsPair h5 TI (.ref i1) (.ref i2)->IsPair h5 TO u1 u2->st1' h5->st2' h5->IsZip h8 z TI TO (rawInt h5.objs.size) ->
      (∀c o,c≠z->(h5.push {cls:=.type "tuple",data:=.seq #[u1,u2]}).get? c=some o->h8.get? c=some o)->Q (.ref h5.objs.size) (u9 s h8 tk)) :
    wpAny (model prog w) A (pyNext (.ref z)) (fun r s'=>∃v,r=some v/\Q v s') E s:=by
  have hT:s.TypeIs (.ref z) "zip":=⟨_,hz,rfl⟩
  unfold pyNext
  exact wpAny_bind (wpAny_attempt (wpAny_callSpecial?_slot (name:=oS "__next__") hT F.slot_zip_next (wpAny_call_entry F.slot_zip_next hT F.entry_zip_next
      (pC (Q:=fun v s'=>_) D hz hI hO g0 cl n1 n2 q1 q2 fun h5 tk u1 u2 h8 c1 c2 c3 c4 c5 c6 c7 c8 c9 c10=>wpAny_pure ⟨_,rfl,hQ h5 tk u1 u2 h8 c1 c2 c3 c4 c5 c6 c7 c8 c9 c10⟩) (F.args_zip_next_1 _))))
theorem gr{it l:Addr}{i:Nat}{items}{x:Value}{Q:Value->Shared->Prop}(hit:s.heap.IsTupleIter it l i)(hl:s.heap.IsTuple l items)(hx:items[i]?=some x)
  (hQ:∀h',h'.IsTupleIter it l (i+1)->Heap.SameBut it s.heap h'->Q x {s with heap:=h' }):wpAny (model prog w) A (Builtin.SmallTypes.nextOf (.ref it)) Q E s:=by
 obtain⟨o,ho,hc,hd⟩:=id hit
 obtain⟨ol,hol,_,nl,hdl⟩:=hl
 unfold Builtin.SmallTypes.nextOf
 refine wpAny_bind (wpAny_callSpecial?_slot (name:=oS "__next__") hit.typeIs F.slot_tuple_iterator_next (wpAny_call_entry F.slot_tuple_iterator_next hit.typeIs F.entry_tuple_iterator_next ?_ (F.args_tuple_iterator_next_1 _)))
 show wpAny _ _ (field (.ref it) 0 >>= _) _ _ s;refine wpAny_bind (wpAny_field ho hd (x:=.ref l) rfl ?_)
 show wpAny _ _ (if (Value.ref l==Value.none)=true then _ else _) _ _ s;rw[if_neg (show ¬ ((Value.ref l==Value.none)=true) from Bool.false_ne_true)]
 show wpAny _ _ (field (.ref it) 1 >>= _) _ _ s;refine wpAny_bind (wpAny_field ho hd (x:=.int i 0) rfl ?_)
 show wpAny _ _ (seqItems? (.ref l) >>= _) _ _ s;refine wpAny_bind (wpAny_seqItems hol hdl ?_)
 simp only[Int.toNat_natCast,hx]
 refine wpAny_bind (wpAny_setField ho hd (by simp) (wpAny_pure ⟨x,rfl,wpAny_pure (hQ _ ⟨_,Heap.get?_update_self _ ho (Obj.isFreed_of_fields (Obj.data_mapFields hd _)),(Obj.cls_mapFields ..).trans hc,?_⟩ (Heap.SameBut.update ..))⟩))
 rw[Obj.data_mapFields hd];simp[rawInt]
theorem gX{it l:Addr}{i:Nat}{items}{Q:Value->Shared->Prop}(hh:A.handled=none)(hit:s.heap.IsTupleIter it l i)(hl:s.heap.IsTuple l items)(hx:items[i]?=none)
  (hE:∀h' e,Heap.ExtBut it s.heap h'->(∃o,h'.get? e=some o/\o.cls=.type "StopIteration")->E (.ref e) {s with heap:=h' }):wpAny (model prog w) A (Builtin.SmallTypes.nextOf (.ref it)) Q E s:=by
 obtain⟨o,ho,hc,hd⟩:=id hit
 obtain⟨ol,hol,_,nl,hdl⟩:=hl
 unfold Builtin.SmallTypes.nextOf
 refine wpAny_bind (wpAny_callSpecial?_slot (name:=oS "__next__") hit.typeIs F.slot_tuple_iterator_next (wpAny_call_entry F.slot_tuple_iterator_next hit.typeIs F.entry_tuple_iterator_next ?_ (F.args_tuple_iterator_next_1 _)))
 show wpAny _ _ (field (.ref it) 0 >>= _) _ _ s;refine wpAny_bind (wpAny_field ho hd (x:=.ref l) rfl ?_)
 show wpAny _ _ (if (Value.ref l==Value.none)=true then _ else _) _ _ s;rw[if_neg (show ¬ ((Value.ref l==Value.none)=true) from Bool.false_ne_true)]
 show wpAny _ _ (field (.ref it) 1 >>= _) _ _ s;refine wpAny_bind (wpAny_field ho hd (x:=.int i 0) rfl ?_)
 show wpAny _ _ (seqItems? (.ref l) >>= _) _ _ s;refine wpAny_bind (wpAny_seqItems hol hdl ?_)
 simp only[Int.toNat_natCast,hx]
 refine wpAny_bind (wpAny_rule (wpAny_bind (wpAny_setField ho hd (by simp) ?_)));show wpAny _ _ (newExc (.type "StopIteration") [] >>= _) _ _ _
 refine wpAny_bind ?_;simp only[newExc,newTuple]
 refine wpAny_bind (wpAny_newObj_type ?_ (by size_fits));refine wpAny_bind (m:=firstArgMember _ _) (wpAny_of_eq (a:=Value.none) (by first | rfl | (simp only[firstArgMember];rfl)) ?_)
 refine wpAny_newObj_type ?_ (by size_fits);simp only[raiseNew]
 refine wpAny_bind (wpAny_handled ?_);first | rw[show A.in1.handled=none from hh] | rw[hh]
 exact wpAny_bind (wpAny_pure (wpAny_throw (hE _ _ (((Heap.SameBut.update ..).extBut.push _).push _) ⟨_,Heap.get?_push_size _ rfl,rfl⟩)))
inductive Src where
 | lst (a:Addr)
 | tup (a:Addr)
 | txt (x:Str) (t:Tok)
def Src.val:Src->Value
 | .lst a=>.ref a
 | .tup a=>.ref a
 | .txt x t=>.str x t
def Src.obj:Src->Obj
 | .lst a=>{cls:=.type "list_iterator",data:=.fields #[.ref a,.int 0 0]}
 | .tup a=>{cls:=.type "tuple_iterator",data:=.fields #[.ref a,.int 0 0]}
 | .txt x t=>{cls:=.type "str_ascii_iterator",data:=.fields #[.str x t,.int 0 0]}
def Src.ok(h:Heap):Src->Prop
 | .lst a=>∃xs,h.IsList a xs
 | .tup a=>∃xs,h.IsTuple a xs
 | .txt x _=>x.cps.all (·<128)=true
def Src.at(it:Addr)(i:Nat)(h:Heap):Src->Prop
 | .lst a=>h.IsListIter it a i
 | .tup a=>h.IsTupleIter it a i
 | .txt x t=>h.IsStrIter it "str_ascii_iterator" x t i
theorem Src.iter{S:Src}{Q:Value->Shared->Prop}(h:S.ok s.heap)(hQ:Q (.ref s.heap.objs.size) {s with heap:=s.heap.push S.obj}):wpAny (model prog w) A (pyIter S.val) Q E s:=by
 cases S with
 | lst a=>obtain⟨xs,h⟩:=h;exact wpAny_pyIter_list h hQ
 | tup a=>obtain⟨xs,h⟩:=h;exact wpAny_pyIter_tuple h hQ
 | txt x t=>exact wpAny_pyIter_ascii h hQ
theorem Src.keep{S:Src}{it:Addr}{i:Nat}{h h':Heap}(q:S.at it i h)(k:∀o,h.get? it=some o->h'.get? it=some o):S.at it i h':=by
 cases S with
 | lst a=>exact Heap.IsListIter.at q k
 | tup a=>obtain⟨o,e,r⟩:=q;exact⟨o,k o e,r⟩
 | txt x t=>obtain⟨o,e,r⟩:=q;exact⟨o,k o e,r⟩
theorem Src.obj_at{S:Src}{it:Addr}{i:Nat}{h:Heap}(q:S.at it i h):∃o,h.get? it=some o/\∀v,o.data≠.cell v:=by
 cases S with
 | lst a=>obtain⟨o,e,c,d⟩:=q;exact⟨o,e,fun v z=>by rw[d] at z;cases z⟩
 | tup a=>obtain⟨o,e,c,d⟩:=q;exact⟨o,e,fun v z=>by rw[d] at z;cases z⟩
 | txt x t=>obtain⟨o,e,c,d⟩:=q;exact⟨o,e,fun v z=>by rw[d] at z;cases z⟩
theorem Src.start{S:Src}{it:Addr}{h:Heap}(q:h.get? it=some S.obj):S.at it 0 h:=by
 cases S<;>exact⟨_,q,rfl,rfl⟩
theorem Src.nx {S:Src} {it:Addr} {i:Nat} {P:Value->Prop} (hx:∀h tk,Good h tk->match S with
  | .lst a=>∃xs x,h.IsList a xs/\xs[i]?=some x/\P x
  | .tup a=>∃xs x,h.IsTuple a xs/\xs[i]?=some x/\P x
  | .txt x _=>∃c,x.cps[i]?=some c/\∀u,P (.str ⟨#[c]⟩ u)):Nx prog w A (u9 s) Good it (fun h=>S.at it i h) (fun h=>S.at it (i+1) h) P where
 stay:=fun _ _ q k=>Src.keep q k
 stay':=fun _ _ q k=>Src.keep q k
 run:=fun h tk Q E gg q hQ=>by
  have z:=hx h tk gg
  cases S with
  | lst a=>obtain⟨xs,x,l,e,p⟩:=z;exact wpAny_nextOf_list_item (s:=u9 s h tk) q l e fun h' q' sb=>hQ x h' tk p q' sb
  | tup a=>obtain⟨xs,x,l,e,p⟩:=z;exact gr (s:=u9 s h tk) q l e fun h' q' sb=>hQ x h' tk p q' sb
  | txt x t=>obtain⟨c,e,p⟩:=z;exact wpAny_nextOf_ascii_item (s:=u9 s h tk) q e fun h' q' sb=>hQ _ h' (tk+1) (p _) q' sb
theorem Src.ne {S:Src} {it:Addr} {i:Nat} (hh:A.handled=none) (hx:∀h tk,Good h tk->match S with
  | .lst a=>∃xs,h.IsList a xs/\xs[i]?=none
  | .tup a=>∃xs,h.IsTuple a xs/\xs[i]?=none
  | .txt x _=>x.cps[i]?=none):Ne prog w A (u9 s) Good it (fun h=>S.at it i h) where
 stay:=fun _ _ q k=>Src.keep q k
 run:=fun h tk Q E gg q hQ=>by
  have z:=hx h tk gg
  cases S with
  | lst a=>obtain⟨xs,l,e⟩:=z;exact wpAny_nextOf_list_end (s:=u9 s h tk) hh q l e hQ
  | tup a=>obtain⟨xs,l,e⟩:=z;exact gX (s:=u9 s h tk) hh q l e hQ
  | txt x t=>exact wpAny_nextOf_ascii_end (s:=u9 s h tk) hh q z hQ
end
def I_(h:Heap)(S T:Src):Heap:=(((h.push S.obj).push T.obj).push {cls:=.type "tuple",data:=.seq #[.ref h.objs.size,.ref (h.push S.obj).objs.size]}).push {cls:=.type "tuple",data:=.seq #[.none,.none]}
def Mo(h:Heap)(S T:Src):Obj:={cls:=.type "zip",data:=.fields #[.none,.bool false,.bool false,.ref ((h.push S.obj).push T.obj).objs.size,
 .ref (((h.push S.obj).push T.obj).push {cls:=.type "tuple",data:=.seq #[.ref h.objs.size,.ref (h.push S.obj).objs.size]}).objs.size]}
theorem Src.ok_push{S T:Src}{h:Heap}(q:T.ok h):T.ok (h.push S.obj):=by
 cases T with
 | lst a=>obtain⟨xs,q⟩:=q;exact⟨xs,Heap.IsList.push q _⟩
 | tup a=>obtain⟨xs,o,e,r⟩:=q;exact⟨xs,o,Heap.get?_push_of_some _ e,r⟩
 | txt x t=>exact q
theorem qJ(S T:Src):Meets (Builtin.«zip.__new__» ⟨[.type "zip",S.val,T.val],[]⟩) (fun _ R s=>S.ok s.heap/\T.ok s.heap/\R (.ok (.ret (.ref (I_ s.heap S T).objs.size))) {s with heap:=(I_ s.heap S T).push (Mo s.heap S T)}):=
 .of_wp fun prog w A R s h=>by
  obtain⟨hp,g,d,tk,os⟩:=s;obtain⟨q1,q2,h⟩:=h
  have hsub:=sub_zip
  have r1:Src.ok (Shared.heap ⟨hp,g,d,tk,os⟩) S:=q1
  have r2:Src.ok (Shared.heap ⟨hp.push S.obj,g,d,tk,os⟩) T:=Src.ok_push q2
  wp_walk using Src.iter r1,Src.iter r2
  exact⟨_,rfl,h⟩
section
variable{prog:Program}{w:World}{A:Around}{E:Value->Shared->Prop}{s:Shared}
theorem LF(n:Nat):Ap (n+4) (n+2) (n+3) n (n+1):=by
 have k:∀a b:Nat,a≠b->(show Addr from a)≠(show Addr from b):=fun a b h=>h
 constructor<;>exact k _ _ (by omega)
theorem qj {S T:Src} {Q:Value->Shared->Prop} (h1:S.ok s.heap) (h2:T.ok s.heap)
    (h:∀h' z TI TO i1 i2,Ap z TI TO i1 i2->IsZip h' z TI TO .none->IsPair h' TI (.ref i1) (.ref i2)->IsPair h' TO .none .none->S.at i1 0 h'->T.at i2 0 h'->(∀c ∈ [z,TI,TO,i1,i2],s.heap.objs.size<=c) ->
      (∀c o,s.heap.get? c=some o->h'.get? c=some o)->Q (.ref z) {s with heap:=h' }):wpAny (model prog w) A (call (.type "zip") [S.val,T.val]) Q E s:=by
  refine callType_new F.called_zip (by decide) (F.typeCall_zip_2 _ _) (F.newCall_zip_2 _ _) (fun obj=>F.args_object_init_3 obj _ _) F.entry_zip_new (qJ S T) ⟨h1,h2,?_⟩
  have z1:(s.heap.push S.obj).objs.size=s.heap.objs.size+1:=Heap.size_push ..
  have z2:((s.heap.push S.obj).push T.obj).objs.size=s.heap.objs.size+2:=by rw[Heap.size_push,z1]
  have z3:(((s.heap.push S.obj).push T.obj).push {cls:=.type "tuple",data:=.seq #[.ref s.heap.objs.size,.ref (s.heap.push S.obj).objs.size]}).objs.size=s.heap.objs.size+3:=by rw[Heap.size_push,z2]
  have z4:(I_ s.heap S T).objs.size=s.heap.objs.size+4:=by unfold I_;rw[Heap.size_push,z3]
  have k1:∀c o,(s.heap.push S.obj).get? c=some o->((I_ s.heap S T).push (Mo s.heap S T)).get? c=some o:=fun c o e=>Heap.get?_push_of_some _ (Heap.get?_push_of_some _ (Heap.get?_push_of_some _ (Heap.get?_push_of_some _ e)))
  have g1:=k1 _ _ (Heap.get?_push_size s.heap (o:=S.obj) (by cases S<;>rfl))
  have g2:((I_ s.heap S T).push (Mo s.heap S T)).get? (s.heap.push S.obj).objs.size=some T.obj:=Heap.get?_push_of_some _ (Heap.get?_push_of_some _ (Heap.get?_push_of_some _ (Heap.get?_push_size _ (by cases T<;>rfl))))
  have g3:((I_ s.heap S T).push (Mo s.heap S T)).get? ((s.heap.push S.obj).push T.obj).objs.size=some _:=Heap.get?_push_of_some _ (Heap.get?_push_of_some _ (Heap.get?_push_size _ rfl))
  have g4:((I_ s.heap S T).push (Mo s.heap S T)).get? (((s.heap.push S.obj).push T.obj).push {cls:=.type "tuple",data:=.seq #[.ref s.heap.objs.size,.ref (s.heap.push S.obj).objs.size]}).objs.size=some _:=Heap.get?_push_of_some _ (Heap.get?_push_size _ rfl)
  have g5:((I_ s.heap S T).push (Mo s.heap S T)).get? (I_ s.heap S T).objs.size=some _:=Heap.get?_push_size _ rfl
  refine⟨⟨_,g5,rfl⟩,h _ _ _ _ _ _ ?_ g5 g3 g4 (Src.start g1) (Src.start g2) ?_ fun c o e=>k1 c o (Heap.get?_push_of_some _ e)⟩
  · rw[z4,z3,z2,z1]
    exact LF _
  · rw[z4,z3,z2,z1]
    intro c hc
    simp only[List.mem_cons,List.not_mem_nil,or_false] at hc
    rcases hc with rfl | rfl | rfl | rfl | rfl
    · exact Nat.le_add_right _ 4
    · exact Nat.le_add_right _ 2
    · exact Nat.le_add_right _ 3
    · exact Nat.le_refl _
    · exact Nat.le_add_right _ 1
end
end HW
namespace HW
open PySem PySem.Spec PyProof.Rows L2
def Src.go(K:W.Frag)(i:Nat)(H:Hp)(v:V):Src->Prop
 | .lst a=>∃xs,wZ K H a xs/\xs[i]?=some v
 | .tup a=>∃xs,xy K H a xs/\xs[i]?=some v
 | .txt x _=>∃c,x.cps[i]?=some c/\v=.str ⟨#[c]⟩
def Src.stop(K:W.Frag)(i:Nat)(H:Hp):Src->Prop
 | .lst a=>∃xs,wZ K H a xs/\xs.length<=i
 | .tup a=>∃xs,xy K H a xs/\xs.length<=i
 | .txt x _=>x.cps.size<=i
section
variable{X:Cx}{pins:List (Addr×Obj)}{σ:L2.St}{H:Hp}{s:Shared}{S:Src}{i:Nat}{v:V}
theorem j9{A:Around}{it:Addr}(q:S.go X.K i H v):Nx X.prog X.w A (u9 s) (fun h tk=>L2.Inv X pins σ H (u9 s h tk)) it (fun h=>S.at it i h) (fun h=>S.at it (i+1) h) (RelV v):=by
 refine Src.nx fun h tk I=>?_
 cases S with
 | lst a =>
  obtain⟨xs,hq,hx⟩:=q
  obtain⟨its,rv,p,hz⟩:=I.list hq
  obtain⟨u,hu,ru⟩:=rv.get hx
  exact⟨_,u,p.isList,by simpa using hu,ru⟩
 | tup a =>
  obtain⟨xs,hq,hx⟩:=q
  obtain⟨its,rv,p,hz⟩:=I.tuple hq
  obtain⟨u,hu,ru⟩:=rv.get hx
  exact⟨its.toArray,u,p,by simpa using hu,ru⟩
 | txt x t =>
  obtain⟨c,hc,e⟩:=q
  subst e
  exact⟨c,hc,fun u=>⟨u,rfl⟩⟩
theorem su{A:Around}{it:Addr}(hh:A.handled=none)(q:S.stop X.K i H):Ne X.prog X.w A (u9 s) (fun h tk=>L2.Inv X pins σ H (u9 s h tk)) it (fun h=>S.at it i h):=by
 refine Src.ne hh fun h tk I=>?_
 cases S with
 | lst a =>
  obtain⟨xs,hq,hx⟩:=q
  obtain⟨its,rv,p,hz⟩:=I.list hq
  have hl:=rv.length
  exact⟨_,p.isList,by simp;omega⟩
 | tup a =>
  obtain⟨xs,hq,hx⟩:=q
  obtain⟨its,rv,p,hz⟩:=I.tuple hq
  have hl:=rv.length
  exact⟨its.toArray,p,by simp;omega⟩
 | txt x t=>exact Array.getElem?_eq_none q
end
section
variable{X:Cx}
theorem rA:JO X (.builtin "len") FE:=DA.imp fun xs H Q ⟨ds,d,r,e,q⟩=>by
 match ds,e with
 | [.str x],e =>
  simp only[FE] at e
  split at e
  ·rename_i hz
   cases e
   obtain⟨v,r',rfl,r1,r2⟩:=r
   cases (show v=_ from r1)
   cases (show r'=[] from r2)
   exact⟨x,rfl,hz,q _ H (l3.refl H) rfl⟩
  ·cases e
end
end HW
namespace L2
open PySem PySem.Spec PyProof.Rows
section
variable{κ:Type}[DecidableEq κ]
def wO(kvs:List (κ×V))(k:κ):Option V:=(kvs.find? fun kv=>decide (kv.1=k)).map (·.2)
noncomputable def putK(kvs:List (κ×V))(k:κ)(v:V):List (κ×V):=
 if (kvs.any fun kv=>decide (kv.1=k))=true then kvs.map (fun kv=>if kv.1=k then (kv.1,v) else kv) else kvs++[(k,v)]
def KQ(kvs:List (κ×V))(k:κ):List (κ×V):=kvs.filter fun kv=>decide (kv.1≠k)
theorem vX{p:κ×V}{r:List (κ×V)}{k:κ}(e:p.1=k):wO (p::r) k=some p.2:=by simp[wO,List.find?_cons,e]
theorem vv{p:κ×V}{r:List (κ×V)}{k:κ}(e:¬ p.1=k):wO (p::r) k=wO r k:=by simp[wO,List.find?_cons,e]
theorem Bo(k:κ):∀kvs:List (κ×V),(kvs.any fun kv=>decide (kv.1=k))=(wO kvs k).isSome
 | []=>rfl
 | p::r=>by
  rw[List.any_cons]
  by_cases e:p.1=k
  ·simp only[vX e,decide_eq_true e,Bool.true_or,Option.isSome_some]
  ·rw[vv e,decide_eq_false e,Bool.false_or];exact Bo k r
theorem v4(kvs:List (κ×V))(k:κ)(v:V):(putK kvs k v).length<=kvs.length+1:=by
 unfold putK
 split
 ·rw[List.length_map];omega
 ·rw[List.length_append,List.length_cons,List.length_nil];omega
theorem Ht{kvs:List (κ×V)}{k:κ}(v:V)(h:wO kvs k=none):putK kvs k v=kvs++[(k,v)]:=by
 unfold putK
 rw[Bo,h]
 exact if_neg (by decide)
theorem AO.isSome_eq{o:Option V}{u:Option Value}(r:AO o u):o.isSome=u.isSome:=by
 cases o with
 | none=>cases u with
  | none=>rfl
  | some _=>exact(show False from r).elim
 | some _=>cases u with
  | none=>exact(show False from r).elim
  | some _=>rfl
theorem AO.getD{o:Option V}{u:Option Value}{d:V}{d':Value}(r:AO o u)(rd:RelV d d'):RelV (o.getD d) (u.getD d'):=by
 cases o with
 | none=>cases u with
  | none=>exact rd
  | some _=>exact(show False from r).elim
 | some _=>cases u with
  | none=>exact(show False from r).elim
  | some _=>exact r
theorem KV.val{kvs:List (κ×V)}{vs:List (κ×Value)}(r:KV kvs vs)(k:κ):AO (wO kvs k) (valueAt vs k):=by
 unfold KV at r
 induction r with
 | nil=>exact True.intro
 | @cons p q ps qs h t ih =>
  obtain⟨h1,h2⟩:=h
  by_cases e:p.1=k
  ·have e':q.1=k:=h1.symm.trans e
   have b:valueAt (q::qs) k=some q.2:=by simp[valueAt,List.find?_cons,e']
   rw[vX e,b];exact h2
  ·have e':¬ q.1=k:=fun z=>e (h1.trans z)
   have b:valueAt (q::qs) k=valueAt qs k:=by simp[valueAt,List.find?_cons,e']
   rw[vv e,b];exact ih
theorem KV.any{kvs:List (κ×V)}{vs:List (κ×Value)}(r:KV kvs vs)(k:κ):(kvs.any fun kv=>decide (kv.1=k))=vs.any fun kv=>decide (kv.1=k):=by
 unfold KV at r
 induction r with
 | nil=>rfl
 | cons h t ih=>rw[List.any_cons,List.any_cons,ih,h.1]
theorem KV.repl{kvs:List (κ×V)}{vs:List (κ×Value)}(r:KV kvs vs)(k:κ){y:V}{u:Value}(ry:RelV y u) :
  KV (kvs.map fun kv=>if kv.1=k then (kv.1,y) else kv) (vs.map fun kv=>if kv.1=k then (kv.1,u) else kv):=by
 unfold KV at r ⊢
 induction r with
 | nil=>exact .nil
 | @cons p q ps qs h t ih =>
  rw[List.map_cons,List.map_cons]
  refine .cons ?_ ih
  obtain⟨h1,h2⟩:=h
  by_cases e:p.1=k
  ·rw[if_pos e,if_pos (h1.symm.trans e)];exact⟨h1,ry⟩
  ·rw[if_neg e,if_neg (fun z=>e (h1.trans z))];exact⟨h1,h2⟩
theorem KV.put{kvs:List (κ×V)}{vs:List (κ×Value)}(r:KV kvs vs)(k:κ){y:V}{u:Value}(ry:RelV y u):KV (putK kvs k y) (stored vs k u):=by
 unfold putK stored
 rw[r.any k]
 by_cases e:(vs.any fun kv=>decide (kv.1=k))=true
 ·rw[if_pos e,if_pos e];exact r.repl k ry
 ·rw[if_neg e,if_neg e];exact Paired.snoc r ⟨rfl,ry⟩
theorem KV.drop{kvs:List (κ×V)}{vs:List (κ×Value)}(r:KV kvs vs)(k:κ):KV (KQ kvs k) (without vs k):=by
 unfold KV at r ⊢
 unfold KQ without
 induction r with
 | nil=>exact .nil
 | @cons p q ps qs h t ih =>
  obtain⟨h1,h2⟩:=h
  rw[List.filter_cons,List.filter_cons]
  by_cases e:p.1=k
  ·have a:¬ decide (p.1≠k)=true:=by simp[e]
   have b:¬ decide (q.1≠k)=true:=by simp[h1.symm.trans e]
   rw[if_neg a,if_neg b];exact ih
  ·have e':¬ q.1=k:=fun z=>e (h1.trans z)
   have a:decide (p.1≠k)=true:=by simp[e]
   have b:decide (q.1≠k)=true:=by simp[e']
   rw[if_pos a,if_pos b];exact .cons ⟨h1,h2⟩ ih
theorem KV.keys{kvs:List (κ×V)}{vs:List (κ×Value)}(r:KV kvs vs):kvs.map (·.1)=vs.map (·.1):=by
 unfold KV at r
 induction r with
 | nil=>rfl
 | cons h t ih=>rw[List.map_cons,List.map_cons,ih,h.1]
theorem KV.length{kvs:List (κ×V)}{vs:List (κ×Value)}(r:KV kvs vs):kvs.length=vs.length:=Paired.length r
end
theorem B9{P:Program}{w:World}{k:Key}{u:Value}(r:RelV (kV k) u):(ua P w).is k u=true:=by
 cases k with
 | inl i=>obtain⟨t,e⟩:=(show ∃t,u=Value.int i t from r);subst e;exact Eg P w i t
 | inr x=>obtain⟨t,e⟩:=(show ∃t,u=Value.str x t from r);subst e;exact Ed P w x t
theorem CL{P:Program}{w:World}:∀{ks:List Key} {us:List Value},p9 (ks.map kV) us->ItemsAre (ua P w) ks us
 | [],_,r=>by rw[List.map_nil] at r;cases r;exact .nil
 | k::ks,_,r=>by
  rw[List.map_cons] at r
  cases r with
  | cons h t=>exact .cons (B9 h) (CL t)
abbrev KT(H:Hp):List (List Key×V)->List (List Key×Addr×Value)->Prop:=Paired fun p q=>p.1=q.1/\H q.2.1=some (.tup (p.1.map kV))/\RelV p.2 q.2.2
theorem KT.val{H:Hp}{kvs:List (List Key×V)}{xs:List (List Key×Addr×Value)}(r:KT H kvs xs)(k:List Key):AO (wO kvs k) ((atKey xs k).map (·.2)):=by
 induction r with
 | nil=>exact True.intro
 | @cons p q ps qs h t ih =>
  obtain⟨h1,_,h2⟩:=h
  by_cases e:p.1=k
  ·have e':q.1=k:=h1.symm.trans e
   have b:atKey (q::qs) k=some q.2:=by simp[atKey,List.find?_cons,e']
   rw[vX e,b];exact h2
  ·have e':¬ q.1=k:=fun z=>e (h1.trans z)
   have b:atKey (q::qs) k=atKey qs k:=by simp[atKey,List.find?_cons,e']
   rw[vv e,b];exact ih
theorem KT.repl{H:Hp}{kvs:List (List Key×V)}{xs:List (List Key×Addr×Value)}(r:KT H kvs xs)(k:List Key){y:V}{u:Value}(ry:RelV y u) :
  KT H (kvs.map fun kv=>if kv.1=k then (kv.1,y) else kv) (xs.map (putAt k u)):=by
 induction r with
 | nil=>exact .nil
 | @cons p q ps qs h t ih =>
  rw[List.map_cons,List.map_cons]
  refine .cons ?_ ih
  obtain⟨h1,h2,h3⟩:=h
  unfold putAt
  by_cases e:p.1=k
  ·rw[if_pos e,if_pos (h1.symm.trans e)];exact⟨h1,h2,ry⟩
  ·rw[if_neg e,if_neg (fun z=>e (h1.trans z))];exact⟨h1,h2,h3⟩
theorem KT.put{H:Hp}{kvs:List (List Key×V)}{xs:List (List Key×Addr×Value)}(r:KT H kvs xs)(k:List Key){b:Addr}{y:V}{u:Value}(hb:H b=some (.tup (k.map kV)))(ry:RelV y u) :
  KT H (putK kvs k y) (storedH xs k b u):=by
 have e:(kvs.any fun kv=>decide (kv.1=k))=(atKey xs k).isSome:=by
  rw[Bo,(r.val k).isSome_eq,Option.isSome_map]
 unfold putK storedH
 rw[e]
 by_cases q:(atKey xs k).isSome=true
 ·rw[if_pos q,if_pos q];exact r.repl k ry
 ·rw[if_neg q,if_neg q];exact Paired.snoc r ⟨rfl,hb,ry⟩
theorem KT.keeps{H H':Hp}{kvs:List (List Key×V)}{xs:List (List Key×Addr×Value)}(r:KT H kvs xs)(ht:∀b ys,H b=some (.tup ys)->H' b=some (.tup ys)):KT H' kvs xs:=
 Paired.mapP r fun _ _ z=>⟨z.1,ht _ _ z.2.1,z.2.2⟩
section
variable{P:Program}{w:World}{H:Hp}{h:Heap}{a:Addr}
theorem KL{u:HO}(ok:zu P w H h)(e:Rd H a u):u5 P w H h a u:=e.ok ok
theorem lE{kvs:List (Key×V)}(ok:zu P w H h)(e:Rd H a (.dK kvs)):kvs.length<=sizeLine/\(a==sysModules)=false/\∃vs,KV kvs vs/\h.DictOf (ua P w) a vs:=
 show u5 P w H h a (.dK kvs) from KL ok e
theorem nS{kvs:List (Key×V)}(ok:zu P w H h)(e:H a=some (.dK kvs)):kvs.length<=sizeLine/\(a==sysModules)=false/\∃vs,KV kvs vs/\h.DictOf (ua P w) a vs:=lE ok (.inl e)
theorem DF{ks:List Key}(ok:zu P w H h)(e:H a=some (.tup (ks.map kV))):(tupleKind (ua P w)).is h ks a:=by
 obtain⟨_,its,r,o,h1,h2,⟨n,h3⟩,_⟩:=(show u5 P w H h a (.tup (ks.map kV)) from ok a _ e)
 exact⟨o,its.toArray,n,h1,h2,h3,by simpa using CL r⟩
theorem lU{kvs:List (List Key×V)}(ok:zu P w H h)(e:Rd H a (.dT kvs)):kvs.length<=sizeLine/\(a==sysModules)=false /\
  ∃xs,KT H kvs xs/\h.DictOfH (tupleKind (ua P w)) a xs:=by
 obtain⟨z,y,xs,r,o,es,ep,h1,h2,h3,h4,h5⟩:=(show u5 P w H h a (.dT kvs) from KL ok e)
 refine⟨z,y,xs,r,o,es,ep,h1,h2,h3,h4,fun x hx=>?_,h5⟩
 have all:∀{l:List (List Key×V)} {m:List (List Key×Addr×Value)},KT H l m->∀x∈m,(tupleKind (ua P w)).is h x.1 x.2.1:=by
  intro l m q
  induction q with
  | nil=>intro x hx;exact nomatch hx
  | @cons p q ps qs hq t ih =>
   intro x hx
   rcases List.mem_cons.mp hx with e | hx
   ·subst e
    exact DF ok (by rw[<- hq.1];exact hq.2.1)
   ·exact ih x hx
 exact all r x hx
theorem sZ{kvs:List (List Key×V)}(ok:zu P w H h)(e:H a=some (.dT kvs)):kvs.length<=sizeLine/\(a==sysModules)=false /\
  ∃xs,KT H kvs xs/\h.DictOfH (tupleKind (ua P w)) a xs:=lU ok (.inl e)
end
def AJ(H:Hp)(a:Addr)(y:V)(r:Option V):Prop:=
 (∃kvs k,Rd H a (.dK kvs)/\y=kV k/\r=wO kvs k)\/∃kvs k b,Rd H a (.dT kvs)/\y=.ref b/\H b=some (.tup (k.map kV))/\r=wO kvs k
def Br(H:Hp)(a:Addr)(y v:V)(H':Hp):Prop:=
 (∃kvs k,H a=some (.dK kvs)/\y=kV k/\kvs.length<sizeLine/\H'=upd H a (.dK (putK kvs k v))) \/
 ∃kvs k b,H a=some (.dT kvs)/\y=.ref b/\H b=some (.tup (k.map kV))/\kvs.length<sizeLine/\H'=upd H a (.dT (putK kvs k v))
theorem AJ.k{H:Hp}{a:Addr}{kvs:List (Key×V)}{k:Key}(e:H a=some (.dK kvs)):AJ H a (kV k) (wO kvs k):=.inl ⟨kvs,k,.inl e,rfl,rfl⟩
theorem AJ.t{H:Hp}{a b:Addr}{kvs:List (List Key×V)}{k:List Key}(e:H a=some (.dT kvs))(eb:H b=some (.tup (k.map kV))):AJ H a (.ref b) (wO kvs k):=.inr ⟨kvs,k,b,.inl e,rfl,eb,rfl⟩
theorem Br.k{H:Hp}{a:Addr}{kvs:List (Key×V)}{k:Key}{v:V}(e:H a=some (.dK kvs))(hl:kvs.length<sizeLine):Br H a (kV k) v (upd H a (.dK (putK kvs k v))):=.inl ⟨kvs,k,e,rfl,hl,rfl⟩
theorem Br.t{H:Hp}{a b:Addr}{kvs:List (List Key×V)}{k:List Key}{v:V}(e:H a=some (.dT kvs))(eb:H b=some (.tup (k.map kV)))(hl:kvs.length<sizeLine) :
  Br H a (.ref b) v (upd H a (.dT (putK kvs k v))):=.inr ⟨kvs,k,b,e,rfl,eb,hl,rfl⟩
section
variable{X:Cx}{pins:List (Addr×Obj)}{σ:St}{H:Hp}{s:Shared}{a:Addr}{y v:V}{u r:Value}{o:Option V}{A:Around}{E:Value->Shared->Prop}
theorem Inv.big(I:Inv X pins σ H s):sysModules<s.heap.objs.size:=by
 have h:mainGlobals<s.heap.objs.size:=(I.mod.glob.keeps I.bk).lt
 exact Nat.lt_trans (by decide) h
theorem oq{Q:Value->Shared->Prop}(hu:A.units+1<cLine)(I:Inv X pins σ H s)(g:AJ H a y (some v))(ry:RelV y u)(h:∀w' s',Inv X pins σ H s'->RelV v w'->Q w' s') :
  wpAny (model X.prog X.w) A (getItem (.ref a) u) Q E s:=by
 rcases g with ⟨kvs,k,e,ey,l⟩ | ⟨kvs,k,b,e,ey,eb,l⟩
 ·subst ey
  obtain⟨z,hd,vs,rel,dd⟩:=lE I.hok e
  obtain⟨w',hw,rw'⟩:=AO.some_of (v:=v) (o:=valueAt vs k) (by rw[l];exact rel.val k)
  exact wpAny_getItem_of (B9 ry) dd.mapOf hw (h w' _ (I.tok _) rw')
 ·subst ey
  cases (show u=Value.ref b from ry)
  obtain⟨z,hd,xs,rel,dd⟩:=lU I.hok e
  obtain⟨w',hw,rw'⟩:=AO.some_of (v:=v) (o:=(atKey xs k).map (·.2)) (by rw[l];exact rel.val k)
  obtain⟨p,hp,hp2⟩:=Option.map_eq_some_iff.mp hw
  refine wpAny_getItem_heap (tupleKind_room_in1 hu) (DF I.hok eb) dd hp ?_
  rw[hp2]
  exact h w' _ (I.tok _) rw'
theorem iD{h':Heap}{t':Nat}{ob:HO}(I:Inv X pins σ H s)(mu:MY (H a))(hs:Heap.SameBut a s.heap h')(he:∃q,h'.get? a=some q)(new:u5 X.prog X.w (upd H a ob) h' a ob) :
  Inv X pins σ (upd H a ob) {s with heap:=h',toks:=t' }:=
 I.write (x:=a) (e:=a) mu (.inl rfl) (fun b q hb z=>(hs.2 b hb).trans z) he new
theorem mL{P:Program}{w:World}{H':Hp}{h':Heap}{kvs:List (Key×V)}{vs:List (Key×Value)}(z:kvs.length<=sizeLine)(hd:(a==sysModules)=false)(rel:KV kvs vs)(dd:h'.DictOf (ua P w) a vs) :
  u5 P w H' h' a (.dK kvs):=⟨z,hd,vs,rel,dd⟩
theorem oQ{H':Hp}{Q:Unit->Shared->Prop}(hu:A.units+1<cLine)(I:Inv X pins σ H s)(g:Br H a y v H')(ry:RelV y u)(rv:RelV v r)(h:∀s',Inv X pins σ H' s'->Q () s') :
  wpAny (model X.prog X.w) A (setItem (.ref a) u r) Q E s:=by
 rcases g with ⟨kvs,k,e,ey,l,eH⟩ | ⟨kvs,k,b,e,ey,eb,l,eH⟩
 ·subst ey eH
  obtain⟨z,hd,vs,rel,dd⟩:=nS I.hok e
  have hz:vs.length<=sizeLine:=by rw[<- rel.length];exact z
  have hl:(putK kvs k v).length<=sizeLine:=by have:=v4 kvs k v;omega
  refine wpAny_setItem_pairs (hsz:=hz) (B9 ry) dd fun h' dd' hs=>h _ ?_
  have he:∃q,h'.get? a=some q:=let ⟨q,_,_,hq,_⟩:=dd';⟨q,hq⟩
  exact iD I (by rw[e];exact True.intro) hs he (mL hl hd (rel.put k rv) dd')
 ·subst ey eH
  cases (show u=Value.ref b from ry)
  obtain⟨z,hd,xs,rel,dd⟩:=sZ I.hok e
  have hz:xs.length<=sizeLine:=by rw[<- Paired.length rel];exact z
  have hl:(putK kvs k v).length<=sizeLine:=by have:=v4 kvs k v;omega
  refine wpAny_setItem_heap (hsz:=hz) (tupleKind_room_in1 hu) (DF I.hok eb) dd fun h' dd' hs=>h _ ?_
  obtain⟨q,es,ep,hq,h2,h3,h4,_,h5⟩:=dd'
  refine iD I (by rw[e];exact True.intro) hs ⟨q,hq⟩ ⟨hl,hd,_,(rel.put k eb rv).keeps fun c ys ec=>?_,q,es,ep,hq,h2,h3,h4,h5⟩
  rw[au (NS ec e (fun z=>nomatch z))]
  exact ec
end
section
variable{X:Cx}{pins:List (Addr×Obj)}{σ:St}{H:Hp}{s:Shared}{a:Addr}{kvs:List (Key×V)}{k:Key}{u:Value}{A:Around}{E:Value->Shared->Prop}
end
def Ke(i:Expr):Prop:=∀ov iv,subscripted i false ov iv=operate [ov,iv] (getItem ov iv)
theorem JJ{prog:Program}{w:World}{A:Around}{E:Value->Shared->Prop}{s:Shared}{env:Env}{value slice:Expr}{pos:Pos}{T id:String}{Q:Value->Shared->Prop}
  (hl:typeLookup (.type T) "__getitem__" = pure (some (.builtin id))) (hs:Ke slice)
  (h:wpAny (model prog w) A (eval value env) (fun o s₁=>wpAny (model prog w) A (eval slice env) (fun i s₂=>s₂.TypeIs o T/\wpAny (model prog w) A (getItem o i) Q E s₂) E s₁) E s) :
  wpAny (model prog w) A (eval (.Subscript value slice pos) env) Q E s:=by
 refine Subscript_ (wpAny_mono h (fun o s₁ h₁=>wpAny_mono h₁ (fun i s₂ h₂=>?_) fun _ _ x=>x) fun _ _ x=>x)
 obtain⟨hT,h₂⟩:=h₂
 unfold subscriptTail
 refine wpAny_bind ?_
 rw[getitemInPython_of_ne hT.not_modules]
 refine wpAny_bind (wpAny_specialOf hT hl ?_)
 have fin:wpAny (model prog w) A (subscripted slice false o i) (fun r s₃=>wpAny (model prog w) A (letTemporaryGo value o r >>= fun _=>pure r) Q E s₃) E s₂:=by
  rw[hs o i]
  exact wpAny_operating (wpAny_mono h₂ (fun r s₃ h₃=>wpAny_bind (wpAny_letTemporaryGo (wpAny_pure h₃))) fun _ _ x=>x)
 first
  | exact wpAny_pure (wpAny_bind fin)
  | exact wpAny_bind (wpAny_pure (wpAny_bind fin))
  | exact wpAny_bind fin
theorem Er{X:Cx}{pins:List (Addr×Obj)}{σ:St}{H:Hp}{s:Shared}{a:Addr}{y:V}{o:Option V}(I:Inv X pins σ H s)(g:AJ H a y o):s.TypeIs (.ref a) "dict":=by
 rcases g with ⟨kvs,k,e,_,_⟩ | ⟨kvs,k,b,e,_,_,_⟩
 ·obtain⟨_,_,vs,_,dd⟩:=lE I.hok e
  exact dd.typeIs
 ·obtain⟨_,_,xs,_,dd⟩:=lU I.hok e
  exact dd.typeIs
def M6(td ty:TE):TE:=fun σ H Q=>td σ H fun x H1=>ty σ H1 fun y H2=>∃a v,x=.ref a/\AJ H2 a y (some v)/\Q v H2
def NE(td ty tv:TE):TS:=fun D σ H=>tv σ H fun v H1=>td σ H1 fun x H2=>ty σ H2 fun y H3=>∃a H4,x=.ref a/\Br H3 a y v H4/\D.nx σ H4
section
variable{X:Cx}{o i e value:Expr}{pos pos' tpos:Pos}{td ty tv:TE}
theorem nA(hu:X.A.units+1<cLine)(ho:PE X o td)(hi:PE X i ty)(hs:Ke i):PE X (.Subscript o i pos) (M6 td ty):=by
 intro pins s σ H Q I h
 refine JJ PySem.F.slot_dict_getitem.lookup hs (ug (ho pins s σ H _ I h) fun u s1 ⟨x,H1,I1,rx,q1⟩=>ug (hi pins s1 σ H1 _ I1 q1) fun iv s2 ⟨y,H2,I2,ry,a,v,ex,g,q2⟩=>?_)
 subst ex
 obtain rfl:u=Value.ref a:=rx
 exact⟨Er I2 g,oq hu I2 g ry fun w' s3 I3 rw'=>⟨v,H2,I3,rw',q2⟩⟩
theorem gk(hu:X.A.units+1<cLine)(ho:PE X o td)(hi:PE X i ty)(hv:PE X value tv)(hs:swapsWith value (some (.Subscript o i pos')) pos.line X.env=pure false) :
  PS X (.Assign [.Subscript o i pos'] value pos) (NE td ty tv):=by
 intro pins s σ H D I h
 refine wpAny_Assign_Subscript (ug (hv pins s σ H _ I h) fun r s1 ⟨v,H1,I1,rv,q1⟩=>ug (ho pins s1 σ H1 _ I1 q1) fun u s2 ⟨x,H2,I2,rx,q2⟩=>ug (hi pins s2 σ H2 _ I2 q2) fun iv s3 ⟨y,H3,I3,ry,a,H4,ex,g,q3⟩=>?_) hs
 subst ex
 obtain rfl:u=Value.ref a:=rx
 exact oQ hu I3 g ry rv fun s4 I4=>⟨σ,H4,I4,q3⟩
end
theorem lu{P:Program}{w:World}{H:Hp}(h:Heap)(hb:sysModules<h.objs.size):u5 P w H (h.push {cls:=.type "dict",data:=.dict #[]}) h.objs.size (.dK []):=
 ⟨Nat.zero_le _,beq_eq_false_iff_ne.mpr (Ne.symm (Nat.ne_of_lt hb)),[],.nil,Heap.DictOf.new h⟩
section
variable{X:Cx}{pos:Pos}
end
def ES:List (TE×TE)->St->Hp->(List (V×V)->Hp->Prop)->Prop
 | [],_,H,Q=>Q [] H
 | (tk,tv)::r,σ,H,Q=>tk σ H fun x H1=>tv σ H1 fun y H2=>ES r σ H2 fun ps H3=>Q ((x,y)::ps) H3
abbrev VV:List (V×V)->List (Value×Value)->Prop:=Paired fun p q=>RelV p.1 q.1/\RelV p.2 q.2
def Oa(X:Cx)(pos:Pos)(keys:List (Option Expr))(values:List Expr)(trs:List (TE×TE)):Prop:=
 ∀(pins:List (Addr×Obj)) (s:Shared) (σ:St) (H:Hp) (Q:List (V×V)->Hp->Prop),Inv X pins σ H s->ES trs σ H Q ->
  wpAny (model X.prog X.w) X.A (evalPairs (pairTrees keys values X.env pos)) (fun vs s'=>∃ps H',Inv X pins σ H' s'/\VV ps vs/\Q ps H') X.xe s
theorem Jc{X:Cx}{pos:Pos}:Oa X pos [] [] []:=fun pins s σ H Q I h=>pairTrees_nil_walk ⟨[],H,I,.nil,h⟩
theorem Ep{X:Cx}{pos:Pos}{k v:Expr}{ks:List (Option Expr)}{vs:List Expr}{tk tv:TE}{trs:List (TE×TE)}(hk:PE X k tk)(hv:PE X v tv)(hr:Oa X pos ks vs trs) :
  Oa X pos (some k::ks) (v::vs) ((tk,tv)::trs):=fun pins s σ H Q I h =>
 pairTrees_cons_walk (ug (hk pins s σ H _ I h) fun u s1 ⟨x,H1,I1,rx,q1⟩=>ug (hv pins s1 σ H1 _ I1 q1) fun w2 s2 ⟨y,H2,I2,ry,q2⟩ =>
  ug (hr pins s2 σ H2 _ I2 q2) fun ws s3 ⟨ps,H3,I3,rel,q3⟩=>⟨(x,y)::ps,H3,I3,.cons ⟨rx,ry⟩ rel,q3⟩)
def zY(kvs more:List (Key×V)):List (Key×V):=more.foldl (fun acc kv=>putK acc kv.1 kv.2) kvs
theorem KV.merge:∀{more:List (Key×V)} {rs:List (Key×Value)} {kvs:List (Key×V)} {vs:List (Key×Value)},KV more rs->KV kvs vs->KV (zY kvs more) (merged vs rs):=by
 intro more rs kvs vs r
 unfold KV at r
 induction r generalizing kvs vs with
 | nil=>intro q;exact q
 | @cons p q ps qs h t ih =>
  intro r0
  have e:KV (putK kvs p.1 p.2) (stored vs q.1 q.2):=by
   have:=r0.put p.1 h.2
   rw[<- h.1];exact this
  exact ih e
theorem yY:∀(more kvs:List (Key×V)),(zY kvs more).length<=kvs.length+more.length
 | [],kvs=>by show kvs.length<=kvs.length+0;omega
 | p::r,kvs=>by
  have h1:=yY r (putK kvs p.1 p.2)
  have h2:=v4 kvs p.1 p.2
  show(zY (putK kvs p.1 p.2) r).length<=_
  rw[List.length_cons];omega
theorem Bh{P:Program}{w:World}:∀{kvs:List (Key×V)} {ws:List (Value×Value)},VV (kvs.map fun kv=>(kV kv.1,kv.2)) ws->∃rs,Carries (ua P w) ws rs/\KV kvs rs
 | [],_,r=>by rw[List.map_nil] at r;cases r;exact⟨[],True.intro,.nil⟩
 | p::kvs,_,r=>by
  rw[List.map_cons] at r
  cases r with
  | @cons a b as bs h t =>
   obtain⟨rs,c,q⟩:=Bh (P:=P) (w:=w) t
   obtain⟨b1,b2⟩:=b
   exact⟨(p.1,b2)::rs,⟨B9 h.1,rfl,c⟩,.cons ⟨rfl,h.2⟩ q⟩
def Nh(trs:List (TE×TE)):TE:=fun σ H Q=>∀p,H p=none->ES trs σ (upd H p (.dK [])) fun ps H2=>H2 p=some (.dK [])/\∃kvs:List (Key×V),ps=kvs.map (fun kv=>(kV kv.1,kv.2))/\kvs.length<=15/\Q (.ref p) (upd H2 p (.dK (zY [] kvs)))
theorem rq{X:Cx}{pos:Pos}{keys:List (Option Expr)}{values:List Expr}{trs:List (TE×TE)}(h:Oa X pos keys values trs)(hall:keys.all (·.isSome)=true)(hl:keys.length=values.length)(h0:keys ≠ [])
  (h15:keys.length<=15):PE X (.Dict keys values pos) (Nh trs):=by
 intro pins s σ H Q I q
 have hn:=I.hok.fresh (Nat.le_refl s.heap.objs.size)
 have I1:=I.laid (a:=s.heap.objs.size) (o:=.dK []) (h':=s.heap.push {cls:=.type "dict",data:=.dict #[]}) (t':=s.toks) (fun _ _ q=>Heap.get?_push_of_some _ q) (Nat.le_refl _) (lu s.heap I.big)
 refine wpAny_Dict_walk (knd:=ua X.prog X.w) hall hl h0 h15 (ug (h pins _ σ _ _ I1 (q _ hn)) fun ws s2 ⟨ps,H2,I2,rel,e,kvs,ep,lk,q2⟩=>?_)
 subst ep
 obtain⟨rs,c,rk⟩:=Bh (P:=X.prog) (w:=X.w) rel
 obtain⟨z,hd,vs0,r0,dd⟩:=nS I2.hok e
 cases r0
 refine⟨rs,c,dd,fun h' dd' hs=>⟨.ref s.heap.objs.size,_,?_,rfl,q2⟩⟩
 have hz:(zY [] kvs).length<=sizeLine:=by
  have h1:=yY kvs []
  rw[List.length_nil] at h1
  rw[sizeLine_eq];omega
 have he:∃q,h'.get? s.heap.objs.size=some q:=let ⟨q,_,_,hq,_⟩:=dd';⟨q,hq⟩
 exact iD I2 (by rw[e];exact True.intro) hs he (mL hz hd (rk.merge .nil) dd')
structure M2 (X:Cx) (o:Expr) (m:Str) (apos:Pos) (e f:Expr) (cpos:Pos):Prop where
 base:attributeBase o m X.env (eval o X.env)=eval o X.env
 few:((backTo cpos (starEach [e,f] X.env)).all (fun x=>!x.1)&&(backToKw cpos (keywordEach [] X.env)).all (fun x=>x.1.isSome)
  && decide (([e,f]:List Expr).length+([]:List Keyword).length+(if ([]:List Keyword).isEmpty then 0 else 1)<30))=true
 line:(apos.endLine==cpos.line)=true
 trees:backTo cpos (starEach [e,f] X.env)=[(false,eval e X.env),(false,eval f X.env)]
def PN(H:Hp)(a:Addr):Prop:=(∃kvs,Rd H a (.dK kvs))\/∃kvs,Rd H a (.dT kvs)
theorem LP{X:Cx}{pins:List (Addr×Obj)}{σ:St}{H:Hp}{s:Shared}{a:Addr}(I:Inv X pins σ H s)(d:PN H a) :
  s.TypeIs (.ref a) "dict" /\ (∀b,Value.ref a=.ref b->∃ob,s.heap.get? b=some ob/\ob.dict=none)/\(a==sysModules)=false:=by
 rcases d with ⟨kvs,e⟩ | ⟨kvs,e⟩
 ·obtain⟨_,hd,vs,_,dd⟩:=lE I.hok e
  refine⟨dd.typeIs,fun b q=>?_,hd⟩
  cases q
  obtain⟨ob,_,_,h1,h2,_⟩:=dd
  exact⟨ob,h1,h2.2.1⟩
 ·obtain⟨_,hd,xs,_,dd⟩:=lU I.hok e
  refine⟨dd.typeIs,fun b q=>?_,hd⟩
  cases q
  obtain⟨ob,_,_,h1,h2,_⟩:=dd
  exact⟨ob,h1,h2.2.1⟩
section
variable{X:Cx}{pins:List (Addr×Obj)}{σ:St}{H:Hp}{s:Shared}{a:Addr}{y d:V}{u r:Value}{o:Option V}{A:Around}{E:Value->Shared->Prop}
theorem rW{Q:Value->Shared->Prop}(hu:A.units+1<cLine)(I:Inv X pins σ H s)(g:AJ H a y o)(ry:RelV y u)(rd:RelV d r)(h:∀w' s',Inv X pins σ H s'->RelV (o.getD d) w'->Q w' s') :
  wpAny (model X.prog X.w) A (call (.builtin "dict.get") [.ref a,u,r]) Q E s:=by
 rcases g with ⟨kvs,k,e,ey,l⟩ | ⟨kvs,k,b,e,ey,eb,l⟩
 ·subst ey
  obtain⟨z,hd,vs,rel,dd⟩:=lE I.hok e
  refine call_meetsIn PySem.F.slot_dict_get dd.typeIs PySem.F.entry_dict_get (PySem.F.args_dict_get_3 _ _ _) (meets_dict_get_default (ua X.prog X.w) a (B9 ry) hd r) ⟨_,dd.mapOf,h _ _ (I.tok _) ?_⟩
  rw[l]
  exact(rel.val k).getD rd
 ·subst ey
  cases (show u=Value.ref b from ry)
  obtain⟨z,hd,xs,rel,dd⟩:=lU I.hok e
  refine call_meetsIn PySem.F.slot_dict_get dd.typeIs PySem.F.entry_dict_get (PySem.F.args_dict_get_3 _ _ _) (meetsH_dict_get_default (tupleKind (ua X.prog X.w)) a b hd r) ⟨tupleKind_room_in1 hu,k,xs,DF I.hok eb,dd,h _ _ (I.tok _) ?_⟩
  rw[l]
  exact(rel.val k).getD rd
end
def Lx(td ty tx:TE):TE:=fun σ H Q=>td σ H fun x H1=>∃a,x=.ref a/\PN H1 a/\ty σ H1 fun y H2=>tx σ H2 fun z H3=>∃o,AJ H3 a y o/\Q (o.getD z) H3
section
variable{X:Cx}{o e f:Expr}{apos cpos:Pos}{td ty tx:TE}
theorem pP(hu:X.A.units+1<cLine)(ho:PE X o td)(he:PE X e ty)(hf:PE X f tx)(m:M2 X o "get" apos e f cpos):PE X (.Call (.Attribute o "get" apos) [e,f] [] cpos) (Lx td ty tx):=by
 intro pins s σ H Q I h
 refine wpAny_Call_method m.base m.few m.line PySem.F.plainAttrs_dict PySem.F.slot_dict_get PySem.F.type_dict_get (ug (ho pins s σ H _ I h) fun u s1 ⟨x,H1,I1,rx,a,ex,d,q1⟩=>?_)
 subst ex
 obtain rfl:u=Value.ref a:=rx
 obtain⟨t1,t2,_⟩:=LP I1 d
 refine⟨t1,t2,?_⟩
 rw[m.trees]
 refine Calls.callWith_builtin rfl (Calls.evalArgs_plain (Calls.spliced_cons (ug (he pins s1 σ H1 _ I1 q1) fun iv s2 ⟨y,H2,I2,ry,q2⟩ =>
  Calls.spliced_cons (ug (hf pins s2 σ H2 _ I2 q2) fun fv s3 ⟨z,H3,I3,rz,ov,g,q3⟩=>Calls.spliced_nil ?_))))
 exact rW hu I3 g ry rz fun w' s4 I4 rw'=>⟨_,H3,I4,rw',q3⟩
end
section
variable{X:Cx}{pins:List (Addr×Obj)}{σ:St}{H:Hp}{s:Shared}{a:Addr}{kvs:List (Key×V)}{A:Around}{E:Value->Shared->Prop}
end
section
variable{X:Cx}{pins:List (Addr×Obj)}{σ:St}{H:Hp}{s:Shared}{a:Addr}{y:V}{u:Value}{A:Around}{E:Value->Shared->Prop}
end
end L2
namespace HW
open PySem
def Lh:List (Str×D)->Str->OD
 | [],_=>none
 | p::r,x=>if p.1=x then some p.2 else Lh r x
end HW
namespace HW
open PySem PySem.Spec PyProof.Rows L2
def OC(P:Program)(w:World)(a:Addr)(kvs:List (Key×V)):HO:=.ext fun h=>kvs.length<=sizeLine/\(a==sysModules)=false/\∃vs,KV kvs vs/\h.DictOf (ua P w) a vs
section
variable{X:Cx}{pins:List (Addr×Obj)}{σ:L2.St}{H:Hp}{s:Shared}{a:Addr}{kvs:List (Key×V)}
end
def xD(K:W.Frag)(H:Hp):List (Str×D)->List (Key×V)->Prop
 | [],vs=>vs=[]
 | p::r,vs=>∃v t,vs=(.inr p.1,v)::t/\Rep K H p.2 v/\xD K H r t
section
variable{K:W.Frag}{H H':Hp}
theorem xD.kp(s:Kp H H'):∀{ds:List (Str×D)} {vs:List (Key×V)},xD K H ds vs->xD K H' ds vs
 | [],_,h=>h
 | p::r,_,h=>by
  obtain⟨v,t,e,q,w⟩:=h
  exact⟨v,t,e,q.kp s,xD.kp s w⟩
theorem xD.mono(s:l3 H H'){ds:List (Str×D)}{vs:List (Key×V)}(h:xD K H ds vs):xD K H' ds vs:=h.kp (Kp.of s)
theorem xD.snoc:∀{ds:List (Str×D)} {vs:List (Key×V)} {x:Str} {d:D} {v:V},xD K H ds vs->Rep K H d v->xD K H (ds++[(x,d)]) (vs++[(.inr x,v)])
 | [],_,x,d,v,h,r=>by
  cases (show _=[] from h)
  exact⟨v,[],rfl,r,rfl⟩
 | p::ds,_,x,d,v,h,r=>by
  obtain⟨u,t,e,q,w⟩:=h
  subst e
  exact⟨u,t++[(.inr x,v)],rfl,q,xD.snoc w r⟩
theorem xD.len:∀{ds:List (Str×D)} {vs:List (Key×V)},xD K H ds vs->ds.length=vs.length
 | [],_,h=>by cases (show _=[] from h);rfl
 | p::r,_,h=>by
  obtain⟨v,t,e,q,w⟩:=h
  subst e
  simp[xD.len w]
theorem xD.at:∀{ds:List (Str×D)} {vs:List (Key×V)} {x:Str},xD K H ds vs->match Lh ds x with
  | some d=>∃v,wO vs (Sum.inr x:Key)=some v/\Rep K H d v
  | none=>wO vs (Sum.inr x:Key)=none
 | [],_,x,h=>by cases (show _=[] from h);rfl
 | p::r,_,x,h=>by
  obtain⟨v,t,e,q,w⟩:=h
  subst e
  have ih:=xD.at (x:=x) w
  unfold Lh
  by_cases hx:p.1=x
  ·rw[if_pos hx]
   exact⟨v,vX (by rw[hx]),q⟩
  ·rw[if_neg hx]
   have n:wO (((Sum.inr p.1:Key),v)::t) (Sum.inr x)=wO t (Sum.inr x):=vv fun z=>hx (Sum.inr.inj z)
   rw[n]
   exact ih
end
def Qe(P:Program)(w:World)(K:W.Frag)(g:R->List (Str×D)->OD):TE:=fun σ H Q=>∃ ρ τ a ds xs d,uv K H ρ (some (.ref a)::τ) σ/\H a=some (OC P w a xs)/\xD K H ds xs/\g ρ ds=some d/\∀v H',l3 H H'->Rep K H' d v->Q v H'
def KE(X:Cx)(e:Expr)(g:R->List (Str×D)->OD):Prop:=PE X e (Qe X.prog X.w X.K g)
section
variable{X:Cx}{st:Stmt}{sts:List Stmt}{u:R->Option Out}{w:R->List (Str×D)->Option Out}{pos:Pos}{e:Expr}{es:List Expr}{f:R->OD}{F:R->Option LD}
end
section
variable{X:Cx}{sts:List Stmt}{w:R->List (Str×D)->Option Out}{pos:Pos}{f:R->OD}
end
variable{X:Cx}
end HW
namespace HW
noncomputable def vF(σ:List Int)(k:Int):List Int:=if σ.any (·==k) then σ else σ++[k]
def AI(xs:List Int):List Int:=xs.foldl vF []
def G7(x:Int):List Int->List Int
 | []=>[x]
 | y::r=>if x<=y then x::y::r else y::G7 x r
def w9:List Int->List Int
 | []=>[]
 | x::r=>G7 x (w9 r)
def intsOf:LD->Option (List Int)
 | []=>some []
 | .int i::r=>(intsOf r).map (i::·)
 | _::_=>none
def Og:LD->OD
 | [.lst ds]=>(intsOf ds).bind fun ns=>if ns.length<=4 then some (.lst ((w9 (AI ns)).map .int)) else none
 | _=>none
def FF:D->D->OD
 | .tup [x],.int k=>if k=0 then some (.tup []) else if k=1 then some (.tup [x]) else none
 | _,_=>none
theorem z9(x:Int):∀l:List Int,(G7 x l).Perm (x::l)
 | []=>.refl _
 | y::r=>by
  unfold G7
  split
  ·exact .refl _
  ·exact((z9 x r).cons y).trans (.swap _ _ _)
theorem vL:∀l:List Int,(w9 l).Perm l
 | []=>.refl _
 | x::r=>(z9 x _).trans ((vL r).cons x)
theorem A5(x:Int):∀l:List Int,l.Pairwise (·<=·)->(G7 x l).Pairwise (·<=·)
 | [],_=>List.pairwise_singleton _ _
 | y::r,h=>by
  unfold G7
  have h1:∀{z},z∈r->y<=z:=fun hz=>List.rel_of_pairwise_cons h hz
  split
  ·rename_i hx
   refine List.Pairwise.cons (fun z hz=>?_) h
   rcases List.mem_cons.mp hz with e | e
   ·rw[e];exact hx
   ·exact Int.le_trans hx (h1 e)
  ·rename_i hx
   refine List.Pairwise.cons (fun z hz=>?_) (A5 x r h.of_cons)
   rcases List.mem_cons.mp ((z9 x r).mem_iff.mp hz) with e | e
   ·rw[e];omega
   ·exact h1 e
theorem yb:∀l:List Int,(w9 l).Pairwise (·<=·)
 | []=>.nil
 | x::r=>A5 x _ (yb r)
theorem qI{ns ns':List Int}(hp:ns'.Perm ns)(hs:ns'.Pairwise (·<=·)):ns'=w9 ns:=
 List.Perm.eq_of_pairwise (fun _ _ _ _ a b=>Int.le_antisymm a b) hs (yb ns) (hp.trans (vL ns).symm)
theorem zN:∀(xs σ:List Int),(xs.foldl vF σ).length<=σ.length+xs.length
 | [],σ=>Nat.le_refl _
 | x::r,σ=>by
  refine Nat.le_trans (zN r (vF σ x)) ?_
  have:(vF σ x).length<=σ.length+1:=by
   unfold vF
   split
   ·omega
   ·simp
  rw[List.length_cons];omega
def wX(i:Nat)(s:R->Option Bool)(f:R->Option LD)(w:R->LD->Option Out):R->LD->Option Out:=fun ρ ds=>(s ρ).bind fun b =>
 if b then (f ρ).bind fun es=>if ρ.length=i/\es.length<=1000 then w ρ es else none else w ρ ds
end HW
namespace HW
end HW
namespace HW
def A7:LD->OD
 | [.str x,.str y]=>match PySem.Builtin.Str.occurrences x y 0 x.length 1 with
  | i::_=>some (.int (i:Int))
  | []=>none
 | _=>none
end HW
namespace HW
open PySem
inductive MO where
 | nx (ρ:R)
 | rt (d:D) (ρ:R)
abbrev MU:=List Nat->R->Option MO
def tJ(u:R->Option Out):MU:=fun _ ρ=>(u ρ).bind fun o=>match o with
 | .nx ρ2=>some (.nx ρ2)
 | .rt d=>some (.rt d ρ)
 | _=>none
def uc:MU:=fun _ ρ=>some (.nx ρ)
def tE(u w:MU):MU:=fun S ρ=>(u S ρ).bind fun o=>match o with
 | .nx ρ2=>w S ρ2
 | o=>some o
def xW(c:R->Option Bool)(u w:MU):MU:=fun S ρ=>(c ρ).bind fun b=>if b then u S ρ else w S ρ
noncomputable def CY(st:D->R->Option R)(u:MU)(S:List Nat):LD->R->Option MO
 | [],ρ=>some (.nx ρ)
 | d::ds,ρ=>(st d ρ).bind fun ρ1=>(u S ρ1).bind fun o=>match o with
  | .nx ρ2=>CY st u S ds ρ2
  | o=>some o
def Hu(it:R->Option LD)(st:D->R->Option R)(u:MU):MU:=fun S ρ=>(it ρ).bind fun ds=>if m6 ds then CY st u S ds ρ else none
def uz:OD->Bool
 | some d=>t_ d
 | none=>true
def tW(i:Nat)(ρ:R):Bool:=(ρ.set i none).all uz
noncomputable def xu:D->List Nat
 | .obj _ a _ _=>[a]
 | _=>[]
def adr:D->List Nat
 | .obj _ a _ es=>a::es.flatMap xu
 | _=>[]
def Gx(S:List Nat)(as:List Nat):Bool:=as.all fun a=>S.contains a
def y4(i:Nat)(G:LD->Option (D×D))(F:R->Option LD)(S:List Nat)(ρ:R):Option (D×R):=(e9 i ρ).bind fun ob=>(F ρ).bind fun ds=>(G ds).bind fun r =>
 if AM ob=true/\tW i ρ=true/\Gx S (adr ob)=true then some (r.1,ρ.set i (some r.2)) else none
def xo(c:List Nat->R->Option (D×R)):MU:=fun S ρ=>(c S ρ).map fun r=>.nx r.2
def x_:List Str->LD->Str->OD
 | k::ks,d::ds,x=>if k=x then some d else x_ ks ds x
 | _,_,_=>none
def putD:List Str->LD->Str->D->List Str×LD
 | k::ks,d::ds,x,e=>if k=x then (k::ks,e::ds) else (k::(putD ks ds x e).1,d::(putD ks ds x e).2)
 | ks,ds,x,e=>(ks++[x],ds++[e])
def okN:D->Bool
 | .obj 0 _ _ es=>m6 es
 | d=>t_ d
def Gu(j:Nat)(ob d:D)(ρ:R):Option (D×D):=(e9 j ρ).bind fun ob'=>if AM ob'=true/\adr ob'=adr ob then some (d,ob') else none
def Fh(n N j:Nat)(g:MU):LD->Option (D×D):=fun ds=>if ds.length=n then (ds[j]?).bind fun ob=>if AM ob=true then (g (adr ob) (Cp N ds)).bind fun o=>match o with
 | .nx ρ=>Gu j ob .non ρ
 | .rt d ρ=>Gu j ob d ρ
 else none else none
def B0:D->Nat
 | .obj _ a _ _=>a
 | _=>0
def Pj(A:List Nat):OD->Bool
 | some (.obj _ a _ es)=>(a::es.flatMap xu).all (fun x=>!A.contains x)&&es.all okN
 | some d=>t_ d
 | none=>true
mutual
def nof:D->Bool
 | .tup xs=>nofs xs
 | .lst xs=>nofs xs
 | .fro _=>false
 | .obj ..=>false
 | _=>true
def nofs:LD->Bool
 | []=>true
 | x::xs=>nof x&&nofs xs
end
end HW
namespace HW
open PySem PySem.SetTable
theorem Ho(xs:Array Nat)(j:Nat)(H:∀a b,a<b->b<xs.size->xs.getD a 0<xs.getD b 0):∀fuel lo hi,hi - lo<=fuel->lo<=hi->hi<=xs.size ->
  (∀i,i<lo->xs.getD i 0<j)->(∀i,hi<=i->i<xs.size->j<=xs.getD i 0) ->
  below.go xs j fuel lo hi<=xs.size/\(∀i,i<below.go xs j fuel lo hi->xs.getD i 0<j)/\(∀i,below.go xs j fuel lo hi<=i->i<xs.size->j<=xs.getD i 0):=by
 intro fuel
 induction fuel with
 | zero =>
  intro lo hi h1 h2 h3 h4 h5
  have:lo=hi:=by omega
  subst this
  exact⟨h3,h4,h5⟩
 | succ fuel ih =>
  intro lo hi h1 h2 h3 h4 h5
  unfold below.go
  by_cases hlt:lo<hi
  ·rw[if_pos hlt]
   have hm:(lo+hi) / 2<xs.size:=by omega
   have e:xs.getD ((lo+hi) / 2) j=xs.getD ((lo+hi) / 2) 0:=by simp[Array.getD,hm]
   show(if xs.getD ((lo+hi) / 2) j<j then _ else _:Nat)<=_/\_
   dsimp only
   rw[e]
   by_cases hc:xs.getD ((lo+hi) / 2) 0<j
   ·rw[if_pos hc]
    refine ih _ _ (by omega) (by omega) h3 (fun i hi'=>?_) h5
    by_cases he:i=(lo+hi) / 2
    ·subst he;exact hc
    ·exact Nat.lt_trans (H i _ (by omega) hm) hc
   ·rw[if_neg hc]
    refine ih _ _ (by omega) (by omega) (by omega) h4 (fun i hi' hs=>?_)
    by_cases he:i=(lo+hi) / 2
    ·subst he;omega
    ·have:=H _ i (by omega:(lo+hi) / 2<i) hs;omega
  ·rw[if_neg hlt]
   have:lo=hi:=by omega
   subst this
   exact⟨h3,h4,h5⟩
def Li(xs:Array Nat):Prop:=∀a b,a<b->b<xs.size->xs.getD a 0<xs.getD b 0
theorem xE{xs:Array Nat}(H:Li xs)(j:Nat):below xs j<=xs.size/\(∀i,i<below xs j->xs.getD i 0<j)/\(∀i,below xs j<=i->i<xs.size->j<=xs.getD i 0):=
 Ho xs j H xs.size 0 xs.size (by omega) (by omega) (by omega) (fun i h=>by omega) (fun i h h'=>by omega)
theorem JF{xs:Array Nat}(H:Li xs):below xs 0=0:=by
 obtain⟨a,b,c⟩:=xE H 0
 rcases Nat.eq_zero_or_pos (below xs 0) with h | h
 ·exact h
 ·have:=b 0 h;omega
theorem JB{xs:Array Nat}(H:Li xs){i:Nat}(hi:i<xs.size):below xs (xs.getD i 0+1)=i+1:=by
 obtain⟨a,b,c⟩:=xE H (xs.getD i 0+1)
 generalize below xs (xs.getD i 0+1)=r at *
 rcases Nat.lt_or_ge i r with h | h
 ·rcases Nat.lt_or_ge (i+1) r with h' | h'
  ·have h1:=b (i+1) h'
   have h2:=H i (i+1) (by omega) (by omega)
   omega
  ·omega
 ·have:=c i h hi;omega
theorem zv{α:Type}(xs:Array α)(p:Nat)(x:α):(insertAt xs p x).toList=xs.toList.take p++x::xs.toList.drop p:=by
 simp[SetTable.insertAt,List.extract_eq_take_drop,List.take_of_length_le]
theorem getD_list{α:Type}(xs:Array α)(i:Nat)(d:α):xs.getD i d=xs.toList[i]?.getD d:=by simp
theorem C8{α:Type}(xs:Array α){p i:Nat}(x d:α)(hp:p<=xs.size)(h:i<p):(insertAt xs p x).getD i d=xs.getD i d:=by
 rw[getD_list,getD_list,zv,List.getElem?_append_left (by rw[List.length_take_of_le (by simpa using hp)];exact h),List.getElem?_take_of_lt h]
theorem HV{α:Type}(xs:Array α){p:Nat}(x d:α)(hp:p<=xs.size):(insertAt xs p x).getD p d=x:=by
 have e:(xs.toList.take p).length=p:=List.length_take_of_le (by simpa using hp)
 rw[getD_list,zv,List.getElem?_append_right (by rw[e];exact Nat.le_refl _),e,Nat.sub_self];rfl
theorem HM{α:Type}(xs:Array α){p i:Nat}(x d:α)(hp:p<=xs.size)(h:p<=i):(insertAt xs p x).getD (i+1) d=xs.getD i d:=by
 have e:(xs.toList.take p).length=p:=List.length_take_of_le (by simpa using hp)
 rw[getD_list,getD_list,zv,List.getElem?_append_right (by rw[e];exact Nat.le_succ_of_le h),e,Nat.succ_sub h,List.getElem?_cons_succ,List.getElem?_drop,Nat.add_sub_cancel' h]
theorem vR{α:Type}(xs:Array α)(p:Nat)(x:α)(hp:p<=xs.size):(insertAt xs p x).size=xs.size+1:=by
 rw[<- Array.length_toList,zv,List.length_append,List.length_cons,<- Nat.add_assoc,<- List.length_append,List.take_append_drop,Array.length_toList]
theorem EO{xs:Array Nat}(H:Li xs){j:Nat}(hj:(xs[below xs j]?==some j)=false):Li (insertAt xs (below xs j) j):=by
 obtain⟨a,b,c⟩:=xE H j
 have hne:below xs j<xs.size->xs.getD (below xs j) 0≠j:=fun h e=>by
  rw[Array.getElem?_eq_getElem h] at hj
  simp[Array.getD,h] at e
  simp[e] at hj
 generalize below xs j=r at *
 intro u v huv hv
 rw[vR _ _ _ a] at hv
 rcases Nat.lt_trichotomy v r with h2 | h2 | h2
 ·rw[C8 _ _ _ a h2,C8 _ _ _ a (Nat.lt_trans huv h2)]
  exact H u v huv (Nat.lt_of_lt_of_le h2 a)
 ·subst h2
  rw[HV _ _ _ a,C8 _ _ _ a huv]
  exact b u huv
 ·obtain⟨w,rfl⟩:∃w,v=w+1:=⟨v - 1,(Nat.succ_pred_eq_of_pos (Nat.lt_of_le_of_lt (Nat.zero_le _) h2)).symm⟩
  have hw:w<xs.size:=Nat.lt_of_succ_lt_succ hv
  have hrw:r<=w:=Nat.le_of_lt_succ h2
  have hjw:j<xs.getD w 0:=by
   rcases Nat.eq_or_lt_of_le hrw with q | q
   ·subst q
    exact Nat.lt_of_le_of_ne (c r hrw hw) (Ne.symm (hne hw))
   ·exact Nat.lt_of_le_of_lt (c r (Nat.le_refl _) (Nat.lt_trans q hw)) (H r w q hw)
  rw[HM _ _ _ a hrw]
  rcases Nat.lt_trichotomy u r with h1 | h1 | h1
  ·rw[C8 _ _ _ a h1]
   exact Nat.lt_trans (b u h1) hjw
  ·subst h1
   rw[HV _ _ _ a]
   exact hjw
  ·obtain⟨z,rfl⟩:∃z,u=z+1:=⟨u - 1,(Nat.succ_pred_eq_of_pos (Nat.lt_of_le_of_lt (Nat.zero_le _) h1)).symm⟩
   rw[HM _ _ _ a (Nat.le_of_lt_succ h1)]
   exact H z w (Nat.lt_of_succ_lt_succ huv) hw
theorem gap{xs:Array Nat}(H:Li xs)(hs:xs.size<=7):∃j,j<8/\∀i:Nat,xs[i]?≠some j:=by
 refine Classical.byContradiction fun hn=>?_
 have hall:∀j,j<8->∃i,i<xs.size/\xs.getD i 0=j:=fun j hj=>by
  refine Classical.byContradiction fun h=>hn ⟨j,hj,fun i e=>h ⟨i,?_⟩⟩
  have:i<xs.size:=by
   rcases Nat.lt_or_ge i xs.size with h | h
   ·exact h
   ·rw[Array.getElem?_eq_none h] at e;cases e
  exact⟨this,by simp[e]⟩
 have hge:∀i,i<xs.size->i<=xs.getD i 0:=fun i=>by
  induction i with
  | zero=>intro _;omega
  | succ i ih=>intro h;have:=ih (by omega);have:=H i (i+1) (by omega) h;omega
 have hle:∀j,j<8->j<xs.size/\xs.getD j 0=j:=fun j=>by
  induction j with
  | zero =>
   intro _
   obtain⟨i,h1,h2⟩:=hall 0 (by omega)
   have:=hge i h1
   have:i=0:=by omega
   subst this;exact⟨h1,h2⟩
  | succ j ih =>
   intro hj
   obtain⟨h1,h2⟩:=ih (by omega)
   obtain⟨i,h3,h4⟩:=hall (j+1) hj
   have h5:=hge i h3
   have h6:j<i:=by
    rcases Nat.lt_trichotomy i j with h | h | h
    ·have:=H i j h h1;omega
    ·subst h;omega
    ·exact h
   have:i=j+1:=by omega
   subst this;exact⟨h3,h4⟩
 have:=hle 7 (by omega)
 omega
structure TI (t:SetTable) (n:Nat):Prop where
 mask:t.mask=7
 dum:t.dummies=#[]
 plain:t.plain=true
 ris:Li t.place
 size:t.place.size=n
theorem slot_of{t:SetTable}(hd:t.dummies=#[])(j:Nat):t.slot j=if (t.place[below t.place j]?==some j)=true then .live (below t.place j) else .empty:=by
 unfold SetTable.slot
 dsimp only
 rw[hd]
 by_cases h:(t.place[below t.place j]?==some j)=true
 ·rw[if_pos h,if_pos h]
 ·rw[if_neg h,if_neg h];rfl
def way(i pt:Nat):Nat->Nat×Nat
 | 0=>(i,pt)
 | k+1=>way ((i*5+1+pt / 32)%8) (pt / 32) k
theorem Kg(k:Nat):∀i pt m,way i pt (k+m)=way (way i pt k).1 (way i pt k).2 m:=by
 induction k with
 | zero=>intro i pt m;rw[Nat.zero_add];rfl
 | succ k ih=>intro i pt m;rw[Nat.succ_add];exact ih _ _ _
theorem Hz:∀k i pt,i<8->(way i pt k).1<8
 | 0,_,_,h=>h
 | k+1,i,pt,_=>Hz k _ _ (Nat.mod_lt _ (by decide))
theorem Ig:∀k i pt,pt<32 ^ k->(way i pt k).2=0
 | 0,_,pt,h=>by simp at h;exact h
 | k+1,i,pt,h=>Ig k _ _ (by rw[Nat.pow_succ] at h;exact Nat.div_lt_of_lt_mul (by omega))
theorem JN:∀i,i<8->∀j,j<8->∃k,k<8/\(way i 0 k).1=j:=by decide
theorem GM(i pt j:Nat)(hi:i<8)(hp:pt<2 ^ 64)(hj:j<8):∃k,k<21/\(way i pt k).1=j:=by
 have h1:=Ig 13 i pt (Nat.lt_of_lt_of_le hp (by decide))
 obtain⟨k,hk,e⟩:=JN (way i pt 13).1 (Hz 13 _ _ hi) j hj
 refine⟨13+k,by omega,?_⟩
 rw[Kg,h1];exact e
theorem P0{t:SetTable}(hm:t.mask=7)(i pt:Nat):t.advance ⟨i,0,i,pt,none⟩=⟨(i*5+1+pt / 32)%8,0,(i*5+1+pt / 32)%8,pt / 32,none⟩:=by
 unfold advance leap runEnd
 rw[hm]
 simp only[gt_iff_lt,Nat.lt_irrefl,if_false]
 have:¬ ((i*5+1+pt / 32)%(7+1)+9<=7):=by omega
 rw[if_neg this,Nat.sub_self]
theorem HA{t:SetTable}{n:Nat}(T:TI t n)(h:Int):∀k fuel i pt,k<fuel->(t.place[below t.place (way i pt k).1]?==some (way i pt k).1)=false ->
  ∃j,(t.place[below t.place j]?==some j)=false/\probe.go t (fun _=>h+1) h fuel ⟨i,0,i,pt,none⟩=some (.empty j none):=by
 intro k
 induction k with
 | zero =>
  intro fuel i pt hf he
  obtain⟨f,rfl⟩:∃f,fuel=f+1:=⟨fuel - 1,by omega⟩
  have he':(t.place[below t.place i]?==some i)=false:=he
  refine⟨i,he',?_⟩
  unfold probe.go
  show(match t.slot i with | .empty=>_ | .dummy=>_ | .live _=>_)=_
  rw[slot_of T.dum,he']
  rfl
 | succ k ih =>
  intro fuel i pt hf he
  obtain⟨f,rfl⟩:∃f,fuel=f+1:=⟨fuel - 1,by omega⟩
  cases hc:(t.place[below t.place i]?==some i) with
  | false =>
   refine⟨i,hc,?_⟩
   unfold probe.go
   show(match t.slot i with | .empty=>_ | .dummy=>_ | .live _=>_)=_
   rw[slot_of T.dum,hc]
   rfl
  | true =>
   obtain⟨j,h1,h2⟩:=ih f ((i*5+1+pt / 32)%8) (pt / 32) (by omega) he
   refine⟨j,h1,?_⟩
   unfold probe.go
   show(match t.slot i with | .empty=>_ | .dummy=>_ | .live _=>_)=_
   rw[slot_of T.dum,hc,if_pos rfl]
   show(if (h+1==h)=true then _ else _)=_
   rw[if_neg (by simp;omega),P0 T.mask]
   exact h2
theorem JI{t:SetTable}{n:Nat}(T:TI t n)(hn:n<=7)(h:Int):∃j,(t.place[below t.place j]?==some j)=false/\t.freeSlot h=some (j,false):=by
 obtain⟨g,hg,hgap⟩:=gap T.ris (by rw[T.size];exact hn)
 have hb:bits h<2 ^ 64:=by
  unfold bits
  have h1:=Int.emod_lt_of_pos h (show(0:Int)<2 ^ 64 by decide)
  have h2:=Int.emod_nonneg h (show(2 ^ 64:Int)≠0 by decide)
  omega
 have hi:bits h%8<8:=Nat.mod_lt _ (by decide)
 obtain⟨k,hk,e⟩:=GM (bits h%8) (bits h) g hi hb hg
 have he:(t.place[below t.place (way (bits h%8) (bits h) k).1]?==some (way (bits h%8) (bits h) k).1)=false:=by
  rw[e];simpa using hgap _
 obtain⟨j,h1,h2⟩:=HA T h k (10*turns t.mask) (bits h%8) (bits h) (by rw[T.mask];unfold turns;omega) he
 refine⟨j,h1,?_⟩
 unfold SetTable.freeSlot
 have hs:t.probeStart h=⟨bits h%8,0,bits h%8,bits h,none⟩:=by
  unfold probeStart runEnd
  rw[T.mask]
  have:¬ (bits h%(7+1)+9<=7):=by omega
  dsimp only
  rw[if_neg this,Nat.sub_self]
 rw[hs]
 unfold SetTable.probe
 rw[h2]
 rfl
theorem Du{t:SetTable}{es:Array (Int×Value)}(T:TI t es.size)(hn:es.size<=6)(h:Int)(x:Value) :
  ∃p t',p<=es.size/\layNew t es h x=(insertAt es p (h,x),t',false,false)/\TI t' (insertAt es p (h,x)).size/\t'.led=t.led/\t'.fits (insertAt es p (h,x)).size=true:=by
 obtain⟨j,h1,h2⟩:=JI T (by omega) h
 have hp:below t.place j<=es.size:=by rw[<- T.size];exact(xE T.ris j).1
 have hsz:(insertAt t.place (below t.place j) j).size=es.size+1:=by rw[vR _ _ _ (by rw[T.size];exact hp),T.size]
 have hse:(insertAt es (below t.place j) (h,x)).size=es.size+1:=vR _ _ _ hp
 have hput:t.put j=({t with place:=insertAt t.place (below t.place j) j,dummies:=#[]},below t.place j):=by
  unfold SetTable.put
  rw[T.dum]
  rfl
 have hfit:({t with place:=insertAt t.place (below t.place j) j,dummies:=#[]}:SetTable).fits (es.size+1)=true:=by
  unfold SetTable.fits SetTable.fill
  simp[hsz,T.mask];omega
 refine⟨below t.place j,{t with place:=insertAt t.place (below t.place j) j,dummies:=#[]},hp,?_,⟨T.mask,rfl,T.plain,EO T.ris h1,by rw[hse];exact hsz⟩,rfl,by rw[hse];exact hfit⟩
 unfold layNew
 rw[h2]
 dsimp only
 rw[hput]
 dsimp only
 rw[hse]
 unfold SetTable.orStandIn
 rw[hfit]
 rfl
theorem Kd{t:SetTable}{n:Nat}(T:TI t n)(hn:n<=4):t.tooFull=false:=by
 unfold SetTable.tooFull SetTable.fill
 rw[T.mask,T.dum,T.size]
 simp;omega
theorem TI.fits{t:SetTable}{n:Nat}(T:TI t n)(hn:n<=7):t.fits n=true:=by
 unfold SetTable.fits SetTable.fill
 rw[T.mask,T.dum,T.size]
 simp;omega
theorem TI.fresh(led:Bool):TI (.fresh 0 0 led) 0:=⟨rfl,rfl,rfl,fun a b h hb=>absurd hb (by simp[SetTable.fresh]),rfl⟩
theorem Bg{α:Type}:∀(l:List α) (i:Nat) (x:α),l[i]?=some x->(x::l.eraseIdx i).Perm l
 | [],i,x,h=>by simp at h
 | a::l,0,x,h=>by simp at h;subst h;exact .refl _
 | a::l,i+1,x,h=>by
  simp only[List.getElem?_cons_succ] at h
  simp only[List.eraseIdx_cons_succ]
  exact(List.Perm.swap _ _ _).trans ((Bg l i x h).cons a)
theorem Gp{α:Type}(next:Nat->Nat):∀(fuel k:Nat) (left:List α) (out:Array α),left.length=fuel->(pickOrder.go next fuel k left out).toList.Perm (out.toList++left)
 | 0,k,left,out,h=>by
  have:left=[]:=List.eq_nil_of_length_eq_zero h
  subst this;rw[List.append_nil];exact .refl _
 | fuel+1,k,left,out,h=>by
  unfold pickOrder.go
  have hlt:next k%left.length<left.length:=Nat.mod_lt _ (by omega)
  rw[List.getElem?_eq_getElem hlt]
  dsimp only
  refine(Gp next fuel (k+1) _ _ (by rw[List.length_eraseIdx_of_lt hlt];omega)).trans ?_
  rw[Array.toList_push,List.append_assoc]
  exact(Bg left _ _ (List.getElem?_eq_getElem hlt)).append_left _
theorem CK{α:Type}(next:Nat->Nat)(xs:Array α):(pickOrder next xs).toList.Perm xs.toList:=by
 unfold pickOrder
 exact Gp next xs.size 0 xs.toList #[] (by simp)
theorem G2{α:Type}(next:Nat->Nat)(xs:Array α):(pickOrder next xs).size=xs.size:=by
 rw[<- Array.length_toList,(CK next xs).length_eq,Array.length_toList]
end HW
namespace HW
open PySem
def Mi:Value->Int
 | .int n _=>n
 | _=>0
def yf(b:Bool)(h:Heap)(S:Addr)(ks:List Int):Prop:=
 ∃o es ep t,h.get? S=some o/\o.ExactSet/\o.data=.set es ep t/\(∀e∈es.toList,∃k tk,e=(hashInt k,Value.int k tk))/\TI t es.size/\t.led=b/\(es.toList.map fun e=>Mi e.2).Perm ks
theorem yf.at{b:Bool}{h h':Heap}{S:Addr}{ks:List Int}(x:yf b h S ks)(e:∀o,h.get? S=some o->h'.get? S=some o):yf b h' S ks:=let ⟨o,es,ep,t,ho,r⟩:=x;⟨o,es,ep,t,e _ ho,r⟩
theorem Em(k:Int):∀l:List (Int×Value),(∀e∈l,∃k tk,e=(hashInt k,Value.int k tk))->(l.findIdx? fun e=>Value.isInt k e.2).isSome=(l.map fun e=>Mi e.2).any (·==k)
 | [],_=>rfl
 | e::l,h=>by
  obtain⟨k',tk,rfl⟩:=h e (.head _)
  rw[List.findIdx?_cons,List.map_cons,List.any_cons]
  have e1:Value.isInt k (Value.int k' tk)=(k'==k):=by
   unfold Value.isInt
   simp[BEq.comm]
  show(if Value.isInt k (Value.int k' tk)=true then some 0 else _).isSome=((k'==k)||_)
  rw[e1]
  cases (k'==k) with
  | true=>rfl
  | false =>
   rw[if_neg Bool.false_ne_true,Option.isSome_map,Bool.false_or]
   exact Em k l fun e he=>h e (.tail _ he)
theorem HU{l l':List Int}(p:l.Perm l')(k:Int):l.any (·==k)=l'.any (·==k):=p.any_eq
section
variable{prog:Program}{w:World}{A:Around}{E:Value->Shared->Prop}{s:Shared}
theorem GA{b:Bool}{S:Addr}{ks:List Int}{k:Int}{tk:Tok}{Q:Bool->Shared->Prop}(hS:yf b s.heap S ks)(hn:ks.length<=3)
  (h:∀r h',Heap.SameBut S s.heap h'->yf b h' S (vF ks k)->Q r {s with heap:=h' }) :
  wpAny (model prog w) A (setAddHashed S (.int k tk) ((intKind prog w).hash k)) Q E s:=by
 obtain⟨o,es,ep,t,ho,hex,hd,hel,hT,hled,hp⟩:=hS
 have hlen:es.size=ks.length:=by rw[<- hp.length_eq,List.length_map,Array.length_toList]
 have hf:t.fits es.size=true:=hT.fits (by omega)
 have hkey:=intKind_is prog w k tk
 have hE:ElemsOf (intKind prog w) es.toList:=fun e he=>by
  obtain⟨k',tk',rfl⟩:=hel e he
  exact⟨⟨k',intKind_is prog w k' tk',rfl⟩,rfl⟩
 have hb:es.size<scanBound:=by unfold scanBound;omega
 unfold setAddHashed setAddHashedIn
 refine wpAny_holding (wpAny_bind (wpAny_setState_of ho hd hf ?_))
 dsimp only
 rw[byScan_of (knd:=intKind prog w) rfl hb hE]
 simp only[↓reduceIte]
 unfold setAddByScan
 refine wpAny_bind ?_
 refine wpAny_bind (wpAny_rule ?_)
 refine wpAny_bind (wpAny_setScan_of hkey ho hd hf hE ?_)
 have hany:=Em k es.toList hel
 rw[HU hp] at hany
 cases hr:List.findIdx? (fun e=>(intKind prog w).is k e.2) es.toList with
 | some j =>
  dsimp only
  have hr':(List.findIdx? (fun e=>Value.isInt k e.2) es.toList)=some j:=hr
  rw[hr'] at hany
  have hst:vF ks k=ks:=by unfold vF;rw[<- hany];rfl
  refine wpAny_pure (wpAny_pure ?_)
  exact h false s.heap (Heap.SameBut.refl S s.heap) ⟨o,es,ep,t,ho,hex,hd,hel,hT,hled,by rw[hst];exact hp⟩
 | none =>
  dsimp only
  have hr':(List.findIdx? (fun e=>Value.isInt k e.2) es.toList)=none:=hr
  rw[hr'] at hany
  have hst:vF ks k=ks++[k]:=by unfold vF;rw[<- hany];rfl
  obtain⟨p,t',hpl,hL,hT',hled',hf'⟩:=Du hT (by omega) ((intKind prog w).hash k) (.int k tk)
  have hperm:=SetTable.insertAt_perm es p ((intKind prog w).hash k,Value.int k tk)
  have hsz:(SetTable.insertAt es p ((intKind prog w).hash k,Value.int k tk)).size=es.size+1:=vR _ _ _ hpl
  rw[hL]
  generalize SetTable.insertAt es p ((intKind prog w).hash k,Value.int k tk)=es' at *
  dsimp only
  refine wpAny_bind (wpAny_of_eq (a:=()) rfl ?_)
  rw[if_pos hT'.plain]
  refine wpAny_bind ?_
  rw[hashByValue_scannable 8 (x:=Value.int k tk) rfl]
  refine wpAny_pure ?_
  show wpAny _ _ (storeSet S es' t' >>= fun _=>_) _ _ _
  refine wpAny_bind (wpAny_storeSet_of ho hd ?_ (by rw[sizeLine_eq];omega))
  show wpAny _ _ (if (!false&&t'.tooFull)=true then _ else _) _ _ _
  rw[Kd hT' (by omega)]
  refine wpAny_pure (wpAny_pure ?_)
  have hg:(s.heap.update S (Obj.putSet es' t')).get? S=some {o with data:=.set es' (ep+1) t' }:=by
   have:=Heap.get?_update_self (Obj.putSet es' t') ho (by rw[putSet_of es' t' hd];rfl)
   rw[putSet_of es' t' hd] at this;exact this
  refine h true _ (Heap.SameBut.update s.heap S (Obj.putSet es' t')) ⟨_,es',ep+1,t',hg,hex,rfl,fun e he=>?_,hT',hled'.trans hled,?_⟩
  ·have:=hperm.mem_iff.mp he
   rw[Array.toList_push] at this
   rcases List.mem_append.mp this with q | q
   ·exact hel e q
   ·exact⟨k,tk,List.mem_singleton.mp q⟩
  ·rw[hst]
   refine(hperm.map _).trans ?_
   rw[Array.toList_push,List.map_append]
   exact hp.append_right _
end
end HW
namespace HW
open PySem PySem.Spec PyProof.Rows
theorem uP:Slot "set_iterator" "__next__" "set_iterator.__next__" :=
 .of (owner:="set_iterator") (n:="__next__") (by rw[typeLookup_type,builtinLookup_eq_fast];kernel_rfl) (by decide +kernel) (by decide +kernel) (by decide +kernel)
  (by first | exact .inl (by decide +kernel) | exact .inr (by decide +kernel)) (by rw[isSubtype_type];kernel_rfl)
theorem yR:entryFor table "set_iterator.__next__" = some Builtin.«set_iterator.__next__»:=entryFor_of_tree (by kernel_rfl)
theorem zB(a:Value):argsOk "set_iterator.__next__" ⟨[a],[]⟩:=by unfold argsOk;kernel_rfl
theorem zm:Slot "set_iterator" "__iter__" "set_iterator.__iter__" :=
 .of (owner:="set_iterator") (n:="__iter__") (by rw[typeLookup_type,builtinLookup_eq_fast];kernel_rfl) (by decide +kernel) (by decide +kernel) (by decide +kernel)
  (by first | exact .inl (by decide +kernel) | exact .inr (by decide +kernel)) (by rw[isSubtype_type];kernel_rfl)
theorem BX:entryFor table "set_iterator.__iter__" = some Builtin.«dict_keyiterator.__iter__»:=
 entryFor_alias (id':="dict_keyiterator.__iter__") (by kernel_rfl) rfl (by decide +kernel) (by kernel_rfl)
theorem C_(a:Value):argsOk "set_iterator.__iter__" ⟨[a],[]⟩:=by unfold argsOk;kernel_rfl
theorem Dj:entryFor table "set.__iter__" = some Builtin.«frozenset.__iter__»:=
 entryFor_alias (id':="frozenset.__iter__") (by kernel_rfl) rfl (by decide +kernel) (by kernel_rfl)
def vS(h:Heap)(it S:Addr)(slot i n ep:Nat):Prop:=∃o,h.get? it=some o/\o.cls=.type "set_iterator" /\ o.data=.fields #[.int slot 0,.int i 0,.ref S,.int n 0,.int ep 0]
def wl(h:Heap)(S:Addr)(es:Array (Int×Value))(ep:Nat)(t:SetTable):Prop:=∃o,h.get? S=some o/\o.cls=.type "set" /\ o.data=.set es ep t
def slotAt(t:SetTable):Nat->Nat
 | 0=>0
 | i+1=>t.place.getD i 0+1
def vh(w:World):Bool:=w.params.followText "set-order"
structure za (w:World) (S:Addr) (es:Array (Int×Value)) (ep:Nat) (t:SetTable) (ord:Array (Int×Value)):Prop where
 fits:t.fits es.size=true
 size:ord.size=es.size
 txt:vh w=true->ord=pickOrder (w.params.setOrder S ep) es
 plc:vh w=false->ord=es/\t.led=true/\(!t.plain&&decide (es.size > 1))=false/\∀i,i<=es.size->SetTable.below t.place (slotAt t i)=i
theorem vS.typeIs{s:Shared}{it S slot i n ep}(x:vS s.heap it S slot i n ep):s.TypeIs (.ref it) "set_iterator":=let ⟨o,ho,hc,_⟩:=x;⟨o,ho,hc⟩
theorem wl.typeIs{s:Shared}{S es ep t}(x:wl s.heap S es ep t):s.TypeIs (.ref S) "set":=let ⟨o,ho,hc,_⟩:=x;⟨o,ho,hc⟩
theorem wl.at{h h':Heap}{S es ep t}(x:wl h S es ep t)(e:∀o,h.get? S=some o->h'.get? S=some o):wl h' S es ep t:=let ⟨o,ho,r⟩:=x;⟨o,e _ ho,r⟩
theorem vS.at{h h':Heap}{it S slot i n ep}(x:vS h it S slot i n ep)(e:∀o,h.get? it=some o->h'.get? it=some o):vS h' it S slot i n ep:=let ⟨o,ho,r⟩:=x;⟨o,e _ ho,r⟩
theorem wl.lt{h:Heap}{S es ep t}(x:wl h S es ep t):S<h.objs.size:=let ⟨_,ho,_⟩:=x;Heap.lt_size ho
section
variable{prog:Program}{w:World}{A:Around}{E:Value->Shared->Prop}{s:Shared}{S:Addr}{es ord:Array (Int×Value)}{ep:Nat}{t:SetTable}
theorem iz{Q:(Array (Int×Value)×Nat×SetTable)->Shared->Prop}(x:wl s.heap S es ep t)(hf:t.fits es.size=true)(h:Q (es,ep,t) s):wpAny (model prog w) A (setState S) Q E s:=by
 obtain⟨o,ho,hc,hd⟩:=x
 exact wpAny_setState_of ho hd hf h
theorem mq{Q:Array (Int×Value)->Shared->Prop}(x:wl s.heap S es ep t)(hf:t.fits es.size=true)(h:Q es s):wpAny (model prog w) A (setEntries S) Q E s:=by
 obtain⟨o,ho,hc,hd⟩:=x
 exact wpAny_setEntries_of ho hd hf h
theorem sH{Q:Bool->Shared->Prop}(h:Q (vh w) s):wpAny (model prog w) A setsByText Q E s:=by
 unfold setsByText
 exact wpAny_bind (wpAny_askSetting (wpAny_pure h))
theorem rY{Q:Value->Shared->Prop}(x:wl s.heap S es ep t)(hO:za w S es ep t ord)
  (h:Q (.ref s.heap.objs.size) {s with heap:=s.heap.push {cls:=.type "set_iterator",data:=.fields #[.int 0 0,.int 0 0,.ref S,.int es.size 0,.int ep 0]} }):wpAny (model prog w) A (pyIter (.ref S)) Q E s:=by
 refine wpAny_pyIter_slot x.typeIs F.slot_set_iter (wpAny_call_entry F.slot_set_iter x.typeIs Dj ?_ (F.args_set_iter_1 _))
 unfold Builtin.«frozenset.__iter__»
 refine wpAny_bind (m:=Builtin.Frozenset.slot0 "__iter__" ⟨[.ref S],[]⟩) (wpAny_of_eq (a:=S) rfl ?_)
 refine wpAny_bind ?_
 unfold Builtin.Frozenset.sizeOf
 refine wpAny_bind (mq x hO.fits (wpAny_pure ?_))
 refine wpAny_bind ?_
 have hd:∀{Q':Bool->Shared->Prop},Q' false s->wpAny (model prog w) A.in1 (setDrawn S) Q' E s:=fun hq=>by
  unfold setDrawn
  refine wpAny_bind (iz x hO.fits (wpAny_bind (sH (wpAny_pure ?_))))
  have z:(!vh w&&(!t.plain&&decide (es.size > 1)))=false:=by
   cases hb:vh w with
   | true=>rfl
   | false=>rw[(hO.plc hb).2.2.1];rfl
  show _
  exact z ▸ hq
 refine hd ?_
 dsimp only
 rw[if_neg Bool.false_ne_true]
 refine wpAny_bind (wpAny_pure ?_)
 refine wpAny_bind ?_
 unfold setEpoch
 refine wpAny_bind (iz x hO.fits (wpAny_pure ?_))
 refine wpAny_bind (wpAny_newObj_type (wpAny_pure ⟨_,rfl,"set_iterator",_,⟨_,Heap.get?_push_size _ rfl,rfl⟩,uP.lookup,?_⟩))
 exact h
def nextOf(ord:Array (Int×Value))(i nx:Nat):Option (Value×Nat):=(ord[i]?).map fun e=>(e.2,nx)
theorem jN{slot i:Nat}{Q:Option (Value×Nat)->Shared->Prop}(x:wl s.heap S es ep t)(hO:za w S es ep t ord)(hs:vh w=false->slot=slotAt t i)(hi:i<=es.size)
  (h:∀nx,(vh w=false->nx=slotAt t (i+1))->Q (nextOf ord i nx) s):wpAny (model prog w) A (setNext S slot i ep) Q E s:=by
 unfold setNext
 refine wpAny_bind (iz x hO.fits ?_)
 dsimp only
 refine wpAny_bind (sH ?_)
 cases hb:vh w with
 | true =>
  rw[if_pos rfl,if_neg (by simp)]
  refine wpAny_bind ?_
  unfold setWalk
  refine wpAny_bind (iz x hO.fits ?_)
  dsimp only
  refine wpAny_bind (sH ?_)
  rw[hb,if_pos rfl]
  refine wpAny_bind (wpAny_askSetting (wpAny_pure (wpAny_pure ?_)))
  have:=h slot (fun z=>by rw[hb] at z;cases z)
  rw[hO.txt hb] at this
  exact this
 | false =>
  obtain⟨e1,e2,e3,e4⟩:=hO.plc hb
  rw[if_neg Bool.false_ne_true]
  show wpAny _ _ (if (!t.plain&&decide (es.size > 1))=true then _ else _) _ _ _
  rw[e3,if_neg Bool.false_ne_true]
  show wpAny _ _ ((if (!t.led&&!es.isEmpty)=true then _ else _) >>= _) _ _ _
  rw[e2,if_neg (by simp)]
  refine wpAny_bind (wpAny_pure (wpAny_pure ?_))
  rw[hs hb,e4 i hi,<- e1]
  have hp:t.place.size=es.size:=by
   have:=hO.fits
   simp only[SetTable.fits,Bool.and_eq_true,beq_iff_eq] at this
   exact this.1
  by_cases hlt:i<es.size
  ·have:=h (t.place.getD i 0+1) (fun _=>rfl)
   unfold nextOf at this
   rw[e1] at this ⊢
   have hpi:i<t.place.size:=by rw[hp];exact hlt
   rw[Array.getElem?_eq_getElem hlt,Array.getElem?_eq_getElem hpi]
   rw[Array.getElem?_eq_getElem hlt] at this
   simp only[Array.getD_eq_getD_getElem?,Array.getElem?_eq_getElem hpi,Option.getD_some,Option.map_some] at this
   exact this
  ·have:=h (slotAt t (i+1)) (fun _=>rfl)
   unfold nextOf at this
   rw[e1] at this ⊢
   rw[Array.getElem?_eq_none (Nat.le_of_not_lt hlt)] at this ⊢
   exact this
theorem sy{it:Addr}{slot i:Nat}{Q:Option Value->Shared->Prop}(hit:vS s.heap it S slot i es.size ep)(hne:S≠it)(x:wl s.heap S es ep t)(hO:za w S es ep t ord)(hs:vh w=false->slot=slotAt t i)(hi:i<ord.size)
  (hQ:∀nx h',(vh w=false->nx=slotAt t (i+1))->vS h' it S nx (i+1) es.size ep->Heap.ExtBut it s.heap h'->Q (some ord[i].2) {s with heap:=h' }):wpAny (model prog w) A (pyNext (.ref it)) Q E s:=by
 obtain⟨o,ho,hc,hd⟩:=id hit
 unfold pyNext
 refine wpAny_bind (wpAny_attempt (wpAny_callSpecial?_slot (name:=oS "__next__") hit.typeIs uP
  (wpAny_call_entry uP hit.typeIs yR ?_ (zB _))))
 unfold Builtin.«set_iterator.__next__»
 refine wpAny_bind (m:=slotArgs "__next__" 0 ⟨[.ref it],[]⟩) (wpAny_of_eq (a:=(.ref it,[])) rfl ?_)
 refine wpAny_bind (wpAny_fieldsOf ho hd ?_)
 dsimp only
 refine wpAny_bind (mq x hO.fits ?_)
 rw[if_neg (by simp)]
 have hi':i<=es.size:=by rw[<- hO.size];exact Nat.le_of_lt hi
 show wpAny _ _ (setNext S slot i ep >>= _) _ _ _
 refine wpAny_bind (jN x hO hs hi' fun nx hnx=>?_)
 rw[nextOf,Array.getElem?_eq_getElem hi]
 simp only[Option.map_some]
 refine wpAny_bind (wpAny_setField ho hd (by simp) ?_)
 generalize hH1:s.heap.update it (Obj.mapFields (·.setIfInBounds 0 (rawInt nx)))=H1
 have ho1:∃o1,H1.get? it=some o1/\o1.cls=.type "set_iterator" /\ o1.data=.fields #[.int nx 0,.int i 0,.ref S,.int es.size 0,.int ep 0]:=by
  subst hH1
  exact⟨_,Heap.get?_update_self _ ho (Obj.isFreed_of_fields (Obj.data_mapFields hd _)),(Obj.cls_mapFields ..).trans hc,by rw[Obj.data_mapFields hd];simp[rawInt]⟩
 obtain⟨o1,ho1,hc1,hd1⟩:=ho1
 refine wpAny_bind (wpAny_setField (s:={s with heap:=H1}) ho1 hd1 (by simp) ?_)
 generalize hH2:H1.update it (Obj.mapFields (·.setIfInBounds 1 (rawInt ((i:Int)+1))))=H2
 have ho2:vS H2 it S nx (i+1) es.size ep:=by
  subst hH2
  exact⟨_,Heap.get?_update_self _ ho1 (Obj.isFreed_of_fields (Obj.data_mapFields hd1 _)),(Obj.cls_mapFields ..).trans hc1,by rw[Obj.data_mapFields hd1];simp[rawInt]⟩
 have hx:Heap.ExtBut it s.heap H2:=fun b u hb e=>by
  subst hH2;subst hH1
  exact(Heap.get?_update_other _ _ (Ne.symm hb)).trans ((Heap.get?_update_other _ _ (Ne.symm hb)).trans e)
 exact wpAny_pure ⟨_,rfl,wpAny_pure (hQ nx H2 hnx ho2 hx)⟩
theorem sX{it:Addr}{slot i:Nat}{Q:Option Value->Shared->Prop}(hh:A.handled=none)(hit:vS s.heap it S slot i es.size ep)(hne:S≠it)(x:wl s.heap S es ep t)(hO:za w S es ep t ord)(hs:vh w=false->slot=slotAt t i)(hi:i=ord.size)
  (hQ:∀h',Heap.ExtBut it s.heap h'->Q none {s with heap:=h' }):wpAny (model prog w) A (pyNext (.ref it)) Q E s:=by
 obtain⟨o,ho,hc,hd⟩:=id hit
 unfold pyNext
 refine wpAny_bind (wpAny_attempt (wpAny_callSpecial?_slot (name:=oS "__next__") hit.typeIs uP
  (wpAny_call_entry uP hit.typeIs yR ?_ (zB _))))
 unfold Builtin.«set_iterator.__next__»
 refine wpAny_bind (m:=slotArgs "__next__" 0 ⟨[.ref it],[]⟩) (wpAny_of_eq (a:=(.ref it,[])) rfl ?_)
 refine wpAny_bind (wpAny_fieldsOf ho hd ?_)
 dsimp only
 refine wpAny_bind (mq x hO.fits ?_)
 rw[if_neg (by simp)]
 have hi':i<=es.size:=by rw[<- hO.size,hi];exact Nat.le_refl _
 show wpAny _ _ (setNext S slot i ep >>= _) _ _ _
 refine wpAny_bind (jN x hO hs hi' fun nx hnx=>?_)
 rw[nextOf,Array.getElem?_eq_none (by rw[hi];exact Nat.le_refl _)]
 simp only[Option.map_none]
 refine wpAny_bind (wpAny_setField ho hd (by simp) ?_)
 show wpAny _ _ (newExc (.type "StopIteration") [] >>= _) _ _ _
 refine wpAny_bind ?_
 simp only[newExc,newTuple]
 refine wpAny_bind (wpAny_newObj_type ?_ (by size_fits))
 refine wpAny_bind (m:=firstArgMember _ _) (wpAny_of_eq (a:=Value.none) (by first | rfl | (simp only[firstArgMember];rfl)) ?_)
 refine wpAny_newObj_type ?_ (by size_fits)
 simp only[raiseNew]
 refine wpAny_bind (wpAny_handled ?_)
 rw[show A.in1.handled=none from hh]
 refine wpAny_bind (wpAny_pure (wpAny_throw ?_))
 refine wpAny_bind (wpAny_isInstance (T:="StopIteration") (b:=true) ⟨_,Heap.get?_push_size _ rfl,rfl⟩ isSubtype_stop ?_)
 exact wpAny_pure (hQ _ (((Heap.SameBut.update ..).extBut.push _).push _))
theorem GV(hh:A.handled=none)(I:Addr)(hne:S≠I)(hO:za w S es ep t ord) :
  Walks prog w A I [I,S] [I] ord.size (fun i v=>∃e,ord[i]?=some e/\v=e.2) (fun i h=>(∃slot,vS h I S slot i es.size ep/\(vh w=false->slot=slotAt t i))/\wl h S es ep t) where
 sub:=fun b hb=>by simp at hb;simp[hb]
 frame:=fun _ _ _ st hk=>⟨let ⟨sl,a,b⟩:=st.1;⟨sl,a.at fun o e=>hk I (by simp) o e,b⟩,st.2.at fun o e=>hk S (by simp) o e⟩
 item:=fun i s Q E hi st hQ=>by
  obtain⟨⟨sl,a,b⟩,c⟩:=st
  refine sy a hne c hO b hi fun nx h' hnx hit' hs'=>?_
  exact hQ _ h' s.toks ⟨ord[i],by simp[hi],rfl⟩ ⟨⟨nx,hit',hnx⟩,c.at fun o e=>hs' S o hne e⟩ fun b o hb e=>hs' b o (fun h=>hb (by simp[h])) e
 done:=fun s Q E st hQ=>by
  obtain⟨⟨sl,a,b⟩,c⟩:=st
  exact sX hh a hne c hO b rfl fun h' he'=>hQ h' s.toks fun b o hb e=>he' b o (fun h=>hb (by simp[h])) e
 self:=fun _ s Q E st hQ=>by
  obtain⟨⟨sl,a,b⟩,c⟩:=st
  refine wpAny_pyIter_slot a.typeIs zm (wpAny_call_entry zm a.typeIs BX ?_ (C_ _))
  show wpAny _ _ (ret (.ref I)) _ _ s
  exact wpAny_pure ⟨_,rfl,"set_iterator",_,a.typeIs,uP.lookup,hQ⟩
theorem II{Q:Bool->Shared->Prop}(hT:s.TypeIs (.ref S) "set")(h:Q false s):wpAny (model prog w) A (Builtin.List.listLengthHint (.ref S)) Q E s:=by
 unfold Builtin.List.listLengthHint
 refine wpAny_bind (wpAny_specialOf hT PySem.F.slot_set_len.lookup ?_)
 generalize hid:("set.__len__" : String)=id0
 wp_delta
 rw[show splitId id0=some ("set","__len__") from by subst hid;decide +kernel]
 subst hid
 refine wpAny_bind (wpAny_isInstance (T:="set") (b:=true) hT (by rw[isSubtype_type];kernel_rfl) ?_)
 refine wpAny_ite_split (fun hab=>absurd hab (by decide)) (fun _=>?_)
 refine wpAny_ite_split (fun _=>?_) (fun hab=>absurd (by decide +kernel) hab)
 refine wpAny_bind (wpAny_typeOf hT ?_)
 exact wpAny_pure h
theorem rj(hO:za w S es ep t ord):W.KdlSrc prog w "set" S S ord.size (fun i v=>∃e,ord[i]?=some e/\v=e.2) (fun h=>wl h S es ep t) where
 type:=fun _ hm=>hm.typeIs
 there:=fun _ hm=>⟨hm.lt,hm.lt⟩
 keep:=fun _ _ hm hk=>hm.at fun o e=>hk S (.inl rfl) o e
 notList:=by decide
 notTuple:=by decide
 hint:=fun _ _ _ _ hm hq=>II hm.typeIs hq
 iter:=fun _ _ hh hm=>⟨_,_,(fun _ _ hq=>rY hm hO hq),GV hh _ (Nat.ne_of_lt hm.lt) hO,⟨⟨0,⟨_,Heap.get?_push_size _ rfl,rfl,rfl⟩,fun _=>rfl⟩,hm.at fun o e=>Heap.get?_push_of_some _ e⟩⟩
end
set_option maxHeartbeats 3200000
def zo(val:Nat->Int)(i:Nat):List Int:=((List.range i).map val).foldl vF []
theorem G1(val:Nat->Int)(i:Nat):zo val (i+1)=vF (zo val i) (val i):=by
 unfold zo;rw[List.range_succ,List.map_append,List.foldl_append];rfl
theorem IA(val:Nat->Int)(i:Nat):(zo val i).length<=i:=by
 have:=zN ((List.range i).map val) []
 unfold zo
 simpa using this
section
variable{prog:Program}{w:World}{A:Around}{R:Result->Shared->Prop}{I:Addr}{fp wr:List Addr}{G:Array GenState->Array GenState->Prop}{n:Nat}{P:Nat->Value->Prop}{St:Nat->Shared->Prop}
theorem pV{b:Bool}(W:WalksS prog w A.in1 I fp wr G n P St)(S:Addr)(hSf:S∉fp)
  (val:Nat->Int) (hval:∀i v,P i v->∃t,v=.int (val i) t) (hb:n<=4) :
  ∀(k i:Nat) (s:Shared),n - i=k->i<=n->St i s->yf b s.heap S (zo val i) ->
   (∀s',Moved (S::wr) G s s'->yf b s'.heap S (zo val n)->R (.ok (.ret .none)) s') ->
   codeAny (model prog w) A (.builtin "set.update.loop" ⟨[.ref S,.ref I],[]⟩) R s:=by
 have hSw:S∉wr:=fun h=>hSf (W.sub _ h)
 have hsub:∀b∈wr,b∈S::wr:=fun b hb=>List.mem_cons_of_mem _ hb
 intro k
 induction k with
 | zero =>
  intro i s hk hi hst hS hR
  have hin:i=n:=by omega
  subst hin
  refine codeAny_builtin F.entry_set_update_loop ?_
  rw[Around.under_plainId F.plain_set_update_loop _]
  show wpAny _ A.in1 (pyNext (.ref I) >>= _) _ _ s
  refine wpAny_bind (W.done s _ _ hst fun s' hm=>?_)
  show wpAny _ A.in1 (ret Value.none) _ _ s'
  exact wpAny_pure (hR s' (hm.mono hsub) (hS.at fun o ho=>hm.heap S _ hSw ho))
 | succ k ih =>
  intro i s hk hi hst hS hR
  have hlt:i<n:=by omega
  refine codeAny_builtin F.entry_set_update_loop ?_
  rw[Around.under_plainId F.plain_set_update_loop _]
  show wpAny _ A.in1 (pyNext (.ref I) >>= _) _ _ s
  refine wpAny_bind (W.item i s _ _ hlt hst fun v s' hP hst' hm=>?_)
  obtain⟨t,rfl⟩:=hval i v hP
  have hS':yf b s'.heap S (zo val i):=hS.at fun o ho=>hm.heap S _ hSw ho
  show wpAny _ A.in1 (holding [Value.int (val i) t] (setAdd S (.int (val i) t)) >>= _) _ _ s'
  refine wpAny_bind (wpAny_holding ?_)
  unfold setAdd
  refine wpAny_holding ?_
  refine wpAny_bind ((intKind prog w).pyHash (k:=val i) (intKind_is _ _ _ _) ?_)
  have hroom:(zo val i).length<=3:=by have:=IA val i;omega
  refine GA (s:={s' with toks:=s'.toks+1}) hS' hroom fun r h' hsb hS2=>?_
  have hSi:yf b h' S (zo val (i+1)):=by rw[G1];exact hS2
  refine wpAny_pure ⟨plainId_quiet F.plain_set_update_loop _,ih (i+1) _ (by omega) hlt (W.frame _ s' _ _ hst' (Nat.le_succ _) fun b hb o e=>?_) hSi fun s'' hm'' hS''=>?_⟩
  ·rw[hsb.2 b (fun h:b=S=>hSf (by rw[<- h];exact hb))];exact e
  ·refine hR s'' (Moved.trans W.gtrans ((hm.mono hsub).then_heap (Nat.le_succ _) fun b o hb e=>?_) hm'') hS''
   rw[hsb.2 b (fun h:b=S=>hb (by rw[h];exact List.mem_cons_self))];exact e
end
section
variable{prog:Program}{w:World}{A:Around}{E:Value->Shared->Prop}{s:Shared}
abbrev v8(w:World):Obj:={cls:=.type "set",dict:=none,data:=.set #[] 0 (.fresh 0 0 (!vh w))}
theorem J_(a:Value){Q₁:Value->Shared->Prop}
  (h:Q₁ (.ref s.heap.objs.size) {s with heap:=s.heap.push (v8 w)}) :
  codeAny (model prog w) A (.call (.builtin "set.__new__") ⟨[.type "set",a],[]⟩) (wants Q₁ E) s:=by
 refine codeAny_of_tree ?_
 show wpAny _ A.in1 (do checkBuiltinCall "set.__new__" ⟨[.type "set",a],[]⟩;again (.builtin "set.__new__" ⟨[.type "set",a],[]⟩)) _ _ s
 refine wpAny_bind (wpAny_of_eq (PySem.F.newCall_set_1 a) (wpAny_pure ⟨plainId_quiet PySem.F.plain_set_new _,codeAny_builtin PySem.F.entry_set_new ?_⟩))
 rw[Around.under_plainId PySem.F.plain_set_new _]
 unfold Builtin.«set.__new__» Builtin.Frozenset.newClass
 have hsub:=PySem.sub_set_self
 obtain⟨hp,g,d,tk,os⟩:=s
 dsimp only
 wp_walk
 refine wpAny_askSetting (wpAny_pure ?_)
 dsimp only
 simp only[newObj]
 refine wpAny_bind (wpAny_alloc (wpAny_pure ?_))
 exact wpAny_pure h
theorem yf.new{h:Heap}{w:World}:yf (!vh w) (h.push (v8 w)) h.objs.size []:=
 ⟨v8 w,#[],0,_,Heap.get?_push_size _ rfl,⟨rfl,rfl,rfl⟩,rfl,fun e he=>by simp at he,TI.fresh _,rfl,.refl _⟩
theorem o_ {l:Addr} {items:Array Value} {val:Nat->Int} {Q:Value->Shared->Prop}
    (hh:A.handled=none) (hl:s.heap.IsList l items) (hval:∀(i:Nat) (v:Value),items[i]?=some v->∃t,v=.int (val i) t) (hb:items.size<=4)
    (h:∀(h':Heap) (tk:Nat),yf (!vh w) h' s.heap.objs.size (zo val items.size) ->
      (∀b o,b<s.heap.objs.size->s.heap.get? b=some o->h'.get? b=some o)->Q (.ref s.heap.objs.size) {s with heap:=h',toks:=tk}) :
    wpAny (model prog w) A (call (.type "set") [.ref l]) Q E s:=by
  obtain⟨c,tl,hmro⟩:=PySem.F.called_set.mro
  have hmade:=PySem.F.called_set.made
  have hsub:=PySem.F.called_set.sub
  refine wpAny_call (codeAny_of_tree ?_)
  show wpAny _ _ (callAny (.type "set") _) _ _ _
  refine wpAny_pure ⟨Code.quiet_builtin _ (by decide +kernel),codeAny_builtin PySem.F.entry_type_call ?_⟩
  rw[Around.under_plain (weight_type_call_type "set" [.ref l] []) rfl]
  have h1:=PySem.F.called_set.notType
  have h2:=PySem.F.called_set.canCreate
  have hct:=PySem.F.typeCall_set_1 (.ref l)
  repeat (any_goals (first | assumption | wp_step))
  refine codeAny_mono (J_ (.ref l) (E:=E) (Q₁:=fun obj s₁=>obj=.ref s.heap.objs.size/\s₁={s with heap:=s.heap.push (v8 w)}) ⟨rfl,rfl⟩) fun r s₁ hr=>?_
  cases r with
  | error e=>exact hr
  | ok fl =>
    cases fl with
    | ret obj =>
      obtain⟨rfl,rfl⟩:=hr
      have hS:(s.heap.push (v8 w)).get? s.heap.objs.size=some (v8 w):=Heap.get?_push_size _ rfl
      have hT:Shared.TypeIs {s with heap:=s.heap.push (v8 w)} (.ref s.heap.objs.size) "set":=⟨_,hS,rfl⟩
      have hli:=PySem.F.called_set.init.lookup
      have hbi:=PySem.F.called_set.init.bind (.ref s.heap.objs.size)
      repeat (any_goals (first | assumption | wp_step))
      refine codeAny_mono (codeAny_call_builtin (R:=wants (fun r s₂=>r=.none/\∃ h' tk,s₂={s with heap:=h',toks:=tk} /\
          yf (!vh w) h' s.heap.objs.size (zo val items.size) /\
          (∀b o,b<s.heap.objs.size->s.heap.get? b=some o->h'.get? b=some o)) E) PySem.F.called_set.init.plain PySem.F.entry_set_init (PySem.check_set_init_1 hT ?_)) fun r₂ s₂ hr₂=>?_
      · obtain⟨ol,hol,hcl,nl,hdl⟩:=hl
        obtain⟨ocls,odict,odata,oslots⟩:=ol
        simp only at hcl hdl
        subst hcl;subst hdl
        have hol':(s.heap.push (v8 w)).get? l=some {cls:=.type "list",dict:=odict,data:=.seq items nl,slots:=oslots}:=Heap.get?_push_of_some _ hol
        have hsls:=PySem.F.sub_list_set
        have hslf:=PySem.F.sub_list_frozenset
        have hne:(Value.type "list" == Value.type "dict")=false:=by decide
        have hl1:(s.heap.push (v8 w)).IsList l items:=⟨_,hol',rfl,nl,rfl⟩
        unfold Builtin.«set.__init__» noKeywords Builtin.Frozenset.updateFrom
        generalize hPI:pyIter=PI
        wp_walk
        subst hPI
        refine wpAny_pyIter_list hl1 ?_
        refine wpAny_bind (wpAny_runValue ?_)
        have hlS:l<s.heap.objs.size:=Heap.lt_size hol
        have hh3:A.in1.in1.in1.handled=none:=by simp[hh]
        have hneI:l≠(s.heap.push (v8 w)).objs.size:=by
          rw[Heap.size_push];exact Nat.ne_of_lt (Nat.lt_succ_of_lt hlS)
        have hSf:s.heap.objs.size ∉ [(s.heap.push (v8 w)).objs.size,l]:=by
          rw[Heap.size_push];simp only[List.mem_cons,List.mem_singleton,List.not_mem_nil,or_false,not_or]
          exact⟨Nat.ne_of_lt (Nat.lt_succ_self _),Nat.ne_of_gt hlS⟩
        refine pV (b:=!vh w) ((Walks.list hh3 _ l hneI items).toS) s.heap.objs.size
          hSf val hval hb (items.size - 0) 0 _ (by omega) (Nat.zero_le _)
          ⟨⟨_,Heap.get?_push_size _ rfl,rfl,rfl⟩,(hl1.push _)⟩ ?hS0 ?hR
        case hS0=>exact yf.new.at fun o e=>Heap.get?_push_of_some _ e
        case hR =>
          intro s' hm hS'
          obtain⟨h',g',d',tk',os'⟩:=s'
          have eg:g'=s.gens:=hm.gens
          have ed:d'=s.drawn:=hm.drawn
          have eo:os'=s.os:=hm.os
          subst eg;subst ed;subst eo
          show wpAny _ _ _ _ _ _
          refine wpAny_pure ?_
          show wpAny _ _ (ret Value.none) _ _ _
          refine wpAny_pure ⟨rfl,h',tk',rfl,hS',fun b o hb e=>?_⟩
          have hb1:b≠s.heap.objs.size:=Nat.ne_of_lt hb
          have hb2:b≠(s.heap.push (v8 w)).objs.size:=by
            rw[Heap.size_push];exact Nat.ne_of_lt (Nat.lt_succ_of_lt hb)
          exact hm.heap b o (by simp only[List.mem_cons,List.mem_singleton,List.not_mem_nil,or_false,not_or];exact⟨hb1,hb2⟩) (Heap.get?_push_of_some _ (Heap.get?_push_of_some _ e))
      · cases r₂ with
        | error e=>exact hr₂
        | ok fl₂ =>
          cases fl₂ with
          | ret r =>
            obtain⟨rfl,h',tk,rfl,hS',hk'⟩:=hr₂
            repeat (any_goals (first | assumption | wp_step))
            exact h _ _ hS' hk'
          | _=>exact hr₂.elim
    | _=>exact hr.elim
theorem yf.ord{h:Heap}{S:Addr}{ks:List Int}(x:yf (!vh w) h S ks)(hn:ks.length<=4) :
  ∃es ep t ord,wl h S es ep t/\za w S es ep t ord/\(ord.toList.map fun e=>Mi e.2).Perm ks/\∀e∈ord.toList,∃k tk,e.2=Value.int k tk:=by
 obtain⟨o,es,ep,t,ho,hex,hd,hel,hT,hled,hp⟩:=x
 have hlen:es.size=ks.length:=by rw[<- hp.length_eq,List.length_map,Array.length_toList]
 have hf:t.fits es.size=true:=hT.fits (by omega)
 have hel':∀e∈es.toList,∃k tk,e.2=Value.int k tk:=fun e he=>let ⟨k,tk,q⟩:=hel e he;⟨k,tk,by rw[q]⟩
 cases hb:vh w with
 | true =>
  have pp:=CK (w.params.setOrder S ep) es
  exact⟨es,ep,t,pickOrder (w.params.setOrder S ep) es,⟨o,ho,hex.1,hd⟩,⟨hf,G2 _ _,fun _=>rfl,fun z=>by rw[hb] at z;cases z⟩,(pp.map _).trans hp,fun e he=>hel' e (pp.mem_iff.mp he)⟩
 | false =>
  refine⟨es,ep,t,es,⟨o,ho,hex.1,hd⟩,⟨hf,rfl,(fun z=>by rw[hb] at z;cases z),fun _=>⟨rfl,by rw[hled,hb];rfl,by rw[hT.plain];rfl,fun i hi=>?_⟩⟩,hp,hel'⟩
  cases i with
  | zero=>exact JF hT.ris
  | succ i=>exact JB hT.ris (by rw[hT.size];exact hi)
theorem np:∀{vs:List Value},(∀v∈vs,∃k tk,v=Value.int k tk)->IntsAre vs (vs.map Mi)
 | [],_=>.nil
 | v::r,h=>by
  obtain⟨k,tk,rfl⟩:=h v (.head _)
  exact .cons k tk (np fun u hu=>h u (.tail _ hu))
theorem GY{α:Type}{acc ord:List α}(hl:acc.length=ord.length)(h:∀(j:Nat) (v:α),acc[j]?=some v->ord[j]?=some v):acc=ord:=by
 refine List.ext_getElem? fun j=>?_
 by_cases hj:j<acc.length
 ·rw[List.getElem?_eq_getElem hj];exact(h j _ (List.getElem?_eq_getElem hj)).symm
 ·rw[List.getElem?_eq_none (by omega),List.getElem?_eq_none (by omega)]
theorem Ex{S:Addr}{ks:List Int}{Q:Value->Shared->Prop}(hh:A.handled=none)(x:yf (!vh w) s.heap S ks)(hn:ks.length<=4)
  (h:∀(D:Addr) (h':Heap) (tk n:Nat) (its:List Value),S<D->(∀b o,s.heap.get? b=some o->h'.get? b=some o)->h'.get? D=some {cls:=.type "list",data:=.seq its.toArray n}->IntsAre its (w9 ks)->Q (.ref D) {s with heap:=h',toks:=tk}) :
  wpAny (model prog w) A (call (.builtin "sorted") [.ref S]) Q E s:=by
 obtain⟨es,ep,t,ord,hI,hO,hperm,hint⟩:=x.ord hn
 have hol:ord.size=ks.length:=by rw[<- hperm.length_eq,List.length_map,Array.length_toList]
 refine Calls.call_function_entry kind_sorted plain_sorted entry_sorted (args_sorted1 _) ?_
 unfold Builtin.«sorted»
 refine wpAny_bind (m:=checkCount "sorted" 1 1 _) (wpAny_pure ?_)
 refine wpAny_bind (W.kdu_collect (A:=A.in1) (rj hO) hh hI (by rw[sizeLine_eq];omega) fun h' tk acc hk hacc=>?_)
 have hl:acc.toList.length=ord.size:=by rw[Array.length_toList];exact hacc.1
 have hae:acc.toList=ord.toList.map (·.2):=by
  refine GY (by rw[hl,List.length_map,Array.length_toList]) fun j v e=>?_
  obtain⟨y,h1,h2⟩:=hacc.2 j v (by rw[<- Array.getElem?_toList];exact e)
  rw[List.getElem?_map,Array.getElem?_toList,h1,h2];rfl
 have hints:IntsAre acc.toList (acc.toList.map Mi):=np fun v hv=>by
  rw[hae] at hv
  obtain⟨e,he,rfl⟩:=List.mem_map.mp hv
  exact hint e he
 have hpk:(acc.toList.map Mi).Perm ks:=by
  rw[hae,List.map_map];exact hperm
 refine wpAny_bind (wpAny_newList ?_ (by rw[hl,sizeLine_eq];omega))
 have hoL:(h'.push (seqObj "list" acc.toList.toArray 0)).get? h'.objs.size=some (seqObj "list" acc.toList.toArray 0):=Heap.get?_push_size _ rfl
 refine wpAny_bind (wpAny_holding (wpAny_call_entry slot_list_sort ⟨_,hoL,rfl⟩ entry_list_sort (list_sort_tree hoL hints (by rw[hl];omega) fun out ns' a1 a2 a3=>⟨_,rfl,?_⟩) (args_list_sort _)))
 refine wpAny_pure ⟨_,rfl,?_⟩
 have hns:ns'=w9 ks:=qI (a2.trans hpk) a3
 subst hns
 have hD:S<h'.objs.size:=Heap.lt_size (hk S _ hI.choose_spec.1)
 obtain⟨n1,g1⟩:∃n1,((h'.push (seqObj "list" acc.toList.toArray 0)).update h'.objs.size (Obj.mapSeq fun _=>#[])).get? h'.objs.size=some (seqObj "list" #[] n1):=⟨_,get?_update_seq hoL (fun _=>#[])⟩
 have g2:((((h'.push (seqObj "list" acc.toList.toArray 0)).update h'.objs.size (Obj.mapSeq fun _=>#[])).push (seqObj "tuple" acc.toList.toArray 0)).push (seqObj "list" #[] 0)).get? h'.objs.size=some (seqObj "list" #[] n1):=Heap.get?_push_of_some _ (Heap.get?_push_of_some _ g1)
 obtain⟨n3,g3⟩:∃n3,(sortedHeap (h'.push (seqObj "list" acc.toList.toArray 0)) h'.objs.size acc.toList out).get? h'.objs.size=some (seqObj "list" out n3):=⟨_,get?_update_seq g2 (fun _=>out)⟩
 refine h h'.objs.size _ tk n3 out.toList hD (fun b o e=>?_) (by rw[g3]) a1
 have hb:b≠h'.objs.size:=Nat.ne_of_lt (Heap.lt_size (hk b o e))
 exact(Heap.get?_update_other _ _ (Ne.symm hb)).trans (Heap.get?_push_of_some _ (Heap.get?_push_of_some _ ((Heap.get?_update_other _ _ (Ne.symm hb)).trans (Heap.get?_push_of_some _ (hk b o e)))))
end
end HW
set_option maxHeartbeats 1000000
namespace HW
open PySem PySem.Spec PyProof.Rows L2
section
variable{X:Cx}
theorem dG{K:W.Frag}{H:Hp}:∀{ds:LD} {ns:List Int} {xs:List V} {its:List Value},intsOf ds=some ns->l0 K H ds xs->p9 xs its->IntsAre its ns
 | [],ns,xs,its,e,r,v=>by
  cases e
  cases (show xs=[] from r)
  cases v
  exact .nil
 | .int i::ds,ns,xs,its,e,r,v=>by
  obtain⟨ms,e1,e2⟩:=ud (show(intsOf ds).map (i::·)=some ns from e)
  subst e2
  obtain⟨x,xr,rfl,r1,r2⟩:=r
  cases (show x=_ from r1)
  cases v with
  | cons v1 v2 =>
   obtain⟨t,rfl⟩:=v1
   exact .cons i t (dG e1 r2 v2)
 | .non::_,_,_,_,e,_,_=>by cases e
 | .bl _::_,_,_,_,e,_,_=>by cases e
 | .str _::_,_,_,_,e,_,_=>by cases e
 | .tup _::_,_,_,_,e,_,_=>by cases e
 | .lst _::_,_,_,_,e,_,_=>by cases e
 | .fro _::_,_,_,_,e,_,_=>by cases e
theorem fw{K:W.Frag}{H:Hp}:∀{ns:List Int} {its:List Value},IntsAre its ns->p9 (ns.map V.int) its/\l0 K H (ns.map D.int) (ns.map V.int)
 | _,_,.nil=>⟨.nil,rfl⟩
 | _,_,.cons n t r=>⟨.cons ⟨t,rfl⟩ (fw (K:=K) (H:=H) r).1,⟨_,_,rfl,rfl,(fw r).2⟩⟩
theorem Jq(ns:List Int):zo (fun i=>ns.getD i 0) ns.length=AI ns:=by
 unfold zo AI
 congr 1
 refine List.ext_getElem? fun j=>?_
 rw[List.getElem?_map]
 by_cases h:j<ns.length
 ·rw[List.getElem?_range h,List.getElem?_eq_getElem h];simp[h]
 ·rw[List.getElem?_eq_none (by simpa using h),List.getElem?_eq_none (by omega)];rfl
theorem nq:∀(its:List Value) (ns:List Int),its.length=ns.length->(∀(j:Nat) (v:Value),its[j]?=some v->∃t,v=.int (ns.getD j 0) t)->IntsAre its ns
 | [],[],_,_=>.nil
 | [],_::_,h,_=>by cases h
 | _::_,[],h,_=>by cases h
 | v::r,n::ns,hl,h=>by
  obtain⟨t,e⟩:=h 0 v rfl
  cases (show v=.int n t from e)
  exact .cons n t (nq r ns (Nat.succ.inj hl) fun j u hu=>h (j+1) u hu)
theorem sN{e:Expr}{f:R->OD}{p p' pos pos':Pos}(hc:X.calm=true)(hm:X.mg "sorted" = none)(hm':X.mg "set" = none)(he:SE X e f)(hg:Gl X "sorted":=by rfl)(hg':Gl X "set":=by rfl)(hst:noStar e=true:=by rfl) :
  SE X (.Call (.Name "sorted" p) [.Call (.Name "set" p') [e] [] pos'] [] pos) (i4 Og (e8 f i3)):=by
 intro pins s σ H Q I ⟨ρ,d,er,eq,q⟩
 obtain⟨ds,e1,e2⟩:=i9 eq
 have hst1:=aK [] X.env hst
 refine Call_ (da I hg hm boot_sorted ?_)
 refine Calls.callWith_builtin rfl (Calls.evalArgs_plain (Calls.spliced_cons ?_))
 refine Call_ (da I hg' hm' boot_set ?_)
 refine PyProof.Rows.callWith_type1 (ug ((ab he af hst).1 pos' pins s σ H (fun vs H2=>l3 H H2/\l0 X.K H2 ds vs) I ⟨ρ,ds,er,e1,fun vs H2 s2 r2=>⟨s2,r2⟩⟩) fun us s1 ⟨vs,H1,I1,r1,s01,rp⟩=>?_) (by rw[hst1]) rfl
 have hh:=I1.ok.hd hc
 match ds,e2 with
 | [.lst es],e2 =>
  obtain⟨ns,e3,e4⟩:=i9 (show(intsOf es).bind _=some d from e2)
  split at e4
  case isFalse=>cases e4
  case isTrue hn =>
  cases e4
  obtain⟨v,r',rfl,⟨a,xs,rfl,ha,rx⟩,rr⟩:=rp
  cases (show r'=[] from rr)
  obtain⟨u,rfl,ru⟩:=r1.one
  cases (show u=_ from ru)
  obtain⟨_,its,n,rv,hl,eo⟩:=I1.lstM ha
  have hI:=dG e3 rx rv
  have hlen:its.length=ns.length:=IntsAre.length hI
  refine o_ (val:=fun i=>ns.getD i 0) hh ⟨_,eo,rfl,n,rfl⟩ (fun i v hv=>IntsAre.int_at hI i v (by simpa using hv)) (by rw[List.size_toArray,hlen];exact hn) fun h' tk hS hk=>?_
  have hz2:its.toArray.size=ns.length:=by rw[List.size_toArray];exact hlen
  rw[hz2,Jq] at hS
  refine Calls.spliced_nil ?_
  have hd4:(AI ns).length<=4:=Nat.le_trans (zN ns []) (by simpa using hn)
  refine Ex (s:={s1 with heap:=h',toks:=tk}) hh hS hd4 fun D h2 tk2 n2 its2 hD hk2 hg2 hi2=>?_
  obtain⟨v1,v2⟩:=fw (K:=X.K) (H:=upd H1 D (.lst ((w9 (AI ns)).map V.int))) hi2
  have hz:((w9 (AI ns)).map V.int).length<=sizeLine:=by
   rw[List.length_map,(vL _).length_eq,sizeLine_eq];omega
  have hf:H1 D=none:=I1.hok.fresh (Nat.le_of_lt hD)
  refine⟨.ref D,upd H1 D (.lst ((w9 (AI ns)).map V.int)),I1.laid (t':=tk2) (fun b o eb=>hk2 b o (hk b o (Heap.lt_size eb) eb)) (Nat.le_of_lt hD) ⟨hz,its2,n2,v1,hg2⟩,rfl,?_⟩
  refine q _ _ (s01.trans fun b u hb=>?_) ⟨D,_,rfl,ax,v2⟩
  rw[au fun z=>by rw[z,hf] at hb;cases hb]
  exact hb
theorem qR{a b c:Expr}{f g h:R->OD}{p p' pos pos':Pos}(hcm:X.calm=true)(hm:X.mg "list" = none)(hm':X.mg "range" = none)(ha:SE X a f)(hb:SE X b g)(hc:SE X c h)(hg:Gl X "list":=by rfl)(hg':Gl X "range":=by rfl)(hs:noStar a=true:=by rfl)(hs2:noStar b=true:=by rfl)(hs3:noStar c=true:=by rfl) :
  PE X (.Call (.Name "list" p) [.Call (.Name "range" p') [a,b,c] [] pos'] [] pos) (fun σ H Q=>∃ ρ es,uy X.K H ρ σ/\C4 f g h ρ=some es/\es.length<=1000/\∀(D:Addr) vs H1,l3 H H1->H1 D=none->l0 X.K H1 es vs->Q (.ref D) (upd H1 D (.lst vs))):=by
 have z3:=aK [] X.env hs3
 have z2:=aK [c] X.env hs2
 have z1:=aK [b,c] X.env hs
 intro pins s σ H Q I ⟨ρ,es,er,e,hn,q⟩
 obtain⟨x,e1,e⟩:=i9 e
 obtain⟨y,e2,e⟩:=i9 e
 obtain⟨z,e3,e⟩:=i9 e
 obtain⟨i,e4,e⟩:=i9 e
 obtain⟨j,e5,e⟩:=i9 e
 obtain⟨k,e6,e⟩:=i9 e
 split at e
 case isFalse=>cases e
 case isTrue hz =>
 cases e
 refine Call_ (da I hg hm boot_list ?_)
 refine PyProof.Rows.callWith_type1 (Calls.spliced_cons ?_) rfl rfl
 refine Call_ (da I hg' hm' boot_range ?_)
 refine PyProof.Rows.callWith_type1 (ug ((ab ha (ab hb (ab hc af hs3) hs2) hs).1 pos' pins s σ H (fun vs H2=>l3 H H2/\l0 X.K H2 [x,y,z] vs) I ⟨ρ,[x,y,z],er,by show(f ρ).bind _=_;rw[e1];show((g ρ).bind _).map _=_;rw[e2];show(((h ρ).bind _).map _).map _=_;rw[e3];rfl,fun vs H2 s2 r2=>⟨s2,r2⟩⟩) fun us s1 ⟨vs,H1,I1,r1,s01,rp⟩=>?_) (by rw[z1,z2,z3]) (by rw[z2,z3];rfl)
 obtain⟨v,r,rfl,r2,r3⟩:=rp
 obtain⟨u,r',rfl,r4,r5⟩:=r3
 obtain⟨w,r'',rfl,r6,r7⟩:=r5
 cases (show r''=_ from r7)
 have hv:=vZ e4 r2
 have hu:=vZ e5 r4
 have hw:=vZ e6 r6
 subst hv hu hw
 obtain⟨q1,q2,q3,q4,q5,q6⟩:=hz
 cases r1 with
 | cons r rr =>
  cases rr with
  | cons r' rr =>
   cases rr with
   | cons r'' rr =>
    cases rr
    obtain⟨t,rfl⟩:=r
    obtain⟨t',rfl⟩:=r'
    obtain⟨t'',rfl⟩:=r''
    refine call_range_3 (by omega) ?_ (.inl (PyProof.noPylong_small (by omega)))
    refine Calls.spliced_nil ?_
    have hlen:(Aw i j k).length=wj i j k:=by simp[Aw]
    generalize hob:({cls:=.type "range",data:=.fields #[.int i t,.int j t',.int k t'']}:Obj)=ob
    have hR:IsRange (s1.heap.push ob) s1.heap.objs.size i j k t t' t'':=by subst hob;exact IsRange.new ..
    refine call_list_range (s:={s1 with heap:=s1.heap.push ob}) (n:=wj i j k) (I1.ok.hd hcm) hR (K5 q1 q2 q3 q4 q5 q6) (GO q5).symm (by rw[<- hlen];omega) fun h' tk acc c' hk hS' hacc=>?_
    have hD:s1.heap.objs.size<=(s1.heap.push ob).objs.size:=by rw[Heap.size_push];exact Nat.le_succ _
    generalize (s1.heap.push ob).objs.size=Da at hS' hD
    have hI:IntsAre acc.toList ((List.range (wj i j k)).map fun (m:Nat)=>i+(m:Int)*k):=by
     refine nq _ _ (by rw[Array.length_toList,List.length_map,List.length_range];exact hacc.1) fun m v hv=>?_
     have hm:m<wj i j k:=by
      have:=(List.getElem?_eq_some_iff.mp hv).1
      rw[Array.length_toList,hacc.1] at this
      exact this
     obtain⟨t,e⟩:=hacc.2 m v (by rw[<- Array.getElem?_toList];exact hv)
     refine⟨t,e.trans ?_⟩
     simp[List.getD_eq_getElem?_getD,List.getElem?_map,List.getElem?_range hm]
    have hmp:Aw i j k=((List.range (wj i j k)).map fun (m:Nat)=>i+(m:Int)*k).map D.int:=by
     unfold Aw;rw[List.map_map];rfl
    obtain⟨v1,v2⟩:=fw (K:=X.K) (H:=H1) hI
    have hf:H1 Da=none:=I1.hok.fresh hD
    rw[hmp] at q
    refine⟨.ref Da,upd H1 Da (.lst (((List.range (wj i j k)).map fun (m:Nat)=>i+(m:Int)*k).map V.int)),I1.laid (t':=tk) (o:=.lst (((List.range (wj i j k)).map fun (m:Nat)=>i+(m:Int)*k).map V.int)) (fun b o eb=>hk b o (Heap.get?_push_of_some _ eb)) hD ⟨?_,acc.toList,c',v1,by rw[hS']⟩,rfl,q Da _ H1 s01 hf v2⟩
    rw[List.length_map,List.length_map,List.length_range,<- hlen,sizeLine_eq];omega
variable{sts:List Stmt}
theorem pX{x:Str}{c ea eb ec:Expr}{s:R->Option Bool}{f g h:R->OD}{w:R->LD->Option Out}{px p1 p2 p1' p2' pos pos':Pos}(i:Nat)(hcm:X.calm=true)(hm:X.mg "list" = none)(hm':X.mg "range" = none)(hN:X.N.Nodup)
  (hc:ST X c s) (ha:SE X ea f) (hb:SE X eb g) (hd:SE X ec h) (h2:OB X sts w) (hix:X.N[i]?=some x:=by rfl) (hx:Loc X.env.scope x:=by first | exact Or.inl rfl | exact Or.inr rfl) (hg:Gl X "list":=by rfl) (hg':Gl X "range":=by rfl)
  (hsa:noStar ea=true:=by rfl) (hsb:noStar eb=true:=by rfl) (hsc:noStar ec=true:=by rfl)
  (hs:swapsWith (.Call (.Name "list" p1) [.Call (.Name "range" p2) [ea,eb,ec] [] p2'] [] p1') (some (.Name x px)) pos.line X.env=pure false:=by rfl) (hf:X.fn x=true\/X.env.scope.names.lookup x=some .local:=by first | exact .inl rfl | exact .inr rfl) :
  OB X (.If c [.Assign [.Name x px] (.Call (.Name "list" p1) [.Call (.Name "range" p2) [ea,eb,ec] [] p2'] [] p1') pos] [] pos'::sts) (wX i s (C4 f g h) w):=by
 intro pins st σ H E I ⟨ρ,τ,a,ds,xs,o,er,ho,rp,e,qq⟩
 obtain⟨b,eb1,e⟩:=i9 e
 refine wpAny_execs_cons (ug ((nC hc (fu (gQ (i:=i) hN hix hx (qR (p:=p1) (p':=p2) (pos:=p1') (pos':=p2') hcm hm hm' ha hb hd hg hg' hsa hsb hsc) hs hf)) AS) pins st σ H
  {E with nx:=fun σ' H'=>(b=false/\σ'=σ/\l3 H H')\/(b=true/\∃a' vs es H1,C4 f g h ρ=some es/\σ'=σ.set i (some (.ref a'))/\H'=upd H1 a' (.lst vs)/\H1 a'=none/\l3 H H1/\l0 X.K H1 es vs)} I ?_) fun fl s1 q=>?_)
 ·refine⟨ρ,b,er.1,eb1,fun H1 s1=>?_⟩
  cases b with
  | false=>rw[if_neg Bool.false_ne_true];exact .inl ⟨rfl,rfl,s1⟩
  | true =>
   rw[if_pos rfl] at e ⊢
   obtain⟨es,e1,e⟩:=i9 e
   split at e
   ·rename_i hz
    exact⟨ρ,es,er.1.mono s1,e1,hz.2,fun D vs H2 s2 hf rr=>.inr ⟨rfl,D,vs,es,H2,e1,rfl,rfl,hf,s1.trans s2,rr⟩⟩
   ·cases e
 cases fl with
 | next =>
  obtain⟨σ',H',I',q | q⟩:=q
  ·obtain⟨rfl,rfl,s1⟩:=q
   rw[if_neg Bool.false_ne_true] at e
   exact h2 pins _ _ H' E I' ⟨ρ,τ,a,ds,xs,o,er.mono s1,s1 _ _ ho,rp.mono s1,e,fun H2 k=>qq H2 ((xm.of s1).trans k)⟩
  ·obtain⟨rfl,a',vs,es,H1,e1,rfl,rfl,hf,s1',r1⟩:=q
   rw[if_pos rfl,e1] at e
   simp only[Option.bind_some] at e
   split at e
   case isFalse=>cases e
   case isTrue hz =>
   have I2:=EK I' ax
   generalize hH2:upd (upd H1 a' (.lst vs)) a' (yi a' vs)=H2 at I2
   have k12:xm a' H1 H2:=by
    subst hH2
    exact xm.upd.trans xm.upd
   have s12:l3 H1 H2:=fun b u hb=>k12 b u (fun z=>by rw[z,hf] at hb;cases hb) hb
   have ho2:H2 a'=some (yi a' vs):=by subst hH2;exact ax
   have hσi:i<σ.length:=by
    have:=(List.getElem?_eq_some_iff.mp (mj er)).1
    rw[<- hz.1];exact this
   have r2:l0 X.K H2 es vs:=r1.mono s12
   refine h2 pins _ _ H2 E I2 ⟨ρ,τ,a',es,vs,o,⟨⟨?_,fun j d hd=>?_⟩,?_⟩,ho2,r2,e,fun H' k=>qq H' fun b u hne hb=>?_⟩
   ·rw[List.length_set];exact er.1.1
   ·have hj:j<i:=by
     rw[<- hz.1];exact(List.getElem?_eq_some_iff.mp hd).1
    obtain⟨v,h1,h2⟩:=er.1.2 j d hd
    exact⟨v,by rw[List.getElem?_set_ne (by omega)];exact h1,(h2.mono s1').mono s12⟩
   ·have hd:σ.drop i=some (.ref a)::τ:=by rw[<- hz.1];exact er.2
    rw[hz.1,List.drop_eq_getElem_cons (by simpa using hσi)]
    congr 1
    ·simp
    ·rw[List.drop_set_of_lt (by omega),<- List.drop_drop,hd];rfl
   ·have hb1:=s1' _ _ hb
    exact k b u (fun z=>by rw[z,hf] at hb1;cases hb1) (s12 _ _ hb1)
 | brk=>exact q
 | cont=>exact q
 | ret v=>exact q
theorem Bb(l:Addr)(items:Array Value)(n:Nat)(dd:Option Addr)(sl:Array (Option Value))(k:Int)(u:Tok)(h1:(decide (k < -(2 ^ 63))||decide (k ≥ 2 ^ 63))=false)(h2:(items.isEmpty||k==1)=false)
  (h3:(decide (k<=0)||items.isEmpty)=true) :
  Meets (Builtin.«tuple.__mul__» ⟨[.ref l,.int k u],[]⟩) (fun _ R s=>s.heap.get? l=some {cls:=.type "tuple",dict:=dd,data:=.seq items n,slots:=sl} /\
   R (.ok (.ret (.ref s.heap.objs.size))) {s with heap:=s.heap.push {cls:=Value.type "tuple",data:=Data.seq #[]},toks:=s.toks}):=
 .of_wp fun prog w A R s h=>by
  obtain⟨hp,g,d,tk,os⟩:=s;obtain⟨hl,h⟩:=h;have f1:=AutoSeq1.idx_int;have f2:=AutoSeq1.sub_tuple_tuple
  wp_walk using wpAny_loadPart' hl
  refine wpAny_ite_false (PK h1) ?_
  wp_walk using wpAny_loadPart' hl
  exact⟨_,rfl,h⟩
theorem q_:K2 X (binaryOp .Mult) FF:=by
 intro pins s σ H x y v u Q I rx ry h
 obtain⟨dx,dy,d,r1,r2,e,q⟩:=h
 match dx,dy,e with
 | .tup [x1],.int k,e =>
  have e':(if k=0 then some (D.tup []) else if k=1 then some (D.tup [x1]) else none)=some d:=e
  have r1':=r1
  obtain⟨a,vs,rfl,hq,t⟩:=r1
  cases (show y=_ from r2)
  cases rx
  obtain⟨tk,rfl⟩:=ry
  obtain⟨its,rr,p,hsz⟩:=I.tuple hq
  obtain⟨⟨cls,dd,data,sl⟩,ho,hc,n,hd⟩:=id p
  simp only at hc hd
  subst hc hd
  refine wpAny_binaryOp_repeat_ref (T:="tuple") (U:="int") (by decide) ⟨_,ho,rfl⟩ (fun s'=>typeIs_int s' k tk) zX F.fills_int_mul F.slot_int_rmul DB F.slot_int_index.lookup
   (call_meets F.slot_int_rmul (typeIs_int s k tk) F.entry_int_rmul (F.args_int_rmul_2 _ _) (BE k tk a its.toArray n dd sl) ⟨ho,rfl,⟨_,ho,rfl⟩,?_⟩)
  by_cases h0:k=0
  ·rw[if_pos h0] at e'
   subst h0
   cases e'
   have b2:(its.toArray.isEmpty||(0:Int)==1)=false:=by
    cases its with
    | nil=>exact nomatch t.length.trans rr.length
    | cons x r=>rfl
   refine call_meets PySem.F.slot_tuple_mul ⟨_,ho,rfl⟩ PySem.F.entry_tuple_mul (PySem.F.args_tuple_mul_2 _ _) (Bb a its.toArray n dd sl 0 tk rfl b2 rfl) ⟨ho,?_⟩
   have s2:=aN (I.hok.fresh (Nat.le_refl s.heap.objs.size)) (.tup [])
   exact⟨.ref s.heap.objs.size,_,I.laid (t':=s.toks) (o:=.tup []) (fun b ob q=>Heap.get?_push_of_some _ q) (Nat.le_refl _) ⟨Nat.zero_le _,[],.nil,wF.new _ _⟩,rfl,q _ _ s2 ⟨_,[],rfl,xy.of ax,rfl⟩⟩
  ·rw[if_neg h0] at e'
   by_cases h1:k=1
   ·rw[if_pos h1] at e'
    subst h1
    cases e'
    have b2:(its.toArray.isEmpty||(1:Int)==1)=true:=Bool.or_true _
    exact call_meets PySem.F.slot_tuple_mul ⟨_,ho,rfl⟩ PySem.F.entry_tuple_mul (PySem.F.args_tuple_mul_2 _ _) (Ba a its.toArray n dd sl 1 tk rfl b2) ⟨ho,.ref a,H,I,rfl,q _ H (l3.refl H) r1'⟩
   ·rw[if_neg h1] at e'
    cases e'
end
section
variable{prog:Program}{w:World}{A:Around}{R':Result->Shared->Prop}{I:Addr}{fp wr:List Addr}{n:Nat}{P:Nat->Value->Prop}{St:Nat->Heap->Prop}
end
section
variable{prog:Program}{w:World}{A:Around}{E:Value->Shared->Prop}{s:Shared}
end
section
variable{X:Cx}
end
section
variable{prog:Program}{w:World}{A:Around}{E:Value->Shared->Prop}{s:Shared}
end
section
variable{X:Cx}
end
section
variable{X:Cx}
theorem qZ:N8 X "str.index" A7:=by
 intro pins s σ H x vs v us Q I rx rv h
 obtain⟨dx,ds,d,r1,r2,e,q⟩:=h
 match dx,ds,e with
 | .str z,[.str y],e =>
  cases (show x=_ from r1)
  obtain⟨t,rfl⟩:=rx
  obtain⟨u,r',rfl,k1,r2⟩:=r2
  cases (show r'=[] from r2)
  cases (show u=_ from k1)
  obtain⟨u',rfl,t2,rfl⟩:=rv.one
  cases ho:Builtin.Str.occurrences z y 0 z.length 1 with
  | nil =>
   have e':(match Builtin.Str.occurrences z y 0 z.length 1 with | i::_=>some (D.int (i:Int)) | []=>none)=some d:=e
   rw[ho] at e'
   cases e'
  | cons i rest =>
   have e':(match Builtin.Str.occurrences z y 0 z.length 1 with | i::_=>some (D.int (i:Int)) | []=>none)=some d:=e
   rw[ho] at e'
   cases e'
   exact SC.index ho ⟨.int (i:Int),H,I.tok _,⟨_,rfl⟩,q _ H (l3.refl H) rfl⟩
theorem Hn{x:D}{ds:LD}{d:D}(h:A7 (x::ds)=some d):∃z,x=.str z:=by
 cases x with
 | str z=>exact⟨z,rfl⟩
 | _=>cases h
theorem rK{a e:Expr}{es:List Expr}{f:R->OD}{F:R->Option LD}{ap cp:Pos}(ha:SE X a f)(hF:SA X (e::es) F)
  (hbase:attributeBase a "index" X.env (eval a X.env)=eval a X.env:=by rfl)
  (hfew:((backTo cp (starEach (e::es) X.env)).all (fun x=>!x.1)&&(backToKw cp (keywordEach [] X.env)).all (fun x=>x.1.isSome)&&decide ((e::es).length+([]:List Keyword).length+(if ([]:List Keyword).isEmpty then 0 else 1)<30))=true:=by rfl)
  (hline:(ap.endLine==cp.line)=true:=by rfl):SE X (.Call (.Attribute a "index" ap) (e::es) [] cp) (i4 A7 (e8 f F)):=
 qG PySem.F.slot_str_index PySem.F.type_str_index qZ (fun _ _ _ h=>Hn h) ha hF hbase hfew hline
end
section
variable{X:Cx}
end
abbrev uG(K:W.Frag)(n:Str)(st:Stmt)(f:Addr):Prop:=∃(oc:Value) (od an:Option Addr) (sl:Array (Option Value)) (kV dc pm cd ct:Value),W.nsIn K mainGlobals n=some (some (.ref f)) /\
 K.lookup f=some ⟨oc,od,.func (W.fnOf n n (wV st) (uO st) (i6 st) .none kV dc pm an cd ct),sl⟩/\W.codeIn K cd n=true/\W.keepIn K (.ref f)=true
theorem uM{K:W.Frag}{n:Str}{st:Stmt}{f:Addr}(h:uG K n st f):∃fd,uu K n n st f fd/\W.nsIn K mainGlobals n=some (some (.ref f)):=by
 obtain⟨oc,od,an,sl,kV,dc,pm,cd,ct,a,l,c,k⟩:=h
 exact⟨_,qc l c k,a⟩
theorem fn4_mk{K:W.Frag}{n:Str}{st:Stmt}{f:Addr}{oc:Value}{od an:Option Addr}{sl:Array (Option Value)}{kV dc pm cd ct:Value}(a:W.nsIn K mainGlobals n=some (some (.ref f)))
  (l:K.lookup f=some ⟨oc,od,.func (W.fnOf n n (wV st) (uO st) (i6 st) .none kV dc pm an cd ct),sl⟩) (c:W.codeIn K cd n=true) (k:W.keepIn K (.ref f)=true):uG K n st f:=⟨oc,od,an,sl,kV,dc,pm,cd,ct,a,l,c,k⟩
theorem p6.m{P:Program}{w:World}{K:W.Frag}{mg:Str->Option Value}{base:Heap}{j k:Nat}{x:Str}{ps:List Str}{F:LD->OD}(h:p6 P w K mg base j x ps F)(hk:j<=k:=by decide):p6 P w K mg base k x ps F:=h.mono hk
section
variable{X:Cx}{pos p:Pos}{e:Expr}{es:List Expr}{k i:Nat}{f c':Addr}{G:LD->OD}{F:R->Option LD}{name qual:Str}{params:Arguments}{body:Expr}{scope:Scope}{cl:List (Str×Addr)}{pm ctv:Value}{ps:List Str}
end
section
variable{X:Cx}{pins:List (Addr×Obj)}{σ:L2.St}{H:Hp}{s:Shared}{pos:Pos}
end
section
variable{X:Cx}{pins:List (Addr×Obj)}{σ:L2.St}{H Hp':Hp}{s:Shared}{pos:Pos}
structure Nr (X:Cx) (cl:List (Str×Addr)):Prop where
 fn:∀x,X.fn x=true
 ndc:(cl.map (·.1)).Nodup
 of:∀x c,cl.lookup x=some c->X.env.cells.lookup x=some c/\X.env.scope.names.lookup x=some .cell
theorem Nr.lk{cl:List (Str×Addr)}(o:Nr X cl):∀b,Qb cl b=true->∃x,X.env.cells.lookup x=some b:=fun b hb=>by
 obtain⟨p,hp,e⟩:=List.any_eq_true.mp hb
 exact⟨p.1,(o.of p.1 b (Ck o.ndc (by rw[<- eq_of_beq e];exact hp))).1⟩
end
def LL:Option HO->Prop
 | some (.ins _ _ _)=>True
 | some (.dK _)=>True
 | some (.frz _ (.own _))=>True
 | _=>False
def u0(S:List Nat)(H H':Hp):Prop:=∀b u,b∉S->H b=some u->H' b=some u
def um(S:List Nat)(H:Hp):Prop:=∀b∈S,LL (H b)
section
variable{S T:List Nat}{H H' H1 H2:Hp}{K:W.Frag}
theorem u0.of(h:l3 H H'):u0 S H H':=fun b u _ e=>h b u e
theorem u0.refl:u0 S H H:=fun _ _ _ e=>e
theorem u0.trans(h:u0 S H H1)(k:u0 S H1 H2):u0 S H H2:=fun b u n e=>k b u n (h b u n e)
theorem u0.mono(h:u0 S H H')(hs:∀b∈S,b∈T):u0 T H H':=fun b u n e=>h b u (fun z=>n (hs b z)) e
theorem um.same(m:um S H)(s:l3 H H'):um S H':=fun b hb=>by
 have h:=m b hb
 cases e:H b with
 | none=>rw[e] at h;exact h.elim
 | some u=>rw[s b u e];rw[e] at h;exact h
theorem um.nin{a:Nat}{u:HO}(m:um S H)(e:H a=some u)(n:¬ LL (some u)):a∉S:=fun z=>n (by have:=m a z;rw[e] at this;exact this)
theorem u0.tup{a:Addr}{xs:List V}(m:um S H)(s:u0 S H H')(h:xy K H a xs):xy K H' a xs:=by
 rcases h with (h | ⟨o,h⟩) | h
 ·exact .inl (.inl (s _ _ (m.nin h fun z=>z) h))
 ·exact .inl (.inr ⟨o,s _ _ (m.nin h fun z=>z) h⟩)
 ·exact .inr h
theorem u0.seq{a:Addr}{xs:List V}(m:um S H)(s:u0 S H H')(h:wZ K H a xs):wZ K H' a xs:=by
 rcases h with (h | ⟨o,h⟩) | h
 ·exact .inl (.inl (s _ _ (m.nin h fun z=>z) h))
 ·exact .inl (.inr ⟨o,s _ _ (m.nin h fun z=>z) h⟩)
 ·exact .inr h
end
mutual
theorem Rep.kq{S:List Nat}{K:W.Frag}{H H':Hp}(m:um S H)(s:u0 S H H'):∀{d:D} {v:V},t_ d=true->Rep K H d v->Rep K H' d v
 | .non,_,_,h=>h
 | .bl _,_,_,h=>h
 | .int _,_,_,h=>h
 | .str _,_,_,h=>h
 | .tup ds,_,hn,h=>by
  obtain⟨a,xs,e,q,r⟩:=h
  exact⟨a,xs,e,s.tup m q,l0.kq m s hn r⟩
 | .lst ds,_,hn,h=>by
  obtain⟨a,xs,e,q,r⟩:=h
  exact⟨a,xs,e,s _ _ (m.nin q fun z=>z) q,l0.kq m s hn r⟩
 | .fro ds,_,hn,h=>by
  obtain⟨a,xs,e,q,r⟩:=h
  exact⟨a,xs,e,s.seq m q,l0.kq m s hn r⟩
 | .obj ..,_,hn,_=>by cases hn
theorem l0.kq{S:List Nat}{K:W.Frag}{H H':Hp}(m:um S H)(s:u0 S H H'):∀{ds:LD} {vs:List V},m6 ds=true->l0 K H ds vs->l0 K H' ds vs
 | [],_,_,h=>h
 | d::ds,_,hn,h=>by
  have hn':(t_ d&&m6 ds)=true:=hn
  rw[Bool.and_eq_true] at hn'
  obtain⟨v,r,e,q,t⟩:=h
  exact⟨v,r,e,Rep.kq m s hn'.1 q,l0.kq m s hn'.2 t⟩
end
section
variable{S T:List Nat}{H H' H1 H2:Hp}{K:W.Frag}
theorem Mj.mut{k a:Nat}{ks:List Str}{vs:List V}(h:Mj H k a ks vs):LL (H a):=by
 match k,h with
 | 0,⟨_,_,_,_,e⟩=>rw[e];trivial
 | 1,⟨_,e⟩=>rw[e];trivial
 | C+2,⟨_,_,e⟩=>rw[e];trivial
theorem l0.mem:∀{ds:LD} {vs:List V} {d:D},l0 K H ds vs->d∈ds->∃v,Rep K H d v
 | [],_,_,_,h=>by cases h
 | e::ds,vs,d,h,hd=>by
  obtain⟨v,r,_,q,t⟩:=h
  rcases List.mem_cons.mp hd with rfl | hd
  ·exact⟨v,q⟩
  ·exact l0.mem t hd
theorem FQ{ob:D}{v:V}(r:Rep K H ob v):um (adr ob) H:=fun b hb=>by
 cases ob with
 | obj k a ks es =>
  obtain⟨xs,_,q,t⟩:=r
  rcases List.mem_cons.mp hb with rfl | hb
  ·exact q.mut
  ·obtain⟨e,he,hb⟩:=List.mem_flatMap.mp hb
   cases e with
   | obj k' a' ks' es' =>
    obtain⟨v',xs',_,q',_⟩:=l0.mem t he
    rw[show b=a' from List.mem_singleton.mp hb]
    exact q'.mut
   | _=>cases hb
 | _=>cases hb
theorem EH{as:List Nat}(h:Gx S as=true):∀b∈as,b∈S:=fun b hb=>by
 have:=List.all_eq_true.mp h b hb
 simpa using this
theorem ph{ob:D}{v:V}(h:AM ob=true)(r:Rep K H ob v):v=.ref (B0 ob):=by
 cases ob with
 | obj k a ks es=>obtain⟨xs,e,_⟩:=r;exact e
 | _=>cases h
theorem pD{ρ:R}{σ:L2.St}{i:Nat}{ob':D}{v:V}(er:uy K H ρ σ)(m:um S H)(s:u0 S H H')(hn:tW i ρ=true)(hv:σ[i]?=some (some v))(r:Rep K H' ob' v):uy K H' (ρ.set i (some ob')) σ:=by
 refine⟨by rw[List.length_set];exact er.1,fun j d h=>?_⟩
 by_cases hj:j=i
 ·subst hj
  have hl:j<ρ.length:=by have:=(List.getElem?_eq_some_iff.mp h).1;simpa using this
  rw[List.getElem?_set_self hl] at h
  cases h
  exact⟨v,hv,r⟩
 ·rw[List.getElem?_set_ne (Ne.symm hj)] at h
  obtain⟨u,h1,h2⟩:=er.2 j d h
  have hd:uz (some d)=true:=List.all_eq_true.mp hn _ (List.mem_of_getElem? (i:=j) (by rw[List.getElem?_set_ne (Ne.symm hj)];exact h))
  exact⟨u,h1,Rep.kq m s hd h2⟩
theorem iy{ρ:R}{σ τ:L2.St}{i:Nat}{ob':D}{v:V}(er:uv K H ρ τ σ)(m:um S H)(s:u0 S H H')(hn:tW i ρ=true)(hv:σ[i]?=some (some v))(r:Rep K H' ob' v):uv K H' (ρ.set i (some ob')) τ σ:=
 ⟨pD er.1 m s hn hv r,by rw[List.length_set];exact er.2⟩
def Mr(K:W.Frag)(H:Hp)(ρ:R):Prop:=∀(j:Nat) (d:D),ρ[j]?=some (some d)->AM d=true->Rep K H d (.ref (B0 d))
theorem Mr.of{ρ:R}{σ:L2.St}(e:uy K H ρ σ):Mr K H ρ:=fun j d h ho=>by
 obtain⟨v,_,r⟩:=e.2 j d h
 rw[<- ph ho r];exact r
variable(K)
def Pl(E:Ends)(τ:L2.St)(o:MO)(H':Hp):Prop:=
 match o with
 | .nx ρ=>∀ σ,uv K H' ρ τ σ->E.nx σ H'
 | .rt d ρ=>∀v,Rep K H' d v->Mr K H' ρ->E.rt v H'
def Mh(S:List Nat)(u:MU):TS:=fun E σ H=>∃ ρ τ o,uv K H ρ τ σ/\um S H/\u S ρ=some o/\∀H',u0 S H H'->um S H'->Pl K E τ o H'
def zk(S:List Nat)(J:It)(ds:LD)(H:Hp):Prop:=
 (∀(i:Nat) (d:D) (H2:Hp),u0 S H H2->ds[i]?=some d->J.go i H2/\∀x H3,J.yld i H2 x H3->l3 H2 H3/\Rep K H3 d x)/\∀(i:Nat) (H2:Hp),u0 S H H2->ds.length<=i->J.stop i H2
def Qp(S:List Nat)(f:R->Option LD):L2.TI:=fun σ H W=>∃ ρ ds,uy K H ρ σ/\um S H/\f ρ=some ds/\m6 ds=true/\∀J H',l3 H H'->zk K S J ds H'->W J H'
def Jh(j:Nat)(G:LD->Option (D×D)):Sp:=fun vs H Q _=>∃ds ob d o',l0 K H ds vs/\ds[j]?=some ob/\AM ob=true/\G ds=some (d,o')/\∀v H',u0 (adr ob) H H'->um (adr ob) H'->Rep K H' d v->Rep K H' o' (.ref (B0 ob))->Q v H'
end
def MS(X:Cx)(st:Stmt)(u:MU):Prop:=∀S,PS X st (Mh X.K S u)
def HK(X:Cx)(sts:List Stmt)(u:MU):Prop:=∀S,PSs X sts (Mh X.K S u)
def Pf(X:Cx)(tg iter:Expr)(f:R->Option LD):Prop:=∀S,PI X tg iter (Qp X.K S f)
section
variable{X:Cx}{st:Stmt}{sts:List Stmt}{u w:MU}{pos:Pos}
theorem Iy{E:Ends}{σ:L2.St}{H:Hp}{K:W.Frag}{S:List Nat}{p:R->Option Out}(q:Mh K S (tJ p) E σ H):KR K p E σ H:=by
 obtain⟨ρ,τ,o,er,m,e,q⟩:=q
 obtain⟨o1,e1,e⟩:=i9 e
 refine⟨ρ,τ,o1,er,e1,fun H' s=>?_⟩
 cases o1 with
 | nx ρ2=>cases e;exact q H' (u0.of s) (m.same s)
 | rt d=>cases e;exact fun v rv=>q H' (u0.of s) (m.same s) v rv (Mr.of (er.mono s).1)
 | bk ρ2=>cases e
 | ct ρ2=>cases e
theorem aO{p:R->Option Out}(h:S1 X st p):MS X st (tJ p):=fun S=>PS.imp h fun E σ H z=>Iy z
theorem bn:HK X [] uc:=fun S=>AS.imp fun E σ H ⟨ρ,τ,o,er,m,e,q⟩=>by
 cases e
 exact q H u0.refl m σ er
theorem FL{E:Ends}{σ:L2.St}{H:Hp}{K:W.Frag}{S:List Nat}(q:Mh K S (tE u w) E σ H):Mh K S u {E with nx:=Mh K S w E} σ H:=by
 obtain⟨ρ,τ,o,er,m,e,q⟩:=q
 obtain⟨o1,e1,e⟩:=i9 e
 refine⟨ρ,τ,o1,er,m,e1,fun H1 k1 m1=>?_⟩
 cases o1 with
 | nx ρ2=>exact fun σ2 er2=>⟨ρ2,τ,o,er2,m1,e,fun H2 k2 m2=>q H2 (k1.trans k2) m2⟩
 | rt d ρ2=>cases e;exact q H1 k1 m1
theorem az(h1:MS X st u)(h2:HK X sts w):HK X (st::sts) (tE u w):=fun S=>(cg (h1 S) (h2 S)).imp fun E σ H q=>FL q
theorem aI(h1:MS X st u):HK X [st] u:=fun S=>fu (h1 S)
theorem cb{c:Expr}{s:R->Option Bool}{B1 B2:List Stmt}(hc:ST X c s)(ha:HK X B1 u)(hb:HK X B2 w):MS X (.If c B1 B2 pos) (xW s u w):=fun S=>(nC hc (ha S) (hb S)).imp fun E σ H ⟨ρ,τ,o,er,m,e,q⟩=>by
 obtain⟨x,e1,e⟩:=i9 e
 refine⟨ρ,x,er.1,e1,fun H1 s1=>?_⟩
 cases x with
 | true=>rw[if_pos rfl] at e ⊢;exact⟨ρ,τ,o,er.mono s1,m.same s1,e,fun H2 k2 m2=>q H2 ((u0.of s1).trans k2) m2⟩
 | false=>rw[if_neg Bool.false_ne_true] at e ⊢;exact⟨ρ,τ,o,er.mono s1,m.same s1,e,fun H2 k2 m2=>q H2 ((u0.of s1).trans k2) m2⟩
theorem lN{K:W.Frag}{S:List Nat}{H:Hp}{a:Addr}{ds:LD}{xs:List V}(m:um S H)(hn:m6 ds=true)(hq:xy K H a xs)(t:l0 K H ds xs):zk K S (N6 K a) ds H:=by
 refine⟨fun i d H2 s2 e=>?_,fun i H2 s2 hl=>⟨xs,s2.tup m hq,by rw[<- t.length];exact hl⟩⟩
 obtain⟨v,h1,h2⟩:=(l0.kq m s2 hn t).get e
 refine⟨⟨xs,v,s2.tup m hq,h1⟩,fun x H3 ⟨e3,y⟩=>?_⟩
 subst e3
 have:=(y xs (s2.tup m hq)).symm.trans h1
 cases this
 exact⟨l3.refl _,h2⟩
theorem kO{K:W.Frag}{S:List Nat}{H:Hp}{a:Addr}{ds:LD}{xs:List V}(m:um S H)(hn:m6 ds=true)(hq:wZ K H a xs)(t:l0 K H ds xs):zk K S (N5 K a) ds H:=by
 refine⟨fun i d H2 s2 e=>?_,fun i H2 s2 hl=>⟨xs,s2.seq m hq,by rw[<- t.length];exact hl⟩⟩
 obtain⟨v,h1,h2⟩:=(l0.kq m s2 hn t).get e
 refine⟨⟨xs,v,s2.seq m hq,h1⟩,fun x H3 ⟨e3,y⟩=>?_⟩
 subst e3
 have:=(y xs (s2.seq m hq)).symm.trans h1
 cases this
 exact⟨l3.refl _,h2⟩
theorem lQ{K:W.Frag}{S:List Nat}{H:Hp}{x:Str}:zk K S (Mv x) (chars x) H:=by
 have y:∀H,xB K (Mv x) (chars x) H:=fun H=>jm
 exact⟨fun i d H2 _ e=>(y H2).1 i d H2 (Kp.refl H2) e,fun i H2 _ hl=>(y H2).2 i H2 (Kp.refl H2) hl⟩
theorem ld{K:W.Frag}{S:List Nat}{H:Hp}{a b:Int}:zk K S (Mf a (b - a).toNat) (uN a b) H:=by
 have y:∀H,xB K (Mf a (b - a).toNat) (uN a b) H:=fun H=>iS
 exact⟨fun i d H2 _ e=>(y H2).1 i d H2 (Kp.refl H2) e,fun i H2 _ hl=>(y H2).2 i H2 (Kp.refl H2) hl⟩
theorem qT{tg a:Expr}{f:R->OD}(ha:SE X a f):Pf X tg a (ve f):=fun S=>(qw ha).imp fun σ H W ⟨ρ,ds,er,m,e,hn,q⟩=>by
 obtain⟨x,e1,e⟩:=i9 e
 refine⟨ρ,x,er,e1,fun v H1 s1 r1=>?_⟩
 have m1:=m.same s1
 cases x with
 | tup xs =>
  cases e
  obtain⟨a,vs,ev,hq,t⟩:=r1
  exact .inl ⟨a,ev,.inr ⟨⟨vs,hq⟩,q _ H1 s1 (lN m1 hn hq t)⟩⟩
 | lst xs =>
  cases e
  obtain⟨a,vs,ev,hq,t⟩:=r1
  exact .inl ⟨a,ev,.inl ⟨⟨vs,wZ.of hq⟩,q _ H1 s1 (kO m1 hn (wZ.of hq) t)⟩⟩
 | str z =>
  dsimp only at e
  split at e
  ·rename_i hz
   cases e
   cases (show v=_ from r1)
   exact .inr ⟨z,rfl,hz,q _ H1 s1 lQ⟩
  ·cases e
 | _=>cases e
theorem qk{tg a:Expr}{f:R->OD}{p:Pos}(hm:X.mg "range" = none)(ha:SE X a f)(hg:Gl X "range":=by rfl)(hs:noStar a=true:=by rfl):Pf X tg (.Call (.Name "range" p) [a] [] pos) (uD f):=fun S =>
 (jU hg hm (ab ha af hs).1 (aK [] X.env hs)).imp fun σ H W ⟨ρ,ds,er,m,e,hn,q⟩=>by
  obtain⟨x,e1,e⟩:=i9 e
  cases x with
  | int j =>
   dsimp only at e
   split at e
   ·rename_i hj
    cases e
    refine⟨ρ,[.int j],er,by show(f ρ).bind _=_;rw[e1];rfl,fun vs H1 s1 r1=>?_⟩
    obtain⟨v,r,rfl,r2,r3⟩:=r1
    cases (show v=_ from r2)
    cases (show r=_ from r3)
    refine⟨j,rfl,hj.1,hj.2,q _ H1 s1 ?_⟩
    have z:=ld (K:=X.K) (S:=S) (H:=H1) (a:=0) (b:=j)
    rw[Int.sub_zero] at z
    exact z
   ·cases e
  | _=>cases e
theorem pO{tg iter:Expr}{B:List Stmt}{it:R->Option LD}{stf:D->R->Option R}(hp:PassesOwn (model X.prog X.w) X.A X.env X.xe)(hc:X.calm=true)(hi:Pf X tg iter it)(hg:SG X tg stf)(hb:HK X B u)
  (hs:∀x,foldedSetIterable iter X.env x=pure x:=by intro _;rfl):MS X (.For tg iter B [] pos) (Hu it stf u):=fun S=>(me hp hc (hi S) hg (hb S) hs).imp fun E σ H ⟨ρ,τ,o,er,m,e,q⟩=>by
 obtain⟨ds,e1,e⟩:=i9 e
 split at e
 case isFalse=>cases e
 case isTrue hn =>
 refine⟨ρ,ds,er.1,m,e1,hn,fun J H1 s1 y=>?_⟩
 refine⟨fun i n σ' H'=>n=ds.length - i/\i<=ds.length/\u0 S H1 H'/\um S H'/\∃ ρ',uv X.K H' ρ' τ σ'/\CY stf u S (ds.drop i) ρ'=some o,⟨ds.length,by simp,Nat.zero_le _,u0.refl,m.same s1,ρ,er.mono s1,by simpa using e⟩,?_⟩
 rintro i n σ' H' ⟨rfl,hi,s2,m2,ρ',er',e'⟩
 by_cases hlt:i<ds.length
 ·refine .inr ?_
  have hd:ds[i]?=some ds[i]:=by simp[hlt]
  obtain⟨hgo,hy⟩:=y.1 i ds[i] H' s2 hd
  rw[List.drop_eq_getElem_cons hlt] at e'
  obtain⟨ρ1,e2,e'⟩:=i9 e'
  obtain⟨o1,e3,e'⟩:=i9 e'
  refine⟨hgo,fun σ2 H2=>i+1<=ds.length/\u0 S H1 H2/\um S H2/\∃ ρ',uv X.K H2 ρ' τ σ2/\CY stf u S (ds.drop (i+1)) ρ'=some o,fun σ2 H2 n2=>⟨ds.length - (i+1),by omega,rfl,n2.1,n2.2⟩,fun x H3 yx=>?_⟩
  obtain⟨s3,rx⟩:=hy x H3 yx
  refine⟨ρ',τ,ds[i],ρ1,er'.mono s3,rx,e2,fun σ4 H4 s4 er4=>⟨ρ1,τ,o1,er4,(m2.same s3).same s4,e3,fun H5 s5 m5=>?_⟩⟩
  have s15:u0 S H1 H5:=s2.trans ((u0.of s3).trans ((u0.of s4).trans s5))
  cases o1 with
  | nx ρ2=>exact fun σ6 er6=>⟨hlt,s15,m5,ρ2,er6,e'⟩
  | rt d ρ2=>cases e';exact q H5 ((u0.of s1).trans s15) m5
 ·have e4:i=ds.length:=by omega
  subst e4
  rw[List.drop_length] at e'
  cases e'
  exact .inl ⟨y.2 _ H' s2 (Nat.le_refl _),q H' ((u0.of s1).trans s2) m2 σ' er'⟩
end
section
variable{K:W.Frag}{H H':Hp}
theorem Gd{x:Str}{d:D}:∀{ks:List Str} {ds:LD} {vs:List V},x_ ks ds x=some d->l0 K H ds vs->ks.length=vs.length->∃v,(ks.zip vs).lookup x=some v/\Rep K H d v
 | [],_,_,e,_,_=>by cases e
 | k::ks,[],_,e,_,_=>by cases e
 | k::ks,c::ds,vs,e,r,hl=>by
  obtain⟨v,vr,rfl,r1,r2⟩:=r
  have e':(if k=x then some c else x_ ks ds x)=some d:=e
  show ∃u,List.lookup x ((k,v)::ks.zip vr)=some u/\Rep K H d u
  by_cases h:k=x
  ·subst h
   rw[if_pos rfl] at e'
   cases e'
   exact⟨v,by simp,r1⟩
  ·rw[if_neg h] at e'
   obtain⟨u,h1,h2⟩:=Gd e' r2 (by simpa using hl)
   refine⟨u,?_,h2⟩
   rw[List.lookup_cons]
   have hb:(x==k)=false:=beq_eq_false_iff_ne.mpr (Ne.symm h)
   rw[hb];exact h1
theorem Gq{x:Str}{e:D}{y:V}:∀{ks:List Str} {ds:LD} {vs:List V},ks.length=vs.length->ds.length=vs.length->∃vs',Ff x y (ks.zip vs)=(putD ks ds x e).1.zip vs'/\(putD ks ds x e).1.length=vs'.length/\(l0 K H' ds vs->Rep K H' e y->l0 K H' (putD ks ds x e).2 vs')
 | [],[],[],_,_=>⟨[y],rfl,rfl,fun _ r=>⟨y,[],rfl,r,rfl⟩⟩
 | k::ks,d::ds,v::vs,h1,h2=>by
  obtain⟨vs',a,b,c⟩:=Gq (x:=x) (e:=e) (y:=y) (ks:=ks) (ds:=ds) (vs:=vs) (by simpa using h1) (by simpa using h2)
  by_cases h:k=x
  ·refine⟨y::vs,?_,?_,fun r re=>?_⟩
   ·show(if k=x then (k,y)::ks.zip vs else _)=(putD (k::ks) (d::ds) x e).1.zip _
    rw[if_pos h,putD,if_pos h];rfl
   ·rw[putD,if_pos h];simpa using h1
   ·rw[putD,if_pos h]
    obtain⟨u,r',q,r1,r2⟩:=r
    cases q
    exact⟨y,vs,rfl,re,r2⟩
  ·refine⟨v::vs',?_,?_,fun r re=>?_⟩
   ·show(if k=x then _ else (k,v)::Ff x y (ks.zip vs))=(putD (k::ks) (d::ds) x e).1.zip _
    rw[if_neg h,putD,if_neg h,a];rfl
   ·rw[putD,if_neg h];simpa using b
   ·rw[putD,if_neg h]
    obtain⟨u,r',q,r1,r2⟩:=r
    cases q
    exact⟨_,vs',rfl,r1,c r2 re⟩
 | [],_::_,[],_,h=>by cases h
 | [],_,_::_,h,_=>by cases h
 | _::_,_,[],h,_=>by cases h
 | _::_,[],_::_,_,h=>by cases h
theorem lb{d:D}(h:t_ d=true):xu d=[]:=by cases d<;>first | rfl | cases h
end
section
variable{X:Cx}{pos:Pos}
section
variable{pins:List (Addr×Obj)}{σ:L2.St}{H:Hp}{s:Shared}{a:Addr}{xs:List V}{its:List Value}{n:Nat}
theorem JR(I:L2.Inv X pins σ H s)(h:H a=some (.frz {cls:=.type "list",data:=.seq its.toArray n} (.own 0)))(r:p9 xs its)(z:xs.length<=sizeLine):L2.Inv X pins σ (upd H a (.lst xs)) s:=by
 have e:=(I.hok a _ h).1
 have:=I.write (t':=s.toks) (h':=s.heap) (o:=.lst xs) (x:=a) (e:=a) (by rw[h];trivial) (.inl rfl) (fun _ _ _ q=>q) ⟨_,e⟩ ⟨z,its,n,r,e⟩
 exact this
theorem FM(I:L2.Inv X pins σ H s)(h:H a=some (.lst xs)):∃(its:List Value) (n:Nat),p9 xs its/\xs.length<=sizeLine/\L2.Inv X pins σ (upd H a (.frz {cls:=.type "list",data:=.seq its.toArray n} (.own 0))) s:=by
 obtain⟨z,its,n,r,e⟩:=I.hok a _ h
 have:=I.write (t':=s.toks) (h':=s.heap) (o:=.frz {cls:=.type "list",data:=.seq its.toArray n} (.own 0)) (x:=a) (e:=a) (by rw[h];trivial) (.inl rfl) (fun _ _ _ q=>q) ⟨_,e⟩ ⟨e,⟨_,e⟩⟩
 exact⟨its,n,r,z,this⟩
end
end
section
variable{K:W.Frag}{H H':Hp}
theorem l0.kqf(kq:∀{d:D} {v:V},t_ d=true->Rep K H d v->Rep K H' d v):∀{ds:LD} {vs:List V},m6 ds=true->l0 K H ds vs->l0 K H' ds vs
 | [],_,_,r=>r
 | d::ds,_,h,r=>by
  have h':(t_ d&&m6 ds)=true:=h
  rw[Bool.and_eq_true] at h'
  obtain⟨v,vr,e,r1,r2⟩:=r
  exact⟨v,vr,e,kq h'.1 r1,l0.kqf kq h'.2 r2⟩
theorem jh{x:Str}{e e':D}{y:V}:∀{ks:List Str} {ds:LD} {vs:List V},x_ ks ds x=some e->(ks.zip vs).lookup x=some y->l0 K H ds vs->ks.length=vs.length->m6 (putD ks ds x .non).2=true ->
  (∀{d:D} {v:V},t_ d=true->Rep K H d v->Rep K H' d v)->Rep K H' e' y->(putD ks ds x e').1=ks/\l0 K H' (putD ks ds x e').2 vs
 | [],_,_,h,_,_,_,_,_,_=>by cases h
 | k::ks,[],_,h,_,_,_,_,_,_=>by cases h
 | k::ks,c::ds,vs,h,hl,r,hn,hb,kq,re=>by
  obtain⟨v,vr,rfl,r1,r2⟩:=r
  have h':(if k=x then some c else x_ ks ds x)=some e:=h
  have hl':List.lookup x ((k,v)::ks.zip vr)=some y:=hl
  by_cases hx:k=x
  ·subst hx
   rw[putD,if_pos rfl] at hb ⊢
   have hb':(t_ D.non&&m6 ds)=true:=hb
   rw[Bool.and_eq_true] at hb'
   have:v=y:=by simpa using hl'
   subst this
   exact⟨rfl,v,vr,rfl,re,l0.kqf kq hb'.2 r2⟩
  ·rw[if_neg hx] at h'
   rw[putD,if_neg hx] at hb ⊢
   have hb':(t_ c&&m6 (putD ks ds x .non).2)=true:=hb
   rw[Bool.and_eq_true] at hb'
   have hxk:(x==k)=false:=beq_eq_false_iff_ne.mpr (Ne.symm hx)
   rw[List.lookup_cons,hxk] at hl'
   obtain⟨g1,g2⟩:=jh h' hl' r2 (by simpa using hn) hb'.2 kq re
   exact⟨by show k::(putD ks ds x e').1=_;rw[g1],v,vr,rfl,kq hb'.1 r1,g2⟩
end
theorem FU{i:Nat}{ρ:R}{d:D}(h:e9 i ρ=some d):ρ[i]?=some (some d):=by
 have h:ρ.getD i none=some d:=h
 rw[List.getD_eq_getElem?_getD] at h
 cases e:ρ[i]? with
 | none=>rw[e] at h;cases h
 | some o=>rw[e] at h;cases o with | none=>cases h | some c=>cases h;rfl
theorem Gf{a b:D}(h1:AM a=true)(h2:AM b=true)(h:adr a=adr b):B0 a=B0 b:=by
 cases a with
 | obj k x ks ds =>
  cases b with
  | obj k' y ks' ds'=>exact(List.cons.inj h).1
  | _=>cases h2
 | _=>cases h1
section
variable{X:Cx}{pos:Pos}
structure z_ (P:Program) (w:World) (K:W.Frag) (mg:Str->Option Value) (base:Heap) (k:Nat) (x:Str) (ps:List Str) (j:Nat) (G:LD->Option (D×D)):Prop where
 ex:∃f fd,n5 P w K mg base ui k f fd ps (Jh K j G)/\mg x=some (.ref f)/\W.keepIn K (.ref f)=true/\Binds K fd ps []
structure LA (P:Program) (w:World) (K:W.Frag) (mg:Str->Option Value) (base:Heap) (k C:Nat) (m:Str) (ps:List Str) (G:LD->Option (D×D)):Prop where
 ex:∃f fd,n5 P w K mg base ui k f fd ps (Jh K 0 G)/\Nq K C m f/\Binds K fd ps []
structure K6 (P:Program) (w:World) (K:W.Frag) (mg:Str->Option Value) (base:Heap) (k C:Nat) (m:Str) (ps:List Str) (G:LD->OD):Prop where
 ex:∃f fd,n5 P w K mg base ui k f fd ps (uE K G)/\Nq K C m f/\Binds K fd ps []
theorem z_.m{P:Program}{w:World}{K:W.Frag}{mg:Str->Option Value}{base:Heap}{k k':Nat}{x:Str}{ps:List Str}{j:Nat}{G:LD->Option (D×D)}(h:z_ P w K mg base k x ps j G)(hk:k<=k':=by decide):z_ P w K mg base k' x ps j G:=by
 obtain⟨f,fd,a,b⟩:=h.ex
 exact⟨f,fd,a.mono hk,b⟩
theorem LA.m{P:Program}{w:World}{K:W.Frag}{mg:Str->Option Value}{base:Heap}{k k' C:Nat}{x:Str}{ps:List Str}{G:LD->Option (D×D)}(h:LA P w K mg base k C x ps G)(hk:k<=k':=by decide):LA P w K mg base k' C x ps G:=by
 obtain⟨f,fd,a,b⟩:=h.ex
 exact⟨f,fd,a.mono hk,b⟩
theorem K6.m{P:Program}{w:World}{K:W.Frag}{mg:Str->Option Value}{base:Heap}{k k' C:Nat}{x:Str}{ps:List Str}{G:LD->OD}(h:K6 P w K mg base k C x ps G)(hk:k<=k':=by decide):K6 P w K mg base k' C x ps G:=by
 obtain⟨f,fd,a,b⟩:=h.ex
 exact⟨f,fd,a.mono hk,b⟩
theorem ir{P:Program}{w:World}{K:W.Frag}{mg:Str->Option Value}{base:Heap}{x qual:Str}{st:Stmt}{f:Addr}{fd:FuncData}{N ps:List Str}{k j:Nat}{g:MU}
  (Fn:uu K x qual st f fd) (Sc:i7 N ps (i6 st))
  (hb:∀(cdv:Value) (A:Around) (outer:List Env) (s:Shared) (H:Hp) (E:XK),uB k (A.deeper (envOfC qual (i6 st) s.heap.objs.size f cdv))->HK (BZ ui P w K mg base N qual (i6 st) f cdv A outer s H E).nox (uO st) g) :
  n5 P w K mg base ui (k+1) f fd ps (Jh K j (Fh ps.length N.length j g)):=by
 refine Fn.ok Sc (fun vs H Q E h=>?_) (fun cdv A outer s H vs Q E hr h=>?_)
 ·obtain⟨ds,ob,d,o',r,hj,ho,e,_⟩:=h
  rw[<- r.length]
  unfold Fh at e
  split at e
  ·assumption
  ·cases e
 ·obtain⟨ds,ob,d,o',r,hj,ho,e,q⟩:=h
  unfold Fh at e
  split at e
  case isFalse=>cases e
  case isTrue hlen =>
  rw[hj,Option.bind_some,if_pos ho] at e
  obtain⟨mo,e1,e⟩:=i9 e
  obtain⟨v,hv,rv⟩:=r.get hj
  have ms:=FQ rv
  refine⟨_,hb cdv A outer s H E hr (adr ob),Cp N.length ds,_,mo,(Dg r).t,ms,e1,fun H1 k1 m1=>?_⟩
  cases mo with
  | rt d' ρ =>
   intro v rv ob1
   obtain⟨ob',e2,e⟩:=i9 e
   split at e
   ·rename_i hc
    obtain⟨rfl,rfl⟩:d'=d/\ob'=o':=by simpa using e
    have hat:ρ[j]?=some (some ob'):=FU e2
    have rr:=ob1 j ob' hat hc.1
    have ha:B0 ob'=B0 ob:=Gf hc.1 ho hc.2
    rw[ha] at rr
    exact q v H1 k1 m1 rv rr
   ·cases e
  | nx ρ =>
   intro σ' er'
   obtain⟨ob',e2,e⟩:=i9 e
   split at e
   ·rename_i hc
    obtain⟨rfl,rfl⟩:D.non=d/\ob'=o':=by simpa using e
    have hat:ρ[j]?=some (some ob'):=FU e2
    have rr:=(Mr.of er'.1) j ob' hat hc.1
    have ha:B0 ob'=B0 ob:=Gf hc.1 ho hc.2
    rw[ha] at rr
    exact q .non H1 k1 m1 rfl rr
   ·cases e
end
section
variable{X:Cx}{pos:Pos}
theorem EG{K:W.Frag}{S:List Nat}{H H1 H2:Hp}{ρ:R}{σ τ:L2.St}{i:Nat}{ob o':D}(er:uv K H ρ τ σ)(m:um S H)(hat:e9 i ρ=some ob)(ho:AM ob=true)(hn:tW i ρ=true)(hin:Gx S (adr ob)=true)(s1:l3 H H1)(kq:u0 (adr ob) H1 H2)(m2:um (adr ob) H2)
  (r:Rep K H2 o' (.ref (B0 ob))):u0 S H H2/\um S H2/\uv K H2 (ρ.set i (some o')) τ σ:=by
 have sub:=EH hin
 have kS:u0 S H1 H2:=kq.mono sub
 have m1:=m.same s1
 have mS:um S H2:=fun b hb=>by
  by_cases hba:b∈adr ob
  ·exact m2 b hba
  ·have hm:=m1 b hb
   cases e:H1 b with
   | none=>rw[e] at hm;exact hm.elim
   | some u=>rw[kq b u hba e];rw[e] at hm;exact hm
 obtain⟨v,hσ,rv⟩:=(er.mono s1).1.at hat
 rw[ph ho rv] at hσ
 exact⟨(u0.of s1).trans kS,mS,iy (er.mono s1) m1 kS hn hσ r⟩
theorem oe{F:R->Option LD}{G:LD->Option (D×D)}{S:List Nat}{i j:Nat}{ρ ρ':R}{σ τ:L2.St}{H:Hp}{d:D}{Q:VK}(hF:∀ ρ ds ob,F ρ=some ds->e9 i ρ=some ob->ds[j]?=some ob)(er:uv X.K H ρ τ σ)(m:um S H)(e:y4 i G F S ρ=some (d,ρ'))
  (q:∀v H',u0 S H H'->um S H'->Rep X.K H' d v->uv X.K H' ρ' τ σ->Q v H'):KF (Jh X.K j G) [] E0 (O6 X.K F) σ H Q:=by
 obtain⟨ob,hat,e⟩:=i9 e
 obtain⟨ds,e1,e⟩:=i9 e
 obtain⟨r,e2,e⟩:=i9 e
 split at e
 case isFalse=>cases e
 case isTrue hc =>
 obtain⟨ho,hn,hin⟩:=hc
 obtain⟨rfl,rfl⟩:r.1=d/\ρ.set i (some r.2)=ρ':=by simpa using e
 refine⟨ρ,ds,er.1,e1,fun vs H1 s1 r1=>?_⟩
 show Jh X.K j G (vs++[]) H1 Q E0
 rw[List.append_nil]
 refine⟨ds,ob,r.1,r.2,r1,hF ρ ds ob e1 hat,ho,e2,fun v H2 kq m2 rd ro=>?_⟩
 obtain⟨a,b,c⟩:=EG er m hat ho hn hin s1 kq m2 ro
 exact q v H2 a b rd c
variable{x:Str}{e:Expr}{es:List Expr}{F:R->Option LD}{G:LD->Option (D×D)}{k j:Nat}{ps:List Str}{p:Pos}
theorem MI{i:Nat}{F:R->Option LD}:∀ ρ ds ob,e8 (e9 i) F ρ=some ds->e9 i ρ=some ob->ds[0]?=some ob:=fun ρ ds ob h1 h2=>by
 obtain⟨d,e1,e2⟩:=i9 h1
 obtain⟨r,_,rfl⟩:=ud e2
 rw[h2] at e1;cases e1;rfl
theorem FK{i:Nat}{f:R->OD}{F:R->Option LD}:∀ ρ ds ob,e8 f (e8 (e9 i) F) ρ=some ds->e9 i ρ=some ob->ds[1]?=some ob:=fun ρ ds ob h1 h2=>by
 obtain⟨d,e1,e2⟩:=i9 h1
 obtain⟨r,e3,rfl⟩:=ud e2
 obtain⟨d',e4,e5⟩:=i9 e3
 obtain⟨r',_,rfl⟩:=ud e5
 rw[h2] at e4;cases e4;rfl
theorem gi(i:Nat)(C:z_ X.prog X.w X.K X.mg X.base k x ps j G)(hr:uB k X.A)(ha:SA X (e::es) F)(hF:∀ ρ ds ob,F ρ=some ds->e9 i ρ=some ob->ds[j]?=some ob){pos':Pos}(hg:Gl X x:=by rfl)(hdb:(x==("__debug__" : Str))=false:=by decide)
  (hs:swapsWith (.Call (.Name x p) (e::es) [] pos) none pos'.line X.env=pure false:=by rfl):MS X (.Expr (.Call (.Name x p) (e::es) [] pos) pos') (xo (y4 i G F)):=by
 have hst:=ha.2.2
 rw[List.all_cons,Bool.and_eq_true] at hst
 have he:=aK es X.env hst.1
 have hpl:=cP (pos:=pos) (env:=X.env) hst.2
 obtain⟨f,fd,a,m,kp,bd⟩:=C.ex
 refine fun S=>(rc (io a hr hg m kp bd .nil D7 ha.1 hdb he hpl) hs).imp fun E σ H ⟨ρ,τ,o,er,m,e,q⟩=>?_
 obtain⟨r,e1,rfl⟩:=ud e
 exact oe hF er m e1 fun v H' kq mS _ er'=>q H' kq mS σ er'
variable{C:Nat}{mn:Str}{apos:Pos}
end
theorem jV{es:LD}(h:m6 es=true):es.flatMap xu=[]:=by
 induction es with
 | nil=>rfl
 | cons d es ih =>
  have h':(t_ d&&m6 es)=true:=h
  rw[Bool.and_eq_true] at h'
  show xu d++es.flatMap xu=[]
  rw[lb h'.1,ih h'.2];rfl
theorem lG{x:Str}{l:Nat}:∀{ks:List Str} {ds:LD},m6 ds=true->(putD ks ds x (.obj 0 l [] [])).2.flatMap xu=[l]
 | [],ds,h=>by
  have:(putD [] ds x (.obj 0 l [] [])).2=ds++[.obj 0 l [] []]:=by cases ds<;>rfl
  rw[this,List.flatMap_append,jV h];rfl
 | k::ks,[],h=>rfl
 | k::ks,c::ds,h=>by
  have h':(t_ c&&m6 ds)=true:=h
  rw[Bool.and_eq_true] at h'
  by_cases hx:k=x
  ·rw[putD,if_pos hx]
   show [l]++ds.flatMap xu=[l]
   rw[jV h'.2];rfl
  ·rw[putD,if_neg hx]
   show xu c++(putD ks ds x (.obj 0 l [] [])).2.flatMap xu=[l]
   rw[lb h'.1,lG h'.2];rfl
section
variable{X:Cx}{pos:Pos}{C:Nat}{f:Str}
end
section
variable{X:Cx}
end
section
variable{K:W.Frag}{H H' H1 H2:Hp}{A S:List Nat}
theorem sE(m:um A H)(s:u0 A H H'):∀{d:D} {v:V},okN d=true->(∀b∈xu d,b∉A)->Rep K H d v->Rep K H' d v:=by
 intro d v h hA r
 match d,h,hA,r with
 | .obj 0 l ls es,h,hA,⟨xs,e,⟨z,its,n,rv,q⟩,t⟩=>exact⟨xs,e,⟨z,its,n,rv,s _ _ (hA l (List.mem_singleton.mpr rfl)) q⟩,l0.kq m s h t⟩
 | .obj (k+1) l ls es,h,_,_=>cases (show t_ (.obj (k+1) l ls es)=true from h)
 | .non,_,_,r=>exact r
 | .bl _,_,_,r=>exact r
 | .int _,_,_,r=>exact r
 | .str _,_,_,r=>exact r
 | .tup ds,h,_,r=>exact Rep.kq m s (d:=.tup ds) h r
 | .lst ds,h,_,r=>exact Rep.kq m s (d:=.lst ds) h r
 | .fro ds,h,_,r=>exact Rep.kq m s (d:=.fro ds) h r
theorem nN(m:um A H)(s:u0 A H H'):∀{ds:LD} {vs:List V},ds.all okN=true->(∀b∈ds.flatMap xu,b∉A)->l0 K H ds vs->l0 K H' ds vs
 | [],_,_,_,r=>r
 | d::ds,_,h,hA,r=>by
  rw[List.all_cons,Bool.and_eq_true] at h
  rw[List.flatMap_cons] at hA
  obtain⟨v,vr,e,r1,r2⟩:=r
  exact⟨v,vr,e,sE m s h.1 (fun b hb=>hA b (List.mem_append_left _ hb)) r1,nN m s h.2 (fun b hb=>hA b (List.mem_append_right _ hb)) r2⟩
theorem Rep.sep(m:um A H)(s:u0 A H H'):∀{d:D} {v:V},Pj A (some d)=true->Rep K H d v->Rep K H' d v:=by
 intro d v h r
 cases d with
 | obj k a ks es =>
  have h':((a::es.flatMap xu).all (fun x=>!A.contains x)&&es.all okN)=true:=h
  rw[Bool.and_eq_true] at h'
  have hA:∀b∈a::es.flatMap xu,b∉A:=fun b hb z=>by
   have:=List.all_eq_true.mp h'.1 b hb
   simp at this
   exact this z
  obtain⟨xs,e,q,t⟩:=r
  exact⟨xs,e,q.to fun u e' _=>s a u (hA a (.head _)) e',nN m s h'.2 (fun b hb=>hA b (.tail _ hb)) t⟩
 | _=>exact Rep.kq m s h r
end
section
variable{X:Cx}{pos:Pos}
variable{x:Str}{e:Expr}{es:List Expr}{F:R->Option LD}{G:LD->Option (D×D)}{k j:Nat}{ps:List Str}{p:Pos}
variable{C:Nat}{mn:Str}{apos:Pos}
end
section
variable{X:Cx}{pins pins0:List (Addr×Obj)}{σ σ0:L2.St}{H H0:Hp}{s s0:Shared}{l:Addr}{its:List Value}{n:Nat}{xs:List V}
theorem Pn(I:L2.Inv X pins σ H s)(h:H l=some (.frz {cls:=.type "list",data:=.seq its.toArray n} (.own 0)))(r:p9 xs its)(z:xs.length<=sizeLine):L2.Inv X pins σ (upd H l (.frz {cls:=.type "list",data:=.seq its.toArray n} (.lst xs))) s:=by
 have e:=(I.hok l _ h).1
 exact I.write (t':=s.toks) (h':=s.heap) (o:=.frz {cls:=.type "list",data:=.seq its.toArray n} (.lst xs)) (x:=l) (e:=l) (by rw[h];trivial) (.inl rfl) (fun _ _ _ q=>q) ⟨_,e⟩ ⟨e,z,its,n,r,e⟩
theorem LO{o:Obj}(I0:L2.Inv X pins0 σ0 H0 s0)(h0:H0 l=some (.frz o (.own 0)))(I:L2.Inv X pins σ H s)(h:H l=some (.frz o (.lst xs))):L2.Inv X pins σ (upd H l (.frz o (.own 0))) s:=by
 have e:=(I.hok l _ h).1
 have ne:∀{b:Addr},H b=none->b≠l:=fun {b} hb z=>by rw[z,h] at hb;cases hb
 refine⟨I.ok,I.os,I.bare,⟨I.base.keep,I.base.slot,fun b ob q nn hx=>?_,I.base.there,fun b ys q=>?_,fun b ob u ny q=>?_,fun b ps d q=>?_⟩,I.loc,I.cell,?_,fun y c hc=>?_,fun p hp=>?_,fun b u q=>?_,I.len⟩
 ·have z:=I.base.free b ob q nn hx
  rw[au (ne z)];exact z
 ·have z:=I.base.tups b ys q
  rw[au fun w=>by rw[w,h] at z;cases z];exact z
 ·have z:=I.base.frzs b ob u ny q
  rw[au fun w=>?_]
  ·exact z
  ·have z0:=I0.base.frzs b ob u ny q
   rw[w,h0] at z0
   cases z0
   exact ny 0 rfl
 ·have z:=I.base.tbls b ps d q
  rw[au fun w=>by rw[w,h] at z;cases z];exact z
 ·rw[au (ne I.free)];exact I.free
 ·rw[au (ne (I.freeC y c hc))];exact I.freeC y c hc
 ·obtain⟨p1,p2,p3⟩:=I.pin p hp
  exact⟨p1,by rw[au (ne p2)];exact p2,p3⟩
 ·by_cases hb:b=l
  ·subst hb
   rw[ax] at q
   cases q
   exact⟨e,_,e⟩
  ·rw[au hb] at q
   refine(I.hok b u q).stay (fun c v _ r=>r) (fun c r=>?_) (fun c ys r=>?_) fun c _ _ r=>?_
   ·rw[au fun w=>by rw[w,h] at r;cases r];exact r
   ·rw[au fun w=>by rw[w,h] at r;cases r];exact r
   ·rw[au fun w=>by rw[w,h] at r;cases r];exact r
end
section
variable{K:W.Frag}{H:Hp}{l:Addr}{o:Obj}{ys:List V}{u:HO}
mutual
theorem Rep.nof(h:H l=some (.frz o (.lst ys))):∀{d:D} {v:V},nof d=true->Rep K H d v->Rep K (upd H l u) d v
 | .non,_,_,r=>r
 | .bl _,_,_,r=>r
 | .int _,_,_,r=>r
 | .str _,_,_,r=>r
 | .tup ds,_,hn,r=>by
  obtain⟨a,xs,e,q,t⟩:=r
  refine⟨a,xs,e,?_,l0.nof h hn t⟩
  rcases q with (q | ⟨o',q⟩) | q
  ·exact .inl (.inl (by rw[au fun w=>by rw[w,h] at q;cases q];exact q))
  ·exact .inl (.inr ⟨o',by rw[au fun w=>by rw[w,h] at q;cases q];exact q⟩)
  ·exact .inr q
 | .lst ds,_,hn,r=>by
  obtain⟨a,xs,e,q,t⟩:=r
  exact⟨a,xs,e,by rw[au fun w=>by rw[w,h] at q;cases q];exact q,l0.nof h hn t⟩
 | .fro _,_,hn,_=>by cases hn
 | .obj ..,_,hn,_=>by cases hn
theorem l0.nof(h:H l=some (.frz o (.lst ys))):∀{ds:LD} {vs:List V},nofs ds=true->l0 K H ds vs->l0 K (upd H l u) ds vs
 | [],_,_,r=>r
 | d::ds,_,hn,r=>by
  have hn':(HW.nof d&&nofs ds)=true:=hn
  rw[Bool.and_eq_true] at hn'
  obtain⟨v,vr,e,r1,r2⟩:=r
  exact⟨v,vr,e,Rep.nof h hn'.1 r1,l0.nof h hn'.2 r2⟩
end
end
section
variable{X:Cx}{pos:Pos}
end
end HW
namespace HW
open PySem
def q9:D->D->OD
 | .obj k _ ks ds,.str x=>if k=1 then x_ ks ds x else none
 | _,_=>none
def n8(i:Nat)(x:Str)(f:R->OD):MU:=fun S ρ=>(f ρ).bind fun d=>match e9 i ρ with
 | some (.obj k a ks ds)=>if k=1/\t_ d=true/\tW i ρ=true/\Gx S (a::ds.flatMap xu)=true/\ks.length<100/\ds.all okN=true/\(x_ ks ds x).all t_=true/\ks.Nodup then some (.nx (ρ.set i (some (.obj 1 a (putD ks ds x d).1 (putD ks ds x d).2)))) else none
 | _=>none
def x9(i:Nat)(x:Str)(f:R->OD):MU:=fun S ρ=>(f ρ).bind fun d=>match e9 i ρ with
 | some (.obj k a ks ds)=>match x_ ks ds x with
  | some (.obj 0 l ls es)=>if k=1/\t_ d=true/\tW i ρ=true/\Gx S (a::ds.flatMap xu)=true/\es.length<100000/\m6 es=true/\m6 (putD ks ds x .non).2=true/\S.contains l=true then some (.nx (ρ.set i (some (.obj 1 a (putD ks ds x (.obj 0 l ls (es++[d]))).1 (putD ks ds x (.obj 0 l ls (es++[d]))).2)))) else none
  | _=>none
 | _=>none
def Cz(i:Nat)(x:Str)(F:R->OD):R->OD:=fun ρ=>match e9 i ρ with
 | some (.obj k a ks ds)=>match x_ ks ds x with
  | some (.obj 0 l ls es)=>if k=1/\tW i ρ=true/\m6 es=true/\m6 (putD ks ds x .non).2=true then (F (ρ.set i (some (.obj 1 a (putD ks ds x (.fro es)).1 (putD ks ds x (.fro es)).2)))).bind fun d=>if nof d then some d else none else none
  | _=>none
 | _=>none
noncomputable def y_(j:Nat)(ρ:R):Bool:=match ρ[j]? with
 | some none=>true
 | _=>false
def Ej(j:Nat)(k1 k2 k3:Str)(f1 f2 f3 e f:R->OD):R->OD:=fun ρ=>(f1 ρ).bind fun d1=>(f2 ρ).bind fun d2=>(f3 ρ).bind fun d3=>(e ρ).bind fun q=>(f ρ).bind fun d=>match q with
 | .str z=>if y_ j ρ=true/\m6 [d1,d2,d3]=true/\k1≠k2/\k1≠k3/\k2≠k3 then some (if z=k1 then d1 else if z=k2 then d2 else if z=k3 then d3 else d) else none
 | _=>none
noncomputable def zI:LD->Option (List Str)
 | []=>some []
 | .str x::ds=>(zI ds).map (x::·)
 | _=>none
abbrev NK:=R->Nat->Nat->OD
def EW(p:R->Option Out)(w:NK):NK:=fun ρ a l=>(p ρ).bind fun o=>match o with
 | .nx ρ2=>w ρ2 a l
 | _=>none
def Bm(i:Nat)(f1 f2:R->OD)(k:Str)(f:R->OD)(k':Str):NK:=fun ρ a l=>(f1 ρ).bind fun x=>(f2 ρ).bind fun y=>(f ρ).bind fun d=>match x,y with
  | .tup xs,.tup ys=>(zI xs).bind fun ks=>if (ks.Nodup/\ks.length=ys.length/\0<ks.length/\ks.length<50)/\m6 ys=true/\t_ d=true/\y_ i ρ=true/\(putD ks ys k d).1.Nodup then
    some (.obj 1 a (putD (putD ks ys k d).1 (putD ks ys k d).2 k' (.obj 0 l [] [])).1 (putD (putD ks ys k d).1 (putD ks ys k d).2 k' (.obj 0 l [] [])).2) else none
  | _,_=>none
def D4(n N:Nat)(w:NK)(ds:LD)(a l:Nat):OD:=if ds.length=n then w (Cp N ds) a l else none
def Pu(i:Nat):MO->Out
 | .rt d _=>.rt d
 | .nx ρ=>.nx (ρ.set i none)
def Jw(i:Nat)(mk:LD->Nat->Nat->OD)(ds:LD)(w:MU)(ρ:R)(o:Out):Prop:=∀a l,a≠l->∃ob mo,mk ds a l=some ob/\w [a,l] (ρ.set i (some ob))=some mo/\Pu i mo=o
def Gz(i:Nat)(mk:LD->Nat->Nat->OD)(F:R->Option LD)(w:MU):R->Option Out:=fun ρ=>(F ρ).bind fun ds=>open Classical in
 if h:i<ρ.length/\∃o,Jw i mk ds w ρ o then some h.2.choose else none
theorem Kc{i:Nat}{mk:LD->Nat->Nat->OD}{F:R->Option LD}{w:MU}{ρ:R}{ds:LD}{o:Out}(h1:F ρ=some ds)(hi:i<ρ.length)(h2:Jw i mk ds w ρ o):Gz i mk F w ρ=some o:=by
 unfold Gz
 rw[h1,Option.bind_some,dif_pos ⟨hi,o,h2⟩]
 obtain⟨ob,mo,e1,e2,e3⟩:=(show ∃o,Jw i mk ds w ρ o from⟨o,h2⟩).choose_spec 0 1 (by decide)
 obtain⟨ob',mo',e4,e5,e6⟩:=h2 0 1 (by decide)
 rw[e1] at e4;cases e4
 rw[e2] at e5;cases e5
 exact congrArg some (e3.symm.trans e6)
theorem Jb{i:Nat}{mk:LD->Nat->Nat->OD}{F:R->Option LD}{w:MU}{ρ:R}{o:Out}(h:Gz i mk F w ρ=some o):∃ds,F ρ=some ds/\i<ρ.length/\Jw i mk ds w ρ o:=by
 unfold Gz at h
 cases e:F ρ with
 | none=>rw[e] at h;cases h
 | some ds =>
  rw[e,Option.bind_some] at h
  split at h
  ·rename_i q
   cases h
   exact⟨ds,rfl,q.1,q.2.choose_spec⟩
  ·cases h
def Iq:LD->OD
 | [.fro xs]=>some (.tup xs)
 | _=>none
theorem fZ{M:Model}{A:Around}{E:Value->Shared->Prop}{s:Shared}{a:Addr}{Q:Option Obj->Shared->Prop}(h:Q (s.heap.get? a) s):wpAny M A (loadIfAlive a) Q E s:=by
 intro Γ p hp
 unfold loadIfAlive
 rw[Sem.wp_loadIfAlive]
 exact h
theorem yL:typeLookup (.type "zip") "__getattr__" = pure none:=by rw[typeLookup_type,builtinLookup_eq_fast];kernel_rfl
theorem zU:typeLookup (.type "zip") "keys" = pure none:=by rw[typeLookup_type,builtinLookup_eq_fast];kernel_rfl
theorem wR:entryFor table "zip.__getattribute__" = some Builtin.«object.__getattribute__»:=
 entryFor_alias (id':="object.__getattribute__") (by kernel_rfl) (by decide +kernel) (by decide +kernel) (by kernel_rfl)
theorem wq(a:Addr)(fs:Array Value)(name:Str)(u:Tok)(hmiss:typeLookup (.type "zip") name=pure none)(hname:(["__module__","__name__","__qualname__","__doc__","__annotations__"]:List Str).contains name=false)(hsz:name.length+100<=sizeLine:=by size_fits) :
  Meets (Builtin.«object.__getattribute__» ⟨[.ref a,.str name u],[]⟩) (fun A R s=>s.heap.get? a=some {cls:=.type "zip",dict:=none,data:=.fields fs,slots:=#[]}/\raisesAttr (.ref a) name A R s):=
 Meets.of_wp fun prog w A R s hs=>by
  obtain⟨hp,g,d,tk,os⟩:=s
  obtain⟨hx,hs⟩:=hs
  have hT:(⟨hp,g,d,tk,os⟩:Shared).TypeIs (.ref a) "zip":=⟨_,hx,rfl⟩
  unfold Builtin.«object.__getattribute__»
  repeat (any_goals (first | assumption | wp_step))
  simp only[hname,Bool.false_eq_true,if_false]
  repeat (any_goals (first | assumption | wp_step))
  exact wpAny_raiseAttrError hs.1 hs.2 (attrMsg_fits (by decide +kernel) hsz)
theorem yZ{prog:Program}{w:World}{A:Around}{E:Value->Shared->Prop}{s:Shared}{a:Addr}{fs:Array Value}{tk:Tok}{Q:Value->Shared->Prop}
  (hx:s.heap.get? a=some {cls:=.type "zip",dict:=none,data:=.fields fs,slots:=#[]}) (hA:A.handled=none)
  (h:∀h' tk e,Heap.NewExcOf s.heap h' e "AttributeError" -> E (.ref e) {s with heap:=h',toks:=tk}) :
  wpAny (model prog w) A (getAttrBy (.ref a) (.str "keys" tk) false) Q E s:=by
 have hsz:Str.length "keys" + 100<=sizeLine:=by size_fits
 have hname:(["__module__","__name__","__qualname__","__doc__","__annotations__"]:List Str).contains "keys" = false:=by decide +kernel
 obtain⟨hp,g,d,tk,os⟩:=s
 have hT:∀tk',(⟨hp,g,d,tk',os⟩:Shared).TypeIs (.ref a) "zip":=fun _=>⟨_,hx,rfl⟩
 have f1:=sub_AttributeError
 have f3:=F.slot_zip_getattribute.lookup
 have f4:=F.slot_zip_getattribute.bind (.ref a)
 have f5:=yL
 unfold getAttrBy
 repeat (any_goals (first | assumption | exact hT _ | ((with_reducible show wpAny _ _ (call (Value.builtin "zip.__getattribute__") _ _) _ _ _);refine call_meets F.slot_zip_getattribute (hT _) wR (F.args_zip_getattribute_2 _ _) (wq a fs "keys" _ zU hname hsz) ⟨hx,hA,fun h' tk' e hx'=>?_⟩) | wp_step))
 obtain⟨t',u',he⟩:=hx'.there
 show wpAny _ _ (getattributeRaised _ _ _ _ _ _ _) _ _ _
 unfold getattributeRaised
 repeat (any_goals (first | assumption | wp_step))
 exact h _ _ _ hx'.of
abbrev xG(h:Heap)(z TI TO p:Addr)(b:Bool):Prop:=
 h.get? z=some {cls:=.type "zip",dict:=none,data:=.fields #[rawInt p,.bool b,.bool false,.ref TI,.ref TO],slots:=#[]}
section
variable{prog:Program}{w:World}{A:Around}{E:Value->Shared->Prop}
variable{Good:Heap->Nat->Prop}{s:Shared}{z TI TO i1 i2 p:Addr}{b:Bool}{op:Obj}{st1 st1' st2 st2':Heap->Prop}{P1 P2:Value->Prop}
theorem hV{Q:Bool->Shared->Prop}(hz:xG s.heap z TI TO p b)(hp:s.heap.get? p=some op)(hQ:∀h1,xG h1 z TI TO p true->(∀c o,c≠z->s.heap.get? c=some o->h1.get? c=some o)->Q false {s with heap:=h1}) :
  wpAny (model prog w) A (Builtin.SmallTypes.ownedTupleIsFree (.ref z)) Q E s:=by
 unfold Builtin.SmallTypes.ownedTupleIsFree
 refine wpAny_bind (wpAny_field hz rfl (x:=rawInt p) rfl ?_)
 show wpAny _ _ (loadIfAlive (Int.toNat (p:Int)) >>= _) _ _ _
 refine wpAny_bind (fZ ?_)
 rw[Int.toNat_natCast,hp]
 simp only[Option.isNone_some,Bool.false_eq_true,if_false]
 refine wpAny_bind (wpAny_field hz rfl (x:=.bool b) rfl ?_)
 cases b with
 | true =>
  simp only[bne_self_eq_false,Bool.false_eq_true,if_false]
  exact wpAny_pure (hQ _ hz fun _ _ _ e=>e)
 | false =>
  rw[if_pos (by decide)]
  refine wpAny_bind (wpAny_setField_rec hz (by simp) fun h1 z1 s1=>wpAny_pure (hQ h1 ?_ s1.extBut))
  exact z1
theorem nZ{Q:Value->Shared->Prop}(D:Ap z TI TO i1 i2)(hz:xG s.heap z TI TO p b)(hp:s.heap.get? p=some op)(hI:IsPair s.heap TI (.ref i1) (.ref i2))
  (g0:Good s.heap s.toks) (cl:Cl Good [z,TO,i1,i2]) (n1:Nx prog w A (u9 s) Good i1 st1 st1' P1) (n2:Nx prog w A (u9 s) Good i2 st2 st2' P2) (q1:st1 s.heap) (q2:st2 s.heap)
  (hQ:∀h5 tk u1 u2,Good h5 tk->P1 u1->P2 u2->xG h5 z TI TO p true->IsPair h5 TI (.ref i1) (.ref i2)->st1' h5->st2' h5->Q (.ref h5.objs.size) (u9 s (h5.push {cls:=.type "tuple",data:=.seq #[u1,u2]}) tk)) :
  wpAny (model prog w) A (Builtin.«zip.__next__» ⟨[.ref z],[]⟩) (fun fin s'=>∃v,fin=.done (.ret v)/\Q v s') E s:=by
 show wpAny _ _ (field (.ref z) 2 >>= _) _ _ _;refine wpAny_bind (wpAny_field hz rfl (x:=.bool false) rfl ?_)
 show wpAny _ _ (field (.ref z) 3 >>= _) _ _ _;refine wpAny_bind (wpAny_field hz rfl (x:=.ref TI) rfl ?_)
 refine wpAny_bind (wpAny_seqItems hI rfl ?_);show wpAny _ _ (Builtin.SmallTypes.ownedTupleIsFree (.ref z) >>= _) _ _ _
 refine wpAny_bind (hV hz hp fun h1 hz1 e1=>?_)
 simp only[Bool.false_eq_true,if_false]
 have g1:Good h1 s.toks:=cl z (by simp) _ _ _ _ g0 e1
 refine wpAny_bind ?_
 simp only[List.forIn_toArray,<- Array.forIn_toList,List.forIn_cons,List.forIn_nil]
 refine wpAny_bind (wpAny_bind (wpAny_holding ?_))
 show wpAny _ _ (Builtin.SmallTypes.nextOf (.ref i1) >>= _) _ _ _
 refine wpAny_bind (n1.run h1 s.toks _ _ g1 (n1.stay _ _ q1 fun o=>e1 _ o D.a3) fun u1 h2 tk2 p1 t1 s2=>wpAny_pure ?_)
 have e2:∀b o,b≠i1->h1.get? b=some o->h2.get? b=some o:=s2.extBut
 have g2:Good h2 tk2:=cl i1 (by simp) _ _ _ _ g1 e2
 refine wpAny_pure ?_
 refine wpAny_bind (wpAny_bind (wpAny_holding ?_))
 show wpAny _ _ (Builtin.SmallTypes.nextOf (.ref i2) >>= _) _ _ (u9 s h2 tk2)
 refine wpAny_bind (n2.run h2 tk2 _ _ g2 (n2.stay _ _ q2 fun o q=>e2 _ o D.b1.symm (e1 _ o D.a4 q)) fun u2 h4 tk4 p2 t2 s4=>wpAny_pure ?_)
 have e4:∀b o,b≠i2->h2.get? b=some o->h4.get? b=some o:=s4.extBut
 have g4:Good h4 tk4:=cl i2 (by simp) _ _ _ _ g2 e4
 refine wpAny_pure (wpAny_pure ?_)
 refine wpAny_bind (wpAny_newTuple (s:=u9 s h4 tk4) ?_ (show 2<=sizeLine by decide))
 exact wpAny_pure ⟨_,rfl,hQ h4 tk4 u1 u2 g4 p1 p2 (e4 _ _ D.a4.symm (e2 _ _ D.a3.symm hz1)) (e4 _ _ D.a7 (e2 _ _ D.a6 (e1 _ _ D.a1 hI))) (n1.stay' _ _ t1 fun o q=>e4 _ o D.b1 q) t2⟩
theorem oI{Q:Fin->Shared->Prop}(D:Ap z TI TO i1 i2)(hz:xG s.heap z TI TO p b)(hp:s.heap.get? p=some op)(hI:IsPair s.heap TI (.ref i1) (.ref i2))
  (g0:Good s.heap s.toks) (cl:Cl Good [z,TO,i1,i2]) (q1:st1 s.heap) (n:Ne prog w A (u9 s) Good i1 st1)
  (hE:∀h' tk e,Good h' tk->(∃o,h'.get? e=some o/\o.cls=.type "StopIteration")->E (.ref e) (u9 s h' tk)) :
  wpAny (model prog w) A (Builtin.«zip.__next__» ⟨[.ref z],[]⟩) Q E s:=by
 show wpAny _ _ (field (.ref z) 2 >>= _) _ _ _;refine wpAny_bind (wpAny_field hz rfl (x:=.bool false) rfl ?_)
 show wpAny _ _ (field (.ref z) 3 >>= _) _ _ _;refine wpAny_bind (wpAny_field hz rfl (x:=.ref TI) rfl ?_)
 refine wpAny_bind (wpAny_seqItems hI rfl ?_);show wpAny _ _ (Builtin.SmallTypes.ownedTupleIsFree (.ref z) >>= _) _ _ _
 refine wpAny_bind (hV hz hp fun h1 hz1 e1=>?_)
 simp only[Bool.false_eq_true,if_false]
 have g1:Good h1 s.toks:=cl z (by simp) _ _ _ _ g0 e1
 refine wpAny_bind ?_
 simp only[List.forIn_toArray,<- Array.forIn_toList,List.forIn_cons,List.forIn_nil]
 refine wpAny_bind (wpAny_bind (wpAny_holding ?_))
 show wpAny _ _ (Builtin.SmallTypes.nextOf (.ref i1) >>= _) _ _ _
 refine wpAny_bind (n.run h1 s.toks _ _ g1 (n.stay _ _ q1 fun o=>e1 _ o D.a3) fun h2 e s2 he=>?_)
 exact hE h2 s.toks e (cl i1 (by simp) _ _ _ _ g1 s2) he
theorem lT{Q:Value->Shared->Prop}(D:Ap z TI TO i1 i2)(hz:xG s.heap z TI TO p b)(hp:s.heap.get? p=some op)(hI:IsPair s.heap TI (.ref i1) (.ref i2))
  (g0:Good s.heap s.toks) (cl:Cl Good [z,TO,i1,i2]) (n1:Nx prog w A.in1 (u9 s) Good i1 st1 st1' P1) (n2:Nx prog w A.in1 (u9 s) Good i2 st2 st2' P2) (q1:st1 s.heap) (q2:st2 s.heap)
  (hQ:∀h5 tk u1 u2,Good h5 tk->P1 u1->P2 u2->xG h5 z TI TO p true->IsPair h5 TI (.ref i1) (.ref i2)->st1' h5->st2' h5->Q (.ref h5.objs.size) (u9 s (h5.push {cls:=.type "tuple",data:=.seq #[u1,u2]}) tk)) :
  wpAny (model prog w) A (pyNext (.ref z)) (fun r s'=>∃v,r=some v/\Q v s') E s:=by
 have hT:s.TypeIs (.ref z) "zip":=⟨_,hz,rfl⟩
 unfold pyNext
 exact wpAny_bind (wpAny_attempt (wpAny_callSpecial?_slot (name:=oS "__next__") hT F.slot_zip_next (wpAny_call_entry F.slot_zip_next hT F.entry_zip_next
   (nZ (Q:=fun v s'=>_) D hz hp hI g0 cl n1 n2 q1 q2 fun h5 tk u1 u2 c1 c2 c3 c4 c5 c7 c8=>wpAny_pure ⟨_,rfl,hQ h5 tk u1 u2 c1 c2 c3 c4 c5 c7 c8⟩) (F.args_zip_next_1 _))))
theorem mI{Q:Option Value->Shared->Prop}(D:Ap z TI TO i1 i2)(hz:xG s.heap z TI TO p b)(hp:s.heap.get? p=some op)(hI:IsPair s.heap TI (.ref i1) (.ref i2))
  (g0:Good s.heap s.toks) (cl:Cl Good [z,TO,i1,i2]) (q1:st1 s.heap) (n:Ne prog w A.in1 (u9 s) Good i1 st1)
  (hQ:∀h' tk,Good h' tk->Q none (u9 s h' tk)):wpAny (model prog w) A (pyNext (.ref z)) Q E s:=by
 have hT:s.TypeIs (.ref z) "zip":=⟨_,hz,rfl⟩
 unfold pyNext
 refine wpAny_bind (wpAny_attempt (wpAny_callSpecial?_slot (name:=oS "__next__") hT F.slot_zip_next (wpAny_call_entry F.slot_zip_next hT F.entry_zip_next
  (oI D hz hp hI g0 cl q1 n fun h' tk e gg he=>?_) (F.args_zip_next_1 _))))
 obtain⟨o,ho,hc⟩:=he
 exact wpAny_bind (wpAny_isInstance (s:=u9 s h' tk) (T:="StopIteration") (b:=true) ⟨o,ho,hc⟩ isSubtype_stop (wpAny_pure (hQ _ _ gg)))
theorem zD{fs:Array Value}{Q:Option Value->Shared->Prop}(hx:s.heap.get? z=some {cls:=.type "zip",dict:=none,data:=.fields fs,slots:=#[]})(hA:A.handled=none)
  (h:∀h' tk,(∀c o,s.heap.get? c=some o->h'.get? c=some o)->Q none {s with heap:=h',toks:=tk}):wpAny (model prog w) A (getAttr? (.ref z) "keys") Q E s:=by
 unfold getAttr? getAttrBy?
 refine wpAny_bind (wpAny_mkText ?_)
 refine wpAny_bind (wpAny_attempt (yZ (s:={s with toks:=s.toks+1}) hx hA fun h' tk e he=>?_))
 obtain⟨ob,vs,ho,hc,_⟩:=he.there
 exact wpAny_bind (wpAny_isInstance (s:={s with heap:=h',toks:=tk}) (T:="AttributeError") (b:=true) ⟨ob,ho,hc⟩ sub_AttributeError (wpAny_pure (h h' tk he.keeps)))
end
end HW
namespace HW
open PySem PySem.Spec PyProof.Rows L2
theorem wu:plainId "dict.update.loop" = true:=by decide +kernel
theorem Aa:entryFor table "dict.update.loop" = some Builtin.«dict.update.loop»:=entryFor_of_fast (by kernel_rfl)
section
variable{X:Cx}{pins:List (Addr×Obj)}{σ:L2.St}{s:Shared}{A:Around}{E:Value->Shared->Prop}{H:Hp}{d T:Addr}{kvs:List (Key×V)}{k:Str}{v:V}{u1 u2:Value}
theorem Iz{Q:Unit->Shared->Prop}(I:L2.Inv X pins σ H s)(e:H d=some (.dK kvs))(hl:kvs.length<sizeLine)(r1:RelV (.str k) u1)(r2:RelV v u2)
  (hQ:∀h',L2.Inv X pins σ (upd H d (.dK (putK kvs (.inr k) v))) {s with heap:=h',toks:=s.toks+1}->Heap.SameBut d s.heap h'->Q () {s with heap:=h',toks:=s.toks+1}) :
  wpAny (model X.prog X.w) A (dictSet d u1 u2) Q E s:=by
 obtain⟨z,hd,vs,rel,dd⟩:=nS I.hok e
 have hz:vs.length<=sizeLine:=by rw[<- rel.length];exact z
 have hl':(putK kvs (.inr k) v).length<=sizeLine:=by have:=v4 kvs (.inr k) v;omega
 refine wpAny_dictSet_pairs (knd:=ua X.prog X.w) (k:=.inr k) (hsz:=hz) (B9 (k:=.inr k) r1) dd fun h' dd' hs=>hQ h' ?_ hs
 have he:∃q,h'.get? d=some q:=let ⟨q,_,_,hq,_⟩:=dd';⟨q,hq⟩
 exact iD I (by rw[e];exact True.intro) hs he (mL hl' hd (rel.put (.inr k) r2) dd')
theorem D2{Q:Unit->Shared->Prop}{n:Int}(I:L2.Inv X pins σ H s)(e:H d=some (.dK kvs))(hl:kvs.length<sizeLine)(hT:IsPair s.heap T u1 u2)(r1:RelV (.str k) u1)(r2:RelV v u2)
  (hQ:∀h',L2.Inv X pins σ (upd H d (.dK (putK kvs (.inr k) v))) {s with heap:=h',toks:=s.toks+1}->Heap.SameBut d s.heap h'->Q () {s with heap:=h',toks:=s.toks+1}) :
  wpAny (model X.prog X.w) A (holding [Value.ref T] do
   let pair <- (Builtin.Dict.pairItems (.ref T)).tryCatch fun e=>do
    if !(<- isInstance e (.type "TypeError")) then throw e
    rule "dict.update.element-no-sequence"
    raiseError "TypeError" s!"cannot convert dictionary update sequence element #{n} to a sequence"
   match pair with
   | [k,v]=>holding [k,v] (dictSet d k v)
   | l =>
    rule "dict.update.element-length"
    raiseError "ValueError" s!"dictionary update sequence element #{n} has length {l.length}; 2 is required") Q E s:=by
 have hTy:s.TypeIs (.ref T) "tuple":=⟨_,hT,rfl⟩
 refine wpAny_holding (wpAny_bind (wpAny_tryCatch ?_))
 unfold Builtin.Dict.pairItems
 refine wpAny_bind (wpAny_typeOf hTy ?_)
 rw[if_pos (by decide)]
 refine wpAny_bind (wpAny_seqItems hT rfl (wpAny_pure ?_))
 refine wpAny_holding ?_
 exact Iz I e hl r1 r2 hQ
end
theorem jZ{H:Hp}{d:Addr}{a b:HO}:upd (upd H d a) d b=upd H d b:=by
 funext c
 by_cases h:c=d
 ·rw[h,ax,ax]
 ·rw[au h,au h,au h]
theorem Ic{kvs:List (Key×V)}{k:Key}(h:k∉kvs.map (·.1)):wO kvs k=none:=by
 induction kvs with
 | nil=>rfl
 | cons p r ih =>
  rw[List.map_cons,List.mem_cons,not_or] at h
  rw[vv (Ne.symm h.1)]
  exact ih h.2
theorem kW{ks:List Str}{vs:List V}{i:Nat}{k:Str}{v:V}(hn:ks.Nodup)(hk:ks[i]?=some k)(hv:vs[i]?=some v) :
  putK (((ks.map (Sum.inr:Str->Key)).zip vs).take i) (.inr k) v=((ks.map (Sum.inr:Str->Key)).zip vs).take (i+1):=by
 have hz:((ks.map (Sum.inr:Str->Key)).zip vs)[i]?=some (.inr k,v):=by
  rw[List.getElem?_zip_eq_some]
  exact⟨by rw[List.getElem?_map,hk];rfl,hv⟩
 rw[Ht,List.take_add_one,hz]
 ·rfl
 refine Ic fun hm=>?_
 obtain⟨q,hq,e⟩:=List.mem_map.mp hm
 obtain⟨j,hj,e2⟩:=List.getElem_of_mem hq
 rw[List.length_take] at hj
 have hji:j<i:=by omega
 have e3:((ks.map (Sum.inr:Str->Key)).zip vs)[j]?=some q:=by
  rw[List.getElem_take] at e2
  rw[<- e2];exact List.getElem?_eq_getElem (by omega)
 rw[List.getElem?_zip_eq_some] at e3
 have e4:=e3.1
 rw[List.getElem?_map,e] at e4
 obtain⟨k',e5,e6⟩:=ud e4
 cases e6
 have hi:i<ks.length:=(List.getElem?_eq_some_iff.mp hk).1
 have a:=List.getElem?_eq_some_iff.mp e5
 have b:=List.getElem?_eq_some_iff.mp hk
 exact List.pairwise_iff_getElem.mp hn j i a.1 hi hji (by rw[a.2,b.2])
def ZB(S T:Src)(z TI TO i1 i2 p:Addr)(i:Nat)(b:Bool)(h:Heap):Prop:=xG h z TI TO p b/\IsPair h TI (.ref i1) (.ref i2)/\S.at i1 i h/\T.at i2 i h
section
variable{X:Cx}{pins:List (Addr×Obj)}{σ:L2.St}{s:Shared}{A:Around}{E:Value->Shared->Prop}{H0:Hp}{S T:Src}{z TI TO i1 i2 p d:Addr}{ks:List Str}{vs pq:List V}{R:Result->Shared->Prop}{res:Value}
theorem GZ(D:Ap z TI TO i1 i2)(hh:A.handled=none)(hlen:ks.length=vs.length)(hnd:ks.Nodup)(hsz:ks.length<=sizeLine)
  (hS:∀kvs i k,ks[i]?=some k->S.go X.K i (upd H0 d (.dK kvs)) (.str k)) (hT:∀kvs i v,vs[i]?=some v->T.go X.K i (upd H0 d (.dK kvs)) v) (hE:∀kvs,S.stop X.K ks.length (upd H0 d (.dK kvs)))
  (hp:H0 p=some (.tup pq)) (hpd:p≠d) (hf:∀c ∈ [z,TI,TO,i1,i2],yM X pins H0 c/\c≠d) :
  ∀(m i:Nat) (h:Heap) (tk:Nat) (b:Bool),ks.length - i=m->i<=ks.length->L2.Inv X pins σ (upd H0 d (.dK (((ks.map Sum.inr).zip vs).take i))) (u9 s h tk)->ZB S T z TI TO i1 i2 p i b h ->
   (∀h' tk',L2.Inv X pins σ (upd H0 d (.dK ((ks.map Sum.inr).zip vs))) (u9 s h' tk')->R (.ok (.ret res)) (u9 s h' tk')) ->
   codeAny (model X.prog X.w) A (.builtin "dict.update.loop" ⟨[.ref d,.ref z,rawInt i,res],[]⟩) R (u9 s h tk):=by
 intro m
 induction m with
 | zero =>
  intro i h tk b hm hi I ⟨q1,q2,q3,q4⟩ hR
  have hin:i=ks.length:=by omega
  subst hin
  have hfull:((ks.map (Sum.inr:Str->Key)).zip vs).take ks.length=(ks.map Sum.inr).zip vs:=List.take_of_length_le (by rw[List.length_zip,List.length_map];omega)
  rw[hfull] at I
  have cl:Cl (fun h tk=>L2.Inv X pins σ (upd H0 d (.dK ((ks.map Sum.inr).zip vs))) (u9 s h tk)) [z,TO,i1,i2]:=fun c hc h tk h' tk' J k=>by
   obtain⟨⟨f0,f1,f2,f3,f4,f5⟩,fd⟩:=hf c (by simp only[List.mem_cons,List.not_mem_nil,or_false] at hc ⊢;rcases hc with rfl | rfl | rfl | rfl<;>simp)
   exact J.turned (t':=tk') k (by rw[au fd];exact f0) f1 f3 f4 f5
  obtain⟨op,hop⟩:∃op,h.get? p=some op:=by
   obtain⟨_,its,_,o,ho,_⟩:=I.hok p (.tup pq) (by rw[au hpd];exact hp)
   exact⟨o,ho⟩
  refine codeAny_builtin Aa ?_
  rw[Around.under_plainId wu _]
  show wpAny _ A.in1 (pyNext (.ref z) >>= _) _ _ _
  refine wpAny_bind (mI (s:=u9 s h tk) (Good:=fun h tk=>L2.Inv X pins σ (upd H0 d (.dK ((ks.map Sum.inr).zip vs))) (u9 s h tk)) (st1:=fun h=>S.at i1 ks.length h) D q1 hop q2 I cl q3 (su hh (hE _)) fun h' tk' J=>?_)
  exact wpAny_bind (wpAny_pure (wpAny_pure (hR h' tk' J)))
 | succ m ih =>
  intro i h tk b hm hi I ⟨q1,q2,q3,q4⟩ hR
  have hlt:i<ks.length:=by omega
  have hk:ks[i]?=some ks[i]:=List.getElem?_eq_getElem hlt
  have hv:vs[i]?=some (vs[i]'(by omega)):=List.getElem?_eq_getElem (by omega)
  have cl:Cl (fun h tk=>L2.Inv X pins σ (upd H0 d (.dK (((ks.map Sum.inr).zip vs).take i))) (u9 s h tk)) [z,TO,i1,i2]:=fun c hc h tk h' tk' J k=>by
   obtain⟨⟨f0,f1,f2,f3,f4,f5⟩,fd⟩:=hf c (by simp only[List.mem_cons,List.not_mem_nil,or_false] at hc ⊢;rcases hc with rfl | rfl | rfl | rfl<;>simp)
   exact J.turned (t':=tk') k (by rw[au fd];exact f0) f1 f3 f4 f5
  obtain⟨op,hop⟩:∃op,h.get? p=some op:=by
   obtain⟨_,its,_,o,ho,_⟩:=I.hok p (.tup pq) (by rw[au hpd];exact hp)
   exact⟨o,ho⟩
  refine codeAny_builtin Aa ?_
  rw[Around.under_plainId wu _]
  show wpAny _ A.in1 (pyNext (.ref z) >>= _) _ _ _
  refine wpAny_bind (ug (lT (s:=u9 s h tk) (Good:=fun h tk=>L2.Inv X pins σ (upd H0 d (.dK (((ks.map Sum.inr).zip vs).take i))) (u9 s h tk)) D q1 hop q2 I cl (j9 (s:=s) (hS _ i _ hk)) (j9 (s:=s) (hT _ i _ hv)) q3 q4
   (Q:=fun v s'=>∃h5 tk5 u1 u2,v=.ref h5.objs.size/\s'=u9 s (h5.push {cls:=.type "tuple",data:=.seq #[u1,u2]}) tk5/\L2.Inv X pins σ (upd H0 d (.dK (((ks.map Sum.inr).zip vs).take i))) (u9 s h5 tk5)/\RelV (.str ks[i]) u1/\RelV (vs[i]'(by omega)) u2/\ZB S T z TI TO i1 i2 p (i+1) true h5)
   fun h5 tk5 u1 u2 c1 c2 c3 c4 c5 c6 c7=>⟨h5,tk5,u1,u2,rfl,rfl,c1,c2,c3,c4,c5,c6,c7⟩) fun r s' ⟨v,er,h5,tk5,u1,u2,ev,es,I5,r1,r2,z5⟩=>?_)
  subst er ev es
  have I6:L2.Inv X pins σ (upd H0 d (.dK (((ks.map Sum.inr).zip vs).take i))) (u9 s (h5.push {cls:=.type "tuple",data:=.seq #[u1,u2]}) tk5):=I5.kept (t':=tk5) fun b u e=>Heap.get?_push_of_some _ e
  refine wpAny_bind (D2 (n:=i) I6 ax (by rw[List.length_take,List.length_zip,List.length_map];omega) (Heap.get?_push_size _ rfl) r1 r2 fun h' I7 sb=>?_)
  rw[jZ,kW hnd hk hv] at I7
  refine wpAny_pure ⟨plainId_quiet wu _,ih (i+1) h' (tk5+1) true (by omega) hlt I7 ?_ hR⟩
  have up:∀c ∈ [z,TI,TO,i1,i2],∀o,h5.get? c=some o->h'.get? c=some o:=fun c hc o e=>sb.extBut _ _ (hf c hc).2 (Heap.get?_push_of_some _ e)
  obtain⟨w1,w2,w3,w4⟩:=z5
  exact⟨up z (by simp) _ w1,up TI (by simp) _ w2,Src.keep w3 (up i1 (by simp)),Src.keep w4 (up i2 (by simp))⟩
theorem ot {Q:Value->Shared->Prop} {H:Hp} (hh:A.handled=none) (D:Ap z TI TO i1 i2) (hlen:ks.length=vs.length) (hnd:ks.Nodup) (hsz:ks.length<=sizeLine) (h0:0<ks.length) (I:L2.Inv X pins σ H s)
    (hz:IsZip s.heap z TI TO .none) (hI:IsPair s.heap TI (.ref i1) (.ref i2)) (hO:IsPair s.heap TO .none .none) (sS:S.at i1 0 s.heap) (sT:T.at i2 0 s.heap) (hf:∀c ∈ [z,TI,TO,i1,i2],yM X pins H c)
    (hS:∀H',l3 H H'->∀i k,ks[i]?=some k->S.go X.K i H' (.str k)) (hT:∀H',l3 H H'->∀i v,vs[i]?=some v->T.go X.K i H' v) (hE:∀H',l3 H H'->S.stop X.K ks.length H')
    (hQ:∀d H' s',H d=none->l3 H H'->H' d=some (.dK ((ks.map Sum.inr).zip vs))->L2.Inv X pins σ H' s'->Q (.ref d) s') :
    wpAny (model X.prog X.w) A (call (.type "dict") [.ref z]) Q E s:=by
  refine callType_codes (Q₁:=fun obj s₁=>obj=.ref s.heap.objs.size/\s₁={s with heap:=s.heap.push {cls:=.type "dict",data:=.dict #[]} }) PySem.F.kt_called_dict (PySem.F.kt_typeCall_dict_1 _) PySem.F.entry_dict_init (kt_code_dict_new _ ⟨rfl,rfl⟩) ?_
  rintro obj s₁ ⟨rfl,rfl⟩
  generalize hd:s.heap.objs.size=d
  have hHd:H d=none:=by rw[<- hd];exact I.hok.fresh (Nat.le_refl _)
  have lt:∀{c o},s.heap.get? c=some o->c≠d:=fun e=>by rw[<- hd];exact Nat.ne_of_lt (Heap.lt_size e)
  have I1:L2.Inv X pins σ (upd H d (.dK [])) {s with heap:=s.heap.push {cls:=.type "dict",data:=.dict #[]} }:=by
    have:=I.laid (a:=s.heap.objs.size) (o:=.dK []) (t':=s.toks) (fun _ _ q=>Heap.get?_push_of_some _ q) (Nat.le_refl _) (lu s.heap I.big)
    rw[hd] at this;exact this
  have hTd:({s with heap:=s.heap.push {cls:=.type "dict",data:=.dict #[]} }:Shared).TypeIs (.ref d) "dict":=by
    rw[<- hd];exact⟨_,Heap.get?_push_size _ rfl,rfl⟩
  have z1:IsZip (s.heap.push {cls:=.type "dict",data:=.dict #[]}) z TI TO .none:=Heap.get?_push_of_some _ hz
  refine⟨hTd,PySem.F.args_dict_init_2 _ _,?_⟩
  unfold Builtin.«dict.__init__»
  refine wpAny_bind ?_
  unfold Builtin.Dict.selfAndRest
  refine wpAny_bind (wpAny_notOrdered_dict hTd ?_)
  show wpAny _ _ (pure (d,[Value.ref z])) _ _ _
  refine wpAny_pure ?_
  show wpAny _ _ (Builtin.Dict.updateFrom "dict.__init__" d (.ref z) [] .none) _ _ _
  unfold Builtin.Dict.updateFrom
  refine wpAny_bind (wpAny_typeOf (T:="zip") ⟨_,z1,rfl⟩ ?_)
  rw[if_pos (by decide)]
  refine wpAny_bind (zD (A:=A.in1.in1) (s:={s with heap:=s.heap.push {cls:=.type "dict",data:=.dict #[]} }) z1 hh fun h2 tk2 k2=>?_)
  simp only[Option.isNone_none,if_true]
  have up2:∀c o,s.heap.get? c=some o->h2.get? c=some o:=fun c o e=>k2 c o (Heap.get?_push_of_some _ e)
  have I2:L2.Inv X pins σ (upd H d (.dK [])) (u9 s h2 tk2):=I1.kept (t':=tk2) k2
  refine wpAny_bind (wpAny_rule ?_)
  refine wpAny_bind (wpAny_pyIter_zip (s:=u9 s h2 tk2) (up2 _ _ hz) ?_)
  refine wpAny_pure ⟨plainId_quiet wu _,?_⟩
  have cl:Cl (fun h tk=>L2.Inv X pins σ (upd H d (.dK [])) (u9 s h tk)) [z,TO,i1,i2]:=fun c hc h tk h' tk' J k=>by
    have hc':c ∈ [z,TI,TO,i1,i2]:=by simp only[List.mem_cons,List.not_mem_nil,or_false] at hc ⊢;rcases hc with rfl | rfl | rfl | rfl<;>simp
    obtain⟨f0,f1,f2,f3,f4,f5⟩:=hf c hc'
    have fd:c≠d:=by
      simp only[List.mem_cons,List.not_mem_nil,or_false] at hc
      rcases hc with rfl | rfl | rfl | rfl
      · exact lt hz
      · exact lt hO
      · obtain⟨o,e,_⟩:=Src.obj_at sS;exact lt e
      · obtain⟨o,e,_⟩:=Src.obj_at sT;exact lt e
    exact J.turned (t':=tk') k (by rw[au fd];exact f0) f1 f3 f4 f5
  have s1:l3 H (upd H d (.dK [])):=aN hHd _
  have hk:ks[0]?=some ks[0]:=List.getElem?_eq_getElem h0
  have hv:vs[0]?=some (vs[0]'(by omega)):=List.getElem?_eq_getElem (by omega)
  refine codeAny_builtin Aa ?_
  rw[Around.under_plainId wu _]
  show wpAny _ A.in1.in1 (pyNext (.ref z) >>= _) _ _ _
  refine wpAny_bind (ug (mU (s:=u9 s h2 tk2) (Good:=fun h tk=>L2.Inv X pins σ (upd H d (.dK [])) (u9 s h tk)) D (up2 _ _ hz) (up2 _ _ hI) (up2 _ _ hO) I2 cl (j9 (s:=s) (hS _ s1 0 _ hk)) (j9 (s:=s) (hT _ s1 0 _ hv)) (Src.keep sS (up2 _)) (Src.keep sT (up2 _))
      (Q:=fun v s'=>∃h5 tk5 u1 u2 h8,v=.ref h5.objs.size/\s'=u9 s h8 tk5/\L2.Inv X pins σ (upd H d (.dK [])) (u9 s h5 tk5)/\RelV (.str ks[0]) u1/\RelV (vs[0]'(by omega)) u2/\IsZip h5 z TI TO .ellipsis/\IsPair h5 TI (.ref i1) (.ref i2)/\S.at i1 1 h5/\T.at i2 1 h5/\IsZip h8 z TI TO (rawInt h5.objs.size)/\(∃o,h5.get? TO=some o) /\
        ∀c o,c≠z->(h5.push {cls:=.type "tuple",data:=.seq #[u1,u2]}).get? c=some o->h8.get? c=some o)
      fun h5 tk5 u1 u2 h8 c1 c2 c3 c4 c5 c6 c7 c8 c9 c10=>⟨h5,tk5,u1,u2,h8,rfl,rfl,c1,c2,c3,c4,c5,c7,c8,c9,⟨_,c6⟩,c10⟩) fun r s' ⟨v,er,h5,tk5,u1,u2,h8,ev,es,I5,r1,r2,z5,p5,a5,b5,z8,to5,k8⟩=>?_)
  subst er ev es
  generalize hp:h5.objs.size=p at *
  have ltp:∀{c o},h5.get? c=some o->c≠p:=fun e=>by rw[<- hp];exact Nat.ne_of_lt (Heap.lt_size e)
  have hdp:d≠p:=by
    obtain⟨_,_,vs0,_,q⟩:=nS I5.hok (a:=d) ax
    obtain⟨o,_,_,e,_⟩:=q
    exact ltp e
  have cz:∀c ∈ [z,TI,TO,i1,i2],c≠d/\c≠p:=fun c hc=>by
    simp only[List.mem_cons,List.not_mem_nil,or_false] at hc
    rcases hc with rfl | rfl | rfl | rfl | rfl
    · exact⟨lt hz,ltp z5⟩
    · exact⟨lt hI,ltp p5⟩
    · obtain⟨o,e⟩:=to5;exact⟨lt hO,ltp e⟩
    · obtain⟨o,e,_⟩:=Src.obj_at sS;obtain⟨o',e',_⟩:=Src.obj_at a5;exact⟨lt e,ltp e'⟩
    · obtain⟨o,e,_⟩:=Src.obj_at sT;obtain⟨o',e',_⟩:=Src.obj_at b5;exact⟨lt e,ltp e'⟩
  have hHp:(upd H d (.dK [])) p=none:=by rw[<- hp];exact I5.hok.fresh (Nat.le_refl _)
  have J6:L2.Inv X pins σ (upd (upd H d (.dK [])) p (.tup [.str ks[0],vs[0]'(by omega)])) {u9 s h5 tk5 with heap:=h5.push {cls:=.type "tuple",data:=.seq #[u1,u2]},toks:=tk5}:=by
    have:=I5.laid (t':=tk5) (a:=h5.objs.size) (o:=.tup [.str ks[0],vs[0]'(by omega)]) (h':=h5.push {cls:=.type "tuple",data:=.seq #[u1,u2]}) (fun b u e=>Heap.get?_push_of_some _ e) (Nat.le_refl _) ⟨show 2<=sizeLine by decide,[u1,u2],.cons r1 (.cons r2 .nil),⟨_,Heap.get?_push_size _ rfl,rfl,⟨_,rfl⟩,rfl⟩⟩
    rw[hp] at this;exact this
  have hcomm:upd (upd H d (.dK [])) p (.tup [.str ks[0],vs[0]'(by omega)])=upd (upd H p (.tup [.str ks[0],vs[0]'(by omega)])) d (.dK []):=by
    funext c
    by_cases h1:c=d
    · rw[h1,au hdp,ax,ax]
    · by_cases h2:c=p
      · rw[h2,ax,au (Ne.symm hdp),ax]
      · rw[au h2,au h1,au h1,au h2]
  rw[hcomm] at J6
  have hHp0:H p=none:=by rw[au (Ne.symm hdp)] at hHp;exact hHp
  obtain⟨f0,f1,f2,f3,f4,f5⟩:=hf z (by simp)
  have czz:=cz z (by simp)
  have J8:L2.Inv X pins σ (upd (upd H p (.tup [.str ks[0],vs[0]'(by omega)])) d (.dK [])) (u9 s h8 tk5):=J6.turned (t':=tk5) (fun b o n e=>k8 b o n e) (by rw[au czz.1,au czz.2];exact f0) f1 f3 f4 f5
  have pz:p≠z:=Ne.symm czz.2
  have hP8:IsPair h8 p u1 u2:=k8 _ _ pz (by rw[<- hp];exact Heap.get?_push_size _ rfl)
  refine wpAny_bind (D2 (n:=0) J8 ax (show 0<sizeLine by decide) hP8 r1 r2 fun h' I7 sb=>?_)
  rw[jZ,show putK ([]:List (Key×V)) (.inr ks[0]) (vs[0]'(by omega))=((ks.map (Sum.inr:Str->Key)).zip vs).take (0+1) from kW hnd hk hv] at I7
  refine wpAny_pure ⟨plainId_quiet wu _,?_⟩
  have sp:l3 H (upd H p (.tup [.str ks[0],vs[0]'(by omega)])):=aN hHp0 _
  have sd:∀kvs,l3 H (upd (upd H p (.tup [.str ks[0],vs[0]'(by omega)])) d (.dK kvs)):=fun kvs=>sp.trans (aN (by rw[au hdp];exact hHd) _)
  have up:∀c ∈ [z,TI,TO,i1,i2],c≠z->∀o,h5.get? c=some o->h'.get? c=some o:=fun c hc n o e=>sb.extBut _ _ (cz c hc).1 (k8 _ _ n (Heap.get?_push_of_some _ e))
  show codeAny (model X.prog X.w) A.in1 (.builtin "dict.update.loop" ⟨[.ref d,.ref z,rawInt ((1:Nat):Int),.none],[]⟩) (wants (fun r s₂=>r=.none/\Q (.ref d) s₂) E) (u9 s h' (tk5+1))
  refine GZ (A:=A.in1) (s:=s) (R:=wants (fun r s₂=>r=.none/\Q (.ref d) s₂) E) (H0:=upd H p (.tup [.str ks[0],vs[0]'(by omega)])) (S:=S) (T:=T) (p:=p) D hh hlen hnd hsz (fun kvs=>hS _ (sd kvs)) (fun kvs=>hT _ (sd kvs)) (fun kvs=>hE _ (sd kvs)) ax (Ne.symm hdp) (fun c hc=>⟨?_,(cz c hc).1⟩) _ 1 h' (tk5+1) false rfl (by omega) I7 ⟨?_,?_,?_,?_⟩ fun h9 tk9 I9=>⟨rfl,?_⟩
  · obtain⟨f0,f1,f2,f3,f4,f5⟩:=hf c hc
    exact⟨by rw[au (cz c hc).2];exact f0,f1,f2,f3,f4,f5⟩
  · exact sb.extBut _ _ czz.1 z8
  · exact up TI (by simp) D.a1 _ p5
  · exact Src.keep a5 (up i1 (by simp) D.a3)
  · exact Src.keep b5 (up i2 (by simp) D.a4)
  · exact hQ d _ _ hHd (sd _) ax I9
end
def Qd(K:W.Frag)(f g:R->OD):TE:=fun σ H Q=>∃ ρ xs ys ks,uy K H ρ σ/\f ρ=some (.tup xs)/\g ρ=some (.tup ys)/\zI xs=some ks/\ks.Nodup/\ks.length=ys.length/\0<ks.length/\ks.length<50 /\
 ∀d vs H',H d=none->l3 H H'->vs.length=ks.length->H' d=some (.dK ((ks.map Sum.inr).zip vs))->l0 K H' ys vs->Q (.ref d) H'
theorem Ef{K:W.Frag}{H:Hp}:∀{xs:LD} {ks:List Str} {us:List V},zI xs=some ks->l0 K H xs us->us=ks.map V.str
 | [],_,_,e,r=>by cases e;exact r
 | .str x::xs,ks,us,e,r=>by
  obtain⟨ks',e1,rfl⟩:=ud (show(zI xs).map (x::·)=some ks from e)
  obtain⟨v,r',rfl,r1,r2⟩:=r
  rw[Ef e1 r2]
  cases (show v=_ from r1)
  rfl
 | .non::_,_,_,e,_=>by cases e
 | .bl _::_,_,_,e,_=>by cases e
 | .int _::_,_,_,e,_=>by cases e
 | .tup _::_,_,_,e,_=>by cases e
 | .lst _::_,_,_,e,_=>by cases e
 | .fro _::_,_,_,e,_=>by cases e
 | .obj ..::_,_,_,e,_=>by cases e
section
variable{X:Cx}
theorem lZ{a b:Expr}{f g:R->OD}{p1 p2 p3 p4:Pos}(hc:X.calm=true)(hmd:X.mg "dict" = none)(hmz:X.mg "zip" = none)(ha:SE X a f)(hb:SE X b g)(hgd:Gl X "dict":=by rfl)(hgz:Gl X "zip":=by rfl)(hs:noStar a=true:=by rfl)(hs2:noStar b=true:=by rfl) :
  PE X (.Call (.Name "dict" p1) [.Call (.Name "zip" p2) [a,b] [] p3] [] p4) (Qd X.K f g):=by
 have z2:=aK [] X.env hs2
 have z1:=aK [b] X.env hs
 intro pins s σ H Q I ⟨ρ,xs,ys,ks,er,e1,e2,e3,hnd,hlen,h0,h50,q⟩
 have PAA:=(ab ha (ab hb af hs2) hs).1
 refine Call_ (da I hgd hmd (u:=.type "dict") (by kernel_rfl) (PyProof.Rows.callWith_type1 (Calls.spliced_cons (Call_ (da I hgz hmz (u:=.type "zip") (by kernel_rfl) (PyProof.Rows.callWith_type1 (ug (PAA p3 pins s σ H (fun vs H1=>l3 H H1/\l0 X.K H1 [.tup xs,.tup ys] vs) I
  ⟨ρ,[.tup xs,.tup ys],er,by show(f ρ).bind _=_;rw[e1];show((g ρ).bind _).map _=_;rw[e2];rfl,fun vs H1 s1 r1=>⟨s1,r1⟩⟩) fun us s1 ⟨vs,H1,I1,r1,sm,q1⟩=>?_) (by rw[z1,z2]) (by rw[z2];rfl)))))))
 obtain⟨v,r,rfl,r2,r3⟩:=q1
 obtain⟨u,r',rfl,r4,r5⟩:=r3
 cases (show r'=_ from r5)
 cases r1 with
 | cons ra rr =>
  cases rr with
  | cons rb rr =>
   cases rr
   obtain⟨aa,us,rfl,hqa,ta⟩:=r2
   obtain⟨bb,vs,rfl,hqb,tb⟩:=r4
   cases (show _=_ from ra)
   cases (show _=_ from rb)
   obtain⟨its,_,pa,_⟩:=I1.tuple hqa
   obtain⟨its',_,pb,_⟩:=I1.tuple hqb
   have hus:=Ef e3 ta
   have hvl:vs.length=ks.length:=by rw[hlen];exact tb.length.symm
   refine qj (S:=.tup aa) (T:=.tup bb) ⟨_,pa⟩ ⟨_,pb⟩ fun h' z TI TO i1 i2 D hz hI hO sS sT new kept=>?_
   refine Calls.spliced_nil ?_
   refine ot (s:={s1 with heap:=h' }) (H:=H1) (S:=.tup aa) (T:=.tup bb) (ks:=ks) (vs:=vs) (I.ok.hd hc) D hvl.symm hnd (by rw[sizeLine_eq];omega) h0 (I1.kept (t':=s1.toks) kept) hz hI hO sS sT (fun c hc=>I1.fpOk (new c hc) (I1.hok.fresh (new c hc))) (fun H' s' i k hk=>⟨us,u0.tup (S:=[]) (fun b hb=>nomatch hb) (u0.of s') hqa,?_⟩) (fun H' s' i v hv=>⟨vs,u0.tup (S:=[]) (fun b hb=>nomatch hb) (u0.of s') hqb,hv⟩) (fun H' s'=>⟨us,u0.tup (S:=[]) (fun b hb=>nomatch hb) (u0.of s') hqa,?_⟩) fun d H' s' hd sm' hH' I'=>?_
   ·rw[hus,List.getElem?_map,hk];rfl
   ·rw[hus,List.length_map];exact Nat.le_refl _
   ·refine⟨.ref d,H',I',rfl,q d vs H' ?_ (sm.trans sm') hvl hH' (tb.mono sm')⟩
    cases hb:H d with
    | none=>rfl
    | some o=>rw[sm d o hb] at hd;cases hd
end
section
variable{K:W.Frag}{H H':Hp}
theorem Dq{x:Str}{d:D}:∀{ks:List Str} {ds:LD} {vs:List V},x_ ks ds x=some d->l0 K H ds vs->ks.length=vs.length->∃v,wO ((ks.map (Sum.inr:Str->Key)).zip vs) (.inr x)=some v/\(ks.zip vs).lookup x=some v/\Rep K H d v
 | [],_,_,e,_,_=>by cases e
 | k::ks,[],_,e,_,_=>by cases e
 | k::ks,c::ds,vs,e,r,hl=>by
  obtain⟨v,vr,rfl,r1,r2⟩:=r
  have e':(if k=x then some c else x_ ks ds x)=some d:=e
  show ∃u,wO ((.inr k,v)::(ks.map Sum.inr).zip vr) (.inr x)=some u/\List.lookup x ((k,v)::ks.zip vr)=some u/\Rep K H d u
  by_cases h:k=x
  ·subst h
   rw[if_pos rfl] at e'
   cases e'
   exact⟨v,vX rfl,by simp,r1⟩
  ·rw[if_neg h] at e'
   obtain⟨u,h1,h2,h3⟩:=Dq e' r2 (by simpa using hl)
   refine⟨u,?_,?_,h3⟩
   ·rw[vv (fun z=>h (Sum.inr.inj z))];exact h1
   ·rw[List.lookup_cons]
    have hb:(x==k)=false:=beq_eq_false_iff_ne.mpr (Ne.symm h)
    rw[hb];exact h2
theorem A0{p:Key×V}{r:List (Key×V)}{k:Key}{v:V}(h:¬ p.1=k):putK (p::r) k v=p::putK r k v:=by
 unfold putK
 rw[List.any_cons,decide_eq_false h,Bool.false_or]
 split
 ·rw[List.map_cons,if_neg h]
 ·rfl
theorem Js{p:Key×V}{r:List (Key×V)}{k:Key}{v:V}(h:p.1=k)(hn:k∉r.map (·.1)):putK (p::r) k v=(p.1,v)::r:=by
 unfold putK
 rw[List.any_cons,decide_eq_true h,Bool.true_or,if_pos rfl,List.map_cons,if_pos h]
 congr 1
 have:∀q∈r,(if q.1=k then (q.1,v) else q)=q:=fun q hq=>if_neg fun e=>hn (List.mem_map.mpr ⟨q,hq,e⟩)
 rw[List.map_congr_left this,List.map_id']
theorem KW{x:Str}{y:V}:∀fs:List (Str×V),(fs.map (·.1)).Nodup->putK (fs.map (Prod.map (Sum.inr:Str->Key) id)) (.inr x) y=(Ff x y fs).map (Prod.map (Sum.inr:Str->Key) id)
 | [],_=>rfl
 | (g,v)::r,hn=>by
  rw[List.map_cons,List.nodup_cons] at hn
  rw[List.map_cons]
  by_cases h:g=x
  ·subst h
   rw[show Ff g y ((g,v)::r)=(g,y)::r from if_pos rfl,List.map_cons]
   refine Js rfl fun hm=>hn.1 ?_
   rw[List.map_map] at hm
   obtain⟨q,hq,e⟩:=List.mem_map.mp hm
   exact List.mem_map.mpr ⟨q,hq,Sum.inr.inj e⟩
  ·rw[show Ff x y ((g,v)::r)=(g,v)::Ff x y r from if_neg h,List.map_cons,A0 (fun z=>h (Sum.inr.inj z)),KW r hn.2]
theorem nE{ks:List Str}{vs:List V}:(ks.map (Sum.inr:Str->Key)).zip vs=(ks.zip vs).map (Prod.map Sum.inr id):=by rw[List.zip_map_left]
theorem AZ{x:Str}{e:D}{y:V}{ks:List Str}{ds:LD}{vs:List V}(hn:ks.Nodup)(h1:ks.length=vs.length)(h2:ds.length=vs.length) :
  ∃vs',putK ((ks.map (Sum.inr:Str->Key)).zip vs) (.inr x) y=((putD ks ds x e).1.map Sum.inr).zip vs'/\(putD ks ds x e).1.length=vs'.length/\(l0 K H' ds vs->Rep K H' e y->l0 K H' (putD ks ds x e).2 vs'):=by
 obtain⟨vs',a,b,c⟩:=Gq (K:=K) (H':=H') (x:=x) (e:=e) (y:=y) h1 h2
 refine⟨vs',?_,b,c⟩
 rw[nE,nE,KW,a]
 rw[List.map_fst_zip (by omega)]
 exact hn
theorem pZ{a:Nat}{fs:List (Key×V)}{o:HO}(ha:H a=some (.dK fs)):∀{d:D} {v:V},okN d=true->Rep K H d v->Rep K (upd H a o) d v:=by
 have m:um [a] H:=fun b hb=>by rw[List.mem_singleton.mp hb,ha];trivial
 have s:u0 [a] H (upd H a o):=fun b u n e=>by rw[au fun z=>n (by rw[z];exact List.mem_singleton.mpr rfl)];exact e
 intro d v h r
 match d,h,r with
 | .obj 0 l ls es,h,⟨xs,e,⟨z,its,n,rv,q⟩,t⟩ =>
  have hla:l≠a:=fun z=>by rw[z,ha] at q;cases q
  exact⟨xs,e,⟨z,its,n,rv,by rw[au hla];exact q⟩,l0.kq m s h t⟩
 | .obj (k+1) l ls es,h,_=>cases (show t_ (.obj (k+1) l ls es)=true from h)
 | .non,_,r=>exact r
 | .bl _,_,r=>exact r
 | .int _,_,r=>exact r
 | .str _,_,r=>exact r
 | .tup ds,h,r=>exact Rep.kq m s (d:=.tup ds) h r
 | .lst ds,h,r=>exact Rep.kq m s (d:=.lst ds) h r
 | .fro ds,h,r=>exact Rep.kq m s (d:=.fro ds) h r
theorem gC{a:Nat}{fs:List (Key×V)}{o:HO}(ha:H a=some (.dK fs)):∀{ds:LD} {vs:List V},ds.all okN=true->l0 K H ds vs->l0 K (upd H a o) ds vs
 | [],_,_,r=>r
 | d::ds,_,h,r=>by
  rw[List.all_cons,Bool.and_eq_true] at h
  obtain⟨v,vr,e,r1,r2⟩:=r
  exact⟨v,vr,e,pZ ha h.1 r1,gC ha h.2 r2⟩
end
section
variable{X:Cx}{pos:Pos}
theorem aL{a i:Expr}{f g:R->OD}(hu:X.A.units+1<cLine)(ha:SE X a f)(hi:SE X i g)(hs:Ke i:=by intro _ _;rfl):SE X (.Subscript a i pos) (i5 q9 f g):=(nA hu ha hi hs).imp fun σ H Q ⟨ρ,d,er,e,q⟩=>by
 obtain⟨x,e1,e⟩:=i9 e
 obtain⟨y,e2,e⟩:=i9 e
 refine⟨ρ,x,er,e1,fun v H1 s1 r1=>⟨ρ,y,er.mono s1,e2,fun u H2 s2 r2=>?_⟩⟩
 cases x with
 | obj k a ks ds =>
  cases y with
  | str z =>
   have e':(if k=1 then x_ ks ds z else none)=some d:=e
   split at e'
   ·rename_i hk
    subst hk
    obtain⟨xs,ev,⟨hl,hH⟩,t⟩:=r1.mono s2
    cases (show u=_ from r2)
    obtain⟨w,h1,_,h3⟩:=Dq e' t hl
    exact⟨a,w,ev,by rw[<- h1];exact AJ.k (k:=.inr z) hH,q w H2 (s1.trans s2) h3⟩
   ·cases e'
  | _=>cases e
 | _=>cases e
theorem aQ{x k:Str}{ke value:Expr}{g:R->OD}{px pos':Pos}(i:Nat)(hu:X.A.units+1<cLine)(hk:SE X ke (fun _=>some (.str k)))(he:SE X value g)(hN:X.N[i]?=some x:=by rfl)(hv:G0 X.env.scope x:=by first | exact Or.inl rfl | exact Or.inr (Or.inl rfl) | exact Or.inr (Or.inr rfl))
  (hd:(x==("__debug__" : Str))=false:=by decide) (hcd:(x==("__classdict__" : Str))=false:=by decide) (hs:swapsWith value (some (.Subscript (.Name x px) ke pos')) pos.line X.env=pure false:=by rfl):MS X (.Assign [.Subscript (.Name x px) ke pos'] value pos) (n8 i k g):=fun S =>
 (gk hu (pv i hN hv hd hcd) hk he hs).imp fun E σ H ⟨ρ,τ,o,er,m,e,q⟩=>by
  obtain⟨d,e1,e⟩:=i9 e
  refine⟨ρ,d,er.1,e1,fun y H0 s0 ry0=>?_⟩
  split at e
  case h_2=>cases e
  case h_1 kk a ks ds hat =>
  split at e
  case isFalse=>cases e
  case isTrue hc =>
  obtain⟨rfl,h1,h2,h3,h4,h5,h6,h7⟩:=hc
  cases e
  obtain⟨v,hσ,rv⟩:=(er.mono s0).1.at hat
  obtain⟨xs,ev,⟨hl,hH0⟩,t0⟩:=rv
  subst ev
  refine⟨.ref a,hσ,ρ,.str k,(er.mono s0).1,rfl,fun u H1 s1' ru=>?_⟩
  cases (show u=_ from ru)
  have s1:=s0.trans s1'
  have ry:=ry0.mono s1'
  have hH:=s1' _ _ hH0
  have t:=t0.mono s1'
  have hdl:ds.length=xs.length:=t.length
  refine⟨a,_,rfl,Br.k (k:=.inr k) hH (by rw[List.length_zip,List.length_map,sizeLine_eq];omega),?_⟩
  have ma:um [a] H1:=fun b hb=>by rw[List.mem_singleton.mp hb,hH];trivial
  generalize ho:HO.dK (putK ((ks.map Sum.inr).zip xs) (.inr k) y)=o'
  have kq:u0 [a] H1 (upd H1 a o'):=fun b u nb eb=>by rw[au fun z=>nb (by rw[z];exact List.mem_singleton.mpr rfl)];exact eb
  obtain⟨vs',p1,p2,p3⟩:=AZ (K:=X.K) (H':=upd H1 a o') (x:=k) (e:=d) (y:=y) (ks:=ks) (ds:=ds) (vs:=xs) h7 hl hdl
  have rob:Rep X.K (upd H1 a o') (.obj 1 a (putD ks ds k d).1 (putD ks ds k d).2) (.ref a):=by
   refine⟨vs',rfl,⟨p2,?_⟩,p3 (gC hH h5 t) (Rep.kq ma kq h1 ry)⟩
   rw[ax,<- ho,p1]
  have hin:=EH h3
  have haS:a∈S:=hin a (List.mem_cons_self ..)
  have kqS:u0 S H1 (upd H1 a o'):=kq.mono fun b hb=>by rw[List.mem_singleton.mp hb];exact haS
  have m1:=m.same s1
  have mS:um S (upd H1 a o'):=fun b hb=>by
   by_cases hba:b=a
   ·rw[hba,ax,<- ho];trivial
   ·rw[au hba];exact m1 b hb
  exact q _ ((u0.of s1).trans kqS) mS σ (iy (er.mono s1) m1 kqS h2 hσ rob)
theorem j2{x f:Str}{ke value:Expr}{g:R->OD}{px pf ap cp:Pos}(i:Nat)(hu:X.A.units+1<cLine)(hk:SE X ke (fun _=>some (.str f)))(he:SE X value g)(hN:X.N[i]?=some x:=by rfl)(hv:G0 X.env.scope x:=by first | exact Or.inl rfl | exact Or.inr (Or.inl rfl) | exact Or.inr (Or.inr rfl))
  (hd:(x==("__debug__" : Str))=false:=by decide) (hcd:(x==("__classdict__" : Str))=false:=by decide) (hsl:Ke ke:=by intro _ _;rfl)
  (hbase:attributeBase (.Subscript (.Name x px) ke pf) "append" X.env (eval (.Subscript (.Name x px) ke pf) X.env)=eval (.Subscript (.Name x px) ke pf) X.env:=by rfl) (hst:noStar value=true:=by rfl)
  (hline:(ap.endLine==cp.line)=true:=by rfl) (hs:swapsWith (.Call (.Attribute (.Subscript (.Name x px) ke pf) "append" ap) [value] [] cp) none pos.line X.env=pure false:=by rfl) :
  MS X (.Expr (.Call (.Attribute (.Subscript (.Name x px) ke pf) "append" ap) [value] [] cp) pos) (x9 i f g):=by
 intro S pins s σ H E I ⟨ρ,τ,o,er,m,e,q⟩
 obtain⟨d,e1,e⟩:=i9 e
 split at e
 case h_2=>cases e
 case h_1 k a ks ds hat =>
 split at e
 case h_2=>cases e
 case h_1 l ls es hkey =>
 split at e
 case isFalse=>cases e
 case isTrue hc =>
 obtain⟨rfl,h1,h2,h3,h4,h5,h6,h7⟩:=hc
 cases e
 have hst1:=aK [] X.env hst
 obtain⟨v,hσ,rv⟩:=er.1.at hat
 obtain⟨xs,ev,⟨hl,hH⟩,t⟩:=rv
 subst ev
 obtain⟨y,hval,hlk,ry⟩:=Dq hkey t hl
 obtain⟨ys,ey,⟨hz,its,nn,rv,hL⟩,ty⟩:=ry
 subst ey
 refine wpAny_Expr_any (wpAny_Call_method_late hbase ?_ hline rfl (ug ((nA hu (pv i (pos:=px) hN hv hd hcd) hk hsl) pins s σ H (fun v H1=>v=.ref l/\l3 H H1) I ⟨.ref a,hσ,ρ,.str f,er.1,rfl,fun u Hs ss ru=>by cases (show u=_ from ru);exact⟨a,.ref l,rfl,by rw[<- hval];exact AJ.k (k:=.inr f) (ss _ _ hH),rfl,ss⟩⟩) fun v s1 ⟨y,H1,I1,r1,ey,eH⟩=>?_)) I.quiet hs
 ·rw[hst1]
  rfl
 subst ey
 cases (show v=_ from r1)
 replace er:=er.mono eH
 replace m:=m.same eH
 replace t:=t.mono eH
 replace ty:=ty.mono eH
 replace hH:=eH _ _ hH
 replace hL:=eH _ _ hL
 have eo:=(I1.hok l _ hL).1
 refine⟨"list","list.append",PySem.F.plainAttrs_list,PySem.F.slot_list_append,PySem.F.type_list_append,⟨_,eo,rfl⟩,fun b eb=>?_,?_⟩
 ·cases eb
  exact⟨_,eo,rfl⟩
 have hA:=(ab he af hst).1 cp pins s1 σ H1 (fun vs H2=>l3 H1 H2/\l0 X.K H2 [d] vs) I1 ⟨ρ,[d],er.1,by show(g ρ).bind _=_;rw[e1];rfl,fun vs H2 s2 r2=>⟨s2,r2⟩⟩
 rw[hst1] at hA ⊢
 refine Calls.callWith_builtin rfl (Calls.evalArgs_plain ?_)
 refine ug hA fun us s2 ⟨vs,H2,I2,r2,s12,rd⟩=>?_
 obtain⟨w,w',rfl,rw1,rw2⟩:=rd
 cases (show w'=[] from rw2)
 have hL2:=s12 _ _ hL
 have hH2:=s12 _ _ hH
 have I3:=JR I2 hL2 rv hz
 have hys:es.length=ys.length:=ty.length
 refine ug (jK pins s2 σ (upd H2 l (.lst ys)) (.ref l) [w] (.ref l) us (fun v H3=>H3=upd (upd H2 l (.lst ys)) l (.lst (ys++[w]))) I3 rfl r2 ⟨l,ys,w,rfl,rfl,ax,by rw[<- hys,sizeLine_eq];omega,rfl⟩) fun v s3 ⟨v',H3,I4,_,e3⟩=>?_
 subst e3
 obtain⟨its',n',rv',hz',I5⟩:=FM I4 ax
 generalize hH5:upd (upd (upd H2 l (.lst ys)) l (.lst (ys++[w]))) l (.frz {cls:=.type "list",data:=.seq its'.toArray n' } (.own 0))=H5 at I5
 have k25:u0 [l] H2 H5:=fun b u nb eb=>by
  have hbl:b≠l:=fun z=>nb (by rw[z];exact List.mem_singleton.mpr rfl)
  subst hH5
  rw[au hbl,au hbl,au hbl];exact eb
 have hL5:H5 l=some (.frz {cls:=.type "list",data:=.seq its'.toArray n' } (.own 0)):=by subst hH5;exact ax
 have ml:um [l] H2:=fun b hb=>by rw[List.mem_singleton.mp hb,hL2];trivial
 have hla:a≠l:=fun z=>by rw[z,hL2] at hH2;cases hH2
 have hH5a:H5 a=some (.dK ((ks.map Sum.inr).zip xs)):=k25 a _ (fun z=>hla (List.mem_singleton.mp z)) hH2
 have kq:∀{d:D} {v:V},t_ d=true->Rep X.K H2 d v->Rep X.K H5 d v:=fun hn r=>Rep.kq ml k25 hn r
 have rl:Rep X.K H5 (.obj 0 l ls (es++[d])) (.ref l):=by
  refine⟨ys++[w],rfl,⟨hz',its',n',rv',hL5⟩,?_⟩
  exact l0.append (l0.kq ml k25 h5 (ty.mono s12)) (l0.one (kq h1 rw1))
 obtain⟨g1,g2⟩:=jh hkey hlk (t.mono s12) hl h6 kq rl
 have rob:Rep X.K H5 (.obj 1 a (putD ks ds f (.obj 0 l ls (es++[d]))).1 (putD ks ds f (.obj 0 l ls (es++[d]))).2) (.ref a):=by
  rw[g1]
  exact⟨xs,rfl,⟨hl,hH5a⟩,g2⟩
 have hlS:l∈S:=by simpa using h7
 have kqS:u0 S H2 H5:=k25.mono fun b hb=>by rw[List.mem_singleton.mp hb];exact hlS
 have m2:=m.same s12
 have mS:um S H5:=fun b hb=>by
  by_cases hbl:b=l
  ·rw[hbl,hL5];trivial
  ·have hm:=m2 b hb
   cases hb2:H2 b with
   | none=>rw[hb2] at hm;exact hm.elim
   | some u=>rw[k25 b u (fun z=>hbl (List.mem_singleton.mp z)) hb2];rw[hb2] at hm;exact hm
 exact⟨σ,H5,I5,q H5 ((u0.of eH).trans ((u0.of s12).trans kqS)) mS σ (iy (er.mono s12) m2 kqS h2 hσ rob)⟩
theorem qp{e:Expr}{F:R->OD}{x:Str}(i:Nat)(h:SE X e F):SE X e (Cz i x F):=by
 intro pins s σ H Q I ⟨ρ,d,er,e0,q⟩
 unfold Cz at e0
 split at e0
 case h_2=>cases e0
 case h_1 k a ks ds hat =>
 split at e0
 case h_2=>cases e0
 case h_1 l ls es hkey =>
 split at e0
 case isFalse=>cases e0
 case isTrue hc =>
 obtain⟨rfl,h2,h5,h6⟩:=hc
 obtain⟨d',eF,e0⟩:=i9 e0
 split at e0
 case isFalse=>cases e0
 case isTrue hnf =>
 cases e0
 obtain⟨v,hσ,rv⟩:=er.at hat
 obtain⟨xs,ev,⟨hl,hH⟩,t⟩:=rv
 subst ev
 obtain⟨y,hlk,ry⟩:=Gd hkey t hl
 obtain⟨ys,ey,⟨hz,its,nn,rv,hL⟩,ty⟩:=ry
 subst ey
 have I1:=Pn I hL rv hz
 have k01:u0 [l] H (upd H l (.frz {cls:=.type "list",data:=.seq its.toArray nn} (.lst ys))):=fun b u nb eb=>by rw[au fun z=>nb (by rw[z];exact List.mem_singleton.mpr rfl)];exact eb
 have ml:um [l] H:=fun b hb=>by rw[List.mem_singleton.mp hb,hL];trivial
 have hla:a≠l:=fun z=>by rw[z,hL] at hH;cases hH
 have kq:∀{d:D} {v:V},t_ d=true->Rep X.K H d v->Rep X.K (upd H l (.frz {cls:=.type "list",data:=.seq its.toArray nn} (.lst ys))) d v:=fun hn r=>Rep.kq ml k01 hn r
 have rf:Rep X.K (upd H l (.frz {cls:=.type "list",data:=.seq its.toArray nn} (.lst ys))) (.fro es) (.ref l):=⟨l,ys,rfl,.inl (.inr ⟨_,ax⟩),l0.kq ml k01 h5 ty⟩
 obtain⟨g1,g2⟩:=jh hkey hlk t hl h6 kq rf
 have rob:Rep X.K (upd H l (.frz {cls:=.type "list",data:=.seq its.toArray nn} (.lst ys))) (.obj 1 a (putD ks ds x (.fro es)).1 (putD ks ds x (.fro es)).2) (.ref a):=by
  rw[g1]
  exact⟨xs,rfl,⟨hl,by rw[au hla];exact hH⟩,g2⟩
 refine ug (h pins s σ _ (fun v H2=>l3 (upd H l (.frz {cls:=.type "list",data:=.seq its.toArray nn} (.lst ys))) H2/\Rep X.K H2 d v) I1 ⟨_,d,pD er ml k01 h2 hσ rob,eF,fun v H' s1 r1=>⟨s1,r1⟩⟩) fun u s1 ⟨v,H2,I2,ru,s12,rd⟩=>?_
 have hL2:=s12 _ _ ax
 refine⟨v,_,LO I hL I2 hL2,ru,q v _ (fun b w hb=>?_) (Rep.nof hL2 hnf rd)⟩
 by_cases hbl:b=l
 ·subst hbl
  rw[hL] at hb
  cases hb
  exact ax
 ·rw[au hbl]
  exact s12 b w (by rw[au hbl];exact hb)
theorem uv.hid{K:W.Frag}{H:Hp}{ρ:R}{τ σ:L2.St}{j:Nat}{v:V}(e:uv K H ρ τ σ)(hj:ρ[j]?=some none):uv K H ρ τ (σ.set j (some v)):=by
 have hl:j<ρ.length:=(List.getElem?_eq_some_iff.mp hj).1
 refine⟨⟨by simpa using e.1.1,fun i d h=>?_⟩,by rw[List.drop_set_of_lt hl];exact e.2⟩
 have hij:j≠i:=fun z=>by rw[z,h] at hj;cases hj
 rw[List.getElem?_set_ne hij]
 exact e.1.2 i d h
theorem qg{x y k1 k2 k3 k4:Str}{ke1 ke2 ke3 ke4 v1 v2 v3 e f:Expr}{f1 f2 f3 fe ff:R->OD}{sts:List Stmt}{w:MU}{py pd pos1 py2 ps2 pos2 px p4 py3 ap cp pos3:Pos}(i j:Nat)(hNd:X.N.Nodup)(hu:X.A.units+1<cLine)
  (hk1:SE X ke1 (fun _=>some (.str k1))) (h1:SE X v1 f1) (hk2:SE X ke2 (fun _=>some (.str k2))) (h2:SE X v2 f2) (hk3:SE X ke3 (fun _=>some (.str k3))) (h3:SE X v3 f3) (hk4:SE X ke4 (fun _=>some (.str k4))) (he:SE X e fe) (hf:SE X f ff) (hr:HK X sts w)
  (hN:X.N[i]?=some x:=by rfl) (hv:G0 X.env.scope x:=by first | exact Or.inl rfl | exact Or.inr (Or.inl rfl) | exact Or.inr (Or.inr rfl)) (hd:(x==("__debug__" : Str))=false:=by decide) (hcd:(x==("__classdict__" : Str))=false:=by decide)
  (hNj:X.N[j]?=some y:=by rfl) (hvj:G0 X.env.scope y:=by first | exact Or.inl rfl | exact Or.inr (Or.inl rfl) | exact Or.inr (Or.inr rfl)) (hdj:(y==("__debug__" : Str))=false:=by decide) (hcdj:(y==("__classdict__" : Str))=false:=by decide)
  (hlj:Loc X.env.scope y:=by first | exact Or.inl rfl | exact Or.inr rfl) (hfj:X.fn y=true\/X.env.scope.names.lookup y=some .local:=by first | exact .inl rfl | exact .inr rfl)
  (hs1:swapsWith (.Dict [some ke1,some ke2] [v1,v2] pd) (some (.Name y py)) pos1.line X.env=pure false:=by rfl) (hs2:swapsWith v3 (some (.Subscript (.Name y py2) ke3 ps2)) pos2.line X.env=pure false:=by rfl)
  (hs3:swapsWith (.Call (.Attribute (.Name y py3) "get" ap) [e,f] [] cp) (some (.Subscript (.Name x px) ke4 p4)) pos3.line X.env=pure false:=by rfl)
  (m2:M2 X (.Name y py3) "get" ap e f cp:=by exact⟨rfl,rfl,rfl,rfl⟩) :
  HK X (.Assign [.Name y py] (.Dict [some ke1,some ke2] [v1,v2] pd) pos1::.Assign [.Subscript (.Name y py2) ke3 ps2] v3 pos2::.Assign [.Subscript (.Name x px) ke4 p4] (.Call (.Attribute (.Name y py3) "get" ap) [e,f] [] cp) pos3::sts)
   (tE (n8 i k4 (Ej j k1 k2 k3 f1 f2 f3 fe ff)) w):=by
 intro S
 refine(cg (gQ (i:=j) hNd hNj hlj (rq (pos:=pd) (Ep hk1 h1 (Ep hk2 h2 Jc)) rfl rfl (by simp) (by simp)) hs1 hfj) (cg (gk hu (pv j (pos:=py2) hNj hvj hdj hcdj) hk3 h3 hs2) (cg (gk hu (pv i (pos:=px) hN hv hd hcd) hk4 (pP hu (pv j (pos:=py3) hNj hvj hdj hcdj) he hf m2) hs3) (hr S)))).imp fun E σ H z=>?_
 obtain⟨ρ,τ,o,er,m,e0,q⟩:=FL z
 obtain⟨dv,e1,e2⟩:=i9 e0
 obtain⟨d1,a1,e1⟩:=i9 e1
 obtain⟨d2,a2,e1⟩:=i9 e1
 obtain⟨d3,a3,e1⟩:=i9 e1
 obtain⟨dq,aq,e1⟩:=i9 e1
 obtain⟨dd,ad,e1⟩:=i9 e1
 match dq,aq,e1 with
 | .str zz,aq,e1 =>
 have e1':(if y_ j ρ=true/\m6 [d1,d2,d3]=true/\k1≠k2/\k1≠k3/\k2≠k3 then some (if zz=k1 then d1 else if zz=k2 then d2 else if zz=k3 then d3 else dd) else none)=some dv:=e1
 split at e1'
 case isFalse=>cases e1'
 case isTrue hc =>
 obtain⟨hj0,hnb,n12,n13,n23⟩:=hc
 have hj:ρ[j]?=some none:=by
  unfold y_ at hj0
  split at hj0
  ·assumption
  ·cases hj0
 cases e1'
 have hnb':(t_ d1&&(t_ d2&&(t_ d3&&true)))=true:=hnb
 simp only[Bool.and_eq_true,and_true] at hnb'
 obtain⟨Hr,nb2,nb3⟩:=hnb'
 have hjl:j<σ.length:=Nat.lt_of_lt_of_le (List.getElem?_eq_some_iff.mp hj).1 er.1.1
 intro p hp
 have s0:=aN hp (.dK [])
 refine⟨ρ,.str k1,(er.mono s0).1,rfl,fun y1 H1 s1 ry1=>⟨ρ,d1,(er.mono (s0.trans s1)).1,a1,fun u1 H2 s2 r1=>⟨ρ,.str k2,(er.mono ((s0.trans s1).trans s2)).1,rfl,fun y2 H3 s3 ry2=>⟨ρ,d2,(er.mono (((s0.trans s1).trans s2).trans s3)).1,a2,fun u2 H4 s4 r2=>?_⟩⟩⟩⟩
 cases (show y1=_ from ry1)
 cases (show y2=_ from ry2)
 have t4:=(((s0.trans s1).trans s2).trans s3).trans s4
 have h4p:H4 p=some (.dK []):=(((s1.trans s2).trans s3).trans s4) _ _ ax
 refine⟨h4p,[(.inr k1,u1),(.inr k2,u2)],rfl,by simp,?_⟩
 have hmk:zY [] [((.inr k1:Key),u1),(.inr k2,u2)]=[(.inr k1,u1),(.inr k2,u2)]:=by
  show putK (putK ([]:List (Key×V)) (Sum.inr k1) u1) (Sum.inr k2) u2=_
  rw[show putK ([]:List (Key×V)) (.inr k1) u1=[(.inr k1,u1)] from rfl,A0 (fun z=>n12 (Sum.inr.inj z))]
  rfl
 rw[hmk]
 generalize hH5:upd H4 p (.dK [((.inr k1:Key),u1),(.inr k2,u2)])=H5
 have k45:u0 [p] H4 H5:=fun b u nb eb=>by subst hH5;rw[au fun z=>nb (by rw[z];exact List.mem_singleton.mpr rfl)];exact eb
 have m4:um [p] H4:=fun b hb=>by rw[List.mem_singleton.mp hb,h4p];trivial
 have sH5:l3 H H5:=fun b u hb=>k45 b u (fun z=>by rw[List.mem_singleton.mp z,hp] at hb;cases hb) (t4 b u hb)
 have r1':Rep X.K H5 d1 u1:=Rep.kq m4 k45 Hr (r1.mono (s3.trans s4))
 have r2':Rep X.K H5 d2 u2:=Rep.kq m4 k45 nb2 r2
 have h5p:H5 p=some (.dK [((.inr k1:Key),u1),(.inr k2,u2)]):=by subst hH5;exact ax
 have er5:=(er.mono sH5).hid (v:=.ref p) hj
 have hσj:(σ.set j (some (V.ref p)))[j]?=some (some (.ref p)):=List.getElem?_set_self hjl
 refine⟨ρ,d3,er5.1,a3,fun u3 H6 s6 r3=>⟨.ref p,hσj,ρ,.str k3,(er5.mono s6).1,rfl,fun y3 H7 s7 ry3=>?_⟩⟩
 cases (show y3=_ from ry3)
 have h7p:=(s6.trans s7) _ _ h5p
 refine⟨p,_,rfl,Br.k (k:=.inr k3) h7p (by rw[sizeLine_eq];show 2<_;omega),?_⟩
 rw[A0 (fun z=>n13 (Sum.inr.inj z)),A0 (fun z=>n23 (Sum.inr.inj z)),show putK ([]:List (Key×V)) (.inr k3) u3=[(.inr k3,u3)] from rfl]
 generalize hH8:upd H7 p (.dK [((.inr k1:Key),u1),(.inr k2,u2),(.inr k3,u3)])=H8
 have k78:u0 [p] H7 H8:=fun b u nb eb=>by subst hH8;rw[au fun z=>nb (by rw[z];exact List.mem_singleton.mpr rfl)];exact eb
 have m7:um [p] H7:=fun b hb=>by rw[List.mem_singleton.mp hb,h7p];trivial
 have sH8:l3 H H8:=fun b u hb=>k78 b u (fun z=>by rw[List.mem_singleton.mp z,hp] at hb;cases hb) ((sH5.trans (s6.trans s7)) b u hb)
 have q1:Rep X.K H8 d1 u1:=Rep.kq m7 k78 Hr (r1'.mono (s6.trans s7))
 have q2:Rep X.K H8 d2 u2:=Rep.kq m7 k78 nb2 (r2'.mono (s6.trans s7))
 have q3:Rep X.K H8 d3 u3:=Rep.kq m7 k78 nb3 (r3.mono s7)
 have h8p:H8 p=some (.dK [((.inr k1:Key),u1),(.inr k2,u2),(.inr k3,u3)]):=by subst hH8;exact ax
 have er8:=(er.mono sH8).hid (v:=.ref p) hj
 refine⟨.ref p,hσj,p,rfl,.inl ⟨_,.inl h8p⟩,ρ,.str zz,er8.1,aq,fun y H9 s9 ry=>⟨ρ,dd,(er8.mono s9).1,ad,fun vz H10 s10 rz=>?_⟩⟩
 cases (show y=_ from ry)
 have t10:=s9.trans s10
 refine⟨_,AJ.k (k:=.inr zz) (t10 _ _ h8p),?_⟩
 have rv:Rep X.K H10 (if zz=k1 then d1 else if zz=k2 then d2 else if zz=k3 then d3 else dd) ((wO [((.inr k1:Key),u1),(.inr k2,u2),(.inr k3,u3)] (.inr zz)).getD vz):=by
  by_cases c1:zz=k1
  ·rw[if_pos c1,vX (by rw[c1])];exact q1.mono t10
  rw[if_neg c1,vv (fun z=>c1 (Sum.inr.inj z).symm)]
  by_cases c2:zz=k2
  ·rw[if_pos c2,vX (by rw[c2])];exact q2.mono t10
  rw[if_neg c2,vv (fun z=>c2 (Sum.inr.inj z).symm)]
  by_cases c3:zz=k3
  ·rw[if_pos c3,vX (by rw[c3])];exact q3.mono t10
  rw[if_neg c3,vv (fun z=>c3 (Sum.inr.inj z).symm)]
  exact rz
 generalize (wO [((.inr k1:Key),u1),(.inr k2,u2),(.inr k3,u3)] (.inr zz)).getD vz=yv at rv
 generalize (if zz=k1 then d1 else if zz=k2 then d2 else if zz=k3 then d3 else dd)=d at rv e2
 split at e2
 case h_2=>cases e2
 case h_1 kk a ks ds hat =>
 split at e2
 case isFalse=>cases e2
 case isTrue hc =>
 obtain⟨rfl,g1,g2,g3,g4,g5,g6,g7⟩:=hc
 cases e2
 have er10:=er8.mono t10
 obtain⟨v,hσ,rob0⟩:=er10.1.at hat
 obtain⟨xs,ev,⟨hl,hH0⟩,t0⟩:=rob0
 subst ev
 refine⟨.ref a,hσ,ρ,.str k4,er10.1,rfl,fun u H11 s11 ru=>?_⟩
 cases (show u=_ from ru)
 have sA:=sH8.trans (t10.trans s11)
 have ry:=rv.mono s11
 have hH:=s11 _ _ hH0
 have t:=t0.mono s11
 have hdl:ds.length=xs.length:=t.length
 refine⟨a,_,rfl,Br.k (k:=.inr k4) hH (by rw[List.length_zip,List.length_map,sizeLine_eq];omega),?_⟩
 have ma:um [a] H11:=fun b hb=>by rw[List.mem_singleton.mp hb,hH];trivial
 generalize ho:HO.dK (putK ((ks.map Sum.inr).zip xs) (.inr k4) yv)=o'
 have kq:u0 [a] H11 (upd H11 a o'):=fun b u nb eb=>by rw[au fun z=>nb (by rw[z];exact List.mem_singleton.mpr rfl)];exact eb
 obtain⟨vs',p1,p2,p3⟩:=AZ (K:=X.K) (H':=upd H11 a o') (x:=k4) (e:=d) (y:=yv) (ks:=ks) (ds:=ds) (vs:=xs) g7 hl hdl
 have rob:Rep X.K (upd H11 a o') (.obj 1 a (putD ks ds k4 d).1 (putD ks ds k4 d).2) (.ref a):=by
  refine⟨vs',rfl,⟨p2,?_⟩,p3 (gC hH g5 t) (Rep.kq ma kq g1 ry)⟩
  rw[ax,<- ho,p1]
 have hin:=EH g3
 have haS:a∈S:=hin a (List.mem_cons_self ..)
 have kqS:u0 S H11 (upd H11 a o'):=kq.mono fun b hb=>by rw[List.mem_singleton.mp hb];exact haS
 have m1:=m.same sA
 have mS:um S (upd H11 a o'):=fun b hb=>by
  by_cases hba:b=a
  ·rw[hba,ax,<- ho];trivial
  ·rw[au hba];exact m1 b hb
 exact q _ ((u0.of sA).trans kqS) mS _ (iy (er10.mono s11) m1 kqS g2 hσ rob)
end
def Qg(K:W.Frag)(w:NK):TS:=fun E σ H=>∃ ρ τ,uv K H ρ τ σ/\(∃ob,w ρ 0 1=some ob)/\∀a l ob H',H a=none->H l=none->a≠l->w ρ a l=some ob->l3 H H'->Rep K H' ob (.ref a)->E.rt (.ref a) H'
def NB(X:Cx)(sts:List Stmt)(w:NK):Prop:=PSs X sts (Qg X.K w)
theorem jo{x:Str}{e:D}(he:t_ e=true):∀{ks:List Str} {ds:LD},m6 ds=true->m6 (putD ks ds x e).2=true
 | [],ds,h=>by
  have:(putD [] ds x e).2=ds++[e]:=by cases ds<;>rfl
  rw[this]
  induction ds with
  | nil=>show(t_ e&&true)=true;rw[he];rfl
  | cons d ds ih =>
   have h':(t_ d&&m6 ds)=true:=h
   rw[Bool.and_eq_true] at h'
   show(t_ d&&m6 (ds++[e]))=true
   rw[h'.1,ih h'.2 (by cases ds<;>rfl)];rfl
 | k::ks,[],h=>by show(t_ e&&true)=true;rw[he];rfl
 | k::ks,c::ds,h=>by
  have h':(t_ c&&m6 ds)=true:=h
  rw[Bool.and_eq_true] at h'
  by_cases hx:k=x
  ·rw[putD,if_pos hx];show(t_ e&&m6 ds)=true;rw[he,h'.2];rfl
  ·rw[putD,if_neg hx];show(t_ c&&m6 (putD ks ds x e).2)=true;rw[h'.1,jo he h'.2];rfl
section
variable{X:Cx}{pos:Pos}
theorem rm{st:Stmt}{sts:List Stmt}{p:R->Option Out}{w:NK}(h1:S1 X st p)(h2:NB X sts w):NB X (st::sts) (EW p w):=(cg h1 h2).imp fun E σ H ⟨ρ,τ,er,⟨ob,ho⟩,q⟩=>by
 obtain⟨o,e1,e2⟩:=i9 ho
 refine⟨ρ,τ,o,er,e1,fun H1 s1=>?_⟩
 cases o with
 | nx ρ2 =>
  refine fun σ2 er2=>⟨ρ2,τ,er2,⟨ob,e2⟩,fun a l ob' H' ha hl hal hw s2 r=>q a l ob' H' ?_ ?_ hal ?_ (s1.trans s2) r⟩
  ·cases hb:H a with
   | none=>rfl
   | some u=>rw[s1 a u hb] at ha;cases ha
  ·cases hb:H l with
   | none=>rfl
   | some u=>rw[s1 l u hb] at hl;cases hl
  ·show(p ρ).bind _=_
   rw[e1];exact hw
 | rt d=>cases e2
 | bk ρ2=>cases e2
 | ct ρ2=>cases e2
theorem sB{x k k':Str}{ea eb ke ke' value:Expr}{f1 f2 f:R->OD}{px p1 p2 p3 p4 pos1 px2 q2 pos2 px3 q3 pl pos3 px4 pos4:Pos}(i:Nat)(hNd:X.N.Nodup)(hu:X.A.units+1<cLine)(hc:X.calm=true)(hmd:X.mg "dict" = none)(hmz:X.mg "zip" = none)
  (h1:SE X ea f1) (h2:SE X eb f2) (hk:SE X ke (fun _=>some (.str k))) (h3:SE X value f) (hk':SE X ke' (fun _=>some (.str k')))
  (hN:X.N[i]?=some x:=by rfl) (hv:G0 X.env.scope x:=by first | exact Or.inl rfl | exact Or.inr (Or.inl rfl) | exact Or.inr (Or.inr rfl)) (hd:(x==("__debug__" : Str))=false:=by decide) (hcd:(x==("__classdict__" : Str))=false:=by decide)
  (hlj:Loc X.env.scope x:=by first | exact Or.inl rfl | exact Or.inr rfl) (hfj:X.fn x=true\/X.env.scope.names.lookup x=some .local:=by first | exact .inl rfl | exact .inr rfl)
  (hgd:Gl X "dict":=by rfl) (hgz:Gl X "zip":=by rfl) (hst:noStar ea=true:=by rfl) (hst2:noStar eb=true:=by rfl)
  (hs1:swapsWith (.Call (.Name "dict" p1) [.Call (.Name "zip" p2) [ea,eb] [] p3] [] p4) (some (.Name x px)) pos1.line X.env=pure false:=by rfl)
  (hs2:swapsWith value (some (.Subscript (.Name x px2) ke q2)) pos2.line X.env=pure false:=by rfl)
  (hs3:swapsWith (.List [] pl) (some (.Subscript (.Name x px3) ke' q3)) pos3.line X.env=pure false:=by rfl) :
  NB X [.Assign [.Name x px] (.Call (.Name "dict" p1) [.Call (.Name "zip" p2) [ea,eb] [] p3] [] p4) pos1,.Assign [.Subscript (.Name x px2) ke q2] value pos2,.Assign [.Subscript (.Name x px3) ke' q3] (.List [] pl) pos3,.Return (some (.Name x px4)) pos4] (Bm i f1 f2 k f k'):=by
 intro pins s σ H E I ⟨ρ,τ,er,⟨ob0,e0⟩,q⟩
 obtain⟨dx,a1,z1⟩:=i9 e0
 obtain⟨dy,a2,z2⟩:=i9 z1
 obtain⟨dd,a3,z3⟩:=i9 z2
 match dx,dy,a1,a2,z3 with
 | .tup xs,.tup ys,a1,a2,z3 =>
 obtain⟨ks,a4,z4⟩:=i9 (show(zI xs).bind _=some ob0 from z3)
 split at z4
 case isFalse=>cases z4
 case isTrue hcond =>
 obtain⟨⟨hnd,hlen,h0,h50⟩,nys,ndd,hfree,hnd2⟩:=hcond
 have hj:ρ[i]?=some none:=by
  unfold y_ at hfree
  split at hfree
  ·assumption
  ·cases hfree
 have hjl:i<σ.length:=Nat.lt_of_lt_of_le (List.getElem?_eq_some_iff.mp hj).1 er.1.1
 refine wpAny_execs_cons (ug ((gQ (i:=i) hNd hN hlj (lZ (p1:=p1) (p2:=p2) (p3:=p3) (p4:=p4) hc hmd hmz h1 h2 hgd hgz hst hst2) hs1 hfj) pins s σ H {E with nx:=fun σ' H'=>∃d vs,σ'=σ.set i (some (.ref d))/\H d=none/\l3 H H'/\vs.length=ks.length/\H' d=some (.dK ((ks.map Sum.inr).zip vs))/\l0 X.K H' ys vs} I ?_) fun fl s1 z=>?_)
 ·exact⟨ρ,xs,ys,ks,er.1,a1,a2,a4,hnd,hlen,h0,h50,fun d vs H' g1 g2 g3 g4 g5=>⟨d,vs,rfl,g1,g2,g3,g4,g5⟩⟩
 cases fl with
 | brk=>exact z
 | cont=>exact z
 | ret v=>exact z
 | next =>
 obtain⟨σ',H1,I1,d,vs,rfl,hHd,s1',hvl,h1d,rys⟩:=z
 have er1:=(er.mono s1').hid (v:=.ref d) hj
 have hσ:(σ.set i (some (V.ref d)))[i]?=some (some (.ref d)):=List.getElem?_set_self hjl
 refine wpAny_execs_cons (ug ((gk hu (pv i (pos:=px2) hN hv hd hcd) hk h3 hs2) pins s1 _ H1 {E with nx:=fun σ' H'=>σ'=σ.set i (some (.ref d))/\∃u H2,l3 H1 H2/\Rep X.K H2 dd u/\H'=upd H2 d (.dK (putK ((ks.map Sum.inr).zip vs) (.inr k) u))} I1 ?_) fun fl s2 z=>?_)
 ·refine⟨ρ,dd,er1.1,a3,fun u H2 s2 ru=>⟨.ref d,hσ,ρ,.str k,(er1.mono s2).1,rfl,fun y H3 s3 ry=>?_⟩⟩
  cases (show y=_ from ry)
  exact⟨d,_,rfl,Br.k (k:=.inr k) ((s2.trans s3) _ _ h1d) (by rw[List.length_zip,List.length_map,sizeLine_eq];omega),rfl,u,H3,s2.trans s3,ru.mono s3,rfl⟩
 cases fl with
 | brk=>exact z
 | cont=>exact z
 | ret v=>exact z
 | next =>
 obtain⟨σ',H3,I3,rfl,u,H2,s12,ru,rfl⟩:=z
 have h2d:=s12 _ _ h1d
 have m2:um [d] H2:=fun b hb=>by rw[List.mem_singleton.mp hb,h2d];trivial
 generalize ho:HO.dK (putK ((ks.map Sum.inr).zip vs) (.inr k) u)=o' at I3
 generalize hH3:upd H2 d o'=H3 at I3
 have k23:u0 [d] H2 H3:=fun b w nb eb=>by subst hH3;rw[au fun z=>nb (by rw[z];exact List.mem_singleton.mpr rfl)];exact eb
 obtain⟨vs',p1',p2',p3'⟩:=AZ (K:=X.K) (H':=H3) (x:=k) (e:=dd) (y:=u) (ks:=ks) (ds:=ys) (vs:=vs) hnd hvl.symm (by omega)
 have rys':l0 X.K H3 (putD ks ys k dd).2 vs':=p3' (l0.kq m2 k23 nys (rys.mono s12)) (Rep.kq m2 k23 ndd ru)
 have h3d:H3 d=some (.dK (((putD ks ys k dd).1.map Sum.inr).zip vs')):=by subst hH3;rw[ax,<- ho,p1']
 have s03:l3 H H3:=fun b w hb=>k23 b w (fun z=>by rw[List.mem_singleton.mp z,hHd] at hb;cases hb) ((s1'.trans s12) b w hb)
 have er3:=(er.mono s03).hid (v:=.ref d) hj
 have hl2:(putD ks ys k dd).1.length<=51:=by
  have:=v4 ((ks.map (Sum.inr:Str->Key)).zip vs) (.inr k) u
  rw[p1',List.length_zip,List.length_zip,List.length_map,List.length_map] at this
  omega
 have nys':=jo (x:=k) ndd (ks:=ks) nys
 refine wpAny_execs_cons (ug ((gk hu (pv i (pos:=px3) hN hv hd hcd) hk' (mE (pos:=pl) HD) hs3) pins s2 _ H3 {E with nx:=fun σ' H'=>σ'=σ.set i (some (.ref d))/\∃l H4,H3 l=none/\l3 (upd H3 l (.lst [])) H4/\H'=upd H4 d (.dK (putK (((putD ks ys k dd).1.map Sum.inr).zip vs') (.inr k') (.ref l)))} I3 ?_) fun fl s3 z=>?_)
 ·refine⟨Nat.zero_le _,fun l hl0=>⟨.ref d,hσ,ρ,.str k',(er3.mono (aN hl0 _)).1,rfl,fun y H4 s4 ry=>?_⟩⟩
  cases (show y=_ from ry)
  exact⟨d,_,rfl,Br.k (k:=.inr k') (((aN hl0 _).trans s4) _ _ h3d) (by rw[List.length_zip,List.length_map,sizeLine_eq];omega),rfl,l,H4,hl0,s4,rfl⟩
 cases fl with
 | brk=>exact z
 | cont=>exact z
 | ret v=>exact z
 | next =>
 obtain⟨σ',H5,I5,rfl,l,H4,hl0,s34,rfl⟩:=z
 have hdl:d≠l:=ux h3d hl0
 have s3':=(aN hl0 (.lst [])).trans s34
 have h4l:H4 l=some (.lst []):=s34 _ _ ax
 have h4d:=s3' _ _ h3d
 have h5l:(upd H4 d (.dK (putK (((putD ks ys k dd).1.map Sum.inr).zip vs') (.inr k') (.ref l)))) l=some (.lst []):=by rw[au (Ne.symm hdl)];exact h4l
 obtain⟨its,nn,rv',hz',I6⟩:=FM I5 h5l
 generalize hH6:upd (upd H4 d (.dK (putK (((putD ks ys k dd).1.map Sum.inr).zip vs') (.inr k') (.ref l)))) l (.frz {cls:=.type "list",data:=.seq its.toArray nn} (.own 0))=H6 at I6
 have k36:u0 [d] H3 H6:=fun b w nb eb=>by
  have hbd:b≠d:=fun z=>nb (by rw[z];exact List.mem_singleton.mpr rfl)
  have hbl:b≠l:=ux eb hl0
  subst hH6
  rw[au hbl,au hbd];exact s3' b w eb
 have m3:um [d] H3:=fun b hb=>by rw[List.mem_singleton.mp hb,h3d];trivial
 have h6l:H6 l=some (.frz {cls:=.type "list",data:=.seq its.toArray nn} (.own 0)):=by subst hH6;exact ax
 have h6d:H6 d=some (.dK (putK (((putD ks ys k dd).1.map Sum.inr).zip vs') (.inr k') (.ref l))):=by subst hH6;rw[au hdl,ax]
 obtain⟨vs2,r1,r2,r3⟩:=AZ (K:=X.K) (H':=H6) (x:=k') (e:=.obj 0 l [] []) (y:=.ref l) (ks:=(putD ks ys k dd).1) (ds:=(putD ks ys k dd).2) (vs:=vs') hnd2 p2' rys'.length
 have s06:l3 H H6:=fun b w hb=>k36 b w (fun z=>by rw[List.mem_singleton.mp z,hHd] at hb;cases hb) (s03 b w hb)
 have hHl:H l=none:=by
  cases hb:H l with
  | none=>rfl
  | some w=>rw[s03 l w hb] at hl0;cases hl0
 refine(fu (mM (pv i (pos:=px4) hN hv hd hcd))) pins s3 _ H6 E I6 ⟨.ref d,hσ,q d l (.obj 1 d (putD (putD ks ys k dd).1 (putD ks ys k dd).2 k' (.obj 0 l [] [])).1 (putD (putD ks ys k dd).1 (putD ks ys k dd).2 k' (.obj 0 l [] [])).2) H6 hHd hHl hdl ?_ s06 ⟨vs2,rfl,⟨r2,by rw[h6d,r1]⟩,r3 (l0.kq m3 k36 nys' rys') ⟨[],rfl,⟨hz',its,nn,rv',h6l⟩,rfl⟩⟩⟩
 show(f1 ρ).bind _=_
 rw[a1,Option.bind_some,a2,Option.bind_some,a3,Option.bind_some]
 show(zI xs).bind _=_
 rw[a4,Option.bind_some,if_pos ⟨⟨hnd,hlen,h0,h50⟩,nys,ndd,hfree,hnd2⟩]
def Oz(K:W.Frag)(mk:LD->Nat->Nat->OD):Sp:=fun vs H Q _=>∃ds,l0 K H ds vs/\(∃ob,mk ds 0 1=some ob)/\∀a l ob H',H a=none->H l=none->a≠l->mk ds a l=some ob->l3 H H'->Rep K H' ob (.ref a)->Q (.ref a) H'
theorem rG{P:Program}{w:World}{K:W.Frag}{mg:Str->Option Value}{base:Heap}{x qual:Str}{st:Stmt}{f:Addr}{fd:FuncData}{N ps:List Str}{k:Nat}{g:NK}
  (Fn:uu K x qual st f fd) (Sc:i7 N ps (i6 st))
  (hb:∀(cdv:Value) (A:Around) (outer:List Env) (s:Shared) (H:Hp) (E:XK),uB k (A.deeper (envOfC qual (i6 st) s.heap.objs.size f cdv))->NB (BZ ui P w K mg base N qual (i6 st) f cdv A outer s H E).nox (uO st) g) :
  n5 P w K mg base ui (k+1) f fd ps (Oz K (D4 ps.length N.length g)):=by
 refine Fn.ok Sc (fun vs H Q E h=>?_) (fun cdv A outer s H vs Q E hr h=>?_)
 ·obtain⟨ds,r,⟨ob,e⟩,_⟩:=h
  rw[<- r.length]
  unfold D4 at e
  split at e
  ·assumption
  ·cases e
 ·obtain⟨ds,r,⟨ob,e⟩,q⟩:=h
  unfold D4 at e
  split at e
  case isFalse=>cases e
  case isTrue hlen =>
  refine⟨_,hb cdv A outer s H E hr,Cp N.length ds,_,(Dg r).t,⟨ob,e⟩,fun a l ob' H' ha hl hal hw s' r'=>q a l ob' H' ha hl hal ?_ s' r'⟩
  unfold D4
  rw[if_pos hlen];exact hw
structure GG (P:Program) (w:World) (K:W.Frag) (mg:Str->Option Value) (base:Heap) (k:Nat) (x:Str) (ps:List Str) (mk:LD->Nat->Nat->OD):Prop where
 ex:∃f fd,n5 P w K mg base ui k f fd ps (Oz K mk)/\mg x=some (.ref f)/\W.keepIn K (.ref f)=true/\Binds K fd ps []
theorem GG.m{P:Program}{w:World}{K:W.Frag}{mg:Str->Option Value}{base:Heap}{k k':Nat}{x:Str}{ps:List Str}{mk:LD->Nat->Nat->OD}(h:GG P w K mg base k x ps mk)(hk:k<=k':=by decide):GG P w K mg base k' x ps mk:=by
 obtain⟨f,fd,a,b⟩:=h.ex
 exact⟨f,fd,a.mono hk,b⟩
theorem r_{x cn:Str}{e:Expr}{es:List Expr}{sts:List Stmt}{F:R->Option LD}{mk:LD->Nat->Nat->OD}{w:MU}{ps:List Str}{k:Nat}{px p p1:Pos}(i:Nat)(hN:X.N.Nodup)(C:GG X.prog X.w X.K X.mg X.base k cn ps mk)
  (hr:uB k X.A) (ha:SA X (e::es) F) (h2:HK X sts w) (hadr:∀ds a l ob,mk ds a l=some ob->adr ob=[a,l]) (hg:Gl X cn:=by rfl) (hdb:(cn==("__debug__" : Str))=false:=by decide) (hix:X.N[i]?=some x:=by rfl) (hx:Loc X.env.scope x:=by first | exact Or.inl rfl | exact Or.inr rfl)
  (hs:swapsWith (.Call (.Name cn p) (e::es) [] p1) (some (.Name x px)) pos.line X.env=pure false:=by rfl) (hf:X.fn x=true\/X.env.scope.names.lookup x=some .local:=by first | exact .inl rfl | exact .inr rfl) :
  SS X (.Assign [.Name x px] (.Call (.Name cn p) (e::es) [] p1) pos::sts) (Gz i mk F w):=by
 have hst:=ha.2.2
 rw[List.all_cons,Bool.and_eq_true] at hst
 have he:=aK es X.env hst.1
 have hpl:=cP (pos:=p1) (env:=X.env) hst.2
 obtain⟨f,fd,fok,hm,kp,bd⟩:=C.ex
 intro pins s σ H E I ⟨ρ,τ,o,er,eo,qq⟩
 obtain⟨ds,e1,hi,hw⟩:=Jb eo
 refine wpAny_execs_cons (ug ((gQ (i:=i) hN hix hx (io fok hr hg hm kp bd .nil D7 ha.1 hdb he hpl) hs hf) pins s σ H {E with nx:=fun σ' H'=>∃a l ob,H a=none/\H l=none/\a≠l/\σ'=σ.set i (some (.ref a))/\mk ds a l=some ob/\l3 H H'/\Rep X.K H' ob (.ref a)} I ?_) fun fl s1 z=>?_)
 ·refine⟨ρ,ds,er.1,e1,fun vs H1 s1 r1=>⟨ds,by rw[List.append_nil];exact r1,?_,fun a l ob H' ha hl hal hmk s2 r2=>⟨a,l,ob,?_,?_,hal,rfl,hmk,s1.trans s2,r2⟩⟩⟩
  ·obtain⟨ob,_,h,_⟩:=hw 0 1 (by decide)
   exact⟨ob,h⟩
  ·cases hb:H a with
   | none=>rfl
   | some u=>rw[s1 a u hb] at ha;cases ha
  ·cases hb:H l with
   | none=>rfl
   | some u=>rw[s1 l u hb] at hl;cases hl
 cases fl with
 | brk=>exact z
 | cont=>exact z
 | ret v=>exact z
 | next =>
 obtain⟨σ',H',I',a,l,ob,hHa,hHl,hal,rfl,hmk,sm,ro⟩:=z
 obtain⟨ob',mo,h1,h3,h4⟩:=hw a l hal
 rw[hmk] at h1
 cases h1
 have ms:um [a,l] H':=by
  have:=FQ ro
  rw[hadr _ _ _ _ hmk] at this
  exact this
 refine h2 [a,l] pins s1 _ H' E I' ⟨ρ.set i (some ob),τ,mo,(er.mono sm).set hi ro,ms,h3,fun H2 kq m2=>?_⟩
 have sm2:l3 H H2:=fun b u hb=>by
  refine kq b u (fun z=>?_) (sm b u hb)
  rcases List.mem_cons.mp z with rfl | z
  ·rw[hHa] at hb;cases hb
  ·rw[List.mem_singleton.mp z,hHl] at hb;cases hb
 have hfin:=qq H2 sm2
 subst h4
 cases mo with
 | rt d ρ'=>exact fun v rv _=>hfin v rv
 | nx ρ' =>
  intro σ2 er2
  refine hfin σ2 ⟨⟨by rw[List.length_set];exact er2.1.1,fun j d hj=>er2.1.2 j d ?_⟩,by rw[List.length_set];exact er2.2⟩
  by_cases hji:j=i
  ·subst hji
   have hl:j<ρ'.length:=by have:=(List.getElem?_eq_some_iff.mp hj).1;simpa using this
   rw[List.getElem?_set_self hl] at hj
   cases hj
  ·rwa [List.getElem?_set_ne (Ne.symm hji)] at hj
end
theorem K1{i:Nat}{f1 f2 f:R->OD}{k k':Str}{ρ:R}{a l:Nat}{ob:D}(h:Bm i f1 f2 k f k' ρ a l=some ob):adr ob=[a,l]:=by
 obtain⟨dx,a1,z1⟩:=i9 h
 obtain⟨dy,a2,z2⟩:=i9 z1
 obtain⟨dd,a3,z3⟩:=i9 z2
 match dx,dy,a1,a2,z3 with
 | .tup xs,.tup ys,a1,a2,z3 =>
 obtain⟨ks,a4,z4⟩:=i9 (show(zI xs).bind _=some ob from z3)
 split at z4
 case isFalse=>cases z4
 case isTrue hc =>
 cases z4
 show a::_=_
 rw[lG (jo hc.2.2.1 hc.2.1)]
theorem rE{n N i:Nat}{p:R->Option Out}{f1 f2 f:R->OD}{k k':Str}:∀ds a l ob,D4 n N (EW p (Bm i f1 f2 k f k')) ds a l=some ob->adr ob=[a,l]:=fun ds a l ob h=>by
 unfold D4 at h
 split at h
 case isFalse=>cases h
 case isTrue hl =>
 obtain⟨o,e1,e2⟩:=i9 h
 cases o with
 | nx ρ2=>exact K1 e2
 | _=>cases e2
theorem qV{X:Cx}:JO X (.type "tuple") Iq:=yS.imp fun xs H Q ⟨ds,d,r,e,q⟩=>by
 match ds,e with
 | [.fro ys],e =>
  cases e
  obtain⟨v,r',rfl,⟨a,vs,rfl,hq,t⟩,r2⟩:=r
  cases (show r'=[] from r2)
  exact⟨a,vs,rfl,.inl ⟨hq,fun l hl=>q _ _ (aN hl _) ⟨l,vs,rfl,xy.of ax,t.mono (aN hl _)⟩⟩⟩
end HW
set_option maxRecDepth 10000
namespace HW
open PySem
def bU:D:=.int 0
def ba:D:=.int 1
def bg:D:=.int 2
def bZ:D:=.int 3
def aT:D:=.int 4
def dY:D:=.int 5
def aX:D:=.int 6
def cW:D:=.int 7
def fj:D:=.int 4
def eT:D:=.int 10
def eW:D:=.int 86400
def dL:D:=.int 1000000000000000000
def cT:List Str:=[oS "a",oS "b",oS "c",oS "A",oS "B",oS "C"]
theorem Dm{st:D->R->Option R}{body:R->Option Out}{d:D}{ds:LD}{ρ ρ1 ρ2:R}(h1:st d ρ=some ρ1)(h2:body ρ1=some (.nx ρ2)):zH st body (d::ds) ρ=zH st body ds ρ2:=by
 show(st d ρ).bind _=_
 rw[h1]
 show(body ρ1).bind _=_
 rw[h2];rfl
theorem zl{it:R->Option LD}{st:D->R->Option R}{body:R->Option Out}{ρ:R}{ds:LD}{o:Out}(h1:it ρ=some ds)(h2:zH st body ds ρ=some o):Ar it st body ρ=some o:=by simp[h1,h2]
theorem m9{f g:R->Option Out}{ρ ρ2:R}(h:f ρ=some (.nx ρ2)):n4 f g ρ=g ρ2:=by simp[h]
theorem zQ{c:R->Option Bool}{f g:R->Option Out}{ρ:R}(h:c ρ=some true):yD c f g ρ=f ρ:=by simp[h]
theorem yd{c:R->Option Bool}{f g:R->Option Out}{ρ:R}(h:c ρ=some false):yD c f g ρ=g ρ:=by simp[h]
theorem wt{f g:R->Option Out}{ρ:R}{d:D}(h:f ρ=some (.rt d)):n4 f g ρ=some (.rt d):=by simp[h]
theorem p7{f:R->OD}{st:D->R->Option R}{ρ ρ':R}{d:D}(h:f ρ=some d)(h2:st d ρ=some ρ'):l6 f st ρ=some (.nx ρ'):=by simp[h,h2]
theorem i8{F:LD->OD}{g:R->Option LD}{ρ:R}{ds:LD}{d:D}(h:g ρ=some ds)(h2:F ds=some d):i4 F g ρ=some d:=by simp[h,h2]
theorem l9{f:R->OD}{g:R->Option LD}{ρ:R}{d:D}{ds:LD}(h:f ρ=some d)(h2:g ρ=some ds):e8 f g ρ=some (d::ds):=by simp[h,h2]
theorem k7{F:D->D->OD}{f g:R->OD}{ρ:R}{x y z:D}(h1:f ρ=some x)(h2:g ρ=some y)(h:F x y=some z):i5 F f g ρ=some z:=by simp only[i5,h1,h2,Option.bind_some,h]
theorem tU{F:D->D->Option Bool}{f g:R->OD}{ρ:R}{x y:D}{b:Bool}(h1:f ρ=some x)(h2:g ρ=some y)(h:F x y=some b):l4 F f g ρ=some b:=by simp only[l4,h1,h2,Option.bind_some,h]
theorem tupS{g:R->Option LD}{ρ:R}{ds:LD}(h:g ρ=some ds):l5 g ρ=some (.tup ds):=by simp[h]
theorem Dt{c:R->Option Bool}{ρ:R}{b:Bool}(h:c ρ=some b):x5 c ρ=some (.bl b):=by simp[h]
theorem Es{f:R->OD}{l h:R->Option (Option Int)}{ρ:R}{x d:D}{a b:Option Int}(h1:f ρ=some x)(h2:l ρ=some a)(h3:h ρ=some b)(h4:Pw x a b=some d):KA f l h ρ=some d:=by simp only[KA,h1,h2,h3,Option.bind_some,h4]
theorem Px{c d:R->Option Bool}{ρ:R}(h1:c ρ=some false)(h2:d ρ=some false):IW c d ρ=some false:=by simp[h1,h2]
theorem Mk{c d:R->Option Bool}{ρ:R}(h1:c ρ=some false):x4 c d ρ=some false:=by simp[h1]
theorem Hk{c d:R->Option Bool}{ρ:R}{b:Bool}(h1:c ρ=some true)(h2:d ρ=some b):x4 c d ρ=some b:=by simp[h1,h2]
theorem KJ{f g:R->OD}{ρ:R}{d:D}(h1:f ρ=some (.bl true))(h2:g ρ=some d):zJ f g ρ=some d:=by simp[h1,h2]
theorem GF{c:R->Option Bool}{ρ:R}{b:Bool}(h:c ρ=some b):y7 c ρ=some (!b):=by simp[h]
theorem zR{f:R->OD}{ρ:R}{b:Bool}(h:f ρ=some (.bl b)):u_ f ρ=some b:=by simp[h]
theorem Jk{c:R->Option Bool}{f g:R->OD}{ρ:R}{d:D}(h:c ρ=some true)(h2:f ρ=some d):FO c f g ρ=some d:=by simp[h,h2]
theorem JD{c:R->Option Bool}{f g:R->OD}{ρ:R}{d:D}(h:c ρ=some false)(h2:g ρ=some d):FO c f g ρ=some d:=by simp[h,h2]
theorem Pk{c d:R->Option Bool}{ρ:R}(h1:c ρ=some true):IW c d ρ=some true:=by simp[h1]
theorem Mc{c d:R->Option Bool}{ρ:R}{b:Bool}(h1:c ρ=some false)(h2:d ρ=some b):IW c d ρ=some b:=by simp[h1,h2]
theorem JT{g:R->Option LD}{ρ:R}{ds:LD}(h:g ρ=some ds):BB g ρ=some (.lst ds):=by simp[h]
theorem NI{F:D->OD}{f:R->OD}{ρ:R}{x z:D}(h1:f ρ=some x)(h:F x=some z):Fi F f ρ=some z:=by simp only[Fi,h1,Option.bind_some,h]
theorem n9{k n:Nat}{g:R->Option Out}{ds:LD}{d:D}(h:g (Cp n ds)=some (.rt d))(hl:ds.length=k:=by rfl):via k n g ds=some d:=by unfold via;rw[if_pos hl,h];rfl
theorem DU{f g:R->OD}{ρ:R}(h1:f ρ=some (.bl false)):zJ f g ρ=some (.bl false):=by simp[h1]
theorem retS{f:R->OD}{ρ:R}{d:D}(h:f ρ=some d):n6 f ρ=some (.rt d):=by simp[h]
theorem modS{i j:Int}(h:0<j):tG (.int i) (.int j)=some (.int (i%j)):=by simp[h]
theorem D0{i j:Int}(h:ur i j=true):vK (.int i) (.int j)=some (.int (i*j)):=by
 show(if ur i j=true then _ else none)=_
 rw[if_pos h]
theorem PM{i j q:Int}(h:0<j)(e:i%j=q):tG (.int i) (.int j)=some (.int q):=by rw[<- e];exact modS h
theorem Qa{i:Int}(h:i=0):some (i==0)=some true:=by rw[h];rfl
theorem PQ{i:Int}(h:¬ i=0):some (i==0)=some false:=by rw[beq_eq_false_iff_ne.mpr h]
theorem dT{p:Prop}[Decidable p](h:p):some (decide p)=some true:=by rw[decide_eq_true h]
theorem dF{p:Prop}[Decidable p](h:¬ p):some (decide p)=some false:=by rw[decide_eq_false h]
mutual
theorem Ec:∀d:D,t_ d=true->KN d d=true
 | .non,_=>rfl
 | .bl b,_=>beq_self_eq_true b
 | .int i,_=>beq_self_eq_true i
 | .str x,_=>beq_self_eq_true x
 | .tup xs,h=>yF xs h
 | .lst xs,h=>yF xs h
 | .fro xs,h=>yF xs h
 | .obj ..,h=>by cases h
theorem yF:∀ds:LD,m6 ds=true->B6 ds ds=true
 | [],_=>rfl
 | d::ds,h=>by
  have h':(t_ d&&m6 ds)=true:=h
  rw[Bool.and_eq_true] at h'
  show(KN d d&&B6 ds ds)=true
  rw[Ec d h'.1,yF ds h'.2];rfl
end
theorem CI{d:D}(h:wQ d<=100)(h2:tP d=true):Et d d=some true:=by unfold Et;rw[if_pos ⟨h,h2,h2⟩,Ec _ (bT h2)]
theorem Ae{d:D}(h:wQ d<=100)(h2:tP d=true):Bt d d=some false:=by unfold Bt;rw[CI h h2];rfl
theorem EX(l:List Int):vW (l.map D.int)=0:=by induction l with | nil=>rfl | cons a l ih=>simp[vW,wQ,ih]
theorem EQ(l:List Int):uF (l.map D.int)=true:=by induction l with | nil=>rfl | cons a l ih=>simp[uF,tP,ih]
theorem nk(x:vI):tP (.str x.x)=true:=by rw[tP];cases x<;>decide +kernel
theorem pi(h:Option (vI×Option Int)):wQ (uw h)<=1:=by rcases h with _ | ⟨x,_ | k⟩<;>simp[uw,ue,wQ,vW]
theorem pH(h:Option (vI×Option Int)):tP (uw h)=true:=by
 rcases h with _ | ⟨x,_ | k⟩
 ·rfl
 ·simp[uw,ue,tP,uF];have:=nk x;simp[tP] at this;exact this
 ·simp[uw,ue,tP,uF];have:=nk x;simp[tP] at this;exact this
theorem ql(s:WS):wQ s.d<=100:=by
 have h:=pi s.held
 simp[WS.d,WS.alarmD,WS.lapsD,WS.countD,wQ,vW,EX]
 omega
theorem mK(s:WS):tP s.d=true:=by
 have h:=pH s.held
 simp[WS.d,WS.alarmD,WS.lapsD,WS.countD,tP,uF,EQ,h]
theorem Ko(s:WS):Bt s.d s.d=some false:=Ae (ql s) (mK s)
theorem Nt(s:WS):Et s.d s.d=some true:=CI (ql s) (mK s)
theorem PL:1<=sizeLine:=by decide
theorem P9:8<=sizeLine:=by decide
theorem w0(s:WS):k9 s.d (.int 0)=some (.int (s.mode:Int)):=rfl
theorem w1(s:WS):k9 s.d (.int 1)=some (.int s.clock):=rfl
theorem w2(s:WS):k9 s.d (.int 2)=some s.alarmD:=rfl
theorem w3(s:WS):k9 s.d (.int 3)=some s.lapsD:=rfl
theorem w4(s:WS):k9 s.d (.int 4)=some s.countD:=rfl
theorem w5(s:WS):k9 s.d (.int 5)=some (.int s.ring):=rfl
theorem w6(s:WS):k9 s.d (.int 6)=some (uw s.held):=rfl
theorem w7(s:WS):k9 s.d (.int 7)=some (.int s.idle):=rfl
theorem ML(s:WS):k9 s.alarmD (.int 0)=some (.int s.ah):=rfl
theorem Na(s:WS):k9 s.alarmD (.int 1)=some (.int s.am):=rfl
theorem Nz(s:WS):k9 s.alarmD (.int 2)=some (.bl s.aon):=rfl
theorem MT(s:WS):k9 s.lapsD (.int 0)=some (.int s.lm):=rfl
theorem OJ(s:WS):k9 s.lapsD (.int 1)=some (.bl s.lr):=rfl
theorem Nn(s:WS):k9 s.lapsD (.int 2)=some (.tup (s.lk.map .int)):=rfl
theorem MC(s:WS):k9 s.countD (.int 0)=some (.int s.cm):=rfl
theorem Nl(s:WS):k9 s.countD (.int 1)=some (.int s.cs):=rfl
theorem N9(s:WS):k9 s.countD (.int 2)=some (.int s.cl):=rfl
theorem Oo(s:WS):k9 s.countD (.int 3)=some (.bl s.cr):=rfl
theorem b0(b:Bk):k9 b.d (.int 0)=some (.int b.hold):=rfl
theorem b1(b:Bk):k9 b.d (.int 1)=some (.int b.back):=rfl
theorem b2(b:Bk):k9 b.d (.int 2)=some (.tup (b.modes.map Md.d)):=rfl
theorem m0(m:Md):k9 m.d (.int 0)=some (.str m.face.x):=rfl
theorem m1(m:Md):k9 m.d (.int 1)=some (.bl m.stays):=rfl
theorem m2(m:Md):k9 m.d (.int 2)=some (.tup (m.rows.map AN)):=rfl
theorem r0(r:uY×Nat):k9 (AN r) (.int 0)=some (.str r.1.x):=rfl
theorem r1(r:uY×Nat):k9 (AN r) (.int 1)=some (.int (r.2:Int)):=rfl
theorem h0(x:vI)(k:Option Int):k9 (uw (some (x,k))) (.int 0)=some (.str x.x):=rfl
theorem h1(x:vI)(k:Option Int):k9 (uw (some (x,k))) (.int 1)=some (ue k):=rfl
theorem C1{xs:LD}{i:Nat}(h:i<xs.length):Hm xs (i:Int)=some xs[i]:=by
 unfold Hm Mw
 rw[if_pos (by omega),if_pos (by omega)]
 simp[h]
theorem gh(b:Bk){m:Nat}(h:m<b.modes.length):k9 (.tup (b.modes.map Md.d)) (.int (m:Int))=some (b.modes.getD m default).d:=by
 show Hm _ _=_
 rw[C1 (by simpa using h)]
 simp[List.getD_eq_getElem?_getD,h]
theorem pU(m:Md){i:Nat}(h:i<m.rows.length):k9 (.tup (m.rows.map AN)) (.int (i:Int))=some (AN (m.rows.getD i (.none,0))):=by
 show Hm _ _=_
 rw[C1 (by simpa using h)]
 simp[List.getD_eq_getElem?_getD,h]
theorem lO(b:Bk){m:Nat}(h:m<b.modes.length):b.modes.getD m default∈b.modes:=by
 have e:b.modes.getD m default=b.modes[m]:=by simp[List.getD_eq_getElem?_getD,h]
 rw[e];exact List.getElem_mem h
theorem Mx{i j:Int}(h1 : -(2 ^ 64)<i)(h2:i<2 ^ 64):vK (.int i) (.int j)=some (.int (i*j)):=by simp[vG h1 h2]
theorem Dl(j:Int):vK (.int 3600) (.int j)=some (.int (3600*j)):=Mx (by decide) (by decide)
theorem Gc(j:Int):vK (.int 60) (.int j)=some (.int (60*j)):=Mx (by decide) (by decide)
theorem Gb(k:Option Int):uJ (ue k) .non=some k.isSome:=by cases k<;>rfl
theorem JA(h:Option (vI×Option Int)):zT (uw h) .non=some (!h.isSome):=by rcases h with _ | ⟨x,k⟩<;>rfl
theorem AQ(h:Option (vI×Option Int)):uJ (uw h) .non=some h.isSome:=by rcases h with _ | ⟨x,k⟩<;>rfl
theorem Mm(i j:Int):DD [.int i,.int j]=some (.int (mx i j)):=rfl
def whole:D->Bool
 | .int _=>true
 | _=>false
def within(d:D)(l m:Int):Bool:=match d with
 | .int i=>decide (l<=i)&&decide (i<=m)
 | _=>false
def oneOf(d:D)(ws:LD):Bool:=match d with
 | .str x=>ws.any fun y=>L7 y (.str x)
 | _=>false
def PX(d:D)(m:Int):Bool:=match d with
 | .tup xs=>(xs.length:Int)==m
 | _=>false
def zA:LD:=[.str (oS "none"),.str (oS "hour"),.str (oS "minute"),.str (oS "zero"),.str (oS "ahour"),.str (oS "aminute"),.str (oS "alarm"),.str (oS "run"),.str (oS "lap"),.str (oS "cminute"),.str (oS "csecond"),.str (oS "full"),.str (oS "count")]
def A9:LD:=[.str (oS "time"),.str (oS "alarm"),.str (oS "laps"),.str (oS "count")]
def zr(d:D)(m:Int):Bool:=match d with
 | .tup [a,b]=>oneOf a zA&&within b 0 (m - 1)
 | _=>false
def EE(d:D)(m:Int):Bool:=match d with
 | .tup xs=>xs.length==6&&xs.all fun x=>zr x m
 | _=>false
def y8(d:D)(m:Int):Bool:=match d with
 | .tup [a,b,c]=>oneOf a A9&&(Pv b "bool" && EE c m)
 | _=>false
def Dk(d:D):Bool:=match d with
 | .tup xs=>decide (1<=xs.length)&&(decide (xs.length<=8)&&xs.all fun x=>y8 x xs.length)
 | _=>false
def Dw(d:D):Bool:=match d with
 | .tup [a,b,c]=>within a 1 9&&(within b 0 60&&Dk c)
 | _=>false
theorem within_int{d:D}{l h:Int}(e:within d l h=true):∃i:Int,d=.int i/\l<=i/\i<=h:=by
 cases d with
 | int i=>simp[within] at e;exact⟨i,rfl,e⟩
 | _=>cases e
theorem IE{d:D}(e:Pv d "bool" = true):∃b,d=.bl b:=by
 cases d with
 | bl b=>exact⟨b,rfl⟩
 | _=>simp at e
theorem CA{d:D}{ws:LD}(e:oneOf d ws=true):∃x,d=.str x/\(ws.any fun y=>L7 y (.str x))=true:=by
 cases d with
 | str x=>exact⟨x,rfl,e⟩
 | _=>cases e
theorem Ja{d:D}(e:oneOf d zA=true):∃k:uY,d=.str k.x:=by
 obtain⟨x,rfl,h⟩:=CA e
 obtain⟨y,hy,h⟩:=List.any_eq_true.mp h
 have q:∀w:Str,L7 (.str w) (.str x)=true->w=x:=fun w z=>beq_iff_eq.mp z
 simp only[zA,List.mem_cons,List.not_mem_nil,or_false] at hy
 rcases hy with rfl | rfl | rfl | rfl | rfl | rfl | rfl | rfl | rfl | rfl | rfl | rfl | rfl
 ·exact⟨.none,congrArg D.str (q _ h).symm⟩
 ·exact⟨.hour,congrArg D.str (q _ h).symm⟩
 ·exact⟨.minute,congrArg D.str (q _ h).symm⟩
 ·exact⟨.zero,congrArg D.str (q _ h).symm⟩
 ·exact⟨.ahour,congrArg D.str (q _ h).symm⟩
 ·exact⟨.aminute,congrArg D.str (q _ h).symm⟩
 ·exact⟨.alarm,congrArg D.str (q _ h).symm⟩
 ·exact⟨.run,congrArg D.str (q _ h).symm⟩
 ·exact⟨.lap,congrArg D.str (q _ h).symm⟩
 ·exact⟨.cminute,congrArg D.str (q _ h).symm⟩
 ·exact⟨.csecond,congrArg D.str (q _ h).symm⟩
 ·exact⟨.full,congrArg D.str (q _ h).symm⟩
 ·exact⟨.count,congrArg D.str (q _ h).symm⟩
theorem Jr{d:D}(e:oneOf d A9=true):∃k:Face,d=.str k.x:=by
 obtain⟨x,rfl,h⟩:=CA e
 obtain⟨y,hy,h⟩:=List.any_eq_true.mp h
 have q:∀w:Str,L7 (.str w) (.str x)=true->w=x:=fun w z=>beq_iff_eq.mp z
 simp only[A9,List.mem_cons,List.not_mem_nil,or_false] at hy
 rcases hy with rfl | rfl | rfl | rfl
 ·exact⟨.time,congrArg D.str (q _ h).symm⟩
 ·exact⟨.alarm,congrArg D.str (q _ h).symm⟩
 ·exact⟨.laps,congrArg D.str (q _ h).symm⟩
 ·exact⟨.count,congrArg D.str (q _ h).symm⟩
theorem sw{d:D}{n:Nat}(e:zr d n=true):∃r:uY×Nat,d=AN r/\r.2<n:=by
 unfold zr at e
 split at e
 ·rw[Bool.and_eq_true] at e
  obtain⟨k,rfl⟩:=Ja e.1
  obtain⟨i,rfl,h0,h1⟩:=within_int e.2
  refine⟨(k,i.toNat),?_,?_⟩
  ·simp[AN,Int.toNat_of_nonneg h0]
  ·simp;omega
 ·cases e
theorem Do{α:Type}{f:α->D}{P:α->Prop}{q:D->Bool}(h:∀d,q d=true->∃a,d=f a/\P a):∀{ds:LD},ds.all q=true->∃as:List α,ds=as.map f/\∀a∈as,P a
 | [],_=>⟨[],rfl,fun _ h=>by cases h⟩
 | d::ds,e=>by
  rw[List.all_cons,Bool.and_eq_true] at e
  obtain⟨a,rfl,ha⟩:=h d e.1
  obtain⟨as,rfl,hs⟩:=Do h e.2
  exact⟨a::as,rfl,fun x hx=>by rcases List.mem_cons.mp hx with rfl | hx;exact ha;exact hs x hx⟩
theorem qL{d:D}{n:Nat}(e:y8 d n=true):∃m:Md,d=m.d/\m.Ok n:=by
 unfold y8 at e
 split at e
 ·rename_i a b c
  rw[Bool.and_eq_true,Bool.and_eq_true] at e
  obtain⟨f,rfl⟩:=Jr e.1
  obtain⟨s,rfl⟩:=IE e.2.1
  have e2:=e.2.2
  cases c with
  | tup xs =>
   unfold EE at e2
   simp only[Bool.and_eq_true] at e2
   obtain⟨rs,rfl,hr⟩:=Do (f:=AN) (P:=fun r=>r.2<n) (fun d h=>sw h) e2.2
   refine⟨⟨f,s,rs⟩,rfl,?_,hr⟩
   have:=e2.1
   simpa using this
  | _=>cases e2
 ·cases e
theorem qK{d:D}(e:Dw d=true):∃b:Bk,d=b.d/\b.Ok:=by
 unfold Dw at e
 split at e
 ·rename_i a b c
  rw[Bool.and_eq_true,Bool.and_eq_true] at e
  obtain⟨i,rfl,i0,i1⟩:=within_int e.1
  obtain⟨j,rfl,j0,j1⟩:=within_int e.2.1
  have e2:=e.2.2
  cases c with
  | tup xs =>
   unfold Dk at e2
   simp only[Bool.and_eq_true] at e2
   obtain⟨h1,h2,h3⟩:=e2
   obtain⟨ms,hm,hok⟩:=Do (f:=Md.d) (P:=fun m=>m.Ok xs.length) (fun d h=>qL h) h3
   have hl:xs.length=ms.length:=by rw[hm];simp
   refine⟨⟨i,j,ms⟩,by rw[hm];rfl,i0,i1,j0,j1,?_,?_,?_⟩
   ·have:=of_decide_eq_true h1;show 1<=ms.length;omega
   ·have:=of_decide_eq_true h2;show ms.length<=8;omega
   ·rw[hl] at hok;exact hok
  | _=>cases e2
 ·cases e
theorem mN{u w:MU}{S:List Nat}{ρ ρ':R}(h:u S ρ=some (.nx ρ')):tE u w S ρ=w S ρ':=by show(u S ρ).bind _=_;rw[h];rfl
theorem mP{p:R->Option Out}{S:List Nat}{ρ ρ':R}(h:p ρ=some (.nx ρ')):tJ p S ρ=some (.nx ρ'):=by show(p ρ).bind _=_;rw[h];rfl
theorem Ql{p:R->Option Out}{S:List Nat}{ρ:R}{d:D}(h:p ρ=some (.rt d)):tJ p S ρ=some (.rt d ρ):=by show(p ρ).bind _=_;rw[h];rfl
theorem As{c:R->Option Bool}{u w:MU}{S:List Nat}{ρ:R}(h:c ρ=some true):xW c u w S ρ=u S ρ:=by show(c ρ).bind _=_;rw[h];rfl
theorem AH{c:R->Option Bool}{u w:MU}{S:List Nat}{ρ:R}(h:c ρ=some false):xW c u w S ρ=w S ρ:=by show(c ρ).bind _=_;rw[h];rfl
theorem NC{c:List Nat->R->Option (D×R)}{S:List Nat}{ρ ρ':R}{d:D}(h:c S ρ=some (d,ρ')):xo c S ρ=some (.nx ρ'):=by show(c S ρ).map _=_;rw[h];rfl
theorem D9{i:Nat}{G:LD->Option (D×D)}{F:R->Option LD}{S:List Nat}{ρ:R}{ob ob' d:D}{ds:LD}(h1:e9 i ρ=some ob)(h2:F ρ=some ds)(h3:G ds=some (d,ob'))(h4:AM ob=true)(h5:tW i ρ=true)(h6:Gx S (adr ob)=true):y4 i G F S ρ=some (d,ρ.set i (some ob')):=by
 unfold y4
 rw[h1,Option.bind_some,h2,Option.bind_some,h3,Option.bind_some]
 exact if_pos ⟨h4,h5,h6⟩
theorem Ay{α:Type}{f:α->D}(h:∀x,t_ (f x)=true):∀l:List α,m6 (l.map f)=true
 | []=>rfl
 | x::l=>by show(t_ (f x)&&m6 (l.map f))=true;rw[h x,Ay h l];rfl
theorem xp(l:List Int):m6 (l.map D.int)=true:=Ay (fun _=>rfl) l
theorem Gk{e:D}(he:t_ e=true):∀{q:LD},m6 q=true->m6 (q++[e])=true
 | [],_=>by show(t_ e&&true)=true;rw[he];rfl
 | x::q,h=>by
  have h':(t_ x&&m6 q)=true:=h
  rw[Bool.and_eq_true] at h'
  show(t_ x&&m6 (q++[e]))=true
  rw[h'.1,Gk he h'.2];rfl
theorem NH(b:Bk):t_ b.d=true:=by
 have h1:∀m:Md,t_ m.d=true:=fun m=>by
  show(true&&(true&&(m6 (m.rows.map AN)&&true)))=true
  rw[Ay (f:=AN) fun r=>rfl];rfl
 show(true&&(true&&(m6 (b.modes.map Md.d)&&true)))=true
 rw[Ay h1];rfl
theorem E7(h:Option (vI×Option Int)):t_ (uw h)=true:=by rcases h with _ | ⟨x,_ | k⟩<;>rfl
theorem yN(s:WS):t_ s.lapsD=true:=by
 show(true&&(true&&(m6 (s.lk.map D.int)&&true)))=true
 rw[xp];rfl
def Bv:List Str:=[oS "mode",oS "clock",oS "alarm",oS "laps",oS "count",oS "ring",oS "held",oS "idle",oS "went",oS "story"]
def xa(l:Nat)(s:WS)(w:Int)(st:LD):LD:=[.int (s.mode:Int),.int s.clock,s.alarmD,s.lapsD,s.countD,.int s.ring,uw s.held,.int s.idle,.int w,.obj 0 l [] st]
def k6(a l:Nat)(s:WS)(w:Int)(st:LD):D:=.obj 1 a Bv (xa l s w st)
section
variable{a l i:Nat}{s s':WS}{w w':Int}{st:LD}{S:List Nat}{ρ:R}{f:R->OD}{d:D}{k:Str}
theorem LX:(xa l s w st).flatMap xu=[l]:=by
 have:xu (uw s.held)=[]:=by rcases s.held with _ | ⟨x,_ | k⟩<;>rfl
 show xu (uw s.held)++[l]=[l]
 rw[this];rfl
theorem uH:adr (k6 a l s w st)=[a,l]:=by
 show a::(xa l s w st).flatMap xu=_
 rw[LX]
theorem NZ{d:D}(h:t_ d=true):okN d=true:=by cases d<;>first | exact h | cases h
theorem OG(h:m6 st=true):(xa l s w st).all okN=true:=by
 show(true&&(true&&(okN s.alarmD&&(okN s.lapsD&&(okN s.countD&&(true&&(okN (uw s.held)&&(true&&(true&&(m6 st&&true))))))))))=true
 rw[NZ (show t_ s.alarmD=true from rfl),NZ (yN s),NZ (show t_ s.countD=true from rfl),NZ (E7 _),h];rfl
theorem P4:Bv.Nodup:=by decide +kernel
theorem Az(hv:e9 i ρ=some (k6 a l s w st))(hf:f ρ=some d)(hd:t_ d=true)(hb:tW i ρ=true)(hst:m6 st=true)(hk:(x_ Bv (xa l s w st) k).all t_=true)(hp:putD Bv (xa l s w st) k d=(Bv,xa l s' w' st)) :
  n8 i k f [a,l] ρ=some (.nx (ρ.set i (some (k6 a l s' w' st)))):=by
 unfold n8
 rw[hf,Option.bind_some,hv]
 show(if _ then some (MO.nx (ρ.set i (some (.obj 1 a (putD Bv (xa l s w st) k d).1 (putD Bv (xa l s w st) k d).2)))) else none)=_
 rw[hp]
 exact if_pos ⟨rfl,hd,hb,by rw[LX];simp[Gx],by decide,OG hst,hk,P4⟩
theorem Pb:putD Bv (xa l s w st) (oS "story") d=(Bv,[.int (s.mode:Int),.int s.clock,s.alarmD,s.lapsD,s.countD,.int s.ring,uw s.held,.int s.idle,.int w,d]):=rfl
theorem OT(hv:e9 i ρ=some (k6 a l s w st))(hf:f ρ=some d)(hd:t_ d=true)(hb:tW i ρ=true)(hst:m6 st=true)(hl:st.length<100000) :
  x9 i (oS "story") f [a,l] ρ=some (.nx (ρ.set i (some (k6 a l s w (st++[d]))))):=by
 unfold x9
 rw[hf,Option.bind_some,hv]
 have hk:x_ Bv (xa l s w st) (oS "story")=some (.obj 0 l [] st):=rfl
 show(match x_ Bv (xa l s w st) (oS "story") with | some (.obj 0 l' ls es)=>_ | _=>none)=_
 rw[hk]
 have hn:m6 (putD Bv (xa l s w st) (oS "story") .non).2=true:=by
  rw[Pb]
  show(true&&(true&&(t_ s.alarmD&&(t_ s.lapsD&&(t_ s.countD&&(true&&(t_ (uw s.held)&&(true&&(true&&(true&&true))))))))))=true
  rw[show t_ s.alarmD=true from rfl,yN s,show t_ s.countD=true from rfl,E7];rfl
 show(if _ then some (MO.nx (ρ.set i (some (.obj 1 a (putD Bv (xa l s w st) (oS "story") (.obj 0 l [] (st++[d]))).1 (putD Bv (xa l s w st) (oS "story") (.obj 0 l [] (st++[d]))).2)))) else none)=_
 rw[if_pos ⟨rfl,hd,hb,by rw[LX];simp[Gx],hl,hst,hn,by simp⟩]
 rfl
theorem IL:q9 (k6 a l s w st) (.str (oS "mode"))=some (.int (s.mode:Int)):=rfl
theorem Fb:q9 (k6 a l s w st) (.str (oS "clock"))=some (.int s.clock):=rfl
theorem Hy:q9 (k6 a l s w st) (.str (oS "alarm"))=some s.alarmD:=rfl
theorem KB:q9 (k6 a l s w st) (.str (oS "laps"))=some s.lapsD:=rfl
theorem IN:q9 (k6 a l s w st) (.str (oS "count"))=some s.countD:=rfl
theorem Kq:q9 (k6 a l s w st) (.str (oS "ring"))=some (.int s.ring):=rfl
theorem zq:q9 (k6 a l s w st) (.str (oS "held"))=some (uw s.held):=rfl
theorem Ky:q9 (k6 a l s w st) (.str (oS "idle"))=some (.int s.idle):=rfl
theorem Ge:q9 (k6 a l s w st) (.str (oS "went"))=some (.int w):=rfl
end
theorem Hr{b:Bk}{x:OD}{tl:R}(h:tl.all uz=true):tW 1 (some b.d::x::tl)=true:=by show(t_ b.d&&(true&&tl.all uz))=true;rw[NH,h];rfl
theorem M4(s:WS):t_ s.d=true:=bT (mK s)
def ka:R->Option Out:=
  (n4 (l6 (i5 tG (i5 vK (i5 l8 (i5 l8 (e9 0) (i5 vK (kI 104729) (e9 1))) (kI 17)) (kI 69621)) (kI 2147483647)) (setAt 2))
  (n6 (i5 tG (i5 l8 (i5 l8 (i5 vK (e9 2) (e9 2)) (i5 vK (kI 3) (e9 2))) (e9 1)) (kI 2147483629))))
def aF:LD->OD:=via 2 3 ka
def u6(n k:Int):Int:=((n+104729*k+17)*69621%2147483647*((n+104729*k+17)*69621%2147483647)+3*((n+104729*k+17)*69621%2147483647)+k)%2147483629
theorem xA(n k:Int):aF [.int n,.int k]=some (.int (u6 n k)):=by
 unfold u6
 generalize hq:(n+104729*k+17)*69621%2147483647=q
 have q0:0<=q:=by rw[<- hq];exact Int.emod_nonneg _ (by decide)
 have q1:q<2147483647:=by rw[<- hq];exact Int.emod_lt_of_pos _ (by decide)
 have m1:ur 104729 k=true:=vG (by decide) (by decide)
 have m2:ur (n+104729*k+17) 69621=true:=CP (by decide) (by decide)
 have m3:ur q q=true:=vG (by omega) (by omega)
 have m4:ur 3 q=true:=vG (by decide) (by decide)
 exact n9 ((m9 (p7 (k7 (k7 (k7 (k7 rfl (k7 rfl rfl (D0 m1)) rfl) rfl rfl) rfl (D0 m2)) rfl (PM (by decide) hq)) rfl)).trans (retS (k7 (k7 (k7 (k7 rfl rfl (D0 m3)) (k7 rfl rfl (D0 m4)) rfl) rfl rfl) rfl (modS (by decide)))))
def kZ:R->Option Out:=
  (n4 (l6 (i5 l8 (kI 1) (i5 tG (e9 0) (kI 8))) (setAt 1))
  (n4 (l6 (l5 (e8 (kS "none") (e8 (kS "hour") (e8 (kS "minute") (e8 (kS "zero") (e8 (kS "ahour") (e8 (kS "aminute") (e8 (kS "alarm") (e8 (kS "run") (e8 (kS "lap") (e8 (kS "cminute") (e8 (kS "csecond") (e8 (kS "full") i3))))))))))))) (setAt 2))
  (n4 (l6 (l5 i3) (setAt 3))
  (n4 (Ar (uD (e9 1)) (setAt 4)
  (n4 (l6 (i5 vn (i4 aF (e8 (e9 0) (e8 (e9 4) i3))) (kI 4)) (setAt 5))
  (n4 (l6 (l5 i3) (setAt 6))
  (n4 (Ar (uD (kI 6)) (setAt 7)
  (n4 (l6 (i5 vn (i4 aF (e8 (e9 5) (e8 (i5 l8 (kI 10) (e9 7)) i3))) (kI 4)) (setAt 8))
  (l6 (i5 l8 (e9 6) (l5 (e8 (l5 (e8 (i5 k9 (i5 l8 (e9 2) (l5 (e8 (kS "count") i3))) (i5 tG (e9 8) (kI 13))) (e8 (i5 tG (i5 vn (e9 8) (kI 16)) (e9 1)) i3))) i3))) (setAt 6))))
  (n4 (l6 (i5 k9 (l5 (e8 (kS "time") (e8 (kS "alarm") (e8 (kS "laps") (e8 (kS "count") i3))))) (i5 tG (e9 5) (kI 4))) (setAt 9))
  (l6 (i5 l8 (e9 3) (l5 (e8 (l5 (e8 (e9 9) (e8 (x5 (l4 uW (i5 tG (i5 vn (e9 5) (kI 4)) (kI 2)) (kI 0))) (e8 (e9 6) i3)))) i3))) (setAt 3)))))))
  (n6 (l5 (e8 (i5 l8 (kI 1) (i5 tG (i5 vn (e9 0) (kI 8)) (i5 k9 (l5 (e8 (kI 3) (e8 (kI 9) i3))) (i5 tG (i5 vn (e9 0) (kI 128)) (kI 2))))) (e8 (i5 k9 (l5 (e8 (kI 0) (e8 (kI 7) (e8 (kI 60) (e8 (kI 1) (e8 (kI 20) i3)))))) (i5 tG (i5 vn (e9 0) (kI 256)) (kI 5))) (e8 (e9 3) i3)))))))))
def cJ:LD->OD:=via 1 10 kZ
def uo:LD:=[.str (oS "none"),.str (oS "hour"),.str (oS "minute"),.str (oS "zero"),.str (oS "ahour"),.str (oS "aminute"),.str (oS "alarm"),.str (oS "run"),.str (oS "lap"),.str (oS "cminute"),.str (oS "csecond"),.str (oS "full")]
theorem Eb:∀x∈zA,oneOf x zA=true/\Fits x:=by
 intro x hx
 simp only[zA,List.mem_cons,List.not_mem_nil,or_false] at hx
 rcases hx with h | h | h | h | h | h | h | h | h | h | h | h | h<;>subst h<;>exact⟨by decide,.str _⟩
theorem DO:∀x∈A9,oneOf x A9=true/\Fits x:=by
 intro x hx
 simp only[A9,List.mem_cons,List.not_mem_nil,or_false] at hx
 rcases hx with h | h | h | h<;>subst h<;>exact⟨by decide,.str _⟩
def AR:R->Option Out:=(n4 (l6 (i5 vn (i4 aF (e8 (e9 5) (e8 (i5 l8 (kI 10) (e9 7)) i3))) (kI 4)) (setAt 8))
 (l6 (i5 l8 (e9 6) (l5 (e8 (l5 (e8 (i5 k9 (i5 l8 (e9 2) (l5 (e8 (kS "count") i3))) (i5 tG (e9 8) (kI 13))) (e8 (i5 tG (i5 vn (e9 8) (kI 16)) (e9 1)) i3))) i3))) (setAt 6)))
theorem sz{n:Nat}(h:n<=1000):n<=sizeLine:=Nat.le_trans h (by decide)
theorem pN{N m:Int}{ms rs:LD}{a b f:OD}{q j:Int}(hm:0<m)(hr:rs.length<=100)(hk:∀x∈rs,zr x m=true/\Fits x) :
  ∃o r,AR [some (.int N),some (.int m),some (.tup uo),some (.tup ms),a,some (.int q),some (.tup rs),some (.int j),b,f]=some (.nx [some (.int N),some (.int m),some (.tup uo),some (.tup ms),a,some (.int q),some (.tup (rs++[r])),some (.int j),o,f])/\zr r m=true/\Fits r:=by
 generalize hz:u6 q (10+j) / 4=z
 obtain⟨x,hx,hat⟩:=zj (xs:=zA) (i:=z%13) (Int.emod_nonneg _ (by decide)) (Int.emod_lt_of_pos _ (by decide))
 have w0:0<=z / 16%m:=Int.emod_nonneg _ (by omega)
 have w1:z / 16%m<m:=Int.emod_lt_of_pos _ hm
 have hl:rs.length+1<=sizeLine:=sz (by omega)
 have hd:uo++[.str (oS "count")]=zA:=rfl
 have hs:uo.length+1<=sizeLine:=by decide
 refine⟨some (.int z),.tup [x,.int (z / 16%m)],?_,?_,?_⟩
 ·have ha:l8 (.tup uo) (.tup [.str (oS "count")])=some (.tup zA):=by
   show(if uo.length+1<=sizeLine then some (D.tup (uo++[.str (oS "count")])) else none)=_
   rw[if_pos hs,hd]
  have hb:l8 (.tup rs) (.tup [.tup [x,.int (z / 16%m)]])=some (.tup (rs++[.tup [x,.int (z / 16%m)]])):=by
   show(if rs.length+1<=sizeLine then _ else none)=_
   rw[if_pos hl]
  have hv:vn (.int (u6 q (10+j))) (.int 4)=some (.int z):=by rw[<- hz];rfl
  exact(m9 (p7 (k7 (i8 (l9 rfl (l9 (k7 rfl rfl rfl) rfl)) (xA _ _)) rfl hv) rfl)).trans (p7 (k7 rfl (tupS (l9 (tupS (l9 (k7 (k7 rfl rfl ha) (k7 rfl rfl (modS (by decide))) hat) (l9 (k7 (k7 rfl rfl rfl) rfl (modS hm)) rfl))) rfl)) hb) rfl)
 ·simp[zr,(Eb x hx).1,within,w0]
  omega
 ·exact .tup (by simp) (by
   intro y hy
   simp at hy
   rcases hy with h | h<;>subst h
   ·exact(Eb _ hx).2
   ·exact .int _)
def DW:R->Option Out:=(n4 (l6 (i5 vn (i4 aF (e8 (e9 0) (e8 (e9 4) i3))) (kI 4)) (setAt 5))
  (n4 (l6 (l5 i3) (setAt 6))
  (n4 (Ar (uD (kI 6)) (setAt 7) AR)
  (n4 (l6 (i5 k9 (l5 (e8 (kS "time") (e8 (kS "alarm") (e8 (kS "laps") (e8 (kS "count") i3))))) (i5 tG (e9 5) (kI 4))) (setAt 9))
  (l6 (i5 l8 (e9 3) (l5 (e8 (l5 (e8 (e9 9) (e8 (x5 (l4 uW (i5 tG (i5 vn (e9 5) (kI 4)) (kI 2)) (kI 0))) (e8 (e9 6) i3)))) i3))) (setAt 3))))))
def NP(N m q:Int)(ms:LD)(a f:OD)(i:Nat)(ρ:R):Prop:=∃rs o j,ρ=[some (.int N),some (.int m),some (.tup uo),some (.tup ms),a,some (.int q),some (.tup rs),j,o,f]/\rs.length=i/\∀x∈rs,zr x m=true/\Fits x
theorem nX{N m q:Int}{ms:LD}{a b c f:OD}(hm:0<m) :
  ∃rs o j,zH (setAt 7) AR (uN 0 6) [some (.int N),some (.int m),some (.tup uo),some (.tup ms),a,some (.int q),some (.tup []),b,c,f]=some (.nx [some (.int N),some (.int m),some (.tup uo),some (.tup ms),a,some (.int q),some (.tup rs),j,o,f])/\rs.length=6/\∀x∈rs,zr x m=true/\Fits x:=by
 obtain⟨ρ',h1,rs,o,j,h2,h3,h4⟩:=Bl (st:=setAt 7) (body:=AR) (NP N m q ms a f) (uN 0 6) 0 [some (.int N),some (.int m),some (.tup uo),some (.tup ms),a,some (.int q),some (.tup []),b,c,f]
  ⟨[],c,b,rfl,rfl,fun x hx=>nomatch hx⟩ (fun i d ρ e p=>by
   obtain⟨rs,o,j,rfl,hl,hk⟩:=p
   obtain⟨rfl,hi⟩:=jY e
   obtain⟨o',r,h1,h2,h3⟩:=pN (N:=N) (ms:=ms) (a:=a) (b:=o) (f:=f) (q:=q) (j:=(i:Int)) hm (rs:=rs) (by omega) hk
   refine⟨_,_,rfl,h1,rs++[r],o',_,rfl,by simp[hl],fun x hx=>?_⟩
   rcases List.mem_append.mp hx with hx | hx
   ·exact hk x hx
   ·cases List.mem_singleton.mp hx
    exact⟨h2,h3⟩)
 subst h2
 refine⟨rs,o,j,h1,?_,h4⟩
 rw[h3,iw]
 rfl
theorem oG{N m:Int}{ms:LD}{k:Int}{a b c d e:OD}(hm:0<m)(hms:ms.length<=100) :
  ∃r o1 o2 o3 o4 o5,DW [some (.int N),some (.int m),some (.tup uo),some (.tup ms),some (.int k),a,b,c,d,e]=some (.nx [some (.int N),some (.int m),some (.tup uo),some (.tup (ms++[r])),some (.int k),o1,o2,o3,o4,o5])/\y8 r m=true/\Fits r:=by
 generalize hq:u6 N k / 4=q
 obtain⟨rs,o,j,h1,h2,h3⟩:=nX (N:=N) (m:=m) (q:=q) (ms:=ms) (a:=some (.int k)) (b:=c) (c:=d) (f:=e) hm
 obtain⟨x,hx,hat⟩:=zj (xs:=A9) (i:=q%4) (Int.emod_nonneg _ (by decide)) (Int.emod_lt_of_pos _ (by decide))
 have hl:ms.length+1<=sizeLine:=sz (by omega)
 refine⟨.tup [x,.bl (q / 4%2==0),.tup rs],some (.int q),some (.tup rs),j,o,some x,?_,?_,?_⟩
 rotate_left 1
 ·have ha:(rs.all fun y=>zr y m)=true:=List.all_eq_true.mpr fun y hy=>(h3 y hy).1
  simp[y8,(DO x hx).1,EE,h2,ha]
 ·refine .tup (by simp) fun y hy=>?_
  simp at hy
  rcases hy with h | h | h<;>subst h
  ·exact(DO _ hx).2
  ·exact .bl _
  ·exact .tup (by omega) fun y hy=>(h3 y hy).2
 ·have hat':Hm [.str (oS "time"),.str (oS "alarm"),.str (oS "laps"),.str (oS "count")] (q%4)=some x:=hat
  have hb:l8 (.tup ms) (.tup [.tup [x,.bl (q / 4%2==0),.tup rs]])=some (.tup (ms++[.tup [x,.bl (q / 4%2==0),.tup rs]])):=by
   show(if ms.length+1<=sizeLine then _ else none)=_
   rw[if_pos hl]
  have hv:vn (.int (u6 N k)) (.int 4)=some (.int q):=by rw[<- hq];rfl
  exact(m9 (p7 (k7 (i8 (l9 rfl rfl) (xA _ _)) rfl hv) rfl)).trans ((m9 (p7 (tupS rfl) rfl)).trans ((m9 (zl (ds:=uN 0 6) rfl h1)).trans ((m9 (p7 (k7 rfl (k7 rfl rfl (modS (by decide))) hat') rfl)).trans
   (p7 (k7 rfl (tupS (l9 (tupS (l9 rfl (l9 (Dt (tU (k7 (k7 rfl rfl rfl) rfl (modS (by decide))) rfl rfl)) rfl))) rfl)) hb) rfl))))
def M0(N m:Int)(i:Nat)(ρ:R):Prop:=∃ms a b c d e f,ρ=[some (.int N),some (.int m),some (.tup uo),some (.tup ms),a,b,c,d,e,f]/\ms.length=i/\∀x∈ms,y8 x m=true/\Fits x
theorem oJ(N:Int):∃b,cJ [.int N]=some b/\Dw b=true/\Fits b:=by
 generalize hM:1+N%8=m
 have hm0:0<m:=by have:=Int.emod_nonneg N (show(8:Int)≠0 by decide);omega
 have hm8:m<=8:=by have:=Int.emod_lt_of_pos N (show(0:Int)<8 by decide);omega
 obtain⟨ρ',h1,ms,a,b,c,d,e,f,h2,h3,h4⟩:=Bl (st:=setAt 4) (body:=DW) (M0 N m) (uN 0 m) 0 [some (.int N),some (.int m),some (.tup uo),some (.tup []),none,none,none,none,none,none]
  ⟨[],none,none,none,none,none,none,rfl,rfl,fun x hx=>nomatch hx⟩ (fun i d ρ e p=>by
   obtain⟨ms,a,b,c,d',e',f,rfl,hl,hk⟩:=p
   obtain⟨rfl,hi⟩:=jY e
   obtain⟨r,o1,o2,o3,o4,o5,h1,h2,h3⟩:=oG (N:=N) (ms:=ms) (k:=(i:Int)) (a:=b) (b:=c) (c:=d') (d:=e') (e:=f) hm0 (by omega)
   refine⟨_,_,rfl,h1,ms++[r],_,_,_,_,_,_,rfl,by simp[hl],fun x hx=>?_⟩
   rcases List.mem_append.mp hx with hx | hx
   ·exact hk x hx
   ·cases List.mem_singleton.mp hx
    exact⟨h2,h3⟩)
 subst h2
 rw[iw] at h3
 have hlen:((ms.length:Nat):Int)=m:=by omega
 have hr : -4611686018427387904<=m/\m<4611686018427387904:=by omega
 obtain⟨p,hp,hat⟩:=zj (xs:=[.int 3,.int 9]) (i:=N / 128%2) (Int.emod_nonneg _ (by decide)) (Int.emod_lt_of_pos _ (by decide))
 have hp':∃v:Int,p=.int v/\0<v/\v<=9:=by
  simp at hp
  rcases hp with h | h<;>subst h
  ·exact⟨3,rfl,by decide,by decide⟩
  ·exact⟨9,rfl,by decide,by decide⟩
 obtain⟨v,rfl,hv0,hv9⟩:=hp'
 obtain⟨p2,hp2,hat2⟩:=zj (xs:=[.int 0,.int 7,.int 60,.int 1,.int 20]) (i:=N / 256%5) (Int.emod_nonneg _ (by decide)) (Int.emod_lt_of_pos _ (by decide))
 have hp2':∃v:Int,p2=.int v/\0<=v/\v<=60:=by
  simp at hp2
  rcases hp2 with h | h | h | h | h<;>subst h
  ·exact⟨0,rfl,by decide,by decide⟩
  ·exact⟨7,rfl,by decide,by decide⟩
  ·exact⟨60,rfl,by decide,by decide⟩
  ·exact⟨1,rfl,by decide,by decide⟩
  ·exact⟨20,rfl,by decide,by decide⟩
 obtain⟨v2,rfl,hv20,hv260⟩:=hp2'
 have w0:0<=N / 8%v:=Int.emod_nonneg _ (by omega)
 have w1:N / 8%v<v:=Int.emod_lt_of_pos _ hv0
 refine⟨.tup [.int (1+N / 8%v),.int v2,.tup ms],?_,?_,?_⟩
 ·have hi:uD (e9 1) [some (.int N),some (.int m),some (.tup uo),some (.tup []),none,none,none,none,none,none]=some (uN 0 m):=by
   show(if -4611686018427387904<=m/\m<4611686018427387904 then some (uN 0 m) else none)=_
   rw[if_pos hr]
  have h0:l8 (.int 1) (.int (N%8))=some (.int m):=by rw[<- hM];rfl
  exact n9 ((m9 (p7 (k7 rfl (k7 rfl rfl (modS (by decide))) h0) rfl)).trans ((m9 (p7 rfl rfl)).trans ((m9 (p7 (tupS rfl) rfl)).trans ((m9 (zl hi h1)).trans (retS (tupS (l9 (k7 rfl (k7 (k7 rfl rfl rfl) (k7 rfl (k7 (k7 rfl rfl rfl) rfl (modS (by decide))) hat) (modS hv0)) rfl) (l9 (k7 rfl (k7 (k7 rfl rfl rfl) rfl (modS (by decide))) hat2) rfl))))))))
 ·have ha:(ms.all fun y=>y8 y ms.length)=true:=List.all_eq_true.mpr fun y hy=>by rw[hlen];exact(h4 y hy).1
  have g1:1<=ms.length:=by omega
  have g8:ms.length<=8:=by omega
  simp[Dw,within,Dk,ha,g1,g8]
  omega
 ·refine .tup (by simp) fun y hy=>?_
  simp at hy
  rcases hy with h | h | h<;>subst h
  ·exact .int _
  ·exact .int _
  ·exact .tup (by omega) fun y hy=>(h4 y hy).2
def jf:R->Option Out:=
  (n4 (yD (l4 Nw (e9 1) (i4 C5 (e8 (e9 0) i3)))
  (n6 (i5 k9 (e9 0) (e9 1)))
  ub)
  (n6 (kI 0)))
def bR:LD->OD:=via 2 2 jf
theorem Gs(ns:List Int)(k:Int)(h0:0<=k):∃c,bR [.fro (ns.map .int),.int k]=some (.int c):=by
 obtain⟨n,rfl⟩:=Int.eq_ofNat_of_zero_le h0
 by_cases h1:(n:Int)<((ns.map D.int).length:Int)
 ·have h2:n<(ns.map D.int).length:=Int.ofNat_lt.mp h1
  have h3:n<ns.length:=by rw[List.length_map] at h2;exact h2
  refine⟨ns[n],n9 (wt ((zQ (tU rfl (i8 (F:=C5) rfl rfl) (dT h1))).trans (retS (k7 rfl rfl ?_))))⟩
  exact(C1 h2).trans (by rw[List.getElem_map])
 ·exact⟨0,n9 ((m9 (yd (tU rfl (i8 (F:=C5) rfl rfl) (dF h1)))).trans (retS rfl))⟩
def j8:R->Option Out:=
  (n4 (l6 (i5 tG (i5 vK (i5 l8 (i5 l8 (i4 bR (e8 (e9 0) (e8 (e9 1) i3))) (i5 vK (kI 7919) (e9 1))) (kI 1)) (kI 48271)) (kI 2147483647)) (setAt 2))
  (n6 (i5 tG (i5 l8 (i5 l8 (i5 vK (e9 2) (e9 2)) (i5 vK (kI 7) (e9 2))) (e9 1)) (kI 2147483629))))
def aS:LD->OD:=via 2 3 j8
theorem xC(ns:List Int)(k:Int)(h0:0<=k):∃m,aS [.fro (ns.map .int),.int k]=some (.int m)/\0<=m:=by
 obtain⟨c,hc⟩:=Gs ns k h0
 generalize hq:(c+7919*k+1)*48271%2147483647=q
 have q0:0<=q:=by rw[<- hq];exact Int.emod_nonneg _ (by decide)
 have q1:q<2147483647:=by rw[<- hq];exact Int.emod_lt_of_pos _ (by decide)
 have m1:ur 7919 k=true:=vG (by decide) (by decide)
 have m2:ur (c+7919*k+1) 48271=true:=CP (by decide) (by decide)
 have m3:ur q q=true:=vG (by omega) (by omega)
 have m4:ur 7 q=true:=vG (by decide) (by decide)
 refine⟨(q*q+7*q+k)%2147483629,?_,Int.emod_nonneg _ (by decide)⟩
 exact n9 ((m9 (p7 (k7 (k7 (k7 (k7 (i8 rfl hc) (k7 rfl rfl (D0 m1)) rfl) rfl rfl) rfl (D0 m2)) rfl (PM (by decide) hq)) rfl)).trans (retS (k7 (k7 (k7 (k7 rfl rfl (D0 m3)) (k7 rfl rfl (D0 m4)) rfl) rfl rfl) rfl (modS (by decide)))))
def kP:R->Option Out:=
  (n4 (l6 (i5 k9 (kS "abcaab") (i5 tG (i5 vn (e9 0) (kI 8)) (kI 6))) (setAt 1))
  (n4 (l6 (i5 tG (e9 0) (kI 8)) (setAt 2))
  (n4 (yD (l4 Nw (e9 2) (kI 3))
  (n6 (l5 (e8 (kS "down") (e8 (e9 1) i3))))
  ub)
  (n4 (yD (l4 Nw (e9 2) (kI 6))
  (n6 (l5 (e8 (kS "up") (e8 (e9 1) i3))))
  ub)
  (n6 (l5 (e8 (kS "ticks") (e8 (i5 l8 (kI 1) (i5 tG (i5 vn (e9 0) (kI 64)) (i5 k9 (l5 (e8 (kI 4) (e8 (kI 12) (e8 (kI 130) i3)))) (i5 tG (i5 vn (e9 0) (kI 4096)) (kI 3))))) i3))))))))
def bx:LD->OD:=via 1 3 kP
def K7:Ev->Prop
 | .ticks n=>n<=130
 | _=>True
def Ev.Lt(e:Ev):Prop:=e.Ok/\K7 e
theorem Od{i:Int}(h0:0<=i)(h1:i<6):∃x:vI,k9 (.str (oS "abcaab")) (.int i)=some (.str x.x):=by
 have:i=0\/i=1\/i=2\/i=3\/i=4\/i=5:=by omega
 rcases this with rfl | rfl | rfl | rfl | rfl | rfl
 ·exact⟨.a,rfl⟩
 ·exact⟨.b,rfl⟩
 ·exact⟨.c,rfl⟩
 ·exact⟨.a,rfl⟩
 ·exact⟨.a,rfl⟩
 ·exact⟨.b,rfl⟩
theorem Nd{i:Int}(h0:0<=i)(h1:i<3):∃t:Int,k9 (.tup [.int 4,.int 12,.int 130]) (.int i)=some (.int t)/\0<t/\t<=130:=by
 have:i=0\/i=1\/i=2:=by omega
 rcases this with rfl | rfl | rfl
 ·exact⟨4,rfl,by decide,by decide⟩
 ·exact⟨12,rfl,by decide,by decide⟩
 ·exact⟨130,rfl,by decide,by decide⟩
theorem Fk(n:Int):∃e:Ev,bx [.int n]=some e.d/\e.Lt:=by
 obtain⟨x,hx⟩:=Od (i:=n / 8%6) (by omega) (by omega)
 by_cases h1:n%8<3
 ·exact⟨.down x,n9 ((m9 (p7 (k7 rfl (k7 (k7 rfl rfl rfl) rfl (modS (by decide))) hx) rfl)).trans ((m9 (p7 (k7 rfl rfl (modS (by decide))) rfl)).trans (wt ((zQ (tU rfl rfl (dT h1))).trans (retS rfl))))),trivial,trivial⟩
 ·by_cases h2:n%8<6
  ·exact⟨.up x,n9 ((m9 (p7 (k7 rfl (k7 (k7 rfl rfl rfl) rfl (modS (by decide))) hx) rfl)).trans ((m9 (p7 (k7 rfl rfl (modS (by decide))) rfl)).trans ((m9 (yd (tU rfl rfl (dF h1)))).trans (wt ((zQ (tU rfl rfl (dT h2))).trans (retS rfl)))))),trivial,trivial⟩
  ·obtain⟨t,ht,t0,t1⟩:=Nd (i:=n / 4096%3) (by omega) (by omega)
   have hm:=Int.emod_nonneg (n / 64) (show t≠0 by omega)
   have hm2:=Int.emod_lt_of_pos (n / 64) t0
   exact⟨.ticks (1+n / 64%t),n9 ((m9 (p7 (k7 rfl (k7 (k7 rfl rfl rfl) rfl (modS (by decide))) hx) rfl)).trans ((m9 (p7 (k7 rfl rfl (modS (by decide))) rfl)).trans ((m9 (yd (tU rfl rfl (dF h1)))).trans ((m9 (yd (tU rfl rfl (dF h2)))).trans (retS (tupS (l9 rfl (l9 (k7 rfl (k7 (k7 rfl rfl rfl) (k7 rfl (k7 (k7 rfl rfl rfl) rfl (modS (by decide))) ht) (modS t0)) rfl) rfl)))))))),by show 1<=_;omega,by show _<=130;omega⟩
def fQ:R->Option Out:=
 (n6 (i4 Ac (e8 (En 1 (uD (i5 tG (e9 0) (i5 l8 (e9 1) (kI 1)))) (setAt 0) yK (i4 bx (e8 (i5 vn (i4 aF (e8 (e9 1) (e8 (i5 l8 (kI 40) (e9 0)) i3))) (kI 4)) i3))) i3)))
def de:LD->OD:=via 2 2 fQ
theorem qD(n m:Int)(hm:0<=m)(hm2:m<=100):∃es:List Ev,de [.int n,.int m]=some (.tup (es.map Ev.d))/\(∀e∈es,e.Lt)/\es.length<=m.toNat:=by
 have hk0:=Int.emod_nonneg n (show m+1≠0 by omega)
 have hk1:=Int.emod_lt_of_pos n (show 0<m+1 by omega)
 have hp:0<m+1:=by omega
 have key:∀(ds:LD) (ρ:R),(∀d∈ds,∃i:Int,d=.int i)->∃es:List Ev,vV (setAt 0) yK (i4 bx (e8 (i5 vn (i4 aF (e8 (e9 1) (e8 (i5 l8 (kI 40) (e9 0)) i3))) (kI 4)) i3)) ds (none::some (.int n)::ρ)=some (es.map Ev.d)/\(∀e∈es,e.Lt)/\es.length=ds.length:=by
  intro ds ρ
  induction ds with
  | nil=>intro _;exact⟨[],rfl,(fun _ h=>by cases h),rfl⟩
  | cons d ds ih =>
   intro h
   obtain⟨i,rfl⟩:=h d List.mem_cons_self
   obtain⟨es,h1,h2,h3⟩:=ih fun x hx=>h x (List.mem_cons_of_mem _ hx)
   obtain⟨e,e1,e2⟩:=Fk (u6 n (40+i) / 4)
   refine⟨e::es,?_,?_,by simp[h3]⟩
   ·simp[vV,xA,e1] at h1 ⊢
    rw[h1]
   ·intro x hx
    rcases List.mem_cons.mp hx with rfl | hx
    ·exact e2
    ·exact h2 x hx
 obtain⟨es,h1,h2,h3⟩:=key (uN 0 (n%(m+1))) [some (.int m)] (fun d hd=>by
  obtain⟨i,hi⟩:=List.mem_iff_getElem?.mp hd
  obtain⟨rfl,_⟩:=jY hi
  exact⟨_,rfl⟩)
 rw[iw] at h3
 have hz:(uN 0 (n%(m+1))).length<=sizeLine:=by rw[iw];exact Nat.le_trans (show(n%(m+1)).toNat<=1000 by omega) (by decide)
 refine⟨es,?_,h2,by rw[h3];omega⟩
 have hr : -(2 ^ 62:Int)<=n%(m+1)/\n%(m+1)<2 ^ 62:=by omega
 have hlc:En 1 (uD (i5 tG (e9 0) (i5 l8 (e9 1) (kI 1)))) (setAt 0) yK (i4 bx (e8 (i5 vn (i4 aF (e8 (e9 1) (e8 (i5 l8 (kI 40) (e9 0)) i3))) (kI 4)) i3)) [some (.int n),some (.int m)]=some (.lst (es.map Ev.d)):=by
  have hi:uD (i5 tG (e9 0) (i5 l8 (e9 1) (kI 1))) [some (.int n),some (.int m)]=some (uN 0 (n%(m+1))):=by
   show(if 0<m+1 then some (D.int (n%(m+1))) else none).bind _=_
   rw[if_pos hp]
   show(if -(2 ^ 62:Int)<=n%(m+1)/\n%(m+1)<2 ^ 62 then some (uN 0 (n%(m+1))) else none)=_
   rw[if_pos hr]
  unfold En
  rw[hi]
  show(if (uN 0 (n%(m+1))).length<=sizeLine then _ else none)=_
  rw[if_pos hz]
  show(vV _ _ _ _ (none::some (.int n)::[some (.int m)])).map _=_
  rw[h1]
  rfl
 show(if (2:Nat)=2 then xX (fQ [some (.int n),some (.int m)]) else none)=_
 rw[if_pos rfl]
 unfold fQ
 simp only[n6,i4,e8,i3,hlc]
 rfl
def kQ:R->Option Out:=
 (n6 (zJ (x5 (l4 uJ (i5 k9 (e9 0) (fun _=>some aX)) (fun _=>some .non))) (x5 (l4 uW (i5 k9 (i5 k9 (e9 0) (fun _=>some aX)) (kI 0)) (e9 1)))))
def bz:LD->OD:=via 2 2 kQ
theorem Lr(x y:vI):uW (.str x.x) (.str y.x)=some (decide (x=y)):=by cases x<;>cases y<;>rfl
theorem gj(s:WS)(x:vI):bz [s.d,.str x.x]=some (.bl (match s.held with | some (y,_)=>decide (y=x) | none=>false)):=by
 have e6:=w6 s
 rcases hs:s.held with _ | ⟨y,k⟩<;>rw[hs] at e6
 ·exact n9 (retS (DU (Dt (tU (k7 rfl rfl e6) rfl rfl))))
 ·exact n9 (retS (KJ (Dt (tU (k7 rfl rfl e6) rfl rfl)) (Dt (tU (k7 (k7 rfl rfl e6) rfl (h0 y k)) rfl (Lr y x)))))
def l_:R->Option Out:=
 (n6 (zJ (i4 bz (e8 (e9 0) (e8 (e9 1) i3))) (x5 (l4 uJ (i5 k9 (i5 k9 (e9 0) (fun _=>some aX)) (kI 1)) (fun _=>some .non)))))
def bK:LD->OD:=via 2 2 l_
theorem iE(s:WS)(x:vI):bK [s.d,.str x.x]=some (.bl (match s.held with | some (y,k)=>decide (y=x)&&k.isSome | none=>false)):=by
 have e:=gj s x
 have e6:=w6 s
 rcases hs:s.held with _ | ⟨y,k⟩<;>rw[hs] at e e6
 ·exact n9 (retS (DU (i8 rfl e)))
 ·by_cases hy:y=x
  ·simp only[hy,decide_true,Bool.true_and] at e ⊢
   exact n9 (retS (KJ (i8 rfl e) (Dt (tU (k7 (k7 rfl rfl e6) rfl (h1 y k)) rfl (Gb k)))))
  ·simp only[hy,decide_false,Bool.false_and] at e ⊢
   exact n9 (retS (DU (i8 rfl e)))
def sY:R->Option Out:=
 (n6 (i5 l8 (i5 l8 (KA (e9 0) I8 (aP (e9 1))) (l5 (e8 (e9 2) i3))) (KA (e9 0) (aP (i5 l8 (e9 1) (kI 1))) I8)))
def aH:LD->OD:=via 3 3 sY
section
variable(a b c d e f g i x:D)
theorem ye{xs ys:LD}(h:xs.length+ys.length<=8):l8 (.tup xs) (.tup ys)=some (.tup (xs++ys)):=by
 show(if xs.length+ys.length<=sizeLine then _ else none)=_
 rw[if_pos (Nat.le_trans h P9)]
theorem O9:aH [.tup [a,b,c,d,e,f,g,i],.int 0,x]=some (.tup [x,b,c,d,e,f,g,i]):=n9 (retS (k7 (k7 (Es rfl rfl rfl rfl) (tupS (l9 rfl rfl)) (ye (show 1<=8 by decide))) (Es rfl rfl rfl rfl) (ye (show 8<=8 by decide))))
theorem Ov:aH [.tup [a,b,c,d,e,f,g,i],.int 1,x]=some (.tup [a,x,c,d,e,f,g,i]):=n9 (retS (k7 (k7 (Es rfl rfl rfl rfl) (tupS (l9 rfl rfl)) (ye (show 2<=8 by decide))) (Es rfl rfl rfl rfl) (ye (show 8<=8 by decide))))
theorem put2:aH [.tup [a,b,c,d,e,f,g,i],.int 2,x]=some (.tup [a,b,x,d,e,f,g,i]):=n9 (retS (k7 (k7 (Es rfl rfl rfl rfl) (tupS (l9 rfl rfl)) (ye (show 3<=8 by decide))) (Es rfl rfl rfl rfl) (ye (show 8<=8 by decide))))
theorem put3:aH [.tup [a,b,c,d,e,f,g,i],.int 3,x]=some (.tup [a,b,c,x,e,f,g,i]):=n9 (retS (k7 (k7 (Es rfl rfl rfl rfl) (tupS (l9 rfl rfl)) (ye (show 4<=8 by decide))) (Es rfl rfl rfl rfl) (ye (show 8<=8 by decide))))
theorem Ow:aH [.tup [a,b,c,d,e,f,g,i],.int 4,x]=some (.tup [a,b,c,d,x,f,g,i]):=n9 (retS (k7 (k7 (Es rfl rfl rfl rfl) (tupS (l9 rfl rfl)) (ye (show 5<=8 by decide))) (Es rfl rfl rfl rfl) (ye (show 8<=8 by decide))))
theorem Ou:aH [.tup [a,b,c,d,e,f,g,i],.int 5,x]=some (.tup [a,b,c,d,e,x,g,i]):=n9 (retS (k7 (k7 (Es rfl rfl rfl rfl) (tupS (l9 rfl rfl)) (ye (show 6<=8 by decide))) (Es rfl rfl rfl rfl) (ye (show 8<=8 by decide))))
theorem LN:aH [.tup [a,b,c,d,e,f,g,i],.int 6,x]=some (.tup [a,b,c,d,e,f,x,i]):=n9 (retS (k7 (k7 (Es rfl rfl rfl rfl) (tupS (l9 rfl rfl)) (ye (show 7<=8 by decide))) (Es rfl rfl rfl rfl) (ye (show 8<=8 by decide))))
theorem Oh:aH [.tup [a,b,c,d,e,f,g,i],.int 7,x]=some (.tup [a,b,c,d,e,f,g,x]):=n9 (retS (k7 (k7 (Es rfl rfl rfl rfl) (tupS (l9 rfl rfl)) (ye (show 8<=8 by decide))) (Es rfl rfl rfl rfl) (ye (show 8<=8 by decide))))
end
theorem PP(s:WS)(m:Nat):aH [s.d,.int 0,.int (m:Int)]=some {s with mode:=m}.d:=O9 ..
theorem OI(s:WS)(c:Int):aH [s.d,.int 1,.int c]=some {s with clock:=c}.d:=Ov ..
theorem Oj(s:WS)(h m:Int)(o:Bool):aH [s.d,.int 2,.tup [.int h,.int m,.bl o]]=some {s with ah:=h,am:=m,aon:=o}.d:=put2 ..
theorem OE(s:WS)(m:Int)(r:Bool)(k:List Int):aH [s.d,.int 3,.tup [.int m,.bl r,.tup (k.map .int)]]=some {s with lm:=m,lr:=r,lk:=k}.d:=put3 ..
theorem PB(s:WS)(m c l:Int)(r:Bool):aH [s.d,.int 4,.tup [.int m,.int c,.int l,.bl r]]=some {s with cm:=m,cs:=c,cl:=l,cr:=r}.d:=Ow ..
theorem Py(s:WS)(r:Int):aH [s.d,.int 5,.int r]=some {s with ring:=r}.d:=Ou ..
theorem MW(s:WS):aH [s.d,.int 6,.non]=some {s with held:=none}.d:=LN ..
theorem MG(s:WS)(x:vI)(k:Option Int):aH [s.d,.int 6,.tup [.str x.x,ue k]]=some {s with held:=some (x,k)}.d:=LN ..
theorem Oq(s:WS)(x:vI):aH [s.d,.int 6,.tup [.str x.x,.non]]=some {s with held:=some (x,none)}.d:=LN ..
theorem N7(s:WS)(i:Int):aH [s.d,.int 7,.int i]=some {s with idle:=i}.d:=Oh ..
def eA:R->Option Out:=
  (n4 (l6 (i5 k9 (e9 0) (fun _=>some bg)) (setAt 1))
  (n6 (i4 aH (e8 (e9 0) (e8 (fun _=>some bg) (e8 (l5 (e8 (i5 tG (i5 l8 (i5 k9 (e9 1) (kI 0)) (kI 1)) (kI 24)) (e8 (i5 k9 (e9 1) (kI 1)) (e8 (i5 k9 (e9 1) (kI 2)) i3)))) i3))))))
def bi:LD->OD:=via 1 2 eA
theorem ie(s:WS):bi [s.d]=some (deed .ahour s).d:=by simp[-k9,bi,via,eA,bg,w2,ML,Na,Nz,Oj,deed]
def dj:R->Option Out:=
  (n4 (l6 (i5 k9 (e9 0) (fun _=>some bg)) (setAt 1))
  (n6 (i4 aH (e8 (e9 0) (e8 (fun _=>some bg) (e8 (l5 (e8 (i5 k9 (e9 1) (kI 0)) (e8 (i5 tG (i5 l8 (i5 k9 (e9 1) (kI 1)) (kI 1)) (kI 60)) (e8 (i5 k9 (e9 1) (kI 2)) i3)))) i3))))))
def a_:LD->OD:=via 1 2 dj
theorem gc(s:WS):a_ [s.d]=some (deed .aminute s).d:=by simp[-k9,a_,via,dj,bg,w2,ML,Na,Nz,Oj,deed]
def eO:R->Option Out:=
  (n4 (l6 (i5 k9 (e9 0) (fun _=>some bg)) (setAt 1))
  (n6 (i4 aH (e8 (e9 0) (e8 (fun _=>some bg) (e8 (l5 (e8 (i5 k9 (e9 1) (kI 0)) (e8 (i5 k9 (e9 1) (kI 1)) (e8 (yj (i5 k9 (e9 1) (kI 2))) i3)))) i3))))))
def bv:LD->OD:=via 1 2 eO
theorem ja(s:WS):bv [s.d]=some (deed .alarm s).d:=by simp[-k9,bv,via,eO,bg,w2,ML,Na,Nz,Oj,deed]
def lf:R->Option Out:=
  (n4 (yD (u_ (i5 k9 (i5 k9 (e9 0) (fun _=>some aT)) (kI 3)))
  (n6 (e9 0))
  ub)
  (n6 (i4 aH (e8 (e9 0) (e8 (fun _=>some aT) (e8 (l5 (e8 (e9 1) (e8 (e9 2) (e8 (i5 l8 (i5 vK (kI 60) (e9 1)) (e9 2)) (e8 (fun _=>some (.bl false)) i3))))) i3))))))
def bX:LD->OD:=via 3 3 lf
theorem jc(s:WS)(m c:Int):bX [s.d,.int m,.int c]=some (xU s m c).d:=by
 cases hr:s.cr<;>simp[-k9,-vK,bX,via,lf,aT,w4,Oo,hr,xU,Gc,PB]
def dk:R->Option Out:=
  (n4 (l6 (i5 k9 (e9 0) (fun _=>some aT)) (setAt 1))
  (n6 (i4 bX (e8 (e9 0) (e8 (i5 tG (i5 l8 (i5 k9 (e9 1) (kI 0)) (kI 1)) (kI 60)) (e8 (i5 k9 (e9 1) (kI 1)) i3))))))
def aZ:LD->OD:=via 1 2 dk
theorem gb(s:WS):aZ [s.d]=some (deed .cminute s).d:=by simp[-k9,aZ,via,dk,aT,w4,MC,Nl,jc,deed]
def dh:R->Option Out:=
  (n4 (l6 (i5 k9 (e9 0) (fun _=>some aT)) (setAt 1))
  (n6 (i4 bX (e8 (e9 0) (e8 (i5 k9 (e9 1) (kI 0)) (e8 (i5 tG (i5 l8 (i5 k9 (e9 1) (kI 1)) (kI 1)) (kI 60)) i3))))))
def aY:LD->OD:=via 1 2 dh
theorem fX(s:WS):aY [s.d]=some (deed .csecond s).d:=by simp[-k9,aY,via,dh,aT,w4,MC,Nl,jc,deed]
def iI:R->Option Out:=
  (n4 (l6 (i5 k9 (e9 0) (fun _=>some aT)) (setAt 1))
  (n4 (l6 (zJ (yj (i5 k9 (e9 1) (kI 3))) (x5 (l4 AT (i5 k9 (e9 1) (kI 2)) (kI 0)))) (setAt 2))
  (n6 (i4 aH (e8 (e9 0) (e8 (fun _=>some aT) (e8 (l5 (e8 (i5 k9 (e9 1) (kI 0)) (e8 (i5 k9 (e9 1) (kI 1)) (e8 (i5 k9 (e9 1) (kI 2)) (e8 (e9 2) i3))))) i3)))))))
def bN:LD->OD:=via 1 3 iI
theorem iG(s:WS):bN [s.d]=some (deed .count s).d:=by
 have q:∀r:Bool,zJ (yj (i5 k9 (e9 1) (kI 3))) (x5 (l4 AT (i5 k9 (e9 1) (kI 2)) (kI 0))) [some s.d,some (.tup [.int s.cm,.int s.cs,.int s.cl,.bl r]),none]=some (.bl (!r&&decide (0<s.cl))):=by
  intro r
  cases r
  ·exact KJ rfl (Dt (tU (k7 rfl rfl rfl) rfl rfl))
  ·exact DU rfl
 exact n9 ((m9 (p7 (k7 rfl rfl (w4 s)) rfl)).trans ((m9 (p7 (q s.cr) rfl)).trans (retS (i8 (l9 rfl (l9 rfl (l9 (tupS (l9 (k7 rfl rfl (MC s)) (l9 (k7 rfl rfl (Nl s)) (l9 (k7 rfl rfl (N9 s)) rfl)))) rfl))) (PB s s.cm s.cs s.cl _)))))
def lX:R->Option Out:=
  (n4 (l6 (i5 k9 (e9 0) (fun _=>some aT)) (setAt 1))
  (n6 (i4 bX (e8 (e9 0) (e8 (i5 k9 (e9 1) (kI 0)) (e8 (i5 k9 (e9 1) (kI 1)) i3))))))
def dB:LD->OD:=via 1 2 lX
theorem pK(s:WS):dB [s.d]=some (deed .full s).d:=by simp[-k9,dB,via,lX,aT,w4,MC,Nl,jc,deed]
def jS:R->Option Out:=
 (n6 (i4 aH (e8 (e9 0) (e8 (fun _=>some ba) (e8 (i5 tG (i5 l8 (i5 k9 (e9 0) (fun _=>some ba)) (kI 3600)) (kI 86400)) i3)))))
def cS:LD->OD:=via 1 1 jS
theorem oB(s:WS):cS [s.d]=some (deed .hour s).d:=by simp[-k9,cS,via,jS,ba,w1,OI,deed]
def mF:R->Option Out:=
  (n4 (l6 (i5 k9 (e9 0) (fun _=>some bZ)) (setAt 1))
  (n4 (yD (y7 (u_ (i5 k9 (e9 1) (kI 1))))
  (n6 (i4 aH (e8 (e9 0) (e8 (fun _=>some bZ) (e8 (l5 (e8 (kI 0) (e8 (fun _=>some (.bl false)) (e8 (l5 i3) i3)))) i3)))))
  ub)
  (n4 (yD (l4 Ml (i4 C5 (e8 (i5 k9 (e9 1) (kI 2)) i3)) (fun _=>some fj))
  (n6 (e9 0))
  ub)
  (n6 (i4 aH (e8 (e9 0) (e8 (fun _=>some bZ) (e8 (l5 (e8 (i5 k9 (e9 1) (kI 0)) (e8 (fun _=>some (.bl true)) (e8 (i5 l8 (i5 k9 (e9 1) (kI 2)) (l5 (e8 (i5 k9 (e9 1) (kI 0)) i3))) i3)))) i3))))))))
def db:LD->OD:=via 1 2 mF
theorem mV(s:WS)(h:s.lk.length<=4):db [s.d]=some (deed .lap s).d:=by
 have t:u_ (i5 k9 (e9 1) (kI 1)) [some s.d,some s.lapsD]=some s.lr:=zR (k7 rfl rfl (OJ s))
 have hl:C5 [.tup (s.lk.map .int)]=some (.int s.lk.length):=by show some (D.int ((s.lk.map D.int).length:Int))=_;rw[List.length_map]
 have hlen:i4 C5 (e8 (i5 k9 (e9 1) (kI 2)) i3) [some s.d,some s.lapsD]=some (.int s.lk.length):=i8 (l9 (k7 rfl rfl (Nn s)) rfl) hl
 have a1:l6 (i5 k9 (e9 0) (fun _=>some bZ)) (setAt 1) [some s.d,none]=some (.nx [some s.d,some s.lapsD]):=p7 (k7 rfl rfl (w3 s)) rfl
 cases hr:s.lr with
 | false =>
  have e:deed .lap s={s with lm:=0,lr:=false,lk:=[]}:=by
   show(if s.lr then _ else {s with lm:=0,lk:=[]})=_
   rw[if_neg (by rw[hr];decide),<- hr]
  rw[hr] at t
  rw[e]
  exact n9 ((m9 a1).trans (wt ((zQ (GF (b:=false) t)).trans (retS (i8 (l9 rfl (l9 rfl (l9 (tupS (l9 rfl (l9 rfl (l9 (tupS rfl) rfl)))) rfl))) (OE s 0 false []))))))
 | true =>
  rw[hr] at t
  have n1:yD (y7 (u_ (i5 k9 (e9 1) (kI 1)))) (n6 (i4 aH (e8 (e9 0) (e8 (fun _=>some bZ) (e8 (l5 (e8 (kI 0) (e8 (fun _=>some (.bl false)) (e8 (l5 i3) i3)))) i3))))) ub [some s.d,some s.lapsD]=some (.nx [some s.d,some s.lapsD]):=(yd (GF (b:=true) t)).trans rfl
  by_cases h4:4<=s.lk.length
  ·have e:deed .lap s=s:=by
    show(if s.lr then (if 4<=s.lk.length then s else _) else _)=_
    rw[if_pos hr,if_pos h4]
   rw[e]
   exact n9 ((m9 a1).trans ((m9 n1).trans (wt ((zQ (tU hlen rfl (dT (Int.ofNat_le.mpr h4)))).trans (retS rfl)))))
  ·have e:deed .lap s={s with lm:=s.lm,lr:=true,lk:=s.lk++[s.lm]}:=by
    show(if s.lr then (if 4<=s.lk.length then s else {s with lk:=s.lk++[s.lm]}) else _)=_
    rw[if_pos hr,if_neg h4,<- hr]
   have ha:l8 (.tup (s.lk.map .int)) (.tup [.int s.lm])=some (.tup ((s.lk++[s.lm]).map .int)):=by
    rw[List.map_append]
    exact ye (by rw[List.length_map];show s.lk.length+1<=8;omega)
   rw[e]
   exact n9 ((m9 a1).trans ((m9 n1).trans ((m9 ((yd (tU hlen rfl (dF fun q=>h4 (Int.ofNat_le.mp q)))).trans rfl)).trans (retS (i8 (l9 rfl (l9 rfl (l9 (tupS (l9 (k7 rfl rfl (MT s)) (l9 rfl (l9 (k7 (k7 rfl rfl (Nn s)) (tupS (l9 (k7 rfl rfl (MT s)) rfl)) ha) rfl)))) rfl))) (OE s s.lm true (s.lk++[s.lm])))))))
def fB:R->Option Out:=
  (n4 (l6 (i5 k9 (e9 0) (fun _=>some bZ)) (setAt 1))
  (n6 (i4 aH (e8 (e9 0) (e8 (fun _=>some bZ) (e8 (l5 (e8 (i5 k9 (e9 1) (kI 0)) (e8 (yj (i5 k9 (e9 1) (kI 1))) (e8 (i5 k9 (e9 1) (kI 2)) i3)))) i3))))))
def bE:LD->OD:=via 1 2 fB
theorem jF(s:WS):bE [s.d]=some (deed .run s).d:=by simp[-k9,bE,via,fB,bZ,w3,MT,OJ,Nn,OE,deed]
def ia:R->Option Out:=
  (n4 (l6 (i5 k9 (e9 0) (fun _=>some ba)) (setAt 1))
  (n4 (l6 (i5 tG (i5 l8 (i5 tG (e9 1) (kI 3600)) (kI 60)) (kI 3600)) (setAt 2))
  (n6 (i4 aH (e8 (e9 0) (e8 (fun _=>some ba) (e8 (i5 l8 (i5 vE (e9 1) (i5 tG (e9 1) (kI 3600))) (e9 2)) i3)))))))
def ca:LD->OD:=via 1 3 ia
theorem lL(s:WS):ca [s.d]=some (deed .minute s).d:=by simp[-k9,ca,via,ia,ba,w1,OI,deed]
def jQ:R->Option Out:=
 (n6 (e9 0))
def cR:LD->OD:=via 1 1 jQ
theorem oy(s:WS):cR [s.d]=some (deed .none s).d:=by simp[cR,via,jQ,deed]
def jT:R->Option Out:=
 (n6 (i4 aH (e8 (e9 0) (e8 (fun _=>some ba) (e8 (i5 vE (i5 k9 (e9 0) (fun _=>some ba)) (i5 tG (i5 k9 (e9 0) (fun _=>some ba)) (kI 60))) i3)))))
def cU:LD->OD:=via 1 1 jT
theorem oX(s:WS):cU [s.d]=some (deed .zero s).d:=by simp[-k9,cU,via,jT,ba,w1,OI,deed]
def yE:List (Str×(LD->OD)):=[(oS "none",cR),(oS "hour",cS),(oS "minute",ca),(oS "zero",cU),(oS "ahour",bi),(oS "aminute",a_),(oS "alarm",bv),(oS "run",bE),(oS "lap",db),(oS "cminute",aZ),(oS "csecond",aY),(oS "full",dB),(oS "count",bN)]
def kM:R->Option Out:=
  (n4 (l6 (i5 k9 (i5 k9 (i5 k9 (e9 0) (kI 2)) (i5 k9 (e9 1) (fun _=>some bU))) (kI 2)) (setAt 3))
  (n4 (l6 (i5 k9 (e9 3) (Fi (HH cT) (e9 2))) (setAt 4))
  (Mg 5 yE (i5 k9 (e9 4) (kI 0)) (fun G_=>(n6 (i4 aH (e8 (i4 G_ (e8 (e9 1) i3)) (e8 (fun _=>some bU) (e8 (i5 k9 (e9 4) (kI 1)) i3)))))))))
def bA:LD->OD:=via 3 6 kM
theorem qW(d:uY)(s:WS)(h:s.lk.length<=4):∃F,yE.lookup d.x=some F/\F [s.d]=some (deed d s).d:=by
 cases d
 ·exact⟨_,rfl,oy s⟩
 ·exact⟨_,rfl,oB s⟩
 ·exact⟨_,rfl,lL s⟩
 ·exact⟨_,rfl,oX s⟩
 ·exact⟨_,rfl,ie s⟩
 ·exact⟨_,rfl,gc s⟩
 ·exact⟨_,rfl,ja s⟩
 ·exact⟨_,rfl,jF s⟩
 ·exact⟨_,rfl,mV s h⟩
 ·exact⟨_,rfl,gb s⟩
 ·exact⟨_,rfl,fX s⟩
 ·exact⟨_,rfl,pK s⟩
 ·exact⟨_,rfl,iG s⟩
theorem NQ(x:vI):HH cT (.str x.x)=some (.int (x.ix:Int)):=by cases x<;>rfl
theorem NF(x:vI):HH cT (.str x.X)=some (.int ((x.ix+3:Nat):Int)):=by cases x<;>rfl
theorem PZ{i:Nat}{tab:List (Str×(LD->OD))}{f:R->OD}{g:(LD->OD)->R->Option Out}{ρ:R}{z:Str}{F:LD->OD}{o:Option Out}(h1:f ρ=some (.str z))(h2:tab.lookup z=some F)(hi:i<ρ.length)(h3:g F (ρ.set i none)=o):Mg i tab f g ρ=o:=by
 unfold Mg
 rw[h1]
 show(tab.lookup z).bind _=_
 rw[h2]
 show(if i<ρ.length then g F (ρ.set i none) else none)=_
 rw[if_pos hi,h3]
theorem f_{b:Bk}{s:WS}(ok:b.Ok)(w:s.Wk b){p:Str}{i:Nat}(hi:i<6)(hp:HH cT (.str p)=some (.int (i:Int))):bA [b.d,s.d,.str p]=some (press b s i).d:=by
 have hm:=gh b w.mode
 have h6:=(ok.all _ (lO b w.mode)).six
 have hr:=pU (b.modes.getD s.mode default) (i:=i) (by rw[h6];exact hi)
 obtain⟨F,hF,hs⟩:=qW (b.row s.mode i).1 s w.lk
 unfold Bk.row at hF hs
 unfold press Bk.row
 generalize (b.modes.getD s.mode default)=md at *
 generalize (md.rows.getD i (uY.none,0))=rw_ at *
 exact n9 ((m9 (p7 (k7 (k7 (k7 rfl rfl (b2 b)) (k7 rfl rfl (w0 s)) hm) rfl (m2 md)) rfl)).trans ((m9 (p7 (k7 rfl (NI rfl hp) hr) rfl)).trans
  (PZ (k7 rfl rfl (r0 rw_)) hF (by simp) (retS (i8 (l9 (i8 rfl hs) (l9 rfl (l9 (k7 rfl rfl (r1 rw_)) rfl))) (PP _ _))))))
def qe:R->Option Out:=
  (n4 (yD (y7 (u_ (i4 bz (e8 (e9 1) (e8 (e9 2) i3)))))
  (n6 (e9 1))
  ub)
  (n4 (yD (u_ (i4 bK (e8 (e9 1) (e8 (e9 2) i3))))
  (l6 (i4 bA (e8 (e9 0) (e8 (e9 1) (e8 (e9 2) i3)))) (setAt 1))
  ub)
  (n6 (i4 aH (e8 (i4 aH (e8 (e9 1) (e8 (fun _=>some aX) (e8 (fun _=>some .non) i3)))) (e8 (fun _=>some cW) (e8 (kI 0) i3)))))))
def eU:LD->OD:=via 3 3 qe
theorem qi{b:Bk}{s:WS}(ok:b.Ok)(w:s.Wk b)(x:vI):eU [b.d,s.d,.str x.x]=some (letGo b s x).d:=by
 have e1:=gj s x
 have e2:=iE s x
 have e3:=f_ ok w x.ix6 (NQ x)
 unfold letGo
 rcases hs:s.held with _ | ⟨y,k⟩<;>rw[hs] at e1 e2
 ·exact n9 (wt ((zQ (GF (zR (i8 rfl e1)))).trans (retS rfl)))
 ·by_cases hy:y=x
  ·subst hy
   simp only[decide_true,Bool.true_and] at e1 e2
   dsimp only
   rw[if_pos rfl]
   cases k with
   | none=>exact n9 ((m9 (yd (GF (zR (i8 rfl e1))))).trans ((m9 (yd (zR (i8 rfl e2)))).trans (retS (i8 (l9 (i8 rfl (MW s)) rfl) (N7 _ 0)))))
   | some j=>exact n9 ((m9 (yd (GF (zR (i8 rfl e1))))).trans ((m9 ((zQ (zR (i8 rfl e2))).trans (p7 (i8 rfl e3) rfl))).trans (retS (i8 (l9 (i8 rfl (MW _)) rfl) (N7 _ 0)))))
  ·dsimp only at e1 ⊢
   rw[decide_eq_false hy] at e1
   rw[if_neg hy]
   exact n9 (wt ((zQ (GF (zR (i8 rfl e1)))).trans (retS rfl)))
def pY:R->Option Out:=
  (n4 (yD (l4 uJ (i5 k9 (e9 0) (fun _=>some aX)) (fun _=>some .non))
  (n6 (e9 0))
  ub)
  (n4 (l6 (FO (l4 AT (i5 k9 (e9 0) (fun _=>some dY)) (kI 0)) (fun _=>some .non) (kI 0)) (setAt 2))
  (n6 (i4 aH (e8 (i4 aH (e8 (i4 aH (e8 (e9 0) (e8 (fun _=>some dY) (e8 (kI 0) i3)))) (e8 (fun _=>some aX) (e8 (l5 (e8 (e9 1) (e8 (e9 2) i3))) i3)))) (e8 (fun _=>some cW) (e8 (kI 0) i3)))))))
def fo:LD->OD:=via 2 3 pY
theorem pc(s:WS)(x:vI):fo [s.d,.str x.x]=some (pushed s x).d:=by
 have e6:=w6 s
 have e5:=w5 s
 unfold pushed
 cases hh:s.held with
 | some v =>
  rw[hh] at e6
  exact n9 (wt ((zQ (tU (k7 rfl rfl e6) rfl rfl)).trans (retS rfl)))
 | none =>
  rw[hh] at e6
  by_cases hr:0<s.ring
  ·have z:=MG {s with ring:=0} x none
   simp only[Option.isSome_none,Bool.false_eq_true,if_false,if_pos hr]
   exact n9 ((m9 (yd (tU (k7 rfl rfl e6) rfl rfl))).trans ((m9 (p7 (Jk (tU (k7 rfl rfl e5) rfl (dT hr)) rfl) rfl)).trans (retS (i8 (l9 (i8 (l9 (i8 rfl (Py s 0)) rfl) z) rfl) (N7 _ 0)))))
  ·have z:=MG {s with ring:=0} x (some 0)
   simp only[Option.isSome_none,Bool.false_eq_true,if_false,if_neg hr]
   exact n9 ((m9 (yd (tU (k7 rfl rfl e6) rfl rfl))).trans ((m9 (p7 (JD (tU (k7 rfl rfl e5) rfl (dF hr)) rfl) rfl)).trans (retS (i8 (l9 (i8 (l9 (i8 rfl (Py s 0)) rfl) z) rfl) (N7 _ 0)))))
def mT:R->Option Out:=
  (n4 (yD (y7 (u_ (i5 k9 (e9 0) (kI 3))))
  (n6 (e9 0))
  ub)
  (n4 (l6 (i4 DD (e8 (kI 0) (e8 (i5 vE (i5 k9 (e9 0) (kI 2)) (e9 1)) i3))) (setAt 2))
  (n6 (l5 (e8 (i5 k9 (e9 0) (kI 0)) (e8 (i5 k9 (e9 0) (kI 1)) (e8 (e9 2) (e8 (x5 (l4 AT (e9 2) (kI 0))) i3))))))))
def cV:LD->OD:=via 2 3 mT
theorem mW(s:WS)(n:Int):cV [s.countD,.int n]=some (.tup [.int s.cm,.int s.cs,.int (tX s n),.bl (runsOn s n)]):=by
 have e1:tX s n=if s.cr then mx 0 (s.cl - n) else s.cl:=rfl
 have e2:runsOn s n=(s.cr&&decide (0<mx 0 (s.cl - n))):=rfl
 rw[e1,e2]
 have t:u_ (i5 k9 (e9 0) (kI 3)) [some s.countD,some (.int n),none]=some s.cr:=zR (k7 rfl rfl (Oo s))
 cases hr:s.cr with
 | false =>
  rw[hr] at t
  have q:s.countD=.tup [.int s.cm,.int s.cs,.int s.cl,.bl false]:=by rw[<- hr];rfl
  exact(n9 (wt ((zQ (GF (b:=false) t)).trans (retS rfl)))).trans (congrArg some q)
 | true =>
  rw[hr] at t
  exact n9 ((m9 ((yd (GF (b:=true) t)).trans rfl)).trans ((m9 (p7 (i8 (l9 rfl (l9 (k7 (k7 rfl rfl (N9 s)) rfl rfl) rfl)) (Mm _ _)) rfl)).trans (retS (tupS (l9 (k7 rfl rfl (MC s)) (l9 (k7 rfl rfl (Nl s)) (l9 rfl (l9 (Dt (tU rfl rfl rfl)) rfl))))))))
def oF:R->Option Out:=
  (n4 (yD (IW (l4 zT (e9 0) (fun _=>some .non)) (l4 zT (i5 k9 (e9 0) (kI 1)) (fun _=>some .non)))
  (n6 (e9 0))
  ub)
  (n6 (l5 (e8 (i5 k9 (e9 0) (kI 0)) (e8 (i5 l8 (i5 k9 (e9 0) (kI 1)) (e9 1)) i3)))))
def dD:LD->OD:=via 2 2 oF
theorem oa(h:Option (vI×Option Int))(n:Int):dD [uw h,.int n]=some (uw (tT h n)):=by
 rcases h with _ | ⟨x,_ | k⟩
 ·exact n9 (wt ((zQ (Pk (tU rfl rfl rfl))).trans (retS rfl)))
 ·exact n9 (wt ((zQ (Mc (tU rfl rfl rfl) (tU (k7 rfl rfl rfl) rfl rfl))).trans (retS rfl)))
 ·exact n9 ((m9 ((yd (Mc (tU rfl rfl rfl) (tU (k7 rfl rfl rfl) rfl rfl))).trans rfl)).trans (retS (tupS (l9 (k7 rfl rfl rfl) (l9 (k7 (k7 rfl rfl rfl) rfl rfl) rfl)))))
def il:R->Option Out:=
 (n6 (i4 DD (e8 (kI 1) (e8 (i5 vE (i5 k9 (e9 0) (kI 1)) (i5 k9 (e9 1) (fun _=>some cW))) i3))))
def bc:LD->OD:=via 2 2 il
theorem eB(b:Bk)(s:WS):bc [b.d,s.d]=some (.int (wc b s)):=n9 (retS (i8 (l9 rfl (l9 (k7 (k7 rfl rfl (b1 b)) (k7 rfl rfl (w7 s)) rfl) rfl)) (Mm _ _)))
def n_:R->Option Out:=
  (n4 (yD (IW (l4 uJ (i5 k9 (e9 1) (fun _=>some aX)) (fun _=>some .non)) (l4 uW (i5 k9 (e9 0) (kI 1)) (kI 0)))
  (n6 (i5 k9 (e9 1) (fun _=>some cW)))
  ub)
  (n4 (l6 (i4 bc (e8 (e9 0) (e8 (e9 1) i3))) (setAt 3))
  (n6 (FO (l4 Nw (e9 2) (e9 3)) (i5 l8 (i5 k9 (e9 1) (fun _=>some cW)) (e9 2)) (i5 tG (i5 vE (e9 2) (e9 3)) (i5 k9 (e9 0) (kI 1)))))))
def dH:LD->OD:=via 3 4 n_
theorem oE{b:Bk}{s:WS}(n:Int)(hb:0<=b.back):dH [b.d,s.d,.int n]=some (.int (tS b s n)):=by
 have e:=eB b s
 have e6:=w6 s
 have e7:=w7 s
 unfold tS
 cases hh:s.held with
 | some v =>
  rw[hh] at e6
  rw[if_pos (.inl rfl)]
  exact n9 (wt ((zQ (Pk (tU (k7 rfl rfl e6) rfl rfl))).trans (retS (k7 rfl rfl e7))))
 | none =>
  rw[hh] at e6
  by_cases h0:b.back=0
  ·rw[if_pos (.inr h0)]
   exact n9 (wt ((zQ (Mc (tU (k7 rfl rfl e6) rfl rfl) (tU (k7 rfl rfl (b1 b)) rfl (Qa h0)))).trans (retS (k7 rfl rfl e7))))
  ·have hp:0<b.back:=by omega
   have q1:yD (IW (l4 uJ (i5 k9 (e9 1) (fun _=>some aX)) (fun _=>some .non)) (l4 uW (i5 k9 (e9 0) (kI 1)) (kI 0))) (n6 (i5 k9 (e9 1) (fun _=>some cW))) ub [some b.d,some s.d,some (.int n),none]=some (.nx [some b.d,some s.d,some (.int n),none]):=
    yd (Mc (tU (k7 rfl rfl e6) rfl rfl) (tU (k7 rfl rfl (b1 b)) rfl (PQ h0)))
   rw[if_neg (by rintro(z | z);cases z;exact h0 z)]
   by_cases h1:n<wc b s
   ·rw[if_pos h1]
    exact n9 ((m9 q1).trans ((m9 (p7 (i8 rfl e) rfl)).trans (retS (Jk (tU (x:=.int n) (y:=.int (wc b s)) rfl rfl (dT h1)) (k7 (k7 rfl rfl e7) rfl rfl)))))
   ·rw[if_neg h1]
    exact n9 ((m9 q1).trans ((m9 (p7 (i8 rfl e) rfl)).trans (retS (JD (tU (x:=.int n) (y:=.int (wc b s)) rfl rfl (dF h1)) (k7 rfl (k7 rfl rfl (b1 b)) (modS hp))))))
def oR:R->Option Out:=
 (n6 (FO (u_ (i5 k9 (e9 0) (kI 1))) (l5 (e8 (i5 l8 (i5 k9 (e9 0) (kI 0)) (e9 1)) (e8 (fun _=>some (.bl true)) (e8 (i5 k9 (e9 0) (kI 2)) i3)))) (e9 0)))
def dI:LD->OD:=via 2 2 oR
theorem ow(s:WS)(n:Int):dI [s.lapsD,.int n]=some (.tup [.int (tQ s n),.bl s.lr,.tup (s.lk.map .int)]):=by
 have e:tQ s n=if s.lr then s.lm+n else s.lm:=rfl
 rw[e]
 have t:u_ (i5 k9 (e9 0) (kI 1)) [some s.lapsD,some (.int n)]=some s.lr:=zR (k7 rfl rfl (OJ s))
 cases hr:s.lr with
 | false =>
  rw[hr] at t
  have q:s.lapsD=.tup [.int s.lm,.bl false,.tup (s.lk.map .int)]:=by rw[<- hr];rfl
  exact(n9 (retS (JD t rfl))).trans (congrArg some q)
 | true =>
  rw[hr] at t
  exact n9 (retS (Jk t (tupS (l9 (k7 (k7 rfl rfl (MT s)) rfl rfl) (l9 rfl (l9 (k7 rfl rfl (Nn s)) rfl))))))
def j7:R->Option Out:=
  (n4 (l6 (i5 k9 (e9 0) (fun _=>some bg)) (setAt 1))
  (n4 (yD (y7 (u_ (i5 k9 (e9 1) (kI 2))))
  (n6 (fun _=>some .non))
  ub)
  (n4 (l6 (i5 l8 (i5 vK (kI 3600) (i5 k9 (e9 1) (kI 0))) (i5 vK (kI 60) (i5 k9 (e9 1) (kI 1)))) (setAt 2))
  (n6 (i5 l8 (i5 tG (i5 vE (i5 vE (e9 2) (i5 k9 (e9 0) (fun _=>some ba))) (kI 1)) (fun _=>some eW)) (kI 1))))))
def aV:LD->OD:=via 1 3 j7
theorem gf(s:WS):aV [s.d]=some (ue (tM s)):=by
 have e2:=Nz s
 unfold tM
 cases ha:s.aon<;>rw[ha] at e2
 ·exact n9 ((m9 (p7 (k7 rfl rfl (w2 s)) rfl)).trans (wt ((zQ (GF (b:=false) (zR (k7 rfl rfl e2)))).trans (retS rfl))))
 ·exact n9 ((m9 (p7 (k7 rfl rfl (w2 s)) rfl)).trans ((m9 (yd (GF (b:=true) (zR (k7 rfl rfl e2))))).trans ((m9 (p7 (k7 (k7 rfl (k7 rfl rfl (ML s)) (Dl _)) (k7 rfl (k7 rfl rfl (Na s)) (Gc _)) rfl) rfl)).trans (retS (k7 (k7 (k7 (k7 rfl (k7 rfl rfl (w1 s)) rfl) rfl rfl) rfl (modS (by decide))) rfl rfl)))))
def kK:R->Option Out:=
  (n4 (l6 (i5 k9 (e9 0) (fun _=>some aT)) (setAt 1))
  (n6 (FO (u_ (i5 k9 (e9 1) (kI 3))) (i5 k9 (e9 1) (kI 2)) (fun _=>some .non))))
def be:LD->OD:=via 1 2 kK
theorem fV(s:WS):be [s.d]=some (ue (tN s)):=by
 have e3:=Oo s
 unfold tN
 cases ha:s.cr<;>rw[ha] at e3
 ·exact n9 ((m9 (p7 (k7 rfl rfl (w4 s)) rfl)).trans (retS (JD (zR (k7 rfl rfl e3)) rfl)))
 ·exact n9 ((m9 (p7 (k7 rfl rfl (w4 s)) rfl)).trans (retS (Jk (zR (k7 rfl rfl e3)) (k7 rfl rfl (N9 s)))))
def lq:R->Option Out:=
  (n4 (l6 (i4 aV (e8 (e9 0) i3)) (setAt 2))
  (n4 (l6 (i4 be (e8 (e9 0) i3)) (setAt 3))
  (Fc 4 i3
  (wB (IZ (x4 (l4 uJ (e9 2) (fun _=>some .non)) (l4 L0 (e9 2) (e9 1)))
  (A_ 4 (i5 vE (e9 1) (i5 tG (i5 vE (e9 1) (e9 2)) (fun _=>some eW))))
  Av)
  (wB (IZ (x4 (l4 uJ (e9 3) (fun _=>some .non)) (l4 L0 (e9 3) (e9 1)))
  (A_ 4 (e9 3))
  Av)
  (yW (n6 (i4 D6 (e8 (e9 4) i3)))))))))
def cK:LD->OD:=via 2 5 lq
def FW(n:Int)(o:Option Int):LD:=match o with
 | some a=>if a<=n then [.int (n - (n - a)%86400)] else []
 | none=>[]
def KO(n:Int)(o:Option Int):LD:=match o with
 | some c=>if c<=n then [.int c] else []
 | none=>[]
theorem K4(s:WS)(n:Int):D6 [.lst (FW n (tM s)++KO n (tN s))]=some (ue (xw s n)):=by
 unfold xw
 cases tM s<;>cases tN s
 ·rfl
 ·rename_i c;by_cases h:c<=n<;>simp[FW,KO,h,ue]
 ·rename_i a;by_cases h:a<=n<;>simp[FW,KO,h,ue]
 ·rename_i a c;by_cases h:a<=n<;>by_cases h':c<=n<;>simp[FW,KO,h,h',ue,mx]
theorem Ku{p:R->LD->Option (Out×LD)}{q:R->LD->Option Out}{ρ ρ2:R}{ds wU:LD}(h:p ρ ds=some (.nx ρ2,wU)):wB p q ρ ds=q ρ2 wU:=by simp[h]
theorem Jl{c:R->Option Bool}{p q:R->LD->Option (Out×LD)}{ρ:R}{ds:LD}(h:c ρ=some true):IZ c p q ρ ds=p ρ ds:=by simp[h]
theorem Hw{c:R->Option Bool}{p q:R->LD->Option (Out×LD)}{ρ:R}{ds:LD}(h:c ρ=some false):IZ c p q ρ ds=q ρ ds:=by simp[h]
theorem lV(s:WS)(n:Int):cK [s.d,.int n]=some (ue (xw s n)):=by
 have e1:=gf s
 have e2:=fV s
 rw[<- K4]
 generalize tM s=a at *
 generalize tN s=c at *
 have z0:0<sizeLine:=by decide
 have z1:1<sizeLine:=by decide
 have q1:l6 (i4 aV (e8 (e9 0) i3)) (setAt 2) [some s.d,some (.int n),none,none,none]=some (.nx [some s.d,some (.int n),some (ue a),none,none]):=by
  show(aV [s.d]).bind _=_
  rw[e1];rfl
 have q2:l6 (i4 be (e8 (e9 0) i3)) (setAt 3) [some s.d,some (.int n),some (ue a),none,none]=some (.nx [some s.d,some (.int n),some (ue a),some (ue c),none]):=by
  show(be [s.d]).bind _=_
  rw[e2];rfl
 have q3:IZ (x4 (l4 uJ (e9 2) (fun _=>some .non)) (l4 L0 (e9 2) (e9 1))) (A_ 4 (i5 vE (e9 1) (i5 tG (i5 vE (e9 1) (e9 2)) (fun _=>some eW)))) Av [some s.d,some (.int n),some (ue a),some (ue c)] []=some (.nx [some s.d,some (.int n),some (ue a),some (ue c)],FW n a):=by
  cases a with
  | none=>rfl
  | some a =>
   show _=some (Out.nx _,if a<=n then _ else _)
   by_cases h:a<=n
   ·rw[Jl (dT h),if_pos h]
    show(if 4=4/\0<sizeLine then _ else none)=_
    rw[if_pos ⟨rfl,z0⟩];rfl
   ·rw[Hw (dF h),if_neg h];rfl
 have hl:(FW n a).length<=1:=by
  unfold FW
  split
  ·split<;>simp
  ·simp
 have hl2:(FW n a).length<sizeLine:=Nat.lt_of_le_of_lt hl z1
 have q4:IZ (x4 (l4 uJ (e9 3) (fun _=>some .non)) (l4 L0 (e9 3) (e9 1))) (A_ 4 (e9 3)) Av [some s.d,some (.int n),some (ue a),some (ue c)] (FW n a)=some (.nx [some s.d,some (.int n),some (ue a),some (ue c)],FW n a++KO n c):=by
  cases c with
  | none=>show some _=_;rw[show KO n none=[] from rfl,List.append_nil]
  | some c =>
   show _=some (Out.nx _,FW n a++if c<=n then _ else _)
   by_cases h:c<=n
   ·rw[Jl (dT h),if_pos h]
    show(if 4=4/\(FW n a).length<sizeLine then _ else none)=_
    rw[if_pos ⟨rfl,hl2⟩];rfl
   ·rw[Hw (dF h),if_neg h,List.append_nil];rfl
 show xX (n4 (l6 (i4 aV (e8 (e9 0) i3)) (setAt 2)) _ [some s.d,some (.int n),none,none,none])=_
 rw[m9 q1,m9 q2]
 show xX (wB (IZ (x4 (l4 uJ (e9 2) (fun _=>some .non)) (l4 L0 (e9 2) (e9 1))) (A_ 4 (i5 vE (e9 1) (i5 tG (i5 vE (e9 1) (e9 2)) (fun _=>some eW)))) Av) _ [some s.d,some (.int n),some (ue a),some (ue c)] [])=_
 rw[Ku q3,Ku q4]
 show xX ((D6 [.lst (FW n a++KO n c)]).map .rt)=_
 cases D6 [.lst (FW n a++KO n c)]<;>rfl
def oY:R->Option Out:=
  (n4 (l6 (i4 cK (e8 (e9 0) (e8 (e9 1) i3))) (setAt 2))
  (n4 (yD (l4 zT (e9 2) (fun _=>some .non))
  (n6 (i4 DD (e8 (kI 0) (e8 (i5 vE (i5 k9 (e9 0) (fun _=>some dY)) (e9 1)) i3))))
  ub)
  (n6 (i4 DD (e8 (kI 0) (e8 (i5 vE (fun _=>some eT) (i5 vE (e9 1) (e9 2))) i3))))))
def dE:LD->OD:=via 2 3 oY
theorem oO(s:WS)(n:Int):dE [s.d,.int n]=some (.int (wG s n)):=by
 have e:=lV s n
 unfold wG
 cases h:xw s n with
 | none =>
  rw[h] at e
  exact n9 ((m9 (p7 (i8 rfl e) rfl)).trans (wt ((zQ (tU rfl rfl rfl)).trans (retS (i8 (l9 rfl (l9 (k7 (k7 rfl rfl (w5 s)) rfl rfl) rfl)) (Mm _ _))))))
 | some l =>
  rw[h] at e
  exact n9 ((m9 (p7 (i8 rfl e) rfl)).trans ((m9 ((yd (tU rfl rfl rfl)).trans rfl)).trans (retS (i8 (l9 rfl (l9 (k7 rfl (k7 rfl rfl rfl) rfl) rfl)) (Mm _ _)))))
def oK:R->Option Out:=
 (n6 (l5 (e8 (i5 k9 (e9 1) (fun _=>some bU)) (e8 (i5 tG (i5 l8 (i5 k9 (e9 1) (fun _=>some ba)) (e9 2)) (fun _=>some eW)) (e8 (i5 k9 (e9 1) (fun _=>some bg)) (e8 (i4 dI (e8 (i5 k9 (e9 1) (fun _=>some bZ)) (e8 (e9 2) i3))) (e8 (i4 cV (e8 (i5 k9 (e9 1) (fun _=>some aT)) (e8 (e9 2) i3))) (e8 (i4 dE (e8 (e9 1) (e8 (e9 2) i3))) (e8 (i4 dD (e8 (i5 k9 (e9 1) (fun _=>some aX)) (e8 (e9 2) i3))) (e8 (i4 dH (e8 (e9 0) (e8 (e9 1) (e8 (e9 2) i3)))) i3))))))))))
def cA:LD->OD:=via 3 3 oK
theorem gx{b:Bk}{s:WS}(n:Int)(hb:0<=b.back):cA [b.d,s.d,.int n]=some (counted b s n).d:=
 n9 (retS (tupS (l9 (k7 rfl rfl (w0 s)) (l9 (k7 (k7 (k7 rfl rfl (w1 s)) rfl rfl) rfl rfl) (l9 (k7 rfl rfl (w2 s)) (l9 (i8 (l9 (k7 rfl rfl (w3 s)) rfl) (ow s n)) (l9 (i8 (l9 (k7 rfl rfl (w4 s)) rfl) (mW s n)) (l9 (i8 rfl (oO s n)) (l9 (i8 (l9 (k7 rfl rfl (w6 s)) rfl) (oa s.held n)) (l9 (i8 rfl (oE n hb)) rfl))))))))))
def kX:R->Option Out:=
 (n6 (zJ (x5 (l4 AT (i5 k9 (e9 0) (kI 1)) (kI 0))) (zJ (x5 (l4 Hi (i5 k9 (e9 1) (fun _=>some bU)) (kI 0))) (yj (i5 k9 (i5 k9 (i5 k9 (e9 0) (kI 2)) (i5 k9 (e9 1) (fun _=>some bU))) (kI 1))))))
def cG:LD->OD:=via 2 2 kX
theorem lA{b:Bk}{s:WS}(w:s.Wk b):cG [b.d,s.d]=some (.bl (tO b s)):=by
 have hm:=gh b w.mode
 unfold tO
 have c1:x5 (l4 AT (i5 k9 (e9 0) (kI 1)) (kI 0)) [some b.d,some s.d]=some (.bl (decide (0<b.back))):=Dt (tU (k7 rfl rfl (b1 b)) rfl rfl)
 have e2:Hi (.int (s.mode:Int)) (.int 0)=some (!decide (s.mode=0)):=by
  show some (!((s.mode:Int)==0))=_
  cases s.mode<;>rfl
 have c2:x5 (l4 Hi (i5 k9 (e9 1) (fun _=>some bU)) (kI 0)) [some b.d,some s.d]=some (.bl (!decide (s.mode=0))):=Dt (tU (k7 rfl rfl (w0 s)) rfl e2)
 generalize b.modes.getD s.mode default=md at *
 have c3:yj (i5 k9 (i5 k9 (i5 k9 (e9 0) (kI 2)) (i5 k9 (e9 1) (fun _=>some bU))) (kI 1)) [some b.d,some s.d]=some (.bl !md.stays):=by
  show(i5 k9 _ _ _).bind _=_
  rw[k7 (k7 (k7 rfl rfl (b2 b)) (k7 rfl rfl (w0 s)) hm) rfl (m1 md)];rfl
 generalize decide (0<b.back)=p at *
 generalize (!decide (s.mode=0))=q at *
 cases p
 ·exact n9 (retS (DU c1))
 ·cases q
  ·exact n9 (retS (KJ c1 (DU c2)))
  ·exact n9 (retS (KJ c1 (KJ c2 c3)))
def ic:R->Option Out:=
 (n6 (i4 DD (e8 (kI 1) (e8 (i5 vE (i5 k9 (e9 0) (kI 0)) (i5 k9 (i5 k9 (e9 1) (fun _=>some aX)) (kI 1))) i3))))
def bC:LD->OD:=via 2 2 ic
theorem ik{b:Bk}{s:WS}{x:vI}{k:Int}(h:s.held=some (x,some k)):bC [b.d,s.d]=some (.int (mx 1 (b.hold - k))):=by
 have e6:=w6 s
 rw[h] at e6
 exact n9 (retS (i8 (l9 rfl (l9 (k7 (k7 rfl rfl (b0 b)) (k7 (k7 rfl rfl e6) rfl (h1 x (some k))) rfl) rfl)) (Mm _ _)))
def lc:R->Option Out:=
  (n4 (l6 (i5 k9 (e9 1) (fun _=>some aX)) (setAt 2))
  (n4 (yD (l4 zT (e9 2) (fun _=>some .non))
  (n6 (FO (u_ (i4 cG (e8 (e9 0) (e8 (e9 1) i3)))) (i4 bc (e8 (e9 0) (e8 (e9 1) i3))) (fun _=>some .non)))
  ub)
  (n6 (FO (l4 zT (i5 k9 (e9 2) (kI 1)) (fun _=>some .non)) (fun _=>some .non) (i4 bC (e8 (e9 0) (e8 (e9 1) i3)))))))
def bL:LD->OD:=via 2 3 lc
theorem h_{b:Bk}{s:WS}(w:s.Wk b):bL [b.d,s.d]=some (ue (l7 b s)):=by
 have e1:=lA w
 have e2:=eB b s
 have e6:=w6 s
 unfold l7
 rcases hs:s.held with _ | ⟨x,_ | k⟩<;>rw[hs] at e6
 ·cases hg:tO b s<;>rw[hg] at e1
  ·exact n9 ((m9 (p7 (k7 rfl rfl e6) rfl)).trans (wt ((zQ rfl).trans (retS (JD (zR (i8 rfl e1)) rfl)))))
  ·exact n9 ((m9 (p7 (k7 rfl rfl e6) rfl)).trans (wt ((zQ rfl).trans (retS (Jk (zR (i8 rfl e1)) (i8 rfl e2))))))
 ·exact n9 ((m9 (p7 (k7 rfl rfl e6) rfl)).trans ((m9 (yd rfl)).trans (retS (Jk rfl rfl))))
 ·have e3:=ik (b:=b) hs
  exact n9 ((m9 (p7 (k7 rfl rfl e6) rfl)).trans ((m9 (yd rfl)).trans (retS (JD rfl (i8 rfl e3)))))
def pR:R->Option Out:=
  (n4 (l6 (i5 k9 (e9 1) (fun _=>some aX)) (setAt 2))
  (n4 (yD (l4 zT (e9 2) (fun _=>some .non))
  (n6 (i4 aH (e8 (e9 1) (e8 (fun _=>some bU) (e8 (kI 0) i3)))))
  ub)
  (n6 (i4 bA (e8 (e9 0) (e8 (i4 aH (e8 (e9 1) (e8 (fun _=>some aX) (e8 (l5 (e8 (i5 k9 (e9 2) (kI 0)) (e8 (fun _=>some .non) i3))) i3)))) (e8 (Fi KM (i5 k9 (e9 2) (kI 0))) i3)))))))
def eK:LD->OD:=via 2 3 pR
theorem Nu(x:vI):KM (.str x.x)=some (.str x.X):=by cases x<;>rfl
theorem KP(x:vI):GD (.str x.x)=some (.str x.x):=by cases x<;>rfl
theorem KD(x:vI):GD (.str x.X)=some (.str x.x):=by cases x<;>rfl
theorem AC{b:Bk}{s:WS}(h:s.held=none):turned b s={s with mode:=0}:=by
 unfold turned
 split
 ·rfl
 ·rename_i e;rw[h] at e;cases e
theorem Ee{b:Bk}{s:WS}{x:vI}{k:Option Int}(h:s.held=some (x,k)):turned b s=press b {s with held:=some (x,none)} (x.ix+3):=by
 unfold turned
 split
 ·rename_i e;rw[h] at e;cases e
 ·rename_i e;rw[h] at e;cases e;rfl
theorem qB{b:Bk}{s:WS}(ok:b.Ok)(w:s.Wk b):eK [b.d,s.d]=some (turned b s).d:=by
 have e6:=w6 s
 rcases hs:s.held with _ | ⟨x,k⟩<;>rw[hs] at e6
 ·rw[AC hs]
  exact n9 ((m9 (p7 (k7 rfl rfl e6) rfl)).trans (wt ((zQ rfl).trans (retS (i8 rfl (PP s 0))))))
 ·have e:=f_ (s:={s with held:=some (x,none)}) ok {w with} x.ix3 (NF x)
  rw[Ee hs]
  exact n9 ((m9 (p7 (k7 rfl rfl e6) rfl)).trans ((m9 (yd rfl)).trans (retS (i8 (l9 rfl (l9 (i8 (l9 rfl (l9 rfl (l9 (tupS (l9 (k7 rfl rfl (h0 x k)) rfl)) rfl))) (Oq s x)) (l9 (NI (k7 rfl rfl (h0 x k)) (Nu x)) rfl))) e))))
def fE:R->Option Out:=
 (n6 (i4 eK (e8 (e9 0) (e8 (i4 cA (e8 (e9 0) (e8 (e9 1) (e8 (i4 bL (e8 (e9 0) (e8 (e9 1) i3))) i3)))) i3))))
def bG:LD->OD:=via 2 2 fE
theorem qF{b:Bk}{s:WS}{t:Int}(ok:b.Ok)(w:s.Wk b)(h:l7 b s=some t):bG [b.d,s.d]=some (behind b s t).d:=by
 have e1:=h_ w
 rw[h] at e1
 have ht:=vp h
 have e2:=gx (s:=s) t ok.back0
 have e3:=qB ok (w.cnt (n:=t) (by omega))
 simp only[ue] at e1
 simp[bG,via,fE,e1,e2,e3,behind]
def lJ:R->Option Out:=
  (n4 (l6 (i4 bL (e8 (e9 0) (e8 (e9 1) i3))) (setAt 3))
  (n4 (yD (IW (l4 zT (e9 3) (fun _=>some .non)) (l4 AT (e9 3) (e9 2)))
  (n6 (BB (e8 (l5 (e8 (kI 0) (e8 (e9 1) (e8 (e9 2) i3)))) i3)))
  ub)
  (n6 (BB (e8 (l5 (e8 (kI 0) (e8 (e9 1) (e8 (e9 3) i3)))) (e8 (l5 (e8 (e9 3) (e8 (i4 bG (e8 (e9 0) (e8 (e9 1) i3))) (e8 (i5 vE (e9 2) (e9 3)) i3)))) i3))))))
def bp:LD->OD:=via 3 4 lJ
def vJ(b:Bk)(s:WS)(n:Int):LD:=match l7 b s with
 | none=>[.tup [.int 0,s.d,.int n]]
 | some t=>if n<t then [.tup [.int 0,s.d,.int n]] else [.tup [.int 0,s.d,.int t],.tup [.int t,(behind b s t).d,.int (n - t)]]
theorem hZ{b:Bk}{s:WS}(n:Int)(ok:b.Ok)(w:s.Wk b):bp [b.d,s.d,.int n]=some (.lst (vJ b s n)):=by
 have e1:=h_ w
 unfold vJ
 cases h:l7 b s with
 | none =>
  rw[h] at e1
  exact n9 ((m9 (p7 (i8 rfl e1) rfl)).trans (wt ((zQ (Pk rfl)).trans (retS rfl))))
 | some t =>
  have e2:=qF ok w h
  rw[h] at e1
  dsimp only
  by_cases hn:n<t
  ·rw[if_pos hn]
   exact n9 ((m9 (p7 (i8 rfl e1) rfl)).trans (wt ((zQ (Mc rfl (tU rfl rfl (dT hn)))).trans (retS rfl))))
  ·rw[if_neg hn]
   exact n9 ((m9 (p7 (i8 rfl e1) rfl)).trans ((m9 (yd (Mc rfl (tU rfl rfl (dF hn))))).trans (retS (JT (l9 rfl (l9 (tupS (l9 rfl (l9 (i8 rfl e2) rfl))) rfl))))))
def pA:R->Option Out:=
  (n4 (l6 (i5 k9 (i4 bp (e8 (e9 0) (e8 (e9 1) (e8 (e9 2) i3)))) (Fi MX (kI 1))) (setAt 3))
  (n6 (i4 cA (e8 (e9 0) (e8 (i5 k9 (e9 3) (kI 1)) (e8 (i5 k9 (e9 3) (kI 2)) i3))))))
def eG:LD->OD:=via 3 4 pA
theorem qA{b:Bk}{s:WS}(n:Int)(ok:b.Ok)(w:s.Wk b):eG [b.d,s.d,.int n]=some (ticked b s n).d:=by
 have e1:=hZ n ok w
 unfold vJ at e1
 unfold ticked
 have e2:=gx (s:=s) n ok.back0
 cases h:l7 b s with
 | none =>
  rw[h] at e1
  exact n9 ((m9 (p7 (k7 (i8 rfl e1) rfl rfl) rfl)).trans (retS (i8 rfl e2)))
 | some t =>
  rw[h] at e1
  dsimp only at e1 ⊢
  have e3:=gx (s:=behind b s t) (n - t) ok.back0
  by_cases hn:n<t
  ·rw[if_pos hn] at e1 ⊢
   exact n9 ((m9 (p7 (k7 (i8 rfl e1) rfl rfl) rfl)).trans (retS (i8 rfl e2)))
  ·rw[if_neg hn] at e1 ⊢
   exact n9 ((m9 (p7 (k7 (i8 rfl e1) rfl rfl) rfl)).trans (retS (i8 rfl e3)))
def sr:R->Option Out:=
  (n4 (yD (l4 uW (i5 k9 (e9 2) (kI 0)) (kS "down"))
  (n6 (i4 fo (e8 (e9 1) (e8 (i5 k9 (e9 2) (kI 1)) i3))))
  ub)
  (n4 (yD (l4 uW (i5 k9 (e9 2) (kI 0)) (kS "up"))
  (n6 (i4 eU (e8 (e9 0) (e8 (e9 1) (e8 (i5 k9 (e9 2) (kI 1)) i3)))))
  ub)
  (n6 (i4 eG (e8 (e9 0) (e8 (e9 1) (e8 (i5 k9 (e9 2) (kI 1)) i3)))))))
def dt:LD->OD:=via 3 3 sr
theorem Lu:uW (.str (oS "down")) (.str (oS "down"))=some true:=rfl
theorem K8:uW (.str (oS "up")) (.str (oS "down"))=some false:=rfl
theorem Lq:uW (.str (oS "ticks")) (.str (oS "down"))=some false:=rfl
theorem EU:uW (.str (oS "up")) (.str (oS "up"))=some true:=rfl
theorem LZ:uW (.str (oS "ticks")) (.str (oS "up"))=some false:=rfl
theorem mB{b:Bk}{s:WS}(ok:b.Ok)(w:s.Wk b)(e:Ev):dt [b.d,s.d,e.d]=some (gone b s e).d:=by
 cases e with
 | down x=>exact n9 (wt ((zQ (tU rfl rfl Lu)).trans (retS (i8 rfl (pc s x)))))
 | up x=>exact n9 ((m9 (yd (tU rfl rfl K8))).trans (wt ((zQ (tU rfl rfl EU)).trans (retS (i8 rfl (qi ok w x))))))
 | ticks n=>exact n9 ((m9 (yd (tU rfl rfl Lq))).trans ((m9 (yd (tU rfl rfl LZ))).trans (retS (i8 rfl (qA n ok w)))))
def hW:R->Option Out:=
 (l6 (i4 dt (e8 (e9 0) (e8 (e9 1) (e8 (e9 3) i3)))) (setAt 1))
def gM:R->Option Out:=hW
def gy:R->Option Out:=
 (Ar (ve (e9 2)) (setAt 3) gM)
def jP:R->Option Out:=
 (n6 (e9 1))
def qP:R->Option Out:=
 (n4 gy jP)
def cE:LD->OD:=via 3 4 qP
theorem Bj{b:Bk}(ok:b.Ok)(rw_:OD):∀(es:List Ev) (s:WS) (o:OD),s.Ok b->(∀e∈es,e.Ok) ->
  ∃o',zH (setAt 3) gM (es.map Ev.d) [some b.d,some s.d,rw_,o]=some (.nx [some b.d,some (v9 b s es).d,rw_,o'])
 | [],s,o,_,_=>⟨o,rfl⟩
 | e::es,s,o,w,h=>by
  obtain⟨o',ih⟩:=Bj ok rw_ es (gone b s e) (some e.d) (xH ok w e (h e List.mem_cons_self)) fun x hx=>h x (List.mem_cons_of_mem _ hx)
  refine⟨o',?_⟩
  rw[List.map_cons,Dm (ρ1:=[some b.d,some s.d,rw_,some e.d]) rfl (ρ2:=[some b.d,some (gone b s e).d,rw_,some e.d]) (by simp[gM,hW,mB ok w.toWk e]),ih]
  rfl
theorem kL{b:Bk}{s:WS}(ok:b.Ok)(w:s.Ok b)(es:List Ev)(h:∀e∈es,e.Ok):cE [b.d,s.d,.tup (es.map Ev.d)]=some (v9 b s es).d:=by
 obtain⟨o',e⟩:=Bj ok (some (.tup (es.map Ev.d))) es s none w h
 have e1:gy [some b.d,some s.d,some (.tup (es.map Ev.d)),none]=_:=zl rfl e
 show(if (3:Nat)=3 then xX (n4 gy jP [some b.d,some s.d,some (.tup (es.map Ev.d)),none]) else none)=_
 rw[if_pos rfl,m9 e1]
 rfl
def ri:R->Option Out:=
  (n4 (l6 (l5 (e8 (kI 0) (e8 (kI 0) (e8 (fun _=>some (.bl false)) i3)))) (setAt 1))
  (n4 (l6 (l5 (e8 (kI 0) (e8 (fun _=>some (.bl false)) (e8 (l5 i3) i3)))) (setAt 2))
  (n4 (l6 (l5 (e8 (kI 0) (e8 (kI 0) (e8 (kI 0) (e8 (fun _=>some (.bl false)) i3))))) (setAt 3))
  (n6 (l5 (e8 (kI 0) (e8 (kI 0) (e8 (e9 1) (e8 (e9 2) (e8 (e9 3) (e8 (kI 0) (e8 (fun _=>some .non) (e8 (kI 0) i3)))))))))))))
def cD:LD->OD:=via 1 4 ri
theorem iC(b:D):cD [b]=some tm.d:=n9 ((m9 (p7 rfl rfl)).trans ((m9 (p7 rfl rfl)).trans ((m9 (p7 rfl rfl)).trans (retS rfl))))
def eY:R->Option Out:=
  (n4 (l6 (Fi GD (e9 1)) (setAt 2))
  (n4 (yD (l4 uW (e9 1) (e9 2))
  (n6 (l5 (e8 (l5 (e8 (kS "down") (e8 (e9 2) i3))) (e8 (l5 (e8 (kS "up") (e8 (e9 2) i3))) i3))))
  ub)
  (n6 (l5 (e8 (l5 (e8 (kS "down") (e8 (e9 2) i3))) (e8 (l5 (e8 (kS "ticks") (e8 (i5 k9 (e9 0) (kI 0)) i3))) (e8 (l5 (e8 (kS "up") (e8 (e9 2) i3))) i3)))))))
def bP:LD->OD:=via 2 3 eY
theorem Np(x:vI):uW (.str x.X) (.str x.x)=some false:=by cases x<;>rfl
theorem MB(x:vI):uW (.str x.x) (.str x.x)=some true:=by cases x<;>rfl
theorem lD(b:Bk)(p:Pr):bP [b.d,.str (Pr.x p)]=some (.tup ((Pr.evs b p).map Ev.d)):=by
 obtain⟨x,l⟩:=p
 cases l
 ·simp[-k9,-uW,-CZ,bP,via,eY,Pr.x,Pr.evs,KP,MB,Ev.d]
 ·simp[-k9,-uW,-CZ,bP,via,eY,Pr.x,Pr.evs,KD,Np,b0,Ev.d]
def fF:R->Option Out:=
 (l6 (i4 cE (e8 (e9 0) (e8 (e9 1) (e8 (i4 bP (e8 (e9 0) (e8 (e9 3) i3))) i3)))) (setAt 1))
def fh:R->Option Out:=fF
def eJ:R->Option Out:=
 (Ar (ve (e9 2)) (setAt 3) fh)
def g_:R->Option Out:=
 (n6 (e9 1))
def oN:R->Option Out:=
 (n4 eJ g_)
def bF:LD->OD:=via 3 4 oN
theorem zC{b:Bk}(ok:b.Ok)(t:OD):∀(ps:List Pr) (s:WS) (o:OD),s.Ok b ->
  ∃o',zH (setAt 3) fh (ps.map fun p=>.str (Pr.x p)) [some b.d,some s.d,t,o]=some (.nx [some b.d,some (vq b s ps).d,t,o'])
 | [],s,o,_=>⟨o,rfl⟩
 | p::ps,s,o,w=>by
  obtain⟨o',ih⟩:=zC ok t ps (zZ b s p) (some (.str (Pr.x p))) (Ci ok w p)
  refine⟨o',?_⟩
  have e:=kL ok w (Pr.evs b p) (ET ok p)
  rw[List.map_cons,Dm (ρ1:=[some b.d,some s.d,t,some (.str (Pr.x p))]) rfl (ρ2:=[some b.d,some (zZ b s p).d,t,some (.str (Pr.x p))]) (by simp[fh,fF,lD,e,zZ]),ih]
  rfl
theorem fz{b:Bk}{s:WS}(ok:b.Ok)(w:s.Ok b)(ps:List Pr):bF [b.d,s.d,.str (m8 ps)]=some (vq b s ps).d:=by
 obtain⟨o',e⟩:=zC ok (some (.str (m8 ps))) ps s none w
 have hi:ve (e9 2) [some b.d,some s.d,some (.str (m8 ps)),none]=some (ps.map fun p=>.str (Pr.x p)):=by
  show(if (m8 ps).cps.all (·<128) then some (chars (m8 ps)) else none)=_
  rw[if_pos (zw ps),zE]
 have e1:eJ [some b.d,some s.d,some (.str (m8 ps)),none]=_:=zl hi e
 show(if (3:Nat)=3 then xX (n4 eJ g_ [some b.d,some s.d,some (.str (m8 ps)),none]) else none)=_
 rw[if_pos rfl,m9 e1]
 rfl
def oi:R->Option Out:=
  (Fc 1 i3
  (wB (yV (GQ (l4 Ml (e9 0) (fun _=>some dL))))
  (wB (A_ 1 (i4 Ez (e8 (e9 0) i3)))
  (yW (n6 (i4 Dd (e8 (kS "") (e8 (e9 1) i3))))))))
def cx:LD->OD:=via 1 2 oi
def tx(i:Int):Str:=Str.ofString (toString i)
theorem CF{n:Int}(h0:0<=n)(h1:n<1000000000000000000):n.natAbs.log2<1920:=by
 have h2:n.natAbs<2 ^ 60:=by omega
 by_cases hz:n.natAbs=0
 ·rw[hz];decide
 ·have:=(Nat.log2_lt hz).mpr h2;omega
theorem DE{n:Int}(h0:0<=n)(h1:n<1000000000000000000):(tx n).length<=1921:=PyProof.Rows.int_text_len_1921 (CF h0 h1)
theorem Kz{n:Int}(h0:0<=n)(h1:n<1000000000000000000):Ez [.int n]=some (.str (tx n)):=if_pos (CF h0 h1)
theorem ND{x:Str}(h:x.length<=100000):Dd [.str (oS ""),.lst [.str x]]=some (.str x):=by
 have z:100000<=sizeLine:=by decide
 have e:(oS "").length=0:=by decide +kernel
 show(Au (oS "") [x]).map D.str=_
 unfold Au
 rw[if_pos]
 ·rfl
 ·constructor
  ·show 0+x.length+(oS "").length<=sizeLine
   rw[e];omega
  ·show x.length<=sizeLine
   omega
theorem jO{n:Int}(h0:0<=n)(h1:n<1000000000000000000):cx [.int n]=some (.str (tx n)):=by
 have hw:GQ (l4 Ml (e9 0) (fun _=>some dL)) [some (.int n)]=some (.nx [some (.int n)]):=by
  have:¬ (1000000000000000000:Int)<=n:=by omega
  simp[dL,this]
 have hs:=Kz h0 h1
 have hj:=ND (x:=tx n) (Nat.le_trans (DE h0 h1) (by decide))
 have z:0<sizeLine:=by decide
 have a1:yV (GQ (l4 Ml (e9 0) (fun _=>some dL))) [some (.int n)] []=some (.nx [some (.int n)],[]):=by
  show(GQ _ _).map _=_
  rw[hw];rfl
 have a2:A_ 1 (i4 Ez (e8 (e9 0) i3)) [some (.int n)] []=some (.nx [some (.int n)],[.str (tx n)]):=by
  show((Ez [.int n]).bind _)=_
  rw[hs]
  show(if 1=1/\0<sizeLine then _ else none)=_
  rw[if_pos ⟨rfl,z⟩];rfl
 show xX (wB (yV (GQ (l4 Ml (e9 0) (fun _=>some dL)))) _ [some (.int n)] [])=_
 rw[Ku a1,Ku a2]
 show xX ((Dd [.str (oS ""),.lst [.str (tx n)]]).map .rt)=_
 rw[hj];rfl
def jE:R->Option Out:=
 (n6 (i4 Nm (e8 (i4 cx (e8 (e9 0) i3)) (e8 (kI 2) (e8 (kS "0") i3)))))
def aR:LD->OD:=via 1 1 jE
def IY(n:Int):Str:=KH (tx n) 2 48
theorem yA{n:Int}(h0:0<=n)(h1:n<1000000000000000000):(IY n).length<=1921:=by
 unfold IY KH
 have:=DE h0 h1
 split
 ·exact this
 ·show(Array.replicate _ _++(tx n).cps++Array.replicate _ _).size<=_
  have e:(tx n).cps.size=(tx n).length:=rfl
  simp
  omega
theorem cC{n:Int}(h0:0<=n)(h1:n<1000000000000000000):aR [.int n]=some (.str (IY n)):=by
 have hf:Nm [.str (tx n),.int 2,.str (oS "0")]=some (.str (IY n)):=by
  have e:(oS "0").length=1:=by decide +kernel
  have e2:(oS "0").cps.getD 0 0=48:=by decide +kernel
  show(if (0:Int)<=2/\(2:Int)<=1000/\(oS "0").length=1 then some (D.str (KH (tx n) (2:Int).toNat ((oS "0").cps.getD 0 0))) else none)=_
  rw[if_pos ⟨by decide,by decide,e⟩,e2];rfl
 exact n9 (retS (i8 (l9 (i8 rfl (jO h0 h1)) rfl) hf))
def lz:R->Option Out:=
 (n6 (i5 l8 (i5 l8 (i4 aR (e8 (e9 0) i3)) (kS ":")) (i4 aR (e8 (e9 1) i3))))
def bS:LD->OD:=via 2 2 lz
theorem Dr{x y:Str}(h:x.length+y.length<=100000):l8 (.str x) (.str y)=some (.str (x++y)):=by
 have z:100000<=sizeLine:=by decide
 show(if x.length+y.length<=sizeLine then _ else none)=_
 rw[if_pos (by omega)]
theorem wW(x y:Str):(x++y).length=x.length+y.length:=by
 show(x.cps++y.cps).size=_
 simp;rfl
def colon:Str:=oS ":"
theorem vf:colon.length=1:=by decide +kernel
def AA(h m:Int):Str:=IY h++colon++IY m
theorem Cv{h m:Int}(a0:0<=h)(a1:h<1000000000000000000)(b0:0<=m)(b1:m<1000000000000000000):(AA h m).length<=3843:=by
 unfold AA
 rw[wW,wW,vf]
 have:=yA a0 a1
 have:=yA b0 b1
 omega
theorem hU{h m:Int}(a0:0<=h)(a1:h<1000000000000000000)(b0:0<=m)(b1:m<1000000000000000000):bS [.int h,.int m]=some (.str (AA h m)):=by
 have l1:=yA a0 a1
 have l2:=yA b0 b1
 refine n9 (retS (k7 (k7 (i8 rfl (cC a0 a1)) rfl (Dr ?_)) (i8 rfl (cC b0 b1)) (Dr ?_)))
 ·rw[show(oS ":").length=1 from vf];omega
 ·rw[wW,show(oS ":").length=1 from vf];omega
def kc:R->Option Out:=
  (n4 (l6 (i5 k9 (e9 0) (fun _=>some bg)) (setAt 1))
  (n6 (i5 l8 (i4 bS (e8 (i5 k9 (e9 1) (kI 0)) (e8 (i5 k9 (e9 1) (kI 1)) i3))) (FO (u_ (i5 k9 (e9 1) (kI 2))) (kS " on") (kS "")))))
def ci:LD->OD:=via 1 2 kc
def MD:Str:=oS " on"
theorem Jx:MD.length=3:=by decide +kernel
theorem DY:(oS "").length=0:=by decide +kernel
def Ih(s:WS):Str:=AA s.ah s.am++(if s.aon then MD else oS "")
theorem kF{b:Bk}{s:WS}(w:s.Wk b):ci [s.d]=some (.str (Ih s)):=by
 have a0:=w.ah0
 have a1:s.ah<1000000000000000000:=by have:=w.ah1;omega
 have b0:=w.am0
 have b1:s.am<1000000000000000000:=by have:=w.am1;omega
 have l:=Cv a0 a1 b0 b1
 have hon:∀(o:Bool) (ρ:R),(u_ (i5 k9 (e9 1) (kI 2))) ρ=some o->(FO (u_ (i5 k9 (e9 1) (kI 2))) (kS " on") (kS "")) ρ=some (.str (if o then MD else oS "")):=fun o ρ h=>by
  cases o
  ·exact JD h rfl
  ·exact Jk h rfl
 refine n9 ((m9 (p7 (k7 rfl rfl (w2 s)) rfl)).trans (retS (k7 (i8 (l9 (k7 rfl rfl (ML s)) (l9 (k7 rfl rfl (Na s)) rfl)) (hU a0 a1 b0 b1)) (hon s.aon _ (zR (k7 rfl rfl (Nz s)))) (Dr ?_))))
 cases s.aon
 ·show(AA s.ah s.am).length+(oS "").length<=_
  rw[DY];omega
 ·show(AA s.ah s.am).length+MD.length<=_
  rw[Jx];omega
def jD:R->Option Out:=
 (n6 (i5 l8 (i5 l8 (i4 cx (e8 (i5 vn (e9 0) (kI 60)) i3)) (kS ":")) (i4 aR (e8 (i5 tG (e9 0) (kI 60)) i3))))
def bu:LD->OD:=via 1 1 jD
def E9(s:Int):Str:=tx (s / 60)++colon++IY (s%60)
theorem fD{s:Int}(a0:0<=s)(a1:s<1000000000000000000):bu [.int s]=some (.str (E9 s))/\(E9 s).length<=3843:=by
 have c0:0<=s / 60:=by omega
 have c1:s / 60<1000000000000000000:=by omega
 have d0:0<=s%60:=by omega
 have d1:s%60<1000000000000000000:=by omega
 have l1:=DE c0 c1
 have l2:=yA d0 d1
 constructor
 ·refine n9 (retS (k7 (k7 (i8 (l9 (k7 rfl rfl rfl) rfl) (jO c0 c1)) rfl (Dr ?_)) (i8 (l9 (k7 rfl rfl (modS (by decide))) rfl) (cC d0 d1)) (Dr ?_)))
  ·rw[show(oS ":").length=1 from vf];omega
  ·rw[wW,show(oS ":").length=1 from vf];omega
 ·unfold E9
  rw[wW,wW,vf];omega
def kH:R->Option Out:=
 (n6 (i4 bu (e8 (i5 k9 (i5 k9 (e9 0) (fun _=>some aT)) (kI 2)) i3)))
def cc:LD->OD:=via 1 1 kH
theorem kt{b:Bk}{s:WS}(w:s.Wk b):cc [s.d]=some (.str (E9 s.cl)):=by
 have a0:=w.cl0
 have a1:s.cl<1000000000000000000:=by have:=w.cl1;omega
 exact n9 (retS (i8 (l9 (k7 (k7 rfl rfl (w4 s)) rfl (N9 s)) rfl) (fD a0 a1).1))
def lp:R->Option Out:=
  (n4 (l6 (i5 k9 (e9 0) (fun _=>some bZ)) (setAt 1))
  (n4 (l6 (i4 C5 (e8 (i5 k9 (e9 1) (kI 2)) i3)) (setAt 2))
  (n6 (i5 l8 (i4 bu (e8 (i5 k9 (e9 1) (kI 0)) i3)) (FO (l4 AT (e9 2) (kI 0)) (i5 l8 (kS " +") (i4 Ez (e8 (e9 2) i3))) (kS ""))))))
def cF:LD->OD:=via 1 3 lp
def HF:Str:=oS " +"
theorem Cs:HF.length=2:=by decide +kernel
def DV(n:Nat):Str:=if 0<n then HF++tx n else oS ""
def Kx(s:WS):Str:=E9 s.lm++DV s.lk.length
theorem lM{b:Bk}{s:WS}(w:s.Wk b)(hl:s.lm<1000000000000000000):cF [s.d]=some (.str (Kx s)):=by
 have a0:=w.lm0
 obtain⟨e,l⟩:=fD a0 hl
 have hk:=w.lk
 have k0:(0:Int)<=(s.lk.length:Int):=by omega
 have k1:(s.lk.length:Int)<1000000000000000000:=by omega
 have l2:=DE k0 k1
 have hlen:i4 C5 (e8 (i5 k9 (e9 1) (kI 2)) i3) [some s.d,some s.lapsD,none]=some (.int (s.lk.length:Int)):=i8 (l9 (k7 rfl rfl (Nn s)) rfl) (by simp)
 have hm:(FO (l4 AT (e9 2) (kI 0)) (i5 l8 (kS " +") (i4 Ez (e8 (e9 2) i3))) (kS "")) [some s.d,some s.lapsD,some (.int (s.lk.length:Int))]=some (.str (DV s.lk.length)):=by
  unfold DV
  by_cases h:0<s.lk.length
  ·rw[if_pos h]
   exact Jk (tU rfl rfl (dT (by omega))) (k7 rfl (i8 rfl (Kz k0 k1)) (Dr (by rw[show(oS " +").length=2 from Cs];omega)))
  ·rw[if_neg h]
   exact JD (tU rfl rfl (dF (by omega))) rfl
 refine n9 ((m9 (p7 (k7 rfl rfl (w3 s)) rfl)).trans ((m9 (p7 hlen rfl)).trans (retS (k7 (i8 (l9 (k7 rfl rfl (MT s)) rfl) e) hm (Dr ?_)))))
 unfold DV
 split
 ·rw[wW,Cs];omega
 ·rw[DY];omega
def lW:R->Option Out:=
  (n4 (l6 (i5 k9 (e9 0) (fun _=>some ba)) (setAt 1))
  (n6 (i5 l8 (i5 l8 (i4 bS (e8 (i5 vn (e9 1) (kI 3600)) (e8 (i5 tG (i5 vn (e9 1) (kI 60)) (kI 60)) i3))) (kS ":")) (i4 aR (e8 (i5 tG (e9 1) (kI 60)) i3)))))
def cI:LD->OD:=via 1 2 lW
def KG(s:WS):Str:=AA (s.clock / 3600) (s.clock / 60%60)++colon++IY (s.clock%60)
theorem li{b:Bk}{s:WS}(w:s.Wk b):cI [s.d]=some (.str (KG s)):=by
 have c0:=w.clock0
 have c1:=w.clock1
 have l1:=Cv (h:=s.clock / 3600) (m:=s.clock / 60%60) (by omega) (by omega) (by omega) (by omega)
 have l2:=yA (n:=s.clock%60) (by omega) (by omega)
 refine n9 ((m9 (p7 (k7 rfl rfl (w1 s)) rfl)).trans (retS (k7 (k7 (i8 (l9 (k7 rfl rfl rfl) (l9 (k7 (k7 rfl rfl rfl) rfl (modS (by decide))) rfl)) (hU (h:=s.clock / 3600) (m:=s.clock / 60%60) (by omega) (by omega) (by omega) (by omega))) rfl (Dr ?_)) (i8 (l9 (k7 rfl rfl (modS (by decide))) rfl) (cC (n:=s.clock%60) (by omega) (by omega))) (Dr ?_))))
 ·rw[show(oS ":").length=1 from vf];omega
 ·rw[wW,show(oS ":").length=1 from vf];omega
def vt:List (Str×(LD->OD)):=[(oS "time",cI),(oS "alarm",ci),(oS "laps",cF),(oS "count",cc)]
def rB:R->Option Out:=
  (n4 (l6 (i5 k9 (i5 k9 (i5 k9 (e9 0) (kI 2)) (i5 k9 (e9 1) (fun _=>some bU))) (kI 0)) (setAt 2))
  (Mg 3 vt (e9 2) (fun G_=>(n6 (l5 (e8 (e9 2) (e8 (i4 G_ (e8 (e9 1) i3)) (e8 (x5 (l4 AT (i5 k9 (e9 1) (fun _=>some dY)) (kI 0))) i3))))))))
def df:LD->OD:=via 2 4 rB
def FY(f:Face)(s:WS):Str:=match f with
 | .time=>KG s
 | .alarm=>Ih s
 | .laps=>Kx s
 | .count=>E9 s.cl
theorem CV{b:Bk}{s:WS}(w:s.Wk b)(hl:s.lm<1000000000000000000)(f:Face):∃F,vt.lookup f.x=some F/\F [s.d]=some (.str (FY f s)):=by
 cases f
 ·exact⟨_,rfl,li w⟩
 ·exact⟨_,rfl,kF w⟩
 ·exact⟨_,rfl,lM w hl⟩
 ·exact⟨_,rfl,kt w⟩
theorem nw{b:Bk}{s:WS}(w:s.Wk b)(hl:s.lm<1000000000000000000):df [b.d,s.d]=some (.tup [.str (b.modes.getD s.mode default).face.x,.str (FY (b.modes.getD s.mode default).face s),.bl (decide (0<s.ring))]):=by
 have hm:=gh b w.mode
 generalize b.modes.getD s.mode default=md at *
 obtain⟨F,h1,h2⟩:=CV w hl md.face
 have q1:l6 (i5 k9 (i5 k9 (i5 k9 (e9 0) (kI 2)) (i5 k9 (e9 1) (fun _=>some bU))) (kI 0)) (setAt 2) [some b.d,some s.d,none,none]=some (.nx [some b.d,some s.d,some (.str md.face.x),none]):=
  p7 (k7 (k7 (k7 rfl rfl (b2 b)) (k7 rfl rfl (w0 s)) hm) rfl (m0 md)) rfl
 refine n9 ((m9 q1).trans ?_)
 simp[-k9,Mg,h1,h2,dY,w5]
def zP:R->LD->Option (Out×LD):=
 (yV (l6 (i4 dt (e8 (e9 0) (e8 (e9 2) (e8 (e9 3) i3)))) (setAt 2)))
def zG:R->LD->Option (Out×LD):=
 (A_ 4 (i4 df (e8 (e9 0) (e8 (e9 2) i3))))
def zc:R->LD->Option (Out×LD):=(B7 zP zG)
def pW:R->Option Out:=
 (l6 (i4 cD (e8 (e9 0) i3)) (setAt 2))
def BF:R->LD->Option (Out×LD):=
 (FD (ve (e9 1)) (setAt 3) zc)
def lR:R->Option Out:=
 (n6 (i4 Ac (e8 (e9 4) i3)))
def sf:R->Option Out:=
 (n4 pW (Fc 4 i3 (wB BF (yW lR))))
def iZ:LD->OD:=via 2 5 sf
def vM(b:Bk)(s:WS):D:=.tup [.str (b.modes.getD s.mode default).face.x,.str (FY (b.modes.getD s.mode default).face s),.bl (decide (0<s.ring))]
def sights(b:Bk):WS->List Ev->LD
 | _,[]=>[]
 | s,e::es=>vM b (gone b s e)::sights b (gone b s e) es
def J7:Ev->Int
 | .ticks n=>n
 | _=>0
def Di:List Ev->Int
 | []=>0
 | e::es=>J7 e+Di es
theorem FZ(d:uY){s:WS}(h:0<=s.lm):(deed d s).lm<=s.lm:=by
 cases d<;>simp[deed,xU]<;>(repeat' split)<;>first | exact Int.le_refl _ | exact h
theorem AW(s:WS){n:Int}(h:0<=n):tQ s n<=s.lm+n:=by unfold tQ;split<;>omega
theorem GS{b:Bk}{s:WS}(h:0<=s.lm):(turned b s).lm<=s.lm:=by
 unfold turned
 split
 ·exact Int.le_refl _
 ·exact FZ _ h
theorem C7{b:Bk}{s:WS}(w:s.Wk b)(e:Ev)(he:e.Ok):(gone b s e).lm<=s.lm+J7 e:=by
 have h:=w.lm0
 cases e with
 | down x=>show(pushed s x).lm<=s.lm+0;unfold pushed;split<;>simp
 | up x =>
  show(letGo b s x).lm<=s.lm+0
  rw[Int.add_zero]
  unfold letGo
  split
  ·split
   ·split
    ·exact FZ _ h
    ·exact Int.le_refl _
   ·exact Int.le_refl _
  ·exact Int.le_refl _
 | ticks n =>
  have hn:1<=n:=he
  show(ticked b s n).lm<=s.lm+n
  unfold ticked
  split
  ·exact AW s (by omega)
  ·rename_i t ht
   have tp:=vp ht
   split
   ·exact AW s (by omega)
   ·have a1:=AW (behind b s t) (n:=n - t) (by omega)
    have a2:(behind b s t).lm<=(counted b s t).lm:=GS (w.cnt (n:=t) (by omega)).lm0
    have a3:(counted b s t).lm<=s.lm+t:=AW s (by omega)
    show tQ (behind b s t) (n - t)<=_
    omega
theorem Lg{st:D->R->Option R}{p:R->LD->Option (Out×LD)}{d:D}{es ds wU:LD}{ρ ρ1 ρ2:R}(h1:st d ρ=some ρ1)(h2:p ρ1 ds=some (.nx ρ2,wU)):zL st p (d::es) ρ ds=zL st p es ρ2 wU:=by simp[zL,h1,h2]
theorem GC{b:Bk}{s:WS}(ok:b.Ok)(w:s.Wk b){o1:OD}(e:Ev)(w2:(gone b s e).Wk b)(hl:(gone b s e).lm<1000000000000000000)(ds:LD)(hd:ds.length<=1000) :
  zc [some b.d,o1,some s.d,some e.d] ds=some (.nx [some b.d,o1,some (gone b s e).d,some e.d],ds++[vM b (gone b s e)]):=by
 have z:1001<=sizeLine:=by decide
 have q1:zP [some b.d,o1,some s.d,some e.d] ds=some (.nx [some b.d,o1,some (gone b s e).d,some e.d],ds):=by
  show(l6 _ _ _).map _=_
  rw[p7 (i8 rfl (mB ok w e)) rfl];rfl
 have q2:zG [some b.d,o1,some (gone b s e).d,some e.d] ds=some (.nx [some b.d,o1,some (gone b s e).d,some e.d],ds++[vM b (gone b s e)]):=by
  show(i4 df _ _).bind _=_
  rw[i8 rfl (nw w2 hl),Option.bind_some]
  exact if_pos ⟨rfl,by omega⟩
 show B7 _ _ _ ds=_
 unfold B7
 rw[q1,Option.bind_some]
 exact q2
theorem FJ:∀es:List Ev,(∀e∈es,e.Ok)->0<=Di es
 | [],_=>Int.le_refl _
 | e::es,h=>by
  have ih:=FJ es fun x hx=>h x (.tail _ hx)
  have he:=h e (.head _)
  have:0<=J7 e:=by
   cases e with
   | ticks n=>have:1<=n:=he;show 0<=n;omega
   | _=>exact Int.le_refl _
  show 0<=J7 e+Di es
  omega
theorem Cw{b:Bk}(ok:b.Ok)(o1:OD):∀(es:List Ev) (s:WS) (o:OD) (ds:LD),s.Ok b->(∀e∈es,e.Ok)->s.lm+Di es<1000000000000000000->ds.length+es.length<=1000 ->
  ∃s' o',zL (setAt 3) zc (es.map Ev.d) [some b.d,o1,some s.d,o] ds=some (.nx [some b.d,o1,s',o'],ds++sights b s es)
 | [],s,o,ds,_,_,_,_=>⟨some s.d,o,by show some (Out.nx _,ds)=some (Out.nx _,ds++[]);rw[List.append_nil]⟩
 | e::es,s,o,ds,w,h,hm,hl=>by
  have he:=h e (.head _)
  have w2:=xH ok w e he
  have hg:=C7 w.toWk e he
  have hm':s.lm+(J7 e+Di es)<1000000000000000000:=hm
  have hr:∀x∈es,x.Ok:=fun x hx=>h x (.tail _ hx)
  have hs:=FJ es hr
  rw[List.length_cons] at hl
  obtain⟨s',o',ih⟩:=Cw ok o1 es (gone b s e) (some e.d) (ds++[vM b (gone b s e)]) w2 hr (by omega) (by simp;omega)
  refine⟨s',o',?_⟩
  rw[List.map_cons,Lg rfl (GC ok w.toWk e w2.toWk (by omega) ds (by omega)),ih,List.append_assoc];rfl
theorem rS{b:Bk}(ok:b.Ok)(es:List Ev)(h:∀e∈es,e.Ok)(hm:Di es<1000000000000000000)(hl:es.length<=100):iZ [b.d,.tup (es.map Ev.d)]=some (.tup (sights b tm es)):=by
 obtain⟨s',o',e⟩:=Cw ok (some (.tup (es.map Ev.d))) es tm none [] (Bd ok) h (by show 0+Di es<_;omega) (by simp;omega)
 refine n9 ((m9 (p7 (i8 rfl (iC _)) rfl)).trans ?_)
 show wB BF (yW lR) [some b.d,some (.tup (es.map Ev.d)),some tm.d,none] []=_
 have q:BF [some b.d,some (.tup (es.map Ev.d)),some tm.d,none] []=some (.nx [some b.d,some (.tup (es.map Ev.d)),s',o'],sights b tm es):=e
 rw[Ku q]
 rfl
theorem cQ{x y:Str}(h1:tP (.str x)=true)(h2:tP (.str y)=true):tP (.str (x++y))=true:=by
 rw[tP] at *
 show(x.cps++y.cps).all _=true
 rw[Array.all_append,h1,h2];rfl
theorem DC(s:String):(Str.ofString s).cps.all (·<0x110000)=true:=by
 rw[PySem.Str.ofString_eq_toList]
 simp only[List.all_toArray,List.all_eq_true,List.mem_map]
 rintro x ⟨c,_,rfl⟩
 apply decide_eq_true
 show c.val.toNat<0x110000
 have v:c.val.toNat<0xd800\/(0xdfff<c.val.toNat/\c.val.toNat<0x110000):=c.valid
 omega
theorem mJ(n:Int):tP (.str (tx n))=true:=by
 rw[tP]
 exact DC _
theorem ip(n:Int):tP (.str (IY n))=true:=by
 have h:=mJ n
 rw[tP] at *
 unfold IY KH
 split
 ·exact h
 ·show(Array.replicate _ 48++(tx n).cps++Array.replicate _ 48).all _=true
  have r:∀k,(Array.replicate k 48).all (fun x=>decide (x<0x110000))=true:=by
   intro k
   rw[Array.all_eq_true]
   intro i hi
   simp
  rw[Array.all_append,Array.all_append,h,r,r];rfl
theorem gA:tP (.str colon)=true:=by rw[tP];decide +kernel
theorem nJ:tP (.str (oS ""))=true:=by rw[tP];decide +kernel
theorem rR:tP (.str MD)=true:=by rw[tP];decide +kernel
theorem pk:tP (.str HF)=true:=by rw[tP];decide +kernel
theorem kR(h m:Int):tP (.str (AA h m))=true:=cQ (cQ (ip _) gA) (ip _)
theorem nt(s:Int):tP (.str (E9 s))=true:=cQ (cQ (mJ _) gA) (ip _)
theorem ou(f:Face)(s:WS):tP (.str (FY f s))=true:=by
 cases f with
 | time=>exact cQ (cQ (kR _ _) gA) (ip _)
 | alarm=>exact cQ (kR _ _) (by split;exact rR;exact nJ)
 | laps=>exact cQ (nt _) (by unfold DV;split;exact cQ pk (mJ _);exact nJ)
 | count=>exact nt _
theorem pS(f:Face):tP (.str f.x)=true:=by rw[tP];cases f<;>decide +kernel
theorem oC(b:Bk)(s:WS):tP (vM b s)=true:=by
 unfold vM
 rw[tP,uF,uF,uF,uF,pS,ou];rfl
theorem fG(b:Bk):∀(es:List Ev) (s:WS),uF (sights b s es)=true
 | [],_=>rfl
 | e::es,s=>by
  show(tP (vM b (gone b s e))&&uF (sights b (gone b s e) es))=true
  rw[oC,fG b es];rfl
theorem jl(b:Bk):∀(es:List Ev) (s:WS),vW (sights b s es)<=1
 | [],_=>Nat.zero_le _
 | e::es,s=>by
  have ih:=jl b es (gone b s e)
  show max (wQ (vM b (gone b s e))) (vW (sights b (gone b s e) es))<=1
  have:wQ (vM b (gone b s e))=1:=rfl
  omega
theorem GL(b:Bk)(es:List Ev)(s:WS):Bt (.tup (sights b s es)) (.tup (sights b s es))=some false:=by
 have:=jl b es s
 exact Ae (by show vW _+1<=100;omega) (by rw[tP];exact fG b es s)
def eI:R->Option Out:=
 (l6 (i4 aV (e8 (e9 0) i3)) (setAt 2))
def fq:R->Option Out:=
 (l6 (i4 be (e8 (e9 0) i3)) (setAt 3))
def we:R->Option Bool:=
 (l4 uJ (e9 2) (fun _=>some .non))
def v_:R->Option LD:=
 (C4 (e9 2) (i5 l8 (e9 1) (kI 1)) (fun _=>some eW))
def yk:R->LD->Option (Out×LD):=
  (IZ (x4 (l4 uJ (e9 3) (fun _=>some .non)) (l4 L0 (e9 3) (e9 1)))
  (A_ 4 (e9 3))
  Av)
def fm:R->Option Out:=
 (n6 (i4 Og (e8 (e9 4) i3)))
def kx:R->Option Out:=
 (n4 eI (n4 fq (Fc 4 i3 (wX 4 we v_ (wB yk (yW fm))))))
def bq:LD->OD:=via 2 5 kx
def F_(n:Int)(o:Option Int):List Int:=match o with
 | some a=>(List.range (wj a (n+1) 86400)).map fun (k:Nat)=>a+(k:Int)*86400
 | none=>[]
def GW(n:Int)(o:Option Int):List Int:=match o with
 | some c=>if c<=n then [c] else []
 | none=>[]
def uh(s:WS)(n:Int):List Int:=w9 (AI (F_ n (tM s)++GW n (tN s)))
theorem A6:∀l:List Int,intsOf (l.map D.int)=some l
 | []=>rfl
 | i::l=>by show(intsOf (l.map D.int)).map _=_;rw[A6 l];rfl
theorem C2{a n:Int}(h1:1<=a)(hn:n<259200):wj a (n+1) 86400<=3:=by
 unfold wj
 split<;>omega
theorem LI{ds:LD}{ns:List Int}(e:ds=ns.map D.int)(h:ns.length<=4):Og [.lst ds]=some (.lst ((w9 (AI ns)).map D.int)):=by
 subst e
 show(intsOf _).bind _=_
 rw[A6]
 exact if_pos h
theorem NN{i:Nat}{s:R->Option Bool}{f:R->Option LD}{w:R->LD->Option Out}{ρ:R}{ds es:LD}(h1:s ρ=some true)(h2:f ρ=some es)(h3:ρ.length=i)(h4:es.length<=1000):wX i s f w ρ ds=w ρ es:=by
 unfold wX;rw[h1]
 show(f ρ).bind _=_
 rw[h2]
 exact if_pos ⟨h3,h4⟩
theorem M5{i:Nat}{s:R->Option Bool}{f:R->Option LD}{w:R->LD->Option Out}{ρ:R}{ds:LD}(h1:s ρ=some false):wX i s f w ρ ds=w ρ ds:=by
 unfold wX;rw[h1];rfl
theorem BD{s:WS}{a:Int}(h:tM s=some a):1<=a/\a<=86400:=by
 unfold tM at h
 split at h
 ·cases h;omega
 ·cases h
theorem kB(s:WS){n:Int}(h0:0<=n)(hn:n<259200):bq [s.d,.int n]=some (.lst ((uh s n).map .int)):=by
 have e1:=gf s
 have e2:=fV s
 have hA:∀a,tM s=some a->1<=a/\a<=86400:=fun a h=>BD h
 unfold uh
 generalize tM s=a at *
 generalize tN s=c at *
 have q1:eI [some s.d,some (.int n),none,none,none]=some (.nx [some s.d,some (.int n),some (ue a),none,none]):=p7 (i8 rfl e1) rfl
 have q2:fq [some s.d,some (.int n),some (ue a),none,none]=some (.nx [some s.d,some (.int n),some (ue a),some (ue c),none]):=p7 (i8 rfl e2) rfl
 have q3:∀w,wX 4 we v_ w [some s.d,some (.int n),some (ue a),some (ue c)] []=w [some s.d,some (.int n),some (ue a),some (ue c)] ((F_ n a).map D.int):=fun w=>by
  cases a with
  | none=>exact M5 rfl
  | some a =>
   obtain⟨a1,a2⟩:=hA a rfl
   have hl:=C2 a1 hn
   have e:Aw a (n+1) 86400=(F_ n (some a)).map D.int:=by
    show _=((List.range _).map _).map _
    rw[List.map_map];rfl
   rw[<- e]
   refine NN rfl ?_ rfl ?_
   ·show(if -(2 ^ 60)<=a/\a<2 ^ 60 /\ -(2 ^ 60)<=n+1/\n+1<2 ^ 60/\(0:Int)<86400/\(86400:Int)<1073741824 then some (Aw a (n+1) 86400) else none)=_
    rw[if_pos ⟨by omega,by omega,by omega,by omega,by decide,by decide⟩]
   ·unfold Aw;rw[List.length_map,List.length_range];omega
 have hlA:(F_ n a).length<=3:=by
  cases a with
  | none=>exact Nat.zero_le _
  | some a =>
   obtain⟨a1,a2⟩:=hA a rfl
   have hl:=C2 a1 hn
   unfold F_;rw[List.length_map,List.length_range];exact hl
 have hlC:(GW n c).length<=1:=by
  unfold GW
  split
  ·split<;>simp
  ·decide
 have q4:yk [some s.d,some (.int n),some (ue a),some (ue c)] ((F_ n a).map D.int)=some (.nx [some s.d,some (.int n),some (ue a),some (ue c)],(F_ n a++GW n c).map D.int):=by
  rw[List.map_append]
  cases c with
  | none =>
   refine(Hw (Mk rfl)).trans ?_
   show some (_,_)=some (_,_++[])
   rw[List.append_nil]
  | some c =>
   by_cases h:c<=n
   ·refine(Jl (Hk rfl (tU (x:=.int c) (y:=.int n) rfl rfl (dT h)))).trans ?_
    show(if 4=4/\((F_ n a).map D.int).length<sizeLine then _ else none)=_
    rw[if_pos ⟨rfl,by rw[List.length_map,PySem.sizeLine_eq];omega⟩]
    unfold GW
    dsimp only
    rw[if_pos h];rfl
   ·refine(Hw (Hk rfl (tU (x:=.int c) (y:=.int n) rfl rfl (dF h)))).trans ?_
    unfold GW
    dsimp only
    rw[if_neg h]
    show some (_,_)=some (_,_++[])
    rw[List.append_nil]
 have q6:fm [some s.d,some (.int n),some (ue a),some (ue c),some (.lst ((F_ n a++GW n c).map D.int))]=some (.rt (.lst ((w9 (AI (F_ n a++GW n c))).map D.int))):=
  retS (i8 rfl (LI rfl (by rw[List.length_append];omega)))
 refine n9 ((m9 q1).trans ((m9 q2).trans ?_))
 show wX 4 we v_ _ [some s.d,some (.int n),some (ue a),some (ue c)] []=_
 rw[q3,Ku q4]
 exact q6
theorem dA{s:WS}{n:Int}(hn:n<259200):(uh s n).length<=4:=by
 unfold uh
 rw[(vL _).length_eq]
 refine Nat.le_trans (zN _ []) ?_
 have hlA:(F_ n (tM s)).length<=3:=by
  cases h:tM s with
  | none=>exact Nat.zero_le _
  | some a =>
   have hl:=C2 (BD h).1 hn
   unfold F_;rw[List.length_map,List.length_range];exact hl
 have hlC:(GW n (tN s)).length<=1:=by
  unfold GW
  split
  ·split<;>simp
  ·decide
 rw[List.length_nil,List.length_append];omega
theorem AX{st:D->R->Option R}{p:R->LD->Option (Out×LD)}{d:D}{es ds wU:LD}{ρ ρ1 ρ2:R}(h1:st d ρ=some ρ1)(h2:p ρ1 ds=some (.nx ρ2,wU)):zL st p (d::es) ρ ds=zL st p es ρ2 wU:=by
 show(st d ρ).bind _=_
 rw[h1]
 show(p ρ1 ds).bind _=_
 rw[h2];rfl
def lF:R->Option Out:=
 (n6 (FO (l4 zT (i5 k9 (e9 0) (fun _=>some aX)) (fun _=>some .non)) (kS "back") (Fi KM (i5 k9 (i5 k9 (e9 0) (fun _=>some aX)) (kI 0)))))
def cH:LD->OD:=via 1 1 lF
def vo(s:WS):Str:=match s.held with
 | none=>oS "back"
 | some (x,_)=>x.X
theorem lH(s:WS):cH [s.d]=some (.str (vo s)):=by
 have e6:=w6 s
 unfold vo
 rcases hs:s.held with _ | ⟨x,k⟩<;>rw[hs] at e6
 ·exact n9 (retS (Jk (tU (k7 rfl rfl e6) rfl rfl) rfl))
 ·exact n9 (retS (JD (tU (k7 rfl rfl e6) rfl rfl) (NI (k7 (k7 rfl rfl e6) rfl (h0 x k)) (Nu x))))
def vd:R->LD->Option (Out×LD):=
  (IZ (l4 AT (i5 k9 (e9 3) (kI 0)) (kI 0))
  (A_ 4 (l5 (e8 (i5 k9 (e9 3) (kI 0)) (e8 (i4 cH (e8 (e9 1) i3)) i3))))
  Av)
def vg:R->LD->Option (Out×LD):=
 (Ey 4 (En 1 (ve (i4 bq (e8 (i5 k9 (e9 3) (kI 1)) (e8 (i5 k9 (e9 3) (kI 2)) i3)))) (setAt 0) yK (l5 (e8 (i5 l8 (i5 k9 (e9 4) (kI 0)) (e9 0)) (e8 (kS "ring") i3)))))
def uf:R->LD->Option (Out×LD):=(B7 vd vg)
def uq:R->LD->Option (Out×LD):=
 (FD (ve (i4 bp (e8 (e9 0) (e8 (e9 1) (e8 (e9 2) i3))))) (setAt 3) uf)
def cO:R->Option Out:=
 (n6 (e9 4))
def ga:R->Option Out:=
 (Fc 4 i3 (wB uq (yW cO)))
def bj:LD->OD:=via 3 5 ga
abbrev H_:=Int×Str
def uj(p:H_):D:=.tup [.int p.1,.str p.2]
def Eo:Str:=oS "ring"
def zy(k:Int)(l:List Int):List H_:=l.map fun i=>(k+i,Eo)
def wm(b:Bk)(s:WS)(n:Int):List H_:=match l7 b s with
 | none=>zy 0 (uh s n)
 | some t=>if n<t then zy 0 (uh s n) else zy 0 (uh s t)++((t,vo s)::zy t (uh (behind b s t) (n - t)))
theorem nW(k:Int)(a b c:OD)(x y:D):∀l:List Int,vV (setAt 0) yK (l5 (e8 (i5 l8 (i5 k9 (e9 4) (kI 0)) (e9 0)) (e8 (kS "ring") i3))) (l.map D.int) [none,a,b,c,some (.tup [.int k,x,y])]=some ((zy k l).map uj)
 | []=>rfl
 | i::l=>by
  have ih:=nW k a b c x y l
  show(vV _ _ _ (l.map D.int) _).map (fun r=>D.tup [.int (k+i),.str (oS "ring")]::r)=_
  rw[ih];rfl
theorem Bp{a c:OD}{k:Int}(s0 s:WS){n:Int}(ds:LD)(hd:ds.length<=10)(hn0:0<=n)(hn:n<259200) :
  uf [a,some s0.d,c,some (.tup [.int k,s.d,.int n])] ds=some (.nx [a,some s0.d,c,some (.tup [.int k,s.d,.int n])],ds++(if 0<k then [uj (k,vo s0)] else [])++(zy k (uh s n)).map uj):=by
 have hl:=dA (s:=s) hn
 have e:=kB s hn0 hn
 have et:=lH s0
 have z:100<=sizeLine:=by decide
 have q1:vd [a,some s0.d,c,some (.tup [.int k,s.d,.int n])] ds=some (.nx [a,some s0.d,c,some (.tup [.int k,s.d,.int n])],ds++(if 0<k then [uj (k,vo s0)] else [])):=by
  by_cases hk:0<k
  ·rw[if_pos hk]
   refine(Jl (tU (x:=.int k) (y:=.int 0) (k7 rfl rfl rfl) rfl (dT hk))).trans ?_
   show(l5 _ _).bind _=_
   rw[tupS (l9 (k7 rfl rfl rfl) (l9 (i8 rfl et) rfl)),Option.bind_some]
   exact if_pos ⟨rfl,by omega⟩
  ·rw[if_neg hk,List.append_nil]
   exact Hw (tU (x:=.int k) (y:=.int 0) (k7 rfl rfl rfl) rfl (dF hk))
 have hl1:(ds++(if 0<k then [uj (k,vo s0)] else [])).length<=11:=by
  rw[List.length_append]
  have:(if 0<k then [uj (k,vo s0)] else []).length<=1:=by split<;>simp
  omega
 generalize ds++(if 0<k then [uj (k,vo s0)] else [])=x3 at *
 have q:ve (i4 bq (e8 (i5 k9 (e9 3) (kI 1)) (e8 (i5 k9 (e9 3) (kI 2)) i3))) [a,some s0.d,c,some (.tup [.int k,s.d,.int n])]=some ((uh s n).map D.int):=by
  show(i4 bq _ _).bind _=_
  rw[i8 (ds:=[s.d,.int n]) (l9 (k7 rfl rfl rfl) (l9 (k7 rfl rfl rfl) rfl)) e]
  rfl
 have q2:En 1 (ve (i4 bq (e8 (i5 k9 (e9 3) (kI 1)) (e8 (i5 k9 (e9 3) (kI 2)) i3)))) (setAt 0) yK (l5 (e8 (i5 l8 (i5 k9 (e9 4) (kI 0)) (e9 0)) (e8 (kS "ring") i3))) [a,some s0.d,c,some (.tup [.int k,s.d,.int n])]=some (.lst ((zy k (uh s n)).map uj)):=by
  unfold En
  rw[q,Option.bind_some,if_pos (by rw[List.length_map];omega)]
  show(vV _ _ _ _ [none,a,some s0.d,c,_]).map _=_
  rw[nW];rfl
 have q3:vg [a,some s0.d,c,some (.tup [.int k,s.d,.int n])] x3=some (.nx [a,some s0.d,c,some (.tup [.int k,s.d,.int n])],x3++(zy k (uh s n)).map uj):=by
  show Ey 4 _ _ x3=_
  unfold Ey
  rw[q2,Option.bind_some]
  exact if_pos ⟨rfl,by rw[List.length_map,zy,List.length_map];omega⟩
 show B7 _ _ _ ds=_
 unfold B7
 rw[q1,Option.bind_some]
 exact q3
theorem Ie(b:Bk)(s:WS){n:Int}(hn:n<259200):(wm b s n).length<=9:=by
 have h0:=dA (s:=s) hn
 unfold wm
 cases ht:l7 b s with
 | none=>simp[zy];omega
 | some t =>
  have hp:=vp ht
  dsimp only
  split
  ·simp[zy];omega
  ·have h1:=dA (s:=s) (n:=t) (by omega)
   have h2:=dA (s:=behind b s t) (n:=n - t) (by omega)
   simp[zy];omega
theorem gs{b:Bk}{s:WS}{n:Int}(ok:b.Ok)(w:s.Wk b)(hn0:0<=n)(hn:n<259200):bj [b.d,s.d,.int n]=some (.lst ((wm b s n).map uj)):=by
 have e1:=hZ n ok w
 have key:∃x,uq [some b.d,some s.d,some (.int n),none] []=some (.nx [some b.d,some s.d,some (.int n),some x],(wm b s n).map uj):=by
  have hit:ve (i4 bp (e8 (e9 0) (e8 (e9 1) (e8 (e9 2) i3)))) [some b.d,some s.d,some (.int n),none]=some (vJ b s n):=by
   show(i4 bp _ _).bind _=_
   rw[i8 rfl e1];rfl
  have q:uq [some b.d,some s.d,some (.int n),none] []=zL (setAt 3) uf (vJ b s n) [some b.d,some s.d,some (.int n),none] []:=by
   show(ve _ _).bind _=_
   rw[hit];rfl
  rw[q]
  have one:∀x:D,x=.tup [.int 0,s.d,.int n]->zL (setAt 3) uf [x] [some b.d,some s.d,some (.int n),none] []=some (.nx [some b.d,some s.d,some (.int n),some x],(zy 0 (uh s n)).map uj):=fun x hx=>by
   subst hx
   rw[AX rfl (Bp s s [] (Nat.zero_le _) hn0 hn)];rfl
  unfold vJ wm
  cases h:l7 b s with
  | none=>exact⟨_,one _ rfl⟩
  | some t =>
   dsimp only
   by_cases ht:n<t
   ·rw[if_pos ht,if_pos ht];exact⟨_,one _ rfl⟩
   ·rw[if_neg ht,if_neg ht]
    have htp:=vp h
    have hl:=dA (s:=s) (n:=t) (by omega)
    refine⟨.tup [.int t,(behind b s t).d,.int (n - t)],?_⟩
    rw[AX rfl (Bp s s [] (Nat.zero_le _) (by omega) (by omega)),AX rfl (Bp s (behind b s t) _ ?_ (by omega) (by omega)),if_pos (show 0<t by omega),if_neg (show ¬ (0:Int)<0 by decide)]
    ·simp only[List.nil_append,List.map_append,List.map_cons,List.append_assoc,List.cons_append];rfl
    ·rw[if_neg (show ¬ (0:Int)<0 by decide)]
     simp[zy];omega
 obtain⟨x,key⟩:=key
 refine n9 ?_
 show wB uq (yW cO) [some b.d,some s.d,some (.int n),none] []=_
 rw[Ku key]
 rfl
def jX:R->Option Out:=
  (n4 (yD (l4 uW (i5 k9 (e9 2) (kI 0)) (kS "ticks"))
  (n6 (i4 bj (e8 (e9 0) (e8 (e9 1) (e8 (i5 k9 (e9 2) (kI 1)) i3)))))
  ub)
  (n4 (yD (x4 (l4 uW (i5 k9 (e9 2) (kI 0)) (kS "up")) (u_ (i4 bK (e8 (e9 1) (e8 (i5 k9 (e9 2) (kI 1)) i3)))))
  (n6 (BB (e8 (l5 (e8 (kI 0) (e8 (i5 k9 (e9 2) (kI 1)) i3))) i3)))
  ub)
  (n6 (BB i3))))
def bf:LD->OD:=via 3 3 jX
def Ew(s:WS)(x:vI):Bool:=match s.held with
 | some (y,k)=>decide (y=x)&&k.isSome
 | none=>false
def Hl(b:Bk)(s:WS):Ev->List H_
 | .ticks n=>wm b s n
 | .up x=>if Ew s x then [(0,x.x)] else []
 | .down _=>[]
def Kt:Ev->Int
 | .ticks n=>n
 | _=>0
def Cj:Ev->Prop
 | .ticks n=>1<=n/\n<259200
 | _=>True
theorem Kw:uW (.str (oS "down")) (.str (oS "ticks"))=some false:=rfl
theorem IH:uW (.str (oS "up")) (.str (oS "ticks"))=some false:=rfl
theorem Ks:uW (.str (oS "ticks")) (.str (oS "ticks"))=some true:=rfl
theorem M8:uW (.str (oS "down")) (.str (oS "up"))=some false:=rfl
theorem kE{b:Bk}{s:WS}(ok:b.Ok)(w:s.Wk b)(e:Ev)(h:Cj e):bf [b.d,s.d,e.d]=some (.lst ((Hl b s e).map uj)):=by
 cases e with
 | down x=>exact n9 ((m9 (yd (tU (k7 rfl rfl rfl) rfl Kw))).trans ((m9 (yd (Mk (tU (k7 rfl rfl rfl) rfl M8)))).trans (retS rfl)))
 | ticks n=>exact n9 (wt ((zQ (tU (k7 rfl rfl rfl) rfl Ks)).trans (retS (i8 (l9 rfl (l9 rfl (l9 (k7 rfl rfl rfl) rfl))) (gs ok w (by have:=h.1;omega) h.2)))))
 | up x =>
  have e:=iE s x
  have hs:bK [s.d,.str x.x]=some (.bl (Ew s x)):=e
  show bf [b.d,s.d,(Ev.up x).d]=some (.lst ((if Ew s x then [((0:Int),x.x)] else []).map uj))
  cases hx:Ew s x with
  | false =>
   rw[hx] at hs
   exact n9 ((m9 (yd (tU (k7 rfl rfl rfl) rfl IH))).trans ((m9 (yd (Hk (tU (k7 rfl rfl rfl) rfl EU) (zR (i8 (l9 rfl (l9 (k7 rfl rfl rfl) rfl)) hs))))).trans (retS rfl)))
  | true =>
   rw[hx] at hs
   exact n9 ((m9 (yd (tU (k7 rfl rfl rfl) rfl IH))).trans (wt ((zQ (Hk (tU (k7 rfl rfl rfl) rfl EU) (zR (i8 (l9 rfl (l9 (k7 rfl rfl rfl) rfl)) hs)))).trans (retS (JT (l9 (tupS (l9 rfl (l9 (k7 rfl rfl rfl) rfl))) rfl))))))
def yP:R->LD->Option (Out×LD):=
 (Ey 5 (En 1 (ve (i4 bf (e8 (e9 0) (e8 (e9 2) (e8 (e9 4) i3))))) (setAt 0) yK (l5 (e8 (i5 l8 (e9 4) (i5 k9 (e9 0) (kI 0))) (e8 (i5 k9 (e9 0) (kI 1)) i3)))))
def BV:R->LD->Option (Out×LD):=
  (yV (n4 (l6 (i4 dt (e8 (e9 0) (e8 (e9 2) (e8 (e9 4) i3)))) (setAt 2))
  (yD (l4 uW (i5 k9 (e9 4) (kI 0)) (kS "ticks"))
  (l6 (i5 l8 (e9 3) (i5 k9 (e9 4) (kI 1))) (setAt 3))
  ub)))
def yc:R->LD->Option (Out×LD):=(B7 yP BV)
def oV:R->Option Out:=
 (l6 (i4 cD (e8 (e9 0) i3)) (setAt 2))
def oh:R->Option Out:=
 (l6 (kI 0) (setAt 3))
def zV:R->LD->Option (Out×LD):=
 (FD (ve (e9 1)) (setAt 4) yc)
def jR:R->Option Out:=
 (n6 (i4 Ac (e8 (e9 5) i3)))
def qY:R->Option Out:=
 (n4 oV (n4 oh (Fc 5 i3 (wB zV (yW jR)))))
def fY:LD->OD:=via 2 6 qY
def DT(b:Bk):WS->Int->List Ev->List H_
 | _,_,[]=>[]
 | s,k,e::es=>(Hl b s e).map (fun p=>(k+p.1,p.2))++DT b (gone b s e) (k+Kt e) es
theorem FV(b:Bk)(s:WS){e:Ev}(h:Cj e):(Hl b s e).length<=9:=by
 cases e with
 | ticks n=>exact Ie b s h.2
 | up x=>show(if Ew s x then [((0:Int),x.x)] else []).length<=9;split<;>simp
 | down x=>exact Nat.zero_le _
theorem lh(k:Int)(a b c e:OD):∀l:List H_,vV (setAt 0) yK (l5 (e8 (i5 l8 (e9 4) (i5 k9 (e9 0) (kI 0))) (e8 (i5 k9 (e9 0) (kI 1)) i3))) (l.map uj) [none,a,b,c,some (.int k),e]=some ((l.map fun p=>(k+p.1,p.2)).map uj)
 | []=>rfl
 | i::l=>by
  have ih:=lh k a b c e l
  show(vV _ _ _ (l.map uj) _).map (fun r=>D.tup [.int (k+i.1),.str i.2]::r)=_
  rw[ih];rfl
theorem EZ{b:Bk}{s:WS}(ok:b.Ok)(w:s.Wk b){o1:OD}{k:Int}(e:Ev)(h:Cj e)(ds:LD)(hd:ds.length<=1000) :
  yc [some b.d,o1,some s.d,some (.int k),some e.d] ds=some (.nx [some b.d,o1,some (gone b s e).d,some (.int (k+Kt e)),some e.d],ds++((Hl b s e).map fun p=>(k+p.1,p.2)).map uj):=by
 have e1:=kE ok w e h
 have e2:=mB ok w e
 have hl:=FV b s h
 have z:2000<=sizeLine:=by decide
 have q:ve (i4 bf (e8 (e9 0) (e8 (e9 2) (e8 (e9 4) i3)))) [some b.d,o1,some s.d,some (.int k),some e.d]=some ((Hl b s e).map uj):=by
  show(i4 bf _ _).bind _=_
  rw[i8 rfl e1];rfl
 have q1:En 1 (ve (i4 bf (e8 (e9 0) (e8 (e9 2) (e8 (e9 4) i3))))) (setAt 0) yK (l5 (e8 (i5 l8 (e9 4) (i5 k9 (e9 0) (kI 0))) (e8 (i5 k9 (e9 0) (kI 1)) i3))) [some b.d,o1,some s.d,some (.int k),some e.d]=some (.lst (((Hl b s e).map fun p=>(k+p.1,p.2)).map uj)):=by
  unfold En
  rw[q,Option.bind_some,if_pos (by rw[List.length_map];omega)]
  show(vV _ _ _ _ [none,some b.d,o1,some s.d,_,_]).map _=_
  rw[lh];rfl
 have q2:yP [some b.d,o1,some s.d,some (.int k),some e.d] ds=some (.nx [some b.d,o1,some s.d,some (.int k),some e.d],ds++((Hl b s e).map fun p=>(k+p.1,p.2)).map uj):=by
  show Ey 5 _ _ ds=_
  unfold Ey
  rw[q1,Option.bind_some]
  exact if_pos ⟨rfl,by rw[List.length_map,List.length_map];omega⟩
 have q3:n4 (l6 (i4 dt (e8 (e9 0) (e8 (e9 2) (e8 (e9 4) i3)))) (setAt 2)) (yD (l4 uW (i5 k9 (e9 4) (kI 0)) (kS "ticks")) (l6 (i5 l8 (e9 3) (i5 k9 (e9 4) (kI 1))) (setAt 3)) ub) [some b.d,o1,some s.d,some (.int k),some e.d]=some (.nx [some b.d,o1,some (gone b s e).d,some (.int (k+Kt e)),some e.d]):=by
  refine(m9 (p7 (i8 rfl e2) rfl)).trans ?_
  cases e with
  | ticks n=>exact(zQ (tU (k7 rfl rfl rfl) rfl Ks)).trans (p7 (k7 rfl (k7 rfl rfl rfl) rfl) rfl)
  | up x=>rw[show k+Kt (.up x)=k from Int.add_zero k];exact yd (tU (k7 rfl rfl rfl) rfl IH)
  | down x=>rw[show k+Kt (.down x)=k from Int.add_zero k];exact yd (tU (k7 rfl rfl rfl) rfl Kw)
 show B7 _ _ _ ds=_
 unfold B7
 rw[q2,Option.bind_some]
 show yV _ _ _=_
 unfold yV
 rw[q3];rfl
theorem Bi{b:Bk}(ok:b.Ok)(o1:OD):∀(es:List Ev) (s:WS) (k:Int) (o:OD) (ds:LD),s.Ok b->(∀e∈es,e.Ok/\Cj e)->ds.length+9*es.length<=1000 ->
  ∃s' k' o',zL (setAt 4) yc (es.map Ev.d) [some b.d,o1,some s.d,some (.int k),o] ds=some (.nx [some b.d,o1,s',k',o'],ds++(DT b s k es).map uj)
 | [],s,k,o,ds,_,_,_=>⟨some s.d,some (.int k),o,by show some (Out.nx _,ds)=some (Out.nx _,ds++[]);rw[List.append_nil]⟩
 | e::es,s,k,o,ds,w,h,hl=>by
  obtain⟨h1,h2⟩:=h e (.head _)
  have hl1:=FV b s h2
  rw[List.length_cons] at hl
  obtain⟨s',k',o',ih⟩:=Bi ok o1 es (gone b s e) (k+Kt e) (some e.d) (ds++((Hl b s e).map fun p=>(k+p.1,p.2)).map uj) (xH ok w e h1) (fun x hx=>h x (.tail _ hx)) (by simp;omega)
  refine⟨s',k',o',?_⟩
  rw[List.map_cons,AX rfl (EZ ok w.toWk e h2 ds (by omega)),ih,List.append_assoc,<- List.map_append];rfl
theorem qN{b:Bk}(ok:b.Ok)(es:List Ev)(h:∀e∈es,e.Ok/\Cj e)(hl:es.length<=100):fY [b.d,.tup (es.map Ev.d)]=some (.tup ((DT b tm 0 es).map uj)):=by
 obtain⟨s',k',o',e⟩:=Bi ok (some (.tup (es.map Ev.d))) es tm 0 none [] (Bd ok) h (by simp;omega)
 refine n9 ((m9 (p7 (i8 rfl (iC _)) rfl)).trans ((m9 (p7 rfl rfl)).trans ?_))
 show wB zV (yW jR) [some b.d,some (.tup (es.map Ev.d)),some tm.d,some (.int 0),none] []=_
 have q:zV [some b.d,some (.tup (es.map Ev.d)),some tm.d,some (.int 0),none] []=some (.nx [some b.d,some (.tup (es.map Ev.d)),s',k',o'],(DT b tm 0 es).map uj):=e
 rw[Ku q]
 rfl
def jL:R->Option Out:=
 (n6 (i4 Ac (e8 (En 1 (ve (l5 (e8 (kS "mode") (e8 (kS "clock") (e8 (kS "alarm") (e8 (kS "laps") (e8 (kS "count") (e8 (kS "ring") (e8 (kS "held") (e8 (kS "idle") i3)))))))))) (setAt 0) yK (i5 q9 (e9 1) (e9 0))) i3)))
def cB:LD->OD:=via 1 1 (jL)
theorem oT:∀ds d,cB ds=some d->xX (jL (Cp 1 ds))=some d:=fun _ _ h=>rL h
theorem ox:∀ds d,cB ds=some d->ds.length=1:=fun _ _ h=>nM h
def oW:R->Option Out:=
 (n6 (i5 tG (i5 l8 (e9 0) (kI 1)) (i5 l8 (e9 1) (kI 1))))
def bD:LD->OD:=via 2 2 oW
def eZ:MU:=
  (tE (tJ (l6 (i5 q9 (e9 0) (kS "clock")) (setAt 2)))
  (tE (xW (l4 uW (e9 1) (kS "hour"))
  (n8 0 (oS "clock") (i5 tG (i5 l8 (e9 2) (kI 3600)) (kI 86400)))
  uc)
  (tE (xW (l4 uW (e9 1) (kS "minute"))
  (n8 0 (oS "clock") (i5 vE (i5 l8 (e9 2) (kI 60)) (i5 vK (kI 3600) (i4 xq (e8 (x5 (l4 uW (i5 tG (i5 vn (e9 2) (kI 60)) (kI 60)) (kI 59))) i3)))))
  uc)
  (tE (xW (l4 uW (e9 1) (kS "zero"))
  (n8 0 (oS "clock") (i5 vE (e9 2) (i5 tG (e9 2) (kI 60))))
  uc)
  (tE (tJ (l6 (i5 q9 (e9 0) (kS "alarm")) (xJ [(setAt 3),(setAt 4),(setAt 5)])))
  (tE (n8 0 (oS "alarm") (Ej 11 (oS "ahour") (oS "aminute") (oS "alarm") (l5 (e8 (i4 bD (e8 (e9 3) (e8 (kI 23) i3))) (e8 (e9 4) (e8 (e9 5) i3)))) (l5 (e8 (e9 3) (e8 (i4 bD (e8 (e9 4) (e8 (kI 59) i3))) (e8 (e9 5) i3)))) (l5 (e8 (e9 3) (e8 (e9 4) (e8 (yj (e9 5)) i3)))) (e9 1) (i5 q9 (e9 0) (kS "alarm"))))
  (tE (tJ (l6 (i5 q9 (e9 0) (kS "laps")) (xJ [(setAt 6),(setAt 7),(setAt 8)])))
  (tE (xW (l4 uW (e9 1) (kS "run"))
  (n8 0 (oS "laps") (l5 (e8 (e9 6) (e8 (yj (e9 7)) (e8 (e9 8) i3)))))
  uc)
  (tE (xW (l4 uW (e9 1) (kS "lap"))
  (n8 0 (oS "laps") (i5 k9 (BB (e8 (l5 (e8 (kI 0) (e8 (fun _=>some (.bl false)) (e8 (l5 i3) i3)))) (e8 (l5 (e8 (e9 6) (e8 (e9 7) (e8 (KA (i5 l8 (e9 8) (l5 (e8 (e9 6) i3))) I8 (aP (kI 4))) i3)))) i3))) (i4 xq (e8 (e9 7) i3))))
  uc)
  (tE (tJ (l6 (i5 q9 (e9 0) (kS "count")) (xJ [(setAt 4),(setAt 9),(setAt 10),(setAt 7)])))
  (tE (xW (l4 uW (e9 1) (kS "count"))
  (n8 0 (oS "count") (l5 (e8 (e9 4) (e8 (e9 9) (e8 (e9 10) (e8 (zJ (yj (e9 7)) (x5 (l4 AT (e9 10) (kI 0)))) i3))))))
  uc)
  (xW (x4 (l4 N4 (e9 1) (l5 (e8 (kS "cminute") (e8 (kS "csecond") (e8 (kS "full") i3))))) (y7 (u_ (e9 7))))
  (tE (tJ (l6 (i5 tG (i5 l8 (e9 4) (i4 xq (e8 (x5 (l4 uW (e9 1) (kS "cminute"))) i3))) (kI 60)) (setAt 4)))
  (tE (tJ (l6 (i5 tG (i5 l8 (e9 9) (i4 xq (e8 (x5 (l4 uW (e9 1) (kS "csecond"))) i3))) (kI 60)) (setAt 9)))
  (n8 0 (oS "count") (l5 (e8 (e9 4) (e8 (e9 9) (e8 (i5 l8 (i5 vK (kI 60) (e9 4)) (e9 9)) (e8 (fun _=>some (.bl false)) i3))))))))
  uc))))))))))))
def b_:LD->Option (D×D):=Fh 2 12 0 (eZ)
theorem rP(n k:Int)(h:0<k+1):bD [.int n,.int k]=some (.int ((n+1)%(k+1))):=n9 (retS (k7 (k7 rfl rfl rfl) (k7 rfl rfl rfl) (modS h)))
theorem Gi(d k:uY):uW (.str d.x) (.str k.x)=some (decide (d=k)):=by cases d<;>cases k<;>rfl
theorem O_(d k:uY):d.x=k.x↔d=k:=⟨by cases d<;>cases k<;>first | (intro _;rfl) | (intro h;exact absurd h (by decide)),fun h=>by rw[h]⟩
theorem Pt(d:uY):N4 (.str d.x) (.tup [.str (oS "cminute"),.str (oS "csecond"),.str (oS "full")])=some (decide (d=.cminute\/d=.csecond\/d=.full)):=by cases d<;>rfl
theorem KC{x:OD}{tl:R}(h:tl.all uz=true):tW 0 (x::tl)=true:=by show(true&&tl.all uz)=true;rw[h];rfl
theorem Ox(xs:LD):cutD xs none (some 4)=xs.take 4:=by
 unfold cutD HI
 simp
theorem Cr(b:Bool):xq [.bl b]=some (.int (if b then 1 else 0)):=by cases b<;>rfl
def x3(d:uY)(s:WS):WS:=if d=.hour then {s with clock:=(s.clock+3600)%86400} else s
def wU(d:uY)(s:WS)(c:Int):WS:=if d=.minute then {s with clock:=c+60 - 3600*(if c / 60%60=59 then 1 else 0)} else s
def AG(d:uY)(s:WS)(c:Int):WS:=if d=.zero then {s with clock:=c - c%60} else s
def AD(d:uY)(s:WS):WS:=if d=.ahour then {s with ah:=(s.ah+1)%24} else if d=.aminute then {s with am:=(s.am+1)%60} else if d=.alarm then {s with aon:=!s.aon} else s
def Dx(d:uY)(s:WS):WS:=if d=.run then {s with lr:=!s.lr} else s
def DN(d:uY)(s:WS)(m:Int)(r:Bool)(k:List Int):WS:=if d=.lap then (if r then {s with lm:=m,lr:=true,lk:=(k++[m]).take 4} else {s with lm:=0,lr:=false,lk:=[]}) else s
def Hj(d:uY)(s:WS):WS:=if d=.count then {s with cr:=!s.cr&&decide (0<s.cl)} else s
def IJ(d:uY)(s:WS)(m c:Int)(r:Bool):WS:=if (d=.cminute\/d=.csecond\/d=.full)/\r=false then {s with cm:=(m+if d=.cminute then 1 else 0)%60,cs:=(c+if d=.csecond then 1 else 0)%60,cl:=60*((m+if d=.cminute then 1 else 0)%60)+(c+if d=.csecond then 1 else 0)%60,cr:=false} else s
section
variable{a l:Nat}{s:WS}{w:Int}{st:LD}{d:uY}
abbrev DR(a l:Nat)(s:WS)(w:Int)(st:LD)(d:uY)(o2 o3 o4 o5 o6 o7 o8 o9 o10:OD:=none):R:=[some (k6 a l s w st),some (.str d.x),o2,o3,o4,o5,o6,o7,o8,o9,o10,none]
theorem q1{o3 o4 o5 o6 o7 o8 o9 o10:OD}{c:Int}(hst:m6 st=true)(hc:s.clock=c)(hn:[o3,o4,o5,o6,o7,o8,o9,o10].all uz=true):xW (l4 uW (e9 1) (kS "hour"))
 (n8 0 (oS "clock") (i5 tG (i5 l8 (e9 2) (kI 3600)) (kI 86400))) uc [a,l] (DR a l s w st d (some (.int c)) o3 o4 o5 o6 o7 o8 o9 o10)=some (.nx (DR a l (x3 d s) w st d (some (.int c)) o3 o4 o5 o6 o7 o8 o9 o10)):=by
 unfold x3
 subst hc
 have hb:tW 0 (DR a l s w st d (some (.int s.clock)) o3 o4 o5 o6 o7 o8 o9 o10)=true:=KC (by simp[uz,t_] at hn ⊢;exact hn)
 by_cases h:d=.hour
 ·rw[if_pos h]
  exact(As (tU rfl rfl ((Gi d .hour).trans (dT h)))).trans (Az rfl (k7 (k7 rfl rfl rfl) rfl (modS (by decide))) rfl hb hst rfl rfl)
 ·rw[if_neg h]
  exact AH (tU rfl rfl ((Gi d .hour).trans (dF h)))
theorem q2{o3 o4 o5 o6 o7 o8 o9 o10:OD}{c:Int}(hst:m6 st=true)(hn:[o3,o4,o5,o6,o7,o8,o9,o10].all uz=true):xW (l4 uW (e9 1) (kS "minute"))
 (n8 0 (oS "clock") (i5 vE (i5 l8 (e9 2) (kI 60)) (i5 vK (kI 3600) (i4 xq (e8 (x5 (l4 uW (i5 tG (i5 vn (e9 2) (kI 60)) (kI 60)) (kI 59))) i3))))) uc [a,l] (DR a l s w st d (some (.int c)) o3 o4 o5 o6 o7 o8 o9 o10)=some (.nx (DR a l (wU d s c) w st d (some (.int c)) o3 o4 o5 o6 o7 o8 o9 o10)):=by
 unfold wU
 have hb:tW 0 (DR a l s w st d (some (.int c)) o3 o4 o5 o6 o7 o8 o9 o10)=true:=KC (by simp[uz,t_] at hn ⊢;exact hn)
 by_cases h:d=.minute
 ·rw[if_pos h]
  have e:xq [.bl (c / 60%60==59)]=some (.int (if c / 60%60=59 then 1 else 0)):=by rw[Cr];simp
  exact(As (tU rfl rfl ((Gi d .minute).trans (dT h)))).trans (Az rfl (k7 (k7 rfl rfl rfl) (k7 rfl (i8 (l9 (Dt (tU (k7 (k7 rfl rfl rfl) rfl (modS (by decide))) rfl rfl)) rfl) e) (Dl _)) rfl) rfl hb hst rfl rfl)
 ·rw[if_neg h]
  exact AH (tU rfl rfl ((Gi d .minute).trans (dF h)))
theorem q3{o3 o4 o5 o6 o7 o8 o9 o10:OD}{c:Int}(hst:m6 st=true)(hn:[o3,o4,o5,o6,o7,o8,o9,o10].all uz=true):xW (l4 uW (e9 1) (kS "zero"))
 (n8 0 (oS "clock") (i5 vE (e9 2) (i5 tG (e9 2) (kI 60)))) uc [a,l] (DR a l s w st d (some (.int c)) o3 o4 o5 o6 o7 o8 o9 o10)=some (.nx (DR a l (AG d s c) w st d (some (.int c)) o3 o4 o5 o6 o7 o8 o9 o10)):=by
 unfold AG
 have hb:tW 0 (DR a l s w st d (some (.int c)) o3 o4 o5 o6 o7 o8 o9 o10)=true:=KC (by simp[uz,t_] at hn ⊢;exact hn)
 by_cases h:d=.zero
 ·rw[if_pos h]
  exact(As (tU rfl rfl ((Gi d .zero).trans (dT h)))).trans (Az rfl (k7 rfl (k7 rfl rfl (modS (by decide))) rfl) rfl hb hst rfl rfl)
 ·rw[if_neg h]
  exact AH (tU rfl rfl ((Gi d .zero).trans (dF h)))
theorem q4{o2 o6 o7 o8 o9 o10:OD}(hst:m6 st=true)(hn:[o2,o6,o7,o8,o9,o10].all uz=true):n8 0 (oS "alarm") (Ej 11 (oS "ahour") (oS "aminute") (oS "alarm") (l5 (e8 (i4 bD (e8 (e9 3) (e8 (kI 23) i3))) (e8 (e9 4) (e8 (e9 5) i3)))) (l5 (e8 (e9 3) (e8 (i4 bD (e8 (e9 4) (e8 (kI 59) i3))) (e8 (e9 5) i3)))) (l5 (e8 (e9 3) (e8 (e9 4) (e8 (yj (e9 5)) i3)))) (e9 1) (i5 q9 (e9 0) (kS "alarm"))) [a,l] (DR a l s w st d o2 (some (.int s.ah)) (some (.int s.am)) (some (.bl s.aon)) o6 o7 o8 o9 o10)=some (.nx (DR a l (AD d s) w st d o2 (some (.int s.ah)) (some (.int s.am)) (some (.bl s.aon)) o6 o7 o8 o9 o10)):=by
 have hb:tW 0 (DR a l s w st d o2 (some (.int s.ah)) (some (.int s.am)) (some (.bl s.aon)) o6 o7 o8 o9 o10)=true:=KC (by simp[uz,t_] at hn ⊢;exact hn)
 have hf:Ej 11 (oS "ahour") (oS "aminute") (oS "alarm") (l5 (e8 (i4 bD (e8 (e9 3) (e8 (kI 23) i3))) (e8 (e9 4) (e8 (e9 5) i3)))) (l5 (e8 (e9 3) (e8 (i4 bD (e8 (e9 4) (e8 (kI 59) i3))) (e8 (e9 5) i3)))) (l5 (e8 (e9 3) (e8 (e9 4) (e8 (yj (e9 5)) i3)))) (e9 1) (i5 q9 (e9 0) (kS "alarm")) (DR a l s w st d o2 (some (.int s.ah)) (some (.int s.am)) (some (.bl s.aon)) o6 o7 o8 o9 o10)=some (AD d s).alarmD:=by
  unfold Ej
  rw[tupS (l9 (i8 rfl (rP s.ah 23 (by decide))) rfl),Option.bind_some,tupS (l9 rfl (l9 (i8 rfl (rP s.am 59 (by decide))) rfl)),Option.bind_some,tupS (l9 rfl (l9 rfl (l9 (show yj (e9 5) _=some (.bl (!s.aon)) from rfl) rfl))),Option.bind_some]
  have key:(if y_ 11 (DR a l s w st d o2 (some (.int s.ah)) (some (.int s.am)) (some (.bl s.aon)) o6 o7 o8 o9 o10)=true/\m6 [D.tup [.int ((s.ah+1)%(23+1)),.int s.am,.bl s.aon],.tup [.int s.ah,.int ((s.am+1)%(59+1)),.bl s.aon],.tup [.int s.ah,.int s.am,.bl (!s.aon)]]=true/\oS "ahour" ≠ oS "aminute" /\ oS "ahour" ≠ oS "alarm" /\ oS "aminute" ≠ oS "alarm" then
    some (if d.x=uY.ahour.x then D.tup [.int ((s.ah+1)%(23+1)),.int s.am,.bl s.aon] else if d.x=uY.aminute.x then .tup [.int s.ah,.int ((s.am+1)%(59+1)),.bl s.aon] else if d.x=uY.alarm.x then .tup [.int s.ah,.int s.am,.bl (!s.aon)] else s.alarmD) else none)=some (AD d s).alarmD:=by
   rw[if_pos ⟨rfl,rfl,by decide,by decide,by decide⟩]
   simp only[O_]
   unfold AD
   split
   ·rfl
   ·split
    ·rfl
    ·split<;>rfl
  exact key
 refine Az rfl hf rfl hb hst rfl ?_
 show(Bv,_)=(Bv,_)
 have:∀t:WS,(t=AD d s)->[D.int (s.mode:Int),.int s.clock,t.alarmD,s.lapsD,s.countD,.int s.ring,uw s.held,.int s.idle,.int w,.obj 0 l [] st]=xa l t w st:=fun t h=>by
  subst h
  unfold AD
  repeat' split
  all_goals rfl
 exact congrArg (Prod.mk Bv) (this _ rfl)
theorem q5{o2 o3 o4 o5 o9 o10:OD}(hst:m6 st=true)(hn:[o2,o3,o4,o5,o9,o10].all uz=true):xW (l4 uW (e9 1) (kS "run"))
 (n8 0 (oS "laps") (l5 (e8 (e9 6) (e8 (yj (e9 7)) (e8 (e9 8) i3))))) uc [a,l] (DR a l s w st d o2 o3 o4 o5 (some (.int s.lm)) (some (.bl s.lr)) (some (.tup (s.lk.map .int))) o9 o10)=some (.nx (DR a l (Dx d s) w st d o2 o3 o4 o5 (some (.int s.lm)) (some (.bl s.lr)) (some (.tup (s.lk.map .int))) o9 o10)):=by
 unfold Dx
 have hb:tW 0 (DR a l s w st d o2 o3 o4 o5 (some (.int s.lm)) (some (.bl s.lr)) (some (.tup (s.lk.map .int))) o9 o10)=true:=KC (by simp[uz,t_,xp] at hn ⊢;exact hn)
 by_cases h:d=.run
 ·rw[if_pos h]
  exact(As (tU rfl rfl ((Gi d .run).trans (dT h)))).trans (Az (s':={s with lr:=!s.lr}) rfl (tupS (l9 rfl (l9 (show yj (e9 7) _=some (.bl (!s.lr)) from rfl) rfl))) (yN {s with lr:=!s.lr}) hb hst (yN s) rfl)
 ·rw[if_neg h]
  exact AH (tU rfl rfl ((Gi d .run).trans (dF h)))
theorem q6{o2 o3 o4 o5 o9 o10:OD}{m:Int}{r:Bool}{k:List Int}(hk:k.length<=4)(hst:m6 st=true)(hn:[o2,o3,o4,o5,o9,o10].all uz=true):xW (l4 uW (e9 1) (kS "lap"))
 (n8 0 (oS "laps") (i5 k9 (BB (e8 (l5 (e8 (kI 0) (e8 (fun _=>some (.bl false)) (e8 (l5 i3) i3)))) (e8 (l5 (e8 (e9 6) (e8 (e9 7) (e8 (KA (i5 l8 (e9 8) (l5 (e8 (e9 6) i3))) I8 (aP (kI 4))) i3)))) i3))) (i4 xq (e8 (e9 7) i3)))) uc [a,l] (DR a l s w st d o2 o3 o4 o5 (some (.int m)) (some (.bl r)) (some (.tup (k.map .int))) o9 o10)=some (.nx (DR a l (DN d s m r k) w st d o2 o3 o4 o5 (some (.int m)) (some (.bl r)) (some (.tup (k.map .int))) o9 o10)):=by
 unfold DN
 have hb:tW 0 (DR a l s w st d o2 o3 o4 o5 (some (.int m)) (some (.bl r)) (some (.tup (k.map .int))) o9 o10)=true:=KC (by simp[uz,t_,xp] at hn ⊢;exact hn)
 by_cases h:d=.lap
 ·rw[if_pos h]
  have e1:i5 l8 (e9 8) (l5 (e8 (e9 6) i3)) (DR a l s w st d o2 o3 o4 o5 (some (.int m)) (some (.bl r)) (some (.tup (k.map .int))) o9 o10)=some (.tup ((k++[m]).map .int)):=by
   refine k7 (x:=.tup (k.map .int)) (y:=.tup [.int m]) rfl rfl ?_
   show(if (k.map D.int).length+1<=sizeLine then _ else none)=_
   rw[if_pos (by rw[List.length_map,PySem.sizeLine_eq];omega),List.map_append];rfl
  have e2:KA (i5 l8 (e9 8) (l5 (e8 (e9 6) i3))) I8 (aP (kI 4)) (DR a l s w st d o2 o3 o4 o5 (some (.int m)) (some (.bl r)) (some (.tup (k.map .int))) o9 o10)=some (.tup (((k++[m]).take 4).map .int)):=by
   refine Es e1 rfl rfl ?_
   show some (D.tup (cutD ((k++[m]).map .int) none (some 4)))=_
   rw[Ox,List.map_take]
  refine(As (tU rfl rfl ((Gi d .lap).trans (dT h)))).trans ?_
  cases r with
  | true=>exact Az (s':={s with lm:=m,lr:=true,lk:=(k++[m]).take 4}) rfl (k7 (JT (l9 rfl (l9 (tupS (l9 rfl (l9 rfl (l9 e2 rfl)))) rfl))) rfl rfl) (yN {s with lm:=m,lr:=true,lk:=(k++[m]).take 4}) hb hst (yN s) rfl
  | false=>exact Az (s':={s with lm:=0,lr:=false,lk:=[]}) rfl (k7 (JT (l9 rfl (l9 (tupS (l9 rfl (l9 rfl (l9 e2 rfl)))) rfl))) rfl rfl) rfl hb hst (yN s) rfl
 ·rw[if_neg h]
  exact AH (tU rfl rfl ((Gi d .lap).trans (dF h)))
theorem q7{o2 o3 o5 o6 o8:OD}(hst:m6 st=true)(hn:[o2,o3,o5,o6,o8].all uz=true):xW (l4 uW (e9 1) (kS "count"))
 (n8 0 (oS "count") (l5 (e8 (e9 4) (e8 (e9 9) (e8 (e9 10) (e8 (zJ (yj (e9 7)) (x5 (l4 AT (e9 10) (kI 0)))) i3)))))) uc [a,l] (DR a l s w st d o2 o3 (some (.int s.cm)) o5 o6 (some (.bl s.cr)) o8 (some (.int s.cs)) (some (.int s.cl)))=some (.nx (DR a l (Hj d s) w st d o2 o3 (some (.int s.cm)) o5 o6 (some (.bl s.cr)) o8 (some (.int s.cs)) (some (.int s.cl)))):=by
 unfold Hj
 have hb:tW 0 (DR a l s w st d o2 o3 (some (.int s.cm)) o5 o6 (some (.bl s.cr)) o8 (some (.int s.cs)) (some (.int s.cl)))=true:=KC (by simp[uz,t_,xp] at hn ⊢;exact hn)
 by_cases h:d=.count
 ·rw[if_pos h]
  have e:zJ (yj (e9 7)) (x5 (l4 AT (e9 10) (kI 0))) (DR a l s w st d o2 o3 (some (.int s.cm)) o5 o6 (some (.bl s.cr)) o8 (some (.int s.cs)) (some (.int s.cl)))=some (.bl (!s.cr&&decide (0<s.cl))):=by
   cases hc:s.cr with
   | true=>exact DU rfl
   | false=>exact KJ rfl (Dt (tU rfl rfl rfl))
  exact(As (tU rfl rfl ((Gi d .count).trans (dT h)))).trans (Az (s':={s with cr:=!s.cr&&decide (0<s.cl)}) rfl (tupS (l9 rfl (l9 rfl (l9 rfl (l9 e rfl))))) rfl hb hst rfl rfl)
 ·rw[if_neg h]
  exact AH (tU rfl rfl ((Gi d .count).trans (dF h)))
theorem q8{o2 o3 o5 o6 o8 o10:OD}{m c:Int}{r:Bool}(hst:m6 st=true)(hn:[o2,o3,o5,o6,o8,o10].all uz=true):∃o4 o9,xW (x4 (l4 N4 (e9 1) (l5 (e8 (kS "cminute") (e8 (kS "csecond") (e8 (kS "full") i3))))) (y7 (u_ (e9 7))))
  (tE (tJ (l6 (i5 tG (i5 l8 (e9 4) (i4 xq (e8 (x5 (l4 uW (e9 1) (kS "cminute"))) i3))) (kI 60)) (setAt 4)))
  (tE (tJ (l6 (i5 tG (i5 l8 (e9 9) (i4 xq (e8 (x5 (l4 uW (e9 1) (kS "csecond"))) i3))) (kI 60)) (setAt 9)))
  (n8 0 (oS "count") (l5 (e8 (e9 4) (e8 (e9 9) (e8 (i5 l8 (i5 vK (kI 60) (e9 4)) (e9 9)) (e8 (fun _=>some (.bl false)) i3)))))))) uc [a,l] (DR a l s w st d o2 o3 (some (.int m)) o5 o6 (some (.bl r)) o8 (some (.int c)) o10)=some (.nx (DR a l (IJ d s m c r) w st d o2 o3 o4 o5 o6 (some (.bl r)) o8 o9 o10)):=by
  unfold IJ
  by_cases h:(d=.cminute\/d=.csecond\/d=.full)/\r=false
  · rw[if_pos h]
    obtain⟨h1,h2⟩:=h
    subst h2
    have e1:xq [.bl (decide (d=.cminute))]=some (.int (if d=.cminute then 1 else 0)):=by rw[Cr];simp
    have e2:xq [.bl (decide (d=.csecond))]=some (.int (if d=.csecond then 1 else 0)):=by rw[Cr];simp
    have hb:tW 0 (DR a l s w st d o2 o3 (some (.int ((m+if d=.cminute then 1 else 0)%60))) o5 o6 (some (.bl false)) o8 (some (.int ((c+if d=.csecond then 1 else 0)%60))) o10)=true:=KC (by simp[uz,t_,xp] at hn ⊢;exact hn)
    refine⟨some (.int ((m+if d=.cminute then 1 else 0)%60)),some (.int ((c+if d=.csecond then 1 else 0)%60)),(As (Hk (tU rfl rfl ((Pt d).trans (dT h1))) (show y7 _ _=some (!false) from GF (zR rfl)))).trans ((mN (mP (p7 (k7 (k7 rfl (i8 (l9 (Dt (tU rfl rfl (Gi d .cminute))) rfl) e1) rfl) rfl (modS (by decide))) rfl))).trans ((mN (mP (p7 (k7 (k7 rfl (i8 (l9 (Dt (tU rfl rfl (Gi d .csecond))) rfl) e2) rfl) rfl (modS (by decide))) rfl))).trans ?_))⟩
    exact Az (s':={s with cm:=(m+if d=.cminute then 1 else 0)%60,cs:=(c+if d=.csecond then 1 else 0)%60,cl:=60*((m+if d=.cminute then 1 else 0)%60)+(c+if d=.csecond then 1 else 0)%60,cr:=false}) rfl (tupS (l9 rfl (l9 rfl (l9 (k7 (k7 rfl rfl (Gc _)) rfl rfl) (l9 rfl rfl))))) rfl hb hst rfl rfl
  · rw[if_neg h]
    refine⟨_,_,AH ?_⟩
    by_cases h1:d=.cminute\/d=.csecond\/d=.full
    · have hr:r=true:=by cases r with | true=>rfl | false=>exact absurd ⟨h1,rfl⟩ h
      subst hr
      exact Hk (tU rfl rfl ((Pt d).trans (dT h1))) (show y7 _ _=some (!true) from GF (zR rfl))
    · exact Mk (tU rfl rfl ((Pt d).trans (dF h1)))
end
theorem J9(d:uY)(s:WS)(h4:s.lk.length<=4)(m0:0<=s.cm)(m1:s.cm<60)(c0:0<=s.cs)(c1:s.cs<60) :
  IJ d (Hj d (DN d (Dx d (AD d (AG d (wU d (x3 d s) s.clock) s.clock))) s.lm s.lr s.lk)) s.cm s.cs s.cr=deed d s:=by
 obtain⟨mode,clock,ah,am,aon,lm,lr,lk,cm,cs,cl,cr,ring,held,idle⟩:=s
 have em:cm%60=cm:=Int.emod_eq_of_lt m0 m1
 have ec:cs%60=cs:=Int.emod_eq_of_lt c0 c1
 cases d
 case minute =>
  have e:clock+60 - 3600*(if clock / 60%60=59 then 1 else 0)=clock - clock%3600+(clock%3600+60)%3600:=by split<;>omega
  simp[x3,wU,AG,AD,Dx,DN,Hj,IJ,deed,e]
 case lap =>
  cases lr with
  | false=>simp[x3,wU,AG,AD,Dx,DN,Hj,IJ,deed]
  | true =>
   by_cases h:4<=lk.length
   ·have:(lk++[lm]).take 4=lk:=by
     have h4':lk.length<=4:=h4
     have h':lk.length=4:=by omega
     rw[<- h',List.take_left]
    simp[x3,wU,AG,AD,Dx,DN,Hj,IJ,deed,this,h]
   ·have:(lk++[lm]).take 4=lk++[lm]:=List.take_of_length_le (by simp;omega)
    simp[x3,wU,AG,AD,Dx,DN,Hj,IJ,deed,this,h]
 case cminute=>cases cr<;>simp[x3,wU,AG,AD,Dx,DN,Hj,IJ,deed,xU,ec]
 case csecond=>cases cr<;>simp[x3,wU,AG,AD,Dx,DN,Hj,IJ,deed,xU,em]
 case full=>cases cr<;>simp[x3,wU,AG,AD,Dx,DN,Hj,IJ,deed,xU,ec,em]
 all_goals simp[x3,wU,AG,AD,Dx,DN,Hj,IJ,deed]
section
variable{a l:Nat}{s:WS}{w:Int}{st:LD}{d:uY}
theorem qX{b:Bk}(wk:s.Wk b)(hst:m6 st=true):b_ [k6 a l s w st,.str d.x]=some (.non,k6 a l (deed d s) w st):=by
 obtain⟨o4,o9,h8⟩:=q8 (a:=a) (l:=l) (w:=w) (st:=st) (d:=d) (s:=Hj d (DN d (Dx d (AD d (AG d (wU d (x3 d s) s.clock) s.clock))) s.lm s.lr s.lk)) (o2:=some (.int s.clock)) (o3:=some (.int s.ah)) (o5:=some (.bl s.aon)) (o6:=some (.int s.lm)) (o8:=some (.tup (s.lk.map .int))) (o10:=some (.int s.cl)) (m:=s.cm) (c:=s.cs) (r:=s.cr) hst (by simp[uz,t_,xp])
 rw[J9 d s wk.lk wk.cm0 wk.cm1 wk.cs0 wk.cs1] at h8
 have f3:∀t:WS,((AG d (wU d (x3 d t) t.clock) t.clock).ah=t.ah/\(AG d (wU d (x3 d t) t.clock) t.clock).am=t.am/\(AG d (wU d (x3 d t) t.clock) t.clock).aon=t.aon):=fun t=>by
  cases d<;>exact⟨rfl,rfl,rfl⟩
 have f4:∀t:WS,(AD d (AG d (wU d (x3 d t) t.clock) t.clock)).lapsD=t.lapsD/\(AD d (AG d (wU d (x3 d t) t.clock) t.clock)).lm=t.lm/\(AD d (AG d (wU d (x3 d t) t.clock) t.clock)).lr=t.lr/\(AD d (AG d (wU d (x3 d t) t.clock) t.clock)).lk=t.lk:=fun t=>by
  cases d<;>exact⟨rfl,rfl,rfl,rfl⟩
 have f6:∀t:WS,(DN d (Dx d (AD d (AG d (wU d (x3 d t) t.clock) t.clock))) t.lm t.lr t.lk).countD=t.countD:=fun t=>by
  obtain⟨mode,clock,ah,am,aon,lm,lr,lk,cm,cs,cl,cr,ring,held,idle⟩:=t
  cases d<;>first | rfl | (cases lr<;>rfl)
 have f6':∀t:WS,(DN d (Dx d (AD d (AG d (wU d (x3 d t) t.clock) t.clock))) t.lm t.lr t.lk).cm=t.cm/\(DN d (Dx d (AD d (AG d (wU d (x3 d t) t.clock) t.clock))) t.lm t.lr t.lk).cs=t.cs/\(DN d (Dx d (AD d (AG d (wU d (x3 d t) t.clock) t.clock))) t.lm t.lr t.lk).cl=t.cl/\(DN d (Dx d (AD d (AG d (wU d (x3 d t) t.clock) t.clock))) t.lm t.lr t.lk).cr=t.cr:=fun t=>by
  obtain⟨mode,clock,ah,am,aon,lm,lr,lk,cm,cs,cl,cr,ring,held,idle⟩:=t
  cases d<;>first | exact⟨rfl,rfl,rfl,rfl⟩ | (cases lr<;>exact⟨rfl,rfl,rfl,rfl⟩)
 obtain⟨g1,g2,g3⟩:=f3 s
 obtain⟨k0,k1,k2,k3⟩:=f4 s
 have p0:=f6 s
 obtain⟨p1,p2,p3,p4⟩:=f6' s
 have t0:tJ (l6 (i5 q9 (e9 0) (kS "clock")) (setAt 2)) [a,l] (DR a l s w st d)=some (.nx (DR a l s w st d (some (.int s.clock)))):=mP (p7 (k7 rfl rfl Fb) rfl)
 have t1:=q1 (a:=a) (l:=l) (w:=w) (s:=s) (d:=d) (c:=s.clock) (o3:=none) (o4:=none) (o5:=none) (o6:=none) (o7:=none) (o8:=none) (o9:=none) (o10:=none) hst rfl rfl
 have t2:=q2 (a:=a) (l:=l) (w:=w) (s:=x3 d s) (d:=d) (c:=s.clock) (o3:=none) (o4:=none) (o5:=none) (o6:=none) (o7:=none) (o8:=none) (o9:=none) (o10:=none) hst rfl
 have t3:=q3 (a:=a) (l:=l) (w:=w) (s:=wU d (x3 d s) s.clock) (d:=d) (c:=s.clock) (o3:=none) (o4:=none) (o5:=none) (o6:=none) (o7:=none) (o8:=none) (o9:=none) (o10:=none) hst rfl
 generalize hs3:AG d (wU d (x3 d s) s.clock) s.clock=s3 at *
 have t4:tJ (l6 (i5 q9 (e9 0) (kS "alarm")) (xJ [(setAt 3),(setAt 4),(setAt 5)])) [a,l] (DR a l s3 w st d (some (.int s.clock)))=some (.nx (DR a l s3 w st d (some (.int s.clock)) (some (.int s3.ah)) (some (.int s3.am)) (some (.bl s3.aon)))):=mP (p7 (k7 rfl rfl Hy) rfl)
 have t5:=q4 (a:=a) (l:=l) (w:=w) (s:=s3) (d:=d) (st:=st) (o2:=some (.int s.clock)) (o6:=none) (o7:=none) (o8:=none) (o9:=none) (o10:=none) hst rfl
 generalize hs4:AD d s3=s4 at *
 have t6:tJ (l6 (i5 q9 (e9 0) (kS "laps")) (xJ [(setAt 6),(setAt 7),(setAt 8)])) [a,l] (DR a l s4 w st d (some (.int s.clock)) (some (.int s3.ah)) (some (.int s3.am)) (some (.bl s3.aon)))=some (.nx (DR a l s4 w st d (some (.int s.clock)) (some (.int s3.ah)) (some (.int s3.am)) (some (.bl s3.aon)) (some (.int s4.lm)) (some (.bl s4.lr)) (some (.tup (s4.lk.map .int))))):=mP (p7 (k7 rfl rfl KB) rfl)
 have t7:=q5 (a:=a) (l:=l) (w:=w) (s:=s4) (d:=d) (st:=st) (o2:=some (.int s.clock)) (o3:=some (.int s3.ah)) (o4:=some (.int s3.am)) (o5:=some (.bl s3.aon)) (o9:=none) (o10:=none) hst rfl
 have t8:=q6 (a:=a) (l:=l) (w:=w) (s:=Dx d s4) (d:=d) (st:=st) (o2:=some (.int s.clock)) (o3:=some (.int s3.ah)) (o4:=some (.int s3.am)) (o5:=some (.bl s3.aon)) (o9:=none) (o10:=none) (m:=s4.lm) (r:=s4.lr) (k:=s4.lk) (by rw[k3];exact wk.lk) hst rfl
 rw[k1,k2,k3] at t6 t7 t8
 generalize hs6:DN d (Dx d s4) s.lm s.lr s.lk=s6 at *
 have t9:tJ (l6 (i5 q9 (e9 0) (kS "count")) (xJ [(setAt 4),(setAt 9),(setAt 10),(setAt 7)])) [a,l] (DR a l s6 w st d (some (.int s.clock)) (some (.int s3.ah)) (some (.int s3.am)) (some (.bl s3.aon)) (some (.int s.lm)) (some (.bl s.lr)) (some (.tup (s.lk.map .int))))=some (.nx (DR a l s6 w st d (some (.int s.clock)) (some (.int s3.ah)) (some (.int s6.cm)) (some (.bl s3.aon)) (some (.int s.lm)) (some (.bl s6.cr)) (some (.tup (s.lk.map .int))) (some (.int s6.cs)) (some (.int s6.cl)))):=mP (p7 (k7 rfl rfl IN) rfl)
 have t10:=q7 (a:=a) (l:=l) (w:=w) (s:=s6) (d:=d) (st:=st) (o2:=some (.int s.clock)) (o3:=some (.int s3.ah)) (o5:=some (.bl s3.aon)) (o6:=some (.int s.lm)) (o8:=some (.tup (s.lk.map .int))) hst (by simp[uz,t_,xp])
 rw[p1,p2,p3,p4] at t9 t10
 rw[g1,g2,g3] at t4 t5 t6 t7 t8 t9
 rw[g1,g3] at t10
 have g:eZ [a,l] (DR a l s w st d)=some (.nx (DR a l (deed d s) w st d (some (.int s.clock)) (some (.int s.ah)) o4 (some (.bl s.aon)) (some (.int s.lm)) (some (.bl s.cr)) (some (.tup (s.lk.map .int))) o9 (some (.int s.cl)))):=
  (mN t0).trans ((mN t1).trans ((mN t2).trans ((mN t3).trans ((mN t4).trans ((mN t5).trans ((mN t6).trans ((mN t7).trans ((mN t8).trans ((mN t9).trans ((mN t10).trans h8))))))))))
 show(eZ (adr (k6 a l s w st)) (DR a l s w st d)).bind _=_
 rw[uH,g,Option.bind_some]
 show Gu 0 _ _ _=_
 unfold Gu
 show(if AM (k6 a l (deed d s) w st)=true/\adr (k6 a l (deed d s) w st)=adr (k6 a l s w st) then _ else none)=_
 rw[if_pos ⟨rfl,by rw[uH,uH]⟩]
end
def d_:MU:=
  (tE (tJ (l6 (i5 k9 (i5 k9 (i5 k9 (i5 k9 (e9 0) (kI 2)) (i5 q9 (e9 1) (kS "mode"))) (kI 2)) (i4 A7 (e8 (kS "abcABC") (e8 (e9 2) i3)))) (xJ [(setAt 3),(setAt 4)])))
  (tE (xo (y4 1 (b_) (e8 (e9 1) (e8 (e9 3) i3))))
  (tE (n8 1 (oS "mode") (e9 4))
  (x9 1 (oS "story") (l5 (e8 (i5 q9 (e9 1) (kS "went")) (e8 (e9 2) i3)))))))
def aW:LD->Option (D×D):=Fh 3 5 1 (d_)
def BS(t:Int)(x:Str):D:=.tup [.int t,.str x]
theorem HB{j:Nat}{ob ob' d:D}{ρ:R}(h:e9 j ρ=some ob')(h1:AM ob'=true)(h2:adr ob'=adr ob):Gu j ob d ρ=some (d,ob'):=by
 unfold Gu
 rw[h,Option.bind_some]
 exact if_pos ⟨h1,h2⟩
section
variable{a l:Nat}{b:Bk}{s:WS}{w:Int}{st:LD}
theorem OY(p:Pr):PySem.Builtin.Str.occurrences (oS "abcABC") (Pr.x p) 0 (oS "abcABC").length 1=[Pr.ix p]:=by
 obtain⟨x,l⟩:=p
 cases x<;>cases l<;>decide +kernel
theorem O7(p:Pr):A7 [.str (oS "abcABC"),.str (Pr.x p)]=some (.int (Pr.ix p:Int)):=by
 show(match PySem.Builtin.Str.occurrences (oS "abcABC") (Pr.x p) 0 (oS "abcABC").length 1 with | i::_=>some (D.int (i:Int)) | []=>none)=_
 rw[OY]
theorem Pr.ix6(p:Pr):Pr.ix p<6:=by obtain⟨x,q⟩:=p;cases x<;>cases q<;>decide
theorem lx(ok:b.Ok)(wk:s.Wk b)(p:Pr)(hst:m6 st=true)(hl:st.length<100000):aW [b.d,k6 a l s w st,.str (Pr.x p)]=some (.non,k6 a l (press b s (Pr.ix p)) w (st++[BS w (Pr.x p)])):=by
 have hm:=wk.mode
 have hr:Pr.ix p<(b.modes.getD s.mode default).rows.length:=by rw[(ok.all _ (lO b hm)).six];exact p.ix6
 have e1:i5 k9 (i5 k9 (i5 k9 (i5 k9 (e9 0) (kI 2)) (i5 q9 (e9 1) (kS "mode"))) (kI 2)) (i4 A7 (e8 (kS "abcABC") (e8 (e9 2) i3))) [some b.d,some (k6 a l s w st),some (.str (Pr.x p)),none,none]=some (AN (b.row s.mode (Pr.ix p))):=
  k7 (k7 (k7 (k7 rfl rfl (b2 b)) (k7 rfl rfl IL) (gh b hm)) rfl (m2 _)) (i8 rfl (O7 p)) (pU _ hr)
 have t1:tJ (l6 (i5 k9 (i5 k9 (i5 k9 (i5 k9 (e9 0) (kI 2)) (i5 q9 (e9 1) (kS "mode"))) (kI 2)) (i4 A7 (e8 (kS "abcABC") (e8 (e9 2) i3)))) (xJ [(setAt 3),(setAt 4)])) [a,l] [some b.d,some (k6 a l s w st),some (.str (Pr.x p)),none,none]=some (.nx [some b.d,some (k6 a l s w st),some (.str (Pr.x p)),some (.str (b.row s.mode (Pr.ix p)).1.x),some (.int ((b.row s.mode (Pr.ix p)).2:Int))]):=mP (p7 e1 rfl)
 have t2:xo (y4 1 (b_) (e8 (e9 1) (e8 (e9 3) i3))) [a,l] [some b.d,some (k6 a l s w st),some (.str (Pr.x p)),some (.str (b.row s.mode (Pr.ix p)).1.x),some (.int ((b.row s.mode (Pr.ix p)).2:Int))]=some (.nx [some b.d,some (k6 a l (deed (b.row s.mode (Pr.ix p)).1 s) w st),some (.str (Pr.x p)),some (.str (b.row s.mode (Pr.ix p)).1.x),some (.int ((b.row s.mode (Pr.ix p)).2:Int))]):=
  NC (D9 (ob:=k6 a l s w st) rfl rfl (qX wk hst) rfl (Hr rfl) (by rw[uH];simp[Gx]))
 have t3:n8 1 (oS "mode") (e9 4) [a,l] [some b.d,some (k6 a l (deed (b.row s.mode (Pr.ix p)).1 s) w st),some (.str (Pr.x p)),some (.str (b.row s.mode (Pr.ix p)).1.x),some (.int ((b.row s.mode (Pr.ix p)).2:Int))]=some (.nx [some b.d,some (k6 a l (press b s (Pr.ix p)) w st),some (.str (Pr.x p)),some (.str (b.row s.mode (Pr.ix p)).1.x),some (.int ((b.row s.mode (Pr.ix p)).2:Int))]):=
  Az (s':=press b s (Pr.ix p)) rfl rfl rfl (Hr rfl) hst rfl rfl
 have t4:x9 1 (oS "story") (l5 (e8 (i5 q9 (e9 1) (kS "went")) (e8 (e9 2) i3))) [a,l] [some b.d,some (k6 a l (press b s (Pr.ix p)) w st),some (.str (Pr.x p)),some (.str (b.row s.mode (Pr.ix p)).1.x),some (.int ((b.row s.mode (Pr.ix p)).2:Int))]=some (.nx [some b.d,some (k6 a l (press b s (Pr.ix p)) w (st++[BS w (Pr.x p)])),some (.str (Pr.x p)),some (.str (b.row s.mode (Pr.ix p)).1.x),some (.int ((b.row s.mode (Pr.ix p)).2:Int))]):=
  OT (d:=BS w (Pr.x p)) rfl (tupS (l9 (k7 rfl rfl Ge) rfl)) rfl (Hr rfl) hst hl
 show(d_ (adr (k6 a l s w st)) [some b.d,some (k6 a l s w st),some (.str (Pr.x p)),none,none]).bind _=_
 rw[uH,show d_ [a,l] [some b.d,some (k6 a l s w st),some (.str (Pr.x p)),none,none]=_ from(mN t1).trans ((mN t2).trans ((mN t3).trans t4)),Option.bind_some]
 exact HB rfl rfl (by rw[uH,uH])
end
def DG(s:WS):Bool:=(s.cr&&s.cl==1)||(s.aon&&((s.clock+1)%86400==s.sec))
def BU(s:WS):WS:={s with clock:=(s.clock+1)%86400,ring:=mx 0 (s.ring - 1),lm:=tQ s 1,cl:=tX s 1,cr:=runsOn s 1}
def Ce(s:WS):WS:=if DG s then {BU s with ring:=10} else BU s
def LC(b:Bk)(s:WS):List Str:=match s.held with
 | some (x,some k)=>if k+1=b.hold then [x.X] else []
 | some (_,none)=>[]
 | none=>if 0<b.back/\s.idle+1=b.back/\s.mode≠0/\(b.modes.getD s.mode default).stays=false then [oS "back"] else []
def N3(b:Bk)(s:WS):WS:=match s.held with
 | some (x,some k)=>if k+1=b.hold then press b {s with held:=some (x,none)} (x.ix+3) else {s with held:=some (x,some (k+1))}
 | some (_,none)=>s
 | none=>if 0<b.back then (if s.idle+1=b.back then (if s.mode≠0/\(b.modes.getD s.mode default).stays=false then {s with idle:=0,mode:=0} else {s with idle:=0}) else {s with idle:=s.idle+1}) else s
theorem qy{b:Bk}{s:WS}(w:s.Wk b):Ce s={counted b s 1 with held:=s.held,idle:=s.idle}:=by
 have hr:(Ce s).ring=wG s 1:=by
  have h0:=w.ring0;have c0:=w.clock0;have c1:=w.clock1;have hcr:=w.cr
  have s0:0<=s.sec:=by unfold WS.sec;have:=w.ah0;have:=w.am0;omega
  have s1:s.sec<86400:=by unfold WS.sec;have:=w.ah1;have:=w.am1;omega
  rw[ww]
  unfold Ce wY
  have ha:((s.clock+1)%86400==s.sec)=decide ((s.sec - s.clock - 1)%86400+1<=1):=by
   rw[Bool.eq_iff_iff];simp;omega
  have hc:s.cr=true->(s.cl==1)=decide (s.cl<=1):=fun h=>by
   have:=hcr h
   rw[Bool.eq_iff_iff];simp;omega
  unfold DG
  rw[ha]
  cases h1:s.aon<;>cases h2:s.cr
  ·simp[BU]
  ·rw[hc h2]
   have:=hcr h2
   by_cases q:s.cl<=1
   ·have:s.cl=1:=by omega
    simp[this];rfl
   ·simp[q,BU]
  ·by_cases q:(s.sec - s.clock - 1)%86400+1<=1
   ·simp[q]
    have:(1 - ((s.sec - s.clock - 1)%86400+1))%86400=0:=by omega
    rw[this];rfl
   ·simp[q,BU]
  ·rw[hc h2]
   have:=hcr h2
   by_cases q:(s.sec - s.clock - 1)%86400+1<=1<;>by_cases q2:s.cl<=1
   ·have e:s.cl=1:=by omega
    simp[q,q2]
    have:(s.sec - s.clock - 1)%86400=0:=by omega
    rw[this,e];rfl
   ·simp[q,q2]
    have:(1 - ((s.sec - s.clock - 1)%86400+1))%86400=0:=by omega
    rw[this];rfl
   ·have e:s.cl=1:=by omega
    simp[q,q2,e];rfl
   ·simp[q,q2,BU]
 have h2:Ce s={BU s with ring:=(Ce s).ring}:=by unfold Ce;split<;>rfl
 rw[h2,hr]
 rfl
theorem so{b:Bk}{s:WS}(ok:b.Ok)(w:s.Ok b):N3 b (Ce s)=ticked b s 1:=by
 rw[qy w.toWk]
 have ei:=vH (n:=1) w.toWk (by decide)
 have wb:(behind b s 1).Wk b:=(w.toWk.cnt (n:=1) (by decide)).trn ok
 have tt:∀t,l7 b s=some t->t=1->ticked b s 1=turned b (counted b s 1):=fun t h1 h2=>by
  subst h2
  unfold ticked
  rw[h1]
  show(if (1:Int)<1 then _ else counted b (behind b s 1) (1 - 1))=_
  rw[if_neg (by decide)]
  exact xK wb
 have tn:(∀t,l7 b s=some t->1<t)->ticked b s 1=counted b s 1:=fun h=>by
  unfold ticked
  cases hh:l7 b s with
  | none=>rfl
  | some t=>exact if_pos (h t hh)
 have bk0:=w.bk
 have i0:=w.idle0
 unfold N3
 rcases hh:s.held with _ | ⟨x,_ | k⟩
 ·dsimp only
  show(if 0<b.back then (if s.idle+1=b.back then (if s.mode≠0/\(b.modes.getD s.mode default).stays=false then _ else _) else _) else _)=_
  have tu:l7 b s=if tO b s then some (wc b s) else none:=by unfold l7;rw[hh]
  rw[hh] at ei
  by_cases hb:0<b.back
  ·rw[if_pos hb]
   have i1:=w.idle1 hb
   have eb:=xl i1
   have ei':tS b s 1=(s.idle+1)%b.back:=by rw[ei,if_neg (by simp;omega)]
   by_cases h1:s.idle+1=b.back
   ·rw[if_pos h1]
    have ez:tS b s 1=0:=by rw[ei',h1,Int.emod_self]
    by_cases h2:s.mode≠0/\(b.modes.getD s.mode default).stays=false
    ·rw[if_pos h2]
     have hg:tO b s=true:=by
      obtain⟨g1,g2⟩:=h2
      unfold tO
      rw[g2]
      simp[hb,g1]
     rw[hg,if_pos rfl,eb] at tu
     rw[tt _ tu (by omega),AC (show tT s.held 1=none by rw[hh];rfl)]
     show _=({s with clock:=_,lm:=_,cl:=_,cr:=_,ring:=_,held:=tT s.held 1,idle:=tS b s 1,mode:=0}:WS)
     rw[ez,hh];rfl
    ·rw[if_neg h2]
     have hg:tO b s=false:=by
      unfold tO
      cases h3:(b.modes.getD s.mode default).stays with
      | true=>simp
      | false =>
       have:s.mode=0:=by
        by_cases h4:s.mode=0
        ·exact h4
        ·exact absurd ⟨h4,h3⟩ h2
       simp[this]
     rw[tn fun t ht=>by rw[tu,hg] at ht;cases ht]
     show _=({s with clock:=_,lm:=_,cl:=_,cr:=_,ring:=_,held:=tT s.held 1,idle:=tS b s 1}:WS)
     rw[ez,hh];rfl
   ·rw[if_neg h1]
    have ez:tS b s 1=s.idle+1:=by rw[ei'];exact Int.emod_eq_of_lt (by omega) (by omega)
    rw[tn fun t ht=>by
     rw[tu] at ht
     split at ht
     ·cases ht;omega
     ·cases ht]
    show _=({s with clock:=_,lm:=_,cl:=_,cr:=_,ring:=_,held:=tT s.held 1,idle:=tS b s 1}:WS)
    rw[ez,hh];rfl
  ·rw[if_neg hb]
   have ez:tS b s 1=s.idle:=by rw[ei,if_pos (.inr (by omega))]
   have hg:tO b s=false:=by unfold tO;simp[hb]
   rw[tn fun t ht=>by rw[tu,hg] at ht;cases ht]
   show _=({s with clock:=_,lm:=_,cl:=_,cr:=_,ring:=_,held:=tT s.held 1,idle:=tS b s 1}:WS)
   rw[ez,hh];rfl
 ·rw[hh] at ei
  have ez:tS b s 1=s.idle:=by rw[ei,if_pos (.inl rfl)]
  rw[tn fun t ht=>by unfold l7 at ht;rw[hh] at ht;cases ht]
  show _=({s with clock:=_,lm:=_,cl:=_,cr:=_,ring:=_,held:=tT s.held 1,idle:=tS b s 1}:WS)
  rw[ez,hh];rfl
 ·rw[hh] at ei
  have ez:tS b s 1=s.idle:=by rw[ei,if_pos (.inl rfl)]
  have hk:=w.held x k hh
  have tu:l7 b s=some (mx 1 (b.hold - k)):=by unfold l7;rw[hh]
  dsimp only
  by_cases h1:k+1=b.hold
  ·rw[if_pos h1,tt _ tu (by unfold mx;split<;>omega)]
   have e2:(counted b s 1).held=some (x,some (k+1)):=by show tT s.held 1=_;rw[hh];rfl
   unfold turned
   rw[e2]
   show press b _ _=press b ({s with clock:=_,lm:=_,cl:=_,cr:=_,ring:=_,held:=some (x,none),idle:=tS b s 1}:WS) _
   rw[ez];rfl
  ·rw[if_neg h1,tn fun t ht=>by rw[tu] at ht;cases ht;unfold mx;split<;>omega]
   show _=({s with clock:=_,lm:=_,cl:=_,cr:=_,ring:=_,held:=tT s.held 1,idle:=tS b s 1}:WS)
   rw[ez,hh];rfl
def eQ:MU:=
  (tE (n8 1 (oS "went") (i5 l8 (i5 q9 (e9 1) (kS "went")) (kI 1)))
  (tE (n8 1 (oS "clock") (i5 tG (i5 l8 (i5 q9 (e9 1) (kS "clock")) (kI 1)) (kI 86400)))
  (tE (n8 1 (oS "ring") (i4 DD (e8 (kI 0) (e8 (i5 vE (i5 q9 (e9 1) (kS "ring")) (kI 1)) i3))))
  (tE (tJ (l6 (i5 q9 (e9 1) (kS "laps")) (xJ [(setAt 2),(setAt 3),(setAt 4)])))
  (tE (n8 1 (oS "laps") (l5 (e8 (i5 l8 (e9 2) (i4 xq (e8 (e9 3) i3))) (e8 (e9 3) (e8 (e9 4) i3)))))
  (tE (tJ (l6 (i5 q9 (e9 1) (kS "count")) (xJ [(setAt 5),(setAt 6),(setAt 7),(setAt 3)])))
  (tE (tJ (l6 (zJ (e9 3) (x5 (l4 uW (e9 7) (kI 1)))) (setAt 8)))
  (tE (xW (u_ (e9 3))
  (n8 1 (oS "count") (l5 (e8 (e9 5) (e8 (e9 6) (e8 (i5 vE (e9 7) (kI 1)) (e8 (x5 (l4 AT (e9 7) (kI 1))) i3))))))
  uc)
  (tE (tJ (l6 (i5 q9 (e9 1) (kS "alarm")) (xJ [(setAt 9),(setAt 5),(setAt 10)])))
  (tE (tJ (yD (x4 (u_ (e9 10)) (l4 uW (i5 q9 (e9 1) (kS "clock")) (i5 l8 (i5 vK (kI 3600) (e9 9)) (i5 vK (kI 60) (e9 5)))))
  (l6 (fun _=>some (.bl true)) (setAt 8))
  ub))
  (tE (xW (u_ (e9 8))
  (tE (n8 1 (oS "ring") (kI 10))
  (x9 1 (oS "story") (l5 (e8 (i5 q9 (e9 1) (kS "went")) (e8 (kS "ring") i3)))))
  uc)
  (xW (l4 uJ (i5 q9 (e9 1) (kS "held")) (fun _=>some .non))
  (tE (tJ (l6 (i5 q9 (e9 1) (kS "held")) (xJ [(setAt 11),(setAt 12)])))
  (xW (l4 uJ (e9 12) (fun _=>some .non))
  (tE (n8 1 (oS "held") (l5 (e8 (e9 11) (e8 (i5 l8 (e9 12) (kI 1)) i3))))
  (xW (l4 uW (i5 l8 (e9 12) (kI 1)) (i5 k9 (e9 0) (kI 0)))
  (tE (n8 1 (oS "held") (l5 (e8 (e9 11) (e8 (fun _=>some .non) i3))))
  (xo (y4 1 (aW) (e8 (e9 0) (e8 (e9 1) (e8 (Fi KM (e9 11)) i3))))))
  uc))
  uc))
  (xW (l4 AT (i5 k9 (e9 0) (kI 1)) (kI 0))
  (tE (n8 1 (oS "idle") (i5 l8 (i5 q9 (e9 1) (kS "idle")) (kI 1)))
  (xW (l4 uW (i5 q9 (e9 1) (kS "idle")) (i5 k9 (e9 0) (kI 1)))
  (tE (n8 1 (oS "idle") (kI 0))
  (xW (x4 (l4 Hi (i5 q9 (e9 1) (kS "mode")) (kI 0)) (y7 (u_ (i5 k9 (i5 k9 (i5 k9 (e9 0) (kI 2)) (i5 q9 (e9 1) (kS "mode"))) (kI 1)))))
  (tE (n8 1 (oS "mode") (kI 0))
  (x9 1 (oS "story") (l5 (e8 (i5 q9 (e9 1) (kS "went")) (e8 (kS "back") i3)))))
  uc))
  uc))
  uc)))))))))))))
def bQ:LD->Option (D×D):=Fh 2 13 1 (eQ)
abbrev TR(b:Bk)(x:D)(o2 o3 o4 o5 o6 o7 o8 o9 o10 o11 o12:OD:=none):R:=[some b.d,some x,o2,o3,o4,o5,o6,o7,o8,o9,o10,o11,o12]
def Eu(b:Bk)(s:WS)(w:Int):LD:=(if DG s then [BS (w+1) (oS "ring")] else [])++(LC b (Ce s)).map (BS (w+1))
section
variable{a l:Nat}{b:Bk}{s:WS}{w:Int}{st:LD}
theorem L4(x:vI):KM (.str x.x)=some (.str x.X):=by cases x<;>rfl
theorem HN{o2 o3 o4 o5 o6 o7 o8 o9 o10:OD}(ok:b.Ok)(wk:s.Wk b)(hst:m6 st=true)(hl:st.length<100000)(hn:[o2,o3,o4,o5,o6,o7,o8,o9,o10].all uz=true):∃ ρ',(xW (l4 uJ (i5 q9 (e9 1) (kS "held")) (fun _=>some .non))
  (tE (tJ (l6 (i5 q9 (e9 1) (kS "held")) (xJ [(setAt 11),(setAt 12)])))
  (xW (l4 uJ (e9 12) (fun _=>some .non))
  (tE (n8 1 (oS "held") (l5 (e8 (e9 11) (e8 (i5 l8 (e9 12) (kI 1)) i3))))
  (xW (l4 uW (i5 l8 (e9 12) (kI 1)) (i5 k9 (e9 0) (kI 0)))
  (tE (n8 1 (oS "held") (l5 (e8 (e9 11) (e8 (fun _=>some .non) i3))))
  (xo (y4 1 (aW) (e8 (e9 0) (e8 (e9 1) (e8 (Fi KM (e9 11)) i3))))))
  uc))
  uc))
  (xW (l4 AT (i5 k9 (e9 0) (kI 1)) (kI 0))
  (tE (n8 1 (oS "idle") (i5 l8 (i5 q9 (e9 1) (kS "idle")) (kI 1)))
  (xW (l4 uW (i5 q9 (e9 1) (kS "idle")) (i5 k9 (e9 0) (kI 1)))
  (tE (n8 1 (oS "idle") (kI 0))
  (xW (x4 (l4 Hi (i5 q9 (e9 1) (kS "mode")) (kI 0)) (y7 (u_ (i5 k9 (i5 k9 (i5 k9 (e9 0) (kI 2)) (i5 q9 (e9 1) (kS "mode"))) (kI 1)))))
  (tE (n8 1 (oS "mode") (kI 0))
  (x9 1 (oS "story") (l5 (e8 (i5 q9 (e9 1) (kS "went")) (e8 (kS "back") i3)))))
  uc))
  uc))
  uc)) [a,l] (TR b (k6 a l s w st) o2 o3 o4 o5 o6 o7 o8 o9 o10)=some (.nx ρ')/\e9 1 ρ'=some (k6 a l (N3 b s) w (st++(LC b s).map (BS w))):=by
  have hb:∀x (o11 o12:OD),uz o11=true->uz o12=true->tW 1 (TR b x o2 o3 o4 o5 o6 o7 o8 o9 o10 o11 o12)=true:=fun x o11 o12 h1 h2=>Hr (by simp at hn ⊢;simp[hn,h1,h2])
  unfold N3 LC
  rcases hh:s.held with _ | ⟨x,_ | k⟩
  · have c0:=((tU (ρ:=TR b (k6 a l s w st) o2 o3 o4 o5 o6 o7 o8 o9 o10 none none) (f:=i5 q9 (e9 1) (kS "held")) (g:=fun _=>some .non) (k7 rfl rfl zq) rfl ((AQ s.held).trans (by rw[hh]))))
    by_cases hbk:0<b.back
    · have d1:n8 1 (oS "idle") (i5 l8 (i5 q9 (e9 1) (kS "idle")) (kI 1)) [a,l] (TR b (k6 a l s w st) o2 o3 o4 o5 o6 o7 o8 o9 o10)=some (.nx (TR b (k6 a l {s with idle:=s.idle+1} w st) o2 o3 o4 o5 o6 o7 o8 o9 o10)) :=
        Az (s':={s with idle:=s.idle+1}) rfl (k7 (k7 rfl rfl Ky) rfl rfl) rfl (hb _ _ _ rfl rfl) hst rfl rfl
      have c1:l4 uW (i5 q9 (e9 1) (kS "idle")) (i5 k9 (e9 0) (kI 1)) (TR b (k6 a l {s with idle:=s.idle+1} w st) o2 o3 o4 o5 o6 o7 o8 o9 o10)=some (s.idle+1==b.back):=tU (k7 rfl rfl Ky) (k7 rfl rfl (b1 b)) rfl
      by_cases h1:s.idle+1=b.back
      · rw[beq_iff_eq.mpr h1] at c1
        have d2:n8 1 (oS "idle") (kI 0) [a,l] (TR b (k6 a l {s with idle:=s.idle+1} w st) o2 o3 o4 o5 o6 o7 o8 o9 o10)=some (.nx (TR b (k6 a l {s with idle:=0} w st) o2 o3 o4 o5 o6 o7 o8 o9 o10)):=
          Az (s':={s with idle:=0}) rfl rfl rfl (hb _ _ _ rfl rfl) hst rfl rfl
        have c2:l4 Hi (i5 q9 (e9 1) (kS "mode")) (kI 0) (TR b (k6 a l {s with idle:=0} w st) o2 o3 o4 o5 o6 o7 o8 o9 o10)=some (!((s.mode:Int)==0)):=tU (k7 rfl rfl IL) rfl rfl
        have c3:y7 (u_ (i5 k9 (i5 k9 (i5 k9 (e9 0) (kI 2)) (i5 q9 (e9 1) (kS "mode"))) (kI 1))) (TR b (k6 a l {s with idle:=0} w st) o2 o3 o4 o5 o6 o7 o8 o9 o10)=some (!(b.modes.getD s.mode default).stays):=
          GF (zR (k7 (k7 (k7 rfl rfl (b2 b)) (k7 rfl rfl IL) (gh b wk.mode)) rfl (m1 _)))
        by_cases h2:s.mode≠0/\(b.modes.getD s.mode default).stays=false
        · have n0:((s.mode:Int)==0)=false:=by have:=h2.1;simp;omega
          rw[n0] at c2
          rw[h2.2] at c3
          have d3:n8 1 (oS "mode") (kI 0) [a,l] (TR b (k6 a l {s with idle:=0} w st) o2 o3 o4 o5 o6 o7 o8 o9 o10)=some (.nx (TR b (k6 a l {s with idle:=0,mode:=0} w st) o2 o3 o4 o5 o6 o7 o8 o9 o10)):=
            Az (s':={s with idle:=0,mode:=0}) rfl rfl rfl (hb _ _ _ rfl rfl) hst rfl rfl
          have d4:x9 1 (oS "story") (l5 (e8 (i5 q9 (e9 1) (kS "went")) (e8 (kS "back") i3))) [a,l] (TR b (k6 a l {s with idle:=0,mode:=0} w st) o2 o3 o4 o5 o6 o7 o8 o9 o10)=some (.nx (TR b (k6 a l {s with idle:=0,mode:=0} w (st++[BS w (oS "back")])) o2 o3 o4 o5 o6 o7 o8 o9 o10)):=
            OT (d:=BS w (oS "back")) rfl (tupS (l9 (k7 rfl rfl Ge) rfl)) rfl (hb _ _ _ rfl rfl) hst hl
          refine⟨_,(AH c0).trans ((As (tU (k7 rfl rfl (b1 b)) rfl (dT hbk))).trans ((mN d1).trans ((As c1).trans ((mN d2).trans ((As (Hk c2 c3)).trans ((mN d3).trans d4)))))),?_⟩
          dsimp only
          rw[if_pos hbk,if_pos h1,if_pos h2,if_pos ⟨hbk,h1,h2⟩,<- hh];rfl
        · have c4:x4 (l4 Hi (i5 q9 (e9 1) (kS "mode")) (kI 0)) (y7 (u_ (i5 k9 (i5 k9 (i5 k9 (e9 0) (kI 2)) (i5 q9 (e9 1) (kS "mode"))) (kI 1)))) (TR b (k6 a l {s with idle:=0} w st) o2 o3 o4 o5 o6 o7 o8 o9 o10)=some false:=by
            by_cases h3:s.mode=0
            · have:((s.mode:Int)==0)=true:=by simp[h3]
              rw[this] at c2
              exact Mk c2
            · have:((s.mode:Int)==0)=false:=by simp;omega
              rw[this] at c2
              have h4:(b.modes.getD s.mode default).stays=true:=by
                cases h5:(b.modes.getD s.mode default).stays with
                | true=>rfl
                | false=>exact absurd ⟨h3,h5⟩ h2
              rw[h4] at c3
              exact Hk c2 c3
          refine⟨_,(AH c0).trans ((As (tU (k7 rfl rfl (b1 b)) rfl (dT hbk))).trans ((mN d1).trans ((As c1).trans ((mN d2).trans (AH c4))))),?_⟩
          dsimp only
          rw[if_pos hbk,if_pos h1,if_neg h2,if_neg fun z=>h2 z.2.2,List.map_nil,List.append_nil,<- hh];rfl
      · rw[beq_eq_false_iff_ne.mpr h1] at c1
        refine⟨_,(AH c0).trans ((As (tU (k7 rfl rfl (b1 b)) rfl (dT hbk))).trans ((mN d1).trans (AH c1))),?_⟩
        dsimp only
        rw[if_pos hbk,if_neg h1,if_neg fun z=>h1 z.2.1,List.map_nil,List.append_nil,<- hh];rfl
    · refine⟨_,(AH c0).trans (AH (tU (k7 rfl rfl (b1 b)) rfl (dF hbk))),?_⟩
      dsimp only
      rw[if_neg hbk,if_neg fun z=>hbk z.1,List.map_nil,List.append_nil];rfl
  · have c0:=((tU (ρ:=TR b (k6 a l s w st) o2 o3 o4 o5 o6 o7 o8 o9 o10 none none) (f:=i5 q9 (e9 1) (kS "held")) (g:=fun _=>some .non) (k7 rfl rfl zq) rfl ((AQ s.held).trans (by rw[hh]))))
    have d1:tJ (l6 (i5 q9 (e9 1) (kS "held")) (xJ [(setAt 11),(setAt 12)])) [a,l] (TR b (k6 a l s w st) o2 o3 o4 o5 o6 o7 o8 o9 o10)=some (.nx (TR b (k6 a l s w st) o2 o3 o4 o5 o6 o7 o8 o9 o10 (some (.str x.x)) (some .non))):=mP (p7 (d:=uw (some (x,none))) (k7 rfl rfl (zq.trans (by rw[hh]))) rfl)
    refine⟨_,(As c0).trans ((mN d1).trans (AH (tU rfl rfl rfl))),?_⟩
    rw[List.map_nil,List.append_nil];rfl
  · have c0:=((tU (ρ:=TR b (k6 a l s w st) o2 o3 o4 o5 o6 o7 o8 o9 o10 none none) (f:=i5 q9 (e9 1) (kS "held")) (g:=fun _=>some .non) (k7 rfl rfl zq) rfl ((AQ s.held).trans (by rw[hh]))))
    have d1:tJ (l6 (i5 q9 (e9 1) (kS "held")) (xJ [(setAt 11),(setAt 12)])) [a,l] (TR b (k6 a l s w st) o2 o3 o4 o5 o6 o7 o8 o9 o10)=some (.nx (TR b (k6 a l s w st) o2 o3 o4 o5 o6 o7 o8 o9 o10 (some (.str x.x)) (some (.int k)))):=mP (p7 (d:=uw (some (x,some k))) (k7 rfl rfl (zq.trans (by rw[hh]))) rfl)
    have d2:n8 1 (oS "held") (l5 (e8 (e9 11) (e8 (i5 l8 (e9 12) (kI 1)) i3))) [a,l] (TR b (k6 a l s w st) o2 o3 o4 o5 o6 o7 o8 o9 o10 (some (.str x.x)) (some (.int k)))=some (.nx (TR b (k6 a l {s with held:=some (x,some (k+1))} w st) o2 o3 o4 o5 o6 o7 o8 o9 o10 (some (.str x.x)) (some (.int k)))):=
      Az (s':={s with held:=some (x,some (k+1))}) rfl (tupS (l9 rfl (l9 (k7 rfl rfl rfl) rfl))) rfl (hb _ _ _ rfl rfl) hst (E7 _) rfl
    have c2:l4 uW (i5 l8 (e9 12) (kI 1)) (i5 k9 (e9 0) (kI 0)) (TR b (k6 a l {s with held:=some (x,some (k+1))} w st) o2 o3 o4 o5 o6 o7 o8 o9 o10 (some (.str x.x)) (some (.int k)))=some (k+1==b.hold):=tU (k7 rfl rfl rfl) (k7 rfl rfl (b0 b)) rfl
    by_cases h1:k+1=b.hold
    · rw[beq_iff_eq.mpr h1] at c2
      have d3:n8 1 (oS "held") (l5 (e8 (e9 11) (e8 (fun _=>some .non) i3))) [a,l] (TR b (k6 a l {s with held:=some (x,some (k+1))} w st) o2 o3 o4 o5 o6 o7 o8 o9 o10 (some (.str x.x)) (some (.int k)))=some (.nx (TR b (k6 a l {s with held:=some (x,none)} w st) o2 o3 o4 o5 o6 o7 o8 o9 o10 (some (.str x.x)) (some (.int k)))):=
        Az (s':={s with held:=some (x,none)}) rfl (tupS (l9 rfl rfl)) rfl (hb _ _ _ rfl rfl) hst rfl rfl
      have hwk:WS.Wk b {s with held:=some (x,none)}:={wk with}
      have e5:=lx (a:=a) (l:=l) (w:=w) (st:=st) ok hwk (x,true) hst hl
      have d4:xo (y4 1 (aW) (e8 (e9 0) (e8 (e9 1) (e8 (Fi KM (e9 11)) i3)))) [a,l] (TR b (k6 a l {s with held:=some (x,none)} w st) o2 o3 o4 o5 o6 o7 o8 o9 o10 (some (.str x.x)) (some (.int k)))=some (.nx (TR b (k6 a l (press b {s with held:=some (x,none)} (x.ix+3)) w (st++[BS w x.X])) o2 o3 o4 o5 o6 o7 o8 o9 o10 (some (.str x.x)) (some (.int k)))):=
        NC (D9 (ob:=k6 a l {s with held:=some (x,none)} w st) rfl (l9 rfl (l9 rfl (l9 (NI rfl (L4 x)) rfl))) e5 rfl (hb _ _ _ rfl rfl) (by rw[uH];simp[Gx]))
      refine⟨_,(As c0).trans ((mN d1).trans ((As (tU rfl rfl rfl)).trans ((mN d2).trans ((As c2).trans ((mN d3).trans d4))))),?_⟩
      dsimp only
      rw[if_pos h1,if_pos h1];rfl
    · rw[beq_eq_false_iff_ne.mpr h1] at c2
      refine⟨_,(As c0).trans ((mN d1).trans ((As (tU rfl rfl rfl)).trans ((mN d2).trans (AH c2)))),?_⟩
      dsimp only
      rw[if_neg h1,if_neg h1,List.map_nil,List.append_nil];rfl
end
section
variable{a l:Nat}{b:Bk}{s:WS}{w:Int}{st:LD}
theorem sG(w:s.Wk b):(Ce s).Wk b:=by
 rw[qy w]
 exact {w.cnt (n:=1) (by decide) with idle0:=w.idle0,idle1:=w.idle1,idle2:=w.idle2}
theorem Nf(s:WS):s.lm+(if s.lr then 1 else 0)=tQ s 1:=by unfold tQ;split<;>omega
theorem HS(wk:s.Wk b):s.cr=true->s.cl - 1=tX s 1/\decide (s.cl > 1)=runsOn s 1:=fun h=>by
 have h0:=wk.cr h
 refine⟨?_,?_⟩
 ·unfold tX mx;rw[if_pos h];split<;>omega
 ·rw[vi s (by decide),h];rfl
theorem qM(ok:b.Ok)(wo:s.Ok b)(hst:m6 st=true)(hl:st.length<99000):bQ [b.d,k6 a l s w st]=some (.non,k6 a l (ticked b s 1) (w+1) (st++Eu b s w)):=by
 have wk:=wo.toWk
 have hb:∀x (o2 o3 o4 o5 o6 o7 o8 o9 o10 o11 o12:OD),[o2,o3,o4,o5,o6,o7,o8,o9,o10,o11,o12].all uz=true->tW 1 (TR b x o2 o3 o4 o5 o6 o7 o8 o9 o10 o11 o12)=true:=fun x o2 o3 o4 o5 o6 o7 o8 o9 o10 o11 o12 h=>Hr h
 have d1:n8 1 (oS "went") (i5 l8 (i5 q9 (e9 1) (kS "went")) (kI 1)) [a,l] (TR b (k6 a l s w st))=some (.nx (TR b (k6 a l s (w+1) st))):=
  Az (s':=s) (w':=w+1) rfl (k7 (k7 rfl rfl Ge) rfl rfl) rfl (hb _ _ _ _ _ _ _ _ _ _ _ _ rfl) hst rfl rfl
 have d2:n8 1 (oS "clock") (i5 tG (i5 l8 (i5 q9 (e9 1) (kS "clock")) (kI 1)) (kI 86400)) [a,l] (TR b (k6 a l s (w+1) st))=some (.nx (TR b (k6 a l {s with clock:=(s.clock+1)%86400} (w+1) st))):=
  Az (s':={s with clock:=(s.clock+1)%86400}) rfl (k7 (k7 (k7 rfl rfl Fb) rfl rfl) rfl (modS (by decide))) rfl (hb _ _ _ _ _ _ _ _ _ _ _ _ rfl) hst rfl rfl
 have d3:n8 1 (oS "ring") (i4 DD (e8 (kI 0) (e8 (i5 vE (i5 q9 (e9 1) (kS "ring")) (kI 1)) i3))) [a,l] (TR b (k6 a l {s with clock:=(s.clock+1)%86400} (w+1) st))=some (.nx (TR b (k6 a l {s with clock:=(s.clock+1)%86400,ring:=mx 0 (s.ring - 1)} (w+1) st))):=
  Az (s':={s with clock:=(s.clock+1)%86400,ring:=mx 0 (s.ring - 1)}) rfl (i8 (l9 rfl (l9 (k7 (k7 rfl rfl Kq) rfl rfl) rfl)) (Mm 0 (s.ring - 1))) rfl (hb _ _ _ _ _ _ _ _ _ _ _ _ rfl) hst rfl rfl
 have d4:tJ (l6 (i5 q9 (e9 1) (kS "laps")) (xJ [(setAt 2),(setAt 3),(setAt 4)])) [a,l] (TR b (k6 a l {s with clock:=(s.clock+1)%86400,ring:=mx 0 (s.ring - 1)} (w+1) st))=some (.nx (TR b (k6 a l {s with clock:=(s.clock+1)%86400,ring:=mx 0 (s.ring - 1)} (w+1) st) (some (.int s.lm)) (some (.bl s.lr)) (some (.tup (s.lk.map .int))))):=mP (p7 (k7 rfl rfl KB) rfl)
 have d5:n8 1 (oS "laps") (l5 (e8 (i5 l8 (e9 2) (i4 xq (e8 (e9 3) i3))) (e8 (e9 3) (e8 (e9 4) i3)))) [a,l] (TR b (k6 a l {s with clock:=(s.clock+1)%86400,ring:=mx 0 (s.ring - 1)} (w+1) st) (some (.int s.lm)) (some (.bl s.lr)) (some (.tup (s.lk.map .int))))=some (.nx (TR b (k6 a l {s with clock:=(s.clock+1)%86400,ring:=mx 0 (s.ring - 1),lm:=tQ s 1} (w+1) st) (some (.int s.lm)) (some (.bl s.lr)) (some (.tup (s.lk.map .int))))):=by
  have e:l8 (.int s.lm) (.int (if s.lr then 1 else 0))=some (.int (tQ s 1)):=by rw[<- Nf];rfl
  exact Az (s':={s with clock:=(s.clock+1)%86400,ring:=mx 0 (s.ring - 1),lm:=tQ s 1}) rfl (tupS (l9 (k7 rfl (i8 rfl (Cr s.lr)) e) (l9 rfl (l9 rfl rfl)))) (yN {s with lm:=tQ s 1}) (hb _ _ _ _ _ _ _ _ _ _ _ _ (by simp[uz,t_,xp])) hst (yN s) rfl
 have d6:tJ (l6 (i5 q9 (e9 1) (kS "count")) (xJ [(setAt 5),(setAt 6),(setAt 7),(setAt 3)])) [a,l] (TR b (k6 a l {s with clock:=(s.clock+1)%86400,ring:=mx 0 (s.ring - 1),lm:=tQ s 1} (w+1) st) (some (.int s.lm)) (some (.bl s.lr)) (some (.tup (s.lk.map .int))))=some (.nx (TR b (k6 a l {s with clock:=(s.clock+1)%86400,ring:=mx 0 (s.ring - 1),lm:=tQ s 1} (w+1) st) (some (.int s.lm)) (some (.bl s.cr)) (some (.tup (s.lk.map .int))) (some (.int s.cm)) (some (.int s.cs)) (some (.int s.cl)))):=mP (p7 (k7 rfl rfl IN) rfl)
 have d7:tJ (l6 (zJ (e9 3) (x5 (l4 uW (e9 7) (kI 1)))) (setAt 8)) [a,l] (TR b (k6 a l {s with clock:=(s.clock+1)%86400,ring:=mx 0 (s.ring - 1),lm:=tQ s 1} (w+1) st) (some (.int s.lm)) (some (.bl s.cr)) (some (.tup (s.lk.map .int))) (some (.int s.cm)) (some (.int s.cs)) (some (.int s.cl)))=some (.nx (TR b (k6 a l {s with clock:=(s.clock+1)%86400,ring:=mx 0 (s.ring - 1),lm:=tQ s 1} (w+1) st) (some (.int s.lm)) (some (.bl s.cr)) (some (.tup (s.lk.map .int))) (some (.int s.cm)) (some (.int s.cs)) (some (.int s.cl)) (some (.bl (s.cr&&s.cl==1))))):=by
  refine mP (p7 (d:=.bl (s.cr&&s.cl==1)) ?_ rfl)
  cases h:s.cr with
  | true=>exact KJ rfl (Dt (tU rfl rfl rfl))
  | false=>exact DU rfl
 have d8:xW (u_ (e9 3)) (n8 1 (oS "count") (l5 (e8 (e9 5) (e8 (e9 6) (e8 (i5 vE (e9 7) (kI 1)) (e8 (x5 (l4 AT (e9 7) (kI 1))) i3)))))) uc [a,l] (TR b (k6 a l {s with clock:=(s.clock+1)%86400,ring:=mx 0 (s.ring - 1),lm:=tQ s 1} (w+1) st) (some (.int s.lm)) (some (.bl s.cr)) (some (.tup (s.lk.map .int))) (some (.int s.cm)) (some (.int s.cs)) (some (.int s.cl)) (some (.bl (s.cr&&s.cl==1))))=some (.nx (TR b (k6 a l (BU s) (w+1) st) (some (.int s.lm)) (some (.bl s.cr)) (some (.tup (s.lk.map .int))) (some (.int s.cm)) (some (.int s.cs)) (some (.int s.cl)) (some (.bl (s.cr&&s.cl==1))))):=by
  cases h:s.cr with
  | true =>
   obtain⟨h1,h2⟩:=HS wk h
   have e1:vE (.int s.cl) (.int 1)=some (.int (tX s 1)):=by rw[<- h1];rfl
   have e2:AT (.int s.cl) (.int 1)=some (runsOn s 1):=by rw[<- h2];rfl
   exact(As (zR rfl)).trans (Az (s':=BU s) rfl (tupS (l9 rfl (l9 rfl (l9 (k7 rfl rfl e1) (l9 (Dt (tU rfl rfl e2)) rfl))))) rfl (hb _ _ _ _ _ _ _ _ _ _ _ _ (by simp[uz,t_,xp])) hst rfl rfl)
  | false =>
   have e:BU s={s with clock:=(s.clock+1)%86400,ring:=mx 0 (s.ring - 1),lm:=tQ s 1}:=by
    have h1:tX s 1=s.cl:=by unfold tX;rw[if_neg (by rw[h];decide)]
    have h2:runsOn s 1=s.cr:=by rw[vi s (by decide),h];rfl
    unfold BU;rw[h1,h2]
   rw[e]
   exact(AH (zR (b:=false) (by rw[<- h];rfl))).trans (by rw[h];rfl)
 have d9:tJ (l6 (i5 q9 (e9 1) (kS "alarm")) (xJ [(setAt 9),(setAt 5),(setAt 10)])) [a,l] (TR b (k6 a l (BU s) (w+1) st) (some (.int s.lm)) (some (.bl s.cr)) (some (.tup (s.lk.map .int))) (some (.int s.cm)) (some (.int s.cs)) (some (.int s.cl)) (some (.bl (s.cr&&s.cl==1))))=some (.nx (TR b (k6 a l (BU s) (w+1) st) (some (.int s.lm)) (some (.bl s.cr)) (some (.tup (s.lk.map .int))) (some (.int s.am)) (some (.int s.cs)) (some (.int s.cl)) (some (.bl (s.cr&&s.cl==1))) (some (.int s.ah)) (some (.bl s.aon)))):=mP (p7 (k7 rfl rfl Hy) rfl)
 have d10:tJ (yD (x4 (u_ (e9 10)) (l4 uW (i5 q9 (e9 1) (kS "clock")) (i5 l8 (i5 vK (kI 3600) (e9 9)) (i5 vK (kI 60) (e9 5))))) (l6 (fun _=>some (.bl true)) (setAt 8)) ub) [a,l] (TR b (k6 a l (BU s) (w+1) st) (some (.int s.lm)) (some (.bl s.cr)) (some (.tup (s.lk.map .int))) (some (.int s.am)) (some (.int s.cs)) (some (.int s.cl)) (some (.bl (s.cr&&s.cl==1))) (some (.int s.ah)) (some (.bl s.aon)))=some (.nx (TR b (k6 a l (BU s) (w+1) st) (some (.int s.lm)) (some (.bl s.cr)) (some (.tup (s.lk.map .int))) (some (.int s.am)) (some (.int s.cs)) (some (.int s.cl)) (some (.bl (DG s))) (some (.int s.ah)) (some (.bl s.aon)))):=by
  have e:l4 uW (i5 q9 (e9 1) (kS "clock")) (i5 l8 (i5 vK (kI 3600) (e9 9)) (i5 vK (kI 60) (e9 5))) (TR b (k6 a l (BU s) (w+1) st) (some (.int s.lm)) (some (.bl s.cr)) (some (.tup (s.lk.map .int))) (some (.int s.am)) (some (.int s.cs)) (some (.int s.cl)) (some (.bl (s.cr&&s.cl==1))) (some (.int s.ah)) (some (.bl s.aon)))=some ((s.clock+1)%86400==s.sec):=tU (k7 rfl rfl Fb) (k7 (k7 rfl rfl (Dl _)) (k7 rfl rfl (Gc _)) rfl) rfl
  refine mP ?_
  unfold DG
  cases h:s.aon with
  | false =>
   rw[show(false&&((s.clock+1)%86400==s.sec))=false from rfl,Bool.or_false]
   exact yd (Mk (zR rfl))
  | true =>
   rw[h] at e
   cases h2:((s.clock+1)%86400==s.sec) with
   | true =>
    rw[h2] at e
    rw[show(true&&true)=true from rfl,Bool.or_true]
    exact(zQ (Hk (zR rfl) e)).trans rfl
   | false =>
    rw[h2] at e
    rw[show(true&&false)=false from rfl,Bool.or_false]
    exact yd (Hk (zR rfl) e)
 have d11:xW (u_ (e9 8)) (tE (n8 1 (oS "ring") (kI 10)) (x9 1 (oS "story") (l5 (e8 (i5 q9 (e9 1) (kS "went")) (e8 (kS "ring") i3))))) uc [a,l] (TR b (k6 a l (BU s) (w+1) st) (some (.int s.lm)) (some (.bl s.cr)) (some (.tup (s.lk.map .int))) (some (.int s.am)) (some (.int s.cs)) (some (.int s.cl)) (some (.bl (DG s))) (some (.int s.ah)) (some (.bl s.aon)))=some (.nx (TR b (k6 a l (Ce s) (w+1) (st++(if DG s then [BS (w+1) (oS "ring")] else []))) (some (.int s.lm)) (some (.bl s.cr)) (some (.tup (s.lk.map .int))) (some (.int s.am)) (some (.int s.cs)) (some (.int s.cl)) (some (.bl (DG s))) (some (.int s.ah)) (some (.bl s.aon)))):=by
  unfold Ce
  cases h:DG s with
  | true =>
   have f1:n8 1 (oS "ring") (kI 10) [a,l] (TR b (k6 a l (BU s) (w+1) st) (some (.int s.lm)) (some (.bl s.cr)) (some (.tup (s.lk.map .int))) (some (.int s.am)) (some (.int s.cs)) (some (.int s.cl)) (some (.bl true)) (some (.int s.ah)) (some (.bl s.aon)))=some (.nx (TR b (k6 a l {BU s with ring:=10} (w+1) st) (some (.int s.lm)) (some (.bl s.cr)) (some (.tup (s.lk.map .int))) (some (.int s.am)) (some (.int s.cs)) (some (.int s.cl)) (some (.bl true)) (some (.int s.ah)) (some (.bl s.aon)))):=
    Az (s':={BU s with ring:=10}) rfl rfl rfl (hb _ _ _ _ _ _ _ _ _ _ _ _ (by simp[uz,t_,xp])) hst rfl rfl
   have f2:x9 1 (oS "story") (l5 (e8 (i5 q9 (e9 1) (kS "went")) (e8 (kS "ring") i3))) [a,l] (TR b (k6 a l {BU s with ring:=10} (w+1) st) (some (.int s.lm)) (some (.bl s.cr)) (some (.tup (s.lk.map .int))) (some (.int s.am)) (some (.int s.cs)) (some (.int s.cl)) (some (.bl true)) (some (.int s.ah)) (some (.bl s.aon)))=some (.nx (TR b (k6 a l {BU s with ring:=10} (w+1) (st++[BS (w+1) (oS "ring")])) (some (.int s.lm)) (some (.bl s.cr)) (some (.tup (s.lk.map .int))) (some (.int s.am)) (some (.int s.cs)) (some (.int s.cl)) (some (.bl true)) (some (.int s.ah)) (some (.bl s.aon)))):=
    OT (d:=BS (w+1) (oS "ring")) rfl (tupS (l9 (k7 rfl rfl Ge) rfl)) rfl (hb _ _ _ _ _ _ _ _ _ _ _ _ (by simp[uz,t_,xp])) hst (by omega)
   exact(As (zR rfl)).trans ((mN f1).trans f2)
  | false =>
   rw[if_neg Bool.false_ne_true,if_neg Bool.false_ne_true,List.append_nil]
   exact AH (zR rfl)
 have hst2:m6 (st++(if DG s then [BS (w+1) (oS "ring")] else []))=true:=by
  cases DG s with
  | true=>exact Gk rfl hst
  | false=>rw[if_neg Bool.false_ne_true,List.append_nil];exact hst
 obtain⟨ρ',e12,v12⟩:=HN (a:=a) (l:=l) (b:=b) (s:=Ce s) (w:=w+1) (st:=st++(if DG s then [BS (w+1) (oS "ring")] else [])) (o2:=some (.int s.lm)) (o3:=some (.bl s.cr)) (o4:=some (.tup (s.lk.map .int))) (o5:=some (.int s.am)) (o6:=some (.int s.cs)) (o7:=some (.int s.cl)) (o8:=some (.bl (DG s))) (o9:=some (.int s.ah)) (o10:=some (.bl s.aon)) ok (sG wk) hst2 (by rw[List.length_append];split<;>simp<;>omega) (by simp[uz,t_,xp])
 show(eQ (adr (k6 a l s w st)) (TR b (k6 a l s w st))).bind _=_
 rw[uH,show eQ [a,l] (TR b (k6 a l s w st))=some (.nx ρ') from(mN d1).trans ((mN d2).trans ((mN d3).trans ((mN d4).trans ((mN d5).trans ((mN d6).trans ((mN d7).trans ((mN d8).trans ((mN d9).trans ((mN d10).trans ((mN d11).trans e12)))))))))),Option.bind_some]
 rw[so ok wo,List.append_assoc] at v12
 exact HB v12 rfl (by rw[uH,uH])
end
def br:MU:=
  (xW (l4 uW (i5 k9 (e9 2) (kI 0)) (kS "ticks"))
  (Hu (uD (i5 k9 (e9 2) (kI 1))) (setAt 3)
  (xo (y4 1 (bQ) (e8 (e9 0) (e8 (e9 1) i3)))))
  (xW (l4 uW (i5 k9 (e9 2) (kI 0)) (kS "down"))
  (xW (l4 zT (i5 q9 (e9 1) (kS "held")) (fun _=>some .non))
  (tE (n8 1 (oS "idle") (kI 0))
  (tE (n8 1 (oS "held") (l5 (e8 (i5 k9 (e9 2) (kI 1)) (e8 (i5 k9 (BB (e8 (kI 0) (e8 (fun _=>some .non) i3))) (i4 xq (e8 (x5 (l4 AT (i5 q9 (e9 1) (kS "ring")) (kI 0))) i3))) i3))))
  (n8 1 (oS "ring") (kI 0))))
  uc)
  (xW (x4 (l4 uJ (i5 q9 (e9 1) (kS "held")) (fun _=>some .non)) (l4 uW (i5 k9 (i5 q9 (e9 1) (kS "held")) (kI 0)) (i5 k9 (e9 2) (kI 1))))
  (tE (xW (l4 uJ (i5 k9 (i5 q9 (e9 1) (kS "held")) (kI 1)) (fun _=>some .non))
  (xo (y4 1 (aW) (e8 (e9 0) (e8 (e9 1) (e8 (i5 k9 (e9 2) (kI 1)) i3)))))
  uc)
  (tE (n8 1 (oS "held") (fun _=>some .non))
  (n8 1 (oS "idle") (kI 0))))
  uc)))
def bh:LD->Option (D×D):=Fh 3 4 1 (br)
def stN(b:Bk)(s:WS)(w:Int):Nat->LD
 | 0=>[]
 | n+1=>stN b s w n++Eu b (ticked b s n) (w+n)
theorem dz:∀{p q:LD},m6 p=true->m6 q=true->m6 (p++q)=true
 | [],_,_,h=>h
 | x::p,q,h1,h2=>by
  have h':(t_ x&&m6 p)=true:=h1
  rw[Bool.and_eq_true] at h'
  show(t_ x&&m6 (p++q))=true
  rw[h'.1,dz h'.2 h2];rfl
theorem nz(b:Bk)(s:WS)(w:Int):m6 (Eu b s w)=true:=by
 refine dz ?_ (Ay (fun _=>rfl) _)
 split<;>rfl
theorem rC(b:Bk)(t:WS):(LC b t).length<=1:=by
 unfold LC
 rcases t.held with _ | ⟨x,_ | k⟩
 ·dsimp only;split<;>simp
 ·simp
 ·dsimp only;split<;>simp
theorem nD(b:Bk)(s:WS)(w:Int):(Eu b s w).length<=2:=by
 unfold Eu
 rw[List.length_append,List.length_map]
 have h1:(if DG s=true then [BS (w+1) (oS "ring")] else []).length<=1:=by split<;>simp
 have h2:=rC b (Ce s)
 omega
theorem Gg{stp:D->R->Option R}{u:MU}{S:List Nat}{d:D}{ds:LD}{ρ ρ1 ρ2:R}(h1:stp d ρ=some ρ1)(h2:u S ρ1=some (.nx ρ2)):CY stp u S (d::ds) ρ=CY stp u S ds ρ2:=by
 show(stp d ρ).bind _=_
 rw[h1,Option.bind_some]
 show(u S ρ1).bind _=_
 rw[h2];rfl
section
variable{a l:Nat}{b:Bk}{w:Int}
theorem oM(s:WS)(n:Nat)(ok:b.Ok)(wo:s.Ok b):stN b s w (n+1)=Eu b s w++stN b (ticked b s 1) (w+1) n:=by
 induction n with
 | zero =>
  show []++Eu b (ticked b s ((0:Nat):Int)) (w+((0:Nat):Int))=Eu b s w++[]
  rw[show(((0:Nat):Int))=0 from rfl,AB wo,Int.add_zero,List.append_nil];rfl
 | succ n ih =>
  show stN b s w (n+1)++Eu b (ticked b s ((n+1:Nat):Int)) (w+((n+1:Nat):Int))=Eu b s w++(stN b (ticked b s 1) (w+1) n++Eu b (ticked b (ticked b s 1) (n:Int)) (w+1+(n:Int)))
  rw[ih,List.append_assoc,Bf ok wo (by decide) (by omega)]
  have e1:((n+1:Nat):Int)=1+(n:Int):=by omega
  have e2:w+((n+1:Nat):Int)=w+1+(n:Int):=by omega
  rw[e1,<- e2,e1]
theorem BA(ok:b.Ok)(ev:D)(hev:t_ ev=true):∀(ds:LD) (s:WS) (w:Int) (st:LD) (o3:OD),m6 ds=true->s.Ok b->m6 st=true->st.length+2*ds.length<98000->uz o3=true ->
  ∃o3',CY (setAt 3) (xo (y4 1 (bQ) (e8 (e9 0) (e8 (e9 1) i3)))) [a,l] ds [some b.d,some (k6 a l s w st),some ev,o3]=some (.nx [some b.d,some (k6 a l (ticked b s ds.length) (w+ds.length) (st++stN b s w ds.length)),some ev,o3'])
 | [],s,w,st,o3,_,wo,_,_,_=>by
  refine⟨o3,?_⟩
  show some (MO.nx [some b.d,some (k6 a l s w st),some ev,o3])=some (MO.nx [some b.d,some (k6 a l (ticked b s 0) (w+0) (st++[])),some ev,o3])
  rw[AB wo,Int.add_zero,List.append_nil]
 | d::ds,s,w,st,o3,hn,wo,hst,hl,ho=>by
  have hn':(t_ d&&m6 ds)=true:=hn
  rw[Bool.and_eq_true] at hn'
  rw[List.length_cons] at hl
  have e1:=qM (a:=a) (l:=l) (w:=w) ok wo hst (by omega)
  have hb:tW 1 [some b.d,some (k6 a l s w st),some ev,some d]=true:=Hr (by simp[uz,hev,hn'.1])
  have e2:xo (y4 1 (bQ) (e8 (e9 0) (e8 (e9 1) i3))) [a,l] [some b.d,some (k6 a l s w st),some ev,some d]=some (.nx [some b.d,some (k6 a l (ticked b s 1) (w+1) (st++Eu b s w)),some ev,some d]):=
   NC (D9 (ob:=k6 a l s w st) rfl rfl e1 rfl hb (by rw[uH];simp[Gx]))
  have hl2:=nD b s w
  obtain⟨o3',h⟩:=BA ok ev hev ds (ticked b s 1) (w+1) (st++Eu b s w) (some d) hn'.2 (De ok wo (by decide)) (dz hst (nz b s w)) (by rw[List.length_append];omega) hn'.1
  refine⟨o3',(Gg rfl e2).trans (h.trans ?_)⟩
  have e3:(1:Int)+(ds.length:Int)=((ds.length+1:Nat):Int):=by omega
  rw[Bf ok wo (by decide) (by omega),List.append_assoc,<- oM s ds.length ok wo,e3,show w+1+(ds.length:Int)=w+((ds.length+1:Nat):Int) by omega];rfl
theorem nK(n:Int):m6 (uN 0 n)=true:=by
 unfold uN
 exact Ay (fun _=>rfl) _
theorem qC{s:WS}{st:LD}{n:Int}(ok:b.Ok)(wo:s.Ok b)(hst:m6 st=true)(h0:0<=n)(h1:n<40000)(hl:st.length+2*n.toNat<98000):bh [b.d,k6 a l s w st,(Ev.ticks n).d]=some (.non,k6 a l (ticked b s n) (w+n) (st++stN b s w n.toNat)):=by
 have hlen:(uN 0 n).length=n.toNat:=by simp[uN]
 obtain⟨o3',h⟩:=BA (a:=a) (l:=l) ok (Ev.ticks n).d rfl (uN 0 n) s w st none (nK n) wo hst (by rw[hlen];exact hl) rfl
 rw[hlen,show((n.toNat:Nat):Int)=n by omega] at h
 have it:uD (i5 k9 (e9 2) (kI 1)) [some b.d,some (k6 a l s w st),some (Ev.ticks n).d,none]=some (uN 0 n):=by
  show(i5 k9 (e9 2) (kI 1) _).bind _=_
  rw[k7 (z:=.int n) rfl rfl rfl,Option.bind_some]
  exact if_pos ⟨by omega,by omega⟩
 have e:br [a,l] [some b.d,some (k6 a l s w st),some (Ev.ticks n).d,none]=some (.nx [some b.d,some (k6 a l (ticked b s n) (w+n) (st++stN b s w n.toNat)),some (Ev.ticks n).d,o3']):=by
  refine(As (tU (k7 rfl rfl rfl) rfl rfl)).trans ?_
  show(uD _ _).bind _=_
  rw[it,Option.bind_some,if_pos (nK n)]
  exact h
 show(br (adr (k6 a l s w st)) [some b.d,some (k6 a l s w st),some (Ev.ticks n).d,none]).bind _=_
 rw[uH,e,Option.bind_some]
 exact HB rfl rfl (by rw[uH,uH])
end
theorem nQ(b:Bk)(s:WS)(w:Int):∀n,m6 (stN b s w n)=true
 | 0=>rfl
 | n+1=>dz (nQ b s w n) (nz b _ _)
theorem nv(b:Bk)(s:WS)(w:Int):∀n,(stN b s w n).length<=2*n
 | 0=>Nat.le_refl 0
 | n+1=>by
  have h1:=nv b s w n
  have h2:=nD b (ticked b s n) (w+n)
  show(stN b s w n++Eu b (ticked b s n) (w+n)).length<=_
  rw[List.length_append];omega
def D5(b:Bk)(s:WS)(w:Int):Ev->LD
 | .ticks n=>stN b s w n.toNat
 | .down _=>[]
 | .up x=>match s.held with
  | some (y,some _)=>if y=x then [BS w x.x] else []
  | _=>[]
def wE(w:Int):Ev->Int
 | .ticks n=>w+n
 | _=>w
theorem Mu(x y:vI):uW (.str x.x) (.str y.x)=some (decide (x=y)):=by cases x<;>cases y<;>rfl
theorem Gn(b:Bk)(s:WS)(w:Int)(e:Ev):m6 (D5 b s w e)=true:=by
 cases e with
 | ticks n=>exact nQ b s w _
 | down x=>rfl
 | up x =>
  unfold D5
  rcases s.held with _ | ⟨y,_ | k⟩
  ·rfl
  ·rfl
  ·dsimp only;split<;>rfl
section
variable{a l:Nat}{b:Bk}{s:WS}{w:Int}{st:LD}
theorem rg(hst:m6 st=true)(x:vI):bh [b.d,k6 a l s w st,(Ev.down x).d]=some (.non,k6 a l (pushed s x) w st):=by
 have hb:∀y,tW 1 [some b.d,some y,some (Ev.down x).d,none]=true:=fun y=>Hr rfl
 have c1:l4 uW (i5 k9 (e9 2) (kI 0)) (kS "ticks") [some b.d,some (k6 a l s w st),some (Ev.down x).d,none]=some false:=tU (k7 rfl rfl rfl) rfl rfl
 have c2:l4 uW (i5 k9 (e9 2) (kI 0)) (kS "down") [some b.d,some (k6 a l s w st),some (Ev.down x).d,none]=some true:=tU (k7 rfl rfl rfl) rfl rfl
 have c3:l4 zT (i5 q9 (e9 1) (kS "held")) (fun _=>some .non) [some b.d,some (k6 a l s w st),some (Ev.down x).d,none]=some (!s.held.isSome):=tU (k7 rfl rfl zq) rfl (JA _)
 have key:br [a,l] [some b.d,some (k6 a l s w st),some (Ev.down x).d,none]=some (.nx [some b.d,some (k6 a l (pushed s x) w st),some (Ev.down x).d,none]):=by
  refine(AH c1).trans ((As c2).trans ?_)
  unfold pushed
  cases hh:s.held.isSome with
  | true =>
   rw[hh] at c3
   exact(AH c3).trans rfl
  | false =>
   rw[hh] at c3
   have d1:n8 1 (oS "idle") (kI 0) [a,l] [some b.d,some (k6 a l s w st),some (Ev.down x).d,none]=some (.nx [some b.d,some (k6 a l {s with idle:=0} w st),some (Ev.down x).d,none]):=Az (s':={s with idle:=0}) rfl rfl rfl (hb _) hst rfl rfl
   have e2:i5 k9 (BB (e8 (kI 0) (e8 (fun _=>some .non) i3))) (i4 xq (e8 (x5 (l4 AT (i5 q9 (e9 1) (kS "ring")) (kI 0))) i3)) [some b.d,some (k6 a l {s with idle:=0} w st),some (Ev.down x).d,none]=some (ue (if 0<s.ring then none else some 0)):=by
    have q:x5 (l4 AT (i5 q9 (e9 1) (kS "ring")) (kI 0)) [some b.d,some (k6 a l {s with idle:=0} w st),some (Ev.down x).d,none]=some (.bl (decide (s.ring > 0))):=Dt (tU (k7 rfl rfl Kq) rfl rfl)
    by_cases h:0<s.ring
    ·rw[if_pos h]
     rw[decide_eq_true h] at q
     exact k7 rfl (i8 (l9 q rfl) rfl) rfl
    ·rw[if_neg h]
     rw[decide_eq_false h] at q
     exact k7 rfl (i8 (l9 q rfl) rfl) rfl
   have d2:n8 1 (oS "held") (l5 (e8 (i5 k9 (e9 2) (kI 1)) (e8 (i5 k9 (BB (e8 (kI 0) (e8 (fun _=>some .non) i3))) (i4 xq (e8 (x5 (l4 AT (i5 q9 (e9 1) (kS "ring")) (kI 0))) i3))) i3))) [a,l] [some b.d,some (k6 a l {s with idle:=0} w st),some (Ev.down x).d,none]=some (.nx [some b.d,some (k6 a l {s with idle:=0,held:=some (x,if 0<s.ring then none else some 0)} w st),some (Ev.down x).d,none]):=
    Az (s':={s with idle:=0,held:=some (x,if 0<s.ring then none else some 0)}) rfl (tupS (l9 (k7 rfl rfl rfl) (l9 e2 rfl))) (E7 (some (x,if 0<s.ring then none else some 0))) (hb _) hst (E7 _) rfl
   have d3:n8 1 (oS "ring") (kI 0) [a,l] [some b.d,some (k6 a l {s with idle:=0,held:=some (x,if 0<s.ring then none else some 0)} w st),some (Ev.down x).d,none]=some (.nx [some b.d,some (k6 a l {s with ring:=0,idle:=0,held:=some (x,if 0<s.ring then none else some 0)} w st),some (Ev.down x).d,none]):=
    Az (s':={s with ring:=0,idle:=0,held:=some (x,if 0<s.ring then none else some 0)}) rfl rfl rfl (hb _) hst rfl rfl
   exact(As c3).trans ((mN d1).trans ((mN d2).trans d3))
 show(br (adr (k6 a l s w st)) [some b.d,some (k6 a l s w st),some (Ev.down x).d,none]).bind _=_
 rw[uH,key,Option.bind_some]
 exact HB rfl rfl (by rw[uH,uH])
theorem se(ok:b.Ok)(wk:s.Wk b)(hst:m6 st=true)(hl:st.length<90000)(x:vI):bh [b.d,k6 a l s w st,(Ev.up x).d]=some (.non,k6 a l (letGo b s x) w (st++D5 b s w (.up x))):=by
 have hb:∀y,tW 1 [some b.d,some y,some (Ev.up x).d,none]=true:=fun y=>Hr rfl
 have c1:l4 uW (i5 k9 (e9 2) (kI 0)) (kS "ticks") [some b.d,some (k6 a l s w st),some (Ev.up x).d,none]=some false:=tU (k7 rfl rfl rfl) rfl rfl
 have c2:l4 uW (i5 k9 (e9 2) (kI 0)) (kS "down") [some b.d,some (k6 a l s w st),some (Ev.up x).d,none]=some false:=tU (k7 rfl rfl rfl) rfl rfl
 have c3:l4 uJ (i5 q9 (e9 1) (kS "held")) (fun _=>some .non) [some b.d,some (k6 a l s w st),some (Ev.up x).d,none]=some s.held.isSome:=tU (k7 rfl rfl zq) rfl (AQ _)
 have fin:∀(s':WS) (st':LD),m6 st'=true->tE (n8 1 (oS "held") (fun _=>some .non)) (n8 1 (oS "idle") (kI 0)) [a,l] [some b.d,some (k6 a l s' w st'),some (Ev.up x).d,none]=some (.nx [some b.d,some (k6 a l {s' with held:=none,idle:=0} w st'),some (Ev.up x).d,none]):=fun s' st' hn=>by
  have d1:n8 1 (oS "held") (fun _=>some .non) [a,l] [some b.d,some (k6 a l s' w st'),some (Ev.up x).d,none]=some (.nx [some b.d,some (k6 a l {s' with held:=none} w st'),some (Ev.up x).d,none]):=Az (s':={s' with held:=none}) rfl rfl rfl (hb _) hn (E7 _) rfl
  have d2:n8 1 (oS "idle") (kI 0) [a,l] [some b.d,some (k6 a l {s' with held:=none} w st'),some (Ev.up x).d,none]=some (.nx [some b.d,some (k6 a l {s' with held:=none,idle:=0} w st'),some (Ev.up x).d,none]):=Az (s':={s' with held:=none,idle:=0}) rfl rfl rfl (hb _) hn rfl rfl
  exact(mN d1).trans d2
 have key:br [a,l] [some b.d,some (k6 a l s w st),some (Ev.up x).d,none]=some (.nx [some b.d,some (k6 a l (letGo b s x) w (st++D5 b s w (.up x))),some (Ev.up x).d,none]):=by
  refine(AH c1).trans ((AH c2).trans ?_)
  unfold letGo D5
  rcases hh:s.held with _ | ⟨y,k⟩
  ·rw[hh] at c3
   refine(AH (Mk c3)).trans ?_
   show some _=some (MO.nx [some b.d,some (k6 a l s w (st++[])),_,_])
   rw[List.append_nil]
  ·rw[hh] at c3
   have c4:l4 uW (i5 k9 (i5 q9 (e9 1) (kS "held")) (kI 0)) (i5 k9 (e9 2) (kI 1)) [some b.d,some (k6 a l s w st),some (Ev.up x).d,none]=some (decide (y=x)):=tU (k7 (k7 rfl rfl (zq.trans (by rw[hh]))) rfl (h0 y k)) (k7 rfl rfl rfl) (Mu y x)
   have c5:l4 uJ (i5 k9 (i5 q9 (e9 1) (kS "held")) (kI 1)) (fun _=>some .non) [some b.d,some (k6 a l s w st),some (Ev.up x).d,none]=some k.isSome:=tU (k7 (k7 rfl rfl (zq.trans (by rw[hh]))) rfl (h1 y k)) rfl (Gb k)
   dsimp only
   by_cases hy:y=x
   ·subst hy
    rw[decide_eq_true rfl] at c4
    rw[if_pos rfl]
    refine(As (Hk c3 c4)).trans ?_
    cases k with
    | none =>
     refine(mN (AH c5)).trans ((fin s st hst).trans ?_)
     dsimp only
     rw[List.append_nil];rfl
    | some j =>
     have e5:=lx (a:=a) (l:=l) (w:=w) (st:=st) ok wk (y,false) hst (by omega)
     have d4:xo (y4 1 (aW) (e8 (e9 0) (e8 (e9 1) (e8 (i5 k9 (e9 2) (kI 1)) i3)))) [a,l] [some b.d,some (k6 a l s w st),some (Ev.up y).d,none]=some (.nx [some b.d,some (k6 a l (press b s y.ix) w (st++[BS w y.x])),some (Ev.up y).d,none]):=
      NC (D9 (ob:=k6 a l s w st) rfl (l9 rfl (l9 rfl (l9 (k7 rfl rfl rfl) rfl))) e5 rfl (hb _) (by rw[uH];simp[Gx]))
     refine(mN ((As c5).trans d4)).trans ((fin (press b s y.ix) _ (Gk rfl hst)).trans ?_)
     dsimp only
     rw[if_pos rfl];rfl
   ·rw[decide_eq_false hy] at c4
    rw[if_neg hy]
    refine(AH (Hk c3 c4)).trans ?_
    have:(match some (y,k) with | some (z,some _)=>if z=x then [BS w x.x] else [] | _=>([]:LD))=[]:=by
     cases k with
     | none=>rfl
     | some j=>exact if_neg hy
    show some _=some (MO.nx [some b.d,some (k6 a l s w (st++(match some (y,k) with | some (z,some _)=>if z=x then [BS w x.x] else [] | _=>([]:LD)))),_,_])
    rw[this,List.append_nil]
 show(br (adr (k6 a l s w st)) [some b.d,some (k6 a l s w st),some (Ev.up x).d,none]).bind _=_
 rw[uH,key,Option.bind_some]
 exact HB rfl rfl (by rw[uH,uH])
theorem om(ok:b.Ok)(wo:s.Ok b)(hst:m6 st=true)(e:Ev)(he:e.Ok)(h4:∀n,e=.ticks n->n<10000)(hl:st.length<70000):bh [b.d,k6 a l s w st,e.d]=some (.non,k6 a l (gone b s e) (wE w e) (st++D5 b s w e)):=by
 cases e with
 | down x =>
  have:=rg (a:=a) (l:=l) (b:=b) (s:=s) (w:=w) hst x
  show _=some (D.non,k6 a l (pushed s x) w (st++[]))
  rw[List.append_nil];exact this
 | up x=>exact se ok wo.toWk hst (by omega) x
 | ticks n =>
  have h1:1<=n:=he
  have h2:=h4 n rfl
  exact qC ok wo hst (by omega) (by omega) (by omega)
end
def mz:NK:=
  (EW (l6 (l5 (e8 (kS "mode") (e8 (kS "clock") (e8 (kS "alarm") (e8 (kS "laps") (e8 (kS "count") (e8 (kS "ring") (e8 (kS "held") (e8 (kS "idle") i3))))))))) (setAt 1))
  (Bm 2 (e9 1) (e9 0) (oS "went") (kI 0) (oS "story")))
def cw:LD->Nat->Nat->OD:=D4 1 3 mz
theorem Qn{i:Nat}{f1 f2 f:R->OD}{k k':Str}{ρ:R}{a l:Nat}{xs ys:LD}{d:D}{ks:List Str}(h1:f1 ρ=some (.tup xs))(h2:f2 ρ=some (.tup ys))(h3:f ρ=some d)(h4:zI xs=some ks)(h5:(ks.Nodup/\ks.length=ys.length/\0<ks.length/\ks.length<50)/\m6 ys=true/\t_ d=true/\y_ i ρ=true/\(putD ks ys k d).1.Nodup) :
  Bm i f1 f2 k f k' ρ a l=some (.obj 1 a (putD (putD ks ys k d).1 (putD ks ys k d).2 k' (.obj 0 l [] [])).1 (putD (putD ks ys k d).1 (putD ks ys k d).2 k' (.obj 0 l [] [])).2):=by
 unfold Bm
 rw[h1,Option.bind_some,h2,Option.bind_some,h3,Option.bind_some]
 dsimp only
 rw[h4,Option.bind_some,if_pos h5]
theorem sK{a l:Nat}{s:WS}:cw [s.d] a l=some (k6 a l s 0 []):=by
 unfold cw D4
 rw[if_pos (show [s.d].length=1 from rfl)]
 show Bm 2 (e9 1) (e9 0) (oS "went") (kI 0) (oS "story") [some s.d,some (.tup [.str (oS "mode"),.str (oS "clock"),.str (oS "alarm"),.str (oS "laps"),.str (oS "count"),.str (oS "ring"),.str (oS "held"),.str (oS "idle")]),none] a l=_
 exact(Qn (ks:=[oS "mode",oS "clock",oS "alarm",oS "laps",oS "count",oS "ring",oS "held",oS "idle"]) rfl rfl rfl rfl ⟨⟨by decide +kernel,rfl,by decide,by decide⟩,M4 s,rfl,rfl,(by show List.Nodup [oS "mode",oS "clock",oS "alarm",oS "laps",oS "count",oS "ring",oS "held",oS "idle",oS "went"];decide +kernel)⟩).trans rfl
theorem P8{i a l:Nat}{s:WS}{w:Int}{st:LD}{F:R->OD}{ρ:R}{d:D}(hv:e9 i ρ=some (k6 a l s w st))(hb:tW i ρ=true)(hst:m6 st=true)(hF:F (ρ.set i (some (.obj 1 a Bv [.int (s.mode:Int),.int s.clock,s.alarmD,s.lapsD,s.countD,.int s.ring,uw s.held,.int s.idle,.int w,.fro st])))=some d)(hd:nof d=true):Cz i (oS "story") F ρ=some d:=by
 unfold Cz
 rw[hv]
 have hk:x_ Bv (xa l s w st) (oS "story")=some (.obj 0 l [] st):=rfl
 show(match x_ Bv (xa l s w st) (oS "story") with | some (.obj 0 l' ls es)=>_ | _=>none)=_
 rw[hk]
 have hn:m6 (putD Bv (xa l s w st) (oS "story") .non).2=true:=by
  rw[Pb]
  show(true&&(true&&(t_ s.alarmD&&(t_ s.lapsD&&(t_ s.countD&&(true&&(t_ (uw s.held)&&(true&&(true&&(true&&true))))))))))=true
  rw[show t_ s.alarmD=true from rfl,yN s,show t_ s.countD=true from rfl,E7];rfl
 show(if _ then (F (ρ.set i (some (.obj 1 a (putD Bv (xa l s w st) (oS "story") (.fro st)).1 (putD Bv (xa l s w st) (oS "story") (.fro st)).2)))).bind _ else none)=_
 rw[if_pos ⟨rfl,hb,hst,hn⟩,Pb]
 show(F _).bind _=_
 rw[hF,Option.bind_some,if_pos hd]
def iO:R->Option Out:=
 (l6 (Fi GD (e9 10)) (setAt 11))
def iQ:R->Option Out:=
 (l6 (i5 l8 (i5 l8 (i5 l8 (e9 9) (l5 (e8 (l5 (e8 (kS "down") (e8 (e9 11) i3))) i3))) (i5 FF (l5 (e8 (l5 (e8 (kS "ticks") (e8 (i5 k9 (e9 1) (kI 0)) i3))) i3)) (i4 xq (e8 (x5 (l4 Hi (e9 10) (e9 11))) i3)))) (l5 (e8 (l5 (e8 (kS "up") (e8 (e9 11) i3))) i3))) (setAt 9))
def gl:R->Option Out:=(n4 iO iQ)
def nu:R->Option Out:=
 (l6 (i4 cJ (e8 (i4 aS (e8 (e9 0) (e8 (kI 0) i3))) i3)) (setAt 1))
def nr:R->Option Out:=
 (l6 (i4 de (e8 (i4 aS (e8 (e9 0) (e8 (kI 1) i3))) (e8 (kI 9) i3))) (setAt 2))
def nU:R->Option Out:=
  (yD (l4 uW (i5 tG (i4 aS (e8 (e9 0) (e8 (kI 2) i3))) (kI 2)) (kI 0))
  (l6 (i5 l8 (l5 (e8 (l5 (e8 (kS "down") (e8 (kS "a") i3))) (e8 (l5 (e8 (kS "up") (e8 (kS "a") i3))) (e8 (l5 (e8 (kS "down") (e8 (kS "b") i3))) (e8 (l5 (e8 (kS "ticks") (e8 (i5 k9 (e9 1) (kI 0)) i3))) i3))))) (e9 2)) (setAt 2))
  ub)
def Bu:MU:=
 (xo (y4 3 (bh) (e8 (e9 1) (e8 (e9 3) (e8 (e9 5) i3)))))
def A4:MU:=
 (tJ (l6 (i5 l8 (e9 4) (l5 (e8 (i4 df (e8 (e9 1) (e8 (i4 (cB) (e8 (e9 3) i3)) i3))) i3))) (setAt 4)))
def iT:MU:=(tE (Bu) (A4))
def nT:MU:=
 (tJ (l6 (l5 i3) (setAt 4)))
def nG:MU:=
 (Hu (ve (e9 2)) (setAt 5) (iT))
def nV:MU:=
  (tJ (yD (IW (l4 Bt (i4 iZ (e8 (e9 1) (e8 (e9 2) i3))) (e9 4)) (l4 Bt (i4 fY (e8 (e9 1) (e8 (e9 2) i3))) (Cz 3 (oS "story") (i4 Iq (e8 (i5 q9 (e9 3) (kS "story")) i3)))))
  (n6 (fun _=>some (.bl false)))
  ub))
def kC:MU:=
 (tJ (l6 (i4 aS (e8 (e9 0) (e8 (kI 3) i3))) (setAt 6)))
def kN:MU:=
 (tJ (l6 (i4 Cf (e8 (kS "") (e8 (En 1 (uD (i5 tG (e9 6) (kI 7))) (setAt 0) yK (i5 k9 (kS "abcABC") (i5 tG (i5 vn (i4 aF (e8 (e9 7) (e8 (e9 0) i3))) (kI 4)) (kI 6)))) i3))) (setAt 7)))
def jr:MU:=
 (tJ (l6 (i4 cE (e8 (e9 1) (e8 (i4 cD (e8 (e9 1) i3)) (e8 (e9 2) i3)))) (setAt 8)))
def iR:MU:=
 (tJ (l6 (l5 i3) (setAt 9)))
def i_:MU:=
 (tJ (Ar (ve (e9 7)) (setAt 10) gl))
def jq:MU:=
  (tJ (yD (IW (l4 Bt (i4 bF (e8 (e9 1) (e8 (e9 8) (e8 (e9 7) i3)))) (i4 cE (e8 (e9 1) (e8 (e9 8) (e8 (e9 9) i3))))) (l4 Bt (i4 bF (e8 (e9 1) (e8 (e9 8) (e8 (kS "") i3)))) (e9 8)))
  (n6 (fun _=>some (.bl false)))
  ub))
def iX:MU:=
 (tJ (l6 (i5 tG (i5 vn (e9 6) (kI 8)) (i5 l8 (i4 FE (e8 (e9 7) i3)) (kI 1))) (setAt 12)))
def iN:MU:=
 (tJ (n6 (x5 (l4 Et (i4 bF (e8 (e9 1) (e8 (i4 bF (e8 (e9 1) (e8 (e9 8) (e8 (Ms (e9 7) I8 (aP (e9 12))) i3)))) (e8 (Ms (e9 7) (aP (e9 12)) I8) i3)))) (i4 bF (e8 (e9 1) (e8 (e9 8) (e8 (e9 7) i3))))))))
def sW:R->Option Out:=
 (n4 nu (n4 nr (n4 nU (Gz 3 cw (e8 (i4 cD (e8 (e9 1) i3)) i3) (tE (nT) (tE (nG) (tE (nV) (tE (kC) (tE (kN) (tE (jr) (tE (iR) (tE (i_) (tE (jq) (tE (iX) (iN)))))))))))))))
def lC:LD->OD:=via 1 13 (sW)
theorem Qm{k:Nat}{it:R->Option LD}{st:D->R->Option R}{c:R->Option Bool}{e:R->OD}{ρ:R}{ds out:LD}(h1:it ρ=some ds)(h2:ds.length<=sizeLine)(h3:vV st c e ds (List.replicate k none++ρ)=some out):En k it st c e ρ=some (.lst out):=by simp[En,h1,h2,h3]
theorem Mp{n:Nat}(h:n<=2000):n<=sizeLine:=Nat.le_trans h (by decide)
theorem OP{f:R->OD}{ρ:R}{m:Int}(h:f ρ=some (.int m))(h0:0<=m)(h1:m<=1000):uD f ρ=some (uN 0 m):=by
 have hr : -4611686018427387904<=m/\m<4611686018427387904:=by omega
 unfold uD
 rw[h]
 show(if -4611686018427387904<=m/\m<4611686018427387904 then some (uN 0 m) else none)=_
 rw[if_pos hr]
theorem inR{f:R->OD}{ρ:R}{n:Nat}(h:f ρ=some (.int n))(hn:n<=1000):uD f ρ=some (uN 0 n):=OP h (by omega) (by omega)
def B4(n:Nat):List Int:=(List.range n).map fun i:Nat=>(i:Int)
theorem pT(n:Nat):uN 0 (n:Int)=(B4 n).map .int:=by
 unfold uN B4
 rw[List.map_map,Int.sub_zero,Int.toNat_natCast]
 refine List.map_congr_left fun i _=>?_
 show D.int (0+(i:Int))=D.int i
 rw[Int.zero_add]
theorem jW:∀(l l':List Int),l.Pairwise (·<·)->l'.Pairwise (·<·)->(∀x,x∈l↔x∈l')->l=l'
 | [],[],_,_,_=>rfl
 | [],y::r,_,_,h=>absurd ((h y).mpr (.head _)) (by simp)
 | x::l,[],_,_,h=>absurd ((h x).mp (.head _)) (by simp)
 | x::l,y::r,h1,h2,h=>by
  have a1:∀z∈l,x<z:=fun z hz=>List.rel_of_pairwise_cons h1 hz
  have a2:∀z∈r,y<z:=fun z hz=>List.rel_of_pairwise_cons h2 hz
  have e:x=y:=by
   rcases List.mem_cons.mp ((h x).mp (.head _)) with q | q
   ·exact q
   ·rcases List.mem_cons.mp ((h y).mpr (.head _)) with q' | q'
    ·exact q'.symm
    ·have:=a1 _ q';have:=a2 _ q;omega
  subst e
  rw[jW l r h1.of_cons h2.of_cons fun z=>⟨fun hz=>?_,fun hz=>?_⟩]
  ·rcases List.mem_cons.mp ((h z).mp (.tail _ hz)) with q | q
   ·have:=a1 z hz;omega
   ·exact q
  ·rcases List.mem_cons.mp ((h z).mpr (.tail _ hz)) with q | q
   ·have:=a2 z hz;omega
   ·exact q
theorem qd(σ:List Int)(k x:Int):x∈vF σ k↔x∈σ\/x=k:=by
 unfold vF
 split
 ·rename_i h
  obtain⟨y,hy,e⟩:=List.any_eq_true.mp h
  have:y=k:=by simpa using e
  subst this
  exact⟨.inl,fun q=>q.elim id fun q=>q ▸ hy⟩
 ·simp
theorem la(x:Int):∀(l σ:List Int),x∈l.foldl vF σ↔x∈σ\/x∈l
 | [],σ=>by simp
 | k::l,σ=>by rw[List.foldl_cons,la x l,qd];simp[or_assoc]
theorem Fj{σ:List Int}(k:Int)(h:σ.Nodup):(vF σ k).Nodup:=by
 unfold vF
 split
 ·exact h
 ·rename_i q
  rw[List.nodup_append]
  refine⟨h,by simp,fun a ha b hb e=>q (List.any_eq_true.mpr ⟨a,ha,?_⟩)⟩
  rw[e,List.mem_singleton.mp hb];simp
theorem Bw:∀(l σ:List Int),σ.Nodup->(l.foldl vF σ).Nodup
 | [],_,h=>h
 | k::l,σ,h=>Bw l _ (Fj k h)
def sd(l:List Int):List Int:=w9 (AI l)
theorem sJ(l:List Int)(x:Int):x∈sd l↔x∈l:=by
 unfold sd AI
 rw[(vL _).mem_iff,la];simp
theorem Ny(l:List Int):(sd l).Pairwise (·<·):=by
 have h1:(sd l).Pairwise (·<=·):=yb _
 have h2:(sd l).Nodup:=(vL _).nodup_iff.mpr (Bw l [] List.nodup_nil)
 exact(h1.and h2).imp fun ⟨a,b⟩=>by omega
theorem rF(n a x:Int):x∈F_ n (some a)↔a<=x/\x<=n/\(x - a)%86400=0:=by
 show x∈(List.range (wj a (n+1) 86400)).map _↔_
 rw[List.mem_map]
 constructor
 ·rintro⟨k,hk,rfl⟩
  rw[List.mem_range] at hk
  unfold wj at hk
  split at hk<;>omega
 ·rintro⟨h1,h2,h3⟩
  refine⟨((x - a) / 86400).toNat,?_,by omega⟩
  rw[List.mem_range]
  unfold wj
  split<;>omega
def Rg(s:WS)(x:Int):Prop:=(∃a,tM s=some a/\a<=x/\(x - a)%86400=0)\/tN s=some x
theorem ft(s:WS)(n x:Int):x∈uh s n↔Rg s x/\x<=n:=by
 show x∈sd _↔_
 rw[sJ,List.mem_append]
 unfold Rg
 have h2:x∈GW n (tN s)↔tN s=some x/\x<=n:=by
  cases hc:tN s with
  | none=>simp[GW]
  | some c =>
   unfold GW
   dsimp only
   by_cases q:c<=n
   ·rw[if_pos q];simp;constructor
    ·rintro rfl;exact⟨rfl,q⟩
    ·rintro⟨h,_⟩;exact h.symm
   ·rw[if_neg q];simp;rintro rfl;omega
 rw[h2]
 cases ha:tM s with
 | none=>simp[F_]
 | some a =>
  rw[rF]
  constructor
  ·rintro(⟨q1,q2,q3⟩ | ⟨q1,q2⟩)
   ·exact⟨.inl ⟨a,rfl,q1,q3⟩,q2⟩
   ·exact⟨.inr q1,q2⟩
  ·rintro⟨⟨a',e,q1,q3⟩ | q,q2⟩
   ·cases e;exact .inl ⟨q1,q2,q3⟩
   ·exact .inr ⟨q,q2⟩
theorem Im{b:Bk}{s:WS}(w:s.Wk b){c:Int}(h:tN s=some c):1<=c:=by
 unfold tN at h
 split at h
 ·rename_i q;cases h;have:=w.cr q;omega
 ·cases h
theorem LT{b:Bk}{s:WS}(w:s.Wk b){x:Int}(h:Rg s x):1<=x:=by
 rcases h with ⟨a,e,q1,q2⟩ | h
 ·have:=(BD e).1;omega
 ·exact Im w h
theorem KZ{b:Bk}{s:WS}(w:s.Wk b){x:Int}(hx:1<=x):Rg s x↔DG (counted b s (x - 1))=true:=by
 have c0:=w.clock0;have c1:=w.clock1;have hcr:=w.cr
 have s0:0<=s.sec:=by unfold WS.sec;have:=w.ah0;have:=w.am0;omega
 have s1:s.sec<86400:=by unfold WS.sec;have:=w.ah1;have:=w.am1;omega
 unfold Rg DG
 show _↔((runsOn s (x - 1)&&tX s (x - 1)==1)||(s.aon&&(((s.clock+(x - 1))%86400+1)%86400==s.sec)))=true
 rw[Bool.or_eq_true,Bool.and_eq_true,Bool.and_eq_true,beq_iff_eq,beq_iff_eq,vi s (by omega),Bool.and_eq_true,decide_eq_true_iff]
 have a0:tM s=if s.aon then some ((s.sec - s.clock - 1)%86400+1) else none:=rfl
 have k0:tN s=if s.cr then some s.cl else none:=rfl
 rw[a0,k0]
 constructor
 ·rintro(⟨a,e,h1,h2⟩ | h)
  ·right
   cases ha:s.aon with
   | false=>rw[ha] at e;cases e
   | true =>
    rw[ha] at e
    cases e
    exact⟨rfl,by omega⟩
  ·left
   cases hc:s.cr with
   | false=>rw[hc] at h;cases h
   | true =>
    rw[hc] at h
    cases h
    refine⟨⟨rfl,by omega⟩,?_⟩
    rw[xn s (by omega),if_pos hc];omega
 ·rintro(⟨⟨h1,h2⟩,h3⟩ | ⟨h1,h2⟩)
  ·right
   rw[xn s h2,if_pos h1] at h3
   rw[if_pos h1]
   congr 1;omega
  ·left
   rw[if_pos h1]
   exact⟨_,rfl,by omega,by omega⟩
theorem va(ps:List Pr):(m8 ps).length=ps.length:=by show(ps.map Pr.code).toArray.size=_;simp
theorem zS:∀(l:List Nat) (k:Nat),k<=l.length->(List.range k).filterMap (fun i=>l[i]?)=l.take k
 | l,0,_=>by simp
 | l,k+1,h=>by
  rw[List.range_succ,List.filterMap_append,zS l k (by omega),List.take_add_one]
  have:k<l.length:=by omega
  simp[List.getElem?_eq_getElem this]
theorem Iu{k n:Nat}(h:k<=n):PySem.Builtin.Str.strSliceIndices none (some (k:Int)) 1 n=List.range k:=by
 unfold PySem.Builtin.Str.strSliceIndices PySem.sliceRange
 have e1:¬ (k:Int)<0:=by omega
 simp only[show(1:Int) > 0 by decide,if_true,if_neg e1]
 have e2:max 0 (min (k:Int) (n:Int))=k:=by omega
 rw[e2]
 have e3:(if (0:Int)<(k:Int) then ((k:Int) - 0+1 - 1) / 1 else 0).toNat=k:=by
  split
  ·rw[Int.ediv_one];omega
  ·omega
 rw[e3]
 conv=>rhs;rw[<- List.map_id (List.range k)]
 refine List.map_congr_left fun i _=>?_
 show(0+1*(i:Int)).toNat=i
 omega
theorem EJ(ps:List Pr){k:Nat}(h:k<=ps.length):Txt.slice (m8 ps) none (some (k:Int))=m8 (ps.take k):=by
 unfold Txt.slice
 rw[va,Iu h]
 by_cases hk:k=ps.length
 ·rw[if_pos (by simp[hk]),hk,List.take_length]
 ·rw[if_neg (by simp[hk])]
  show Str.mk _=Str.mk _
  congr 2
  have:=zS (ps.map Pr.code) k (by rw[List.length_map];exact h)
  rw[<- List.map_take] at this
  rw[<- this]
  congr 1
  funext i
  simp[m8]
theorem JE(ps:List Pr)(h:ps.length<=100):Cf [.str (oS ""),.lst (ps.map fun p=>.str (Pr.x p))]=some (.str (m8 ps)):=by
 have e0:(oS "").cps=#[]:=by decide +kernel
 have hs:∀l:List Pr,BG (l.map fun p=>.str (Pr.x p))=some (l.map Pr.x):=fun l=>by
  induction l with
  | nil=>rfl
  | cons p l ih =>
   show(some (Pr.x p)).bind (fun x=>(BG (l.map fun p=>.str (Pr.x p))).map fun xs=>x::xs)=_
   rw[ih];rfl
 have hg:Builtin.Str.glued (oS "") (ps.map Pr.x)=m8 ps:=by
  cases ps with
  | nil=>decide +kernel
  | cons p r =>
   show Str.mk ((r.map Pr.x).foldl (fun acc q=>acc++(oS "").cps++q.cps) (Pr.x p).cps)=Str.mk _
   congr 1
   apply Array.ext'
   rw[CJ,e0,Pr.x_code]
   simp[List.flatMap_map,Pr.x_code,Function.comp_def]
   induction r with
   | nil=>rfl
   | cons q r ih=>simp[Pr.x_code,ih (by simp at h ⊢;omega)]
 have hf:∀(l:List Pr) (a:Nat),(l.map Pr.x).foldl (fun n x=>n+x.length+(oS "").length) a=a+l.length:=fun l=>by
  induction l with
  | nil=>intro a;rfl
  | cons p l ih =>
   intro a
   rw[List.map_cons,List.foldl_cons,ih,Pr.x_code,List.length_cons]
   have:(oS "").length=0:=by decide +kernel
   rw[this]
   show a+1+0+l.length=_
   omega
 show((BG (ps.map fun p=>.str (Pr.x p))).bind fun xs=>(Au (oS "") xs).map D.str)=_
 rw[hs,Option.bind_some]
 unfold Au
 rw[hg,if_pos ⟨by rw[List.foldl_toArray',hf]<;>first | exact Mp (by omega) | rfl,by rw[va];exact Mp (by omega)⟩]
 rfl
theorem sR{a l:Nat}{s:WS}{w:Int}{st:LD}:cB [k6 a l s w st]=some s.d:=n9 (retS (i8 (F:=Ac) (l9 (Qm rfl (by decide) rfl) rfl) rfl))
theorem k_(s:WS)(n:Int):(uh s n).Pairwise (·<·):=Ny _
theorem fM{b:Bk}{s:WS}(w:s.Wk b):uh s 0=[]:=by
 cases h:uh s 0 with
 | nil=>rfl
 | cons x l =>
  have hx:x∈uh s 0:=by rw[h];exact .head _
  rw[ft] at hx
  have:=LT w hx.1
  omega
theorem dS{b:Bk}{s:WS}(w:s.Wk b){n:Int}(hn:0<=n):uh s (n+1)=uh s n++(if DG (counted b s n) then [n+1] else []):=by
 have hb:=KZ w (x:=n+1) (by omega)
 rw[show n+1 - 1=n by omega] at hb
 refine jW _ _ (k_ _ _) ?_ fun x=>?_
 ·rw[List.pairwise_append]
  refine⟨k_ _ _,by split<;>simp,fun x hx y hy=>?_⟩
  rw[ft] at hx
  split at hy
  ·have:=List.mem_singleton.mp hy;omega
  ·cases hy
 ·rw[ft,List.mem_append,ft]
  constructor
  ·rintro⟨h1,h2⟩
   by_cases q:x<=n
   ·exact .inl ⟨h1,q⟩
   ·have:x=n+1:=by omega
    subst this
    rw[if_pos (hb.mp h1)]
    exact .inr (.head _)
  ·rintro(⟨h1,h2⟩ | h)
   ·exact⟨h1,by omega⟩
   ·split at h
    ·rename_i q
     have:=List.mem_singleton.mp h
     subst this
     exact⟨hb.mpr q,Int.le_refl _⟩
    ·cases h
def Me(o:Option Int):Bool:=o==some 1
theorem zp(t:Int):Me (some t)=decide (t=1):=by
 unfold Me
 by_cases h:t=1
 ·rw[h];rfl
 ·rw[decide_eq_false h];simp[h]
theorem pe{b:Bk}{s:WS}(w:s.Ok b):LC b (Ce s)=if Me (l7 b s) then [vo s] else []:=by
 have e1:(Ce s).held=s.held:=by unfold Ce;split<;>rfl
 have e2:(Ce s).idle=s.idle:=by unfold Ce;split<;>rfl
 have e3:(Ce s).mode=s.mode:=by unfold Ce;split<;>rfl
 unfold LC l7 vo
 rw[e1,e2,e3]
 rcases hs:s.held with _ | ⟨x,_ | k⟩
 ·dsimp only
  by_cases hg:tO b s=true
  ·have hg':=hg
   unfold tO at hg'
   simp at hg'
   have h1:=w.idle1 hg'.1
   rw[if_pos hg,xl h1,zp]
   by_cases q:s.idle+1=b.back
   ·rw[if_pos ⟨hg'.1,q,hg'.2.1,by simpa using hg'.2.2⟩,decide_eq_true (by omega:b.back - s.idle=1)];rfl
   ·rw[if_neg (fun h=>q h.2.1),decide_eq_false (by omega:¬ b.back - s.idle=1)];rfl
  ·rw[if_neg hg,if_neg (fun h=>hg (by unfold tO;rw[decide_eq_true h.1,decide_eq_false h.2.2.1,h.2.2.2];rfl))];rfl
 ·rfl
 ·have hk:=w.held x k hs
  have e:mx 1 (b.hold - k)=b.hold - k:=by unfold mx;split<;>omega
  show(if k+1=b.hold then [x.X] else [])=if Me (some (mx 1 (b.hold - k)))=true then [x.X] else []
  simp only[e,zp]
  by_cases q:k+1=b.hold
  ·rw[if_pos q,decide_eq_true (by omega:b.hold - k=1)];rfl
  ·rw[if_neg q,decide_eq_false (by omega:¬ b.hold - k=1)];rfl
theorem HY(b:Bk)(s:WS)(n:Int):vo (counted b s n)=vo s:=by
 unfold vo
 show(match tT s.held n with | none=>oS "back" | some (x,_)=>x.X)=_
 rcases s.held with _ | ⟨x,_ | k⟩<;>rfl
theorem AV(k:Int)(l r:List Int):zy k (l++r)=zy k l++zy k r:=List.map_append
def NG(b:Bk)(s:WS)(n:Int):List H_:=(if DG s then [(n+1,Eo)] else [])++(if Me (l7 b s) then [(n+1,vo s)] else [])
theorem EB{b:Bk}{s:WS}{n:Int}(h:Me (l7 b s)=false):NG b s n=if DG s then [(n+1,Eo)] else []:=by
 unfold NG
 rw[h]
 exact List.append_nil _
theorem Dn(k n:Int)(c:Bool):zy k (if c then [n] else [])=if c then [(k+n,Eo)] else []:=by cases c<;>rfl
theorem GN{b:Bk}{s:WS}(ok:b.Ok)(w:s.Ok b){n:Int}(hn:0<=n):wm b s (n+1)=wm b s n++NG b (ticked b s n) n:=by
 cases ht:l7 b s with
 | none =>
  have e:ticked b s n=counted b s n:=by unfold ticked;rw[ht]
  rw[e,EB (by rw[vT w.toWk hn ht];rfl)]
  unfold wm
  rw[ht]
  dsimp only
  rw[dS w.toWk hn,AV,Dn,Int.zero_add]
 | some t =>
  have tp:=vp ht
  by_cases h1:n<t
  ·have e:ticked b s n=counted b s n:=by unfold ticked;rw[ht];exact if_pos h1
   have e2:wm b s n=zy 0 (uh s n):=by unfold wm;rw[ht];exact if_pos h1
   rw[e,e2]
   by_cases h2:n+1<t
   ·have e3:wm b s (n+1)=zy 0 (uh s (n+1)):=by unfold wm;rw[ht];exact if_pos h2
    rw[e3,EB (by rw[xf w hn ht h1,zp];exact decide_eq_false (by omega)),dS w.toWk hn,AV,Dn,Int.zero_add]
   ·have et:t=n+1:=by omega
    subst et
    have wb:(behind b s (n+1)).Wk b:=(w.toWk.cnt (n:=n+1) (by omega)).trn ok
    have e3:wm b s (n+1)=zy 0 (uh s (n+1))++((n+1,vo s)::zy (n+1) (uh (behind b s (n+1)) (n+1 - (n+1)))):=by unfold wm;rw[ht];exact if_neg h2
    rw[e3,show n+1 - (n+1)=0 by omega,fM wb,dS w.toWk hn,AV,Dn,Int.zero_add]
    unfold NG
    rw[xf w hn ht h1,zp,decide_eq_true (by omega:n+1 - n=1),HY,List.append_assoc];rfl
  ·have wb:(behind b s t).Wk b:=(w.toWk.cnt (n:=t) (by omega)).trn ok
   have e:ticked b s n=counted b (behind b s t) (n - t):=by unfold ticked;rw[ht];exact if_neg h1
   have e2:wm b s n=zy 0 (uh s t)++((t,vo s)::zy t (uh (behind b s t) (n - t))):=by unfold wm;rw[ht];exact if_neg h1
   have e3:wm b s (n+1)=zy 0 (uh s t)++((t,vo s)::zy t (uh (behind b s t) (n+1 - t))):=by unfold wm;rw[ht];exact if_neg (by omega)
   rw[e,e2,e3,EB (by rw[vT wb (by omega) x6];rfl),show n+1 - t=(n - t)+1 by omega,dS wb (by omega),AV,Dn,show t+(n - t+1)=n+1 by omega,List.append_assoc,List.cons_append]
def PC(w:Int)(p:H_):D:=uj (w+p.1,p.2)
theorem Ao{b:Bk}{s:WS}(ok:b.Ok)(wo:s.Ok b)(w:Int):∀n:Nat,stN b s w n=(wm b s n).map (PC w)
 | 0=>by
  have e:wm b s ((0:Nat):Int)=[]:=by
   unfold wm
   cases ht:l7 b s with
   | none=>show zy 0 (uh s 0)=[];rw[fM wo.toWk];rfl
   | some t =>
    have tp:=vp ht
    dsimp only
    rw[if_pos (by omega)]
    show zy 0 (uh s 0)=[];rw[fM wo.toWk];rfl
  rw[e];rfl
 | n+1=>by
  have ih:=Ao ok wo w n
  have ws:=De ok wo (n:=n) (by omega)
  show stN b s w n++Eu b (ticked b s n) (w+n)=_
  rw[ih,show((n+1:Nat):Int)=(n:Int)+1 by omega,GN ok wo (by omega),List.map_append]
  congr 1
  unfold Eu NG
  rw[pe ws,List.map_append]
  congr 1
  ·split
   ·show [BS (w+n+1) _]=[uj (w+(n+1),_)];rw[Int.add_assoc];rfl
   ·rfl
  ·split
   ·show [BS (w+n+1) _]=[uj (w+(n+1),_)];rw[Int.add_assoc];rfl
   ·rfl
theorem Ka{b:Bk}{s:WS}(ok:b.Ok)(wo:s.Ok b)(w:Int)(e:Ev)(he:e.Ok):D5 b s w e=(Hl b s e).map (PC w):=by
 cases e with
 | ticks n =>
  have h1:1<=n:=he
  have:=Ao ok wo w n.toNat
  rw[show((n.toNat:Nat):Int)=n by omega] at this
  exact this
 | down x=>rfl
 | up x =>
  unfold D5 Hl Ew
  rcases s.held with _ | ⟨y,_ | k⟩
  ·rfl
  ·simp
  ·dsimp only
   by_cases q:y=x
   ·rw[if_pos q,if_pos (by simp[q])];show [BS w _]=[uj (w+0,_)];rw[Int.add_zero];rfl
   ·rw[if_neg q,if_neg (by simp[q])];rfl
def AL(b:Bk):WS->Int->List Ev->LD
 | _,_,[]=>[]
 | s,w,e::es=>D5 b s w e++AL b (gone b s e) (wE w e) es
theorem CH{b:Bk}(ok:b.Ok):∀(es:List Ev) (s:WS) (w:Int),s.Ok b->(∀e∈es,e.Ok)->AL b s w es=(DT b s w es).map uj
 | [],_,_,_,_=>rfl
 | e::es,s,w,wo,h=>by
  have he:=h e (.head _)
  have ih:=CH ok es (gone b s e) (wE w e) (xH ok wo e he) fun x hx=>h x (.tail _ hx)
  have ew:wE w e=w+Kt e:=by cases e<;>first | rfl | exact(Int.add_zero w).symm
  show D5 b s w e++AL b _ _ es=(((Hl b s e).map fun p=>(w+p.1,p.2))++DT b (gone b s e) (w+Kt e) es).map uj
  rw[ih,Ka ok wo w e he,List.map_append,List.map_map,ew];rfl
theorem JP(b:Bk)(s:WS)(w:Int)(e:Ev)(he:e.Lt):(D5 b s w e).length<=260:=by
 cases e with
 | ticks n =>
  have:=nv b s w n.toNat
  have h2:n<=130:=he.2
  show(stN b s w n.toNat).length<=260
  omega
 | down x=>exact Nat.zero_le _
 | up x =>
  unfold D5
  rcases s.held with _ | ⟨y,_ | k⟩
  ·exact Nat.zero_le _
  ·exact Nat.zero_le _
  ·dsimp only;split<;>simp
theorem Jo(e:Ev):t_ e.d=true:=by cases e<;>rfl
theorem ID{xs ys:LD}(h:xs.length+ys.length<=1000):l8 (.tup xs) (.tup ys)=some (.tup (xs++ys)):=by
 have z:1000<=sizeLine:=by decide
 show(if xs.length+ys.length<=sizeLine then _ else none)=_
 rw[if_pos (by omega)]
section
variable{a l:Nat}{b:Bk}{Sc:D}
abbrev LR(Sc:D)(b:Bk)(r x:D)(shs:LD)(o5 o6 o7 o8 o9 o10 o11 o12:OD:=none):R:=[some Sc,some b.d,some r,some x,some (.tup shs),o5,o6,o7,o8,o9,o10,o11,o12]
theorem Kv{x r:D}{shs:LD}{o5:OD}(h1:t_ Sc=true)(h2:t_ r=true)(h3:m6 shs=true)(h5:uz o5=true):tW 3 (LR Sc b r x shs o5)=true:=by
 show(t_ Sc&&(t_ b.d&&(t_ r&&(true&&(m6 shs&&(uz o5&&true))))))=true
 rw[h1,NH,h2,h3,h5];rfl
theorem Lp{s:WS}{w:Int}{st shs:LD}{r:D}{e:Ev}(ok:b.Ok)(wo:s.Ok b)(hM:s.lm<100000000)(he:e.Lt)(hSc:t_ Sc=true)(hr:t_ r=true)(hsh:m6 shs=true)(hsl:shs.length<900)(hst:m6 st=true)(hl:st.length<60000) :
  iT [a,l] (LR Sc b r (k6 a l s w st) shs (some e.d))=some (.nx (LR Sc b r (k6 a l (gone b s e) (wE w e) (st++D5 b s w e)) (shs++[vM b (gone b s e)]) (some e.d))):=by
 have h2:∀n,e=.ticks n->n<10000:=fun n q=>by subst q;have:n<=130:=he.2;omega
 have eh:=om (a:=a) (l:=l) (w:=w) ok wo hst e he.1 h2 (by omega)
 have t1:Bu [a,l] (LR Sc b r (k6 a l s w st) shs (some e.d))=some (.nx (LR Sc b r (k6 a l (gone b s e) (wE w e) (st++D5 b s w e)) shs (some e.d))):=
  NC (D9 (ob:=k6 a l s w st) rfl rfl eh rfl (Kv hSc hr hsh (Jo e)) (by rw[uH];simp[Gx]))
 have wo2:=xH ok wo e he.1
 have hg:=C7 wo.toWk e he.1
 have hT:J7 e<=130:=by
  cases e with
  | ticks n=>exact he.2
  | down x=>show(0:Int)<=130;decide
  | up x=>show(0:Int)<=130;decide
 have es:=nw wo2.toWk (by omega)
 have t2:A4 [a,l] (LR Sc b r (k6 a l (gone b s e) (wE w e) (st++D5 b s w e)) shs (some e.d))=some (.nx (LR Sc b r (k6 a l (gone b s e) (wE w e) (st++D5 b s w e)) (shs++[vM b (gone b s e)]) (some e.d))):=
  mP (p7 (k7 rfl (tupS (l9 (i8 (l9 rfl (l9 (i8 rfl sR) rfl)) es) rfl)) (ID (ys:=[vM b (gone b s e)]) (show shs.length+1<=1000 by omega))) rfl)
 exact(mN t1).trans t2
theorem D3(b:Bk):∀(es:List Ev) (s:WS) (w:Int),m6 (AL b s w es)=true
 | [],_,_=>rfl
 | e::es,s,w=>dz (Gn b s w e) (D3 b es _ _)
theorem HC(ok:b.Ok)(hSc:t_ Sc=true){r:D}(hr:t_ r=true):∀(es:List Ev) (s:WS) (w:Int) (st shs:LD) (o5:OD),(∀e∈es,e.Lt)->s.Ok b->s.lm+130*es.length<100000000->m6 shs=true->shs.length+es.length<900->m6 st=true->st.length+260*es.length<60000->uz o5=true ->
  ∃o5' w',uz o5'=true/\CY (setAt 5) iT [a,l] (es.map Ev.d) (LR Sc b r (k6 a l s w st) shs o5)=some (.nx (LR Sc b r (k6 a l (v9 b s es) w' (st++AL b s w es)) (shs++sights b s es) o5'))
 | [],s,w,st,shs,o5,_,_,_,_,_,_,_,h5=>⟨o5,w,h5,by show some (MO.nx (LR Sc b r (k6 a l s w st) shs o5))=some (MO.nx (LR Sc b r (k6 a l s w (st++[])) (shs++[]) o5));rw[List.append_nil,List.append_nil]⟩
 | e::es,s,w,st,shs,o5,he,wo,hM,hsh,hsl,hst,hl,h5=>by
  rw[List.length_cons] at hM hl hsl
  have he1:=he e (.head _)
  have t:=Lp (a:=a) (l:=l) (w:=w) (r:=r) ok wo (by omega) he1 hSc hr hsh (by omega) hst (by omega)
  have sl:=JP b s w e he1
  have hg:=C7 wo.toWk e he1.1
  have hT:J7 e<=130:=by
   cases e with
   | ticks n=>exact he1.2
   | down x=>show(0:Int)<=130;decide
   | up x=>show(0:Int)<=130;decide
  obtain⟨o5',w',g5,h⟩:=HC ok hSc hr es (gone b s e) (wE w e) (st++D5 b s w e) (shs++[vM b (gone b s e)]) (some e.d) (fun x hx=>he x (.tail _ hx)) (xH ok wo e he1.1) (by omega) (Gk rfl hsh) (by rw[List.length_append];simp;omega) (dz hst (Gn b s w e)) (by rw[List.length_append];omega) (Jo e)
  refine⟨o5',w',g5,(Gg rfl t).trans (h.trans ?_)⟩
  rw[List.append_assoc,List.append_assoc];rfl
end
theorem Ir{k n:Nat}(h:k<=n):PySem.Builtin.Str.strSliceIndices (some (k:Int)) none 1 n=(List.range (n - k)).map (k+·):=by
 unfold PySem.Builtin.Str.strSliceIndices PySem.sliceRange
 have e1:¬ (k:Int)<0:=by omega
 simp only[show(1:Int) > 0 by decide,if_true,if_neg e1]
 have e2:max 0 (min (k:Int) (n:Int))=k:=by omega
 rw[e2]
 have e3:(if (k:Int)<(n:Int) then ((n:Int) - k+1 - 1) / 1 else 0).toNat=n - k:=by
  split
  ·rw[Int.ediv_one];omega
  ·omega
 rw[e3]
 refine List.map_congr_left fun i _=>?_
 show((k:Int)+1*(i:Int)).toNat=k+i
 omega
theorem G5(l:List Nat)(k:Nat):(List.range (l.length - k)).filterMap (fun i=>l[k+i]?)=l.drop k:=by
 have:=zS (l.drop k) (l.length - k) (by rw[List.length_drop];omega)
 rw[List.take_of_length_le (by rw[List.length_drop];omega)] at this
 rw[<- this]
 congr 1
 funext i
 rw[List.getElem?_drop]
theorem EY(ps:List Pr){k:Nat}(h:k<=ps.length):Txt.slice (m8 ps) (some (k:Int)) none=m8 (ps.drop k):=by
 unfold Txt.slice
 rw[va,Ir h]
 by_cases hk:k=0
 ·rw[if_pos (by simp[hk]),hk];rfl
 ·rw[if_neg (by simp;omega)]
  show Str.mk _=Str.mk _
  congr 2
  have:=G5 (ps.map Pr.code) k
  rw[<- List.map_drop,List.length_map] at this
  rw[<- this,List.filterMap_map]
  congr 1
  funext i
  simp[m8]
theorem Lv(n:Int):∃f:Int->Pr,∀i,k9 (.str (oS "abcABC")) (.int (u6 n i / 4%6))=some (.str (Pr.x (f i))):=by
 have hpr:∀i:Int,∃p:Pr,k9 (.str (oS "abcABC")) (.int (u6 n i / 4%6))=some (.str (Pr.x p)):=fun i=>by
  have h:u6 n i / 4%6=0\/u6 n i / 4%6=1\/u6 n i / 4%6=2\/u6 n i / 4%6=3\/u6 n i / 4%6=4\/u6 n i / 4%6=5:=by omega
  rcases h with h | h | h | h | h | h<;>rw[h]
  ·exact⟨(.a,false),rfl⟩
  ·exact⟨(.b,false),rfl⟩
  ·exact⟨(.c,false),rfl⟩
  ·exact⟨(.a,true),rfl⟩
  ·exact⟨(.b,true),rfl⟩
  ·exact⟨(.c,true),rfl⟩
 exact⟨fun i=>(hpr i).choose,fun i=>(hpr i).choose_spec⟩
theorem LM(n:Int)(hn:0<=n){a0 a1 a2 a3 a4 a5 a7 a8 a9 a10 a11 a12:OD}:∃ps:List Pr,ps.length<=6/\l6 (i4 Cf (e8 (kS "") (e8 (En 1 (uD (i5 tG (e9 6) (kI 7))) (setAt 0) yK (i5 k9 (kS "abcABC") (i5 tG (i5 vn (i4 aF (e8 (e9 7) (e8 (e9 0) i3))) (kI 4)) (kI 6)))) i3))) (setAt 7) [a0,a1,a2,a3,a4,a5,some (.int n),a7,a8,a9,a10,a11,a12]=some (.nx [a0,a1,a2,a3,a4,a5,some (.int n),some (.str (m8 ps)),a8,a9,a10,a11,a12]):=by
 obtain⟨f,hfp⟩:=Lv n
 obtain⟨c,hc7,hc⟩:∃c:Nat,n%7=(c:Int)/\c<7:=⟨(n%7).toNat,by omega,by omega⟩
 refine⟨(B4 c).map f,by simp[B4];omega,?_⟩
 generalize hρ:[a0,a1,a2,a3,a4,a5,some (.int n),a7,a8,a9,a10,a11,a12]=ρ
 have v6:e9 6 ρ=some (.int n):=by rw[<- hρ];rfl
 have hcm:vV (setAt 0) yK (i5 k9 (kS "abcABC") (i5 tG (i5 vn (i4 aF (e8 (e9 7) (e8 (e9 0) i3))) (kI 4)) (kI 6))) ((B4 c).map .int) (List.replicate 1 none++ρ)=some (((B4 c).map .int).map fun d:D=>match d with | .int i=>.str (Pr.x (f i)) | _=>.non):=
  Cc _ fun d hd=>by
   obtain⟨i,_,rfl⟩:=List.mem_map.mp hd
   refine⟨some (.int i)::ρ,rfl,?_⟩
   have v7:e9 7 (some (.int i)::ρ)=some (.int n):=v6
   exact k7 rfl (k7 (k7 (i8 (l9 v7 (l9 rfl rfl)) (xA n i)) rfl rfl) rfl (modS (by decide))) (hfp i)
 have hlc:En 1 (uD (i5 tG (e9 6) (kI 7))) (setAt 0) yK (i5 k9 (kS "abcABC") (i5 tG (i5 vn (i4 aF (e8 (e9 7) (e8 (e9 0) i3))) (kI 4)) (kI 6))) ρ=some (.lst (((B4 c).map f).map fun p=>.str (Pr.x p))):=by
  have hi:=inR (f:=i5 tG (e9 6) (kI 7)) (ρ:=ρ) (n:=c) (by rw[<- hc7];exact k7 v6 rfl (modS (by decide))) (by omega)
  unfold En
  rw[hi,pT]
  show(if ((B4 c).map D.int).length<=sizeLine then _ else _)=_
  rw[if_pos (Mp (by simp[B4];omega)),hcm,List.map_map,List.map_map]
  rfl
 refine p7 (i8 (l9 rfl (l9 hlc rfl)) (JE _ (by simp[B4];omega))) ?_
 rw[<- hρ];rfl
def wH(b:Bk)(ps:List Pr):List Ev:=ps.flatMap (Pr.evs b)
theorem Ax(b:Bk):∀(ps:List Pr) (s:WS),vq b s ps=v9 b s (wH b ps)
 | [],_=>rfl
 | p::ps,s=>by
  show vq b (zZ b s p) ps=v9 b s (Pr.evs b p++wH b ps)
  rw[Ax b ps,GI];rfl
theorem HR{b:Bk}{a0 a2 a3 a4 a5 a6 a7 a8 a11 a12:OD}{es:List Ev}(hes:es.length<=100)(p:Pr) :
  ∃o,gl [a0,some b.d,a2,a3,a4,a5,a6,a7,a8,some (.tup (es.map Ev.d)),some (.str (Pr.x p)),a11,a12]=some (.nx [a0,some b.d,a2,a3,a4,a5,a6,a7,a8,some (.tup ((es++Pr.evs b p).map Ev.d)),some (.str (Pr.x p)),o,a12]):=by
 obtain⟨x,q⟩:=p
 have hl:(es.map Ev.d).length<=100:=by rw[List.length_map];exact hes
 have hlow:GD (.str (Pr.x (x,q)))=some (.str x.x):=by cases q;exact KP x;exact KD x
 have hm:i5 FF (l5 (e8 (l5 (e8 (kS "ticks") (e8 (i5 k9 (e9 1) (kI 0)) i3))) i3)) (i4 xq (e8 (x5 (l4 Hi (e9 10) (e9 11))) i3)) [a0,some b.d,a2,a3,a4,a5,a6,a7,a8,some (.tup (es.map Ev.d)),some (.str (Pr.x (x,q))),some (.str x.x),a12]=some (.tup ((if q then [Ev.ticks b.hold] else []).map Ev.d)):=by
  cases q with
  | false =>
   have e:Hi (.str x.x) (.str x.x)=some false:=by cases x<;>rfl
   exact k7 (tupS (l9 (tupS (l9 rfl (l9 (k7 rfl rfl (b0 b)) rfl))) rfl)) (i8 (l9 (Dt (tU rfl rfl e)) rfl) (Cr false)) rfl
  | true =>
   have e:Hi (.str x.X) (.str x.x)=some true:=by cases x<;>rfl
   exact k7 (tupS (l9 (tupS (l9 rfl (l9 (k7 rfl rfl (b0 b)) rfl))) rfl)) (i8 (l9 (Dt (tU rfl rfl e)) rfl) (Cr true)) (by unfold FF;rfl)
 have s1:iO [a0,some b.d,a2,a3,a4,a5,a6,a7,a8,some (.tup (es.map Ev.d)),some (.str (Pr.x (x,q))),a11,a12]=some (.nx [a0,some b.d,a2,a3,a4,a5,a6,a7,a8,some (.tup (es.map Ev.d)),some (.str (Pr.x (x,q))),some (.str x.x),a12]):=p7 (NI rfl hlow) rfl
 have s2:iQ [a0,some b.d,a2,a3,a4,a5,a6,a7,a8,some (.tup (es.map Ev.d)),some (.str (Pr.x (x,q))),some (.str x.x),a12]=some (.nx [a0,some b.d,a2,a3,a4,a5,a6,a7,a8,some (.tup (((es.map Ev.d++[(Ev.down x).d])++(if q then [Ev.ticks b.hold] else []).map Ev.d)++[(Ev.up x).d])),some (.str (Pr.x (x,q))),some (.str x.x),a12]):=
  p7 (k7 (k7 (k7 rfl (tupS (l9 (tupS (l9 rfl (l9 rfl rfl))) rfl)) (ID (ys:=[(Ev.down x).d]) (by simp;omega))) hm (ID (by cases q<;>simp<;>omega))) (tupS (l9 (tupS (l9 rfl (l9 rfl rfl))) rfl)) (ID (ys:=[(Ev.up x).d]) (by cases q<;>simp<;>omega))) rfl
 refine⟨some (.str x.x),?_⟩
 unfold gl
 rw[m9 s1,s2]
 cases q<;>simp[Pr.evs]
theorem DQ{b:Bk}{a0 a2 a3 a4 a5 a6 a7 a8 a12:OD}:∀(ps:List Pr) (es:List Ev) (a10 a11:OD),es.length+3*ps.length<=100 ->
  ∃o10 o11,zH (setAt 10) gl (ps.map fun p=>.str (Pr.x p)) [a0,some b.d,a2,a3,a4,a5,a6,a7,a8,some (.tup (es.map Ev.d)),a10,a11,a12]=some (.nx [a0,some b.d,a2,a3,a4,a5,a6,a7,a8,some (.tup ((es++wH b ps).map Ev.d)),o10,o11,a12])
 | [],es,a10,a11,_=>⟨a10,a11,by show some (Out.nx _)=_;rw[show wH b []=[] from rfl,List.append_nil]⟩
 | p::ps,es,a10,a11,h=>by
  rw[List.length_cons] at h
  obtain⟨o,t⟩:=HR (b:=b) (a0:=a0) (a2:=a2) (a3:=a3) (a4:=a4) (a5:=a5) (a6:=a6) (a7:=a7) (a8:=a8) (a11:=a11) (a12:=a12) (es:=es) (by omega) p
  have hp:(Pr.evs b p).length<=3:=by obtain⟨x,q⟩:=p;cases q<;>simp[Pr.evs]
  obtain⟨o10,o11,ih⟩:=DQ (b:=b) (a0:=a0) (a2:=a2) (a3:=a3) (a4:=a4) (a5:=a5) (a6:=a6) (a7:=a7) (a8:=a8) (a12:=a12) ps (es++Pr.evs b p) (some (.str (Pr.x p))) o (by rw[List.length_append];omega)
  refine⟨o10,o11,(Dm rfl t).trans (ih.trans ?_)⟩
  rw[List.append_assoc];rfl
theorem Mz{it:R->Option LD}{stp:D->R->Option R}{u:MU}{S:List Nat}{ρ:R}{ds:LD}(h1:it ρ=some ds)(h2:m6 ds=true):Hu it stp u S ρ=CY stp u S ds ρ:=by
 unfold Hu
 rw[h1,Option.bind_some,if_pos h2]
theorem DP:∀l:List H_,nofs (l.map uj)=true
 | []=>rfl
 | x::l=>by show(true&&nofs (l.map uj))=true;rw[DP l];rfl
theorem JH{b:Bk}(ok:b.Ok):(Ev.ticks b.hold).Lt:=⟨ok.hold1,by show b.hold<=130;have:=ok.hold9;omega⟩
theorem pM:tP (.str Eo)=true:=by rw[tP];decide +kernel
theorem lP(x:vI):tP (.str x.x)=true/\tP (.str x.X)=true:=by rw[tP,tP];cases x<;>exact⟨by decide +kernel,by decide +kernel⟩
theorem pL(s:WS):tP (.str (vo s))=true:=by
 unfold vo
 split
 ·rw[tP];decide +kernel
 ·exact(lP _).2
theorem JS{b:Bk}{s:WS}(e:Ev):∀p∈Hl b s e,tP (.str p.2)=true:=by
 have hr:∀(k:Int) (l:List Int),∀p∈zy k l,tP (.str p.2)=true:=fun k l p hp=>by
  obtain⟨i,_,rfl⟩:=List.mem_map.mp hp
  exact pM
 cases e with
 | down x=>intro p hp;cases hp
 | up x =>
  intro p hp
  have hp':p∈(if Ew s x then [((0:Int),x.x)] else []):=hp
  split at hp'
  ·rw[List.mem_singleton.mp hp'];exact(lP x).1
  ·cases hp'
 | ticks n =>
  intro p hp
  have hp':p∈wm b s n:=hp
  unfold wm at hp'
  split at hp'
  ·exact hr _ _ p hp'
  ·split at hp'
   ·exact hr _ _ p hp'
   ·rcases List.mem_append.mp hp' with q | q
    ·exact hr _ _ p q
    ·rcases List.mem_cons.mp q with q | q
     ·rw[q];exact pL s
     ·exact hr _ _ p q
theorem Ek(b:Bk):∀(es:List Ev) (s:WS) (k:Int),∀p∈DT b s k es,tP (.str p.2)=true
 | [],_,_,p,hp=>by cases hp
 | e::es,s,k,p,hp=>by
  rcases List.mem_append.mp hp with q | q
  ·obtain⟨p',h1,rfl⟩:=List.mem_map.mp q
   exact JS e p' h1
  ·exact Ek b es _ _ p q
theorem D8:∀l:List H_,(∀p∈l,tP (.str p.2)=true)->uF (l.map uj)=true/\vW (l.map uj)<=1
 | [],_=>⟨rfl,Nat.zero_le _⟩
 | p::l,h=>by
  obtain⟨i1,i2⟩:=D8 l fun q hq=>h q (.tail _ hq)
  have h1:tP (uj p)=true:=by
   unfold uj
   rw[tP,uF,uF,uF,h p (.head _)];rfl
  constructor
  ·show(tP (uj p)&&uF (l.map uj))=true
   rw[h1,i1];rfl
  ·show max (wQ (uj p)) (vW (l.map uj))<=1
   have:wQ (uj p)=1:=rfl
   omega
theorem Jf{l:List H_}(h:∀p∈l,tP (.str p.2)=true):Bt (.tup (l.map uj)) (.tup (l.map uj))=some false:=by
 obtain⟨h1,h2⟩:=D8 l h
 exact Ae (by show vW _+1<=100;omega) (by rw[tP];exact h1)
theorem FG:∀es:List Ev,(∀e∈es,e.Lt)->Di es<=130*es.length
 | [],_=>Int.le_refl _
 | e::es,h=>by
  have ih:=FG es fun x hx=>h x (.tail _ hx)
  have hT:J7 e<=130:=by
   have he:=h e (.head _)
   cases e with
   | ticks n=>exact he.2
   | down x=>show(0:Int)<=130;decide
   | up x=>show(0:Int)<=130;decide
  show J7 e+Di es<=_
  rw[List.length_cons];omega
def Ij(b:Bk):List Ev:=[.down .a,.up .a,.down .b,.ticks b.hold]
theorem M9{b:Bk}{Sc:D}(ok:b.Ok){n:Int}(hn:aS [Sc,.int 2]=some (.int n)){evs:List Ev}(hev:∀e∈evs,e.Lt)(hl:evs.length<=9) :
  ∃es:List Ev,(∀e∈es,e.Lt)/\es.length<=13/\nU (Cp 13 [Sc,b.d,.tup (evs.map Ev.d)])=some (.nx (Cp 13 [Sc,b.d,.tup (es.map Ev.d)])):=by
 have e1:i5 tG (i4 aS (e8 (e9 0) (e8 (kI 2) i3))) (kI 2) (Cp 13 [Sc,b.d,.tup (evs.map Ev.d)])=some (.int (n%2)):=k7 (i8 rfl hn) rfl (modS (by decide))
 by_cases h:n%2=0
 ·refine⟨Ij b++evs,fun e he=>?_,by rw[List.length_append];show 4+_<=13;omega,?_⟩
  ·rcases List.mem_append.mp he with q | q
   ·have q':e=.down .a\/e=.up .a\/e=.down .b\/e=.ticks b.hold:=by simpa [Ij] using q
    rcases q' with rfl | rfl | rfl | rfl
    ·exact⟨trivial,trivial⟩
    ·exact⟨trivial,trivial⟩
    ·exact⟨trivial,trivial⟩
    ·exact JH ok
   ·exact hev e q
  ·refine(zQ (tU e1 rfl (show uW (.int (n%2)) (.int 0)=some true by rw[h];rfl))).trans ?_
   refine p7 (d:=.tup ((Ij b).map Ev.d++evs.map Ev.d)) (k7 (tupS (l9 (tupS (l9 rfl (l9 rfl rfl))) (l9 (tupS (l9 rfl (l9 rfl rfl))) (l9 (tupS (l9 rfl (l9 rfl rfl))) (l9 (tupS (l9 rfl (l9 (k7 rfl rfl (b0 b)) rfl))) rfl))))) rfl (ID (by rw[List.length_map];show 4+_<=1000;omega))) ?_
   rw[<- List.map_append];rfl
 ·exact⟨evs,hev,by omega,yd (tU e1 rfl (PQ h))⟩
theorem Jm{e:Ev}(h:e.Lt):e.Ok/\Cj e:=by
 refine⟨h.1,?_⟩
 cases e with
 | ticks n=>exact⟨h.1,by have:n<=130:=h.2;omega⟩
 | down x=>trivial
 | up x=>trivial
theorem L8{a l:Nat}{Sc r W:D}{b:Bk}{s:WS}{sh:LD}{o5:OD}{n3:Int}(ok:b.Ok)(wa:s.Ok b)(e3:aS [Sc,.int 3]=some (.int n3))(hn3:0<=n3)(ea:cE [b.d,tm.d,r]=some s.d) :
  ∃ ρ',tE kC (tE kN (tE jr (tE iR (tE i_ (tE jq (tE iX iN)))))) [a,l] (LR Sc b r W sh o5)=some (.rt (.bl true) ρ'):=by
 have s8:kC [a,l] (LR Sc b r W sh o5)=some (.nx (LR Sc b r W sh o5 (some (.int n3)))):=mP (p7 (i8 rfl e3) rfl)
 obtain⟨ps,hp6,ht⟩:=LM n3 hn3 (a0:=some Sc) (a1:=some b.d) (a2:=some r) (a3:=some W) (a4:=some (.tup sh)) (a5:=o5) (a7:=none) (a8:=none) (a9:=none) (a10:=none) (a11:=none) (a12:=none)
 have s9:kN [a,l] (LR Sc b r W sh o5 (some (.int n3)))=some (.nx (LR Sc b r W sh o5 (some (.int n3)) (some (.str (m8 ps))))):=mP ht
 have s10:jr [a,l] (LR Sc b r W sh o5 (some (.int n3)) (some (.str (m8 ps))))=some (.nx (LR Sc b r W sh o5 (some (.int n3)) (some (.str (m8 ps))) (some s.d))):=mP (p7 (i8 (l9 rfl (l9 (i8 rfl (iC _)) (l9 rfl rfl))) ea) rfl)
 have s11:iR [a,l] (LR Sc b r W sh o5 (some (.int n3)) (some (.str (m8 ps))) (some s.d))=some (.nx (LR Sc b r W sh o5 (some (.int n3)) (some (.str (m8 ps))) (some s.d) (some (.tup [])))):=mP (p7 rfl rfl)
 obtain⟨o10,o11,h12⟩:=DQ (b:=b) (a0:=some Sc) (a2:=some r) (a3:=some W) (a4:=some (.tup sh)) (a5:=o5) (a6:=some (.int n3)) (a7:=some (.str (m8 ps))) (a8:=some s.d) (a12:=none) ps [] none none (by show 0+3*ps.length<=100;omega)
 rw[List.nil_append] at h12
 have hi:∀r:R,e9 7 r=some (.str (m8 ps))->ve (e9 7) r=some (ps.map fun p=>.str (Pr.x p)):=fun r h=>by
  show(e9 7 r).bind _=_
  rw[h]
  show(if (m8 ps).cps.all (·<128) then some (chars (m8 ps)) else none)=_
  rw[if_pos (zw ps),zE]
 have s12:i_ [a,l] (LR Sc b r W sh o5 (some (.int n3)) (some (.str (m8 ps))) (some s.d) (some (.tup [])))=some (.nx (LR Sc b r W sh o5 (some (.int n3)) (some (.str (m8 ps))) (some s.d) (some (.tup ((wH b ps).map Ev.d))) o10 o11)):=mP (zl (hi _ rfl) h12)
 have eok:∀e∈wH b ps,e.Ok:=fun e he=>by
  obtain⟨p,_,hp⟩:=List.mem_flatMap.mp he
  exact ET ok p e hp
 have ep:=fz ok wa ps
 have ep0:bF [b.d,s.d,.str (oS "")]=some s.d:=by
  have:=fz ok wa []
  rw[show m8 []=oS "" by decide +kernel] at this
  exact this
 have ea2:cE [b.d,s.d,.tup ((wH b ps).map Ev.d)]=some (vq b s ps).d:=by rw[kL ok wa _ eok,Ax]
 have s13:jq [a,l] (LR Sc b r W sh o5 (some (.int n3)) (some (.str (m8 ps))) (some s.d) (some (.tup ((wH b ps).map Ev.d))) o10 o11)=some (.nx (LR Sc b r W sh o5 (some (.int n3)) (some (.str (m8 ps))) (some s.d) (some (.tup ((wH b ps).map Ev.d))) o10 o11)):=
  mP ((yd (Px (tU (i8 rfl ep) (i8 rfl ea2) (Ko _)) (tU (i8 rfl ep0) rfl (Ko _)))).trans rfl)
 obtain⟨k,hk,hkl⟩:∃k:Nat,n3 / 8%((ps.length:Int)+1)=(k:Int)/\k<=ps.length:=by
  have h1:=Int.emod_nonneg (n3 / 8) (b:=(ps.length:Int)+1) (by omega)
  have h2:=Int.emod_lt_of_pos (n3 / 8) (b:=(ps.length:Int)+1) (by omega)
  exact⟨(n3 / 8%((ps.length:Int)+1)).toNat,by omega,by omega⟩
 have hlen:FE [.str (m8 ps)]=some (.int (ps.length:Int)):=by
  show(if (m8 ps).length<=sizeLine then some (D.int ((m8 ps).length:Int)) else none)=_
  rw[if_pos (by rw[va];exact Mp (by omega)),va]
 have s14:iX [a,l] (LR Sc b r W sh o5 (some (.int n3)) (some (.str (m8 ps))) (some s.d) (some (.tup ((wH b ps).map Ev.d))) o10 o11)=some (.nx (LR Sc b r W sh o5 (some (.int n3)) (some (.str (m8 ps))) (some s.d) (some (.tup ((wH b ps).map Ev.d))) o10 o11 (some (.int (k:Int))))):=
  mP (p7 (by rw[<- hk];exact k7 (k7 rfl rfl rfl) (k7 (i8 rfl hlen) rfl rfl) (modS (by omega))) rfl)
 have PL:Ms (e9 7) I8 (aP (e9 12)) (LR Sc b r W sh o5 (some (.int n3)) (some (.str (m8 ps))) (some s.d) (some (.tup ((wH b ps).map Ev.d))) o10 o11 (some (.int (k:Int))))=some (.str (m8 (ps.take k))):=by
  show(if (m8 ps).length<=sizeLine then some (D.str (Txt.slice (m8 ps) none (some (k:Int)))) else none)=_
  rw[if_pos (by rw[va];exact Mp (by omega)),EJ ps hkl]
 have sl2:Ms (e9 7) (aP (e9 12)) I8 (LR Sc b r W sh o5 (some (.int n3)) (some (.str (m8 ps))) (some s.d) (some (.tup ((wH b ps).map Ev.d))) o10 o11 (some (.int (k:Int))))=some (.str (m8 (ps.drop k))):=by
  show(if (m8 ps).length<=sizeLine then some (D.str (Txt.slice (m8 ps) (some (k:Int)) none)) else none)=_
  rw[if_pos (by rw[va];exact Mp (by omega)),EY ps hkl]
 have ep1:=fz ok wa (ps.take k)
 have ep2:=fz ok (An ok (ps:=ps.take k) wa) (ps.drop k)
 have e12:vq b (vq b s (ps.take k)) (ps.drop k)=vq b s ps:=by
  conv=>rhs;rw[<- List.take_append_drop k ps]
  exact(List.foldl_append).symm
 rw[e12] at ep2
 have s15:iN [a,l] (LR Sc b r W sh o5 (some (.int n3)) (some (.str (m8 ps))) (some s.d) (some (.tup ((wH b ps).map Ev.d))) o10 o11 (some (.int (k:Int))))=some (.rt (.bl true) (LR Sc b r W sh o5 (some (.int n3)) (some (.str (m8 ps))) (some s.d) (some (.tup ((wH b ps).map Ev.d))) o10 o11 (some (.int (k:Int))))):=
  Ql (retS (Dt (tU (i8 (l9 rfl (l9 (i8 (l9 rfl (l9 rfl (l9 PL rfl))) ep1) (l9 sl2 rfl))) ep2) (i8 rfl ep) (Nt _))))
 exact⟨_,(mN s8).trans ((mN s9).trans ((mN s10).trans ((mN s11).trans ((mN s12).trans ((mN s13).trans ((mN s14).trans s15))))))⟩
theorem HZ(ns:List Int)(_:ns.length<=63):lC [.fro (ns.map .int)]=some (.bl true):=by
 obtain⟨n0,e0,hn0⟩:=xC ns 0 (by decide)
 obtain⟨n1,e1,hn1⟩:=xC ns 1 (by decide)
 obtain⟨n2,e2,hn2⟩:=xC ns 2 (by decide)
 obtain⟨n3,e3,hn3⟩:=xC ns 3 (by decide)
 obtain⟨bd,eb,hb,_⟩:=oJ n0
 obtain⟨b,rfl,ok⟩:=qK hb
 obtain⟨evs,er,hev,hlen⟩:=qD n1 9 (by decide) (by decide)
 have hSc:t_ (.fro (ns.map .int))=true:=xp ns
 generalize hS:D.fro (ns.map .int)=Sc at *
 have hl9:evs.length<=9:=hlen
 obtain⟨es,hes,hl13,s3⟩:=M9 ok e2 hev hl9
 have hr:t_ (.tup (es.map Ev.d))=true:=Ay Jo es
 have hok:∀e∈es,e.Ok:=fun e he=>(hes e he).1
 have s1:nu (Cp 13 [Sc])=some (.nx (Cp 13 [Sc,b.d])):=p7 (i8 (l9 (i8 rfl e0) rfl) eb) rfl
 have s2:nr (Cp 13 [Sc,b.d])=some (.nx (Cp 13 [Sc,b.d,.tup (evs.map Ev.d)])):=p7 (i8 (l9 (i8 rfl e1) (l9 rfl rfl)) er) rfl
 refine n9 ((m9 s1).trans ((m9 s2).trans ((m9 s3).trans (Kc (ds:=[tm.d]) (by exact l9 (i8 rfl (iC _)) rfl) (by show 3<13;decide) fun a l hal=>⟨k6 a l tm 0 [],?_⟩))))
 have bo:=Bd ok
 have wa:=Bx ok bo hok
 obtain⟨o5,w',g5,h6⟩:=HC (a:=a) (l:=l) (Sc:=Sc) ok hSc hr es tm 0 [] [] none hes bo (by show(0:Int)+130*es.length<100000000;omega) rfl (by show 0+es.length<900;omega) rfl (by show 0+260*es.length<60000;omega) rfl
 have hst:AL b tm 0 es=(DT b tm 0 es).map uj:=CH ok es tm 0 bo hok
 have nst:=D3 b es tm 0
 rw[List.nil_append,List.nil_append] at h6
 have s5:nT [a,l] [some Sc,some b.d,some (.tup (es.map Ev.d)),some (k6 a l tm 0 []),none,none,none,none,none,none,none,none,none]=some (.nx (LR Sc b (.tup (es.map Ev.d)) (k6 a l tm 0 []) [])):=mP (p7 rfl rfl)
 have s6:nG [a,l] (LR Sc b (.tup (es.map Ev.d)) (k6 a l tm 0 []) [])=some (.nx (LR Sc b (.tup (es.map Ev.d)) (k6 a l (v9 b tm es) w' (AL b tm 0 es)) (sights b tm es) o5)):=(Mz rfl (Ay Jo es)).trans h6
 have hsum:=FG es hes
 have eseen:=rS ok es hok (by omega) (by omega)
 have estory:=qN ok es (fun e he=>Jm (hes e he)) (by omega)
 have nsh:m6 (sights b tm es)=true:=fg (fG b es tm)
 generalize hX:v9 b tm es=s at *
 have thw:Cz 3 (oS "story") (i4 Iq (e8 (i5 q9 (e9 3) (kS "story")) i3)) (LR Sc b (.tup (es.map Ev.d)) (k6 a l s w' (AL b tm 0 es)) (sights b tm es) o5)=some (.tup (AL b tm 0 es)):=
  P8 rfl (Kv hSc hr nsh g5) nst rfl (by rw[hst];exact DP _)
 have s7:nV [a,l] (LR Sc b (.tup (es.map Ev.d)) (k6 a l s w' (AL b tm 0 es)) (sights b tm es) o5)=some (.nx (LR Sc b (.tup (es.map Ev.d)) (k6 a l s w' (AL b tm 0 es)) (sights b tm es) o5)):=
  mP ((yd (Px (tU (i8 rfl eseen) rfl (GL b es tm)) (tU (i8 rfl estory) thw (by rw[hst];exact Jf (Ek b es tm 0))))).trans rfl)
 obtain⟨ρ',ht⟩:=L8 (a:=a) (l:=l) (W:=k6 a l s w' (AL b tm 0 es)) (sh:=sights b tm es) (o5:=o5) ok wa e3 hn3 (by rw[kL ok bo es hok,hX])
 exact⟨_,sK,(mN s5).trans ((mN s6).trans ((mN s7).trans ht)),rfl⟩
end HW
set_option maxRecDepth 100000
namespace HW
open PySem PySem.Spec PyProof.Rows L2
variable{P:Program}{w:World}{K:W.Frag}{mg:Str->Option Value}{base:Heap}{k:Nat}{f:Addr}{fd:FuncData}
def top(i:Nat):Stmt:=PySem.Challenge.pw_handwatch_k20_rows.main.body.getD i (.Pass ⟨0,0,0,0⟩)
abbrev dQ:Stmt:=top 81
theorem yT:i7 ["_law_number","_law_k","_law_drawn_here"] ["_law_number","_law_k"] (i6 dQ):=uI
theorem jJ(Fn:uu K "_law_drawn" "_law_drawn" dQ f fd):n5 P w K mg base ui (k+1) f fd ["_law_number","_law_k"] (uE K aF):=by
 refine aw Fn yT ?_
 intro _ _ _ _ _ _ hr
 refine ao ?_ ?_
 ·refine aD ?_ ?_
  ·refine al aG ?_ ae
   refine al bY ?_ ae
   refine al aA ?_ ae
   refine al aA (ac 0) ?_
   exact al bY ae (ac 1)
  exact ai 2 yT.nd
 refine ar ?_
 refine aC ?_
 refine al aG ?_ ae
 refine al aA ?_ (ac 1)
 refine al aA ?_ ?_
 ·exact al bY (ac 2) (ac 2)
 exact al bY ae (ac 2)
abbrev fi:Stmt:=top 82
theorem tL:i7 ["_law_number","_law_many","_law_deeds","_law_modes","_law_k","_law_drawn_here","_law_rows","_law_j","_law_one","_law_face"] ["_law_number"] (i6 fi):=uI
theorem kz(tY:p6 P w K mg base k "_law_drawn" ["_law_number","_law_k"] aF)(ut:mg "range" = none)(Fn:uu K "_law_book" "_law_book" fi f fd):n5 P w K mg base ui (k+1) f fd ["_law_number"] (uE K cJ):=by
 refine aw Fn tL ?_
 intro _ _ _ _ _ _ hr
 refine ao ?_ ?_
 ·refine aD ?_ ?_
  ·refine al aA ae ?_
   exact al aG (ac 0) ae
  exact ai 1 tL.nd
 refine ao ?_ ?_
 ·refine aD ?_ ?_
  ·refine av ?_
   refine ab ag ?_
   refine ab ag ?_
   refine ab ag ?_
   refine ab ag ?_
   refine ab ag ?_
   refine ab ag ?_
   refine ab ag ?_
   refine ab ag ?_
   exact ab ag (ab ag (ab ag (ab ag af)))
  exact ai 2 tL.nd
 refine ao ?_ ?_
 ·refine aD ?_ ?_
  ·exact av af
  exact ai 3 tL.nd
 refine ao ?_ ?_
 ·refine ll PassesOwn.never rfl ?_ ?_ ?_
  ·exact iA ut (ac 1)
  ·exact ai 4 tL.nd
  refine ao ?_ ?_
  ·refine aD ?_ ?_
   ·refine al bM ?_ ae
    exact ak tY hr (ab (ac 0) (ab (ac 4) af))
   exact ai 5 tL.nd
  refine ao ?_ ?_
  ·refine aD ?_ ?_
   ·exact av af
   exact ai 6 tL.nd
  refine ao ?_ ?_
  ·refine ll PassesOwn.never rfl ?_ ?_ ?_
   ·exact iA ut ae
   ·exact ai 7 tL.nd
   refine ao ?_ ?_
   ·refine aD ?_ ?_
    ·refine al bM ?_ ae
     refine ak tY hr ?_
     refine ab (ac 5) ?_
     refine ab ?_ af
     exact al aA ae (ac 7)
    exact ai 8 tL.nd
   refine ar ?_
   refine aD ?_ ?_
   ·refine al aA (ac 6) ?_
    refine av ?_
    refine ab ?_ af
    refine av ?_
    refine ab ?_ ?_
    ·refine aj ?_ ?_
     ·refine al aA (ac 2) ?_
      exact av (ab ag af)
     exact al aG (ac 8) ae
    refine ab ?_ af
    refine al aG ?_ (ac 1)
    exact al bM (ac 8) ae
   exact ai 6 tL.nd
  refine ao ?_ ?_
  ·refine aD ?_ ?_
   ·refine aj ?_ ?_
    ·refine av ?_
     exact ab ag (ab ag (ab ag (ab ag af)))
    exact al aG (ac 5) ae
   exact ai 9 tL.nd
  refine ar ?_
  refine aD ?_ ?_
  ·refine al aA (ac 3) ?_
   refine av ?_
   refine ab ?_ af
   refine av ?_
   refine ab (ac 9) ?_
   refine ab ?_ (ab (ac 6) af)
   refine bH (bw hr) ?_ ae
   refine al aG ?_ ae
   exact al bM (ac 5) ae
  exact ai 3 tL.nd
 refine ar ?_
 refine aC ?_
 refine av ?_
 refine ab ?_ ?_
 ·refine al aA ae ?_
  refine al aG ?_ ?_
  ·exact al bM (ac 0) ae
  refine aj ?_ ?_
  ·exact av (ab ae (ab ae af))
  refine al aG ?_ ae
  exact al bM (ac 0) ae
 refine ab ?_ (ab (ac 3) af)
 refine aj ?_ ?_
 ·refine av ?_
  refine ab ae ?_
  exact ab ae (ab ae (ab ae (ab ae af)))
 refine al aG ?_ ae
 exact al bM (ac 0) ae
abbrev cZ:Stmt:=top 79
theorem ij:i7 ["_law_script","_law_k"] ["_law_script","_law_k"] (i6 cZ):=uI
theorem im(xY:mg "len" = none)(Fn:uu K "_law_cell_at" "_law_cell_at" cZ f fd):n5 P w K mg base ui (k+1) f fd ["_law_script","_law_k"] (uE K bR):=by
 refine aw Fn ij ?_
 intro _ _ _ _ _ _ hr
 refine ao ?_ ?_
 ·refine cy ?_ ?_ aU
  ·refine aE nH (ac 1) ?_
   exact bW mD xY (ab (ac 0) af)
  refine ar ?_
  exact aC (aj (ac 0) (ac 1))
 refine ar ?_
 exact aC ae
abbrev dZ:Stmt:=top 80
theorem yX:i7 ["_law_script","_law_k","_law_drawn_here"] ["_law_script","_law_k"] (i6 dZ):=uI
theorem jw(wK:p6 P w K mg base k "_law_cell_at" ["_law_script","_law_k"] bR)(Fn:uu K "_law_mixed" "_law_mixed" dZ f fd):n5 P w K mg base ui (k+1) f fd ["_law_script","_law_k"] (uE K aS):=by
 refine aw Fn yX ?_
 intro _ _ _ _ _ _ hr
 refine ao ?_ ?_
 ·refine aD ?_ ?_
  ·refine al aG ?_ ae
   refine al bY ?_ ae
   refine al aA ?_ ae
   refine al aA ?_ ?_
   ·exact ak wK hr (ab (ac 0) (ab (ac 1) af))
   exact al bY ae (ac 1)
  exact ai 2 yX.nd
 refine ar ?_
 refine aC ?_
 refine al aG ?_ ae
 refine al aA ?_ (ac 1)
 refine al aA ?_ ?_
 ·exact al bY (ac 2) (ac 2)
 exact al bY ae (ac 2)
abbrev dW:Stmt:=top 83
theorem xb:i7 ["_law_number","_law_button","_law_kind"] ["_law_number"] (i6 dW):=uI
theorem jB(Fn:uu K "_law_event" "_law_event" dW f fd):n5 P w K mg base ui (k+1) f fd ["_law_number"] (uE K bx):=by
 refine aw Fn xb ?_
 intro _ _ _ _ _ _ hr
 refine ao ?_ ?_
 ·refine aD ?_ ?_
  ·refine aj ag ?_
   refine al aG ?_ ae
   exact al bM (ac 0) ae
  exact ai 1 xb.nd
 refine ao ?_ ?_
 ·refine aD ?_ ?_
  ·exact al aG (ac 0) ae
  exact ai 2 xb.nd
 refine ao ?_ ?_
 ·refine cy ?_ ?_ aU
  ·exact aE nH (ac 2) ae
  refine ar ?_
  refine aC ?_
  exact av (ab ag (ab (ac 1) af))
 refine ao ?_ ?_
 ·refine cy ?_ ?_ aU
  ·exact aE nH (ac 2) ae
  refine ar ?_
  refine aC ?_
  exact av (ab ag (ab (ac 1) af))
 refine ar ?_
 refine aC ?_
 refine av ?_
 refine ab ag ?_
 refine ab ?_ af
 refine al aA ae ?_
 refine al aG ?_ ?_
 ·exact al bM (ac 0) ae
 refine aj ?_ ?_
 ·exact av (ab ae (ab ae (ab ae af)))
 refine al aG ?_ ae
 exact al bM (ac 0) ae
abbrev fH:Stmt:=top 84
theorem kY:i7 ["_law_number","_law_most"] ["_law_number","_law_most"] (i6 fH):=uI
theorem lK(tY:p6 P w K mg base k "_law_drawn" ["_law_number","_law_k"] aF)(xM:p6 P w K mg base k "_law_event" ["_law_number"] bx)(ut:mg "range" = none)(uA:mg "tuple" = none)(Fn:uu K "_law_row" "_law_row" fH f fd):n5 P w K mg base ui (k+1) f fd ["_law_number","_law_most"] (uE K de):=by
 refine aw Fn kY ?_
 intro _ _ _ _ _ _ hr
 refine ar ?_
 refine aC ?_
 refine bm gp uA ?_
 refine ab ?_ af
 refine kT (T:=["_law_k"]) rfl ?_ ?_ ?_ ?_ (xx (by decide)) (show List.Nodup ((["_law_k"]:List Str)++(["_law_number" ,"_law_most"]:List Str)) from by decide +kernel)
 ·refine iA ut ?_
  refine al aG (ac 0) ?_
  exact al aA (ac 1) ae
 ·intro C s₃ H₃ fp
  exact ai 0 (show List.Nodup (["_law_k" ,"_law_number" ,"_law_most"]:List Str) from by decide +kernel)
 ·intro C s₃ H₃ fp
  exact iF
 intro C s₃ H₃ fp
 refine ak xM hr ?_
 refine ab ?_ af
 refine al bM ?_ ae
 refine ak tY hr ?_
 refine ab (ac 1) ?_
 refine ab ?_ af
 exact al aA ae (ac 0)
abbrev dU:Stmt:=top 57
theorem jI:i7 ["state","button"] ["state","button"] (i6 dU):=uI
theorem jA(tF:uZ K mg "HELD" aX)(Fn:uu K "is_holding" "is_holding" dU f fd):n5 P w K mg base ui (k+1) f fd ["state","button"] (uE K bz):=by
 refine aw Fn jI ?_
 intro _ _ _ _ _ _ hr
 refine ar ?_
 refine aC ?_
 refine fO ?_ ?_
 ·exact bH bB (aj (ac 0) (ay tF)) aM
 refine gJ ?_
 exact bH (bw hr) (aj (aj (ac 0) (ay tF)) ae) (ac 1)
abbrev fP:Stmt:=top 58
theorem lB:i7 ["state","button"] ["state","button"] (i6 fP):=uI
theorem lg(uQ:p6 P w K mg base k "is_holding" ["state","button"] bz)(tF:uZ K mg "HELD" aX)(Fn:uu K "is_short" "is_short" fP f fd):n5 P w K mg base ui (k+1) f fd ["state","button"] (uE K bK):=by
 refine aw Fn lB ?_
 intro _ _ _ _ _ _ hr
 refine ar ?_
 refine aC ?_
 refine fO ?_ ?_
 ·exact ak uQ hr (ab (ac 0) (ab (ac 1) af))
 refine gJ ?_
 exact bH bB (aj (aj (ac 0) (ay tF)) ae) aM
abbrev qh:Stmt:=top 13
theorem rT:i7 ["state","place","part"] ["state","place","part"] (i6 qh):=uI
theorem sv(Fn:uu K "put" "put" qh f fd):n5 P w K mg base ui (k+1) f fd ["state","place","part"] (uE K aH):=by
 refine aw Fn rT ?_
 intro _ _ _ _ _ _ hr
 refine ar ?_
 refine aC ?_
 refine al aA ?_ ?_
 ·refine al aA ?_ ?_
  ·refine iK (ac 0) ge ?_
   exact gn (ac 1)
  exact av (ab (ac 2) af)
 refine iK (ac 0) ?_ ge
 refine gn ?_
 exact al aA (ac 1) ae
abbrev cM:Stmt:=top 19
theorem xt:i7 ["state","alarm"] ["state"] (i6 cM):=uI
theorem gS(tB:p6 P w K mg base k "put" ["state","place","part"] aH)(tZ:uZ K mg "ALARM" bg)(Fn:uu K "alarm_hour_on" "alarm_hour_on" cM f fd):n5 P w K mg base ui (k+1) f fd ["state"] (uE K bi):=by
 refine aw Fn xt ?_
 intro _ _ _ _ _ _ hr
 refine ao ?_ ?_
 ·refine aD (aj (ac 0) (ay tZ)) ?_
  exact ai 1 xt.nd
 refine ar ?_
 refine aC ?_
 refine ak tB hr ?_
 refine ab (ac 0) ?_
 refine ab (ay tZ) ?_
 refine ab ?_ af
 refine av ?_
 refine ab ?_ ?_
 ·refine al aG ?_ ae
  exact al aA (aj (ac 1) ae) ae
 exact ab (aj (ac 1) ae) (ab (aj (ac 1) ae) af)
abbrev cq:Stmt:=top 20
theorem wC:i7 ["state","alarm"] ["state"] (i6 cq):=uI
theorem fS(tB:p6 P w K mg base k "put" ["state","place","part"] aH)(tZ:uZ K mg "ALARM" bg)(Fn:uu K "alarm_minute_on" "alarm_minute_on" cq f fd):n5 P w K mg base ui (k+1) f fd ["state"] (uE K a_):=by
 refine aw Fn wC ?_
 intro _ _ _ _ _ _ hr
 refine ao ?_ ?_
 ·refine aD (aj (ac 0) (ay tZ)) ?_
  exact ai 1 wC.nd
 refine ar ?_
 refine aC ?_
 refine ak tB hr ?_
 refine ab (ac 0) ?_
 refine ab (ay tZ) ?_
 refine ab ?_ af
 refine av ?_
 refine ab (aj (ac 1) ae) ?_
 refine ab ?_ (ab (aj (ac 1) ae) af)
 refine al aG ?_ ae
 exact al aA (aj (ac 1) ae) ae
abbrev cX:Stmt:=top 21
theorem xV:i7 ["state","alarm"] ["state"] (i6 cX):=uI
theorem ib(tB:p6 P w K mg base k "put" ["state","place","part"] aH)(tZ:uZ K mg "ALARM" bg)(Fn:uu K "alarm_turned" "alarm_turned" cX f fd):n5 P w K mg base ui (k+1) f fd ["state"] (uE K bv):=by
 refine aw Fn xV ?_
 intro _ _ _ _ _ _ hr
 refine ao ?_ ?_
 ·refine aD (aj (ac 0) (ay tZ)) ?_
  exact ai 1 xV.nd
 refine ar ?_
 refine aC ?_
 refine ak tB hr ?_
 refine ab (ac 0) ?_
 refine ab (ay tZ) ?_
 refine ab ?_ af
 refine av ?_
 refine ab (aj (ac 1) ae) ?_
 refine ab (aj (ac 1) ae) ?_
 refine ab ?_ af
 exact fT (aj (ac 1) ae)
abbrev je:Stmt:=top 24
theorem nY:i7 ["state","minute","second"] ["state","minute","second"] (i6 je):=uI
theorem oz(tB:p6 P w K mg base k "put" ["state","place","part"] aH)(tH:uZ K mg "COUNT" aT)(Fn:uu K "set_to" "set_to" je f fd):n5 P w K mg base ui (k+1) f fd ["state","minute","second"] (uE K bX):=by
 refine aw Fn nY ?_
 intro _ _ _ _ _ _ hr
 refine ao ?_ ?_
 ·refine cy ?_ ?_ aU
  ·exact bV (aj (aj (ac 0) (ay tH)) ae)
  refine ar ?_
  exact aC (ac 0)
 refine ar ?_
 refine aC ?_
 refine ak tB hr ?_
 refine ab (ac 0) ?_
 refine ab (ay tH) ?_
 refine ab ?_ af
 refine av ?_
 refine ab (ac 1) ?_
 refine ab (ac 2) ?_
 refine ab ?_ (ab en af)
 refine al aA ?_ (ac 2)
 exact al bY ae (ac 1)
abbrev cj:Stmt:=top 25
theorem wJ:i7 ["state","count"] ["state"] (i6 cj):=uI
theorem fU(vw:p6 P w K mg base k "set_to" ["state","minute","second"] bX)(tH:uZ K mg "COUNT" aT)(Fn:uu K "count_minute_on" "count_minute_on" cj f fd):n5 P w K mg base ui (k+1) f fd ["state"] (uE K aZ):=by
 refine aw Fn wJ ?_
 intro _ _ _ _ _ _ hr
 refine ao ?_ ?_
 ·refine aD (aj (ac 0) (ay tH)) ?_
  exact ai 1 wJ.nd
 refine ar ?_
 refine aC ?_
 refine ak vw hr ?_
 refine ab (ac 0) ?_
 refine ab ?_ (ab (aj (ac 1) ae) af)
 refine al aG ?_ ae
 exact al aA (aj (ac 1) ae) ae
abbrev cu:Stmt:=top 26
theorem wA:i7 ["state","count"] ["state"] (i6 cu):=uI
theorem fR(vw:p6 P w K mg base k "set_to" ["state","minute","second"] bX)(tH:uZ K mg "COUNT" aT)(Fn:uu K "count_second_on" "count_second_on" cu f fd):n5 P w K mg base ui (k+1) f fd ["state"] (uE K aY):=by
 refine aw Fn wA ?_
 intro _ _ _ _ _ _ hr
 refine ao ?_ ?_
 ·refine aD (aj (ac 0) (ay tH)) ?_
  exact ai 1 wA.nd
 refine ar ?_
 refine aC ?_
 refine ak vw hr ?_
 refine ab (ac 0) ?_
 refine ab (aj (ac 1) ae) ?_
 refine ab ?_ af
 refine al aG ?_ ae
 exact al aA (aj (ac 1) ae) ae
abbrev c_:Stmt:=top 28
theorem v5:i7 ["state","count","runs"] ["state"] (i6 c_):=uI
theorem ii(tB:p6 P w K mg base k "put" ["state","place","part"] aH)(tH:uZ K mg "COUNT" aT)(Fn:uu K "count_turned" "count_turned" c_ f fd):n5 P w K mg base ui (k+1) f fd ["state"] (uE K bN):=by
 refine aw Fn v5 ?_
 intro _ _ _ _ _ _ hr
 refine ao ?_ ?_
 ·refine aD (aj (ac 0) (ay tH)) ?_
  exact ai 1 v5.nd
 refine ao ?_ ?_
 ·refine aD ?_ ?_
  ·refine fO ?_ ?_
   ·exact fT (aj (ac 1) ae)
   refine gJ ?_
   exact bH el (aj (ac 1) ae) ae
  exact ai 2 v5.nd
 refine ar ?_
 refine aC ?_
 refine ak tB hr ?_
 refine ab (ac 0) ?_
 refine ab (ay tH) ?_
 refine ab ?_ af
 refine av ?_
 refine ab (aj (ac 1) ae) ?_
 exact ab (aj (ac 1) ae) (ab (aj (ac 1) ae) (ab (ac 2) af))
abbrev iP:Stmt:=top 27
theorem Cg:i7 ["state","count"] ["state"] (i6 iP):=uI
theorem oo(vw:p6 P w K mg base k "set_to" ["state","minute","second"] bX)(tH:uZ K mg "COUNT" aT)(Fn:uu K "filled" "filled" iP f fd):n5 P w K mg base ui (k+1) f fd ["state"] (uE K dB):=by
 refine aw Fn Cg ?_
 intro _ _ _ _ _ _ hr
 refine ao ?_ ?_
 ·refine aD (aj (ac 0) (ay tH)) ?_
  exact ai 1 Cg.nd
 refine ar ?_
 refine aC ?_
 refine ak vw hr ?_
 refine ab (ac 0) ?_
 exact ab (aj (ac 1) ae) (ab (aj (ac 1) ae) af)
abbrev gv:Stmt:=top 16
theorem mf:i7 ["state"] ["state"] (i6 gv):=uI
theorem mQ(tB:p6 P w K mg base k "put" ["state","place","part"] aH)(tV:uZ K mg "CLOCK" ba)(Fn:uu K "hour_on" "hour_on" gv f fd):n5 P w K mg base ui (k+1) f fd ["state"] (uE K cS):=by
 refine aw Fn mf ?_
 intro _ _ _ _ _ _ hr
 refine ar ?_
 refine aC ?_
 refine ak tB hr ?_
 refine ab (ac 0) ?_
 refine ab (ay tV) ?_
 refine ab ?_ af
 refine al aG ?_ ae
 exact al aA (aj (ac 0) (ay tV)) ae
abbrev fI:Stmt:=top 23
theorem AF:i7 ["state","laps"] ["state"] (i6 fI):=uI
theorem ln(tB:p6 P w K mg base k "put" ["state","place","part"] aH)(xY:mg "len" = none)(vc:uZ K mg "LAPS" bZ)(yl:uZ K mg "MOST_KEPT" fj)(Fn:uu K "lap_kept" "lap_kept" fI f fd):n5 P w K mg base ui (k+1) f fd ["state"] (uE K db):=by
 refine aw Fn AF ?_
 intro _ _ _ _ _ _ hr
 refine ao ?_ ?_
 ·refine aD (aj (ac 0) (ay vc)) ?_
  exact ai 1 AF.nd
 refine ao ?_ ?_
 ·refine cy ?_ ?_ aU
  ·refine gT ?_
   exact bV (aj (ac 1) ae)
  refine ar ?_
  refine aC ?_
  refine ak tB hr ?_
  refine ab (ac 0) ?_
  refine ab (ay vc) ?_
  refine ab ?_ af
  refine av ?_
  refine ab ae ?_
  refine ab en ?_
  refine ab ?_ af
  exact av af
 refine ao ?_ ?_
 ·refine cy ?_ ?_ aU
  ·refine aE rQ ?_ (ay yl)
   exact bW mD xY (ab (aj (ac 1) ae) af)
  refine ar ?_
  exact aC (ac 0)
 refine ar ?_
 refine aC ?_
 refine ak tB hr ?_
 refine ab (ac 0) ?_
 refine ab (ay vc) ?_
 refine ab ?_ af
 refine av ?_
 refine ab (aj (ac 1) ae) ?_
 refine ab en ?_
 refine ab ?_ af
 refine al aA (aj (ac 1) ae) ?_
 exact av (ab (aj (ac 1) ae) af)
abbrev dw:Stmt:=top 22
theorem yh:i7 ["state","laps"] ["state"] (i6 dw):=uI
theorem jk(tB:p6 P w K mg base k "put" ["state","place","part"] aH)(vc:uZ K mg "LAPS" bZ)(Fn:uu K "laps_turned" "laps_turned" dw f fd):n5 P w K mg base ui (k+1) f fd ["state"] (uE K bE):=by
 refine aw Fn yh ?_
 intro _ _ _ _ _ _ hr
 refine ao ?_ ?_
 ·refine aD (aj (ac 0) (ay vc)) ?_
  exact ai 1 yh.nd
 refine ar ?_
 refine aC ?_
 refine ak tB hr ?_
 refine ab (ac 0) ?_
 refine ab (ay vc) ?_
 refine ab ?_ af
 refine av ?_
 refine ab (aj (ac 1) ae) ?_
 refine ab ?_ (ab (aj (ac 1) ae) af)
 exact fT (aj (ac 1) ae)
abbrev eL:Stmt:=top 17
theorem xF:i7 ["state","clock","within"] ["state"] (i6 eL):=uI
theorem j4(tB:p6 P w K mg base k "put" ["state","place","part"] aH)(tV:uZ K mg "CLOCK" ba)(Fn:uu K "minute_on" "minute_on" eL f fd):n5 P w K mg base ui (k+1) f fd ["state"] (uE K ca):=by
 refine aw Fn xF ?_
 intro _ _ _ _ _ _ hr
 refine ao ?_ ?_
 ·refine aD (aj (ac 0) (ay tV)) ?_
  exact ai 1 xF.nd
 refine ao ?_ ?_
 ·refine aD ?_ ?_
  ·refine al aG ?_ ae
   refine al aA ?_ ae
   exact al aG (ac 1) ae
  exact ai 2 xF.nd
 refine ar ?_
 refine aC ?_
 refine ak tB hr ?_
 refine ab (ac 0) ?_
 refine ab (ay tV) ?_
 refine ab ?_ af
 refine al aA ?_ (ac 2)
 refine al bJ (ac 1) ?_
 exact al aG (ac 1) ae
abbrev gE:Stmt:=top 15
theorem ng:i7 ["state"] ["state"] (i6 gE):=uI
theorem mO(Fn:uu K "nothing" "nothing" gE f fd):n5 P w K mg base ui (k+1) f fd ["state"] (uE K cR):=by
 refine aw Fn ng ?_
 intro _ _ _ _ _ _ hr
 refine ar ?_
 exact aC (ac 0)
abbrev gP:Stmt:=top 18
theorem mY:i7 ["state"] ["state"] (i6 gP):=uI
theorem mG(tB:p6 P w K mg base k "put" ["state","place","part"] aH)(tV:uZ K mg "CLOCK" ba)(Fn:uu K "to_zero" "to_zero" gP f fd):n5 P w K mg base ui (k+1) f fd ["state"] (uE K cU):=by
 refine aw Fn mY ?_
 intro _ _ _ _ _ _ hr
 refine ar ?_
 refine aC ?_
 refine ak tB hr ?_
 refine ab (ac 0) ?_
 refine ab (ay tV) ?_
 refine ab ?_ af
 refine al bJ (aj (ac 0) (ay tV)) ?_
 exact al aG (aj (ac 0) (ay tV)) ae
abbrev ee:Stmt:=top 30
theorem vQ:i7 ["book","state","press","rows","row","step"] ["book","state","press"] (i6 ee):=uI
theorem jx(wf:p6 P w K mg base k "alarm_hour_on" ["state"] bi)(vy:p6 P w K mg base k "alarm_minute_on" ["state"] a_)(wL:p6 P w K mg base k "alarm_turned" ["state"] bv)(vA:p6 P w K mg base k "count_minute_on" ["state"] aZ)(vB:p6 P w K mg base k "count_second_on" ["state"] aY)(wM:p6 P w K mg base k "count_turned" ["state"] bN)(BH:p6 P w K mg base k "filled" ["state"] dB)(Af:p6 P w K mg base k "hour_on" ["state"] cS)(zd:p6 P w K mg base k "lap_kept" ["state"] db)(xg:p6 P w K mg base k "laps_turned" ["state"] bE)(ym:p6 P w K mg base k "minute_on" ["state"] ca)(Ag:p6 P w K mg base k "nothing" ["state"] cR)(tB:p6 P w K mg base k "put" ["state","place","part"] aH)(Ah:p6 P w K mg base k "to_zero" ["state"] cU)(uL:uZ K mg "MODE" bU)(s_PRESSES:LJ K mg "PRESSES" cT)(DH:El P w K mg base k "STEPS" yE)(Fn:uu K "press_done" "press_done" ee f fd):n5 P w K mg base ui (k+1) f fd ["book","state","press"] (uE K bA):=by
 refine aw Fn vQ ?_
 intro _ _ _ _ _ _ hr
 refine ao ?_ ?_
 ·refine aD ?_ ?_
  ·exact aj (aj (aj (ac 0) ae) (aj (ac 1) (ay uL))) ae
  exact ai 3 vQ.nd
 refine ao ?_ ?_
 ·refine aD ?_ ?_
  ·refine aj (ac 3) ?_
   exact sD s_PRESSES (ac 2)
  exact ai 4 vQ.nd
 refine rO 5 vQ.nd DH (aj (ac 4) ae) ?_
 intro fa G_ hF
 refine Hq ?_
 refine HX tB hr ?_
 refine Bz ?_ ?_
 ·exact B_ hF hr (ab (ac 1) af)
 exact Ib (ab (ay uL) (ab (aj (ac 4) ae) af))
abbrev iL:Stmt:=top 56
theorem CC:i7 ["book","state","button"] ["book","state","button"] (i6 iL):=uI
theorem oP(uQ:p6 P w K mg base k "is_holding" ["state","button"] bz)(vN:p6 P w K mg base k "is_short" ["state","button"] bK)(uR:p6 P w K mg base k "press_done" ["book","state","press"] bA)(tB:p6 P w K mg base k "put" ["state","place","part"] aH)(tF:uZ K mg "HELD" aX)(vO:uZ K mg "IDLE" cW)(Fn:uu K "let_go" "let_go" iL f fd):n5 P w K mg base ui (k+1) f fd ["book","state","button"] (uE K eU):=by
 refine aw Fn CC ?_
 intro _ _ _ _ _ _ hr
 refine ao ?_ ?_
 ·refine cy ?_ ?_ aU
  ·refine gT ?_
   refine bV ?_
   exact ak uQ hr (ab (ac 1) (ab (ac 2) af))
  refine ar ?_
  exact aC (ac 1)
 refine ao ?_ ?_
 ·refine cy ?_ ?_ aU
  ·refine bV ?_
   exact ak vN hr (ab (ac 1) (ab (ac 2) af))
  refine ar ?_
  refine aD ?_ ?_
  ·exact ak uR hr (ab (ac 0) (ab (ac 1) (ab (ac 2) af)))
  exact ai 1 CC.nd
 refine ar ?_
 refine aC ?_
 refine ak tB hr ?_
 refine ab ?_ (ab (ay vO) (ab ae af))
 exact ak tB hr (ab (ac 1) (ab (ay tF) (ab aM af)))
abbrev iJ:Stmt:=top 55
theorem CD:i7 ["state","button","ticks"] ["state","button"] (i6 iJ):=uI
theorem oA(tB:p6 P w K mg base k "put" ["state","place","part"] aH)(tF:uZ K mg "HELD" aX)(vO:uZ K mg "IDLE" cW)(xh:uZ K mg "RING" dY)(Fn:uu K "pushed" "pushed" iJ f fd):n5 P w K mg base ui (k+1) f fd ["state","button"] (uE K fo):=by
 refine aw Fn CD ?_
 intro _ _ _ _ _ _ hr
 refine ao ?_ ?_
 ·refine cy ?_ ?_ aU
  ·exact aE bB (aj (ac 0) (ay tF)) aM
  refine ar ?_
  exact aC (ac 0)
 refine ao ?_ ?_
 ·refine aD ?_ ?_
  ·refine fW ?_ aM ae
   exact aE el (aj (ac 0) (ay xh)) ae
  exact ai 2 CD.nd
 refine ar ?_
 refine aC ?_
 refine ak tB hr ?_
 refine ab ?_ (ab (ay vO) (ab ae af))
 refine ak tB hr ?_
 refine ab ?_ ?_
 ·exact ak tB hr (ab (ac 0) (ab (ay xh) (ab ae af)))
 refine ab (ay tF) ?_
 refine ab ?_ af
 exact av (ab (ac 1) (ab (ac 2) af))
abbrev fJ:Stmt:=top 38
theorem Aq:i7 ["count","many","left"] ["count","many"] (i6 fJ):=uI
theorem kU(vC:mg "max" = none)(Fn:uu K "count_on" "count_on" fJ f fd):n5 P w K mg base ui (k+1) f fd ["count","many"] (uE K cV):=by
 refine aw Fn Aq ?_
 intro _ _ _ _ _ _ hr
 refine ao ?_ ?_
 ·refine cy ?_ ?_ aU
  ·refine gT ?_
   exact bV (aj (ac 0) ae)
  refine ar ?_
  exact aC (ac 0)
 refine ao ?_ ?_
 ·refine aD ?_ ?_
  ·refine bW (gY rfl) vC ?_
   refine ab ae ?_
   refine ab ?_ af
   exact al bJ (aj (ac 0) ae) (ac 1)
  exact ai 2 Aq.nd
 refine ar ?_
 refine aC ?_
 refine av ?_
 refine ab (aj (ac 0) ae) ?_
 refine ab (aj (ac 0) ae) ?_
 refine ab (ac 2) ?_
 refine ab ?_ af
 exact bH el (ac 2) ae
abbrev gz:Stmt:=top 40
theorem mr:i7 ["held","many"] ["held","many"] (i6 gz):=uI
theorem mX(Fn:uu K "held_on" "held_on" gz f fd):n5 P w K mg base ui (k+1) f fd ["held","many"] (uE K dD):=by
 refine aw Fn mr ?_
 intro _ _ _ _ _ _ hr
 refine ao ?_ ?_
 ·refine cy ?_ ?_ aU
  ·refine dC ?_
   refine lY ?_ ?_
   ·exact aE gq (ac 0) aM
   refine iM ?_
   exact aE gq (aj (ac 0) ae) aM
  refine ar ?_
  exact aC (ac 0)
 refine ar ?_
 refine aC ?_
 refine av ?_
 refine ab (aj (ac 0) ae) ?_
 refine ab ?_ af
 exact al aA (aj (ac 0) ae) (ac 1)
abbrev cN:Stmt:=top 41
theorem gN:i7 ["book","state"] ["book","state"] (i6 cN):=uI
theorem gG(vC:mg "max" = none)(vO:uZ K mg "IDLE" cW)(Fn:uu K "ticks_to_back" "ticks_to_back" cN f fd):n5 P w K mg base ui (k+1) f fd ["book","state"] (uE K bc):=by
 refine aw Fn gN ?_
 intro _ _ _ _ _ _ hr
 refine ar ?_
 refine aC ?_
 refine bW (gY rfl) vC ?_
 refine ab ae ?_
 refine ab ?_ af
 exact al bJ (aj (ac 0) ae) (aj (ac 1) (ay vO))
abbrev gK:Stmt:=top 42
theorem Bs:i7 ["book","state","many","ticks"] ["book","state","many"] (i6 gK):=uI
theorem nc(uk:p6 P w K mg base k "ticks_to_back" ["book","state"] bc)(tF:uZ K mg "HELD" aX)(vO:uZ K mg "IDLE" cW)(Fn:uu K "idle_on" "idle_on" gK f fd):n5 P w K mg base ui (k+1) f fd ["book","state","many"] (uE K dH):=by
 refine aw Fn Bs ?_
 intro _ _ _ _ _ _ hr
 refine ao ?_ ?_
 ·refine cy ?_ ?_ aU
  ·refine dC ?_
   refine lY ?_ ?_
   ·exact aE bB (aj (ac 1) (ay tF)) aM
   refine iM ?_
   exact aE (bw hr) (aj (ac 0) ae) ae
  refine ar ?_
  exact aC (aj (ac 1) (ay vO))
 refine ao ?_ ?_
 ·refine aD ?_ ?_
  ·exact ak uk hr (ab (ac 0) (ab (ac 1) af))
  exact ai 3 Bs.nd
 refine ar ?_
 refine aC ?_
 refine fW ?_ ?_ ?_
 ·exact aE nH (ac 2) (ac 3)
 ·exact al aA (aj (ac 1) (ay vO)) (ac 2)
 refine al aG ?_ (aj (ac 0) ae)
 exact al bJ (ac 2) (ac 3)
abbrev gR:Stmt:=top 37
theorem mC:i7 ["laps","many"] ["laps","many"] (i6 gR):=uI
theorem na(Fn:uu K "laps_on" "laps_on" gR f fd):n5 P w K mg base ui (k+1) f fd ["laps","many"] (uE K dI):=by
 refine aw Fn mC ?_
 intro _ _ _ _ _ _ hr
 refine ar ?_
 refine aC ?_
 refine fW ?_ ?_ (ac 0)
 ·exact bV (aj (ac 0) ae)
 refine av ?_
 refine ab ?_ (ab en (ab (aj (ac 0) ae) af))
 exact al aA (aj (ac 0) ae) (ac 1)
abbrev dJ:Stmt:=top 33
theorem w_:i7 ["state","alarm","second"] ["state"] (i6 dJ):=uI
theorem jC(tZ:uZ K mg "ALARM" bg)(tV:uZ K mg "CLOCK" ba)(xZ:uZ K mg "DAY" eW)(Fn:uu K "alarm_tick" "alarm_tick" dJ f fd):n5 P w K mg base ui (k+1) f fd ["state"] (uE K aV):=by
 refine aw Fn w_ ?_
 intro _ _ _ _ _ _ hr
 refine ao ?_ ?_
 ·refine aD (aj (ac 0) (ay tZ)) ?_
  exact ai 1 w_.nd
 refine ao ?_ ?_
 ·refine cy ?_ ?_ aU
  ·refine gT ?_
   exact bV (aj (ac 1) ae)
  refine ar ?_
  exact aC aM
 refine ao ?_ ?_
 ·refine aD ?_ ?_
  ·refine al aA ?_ ?_
   ·exact al bY ae (aj (ac 1) ae)
   exact al bY ae (aj (ac 1) ae)
  exact ai 2 w_.nd
 refine ar ?_
 refine aC ?_
 refine al aA ?_ ae
 refine al aG ?_ (ay xZ)
 refine al bJ ?_ ae
 exact al bJ (ac 2) (aj (ac 0) (ay tV))
abbrev dX:Stmt:=top 34
theorem yO:i7 ["state","count"] ["state"] (i6 dX):=uI
theorem jt(tH:uZ K mg "COUNT" aT)(Fn:uu K "count_tick" "count_tick" dX f fd):n5 P w K mg base ui (k+1) f fd ["state"] (uE K be):=by
 refine aw Fn yO ?_
 intro _ _ _ _ _ _ hr
 refine ao ?_ ?_
 ·refine aD (aj (ac 0) (ay tH)) ?_
  exact ai 1 yO.nd
 refine ar ?_
 refine aC ?_
 refine fW ?_ (aj (ac 1) ae) aM
 exact bV (aj (ac 1) ae)
abbrev eM:Stmt:=top 35
theorem wn:i7 ["state","many","alarm","count","ticks"] ["state","many"] (i6 eM):=uI
theorem kD(uS:p6 P w K mg base k "alarm_tick" ["state"] aV)(uT:p6 P w K mg base k "count_tick" ["state"] be)(vC:mg "max" = none)(xZ:uZ K mg "DAY" eW)(Fn:uu K "last_ring" "last_ring" eM f fd):n5 P w K mg base ui (k+1) f fd ["state","many"] (uE K cK):=by
 refine aw Fn wn ?_
 intro _ _ _ _ _ _ hr
 refine ao ?_ ?_
 ·refine aD ?_ ?_
  ·exact ak uS hr (ab (ac 0) af)
  exact ai 2 wn.nd
 refine ao ?_ ?_
 ·refine aD ?_ ?_
  ·exact ak uT hr (ab (ac 0) af)
  exact ai 3 wn.nd
 refine gI 4 wn.nd af ?_
 refine dg ?_ ?_
 ·refine nB ?_ ?_ iB
  ·refine dC ?_
   refine eN ?_ ?_
   ·exact aE bB (ac 2) aM
   refine di ?_
   exact aE pI (ac 2) (ac 1)
  refine fr ?_
  refine gB 4 ?_
  refine al bJ (ac 1) ?_
  refine al aG ?_ (ay xZ)
  exact al bJ (ac 1) (ac 2)
 refine dg ?_ ?_
 ·refine nB ?_ ?_ iB
  ·refine dC ?_
   refine eN ?_ ?_
   ·exact aE bB (ac 3) aM
   refine di ?_
   exact aE pI (ac 3) (ac 1)
  refine fr ?_
  exact gB 4 (ac 3)
 refine gH ?_
 refine ar ?_
 refine aC ?_
 exact rh rfl vC (ac 4)
abbrev gW:Stmt:=top 39
theorem A3:i7 ["state","many","last"] ["state","many"] (i6 gW):=uI
theorem mH(yn:p6 P w K mg base k "last_ring" ["state","many"] cK)(vC:mg "max" = none)(yo:uZ K mg "FULL_RING" eT)(xh:uZ K mg "RING" dY)(Fn:uu K "ring_on" "ring_on" gW f fd):n5 P w K mg base ui (k+1) f fd ["state","many"] (uE K dE):=by
 refine aw Fn A3 ?_
 intro _ _ _ _ _ _ hr
 refine ao ?_ ?_
 ·refine aD ?_ ?_
  ·exact ak yn hr (ab (ac 0) (ab (ac 1) af))
  exact ai 2 A3.nd
 refine ao ?_ ?_
 ·refine cy ?_ ?_ aU
  ·exact aE gq (ac 2) aM
  refine ar ?_
  refine aC ?_
  refine bW (gY rfl) vC ?_
  refine ab ae ?_
  refine ab ?_ af
  exact al bJ (aj (ac 0) (ay xh)) (ac 1)
 refine ar ?_
 refine aC ?_
 refine bW (gY rfl) vC ?_
 refine ab ae ?_
 refine ab ?_ af
 refine al bJ (ay yo) ?_
 exact al bJ (ac 1) (ac 2)
abbrev gw:Stmt:=top 43
theorem ni:i7 ["book","state","many"] ["book","state","many"] (i6 gw):=uI
theorem mR(ze:p6 P w K mg base k "count_on" ["count","many"] cV)(Ai:p6 P w K mg base k "held_on" ["held","many"] dD)(Aj:p6 P w K mg base k "idle_on" ["book","state","many"] dH)(Ak:p6 P w K mg base k "laps_on" ["laps","many"] dI)(Al:p6 P w K mg base k "ring_on" ["state","many"] dE)(tZ:uZ K mg "ALARM" bg)(tV:uZ K mg "CLOCK" ba)(tH:uZ K mg "COUNT" aT)(xZ:uZ K mg "DAY" eW)(tF:uZ K mg "HELD" aX)(vc:uZ K mg "LAPS" bZ)(uL:uZ K mg "MODE" bU)(Fn:uu K "counted" "counted" gw f fd):n5 P w K mg base ui (k+1) f fd ["book","state","many"] (uE K cA):=by
 refine aw Fn ni ?_
 intro _ _ _ _ _ _ hr
 refine ar ?_
 refine aC ?_
 refine av ?_
 refine ab (aj (ac 1) (ay uL)) ?_
 refine ab ?_ ?_
 ·refine al aG ?_ (ay xZ)
  exact al aA (aj (ac 1) (ay tV)) (ac 2)
 refine ab (aj (ac 1) (ay tZ)) ?_
 refine ab ?_ ?_
 ·refine ak Ak hr ?_
  exact ab (aj (ac 1) (ay vc)) (ab (ac 2) af)
 refine ab ?_ ?_
 ·refine ak ze hr ?_
  exact ab (aj (ac 1) (ay tH)) (ab (ac 2) af)
 refine ab ?_ ?_
 ·exact ak Al hr (ab (ac 1) (ab (ac 2) af))
 refine ab ?_ ?_
 ·refine ak Ai hr ?_
  exact ab (aj (ac 1) (ay tF)) (ab (ac 2) af)
 refine ab ?_ af
 exact ak Aj hr (ab (ac 0) (ab (ac 1) (ab (ac 2) af)))
abbrev eP:Stmt:=top 44
theorem j6:i7 ["book","state"] ["book","state"] (i6 eP):=uI
theorem kJ(uL:uZ K mg "MODE" bU)(Fn:uu K "goes_back" "goes_back" eP f fd):n5 P w K mg base ui (k+1) f fd ["book","state"] (uE K cG):=by
 refine aw Fn j6 ?_
 intro _ _ _ _ _ _ hr
 refine ar ?_
 refine aC ?_
 refine fO ?_ ?_
 ·exact bH el (aj (ac 0) ae) ae
 refine fO ?_ ?_
 ·exact bH (qH hr) (aj (ac 1) (ay uL)) ae
 refine gJ ?_
 refine fT ?_
 exact aj (aj (aj (ac 0) ae) (aj (ac 1) (ay uL))) ae
abbrev cL:Stmt:=top 45
theorem gO:i7 ["book","state"] ["book","state"] (i6 cL):=uI
theorem gD(vC:mg "max" = none)(tF:uZ K mg "HELD" aX)(Fn:uu K "ticks_to_long" "ticks_to_long" cL f fd):n5 P w K mg base ui (k+1) f fd ["book","state"] (uE K bC):=by
 refine aw Fn gO ?_
 intro _ _ _ _ _ _ hr
 refine ar ?_
 refine aC ?_
 refine bW (gY rfl) vC ?_
 refine ab ae ?_
 refine ab ?_ af
 exact al bJ (aj (ac 0) ae) (aj (aj (ac 1) (ay tF)) ae)
abbrev fk:Stmt:=top 46
theorem zO:i7 ["book","state","held"] ["book","state"] (i6 fk):=uI
theorem kA(yp:p6 P w K mg base k "goes_back" ["book","state"] cG)(uk:p6 P w K mg base k "ticks_to_back" ["book","state"] bc)(wg:p6 P w K mg base k "ticks_to_long" ["book","state"] bC)(tF:uZ K mg "HELD" aX)(Fn:uu K "turn_tick" "turn_tick" fk f fd):n5 P w K mg base ui (k+1) f fd ["book","state"] (uE K bL):=by
 refine aw Fn zO ?_
 intro _ _ _ _ _ _ hr
 refine ao ?_ ?_
 ·refine aD (aj (ac 1) (ay tF)) ?_
  exact ai 2 zO.nd
 refine ao ?_ ?_
 ·refine cy ?_ ?_ aU
  ·exact aE gq (ac 2) aM
  refine ar ?_
  refine aC ?_
  refine fW ?_ ?_ aM
  ·refine bV ?_
   exact ak yp hr (ab (ac 0) (ab (ac 1) af))
  exact ak uk hr (ab (ac 0) (ab (ac 1) af))
 refine ar ?_
 refine aC ?_
 refine fW ?_ aM ?_
 ·exact aE gq (aj (ac 2) ae) aM
 exact ak wg hr (ab (ac 0) (ab (ac 1) af))
abbrev jb:Stmt:=top 47
theorem Cq:i7 ["book","state","held"] ["book","state"] (i6 jb):=uI
theorem oU(uR:p6 P w K mg base k "press_done" ["book","state","press"] bA)(tB:p6 P w K mg base k "put" ["state","place","part"] aH)(tF:uZ K mg "HELD" aX)(uL:uZ K mg "MODE" bU)(Fn:uu K "turned" "turned" jb f fd):n5 P w K mg base ui (k+1) f fd ["book","state"] (uE K eK):=by
 refine aw Fn Cq ?_
 intro _ _ _ _ _ _ hr
 refine ao ?_ ?_
 ·refine aD (aj (ac 1) (ay tF)) ?_
  exact ai 2 Cq.nd
 refine ao ?_ ?_
 ·refine cy ?_ ?_ aU
  ·exact aE gq (ac 2) aM
  refine ar ?_
  refine aC ?_
  exact ak tB hr (ab (ac 1) (ab (ay uL) (ab ae af)))
 refine ar ?_
 refine aC ?_
 refine ak uR hr ?_
 refine ab (ac 0) ?_
 refine ab ?_ ?_
 ·refine ak tB hr ?_
  refine ab (ac 1) ?_
  refine ab (ay tF) ?_
  refine ab ?_ af
  exact av (ab (aj (ac 2) ae) (ab aM af))
 refine ab ?_ af
 exact qE (aj (ac 2) ae)
abbrev du:Stmt:=top 48
theorem iW:i7 ["book","state"] ["book","state"] (i6 du):=uI
theorem jd(wx:p6 P w K mg base k "counted" ["book","state","many"] cA)(vj:p6 P w K mg base k "turn_tick" ["book","state"] bL)(BI:p6 P w K mg base k "turned" ["book","state"] eK)(Fn:uu K "behind_turn" "behind_turn" du f fd):n5 P w K mg base ui (k+1) f fd ["book","state"] (uE K bG):=by
 refine aw Fn iW ?_
 intro _ _ _ _ _ _ hr
 refine ar ?_
 refine aC ?_
 refine ak BI hr ?_
 refine ab (ac 0) ?_
 refine ab ?_ af
 refine ak wx hr ?_
 refine ab (ac 0) ?_
 refine ab (ac 1) ?_
 refine ab ?_ af
 exact ak vj hr (ab (ac 0) (ab (ac 1) af))
abbrev eS:Stmt:=top 49
theorem zF:i7 ["book","state","many","turn"] ["book","state","many"] (i6 eS):=uI
theorem kj(xi:p6 P w K mg base k "behind_turn" ["book","state"] bG)(vj:p6 P w K mg base k "turn_tick" ["book","state"] bL)(Fn:uu K "stretches" "stretches" eS f fd):n5 P w K mg base ui (k+1) f fd ["book","state","many"] (uE K bp):=by
 refine aw Fn zF ?_
 intro _ _ _ _ _ _ hr
 refine ao ?_ ?_
 ·refine aD ?_ ?_
  ·exact ak vj hr (ab (ac 0) (ab (ac 1) af))
  exact ai 3 zF.nd
 refine ao ?_ ?_
 ·refine cy ?_ ?_ aU
  ·refine dC ?_
   refine lY ?_ ?_
   ·exact aE gq (ac 3) aM
   refine iM ?_
   exact aE el (ac 3) (ac 2)
  refine ar ?_
  refine aC ?_
  refine gu ?_
  refine ab ?_ af
  exact av (ab ae (ab (ac 1) (ab (ac 2) af)))
 refine ar ?_
 refine aC ?_
 refine gu ?_
 refine ab ?_ ?_
 ·exact av (ab ae (ab (ac 1) (ab (ac 3) af)))
 refine ab ?_ af
 refine av ?_
 refine ab (ac 3) ?_
 refine ab ?_ ?_
 ·exact ak xi hr (ab (ac 0) (ab (ac 1) af))
 refine ab ?_ af
 exact al bJ (ac 2) (ac 3)
abbrev jn:Stmt:=top 50
theorem Cu:i7 ["book","state","many","last"] ["book","state","many"] (i6 jn):=uI
theorem oD(wx:p6 P w K mg base k "counted" ["book","state","many"] cA)(vk:p6 P w K mg base k "stretches" ["book","state","many"] bp)(Fn:uu K "ticked" "ticked" jn f fd):n5 P w K mg base ui (k+1) f fd ["book","state","many"] (uE K eG):=by
 refine aw Fn Cu ?_
 intro _ _ _ _ _ _ hr
 refine ao ?_ ?_
 ·refine aD ?_ ?_
  ·refine aj ?_ ?_
   ·exact ak vk hr (ab (ac 0) (ab (ac 1) (ab (ac 2) af)))
   exact sP sj ae
  exact ai 3 Cu.nd
 refine ar ?_
 refine aC ?_
 refine ak wx hr ?_
 refine ab (ac 0) ?_
 exact ab (aj (ac 3) ae) (ab (aj (ac 3) ae) af)
abbrev nj:Stmt:=top 54
theorem rJ:i7 ["book","state","event"] ["book","state","event"] (i6 nj):=uI
theorem rH(BJ:p6 P w K mg base k "let_go" ["book","state","button"] eU)(BK:p6 P w K mg base k "pushed" ["state","button"] fo)(BL:p6 P w K mg base k "ticked" ["book","state","many"] eG)(Fn:uu K "gone" "gone" nj f fd):n5 P w K mg base ui (k+1) f fd ["book","state","event"] (uE K dt):=by
 refine aw Fn rJ ?_
 intro _ _ _ _ _ _ hr
 refine ao ?_ ?_
 ·refine cy ?_ ?_ aU
  ·exact aE (bw hr) (aj (ac 2) ae) ag
  refine ar ?_
  refine aC ?_
  exact ak BK hr (ab (ac 1) (ab (aj (ac 2) ae) af))
 refine ao ?_ ?_
 ·refine cy ?_ ?_ aU
  ·exact aE (bw hr) (aj (ac 2) ae) ag
  refine ar ?_
  refine aC ?_
  refine ak BJ hr ?_
  exact ab (ac 0) (ab (ac 1) (ab (aj (ac 2) ae) af))
 refine ar ?_
 refine aC ?_
 refine ak BL hr ?_
 exact ab (ac 0) (ab (ac 1) (ab (aj (ac 2) ae) af))
abbrev j5:Stmt:=top 70
theorem BC:i7 ["book","state","row","event"] ["book","state","row"] (i6 j5):=uI
theorem pG(xN:p6 P w K mg base k "gone" ["book","state","event"] dt)(Fn:uu K "after" "after" j5 f fd):n5 P w K mg base ui (k+1) f fd ["book","state","row"] (uE K cE):=by
 refine aw Fn BC ?_
 intro _ _ _ _ _ _ hr
 refine ao ?_ ?_
 ·refine ll PassesOwn.never rfl ?_ ?_ ?_
  ·exact dO (ac 2)
  ·exact ai 3 BC.nd
  refine ar ?_
  refine aD ?_ ?_
  ·exact ak xN hr (ab (ac 0) (ab (ac 1) (ab (ac 3) af)))
  exact ai 1 BC.nd
 refine ar ?_
 exact aC (ac 1)
abbrev ky:Stmt:=top 12
theorem zt:i7 ["book","alarm","laps","count"] ["book"] (i6 ky):=uI
theorem p_(Fn:uu K "begun" "begun" ky f fd):n5 P w K mg base ui (k+1) f fd ["book"] (uE K cD):=by
 refine aw Fn zt ?_
 intro _ _ _ _ _ _ hr
 refine ao ?_ ?_
 ·refine aD ?_ ?_
  ·exact av (ab ae (ab ae (ab en af)))
  exact ai 1 zt.nd
 refine ao ?_ ?_
 ·refine aD ?_ ?_
  ·refine av ?_
   refine ab ae ?_
   refine ab en ?_
   refine ab ?_ af
   exact av af
  exact ai 2 zt.nd
 refine ao ?_ ?_
 ·refine aD ?_ ?_
  ·refine av ?_
   exact ab ae (ab ae (ab ae (ab en af)))
  exact ai 3 zt.nd
 refine ar ?_
 refine aC ?_
 refine av ?_
 refine ab ae ?_
 refine ab ae ?_
 refine ab (ac 1) ?_
 refine ab (ac 2) ?_
 exact ab (ac 3) (ab ae (ab aM (ab ae af)))
abbrev eR:Stmt:=top 72
theorem zx:i7 ["book","press","button"] ["book","press"] (i6 eR):=uI
theorem j3(Fn:uu K "press_row" "press_row" eR f fd):n5 P w K mg base ui (k+1) f fd ["book","press"] (uE K bP):=by
 refine aw Fn zx ?_
 intro _ _ _ _ _ _ hr
 refine ao ?_ ?_
 ·refine aD ?_ ?_
  ·exact pE (ac 1)
  exact ai 2 zx.nd
 refine ao ?_ ?_
 ·refine cy ?_ ?_ aU
  ·exact aE (bw hr) (ac 1) (ac 2)
  refine ar ?_
  refine aC ?_
  refine av ?_
  refine ab ?_ ?_
  ·exact av (ab ag (ab (ac 2) af))
  refine ab ?_ af
  exact av (ab ag (ab (ac 2) af))
 refine ar ?_
 refine aC ?_
 refine av ?_
 refine ab ?_ ?_
 ·exact av (ab ag (ab (ac 2) af))
 refine ab ?_ ?_
 ·exact av (ab ag (ab (aj (ac 0) ae) af))
 refine ab ?_ af
 exact av (ab ag (ab (ac 2) af))
abbrev gt:Stmt:=top 71
theorem y9:i7 ["book","state","presses","press"] ["book","state","presses"] (i6 gt):=uI
theorem my(xO:p6 P w K mg base k "after" ["book","state","row"] cE)(yq:p6 P w K mg base k "press_row" ["book","press"] bP)(Fn:uu K "pressed" "pressed" gt f fd):n5 P w K mg base ui (k+1) f fd ["book","state","presses"] (uE K bF):=by
 refine aw Fn y9 ?_
 intro _ _ _ _ _ _ hr
 refine ao ?_ ?_
 ·refine ll PassesOwn.never rfl ?_ ?_ ?_
  ·exact dO (ac 2)
  ·exact ai 3 y9.nd
  refine ar ?_
  refine aD ?_ ?_
  ·refine ak xO hr ?_
   refine ab (ac 0) ?_
   refine ab (ac 1) ?_
   refine ab ?_ af
   exact ak yq hr (ab (ac 0) (ab (ac 3) af))
  exact ai 1 y9.nd
 refine ar ?_
 exact aC (ac 1)
abbrev gU:Stmt:=top 60
theorem Be:i7 ["number","texts"] ["number"] (i6 gU):=uI
theorem mZ(zf:mg "reversed" = none)(CT:mg "str" = none)(DI:uZ K mg "BLOCK" dL)(Fn:uu K "figures" "figures" gU f fd):n5 P w K mg base ui (k+1) f fd ["number"] (uE K cx):=by
 refine aw Fn Be ?_
 intro _ _ _ _ _ _ hr
 refine gI 1 Be.nd af ?_
 refine dg ?_ ?_
 ·refine nF ?_
  refine qm PassesOwn.never ?_
  exact aE rQ (ac 0) (ay DI)
 refine dg ?_ ?_
 ·refine gB 1 ?_
  exact bm qb CT (ab (ac 0) af)
 refine gH ?_
 refine ar ?_
 refine aC ?_
 exact qa rfl zf ag (ac 1)
abbrev dr:Stmt:=top 61
theorem iU:i7 ["number"] ["number"] (i6 dr):=uI
theorem jg(wy:p6 P w K mg base k "figures" ["number"] cx)(Fn:uu K "two_figures" "two_figures" dr f fd):n5 P w K mg base ui (k+1) f fd ["number"] (uE K aR):=by
 refine aw Fn iU ?_
 intro _ _ _ _ _ _ hr
 refine ar ?_
 refine aC ?_
 refine sO ?_ (ab ae (ab ag af))
 exact ak wy hr (ab (ac 0) af)
abbrev eC:Stmt:=top 62
theorem kf:i7 ["hour","minute"] ["hour","minute"] (i6 eC):=uI
theorem kr(tR:p6 P w K mg base k "two_figures" ["number"] aR)(Fn:uu K "hour_text" "hour_text" eC f fd):n5 P w K mg base ui (k+1) f fd ["hour","minute"] (uE K bS):=by
 refine aw Fn kf ?_
 intro _ _ _ _ _ _ hr
 refine ar ?_
 refine aC ?_
 refine al aA ?_ ?_
 ·refine al aA ?_ ag
  exact ak tR hr (ab (ac 0) af)
 exact ak tR hr (ab (ac 1) af)
abbrev dN:Stmt:=top 65
theorem yQ:i7 ["state","alarm"] ["state"] (i6 dN):=uI
theorem js(vm:p6 P w K mg base k "hour_text" ["hour","minute"] bS)(tZ:uZ K mg "ALARM" bg)(Fn:uu K "alarm_text" "alarm_text" dN f fd):n5 P w K mg base ui (k+1) f fd ["state"] (uE K ci):=by
 refine aw Fn yQ ?_
 intro _ _ _ _ _ _ hr
 refine ao ?_ ?_
 ·refine aD (aj (ac 0) (ay tZ)) ?_
  exact ai 1 yQ.nd
 refine ar ?_
 refine aC ?_
 refine al aA ?_ ?_
 ·refine ak vm hr ?_
  exact ab (aj (ac 1) ae) (ab (aj (ac 1) ae) af)
 refine fW ?_ ag ag
 exact bV (aj (ac 1) ae)
abbrev dn:Stmt:=top 63
theorem iH:i7 ["seconds"] ["seconds"] (i6 dn):=uI
theorem iY(wy:p6 P w K mg base k "figures" ["number"] cx)(tR:p6 P w K mg base k "two_figures" ["number"] aR)(Fn:uu K "minute_text" "minute_text" dn f fd):n5 P w K mg base ui (k+1) f fd ["seconds"] (uE K bu):=by
 refine aw Fn iH ?_
 intro _ _ _ _ _ _ hr
 refine ar ?_
 refine aC ?_
 refine al aA ?_ ?_
 ·refine al aA ?_ ag
  refine ak wy hr ?_
  refine ab ?_ af
  exact al bM (ac 0) ae
 refine ak tR hr ?_
 refine ab ?_ af
 exact al aG (ac 0) ae
abbrev ek:Stmt:=top 67
theorem jH:i7 ["state"] ["state"] (i6 ek):=uI
theorem jy(uC:p6 P w K mg base k "minute_text" ["seconds"] bu)(tH:uZ K mg "COUNT" aT)(Fn:uu K "count_text" "count_text" ek f fd):n5 P w K mg base ui (k+1) f fd ["state"] (uE K cc):=by
 refine aw Fn jH ?_
 intro _ _ _ _ _ _ hr
 refine ar ?_
 refine aC ?_
 exact ak uC hr (ab (aj (aj (ac 0) (ay tH)) ae) af)
abbrev fc:Stmt:=top 66
theorem xI:i7 ["state","laps","kept"] ["state"] (i6 fc):=uI
theorem ku(uC:p6 P w K mg base k "minute_text" ["seconds"] bu)(xY:mg "len" = none)(CT:mg "str" = none)(vc:uZ K mg "LAPS" bZ)(Fn:uu K "laps_text" "laps_text" fc f fd):n5 P w K mg base ui (k+1) f fd ["state"] (uE K cF):=by
 refine aw Fn xI ?_
 intro _ _ _ _ _ _ hr
 refine ao ?_ ?_
 ·refine aD (aj (ac 0) (ay vc)) ?_
  exact ai 1 xI.nd
 refine ao ?_ ?_
 ·refine aD ?_ ?_
  ·exact bW mD xY (ab (aj (ac 1) ae) af)
  exact ai 2 xI.nd
 refine ar ?_
 refine aC ?_
 refine al aA ?_ ?_
 ·exact ak uC hr (ab (aj (ac 1) ae) af)
 refine fW ?_ ?_ ag
 ·exact aE el (ac 2) ae
 refine al aA ag ?_
 exact bm qb CT (ab (ac 2) af)
abbrev eE:Stmt:=top 64
theorem zK:i7 ["state","clock"] ["state"] (i6 eE):=uI
theorem kg(vm:p6 P w K mg base k "hour_text" ["hour","minute"] bS)(tR:p6 P w K mg base k "two_figures" ["number"] aR)(tV:uZ K mg "CLOCK" ba)(Fn:uu K "time_text" "time_text" eE f fd):n5 P w K mg base ui (k+1) f fd ["state"] (uE K cI):=by
 refine aw Fn zK ?_
 intro _ _ _ _ _ _ hr
 refine ao ?_ ?_
 ·refine aD (aj (ac 0) (ay tV)) ?_
  exact ai 1 zK.nd
 refine ar ?_
 refine aC ?_
 refine al aA ?_ ?_
 ·refine al aA ?_ ag
  refine ak vm hr ?_
  refine ab ?_ ?_
  ·exact al bM (ac 1) ae
  refine ab ?_ af
  refine al aG ?_ ae
  exact al bM (ac 1) ae
 refine ak tR hr ?_
 refine ab ?_ af
 exact al aG (ac 1) ae
abbrev kn:Stmt:=top 59
theorem A8:i7 ["book","state","face","face_text"] ["book","state"] (i6 kn):=uI
theorem pB(xP:p6 P w K mg base k "alarm_text" ["state"] ci)(xQ:p6 P w K mg base k "count_text" ["state"] cc)(yr:p6 P w K mg base k "laps_text" ["state"] cF)(yt:p6 P w K mg base k "time_text" ["state"] cI)(uL:uZ K mg "MODE" bU)(xh:uZ K mg "RING" dY)(xR:El P w K mg base k "FACE_TEXTS" vt)(Fn:uu K "shown" "shown" kn f fd):n5 P w K mg base ui (k+1) f fd ["book","state"] (uE K df):=by
 refine aw Fn A8 ?_
 intro _ _ _ _ _ _ hr
 refine ao ?_ ?_
 ·refine aD ?_ ?_
  ·exact aj (aj (aj (ac 0) ae) (aj (ac 1) (ay uL))) ae
  exact ai 2 A8.nd
 refine rO 3 A8.nd xR (ac 2) ?_
 intro fa G_ hF
 refine Hq ?_
 refine Jv ?_
 refine Bz ?_ ?_
 ·exact LG (ac 2)
 refine Bz ?_ ?_
 ·exact B_ hF hr (ab (ac 1) af)
 refine Ib ?_
 refine ab ?_ af
 exact bH el (aj (ac 1) (ay xh)) ae
abbrev mt:Stmt:=top 73
theorem zM:i7 ["book","row","state","event","sights"] ["book","row"] (i6 mt):=uI
theorem rD(vU:p6 P w K mg base k "begun" ["book"] cD)(xN:p6 P w K mg base k "gone" ["book","state","event"] dt)(yI:p6 P w K mg base k "shown" ["book","state"] df)(uA:mg "tuple" = none)(Fn:uu K "seen" "seen" mt f fd):n5 P w K mg base ui (k+1) f fd ["book","row"] (uE K iZ):=by
 refine aw Fn zM ?_
 intro _ _ _ _ _ _ hr
 refine ao ?_ ?_
 ·refine aD ?_ ?_
  ·exact ak vU hr (ab (ac 0) af)
  exact ai 2 zM.nd
 refine gI 4 zM.nd af ?_
 refine dg ?_ ?_
 ·refine m_ PassesOwn.never rfl ?_ ?_ ?_
  ·exact dO (ac 1)
  ·exact ai 3 zM.nd
  refine ji ?_ ?_
  ·refine nF ?_
   refine aD ?_ ?_
   ·exact ak xN hr (ab (ac 0) (ab (ac 2) (ab (ac 3) af)))
   exact ai 2 zM.nd
  refine fr ?_
  refine gB 4 ?_
  exact ak yI hr (ab (ac 0) (ab (ac 2) af))
 refine gH ?_
 refine ar ?_
 refine aC ?_
 exact bm gp uA (ab (ac 4) af)
abbrev dP:Stmt:=top 36
theorem u4:i7 ["state","many","alarm","count","ticks"] ["state","many"] (i6 dP):=uI
theorem jG(uS:p6 P w K mg base k "alarm_tick" ["state"] aV)(uT:p6 P w K mg base k "count_tick" ["state"] be)(Fl:mg "list" = none)(ut:mg "range" = none)(IO:mg "set" = none)(BM:mg "sorted" = none)(xZ:uZ K mg "DAY" eW)(Fn:uu K "ring_ticks" "ring_ticks" dP f fd):n5 P w K mg base ui (k+1) f fd ["state","many"] (uE K bq):=by
 refine aw Fn u4 ?_
 intro _ _ _ _ _ _ hr
 refine ao ?_ ?_
 ·refine aD ?_ ?_
  ·exact ak uS hr (ab (ac 0) af)
  exact ai 2 u4.nd
 refine ao ?_ ?_
 ·refine aD ?_ ?_
  ·exact ak uT hr (ab (ac 0) af)
  exact ai 3 u4.nd
 refine gI 4 u4.nd af ?_
 refine pX 4 rfl Fl ut u4.nd ?_ (ac 2) ?_ (ay xZ) ?_
 ·exact aE bB (ac 2) aM
 ·exact al aA (ac 1) ae
 refine dg ?_ ?_
 ·refine nB ?_ ?_ iB
  ·refine dC ?_
   refine eN ?_ ?_
   ·exact aE bB (ac 3) aM
   refine di ?_
   exact aE pI (ac 3) (ac 1)
  refine fr ?_
  exact gB 4 (ac 3)
 refine gH ?_
 refine ar ?_
 refine aC ?_
 exact sN rfl BM IO (ac 4)
abbrev eX:Stmt:=top 77
theorem ki:i7 ["state"] ["state"] (i6 eX):=uI
theorem ko(tF:uZ K mg "HELD" aX)(Fn:uu K "turn_sign" "turn_sign" eX f fd):n5 P w K mg base ui (k+1) f fd ["state"] (uE K cH):=by
 refine aw Fn ki ?_
 intro _ _ _ _ _ _ hr
 refine ar ?_
 refine aC ?_
 refine fW ?_ ag ?_
 ·exact aE gq (aj (ac 0) (ay tF)) aM
 exact qE (aj (aj (ac 0) (ay tF)) ae)
abbrev ce:Stmt:=top 76
theorem u7:i7 ["book","state","many","stretch","told"] ["book","state","many"] (i6 ce):=uI
theorem fL(xS:p6 P w K mg base k "ring_ticks" ["state","many"] bq)(vk:p6 P w K mg base k "stretches" ["book","state","many"] bp)(yu:p6 P w K mg base k "turn_sign" ["state"] cH)(Fn:uu K "tick_happenings" "tick_happenings" ce f fd):n5 P w K mg base ui (k+1) f fd ["book","state","many"] (uE K bj):=by
 refine aw Fn u7 ?_
 intro _ _ _ _ _ _ hr
 refine gI 4 u7.nd af ?_
 refine dg ?_ ?_
 ·refine m_ PassesOwn.never rfl ?_ ?_ ?_
  ·refine dO ?_
   exact ak vk hr (ab (ac 0) (ab (ac 1) (ab (ac 2) af)))
  ·exact ai 3 u7.nd
  refine ji ?_ ?_
  ·refine nB ?_ ?_ iB
   ·exact aE el (aj (ac 3) ae) ae
   refine fr ?_
   refine gB 4 ?_
   refine av ?_
   refine ab (aj (ac 3) ae) ?_
   refine ab ?_ af
   exact ak yu hr (ab (ac 1) af)
  refine fr ?_
  refine pj 4 ?_
  refine kT (T:=["tick"]) rfl ?_ ?_ ?_ ?_ (xx (by decide)) (show List.Nodup ((["tick"]:List Str)++(["book" ,"state" ,"many" ,"stretch" ,"told"]:List Str)) from by decide +kernel)
  ·refine dO ?_
   refine ak xS hr ?_
   exact ab (aj (ac 3) ae) (ab (aj (ac 3) ae) af)
  ·intro C s₃ H₃ fp
   exact ai 0 (show List.Nodup (["tick" ,"book" ,"state" ,"many" ,"stretch" ,"told"]:List Str) from by decide +kernel)
  ·intro C s₃ H₃ fp
   exact iF
  intro C s₃ H₃ fp
  refine av ?_
  refine ab ?_ (ab ag af)
  exact al aA (aj (ac 4) ae) (ac 0)
 refine gH ?_
 refine ar ?_
 exact aC (ac 4)
abbrev dR:Stmt:=top 75
theorem jv:i7 ["book","state","event"] ["book","state","event"] (i6 dR):=uI
theorem jz(vN:p6 P w K mg base k "is_short" ["state","button"] bK)(vD:p6 P w K mg base k "tick_happenings" ["book","state","many"] bj)(Fn:uu K "happenings" "happenings" dR f fd):n5 P w K mg base ui (k+1) f fd ["book","state","event"] (uE K bf):=by
 refine aw Fn jv ?_
 intro _ _ _ _ _ _ hr
 refine ao ?_ ?_
 ·refine cy ?_ ?_ aU
  ·exact aE (bw hr) (aj (ac 2) ae) ag
  refine ar ?_
  refine aC ?_
  refine ak vD hr ?_
  exact ab (ac 0) (ab (ac 1) (ab (aj (ac 2) ae) af))
 refine ao ?_ ?_
 ·refine cy ?_ ?_ aU
  ·refine dC ?_
   refine eN ?_ ?_
   ·exact aE (bw hr) (aj (ac 2) ae) ag
   refine di ?_
   refine bV ?_
   exact ak vN hr (ab (ac 1) (ab (aj (ac 2) ae) af))
  refine ar ?_
  refine aC ?_
  refine gu ?_
  refine ab ?_ af
  exact av (ab ae (ab (aj (ac 2) ae) af))
 refine ar ?_
 refine aC ?_
 exact gu af
abbrev km:Stmt:=top 74
theorem wI:i7 ["book","row","state","ticks","event","told"] ["book","row"] (i6 km):=uI
theorem pF(vU:p6 P w K mg base k "begun" ["book"] cD)(xN:p6 P w K mg base k "gone" ["book","state","event"] dt)(xT:p6 P w K mg base k "happenings" ["book","state","event"] bf)(uA:mg "tuple" = none)(Fn:uu K "story" "story" km f fd):n5 P w K mg base ui (k+1) f fd ["book","row"] (uE K fY):=by
 refine aw Fn wI ?_
 intro _ _ _ _ _ _ hr
 refine ao ?_ ?_
 ·refine aD ?_ ?_
  ·exact ak vU hr (ab (ac 0) af)
  exact ai 2 wI.nd
 refine ao ?_ ?_
 ·refine aD ae ?_
  exact ai 3 wI.nd
 refine gI 5 wI.nd af ?_
 refine dg ?_ ?_
 ·refine m_ PassesOwn.never rfl ?_ ?_ ?_
  ·exact dO (ac 1)
  ·exact ai 4 wI.nd
  refine ji ?_ ?_
  ·refine pj 5 ?_
   refine kT (T:=["pair"]) rfl ?_ ?_ ?_ ?_ (xx (by decide)) (show List.Nodup ((["pair"]:List Str)++(["book" ,"row" ,"state" ,"ticks" ,"event" ,"told"]:List Str)) from by decide +kernel)
   ·refine dO ?_
    exact ak xT hr (ab (ac 0) (ab (ac 2) (ab (ac 4) af)))
   ·intro C s₃ H₃ fp
    exact ai 0 (show List.Nodup (["pair" ,"book" ,"row" ,"state" ,"ticks" ,"event" ,"told"]:List Str) from by decide +kernel)
   ·intro C s₃ H₃ fp
    exact iF
   intro C s₃ H₃ fp
   refine av ?_
   refine ab ?_ (ab (aj (ac 0) ae) af)
   exact al aA (ac 4) (aj (ac 0) ae)
  refine qo ?_
  refine ao ?_ ?_
  ·refine aD ?_ ?_
   ·exact ak xN hr (ab (ac 0) (ab (ac 2) (ab (ac 4) af)))
   exact ai 2 wI.nd
  refine ar ?_
  refine cy ?_ ?_ aU
  ·exact aE (bw hr) (aj (ac 4) ae) ag
  refine ar ?_
  refine aD ?_ ?_
  ·exact al aA (ac 3) (aj (ac 4) ae)
  exact ai 3 wI.nd
 refine gH ?_
 refine ar ?_
 refine aC ?_
 exact bm gp uA (ab (ac 5) af)
abbrev gZ:Stmt:=top 91
theorem mh:i7 ["_law_now_here"] ["_law_now_here"] (i6 gZ):=uI
theorem mi(uA:mg "tuple" = none)(Fn:uu K "_law_of" "_law_of" gZ f fd):n5 P w K mg base ui (k+1) f fd ["_law_now_here"] (uE K (cB)):=by
 refine pJ Fn mh (ox) ?_ (oT)
 intro _ _ _ _ _ _ hr
 refine ar ?_
 refine aC ?_
 refine bm gp uA ?_
 refine ab ?_ af
 refine kT (T:=["_law_word"]) rfl ?_ ?_ ?_ ?_ (xx (by decide)) (show List.Nodup ((["_law_word"]:List Str)++(["_law_now_here"]:List Str)) from by decide +kernel)
 ·refine dO ?_
  refine av ?_
  refine ab ag ?_
  refine ab ag ?_
  refine ab ag ?_
  refine ab ag ?_
  exact ab ag (ab ag (ab ag (ab ag af)))
 ·intro C s₃ H₃ fp
  exact ai 0 (show List.Nodup (["_law_word" ,"_law_now_here"]:List Str) from by decide +kernel)
 ·intro C s₃ H₃ fp
  exact iF
 intro C s₃ H₃ fp
 exact aL (p8 hr) (ac 1) (ac 0)
abbrev gL:Stmt:=top 85
theorem mw:i7 ["_law_number","_law_last"] ["_law_number","_law_last"] (i6 gL):=uI
theorem mv(Fn:uu K "_law_up" "_law_up" gL f fd):n5 P w K mg base ui (k+1) f fd ["_law_number","_law_last"] (uE K bD):=by
 refine aw Fn mw ?_
 intro _ _ _ _ _ _ hr
 refine ar ?_
 refine aC ?_
 refine al aG ?_ ?_
 ·exact al aA (ac 0) ae
 exact al aA (ac 1) ae
abbrev eV:Stmt:=top 86
theorem tw:i7 ["_law_now_here","_law_deed_here","_law_clock","_law_hour","_law_minute","_law_is_on","_law_many","_law_runs","_law_kept","_law_second","_law_left","_law_rows"] ["_law_now_here","_law_deed_here"] (i6 eV):=uI
theorem j_(yJ:p6 P w K mg base k "_law_up" ["_law_number","_law_last"] bD)(wN:mg "int" = none)(Fn:uu K "_law_deed" "_law_deed" eV f fd):n5 P w K mg base ui (k+1) f fd ["_law_now_here","_law_deed_here"] (Jh K 0 (b_)):=by
 refine ir (j:=0) Fn tw ?_
 intro _ _ _ _ _ _ hr
 refine az ?_ ?_
 ·refine aO ?_
  refine aD ?_ ?_
  ·exact aL (p8 hr) (ac 0) ag
  exact ai 2 tw.nd
 refine az ?_ ?_
 ·refine cb ?_ ?_ bn
  ·exact aE (bw hr) (ac 1) ag
  refine aI ?_
  refine aQ 0 (p8 hr) ag ?_
  refine al aG ?_ ae
  exact al aA (ac 2) ae
 refine az ?_ ?_
 ·refine cb ?_ ?_ bn
  ·exact aE (bw hr) (ac 1) ag
  refine aI ?_
  refine aQ 0 (p8 hr) ag ?_
  refine al bJ ?_ ?_
  ·exact al aA (ac 2) ae
  refine al bY ae ?_
  refine bm fK wN ?_
  refine ab ?_ af
  refine bH (bw hr) ?_ ae
  refine al aG ?_ ae
  exact al bM (ac 2) ae
 refine az ?_ ?_
 ·refine cb ?_ ?_ bn
  ·exact aE (bw hr) (ac 1) ag
  refine aI ?_
  refine aQ 0 (p8 hr) ag ?_
  refine al bJ (ac 2) ?_
  exact al aG (ac 2) ae
 refine az ?_ ?_
 ·refine aO ?_
  refine aD ?_ ?_
  ·exact aL (p8 hr) (ac 0) ag
  refine eD rfl ?_
  refine aJ ?_ ?_
  ·exact ai 3 tw.nd
  refine aJ ?_ ?_
  ·exact ai 4 tw.nd
  refine aJ ?_ dl
  exact ai 5 tw.nd
 refine qg 0 11 tw.nd (p8 hr) ag ?_ ag ?_ ag ?_ ag (ac 1) ?_ ?_
 ·refine av ?_
  refine ab ?_ (ab (ac 4) (ab (ac 5) af))
  exact ak yJ hr (ab (ac 3) (ab ae af))
 ·refine av ?_
  refine ab (ac 3) ?_
  refine ab ?_ (ab (ac 5) af)
  exact ak yJ hr (ab (ac 4) (ab ae af))
 ·refine av ?_
  refine ab (ac 3) ?_
  refine ab (ac 4) ?_
  refine ab ?_ af
  exact fT (ac 5)
 ·exact aL (p8 hr) (ac 0) ag
 refine az ?_ ?_
 ·refine aO ?_
  refine aD ?_ ?_
  ·exact aL (p8 hr) (ac 0) ag
  refine eD rfl ?_
  refine aJ ?_ ?_
  ·exact ai 6 tw.nd
  refine aJ ?_ ?_
  ·exact ai 7 tw.nd
  refine aJ ?_ dl
  exact ai 8 tw.nd
 refine az ?_ ?_
 ·refine cb ?_ ?_ bn
  ·exact aE (bw hr) (ac 1) ag
  refine aI ?_
  refine aQ 0 (p8 hr) ag ?_
  refine av ?_
  refine ab (ac 6) ?_
  refine ab ?_ (ab (ac 8) af)
  exact fT (ac 7)
 refine az ?_ ?_
 ·refine cb ?_ ?_ bn
  ·exact aE (bw hr) (ac 1) ag
  refine aI ?_
  refine aQ 0 (p8 hr) ag ?_
  refine aj ?_ ?_
  ·refine gu ?_
   refine ab ?_ ?_
   ·refine av ?_
    refine ab ae ?_
    refine ab en ?_
    refine ab ?_ af
    exact av af
   refine ab ?_ af
   refine av ?_
   refine ab (ac 6) ?_
   refine ab (ac 7) ?_
   refine ab ?_ af
   refine iK ?_ ge ?_
   ·refine al aA (ac 8) ?_
    exact av (ab (ac 6) af)
   exact gn ae
  exact bm fK wN (ab (ac 7) af)
 refine az ?_ ?_
 ·refine aO ?_
  refine aD ?_ ?_
  ·exact aL (p8 hr) (ac 0) ag
  refine eD rfl ?_
  refine aJ ?_ ?_
  ·exact ai 4 tw.nd
  refine aJ ?_ ?_
  ·exact ai 9 tw.nd
  refine aJ ?_ ?_
  ·exact ai 10 tw.nd
  refine aJ ?_ dl
  exact ai 7 tw.nd
 refine az ?_ ?_
 ·refine cb ?_ ?_ bn
  ·exact aE (bw hr) (ac 1) ag
  refine aI ?_
  refine aQ 0 (p8 hr) ag ?_
  refine av ?_
  refine ab (ac 4) ?_
  refine ab (ac 9) ?_
  refine ab (ac 10) ?_
  refine ab ?_ af
  refine fO ?_ ?_
  ·exact fT (ac 7)
  refine gJ ?_
  exact bH el (ac 10) ae
 refine aI ?_
 refine cb ?_ ?_ bn
 ·refine dC ?_
  refine eN ?_ ?_
  ·refine aE sQ (ac 1) ?_
   exact av (ab ag (ab ag (ab ag af)))
  refine di ?_
  refine gT ?_
  exact bV (ac 7)
 refine az ?_ ?_
 ·refine aO ?_
  refine aD ?_ ?_
  ·refine al aG ?_ ae
   refine al aA (ac 4) ?_
   refine bm fK wN ?_
   refine ab ?_ af
   exact bH (bw hr) (ac 1) ag
  exact ai 4 tw.nd
 refine az ?_ ?_
 ·refine aO ?_
  refine aD ?_ ?_
  ·refine al aG ?_ ae
   refine al aA (ac 9) ?_
   refine bm fK wN ?_
   refine ab ?_ af
   exact bH (bw hr) (ac 1) ag
  exact ai 9 tw.nd
 refine aI ?_
 refine aQ 0 (p8 hr) ag ?_
 refine av ?_
 refine ab (ac 4) ?_
 refine ab (ac 9) ?_
 refine ab ?_ (ab en af)
 refine al aA ?_ (ac 9)
 exact al bY ae (ac 4)
abbrev dM:Stmt:=top 87
theorem xc:i7 ["_law_book_here","_law_now_here","_law_press_here","_law_deed_here","_law_goal"] ["_law_book_here","_law_now_here","_law_press_here"] (i6 dM):=uI
theorem ju(yw:z_ P w K mg base k "_law_deed" ["_law_now_here","_law_deed_here"] 0 (b_))(Fn:uu K "_law_press" "_law_press" dM f fd):n5 P w K mg base ui (k+1) f fd ["_law_book_here","_law_now_here","_law_press_here"] (Jh K 1 (aW)):=by
 refine ir (j:=1) Fn xc ?_
 intro _ _ _ _ _ _ hr
 refine az ?_ ?_
 ·refine aO ?_
  refine aD ?_ ?_
  ·refine aj ?_ ?_
   ·refine aj ?_ ae
    refine aj (aj (ac 0) ae) ?_
    exact aL (p8 hr) (ac 1) ag
   exact rK ag (ab (ac 2) af)
  refine eD rfl ?_
  refine aJ ?_ ?_
  ·exact ai 3 xc.nd
  refine aJ ?_ dl
  exact ai 4 xc.nd
 refine az ?_ ?_
 ·exact gi 1 yw hr (ab (ac 1) (ab (ac 3) af)) MI
 refine az ?_ ?_
 ·exact aQ 1 (p8 hr) ag (ac 4)
 refine aI ?_
 refine j2 1 (p8 hr) ag ?_
 refine av ?_
 refine ab ?_ (ab (ac 2) af)
 exact aL (p8 hr) (ac 1) ag
abbrev e_:Stmt:=top 88
theorem tq:i7 ["_law_book_here","_law_now_here","_law_many","_law_runs","_law_kept","_law_minute","_law_second","_law_left","_law_begins","_law_hour","_law_is_on","_law_button","_law_ticks"] ["_law_book_here","_law_now_here"] (i6 e_):=uI
theorem kh(wN:mg "int" = none)(vC:mg "max" = none)(uU:z_ P w K mg base k "_law_press" ["_law_book_here","_law_now_here","_law_press_here"] 1 (aW))(Fn:uu K "_law_tick" "_law_tick" e_ f fd):n5 P w K mg base ui (k+1) f fd ["_law_book_here","_law_now_here"] (Jh K 1 (bQ)):=by
 refine ir (j:=1) Fn tq ?_
 intro _ _ _ _ _ _ hr
 refine az ?_ ?_
 ·refine aQ 1 (p8 hr) ag ?_
  refine al aA ?_ ae
  exact aL (p8 hr) (ac 1) ag
 refine az ?_ ?_
 ·refine aQ 1 (p8 hr) ag ?_
  refine al aG ?_ ae
  refine al aA ?_ ae
  exact aL (p8 hr) (ac 1) ag
 refine az ?_ ?_
 ·refine aQ 1 (p8 hr) ag ?_
  refine bW (gY rfl) vC ?_
  refine ab ae ?_
  refine ab ?_ af
  refine al bJ ?_ ae
  exact aL (p8 hr) (ac 1) ag
 refine az ?_ ?_
 ·refine aO ?_
  refine aD ?_ ?_
  ·exact aL (p8 hr) (ac 1) ag
  refine eD rfl ?_
  refine aJ ?_ ?_
  ·exact ai 2 tq.nd
  refine aJ ?_ ?_
  ·exact ai 3 tq.nd
  refine aJ ?_ dl
  exact ai 4 tq.nd
 refine az ?_ ?_
 ·refine aQ 1 (p8 hr) ag ?_
  refine av ?_
  refine ab ?_ (ab (ac 3) (ab (ac 4) af))
  refine al aA (ac 2) ?_
  exact bm fK wN (ab (ac 3) af)
 refine az ?_ ?_
 ·refine aO ?_
  refine aD ?_ ?_
  ·exact aL (p8 hr) (ac 1) ag
  refine eD rfl ?_
  refine aJ ?_ ?_
  ·exact ai 5 tq.nd
  refine aJ ?_ ?_
  ·exact ai 6 tq.nd
  refine aJ ?_ ?_
  ·exact ai 7 tq.nd
  refine aJ ?_ dl
  exact ai 3 tq.nd
 refine az ?_ ?_
 ·refine aO ?_
  refine aD ?_ ?_
  ·refine fO (ac 3) ?_
   refine gJ ?_
   exact bH (bw hr) (ac 7) ae
  exact ai 8 tq.nd
 refine az ?_ ?_
 ·refine cb ?_ ?_ bn
  ·exact bV (ac 3)
  refine aI ?_
  refine aQ 1 (p8 hr) ag ?_
  refine av ?_
  refine ab (ac 5) ?_
  refine ab (ac 6) ?_
  refine ab ?_ ?_
  ·exact al bJ (ac 7) ae
  refine ab ?_ af
  exact bH el (ac 7) ae
 refine az ?_ ?_
 ·refine aO ?_
  refine aD ?_ ?_
  ·exact aL (p8 hr) (ac 1) ag
  refine eD rfl ?_
  refine aJ ?_ ?_
  ·exact ai 9 tq.nd
  refine aJ ?_ ?_
  ·exact ai 5 tq.nd
  refine aJ ?_ dl
  exact ai 10 tq.nd
 refine az ?_ ?_
 ·refine aO ?_
  refine cy ?_ ?_ aU
  ·refine dC ?_
   refine eN ?_ ?_
   ·exact bV (ac 10)
   refine di ?_
   refine aE (bw hr) ?_ ?_
   ·exact aL (p8 hr) (ac 1) ag
   refine al aA ?_ ?_
   ·exact al bY ae (ac 9)
   exact al bY ae (ac 5)
  refine ar ?_
  refine aD en ?_
  exact ai 8 tq.nd
 refine az ?_ ?_
 ·refine cb ?_ ?_ bn
  ·exact bV (ac 8)
  refine az ?_ ?_
  ·exact aQ 1 (p8 hr) ag ae
  refine aI ?_
  refine j2 1 (p8 hr) ag ?_
  refine av ?_
  refine ab ?_ (ab ag af)
  exact aL (p8 hr) (ac 1) ag
 refine aI ?_
 refine cb ?_ ?_ ?_
 ·refine aE bB ?_ aM
  exact aL (p8 hr) (ac 1) ag
 ·refine az ?_ ?_
  ·refine aO ?_
   refine aD ?_ ?_
   ·exact aL (p8 hr) (ac 1) ag
   refine eD rfl ?_
   refine aJ ?_ ?_
   ·exact ai 11 tq.nd
   refine aJ ?_ dl
   exact ai 12 tq.nd
  refine aI ?_
  refine cb ?_ ?_ bn
  ·exact aE bB (ac 12) aM
  refine az ?_ ?_
  ·refine aQ 1 (p8 hr) ag ?_
   refine av ?_
   refine ab (ac 11) ?_
   refine ab ?_ af
   exact al aA (ac 12) ae
  refine aI ?_
  refine cb ?_ ?_ bn
  ·refine aE (bw hr) ?_ (aj (ac 0) ae)
   exact al aA (ac 12) ae
  refine az ?_ ?_
  ·refine aQ 1 (p8 hr) ag ?_
   exact av (ab (ac 11) (ab aM af))
  refine aI ?_
  refine gi 1 uU hr ?_ FK
  refine ab (ac 0) ?_
  refine ab (ac 1) ?_
  refine ab ?_ af
  exact qE (ac 11)
 refine aI ?_
 refine cb ?_ ?_ bn
 ·exact aE el (aj (ac 0) ae) ae
 refine az ?_ ?_
 ·refine aQ 1 (p8 hr) ag ?_
  refine al aA ?_ ae
  exact aL (p8 hr) (ac 1) ag
 refine aI ?_
 refine cb ?_ ?_ bn
 ·refine aE (bw hr) ?_ (aj (ac 0) ae)
  exact aL (p8 hr) (ac 1) ag
 refine az ?_ ?_
 ·exact aQ 1 (p8 hr) ag ae
 refine aI ?_
 refine cb ?_ ?_ bn
 ·refine dC ?_
  refine eN ?_ ?_
  ·refine aE (qH hr) ?_ ae
   exact aL (p8 hr) (ac 1) ag
  refine di ?_
  refine gT ?_
  refine bV ?_
  refine aj ?_ ae
  refine aj (aj (ac 0) ae) ?_
  exact aL (p8 hr) (ac 1) ag
 refine az ?_ ?_
 ·exact aQ 1 (p8 hr) ag ae
 refine aI ?_
 refine j2 1 (p8 hr) ag ?_
 refine av ?_
 refine ab ?_ (ab ag af)
 exact aL (p8 hr) (ac 1) ag
abbrev dm:Stmt:=top 89
theorem ya:i7 ["_law_book_here","_law_now_here","_law_event_here","_law_turn"] ["_law_book_here","_law_now_here","_law_event_here"] (i6 dm):=uI
theorem jp(wN:mg "int" = none)(ut:mg "range" = none)(uU:z_ P w K mg base k "_law_press" ["_law_book_here","_law_now_here","_law_press_here"] 1 (aW))(yy:z_ P w K mg base k "_law_tick" ["_law_book_here","_law_now_here"] 1 (bQ))(Fn:uu K "_law_happen" "_law_happen" dm f fd):n5 P w K mg base ui (k+1) f fd ["_law_book_here","_law_now_here","_law_event_here"] (Jh K 1 (bh)):=by
 refine ir (j:=1) Fn ya ?_
 intro _ _ _ _ _ _ hr
 refine aI ?_
 refine cb ?_ ?_ ?_
 ·exact aE (bw hr) (aj (ac 2) ae) ag
 ·refine aI ?_
  refine pO PassesOwn.never rfl ?_ ?_ ?_
  ·exact qk ut (aj (ac 2) ae)
  ·exact ai 3 ya.nd
  refine aI ?_
  exact gi 1 yy hr (ab (ac 0) (ab (ac 1) af)) FK
 refine aI ?_
 refine cb ?_ ?_ ?_
 ·exact aE (bw hr) (aj (ac 2) ae) ag
 ·refine aI ?_
  refine cb ?_ ?_ bn
  ·refine aE gq ?_ aM
   exact aL (p8 hr) (ac 1) ag
  refine az ?_ ?_
  ·exact aQ 1 (p8 hr) ag ae
  refine az ?_ ?_
  ·refine aQ 1 (p8 hr) ag ?_
   refine av ?_
   refine ab (aj (ac 2) ae) ?_
   refine ab ?_ af
   refine aj ?_ ?_
   ·exact gu (ab ae (ab aM af))
   refine bm fK wN ?_
   refine ab ?_ af
   refine bH el ?_ ae
   exact aL (p8 hr) (ac 1) ag
  refine aI ?_
  exact aQ 1 (p8 hr) ag ae
 refine aI ?_
 refine cb ?_ ?_ bn
 ·refine dC ?_
  refine eN ?_ ?_
  ·refine aE bB ?_ aM
   exact aL (p8 hr) (ac 1) ag
  refine di ?_
  refine aE (bw hr) ?_ (aj (ac 2) ae)
  refine aj ?_ ae
  exact aL (p8 hr) (ac 1) ag
 refine az ?_ ?_
 ·refine cb ?_ ?_ bn
  ·refine aE bB ?_ aM
   refine aj ?_ ae
   exact aL (p8 hr) (ac 1) ag
  refine aI ?_
  refine gi 1 uU hr ?_ FK
  exact ab (ac 0) (ab (ac 1) (ab (aj (ac 2) ae) af))
 refine az ?_ ?_
 ·exact aQ 1 (p8 hr) ag aM
 refine aI ?_
 exact aQ 1 (p8 hr) ag ae
abbrev fN:Stmt:=top 90
theorem yg:i7 ["_law_state","_law_words","_law_now_here"] ["_law_state"] (i6 fN):=uI
theorem lj(Fm:mg "dict" = none)(IP:mg "zip" = none)(Fn:uu K "_law_now" "_law_now" fN f fd):n5 P w K mg base ui (k+1) f fd ["_law_state"] (Oz K cw):=by
 refine rG Fn yg ?_
 intro _ _ _ _ _ _ hr
 refine rm ?_ (sB 2 yg.nd (p8 hr) rfl Fm IP (ac 1) (ac 0) ag ae ag)
 refine aD ?_ ?_
 ·refine av ?_
  refine ab ag ?_
  refine ab ag ?_
  refine ab ag ?_
  refine ab ag ?_
  exact ab ag (ab ag (ab ag (ab ag af)))
 exact ai 1 yg.nd
abbrev gm:Stmt:=top 92
theorem uX:i7 ["_law_script","_law_book_here","_law_row_here","_law_now_here","_law_shows","_law_event_here","_law_number","_law_presses","_law_state","_law_events","_law_press_here","_law_button","_law_at"] ["_law_script"] (i6 gm):=uI
theorem si(yz:p6 P w K mg base k "_law_book" ["_law_number"] cJ)(tY:p6 P w K mg base k "_law_drawn" ["_law_number","_law_k"] aF)(uV:p6 P w K mg base k "_law_mixed" ["_law_script","_law_k"] aS)(zg:p6 P w K mg base k "_law_row" ["_law_number","_law_most"] de)(xO:p6 P w K mg base k "after" ["book","state","row"] cE)(vU:p6 P w K mg base k "begun" ["book"] cD)(vP:p6 P w K mg base k "pressed" ["book","state","presses"] bF)(Fo:p6 P w K mg base k "seen" ["book","row"] iZ)(yI:p6 P w K mg base k "shown" ["book","state"] df)(DJ:p6 P w K mg base k "story" ["book","row"] fY)(wN:mg "int" = none)(xY:mg "len" = none)(ut:mg "range" = none)(uA:mg "tuple" = none)(Am:p6 P w K mg base k "_law_of" ["_law_now_here"] (cB))(zh:GG P w K mg base k "_law_now" ["_law_state"] cw)(xj:z_ P w K mg base k "_law_happen" ["_law_book_here","_law_now_here","_law_event_here"] 1 (bh))(Fn:uu K "law" "law" gm f fd):n5 P w K mg base ui (k+1) f fd ["_law_script"] (uE K lC):=by
 refine aw Fn uX ?_
 intro _ _ _ _ _ _ hr
 refine ao ?_ ?_
 ·refine aD ?_ ?_
  ·refine ak yz hr ?_
   refine ab ?_ af
   exact ak uV hr (ab (ac 0) (ab ae af))
  exact ai 1 uX.nd
 refine ao ?_ ?_
 ·refine aD ?_ ?_
  ·refine ak zg hr ?_
   refine ab ?_ (ab ae af)
   exact ak uV hr (ab (ac 0) (ab ae af))
  exact ai 2 uX.nd
 refine ao ?_ ?_
 ·refine cy ?_ ?_ aU
  ·refine aE (bw hr) ?_ ae
   refine al aG ?_ ae
   exact ak uV hr (ab (ac 0) (ab ae af))
  refine ar ?_
  refine aD ?_ ?_
  ·refine al aA ?_ (ac 2)
   refine av ?_
   refine ab ?_ ?_
   ·exact av (ab ag (ab ag af))
   refine ab ?_ ?_
   ·exact av (ab ag (ab ag af))
   refine ab ?_ ?_
   ·exact av (ab ag (ab ag af))
   refine ab ?_ af
   exact av (ab ag (ab (aj (ac 1) ae) af))
  exact ai 2 uX.nd
 refine r_ 3 uX.nd zh hr ?_ ?_ rE
 ·refine ab ?_ af
  exact ak vU hr (ab (ac 1) af)
 refine az ?_ ?_
 ·refine aO ?_
  refine aD ?_ ?_
  ·exact av af
  exact ai 4 uX.nd
 refine az ?_ ?_
 ·refine pO PassesOwn.never rfl ?_ ?_ ?_
  ·exact qT (ac 2)
  ·exact ai 5 uX.nd
  refine az ?_ ?_
  ·exact gi 3 xj hr (ab (ac 1) (ab (ac 3) (ab (ac 5) af))) FK
  refine aI ?_
  refine aO ?_
  refine aD ?_ ?_
  ·refine al aA (ac 4) ?_
   refine av ?_
   refine ab ?_ af
   refine ak yI hr ?_
   refine ab (ac 1) ?_
   refine ab ?_ af
   exact ak Am hr (ab (ac 3) af)
  exact ai 4 uX.nd
 refine az ?_ ?_
 ·refine aO ?_
  refine cy ?_ ?_ aU
  ·refine dC ?_
   refine lY ?_ ?_
   ·refine aE (kG hr) ?_ (ac 4)
    exact ak Fo hr (ab (ac 1) (ab (ac 2) af))
   refine iM ?_
   refine aE (kG hr) ?_ ?_
   ·exact ak DJ hr (ab (ac 1) (ab (ac 2) af))
   refine qp 3 ?_
   refine bm qV uA ?_
   refine ab ?_ af
   exact aL (p8 hr) (ac 3) ag
  refine ar ?_
  exact aC en
 refine az ?_ ?_
 ·refine aO ?_
  refine aD ?_ ?_
  ·exact ak uV hr (ab (ac 0) (ab ae af))
  exact ai 6 uX.nd
 refine az ?_ ?_
 ·refine aO ?_
  refine aD ?_ ?_
  ·refine rn ag ?_
   refine ab ?_ af
   refine kT (T:=["_law_k"]) rfl ?_ ?_ ?_ ?_ (xx (by decide)) (show List.Nodup ((["_law_k"]:List Str)++(["_law_script" ,"_law_book_here" ,"_law_row_here" ,"_law_now_here" ,"_law_shows" ,"_law_event_here" ,"_law_number" ,"_law_presses" ,"_law_state" ,"_law_events" ,"_law_press_here" ,"_law_button" ,"_law_at"]:List Str)) from by decide +kernel)
   ·refine iA ut ?_
    exact al aG (ac 6) ae
   ·intro C s₃ H₃ fp
    exact ai 0 (show List.Nodup (["_law_k" ,"_law_script" ,"_law_book_here" ,"_law_row_here" ,"_law_now_here" ,"_law_shows" ,"_law_event_here" ,"_law_number" ,"_law_presses" ,"_law_state" ,"_law_events" ,"_law_press_here" ,"_law_button" ,"_law_at"]:List Str) from by decide +kernel)
   ·intro C s₃ H₃ fp
    exact iF
   intro C s₃ H₃ fp
   refine aj ag ?_
   refine al aG ?_ ae
   refine al bM ?_ ae
   exact ak tY hr (ab (ac 7) (ab (ac 0) af))
  exact ai 7 uX.nd
 refine az ?_ ?_
 ·refine aO ?_
  refine aD ?_ ?_
  ·refine ak xO hr ?_
   refine ab (ac 1) ?_
   refine ab ?_ (ab (ac 2) af)
   exact ak vU hr (ab (ac 1) af)
  exact ai 8 uX.nd
 refine az ?_ ?_
 ·refine aO ?_
  refine aD ?_ ?_
  ·exact av af
  exact ai 9 uX.nd
 refine az ?_ ?_
 ·refine aO ?_
  refine ll PassesOwn.never rfl ?_ ?_ ?_
  ·exact dO (ac 7)
  ·exact ai 10 uX.nd
  refine ao ?_ ?_
  ·refine aD ?_ ?_
   ·exact pE (ac 10)
   exact ai 11 uX.nd
  refine ar ?_
  refine aD ?_ ?_
  ·refine al aA ?_ ?_
   ·refine al aA ?_ ?_
    ·refine al aA (ac 9) ?_
     refine av ?_
     refine ab ?_ af
     exact av (ab ag (ab (ac 11) af))
    refine al q_ ?_ ?_
    ·refine av ?_
     refine ab ?_ af
     exact av (ab ag (ab (aj (ac 1) ae) af))
    refine bm fK wN ?_
    refine ab ?_ af
    exact bH (qH hr) (ac 10) (ac 11)
   refine av ?_
   refine ab ?_ af
   exact av (ab ag (ab (ac 11) af))
  exact ai 9 uX.nd
 refine az ?_ ?_
 ·refine aO ?_
  refine cy ?_ ?_ aU
  ·refine dC ?_
   refine lY ?_ ?_
   ·refine aE (kG hr) ?_ ?_
    ·exact ak vP hr (ab (ac 1) (ab (ac 8) (ab (ac 7) af)))
    exact ak xO hr (ab (ac 1) (ab (ac 8) (ab (ac 9) af)))
   refine iM ?_
   refine aE (kG hr) ?_ (ac 8)
   exact ak vP hr (ab (ac 1) (ab (ac 8) (ab ag af)))
  refine ar ?_
  exact aC en
 refine az ?_ ?_
 ·refine aO ?_
  refine aD ?_ ?_
  ·refine al aG ?_ ?_
   ·exact al bM (ac 6) ae
   refine al aA ?_ ae
   exact bW rA xY (ab (ac 7) af)
  exact ai 12 uX.nd
 refine aI ?_
 refine aO ?_
 refine aC ?_
 refine bH (sn hr) ?_ ?_
 ·refine ak vP hr ?_
  refine ab (ac 1) ?_
  refine ab ?_ ?_
  ·refine ak vP hr ?_
   refine ab (ac 1) ?_
   refine ab (ac 8) ?_
   refine ab ?_ af
   refine jM (ac 7) ge ?_
   exact gn (ac 12)
  refine ab ?_ af
  refine jM (ac 7) ?_ ge
  exact gn (ac 12)
 exact ak vP hr (ab (ac 1) (ab (ac 8) (ab (ac 7) af)))
end HW
namespace HW
open PySem PySem.Spec PyProof.Rows L2
theorem CO(K:W.Frag)(H:Hp):∀ns:List Int,l0 K H (ns.map .int) (ns.map V.int)
 | []=>rfl
 | n::ns=>⟨.int n,_,rfl,rfl,CO K H ns⟩
theorem all_mk{l:W.OpenLaw}{w:World}{K:W.Frag}{h:Heap}{mg:Str->Option Value}{fa:Addr}
  {f70:Addr} {od70 an70:Option Addr} {sl70:Array (Option Value)} {oc70 kV70 dc70 pm70 cd70 ct70:Value}
  {IQ:Tok}
  {IR:Tok}
  {IS:Tok}
  {IT:Tok}
  {L_:Tok}
  {DK:Tok}
  {Kh:Tok}
  {Ki:Tok}
  {Kj:Tok}
  {Kk:Tok}
  {DL:Tok}
  {Kl:Tok}
  {zi:Addr} {Fp:Nat} {Fq:Array (Option Value)} {Fs Ft Fu Fv Fw Fx:Tok}
  {xk:Addr} {B8:Nat} {BN BO BP BQ:Tok}
  {BR:Addr} {IU:Nat} {G8 G9 Ha Hb Hc Hd He Hf Hg Hh Fy Fz FA:Tok}
  {f0 f1 f2 f3 f4 f5 f6 f7 f8 f9 f10 f11 f12 f13 f14 f15 f16 f17 f18 f19 f20 f21 f22 f23 f24 f25 f26 f27 f28 f29 f30 f31 f32 f33 f34 f35 f36 f37 f38 f39 f40 f41 f42 f43 f44 f45 f46 f47 f48 f49 f50 f51 f52 f53 f54 f55 f56 f57 f58 f59 f60 f61 f62 f63 f64 f65 f66 f67 f68 f69:Addr}
  (X:K.In h) (G:h.Ns mainGlobals mg) (hfa:mg "law" = some (.ref fa))
  (a0:uG K "_law_drawn" dQ f0)
  (a1:uG K "_law_book" fi f1)
  (a2:uG K "_law_cell_at" cZ f2)
  (a3:uG K "_law_mixed" dZ f3)
  (a4:uG K "_law_event" dW f4)
  (a5:uG K "_law_row" fH f5)
  (a6:uG K "is_holding" dU f6)
  (a7:uG K "is_short" fP f7)
  (a8:uG K "put" qh f8)
  (a9:uG K "alarm_hour_on" cM f9)
  (a10:uG K "alarm_minute_on" cq f10)
  (a11:uG K "alarm_turned" cX f11)
  (a12:uG K "set_to" je f12)
  (a13:uG K "count_minute_on" cj f13)
  (a14:uG K "count_second_on" cu f14)
  (a15:uG K "count_turned" c_ f15)
  (a16:uG K "filled" iP f16)
  (a17:uG K "hour_on" gv f17)
  (a18:uG K "lap_kept" fI f18)
  (a19:uG K "laps_turned" dw f19)
  (a20:uG K "minute_on" eL f20)
  (a21:uG K "nothing" gE f21)
  (a22:uG K "to_zero" gP f22)
  (a23:uG K "press_done" ee f23)
  (a24:uG K "let_go" iL f24)
  (a25:uG K "pushed" iJ f25)
  (a26:uG K "count_on" fJ f26)
  (a27:uG K "held_on" gz f27)
  (a28:uG K "ticks_to_back" cN f28)
  (a29:uG K "idle_on" gK f29)
  (a30:uG K "laps_on" gR f30)
  (a31:uG K "alarm_tick" dJ f31)
  (a32:uG K "count_tick" dX f32)
  (a33:uG K "last_ring" eM f33)
  (a34:uG K "ring_on" gW f34)
  (a35:uG K "counted" gw f35)
  (a36:uG K "goes_back" eP f36)
  (a37:uG K "ticks_to_long" cL f37)
  (a38:uG K "turn_tick" fk f38)
  (a39:uG K "turned" jb f39)
  (a40:uG K "behind_turn" du f40)
  (a41:uG K "stretches" eS f41)
  (a42:uG K "ticked" jn f42)
  (a43:uG K "gone" nj f43)
  (a44:uG K "after" j5 f44)
  (a45:uG K "begun" ky f45)
  (a46:uG K "press_row" eR f46)
  (a47:uG K "pressed" gt f47)
  (a48:uG K "figures" gU f48)
  (a49:uG K "two_figures" dr f49)
  (a50:uG K "hour_text" eC f50)
  (a51:uG K "alarm_text" dN f51)
  (a52:uG K "minute_text" dn f52)
  (a53:uG K "count_text" ek f53)
  (a54:uG K "laps_text" fc f54)
  (a55:uG K "time_text" eE f55)
  (a56:uG K "shown" kn f56)
  (a57:uG K "seen" mt f57)
  (a58:uG K "ring_ticks" dP f58)
  (a59:uG K "turn_sign" eX f59)
  (a60:uG K "tick_happenings" ce f60)
  (a61:uG K "happenings" dR f61)
  (a62:uG K "story" km f62)
  (a63:uG K "_law_of" gZ f63)
  (a64:uG K "_law_up" gL f64)
  (a65:uG K "_law_deed" eV f65)
  (a66:uG K "_law_press" dM f66)
  (a67:uG K "_law_tick" e_ f67)
  (a68:uG K "_law_happen" dm f68)
  (a69:uG K "_law_now" fN f69)
  (a70:W.nsIn K mainGlobals "law" = some (some (.ref f70))) (l70:K.lookup f70=some ⟨oc70,od70,.func (W.fnOf "law" "law" (wV gm) (uO gm) (i6 gm) .none kV70 dc70 pm70 an70 cd70 ct70),sl70⟩) (c70:W.codeIn K cd70 "law" = true) (k70:W.keepIn K (.ref f70)=true)
  (Ma:W.nsIn K mainGlobals "dict" = some none)
  (NT:W.nsIn K mainGlobals "int" = some none)
  (NU:W.nsIn K mainGlobals "len" = some none)
  (Mb:W.nsIn K mainGlobals "list" = some none)
  (NV:W.nsIn K mainGlobals "max" = some none)
  (Km:W.nsIn K mainGlobals "range" = some none)
  (FC:W.nsIn K mainGlobals "reversed" = some none)
  (NW:W.nsIn K mainGlobals "set" = some none)
  (IV:W.nsIn K mainGlobals "sorted" = some none)
  (NX:W.nsIn K mainGlobals "str" = some none)
  (Kn:W.nsIn K mainGlobals "tuple" = some none)
  (NY:W.nsIn K mainGlobals "zip" = some none)
  (q_ALARM:W.nsIn K mainGlobals "ALARM" = some (some (.int 2 IQ)))
  (q_BLOCK:W.nsIn K mainGlobals "BLOCK" = some (some (.int 1000000000000000000 IR)))
  (q_CLOCK:W.nsIn K mainGlobals "CLOCK" = some (some (.int 1 IS)))
  (q_COUNT:W.nsIn K mainGlobals "COUNT" = some (some (.int 4 IT)))
  (q_DAY:W.nsIn K mainGlobals "DAY" = some (some (.int 86400 L_)))
  (q_FULL_RING:W.nsIn K mainGlobals "FULL_RING" = some (some (.int 10 DK)))
  (q_HELD:W.nsIn K mainGlobals "HELD" = some (some (.int 6 Kh)))
  (q_IDLE:W.nsIn K mainGlobals "IDLE" = some (some (.int 7 Ki)))
  (q_LAPS:W.nsIn K mainGlobals "LAPS" = some (some (.int 3 Kj)))
  (q_MODE:W.nsIn K mainGlobals "MODE" = some (some (.int 0 Kk)))
  (q_MOST_KEPT:W.nsIn K mainGlobals "MOST_KEPT" = some (some (.int 4 DL)))
  (q_RING:W.nsIn K mainGlobals "RING" = some (some (.int 5 Kl)))
  (q_PRESSES:W.nsIn K mainGlobals "PRESSES" = some (some (.ref zi)))
  (rs_PRESSES:K.lookup zi=some ⟨.type "tuple",none,.seq #[.str (oS "a") Fs,.str (oS "b") Ft,.str (oS "c") Fu,.str (oS "A") Fv,.str (oS "B") Fw,.str (oS "C") Fx] Fp,Fq⟩)
  (q_FACE_TEXTS:W.nsIn K mainGlobals "FACE_TEXTS" = some (some (.ref xk)))
  (r_FACE_TEXTS:K.lookup xk=some ⟨.type "dict",none,.dict (entries w [(oS "time",BN,.ref f55),(oS "alarm",BO,.ref f51),(oS "laps",BP,.ref f54),(oS "count",BQ,.ref f53)]).toArray B8,#[]⟩)
  (q_STEPS:W.nsIn K mainGlobals "STEPS" = some (some (.ref BR)))
  (r_STEPS:K.lookup BR=some ⟨.type "dict",none,.dict (entries w [(oS "none",G8,.ref f21),(oS "hour",G9,.ref f17),(oS "minute",Ha,.ref f20),(oS "zero",Hb,.ref f22),(oS "ahour",Hc,.ref f9),(oS "aminute",Hd,.ref f10),(oS "alarm",He,.ref f11),(oS "run",Hf,.ref f19),(oS "lap",Hg,.ref f18),(oS "cminute",Hh,.ref f13),(oS "csecond",Fy,.ref f14),(oS "full",Fz,.ref f16),(oS "count",FA,.ref f15)]).toArray IU,#[]⟩) :
  ∃fd:FuncData,(∀(s:Shared) (v:Value),BindsTo s fd ⟨[v],[]⟩ [("_law_script",v)])/\∀base:Heap,K.In base->base.Ns mainGlobals mg->n5 l.prog w K mg base ui 12 fa fd ["_law_script"] (uE K lC):=by
 have e:=hfa.symm.trans (W.mg_of X G a70)
 cases e
 obtain⟨d0,F0,a0⟩:=uM a0
 have b0:=F0.binds (ps:=["_law_number","_law_k"]) fun | _,_,_,_,_,_,[_,_],_=>rfl
 have g0:=W.mg_of X G a0
 obtain⟨d1,F1,a1⟩:=uM a1
 have b1:=F1.binds (ps:=["_law_number"]) fun | _,_,_,_,_,_,[_],_=>rfl
 have g1:=W.mg_of X G a1
 obtain⟨d2,F2,a2⟩:=uM a2
 have b2:=F2.binds (ps:=["_law_script","_law_k"]) fun | _,_,_,_,_,_,[_,_],_=>rfl
 have g2:=W.mg_of X G a2
 obtain⟨d3,F3,a3⟩:=uM a3
 have b3:=F3.binds (ps:=["_law_script","_law_k"]) fun | _,_,_,_,_,_,[_,_],_=>rfl
 have g3:=W.mg_of X G a3
 obtain⟨d4,F4,a4⟩:=uM a4
 have b4:=F4.binds (ps:=["_law_number"]) fun | _,_,_,_,_,_,[_],_=>rfl
 have g4:=W.mg_of X G a4
 obtain⟨d5,F5,a5⟩:=uM a5
 have b5:=F5.binds (ps:=["_law_number","_law_most"]) fun | _,_,_,_,_,_,[_,_],_=>rfl
 have g5:=W.mg_of X G a5
 obtain⟨d6,F6,a6⟩:=uM a6
 have b6:=F6.binds (ps:=["state","button"]) fun | _,_,_,_,_,_,[_,_],_=>rfl
 have g6:=W.mg_of X G a6
 obtain⟨d7,F7,a7⟩:=uM a7
 have b7:=F7.binds (ps:=["state","button"]) fun | _,_,_,_,_,_,[_,_],_=>rfl
 have g7:=W.mg_of X G a7
 obtain⟨d8,F8,a8⟩:=uM a8
 have b8:=F8.binds (ps:=["state","place","part"]) fun | _,_,_,_,_,_,[_,_,_],_=>rfl
 have g8:=W.mg_of X G a8
 obtain⟨d9,F9,a9⟩:=uM a9
 have b9:=F9.binds (ps:=["state"]) fun | _,_,_,_,_,_,[_],_=>rfl
 have g9:=W.mg_of X G a9
 obtain⟨d10,F10,a10⟩:=uM a10
 have b10:=F10.binds (ps:=["state"]) fun | _,_,_,_,_,_,[_],_=>rfl
 have g10:=W.mg_of X G a10
 obtain⟨d11,F11,a11⟩:=uM a11
 have b11:=F11.binds (ps:=["state"]) fun | _,_,_,_,_,_,[_],_=>rfl
 have g11:=W.mg_of X G a11
 obtain⟨d12,F12,a12⟩:=uM a12
 have b12:=F12.binds (ps:=["state","minute","second"]) fun | _,_,_,_,_,_,[_,_,_],_=>rfl
 have g12:=W.mg_of X G a12
 obtain⟨d13,F13,a13⟩:=uM a13
 have b13:=F13.binds (ps:=["state"]) fun | _,_,_,_,_,_,[_],_=>rfl
 have g13:=W.mg_of X G a13
 obtain⟨d14,F14,a14⟩:=uM a14
 have b14:=F14.binds (ps:=["state"]) fun | _,_,_,_,_,_,[_],_=>rfl
 have g14:=W.mg_of X G a14
 obtain⟨d15,F15,a15⟩:=uM a15
 have b15:=F15.binds (ps:=["state"]) fun | _,_,_,_,_,_,[_],_=>rfl
 have g15:=W.mg_of X G a15
 obtain⟨d16,F16,a16⟩:=uM a16
 have b16:=F16.binds (ps:=["state"]) fun | _,_,_,_,_,_,[_],_=>rfl
 have g16:=W.mg_of X G a16
 obtain⟨d17,F17,a17⟩:=uM a17
 have b17:=F17.binds (ps:=["state"]) fun | _,_,_,_,_,_,[_],_=>rfl
 have g17:=W.mg_of X G a17
 obtain⟨d18,F18,a18⟩:=uM a18
 have b18:=F18.binds (ps:=["state"]) fun | _,_,_,_,_,_,[_],_=>rfl
 have g18:=W.mg_of X G a18
 obtain⟨d19,F19,a19⟩:=uM a19
 have b19:=F19.binds (ps:=["state"]) fun | _,_,_,_,_,_,[_],_=>rfl
 have g19:=W.mg_of X G a19
 obtain⟨d20,F20,a20⟩:=uM a20
 have b20:=F20.binds (ps:=["state"]) fun | _,_,_,_,_,_,[_],_=>rfl
 have g20:=W.mg_of X G a20
 obtain⟨d21,F21,a21⟩:=uM a21
 have b21:=F21.binds (ps:=["state"]) fun | _,_,_,_,_,_,[_],_=>rfl
 have g21:=W.mg_of X G a21
 obtain⟨d22,F22,a22⟩:=uM a22
 have b22:=F22.binds (ps:=["state"]) fun | _,_,_,_,_,_,[_],_=>rfl
 have g22:=W.mg_of X G a22
 obtain⟨d23,F23,a23⟩:=uM a23
 have b23:=F23.binds (ps:=["book","state","press"]) fun | _,_,_,_,_,_,[_,_,_],_=>rfl
 have g23:=W.mg_of X G a23
 obtain⟨d24,F24,a24⟩:=uM a24
 have b24:=F24.binds (ps:=["book","state","button"]) fun | _,_,_,_,_,_,[_,_,_],_=>rfl
 have g24:=W.mg_of X G a24
 obtain⟨d25,F25,a25⟩:=uM a25
 have b25:=F25.binds (ps:=["state","button"]) fun | _,_,_,_,_,_,[_,_],_=>rfl
 have g25:=W.mg_of X G a25
 obtain⟨d26,F26,a26⟩:=uM a26
 have b26:=F26.binds (ps:=["count","many"]) fun | _,_,_,_,_,_,[_,_],_=>rfl
 have g26:=W.mg_of X G a26
 obtain⟨d27,F27,a27⟩:=uM a27
 have b27:=F27.binds (ps:=["held","many"]) fun | _,_,_,_,_,_,[_,_],_=>rfl
 have g27:=W.mg_of X G a27
 obtain⟨d28,F28,a28⟩:=uM a28
 have b28:=F28.binds (ps:=["book","state"]) fun | _,_,_,_,_,_,[_,_],_=>rfl
 have g28:=W.mg_of X G a28
 obtain⟨d29,F29,a29⟩:=uM a29
 have b29:=F29.binds (ps:=["book","state","many"]) fun | _,_,_,_,_,_,[_,_,_],_=>rfl
 have g29:=W.mg_of X G a29
 obtain⟨d30,F30,a30⟩:=uM a30
 have b30:=F30.binds (ps:=["laps","many"]) fun | _,_,_,_,_,_,[_,_],_=>rfl
 have g30:=W.mg_of X G a30
 obtain⟨d31,F31,a31⟩:=uM a31
 have b31:=F31.binds (ps:=["state"]) fun | _,_,_,_,_,_,[_],_=>rfl
 have g31:=W.mg_of X G a31
 obtain⟨d32,F32,a32⟩:=uM a32
 have b32:=F32.binds (ps:=["state"]) fun | _,_,_,_,_,_,[_],_=>rfl
 have g32:=W.mg_of X G a32
 obtain⟨d33,F33,a33⟩:=uM a33
 have b33:=F33.binds (ps:=["state","many"]) fun | _,_,_,_,_,_,[_,_],_=>rfl
 have g33:=W.mg_of X G a33
 obtain⟨d34,F34,a34⟩:=uM a34
 have b34:=F34.binds (ps:=["state","many"]) fun | _,_,_,_,_,_,[_,_],_=>rfl
 have g34:=W.mg_of X G a34
 obtain⟨d35,F35,a35⟩:=uM a35
 have b35:=F35.binds (ps:=["book","state","many"]) fun | _,_,_,_,_,_,[_,_,_],_=>rfl
 have g35:=W.mg_of X G a35
 obtain⟨d36,F36,a36⟩:=uM a36
 have b36:=F36.binds (ps:=["book","state"]) fun | _,_,_,_,_,_,[_,_],_=>rfl
 have g36:=W.mg_of X G a36
 obtain⟨d37,F37,a37⟩:=uM a37
 have b37:=F37.binds (ps:=["book","state"]) fun | _,_,_,_,_,_,[_,_],_=>rfl
 have g37:=W.mg_of X G a37
 obtain⟨d38,F38,a38⟩:=uM a38
 have b38:=F38.binds (ps:=["book","state"]) fun | _,_,_,_,_,_,[_,_],_=>rfl
 have g38:=W.mg_of X G a38
 obtain⟨d39,F39,a39⟩:=uM a39
 have b39:=F39.binds (ps:=["book","state"]) fun | _,_,_,_,_,_,[_,_],_=>rfl
 have g39:=W.mg_of X G a39
 obtain⟨d40,F40,a40⟩:=uM a40
 have b40:=F40.binds (ps:=["book","state"]) fun | _,_,_,_,_,_,[_,_],_=>rfl
 have g40:=W.mg_of X G a40
 obtain⟨d41,F41,a41⟩:=uM a41
 have b41:=F41.binds (ps:=["book","state","many"]) fun | _,_,_,_,_,_,[_,_,_],_=>rfl
 have g41:=W.mg_of X G a41
 obtain⟨d42,F42,a42⟩:=uM a42
 have b42:=F42.binds (ps:=["book","state","many"]) fun | _,_,_,_,_,_,[_,_,_],_=>rfl
 have g42:=W.mg_of X G a42
 obtain⟨d43,F43,a43⟩:=uM a43
 have b43:=F43.binds (ps:=["book","state","event"]) fun | _,_,_,_,_,_,[_,_,_],_=>rfl
 have g43:=W.mg_of X G a43
 obtain⟨d44,F44,a44⟩:=uM a44
 have b44:=F44.binds (ps:=["book","state","row"]) fun | _,_,_,_,_,_,[_,_,_],_=>rfl
 have g44:=W.mg_of X G a44
 obtain⟨d45,F45,a45⟩:=uM a45
 have b45:=F45.binds (ps:=["book"]) fun | _,_,_,_,_,_,[_],_=>rfl
 have g45:=W.mg_of X G a45
 obtain⟨d46,F46,a46⟩:=uM a46
 have b46:=F46.binds (ps:=["book","press"]) fun | _,_,_,_,_,_,[_,_],_=>rfl
 have g46:=W.mg_of X G a46
 obtain⟨d47,F47,a47⟩:=uM a47
 have b47:=F47.binds (ps:=["book","state","presses"]) fun | _,_,_,_,_,_,[_,_,_],_=>rfl
 have g47:=W.mg_of X G a47
 obtain⟨d48,F48,a48⟩:=uM a48
 have b48:=F48.binds (ps:=["number"]) fun | _,_,_,_,_,_,[_],_=>rfl
 have g48:=W.mg_of X G a48
 obtain⟨d49,F49,a49⟩:=uM a49
 have b49:=F49.binds (ps:=["number"]) fun | _,_,_,_,_,_,[_],_=>rfl
 have g49:=W.mg_of X G a49
 obtain⟨d50,F50,a50⟩:=uM a50
 have b50:=F50.binds (ps:=["hour","minute"]) fun | _,_,_,_,_,_,[_,_],_=>rfl
 have g50:=W.mg_of X G a50
 obtain⟨d51,F51,a51⟩:=uM a51
 have b51:=F51.binds (ps:=["state"]) fun | _,_,_,_,_,_,[_],_=>rfl
 have g51:=W.mg_of X G a51
 obtain⟨d52,F52,a52⟩:=uM a52
 have b52:=F52.binds (ps:=["seconds"]) fun | _,_,_,_,_,_,[_],_=>rfl
 have g52:=W.mg_of X G a52
 obtain⟨d53,F53,a53⟩:=uM a53
 have b53:=F53.binds (ps:=["state"]) fun | _,_,_,_,_,_,[_],_=>rfl
 have g53:=W.mg_of X G a53
 obtain⟨d54,F54,a54⟩:=uM a54
 have b54:=F54.binds (ps:=["state"]) fun | _,_,_,_,_,_,[_],_=>rfl
 have g54:=W.mg_of X G a54
 obtain⟨d55,F55,a55⟩:=uM a55
 have b55:=F55.binds (ps:=["state"]) fun | _,_,_,_,_,_,[_],_=>rfl
 have g55:=W.mg_of X G a55
 obtain⟨d56,F56,a56⟩:=uM a56
 have b56:=F56.binds (ps:=["book","state"]) fun | _,_,_,_,_,_,[_,_],_=>rfl
 have g56:=W.mg_of X G a56
 obtain⟨d57,F57,a57⟩:=uM a57
 have b57:=F57.binds (ps:=["book","row"]) fun | _,_,_,_,_,_,[_,_],_=>rfl
 have g57:=W.mg_of X G a57
 obtain⟨d58,F58,a58⟩:=uM a58
 have b58:=F58.binds (ps:=["state","many"]) fun | _,_,_,_,_,_,[_,_],_=>rfl
 have g58:=W.mg_of X G a58
 obtain⟨d59,F59,a59⟩:=uM a59
 have b59:=F59.binds (ps:=["state"]) fun | _,_,_,_,_,_,[_],_=>rfl
 have g59:=W.mg_of X G a59
 obtain⟨d60,F60,a60⟩:=uM a60
 have b60:=F60.binds (ps:=["book","state","many"]) fun | _,_,_,_,_,_,[_,_,_],_=>rfl
 have g60:=W.mg_of X G a60
 obtain⟨d61,F61,a61⟩:=uM a61
 have b61:=F61.binds (ps:=["book","state","event"]) fun | _,_,_,_,_,_,[_,_,_],_=>rfl
 have g61:=W.mg_of X G a61
 obtain⟨d62,F62,a62⟩:=uM a62
 have b62:=F62.binds (ps:=["book","row"]) fun | _,_,_,_,_,_,[_,_],_=>rfl
 have g62:=W.mg_of X G a62
 obtain⟨d63,F63,a63⟩:=uM a63
 have b63:=F63.binds (ps:=["_law_now_here"]) fun | _,_,_,_,_,_,[_],_=>rfl
 have g63:=W.mg_of X G a63
 obtain⟨d64,F64,a64⟩:=uM a64
 have b64:=F64.binds (ps:=["_law_number","_law_last"]) fun | _,_,_,_,_,_,[_,_],_=>rfl
 have g64:=W.mg_of X G a64
 obtain⟨d65,F65,a65⟩:=uM a65
 have b65:=F65.binds (ps:=["_law_now_here","_law_deed_here"]) fun | _,_,_,_,_,_,[_,_],_=>rfl
 have g65:=W.mg_of X G a65
 obtain⟨d66,F66,a66⟩:=uM a66
 have b66:=F66.binds (ps:=["_law_book_here","_law_now_here","_law_press_here"]) fun | _,_,_,_,_,_,[_,_,_],_=>rfl
 have g66:=W.mg_of X G a66
 obtain⟨d67,F67,a67⟩:=uM a67
 have b67:=F67.binds (ps:=["_law_book_here","_law_now_here"]) fun | _,_,_,_,_,_,[_,_],_=>rfl
 have g67:=W.mg_of X G a67
 obtain⟨d68,F68,a68⟩:=uM a68
 have b68:=F68.binds (ps:=["_law_book_here","_law_now_here","_law_event_here"]) fun | _,_,_,_,_,_,[_,_,_],_=>rfl
 have g68:=W.mg_of X G a68
 obtain⟨d69,F69,a69⟩:=uM a69
 have b69:=F69.binds (ps:=["_law_state"]) fun | _,_,_,_,_,_,[_],_=>rfl
 have g69:=W.mg_of X G a69
 have F70:=qc (st:=gm) l70 c70 k70
 have b70:=F70.binds (ps:=["_law_script"]) fun | _,_,_,_,_,_,[_],_=>rfl
 have g70:=W.mg_of X G a70
 have Fm:=W.mg_none_of X G Ma
 have wN:=W.mg_none_of X G NT
 have xY:=W.mg_none_of X G NU
 have Fl:=W.mg_none_of X G Mb
 have vC:=W.mg_none_of X G NV
 have ut:=W.mg_none_of X G Km
 have zf:=W.mg_none_of X G FC
 have IO:=W.mg_none_of X G NW
 have BM:=W.mg_none_of X G IV
 have CT:=W.mg_none_of X G NX
 have uA:=W.mg_none_of X G Kn
 have IP:=W.mg_none_of X G NY
 have tZ:uZ K mg "ALARM" bg:=⟨_,.int 2,W.mg_of X G q_ALARM,⟨_,rfl⟩,fun H=>rfl⟩
 have DI:uZ K mg "BLOCK" dL:=⟨_,.int 1000000000000000000,W.mg_of X G q_BLOCK,⟨_,rfl⟩,fun H=>rfl⟩
 have tV:uZ K mg "CLOCK" ba:=⟨_,.int 1,W.mg_of X G q_CLOCK,⟨_,rfl⟩,fun H=>rfl⟩
 have tH:uZ K mg "COUNT" aT:=⟨_,.int 4,W.mg_of X G q_COUNT,⟨_,rfl⟩,fun H=>rfl⟩
 have xZ:uZ K mg "DAY" eW:=⟨_,.int 86400,W.mg_of X G q_DAY,⟨_,rfl⟩,fun H=>rfl⟩
 have yo:uZ K mg "FULL_RING" eT:=⟨_,.int 10,W.mg_of X G q_FULL_RING,⟨_,rfl⟩,fun H=>rfl⟩
 have tF:uZ K mg "HELD" aX:=⟨_,.int 6,W.mg_of X G q_HELD,⟨_,rfl⟩,fun H=>rfl⟩
 have vO:uZ K mg "IDLE" cW:=⟨_,.int 7,W.mg_of X G q_IDLE,⟨_,rfl⟩,fun H=>rfl⟩
 have vc:uZ K mg "LAPS" bZ:=⟨_,.int 3,W.mg_of X G q_LAPS,⟨_,rfl⟩,fun H=>rfl⟩
 have uL:uZ K mg "MODE" bU:=⟨_,.int 0,W.mg_of X G q_MODE,⟨_,rfl⟩,fun H=>rfl⟩
 have yl:uZ K mg "MOST_KEPT" fj:=⟨_,.int 4,W.mg_of X G q_MOST_KEPT,⟨_,rfl⟩,fun H=>rfl⟩
 have xh:uZ K mg "RING" dY:=⟨_,.int 5,W.mg_of X G q_RING,⟨_,rfl⟩,fun H=>rfl⟩
 have s_PRESSES:LJ K mg "PRESSES" cT:=⟨zi,_,_,_,W.mg_of X G q_PRESSES,rs_PRESSES,(.cons ⟨_,rfl⟩ (.cons ⟨_,rfl⟩ (.cons ⟨_,rfl⟩ (.cons ⟨_,rfl⟩ (.cons ⟨_,rfl⟩ (.cons ⟨_,rfl⟩ .nil))))))⟩
 have D_FACE_TEXTS:=W.mg_of X G q_FACE_TEXTS
 have D_STEPS:=W.mg_of X G q_STEPS
 refine⟨W.fnOf "law" "law" (wV gm) (uO gm) (i6 gm) .none kV70 dc70 pm70 an70 cd70 ct70,fun s v=>.of_eq rfl,fun base _ _=>?_⟩
 have tY:p6 l.prog w K mg base 1 "_law_drawn" ["_law_number","_law_k"] aF:=aB F0 g0 b0 (jJ (k:=0)  F0)
 have yz:p6 l.prog w K mg base 2 "_law_book" ["_law_number"] cJ:=aB F1 g1 b1 (kz (k:=1) tY.m ut F1)
 have wK:p6 l.prog w K mg base 1 "_law_cell_at" ["_law_script","_law_k"] bR:=aB F2 g2 b2 (im (k:=0) xY F2)
 have uV:p6 l.prog w K mg base 2 "_law_mixed" ["_law_script","_law_k"] aS:=aB F3 g3 b3 (jw (k:=1) wK.m F3)
 have xM:p6 l.prog w K mg base 1 "_law_event" ["_law_number"] bx:=aB F4 g4 b4 (jB (k:=0)  F4)
 have zg:p6 l.prog w K mg base 2 "_law_row" ["_law_number","_law_most"] de:=aB F5 g5 b5 (lK (k:=1) tY.m xM.m ut uA F5)
 have uQ:p6 l.prog w K mg base 1 "is_holding" ["state","button"] bz:=aB F6 g6 b6 (jA (k:=0) tF F6)
 have vN:p6 l.prog w K mg base 2 "is_short" ["state","button"] bK:=aB F7 g7 b7 (lg (k:=1) uQ.m tF F7)
 have tB:p6 l.prog w K mg base 1 "put" ["state","place","part"] aH:=aB F8 g8 b8 (sv (k:=0)  F8)
 have wf:p6 l.prog w K mg base 2 "alarm_hour_on" ["state"] bi:=aB F9 g9 b9 (gS (k:=1) tB.m tZ F9)
 have vy:p6 l.prog w K mg base 2 "alarm_minute_on" ["state"] a_:=aB F10 g10 b10 (fS (k:=1) tB.m tZ F10)
 have wL:p6 l.prog w K mg base 2 "alarm_turned" ["state"] bv:=aB F11 g11 b11 (ib (k:=1) tB.m tZ F11)
 have vw:p6 l.prog w K mg base 2 "set_to" ["state","minute","second"] bX:=aB F12 g12 b12 (oz (k:=1) tB.m tH F12)
 have vA:p6 l.prog w K mg base 3 "count_minute_on" ["state"] aZ:=aB F13 g13 b13 (fU (k:=2) vw.m tH F13)
 have vB:p6 l.prog w K mg base 3 "count_second_on" ["state"] aY:=aB F14 g14 b14 (fR (k:=2) vw.m tH F14)
 have wM:p6 l.prog w K mg base 2 "count_turned" ["state"] bN:=aB F15 g15 b15 (ii (k:=1) tB.m tH F15)
 have BH:p6 l.prog w K mg base 3 "filled" ["state"] dB:=aB F16 g16 b16 (oo (k:=2) vw.m tH F16)
 have Af:p6 l.prog w K mg base 2 "hour_on" ["state"] cS:=aB F17 g17 b17 (mQ (k:=1) tB.m tV F17)
 have zd:p6 l.prog w K mg base 2 "lap_kept" ["state"] db:=aB F18 g18 b18 (ln (k:=1) tB.m xY vc yl F18)
 have xg:p6 l.prog w K mg base 2 "laps_turned" ["state"] bE:=aB F19 g19 b19 (jk (k:=1) tB.m vc F19)
 have ym:p6 l.prog w K mg base 2 "minute_on" ["state"] ca:=aB F20 g20 b20 (j4 (k:=1) tB.m tV F20)
 have Ag:p6 l.prog w K mg base 1 "nothing" ["state"] cR:=aB F21 g21 b21 (mO (k:=0)  F21)
 have Ah:p6 l.prog w K mg base 2 "to_zero" ["state"] cU:=aB F22 g22 b22 (mG (k:=1) tB.m tV F22)
 have DH:El l.prog w K mg base 3 "STEPS" yE:=⟨BR,_,D_STEPS,fun h X=>lw _ r_STEPS (show List.Nodup [oS "none",oS "hour",oS "minute",oS "zero",oS "ahour",oS "aminute",oS "alarm",oS "run",oS "lap",oS "cminute",oS "csecond",oS "full",oS "count"] from by decide +kernel) h X,(.cons (uK Ag.m g21) (.cons (uK Af.m g17) (.cons (uK ym.m g20) (.cons (uK Ah.m g22) (.cons (uK wf.m g9) (.cons (uK vy.m g10) (.cons (uK wL.m g11) (.cons (uK xg.m g19) (.cons (uK zd.m g18) (.cons (uK vA.m g13) (.cons (uK vB.m g14) (.cons (uK BH.m g16) (.cons (uK wM.m g15) .nil)))))))))))))⟩
 have uR:p6 l.prog w K mg base 4 "press_done" ["book","state","press"] bA:=aB F23 g23 b23 (jx (k:=3) wf.m vy.m wL.m vA.m vB.m wM.m BH.m Af.m zd.m xg.m ym.m Ag.m tB.m Ah.m uL s_PRESSES DH F23)
 have BJ:p6 l.prog w K mg base 5 "let_go" ["book","state","button"] eU:=aB F24 g24 b24 (oP (k:=4) uQ.m vN.m uR.m tB.m tF vO F24)
 have BK:p6 l.prog w K mg base 2 "pushed" ["state","button"] fo:=aB F25 g25 b25 (oA (k:=1) tB.m tF vO xh F25)
 have ze:p6 l.prog w K mg base 1 "count_on" ["count","many"] cV:=aB F26 g26 b26 (kU (k:=0) vC F26)
 have Ai:p6 l.prog w K mg base 1 "held_on" ["held","many"] dD:=aB F27 g27 b27 (mX (k:=0)  F27)
 have uk:p6 l.prog w K mg base 1 "ticks_to_back" ["book","state"] bc:=aB F28 g28 b28 (gG (k:=0) vC vO F28)
 have Aj:p6 l.prog w K mg base 2 "idle_on" ["book","state","many"] dH:=aB F29 g29 b29 (nc (k:=1) uk.m tF vO F29)
 have Ak:p6 l.prog w K mg base 1 "laps_on" ["laps","many"] dI:=aB F30 g30 b30 (na (k:=0)  F30)
 have uS:p6 l.prog w K mg base 1 "alarm_tick" ["state"] aV:=aB F31 g31 b31 (jC (k:=0) tZ tV xZ F31)
 have uT:p6 l.prog w K mg base 1 "count_tick" ["state"] be:=aB F32 g32 b32 (jt (k:=0) tH F32)
 have yn:p6 l.prog w K mg base 2 "last_ring" ["state","many"] cK:=aB F33 g33 b33 (kD (k:=1) uS.m uT.m vC xZ F33)
 have Al:p6 l.prog w K mg base 3 "ring_on" ["state","many"] dE:=aB F34 g34 b34 (mH (k:=2) yn.m vC yo xh F34)
 have wx:p6 l.prog w K mg base 4 "counted" ["book","state","many"] cA:=aB F35 g35 b35 (mR (k:=3) ze.m Ai.m Aj.m Ak.m Al.m tZ tV tH xZ tF vc uL F35)
 have yp:p6 l.prog w K mg base 1 "goes_back" ["book","state"] cG:=aB F36 g36 b36 (kJ (k:=0) uL F36)
 have wg:p6 l.prog w K mg base 1 "ticks_to_long" ["book","state"] bC:=aB F37 g37 b37 (gD (k:=0) vC tF F37)
 have vj:p6 l.prog w K mg base 2 "turn_tick" ["book","state"] bL:=aB F38 g38 b38 (kA (k:=1) yp.m uk.m wg.m tF F38)
 have BI:p6 l.prog w K mg base 5 "turned" ["book","state"] eK:=aB F39 g39 b39 (oU (k:=4) uR.m tB.m tF uL F39)
 have xi:p6 l.prog w K mg base 6 "behind_turn" ["book","state"] bG:=aB F40 g40 b40 (jd (k:=5) wx.m vj.m BI.m F40)
 have vk:p6 l.prog w K mg base 7 "stretches" ["book","state","many"] bp:=aB F41 g41 b41 (kj (k:=6) xi.m vj.m F41)
 have BL:p6 l.prog w K mg base 8 "ticked" ["book","state","many"] eG:=aB F42 g42 b42 (oD (k:=7) wx.m vk.m F42)
 have xN:p6 l.prog w K mg base 9 "gone" ["book","state","event"] dt:=aB F43 g43 b43 (rH (k:=8) BJ.m BK.m BL.m F43)
 have xO:p6 l.prog w K mg base 10 "after" ["book","state","row"] cE:=aB F44 g44 b44 (pG (k:=9) xN.m F44)
 have vU:p6 l.prog w K mg base 1 "begun" ["book"] cD:=aB F45 g45 b45 (p_ (k:=0)  F45)
 have yq:p6 l.prog w K mg base 1 "press_row" ["book","press"] bP:=aB F46 g46 b46 (j3 (k:=0)  F46)
 have vP:p6 l.prog w K mg base 11 "pressed" ["book","state","presses"] bF:=aB F47 g47 b47 (my (k:=10) xO.m yq.m F47)
 have wy:p6 l.prog w K mg base 1 "figures" ["number"] cx:=aB F48 g48 b48 (mZ (k:=0) zf CT DI F48)
 have tR:p6 l.prog w K mg base 2 "two_figures" ["number"] aR:=aB F49 g49 b49 (jg (k:=1) wy.m F49)
 have vm:p6 l.prog w K mg base 3 "hour_text" ["hour","minute"] bS:=aB F50 g50 b50 (kr (k:=2) tR.m F50)
 have xP:p6 l.prog w K mg base 4 "alarm_text" ["state"] ci:=aB F51 g51 b51 (js (k:=3) vm.m tZ F51)
 have uC:p6 l.prog w K mg base 3 "minute_text" ["seconds"] bu:=aB F52 g52 b52 (iY (k:=2) wy.m tR.m F52)
 have xQ:p6 l.prog w K mg base 4 "count_text" ["state"] cc:=aB F53 g53 b53 (jy (k:=3) uC.m tH F53)
 have yr:p6 l.prog w K mg base 4 "laps_text" ["state"] cF:=aB F54 g54 b54 (ku (k:=3) uC.m xY CT vc F54)
 have yt:p6 l.prog w K mg base 4 "time_text" ["state"] cI:=aB F55 g55 b55 (kg (k:=3) vm.m tR.m tV F55)
 have xR:El l.prog w K mg base 4 "FACE_TEXTS" vt:=⟨xk,_,D_FACE_TEXTS,fun h X=>lw _ r_FACE_TEXTS (show List.Nodup [oS "time",oS "alarm",oS "laps",oS "count"] from by decide +kernel) h X,(.cons (uK yt.m g55) (.cons (uK xP.m g51) (.cons (uK yr.m g54) (.cons (uK xQ.m g53) .nil))))⟩
 have yI:p6 l.prog w K mg base 5 "shown" ["book","state"] df:=aB F56 g56 b56 (pB (k:=4) xP.m xQ.m yr.m yt.m uL xh xR F56)
 have Fo:p6 l.prog w K mg base 10 "seen" ["book","row"] iZ:=aB F57 g57 b57 (rD (k:=9) vU.m xN.m yI.m uA F57)
 have xS:p6 l.prog w K mg base 2 "ring_ticks" ["state","many"] bq:=aB F58 g58 b58 (jG (k:=1) uS.m uT.m Fl ut IO BM xZ F58)
 have yu:p6 l.prog w K mg base 1 "turn_sign" ["state"] cH:=aB F59 g59 b59 (ko (k:=0) tF F59)
 have vD:p6 l.prog w K mg base 8 "tick_happenings" ["book","state","many"] bj:=aB F60 g60 b60 (fL (k:=7) xS.m vk.m yu.m F60)
 have xT:p6 l.prog w K mg base 9 "happenings" ["book","state","event"] bf:=aB F61 g61 b61 (jz (k:=8) vN.m vD.m F61)
 have DJ:p6 l.prog w K mg base 10 "story" ["book","row"] fY:=aB F62 g62 b62 (pF (k:=9) vU.m xN.m xT.m uA F62)
 have Am:p6 l.prog w K mg base 1 "_law_of" ["_law_now_here"] (cB):=aB F63 g63 b63 (mi (k:=0) uA F63)
 have yJ:p6 l.prog w K mg base 1 "_law_up" ["_law_number","_law_last"] bD:=aB F64 g64 b64 (mv (k:=0)  F64)
 have yw:z_ l.prog w K mg base 2 "_law_deed" ["_law_now_here","_law_deed_here"] 0 (b_):=⟨_,_,j_ (k:=1) yJ.m wN F65,g65,F65.kp,b65⟩
 have uU:z_ l.prog w K mg base 3 "_law_press" ["_law_book_here","_law_now_here","_law_press_here"] 1 (aW):=⟨_,_,ju (k:=2) yw.m F66,g66,F66.kp,b66⟩
 have yy:z_ l.prog w K mg base 4 "_law_tick" ["_law_book_here","_law_now_here"] 1 (bQ):=⟨_,_,kh (k:=3) wN vC uU.m F67,g67,F67.kp,b67⟩
 have xj:z_ l.prog w K mg base 5 "_law_happen" ["_law_book_here","_law_now_here","_law_event_here"] 1 (bh):=⟨_,_,jp (k:=4) wN ut uU.m yy.m F68,g68,F68.kp,b68⟩
 have zh:GG l.prog w K mg base 1 "_law_now" ["_law_state"] cw:=⟨_,_,lj (k:=0) Fm IP F69,g69,F69.kp,b69⟩
 exact si yz.m tY.m uV.m zg.m xO.m vU.m vP.m Fo.m yI.m DJ.m wN xY ut uA Am.m zh.m xj.m F70
theorem walk {l:W.OpenLaw} {q:Program} {loose:List Str} {XP:(Str->Option Value)->Heap->Prop} {YP:World->Heap->Prop} {d:DefRec} {K:Params->W.Frag} (hn:l.most=some 63) (hdf:d.params.defaults=[])
    (hY:∀(w:World) (h:Heap),YP w h->(K w.params).In h)
    (F:∀(w:World) (mg:Str->Option Value) (fa:Addr) (h:Heap),(K w.params).In h->h.Ns mainGlobals mg->mg d.name=some (.ref fa) ->
      ∃fd:FuncData,(∀(s:Shared) (u:Value),BindsTo s fd ⟨[u],[]⟩ [("_law_script",u)])/\∀base:Heap,(K w.params).In base->base.Ns mainGlobals mg->n5 l.prog w (K w.params) mg base ui 12 fa fd ["_law_script"] (uE (K w.params) lC)) :
    W.WalkO q loose XP YP l.row.toRowW d [] (fun f vs=>PySem.call f vs):=
  L2.walk_of (n:=63) (k:=12) (x:="_law_script") (CX:=fun _=>ui) (sp:=fun w=>uE (K w.params) lC) hn (by decide) hdf ⟨rfl,by decide,by decide,rfl⟩ hY F (fun w H a ns hl _ hS=>⟨[.fro (ns.map .int)],.bl true,l0.one ⟨a,ns.map V.int,rfl,hS,CO _ _ ns⟩,HZ ns hl,fun v H' _ hv=>hv⟩) fun _ _ _ _ _ z=>z
end HW
namespace PySem.W.Fast
theorem tw3167936873087301922:True:=⟨⟩
theorem tw6347817760093450831:True:=⟨⟩
theorem tw1951678966334960490:True:=⟨⟩
theorem tw8295721286384787923:True:=⟨⟩
theorem tw10492413072459956481:True:=⟨⟩
theorem tw2292719347931017755:True:=⟨⟩
theorem tw14393799818134165413:True:=⟨⟩
theorem tw3398288757040259028:True:=⟨⟩
theorem tw1958314430339958788:True:=⟨⟩
theorem tw14221487980191301124:True:=⟨⟩
theorem tw5052269502168148627:True:=⟨⟩
theorem tw9754095210718502514:True:=⟨⟩
theorem tw2704449459181165226:True:=⟨⟩
theorem tw13888089083217192319:True:=⟨⟩
theorem tw10098900970033902936:True:=⟨⟩
theorem tw17299547991888614689:True:=⟨⟩
theorem tw12517478119654221188:True:=⟨⟩
theorem tw7377353683410138725:True:=⟨⟩
theorem tw4993675580708775687:True:=⟨⟩
theorem tw611343114678781546:True:=⟨⟩
theorem tw4437341504465483851:True:=⟨⟩
theorem tw4442779494428407982:True:=⟨⟩
theorem tw8012642349126509070:True:=⟨⟩
theorem tw5442112783721698990:True:=⟨⟩
theorem tw11454223991275242222:True:=⟨⟩
theorem tw5111064191210894063:True:=⟨⟩
theorem tw835855612549989233:True:=⟨⟩
theorem tw6279871307575330868:True:=⟨⟩
theorem tw17642938484787797109:True:=⟨⟩
theorem tw7884836514798946614:True:=⟨⟩
theorem tw11611264413607552665:True:=⟨⟩
theorem tw5560467493227950746:True:=⟨⟩
theorem tw4934079555500083034:True:=⟨⟩
theorem tw6600647123254670107:True:=⟨⟩
theorem tw6513134644195499261:True:=⟨⟩
theorem tw8678131336377824029:True:=⟨⟩
theorem tw12593940186374928190:True:=⟨⟩
noncomputable def tw4221371074373746703:=PySem.Challenge.pw_handwatch_k20_rows
theorem te4221371074373746703:PySem.Challenge.pw_handwatch_k20_rows=tw4221371074373746703:=rfl
end PySem.W.Fast
open PySem PySem.W PyProof.Rows
set_option maxRecDepth 100000 in
set_option maxHeartbeats 0 in
theorem PySem.Challenge.cw_handwatch_k20_rows_holds : PySem.Challenge.rw_handwatch_k20_rows.Holds := by
 w_on;o_law;k_head;(case hw=>w_witness2)
 k_fill
 refine HW.walk (l:=PySem.Challenge.rw_handwatch_k20_rows) rfl rfl (fun w h Y=>PySem.W.kIn_of Y) ?F
 case F =>
  intro w mg fa h KX G hmg
  refine' HW.all_mk KX G hmg ?_ ?_ ?_ ?_ ?_ ?_ ?_ ?_ ?_ ?_ ?_ ?_ ?_ ?_ ?_ ?_ ?_ ?_ ?_ ?_ ?_ ?_ ?_ ?_ ?_ ?_ ?_ ?_ ?_ ?_ ?_ ?_ ?_ ?_ ?_ ?_ ?_ ?_ ?_ ?_ ?_ ?_ ?_ ?_ ?_ ?_ ?_ ?_ ?_ ?_ ?_ ?_ ?_ ?_ ?_ ?_ ?_ ?_ ?_ ?_ ?_ ?_ ?_ ?_ ?_ ?_ ?_ ?_ ?_ ?_ ?_ ?_ ?_ ?_ ?_ ?_ ?_ ?_ ?_ ?_ ?_ ?_ ?_ ?_ ?_ ?_ ?_ ?_ ?_ ?_ ?_ ?_ ?_ ?_ ?_ ?_ ?_ ?_ ?_ ?_ ?_ ?_ ?_ ?_
  all_goals try first | k_is | (refine' HW.fn4_mk ?_ ?_ ?_ ?_<;>try k_is)
