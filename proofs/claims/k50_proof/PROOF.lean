import PyProof.Rows.All
import Wide.All
import OpenK.AllK
import Wide.FinOn
import Lean
import PyProof.EqAt
import PyProof.EqKinds
import PyProof.TupleCall
import KE.KLam
import PySem.Str
import PySem.Sem
import PyProof.StrWalks
import PyProof.ReprReads
import PyProof.ReprRoads
import PyProof.NeData
import PyProof.WalkInts
import PyProof.Rows.RegStrFacts
import PyProof.StrBlockI
import KE.IntText
import KE.KRevIter
import PyProof.StrBlock2
import KE.KIntText
import PyProof.Rows.Range3
import PyProof.ZipIter
import PyProof.Draws
import PyProof.IsRules
import PySem.SetOps
import PyProof.SetKind
import PyProof.DictStraight
import KE.KDictSum
import PyProof.Rows.SetFrom
import PyProof.Rows.SortShell
import PyProof.ListRange
import PyProof.Rows.FactsT2
import PyProof.Rows.FactsT3
import PySem.Builtin.Str.Common
import PyProof.StrCalls
import PyProof.DictWalks
import PyProof.Rows.TupDisplay
import PyProof.CollectWalk
import KE.KItemsList
import PyProof.ListNew
import PyProof.StrLawsIn
import PyProof.FitsReplace
import PyProof.ReprLen
import PyProof.P3In
import PySem.Challenge.RW_handwatch_k50_parted_books
set_option Elab.async false
noncomputable section
set_option linter.all false
set_option maxRecDepth 100000
namespace L2
open PySem PySem.Spec PyProof.Rows
abbrev Key:=Sum Int Str
def pT:Key->Value->Bool
 | .inl k,v=>Value.isInt k v
 | .inr x,v=>Value.isStrOf x v
def Bh(w:World):Key->Int
 | .inl k=>hashInt k
 | .inr x=>hashStr w x
theorem jF:∀{k:Key} {v:Value},pT k v=true->(∃i t,k=Sum.inl i/\v=Value.int i t)\/(∃x t,k=Sum.inr x/\v=Value.str x t)
 | .inl i,v,h=>by
  obtain⟨t,e⟩:=Value.isInt_shape (k:=i) (v:=v) h
  exact .inl ⟨i,t,rfl,e⟩
 | .inr x,v,h=>by
  obtain⟨t,e⟩:=Value.isStrOf_shape (x:=x) (v:=v) h
  exact .inr ⟨x,t,rfl,e⟩
theorem uD(i:Int)(t:Tok):pT (.inl i) (.int i t)=true:=by simp[pT,Value.isInt]
theorem uq(x:Str)(t:Tok):pT (.inr x) (.str x t)=true:=by simp[pT,Value.isStrOf]
theorem yS(a b:Int):decide ((Sum.inl a:Key)=Sum.inl b)=(a==b):=by
 by_cases e:a=b
 ·subst e;simp
 ·have h:¬ (Sum.inl a:Key)=Sum.inl b:=fun q=>e (Sum.inl.inj q)
  rw[decide_eq_false h]
  exact(beq_eq_false_iff_ne.mpr e).symm
theorem y8(a b:Str):decide ((Sum.inr a:Key)=Sum.inr b)=decide (a=b):=by
 by_cases e:a=b
 ·subst e;simp
 ·have h:¬ (Sum.inr a:Key)=Sum.inr b:=fun q=>e (Sum.inr.inj q)
  rw[decide_eq_false h,decide_eq_false e]
theorem zk(a:Int)(b:Str):decide ((Sum.inl a:Key)=Sum.inr b)=false:=decide_eq_false (fun q=>nomatch q)
theorem za(a:Str)(b:Int):decide ((Sum.inr a:Key)=Sum.inl b)=false:=decide_eq_false (fun q=>nomatch q)
def je(prog:Program)(w:World):PySem.KeyKind prog w Key where
 is:=pT
 hash:=Bh w
 inj:=fun v a b ha hb=>by
  rcases jF ha with ⟨i,t,rfl,rfl⟩ | ⟨x,t,rfl,rfl⟩
  ·rcases jF hb with ⟨j,u,rfl,e⟩ | ⟨y,u,rfl,e⟩
   ·injection e with e1 _;rw[e1]
   ·exact nomatch e
  ·rcases jF hb with ⟨j,u,rfl,e⟩ | ⟨y,u,rfl,e⟩
   ·exact nomatch e
   ·injection e with e1 _;rw[e1]
 byValue:=fun k v h=>by
  rcases jF h with ⟨i,t,rfl,rfl⟩ | ⟨x,t,rfl,rfl⟩<;>rfl
 pyHash:=fun hv h=>by
  rcases jF hv with ⟨i,t,rfl,rfl⟩ | ⟨x,t,rfl,rfl⟩
  ·exact wpAny_pyHash_int h
  ·exact wpAny_pyHash_str h
 eqBool:=fun hu hv h=>by
  rcases jF hu with ⟨i,t,rfl,rfl⟩ | ⟨x,t,rfl,rfl⟩
  ·rcases jF hv with ⟨j,u,rfl,rfl⟩ | ⟨y,u,rfl,rfl⟩
   ·rw[yS] at h;exact wpAny_eqBool_int h
   ·rw[zk] at h;exact SeqAt.EqAt.int_str i t y u _ _ _ _ h
  ·rcases jF hv with ⟨j,u,rfl,rfl⟩ | ⟨y,u,rfl,rfl⟩
   ·rw[za] at h;exact SeqAt.EqAt.str_int x t j u _ _ _ _ h
   ·rw[y8] at h;exact wpAny_eqBool_str h
 «strs»:=fun k x t v h=>by
  rcases jF h with ⟨i,u,rfl,e⟩ | ⟨y,u,rfl,e⟩
  ·exact nomatch e
  ·injection e with e1 _
   subst e1
   cases v<;>rfl
theorem rR(prog:Program)(w:World)(i:Int)(t:Tok):(je prog w).is (.inl i) (.int i t)=true:=uD i t
theorem rq(prog:Program)(w:World)(x:Str)(t:Tok):(je prog w).is (.inr x) (.str x t)=true:=uq x t
end L2
namespace L2
open PySem PySem.Spec PyProof.Rows
inductive V where
 | non | bl (b:Bool) | int (i:Int) | str (x:Str) | byt (b:Array UInt8) | flt (b:UInt64) | ref (a:Addr) | ty (n:String)
 deriving DecidableEq
def RelV:V->Value->Prop
 | .non,u=>u=Value.none
 | .bl b,u=>u=Value.bool b
 | .int i,u=>∃t,u=Value.int i t
 | .str x,u=>∃t,u=Value.str x t
 | .byt b,u=>∃t,u=Value.bytes b t
 | .flt b,u=>∃t,u=Value.float b t
 | .ref a,u=>u=Value.ref a
 | .ty n,u=>u=Value.type n
abbrev jg:List V->List Value->Prop:=Paired RelV
theorem jg.length{xs:List V}{us:List Value}(r:jg xs us):xs.length=us.length:=Paired.length r
theorem jg.get:∀{xs:List V} {us:List Value} {i:Nat} {x:V},jg xs us->xs[i]?=some x->∃u,us[i]?=some u/\RelV x u
 | _,_,_,_,.nil,e=>by simp at e
 | _,_,0,_,.cons r _,e=>by simp at e;subst e;exact⟨_,rfl,r⟩
 | _,_,i+1,x,.cons _ t,e=>by
  obtain⟨u,h1,h2⟩:=jg.get (i:=i) (x:=x) t (by simpa using e)
  exact⟨u,by simpa using h1,h2⟩
theorem jg.set{x:V}{u:Value}(r:RelV x u):∀{xs:List V} {us:List Value} (i:Nat),jg xs us->jg (xs.set i x) (us.set i u)
 | _,_,_,.nil=>.nil
 | _,_,0,.cons _ t=>.cons r t
 | _,_,i+1,.cons q t=>.cons q (jg.set r i t)
theorem jg.append:∀{xs ys:List V} {us ws:List Value},jg xs us->jg ys ws->jg (xs++ys) (us++ws)
 | _,_,_,_,.nil,s=>s
 | _,_,_,_,.cons r t,s=>.cons r (jg.append t s)
theorem jg.take:∀{xs:List V} {us:List Value} (n:Nat),jg xs us->jg (xs.take n) (us.take n)
 | _,_,0,_=>.nil
 | _,_,_+1,.nil=>.nil
 | _,_,n+1,.cons r t=>.cons r (jg.take n t)
theorem jg.drop:∀{xs:List V} {us:List Value} (n:Nat),jg xs us->jg (xs.drop n) (us.drop n)
 | _,_,0,r=>r
 | _,_,_+1,.nil=>.nil
 | _,_,n+1,.cons _ t=>jg.drop n t
def nM:Option V->Option Value->Prop
 | some v,some u=>RelV v u
 | none,none=>True
 | _,_=>False
def KV{κ:Type}:List (κ×V)->List (κ×Value)->Prop:=Paired fun (p:κ×V) (q:κ×Value)=>p.1=q.1/\RelV p.2 q.2
def kV:Key->V
 | .inl i=>.int i
 | .inr x=>.str x
inductive HO where
 | lst (xs:List V)
 | tup (xs:List V)
 | dK (kvs:List (Key×V)) | dT (kvs:List (List Key×V))
 | set (S:Int->Bool) (n:Nat)
 | ins (C dx:Addr) (fs:List (Str×V))
 | own (x:Addr)
 | xd (fs:List (Str×V))
 | met (f x:Addr)
 | rng (lo hi:Int)
 | frz (o:Obj) (u:HO)
 | tbl (q:Str) (c:Bool)
 | ext (φ:Heap->Prop)
abbrev Hp:=Addr->Option HO
def upd(H:Hp)(a:Addr)(o:HO):Hp:=fun b=>if b=a then some o else H b
theorem ae{H:Hp}{a:Addr}{o:HO}:upd H a o a=some o:=by unfold upd;rw[if_pos rfl]
theorem ai{H:Hp}{a b:Addr}{o:HO}(h:b≠a):upd H a o b=H b:=by unfold upd;rw[if_neg h]
theorem gO{H:Hp}{a:Addr}{o u:HO}:upd (upd H a o) a u=upd H a u:=by
 funext b;unfold upd;split<;>rfl
theorem yk{H:Hp}{a b:Addr}{o u:HO}(h:H a=some o)(h':H b=some u)(d:o≠u):a≠b:=by
 intro e;subst e;rw[h] at h';exact d (Option.some.inj h')
theorem j3{H:Hp}{a b:Addr}{o:HO}(h:H a=some o)(h':H b=none):a≠b:=by
 intro e;subst e;rw[h] at h';cases h'
def k_(h:Heap)(a:Addr)(its:Array Value):Prop:=∃o,h.get? a=some o/\o.cls=.type "tuple" /\ (∃n,o.data=.seq its n)/\o.dict=none
theorem k_.is{h:Heap}{a:Addr}{its:Array Value}(x:k_ h a its):IsTup h a its:=by obtain⟨o,e,c,d,_⟩:=x;exact⟨o,e,c,d⟩
theorem k_.lt{h:Heap}{a:Addr}{its:Array Value}(x:k_ h a its):a<h.objs.size:=x.is.lt
theorem k_.new(h:Heap)(its:Array Value):k_ (h.push {cls:=.type "tuple",data:=.seq its}) h.objs.size its:=⟨_,Heap.get?_push_size _ rfl,rfl,⟨_,rfl⟩,rfl⟩
section
variable(P:Program)(w:World)
def jJ(H:Hp)(h:Heap)(a:Addr):HO->Prop
 | .lst xs=>xs.length<=sizeLine/\∃(its:List Value) (n:Nat),jg xs its/\h.get? a=some {cls:=.type "list",data:=.seq its.toArray n}
 | .tup xs=>xs.length<=sizeLine/\∃its:List Value,jg xs its/\k_ h a its.toArray
 | .dK kvs=>kvs.length<=sizeLine/\(a==sysModules)=false/\∃vs,KV kvs vs/\h.DictOf (je P w) a vs
 | .dT kvs=>kvs.length<=sizeLine/\(a==sysModules)=false/\∃xs:List (List Key×Addr×Value),
   Paired (fun (p:List Key×V) (q:List Key×Addr×Value)=>p.1=q.1/\H q.2.1=some (.tup (p.1.map kV))/\RelV p.2 q.2.2) kvs xs /\
   ∃o es ep,h.get? a=some o/\o.ExactDict/\o.data=.dict es ep/\es.toList=xs.map (entryOfKey (tupleKind (je P w)))/\(xs.map (·.1)).Nodup
 | .set S n=>h.SetOf (intKind P w) a S n
 | .ins C dx fs=>H dx=some (.own a)/\fs.length<=1000/\dx≠a/\h.get? a=some (PySem.W.instObj C dx) /\
   ∃mA,h.Ns1 dx mA/\(∀f,nM (fs.lookup f) (mA f))/\PySem.Within mA (fs.map (·.1))
 | .own _=>∃o,h.get? a=some o
 | .xd fs=>∃mA,h.Ns1 a mA/\∀f,nM (fs.lookup f) (mA f)
 | .rng lo hi=>∃t u v,h.get? a=some {cls:=.type "range",data:=.fields #[.int lo t,.int hi u,.int 1 v]}
 | .frz o u=>h.get? a=some o/\jJ H h a u
 | .tbl q true=>h.CodeRec (.ref a) q
 | .tbl q false=>∃ts:Array Value,h.get? a=some {cls:=.none,data:=.fields ts}/\TriplesOk ts.toList/\∀(pos:Pos) (cv:Value),codeAmong pos ts.toList=some cv->∃c,cv=.ref c/\H c=some (.tbl q true)
 | .met f x=>h.get? a=some (PySem.W.methodObj (.ref f) (.ref x))
 | .ext φ=>φ h/\(∃o,h.get? a=some o)/\∀h1 h2:Heap,φ h1->(∀o,h1.get? a=some o->h2.get? a=some o)->φ h2
def mh(H:Hp)(h:Heap):Prop:=∀a o,H a=some o->jJ P w H h a o
end
section
variable{P:Program}{w:World}{H H':Hp}{h h':Heap}{a:Addr}{o:HO}
theorem jJ.lt(x:jJ P w H h a o):a<h.objs.size:=by
 cases o with
 | lst xs=>obtain⟨_,_,_,_,e⟩:=x;exact Heap.lt_size e
 | tup xs=>obtain⟨_,_,_,p⟩:=x;exact p.lt
 | dK kvs=>obtain⟨_,_,_,_,o,_,_,e,_⟩:=x;exact Heap.lt_size e
 | dT kvs=>obtain⟨_,_,_,_,o,_,_,e,_⟩:=x;exact Heap.lt_size e
 | set S n=>obtain⟨o,_,_,_,e,_⟩:=x;exact Heap.lt_size e
 | ins C dx fs=>obtain⟨_,_,_,e,_⟩:=x;exact Heap.lt_size e
 | own y=>obtain⟨_,e⟩:=x;exact Heap.lt_size e
 | xd fs=>obtain⟨_,⟨_,_,_,e,_⟩,_⟩:=x;exact Heap.lt_size e
 | rng lo hi=>obtain⟨_,_,_,e⟩:=x;exact Heap.lt_size e
 | frz ob u=>obtain⟨e,_⟩:=x;exact Heap.lt_size e
 | tbl q c =>
  cases c with
  | true=>obtain⟨_,o,_,_,e,g,_⟩:=(show h.CodeRec (.ref a) q from x);cases e;exact Heap.lt_size g
  | false=>obtain⟨_,e,_⟩:=x;exact Heap.lt_size e
 | met f y=>exact Heap.lt_size (show h.get? a=some _ from x)
 | ext φ=>obtain⟨_,⟨_,e⟩,_⟩:=x;exact Heap.lt_size e
theorem Paired.mapP{α β:Type}{F G:α->β->Prop}:∀{l₁:List α} {l₂:List β},Paired F l₁ l₂->(∀a b,F a b->G a b)->Paired G l₁ l₂
 | _,_,.nil,_=>.nil
 | _,_,.cons r t,f=>.cons (f _ _ r) (Paired.mapP t f)
theorem jJ.stay(x:jJ P w H h a o)(k:∀b u,(b=a\/H b=some (.own a))->h.get? b=some u->h'.get? b=some u)
  (ho:∀b,H b=some (.own a)->H' b=some (.own a)) (ht:∀b xs,H b=some (.tup xs)->H' b=some (.tup xs)) (hc:∀b q c,H b=some (.tbl q c)->H' b=some (.tbl q c)):jJ P w H' h' a o:=by
 induction o with
 | lst xs=>obtain⟨z,its,n,r,e⟩:=x;exact⟨z,its,n,r,k _ _ (.inl rfl) e⟩
 | tup xs=>obtain⟨z,its,r,ob,e,c⟩:=x;exact⟨z,its,r,ob,k _ _ (.inl rfl) e,c⟩
 | dK kvs=>obtain⟨z,y,vs,r,ob,es,ep,e,c⟩:=x;exact⟨z,y,vs,r,ob,es,ep,k _ _ (.inl rfl) e,c⟩
 | dT kvs =>
  obtain⟨z,y,xs,r,ob,es,ep,e,c⟩:=x
  exact⟨z,y,xs,Paired.mapP r fun p q z=>⟨z.1,ht _ _ z.2.1,z.2.2⟩,ob,es,ep,k _ _ (.inl rfl) e,c⟩
 | set S n=>obtain⟨ob,es,ep,t,e,c⟩:=x;exact⟨ob,es,ep,t,k _ _ (.inl rfl) e,c⟩
 | ins C dx fs =>
  obtain⟨d,z,ne,e,mA,⟨od,es,ep,e2,c⟩,r⟩:=x
  exact⟨ho _ d,z,ne,k _ _ (.inl rfl) e,mA,⟨od,es,ep,k _ _ (.inr d) e2,c⟩,r⟩
 | own y=>obtain⟨ob,e⟩:=x;exact⟨ob,k _ _ (.inl rfl) e⟩
 | xd fs=>obtain⟨mA,⟨od,es,ep,e,c⟩,r⟩:=x;exact⟨mA,⟨od,es,ep,k _ _ (.inl rfl) e,c⟩,r⟩
 | rng lo hi=>obtain⟨t,u,v,e⟩:=x;exact⟨t,u,v,k _ _ (.inl rfl) e⟩
 | frz ob u ih=>obtain⟨e,q⟩:=x;exact⟨k _ _ (.inl rfl) e,ih q⟩
 | tbl q c =>
  cases c with
  | true =>
   obtain⟨_,o,vs,t,e,g,r⟩:=(show h.CodeRec (.ref a) q from x)
   cases e
   exact⟨a,o,vs,t,rfl,k _ _ (.inl rfl) g,r⟩
  | false =>
   obtain⟨ts,e,t,r⟩:=x
   refine⟨ts,k _ _ (.inl rfl) e,t,fun pos cv hcv=>?_⟩
   obtain⟨c,e1,e2⟩:=r pos cv hcv
   exact⟨c,e1,hc _ _ _ e2⟩
 | met f y =>
  have e:h.get? a=some (PySem.W.methodObj (.ref f) (.ref y)):=x
  show h'.get? a=some (PySem.W.methodObj (.ref f) (.ref y))
  exact k a _ (.inl rfl) e
 | ext φ=>obtain⟨p,⟨o,e⟩,st⟩:=x;exact⟨st _ _ p fun o q=>k _ _ (.inl rfl) q,⟨o,k _ _ (.inl rfl) e⟩,st⟩
theorem mh.lt(x:mh P w H h)(e:H a=some o):a<h.objs.size:=(x a o e).lt
theorem mh.fresh(x:mh P w H h)(e:h.objs.size<=a):H a=none:=by
 cases q:H a with
 | none=>rfl
 | some u=>exact absurd (Nat.lt_of_lt_of_le (x.lt q) e) (Nat.lt_irrefl _)
theorem mh.kept(x:mh P w H h)(k:∀b u,h.get? b=some u->h'.get? b=some u):mh P w H h':=fun a o e =>
 (x a o e).stay (fun b u _ q=>k b u q) (fun _ q=>q) (fun _ _ q=>q) fun _ _ _ q=>q
theorem mh.laid(x:mh P w H h)(k:∀b u,h.get? b=some u->h'.get? b=some u)(hp:h.objs.size<=a)(new:jJ P w (upd H a o) h' a o):mh P w (upd H a o) h':=fun b u e=>by
 have hn:=x.fresh hp
 by_cases hb:b=a
 ·subst hb;rw[ae] at e;cases e;exact new
 ·rw[ai hb] at e
  exact(x b u e).stay (fun c v _ q=>k c v q) (fun c q=>by rw[ai (j3 q hn)];exact q) (fun c xs q=>by rw[ai (j3 q hn)];exact q) fun c _ _ q=>by rw[ai (j3 q hn)];exact q
end
def Rd(H:Hp)(a:Addr)(u:HO):Prop:=H a=some u\/∃o,H a=some (.frz o u)
theorem Rd.of{H:Hp}{a:Addr}{u:HO}(h:H a=some u):Rd H a u:=.inl h
theorem Rd.ok{P:Program}{w:World}{H:Hp}{h:Heap}{a:Addr}{u:HO}(r:Rd H a u)(x:mh P w H h):jJ P w H h a u:=by
 rcases r with r | ⟨o,r⟩
 ·exact x a u r
 ·obtain⟨_,q⟩:=x a _ r
  exact q
def Ar:Option HO->Prop
 | some (.lst _)=>True
 | some (.dK _)=>True
 | some (.dT _)=>True
 | some (.set _ _)=>True
 | some (.ins _ _ _)=>True
 | some (.ext _)=>True
 | some (.frz _ (.own _))=>True
 | _=>False
section
variable{P:Program}{w:World}{H:Hp}{h h':Heap}{x e:Addr}{o':HO}
theorem mh.write(ok:mh P w H h)(mu:Ar (H x))(he:e=x\/H e=some (.own x))(k:∀b u,b≠e->h.get? b=some u->h'.get? b=some u)(heo:∃u,h'.get? e=some u)
  (new:jJ P w (upd H x o') h' x o'):mh P w (upd H x o') h':=fun b u q=>by
 have nown:∀c y,H c=some (.own y)->c≠x:=fun c y r z=>by subst z;rw[r] at mu;exact mu
 have ntup:∀c xs,H c=some (.tup xs)->c≠x:=fun c xs r z=>by subst z;rw[r] at mu;exact mu
 by_cases hb:b=x
 ·subst hb;rw[ae] at q;cases q;exact new
 ·rw[ai hb] at q
  by_cases hbe:b=e
  ·have q':H b=some (.own x):=by
    rcases he with z | z
    ·exact absurd (hbe.trans z) hb
    ·rw[hbe];exact z
   rw[q] at q';cases q'
   obtain⟨v,hv⟩:=heo
   exact⟨v,by rw[hbe];exact hv⟩
  ·refine(ok b u q).stay (fun c v hc r=>k c v ?_ r) (fun c r=>by rw[ai (nown c b r)];exact r) (fun c xs r=>by rw[ai (ntup c xs r)];exact r) fun c q d r=>by rw[ai fun z=>by subst z;rw[r] at mu;exact mu];exact r
   rcases hc with rfl | hc
   ·exact hbe
   ·rintro rfl
    rcases he with z | z
    ·exact nown c b hc z
    ·rw[hc] at z;cases z;exact hb rfl
end
structure Un (fs ex:List Addr) (H H':Hp) (h h':Heap):Prop where
 keep:∀b o,h.get? b=some o->H b=none->b∉fs->b∉ex->h'.get? b=some o
 slot:∀b o,h.get? b=some o->H b=none->b∈fs->b∉ex->∃sl,h'.get? b=some {o with slots:=sl}
 free:∀b o,h.get? b=some o->H b=none->b∉ex->H' b=none
 there:∀b o,h.get? b=some o->b∉ex->∃o',h'.get? b=some o'
 tups:∀b xs,H b=some (.tup xs)->H' b=some (.tup xs)
 frzs:∀b o u,(∀y,u≠.own y)->H b=some (.frz o u)->H' b=some (.frz o u)
 tbls:∀b q c,H b=some (.tbl q c)->H' b=some (.tbl q c)
section
variable{fs fs' ex ex':List Addr}{H H1 H2:Hp}{h h1 h2 h':Heap}{a x e:Addr}{o:HO}
theorem Un.any(u:Un fs ex H H1 h h1){b:Addr}{ob:Obj}(q:h.get? b=some ob)(n:H b=none)(hx:b∉ex):∃sl,h1.get? b=some {ob with slots:=sl}:=by
 by_cases hb:b∈fs
 ·exact u.slot b ob q n hb hx
 ·exact⟨ob.slots,u.keep b ob q n hb hx⟩
theorem Un.trans(a:Un fs ex H H1 h h1)(b:Un fs ex H1 H2 h1 h2):Un fs ex H H2 h h2 where
 keep:=fun c ob q n hc hx=>b.keep c ob (a.keep c ob q n hc hx) (a.free c ob q n hx) hc hx
 slot:=fun c ob q n hc hx=>by
  obtain⟨sl,e1⟩:=a.slot c ob q n hc hx
  obtain⟨sl',e2⟩:=b.slot c _ e1 (a.free c ob q n hx) hc hx
  exact⟨sl',e2⟩
 free:=fun c ob q n hx=>by
  obtain⟨o',e1⟩:=a.there c ob q hx
  exact b.free c o' e1 (a.free c ob q n hx) hx
 there:=fun c ob q hx=>by
  obtain⟨o',e1⟩:=a.there c ob q hx
  exact b.there c o' e1 hx
 tups:=fun c xs q=>b.tups c xs (a.tups c xs q)
 frzs:=fun c ob xs ny q=>b.frzs c ob xs ny (a.frzs c ob xs ny q)
 tbls:=fun c ps d q=>b.tbls c ps d (a.tbls c ps d q)
theorem Un.kept(k:∀b u,h.get? b=some u->h'.get? b=some u):Un fs ex H H h h':=
 ⟨fun b ob q _ _ _=>k b ob q,fun b ob q _ _ _=>⟨ob.slots,k b ob q⟩,fun _ _ _ n _=>n,fun b ob q _=>⟨ob,k b ob q⟩,fun _ _ q=>q,fun _ _ _ _ q=>q,fun _ _ _ q=>q⟩
theorem Un.refl:Un fs ex H H h h:=Un.kept fun _ _ q=>q
theorem Un.laid(k:∀b u,h.get? b=some u->h'.get? b=some u)(hp:h.objs.size<=a)(hn:H a=none):Un fs ex H (upd H a o) h h' where
 keep:=fun b u q _ _ _=>k b u q
 slot:=fun b u q _ _ _=>⟨u.slots,k b u q⟩
 free:=fun b u q n _=>by rw[ai (Nat.ne_of_lt (Nat.lt_of_lt_of_le (Heap.lt_size q) hp))];exact n
 there:=fun b u q _=>⟨u,k b u q⟩
 tups:=fun b xs q=>by rw[ai (j3 q hn)];exact q
 frzs:=fun b u xs _ q=>by rw[ai (j3 q hn)];exact q
 tbls:=fun b ps _ q=>by rw[ai (j3 q hn)];exact q
theorem Un.write(mu:Ar (H x))(he:e=x\/H e=some (.own x))(k:∀b u,b≠e->h.get? b=some u->h'.get? b=some u)(heo:∃u,h'.get? e=some u):Un fs ex H (upd H x o) h h':=by
 have hx:∀b,H b=none->b≠x:=fun b n z=>by subst z;rw[n] at mu;exact mu
 have hb:∀b,H b=none->b≠e:=fun b n z=>by
  subst z
  rcases he with r | r
  ·exact hx b n r
  ·rw[n] at r;cases r
 have hm:∀b u,H b=some u->¬ Ar (some u)->b≠x:=fun b u q nm z=>by subst z;rw[q] at mu;exact nm mu
 refine⟨fun b u q n _ _=>k b u (hb b n) q,fun b u q n _ _=>⟨u.slots,k b u (hb b n) q⟩,fun b u q n _=>by rw[ai (hx b n)];exact n,fun b u q _=>?_,
  fun b xs q=>by rw[ai (hm b _ q fun z=>z)];exact q,fun b u xs ny q=>by rw[ai (hm b _ q (by intro z;cases xs<;>first | exact z | exact ny _ rfl))];exact q,fun b ps _ q=>by rw[ai (hm b _ q fun z=>z)];exact q⟩
 by_cases hbe:b=e
 ·subst hbe;exact heo
 ·exact⟨u,k b u hbe q⟩
theorem Un.mono(u:Un fs ex H H1 h h1)(hs:∀b∈fs,b∈fs')(hx:∀b∈ex,b∈ex'):Un fs' ex' H H1 h h1:=
 ⟨fun b ob q n hb he=>u.keep b ob q n (fun z=>hb (hs b z)) fun z=>he (hx b z),fun _ _ q n _ he=>u.any q n fun z=>he (hx _ z),fun b ob q n he=>u.free b ob q n fun z=>he (hx b z),fun b ob q he=>u.there b ob q fun z=>he (hx b z),u.tups,u.frzs,u.tbls⟩
end
def A7(h:Heap)(H:Hp):List Addr:=(List.range h.objs.size).filter fun a=>(H a).isSome
def mj(h:Heap)(H:Hp):Heap:=PySem.W.hideAll h (A7 h H)
theorem pR(h:Heap)(H:Hp):(mj h H).objs.size=h.objs.size:=PySem.W.hideAll_size _ _
theorem rK{h:Heap}{H:Hp}{b:Addr}{o:Obj}(e:h.get? b=some o)(n:H b=none):(mj h H).get? b=some o:=
 PySem.W.hideAll_get _ e fun hm=>by
  have q:(H b).isSome=true:=(List.mem_filter.mp hm).2
  rw[n] at q;simp at q
theorem tX{h:Heap}{H:Hp}{b:Addr}{o:Obj}(e:(mj h H).get? b=some o):h.get? b=some o/\H b=none:=by
 have e':h.get? b=some o:=PySem.W.of_hideAll (A7 h H) e
 refine⟨e',?_⟩
 cases q:H b with
 | none=>rfl
 | some x =>
  have hm:b∈A7 h H:=List.mem_filter.mpr ⟨List.mem_range.mpr (Heap.lt_size e'),by simp[q]⟩
  have z:(mj h H).get? b=none:=PySem.W.hideAll_none (A7 h H) hm
  rw[z] at e;cases e
def xu(g h:Heap)(L:Addr):List (Addr×Obj):=(List.range h.objs.size).filterMap fun a=>if a=L\/(g.get? a).isSome=true then none else (h.get? a).map fun o=>(a,o)
def rest(g h:Heap)(L d:Addr):List (Addr×Obj):=(xu g h L).filter fun p=>decide (p.1≠d)
end L2
namespace L2
open PySem PySem.Spec PyProof.Rows
structure Mod (K:PySem.W.Frag) (mg:Str->Option Value) (base:Heap):Prop where
 kin:K.In base
 glob:base.Ns mainGlobals mg
 blt:∃mb,base.Ns builtinsNs mb/\∀x:Str,x ≠ "__name__" -> mb x=bootBuiltins x
 nolimit:base.NoLimit
structure Cx where
 prog:Program
 w:World
 K:PySem.W.Frag
 mg:Str->Option Value
 base:Heap
 A:Around
 N:List Str
 s₀:Shared
 H₀:Hp
 env:Env
 outer:List Env
 stack:List Env
 ex:List Addr
 fn:Str->Bool
 calm:Bool
 pn:List (Addr×Obj)
 xe:Value->Shared->Prop
def tH(l:List Env):List Addr:=l.filterMap (·.frame)
abbrev Cx.fs(X:Cx):List Addr:=tH X.outer
def qB(sc:Scope)(x:Str):Prop:=sc.names.lookup x=some .local\/sc.names.lookup x=some .cell\/sc.names.lookup x=some .free
def Loc(sc:Scope)(x:Str):Prop:=sc.names.lookup x=some .local\/sc.names.lookup x=some .cell
def Look(env:Env)(h:Heap)(m:Str->Option Value)(x:Str)(u:Value):Prop:=
 (env.kindOf x=some .local/\m x=some u)\/((env.kindOf x=some .cell\/env.kindOf x=some .free)/\∃c,env.cells.lookup x=some c/\h.IsCell c (some u))
structure Cx.Ok (X:Cx):Prop where
 mod:Mod X.K X.mg X.base
 kind:X.env.scope.kind=.function
 glob:X.env.globals=mainGlobals
 blt:X.env.builtins=builtinsNs
 above:X.s₀.heap.objs.size<=X.env.locals
 inj:∀x y c,X.env.cells.lookup x=some c->X.env.cells.lookup y=some c->x=y
 has:∀x,(X.env.kindOf x=some .cell\/X.env.kindOf x=some .free)->∃c,X.env.cells.lookup x=some c
 cab:∀x c,X.fn x=true->X.env.cells.lookup x=some c->X.s₀.heap.objs.size<=c
 hd:X.calm=true->X.A.handled=none
 frames:X.A.frames=some X.stack
 stk:X.stack=X.outer\/(X.stack=X.env::X.outer/\X.env.frame=some X.env.locals)
 exf:∀b∈X.ex,b≠X.env.locals/\∀x c,X.env.cells.lookup x=some c->c≠b
 bs:∀b o,X.base.get? b=some o->X.s₀.heap.get? b=some o/\X.H₀ b=none
 bsz:X.base.objs.size<=X.s₀.heap.objs.size
 noex:∀b o,X.base.get? b=some o->b∉X.ex
 exfs:∀b∈X.ex,b∉X.fs
 funs:X.s₀.heap.FunFrames X.base X.outer
 frf:∀b∈X.fs,X.H₀ b=none
structure Inv (X:Cx) (pins:List (Addr×Obj)) (σ:List (Option V)) (H:Hp) (s:Shared):Prop where
 ok:X.Ok
 os:s.os=X.s₀.os
 bare:AllBare s.gens
 base:Un X.fs X.ex X.H₀ H X.s₀.heap s.heap
 loc:∃m,s.heap.Ns X.env.locals m/\∀(i:Nat) (x:Str) (v:V),X.N[i]?=some x->σ[i]?=some (some v)->qB X.env.scope x->∃u,RelV v u/\Look X.env s.heap m x u
 cell:∀x c,X.env.cells.lookup x=some c->∃v,s.heap.IsCell c v
 free:H X.env.locals=none
 freeC:∀x c,X.env.cells.lookup x=some c->H c=none
 pin:∀p∈X.pn++pins,s.heap.get? p.1=some p.2/\H p.1=none/\p.1≠X.env.locals/\p.1∉X.fs/\∀v,p.2.data≠.cell v
 hok:mh X.prog X.w H s.heap
 len:σ.length=X.N.length
section
variable{X:Cx}{pins:List (Addr×Obj)}{σ:List (Option V)}{H H':Hp}{s:Shared}{h':Heap}
theorem Cx.Ok.nofr(ok:X.Ok){b:Addr}{o:Obj}(e:X.base.get? b=some o):b∉X.fs:=fun hb=>by
 have:=(ok.funs.mem hb).1
 rw[e] at this;cases this
theorem Inv.bs(I:Inv X pins σ H s):∀b o,X.base.get? b=some o->s.heap.get? b=some o/\H b=none:=fun b o e =>
 ⟨I.base.keep b o (I.ok.bs b o e).1 (I.ok.bs b o e).2 (I.ok.nofr e) (I.ok.noex b o e),I.base.free b o (I.ok.bs b o e).1 (I.ok.bs b o e).2 (I.ok.noex b o e)⟩
theorem Inv.bk(I:Inv X pins σ H s):∀b o,X.base.get? b=some o->s.heap.get? b=some o:=fun b o e=>(I.bs b o e).1
theorem Inv.mod(I:Inv X pins σ H s):Mod X.K X.mg X.base:=I.ok.mod
theorem Inv.kIn(I:Inv X pins σ H s):X.K.In s.heap:=I.ok.mod.kin.keeps I.bk
theorem Inv.nolimit(I:Inv X pins σ H s):s.heap.NoLimit:=I.ok.mod.nolimit.keeps I.bk
theorem Inv.fr(I:Inv X pins σ H s):∃m,Fr X.base X.env.locals s.heap m:=
 let ⟨m,hn,_⟩:=I.loc
 ⟨m,hn,I.bk,Nat.le_trans I.ok.bsz I.ok.above⟩
theorem Inv.lt(I:Inv X pins σ H s):X.env.locals<s.heap.objs.size:=let ⟨_,hn,_⟩:=I.loc;hn.lt
theorem Inv.sz(I:Inv X pins σ H s):X.s₀.heap.objs.size<=s.heap.objs.size:=Nat.le_trans I.ok.above (Nat.le_of_lt I.lt)
theorem Inv.nofs(I:Inv X pins σ H s){a:Addr}(h:s.heap.objs.size<=a):a∉X.fs:=fun hb=>by
 obtain⟨_,o,ho,_⟩:=I.ok.funs.mem hb
 exact absurd (Nat.lt_of_lt_of_le (Heap.lt_size ho) (Nat.le_trans I.sz h)) (Nat.lt_irrefl _)
theorem Inv.cne(I:Inv X pins σ H s):∀x c,X.env.cells.lookup x=some c->c≠X.env.locals:=fun x c e z=>by
 obtain⟨v,o,ho,hd⟩:=I.cell x c e
 obtain⟨m,⟨o',es,ep,ho',hd',_⟩,_⟩:=I.loc
 rw[z,ho'] at ho;cases ho;rw[hd'] at hd;cases hd
theorem Inv.funs(I:Inv X pins σ H s):s.heap.FunFrames X.base X.outer:=by
 have all:∀(l:List Env),(∀b∈tH l,b∈X.fs)->X.s₀.heap.FunFrames X.base l->s.heap.FunFrames X.base l:=by
  intro l
  induction l with
  | nil=>intro _ _;trivial
  | cons env r ih =>
   intro hs hl
   obtain⟨hk,⟨L,o,hf,hn,ho,hd⟩,hr⟩:=hl
   have hL:L∈X.fs:=hs L (by unfold tH;rw[List.filterMap_cons,hf];exact List.mem_cons_self)
   obtain⟨sl,e⟩:=I.base.slot L o ho (I.ok.frf L hL) hL fun z=>I.ok.exfs L z hL
   exact⟨hk,⟨L,_,hf,hn,e,hd⟩,ih (fun b hb=>hs b (by unfold tH;rw[List.filterMap_cons,hf];exact List.mem_cons_of_mem _ hb)) hr⟩
 exact all X.outer (fun _ hb=>hb) I.ok.funs
theorem Inv.stack(I:Inv X pins σ H s):s.heap.FunFrames X.base X.stack:=by
 rcases I.ok.stk with e | ⟨e,hf⟩
 ·rw[e];exact I.funs
 ·rw[e]
  obtain⟨m,hn,_⟩:=I.loc
  refine .cons (by rw[I.ok.kind];decide) hf hn ?_ I.funs
  exact Heap.get?_none_of_le (Nat.le_trans I.ok.bsz I.ok.above)
theorem Inv.stkSub(I:Inv X pins σ H s):∀b∈tH X.stack,b∈X.env.locals::X.fs:=fun b hb=>by
 rcases I.ok.stk with e | ⟨e,hf⟩
 ·rw[e] at hb;exact List.mem_cons_of_mem _ hb
 ·rw[e] at hb
  unfold tH at hb
  rw[List.filterMap_cons,hf] at hb
  exact hb
theorem Inv.stkFree(I:Inv X pins σ H s):∀b∈tH X.stack,H b=none:=fun b hb=>by
 rcases List.mem_cons.mp (I.stkSub b hb) with e | hb
 ·rw[e];exact I.free
 ·obtain⟨_,o,ho,_⟩:=I.ok.funs.mem hb
  exact I.base.free b o ho (I.ok.frf b hb) fun z=>I.ok.exfs b z hb
theorem Inv.step{g':Array GenState}{t':Nat}{d':Drawn}{ch:List Addr}(I:Inv X pins σ H s)
  (hch:∀b∈ch,(b∈X.ex\/X.s₀.heap.objs.size<=b)/\b≠X.env.locals/\(∀x c,X.env.cells.lookup x=some c->c≠b)/\∀p∈X.pn++pins,p.1≠b)
  (keep:∀b o,b≠X.env.locals->b∉X.fs->b∉ch->s.heap.get? b=some o->H b=none->h'.get? b=some o)
  (slot:∀b o,b≠X.env.locals->b∈X.fs->b∉ch->s.heap.get? b=some o->H b=none->∃sl,h'.get? b=some {o with slots:=sl}) (free:∀b o,b∉ch->s.heap.get? b=some o->H b=none->H' b=none)
  (there:∀b o,b∉ch->s.heap.get? b=some o->∃o',h'.get? b=some o')
  (tups:∀b xs,H b=some (.tup xs)->H' b=some (.tup xs)) (frzs:∀b o u,(∀y,u≠.own y)->H b=some (.frz o u)->H' b=some (.frz o u)) (tbls:∀b q c,H b=some (.tbl q c)->H' b=some (.tbl q c))
  (ns:∀m,s.heap.Ns X.env.locals m->h'.Ns X.env.locals m) (hok:mh X.prog X.w H' h') (hg:AllBare g') :
  Inv X pins σ H' {s with heap:=h',gens:=g',drawn:=d',toks:=t' }:=by
 have neL:∀b o,X.s₀.heap.get? b=some o->b≠X.env.locals:=fun b o e=>Nat.ne_of_lt (Nat.lt_of_lt_of_le (Heap.lt_size e) I.ok.above)
 have neC:∀b o,X.s₀.heap.get? b=some o->b∉X.ex->b∉ch:=fun b o e hx hb=>by
  rcases(hch b hb).1 with z | z
  ·exact hx z
  ·exact absurd (Nat.lt_of_lt_of_le (Heap.lt_size e) z) (Nat.lt_irrefl _)
 have cellK:∀x c,X.env.cells.lookup x=some c->∀v,s.heap.IsCell c v->h'.IsCell c v:=fun x c e v ⟨o,ho,hd⟩=>by
  have nch:c∉ch:=fun z=>(hch c z).2.2.1 x c e rfl
  by_cases hc:c∈X.fs
  ·obtain⟨sl,q⟩:=slot c o (I.cne x c e) hc nch ho (I.freeC x c e)
   exact⟨_,q,hd⟩
  ·exact⟨o,keep c o (I.cne x c e) hc nch ho (I.freeC x c e),hd⟩
 refine⟨I.ok,I.os,hg,⟨fun b o e n hb hx=>?_,fun b o e n hb hx=>?_,fun b o e n hx=>?_,fun b o e hx=>?_,fun b xs e=>tups b xs (I.base.tups b xs e),fun b o xs ny e=>frzs b o xs ny (I.base.frzs b o xs ny e),fun b ps d e=>?_⟩,?_,fun x c e=>?_,?_,fun x c e=>?_,fun p hp=>?_,hok,I.len⟩
 ·exact keep b o (neL b o e) hb (neC b o e hx) (I.base.keep b o e n hb hx) (I.base.free b o e n hx)
 ·obtain⟨sl,e1⟩:=I.base.slot b o e n hb hx
  obtain⟨sl',e2⟩:=slot b _ (neL b o e) hb (neC b o e hx) e1 (I.base.free b o e n hx)
  exact⟨sl',e2⟩
 ·obtain⟨o',e1⟩:=I.base.there b o e hx
  exact free b o' (neC b o e hx) e1 (I.base.free b o e n hx)
 ·obtain⟨o',e1⟩:=I.base.there b o e hx
  exact there b o' (neC b o e hx) e1
 ·exact tbls b ps d (I.base.tbls b ps d e)
 ·obtain⟨m,hn,hl⟩:=I.loc
  refine⟨m,ns m hn,fun i x v e1 e2 e3=>?_⟩
  obtain⟨u,r,l⟩:=hl i x v e1 e2 e3
  refine⟨u,r,?_⟩
  rcases l with l | ⟨k,c,e,z⟩
  ·exact .inl l
  ·exact .inr ⟨k,c,e,cellK x c e _ z⟩
 ·obtain⟨v,z⟩:=I.cell x c e
  exact⟨v,cellK x c e v z⟩
 ·obtain⟨m,⟨o,_,_,ho,_⟩,_⟩:=I.loc
  exact free _ o (fun z=>(hch _ z).2.1 rfl) ho I.free
 ·obtain⟨v,o,ho,hd⟩:=I.cell x c e
  exact free c o (fun z=>(hch c z).2.2.1 x c e rfl) ho (I.freeC x c e)
 ·obtain⟨e,n,ne,nf,d⟩:=I.pin p hp
  have nch:p.1∉ch:=fun z=>(hch p.1 z).2.2.2 p hp rfl
  exact⟨keep p.1 p.2 ne nf nch e n,free p.1 p.2 nch e n,ne,nf,d⟩
theorem Inv.un{t':Nat}(I:Inv X pins σ H s)(u:Un X.fs [] H H' s.heap h')(hok:mh X.prog X.w H' h'):Inv X pins σ H' {s with heap:=h',toks:=t' }:=by
 obtain⟨m,⟨o,es,ep,ho,r⟩,_⟩:=id I.loc
 obtain⟨sl,hL⟩:=u.any ho I.free (by simp)
 exact I.step (g':=s.gens) (d':=s.drawn) (ch:=[]) (fun _ z=>nomatch z) (fun b o _ hb _ e n=>u.keep b o e n hb (by simp)) (fun b o _ hb _ e n=>u.slot b o e n hb (by simp)) (fun b o _ e n=>u.free b o e n (by simp)) (fun b o _ e=>u.there b o e (by simp)) u.tups u.frzs u.tbls (fun m' hm=>by
  obtain⟨o',es',ep',ho',r'⟩:=hm
  rw[ho] at ho';cases ho'
  exact⟨_,es',ep',hL,r'⟩) hok I.bare
theorem Inv.call{g':Array GenState}{t':Nat}{d':Drawn}{ch:List Addr}(I:Inv X pins σ H s)(u:Un (tH X.stack) ch H H' s.heap h')(hok:mh X.prog X.w H' h')(hg:AllBare g')
  (hch:∀b∈ch,(b∈X.ex\/X.s₀.heap.objs.size<=b)/\b≠X.env.locals/\(∀x c,X.env.cells.lookup x=some c->c≠b)/\∀p∈X.pn++pins,p.1≠b) :
  Inv X pins σ H' {s with heap:=h',gens:=g',drawn:=d',toks:=t' }:=by
 obtain⟨m,⟨o,es,ep,ho,r⟩,_⟩:=id I.loc
 obtain⟨sl,hL⟩:=u.any ho I.free fun z=>(hch _ z).2.1 rfl
 exact I.step (ch:=ch) hch (fun b o hL hb hc e n=>u.keep b o e n (fun z=>(List.mem_cons.mp (I.stkSub b z)).elim hL hb) hc) (fun b o _ _ hc e n=>u.any e n hc) (fun b o hc e n=>u.free b o e n hc) (fun b o hc e=>u.there b o e hc) u.tups u.frzs u.tbls (fun m' hm=>by
  obtain⟨o',es',ep',ho',r'⟩:=hm
  rw[ho] at ho';cases ho'
  exact⟨_,es',ep',hL,r'⟩) hok hg
theorem Inv.turned{t':Nat}{it:Addr}(I:Inv X pins σ H s)(k:∀b o,b≠it->s.heap.get? b=some o->h'.get? b=some o)(hn:H it=none)(hL:it≠X.env.locals)
  (h1:it∈X.ex\/X.s₀.heap.objs.size<=it) (h2:∀x c,X.env.cells.lookup x=some c->c≠it) (h3:∀p∈X.pn++pins,p.1≠it):Inv X pins σ H {s with heap:=h',toks:=t' }:=by
 have nit:∀b u,H b=some u->b≠it:=fun b u e z=>by rw[z,hn] at e;cases e
 refine I.step (g':=s.gens) (d':=s.drawn) (ch:=[it]) (fun b hb=>?_) (fun b o _ _ hc e _=>k b o (fun z=>hc (by simp[z])) e) (fun b o _ _ hc e _=>⟨o.slots,k b o (fun z=>hc (by simp[z])) e⟩) (fun _ _ _ _ n=>n)
  (fun b o hc e=>⟨o,k b o (fun z=>hc (by simp[z])) e⟩) (fun _ _ e=>e) (fun _ _ _ _ e=>e) (fun _ _ _ e=>e) (fun m hm=>?_) (fun b u e=>?_) I.bare
 ·have e:b=it:=by simpa using hb
  subst e
  exact⟨h1,hL,h2,h3⟩
 ·obtain⟨o,es,ep,ho,r⟩:=hm
  exact⟨o,es,ep,k _ o (Ne.symm hL) ho,r⟩
 ·refine(I.hok b u e).stay (fun c v hc q=>k c v ?_ q) (fun _ q=>q) (fun _ _ q=>q) fun _ _ _ q=>q
  rcases hc with z | z
  ·rw[z];exact nit b u e
  ·exact nit c _ z
theorem Inv.tok(I:Inv X pins σ H s)(t:Nat):Inv X pins σ H {s with toks:=t}:=I.un (h':=s.heap) (t':=t) Un.refl I.hok
theorem Inv.kept{t':Nat}(I:Inv X pins σ H s)(k:∀b u,s.heap.get? b=some u->h'.get? b=some u):Inv X pins σ H {s with heap:=h',toks:=t' }:=I.un (Un.kept k) (I.hok.kept k)
theorem Inv.laid{a:Addr}{o:HO}{t':Nat}(I:Inv X pins σ H s)(k:∀b u,s.heap.get? b=some u->h'.get? b=some u)(hp:s.heap.objs.size<=a)(new:jJ X.prog X.w (upd H a o) h' a o) :
  Inv X pins σ (upd H a o) {s with heap:=h',toks:=t' }:=I.un (Un.laid k hp (I.hok.fresh hp)) (I.hok.laid k hp new)
theorem Inv.write{x e:Addr}{o:HO}{t':Nat}(I:Inv X pins σ H s)(mu:Ar (H x))(he:e=x\/H e=some (.own x))(k:∀b u,b≠e->s.heap.get? b=some u->h'.get? b=some u)(heo:∃u,h'.get? e=some u)
  (new:jJ X.prog X.w (upd H x o) h' x o):Inv X pins σ (upd H x o) {s with heap:=h',toks:=t' }:=I.un (Un.write mu he k heo) (I.hok.write mu he k heo new)
theorem Inv.pins_of{pins':List (Addr×Obj)}(I:Inv X pins σ H s)(h:∀p∈pins',s.heap.get? p.1=some p.2/\H p.1=none/\p.1≠X.env.locals/\p.1∉X.fs/\∀v,p.2.data≠.cell v):Inv X pins' σ H s:=
 ⟨I.ok,I.os,I.bare,I.base,I.loc,I.cell,I.free,I.freeC,fun p hp=>(List.mem_append.mp hp).elim (fun z=>I.pin p (List.mem_append_left _ z)) (h p),I.hok,I.len⟩
theorem rS{N:List Str}(hN:N.Nodup){i j:Nat}{x:Str}(a:N[i]?=some x)(b:N[j]?=some x):i=j:=by
 obtain⟨h1,e1⟩:=List.getElem?_eq_some_iff.mp a
 obtain⟨h2,e2⟩:=List.getElem?_eq_some_iff.mp b
 exact(List.getElem_inj hN).mp (e1.trans e2.symm)
theorem uo{M:Model}{A:Around}{E:Value->Shared->Prop}{i:Nat}{x:Str}{v:V}{u:Value}{Q:Unit->Shared->Prop}(I:Inv X pins σ H s)(hN:X.N.Nodup)(hi:X.N[i]?=some x)(hx:Loc X.env.scope x)(r:RelV v u)
  (h:∀s',Inv X pins (σ.set i (some v)) H s'->(∃a,Heap.SameBut a s.heap s'.heap/\(a=X.env.locals\/X.env.cells.lookup x=some a))->Q () s') (hf:X.fn x=true\/X.env.scope.names.lookup x=some .local:=by first | exact .inl rfl | exact .inr rfl | assumption):wpAny M A (storeName X.env x u) Q E s:=by
 obtain⟨m,hn,hl⟩:=id I.loc
 have hcls:(X.env.scope.kind==.class||(X.env.scope.kind==.module&&X.env.locals != X.env.globals))=false:=by rw[I.ok.kind];rfl
 have hiσ:i<σ.length:=by rw[I.len];exact(List.getElem?_eq_some_iff.mp hi).1
 have cne:=I.cne
 have tracked:∀{a:Addr} {h':Heap},(∃o,s.heap.get? a=some o/\H a=none)->Heap.SameBut a s.heap h'->mh X.prog X.w H h':=fun {a h'} ha hs b ob e=>by
  obtain⟨_,_,hfree⟩:=ha
  refine(I.hok b ob e).stay (fun c w' hc q=>(hs.2 c ?_).trans q) (fun _ q=>q) (fun _ _ q=>q) fun _ _ _ q=>q
  rintro rfl
  rcases hc with rfl | hc
  ·rw[hfree] at e;cases e
  ·rw[hfree] at hc;cases hc
 rcases hx with hk | hk
 ·refine wpAny_storeName_local hk hn (fun h' hn' hs=>?_) hcls
  obtain⟨oL,_,_,hoL,_⟩:=id hn
  refine h _ ⟨I.ok,I.os,I.bare,⟨fun b o e n hb hx=>?_,fun b o e n hb hx=>?_,I.base.free,fun b o e hx=>?_,I.base.tups,I.base.frzs,I.base.tbls⟩,⟨_,hn',fun j y v' e1 e2 e3=>?_⟩,fun y c e=>?_,I.free,I.freeC,fun p hp=>?_,tracked ⟨oL,hoL,I.free⟩ hs,by simpa using I.len⟩ ⟨_,hs,.inl rfl⟩
  ·exact(hs.2 b (Nat.ne_of_lt (Nat.lt_of_lt_of_le (Heap.lt_size e) I.ok.above))).trans (I.base.keep b o e n hb hx)
  ·obtain⟨sl,e1⟩:=I.base.slot b o e n hb hx
   exact⟨sl,(hs.2 b (Nat.ne_of_lt (Nat.lt_of_lt_of_le (Heap.lt_size e) I.ok.above))).trans e1⟩
  ·obtain⟨o',e1⟩:=I.base.there b o e hx
   exact⟨o',(hs.2 b (Nat.ne_of_lt (Nat.lt_of_lt_of_le (Heap.lt_size e) I.ok.above))).trans e1⟩
  ·by_cases hj:j=i
   ·subst hj
    rw[hi] at e1;cases e1
    rw[List.getElem?_set_self hiσ] at e2
    cases e2
    exact⟨u,r,.inl ⟨hk,by simp⟩⟩
   ·rw[List.getElem?_set_ne (Ne.symm hj)] at e2
    obtain⟨u',r',q⟩:=hl j y v' e1 e2 e3
    refine⟨u',r',?_⟩
    rcases q with ⟨k,e⟩ | ⟨k,c,e,z⟩
    ·refine .inl ⟨k,?_⟩
     have:y≠x:=fun e=>hj (rS hN e1 (e ▸ hi))
     simp[this,e]
    ·exact .inr ⟨k,c,e,z.sameBut hs (cne y c e)⟩
  ·obtain⟨w',z⟩:=I.cell y c e
   exact⟨w',z.sameBut hs (cne y c e)⟩
  ·obtain⟨e,n,ne,nf,d⟩:=I.pin p hp
   exact⟨(hs.2 p.1 ne).trans e,n,ne,nf,d⟩
 ·have hfn:X.fn x=true:=by
   rcases hf with z | z
   ·exact z
   ·rw[z] at hk;cases hk
  obtain⟨c,hc⟩:=I.ok.has x (.inl hk)
  obtain⟨w',z⟩:=I.cell x c hc
  refine wpAny_storeName_cell I.ok.kind hk hc z (fun h' hc' hs=>?_)
  obtain⟨oc,hoc,hocd⟩:=id z
  refine h {s with heap:=h' } ⟨I.ok,I.os,I.bare,⟨fun b o e n hb hx=>?_,fun b o e n hb hx=>?_,I.base.free,fun b o e hx=>?_,I.base.tups,I.base.frzs,I.base.tbls⟩,⟨m,hn.sameBut hs (Ne.symm (cne x c hc)),fun j y v' e1 e2 e3=>?_⟩,fun y c' e=>?_,I.free,I.freeC,fun p hp=>?_,tracked ⟨oc,hoc,I.freeC x c hc⟩ hs,by simpa using I.len⟩ ⟨c,hs,.inr hc⟩
  ·exact(hs.2 b (Nat.ne_of_lt (Nat.lt_of_lt_of_le (Heap.lt_size e) (I.ok.cab x c hfn hc)))).trans (I.base.keep b o e n hb hx)
  ·obtain⟨sl,e1⟩:=I.base.slot b o e n hb hx
   exact⟨sl,(hs.2 b (Nat.ne_of_lt (Nat.lt_of_lt_of_le (Heap.lt_size e) (I.ok.cab x c hfn hc)))).trans e1⟩
  ·obtain⟨o',e1⟩:=I.base.there b o e hx
   exact⟨o',(hs.2 b (Nat.ne_of_lt (Nat.lt_of_lt_of_le (Heap.lt_size e) (I.ok.cab x c hfn hc)))).trans e1⟩
  ·by_cases hj:j=i
   ·subst hj
    rw[hi] at e1;cases e1
    rw[List.getElem?_set_self hiσ] at e2
    cases e2
    exact⟨u,r,.inr ⟨.inl hk,c,hc,hc'⟩⟩
   ·rw[List.getElem?_set_ne (Ne.symm hj)] at e2
    obtain⟨u',r',q⟩:=hl j y v' e1 e2 e3
    refine⟨u',r',?_⟩
    rcases q with q | ⟨k,c',e,z'⟩
    ·exact .inl q
    ·refine .inr ⟨k,c',e,z'.sameBut hs ?_⟩
     rintro rfl
     exact hj (rS hN e1 (I.ok.inj _ _ _ e hc ▸ hi))
  ·by_cases hcc:c'=c
   ·subst hcc;exact⟨_,hc'⟩
   ·obtain⟨w2,z2⟩:=I.cell y c' e
    exact⟨w2,z2.sameBut hs hcc⟩
  ·obtain⟨e,n,ne,nf,d⟩:=I.pin p hp
   refine⟨(hs.2 p.1 ?_).trans e,n,ne,nf,d⟩
   intro q
   rw[q,hoc] at e
   have q':oc=p.2:=Option.some.inj e
   exact d w' (by rw[<- q'];exact hocd)
theorem rM{M:Model}{A:Around}{E:Value->Shared->Prop}{i:Nat}{x:Str}{v:V}{u:Value}{Q:Unit->Shared->Prop}(I:Inv X pins σ H s)(hN:X.N.Nodup)(hi:X.N[i]?=some x)(hx:Loc X.env.scope x)(r:RelV v u)
  (h:∀s',Inv X pins (σ.set i (some v)) H s'->Q () s') (hf:X.fn x=true\/X.env.scope.names.lookup x=some .local:=by first | exact .inl rfl | exact .inr rfl | assumption):wpAny M A (storeName X.env x u) Q E s:=
 uo I hN hi hx r (fun s' I' _=>h s' I') hf
theorem Inv.call'{s':Shared}{ch:List Addr}(I:Inv X pins σ H s)(ho:s'.os=s.os)(u:Un (tH X.stack) ch H H' s.heap s'.heap)(hok:mh X.prog X.w H' s'.heap)(hg:AllBare s'.gens)
  (hch:∀b∈ch,(b∈X.ex\/X.s₀.heap.objs.size<=b)/\b≠X.env.locals/\(∀x c,X.env.cells.lookup x=some c->c≠b)/\∀p∈X.pn++pins,p.1≠b):Inv X pins σ H' s':=by
 obtain⟨h',g',d',t',o'⟩:=s'
 have e:o'=s.os:=ho
 subst e
 exact I.call (g':=g') (t':=t') (d':=d') u hok hg hch
end
abbrev XK:=Value->Option Addr->Hp->Prop
abbrev St:=List (Option V)
abbrev VK:=V->Hp->Prop
abbrev TE:=St->Hp->VK->Prop
abbrev TT:=St->Hp->(Bool->Hp->Prop)->Prop
abbrev TA:=St->Hp->(List V->Hp->Prop)->Prop
structure Ends where
 nx:St->Hp->Prop
 rt:VK
 bk:St->Hp->Prop:=fun _ _=>False
 ct:St->Hp->Prop:=fun _ _=>False
abbrev TS:=Ends->St->Hp->Prop
def EP(X:Cx)(pins:List (Addr×Obj))(σ:St)(Q:VK)(u:Value)(s':Shared):Prop:=∃v H',Inv X pins σ H' s'/\RelV v u/\Q v H'
def TP(X:Cx)(pins:List (Addr×Obj))(σ:St)(Q:Bool->Hp->Prop)(b:Bool)(s':Shared):Prop:=∃H',Inv X pins σ H' s'/\Q b H'
def AP(X:Cx)(pins:List (Addr×Obj))(σ:St)(Q:List V->Hp->Prop)(us:List Value)(s':Shared):Prop:=∃vs H',Inv X pins σ H' s'/\jg vs us/\Q vs H'
def SP(X:Cx)(pins:List (Addr×Obj))(D:Ends)(f:Flow)(s':Shared):Prop:=
 match f with
 | .next=>∃ σ' H',Inv X pins σ' H' s'/\D.nx σ' H'
 | .brk=>∃ σ' H',Inv X pins σ' H' s'/\D.bk σ' H'
 | .cont=>∃ σ' H',Inv X pins σ' H' s'/\D.ct σ' H'
 | .ret u=>∃v σ' H',Inv X pins σ' H' s'/\RelV v u/\D.rt v H'
def PE(X:Cx)(e:Expr)(t:TE):Prop:=
 ∀(pins:List (Addr×Obj)) (s:Shared) (σ:St) (H:Hp) (Q:VK),Inv X pins σ H s->t σ H Q->wpAny (model X.prog X.w) X.A (eval e X.env) (EP X pins σ Q) X.xe s
def PT(X:Cx)(e:Expr)(t:TT):Prop:=
 ∀(pins:List (Addr×Obj)) (s:Shared) (σ:St) (H:Hp) (Q:Bool->Hp->Prop),Inv X pins σ H s->t σ H Q->wpAny (model X.prog X.w) X.A (isTrue e X.env (eval e X.env)) (TP X pins σ Q) X.xe s
def PW(X:Cx)(e:Expr)(t:TT):Prop:=
 ∀(whole:Sem Value) (pins:List (Addr×Obj)) (s:Shared) (σ:St) (H:Hp) (Q:Bool->Hp->Prop),Inv X pins σ H s->t σ H Q->wpAny (model X.prog X.w) X.A (isTrue e X.env whole) (TP X pins σ Q) X.xe s
theorem PW.pt{X:Cx}{e:Expr}{t:TT}(h:PW X e t):PT X e t:=h _
def PA(X:Cx)(es:List Expr)(t:TA):Prop:=
 ∀(pos:Pos) (pins:List (Addr×Obj)) (s:Shared) (σ:St) (H:Hp) (Q:List V->Hp->Prop),Inv X pins σ H s->t σ H Q->wpAny (model X.prog X.w) X.A (spliced (backTo pos (starEach es X.env))) (AP X pins σ Q) X.xe s
def PS(X:Cx)(st:Stmt)(t:TS):Prop:=
 ∀(pins:List (Addr×Obj)) (s:Shared) (σ:St) (H:Hp) (D:Ends),Inv X pins σ H s->t D σ H->wpAny (model X.prog X.w) X.A (exec st X.env) (SP X pins D) X.xe s
def PSs(X:Cx)(st:List Stmt)(t:TS):Prop:=
 ∀(pins:List (Addr×Obj)) (s:Shared) (σ:St) (H:Hp) (D:Ends),Inv X pins σ H s->t D σ H->wpAny (model X.prog X.w) X.A (execs st X.env) (SP X pins D) X.xe s
theorem jC{α:Type}{t:Sem α}{Q Q':α->Shared->Prop}{M:Model}{A:Around}{E:Value->Shared->Prop}{s:Shared}(h:wpAny M A t Q E s)(hQ:∀a s,Q a s->Q' a s):wpAny M A t Q' E s:=wpAny_mono h hQ fun _ _ x=>x
end L2
namespace L2
open PySem PySem.Spec PyProof.Rows
section
variable{X:Cx}
theorem bin{a b:Expr}{ta tb:TE}(ha:PE X a ta)(hb:PE X b tb){pins:List (Addr×Obj)}{s:Shared}{σ:St}{H:Hp}{R:V->V->Hp->Prop}(I:Inv X pins σ H s)(h:ta σ H fun x H1=>tb σ H1 fun y H2=>R x y H2)
  {α:Type} {Q:α->Shared->Prop} {f:Value->Value->Sem α}
  (hf:∀v u s2 x y H2,Inv X pins σ H2 s2->RelV x v->RelV y u->R x y H2->wpAny (model X.prog X.w) X.A (f v u) Q X.xe s2) :
  wpAny (model X.prog X.w) X.A (eval a X.env) (fun v s₁=>wpAny (model X.prog X.w) X.A (eval b X.env) (fun u s₂=>wpAny (model X.prog X.w) X.A (f v u) Q X.xe s₂) X.xe s₁) X.xe s:=by
 refine jC (ha pins s σ H _ I h) fun v s1 ⟨x,H1,I1,r1,q1⟩=>?_
 refine jC (hb pins s1 σ H1 _ I1 q1) fun u s2 ⟨y,H2,I2,r2,q2⟩=>?_
 exact hf v u s2 x y H2 I2 r1 r2 q2
def Ao(i:Nat):TE:=fun σ H Q=>∃v,σ[i]?=some (some v)/\Q v H
def tC(v:V):TE:=fun _ H Q=>Q v H
theorem eM{i:Nat}{x:Str}{pos:Pos}(hN:X.N[i]?=some x)(hv:qB X.env.scope x)(hd:(x==("__debug__" : Str))=false:=by decide)(hcd:(x==("__classdict__" : Str))=false:=by decide):PE X (.Name x pos) (Ao i):=by
 intro pins s σ H Q I h
 obtain⟨v,e,h⟩:=h
 obtain⟨m,hn,hl⟩:=I.loc
 obtain⟨u,r,l⟩:=hl i x v hN e hv
 have fin:EP X pins σ Q u s:=⟨v,H,I,r,h⟩
 rcases l with ⟨hk,hm⟩ | ⟨hk,c,hc,hcell⟩
 ·exact wpAny_Name (wpAny_loadName_local I.ok.kind hk hn hm fin) hd
 ·rcases hk with hk | hk
  ·exact wpAny_Name (wpAny_loadName_cell I.ok.kind hk hc hcell fin) hd
  ·exact wpAny_Name (wpAny_loadName_free I.ok.kind hk hc hcell fin hcd) hd
theorem yA{i j pos}:PE X (.Constant (.int i) j pos) (tC (.int i)):=fun _ _ _ H _ I h=>wpAny_Constant_int ⟨.int i,H,I.tok _,⟨_,rfl⟩,h⟩
theorem Aq{b j pos}:PE X (.Constant (.bool b) j pos) (tC (.bl b)):=fun _ _ _ H _ I h=>Constant_bool ⟨.bl b,H,I,rfl,h⟩
theorem yE{j pos}:PE X (.Constant .none j pos) (tC .non):=fun _ _ _ H _ I h=>Constant_none ⟨.non,H,I,rfl,h⟩
theorem zb{x j pos}:PE X (.Constant (.str x) j pos) (tC (.str x)):=fun _ _ _ H _ I h=>Calls.Constant_str ⟨.str x,H,I.tok _,⟨_,rfl⟩,h⟩
def Gl(X:Cx)(x:Str):Prop:=X.env.kindOf x=some .globalImplicit
theorem dt{E:Value->Shared->Prop}{pins:List (Addr×Obj)}{s:Shared}{σ:St}{H:Hp}{x:Str}{u:Value}{pos:Pos}{Q:Value->Shared->Prop}(I:Inv X pins σ H s)(hg:Gl X x)(hm:X.mg x=some u)(h:Q u s)
  (hd:(x==("__debug__" : Str))=false:=by decide):wpAny (model X.prog X.w) X.A (eval (.Name x pos) X.env) Q E s:=
 Calls.Name_function_global I.ok.kind hg (Calls.loadGlobal_global (by rw[I.ok.glob];exact I.mod.glob.keeps I.bk) hm h) hd
theorem bL{E:Value->Shared->Prop}{pins:List (Addr×Obj)}{s:Shared}{σ:St}{H:Hp}{x:Str}{u:Value}{pos:Pos}{Q:Value->Shared->Prop}(I:Inv X pins σ H s)(hg:Gl X x)(hm:X.mg x=none)(hv:bootBuiltins x=some u)(h:Q u s)
  (hn:x ≠ "__name__":=by decide) (hd:(x==("__debug__" : Str))=false:=by decide):wpAny (model X.prog X.w) X.A (eval (.Name x pos) X.env) Q E s:=by
 obtain⟨mb,h1,h2⟩:=I.mod.blt
 exact Calls.Name_function_global I.ok.kind hg (Calls.loadGlobal_builtin (by rw[I.ok.glob];exact I.mod.glob.keeps I.bk) hm (by rw[I.ok.blt];exact h1.keeps I.bk) ((h2 x hn).trans hv) h) hd
theorem gD{x:Str}{v:V}{u:Value}{pos:Pos}(hg:Gl X x)(hm:X.mg x=some u)(r:RelV v u)(hd:(x==("__debug__" : Str))=false:=by decide):PE X (.Name x pos) (tC v):=
 fun _ _ _ H _ I h=>dt I hg hm ⟨v,H,I,r,h⟩ hd
theorem gN{x:Str}{v:V}{u:Value}{pos:Pos}(hg:Gl X x)(hm:X.mg x=none)(hv:bootBuiltins x=some u)(r:RelV v u)(hn:x ≠ "__name__":=by decide)(hd:(x==("__debug__" : Str))=false:=by decide):PE X (.Name x pos) (tC v):=
 fun _ _ _ H _ I h=>bL I hg hm hv ⟨v,H,I,r,h⟩ hn hd
variable{a b:Expr}{ta tb:TE}{pos:Pos}
def PC(X:Cx)(op:CmpOp)(a b:Expr)(t:TE):Prop:=
 ∀(pins:List (Addr×Obj)) (s:Shared) (σ:St) (H:Hp) (Q:VK),Inv X pins σ H s->t σ H Q ->
  wpAny (model X.prog X.w) X.A (eval a X.env) (fun v s₁=>wpAny (model X.prog X.w) X.A (eval b X.env) (fun u s₂=>wpAny (model X.prog X.w) X.A (compareOp op v u) (EP X pins σ Q) X.xe s₂) X.xe s₁) X.xe s
theorem vL(b:Expr){op:CmpOp}(h:op≠.In)(h2:op≠.NotIn):behindInMarks op b=false:=by
 have e1:(op==CmpOp.In)=false:=by cases op<;>first | rfl | exact absurd rfl h
 have e2:(op==CmpOp.NotIn)=false:=by cases op<;>first | rfl | exact absurd rfl h2
 cases b<;>simp[behindInMarks,e1,e2]
def tB(t:TE):TT:=fun σ H Q=>t σ H fun x H1=>∃c,x=.bl c/\Q c H1
theorem im{op:CmpOp}{t:TE}(h:PC X op a b t)(h1:behindInMarks op b=false:=by first | exact vL _ (by decide) (by decide) | rfl):PT X (.Compare a [op] [b] pos) (tB t):=by
 intro pins s σ H Q I hw
 refine wpAny_isTrue_Compare1 (jC (h pins s σ H _ I hw) fun v s1 h1=>jC h1 fun u s2 h2=>jC h2 fun c s3 ⟨x,H1,I1,r1,q1⟩=>?_) h1
 obtain⟨d,rfl,q⟩:=q1
 cases r1
 exact wpAny_truthy_bool ⟨H1,I1,q⟩
variable{tA tB':TT}{rest:List Expr}
def CI(t u:TT):TT:=fun σ H Q=>t σ H fun c H1=>if c=true then Q true H1 else u σ H1 Q
def Bm(t:TT):TT:=fun σ H Q=>t σ H fun c H1=>Q (!c) H1
theorem zh(ha:PT X a tA):PW X (.BoolOp .Or [a] pos) tA:=by
 intro wh pins s σ H Q I h
 refine isTrue_or (jC (ha pins s σ H Q I h) fun c s1 e=>?_)
 cases c with
 | false=>exact isTrue_or_nil e
 | true=>exact e
theorem An(ha:PT X a tA)(hb:PW X (.BoolOp .Or (b::rest) pos) tB'):PW X (.BoolOp .Or (a::b::rest) pos) (CI tA tB'):=by
 intro wh pins s σ H Q I h
 refine isTrue_or (jC (ha pins s σ H _ I h) fun c s1 ⟨H1,I1,q1⟩=>?_)
 cases c with
 | true=>exact⟨H1,I1,q1⟩
 | false=>exact hb wh pins s1 σ H1 Q I1 q1
theorem iS(ha:PT X a tA):PT X (.UnaryOp .Not a pos) (Bm tA):=by
 intro pins s σ H Q I h
 exact isTrue_not (ha pins s σ H (fun c H1=>Q (!c) H1) I h)
def As(ta tb:TE):TE:=fun σ H Q=>ta σ H fun x H1=>∃c,x=.bl c/\if c=true then tb σ H1 Q else Q (.bl false) H1
def Br(ta tb:TE):TE:=fun σ H Q=>ta σ H fun x H1=>∃c,x=.bl c/\if c=true then Q (.bl true) H1 else tb σ H1 Q
def zU(ta:TE):TE:=fun σ H Q=>ta σ H fun x H1=>∃c,x=.bl c/\Q (.bl (!c)) H1
theorem ij{op}{t:TE}(h:PE X a t):PE X (.BoolOp op [a] pos) t:=fun pins s σ H Q I hw=>BoolOp_one (h pins s σ H Q I hw)
theorem iQ(ha:PE X a ta)(hb:PE X (.BoolOp .And (b::rest) pos) tb):PE X (.BoolOp .And (a::b::rest) pos) (As ta tb):=by
 intro pins s σ H Q I h
 refine BoolOp_and (jC (ha pins s σ H _ I h) fun v s1 ⟨x,H1,I1,r1,q1⟩=>?_)
 obtain⟨c,rfl,q1⟩:=q1
 cases r1
 refine wpAny_truthy_bool ?_
 cases c with
 | true=>exact hb pins s1 σ H1 Q I1 q1
 | false=>exact⟨.bl false,H1,I1,rfl,q1⟩
theorem iV(ha:PE X a ta)(hb:PE X (.BoolOp .Or (b::rest) pos) tb):PE X (.BoolOp .Or (a::b::rest) pos) (Br ta tb):=by
 intro pins s σ H Q I h
 refine BoolOp_or (jC (ha pins s σ H _ I h) fun v s1 ⟨x,H1,I1,r1,q1⟩=>?_)
 obtain⟨c,rfl,q1⟩:=q1
 cases r1
 refine wpAny_truthy_bool ?_
 cases c with
 | false=>exact hb pins s1 σ H1 Q I1 q1
 | true=>exact⟨.bl true,H1,I1,rfl,q1⟩
theorem ig(ha:PE X a ta):PE X (.UnaryOp .Not a pos) (zU ta):=by
 intro pins s σ H Q I h
 refine UnaryOp_ (jC (ha pins s σ H _ I h) fun v s1 ⟨x,H1,I1,r1,q1⟩=>?_)
 obtain⟨c,rfl,q1⟩:=q1
 cases r1
 exact not_of (wpAny_truthy_bool ⟨.bl (!c),H1,I1,rfl,q1⟩)
end
end L2
namespace L2
open PySem PySem.Spec PyProof.Rows
def kN(K:PySem.W.Frag)(H:Hp)(a:Addr)(xs:List V):Prop:=
 Rd H a (.lst xs) \/
  ∃(o:Obj) (its:Array Value) (n:Nat),K.lookup a=some o/\o.cls=.type "list" /\ o.dict=none/\o.data=.seq its n/\its.size<=sizeLine/\jg xs its.toList
def kr(K:PySem.W.Frag)(H:Hp)(a:Addr)(xs:List V):Prop:=
 Rd H a (.tup xs) \/
  ∃(o:Obj) (its:Array Value) (n:Nat),K.lookup a=some o/\o.cls=.type "tuple" /\ o.dict=none/\o.data=.seq its n/\its.size<=sizeLine/\jg xs its.toList
def BE:Value->Option V
 | .none=>some .non
 | .bool b=>some (.bl b)
 | .int i _=>some (.int i)
 | .str x _=>some (.str x)
 | .bytes b _=>some (.byt b)
 | .float b _=>some (.flt b)
 | .ref a=>some (.ref a)
 | .type n=>some (.ty n)
 | _=>none
theorem RelV.abs{x:V}{u:Value}(r:RelV x u):BE u=some x:=by
 cases x with
 | non=>cases r;rfl
 | bl _=>cases r;rfl
 | int _=>obtain⟨t,rfl⟩:=r;rfl
 | str _=>obtain⟨t,rfl⟩:=r;rfl
 | byt _=>obtain⟨t,rfl⟩:=r;rfl
 | flt _=>obtain⟨t,rfl⟩:=r;rfl
 | ref _=>cases r;rfl
 | ty _=>cases r;rfl
theorem RelV.inj{x y:V}{u:Value}(r:RelV x u)(q:RelV y u):x=y:=Option.some.inj (r.abs.symm.trans q.abs)
theorem jg.inj:∀{xs ys:List V} {us:List Value},jg xs us->jg ys us->xs=ys
 | _,_,_,.nil,.nil=>rfl
 | _,_,_,.cons r t,.cons r' t'=>by rw[r.inj r',jg.inj t t']
section
variable{X:Cx}{pins:List (Addr×Obj)}{σ:St}{H:Hp}{s:Shared}{a:Addr}{xs ys:List V}
theorem kN.of{K:PySem.W.Frag}(h:H a=some (.lst xs)):kN K H a xs:=.inl (.inl h)
theorem kr.of{K:PySem.W.Frag}(h:H a=some (.tup xs)):kr K H a xs:=.inl (.inl h)
theorem Inv.list(I:Inv X pins σ H s)(h:kN X.K H a xs):∃its:List Value,jg xs its/\PlainL s.heap a its.toArray/\xs.length<=sizeLine:=by
 rcases h with h | ⟨o,its,n,hk,hc,hd,hs,hz,r⟩
 ·obtain⟨z,its,n,r,e⟩:=h.ok I.hok
  exact⟨its,r,⟨_,n,e,rfl,rfl,rfl⟩,z⟩
 ·refine⟨its.toList,r,⟨o,n,I.kIn a o hk,hc,hd,by simpa using hs⟩,?_⟩
  have e:=r.length
  simp only[Array.length_toList] at e
  omega
theorem Inv.tuple(I:Inv X pins σ H s)(h:kr X.K H a xs):∃its:List Value,jg xs its/\IsTup s.heap a its.toArray/\xs.length<=sizeLine:=by
 rcases h with h | ⟨o,its,n,hk,hc,hd,hs,hz,r⟩
 ·obtain⟨z,its,r,p⟩:=h.ok I.hok
  exact⟨its,r,p.is,z⟩
 ·refine⟨its.toList,r,⟨o,I.kIn a o hk,hc,n,by simpa using hs⟩,?_⟩
  have e:=r.length
  simp only[Array.length_toList] at e
  omega
theorem Inv.list_inj(I:Inv X pins σ H s)(h:kN X.K H a xs)(h':kN X.K H a ys):xs=ys:=by
 obtain⟨its,r,⟨o,n,e,_,_,d⟩,_⟩:=I.list h
 obtain⟨its',r',⟨o',n',e',_,_,d'⟩,_⟩:=I.list h'
 rw[e] at e';cases e'
 rw[d] at d'
 injection d' with d1 _
 have:its=its':=by simpa using congrArg Array.toList d1
 subst this
 exact r.inj r'
theorem Inv.tuple_inj(I:Inv X pins σ H s)(h:kr X.K H a xs)(h':kr X.K H a ys):xs=ys:=by
 obtain⟨its,r,⟨o,e,_,n,d⟩,_⟩:=I.tuple h
 obtain⟨its',r',⟨o',e',_,n',d'⟩,_⟩:=I.tuple h'
 rw[e] at e';cases e'
 rw[d] at d'
 injection d' with d1 _
 have:its=its':=by simpa using congrArg Array.toList d1
 subst this
 exact r.inj r'
end
abbrev Cx.wish(X:Cx)(E:Value->Shared->Prop):Cx:={X with xe:=E}
abbrev Cx.nox(X:Cx):Cx:=X.wish fun _ _=>False
theorem Cx.Ok.wish{X:Cx}(ok:X.Ok)(E:Value->Shared->Prop):(X.wish E).Ok:=
 ⟨ok.mod,ok.kind,ok.glob,ok.blt,ok.above,ok.inj,ok.has,ok.cab,ok.hd,ok.frames,ok.stk,ok.exf,ok.bs,ok.bsz,ok.noex,ok.exfs,ok.funs,ok.frf⟩
theorem Cx.Ok.unwish{X:Cx}{E:Value->Shared->Prop}(ok:(X.wish E).Ok):X.Ok:=
 ⟨ok.mod,ok.kind,ok.glob,ok.blt,ok.above,ok.inj,ok.has,ok.cab,ok.hd,ok.frames,ok.stk,ok.exf,ok.bs,ok.bsz,ok.noex,ok.exfs,ok.funs,ok.frf⟩
section
variable{X:Cx}{pins:List (Addr×Obj)}{σ:St}{H:Hp}{s:Shared}{E:Value->Shared->Prop}
theorem Inv.wish(I:Inv X pins σ H s)(E:Value->Shared->Prop):Inv (X.wish E) pins σ H s:=⟨I.ok.wish E,I.os,I.bare,I.base,I.loc,I.cell,I.free,I.freeC,I.pin,I.hok,I.len⟩
theorem Inv.unwish(I:Inv (X.wish E) pins σ H s):Inv X pins σ H s:=⟨I.ok.unwish,I.os,I.bare,I.base,I.loc,I.cell,I.free,I.freeC,I.pin,I.hok,I.len⟩
theorem SP.unwish{D:Ends}{f:Flow}{s':Shared}(h:SP (X.wish E) pins D f s'):SP X pins D f s':=by
 cases f with
 | next=>obtain⟨σ',H',I,q⟩:=h;exact⟨σ',H',I.unwish,q⟩
 | brk=>obtain⟨σ',H',I,q⟩:=h;exact⟨σ',H',I.unwish,q⟩
 | cont=>obtain⟨σ',H',I,q⟩:=h;exact⟨σ',H',I.unwish,q⟩
 | ret u=>obtain⟨v,σ',H',I,r,q⟩:=h;exact⟨v,σ',H',I.unwish,r,q⟩
theorem PE.nox{e:Expr}{t:TE}(h:PE X.nox e t):PE X e t:=fun pins s σ H Q I hw =>
 wpAny_mono (h pins s σ H Q (I.wish _) hw) (fun _ _ ⟨v,H',I',r,q⟩=>⟨v,H',I'.unwish,r,q⟩) fun _ _ z=>False.elim z
theorem PT.nox{e:Expr}{t:TT}(h:PT X.nox e t):PT X e t:=fun pins s σ H Q I hw =>
 wpAny_mono (h pins s σ H Q (I.wish _) hw) (fun _ _ ⟨H',I',q⟩=>⟨H',I'.unwish,q⟩) fun _ _ z=>False.elim z
theorem PSs.nox{st:List Stmt}{t:TS}(h:PSs X.nox st t):PSs X st t:=fun pins s σ H D I hw =>
 wpAny_mono (h pins s σ H D (I.wish _) hw) (fun _ _ q=>q.unwish) fun _ _ z=>False.elim z
end
section
variable{X:Cx}{st:Stmt}{rest:List Stmt}{t u:TS}{e:Expr}{te:TE}{pos:Pos}
def AR:TS:=fun D σ H=>D.nx σ H
def Bd(t u:TS):TS:=fun D σ H=>t {D with nx:=u D} σ H
theorem qh:PSs X [] AR:=fun _ _ σ H _ I h=>wpAny_execs_nil ⟨σ,H,I,h⟩
theorem aL(h1:PS X st t)(h2:PSs X rest u):PSs X (st::rest) (Bd t u):=by
 intro pins s σ H D I h
 refine wpAny_execs_cons (jC (h1 pins s σ H {D with nx:=u D} I h) fun f s1 q=>?_)
 cases f with
 | next =>
  obtain⟨σ',H',I',q⟩:=q
  exact h2 pins s1 σ' H' D I' q
 | ret v=>exact q
 | brk=>exact q
 | cont=>exact q
theorem bp(h1:PS X st t):PSs X [st] t:=by
 intro pins s σ H D I h
 refine wpAny_execs_cons (jC (h1 pins s σ H D I h) fun f s1 q=>?_)
 cases f with
 | next=>exact wpAny_execs_nil q
 | ret v=>exact q
 | brk=>exact q
 | cont=>exact q
theorem Inv.quiet{pins:List (Addr×Obj)}{σ:St}{H:Hp}{s:Shared}(I:Inv X pins σ H s):interactive X.env=false:=by simp[interactive,I.ok.kind]
def Bo(te:TE):TS:=fun D σ H=>te σ H D.rt
theorem eK(he:PE X e te):PS X (.Return (some e) pos) (Bo te):=by
 intro pins s σ H D I h
 exact wpAny_Return_some (jC (he pins s σ H _ I h) fun v s1 ⟨x,H1,I1,r1,q1⟩=>⟨x,σ,H1,I1,r1,q1⟩)
def Bu(c:TT)(t u:TS):TS:=fun D σ H=>c σ H fun b H1=>if b=true then t D σ H1 else u D σ H1
theorem ga{c:Expr}{a b:List Stmt}{tc:TT}(hc:PT X c tc)(ha:PSs X a t)(hb:PSs X b u):PS X (.If c a b pos) (Bu tc t u):=by
 intro pins s σ H D I h
 refine wpAny_If (jC (hc pins s σ H _ I h) fun d s1 ⟨H1,I1,q1⟩=>?_)
 cases d with
 | true=>exact ha pins s1 σ H1 D I1 q1
 | false=>exact hb pins s1 σ H1 D I1 q1
end
abbrev TG:=V->St->Hp->(St->Hp->Prop)->Prop
abbrev xA:=List V->St->Hp->(St->Hp->Prop)->Prop
def PG(X:Cx)(target:Expr)(t:TG):Prop:=
 ∀(pins:List (Addr×Obj)) (s:Shared) (σ:St) (H:Hp) (v:V) (u:Value) (Q:St->Hp->Prop),Inv X pins σ H s->RelV v u->t v σ H Q ->
  wpAny (model X.prog X.w) X.A (assign target X.env u) (fun _ s'=>∃ σ' H',Inv X pins σ' H' s'/\Q σ' H') X.xe s
def PGs(X:Cx)(ts:List Expr)(t:xA):Prop:=
 ∀(pins:List (Addr×Obj)) (s:Shared) (σ:St) (H:Hp) (vs:List V) (us:List Value) (Q:St->Hp->Prop),Inv X pins σ H s->jg vs us->t vs σ H Q ->
  wpAny (model X.prog X.w) X.A (assignInOrder ((assignEach ts X.env).map (·.2)) us) (fun _ s'=>∃ σ' H',Inv X pins σ' H' s'/\Q σ' H') X.xe s
section
variable{X:Cx}{pos:Pos}
def yi(i:Nat):TG:=fun v σ H Q=>Q (σ.set i (some v)) H
theorem hV{i:Nat}{x:Str}(hN:X.N.Nodup)(hi:X.N[i]?=some x)(hx:Loc X.env.scope x)(hf:X.fn x=true\/X.env.scope.names.lookup x=some .local:=by first | exact .inl rfl | exact .inr rfl | assumption):PG X (.Name x pos) (yi i):=by
 intro pins s σ H v u Q I r h
 exact wpAny_assign_Name (rM I hN hi hx r (fun s' I'=>⟨_,H,I',h⟩) hf)
def BB:xA:=fun vs σ H Q=>vs=[]/\Q σ H
def Ag(t:TG)(u:xA):xA:=fun vs σ H Q=>∃v r,vs=v::r/\t v σ H fun σ' H'=>u r σ' H' Q
theorem wM:PGs X [] BB:=by
 intro pins s σ H vs us Q I r h
 obtain⟨e,h⟩:=h
 subst e
 cases r
 exact assignInOrder_nil ⟨σ,H,I,h⟩
theorem vQ{e:Expr}{es:List Expr}{t:TG}{u:xA}(h1:PG X e t)(h2:PGs X es u)
  (hs:(assignEach (e::es) X.env).map (·.2)=assign e X.env::(assignEach es X.env).map (·.2):=by rfl):PGs X (e::es) (Ag t u):=by
 intro pins s σ H vs us Q I r h
 obtain⟨v,vr,e1,h⟩:=h
 subst e1
 cases r with
 | cons r rr =>
  rw[hs]
  refine assignInOrder_cons (jC (h1 pins s σ H _ _ _ I r h) fun _ s1 ⟨σ1,H1,I1,q1⟩=>?_)
  exact h2 pins s1 σ1 H1 _ _ Q I1 rr q1
def Bv(K:PySem.W.Frag)(n:Nat)(t:xA):TG:=fun v σ H Q=>∃a xs,v=.ref a/\kr K H a xs/\xs.length=n/\t xs σ H Q
theorem iA{es:List Expr}{k:Nat}{t:xA}{n:Nat}(hc:X.calm=true)(h:PGs X es t)
  (hn:(assignEach es X.env).length=n:=by rfl) (hst:(assignEach es X.env).findIdx? (·.1)=none:=by rfl):PG X (.Tuple es k pos) (Bv X.K n t):=by
 intro pins s σ H v u Q I r hw
 obtain⟨a,xs,e1,hq,hl,hw⟩:=hw
 subst e1
 cases r
 obtain⟨its,rv,ht,hz⟩:=I.tuple hq
 refine assign_Tuple_tuple (I.ok.hd hc) ht (by simp[hn,<- hl,rv.length]) hst fun h' hx=>?_
 have I1:Inv X pins σ H {s with heap:=h' }:=I.kept (t':=s.toks) fun b o e=>hx b o (Nat.ne_of_lt (Heap.lt_size e)) e
 exact h pins _ σ H xs _ Q I1 (by simpa using rv) hw
def AA(te:TE)(g:TG):TS:=fun D σ H=>te σ H fun x H1=>g x σ H1 D.nx
theorem iB{tg e:Expr}{te:TE}{g:TG}(he:PE X e te)(hg:PG X tg g)(hs:swapsWithSole [tg] e pos.line X.env=pure false:=by rfl)(hw:swappedStores [tg] e X.env=pure none:=by rfl)
  (h1:(assignEach [tg] X.env).map (·.2)=[assign tg X.env]:=by rfl):PS X (.Assign [tg] e pos) (AA te g):=by
 intro pins s σ H D I h
 refine wpAny_Assign_stores (jC (he pins s σ H _ I h) fun v s1 ⟨x,H1,I1,r1,q1⟩=>?_) hs hw
 rw[h1]
 exact jC (hg pins s1 σ H1 x v _ I1 r1 q1) fun _ s2 q=>q
theorem bG{i:Nat}{x:Str}{e:Expr}{te:TE}{pos':Pos}(hN:X.N.Nodup)(hi:X.N[i]?=some x)(hx:Loc X.env.scope x)(he:PE X e te)(hs:swapsWith e (some (.Name x pos')) pos.line X.env=pure false:=by rfl)(hf:X.fn x=true\/X.env.scope.names.lookup x=some .local:=by first | exact .inl rfl | exact .inr rfl | assumption) :
  PS X (.Assign [.Name x pos'] e pos) (AA te (yi i)):=by
 intro pins s σ H D I h
 refine wpAny_Assign_Name (jC (he pins s σ H _ I h) fun v s1 ⟨y,H1,I1,r1,q1⟩=>?_) hs
 exact rM I1 hN hi hx r1 (fun s2 I2=>⟨_,H1,I2,q1⟩) hf
end
section
variable{X:Cx}{pos:Pos}
def yy(c:TT)(tb:TS):TS:=fun D σ H=>∃W:Nat->St->Hp->Prop,(∃m,W m σ H)/\∀m σ H,W m σ H ->
 c σ H fun b H1=>if b=true then ∃N:St->Hp->Prop,(∀ σ' H',N σ' H'->∃m',m'<m/\W m' σ' H')/\tb {D with nx:=N,ct:=N,bk:=D.nx} σ H1 else D.nx σ H1
theorem d_{c:Expr}{body:List Stmt}{tc:TT}{tb:TS}(hp:PassesOwn (model X.prog X.w) X.A X.env X.xe)(hc:PT X c tc)(hb:PSs X body tb):PS X (.While c body [] pos) (yy tc tb):=by
 intro pins s σ H D I h
 obtain⟨W,⟨m0,w0⟩,turn⟩:=h
 refine wpAny_While (codeAny_whileLoop (fun n s'=>∃ σ' H',Inv X pins σ' H' s'/\W n σ' H') ?_ m0 ⟨σ,H,I,w0⟩)
 rintro n s1 ⟨σ1,H1,I1,w1⟩
 refine wpAny_passesOwn hp (jC (hc pins s1 σ1 H1 _ I1 (turn n σ1 H1 w1)) fun b s2 ⟨H2,I2,q2⟩=>?_)
 cases b with
 | true =>
  obtain⟨N,hN,q2⟩:=q2
  rw[if_pos rfl]
  refine wpAny_passesOwn hp (jC (hb pins s2 σ1 H2 _ I2 q2) fun f s3 q3=>?_)
  cases f with
  | next =>
   obtain⟨σ3,H3,I3,n3⟩:=q3
   obtain⟨m',hm,w3⟩:=hN σ3 H3 n3
   exact⟨m',hm,σ3,H3,I3,w3⟩
  | cont =>
   obtain⟨σ3,H3,I3,n3⟩:=q3
   obtain⟨m',hm,w3⟩:=hN σ3 H3 n3
   exact⟨m',hm,σ3,H3,I3,w3⟩
  | brk=>exact q3
  | ret v=>exact q3
 | false =>
  rw[if_neg Bool.false_ne_true]
  exact wpAny_execs_nil ⟨σ1,H2,I2,q2⟩
end
structure It where
 go:Nat->Hp->Prop
 yld:Nat->Hp->V->Hp->Prop
 stop:Nat->Hp->Prop
def la(X:Cx)(pins:List (Addr×Obj))(H:Hp)(b:Addr):Prop:=
 H b=none/\b≠X.env.locals/\b∉X.fs/\(b∈X.ex\/X.s₀.heap.objs.size<=b)/\(∀x c,X.env.cells.lookup x=some c->c≠b)/\∀p∈X.pn++pins,p.1≠b
theorem Inv.fpOk{X:Cx}{pins:List (Addr×Obj)}{σ:St}{H H':Hp}{s:Shared}{b:Addr}(I:Inv X pins σ H s)(hb:s.heap.objs.size<=b)(hn:H' b=none):la X pins H' b:=by
 refine⟨hn,Nat.ne_of_gt (Nat.lt_of_lt_of_le I.lt hb),I.nofs hb,.inr (Nat.le_trans I.sz hb),fun x c e z=>?_,fun p hp z=>?_⟩
 ·obtain⟨v,q⟩:=I.cell x c e
  exact absurd (Nat.lt_of_lt_of_le q.lt (by rw[z];exact hb)) (Nat.lt_irrefl _)
 ·exact absurd (Nat.lt_of_lt_of_le (Heap.lt_size (I.pin p hp).1) (by rw[z];exact hb)) (Nat.lt_irrefl _)
structure Turn (P:Program) (w:World) (K:PySem.W.Frag) (tg:Expr) (J:It) (fp:List Addr) (it:Addr) (tn:Nat->Heap->Prop):Prop where
 mem:it∈fp
 obj:∀i h,tn i h->∀b∈fp,∃o,h.get? b=some o/\∀v,o.data≠.cell v
 keep:∀i h h',tn i h->(∀b∈fp,∀o,h.get? b=some o->h'.get? b=some o)->tn i h'
 item:∀(X:Cx),X.prog=P->X.w=w->X.K=K->X.calm=true->∀(i:Nat) (pins:List (Addr×Obj)) (s:Shared) (σ:St) (H:Hp) (E:Value->Shared->Prop),Inv X pins σ H s->(∀b∈fp,la X pins H b)->tn i s.heap->J.go i H ->
  wpAny (model P w) X.A (pyNext (.ref it)) (fun r s1=>∃u,r=some u /\
   wpAny (model P w) X.A (letOwnedTupleGo tg (.ref it) u) (fun _ s2=>∃x H',Inv X pins σ H' s2/\RelV x u/\J.yld i H x H'/\tn (i+1) s2.heap/\∀b∈fp,H' b=none) E s1) E s
 done:∀(X:Cx),X.prog=P->X.w=w->X.K=K->X.calm=true->∀(i:Nat) (pins:List (Addr×Obj)) (s:Shared) (σ:St) (H:Hp) (E:Value->Shared->Prop),Inv X pins σ H s->(∀b∈fp,la X pins H b)->tn i s.heap->J.stop i H ->
  wpAny (model P w) X.A (pyNext (.ref it)) (fun r s1=>r=none/\Inv X pins σ H s1) E s
 self:∀(A:Around) (i:Nat) (s:Shared) (Q:Value->Shared->Prop) (E:Value->Shared->Prop),tn i s.heap->Q (.ref it) s->wpAny (model P w) A (pyIter (.ref it)) Q E s
abbrev TI:=St->Hp->(It->Hp->Prop)->Prop
def Cf(X:Cx)(pins:List (Addr×Obj))(σ:St)(tg:Expr)(R:It->Hp->Prop)(itv:Value)(s2:Shared):Prop:=
 ∃(it:Addr) (fp:List Addr) (tn:Nat->Heap->Prop) (J:It) (H':Hp),itv=.ref it/\Inv X pins σ H' s2/\Turn X.prog X.w X.K tg J fp it tn/\tn 0 s2.heap/\(∀b∈fp,la X pins H' b)/\R J H'
def PI(X:Cx)(tg iter:Expr)(wi:TI):Prop:=
 ∀(pins:List (Addr×Obj)) (s:Shared) (σ:St) (H:Hp) (R:It->Hp->Prop),Inv X pins σ H s->wi σ H R ->
  wpAny (model X.prog X.w) X.A (eval iter X.env) (fun v s1=>wpAny (model X.prog X.w) X.A (pyIter v) (Cf X pins σ tg R) X.xe s1) X.xe s
theorem qV {M:Model} {A:Around} {E:Value->Shared->Prop} {s:Shared} {tg:Expr} {it:Addr} {u:Value} {o:Obj} {n:String} {vs:Array Value} {Q:Unit->Shared->Prop} (ho:s.heap.get? it=some o) (hc:o.cls=.type n) (hd:o.data=.fields vs)
    (hn:["enumerate","zip","dict_itemiterator","dict_reverseitemiterator","odict_iterator","itertools.zip_longest","itertools.pairwise"].contains n=false) (hQ:Q () s):wpAny M A (letOwnedTupleGo tg (.ref it) u) Q E s:=by
  unfold letOwnedTupleGo
  cases tg<;>first
    | exact wpAny_pure hQ
    | (cases u<;>first
        | exact wpAny_pure hQ
        | (refine wpAny_bind (wpAny_load ho ?_)
           rw[hc,hd]
           show wpAny M A (if (["enumerate","zip","dict_itemiterator","dict_reverseitemiterator","odict_iterator","itertools.zip_longest","itertools.pairwise"].contains n&&vs[0]?==some (rawInt _))=true then _ else _) Q E s
           rw[if_neg (by intro h;rw[hn,Bool.false_and] at h;cases h)]
           exact wpAny_pure hQ))
def Be(K:PySem.W.Frag)(a:Addr):It:=
 ⟨fun i H=>∃xs x,kN K H a xs/\xs[i]?=some x,fun i H x H'=>H'=H/\∀xs,kN K H a xs->xs[i]?=some x,fun i H=>∃xs,kN K H a xs/\xs.length<=i⟩
def Bq(K:PySem.W.Frag)(a:Addr):It:=
 ⟨fun i H=>∃xs x,kr K H a xs/\xs[i]?=some x,fun i H x H'=>H'=H/\∀xs,kr K H a xs->xs[i]?=some x,fun i H=>∃xs,kr K H a xs/\xs.length<=i⟩
def A9(lo:Int)(n:Nat):It:=⟨fun i _=>i<n,fun i H x H'=>H'=H/\x=.int (lo+i),fun i _=>n<=i⟩
theorem uN{P:Program}{w:World}{K:PySem.W.Frag}{tg:Expr}(a it:Addr):Turn P w K tg (Be K a) [it] it (fun i h=>h.IsListIter it a i) where
 mem:=by simp
 obj:=fun i h st b hb=>by
  have e:b=it:=by simpa using hb
  subst e
  obtain⟨o,e,c,d⟩:=st
  exact⟨o,e,fun v z=>by rw[d] at z;cases z⟩
 keep:=fun i h h' st k=>st.at fun o e=>k it (by simp) o e
 item:=by
  intro X hP hw hK hc i pins s σ H E I hf st hg
  subst hP hw hK
  obtain⟨xs,x,hq,hx⟩:=hg
  obtain⟨its,rv,p,hz⟩:=I.list hq
  obtain⟨u,hu,ru⟩:=rv.get hx
  obtain⟨f0,f1,f2,f3,f4,f5⟩:=hf it (by simp)
  refine wpAny_pyNext_list_item st p.isList (x:=u) (by simpa using hu) fun h' st' sb=>?_
  have I1:Inv X pins σ H {s with heap:=h' }:=I.turned (t':=s.toks) (fun b o hb e=>(sb.2 b hb).trans e) f0 f1 f3 f4 f5
  obtain⟨o,e,c,d⟩:=id st'
  exact⟨u,rfl,qV (s:={s with heap:=h' }) e c d (by decide) ⟨x,H,I1,ru,⟨rfl,fun ys hy=>by rw[I.list_inj hy hq];exact hx⟩,st',fun b hb=>(hf b hb).1⟩⟩
 done:=by
  intro X hP hw hK hc i pins s σ H E I hf st hg
  subst hP hw hK
  obtain⟨xs,hq,hx⟩:=hg
  obtain⟨its,rv,p,hz⟩:=I.list hq
  obtain⟨f0,f1,f2,f3,f4,f5⟩:=hf it (by simp)
  have hl:=rv.length
  exact wpAny_pyNext_list_end (I.ok.hd hc) st p.isList (by simp;omega) fun h' eb=>⟨rfl,I.turned (t':=s.toks) (fun b o hb e=>eb b o hb e) f0 f1 f3 f4 f5⟩
 self:=fun _ _ _ _ _ st h=>wpAny_pyIter_listiter st h
theorem sv{P:Program}{w:World}{K:PySem.W.Frag}{tg:Expr}(a it:Addr):Turn P w K tg (Bq K a) [it] it (fun i h=>h.IsTupleIter it a i) where
 mem:=by simp
 obj:=fun i h st b hb=>by
  have e:b=it:=by simpa using hb
  subst e
  obtain⟨o,e,c,d⟩:=st
  exact⟨o,e,fun v z=>by rw[d] at z;cases z⟩
 keep:=fun i h h' st k=>st.at fun o e=>k it (by simp) o e
 item:=by
  intro X hP hw hK hc i pins s σ H E I hf st hg
  subst hP hw hK
  obtain⟨xs,x,hq,hx⟩:=hg
  obtain⟨its,rv,p,hz⟩:=I.tuple hq
  obtain⟨u,hu,ru⟩:=rv.get hx
  obtain⟨f0,f1,f2,f3,f4,f5⟩:=hf it (by simp)
  refine wpAny_pyNext_tuple_item st (show s.heap.IsTuple a its.toArray from p) (x:=u) (by simpa using hu) fun h' st' sb=>?_
  have I1:Inv X pins σ H {s with heap:=h' }:=I.turned (t':=s.toks) (fun b o hb e=>(sb.2 b hb).trans e) f0 f1 f3 f4 f5
  obtain⟨o,e,c,d⟩:=id st'
  exact⟨u,rfl,qV (s:={s with heap:=h' }) e c d (by decide) ⟨x,H,I1,ru,⟨rfl,fun ys hy=>by rw[I.tuple_inj hy hq];exact hx⟩,st',fun b hb=>(hf b hb).1⟩⟩
 done:=by
  intro X hP hw hK hc i pins s σ H E I hf st hg
  subst hP hw hK
  obtain⟨xs,hq,hx⟩:=hg
  obtain⟨its,rv,p,hz⟩:=I.tuple hq
  obtain⟨f0,f1,f2,f3,f4,f5⟩:=hf it (by simp)
  have hl:=rv.length
  exact wpAny_pyNext_tuple_end (I.ok.hd hc) st (show s.heap.IsTuple a its.toArray from p) (by simp;omega) fun h' eb=>⟨rfl,I.turned (t':=s.toks) (fun b o hb e=>eb b o hb e) f0 f1 f3 f4 f5⟩
 self:=fun _ _ _ _ _ st h=>wpAny_pyIter_tupleiter st h
theorem sE{P:Program}{w:World}{K:PySem.W.Frag}{tg:Expr}(it:Addr)(lo:Int)(n:Nat):Turn P w K tg (A9 lo n) [it] it (fun i h=>IsRangeIter h it (lo+(i:Nat)*1) ((n:Int) - (i:Nat)) 1) where
 mem:=by simp
 obj:=fun i h st b hb=>by
  have e:b=it:=by simpa using hb
  subst e
  exact⟨_,st,fun v z=>by
   have z':Data.fields _=Data.cell v:=z
   cases z'⟩
 keep:=fun i h h' st k=>k it (by simp) _ st
 item:=by
  intro X hP hw hK hc i pins s σ H E I hf st hg
  subst hP hw hK
  obtain⟨f0,f1,f2,f3,f4,f5⟩:=hf it (by simp)
  have W:=Walks.range (prog:=X.prog) (w:=X.w) (I.ok.hd hc) it lo 1 n
  refine W.item i s _ _ hg st fun v h' tk hv st' kk=>?_
  obtain⟨t,rfl⟩:=hv
  have I1:Inv X pins σ H {s with heap:=h',toks:=tk}:=I.turned (fun b o hb e=>kk b o (by simpa using hb) e) f0 f1 f3 f4 f5
  refine⟨_,rfl,qV (s:={s with heap:=h',toks:=tk}) (n:="range_iterator") st' rfl rfl (by decide) ⟨.int (lo+i),H,I1,⟨t,?_⟩,⟨rfl,rfl⟩,st',fun b hb=>(hf b hb).1⟩⟩
  rw[Int.mul_one]
 done:=by
  intro X hP hw hK hc i pins s σ H E I hf st hg
  subst hP hw hK
  obtain⟨f0,f1,f2,f3,f4,f5⟩:=hf it (by simp)
  exact wpAny_pyNext_range_end (I.ok.hd hc) st (by have:n<=i:=hg;omega) fun h' eb=>⟨rfl,I.turned (t':=s.toks) (fun b o hb e=>eb b o hb e) f0 f1 f3 f4 f5⟩
 self:=fun _ _ _ _ _ st h=>wpAny_pyIter_rangeiter st h
end L2
namespace L2
open PySem PySem.Spec PyProof.Rows
section
variable{X:Cx}{tg:Expr}
theorem vg{pins:List (Addr×Obj)}{σ:St}{H:Hp}{s:Shared}{R:It->Hp->Prop}{E:Value->Shared->Prop}{lo hi:Int}{t u v:Tok}{tk:Nat}(I:Inv X pins σ H s)(h1 : -(2 ^ 62)<=lo)(h2:lo<2 ^ 62)(h3 : -(2 ^ 62)<=hi)(h4:hi<2 ^ 62)
  (q:R (A9 lo (hi - lo).toNat) H):wpAny (model X.prog X.w) X.A (pyIter (.ref s.heap.objs.size)) (Cf X pins σ tg R) E {s with heap:=s.heap.push {cls:=.type "range",data:=.fields #[.int lo t,.int hi u,.int 1 v]},toks:=tk}:=by
 refine wpAny_pyIter_range (IsRange.new ..) (small_one h1 h2 h3 h4) ?_
 have I1:Inv X pins σ H {s with heap:=s.heap.push {cls:=.type "range",data:=.fields #[.int lo t,.int hi u,.int 1 v]},toks:=tk}:=I.kept fun b o e=>Heap.get?_push_of_some _ e
 refine⟨(s.heap.push {cls:=.type "range",data:=.fields #[.int lo t,.int hi u,.int 1 v]}).objs.size,[(s.heap.push {cls:=.type "range",data:=.fields #[.int lo t,.int hi u,.int 1 v]}).objs.size],_,_,H,rfl,
  I1.kept (t':=tk) fun b o e=>Heap.get?_push_of_some _ e,sE _ lo (hi - lo).toNat,?_,fun b hb=>?_,q⟩
 ·have e1:lo+((0:Nat):Int)*1=lo:=by simp
  have e2:(((hi - lo).toNat:Nat):Int) - ((0:Nat):Int)=Builtin.Range.rangeSize lo hi 1:=by rw[rangeSize_one];split<;>omega
  show IsRangeIter _ _ (lo+((0:Nat):Int)*1) ((((hi - lo).toNat:Nat):Int) - ((0:Nat):Int)) 1
  rw[e1,e2]
  exact Heap.get?_push_size _ rfl
 ·have e:b=(s.heap.push {cls:=.type "range",data:=.fields #[.int lo t,.int hi u,.int 1 v]}).objs.size:=by simpa using hb
  subst e
  exact I1.fpOk (Nat.le_refl _) (I1.hok.fresh (Nat.le_refl _))
def zW(ta:TA):TI:=fun σ H R=>ta σ H fun vs H1=>∃j:Int,vs=[.int j] /\ -(2 ^ 62)<=j/\j<2 ^ 62/\R (A9 0 j.toNat) H1
theorem fF{a:Expr}{ta:TA}{p pos:Pos}(hg:Gl X "range")(hm:X.mg "range" = none)(ha:PA X [a] ta)(hs:starEach [a] X.env=[(false,eval a X.env)]:=by rfl):PI X tg (.Call (.Name "range" p) [a] [] pos) (zW ta):=by
 intro pins s σ H R I h
 refine Call_ (bL I hg hm boot_range (PyProof.Rows.callWith_type1 (jC (ha pos pins s σ H _ I h) fun us s1 ⟨vs,H1,I1,r1,q1⟩=>?_) hs rfl))
 obtain⟨j,e,q1,q2,q⟩:=q1
 subst e
 cases r1 with
 | cons r rr =>
  cases rr
  obtain⟨t,rfl⟩:=r
  exact call_range_1 (vg I1 (by omega) (by omega) q1 q2 (by simpa using q))
def BC(wi:TI)(g:TG)(tb:TS):TS:=fun D σ H=>wi σ H fun J H1=>∃W:Nat->Nat->St->Hp->Prop,(∃m,W 0 m σ H1)/\∀i m σ H,W i m σ H ->
 (J.stop i H/\D.nx σ H)\/(J.go i H/\∃N:St->Hp->Prop,(∀ σ' H',N σ' H'->∃m',m'<m/\W (i+1) m' σ' H')/\∀x H',J.yld i H x H'->g x σ H' fun σ2 H2=>tb {D with nx:=N,ct:=N,bk:=D.nx} σ2 H2)
def ml(fp:List Addr)(h:Heap):List (Addr×Obj):=fp.filterMap fun b=>(h.get? b).map fun o=>(b,o)
theorem bi{fp:List Addr}{h:Heap}{b:Addr}{o:Obj}(hb:b∈fp)(e:h.get? b=some o):(b,o)∈ml fp h:=List.mem_filterMap.mpr ⟨b,hb,by rw[e];rfl⟩
theorem pV{fp:List Addr}{h:Heap}{p:Addr×Obj}(hp:p∈ml fp h):p.1∈fp/\h.get? p.1=some p.2:=by
 obtain⟨b,hb,e⟩:=List.mem_filterMap.mp hp
 cases q:h.get? b with
 | none=>rw[q] at e;cases e
 | some o =>
  rw[q] at e
  have e':(b,o)=p:=Option.some.inj e
  subst e'
  exact⟨hb,q⟩
theorem Inv.pinned{pins:List (Addr×Obj)}{σ:St}{H:Hp}{s:Shared}{fp:List Addr}(I:Inv X pins σ H s)(hf:∀b∈fp,la X pins H b)(ho:∀b∈fp,∃o,s.heap.get? b=some o/\∀v,o.data≠.cell v):Inv X (pins++ml fp s.heap) σ H s:=
 I.pins_of fun p hp=>(List.mem_append.mp hp).elim (fun z=>I.pin p (List.mem_append_right _ z)) fun z=>by
  obtain⟨hb,e⟩:=pV z
  obtain⟨f0,f1,f2,_⟩:=hf p.1 hb
  obtain⟨o,e',d⟩:=ho p.1 hb
  rw[e] at e';cases e'
  exact⟨e,f0,f1,f2,d⟩
theorem Inv.unpinned{pins pl:List (Addr×Obj)}{σ:St}{H:Hp}{s:Shared}(I:Inv X (pins++pl) σ H s):Inv X pins σ H s:=I.pins_of fun p hp=>I.pin p (List.mem_append_right _ (List.mem_append_left _ hp))
theorem dv{iter:Expr}{body:List Stmt}{wi:TI}{g:TG}{tb:TS}{pos:Pos}(hp:PassesOwn (model X.prog X.w) X.A X.env X.xe)(hc:X.calm=true)(hi:PI X tg iter wi)(hg:PG X tg g)(hb:PSs X body tb)
  (hs:∀x,foldedSetIterable iter X.env x=pure x:=by intro _;rfl):PS X (.For tg iter body [] pos) (BC wi g tb):=by
 intro pins s σ H D I h
 refine wpAny_For (jC (hi pins s σ H _ I h) fun v s1 h1=>jC h1 fun itv s2 h2=>?_) hs
 obtain⟨it,fp,tn,J,H2,e,I2,T,st2,f2,W,⟨m0,w0⟩,turn⟩:=h2
 subst e
 have stat:∀{H':Hp},(∀b∈fp,H' b=none)->∀b∈fp,la X pins H' b:=fun hn b hb=>⟨hn b hb,(f2 b hb).2⟩
 refine codeAny_forLoop_any (fun n s'=>∃i σ' H',Inv X pins σ' H' s'/\tn i s'.heap/\(∀b∈fp,H' b=none)/\W i n σ' H') ?_ m0 ⟨0,σ,H2,I2,st2,fun b hb=>(f2 b hb).1,w0⟩
 rintro n s3 ⟨i,σ3,H3,I3,st3,fr3,w3⟩
 rcases turn i n σ3 H3 w3 with ⟨stop,qn⟩ | ⟨go,N,hN,step⟩
 ·refine wpAny_passesOwn hp (jC (T.done X rfl rfl rfl hc i pins s3 σ3 H3 X.xe I3 (stat fr3) st3 stop) fun r s4 ⟨hr,I4⟩=>?_)
  subst hr
  exact wpAny_execs_nil ⟨σ3,H3,I4,qn⟩
 ·refine wpAny_passesOwn hp (jC (T.item X rfl rfl rfl hc i pins s3 σ3 H3 X.xe I3 (stat fr3) st3 go) fun r s4 ⟨u,hr,h4⟩=>?_)
  subst hr
  refine wpAny_passesOwn hp (jC h4 fun _ s5 ⟨x,H5,I5,r5,y5,st5,fr5⟩=>?_)
  have I5':=I5.pinned (stat fr5) (T.obj _ _ st5)
  refine wpAny_passesOwn hp (jC (hg _ s5 σ3 H5 x u _ I5' r5 (step x H5 y5)) fun _ s6 ⟨σ6,H6,I6,q6⟩=>?_)
  refine wpAny_passesOwn hp (jC (hb _ s6 σ6 H6 _ I6 q6) fun f s7 q7=>?_)
  have again:∀{σ7:St} {H7:Hp},Inv X (pins++ml fp s5.heap) σ7 H7 s7->N σ7 H7->∃m,m<n/\∃i σ' H',Inv X pins σ' H' s7/\tn i s7.heap/\(∀b∈fp,H' b=none)/\W i m σ' H':=fun {σ7 H7} I7 n7=>by
   obtain⟨m',hm,w7⟩:=hN σ7 H7 n7
   refine⟨m',hm,i+1,σ7,H7,I7.unpinned,T.keep _ _ _ st5 fun b hb o e=>(I7.pin (b,o) (List.mem_append_right _ (List.mem_append_right _ (bi hb e)))).1,fun b hb=>?_,w7⟩
   obtain⟨o,e,d⟩:=T.obj _ _ st5 b hb
   exact(I7.pin (b,o) (List.mem_append_right _ (List.mem_append_right _ (bi hb e)))).2.1
  cases f with
  | next=>obtain⟨σ7,H7,I7,n7⟩:=q7;exact again I7 n7
  | cont=>obtain⟨σ7,H7,I7,n7⟩:=q7;exact again I7 n7
  | brk=>obtain⟨σ7,H7,I7,q7⟩:=q7;exact⟨σ7,H7,I7.unpinned,q7⟩
  | ret v=>obtain⟨x7,σ7,H7,I7,r7,q7⟩:=q7;exact⟨x7,σ7,H7,I7.unpinned,r7,q7⟩
end
end L2
namespace L2
open PySem PySem.Spec PyProof.Rows
abbrev R2:=V->V->Hp->VK->Prop
def OpR(X:Cx)(f:Value->Value->Sem Value)(r:R2):Prop:=
 ∀(pins:List (Addr×Obj)) (s:Shared) (σ:St) (H:Hp) (x y:V) (v u:Value) (Q:VK),Inv X pins σ H s->RelV x v->RelV y u->r x y H Q ->
  wpAny (model X.prog X.w) X.A (f v u) (EP X pins σ Q) X.xe s
def UnR(X:Cx)(f:Value->Sem Value)(r:V->Hp->VK->Prop):Prop:=
 ∀(pins:List (Addr×Obj)) (s:Shared) (σ:St) (H:Hp) (x:V) (v:Value) (Q:VK),Inv X pins σ H s->RelV x v->r x H Q ->
  wpAny (model X.prog X.w) X.A (f v) (EP X pins σ Q) X.xe s
def CallR(X:Cx)(f:Value)(r:List V->Hp->VK->Prop):Prop:=
 ∀(pins:List (Addr×Obj)) (s:Shared) (σ:St) (H:Hp) (xs:List V) (us:List Value) (Q:VK),Inv X pins σ H s->jg xs us->r xs H Q ->
  wpAny (model X.prog X.w) X.A (call f us) (EP X pins σ Q) X.xe s
def Bi(X:Cx)(r:V->Hp->(Bool->Hp->Prop)->Prop):Prop:=
 ∀(pins:List (Addr×Obj)) (s:Shared) (σ:St) (H:Hp) (x:V) (v:Value) (Q:Bool->Hp->Prop),Inv X pins σ H s->RelV x v->r x H Q ->
  wpAny (model X.prog X.w) X.A (truthy v) (TP X pins σ Q) X.xe s
def AZ(r:R2)(ta tb:TE):TE:=fun σ H Q=>ta σ H fun x H1=>tb σ H1 fun y H2=>r x y H2 Q
def rI(C:Int->Int->Prop)(g:Int->Int->V):R2:=fun x y H Q=>∃i j,x=.int i/\y=.int j/\C i j/\Q (g i j) H
def zN(g:Int->Int->V):R2:=fun x y H Q=>∃i j,x=.int i/\y=.int j/\Q (g i j) H
section
variable{X:Cx}{a b c:Expr}{ta tb tc:TE}{pos:Pos}
theorem yV(ha:PE X a ta)(hb:PE X b tb){pins:List (Addr×Obj)}{s:Shared}{σ:St}{H:Hp}{R:V->V->Hp->Prop}(I:Inv X pins σ H s)
  (h:ta σ H fun x H1=>tb σ H1 fun y H2=>R x y H2) {Q:Value->Shared->Prop} {f:Value->Value->Sem Value}
  (hf:∀v u s2 x y H2,Inv X pins σ H2 s2->RelV x v->RelV y u->R x y H2->wpAny (model X.prog X.w) X.A (f v u) Q X.xe s2) :
  wpAny (model X.prog X.w) X.A (eval a X.env) (fun v s₁=>wpAny (model X.prog X.w) X.A (eval b X.env) (fun u s₂=>wpAny (model X.prog X.w) X.A (f v u) Q X.xe s₂) X.xe s₁) X.xe s:=by
 refine jC (ha pins s σ H _ I h) fun v s1 ⟨x,H1,I1,r1,q1⟩=>?_
 refine jC (hb pins s1 σ H1 _ I1 q1) fun u s2 ⟨y,H2,I2,r2,q2⟩=>?_
 exact hf v u s2 x y H2 I2 r1 r2 q2
theorem ic{op:Operator}{r:R2}(ho:OpR X (binaryOp op) r)(ha:PE X a ta)(hb:PE X b tb):PE X (.BinOp a op b pos) (AZ r ta tb):=by
 intro pins s σ H Q I h
 exact wpAny_BinOp (yV ha hb I h fun v u s2 x y H2 I2 rx ry q=>ho pins s2 σ H2 x y v u Q I2 rx ry q)
theorem BA{f:Value->Value->Sem Value}{C:Int->Int->Prop}{g:Int->Int->Int}
  (rule:∀(i j:Int) (t u:Tok) (s:Shared) (Q:Value->Shared->Prop) (E:Value->Shared->Prop),C i j->Q (.int (g i j) s.toks) {s with toks:=s.toks+1}->wpAny (model X.prog X.w) X.A (f (.int i t) (.int j u)) Q E s) :
  OpR X f (rI C fun i j=>.int (g i j)):=by
 intro pins s σ H x y v u Q I rx ry h
 obtain⟨i,j,rfl,rfl,hc,q⟩:=h
 obtain⟨t,rfl⟩:=rx
 obtain⟨t',rfl⟩:=ry
 exact rule i j t t' s _ _ hc ⟨.int (g i j),H,I.tok _,⟨_,rfl⟩,q⟩
theorem BK{f:Value->Value->Sem Value}{g:Int->Int->Int}
  (rule:∀(i j:Int) (t u:Tok) (s:Shared) (Q:Value->Shared->Prop) (E:Value->Shared->Prop),Q (.int (g i j) s.toks) {s with toks:=s.toks+1}->wpAny (model X.prog X.w) X.A (f (.int i t) (.int j u)) Q E s) :
  OpR X f (zN fun i j=>.int (g i j)):=by
 intro pins s σ H x y v u Q I rx ry h
 obtain⟨i,j,rfl,rfl,q⟩:=h
 obtain⟨t,rfl⟩:=rx
 obtain⟨t',rfl⟩:=ry
 exact rule i j t t' s _ _ ⟨.int (g i j),H,I.tok _,⟨_,rfl⟩,q⟩
theorem AQ{f:Value->Value->Sem Value}{g:Int->Int->Bool}
  (rule:∀(i j:Int) (t u:Tok) (s:Shared) (Q:Value->Shared->Prop) (E:Value->Shared->Prop),Q (.bool (g i j)) s->wpAny (model X.prog X.w) X.A (f (.int i t) (.int j u)) Q E s) :
  OpR X f (zN fun i j=>.bl (g i j)):=by
 intro pins s σ H x y v u Q I rx ry h
 obtain⟨i,j,rfl,rfl,q⟩:=h
 obtain⟨t,rfl⟩:=rx
 obtain⟨t',rfl⟩:=ry
 exact rule i j t t' s _ _ ⟨.bl (g i j),H,I,rfl,q⟩
def BY(i j:Int):Prop:=0<j/\j<1073741824
def y7(i j:Int):Prop:=(-(2 ^ 64)<i/\i<2 ^ 64)\/(-(2 ^ 64)<j/\j<2 ^ 64)
theorem y7.ok{i j:Int}(h:y7 i j):IntMulOk i j:=by
 rcases h with ⟨h1,h2⟩ | ⟨h1,h2⟩
 ·exact .of_left (intBits_le_64 h1 h2)
 ·exact .of_right (intBits_le_64 h1 h2)
theorem y1:OpR X (binaryOp .Add) (zN fun i j=>.int (i+j)):=BK fun _ _ _ _ _ _ _ q=>add_int q
theorem zE:OpR X (binaryOp .Mult) (rI y7 fun i j=>.int (i*j)):=BA fun _ _ _ _ _ _ _ hc q=>mul_int q hc.ok
theorem w5:OpR X (binaryOp .FloorDiv) (rI BY fun i j=>.int (i / j)):=BA fun i j _ _ _ _ _ hc q=>by
 have h1:(0:Int)<j:=hc.1
 have h2:j<1073741824:=hc.2
 exact floordiv_int (by omega) (by rw[Int.fdiv_eq_ediv_of_nonneg i (by omega)];exact q) (.inl (PyProof.noPylong_small (by omega)))
theorem yC:OpR X (binaryOp .Mod) (rI (fun _ j=>0<j) fun i j=>.int (i%j)):=BA fun i j _ _ _ _ _ hc q=>by
 have h1:(0:Int)<j:=hc
 exact mod_int' (by omega) (by rw[Int.fmod_eq_emod_of_nonneg i (by omega)];exact q)
end
def xj:V->V->Bool
 | .non,.non=>true | .non,.int _=>true | .int _,.non=>true | .non,.bl _=>true | .bl _,.non=>true | .non,.str _=>true | .str _,.non=>true
 | .int _,.int _=>true | .bl _,.bl _=>true | .str _,.str _=>true | .byt _,.byt _=>true
 | .int _,.str _=>true | .str _,.int _=>true | .bl _,.str _=>true | .str _,.bl _=>true
 | _,_=>false
def Cz:R2:=fun x y H Q=>xj x y=true/\Q (.bl (decide (x=y))) H
def CB:R2:=fun x y H Q=>xj x y=true/\Q (.bl (!decide (x=y))) H
theorem nQ{i j:Int}:decide (V.int i=V.int j)=(i==j):=by
 rw[Bool.eq_iff_iff]
 simp
theorem qe{i j:Bool}:decide (V.bl i=V.bl j)=(i==j):=by
 rw[Bool.eq_iff_iff]
 simp
theorem n8{i j:Str}:decide (V.str i=V.str j)=(i==j):=by
 rw[Bool.eq_iff_iff]
 simp
theorem t_{i j:Array UInt8}:decide (V.byt i=V.byt j)=(i.toList==j.toList):=by
 rw[Bool.eq_iff_iff]
 cases i
 cases j
 simp
section
variable{X:Cx}{a b c:Expr}{ta tb tc:TE}{pos:Pos}
theorem jq{pins:List (Addr×Obj)}{σ:St}{H:Hp}{s:Shared}{Q:VK}{k k':Bool}(I:Inv X pins σ H s)(q:Q (.bl k) H)(e:k=k'):EP X pins σ Q (.bool k') s:=by
 subst e
 exact⟨.bl k,H,I,rfl,q⟩
theorem Aj:OpR X (compareOp .Eq) Cz:=by
 intro pins s σ H x y v u Q I rx ry h
 obtain⟨hs,q⟩:=h
 cases x with
 | non =>
  cases rx
  cases y with
  | non=>cases ry;exact PySem.EqNone.eq_none_none (jq I q (by simp))
  | bl j=>cases ry;exact PySem.EqNone.eq_none_bool (jq I q (by simp))
  | int j=>obtain⟨t',rfl⟩:=ry;exact PySem.EqNone.eq_none_int (jq I q (by simp))
  | str j=>obtain⟨t',rfl⟩:=ry;exact PySem.EqNone.eq_none_str (jq I q (by simp))
  | _=>exact absurd (show false=true from hs) Bool.false_ne_true
 | bl i =>
  cases rx
  cases y with
  | non=>cases ry;exact PySem.EqNone.eq_bool_none (jq I q (by simp))
  | bl j=>cases ry;exact eq_bool (jq I q qe)
  | str j=>obtain⟨t',rfl⟩:=ry;exact PySem.EqMixed.eq_bool_str (jq I q (by simp))
  | _=>exact absurd (show false=true from hs) Bool.false_ne_true
 | int i =>
  obtain⟨t,rfl⟩:=rx
  cases y with
  | non=>cases ry;exact PySem.EqNone.eq_int_none (jq I q (by simp))
  | int j=>obtain⟨t',rfl⟩:=ry;exact eq_int (jq I q nQ)
  | str j=>obtain⟨t',rfl⟩:=ry;exact PySem.EqMixed.eq_int_str (jq I q (by simp))
  | _=>exact absurd (show false=true from hs) Bool.false_ne_true
 | str i =>
  obtain⟨t,rfl⟩:=rx
  cases y with
  | non=>cases ry;exact PySem.EqNone.eq_str_none (jq I q (by simp))
  | bl j=>cases ry;exact PySem.EqMixed.eq_str_bool (jq I q (by simp))
  | int j=>obtain⟨t',rfl⟩:=ry;exact PySem.EqMixed.eq_str_int (jq I q (by simp))
  | str j=>obtain⟨t',rfl⟩:=ry;exact eq_str (jq I q n8)
  | _=>exact absurd (show false=true from hs) Bool.false_ne_true
 | byt i =>
  obtain⟨t,rfl⟩:=rx
  cases y with
  | byt j=>obtain⟨t',rfl⟩:=ry;exact PySem.W.eq_bytes (jq I q t_)
  | _=>exact absurd (show false=true from hs) Bool.false_ne_true
 | _=>cases y<;>exact absurd (show false=true from hs) Bool.false_ne_true
theorem Ac:OpR X (compareOp .NotEq) CB:=by
 intro pins s σ H x y v u Q I rx ry h
 obtain⟨hs,q⟩:=h
 cases x with
 | non =>
  cases rx
  cases y with
  | non=>cases ry;exact PySem.EqNone.ne_none_none (jq I q (by simp))
  | bl j=>cases ry;exact PySem.EqNone.ne_none_bool (jq I q (by simp))
  | int j=>obtain⟨t',rfl⟩:=ry;exact PySem.EqNone.ne_none_int (jq I q (by simp))
  | str j=>obtain⟨t',rfl⟩:=ry;exact PySem.EqNone.ne_none_str (jq I q (by simp))
  | _=>exact absurd (show false=true from hs) Bool.false_ne_true
 | bl i =>
  cases rx
  cases y with
  | non=>cases ry;exact PySem.EqNone.ne_bool_none (jq I q (by simp))
  | bl j=>cases ry;exact ne_bool (jq I q (congrArg not qe))
  | str j=>obtain⟨t',rfl⟩:=ry;exact PySem.EqMixed.ne_bool_str (jq I q (by simp))
  | _=>exact absurd (show false=true from hs) Bool.false_ne_true
 | int i =>
  obtain⟨t,rfl⟩:=rx
  cases y with
  | non=>cases ry;exact PySem.EqNone.ne_int_none (jq I q (by simp))
  | int j=>obtain⟨t',rfl⟩:=ry;exact ne_int (jq I q (congrArg not nQ))
  | str j=>obtain⟨t',rfl⟩:=ry;exact PySem.EqMixed.ne_int_str (jq I q (by simp))
  | _=>exact absurd (show false=true from hs) Bool.false_ne_true
 | str i =>
  obtain⟨t,rfl⟩:=rx
  cases y with
  | non=>cases ry;exact PySem.EqNone.ne_str_none (jq I q (by simp))
  | bl j=>cases ry;exact PySem.EqMixed.ne_str_bool (jq I q (by simp))
  | int j=>obtain⟨t',rfl⟩:=ry;exact PySem.EqMixed.ne_str_int (jq I q (by simp))
  | str j=>obtain⟨t',rfl⟩:=ry;exact ne_str (jq I q (congrArg not n8))
  | _=>exact absurd (show false=true from hs) Bool.false_ne_true
 | byt i =>
  obtain⟨t,rfl⟩:=rx
  cases y with
  | byt j=>obtain⟨t',rfl⟩:=ry;exact PySem.W.ne_bytes (jq I q (congrArg not t_))
  | _=>exact absurd (show false=true from hs) Bool.false_ne_true
 | _=>cases y<;>exact absurd (show false=true from hs) Bool.false_ne_true
theorem Am:OpR X (compareOp .Lt) (zN fun i j=>.bl (decide (i<j))):=AQ fun _ _ _ _ _ _ _ q=>lt_int q
theorem Av:OpR X (compareOp .Gt) (zN fun i j=>.bl (decide (j<i))):=AQ fun _ _ _ _ _ _ _ q=>gt_int q
theorem zA:OpR X (compareOp .Is) (fun x y H Q=>y=.non/\Q (.bl (decide (x=.non))) H):=by
 intro pins s σ H x y v u Q I rx ry h
 obtain⟨rfl,q⟩:=h
 cases ry
 refine is_none_gen (jq I q ?_)
 cases x<;>first
  | (cases rx;rfl)
  | (obtain⟨t,rfl⟩:=rx;rfl)
theorem OpR.or{f:Value->Value->Sem Value}{r r':R2}(h:OpR X f r)(h':OpR X f r'):OpR X f (fun x y H Q=>r x y H Q\/r' x y H Q):=by
 intro pins s σ H x y v u Q I rx ry q
 rcases q with q | q
 ·exact h pins s σ H x y v u Q I rx ry q
 ·exact h' pins s σ H x y v u Q I rx ry q
theorem v4(b:Expr){op:CmpOp}(h:op≠.In:=by decide)(h2:op≠.NotIn:=by decide):behindInMarks op b=false:=by
 have e1:(op==CmpOp.In)=false:=by cases op<;>first | rfl | exact absurd rfl h
 have e2:(op==CmpOp.NotIn)=false:=by cases op<;>first | rfl | exact absurd rfl h2
 cases b<;>simp[behindInMarks,e1,e2]
theorem gS{op:CmpOp}{r:R2}(ho:OpR X (compareOp op) r)(ha:PE X a ta)(hb:PE X b tb)(hm:behindInMarks op b=false):PE X (.Compare a [op] [b] pos) (AZ r ta tb):=by
 intro pins s σ H Q I h
 exact wpAny_Compare1 (yV ha hb I h fun v u s2 x y H2 I2 rx ry q=>ho pins s2 σ H2 x y v u Q I2 rx ry q) hm
def Aa(t:TE):TT:=fun σ H Q=>t σ H fun x H'=>∃k,x=.bl k/\Q k H'
theorem gG{op:CmpOp}{r:R2}(ho:OpR X (compareOp op) r)(ha:PE X a ta)(hb:PE X b tb)(hm:behindInMarks op b=false):PT X (.Compare a [op] [b] pos) (Aa (AZ r ta tb)):=by
 intro pins s σ H Q I h
 refine wpAny_isTrue_Compare1 (jC (ha pins s σ H _ I h) fun v s1 ⟨x,H1,I1,r1,q1⟩=>jC (hb pins s1 σ H1 _ I1 q1) fun u s2 ⟨y,H2,I2,r2,q2⟩ =>
  jC (ho pins s2 σ H2 x y v u _ I2 r1 r2 q2) fun c s3 ⟨z,H3,I3,r3,k,e,q3⟩=>?_) hm
 subst e
 cases r3
 exact wpAny_truthy_bool ⟨H3,I3,q3⟩
def yz(K:PySem.W.Frag)(x:V)(H:Hp)(k:Bool):Prop:=
 match x with
 | .non=>k=false
 | .bl b=>k=b
 | .int i=>k=(i != 0)
 | .str y=>y.length<=sizeLine/\k=((y.length:Int) != 0)
 | .byt y=>y.size<=sizeLine/\k=((y.size:Int) != 0)
 | .ref p=>(∃xs,kN K H p xs/\k=!xs.isEmpty)\/(∃xs,kr K H p xs/\k=!xs.isEmpty)\/∃kvs,H p=some (.dK kvs)/\k=!kvs.isEmpty
 | _=>False
theorem se{κ:Type}{kvs:List (κ×V)}{vs:List (κ×Value)}(r:KV kvs vs):(!vs.isEmpty)=!kvs.isEmpty:=by
 cases r<;>rfl
theorem oA{xs:List V}{its:List Value}(r:jg xs its):(!its.toArray.isEmpty)=!xs.isEmpty:=by
 cases r<;>simp
theorem m_:(sizeLine:Nat)<2 ^ 63:=by rw[sizeLine_eq];decide
theorem zw:Bi X (fun x H Q=>∃k,yz X.K x H k/\Q k H):=by
 intro pins s σ H x v Q I rx h
 obtain⟨k,e,q⟩:=h
 have hl:=m_
 have hs:sizeLine=16777216:=sizeLine_eq
 cases x with
 | non =>
  cases rx
  have e':k=false:=e
  subst e'
  exact truthy_none ⟨H,I,q⟩
 | bl b =>
  cases rx
  have e':k=b:=e
  subst e'
  exact wpAny_truthy_bool ⟨H,I,q⟩
 | int i =>
  obtain⟨t,rfl⟩:=rx
  have e':k=(i != 0):=e
  subst e'
  exact PySem.P.truthy_int ⟨H,I,q⟩
 | str y =>
  obtain⟨t,rfl⟩:=rx
  obtain⟨hy,e'⟩:y.length<=sizeLine/\k=((y.length:Int) != 0):=e
  subst e'
  exact PySem.P.truthy_str (by omega) ⟨H,I.tok _,q⟩
 | byt y =>
  obtain⟨t,rfl⟩:=rx
  obtain⟨hy,e'⟩:y.size<=sizeLine/\k=((y.size:Int) != 0):=e
  subst e'
  exact PySem.W.truthy_bytes (by omega) ⟨H,I.tok _,q⟩
 | ref p =>
  cases rx
  have e':(∃xs,kN X.K H p xs/\k=!xs.isEmpty)\/(∃xs,kr X.K H p xs/\k=!xs.isEmpty)\/∃kvs,H p=some (.dK kvs)/\k=!kvs.isEmpty:=e
  rcases e' with ⟨xs,hx,e'⟩ | ⟨xs,hx,e'⟩ | ⟨kvs,hx,e'⟩
  ·subst e'
   obtain⟨its,r,pl,hz⟩:=I.list hx
   have hlen:=r.length
   exact wpAny_truthy_list pl.isList (by simp only[List.size_toArray];omega) ⟨H,I.tok _,by rw[oA r];exact q⟩
  ·subst e'
   obtain⟨its,r,pl,hz⟩:=I.tuple hx
   have hlen:=r.length
   exact truthy_tuple pl (by simp only[List.size_toArray];omega) ⟨H,I.tok _,by rw[oA r];exact q⟩
  ·subst e'
   obtain⟨hz,hS,vs,r,m⟩:kvs.length<=sizeLine/\(p==sysModules)=false/\∃vs,KV kvs vs/\s.heap.DictOf (je X.prog X.w) p vs:=I.hok p _ hx
   have hlen:kvs.length=vs.length:=Paired.length r
   exact wpAny_truthy_dict hS m (by omega) ⟨H,I.tok _,by rw[se r];exact q⟩
 | _=>exact(show False from e).elim
theorem gc(ha:PE X a ta)(he:∀whole,isTrue a X.env whole=(do let v <- whole;standAt a.pos;holding [v] (truthy v))) :
  PT X a (fun σ H Q=>ta σ H fun x H'=>∃k,yz X.K x H' k/\Q k H'):=by
 intro pins s σ H Q I h
 exact isTrue_plain (jC (ha pins s σ H _ I h) fun v s1 ⟨x,H1,I1,r1,q1⟩=>zw pins s1 σ H1 x v Q I1 r1 q1) (he _)
theorem sA:OpR X (binaryOp .Add) (fun x y H Q=>∃i j,x=.str i/\y=.str j/\i.length+j.length<=sizeLine/\Q (.str (i++j)) H):=by
 intro pins s σ H x y v u Q I rx ry h
 obtain⟨i,j,rfl,rfl,hz,q⟩:=h
 obtain⟨t,rfl⟩:=rx
 obtain⟨t',rfl⟩:=ry
 exact add_str (fun t' tk=>⟨.str (i++j),H,I.tok _,⟨_,rfl⟩,q⟩) hz
theorem vals1{x:V}{us:List Value}(r:jg [x] us):∃u,us=[u]/\RelV x u:=by
 cases r with
 | cons r1 r2=>cases r2;exact⟨_,rfl,r1⟩
theorem vals2{x y:V}{us:List Value}(r:jg [x,y] us):∃u w',us=[u,w']/\RelV x u/\RelV y w':=by
 cases r with
 | cons r1 r2 =>
  cases r2 with
  | cons r3 r4=>cases r4;exact⟨_,_,rfl,r1,r3⟩
end
end L2
namespace L2
open PySem PySem.Spec PyProof.Rows
section
variable{prog:Program}{w:World}{A:Around}{E:Value->Shared->Prop}{s:Shared}{K:PySem.W.Frag}{x dx C f:Addr}{mA:Str->Option Value}{name:Str}{v:Value}
end
theorem nM.some_of{v:V}{o:Option Value}(r:nM (some v) o):∃u,o=some u/\RelV v u:=by
 cases o with
 | none=>exact(show False from r).elim
 | some u=>exact⟨u,rfl,r⟩
section
variable{P:Program}{w:World}{H H':Hp}{h h':Heap}{a C dx:Addr}{fs fs':List (Str×V)}
end
structure Cm (K:PySem.W.Frag) (C:Addr):Prop where
 pg:PySem.W.plainGet K C Str.empty=true
 hd:PySem.W.hasDictIn K C=true
 po:PySem.W.plainOver K C=true
 sa:PySem.W.findIn K (.ref C) "__setattr__" = some (some (.builtin "object.__setattr__"))
theorem Cm.get{K:PySem.W.Frag}{C:Addr}(c:Cm K C)(f:Str):PySem.W.plainGet K C f=true:=c.pg
structure Ad (K:PySem.W.Frag) (C:Addr) (f:Str) (v:V) (u:Value):Prop where
 at_:PySem.W.findIn K (.ref C) f=some (some u)
 rel:RelV v u
 get:PySem.W.specialIn K u "__get__" = some none
 cp:PySem.W.copiedNames.contains f=false
section
variable{X:Cx}{pins:List (Addr×Obj)}{σ:St}{H:Hp}{s:Shared}{a C dx:Addr}{fs:List (Str×V)}{f:Str}{v:V}{A:Around}{E:Value->Shared->Prop}
theorem Inv.made(I:Inv X pins σ H s):Inv X pins σ (upd (upd H s.heap.objs.size (.own (s.heap.objs.size+1))) (s.heap.objs.size+1) (.ins C s.heap.objs.size []))
  {s with heap:=(s.heap.push PySem.W.emptyDict).push (PySem.W.instObj C s.heap.objs.size)}:=by
 have e1:(s.heap.push PySem.W.emptyDict).get? s.heap.objs.size=some PySem.W.emptyDict:=Heap.get?_push_size s.heap rfl
 have e2:((s.heap.push PySem.W.emptyDict).push (PySem.W.instObj C s.heap.objs.size)).get? (s.heap.objs.size+1)=some (PySem.W.instObj C s.heap.objs.size):=by
  have:=Heap.get?_push_size (s.heap.push PySem.W.emptyDict) (o:=PySem.W.instObj C s.heap.objs.size) rfl
  rwa [Heap.size_push] at this
 have e3:(s.heap.push PySem.W.emptyDict).Ns s.heap.objs.size (fun _=>none):=⟨PySem.W.emptyDict,#[],_,e1,rfl,(fun e he=>absurd he (by simp)),fun _=>rfl⟩
 have I1:=I.laid (a:=s.heap.objs.size) (o:=.own (s.heap.objs.size+1)) (h':=s.heap.push PySem.W.emptyDict) (t':=s.toks) (fun b u q=>Heap.get?_push_of_some _ q) (Nat.le_refl _) ⟨_,e1⟩
 refine I1.laid (a:=s.heap.objs.size+1) (o:=.ins C s.heap.objs.size []) (t':=s.toks) (fun b u q=>Heap.get?_push_of_some _ q) (Nat.le_of_eq (Heap.size_push _ _)) ?_
 have ne:s.heap.objs.size≠s.heap.objs.size+1:=Nat.ne_of_lt (Nat.lt_succ_self _)
 refine⟨by rw[ai ne,ae],Nat.zero_le _,ne,e2,fun _=>none,(Heap.Ns1.of_empty e3).at fun o q=>Heap.get?_push_of_some _ q,fun _=>True.intro,fun y hy=>absurd rfl hy⟩
end
section
variable{X:Cx}{o e value:Expr}{f:Str}{pos pos' tpos:Pos}{ta tv:TE}
end
section
variable{X:Cx}{pins:List (Addr×Obj)}{σ:St}{H:Hp}{s:Shared}{A:Around}{E:Value->Shared->Prop}{Q:Value->Shared->Prop}{c:Value}{b:Bool}
end
end L2
namespace L2
open PySem PySem.Spec PyProof.Rows
structure jy (k:Nat) (A:Around):Prop where
 hd:A.handled=none
 dp:A.depth+3*k+5<recursionLimit
 un:A.units+16*k+200<cLine
 gd:A.guards=some []
theorem jy.mono{j k:Nat}{A:Around}(r:jy k A)(h:j<=k):jy j A:=⟨r.hd,by have:=r.dp;omega,by have:=r.un;omega,r.gd⟩
theorem jy.deeper{k:Nat}{A:Around}(r:jy (k+1) A)(env:Env):jy k (A.deeper env):=
 ⟨r.hd,by have:=r.dp;show A.depth+1+3*k+5<_;omega,by have:=r.un;show A.units+3+16*k+200<_;omega,r.gd⟩
theorem jy.in1{k:Nat}{A:Around}(r:jy (k+1) A):jy k A.in1:=
 ⟨r.hd,by have:=r.dp;show A.depth+3*k+5<_;omega,by have:=r.un;show A.units+1+16*k+200<_;omega,r.gd⟩
theorem sG{A:Around}{C:Addr}{us:List Value}{kw:List (Str×Value)}:(A.under (.builtin "type.__call__" ⟨.ref C::us,kw⟩)).depth=A.depth+1:=by
 first | rfl | simp[Around.under,Code.weight,Code.isCreation,Code.isGuard,Code.isCaller,Code.frames,Code.isFrame,guardIds]
theorem sy{A:Around}{C:Addr}{us:List Value}{kw:List (Str×Value)}:(A.under (.builtin "type.__call__" ⟨.ref C::us,kw⟩)).units=A.units+1:=by
 first | rfl | simp[Around.under,Code.cUnits,Code.frames,Code.isFrame]
theorem jy.make{k:Nat}{A:Around}(r:jy (k+1) A)(C:Addr)(us:List Value)(kw:List (Str×Value)):jy k (A.under (.builtin "type.__call__" ⟨.ref C::us,kw⟩)):=
 ⟨r.hd,by have:=r.dp;rw[sG];omega,by have:=r.un;rw[sy];omega,by show pushGuards (Code.guards (.builtin "type.__call__" ⟨.ref C::us,kw⟩)) A.guards=_;rw[r.gd];first | rfl | simp[Code.guards,Code.isGuard,guardIds,pushGuards]⟩
theorem jy.depth{k:Nat}{A:Around}(r:jy k A):A.depth<recursionLimit:=by have:=r.dp;omega
theorem jy.units{k:Nat}{A:Around}(r:jy k A):A.units+64<cLine:=by have:=r.un;omega
theorem jy.units0{k:Nat}{A:Around}(r:jy k A):A.units<cLine:=by have:=r.un;omega
def Bg:TA:=fun _ H Q=>Q [] H
def z0(ta:TE)(tr:TA):TA:=fun σ H Q=>ta σ H fun x H1=>tr σ H1 fun xs H2=>Q (x::xs) H2
section
variable{X:Cx}{e:Expr}{es:List Expr}{te:TE}{t:TA}{pos:Pos}
theorem sd:PA X [] Bg:=fun _ _ _ _ H Q I h=>Calls.spliced_nil ⟨[],H,I,.nil,h⟩
theorem ca(ha:PE X e te)(hr:PA X es t)(hs:starEach (e::es) X.env=(false,eval e X.env)::starEach es X.env:=by rfl):PA X (e::es) (z0 te t):=by
 intro pos pins s σ H Q I h
 rw[hs]
 show wpAny _ _ (spliced ((false,eval e X.env)::backTo pos (starEach es X.env))) _ _ s
 refine Calls.spliced_cons (jC (ha pins s σ H _ I h) fun u s1 ⟨x,H1,I1,r1,q1⟩=>?_)
 exact jC (hr pos pins s1 σ H1 _ I1 q1) fun us s2 ⟨xs,H2,I2,r2,q2⟩=>⟨x::xs,H2,I2,.cons r1 r2,q2⟩
def BW(t:TA):TE:=fun σ H Q=>t σ H fun xs H1=>xs.length<=sizeLine/\∀p,H1 p=none->Q (.ref p) (upd H1 p (.tup xs))
def Bn(t:TA):TE:=fun σ H Q=>t σ H fun xs H1=>xs.length<=sizeLine/\∀p,H1 p=none->Q (.ref p) (upd H1 p (.lst xs))
theorem ik{x1}(h:PA X es t):PE X (.Tuple es x1 pos) (BW t):=by
 intro pins s σ H Q I hq
 refine wpAny_Tuple_spliced (jC (h pos pins s σ H _ I hq) fun us s1 ⟨xs,H1,I1,r,z,q⟩=>⟨by rw[<- r.length];exact z,?_⟩)
 have hf:H1 s1.heap.objs.size=none:=I1.hok.fresh (Nat.le_refl _)
 refine⟨.ref s1.heap.objs.size,upd H1 s1.heap.objs.size (.tup xs),I1.laid (t':=s1.toks) (fun b u e=>Heap.get?_push_of_some _ e) (Nat.le_refl _) ?_,rfl,q _ hf⟩
 exact⟨z,us,r,⟨_,Heap.get?_push_size _ rfl,rfl,⟨_,rfl⟩,rfl⟩⟩
theorem cq(h:PA X es t):PE X (.List es pos) (Bn t):=by
 intro pins s σ H Q I hq
 refine wpAny_List_spliced (jC (h pos pins s σ H _ I hq) fun us s1 ⟨xs,H1,I1,r,z,q⟩=>⟨by rw[<- r.length];exact z,?_⟩)
 have hf:H1 s1.heap.objs.size=none:=I1.hok.fresh (Nat.le_refl _)
 refine⟨.ref s1.heap.objs.size,upd H1 s1.heap.objs.size (.lst xs),I1.laid (t':=s1.toks) (fun b u e=>Heap.get?_push_of_some _ e) (Nat.le_refl _) ?_,rfl,q _ hf⟩
 exact⟨z,us,0,r,Heap.get?_push_size _ rfl⟩
end
abbrev Sp:=List V->Hp->VK->XK->Prop
abbrev rm:=List Env->Hp->Shared->XK->Value->Shared->Prop
structure m9 (P:Program) (w:World) (K:PySem.W.Frag) (mg:Str->Option Value) (base:Heap) (A:Around) (outer:List Env) (s:Shared) (H:Hp):Prop where
 frames:A.frames=some outer
 mod:Mod K mg base
 bs:∀b o,base.get? b=some o->s.heap.get? b=some o/\H b=none
 bsz:base.objs.size<=s.heap.objs.size
 funs:s.heap.FunFrames base outer
 frf:∀b∈tH outer,H b=none
 hok:mh P w H s.heap
 bare:AllBare s.gens
def CE(outer:List Env)(P:Program)(w:World)(H:Hp)(s:Shared)(Q:VK)(u:Value)(s':Shared):Prop:=
 ∃v H',s'.os=s.os/\AllBare s'.gens/\Un (tH outer) [] H H' s.heap s'.heap/\mh P w H' s'.heap/\RelV v u/\Q v H'
def CR(CX:rm)(outer:List Env)(P:Program)(w:World)(H:Hp)(s:Shared)(Q:VK)(E:XK)(r:Result)(s':Shared):Prop:=
 match r with
 | .ok (.ret u)=>CE outer P w H s Q u s'
 | .ok _=>False
 | .error e=>CX outer H s E e s'
structure jx (P:Program) (w:World) (K:PySem.W.Frag) (mg:Str->Option Value) (base:Heap) (CX:rm) (k:Nat) (f:Addr) (fd:FuncData) (ps:List Str) (sp:Sp):Prop where
 len:∀vs H Q E,sp vs H Q E->vs.length=ps.length
 run:∀(A:Around) (outer:List Env) (s:Shared) (H:Hp) (args:Args) (us:List Value) (vs:List V) (Q:VK) (E:XK),jy k A->m9 P w K mg base A outer s H->BindsTo s fd args (ps.zip us)->jg vs us->sp vs H Q E ->
  codeAny (model P w) A (.call (.ref f) args) (CR CX outer P w H s Q E) s
theorem jx.mono{P:Program}{w:World}{K:PySem.W.Frag}{mg:Str->Option Value}{base:Heap}{CX:rm}{j k:Nat}{f:Addr}{fd:FuncData}{ps:List Str}{sp:Sp}(F:jx P w K mg base CX j f fd ps sp)(h:j<=k) :
  jx P w K mg base CX k f fd ps sp:=⟨F.len,fun A outer s H args us vs Q E hr=>F.run A outer s H args us vs Q E (hr.mono h)⟩
theorem jx.imp{P:Program}{w:World}{K:PySem.W.Frag}{mg:Str->Option Value}{base:Heap}{CX:rm}{k:Nat}{f:Addr}{fd:FuncData}{ps:List Str}{sp sp':Sp}(F:jx P w K mg base CX k f fd ps sp)
  (h:∀vs H Q E,sp' vs H Q E->sp vs H Q E):jx P w K mg base CX k f fd ps sp':=
 ⟨fun vs H Q E q=>F.len vs H Q E (h _ _ _ _ q),fun A outer s H args us vs Q E hr he hb hv hs=>F.run A outer s H args us vs Q E hr he hb hv (h _ _ _ _ hs)⟩
theorem m9.make{P:Program}{w:World}{K:PySem.W.Frag}{mg:Str->Option Value}{base:Heap}{A:Around}{outer:List Env}{s:Shared}{H:Hp}(e:m9 P w K mg base A outer s H)(C:Addr)(us:List Value)(kw:List (Str×Value)) :
  m9 P w K mg base (A.under (.builtin "type.__call__" ⟨.ref C::us,kw⟩)) outer s H:=⟨by first | exact e.frames | (simpa [Around.under,Code.envs,Code.isFrame,pushEnvs] using e.frames),e.mod,e.bs,e.bsz,e.funs,e.frf,e.hok,e.bare⟩
theorem m9.in1{P:Program}{w:World}{K:PySem.W.Frag}{mg:Str->Option Value}{base:Heap}{A:Around}{outer:List Env}{s:Shared}{H:Hp}(e:m9 P w K mg base A outer s H) :
  m9 P w K mg base A.in1 outer s H:=⟨e.frames,e.mod,e.bs,e.bsz,e.funs,e.frf,e.hok,e.bare⟩
section
variable{X:Cx}{pins:List (Addr×Obj)}{σ:St}{H:Hp}{s s':Shared}
theorem Inv.env0(I:Inv X pins σ H s):m9 X.prog X.w X.K X.mg X.base X.A X.stack s H:=
 ⟨I.ok.frames,I.ok.mod,I.bs,Nat.le_trans I.ok.bsz I.sz,I.stack,I.stkFree,I.hok,I.bare⟩
theorem Inv.after{Q:VK}{u:Value}(I:Inv X pins σ H s)(h:CE X.stack X.prog X.w H s Q u s'):EP X pins σ Q u s':=by
 obtain⟨v,H',os,bare,un,hok,r,q⟩:=h
 obtain⟨hh,g,d,t,os'⟩:=s'
 obtain rfl:os'=s.os:=os
 exact⟨v,H',I.call (h':=hh) (g':=g) (d':=d) (t':=t) (ch:=[]) un hok bare (fun b z=>absurd z (by simp)),r,q⟩
end
def AT(sp:Sp)(dvs:List V)(E:XK)(t:TA):TE:=fun σ H Q=>t σ H fun vs H1=>sp (vs++dvs) H1 Q E
def Binds(K:PySem.W.Frag)(fd:FuncData)(ps:List Str)(ds:List Value):Prop:=
 ∀(s:Shared) (us:List Value),K.In s.heap->(us++ds).length=ps.length->BindsTo s fd ⟨us,[]⟩ (ps.zip (us++ds))
theorem Binds.all{K:PySem.W.Frag}{fd:FuncData}{ps:List Str}(h:∀us:List Value,us.length=ps.length->bindArgs fd ⟨us,[]⟩=pure (ps.zip us)):Binds K fd ps []:=fun s us _ hl=>by
 rw[List.append_nil] at hl ⊢
 exact .of_eq (h us hl)
def sM(CX:rm)(X:Cx)(E:XK):Prop:=∀(pins:List (Addr×Obj)) (σ:St) (H:Hp) (s:Shared) (e:Value) (s':Shared),Inv X pins σ H s->CX X.stack H s E e s'->X.xe e s'
section
variable{X:Cx}{CX:rm}{k:Nat}{f C:Addr}{fd:FuncData}{ps:List Str}{sp:Sp}{dvs:List V}{ds:List Value}{E:XK}{x m:Str}{p pos apos:Pos}{e o:Expr}{es:List Expr}{ta:TE}{t:TA}
theorem wo{pins:List (Addr×Obj)}{σ:St}{H:Hp}{s:Shared}{Q:VK}{us:List Value}{vs:List V}(F:jx X.prog X.w X.K X.mg X.base CX k f fd ps sp)(hr:jy k X.A)(hb:Binds X.K fd ps ds)(hd:jg dvs ds)(hx:sM CX X E)
  (I:Inv X pins σ H s) (r:jg vs us) (h:sp (vs++dvs) H Q E):wpAny (model X.prog X.w) X.A (call (.ref f) us) (EP X pins σ Q) X.xe s:=by
 have r2:jg (vs++dvs) (us++ds):=r.append hd
 have hl:(us++ds).length=ps.length:=by rw[<- r2.length];exact F.len _ _ _ _ h
 refine wpAny_call (codeAny_mono (F.run X.A X.stack s H ⟨us,[]⟩ (us++ds) (vs++dvs) Q E hr I.env0 (hb s us I.kIn hl) r2 h) fun r s' hq=>?_)
 cases r with
 | error e=>exact hx pins σ H s e s' I hq
 | ok fl =>
  cases fl with
  | ret u=>exact I.after hq
  | next=>exact False.elim hq
  | brk=>exact False.elim hq
  | cont=>exact False.elim hq
theorem du(F:jx X.prog X.w X.K X.mg X.base CX k f fd ps sp)(hr:jy k X.A)(hg:Gl X x)(hm:X.mg x=some (.ref f))(hk:PySem.W.keepIn X.K (.ref f)=true)(hb:Binds X.K fd ps ds)(hd:jg dvs ds)(hx:sM CX X E)
  (ha:PA X (e::es) t) (hdb:(x==("__debug__" : Str))=false:=by decide) (he:starEach (e::es) X.env=(false,eval e X.env)::starEach es X.env:=by rfl) (hpl:(backTo pos (starEach es X.env)).any (·.1)=false:=by rfl) :
  PE X (.Call (.Name x p) (e::es) [] pos) (AT sp dvs E t):=by
 intro pins s σ H Q I h
 refine wpAny_Call_Name_kw (dt I hg hm ?_ hdb)
 refine PySem.W.callWith_K (h₀:=X.base) I.ok.mod.kin hk (jC (ha pos pins s σ H _ I h) fun us s1 ⟨vs,H1,I1,r,q⟩=>⟨I1.kIn,?_⟩) he hpl
 exact wo F hr hb hd hx I1 r q
end
def PK(X:Cx)(kws:List Keyword)(t:TA):Prop:=
 ∀(pos:Pos) (pins:List (Addr×Obj)) (s:Shared) (σ:St) (H:Hp) (Q:List V->Hp->Prop),Inv X pins σ H s->t σ H Q->wpAny (model X.prog X.w) X.A (evalAll ((backToKw pos (keywordEach kws X.env)).map (·.2))) (AP X pins σ Q) X.xe s
section
variable{X:Cx}{CX:rm}{k:Nat}{f C:Addr}{fd:FuncData}{ps ks:List Str}{sp:Sp}{E:XK}{x m:Str}{p pos apos kpos:Pos}{e o:Expr}{es:List Expr}{kws:List Keyword}{te ta:TE}{t tk:TA}{nm:Option Str}
variable{g:List Value->List Value->List Value}{gV:List V->List V->List V}
end
structure jm (N P:List Str) (sc:Scope):Prop where
 kind:sc.kind=.function
 co:sc.isCoroutine=false
 gen:sc.isGenerator=false
 nd:N.Nodup
 pre:N.take P.length=P
 par:∀x∈P,sc.names.lookup x=some .local\/sc.names.lookup x=some .cell
 nofree:∀y∈sc.names,y.2≠.free
theorem rE{N P:List Str}{sc:Scope}(h1:N.Nodup:=by decide +kernel)(h2:∀x∈P,sc.names.lookup x=some .local\/sc.names.lookup x=some .cell:=by decide +kernel)(h3:∀y∈sc.names,y.2≠.free:=by decide +kernel)(k:sc.kind=.function:=by rfl)(c:sc.isCoroutine=false:=by rfl)(g:sc.isGenerator=false:=by rfl)(p:N.take P.length=P:=by rfl):jm N P sc:=⟨k,c,g,h1,p,h2,h3⟩
theorem pB{kindOf:Str->Option NameKind}{x:Str}:∀{binds:List (Str×Value)} {m:Str->Option Value},(∀v,(x,v)∉binds)->bindL kindOf binds m x=m x
 | [],_,_=>rfl
 | (n,v)::r,m,h=>by
  unfold bindL
  rw[pB fun w hw=>h w (List.mem_cons_of_mem _ hw)]
  split
  ·have:x≠n:=by rintro rfl;exact h v List.mem_cons_self
   simp[this]
  ·rfl
theorem pG{kindOf:Str->Option NameKind}{x:Str}:∀{binds:List (Str×Value)} {m:Str->Option Value},(∀v,(x,v)∉binds)->bindC kindOf binds m x=m x
 | [],_,_=>rfl
 | (n,v)::r,m,h=>by
  unfold bindC
  rw[pG fun w hw=>h w (List.mem_cons_of_mem _ hw)]
  split
  ·rfl
  ·have:x≠n:=by rintro rfl;exact h v List.mem_cons_self
   simp[this]
theorem pJ{kindOf:Str->Option NameKind}{x:Str}{v:Value}:∀{P:List Str} {vs:List Value} {i:Nat} {m:Str->Option Value},P.Nodup->P[i]?=some x->vs[i]?=some v->kindOf x=some .local ->
  bindL kindOf (P.zip vs) m x=some v
 | [],_,_,_,_,h,_,_=>by simp at h
 | _::_,[],_,_,_,_,h,_=>by simp at h
 | p::P,w::vs,0,m,nd,h1,h2,hk=>by
  simp at h1 h2;subst h1;subst h2
  show bindL kindOf ((p,w)::P.zip vs) m p=_
  unfold bindL
  rw[pB fun v hv=>(List.nodup_cons.mp nd).1 (List.of_mem_zip hv).1,if_pos hk]
  simp
 | p::P,w::vs,i+1,m,nd,h1,h2,hk=>by
  show bindL kindOf ((p,w)::P.zip vs) m x=_
  unfold bindL
  exact pJ (i:=i) (List.nodup_cons.mp nd).2 (by simpa using h1) (by simpa using h2) hk
theorem pM{kindOf:Str->Option NameKind}{x:Str}{v:Value}:∀{P:List Str} {vs:List Value} {i:Nat} {m:Str->Option Value},P.Nodup->P[i]?=some x->vs[i]?=some v->kindOf x≠some .local ->
  bindC kindOf (P.zip vs) m x=some v
 | [],_,_,_,_,h,_,_=>by simp at h
 | _::_,[],_,_,_,_,h,_=>by simp at h
 | p::P,w::vs,0,m,nd,h1,h2,hk=>by
  simp at h1 h2;subst h1;subst h2
  show bindC kindOf ((p,w)::P.zip vs) m p=_
  unfold bindC
  rw[pG fun v hv=>(List.nodup_cons.mp nd).1 (List.of_mem_zip hv).1,if_neg hk]
  simp
 | p::P,w::vs,i+1,m,nd,h1,h2,hk=>by
  show bindC kindOf ((p,w)::P.zip vs) m x=_
  unfold bindC
  exact pM (i:=i) (List.nodup_cons.mp nd).2 (by simpa using h1) (by simpa using h2) hk
def start(N:List Str)(vs:List V):St:=vs.map some++List.replicate (N.length - vs.length) none
def nN(CX:rm)(P:Program)(w:World)(K:PySem.W.Frag)(mg:Str->Option Value)(base:Heap)(N:List Str)(qual:Str)(scope:Scope)(f:Addr)(cd:Value)(A:Around)(outer:List Env)(s:Shared)(H:Hp)(E:XK):Cx where
 prog:=P
 w:=w
 K:=K
 mg:=mg
 base:=base
 A:=A.deeper (envOfC qual scope s.heap.objs.size f cd)
 N:=N
 s₀:=s
 H₀:=H
 env:=envOfC qual scope s.heap.objs.size f cd
 outer:=outer
 stack:=envOfC qual scope s.heap.objs.size f cd::outer
 ex:=[]
 calm:=true
 fn:=fun _=>true
 pn:=[]
 xe:=fun e s'=>wpAny (model P w) (A.deeper (envOfC qual scope s.heap.objs.size f cd)) (leaving (envOfC qual scope s.heap.objs.size f cd) e) (fun _ s''=>CX outer H s E e s'') (fun e' s''=>CX outer H s E e' s'') s'
theorem rC{sc:Scope}{n:Nat}{x:Str}(h:sc.names.lookup x=some .cell):∃c,(cellsFrom n sc.names []).lookup x=some c:=by
 have q:=PySem.W.cellsFrom_some sc.names n [] (.inl h)
 exact Option.isSome_iff_exists.mp q
theorem ux{CX:rm}{P:Program}{w:World}{K:PySem.W.Frag}{mg:Str->Option Value}{base:Heap}{N ps:List Str}{qual:Str}{scope:Scope}{f:Addr}{cd:Value}{A:Around}{outer:List Env}{s s1:Shared}{H:Hp}{E:XK}{us:List Value}{vs:List V}
  (S:jm N ps scope) (hd:A.handled=none) (e0:m9 P w K mg base A outer s H) (hl:vs.length=ps.length) (r:jg vs us)
  (x:InCallC s s.heap.objs.size (bindL (envOfC qual scope s.heap.objs.size f cd).kindOf (ps.zip us) fun _=>none) (cellsFrom (s.heap.objs.size+1) scope.names []) (bindC (envOfC qual scope s.heap.objs.size f cd).kindOf (ps.zip us) fun _=>none) s1) :
  Inv (nN CX P w K mg base N qual scope f cd A outer s H E) [] (start N vs) H s1:=by
 have hpl:ps.length<=N.length:=by have:=congrArg List.length S.pre;rw[List.length_take] at this;omega
 obtain⟨h1,tk,rfl,hk⟩:=x.done
 have noA:∀b:Addr,b∉(nN CX P w K mg base N qual scope f cd A outer s H E).ex:=fun b z=>absurd (show b∈([]:List Addr) from z) (by simp)
 refine⟨⟨e0.mod,S.kind,rfl,rfl,Nat.le_refl _,fun y z c h1 h2=>?_,fun y hy=>?_,fun y c _ h=>?_,fun _=>hd,Around.frames_deeper e0.frames,.inr ⟨rfl,rfl⟩,fun b z=>absurd z (noA b),e0.bs,e0.bsz,fun b _ _=>noA b,fun b z=>absurd z (noA b),e0.funs,e0.frf⟩,
  rfl,e0.bare,Un.kept hk,⟨_,x.toInCall.ns,fun i y v h1 h2 h3=>?_⟩,fun y c h=>⟨_,x.cell y c h⟩,e0.hok.fresh (Nat.le_refl _),fun y c h=>?_,fun p hp=>absurd (show p∈([]:List (Addr×Obj)) from hp) (by simp),e0.hok.kept hk,?_⟩
 ·exact name_of_addr x.apart (PySem.mem_of_lookup h1) (PySem.mem_of_lookup h2)
 ·have hy:scope.names.lookup y=some .cell\/scope.names.lookup y=some .free:=hy
  rcases hy with hy | hy
  ·exact rC hy
  ·exact absurd rfl (S.nofree _ (PySem.mem_of_lookup hy))
 ·exact Nat.le_of_lt (x.above y c (PySem.mem_of_lookup h))
 ·have hi:i<vs.length:=by
   unfold start at h2
   by_cases hi:i<vs.length
   ·exact hi
   ·rw[List.getElem?_append_right (by simpa using hi)] at h2
    rw[List.getElem?_replicate] at h2
    split at h2<;>cases h2
  have ha:vs[i]?=some v:=by
   unfold start at h2
   rw[List.getElem?_append_left (by simpa using hi),List.getElem?_map] at h2
   cases e:vs[i]? with
   | none=>rw[e] at h2;cases h2
   | some a=>rw[e] at h2;cases h2;rfl
  obtain⟨u,hu,rv⟩:=r.get ha
  have hp:ps[i]?=some y:=by
   rw[<- S.pre,List.getElem?_take_of_lt (by omega)];exact h1
  have ndP:ps.Nodup:=by rw[<- S.pre];exact S.nd.sublist (List.take_sublist _ _)
  refine⟨u,rv,?_⟩
  rcases S.par y (List.mem_of_getElem? hp) with k | k
  ·exact .inl ⟨k,pJ ndP hp hu k⟩
  ·obtain⟨c,e⟩:=rC (n:=s.heap.objs.size+1) k
   refine .inr ⟨.inl k,c,e,?_⟩
   have q:=x.cell y c e
   rw[pM ndP hp hu (by show scope.names.lookup y≠_;rw[k];decide)] at q
   exact q
 ·exact e0.hok.fresh (Nat.le_of_lt (x.above y c (PySem.mem_of_lookup h)))
 ·unfold start
  show _=N.length
  rw[List.length_append,List.length_map,List.length_replicate]
  omega
theorem ia {CX:rm} {P:Program} {w:World} {K:PySem.W.Frag} {mg:Str->Option Value} {base:Heap} {k:Nat} {f:Addr} {name qual:Str} {params:Arguments} {body:List Stmt} {scope:Scope} {dV kV doc pm cdv ct oc:Value} {an od:Option Addr}
    {osl:Array (Option Value)} {N ps:List Str} {sp:Sp} (lk:K.lookup f=some ⟨oc,od,.func (PySem.W.fnOf name qual params body scope dV kV doc pm an cdv ct),osl⟩) (hcd:PySem.W.codeIn K cdv qual=true) (S:jm N ps scope)
    (len:∀vs H Q E,sp vs H Q E->vs.length=ps.length)
    (hbody:∀(A:Around) (outer:List Env) (s:Shared) (H:Hp) (vs:List V) (Q:VK) (E:XK),jy k (A.deeper (envOfC qual scope s.heap.objs.size f cdv))->sp vs H Q E ->
      ∃t,PSs (nN CX P w K mg base N qual scope f cdv A outer s H E) body t/\t {nx:=fun _ H'=>Q .non H',rt:=Q} (start N vs) H) :
    jx P w K mg base CX (k+1) f (PySem.W.fnOf name qual params body scope dV kV doc pm an cdv ct) ps sp:=by
  refine⟨len,fun A outer s H args us vs Q E hr e0 hb r hsp=>?_⟩
  have hl:=len _ _ _ _ hsp
  have KX:K.In s.heap:=e0.mod.kin.keeps fun b o e=>(e0.bs b o e).1
  have lim:s.heap.NoLimit:=e0.mod.nolimit.keeps fun b o e=>(e0.bs b o e).1
  have hkind:∀y∈ps.zip us,scope.names.lookup y.1=some .local\/(scope.names.lookup y.1=some .cell/\((cellsFrom (s.heap.objs.size+1) scope.names []).lookup y.1).isSome=true):=fun ⟨n,v⟩ hy=>by
    rcases S.par n (List.of_mem_zip hy).1 with q | q
    · exact .inl q
    · exact .inr ⟨q,PySem.W.cellsFrom_some _ _ _ (.inl q)⟩
  refine codeAny_call_function hr.depth (KX _ _ lk) rfl S.co S.gen rfl (PySem.W.codeRec_of KX hcd) (hb _ _ _ _ ?_)
  refine wpAny_newFunctionEnv_cells S.kind hkind fun env he s1 x=>?_
  subst he
  refine⟨lim.keeps x.toInCall.keep,codeAny_func ?_⟩
  obtain⟨t,ht,hq⟩:=hbody A outer s H vs Q E (hr.deeper _) hsp
  have I:Inv (nN CX P w K mg base N qual scope f cdv A outer s H E) [] (start N vs) H s1:=ux S hr.hd e0 hl r x
  refine wpAny_mono (ht [] s1 (start N vs) H _ I hq) (fun fl s' hs=>?_) fun e s' hs=>hs
  have fin:∀{σ':St} {H':Hp} {v:V} {u:Value},Inv (nN CX P w K mg base N qual scope f cdv A outer s H E) [] σ' H' s'->RelV v u->Q v H'->CE outer P w H s Q u s':=
    fun {σ' H' v u} J rv q=>⟨v,H',J.os,J.bare,J.base,J.hok,rv,q⟩
  cases fl with
  | ret u =>
    obtain⟨v,σ',H',J,rv,q⟩:=hs
    exact fin J rv q
  | next =>
    obtain⟨σ',H',J,q⟩:=hs
    exact fin (v:=V.non) (u:=Value.none) J rfl q
  | brk =>
    obtain⟨_,_,_,q⟩:=hs
    exact False.elim q
  | cont =>
    obtain⟨_,_,_,q⟩:=hs
    exact False.elim q
end L2
namespace L2
open PySem PySem.Spec PyProof.Rows
section
variable{X:Cx}{x:Str}{p pos:Pos}{e:Expr}{es:List Expr}{t:TA}{id T:String}{r:List V->Hp->VK->Prop}
def CH(r:List V->Hp->VK->Prop)(t:TA):TE:=fun σ H Q=>t σ H fun vs H1=>r vs H1 Q
theorem dX(hc:CallR X (.builtin id) r)(hg:Gl X x)(hm:X.mg x=none)(hv:bootBuiltins x=some (.builtin id))(ha:PA X (e::es) t)(hn:x ≠ "__name__":=by decide)(hdb:(x==("__debug__" : Str))=false:=by decide)
  (he:starEach (e::es) X.env=(false,eval e X.env)::starEach es X.env:=by rfl) (hpl:(backTo pos (starEach es X.env)).any (·.1)=false:=by rfl):PE X (.Call (.Name x p) (e::es) [] pos) (CH r t):=by
 intro pins s σ H Q I h
 refine wpAny_Call_Name_kw (bL I hg hm hv ?_ hn hdb)
 exact PyProof.Rows.callWith_builtin1 (jC (ha pos pins s σ H _ I h) fun us s1 ⟨vs,H1,I1,r1,q1⟩=>hc pins s1 σ H1 vs us Q I1 r1 q1) he hpl
end
end L2
namespace HT
open PySem PyProof.Rows
section
open PySem.SeqAt
open PySem.AutoSeq1 (wpAny_loadPart')
open PySem.MeetsSeq PySem.MeetsSeq2 PySem.MeetsSeq3
end
section
variable{prog:Program}{w:World}{A:Around}{E:Value->Shared->Prop}{s:Shared}
theorem cat_tup{t b:Addr}{vs ws:List Value}{Q:Value->Shared->Prop}(ht:IsTup s.heap t vs.toArray)(hb:IsTup s.heap b ws.toArray)(hv:vs ≠ [])
  (h1:ws=[]->Q (.ref t) s) (h2:ws ≠ []->Q (.ref s.heap.objs.size) {s with heap:=s.heap.push {cls:=.type "tuple",data:=.seq (vs++ws).toArray} })
  (hsz:vs.length+ws.length<=sizeLine):wpAny (model prog w) A (binaryOp .Add (.ref t) (.ref b)) Q E s:=by
 obtain⟨⟨cls,dd,data,sl⟩,ho,hc,n,hd⟩:=id ht
 obtain⟨⟨cls2,dd2,data2,u9⟩,ho2,hc2,n2,hd2⟩:=id hb
 simp only at hc hd hc2 hd2
 subst hc hd hc2 hd2
 have e:vs.toArray++ws.toArray=(vs++ws).toArray:=by simp
 by_cases hw:ws=[]
 ·exact concat_meets ⟨_,ho,rfl⟩ ⟨_,ho2,rfl⟩ noFill_tuple_add seq_tuple_add PySem.F.slot_tuple_add PySem.F.entry_tuple_add (PySem.F.args_tuple_add_2 _ _)
   (tuple_addW1 t b vs.toArray ws.toArray n n2 dd dd2 sl u9 (by simpa using hv) (by simp[hw])) ⟨ho,ho2,h1 hw⟩
 ·refine concat_meets ⟨_,ho,rfl⟩ ⟨_,ho2,rfl⟩ noFill_tuple_add seq_tuple_add PySem.F.slot_tuple_add PySem.F.entry_tuple_add (PySem.F.args_tuple_add_2 _ _)
   (tuple_addW2 t b vs.toArray ws.toArray n n2 dd dd2 sl u9 (by simpa using hv) (by simpa using hw) (by rw[List.size_toArray,List.size_toArray];exact hsz)) ⟨ho,ho2,?_⟩
  rw[e]
  exact h2 hw
def sIx(n d:Nat):Option Int->Nat
 | none=>d
 | some v=>if v<0 then (v+(n:Int)).toNat else min v.toNat n
theorem y_(n d:Nat)(hd:d<=n)(o:Option Int):sIx n d o<=n:=by
 cases o with
 | none=>exact hd
 | some v =>
  show(if v<0 then (v+(n:Int)).toNat else min v.toNat n)<=n
  by_cases hv:v<0
  ·rw[if_pos hv];omega
  ·rw[if_neg hv];exact Nat.min_le_right _ _
theorem tF(v:Int)(n d:Nat):(if v<0 then max (v+(n:Int)) 0 else min v (n:Int))=((sIx n d (some v):Nat):Int):=by
 show(if v<0 then max (v+(n:Int)) 0 else min v (n:Int))=(((if v<0 then (v+(n:Int)).toNat else min v.toNat n):Nat):Int)
 by_cases hv:v<0
 ·simp only[if_pos hv];omega
 ·simp only[if_neg hv];omega
theorem sL(lo hi:Option Int)(n:Nat):Builtin.Slice.sliceAdjust lo hi 1 (n:Int)=(((sIx n 0 lo:Nat):Int),((sIx n n hi:Nat):Int)):=by
 have h1:¬ ((1:Int)<0):=by omega
 unfold Builtin.Slice.sliceAdjust
 simp only[h1,if_false]
 refine Prod.ext ?_ ?_
 ·cases lo with
  | none=>rfl
  | some v=>exact tF v n 0
 ·cases hi with
  | none=>rfl
  | some v=>exact tF v n n
theorem sh(i j:Nat):Builtin.Slice.slicePlaces (i:Int) (j:Int) 1=j - i:=by
 unfold Builtin.Slice.slicePlaces
 have h1:(1:Int) > 0:=by omega
 simp only[h1,if_true,Int.ediv_one]
 split<;>omega
theorem oC{v:Value}{o:Option Int}{Q:Option Int->Shared->Prop}(p:IsPart v o)(h:Q o s):wpAny (model prog w) A (Builtin.Slice.slicePartIndex v) Q E s:=by
 cases p with
 | none=>exact slicePart_none h
 | int i t=>exact slicePart_int h
theorem sliceApplied_gen{sl:Addr}{vl vu:Value}{lo hi:Option Int}{n:Nat}{Q:Int×Int×Nat->Shared->Prop}(hs:s.heap.IsSliceOf sl vl vu .none)(pl:IsPart vl lo)(pu:IsPart vu hi)
  (h:Q (((sIx n 0 lo:Nat):Int),1,sIx n n hi - sIx n 0 lo) s):wpAny (model prog w) A (Builtin.Slice.sliceApplied (.ref sl) (pure (n:Int))) Q E s:=by
 obtain⟨os,hos,hcs,hds⟩:=id hs
 unfold Builtin.Slice.sliceApplied Builtin.Slice.sliceFields
 refine wpAny_bind (wpAny_bind (wpAny_field hos hds (x:=vl) rfl (wpAny_bind (wpAny_field hos hds (x:=vu) rfl (wpAny_bind (wpAny_field hos hds (x:=.none) rfl (wpAny_pure ?_)))))))
 refine wpAny_bind (slicePart_none ?_)
 show wpAny _ _ (if ((1:Int)==0)=true then _ else _) _ _ s
 rw[if_neg (by decide)]
 refine wpAny_bind (oC pl (wpAny_bind (oC pu (wpAny_bind (wpAny_pure ?_)))))
 show wpAny _ _ (match Builtin.Slice.sliceAdjust lo hi 1 (n:Int) with | (lo,hi)=>pure (lo,(1:Int),Builtin.Slice.slicePlaces lo hi 1)) _ _ s
 rw[sL lo hi n]
 show wpAny _ _ (pure (((sIx n 0 lo:Nat):Int),(1:Int),Builtin.Slice.slicePlaces ((sIx n 0 lo:Nat):Int) ((sIx n n hi:Nat):Int) 1)) _ _ s
 rw[sh]
 exact wpAny_pure h
theorem vP(xs:Array Value)(i k:Nat):((List.range k).filterMap fun (m:Nat)=>xs[((i:Int)+(m:Int)*1).toNat]?).toArray=((xs.toList.drop i).take k).toArray:=by
 have e:(fun (m:Nat)=>xs[((i:Int)+(m:Int)*1).toNat]?)=fun m=>xs[i+m]?:=by
  funext m
  have:((i:Int)+(m:Int)*1).toNat=i+m:=by omega
  rw[this]
 rw[e]
 have:=pick_run xs i k
 rw[List.filterMap_map] at this
 have e2:((fun x=>xs[x]?) ∘ fun x=>i+x)=fun m=>xs[i+m]?:=rfl
 rw[e2] at this
 rw[this]
theorem getItem_tuple_cut{t sl:Addr}{items:Array Value}{vl vu:Value}{lo hi:Option Int}{Q:Value->Shared->Prop}(ht:IsTup s.heap t items)(hs:s.heap.IsSliceOf sl vl vu .none)(pl:IsPart vl lo)(pu:IsPart vu hi)
  (hw:¬ (sIx items.size 0 lo=0/\sIx items.size items.size hi=items.size))
  (h:Q (.ref s.heap.objs.size) {s with heap:=s.heap.push {cls:=.type "tuple",data:=.seq ((items.toList.drop (sIx items.size 0 lo)).take (sIx items.size items.size hi - sIx items.size 0 lo)).toArray} })
  (hsz:items.size<=sizeLine):wpAny (model prog w) A (getItem (.ref t) (.ref sl)) Q E s:=by
 have htake:sizeOk (.seq ((items.toList.drop (sIx items.size 0 lo)).take (sIx items.size items.size hi - sIx items.size 0 lo)).toArray):=by
  show((items.toList.drop (sIx items.size 0 lo)).take (sIx items.size items.size hi - sIx items.size 0 lo)).toArray.size<=sizeLine
  rw[List.size_toArray,List.length_take,List.length_drop,Array.length_toList]
  omega
 have hj:sIx items.size items.size hi<=items.size:=y_ _ _ (Nat.le_refl _) hi
 obtain⟨os,hos,hcs,hds⟩:=id hs
 have hTs:s.TypeIs (.ref sl) "slice":=⟨os,hos,hcs⟩
 unfold getItem
 try with_reducible refine wpAny_holding ?_
 first | refine wpAny_bind (wpAny_pure ?_) | skip
 refine wpAny_bind (wpAny_sequenceKey ht.typeIs (by decide) ?_)
 refine wpAny_bind (wpAny_callSpecial?_slot (name:=Str.ofString "__getitem__") ht.typeIs PyProof.Rows.slot_tuple_getitem
  (wpAny_call_entry PyProof.Rows.slot_tuple_getitem ht.typeIs entry_tuple_getitem ?_ (args_tuple_getitem _ _)))
 show wpAny _ _ (Builtin.Tuple.tupleItemsOf (.ref t) >>= _) _ _ s
 refine wpAny_bind (tupleItemsOf_ ht ?_)
 refine wpAny_bind (wpAny_typeOf hTs ?_)
 rw[if_pos (by decide)]
 refine wpAny_bind (sliceApplied_gen hs pl pu ?_)
 have hno:¬ ((((sIx items.size 0 lo:Nat):Int)==0&&(1:Int)==1&&(sIx items.size items.size hi - sIx items.size 0 lo)==items.size)=true):=by
  intro q
  rw[Bool.and_eq_true,Bool.and_eq_true] at q
  have q1:((sIx items.size 0 lo:Nat):Int)=0:=eq_of_beq q.1.1
  have q2:sIx items.size items.size hi - sIx items.size 0 lo=items.size:=eq_of_beq q.2
  exact hw ⟨by omega,by omega⟩
 show wpAny _ _ (if (((sIx items.size 0 lo:Nat):Int)==0&&(1:Int)==1&&(sIx items.size items.size hi - sIx items.size 0 lo)==items.size)=true then _ else _) _ _ s
 rw[if_neg hno,vP]
 first
  | exact wpAny_bind (m:=Builtin.Tuple.tupleExact _) (wpAny_newObj_type (wpAny_pure ⟨_,rfl,wpAny_pure h⟩) htake)
  | exact wpAny_bind (m:=Builtin.Tuple.tupleExact _) (wpAny_newObj_type (wpAny_bind (wpAny_pure (wpAny_pure ⟨_,rfl,wpAny_pure h⟩))) htake)
  | exact wpAny_bind (wpAny_bind (m:=Builtin.Tuple.tupleExact _) (wpAny_newObj_type (wpAny_pure (wpAny_pure ⟨_,rfl,wpAny_pure h⟩)) htake))
  | exact wpAny_bind (wpAny_bind (m:=Builtin.Tuple.tupleExact _) (wpAny_newObj_type (wpAny_pure ⟨_,rfl,wpAny_pure h⟩) htake))
end
end HT
namespace L2
open PySem PySem.Spec PyProof.Rows
abbrev TO:=St->Hp->(Option Int->Hp->Prop)->Prop
def PO(X:Cx)(e:Option Expr)(t:TO):Prop:=
 ∀(pins:List (Addr×Obj)) (s:Shared) (σ:St) (H:Hp) (Q:Option Int->Hp->Prop),Inv X pins σ H s->t σ H Q ->
  wpAny (model X.prog X.w) X.A (evalPart e X.env) (fun u s'=>∃o H',Inv X pins σ H' s'/\IsPart u o/\Q o H') X.xe s
def wF:TO:=fun _ H Q=>Q none H
def Ab(t:TE):TO:=fun σ H Q=>t σ H fun x H1=>∃i,x=.int i/\Q (some i) H1
section
variable{X:Cx}{e:Expr}{te:TE}{lo hi:Option Expr}{tl th:TO}{pos p2:Pos}
theorem xN:PO X none wF:=by
 intro pins s σ H Q I h
 rw[evalPart_none]
 exact wpAny_pure ⟨none,H,I,.none,h⟩
theorem xG(h:PE X e te):PO X (some e) (Ab te):=by
 intro pins s σ H Q I hw
 rw[evalPart_some]
 refine jC (h pins s σ H _ I hw) fun u s1 ⟨x,H1,I1,r1,q1⟩=>?_
 obtain⟨i,rfl,q⟩:=q1
 obtain⟨t,rfl⟩:=r1
 exact⟨some i,H1,I1,.int i t,q⟩
def xZ(X:Cx)(r:V->Option Int->Option Int->Hp->VK->Prop):Prop:=
 ∀(pins:List (Addr×Obj)) (s:Shared) (σ:St) (H:Hp) (x:V) (v vl vu:Value) (lo hi:Option Int) (sl:Addr) (Q:VK),Inv X pins σ H s->RelV x v->s.heap.IsSliceOf sl vl vu .none->IsPart vl lo->IsPart vu hi->r x lo hi H Q ->
  ∃T id,typeLookup (.type T) "__getitem__" = pure (some (.builtin id))/\s.TypeIs v T/\wpAny (model X.prog X.w) X.A (getItem v (.ref sl)) (EP X pins σ Q) X.xe s
theorem xZ.or{r r':V->Option Int->Option Int->Hp->VK->Prop}(h:xZ X r)(h':xZ X r'):xZ X (fun x lo hi H Q=>r x lo hi H Q\/r' x lo hi H Q):=by
 intro pins s σ H x v vl vu lo hi sl Q I rx hs pl pu q
 rcases q with q | q
 ·exact h pins s σ H x v vl vu lo hi sl Q I rx hs pl pu q
 ·exact h' pins s σ H x v vl vu lo hi sl Q I rx hs pl pu q
def CA(r:V->Option Int->Option Int->Hp->VK->Prop)(te:TE)(tl th:TO):TE:=fun σ H Q=>te σ H fun x H1=>tl σ H1 fun l H2=>th σ H2 fun u H3=>r x l u H3 Q
theorem fY{r:V->Option Int->Option Int->Hp->VK->Prop}(hr:xZ X r)(he:PE X e te)(hl:PO X lo tl)(hu:PO X hi th):PE X (.Subscript e (.Slice lo hi none p2) pos) (CA r te tl th):=by
 intro pins s σ H Q I h
 refine Subscript_ (jC (he pins s σ H _ I h) fun v s1 ⟨x,H1,I1,r1,q1⟩=>?_)
 refine wpAny_Slice (jC (hl pins s1 σ H1 _ I1 q1) fun vl s2 ⟨l,H2,I2,pl,q2⟩=>jC (hu pins s2 σ H2 _ I2 q2) fun vu s3 ⟨u,H3,I3,pu,q3⟩=>?_)
 rw[evalPart_none]
 refine wpAny_pure ?_
 have I4:Inv X pins σ H3 {s3 with heap:=s3.heap.push {cls:=.type "slice",data:=.fields #[vl,vu,.none]} }:=I3.kept (t':=s3.toks) fun b ob q=>Heap.get?_push_of_some _ q
 obtain⟨T,id,hT,ht,hg⟩:=hr pins {s3 with heap:=s3.heap.push {cls:=.type "slice",data:=.fields #[vl,vu,.none]} } σ H3 x v vl vu l u s3.heap.objs.size Q I4 r1 (Heap.IsSliceOf.new ..) pl pu q3
 show wpAny (model X.prog X.w) X.A (subscriptTail e (.Slice lo hi none p2) v (.ref s3.heap.objs.size)) (EP X pins σ Q) X.xe {s3 with heap:=s3.heap.push {cls:=.type "slice",data:=.fields #[vl,vu,.none]} }
 exact tail_any (ops:=[.ref s3.heap.objs.size,v]) ht hT hg (by with_unfolding_all rfl)
def nJ(xs:List V)(lo hi:Option Int):List V:=(xs.drop (HT.sIx xs.length 0 lo)).take (HT.sIx xs.length xs.length hi - HT.sIx xs.length 0 lo)
theorem nz(xs:List V)(lo hi:Option Int):(nJ xs lo hi).length<=xs.length:=by
 unfold nJ
 rw[List.length_take,List.length_drop]
 omega
def Bf(K:PySem.W.Frag):V->Option Int->Option Int->Hp->VK->Prop:=fun x lo hi H Q=>∃a xs,x=.ref a/\kr K H a xs /\
 ¬ (HT.sIx xs.length 0 lo=0/\HT.sIx xs.length xs.length hi=xs.length)/\∀p,H p=none->Q (.ref p) (upd H p (.tup (nJ xs lo hi)))
theorem zm:xZ X (Bf X.K):=by
 intro pins s σ H x v vl vu lo hi sl Q I rx hs pl pu h
 obtain⟨a,xs,rfl,hx,hw,q⟩:=h
 cases rx
 obtain⟨its,r,ht,hz⟩:=I.tuple hx
 have hlen:its.toArray.size=xs.length:=by rw[List.size_toArray];exact r.length.symm
 refine⟨"tuple",_,PyProof.Rows.slot_tuple_getitem.lookup,ht.typeIs,?_⟩
 refine HT.getItem_tuple_cut ht hs pl pu (by rw[hlen];exact hw) ?_ (by rw[hlen];exact hz)
 rw[hlen]
 refine⟨.ref s.heap.objs.size,_,I.laid (t':=s.toks) (o:=.tup (nJ xs lo hi)) (fun b ob q=>Heap.get?_push_of_some _ q) (Nat.le_refl _) ?_,rfl,q _ (I.hok.fresh (Nat.le_refl _))⟩
 exact⟨Nat.le_trans (nz xs lo hi) hz,_,(r.drop (HT.sIx xs.length 0 lo)).take (HT.sIx xs.length xs.length hi - HT.sIx xs.length 0 lo),k_.new _ _⟩
def AI(K:PySem.W.Frag):R2:=fun x y H Q=>∃a b xs ys,x=.ref a/\y=.ref b/\kr K H a xs/\kr K H b ys/\xs ≠ []/\xs.length+ys.length<=sizeLine /\
 (ys=[]->Q (.ref a) H)/\(ys ≠ []->∀p,H p=none->Q (.ref p) (upd H p (.tup (xs++ys))))
theorem jg.nil_iff{xs:List V}{us:List Value}(r:jg xs us):us=[]↔xs=[]:=by
 cases r with
 | nil=>simp
 | cons _ _=>simp
theorem wG:OpR X (binaryOp .Add) (AI X.K):=by
 intro pins s σ H x y v u Q I rx ry h
 obtain⟨a,b,xs,ys,rfl,rfl,ha,hb,hx,hz,q1,q2⟩:=h
 cases rx
 cases ry
 obtain⟨its,r1,p1,_⟩:=I.tuple ha
 obtain⟨its2,r2,p2,_⟩:=I.tuple hb
 refine HT.cat_tup p1 p2 (fun z=>hx (r1.nil_iff.mp z)) (fun z=>⟨.ref a,H,I,rfl,q1 (r2.nil_iff.mp z)⟩) (fun z=>?_) (by rw[<- r1.length,<- r2.length];exact hz)
 refine⟨.ref s.heap.objs.size,_,I.laid (t':=s.toks) (o:=.tup (xs++ys)) (fun b ob q=>Heap.get?_push_of_some _ q) (Nat.le_refl _) ?_,rfl,q2 (fun w=>z (r2.nil_iff.mpr w)) _ (I.hok.fresh (Nat.le_refl _))⟩
 exact⟨by rw[List.length_append];exact hz,_,r1.append r2,k_.new _ _⟩
end
end L2
namespace L2
open PySem PySem.Spec PyProof.Rows
def Al(n:Nat)(i:Int):Option Nat:=if 0<=i then (if i<n then some i.toNat else none) else if -(n:Int)<=i then some (i+n).toNat else none
def zi{α:Type}(xs:List α)(i:Int):Option α:=(Al xs.length i).bind fun j=>xs[j]?
theorem xD{n:Nat}{i:Int}{j:Nat}(h:Al n i=some j):seqIndex? i n=some j/\j<n /\ -(n:Int)<=i/\i<n:=by
 unfold Al at h
 by_cases h0:0<=i
 ·rw[if_pos h0] at h
  by_cases h1:i<n
  ·rw[if_pos h1] at h
   have e:i.toNat=j:=Option.some.inj h
   exact⟨by rw[seqIndex_of h0 h1,e],by omega,by omega,h1⟩
  ·rw[if_neg h1] at h;cases h
 ·rw[if_neg h0] at h
  by_cases h1 : -(n:Int)<=i
  ·rw[if_pos h1] at h
   have e:(i+n).toNat=j:=Option.some.inj h
   exact⟨by rw[seqIndex_neg (by omega) h1,e],by omega,h1,by omega⟩
  ·rw[if_neg h1] at h;cases h
theorem qH{α:Type}{xs:List α}{i:Int}{v:α}(h:zi xs i=some v):∃j,seqIndex? i xs.length=some j/\xs[j]?=some v/\j<xs.length /\ -(xs.length:Int)<=i/\i<xs.length:=by
 unfold zi at h
 cases e:Al xs.length i with
 | none=>rw[e] at h;cases h
 | some j =>
  rw[e] at h
  obtain⟨h1,h2,h3,h4⟩:=xD e
  exact⟨j,h1,h,h2,h3,h4⟩
def ud(b:Expr):Prop:=∀o i,subscripted b false o i=operate [o,i] (getItem o i)
def IxR(X:Cx)(r:R2):Prop:=
 ∀(value slice:Expr) (pins:List (Addr×Obj)) (s:Shared) (σ:St) (H:Hp) (x y:V) (v u:Value) (Q:VK),Inv X pins σ H s->RelV x v->RelV y u->r x y H Q ->
  subscripted slice false v u=operate [v,u] (getItem v u)->wpAny (model X.prog X.w) X.A (subscriptTail value slice v u) (EP X pins σ Q) X.xe s
def yr(X:Cx)(id:String)(r:V->List V->Hp->VK->Prop):Prop:=
 ∀(pins:List (Addr×Obj)) (s:Shared) (σ:St) (H:Hp) (x:V) (xs:List V) (v:Value) (us:List Value) (Q:VK),Inv X pins σ H s->RelV x v->jg xs us->r x xs H Q ->
  wpAny (model X.prog X.w) X.A (call (.builtin id) (v::us)) (EP X pins σ Q) X.xe s
section
variable{X:Cx}{a b:Expr}{ta tb:TE}{pos:Pos}
theorem IxR.or{r r':R2}(h:IxR X r)(h':IxR X r'):IxR X (fun x y H Q=>r x y H Q\/r' x y H Q):=by
 intro value slice pins s σ H x y v u Q I rx ry q hs
 rcases q with q | q
 ·exact h value slice pins s σ H x y v u Q I rx ry q hs
 ·exact h' value slice pins s σ H x y v u Q I rx ry q hs
theorem yr.or{id:String}{r r':V->List V->Hp->VK->Prop}(h:yr X id r)(h':yr X id r'):yr X id (fun x xs H Q=>r x xs H Q\/r' x xs H Q):=by
 intro pins s σ H x xs v us Q I rx rs q
 rcases q with q | q
 ·exact h pins s σ H x xs v us Q I rx rs q
 ·exact h' pins s σ H x xs v us Q I rx rs q
theorem jb{r:R2}(hr:IxR X r)(ha:PE X a ta)(hb:PE X b tb)(hs:ud b):PE X (.Subscript a b pos) (AZ r ta tb):=by
 intro pins s σ H Q I h
 exact Subscript_ (yV ha hb I h fun v u s2 x y H2 I2 rx ry q=>hr a b pins s2 σ H2 x y v u Q I2 rx ry q (hs _ _))
def Bt(K:PySem.W.Frag):R2:=fun x y H Q=>∃p xs i v,x=.ref p/\y=.int i/\kN K H p xs/\zi xs i=some v/\Q v H
def BJ(K:PySem.W.Frag):R2:=fun x y H Q=>∃p xs i v,x=.ref p/\y=.int i/\kr K H p xs/\zi xs i=some v/\Q v H
def Bx:R2:=fun x y H Q=>∃z i c,x=.str z/\y=.int i/\z.length<=sizeLine/\zi z.cps.toList i=some c/\Q (.str ⟨#[c]⟩) H
theorem wK:IxR X (Bt X.K):=by
 intro value slice pins s σ H x y v u Q I rx ry h hs
 obtain⟨p,xs,i,z,rfl,rfl,hq,he,q⟩:=h
 cases rx
 obtain⟨t,rfl⟩:=ry
 obtain⟨its,r,pl,hz⟩:=I.list hq
 obtain⟨j,h1,h2,h3,h4,h5⟩:=qH he
 obtain⟨w,ew,rw'⟩:=r.get h2
 have hl:=r.length
 have hn:=m_
 have fin:EP X pins σ Q w s:=⟨z,H,I,rw',q⟩
 by_cases h0:0<=i
 ·have hj:i.toNat=j:=by
   rw[seqIndex_of h0 h5] at h1
   exact Option.some.inj h1
  exact item_listR pl.isList h0 (by omega) (by rw[hj];simpa using ew) fin hs
 ·have hj:(i+(its.toArray.size:Int)).toNat=j:=by
   rw[seqIndex_neg (by omega) h4] at h1
   rw[List.size_toArray,<- hl]
   exact Option.some.inj h1
  exact subscriptTail_builtinR (x:=w) pl.isList.typeIs slot_list_getitem.lookup
   (wpAny_getItem_list_neg (Q:=fun r s'=>r=w/\EP X pins σ Q r s') pl.isList (by omega) (by rw[List.size_toArray]<;>omega) (by omega) (by rw[hj];simpa using ew) ⟨rfl,fin⟩) hs
theorem yZ:IxR X (BJ X.K):=by
 intro value slice pins s σ H x y v u Q I rx ry h hs
 obtain⟨p,xs,i,z,rfl,rfl,hq,he,q⟩:=h
 cases rx
 obtain⟨t,rfl⟩:=ry
 obtain⟨its,r,pl,hz⟩:=I.tuple hq
 obtain⟨j,h1,h2,h3,h4,h5⟩:=qH he
 obtain⟨w,ew,rw'⟩:=r.get h2
 have hl:=r.length
 have hn:=m_
 have fin:EP X pins σ Q w s:=⟨z,H,I,rw',q⟩
 exact subscriptTail_builtinR (x:=w) pl.typeIs slot_tuple_getitem.lookup
  (getItem_tuple (j:=j) (Q:=fun r s'=>r=w/\EP X pins σ Q r s') pl (by omega) (by omega) (by rw[List.size_toArray,<- hl];exact h1) (by simpa using ew) ⟨rfl,fin⟩) hs
theorem zo:IxR X Bx:=by
 intro value slice pins s σ H x y v u Q I rx ry h hs
 obtain⟨z,i,c,rfl,rfl,hz,he,q⟩:=h
 obtain⟨t,rfl⟩:=rx
 obtain⟨t',rfl⟩:=ry
 obtain⟨j,h1,h2,h3,h4,h5⟩:=qH he
 have hl:z.cps.toList.length=z.length:=by simp[Str.length]
 rw[hl] at h1 h4 h5
 have hn:=m_
 exact tail_any (typeIs_str s z t) slot_str_getitem.lookup (getItem_str (c:=c) (by
  have e1:decide (i < -(2 ^ 63:Int))=false:=decide_eq_false (by omega)
  have e2:decide (i ≥ 2 ^ 63)=false:=decide_eq_false (by omega)
  rw[e1,e2,Bool.or_false]) (by rw[h1];simpa using h2) ⟨.str ⟨#[c]⟩,H,I.tok _,⟨_,rfl⟩,q⟩) hs
theorem Inv.lst{pins:List (Addr×Obj)}{σ:St}{H:Hp}{s:Shared}{p:Addr}{xs:List V}(I:Inv X pins σ H s)(h:H p=some (.lst xs)) :
  ∃(its:List Value) (n:Nat),jg xs its/\s.heap.get? p=some {cls:=.type "list",data:=.seq its.toArray n}/\xs.length<=sizeLine:=by
 obtain⟨z,its,n,r,e⟩:=I.hok p _ h
 exact⟨its,n,r,e,z⟩
theorem qf(lo hi:Option Int)(n:Nat):(sliceBounds lo hi none n).1=((HT.sIx n 0 lo:Nat):Int)/\(sliceBounds lo hi none n).2.1=((HT.sIx n n hi:Nat):Int)/\(sliceBounds lo hi none n).2.2=1:=by
 refine⟨?_,?_,rfl⟩
 ·cases lo with
  | none=>simp[sliceBounds,HT.sIx]
  | some i =>
   simp only[sliceBounds,HT.sIx,Option.getD_none,show(1:Int) > 0 by decide,if_true]
   by_cases h:i<0
   ·simp only[h,if_true]<;>omega
   ·simp only[h,if_false]<;>omega
 ·cases hi with
  | none=>simp[sliceBounds,HT.sIx]
  | some i =>
   simp only[sliceBounds,HT.sIx,Option.getD_none,show(1:Int) > 0 by decide,if_true]
   by_cases h:i<0
   ·simp only[h,if_true]<;>omega
   ·simp only[h,if_false]<;>omega
theorem o_(its:List Value)(lo hi:Option Int):slicePick its.toArray lo hi none=((its.drop (HT.sIx its.length 0 lo)).take (HT.sIx its.length its.length hi - HT.sIx its.length 0 lo)).toArray:=by
 obtain⟨h1,h2,h3⟩:=qf lo hi its.toArray.size
 unfold slicePick
 rw[h1,h2,h3]
 simp only[sliceRange_one,pick_run,List.size_toArray]<;>rfl
def A_(K:PySem.W.Frag):V->Option Int->Option Int->Hp->VK->Prop:=fun x lo hi H Q=>∃a xs,x=.ref a/\kN K H a xs/\∀p,H p=none->Q (.ref p) (upd H p (.lst (nJ xs lo hi)))
theorem wB:xZ X (A_ X.K):=by
 intro pins s σ H x v vl vu lo hi sl Q I rx hs pl pu h
 obtain⟨a,xs,rfl,hx,q⟩:=h
 cases rx
 obtain⟨its,r,ht,hz⟩:=I.list hx
 have hlen:=r.length
 refine⟨"list",_,slot_list_getitem.lookup,ht.isList.typeIs,?_⟩
 refine wpAny_getItem_list_slice ht.isList hs pl pu .none (by simp) ?_ (by rw[List.size_toArray]<;>omega)
 rw[o_,<- hlen]
 refine⟨.ref s.heap.objs.size,_,I.laid (t':=s.toks) (o:=.lst (nJ xs lo hi)) (fun b ob q=>Heap.get?_push_of_some _ q) (Nat.le_refl _) ?_,rfl,q _ (I.hok.fresh (Nat.le_refl _))⟩
 exact⟨Nat.le_trans (nz xs lo hi) hz,_,0,(r.drop (HT.sIx xs.length 0 lo)).take (HT.sIx xs.length xs.length hi - HT.sIx xs.length 0 lo),Heap.get?_push_size _ rfl⟩
theorem qv:CallR X (.builtin "len") (fun xs H Q=>∃p ys,xs=[.ref p]/\(kN X.K H p ys\/kr X.K H p ys)/\Q (.int ys.length) H):=by
 intro pins s σ H xs us Q I r h
 obtain⟨p,ys,rfl,hq,q⟩:=h
 obtain⟨u,rfl,rx⟩:=vals1 r
 cases rx
 have hn:=m_
 rcases hq with hq | hq
 ·obtain⟨its,r',pl,hz⟩:=I.list hq
  have hlen:=r'.length
  exact Calls.call_len_list pl.isList (by simp only[List.size_toArray]<;>omega) ⟨.int ys.length,H,I.tok _,⟨s.toks+1,by rw[List.size_toArray,hlen]⟩,q⟩
 ·obtain⟨its,r',pl,hz⟩:=I.tuple hq
  have hlen:=r'.length
  exact len_tuple pl (by simp only[List.size_toArray]<;>omega) ⟨.int ys.length,H,I.tok _,⟨s.toks+1,by rw[List.size_toArray,hlen]⟩,q⟩
theorem qE:CallR X (.builtin "len") (fun xs H Q=>∃z,xs=[.str z]/\z.length<=sizeLine/\Q (.int z.length) H):=by
 intro pins s σ H xs us Q I r h
 obtain⟨z,rfl,hz,q⟩:=h
 obtain⟨u,rfl,t,rfl⟩:=vals1 r
 have hn:=m_
 exact len_str (by omega) ⟨.int z.length,H,I.tok _,⟨_,rfl⟩,q⟩
theorem CallR.or{f:Value}{r r':List V->Hp->VK->Prop}(h:CallR X f r)(h':CallR X f r'):CallR X f (fun xs H Q=>r xs H Q\/r' xs H Q):=by
 intro pins s σ H xs us Q I rs q
 rcases q with q | q
 ·exact h pins s σ H xs us Q I rs q
 ·exact h' pins s σ H xs us Q I rs q
def Ca(K:PySem.W.Frag)(T:String)(x:V)(H:Hp):Prop:=match x with
 | .str _=>T = "str"
 | .int _=>T = "int"
 | .ref p=>(T = "list" /\ ∃xs,kN K H p xs)\/(T = "tuple" /\ ∃o,K.lookup p=some o/\o.cls=.type "tuple" /\ o.dict=none) \/
   (T = "dict" /\ ((∃kvs,H p=some (.dK kvs))\/∃kvs,H p=some (.dT kvs)))\/(T = "set" /\ ∃S n,H p=some (.set S n))
 | _=>False
theorem zl{pins:List (Addr×Obj)}{σ:St}{H:Hp}{s:Shared}{T:String}{x:V}{v:Value}(I:Inv X pins σ H s)(r:RelV x v)(ty:Ca X.K T x H) :
  s.TypeIs v T/\∀a,v=.ref a->∃ob,s.heap.get? a=some ob/\ob.dict=none:=by
 cases x with
 | str z =>
  obtain⟨t,rfl⟩:=r
  cases (show T = "str" from ty)
  exact⟨typeIs_str s z t,fun _ e=>nomatch e⟩
 | int i =>
  obtain⟨t,rfl⟩:=r
  cases (show T = "int" from ty)
  exact⟨typeIs_int s i t,fun _ e=>nomatch e⟩
 | ref p =>
  cases r
  rcases ty with ⟨rfl,xs,hq⟩ | ⟨rfl,o,hk,hc,hd⟩ | ⟨rfl,hk⟩ | ⟨rfl,S,n,hk⟩
  ·obtain⟨its,_,pl,_⟩:=I.list hq
   refine⟨pl.isList.typeIs,fun a e=>?_⟩
   cases e
   obtain⟨o,n,e,c,hd,_⟩:=pl
   exact⟨o,e,hd⟩
  ·refine⟨⟨o,I.kIn p o hk,hc⟩,fun a e=>?_⟩
   cases e
   exact⟨o,I.kIn _ o hk,hd⟩
  ·have z:∃o,s.heap.get? p=some o/\o.ExactDict:=by
    rcases hk with ⟨kvs,hk⟩ | ⟨kvs,hk⟩
    ·obtain⟨_,_,_,_,o,_,_,e,ex,_⟩:=I.hok p _ hk
     exact⟨o,e,ex⟩
    ·obtain⟨_,_,_,_,o,_,_,e,ex,_⟩:=I.hok p _ hk
     exact⟨o,e,ex⟩
   obtain⟨o,e,ex⟩:=z
   refine⟨⟨o,e,ex.1⟩,fun a e2=>?_⟩
   cases e2
   exact⟨o,e,ex.2.1⟩
  ·obtain⟨o,_,_,_,e,ex,_⟩:=I.hok p _ hk
   refine⟨⟨o,e,ex.1⟩,fun a e2=>?_⟩
   cases e2
   exact⟨o,e,ex.2.1⟩
 | _=>exact False.elim ty
def Cy(K:PySem.W.Frag)(T:String)(r:V->List V->Hp->VK->Prop)(to:TE)(t:TA):TE:=fun σ H Q=>to σ H fun x H1=>Ca K T x H1/\t σ H1 fun xs H2=>r x xs H2 Q
variable{o e:Expr}{es:List Expr}{to:TE}{t:TA}{name:Str}{apos cpos:Pos}{T id:String}{r:V->List V->Hp->VK->Prop}
theorem ja (pa:PlainAttrs T) (slot:Slot T name id) (hty:typeOf (.builtin id)=pure (.type "method_descriptor")) (hm:yr X id r) (ho:PE X o to) (ha:PA X (e::es) t)
    (hbase:attributeBase o name X.env (eval o X.env)=eval o X.env:=by rfl)
    (hfew:((backTo cpos (starEach (e::es) X.env)).all (fun x=>!x.1)&&(backToKw cpos (keywordEach [] X.env)).all (fun x=>x.1.isSome)
      && decide ((e::es).length+([]:List Keyword).length+(if ([]:List Keyword).isEmpty then 0 else 1)<30))=true:=by rfl)
    (hline:(apos.endLine==cpos.line)=true:=by rfl) (hs:starEach (e::es) X.env=(false,eval e X.env)::starEach es X.env:=by rfl) (hplain:(backTo cpos (starEach es X.env)).any (·.1)=false:=by rfl) :
    PE X (.Call (.Attribute o name apos) (e::es) [] cpos) (Cy X.K T r to t):=by
  intro pins s σ H Q I h
  refine wpAny_Call_method_late hbase hfew hline rfl (jC (ho pins s σ H _ I h) fun v s1 ⟨x,H1,I1,r1,ty,q1⟩=>?_)
  obtain⟨h1,h2⟩:=zl I1 r1 ty
  refine⟨T,id,pa,slot,hty,h1,h2,?_⟩
  have hA:=ha cpos pins s1 σ H1 _ I1 q1
  rw[hs] at hA ⊢
  refine Calls.callWith_builtin (by show(false||(backTo cpos (starEach es X.env)).any (·.1))=false;rw[hplain]<;>rfl) (Calls.evalArgs_plain ?_)
  exact jC hA fun us s2 ⟨vs,H2,I2,r2,q2⟩=>hm pins s2 σ H2 x vs v us Q I2 r1 r2 q2
/- xs.append(e),list.index on a module's tuple .. are yr facts of 06m -/
end
end L2
namespace L2
open PySem PySem.Spec PyProof.Rows
def BV(X:Cx)(id:String)(r:V->List V->Hp->VK->Prop):Prop:=
 ∀(pins:List (Addr×Obj)) (s:Shared) (σ:St) (H:Hp) (x:V) (xs:List V) (v:Value) (us:List Value) (Q:VK),Inv X pins σ H s->RelV x v->jg xs us->r x xs H Q ->
  wpAny (model X.prog X.w) X.A (call (.builtin id) (v::us)) (EP X pins σ Q) X.xe s
theorem jg.one:∀{x:V} {us:List Value},jg [x] us->∃u,us=[u]/\RelV x u
 | _,_,h=>by cases h with | cons r t=>cases t;exact⟨_,rfl,r⟩
theorem jg.two:∀{x y:V} {us:List Value},jg [x,y] us->∃u v,us=[u,v]/\RelV x u/\RelV y v
 | _,_,_,h=>by cases h with | cons r t=>cases t with | cons q t=>cases t;exact⟨_,_,rfl,r,q⟩
theorem jg.zero:∀{us:List Value},jg [] us->us=[]
 | _,.nil=>rfl
theorem jg.dropLast{xs:List V}{us:List Value}(h:jg xs us):jg xs.dropLast us.dropLast:=by
 induction h with
 | nil=>exact .nil
 | cons r t ih =>
  cases t with
  | nil=>exact .nil
  | cons q t'=>exact .cons r ih
theorem jg.eraseIdx:∀{xs:List V} {us:List Value} (i:Nat),jg xs us->jg (xs.eraseIdx i) (us.eraseIdx i)
 | _,_,_,.nil=>.nil
 | _,_,0,.cons _ t=>t
 | _,_,i+1,.cons r t=>.cons r (jg.eraseIdx i t)
theorem jg.reverse{xs:List V}{us:List Value}(h:jg xs us):jg xs.reverse us.reverse:=by
 induction h with
 | nil=>exact .nil
 | cons r t ih=>rw[List.reverse_cons,List.reverse_cons];exact jg.append ih (.cons r .nil)
section
variable{X:Cx}{pins:List (Addr×Obj)}{σ:St}{H:Hp}{s:Shared}{l b:Addr}{xs ys zs:List V}
theorem Inv.lset{its its':List Value}{n:Nat}{f:Array Value->Array Value}{t':Nat}(I:Inv X pins σ H s)(hH:H l=some (.lst xs))
  (e:s.heap.get? l=some {cls:=.type "list",data:=.seq its.toArray n}) (hf:f its.toArray=its'.toArray) (hv:jg ys its') (hz:ys.length<=sizeLine) :
  Inv X pins σ (upd H l (.lst ys)) {s with heap:=s.heap.update l (Obj.mapSeq f),toks:=t' }:=by
 have q:=PySem.IsL.update e f
 rw[hf] at q
 refine I.write (x:=l) (e:=l) (by rw[hH];exact trivial) (.inl rfl) (fun b' u hb hu=>(Heap.get?_update_other s.heap (Obj.mapSeq f) (Ne.symm hb)).trans hu) ⟨_,q⟩ ?_
 exact⟨hz,its',_,hv,q⟩
theorem Inv.lnew{its:List Value}{t':Nat}(I:Inv X pins σ H s)(hv:jg ys its)(hz:ys.length<=sizeLine) :
  Inv X pins σ (upd H s.heap.objs.size (.lst ys)) {s with heap:=s.heap.push {cls:=.type "list",data:=.seq its.toArray},toks:=t' }:=
 I.laid (fun _ _ q=>Heap.get?_push_of_some _ q) (Nat.le_refl _) ⟨hz,its,0,hv,Heap.get?_push_size _ rfl⟩
theorem Inv.fresh(I:Inv X pins σ H s):H s.heap.objs.size=none:=I.hok.fresh (Nat.le_refl _)
theorem Inv.lstM(I:Inv X pins σ H s)(hH:H l=some (.lst xs)):xs.length<=sizeLine/\∃(its:List Value) (n:Nat),jg xs its/\xs.length=its.length/\s.heap.get? l=some {cls:=.type "list",data:=.seq its.toArray n}:=by
 obtain⟨z,its,n,r,e⟩:=I.hok l _ hH
 exact⟨z,its,n,r,r.length,e⟩
theorem vy{n:Nat}(h:n<=sizeLine):Builtin.List.listTooLong n=false:=by
 unfold Builtin.List.listTooLong
 exact decide_eq_false (by omega)
end
section
variable{X:Cx}
def wA:V->List V->Hp->VK->Prop:=fun x vs H Q=>∃l xs y,x=.ref l/\vs=[y]/\H l=some (.lst xs)/\xs.length<sizeLine/\Q .non (upd H l (.lst (xs++[y])))
theorem de:BV X "list.append" wA:=by
 intro pins s σ H x vs v us Q I rx rv h
 obtain⟨l,xs,y,rfl,rfl,hH,hz,q⟩:=h
 cases rx
 obtain⟨u,rfl,ru⟩:=rv.one
 obtain⟨z,its,n,r,hl,e⟩:=I.lstM hH
 refine call_meets F.slot_list_append ⟨_,e,rfl⟩ F.entry_list_append (F.args_list_append_2 _ _) (PySem.list_append l its.toArray n u (by rw[List.size_toArray];omega)) ⟨e,?_⟩
 refine⟨.non,_,I.lset (its':=its++[u]) hH e (by simp) (r.append (.cons ru .nil)) ?_,rfl,q⟩
 rw[List.length_append,List.length_singleton]
 omega
def wD:V->List V->Hp->VK->Prop:=fun x vs H Q=>∃l b xs zs,x=.ref l/\vs=[.ref b]/\H l=some (.lst xs)/\H b=some (.lst zs)/\xs.length+zs.length<=sizeLine/\Q .non (upd H l (.lst (xs++zs)))
theorem fG:BV X "list.extend" wD:=by
 intro pins s σ H x vs v us Q I rx rv h
 obtain⟨l,b,xs,zs,rfl,rfl,hH,hB,hz,q⟩:=h
 cases rx
 obtain⟨u,rfl,ru⟩:=rv.one
 cases ru
 obtain⟨z,its,n,r,hl,e⟩:=I.lstM hH
 obtain⟨z2,its2,n2,r2,hl2,e2⟩:=I.lstM hB
 have hsz:its.toArray.size+its2.toArray.size<=sizeLine:=by rw[List.size_toArray,List.size_toArray];omega
 have hlong:¬ (!its.toArray.isEmpty&&Builtin.List.listTooLong (its.toArray.size+its2.toArray.size))=true:=by
  rw[vy hsz,Bool.and_false]
  exact Bool.false_ne_true
 refine call_meets F.slot_list_extend ⟨_,e,rfl⟩ F.entry_list_extend (F.args_list_extend_2 _ _)
  (AutoSeq1.list_extend_list_list_0 l its.toArray n b its2.toArray n2 hlong (by rw[List.size_toArray];omega) (by omega)) ⟨e,e2,?_⟩
 refine⟨.non,_,I.lset (its':=its++its2) hH e (by simp) (r.append r2) ?_,rfl,q⟩
 rw[List.length_append]
 omega
def BS:R2:=fun x y H Q=>∃l b xs zs,x=.ref l/\y=.ref b/\H l=some (.lst xs)/\H b=some (.lst zs)/\xs.length+zs.length<=sizeLine/\∀p,H p=none->Q (.ref p) (upd H p (.lst (xs++zs)))
theorem yF:OpR X (binaryOp .Add) BS:=by
 intro pins s σ H x y v u Q I rx ry h
 obtain⟨l,b,xs,zs,rfl,rfl,hH,hB,hz,q⟩:=h
 cases rx
 cases ry
 obtain⟨z,its,n,r,hl,e⟩:=I.lstM hH
 obtain⟨z2,its2,n2,r2,hl2,e2⟩:=I.lstM hB
 refine PySem.P.add_list e e2 ?_ (by rw[List.size_toArray,List.size_toArray];omega)
 have ea:its.toArray++its2.toArray=(its++its2).toArray:=by simp
 rw[ea]
 exact⟨.ref _,_,I.lnew (t':=s.toks) (r.append r2) (by rw[List.length_append];omega),rfl,q _ I.fresh⟩
end
section
variable{prog:Program}{w:World}{A:Around}{E:Value->Shared->Prop}{s:Shared}
set_option maxRecDepth 100000 in
end
section
variable{X:Cx}
end
end L2
namespace Att
open PySem PySem.W PySem.Calls PyProof.Rows
theorem cC{P:Params}{h:Heap}:∀(ns:List Int) (vs:List Value),WellAll P h vs (ns.map WData.int)->IntsAre vs ns:=by
 intro ns
 induction ns with
 | nil =>
  intro vs w
  rw[List.map_nil] at w
  cases w
  exact .nil
 | cons n ns ih =>
  intro vs w
  rw[List.map_cons] at w
  cases w with
  | cons a b =>
   cases a
   exact .cons _ _ (ih _ b)
theorem uO{l:OpenLaw}{n:Nat}(hn:l.most=some n){P:Params}{h:Heap}{args:List WData}{vals:List Value}
  (hpre:l.row.toRowW.claim.pre args=true) (hwl:WellAll P h vals args) :
  ∃a vs ns,vals=[Value.ref a]/\args=[WData.list (ns.map WData.int)]/\h.get? a=some {cls:=.type "list",data:=.seq vs.toArray}/\IntsAre vs ns/\ns.length<=n:=by
 have hsh:WShape.hasAll [] args [.list .int]=true:=(pre_splitW hpre).1
 have hc:l.pre.holds [] {args:=args}=true:=(pre_splitW hpre).2
 obtain⟨d,r,rfl,h1,h2⟩:=hasAllW_cons hsh
 obtain rfl:=hasAllW_nil h2
 obtain⟨xs,rfl,h3⟩:=hasW_list h1
 obtain⟨ns,rfl⟩:=items_int h3
 have hlen:ns.length<=n:=by
  unfold OpenLaw.pre at hc
  have h4:(WTm.not (.lt (.lit (.int (n:Int))) (.len (.arg 0)))).holds [] {args:=[.list (ns.map .int)]}=true:=by
   have h4:=(holds_andW hc).1
   rw[hn] at h4
   exact h4
  have h5:=condW_of h4 (w_not (w_lt w_lit (w_len_list (w_arg rfl))))
  rw[List.length_map] at h5
  refine Nat.le_of_not_lt fun q=>?_
  have q':(n:Int)<((ns.length:Nat):Int):=by omega
  first
   | (rw[decide_eq_true q'] at h5;exact absurd h5 (by decide))
   | (simp at h5;omega)
 cases hwl with
 | cons w1 w2 =>
  cases w2
  cases w1 with
  | list ho hall=>exact⟨_,_,ns,rfl,rfl,ho,cC ns _ hall,hlen⟩
theorem uB(l:OpenLaw)(args:List WData):l.row.toRowW.claim.post args (.bool true) args=true:=
 postW_of (r:=l.row.toRowW) (X:=(true==true))
  (show WShape.has [] (.bool true) .bool=true by first | rfl | decide | simp[WShape.has,WShape.arms,WShape.armsAll])
  (show(WTm.eq .res (.lit (.bool true))).value [] {args:=args,res:=some (.bool true),after:=args}=some (.bool (true==true)) from w_eq_bool (w_res rfl) w_lit) rfl
theorem attach_call {l:OpenLaw} {n:Nat} {q:Program} {loose:List Str} {XP:(Str->Option Value)->Heap->Prop} {YP:World->Heap->Prop} {d:DefRec}
    (hn:l.most=some n) (hdf:d.params.defaults=[])
    (call:∀(w:World) (s₀ s₁:Shared) (mg mb:Str->Option Value) (fa:Addr) (o:Obj) (pm cd doc:Value) (a:Addr) (vs:List Value) (ns:List Int),
      Ground q loose [] XP w s₀ mg mb s₁.heap->YP w s₁.heap ->
      s₁.heap.get? fa=some o->o.data=.func (docDef d.name d.params d.body d.scope pm cd doc)->s₁.heap.CodeRec cd d.name->mg d.name=some (.ref fa) ->
      s₁.heap.get? a=some {cls:=.type "list",data:=.seq vs.toArray}->IntsAre vs ns->ns.length<=n->s₁.gens=#[] ->
      codeAny (model l.prog w) callerA (.call (.ref fa) ⟨[.ref a],[]⟩) (fun r s'=>r=.ok (.ret (.bool true))/\OldK s₁.heap s'.heap/\s'.os=s₁.os/\AllBare s'.gens) s₁) :
    WalkO q loose XP YP l.row.toRowW d [] (fun f vs=>PySem.call f vs):=by
  intro w s₀ s₁ mg mb G Y fa o pm cd doc dV kV ho hd hcd hD hmg hg args vals as hpre hlay hrd hwl hlo
  obtain rfl:dV=.none:=Dflts.none hD hdf
  obtain rfl:kV=.none:=Dflts.noKw hD
  obtain⟨a,vs,ns,rfl,rfl,hobj,hints,hlen⟩:=uO hn hpre hwl
  refine enter_call (codeAny_mono (call w s₀ s₁ mg mb fa o pm cd doc a vs ns G Y ho (fd_plain hd) hcd hmg hobj hints hlen hg) fun r s' hq=>?_)
  obtain⟨rfl,h2,h3,h4⟩:=hq
  exact⟨.inl ⟨.bool true,.bool true,[],rfl,fun _=>rfl,.bool true,uB l _,fun _=>⟨List.Pairwise.nil,fun _ hm=>(nomatch hm)⟩⟩,h2,h3,h4⟩
section
variable{prog:Program}{w:World}{A:Around}{E:Value->Shared->Prop}{s:Shared}{K:Frag}
def ledger(h:Heap)(L d:Addr):List (Addr×Obj):=(List.range h.objs.size).filterMap fun a=>if a=L\/a=d then none else (h.get? a).map fun o=>(a,o)
end
end Att
namespace L2
open PySem PySem.Spec PyProof.Rows
theorem bA:∀{vs:List Value} {ns:List Int},IntsAre vs ns->jg (ns.map V.int) vs
 | _,_,.nil=>.nil
 | _,_,.cons n t h=>.cons ⟨t,rfl⟩ (bA h)
def yw(H:Hp):Prop:=∀b,H b=none\/∃o xs,H b=some (.frz o (.lst xs))
theorem vD{P:Program}{w:World}{K:PySem.W.Frag}{mg mb:Str->Option Value}{CX:rm}{k:Nat}{fa a:Addr}{fd:FuncData}{x:Str}{sp:Sp}{s₁:Shared}{vs:List Value}{ns:List Int}
  (KX:K.In s₁.heap) (hns:s₁.heap.Ns mainGlobals mg) (hb:s₁.heap.Ns builtinsNs mb) (hbb:∀x:Str,x ≠ "__name__" -> mb x=bootBuiltins x) (hlim:s₁.heap.NoLimit) (hg:s₁.gens=#[])
  (ha:s₁.heap.get? a=some {cls:=.type "list",data:=.seq vs.toArray}) (hi:IntsAre vs ns) (hl:ns.length<=sizeLine) (hr:jy k callerA)
  (F:∀base:Heap,K.In base->base.Ns mainGlobals mg->jx P w K mg base CX k fa fd [x] sp) (hbind:∀(s:Shared) (u:Value),BindsTo s fd ⟨[u],[]⟩ [(x,u)])
  (hsp:∀H:Hp,yw H->kN K H a (ns.map V.int)->sp [.ref a] H (fun v _=>v=.bl true) fun _ _ _=>False)
  (hCX:∀H e s',CX [] H s₁ (fun _ _ _=>False) e s'->False) :
  codeAny (model P w) callerA (.call (.ref fa) ⟨[.ref a],[]⟩) (fun r s'=>r=.ok (.ret (.bool true))/\OldK s₁.heap s'.heap/\s'.os=s₁.os/\AllBare s'.gens) s₁:=by
 have rv:=bA hi
 have lenV:=hi.length
 have core:∀H:Hp,yw H->kN K H a (ns.map V.int)->mh P w H s₁.heap->(∀b,H b≠none->b=a)->(H a≠none->K.lookup a=none) ->
   codeAny (model P w) callerA (.call (.ref fa) ⟨[.ref a],[]⟩) (fun r s'=>r=.ok (.ret (.bool true))/\OldK s₁.heap s'.heap/\s'.os=s₁.os/\AllBare s'.gens) s₁:=by
  intro H hO hS hok hA hK
  have base_of:∀{b:Addr} {o:Obj},s₁.heap.get? b=some o->H b=none->(mj s₁.heap H).get? b=some o:=fun e n=>rK e n
  have noA:∀{b:Addr} {o:Obj} {es:Array DictEntry} {ep:Nat},s₁.heap.get? b=some o->o.data=.dict es ep->H b=none:=fun {b o es ep} e d=>by
   cases q:H b with
   | none=>rfl
   | some u =>
    have e':b=a:=hA b (by rw[q];simp)
    subst e'
    rw[ha] at e;cases e
    have d':Data.seq vs.toArray _=Data.dict es ep:=d
    cases d'
  have nsK:∀{b:Addr} {m:Str->Option Value},s₁.heap.Ns b m->(mj s₁.heap H).Ns b m:=fun {b m} ⟨o,es,ep,e,d,r⟩=>⟨o,es,ep,base_of e (noA e d),d,r⟩
  have hKb:K.In (mj s₁.heap H):=fun b o e=>base_of (KX b o e) (by
   cases q:H b with
   | none=>rfl
   | some u =>
    have e':b=a:=hA b (by rw[q];simp)
    subst e'
    rw[hK (by rw[q];simp)] at e;cases e)
  have hM:Mod K mg (mj s₁.heap H):=⟨hKb,nsK hns,⟨mb,nsK hb,hbb⟩,let ⟨mc,h1,h2⟩:=hlim;⟨mc,nsK h1,h2⟩⟩
  have e0:m9 P w K mg (mj s₁.heap H) callerA [] s₁ H:=⟨rfl,hM,fun b o e=>tX e,Nat.le_of_eq (pR _ _),trivial,fun b hb=>absurd (show b∈([]:List Addr) from hb) (by simp),hok,.of_eq hg⟩
  refine codeAny_mono ((F _ hKb (nsK hns)).run callerA [] s₁ H ⟨[.ref a],[]⟩ [.ref a] [.ref a] _ _ hr e0 (hbind s₁ (.ref a)) (.cons rfl .nil) (hsp H hO hS)) fun r s' h=>?_
  cases r with
  | error e=>exact(hCX H e s' h).elim
  | ok fl =>
   cases fl with
   | next=>exact False.elim h
   | brk=>exact False.elim h
   | cont=>exact False.elim h
   | ret u =>
    obtain⟨v,H',os,bare,un,hok',r',q⟩:=h
    have q':v=.bl true:=q
    subst q'
    obtain rfl:u=Value.bool true:=r'
    refine⟨rfl,OldK.of_keep fun b o e=>?_,os,bare⟩
    cases q:H b with
    | none=>exact un.keep b o e q (by intro z;exact absurd (show b∈([]:List Addr) from z) (by simp)) (by simp)
    | some u =>
     rcases hO b with z | ⟨ob,xs,z⟩
     ·rw[q] at z;cases z
     ·have z2:=un.frzs b ob _ (fun y q=>by cases q) z
      obtain⟨e1,_⟩:=hok b _ z
      obtain⟨e2,_⟩:=hok' b _ z2
      rw[e] at e1;cases e1
      exact e2
 cases hk:K.lookup a with
 | some o =>
  have e:=KX a o hk
  rw[ha] at e
  cases e
  refine core (fun _=>none) (fun _=>.inl rfl) (.inr ⟨_,vs.toArray,_,hk,rfl,rfl,rfl,by rw[List.size_toArray,lenV];exact hl,by simpa using rv⟩) (fun b u z=>by have z':(none:Option HO)=some u:=z;cases z') (fun b z=>absurd rfl z) fun z=>absurd rfl z
 | none =>
  refine core (fun b=>if b=a then some (.frz {cls:=.type "list",data:=.seq vs.toArray} (.lst (ns.map V.int))) else none) (fun b=>?_) (.inl (.inr ⟨{cls:=.type "list",data:=.seq vs.toArray},if_pos rfl⟩)) (fun b u z=>?_) (fun b z=>?_) fun _=>hk
  ·by_cases hb:b=a
   ·exact .inr ⟨_,_,if_pos hb⟩
   ·exact .inl (if_neg hb)
  ·by_cases hb:b=a
   ·have z':=(if_pos hb).symm.trans z
    cases z'
    subst hb
    exact⟨ha,by rw[List.length_map];exact hl,vs,_,rv,ha⟩
   ·have z':=(if_neg hb).symm.trans z
    cases z'
  ·by_cases hb:b=a
   ·exact hb
   ·exact absurd (if_neg hb) z
end L2
namespace L2
open PySem PySem.Spec PyProof.Rows
abbrev KOf{K:PySem.W.Frag}{h:Heap}(_:K.In h):PySem.W.Frag:=K
theorem walk_of {l:PySem.W.OpenLaw} {n k:Nat} {q:Program} {loose:List Str} {XP:(Str->Option Value)->Heap->Prop} {YP:World->Heap->Prop} {d:DefRec} {K:Params->PySem.W.Frag} {CX:World->rm} {sp:World->Sp} {x:Str}
    (hn:l.most=some n) (hn2:n<=sizeLine) (hdf:d.params.defaults=[]) (hr:jy k callerA)
    (hY:∀(w:World) (h:Heap),YP w h->(K w.params).In h)
    (F:∀(w:World) (mg:Str->Option Value) (fa:Addr) (h:Heap),(K w.params).In h->h.Ns mainGlobals mg->mg d.name=some (.ref fa) ->
      ∃fd:FuncData,(∀(s:Shared) (u:Value),BindsTo s fd ⟨[u],[]⟩ [(x,u)]) /\
        ∀base:Heap,(K w.params).In base->base.Ns mainGlobals mg->jx l.prog w (K w.params) mg base (CX w) k fa fd [x] (sp w))
    (hsp:∀(w:World) (H:Hp) (a:Addr) (ns:List Int),ns.length<=n->yw H->kN (K w.params) H a (ns.map V.int)->sp w [.ref a] H (fun v _=>v=.bl true) fun _ _ _=>False)
    (hCX:∀(w:World) (H:Hp) (s:Shared) (e:Value) (s':Shared),CX w [] H s (fun _ _ _=>False) e s'->False) :
    PySem.W.WalkO q loose XP YP l.row.toRowW d [] (fun f vs=>PySem.call f vs):=by
  refine Att.attach_call hn hdf fun w s₀ s₁ mg mb fa o pm cd doc a vs ns G Y ho hd hcd hmg hobj hints hlen hg=>?_
  have KX:=hY w _ Y
  obtain⟨fd,hb,hF⟩:=F w mg fa _ KX G.T.g hmg
  exact vD KX G.T.g G.T.b G.T.builtins G.T.nolimit hg hobj hints (Nat.le_trans hlen hn2) hr hF hb (fun H hO hS=>hsp w H a ns hlen hO hS) fun H e s'=>hCX w H s₁ e s'
end L2
/- THE LAST THEOREM (shape;LID,My.* are yours):
  My.Adr: a structure of the addresses that your layer names (classes,functions);My.Txt K t: a structure (Prop) of the equations over K;
  My.txt_mk:{K} {implicit addresses ..} (e1:nsIn K mainGlobals "law" = some (some (.ref f))) (e2:K.lookup f=some ⟨oc,od,.func (fnOf "law" "law" params body scope dV kV doc pm an cdv ct),sl⟩) (e3:codeIn K cdv "law" = true) ..:∃t,My.Txt K t
set_option maxRecDepth 100000 in
set_option maxHeartbeats 0 in
theorem PySem.Challenge.cw_LID_holds : PySem.Challenge.rw_LID.Holds := by
 w_on;o_law;k_head;(case hw=>w_witness2)
 k_fill
 refine L2.walk_of (l:=PySem.Challenge.rw_LID) (n:=63) (k:=40) (x:="script") (CX:=fun w=>..) (sp:=fun _=>My.sp_law) rfl (by decide) rfl ⟨rfl,by decide,by decide⟩ (fun w h Y=>PySem.W.kIn_of Y) ?F ?S ?C
 case F =>
  intro w mg fa h KX G hmg
  have T:∃t,My.Txt (L2.KOf KX) t:=by
   dsimp only [L2.KOf]                          -- K must stand as «<heap const> w.params» for k_is
   refine' My.txt_mk ?e1 ?e2 ?e3 ..
   (case e1=>PySem.W.k_is)                    -- in the order: a name->its address->its object->its parts
   (case e2=>PySem.W.k_is)
   ..
  obtain⟨t,T⟩:=T
  have e0:=hmg.symm.trans (PySem.W.mg_of KX G T.law)
  cases e0                                       -- fa is the law's own address
  exact⟨_,fun s u=>.of_eq rfl,fun base kb nb=>My.law_fn T kb nb⟩     -- if «.of_eq rfl» comes too early: refine' ⟨_,?b,fun base kb nb=>My.law_fn T kb nb⟩;exact fun s u=>.of_eq rfl
 case S=>exact fun w H a ns hl hO hS=>..
 case C=>exact ..
(the tactic k_is has no namespace: write k_is) -/
namespace L2
open PySem PySem.Spec PyProof.Rows
def j9(s:Stmt):Arguments:=match s with
 | .FunctionDef _ a _ _ _ _ _ _ _ _=>a
 | _=>{posonlyargs:=[],args:=[],vararg:=none,kwonlyargs:=[],kw_defaults:=[],kwarg:=none,defaults:=[]}
def jE(s:Stmt):List Stmt:=match s with
 | .FunctionDef _ _ b _ _ _ _ _ _ _=>b
 | _=>[]
def i7(s:Stmt):Scope:=match s with
 | .FunctionDef _ _ _ _ _ _ sc _ _ _=>sc
 | _=>{kind:=.function,names:=[],isGenerator:=false,isCoroutine:=false}
abbrev kK:rm:=fun _ _ _ _ _ _=>False
abbrev E0:XK:=fun _ _ _=>False
theorem qY{X:Cx}:sM kK X E0:=fun _ _ _ _ _ _ _ h=>h.elim
structure ng (K:PySem.W.Frag) (x qual:Str) (st:Stmt) (f:Addr) (fd:FuncData):Prop where
 ex:∃(oc:Value) (od:Option Addr) (kV doc pm:Value) (an:Option Addr) (cdv ct:Value) (osl:Array (Option Value)),
  fd=PySem.W.fnOf x qual (j9 st) (jE st) (i7 st) .none kV doc pm an cdv ct/\K.lookup f=some ⟨oc,od,.func fd,osl⟩/\PySem.W.codeIn K cdv qual=true
 kp:PySem.W.keepIn K (.ref f)=true
section
variable{P:Program}{w:World}{K:PySem.W.Frag}{mg:Str->Option Value}{base:Heap}
theorem ng.ok {x qual:Str} {st:Stmt} {f:Addr} {fd:FuncData} {N ps:List Str} {k:Nat} {sp:Sp} (F:ng K x qual st f fd) (S:jm N ps (i7 st)) (len:∀ vs H Q E,sp vs H Q E->vs.length=ps.length)
    (hbody:∀(cdv:Value) (A:Around) (outer:List Env) (s:Shared) (H:Hp) (vs:List V) (Q:VK) (E:XK),jy k (A.deeper (envOfC qual (i7 st) s.heap.objs.size f cdv))->sp vs H Q E ->
      ∃t,PSs (nN kK P w K mg base N qual (i7 st) f cdv A outer s H E).nox (jE st) t/\t {nx:=fun _ H'=>Q .non H',rt:=Q} (start N vs) H):jx P w K mg base kK (k+1) f fd ps sp:=by
  obtain⟨oc,od,kV,doc,pm,an,cdv,ct,osl,rfl,lk,hcd⟩:=F.ex
  refine ia lk hcd S len fun A outer s H vs Q E hr hsp=>?_
  obtain⟨t,h,q⟩:=hbody cdv A outer s H vs Q E hr hsp
  exact⟨t,h.nox,q⟩
theorem ng.binds{x qual:Str}{st:Stmt}{f:Addr}{fd:FuncData}{ps:List Str}(F:ng K x qual st f fd)
  (h:∀(kV doc pm:Value) (an:Option Addr) (cdv ct:Value) (us:List Value),us.length=ps.length->bindArgs (PySem.W.fnOf x qual (j9 st) (jE st) (i7 st) .none kV doc pm an cdv ct) ⟨us,[]⟩=pure (ps.zip us)):Binds K fd ps []:=by
 obtain⟨oc,od,kV,doc,pm,an,cdv,ct,osl,rfl,lk,hcd⟩:=F.ex
 exact .all (h kV doc pm an cdv ct)
theorem gp{x qual:Str}{st:Stmt}{f:Addr}{oc:Value}{od an:Option Addr}{osl:Array (Option Value)}{kV doc pm cdv ct:Value}(l:K.lookup f=some ⟨oc,od,.func (PySem.W.fnOf x qual (j9 st) (jE st) (i7 st) .none kV doc pm an cdv ct),osl⟩)
  (c:PySem.W.codeIn K cdv qual=true) (k:PySem.W.keepIn K (.ref f)=true):ng K x qual st f (PySem.W.fnOf x qual (j9 st) (jE st) (i7 st) .none kV doc pm an cdv ct):=⟨⟨oc,od,kV,doc,pm,an,cdv,ct,osl,rfl,l,c⟩,k⟩
end
theorem rL{A:Around}{k:Nat}(hr:jy k A):A.units+1<cLine:=Nat.lt_of_le_of_lt (Nat.add_le_add_left (by decide:1<=64) _) hr.units
theorem m7{n:Nat}(h:n<=1000):n<sizeLine:=Nat.lt_of_le_of_lt h (by decide)
section
variable{X:Cx}
theorem pv(i:Nat){x:Str}{pos:Pos}(hN:X.N[i]?=some x:=by rfl)(hv:qB X.env.scope x:=by first | exact Or.inl rfl | exact Or.inr (Or.inl rfl) | exact Or.inr (Or.inr rfl))(hd:(x==("__debug__" : Str))=false:=by decide)
  (hcd:(x==("__classdict__" : Str))=false:=by decide):PE X (.Name x pos) (Ao i):=eM hN hv hd hcd
end
def i9(H H':Hp):Prop:=∀b o,H b=some o->H' b=some o
theorem i9.refl(H:Hp):i9 H H:=fun _ _ h=>h
theorem i9.trans{H H1 H2:Hp}(a:i9 H H1)(b:i9 H1 H2):i9 H H2:=fun c o h=>b c o (a c o h)
theorem i9.free{H H':Hp}(e:i9 H H'){l:Addr}(h:H' l=Option.none):H l=Option.none:=by
 cases q:H l with
 | none=>rfl
 | some o =>
  rw[e l o q] at h
  cases h
theorem i9.seq{K:PySem.W.Frag}{H H':Hp}{a:Addr}{xs:List V}(e:i9 H H')(h:kN K H a xs):kN K H' a xs:=by
 rcases h with (h | ⟨o,h⟩) | h
 ·exact .inl (.inl (e _ _ h))
 ·exact .inl (.inr ⟨o,e _ _ h⟩)
 ·exact .inr h
end L2
set_option maxHeartbeats 1000000
namespace HW
open PySem PySem.Spec PyProof.Rows L2
structure jW where
 c:Addr
 P:Addr
 q:Str
def qx(ts:List jW)(b:Addr):Option HO:=(ts.find? fun t=>t.P==b).map fun t=>.tbl t.q false
theorem nY{ts:List jW}{b:Addr}{u:HO}(h:qx ts b=some u):∃t∈ts,t.P=b/\u=.tbl t.q false:=by
 unfold qx at h
 cases e:ts.find? fun t=>t.P==b with
 | none=>rw[e] at h;cases h
 | some t =>
  rw[e] at h
  cases h
  exact⟨t,List.mem_of_find?_eq_some e,by simpa using List.find?_some e,rfl⟩
def tR(ts:List jW)(a:Addr)(H:Hp):Prop:=∀b,(b≠a/\H b=qx ts b)\/(b=a/\(H b=none\/∃o xs,H b=some (.frz o (.lst xs))))
structure j8 (mg:Str->Option Value) (ts:List jW) (base:Heap):Prop where
 code:∀t∈ts,W.CodeHd base t.c t.P
 bm:∃bm o,mg "__builtins__" = some (.ref bm)/\bm≠builtinsNs/\bm≠mainGlobals/\base.get? bm=some o/\o.cls=.type "module" /\ o.dict=some builtinsNs/\o.data=.plain
theorem uz{P:Program}{w:World}{K:W.Frag}{mg mb:Str->Option Value}{CX:rm}{k:Nat}{fa a:Addr}{fd:FuncData}{x:Str}{sp:Sp}{s₁:Shared}{vs:List Value}{ns:List Int}{ts:List jW}
  (KX:K.In s₁.heap) (hns:s₁.heap.Ns mainGlobals mg) (hb:s₁.heap.Ns builtinsNs mb) (hbb:∀x:Str,x ≠ "__name__" -> mb x=bootBuiltins x) (hlim:s₁.heap.NoLimit) (hg:s₁.gens=#[])
  (ha:s₁.heap.get? a=some {cls:=.type "list",data:=.seq vs.toArray}) (hi:IntsAre vs ns) (hl:ns.length<=sizeLine) (hr:jy k callerA)
  (hT:∀t∈ts,W.CodeHd s₁.heap t.c t.P/\s₁.heap.get? t.P=some (W.tabObj #[])) (hK:∀t∈ts,K.lookup t.P=none)
  (hbm:∃bm o,mg "__builtins__" = some (.ref bm)/\bm≠builtinsNs/\bm≠mainGlobals/\s₁.heap.get? bm=some o/\o.cls=.type "module" /\ o.dict=some builtinsNs/\o.data=.plain)
  (F:∀base:Heap,K.In base->base.Ns mainGlobals mg->j8 mg ts base->jx P w K mg base CX k fa fd [x] sp) (hbind:∀(s:Shared) (u:Value),BindsTo s fd ⟨[u],[]⟩ [(x,u)])
  (hsp:∀H:Hp,tR ts a H->(∀t∈ts,t.P≠a)->kN K H a (ns.map V.int)->sp [.ref a] H (fun v _=>v=.bl true) fun _ _ _=>False)
  (hCX:∀H e s',CX [] H s₁ (fun _ _ _=>False) e s'->False) :
  codeAny (model P w) callerA (.call (.ref fa) ⟨[.ref a],[]⟩) (fun r s'=>r=.ok (.ret (.bool true))/\OldK s₁.heap s'.heap/\s'.os=s₁.os/\AllBare s'.gens) s₁:=by
 have rv:=bA hi
 have lenV:=hi.length
 have aP:∀t∈ts,t.P≠a:=fun t ht z=>by
  have e:=(hT t ht).2
  rw[z,ha] at e;cases e
 have tabOk:∀(H:Hp) {b:Addr} {u:HO},qx ts b=some u->jJ P w H s₁.heap b u:=fun H {b u} h=>by
  obtain⟨t,ht,rfl,rfl⟩:=nY h
  exact⟨#[],(hT t ht).2,trivial,fun pos cv hc=>by cases hc⟩
 have core:∀H:Hp,tR ts a H->kN K H a (ns.map V.int)->mh P w H s₁.heap->(H a≠none->K.lookup a=none) ->
   codeAny (model P w) callerA (.call (.ref fa) ⟨[.ref a],[]⟩) (fun r s'=>r=.ok (.ret (.bool true))/\OldK s₁.heap s'.heap/\s'.os=s₁.os/\AllBare s'.gens) s₁:=by
  intro H hO hS hok hKa
  have what:∀{b:Addr} {u:HO},H b=some u->(b=a)\/∃t∈ts,t.P=b/\u=.tbl t.q false:=fun {b u} e=>by
   rcases hO b with ⟨_,z⟩ | ⟨z,_⟩
   ·rw[e] at z;exact .inr (nY z.symm)
   ·exact .inl z
  have base_of:∀{b:Addr} {o:Obj},s₁.heap.get? b=some o->H b=none->(mj s₁.heap H).get? b=some o:=fun e n=>rK e n
  have free:∀{b:Addr} {o:Obj},s₁.heap.get? b=some o->(∀(its:Array Value) n,o.data≠.seq its n)->(o.cls≠.none)->H b=none:=fun {b o} e h1 h2=>by
   cases q:H b with
   | none=>rfl
   | some u =>
    rcases what q with z | ⟨t,ht,z,_⟩
    ·rw[z,ha] at e;cases e;exact absurd rfl (h1 _ _)
    ·rw[<- z,(hT t ht).2] at e;cases e;exact absurd rfl h2
  have noA:∀{b:Addr} {o:Obj} {es:Array DictEntry} {ep:Nat},s₁.heap.get? b=some o->o.data=.dict es ep->H b=none:=fun {b o es ep} e d=>by
   cases q:H b with
   | none=>rfl
   | some u =>
    rcases what q with z | ⟨t,ht,z,_⟩
    ·rw[z,ha] at e;cases e;cases (show Data.seq vs.toArray _=Data.dict es ep from d)
    ·rw[<- z,(hT t ht).2] at e;cases e;cases d
  have nsK:∀{b:Addr} {m:Str->Option Value},s₁.heap.Ns b m->(mj s₁.heap H).Ns b m:=fun {b m} ⟨o,es,ep,e,d,r⟩=>⟨o,es,ep,base_of e (noA e d),d,r⟩
  have hKb:K.In (mj s₁.heap H):=fun b o e=>base_of (KX b o e) (by
   cases q:H b with
   | none=>rfl
   | some u =>
    rcases what q with z | ⟨t,ht,z,_⟩
    ·subst z;rw[hKa (by rw[q];simp)] at e;cases e
    ·rw[<- z,hK t ht] at e;cases e)
  have hM:Mod K mg (mj s₁.heap H):=⟨hKb,nsK hns,⟨mb,nsK hb,hbb⟩,let ⟨mc,h1,h2⟩:=hlim;⟨mc,nsK h1,h2⟩⟩
  have hTB:j8 mg ts (mj s₁.heap H):=by
   refine⟨fun t ht=>?_,?_⟩
   ·obtain⟨o,vs',file,tf,flags,tg,inF,text,tt,e,ec,ed,r⟩:=(hT t ht).1
    exact⟨o,vs',file,tf,flags,tg,inF,text,tt,base_of e (free e (fun its n z=>by rw[ed] at z;cases z) (by rw[ec];simp)),ec,ed,r⟩
   ·obtain⟨bm,o,b1,b2,b3,b4,b5,b6,b7⟩:=hbm
    exact⟨bm,o,b1,b2,b3,base_of b4 (free b4 (fun its n z=>by rw[b7] at z;cases z) (by rw[b5];simp)),b5,b6,b7⟩
  have e0:m9 P w K mg (mj s₁.heap H) callerA [] s₁ H:=⟨rfl,hM,fun b o e=>tX e,Nat.le_of_eq (pR _ _),trivial,fun b hb=>absurd (show b∈([]:List Addr) from hb) (by simp),hok,.of_eq hg⟩
  refine codeAny_mono ((F _ hKb (nsK hns) hTB).run callerA [] s₁ H ⟨[.ref a],[]⟩ [.ref a] [.ref a] _ _ hr e0 (hbind s₁ (.ref a)) (.cons rfl .nil) (hsp H hO aP hS)) fun r s' h=>?_
  cases r with
  | error e=>exact(hCX H e s' h).elim
  | ok fl =>
   cases fl with
   | next=>exact False.elim h
   | brk=>exact False.elim h
   | cont=>exact False.elim h
   | ret u =>
    obtain⟨v,H',os,bare,un,hok',r',q⟩:=h
    have q':v=.bl true:=q
    subst q'
    obtain rfl:u=Value.bool true:=r'
    have tab:∀{b:Addr} {o:Obj},s₁.heap.get? b=some o->(s'.heap.get? b=some o)\/∃t∈ts,t.P=b/\o=W.tabObj #[]/\∃ps,s'.heap.get? b=some (W.tabObj ps):=fun {b o} e=>by
     cases qb:H b with
     | none=>exact .inl (un.keep b o e qb (by intro z;exact absurd (show b∈([]:List Addr) from z) (by simp)) (by simp))
     | some u =>
      rcases hO b with ⟨_,z⟩ | ⟨_,z⟩
      ·rw[qb] at z
       obtain⟨t,ht,zP,rfl⟩:=nY z.symm
       have z2:=un.tbls b _ _ qb
       obtain⟨ps,g,_⟩:=(show jJ P w H' s'.heap b (.tbl t.q false) from hok' b _ z2)
       have e2:=(hT t ht).2
       rw[zP,e] at e2
       exact .inr ⟨t,ht,zP,Option.some.inj e2,ps,g⟩
      ·rcases z with z | ⟨ob,xs,z⟩
       ·rw[qb] at z;cases z
       ·have z2:=un.frzs b ob _ (fun y q=>by cases q) z
        obtain⟨e1,_⟩:=hok b _ z
        obtain⟨e2,_⟩:=hok' b _ z2
        rw[e] at e1;cases e1
        exact .inl e2
    refine⟨rfl,⟨fun b o e=>?_,fun b o e=>?_⟩,os,bare⟩
    ·rcases tab e with z | ⟨t,ht,rfl,rfl,ps,g⟩
     ·exact .inl z
     ·exact .inr (.inl ⟨((hT t ht).1.tab (hT t ht).2).isCodeTable,rfl,#[],ps,rfl,by rw[Array.empty_append];exact g⟩)
    ·rcases tab e with z | ⟨t,ht,rfl,rfl,ps,g⟩
     ·exact⟨_,z⟩
     ·exact⟨_,g⟩
 cases hk:K.lookup a with
 | some o =>
  have e:=KX a o hk
  rw[ha] at e
  cases e
  have hn:qx ts a=none:=by
   cases q:qx ts a with
   | none=>rfl
   | some u=>obtain⟨t,ht,z,_⟩:=nY q;exact absurd z (aP t ht)
  refine core (qx ts) (fun b=>?_) (.inr ⟨_,vs.toArray,_,hk,rfl,rfl,rfl,by rw[List.size_toArray,lenV];exact hl,by simpa using rv⟩) (fun b u z=>tabOk _ z) fun z=>absurd hn z
  by_cases hb:b=a
  ·exact .inr ⟨hb,.inl (by rw[hb];exact hn)⟩
  ·exact .inl ⟨hb,rfl⟩
 | none =>
  refine core (fun b=>if b=a then some (.frz {cls:=.type "list",data:=.seq vs.toArray} (.lst (ns.map V.int))) else qx ts b) (fun b=>?_) (.inl (.inr ⟨{cls:=.type "list",data:=.seq vs.toArray},if_pos rfl⟩)) (fun b u z=>?_) fun _=>hk
  ·by_cases hb:b=a
   ·exact .inr ⟨hb,.inr ⟨_,_,if_pos hb⟩⟩
   ·exact .inl ⟨hb,if_neg hb⟩
  ·by_cases hb:b=a
   ·have z':=(if_pos hb).symm.trans z
    cases z'
    subst hb
    exact⟨ha,by rw[List.length_map];exact hl,vs,_,rv,ha⟩
   ·exact tabOk _ ((if_neg hb).symm.trans z)
theorem mN{i j:Int}{t u:Tok}{c:Value}:∀{l:List Value},TriplesOk l->TriplesOk (l++[.int i t,.int j u,c])
 | [],_=>trivial
 | .int _ _::.int _ _::_::rest,h=>mN (l:=rest) h
theorem oy{pos:Pos}{i j:Int}{t u:Tok}{c cv:Value}:∀{l:List Value},TriplesOk l->codeAmong pos (l++[.int i t,.int j u,c])=some cv->codeAmong pos l=some cv\/cv=c
 | [],_,h=>by
  have h':(if (i==pos.line&&j==pos.col)=true then some c else codeAmong pos [])=some cv:=h
  split at h'
  ·cases h';exact .inr rfl
  ·cases h'
 | .int a ta::.int b tb::d::rest,hl,h=>by
  have h':(if (a==pos.line&&b==pos.col)=true then some d else codeAmong pos (rest++[.int i t,.int j u,c]))=some cv:=h
  show(if (a==pos.line&&b==pos.col)=true then some d else codeAmong pos rest)=some cv\/_
  split at h'
  ·rename_i z;rw[if_pos z];exact .inl h'
  ·rename_i z;rw[if_neg z];exact oy (l:=rest) hl h'
section
variable{X:Cx}{pins:List (Addr×Obj)}{σ:L2.St}{H:Hp}{s:Shared}
abbrev lF(o:Obj):HO:=.frz o (.ext fun _=>True)
theorem vU{t:jW}{ts:List jW}{name:Str}{params:Arguments}{body:Expr}{scope:Scope}{clos:List (Str×Addr)}{pos:Pos}{line:Nat}(I:L2.Inv X pins σ H s)(TB:j8 X.mg ts X.base)(ht:t∈ts)(hP:H t.P=some (.tbl t.q false))(hcode:X.env.code=.ref t.c)
  (hcl:closureFor scope X.env=pure clos):wpAny (model X.prog X.w) X.A (makeFunction name t.q params (.expr body) scope X.env [] [] [] pos line)
   (fun v s'=>∃f c' ctv pm H',v=.ref f/\L2.Inv X pins σ H' s'/\i9 H H'/\H f=none/\H' f=some (lF (W.kla_obj name t.q params body scope clos pm c' ctv))/\H' c'=some (.tbl t.q true)) X.xe s:=by
 obtain⟨tv,eP,tr,ent⟩:=(show jJ X.prog X.w H s.heap t.P (.tbl t.q false) from I.hok _ _ hP)
 have hg:s.heap.Ns mainGlobals X.mg:=I.mod.glob.keeps I.bk
 have C:W.CodeHd s.heap t.c t.P:=(TB.code t ht).keeps I.bk
 have nbase:∀{b:Addr} {o:Obj},X.base.get? b=some o->b≠t.P:=fun e z=>by
  have:=(I.bs _ _ e).2
  rw[z,hP] at this;cases this
 have hgP:mainGlobals≠t.P:=by
  obtain⟨o,_,_,e,_⟩:=I.mod.glob
  exact nbase e
 have hb:s.heap.BuiltinsAt X.mg t.P:=by
  obtain⟨bm,o,b1,b2,b3,b4,b5⟩:=TB.bm
  exact⟨bm,o,b1,b2,b3,nbase b4,I.bk _ _ b4,b5⟩
 cases hc:codeAmong pos tv.toList with
 | none =>
  refine W.kla_makeFunction hcl I.ok.glob hg hcode C eP tr hc hgP hb fun c' ctv h' tk hx hge hlt hrec htb=>?_
  have hcs:∀{b:Addr} {u:HO},H b=some u->b≠c'/\b≠h'.objs.size:=fun e=>by
   have q:=I.hok.lt e
   exact⟨Nat.ne_of_lt (Nat.lt_of_lt_of_le q hge),Nat.ne_of_lt (Nat.lt_of_lt_of_le q (Nat.le_trans hge (Nat.le_of_lt hlt)))⟩
  have hF:H h'.objs.size=none:=I.hok.fresh (Nat.le_trans hge (Nat.le_of_lt hlt))
  have hCn:H c'=none:=I.hok.fresh hge
  refine⟨h'.objs.size,c',ctv,_,upd (upd H c' (.tbl t.q true)) h'.objs.size (lF (W.kla_obj name t.q params body scope clos ((X.mg "__name__").getD .none) c' ctv)),rfl,?_,fun b u e=>?_,hF,ae,?_⟩
  ·have kp:∀b o,b≠t.P->s.heap.get? b=some o->(h'.push (W.kla_obj name t.q params body scope clos ((X.mg "__name__").getD .none) c' ctv)).get? b=some o:=fun b o nb e=>Heap.get?_push_of_some _ (hx b o nb e)
   have nP:∀{b:Addr},H b=none->b≠t.P:=fun e z=>by rw[z,hP] at e;cases e
   have st:∀{b:Addr} {u:HO},H b=some u->upd (upd H c' (.tbl t.q true)) h'.objs.size (lF (W.kla_obj name t.q params body scope clos ((X.mg "__name__").getD .none) c' ctv)) b=some u:=fun e=>by rw[ai (hcs e).2,ai (hcs e).1];exact e
   refine I.un ⟨fun b o e n _ _=>kp b o (nP n) e,fun b o e n _ _=>⟨o.slots,kp b o (nP n) e⟩,fun b o e n _=>?_,fun b o e _=>?_,fun b xs e=>st e,fun b o u _ e=>st e,fun b q d e=>st e⟩ fun b u e=>?_
   ·have q:=Heap.lt_size e
    rw[ai (Nat.ne_of_lt (Nat.lt_of_lt_of_le q (Nat.le_trans hge (Nat.le_of_lt hlt)))),ai (Nat.ne_of_lt (Nat.lt_of_lt_of_le q hge))];exact n
   ·by_cases hb:b=t.P
    ·exact⟨_,by rw[hb];exact Heap.get?_push_of_some _ htb⟩
    ·exact⟨o,kp b o hb e⟩
   ·by_cases hbf:b=h'.objs.size
    ·subst hbf
     rw[ae] at e
     cases e
     exact⟨Heap.get?_push_size _ rfl,trivial,⟨_,Heap.get?_push_size _ rfl⟩,fun _ _ _ _=>trivial⟩
    ·rw[ai hbf] at e
     by_cases hbc:b=c'
     ·subst hbc
      rw[ae] at e
      cases e
      exact hrec.push _
     ·rw[ai hbc] at e
      by_cases hbP:b=t.P
      ·subst hbP
       rw[hP] at e
       cases e
       refine⟨_,Heap.get?_push_of_some _ htb,by rw[Array.toList_append];exact mN tr,fun pos' cv hcv=>?_⟩
       rw[Array.toList_append] at hcv
       rcases oy tr hcv with z | z
       ·obtain⟨c2,e1,e2⟩:=ent pos' cv z
        exact⟨c2,e1,st e2⟩
       ·exact⟨c',z,by rw[ai (Nat.ne_of_lt hlt),ae]⟩
      ·refine(I.hok b u e).stay (fun c v hcb r=>kp c v (fun z=>?_) r) (fun c r=>st r) (fun c xs r=>st r) fun c q d r=>st r
       rcases hcb with rfl | hcb
       ·exact hbP z
       ·rw[z,hP] at hcb;cases hcb
  ·rw[ai (hcs e).2,ai (hcs e).1];exact e
  ·rw[ai (Nat.ne_of_lt hlt),ae]
 | some cv =>
  obtain⟨c',rfl,hcC⟩:=ent pos cv hc
  refine W.kla_makeFunctionHit hcl I.ok.glob hg hcode C eP tr hc hb fun ctv h' tk hk hsz=>?_
  have hcs:∀{b:Addr} {u:HO},H b=some u->b≠h'.objs.size:=fun e=>by
   exact Nat.ne_of_lt (Nat.lt_of_lt_of_le (I.hok.lt e) hsz)
  have hF:H h'.objs.size=none:=I.hok.fresh hsz
  refine⟨h'.objs.size,c',ctv,_,upd H h'.objs.size (lF (W.kla_obj name t.q params body scope clos ((X.mg "__name__").getD .none) c' ctv)),rfl,?_,fun b u e=>?_,hF,ae,?_⟩
  ·have kp:∀b o,s.heap.get? b=some o->(h'.push (W.kla_obj name t.q params body scope clos ((X.mg "__name__").getD .none) c' ctv)).get? b=some o:=fun b o e=>Heap.get?_push_of_some _ (hk b o e)
   have st:∀{b:Addr} {u:HO},H b=some u->upd H h'.objs.size (lF (W.kla_obj name t.q params body scope clos ((X.mg "__name__").getD .none) c' ctv)) b=some u:=fun e=>by rw[ai (hcs e)];exact e
   refine I.un ⟨fun b o e n _ _=>kp b o e,fun b o e n _ _=>⟨o.slots,kp b o e⟩,fun b o e n _=>?_,fun b o e _=>⟨o,kp b o e⟩,fun b xs e=>st e,fun b o u _ e=>st e,fun b q d e=>st e⟩ fun b u e=>?_
   ·rw[ai (Nat.ne_of_lt (Nat.lt_of_lt_of_le (Heap.lt_size e) hsz))];exact n
   ·by_cases hbf:b=h'.objs.size
    ·subst hbf
     rw[ae] at e
     cases e
     exact⟨Heap.get?_push_size _ rfl,trivial,⟨_,Heap.get?_push_size _ rfl⟩,fun _ _ _ _=>trivial⟩
    ·rw[ai hbf] at e
     exact(I.hok b u e).stay (fun c v _ r=>kp c v r) (fun c r=>st r) (fun c xs r=>st r) fun c q d r=>st r
  ·rw[ai (hcs e)];exact e
  ·rw[ai (hcs hcC)];exact hcC
end
theorem kT{α:Type}:∀{l:List (Str×α)} {x:Str} {u:α},(l.map (·.1)).Nodup->(x,u)∈l->l.lookup x=some u
 | (y,v)::l,x,u,nd,h=>by
  rw[List.map_cons,List.nodup_cons] at nd
  rw[List.lookup_cons]
  rcases List.mem_cons.mp h with e | h
  ·cases e;simp
  ·have hn:(x==y)=false:=beq_eq_false_iff_ne.mpr fun z=>nd.1 (List.mem_map.mpr ⟨(x,u),h,z⟩)
   rw[hn]
   exact kT nd.2 h
def kc(cl:List (Str×Addr))(b:Addr):Bool:=cl.any fun p=>p.2==b
def lq(cl:List (Str×Addr))(H:Hp):Hp:=fun b=>if kc cl b then none else H b
def pD(cl:List (Str×Addr))(H H2:Hp):Hp:=fun b=>if kc cl b then H b else H2 b
theorem sg{cl:List (Str×Addr)}{x:Str}{c:Addr}(h:cl.lookup x=some c):kc cl c=true:=List.any_eq_true.mpr ⟨(x,c),PySem.mem_of_lookup h,by simp⟩
structure kU (N ps:List Str) (sc:Scope) (cl:List (Str×Addr)):Prop where
 kind:sc.kind=.function
 co:sc.isCoroutine=false
 gen:sc.isGenerator=false
 nd:N.Nodup
 pre:N.take ps.length=ps
 par:∀x∈ps,sc.names.lookup x=some .local
 nocell:∀y∈sc.names,y.2≠.cell
 fre:∀x∈N.drop ps.length,sc.names.lookup x=some .free
 has:∀x,sc.names.lookup x=some .free->∃c,cl.lookup x=some c
 ndc:(cl.map (·.1)).Nodup
 inj:∀x y c,cl.lookup x=some c->cl.lookup y=some c->x=y
def ma(H:Hp)(N ps:List Str)(cl:List (Str×Addr))(caps:List V):Prop:=
 caps.length=N.length - ps.length/\(∀b,kc cl b=true->∃o u,H b=some (lF o)/\o.data=.cell (some u))/\∀(i:Nat) (x:Str) (v:V),(N.drop ps.length)[i]?=some x->caps[i]?=some v->∃c o u,cl.lookup x=some c/\H c=some (lF o)/\o.data=.cell (some u)/\RelV v u
theorem ma.to{H H':Hp}{N ps:List Str}{cl:List (Str×Addr)}{caps:List V}(h:ma H N ps cl caps)(s:∀b o,H b=some (lF o)->H' b=some (lF o)):ma H' N ps cl caps:=by
 obtain⟨h1,h2,h3⟩:=h
 refine⟨h1,fun b hb=>?_,fun i x v q1 q2=>?_⟩
 ·obtain⟨o,u,e,d⟩:=h2 b hb
  exact⟨o,u,s b o e,d⟩
 ·obtain⟨c,o,u,e1,e2,r⟩:=h3 i x v q1 q2
  exact⟨c,o,u,e1,s c o e2,r⟩
def uc(CX:rm)(P:Program)(w:World)(K:W.Frag)(mg:Str->Option Value)(base:Heap)(N:List Str)(qual:Str)(scope:Scope)(cl:List (Str×Addr))(f:Addr)(cd:Value)(A:Around)(outer:List Env)(s:Shared)(H:Hp)(E:XK):Cx where
 prog:=P
 w:=w
 K:=K
 mg:=mg
 base:=base
 A:=A.deeper (W.envX qual scope s.heap.objs.size f cd cl)
 N:=N
 s₀:=s
 H₀:=lq cl H
 env:=W.envX qual scope s.heap.objs.size f cd cl
 outer:=outer
 stack:=W.envX qual scope s.heap.objs.size f cd cl::outer
 ex:=[]
 calm:=true
 fn:=fun _=>false
 pn:=[]
 xe:=fun e s'=>wpAny (model P w) (A.deeper (W.envX qual scope s.heap.objs.size f cd cl)) (leaving (W.envX qual scope s.heap.objs.size f cd cl) e) (fun _ s''=>CX outer H s E e s'') (fun e' s''=>CX outer H s E e' s'') s'
theorem zr {CX:rm} {P:Program} {w:World} {K:W.Frag} {mg:Str->Option Value} {base:Heap} {k:Nat} {f c':Addr} {name qual:Str} {params:Arguments} {body:Expr} {scope:Scope} {cl:List (Str×Addr)} {pm ctv:Value} {N ps:List Str} {sp:Sp}
    (S:kU N ps scope cl) (len:∀vs H Q E,sp vs H Q E->vs.length=ps.length)
    (pre:∀vs H Q E,sp vs H Q E->H f=some (lF (W.kla_obj name qual params body scope cl pm c' ctv))/\H c'=some (.tbl qual true))
    (hbody:∀(A:Around) (outer:List Env) (s:Shared) (H:Hp) (vs:List V) (Q:VK) (E:XK),jy k (A.deeper (W.envX qual scope s.heap.objs.size f (.ref c') cl))->m9 P w K mg base A outer s H->sp vs H Q E ->
      ∃caps t,ma H N ps cl caps/\PE (uc CX P w K mg base N qual scope cl f (.ref c') A outer s H E) body t/\t ((vs++caps).map some) (lq cl H) fun v H2=>(∀b u,H2 b=some u->pD cl H H2 b=some u)->Q v (pD cl H H2)) :
    jx P w K mg base CX (k+1) f (W.kla_fn name qual params body scope cl pm (.ref c') ctv) ps sp:=by
  refine⟨len,fun A outer s H args us vs Q E hr e0 hb r hsp=>?_⟩
  have hl:=len _ _ _ _ hsp
  obtain⟨hf,hc'⟩:=pre _ _ _ _ hsp
  obtain⟨caps,t,⟨cl1,cl2,cl3⟩,ht,hq⟩:=hbody A outer s H vs Q E (hr.deeper _) e0 hsp
  have lim:s.heap.NoLimit:=e0.mod.nolimit.keeps fun b o e=>(e0.bs b o e).1
  have ndP:ps.Nodup:=by rw[<- S.pre];exact S.nd.sublist (List.take_sublist _ _)
  have hpl:ps.length<=N.length:=by have:=congrArg List.length S.pre;rw[List.length_take] at this;omega
  have hul:us.length=ps.length:=by rw[<- r.length];exact hl
  have dr:∀{b:Addr} {u:HO},H b=some u->(∀o,u≠lF o)->kc cl b=false:=fun {b u} e n=>by
    cases q:kc cl b with
    | false=>rfl
    | true=>obtain⟨o,v,z,_⟩:=cl2 b q;rw[e] at z;cases z;exact absurd rfl (n o)
  have dk:∀{b:Addr} {u:HO},H b=some u->(∀o,u≠lF o)->lq cl H b=some u:=fun {b u} e n=>by
    show(if kc cl b then none else H b)=_
    rw[dr e n];exact e
  have dn:∀{b:Addr},H b=none->lq cl H b=none:=fun {b} e=>by
    show(if kc cl b then none else H b)=_
    split
    · rfl
    · exact e
  refine W.kla_callFunE hr.depth (e0.hok f _ hf).1 rfl S.co S.gen rfl (show jJ P w H s.heap c' (.tbl qual true) from e0.hok c' _ hc') (hb _ _ _ _ ?_)
  refine wpAny_newFunctionEnv S.nocell (fun ⟨n,v⟩ hy=>S.par n (List.of_mem_zip hy).1) (fun h₁ hns hsb=>⟨lim.fresh _ hsb,?_⟩) S.kind
  show codeAny _ _ (.expr body (W.envX qual scope s.heap.objs.size f (.ref c') cl)) _ _
  have hk:∀b o,s.heap.get? b=some o->h₁.get? b=some o:=fun b o e=>hsb.extBut b o (Nat.ne_of_lt (Heap.lt_size e)) (Heap.get?_push_of_some _ e)
  have noA:∀b:Addr,b∉(uc CX P w K mg base N qual scope cl f (.ref c') A outer s H E).ex:=fun b z=>absurd (show b∈([]:List Addr) from z) (by simp)
  have hcell:∀x c,cl.lookup x=some c->∃u,h₁.IsCell c (some u):=fun x c e=>by
    obtain⟨o,u,z,d⟩:=cl2 c (sg e)
    exact⟨u,o,hk _ _ (e0.hok c _ z).1,d⟩
  have I:L2.Inv (uc CX P w K mg base N qual scope cl f (.ref c') A outer s H E) [] ((vs++caps).map some) (lq cl H) {s with heap:=h₁,toks:=s.toks+(ps.zip us).length}:=by
    refine⟨⟨e0.mod,S.kind,rfl,rfl,Nat.le_refl _,S.inj,fun y hy=>?_,fun y c z _=>(by cases z),fun _=>hr.hd,Around.frames_deeper e0.frames,.inr ⟨rfl,rfl⟩,fun b z=>absurd z (noA b),fun b o e=>⟨(e0.bs b o e).1,dn (e0.bs b o e).2⟩,e0.bsz,fun b _ _=>noA b,fun b z=>absurd z (noA b),e0.funs,fun b hb=>dn (e0.frf b hb)⟩,
      rfl,e0.bare,Un.kept hk,⟨_,hns,fun i y v h1 h2 h3=>?_⟩,fun y c h=>let ⟨u,z⟩:=hcell y c h;⟨_,z⟩,dn (e0.hok.fresh (Nat.le_refl _)),fun y c h=>?_,fun p hp=>absurd (show p∈([]:List (Addr×Obj)) from hp) (by simp),fun b u e=>?_,?_⟩
    · have hy:scope.names.lookup y=some .cell\/scope.names.lookup y=some .free:=hy
      rcases hy with hy | hy
      · exact absurd rfl (S.nocell _ (PySem.mem_of_lookup hy))
      · exact S.has y hy
    · rw[List.getElem?_map] at h2
      cases e:(vs++caps)[i]? with
      | none=>rw[e] at h2;cases h2
      | some z =>
        rw[e] at h2
        cases h2
        by_cases hi:i<vs.length
        · rw[List.getElem?_append_left hi] at e
          obtain⟨u,hu,rv⟩:=r.get e
          have hp:ps[i]?=some y:=by rw[<- S.pre,List.getElem?_take_of_lt (by omega)];exact h1
          refine⟨u,rv,.inl ⟨S.par y (List.mem_of_getElem? hp),?_⟩⟩
          show(ps.zip us).reverse.lookup y=some u
          refine kT ?_ ?_
          · rw[List.map_reverse,List.map_fst_zip (by omega),List.Nodup,List.pairwise_reverse];exact ndP.imp fun h=>Ne.symm h
          · rw[List.mem_reverse]
            exact List.mem_of_getElem? (i:=i) (List.getElem?_zip_eq_some.mpr ⟨hp,hu⟩)
        · rw[List.getElem?_append_right (by omega)] at e
          have hd:(N.drop ps.length)[i - vs.length]?=some y:=by rw[List.getElem?_drop,show ps.length+(i - vs.length)=i by omega];exact h1
          obtain⟨c,o,u,h4,h5,h6,h7⟩:=cl3 _ y v hd e
          exact⟨u,h7,.inr ⟨.inr (S.fre y (List.mem_of_getElem? hd)),c,h4,o,hk _ _ (e0.hok c _ h5).1,h6⟩⟩
    · show(if kc cl c then none else H c)=none
      rw[sg (show cl.lookup y=some c from h)];rfl
    · have e':(if kc cl b then none else H b)=some u:=e
      cases q:kc cl b with
      | true=>rw[q] at e';cases e'
      | false =>
        rw[q] at e'
        exact(e0.hok b u e').stay (fun c v _ g=>hk c v g) (fun c g=>dk g fun o z=>by cases z) (fun c xs g=>dk g fun o z=>by cases z) fun c a d g=>dk g fun o z=>by cases z
    · show((vs++caps).map some).length=N.length
      rw[List.length_map,List.length_append,cl1,hl];omega
  refine W.kla_codeExpr (wpAny_mono (ht [] _ _ _ _ I hq) (fun u s' hs=>?_) fun e s' hs=>hs)
  obtain⟨v,H2,J,rv,q⟩:=hs
  have cellKept:∀{b:Addr},kc cl b=true->∃o,H b=some (lF o)/\s'.heap.get? b=some o:=fun {b} hb=>by
    obtain⟨o,u',z,_⟩:=cl2 b hb
    have hfr:b∉tH outer:=fun m=>by rw[e0.frf b m] at z;cases z
    exact⟨o,z,J.base.keep b o (e0.hok b _ z).1 (by show(if kc cl b then none else H b)=none;rw[hb];rfl) hfr (noA b)⟩
  have bk:∀{b:Addr} {u:HO},H2 b=some u->pD cl H H2 b=some u:=fun {b u} e=>by
    show(if kc cl b then H b else H2 b)=_
    cases qq:kc cl b with
    | false=>exact e
    | true =>
      obtain⟨p,hp,hpb⟩:=List.any_eq_true.mp qq
      have this:∃x,cl.lookup x=some b:=⟨p.1,kT S.ndc (by rw[<- eq_of_beq hpb];exact hp)⟩
      obtain⟨x,hx⟩:=this
      have:=J.freeC x b hx
      rw[this] at e;cases e
  have bc:∀{b:Addr},kc cl b=true->pD cl H H2 b=H b:=fun {b} hb=>by show(if kc cl b then H b else H2 b)=_;rw[hb];rfl
  have bn:∀{b:Addr},kc cl b=false->pD cl H H2 b=H2 b:=fun {b} hb=>by show(if kc cl b then H b else H2 b)=_;rw[hb];rfl
  refine⟨v,pD cl H H2,J.os,J.bare,⟨fun b o e n hf' hx=>J.base.keep b o e (dn n) hf' (noA b),fun b o e n hf' hx=>J.base.slot b o e (dn n) hf' (noA b),fun b o e n hx=>?_,fun b o e hx=>J.base.there b o e (noA b),fun b xs e=>bk (J.base.tups b xs (dk e fun o z=>by cases z)),fun b o u ny e=>?_,fun b a d e=>bk (J.base.tbls b a d (dk e fun o z=>by cases z))⟩,fun b u e=>?_,rv,q fun b u e=>bk e⟩
  · cases hb:kc cl b with
    | true=>rw[bc hb];exact n
    | false=>rw[bn hb];exact J.base.free b o e (dn n) (noA b)
  · cases hb:kc cl b with
    | true=>rw[bc hb];exact e
    | false =>
      rw[bn hb]
      refine J.base.frzs b o u ny ?_
      show(if kc cl b then none else H b)=_
      rw[hb];exact e
  · cases hb:kc cl b with
    | true =>
      obtain⟨o,z,g⟩:=cellKept hb
      rw[bc hb,z] at e
      cases e
      exact⟨g,trivial,⟨_,g⟩,fun _ _ _ _=>trivial⟩
    | false =>
      rw[bn hb] at e
      exact(J.hok b u e).stay (fun c v _ g=>g) (fun c g=>bk g) (fun c xs g=>bk g) fun c a d g=>bk g
end HW
namespace HW
open PySem
open Sem (wp)
theorem nU:Slot "function" "__getattribute__" "object.__getattribute__" :=
 .of (owner:="object") (n:="__getattribute__") (by rw[typeLookup_type,builtinLookup_eq_fast];kernel_rfl) (by decide +kernel) (by decide +kernel) (by decide +kernel)
  (by first | exact .inl (by decide +kernel) | exact .inr (by decide +kernel)) (by rw[isSubtype_type];kernel_rfl)
theorem AD:typeLookup (.type "function") "__class__" = pure (some (.builtin "object.__class__")):=by rw[typeLookup_type,builtinLookup_eq_fast];kernel_rfl
theorem yt:isSubtype (.type "function") (.type (".".intercalate ("object.__class__".cutAt '.').dropLast))=pure true:=by
 rw[F.owner_object_class,isSubtype_type];kernel_rfl
section
variable{prog:Program}{w:World}{A:Around}{E:Value->Shared->Prop}{h:Heap}{g:Array GenState}{d:Drawn}{t:Nat}{os:OsState}{a:Addr}{o:Obj}{tk:Tok}
theorem yD{R:Result->Shared->Prop}(hx:h.get? a=some o)(hc:o.cls=.type "function")(hq:R (.ok (.ret (.type "function"))) ⟨h,g,d,t,os⟩) :
  codeAny (model prog w) A (.call (.builtin "getset_descriptor.__get__") ⟨[.builtin "object.__class__",.ref a,.type "function"],[]⟩) R ⟨h,g,d,t,os⟩:=by
 have hT:(⟨h,g,d,t,os⟩:Shared).TypeIs (.ref a) "function":=⟨_,hx,hc⟩
 have hT5:(⟨h,g,d,t,os⟩:Shared).TypeIs (.builtin "object.__class__") "getset_descriptor":=F.typeOf_object_class
 have f8:=yt
 refine codeAny_call_builtin F.slot_gs_get.plain F.entry_gs_get (F.slot_gs_get.check _ _ _ _ _ _ _ _ hT5 (F.args_gs_get _ _ _) ?_)
 repeat (any_goals (first | assumption | wp_step))
 refine⟨Code.quiet_builtin _ (by decide +kernel),codeAny_builtin F.entry_object_class ?_⟩
 repeat (any_goals (first | assumption | wp_step))
theorem zc{Q:Fin->Shared->Prop}(hx:h.get? a=some o)(hc:o.cls=.type "function")(hq:Q (.done (.ret (.type "function"))) ⟨h,g,d,t,os⟩) :
  wpAny (model prog w) A (Builtin.«object.__getattribute__» ⟨[.ref a,.str "__class__" tk],[]⟩) Q E ⟨h,g,d,t,os⟩:=by
 have hT:(⟨h,g,d,t,os⟩:Shared).TypeIs (.ref a) "function":=⟨_,hx,hc⟩
 have hT5:(⟨h,g,d,t,os⟩:Shared).TypeIs (.builtin "object.__class__") "getset_descriptor":=F.typeOf_object_class
 have f4:=AD
 have f5:=F.typeOf_object_class
 have f6:=F.slot_gs_get.lookup
 have f7:=F.slot_gs_set.lookup
 repeat (any_goals (first | assumption | wp_step))
 refine yD hx hc ?_
 repeat (any_goals (first | assumption | wp_step))
theorem wW{R:Result->Shared->Prop}(hx:h.get? a=some o)(hc:o.cls=.type "function")(hq:R (.ok (.ret (.type "function"))) ⟨h,g,d,t,os⟩) :
  codeAny (model prog w) A (.call (.builtin "object.__getattribute__") ⟨[.ref a,.str "__class__" tk],[]⟩) R ⟨h,g,d,t,os⟩:=
 codeAny_call_builtin nU.plain F.entry_object_getattribute (nU.check _ _ _ _ _ _ _ _ (show(⟨h,g,d,t,os⟩:Shared).TypeIs (.ref a) "function" from⟨_,hx,hc⟩) (F.args_object_getattribute_2 _ _) (zc hx hc hq))
theorem zS{Q:Value->Shared->Prop}(hx:h.get? a=some o)(hc:o.cls=.type "function")(hq:Q (.type "function") ⟨h,g,d,t,os⟩):wpAny (model prog w) A (getAttrBy (.ref a) (.str "__class__" tk) false) Q E ⟨h,g,d,t,os⟩:=by
 have hT:(⟨h,g,d,t,os⟩:Shared).TypeIs (.ref a) "function":=⟨_,hx,hc⟩
 have f2:=nU.lookup
 have f3:=nU.bind (.ref a)
 repeat (any_goals (first | assumption | wp_step))
 refine wW hx hc ?_
 repeat (any_goals (first | assumption | wp_step))
theorem wU{Q:Option Value->Shared->Prop}(hx:h.get? a=some o)(hc:o.cls=.type "function")(hq:Q (some (.type "function")) ⟨h,g,d,t+1,os⟩):wpAny (model prog w) A (getAttr? (.ref a) "__class__") Q E ⟨h,g,d,t,os⟩:=by
 unfold getAttr? getAttrBy?
 repeat (any_goals (first | assumption | with_reducible apply zS hx hc | wp_step))
theorem xO{K:W.Frag}{a:Addr}:W.KitX K (.ref a) (.type "function") (W.KitAt a "function"):=W.kitx_of W.kitAt_ty (fun {_ _ _ _ _ s} p k=>by obtain⟨h,g,d,t,os⟩:=s;obtain⟨o,h1,h2⟩:=p;exact wU h1 h2 k)
end
structure lC where
 q:Str
 params:Arguments
 body:Expr
 scope:Scope
 N:List Str
 ps:List Str
 deriving Inhabited
inductive D where
 | non
 | bl (b:Bool)
 | int (i:Int)
 | str (x:Str)
 | tup (xs:List D)
 | lst (xs:List D)
 | fro (xs:List D)
 | obj (k a:Nat) (ks:List Str) (ds:List D)
 | dct (ks:List (Int ⊕ Str)) (ds:List D)
 | dcp (ks:List (Int×Int)) (ds:List D)
 | cl (t:lC) (a:Nat) (ds:List D)
 deriving Inhabited
abbrev R:=List (Option D)
abbrev OD:=Option D
abbrev LD:=List D
abbrev oS(x:String):Str:=Str.ofString x
@[simp] abbrev kI (n:Int):R->OD:=fun _=>some (.int n)
@[simp] abbrev kS (x:String):R->OD:=fun _=>some (.str (oS x))
inductive Out where
 | nx (ρ:R)
 | rt (d:D)
 | bk (ρ:R)
 | ct (ρ:R)
@[simp] def yO:D->Option Bool
 | .non=>some false
 | .bl b=>some b
 | .int i=>some (i != 0)
 | .str x=>if x.length<=sizeLine then some ((x.length:Int) != 0) else none
 | .tup xs=>some (!xs.isEmpty)
 | .lst xs=>some (!xs.isEmpty)
 | .fro xs=>some (!xs.isEmpty)
 | .obj ..=>none
 | .dct ..=>none
 | .dcp ..=>none
 | .cl ..=>none
def bI(b:Bool):Int:=if b then 1 else 0
@[simp] def nI:D->Option Int
 | .int i=>some i
 | _=>none
@[simp] def tI:D->Option LD
 | .tup xs=>some xs
 | _=>none
@[simp] def lI:D->Option LD
 | .lst xs=>some xs
 | _=>none
@[simp] def sI:D->Option Str
 | .str x=>some x
 | _=>none
@[simp] def bO:D->Option Bool
 | .bl b=>some b
 | _=>none
@[simp] def jD (x y:D):OD:=match x with
 | .int i=>(nI y).map fun j=>.int (i+j)
 | .tup xs=>(tI y).bind fun ys=>if xs.length+ys.length<=sizeLine then some (.tup (xs++ys)) else none
 | .lst xs=>(lI y).bind fun ys=>if xs.length+ys.length<=sizeLine then some (.lst (xs++ys)) else none
 | .str x=>(sI y).bind fun y=>if x.length+y.length<=sizeLine then some (.str (x++y)) else none
 | _=>none
def jO(i j:Int):Bool:=(decide (-(2 ^ 64)<i)&&decide (i<2 ^ 64))||(decide (-(2 ^ 64)<j)&&decide (j<2 ^ 64))
@[simp] def qj (x y:D):OD:=(nI x).bind fun i=>(nI y).bind fun j=>if jO i j then some (.int (i*j)) else none
@[simp] def j7 (x y:D):OD:=(nI x).bind fun i=>(nI y).bind fun j=>if 0<j/\j<1073741824 then some (.int (i / j)) else none
@[simp] def jz (x y:D):OD:=(nI x).bind fun i=>(nI y).bind fun j=>if 0<j then some (.int (i%j)) else none
@[simp] def B_ (x y:D):Option Bool:=(nI x).bind fun i=>(nI y).map fun j=>decide (i<j)
@[simp] def A2 (x y:D):Option Bool:=(nI x).bind fun i=>(nI y).map fun j=>decide (j<i)
@[simp] def vT (x y:D):Option Bool:=match x with
 | .int i=>(nI y).map fun j=>i==j
 | .str a=>(sI y).map fun b=>a==b
 | .bl a=>(bO y).map fun b=>a==b
 | _=>none
@[simp] def ql:D->D->Option Bool:=vT
@[simp] def uK (x y:D):Option Bool:=(vT x y).map (!·)
@[simp] def xg:D->Bool
 | .non=>true
 | _=>false
@[simp] def rA (x y:D):Option Bool:=if xg y then some (xg x) else none
def flat:D->Bool
 | .non=>true
 | .bl _=>true
 | .int _=>true
 | .str _=>true
 | _=>false
def A8:D->D->Bool
 | .non,.non=>true
 | .bl a,.bl b=>a==b
 | .bl a,.int b=>bI a==b
 | .int a,.bl b=>a==bI b
 | .int a,.int b=>a==b
 | .str a,.str b=>a==b
 | _,_=>false
@[simp] def uV:D->Option LD
 | .tup xs=>some xs
 | .lst xs=>some xs
 | .fro xs=>some xs
 | _=>none
mutual
def wy:D->D->Bool
 | .non,.non=>true
 | .bl a,.bl b=>a==b
 | .bl a,.int b=>bI a==b
 | .int a,.bl b=>a==bI b
 | .int a,.int b=>a==b
 | .str a,.str b=>a==b
 | .tup xs,.tup ys=>qS xs ys
 | .lst xs,.lst ys=>qS xs ys
 | .lst xs,.fro ys=>qS xs ys
 | .fro xs,.lst ys=>qS xs ys
 | .fro xs,.fro ys=>qS xs ys
 | _,_=>false
def qS:LD->LD->Bool
 | [],[]=>true
 | x::xs,y::ys=>wy x y&&qS xs ys
 | _,_=>false
end
mutual
def mQ:D->Nat
 | .tup xs=>nu xs+1
 | .lst xs=>nu xs+1
 | .fro xs=>nu xs+1
 | _=>0
def nu:LD->Nat
 | []=>0
 | x::xs=>max (mQ x) (nu xs)
end
mutual
def oO:D->Bool
 | .str x=>x.cps.all (·<0x110000)
 | .tup xs=>lu xs
 | .lst xs=>lu xs
 | .fro xs=>lu xs
 | .obj ..=>false
 | .dct ..=>false
 | .dcp ..=>false
 | .cl ..=>false
 | _=>true
def lu:LD->Bool
 | []=>true
 | x::xs=>oO x&&lu xs
end
mutual
def l6:D->Bool
 | .tup xs=>jS xs
 | .lst xs=>jS xs
 | .fro xs=>jS xs
 | .obj ..=>false
 | .dct ..=>false
 | .dcp ..=>false
 | .cl ..=>false
 | _=>true
def jS:LD->Bool
 | []=>true
 | x::xs=>l6 x&&jS xs
end
mutual
theorem a_:∀{d:D},oO d=true->l6 d=true
 | .non,_=>rfl
 | .bl _,_=>rfl
 | .int _,_=>rfl
 | .str _,_=>rfl
 | .tup xs,h=>bV (xs:=xs) h
 | .lst xs,h=>bV (xs:=xs) h
 | .fro xs,h=>bV (xs:=xs) h
 | .obj ..,h=>by cases h
 | .dct ..,h=>by cases h
 | .dcp ..,h=>by cases h
 | .cl ..,h=>by cases h
theorem bV:∀{xs:LD},lu xs=true->jS xs=true
 | [],_=>rfl
 | x::xs,h=>by
  have h':(oO x&&lu xs)=true:=h
  rw[Bool.and_eq_true] at h'
  show(l6 x&&jS xs)=true
  rw[a_ h'.1,bV h'.2];rfl
end
def zT(x y:D):Option Bool:=if mQ x<=100/\oO x=true/\oO y=true then some (wy x y) else none
def mf(x y:D):Option Bool:=(zT x y).map (!·)
def zI(n:Nat)(i:Int):Option Nat:=if 0<=i then (if i<n then some i.toNat else none) else if -(n:Int)<=i then some (i+n).toNat else none
def ro(xs:LD)(i:Int):OD:=(zI xs.length i).bind fun j=>xs[j]?
@[simp] def jd:D->D->OD
 | .tup xs,.int i=>ro xs i
 | .lst xs,.int i=>ro xs i
 | .fro xs,.int i=>ro xs i
 | .str x,.int i=>if x.length<=sizeLine then ((zI x.length i).bind fun j=>x.cps.toList[j]?).map fun c=>.str ⟨#[c]⟩ else none
 | _,_=>none
def uF(n d:Nat):Option Int->Nat
 | none=>d
 | some v=>if v<0 then (v+(n:Int)).toNat else min v.toNat n
def cutD(xs:LD)(lo hi:Option Int):LD:=(xs.drop (uF xs.length 0 lo)).take (uF xs.length xs.length hi - uF xs.length 0 lo)
@[simp] def Bz:D->Option Int->Option Int->OD
 | .tup xs,lo,hi=>some (.tup (cutD xs lo hi))
 | .lst xs,lo,hi=>some (.lst (cutD xs lo hi))
 | _,_,_=>none
@[simp] def Bc:D->Option (Option Int)
 | .int i=>some (some i)
 | _=>none
@[simp] def wX:D->String
 | .non=>"NoneType"
 | .bl _=>"bool"
 | .int _=>"int"
 | .str _=>"str"
 | .tup _=>"tuple"
 | .lst _=>"list"
 | .fro _=>"list"
 | .obj ..=>"object"
 | .dct ..=>"dict"
 | .dcp ..=>"dict"
 | .cl ..=>"function"
@[simp] def wN:D->Bool
 | .obj ..=>true
 | _=>false
@[simp] def yh (d:D) (n:String):Bool:=decide (wX d=n)||(decide (wX d = "bool")&&decide (n = "int"))
@[simp] def nL:LD->OD
 | [d]=>(uV d).map fun xs=>.int xs.length
 | _=>none
def bools:LD->Option (List Bool)
 | []=>some []
 | .bl b::r=>(bools r).map (b::·)
 | _=>none
def qC(st:D->R->Option R)(body:R->Option Out):LD->R->Option Out
 | [],ρ=>some (.nx ρ)
 | d::ds,ρ=>(st d ρ).bind fun ρ1=>(body ρ1).bind fun o=>match o with
  | .nx ρ2=>qC st body ds ρ2
  | .ct ρ2=>qC st body ds ρ2
  | .bk ρ2=>some (.nx ρ2)
  | .rt r=>some (.rt r)
def lz(st:D->R->Option R)(c:R->Option Bool)(e:R->OD):LD->R->Option LD
 | [],_=>some []
 | d::ds,ρ=>(st d ρ).bind fun ρ1=>(c ρ1).bind fun b=>(if b then (e ρ1).map some else some none).bind fun x =>
   (lz st c e ds ρ).map fun r=>match x with
    | some y=>y::r
    | none=>r
@[simp] def jn (f g:R->Option Out):R->Option Out:=fun ρ=>(f ρ).bind fun o=>match o with
 | .nx ρ2=>g ρ2
 | o=>some o
@[simp] def i3 (i:Nat) (ρ:R):OD:=ρ.getD i none
@[simp] def setAt (i:Nat) (d:D) (ρ:R):Option R:=if i<ρ.length then some (ρ.set i (some d)) else none
@[simp] def mv (c:R->Option Bool) (f g:R->Option Out):R->Option Out:=fun ρ=>(c ρ).bind fun b=>if b then f ρ else g ρ
@[simp] def xo (f g:R->OD):R->OD:=fun ρ=>(f ρ).bind fun x=>match x with
 | .bl true=>g ρ
 | .bl false=>some (.bl false)
 | _=>none
@[simp] def Ai (f g:R->OD):R->OD:=fun ρ=>(f ρ).bind fun x=>match x with
 | .bl false=>g ρ
 | .bl true=>some (.bl true)
 | _=>none
@[simp] def xM (f:R->OD):R->OD:=fun ρ=>(f ρ).bind fun x=>match x with
 | .bl b=>some (.bl !b)
 | _=>none
@[simp] def zf (f g:R->Option Bool):R->Option Bool:=fun ρ=>(f ρ).bind fun b=>if b then some true else g ρ
@[simp] def Az (f:R->Option Bool):R->Option Bool:=fun ρ=>(f ρ).map (!·)
@[simp] def i6 (F:D->D->OD) (f g:R->OD):R->OD:=fun ρ=>(f ρ).bind fun x=>(g ρ).bind fun y=>F x y
@[simp] def ju (F:D->D->Option Bool) (f g:R->OD):R->Option Bool:=fun ρ=>(f ρ).bind fun x=>(g ρ).bind fun y=>F x y
@[simp] def rX (f:R->Option Bool):R->OD:=fun ρ=>(f ρ).map .bl
@[simp] def xQ (f:R->OD):R->Option Bool:=fun ρ=>(f ρ).bind yO
@[simp] def Cg (n:String) (f:R->OD):R->OD:=fun ρ=>(f ρ).bind fun d=>if wN d then none else some (.bl (yh d n))
@[simp] def i8:R->Option LD:=fun _=>some []
@[simp] def e8 (f:R->OD) (g:R->Option LD):R->Option LD:=fun ρ=>(f ρ).bind fun d=>(g ρ).map fun ds=>d::ds
@[simp] def jc (F:LD->OD) (g:R->Option LD):R->OD:=fun ρ=>(g ρ).bind F
@[simp] def jw (g:R->Option LD):R->OD:=fun ρ=>(g ρ).map .tup
@[simp] def qX (g:R->Option LD):R->OD:=fun ρ=>(g ρ).map .lst
@[simp] def my:R->Option (Option Int):=fun _=>some none
@[simp] def aP (f:R->OD):R->Option (Option Int):=fun ρ=>(f ρ).bind Bc
@[simp] def mw (f:R->OD) (l h:R->Option (Option Int)):R->OD:=fun ρ=>(f ρ).bind fun x=>(l ρ).bind fun a=>(h ρ).bind fun b=>Bz x a b
@[simp] def j5 (f:R->OD):R->Option Out:=fun ρ=>(f ρ).map .rt
@[simp] def jr (f:R->OD) (st:D->R->Option R):R->Option Out:=fun ρ=>(f ρ).bind fun d=>(st d ρ).map .nx
@[simp] def kg:R->Option Out:=fun ρ=>some (.nx ρ)
@[simp] def nG (it:R->Option LD) (st:D->R->Option R) (body:R->Option Out):R->Option Out:=fun ρ=>(it ρ).bind fun ds=>qC st body ds ρ
def chars(x:Str):LD:=x.cps.toList.map fun c=>.str ⟨#[c]⟩
@[simp] def ku (f:R->OD):R->Option LD:=fun ρ=>(f ρ).bind fun d=>match d with
 | .tup xs=>some xs
 | .lst xs=>some xs
 | .str x=>if x.cps.all (·<128) then some (chars x) else none
 | _=>none
def kx(a b:Int):LD:=(List.range (b - a).toNat).map fun (k:Nat)=>D.int (a+(k:Int))
@[simp] def kQ (f:R->OD):R->Option LD:=fun ρ=>(f ρ).bind fun d=>match d with
 | .int j=>if -(2 ^ 62)<=j/\j<2 ^ 62 then some (kx 0 j) else none
 | _=>none
def wu(k:Nat)(it:R->Option LD)(st:D->R->Option R)(c:R->Option Bool)(e:R->OD):R->OD:=fun ρ =>
 (it ρ).bind fun ds=>if ds.length<=sizeLine then (lz st c e ds (List.replicate k none++ρ)).map .lst else none
@[simp] def qF:R->Option Bool:=fun _=>some true
@[simp] def pQ (n:Nat) (ds:LD):R:=ds.map some++List.replicate (n - ds.length) none
@[simp] def jK:Option Out->OD
 | some (.rt d)=>some d
 | some (.nx _)=>some .non
 | _=>none
@[simp] def tj:List (D->R->Option R)->LD->R->Option R
 | [],[],ρ=>some ρ
 | f::fs,d::ds,ρ=>(f d ρ).bind fun ρ1=>tj fs ds ρ1
 | _,_,_=>none
@[simp] def j6 (fs:List (D->R->Option R)):D->R->Option R
 | .tup ds,ρ=>tj fs ds ρ
 | _,_=>none
@[simp] def sC (i:Nat) (f:R->OD):R->LD->Option (Out×LD):=fun ρ ds=>(f ρ).bind fun d=>match d with
 | .lst es=>if ρ.length=i/\ds.length+es.length<=sizeLine then some (.nx ρ,ds++es) else none
 | _=>none
def sN(st:D->R->Option R)(p:R->LD->Option (Out×LD)):LD->R->LD->Option (Out×LD)
 | [],ρ,ds=>some (.nx ρ,ds)
 | d::es,ρ,ds=>(st d ρ).bind fun ρ1=>(p ρ1 ds).bind fun r=>match r with
  | (.nx ρ2,ds2)=>sN st p es ρ2 ds2
  | (.ct ρ2,ds2)=>sN st p es ρ2 ds2
  | (.bk ρ2,ds2)=>some (.nx ρ2,ds2)
  | r=>some r
@[simp] def ug (it:R->Option LD) (st:D->R->Option R) (p:R->LD->Option (Out×LD)):R->LD->Option (Out×LD):=fun ρ ds=>(it ρ).bind fun es=>sN st p es ρ ds
@[simp] def Ak (i:Nat) (F:R->Option LD) (q:R->LD->Option Out):R->Option Out:=fun ρ=>(F ρ).bind fun ds=>if ρ.length=i+1 then q (ρ.take i) ds else none
@[simp] def x8 (p:R->LD->Option (Out×LD)) (q:R->LD->Option Out):R->LD->Option Out:=fun ρ ds=>(p ρ ds).bind fun r=>match r with
 | (.nx ρ2,ds2)=>q ρ2 ds2
 | (.rt d,_)=>some (.rt d)
 | _=>none
@[simp] def ym (w:R->Option Out):R->LD->Option Out:=fun ρ ds=>w (ρ++[some (.lst ds)])
theorem nj{st:D->R->Option R}{e:R->OD}{ρ:R}(f:D->D):∀{ds:LD},(∀d∈ds,∃ ρ1,st d ρ=some ρ1/\e ρ1=some (f d))->lz st qF e ds ρ=some (ds.map f)
 | [],_=>rfl
 | d::ds,h=>by
  obtain⟨ρ1,h1,h2⟩:=h d List.mem_cons_self
  have ih:=nj f fun x hx=>h x (List.mem_cons_of_mem _ hx)
  simp[lz,h1,h2,ih]
theorem mz{st:D->R->Option R}{c:R->Option Bool}{e:R->OD}{ρ:R}(p:D->Bool)(f:D->D):∀{ds:LD},(∀d∈ds,∃ ρ1,st d ρ=some ρ1/\c ρ1=some (p d)/\(p d=true->e ρ1=some (f d)))->lz st c e ds ρ=some ((ds.filter p).map f)
 | [],_=>rfl
 | d::ds,h=>by
  obtain⟨ρ1,h1,h2,h3⟩:=h d List.mem_cons_self
  have ih:=mz p f fun x hx=>h x (List.mem_cons_of_mem _ hx)
  cases hp:p d with
  | true=>simp[lz,h1,h2,hp,h3 hp,ih]
  | false=>simp[lz,h1,h2,hp,ih]
def via(k n:Nat)(g:R->Option Out)(ds:LD):OD:=if ds.length=k then jK (g (pQ n ds)) else none
theorem cJ{k n:Nat}{g:R->Option Out}{ds:LD}{d:D}(h:via k n g ds=some d):ds.length=k:=by
 unfold via at h
 split at h
 ·assumption
 ·cases h
theorem fh{k n:Nat}{g:R->Option Out}{ds:LD}{d:D}(h:via k n g ds=some d):jK (g (pQ n ds))=some d:=by
 unfold via at h
 split at h
 ·exact h
 ·cases h
theorem pP{i j:Int}(h1 : -(2 ^ 64)<j)(h2:j<2 ^ 64):jO i j=true:=by unfold jO;rw[decide_eq_true h1,decide_eq_true h2];simp
theorem kB{i j:Int}(h1 : -(2 ^ 64)<i)(h2:i<2 ^ 64):jO i j=true:=by unfold jO;rw[decide_eq_true h1,decide_eq_true h2];simp
theorem oq{st:D->R->Option R}{body:R->Option Out}(P:Nat->R->Prop):∀(ds:LD) (k:Nat) (ρ0:R),P k ρ0->(∀i d ρ,ds[i]?=some d->P (k+i) ρ->∃ ρ1 ρ2,st d ρ=some ρ1/\body ρ1=some (.nx ρ2)/\P (k+i+1) ρ2) ->
  ∃ ρ',qC st body ds ρ0=some (.nx ρ')/\P (k+ds.length) ρ'
 | [],k,ρ0,h0,_=>⟨ρ0,rfl,h0⟩
 | d::ds,k,ρ0,h0,hs=>by
  obtain⟨ρ1,ρ2,h1,h2,h3⟩:=hs 0 d ρ0 rfl h0
  obtain⟨ρ',h4,h5⟩:=oq P ds (k+1) ρ2 h3 fun i d' ρ e p=>by
   have q:=hs (i+1) d' ρ (by simpa using e) (by rw[show k+(i+1)=k+1+i by omega];exact p)
   rw[show k+(i+1)+1=k+1+i+1 by omega] at q
   exact q
  refine⟨ρ',?_,?_⟩
  ·simp[qC,h1,h2,h4]
  ·rw[show k+(d::ds).length=k+1+ds.length by simp;omega];exact h5
theorem eW{n:Int}{i:Nat}{d:D}(e:(kx 0 n)[i]?=some d):d=.int i/\(i:Int)<n:=by
 unfold kx at e
 rw[List.getElem?_map] at e
 cases q:(List.range (n - 0).toNat)[i]? with
 | none=>rw[q] at e;cases e
 | some k =>
  rw[q] at e
  obtain⟨h1,h2⟩:=List.getElem?_eq_some_iff.mp q
  simp at h1 h2
  subst h2
  have e':D.int (0+(i:Int))=d:=Option.some.inj e
  rw[Int.zero_add] at e'
  exact⟨e'.symm,by omega⟩
theorem fm(n:Int):(kx 0 n).length=n.toNat:=by simp[kx]
theorem mC{xs:LD}{i:Int}(h0:0<=i)(h1:i<xs.length):∃x,x∈xs/\ro xs i=some x:=by
 have h2:i.toNat<xs.length:=by omega
 refine⟨xs[i.toNat],List.getElem_mem h2,?_⟩
 unfold ro zI
 rw[if_pos h0,if_pos h1]
 simp[h2]
inductive Fits:D->Prop
 | non:Fits .non
 | bl (b:Bool):Fits (.bl b)
 | int (i:Int):Fits (.int i)
 | str (x:Str):Fits (.str x)
 | tup {xs:LD}:xs.length<=1000->(∀x∈xs,Fits x)->Fits (.tup xs)
end HW
namespace HW
open PySem PySem.Spec PyProof.Rows L2
def By(x:Str):It:=⟨fun i _=>i<x.cps.size,fun i H v H'=>H'=H/\∃c,x.cps[i]?=some c/\v=.str ⟨#[c]⟩,fun i _=>x.cps.size<=i⟩
theorem vx{P:Program}{w:World}{K:W.Frag}{tg:Expr}(it:Addr)(x:Str)(t:Tok):Turn P w K tg (By x) [it] it (fun i h=>h.IsStrIter it "str_ascii_iterator" x t i) where
 mem:=by simp
 obj:=fun i h st b hb=>by
  have e:b=it:=by simpa using hb
  subst e
  obtain⟨o,e,c,d⟩:=st
  exact⟨o,e,fun v z=>by rw[d] at z;cases z⟩
 keep:=fun i h h' st k=>by
  obtain⟨o,e,r⟩:=st
  exact⟨o,k it (by simp) o e,r⟩
 item:=by
  intro X hP hw hK hc i pins s σ H E I hf st hg
  subst hP hw hK
  have hg':i<x.cps.size:=hg
  obtain⟨f0,f1,f2,f3,f4,f5⟩:=hf it (by simp)
  refine wpAny_pyNext_ascii_item st (c:=x.cps[i]) (by simp[hg']) fun h' st' sb=>?_
  have I1:L2.Inv X pins σ H {s with heap:=h',toks:=s.toks+1}:=I.turned (t':=s.toks+1) (fun b o hb e=>(sb.2 b hb).trans e) f0 f1 f3 f4 f5
  obtain⟨o,e,c,d⟩:=id st'
  exact⟨_,rfl,qV (s:={s with heap:=h',toks:=s.toks+1}) e c d (by decide) ⟨.str ⟨#[x.cps[i]]⟩,H,I1,⟨_,rfl⟩,⟨rfl,_,by simp[hg'],rfl⟩,st',fun b hb=>(hf b hb).1⟩⟩
 done:=by
  intro X hP hw hK hc i pins s σ H E I hf st hg
  subst hP hw hK
  have hg':x.cps.size<=i:=hg
  obtain⟨f0,f1,f2,f3,f4,f5⟩:=hf it (by simp)
  exact wpAny_pyNext_ascii_end (I.ok.hd hc) st (by simp;omega) fun h' eb=>⟨rfl,I.turned (t':=s.toks) (fun b o hb e=>eb b o hb e) f0 f1 f3 f4 f5⟩
 self:=fun _ _ _ _ _ st h=>wpAny_pyIter_striter_ascii st h
def Bl(H:Hp)(k a:Nat)(ks:List Str)(vs:List V):Prop:=match k with
 | 0=>vs.length<=sizeLine/\∃(its:List Value) (n:Nat),jg vs its/\H a=some (.frz {cls:=.type "list",data:=.seq its.toArray n} (.own 0))
 | 1=>ks.length=vs.length/\H a=some (.dK ((ks.map Sum.inr).zip vs))
 | C+2=>ks.length=vs.length/\∃dx,H a=some (.ins C dx (ks.zip vs))
theorem Bl.to{H H':Hp}{k a:Nat}{ks:List Str}{vs:List V}(h:Bl H k a ks vs)(e:∀u,H a=some u->(∀ φ,u≠.ext φ)->H' a=some u):Bl H' k a ks vs:=by
 match k,h with
 | 0,⟨z,its,n,r,q⟩=>exact⟨z,its,n,r,e _ q fun φ z=>by cases z⟩
 | 1,⟨z,q⟩=>exact⟨z,e _ q fun φ z=>by cases z⟩
 | C+2,⟨z,dx,q⟩=>exact⟨z,dx,e _ q fun φ z=>by cases z⟩
def rW:List ((Int×Int)×Addr×V)->List (List Key×Addr×Value)->Prop:=Paired fun p q=>q.1=[.inl p.1.1,.inl p.1.2]/\q.2.1=p.2.1/\RelV p.2.2 q.2.2
def vV(P:Program)(w:World)(o:Obj)(xs:List ((Int×Int)×Addr×V)):Prop:=xs.length<=sizeLine/\∃qs es ep,rW xs qs/\o.ExactDict/\o.data=.dict es ep/\es.toList=qs.map (entryOfKey (tupleKind (je P w)))/\(qs.map (·.1)).Nodup
theorem AC(P P':Program)(w w':World)(i j:Int):tupleKeyHash (je P w) [.inl i,.inl j]=tupleKeyHash (je P' w') [.inl i,.inl j]:=by
 unfold tupleKeyHash
 have h:∀i:Int,(je P w).hash (.inl i)=(je P' w').hash (.inl i):=fun _=>rfl
 simp only[List.map_cons,List.map_nil,h]
theorem wl{prog:Program}{w:World}(k:List Key)(a:Addr)(v:Value):entryOfKey (tupleKind (je prog w)) (k,a,v)=⟨tupleKeyHash (je prog w) k,.ref a,v⟩:=rfl
theorem rW.entries(P P':Program)(w w':World){xs:List ((Int×Int)×Addr×V)}{qs:List (List Key×Addr×Value)}(h:rW xs qs):qs.map (entryOfKey (tupleKind (je P w)))=qs.map (entryOfKey (tupleKind (je P' w'))):=by
 refine List.map_congr_left fun q hq=>?_
 have:∃i j,q.1=[.inl i,.inl j]:=by
  induction h with
  | nil=>cases hq
  | cons e t ih =>
   rcases List.mem_cons.mp hq with rfl | hq
   ·exact⟨_,_,e.1⟩
   ·exact ih hq
 obtain⟨i,j,e⟩:=this
 obtain⟨k,a,v⟩:=q
 cases (show k=_ from e)
 rw[wl,wl,AC P P' w w']
theorem vV.any{P:Program}{w:World}{o:Obj}{xs:List ((Int×Int)×Addr×V)}(h:vV P w o xs)(P':Program)(w':World):vV P' w' o xs:=by
 obtain⟨z,qs,es,ep,h1,h2,h3,h4,h5⟩:=h
 exact⟨z,qs,es,ep,h1,h2,h3,by rw[h4];exact rW.entries P P' w w' h1,h5⟩
def l9(K:W.Frag)(H:Hp):List (Int×Int)->List Addr->Prop
 | [],as=>as=[]
 | k::ks,as=>∃a r,as=a::r/\kr K H a [.int k.1,.int k.2]/\l9 K H ks r
def xP(K:W.Frag)(H:Hp)(a:Addr)(ks:List (Int×Int))(kas:List Addr)(xs:List V):Prop:=((a==sysModules)=false/\l9 K H ks kas/\kas.length=xs.length)/\∃o P w,H a=some (.frz o (.own 0))/\vV P w o (ks.zip (kas.zip xs))
theorem l9.to{K:W.Frag}{H H':Hp}(s:∀a xs,kr K H a xs->kr K H' a xs):∀{ks:List (Int×Int)} {kas:List Addr},l9 K H ks kas->l9 K H' ks kas
 | [],_,h=>h
 | k::ks,_,h=>by
  obtain⟨a,r,e,q,t⟩:=h
  exact⟨a,r,e,s _ _ q,l9.to s t⟩
theorem xP.to{K:W.Frag}{H H':Hp}{a:Addr}{ks:List (Int×Int)}{kas:List Addr}{xs:List V}(h:xP K H a ks kas xs)(s:∀a xs,kr K H a xs->kr K H' a xs)(s2:∀o u,H a=some (.frz o u)->H' a=some (.frz o u)):xP K H' a ks kas xs:=by
 obtain⟨⟨h1,h2,h3⟩,o,P,w,h4,h5⟩:=h
 exact⟨⟨h1,h2.to s,h3⟩,o,P,w,s2 _ _ h4,h5⟩
mutual
def Rep(K:W.Frag)(H:Hp):D->V->Prop
 | .non,v=>v=.non
 | .bl b,v=>v=.bl b
 | .int i,v=>v=.int i
 | .str x,v=>v=.str x
 | .tup ds,v=>∃a xs,v=.ref a/\kr K H a xs/\i4 K H ds xs
 | .lst ds,v=>∃a xs,v=.ref a/\H a=some (.lst xs)/\i4 K H ds xs
 | .fro ds,v=>∃a xs,v=.ref a/\kN K H a xs/\i4 K H ds xs
 | .obj k a ks ds,v=>v=.ref a
 | .cl t a ds,v=>v=.ref a/\∃cl xs pm ctv c',H a=some (lF (W.kla_obj "<lambda>" t.q t.params t.body t.scope cl pm c' ctv))/\H c'=some (.tbl t.q true)/\kU t.N t.ps t.scope cl/\ma H t.N t.ps cl xs/\i4 K H ds xs
 | .dct ks ds,v=>∃a xs,v=.ref a/\(ks.length=xs.length/\∃o,H a=some (.frz o (.dK (ks.zip xs))))/\i4 K H ds xs
 | .dcp ks ds,v=>∃a kas xs,v=.ref a/\xP K H a ks kas xs/\i4 K H ds xs
def i4(K:W.Frag)(H:Hp):LD->List V->Prop
 | [],vs=>vs=[]
 | d::ds,vs=>∃v r,vs=v::r/\Rep K H d v/\i4 K H ds r
end
theorem vM{K:W.Frag}{H H':Hp}{a:Addr}{xs:List V}(e:i9 H H')(h:kr K H a xs):kr K H' a xs:=by
 rcases h with (h | ⟨o,h⟩) | h
 ·exact .inl (.inl (e _ _ h))
 ·exact .inl (.inr ⟨o,e _ _ h⟩)
 ·exact .inr h
mutual
theorem Rep.mono{K:W.Frag}{H H':Hp}(s:i9 H H'):∀{d:D} {v:V},Rep K H d v->Rep K H' d v
 | .non,_,h=>h
 | .bl _,_,h=>h
 | .int _,_,h=>h
 | .str _,_,h=>h
 | .tup ds,_,h=>by
  obtain⟨a,xs,e,q,r⟩:=h
  exact⟨a,xs,e,vM s q,i4.mono s r⟩
 | .lst ds,_,h=>by
  obtain⟨a,xs,e,q,r⟩:=h
  exact⟨a,xs,e,s _ _ q,i4.mono s r⟩
 | .fro ds,_,h=>by
  obtain⟨a,xs,e,q,r⟩:=h
  exact⟨a,xs,e,s.seq q,i4.mono s r⟩
 | .obj ..,_,h=>h
 | .dct ks ds,_,h=>by
  obtain⟨a,xs,e,q,r⟩:=h
  exact⟨a,xs,e,⟨q.1,let ⟨o,z⟩:=q.2;⟨o,s _ _ z⟩⟩,i4.mono s r⟩
 | .dcp ks ds,_,h=>by
  obtain⟨a,kas,xs,e,q,r⟩:=h
  exact⟨a,kas,xs,e,q.to (fun _ _=>vM s) fun o u z=>s _ _ z,i4.mono s r⟩
 | .cl t a ds,_,h=>by
  obtain⟨e,cl,xs,pm,ctv,c',h1,h2,h3,h4,r⟩:=h
  exact⟨e,cl,xs,pm,ctv,c',s _ _ h1,s _ _ h2,h3,h4.to fun b o z=>s _ _ z,i4.mono s r⟩
theorem i4.mono{K:W.Frag}{H H':Hp}(s:i9 H H'):∀{ds:LD} {vs:List V},i4 K H ds vs->i4 K H' ds vs
 | [],_,h=>h
 | d::ds,_,h=>by
  obtain⟨v,r,e,q,t⟩:=h
  exact⟨v,r,e,Rep.mono s q,i4.mono s t⟩
end
section
variable{K:W.Frag}{H:Hp}
theorem i4.length:∀{ds:LD} {vs:List V},i4 K H ds vs->ds.length=vs.length
 | [],_,h=>by cases (show _=[] from h);rfl
 | d::ds,_,h=>by
  obtain⟨v,r,e,q,t⟩:=h
  subst e
  simp[i4.length t]
theorem i4.get:∀{ds:LD} {vs:List V} {i:Nat} {d:D},i4 K H ds vs->ds[i]?=some d->∃v,vs[i]?=some v/\Rep K H d v
 | [],_,_,_,_,e=>by simp at e
 | d::ds,_,0,_,h,e=>by
  obtain⟨v,r,e',q,t⟩:=h
  subst e'
  simp at e
  subst e
  exact⟨v,by simp,q⟩
 | d::ds,_,i+1,_,h,e=>by
  obtain⟨v,r,e',q,t⟩:=h
  subst e'
  obtain⟨u,h1,h2⟩:=i4.get (i:=i) t (by simpa using e)
  exact⟨u,by simpa using h1,h2⟩
theorem i4.append:∀{ds es:LD} {vs us:List V},i4 K H ds vs->i4 K H es us->i4 K H (ds++es) (vs++us)
 | [],_,_,_,h,t=>by cases (show _=[] from h);exact t
 | d::ds,_,_,_,h,t=>by
  obtain⟨v,r,e',q,t'⟩:=h
  subst e'
  exact⟨v,_,rfl,q,i4.append t' t⟩
theorem i4.drop:∀(n:Nat) {ds:LD} {vs:List V},i4 K H ds vs->i4 K H (ds.drop n) (vs.drop n)
 | 0,_,_,h=>by simpa using h
 | n+1,[],_,h=>by cases (show _=[] from h);exact rfl
 | n+1,d::ds,_,h=>by
  obtain⟨v,r,e',q,t'⟩:=h
  subst e'
  simpa using i4.drop n t'
theorem i4.take:∀(n:Nat) {ds:LD} {vs:List V},i4 K H ds vs->i4 K H (ds.take n) (vs.take n)
 | 0,_,_,h=>by simp only[List.take_zero];exact rfl
 | n+1,[],_,h=>by cases (show _=[] from h);exact rfl
 | n+1,d::ds,_,h=>by
  obtain⟨v,r,e',q,t'⟩:=h
  subst e'
  rw[List.take_succ_cons,List.take_succ_cons]
  exact⟨v,_,rfl,q,i4.take n t'⟩
theorem i4.one{d:D}{v:V}(h:Rep K H d v):i4 K H [d] [v]:=⟨v,[],rfl,h,rfl⟩
theorem i4.nil:i4 K H [] []:=rfl
theorem i4.cons{d:D}{v:V}{ds:LD}{vs:List V}(h:Rep K H d v)(t:i4 K H ds vs):i4 K H (d::ds) (v::vs):=⟨v,vs,rfl,h,t⟩
theorem i4.reverse:∀{ds:LD} {vs:List V},i4 K H ds vs->i4 K H ds.reverse vs.reverse
 | [],_,h=>by cases (show _=[] from h);exact rfl
 | d::ds,_,h=>by
  obtain⟨v,r,e',q,t'⟩:=h
  subst e'
  rw[List.reverse_cons,List.reverse_cons]
  exact i4.append (i4.reverse t') (i4.one q)
def jP(K:W.Frag)(H:Hp)(ρ:R)(σ:L2.St):Prop:=ρ.length<=σ.length/\∀(i:Nat) (d:D),ρ[i]?=some (some d)->∃v,σ[i]?=some (some v)/\Rep K H d v
theorem jP.mono{H':Hp}{ρ:R}{σ:L2.St}(e:jP K H ρ σ)(s:i9 H H'):jP K H' ρ σ:=⟨e.1,fun i d h=>let ⟨v,a,b⟩:=e.2 i d h;⟨v,a,b.mono s⟩⟩
theorem jP.at{ρ:R}{σ:L2.St}(e:jP K H ρ σ){i:Nat}{d:D}(h:i3 i ρ=some d):∃v,σ[i]?=some (some v)/\Rep K H d v:=by
 refine e.2 i d ?_
 unfold i3 at h
 rw[List.getD_eq_getElem?_getD] at h
 cases q:ρ[i]? with
 | none=>rw[q] at h;cases h
 | some o=>rw[q] at h;cases (show o=some d from h);rfl
theorem jP.set{ρ:R}{σ:L2.St}(e:jP K H ρ σ){i:Nat}{d:D}{v:V}(r:Rep K H d v):jP K H (ρ.set i (some d)) (σ.set i (some v)):=by
 refine⟨by simpa using e.1,fun j c h=>?_⟩
 by_cases hj:i=j
 ·subst hj
  by_cases hi:i<ρ.length
  ·rw[List.getElem?_set_self hi] at h
   cases h
   exact⟨v,by rw[List.getElem?_set_self (Nat.lt_of_lt_of_le hi e.1)],r⟩
  ·rw[List.getElem?_eq_none (by simpa using hi)] at h
   cases h
 ·rw[List.getElem?_set_ne hj] at h ⊢
  exact e.2 j c h
theorem jP.front{ρ:R}{σ:L2.St}(e:jP K H ρ σ)(k:Nat)(τ:L2.St)(hk:τ.length=k):jP K H (List.replicate k none++ρ) (τ++σ):=by
 subst hk
 refine⟨by simpa using e.1,fun i d h=>?_⟩
 by_cases hi:i<τ.length
 ·rw[List.getElem?_append_left (by simpa using hi),List.getElem?_replicate] at h
  split at h<;>cases h
 ·rw[List.getElem?_append_right (by simpa using hi),List.length_replicate] at h
  rw[List.getElem?_append_right (by simpa using hi)]
  exact e.2 _ d h
end
def jQ(K:W.Frag)(H:Hp)(ρ:R)(τ:L2.St)(σ:L2.St):Prop:=jP K H ρ σ/\σ.drop ρ.length=τ
theorem jP.t{K:W.Frag}{H:Hp}{ρ:R}{σ:L2.St}(e:jP K H ρ σ):jQ K H ρ (σ.drop ρ.length) σ:=⟨e,rfl⟩
theorem jQ.mono{K:W.Frag}{H H':Hp}{ρ:R}{τ σ:L2.St}(e:jQ K H ρ τ σ)(s:i9 H H'):jQ K H' ρ τ σ:=⟨e.1.mono s,e.2⟩
theorem jQ.set{K:W.Frag}{H:Hp}{ρ:R}{τ σ:L2.St}(e:jQ K H ρ τ σ){i:Nat}{d:D}{v:V}(hi:i<ρ.length)(r:Rep K H d v):jQ K H (ρ.set i (some d)) τ (σ.set i (some v)):=by
 refine⟨e.1.set r,?_⟩
 rw[List.length_set,List.drop_set_of_lt hi]
 exact e.2
section
variable(K:W.Frag)
def tD(f:R->OD):TE:=fun σ H Q=>∃ ρ d,jP K H ρ σ/\f ρ=some d/\∀v H',i9 H H'->Rep K H' d v->Q v H'
def AS(f:R->Option Bool):TT:=fun σ H Q=>∃ ρ b,jP K H ρ σ/\f ρ=some b/\∀H',i9 H H'->Q b H'
def CF(f:R->Option LD):TA:=fun σ H Q=>∃ ρ ds,jP K H ρ σ/\f ρ=some ds/\∀vs H',i9 H H'->i4 K H' ds vs->Q vs H'
def Cq(f:R->Option (Option Int)):TO:=fun σ H Q=>∃ ρ o,jP K H ρ σ/\f ρ=some o/\∀H',i9 H H'->Q o H'
def fin(E:Ends)(τ:L2.St)(o:Out)(H':Hp):Prop:=
 match o with
 | .nx ρ=>∀ σ,jQ K H' ρ τ σ->E.nx σ H'
 | .rt d=>∀v,Rep K H' d v->E.rt v H'
 | .bk ρ=>∀ σ,jQ K H' ρ τ σ->E.bk σ H'
 | .ct ρ=>∀ σ,jQ K H' ρ τ σ->E.ct σ H'
def AG(f:R->Option Out):TS:=fun E σ H=>∃ ρ τ o,jQ K H ρ τ σ/\f ρ=some o/\∀H',i9 H H'->fin K E τ o H'
def Cb(st:D->R->Option R):TG:=fun v σ H Q=>∃ ρ τ d ρ',jQ K H ρ τ σ/\Rep K H d v/\st d ρ=some ρ'/\∀ σ' H',i9 H H'->jQ K H' ρ' τ σ'->Q σ' H'
def Bp(sts:List (D->R->Option R)):xA:=fun vs σ H Q=>∃ ρ τ ds ρ',jQ K H ρ τ σ/\i4 K H ds vs/\tj sts ds ρ=some ρ'/\∀ σ' H',i9 H H'->jQ K H' ρ' τ σ'->Q σ' H'
def Kp(H H':Hp):Prop:=∀b u,H b=some u->(∀ φ,u≠.ext φ)->H' b=some u
def kY(J:It)(ds:LD)(H:Hp):Prop:=
 (∀(i:Nat) (d:D) (H2:Hp),Kp H H2->ds[i]?=some d->J.go i H2/\∀x H3,J.yld i H2 x H3->i9 H2 H3/\Rep K H3 d x)/\∀(i:Nat) (H2:Hp),Kp H H2->ds.length<=i->J.stop i H2
def Ct(f:R->Option LD):TI:=fun σ H W=>∃ ρ ds,jP K H ρ σ/\f ρ=some ds/\∀J H',i9 H H'->kY K J ds H'->W J H'
def pS(F:LD->OD):Sp:=fun vs H Q _=>∃ds d,i4 K H ds vs/\F ds=some d/\∀v H',i9 H H'->Rep K H' d v->Q v H'
end
def SE(X:Cx)(e:Expr)(f:R->OD):Prop:=PE X e (tD X.K f)
def ST(X:Cx)(e:Expr)(f:R->Option Bool):Prop:=PT X e (AS X.K f)
def SW(X:Cx)(e:Expr)(f:R->Option Bool):Prop:=PW X e (AS X.K f)
def noStar:Expr->Bool
 | .Starred _ _=>false
 | _=>true
theorem av{e:Expr}(es:List Expr)(env:Env)(h:noStar e=true):starEach (e::es) env=(false,eval e env)::starEach es env:=by
 cases e<;>first | rfl | cases h
theorem bq{pos:Pos}{env:Env}:∀{es:List Expr},es.all noStar=true->(backTo pos (starEach es env)).any (·.1)=false
 | [],_=>rfl
 | e::es,h=>by
  rw[List.all_cons,Bool.and_eq_true] at h
  rw[av es env h.1]
  show(false||(backTo pos (starEach es env)).any (·.1))=false
  rw[bq h.2]
  rfl
def SA(X:Cx)(es:List Expr)(f:R->Option LD):Prop:=PA X es (CF X.K f)/\(∀ ρ ds,f ρ=some ds->ds.length=es.length)/\es.all noStar=true
def SO(X:Cx)(e:Option Expr)(f:R->Option (Option Int)):Prop:=PO X e (Cq X.K f)
def S1(X:Cx)(s:Stmt)(f:R->Option Out):Prop:=PS X s (AG X.K f)
def SS(X:Cx)(s:List Stmt)(f:R->Option Out):Prop:=PSs X s (AG X.K f)
def SG(X:Cx)(e:Expr)(st:D->R->Option R):Prop:=PG X e (Cb X.K st)
def AY(X:Cx)(es:List Expr)(sts:List (D->R->Option R)):Prop:=PGs X es (Bp X.K sts)
def SI(X:Cx)(tg iter:Expr)(f:R->Option LD):Prop:=PI X tg iter (Ct X.K f)
section
variable{X:Cx}{e a b c:Expr}{es:List Expr}{pos p:Pos}
theorem _root_.L2.PE.imp{t t':TE}(h:PE X e t)(hi:∀ σ H Q,t' σ H Q->t σ H Q):PE X e t':=fun pins s σ H Q I q=>h pins s σ H Q I (hi σ H Q q)
theorem _root_.L2.PT.imp{t t':TT}(h:PT X e t)(hi:∀ σ H Q,t' σ H Q->t σ H Q):PT X e t':=fun pins s σ H Q I q=>h pins s σ H Q I (hi σ H Q q)
theorem _root_.L2.PW.imp{t t':TT}(h:PW X e t)(hi:∀ σ H Q,t' σ H Q->t σ H Q):PW X e t':=fun wh pins s σ H Q I q=>h wh pins s σ H Q I (hi σ H Q q)
theorem _root_.L2.PA.imp{t t':TA}(h:PA X es t)(hi:∀ σ H Q,t' σ H Q->t σ H Q):PA X es t':=fun pos pins s σ H Q I q=>h pos pins s σ H Q I (hi σ H Q q)
theorem _root_.L2.PO.imp{e:Option Expr}{t t':TO}(h:PO X e t)(hi:∀ σ H Q,t' σ H Q->t σ H Q):PO X e t':=fun pins s σ H Q I q=>h pins s σ H Q I (hi σ H Q q)
theorem _root_.L2.PS.imp{s:Stmt}{t t':TS}(h:PS X s t)(hi:∀E σ H,t' E σ H->t E σ H):PS X s t':=fun pins s σ H E I q=>h pins s σ H E I (hi E σ H q)
theorem _root_.L2.PSs.imp{s:List Stmt}{t t':TS}(h:PSs X s t)(hi:∀E σ H,t' E σ H->t E σ H):PSs X s t':=fun pins s σ H E I q=>h pins s σ H E I (hi E σ H q)
theorem _root_.L2.PG.imp{t t':TG}(h:PG X e t)(hi:∀v σ H Q,t' v σ H Q->t v σ H Q):PG X e t':=fun pins s σ H v u Q I r q=>h pins s σ H v u Q I r (hi v σ H Q q)
theorem _root_.L2.PGs.imp{t t':xA}(h:PGs X es t)(hi:∀v σ H Q,t' v σ H Q->t v σ H Q):PGs X es t':=fun pins s σ H v u Q I r q=>h pins s σ H v u Q I r (hi v σ H Q q)
theorem _root_.L2.PI.imp{tg:Expr}{t t':TI}(h:PI X tg e t)(hi:∀ σ H Q,t' σ H Q->t σ H Q):PI X tg e t':=fun pins s σ H W I q=>h pins s σ H W I (hi σ H W q)
theorem i5{α β:Type}{o:Option α}{f:α->Option β}{y:β}(h:o.bind f=some y):∃x,o=some x/\f x=some y:=by
 cases o with
 | none=>cases h
 | some x=>exact⟨x,rfl,h⟩
theorem jL{α β:Type}{o:Option α}{f:α->β}{y:β}(h:o.map f=some y):∃x,o=some x/\f x=y:=by
 cases o with
 | none=>cases h
 | some x=>exact⟨x,rfl,Option.some.inj h⟩
theorem aa(i:Nat){x:Str}(hN:X.N[i]?=some x:=by rfl)(hv:qB X.env.scope x:=by first | exact Or.inl rfl | exact Or.inr (Or.inl rfl) | exact Or.inr (Or.inr rfl))(hd:(x==("__debug__" : Str))=false:=by decide)
  (hcd:(x==("__classdict__" : Str))=false:=by decide):SE X (.Name x pos) (i3 i):=(eM hN hv hd hcd).imp fun σ H Q ⟨ρ,d,er,e,q⟩=>by
 obtain⟨v,h1,h2⟩:=er.at e
 exact⟨v,h1,q v H (i9.refl H) h2⟩
theorem ad{i j}:SE X (.Constant (.int i) j pos) (kI i):=yA.imp fun σ H Q ⟨ρ,d,er,e,q⟩=>by
 cases e
 exact q _ H (i9.refl H) rfl
theorem hZ{b j}:SE X (.Constant (.bool b) j pos) (fun _=>some (.bl b)):=Aq.imp fun σ H Q ⟨ρ,d,er,e,q⟩=>by
 cases e
 exact q _ H (i9.refl H) rfl
theorem cg{j}:SE X (.Constant .none j pos) (fun _=>some .non):=yE.imp fun σ H Q ⟨ρ,d,er,e,q⟩=>by
 cases e
 exact q _ H (i9.refl H) rfl
theorem aD{x j}:SE X (.Constant (.str x) j pos) (fun _=>some (.str x)):=zb.imp fun σ H Q ⟨ρ,d,er,e,q⟩=>by
 cases e
 exact q _ H (i9.refl H) rfl
def Ad(K:W.Frag)(mg:Str->Option Value)(x:Str)(d:D):Prop:=∃u v,mg x=some u/\RelV v u/\∀H,Rep K H d v
theorem dI{x:Str}{d:D}(h:Ad X.K X.mg x d)(hg:Gl X x:=by rfl)(hd:(x==("__debug__" : Str))=false:=by decide):SE X (.Name x pos) (fun _=>some d):=by
 obtain⟨u,v,hm,r,hr⟩:=h
 exact(gD hg hm r hd).imp fun σ H Q ⟨ρ,d',er,e,q⟩=>by
  cases e
  exact q v H (i9.refl H) (hr H)
def zJ(X:Cx)(f:Value->Value->Sem Value)(F:D->D->OD):Prop:=
 OpR X f fun x y H Q=>∃dx dy d,Rep X.K H dx x/\Rep X.K H dy y/\F dx dy=some d/\∀v H',i9 H H'->Rep X.K H' d v->Q v H'
def v9(X:Cx)(op:CmpOp)(F:D->D->Option Bool):Prop:=
 OpR X (compareOp op) fun x y H Q=>∃dx dy b,Rep X.K H dx x/\Rep X.K H dy y/\F dx dy=some b/\Q (.bl b) H
def Bb(X:Cx)(f:Value)(F:LD->OD):Prop:=
 CallR X f fun xs H Q=>∃ds d,i4 X.K H ds xs/\F ds=some d/\∀v H',i9 H H'->Rep X.K H' d v->Q v H'
theorem _root_.L2.OpR.imp{f:Value->Value->Sem Value}{r r':R2}(h:OpR X f r)(hi:∀x y H Q,r' x y H Q->r x y H Q):OpR X f r':=fun pins s σ H x y v u Q I rx ry q=>h pins s σ H x y v u Q I rx ry (hi x y H Q q)
theorem _root_.L2.UnR.imp{f:Value->Sem Value}{r r':V->Hp->VK->Prop}(h:UnR X f r)(hi:∀x H Q,r' x H Q->r x H Q):UnR X f r':=fun pins s σ H x v Q I rx q=>h pins s σ H x v Q I rx (hi x H Q q)
theorem _root_.L2.CallR.imp{f:Value}{r r':List V->Hp->VK->Prop}(h:CallR X f r)(hi:∀x H Q,r' x H Q->r x H Q):CallR X f r':=fun pins s σ H xs us Q I rx q=>h pins s σ H xs us Q I rx (hi xs H Q q)
variable{f g h:R->OD}
theorem two{σ:L2.St}{H:Hp}{Q:VK}{F:D->D->OD}(q:tD X.K (i6 F f g) σ H Q) :
  tD X.K f σ H fun x H1=>tD X.K g σ H1 fun y H2=>∃dx dy d,Rep X.K H2 dx x/\Rep X.K H2 dy y/\F dx dy=some d/\∀v H',i9 H2 H'->Rep X.K H' d v->Q v H':=by
 obtain⟨ρ,d,er,e,q⟩:=q
 obtain⟨x,e1,e⟩:=i5 e
 obtain⟨y,e2,e⟩:=i5 e
 exact⟨ρ,x,er,e1,fun v H1 s1 r1=>⟨ρ,y,er.mono s1,e2,fun u H2 s2 r2=>⟨x,y,d,r1.mono s2,r2,e,fun w H3 s3 r3=>q w H3 (s1.trans (s2.trans s3)) r3⟩⟩⟩
theorem ak{op:Operator}{F:D->D->OD}(ho:zJ X (binaryOp op) F)(ha:SE X a f)(hb:SE X b g):SE X (.BinOp a op b pos) (i6 F f g):=(ic ho ha hb).imp fun σ H Q q=>two q
theorem BR{σ:L2.St}{H:Hp}{Q:Bool->Hp->Prop}{F:D->D->Option Bool}(q:AS X.K (ju F f g) σ H Q) :
  tD X.K f σ H fun x H1=>tD X.K g σ H1 fun y H2=>∃dx dy b,Rep X.K H2 dx x/\Rep X.K H2 dy y/\F dx dy=some b/\Q b H2:=by
 obtain⟨ρ,d,er,e,q⟩:=q
 obtain⟨x,e1,e⟩:=i5 e
 obtain⟨y,e2,e⟩:=i5 e
 exact⟨ρ,x,er,e1,fun v H1 s1 r1=>⟨ρ,y,er.mono s1,e2,fun u H2 s2 r2=>⟨x,y,d,r1.mono s2,r2,e,q H2 (s1.trans s2)⟩⟩⟩
theorem zD{σ:L2.St}{H:Hp}{Q:VK}{f:R->Option Bool}(q:tD X.K (rX f) σ H Q):AS X.K f σ H fun b H'=>Q (.bl b) H':=by
 obtain⟨ρ,d,er,e,q⟩:=q
 obtain⟨x,e1,e⟩:=jL e
 subst e
 exact⟨ρ,x,er,e1,fun H1 s1=>q _ H1 s1 rfl⟩
theorem bv{op:CmpOp}{F:D->D->Option Bool}(ho:v9 X op F)(ha:SE X a f)(hb:SE X b g)(hm:behindInMarks op b=false:=by first | exact v4 _ | with_unfolding_all rfl) :
  SE X (.Compare a [op] [b] pos) (rX (ju F f g)):=(gS ho ha hb hm).imp fun σ H Q q=>BR (zD q)
theorem aY{op:CmpOp}{F:D->D->Option Bool}(ho:v9 X op F)(ha:SE X a f)(hb:SE X b g)(hm:behindInMarks op b=false:=by first | exact v4 _ | with_unfolding_all rfl) :
  ST X (.Compare a [op] [b] pos) (ju F f g):=(gG ho ha hb hm).imp fun σ H Q q=>by
 obtain⟨ρ,d,er,e,q⟩:=q
 obtain⟨x,e1,e⟩:=i5 e
 obtain⟨y,e2,e⟩:=i5 e
 exact⟨ρ,x,er,e1,fun v H1 s1 r1=>⟨ρ,y,er.mono s1,e2,fun u H2 s2 r2=>⟨x,y,d,r1.mono s2,r2,e,d,rfl,q H2 (s1.trans s2)⟩⟩⟩
theorem xH{H:Hp}{d:D}{v:V}{b:Bool}{K:W.Frag}(r:Rep K H d v)(e:yO d=some b):yz K v H b:=by
 cases d with
 | non=>cases (show v=_ from r);cases e;exact rfl
 | bl c=>cases (show v=_ from r);cases e;exact rfl
 | int i=>cases (show v=_ from r);cases e;exact rfl
 | str x =>
  cases (show v=_ from r)
  unfold yO at e
  dsimp only at e
  split at e
  ·rename_i hx
   cases e
   exact⟨hx,rfl⟩
  ·cases e
 | tup ds =>
  obtain⟨a,xs,rfl,q,t⟩:=r
  cases e
  refine .inr (.inl ⟨xs,q,?_⟩)
  cases ds with
  | nil=>cases (show xs=[] from t);rfl
  | cons d ds=>obtain⟨_,_,rfl,_⟩:=t;rfl
 | lst ds =>
  obtain⟨a,xs,rfl,q,t⟩:=r
  cases e
  refine .inl ⟨xs,kN.of q,?_⟩
  cases ds with
  | nil=>cases (show xs=[] from t);rfl
  | cons d ds=>obtain⟨_,_,rfl,_⟩:=t;rfl
 | fro ds =>
  obtain⟨a,xs,rfl,q,t⟩:=r
  cases e
  refine .inl ⟨xs,q,?_⟩
  cases ds with
  | nil=>cases (show xs=[] from t);rfl
  | cons d ds=>obtain⟨_,_,rfl,_⟩:=t;rfl
 | obj k a ks ds=>cases e
 | dct ks ds=>cases e
 | dcp ks ds=>cases e
 | cl t a ds=>cases e
theorem gr(ha:SE X a f)(he:∀whole,isTrue a X.env whole=(do let v <- whole;standAt a.pos;holding [v] (truthy v)):=by intro _;rfl):ST X a (xQ f):=(gc ha he).imp fun σ H Q ⟨ρ,b,er,e,q⟩=>by
 obtain⟨x,e1,e⟩:=i5 e
 exact⟨ρ,x,er,e1,fun v H1 s1 r1=>⟨b,xH r1 e,q H1 s1⟩⟩
variable{s t:R->Option Bool}{rest:List Expr}
theorem h_{e:Expr}(h:SW X e s):ST X e s:=PW.pt h
theorem gj(ha:ST X a s):SW X (.BoolOp .Or [a] pos) s:=zh ha
theorem fX(ha:ST X a s)(hb:SW X (.BoolOp .Or (b::rest) pos) t):SW X (.BoolOp .Or (a::b::rest) pos) (zf s t):=(An ha hb).imp fun σ H Q ⟨ρ,k,er,e,q⟩=>by
 obtain⟨x,e1,e⟩:=i5 e
 refine⟨ρ,x,er,e1,fun H1 s1=>?_⟩
 cases x with
 | true=>cases e;rw[if_pos rfl];exact q H1 s1
 | false=>rw[if_neg Bool.false_ne_true] at e ⊢;exact⟨ρ,k,er.mono s1,e,fun H2 s2=>q H2 (s1.trans s2)⟩
theorem iD(ha:ST X a s):ST X (.UnaryOp .Not a pos) (Az s):=(iS ha).imp fun σ H Q ⟨ρ,k,er,e,q⟩=>by
 obtain⟨x,e1,e⟩:=jL e
 subst e
 exact⟨ρ,x,er,e1,fun H1 s1=>q H1 s1⟩
theorem eO{op}(ha:SE X a f):SE X (.BoolOp op [a] pos) f:=ij ha
theorem iz(ha:SE X a f)(hb:SE X (.BoolOp .And (b::rest) pos) g):SE X (.BoolOp .And (a::b::rest) pos) (xo f g):=(iQ ha hb).imp fun σ H Q ⟨ρ,d,er,e,q⟩=>by
 obtain⟨x,e1,e⟩:=i5 e
 refine⟨ρ,x,er,e1,fun v H1 s1 r1=>?_⟩
 cases x with
 | bl c =>
  cases (show v=_ from r1)
  refine⟨c,rfl,?_⟩
  cases c with
  | false=>cases e;rw[if_neg Bool.false_ne_true];exact q _ H1 s1 rfl
  | true=>rw[if_pos rfl];exact⟨ρ,d,er.mono s1,e,fun v H2 s2 r2=>q v H2 (s1.trans s2) r2⟩
 | _=>cases e
theorem ib(ha:SE X a f)(hb:SE X (.BoolOp .Or (b::rest) pos) g):SE X (.BoolOp .Or (a::b::rest) pos) (Ai f g):=(iV ha hb).imp fun σ H Q ⟨ρ,d,er,e,q⟩=>by
 obtain⟨x,e1,e⟩:=i5 e
 refine⟨ρ,x,er,e1,fun v H1 s1 r1=>?_⟩
 cases x with
 | bl c =>
  cases (show v=_ from r1)
  refine⟨c,rfl,?_⟩
  cases c with
  | true=>cases e;rw[if_pos rfl];exact q _ H1 s1 rfl
  | false=>rw[if_neg Bool.false_ne_true];exact⟨ρ,d,er.mono s1,e,fun v H2 s2 r2=>q v H2 (s1.trans s2) r2⟩
 | _=>cases e
theorem iP(ha:SE X a f):SE X (.UnaryOp .Not a pos) (xM f):=(ig ha).imp fun σ H Q ⟨ρ,d,er,e,q⟩=>by
 obtain⟨x,e1,e⟩:=i5 e
 refine⟨ρ,x,er,e1,fun v H1 s1 r1=>?_⟩
 cases x with
 | bl c =>
  cases (show v=_ from r1)
  cases e
  exact⟨c,rfl,q _ H1 s1 rfl⟩
 | _=>cases e
variable{F:R->Option LD}
theorem af:SA X [] i8:=⟨sd.imp fun σ H Q ⟨ρ,d,er,e,q⟩=>by cases e;exact q [] H (i9.refl H) rfl,fun ρ ds e=>by cases e;rfl,rfl⟩
theorem ac(ha:SE X e f)(hr:SA X es F)(hs:noStar e=true:=by rfl):SA X (e::es) (e8 f F):=⟨(ca ha hr.1 (av es X.env hs)).imp fun σ H Q ⟨ρ,ds,er,e,q⟩=>by
 obtain⟨x,e1,e⟩:=i5 e
 obtain⟨y,e2,e⟩:=jL e
 subst e
 exact⟨ρ,x,er,e1,fun v H1 s1 r1=>⟨ρ,y,er.mono s1,e2,fun vs H2 s2 r2=>q _ H2 (s1.trans s2) (i4.cons (r1.mono s2) r2)⟩⟩,fun ρ ds e=>by
 obtain⟨x,e1,e⟩:=i5 e
 obtain⟨y,e2,e⟩:=jL e
 subst e
 simp[hr.2.1 ρ y e2],by rw[List.all_cons,hs,hr.2.2];rfl⟩
theorem aM{H:Hp}{p:Addr}(h:H p=none)(o:HO):i9 H (upd H p o):=fun b u q=>by rw[ai (j3 q h)];exact q
theorem aA{k}(h:SA X es F)(hl:Nat.ble es.length 1000=true:=by rfl):SE X (.Tuple es k pos) (jw F):=(ik h.1).imp fun σ H Q ⟨ρ,d,er,e,q⟩=>by
 obtain⟨ds,e1,e⟩:=jL e
 subst e
 refine⟨ρ,ds,er,e1,fun vs H1 s1 r1=>⟨?_,fun p hp=>?_⟩⟩
 ·rw[<- r1.length,h.2.1 ρ ds e1];exact Nat.le_of_lt (m7 (Nat.le_of_ble_eq_true hl))
 ·have s2:=aM hp (.tup vs)
  exact q _ _ (s1.trans s2) ⟨p,vs,rfl,kr.of ae,r1.mono s2⟩
theorem eR(h:SA X es F)(hl:Nat.ble es.length 1000=true:=by rfl):SE X (.List es pos) (qX F):=(cq h.1).imp fun σ H Q ⟨ρ,d,er,e,q⟩=>by
 obtain⟨ds,e1,e⟩:=jL e
 subst e
 refine⟨ρ,ds,er,e1,fun vs H1 s1 r1=>⟨?_,fun p hp=>?_⟩⟩
 ·rw[<- r1.length,h.2.1 ρ ds e1];exact Nat.le_of_lt (m7 (Nat.le_of_ble_eq_true hl))
 ·have s2:=aM hp (.lst vs)
  exact q _ _ (s1.trans s2) ⟨p,vs,rfl,ae,r1.mono s2⟩
structure lg (P:Program) (w:World) (K:W.Frag) (mg:Str->Option Value) (base:Heap) (k:Nat) (x:Str) (ps:List Str) (F:LD->OD):Prop where
 ex:∃f fd,jx P w K mg base kK k f fd ps (pS K F)/\mg x=some (.ref f)/\W.keepIn K (.ref f)=true/\Binds K fd ps []
theorem lg.mono{P:Program}{w:World}{K:W.Frag}{mg:Str->Option Value}{base:Heap}{j k:Nat}{x:Str}{ps:List Str}{F:LD->OD}(h:lg P w K mg base j x ps F)(hk:j<=k):lg P w K mg base k x ps F:=by
 obtain⟨f,fd,a,b⟩:=h.ex
 exact⟨f,fd,a.mono hk,b⟩
theorem lg.imp{P:Program}{w:World}{K:W.Frag}{mg:Str->Option Value}{base:Heap}{k:Nat}{x:Str}{ps:List Str}{F G:LD->OD}(h:lg P w K mg base k x ps F)(hi:∀ds d,G ds=some d->F ds=some d):lg P w K mg base k x ps G:=by
 obtain⟨f,fd,a,b⟩:=h.ex
 exact⟨f,fd,a.imp fun vs H Q E ⟨ds,d,r,e,q⟩=>⟨ds,d,r,hi ds d e,q⟩,b⟩
theorem aB{k:Nat}{x:Str}{ps:List Str}{G:LD->OD}(C:lg X.prog X.w X.K X.mg X.base k x ps G)(hr:jy k X.A)(ha:SA X (e::es) F)(hg:Gl X x:=by rfl)
  (hdb:(x==("__debug__" : Str))=false:=by decide) :
  SE X (.Call (.Name x p) (e::es) [] pos) (jc G F):=by
 have hst:=ha.2.2
 rw[List.all_cons,Bool.and_eq_true] at hst
 have he:=av es X.env hst.1
 have hpl:=bq (pos:=pos) (env:=X.env) hst.2
 obtain⟨f,fd,a,m,kp,bd⟩:=C.ex
 refine(du a hr hg m kp bd .nil qY ha.1 hdb he hpl).imp fun σ H Q ⟨ρ,d,er,e,q⟩=>?_
 obtain⟨ds,e1,e⟩:=i5 e
 exact⟨ρ,ds,er,e1,fun vs H1 s1 r1=>⟨ds,d,by rw[List.append_nil];exact r1,e,fun v H2 s2 r2=>q v H2 (s1.trans s2) r2⟩⟩
theorem bz{x:Str}{id:String}{G:LD->OD}(hc:Bb X (.builtin id) G)(hm:X.mg x=none)(ha:SA X (e::es) F)(hv:bootBuiltins x=some (.builtin id):=by kernel_rfl)(hg:Gl X x:=by rfl)(hn:x ≠ "__name__":=by decide)(hdb:(x==("__debug__" : Str))=false:=by decide):SE X (.Call (.Name x p) (e::es) [] pos) (jc G F):=
 (dX hc hg hm hv ha.1 hn hdb (av es X.env (List.all_eq_true.mp ha.2.2 e List.mem_cons_self)) (bq (List.all_eq_true.mpr fun x hx=>List.all_eq_true.mp ha.2.2 x (List.mem_cons_of_mem _ hx)))).imp fun σ H Q ⟨ρ,d,er,e,q⟩=>by
  obtain⟨ds,e1,e⟩:=i5 e
  exact⟨ρ,ds,er,e1,fun vs H1 s1 r1=>⟨ds,d,r1,e,fun v H2 s2 r2=>q v H2 (s1.trans s2) r2⟩⟩
def Cr(X:Cx)(F:D->D->OD):Prop:=IxR X fun x y H Q=>∃dx dy d,Rep X.K H dx x/\Rep X.K H dy y/\F dx dy=some d/\∀v H',i9 H H'->Rep X.K H' d v->Q v H'
theorem _root_.L2.IxR.imp{r r':R2}(h:IxR X r)(hi:∀x y H Q,r' x y H Q->r x y H Q):IxR X r':=fun value slice pins s σ H x y v u Q I rx ry q hs=>h value slice pins s σ H x y v u Q I rx ry (hi x y H Q q) hs
theorem zp(n:Nat)(i:Int):zI n i=Al n i:=rfl
theorem qk{K:W.Frag}{H:Hp}{ds:LD}{xs:List V}{i:Int}{d:D}(r:i4 K H ds xs)(e:ro ds i=some d):∃v,zi xs i=some v/\Rep K H d v:=by
 obtain⟨j,e1,e2⟩:=i5 e
 obtain⟨v,h1,h2⟩:=r.get e2
 refine⟨v,?_,h2⟩
 unfold zi
 rw[<- r.length,<- zp,e1]
 exact h1
theorem BU:Cr X jd:=(wK.or (yZ.or zo)).imp fun x y H Q ⟨dx,dy,d,r1,r2,e,q⟩=>by
 cases dx with
 | tup ds =>
  cases dy with
  | int i =>
   obtain⟨a,xs,e1,hq,t⟩:=r1
   cases (show y=_ from r2)
   obtain⟨v,h1,h2⟩:=qk t e
   exact .inr (.inl ⟨a,xs,i,v,e1,rfl,hq,h1,q v H (i9.refl H) h2⟩)
  | _=>cases e
 | lst ds =>
  cases dy with
  | int i =>
   obtain⟨a,xs,e1,hq,t⟩:=r1
   cases (show y=_ from r2)
   obtain⟨v,h1,h2⟩:=qk t e
   exact .inl ⟨a,xs,i,v,e1,rfl,kN.of hq,h1,q v H (i9.refl H) h2⟩
  | _=>cases e
 | fro ds =>
  cases dy with
  | int i =>
   obtain⟨a,xs,e1,hq,t⟩:=r1
   cases (show y=_ from r2)
   obtain⟨v,h1,h2⟩:=qk t e
   exact .inl ⟨a,xs,i,v,e1,rfl,hq,h1,q v H (i9.refl H) h2⟩
  | _=>cases e
 | str z =>
  cases dy with
  | int i =>
   cases (show x=_ from r1)
   cases (show y=_ from r2)
   unfold jd at e
   dsimp only at e
   split at e
   ·rename_i hz
    obtain⟨c,e1,e2⟩:=jL e
    subst e2
    exact .inr (.inr ⟨z,i,c,rfl,rfl,hz,(by rw[<- e1];rfl),q _ H (i9.refl H) rfl⟩)
   ·cases e
  | _=>cases e
 | _=>cases e
theorem aj(ha:SE X a f)(hb:SE X b g)(hs:ud b:=by intro _ _;rfl):SE X (.Subscript a b pos) (i6 jd f g):=(jb BU ha hb hs).imp fun σ H Q q=>two q
variable{st:Stmt}{sts:List Stmt}{u w:R->Option Out}
theorem bJ:SS X [] kg:=qh.imp fun E σ H ⟨ρ,τ,o,er,e,q⟩=>by
 cases e
 exact q H (i9.refl H) σ er
theorem zx{E:Ends}{σ:L2.St}{H:Hp}{K:W.Frag}(q:AG K (jn u w) E σ H):AG K u {E with nx:=AG K w E} σ H:=by
 obtain⟨ρ,τ,o,er,e,q⟩:=q
 obtain⟨o1,e1,e⟩:=i5 e
 refine⟨ρ,τ,o1,er,e1,fun H1 s1=>?_⟩
 cases o1 with
 | nx ρ2=>exact fun σ2 er2=>⟨ρ2,τ,o,er2,e,fun H2 s2=>q H2 (s1.trans s2)⟩
 | rt d=>cases e;exact q H1 s1
 | bk ρ2=>cases e;exact q H1 s1
 | ct ρ2=>cases e;exact q H1 s1
theorem al(h1:S1 X st u)(h2:SS X sts w):SS X (st::sts) (jn u w):=(aL h1 h2).imp fun E σ H q=>zx q
theorem ax(h1:S1 X st u):SS X [st] u:=bp h1
theorem aT(ha:SE X a f):S1 X (.Return (some a) pos) (j5 f):=(eK ha).imp fun E σ H ⟨ρ,τ,o,er,e,q⟩=>by
 obtain⟨x,e1,e⟩:=jL e
 subst e
 exact⟨ρ,x,er.1,e1,fun v H1 s1 r1=>q H1 s1 v r1⟩
theorem c_{B1 B2:List Stmt}(hc:ST X c s)(ha:SS X B1 u)(hb:SS X B2 w):S1 X (.If c B1 B2 pos) (mv s u w):=(ga hc ha hb).imp fun E σ H ⟨ρ,τ,o,er,e,q⟩=>by
 obtain⟨x,e1,e⟩:=i5 e
 refine⟨ρ,x,er.1,e1,fun H1 s1=>?_⟩
 cases x with
 | true=>rw[if_pos rfl] at e ⊢;exact⟨ρ,τ,o,er.mono s1,e,fun H2 s2=>q H2 (s1.trans s2)⟩
 | false=>rw[if_neg Bool.false_ne_true] at e ⊢;exact⟨ρ,τ,o,er.mono s1,e,fun H2 s2=>q H2 (s1.trans s2)⟩
theorem ag(i:Nat){x:Str}(hN:X.N.Nodup)(hi:X.N[i]?=some x:=by rfl)(hx:Loc X.env.scope x:=by first | exact Or.inl rfl | exact Or.inr rfl)(hf:X.fn x=true\/X.env.scope.names.lookup x=some .local:=by first | exact .inl rfl | exact .inr rfl) :
  SG X (.Name x pos) (setAt i):=(hV hN hi hx hf).imp fun v σ H Q ⟨ρ,τ,d,ρ',er,r,e,q⟩=>by
 unfold setAt at e
 split at e
 ·rename_i hlt
  cases e
  exact q _ H (i9.refl H) (er.set hlt r)
 ·cases e
variable{stf:D->R->Option R}{stfs:List (D->R->Option R)}
theorem bE:AY X [] []:=wM.imp fun v σ H Q ⟨ρ,τ,ds,ρ',er,r,e,q⟩=>by
 cases ds with
 | nil=>cases e;exact⟨r,q σ H (i9.refl H) er⟩
 | cons d ds=>cases e
theorem aF(h1:SG X e stf)(h2:AY X es stfs)(hs:(assignEach (e::es) X.env).map (·.2)=assign e X.env::(assignEach es X.env).map (·.2):=by rfl):AY X (e::es) (stf::stfs):=
 (vQ h1 h2 hs).imp fun v σ H Q ⟨ρ,τ,ds,ρ',er,r,e,q⟩=>by
  cases ds with
  | nil=>cases e
  | cons d ds =>
   obtain⟨v1,vr,rfl,r1,rr⟩:=r
   obtain⟨ρ1,e1,e⟩:=i5 e
   exact⟨v1,vr,rfl,ρ,τ,d,ρ1,er,r1,e1,fun σ1 H1 s1 er1=>⟨ρ1,τ,ds,ρ',er1,rr.mono s1,e,fun σ2 H2 s2 er2=>q σ2 H2 (s1.trans s2) er2⟩⟩
theorem pW:∀{fs:List (D->R->Option R)} {ds:LD} {ρ ρ':R},tj fs ds ρ=some ρ'->ds.length=fs.length
 | [],[],_,_,_=>rfl
 | [],_::_,_,_,e=>by cases e
 | _::_,[],_,_,e=>by cases e
 | f::fs,d::ds,_,_,e=>by
  obtain⟨_,_,e⟩:=i5 e
  simp[pW e]
theorem bQ{k}(hc:X.calm=true)(h:AY X es stfs)(hn:(assignEach es X.env).length=stfs.length:=by rfl)(hst:(assignEach es X.env).findIdx? (·.1)=none:=by rfl):SG X (.Tuple es k pos) (j6 stfs):=
 (iA hc h hn hst).imp fun v σ H Q ⟨ρ,τ,d,ρ',er,r,e,q⟩=>by
  cases d with
  | tup ds =>
   obtain⟨a,xs,e1,hq,t⟩:=r
   exact⟨a,xs,e1,hq,by rw[<- t.length];exact pW e,ρ,τ,ds,ρ',er,t,e,q⟩
  | _=>cases e
theorem ay{tg:Expr}(ha:SE X a f)(hg:SG X tg stf)(hs:swapsWithSole [tg] a pos.line X.env=pure false:=by rfl)(hw:swappedStores [tg] a X.env=pure none:=by rfl)(h1:(assignEach [tg] X.env).map (·.2)=[assign tg X.env]:=by rfl) :
  S1 X (.Assign [tg] a pos) (jr f stf):=(iB ha hg hs hw h1).imp fun E σ H ⟨ρ,τ,o,er,e,q⟩=>by
 obtain⟨x,e1,e⟩:=i5 e
 obtain⟨ρ',e2,e⟩:=jL e
 subst e
 exact⟨ρ,x,er.1,e1,fun v H1 s1 r1=>⟨ρ,τ,x,ρ',er.mono s1,r1,e2,fun σ2 H2 s2 er2=>q H2 (s1.trans s2) σ2 er2⟩⟩
theorem Kp.of{H H':Hp}(s:i9 H H'):Kp H H':=fun b u e _=>s b u e
theorem Kp.refl(H:Hp):Kp H H:=fun _ _ e _=>e
theorem Kp.seq{K:W.Frag}{H H':Hp}{a:Addr}{xs:List V}(s:Kp H H')(h:kN K H a xs):kN K H' a xs:=by
 rcases h with (h | ⟨o,h⟩) | h
 ·exact .inl (.inl (s _ _ h fun φ z=>nomatch z))
 ·exact .inl (.inr ⟨o,s _ _ h fun φ z=>nomatch z⟩)
 ·exact .inr h
theorem Kp.tup{K:W.Frag}{H H':Hp}{a:Addr}{xs:List V}(s:Kp H H')(h:kr K H a xs):kr K H' a xs:=by
 rcases h with (h | ⟨o,h⟩) | h
 ·exact .inl (.inl (s _ _ h fun φ z=>nomatch z))
 ·exact .inl (.inr ⟨o,s _ _ h fun φ z=>nomatch z⟩)
 ·exact .inr h
mutual
theorem Rep.kp{K:W.Frag}{H H':Hp}(s:Kp H H'):∀{d:D} {v:V},Rep K H d v->Rep K H' d v
 | .non,_,h=>h
 | .bl _,_,h=>h
 | .int _,_,h=>h
 | .str _,_,h=>h
 | .tup ds,_,h=>by
  obtain⟨a,xs,e,q,r⟩:=h
  exact⟨a,xs,e,s.tup q,i4.kp s r⟩
 | .lst ds,_,h=>by
  obtain⟨a,xs,e,q,r⟩:=h
  exact⟨a,xs,e,s _ _ q (fun φ z=>by cases z),i4.kp s r⟩
 | .fro ds,_,h=>by
  obtain⟨a,xs,e,q,r⟩:=h
  exact⟨a,xs,e,s.seq q,i4.kp s r⟩
 | .obj ..,_,h=>h
 | .dct ks ds,_,h=>by
  obtain⟨a,xs,e,q,r⟩:=h
  exact⟨a,xs,e,⟨q.1,let ⟨o,z⟩:=q.2;⟨o,s _ _ z (fun φ z=>by cases z)⟩⟩,i4.kp s r⟩
 | .dcp ks ds,_,h=>by
  obtain⟨a,kas,xs,e,q,r⟩:=h
  exact⟨a,kas,xs,e,q.to (fun _ _=>s.tup) fun o u z=>s _ _ z (fun φ z=>by cases z),i4.kp s r⟩
 | .cl t a ds,_,h=>by
  obtain⟨e,cl,xs,pm,ctv,c',h1,h2,h3,h4,r⟩:=h
  exact⟨e,cl,xs,pm,ctv,c',s _ _ h1 (fun φ z=>by cases z),s _ _ h2 (fun φ z=>by cases z),h3,h4.to fun b o z=>s _ _ z (fun φ z=>by cases z),i4.kp s r⟩
theorem i4.kp{K:W.Frag}{H H':Hp}(s:Kp H H'):∀{ds:LD} {vs:List V},i4 K H ds vs->i4 K H' ds vs
 | [],_,h=>h
 | d::ds,_,h=>by
  obtain⟨v,r,e,q,t⟩:=h
  exact⟨v,r,e,Rep.kp s q,i4.kp s t⟩
end
theorem jP.kp{K:W.Frag}{H H':Hp}{ρ:R}{σ:L2.St}(e:jP K H ρ σ)(s:Kp H H'):jP K H' ρ σ:=⟨e.1,fun i d h=>let ⟨v,a,b⟩:=e.2 i d h;⟨v,a,b.kp s⟩⟩
theorem jQ.kp{K:W.Frag}{H H':Hp}{ρ:R}{τ σ:L2.St}(e:jQ K H ρ τ σ)(s:Kp H H'):jQ K H' ρ τ σ:=⟨e.1.kp s,e.2⟩
theorem en{K:W.Frag}{H:Hp}{a:Addr}{ds:LD}{xs:List V}(hq:kN K H a xs)(t:i4 K H ds xs):kY K (Be K a) ds H:=by
 refine⟨fun i d H2 s2 e=>?_,fun i H2 s2 hl=>⟨xs,s2.seq hq,by rw[<- t.length];exact hl⟩⟩
 obtain⟨v,h1,h2⟩:=t.get e
 refine⟨⟨xs,v,s2.seq hq,h1⟩,fun x H3 ⟨e3,y⟩=>?_⟩
 subst e3
 have:=(y xs (s2.seq hq)).symm.trans h1
 cases this
 exact⟨i9.refl _,h2.kp s2⟩
theorem eJ{K:W.Frag}{H:Hp}{a:Addr}{ds:LD}{xs:List V}(hq:kr K H a xs)(t:i4 K H ds xs):kY K (Bq K a) ds H:=by
 refine⟨fun i d H2 s2 e=>?_,fun i H2 s2 hl=>⟨xs,s2.tup hq,by rw[<- t.length];exact hl⟩⟩
 obtain⟨v,h1,h2⟩:=t.get e
 refine⟨⟨xs,v,s2.tup hq,h1⟩,fun x H3 ⟨e3,y⟩=>?_⟩
 subst e3
 have:=(y xs (s2.tup hq)).symm.trans h1
 cases this
 exact⟨i9.refl _,h2.kp s2⟩
theorem wk{a b:Int}{i:Nat}{d:D}(e:(kx a b)[i]?=some d):i<(b - a).toNat/\d=.int (a+i):=by
 unfold kx at e
 rw[List.getElem?_map] at e
 obtain⟨k,e1,e⟩:=jL e
 obtain⟨h1,h2⟩:=List.getElem?_eq_some_iff.mp e1
 rw[List.length_range] at h1
 rw[List.getElem_range] at h2
 subst h2
 exact⟨h1,e.symm⟩
theorem eB{K:W.Frag}{H:Hp}{a b:Int}:kY K (A9 a (b - a).toNat) (kx a b) H:=by
 refine⟨fun i d H2 s2 e=>?_,fun i H2 s2 hl=>by
  have z:(kx a b).length=(b - a).toNat:=by simp[kx]
  rw[z] at hl
  exact hl⟩
 obtain⟨h1,rfl⟩:=wk e
 refine⟨h1,fun x H3 ⟨e3,y⟩=>?_⟩
 subst e3
 exact⟨i9.refl _,y⟩
def BX(K:PySem.W.Frag)(tl:TE):TI:=fun σ H W=>tl σ H fun x H1=>(∃a,x=.ref a/\(((∃xs,kN K H1 a xs)/\W (Be K a) H1)\/((∃xs,kr K H1 a xs)/\W (Bq K a) H1)))\/∃z,x=.str z/\z.cps.all (·<128)=true/\W (By z) H1
theorem eL{K:W.Frag}{H:Hp}{x:Str}:kY K (By x) (chars x) H:=by
 have hl:(chars x).length=x.cps.size:=by simp[chars]
 refine⟨fun i d H2 s2 e=>?_,fun i H2 s2 h=>by rw[hl] at h;exact h⟩
 have hi:i<x.cps.size:=by rw[<- hl];exact(List.getElem?_eq_some_iff.mp e).1
 refine⟨hi,fun v H3 ⟨e3,c,h1,h2⟩=>?_⟩
 subst e3
 refine⟨i9.refl _,?_⟩
 unfold chars at e
 rw[List.getElem?_map] at e
 obtain⟨c',e1,e⟩:=jL e
 have h1':x.cps.toList[i]?=some c:=by simpa using h1
 rw[h1'] at e1
 cases e1
 subst e
 exact h2
theorem iC{tg l:Expr}{tl:TE}(hl:PE X l tl):PI X tg l (BX X.K tl):=by
 intro pins s σ H W I h
 refine jC (hl pins s σ H _ I h) fun v s1 ⟨x,H1,I1,r1,q1⟩=>?_
 rcases q1 with ⟨a,e,q1⟩ | ⟨z,e,hz,q⟩
 rotate_left
 ·subst e
  obtain⟨t,rfl⟩:=r1
  refine wpAny_pyIter_ascii hz ?_
  refine⟨s1.heap.objs.size,[s1.heap.objs.size],_,_,H1,rfl,I1.kept (t':=s1.toks) fun b o e=>Heap.get?_push_of_some _ e,vx _ z t,⟨_,Heap.get?_push_size _ rfl,rfl,rfl⟩,fun b hb=>?_,q⟩
  have e:b=s1.heap.objs.size:=by simpa using hb
  subst e
  exact I1.fpOk (Nat.le_refl _) (I1.hok.fresh (Nat.le_refl _))
 subst e
 cases r1
 rcases q1 with ⟨⟨xs,hq⟩,q⟩ | ⟨⟨xs,hq⟩,q⟩
 ·obtain⟨its,rv,p,hz⟩:=I1.list hq
  refine wpAny_pyIter_list p.isList ?_
  refine⟨s1.heap.objs.size,[s1.heap.objs.size],_,_,H1,rfl,I1.kept (t':=s1.toks) fun b o e=>Heap.get?_push_of_some _ e,uN a _,⟨_,Heap.get?_push_size _ rfl,rfl,rfl⟩,fun b hb=>?_,q⟩
  have e:b=s1.heap.objs.size:=by simpa using hb
  subst e
  exact I1.fpOk (Nat.le_refl _) (I1.hok.fresh (Nat.le_refl _))
 ·obtain⟨its,rv,p,hz⟩:=I1.tuple hq
  refine wpAny_pyIter_tuple (show s1.heap.IsTuple a its.toArray from p) ?_
  refine⟨s1.heap.objs.size,[s1.heap.objs.size],_,_,H1,rfl,I1.kept (t':=s1.toks) fun b o e=>Heap.get?_push_of_some _ e,sv a _,⟨_,Heap.get?_push_size _ rfl,rfl,rfl⟩,fun b hb=>?_,q⟩
  have e:b=s1.heap.objs.size:=by simpa using hb
  subst e
  exact I1.fpOk (Nat.le_refl _) (I1.hok.fresh (Nat.le_refl _))
theorem ci{tg:Expr}(ha:SE X a f):SI X tg a (ku f):=(iC ha).imp fun σ H W ⟨ρ,ds,er,e,q⟩=>by
 obtain⟨x,e1,e⟩:=i5 e
 refine⟨ρ,x,er,e1,fun v H1 s1 r1=>?_⟩
 cases x with
 | tup xs =>
  cases e
  obtain⟨a,vs,ev,hq,t⟩:=r1
  exact .inl ⟨a,ev,.inr ⟨⟨vs,hq⟩,q _ H1 s1 (eJ hq t)⟩⟩
 | lst xs =>
  cases e
  obtain⟨a,vs,ev,hq,t⟩:=r1
  exact .inl ⟨a,ev,.inl ⟨⟨vs,kN.of hq⟩,q _ H1 s1 (en (kN.of hq) t)⟩⟩
 | str z =>
  dsimp only at e
  split at e
  ·rename_i hz
   cases e
   cases (show v=_ from r1)
   exact .inr ⟨z,rfl,hz,q _ H1 s1 eL⟩
  ·cases e
 | _=>cases e
theorem cL{tg:Expr}(hm:X.mg "range" = none)(ha:SE X a f)(hg:Gl X "range":=by rfl)(hs:noStar a=true:=by rfl):SI X tg (.Call (.Name "range" p) [a] [] pos) (kQ f):=
 (fF hg hm (ac ha af hs).1 (av [] X.env hs)).imp fun σ H W ⟨ρ,ds,er,e,q⟩=>by
  obtain⟨x,e1,e⟩:=i5 e
  cases x with
  | int j =>
   dsimp only at e
   split at e
   ·rename_i hj
    cases e
    refine⟨ρ,[.int j],er,by show(f ρ).bind _=_;rw[e1];rfl,fun vs H1 s1 r1=>?_⟩
    obtain⟨v,r,rfl,r2,r3⟩:=r1
    cases (show v=_ from r2)
    cases (show r=_ from r3)
    refine⟨j,rfl,hj.1,hj.2,q _ H1 s1 ?_⟩
    have z:=eB (K:=X.K) (H:=H1) (a:=0) (b:=j)
    rw[Int.sub_zero] at z
    exact z
   ·cases e
  | _=>cases e
theorem fZ{tg iter:Expr}{B:List Stmt}{it:R->Option LD}(hp:PassesOwn (model X.prog X.w) X.A X.env X.xe)(hc:X.calm=true)(hi:SI X tg iter it)(hg:SG X tg stf)(hb:SS X B u)
  (hs:∀x,foldedSetIterable iter X.env x=pure x:=by intro _;rfl):S1 X (.For tg iter B [] pos) (nG it stf u):=(dv hp hc hi hg hb hs).imp fun E σ H ⟨ρ,τ,o,er,e,q⟩=>by
 obtain⟨ds,e1,e⟩:=i5 e
 refine⟨ρ,ds,er.1,e1,fun J H1 s1 y=>?_⟩
 refine⟨fun i m σ' H'=>m=ds.length - i/\i<=ds.length/\i9 H1 H'/\∃ ρ',jQ X.K H' ρ' τ σ'/\qC stf u (ds.drop i) ρ'=some o,⟨ds.length,by simp,Nat.zero_le _,i9.refl _,ρ,er.mono s1,by simpa using e⟩,?_⟩
 rintro i m σ' H' ⟨rfl,hi,s2,ρ',er',e'⟩
 by_cases hlt:i<ds.length
 ·refine .inr ?_
  have hd:ds[i]?=some ds[i]:=by simp[hlt]
  obtain⟨hgo,hy⟩:=y.1 i ds[i] H' (Kp.of s2) hd
  rw[List.drop_eq_getElem_cons hlt] at e'
  obtain⟨ρ1,e2,e'⟩:=i5 e'
  obtain⟨o1,e3,e'⟩:=i5 e'
  refine⟨hgo,fun σ2 H2=>i+1<=ds.length/\i9 H1 H2/\∃ ρ',jQ X.K H2 ρ' τ σ2/\qC stf u (ds.drop (i+1)) ρ'=some o,fun σ2 H2 n2=>⟨ds.length - (i+1),by omega,rfl,n2.1,n2.2⟩,fun x H3 yx=>?_⟩
  obtain⟨s3,rx⟩:=hy x H3 yx
  refine⟨ρ',τ,ds[i],ρ1,er'.mono s3,rx,e2,fun σ4 H4 s4 er4=>⟨ρ1,τ,o1,er4,e3,fun H5 s5=>?_⟩⟩
  have s15:i9 H1 H5:=s2.trans (s3.trans (s4.trans s5))
  cases o1 with
  | nx ρ2=>exact fun σ6 er6=>⟨hlt,s15,ρ2,er6,e'⟩
  | ct ρ2=>exact fun σ6 er6=>⟨hlt,s15,ρ2,er6,e'⟩
  | bk ρ2=>cases e';exact fun σ6 er6=>q H5 (s1.trans s15) σ6 er6
  | rt d=>cases e';exact q H5 (s1.trans s15)
 ·have e4:i=ds.length:=by omega
  subst e4
  rw[List.drop_length] at e'
  cases e'
  exact .inl ⟨y.2 _ H' (Kp.of s2) (Nat.le_refl _),q H' (s1.trans s2) σ' er'⟩
end
theorem nZ{K:W.Frag}{H:Hp}{N:List Str}{ds:LD}{vs:List V}(r:i4 K H ds vs):jP K H (pQ N.length ds) (L2.start N vs):=by
 unfold pQ L2.start
 refine⟨by simp[r.length],fun i d h=>?_⟩
 by_cases hi:i<ds.length
 ·rw[List.getElem?_append_left (by simpa using hi),List.getElem?_map] at h
  obtain⟨d',e1,e⟩:=jL h
  cases e
  obtain⟨v,h1,h2⟩:=r.get e1
  exact⟨v,by rw[List.getElem?_append_left (by rw[List.length_map,<- r.length];exact hi),List.getElem?_map,h1];rfl,h2⟩
 ·rw[List.getElem?_append_right (by simpa using hi),List.getElem?_replicate] at h
  split at h<;>cases h
theorem gb{P:Program}{w:World}{K:W.Frag}{mg:Str->Option Value}{base:Heap}{x qual:Str}{st:Stmt}{f:Addr}{fd:FuncData}{N ps:List Str}{k:Nat}{F:LD->OD}{g:R->Option Out}
  (Fn:ng K x qual st f fd) (S:jm N ps (i7 st)) (hlen:∀ds d,F ds=some d->ds.length=ps.length)
  (hb:∀(cdv:Value) (A:Around) (outer:List Env) (s:Shared) (H:Hp) (E:XK),jy k (A.deeper (envOfC qual (i7 st) s.heap.objs.size f cdv))->SS (nN kK P w K mg base N qual (i7 st) f cdv A outer s H E).nox (jE st) g)
  (hF:∀ds d,F ds=some d->jK (g (pQ N.length ds))=some d):jx P w K mg base kK (k+1) f fd ps (pS K F):=by
 refine Fn.ok S (fun vs H Q E h=>?_) (fun cdv A outer s H vs Q E hr h=>?_)
 ·obtain⟨ds,d,r,e,_⟩:=h
  rw[<- r.length]
  exact hlen ds d e
 ·obtain⟨ds,d,r,e,q⟩:=h
  refine⟨_,hb cdv A outer s H E hr,?_⟩
  have z:=hF ds d e
  cases ho:g (pQ N.length ds) with
  | none=>rw[ho] at z;cases z
  | some o =>
   rw[ho] at z
   refine⟨pQ N.length ds,_,o,(nZ r).t,ho,fun H1 s1=>?_⟩
   cases o with
   | rt d'=>cases (show d'=d from Option.some.inj z);exact fun v rv=>q v H1 s1 rv
   | nx ρ=>cases (show D.non=d from Option.some.inj z);exact fun σ _=>q .non H1 s1 rfl
   | bk ρ=>cases z
   | ct ρ=>cases z
theorem aU{P:Program}{w:World}{K:W.Frag}{mg:Str->Option Value}{base:Heap}{x qual:Str}{st:Stmt}{f:Addr}{fd:FuncData}{N ps:List Str}{k:Nat}{n m:Nat}{g:R->Option Out}
  (Fn:ng K x qual st f fd) (S:jm N ps (i7 st))
  (hb:∀(cdv:Value) (A:Around) (outer:List Env) (s:Shared) (H:Hp) (E:XK),jy k (A.deeper (envOfC qual (i7 st) s.heap.objs.size f cdv))->SS (nN kK P w K mg base N qual (i7 st) f cdv A outer s H E).nox (jE st) g)
  (h1:n=ps.length:=by rfl) (h2:m=N.length:=by rfl):jx P w K mg base kK (k+1) f fd ps (pS K (via n m g)):=by
 subst h1 h2
 exact gb Fn S (fun _ _ h=>cJ h) hb fun _ _ h=>fh h
theorem ba{P:Program}{w:World}{K:W.Frag}{mg:Str->Option Value}{base:Heap}{x qual:Str}{st:Stmt}{f:Addr}{fd:FuncData}{ps:List Str}{k:Nat}{F:LD->OD}(Fn:ng K x qual st f fd)(hm:mg x=some (.ref f))
  (hb:Binds K fd ps []) (h:jx P w K mg base kK k f fd ps (pS K F)):lg P w K mg base k x ps F:=⟨f,fd,h,hm,Fn.kp,hb⟩
section
variable{X:Cx}
theorem vv{prog:Program}{w:World}{A:Around}{E:Value->Shared->Prop}{s:Shared}{t b:Addr}{ws:List Value}{Q:Value->Shared->Prop}(ht:IsTup s.heap t ([]:List Value).toArray)(hb:IsTup s.heap b ws.toArray)
  (h:Q (.ref b) s):wpAny (model prog w) A (binaryOp .Add (.ref t) (.ref b)) Q E s:=by
 obtain⟨⟨cls,dd,data,sl⟩,ho,hc,n,hd⟩:=id ht
 obtain⟨⟨cls2,dd2,data2,u9⟩,ho2,hc2,n2,hd2⟩:=id hb
 simp only at hc hd hc2 hd2
 subst hc hd hc2 hd2
 exact concat_meets ⟨_,ho,rfl⟩ ⟨_,ho2,rfl⟩ noFill_tuple_add seq_tuple_add PySem.F.slot_tuple_add PySem.F.entry_tuple_add (PySem.F.args_tuple_add_2 _ _)
  (tuple_addW0 t b ([]:List Value).toArray ws.toArray n n2 dd dd2 sl u9 (by simp)) ⟨ho,ho2,h⟩
theorem lD{K:W.Frag}{H:Hp}{d:D}{v:V}{i:Int}(e:nI d=some i)(r:Rep K H d v):v=.int i:=by
 cases d<;>cases e
 exact r
theorem zV{K:W.Frag}{H:Hp}{d:D}{v:V}{xs:LD}(e:tI d=some xs)(r:Rep K H d v):Rep K H (.tup xs) v:=by
 cases d<;>cases e
 exact r
theorem AM{K:W.Frag}{H:Hp}{d:D}{v:V}{xs:LD}(e:lI d=some xs)(r:Rep K H d v):Rep K H (.lst xs) v:=by
 cases d<;>cases e
 exact r
theorem tm{K:W.Frag}{H:Hp}{d:D}{v:V}{x:Str}(e:sI d=some x)(r:Rep K H d v):v=.str x:=by
 cases d<;>cases e
 exact r
theorem yl{K:W.Frag}{H:Hp}{d:D}{v:V}{x:Bool}(e:bO d=some x)(r:Rep K H d v):v=.bl x:=by
 cases d<;>cases e
 exact r
theorem sw{α:Type}{p:Prop}[Decidable p]{x y:α}(h:(if p then some x else none)=some y):p/\x=y:=by
 split at h
 ·rename_i hp;exact⟨hp,Option.some.inj h⟩
 ·cases h
theorem aG:zJ X (binaryOp .Add) jD:=by
 intro pins s σ H x y v u Q I rx ry h
 obtain⟨dx,dy,d,r1,r2,e,q⟩:=h
 cases dx with
 | int i =>
  obtain⟨j,e1,rfl⟩:=jL e
  exact y1 pins s σ H x y v u Q I rx ry ⟨i,j,r1,lD e1 r2,q _ H (i9.refl H) rfl⟩
 | tup xs =>
  obtain⟨ys,e1,e⟩:=i5 e
  obtain⟨hz,rfl⟩:=sw e
  obtain⟨a,vs,rfl,hq,t⟩:=r1
  obtain⟨b,us,rfl,hq2,t2⟩:=zV e1 r2
  cases vs with
  | nil =>
   cases rx
   cases ry
   obtain⟨its,rr1,p1,_⟩:=I.tuple hq
   obtain⟨its2,rr2,p2,_⟩:=I.tuple hq2
   cases rr1
   refine vv p1 p2 ⟨.ref b,H,I,rfl,q _ H (i9.refl H) ⟨b,us,rfl,hq2,?_⟩⟩
   cases xs with
   | nil=>exact t2
   | cons x r=>obtain⟨_,_,z,_⟩:=t;cases z
  | cons v0 vr =>
   refine wG pins s σ H _ _ v u Q I rx ry ⟨a,b,v0::vr,us,rfl,rfl,hq,hq2,by simp,by rw[<- t.length,<- t2.length];exact hz,fun z=>?_,fun z p hp=>?_⟩
   ·subst z
    refine q _ H (i9.refl H) ⟨a,v0::vr,rfl,hq,?_⟩
    have:ys=[]:=List.length_eq_zero_iff.mp t2.length
    subst this
    rw[List.append_nil]
    exact t
   ·have s2:=aM hp (.tup (v0::vr++us))
    exact q _ _ s2 ⟨p,_,rfl,kr.of ae,(t.append t2).mono s2⟩
 | lst xs =>
  obtain⟨ys,e1,e⟩:=i5 e
  obtain⟨hz,rfl⟩:=sw e
  obtain⟨a,vs,rfl,hq,t⟩:=r1
  obtain⟨b,us,rfl,hq2,t2⟩:=AM e1 r2
  refine yF pins s σ H _ _ v u Q I rx ry ⟨a,b,vs,us,rfl,rfl,hq,hq2,by rw[<- t.length,<- t2.length];exact hz,fun p hp=>?_⟩
  have s2:=aM hp (.lst (vs++us))
  exact q _ _ s2 ⟨p,_,rfl,ae,(t.append t2).mono s2⟩
 | str a =>
  obtain⟨b,e1,e⟩:=i5 e
  obtain⟨hz,rfl⟩:=sw e
  exact sA pins s σ H x y v u Q I rx ry ⟨a,b,r1,tm e1 r2,hz,q _ H (i9.refl H) rfl⟩
 | _=>cases e
theorem bM:zJ X (binaryOp .Mult) qj:=by
 intro pins s σ H x y v u Q I rx ry h
 obtain⟨dx,dy,d,r1,r2,e,q⟩:=h
 obtain⟨i,e1,e⟩:=i5 e
 obtain⟨j,e2,e⟩:=i5 e
 obtain⟨hz,rfl⟩:=sw e
 refine zE pins s σ H x y v u Q I rx ry ⟨i,j,lD e1 r1,lD e2 r2,?_,q _ H (i9.refl H) rfl⟩
 unfold jO at hz
 rw[Bool.or_eq_true,Bool.and_eq_true,Bool.and_eq_true] at hz
 exact hz.imp (fun z=>⟨of_decide_eq_true z.1,of_decide_eq_true z.2⟩) fun z=>⟨of_decide_eq_true z.1,of_decide_eq_true z.2⟩
theorem bb:zJ X (binaryOp .FloorDiv) j7:=by
 intro pins s σ H x y v u Q I rx ry h
 obtain⟨dx,dy,d,r1,r2,e,q⟩:=h
 obtain⟨i,e1,e⟩:=i5 e
 obtain⟨j,e2,e⟩:=i5 e
 obtain⟨hz,rfl⟩:=sw e
 exact w5 pins s σ H x y v u Q I rx ry ⟨i,j,lD e1 r1,lD e2 r2,hz,q _ H (i9.refl H) rfl⟩
theorem aI:zJ X (binaryOp .Mod) jz:=by
 intro pins s σ H x y v u Q I rx ry h
 obtain⟨dx,dy,d,r1,r2,e,q⟩:=h
 obtain⟨i,e1,e⟩:=i5 e
 obtain⟨j,e2,e⟩:=i5 e
 obtain⟨hz,rfl⟩:=sw e
 exact yC pins s σ H x y v u Q I rx ry ⟨i,j,lD e1 r1,lD e2 r2,hz,q _ H (i9.refl H) rfl⟩
theorem B5{op:CmpOp}{p:Int->Int->Bool}{F:D->D->Option Bool}(ho:OpR X (compareOp op) (zN fun i j=>.bl (p i j)))(hF:∀x y,F x y=(nI x).bind fun i=>(nI y).map fun j=>p i j):v9 X op F:=by
 intro pins s σ H x y v u Q I rx ry h
 obtain⟨dx,dy,b,r1,r2,e,q⟩:=h
 rw[hF] at e
 obtain⟨i,e1,e⟩:=i5 e
 obtain⟨j,e2,rfl⟩:=jL e
 exact ho pins s σ H x y v u Q I rx ry ⟨i,j,lD e1 r1,lD e2 r2,q⟩
theorem iW:v9 X .Lt B_:=B5 Am fun _ _=>rfl
theorem iY:v9 X .Gt A2:=B5 Av fun _ _=>rfl
theorem uH{K:W.Frag}{H:Hp}{d:D}{v:V}{ys:LD}(r:Rep K H d v)(e:uV d=some ys):∃p xs,v=.ref p/\(kN K H p xs\/kr K H p xs)/\i4 K H ys xs:=by
 cases d with
 | tup ds=>cases e;obtain⟨a,xs,rfl,q,t⟩:=r;exact⟨a,xs,rfl,.inr q,t⟩
 | lst ds=>cases e;obtain⟨a,xs,rfl,q,t⟩:=r;exact⟨a,xs,rfl,.inl (kN.of q),t⟩
 | fro ds=>cases e;obtain⟨a,xs,rfl,q,t⟩:=r;exact⟨a,xs,rfl,.inl q,t⟩
 | _=>cases e
theorem qQ{K:W.Frag}{H:Hp}{d:D}{v:V}(r:Rep K H d v):xg d=decide (v=.non):=by
 cases d with
 | tup c=>obtain⟨_,_,rfl,_⟩:=r;rfl
 | lst c=>obtain⟨_,_,rfl,_⟩:=r;rfl
 | fro c=>obtain⟨_,_,rfl,_⟩:=r;rfl
 | obj k a ks ds=>cases (show v=_ from r);rfl
 | dct ks ds=>obtain⟨_,_,rfl,_⟩:=r;rfl
 | dcp ks ds=>obtain⟨_,_,_,rfl,_⟩:=r;rfl
 | cl t a ds=>obtain⟨rfl,_⟩:=r;rfl
 | _=>cases (show v=_ from r);rfl
theorem xJ{K:W.Frag}{H:Hp}{d:D}{v:V}(r:Rep K H d v)(h:xg d=true):v=.non:=by
 rw[qQ r] at h
 exact of_decide_eq_true h
theorem ej:v9 X .Is rA:=by
 intro pins s σ H x y v u Q I rx ry h
 obtain⟨dx,dy,b,r1,r2,e,q⟩:=h
 obtain⟨h1,rfl⟩:=sw e
 exact zA pins s σ H x y v u Q I rx ry ⟨xJ r2 h1,by rw[<- qQ r1];exact q⟩
theorem cR:Bb X (.builtin "len") nL:=qv.imp fun xs H Q ⟨ds,d,r,e,q⟩=>by
 match ds,e with
 | [x],e =>
  obtain⟨ys,e1,e2⟩:=jL e
  subst e2
  obtain⟨v,r',rfl,r1,r2⟩:=r
  cases (show r'=[] from r2)
  obtain⟨p,vs,rfl,hq,t⟩:=uH r1 e1
  exact⟨p,vs,rfl,hq,q _ H (i9.refl H) (by show V.int _=V.int _;rw[t.length])⟩
theorem yq{pins:List (Addr×Obj)}{σ:L2.St}{H:Hp}{s:Shared}{Q:Value->Shared->Prop}{E:Value->Shared->Prop}{d:D}{x:V}{u:Value}{n:String}(I:L2.Inv X pins σ H s)(rx:RelV x u)(r:Rep X.K H d x)(ho:wN d=false)
  (e:W.kitOne X.K (.type (wX d)) (.type n)=some (yh d n)) (h:∀tk,Q (.bool (yh d n)) {s with toks:=tk}):wpAny (model X.prog X.w) X.A (call (.builtin "isinstance") [u,.type n]) Q E s:=by
 cases d with
 | non=>cases (show x=_ from r);cases rx;exact W.kia_one W.kitx_none I.kIn True.intro e (fun z=>nomatch z) h
 | bl y=>cases (show x=_ from r);cases rx;exact W.kia_one W.kitx_bool I.kIn True.intro e (fun z=>nomatch z) h
 | int i=>cases (show x=_ from r);obtain⟨t,rfl⟩:=rx;exact W.kia_one W.kitx_int I.kIn True.intro e (fun z=>nomatch z) h
 | str y=>cases (show x=_ from r);obtain⟨t,rfl⟩:=rx;exact W.kia_one W.kitx_str I.kIn True.intro e (fun z=>nomatch z) h
 | tup ds =>
  obtain⟨a,vs,rfl,hq,t⟩:=r
  cases rx
  obtain⟨its,_,⟨o,h1,h2,_⟩,_⟩:=I.tuple hq
  exact W.kia_one W.kitx_tuple I.kIn ⟨o,h1,h2⟩ e (fun z=>nomatch z) h
 | lst ds =>
  obtain⟨a,vs,rfl,hq,t⟩:=r
  cases rx
  obtain⟨_,_,n,_,_,h1⟩:=I.lstM hq
  exact W.kia_one W.kitx_list I.kIn ⟨_,h1,rfl⟩ e (fun z=>nomatch z) h
 | fro ds =>
  obtain⟨a,vs,rfl,hq,t⟩:=r
  cases rx
  obtain⟨its,_,⟨o,n,h1,h2,h3,h4⟩,_⟩:=I.list hq
  exact W.kia_one W.kitx_list I.kIn ⟨o,h1,h2⟩ e (fun z=>nomatch z) h
 | obj k a ks ds=>cases ho
 | cl t a ds =>
  obtain⟨rfl,cl,xs,pm,ctv,c',h1,_⟩:=r
  cases rx
  exact W.kia_one xO I.kIn ⟨_,(I.hok a _ h1).1,rfl⟩ e (fun z=>nomatch z) h
 | dct ks ds =>
  obtain⟨a,vs,rfl,⟨_,_,hq⟩,t⟩:=r
  cases rx
  obtain⟨_,_,vs',_,p⟩:=(show jJ X.prog X.w H s.heap a (.dK (ks.zip vs)) from(I.hok a _ hq).2)
  obtain⟨o,es,ep,h1,h2,_⟩:=p
  exact W.kia_one W.kitx_dict I.kIn ⟨o,h1,h2.1⟩ e (fun z=>nomatch z) h
 | dcp ks ds =>
  obtain⟨a,kas,vs,rfl,⟨_,o,_,_,hq,_,_,_,_,_,hx,_⟩,t⟩:=r
  cases rx
  exact W.kia_one W.kitx_dict I.kIn ⟨o,(I.hok a _ hq).1,hx.1⟩ e (fun z=>nomatch z) h
def oX(K:W.Frag)(n:String):Prop:=∀d:D,wN d=false->W.kitOne K (.type (wX d)) (.type n)=some (yh d n)
theorem wQ(K:W.Frag):oX K "int":=fun d h=>by cases d<;>first | rfl | cases h
theorem vG(K:W.Frag):oX K "bool":=fun d h=>by cases d<;>first | rfl | cases h
theorem xp(K:W.Frag):oX K "str":=fun d h=>by cases d<;>first | rfl | cases h
theorem kit_tuple(K:W.Frag):oX K "tuple":=fun d h=>by cases d<;>first | rfl | cases h
theorem vq(K:W.Frag):oX K "list":=fun d h=>by cases d<;>first | rfl | cases h
theorem isi_call{n:String}(hk:oX X.K n):CallR X (.builtin "isinstance") (fun xs H Q=>∃d x,xs=[x,.ty n]/\Rep X.K H d x/\wN d=false/\Q (.bl (yh d n)) H):=by
 intro pins s σ H xs us Q I r h
 obtain⟨d,x,rfl,rd,ho,q⟩:=h
 obtain⟨u,w',rfl,ru,rw'⟩:=vals2 r
 cases rw'
 exact yq I ru rd ho (hk d ho) fun tk=>⟨.bl (yh d n),H,I.tok tk,rfl,q⟩
theorem fD{n:String}{x:Str}{a:Expr}{f:R->OD}{p p2 pos:Pos}(hm:X.mg "isinstance" = none)(hmT:X.mg x=none)(ha:SE X a f)(hk:oX X.K n:=by first | exact wQ _ | exact vG _ | exact xp _ | exact kit_tuple _ | exact vq _)(hv:bootBuiltins x=some (.type n):=by kernel_rfl)
  (hg:Gl X "isinstance":=by rfl) (hgT:Gl X x:=by rfl) (hn:x ≠ "__name__":=by decide) (hd:(x==("__debug__" : Str))=false:=by decide)
  (hst:noStar a=true:=by rfl) (hv2:bootBuiltins "isinstance" = some (.builtin "isinstance"):=by kernel_rfl) :
  SE X (.Call (.Name "isinstance" p) [a,.Name x p2] [] pos) (Cg n f):=
 (dX (isi_call hk) hg hm hv2 (ca ha (ca (gN (v:=.ty n) hgT hmT hv rfl hn hd) sd) (av [.Name x p2] X.env hst)) (by decide) (by decide) (av [.Name x p2] X.env hst) rfl).imp fun σ H Q ⟨ρ,d,er,e,q⟩=>by
  obtain⟨y,e1,e2⟩:=i5 e
  split at e2
  ·cases e2
  ·rename_i ho
   cases e2
   exact⟨ρ,y,er,e1,fun v H1 s1 r1=>⟨y,v,rfl,r1,by simpa using ho,q _ H1 s1 rfl⟩⟩
theorem dh{k:Nat}(hr:jy k X.A):v9 X .Eq ql:=by
 intro pins s σ H x y v u Q I rx ry h
 obtain⟨dx,dy,b,r1,r2,e,q⟩:=h
 have sc:xj x y=true->decide (x=y)=b->wpAny (model X.prog X.w) X.A (compareOp .Eq v u) (EP X pins σ Q) X.xe s:=fun z1 z2=>Aj pins s σ H x y v u Q I rx ry ⟨z1,by rw[z2];exact q⟩
 cases dx with
 | int i=>obtain⟨j,e1,e⟩:=jL e;cases (show x=_ from r1);cases lD e1 r2;exact sc rfl (nQ.trans e)
 | str i=>obtain⟨j,e1,e⟩:=jL e;cases (show x=_ from r1);cases tm e1 r2;exact sc rfl (n8.trans e)
 | bl i=>obtain⟨j,e1,e⟩:=jL e;cases (show x=_ from r1);cases yl e1 r2;exact sc rfl (qe.trans e)
 | _=>cases e
theorem em{k:Nat}(hr:jy k X.A):v9 X .NotEq uK:=by
 intro pins s σ H x y v u Q I rx ry h
 obtain⟨dx,dy,b,r1,r2,e0,q⟩:=h
 obtain⟨c,e,rfl⟩:=jL e0
 clear e0
 have sc:xj x y=true->decide (x=y)=c->wpAny (model X.prog X.w) X.A (compareOp .NotEq v u) (EP X pins σ Q) X.xe s:=fun z1 z2=>Ac pins s σ H x y v u Q I rx ry ⟨z1,by rw[z2];exact q⟩
 cases dx with
 | int i=>obtain⟨j,e1,e⟩:=jL e;cases (show x=_ from r1);cases lD e1 r2;exact sc rfl (nQ.trans e)
 | str i=>obtain⟨j,e1,e⟩:=jL e;cases (show x=_ from r1);cases tm e1 r2;exact sc rfl (n8.trans e)
 | bl i=>obtain⟨j,e1,e⟩:=jL e;cases (show x=_ from r1);cases yl e1 r2;exact sc rfl (qe.trans e)
 | _=>cases e
variable{a:Expr}{f:R->OD}{pos p2:Pos}{lo hi:Option Expr}{l h:R->Option (Option Int)}
theorem aX:SO X none my:=xN.imp fun σ H Q ⟨ρ,o,er,e,q⟩=>by
 cases e
 exact q H (i9.refl H)
theorem aV(ha:SE X a f):SO X (some a) (aP f):=(xG ha).imp fun σ H Q ⟨ρ,o,er,e,q⟩=>by
 obtain⟨x,e1,e2⟩:=i5 e
 refine⟨ρ,x,er,e1,fun v H1 s1 r1=>?_⟩
 cases x with
 | int i=>cases e2;exact⟨i,r1,q H1 s1⟩
 | _=>cases e2
theorem ua(n d:Nat)(o:Option Int):uF n d o=HT.sIx n d o:=rfl
theorem pe{prog:Program}{w:World}{A:Around}{E:Value->Shared->Prop}{s:Shared}{t sl:Addr}{items:Array Value}{vl vu:Value}{lo hi:Option Int}{Q:Value->Shared->Prop}(ht:IsTup s.heap t items)(hs:s.heap.IsSliceOf sl vl vu .none)(pl:IsPart vl lo)(pu:IsPart vu hi)
  (hw:HT.sIx items.size 0 lo=0/\HT.sIx items.size items.size hi=items.size) (h:Q (.ref t) s):wpAny (model prog w) A (getItem (.ref t) (.ref sl)) Q E s:=by
 obtain⟨os,hos,hcs,hds⟩:=id hs
 have hTs:s.TypeIs (.ref sl) "slice":=⟨os,hos,hcs⟩
 unfold getItem
 try with_reducible refine wpAny_holding ?_
 first | refine wpAny_bind (wpAny_pure ?_) | skip
 refine wpAny_bind (wpAny_sequenceKey ht.typeIs (by decide) ?_)
 refine wpAny_bind (wpAny_callSpecial?_slot (name:=oS "__getitem__") ht.typeIs PyProof.Rows.slot_tuple_getitem
  (wpAny_call_entry PyProof.Rows.slot_tuple_getitem ht.typeIs entry_tuple_getitem ?_ (args_tuple_getitem _ _)))
 show wpAny _ _ (Builtin.Tuple.tupleItemsOf (.ref t) >>= _) _ _ s
 refine wpAny_bind (tupleItemsOf_ ht ?_)
 refine wpAny_bind (wpAny_typeOf hTs ?_)
 rw[if_pos (by decide)]
 refine wpAny_bind (HT.sliceApplied_gen hs pl pu ?_)
 have hyes:((((HT.sIx items.size 0 lo:Nat):Int)==0&&(1:Int)==1&&(HT.sIx items.size items.size hi - HT.sIx items.size 0 lo)==items.size)=true):=by
  rw[hw.1,hw.2];simp
 show wpAny _ _ (if (((HT.sIx items.size 0 lo:Nat):Int)==0&&(1:Int)==1&&(HT.sIx items.size items.size hi - HT.sIx items.size 0 lo)==items.size)=true then _ else _) _ _ s
 rw[if_pos hyes]
 refine wpAny_bind (m:=Builtin.Tuple.tupleIsExact _) (wpAny_bind (wpAny_typeOf ht.typeIs (wpAny_pure ?_)))
 rw[if_pos (by decide)]
 exact wpAny_bind (wpAny_rule (wpAny_pure ⟨_,rfl,wpAny_pure h⟩))
theorem sf{xs:List V}{lo hi:Option Int}(h:HT.sIx xs.length 0 lo=0/\HT.sIx xs.length xs.length hi=xs.length):nJ xs lo hi=xs:=by
 unfold nJ
 rw[h.1,h.2,List.drop_zero,Nat.sub_zero,List.take_length]
def Ba(K:W.Frag):V->Option Int->Option Int->Hp->VK->Prop:=fun x lo hi H Q=>∃a xs,x=.ref a/\kr K H a xs/\∀p H',i9 H H'->kr K H' p (nJ xs lo hi)->Q (.ref p) H'
theorem yU:xZ X (Ba X.K):=by
 intro pins s σ H x v vl vu lo hi sl Q I rx hs pl pu h
 obtain⟨a,xs,rfl,hx,q⟩:=h
 by_cases hw:HT.sIx xs.length 0 lo=0/\HT.sIx xs.length xs.length hi=xs.length
 ·cases rx
  obtain⟨its,r,ht,hz⟩:=I.tuple hx
  have hlen:its.toArray.size=xs.length:=by rw[List.size_toArray];exact r.length.symm
  refine⟨"tuple",_,PyProof.Rows.slot_tuple_getitem.lookup,ht.typeIs,?_⟩
  exact pe ht hs pl pu (by rw[hlen];exact hw) ⟨.ref a,H,I,rfl,q a H (i9.refl H) (by rw[sf hw];exact hx)⟩
 ·exact zm pins s σ H (.ref a) v vl vu lo hi sl Q I rx hs pl pu ⟨a,xs,rfl,hx,hw,fun p hp=>q p _ (aM hp _) (kr.of ae)⟩
theorem eX{K:W.Frag}{H:Hp}{ds:LD}{xs:List V}(t:i4 K H ds xs)(lo hi:Option Int):i4 K H (cutD ds lo hi) (nJ xs lo hi):=by
 unfold cutD nJ
 rw[t.length,ua,ua]
 exact(t.drop _).take _
theorem aN(ha:SE X a f)(hl:SO X lo l)(hh:SO X hi h):SE X (.Subscript a (.Slice lo hi none p2) pos) (mw f l h):=(fY (yU.or wB) ha hl hh).imp fun σ H Q ⟨ρ,d,er,e,q⟩=>by
 obtain⟨x,e1,e⟩:=i5 e
 obtain⟨o1,e2,e⟩:=i5 e
 obtain⟨o2,e3,e⟩:=i5 e
 refine⟨ρ,x,er,e1,fun v H1 s1 r1=>⟨ρ,o1,er.mono s1,e2,fun H2 s2=>⟨ρ,o2,er.mono (s1.trans s2),e3,fun H3 s3=>?_⟩⟩⟩
 cases x with
 | tup xs =>
  cases e
  obtain⟨a,vs,rfl,hq,t⟩:=(r1.mono (s2.trans s3))
  exact .inl ⟨a,vs,rfl,hq,fun p H4 s4 sq=>q _ H4 (s1.trans (s2.trans (s3.trans s4))) ⟨p,_,rfl,sq,(eX t o1 o2).mono s4⟩⟩
 | lst xs =>
  cases e
  obtain⟨a,vs,rfl,hq,t⟩:=(r1.mono (s2.trans s3))
  refine .inr ⟨a,vs,rfl,kN.of hq,fun p hp=>?_⟩
  have s4:=aM hp (.lst (nJ vs o1 o2))
  exact q _ _ (s1.trans (s2.trans (s3.trans s4))) ⟨p,_,rfl,ae,(eX t o1 o2).mono s4⟩
 | _=>cases e
end
set_option maxHeartbeats 2000000
def ko(names:List (Str×NameKind))(cells:List (Str×Addr))(acc:List (Str×Addr)):List (Str×Addr):=
 match names with
 | []=>acc
 | (n,k)::r=>ko r cells (if k==.free then (match cells.lookup n with | some c=>(n,c)::acc | none=>acc) else acc)
theorem mr {env:Env}:∀ (names:List (Str×NameKind)) (acc:List (Str×Addr)),(∀ p∈names,p.2=.free->∃ c,env.cells.lookup p.1=some c) ->
    (forIn names acc fun x r=>(match x with
      | (name,kind)=>if (kind==NameKind.free)=true then do
          let c <- cellOf env name
          pure (ForInStep.yield ((name,c)::r))
        else pure (ForInStep.yield r):Sem (ForInStep (List (Str×Addr)))))=(pure (ko names env.cells acc):Sem (List (Str×Addr)))
  | [],acc,_=>rfl
  | (n,k)::r,acc,h=>by
    rw[List.forIn_cons]
    cases hk:(k==NameKind.free) with
    | false =>
      have ih:=mr r acc fun p hp=>h p (List.mem_cons_of_mem _ hp)
      simp only[hk,ko,Bool.false_eq_true,if_false]
      exact ih
    | true =>
      obtain⟨c,hc⟩:=h (n,k) List.mem_cons_self (by simpa using hk)
      have ih:=mr r ((n,c)::acc) fun p hp=>h p (List.mem_cons_of_mem _ hp)
      have hcell:cellOf env n=pure c:=by unfold cellOf;rw[show env.cells.lookup n=some c from hc]
      simp only[hk,ko,if_true,hcell,show env.cells.lookup n=some c from hc]
      exact ih
theorem sH{scope:Scope}{env:Env}(h:∀p∈scope.names,p.2=.free->∃c,env.cells.lookup p.1=some c):closureFor scope env=pure (ko scope.names env.cells []):=by
 unfold closureFor
 have:=mr scope.names [] h
 simp only[bind_pure]
 exact this
theorem kD{β:Type}{y n:Str}{c:β}{l:List (Str×β)}:List.lookup y ((n,c)::l)=if y=n then some c else List.lookup y l:=by
 rw[List.lookup_cons]
 by_cases h:y=n
 ·subst h;simp
 ·have:(y==n)=false:=by simpa using h
  rw[this,if_neg h]
theorem nS{cells:List (Str×Addr)}:∀(names:List (Str×NameKind)) (acc:List (Str×Addr)),(∀y c,acc.lookup y=some c->cells.lookup y=some c)->∀y c,(ko names cells acc).lookup y=some c->cells.lookup y=some c
 | [],acc,h=>h
 | (n,k)::r,acc,h=>by
  unfold ko
  refine nS r _ ?_
  split
  ·cases hc:cells.lookup n with
   | none=>exact h
   | some c0 =>
    intro y c hy
    rw[kD] at hy
    split at hy
    ·rename_i e
     subst e
     cases hy
     exact hc
    ·exact h y c hy
  ·exact h
theorem pq{cells:List (Str×Addr)}{y:Str}:∀(names:List (Str×NameKind)) (acc:List (Str×Addr)),(acc.lookup y).isSome=true->((ko names cells acc).lookup y).isSome=true
 | [],acc,h=>h
 | (n,k)::r,acc,h=>by
  unfold ko
  refine pq r _ ?_
  split
  ·cases hc:cells.lookup n with
   | none=>exact h
   | some c0 =>
    dsimp only
    rw[kD]
    split
    ·rfl
    ·exact h
  ·exact h
theorem rf{cells:List (Str×Addr)}{y:Str}{c:Addr}(hc:cells.lookup y=some c):∀(names:List (Str×NameKind)) (acc:List (Str×Addr)),(y,NameKind.free)∈names->((ko names cells acc).lookup y).isSome=true
 | (n,k)::r,acc,h=>by
  unfold ko
  rcases List.mem_cons.mp h with e | h
  ·cases e
   refine pq r _ ?_
   rw[if_pos (show(NameKind.free==NameKind.free)=true by decide),hc]
   dsimp only
   rw[kD,if_pos rfl]
   rfl
  ·exact rf hc r _ h
theorem w8{cells:List (Str×Addr)}{names:List (Str×NameKind)}{y:Str}{c:Addr}(hc:cells.lookup y=some c)(h:(y,NameKind.free)∈names):(ko names cells []).lookup y=some c:=by
 obtain⟨c',e⟩:=Option.isSome_iff_exists.mp (rf hc names [] h)
 have:=nS names [] (fun y c h=>by cases h) y c' e
 rw[hc] at this
 cases this
 exact e
theorem oE{env:Env}{y:Str}:∀(names:List (Str×NameKind)),(names.map fun (n,k)=>if (k==NameKind.free&&env.scope.kind==.function&&env.kindOf n==some .cell) then (n,NameKind.cell) else (n,k)).lookup y =
  (names.lookup y).map fun k=>if (k==NameKind.free&&env.scope.kind==.function&&env.kindOf y==some .cell) then NameKind.cell else k
 | []=>rfl
 | (n,k)::r=>by
  have hd:∀(c:Bool),(if c=true then (n,NameKind.cell) else (n,k))=(n,if c=true then NameKind.cell else k):=fun c=>by cases c<;>rfl
  rw[List.map_cons]
  show List.lookup y ((if (k==NameKind.free&&env.scope.kind==.function&&env.kindOf n==some .cell)=true then (n,NameKind.cell) else (n,k))::_)=_
  rw[hd,kD,kD]
  by_cases e:y=n
  ·subst e
   rw[if_pos rfl,if_pos rfl]
   rfl
  ·rw[if_neg e,if_neg e]
   exact oE r
def qy(sc outer:Scope)(T N:List Str):Bool:=
 sc.kind==.function&&(sc.names.all fun p=>p.2 != .cell&&(p.2 != .local||(sc.names.lookup p.1==some .local&&(T.contains p.1||p.1==(".0" : Str))))&&(p.2 != .free||outer.names.lookup p.1==some .cell||outer.names.lookup p.1==some .free)) &&
  (T.all fun t=>sc.names.lookup t==some .local)&&!N.contains (".0" : Str)
structure qg (sc outer:Scope) (T N:List Str):Prop where
 kind:sc.kind=.function
 nocell:∀y∈sc.names,y.2≠.cell
 names:∀y∈sc.names,y.2=.local->sc.names.lookup y.1=some .local
 loc:∀y,sc.names.lookup y=some .local->y∈T\/y=(".0" : Str)
 free:∀y∈sc.names,y.2=.free->outer.names.lookup y.1=some .cell\/outer.names.lookup y.1=some .free
 tg:∀t∈T,sc.names.lookup t=some .local
 no0:(".0" : Str)∉N
theorem ul{sc outer:Scope}{T N:List Str}(h:qy sc outer T N=true):qg sc outer T N:=by
 unfold qy at h
 rw[Bool.and_eq_true,Bool.and_eq_true,Bool.and_eq_true] at h
 obtain⟨⟨⟨h1,h2⟩,h3⟩,h4⟩:=h
 rw[List.all_eq_true] at h2 h3
 have g:∀y∈sc.names,y.2≠.cell/\(y.2=.local->sc.names.lookup y.1=some .local/\(y.1∈T\/y.1=(".0" : Str)))/\(y.2=.free->outer.names.lookup y.1=some .cell\/outer.names.lookup y.1=some .free):=fun y hy=>by
  have q:=h2 y hy
  rw[Bool.and_eq_true,Bool.and_eq_true] at q
  obtain⟨⟨q1,q2⟩,q3⟩:=q
  refine⟨by simpa using q1,fun hl=>?_,fun hf=>?_⟩
  ·rw[hl] at q2
   simpa using q2
  ·rw[hf] at q3
   simpa using q3
 refine⟨by simpa using h1,fun y hy=>(g y hy).1,fun y hy hl=>((g y hy).2.1 hl).1,fun y hy=>?_,fun y hy hf=>(g y hy).2.2 hf,fun t ht=>by simpa using h3 t ht,by simpa using h4⟩
 exact((g (y,.local) (PySem.mem_of_lookup hy)).2.1 rfl).2
def zK(X:Cx)(H:Hp):Prop:=∀b q c,X.H₀ b=some (.tbl q c)->H b=some (.tbl q c)
def qJ(X:Cx)(T:List Str)(scope:Scope)(C:Addr)(fp:List Addr)(s₃:Shared)(H₃:Hp):Cx where
 prog:=X.prog
 w:=X.w
 K:=X.K
 mg:=X.mg
 base:=X.base
 A:=X.A
 N:=T++X.N
 s₀:=s₃
 H₀:=H₃
 env:=compEnvC scope (ko scope.names X.env.cells []) C X.env
 outer:=X.stack
 stack:=X.stack
 ex:=fp
 fn:=fun _=>false
 calm:=X.calm
 pn:=[]
 xe:=fun _ _=>False
section
variable{X:Cx}{pins:List (Addr×Obj)}{σ:L2.St}{H:Hp}{s:Shared}{T:List Str}{scope:Scope}{C:Addr}{fp:List Addr}{h₁:Heap}{t:Nat}
theorem vJ(I:L2.Inv X pins σ H s)(ck:qg scope X.env.scope T X.N)(hnd:(T++X.N).Nodup)(hf:∀b∈fp,la X pins H b)(hfo:∀b∈fp,∃o,s.heap.get? b=some o)(hC:s.heap.objs.size<=C)
  (hk:∀b u,s.heap.get? b=some u->h₁.get? b=some u) (hns:h₁.Ns C (fun _=>none)) :
  L2.Inv (qJ X T scope C fp s H) [] (List.replicate T.length none++σ) H {s with heap:=h₁,toks:=t}:=by
 have hlt:∀b∈fp,b<s.heap.objs.size:=fun b hb=>let ⟨o,e⟩:=hfo b hb;Heap.lt_size e
 have hcl:∀y c,(ko scope.names X.env.cells []).lookup y=some c->X.env.cells.lookup y=some c:=nS scope.names [] fun y c h=>by cases h
 have hfr:∀y,(y,NameKind.free)∈scope.names->(X.env.kindOf y=some .cell\/X.env.kindOf y=some .free)/\∃c,(ko scope.names X.env.cells []).lookup y=some c/\X.env.cells.lookup y=some c:=fun y hy=>by
  have k:=ck.free _ hy rfl
  obtain⟨c,hc⟩:=I.ok.has y k
  exact⟨k,c,w8 hc hy,hc⟩
 have hkind:∀y,(compEnvC scope (ko scope.names X.env.cells []) C X.env).kindOf y=(scope.names.lookup y).map fun k=>if (k==NameKind.free&&X.env.scope.kind==.function&&X.env.kindOf y==some .cell) then NameKind.cell else k:=fun y=>oE scope.names
 have hvis:∀y,((compEnvC scope (ko scope.names X.env.cells []) C X.env).kindOf y=some .cell\/(compEnvC scope (ko scope.names X.env.cells []) C X.env).kindOf y=some .free)->(y,NameKind.free)∈scope.names:=fun y hy=>by
  rw[hkind] at hy
  cases hl:scope.names.lookup y with
  | none=>rw[hl] at hy;rcases hy with z | z<;>cases z
  | some k =>
   have hm:=PySem.mem_of_lookup hl
   rw[hl] at hy
   cases k with
   | free=>exact hm
   | cell=>exact absurd rfl (ck.nocell _ hm)
   | «local»=>rcases hy with z | z<;>cases z
   | globalExplicit=>rcases hy with z | z<;>cases z
   | globalImplicit=>rcases hy with z | z<;>cases z
 refine⟨⟨I.ok.mod,ck.kind,I.ok.glob,I.ok.blt,hC,fun x y c h1 h2=>I.ok.inj x y c (hcl x c h1) (hcl y c h2),fun y hy=>?_,fun y c h=>absurd (show false=true from h) Bool.false_ne_true,I.ok.hd,I.ok.frames,.inl rfl,fun b hb=>⟨?_,fun x c h=>?_⟩,I.bs,
  Nat.le_trans I.ok.bsz I.sz,fun b o e hb=>?_,fun b hb hz=>?_,I.stack,I.stkFree⟩,rfl,I.bare,Un.kept hk,⟨_,hns,fun i x v h1 h2 h3=>?_⟩,fun y c h=>?_,I.hok.fresh hC,fun y c h=>I.freeC y c (hcl y c h),fun p hp=>absurd (show p∈([]:List (Addr×Obj)) from hp) (by simp),I.hok.kept hk,?_⟩
 ·obtain⟨_,c,h1,_⟩:=hfr y (hvis y hy)
  exact⟨c,h1⟩
 ·exact Nat.ne_of_lt (Nat.lt_of_lt_of_le (hlt b hb) hC)
 ·exact(hf b hb).2.2.2.2.1 x c (hcl x c h)
 ·rcases(hf b hb).2.2.2.1 with z | z
  ·exact I.ok.noex b o e z
  ·exact absurd (Nat.lt_of_lt_of_le (Heap.lt_size e) (Nat.le_trans I.ok.bsz z)) (Nat.lt_irrefl _)
 ·rcases List.mem_cons.mp (I.stkSub b hz) with z | z
  ·exact(hf b hb).2.1 z
  ·exact(hf b hb).2.2.1 z
 ·by_cases hi:i<T.length
  ·rw[List.getElem?_append_left (by simpa using hi),List.getElem?_replicate] at h2
   split at h2<;>cases h2
  ·rw[List.getElem?_append_right (by simpa using hi),List.length_replicate] at h2
   have h1':X.N[i - T.length]?=some x:=by
    have z:(T++X.N)[i]?=some x:=h1
    rw[List.getElem?_append_right (by omega)] at z
    exact z
   have hxN:x∈X.N:=List.mem_of_getElem? h1'
   have hxf:(x,NameKind.free)∈scope.names:=by
    rcases h3 with z | z | z
    ·have z':(compEnvC scope (ko scope.names X.env.cells []) C X.env).kindOf x=some .local:=z
     rw[hkind] at z'
     cases hl:scope.names.lookup x with
     | none=>rw[hl] at z';cases z'
     | some k =>
      rw[hl] at z'
      have hkl:k=.local:=by
       cases k with
       | «local»=>rfl
       | free=>simp at z';split at z'<;>cases z'
       | cell=>cases z'
       | globalExplicit=>cases z'
       | globalImplicit=>cases z'
      subst hkl
      rcases ck.loc x hl with q | q
      ·exact absurd rfl ((List.nodup_append.mp hnd).2.2 x q x hxN)
      ·exact absurd (q ▸ hxN) ck.no0
    ·exact hvis x (.inl z)
    ·exact hvis x (.inr z)
   obtain⟨hk2,c,hc1,hc2⟩:=hfr x hxf
   obtain⟨m,hm,hl⟩:=I.loc
   obtain⟨u,ru,lk⟩:=hl _ x v h1' h2 (hk2.elim (fun z=>.inr (.inl z)) fun z=>.inr (.inr z))
   refine⟨u,ru,.inr ⟨?_,c,hc1,?_⟩⟩
   ·rcases h3 with z | z | z
    ·exfalso
     have z':(compEnvC scope (ko scope.names X.env.cells []) C X.env).kindOf x=some .local:=z
     rw[hkind] at z'
     cases hl2:scope.names.lookup x with
     | none=>rw[hl2] at z';cases z'
     | some k =>
      rw[hl2] at z'
      have hkl:k=.local:=by
       cases k with
       | «local»=>rfl
       | free=>simp at z';split at z'<;>cases z'
       | cell=>cases z'
       | globalExplicit=>cases z'
       | globalImplicit=>cases z'
      subst hkl
      rcases ck.loc x hl2 with q | q
      ·exact absurd rfl ((List.nodup_append.mp hnd).2.2 x q x hxN)
      ·exact absurd (q ▸ hxN) ck.no0
    ·exact .inl z
    ·exact .inr z
   ·rcases lk with ⟨kl,_⟩ | ⟨_,c',hc',hcell⟩
    ·rcases hk2 with z | z
     ·rw[kl] at z;cases z
     ·rw[kl] at z;cases z
    ·rw[hc2] at hc'
     cases hc'
     obtain⟨o,ho,hd⟩:=hcell
     exact⟨o,hk _ _ ho,hd⟩
 ·obtain⟨v,o,ho,hd⟩:=I.cell y c (hcl y c h)
  exact⟨v,o,hk _ _ ho,hd⟩
 ·show(List.replicate T.length none++σ).length=(T++X.N).length
  rw[List.length_append,List.length_append,List.length_replicate,I.len]
end
theorem qo {prog:Program} {w:World} {A:Around} {R':Result->Shared->Prop} {s:Shared} {elt target iter:Expr} {ifs:List Expr} {scope:Scope} {pos:Pos} {it acc:Value} {env:Env} (I:Nat->Shared->Prop)
    (turn:∀n s,I n s->wpAny (model prog w) A (pyNext it) (fun r s₁=>match r with
      | none=>R' (.ok .next) s₁
      | some v=>wpAny (model prog w) A (letOwnedTupleGo target it v) (fun _ s₁'=>wpAny (model prog w) A (assign target env v) (fun _ s₂ =>
          wpAny (model prog w) A (forIn ifs true fun c r=>if r=true then do let ok <- isTrue c env (eval c env);pure (ForInStep.yield ok) else pure (ForInStep.yield r)) (fun ok s₃ =>
            if ok=true then wpAny (model prog w) A (eval elt env) (fun x s₄ =>
              wpAny (model prog w) A (call (.builtin "list.append") [acc,x]) (fun _ s₅=>∃m,m<n/\I m s₅) (fun _ _=>False) s₄) (fun _ _=>False) s₃
            else ∃m,m<n/\I m s₃) (fun _ _=>False) s₂) (fun _ _=>False) s₁') (fun _ _=>False) s₁) (fun _ _=>False) s)
    (n:Nat) (h:I n s):codeAny (model prog w) A (.compLoop (.ListComp elt [⟨target,iter,ifs,0⟩] scope pos) 0 it acc env) R' s:=by
  refine codeAny_loop rfl I (fun n s hI=>?_) n h
  show wpAny _ A ((compTurn (.ListComp elt [⟨target,iter,ifs,0⟩] scope pos) 0 it acc env).onRaise (fun x=>do noteFrame x env;theTreesLotGoes x)) _ _ s
  refine wpAny_noted ?_
  rw[compTurn_list]
  have ff:∀{E:Value->Shared->Prop} (a:Value) (s:Shared),False->E a s:=fun _ _ z=>z.elim
  refine wpAny_bind (wpAny_standAt (wpAny_bind (wpAny_mono (turn n s hI) (fun r s₁ h₁=>?_) ff)))
  cases r with
  | none=>exact wpAny_pure h₁
  | some v =>
    refine wpAny_bind (wpAny_mono h₁ (fun _ s₁' h₁'=>?_) ff)
    refine wpAny_bind (wpAny_mono h₁' (fun _ s₂ h₂=>wpAny_bind (wpAny_mono h₂ (fun ok s₃ h₃=>?_) ff)) ff)
    cases ok with
    | false=>exact wpAny_pure ⟨rfl,h₃⟩
    | true =>
      exact wpAny_bind (wpAny_bind (wpAny_mono h₃ (fun x s₄ h₄=>wpAny_bind (wpAny_mono h₄ (fun _ s₅ h₅=>wpAny_pure (wpAny_pure ⟨rfl,h₅⟩)) ff)) ff))
def A4(X:Cx)(ifs:List Expr)(c:R->Option Bool):Prop:=
 ∀(pins:List (Addr×Obj)) (s:Shared) (σ:L2.St) (H:Hp) (Q:Bool->Hp->Prop),L2.Inv X pins σ H s->AS X.K c σ H Q ->
  wpAny (model X.prog X.w) X.A (forIn ifs true fun c r=>if r=true then do let ok <- isTrue c X.env (eval c X.env);pure (ForInStep.yield ok) else pure (ForInStep.yield r)) (TP X pins σ Q) X.xe s
theorem eS{X:Cx}:A4 X [] qF:=fun pins s σ H Q I ⟨ρ,b,er,e,q⟩=>by
 cases e
 exact wpAny_tests_nil ⟨H,I,q H (i9.refl H)⟩
theorem ii{X:Cx}{e:Expr}{c:R->Option Bool}(h:ST X e c):A4 X [e] c:=fun pins s σ H Q I q=>wpAny_tests_one (h pins s σ H Q I q)
section
variable{X:Cx}{pins:List (Addr×Obj)}{σ:L2.St}{H:Hp}{s:Shared}{T:List Str}{scope:Scope}
def wa(k:Nat)(stf:D->R->Option R):Prop:=∀(d:D) (τ ρ ρ1:R),τ.length=k->stf d (τ++ρ)=some ρ1->∃ τ',τ'.length=k/\ρ1=τ'++ρ
theorem lO{k i:Nat}(h:i<k):wa k (setAt i):=fun d τ ρ ρ1 hl e=>by
 unfold setAt at e
 split at e
 ·cases e
  exact⟨τ.set i (some d),by simp[hl],List.set_append_left _ _ (by omega)⟩
 ·cases e
theorem jP.forget{K:W.Frag}{H:Hp}{τ ρ:R}{σ:L2.St}(e:jP K H (τ++ρ) σ):jP K H (List.replicate τ.length none++ρ) σ:=by
 refine⟨by have:=e.1;simpa using this,fun i d h=>?_⟩
 by_cases hi:i<τ.length
 ·rw[List.getElem?_append_left (by simpa using hi),List.getElem?_replicate] at h
  split at h<;>cases h
 ·rw[List.getElem?_append_right (by simpa using hi),List.length_replicate] at h
  exact e.2 i d (by rw[List.getElem?_append_right (by omega)];exact h)
theorem x5{a:Addr}{o:HO}(I:L2.Inv X pins σ H s)(f:la X pins H a)(new:jJ X.prog X.w (upd H a o) s.heap a o):L2.Inv X pins σ (upd H a o) s:=by
 obtain⟨f0,f1,f2,f3,f4,f5⟩:=f
 have ne:∀{b:Addr} {u:HO},H b=some u->b≠a:=fun e z=>by rw[z,f0] at e;cases e
 refine⟨I.ok,I.os,I.bare,⟨I.base.keep,I.base.slot,fun b ob e n hx=>?_,I.base.there,fun b xs e=>?_,fun b ob u ny e=>?_,fun b ps d e=>?_⟩,I.loc,I.cell,?_,fun x c e=>?_,fun p hp=>?_,fun b u e=>?_,I.len⟩
 ·have hb:b≠a:=fun z=>by
   rcases f3 with q | q
   ·exact hx (z ▸ q)
   ·exact absurd (Nat.lt_of_lt_of_le (Heap.lt_size e) (z ▸ q)) (Nat.lt_irrefl _)
  rw[ai hb]
  exact I.base.free b ob e n hx
 ·have q:=I.base.tups b xs e
  rw[ai (ne q)]
  exact q
 ·have q:=I.base.frzs b ob u ny e
  rw[ai (ne q)]
  exact q
 ·have q:=I.base.tbls b ps d e
  rw[ai (ne q)]
  exact q
 ·rw[ai (Ne.symm f1)]
  exact I.free
 ·rw[ai (f4 x c e)]
  exact I.freeC x c e
 ·obtain⟨q1,q2,q3⟩:=I.pin p hp
  exact⟨q1,by rw[ai (f5 p hp)];exact q2,q3⟩
 ·by_cases hb:b=a
  ·subst hb
   rw[ae] at e
   cases e
   exact new
  ·rw[ai hb] at e
   refine(I.hok b u e).stay (fun _ _ _ q=>q) (fun c q=>?_) (fun c xs q=>?_) fun c _ _ q=>?_
   ·rw[ai (ne q)];exact q
   ·rw[ai (ne q)];exact q
   ·rw[ai (ne q)];exact q
theorem x_{C:Addr}{fp:List Addr}{s₃:Shared}{H₃ H':Hp}{b:Addr}{pl:List (Addr×Obj)}(hb:b∈fp\/s₃.heap.objs.size<=b)(hC:b≠C)(hfs:b∉tH X.stack)(hcells:∀x c,(ko scope.names X.env.cells []).lookup x=some c->c≠b)(hn:H' b=none)(hp:∀p∈pl,p.1≠b) :
  la (qJ X T scope C fp s₃ H₃) pl H' b:=⟨hn,hC,hfs,hb,hcells,fun p hp'=>hp p hp'⟩
theorem gi{elt iter tg:Expr}{ifs:List Expr}{pos:Pos}{it:Addr}{fp:List Addr}{tn:Nat->Heap->Prop}{J:It}{E:Value->Shared->Prop}{ρ:R}{ds out:LD}{stf:D->R->Option R}{cf:R->Option Bool}{ef:R->OD}
  (I:L2.Inv X pins σ H s) (hc:X.calm=true) (Tn:Turn X.prog X.w X.K tg J fp it tn) (st:tn 0 s.heap) (hf:∀b∈fp,la X pins H b)
  (ck:qg scope X.env.scope T X.N) (hnd:(T++X.N).Nodup) (hst:wa T.length stf) (er:jP X.K H ρ σ) (y:kY X.K J ds H) (hz:ds.length<=sizeLine) (hout:lz stf cf ef ds (List.replicate T.length none++ρ)=some out)
  (hg:∀C s₃ H₃ fp,zK X H₃->SG (qJ X T scope C fp s₃ H₃) tg stf) (hcnd:∀C s₃ H₃ fp,zK X H₃->A4 (qJ X T scope C fp s₃ H₃) ifs cf) (he:∀C s₃ H₃ fp,zK X H₃->SE (qJ X T scope C fp s₃ H₃) elt ef)
  {RR:Value->Addr->Result->Shared->Prop}
  (hRR:∀(a C:Addr) (H':Hp) (s':Shared) (vs:List V),i9 H H'->H' a=some (.lst vs)->i4 X.K H' out vs->L2.Inv X pins σ H' s'->la X pins H' C->(∃m,s'.heap.Ns C m)->RR (.ref a) C (.ok .next) s') :
  wpAny (model X.prog X.w) X.A (newList []) (fun acc s₃=>wpAny (model X.prog X.w) X.A (newFunctionEnv scope X.env.globals (ko scope.names X.env.cells []) [] X.env.qual none .none (some X.env)) (fun cenv s₄ =>
   codeAny (model X.prog X.w) X.A (.compStart (.ListComp elt [⟨tg,iter,ifs,0⟩] scope pos) 0 (.ref it) acc {cenv with scope:=relabel scope X.env}) (RR acc cenv.locals) s₄) E s₃) E s:=by
 refine wpAny_newObj_type (wpAny_newFunctionEnv ck.nocell (by intro y hy;simp at hy) (fun h₁ hns₁ hsb₁=>?_) ck.kind)
 dsimp only at hns₁ hsb₁ ⊢
 generalize hH2:s.heap.push {cls:=.type "list",dict:=none,data:=.seq ([]:List Value).toArray}=H2 at hns₁ hsb₁ ⊢
 generalize ha:s.heap.objs.size=a at *
 generalize hCe:H2.objs.size=C at hns₁ hsb₁ ⊢
 have hC:C=a+1:=by rw[<- hCe,<- hH2,Heap.size_push,ha]
 have haC':a<C:=by rw[hC];exact Nat.lt_succ_self a
 have haC:a≠C:=Nat.ne_of_lt haC'
 have hle:s.heap.objs.size<=a:=Nat.le_of_eq ha
 have hCle:s.heap.objs.size<=C:=Nat.le_trans hle (Nat.le_of_lt haC')
 have hlta:∀{b:Addr} {o:Obj},s.heap.get? b=some o->b<a:=fun e=>Nat.lt_of_lt_of_le (Heap.lt_size e) hle
 have old:∀b o,s.heap.get? b=some o->h₁.get? b=some o:=fun b o e=>hsb₁.extBut b o (Nat.ne_of_lt (Nat.lt_trans (hlta e) haC')) (Heap.get?_push_of_some _ (hH2 ▸ Heap.get?_push_of_some _ e))
 have hacc:h₁.get? a=some {cls:=.type "list",data:=.seq ([]:List Value).toArray}:=hsb₁.extBut _ _ haC (Heap.get?_push_of_some _ (hH2 ▸ (ha ▸ Heap.get?_push_size _ rfl)))
 have hfo:∀b∈fp,∃o,s.heap.get? b=some o:=fun b hb=>let ⟨o,e,_⟩:=Tn.obj 0 _ st b hb;⟨o,e⟩
 have hlt:∀b∈fp,b<a:=fun b hb=>let ⟨o,e⟩:=hfo b hb;hlta e
 have hns:h₁.Ns C (fun _=>none):=hns₁
 have I0:L2.Inv (qJ X T scope C fp s H) [] (List.replicate T.length none++σ) H {s with heap:=h₁,toks:=s.toks+([]:List (Str×Value)).length}:=vJ I ck hnd hf hfo hCle old hns
 have hcl:∀y c,(ko scope.names X.env.cells []).lookup y=some c->X.env.cells.lookup y=some c:=nS scope.names [] fun y c h=>by cases h
 have hfs:∀b,a<=b->b∉tH X.stack:=fun b hb hz=>by
  rcases List.mem_cons.mp (I.stkSub b hz) with z | z
  ·exact absurd (Nat.lt_of_lt_of_le I.lt (Nat.le_trans hle (z ▸ hb))) (Nat.lt_irrefl _)
  ·exact I.nofs (Nat.le_trans hle hb) z
 have hcells:∀b,a<=b->∀x c,(ko scope.names X.env.cells []).lookup x=some c->c≠b:=fun b hb x c h z=>by
  obtain⟨v,q⟩:=I.cell x c (hcl x c h)
  exact absurd (Nat.lt_of_lt_of_le q.lt (Nat.le_trans hle (z ▸ hb))) (Nat.lt_irrefl _)
 have hfpok:∀{H':Hp} {pl:List (Addr×Obj)},(∀b∈fp,H' b=none)->(∀p∈pl,p.1∉fp)->∀b∈fp,la (qJ X T scope C fp s H) pl H' b:=fun {H' pl} hn hp b hb =>
  x_ (.inl hb) (Nat.ne_of_lt (Nat.lt_trans (hlt b hb) haC')) (I0.ok.exfs b hb) (fun x c h=>(I0.ok.exf b hb).2 x c h) (hn b hb) fun p hp' z=>hp p hp' (z ▸ hb)
 have hAok:∀{H':Hp},H' a=none->∀b ∈ [a],la (qJ X T scope C fp s H) [] H' b:=fun {H'} hn b hb=>by
  cases List.mem_singleton.mp hb
  exact x_ (.inr hle) haC (hfs a (Nat.le_refl _)) (hcells a (Nat.le_refl _)) hn fun p hp=>absurd hp (by simp)
 have hAfp:a∉fp:=fun z=>Nat.lt_irrefl _ (hlt a z)
 have loop:codeAny (model X.prog X.w) X.A (.compLoop (.ListComp elt [⟨tg,iter,ifs,0⟩] scope pos) 0 (.ref it) (.ref a) (compEnvC scope (ko scope.names X.env.cells []) C X.env))
   (RR (.ref a) C) {s with heap:=h₁,toks:=s.toks+([]:List (Str×Value)).length}:=by
  refine qo (fun n s'=>∃i σ' H' vs its k done rest,n=ds.length - i/\i<=ds.length/\L2.Inv (qJ X T scope C fp s H) [] σ' H' s'/\tn i s'.heap/\(∀b∈fp,H' b=none)/\H' a=none/\i9 H H' /\
   s'.heap.get? a=some {cls:=.type "list",data:=.seq (its:List Value).toArray k}/\jg vs its/\i4 X.K H' done vs/\vs.length<=i/\jP X.K H' (List.replicate T.length none++ρ) σ' /\
   lz stf cf ef (ds.drop i) (List.replicate T.length none++ρ)=some rest/\out=done++rest) ?_ ds.length
   ⟨0,_,H,[],[],0,[],out,by omega,Nat.zero_le _,I0,Tn.keep _ _ _ st (fun b hb o e=>old b o e),fun b hb=>(hf b hb).1,I.hok.fresh hle,i9.refl H,hacc,.nil,rfl,Nat.zero_le _,er.front T.length (List.replicate T.length none) (by simp),by simpa using hout,rfl⟩
  rintro n s' ⟨i,σ',H',vs,its,k,done,rest,rfl,hi,I',st',hn',hna,sm,ho,hv,hrd,hvl,er',hrest,hsum⟩
  have Ip:=I'.pinned (fp:=[a]) (hAok hna) fun b hb=>by
   cases List.mem_singleton.mp hb
   exact⟨_,ho,fun v z=>by cases z⟩
  generalize hP:([]:List (Addr×Obj))++ml [a] s'.heap=P at Ip
  have hPm:(a,({cls:=.type "list",data:=.seq its.toArray k}:Obj))∈P:=by rw[<- hP];exact List.mem_append_right _ (bi (by simp) ho)
  have hPa:∀p∈P,p.1∉fp:=fun p hp z=>by
   rw[<- hP] at hp
   obtain⟨q,_⟩:=pV hp
   rw[List.mem_singleton.mp q] at z
   exact hAfp z
  by_cases hlt':i<ds.length
  ·have hd:ds[i]?=some ds[i]:=by simp[hlt']
   obtain⟨hgo,hy⟩:=y.1 i ds[i] H' (Kp.of sm) hd
   rw[List.drop_eq_getElem_cons hlt'] at hrest
   obtain⟨ρ1,e1,hrest⟩:=i5 hrest
   obtain⟨b,e2,hrest⟩:=i5 hrest
   obtain⟨o,e3,hrest⟩:=i5 hrest
   obtain⟨rest',e4,e5⟩:=jL hrest
   obtain⟨τ,hτ,hρ1⟩:=hst ds[i] (List.replicate T.length none) ρ ρ1 (by simp) e1
   refine jC (Tn.item (qJ X T scope C fp s H) rfl rfl rfl hc i P s' σ' H' (fun _ _=>False) Ip (hfpok hn' hPa) st' hgo) fun r s1 ⟨u,hr,h4⟩=>?_
   subst hr
   refine jC h4 fun _ s2 ⟨x,H2',I2,r2,y2,st2,fr2⟩=>?_
   obtain⟨s12,rx⟩:=hy x H2' y2
   have I3:=I2.pinned (fp:=fp) (hfpok fr2 hPa) (Tn.obj _ _ st2)
   refine jC (hg C s H fp I.base.tbls _ s2 σ' H2' x u (fun σ3 H3=>i9 H2' H3/\jP X.K H3 ρ1 σ3) I3 r2 ⟨_,_,ds[i],ρ1,(er'.mono s12).t,rx,e1,fun σ3 H3 s3 er3=>⟨s3,er3.1⟩⟩) fun _ s3 ⟨σ3,H3,I4,s23,er3⟩=>?_
   refine jC (hcnd C s H fp I.base.tbls _ s3 σ3 H3 (fun b' H4=>b'=b/\i9 H3 H4) I4 ⟨ρ1,b,er3,e2,fun H4 s4=>⟨rfl,s4⟩⟩) fun b' s4 ⟨H4,I5,hb',s34⟩=>?_
   subst hb'
   have fin:∀{H5:Hp} {s5:Shared},L2.Inv (qJ X T scope C fp s H) (P++ml fp s2.heap) σ3 H5 s5->(∀b∈fp,H5 b=none)/\H5 a=none/\s5.heap.get? a=some {cls:=.type "list",data:=.seq its.toArray k}/\(∀b∈fp,∀o,s2.heap.get? b=some o->s5.heap.get? b=some o):=fun {H5 s5} I6=>by
    refine⟨fun b hb=>?_,(I6.pin _ (List.mem_append_right _ (List.mem_append_left _ hPm))).2.1,(I6.pin _ (List.mem_append_right _ (List.mem_append_left _ hPm))).1,fun b hb o e=>(I6.pin (b,o) (List.mem_append_right _ (List.mem_append_right _ (bi hb e)))).1⟩
    obtain⟨o,e,_⟩:=Tn.obj _ _ st2 b hb
    exact(I6.pin (b,o) (List.mem_append_right _ (List.mem_append_right _ (bi hb e)))).2.1
   have unpin:∀{H5:Hp} {s5:Shared},L2.Inv (qJ X T scope C fp s H) (P++ml fp s2.heap) σ3 H5 s5->L2.Inv (qJ X T scope C fp s H) [] σ3 H5 s5:=fun I6=>I6.pins_of fun p hp=>absurd hp (by simp)
   have erb:∀{H5:Hp},i9 H3 H5->jP X.K H5 (List.replicate T.length none++ρ) σ3:=fun s5=>by
    have z:=er3.mono s5
    rw[hρ1] at z
    have z2:=z.forget
    rw[hτ] at z2
    exact z2
   cases b' with
   | false =>
    cases e3
    rw[if_neg Bool.false_ne_true]
    obtain⟨q1,q2,q3,q4⟩:=fin I5
    have sm4:i9 H H4:=sm.trans (s12.trans (s23.trans s34))
    have smr:i9 H' H4:=s12.trans (s23.trans s34)
    exact⟨ds.length - (i+1),by omega,i+1,σ3,H4,vs,its,k,done,rest',rfl,hlt',unpin I5,Tn.keep _ _ _ st2 q4,q1,q2,sm4,q3,hv,hrd.mono smr,Nat.le_succ_of_le hvl,erb s34,e4,by rw[hsum,<- e5]⟩
   | true =>
    rw[if_pos rfl] at e3 ⊢
    obtain⟨yv,e6,e7⟩:=jL e3
    subst e7
    refine jC (he C s H fp I.base.tbls _ s4 σ3 H4 (fun v H5=>i9 H4 H5/\Rep X.K H5 yv v) I5 ⟨ρ1,yv,er3.mono s34,e6,fun v H5 s5 r5=>⟨s5,r5⟩⟩) fun xv s5 ⟨v,H5,I6,rv,s45,ry⟩=>?_
    obtain⟨q1,q2,q3,q4⟩:=fin I6
    have hl:=hv.length
    refine call_meets F.slot_list_append ⟨_,q3,rfl⟩ F.entry_list_append (F.args_list_append_2 _ _) (PySem.list_append a its.toArray k xv (by rw[List.size_toArray];omega)) ⟨q3,?_⟩
    have q:=PySem.IsL.update q3 (fun xs=>xs.push xv)
    have sm5:i9 H H5:=sm.trans (s12.trans (s23.trans (s34.trans s45)))
    have smr:i9 H' H5:=s12.trans (s23.trans (s34.trans s45))
    have I7:L2.Inv (qJ X T scope C fp s H) [] σ3 H5 {s5 with heap:=s5.heap.update a (Obj.mapSeq fun xs=>xs.push xv),toks:=s5.toks}:=
     (unpin I6).turned (it:=a) (t':=s5.toks) (fun b ob hb hu=>(Heap.get?_update_other s5.heap _ (Ne.symm hb)).trans hu) q2 haC (.inr hle) (hcells a (Nat.le_refl _)) fun p hp=>absurd (show p∈([]:List (Addr×Obj)) from hp) (by simp)
    refine⟨ds.length - (i+1),by omega,i+1,σ3,H5,vs++[v],its++[xv],(if (its.toArray.push xv).size==its.toArray.size then k else k+1),done++[yv],rest',rfl,hlt',I7,Tn.keep _ _ _ st2 fun b hb ob e=>?_,q1,q2,sm5,?_,hv.append (.cons rv .nil),(hrd.mono smr).append (i4.one ry),by simp;omega,erb (s34.trans s45),e4,by rw[hsum,<- e5];simp⟩
    ·have hne:b≠a:=fun z=>hAfp (z ▸ hb)
     exact(Heap.get?_update_other s5.heap _ (Ne.symm hne)).trans (q4 b hb ob e)
    ·have z:its.toArray.push xv=(its++[xv]).toArray:=by simp
     rw[<- z]
     exact q
  ·have ei:i=ds.length:=by omega
   subst ei
   rw[List.drop_length] at hrest
   cases hrest
   rw[List.append_nil] at hsum
   subst hsum
   refine jC (Tn.done (qJ X T scope C fp s H) rfl rfl rfl hc ds.length P s' σ' H' (fun _ _=>False) Ip (hfpok hn' hPa) st' (y.2 _ H' (Kp.of sm) (Nat.le_refl _))) fun r s1 ⟨hr,I1⟩=>?_
   subst hr
   have ho1:=(I1.pin _ (List.mem_append_right _ hPm)).1
   have IX:L2.Inv X pins σ H' s1:=I.call' (ch:=fp) I1.os I1.base I1.hok I1.bare fun b hb=>⟨(hf b hb).2.2.2.1,(hf b hb).2.1,(hf b hb).2.2.2.2.1,(hf b hb).2.2.2.2.2⟩
   have fA:la X pins H' a:=I.fpOk hle hna
   have s2:=aM hna (.lst vs)
   refine hRR a C (upd H' a (.lst vs)) s1 vs (sm.trans s2) ae (hrd.mono s2) (x5 IX fA ⟨Nat.le_trans hvl hz,its,k,hv,ho1⟩) (I.fpOk hCle ?_) (let ⟨m,q,_⟩:=I1.loc;⟨m,q⟩)
   rw[ai (Ne.symm haC)]
   exact I1.free
 exact codeAny_compStart_list loop (Tn.self _ _ _ _ _ (Tn.keep _ _ _ st fun b hb o e=>old b o e) loop)
variable{elt iter tg:Expr}{ifs:List Expr}{pos p2:Pos}{itf:R->Option LD}{stf:D->R->Option R}{cf:R->Option Bool}{ef:R->OD}
theorem fM(I:L2.Inv X pins σ H s)(ck:qg scope X.env.scope T X.N):closureFor scope X.env=pure (ko scope.names X.env.cells []):=sH fun p hp hf=>I.ok.has p.1 (ck.free p hp hf)
theorem fz(hc:X.calm=true)(hi:SI X tg iter itf)(hg:∀C s₃ H₃ fp,zK X H₃->SG (qJ X T scope C fp s₃ H₃) tg stf)(hcnd:∀C s₃ H₃ fp,zK X H₃->A4 (qJ X T scope C fp s₃ H₃) ifs cf)(he:∀C s₃ H₃ fp,zK X H₃->SE (qJ X T scope C fp s₃ H₃) elt ef)
  (hst:wa T.length stf) (hnd:(T++X.N).Nodup) (ck:qy scope X.env.scope T X.N=true:=by rfl) (hs:∀x,foldedSetIterable iter X.env x=pure x:=by intro _;rfl) :
  SE X (.ListComp elt [⟨tg,iter,ifs,0⟩] scope pos) (wu T.length itf stf cf ef):=by
 intro pins s σ H Q I hw
 obtain⟨ρ,d,er,e,q⟩:=hw
 obtain⟨ds,e1,e⟩:=i5 e
 have ck':=ul ck
 split at e
 ·rename_i hz
  obtain⟨out,e2,e3⟩:=jL e
  subst e3
  rw[eval_ListComp]
  refine wpAny_comprehension_free (use:=none) rfl hs (fM I ck') ck'.kind ck'.names ?_
  refine jC (hi pins s σ H (fun J H'=>i9 H H'/\kY X.K J ds H') I ⟨ρ,ds,er,e1,fun J H' s1 y=>⟨s1,y⟩⟩) fun v s1 h1=>jC h1 fun itv s2 h2=>?_
  obtain⟨it,fp,tn,J,H',ei,I2,Tn,st,hf,s12,y⟩:=h2
  subst ei
  refine gi (RR:=fun acc C=>compPost (model X.prog X.w) X.A X.xe none (EP X pins σ Q) acc C) I2 hc Tn st hf ck' hnd hst (er.mono s12) y hz e2 hg hcnd he ?_
  intro a C H3 s' vs sm ha hr I3 fC hns
  obtain⟨m,hm⟩:=hns
  refine⟨m,hm,fun h' hsb=>⟨.ref a,H3,?_,rfl,q _ H3 (s12.trans sm) ⟨a,vs,rfl,ha,hr⟩⟩⟩
  obtain⟨f0,f1,f2,f3,f4,f5⟩:=fC
  exact I3.turned (it:=C) (t':=s'.toks) (fun b o hb eb=>(hsb.2 b hb).trans eb) f0 f1 f3 f4 f5
 ·cases e
end
end HW
namespace HW
open PySem
mutual
def toPy:D->PyData
 | .non=>.none
 | .bl b=>.bool b
 | .int i=>.int i
 | .str x=>.str x
 | .tup xs=>.tuple (j_ xs)
 | .lst xs=>.list (j_ xs)
 | .fro xs=>.list (j_ xs)
 | .obj ..=>.dict []
 | .dct ..=>.dict []
 | .dcp ..=>.dict []
 | .cl ..=>.dict []
def j_:LD->List PyData
 | []=>[]
 | d::ds=>toPy d::j_ ds
end
end HW
set_option maxHeartbeats 1000000
namespace HW
open PySem PySem.Spec PyProof.Rows L2
section
variable{X:Cx}
mutual
theorem lE{pins:List (Addr×Obj)}{σ:L2.St}{H:Hp}{s:Shared}(I:L2.Inv X pins σ H s):∀{d:D} {v:V} {u:Value},l6 d=true->Rep X.K H d v->RelV v u->∃as,Reads s.heap u (toPy d) as
 | .non,v,u,hn,h,r=>by
  cases (show v=_ from h)
  cases (show u=_ from r)
  exact⟨_,.none⟩
 | .bl b,v,u,hn,h,r=>by
  cases (show v=_ from h)
  cases (show u=_ from r)
  exact⟨_,.bool b⟩
 | .int i,v,u,hn,h,r=>by
  cases (show v=_ from h)
  obtain⟨t,rfl⟩:=r
  exact⟨_,.int i t⟩
 | .str x,v,u,hn,h,r=>by
  cases (show v=_ from h)
  obtain⟨t,rfl⟩:=r
  exact⟨_,.str x t⟩
 | .tup ds,v,u,hn,h,r=>by
  obtain⟨a,xs,rfl,q,t⟩:=h
  cases (show u=_ from r)
  obtain⟨its,rv,⟨o,e,c,n,dd⟩,_⟩:=I.tuple q
  obtain⟨as,ra⟩:=lR I hn t rv
  exact⟨_,.tuple e c dd (by simpa using ra)⟩
 | .lst ds,v,u,hn,h,r=>by
  obtain⟨a,xs,rfl,q,t⟩:=h
  cases (show u=_ from r)
  obtain⟨its,rv,⟨o,n,e,c,_,dd⟩,_⟩:=I.list (kN.of q)
  obtain⟨as,ra⟩:=lR I hn t rv
  exact⟨_,.list e c dd (by simpa using ra)⟩
 | .fro ds,v,u,hn,h,r=>by
  obtain⟨a,xs,rfl,q,t⟩:=h
  cases (show u=_ from r)
  obtain⟨its,rv,⟨o,n,e,c,_,dd⟩,_⟩:=I.list q
  obtain⟨as,ra⟩:=lR I hn t rv
  exact⟨_,.list e c dd (by simpa using ra)⟩
 | .obj ..,v,u,hn,h,r=>by cases hn
 | .dct ..,v,u,hn,h,r=>by cases hn
 | .dcp ..,v,u,hn,h,r=>by cases hn
 | .cl ..,v,u,hn,h,r=>by cases hn
theorem lR{pins:List (Addr×Obj)}{σ:L2.St}{H:Hp}{s:Shared}(I:L2.Inv X pins σ H s):∀{ds:LD} {vs:List V} {us:List Value},jS ds=true->i4 X.K H ds vs->jg vs us->∃as,ReadsAll s.heap us (j_ ds) as
 | [],vs,us,hn,h,r=>by
  cases (show vs=[] from h)
  cases r
  exact⟨_,.nil⟩
 | d::ds,vs,us,hn,h,r=>by
  have hn':(l6 d&&jS ds)=true:=hn
  rw[Bool.and_eq_true] at hn'
  obtain⟨v,vr,rfl,h1,h2⟩:=h
  cases r with
  | cons r1 r2 =>
   obtain⟨as,q1⟩:=lE I hn'.1 h1 r1
   obtain⟨bs,q2⟩:=lR I hn'.2 h2 r2
   exact⟨_,.cons q1 q2⟩
end
end
def jH(a:Addr)(xs:List V):HO:=.ext fun h=>xs.length<=sizeLine/\∃(its:List Value) (n:Nat),jg xs its/\h.get? a=some {cls:=.type "list",data:=.seq its.toArray n}
section
variable{X:Cx}{pins:List (Addr×Obj)}{σ:L2.St}{H:Hp}{s:Shared}{a:Addr}{xs:List V}
theorem cK(I:L2.Inv X pins σ H s)(h:H a=some (jH a xs)):xs.length<=sizeLine/\∃(its:List Value) (n:Nat),jg xs its/\s.heap.get? a=some {cls:=.type "list",data:=.seq its.toArray n}:=(I.hok a _ h).1
theorem m5(I:L2.Inv X pins σ H s)(h:H a=some (.lst xs)):L2.Inv X pins σ (upd H a (jH a xs)) s:=by
 obtain⟨z,its,n,r,e⟩:=I.hok a _ h
 have:=I.write (t':=s.toks) (h':=s.heap) (o:=jH a xs) (x:=a) (e:=a) (by rw[h];trivial) (.inl rfl) (fun _ _ _ q=>q) ⟨_,e⟩ ⟨⟨z,its,n,r,e⟩,⟨_,e⟩,fun h1 h2 ⟨z,its,n,r,e⟩ k=>⟨z,its,n,r,k _ e⟩⟩
 exact this
theorem mW(I:L2.Inv X pins σ H s)(h:H a=some (jH a xs)):L2.Inv X pins σ (upd H a (.lst xs)) s:=by
 obtain⟨z,its,n,r,e⟩:=cK I h
 have:=I.write (t':=s.toks) (h':=s.heap) (o:=.lst xs) (x:=a) (e:=a) (by rw[h];trivial) (.inl rfl) (fun _ _ _ q=>q) ⟨_,e⟩ ⟨z,its,n,r,e⟩
 exact this
def jN(a:Addr)(H H':Hp):Prop:=∀b u,b≠a->H b=some u->H' b=some u
theorem jN.of{H H':Hp}(h:i9 H H'):jN a H H':=fun b u _ e=>h b u e
theorem jN.trans{H H1 H2:Hp}(h:jN a H H1)(h':jN a H1 H2):jN a H H2:=fun b u n e=>h' b u n (h b u n e)
theorem jN.upd{o:HO}:jN a H (upd H a o):=fun b u n e=>by rw[ai n];exact e
theorem jN.kp{H H':Hp}(h:jN a H H')(ho:H a=some (jH a xs)):Kp H H':=fun b u e n=>by
 by_cases hb:b=a
 ·subst hb
  rw[ho] at e
  cases e
  exact absurd rfl (n _)
 ·exact h b u hb e
end
section
variable(K:W.Frag)
def Ce(u:R->LD->Option (Out×LD)):TS:=fun E σ H=>∃ ρ τ a ds xs o ds',jQ K H ρ (some (.ref a)::τ) σ/\H a=some (jH a xs)/\i4 K H ds xs/\u ρ ds=some (o,ds') /\
 ∀H' xs',jN a H H'->H' a=some (jH a xs')->i4 K H' ds' xs'->fin K E (some (.ref a)::τ) o H'
def CJ(u:R->LD->Option Out):TS:=fun E σ H=>∃ ρ τ a ds xs o,jQ K H ρ (some (.ref a)::τ) σ/\H a=some (jH a xs)/\i4 K H ds xs/\u ρ ds=some o/\∀H',jN a H H'->fin K E τ o H'
end
def OS(X:Cx)(st:Stmt)(u:R->LD->Option (Out×LD)):Prop:=PS X st (Ce X.K u)
def B3(X:Cx)(sts:List Stmt)(u:R->LD->Option (Out×LD)):Prop:=PSs X sts (Ce X.K u)
def OB(X:Cx)(sts:List Stmt)(u:R->LD->Option Out):Prop:=PSs X sts (CJ X.K u)
section
variable{X:Cx}{st:Stmt}{sts:List Stmt}{u:R->Option Out}{p q:R->LD->Option (Out×LD)}{pos:Pos}
theorem gW(h:OS X st p):B3 X [st] p:=bp h
theorem io{tg iter:Expr}{B:List Stmt}{it:R->Option LD}{stf:D->R->Option R}(hp:PassesOwn (model X.prog X.w) X.A X.env X.xe)(hc:X.calm=true)(hi:SI X tg iter it)(hg:SG X tg stf)(hb:B3 X B p)
  (hs:∀x,foldedSetIterable iter X.env x=pure x:=by intro _;rfl):OS X (.For tg iter B [] pos) (ug it stf p):=(dv hp hc hi hg hb hs).imp fun E σ H ⟨ρ,τ,a,ls,xs,o,ls',er,ho,rp,e,q⟩=>by
 obtain⟨ds,e1,e⟩:=i5 e
 refine⟨ρ,ds,er.1,e1,fun J H1 s1 y=>?_⟩
 refine⟨fun i m σ' H'=>m=ds.length - i/\i<=ds.length/\jN a H1 H'/\∃ ρ' l xs',jQ X.K H' ρ' (some (.ref a)::τ) σ'/\H' a=some (jH a xs')/\i4 X.K H' l xs'/\sN stf p (ds.drop i) ρ' l=some (o,ls'),
  ⟨ds.length,by simp,Nat.zero_le _,jN.of (i9.refl _),ρ,ls,xs,er.mono s1,s1 _ _ ho,rp.mono s1,by simpa using e⟩,?_⟩
 rintro i m σ' H' ⟨rfl,hi,s2,ρ',l,xs',er',ho',rp',e'⟩
 have kp:Kp H1 H':=s2.kp (s1 _ _ ho)
 by_cases hlt:i<ds.length
 ·refine .inr ?_
  have hd:ds[i]?=some ds[i]:=by simp[hlt]
  obtain⟨hgo,hy⟩:=y.1 i ds[i] H' kp hd
  rw[List.drop_eq_getElem_cons hlt] at e'
  obtain⟨ρ1,e2,e'⟩:=i5 e'
  obtain⟨⟨o1,l1⟩,e3,e'⟩:=i5 e'
  refine⟨hgo,fun σ2 H2=>i+1<=ds.length/\jN a H1 H2/\∃ ρ' l xs',jQ X.K H2 ρ' (some (.ref a)::τ) σ2/\H2 a=some (jH a xs')/\i4 X.K H2 l xs'/\sN stf p (ds.drop (i+1)) ρ' l=some (o,ls'),
   fun σ2 H2 n2=>⟨ds.length - (i+1),by omega,rfl,n2.1,n2.2⟩,fun x H3 yx=>?_⟩
  obtain⟨s3,rx⟩:=hy x H3 yx
  refine⟨ρ',_,ds[i],ρ1,er'.mono s3,rx,e2,fun σ4 H4 s4 er4=>⟨ρ1,τ,a,l,xs',o1,l1,er4,s4 _ _ (s3 _ _ ho'),(rp'.mono s3).mono s4,e3,fun H5 xs5 k5 ho5 rp5=>?_⟩⟩
  have s15:jN a H1 H5:=s2.trans ((jN.of s3).trans ((jN.of s4).trans k5))
  cases o1 with
  | nx ρ2=>exact fun σ6 er6=>⟨hlt,s15,ρ2,l1,xs5,er6,ho5,rp5,e'⟩
  | ct ρ2=>exact fun σ6 er6=>⟨hlt,s15,ρ2,l1,xs5,er6,ho5,rp5,e'⟩
  | bk ρ2=>cases e';exact fun σ6 er6=>q H5 xs5 ((jN.of s1).trans s15) ho5 rp5 σ6 er6
  | rt d=>cases e';exact q H5 xs5 ((jN.of s1).trans s15) ho5 rp5
 ·have e4:i=ds.length:=by omega
  subst e4
  rw[List.drop_length] at e'
  cases e'
  exact .inl ⟨y.2 _ H' kp (Nat.le_refl _),q H' xs' ((jN.of s1).trans s2) ho' rp' σ' er'⟩
theorem dD{K:W.Frag}{H:Hp}{ρ:R}{v:V}{τ σ:L2.St}(er:jQ K H ρ (some v::τ) σ):σ[ρ.length]?=some (some v):=by
 have:=er.2
 have h0:(σ.drop ρ.length)[0]?=some (some v):=by rw[this];rfl
 rw[List.getElem?_drop] at h0
 simpa using h0
theorem iG{x name:Str}{e:Expr}{px ap cp:Pos}{f:R->OD}{id:String}{r:V->List V->Hp->VK->Prop}{g:LD->D->Option LD}{u:R->LD->Option (Out×LD)}(i:Nat)(slot:Slot "list" name id)(hty:typeOf (.builtin id)=pure (.type "method_descriptor"))(hm:BV X id r)
  (hu:∀ ρ ds o ds',u ρ ds=some (o,ds')->ρ.length=i/\o=.nx ρ/\∃d,f ρ=some d/\g ds d=some ds')
  (hr:∀(H:Hp) (a:Addr) (xs:List V) (v:V) (ds ds':LD) (d:D) (Q:VK),H a=some (jH a xs)->i4 X.K H ds xs->Rep X.K H d v->g ds d=some ds'->(∀xs',i4 X.K H ds' xs'->Q .non (upd (upd H a (.lst xs)) a (.lst xs')))->r (.ref a) [v] (upd H a (.lst xs)) Q)
  (he:SE X e f) (hN:X.N[i]?=some x:=by rfl) (hv:qB X.env.scope x:=by first | exact Or.inl rfl | exact Or.inr (Or.inl rfl) | exact Or.inr (Or.inr rfl)) (hd:(x==("__debug__" : Str))=false:=by decide) (hcd:(x==("__classdict__" : Str))=false:=by decide)
  (hbase:attributeBase (.Name x px) name X.env (eval (.Name x px) X.env)=eval (.Name x px) X.env:=by rfl) (hst:noStar e=true:=by rfl)
  (hline:(ap.endLine==cp.line)=true:=by rfl) (hs:swapsWith (.Call (.Attribute (.Name x px) name ap) [e] [] cp) none pos.line X.env=pure false:=by rfl) :
  OS X (.Expr (.Call (.Attribute (.Name x px) name ap) [e] [] cp) pos) u:=by
 intro pins s σ H E I ⟨ρ,τ,a,ds,xs,o,ds',er,ho,rp,eu,qq⟩
 obtain⟨hi,rfl,d,e1,e2⟩:=hu ρ ds o ds' eu
 have hσ:=dD er
 rw[hi] at hσ
 have hst1:=av [] X.env hst
 refine wpAny_Expr_any (wpAny_Call_method_late hbase ?_ hline rfl (jC ((pv i (pos:=px) hN hv hd hcd) pins s σ H (fun v H1=>v=.ref a/\H1=H) I ⟨.ref a,hσ,rfl,rfl⟩) fun v s1 ⟨y,H1,I1,r1,ey,eH⟩=>?_)) I.quiet hs
 ·rw[hst1]
  rfl
 subst ey eH
 cases (show v=_ from r1)
 obtain⟨z,its,n,rv,eo⟩:=cK I1 ho
 refine⟨"list",id,PySem.F.plainAttrs_list,slot,hty,⟨_,eo,rfl⟩,fun b eb=>?_,?_⟩
 ·cases eb
  exact⟨_,eo,rfl⟩
 have hA:=(ac he af hst).1 cp pins s1 σ H1 (fun vs H2=>i9 H1 H2/\i4 X.K H2 [d] vs) I1 ⟨ρ,[d],er.1,by show(f ρ).bind _=_;rw[e1];rfl,fun vs H2 s2 r2=>⟨s2,r2⟩⟩
 rw[hst1] at hA ⊢
 refine Calls.callWith_builtin rfl (Calls.evalArgs_plain ?_)
 refine jC hA fun us s2 ⟨vs,H2,I2,r2,s12,rd⟩=>?_
 obtain⟨w,w',rfl,rw1,rw2⟩:=rd
 cases (show w'=[] from rw2)
 have ho2:=s12 _ _ ho
 have I3:=mW I2 ho2
 refine jC (hm pins s2 σ (upd H2 a (.lst xs)) (.ref a) [w] (.ref a) us (fun v H3=>∃xs',i4 X.K H2 ds' xs'/\H3=upd (upd H2 a (.lst xs)) a (.lst xs')) I3 rfl r2 (hr H2 a xs w ds ds' d _ ho2 (rp.mono s12) rw1 e2 fun xs' rp'=>⟨xs',rp',rfl⟩)) fun v s3 ⟨v',H3,I4,_,xs',rp',e3⟩=>?_
 subst e3
 have I5:=m5 I4 ae
 generalize hH5:upd (upd (upd H2 a (.lst xs)) a (.lst xs')) a (jH a xs')=H5 at I5
 have k25:jN a H2 H5:=by
  subst hH5
  exact jN.upd.trans (jN.upd.trans jN.upd)
 have ho5:H5 a=some (jH a xs'):=by subst hH5;exact ae
 have k15:jN a H1 H5:=(jN.of s12).trans k25
 refine⟨σ,H5,I5,qq H5 xs' k15 ho5 (rp'.kp (k25.kp ho2)) σ (er.kp (k15.kp ho))⟩
theorem iu{x:Str}{e:Expr}{px ap cp:Pos}{f:R->OD}(i:Nat)(he:SE X e f)(hN:X.N[i]?=some x:=by rfl)(hv:qB X.env.scope x:=by first | exact Or.inl rfl | exact Or.inr (Or.inl rfl) | exact Or.inr (Or.inr rfl))(hd:(x==("__debug__" : Str))=false:=by decide)(hcd:(x==("__classdict__" : Str))=false:=by decide)
  (hbase:attributeBase (.Name x px) "extend" X.env (eval (.Name x px) X.env)=eval (.Name x px) X.env:=by rfl) (hst:noStar e=true:=by rfl)
  (hline:(ap.endLine==cp.line)=true:=by rfl) (hs:swapsWith (.Call (.Attribute (.Name x px) "extend" ap) [e] [] cp) none pos.line X.env=pure false:=by rfl) :
  OS X (.Expr (.Call (.Attribute (.Name x px) "extend" ap) [e] [] cp) pos) (sC i f):=by
 refine iG (g:=fun ds d=>match d with | .lst es=>if ds.length+es.length<=sizeLine then some (ds++es) else none | _=>none) (f:=f) i PySem.F.slot_list_extend PySem.F.type_list_extend fG ?_ ?_ he hN hv hd hcd hbase hst hline hs
 ·intro ρ ds o ds' h
  obtain⟨d,e1,h⟩:=i5 h
  cases d with
  | lst es =>
   dsimp only at h
   split at h
   ·rename_i hc
    cases h
    exact⟨hc.1,rfl,_,e1,if_pos hc.2⟩
   ·cases h
  | _=>cases h
 ·intro H a xs v ds ds' d Q ho rp rd e q
  cases d with
  | lst es =>
   dsimp only at e
   split at e
   ·rename_i hc
    cases e
    obtain⟨b,zs,rfl,hb,rz⟩:=rd
    have hne:b≠a:=fun z=>by
     rw[z,ho] at hb
     cases hb
    exact⟨a,b,xs,zs,rfl,rfl,ae,by rw[ai hne];exact hb,by rw[<- rp.length,<- rz.length];exact hc,q _ (rp.append rz)⟩
   ·cases e
  | _=>cases e
theorem gR{w:R->LD->Option Out}(h1:OS X st p)(h2:OB X sts w):OB X (st::sts) (x8 p w):=(aL h1 h2).imp fun E σ H ⟨ρ,τ,a,ds,xs,o,er,ho,rp,e,qq⟩=>by
 obtain⟨⟨o1,ds1⟩,e1,e⟩:=i5 e
 refine⟨ρ,τ,a,ds,xs,o1,ds1,er,ho,rp,e1,fun H1 xs1 k1 ho1 rp1=>?_⟩
 cases o1 with
 | nx ρ2=>exact fun σ2 er2=>⟨ρ2,τ,a,ds1,xs1,o,er2,ho1,rp1,e,fun H2 k2=>qq H2 (k1.trans k2)⟩
 | rt d=>cases e;exact qq H1 k1
 | bk ρ2=>cases e
 | ct ρ2=>cases e
theorem ie(h:SS X sts u):OB X sts (ym u):=by
 intro pins s σ H E I ⟨ρ,τ,a,ds,xs,o,er,ho,rp,e,qq⟩
 have I2:=mW I ho
 have k:jN a H (upd H a (.lst xs)):=jN.upd
 have hσ:=dD er
 have er2:=er.kp (k.kp ho)
 refine h pins s σ _ E I2 ⟨ρ++[some (D.lst ds)],τ,o,⟨⟨?_,fun i d hd=>?_⟩,?_⟩,(show u (ρ++[some (D.lst ds)])=some o from e),fun H' s'=>qq H' (k.trans (jN.of s'))⟩
 ·have:=(List.getElem?_eq_some_iff.mp hσ).1
  rw[List.length_append,List.length_singleton]
  exact this
 ·by_cases hi:i<ρ.length
  ·rw[List.getElem?_append_left hi] at hd
   exact er2.1.2 i d hd
  ·by_cases hi2:i=ρ.length
   ·subst hi2
    rw[List.getElem?_append_right (Nat.le_refl _),Nat.sub_self] at hd
    cases hd
    exact⟨_,hσ,a,xs,rfl,ae,rp.kp (k.kp ho)⟩
   ·rw[List.getElem?_eq_none (by simp;omega)] at hd
    cases hd
 ·rw[List.length_append,List.length_singleton,<- List.drop_drop,er.2]
  rfl
theorem iN{x:Str}{es:List Expr}{F:R->Option LD}{w:R->LD->Option Out}{px p1:Pos}(i:Nat)(hN:X.N.Nodup)(hF:SA X es F)(h2:OB X sts w)(hix:X.N[i]?=some x:=by rfl)(hx:Loc X.env.scope x:=by first | exact Or.inl rfl | exact Or.inr rfl)
  (hl:Nat.ble es.length 1000=true:=by rfl) (hs:swapsWith (.List es p1) (some (.Name x px)) pos.line X.env=pure false:=by rfl) (hf:X.fn x=true\/X.env.scope.names.lookup x=some .local:=by first | exact .inl rfl | exact .inr rfl) :
  SS X (.Assign [.Name x px] (.List es p1) pos::sts) (Ak i F w):=by
 intro pins s σ H E I ⟨ρ,τ,o,er,e,qq⟩
 obtain⟨ds,e1,e⟩:=i5 e
 split at e
 case isFalse=>cases e
 case isTrue hlen =>
 refine wpAny_execs_cons (jC ((bG (i:=i) hN hix hx (cq hF.1) hs hf) pins s σ H {E with nx:=fun σ' H'=>∃a vs H1,σ'=σ.set i (some (.ref a))/\H'=upd H1 a (.lst vs)/\H1 a=none/\i9 H H1/\i4 X.K H1 ds vs} I ?_) fun f s1 q=>?_)
 ·refine⟨ρ,ds,er.1,e1,fun vs H1 s1 r1=>⟨?_,fun a ha=>⟨a,vs,H1,rfl,rfl,ha,s1,r1⟩⟩⟩
  rw[<- r1.length,hF.2.1 ρ ds e1]
  exact Nat.le_of_lt (m7 (Nat.le_of_ble_eq_true hl))
 cases f with
 | next =>
  obtain⟨σ',H',I',a,vs,H1,rfl,rfl,ha,s1',r1⟩:=q
  have I2:=m5 I' ae
  generalize hH2:upd (upd H1 a (.lst vs)) a (jH a vs)=H2 at I2
  have k12:jN a H1 H2:=by
   subst hH2
   exact jN.upd.trans jN.upd
  have s12:i9 H1 H2:=fun b u hb=>k12 b u (fun z=>by rw[z,ha] at hb;cases hb) hb
  have ho2:H2 a=some (jH a vs):=by subst hH2;exact ae
  have hσi:i<σ.length:=Nat.lt_of_lt_of_le (by omega) er.1.1
  refine h2 pins s1 _ H2 E I2 ⟨ρ.take i,τ,a,ds,vs,o,⟨⟨?_,fun j d hd=>?_⟩,?_⟩,ho2,r1.mono s12,e,fun H' k=>qq H' fun b u hb=>?_⟩
  ·simp
   omega
  ·have hj:j<i:=by
    have:=(List.getElem?_eq_some_iff.mp hd).1
    simp at this
    omega
   rw[List.getElem?_take_of_lt hj] at hd
   obtain⟨v,h1,h2⟩:=er.1.2 j d hd
   exact⟨v,by rw[List.getElem?_set_ne (by omega)];exact h1,(h2.mono s1').mono s12⟩
  ·have hd:σ.drop (i+1)=τ:=by rw[<- hlen];exact er.2
   rw[List.length_take,Nat.min_eq_left (by omega),List.drop_eq_getElem_cons (by simpa using hσi)]
   congr 1
   ·simp
   ·rw[List.drop_set_of_lt (by omega)]
    exact hd
  ·have hb2:=s12 _ _ (s1' _ _ hb)
   exact k b u (fun z=>by
    have q:=s1' _ _ hb
    rw[z,ha] at q
    cases q) hb2
 | brk=>exact q
 | cont=>exact q
 | ret v=>exact q
end
mutual
theorem di:∀d:D,oO d=true->(toPy d).canLay0=true
 | .non,_=>by simp[toPy,PyData.canLay0]
 | .bl _,_=>by simp[toPy,PyData.canLay0]
 | .int _,_=>by simp[toPy,PyData.canLay0]
 | .str _,h=>by rw[oO] at h;simpa [toPy,PyData.canLay0,PyData.strOk] using h
 | .tup ds,h=>by rw[toPy,PyData.canLay0];exact cb ds h
 | .lst ds,h=>by rw[toPy,PyData.canLay0];exact cb ds h
 | .fro ds,h=>by rw[toPy,PyData.canLay0];exact cb ds h
 | .obj ..,h=>by cases h
 | .dct ..,h=>by cases h
 | .dcp ..,h=>by cases h
 | .cl ..,h=>by cases h
theorem cb:∀ds:LD,lu ds=true->PyData.canLayAll0 (j_ ds)=true
 | [],_=>by simp[j_,PyData.canLayAll0]
 | d::ds,h=>by
  have h':(oO d&&lu ds)=true:=h
  rw[Bool.and_eq_true] at h'
  rw[j_,PyData.canLayAll0,di d h'.1,cb ds h'.2];rfl
end
mutual
theorem eG:∀d:D,l6 d=true->(toPy d).depth=mQ d
 | .non,_=>by simp[toPy,PyData.depth,mQ]
 | .bl _,_=>by simp[toPy,PyData.depth,mQ]
 | .int _,_=>by simp[toPy,PyData.depth,mQ]
 | .str _,_=>by simp[toPy,PyData.depth,mQ]
 | .tup ds,h=>by rw[toPy,PyData.depth,mQ,cH ds h]
 | .lst ds,h=>by rw[toPy,PyData.depth,mQ,cH ds h]
 | .fro ds,h=>by rw[toPy,PyData.depth,mQ,cH ds h]
 | .obj ..,h=>by cases h
 | .dct ..,h=>by cases h
 | .dcp ..,h=>by cases h
 | .cl ..,h=>by cases h
theorem cH:∀ds:LD,jS ds=true->PyData.depthAll (j_ ds)=nu ds
 | [],_=>by simp[j_,PyData.depthAll,nu]
 | d::ds,h=>by
  have h':(l6 d&&jS ds)=true:=h
  rw[Bool.and_eq_true] at h'
  rw[j_,PyData.depthAll,nu,eG d h'.1,cH ds h'.2]
end
mutual
theorem sJ:∀x y:D,l6 x=true->l6 y=true->PyData.eqv (toPy x) (toPy y)=wy x y
 | .non,y,_,h=>by cases y<;>first | rfl | cases h
 | .bl a,y,_,h=>by cases y<;>first | rfl | cases h
 | .int a,y,_,h=>by cases y<;>first | rfl | cases h
 | .str a,y,_,h=>by cases y<;>first | rfl | cases h
 | .tup xs,y,g,h=>by
  cases y with
  | tup ys=>exact lM xs ys g h
  | obj _ _ _ _=>cases h
  | dct _ _=>cases h
  | dcp _ _=>cases h
  | cl _ _ _=>cases h
  | _=>rfl
 | .lst xs,y,g,h=>by
  cases y with
  | lst ys=>exact lM xs ys g h
  | fro ys=>exact lM xs ys g h
  | obj _ _ _ _=>cases h
  | dct _ _=>cases h
  | dcp _ _=>cases h
  | cl _ _ _=>cases h
  | _=>rfl
 | .fro xs,y,g,h=>by
  cases y with
  | lst ys=>exact lM xs ys g h
  | fro ys=>exact lM xs ys g h
  | obj _ _ _ _=>cases h
  | dct _ _=>cases h
  | dcp _ _=>cases h
  | cl _ _ _=>cases h
  | _=>rfl
 | .obj ..,y,g,h=>by cases g
 | .dct ..,y,g,h=>by cases g
 | .dcp ..,y,g,h=>by cases g
 | .cl ..,y,g,h=>by cases g
theorem lM:∀xs ys:LD,jS xs=true->jS ys=true->PyData.eqvAll (j_ xs) (j_ ys)=qS xs ys
 | [],[],_,_=>rfl
 | [],_::_,_,_=>rfl
 | _::_,[],_,_=>rfl
 | x::xs,y::ys,g,h=>by
  have g':(l6 x&&jS xs)=true:=g
  have h':(l6 y&&jS ys)=true:=h
  rw[Bool.and_eq_true] at g' h'
  show(PyData.eqv (toPy x) (toPy y)&&PyData.eqvAll (j_ xs) (j_ ys))=(wy x y&&qS xs ys)
  rw[sJ x y g'.1 h'.1,lM xs ys g'.2 h'.2]
end
section
variable{X:Cx}
theorem uk{k:Nat}(hr:jy k X.A){dx dy:D}(h:mQ dx<=100)(hn:l6 dx=true):X.A.units+min (toPy dx).depth (toPy dy).depth<cLine:=by
 have h1:=hr.un
 have h2:min (toPy dx).depth (toPy dy).depth<=100:=by rw[eG dx hn];omega
 omega
theorem cU{k:Nat}(hr:jy k X.A):v9 X .NotEq mf:=by
 intro pins s σ H x y v u Q I rx ry h
 obtain⟨dx,dy,b,r1,r2,e,q⟩:=h
 unfold mf zT at e
 split at e
 ·rename_i hd
  cases e
  obtain⟨as,ra⟩:=lE I (a_ hd.2.1) r1 rx
  obtain⟨bs,rb⟩:=lE I (a_ hd.2.2) r2 ry
  have z:=SeqAt.rcNeAt_reads ra rb (di dx hd.2.1) (di dy hd.2.2) (uk (dy:=dy) hr hd.1 (a_ hd.2.1))
  rw[sJ _ _ (a_ hd.2.1) (a_ hd.2.2)] at z
  exact PySem.EqBoolInt.of_rcne z ⟨.bl (!wy dx dy),H,I,rfl,q⟩
 ·cases e
end
section
variable{prog:Program}{w:World}{A:Around}{R':Result->Shared->Prop}{I:Addr}{fp wr:List Addr}{n:Nat}{P:Nat->Value->Prop}{St:Nat->Heap->Prop}
abbrev yB(S:Addr)(vs:Array Value)(c:Nat)(h:Heap):Prop:=h.get? S=some {cls:=.type "list",dict:=none,data:=.seq vs c,slots:=#[]}
end
section
variable{prog:Program}{w:World}{A:Around}{E:Value->Shared->Prop}{s:Shared}
end
section
variable{X:Cx}
end
section
open PySem.SeqAt
open AutoSeq1 (wpAny_loadPart')
open MeetsSeq MeetsSeq2 MeetsSeq3 SeqRoads2
end
section
variable{X:Cx}
end
section
variable{X:Cx}
end
section
variable{X:Cx}{i k:Nat}{fa:Addr}{e a:Expr}{es:List Expr}{pos p:Pos}{f:R->OD}{F:R->Option LD}{G:LD->OD}
def Ci(P:Program)(w:World)(K:W.Frag)(mg:Str->Option Value)(base:Heap)(k:Nat)(fa:Addr)(G:LD->OD):Prop:=∃fd ps,jx P w K mg base kK k fa fd ps (pS K G)/\W.keepIn K (.ref fa)=true/\Binds K fd ps []
inductive Tab (P:Program) (w:World) (K:W.Frag) (mg:Str->Option Value) (base:Heap) (k:Nat):List (Str×(LD->OD))->List (Str×Value)->Prop
 | nil:Tab P w K mg base k [] []
 | cons {z:Str} {G:LD->OD} {fa:Addr} {t:List (Str×(LD->OD))} {vs:List (Str×Value)}:Ci P w K mg base k fa G->Tab P w K mg base k t vs->Tab P w K mg base k ((z,G)::t) ((z,.ref fa)::vs)
theorem Tab.get{P:Program}{w:World}{K:W.Frag}{mg:Str->Option Value}{base:Heap}{t:List (Str×(LD->OD))}{vs:List (Str×Value)}(h:Tab P w K mg base k t vs){z:Str}(e:t.lookup z=some G):∃fa,valueAt vs z=some (.ref fa)/\Ci P w K mg base k fa G:=by
 induction h with
 | nil=>cases e
 | @cons y G' fa t vs h1 h2 ih =>
  unfold valueAt
  rw[List.find?_cons]
  by_cases hz:y=z
  ·subst hz
   rw[List.lookup_cons,beq_self_eq_true] at e
   cases e
   simp
   exact h1
  ·rw[List.lookup_cons,beq_eq_false_iff_ne.mpr (fun q=>hz q.symm)] at e
   obtain⟨fb,q1,q2⟩:=ih e
   refine⟨fb,?_,q2⟩
   unfold valueAt at q1
   simp[hz]
   simpa using q1
def entries(w:World):List (Str×Tok×Value)->List DictEntry
 | []=>[]
 | (z,t,v)::r=>{hash:=PyData.keyHash w.params z,key:=.str z t,val:=v}::entries w r
end
section
variable{X:Cx}
end
end HW
namespace HW
open PySem
def nH:LD->Option (List Str)
 | []=>some []
 | d::r=>(sI d).bind fun x=>(nH r).map fun xs=>x::xs
def Au(sep:Str)(xs:List Str):Option Str:=if xs.toArray.foldl (fun n x=>n+x.length+sep.length) 0<=sizeLine/\(Builtin.Str.glued sep xs).length<=sizeLine then some (Builtin.Str.glued sep xs) else none
@[simp] def Cd:LD->OD
 | [.str s,.lst ds]=>(nH ds).bind fun xs=>(Au s xs).map .str
 | _=>none
@[simp] def Cj:LD->OD
 | [.str x]=>if x.length<=640 then (PySem.intText? x).map .int else none
 | _=>none
@[simp] def oh:LD->OD
 | [.str x]=>if x.length<=sizeLine then some (.int x.length) else none
 | _=>none
def jn?:D->Option LD
 | .tup xs=>some xs
 | .lst xs=>some xs
 | .str x=>if x.cps.all (·<128) then some (chars x) else none
 | _=>none
def lb(xs ys:LD):LD:=List.zipWith (fun x y=>D.tup [x,y]) xs ys
@[simp] def tU (f g:R->OD):R->Option LD:=fun ρ=>(f ρ).bind fun x=>(g ρ).bind fun y=>(jn? x).bind fun xs=>(jn? y).map fun ys=>lb xs ys
theorem lH(xs ys:LD):(lb xs ys).length=min xs.length ys.length:=by simp[lb]
theorem vF{xs ys:LD}{i:Nat}{d:D}(e:(lb xs ys)[i]?=some d):∃x y,xs[i]?=some x/\ys[i]?=some y/\d=.tup [x,y]:=by
 unfold lb at e
 rw[List.getElem?_zipWith] at e
 cases h1:xs[i]? with
 | none=>rw[h1] at e;cases e
 | some x=>cases h2:ys[i]? with
  | none=>rw[h1,h2] at e;cases e
  | some y=>rw[h1,h2] at e;exact⟨x,y,rfl,rfl,(Option.some.inj e).symm⟩
end HW
namespace HW
open PySem PySem.Spec PyProof.Rows L2
section
variable{X:Cx}{a:Expr}{f:R->OD}{pos p2:Pos}
end
theorem Cv{us:List Value}(h:us.length=1):∃x0,us=[x0]:=by
 match us,h with
 | [x0],_=>exact⟨x0,rfl⟩
theorem ln2{us:List Value}(h:us.length=2):∃x0 x1,us=[x0,x1]:=by
 match us,h with
 | [x0,x1],_=>exact⟨x0,x1,rfl⟩
theorem CM{us:List Value}(h:us.length=3):∃x0 x1 x2,us=[x0,x1,x2]:=by
 match us,h with
 | [x0,x1,x2],_=>exact⟨x0,x1,x2,rfl⟩
section
variable{X:Cx}
def Ck(X:Cx)(id:String)(G:LD->OD):Prop:=yr X id fun x vs H Q=>∃dx ds d,Rep X.K H dx x/\i4 X.K H ds vs/\G (dx::ds)=some d/\∀v H',i9 H H'->Rep X.K H' d v->Q v H'
theorem iT {a e:Expr} {es:List Expr} {f:R->OD} {F:R->Option LD} {G:LD->OD} {name:Str} {id:String} {ap cp:Pos} (slot:Slot "str" name id)
    (hty:typeOf (.builtin id)=pure (.type "method_descriptor")) (hm:Ck X id G) (hG:∀x ds d,G (x::ds)=some d->∃z,x=.str z) (ha:SE X a f) (hF:SA X (e::es) F)
    (hbase:attributeBase a name X.env (eval a X.env)=eval a X.env:=by rfl)
    (hfew:((backTo cp (starEach (e::es) X.env)).all (fun x=>!x.1)&&(backToKw cp (keywordEach [] X.env)).all (fun x=>x.1.isSome)
      && decide ((e::es).length+([]:List Keyword).length+(if ([]:List Keyword).isEmpty then 0 else 1)<30))=true:=by rfl)
    (hline:(ap.endLine==cp.line)=true:=by rfl) :
    SE X (.Call (.Attribute a name ap) (e::es) [] cp) (jc G (e8 f F)):=by
  have hst:=hF.2.2
  rw[List.all_cons,Bool.and_eq_true] at hst
  refine(ja (T:="str") PySem.F.plainAttrs_str slot hty hm ha hF.1 hbase hfew hline (av es X.env hst.1) (bq (pos:=cp) (env:=X.env) hst.2)).imp fun σ H Q ⟨ρ,d,er,e,q⟩=>?_
  obtain⟨dd,e1,e⟩:=i5 e
  obtain⟨x,e2,e1⟩:=i5 e1
  obtain⟨ds,e3,e1⟩:=jL e1
  subst e1
  obtain⟨z,rfl⟩:=hG x ds d e
  exact⟨ρ,_,er,e2,fun v H1 s1 r1=>⟨by cases (show v=_ from r1);exact rfl,ρ,ds,er.mono s1,e3,fun vs H2 s2 r2=>⟨.str z,ds,d,r1.mono s2,r2,e,fun u H3 s3 r3=>q u H3 (s1.trans (s2.trans s3)) r3⟩⟩⟩
theorem pj:∀{K:W.Frag} {H:Hp} {ds:LD} {vs:List V} {us:List Value} {xs:List Str},nH ds=some xs->i4 K H ds vs->jg vs us->∃l:List (Str×Tok),us=strValues l/\l.map (·.1)=xs
 | _,_,[],vs,us,xs,e,r,h=>by
  cases e
  cases (show vs=[] from r)
  cases h
  exact⟨[],rfl,rfl⟩
 | K,H,d::ds,vs,us,xs,e,r,h=>by
  obtain⟨x,e1,e⟩:=i5 e
  obtain⟨ys,e2,rfl⟩:=jL e
  obtain⟨v,vs',rfl,r1,r2⟩:=r
  have hv:=tm e1 r1
  subst hv
  cases h with
  | cons h1 h2 =>
   obtain⟨t,rfl⟩:=h1
   obtain⟨l,rfl,rfl⟩:=pj e2 r2 h2
   exact⟨(x,t)::l,rfl,rfl⟩
end
section
variable{prog:Program}{w:World}{A:Around}{E:Value->Shared->Prop}{s:Shared}
end
section
variable{X:Cx}
end
section
variable{X:Cx}
end
section
variable{X:Cx}
end
section
variable{X:Cx}{pins:List (Addr×Obj)}{σ:L2.St}{H:Hp}{s:Shared}{k:Nat}{y:Str}
end
end HW
namespace HW
open PySem
structure Ap (z TI TO i1 i2:Addr):Prop where
 a1:TI≠z
 a2:TO≠z
 a3:i1≠z
 a4:i2≠z
 a5:TI≠TO
 a6:TI≠i1
 a7:TI≠i2
 a8:TO≠i1
 a9:TO≠i2
 b1:i1≠i2
section
variable{prog:Program}{w:World}{A:Around}{E:Value->Shared->Prop}{g:_}{d:_}{os:_}
structure Nx (prog:Program) (w:World) (A:Around) (mk:Heap->Nat->Shared) (Good:Heap->Nat->Prop) (it:Addr) (st st':Heap->Prop) (P:Value->Prop):Prop where
 stay:∀h h',st h->(∀o,h.get? it=some o->h'.get? it=some o)->st h'
 stay':∀h h',st' h->(∀o,h.get? it=some o->h'.get? it=some o)->st' h'
 run:∀h tk (Q:Value->Shared->Prop) (E:Value->Shared->Prop),Good h tk->st h->(∀u h' tk',P u->st' h'->Heap.SameBut it h h'->Q u (mk h' tk')) ->
  wpAny (model prog w) A (Builtin.SmallTypes.nextOf (.ref it)) Q E (mk h tk)
structure Ne (prog:Program) (w:World) (A:Around) (mk:Heap->Nat->Shared) (Good:Heap->Nat->Prop) (it:Addr) (st:Heap->Prop):Prop where
 stay:∀h h',st h->(∀o,h.get? it=some o->h'.get? it=some o)->st h'
 run:∀h tk (Q:Value->Shared->Prop) (E:Value->Shared->Prop),Good h tk->st h->(∀h' e,Heap.ExtBut it h h'->(∃o,h'.get? e=some o/\o.cls=.type "StopIteration")->E (.ref e) (mk h' tk)) ->
  wpAny (model prog w) A (Builtin.SmallTypes.nextOf (.ref it)) Q E (mk h tk)
def jR(s:Shared)(h:Heap)(tk:Nat):Shared:={s with heap:=h,toks:=tk}
def Cl(Good:Heap->Nat->Prop)(cs:List Addr):Prop:=∀c∈cs,∀h tk h' tk',Good h tk->(∀b o,b≠c->h.get? b=some o->h'.get? b=some o)->Good h' tk'
variable{Good:Heap->Nat->Prop}{s:Shared}{z TI TO i1 i2:Addr}{a b:Value}{st1 st1' st2 st2':Heap->Prop}{P1 P2:Value->Prop}
theorem gl {Q:Value->Shared->Prop} (D:Ap z TI TO i1 i2) (hz:IsZip s.heap z TI TO .none) (hI:IsPair s.heap TI (.ref i1) (.ref i2)) (hO:IsPair s.heap TO a b)
    (g0:Good s.heap s.toks) (cl:Cl Good [z,TO,i1,i2]) (n1:Nx prog w A (jR s) Good i1 st1 st1' P1) (n2:Nx prog w A (jR s) Good i2 st2 st2' P2) (q1:st1 s.heap) (q2:st2 s.heap)
    (hQ:∀h5 tk u1 u2 h8,Good h5 tk->P1 u1->P2 u2->IsZip h5 z TI TO .ellipsis->IsPair h5 TI (.ref i1) (.ref i2)->IsPair h5 TO u1 u2->st1' h5->st2' h5->IsZip h8 z TI TO (rawInt h5.objs.size) ->
      (∀c o,c≠z->(h5.push {cls:=.type "tuple",data:=.seq #[u1,u2]}).get? c=some o->h8.get? c=some o)->Q (.ref h5.objs.size) (jR s h8 tk)) :
    wpAny (model prog w) A (Builtin.«zip.__next__» ⟨[.ref z],[]⟩) (fun fin s'=>∃v,fin=.done (.ret v)/\Q v s') E s:=by
  show wpAny _ _ (field (.ref z) 2 >>= _) _ _ _;refine wpAny_bind (wpAny_field hz rfl (x:=.bool false) rfl ?_)
  show wpAny _ _ (field (.ref z) 3 >>= _) _ _ _;refine wpAny_bind (wpAny_field hz rfl (x:=.ref TI) rfl ?_)
  refine wpAny_bind (wpAny_seqItems hI rfl ?_);show wpAny _ _ (Builtin.SmallTypes.ownedTupleIsFree (.ref z) >>= _) _ _ _
  refine wpAny_bind ?_;unfold Builtin.SmallTypes.ownedTupleIsFree
  refine wpAny_bind (wpAny_field hz rfl (x:=.none) rfl (wpAny_pure ?_));simp only[if_true]
  refine wpAny_bind (wpAny_rule ?_);refine wpAny_bind (wpAny_field hz rfl (x:=.ref TO) rfl ?_)
  refine wpAny_bind (wpAny_setField_rec hz (by simp) fun h1 hz1 s1=>?_)
  replace hz1:IsZip h1 z TI TO .ellipsis:=hz1
  have e1:∀b o,b≠z->s.heap.get? b=some o->h1.get? b=some o:=s1.extBut
  have g1:Good h1 s.toks:=cl z (by simp) _ _ _ _ g0 e1
  refine wpAny_bind ?_;simp only[List.zipIdx_cons,List.zipIdx_nil,List.forIn_cons,List.forIn_nil]
  refine wpAny_bind (wpAny_bind (wpAny_onRaise ?_));show wpAny _ _ (Builtin.SmallTypes.nextOf (.ref i1) >>= _) _ _ _
  refine wpAny_bind (n1.run h1 s.toks _ _ g1 (n1.stay _ _ q1 fun o=>e1 _ o D.a3) fun u1 h2 tk2 p1 t1 s2=>wpAny_pure ?_)
  have e2:∀b o,b≠i1->h1.get? b=some o->h2.get? b=some o:=s2.extBut
  have g2:Good h2 tk2:=cl i1 (by simp) _ _ _ _ g1 e2
  have O2:IsPair h2 TO a b:=e2 _ _ D.a8 (e1 _ _ D.a2 hO)
  refine wpAny_bind (wpAny_seqItems (s:=jR s h2 tk2) O2 rfl ?_)
  refine wpAny_bind (wpAny_updateSeq_pair (s:=jR s h2 tk2) O2 fun h3 O3 s3=>?_)
  replace O3:IsPair h3 TO u1 b:=O3
  have e3:∀b o,b≠TO->h2.get? b=some o->h3.get? b=some o:=s3.extBut
  have g3:Good h3 tk2:=cl TO (by simp) _ _ _ _ g2 e3
  refine wpAny_bind (wpAny_letGo (wpAny_pure ?_));refine wpAny_bind (wpAny_bind (wpAny_onRaise ?_))
  show wpAny _ _ (Builtin.SmallTypes.nextOf (.ref i2) >>= _) _ _ (jR s h3 tk2)
  refine wpAny_bind (n2.run h3 tk2 _ _ g3 (n2.stay _ _ q2 fun o q=>e3 _ o D.a9.symm (e2 _ o D.b1.symm (e1 _ o D.a4 q))) fun u2 h4 tk4 p2 t2 s4=>wpAny_pure ?_)
  have e4:∀b o,b≠i2->h3.get? b=some o->h4.get? b=some o:=s4.extBut
  have g4:Good h4 tk4:=cl i2 (by simp) _ _ _ _ g3 e4
  have O4:IsPair h4 TO u1 b:=e4 _ _ D.a9 O3
  refine wpAny_bind (wpAny_seqItems (s:=jR s h4 tk4) O4 rfl ?_)
  refine wpAny_bind (wpAny_updateSeq_pair (s:=jR s h4 tk4) O4 fun h5 O5 s5=>?_)
  replace O5:IsPair h5 TO u1 u2:=O5
  have e5:∀b o,b≠TO->h4.get? b=some o->h5.get? b=some o:=s5.extBut
  have g5:Good h5 tk4:=cl TO (by simp) _ _ _ _ g4 e5
  refine wpAny_bind (wpAny_letGo (wpAny_pure (wpAny_pure ?_)));refine wpAny_bind (wpAny_seqItems (s:=jR s h5 tk4) O5 rfl ?_)
  refine wpAny_bind (wpAny_newTuple (s:=jR s h5 tk4) ?_)
  have z5:IsZip h5 z TI TO .ellipsis:=e5 _ _ D.a2.symm (e4 _ _ D.a4.symm (e3 _ _ D.a2.symm (e2 _ _ D.a3.symm hz1)))
  have I5:IsPair h5 TI (.ref i1) (.ref i2):=e5 _ _ D.a5 (e4 _ _ D.a7 (e3 _ _ D.a5 (e2 _ _ D.a6 (e1 _ _ D.a1 hI))))
  show wpAny _ _ (Builtin.SmallTypes.ownedTupleHandOut (.ref z) (.ref h5.objs.size) >>= _) _ _ _
  refine wpAny_bind ?_;unfold Builtin.SmallTypes.ownedTupleHandOut
  have z6:IsZip (h5.push {cls:=.type "tuple",data:=.seq #[u1,u2]}) z TI TO .ellipsis:=Heap.get?_push_of_some _ z5
  refine wpAny_bind (wpAny_setField_rec (s:=jR s (h5.push {cls:=.type "tuple",data:=.seq #[u1,u2]}) tk4) z6 (by simp) fun h7 z7 s7=>?_)
  replace z7:IsZip h7 z TI TO (rawInt h5.objs.size):=z7
  refine wpAny_setField_rec (s:=jR s h7 tk4) z7 (by simp) fun h8 z8 s8=>?_
  replace z8:IsZip h8 z TI TO (rawInt h5.objs.size):=z8
  exact wpAny_pure ⟨_,rfl,hQ h5 tk4 u1 u2 h8 g5 p1 p2 z5 I5 O5 (n1.stay' _ _ t1 fun o q=>e5 _ o D.a8.symm (e4 _ o D.b1 (e3 _ o D.a8.symm q))) (n2.stay' _ _ t2 fun o q=>e5 _ o D.a9.symm q) z8
    fun c o n q=>s8.extBut _ _ n (s7.extBut _ _ n q)⟩
theorem gh{Q:Fin->Shared->Prop}(D:Ap z TI TO i1 i2)(hz:IsZip s.heap z TI TO .none)(hI:IsPair s.heap TI (.ref i1) (.ref i2))(hO:IsPair s.heap TO a b)
  (g0:Good s.heap s.toks) (cl:Cl Good [z,TO,i1,i2]) (q1:st1 s.heap) (q2:st2 s.heap)
  (n:Ne prog w A (jR s) Good i1 st1\/(Nx prog w A (jR s) Good i1 st1 st1' P1/\Ne prog w A (jR s) Good i2 st2))
  (hE:∀h' tk e,Good h' tk->(∃o,h'.get? e=some o/\o.cls=.type "StopIteration")->E (.ref e) (jR s h' tk)) :
  wpAny (model prog w) A (Builtin.«zip.__next__» ⟨[.ref z],[]⟩) Q E s:=by
 show wpAny _ _ (field (.ref z) 2 >>= _) _ _ _;refine wpAny_bind (wpAny_field hz rfl (x:=.bool false) rfl ?_)
 show wpAny _ _ (field (.ref z) 3 >>= _) _ _ _;refine wpAny_bind (wpAny_field hz rfl (x:=.ref TI) rfl ?_)
 refine wpAny_bind (wpAny_seqItems hI rfl ?_);show wpAny _ _ (Builtin.SmallTypes.ownedTupleIsFree (.ref z) >>= _) _ _ _
 refine wpAny_bind ?_;unfold Builtin.SmallTypes.ownedTupleIsFree
 refine wpAny_bind (wpAny_field hz rfl (x:=.none) rfl (wpAny_pure ?_));simp only[if_true]
 refine wpAny_bind (wpAny_rule ?_);refine wpAny_bind (wpAny_field hz rfl (x:=.ref TO) rfl ?_)
 refine wpAny_bind (wpAny_setField_rec hz (by simp) fun h1 hz1 s1=>?_)
 replace hz1:IsZip h1 z TI TO .ellipsis:=hz1
 have e1:∀b o,b≠z->s.heap.get? b=some o->h1.get? b=some o:=s1.extBut
 have g1:Good h1 s.toks:=cl z (by simp) _ _ _ _ g0 e1
 refine wpAny_bind ?_;simp only[List.zipIdx_cons,List.zipIdx_nil,List.forIn_cons,List.forIn_nil]
 refine wpAny_bind (wpAny_bind (wpAny_onRaise ?_));show wpAny _ _ (Builtin.SmallTypes.nextOf (.ref i1) >>= _) _ _ _
 rcases n with n | ⟨n1,n2⟩
 ·refine wpAny_bind (n.run h1 s.toks _ _ g1 (n.stay _ _ q1 fun o=>e1 _ o D.a3) fun h2 e s2 he=>?_)
  obtain⟨oe,q,ce⟩:=he
  have z2:IsZip h2 z TI TO .ellipsis:=s2 _ _ D.a3.symm hz1
  have ne:e≠z:=fun x=>by rw[x,z2] at q;cases q;simp at ce
  refine wpAny_setField_rec (s:=jR s h2 s.toks) z2 (by simp) fun h3 _ s3=>hE h3 s.toks e ?_ ⟨oe,s3.extBut _ _ ne q,ce⟩
  exact cl z (by simp) _ _ _ _ (cl i1 (by simp) _ _ _ s.toks g1 s2) s3.extBut
 ·refine wpAny_bind (n1.run h1 s.toks _ _ g1 (n1.stay _ _ q1 fun o=>e1 _ o D.a3) fun u1 h2 tk2 p1 t1 s2=>wpAny_pure ?_)
  have e2:∀b o,b≠i1->h1.get? b=some o->h2.get? b=some o:=s2.extBut
  have g2:Good h2 tk2:=cl i1 (by simp) _ _ _ _ g1 e2
  have O2:IsPair h2 TO a b:=e2 _ _ D.a8 (e1 _ _ D.a2 hO)
  refine wpAny_bind (wpAny_seqItems (s:=jR s h2 tk2) O2 rfl ?_)
  refine wpAny_bind (wpAny_updateSeq_pair (s:=jR s h2 tk2) O2 fun h3 O3 s3=>?_)
  have e3:∀b o,b≠TO->h2.get? b=some o->h3.get? b=some o:=s3.extBut
  have g3:Good h3 tk2:=cl TO (by simp) _ _ _ _ g2 e3
  refine wpAny_bind (wpAny_letGo (wpAny_pure ?_));refine wpAny_bind (wpAny_bind (wpAny_onRaise ?_))
  show wpAny _ _ (Builtin.SmallTypes.nextOf (.ref i2) >>= _) _ _ (jR s h3 tk2)
  refine wpAny_bind (n2.run h3 tk2 _ _ g3 (n2.stay _ _ q2 fun o q=>e3 _ o D.a9.symm (e2 _ o D.b1.symm (e1 _ o D.a4 q))) fun h4 e s4 he=>?_)
  obtain⟨oe,q,ce⟩:=he
  have z4:IsZip h4 z TI TO .ellipsis:=s4 _ _ D.a4.symm (e3 _ _ D.a2.symm (e2 _ _ D.a3.symm hz1))
  have ne:e≠z:=fun x=>by rw[x,z4] at q;cases q;simp at ce
  refine wpAny_setField_rec (s:=jR s h4 tk2) z4 (by simp) fun h5 _ s5=>hE h5 tk2 e ?_ ⟨oe,s5.extBut _ _ ne q,ce⟩
  exact cl z (by simp) _ _ _ _ (cl i2 (by simp) _ _ _ tk2 g3 s4) s5.extBut
theorem cS {Q:Value->Shared->Prop} (D:Ap z TI TO i1 i2) (hz:IsZip s.heap z TI TO .none) (hI:IsPair s.heap TI (.ref i1) (.ref i2)) (hO:IsPair s.heap TO a b)
    (g0:Good s.heap s.toks) (cl:Cl Good [z,TO,i1,i2]) (n1:Nx prog w A.in1 (jR s) Good i1 st1 st1' P1) (n2:Nx prog w A.in1 (jR s) Good i2 st2 st2' P2) (q1:st1 s.heap) (q2:st2 s.heap)
    (hQ:∀h5 tk u1 u2 h8,Good h5 tk->P1 u1->P2 u2->IsZip h5 z TI TO .ellipsis->IsPair h5 TI (.ref i1) (.ref i2)->IsPair h5 TO u1 u2->st1' h5->st2' h5->IsZip h8 z TI TO (rawInt h5.objs.size) ->
      (∀c o,c≠z->(h5.push {cls:=.type "tuple",data:=.seq #[u1,u2]}).get? c=some o->h8.get? c=some o)->Q (.ref h5.objs.size) (jR s h8 tk)) :
    wpAny (model prog w) A (pyNext (.ref z)) (fun r s'=>∃v,r=some v/\Q v s') E s:=by
  have hT:s.TypeIs (.ref z) "zip":=⟨_,hz,rfl⟩
  unfold pyNext
  exact wpAny_bind (wpAny_attempt (wpAny_callSpecial?_slot (name:=oS "__next__") hT F.slot_zip_next (wpAny_call_entry F.slot_zip_next hT F.entry_zip_next
      (gl (Q:=fun v s'=>_) D hz hI hO g0 cl n1 n2 q1 q2 fun h5 tk u1 u2 h8 c1 c2 c3 c4 c5 c6 c7 c8 c9 c10=>wpAny_pure ⟨_,rfl,hQ h5 tk u1 u2 h8 c1 c2 c3 c4 c5 c6 c7 c8 c9 c10⟩) (F.args_zip_next_1 _))))
theorem fO{Q:Option Value->Shared->Prop}(D:Ap z TI TO i1 i2)(hz:IsZip s.heap z TI TO .none)(hI:IsPair s.heap TI (.ref i1) (.ref i2))(hO:IsPair s.heap TO a b)
  (g0:Good s.heap s.toks) (cl:Cl Good [z,TO,i1,i2]) (q1:st1 s.heap) (q2:st2 s.heap)
  (n:Ne prog w A.in1 (jR s) Good i1 st1\/(Nx prog w A.in1 (jR s) Good i1 st1 st1' P1/\Ne prog w A.in1 (jR s) Good i2 st2))
  (hQ:∀h' tk,Good h' tk->Q none (jR s h' tk)):wpAny (model prog w) A (pyNext (.ref z)) Q E s:=by
 have hT:s.TypeIs (.ref z) "zip":=⟨_,hz,rfl⟩
 unfold pyNext
 refine wpAny_bind (wpAny_attempt (wpAny_callSpecial?_slot (name:=oS "__next__") hT F.slot_zip_next (wpAny_call_entry F.slot_zip_next hT F.entry_zip_next
  (gh D hz hI hO g0 cl q1 q2 n fun h' tk e gg he=>?_) (F.args_zip_next_1 _))))
 obtain⟨o,ho,hc⟩:=he
 exact wpAny_bind (wpAny_isInstance (s:=jR s h' tk) (T:="StopIteration") (b:=true) ⟨o,ho,hc⟩ isSubtype_stop (wpAny_pure (hQ _ _ gg)))
theorem bZ{it l:Addr}{i:Nat}{items}{x:Value}{Q:Value->Shared->Prop}(hit:s.heap.IsTupleIter it l i)(hl:s.heap.IsTuple l items)(hx:items[i]?=some x)
  (hQ:∀h',h'.IsTupleIter it l (i+1)->Heap.SameBut it s.heap h'->Q x {s with heap:=h' }):wpAny (model prog w) A (Builtin.SmallTypes.nextOf (.ref it)) Q E s:=by
 obtain⟨o,ho,hc,hd⟩:=id hit
 obtain⟨ol,hol,_,nl,hdl⟩:=hl
 unfold Builtin.SmallTypes.nextOf
 refine wpAny_bind (wpAny_callSpecial?_slot (name:=oS "__next__") hit.typeIs F.slot_tuple_iterator_next (wpAny_call_entry F.slot_tuple_iterator_next hit.typeIs F.entry_tuple_iterator_next ?_ (F.args_tuple_iterator_next_1 _)))
 show wpAny _ _ (field (.ref it) 0 >>= _) _ _ s;refine wpAny_bind (wpAny_field ho hd (x:=.ref l) rfl ?_)
 show wpAny _ _ (if (Value.ref l==Value.none)=true then _ else _) _ _ s;rw[if_neg (show ¬ ((Value.ref l==Value.none)=true) from Bool.false_ne_true)]
 show wpAny _ _ (field (.ref it) 1 >>= _) _ _ s;refine wpAny_bind (wpAny_field ho hd (x:=.int i 0) rfl ?_)
 show wpAny _ _ (seqItems? (.ref l) >>= _) _ _ s;refine wpAny_bind (wpAny_seqItems hol hdl ?_)
 simp only[Int.toNat_natCast,hx]
 refine wpAny_bind (wpAny_setField ho hd (by simp) (wpAny_pure ⟨x,rfl,wpAny_pure (hQ _ ⟨_,Heap.get?_update_self _ ho (Obj.isFreed_of_fields (Obj.data_mapFields hd _)),(Obj.cls_mapFields ..).trans hc,?_⟩ (Heap.SameBut.update ..))⟩))
 rw[Obj.data_mapFields hd];simp[rawInt]
theorem cu{it l:Addr}{i:Nat}{items}{Q:Value->Shared->Prop}(hh:A.handled=none)(hit:s.heap.IsTupleIter it l i)(hl:s.heap.IsTuple l items)(hx:items[i]?=none)
  (hE:∀h' e,Heap.ExtBut it s.heap h'->(∃o,h'.get? e=some o/\o.cls=.type "StopIteration")->E (.ref e) {s with heap:=h' }):wpAny (model prog w) A (Builtin.SmallTypes.nextOf (.ref it)) Q E s:=by
 obtain⟨o,ho,hc,hd⟩:=id hit
 obtain⟨ol,hol,_,nl,hdl⟩:=hl
 unfold Builtin.SmallTypes.nextOf
 refine wpAny_bind (wpAny_callSpecial?_slot (name:=oS "__next__") hit.typeIs F.slot_tuple_iterator_next (wpAny_call_entry F.slot_tuple_iterator_next hit.typeIs F.entry_tuple_iterator_next ?_ (F.args_tuple_iterator_next_1 _)))
 show wpAny _ _ (field (.ref it) 0 >>= _) _ _ s;refine wpAny_bind (wpAny_field ho hd (x:=.ref l) rfl ?_)
 show wpAny _ _ (if (Value.ref l==Value.none)=true then _ else _) _ _ s;rw[if_neg (show ¬ ((Value.ref l==Value.none)=true) from Bool.false_ne_true)]
 show wpAny _ _ (field (.ref it) 1 >>= _) _ _ s;refine wpAny_bind (wpAny_field ho hd (x:=.int i 0) rfl ?_)
 show wpAny _ _ (seqItems? (.ref l) >>= _) _ _ s;refine wpAny_bind (wpAny_seqItems hol hdl ?_)
 simp only[Int.toNat_natCast,hx]
 refine wpAny_bind (wpAny_rule (wpAny_bind (wpAny_setField ho hd (by simp) ?_)));show wpAny _ _ (newExc (.type "StopIteration") [] >>= _) _ _ _
 refine wpAny_bind ?_;simp only[newExc,newTuple]
 refine wpAny_bind (wpAny_newObj_type ?_ (by size_fits));refine wpAny_bind (m:=firstArgMember _ _) (wpAny_of_eq (a:=Value.none) (by first | rfl | (simp only[firstArgMember];rfl)) ?_)
 refine wpAny_newObj_type ?_ (by size_fits);simp only[raiseNew]
 refine wpAny_bind (wpAny_handled ?_);first | rw[show A.in1.handled=none from hh] | rw[hh]
 exact wpAny_bind (wpAny_pure (wpAny_throw (hE _ _ (((Heap.SameBut.update ..).extBut.push _).push _) ⟨_,Heap.get?_push_size _ rfl,rfl⟩)))
inductive Src where
 | lst (a:Addr)
 | tup (a:Addr)
 | txt (x:Str) (t:Tok)
def Src.val:Src->Value
 | .lst a=>.ref a
 | .tup a=>.ref a
 | .txt x t=>.str x t
def Src.obj:Src->Obj
 | .lst a=>{cls:=.type "list_iterator",data:=.fields #[.ref a,.int 0 0]}
 | .tup a=>{cls:=.type "tuple_iterator",data:=.fields #[.ref a,.int 0 0]}
 | .txt x t=>{cls:=.type "str_ascii_iterator",data:=.fields #[.str x t,.int 0 0]}
def Src.ok(h:Heap):Src->Prop
 | .lst a=>∃xs,h.IsList a xs
 | .tup a=>∃xs,h.IsTuple a xs
 | .txt x _=>x.cps.all (·<128)=true
def Src.at(it:Addr)(i:Nat)(h:Heap):Src->Prop
 | .lst a=>h.IsListIter it a i
 | .tup a=>h.IsTupleIter it a i
 | .txt x t=>h.IsStrIter it "str_ascii_iterator" x t i
theorem Src.iter{S:Src}{Q:Value->Shared->Prop}(h:S.ok s.heap)(hQ:Q (.ref s.heap.objs.size) {s with heap:=s.heap.push S.obj}):wpAny (model prog w) A (pyIter S.val) Q E s:=by
 cases S with
 | lst a=>obtain⟨xs,h⟩:=h;exact wpAny_pyIter_list h hQ
 | tup a=>obtain⟨xs,h⟩:=h;exact wpAny_pyIter_tuple h hQ
 | txt x t=>exact wpAny_pyIter_ascii h hQ
theorem Src.keep{S:Src}{it:Addr}{i:Nat}{h h':Heap}(q:S.at it i h)(k:∀o,h.get? it=some o->h'.get? it=some o):S.at it i h':=by
 cases S with
 | lst a=>exact Heap.IsListIter.at q k
 | tup a=>obtain⟨o,e,r⟩:=q;exact⟨o,k o e,r⟩
 | txt x t=>obtain⟨o,e,r⟩:=q;exact⟨o,k o e,r⟩
theorem Src.obj_at{S:Src}{it:Addr}{i:Nat}{h:Heap}(q:S.at it i h):∃o,h.get? it=some o/\∀v,o.data≠.cell v:=by
 cases S with
 | lst a=>obtain⟨o,e,c,d⟩:=q;exact⟨o,e,fun v z=>by rw[d] at z;cases z⟩
 | tup a=>obtain⟨o,e,c,d⟩:=q;exact⟨o,e,fun v z=>by rw[d] at z;cases z⟩
 | txt x t=>obtain⟨o,e,c,d⟩:=q;exact⟨o,e,fun v z=>by rw[d] at z;cases z⟩
theorem Src.start{S:Src}{it:Addr}{h:Heap}(q:h.get? it=some S.obj):S.at it 0 h:=by
 cases S<;>exact⟨_,q,rfl,rfl⟩
theorem Src.nx {S:Src} {it:Addr} {i:Nat} {P:Value->Prop} (hx:∀h tk,Good h tk->match S with
  | .lst a=>∃xs x,h.IsList a xs/\xs[i]?=some x/\P x
  | .tup a=>∃xs x,h.IsTuple a xs/\xs[i]?=some x/\P x
  | .txt x _=>∃c,x.cps[i]?=some c/\∀u,P (.str ⟨#[c]⟩ u)):Nx prog w A (jR s) Good it (fun h=>S.at it i h) (fun h=>S.at it (i+1) h) P where
 stay:=fun _ _ q k=>Src.keep q k
 stay':=fun _ _ q k=>Src.keep q k
 run:=fun h tk Q E gg q hQ=>by
  have z:=hx h tk gg
  cases S with
  | lst a=>obtain⟨xs,x,l,e,p⟩:=z;exact wpAny_nextOf_list_item (s:=jR s h tk) q l e fun h' q' sb=>hQ x h' tk p q' sb
  | tup a=>obtain⟨xs,x,l,e,p⟩:=z;exact bZ (s:=jR s h tk) q l e fun h' q' sb=>hQ x h' tk p q' sb
  | txt x t=>obtain⟨c,e,p⟩:=z;exact wpAny_nextOf_ascii_item (s:=jR s h tk) q e fun h' q' sb=>hQ _ h' (tk+1) (p _) q' sb
theorem Src.ne {S:Src} {it:Addr} {i:Nat} (hh:A.handled=none) (hx:∀h tk,Good h tk->match S with
  | .lst a=>∃xs,h.IsList a xs/\xs[i]?=none
  | .tup a=>∃xs,h.IsTuple a xs/\xs[i]?=none
  | .txt x _=>x.cps[i]?=none):Ne prog w A (jR s) Good it (fun h=>S.at it i h) where
 stay:=fun _ _ q k=>Src.keep q k
 run:=fun h tk Q E gg q hQ=>by
  have z:=hx h tk gg
  cases S with
  | lst a=>obtain⟨xs,l,e⟩:=z;exact wpAny_nextOf_list_end (s:=jR s h tk) hh q l e hQ
  | tup a=>obtain⟨xs,l,e⟩:=z;exact cu (s:=jR s h tk) hh q l e hQ
  | txt x t=>exact wpAny_nextOf_ascii_end (s:=jR s h tk) hh q z hQ
end
def ww(h:Heap)(S T:Src):Heap:=(((h.push S.obj).push T.obj).push {cls:=.type "tuple",data:=.seq #[.ref h.objs.size,.ref (h.push S.obj).objs.size]}).push {cls:=.type "tuple",data:=.seq #[.none,.none]}
def zO(h:Heap)(S T:Src):Obj:={cls:=.type "zip",data:=.fields #[.none,.bool false,.bool false,.ref ((h.push S.obj).push T.obj).objs.size,
 .ref (((h.push S.obj).push T.obj).push {cls:=.type "tuple",data:=.seq #[.ref h.objs.size,.ref (h.push S.obj).objs.size]}).objs.size]}
theorem Src.ok_push{S T:Src}{h:Heap}(q:T.ok h):T.ok (h.push S.obj):=by
 cases T with
 | lst a=>obtain⟨xs,q⟩:=q;exact⟨xs,Heap.IsList.push q _⟩
 | tup a=>obtain⟨xs,o,e,r⟩:=q;exact⟨xs,o,Heap.get?_push_of_some _ e,r⟩
 | txt x t=>exact q
theorem gQ(S T:Src):Meets (Builtin.«zip.__new__» ⟨[.type "zip",S.val,T.val],[]⟩) (fun _ R s=>S.ok s.heap/\T.ok s.heap/\R (.ok (.ret (.ref (ww s.heap S T).objs.size))) {s with heap:=(ww s.heap S T).push (zO s.heap S T)}):=
 .of_wp fun prog w A R s h=>by
  obtain⟨hp,g,d,tk,os⟩:=s;obtain⟨q1,q2,h⟩:=h
  have hsub:=sub_zip
  have r1:Src.ok (Shared.heap ⟨hp,g,d,tk,os⟩) S:=q1
  have r2:Src.ok (Shared.heap ⟨hp.push S.obj,g,d,tk,os⟩) T:=Src.ok_push q2
  wp_walk using Src.iter r1,Src.iter r2
  exact⟨_,rfl,h⟩
section
variable{prog:Program}{w:World}{A:Around}{E:Value->Shared->Prop}{s:Shared}
theorem yK(n:Nat):Ap (n+4) (n+2) (n+3) n (n+1):=by
 have k:∀a b:Nat,a≠b->(show Addr from a)≠(show Addr from b):=fun a b h=>h
 constructor<;>exact k _ _ (by omega)
theorem dP {S T:Src} {Q:Value->Shared->Prop} (h1:S.ok s.heap) (h2:T.ok s.heap)
    (h:∀h' z TI TO i1 i2,Ap z TI TO i1 i2->IsZip h' z TI TO .none->IsPair h' TI (.ref i1) (.ref i2)->IsPair h' TO .none .none->S.at i1 0 h'->T.at i2 0 h'->(∀c ∈ [z,TI,TO,i1,i2],s.heap.objs.size<=c) ->
      (∀c o,s.heap.get? c=some o->h'.get? c=some o)->Q (.ref z) {s with heap:=h' }):wpAny (model prog w) A (call (.type "zip") [S.val,T.val]) Q E s:=by
  refine callType_new F.called_zip (by decide) (F.typeCall_zip_2 _ _) (F.newCall_zip_2 _ _) (fun obj=>F.args_object_init_3 obj _ _) F.entry_zip_new (gQ S T) ⟨h1,h2,?_⟩
  have z1:(s.heap.push S.obj).objs.size=s.heap.objs.size+1:=Heap.size_push ..
  have z2:((s.heap.push S.obj).push T.obj).objs.size=s.heap.objs.size+2:=by rw[Heap.size_push,z1]
  have z3:(((s.heap.push S.obj).push T.obj).push {cls:=.type "tuple",data:=.seq #[.ref s.heap.objs.size,.ref (s.heap.push S.obj).objs.size]}).objs.size=s.heap.objs.size+3:=by rw[Heap.size_push,z2]
  have z4:(ww s.heap S T).objs.size=s.heap.objs.size+4:=by unfold ww;rw[Heap.size_push,z3]
  have k1:∀c o,(s.heap.push S.obj).get? c=some o->((ww s.heap S T).push (zO s.heap S T)).get? c=some o:=fun c o e=>Heap.get?_push_of_some _ (Heap.get?_push_of_some _ (Heap.get?_push_of_some _ (Heap.get?_push_of_some _ e)))
  have g1:=k1 _ _ (Heap.get?_push_size s.heap (o:=S.obj) (by cases S<;>rfl))
  have g2:((ww s.heap S T).push (zO s.heap S T)).get? (s.heap.push S.obj).objs.size=some T.obj:=Heap.get?_push_of_some _ (Heap.get?_push_of_some _ (Heap.get?_push_of_some _ (Heap.get?_push_size _ (by cases T<;>rfl))))
  have g3:((ww s.heap S T).push (zO s.heap S T)).get? ((s.heap.push S.obj).push T.obj).objs.size=some _:=Heap.get?_push_of_some _ (Heap.get?_push_of_some _ (Heap.get?_push_size _ rfl))
  have g4:((ww s.heap S T).push (zO s.heap S T)).get? (((s.heap.push S.obj).push T.obj).push {cls:=.type "tuple",data:=.seq #[.ref s.heap.objs.size,.ref (s.heap.push S.obj).objs.size]}).objs.size=some _:=Heap.get?_push_of_some _ (Heap.get?_push_size _ rfl)
  have g5:((ww s.heap S T).push (zO s.heap S T)).get? (ww s.heap S T).objs.size=some _:=Heap.get?_push_size _ rfl
  refine⟨⟨_,g5,rfl⟩,h _ _ _ _ _ _ ?_ g5 g3 g4 (Src.start g1) (Src.start g2) ?_ fun c o e=>k1 c o (Heap.get?_push_of_some _ e)⟩
  · rw[z4,z3,z2,z1]
    exact yK _
  · rw[z4,z3,z2,z1]
    intro c hc
    simp only[List.mem_cons,List.not_mem_nil,or_false] at hc
    rcases hc with rfl | rfl | rfl | rfl | rfl
    · exact Nat.le_add_right _ 4
    · exact Nat.le_add_right _ 2
    · exact Nat.le_add_right _ 3
    · exact Nat.le_refl _
    · exact Nat.le_add_right _ 1
end
end HW
namespace HW
open PySem PySem.Spec PyProof.Rows L2
def Src.go(K:W.Frag)(i:Nat)(H:Hp)(v:V):Src->Prop
 | .lst a=>∃xs,kN K H a xs/\xs[i]?=some v
 | .tup a=>∃xs,kr K H a xs/\xs[i]?=some v
 | .txt x _=>∃c,x.cps[i]?=some c/\v=.str ⟨#[c]⟩
def Src.stop(K:W.Frag)(i:Nat)(H:Hp):Src->Prop
 | .lst a=>∃xs,kN K H a xs/\xs.length<=i
 | .tup a=>∃xs,kr K H a xs/\xs.length<=i
 | .txt x _=>x.cps.size<=i
def Cc(K:W.Frag)(S T:Src):It:=⟨fun i H=>(∃v,S.go K i H v)/\∃u,T.go K i H u,
 fun i H x H'=>∃a v u,x=.ref a/\H a=none/\H'=upd H a (.tup [v,u])/\(∀v',S.go K i H v'->v'=v)/\∀u',T.go K i H u'->u'=u,
 fun i H=>S.stop K i H\/((∃v,S.go K i H v)/\T.stop K i H)⟩
section
variable{X:Cx}{pins:List (Addr×Obj)}{σ:L2.St}{H:Hp}{s:Shared}{S:Src}{i:Nat}{v:V}
theorem bS{A:Around}{it:Addr}(q:S.go X.K i H v):Nx X.prog X.w A (jR s) (fun h tk=>L2.Inv X pins σ H (jR s h tk)) it (fun h=>S.at it i h) (fun h=>S.at it (i+1) h) (RelV v):=by
 refine Src.nx fun h tk I=>?_
 cases S with
 | lst a =>
  obtain⟨xs,hq,hx⟩:=q
  obtain⟨its,rv,p,hz⟩:=I.list hq
  obtain⟨u,hu,ru⟩:=rv.get hx
  exact⟨_,u,p.isList,by simpa using hu,ru⟩
 | tup a =>
  obtain⟨xs,hq,hx⟩:=q
  obtain⟨its,rv,p,hz⟩:=I.tuple hq
  obtain⟨u,hu,ru⟩:=rv.get hx
  exact⟨its.toArray,u,p,by simpa using hu,ru⟩
 | txt x t =>
  obtain⟨c,hc,e⟩:=q
  subst e
  exact⟨c,hc,fun u=>⟨u,rfl⟩⟩
theorem eE{A:Around}{it:Addr}(hh:A.handled=none)(q:S.stop X.K i H):Ne X.prog X.w A (jR s) (fun h tk=>L2.Inv X pins σ H (jR s h tk)) it (fun h=>S.at it i h):=by
 refine Src.ne hh fun h tk I=>?_
 cases S with
 | lst a =>
  obtain⟨xs,hq,hx⟩:=q
  obtain⟨its,rv,p,hz⟩:=I.list hq
  have hl:=rv.length
  exact⟨_,p.isList,by simp;omega⟩
 | tup a =>
  obtain⟨xs,hq,hx⟩:=q
  obtain⟨its,rv,p,hz⟩:=I.tuple hq
  have hl:=rv.length
  exact⟨its.toArray,p,by simp;omega⟩
 | txt x t=>exact Array.getElem?_eq_none q
theorem e_{v':V}(I:L2.Inv X pins σ H s)(q:S.go X.K i H v)(q':S.go X.K i H v'):v'=v:=by
 cases S with
 | lst a =>
  obtain⟨xs,hq,hx⟩:=q
  obtain⟨ys,hq',hy⟩:=q'
  rw[I.list_inj hq' hq,hx] at hy
  exact(Option.some.inj hy).symm
 | tup a =>
  obtain⟨xs,hq,hx⟩:=q
  obtain⟨ys,hq',hy⟩:=q'
  rw[I.tuple_inj hq' hq,hx] at hy
  exact(Option.some.inj hy).symm
 | txt x t =>
  obtain⟨c,hc,e⟩:=q
  obtain⟨c',hc',e'⟩:=q'
  rw[hc] at hc'
  cases hc'
  rw[e,e']
end
theorem v6{P:Program}{w:World}{K:W.Frag}{es:List Expr}{x1:_}{tp:Pos}{z TI TO i1 i2:Addr}(S T:Src)(D:Ap z TI TO i1 i2) :
  Turn P w K (.Tuple es x1 tp) (Cc K S T) [z,TI,TO,i1,i2] z (fun i h=>IsZip h z TI TO .none/\IsPair h TI (.ref i1) (.ref i2)/\(∃a b,IsPair h TO a b)/\S.at i1 i h/\T.at i2 i h) where
 mem:=List.mem_cons_self
 obj:=fun i h ⟨q1,q2,⟨a,b,q3⟩,q4,q5⟩ c hc=>by
  simp only[List.mem_cons,List.not_mem_nil,or_false] at hc
  rcases hc with rfl | rfl | rfl | rfl | rfl
  ·exact⟨_,q1,fun v e=>nomatch (show Data.fields _=Data.cell v from e)⟩
  ·exact⟨_,q2,fun v e=>nomatch (show Data.seq _=Data.cell v from e)⟩
  ·exact⟨_,q3,fun v e=>nomatch (show Data.seq _=Data.cell v from e)⟩
  ·exact Src.obj_at q4
  ·exact Src.obj_at q5
 keep:=fun i h h' ⟨q1,q2,⟨a,b,q3⟩,q4,q5⟩ k=>⟨k _ (by simp) _ q1,k _ (by simp) _ q2,⟨a,b,k _ (by simp) _ q3⟩,Src.keep q4 (k _ (by simp)),Src.keep q5 (k _ (by simp))⟩
 item:=by
  rintro X rfl rfl rfl hc i pins s σ H E I hf ⟨q1,q2,⟨a,b,q3⟩,q4,q5⟩ ⟨⟨v,g1⟩,⟨u,g2⟩⟩
  have cl:Cl (fun h tk=>L2.Inv X pins σ H (jR s h tk)) [z,TO,i1,i2]:=fun c hc h tk h' tk' J k=>by
   obtain⟨f0,f1,f2,f3,f4,f5⟩:=hf c (by simp only[List.mem_cons,List.not_mem_nil,or_false] at hc ⊢;rcases hc with rfl | rfl | rfl | rfl<;>simp)
   exact J.turned (t':=tk') k f0 f1 f3 f4 f5
  obtain⟨f0,f1,f2,f3,f4,f5⟩:=hf z (by simp)
  refine cS (Good:=fun h tk=>L2.Inv X pins σ H (jR s h tk)) D q1 q2 q3 I cl (bS g1) (bS g2) q4 q5 fun h5 tk u1 u2 h8 G5 p1 p2 z5 I5 O5 t1 t2 z8 k8=>?_
  refine wpAny_letOwnedTupleGo_zip (s:=jR s h8 tk) z8 fun h9 z9 s9=>?_
  have hn:H h5.objs.size=none:=G5.hok.fresh (Nat.le_refl _)
  have lt:∀{c o},h5.get? c=some o->c≠h5.objs.size:=fun e=>Nat.ne_of_lt (Heap.lt_size e)
  have J6:L2.Inv X pins σ (upd H h5.objs.size (.tup [v,u])) {jR s h5 tk with heap:=h5.push {cls:=.type "tuple",data:=.seq #[u1,u2]},toks:=tk}:=
   G5.laid (t':=tk) (fun b u e=>Heap.get?_push_of_some _ e) (Nat.le_refl _) ⟨show 2<=sizeLine by decide,[u1,u2],.cons p1 (.cons p2 .nil),⟨_,Heap.get?_push_size _ rfl,rfl,⟨_,rfl⟩,rfl⟩⟩
  have J8:L2.Inv X pins σ (upd H h5.objs.size (.tup [v,u])) (jR s h8 tk):=J6.turned (t':=tk) (fun b o n e=>k8 b o n e) (by rw[ai (lt z5)];exact f0) f1 f3 f4 f5
  have J9:L2.Inv X pins σ (upd H h5.objs.size (.tup [v,u])) (jR s h9 tk):=J8.turned (t':=tk) (fun b o n e=>s9.extBut b o n e) (by rw[ai (lt z5)];exact f0) f1 f3 f4 f5
  have up:∀c o,c≠z->h5.get? c=some o->h9.get? c=some o:=fun c o n e=>s9.extBut c o n (k8 c o n (Heap.get?_push_of_some _ e))
  refine⟨.ref h5.objs.size,_,J9,rfl,⟨_,v,u,rfl,hn,rfl,fun v' q=>e_ I g1 q,fun u' q=>e_ I g2 q⟩,⟨z9,up _ _ D.a1 I5,⟨u1,u2,up _ _ D.a2 O5⟩,Src.keep t1 fun o=>up _ o D.a3,Src.keep t2 fun o=>up _ o D.a4⟩,fun c hc=>?_⟩
  have lv:∃o,h5.get? c=some o:=by
   simp only[List.mem_cons,List.not_mem_nil,or_false] at hc
   rcases hc with rfl | rfl | rfl | rfl | rfl
   ·exact⟨_,z5⟩
   ·exact⟨_,I5⟩
   ·exact⟨_,O5⟩
   ·obtain⟨o,e,_⟩:=Src.obj_at t1;exact⟨o,e⟩
   ·obtain⟨o,e,_⟩:=Src.obj_at t2;exact⟨o,e⟩
  obtain⟨o,e⟩:=lv
  rw[ai (lt e)]
  exact(hf c hc).1
 done:=by
  rintro X rfl rfl rfl hc i pins s σ H E I hf ⟨q1,q2,⟨a,b,q3⟩,q4,q5⟩ hg
  have cl:Cl (fun h tk=>L2.Inv X pins σ H (jR s h tk)) [z,TO,i1,i2]:=fun c hc h tk h' tk' J k=>by
   obtain⟨f0,f1,f2,f3,f4,f5⟩:=hf c (by simp only[List.mem_cons,List.not_mem_nil,or_false] at hc ⊢;rcases hc with rfl | rfl | rfl | rfl<;>simp)
   exact J.turned (t':=tk') k f0 f1 f3 f4 f5
  refine fO (Good:=fun h tk=>L2.Inv X pins σ H (jR s h tk)) (st1:=fun h=>S.at i1 i h) (st2:=fun h=>T.at i2 i h) (st1':=fun h=>S.at i1 (i+1) h) (P1:=fun u=>∃v,RelV v u) D q1 q2 q3 I cl q4 q5 ?_ fun h' tk J=>⟨rfl,J⟩
  rcases hg with hg | ⟨⟨v,g1⟩,g2⟩
  ·exact .inl (eE (I.ok.hd hc) hg)
  ·refine .inr ⟨?_,eE (I.ok.hd hc) g2⟩
   have n:=bS (s:=s) (pins:=pins) (σ:=σ) (A:=X.A.in1) (it:=i1) g1
   exact⟨n.stay,n.stay',fun h tk Q E c1 c2 c3=>n.run h tk Q E c1 c2 fun u h' tk' p=>c3 u h' tk' ⟨v,p⟩⟩
 self:=fun _ _ _ _ _ st h=>wpAny_pyIter_zip st.1 h
section
variable{X:Cx}
theorem g_:Bb X (.builtin "len") oh:=qE.imp fun xs H Q ⟨ds,d,r,e,q⟩=>by
 match ds,e with
 | [.str x],e =>
  simp only[oh] at e
  split at e
  ·rename_i hz
   cases e
   obtain⟨v,r',rfl,r1,r2⟩:=r
   cases (show v=_ from r1)
   cases (show r'=[] from r2)
   exact⟨x,rfl,hz,q _ H (i9.refl H) rfl⟩
  ·cases e
def sF(K:W.Frag)(H:Hp)(ds:LD):Src->Prop
 | .lst a=>∃xs,kN K H a xs/\i4 K H ds xs
 | .tup a=>∃xs,kr K H a xs/\i4 K H ds xs
 | .txt x _=>ds=chars x
theorem uI{x:Str}{i:Nat}{d:D}(e:(chars x)[i]?=some d):∃c,x.cps[i]?=some c/\d=.str ⟨#[c]⟩:=by
 unfold chars at e
 rw[List.getElem?_map] at e
 obtain⟨c,e1,e⟩:=jL e
 exact⟨c,by simpa using e1,e.symm⟩
theorem mF{K:W.Frag}{H H2:Hp}{ds:LD}{S:Src}{i:Nat}{d:D}(h:sF K H ds S)(k:Kp H H2)(e:ds[i]?=some d):∃v,S.go K i H2 v/\Rep K H2 d v:=by
 cases S with
 | lst a =>
  obtain⟨xs,hq,t⟩:=h
  obtain⟨v,h1,h2⟩:=t.get e
  exact⟨v,⟨xs,k.seq hq,h1⟩,h2.kp k⟩
 | tup a =>
  obtain⟨xs,hq,t⟩:=h
  obtain⟨v,h1,h2⟩:=t.get e
  exact⟨v,⟨xs,k.tup hq,h1⟩,h2.kp k⟩
 | txt x t =>
  cases (show ds=_ from h)
  obtain⟨c,h1,rfl⟩:=uI e
  exact⟨_,⟨c,h1,rfl⟩,rfl⟩
theorem mV{K:W.Frag}{H H2:Hp}{ds:LD}{S:Src}{i:Nat}(h:sF K H ds S)(k:Kp H H2)(e:ds.length<=i):S.stop K i H2:=by
 cases S with
 | lst a=>obtain⟨xs,hq,t⟩:=h;exact⟨xs,k.seq hq,by rw[<- t.length];exact e⟩
 | tup a=>obtain⟨xs,hq,t⟩:=h;exact⟨xs,k.tup hq,by rw[<- t.length];exact e⟩
 | txt x t =>
  cases (show ds=_ from h)
  have hl:(chars x).length=x.cps.size:=by simp[chars]
  rw[hl] at e
  exact e
theorem eI{K:W.Frag}{H:Hp}{xs ys:LD}{S T:Src}(hS:sF K H xs S)(hT:sF K H ys T):kY K (Cc K S T) (lb xs ys) H:=by
 refine⟨fun i d H2 k e=>?_,fun i H2 k hl=>?_⟩
 ·obtain⟨x,y,ex,ey,rfl⟩:=vF e
  obtain⟨v,g1,r1⟩:=mF hS k ex
  obtain⟨u,g2,r2⟩:=mF hT k ey
  refine⟨⟨⟨v,g1⟩,⟨u,g2⟩⟩,?_⟩
  rintro p H3 ⟨a,v',u',rfl,hn,rfl,w1,w2⟩
  cases w1 v g1
  cases w2 u g2
  have s3:=aM hn (.tup [v,u])
  exact⟨s3,a,[v,u],rfl,kr.of ae,v,[u],rfl,r1.mono s3,u,[],rfl,r2.mono s3,rfl⟩
 ·by_cases hx:xs.length<=i
  ·exact .inl (mV hS k hx)
  ·have hx':i<xs.length:=by omega
   obtain⟨v,g1,_⟩:=mF hS k (List.getElem?_eq_getElem hx')
   refine .inr ⟨⟨v,g1⟩,mV hT k ?_⟩
   rw[lH] at hl
   omega
theorem dj{pins:List (Addr×Obj)}{σ:L2.St}{H:Hp}{s:Shared}{x:D}{v:V}{u:Value}{xs:LD}(I:L2.Inv X pins σ H s)(e:jn? x=some xs)(r:Rep X.K H x v)(ru:RelV v u) :
  ∃S:Src,u=S.val/\S.ok s.heap/\sF X.K H xs S:=by
 cases x with
 | tup ds =>
  cases e
  obtain⟨a,vs,rfl,hq,t⟩:=r
  cases (show u=_ from ru)
  obtain⟨its,rv,p,hz⟩:=I.tuple hq
  exact⟨.tup a,rfl,⟨its.toArray,p⟩,vs,hq,t⟩
 | lst ds =>
  cases e
  obtain⟨a,vs,rfl,hq,t⟩:=r
  cases (show u=_ from ru)
  obtain⟨its,rv,p,hz⟩:=I.list (kN.of hq)
  exact⟨.lst a,rfl,⟨_,p.isList⟩,vs,kN.of hq,t⟩
 | str z =>
  replace e:(if z.cps.all (·<128) then some (chars z) else none)=some xs:=e
  split at e
  ·rename_i hz
   cases e
   cases (show v=_ from r)
   obtain⟨t,rfl⟩:=ru
   exact⟨.txt z t,rfl,hz,rfl⟩
  ·cases e
 | _=>cases e
theorem iL{es:List Expr}{x1:_}{tp:Pos}{a b:Expr}{f g:R->OD}{p pos:Pos}(hm:X.mg "zip" = none)(ha:SE X a f)(hb:SE X b g)(hg:Gl X "zip":=by rfl)(hs:noStar a=true:=by rfl)(hs2:noStar b=true:=by rfl) :
  SI X (.Tuple es x1 tp) (.Call (.Name "zip" p) [a,b] [] pos) (tU f g):=by
 have z2:=av [] X.env hs2
 have z1:=av [b] X.env hs
 intro pins s σ H W I ⟨ρ,ds,er,e,q⟩
 obtain⟨x,e1,e⟩:=i5 e
 obtain⟨y,e2,e⟩:=i5 e
 obtain⟨xs,e3,e⟩:=i5 e
 obtain⟨ys,e4,e⟩:=jL e
 subst e
 have PAA:=(ac ha (ac hb af hs2) hs).1
 refine Call_ (bL I hg hm (u:=.type "zip") (by kernel_rfl) (PyProof.Rows.callWith_type1 (jC (PAA pos pins s σ H (fun vs H1=>i9 H H1/\i4 X.K H1 [x,y] vs) I
  ⟨ρ,[x,y],er,by show(f ρ).bind _=_;rw[e1];show((g ρ).bind _).map _=_;rw[e2];rfl,fun vs H1 s1 r1=>⟨s1,r1⟩⟩) fun us s1 ⟨vs,H1,I1,r1,sm,q1⟩=>?_) (by rw[z1,z2]) (by rw[z2];rfl)))
 obtain⟨v,r,rfl,r2,r3⟩:=q1
 obtain⟨u,r',rfl,r4,r5⟩:=r3
 cases (show r'=_ from r5)
 cases r1 with
 | cons ra rr =>
  cases rr with
  | cons rb rr =>
   cases rr
   obtain⟨S,rfl,okS,dS⟩:=dj I1 e3 r2 ra
   obtain⟨T,rfl,okT,dT⟩:=dj I1 e4 r4 rb
   refine dP okS okT fun h' z TI TO i1 i2 D hz hI hO sS sT new kept=>?_
   refine wpAny_pyIter_zip (s:={s1 with heap:=h' }) hz ?_
   refine⟨z,[z,TI,TO,i1,i2],_,_,H1,rfl,I1.kept (t':=s1.toks) kept,v6 S T D,⟨hz,hI,⟨_,_,hO⟩,sS,sT⟩,fun c hc=>I1.fpOk (new c hc) (I1.hok.fresh (new c hc)),q _ H1 sm (eI dS dT)⟩
end
end HW
namespace HW
open PySem
def yR:List (Str×D)->Str->OD
 | [],_=>none
 | p::r,x=>if p.1=x then some p.2 else yR r x
end HW
namespace L2
open PySem PySem.Spec PyProof.Rows
section
variable{κ:Type}[DecidableEq κ]
def kE(kvs:List (κ×V))(k:κ):Option V:=(kvs.find? fun kv=>decide (kv.1=k)).map (·.2)
def putK(kvs:List (κ×V))(k:κ)(v:V):List (κ×V):=
 if (kvs.any fun kv=>decide (kv.1=k))=true then kvs.map (fun kv=>if kv.1=k then (kv.1,v) else kv) else kvs++[(k,v)]
def ya(kvs:List (κ×V))(k:κ):List (κ×V):=kvs.filter fun kv=>decide (kv.1≠k)
theorem mD{p:κ×V}{r:List (κ×V)}{k:κ}(e:p.1=k):kE (p::r) k=some p.2:=by simp[kE,List.find?_cons,e]
theorem mI{p:κ×V}{r:List (κ×V)}{k:κ}(e:¬ p.1=k):kE (p::r) k=kE r k:=by simp[kE,List.find?_cons,e]
theorem oV(k:κ):∀kvs:List (κ×V),(kvs.any fun kv=>decide (kv.1=k))=(kE kvs k).isSome
 | []=>rfl
 | p::r=>by
  rw[List.any_cons]
  by_cases e:p.1=k
  ·simp only[mD e,decide_eq_true e,Bool.true_or,Option.isSome_some]
  ·rw[mI e,decide_eq_false e,Bool.false_or];exact oV k r
theorem nB(kvs:List (κ×V))(k:κ)(v:V):(putK kvs k v).length<=kvs.length+1:=by
 unfold putK
 split
 ·rw[List.length_map];omega
 ·rw[List.length_append,List.length_cons,List.length_nil];omega
theorem vd{kvs:List (κ×V)}{k:κ}(v:V)(h:kE kvs k=none):putK kvs k v=kvs++[(k,v)]:=by
 unfold putK
 rw[oV,h]
 exact if_neg (by decide)
theorem nM.isSome_eq{o:Option V}{u:Option Value}(r:nM o u):o.isSome=u.isSome:=by
 cases o with
 | none=>cases u with
  | none=>rfl
  | some _=>exact(show False from r).elim
 | some _=>cases u with
  | none=>exact(show False from r).elim
  | some _=>rfl
theorem nM.getD{o:Option V}{u:Option Value}{d:V}{d':Value}(r:nM o u)(rd:RelV d d'):RelV (o.getD d) (u.getD d'):=by
 cases o with
 | none=>cases u with
  | none=>exact rd
  | some _=>exact(show False from r).elim
 | some _=>cases u with
  | none=>exact(show False from r).elim
  | some _=>exact r
theorem KV.val{kvs:List (κ×V)}{vs:List (κ×Value)}(r:KV kvs vs)(k:κ):nM (kE kvs k) (valueAt vs k):=by
 unfold KV at r
 induction r with
 | nil=>exact True.intro
 | @cons p q ps qs h t ih =>
  obtain⟨h1,h2⟩:=h
  by_cases e:p.1=k
  ·have e':q.1=k:=h1.symm.trans e
   have b:valueAt (q::qs) k=some q.2:=by simp[valueAt,List.find?_cons,e']
   rw[mD e,b];exact h2
  ·have e':¬ q.1=k:=fun z=>e (h1.trans z)
   have b:valueAt (q::qs) k=valueAt qs k:=by simp[valueAt,List.find?_cons,e']
   rw[mI e,b];exact ih
theorem KV.any{kvs:List (κ×V)}{vs:List (κ×Value)}(r:KV kvs vs)(k:κ):(kvs.any fun kv=>decide (kv.1=k))=vs.any fun kv=>decide (kv.1=k):=by
 unfold KV at r
 induction r with
 | nil=>rfl
 | cons h t ih=>rw[List.any_cons,List.any_cons,ih,h.1]
theorem KV.repl{kvs:List (κ×V)}{vs:List (κ×Value)}(r:KV kvs vs)(k:κ){y:V}{u:Value}(ry:RelV y u) :
  KV (kvs.map fun kv=>if kv.1=k then (kv.1,y) else kv) (vs.map fun kv=>if kv.1=k then (kv.1,u) else kv):=by
 unfold KV at r ⊢
 induction r with
 | nil=>exact .nil
 | @cons p q ps qs h t ih =>
  rw[List.map_cons,List.map_cons]
  refine .cons ?_ ih
  obtain⟨h1,h2⟩:=h
  by_cases e:p.1=k
  ·rw[if_pos e,if_pos (h1.symm.trans e)];exact⟨h1,ry⟩
  ·rw[if_neg e,if_neg (fun z=>e (h1.trans z))];exact⟨h1,h2⟩
theorem KV.put{kvs:List (κ×V)}{vs:List (κ×Value)}(r:KV kvs vs)(k:κ){y:V}{u:Value}(ry:RelV y u):KV (putK kvs k y) (stored vs k u):=by
 unfold putK stored
 rw[r.any k]
 by_cases e:(vs.any fun kv=>decide (kv.1=k))=true
 ·rw[if_pos e,if_pos e];exact r.repl k ry
 ·rw[if_neg e,if_neg e];exact Paired.snoc r ⟨rfl,ry⟩
theorem KV.drop{kvs:List (κ×V)}{vs:List (κ×Value)}(r:KV kvs vs)(k:κ):KV (ya kvs k) (without vs k):=by
 unfold KV at r ⊢
 unfold ya without
 induction r with
 | nil=>exact .nil
 | @cons p q ps qs h t ih =>
  obtain⟨h1,h2⟩:=h
  rw[List.filter_cons,List.filter_cons]
  by_cases e:p.1=k
  ·have a:¬ decide (p.1≠k)=true:=by simp[e]
   have b:¬ decide (q.1≠k)=true:=by simp[h1.symm.trans e]
   rw[if_neg a,if_neg b];exact ih
  ·have e':¬ q.1=k:=fun z=>e (h1.trans z)
   have a:decide (p.1≠k)=true:=by simp[e]
   have b:decide (q.1≠k)=true:=by simp[e']
   rw[if_pos a,if_pos b];exact .cons ⟨h1,h2⟩ ih
theorem KV.keys{kvs:List (κ×V)}{vs:List (κ×Value)}(r:KV kvs vs):kvs.map (·.1)=vs.map (·.1):=by
 unfold KV at r
 induction r with
 | nil=>rfl
 | cons h t ih=>rw[List.map_cons,List.map_cons,ih,h.1]
theorem KV.length{kvs:List (κ×V)}{vs:List (κ×Value)}(r:KV kvs vs):kvs.length=vs.length:=Paired.length r
end
theorem q8{P:Program}{w:World}{k:Key}{u:Value}(r:RelV (kV k) u):(je P w).is k u=true:=by
 cases k with
 | inl i=>obtain⟨t,e⟩:=(show ∃t,u=Value.int i t from r);subst e;exact rR P w i t
 | inr x=>obtain⟨t,e⟩:=(show ∃t,u=Value.str x t from r);subst e;exact rq P w x t
theorem mX{P:Program}{w:World}:∀{ks:List Key} {us:List Value},jg (ks.map kV) us->ItemsAre (je P w) ks us
 | [],_,r=>by rw[List.map_nil] at r;cases r;exact .nil
 | k::ks,_,r=>by
  rw[List.map_cons] at r
  cases r with
  | cons h t=>exact .cons (q8 h) (mX t)
abbrev KT(H:Hp):List (List Key×V)->List (List Key×Addr×Value)->Prop:=Paired fun p q=>p.1=q.1/\H q.2.1=some (.tup (p.1.map kV))/\RelV p.2 q.2.2
theorem KT.val{H:Hp}{kvs:List (List Key×V)}{xs:List (List Key×Addr×Value)}(r:KT H kvs xs)(k:List Key):nM (kE kvs k) ((atKey xs k).map (·.2)):=by
 induction r with
 | nil=>exact True.intro
 | @cons p q ps qs h t ih =>
  obtain⟨h1,_,h2⟩:=h
  by_cases e:p.1=k
  ·have e':q.1=k:=h1.symm.trans e
   have b:atKey (q::qs) k=some q.2:=by simp[atKey,List.find?_cons,e']
   rw[mD e,b];exact h2
  ·have e':¬ q.1=k:=fun z=>e (h1.trans z)
   have b:atKey (q::qs) k=atKey qs k:=by simp[atKey,List.find?_cons,e']
   rw[mI e,b];exact ih
theorem KT.repl{H:Hp}{kvs:List (List Key×V)}{xs:List (List Key×Addr×Value)}(r:KT H kvs xs)(k:List Key){y:V}{u:Value}(ry:RelV y u) :
  KT H (kvs.map fun kv=>if kv.1=k then (kv.1,y) else kv) (xs.map (putAt k u)):=by
 induction r with
 | nil=>exact .nil
 | @cons p q ps qs h t ih =>
  rw[List.map_cons,List.map_cons]
  refine .cons ?_ ih
  obtain⟨h1,h2,h3⟩:=h
  unfold putAt
  by_cases e:p.1=k
  ·rw[if_pos e,if_pos (h1.symm.trans e)];exact⟨h1,h2,ry⟩
  ·rw[if_neg e,if_neg (fun z=>e (h1.trans z))];exact⟨h1,h2,h3⟩
theorem KT.put{H:Hp}{kvs:List (List Key×V)}{xs:List (List Key×Addr×Value)}(r:KT H kvs xs)(k:List Key){b:Addr}{y:V}{u:Value}(hb:H b=some (.tup (k.map kV)))(ry:RelV y u) :
  KT H (putK kvs k y) (storedH xs k b u):=by
 have e:(kvs.any fun kv=>decide (kv.1=k))=(atKey xs k).isSome:=by
  rw[oV,(r.val k).isSome_eq,Option.isSome_map]
 unfold putK storedH
 rw[e]
 by_cases q:(atKey xs k).isSome=true
 ·rw[if_pos q,if_pos q];exact r.repl k ry
 ·rw[if_neg q,if_neg q];exact Paired.snoc r ⟨rfl,hb,ry⟩
theorem KT.keeps{H H':Hp}{kvs:List (List Key×V)}{xs:List (List Key×Addr×Value)}(r:KT H kvs xs)(ht:∀b ys,H b=some (.tup ys)->H' b=some (.tup ys)):KT H' kvs xs:=
 Paired.mapP r fun _ _ z=>⟨z.1,ht _ _ z.2.1,z.2.2⟩
section
variable{P:Program}{w:World}{H:Hp}{h:Heap}{a:Addr}
theorem x3{u:HO}(ok:mh P w H h)(e:Rd H a u):jJ P w H h a u:=e.ok ok
theorem fB{kvs:List (Key×V)}(ok:mh P w H h)(e:Rd H a (.dK kvs)):kvs.length<=sizeLine/\(a==sysModules)=false/\∃vs,KV kvs vs/\h.DictOf (je P w) a vs:=
 show jJ P w H h a (.dK kvs) from x3 ok e
theorem hW{kvs:List (Key×V)}(ok:mh P w H h)(e:H a=some (.dK kvs)):kvs.length<=sizeLine/\(a==sysModules)=false/\∃vs,KV kvs vs/\h.DictOf (je P w) a vs:=fB ok (.inl e)
theorem qa{ks:List Key}(ok:mh P w H h)(e:H a=some (.tup (ks.map kV))):(tupleKind (je P w)).is h ks a:=by
 obtain⟨_,its,r,o,h1,h2,⟨n,h3⟩,_⟩:=(show jJ P w H h a (.tup (ks.map kV)) from ok a _ e)
 exact⟨o,its.toArray,n,h1,h2,h3,by simpa using mX r⟩
theorem fc{kvs:List (List Key×V)}(ok:mh P w H h)(e:Rd H a (.dT kvs)):kvs.length<=sizeLine/\(a==sysModules)=false /\
  ∃xs,KT H kvs xs/\h.DictOfH (tupleKind (je P w)) a xs:=by
 obtain⟨z,y,xs,r,o,es,ep,h1,h2,h3,h4,h5⟩:=(show jJ P w H h a (.dT kvs) from x3 ok e)
 refine⟨z,y,xs,r,o,es,ep,h1,h2,h3,h4,fun x hx=>?_,h5⟩
 have all:∀{l:List (List Key×V)} {m:List (List Key×Addr×Value)},KT H l m->∀x∈m,(tupleKind (je P w)).is h x.1 x.2.1:=by
  intro l m q
  induction q with
  | nil=>intro x hx;exact nomatch hx
  | @cons p q ps qs hq t ih =>
   intro x hx
   rcases List.mem_cons.mp hx with e | hx
   ·subst e
    exact qa ok (by rw[<- hq.1];exact hq.2.1)
   ·exact ih x hx
 exact all r x hx
theorem iX{kvs:List (List Key×V)}(ok:mh P w H h)(e:H a=some (.dT kvs)):kvs.length<=sizeLine/\(a==sysModules)=false /\
  ∃xs,KT H kvs xs/\h.DictOfH (tupleKind (je P w)) a xs:=fc ok (.inl e)
end
def oY(H:Hp)(a:Addr)(y:V)(r:Option V):Prop:=
 (∃kvs k,Rd H a (.dK kvs)/\y=kV k/\r=kE kvs k)\/∃kvs k b,Rd H a (.dT kvs)/\y=.ref b/\H b=some (.tup (k.map kV))/\r=kE kvs k
def su(H:Hp)(a:Addr)(y v:V)(H':Hp):Prop:=
 (∃kvs k,H a=some (.dK kvs)/\y=kV k/\kvs.length<sizeLine/\H'=upd H a (.dK (putK kvs k v))) \/
 ∃kvs k b,H a=some (.dT kvs)/\y=.ref b/\H b=some (.tup (k.map kV))/\kvs.length<sizeLine/\H'=upd H a (.dT (putK kvs k v))
theorem oY.k{H:Hp}{a:Addr}{kvs:List (Key×V)}{k:Key}(e:H a=some (.dK kvs)):oY H a (kV k) (kE kvs k):=.inl ⟨kvs,k,.inl e,rfl,rfl⟩
theorem oY.t{H:Hp}{a b:Addr}{kvs:List (List Key×V)}{k:List Key}(e:H a=some (.dT kvs))(eb:H b=some (.tup (k.map kV))):oY H a (.ref b) (kE kvs k):=.inr ⟨kvs,k,b,.inl e,rfl,eb,rfl⟩
theorem su.k{H:Hp}{a:Addr}{kvs:List (Key×V)}{k:Key}{v:V}(e:H a=some (.dK kvs))(hl:kvs.length<sizeLine):su H a (kV k) v (upd H a (.dK (putK kvs k v))):=.inl ⟨kvs,k,e,rfl,hl,rfl⟩
theorem su.t{H:Hp}{a b:Addr}{kvs:List (List Key×V)}{k:List Key}{v:V}(e:H a=some (.dT kvs))(eb:H b=some (.tup (k.map kV)))(hl:kvs.length<sizeLine) :
  su H a (.ref b) v (upd H a (.dT (putK kvs k v))):=.inr ⟨kvs,k,b,e,rfl,eb,hl,rfl⟩
section
variable{X:Cx}{pins:List (Addr×Obj)}{σ:St}{H:Hp}{s:Shared}{a:Addr}{y v:V}{u r:Value}{o:Option V}{A:Around}{E:Value->Shared->Prop}
theorem Inv.big(I:Inv X pins σ H s):sysModules<s.heap.objs.size:=by
 have h:mainGlobals<s.heap.objs.size:=(I.mod.glob.keeps I.bk).lt
 exact Nat.lt_trans (by decide) h
theorem fH{Q:Value->Shared->Prop}(hu:A.units+1<cLine)(I:Inv X pins σ H s)(g:oY H a y (some v))(ry:RelV y u)(h:∀w' s',Inv X pins σ H s'->RelV v w'->Q w' s') :
  wpAny (model X.prog X.w) A (getItem (.ref a) u) Q E s:=by
 rcases g with ⟨kvs,k,e,ey,l⟩ | ⟨kvs,k,b,e,ey,eb,l⟩
 ·subst ey
  obtain⟨z,hd,vs,rel,dd⟩:=fB I.hok e
  obtain⟨w',hw,rw'⟩:=nM.some_of (v:=v) (o:=valueAt vs k) (by rw[l];exact rel.val k)
  exact wpAny_getItem_of (q8 ry) dd.mapOf hw (h w' _ (I.tok _) rw')
 ·subst ey
  cases (show u=Value.ref b from ry)
  obtain⟨z,hd,xs,rel,dd⟩:=fc I.hok e
  obtain⟨w',hw,rw'⟩:=nM.some_of (v:=v) (o:=(atKey xs k).map (·.2)) (by rw[l];exact rel.val k)
  obtain⟨p,hp,hp2⟩:=Option.map_eq_some_iff.mp hw
  refine wpAny_getItem_heap (tupleKind_room_in1 hu) (qa I.hok eb) dd hp ?_
  rw[hp2]
  exact h w' _ (I.tok _) rw'
theorem gK{Q:Value->Shared->Prop}(hu:A.units+1<cLine)(I:Inv X pins σ H s)(g:oY H a y o)(ry:RelV y u)(h:∀s',Inv X pins σ H s'->Q (.bool (!o.isSome)) s') :
  wpAny (model X.prog X.w) A (compareOp .NotIn u (.ref a)) Q E s:=by
 rcases g with ⟨kvs,k,e,ey,l⟩ | ⟨kvs,k,b,e,ey,eb,l⟩
 ·subst ey
  obtain⟨z,hd,vs,rel,dd⟩:=fB I.hok e
  refine wpAny_notIn_of (q8 ry) hd dd.mapOf ?_
  rw[<- (rel.val k).isSome_eq,<- l]
  exact h _ (I.tok _)
 ·subst ey
  cases (show u=Value.ref b from ry)
  obtain⟨z,hd,xs,rel,dd⟩:=fc I.hok e
  refine wpAny_notIn_heap (tupleKind_room_in1 hu) (qa I.hok eb) hd dd ?_
  have q:=(rel.val k).isSome_eq
  rw[Option.isSome_map] at q
  rw[<- q,<- l]
  exact h _ (I.tok _)
theorem bX{h':Heap}{t':Nat}{ob:HO}(I:Inv X pins σ H s)(mu:Ar (H a))(hs:Heap.SameBut a s.heap h')(he:∃q,h'.get? a=some q)(new:jJ X.prog X.w (upd H a ob) h' a ob) :
  Inv X pins σ (upd H a ob) {s with heap:=h',toks:=t' }:=
 I.write (x:=a) (e:=a) mu (.inl rfl) (fun b q hb z=>(hs.2 b hb).trans z) he new
theorem gn{P:Program}{w:World}{H':Hp}{h':Heap}{kvs:List (Key×V)}{vs:List (Key×Value)}(z:kvs.length<=sizeLine)(hd:(a==sysModules)=false)(rel:KV kvs vs)(dd:h'.DictOf (je P w) a vs) :
  jJ P w H' h' a (.dK kvs):=⟨z,hd,vs,rel,dd⟩
theorem fN{H':Hp}{Q:Unit->Shared->Prop}(hu:A.units+1<cLine)(I:Inv X pins σ H s)(g:su H a y v H')(ry:RelV y u)(rv:RelV v r)(h:∀s',Inv X pins σ H' s'->Q () s') :
  wpAny (model X.prog X.w) A (setItem (.ref a) u r) Q E s:=by
 rcases g with ⟨kvs,k,e,ey,l,eH⟩ | ⟨kvs,k,b,e,ey,eb,l,eH⟩
 ·subst ey eH
  obtain⟨z,hd,vs,rel,dd⟩:=hW I.hok e
  have hz:vs.length<=sizeLine:=by rw[<- rel.length];exact z
  have hl:(putK kvs k v).length<=sizeLine:=by have:=nB kvs k v;omega
  refine wpAny_setItem_pairs (hsz:=hz) (q8 ry) dd fun h' dd' hs=>h _ ?_
  have he:∃q,h'.get? a=some q:=let ⟨q,_,_,hq,_⟩:=dd';⟨q,hq⟩
  exact bX I (by rw[e];exact True.intro) hs he (gn hl hd (rel.put k rv) dd')
 ·subst ey eH
  cases (show u=Value.ref b from ry)
  obtain⟨z,hd,xs,rel,dd⟩:=iX I.hok e
  have hz:xs.length<=sizeLine:=by rw[<- Paired.length rel];exact z
  have hl:(putK kvs k v).length<=sizeLine:=by have:=nB kvs k v;omega
  refine wpAny_setItem_heap (hsz:=hz) (tupleKind_room_in1 hu) (qa I.hok eb) dd fun h' dd' hs=>h _ ?_
  obtain⟨q,es,ep,hq,h2,h3,h4,_,h5⟩:=dd'
  refine bX I (by rw[e];exact True.intro) hs ⟨q,hq⟩ ⟨hl,hd,_,(rel.put k eb rv).keeps fun c ys ec=>?_,q,es,ep,hq,h2,h3,h4,h5⟩
  rw[ai (yk ec e (fun z=>nomatch z))]
  exact ec
end
section
variable{X:Cx}{pins:List (Addr×Obj)}{σ:St}{H:Hp}{s:Shared}{a:Addr}{kvs:List (Key×V)}{k:Key}{u:Value}{A:Around}{E:Value->Shared->Prop}
end
def zg(i:Expr):Prop:=∀ov iv,subscripted i false ov iv=operate [ov,iv] (getItem ov iv)
theorem tE{prog:Program}{w:World}{A:Around}{E:Value->Shared->Prop}{s:Shared}{env:Env}{value slice:Expr}{pos:Pos}{T id:String}{Q:Value->Shared->Prop}
  (hl:typeLookup (.type T) "__getitem__" = pure (some (.builtin id))) (hs:zg slice)
  (h:wpAny (model prog w) A (eval value env) (fun o s₁=>wpAny (model prog w) A (eval slice env) (fun i s₂=>s₂.TypeIs o T/\wpAny (model prog w) A (getItem o i) Q E s₂) E s₁) E s) :
  wpAny (model prog w) A (eval (.Subscript value slice pos) env) Q E s:=by
 refine Subscript_ (wpAny_mono h (fun o s₁ h₁=>wpAny_mono h₁ (fun i s₂ h₂=>?_) fun _ _ x=>x) fun _ _ x=>x)
 obtain⟨hT,h₂⟩:=h₂
 unfold subscriptTail
 refine wpAny_bind ?_
 rw[getitemInPython_of_ne hT.not_modules]
 refine wpAny_bind (wpAny_specialOf hT hl ?_)
 have fin:wpAny (model prog w) A (subscripted slice false o i) (fun r s₃=>wpAny (model prog w) A (letTemporaryGo value o r >>= fun _=>pure r) Q E s₃) E s₂:=by
  rw[hs o i]
  exact wpAny_operating (wpAny_mono h₂ (fun r s₃ h₃=>wpAny_bind (wpAny_letTemporaryGo (wpAny_pure h₃))) fun _ _ x=>x)
 first
  | exact wpAny_pure (wpAny_bind fin)
  | exact wpAny_bind (wpAny_pure (wpAny_bind fin))
  | exact wpAny_bind fin
theorem q_{X:Cx}{pins:List (Addr×Obj)}{σ:St}{H:Hp}{s:Shared}{a:Addr}{y:V}{o:Option V}(I:Inv X pins σ H s)(g:oY H a y o):s.TypeIs (.ref a) "dict":=by
 rcases g with ⟨kvs,k,e,_,_⟩ | ⟨kvs,k,b,e,_,_,_⟩
 ·obtain⟨_,_,vs,_,dd⟩:=fB I.hok e
  exact dd.typeIs
 ·obtain⟨_,_,xs,_,dd⟩:=fc I.hok e
  exact dd.typeIs
section
variable{X:Cx}{o i e value:Expr}{pos pos' tpos:Pos}{td ty tv:TE}
end
theorem gA{P:Program}{w:World}{H:Hp}(h:Heap)(hb:sysModules<h.objs.size):jJ P w H (h.push {cls:=.type "dict",data:=.dict #[]}) h.objs.size (.dK []):=
 ⟨Nat.zero_le _,beq_eq_false_iff_ne.mpr (Ne.symm (Nat.ne_of_lt hb)),[],.nil,Heap.DictOf.new h⟩
section
variable{X:Cx}{pos:Pos}
end
def sk:List (TE×TE)->St->Hp->(List (V×V)->Hp->Prop)->Prop
 | [],_,H,Q=>Q [] H
 | (tk,tv)::r,σ,H,Q=>tk σ H fun x H1=>tv σ H1 fun y H2=>sk r σ H2 fun ps H3=>Q ((x,y)::ps) H3
abbrev VV:List (V×V)->List (Value×Value)->Prop:=Paired fun p q=>RelV p.1 q.1/\RelV p.2 q.2
def BH(X:Cx)(pos:Pos)(keys:List (Option Expr))(values:List Expr)(trs:List (TE×TE)):Prop:=
 ∀(pins:List (Addr×Obj)) (s:Shared) (σ:St) (H:Hp) (Q:List (V×V)->Hp->Prop),Inv X pins σ H s->sk trs σ H Q ->
  wpAny (model X.prog X.w) X.A (evalPairs (pairTrees keys values X.env pos)) (fun vs s'=>∃ps H',Inv X pins σ H' s'/\VV ps vs/\Q ps H') X.xe s
theorem xF{X:Cx}{pos:Pos}:BH X pos [] [] []:=fun pins s σ H Q I h=>pairTrees_nil_walk ⟨[],H,I,.nil,h⟩
theorem vO{X:Cx}{pos:Pos}{k v:Expr}{ks:List (Option Expr)}{vs:List Expr}{tk tv:TE}{trs:List (TE×TE)}(hk:PE X k tk)(hv:PE X v tv)(hr:BH X pos ks vs trs) :
  BH X pos (some k::ks) (v::vs) ((tk,tv)::trs):=fun pins s σ H Q I h =>
 pairTrees_cons_walk (jC (hk pins s σ H _ I h) fun u s1 ⟨x,H1,I1,rx,q1⟩=>jC (hv pins s1 σ H1 _ I1 q1) fun w2 s2 ⟨y,H2,I2,ry,q2⟩ =>
  jC (hr pins s2 σ H2 _ I2 q2) fun ws s3 ⟨ps,H3,I3,rel,q3⟩=>⟨(x,y)::ps,H3,I3,.cons ⟨rx,ry⟩ rel,q3⟩)
section
variable{X:Cx}{pins:List (Addr×Obj)}{σ:St}{H:Hp}{s:Shared}{a:Addr}{y d:V}{u r:Value}{o:Option V}{A:Around}{E:Value->Shared->Prop}
end
section
variable{X:Cx}{o e f:Expr}{apos cpos:Pos}{td ty tx:TE}
end
section
variable{X:Cx}{pins:List (Addr×Obj)}{σ:St}{H:Hp}{s:Shared}{a:Addr}{kvs:List (Key×V)}{A:Around}{E:Value->Shared->Prop}
end
section
variable{X:Cx}{pins:List (Addr×Obj)}{σ:St}{H:Hp}{s:Shared}{a:Addr}{y:V}{u:Value}{A:Around}{E:Value->Shared->Prop}
end
end L2
namespace HW
open PySem PySem.Spec PyProof.Rows L2
def pb(P:Program)(w:World)(a:Addr)(kvs:List (Key×V)):HO:=.ext fun h=>kvs.length<=sizeLine/\(a==sysModules)=false/\∃vs,KV kvs vs/\h.DictOf (je P w) a vs
section
variable{X:Cx}{pins:List (Addr×Obj)}{σ:L2.St}{H:Hp}{s:Shared}{a:Addr}{kvs:List (Key×V)}
theorem fq(I:L2.Inv X pins σ H s)(h:H a=some (pb X.prog X.w a kvs)):kvs.length<=sizeLine/\(a==sysModules)=false/\∃vs,KV kvs vs/\s.heap.DictOf (je X.prog X.w) a vs:=(I.hok a _ h).1
theorem nT(I:L2.Inv X pins σ H s)(h:H a=some (.dK kvs)):L2.Inv X pins σ (upd H a (pb X.prog X.w a kvs)) s:=by
 obtain⟨z,y,vs,r,ob,es,ep,e,c⟩:=I.hok a _ h
 have:=I.write (t':=s.toks) (h':=s.heap) (o:=pb X.prog X.w a kvs) (x:=a) (e:=a) (by rw[h];trivial) (.inl rfl) (fun _ _ _ q=>q) ⟨_,e⟩ ⟨⟨z,y,vs,r,ob,es,ep,e,c⟩,⟨_,e⟩,fun h1 h2 ⟨z,y,vs,r,ob,es,ep,e,c⟩ k=>⟨z,y,vs,r,ob,es,ep,k _ e,c⟩⟩
 exact this
theorem wq(I:L2.Inv X pins σ H s)(h:H a=some (pb X.prog X.w a kvs)):L2.Inv X pins σ (upd H a (.dK kvs)) s:=by
 obtain⟨z,y,vs,r,ob,es,ep,e,c⟩:=fq I h
 have:=I.write (t':=s.toks) (h':=s.heap) (o:=.dK kvs) (x:=a) (e:=a) (by rw[h];trivial) (.inl rfl) (fun _ _ _ q=>q) ⟨_,e⟩ ⟨z,y,vs,r,ob,es,ep,e,c⟩
 exact this
end
def kW(K:W.Frag)(H:Hp):List (Str×D)->List (Key×V)->Prop
 | [],vs=>vs=[]
 | p::r,vs=>∃v t,vs=(.inr p.1,v)::t/\Rep K H p.2 v/\kW K H r t
section
variable{K:W.Frag}{H H':Hp}
theorem kW.kp(s:Kp H H'):∀{ds:List (Str×D)} {vs:List (Key×V)},kW K H ds vs->kW K H' ds vs
 | [],_,h=>h
 | p::r,_,h=>by
  obtain⟨v,t,e,q,w⟩:=h
  exact⟨v,t,e,q.kp s,kW.kp s w⟩
theorem kW.mono(s:i9 H H'){ds:List (Str×D)}{vs:List (Key×V)}(h:kW K H ds vs):kW K H' ds vs:=h.kp (Kp.of s)
theorem kW.snoc:∀{ds:List (Str×D)} {vs:List (Key×V)} {x:Str} {d:D} {v:V},kW K H ds vs->Rep K H d v->kW K H (ds++[(x,d)]) (vs++[(.inr x,v)])
 | [],_,x,d,v,h,r=>by
  cases (show _=[] from h)
  exact⟨v,[],rfl,r,rfl⟩
 | p::ds,_,x,d,v,h,r=>by
  obtain⟨u,t,e,q,w⟩:=h
  subst e
  exact⟨u,t++[(.inr x,v)],rfl,q,kW.snoc w r⟩
theorem kW.len:∀{ds:List (Str×D)} {vs:List (Key×V)},kW K H ds vs->ds.length=vs.length
 | [],_,h=>by cases (show _=[] from h);rfl
 | p::r,_,h=>by
  obtain⟨v,t,e,q,w⟩:=h
  subst e
  simp[kW.len w]
theorem kW.at:∀{ds:List (Str×D)} {vs:List (Key×V)} {x:Str},kW K H ds vs->match yR ds x with
  | some d=>∃v,kE vs (Sum.inr x:Key)=some v/\Rep K H d v
  | none=>kE vs (Sum.inr x:Key)=none
 | [],_,x,h=>by cases (show _=[] from h);rfl
 | p::r,_,x,h=>by
  obtain⟨v,t,e,q,w⟩:=h
  subst e
  have ih:=kW.at (x:=x) w
  unfold yR
  by_cases hx:p.1=x
  ·rw[if_pos hx]
   exact⟨v,mD (by rw[hx]),q⟩
  ·rw[if_neg hx]
   have n:kE (((Sum.inr p.1:Key),v)::t) (Sum.inr x)=kE t (Sum.inr x):=mI fun z=>hx (Sum.inr.inj z)
   rw[n]
   exact ih
end
def Cp(P:Program)(w:World)(K:W.Frag)(g:R->List (Str×D)->OD):TE:=fun σ H Q=>∃ ρ τ a ds xs d,jQ K H ρ (some (.ref a)::τ) σ/\H a=some (pb P w a xs)/\kW K H ds xs/\g ρ ds=some d/\∀v H',i9 H H'->Rep K H' d v->Q v H'
def KE(X:Cx)(e:Expr)(g:R->List (Str×D)->OD):Prop:=PE X e (Cp X.prog X.w X.K g)
section
variable{X:Cx}{st:Stmt}{sts:List Stmt}{u:R->Option Out}{w:R->List (Str×D)->Option Out}{pos:Pos}{e:Expr}{es:List Expr}{f:R->OD}{F:R->Option LD}
end
def Kd(H H':Hp):Prop:=∀b u,H b=some u->(∀kvs,u≠.dK kvs)->H' b=some u
mutual
theorem Rep.kd{K:W.Frag}{H H':Hp}(s:Kd H H'):∀{d:D} {v:V},l6 d=true->Rep K H d v->Rep K H' d v
 | .non,_,hn,h=>h
 | .bl _,_,hn,h=>h
 | .int _,_,hn,h=>h
 | .str _,_,hn,h=>h
 | .tup ds,_,hn,h=>by
  obtain⟨a,xs,e,q,r⟩:=h
  refine⟨a,xs,e,?_,i4.kd s hn r⟩
  rcases q with (h | ⟨o,h⟩) | h
  ·exact .inl (.inl (s _ _ h fun φ z=>nomatch z))
  ·exact .inl (.inr ⟨o,s _ _ h fun φ z=>nomatch z⟩)
  ·exact .inr h
 | .lst ds,_,hn,h=>by
  obtain⟨a,xs,e,q,r⟩:=h
  exact⟨a,xs,e,s _ _ q (fun φ z=>by cases z),i4.kd s hn r⟩
 | .fro ds,_,hn,h=>by
  obtain⟨a,xs,e,q,r⟩:=h
  refine⟨a,xs,e,?_,i4.kd s hn r⟩
  rcases q with (h | ⟨o,h⟩) | h
  ·exact .inl (.inl (s _ _ h fun φ z=>nomatch z))
  ·exact .inl (.inr ⟨o,s _ _ h fun φ z=>nomatch z⟩)
  ·exact .inr h
 | .obj k a ks ds,_,hn,h=>by cases hn
 | .dct ks ds,_,hn,h=>by cases hn
 | .dcp ks ds,_,hn,h=>by cases hn
 | .cl t a ds,_,hn,h=>by cases hn
theorem i4.kd{K:W.Frag}{H H':Hp}(s:Kd H H'):∀{ds:LD} {vs:List V},jS ds=true->i4 K H ds vs->i4 K H' ds vs
 | [],_,_,h=>h
 | d::ds,_,hn,h=>by
  have hn':(l6 d&&jS ds)=true:=hn
  rw[Bool.and_eq_true] at hn'
  obtain⟨v,r,e,q,t⟩:=h
  exact⟨v,r,e,Rep.kd s hn'.1 q,i4.kd s hn'.2 t⟩
end
section
variable{X:Cx}{sts:List Stmt}{w:R->List (Str×D)->Option Out}{pos:Pos}{f:R->OD}
end
end HW
namespace HW
open PySem
end HW
namespace HW
open PySem PySem.Spec PyProof.Rows L2
variable{X:Cx}
end HW
namespace HW
open PySem PySem.SetTable
theorem vN(xs:Array Nat)(j:Nat)(H:∀a b,a<b->b<xs.size->xs.getD a 0<xs.getD b 0):∀fuel lo hi,hi - lo<=fuel->lo<=hi->hi<=xs.size ->
  (∀i,i<lo->xs.getD i 0<j)->(∀i,hi<=i->i<xs.size->j<=xs.getD i 0) ->
  below.go xs j fuel lo hi<=xs.size/\(∀i,i<below.go xs j fuel lo hi->xs.getD i 0<j)/\(∀i,below.go xs j fuel lo hi<=i->i<xs.size->j<=xs.getD i 0):=by
 intro fuel
 induction fuel with
 | zero =>
  intro lo hi h1 h2 h3 h4 h5
  have:lo=hi:=by omega
  subst this
  exact⟨h3,h4,h5⟩
 | succ fuel ih =>
  intro lo hi h1 h2 h3 h4 h5
  unfold below.go
  by_cases hlt:lo<hi
  ·rw[if_pos hlt]
   have hm:(lo+hi) / 2<xs.size:=by omega
   have e:xs.getD ((lo+hi) / 2) j=xs.getD ((lo+hi) / 2) 0:=by simp[Array.getD,hm]
   show(if xs.getD ((lo+hi) / 2) j<j then _ else _:Nat)<=_/\_
   dsimp only
   rw[e]
   by_cases hc:xs.getD ((lo+hi) / 2) 0<j
   ·rw[if_pos hc]
    refine ih _ _ (by omega) (by omega) h3 (fun i hi'=>?_) h5
    by_cases he:i=(lo+hi) / 2
    ·subst he;exact hc
    ·exact Nat.lt_trans (H i _ (by omega) hm) hc
   ·rw[if_neg hc]
    refine ih _ _ (by omega) (by omega) (by omega) h4 (fun i hi' hs=>?_)
    by_cases he:i=(lo+hi) / 2
    ·subst he;omega
    ·have:=H _ i (by omega:(lo+hi) / 2<i) hs;omega
  ·rw[if_neg hlt]
   have:lo=hi:=by omega
   subst this
   exact⟨h3,h4,h5⟩
def A6(xs:Array Nat):Prop:=∀a b,a<b->b<xs.size->xs.getD a 0<xs.getD b 0
theorem oM{xs:Array Nat}(H:A6 xs)(j:Nat):below xs j<=xs.size/\(∀i,i<below xs j->xs.getD i 0<j)/\(∀i,below xs j<=i->i<xs.size->j<=xs.getD i 0):=
 vN xs j H xs.size 0 xs.size (by omega) (by omega) (by omega) (fun i h=>by omega) (fun i h h'=>by omega)
theorem xm{xs:Array Nat}(H:A6 xs):below xs 0=0:=by
 obtain⟨a,b,c⟩:=oM H 0
 rcases Nat.eq_zero_or_pos (below xs 0) with h | h
 ·exact h
 ·have:=b 0 h;omega
theorem xt{xs:Array Nat}(H:A6 xs){i:Nat}(hi:i<xs.size):below xs (xs.getD i 0+1)=i+1:=by
 obtain⟨a,b,c⟩:=oM H (xs.getD i 0+1)
 generalize below xs (xs.getD i 0+1)=r at *
 rcases Nat.lt_or_ge i r with h | h
 ·rcases Nat.lt_or_ge (i+1) r with h' | h'
  ·have h1:=b (i+1) h'
   have h2:=H i (i+1) (by omega) (by omega)
   omega
  ·omega
 ·have:=c i h hi;omega
structure TI (t:SetTable) (n:Nat):Prop where
 mask:t.mask=7
 dum:t.dummies=#[]
 plain:t.plain=true
 ris:A6 t.place
 size:t.place.size=n
def way(i pt:Nat):Nat->Nat×Nat
 | 0=>(i,pt)
 | k+1=>way ((i*5+1+pt / 32)%8) (pt / 32) k
theorem TI.fits{t:SetTable}{n:Nat}(T:TI t n)(hn:n<=7):t.fits n=true:=by
 unfold SetTable.fits SetTable.fill
 rw[T.mask,T.dum,T.size]
 simp;omega
theorem TI.fresh(led:Bool):TI (.fresh 0 0 led) 0:=⟨rfl,rfl,rfl,fun a b h hb=>absurd hb (by simp[SetTable.fresh]),rfl⟩
theorem oR{α:Type}:∀(l:List α) (i:Nat) (x:α),l[i]?=some x->(x::l.eraseIdx i).Perm l
 | [],i,x,h=>by simp at h
 | a::l,0,x,h=>by simp at h;subst h;exact .refl _
 | a::l,i+1,x,h=>by
  simp only[List.getElem?_cons_succ] at h
  simp only[List.eraseIdx_cons_succ]
  exact(List.Perm.swap _ _ _).trans ((oR l i x h).cons a)
theorem tV{α:Type}(next:Nat->Nat):∀(fuel k:Nat) (left:List α) (out:Array α),left.length=fuel->(pickOrder.go next fuel k left out).toList.Perm (out.toList++left)
 | 0,k,left,out,h=>by
  have:left=[]:=List.eq_nil_of_length_eq_zero h
  subst this;rw[List.append_nil];exact .refl _
 | fuel+1,k,left,out,h=>by
  unfold pickOrder.go
  have hlt:next k%left.length<left.length:=Nat.mod_lt _ (by omega)
  rw[List.getElem?_eq_getElem hlt]
  dsimp only
  refine(tV next fuel (k+1) _ _ (by rw[List.length_eraseIdx_of_lt hlt];omega)).trans ?_
  rw[Array.toList_push,List.append_assoc]
  exact(oR left _ _ (List.getElem?_eq_getElem hlt)).append_left _
theorem pZ{α:Type}(next:Nat->Nat)(xs:Array α):(pickOrder next xs).toList.Perm xs.toList:=by
 unfold pickOrder
 exact tV next xs.size 0 xs.toList #[] (by simp)
theorem uw{α:Type}(next:Nat->Nat)(xs:Array α):(pickOrder next xs).size=xs.size:=by
 rw[<- Array.length_toList,(pZ next xs).length_eq,Array.length_toList]
end HW
namespace HW
def intsOf:LD->Option (List Int)
 | []=>some []
 | .int i::r=>(intsOf r).map (i::·)
 | _::_=>none
end HW
namespace HW
open PySem
def B7:Value->Int
 | .int n _=>n
 | _=>0
def sx(b:Bool)(h:Heap)(S:Addr)(ks:List Int):Prop:=
 ∃o es ep t,h.get? S=some o/\o.ExactSet/\o.data=.set es ep t/\(∀e∈es.toList,∃k tk,e=(hashInt k,Value.int k tk))/\TI t es.size/\t.led=b/\(es.toList.map fun e=>B7 e.2).Perm ks
theorem sx.at{b:Bool}{h h':Heap}{S:Addr}{ks:List Int}(x:sx b h S ks)(e:∀o,h.get? S=some o->h'.get? S=some o):sx b h' S ks:=let ⟨o,es,ep,t,ho,r⟩:=x;⟨o,es,ep,t,e _ ho,r⟩
section
variable{prog:Program}{w:World}{A:Around}{E:Value->Shared->Prop}{s:Shared}
end
end HW
namespace HW
open PySem PySem.Spec PyProof.Rows
def mP(h:Heap)(it S:Addr)(slot i n ep:Nat):Prop:=∃o,h.get? it=some o/\o.cls=.type "set_iterator" /\ o.data=.fields #[.int slot 0,.int i 0,.ref S,.int n 0,.int ep 0]
def nF(h:Heap)(S:Addr)(es:Array (Int×Value))(ep:Nat)(t:SetTable):Prop:=∃o,h.get? S=some o/\o.cls=.type "set" /\ o.data=.set es ep t
def slotAt(t:SetTable):Nat->Nat
 | 0=>0
 | i+1=>t.place.getD i 0+1
def pF(w:World):Bool:=w.params.followText "set-order"
structure yI (w:World) (S:Addr) (es:Array (Int×Value)) (ep:Nat) (t:SetTable) (ord:Array (Int×Value)):Prop where
 fits:t.fits es.size=true
 size:ord.size=es.size
 txt:pF w=true->ord=pickOrder (w.params.setOrder S ep) es
 plc:pF w=false->ord=es/\t.led=true/\(!t.plain&&decide (es.size > 1))=false/\∀i,i<=es.size->SetTable.below t.place (slotAt t i)=i
theorem mP.typeIs{s:Shared}{it S slot i n ep}(x:mP s.heap it S slot i n ep):s.TypeIs (.ref it) "set_iterator":=let ⟨o,ho,hc,_⟩:=x;⟨o,ho,hc⟩
theorem nF.typeIs{s:Shared}{S es ep t}(x:nF s.heap S es ep t):s.TypeIs (.ref S) "set":=let ⟨o,ho,hc,_⟩:=x;⟨o,ho,hc⟩
theorem nF.at{h h':Heap}{S es ep t}(x:nF h S es ep t)(e:∀o,h.get? S=some o->h'.get? S=some o):nF h' S es ep t:=let ⟨o,ho,r⟩:=x;⟨o,e _ ho,r⟩
theorem mP.at{h h':Heap}{it S slot i n ep}(x:mP h it S slot i n ep)(e:∀o,h.get? it=some o->h'.get? it=some o):mP h' it S slot i n ep:=let ⟨o,ho,r⟩:=x;⟨o,e _ ho,r⟩
theorem nF.lt{h:Heap}{S es ep t}(x:nF h S es ep t):S<h.objs.size:=let ⟨_,ho,_⟩:=x;Heap.lt_size ho
section
variable{prog:Program}{w:World}{A:Around}{E:Value->Shared->Prop}{s:Shared}{S:Addr}{es ord:Array (Int×Value)}{ep:Nat}{t:SetTable}
def nextOf(ord:Array (Int×Value))(i nx:Nat):Option (Value×Nat):=(ord[i]?).map fun e=>(e.2,nx)
end
set_option maxHeartbeats 3200000
section
variable{prog:Program}{w:World}{A:Around}{R:Result->Shared->Prop}{I:Addr}{fp wr:List Addr}{G:Array GenState->Array GenState->Prop}{n:Nat}{P:Nat->Value->Prop}{St:Nat->Shared->Prop}
end
section
variable{prog:Program}{w:World}{A:Around}{E:Value->Shared->Prop}{s:Shared}
abbrev vY(w:World):Obj:={cls:=.type "set",dict:=none,data:=.set #[] 0 (.fresh 0 0 (!pF w))}
theorem sx.new{h:Heap}{w:World}:sx (!pF w) (h.push (vY w)) h.objs.size []:=
 ⟨vY w,#[],0,_,Heap.get?_push_size _ rfl,⟨rfl,rfl,rfl⟩,rfl,fun e he=>by simp at he,TI.fresh _,rfl,.refl _⟩
theorem sx.ord{h:Heap}{S:Addr}{ks:List Int}(x:sx (!pF w) h S ks)(hn:ks.length<=4) :
  ∃es ep t ord,nF h S es ep t/\yI w S es ep t ord/\(ord.toList.map fun e=>B7 e.2).Perm ks/\∀e∈ord.toList,∃k tk,e.2=Value.int k tk:=by
 obtain⟨o,es,ep,t,ho,hex,hd,hel,hT,hled,hp⟩:=x
 have hlen:es.size=ks.length:=by rw[<- hp.length_eq,List.length_map,Array.length_toList]
 have hf:t.fits es.size=true:=hT.fits (by omega)
 have hel':∀e∈es.toList,∃k tk,e.2=Value.int k tk:=fun e he=>let ⟨k,tk,q⟩:=hel e he;⟨k,tk,by rw[q]⟩
 cases hb:pF w with
 | true =>
  have pp:=pZ (w.params.setOrder S ep) es
  exact⟨es,ep,t,pickOrder (w.params.setOrder S ep) es,⟨o,ho,hex.1,hd⟩,⟨hf,uw _ _,fun _=>rfl,fun z=>by rw[hb] at z;cases z⟩,(pp.map _).trans hp,fun e he=>hel' e (pp.mem_iff.mp he)⟩
 | false =>
  refine⟨es,ep,t,es,⟨o,ho,hex.1,hd⟩,⟨hf,rfl,(fun z=>by rw[hb] at z;cases z),fun _=>⟨rfl,by rw[hled,hb];rfl,by rw[hT.plain];rfl,fun i hi=>?_⟩⟩,hp,hel'⟩
  cases i with
  | zero=>exact xm hT.ris
  | succ i=>exact xt hT.ris (by rw[hT.size];exact hi)
end
end HW
set_option maxHeartbeats 1000000
namespace HW
open PySem PySem.Spec PyProof.Rows L2
section
variable{X:Cx}
theorem bA{K:W.Frag}{H:Hp}:∀{ds:LD} {ns:List Int} {xs:List V} {its:List Value},intsOf ds=some ns->i4 K H ds xs->jg xs its->IntsAre its ns
 | [],ns,xs,its,e,r,v=>by
  cases e
  cases (show xs=[] from r)
  cases v
  exact .nil
 | .int i::ds,ns,xs,its,e,r,v=>by
  obtain⟨ms,e1,e2⟩:=jL (show(intsOf ds).map (i::·)=some ns from e)
  subst e2
  obtain⟨x,xr,rfl,r1,r2⟩:=r
  cases (show x=_ from r1)
  cases v with
  | cons v1 v2 =>
   obtain⟨t,rfl⟩:=v1
   exact .cons i t (bA e1 r2 v2)
 | .non::_,_,_,_,e,_,_=>by cases e
 | .bl _::_,_,_,_,e,_,_=>by cases e
 | .str _::_,_,_,_,e,_,_=>by cases e
 | .tup _::_,_,_,_,e,_,_=>by cases e
 | .lst _::_,_,_,_,e,_,_=>by cases e
 | .fro _::_,_,_,_,e,_,_=>by cases e
variable{sts:List Stmt}
end
section
variable{prog:Program}{w:World}{A:Around}{R':Result->Shared->Prop}{I:Addr}{fp wr:List Addr}{n:Nat}{P:Nat->Value->Prop}{St:Nat->Heap->Prop}
theorem k6:(toString "min" ++ toString ".loop" : String) = "min.loop":=by decide
end
section
variable{prog:Program}{w:World}{A:Around}{E:Value->Shared->Prop}{s:Shared}
end
section
variable{X:Cx}
end
end HW
namespace HW
def Aw(xs:LD):LD:=xs.zipIdx.map fun p=>.tup [.int (p.2:Int),p.1]
end HW
namespace HW
open PySem PySem.Spec PyProof.Rows L2
section
variable{prog:Program}{w:World}{A:Around}{E:Value->Shared->Prop}{s:Shared}
end
section
variable{X:Cx}
end
end HW
namespace HW
def A5(f:R->OD):R->Option LD:=fun ρ=>(f ρ).bind fun d=>match d with
 | .lst xs=>some (Aw xs)
 | _=>none
@[simp] def Bs:D->D->Option Bool
 | .lst xs,.lst []=>some (decide (xs.length=0))
 | _,_=>none
@[simp] def wL (x y:D):Option Bool:=(Bs x y).map (!·)
end HW
namespace HW
open PySem PySem.Spec PyProof.Rows L2
section
variable{X:Cx}
end
section
variable{X:Cx}
theorem ir{k:Nat}(hr:jy k X.A):v9 X .NotEq wL:=by
 intro pins s σ H x y v u Q I rx ry h
 obtain⟨dx,dy,b,r1,r2,e,q⟩:=h
 match dx,dy,e,r1,r2 with
 | .lst xs,.lst [],e,r1,r2 =>
  obtain⟨a1,vs,rfl,hq,t⟩:=r1
  obtain⟨a2,us,rfl,hq2,t2⟩:=r2
  cases rx
  cases ry
  obtain⟨_,its,n,rv,hl,eo⟩:=I.lstM hq
  obtain⟨_,its2,n2,rv2,hl2,eo2⟩:=I.lstM hq2
  have l1:xs.length=its.length:=t.length.trans hl
  have l2:0=its2.length:=t2.length.trans hl2
  have h1:s.heap.IsList a1 its.toArray:=⟨_,eo,rfl,n,rfl⟩
  have h2:s.heap.IsList a2 its2.toArray:=⟨_,eo2,rfl,n2,rfl⟩
  have z2:its2=[]:=List.length_eq_zero_iff.mp l2.symm
  subst z2
  by_cases h0:xs.length=0
  ·have z:its=[]:=List.length_eq_zero_iff.mp (l1 ▸ h0)
   subst z
   have e':some (!decide (xs.length=0))=some b:=e
   rw[decide_eq_true h0] at e'
   cases e'
   exact PySem.EqBoolInt.of_rcne (SeqAt.RcNeAt.lists (e:=fun _=>true) h1 h2 rfl hr.units0 (fun j h1 _=>absurd h1 (by simp))) ⟨.bl false,H,I,rfl,q⟩
  ·have e':some (!decide (xs.length=0))=some b:=e
   rw[decide_eq_false h0] at e'
   cases e'
   exact PySem.EqBoolInt.of_rcne (SeqAt.RcNeAt.lists_lengths h1 h2 (by have z3:its.length≠0:=l1 ▸ h0;simpa using z3) hr.units0) ⟨.bl true,H,I,rfl,q⟩
end
end HW
namespace HW
def nD:LD->OD
 | [.str x,.str y]=>match PySem.Builtin.Str.occurrences x y 0 x.length 1 with
  | i::_=>some (.int (i:Int))
  | []=>none
 | _=>none
end HW
namespace HW
open PySem PySem.Spec PyProof.Rows L2
section
variable{X:Cx}
theorem gB:Ck X "str.index" nD:=by
 intro pins s σ H x vs v us Q I rx rv h
 obtain⟨dx,ds,d,r1,r2,e,q⟩:=h
 match dx,ds,e with
 | .str z,[.str y],e =>
  cases (show x=_ from r1)
  obtain⟨t,rfl⟩:=rx
  obtain⟨u,r',rfl,k1,r2⟩:=r2
  cases (show r'=[] from r2)
  cases (show u=_ from k1)
  obtain⟨u',rfl,t2,rfl⟩:=rv.one
  cases ho:Builtin.Str.occurrences z y 0 z.length 1 with
  | nil =>
   have e':(match Builtin.Str.occurrences z y 0 z.length 1 with | i::_=>some (D.int (i:Int)) | []=>none)=some d:=e
   rw[ho] at e'
   cases e'
  | cons i rest =>
   have e':(match Builtin.Str.occurrences z y 0 z.length 1 with | i::_=>some (D.int (i:Int)) | []=>none)=some d:=e
   rw[ho] at e'
   cases e'
   exact SC.index ho ⟨.int (i:Int),H,I.tok _,⟨_,rfl⟩,q _ H (i9.refl H) rfl⟩
theorem wd{x:D}{ds:LD}{d:D}(h:nD (x::ds)=some d):∃z,x=.str z:=by
 cases x with
 | str z=>exact⟨z,rfl⟩
 | _=>cases h
theorem gY{a e:Expr}{es:List Expr}{f:R->OD}{F:R->Option LD}{ap cp:Pos}(ha:SE X a f)(hF:SA X (e::es) F)
  (hbase:attributeBase a "index" X.env (eval a X.env)=eval a X.env:=by rfl)
  (hfew:((backTo cp (starEach (e::es) X.env)).all (fun x=>!x.1)&&(backToKw cp (keywordEach [] X.env)).all (fun x=>x.1.isSome)&&decide ((e::es).length+([]:List Keyword).length+(if ([]:List Keyword).isEmpty then 0 else 1)<30))=true:=by rfl)
  (hline:(ap.endLine==cp.line)=true:=by rfl):SE X (.Call (.Attribute a "index" ap) (e::es) [] cp) (jc nD (e8 f F)):=
 iT PySem.F.slot_str_index PySem.F.type_str_index gB (fun _ _ _ h=>wd h) ha hF hbase hfew hline
end
end HW
namespace HW
open PySem
end HW
namespace HW
open PySem PySem.Spec PyProof.Rows L2
section
variable{X:Cx}
end
abbrev rO(K:W.Frag)(n:Str)(st:Stmt)(f:Addr):Prop:=∃(oc:Value) (od an:Option Addr) (sl:Array (Option Value)) (kV dc pm cd ct:Value),W.nsIn K mainGlobals n=some (some (.ref f)) /\
 K.lookup f=some ⟨oc,od,.func (W.fnOf n n (j9 st) (jE st) (i7 st) .none kV dc pm an cd ct),sl⟩/\W.codeIn K cd n=true/\W.keepIn K (.ref f)=true
theorem sO{K:W.Frag}{n:Str}{st:Stmt}{f:Addr}(h:rO K n st f):∃fd,ng K n n st f fd/\W.nsIn K mainGlobals n=some (some (.ref f)):=by
 obtain⟨oc,od,an,sl,kV,dc,pm,cd,ct,a,l,c,k⟩:=h
 exact⟨_,gp l c k,a⟩
theorem fn4_mk{K:W.Frag}{n:Str}{st:Stmt}{f:Addr}{oc:Value}{od an:Option Addr}{sl:Array (Option Value)}{kV dc pm cd ct:Value}(a:W.nsIn K mainGlobals n=some (some (.ref f)))
  (l:K.lookup f=some ⟨oc,od,.func (W.fnOf n n (j9 st) (jE st) (i7 st) .none kV dc pm an cd ct),sl⟩) (c:W.codeIn K cd n=true) (k:W.keepIn K (.ref f)=true):rO K n st f:=⟨oc,od,an,sl,kV,dc,pm,cd,ct,a,l,c,k⟩
theorem lg.m{P:Program}{w:World}{K:W.Frag}{mg:Str->Option Value}{base:Heap}{j k:Nat}{x:Str}{ps:List Str}{F:LD->OD}(h:lg P w K mg base j x ps F)(hk:j<=k:=by decide):lg P w K mg base k x ps F:=h.mono hk
section
variable{X:Cx}{pos p:Pos}{e:Expr}{es:List Expr}{k i:Nat}{f c':Addr}{G:LD->OD}{F:R->Option LD}{name qual:Str}{params:Arguments}{body:Expr}{scope:Scope}{cl:List (Str×Addr)}{pm ctv:Value}{ps:List Str}
theorem xT{M:Model}(h:Heap)(x:h.get? f=some (W.kla_obj name qual params body scope cl pm c' ctv)):∃k,(k=Keeper.frame\/k=Keeper.machine\/k=Keeper.boundFrame)/\W.Looks M h (keeperOf (.ref f)) k:=
 ⟨.frame,.inl rfl,(W.Looks.ld (part:=none) x).andThen .now⟩
theorem f_{x:Str}{sp:Sp}{t:TA}(hF:jx X.prog X.w X.K X.mg X.base kK k f (W.kla_fn name qual params body scope cl pm (.ref c') ctv) ps sp)(bd:Binds X.K (W.kla_fn name qual params body scope cl pm (.ref c') ctv) ps [])(hr:jy k X.A)
  (ha:PA X (e::es) t) (he:starEach (e::es) X.env=(false,eval e X.env)::starEach es X.env) (hpl:(backTo pos (starEach es X.env)).any (·.1)=false) (hN:X.N[i]?=some x:=by rfl) (hv:qB X.env.scope x:=by first | exact Or.inl rfl | exact Or.inr (Or.inl rfl) | exact Or.inr (Or.inr rfl))
  (hd:(x==("__debug__" : Str))=false:=by decide) (hcd:(x==("__classdict__" : Str))=false:=by decide) :
  PE X (.Call (.Name x p) (e::es) [] pos) fun σ H Q=>σ[i]?=some (some (.ref f))/\t σ H fun vs H1=>H1 f=some (lF (W.kla_obj name qual params body scope cl pm c' ctv))/\sp vs H1 Q E0:=by
 intro pins s σ H Q I ⟨x1,h⟩
 refine wpAny_Call_Name_kw (jC (eM (pos:=p) hN hv hd hcd pins s σ H (fun v H1=>v=.ref f/\H1=H) I ⟨.ref f,x1,rfl,rfl⟩) fun u s1 ⟨v,H1,I1,rv,ev,eH⟩=>?_)
 subst ev eH
 cases (show u=_ from rv)
 rw[he]
 refine W.callWith_of (P:=fun h=>h.get? f=some (W.kla_obj name qual params body scope cl pm c' ctv)) (by show((false||(backTo pos (starEach es X.env)).any (·.1))||false)=false;rw[hpl];rfl) xT (Calls.evalArgs_plain ?_)
 have hA:=ha pos pins s1 σ H1 (fun vs H2=>H2 f=some (lF (W.kla_obj name qual params body scope cl pm c' ctv))/\sp vs H2 Q E0) I1 h
 rw[he] at hA
 refine jC hA fun us s2 ⟨vs,H2,I2,r,hf,q⟩=>⟨(I2.hok f _ hf).1,?_⟩
 exact wo hF hr bd .nil qY I2 r (by rw[List.append_nil];exact q)
end
section
variable{X:Cx}{pins:List (Addr×Obj)}{σ:L2.St}{H:Hp}{s:Shared}{pos:Pos}
theorem iJ{t:jW}{ts:List jW}{params:Arguments}{body:Expr}{scope:Scope}{clos:List (Str×Addr)}(TB:j8 X.mg ts X.base)(ht:t∈ts)(hcode:X.env.code=.ref t.c)(hq:X.env.qual ++ "<lambda>" = t.q)(hcl:closureFor scope X.env=pure clos)(hdef:defaultsOf params X.env=([],[]):=by rfl) :
  PE X (.Lambda params body scope pos) fun σ H Q=>H t.P=some (.tbl t.q false)/\∀f c' ctv pm H',i9 H H'->H f=none->H' f=some (lF (W.kla_obj "<lambda>" t.q params body scope clos pm c' ctv))->H' c'=some (.tbl t.q true)->Q (.ref f) H':=by
 intro pins s σ H Q I ⟨hP,q⟩
 refine W.kla_eval hdef ?_
 rw[hq]
 refine jC (vU I TB ht hP hcode hcl) fun v s' ⟨f,c',ctv,pm,H',ev,I',sm,hn,h1,h2⟩=>?_
 exact⟨.ref f,H',I',ev,q f c' ctv pm H' sm hn h1 h2⟩
def lA(cl:List (Str×Addr))(h:Heap)(H:Hp):Hp:=fun b=>if kc cl b then (h.get? b).map lF else H b
theorem mL{cl:List (Str×Addr)}{h:Heap}{b:Addr}{o:Obj}(hb:kc cl b=true)(e:h.get? b=some o):lA cl h H b=some (lF o):=by
 show(if kc cl b then (h.get? b).map lF else H b)=_
 rw[if_pos hb,e];rfl
theorem kq{cl:List (Str×Addr)}{h:Heap}{b:Addr}(hb:kc cl b=false):lA cl h H b=H b:=by
 show(if kc cl b then (h.get? b).map lF else H b)=_
 rw[if_neg (by rw[hb];decide)]
theorem kZ{cl:List (Str×Addr)}{b:Addr}(hb:kc cl b=false):lq cl H b=H b:=by
 show(if kc cl b then none else H b)=_
 rw[if_neg (by rw[hb];decide)]
theorem tY{cl:List (Str×Addr)}{b:Addr}(hb:kc cl b=true):lq cl H b=none:=by
 show(if kc cl b then none else H b)=_
 rw[if_pos hb]
theorem xa{k:Nat}{f:Addr}{fd:FuncData}{ps:List Str}{sp:Sp}{cl:List (Str×Addr)}{us:List Value}{vs:List V}{Q:VK}(F:jx X.prog X.w X.K X.mg X.base kK k f fd ps sp)(hr:jy k X.A)(hb:Binds X.K fd ps [])(hfn:∀x,X.fn x=true)(hcl:∀b,kc cl b=true->∃x,X.env.cells.lookup x=some b)
  (I:L2.Inv X pins σ H s) (r:jg vs us) (h:sp vs (lA cl s.heap H) (fun v H'=>Q v (lq cl H')) E0):wpAny (model X.prog X.w) X.A (call (.ref f) us) (EP X pins σ Q) X.xe s:=by
 have cellO:∀{b:Addr},kc cl b=true->∃o v,s.heap.get? b=some o/\o.data=.cell v/\H b=none/\X.s₀.heap.objs.size<=b:=fun {b} hb=>by
  obtain⟨x,hx⟩:=hcl b hb
  obtain⟨v,o,e,d⟩:=I.cell x b hx
  exact⟨o,v,e,d,I.freeC x b hx,I.ok.cab x b (hfn x) hx⟩
 have nC:∀{b:Addr} {u:HO},H b=some u->kc cl b=false:=fun {b u} e=>by
  cases q:kc cl b with
  | false=>rfl
  | true=>obtain⟨_,_,_,_,z,_⟩:=cellO q;rw[e] at z;cases z
 have tk:∀{b:Addr} {u:HO},H b=some u->lA cl s.heap H b=some u:=fun e=>by rw[kq (nC e)];exact e
 have hok:mh X.prog X.w (lA cl s.heap H) s.heap:=fun b u e=>by
  cases q:kc cl b with
  | true =>
   obtain⟨o,_,g,_⟩:=cellO q
   rw[mL q g] at e
   cases e
   exact⟨g,trivial,⟨_,g⟩,fun _ _ _ _=>trivial⟩
  | false =>
   rw[kq q] at e
   exact(I.hok b u e).stay (fun _ _ _ g=>g) (fun c g=>tk g) (fun c xs g=>tk g) fun c a d g=>tk g
 have low:∀{b:Addr},b<X.s₀.heap.objs.size->kc cl b=false:=fun {b} hb=>by
  cases q:kc cl b with
  | false=>rfl
  | true=>obtain⟨_,_,_,_,_,z⟩:=cellO q;exact absurd (Nat.lt_of_lt_of_le hb z) (Nat.lt_irrefl _)
 have e0:m9 X.prog X.w X.K X.mg X.base X.A X.stack s (lA cl s.heap H):=by
  have z:=I.env0
  refine⟨z.frames,z.mod,fun b o e=>⟨(z.bs b o e).1,?_⟩,z.bsz,z.funs,fun b hb=>?_,hok,z.bare⟩
  ·rw[kq (low (Nat.lt_of_lt_of_le (Heap.lt_size e) I.ok.bsz))];exact(z.bs b o e).2
  ·have n:=z.frf b hb
   cases q:kc cl b with
   | false=>rw[kq q];exact n
   | true =>
    obtain⟨x,hx⟩:=hcl b q
    rcases List.mem_cons.mp (I.stkSub b hb) with m | m
    ·exact absurd m (I.cne x b hx)
    ·obtain⟨_,o,ho,_⟩:=I.ok.funs.mem m
     rw[low (Heap.lt_size ho)] at q;cases q
 have hl:us.length=ps.length:=by rw[<- r.length];exact F.len _ _ _ _ h
 refine wpAny_call (codeAny_mono (F.run X.A X.stack s (lA cl s.heap H) ⟨us,[]⟩ us vs _ E0 hr e0 (by have:=hb s us I.kIn (by simpa using hl);simpa using this) r h) fun rr s' hq=>?_)
 cases rr with
 | error e=>exact qY pins σ H s e s' I hq
 | ok fl =>
  cases fl with
  | next=>exact False.elim hq
  | brk=>exact False.elim hq
  | cont=>exact False.elim hq
  | ret u =>
   obtain⟨v,H',os,bare,un,hok',rv,q⟩:=hq
   obtain⟨hh,g,d,tt,os'⟩:=s'
   obtain rfl:os'=s.os:=os
   have ck:∀{b:Addr},kc cl b=true->∃o,s.heap.get? b=some o/\H' b=some (lF o)/\hh.get? b=some o:=fun {b} hb=>by
    obtain⟨o,_,e,_⟩:=cellO hb
    have z:=un.frzs b o _ (fun y w=>by cases w) (mL hb e)
    exact⟨o,e,z,(hok' b _ z).1⟩
   have bk:∀{b:Addr} {u:HO},H' b=some u->(∀o,u≠lF o)->lq cl H' b=some u:=fun {b u} e n=>by
    cases qq:kc cl b with
    | false=>rw[kZ qq];exact e
    | true=>obtain⟨o,_,z,_⟩:=ck qq;rw[e] at z;cases z;exact absurd rfl (n o)
   refine⟨v,lq cl H',I.call (h':=hh) (g':=g) (d':=d) (t':=tt) (ch:=[]) ⟨fun b o e n hf hx=>?_,fun b o e n hf hx=>?_,fun b o e n hx=>?_,fun b o e hx=>un.there b o e hx,fun b xs e=>bk (un.tups b xs (tk e)) (fun o z=>by cases z),fun b o u ny e=>?_,fun b a d' e=>bk (un.tbls b a d' (tk e)) (fun o z=>by cases z)⟩ (fun b u e=>?_) bare (fun b z=>absurd z (by simp)),rv,q⟩
   ·cases qq:kc cl b with
    | true=>obtain⟨o',e1,_,e2⟩:=ck qq;rw[e] at e1;cases e1;exact e2
    | false=>exact un.keep b o e (by rw[kq qq];exact n) hf hx
   ·cases qq:kc cl b with
    | true=>obtain⟨o',e1,_,e2⟩:=ck qq;rw[e] at e1;cases e1;exact⟨o.slots,e2⟩
    | false=>exact un.slot b o e (by rw[kq qq];exact n) hf hx
   ·cases qq:kc cl b with
    | true=>exact tY qq
    | false=>rw[kZ qq];exact un.free b o e (by rw[kq qq];exact n) hx
   ·rw[kZ (nC e)];exact un.frzs b o u ny (tk e)
   ·cases qq:kc cl b with
    | true=>rw[tY qq] at e;cases e
    | false =>
     rw[kZ qq] at e
     exact(hok' b u e).stay (fun _ _ _ g=>g) (fun c g=>bk g fun o z=>by cases z) (fun c xs g=>bk g fun o z=>by cases z) fun c a d g=>bk g fun o z=>by cases z
end
theorem vi {l:W.OpenLaw} {n k:Nat} {q:Program} {loose:List Str} {XP:(Str->Option Value)->Heap->Prop} {YP:World->Heap->Prop} {d:DefRec} {K:Params->W.Frag} {CX:World->rm} {sp:World->List jW->Sp} {x:Str}
    (hn:l.most=some n) (hn2:n<=sizeLine) (hdf:d.params.defaults=[]) (hr:jy k callerA)
    (hY:∀(w:World) (h:Heap),YP w h->(K w.params).In h)
    (F:∀(w:World) (mg:Str->Option Value) (fa:Addr) (h:Heap),(K w.params).In h->h.Ns mainGlobals mg->mg d.name=some (.ref fa) ->
      ∃(ts:List jW) (fd:FuncData),(∀t∈ts,(K w.params).lookup t.P=none/\∃y d',(recsOf q).find? (fun e=>e.name==y)=some d'/\W.tabIn (K w.params) y=some (t.c,t.P))/\(∀(s:Shared) (u:Value),BindsTo s fd ⟨[u],[]⟩ [(x,u)]) /\
        ∀base:Heap,(K w.params).In base->base.Ns mainGlobals mg->j8 mg ts base->jx l.prog w (K w.params) mg base (CX w) k fa fd [x] (sp w ts))
    (hsp:∀(w:World) (ts:List jW) (H:Hp) (a:Addr) (ns:List Int),ns.length<=n->tR ts a H->(∀t∈ts,t.P≠a)->kN (K w.params) H a (ns.map V.int)->sp w ts [.ref a] H (fun v _=>v=.bl true) fun _ _ _=>False)
    (hCX:∀(w:World) (H:Hp) (s:Shared) (e:Value) (s':Shared),CX w [] H s (fun _ _ _=>False) e s'->False) :
    W.WalkO q loose XP YP l.row.toRowW d [] (fun f vs=>PySem.call f vs):=by
  refine Att.attach_call hn hdf fun w s₀ s₁ mg mb fa o pm cd doc a vs ns G Y ho hd hcd hmg hobj hints hlen hg=>?_
  have KX:=hY w _ Y
  obtain⟨ts,fd,hts,hb,hF⟩:=F w mg fa _ KX G.T.g hmg
  refine uz KX G.T.g G.T.b G.T.builtins G.T.nolimit hg hobj hints (Nat.le_trans hlen hn2) hr (fun t ht=>?_) (fun t ht=>(hts t ht).1) ?_ hF hb (fun H hO hP hS=>hsp w ts H a ns hlen hO hP hS) fun H e s'=>hCX w H s₁ e s'
  · obtain⟨_,y,d',h1,h2⟩:=hts t ht
    exact W.tab_of G.T KX h1 h2
  · obtain⟨bm,ob,b1,b2,b3,b4,b5,b6⟩:=G.T.bmain
    refine⟨bm,ob,b1,b2,fun z=>?_,b3,b4,b5,b6⟩
    obtain⟨o',es,ep,e,hd',_⟩:=G.T.g
    rw[z,e] at b3;cases b3;rw[hd'] at b6;cases b6
section
variable{X:Cx}{pins:List (Addr×Obj)}{σ:L2.St}{H Hp':Hp}{s:Shared}{pos:Pos}
structure tL (X:Cx) (cl:List (Str×Addr)) (σ:L2.St) (H H':Hp):Prop where
 out:∀b,kc cl b=false->H' b=H b
 cel:∀b,kc cl b=true->H b=none/\∃o v,H' b=some (lF o)/\o.data=.cell v
 val:∀(i:Nat) (x:Str) (c:Addr) (v:V),X.N[i]?=some x->σ[i]?=some (some v)->cl.lookup x=some c->∃o u,H' c=some (lF o)/\o.data=.cell (some u)/\RelV v u
structure uM (X:Cx) (cl:List (Str×Addr)):Prop where
 fn:∀x,X.fn x=true
 ndc:(cl.map (·.1)).Nodup
 of:∀x c,cl.lookup x=some c->X.env.cells.lookup x=some c/\X.env.scope.names.lookup x=some .cell
theorem uM.lk{cl:List (Str×Addr)}(o:uM X cl):∀b,kc cl b=true->∃x,X.env.cells.lookup x=some b:=fun b hb=>by
 obtain⟨p,hp,e⟩:=List.any_eq_true.mp hb
 exact⟨p.1,(o.of p.1 b (kT o.ndc (by rw[<- eq_of_beq e];exact hp))).1⟩
theorem vZ{cl:List (Str×Addr)}(o:uM X cl)(I:L2.Inv X pins σ H s):tL X cl σ H (lA cl s.heap H):=by
 refine⟨fun b hb=>kq hb,fun b hb=>?_,fun i x c v h1 h2 h3=>?_⟩
 ·obtain⟨x,hx⟩:=o.lk b hb
  obtain⟨v,ob,e,d⟩:=I.cell x b hx
  exact⟨I.freeC x b hx,ob,v,mL hb e,d⟩
 ·obtain⟨hx,hk⟩:=o.of x c h3
  obtain⟨m,_,hl⟩:=I.loc
  obtain⟨u,rv,lk⟩:=hl i x v h1 h2 (.inr (.inl hk))
  rcases lk with ⟨z,_⟩ | ⟨_,c2,e2,ob,g,d⟩
  ·exact absurd (show some NameKind.cell=some NameKind.local from hk.symm.trans z) (by simp)
  ·rw[hx] at e2
   cases e2
   exact⟨ob,u,mL (sg h3) g,d,rv⟩
theorem fT{x:Str}{e:Expr}{es:List Expr}{k:Nat}{f:Addr}{fd:FuncData}{ps:List Str}{sp:Sp}{t:TA}{p:Pos}{cl:List (Str×Addr)}(F:jx X.prog X.w X.K X.mg X.base kK k f fd ps sp)(hr:jy k X.A)(hg:Gl X x)(hm:X.mg x=some (.ref f))(hk:W.keepIn X.K (.ref f)=true)(hb:Binds X.K fd ps [])(o:uM X cl)
  (ha:PA X (e::es) t) (hdb:(x==("__debug__" : Str))=false:=by decide) (he:starEach (e::es) X.env=(false,eval e X.env)::starEach es X.env:=by rfl) (hpl:(backTo pos (starEach es X.env)).any (·.1)=false:=by rfl) :
  PE X (.Call (.Name x p) (e::es) [] pos) fun σ H Q=>t σ H fun vs H1=>∀H2,tL X cl σ H1 H2->sp vs H2 (fun v H'=>Q v (lq cl H')) E0:=by
 intro pins s σ H Q I h
 refine wpAny_Call_Name_kw (dt I hg hm ?_ hdb)
 refine W.callWith_K (h₀:=X.base) I.ok.mod.kin hk (jC (ha pos pins s σ H _ I h) fun us s1 ⟨vs,H1,I1,r,q⟩=>⟨I1.kIn,?_⟩) he hpl
 exact xa F hr hb o.fn o.lk I1 r (q _ (vZ o I1))
end
end HW
namespace HW
open PySem
mutual
def CG:D->Bool
 | .tup xs=>nofs xs
 | .lst xs=>nofs xs
 | .fro _=>false
 | .obj ..=>false
 | .dct ..=>false
 | .dcp ..=>false
 | .cl ..=>false
 | _=>true
def nofs:LD->Bool
 | []=>true
 | x::xs=>CG x&&nofs xs
end
def uQ:D->Bool
 | .dct _ ds=>jS ds
 | .dcp _ ds=>jS ds
 | d=>l6 d
abbrev rD:=lC->Option (LD->OD)
def oQ(L:rD)(i:Nat)(F:R->Option LD):R->OD:=fun ρ=>(i3 i ρ).bind fun c=>(F ρ).bind fun as=>match c with
 | .cl t _ ds=>(L t).bind fun G=>if jS as=true/\jS ds=true/\as.length=t.ps.length then (G (as++ds)).bind fun d=>if l6 d then some d else none else none
 | _=>none
def uE(n:Nat)(g:R->OD):LD->OD:=fun xs=>if xs.length=n then g (xs.map some) else none
def pC:List Nat->R->Option LD
 | [],_=>some []
 | j::js,ρ=>(i3 j ρ).bind fun d=>(pC js ρ).map (d::·)
def nr(G:LD->OD)(t:lC)(F C:R->Option LD):R->OD:=fun ρ=>(F ρ).bind fun as=>(C ρ).bind fun caps=>open Classical in
 if h:jS caps=true/\∃d,uQ d=true/\∀a,G (as++[.cl t a caps])=some d then some h.2.choose else none
theorem uX{G:LD->OD}{t:lC}{F C:R->Option LD}{ρ:R}{as caps:LD}{d:D}(h1:F ρ=some as)(h2:C ρ=some caps)(h3:jS caps=true)(h4:uQ d=true)(h5:∀a,G (as++[.cl t a caps])=some d):nr G t F C ρ=some d:=by
 unfold nr
 rw[h1,Option.bind_some,h2,Option.bind_some,dif_pos ⟨h3,d,h4,h5⟩]
 have z:=(show ∃d,uQ d=true/\∀a,G (as++[.cl t a caps])=some d from⟨d,h4,h5⟩).choose_spec.2 0
 rw[h5 0] at z
 exact congrArg some (Option.some.inj z).symm
theorem wg{G:LD->OD}{t:lC}{F C:R->Option LD}{ρ:R}{d:D}(h:nr G t F C ρ=some d):∃as caps,F ρ=some as/\C ρ=some caps/\jS caps=true/\uQ d=true/\∀a,G (as++[.cl t a caps])=some d:=by
 unfold nr at h
 cases e:F ρ with
 | none=>rw[e] at h;cases h
 | some as =>
  rw[e,Option.bind_some] at h
  cases e2:C ρ with
  | none=>rw[e2] at h;cases h
  | some caps =>
   rw[e2,Option.bind_some] at h
   split at h
   ·rename_i q
    cases h
    exact⟨as,caps,rfl,rfl,q.1,q.2.choose_spec⟩
   ·cases h
def sB(i:Nat):Stmt->Stmt
 | .For _ _ b _ _=>b.getD i (.Pass ⟨0,0,0,0⟩)
 | .If _ b _ _=>b.getD i (.Pass ⟨0,0,0,0⟩)
 | .FunctionDef _ _ b ..=>b.getD i (.Pass ⟨0,0,0,0⟩)
 | s=>s
def sV:Stmt->Expr
 | .Assign _ v ..=>v
 | .Return (some v) _=>v
 | .Expr v _=>v
 | _=>.Name "" ⟨0,0,0,0⟩
def eA(i:Nat):Expr->Expr
 | .Call _ a _ _=>a.getD i (.Name "" ⟨0,0,0,0⟩)
 | e=>e
def Ae(q:Str)(N ps:List Str):Expr->lC
 | .Lambda a b c _=>⟨q,a,b,c,N,ps⟩
 | _=>default
end HW
namespace HW
open PySem PySem.Spec PyProof.Rows L2
section
variable{K:W.Frag}{H H':Hp}
theorem kr.clo{a:Addr}{xs:List V}(s:∀b u,H b=some u->(∀o,u≠lF o)->H' b=some u)(h:kr K H a xs):kr K H' a xs:=by
 rcases h with (h | ⟨o,h⟩) | h
 ·exact .inl (.inl (s _ _ h fun o z=>by cases z))
 ·exact .inl (.inr ⟨o,s _ _ h fun o z=>by cases z⟩)
 ·exact .inr h
theorem kN.clo{a:Addr}{xs:List V}(s:∀b u,H b=some u->(∀o,u≠lF o)->H' b=some u)(h:kN K H a xs):kN K H' a xs:=by
 rcases h with (h | ⟨o,h⟩) | h
 ·exact .inl (.inl (s _ _ h fun o z=>by cases z))
 ·exact .inl (.inr ⟨o,s _ _ h fun o z=>by cases z⟩)
 ·exact .inr h
mutual
theorem Rep.clo(s:∀b u,H b=some u->(∀o,u≠lF o)->H' b=some u):∀{d:D} {v:V},l6 d=true->Rep K H d v->Rep K H' d v
 | .non,_,_,h=>h
 | .bl _,_,_,h=>h
 | .int _,_,_,h=>h
 | .str _,_,_,h=>h
 | .tup ds,_,hn,h=>by
  obtain⟨a,xs,e,q,r⟩:=h
  exact⟨a,xs,e,kr.clo s q,i4.clo s hn r⟩
 | .lst ds,_,hn,h=>by
  obtain⟨a,xs,e,q,r⟩:=h
  exact⟨a,xs,e,s _ _ q (fun o z=>by cases z),i4.clo s hn r⟩
 | .fro ds,_,hn,h=>by
  obtain⟨a,xs,e,q,r⟩:=h
  exact⟨a,xs,e,kN.clo s q,i4.clo s hn r⟩
 | .obj ..,_,hn,_=>by cases hn
 | .dct ..,_,hn,_=>by cases hn
 | .dcp ..,_,hn,_=>by cases hn
 | .cl ..,_,hn,_=>by cases hn
theorem i4.clo(s:∀b u,H b=some u->(∀o,u≠lF o)->H' b=some u):∀{ds:LD} {vs:List V},jS ds=true->i4 K H ds vs->i4 K H' ds vs
 | [],_,_,h=>h
 | d::ds,_,hn,h=>by
  have hn':(l6 d&&jS ds)=true:=hn
  rw[Bool.and_eq_true] at hn'
  obtain⟨v,r,e,q,t⟩:=h
  exact⟨v,r,e,Rep.clo s hn'.1 q,i4.clo s hn'.2 t⟩
end
theorem Rep.cloC(s:∀b u,H b=some u->(∀o,u≠lF o)->H' b=some u){d:D}{v:V}(hn:uQ d=true)(h:Rep K H d v):Rep K H' d v:=by
 match d,hn,h with
 | .dct ks ds,hn,h =>
  obtain⟨a,xs,e,⟨hl,o,q⟩,r⟩:=h
  exact⟨a,xs,e,⟨hl,o,s _ _ q (fun o' z=>by cases z)⟩,i4.clo s hn r⟩
 | .dcp ks ds,hn,h =>
  obtain⟨a,kas,xs,e,q,r⟩:=h
  obtain⟨⟨h1,h2,h3⟩,o,P,w,h4,h5⟩:=q
  exact⟨a,kas,xs,e,⟨⟨h1,h2.to (fun _ _=>kr.clo s),h3⟩,o,P,w,s _ _ h4 (fun o' z=>by cases z),h5⟩,i4.clo s hn r⟩
 | .non,hn,h=>exact Rep.clo s hn h
 | .bl _,hn,h=>exact Rep.clo s hn h
 | .int _,hn,h=>exact Rep.clo s hn h
 | .str _,hn,h=>exact Rep.clo s hn h
 | .tup _,hn,h=>exact Rep.clo s hn h
 | .lst _,hn,h=>exact Rep.clo s hn h
 | .fro _,hn,h=>exact Rep.clo s hn h
 | .obj ..,hn,h=>cases hn
 | .cl ..,hn,h=>cases hn
theorem rg{cl:List (Str×Addr)}(hC:∀b,kc cl b=true->∃o,H b=some (lF o)):∀b u,H b=some u->(∀o,u≠lF o)->lq cl H b=some u:=fun b u e n=>by
 cases q:kc cl b with
 | false=>rw[kZ q];exact e
 | true =>
  obtain⟨o,z⟩:=hC b q
  rw[e] at z
  exact absurd (Option.some.inj z) (n o)
theorem fW:∀{ds:LD} {vs:List V},i4 K H ds vs->jP K H (ds.map some) (vs.map some):=fun {ds vs} r=>by
 refine⟨by rw[List.length_map,List.length_map,r.length];exact Nat.le_refl _,fun i d h=>?_⟩
 rw[List.getElem?_map] at h
 obtain⟨d',e,q⟩:=jL h
 cases q
 obtain⟨v,h1,h2⟩:=r.get e
 exact⟨v,by rw[List.getElem?_map,h1];rfl,h2⟩
end
def CL(K:W.Frag)(t:lC)(G:LD->OD)(f c':Addr)(cl:List (Str×Addr))(pm ctv:Value):Sp:=fun vs H Q _=>∃as ds caps d,H f=some (lF (W.kla_obj "<lambda>" t.q t.params t.body t.scope cl pm c' ctv))/\H c'=some (.tbl t.q true)/\ma H t.N t.ps cl caps /\
 as.length=t.ps.length/\i4 K H as vs/\i4 K H ds caps/\jS as=true/\jS ds=true/\G (as++ds)=some d/\l6 d=true/\∀v H',i9 H H'->Rep K H' d v->Q v H'
structure oI (P:Program) (w:World) (K:W.Frag) (mg:Str->Option Value) (base:Heap) (k:Nat) (t:lC) (G:LD->OD):Prop where
 ok:∀(f c':Addr) (cl:List (Str×Addr)) (pm ctv:Value),kU t.N t.ps t.scope cl->jx P w K mg base kK k f (W.kla_fn "<lambda>" t.q t.params t.body t.scope cl pm (.ref c') ctv) t.ps (CL K t G f c' cl pm ctv)
 bd:∀(c':Addr) (cl:List (Str×Addr)) (pm ctv:Value),Binds K (W.kla_fn "<lambda>" t.q t.params t.body t.scope cl pm (.ref c') ctv) t.ps []
theorem oI.m{P:Program}{w:World}{K:W.Frag}{mg:Str->Option Value}{base:Heap}{k k':Nat}{t:lC}{G:LD->OD}(h:oI P w K mg base k t G)(hk:k<=k':=by decide):oI P w K mg base k' t G:=
 ⟨fun f c' cl pm ctv S=>(h.ok f c' cl pm ctv S).mono hk,h.bd⟩
theorem yp{P:Program}{w:World}{K:W.Frag}{mg:Str->Option Value}{base:Heap}{k:Nat}{t:lC}{g:R->OD}
  (hb:∀(cl:List (Str×Addr)) (f c':Addr) (A:Around) (outer:List Env) (s:Shared) (H:Hp) (E:XK),kU t.N t.ps t.scope cl->jy k (A.deeper (W.envX t.q t.scope s.heap.objs.size f (.ref c') cl))->SE (uc kK P w K mg base t.N t.q t.scope cl f (.ref c') A outer s H E) t.body g)
  (bd:∀(c':Addr) (cl:List (Str×Addr)) (pm ctv:Value),Binds K (W.kla_fn "<lambda>" t.q t.params t.body t.scope cl pm (.ref c') ctv) t.ps []):oI P w K mg base (k+1) t (uE t.N.length g):=by
 refine⟨fun f c' cl pm ctv S=>zr S (fun vs H Q E ⟨as,ds,caps,d,_,_,_,hl,r,_⟩=>by rw[<- r.length];exact hl) (fun vs H Q E ⟨as,ds,caps,d,h1,h2,_⟩=>⟨h1,h2⟩) (fun A outer s H vs Q E hr _ h=>?_),bd⟩
 obtain⟨as,ds,caps,d,h1,h2,h3,hl,r1,r2,n1,n2,e,nd,q⟩:=h
 have hC:∀b,kc cl b=true->∃o,H b=some (lF o):=fun b hb=>let ⟨o,_,z,_⟩:=h3.2.1 b hb;⟨o,z⟩
 have dc:=rg hC
 unfold uE at e
 split at e
 case isFalse=>cases e
 case isTrue hlen =>
 refine⟨caps,_,h3,hb cl f c' A outer s H E S hr,(as++ds).map some,d,?_,e,fun v H2 s2 rv bk=>q v _ (fun b u hu=>?_) (rv.mono fun b u hu=>bk b u hu)⟩
 ·exact fW (i4.append (i4.clo dc n1 r1) (i4.clo dc n2 r2))
 ·show(if kc cl b then H b else H2 b)=some u
  cases qc:kc cl b with
  | true=>exact hu
  | false=>exact s2 b u (by rw[kZ qc];exact hu)
section
variable{X:Cx}{pos p:Pos}{e:Expr}{es:List Expr}{k i:Nat}{F:R->Option LD}
theorem ge{x:Str}{L:rD}(i:Nat)(LO:∀t G,L t=some G->oI X.prog X.w X.K X.mg X.base k t G)(hr:jy k X.A)(ha:SA X (e::es) F)(hN:X.N[i]?=some x:=by rfl)(hv:qB X.env.scope x:=by first | exact Or.inl rfl | exact Or.inr (Or.inl rfl) | exact Or.inr (Or.inr rfl))
  (hd:(x==("__debug__" : Str))=false:=by decide) (hcd:(x==("__classdict__" : Str))=false:=by decide):SE X (.Call (.Name x p) (e::es) [] pos) (oQ L i F):=by
 have hst:=ha.2.2
 rw[List.all_cons,Bool.and_eq_true] at hst
 have he:=av es X.env hst.1
 have hpl:=bq (pos:=pos) (env:=X.env) hst.2
 intro pins s σ H Q I ⟨ρ,d,er,e0,q⟩
 obtain⟨c,hat,e1⟩:=i5 e0
 obtain⟨as,eF,e2⟩:=i5 e1
 match c,hat,e2 with
 | .cl t a ds,hat,e2 =>
 obtain⟨G,hG,e3⟩:=i5 e2
 split at e3
 case isFalse=>cases e3
 case isTrue hc =>
 obtain⟨n1,n2,hl⟩:=hc
 obtain⟨d',hd',e4⟩:=i5 e3
 split at e4
 case isFalse=>cases e4
 case isTrue nd =>
 cases e4
 obtain⟨v,hσ,rv⟩:=er.at hat
 obtain⟨ev,cl,xs,pm,ctv,c',h1,h2,S,h3,r⟩:=rv
 subst ev
 have lo:=LO t G hG
 refine f_ (lo.ok a c' cl pm ctv S) (lo.bd c' cl pm ctv) hr ha.1 he hpl hN hv hd hcd pins s σ H Q I ⟨hσ,ρ,as,er,eF,fun vs H1 s1 r1=>⟨s1 _ _ h1,as,ds,xs,d,s1 _ _ h1,s1 _ _ h2,h3.to fun b o z=>s1 _ _ z,hl,r1,r.mono s1,n1,n2,hd',nd,fun u H2 s2 r2=>q u H2 (s1.trans s2) r2⟩⟩
end
theorem rF{K:W.Frag}{H:Hp}{ρ:R}{σ:L2.St}(er:jP K H ρ σ):∀{js:List Nat} {cs:LD},pC js ρ=some cs->∃vs,i4 K H cs vs/\vs.length=js.length/\∀(i j:Nat) (v:V),js[i]?=some j->vs[i]?=some v->σ[j]?=some (some v)
 | [],_,h=>by cases h;exact⟨[],rfl,rfl,fun i j v h=>by cases h⟩
 | j::js,cs,h=>by
  obtain⟨d,e1,h⟩:=i5 h
  obtain⟨cs',e2,rfl⟩:=jL h
  obtain⟨v,hσ,rv⟩:=er.at e1
  obtain⟨vs,r,hl,hg⟩:=rF er e2
  refine⟨v::vs,⟨v,vs,rfl,rv,r⟩,by simp[hl],fun i j' v' h1 h2=>?_⟩
  cases i with
  | zero=>cases h1;cases h2;exact hσ
  | succ i=>exact hg i j' v' h1 h2
def zM(K:W.Frag)(t:lC)(cl:List (Str×Addr))(Pt:Addr)(F:R->Option LD):TA:=fun σ H Q=>∃ ρ as,jP K H ρ σ/\F ρ=some as/\H Pt=some (.tbl t.q false) /\
 ∀vs f c' ctv pm H',i9 H H'->i4 K H' as vs->H f=none->H' f=some (lF (W.kla_obj "<lambda>" t.q t.params t.body t.scope cl pm c' ctv))->H' c'=some (.tbl t.q true)->Q (vs++[.ref f]) H'
section
variable{X:Cx}{pos p:Pos}{e:Expr}{es:List Expr}{k:Nat}{F:R->Option LD}{t:lC}{cl:List (Str×Addr)}{ct:jW}{ts:List jW}
theorem wm(TB:j8 X.mg ts X.base)(ht:ct∈ts)(hcode:X.env.code=.ref ct.c)(hq:X.env.qual ++ "<lambda>" = ct.q)(htq:t.q=ct.q)(hcl:closureFor t.scope X.env=pure cl)(hdef:defaultsOf t.params X.env=([],[]):=by rfl):PA X [.Lambda t.params t.body t.scope pos] (zM X.K t cl ct.P i8):=
 (ca (iJ (pos:=pos) TB ht hcode hq hcl hdef) sd).imp fun σ H Q ⟨ρ,as,er,e,hP,q⟩=>by
  cases e
  rw[htq] at hP
  refine⟨hP,fun f c' ctv pm H' sm hn h1 h2=>?_⟩
  rw[<- htq] at h1 h2
  exact q [] f c' ctv pm H' sm rfl hn h1 h2
theorem vW{f:R->OD}{Pt:Addr}(ha:SE X e f)(hr:PA X es (zM X.K t cl Pt F))(hs:noStar e=true:=by rfl):PA X (e::es) (zM X.K t cl Pt (e8 f F)):=
 (ca ha hr (av es X.env hs)).imp fun σ H Q ⟨ρ,as,er,e,hP,q⟩=>by
  obtain⟨x,e1,e⟩:=i5 e
  obtain⟨y,e2,e⟩:=jL e
  subst e
  refine⟨ρ,x,er,e1,fun v H1 s1 r1=>⟨ρ,y,er.mono s1,e2,s1 _ _ hP,fun vs g c' ctv pm H2 s2 r2 hn h1 h2=>q (v::vs) g c' ctv pm H2 (s1.trans s2) (i4.cons (r1.mono s2) r2) ?_ h1 h2⟩⟩
  cases hb:H g with
  | none=>rfl
  | some u=>rw[s1 g u hb] at hn;cases hn
theorem gt{x:Str}{G:LD->OD}{ps:List Str}{js:List Nat}{Pt:Addr}(C:lg X.prog X.w X.K X.mg X.base k x ps G)(hr:jy k X.A)(hT:X.H₀ Pt=some (.tbl t.q false))(o:uM X cl)(S:kU t.N t.ps t.scope cl)
  (hjs:js.map (fun j=>X.N[j]?)=(t.N.drop t.ps.length).map some) (hcn:∀y c,cl.lookup y=some c->y∈t.N.drop t.ps.length) (ha:PA X (e::es) (zM X.K t cl Pt F)) (hst:(e::es).all noStar=true:=by rfl) (hg:Gl X x:=by rfl) (hdb:(x==("__debug__" : Str))=false:=by decide) :
  SE X (.Call (.Name x p) (e::es) [] pos) (nr G t F (pC js)):=by
 rw[List.all_cons,Bool.and_eq_true] at hst
 have he:=av es X.env hst.1
 have hpl:=bq (pos:=pos) (env:=X.env) hst.2
 obtain⟨fa,fd,fok,hm,kp,bd⟩:=C.ex
 intro pins s σ H Q I ⟨ρ,d,er,e0,q⟩
 obtain⟨as,cs,eF,eC,nc,nd,hG⟩:=wg e0
 refine fT fok hr hg hm kp bd o ha hdb he hpl pins s σ H Q I ⟨ρ,as,er,eF,I.base.tbls _ _ _ hT,fun vs f c' ctv pm H1 s1 r1 hn h1 h2 H2 tr=>?_⟩
 have s12:i9 H1 H2:=fun b u hb=>by
  cases qc:kc cl b with
  | false=>rw[tr.out b qc];exact hb
  | true=>rw[(tr.cel b qc).1] at hb;cases hb
 obtain⟨cvs,rc,hl,hg'⟩:=rF (er.mono s1) eC
 have hlen:js.length=t.N.length - t.ps.length:=by
  have:=congrArg List.length hjs
  rw[List.length_map,List.length_map,List.length_drop] at this
  exact this
 have at_i:∀(i:Nat) (y:Str),(t.N.drop t.ps.length)[i]?=some y->∃j,js[i]?=some j/\X.N[j]?=some y:=fun i y hy=>by
  have h:=congrArg (fun l=>l[i]?) hjs
  simp only[List.getElem?_map] at h
  rw[hy] at h
  cases hj:js[i]? with
  | none=>rw[hj] at h;cases h
  | some j=>rw[hj] at h;exact⟨j,rfl,Option.some.inj h⟩
 have caps:ma H2 t.N t.ps cl cvs:=by
  refine⟨by rw[hl,hlen],fun b hb=>?_,fun i y v hy hv=>?_⟩
  ·obtain⟨pr,hp,ep⟩:=List.any_eq_true.mp hb
   have hlk:cl.lookup pr.1=some b:=kT o.ndc (by rw[<- eq_of_beq ep];exact hp)
   obtain⟨i,hi⟩:=List.getElem?_of_mem (hcn _ _ hlk)
   obtain⟨j,hj,hN⟩:=at_i i _ hi
   have hil:i<cvs.length:=by rw[hl];exact(List.getElem?_eq_some_iff.mp hj).1
   obtain⟨ob,u,z1,z2,_⟩:=tr.val j _ b cvs[i] hN (hg' i j _ hj (List.getElem?_eq_getElem hil)) hlk
   exact⟨ob,u,z1,z2⟩
  ·obtain⟨j,hj,hN⟩:=at_i i y hy
   obtain⟨c,hc⟩:=S.has y (S.fre y (List.mem_of_getElem? hy))
   obtain⟨ob,u,z1,z2,z3⟩:=tr.val j y c v hN (hg' i j v hj hv) hc
   exact⟨c,ob,u,hc,z1,z2,z3⟩
 refine⟨as++[.cl t f cs],d,?_,hG f,fun v H' s2 rv=>q v _ (fun b u hb=>?_) (Rep.cloC (rg fun b hb=>?_) nd rv)⟩
 ·exact i4.append (r1.mono s12) (i4.one ⟨rfl,cl,cvs,pm,ctv,c',s12 _ _ h1,s12 _ _ h2,S,caps,rc.mono s12⟩)
 ·have hb1:=s1 b u hb
  cases qc:kc cl b with
  | true=>rw[(tr.cel b qc).1] at hb1;cases hb1
  | false=>rw[kZ qc];exact s2 b u (s12 b u hb1)
 ·obtain⟨_,ob,_,z,_⟩:=tr.cel b hb
  exact⟨ob,s2 _ _ z⟩
end
structure zB (K:W.Frag) (x qual:Str) (st:Stmt) (f:Addr) (fd:FuncData) (c:Addr):Prop where
 ex:∃(oc:Value) (od:Option Addr) (kV doc pm:Value) (an:Option Addr) (ct:Value) (osl:Array (Option Value)),
  fd=W.fnOf x qual (j9 st) (jE st) (i7 st) .none kV doc pm an (.ref c) ct/\K.lookup f=some ⟨oc,od,.func fd,osl⟩/\W.codeIn K (.ref c) qual=true
 kp:W.keepIn K (.ref f)=true
def spT(K:W.Frag)(F:LD->OD)(t:jW):Sp:=fun vs H Q E=>H t.P=some (.tbl t.q false)/\pS K F vs H Q E
theorem gL{P:Program}{w:World}{K:W.Frag}{mg:Str->Option Value}{base:Heap}{x qual:Str}{st:Stmt}{f:Addr}{fd:FuncData}{N ps:List Str}{k:Nat}{F:LD->OD}{g:R->Option Out}{t:jW}
  (Fn:zB K x qual st f fd t.c) (S:jm N ps (i7 st)) (hlen:∀ds d,F ds=some d->ds.length=ps.length)
  (hb:∀(A:Around) (outer:List Env) (s:Shared) (H:Hp) (E:XK),jy k (A.deeper (envOfC qual (i7 st) s.heap.objs.size f (.ref t.c)))->H t.P=some (.tbl t.q false)->SS (nN kK P w K mg base N qual (i7 st) f (.ref t.c) A outer s H E).nox (jE st) g)
  (hF:∀ds d,F ds=some d->jK (g (pQ N.length ds))=some d):jx P w K mg base kK (k+1) f fd ps (spT K F t):=by
 obtain⟨oc,od,kV,doc,pm,an,ct,osl,rfl,lk,hcd⟩:=Fn.ex
 refine ia lk hcd S (fun vs H Q E h=>?_) (fun A outer s H vs Q E hr h=>?_)
 ·obtain⟨_,ds,d,r,e,_⟩:=h
  rw[<- r.length]
  exact hlen ds d e
 ·obtain⟨hT,ds,d,r,e,q⟩:=h
  refine⟨_,(hb A outer s H E hr hT).nox,?_⟩
  have z:=hF ds d e
  cases ho:g (pQ N.length ds) with
  | none=>rw[ho] at z;cases z
  | some o =>
   rw[ho] at z
   refine⟨pQ N.length ds,_,o,(nZ r).t,ho,fun H1 s1=>?_⟩
   cases o with
   | rt d'=>cases (show d'=d from Option.some.inj z);exact fun v rv=>q v H1 s1 rv
   | nx ρ=>cases (show D.non=d from Option.some.inj z);exact fun σ _=>q .non H1 s1 rfl
   | bk ρ=>cases z
   | ct ρ=>cases z
structure rZ (X:Cx) (t:lC) (cl:List (Str×Addr)) (ct:jW) (js:List Nat):Prop where
 TB:j8 X.mg [ct] X.base
 hT:X.H₀ ct.P=some (.tbl ct.q false)
 tq:t.q=ct.q
 code:X.env.code=.ref ct.c
 qual:X.env.qual ++ "<lambda>" = ct.q
 hcl:closureFor t.scope X.env=pure cl
 hdf:defaultsOf t.params X.env=([],[])
 own:uM X cl
 sc:kU t.N t.ps t.scope cl
 hjs:js.map (fun j=>X.N[j]?)=(t.N.drop t.ps.length).map some
 hcn:∀y c,cl.lookup y=some c->y∈t.N.drop t.ps.length
section
variable{X:Cx}{pos p:Pos}{e:Expr}{es:List Expr}{k:Nat}{F:R->Option LD}{t:lC}{cl:List (Str×Addr)}{ct:jW}{js:List Nat}
theorem yG(o:rZ X t cl ct js):PA X [.Lambda t.params t.body t.scope pos] (zM X.K t cl ct.P i8):=
 wm o.TB (List.mem_singleton.mpr rfl) o.code o.qual o.tq o.hcl o.hdf
theorem fI{x:Str}{G:LD->OD}{ps:List Str}(C:lg X.prog X.w X.K X.mg X.base k x ps G)(hr:jy k X.A)(o:rZ X t cl ct js)(ha:PA X (e::es) (zM X.K t cl ct.P F))(hst:(e::es).all noStar=true:=by rfl)(hg:Gl X x:=by rfl)(hdb:(x==("__debug__" : Str))=false:=by decide) :
  SE X (.Call (.Name x p) (e::es) [] pos) (nr G t F (pC js)):=gt C hr (by rw[o.tq];exact o.hT) o.own o.sc o.hjs o.hcn ha hst hg hdb
end
def Af(P:Program)(w:World)(K:W.Frag)(mg:Str->Option Value)(base:Heap)(k:Nat)(L:rD):Prop:=∀t G,L t=some G->oI P w K mg base k t G
theorem Af.mono{P:Program}{w:World}{K:W.Frag}{mg:Str->Option Value}{base:Heap}{k k':Nat}{L:rD}(h:Af P w K mg base k L)(hk:k<=k'):Af P w K mg base k' L:=fun t G e=>(h t G e).m hk
theorem zu{K:W.Frag}{t:lC}(h:∀(c':Addr) (cl:List (Str×Addr)) (pm ctv:Value) (us:List Value),us.length=t.ps.length->bindArgs (W.kla_fn "<lambda>" t.q t.params t.body t.scope cl pm (.ref c') ctv) ⟨us,[]⟩=pure (t.ps.zip us)) :
  ∀(c':Addr) (cl:List (Str×Addr)) (pm ctv:Value),Binds K (W.kla_fn "<lambda>" t.q t.params t.body t.scope cl pm (.ref c') ctv) t.ps []:=fun c' cl pm ctv=>.all (h c' cl pm ctv)
theorem iF{K:W.Frag}{x:Str}{f c P:Addr}{oc oc2:Value}{od od2:Option Addr}{osl u9:Array (Option Value)}{fd:FuncData}{vs:Array Value}(a:W.nsIn K mainGlobals x=some (some (.ref f)))(l:K.lookup f=some ⟨oc,od,.func fd,osl⟩)(hc:fd.code=.ref c)
  (l2:K.lookup c=some ⟨oc2,od2,.fields vs,u9⟩) (h:vs[11]?=some (.ref P)):W.tabIn K x=some (c,P):=by
 unfold W.tabIn
 simp only[a,l,hc,l2,h]
def AO(K:W.Frag)(F:LD->OD)(ts:List jW):Sp:=fun vs H Q E=>∀t,ts=[t]->spT K F t vs H Q E
theorem zt{K:W.Frag}{F:LD->OD}{H:Hp}{ts:List jW}{a:Addr}{vs:List V}{Q:VK}{E:XK}(hO:tR ts a H)(hP:∀t∈ts,t.P≠a)(h:pS K F vs H Q E):AO K F ts vs H Q E:=fun t e=>by
 subst e
 refine⟨?_,h⟩
 rcases hO t.P with ⟨_,z⟩ | ⟨z,_⟩
 ·rw[z];simp[qx]
 ·exact absurd z (hP t (List.mem_singleton.mpr rfl))
theorem zq{P:Program}{w:World}{K:W.Frag}{mg:Str->Option Value}{base:Heap}{k:Nat}{f:Addr}{fd:FuncData}{ps:List Str}{F:LD->OD}{t:jW}(h:jx P w K mg base kK k f fd ps (spT K F t)):jx P w K mg base kK k f fd ps (AO K F [t]):=h.imp fun vs H Q E z=>z t rfl
end HW
namespace HW
open PySem
end HW
namespace HW
open PySem PySem.Spec PyProof.Rows L2
section
variable{X:Cx}
variable{o i:Expr}{f g:R->OD}{pos apos cpos:Pos}
end
section
variable{X:Cx}{a:Expr}{f:R->OD}
end
section
variable{X:Cx}
end
structure nK (P:Program) (w:World) (K:W.Frag) (mg:Str->Option Value) (base:Heap) (k:Nat) (x:Str) (ps:List Str) (F:LD->OD) (ct:jW):Prop where
 ex:∃f fd,jx P w K mg base kK k f fd ps (spT K F ct)/\mg x=some (.ref f)/\W.keepIn K (.ref f)=true/\Binds K fd ps []
theorem nK.mono{P:Program}{w:World}{K:W.Frag}{mg:Str->Option Value}{base:Heap}{j k:Nat}{x:Str}{ps:List Str}{F:LD->OD}{ct:jW}(h:nK P w K mg base j x ps F ct)(hk:j<=k):nK P w K mg base k x ps F ct:=by
 obtain⟨f,fd,a,b⟩:=h.ex
 exact⟨f,fd,a.mono hk,b⟩
theorem nK.m{P:Program}{w:World}{K:W.Frag}{mg:Str->Option Value}{base:Heap}{j k:Nat}{x:Str}{ps:List Str}{F:LD->OD}{ct:jW}(h:nK P w K mg base j x ps F ct)(hk:j<=k:=by decide):nK P w K mg base k x ps F ct:=h.mono hk
theorem eU{P:Program}{w:World}{K:W.Frag}{mg:Str->Option Value}{base:Heap}{x qual:Str}{st:Stmt}{f:Addr}{fd:FuncData}{N ps:List Str}{k:Nat}{F:LD->OD}{g:R->Option Out}{t:jW}
  (Fn:ng K x qual st f fd) (S:jm N ps (i7 st)) (hlen:∀ds d,F ds=some d->ds.length=ps.length)
  (hb:∀(cdv:Value) (A:Around) (outer:List Env) (s:Shared) (H:Hp) (E:XK),jy k (A.deeper (envOfC qual (i7 st) s.heap.objs.size f cdv))->H t.P=some (.tbl t.q false)->SS (nN kK P w K mg base N qual (i7 st) f cdv A outer s H E).nox (jE st) g)
  (hF:∀ds d,F ds=some d->jK (g (pQ N.length ds))=some d):jx P w K mg base kK (k+1) f fd ps (spT K F t):=by
 refine Fn.ok S (fun vs H Q E h=>?_) (fun cdv A outer s H vs Q E hr h=>?_)
 ·obtain⟨_,ds,d,r,e,_⟩:=h
  rw[<- r.length]
  exact hlen ds d e
 ·obtain⟨hT,ds,d,r,e,q⟩:=h
  refine⟨_,hb cdv A outer s H E hr hT,?_⟩
  have z:=hF ds d e
  cases ho:g (pQ N.length ds) with
  | none=>rw[ho] at z;cases z
  | some o =>
   rw[ho] at z
   refine⟨pQ N.length ds,_,o,(nZ r).t,ho,fun H1 s1=>?_⟩
   cases o with
   | rt d'=>cases (show d'=d from Option.some.inj z);exact fun v rv=>q v H1 s1 rv
   | nx ρ=>cases (show D.non=d from Option.some.inj z);exact fun σ _=>q .non H1 s1 rfl
   | bk ρ=>cases z
   | ct ρ=>cases z
section
variable{X:Cx}{p pos:Pos}{e:Expr}{es:List Expr}{F:R->Option LD}{ct:jW}
theorem cj{k:Nat}{x:Str}{ps:List Str}{G:LD->OD}(C:nK X.prog X.w X.K X.mg X.base k x ps G ct)(hr:jy k X.A)(hT:X.H₀ ct.P=some (.tbl ct.q false))(ha:SA X (e::es) F)(hg:Gl X x:=by rfl)
  (hdb:(x==("__debug__" : Str))=false:=by decide):SE X (.Call (.Name x p) (e::es) [] pos) (jc G F):=by
 have hst:=ha.2.2
 rw[List.all_cons,Bool.and_eq_true] at hst
 have he:=av es X.env hst.1
 have hpl:=bq (pos:=pos) (env:=X.env) hst.2
 obtain⟨f,fd,a,m,kp,bd⟩:=C.ex
 intro pins s σ H Q I h
 have hP:=I.base.tbls _ _ _ hT
 refine((du a hr hg m kp bd .nil qY ha.1 hdb he hpl).imp (t':=fun σ H Q=>H ct.P=some (.tbl ct.q false)/\tD X.K (jc G F) σ H Q) fun σ H Q ⟨hP,ρ,d,er,e,q⟩=>?_) pins s σ H Q I ⟨hP,h⟩
 obtain⟨ds,e1,e⟩:=i5 e
 exact⟨ρ,ds,er,e1,fun vs H1 s1 r1=>⟨s1 _ _ hP,ds,d,by rw[List.append_nil];exact r1,e,fun v H2 s2 r2=>q v H2 (s1.trans s2) r2⟩⟩
end
end HW
namespace HW
open PySem
abbrev Ky:=Int ⊕ (Int×Int)
abbrev KI:=List (Ky×D)
def oF:D->Option Ky
 | .int i=>some (.inl i)
 | .tup [.int i,.int j]=>some (.inr (i,j))
 | _=>none
def ji:Ky->D
 | .inl i=>.int i
 | .inr p=>.tup [.int p.1,.int p.2]
theorem nV{d:D}{k:Ky}(h:oF d=some k):d=ji k:=by
 match d,h with
 | .int i,h=>cases h;rfl
 | .tup [.int i,.int j],h=>cases h;rfl
def kin(kv:KI)(k:Ky):Bool:=!kv.isEmpty&&kv.all fun p=>p.1.isLeft==k.isLeft
abbrev WU:=R->Nat->KI->LD->Option (Out×KI×LD)
abbrev WE:=R->Nat->KI->OD
def jB:KI->Ky->OD
 | [],_=>none
 | (k,d)::kv,j=>if k=j then some d else jB kv j
def isAt(i:Nat)(ρ:R)(a:Nat):Prop:=i3 i ρ=some (.obj 1 a [] [])
instance (i:Nat) (ρ:R) (a:Nat):Decidable (isAt i ρ a):=by
 unfold isAt
 match h:i3 i ρ with
 | some (.obj 1 b [] []) =>
  by_cases e:b=a
  ·exact isTrue (by rw[e])
  ·exact isFalse (by intro z;cases z;exact e rfl)
 | none=>exact isFalse (by intro z;cases z)
 | some .non=>exact isFalse (by intro z;cases z)
 | some (.bl _)=>exact isFalse (by intro z;cases z)
 | some (.int _)=>exact isFalse (by intro z;cases z)
 | some (.str _)=>exact isFalse (by intro z;cases z)
 | some (.tup _)=>exact isFalse (by intro z;cases z)
 | some (.lst _)=>exact isFalse (by intro z;cases z)
 | some (.fro _)=>exact isFalse (by intro z;cases z)
 | some (.dct ..)=>exact isFalse (by intro z;cases z)
 | some (.dcp ..)=>exact isFalse (by intro z;cases z)
 | some (.cl ..)=>exact isFalse (by intro z;cases z)
 | some (.obj 0 ..)=>exact isFalse (by intro z;cases z)
 | some (.obj (_+2) ..)=>exact isFalse (by intro z;cases z)
 | some (.obj 1 _ (_::_) _)=>exact isFalse (by intro z;cases z)
 | some (.obj 1 _ [] (_::_))=>exact isFalse (by intro z;cases z)
def tQ(u:R->Option Out):WU:=fun ρ _ kv ds=>(u ρ).map fun o=>(o,kv,ds)
def wc:WU:=fun ρ _ kv ds=>some (.nx ρ,kv,ds)
def si(p q:WU):WU:=fun ρ a kv ds=>(p ρ a kv ds).bind fun r=>match r.1 with
 | .nx ρ1=>q ρ1 a r.2.1 r.2.2
 | o=>some (o,r.2)
def A0(c:R->Nat->KI->Option Bool)(p q:WU):WU:=fun ρ a kv ds=>(c ρ a kv).bind fun b=>if b then p ρ a kv ds else q ρ a kv ds
def rj(st:D->R->Option R)(p:WU):LD->R->Nat->KI->LD->Option (Out×KI×LD)
 | [],ρ,_,kv,ds=>some (.nx ρ,kv,ds)
 | x::xs,ρ,a,kv,ds=>(st x ρ).bind fun ρ1=>(p ρ1 a kv ds).bind fun r=>match r.1 with
  | .nx ρ2=>rj st p xs ρ2 a r.2.1 r.2.2
  | .ct ρ2=>rj st p xs ρ2 a r.2.1 r.2.2
  | .bk ρ2=>some (.nx ρ2,r.2)
  | .rt d=>some (.rt d,r.2)
def mM(it:R->Option LD)(st:D->R->Option R)(p:WU):WU:=fun ρ a kv ds=>(it ρ).bind fun xs=>rj st p xs ρ a kv ds
def wO(i:Nat)(f:R->OD):WU:=fun ρ _ kv ds=>(f ρ).bind fun d=>if ρ.length=i/\ds.length<sizeLine then some (.nx ρ,kv,ds++[d]) else none
def uv(f:R->OD):WE:=fun ρ _ _=>f ρ
def ow(i:Nat)(f:R->OD):WE:=fun ρ a kv=>(f ρ).bind fun k=>(oF k).bind fun j=>if isAt i ρ a/\kin kv j=true then jB kv j else none
def uJ(F:D->D->OD)(f g:WE):WE:=fun ρ a kv=>(f ρ a kv).bind fun x=>(g ρ a kv).bind fun y=>F x y
def vk(i:Nat)(kf:R->OD)(g:WE):WU:=fun ρ a kv ds=>(g ρ a kv).bind fun d=>(kf ρ).bind fun k=>(oF k).bind fun j=>if isAt i ρ a/\kin kv j=true/\(jB kv j).isNone/\kv.length<1000 then some (.nx ρ,kv++[(j,d)],ds) else none
def nq(i:Nat)(kf:R->OD):R->Nat->KI->Option Bool:=fun ρ a kv=>(kf ρ).bind fun k=>(oF k).bind fun j=>if isAt i ρ a/\kin kv j=true then some (jB kv j).isNone else none
def rJ(i:Nat)(p:WU):R->Nat->KI->Option (D×KI):=fun ρ a kv=>if ρ.length=i+1 then (p (ρ.take i) a kv []).bind fun r=>match r.1 with
 | .nx ρ1=>if ρ1.length=i then some (.lst r.2.2,r.2.1) else none
 | _=>none
 else none
def rU(g:LD->Nat->KI->Option (D×KI))(c:D):Nat->LD->Nat->KI->Option KI
 | 0,_,_,_=>none
 | _+1,[],_,kv=>some kv
 | n+1,x::l,a,kv=>(g [.obj 1 a [] [],.lst (x::l),c] a kv).bind fun r=>match r.1 with
  | .lst l'=>rU g c n l' a r.2
  | _=>none
def k1:Ky->Int ⊕ Str
 | .inl i=>.inl i
 | .inr p=>.inl p.1
def k2:Ky->Int×Int
 | .inl i=>(i,i)
 | .inr p=>p
def l8(kv:KI):D:=match kv with
 | (.inr _,_)::_=>.dcp (kv.map fun p=>k2 p.1) (kv.map fun p=>p.2)
 | _=>.dct (kv.map fun p=>k1 p.1) (kv.map fun p=>p.2)
def jI(bt:Nat->Nat->Bool):Nat->Nat
 | 0=>0
 | j+1=>if bt (j+1) (jI bt j) then j+1 else jI bt j
def jj(xs:List Str)(i j:Nat):Bool:=decide (((xs.getD i Str.empty).length:Int)<((xs.getD j Str.empty).length:Int))
def oK:LD->OD
 | [.lst ds]=>(nH ds).bind fun xs=>if xs.length<=100000/\xs.all (fun x=>decide (x.length<=100000))=true then some (if xs.isEmpty then .non else .str (xs.getD (jI (jj xs) (xs.length - 1)) Str.empty)) else none
 | _=>none
def B6(f g:R->OD):R->OD:=fun ρ=>(f ρ).bind fun x=>(g ρ).bind fun y=>match x,y with
 | .lst xs,.lst ys=>if xs.length=ys.length/\0<xs.length/\xs.length<=1000 then some (.lst (lb xs ys)) else none
 | _,_=>none
def pO(f:R->OD):R->Option LD:=fun ρ=>(f ρ).bind fun d=>match d with
 | .dcp ks _=>some (ks.map fun p=>.tup [.int p.1,.int p.2])
 | _=>none
def y9:List (Int×Int)->LD->Int×Int->OD
 | k::ks,d::ds,j=>if k=j then some d else y9 ks ds j
 | _,_,_=>none
def xW:D->D->OD
 | .dcp ks ds,.tup [.int i,.int j]=>y9 ks ds (i,j)
 | _,_=>none
def om(g:LD->Nat->KI->Option (D×KI))(n i j:Nat)(e:D):R->Option Out:=fun ρ=>if ρ.length=n then (i3 i ρ).bind fun s=>(i3 j ρ).bind fun c=>(oF s).bind fun k =>
 open Classical in if h:∃kv:KI,kv ≠ []/\∀a,rU g c 100 [s] a [(k,e)]=some kv then some (.rt (l8 h.choose)) else none
 else none
theorem vC{g:LD->Nat->KI->Option (D×KI)}{n i j:Nat}{e c s:D}{ρ:R}{k:Ky}{kv:KI}(h0:ρ.length=n)(h1:i3 i ρ=some s)(h2:i3 j ρ=some c)(hk:oF s=some k)(hn:kv ≠ [])(h:∀a,rU g c 100 [s] a [(k,e)]=some kv) :
  om g n i j e ρ=some (.rt (l8 kv)):=by
 unfold om
 rw[if_pos h0,h1,Option.bind_some,h2,Option.bind_some,hk,Option.bind_some]
 have hx:∃kv:KI,kv ≠ []/\∀a,rU g c 100 [s] a [(k,e)]=some kv:=⟨kv,hn,h⟩
 rw[dif_pos hx]
 have:hx.choose=kv:=by
  have z:=hx.choose_spec.2 0
  rw[h 0] at z
  exact(Option.some.inj z).symm
 rw[this]
theorem vE{g:LD->Nat->KI->Option (D×KI)}{n i j:Nat}{e:D}{ρ:R}{o:Out}(h:om g n i j e ρ=some o):ρ.length=n/\∃s c k kv,i3 i ρ=some s/\i3 j ρ=some c/\oF s=some k/\kv ≠ []/\(∀a,rU g c 100 [s] a [(k,e)]=some kv)/\o=.rt (l8 kv):=by
 unfold om at h
 split at h
 case isFalse=>cases h
 case isTrue h0 =>
 refine⟨h0,?_⟩
 cases e1:i3 i ρ with
 | none=>rw[e1] at h;cases h
 | some s =>
  rw[e1,Option.bind_some] at h
  cases e2:i3 j ρ with
  | none=>rw[e2] at h;cases h
  | some c =>
   rw[e2,Option.bind_some] at h
   cases e3:oF s with
   | none=>rw[e3] at h;cases h
   | some k =>
    rw[e3,Option.bind_some] at h
    split at h
    ·rename_i hx
     cases h
     exact⟨s,c,k,hx.choose,rfl,rfl,e3,hx.choose_spec.1,hx.choose_spec.2,rfl⟩
    ·cases h
theorem qp{i:Nat}{ρ:R}{d:D}(h:i<ρ.length):i3 i (ρ.set i (some d))=some d:=by
 show(List.set ρ i (some d)).getD i none=some d
 rw[List.getD_eq_getElem?_getD,List.getElem?_set_self h]
 rfl
theorem nh{i j:Nat}{ρ:R}{d:OD}(h:i≠j):i3 j (ρ.set i d)=i3 j ρ:=by
 show(List.set ρ i d).getD j none=List.getD ρ j none
 rw[List.getD_eq_getElem?_getD,List.getElem?_set_ne h,<- List.getD_eq_getElem?_getD]
end HW
namespace HW
open PySem PySem.Spec PyProof.Rows L2
def uC(P:Program)(w:World)(d:Addr)(xs:List ((Int×Int)×Addr×V)):HO:=.ext fun h=>(d==sysModules)=false/\∃o,h.get? d=some o/\vV P w o xs
abbrev kk(p:Int×Int):List Key:=[.inl p.1,.inl p.2]
section
variable{K:W.Frag}{H H':Hp}
def kP(K:W.Frag)(H:Hp):KI->List (Key×V)->Prop
 | [],xs=>xs=[]
 | (k,d)::kv,xs=>∃i v r,k=.inl i/\xs=(Sum.inl i,v)::r/\Rep K H d v/\kP K H kv r
def kC(K:W.Frag)(H:Hp):KI->List ((Int×Int)×Addr×V)->Prop
 | [],xs=>xs=[]
 | (k,d)::kv,xs=>∃p a v r,k=.inr p/\xs=(p,a,v)::r/\kr K H a [.int p.1,.int p.2]/\Rep K H d v/\kC K H kv r
theorem kP.kp(s:Kp H H'):∀{kv:KI} {xs:List (Key×V)},kP K H kv xs->kP K H' kv xs
 | [],_,h=>h
 | (k,d)::kv,_,h=>by
  obtain⟨i,v,r,e0,e,q,t⟩:=h
  exact⟨i,v,r,e0,e,q.kp s,kP.kp s t⟩
theorem kC.kp(s:Kp H H'):∀{kv:KI} {xs:List ((Int×Int)×Addr×V)},kC K H kv xs->kC K H' kv xs
 | [],_,h=>h
 | (k,d)::kv,_,h=>by
  obtain⟨p,a,v,r,e0,e,q0,q,t⟩:=h
  exact⟨p,a,v,r,e0,e,s.tup q0,q.kp s,kC.kp s t⟩
theorem kP.snoc:∀{kv:KI} {xs:List (Key×V)} {k:Int} {d:D} {v:V},kP K H kv xs->Rep K H d v->kP K H (kv++[(.inl k,d)]) (xs++[(Sum.inl k,v)])
 | [],_,k,d,v,h,r=>by cases (show _=[] from h);exact⟨k,v,[],rfl,rfl,r,rfl⟩
 | (k',d')::kv,_,k,d,v,h,r=>by
  obtain⟨i',v',r',e,rfl,q,t⟩:=h
  exact⟨i',v',r'++[(Sum.inl k,v)],e,rfl,q,kP.snoc t r⟩
theorem kC.snoc:∀{kv:KI} {xs:List ((Int×Int)×Addr×V)} {k:Int×Int} {d:D} {a:Addr} {v:V},kC K H kv xs->kr K H a [.int k.1,.int k.2]->Rep K H d v->kC K H (kv++[(.inr k,d)]) (xs++[(k,a,v)])
 | [],_,k,d,a,v,h,q,r=>by cases (show _=[] from h);exact⟨k,a,v,[],rfl,rfl,q,r,rfl⟩
 | (k',d')::kv,_,k,d,a,v,h,q,r=>by
  obtain⟨p',a',v',r',e,rfl,q0,q',t⟩:=h
  exact⟨p',a',v',r'++[(k,a,v)],e,rfl,q0,q',kC.snoc t q r⟩
theorem kP.len:∀{kv:KI} {xs:List (Key×V)},kP K H kv xs->kv.length=xs.length
 | [],_,h=>by cases (show _=[] from h);rfl
 | (k,d)::kv,_,h=>by
  obtain⟨i,v,r,_,rfl,q,t⟩:=h
  rw[List.length_cons,List.length_cons,kP.len t]
theorem kC.len:∀{kv:KI} {xs:List ((Int×Int)×Addr×V)},kC K H kv xs->kv.length=xs.length
 | [],_,h=>by cases (show _=[] from h);rfl
 | (k,d)::kv,_,h=>by
  obtain⟨p,a,v,r,_,rfl,_,q,t⟩:=h
  rw[List.length_cons,List.length_cons,kC.len t]
theorem kP.at:∀{kv:KI} {xs:List (Key×V)} {j:Int},kP K H kv xs->(jB kv (.inl j)=none/\kE xs (Sum.inl j:Key)=none)\/∃d v,jB kv (.inl j)=some d/\kE xs (Sum.inl j:Key)=some v/\Rep K H d v
 | [],_,j,h=>by cases (show _=[] from h);exact .inl ⟨rfl,rfl⟩
 | (k,d)::kv,_,j,h=>by
  obtain⟨i,v,r,rfl,rfl,q,t⟩:=h
  by_cases hk:i=j
  ·refine .inr ⟨d,v,if_pos (by rw[hk]),?_,q⟩
   show((List.find? _ ((Sum.inl i,v)::r)).map _)=_
   rw[List.find?_cons_of_pos (by simpa using hk)]
   rfl
  ·have e1:jB ((.inl i,d)::kv) (.inl j)=jB kv (.inl j):=if_neg (fun z=>hk (Sum.inl.inj z))
   have e2:kE ((Sum.inl i,v)::r) (Sum.inl j:Key)=kE r (Sum.inl j:Key):=by
    show((List.find? _ ((Sum.inl i,v)::r)).map _)=_
    rw[List.find?_cons_of_neg (by simpa using hk)]
    rfl
   rw[e1,e2]
   exact kP.at t
theorem vK{p q:Int×Int}(h:kk p=kk q):p=q:=by
 have h1:=List.cons.inj h
 have h2:=List.cons.inj h1.2
 exact Prod.ext (Sum.inl.inj h1.1) (Sum.inl.inj h2.1)
theorem kC.at:∀{kv:KI} {xs:List ((Int×Int)×Addr×V)} {qs:List (List Key×Addr×Value)} {j:Int×Int},kC K H kv xs->rW xs qs->(jB kv (.inr j)=none/\atKey qs (kk j)=none)\/∃d v a u,jB kv (.inr j)=some d/\atKey qs (kk j)=some (a,u)/\RelV v u/\Rep K H d v
 | [],_,_,j,h,r=>by
  cases (show _=[] from h)
  cases r
  exact .inl ⟨rfl,rfl⟩
 | (k,d)::kv,_,qs,j,h,r=>by
  obtain⟨p,a,v,r',rfl,rfl,q0,q,t⟩:=h
  cases r with
  | @cons _ b _ ls e rt =>
  obtain⟨kb,ab,ub⟩:=b
  obtain⟨e1,e2,e3⟩:=e
  cases (show kb=_ from e1)
  by_cases hk:p=j
  ·subst hk
   refine .inr ⟨d,v,ab,ub,if_pos rfl,?_,e3,q⟩
   show((List.find? _ ((kk p,ab,ub)::ls)).map _)=_
   rw[List.find?_cons_of_pos (by simp)]
   rfl
  ·have e1:jB ((.inr p,d)::kv) (.inr j)=jB kv (.inr j):=if_neg (fun z=>hk (Sum.inr.inj z))
   have e2:atKey ((kk p,ab,ub)::ls) (kk j)=atKey ls (kk j):=by
    show((List.find? _ ((kk p,ab,ub)::ls)).map _)=_
    rw[List.find?_cons_of_neg (by simpa using fun z=>hk (vK z))]
    rfl
   show(jB ((.inr p,d)::kv) (.inr j)=none/\atKey ((kk p,ab,ub)::ls) (kk j)=none)\/∃d' v a u,jB ((.inr p,d)::kv) (.inr j)=some d'/\atKey ((kk p,ab,ub)::ls) (kk j)=some (a,u)/\RelV v u/\Rep K H d' v
   rw[e1,e2]
   exact kC.at t rt
end
def kh(P:Program)(w:World)(K:W.Frag)(H:Hp)(d:Addr)(kv:KI):Prop:=(∃xs,H d=some (pb P w d xs)/\kP K H kv xs)\/∃xs,H d=some (uC P w d xs)/\kC K H kv xs
section
variable{P:Program}{w:World}{K:W.Frag}{H H':Hp}{d a:Addr}{kv:KI}
theorem kh.mono(h:kh P w K H d kv)(s:i9 H H'):kh P w K H' d kv:=by
 rcases h with ⟨xs,h1,h2⟩ | ⟨xs,h1,h2⟩
 ·exact .inl ⟨xs,s _ _ h1,h2.kp (Kp.of s)⟩
 ·exact .inr ⟨xs,s _ _ h1,h2.kp (Kp.of s)⟩
theorem kh.move(h:kh P w K H d kv)(s:jN a H H')(hn:d≠a)(k:Kp H H'):kh P w K H' d kv:=by
 rcases h with ⟨xs,h1,h2⟩ | ⟨xs,h1,h2⟩
 ·exact .inl ⟨xs,s _ _ hn h1,h2.kp k⟩
 ·exact .inr ⟨xs,s _ _ hn h1,h2.kp k⟩
theorem kh.ext(h:kh P w K H d kv):∃ φ,H d=some (.ext φ):=by
 rcases h with ⟨xs,h1,h2⟩ | ⟨xs,h1,h2⟩
 ·exact⟨_,h1⟩
 ·exact⟨_,h1⟩
theorem kh.kp(h:kh P w K H d kv)(s:jN d H H'):Kp H H':=fun b u e n=>by
 obtain⟨φ,h1⟩:=h.ext
 by_cases hb:b=d
 ·subst hb;rw[h1] at e;cases e;exact absurd rfl (n _)
 ·exact s b u hb e
theorem dN{o u:HO}(h:H d=some o):upd (upd H d u) d o=H:=by
 funext b
 unfold upd
 by_cases e:b=d
 ·rw[if_pos e,e,h]
 ·rw[if_neg e,if_neg e]
end
section
variable{X:Cx}{pins:List (Addr×Obj)}{σ:L2.St}{H:Hp}{s:Shared}{d:Addr}{kv:KI}{A:Around}{E:Value->Shared->Prop}
theorem oG{a:Addr}{p:Int×Int}(I:L2.Inv X pins σ H s)(h:kr X.K H a [.int p.1,.int p.2]):(tupleKind (je X.prog X.w)).is s.heap (kk p) a:=by
 obtain⟨its,r,⟨o,e,c,n,dd⟩,_⟩:=I.tuple h
 exact⟨o,its.toArray,n,e,c,dd,by simpa using mX (P:=X.prog) (w:=X.w) (ks:=kk p) r⟩
theorem tw(I:L2.Inv X pins σ H s):∀{kv:KI} {xs:List ((Int×Int)×Addr×V)} {qs:List (List Key×Addr×Value)},kC X.K H kv xs->rW xs qs->∀x∈qs,(tupleKind (je X.prog X.w)).is s.heap x.1 x.2.1
 | [],_,_,h,r,x,hx=>by
  cases (show _=[] from h)
  cases r
  cases hx
 | (k,dd)::kv,_,qs,h,r,x,hx=>by
  obtain⟨p,a,v,r',rfl,rfl,q0,q,t⟩:=h
  cases r with
  | @cons _ b _ ls e rt =>
  rcases List.mem_cons.mp hx with rfl | hx
  ·rw[e.1,e.2.1]
   exact oG I q0
  ·exact tw I t rt x hx
theorem dm{xs:List ((Int×Int)×Addr×V)}(I:L2.Inv X pins σ H s)(h:H d=some (uC X.prog X.w d xs))(r:kC X.K H kv xs):(d==sysModules)=false/\xs.length<=sizeLine/\∃qs,rW xs qs/\s.heap.DictOfH (tupleKind (je X.prog X.w)) d qs:=by
 obtain⟨hd,o,g,z,qs,es,ep,h1,h2,h3,h4,h5⟩:=(I.hok d _ h).1
 exact⟨hd,z,qs,h1,o,es,ep,g,h2,h3,h4,tw I r h1,h5⟩
theorem m6{k:Ky}(h:kin kv k=true)(D:kh X.prog X.w X.K H d kv):(∃j xs,k=.inl j/\H d=some (pb X.prog X.w d xs)/\kP X.K H kv xs)\/∃p xs,k=.inr p/\H d=some (uC X.prog X.w d xs)/\kC X.K H kv xs:=by
 unfold kin at h
 rw[Bool.and_eq_true] at h
 match kv,h,D with
 | (k',d')::kv,h,D =>
  rw[List.all_cons,Bool.and_eq_true] at h
  have h2:=h.2.1
  rcases D with ⟨xs,h1,hr⟩ | ⟨xs,h1,hr⟩
  ·obtain⟨i,v,r,e,_⟩:=id hr
   subst e
   cases k with
   | inl j=>exact .inl ⟨j,xs,rfl,h1,hr⟩
   | inr p=>exact absurd (show(false:Bool)=true from h2) Bool.false_ne_true
  ·obtain⟨i,a,v,r,e,_⟩:=id hr
   subst e
   cases k with
   | inl j=>exact absurd (show(false:Bool)=true from h2) Bool.false_ne_true
   | inr p=>exact .inr ⟨p,xs,rfl,h1,hr⟩
theorem mB{k:Ky}{y:V}(h:Rep X.K H (ji k) y):(∃i,k=.inl i/\y=.int i)\/∃p a,k=.inr p/\y=.ref a/\kr X.K H a [.int p.1,.int p.2]:=by
 cases k with
 | inl i=>exact .inl ⟨i,rfl,h⟩
 | inr p =>
  obtain⟨a,xs,rfl,hq,v1,r1,rfl,h1,v2,r2,rfl,h2,h3⟩:=h
  cases (show v1=_ from h1)
  cases (show v2=_ from h2)
  cases (show r2=_ from h3)
  exact .inr ⟨p,a,rfl,rfl,hq⟩
theorem yX{k:Ky}{x:D}{y:V}{u:Value}{Q:Value->Shared->Prop}(hu:A.units+1<cLine)(I:L2.Inv X pins σ H s)(D:kh X.prog X.w X.K H d kv)(hk:kin kv k=true)(hg:jB kv k=some x)(rk:Rep X.K H (ji k) y)(ry:RelV y u)
  (h:∀v w' s',L2.Inv X pins σ H s'->RelV v w'->Rep X.K H x v->Q w' s'):s.TypeIs (.ref d) "dict" /\ wpAny (model X.prog X.w) A (getItem (.ref d) u) Q E s:=by
 rcases m6 hk D with ⟨j,xs,rfl,h1,hr⟩ | ⟨p,xs,rfl,h1,hr⟩
 ·cases (show y=_ from rk)
  have I3:=wq I h1
  rcases kP.at (j:=j) hr with ⟨h2,_⟩ | ⟨d',v,h2,hv',rv⟩
  ·rw[h2] at hg;cases hg
  ·rw[h2] at hg;cases hg
   have g:oY (upd H d (.dK xs)) d (kV (.inl j)) (some v):=by rw[<- hv'];exact oY.k ae
   refine⟨q_ I3 g,fH hu I3 g ry fun w' s3 I4 rw'=>h v w' s3 ?_ rw' rv⟩
   have:=nT I4 ae
   rw[dN h1] at this
   exact this
 ·rcases mB rk with ⟨_,e,_⟩ | ⟨p',a,e,rfl,hq⟩
  ·cases e
  ·cases e
   cases (show u=_ from ry)
   obtain⟨hd,z,qs,hp,dd⟩:=dm I h1 hr
   rcases kC.at (j:=p) hr hp with ⟨h2,_⟩ | ⟨d',v,a',u',h2,h3,h4,h5⟩
   ·rw[h2] at hg;cases hg
   ·rw[h2] at hg;cases hg
    exact⟨dd.typeIs,wpAny_getItem_heap (tupleKind_room_in1 hu) (oG I hq) dd h3 (h v u' _ (I.tok _) h4 h5)⟩
theorem wn{k:Ky}{y:V}{u:Value}{Q:Value->Shared->Prop}(hu:A.units+1<cLine)(I:L2.Inv X pins σ H s)(D:kh X.prog X.w X.K H d kv)(hk:kin kv k=true)(rk:Rep X.K H (ji k) y)(ry:RelV y u)
  (h:∀s',L2.Inv X pins σ H s'->Q (.bool (jB kv k).isNone) s'):wpAny (model X.prog X.w) A (compareOp .NotIn u (.ref d)) Q E s:=by
 rcases m6 hk D with ⟨j,xs,rfl,h1,hr⟩ | ⟨p,xs,rfl,h1,hr⟩
 ·cases (show y=_ from rk)
  have I3:=wq I h1
  have g:oY (upd H d (.dK xs)) d (kV (.inl j)) (kE xs (Sum.inl j:Key)):=oY.k ae
  refine gK hu I3 g ry fun s3 I4=>?_
  have:=nT I4 ae
  rw[dN h1] at this
  have q:=h s3 this
  rcases kP.at (j:=j) hr with ⟨h2,h3⟩ | ⟨d',v',h2,h3,_⟩
  ·rw[h2] at q;rw[h3];exact q
  ·rw[h2] at q;rw[h3];exact q
 ·rcases mB rk with ⟨_,e,_⟩ | ⟨p',a,e,rfl,hq⟩
  ·cases e
  ·cases e
   cases (show u=_ from ry)
   obtain⟨hd,z,qs,hp,dd⟩:=dm I h1 hr
   refine wpAny_notIn_heap (tupleKind_room_in1 hu) (oG I hq) hd dd ?_
   have q:=h _ (I.tok (s.toks+(tupleKind (je X.prog X.w)).draws (kk p)))
   rcases kC.at (j:=p) hr hp with ⟨h2,h3⟩ | ⟨d',v,a',u',h2,h3,h4,h5⟩
   ·rw[h2] at q;rw[h3];exact q
   ·rw[h2] at q;rw[h3];exact q
theorem rW.snoc{xs:List ((Int×Int)×Addr×V)}{qs:List (List Key×Addr×Value)}{p:Int×Int}{a:Addr}{v:V}{u:Value}(h:rW xs qs)(r:RelV v u):rW (xs++[(p,a,v)]) (qs++[(kk p,a,u)]):=by
 induction h with
 | nil=>exact .cons ⟨rfl,rfl,r⟩ .nil
 | cons e t ih=>exact .cons e ih
theorem rW.len{xs:List ((Int×Int)×Addr×V)}{qs:List (List Key×Addr×Value)}(h:rW xs qs):xs.length=qs.length:=by
 induction h with
 | nil=>rfl
 | cons e t ih=>rw[List.length_cons,List.length_cons,ih]
theorem qU{h:Heap}{xs:List ((Int×Int)×Addr×V)}{qs:List (List Key×Addr×Value)}(hd:(d==sysModules)=false)(z:xs.length<=sizeLine)(hp:rW xs qs)(dd:h.DictOfH (tupleKind (je X.prog X.w)) d qs):jJ X.prog X.w H h d (uC X.prog X.w d xs):=by
 obtain⟨o,es,ep,g,h2,h3,h4,_,h5⟩:=dd
 refine⟨⟨hd,o,g,z,qs,es,ep,hp,h2,h3,h4,h5⟩,⟨o,g⟩,?_⟩
 rintro h1 h2 ⟨e1,o,e2,e3⟩ k
 exact⟨e1,o,k o e2,e3⟩
theorem yT{k:Ky}{x:D}{y v:V}{u r:Value}{Q:Unit->Shared->Prop}(hu:A.units+1<cLine)(I:L2.Inv X pins σ H s)(D:kh X.prog X.w X.K H d kv)(hk:kin kv k=true)(hg:(jB kv k).isNone=true)(hl:kv.length<1000)(rk:Rep X.K H (ji k) y)(ry:RelV y u)(rx:Rep X.K H x v)(rv:RelV v r)
  (h:∀H' s',L2.Inv X pins σ H' s'->jN d H H'->kh X.prog X.w X.K H' d (kv++[(k,x)])->Q () s'):wpAny (model X.prog X.w) A (setItem (.ref d) u r) Q E s:=by
 rcases m6 hk D with ⟨j,xs,rfl,h1,hr⟩ | ⟨p,xs,rfl,h1,hr⟩
 ·cases (show y=_ from rk)
  have I4:=wq I h1
  have hnone:kE xs (Sum.inl j:Key)=none:=by
   rcases kP.at (j:=j) hr with ⟨_,h2⟩ | ⟨d',v',h2,_,_⟩
   ·exact h2
   ·rw[h2] at hg;cases hg
  have hz:xs.length<sizeLine:=by rw[<- hr.len];exact Nat.lt_of_lt_of_le hl (by decide)
  have g:su (upd H d (.dK xs)) d (kV (.inl j)) v (upd (upd H d (.dK xs)) d (.dK (putK xs (Sum.inl j:Key) v))):=su.k ae hz
  rw[vd v hnone] at g
  refine fN hu I4 g ry rv fun s4 I5=>?_
  have I6:=nT I5 ae
  generalize hH6:upd (upd (upd H d (.dK xs)) d (.dK (xs++[(Sum.inl j,v)]))) d (pb X.prog X.w d (xs++[(Sum.inl j,v)]))=H6 at I6
  have k36:jN d H H6:=by
   subst hH6
   exact jN.upd.trans (jN.upd.trans jN.upd)
  have ho6:H6 d=some (pb X.prog X.w d (xs++[(Sum.inl j,v)])):=by subst hH6;exact ae
  have kp:=D.kp k36
  exact h H6 s4 I6 k36 (.inl ⟨_,ho6,(hr.kp kp).snoc (rx.kp kp)⟩)
 ·rcases mB rk with ⟨_,e,_⟩ | ⟨p',a,e,rfl,hq⟩
  ·cases e
  ·cases e
   cases (show u=_ from ry)
   obtain⟨hd,z,qs,hp,dd⟩:=dm I h1 hr
   have hnone:atKey qs (kk p)=none:=by
    rcases kC.at (j:=p) hr hp with ⟨_,h3⟩ | ⟨d',v,a',u',h2,h3,h4,h5⟩
    ·exact h3
    ·rw[h2] at hg;cases hg
   have hz:xs.length<1000:=by rw[<- hr.len];exact hl
   have zz:1000<=sizeLine:=by decide
   refine wpAny_setItem_heap (tupleKind_room_in1 hu) (oG I hq) dd (fun h' dd' hs=>?_) (by rw[<- hp.len];omega)
   rw[storedH_new hnone] at dd'
   have k1:jN d H (upd H d (uC X.prog X.w d (xs++[(p,a,v)]))):=jN.upd
   have kp:=D.kp k1
   have he:∃q,h'.get? d=some q:=let ⟨q,_,_,g,_⟩:=dd';⟨q,g⟩
   exact h _ _ (bX I (by rw[h1];trivial) hs he (qU hd (by rw[List.length_append];show xs.length+1<=_;omega) (hp.snoc rv) dd')) k1 (.inr ⟨_,ae,(hr.kp kp).snoc (kp.tup hq) (rx.kp kp)⟩)
theorem rT{K:W.Frag}{H:Hp}:∀{kv:KI} {xs:List (Key×V)},kP K H kv xs->∃vs,xs=(kv.map fun p=>k1 p.1).zip vs/\kv.length=vs.length/\i4 K H (kv.map fun p=>p.2) vs
 | [],_,h=>by cases (show _=[] from h);exact⟨[],rfl,rfl,rfl⟩
 | (k,d)::kv,_,h=>by
  obtain⟨i,v,r,rfl,rfl,q,t⟩:=h
  obtain⟨vs,rfl,hl,rr⟩:=rT t
  exact⟨v::vs,rfl,by simp[hl],v,vs,rfl,q,rr⟩
theorem qK{K:W.Frag}{H:Hp}:∀{kv:KI} {xs:List ((Int×Int)×Addr×V)},kC K H kv xs->∃kas vs,xs=(kv.map fun p=>k2 p.1).zip (kas.zip vs)/\kas.length=vs.length/\l9 K H (kv.map fun p=>k2 p.1) kas/\i4 K H (kv.map fun p=>p.2) vs
 | [],_,h=>by cases (show _=[] from h);exact⟨[],[],rfl,rfl,rfl,rfl⟩
 | (k,d)::kv,_,h=>by
  obtain⟨p,a,v,r,rfl,rfl,q0,q,t⟩:=h
  obtain⟨kas,vs,rfl,hl,hk,rr⟩:=qK t
  exact⟨a::kas,v::vs,rfl,by simp[hl],⟨a,kas,rfl,q0,hk⟩,v,vs,rfl,q,rr⟩
theorem yP(I:L2.Inv X pins σ H s)(D:kh X.prog X.w X.K H d kv)(hne:kv ≠ []):∃H',L2.Inv X pins σ H' s/\jN d H H'/\Rep X.K H' (l8 kv) (.ref d):=by
 rcases D with ⟨xs,h1,hr⟩ | ⟨xs,h1,hr⟩
 ·obtain⟨z,hd,vs,r,dd⟩:=fq I h1
  obtain⟨o,es,ep,e,rest⟩:=id dd
  have I':=I.write (t':=s.toks) (h':=s.heap) (o:=.frz o (.dK xs)) (x:=d) (e:=d) (by rw[h1];trivial) (.inl rfl) (fun _ _ _ q=>q) ⟨_,e⟩ ⟨e,z,hd,vs,r,dd⟩
  have k1:jN d H (upd H d (.frz o (.dK xs))):=jN.upd
  have kp:Kp H _:=kh.kp (.inl ⟨xs,h1,hr⟩) k1
  obtain⟨ws,ex,lw,rw9⟩:=rT (hr.kp kp)
  refine⟨_,I',k1,?_⟩
  have e9:l8 kv=.dct (kv.map fun p=>HW.k1 p.1) (kv.map fun p=>p.2):=by
   cases kv with
   | nil=>rfl
   | cons q kv =>
    obtain⟨i,_,_,e,_⟩:=hr
    obtain⟨k,dd⟩:=q
    cases (show k=_ from e)
    rfl
  rw[e9]
  exact⟨d,ws,rfl,⟨by rw[List.length_map];exact lw,o,by rw[<- ex];exact ae⟩,rw9⟩
 ·obtain⟨hd,o,g,tt⟩:=(I.hok d _ h1).1
  have I':=I.write (t':=s.toks) (h':=s.heap) (o:=.frz o (.own 0)) (x:=d) (e:=d) (by rw[h1];trivial) (.inl rfl) (fun _ _ _ q=>q) ⟨_,g⟩ ⟨g,o,g⟩
  have k1:jN d H (upd H d (.frz o (.own 0))):=jN.upd
  have kp:Kp H _:=kh.kp (.inr ⟨xs,h1,hr⟩) k1
  obtain⟨kas,vs,ex,hl,hk,rr⟩:=qK (hr.kp kp)
  refine⟨_,I',k1,?_⟩
  have e9:l8 kv=.dcp (kv.map fun p=>k2 p.1) (kv.map fun p=>p.2):=by
   cases kv with
   | nil=>exact absurd rfl hne
   | cons q kv =>
    obtain⟨i,_,_,_,e,_⟩:=hr
    obtain⟨k,dd⟩:=q
    cases (show k=_ from e)
    rfl
  rw[e9]
  exact⟨d,kas,vs,rfl,⟨⟨hd,hk,hl⟩,o,X.prog,X.w,ae,by rw[<- ex];exact tt⟩,rr⟩
end
section
variable{K:W.Frag}{H H':Hp}
def mJ(d a:Addr)(H H':Hp):Prop:=∀b u,b≠d->b≠a->H b=some u->H' b=some u
theorem mJ.of{d a:Addr}(h:i9 H H'):mJ d a H H':=fun b u _ _ e=>h b u e
theorem mJ.trans{d a:Addr}{H1 H2:Hp}(h:mJ d a H H1)(h':mJ d a H1 H2):mJ d a H H2:=fun b u n m e=>h' b u n m (h b u n m e)
theorem mJ.d{d a:Addr}(h:jN d H H'):mJ d a H H':=fun b u n _ e=>h b u n e
theorem mJ.a{d a:Addr}(h:jN a H H'):mJ d a H H':=fun b u _ m e=>h b u m e
def uS(P:Program)(w:World)(K:W.Frag)(H:Hp)(d a:Addr)(kv:KI)(ds:LD):Prop:=d≠a/\kh P w K H d kv/\∃ys,H a=some (jH a ys)/\i4 K H ds ys
theorem uS.mono{P:Program}{w:World}{d a:Addr}{kv:KI}{ds:LD}(h:uS P w K H d a kv ds)(s:i9 H H'):uS P w K H' d a kv ds:=by
 obtain⟨n,h1,ys,h3,h4⟩:=h
 exact⟨n,h1.mono s,ys,s _ _ h3,h4.mono s⟩
theorem uS.kp{P:Program}{w:World}{d a:Addr}{kv:KI}{ds:LD}(h:uS P w K H d a kv ds)(s:mJ d a H H'):Kp H H':=fun b u e n=>by
 obtain⟨_,h1,ys,h3,_⟩:=h
 obtain⟨φ,h1⟩:=h1.ext
 by_cases hb:b=d
 ·subst hb;rw[h1] at e;cases e;exact absurd rfl (n _)
 ·by_cases hc:b=a
  ·subst hc;rw[h3] at e;cases e;exact absurd rfl (n _)
  ·exact s b u hb hc e
end
section
variable(P:Program)(w:World)(K:W.Frag)
def tW(u:WU):TS:=fun E σ H=>∃ ρ τ d a kv ds o kv' ds',jQ K H ρ (some (.ref a)::τ) σ/\uS P w K H d a kv ds/\u ρ d kv ds=some (o,kv',ds')/\∀H',mJ d a H H'->uS P w K H' d a kv' ds'->fin K E (some (.ref a)::τ) o H'
def CD(g:WE):TE:=fun σ H Q=>∃ ρ τ d a kv ds x,jQ K H ρ (some (.ref a)::τ) σ/\uS P w K H d a kv ds/\g ρ d kv=some x/\∀v H',i9 H H'->Rep K H' x v->Q v H'
def CC(g:R->Nat->KI->Option Bool):TT:=fun σ H Q=>∃ ρ τ d a kv ds b,jQ K H ρ (some (.ref a)::τ) σ/\uS P w K H d a kv ds/\g ρ d kv=some b/\∀H',i9 H H'->Q b H'
end
def WJ(X:Cx)(st:Stmt)(u:WU):Prop:=PS X st (tW X.prog X.w X.K u)
def yH(X:Cx)(sts:List Stmt)(u:WU):Prop:=PSs X sts (tW X.prog X.w X.K u)
def zQ(X:Cx)(e:Expr)(g:WE):Prop:=PE X e (CD X.prog X.w X.K g)
def B9(X:Cx)(e:Expr)(g:R->Nat->KI->Option Bool):Prop:=PT X e (CC X.prog X.w X.K g)
section
variable{X:Cx}{st:Stmt}{sts:List Stmt}{u:R->Option Out}{p q:WU}{pos:Pos}{e:Expr}{f:R->OD}
theorem wH(h:S1 X st u):WJ X st (tQ u):=PS.imp h fun E σ H ⟨ρ,τ,d,a,kv,ds,o,kv',ds',er,W,e,qq⟩=>by
 obtain⟨o1,e1,e2⟩:=jL e
 cases e2
 exact⟨ρ,_,o,er,e1,fun H' s=>qq H' (mJ.of s) (W.mono s)⟩
theorem w9:yH X [] wc:=qh.imp fun E σ H ⟨ρ,τ,d,a,kv,ds,o,kv',ds',er,W,e,qq⟩=>by
 cases e
 exact qq H (mJ.of (i9.refl H)) W σ er
theorem rn(h1:WJ X st p)(h2:yH X sts q):yH X (st::sts) (si p q):=(aL h1 h2).imp fun E σ H ⟨ρ,τ,d,a,kv,ds,o,kv',ds',er,W,e,qq⟩=>by
 obtain⟨⟨o1,kv1,ds1⟩,e1,e⟩:=i5 e
 refine⟨ρ,τ,d,a,kv,ds,o1,kv1,ds1,er,W,e1,fun H1 k1 W1=>?_⟩
 cases o1 with
 | nx ρ2=>exact fun σ2 er2=>⟨ρ2,τ,d,a,kv1,ds1,o,kv',ds',er2,W1,e,fun H2 k2 W2=>qq H2 (k1.trans k2) W2⟩
 | rt x=>cases e;exact qq H1 k1 W1
 | bk ρ2=>cases e;exact qq H1 k1 W1
 | ct ρ2=>cases e;exact qq H1 k1 W1
theorem qA(h:WJ X st p):yH X [st] p:=bp h
theorem AU{c:Expr}{s:R->Nat->KI->Option Bool}{B1 B2:List Stmt}(hc:B9 X c s)(ha:yH X B1 p)(hb:yH X B2 q):WJ X (.If c B1 B2 pos) (A0 s p q):=(ga hc ha hb).imp fun E σ H ⟨ρ,τ,d,a,kv,ds,o,kv',ds',er,W,e,qq⟩=>by
 obtain⟨x,e1,e⟩:=i5 e
 refine⟨ρ,τ,d,a,kv,ds,x,er,W,e1,fun H1 s1=>?_⟩
 cases x with
 | true=>rw[if_pos rfl] at e ⊢;exact⟨ρ,τ,d,a,kv,ds,o,kv',ds',er.mono s1,W.mono s1,e,fun H2 k2=>qq H2 ((mJ.of s1).trans k2)⟩
 | false=>rw[if_neg Bool.false_ne_true] at e ⊢;exact⟨ρ,τ,d,a,kv,ds,o,kv',ds',er.mono s1,W.mono s1,e,fun H2 k2=>qq H2 ((mJ.of s1).trans k2)⟩
theorem u5{tg iter:Expr}{B:List Stmt}{it:R->Option LD}{stf:D->R->Option R}(hp:PassesOwn (model X.prog X.w) X.A X.env X.xe)(hc:X.calm=true)(hi:SI X tg iter it)(hg:SG X tg stf)(hb:yH X B p)
  (hs:∀x,foldedSetIterable iter X.env x=pure x:=by intro _;rfl):WJ X (.For tg iter B [] pos) (mM it stf p):=(dv hp hc hi hg hb hs).imp fun E σ H ⟨ρ,τ,d,a,kv,ls,o,kv',ls',er,W,e,q⟩=>by
 obtain⟨ds,e1,e⟩:=i5 e
 refine⟨ρ,ds,er.1,e1,fun J H1 s1 y=>?_⟩
 refine⟨fun i m σ' H'=>m=ds.length - i/\i<=ds.length/\mJ d a H1 H'/\∃ ρ' k l,jQ X.K H' ρ' (some (.ref a)::τ) σ'/\uS X.prog X.w X.K H' d a k l/\rj stf p (ds.drop i) ρ' d k l=some (o,kv',ls'),
  ⟨ds.length,by simp,Nat.zero_le _,mJ.of (i9.refl _),ρ,kv,ls,er.mono s1,W.mono s1,by simpa using e⟩,?_⟩
 rintro i m σ' H' ⟨rfl,hi,s2,ρ',k,l,er',W',e'⟩
 have kp:Kp H1 H':=(W.mono s1).kp s2
 by_cases hlt:i<ds.length
 ·refine .inr ?_
  have hd:ds[i]?=some ds[i]:=by simp[hlt]
  obtain⟨hgo,hy⟩:=y.1 i ds[i] H' kp hd
  rw[List.drop_eq_getElem_cons hlt] at e'
  obtain⟨ρ1,e2,e'⟩:=i5 e'
  obtain⟨⟨o1,k1,l1⟩,e3,e'⟩:=i5 e'
  refine⟨hgo,fun σ2 H2=>i+1<=ds.length/\mJ d a H1 H2/\∃ ρ' k l,jQ X.K H2 ρ' (some (.ref a)::τ) σ2/\uS X.prog X.w X.K H2 d a k l/\rj stf p (ds.drop (i+1)) ρ' d k l=some (o,kv',ls'),
   fun σ2 H2 n2=>⟨ds.length - (i+1),by omega,rfl,n2.1,n2.2⟩,fun x H3 yx=>?_⟩
  obtain⟨s3,rx⟩:=hy x H3 yx
  refine⟨ρ',_,ds[i],ρ1,er'.mono s3,rx,e2,fun σ4 H4 s4 er4=>⟨ρ1,τ,d,a,k,l,o1,k1,l1,er4,(W'.mono s3).mono s4,e3,fun H5 k5 W5=>?_⟩⟩
  have s15:mJ d a H1 H5:=s2.trans ((mJ.of s3).trans ((mJ.of s4).trans k5))
  cases o1 with
  | nx ρ2=>exact fun σ6 er6=>⟨hlt,s15,ρ2,k1,l1,er6,W5,e'⟩
  | ct ρ2=>exact fun σ6 er6=>⟨hlt,s15,ρ2,k1,l1,er6,W5,e'⟩
  | bk ρ2=>cases e';exact fun σ6 er6=>q H5 ((mJ.of s1).trans s15) W5 σ6 er6
  | rt d=>cases e';exact q H5 ((mJ.of s1).trans s15) W5
 ·have e4:i=ds.length:=by omega
  subst e4
  rw[List.drop_length] at e'
  cases e'
  exact .inl ⟨y.2 _ H' kp (Nat.le_refl _),q H' ((mJ.of s1).trans s2) W' σ' er'⟩
theorem Ay(h:SE X e f):zQ X e (uv f):=PE.imp h fun σ H Q ⟨ρ,τ,d,a,kv,ds,x,er,W,e,q⟩=>⟨ρ,x,er.1,e,q⟩
theorem zX{op:Operator}{F:D->D->OD}{a b:Expr}{g h:WE}(ho:zJ X (binaryOp op) F)(ha:zQ X a g)(hb:zQ X b h):zQ X (.BinOp a op b pos) (uJ F g h):=(ic ho ha hb).imp fun σ H Q ⟨ρ,τ,d,c,kv,ds,x,er,W,e,q⟩=>by
 obtain⟨y,e1,e⟩:=i5 e
 obtain⟨z,e2,e⟩:=i5 e
 exact⟨ρ,τ,d,c,kv,ds,y,er,W,e1,fun v H1 s1 r1=>⟨ρ,τ,d,c,kv,ds,z,er.mono s1,W.mono s1,e2,fun v2 H2 s2 r2=>⟨y,z,x,r1.mono s2,r2,e,fun v3 H3 s3 r3=>q v3 H3 ((s1.trans s2).trans s3) r3⟩⟩⟩
theorem obj_at{K:W.Frag}{H:Hp}{ρ:R}{τ σ:L2.St}{i:Nat}{d:Addr}(er:jQ K H ρ τ σ)(h:isAt i ρ d):σ[i]?=some (some (.ref d)):=by
 obtain⟨v,hσ,r⟩:=er.1.at h
 cases (show v=_ from r)
 exact hσ
theorem yY{x:Str}{px:Pos}(i:Nat)(hu:X.A.units+1<cLine)(he:SE X e f)(hs:zg e:=by exact fun _ _=>rfl)(hN:X.N[i]?=some x:=by rfl)(hv:qB X.env.scope x:=by first | exact Or.inl rfl | exact Or.inr (Or.inl rfl) | exact Or.inr (Or.inr rfl))(hd:(x==("__debug__" : Str))=false:=by decide)(hcd:(x==("__classdict__" : Str))=false:=by decide) :
  zQ X (.Subscript (.Name x px) e pos) (ow i f):=by
 intro pins s σ H Q I ⟨ρ,τ,d,a,kv,ds,y0,er,W,eq,q⟩
 obtain⟨dk,e1,eq⟩:=i5 eq
 obtain⟨j,ek,eq⟩:=i5 eq
 split at eq
 case isFalse=>cases eq
 case isTrue hc =>
 obtain⟨hi,hk⟩:=hc
 have hσ:=obj_at er hi
 refine tE PySem.F.slot_dict_getitem.lookup hs (jC ((pv i (pos:=px) hN hv hd hcd) pins s σ H (fun v H1=>v=.ref d/\H1=H) I ⟨.ref d,hσ,rfl,rfl⟩) fun u s1 ⟨y,H1,I1,r1,ey,eH⟩=>?_)
 subst ey eH
 cases (show u=_ from r1)
 refine jC (he pins s1 σ H1 (fun v H2=>i9 H1 H2/\Rep X.K H2 dk v) I1 ⟨ρ,dk,er.1,e1,fun v H2 s2 r2=>⟨s2,r2⟩⟩) fun iv s2 ⟨y,H2,I2,ry,s12,rk⟩=>?_
 obtain⟨_,D2,_⟩:=W.mono s12
 rw[nV ek] at rk
 exact yX hu I2 D2 hk eq rk ry fun v w' s3 I4 rw' rv=>⟨v,H2,I4,rw',q v _ s12 rv⟩
theorem yL{x:Str}{ke:Expr}{kf:R->OD}{g:WE}{px pos':Pos}(i:Nat)(hu:X.A.units+1<cLine)(hk:SE X ke kf)(he:zQ X e g)(hN:X.N[i]?=some x:=by rfl)(hv:qB X.env.scope x:=by first | exact Or.inl rfl | exact Or.inr (Or.inl rfl) | exact Or.inr (Or.inr rfl))(hd:(x==("__debug__" : Str))=false:=by decide)(hcd:(x==("__classdict__" : Str))=false:=by decide)
  (hs:swapsWith e (some (.Subscript (.Name x px) ke pos')) pos.line X.env=pure false:=by rfl):WJ X (.Assign [.Subscript (.Name x px) ke pos'] e pos) (vk i kf g):=by
 intro pins s σ H E I ⟨ρ,τ,d,a,kv,ds,o,kv',ds',er,W,eq,qq⟩
 obtain⟨y0,e1,eq⟩:=i5 eq
 obtain⟨k0,e2,eq⟩:=i5 eq
 obtain⟨j,ek,eq⟩:=i5 eq
 split at eq
 case isFalse=>cases eq
 case isTrue hc =>
 cases eq
 obtain⟨hi,hkn,hn,hl⟩:=hc
 have hσ:=obj_at er hi
 refine wpAny_Assign_Subscript (jC (he pins s σ H (fun v H1=>i9 H H1/\Rep X.K H1 y0 v) I ⟨ρ,τ,d,a,kv,ds,y0,er,W,e1,fun v H1 s1 r1=>⟨s1,r1⟩⟩) fun r s1 ⟨v,H1,I1,rv,s01,rd⟩ =>
  jC ((pv i (pos:=px) hN hv hd hcd) pins s1 σ H1 (fun v H2=>v=.ref d/\H2=H1) I1 ⟨.ref d,hσ,rfl,rfl⟩) fun u s2 ⟨y,H2,I2,r2,ey,eH⟩=>?_) hs
 subst ey eH
 cases (show u=_ from r2)
 refine jC (hk pins s2 σ H2 (fun v H3=>i9 H2 H3/\Rep X.K H3 k0 v) I2 ⟨ρ,k0,(er.mono s01).1,e2,fun v H3 s3 r3=>⟨s3,r3⟩⟩) fun iv s3 ⟨y,H3,I3,ry,s23,rk⟩=>?_
 have s03:=s01.trans s23
 have W3:=W.mono s03
 obtain⟨hda,D3,ys,hy3,ry3⟩:=id W3
 rw[nV ek] at rk
 refine yT hu I3 D3 hkn hn hl rk ry (rd.mono s23) rv fun H6 s6 I6 k36 D6=>?_
 have kp36:=D3.kp k36
 exact⟨σ,H6,I6,qq H6 ((mJ.of s03).trans (mJ.d k36)) ⟨hda,D6,ys,k36 _ _ (Ne.symm hda) hy3,ry3.kp kp36⟩ σ ((er.mono s03).kp kp36)⟩
theorem zF{x:Str}{px ap cp:Pos}(i:Nat)(he:SE X e f)(hN:X.N[i]?=some x:=by rfl)(hv:qB X.env.scope x:=by first | exact Or.inl rfl | exact Or.inr (Or.inl rfl) | exact Or.inr (Or.inr rfl))(hd:(x==("__debug__" : Str))=false:=by decide)(hcd:(x==("__classdict__" : Str))=false:=by decide)
  (hbase:attributeBase (.Name x px) "append" X.env (eval (.Name x px) X.env)=eval (.Name x px) X.env:=by rfl) (hst:noStar e=true:=by rfl)
  (hline:(ap.endLine==cp.line)=true:=by rfl) (hs:swapsWith (.Call (.Attribute (.Name x px) "append" ap) [e] [] cp) none pos.line X.env=pure false:=by rfl) :
  WJ X (.Expr (.Call (.Attribute (.Name x px) "append" ap) [e] [] cp) pos) (wO i f):=by
 intro pins s σ H E I ⟨ρ,τ,d0,a,kv,ds,o,kv',ds',er,W,eu,qq⟩
 obtain⟨d,e1,eu⟩:=i5 eu
 split at eu
 case isFalse=>cases eu
 case isTrue hc =>
 cases eu
 obtain⟨hi,hlen⟩:=hc
 have hσ:=dD er
 rw[hi] at hσ
 have hst1:=av [] X.env hst
 refine wpAny_Expr_any (wpAny_Call_method_late hbase ?_ hline rfl (jC ((pv i (pos:=px) hN hv hd hcd) pins s σ H (fun v H1=>v=.ref a/\H1=H) I ⟨.ref a,hσ,rfl,rfl⟩) fun v s1 ⟨y,H1,I1,r1,ey,eH⟩=>?_)) I.quiet hs
 ·rw[hst1]
  rfl
 subst ey eH
 cases (show v=_ from r1)
 obtain⟨_,_,ys0,ho,_⟩:=id W
 obtain⟨z,its,n,rv,eo⟩:=cK I1 ho
 refine⟨"list","list.append",PySem.F.plainAttrs_list,PySem.F.slot_list_append,PySem.F.type_list_append,⟨_,eo,rfl⟩,fun b eb=>?_,?_⟩
 ·cases eb
  exact⟨_,eo,rfl⟩
 have hA:=(ac he af hst).1 cp pins s1 σ H1 (fun vs H2=>i9 H1 H2/\i4 X.K H2 [d] vs) I1 ⟨ρ,[d],er.1,by show(f ρ).bind _=_;rw[e1];rfl,fun vs H2 s2 r2=>⟨s2,r2⟩⟩
 rw[hst1] at hA ⊢
 refine Calls.callWith_builtin rfl (Calls.evalArgs_plain ?_)
 refine jC hA fun us s2 ⟨vs,H2,I2,r2,s12,rd⟩=>?_
 obtain⟨w,w',rfl,rw1,rw2⟩:=rd
 cases (show w'=[] from rw2)
 obtain⟨hda,D2,ys,ho2,rp⟩:=W.mono s12
 have I3:=mW I2 ho2
 refine jC (de pins s2 σ (upd H2 a (.lst ys)) (.ref a) [w] (.ref a) us (fun v H3=>H3=upd (upd H2 a (.lst ys)) a (.lst (ys++[w]))) I3 rfl r2 ⟨a,ys,w,rfl,rfl,ae,by rw[<- rp.length];exact hlen,rfl⟩) fun v s3 ⟨v',H3,I4,_,e3⟩=>?_
 subst e3
 have I5:=m5 I4 ae
 generalize hH5:upd (upd (upd H2 a (.lst ys)) a (.lst (ys++[w]))) a (jH a (ys++[w]))=H5 at I5
 have k25:jN a H2 H5:=by
  subst hH5
  exact jN.upd.trans (jN.upd.trans jN.upd)
 have ho5:H5 a=some (jH a (ys++[w])):=by subst hH5;exact ae
 have kp25:Kp H2 H5:=k25.kp ho2
 refine⟨σ,H5,I5,qq H5 ((mJ.of s12).trans (mJ.a k25)) ⟨hda,D2.move k25 hda kp25,_,ho5,(rp.kp kp25).append (i4.one (rw1.kp kp25))⟩ σ ((er.mono s12).kp kp25)⟩
theorem vA{x:Str}{kf:R->OD}{px:Pos}(i:Nat)(hu:X.A.units+1<cLine)(hk:SE X e kf)(hN:X.N[i]?=some x:=by rfl)(hv:qB X.env.scope x:=by first | exact Or.inl rfl | exact Or.inr (Or.inl rfl) | exact Or.inr (Or.inr rfl))(hd:(x==("__debug__" : Str))=false:=by decide)(hcd:(x==("__classdict__" : Str))=false:=by decide) :
  B9 X (.Compare e [.NotIn] [.Name x px] pos) (nq i kf):=by
 have PCx:PC X .NotIn e (.Name x px) (fun σ H Q=>∃ ρ τ d a kv ds b,jQ X.K H ρ (some (.ref a)::τ) σ/\uS X.prog X.w X.K H d a kv ds/\nq i kf ρ d kv=some b/\∀H',i9 H H'->Q (.bl b) H'):=by
  intro pins s σ H Q I ⟨ρ,τ,d,a,kv,ds,b,er,W,eq,q⟩
  obtain⟨k0,e1,eq⟩:=i5 eq
  obtain⟨j,ek,eq⟩:=i5 eq
  split at eq
  case isFalse=>cases eq
  case isTrue hc =>
  cases eq
  obtain⟨hi,hkn⟩:=hc
  have hσ:=obj_at er hi
  refine jC (hk pins s σ H (fun v H2=>i9 H H2/\Rep X.K H2 k0 v) I ⟨ρ,k0,er.1,e1,fun v H2 s2 r2=>⟨s2,r2⟩⟩) fun iv s1 ⟨y,H1,I1,ry,s01,rk⟩=>?_
  refine jC ((pv i (pos:=px) hN hv hd hcd) pins s1 σ H1 (fun v H2=>v=.ref d/\H2=H1) I1 ⟨.ref d,hσ,rfl,rfl⟩) fun u s2 ⟨y',H2,I2,r2,ey,eH⟩=>?_
  subst ey eH
  cases (show u=_ from r2)
  obtain⟨_,D2,_⟩:=W.mono s01
  rw[nV ek] at rk
  exact wn hu I2 D2 hkn rk ry fun s3 I4=>⟨.bl (jB kv j).isNone,_,I4,rfl,q _ s01⟩
 exact(im PCx (by rfl)).imp fun σ H Q ⟨ρ,τ,d,a,kv,ds,b,er,W,e,q⟩=>⟨ρ,τ,d,a,kv,ds,b,er,W,e,fun H' s=>⟨b,rfl,q H' s⟩⟩
end
section
variable(P:Program)(w:World)(K:W.Frag)
def B4(u:R->Nat->KI->Option (D×KI)):TS:=fun E σ H=>∃ ρ τ d kv r kv',jQ K H ρ τ σ/\kh P w K H d kv/\u ρ d kv=some (r,kv')/\∀H' v,jN d H H'->kh P w K H' d kv'->Rep K H' r v->E.rt v H'
def yf(u:TS):TS:=fun E σ H=>∃a xs,H a=some (.lst xs)/\u E σ (upd H a (jH a xs))
def z_(u:TS):TS:=fun E σ H=>∃a xs,H a=some (jH a xs)/\u E σ (upd H a (.lst xs))
def AH(u:TS):TS:=fun E σ H=>∃a kv,kh P w K H a kv/\kv ≠ []/\∀H',jN a H H'->Rep K H' (l8 kv) (.ref a)->u E σ H'
end
section
variable{X:Cx}{st:Stmt}{sts:List Stmt}{u:TS}{p q:WU}{pos:Pos}
theorem dA(h:PSs X sts u):PSs X sts (yf u):=fun pins s σ H E I ⟨a,xs,ha,hu⟩=>h pins s σ _ E (m5 I ha) hu
theorem fo(h:PSs X sts u):PSs X sts (z_ u):=fun pins s σ H E I ⟨a,xs,ha,hu⟩=>h pins s σ _ E (mW I ha) hu
theorem gM(h:PSs X sts u):PSs X sts (AH X.prog X.w X.K u):=fun pins s σ H E I ⟨a,kv,D,hne,hu⟩=>by
 obtain⟨H',I',k,r⟩:=yP I D hne
 exact h pins s σ _ E I' (hu H' k r)
theorem xk{x:Str}{px p1 p2 p3:Pos}(i:Nat)(hN:X.N.Nodup)(h:WJ X st p)(hix:X.N[i]?=some x:=by rfl)(hx:Loc X.env.scope x:=by first | exact Or.inl rfl | exact Or.inr rfl)(hv:qB X.env.scope x:=by first | exact Or.inl rfl | exact Or.inr (Or.inl rfl) | exact Or.inr (Or.inr rfl))
  (hs:swapsWith (.List [] p1) (some (.Name x px)) pos.line X.env=pure false:=by rfl) (hf:X.fn x=true\/X.env.scope.names.lookup x=some .local:=by first | exact .inl rfl | exact .inr rfl) (hd:(x==("__debug__" : Str))=false:=by decide) (hcd:(x==("__classdict__" : Str))=false:=by decide) :
  PSs X [.Assign [.Name x px] (.List [] p1) pos,st,.Return (some (.Name x p2)) p3] (B4 X.prog X.w X.K (rJ i p)):=by
 refine(aL (bG (i:=i) hN hix hx (cq af.1) hs hf) (dA (aL h (fo (bp (eK (pv i (pos:=p2) hix hv hd hcd))))))).imp fun E σ H ⟨ρ,τ,d,kv,r,kv',er,D0,e,qq⟩=>?_
 unfold rJ at e
 split at e
 case isFalse=>cases e
 case isTrue hlen =>
 obtain⟨⟨o1,kv1,ds1⟩,e1,e⟩:=i5 e
 match o1,e,e1 with
 | .nx ρ1,e,e1 =>
 dsimp only at e
 split at e
 case isFalse=>cases e
 case isTrue hl1 =>
 cases e
 refine⟨ρ,[],er.1,rfl,fun vs H1 s1 r1=>⟨?_,fun a ha=>?_⟩⟩
 ·rw[<- r1.length];exact Nat.zero_le _
 cases (show vs=[] from r1)
 refine⟨a,[],ae,?_⟩
 generalize hH2:upd (upd H1 a (.lst [])) a (jH a [])=H2
 have k12:jN a H1 H2:=by
  subst hH2
  exact jN.upd.trans jN.upd
 have s12:i9 H1 H2:=fun b u hb=>k12 b u (fun z=>by rw[z,ha] at hb;cases hb) hb
 have ho2:H2 a=some (jH a []):=by subst hH2;exact ae
 have s02:=s1.trans s12
 obtain⟨φ,hdd⟩:=D0.ext
 have hda:d≠a:=fun z=>by
  have:=s1 _ _ hdd
  rw[z,ha] at this;cases this
 have hσi:i<σ.length:=Nat.lt_of_lt_of_le (by omega) er.1.1
 refine⟨ρ.take i,τ,d,a,kv,[],.nx ρ1,kv',ds1,⟨⟨?_,fun j d' hd'=>?_⟩,?_⟩,⟨hda,D0.mono s02,[],ho2,rfl⟩,e1,fun H3 k3 W3 σ3 er3=>?_⟩
 ·simp
  omega
 ·have hj:j<i:=by
   have:=(List.getElem?_eq_some_iff.mp hd').1
   simp at this
   omega
  rw[List.getElem?_take_of_lt hj] at hd'
  obtain⟨v,h1,h2⟩:=er.1.2 j d' hd'
  exact⟨v,by rw[List.getElem?_set_ne (by omega)];exact h1,h2.mono s02⟩
 ·have hd':σ.drop (i+1)=τ:=by rw[<- hlen];exact er.2
  rw[List.length_take,Nat.min_eq_left (by omega),List.drop_eq_getElem_cons (by simpa using hσi)]
  congr 1
  ·simp
  ·rw[List.drop_set_of_lt (by omega)]
   exact hd'
 ·obtain⟨_,D3,ys3,hy3,ry3⟩:=id W3
  have k34:jN a H3 (upd H3 a (.lst ys3)):=jN.upd
  have kp34:Kp H3 (upd H3 a (.lst ys3)):=k34.kp hy3
  have hσ:=dD er3
  rw[hl1] at hσ
  refine⟨a,ys3,hy3,.ref a,hσ,qq _ (.ref a) (fun b u hb e=>?_) (D3.move k34 hda kp34) ⟨a,ys3,rfl,ae,ry3.kp kp34⟩⟩
  have hba:b≠a:=fun z=>by
   have:=s1 _ _ e
   rw[z,ha] at this;cases this
  exact k34 b u hba (k3 b u hb hba (s02 _ _ e))
end
def BL(P:Program)(w:World)(K:W.Frag)(m:Nat)(g:LD->Nat->KI->Option (D×KI)):Sp:=fun vs H Q _=>∃d ds rest kv r kv',vs=.ref d::rest/\rest.length+1=m/\i4 K H ds rest/\kh P w K H d kv/\g (.obj 1 d [] []::ds) d kv=some (r,kv') /\
 ∀H' v,jN d H H'->kh P w K H' d kv'->Rep K H' r v->Q v H'
theorem gX{P:Program}{w:World}{K:W.Frag}{mg:Str->Option Value}{base:Heap}{x qual:Str}{st:Stmt}{f:Addr}{fd:FuncData}{N ps:List Str}{k:Nat}{g:R->Nat->KI->Option (D×KI)}
  (Fn:ng K x qual st f fd) (S:jm N ps (i7 st))
  (hb:∀(cdv:Value) (A:Around) (outer:List Env) (s:Shared) (H:Hp) (E:XK),jy k (A.deeper (envOfC qual (i7 st) s.heap.objs.size f cdv))->PSs (nN kK P w K mg base N qual (i7 st) f cdv A outer s H E).nox (jE st) (B4 P w K g)) :
  jx P w K mg base kK (k+1) f fd ps (BL P w K ps.length fun ds=>g (pQ N.length ds)):=by
 refine Fn.ok S (fun vs H Q E h=>?_) (fun cdv A outer s H vs Q E hr h=>?_)
 ·obtain⟨d,ds,rest,kv,r,kv',rfl,hl,_⟩:=h
  exact hl
 ·obtain⟨d,ds,rest,kv,r,kv',rfl,hl,rr,hd,e,q⟩:=h
  refine⟨_,hb cdv A outer s H E hr,pQ N.length (.obj 1 d [] []::ds),_,d,kv,r,kv',(nZ (ds:=.obj 1 d [] []::ds) ⟨.ref d,rest,rfl,rfl,rr⟩).t,hd,e,fun H' v a b c=>q H' v a b c⟩
structure ut (P:Program) (w:World) (K:W.Frag) (mg:Str->Option Value) (base:Heap) (k:Nat) (x:Str) (ps:List Str) (g:LD->Nat->KI->Option (D×KI)):Prop where
 ex:∃f fd,jx P w K mg base kK k f fd ps (BL P w K ps.length g)/\mg x=some (.ref f)/\W.keepIn K (.ref f)=true/\Binds K fd ps []
theorem ut.m{P:Program}{w:World}{K:W.Frag}{mg:Str->Option Value}{base:Heap}{j k:Nat}{x:Str}{ps:List Str}{g:LD->Nat->KI->Option (D×KI)}(h:ut P w K mg base j x ps g)(hk:j<=k:=by decide):ut P w K mg base k x ps g:=by
 obtain⟨f,fd,a,b⟩:=h.ex
 exact⟨f,fd,a.mono hk,b⟩
def BO(P:Program)(w:World)(K:W.Frag)(tk tv:TE):TE:=fun σ H Q=>∀p,H p=none->sk [(tk,tv)] σ (upd H p (.dK [])) fun ps H2=>∃x y,ps=[(x,y)]/\H2 p=some (.dK [])/\∃ky e,Rep K H2 (ji ky) x/\(∀H,Rep K H e y)/\∀H3,jN p H2 H3->kh P w K H3 p [(ky,e)]->Q (.ref p) H3
theorem Cs{K:W.Frag}{H:Hp}{p:Addr}{o:HO}(h:H p=some (.dK [])):(∀{a xs},kr K H a xs->kr K (upd H p o) a xs):=fun {a xs} q=>by
 have ne:∀{u},H a=some u->u≠.dK []->a≠p:=fun {u} e n z=>by rw[z,h] at e;exact n (Option.some.inj e).symm
 rcases q with (q | ⟨ob,q⟩) | q
 ·exact .inl (.inl (by rw[ai (ne q (fun z=>by cases z))];exact q))
 ·exact .inl (.inr ⟨ob,by rw[ai (ne q (fun z=>by cases z))];exact q⟩)
 ·exact .inr q
theorem iH{X:Cx}{pos:Pos}{k v:Expr}{tk tv:TE}(hu:X.A.units+1<cLine)(hk:PE X k tk)(hv:PE X v tv):PE X (.Dict [some k] [v] pos) (BO X.prog X.w X.K tk tv):=by
 intro pins s σ H Q I q
 have hn:=I.hok.fresh (Nat.le_refl s.heap.objs.size)
 have I1:=I.laid (a:=s.heap.objs.size) (o:=.dK []) (h':=s.heap.push {cls:=.type "dict",data:=.dict #[]}) (t':=s.toks) (fun _ _ q=>Heap.get?_push_of_some _ q) (Nat.le_refl _) (gA s.heap I.big)
 refine wpAny_Dict_any rfl rfl (by simp) (by simp) ?_
 generalize s.heap.objs.size=d at *
 refine jC (vO (pos:=pos) hk hv xF pins _ σ _ (fun ps H2=>∃x y,ps=[(x,y)]/\H2 d=some (.dK [])/\∃ky e,Rep X.K H2 (ji ky) x/\(∀H,Rep X.K H e y)/\∀H3,jN d H2 H3->kh X.prog X.w X.K H3 d [(ky,e)]->Q (.ref d) H3) I1 (q d hn)) fun ws s2 ⟨ps,H2,I2,rel,x,y,eps,hd2,ky,e0,rk,re,q1⟩=>?_
 subst eps
 cases rel with
 | @cons _ b _ ls e rt =>
 cases rt
 obtain⟨u1,u2⟩:=b
 obtain⟨e1,e2⟩:=e
 show wpAny _ _ (storeAll d [(u1,u2)]) _ _ s2
 unfold storeAll
 rw[List.forIn_cons]
 refine wpAny_bind (wpAny_bind ?_)
 obtain⟨z,hsm,vs0,r0,dd⟩:=hW I2.hok hd2
 cases r0
 rcases mB rk with ⟨i,rfl,rfl⟩ | ⟨r,a,rfl,rfl,hq⟩
 ·refine wpAny_dictSet_pairs (q8 (k:=(Sum.inl i:Key)) e1) dd fun h' dd' hs=>?_
  refine wpAny_pure (wpAny_pure ⟨.ref d,upd H2 d (pb X.prog X.w d [(Sum.inl i,y)]),?_,rfl,q1 _ jN.upd (.inl ⟨_,ae,i,y,[],rfl,rfl,re _,rfl⟩)⟩)
  have he:∃q,h'.get? d=some q:=let ⟨q,_,_,g,_⟩:=dd';⟨q,g⟩
  have I3:=bX (ob:=.dK [(Sum.inl i,y)]) (t':=s2.toks+1) I2 (by rw[hd2];trivial) hs he (gn (by show 1<=sizeLine;decide) hsm (.cons ⟨rfl,e2⟩ .nil) dd')
  have I4:=nT I3 ae
  rw[gO] at I4
  exact I4
 ·cases (show u1=_ from e1)
  obtain⟨o,es,ep,g,hx,hdat,hko,hpr,hnd⟩:=dd
  have hes:es.toList=[]:=by
   have:=hpr.length
   exact List.length_eq_zero_iff.mp this
  have ddH:s2.heap.DictOfH (tupleKind (je X.prog X.w)) d []:=⟨o,es,ep,g,hx,hdat,by rw[hes];rfl,(fun x hx=>nomatch hx),List.nodup_nil⟩
  refine wpAny_dictSet_heap (knd:=tupleKind (je X.prog X.w)) (show X.A.units<cLine by omega) (oG I2 hq) ddH (fun h' dd' hs=>?_) (by show 0<=sizeLine;decide)
  rw[storedH_new rfl] at dd'
  have he:∃q,h'.get? d=some q:=let ⟨q,_,_,g,_⟩:=dd';⟨q,g⟩
  refine wpAny_pure (wpAny_pure ⟨.ref d,upd H2 d (uC X.prog X.w d [(r,a,y)]),?_,rfl,q1 _ jN.upd (.inr ⟨_,ae,r,a,y,[],rfl,rfl,Cs hd2 hq,re _,rfl⟩)⟩)
  exact bX I2 (by rw[hd2];trivial) hs he (qU hsm (by show 1<=sizeLine;decide) (.cons ⟨rfl,rfl,e2⟩ .nil) dd')
section
variable{X:Cx}{pos p1 p2 p3 p4 p5 p6 p7 p8 p9 p10 p11 p12 p13 p14:Pos}
theorem gH{k:Nat}{xf xs xc xw xn:Str}{ps:List Str}{g:LD->Nat->KI->Option (D×KI)}{c ve:Expr}{e:D}(n i j iw il:Nat)(hp:PassesOwn (model X.prog X.w) X.A X.env X.xe)(C:ut X.prog X.w X.K X.mg X.base k xf ps g)(hps:ps.length=3)(hr:jy k X.A)(hN:X.N.Nodup)(hc:ST X c (ju A2 (jc nL (e8 (i3 il) i8)) (kI 0)))(hve:SE X ve (fun _=>some e))(rye:∀(A B:Hp) (v:V),Rep X.K A e v->Rep X.K B e v)
  (hij:i≠iw/\i≠il/\j≠iw/\j≠il/\iw≠il/\iw<n/\il<n:=by decide)
  (hxs:X.N[i]?=some xs:=by rfl) (hxc:X.N[j]?=some xc:=by rfl) (hxw:X.N[iw]?=some xw:=by rfl) (hxn:X.N[il]?=some xn:=by rfl)
  (vs:qB X.env.scope xs:=by first | exact Or.inl rfl | exact Or.inr (Or.inl rfl) | exact Or.inr (Or.inr rfl)) (vc:qB X.env.scope xc:=by first | exact Or.inl rfl | exact Or.inr (Or.inl rfl) | exact Or.inr (Or.inr rfl))
  (vw:qB X.env.scope xw:=by first | exact Or.inl rfl | exact Or.inr (Or.inl rfl) | exact Or.inr (Or.inr rfl)) (vn:qB X.env.scope xn:=by first | exact Or.inl rfl | exact Or.inr (Or.inl rfl) | exact Or.inr (Or.inr rfl))
  (lw:Loc X.env.scope xw:=by first | exact Or.inl rfl | exact Or.inr rfl) (ln:Loc X.env.scope xn:=by first | exact Or.inl rfl | exact Or.inr rfl)
  (fw:X.fn xw=true\/X.env.scope.names.lookup xw=some .local:=by first | exact .inl rfl | exact .inr rfl) (fn:X.fn xn=true\/X.env.scope.names.lookup xn=some .local:=by first | exact .inl rfl | exact .inr rfl)
  (ds:(xs==("__debug__" : Str))=false:=by decide) (dc:(xc==("__debug__" : Str))=false:=by decide) (dw:(xw==("__debug__" : Str))=false:=by decide) (dn:(xn==("__debug__" : Str))=false:=by decide) (df:(xf==("__debug__" : Str))=false:=by decide)
  (cs:(xs==("__classdict__" : Str))=false:=by decide) (cc:(xc==("__classdict__" : Str))=false:=by decide) (cw:(xw==("__classdict__" : Str))=false:=by decide) (cn:(xn==("__classdict__" : Str))=false:=by decide)
  (gf:Gl X xf:=by rfl)
  (s1:swapsWith (.Dict [some (.Name xs p2)] [ve] p3) (some (.Name xw p1)) p4.line X.env=pure false:=by rfl) (s2:swapsWith (.List [.Name xs p6] p7) (some (.Name xn p5)) p8.line X.env=pure false:=by rfl)
  (s3:swapsWith (.Call (.Name xf p10) [.Name xw p11,.Name xn p12,.Name xc p13] [] p9) (some (.Name xn p14)) pos.line X.env=pure false:=by rfl) {q1 q2 q3:Pos} :
  SS X [.Assign [.Name xw p1] (.Dict [some (.Name xs p2)] [ve] p3) p4,.Assign [.Name xn p5] (.List [.Name xs p6] p7) p8,.While c [.Assign [.Name xn p14] (.Call (.Name xf p10) [.Name xw p11,.Name xn p12,.Name xc p13] [] p9) pos] [] q1,.Return (some (.Name xw q2)) q3] (om g n i j e):=by
 obtain⟨f,fd,a,m,kp,bd⟩:=C.ex
 obtain⟨n1,n2,n3,n4,n5,l1,l2⟩:=hij
 have ha:SA X [.Name xw p11,.Name xn p12,.Name xc p13] (e8 (i3 iw) (e8 (i3 il) (e8 (i3 j) i8))):=ac (aa iw hxw vw dw cw) (ac (aa il hxn vn dn cn) (ac (aa j hxc vc dc cc) af))
 have hl1:SA X [.Name xs p6] (e8 (i3 i) i8):=ac (aa i hxs vs ds cs) af
 have he':=av (e:=.Name xw p11) [.Name xn p12,.Name xc p13] X.env rfl
 have hpl:=bq (pos:=p9) (env:=X.env) (es:=[.Name xn p12,.Name xc p13]) rfl
 refine PSs.imp (aL (bG (i:=iw) hN hxw lw (iH (rL hr) (show SE X (.Name xs p2) (i3 i) from aa i hxs vs ds cs) hve) s1 fw) (aL (bG (i:=il) hN hxn ln (cq hl1.1) s2 fn)
  (aL (d_ hp hc (bp (bG (i:=il) hN hxn ln (du a hr gf m kp bd .nil qY ha.1 df he' hpl) s3 fn))) (gM (bp (eK (pv iw (pos:=q2) hxw vw dw cw))))))) fun E σ H ⟨ρ,τ,o,er,eg,q⟩=>?_
 obtain⟨hlen,s,c',ky,kv,h1,h2,hky,hne,h3,rfl⟩:=vE eg
 intro d hd
 have u0:=aM hd (.dK [])
 have nd:∀b u,H b=some u->b≠d:=fun b u eb z=>by rw[z,hd] at eb;cases eb
 refine⟨ρ,s,(er.mono u0).1,h1,fun v H1 t1 r1=>?_⟩
 refine⟨ρ,e,((er.mono u0).mono t1).1,rfl,fun y H2 t2 r2=>?_⟩
 have hd2:H2 d=some (.dK []):=t2 _ _ (t1 _ _ ae)
 have rk:Rep X.K H2 (ji ky) v:=by rw[<- nV hky];exact r1.mono t2
 refine⟨v,y,rfl,hd2,ky,e,rk,fun H=>rye _ _ _ r2,fun H3 k23 D3=>?_⟩
 have s03:i9 H H3:=fun b u eb=>k23 b u (nd b u eb) (t2 _ _ (t1 _ _ (u0 _ _ eb)))
 have er1:=(er.mono s03).set (i:=iw) (d:=.obj 1 d [] []) (v:=.ref d) (by omega) rfl
 refine⟨ρ.set iw (some (.obj 1 d [] [])),[s],er1.1,?_,fun vs4 H4 t4 r4=>⟨?_,fun l hl=>?_⟩⟩
 ·show(i3 i (ρ.set iw _)).bind _=_
  rw[nh (Ne.symm n1),h1];rfl
 ·rw[<- r4.length];exact Nat.le_trans (show 1<=1000 by decide) (by decide)
 have u4:=aM hl (.lst vs4)
 have s05:=(s03.trans t4).trans u4
 have er2:=((er1.mono t4).mono u4).set (i:=il) (d:=.lst [s]) (v:=.ref l) (by rw[List.length_set];omega) ⟨l,vs4,rfl,ae,r4.mono u4⟩
 refine⟨fun mm σ' H'=>∃ ρ' ls kv0,jQ X.K H' ρ' τ σ'/\ρ'.length=n/\i3 iw ρ'=some (.obj 1 d [] [])/\i3 il ρ'=some (.lst ls)/\i3 j ρ'=some c'/\kh X.prog X.w X.K H' d kv0/\i9 H H'/\rU g c' mm ls d kv0=some kv,
  ⟨100,_,[s],[(ky,e)],er2,by rw[List.length_set,List.length_set];exact hlen,?_,?_,?_,(D3.mono t4).mono u4,s05,h3 d⟩,?_⟩
 ·rw[nh (Ne.symm n5),qp (by omega)]
 ·rw[qp (by rw[List.length_set];omega)]
 ·rw[nh (Ne.symm n4),nh (Ne.symm n3)];exact h2
 rintro mm σ' H' ⟨ρ',ls,kv0,er',hl',v1,v2,v3,D',sm',ew⟩
 have hcv:ju A2 (jc nL (e8 (i3 il) i8)) (kI 0) ρ'=some (decide (0<(ls.length:Int))):=by
  show(((i3 il ρ').bind fun x=>(some []).map (x::·)).bind nL).bind (fun x=>(some (D.int 0)).bind fun y=>A2 x y)=_
  rw[v2]
  show some (decide ((ls.length:Int) > 0))=_
  rfl
 refine⟨ρ',_,er'.1,hcv,fun H6 t6=>?_⟩
 cases mm with
 | zero=>cases ew
 | succ mm =>
 cases ls with
 | nil =>
  have ek:kv0=kv:=Option.some.inj ew
  subst ek
  rw[if_neg (by simp)]
  refine⟨d,kv0,D'.mono t6,hne,fun H9 k69 r9=>⟨.ref d,obj_at er' v1,q _ (fun b u eb=>k69 b u (nd b u eb) (t6 _ _ (sm' _ _ eb))) (.ref d) r9⟩⟩
 | cons x ls =>
  rw[if_pos (by simp)]
  obtain⟨⟨r,kv1⟩,eg1,ew⟩:=i5 ew
  match r,ew,eg1 with
  | .lst l',ew,eg1 =>
  refine⟨_,fun σ2 H2 w=>⟨mm,Nat.lt_succ_self _,w⟩,ρ',[.obj 1 d [] [],.lst (x::ls),c'],(er'.mono t6).1,?_,fun vs7 H7 t7 r7=>?_⟩
  ·show(i3 iw ρ').bind (fun x=>((i3 il ρ').bind fun y=>((i3 j ρ').bind fun z=>(some []).map (z::·)).map (y::·)).map (x::·))=_
   rw[v1,v2,v3];rfl
  obtain⟨v7,rest7,rfl,rv7,rr⟩:=r7
  cases (show v7=_ from rv7)
  have t67:=t6.trans t7
  refine⟨d,[.lst (x::ls),c'],rest7,kv0,.lst l',kv1,by simp,by rw[hps,<- rr.length];rfl,rr,D'.mono t67,eg1,fun H8 v8 k8 D8 rv8=>?_⟩
  have kp78:Kp H7 H8:=(D'.mono t67).kp k8
  refine⟨ρ'.set il (some (.lst l')),l',kv1,(((er'.mono t67).kp kp78).set (by omega) rv8),by rw[List.length_set];exact hl',?_,qp (by omega),?_,D8,fun b u eb=>k8 b u (nd b u eb) (t67 _ _ (sm' _ _ eb)),ew⟩
  ·rw[nh (Ne.symm n5)];exact v1
  ·rw[nh (Ne.symm n4)];exact v3
end
end HW
namespace HW
open PySem
def n6(x:D):D->Option Bool
 | .lst ys=>if mQ x<=100/\oO x=true/\lu ys=true then some (!ys.any fun y=>wy y x) else none
 | _=>none
abbrev oP:=List LD
abbrev NU:=R->oP->Option (Out×oP)
def wz(ρ:R)(ls:oP):R:=ρ++ls.map fun l=>some (.lst l)
def kF(u:R->Option Out):NU:=fun ρ ls=>(u ρ).map fun o=>(o,ls)
def yn:NU:=fun ρ ls=>some (.nx ρ,ls)
def pd(p q:NU):NU:=fun ρ ls=>(p ρ ls).bind fun r=>match r.1 with
 | .nx ρ1=>q ρ1 r.2
 | o=>some (o,r.2)
def A1(c:R->Option Bool)(p q:NU):NU:=fun ρ ls=>(c (wz ρ ls)).bind fun b=>if b then p ρ ls else q ρ ls
def lV(st:D->R->Option R)(p:NU):LD->R->oP->Option (Out×oP)
 | [],ρ,ls=>some (.nx ρ,ls)
 | x::xs,ρ,ls=>(st x ρ).bind fun ρ1=>(p ρ1 ls).bind fun r=>match r.1 with
  | .nx ρ2=>lV st p xs ρ2 r.2
  | .ct ρ2=>lV st p xs ρ2 r.2
  | .bk ρ2=>some (.nx ρ2,r.2)
  | .rt d=>some (.rt d,r.2)
def vR(it:R->Option LD)(st:D->R->Option R)(p:NU):NU:=fun ρ ls=>(it ρ).bind fun xs=>lV st p xs ρ ls
mutual
def nol:D->Bool
 | .non=>true
 | .bl _=>true
 | .int _=>true
 | .str _=>true
 | .tup ds=>xq ds
 | _=>false
def xq:LD->Bool
 | []=>true
 | d::ds=>nol d&&xq ds
end
def rH(i j:Nat)(f:R->OD):NU:=fun ρ ls=>(f ρ).bind fun d=>(ls[j]?).bind fun l=>if ρ.length+j=i/\l.length<100000 then some (.nx ρ,ls.set j (l++[d])) else none
def m8(c:R->Option Bool)(p:NU):Nat->R->oP->Option (Out×oP)
 | 0,_,_=>none
 | n+1,ρ,ls=>(c (wz ρ ls)).bind fun b=>if b then (p ρ ls).bind fun r=>match r.1 with
  | .nx ρ1=>m8 c p n ρ1 r.2
  | .ct ρ1=>m8 c p n ρ1 r.2
  | .bk ρ1=>some (.nx ρ1,r.2)
  | .rt d=>some (.rt d,r.2)
  else some (.nx ρ,ls)
def sr(n:Nat)(c:R->Option Bool)(p:NU):NU:=m8 c p n
def zv(i iy:Nat)(F:R->Option LD)(p:NU):NU:=fun ρ ls=>if ρ.length+ls.length=i/\iy<ρ.length then (F ρ).bind fun ds=>(p ρ (ls++[ds])).bind fun r=>match r.1 with
 | .nx ρ1=>if ρ1.length=ρ.length/\r.2.length=ls.length+1 then some (.nx (ρ1.set iy (some (.lst (r.2.getLastD [])))),r.2.dropLast) else none
 | .rt d=>if r.2.length=ls.length+1 then some (.rt d,r.2.dropLast) else none
 | _=>none
 else none
def Co(i:Nat)(F:R->Option LD)(p:NU):NU:=fun ρ ls=>if ρ.length+ls.length=i then (F ρ).bind fun ds=>(p ρ (ls++[ds])).bind fun r=>match r.1 with
 | .rt d=>some (.rt d,r.2.dropLast)
 | _=>none
 else none
def wY(i:Nat)(F:R->Option LD)(p:NU):R->Option Out:=fun ρ=>if i<ρ.length then (F (ρ.take i)).bind fun ds=>(p (ρ.take i) [ds]).bind fun r=>match r.1 with
 | .rt d=>some (.rt d)
 | _=>none
 else none
end HW
namespace HW
open PySem PySem.Spec PyProof.Rows L2
def mE(H:Hp)(as:List Addr)(f:Addr->HO):Hp:=fun b=>if b∈as then some (f b) else H b
section
variable{H:Hp}{as:List Addr}{f:Addr->HO}
theorem lT{a:Addr}(h:a∈as):mE H as f a=some (f a):=if_pos h
theorem mH{a:Addr}(h:a∉as):mE H as f a=H a:=if_neg h
theorem pk{a:Addr}:mE H (a::as) f=mE (upd H a (f a)) as f:=by
 funext b
 unfold mE
 by_cases hb:b∈as
 ·rw[if_pos hb,if_pos (List.mem_cons_of_mem _ hb)]
 ·rw[if_neg hb]
  by_cases e:b=a
  ·subst e;rw[if_pos List.mem_cons_self,ae]
  ·rw[if_neg (fun z=>(List.mem_cons.mp z).elim e hb),ai e]
end
section
variable{X:Cx}{pins:List (Addr×Obj)}{σ:L2.St}{s:Shared}{xs:Addr->List V}
theorem qG:∀{as:List Addr} {H:Hp},as.Nodup->L2.Inv X pins σ H s->(∀a∈as,H a=some (jH a (xs a)))->L2.Inv X pins σ (mE H as fun a=>.lst (xs a)) s
 | [],H,_,I,_=>by
  have e:mE H [] (fun a=>HO.lst (xs a))=H:=by funext b;exact if_neg (fun z=>nomatch z)
  rw[e];exact I
 | a::as,H,nd,I,h=>by
  rw[pk]
  refine qG (List.nodup_cons.mp nd).2 (mW I (h a List.mem_cons_self)) fun b hb=>?_
  rw[ai (show b≠a from fun z=>(List.nodup_cons.mp nd).1 (by rw[<- z];exact hb))]
  exact h b (List.mem_cons_of_mem _ hb)
theorem qd:∀{as:List Addr} {H:Hp},as.Nodup->L2.Inv X pins σ H s->(∀a∈as,H a=some (.lst (xs a)))->L2.Inv X pins σ (mE H as fun a=>jH a (xs a)) s
 | [],H,_,I,_=>by
  have e:mE H [] (fun a=>jH a (xs a))=H:=by funext b;exact if_neg (fun z=>nomatch z)
  rw[e];exact I
 | a::as,H,nd,I,h=>by
  rw[pk]
  refine qd (List.nodup_cons.mp nd).2 (m5 I (h a List.mem_cons_self)) fun b hb=>?_
  rw[ai (show b≠a from fun z=>(List.nodup_cons.mp nd).1 (by rw[<- z];exact hb))]
  exact h b (List.mem_cons_of_mem _ hb)
end
def lP(K:W.Frag)(H:Hp)(xs:Addr->List V):List Addr->oP->Prop
 | [],ls=>ls=[]
 | a::as,ls=>∃l r,ls=l::r/\i4 K H l (xs a)/\lP K H xs as r
def o8(K:W.Frag)(H:Hp)(as:List Addr)(ls:oP):Prop:=as.Nodup/\∃xs,(∀a∈as,H a=some (jH a (xs a)))/\lP K H xs as ls
def mU(as:List Addr)(H H':Hp):Prop:=∀b u,b∉as->H b=some u->H' b=some u
def refs(as:List Addr):L2.St:=as.map fun a=>some (.ref a)
def kz(K:W.Frag)(H:Hp)(ρ:R)(as:List Addr)(σ:L2.St):Prop:=∃ τ,jQ K H ρ (refs as++τ) σ
section
variable{K:W.Frag}{H H' H1 H2:Hp}{as:List Addr}{ls:oP}{xs:Addr->List V}{ρ:R}{σ:L2.St}
theorem mU.of(h:i9 H H'):mU as H H':=fun b u _ e=>h b u e
theorem mU.trans(h:mU as H H1)(k:mU as H1 H2):mU as H H2:=fun b u n e=>k b u n (h b u n e)
theorem lP.kp(s:Kp H H'):∀{as:List Addr} {ls:oP},lP K H xs as ls->lP K H' xs as ls
 | [],_,h=>h
 | a::as,_,h=>by
  obtain⟨l,r,e,q,t⟩:=h
  exact⟨l,r,e,q.kp s,lP.kp s t⟩
theorem lP.len:∀{as:List Addr} {ls:oP},lP K H xs as ls->ls.length=as.length
 | [],_,h=>by cases (show _=[] from h);rfl
 | a::as,_,h=>by
  obtain⟨l,r,rfl,q,t⟩:=h
  rw[List.length_cons,List.length_cons,lP.len t]
theorem lP.get:∀{as:List Addr} {ls:oP} {j:Nat} {l:LD},lP K H xs as ls->ls[j]?=some l->∃a,as[j]?=some a/\i4 K H l (xs a)
 | [],_,_,_,h,e=>by cases (show _=[] from h);cases e
 | a::as,_,0,l,h,e=>by
  obtain⟨l',r,rfl,q,t⟩:=h
  cases (show some l'=some l from e)
  exact⟨a,rfl,q⟩
 | a::as,_,j+1,l,h,e=>by
  obtain⟨l',r,rfl,q,t⟩:=h
  exact lP.get (j:=j) t e
theorem o8.mono(h:o8 K H as ls)(s:i9 H H'):o8 K H' as ls:=by
 obtain⟨nd,xs,h1,h2⟩:=h
 exact⟨nd,xs,fun a ha=>s _ _ (h1 a ha),h2.kp (Kp.of s)⟩
theorem o8.kp(h:o8 K H as ls)(s:mU as H H'):Kp H H':=fun b u e n=>by
 obtain⟨nd,xs,h1,_⟩:=h
 by_cases hb:b∈as
 ·rw[h1 b hb] at e
  cases e
  exact absurd rfl (n _)
 ·exact s b u hb e
theorem o8.len(h:o8 K H as ls):ls.length=as.length:=let ⟨_,_,_,r⟩:=h;r.len
theorem kz.mono(h:kz K H ρ as σ)(s:i9 H H'):kz K H' ρ as σ:=let ⟨τ,e⟩:=h;⟨τ,e.mono s⟩
theorem kz.kp(h:kz K H ρ as σ)(s:Kp H H'):kz K H' ρ as σ:=let ⟨τ,e⟩:=h;⟨τ,e.kp s⟩
theorem kz.at(h:kz K H ρ as σ){j:Nat}{a:Addr}(ha:as[j]?=some a):σ[ρ.length+j]?=some (some (.ref a)):=by
 obtain⟨τ,e⟩:=h
 have h0:(σ.drop ρ.length)[j]?=some (some (.ref a)):=by
  rw[e.2,List.getElem?_append_left (by unfold refs;rw[List.length_map];exact(List.getElem?_eq_some_iff.mp ha).1)]
  unfold refs
  rw[List.getElem?_map,ha];rfl
 rwa [List.getElem?_drop] at h0
theorem fu(h:kz K H ρ as σ)(k:Kp H H')(hl:∀a∈as,H' a=some (.lst (xs a)))(r:lP K H xs as ls):jP K H' (wz ρ ls) σ:=by
 have hlen:=r.len
 refine⟨?_,fun i d hi=>?_⟩
 ·obtain⟨τ,e⟩:=id h
  have h2:=congrArg List.length e.2
  rw[List.length_drop,List.length_append] at h2
  have h3:=e.1.1
  unfold wz
  rw[List.length_append,List.length_map]
  have h4:(refs as).length=as.length:=List.length_map ..
  omega
 ·unfold wz at hi
  by_cases hlt:i<ρ.length
  ·rw[List.getElem?_append_left hlt] at hi
   obtain⟨τ,e⟩:=h
   exact(e.kp k).1.2 i d hi
  ·rw[List.getElem?_append_right (by omega),List.getElem?_map] at hi
   obtain⟨l,hl1,hd⟩:=jL hi
   cases hd
   obtain⟨a,ha,rl⟩:=r.get hl1
   have z:=h.at ha
   rw[show ρ.length+(i - ρ.length)=i by omega] at z
   exact⟨.ref a,z,a,xs a,rfl,hl a (List.mem_of_getElem? ha),rl.kp k⟩
end
mutual
theorem Rep.nol{K:W.Frag}{H H':Hp}(s:∀b u,H b=some u->(∀ys,u≠.lst ys)->H' b=some u):∀{d:D} {v:V},HW.nol d=true->Rep K H d v->Rep K H' d v
 | .non,_,_,h=>h
 | .bl _,_,_,h=>h
 | .int _,_,_,h=>h
 | .str _,_,_,h=>h
 | .tup ds,_,hn,h=>by
  obtain⟨a,xs,e,q,r⟩:=h
  refine⟨a,xs,e,?_,i4.nol s hn r⟩
  rcases q with (q | ⟨o,q⟩) | q
  ·exact .inl (.inl (s _ _ q (fun ys z=>by cases z)))
  ·exact .inl (.inr ⟨o,s _ _ q (fun ys z=>by cases z)⟩)
  ·exact .inr q
 | .lst _,_,hn,_=>by cases hn
 | .fro _,_,hn,_=>by cases hn
 | .obj ..,_,hn,_=>by cases hn
 | .dct ..,_,hn,_=>by cases hn
 | .dcp ..,_,hn,_=>by cases hn
 | .cl ..,_,hn,_=>by cases hn
theorem i4.nol{K:W.Frag}{H H':Hp}(s:∀b u,H b=some u->(∀ys,u≠.lst ys)->H' b=some u):∀{ds:LD} {vs:List V},xq ds=true->i4 K H ds vs->i4 K H' ds vs
 | [],_,_,h=>h
 | d::ds,_,hn,h=>by
  have hn':(HW.nol d&&xq ds)=true:=hn
  rw[Bool.and_eq_true] at hn'
  obtain⟨v,r,e,q,t⟩:=h
  exact⟨v,r,e,Rep.nol s hn'.1 q,i4.nol s hn'.2 t⟩
end
section
variable(K:W.Frag)
def zY(E:Ends)(as:List Addr)(o:Out)(H':Hp):Prop:=
 match o with
 | .nx ρ=>∀ σ,kz K H' ρ as σ->E.nx σ H'
 | .rt d=>∀v,Rep K H' d v->E.rt v H'
 | .bk ρ=>∀ σ,kz K H' ρ as σ->E.bk σ H'
 | .ct ρ=>∀ σ,kz K H' ρ as σ->E.ct σ H'
def tN(u:NU):TS:=fun E σ H=>∃ ρ as ls o ls',kz K H ρ as σ/\o8 K H as ls/\u ρ ls=some (o,ls')/\∀H',mU as H H'->o8 K H' as ls'->zY K E as o H'
def Cu(c:R->Option Bool):TT:=fun σ H Q=>∃ ρ as ls b,kz K H ρ as σ/\o8 K H as ls/\c (wz ρ ls)=some b/\∀H',i9 H H'->Q b H'
def CK(f:R->OD):TE:=fun σ H Q=>∃ ρ as ls d,kz K H ρ as σ/\o8 K H as ls/\f (wz ρ ls)=some d/\nol d=true/\∀v H',i9 H H'->Rep K H' d v->Q v H'
end
def NJ(X:Cx)(st:Stmt)(u:NU):Prop:=PS X st (tN X.K u)
def wx(X:Cx)(sts:List Stmt)(u:NU):Prop:=PSs X sts (tN X.K u)
section
variable{X:Cx}{st:Stmt}{sts:List Stmt}{u:R->Option Out}{p q:NU}{pos:Pos}{e:Expr}
theorem cT{H H2:Hp}{as:List Addr}{xs:Addr->List V}(h:∀a∈as,H a=some (jH a (xs a)))(s:i9 (mE H as fun a=>.lst (xs a)) H2):i9 H (mE H2 as fun a=>jH a (xs a)):=fun b u e=>by
 by_cases hb:b∈as
 ·rw[lT hb,<- h b hb,e]
 ·rw[mH hb]
  exact s b u (by rw[mH hb];exact e)
theorem vh{H:Hp}{as:List Addr}{xs:Addr->List V}(h:∀a∈as,H a=some (jH a (xs a))):Kp H (mE H as fun a=>.lst (xs a)):=fun b u e n=>by
 by_cases hb:b∈as
 ·rw[h b hb] at e
  cases e
  exact absurd rfl (n _)
 ·rw[mH hb];exact e
theorem x4{c:R->Option Bool}(h:ST X e c):PT X e (Cu X.K c):=by
 intro pins s σ H Q I ⟨ρ,as,ls,b,er,⟨nd,xs,h1,h2⟩,ec,q⟩
 refine jC (h pins s σ _ (fun b' H2=>b'=b/\i9 (mE H as fun a=>.lst (xs a)) H2) (qG nd I h1) ⟨wz ρ ls,b,fu er (vh h1) (fun a ha=>lT ha) h2,ec,fun H' s'=>⟨rfl,s'⟩⟩) fun b' s2 ⟨H2,I2,eb,sm⟩=>?_
 subst eb
 exact⟨_,qd nd I2 (fun a ha=>sm _ _ (lT ha)),q _ (cT h1 sm)⟩
theorem yk{f:R->OD}(h:SE X e f):PE X e (CK X.K f):=by
 intro pins s σ H Q I ⟨ρ,as,ls,d,er,⟨nd,xs,h1,h2⟩,ec,hn,q⟩
 refine jC (h pins s σ _ (fun v H2=>Rep X.K H2 d v/\i9 (mE H as fun a=>.lst (xs a)) H2) (qG nd I h1) ⟨wz ρ ls,d,fu er (vh h1) (fun a ha=>lT ha) h2,ec,fun v H' s' r=>⟨r,s'⟩⟩) fun u s2 ⟨v,H2,I2,rv,rd,sm⟩=>?_
 refine⟨v,_,qd nd I2 (fun a ha=>sm _ _ (lT ha)),rv,q v _ (cT h1 sm) (Rep.nol (fun b w eb n=>?_) hn rd)⟩
 have hb:b∉as:=fun hb=>by
  rw[sm _ _ (lT (f:=fun a=>HO.lst (xs a)) hb)] at eb
  exact n _ (Option.some.inj eb).symm
 rw[mH hb];exact eb
theorem ox(h:S1 X st u):NJ X st (kF u):=PS.imp h fun E σ H ⟨ρ,as,ls,o,ls',⟨τ,er⟩,N,e,q⟩=>by
 obtain⟨o1,e1,e2⟩:=jL e
 cases e2
 refine⟨ρ,_,o,er,e1,fun H' s=>?_⟩
 have z:=q H' (mU.of s) (N.mono s)
 cases o with
 | nx ρ2=>exact fun σ2 e2=>z σ2 ⟨τ,e2⟩
 | rt d=>exact z
 | bk ρ2=>exact fun σ2 e2=>z σ2 ⟨τ,e2⟩
 | ct ρ2=>exact fun σ2 e2=>z σ2 ⟨τ,e2⟩
theorem yM:wx X [] yn:=qh.imp fun E σ H ⟨ρ,as,ls,o,ls',er,N,e,q⟩=>by
 cases e
 exact q H (mU.of (i9.refl H)) N σ er
theorem lS(h1:NJ X st p)(h2:wx X sts q):wx X (st::sts) (pd p q):=(aL h1 h2).imp fun E σ H ⟨ρ,as,ls,o,ls',er,N,e,qq⟩=>by
 obtain⟨⟨o1,ls1⟩,e1,e⟩:=i5 e
 refine⟨ρ,as,ls,o1,ls1,er,N,e1,fun H1 k1 N1=>?_⟩
 cases o1 with
 | nx ρ2=>exact fun σ2 er2=>⟨ρ2,as,ls1,o,ls',er2,N1,e,fun H2 k2 N2=>qq H2 (k1.trans k2) N2⟩
 | rt d=>cases e;exact qq H1 k1 N1
 | bk ρ2=>cases e;exact qq H1 k1 N1
 | ct ρ2=>cases e;exact qq H1 k1 N1
theorem qt(h:NJ X st p):wx X [st] p:=bp h
theorem BM{c:Expr}{s:R->Option Bool}{B1 B2:List Stmt}(hc:ST X c s)(ha:wx X B1 p)(hb:wx X B2 q):NJ X (.If c B1 B2 pos) (A1 s p q):=(ga (x4 hc) ha hb).imp fun E σ H ⟨ρ,as,ls,o,ls',er,N,e,qq⟩=>by
 obtain⟨x,e1,e⟩:=i5 e
 refine⟨ρ,as,ls,x,er,N,e1,fun H1 s1=>?_⟩
 cases x with
 | true=>rw[if_pos rfl] at e ⊢;exact⟨ρ,as,ls,o,ls',er.mono s1,N.mono s1,e,fun H2 k2=>qq H2 ((mU.of s1).trans k2)⟩
 | false=>rw[if_neg Bool.false_ne_true] at e ⊢;exact⟨ρ,as,ls,o,ls',er.mono s1,N.mono s1,e,fun H2 k2=>qq H2 ((mU.of s1).trans k2)⟩
theorem uW{E:Ends}{stf:D->R->Option R}{J:It}{H1:Hp}{σ:L2.St}{ρ:R}{as:List Addr}{ls ls':oP}{ds:LD}{o:Out}(er:kz X.K H1 ρ as σ)(N:o8 X.K H1 as ls)(e:lV stf p ds ρ ls=some (o,ls'))(y:kY X.K J ds H1)(q:∀H',mU as H1 H'->o8 X.K H' as ls'->zY X.K E as o H') :
  ∃W:Nat->Nat->L2.St->Hp->Prop,(∃m,W 0 m σ H1)/\∀i m σ H,W i m σ H->(J.stop i H/\E.nx σ H)\/(J.go i H/\∃N:L2.St->Hp->Prop,(∀ σ' H',N σ' H'->∃m',m'<m/\W (i+1) m' σ' H')/\∀x H',J.yld i H x H'->(Cb X.K stf) x σ H' fun σ2 H2=>(tN X.K p) {E with nx:=N,ct:=N,bk:=E.nx} σ2 H2):=by
 refine⟨fun i m σ' H'=>m=ds.length - i/\i<=ds.length/\mU as H1 H'/\∃ ρ' l,kz X.K H' ρ' as σ'/\o8 X.K H' as l/\lV stf p (ds.drop i) ρ' l=some (o,ls'),
  ⟨ds.length,by simp,Nat.zero_le _,mU.of (i9.refl _),ρ,ls,er,N,by simpa using e⟩,?_⟩
 rintro i m σ' H' ⟨rfl,hi,s2,ρ',l,er',N',e'⟩
 have kp:Kp H1 H':=N.kp s2
 by_cases hlt:i<ds.length
 ·refine .inr ?_
  have hd:ds[i]?=some ds[i]:=by simp[hlt]
  obtain⟨hgo,hy⟩:=y.1 i ds[i] H' kp hd
  rw[List.drop_eq_getElem_cons hlt] at e'
  obtain⟨ρ1,e2,e'⟩:=i5 e'
  obtain⟨⟨o1,l1⟩,e3,e'⟩:=i5 e'
  refine⟨hgo,fun σ2 H2=>i+1<=ds.length/\mU as H1 H2/\∃ ρ' l,kz X.K H2 ρ' as σ2/\o8 X.K H2 as l/\lV stf p (ds.drop (i+1)) ρ' l=some (o,ls'),
   fun σ2 H2 n2=>⟨ds.length - (i+1),by omega,rfl,n2.1,n2.2⟩,fun x H3 yx=>?_⟩
  obtain⟨s3,rx⟩:=hy x H3 yx
  obtain⟨τ,et⟩:=er'
  refine⟨ρ',_,ds[i],ρ1,et.mono s3,rx,e2,fun σ4 H4 s4 er4=>⟨ρ1,as,l,o1,l1,⟨τ,er4⟩,(N'.mono s3).mono s4,e3,fun H5 k5 N5=>?_⟩⟩
  have s15:mU as H1 H5:=s2.trans ((mU.of s3).trans ((mU.of s4).trans k5))
  cases o1 with
  | nx ρ2=>exact fun σ6 er6=>⟨hlt,s15,ρ2,l1,er6,N5,e'⟩
  | ct ρ2=>exact fun σ6 er6=>⟨hlt,s15,ρ2,l1,er6,N5,e'⟩
  | bk ρ2=>cases e';exact fun σ6 er6=>q H5 s15 N5 σ6 er6
  | rt d=>cases e';exact q H5 s15 N5
 ·have e4:i=ds.length:=by omega
  subst e4
  rw[List.drop_length] at e'
  cases e'
  exact .inl ⟨y.2 _ H' kp (Nat.le_refl _),q H' s2 N' σ' er'⟩
theorem yc{tg iter:Expr}{B:List Stmt}{it:R->Option LD}{stf:D->R->Option R}(hp:PassesOwn (model X.prog X.w) X.A X.env X.xe)(hc:X.calm=true)(hi:SI X tg iter it)(hg:SG X tg stf)(hb:wx X B p)
  (hs:∀x,foldedSetIterable iter X.env x=pure x:=by intro _;rfl):NJ X (.For tg iter B [] pos) (vR it stf p):=(dv hp hc hi hg hb hs).imp fun E σ H ⟨ρ,as,ls,o,ls',er,N,e,q⟩=>by
 obtain⟨ds,e1,e⟩:=i5 e
 obtain⟨τ,et⟩:=id er
 exact⟨ρ,ds,et.1,e1,fun J H1 s1 y=>uW (er.mono s1) (N.mono s1) e y fun H' k N'=>q H' ((mU.of s1).trans k) N'⟩
theorem xU{c:Expr}{B:List Stmt}{s:R->Option Bool}(n:Nat)(hp:PassesOwn (model X.prog X.w) X.A X.env X.xe)(hc:ST X c s)(hb:wx X B p):NJ X (.While c B [] pos) (sr n s p):=(d_ hp (x4 hc) hb).imp fun E σ H ⟨ρ,as,ls,o,ls',er,N,e,q⟩=>by
 refine⟨fun m σ' H'=>∃ ρ' l,kz X.K H' ρ' as σ'/\o8 X.K H' as l/\mU as H H'/\m8 s p m ρ' l=some (o,ls'),⟨n,ρ,ls,er,N,mU.of (i9.refl _),e⟩,?_⟩
 rintro m σ' H' ⟨ρ',l,er',N',k',e'⟩
 cases m with
 | zero=>cases e'
 | succ m =>
  obtain⟨b,e1,e'⟩:=i5 e'
  refine⟨ρ',as,l,b,er',N',e1,fun H1 s1=>?_⟩
  cases b with
  | false =>
   rw[if_neg Bool.false_ne_true] at e' ⊢
   cases e'
   exact q H1 (k'.trans (mU.of s1)) (N'.mono s1) σ' (er'.mono s1)
  | true =>
   rw[if_pos rfl] at e' ⊢
   obtain⟨⟨o1,l1⟩,e3,e'⟩:=i5 e'
   refine⟨fun σ2 H2=>∃ ρ' l,kz X.K H2 ρ' as σ2/\o8 X.K H2 as l/\mU as H H2/\m8 s p m ρ' l=some (o,ls'),fun σ2 H2 z=>⟨m,Nat.lt_succ_self _,z⟩,ρ',as,l,o1,l1,er'.mono s1,N'.mono s1,e3,fun H5 k5 N5=>?_⟩
   have k15:mU as H H5:=k'.trans ((mU.of s1).trans k5)
   cases o1 with
   | nx ρ2=>exact fun σ6 er6=>⟨ρ2,l1,er6,N5,k15,e'⟩
   | ct ρ2=>exact fun σ6 er6=>⟨ρ2,l1,er6,N5,k15,e'⟩
   | bk ρ2=>cases e';exact fun σ6 er6=>q H5 k15 N5 σ6 er6
   | rt d=>cases e';exact q H5 k15 N5
theorem lP.set{K:W.Frag}{H:Hp}{xs ys:Addr->List V}:∀{as:List Addr} {ls:oP} {j:Nat} {a:Addr} {l:LD},as.Nodup->lP K H xs as ls->as[j]?=some a->(∀b,b≠a->ys b=xs b)->i4 K H l (ys a)->lP K H ys as (ls.set j l)
 | [],_,_,_,_,_,h,e,_,_=>by cases e
 | a'::as,_,0,a,l,nd,h,e,hb,r=>by
  obtain⟨l',r',rfl,q,t⟩:=h
  cases (show some a'=some a from e)
  refine⟨l,r',rfl,r,?_⟩
  have go:∀{as:List Addr} {ls:oP},a'∉as->lP K H xs as ls->lP K H ys as ls:=fun {as}=>by
   induction as with
   | nil=>intro ls _ h;exact h
   | cons c cs ih =>
    rintro ls hn ⟨l,r,e,q,t⟩
    exact⟨l,r,e,by rw[hb c (fun z=>hn (z ▸ List.mem_cons_self))];exact q,ih (fun z=>hn (List.mem_cons_of_mem _ z)) t⟩
  exact go (List.nodup_cons.mp nd).1 t
 | a'::as,_,j+1,a,l,nd,h,e,hb,r=>by
  obtain⟨l',r',rfl,q,t⟩:=h
  have hm:a∈as:=List.mem_of_getElem? (i:=j) (by simpa using e)
  refine⟨l',r'.set j l,rfl,?_,lP.set (List.nodup_cons.mp nd).2 t (by simpa using e) hb r⟩
  rw[hb a' (fun z=>(List.nodup_cons.mp nd).1 (z ▸ hm))]
  exact q
theorem yd{x:Str}{f:R->OD}{px ap cp:Pos}(i j:Nat)(he:SE X e f)(hN:X.N[i]?=some x:=by rfl)(hv:qB X.env.scope x:=by first | exact Or.inl rfl | exact Or.inr (Or.inl rfl) | exact Or.inr (Or.inr rfl))(hd:(x==("__debug__" : Str))=false:=by decide)(hcd:(x==("__classdict__" : Str))=false:=by decide)
  (hbase:attributeBase (.Name x px) "append" X.env (eval (.Name x px) X.env)=eval (.Name x px) X.env:=by rfl) (hst:noStar e=true:=by rfl)
  (hline:(ap.endLine==cp.line)=true:=by rfl) (hs:swapsWith (.Call (.Attribute (.Name x px) "append" ap) [e] [] cp) none pos.line X.env=pure false:=by rfl) :
  NJ X (.Expr (.Call (.Attribute (.Name x px) "append" ap) [e] [] cp) pos) (rH i j f):=by
 intro pins s σ H E I ⟨ρ,as,ls,o,ls',er,N,eu,qq⟩
 obtain⟨d,e1,eu⟩:=i5 eu
 obtain⟨l,e2,eu⟩:=i5 eu
 split at eu
 case isFalse=>cases eu
 case isTrue hc =>
 cases eu
 obtain⟨hi,hlen⟩:=hc
 obtain⟨nd,xs,h1,h2⟩:=id N
 obtain⟨a,ha,rl⟩:=h2.get e2
 have ham:a∈as:=List.mem_of_getElem? ha
 have hσ:=er.at ha
 rw[hi] at hσ
 have hst1:=av [] X.env hst
 refine wpAny_Expr_any (wpAny_Call_method_late hbase ?_ hline rfl (jC ((pv i (pos:=px) hN hv hd hcd) pins s σ H (fun v H1=>v=.ref a/\H1=H) I ⟨.ref a,hσ,rfl,rfl⟩) fun v s1 ⟨y,H1,I1,r1,ey,eH⟩=>?_)) I.quiet hs
 ·rw[hst1]
  rfl
 subst ey eH
 cases (show v=_ from r1)
 obtain⟨z,its,n,rv,eo⟩:=cK I1 (h1 a ham)
 refine⟨"list","list.append",PySem.F.plainAttrs_list,PySem.F.slot_list_append,PySem.F.type_list_append,⟨_,eo,rfl⟩,fun b eb=>?_,?_⟩
 ·cases eb
  exact⟨_,eo,rfl⟩
 obtain⟨τ,et⟩:=id er
 have hA:=(ac he af hst).1 cp pins s1 σ H1 (fun vs H2=>i9 H1 H2/\i4 X.K H2 [d] vs) I1 ⟨ρ,[d],et.1,by show(f ρ).bind _=_;rw[e1];rfl,fun vs H2 s2 r2=>⟨s2,r2⟩⟩
 rw[hst1] at hA ⊢
 refine Calls.callWith_builtin rfl (Calls.evalArgs_plain ?_)
 refine jC hA fun us s2 ⟨vs,H2,I2,r2,s12,rd⟩=>?_
 obtain⟨w,w',rfl,rw1,rw2⟩:=rd
 cases (show w'=[] from rw2)
 have ho2:H2 a=some (jH a (xs a)):=s12 _ _ (h1 a ham)
 have I3:=mW I2 ho2
 have zz:100000<=sizeLine:=by decide
 refine jC (de pins s2 σ (upd H2 a (.lst (xs a))) (.ref a) [w] (.ref a) us (fun v H3=>H3=upd (upd H2 a (.lst (xs a))) a (.lst (xs a++[w]))) I3 rfl r2 ⟨a,xs a,w,rfl,rfl,ae,by rw[<- rl.length];omega,rfl⟩) fun v s3 ⟨v',H3,I4,_,e3⟩=>?_
 subst e3
 have I5:=m5 I4 ae
 generalize hH5:upd (upd (upd H2 a (.lst (xs a))) a (.lst (xs a++[w]))) a (jH a (xs a++[w]))=H5 at I5
 have k25:jN a H2 H5:=by
  subst hH5
  exact jN.upd.trans (jN.upd.trans jN.upd)
 have ho5:H5 a=some (jH a (xs a++[w])):=by subst hH5;exact ae
 have kp25:Kp H2 H5:=k25.kp ho2
 have kp15:Kp H1 H5:=fun b u e n=>kp25 b u (s12 _ _ e) n
 refine⟨σ,H5,I5,qq H5 (fun b u nb e=>k25 b u (fun z=>nb (z ▸ ham)) (s12 _ _ e)) ⟨nd,fun b=>if b=a then xs a++[w] else xs b,fun b hb=>?_,?_⟩ σ (er.kp kp15)⟩
 ·show H5 b=some (jH b (if b=a then xs a++[w] else xs b))
  by_cases hba:b=a
  ·subst hba;rw[if_pos rfl];exact ho5
  ·rw[if_neg hba];exact k25 _ _ hba (s12 _ _ (h1 b hb))
 ·refine lP.set (xs:=xs) nd (h2.kp kp15) ha (fun b hb=>if_neg hb) ?_
  rw[if_pos rfl]
  exact(rl.kp kp15).append (i4.one (rw1.kp kp25))
theorem lP.snoc{K:W.Frag}{H:Hp}{xs:Addr->List V}{a:Addr}{l:LD}(r:i4 K H l (xs a)):∀{as:List Addr} {ls:oP},lP K H xs as ls->lP K H xs (as++[a]) (ls++[l])
 | [],_,h=>by cases (show _=[] from h);exact⟨l,[],rfl,r,rfl⟩
 | b::as,_,h=>by
  obtain⟨l',r',rfl,q,t⟩:=h
  exact⟨l',r'++[l],rfl,q,lP.snoc r t⟩
theorem lP.split{K:W.Frag}{H:Hp}{xs:Addr->List V}{a:Addr}:∀{as:List Addr} {ls:oP},lP K H xs (as++[a]) ls->∃ls0 l,ls=ls0++[l]/\lP K H xs as ls0/\i4 K H l (xs a)
 | [],_,h=>by
  obtain⟨l,r,rfl,q,t⟩:=h
  cases (show r=[] from t)
  exact⟨[],l,rfl,rfl,q⟩
 | b::as,_,h=>by
  obtain⟨l',r',rfl,q,t⟩:=h
  obtain⟨ls0,l,rfl,h1,h2⟩:=lP.split t
  exact⟨l'::ls0,l,rfl,⟨l',ls0,rfl,q,h1⟩,h2⟩
theorem lP.cong{K:W.Frag}{H:Hp}{xs ys:Addr->List V}:∀{as:List Addr} {ls:oP},(∀a∈as,ys a=xs a)->lP K H xs as ls->lP K H ys as ls
 | [],_,_,h=>h
 | b::as,_,hb,h=>by
  obtain⟨l',r',e,q,t⟩:=h
  exact⟨l',r',e,by rw[hb b List.mem_cons_self];exact q,lP.cong (fun a ha=>hb a (List.mem_cons_of_mem _ ha)) t⟩
theorem rN{K:W.Frag}{H H2:Hp}{as:List Addr}{ls:oP}{a:Addr}{ds:LD}{vs:List V}(N:o8 K H as ls)(hf:H a=none)(s:i9 H H2)(ho:H2 a=some (jH a vs))(r:i4 K H2 ds vs):o8 K H2 (as++[a]) (ls++[ds]):=by
 obtain⟨nd,xs,h1,h2⟩:=N
 have hn:a∉as:=fun z=>by rw[h1 a z] at hf;cases hf
 refine⟨?_,fun b=>if b=a then vs else xs b,fun b hb=>?_,?_⟩
 ·rw[List.nodup_append]
  exact⟨nd,List.nodup_cons.mpr ⟨(fun z=>nomatch z),.nil⟩,fun x hx y hy=>by rw[List.mem_singleton.mp hy];exact fun z=>hn (by rw[<- z];exact hx)⟩
 ·show H2 b=some (jH b (if b=a then vs else xs b))
  by_cases e:b=a
  ·subst e;rw[if_pos rfl];exact ho
  ·rw[if_neg e]
   rcases List.mem_append.mp hb with hb | hb
   ·exact s _ _ (h1 b hb)
   ·exact absurd (List.mem_singleton.mp hb) e
 ·exact lP.snoc (xs:=fun b=>if b=a then vs else xs b) (by rw[if_pos rfl];exact r) (lP.cong (fun b hb=>if_neg fun z=>hn (by rw[<- z];exact hb)) (h2.kp (Kp.of s)))
theorem ph{K:W.Frag}{H:Hp}{ρ:R}{as:List Addr}{σ:L2.St}{a:Addr}(er:kz K H ρ as σ)(hl:ρ.length+as.length<σ.length):kz K H ρ (as++[a]) (σ.set (ρ.length+as.length) (some (.ref a))):=by
 obtain⟨τ,e1,e2⟩:=er
 have hr:(refs as).length=as.length:=List.length_map ..
 have ht:τ ≠ []:=fun z=>by
  have:=congrArg List.length e2
  rw[List.length_drop,List.length_append,z,hr,List.length_nil] at this
  omega
 obtain⟨o,τ',rfl⟩:=List.exists_cons_of_ne_nil ht
 refine⟨τ',⟨by rw[List.length_set];exact e1.1,fun j d hd=>?_⟩,?_⟩
 ·have hj:=(List.getElem?_eq_some_iff.mp hd).1
  obtain⟨v,h1,h2⟩:=e1.2 j d hd
  exact⟨v,by rw[List.getElem?_set_ne (by omega)];exact h1,h2⟩
 ·rw[List.drop_set,if_neg (by omega),e2,show ρ.length+as.length - ρ.length=(refs as).length by omega]
  unfold refs
  rw[List.map_append,List.append_assoc]
  simp
theorem y4{x y:Str}{es:List Expr}{F:R->Option LD}{px p1 p2 p3 p4:Pos}(i iy:Nat)(hN:X.N.Nodup)(hF:SA X es F)(h:NJ X st p)(hix:X.N[i]?=some x:=by rfl)(hiy:X.N[iy]?=some y:=by rfl)(hx:Loc X.env.scope x:=by first | exact Or.inl rfl | exact Or.inr rfl)(hy:Loc X.env.scope y:=by first | exact Or.inl rfl | exact Or.inr rfl)(hv:qB X.env.scope x:=by first | exact Or.inl rfl | exact Or.inr (Or.inl rfl) | exact Or.inr (Or.inr rfl))
  (hes:Nat.ble es.length 1000=true:=by rfl) (hs:swapsWith (.List es p1) (some (.Name x px)) pos.line X.env=pure false:=by rfl) (hf:X.fn x=true\/X.env.scope.names.lookup x=some .local:=by first | exact .inl rfl | exact .inr rfl) (hs2:swapsWith (.Name x p2) (some (.Name y p3)) p4.line X.env=pure false:=by rfl) (hfy:X.fn y=true\/X.env.scope.names.lookup y=some .local:=by first | exact .inl rfl | exact .inr rfl) (hd:(x==("__debug__" : Str))=false:=by decide) (hcd:(x==("__classdict__" : Str))=false:=by decide) :
  wx X [.Assign [.Name x px] (.List es p1) pos,st,.Assign [.Name y p3] (.Name x p2) p4] (zv i iy F p):=by
 intro pins s σ H E I ⟨ρ,as,ls,o,ls',er,N,e,qq⟩
 unfold zv at e
 split at e
 case isFalse=>cases e
 case isTrue hc =>
 obtain⟨hi,hiy'⟩:=hc
 obtain⟨ds,e0,e⟩:=i5 e
 obtain⟨⟨o1,ls1⟩,e1,e⟩:=i5 e
 have hil:ρ.length+as.length<σ.length:=by
  have h1:=(List.getElem?_eq_some_iff.mp hix).1
  have h2:=I.len
  rw[<- N.len]
  omega
 obtain⟨τ0,et⟩:=id er
 refine(aL (bG (i:=i) hN hix hx (cq hF.1) hs hf) (dA (aL h (fo (bp (bG (i:=iy) hN hiy hy (pv i (pos:=p2) hix hv hd hcd) hs2 hfy)))))) pins s σ H E I ⟨ρ,ds,et.1,e0,fun vs H1 s1 r1=>⟨?_,fun a ha=>⟨a,vs,ae,?_⟩⟩⟩
 ·have hl1:=hF.2.1 ρ ds e0
  rw[<- r1.length,hl1]
  exact Nat.le_trans (Nat.le_of_ble_eq_true hes) (by decide)
 generalize hH2:upd (upd H1 a (.lst vs)) a (jH a vs)=H2
 have k12:jN a H1 H2:=by
  subst hH2
  exact jN.upd.trans jN.upd
 have ho2:H2 a=some (jH a vs):=by subst hH2;exact ae
 have s12:i9 H1 H2:=fun b u hb=>k12 b u (fun z=>by rw[z,ha] at hb;cases hb) hb
 have s02:=s1.trans s12
 have hHa:H a=none:=by
  cases hb:H a with
  | none=>rfl
  | some u=>rw[s1 _ _ hb] at ha;cases ha
 have hi':i=ρ.length+as.length:=by rw[<- N.len];exact hi.symm
 have N2:=rN N hHa s02 ho2 (r1.mono s12)
 have er2:kz X.K H2 ρ (as++[a]) (σ.set i (some (.ref a))):=by rw[hi'];exact(ph er hil).mono s02
 have hna:a∉as:=fun z=>by
  obtain⟨_,xs,h1,_⟩:=N
  rw[h1 a z] at hHa;cases hHa
 refine⟨ρ,as++[a],ls++[ds],o1,ls1,er2,N2,e1,fun H3 k3 N3=>?_⟩
 have sm3:mU as H H3:=fun b u hb e=>k3 b u (fun z=>by
  rcases List.mem_append.mp z with z | z
  ·exact hb z
  ·rw[List.mem_singleton.mp z,hHa] at e;cases e) (s02 _ _ e)
 obtain⟨nd3,xs3,g1,g2⟩:=id N3
 obtain⟨ls0,l,els,g3,g4⟩:=g2.split
 have N30:o8 X.K H3 as ls0:=⟨(List.nodup_append.mp nd3).1,xs3,fun b hb=>g1 b (List.mem_append_left _ hb),g3⟩
 cases o1 with
 | rt d =>
  dsimp only at e
  split at e
  ·cases e
   refine qq H3 sm3 ?_
   rw[els,List.dropLast_concat]
   exact N30
  ·cases e
 | bk ρ1=>cases e
 | ct ρ1=>cases e
 | nx ρ1 =>
  dsimp only at e
  split at e
  case isFalse=>cases e
  case isTrue hc =>
  cases e
  intro σ3 er3
  have hσa:σ3[i]?=some (some (.ref a)):=by
   have:=er3.at (j:=as.length) (a:=a) (by simp)
   rw[hc.1] at this
   rw[hi'];exact this
  refine⟨a,xs3 a,g1 a (List.mem_append_right _ (List.mem_singleton.mpr rfl)),.ref a,hσa,?_⟩
  generalize hH4:upd H3 a (.lst (xs3 a))=H4
  have k34:jN a H3 H4:=by subst hH4;exact jN.upd
  have ho4:H4 a=some (.lst (xs3 a)):=by subst hH4;exact ae
  have kp34:Kp H3 H4:=k34.kp (g1 a (List.mem_append_right _ (List.mem_singleton.mpr rfl)))
  have sm4:mU as H H4:=fun b u hb e=>k34 b u (fun z=>by rw[z,hHa] at e;cases e) (sm3 b u hb e)
  rw[els,List.getLastD_concat,List.dropLast_concat] at qq
  refine qq H4 sm4 ⟨(List.nodup_append.mp nd3).1,xs3,fun b hb=>k34 _ _ (fun z=>hna (by rw[<- z];exact hb)) (g1 b (List.mem_append_left _ hb)),g3.kp kp34⟩ (σ3.set iy (some (.ref a))) ?_
  obtain⟨τ3,et3⟩:=er3.kp kp34
  unfold refs at et3
  rw[List.map_append,List.append_assoc] at et3
  exact⟨_,et3.set (by rw[hc.1];exact hiy') ⟨a,xs3 a,rfl,ho4,g4.kp kp34⟩⟩
theorem uA{x:Str}{es:List Expr}{F:R->Option LD}{px p1:Pos}{E:Ends}{σ:L2.St}{H:Hp}{ρ:R}{ds:LD}{i:Nat}{u:TS}(hF:SA X es F)(hes:Nat.ble es.length 1000=true)(et:jP X.K H ρ σ)(e0:F ρ=some ds)
  (h:∀a vs H2,H a=none->i9 H H2->H2 a=some (jH a vs)->i4 X.K H2 ds vs->u E (σ.set i (some (.ref a))) H2):∃ ρ ds,jP X.K H ρ σ/\F ρ=some ds/\∀vs H',i9 H H'->i4 X.K H' ds vs->(vs.length<=sizeLine/\∀a,H' a=none->(yf u) E (σ.set i (some (.ref a))) (upd H' a (.lst vs))):=by
 refine⟨ρ,ds,et,e0,fun vs H1 s1 r1=>⟨?_,fun a ha=>⟨a,vs,ae,?_⟩⟩⟩
 ·have hl1:=hF.2.1 ρ ds e0
  rw[<- r1.length,hl1]
  exact Nat.le_trans (Nat.le_of_ble_eq_true hes) (by decide)
 generalize hH2:upd (upd H1 a (.lst vs)) a (jH a vs)=H2
 have k12:jN a H1 H2:=by
  subst hH2
  exact jN.upd.trans jN.upd
 have ho2:H2 a=some (jH a vs):=by subst hH2;exact ae
 have s12:i9 H1 H2:=fun b u hb=>k12 b u (fun z=>by rw[z,ha] at hb;cases hb) hb
 have hHa:H a=none:=by
  cases hb:H a with
  | none=>rfl
  | some u=>rw[s1 _ _ hb] at ha;cases ha
 exact h a vs H2 hHa (s1.trans s12) ho2 (r1.mono s12)
theorem Ah{x:Str}{es:List Expr}{F:R->Option LD}{px p1:Pos}(i:Nat)(hN:X.N.Nodup)(hF:SA X es F)(h:wx X sts p)(hix:X.N[i]?=some x:=by rfl)(hx:Loc X.env.scope x:=by first | exact Or.inl rfl | exact Or.inr rfl)
  (hes:Nat.ble es.length 1000=true:=by rfl) (hs:swapsWith (.List es p1) (some (.Name x px)) pos.line X.env=pure false:=by rfl) (hf:X.fn x=true\/X.env.scope.names.lookup x=some .local:=by first | exact .inl rfl | exact .inr rfl) :
  SS X (.Assign [.Name x px] (.List es p1) pos::sts) (wY i F p):=by
 intro pins s σ H E I ⟨ρ,τ,o,er,e,qq⟩
 unfold wY at e
 split at e
 case isFalse=>cases e
 case isTrue hi =>
 obtain⟨ds,e0,e⟩:=i5 e
 obtain⟨⟨o1,ls1⟩,e1,e⟩:=i5 e
 match o1,e,e1 with
 | .rt d,e,e1 =>
 cases e
 have hl:(ρ.take i).length=i:=by rw[List.length_take];omega
 have hσ:=er.1.1
 have er0:kz X.K H (ρ.take i) [] σ:=by
  refine⟨σ.drop i,⟨by omega,fun j d' hd'=>?_⟩,by rw[hl];rfl⟩
  have hj:j<i:=by have:=(List.getElem?_eq_some_iff.mp hd').1;omega
  rw[List.getElem?_take_of_lt hj] at hd'
  exact er.1.2 j d' hd'
 have N0:o8 X.K H [] []:=⟨.nil,fun _=>[],(fun a ha=>nomatch ha),rfl⟩
 obtain⟨τ0,et⟩:=id er0
 refine(aL (bG (i:=i) hN hix hx (cq hF.1) hs hf) (dA h)) pins s σ H E I (uA (x:=x) (px:=px) (p1:=p1) hF hes et.1 e0 fun a vs H2 hHa s02 ho2 r2=>⟨ρ.take i,[a],[ds],.rt d,ls1,?_,rN N0 hHa s02 ho2 r2,e1,fun H3 k3 N3 v rv=>?_⟩)
 ·have z:=ph (a:=a) er0 (by show(ρ.take i).length+0<_;omega)
  have e9:(ρ.take i).length+([]:List Addr).length=i:=by rw[hl];rfl
  rw[e9] at z
  exact z.mono s02
 ·exact qq H3 (fun b u e=>k3 b u (fun z=>by rw[List.mem_singleton.mp z,hHa] at e;cases e) (s02 _ _ e)) v rv
end
section
variable{prog:Program}{w:World}{A:Around}{E:Value->Shared->Prop}{s:Shared}{d it:Addr}{o:Obj}{es:Array DictEntry}{ep i:Nat}
theorem wZ(ho:s.heap.get? d=some o)(hc:o.ExactDict):s.TypeIs (.ref d) "dict":=⟨o,ho,hc.1⟩
theorem zZ{Q:Value->Shared->Prop}(hd:(d==sysModules)=false)(ho:s.heap.get? d=some o)(hc:o.ExactDict)(hdat:o.data=.dict es ep)
  (hQ:Q (.ref s.heap.objs.size) {s with heap:=s.heap.push {cls:=.type "dict_keyiterator",data:=.fields #[.ref d,.int 0 0,.int es.size 0,.int ep 0]} }):wpAny (model prog w) A (pyIter (.ref d)) Q E s:=by
 have hT:=wZ ho hc
 refine wpAny_pyIter_slot hT F.slot_dict_iter (wpAny_call_entry F.slot_dict_iter hT F.entry_dict_iter ?_ (F.args_dict_iter_1 _));unfold Builtin.«dict.__iter__»
 refine wpAny_bind ?_;unfold Builtin.Dict.dictSlotNone
 refine wpAny_bind (wpAny_notOrdered_dict hT ?_);show wpAny _ _ (pure (Value.ref d)) _ _ s
 refine wpAny_pure ?_;show wpAny _ _ (Builtin.Dict.showsAll d >>= _) _ _ s
 unfold Builtin.Dict.showsAll;rw[if_neg (by rw[hd];exact Bool.false_ne_true)]
 refine wpAny_bind (wpAny_pure ?_);refine wpAny_bind (wpAny_dictEntries ho hdat ?_);refine wpAny_bind (wpAny_dictEpoch ho hdat ?_)
 refine wpAny_bind (wpAny_newObj_type (wpAny_pure ⟨_,rfl,"dict_keyiterator",_,⟨_,Heap.get?_push_size _ rfl,rfl⟩,F.slot_dict_keyiterator_next.lookup,?_⟩));simpa [rawInt] using hQ
theorem AL{Q:Option Value->Shared->Prop}(hit:s.heap.IsKeyIter it d i es.size ep)(hod:s.heap.get? d=some o)(hdd:o.data=.dict es ep)(hlt:i<es.size)
  (hQ:∀h',h'.IsKeyIter it d (i+1) es.size ep->Heap.SameBut it s.heap h'->Q (some es[i].key) {s with heap:=h' }):wpAny (model prog w) A (pyNext (.ref it)) Q E s:=by
 obtain⟨oi,ho,hc,hd⟩:=id hit
 unfold pyNext;refine wpAny_bind (wpAny_attempt (wpAny_callSpecial?_slot (name:=oS "__next__") hit.typeIs F.slot_dict_keyiterator_next (wpAny_call_entry F.slot_dict_keyiterator_next hit.typeIs F.entry_dict_keyiterator_next ?_ (F.args_dict_keyiterator_next_1 _))))
 refine wpAny_bind (wpAny_pure ?_);refine wpAny_bind ?_;refine wpAny_bind ?_
 first | refine wpAny_bind (wpAny_typeNameOfWhole_keyiter hit.typeIs (wpAny_pure ?_));refine wpAny_bind (wpAny_fieldsOf ho hd ?_) | refine wpAny_bind (wpAny_typeNameOf_keyiter hit.typeIs (wpAny_pure ?_));refine wpAny_bind (wpAny_fieldsOf ho hd ?_)
 simp only[show Builtin.Dict_items.ownsTuple "dict_keyiterator" = false by decide,Bool.false_eq_true,if_false]
 show wpAny _ _ (if (Value.ref d==Value.none)=true then _ else _) _ _ s;rw[if_neg (show ¬ ((Value.ref d==Value.none)=true) from Bool.false_ne_true)]
 refine wpAny_bind (wpAny_pure ?_);refine wpAny_bind (wpAny_dictEntries hod hdd ?_);rw[if_neg (by simp)]
 refine wpAny_bind (wpAny_pure ?_);refine wpAny_bind (wpAny_dictEpoch hod hdd ?_);rw[if_neg (by simp)];refine wpAny_pure ?_
 simp only[show ¬ ((i:Int)<0) from by omega,if_false,Int.toNat_natCast,Array.getElem?_eq_getElem hlt];refine wpAny_bind ?_
 first | refine wpAny_bind (wpAny_typeNameOfWhole_keyiter hit.typeIs (wpAny_pure ?_));refine wpAny_bind (wpAny_isOneOf_keyiter hit.typeIs ?_) | refine wpAny_bind (wpAny_typeNameOf_keyiter hit.typeIs (wpAny_pure ?_));refine wpAny_bind (wpAny_isOneOf_keyiter hit.typeIs ?_)
 show wpAny _ _ (setField (.ref it) 1 (rawInt ((i:Int)+1)) >>= _) _ _ s;refine wpAny_bind (wpAny_setField ho hd (by simp) ?_)
 have hit':(s.heap.update it (Obj.mapFields (·.setIfInBounds 1 (rawInt ((i:Int)+1))))).IsKeyIter it d (i+1) es.size ep:=⟨_,Heap.get?_update_self _ ho (Obj.isFreed_of_fields (Obj.data_mapFields hd _)),(Obj.cls_mapFields ..).trans hc,by rw[Obj.data_mapFields hd];simp[rawInt]⟩
 refine wpAny_bind (wpAny_holding ?_);refine wpAny_bind (wpAny_isOneOf_keyiter (s:={s with heap:=s.heap.update it (Obj.mapFields (·.setIfInBounds 1 (rawInt ((i:Int)+1))))}) hit'.typeIs ?_)
 show wpAny _ _ (pure es[i].key) _ _ _;exact wpAny_pure (wpAny_pure ⟨_,rfl,wpAny_pure (hQ _ hit' (Heap.SameBut.update ..))⟩)
theorem BQ{Q:Option Value->Shared->Prop}(hh:A.handled=none)(hit:s.heap.IsKeyIter it d i es.size ep)(hod:s.heap.get? d=some o)(hdd:o.data=.dict es ep)(hge:es.size<=i)
  (hQ:∀h',Heap.ExtBut it s.heap h'->Q none {s with heap:=h' }):wpAny (model prog w) A (pyNext (.ref it)) Q E s:=by
 obtain⟨oi,ho,hc,hd⟩:=id hit
 unfold pyNext;refine wpAny_bind (wpAny_attempt (wpAny_callSpecial?_slot (name:=oS "__next__") hit.typeIs F.slot_dict_keyiterator_next (wpAny_call_entry F.slot_dict_keyiterator_next hit.typeIs F.entry_dict_keyiterator_next ?_ (F.args_dict_keyiterator_next_1 _))))
 refine wpAny_bind (wpAny_pure ?_);refine wpAny_bind ?_;refine wpAny_bind ?_
 first | refine wpAny_bind (wpAny_typeNameOfWhole_keyiter hit.typeIs (wpAny_pure ?_));refine wpAny_bind (wpAny_fieldsOf ho hd ?_) | refine wpAny_bind (wpAny_typeNameOf_keyiter hit.typeIs (wpAny_pure ?_));refine wpAny_bind (wpAny_fieldsOf ho hd ?_)
 simp only[show Builtin.Dict_items.ownsTuple "dict_keyiterator" = false by decide,Bool.false_eq_true,if_false]
 show wpAny _ _ (if (Value.ref d==Value.none)=true then _ else _) _ _ s;rw[if_neg (show ¬ ((Value.ref d==Value.none)=true) from Bool.false_ne_true)]
 refine wpAny_bind (wpAny_pure ?_);refine wpAny_bind (wpAny_dictEntries hod hdd ?_);rw[if_neg (by simp)]
 refine wpAny_bind (wpAny_pure ?_);refine wpAny_bind (wpAny_dictEpoch hod hdd ?_);rw[if_neg (by simp)];refine wpAny_pure ?_
 simp only[show ¬ ((i:Int)<0) from by omega,if_false,Int.toNat_natCast,Array.getElem?_eq_none hge];refine wpAny_bind ?_
 first | refine wpAny_bind (wpAny_typeNameOfWhole_keyiter hit.typeIs (wpAny_pure ?_));show wpAny _ _ (setField (.ref it) 0 .none >>= _) _ _ s | refine wpAny_bind (wpAny_typeNameOf_keyiter hit.typeIs (wpAny_pure ?_));show wpAny _ _ (setField (.ref it) 0 .none >>= _) _ _ s
 refine wpAny_bind (wpAny_setField ho hd (by simp) ?_);show wpAny _ _ (newExc (.type "StopIteration") [] >>= _) _ _ _
 refine wpAny_bind ?_;simp only[newExc,newTuple];refine wpAny_bind (wpAny_newObj_type ?_ (by size_fits))
 refine wpAny_bind (m:=firstArgMember _ _) (wpAny_of_eq (a:=Value.none) (by first | rfl | (simp only[firstArgMember];rfl)) ?_);refine wpAny_newObj_type ?_ (by size_fits);simp only[raiseNew]
 refine wpAny_bind (wpAny_handled ?_);rw[show A.in1.handled=none from hh];refine wpAny_bind (wpAny_pure (wpAny_throw ?_))
 refine wpAny_bind (wpAny_isInstance (T:="StopIteration") (b:=true) ⟨_,Heap.get?_push_size _ rfl,rfl⟩ isSubtype_stop ?_);exact wpAny_pure (hQ _ (((Heap.SameBut.update ..).extBut.push _).push _))
end
def B8(a:Addr)(o:Obj)(kas:List Addr):It:=⟨fun i H=>H a=some (.frz o (.own 0))/\i<kas.length,fun i H x H'=>H'=H/\∃k,kas[i]?=some k/\x=.ref k,fun i H=>H a=some (.frz o (.own 0))/\kas.length<=i⟩
theorem sD{P:Program}{w:World}{K:W.Frag}{tg:Expr}{a it:Addr}{o:Obj}{kas:List Addr}{es:Array DictEntry}{ep:Nat}(hd:o.data=.dict es ep)(hk:es.toList.map (·.key)=kas.map Value.ref):Turn P w K tg (B8 a o kas) [it] it (fun i h=>h.IsKeyIter it a i es.size ep) where
 mem:=by simp
 obj:=fun i h st b hb=>by
  have e:b=it:=by simpa using hb
  subst e
  obtain⟨o,e,c,d⟩:=st
  exact⟨o,e,fun v z=>by rw[d] at z;cases z⟩
 keep:=fun i h h' st k=>st.at fun o e=>k it (by simp) o e
 item:=by
  intro X hP hw hK hc i pins s σ H E I hf st ⟨hq,hi⟩
  have g:s.heap.get? a=some o:=(I.hok a _ hq).1
  have hl:es.size=kas.length:=by have:=congrArg List.length hk;simpa using this
  have hie:i<es.size:=by omega
  obtain⟨f0,f1,f2,f3,f4,f5⟩:=hf it (by simp)
  have hkey:es[i].key=.ref kas[i]:=by
   have h1:(es.toList.map (·.key))[i]?=(kas.map Value.ref)[i]?:=by rw[hk]
   rw[List.getElem?_map,List.getElem?_map,List.getElem?_eq_getElem hi,List.getElem?_eq_getElem (by simpa using hie)] at h1
   simpa using h1
  subst hP hw hK
  refine AL st g hd hie fun h' hit' hs'=>?_
  have I1:L2.Inv X pins σ H {s with heap:=h' }:=I.turned (t':=s.toks) (fun b o hb e=>(hs'.2 b hb).trans e) f0 f1 f3 f4 f5
  obtain⟨oi,e1,c1,d1⟩:=id hit'
  refine⟨_,rfl,qV (s:={s with heap:=h' }) e1 c1 d1 (by decide) ⟨.ref kas[i],H,I1,?_,⟨rfl,_,List.getElem?_eq_getElem hi,rfl⟩,hit',fun b hb=>(hf b hb).1⟩⟩
  rw[hkey];rfl
 done:=by
  intro X hP hw hK hc i pins s σ H E I hf st ⟨hq,hi⟩
  have g:s.heap.get? a=some o:=(I.hok a _ hq).1
  have hl:es.size=kas.length:=by have:=congrArg List.length hk;simpa using this
  obtain⟨f0,f1,f2,f3,f4,f5⟩:=hf it (by simp)
  subst hP hw hK
  exact BQ (I.ok.hd hc) st g hd (by omega) fun h' eb=>⟨rfl,I.turned (t':=s.toks) (fun b o hb e=>eb b o hb e) f0 f1 f3 f4 f5⟩
 self:=fun _ _ _ _ _ st h=>wpAny_pyIter_keyiter st h
theorem ni{K:W.Frag}{H:Hp}:∀{ks:List (Int×Int)} {kas:List Addr},l9 K H ks kas->ks.length=kas.length
 | [],_,h=>by cases (show _=[] from h);rfl
 | k::ks,_,h=>by
  obtain⟨a,r,rfl,_,t⟩:=h
  rw[List.length_cons,List.length_cons,ni t]
theorem pL{K:W.Frag}{H:Hp}:∀{ks:List (Int×Int)} {kas:List Addr} {i:Nat} {k:Int×Int},l9 K H ks kas->ks[i]?=some k->∃a,kas[i]?=some a/\kr K H a [.int k.1,.int k.2]
 | k'::ks,_,0,k,h,e=>by
  obtain⟨a,r,rfl,q,t⟩:=h
  cases (show some k'=some k from e)
  exact⟨a,rfl,q⟩
 | k'::ks,_,i+1,k,h,e=>by
  obtain⟨a,r,rfl,q,t⟩:=h
  exact pL (i:=i) t e
theorem qL{w:World}{P:Program}:∀{ks:List (Int×Int)} {kas:List Addr} {xs:List V} {qs:List (List Key×Addr×Value)},ks.length=kas.length->kas.length=xs.length->rW (ks.zip (kas.zip xs)) qs->(qs.map (entryOfKey (tupleKind (je P w)))).map (·.key)=kas.map Value.ref
 | [],[],[],_,_,_,h=>by cases h;rfl
 | k::ks,a::kas,x::xs,_,h1,h2,h=>by
  cases h with
  | @cons _ b _ ls e t =>
  obtain⟨kb,ab,ub⟩:=b
  cases (show ab=_ from e.2.1)
  have ih:=qL (P:=P) (w:=w) (by simpa using h1) (by simpa using h2) t
  show Value.ref a::_=Value.ref a::_
  rw[ih]
theorem wf{K:W.Frag}{H:Hp}{k:Int×Int}{a:Addr}(h:kr K H a [.int k.1,.int k.2]):Rep K H (.tup [.int k.1,.int k.2]) (.ref a):=⟨a,_,rfl,h,_,_,rfl,rfl,_,_,rfl,rfl,rfl⟩
section
variable{X:Cx}{a:Expr}{f:R->OD}
theorem ip{tg:Expr}(ha:SE X a f):SI X tg a (pO f):=by
 intro pins s σ H W I ⟨ρ,ds,er,e,q⟩
 obtain⟨x,e1,e⟩:=i5 e
 refine jC (ha pins s σ H (fun v H1=>i9 H H1/\Rep X.K H1 x v) I ⟨ρ,x,er,e1,fun v H1 s1 r1=>⟨s1,r1⟩⟩) fun u s1 ⟨v,H1,I1,rv,s01,rx⟩=>?_
 match x,e,rx with
 | .dcp ks dd,e,rx =>
  cases e
  obtain⟨b,kas,xs,rfl,⟨⟨hm,hk,hl⟩,o,P,w,hq,_,qs,es,ep,hp,hx,hdat,hes,_⟩,r⟩:=rx
  cases rv
  have g:s1.heap.get? b=some o:=(I1.hok b _ hq).1
  have hkl:=ni hk
  have hkeys:es.toList.map (·.key)=kas.map Value.ref:=by rw[hes];exact qL hkl hl hp
  refine zZ hm g hx hdat ?_
  refine⟨s1.heap.objs.size,[s1.heap.objs.size],_,B8 b o kas,H1,rfl,I1.kept (t':=s1.toks) fun c o e=>Heap.get?_push_of_some _ e,sD hdat hkeys,⟨_,Heap.get?_push_size _ rfl,rfl,rfl⟩,fun c hc=>?_,q _ H1 s01 ?_⟩
  ·have e:c=s1.heap.objs.size:=by simpa using hc
   subst e
   exact I1.fpOk (Nat.le_refl _) (I1.hok.fresh (Nat.le_refl _))
  ·refine⟨fun i d H2 k2 hi=>?_,fun i H2 k2 hi=>⟨k2 _ _ hq (fun φ z=>by cases z),by rw[List.length_map] at hi;omega⟩⟩
   rw[List.getElem?_map] at hi
   obtain⟨k,hki,rfl⟩:=jL hi
   have hik:i<ks.length:=(List.getElem?_eq_some_iff.mp hki).1
   obtain⟨ka,hka,hsq⟩:=pL hk hki
   refine⟨⟨k2 _ _ hq (fun φ z=>by cases z),by omega⟩,?_⟩
   rintro y H3 ⟨rfl,k',hkk,rfl⟩
   rw[hka] at hkk
   cases hkk
   exact⟨i9.refl _,wf (k2.tup hsq)⟩
theorem rG{pins:List (Addr×Obj)}{σ:L2.St}{H:Hp}{s:Shared}(I:L2.Inv X pins σ H s):∀{ks:List (Int×Int)} {kas:List Addr} {xs:List V} {qs:List (List Key×Addr×Value)},l9 X.K H ks kas->rW (ks.zip (kas.zip xs)) qs->∀x∈qs,(tupleKind (je X.prog X.w)).is s.heap x.1 x.2.1
 | [],_,_,_,_,r,x,hx=>by
  rw[List.zip_nil_left] at r
  cases r
  cases hx
 | k::ks,_,[],_,h,r,x,hx=>by
  obtain⟨a,r',rfl,q,t⟩:=h
  cases r
  cases hx
 | k::ks,_,y::ys,_,h,r,x,hx=>by
  obtain⟨a,r',rfl,q,t⟩:=h
  cases r with
  | @cons _ b _ ls e rt =>
  rcases List.mem_cons.mp hx with rfl | hx
  ·rw[e.1,e.2.1]
   exact oG I q
  ·exact rG I t rt x hx
theorem vI{K:W.Frag}{H:Hp}{j:Int×Int}:∀{ks:List (Int×Int)} {kas:List Addr} {ds:LD} {xs:List V} {qs:List (List Key×Addr×Value)} {d:D},ks.length=kas.length->rW (ks.zip (kas.zip xs)) qs->i4 K H ds xs->y9 ks ds j=some d->∃v a u,atKey qs (kk j)=some (a,u)/\RelV v u/\Rep K H d v
 | [],_,_,_,_,d,_,_,_,e=>by cases e
 | _::_,[],_,_,_,_,hl,_,_,_=>by cases hl
 | k::ks,a::kas,[],xs,qs,d,hl,h,r,e=>by cases e
 | k::ks,a::kas,d'::ds,xs,qs,d,hl,h,r,e=>by
  obtain⟨v,r',rfl,rv,rr⟩:=r
  cases h with
  | @cons _ b _ ls eb t =>
  obtain⟨kb,ab,ub⟩:=b
  cases (show kb=_ from eb.1)
  by_cases hk:k=j
  ·subst hk
   have e':some d'=some d:=by rw[<- e];exact(if_pos rfl).symm
   cases e'
   refine⟨v,ab,ub,?_,eb.2.2,rv⟩
   show((List.find? _ ((kk k,ab,ub)::ls)).map _)=_
   rw[List.find?_cons_of_pos (by simp)]
   rfl
  ·have e':y9 ks ds j=some d:=by rw[<- e];exact(if_neg hk).symm
   obtain⟨v',a',u',h1,h2,h3⟩:=vI (by simpa using hl) t rr e'
   refine⟨v',a',u',?_,h2,h3⟩
   show((List.find? _ ((kk k,ab,ub)::ls)).map _)=_
   rw[List.find?_cons_of_neg (by simpa using fun z=>hk (vK z))]
   exact h1
theorem gF{o i:Expr}{f g:R->OD}{pos:Pos}(hu:X.A.units+1<cLine)(ho:SE X o f)(hi:SE X i g)(hs:zg i:=by exact fun _ _=>rfl):SE X (.Subscript o i pos) (i6 xW f g):=by
 intro pins s σ H Q I ⟨ρ,d,er,e,q⟩
 obtain⟨x,e1,e⟩:=i5 e
 obtain⟨y,e2,e⟩:=i5 e
 refine tE PySem.F.slot_dict_getitem.lookup hs (jC (ho pins s σ H (fun v H1=>i9 H H1/\Rep X.K H1 x v) I ⟨ρ,x,er,e1,fun v H1 s1 r1=>⟨s1,r1⟩⟩) fun u s1 ⟨v,H1,I1,rv,s01,rx⟩=>?_)
 match x,y,e,e2,rx with
 | .dcp ks dd,.tup [.int k1,.int k2],e,e2,rx =>
 obtain⟨b,kas,xs,rfl,hD,r⟩:=rx
 cases rv
 refine jC (hi pins s1 σ H1 (fun v H2=>i9 H1 H2/\Rep X.K H2 (.tup [.int k1,.int k2]) v) I1 ⟨ρ,_,er.mono s01,e2,fun v H2 s2 r2=>⟨s2,r2⟩⟩) fun iv s2 ⟨y,H2,I2,ry,s12,rk⟩=>?_
 rcases mB (k:=.inr (k1,k2)) rk with ⟨_,ee,_⟩ | ⟨p',ka,ee,rfl,hq2⟩
 ·cases ee
 cases ee
 cases (show iv=_ from ry)
 obtain⟨⟨hm,hk,hl⟩,ob,P,w,hq,tt⟩:=hD.to (fun _ _=>vM s12) fun o u z=>s12 _ _ z
 obtain⟨_,qs,es,ep,hp,hx,hdat,hes,hnd⟩:=tt.any X.prog X.w
 have g:s2.heap.get? b=some ob:=(I2.hok b _ hq).1
 have ddH:s2.heap.DictOfH (tupleKind (je X.prog X.w)) b qs:=⟨ob,es,ep,g,hx,hdat,hes,rG I2 hk hp,hnd⟩
 obtain⟨v',a',u',h1,h2,h3⟩:=vI (ni hk) hp (r.mono s12) e
 exact⟨ddH.typeIs,wpAny_getItem_heap (tupleKind_room_in1 hu) (oG I2 hq2) ddH h1 ⟨v',H2,I2.tok _,h2,q v' H2 (s01.trans s12) h3⟩⟩
end
abbrev ZK(h:Heap)(z TI TO T:Addr)(f:Bool):Prop:=h.get? z=some {cls:=.type "zip",dict:=none,data:=.fields #[rawInt T,.bool f,.bool false,.ref TI,.ref TO],slots:=#[]}
section
variable{prog:Program}{w:World}{A:Around}{E:Value->Shared->Prop}{s:Shared}
variable{Good:Heap->Nat->Prop}{z TI TO i1 i2 T:Addr}{f:Bool}{st1 st1' st2 st2':Heap->Prop}{P1 P2:Value->Prop}
theorem tS{Q:Bool->Shared->Prop}(hz:ZK s.heap z TI TO T f){oT:Obj}(hT:s.heap.get? T=some oT)(h:∀h',ZK h' z TI TO T true->Heap.SameBut z s.heap h'->Q false {s with heap:=h' }):wpAny (model prog w) A (Builtin.SmallTypes.ownedTupleIsFree (.ref z)) Q E s:=by
 unfold Builtin.SmallTypes.ownedTupleIsFree
 refine wpAny_bind (wpAny_field hz rfl (x:=rawInt T) rfl ?_)
 show wpAny _ _ (loadIfAlive T >>= _) _ _ s
 refine wpAny_bind (W.kdx_alive hT ?_)
 simp only[Option.isNone_some,Bool.false_eq_true,if_false]
 refine wpAny_bind (wpAny_field hz rfl (x:=.bool f) rfl ?_)
 cases f with
 | true =>
  simp
  exact wpAny_pure (h s.heap hz (Heap.SameBut.refl ..))
 | false =>
  simp
  refine wpAny_bind (wpAny_setField_rec hz (by simp) fun h1 hz1 s1=>?_)
  exact wpAny_pure (h h1 hz1 s1)
theorem fQ {Q:Value->Shared->Prop} (D:Ap z TI TO i1 i2) (hz:ZK s.heap z TI TO T f) {oT:Obj} (hT:s.heap.get? T=some oT) (hI:IsPair s.heap TI (.ref i1) (.ref i2))
    (g0:Good s.heap s.toks) (cl:Cl Good [z,i1,i2]) (n1:Nx prog w A (jR s) Good i1 st1 st1' P1) (n2:Nx prog w A (jR s) Good i2 st2 st2' P2) (q1:st1 s.heap) (q2:st2 s.heap)
    (hQ:∀h5 tk u1 u2,Good h5 tk->P1 u1->P2 u2->ZK h5 z TI TO T true->IsPair h5 TI (.ref i1) (.ref i2)->st1' h5->st2' h5->(∀c o,c≠z->c≠i1->c≠i2->s.heap.get? c=some o->h5.get? c=some o) ->
      Q (.ref h5.objs.size) (jR s (h5.push {cls:=.type "tuple",data:=.seq #[u1,u2]}) tk)) :
    wpAny (model prog w) A (Builtin.«zip.__next__» ⟨[.ref z],[]⟩) (fun fin s'=>∃v,fin=.done (.ret v)/\Q v s') E s:=by
  show wpAny _ _ (field (.ref z) 2 >>= _) _ _ _;refine wpAny_bind (wpAny_field hz rfl (x:=.bool false) rfl ?_)
  show wpAny _ _ (field (.ref z) 3 >>= _) _ _ _;refine wpAny_bind (wpAny_field hz rfl (x:=.ref TI) rfl ?_)
  refine wpAny_bind (wpAny_seqItems hI rfl ?_);show wpAny _ _ (Builtin.SmallTypes.ownedTupleIsFree (.ref z) >>= _) _ _ _
  refine wpAny_bind (tS hz hT fun h1 hz1 s1=>?_)
  have e1:∀b o,b≠z->s.heap.get? b=some o->h1.get? b=some o:=s1.extBut
  have g1:Good h1 s.toks:=cl z (by simp) _ _ _ _ g0 e1
  simp only[Bool.false_eq_true,if_false]
  refine wpAny_bind ?_
  rw[<- Array.forIn_toList]
  simp only[List.forIn_cons,List.forIn_nil]
  refine wpAny_bind (wpAny_bind (wpAny_holding ?_));show wpAny _ _ (Builtin.SmallTypes.nextOf (.ref i1) >>= _) _ _ _
  refine wpAny_bind (n1.run h1 s.toks _ _ g1 (n1.stay _ _ q1 fun o=>e1 _ o D.a3) fun u1 h2 tk2 p1 t1 s2=>wpAny_pure ?_)
  have e2:∀b o,b≠i1->h1.get? b=some o->h2.get? b=some o:=s2.extBut
  have g2:Good h2 tk2:=cl i1 (by simp) _ _ _ _ g1 e2
  refine wpAny_pure ?_
  refine wpAny_bind (wpAny_bind (wpAny_holding ?_));show wpAny _ _ (Builtin.SmallTypes.nextOf (.ref i2) >>= _) _ _ (jR s h2 tk2)
  refine wpAny_bind (n2.run h2 tk2 _ _ g2 (n2.stay _ _ q2 fun o q=>e2 _ o D.b1.symm (e1 _ o D.a4 q)) fun u2 h4 tk4 p2 t2 s4=>wpAny_pure ?_)
  have e4:∀b o,b≠i2->h2.get? b=some o->h4.get? b=some o:=s4.extBut
  have g4:Good h4 tk4:=cl i2 (by simp) _ _ _ _ g2 e4
  refine wpAny_pure (wpAny_pure ?_)
  show wpAny _ _ (newTuple [u1,u2] >>= _) _ _ _
  refine wpAny_bind (wpAny_newTuple (s:=jR s h4 tk4) ?_)
  refine wpAny_pure ⟨_,rfl,hQ h4 tk4 u1 u2 g4 p1 p2 (e4 _ _ D.a4.symm (e2 _ _ D.a3.symm hz1)) (e4 _ _ D.a7 (e2 _ _ D.a6 (e1 _ _ D.a1 hI))) (n1.stay' _ _ t1 fun o q=>e4 _ o D.b1 q) t2 fun c o n1 n2 n3 q=>e4 _ _ n3 (e2 _ _ n2 (e1 _ _ n1 q))⟩
theorem fJ{Q:Fin->Shared->Prop}(D:Ap z TI TO i1 i2)(hz:ZK s.heap z TI TO T f){oT:Obj}(hT:s.heap.get? T=some oT)(hI:IsPair s.heap TI (.ref i1) (.ref i2))
  (g0:Good s.heap s.toks) (cl:Cl Good [z,i1,i2]) (q1:st1 s.heap) (n:Ne prog w A (jR s) Good i1 st1)
  (hE:∀h' tk e,Good h' tk->(∀c o,c≠z->c≠i1->s.heap.get? c=some o->h'.get? c=some o)->(∃o,h'.get? e=some o/\o.cls=.type "StopIteration")->E (.ref e) (jR s h' tk)) :
  wpAny (model prog w) A (Builtin.«zip.__next__» ⟨[.ref z],[]⟩) Q E s:=by
 show wpAny _ _ (field (.ref z) 2 >>= _) _ _ _;refine wpAny_bind (wpAny_field hz rfl (x:=.bool false) rfl ?_)
 show wpAny _ _ (field (.ref z) 3 >>= _) _ _ _;refine wpAny_bind (wpAny_field hz rfl (x:=.ref TI) rfl ?_)
 refine wpAny_bind (wpAny_seqItems hI rfl ?_);show wpAny _ _ (Builtin.SmallTypes.ownedTupleIsFree (.ref z) >>= _) _ _ _
 refine wpAny_bind (tS hz hT fun h1 hz1 s1=>?_)
 have e1:∀b o,b≠z->s.heap.get? b=some o->h1.get? b=some o:=s1.extBut
 have g1:Good h1 s.toks:=cl z (by simp) _ _ _ _ g0 e1
 simp only[Bool.false_eq_true,if_false]
 refine wpAny_bind ?_
 rw[<- Array.forIn_toList]
 simp only[List.forIn_cons,List.forIn_nil]
 refine wpAny_bind (wpAny_bind (wpAny_holding ?_));show wpAny _ _ (Builtin.SmallTypes.nextOf (.ref i1) >>= _) _ _ _
 refine wpAny_bind (n.run h1 s.toks _ _ g1 (n.stay _ _ q1 fun o=>e1 _ o D.a3) fun h2 e s2 he=>?_)
 exact hE h2 s.toks e (cl i1 (by simp) _ _ _ s.toks g1 s2) (fun c o n1 n2 q=>s2 _ _ n2 (e1 _ _ n1 q)) he
theorem fK {Q:Value->Shared->Prop} (D:Ap z TI TO i1 i2) (hz:ZK s.heap z TI TO T f) {oT:Obj} (hT:s.heap.get? T=some oT) (hI:IsPair s.heap TI (.ref i1) (.ref i2))
    (g0:Good s.heap s.toks) (cl:Cl Good [z,i1,i2]) (n1:Nx prog w A.in1 (jR s) Good i1 st1 st1' P1) (n2:Nx prog w A.in1 (jR s) Good i2 st2 st2' P2) (q1:st1 s.heap) (q2:st2 s.heap)
    (hQ:∀h5 tk u1 u2,Good h5 tk->P1 u1->P2 u2->ZK h5 z TI TO T true->IsPair h5 TI (.ref i1) (.ref i2)->st1' h5->st2' h5->(∀c o,c≠z->c≠i1->c≠i2->s.heap.get? c=some o->h5.get? c=some o) ->
      Q (.ref h5.objs.size) (jR s (h5.push {cls:=.type "tuple",data:=.seq #[u1,u2]}) tk)) :
    wpAny (model prog w) A (pyNext (.ref z)) (fun r s'=>∃v,r=some v/\Q v s') E s:=by
  have hT':s.TypeIs (.ref z) "zip":=⟨_,hz,rfl⟩
  unfold pyNext
  exact wpAny_bind (wpAny_attempt (wpAny_callSpecial?_slot (name:=oS "__next__") hT' F.slot_zip_next (wpAny_call_entry F.slot_zip_next hT' F.entry_zip_next
      (fQ (Q:=fun v s'=>_) D hz hT hI g0 cl n1 n2 q1 q2 fun h5 tk u1 u2 c1 c2 c3 c4 c5 c6 c7 c8=>wpAny_pure ⟨_,rfl,hQ h5 tk u1 u2 c1 c2 c3 c4 c5 c6 c7 c8⟩) (F.args_zip_next_1 _))))
theorem gv{Q:Option Value->Shared->Prop}(D:Ap z TI TO i1 i2)(hz:ZK s.heap z TI TO T f){oT:Obj}(hT:s.heap.get? T=some oT)(hI:IsPair s.heap TI (.ref i1) (.ref i2))
  (g0:Good s.heap s.toks) (cl:Cl Good [z,i1,i2]) (q1:st1 s.heap) (n:Ne prog w A.in1 (jR s) Good i1 st1)
  (hQ:∀h' tk,Good h' tk->(∀c o,c≠z->c≠i1->s.heap.get? c=some o->h'.get? c=some o)->Q none (jR s h' tk)):wpAny (model prog w) A (pyNext (.ref z)) Q E s:=by
 have hT':s.TypeIs (.ref z) "zip":=⟨_,hz,rfl⟩
 unfold pyNext
 refine wpAny_bind (wpAny_attempt (wpAny_callSpecial?_slot (name:=oS "__next__") hT' F.slot_zip_next (wpAny_call_entry F.slot_zip_next hT' F.entry_zip_next
  (fJ D hz hT hI g0 cl q1 n fun h' tk e gg kk he=>?_) (F.args_zip_next_1 _))))
 obtain⟨o,ho,hc⟩:=he
 exact wpAny_bind (wpAny_isInstance (s:=jR s h' tk) (T:="StopIteration") (b:=true) ⟨o,ho,hc⟩ isSubtype_stop (wpAny_pure (hQ _ _ gg kk)))
end
end HW
namespace HW
open PySem PySem.Calls PySem.Spec PyProof.Rows L2
theorem eN:typeLookup (.type "zip") "__len__" = pure none:=by rw[typeLookup_type,builtinLookup_eq_fast];kernel_rfl
theorem el:typeLookup (.type "zip") "__length_hint__" = pure none:=by rw[typeLookup_type,builtinLookup_eq_fast];kernel_rfl
abbrev mR(its:List Value)(k:Nat):Obj:={cls:=.type "list",data:=.seq its.toArray k}
section
variable{X:Cx}{pins:List (Addr×Obj)}{σ:L2.St}{H1:Hp}{xs ys:LD}{S T:Src}{z TI TO i1 i2 L:Addr}
def A3(z TI TO i1 i2 L:Addr)(i:Nat)(h:Heap):Prop:=(i=0/\IsZip h z TI TO .none)\/(0<i/\∃T f o,ZK h z TI TO T f/\h.get? T=some o/\T≠z/\T≠i1/\T≠i2/\T≠L)
structure BD (X:Cx) (pins:List (Addr×Obj)) (σ:L2.St) (H1:Hp) (xs ys:LD) (S T:Src) (z TI TO i1 i2 L:Addr) (i:Nat) (H:Hp) (vs:List V) (its:List Value) (k:Nat) (s:Shared):Prop where
 I:L2.Inv X pins σ H s
 same:i9 H1 H
 zs:A3 z TI TO i1 i2 L i s.heap
 hI:IsPair s.heap TI (.ref i1) (.ref i2)
 hO:∃a b,IsPair s.heap TO a b
 a1:S.at i1 i s.heap
 a2:T.at i2 i s.heap
 fr:∀c ∈ [z,TI,TO,i1,i2,L],H c=none
 lst:s.heap.get? L=some (mR its k)
 vals:jg vs its
 reps:i4 X.K H ((lb xs ys).take i) vs
theorem nR{prog:Program}{w:World}{A:Around}{mk:Heap->Nat->Shared}{Good Good':Heap->Nat->Prop}{it:Addr}{st st':Heap->Prop}{P:Value->Prop}(n:Nx prog w A mk Good it st st' P)(h:∀h tk,Good' h tk->Good h tk):Nx prog w A mk Good' it st st' P:=⟨n.stay,n.stay',fun h' tk Q E g=>n.run h' tk Q E (h _ _ g)⟩
variable(D:Ap z TI TO i1 i2)(hL:L≠z/\L≠TI/\L≠TO/\L≠i1/\L≠i2)(hfp:∀c ∈ [z,TI,TO,i1,i2,L],la X pins H1 c)(dS:sF X.K H1 xs S)(dT:sF X.K H1 ys T)(hlen:xs.length=ys.length)
include D hL hfp dS dT hlen
theorem wC{A:Around}{E:Value->Shared->Prop}{i:Nat}{H:Hp}{vs:List V}{its:List Value}{k:Nat}{s:Shared}(q:BD X pins σ H1 xs ys S T z TI TO i1 i2 L i H vs its k s)(hi:i<xs.length) :
  wpAny (model X.prog X.w) A (pyNext (.ref z)) (fun r s'=>∃v u H',r=some u/\RelV v u/\L2.Inv X pins σ H' s'/\i9 H H'/\A3 z TI TO i1 i2 L (i+1) s'.heap/\IsPair s'.heap TI (.ref i1) (.ref i2)/\(∃a b,IsPair s'.heap TO a b)/\S.at i1 (i+1) s'.heap/\T.at i2 (i+1) s'.heap/\(∀c ∈ [z,TI,TO,i1,i2,L],H' c=none)/\s'.heap.get? L=some (mR its k)/\i4 X.K H' ((lb xs ys).take (i+1)) (vs++[v])) E s:=by
 obtain⟨I,same,zs,hI,⟨oa,ob,hO⟩,a1,a2,fr,lst,vals,reps⟩:=q
 obtain⟨l1,l2,l3,l4,l5⟩:=hL
 obtain⟨v,g1,r1⟩:=mF dS (Kp.of same) (List.getElem?_eq_getElem hi)
 obtain⟨u,g2,r2⟩:=mF dT (Kp.of same) (List.getElem?_eq_getElem (show i<ys.length by omega))
 have cl0:∀c ∈ [z,TI,TO,i1,i2],∀h tk h' tk',(L2.Inv X pins σ H (jR s h tk)/\h.get? L=some (mR its k))->(∀b o,b≠c->h.get? b=some o->h'.get? b=some o)->(L2.Inv X pins σ H (jR s h' tk')/\h'.get? L=some (mR its k)):=fun c hc h tk h' tk' ⟨J,jl⟩ kp=>by
  have hc':c ∈ [z,TI,TO,i1,i2,L]:=by simp only[List.mem_cons,List.not_mem_nil,or_false] at hc ⊢;rcases hc with rfl | rfl | rfl | rfl | rfl<;>simp
  obtain⟨f0,f1,f2,f3,f4,f5⟩:=hfp c hc'
  refine⟨J.turned (t':=tk') kp (fr c hc') f1 f3 f4 f5,kp _ _ ?_ jl⟩
  simp only[List.mem_cons,List.not_mem_nil,or_false] at hc
  rcases hc with rfl | rfl | rfl | rfl | rfl<;>assumption
 have row:(lb xs ys).take (i+1)=(lb xs ys).take i++[.tup [xs[i],ys[i]]]:=by
  rw[List.take_add_one]
  congr 1
  unfold lb
  rw[List.getElem?_zipWith,List.getElem?_eq_getElem hi,List.getElem?_eq_getElem (show i<ys.length by omega)];rfl
 have fin:∀(h5:Heap) (h9:Heap) (tk:Nat) (u1 u2:Value),(L2.Inv X pins σ H (jR s h5 tk)/\h5.get? L=some (mR its k))->RelV v u1->RelV u u2->(∀c o,c≠z->(h5.push {cls:=.type "tuple",data:=.seq #[u1,u2]}).get? c=some o->h9.get? c=some o)->(∃oz,h5.get? z=some oz)->IsPair h5 TI (.ref i1) (.ref i2)->(∃a b,IsPair h5 TO a b)->S.at i1 (i+1) h5->T.at i2 (i+1) h5 ->
   L2.Inv X pins σ (upd H h5.objs.size (.tup [v,u])) (jR s h9 tk)/\i9 H (upd H h5.objs.size (.tup [v,u]))/\IsPair h9 TI (.ref i1) (.ref i2)/\(∃a b,IsPair h9 TO a b)/\S.at i1 (i+1) h9/\T.at i2 (i+1) h9/\(∀c ∈ [z,TI,TO,i1,i2,L],(upd H h5.objs.size (.tup [v,u])) c=none)/\h9.get? L=some (mR its k)/\i4 X.K (upd H h5.objs.size (.tup [v,u])) ((lb xs ys).take (i+1)) (vs++[.ref h5.objs.size])/\h5.objs.size≠z/\h5.objs.size≠i1/\h5.objs.size≠i2/\h5.objs.size≠L/\∃o,h9.get? h5.objs.size=some o:=fun h5 h9 tk u1 u2 ⟨G5,L5⟩ p1 p2 k9 ⟨oz,z5⟩ I5 ⟨b1,b2,O5⟩ t1 t2=>by
  have hn:H h5.objs.size=none:=G5.hok.fresh (Nat.le_refl _)
  have lt:∀{c o},h5.get? c=some o->c≠h5.objs.size:=fun e=>Nat.ne_of_lt (Heap.lt_size e)
  have J6:L2.Inv X pins σ (upd H h5.objs.size (.tup [v,u])) {jR s h5 tk with heap:=h5.push {cls:=.type "tuple",data:=.seq #[u1,u2]},toks:=tk}:=
   G5.laid (t':=tk) (fun b u e=>Heap.get?_push_of_some _ e) (Nat.le_refl _) ⟨show 2<=sizeLine by decide,[u1,u2],.cons p1 (.cons p2 .nil),⟨_,Heap.get?_push_size _ rfl,rfl,⟨_,rfl⟩,rfl⟩⟩
  obtain⟨f0,f1,f2,f3,f4,f5⟩:=hfp z (by simp)
  have J9:L2.Inv X pins σ (upd H h5.objs.size (.tup [v,u])) (jR s h9 tk):=J6.turned (t':=tk) k9 (by rw[ai (lt z5)];exact fr z (by simp)) f1 f3 f4 f5
  have up:∀c o,c≠z->h5.get? c=some o->h9.get? c=some o:=fun c o n e=>k9 c o n (Heap.get?_push_of_some _ e)
  have sm:=aM hn (.tup [v,u])
  obtain⟨o1,e1,_⟩:=Src.obj_at t1
  obtain⟨o2,e2,_⟩:=Src.obj_at t2
  refine⟨J9,sm,up _ _ D.a1 I5,⟨b1,b2,up _ _ D.a2 O5⟩,Src.keep t1 fun o=>up _ o D.a3,Src.keep t2 fun o=>up _ o D.a4,fun c hc=>?_,up _ _ l1 L5,?_,Ne.symm (lt z5),Ne.symm (lt e1),Ne.symm (lt e2),Ne.symm (lt L5),⟨_,k9 _ _ (Ne.symm (lt z5)) (Heap.get?_push_size _ rfl)⟩⟩
  ·have lv:∃o,h5.get? c=some o:=by
    simp only[List.mem_cons,List.not_mem_nil,or_false] at hc
    rcases hc with rfl | rfl | rfl | rfl | rfl | rfl
    ·exact⟨_,z5⟩
    ·exact⟨_,I5⟩
    ·exact⟨_,O5⟩
    ·exact⟨_,e1⟩
    ·exact⟨_,e2⟩
    ·exact⟨_,L5⟩
   obtain⟨o,e⟩:=lv
   rw[ai (lt e)]
   exact fr c hc
  ·rw[row]
   exact(reps.mono sm).append (i4.one ⟨_,_,rfl,kr.of ae,v,[u],rfl,r1.mono sm,u,[],rfl,r2.mono sm,rfl⟩)
 rcases zs with ⟨rfl,hz⟩ | ⟨hi0,T0,f0,o0,hz,hT0,n1,n2,n3,n4⟩
 ·refine jC (cS (Good:=fun h tk=>L2.Inv X pins σ H (jR s h tk)/\h.get? L=some (mR its k)) (Q:=fun w s'=>∃v H',RelV v w/\L2.Inv X pins σ H' s'/\i9 H H'/\A3 z TI TO i1 i2 L (0+1) s'.heap/\IsPair s'.heap TI (.ref i1) (.ref i2)/\(∃a b,IsPair s'.heap TO a b)/\S.at i1 (0+1) s'.heap/\T.at i2 (0+1) s'.heap/\(∀c ∈ [z,TI,TO,i1,i2,L],H' c=none)/\s'.heap.get? L=some (mR its k)/\i4 X.K H' ((lb xs ys).take (0+1)) (vs++[v])) D hz hI hO ⟨I,lst⟩
   (fun c hc h tk h' tk' g kp=>cl0 c (by simp only[List.mem_cons,List.not_mem_nil,or_false] at hc ⊢;rcases hc with rfl | rfl | rfl | rfl<;>simp) h tk h' tk' g kp) (nR (bS g1) fun _ _ g=>g.1) (nR (bS g2) fun _ _ g=>g.1) a1 a2 fun h5 tk u1 u2 h8 G5 p1 p2 z5 I5 O5 t1 t2 z8 k8=>?_) fun r s' ⟨w,e,v',H',c1,c2,c3,c4,c5,c6,c7,c8,c9,c10,c11⟩=>⟨v',w,H',e,c1,c2,c3,c4,c5,c6,c7,c8,c9,c10,c11⟩
  obtain⟨d1,d2,d3,d4,d5,d6,d7,d8,d9,m1,m2,m3,m4,o9,e9⟩:=fin h5 h8 tk u1 u2 G5 p1 p2 k8 ⟨_,z5⟩ I5 ⟨_,_,O5⟩ t1 t2
  exact⟨.ref h5.objs.size,_,rfl,d1,d2,.inr ⟨by omega,h5.objs.size,false,o9,z8,e9,m1,m2,m3,m4⟩,d3,d4,d5,d6,d7,d8,d9⟩
 ·refine jC (fK (Good:=fun h tk=>L2.Inv X pins σ H (jR s h tk)/\h.get? L=some (mR its k)) (Q:=fun w s'=>∃v H',RelV v w/\L2.Inv X pins σ H' s'/\i9 H H'/\A3 z TI TO i1 i2 L (i+1) s'.heap/\IsPair s'.heap TI (.ref i1) (.ref i2)/\(∃a b,IsPair s'.heap TO a b)/\S.at i1 (i+1) s'.heap/\T.at i2 (i+1) s'.heap/\(∀c ∈ [z,TI,TO,i1,i2,L],H' c=none)/\s'.heap.get? L=some (mR its k)/\i4 X.K H' ((lb xs ys).take (i+1)) (vs++[v])) D hz hT0 hI ⟨I,lst⟩
   (fun c hc h tk h' tk' g kp=>cl0 c (by simp only[List.mem_cons,List.not_mem_nil,or_false] at hc ⊢;rcases hc with rfl | rfl | rfl<;>simp) h tk h' tk' g kp) (nR (bS g1) fun _ _ g=>g.1) (nR (bS g2) fun _ _ g=>g.1) a1 a2 fun h5 tk u1 u2 G5 p1 p2 z5 I5 t1 t2 k5=>?_) fun r s' ⟨w,e,v',H',c1,c2,c3,c4,c5,c6,c7,c8,c9,c10,c11⟩=>⟨v',w,H',e,c1,c2,c3,c4,c5,c6,c7,c8,c9,c10,c11⟩
  obtain⟨d1,d2,d3,d4,d5,d6,d7,d8,d9,m1,m2,m3,m4,o9,e9⟩:=fin h5 (h5.push {cls:=.type "tuple",data:=.seq #[u1,u2]}) tk u1 u2 G5 p1 p2 (fun c o n e=>e) ⟨_,z5⟩ I5 ⟨_,_,k5 _ _ D.a2 D.a8 D.a9 hO⟩ t1 t2
  exact⟨.ref h5.objs.size,_,rfl,d1,d2,.inr ⟨by omega,T0,true,o0,Heap.get?_push_of_some _ z5,Heap.get?_push_of_some _ (k5 _ _ n1 n2 n3 hT0),n1,n2,n3,n4⟩,d3,d4,d5,d6,d7,d8,d9⟩
theorem yQ{A:Around}{E:Value->Shared->Prop}(hh:A.handled=none){i:Nat}{H:Hp}{vs:List V}{its:List Value}{k:Nat}{s:Shared}{Q:Option Value->Shared->Prop}(q:BD X pins σ H1 xs ys S T z TI TO i1 i2 L i H vs its k s)(hi:i=xs.length)(h0:0<i)
  (hQ:∀s',L2.Inv X pins σ H s'->s'.heap.get? L=some (mR its k)->Q none s'):wpAny (model X.prog X.w) A (pyNext (.ref z)) Q E s:=by
 obtain⟨I,same,zs,hI,⟨oa,ob,hO⟩,a1,a2,fr,lst,vals,reps⟩:=q
 obtain⟨l1,l2,l3,l4,l5⟩:=hL
 rcases zs with ⟨rfl,_⟩ | ⟨_,T0,f0,o0,hz,hT0,n1,n2,n3,n4⟩
 ·omega
 refine gv (Good:=fun h tk=>L2.Inv X pins σ H (jR s h tk)) (st1:=fun h=>S.at i1 i h) D hz hT0 hI I (fun c hc h tk h' tk' J kp=>?_) a1 (eE hh (mV dS (Kp.of same) (Nat.le_of_eq hi.symm))) fun h' tk G kk=>hQ _ G (kk _ _ l1 l4 lst)
 have hc':c ∈ [z,TI,TO,i1,i2,L]:=by simp only[List.mem_cons,List.not_mem_nil,or_false] at hc ⊢;rcases hc with rfl | rfl | rfl<;>simp
 obtain⟨f0,f1,f2,f3,f4,f5⟩:=hfp c hc'
 exact J.turned (t':=tk') kp (fr c hc') f1 f3 f4 f5
theorem xR{A:Around}{R':Result->Shared->Prop}{res:Value}(hh:A.in1.handled=none)(hz1:xs.length<=1000)(hn:0<xs.length)(hR:∀H vs its k s',L2.Inv X pins σ H s'->i9 H1 H->H L=none->s'.heap.get? L=some (mR its k)->jg vs its->i4 X.K H (lb xs ys) vs->R' (.ok (.ret res)) s'):∀(m i:Nat) (H:Hp) (vs:List V) (its:List Value) (k:Nat) (s:Shared),xs.length - i=m->i<=xs.length->BD X pins σ H1 xs ys S T z TI TO i1 i2 L i H vs its k s ->
  codeAny (model X.prog X.w) A (.builtin "list.extend.loop" ⟨[.ref L,.ref z,res],[]⟩) R' s:=by
 intro m
 induction m with
 | zero =>
  intro i H vs its k s hk hi q
  refine codeAny_builtin F.entry_extend_loop ?_;rw[Around.under_plainId F.plain_extend_loop _];show wpAny _ A.in1 (pyNext (.ref z) >>= _) _ _ s
  refine wpAny_bind (yQ D hL hfp dS dT hlen hh q (by omega) (by omega) fun s' I' l'=>wpAny_pure (hR H vs its k s' I' q.same (q.fr L (by simp)) l' q.vals ?_))
  have:=q.reps
  rw[List.take_of_length_le (by rw[lH];omega)] at this
  exact this
 | succ m ih =>
  intro i H vs its k s hk hi q
  refine codeAny_builtin F.entry_extend_loop ?_;rw[Around.under_plainId F.plain_extend_loop _];show wpAny _ A.in1 (pyNext (.ref z) >>= _) _ _ s
  refine wpAny_bind (wpAny_mono (wC D hL hfp dS dT hlen q (by omega)) ?_ fun _ _ e=>e)
  rintro _ s' ⟨v,u,H',rfl,ru,I',sm,zs',hI',hO',a1',a2',fr',lst',reps'⟩
  have hvl:=q.vals.length
  have hvn:vs.length<=i:=by rw[<- q.reps.length,List.length_take];omega
  have z9:1000<=sizeLine:=by decide
  show wpAny _ A.in1 (updateSeq L (·.push u) >>= _) _ _ _
  refine wpAny_bind ?_
  refine wpAny_updateSeq lst' rfl (wpAny_pure ⟨plainId_quiet F.plain_extend_loop _,ih (i+1) H' (vs++[v]) (its++[u]) (if (its.toArray.push u).size==its.toArray.size then k else k+1) _ (by omega) (by omega) ?_⟩) (by rw[List.size_toArray];omega) (by show(its.toArray.push u).size<=sizeLine+1;rw[Array.size_push,List.size_toArray];omega)
  have oth:∀b o,b≠L->s'.heap.get? b=some o->(s'.heap.update L (Obj.mapSeq (·.push u))).get? b=some o:=fun b o hb e=>(Heap.get?_update_other _ _ (Ne.symm hb)).trans e
  obtain⟨l1,l2,l3,l4,l5⟩:=hL
  obtain⟨f0,f1,f2,f3,f4,f5⟩:=hfp L (by simp)
  refine⟨I'.turned (it:=L) (t':=s'.toks) oth (fr' L (by simp)) f1 f3 f4 f5,q.same.trans sm,?_,oth _ _ (Ne.symm l2) hI',let ⟨a,b,e⟩:=hO';⟨a,b,oth _ _ (Ne.symm l3) e⟩,Src.keep a1' fun o e=>oth _ o (Ne.symm l4) e,Src.keep a2' fun o e=>oth _ o (Ne.symm l5) e,fr',?_,q.vals.append (.cons ru .nil),reps'⟩
  ·rcases zs' with ⟨e,_⟩ | ⟨e,T0,ff,o0,hz,hT0,n1,n2,n3,n4⟩
   ·omega
   ·exact .inr ⟨e,T0,ff,o0,oth _ _ (Ne.symm l1) hz,oth _ _ n4 hT0,n1,n2,n3,n4⟩
  ·have zz:=Heap.get?_update_self (Obj.mapSeq (·.push u)) lst' rfl
   have e9:its.toArray.push u=(its++[u]).toArray:=by simp
   show _=some (mR (its++[u]) _)
   unfold mR
   rw[<- e9]
   exact zz
omit hL hfp
theorem xX{A:Around}{E:Value->Shared->Prop}{s:Shared}{Q:Value->Shared->Prop}(hh:A.handled=none)(hz1:xs.length<=1000)(hn:0<xs.length)(I:L2.Inv X pins σ H1 s)(hfz:∀c ∈ [z,TI,TO,i1,i2],la X pins H1 c)(hz:IsZip s.heap z TI TO .none)(hI:IsPair s.heap TI (.ref i1) (.ref i2))(hO:∃a b,IsPair s.heap TO a b)(a1:S.at i1 0 s.heap)(a2:T.at i2 0 s.heap)
  (hQ:∀H' s' l vs,L2.Inv X pins σ H' s'->i9 H1 H'->H' l=some (.lst vs)->i4 X.K H' (lb xs ys) vs->Q (.ref l) s'):wpAny (model X.prog X.w) A (call (.type "list") [.ref z]) Q E s:=by
 refine callType_codes (Q₁:=fun obj s₁=>obj=.ref s.heap.objs.size/\s₁={s with heap:=s.heap.push {cls:=.type "list",data:=.seq #[]} }) PySem.F.called_list (PySem.F.typeCall_list_1 _) PySem.F.entry_list_init (code_list_new _ ⟨rfl,rfl⟩) fun obj s₁ h₁=>?_
 obtain⟨rfl,rfl⟩:=h₁
 have hS:(s.heap.push {cls:=.type "list",data:=.seq #[]}).get? s.heap.objs.size=some {cls:=.type "list",data:=.seq #[]}:=Heap.get?_push_size _ rfl
 have lv:∀{c o},s.heap.get? c=some o->c≠s.heap.objs.size:=fun e=>Nat.ne_of_lt (Heap.lt_size e)
 obtain⟨oa,ob,hO'⟩:=hO
 obtain⟨p1,e1,_⟩:=Src.obj_at a1
 obtain⟨p2,e2,_⟩:=Src.obj_at a2
 have hL:s.heap.objs.size≠z/\s.heap.objs.size≠TI/\s.heap.objs.size≠TO/\s.heap.objs.size≠i1/\s.heap.objs.size≠i2:=⟨Ne.symm (lv hz),Ne.symm (lv hI),Ne.symm (lv hO'),Ne.symm (lv e1),Ne.symm (lv e2)⟩
 have fL:la X pins H1 s.heap.objs.size:=I.fpOk (Nat.le_refl _) (I.hok.fresh (Nat.le_refl _))
 have I0:L2.Inv X pins σ H1 {s with heap:=s.heap.push {cls:=.type "list",data:=.seq #[]} }:=I.kept (t':=s.toks) fun b o e=>Heap.get?_push_of_some _ e
 have keep0:∀b o,s.heap.get? b=some o->(s.heap.push {cls:=.type "list",data:=.seq #[]}).get? b=some o:=fun b o e=>Heap.get?_push_of_some _ e
 generalize hLs:s.heap.objs.size=L at *
 generalize s.heap.push {cls:=.type "list",data:=.seq #[]}=h0 at *
 have hfp:∀c ∈ [z,TI,TO,i1,i2,L],la X pins H1 c:=fun c hc=>by
  simp only[List.mem_cons,List.not_mem_nil,or_false] at hc
  rcases hc with rfl | rfl | rfl | rfl | rfl | rfl
  ·exact hfz _ (by simp)
  ·exact hfz _ (by simp)
  ·exact hfz _ (by simp)
  ·exact hfz _ (by simp)
  ·exact hfz _ (by simp)
  ·exact fL
 obtain⟨l1,l2,l3,l4,l5⟩:=id hL
 obtain⟨f0,f1,f2,f3,f4,f5⟩:=id fL
 refine⟨⟨_,hS,rfl⟩,PySem.F.args_list_init_2 _ _,?_⟩
 show wpAny _ _ (do let old <- Builtin.List.listItems (.ref L);Builtin.List.listUpdate (.ref L) (fun _=>#[]);letGo old.toList.reverse;Builtin.List.listExtendWith (.ref L) (.ref z) .none) _ _ _
 refine wpAny_bind ?_;unfold Builtin.List.listItems;refine wpAny_bind (wpAny_seqItems (s:={s with heap:=h0}) hS rfl (wpAny_pure ?_))
 show wpAny _ _ (updateSeq L (fun _=>#[]) >>= fun _=>letGo (#[]:Array Value).toList.reverse >>= fun _=>Builtin.List.listExtendWith (.ref L) (.ref z) .none) _ _ _
 refine wpAny_bind (wpAny_updateSeq (s:={s with heap:=h0}) hS rfl ?_)
 have hS₂:=Heap.get?_update_self (Obj.mapSeq (fun _=>(#[]:Array Value))) hS rfl
 have ot:∀(h:Heap) (f:Array Value->Array Value) b o,b≠L->h.get? b=some o->(h.update L (Obj.mapSeq f)).get? b=some o:=fun h f b o hb e=>(Heap.get?_update_other _ _ (Ne.symm hb)).trans e
 refine wpAny_bind (wpAny_letGo ?_)
 generalize hh2:h0.update L (Obj.mapSeq (fun _=>(#[]:Array Value)))=h2 at *
 have k2:∀b o,b≠L->h0.get? b=some o->h2.get? b=some o:=fun b o hb e=>by rw[<- hh2];exact ot _ _ b o hb e
 have I2:=I0.turned (it:=L) (h':=h2) (t':=s.toks) k2 f0 f1 f3 f4 f5
 have hzT:Shared.TypeIs {s with heap:=h2} (.ref z) "zip":=⟨_,k2 _ _ (Ne.symm l1) (keep0 _ _ hz),rfl⟩
 unfold Builtin.List.listExtendWith
 refine wpAny_bind (wpAny_typeOf (s:={s with heap:=h2}) (T:="zip") hzT ?_)
 have h1:Builtin.List.listSameRef (.ref L) (.ref z)=false:=by simp[Builtin.List.listSameRef,l1]
 simp only[h1,show(Value.type "zip" == Value.type "list")=false by decide,show(Value.type "zip" == Value.type "tuple")=false by decide,Bool.or_false,Bool.false_eq_true,if_false]
 refine wpAny_bind (wpAny_pyIter_zip (s:={s with heap:=h2}) (k2 _ _ (Ne.symm l1) (keep0 _ _ hz)) ?_)
 refine wpAny_bind (wpAny_holding ?_);unfold Builtin.List.listLengthHint
 refine wpAny_bind (wpAny_specialOf (s:={s with heap:=h2}) hzT eN ?_);show wpAny _ _ (specialOf (Value.ref z) (oS "__length_hint__") >>= _) _ _ _
 refine wpAny_bind (wpAny_specialOf (s:={s with heap:=h2}) hzT el ?_);refine wpAny_pure ?_
 show wpAny _ _ (rule "list.extend.makes-room" >>= fun _=>Builtin.List.listTouch (.ref L) >>= fun _=>again (.builtin "list.extend.loop" ⟨[.ref L,.ref z,.none],[]⟩)) _ _ _
 refine wpAny_bind (wpAny_rule ?_);refine wpAny_bind ?_
 show wpAny _ _ (updateSeq L (·.push .none) >>= fun _=>updateSeq L (·.pop)) _ _ _
 refine wpAny_bind (wpAny_updateSeq (s:={s with heap:=h2}) hS₂ rfl ?_)
 have hS₃:=Heap.get?_update_self (Obj.mapSeq (·.push Value.none)) hS₂ rfl
 refine wpAny_updateSeq (hz:=by seq_fits) (s:={s with heap:=h2.update L (Obj.mapSeq (·.push Value.none))}) hS₃ rfl ?_
 have hS₄:=Heap.get?_update_self (Obj.mapSeq (·.pop)) hS₃ rfl
 generalize hh4:(h2.update L (Obj.mapSeq (·.push Value.none))).update L (Obj.mapSeq (·.pop))=h4 at *
 have k4:∀b o,b≠L->h2.get? b=some o->h4.get? b=some o:=fun b o hb e=>by rw[<- hh4];exact ot _ _ b o hb (ot _ _ b o hb e)
 have I4:=I2.turned (it:=L) (h':=h4) (t':=s.toks) k4 f0 f1 f3 f4 f5
 have up:∀b o,b≠L->s.heap.get? b=some o->h4.get? b=some o:=fun b o hb e=>k4 _ _ hb (k2 _ _ hb (keep0 _ _ e))
 refine wpAny_pure ⟨plainId_quiet F.plain_extend_loop _,xR D hL hfp dS dT hlen (A:=A.in1) hh hz1 hn (fun H vs its k s' I' sm hl l' va rp=>?_) xs.length 0 H1 [] [] _ {s with heap:=h4} (by omega) (Nat.zero_le _) ⟨I4,i9.refl _,.inl ⟨rfl,up _ _ (Ne.symm l1) hz⟩,up _ _ (Ne.symm l2) hI,⟨oa,ob,up _ _ (Ne.symm l3) hO'⟩,Src.keep a1 fun o e=>up _ o (Ne.symm l4) e,Src.keep a2 fun o e=>up _ o (Ne.symm l5) e,fun c hc=>(hfp c hc).1,hS₄,.nil,rfl⟩⟩
 have s2:=aM hl (.lst vs)
 have fA:la X pins H L:=⟨hl,f1,f2,f3,f4,f5⟩
 have z9:1000<=sizeLine:=by decide
 have hvl:vs.length<=1000:=by rw[<- rp.length,lH];omega
 exact⟨rfl,hQ _ s' L vs (x5 (o:=.lst vs) I' fA ⟨by omega,its,k,va,l'⟩) (sm.trans s2) ae (rp.mono s2)⟩
end
section
variable{X:Cx}
theorem gT{a b:Expr}{f g:R->OD}{p p' pos pos':Pos}(hcm:X.calm=true)(hm:X.mg "list" = none)(hm':X.mg "zip" = none)(ha:SE X a f)(hb:SE X b g)(hg:Gl X "list":=by rfl)(hg':Gl X "zip":=by rfl)(hs:noStar a=true:=by rfl)(hs2:noStar b=true:=by rfl) :
  SE X (.Call (.Name "list" p) [.Call (.Name "zip" p') [a,b] [] pos'] [] pos) (B6 f g):=by
 have z2:=av [] X.env hs2
 have z1:=av [b] X.env hs
 intro pins s σ H Q I ⟨ρ,d,er,e,q⟩
 obtain⟨x,e1,e⟩:=i5 e
 obtain⟨y,e2,e⟩:=i5 e
 match x,y,e,e1,e2 with
 | .lst xs,.lst ys,e,e1,e2 =>
 dsimp only at e
 split at e
 case isFalse=>cases e
 case isTrue hz =>
 cases e
 obtain⟨hlen,h0,h1000⟩:=hz
 refine Call_ (bL I hg hm boot_list ?_)
 refine PyProof.Rows.callWith_type1 (Calls.spliced_cons ?_) rfl rfl
 refine Call_ (bL I hg' hm' (u:=.type "zip") (by kernel_rfl) ?_)
 refine PyProof.Rows.callWith_type1 (jC ((ac ha (ac hb af hs2) hs).1 pos' pins s σ H (fun vs H2=>i9 H H2/\i4 X.K H2 [.lst xs,.lst ys] vs) I ⟨ρ,[.lst xs,.lst ys],er,by show(f ρ).bind _=_;rw[e1];show((g ρ).bind _).map _=_;rw[e2];rfl,fun vs H2 s2 r2=>⟨s2,r2⟩⟩) fun us s1 ⟨vs,H1,I1,r1,s01,rp⟩=>?_) (by rw[z1,z2]) (by rw[z2];rfl)
 obtain⟨v,r,rfl,r2,r3⟩:=rp
 obtain⟨u,r',rfl,r4,r5⟩:=r3
 cases (show r'=_ from r5)
 cases r1 with
 | cons ra rr =>
  cases rr with
  | cons rb rr =>
   cases rr
   obtain⟨S,rfl,okS,dS⟩:=dj I1 (xs:=xs) rfl r2 ra
   obtain⟨T,rfl,okT,dT⟩:=dj I1 (xs:=ys) rfl r4 rb
   refine dP okS okT fun h' z TI TO i1 i2 D hz hI hO sS sT new kept=>?_
   refine Calls.spliced_nil ?_
   refine xX (s:={s1 with heap:=h' }) D dS dT hlen (I1.ok.hd hcm) h1000 h0 (I1.kept (t':=s1.toks) kept) (fun c hc=>I1.fpOk (new c hc) (I1.hok.fresh (new c hc))) hz hI ⟨_,_,hO⟩ sS sT fun H' s' l ws I' sm hl rp=>?_
   exact⟨.ref l,H',I',rfl,q _ _ (s01.trans sm) ⟨l,ws,rfl,hl,rp⟩⟩
end
end HW
namespace HW
open PySem
section
open Builtin Builtin.Str
end
end HW
namespace HW
open PySem PySem.Spec PyProof.Rows L2
abbrev yW:List (Str×Value):=[(oS "key",.builtin "len"),(oS "default",.none)]
section
variable{prog:Program}{w:World}{A:Around}{R':Result->Shared->Prop}{I:Addr}{fp wr:List Addr}{n:Nat}{St:Nat->Heap->Prop}{xs:List Str}
abbrev PK(xs:List Str)(i:Nat)(v:Value):Prop:=∃x t,xs[i]?=some x/\v=.str x t
theorem PK.get{i:Nat}{v:Value}(h:PK xs i v):∃t,v=.str (xs.getD i Str.empty) t:=by
 obtain⟨x,t,h1,rfl⟩:=h
 exact⟨t,by rw[List.getD_eq_getElem?_getD,h1];rfl⟩
theorem xx(W:Walks prog w A.in1 I fp wr n (PK xs) St)(hx:∀x∈xs,x.length<=100000)(S:Addr)(hSf:S∉fp):∀(k j:Nat) (s:Shared) (vb:Value) (tb:Tok) (c:Nat),n - (j+1)=k->j+1<=n->St (j+1) s.heap->PK xs (jI (jj xs) j) vb->yB S #[vb,.int ((xs.getD (jI (jj xs) j) Str.empty).length:Nat) tb] c s.heap ->
  (∀v h' tk,PK xs (jI (jj xs) (n - 1)) v->(∀b o,b∉wr->b≠S->s.heap.get? b=some o->h'.get? b=some o)->R' (.ok (.ret v)) {s with heap:=h',toks:=tk})->codeAny (model prog w) A (.builtin "min.loop" ⟨[.ref I,.builtin "len",.ref S],[(oS "default",.none)]⟩) R' s:=by
 have hSw:S∉wr:=fun z=>hSf (W.sub _ z)
 intro k
 induction k with
 | zero =>
  intro j s vb tb c hk hj hst hPb hS hR
  have hin:j+1=n:=by omega
  refine codeAny_builtin F.entry_min_loop ?_;rw[Around.under_plainId F.plain_min_loop _];show wpAny _ A.in1 (seqItems? (.ref S) >>= _) _ _ s
  refine wpAny_bind (wpAny_seqItems hS rfl ?_);show wpAny _ A.in1 (tryCatch (pyNext (.ref I)) _ >>= _) _ _ s
  refine wpAny_bind (wpAny_tryCatch (W.done s _ _ (hin ▸ hst) fun h1 t1 k1=>?_));have hS1:=k1 S _ hSw hS
  show wpAny _ A.in1 (updateSeq S (fun _=>#[]) >>= _) _ _ _;refine wpAny_bind (wpAny_updateSeq hS1 rfl (wpAny_bind (wpAny_letGo (wpAny_pure ?_))))
  exact hR vb _ t1 (by rw[<- hin];exact hPb) fun b o hbw hbS e=>(Heap.get?_update_other _ _ (Ne.symm hbS)).trans (k1 b o hbw e)
 | succ k ih =>
  intro j s vb tb c hk hj hst hPb hS hR
  have hlt:j+1<n:=by omega
  refine codeAny_builtin F.entry_min_loop ?_;rw[Around.under_plainId F.plain_min_loop _];show wpAny _ A.in1 (seqItems? (.ref S) >>= _) _ _ s
  refine wpAny_bind (wpAny_seqItems hS rfl ?_);show wpAny _ A.in1 (tryCatch (pyNext (.ref I)) _ >>= _) _ _ s
  refine wpAny_bind (wpAny_tryCatch (W.item (j+1) s _ _ hlt hst fun v h1 t1 hP st1 k1=>?_));have hS1:=k1 S _ hSw hS
  obtain⟨x,t,hx1,rfl⟩:=id hP
  have hxd:xs.getD (j+1) Str.empty=x:=by rw[List.getD_eq_getElem?_getD,hx1];rfl
  have hxl:x.length<=100000:=hx x (List.mem_of_getElem? hx1)
  show wpAny _ A.in1 (tryCatch (holding [Value.str x t] (call (.builtin "len") [.str x t])) _ >>= _) _ _ _
  refine wpAny_bind (wpAny_tryCatch (wpAny_holding (len_str (by omega) ?_)))
  show wpAny _ A.in1 (tryCatch (holding [_,_] (richCompare .Lt (.int (x.length:Nat) _) (.int _ tb) >>= _)) _ >>= _) _ _ _
  refine wpAny_bind (wpAny_tryCatch (wpAny_holding (wpAny_bind (CmpOf.ints_lt (prog:=prog) (w:=w) (A:=A.in1) (P:=fun i v=>∃t,v=.int ((xs.getD i Str.empty).length:Nat) t) (fun i=>((xs.getD i Str.empty).length:Nat)) (fun i v h=>h) (j+1) (jI (jj xs) j) _ _ _ _ _ ⟨_,by rw[hxd]⟩ ⟨tb,rfl⟩ ?_))))
  refine wpAny_bind (wpAny_holding (wpAny_truthy_bool ?_));refine wpAny_bind (wpAny_letGo (wpAny_pure ?_))
  have hbt:decide (((xs.getD (j+1) Str.empty).length:Int)<((xs.getD (jI (jj xs) j) Str.empty).length:Int))=jj xs (j+1) (jI (jj xs) j):=rfl
  simp only[hbt]
  cases hb:jj xs (j+1) (jI (jj xs) j) with
  | true =>
   have hnew:jI (jj xs) (j+1)=j+1:=by simp only[jI,hb,if_true]
   simp only[if_true];refine wpAny_bind (wpAny_updateSeq hS1 rfl (wpAny_bind (wpAny_letGo ?_)));rw[k6]
   refine wpAny_pure ⟨plainId_quiet F.plain_min_loop _,ih (j+1) _ (.str x t) _ _ (by omega) hlt (W.frame _ _ _ st1 fun b hbf o e=>?_) (by rw[hnew];exact hP) (by rw[hnew,hxd];exact Heap.get?_update_self _ hS1 rfl) fun v' h2 t2 hP' k2=>?_⟩
   ·refine(Heap.get?_update_other _ _ fun z:S=b=>hSf ?_).trans e;rw[z];exact hbf
   ·refine hR v' h2 t2 hP' fun b o hbw hbS e=>k2 b o hbw hbS ?_;exact(Heap.get?_update_other _ _ (Ne.symm hbS)).trans (k1 b o hbw e)
  | false =>
   have hnew:jI (jj xs) (j+1)=jI (jj xs) j:=by simp only[jI,hb,Bool.false_eq_true,if_false]
   simp only[Bool.false_eq_true,if_false];refine wpAny_bind (wpAny_letGo ?_);rw[k6]
   refine wpAny_pure ⟨plainId_quiet F.plain_min_loop _,ih (j+1) _ vb tb c (by omega) hlt st1 (by rw[hnew];exact hPb) (by rw[hnew];exact hS1) fun v' h2 t2 hP' k2=>?_⟩
   refine hR v' h2 t2 hP' fun b o hbw hbS e=>k2 b o hbw hbS ?_;exact k1 b o hbw e
theorem v5(W:Walks prog w A.in1 I fp wr n (PK xs) St)(hx:∀x∈xs,x.length<=100000)(S:Addr)(hSf:S∉fp){s:Shared}{c:Nat}(hst:St 0 s.heap)(hS:yB S #[] c s.heap)
  (h0:n=0->∀h' tk,(∀b o,b∉wr->b≠S->s.heap.get? b=some o->h'.get? b=some o)->R' (.ok (.ret .none)) {s with heap:=h',toks:=tk})
  (hR:0<n->∀v h' tk,PK xs (jI (jj xs) (n - 1)) v->(∀b o,b∉wr->b≠S->s.heap.get? b=some o->h'.get? b=some o)->R' (.ok (.ret v)) {s with heap:=h',toks:=tk}):codeAny (model prog w) A (.builtin "min.loop" ⟨[.ref I,.builtin "len",.ref S],[(oS "default",.none)]⟩) R' s:=by
 have hSw:S∉wr:=fun z=>hSf (W.sub _ z)
 refine codeAny_builtin F.entry_min_loop ?_;rw[Around.under_plainId F.plain_min_loop _];show wpAny _ A.in1 (seqItems? (.ref S) >>= _) _ _ s
 refine wpAny_bind (wpAny_seqItems hS rfl ?_);show wpAny _ A.in1 (tryCatch (pyNext (.ref I)) _ >>= _) _ _ s
 by_cases hn:0<n
 ·refine wpAny_bind (wpAny_tryCatch (W.item 0 s _ _ hn hst fun v h1 t1 hP st1 k1=>?_));have hS1:=k1 S _ hSw hS
  obtain⟨x,t,hx1,rfl⟩:=id hP
  have hxd:xs.getD 0 Str.empty=x:=by rw[List.getD_eq_getElem?_getD,hx1];rfl
  have hxl:x.length<=100000:=hx x (List.mem_of_getElem? hx1)
  show wpAny _ A.in1 (tryCatch (holding [Value.str x t] (call (.builtin "len") [.str x t])) _ >>= _) _ _ _
  refine wpAny_bind (wpAny_tryCatch (wpAny_holding (len_str (by omega) ?_)))
  show wpAny _ A.in1 (updateSeq S (fun _=>#[_,_]) >>= _) _ _ _;refine wpAny_bind (wpAny_updateSeq hS1 rfl ?_);rw[k6]
  refine wpAny_pure ⟨plainId_quiet F.plain_min_loop _,xx W hx S hSf _ 0 _ (.str x t) _ _ rfl hn (W.frame _ _ _ st1 fun b hbf o e=>?_) hP (by show yB S #[_,.int ((xs.getD 0 Str.empty).length:Nat) _] _ _;rw[hxd];exact Heap.get?_update_self _ hS1 rfl) fun v' h2 t2 hP' k2=>?_⟩
  ·refine(Heap.get?_update_other _ _ fun z:S=b=>hSf ?_).trans e;rw[z];exact hbf
  ·refine hR hn v' h2 t2 hP' fun b o hbw hbS e=>k2 b o hbw hbS ?_;exact(Heap.get?_update_other _ _ (Ne.symm hbS)).trans (k1 b o hbw e)
 ·have hz:n=0:=by omega
  refine wpAny_bind (wpAny_tryCatch (W.done s _ _ (hz ▸ hst) fun h1 t1 k1=>?_))
  refine wpAny_bind (wpAny_rule (wpAny_pure ?_))
  exact h0 hz h1 t1 fun b o hbw hbS e=>k1 b o hbw e
end
section
variable{prog:Program}{w:World}{A:Around}{E:Value->Shared->Prop}{s:Shared}
theorem ur(a:Value):argsOk "min" ⟨[a],yW⟩:=by unfold argsOk;kernel_rfl
theorem fP{l:Addr}{its:List Value}{xs:List Str}{Q:Value->Shared->Prop}(hh:A.handled=none)(hl:s.heap.IsList l its.toArray)(hx:∀x∈xs,x.length<=100000)(hln:its.length=xs.length)(hv:∀(i:Nat) v,its.toArray[i]?=some v->PK xs i v)
  (h0:its=[]->∀h' tk,(∀b o,s.heap.get? b=some o->h'.get? b=some o)->Q .none {s with heap:=h',toks:=tk})
  (h1:its ≠ []->∀v h' tk,PK xs (jI (jj xs) (its.length - 1)) v->(∀b o,s.heap.get? b=some o->h'.get? b=some o)->Q v {s with heap:=h',toks:=tk}) :
  wpAny (model prog w) A (call (.builtin "min") [.ref l] yW) Q E s:=by
 refine wpAny_call (codeAny_call_builtin F.plain_min F.entry_min ?_)
 simp only[checkBuiltinCall,F.kind_min]
 have main:wpAny (model prog w) A.in1 (Builtin.«min» ⟨[.ref l],yW⟩) (fun fin s'=>match fin with
   | .done f=>(match (Except.ok f:Result) with
    | .ok (.ret v)=>Q v s'
    | .ok _=>False
    | .error e=>E e s')
   | .again c'=>c'.quiet=true/\codeAny (model prog w) A c' (fun r s'=>match r with
    | .ok (.ret v)=>Q v s'
    | .ok _=>False
    | .error e=>E e s') s') E s:=by
  show wpAny _ A.in1 (Builtin.Builtins.bindParams "min" ["key","default"] 0 ⟨[],yW⟩ >>= _) _ _ s
  refine wpAny_bind (wpAny_of_eq (show Builtin.Builtins.bindParams "min" ["key","default"] 0 ⟨[],yW⟩=pure [some (.builtin "len"),some .none] from rfl) ?_)
  refine wpAny_bind (wpAny_pure (wpAny_bind (wpAny_pyIter_list hl ?_)))
  refine wpAny_bind (wpAny_newObj_type ?_)
  rw[k6]
  have hlt:l<s.heap.objs.size:=by
   obtain⟨o,e,_⟩:=hl
   exact Heap.lt_size e
  generalize hI:s.heap.objs.size=J at hlt
  generalize h1e:s.heap.push {cls:=Value.type "list_iterator",data:=Data.fields #[Value.ref l,Value.int 0 0]}=H1
  have hJ:H1.objs.size=J+1:=by rw[<- h1e,Heap.size_push,hI]
  have k1:∀b o,s.heap.get? b=some o->H1.get? b=some o:=fun b o e=>by rw[<- h1e];exact Heap.get?_push_of_some _ e
  have st1:H1.IsListIter J l 0/\H1.IsList l its.toArray:=⟨by rw[<- h1e,<- hI];exact⟨_,Heap.get?_push_size _ rfl,rfl,rfl⟩,hl.at fun o e=>k1 _ _ e⟩
  have hne:l≠J:=Nat.ne_of_lt hlt
  have hSf:H1.objs.size ∉ [J,l]:=by
   rw[hJ]
   intro z
   rcases List.mem_cons.mp z with z | z
   ·exact absurd z (Nat.ne_of_gt (Nat.lt_succ_self J))
   ·rw[<- List.mem_singleton.mp z] at hlt
    exact absurd hlt (Nat.not_lt.mpr (Nat.le_succ J))
  have W0:=Walks.list (prog:=prog) (w:=w) (A:=A.in1) hh J l hne its.toArray
  have W:Walks prog w A.in1 J [J,l] [J] its.toArray.size (PK xs) (fun i h=>h.IsListIter J l i/\h.IsList l its.toArray):=⟨W0.sub,W0.frame,fun i s Q E hi st hQ=>W0.item i s Q E hi st fun v h' tk hP=>hQ v h' tk (hv i v hP),W0.done,W0.self⟩
  have old:∀{h':Heap},(∀b o,b ∉ [J]->b≠H1.objs.size->(H1.push {cls:=Value.type "list",data:=Data.seq ([]:List Value).toArray}).get? b=some o->h'.get? b=some o)->∀b o,s.heap.get? b=some o->h'.get? b=some o:=fun {h'} kk b o e=>by
   have hb:b<J:=by rw[<- hI];exact Heap.lt_size e
   refine kk b o (fun z=>absurd (List.mem_singleton.mp z) (Nat.ne_of_lt hb)) ?_ (Heap.get?_push_of_some _ (k1 b o e))
   rw[hJ]
   exact Nat.ne_of_lt (Nat.lt_succ_of_lt hb)
  refine wpAny_pure ⟨plainId_quiet F.plain_min_loop _,v5 W hx H1.objs.size hSf (W.frame _ _ _ st1 fun b _ o e=>Heap.get?_push_of_some _ e) (Heap.get?_push_size _ rfl) (fun hz h' tk kk=>?_) fun hn v h' tk hP kk=>?_⟩
  ·exact h0 (by simpa using hz) h' tk (old kk)
  ·refine h1 (fun z=>by subst z;simp at hn) v h' tk ?_ (old kk)
   simpa using hP
 cases hsig:Manifest.signature? "min" with
 | none=>exact wpAny_pure main
 | some sig =>
  have ha:=ur (.ref l)
  simp only[argsOk,hsig] at ha
  have h2:Bind.checkArgs "min" sig ⟨[.ref l],yW⟩=pure ():=ha
  show wpAny _ A.in1 (Bind.checkArgs "min" sig ⟨[.ref l],yW⟩) _ _ s
  rw[h2]
  exact wpAny_pure main
end
section
variable{X:Cx}
theorem gE{e:Expr}{f:R->OD}{p kp kp2 p2 p3 pos:Pos}{j:Nat}(hc:X.calm=true)(hm:X.mg "min" = none)(hml:X.mg "len" = none)(he:SE X e f)(hg:Gl X "min":=by rfl)(hgl:Gl X "len":=by rfl)(hst:noStar e=true:=by rfl) :
  SE X (.Call (.Name "min" p) [e] [⟨some "key",.Name "len" p3,kp⟩,⟨some "default",.Constant .none j p2,kp2⟩] pos) (jc oK (e8 f i8)):=by
 intro pins s σ H Q I ⟨ρ,d,er,eq,q⟩
 obtain⟨ds,e1,e2⟩:=i5 eq
 have hst1:=av [] X.env hst
 refine wpAny_Call_Name_kw (bL I hg hm boot_min ?_ (by decide) (by decide))
 refine callWith_kw (jC ((ac he af hst).1 pos pins s σ H (fun vs H2=>i9 H H2/\i4 X.K H2 ds vs) I ⟨ρ,ds,er,e1,fun vs H2 s2 r2=>⟨s2,r2⟩⟩) fun us s1 ⟨vs,H1,I1,r1,s01,rp⟩=>?_) (by rw[hst1];rfl) (by rw[hst1];rfl) rfl rfl
 refine kws_cons (bL I1 hgl hml boot_len (kws_cons (Constant_none (kws_nil ?_))))
 have hh:=I1.ok.hd hc
 match ds,e2 with
 | [.lst es],e2 =>
  obtain⟨xs,e3,e4⟩:=i5 (show(nH es).bind _=some d from e2)
  split at e4
  case isFalse=>cases e4
  case isTrue hz =>
  cases e4
  obtain⟨v,r',rfl,⟨a,ws,rfl,ha,rx⟩,rr⟩:=rp
  cases (show r'=[] from rr)
  obtain⟨u,rfl,ru⟩:=r1.one
  cases (show u=_ from ru)
  obtain⟨_,its,n,rv,hl,eo⟩:=I1.lstM ha
  obtain⟨ls,hits,hls⟩:=pj e3 rx rv
  have hit:its.length=xs.length:=by rw[hits,<- hls];simp[strValues]
  have hx:∀x∈xs,x.length<=100000:=fun x hx=>by simpa using List.all_eq_true.mp hz.2 x hx
  have hv:∀(i:Nat) v,its.toArray[i]?=some v->PK xs i v:=fun i v hv=>by
   have hv':its[i]?=some v:=by simpa using hv
   rw[hits] at hv'
   unfold strValues at hv'
   rw[List.getElem?_map] at hv'
   obtain⟨p,ep,rfl⟩:=jL hv'
   exact⟨p.1,p.2,by rw[<- hls,List.getElem?_map,ep];rfl,rfl⟩
  refine fP hh ⟨_,eo,rfl,n,rfl⟩ hx hit hv (fun hz0 h' tk k=>?_) fun hz0 v h' tk hP k=>?_
  ·have hxe:xs=[]:=List.length_eq_zero_iff.mp (by rw[<- hit,hz0];rfl)
   subst hxe
   exact⟨.non,H1,I1.kept k,rfl,q _ H1 s01 rfl⟩
  ·have hxe:xs.isEmpty=false:=by
    cases xs with
    | nil=>exact absurd (List.length_eq_zero_iff.mp hit) hz0
    | cons _ _=>rfl
   rw[hit] at hP
   obtain⟨t,rfl⟩:=hP.get
   rw[hxe] at q
   exact⟨.str _,H1,I1.kept k,⟨t,rfl⟩,q _ H1 s01 rfl⟩
end
theorem vp{X:Cx}{t:lC}{ct:jW}{x y:Str}{c d:Addr}{j l:Nat}(TB:j8 X.mg [ct] X.base)(hT:X.H₀ ct.P=some (.tbl ct.q false))(tq:t.q=ct.q)(code:X.env.code=.ref ct.c)(qual:X.env.qual ++ "<lambda>" = ct.q)
  (fn:∀x,X.fn x=true) (hcl:closureFor t.scope X.env=pure [(x,c),(y,d)]) (hdf:defaultsOf t.params X.env=([],[])) (hcell:X.env.cells.lookup x=some c) (hk:X.env.scope.names.lookup x=some .cell) (hN:X.N[j]?=some x)
  (hcell2:X.env.cells.lookup y=some d) (hk2:X.env.scope.names.lookup y=some .cell) (hN2:X.N[l]?=some y) (hxy:x≠y) (hcd:c≠d)
  (kd:t.scope.kind=.function) (co:t.scope.isCoroutine=false) (gen:t.scope.isGenerator=false) (nd:t.N.Nodup) (hn:t.N=t.ps++[x,y]) (par:∀y∈t.ps,t.scope.names.lookup y=some .local) (noc:∀y∈t.scope.names,y.2≠.cell)
  (fre:t.scope.names.lookup x=some .free) (fre2:t.scope.names.lookup y=some .free) (only:∀z∈t.scope.names,z.2=.free->z.1=x\/z.1=y):rZ X t [(x,c),(y,d)] ct [j,l]:=by
 have hdr:t.N.drop t.ps.length=[x,y]:=by rw[hn,List.drop_left]
 have lk:∀z c',List.lookup z [(x,c),(y,d)]=some c'->(z=x/\c'=c)\/(z=y/\c'=d):=fun z c' h=>by
  rw[List.lookup_cons] at h
  cases q:z==x with
  | true=>rw[q] at h;cases h;exact .inl ⟨eq_of_beq q,rfl⟩
  | false =>
   rw[q] at h
   have h':List.lookup z [(y,d)]=some c':=h
   rw[List.lookup_cons] at h'
   cases q2:z==y with
   | true=>rw[q2] at h';cases h';exact .inr ⟨eq_of_beq q2,rfl⟩
   | false=>rw[q2] at h';cases h'
 have lkx:List.lookup x [(x,c),(y,d)]=some c:=by rw[List.lookup_cons];simp
 have lky:List.lookup y [(x,c),(y,d)]=some d:=by
  rw[List.lookup_cons]
  have:(y==x)=false:=by simpa using Ne.symm hxy
  rw[this]
  show List.lookup y [(y,d)]=some d
  rw[List.lookup_cons];simp
 have ndc:([(x,c),(y,d)].map (·.1)).Nodup:=by simp[hxy]
 refine⟨TB,hT,tq,code,qual,hcl,hdf,⟨fn,ndc,fun z c' h=>?_⟩,⟨kd,co,gen,nd,by rw[hn,List.take_left],par,noc,fun z hz=>?_,fun z hz=>?_,ndc,fun z w c' h1 h2=>?_⟩,by rw[hdr];simp[hN,hN2],fun z c' h=>?_⟩
 ·rcases lk z c' h with ⟨rfl,rfl⟩ | ⟨rfl,rfl⟩
  ·exact⟨hcell,hk⟩
  ·exact⟨hcell2,hk2⟩
 ·rw[hdr] at hz
  simp only[List.mem_cons,List.not_mem_nil,or_false] at hz
  rcases hz with rfl | rfl
  ·exact fre
  ·exact fre2
 ·rcases only _ (PySem.mem_of_lookup hz) rfl with h | h
  ·rw[show z=x from h];exact⟨c,lkx⟩
  ·rw[show z=y from h];exact⟨d,lky⟩
 ·rcases lk z c' h1 with ⟨a,b⟩ | ⟨a,b⟩<;>rcases lk w c' h2 with ⟨a',b'⟩ | ⟨a',b'⟩
  ·rw[a,a']
  ·exact absurd (b.symm.trans b') hcd
  ·exact absurd (b'.symm.trans b) hcd
  ·rw[a,a']
 ·rw[hdr]
  rcases lk z c' h with ⟨rfl,_⟩ | ⟨rfl,_⟩<;>simp
theorem t8{x:D}(hx:l6 x=true):∀{ys:LD},jS ys=true->((j_ ys).any fun y=>PyData.eqv y (toPy x))=ys.any fun y=>wy y x
 | [],_=>rfl
 | y::ys,h=>by
  have h':(l6 y&&jS ys)=true:=h
  rw[Bool.and_eq_true] at h'
  rw[j_,List.any_cons,List.any_cons,sJ y x h'.1 hx,t8 hx h'.2]
theorem fE{X:Cx}{k:Nat}(hr:jy k X.A):v9 X .NotIn n6:=by
 intro pins s σ H x y v u Q I rx ry h
 obtain⟨dx,dy,b,r1,r2,e,q⟩:=h
 cases dy with
 | lst ys =>
  have e':(if mQ dx<=100/\oO dx=true/\lu ys=true then some (!ys.any fun y=>wy y dx) else none)=some b:=e
  split at e'
  ·rename_i hd
   cases e'
   obtain⟨as,ra⟩:=lE I (a_ hd.2.1) r1 rx
   have hl:oO (.lst ys)=true:=hd.2.2
   obtain⟨bs,rb⟩:=lE I (a_ hl) r2 ry
   refine SeqAt.notIn_list_reads (xs:=j_ ys) rb ra (cb ys hd.2.2) (di dx hd.2.1) ?_ ⟨.bl _,H,I,rfl,?_⟩
   ·have h1:=hr.un
    have h2:min (PyData.depthAll (j_ ys)) (toPy dx).depth<=100:=by rw[eG dx (a_ hd.2.1)];omega
    omega
   ·rw[t8 (a_ hd.2.1) (a_ hl)];exact q
  ·cases e'
 | _=>cases e
end HW
namespace HW
open PySem
inductive kL | none | hour | minute | zero | ahour | aminute | alarm | run | lap | cminute | csecond | full | count
 deriving DecidableEq,Inhabited
inductive t5 | a | b | c
 deriving DecidableEq,Inhabited
inductive Face | time | alarm | laps | count
 deriving DecidableEq,Inhabited
def kL.x:kL->Str
 | .none=>oS "none" | .hour=>oS "hour" | .minute=>oS "minute" | .zero=>oS "zero" | .ahour=>oS "ahour" | .aminute=>oS "aminute" | .alarm=>oS "alarm"
 | .run=>oS "run" | .lap=>oS "lap" | .cminute=>oS "cminute" | .csecond=>oS "csecond" | .full=>oS "full" | .count=>oS "count"
def t5.x:t5->Str
 | .a=>oS "a" | .b=>oS "b" | .c=>oS "c"
def t5.X:t5->Str
 | .a=>oS "A" | .b=>oS "B" | .c=>oS "C"
def t5.ix:t5->Nat
 | .a=>0 | .b=>1 | .c=>2
def Face.x:Face->Str
 | .time=>oS "time" | .alarm=>oS "alarm" | .laps=>oS "laps" | .count=>oS "count"
structure Md where
 face:Face
 stays:Bool
 rows:List (kL×Nat)
 deriving Inhabited
structure Bk where
 hold:Int
 back:Int
 modes:List Md
structure WS where
 mode:Nat
 clock:Int
 ah:Int
 am:Int
 aon:Bool
 lm:Int
 lr:Bool
 lk:List Int
 cm:Int
 cs:Int
 cl:Int
 cr:Bool
 ring:Int
 held:Option (t5×Option Int)
 idle:Int
def jv(r:kL×Nat):D:=.tup [.str r.1.x,.int (r.2:Int)]
def Md.d(m:Md):D:=.tup [.str m.face.x,.bl m.stays,.tup (m.rows.map jv)]
def Bk.d(b:Bk):D:=.tup [.int b.hold,.int b.back,.tup (b.modes.map Md.d)]
def BP:Option Int->D
 | .none=>.non
 | .some k=>.int k
def AK:Option (t5×Option Int)->D
 | .none=>.non
 | .some (x,k)=>.tup [.str x.x,BP k]
def WS.alarmD(s:WS):D:=.tup [.int s.ah,.int s.am,.bl s.aon]
def WS.lapsD(s:WS):D:=.tup [.int s.lm,.bl s.lr,.tup (s.lk.map .int)]
def WS.countD(s:WS):D:=.tup [.int s.cm,.int s.cs,.int s.cl,.bl s.cr]
def WS.d(s:WS):D:=.tup [.int (s.mode:Int),.int s.clock,s.alarmD,s.lapsD,s.countD,.int s.ring,AK s.held,.int s.idle]
structure Md.Ok (n:Nat) (m:Md):Prop where
 six:m.rows.length=6
 nx:∀r∈m.rows,r.2<n
structure Bk.Ok (b:Bk):Prop where
 hold1:1<=b.hold
 hold9:b.hold<=9
 back0:0<=b.back
 back60:b.back<=60
 some1:1<=b.modes.length
 some8:b.modes.length<=8
 all:∀m∈b.modes,m.Ok b.modes.length
structure WS.Wk (b:Bk) (s:WS):Prop where
 bk:0<=b.back
 mode:s.mode<b.modes.length
 clock0:0<=s.clock
 clock1:s.clock<86400
 ah0:0<=s.ah
 ah1:s.ah<24
 am0:0<=s.am
 am1:s.am<60
 lm0:0<=s.lm
 lk:s.lk.length<=4
 cm0:0<=s.cm
 cm1:s.cm<60
 cs0:0<=s.cs
 cs1:s.cs<60
 cl0:0<=s.cl
 cl1:s.cl<3600
 cr:s.cr=true->0<s.cl
 ring0:0<=s.ring
 ring1:s.ring<=10
 idle0:0<=s.idle
 idle1:0<b.back->s.idle<b.back
 idle2:b.back=0->s.idle=0
structure WS.Ok (b:Bk) (s:WS):Prop extends WS.Wk b s where
 held:∀x k,s.held=some (x,some k)->0<=k/\k<b.hold
def qM(s:WS)(m c:Int):WS:=if s.cr then s else {s with cm:=m,cs:=c,cl:=60*m+c,cr:=false}
def deed:kL->WS->WS
 | .none,s=>s
 | .hour,s=>{s with clock:=(s.clock+3600)%86400}
 | .minute,s=>{s with clock:=s.clock - s.clock%3600+(s.clock%3600+60)%3600}
 | .zero,s=>{s with clock:=s.clock - s.clock%60}
 | .ahour,s=>{s with ah:=(s.ah+1)%24}
 | .aminute,s=>{s with am:=(s.am+1)%60}
 | .alarm,s=>{s with aon:=!s.aon}
 | .run,s=>{s with lr:=!s.lr}
 | .lap,s=>if s.lr then (if 4<=s.lk.length then s else {s with lk:=s.lk++[s.lm]}) else {s with lm:=0,lk:=[]}
 | .cminute,s=>qM s ((s.cm+1)%60) s.cs
 | .csecond,s=>qM s s.cm ((s.cs+1)%60)
 | .full,s=>qM s s.cm s.cs
 | .count,s=>{s with cr:=!s.cr&&decide (0<s.cl)}
def Bk.row(b:Bk)(m i:Nat):kL×Nat:=(b.modes.getD m default).rows.getD i (.none,0)
def yj(b:Bk)(s:WS)(i:Nat):WS:={deed (b.row s.mode i).1 s with mode:=(b.row s.mode i).2}
def mx(i j:Int):Int:=if j > i then j else i
def WS.sec(s:WS):Int:=3600*s.ah+60*s.am
def uP(s:WS):Option Int:=if s.aon then some ((s.sec - s.clock - 1)%86400+1) else none
def uj(s:WS):Option Int:=if s.cr then some s.cl else none
def vS(s:WS)(n:Int):Option Int:=
 match uP s,uj s with
 | some a,some c=>if a<=n then (if c<=n then some (mx (n - (n - a)%86400) c) else some (n - (n - a)%86400)) else (if c<=n then some c else none)
 | some a,none=>if a<=n then some (n - (n - a)%86400) else none
 | none,some c=>if c<=n then some c else none
 | none,none=>none
def zC(s:WS)(n:Int):Int:=
 match vS s n with
 | none=>mx 0 (s.ring - n)
 | some l=>mx 0 (10 - (n - l))
def zj(h:Option (t5×Option Int))(n:Int):Option (t5×Option Int):=
 match h with
 | some (x,some k)=>some (x,some (k+n))
 | h=>h
def vf(b:Bk)(s:WS):Int:=mx 1 (b.back - s.idle)
def yN(b:Bk)(s:WS)(n:Int):Int:=
 if s.held.isSome\/b.back=0 then s.idle else if n<vf b s then s.idle+n else (n - vf b s)%b.back
def zd(s:WS)(n:Int):Int:=if s.lr then s.lm+n else s.lm
def zy(s:WS)(n:Int):Int:=if s.cr then mx 0 (s.cl - n) else s.cl
def runsOn(s:WS)(n:Int):Bool:=s.cr&&decide (0<mx 0 (s.cl - n))
def wI(b:Bk)(s:WS)(n:Int):WS:=
 {s with clock:=(s.clock+n)%86400,lm:=zd s n,cl:=zy s n,cr:=runsOn s n,ring:=zC s n,held:=zj s.held n,idle:=yN b s n}
def turned(b:Bk)(s:WS):WS:=
 match s.held with
 | none=>{s with mode:=0}
 | some (x,_)=>yj b {s with held:=some (x,none)} (x.ix+3)
def behind(b:Bk)(s:WS)(t:Int):WS:=turned b (wI b s t)
def letGo(b:Bk)(s:WS)(x:t5):WS:=
 match s.held with
 | some (y,k)=>if y=x then { (if k.isSome then yj b s x.ix else s) with held:=none,idle:=0} else s
 | none=>s
inductive Ev | down (x:t5) | up (x:t5) | ticks (n:Int)
 deriving DecidableEq
def Ev.d:Ev->D
 | .down x=>.tup [.str (oS "down"),.str x.x]
 | .up x=>.tup [.str (oS "up"),.str x.x]
 | .ticks n=>.tup [.str (oS "ticks"),.int n]
theorem ou(a:Int){b:Int}(h:0<b):a%b<b:=Int.emod_lt_of_pos a h
theorem oZ(a:Int){b:Int}(h:0<b):0<=a%b:=Int.emod_nonneg a (by omega)
theorem WS.Wk.set{b:Bk}{s:WS}(w:s.Wk b){m c:Int}(m0:0<=m)(m1:m<60)(c0:0<=c)(c1:c<60):(qM s m c).Wk b:=by
 unfold qM
 split
 ·exact w
 ·exact {w with cm0:=m0,cm1:=m1,cs0:=c0,cs1:=c1,cl0:=(by show 0<=60*m+c;omega),cl1:=(by show 60*m+c<3600;omega),cr:=fun h=>by cases h}
theorem WS.Wk.dd{b:Bk}{s:WS}(w:s.Wk b)(d:kL):(deed d s).Wk b:=by
 have c0:=w.clock0;have c1:=w.clock1
 cases d with
 | none=>exact w
 | hour=>exact {w with clock0:=oZ _ (by decide),clock1:=ou _ (by decide)}
 | minute=>exact {w with clock0:=(by show 0<=s.clock - s.clock%3600+(s.clock%3600+60)%3600;omega),clock1:=(by show s.clock - s.clock%3600+(s.clock%3600+60)%3600<86400;omega)}
 | zero=>exact {w with clock0:=(by show 0<=s.clock - s.clock%60;omega),clock1:=(by show s.clock - s.clock%60<86400;omega)}
 | ahour=>exact {w with ah0:=oZ _ (by decide),ah1:=ou _ (by decide)}
 | aminute=>exact {w with am0:=oZ _ (by decide),am1:=ou _ (by decide)}
 | alarm=>exact {w with}
 | run=>exact {w with}
 | lap =>
  show(if s.lr then (if 4<=s.lk.length then s else {s with lk:=s.lk++[s.lm]}) else {s with lm:=0,lk:=[]}:WS).Wk b
  split
  ·split
   ·exact w
   ·exact {w with lk:=(by show(s.lk++[s.lm]).length<=4;simp;omega)}
  ·exact {w with lm0:=Int.le_refl 0,lk:=Nat.zero_le _}
 | cminute=>exact w.set (oZ _ (by decide)) (ou _ (by decide)) w.cs0 w.cs1
 | csecond=>exact w.set w.cm0 w.cm1 (oZ _ (by decide)) (ou _ (by decide))
 | full=>exact w.set w.cm0 w.cm1 w.cs0 w.cs1
 | count =>
  have hc:(!s.cr&&decide (0<s.cl))=true->0<s.cl:=fun h=>by simp at h;exact h.2
  exact {w with cr:=hc}
def Ev.Ok:Ev->Prop
 | .ticks n=>1<=n
 | _=>True
abbrev Pr:=t5×Bool
def Pr.x(p:Pr):Str:=if p.2 then p.1.X else p.1.x
def Pr.ix(p:Pr):Nat:=if p.2 then p.1.ix+3 else p.1.ix
def Pr.code(p:Pr):Nat:=(if p.2 then 65 else 97)+p.1.ix
end HW
set_option maxRecDepth 10000
namespace HW
open PySem
noncomputable section
def top(i:Nat):Stmt:=PySem.Challenge.pw_handwatch_k50_parted_books.main.body.getD i (.Pass ⟨0,0,0,0⟩)
def t9:lC:=Ae "parts.<locals>.<lambda>" ["pair","other","one"] ["pair"] (eA 1 (sV (sB 0 (top 7))))
def az:D:=.tup [.str (oS "a"),.str (oS "b"),.str (oS "c"),.str (oS "A"),.str (oS "B"),.str (oS "C")]
def whole:D->Bool
 | .int _=>true
 | _=>false
def within(d:D)(l m:Int):Bool:=match d with
 | .int i=>decide (l<=i)&&decide (i<=m)
 | _=>false
def oneOf(d:D)(ws:LD):Bool:=match d with
 | .str x=>ws.any fun y=>A8 y (.str x)
 | _=>false
def BZ(d:D)(m:Int):Bool:=match d with
 | .tup xs=>(xs.length:Int)==m
 | _=>false
def nA:LD:=[.str (oS "none"),.str (oS "hour"),.str (oS "minute"),.str (oS "zero"),.str (oS "ahour"),.str (oS "aminute"),.str (oS "alarm"),.str (oS "run"),.str (oS "lap"),.str (oS "cminute"),.str (oS "csecond"),.str (oS "full"),.str (oS "count")]
def oD:LD:=[.str (oS "time"),.str (oS "alarm"),.str (oS "laps"),.str (oS "count")]
def mG(d:D)(m:Int):Bool:=match d with
 | .tup [a,b]=>oneOf a nA&&within b 0 (m - 1)
 | _=>false
def sj(d:D)(m:Int):Bool:=match d with
 | .tup xs=>xs.length==6&&xs.all fun x=>mG x m
 | _=>false
def mi(d:D)(m:Int):Bool:=match d with
 | .tup [a,b,c]=>oneOf a oD&&(yh b "bool" && sj c m)
 | _=>false
def qz(d:D):Bool:=match d with
 | .tup xs=>decide (1<=xs.length)&&(decide (xs.length<=8)&&xs.all fun x=>mi x xs.length)
 | _=>false
def qD(d:D):Bool:=match d with
 | .tup [a,b,c]=>within a 1 9&&(within b 0 60&&qz c)
 | _=>false
theorem within_int{d:D}{l h:Int}(e:within d l h=true):∃i:Int,d=.int i/\l<=i/\i<=h:=by
 cases d with
 | int i=>simp[within] at e;exact⟨i,rfl,e⟩
 | _=>cases e
theorem uU{d:D}(e:yh d "bool" = true):∃b,d=.bl b:=by
 cases d with
 | bl b=>exact⟨b,rfl⟩
 | _=>simp at e
theorem pU{d:D}{ws:LD}(e:oneOf d ws=true):∃x,d=.str x/\(ws.any fun y=>A8 y (.str x))=true:=by
 cases d with
 | str x=>exact⟨x,rfl,e⟩
 | _=>cases e
theorem xE{d:D}(e:oneOf d nA=true):∃k:kL,d=.str k.x:=by
 obtain⟨x,rfl,h⟩:=pU e
 obtain⟨y,hy,h⟩:=List.any_eq_true.mp h
 have q:∀w:Str,A8 (.str w) (.str x)=true->w=x:=fun w z=>beq_iff_eq.mp z
 simp only[nA,List.mem_cons,List.not_mem_nil,or_false] at hy
 rcases hy with rfl | rfl | rfl | rfl | rfl | rfl | rfl | rfl | rfl | rfl | rfl | rfl | rfl
 ·exact⟨.none,congrArg D.str (q _ h).symm⟩
 ·exact⟨.hour,congrArg D.str (q _ h).symm⟩
 ·exact⟨.minute,congrArg D.str (q _ h).symm⟩
 ·exact⟨.zero,congrArg D.str (q _ h).symm⟩
 ·exact⟨.ahour,congrArg D.str (q _ h).symm⟩
 ·exact⟨.aminute,congrArg D.str (q _ h).symm⟩
 ·exact⟨.alarm,congrArg D.str (q _ h).symm⟩
 ·exact⟨.run,congrArg D.str (q _ h).symm⟩
 ·exact⟨.lap,congrArg D.str (q _ h).symm⟩
 ·exact⟨.cminute,congrArg D.str (q _ h).symm⟩
 ·exact⟨.csecond,congrArg D.str (q _ h).symm⟩
 ·exact⟨.full,congrArg D.str (q _ h).symm⟩
 ·exact⟨.count,congrArg D.str (q _ h).symm⟩
theorem wV{d:D}(e:oneOf d oD=true):∃k:Face,d=.str k.x:=by
 obtain⟨x,rfl,h⟩:=pU e
 obtain⟨y,hy,h⟩:=List.any_eq_true.mp h
 have q:∀w:Str,A8 (.str w) (.str x)=true->w=x:=fun w z=>beq_iff_eq.mp z
 simp only[oD,List.mem_cons,List.not_mem_nil,or_false] at hy
 rcases hy with rfl | rfl | rfl | rfl
 ·exact⟨.time,congrArg D.str (q _ h).symm⟩
 ·exact⟨.alarm,congrArg D.str (q _ h).symm⟩
 ·exact⟨.laps,congrArg D.str (q _ h).symm⟩
 ·exact⟨.count,congrArg D.str (q _ h).symm⟩
theorem iE{d:D}{n:Nat}(e:mG d n=true):∃r:kL×Nat,d=jv r/\r.2<n:=by
 unfold mG at e
 split at e
 ·rw[Bool.and_eq_true] at e
  obtain⟨k,rfl⟩:=xE e.1
  obtain⟨i,rfl,h0,h1⟩:=within_int e.2
  refine⟨(k,i.toNat),?_,?_⟩
  ·simp[jv,Int.toNat_of_nonneg h0]
  ·simp;omega
 ·cases e
theorem qr{α:Type}{f:α->D}{P:α->Prop}{q:D->Bool}(h:∀d,q d=true->∃a,d=f a/\P a):∀{ds:LD},ds.all q=true->∃as:List α,ds=as.map f/\∀a∈as,P a
 | [],_=>⟨[],rfl,fun _ h=>by cases h⟩
 | d::ds,e=>by
  rw[List.all_cons,Bool.and_eq_true] at e
  obtain⟨a,rfl,ha⟩:=h d e.1
  obtain⟨as,rfl,hs⟩:=qr h e.2
  exact⟨a::as,rfl,fun x hx=>by rcases List.mem_cons.mp hx with rfl | hx;exact ha;exact hs x hx⟩
theorem gC{d:D}{n:Nat}(e:mi d n=true):∃m:Md,d=m.d/\m.Ok n:=by
 unfold mi at e
 split at e
 ·rename_i a b c
  rw[Bool.and_eq_true,Bool.and_eq_true] at e
  obtain⟨f,rfl⟩:=wV e.1
  obtain⟨s,rfl⟩:=uU e.2.1
  have e2:=e.2.2
  cases c with
  | tup xs =>
   unfold sj at e2
   simp only[Bool.and_eq_true] at e2
   obtain⟨rs,rfl,hr⟩:=qr (f:=jv) (P:=fun r=>r.2<n) (fun d h=>iE h) e2.2
   refine⟨⟨f,s,rs⟩,rfl,?_,hr⟩
   have:=e2.1
   simpa using this
  | _=>cases e2
 ·cases e
theorem fv{d:D}(e:qD d=true):∃b:Bk,d=b.d/\b.Ok:=by
 unfold qD at e
 split at e
 ·rename_i a b c
  rw[Bool.and_eq_true,Bool.and_eq_true] at e
  obtain⟨i,rfl,i0,i1⟩:=within_int e.1
  obtain⟨j,rfl,j0,j1⟩:=within_int e.2.1
  have e2:=e.2.2
  cases c with
  | tup xs =>
   unfold qz at e2
   simp only[Bool.and_eq_true] at e2
   obtain⟨h1,h2,h3⟩:=e2
   obtain⟨ms,hm,hok⟩:=qr (f:=Md.d) (P:=fun m=>m.Ok xs.length) (fun d h=>gC h) h3
   have hl:xs.length=ms.length:=by rw[hm];simp
   refine⟨⟨i,j,ms⟩,by rw[hm];rfl,i0,i1,j0,j1,?_,?_,?_⟩
   ·have:=of_decide_eq_true h1;show 1<=ms.length;omega
   ·have:=of_decide_eq_true h2;show ms.length<=8;omega
   ·rw[hl] at hok;exact hok
  | _=>cases e2
 ·cases e
theorem AJ{f:R->OD}{ρ:R}{w:Str}(h:f ρ=some (.str w))(hw:w.length<=1000):jc oh (e8 f i8) ρ=some (.int w.length):=by
 show((f ρ).bind fun x=>(some []).map (x::·)).bind oh=_
 rw[h]
 show(if w.length<=sizeLine then _ else _)=_
 rw[if_pos (Nat.le_trans hw (by decide))]
theorem lc{F:D->D->Option Bool}{f g:R->OD}{ρ:R}{x y:D}(h1:f ρ=some x)(h2:g ρ=some y):ju F f g ρ=F x y:=by simp[h1,h2]
theorem lB{F:LD->OD}{f:R->OD}{ρ:R}{x d:D}(h1:f ρ=some x)(h2:F [x]=some d):jc F (e8 f i8) ρ=some d:=by simp[h1,h2]
theorem ye{f g k:R->OD}{ρ:R}{x y z:D}(h1:f ρ=some x)(h2:g ρ=some y)(h3:k ρ=some z):jw (e8 f (e8 g (e8 k i8))) ρ=some (.tup [x,y,z]):=by simp[h1,h2,h3]
theorem xi{c:R->Option Bool}{ρ:R}{b:Bool}(h:c ρ=some b):rX c ρ=some (.bl b):=by simp[h]
theorem jk{f g:R->Option Out}{ρ ρ2:R}(h:f ρ=some (.nx ρ2)):jn f g ρ=g ρ2:=by simp[h]
theorem jt{f:R->OD}{st:D->R->Option R}{ρ ρ':R}{d:D}(h:f ρ=some d)(h2:st d ρ=some ρ'):jr f st ρ=some (.nx ρ'):=by simp[h,h2]
theorem xS{f:R->OD}{ρ:R}{b:Bool}(h:f ρ=some (.bl b)):xM f ρ=some (.bl (!b)):=by simp[h]
theorem lL{f:R->OD}{ρ:R}{d:D}(h:f ρ=some d):jK (j5 f ρ)=some d:=by simp[h]
theorem x6{n:Nat}(h:n<=2000):n<=sizeLine:=Nat.le_trans h (by decide)
theorem lQ:∀{kv:KI} {x:Ky} {d:D} {r:KI},jB kv x=some d->jB (kv++r) x=some d
 | (k,d')::kv,x,d,r,h=>by
  show(if k=x then some d' else jB (kv++r) x)=some d
  have h':(if k=x then some d' else jB kv x)=some d:=h
  split at h'<;>rename_i hk
  ·rw[if_pos hk];exact h'
  ·rw[if_neg hk];exact lQ h'
def gU:R->Option Out:=
 (j5 (wu 1 (ku (i6 jd (i3 0) (kI 2))) (setAt 0) qF (i6 jd (i3 0) (kI 1))))
def br:LD->OD:=via 1 1 gU
def dM:R->Option Out:=
 (j5 (B6 (jc br (e8 (i3 0) i8)) (jc br (e8 (i3 1) i8))))
def aK:LD->OD:=via 2 2 dM
def vH:R->OD:=(jc aK (e8 (i6 jd (i6 jd (i3 2) (kI 2)) (i6 jd (i3 0) (kI 0))) (e8 (i6 jd (i6 jd (i3 1) (kI 2)) (i6 jd (i3 0) (kI 1))) i8)))
def LL:rD:=fun t=>open Classical in if t=t9 then some (uE 3 vH) else none
theorem Cw:LL t9=some (uE 3 vH):=if_pos rfl
theorem Bw:t9.ps.length=1:=rfl
def cQ:R->Nat->KI->Option (D×KI):=
  (rJ 6
  (mM (ku (i3 1)) (setAt 3)
  (si (tQ (jr (oQ LL 2 (e8 (i3 3) i8)) (setAt 4)))
  (mM (kQ (jc nL (e8 (fun _=>some az) i8))) (setAt 5)
  (A0 (nq 0 (i6 jd (i3 4) (i3 5)))
  (si (vk 0 (i6 jd (i3 4) (i3 5)) (uJ jD (ow 0 (i3 3)) (uv (i6 jd (fun _=>some az) (i3 5)))))
  (wO 6 (i6 jd (i3 4) (i3 5))))
  wc)))))
def ar:LD->Nat->KI->Option (D×KI):=fun ds=>cQ (pQ 7 ds)
def lh:List Str:=[oS "a",oS "b",oS "c",oS "A",oS "B",oS "C"]
def jY(w:Str)(s:KI×LD)(ep:Ky×Str):KI×LD:=if (jB s.1 ep.1).isNone then (s.1++[(ep.1,.str (w++ep.2))],s.2++[ji ep.1]) else s
def uR(lf:Bool)(kv:KI):Prop:=kv ≠ []/\∀p∈kv,p.1.isLeft=lf
theorem uR.kin{lf:Bool}{kv:KI}(h:uR lf kv){k:Ky}(hk:k.isLeft=lf):kin kv k=true:=by
 unfold HW.kin
 rw[Bool.and_eq_true]
 refine⟨?_,List.all_eq_true.mpr fun p hp=>by rw[h.2 p hp,hk];simp⟩
 cases kv with
 | nil=>exact absurd rfl h.1
 | cons=>rfl
theorem p_:∀k:Ky,oF (ji k)=some k
 | .inl _=>rfl
 | .inr _=>rfl
theorem tJ{lf:Bool}{w:Str}{s:KI×LD}{ep:Ky×Str}(h:uR lf s.1)(he:ep.1.isLeft=lf):uR lf (jY w s ep).1:=by
 unfold jY
 split
 ·refine⟨by simp,fun p hp=>?_⟩
  rcases List.mem_append.mp hp with z | z
  ·exact h.2 p z
  ·rw[List.mem_singleton.mp z];exact he
 ·exact h
theorem qO{lf:Bool}(w:Str):∀(l:List (Ky×Str)) {s:KI×LD},uR lf s.1->(∀q∈l,q.1.isLeft=lf)->uR lf (l.foldl (jY w) s).1
 | [],_,h,_=>h
 | e::l,s,h,hl=>qO w l (tJ h (hl e List.mem_cons_self)) fun q hq=>hl q (List.mem_cons_of_mem _ hq)
def zR:WU:=(A0 (nq 0 (i6 jd (i3 4) (i3 5)))
  (si (vk 0 (i6 jd (i3 4) (i3 5)) (uJ jD (ow 0 (i3 3)) (uv (i6 jd (fun _=>some az) (i3 5)))))
  (wO 6 (i6 jd (i3 4) (i3 5))))
  wc)
theorem mn{xs:LD}{i:Nat}{x:D}(h:xs[i]?=some x):ro xs (i:Int)=some x:=by
 have hi:=(List.getElem?_eq_some_iff.mp h).1
 unfold ro zI
 rw[if_pos (by omega),if_pos (by omega)]
 exact h
theorem wJ{d:Nat}{a1 a2:OD}{x:Ky}{es:List Ky}{i:Nat}{e:Ky}{p w:Str}{kv:KI}{ds:LD}(he:es[i]?=some e)(hp:lh[i]?=some p)(hw:jB kv x=some (.str w))(hk:kv.length<1000)(hd:ds.length<1000)(hl:w.length<1000){lf:Bool}(hKd:uR lf kv)(hxl:x.isLeft=lf)(hel:e.isLeft=lf) :
  zR [some (.obj 1 d [] []),a1,a2,some (ji x),some (.lst (es.map ji)),some (.int i)] d kv ds=some (.nx [some (.obj 1 d [] []),a1,a2,some (ji x),some (.lst (es.map ji)),some (.int i)],jY w (kv,ds) (e,p)):=by
 have q1:i6 jd (i3 4) (i3 5) [some (.obj 1 d [] []),a1,a2,some (ji x),some (.lst (es.map ji)),some (.int i)]=some (ji e):=by
  show ro (es.map ji) (i:Int)=_
  exact mn (by rw[List.getElem?_map,he];rfl)
 have q2:i6 jd (fun _=>some az) (i3 5) [some (.obj 1 d [] []),a1,a2,some (ji x),some (.lst (es.map ji)),some (.int i)]=some (.str p):=by
  show ro (lh.map .str) (i:Int)=_
  exact mn (by rw[List.getElem?_map,hp];rfl)
 have hat:isAt 0 [some (.obj 1 d [] []),a1,a2,some (ji x),some (.lst (es.map ji)),some (.int i)] d:=rfl
 have hpl:p.length<=1:=by
  have:∀y∈lh,y.length<=1:=by decide +kernel
  exact this p (List.mem_of_getElem? hp)
 generalize hρ:[some (.obj 1 d [] []),a1,a2,some (ji x),some (.lst (es.map ji)),some (.int i)]=ρ at *
 have v3:i3 3 ρ=some (ji x):=by rw[<- hρ];rfl
 have hlen:ρ.length=6:=by rw[<- hρ];rfl
 have t1:nq 0 (i6 jd (i3 4) (i3 5)) ρ d kv=some (jB kv e).isNone:=by
  unfold nq
  rw[q1]
  show((oF (ji e)).bind fun j=>if isAt 0 ρ d/\kin kv j=true then some (jB kv j).isNone else none)=_
  rw[p_,Option.bind_some,if_pos ⟨hat,hKd.kin hel⟩]
 unfold zR A0
 rw[t1,Option.bind_some]
 unfold jY
 cases hn:(jB kv e).isNone with
 | false=>rfl
 | true =>
  rw[if_pos rfl,if_pos rfl]
  have g1:ow 0 (i3 3) ρ d kv=some (.str w):=by
   unfold ow
   rw[v3]
   show((oF (ji x)).bind fun j=>if isAt 0 ρ d/\kin kv j=true then jB kv j else none)=_
   rw[p_,Option.bind_some,if_pos ⟨hat,hKd.kin hxl⟩,hw]
  have g2:uJ jD (ow 0 (i3 3)) (uv (i6 jd (fun _=>some az) (i3 5))) ρ d kv=some (.str (w++p)):=by
   unfold uJ uv
   rw[g1,Option.bind_some,q2,Option.bind_some]
   show(if w.length+p.length<=sizeLine then _ else _)=_
   rw[if_pos (x6 (by omega))]
  have g3:vk 0 (i6 jd (i3 4) (i3 5)) (uJ jD (ow 0 (i3 3)) (uv (i6 jd (fun _=>some az) (i3 5)))) ρ d kv ds=some (.nx ρ,kv++[(e,.str (w++p))],ds):=by
   unfold vk
   rw[g2,Option.bind_some,q1,Option.bind_some]
   rw[p_,Option.bind_some,if_pos ⟨hat,hKd.kin hel,hn,hk⟩]
  unfold si
  rw[g3,Option.bind_some]
  unfold wO
  show((i6 jd (i3 4) (i3 5) ρ).bind fun d=>if ρ.length=6/\ds.length<sizeLine then _ else _)=_
  rw[q1,Option.bind_some,if_pos ⟨hlen,Nat.lt_of_lt_of_le hd (by decide)⟩]
theorem tO{d:Nat}{a1 a2:OD}{x:Ky}{es:List Ky}{w:Str}{lf:Bool}(hxl:x.isLeft=lf)(hes:∀e∈es,e.isLeft=lf)(h6:es.length=6)(hl:w.length<1000):∀(k:Nat) (o:OD) (kv:KI) (ds:LD),k<=6->uR lf kv->jB kv x=some (.str w)->kv.length+k<1000->ds.length+k<1000 ->
  ∃o',rj (setAt 5) zR ((kx 0 6).drop (6 - k)) [some (.obj 1 d [] []),a1,a2,some (ji x),some (.lst (es.map ji)),o] d kv ds=some (.nx [some (.obj 1 d [] []),a1,a2,some (ji x),some (.lst (es.map ji)),o'],((es.zip lh).drop (6 - k)).foldl (jY w) (kv,ds))
 | 0,o,kv,ds,_,_,_,_,_=>by
  refine⟨o,?_⟩
  have e2:(es.zip lh).drop 6=[]:=List.drop_eq_nil_of_le (by simp[lh,h6])
  rw[e2];rfl
 | k+1,o,kv,ds,hk,hKd,hw,h1,h2=>by
  have hi:6 - (k+1)<6:=by omega
  have e1:(kx 0 6).drop (6 - (k+1))=.int ((6 - (k+1):Nat):Int)::(kx 0 6).drop (6 - k):=by
   have hlen:(kx 0 6).length=6:=rfl
   rw[List.drop_eq_getElem_cons (by rw[hlen];exact hi),show 6 - (k+1)+1=6 - k by omega]
   congr 1
   simp[kx]
  have hz:(es.zip lh).length=6:=by simp[lh,h6]
  have e2:(es.zip lh).drop (6 - (k+1))=(es.zip lh)[6 - (k+1)]'(by omega)::(es.zip lh).drop (6 - k):=by
   rw[List.drop_eq_getElem_cons (by omega),show 6 - (k+1)+1=6 - k by omega]
  rw[e1,e2,List.getElem_zip,List.foldl_cons]
  have he:es[6 - (k+1)]?=some es[6 - (k+1)]:=List.getElem?_eq_getElem (by omega)
  have hp:lh[6 - (k+1)]?=some (lh[6 - (k+1)]'(by simp[lh];omega)):=List.getElem?_eq_getElem _
  have t:=wJ (d:=d) (a1:=a1) (a2:=a2) (ds:=ds) he hp hw (by omega) (by omega) hl hKd hxl (hes _ (List.getElem_mem _))
  have hKd':uR lf (jY w (kv,ds) (es[6 - (k+1)],lh[6 - (k+1)]'(by simp[lh];omega))).1:=tJ hKd (hes _ (List.getElem_mem _))
  generalize es[6 - (k+1)]=e at *
  generalize (lh[6 - (k+1)]'(by simp[lh];omega))=p at *
  obtain⟨hw',l1,l2⟩:jB (jY w (kv,ds) (e,p)).1 x=some (.str w)/\(jY w (kv,ds) (e,p)).1.length<=kv.length+1/\(jY w (kv,ds) (e,p)).2.length<=ds.length+1:=by
   unfold jY
   split
   ·exact⟨lQ hw,by simp,by simp⟩
   ·exact⟨hw,Nat.le_succ _,Nat.le_succ _⟩
  obtain⟨o',r⟩:=tO (d:=d) (a1:=a1) (a2:=a2) (x:=x) hxl hes h6 hl k (some (.int ((6 - (k+1):Nat):Int))) (jY w (kv,ds) (e,p)).1 (jY w (kv,ds) (e,p)).2 (by omega) hKd' hw' (by omega) (by omega)
  refine⟨o',?_⟩
  show((some [some (.obj 1 d [] []),a1,a2,some (ji x),some (.lst (es.map ji)),some (.int ((6 - (k+1):Nat):Int))]:Option R)).bind _=_
  rw[Option.bind_some,t]
  exact r
def oB(kv:KI)(x:Ky):Str:=match jB kv x with
 | some (.str w)=>w
 | _=>oS ""
def kM(go:Ky->List Ky)(s:KI×LD)(x:Ky):KI×LD:=((go x).zip lh).foldl (jY (oB s.1 x)) s
def um:WU:=(si (tQ (jr (oQ LL 2 (e8 (i3 3) i8)) (setAt 4)))
 (mM (kQ (jc nL (e8 (fun _=>some az) i8))) (setAt 5) zR))
def Gives(c:D)(go:Ky->List Ky)(x:Ky):Prop:=(go x).length=6/\∀ ρ:R,i3 2 ρ=some c->i3 3 ρ=some (ji x)->oQ LL 2 (e8 (i3 3) i8) ρ=some (.lst ((go x).map ji))
theorem uZ{d:Nat}{a1 o4 o5:OD}{c:D}{go:Ky->List Ky}{x:Ky}{kv:KI}{ds:LD}{w:Str}{lf:Bool}(hxl:x.isLeft=lf)(hes:∀e∈go x,e.isLeft=lf)(hKd:uR lf kv)(hg:Gives c go x)(hw:jB kv x=some (.str w))(hl:w.length<1000)(hk:kv.length+6<1000)(hd:ds.length+6<1000) :
  ∃p4 p5,um [some (.obj 1 d [] []),a1,some c,some (ji x),o4,o5] d kv ds=some (.nx [some (.obj 1 d [] []),a1,some c,some (ji x),p4,p5],kM go (kv,ds) x):=by
 obtain⟨h6,hc⟩:=hg
 have e1:=hc [some (.obj 1 d [] []),a1,some c,some (ji x),o4,o5] rfl rfl
 obtain⟨o',e2⟩:=tO (d:=d) (a1:=a1) (a2:=some c) (x:=x) (es:=go x) (w:=w) hxl hes h6 hl 6 o5 kv ds (Nat.le_refl _) hKd hw hk hd
 refine⟨some (.lst ((go x).map ji)),o',?_⟩
 have hwo:oB kv x=w:=by unfold oB;rw[hw]
 have e3:tQ (jr (oQ LL 2 (e8 (i3 3) i8)) (setAt 4)) [some (.obj 1 d [] []),a1,some c,some (ji x),o4,o5] d kv ds=some (.nx [some (.obj 1 d [] []),a1,some c,some (ji x),some (.lst ((go x).map ji)),o5],kv,ds):=by
  show((oQ LL 2 (e8 (i3 3) i8) _).bind fun v=>(setAt 4 v _).map Out.nx).map _=_
  rw[e1]
  rfl
 unfold um si
 rw[e3,Option.bind_some]
 show mM (kQ (jc nL (e8 (fun _=>some az) i8))) (setAt 5) zR [some (.obj 1 d [] []),a1,some c,some (ji x),some (.lst ((go x).map ji)),o5] d kv ds=_
 unfold mM
 show(some (kx 0 6)).bind _=_
 rw[Option.bind_some]
 unfold kM
 show rj (setAt 5) zR (kx 0 6) _ d kv ds=some (_,(((go x).zip lh).foldl (jY (oB kv x)) (kv,ds)))
 rw[hwo]
 exact e2
theorem vB(w:Str)(s:KI×LD)(ep:Ky×Str):(jY w s ep).1.length<=s.1.length+1/\(jY w s ep).2.length<=s.2.length+1:=by
 unfold jY
 split
 ·exact⟨by simp,by simp⟩
 ·exact⟨Nat.le_succ _,Nat.le_succ _⟩
theorem pX(w:Str):∀(l:List (Ky×Str)) (s:KI×LD),(l.foldl (jY w) s).1.length<=s.1.length+l.length/\(l.foldl (jY w) s).2.length<=s.2.length+l.length
 | [],s=>⟨Nat.le_refl _,Nat.le_refl _⟩
 | e::l,s=>by
  have h1:=vB w s e
  have h2:=pX w l (jY w s e)
  rw[List.foldl_cons,List.length_cons]
  omega
theorem vz(w:Str){s:KI×LD}{ep:Ky×Str}{x:Ky}{d:D}(h:jB s.1 x=some d):jB (jY w s ep).1 x=some d:=by
 unfold jY
 split
 ·exact lQ h
 ·exact h
theorem pw(w:Str):∀(l:List (Ky×Str)) {s:KI×LD} {x:Ky} {d:D},jB s.1 x=some d->jB (l.foldl (jY w) s).1 x=some d
 | [],_,_,_,h=>h
 | e::l,s,x,d,h=>pw w l (vz w h)
theorem qT{d:Nat}{a1:OD}{c:D}{go:Ky->List Ky}{lf:Bool}:∀(xs:List Ky) (o3 o4 o5:OD) (kv:KI) (ds:LD),uR lf kv->(∀x∈xs,(Gives c go x/\x.isLeft=lf/\∀e∈go x,e.isLeft=lf)/\∃w,jB kv x=some (.str w)/\w.length<1000)->kv.length+6*xs.length<1000->ds.length+6*xs.length<1000 ->
  ∃p3 p4 p5,rj (setAt 3) um (xs.map ji) [some (.obj 1 d [] []),a1,some c,o3,o4,o5] d kv ds=some (.nx [some (.obj 1 d [] []),a1,some c,p3,p4,p5],xs.foldl (kM go) (kv,ds))
 | [],o3,o4,o5,kv,ds,_,_,_,_=>⟨o3,o4,o5,rfl⟩
 | x::xs,o3,o4,o5,kv,ds,hKd,h,h1,h2=>by
  rw[List.length_cons] at h1 h2
  obtain⟨⟨hg,hxl,hes⟩,w,hw,hl⟩:=h x List.mem_cons_self
  obtain⟨p4,p5,t⟩:=uZ (d:=d) (a1:=a1) (o4:=o4) (o5:=o5) (ds:=ds) hxl hes hKd hg hw hl (by omega) (by omega)
  have hz:((go x).zip lh).length=6:=by simp[lh,hg.1]
  have hln:(kM go (kv,ds) x).1.length<=kv.length+6/\(kM go (kv,ds) x).2.length<=ds.length+6:=by
   have:=pX (oB kv x) ((go x).zip lh) (kv,ds)
   rw[hz] at this
   exact this
  obtain⟨q3,q4,q5,r⟩:=qT (d:=d) (a1:=a1) (c:=c) (go:=go) xs (some (ji x)) p4 p5 (kM go (kv,ds) x).1 (kM go (kv,ds) x).2 (qO _ _ hKd fun q hq=>hes q.1 (List.of_mem_zip hq).1) (fun y hy=>by
   obtain⟨hg',w',hw',hl'⟩:=h y (List.mem_cons_of_mem _ hy)
   exact⟨hg',w',pw _ _ hw',hl'⟩) (by omega) (by omega)
  refine⟨q3,q4,q5,?_⟩
  show((some [some (.obj 1 d [] []),a1,some c,some (ji x),o4,o5]:Option R)).bind _=_
  rw[Option.bind_some,t]
  exact r
theorem wj{d:Nat}{c:D}{go:Ky->List Ky}{xs:List Ky}{kv:KI}{lf:Bool}(hKd:uR lf kv)(h:∀x∈xs,(Gives c go x/\x.isLeft=lf/\∀e∈go x,e.isLeft=lf)/\∃w,jB kv x=some (.str w)/\w.length<1000)(h1:kv.length+6*xs.length<1000) :
  ar [.obj 1 d [] [],.lst (xs.map ji),c] d kv=some (.lst (xs.foldl (kM go) (kv,[])).2,(xs.foldl (kM go) (kv,[])).1):=by
 obtain⟨p3,p4,p5,r⟩:=qT (d:=d) (a1:=some (.lst (xs.map ji))) (c:=c) (go:=go) xs none none none kv [] hKd h h1 (by simp;omega)
 show rJ 6 (mM (ku (i3 1)) (setAt 3) um) [some (.obj 1 d [] []),some (.lst (xs.map ji)),some c,none,none,none,none] d kv=_
 unfold rJ
 rw[if_pos (show([some (.obj 1 d [] []),some (.lst (xs.map ji)),some c,none,none,none,none]:R).length=6+1 from rfl)]
 have e:mM (ku (i3 1)) (setAt 3) um [some (.obj 1 d [] []),some (.lst (xs.map ji)),some c,none,none,none] d kv []=some (.nx [some (.obj 1 d [] []),some (.lst (xs.map ji)),some c,p3,p4,p5],xs.foldl (kM go) (kv,[])):=r
 show(mM (ku (i3 1)) (setAt 3) um [some (.obj 1 d [] []),some (.lst (xs.map ji)),some c,none,none,none] d kv []).bind _=_
 rw[e]
 rfl
def jG(kv:KI):List Ky:=kv.map (·.1)
theorem mZ:∀{kv:KI} {x:Ky},jB kv x=none↔x∉jG kv
 | [],x=>by simp[jB,jG]
 | (k,d)::kv,x=>by
  have ih:=mZ (kv:=kv) (x:=x)
  show(if k=x then some d else jB kv x)=none↔x∉k::jG kv
  by_cases h:k=x
  ·rw[if_pos h];simp[h]
  ·rw[if_neg h,ih,List.mem_cons,not_or]
   exact⟨fun z=>⟨fun q=>h q.symm,z⟩,fun z=>z.2⟩
theorem lN:∀{kv:KI} {x:Ky} {d:D},(jG kv).Nodup->(x,d)∈kv->jB kv x=some d
 | (k,d')::kv,x,d,nd,h=>by
  have nd':(k::jG kv).Nodup:=nd
  rw[List.nodup_cons] at nd'
  show(if k=x then some d' else jB kv x)=some d
  rcases List.mem_cons.mp h with e | h
  ·cases e;rw[if_pos rfl]
  ·have:k≠x:=fun z=>nd'.1 (z ▸ List.mem_map.mpr ⟨(x,d),h,rfl⟩)
   rw[if_neg this]
   exact lN nd'.2 h
def v_(p:Ky×Str):Ky×D:=(p.1,.str p.2)
def Good(k:KI)(L:Nat)(bx:List Ky)(go:Ky->List Ky)(p:Ky×Str):Prop:=True/\p.1∈bx/\p.2.length=L+1/\∃(x:Ky) (w:Str) (i:Nat) (pr:Str),(x,D.str w)∈k/\(go x)[i]?=some p.1/\lh[i]?=some pr/\p.2=w++pr
def zL(k:KI)(L:Nat)(bx:List Ky)(go:Ky->List Ky)(s:KI×LD):Prop:=∃ext:List (Ky×Str),s.1=k++ext.map v_/\s.2=ext.map (fun p=>ji p.1)/\(∀p∈ext,Good k L bx go p)/\(jG s.1).Nodup
theorem og{i:Nat}{pr:Str}(h:lh[i]?=some pr):pr.length=1:=by
 have:∀y∈lh,y.length=1:=by decide +kernel
 exact this pr (List.mem_of_getElem? h)
theorem str_len(a b:Str):(a++b).length=a.length+b.length:=by show(a.cps++b.cps).size=_;rw[Array.size_append];rfl
theorem w6{k:KI}{L:Nat}{bx:List Ky}{go:Ky->List Ky}{s:KI×LD}{x e:Ky}{w pr:Str}{i:Nat}(hE:zL k L bx go s)(hx:(x,D.str w)∈k)(hw:w.length=L)(he:(go x)[i]?=some e)(hp:lh[i]?=some pr)(h0:True)(hn:e∈bx) :
  zL k L bx go (jY w s (e,pr))/\e∈jG (jY w s (e,pr)).1/\∀y∈jG s.1,y∈jG (jY w s (e,pr)).1:=by
 obtain⟨ext,e1,e2,hg,nd⟩:=hE
 unfold jY
 by_cases h:(jB s.1 e).isNone=true
 ·rw[if_pos h]
  have hk:e∉jG s.1:=mZ.mp (Option.isNone_iff_eq_none.mp h)
  have hks:jG (s.1++[(e,D.str (w++pr))])=jG s.1++[e]:=by simp[jG]
  refine⟨⟨ext++[(e,w++pr)],?_,?_,fun p hp'=>?_,?_⟩,?_,fun y hy=>?_⟩
  ·show s.1++[(e,D.str (w++pr))]=_
   rw[e1,List.map_append,List.append_assoc];rfl
  ·show s.2++[ji e]=_
   rw[e2,List.map_append];rfl
  ·rcases List.mem_append.mp hp' with z | z
   ·exact hg p z
   ·rw[List.mem_singleton.mp z]
    exact⟨h0,hn,by rw[str_len,hw,og hp],x,w,i,pr,hx,he,hp,rfl⟩
  ·show(jG (s.1++[(e,D.str (w++pr))])).Nodup
   rw[hks,List.nodup_append]
   refine⟨nd,by simp,fun a ha b hb=>?_⟩
   rw[List.mem_singleton.mp hb]
   exact fun z=>hk (z ▸ ha)
  ·show e∈jG (s.1++[(e,D.str (w++pr))])
   rw[hks];simp
  ·show y∈jG (s.1++[(e,D.str (w++pr))])
   rw[hks];exact List.mem_append_left _ hy
 ·rw[if_neg h]
  refine⟨⟨ext,e1,e2,hg,nd⟩,?_,fun y hy=>hy⟩
  exact Classical.byContradiction fun z=>h (by rw[mZ.mpr z];rfl)
theorem ue{k:KI}{L:Nat}{bx:List Ky}{go:Ky->List Ky}{x:Ky}{w:Str}(hx:(x,D.str w)∈k)(hw:w.length=L)(hr:∀e∈go x,True/\e∈bx):∀(l:List (Ky×Str)) (s:KI×LD),(∀q∈l,∃i:Nat,(go x)[i]?=some q.1/\lh[i]?=some q.2)->zL k L bx go s ->
  zL k L bx go (l.foldl (jY w) s)/\(∀q∈l,q.1∈jG (l.foldl (jY w) s).1)/\∀y∈jG s.1,y∈jG (l.foldl (jY w) s).1
 | [],s,_,hE=>⟨hE,fun q hq=>absurd hq (by simp),fun y hy=>hy⟩
 | (e,pr)::l,s,hl,hE=>by
  obtain⟨i,h1,h2⟩:=hl (e,pr) List.mem_cons_self
  obtain⟨h0,hn⟩:=hr e (List.mem_of_getElem? h1)
  obtain⟨a1,a2,a3⟩:=w6 hE hx hw h1 h2 h0 hn
  obtain⟨b1,b2,b3⟩:=ue hx hw hr l _ (fun q hq=>hl q (List.mem_cons_of_mem _ hq)) a1
  refine⟨b1,fun q hq=>?_,fun y hy=>b3 y (a3 y hy)⟩
  rcases List.mem_cons.mp hq with z | z
  ·rw[z];exact b3 e a2
  ·exact b2 q z
theorem tM{k:KI}{L:Nat}{bx:List Ky}{go:Ky->List Ky}(nd:(jG k).Nodup):∀(xs:List Ky) (s:KI×LD),(∀x∈xs,(go x).length=6/\(∀e∈go x,True/\e∈bx)/\∃w,(x,D.str w)∈k/\w.length=L)->zL k L bx go s ->
  zL k L bx go (xs.foldl (kM go) s)/\(∀x∈xs,∀e∈go x,e∈jG (xs.foldl (kM go) s).1)/\∀y∈jG s.1,y∈jG (xs.foldl (kM go) s).1
 | [],s,_,hE=>⟨hE,fun x hx=>absurd hx (by simp),fun y hy=>hy⟩
 | x::xs,s,h,hE=>by
  obtain⟨h6,hr,w,hx,hw⟩:=h x List.mem_cons_self
  have hget:jB s.1 x=some (.str w):=by
   obtain⟨ext,e1,_,_,_⟩:=hE
   rw[e1]
   exact lQ (lN nd hx)
  have hwo:oB s.1 x=w:=by unfold oB;rw[hget]
  have hz:∀q∈(go x).zip lh,∃i:Nat,(go x)[i]?=some q.1/\lh[i]?=some q.2:=fun q hq=>by
   obtain⟨i,hi⟩:=List.getElem?_of_mem hq
   obtain⟨z1,z2⟩:=List.getElem?_zip_eq_some.mp hi
   exact⟨i,z1,z2⟩
  obtain⟨a1,a2,a3⟩:=ue hx hw hr ((go x).zip lh) s hz hE
  have es:kM go s x=((go x).zip lh).foldl (jY w) s:=by unfold kM;rw[hwo]
  rw[<- es] at a1 a2 a3
  obtain⟨b1,b2,b3⟩:=tM nd xs (kM go s x) (fun y hy=>h y (List.mem_cons_of_mem _ hy)) a1
  refine⟨b1,fun y hy e he=>?_,fun y hy=>b3 y (a3 y hy)⟩
  rcases List.mem_cons.mp hy with z | z
  ·subst z
   obtain⟨i,hi⟩:=List.getElem?_of_mem he
   have hi6:i<6:=by have:=(List.getElem?_eq_some_iff.mp hi).1;omega
   obtain⟨pr,hpr⟩:∃pr,lh[i]?=some pr:=⟨_,List.getElem?_eq_getElem (show i<lh.length from hi6)⟩
   exact b3 e (a2 (e,pr) (List.mem_of_getElem? (List.getElem?_zip_eq_some.mpr ⟨hi,hpr⟩)))
  ·exact b2 y z e he
structure BI (go:Ky->List Ky) (bx:List Ky) (s:Ky) (kv:KI) (xs:List Ky) (L:Nat):Prop where
 nd:(jG kv).Nodup
 val:∀p∈kv,True/\p.1∈bx/\∃w,p.2=.str w/\w.length<=L
 st:(s,D.str (oS ""))∈kv
 new:∀x∈xs,∃w,(x,D.str w)∈kv/\w.length=L
 xl:xs.length<=kv.length
 cl:∀x w,(x,D.str w)∈kv->x∉xs->∀e∈go x,∃v,(e,D.str v)∈kv/\v.length<=w.length+1
 tr:∀x w,(x,D.str w)∈kv->(x=s/\w=oS "")\/∃(y:Ky) (v:Str) (i:Nat) (pr:Str),(y,D.str v)∈kv/\(go y)[i]?=some x/\lh[i]?=some pr/\w=v++pr
theorem rP{kv:KI}{x:Ky}(h:x∈jG kv):∃d,(x,d)∈kv:=by
 obtain⟨p,hp,rfl⟩:=List.mem_map.mp h
 exact⟨p.2,hp⟩
theorem BI.inj{go:Ky->List Ky}{bx:List Ky}{s:Ky}{kv:KI}{xs:List Ky}{L:Nat}(h:BI go bx s kv xs L){x:Ky}{v w:Str}(h1:(x,D.str v)∈kv)(h2:(x,D.str w)∈kv):v=w:=by
 have:=(lN h.nd h1).symm.trans (lN h.nd h2)
 injection this with z
 injection z
theorem BI.len{go:Ky->List Ky}{bx:List Ky}{s:Ky}{kv:KI}{xs:List Ky}{L:Nat}(h:BI go bx s kv xs L):kv.length<=bx.length:=by
 have hl:(jG kv).length<=bx.length:=List.Nodup.length_le_of_subset h.nd fun x hx=>by
  obtain⟨d,hd⟩:=rP hx
  exact(h.val _ hd).2.1
 simpa [jG] using hl
theorem BI.step{go:Ky->List Ky}{bx:List Ky}{s:Ky}{kv:KI}{xs:List Ky}{L:Nat}(h:BI go bx s kv xs L)(hgo:∀x:Ky,x∈bx->(go x).length=6/\∀e∈go x,True/\e∈bx) :
  ∃fd:List Ky,(xs.foldl (kM go) (kv,[])).2=fd.map ji/\BI go bx s (xs.foldl (kM go) (kv,[])).1 fd (L+1)/\(fd ≠ []->kv.length<(xs.foldl (kM go) (kv,[])).1.length):=by
 have hx:∀x∈xs,(go x).length=6/\(∀e∈go x,True/\e∈bx)/\∃w,(x,D.str w)∈kv/\w.length=L:=fun x hx=>by
  obtain⟨w,hw,hl⟩:=h.new x hx
  obtain⟨h0,hn,_⟩:=h.val _ hw
  obtain⟨g1,g2⟩:=hgo x hn
  exact⟨g1,g2,w,hw,hl⟩
 obtain⟨⟨ext,e1,e2,hg,nd⟩,hc,hk⟩:=tM h.nd xs (kv,[]) hx ⟨[],by simp,rfl,fun p hp=>absurd hp (by simp),h.nd⟩
 generalize (xs.foldl (kM go) (kv,[])).1=kv' at *
 generalize (xs.foldl (kM go) (kv,[])).2=fd' at *
 subst e1 e2
 have old:∀{p:Ky×D},p∈kv->p∈kv++ext.map v_:=fun hp=>List.mem_append_left _ hp
 have isnew:∀{x:Ky} {w:Str},(x,D.str w)∈kv++ext.map v_->(x,D.str w)∈kv\/(x,w)∈ext:=fun {x w} hm=>by
  rcases List.mem_append.mp hm with z | z
  ·exact .inl z
  ·obtain⟨p,hp,ep⟩:=List.mem_map.mp z
   unfold v_ at ep
   injection ep with a b
   injection b with b
   subst a b
   exact .inr hp
 refine⟨ext.map (·.1),by rw[List.map_map];rfl,⟨nd,fun p hp=>?_,old h.st,fun x hx'=>?_,?_,fun x w hm hn e he=>?_,fun x w hm=>?_⟩,fun hne=>?_⟩
 ·rcases List.mem_append.mp hp with z | z
  ·obtain⟨h0,hn,w,hw,hl⟩:=h.val p z
   exact⟨h0,hn,w,hw,by omega⟩
  ·obtain⟨q,hq,rfl⟩:=List.mem_map.mp z
   obtain⟨h0,hn,hl,_⟩:=hg q hq
   exact⟨h0,hn,q.2,rfl,by omega⟩
 ·obtain⟨q,hq,rfl⟩:=List.mem_map.mp hx'
  exact⟨q.2,List.mem_append_right _ (List.mem_map.mpr ⟨q,hq,rfl⟩),(hg q hq).2.2.1⟩
 ·simp
 ·rcases isnew hm with z | z
  ·by_cases hxx:x∈xs
   ·obtain⟨d,hd⟩:=rP (hc x hxx e he)
    obtain⟨v0,hv0,hl0⟩:=h.new x hxx
    have:w=v0:=h.inj z hv0
    rcases List.mem_append.mp hd with y | y
    ·obtain⟨_,_,v,hv,hl⟩:=h.val _ y
     have hv':d=.str v:=hv
     subst hv'
     exact⟨v,hd,by rw[this,hl0];omega⟩
    ·obtain⟨q,hq,eq⟩:=List.mem_map.mp y
     have eq':d=.str q.2:=by unfold v_ at eq;injection eq with _ b;exact b.symm
     subst eq'
     exact⟨q.2,hd,by rw[(hg q hq).2.2.1,this,hl0];omega⟩
   ·obtain⟨v,hv,hl⟩:=h.cl x w z hxx e he
    exact⟨v,old hv,hl⟩
  ·exact absurd (List.mem_map.mpr ⟨(x,w),z,rfl⟩) hn
 ·rcases isnew hm with z | z
  ·rcases h.tr x w z with a | ⟨y,v,i,pr,h1,h2,h3,h4⟩
   ·exact .inl a
   ·exact .inr ⟨y,v,i,pr,old h1,h2,h3,h4⟩
  ·obtain⟨_,_,_,y,v,i,pr,h1,h2,h3,h4⟩:=hg (x,w) z
   exact .inr ⟨y,v,i,pr,old h1,h2,h3,h4⟩
 ·rw[List.length_append,List.length_map]
  have:ext ≠ []:=fun z=>hne (by rw[z];rfl)
  have:0<ext.length:=List.length_pos_iff.mpr this
  omega
theorem pY{go:Ky->List Ky}{bx:List Ky}{s:Ky}{lf:Bool}(hkd:∀x∈bx,x.isLeft=lf)(hn8:bx.length<=64)(hgo:∀x:Ky,x∈bx->(go x).length=6/\∀e∈go x,True/\e∈bx)(hgo2:True):∀(m:Nat) (xs:List Ky) (kv:KI) (L:Nat),BI go bx s kv xs L->L+m<=100->(xs ≠ []->bx.length+2<=m+kv.length)->1<=m ->
  ∃kf L',(∀c,(∀x:Ky,x∈bx->Gives c go x)->∀d,rU ar c m (xs.map ji) d kv=some kf)/\BI go bx s kf [] L'/\L'<=100
 | 0,_,_,_,_,_,_,h=>absurd h (by decide)
 | m+1,[],kv,L,h,hL,_,_=>⟨kv,L,fun c _ d=>rfl,h,by omega⟩
 | m+1,x::xs,kv,L,h,hL,hm,_=>by
  have hm:=hm (by simp)
  obtain⟨fd,e2,h',hne⟩:=h.step hgo
  have hlen:=h.len
  have hxl:=h.xl
  have po:∀c,(∀x:Ky,x∈bx->Gives c go x)->∀d,ar [.obj 1 d [] [],.lst ((x::xs).map ji),c] d kv=some (.lst (fd.map ji),((x::xs).foldl (kM go) (kv,[])).1):=fun c hG d=>by
   rw[<- e2]
   refine wj (lf:=lf) ⟨fun z=>by rw[z] at hxl;simp at hxl,fun p hp=>hkd _ (h.val p hp).2.1⟩ (fun y hy=>?_) (by omega)
   obtain⟨w,hw,hl⟩:=h.new y hy
   obtain⟨h0,hn,_⟩:=h.val _ hw
   exact⟨⟨hG y hn,hkd y hn,fun e he=>hkd e ((hgo y hn).2 e he).2⟩,w,lN h.nd hw,by omega⟩
  have hlen':=h'.len
  obtain⟨kf,L',hk,hB,hb⟩:=pY hkd hn8 hgo trivial m fd _ (L+1) h' (by omega) (fun z=>by have:=hne z;omega) (by omega)
  refine⟨kf,L',fun c hG d=>?_,hB,hb⟩
  show(ar [.obj 1 d [] [],.lst ((x::xs).map ji),c] d kv).bind _=_
  rw[po c hG d]
  exact hk c hG d
theorem u7{go:Ky->List Ky}{bx:List Ky}{s:Ky}{lf:Bool}(hkd:∀x∈bx,x.isLeft=lf)(hn8:bx.length<=64)(hs:s∈bx)(hgo:∀x:Ky,x∈bx->(go x).length=6/\∀e∈go x,True/\e∈bx) :
  ∃kf L',(∀c,(∀x:Ky,x∈bx->Gives c go x)->∀d,rU ar c 100 [ji s] d [(s,.str (oS ""))]=some kf)/\BI go bx s kf [] L'/\L'<=100:=by
 have he:(oS "").length=0:=by decide +kernel
 refine pY hkd hn8 hgo trivial 100 [s] [(s,.str (oS ""))] 0 ⟨by simp[jG],fun p hp=>?_,List.mem_cons_self,fun x hx=>?_,Nat.le_refl _,fun x w hm hn=>?_,fun x w hm=>?_⟩ (by decide) (fun _=>by simp;omega) (by decide)
 ·rw[List.mem_singleton.mp hp];exact⟨trivial,hs,_,rfl,by rw[he];exact Nat.le_refl _⟩
 ·rw[List.mem_singleton.mp hx];exact⟨_,List.mem_cons_self,he⟩
 ·have z:=List.mem_singleton.mp hm
  injection z with a b
  exact absurd (by rw[a];exact List.mem_cons_self) hn
 ·have z:=List.mem_singleton.mp hm
  injection z with a b
  injection b with b
  exact .inl ⟨a,b⟩
def dq:R->Option Out:=
 (om ar 4 0 1 (.str (oS "")))
def aS:LD->OD:=via 2 4 dq
def gI:R->Option Out:=
 (j5 (jw (e8 (i6 jd (i3 0) (kI 0)) (e8 (i6 jd (i3 0) (kI 1)) i8))))
def bg:LD->OD:=via 1 1 gI
def eT:R->Option Out:=
 (j5 (wu 1 (ku (i6 jd (i3 0) (kI 2))) (setAt 0) qF (i6 jd (i3 0) (kI 0))))
def aC:LD->OD:=via 1 1 eT
def eQ:R->Option Out:=
  (jn (mv (ju mf (jc bg (e8 (i3 0) i8)) (jc bg (e8 (i3 1) i8)))
  (j5 (qX (e8 (kS "") i8)))
  kg)
  (j5 (wu 1 (kQ (jc nL (e8 (fun _=>some az) i8))) (setAt 0) (ju uK (i6 jd (jc aC (e8 (i3 1) i8)) (i3 0)) (i6 jd (jc aC (e8 (i3 2) i8)) (i3 0))) (i6 jd (fun _=>some az) (i3 0)))))
def aQ:LD->OD:=via 2 2 eQ
def eZ:R->Option Out:=
  (jn (jr (nr aS t9 (e8 (jw (e8 (kI 0) (e8 (kI 0) i8))) i8) (pC [1,0])) (setAt 2))
  (Ak 4 i8
  (x8 (ug (pO (i3 2)) (setAt 3)
  (sC 4 (wu 1 (ku (jc aQ (e8 (i6 jd (i6 jd (i3 0) (kI 2)) (i6 jd (i3 3) (kI 0))) (e8 (i6 jd (i6 jd (i3 1) (kI 2)) (i6 jd (i3 3) (kI 1))) i8)))) (setAt 0) qF (i6 jD (i6 xW (i3 3) (i3 4)) (i3 0)))))
  (ym (j5 (jc oK (e8 (i3 4) i8)))))))
def aW:LD->OD:=via 2 5 eZ
theorem gP:∀ds d,aW ds=some d->jK (eZ (pQ 5 ds))=some d:=fun _ _ h=>fh h
theorem gZ:∀ds d,aW ds=some d->ds.length=2:=fun _ _ h=>cJ h
def cB:R->Option Out:=
 (j5 (rX (ju rA (jc aW (e8 (i3 0) (e8 (i3 1) i8))) (fun _=>some .non))))
def aH:LD->OD:=via 2 2 cB
theorem dY:∀ds d,aH ds=some d->jK (cB (pQ 2 ds))=some d:=fun _ _ h=>fh h
theorem dU:∀ds d,aH ds=some d->ds.length=2:=fun _ _ h=>cJ h
def bj:R->Option Out:=
  (jn (mv (ju B_ (i3 1) (jc nL (e8 (i3 0) i8)))
  (j5 (i6 jd (i3 0) (i3 1)))
  kg)
  (j5 (kI 0)))
def aw:LD->OD
 | [.fro xs,.int k]=>if 0<=k then (if k<xs.length then xs[k.toNat]? else some (.int 0)) else none
 | _=>none
theorem cM:∀ds d,aw ds=some d->jK (bj (pQ 2 ds))=some d
 | [.fro xs,.int k],d,h=>by
  unfold aw at h
  dsimp only at h
  split at h
  ·rename_i h0
   split at h
   ·rename_i h1
    obtain⟨hk,e⟩:=List.getElem?_eq_some_iff.mp h
    simp[bj,h1,ro,zI,h0]
    exact e
   ·rename_i h1
    cases h
    simp[bj,h1]
  ·cases h
theorem cV:∀ds d,aw ds=some d->ds.length=2:=fun ds d h=>by unfold aw at h;split at h<;>first | rfl | cases h
def bT:R->Option Out:=
  (jn (jr (i6 jz (i6 qj (i6 jD (i6 jD (jc aw (e8 (i3 0) (e8 (i3 1) i8))) (i6 qj (kI 7919) (i3 1))) (kI 1)) (kI 48271)) (kI 2147483647)) (setAt 2))
  (j5 (i6 jz (i6 jD (i6 jD (i6 qj (i3 2) (i3 2)) (i6 qj (kI 7) (i3 2))) (i3 1)) (kI 2147483629))))
def aq:LD->OD:=via 2 3 bT
theorem uG(ns:List Int)(k:Int)(h0:0<=k):∃c,aw [.fro (ns.map .int),.int k]=some (.int c):=by
 unfold aw
 dsimp only
 rw[if_pos h0]
 by_cases h1:k<((ns.map D.int).length:Int)
 ·rw[if_pos h1]
  have h2:k.toNat<ns.length:=by simp at h1;omega
  exact⟨ns[k.toNat],by rw[List.getElem?_map,List.getElem?_eq_getElem h2];rfl⟩
 ·rw[if_neg h1]
  exact⟨0,rfl⟩
theorem mq(ns:List Int)(k:Int)(h0:0<=k):∃m,aq [.fro (ns.map .int),.int k]=some (.int m)/\0<=m:=by
 obtain⟨c,hc⟩:=uG ns k h0
 generalize hq:(c+7919*k+1)*48271%2147483647=q
 have q0:0<=q:=by rw[<- hq];exact Int.emod_nonneg _ (by decide)
 have q1:q<2147483647:=by rw[<- hq];exact Int.emod_lt_of_pos _ (by decide)
 have m1:jO 7919 k=true:=kB (by decide) (by decide)
 have m2:jO (c+7919*k+1) 48271=true:=pP (by decide) (by decide)
 have m3:jO q q=true:=kB (by omega) (by omega)
 have m4:jO 7 q=true:=kB (by decide) (by decide)
 refine⟨(q*q+7*q+k)%2147483629,?_,Int.emod_nonneg _ (by decide)⟩
 simp[aq,via,bT,hc,m1,m2,hq,m3,m4]
def b_:R->Option Out:=
  (jn (jr (i6 jz (i6 qj (i6 jD (i6 jD (i3 0) (i6 qj (kI 104729) (i3 1))) (kI 17)) (kI 69621)) (kI 2147483647)) (setAt 2))
  (j5 (i6 jz (i6 jD (i6 jD (i6 qj (i3 2) (i3 2)) (i6 qj (kI 3) (i3 2))) (i3 1)) (kI 2147483629))))
def aE:LD->OD:=via 2 3 b_
def qu(n k:Int):Int:=((n+104729*k+17)*69621%2147483647*((n+104729*k+17)*69621%2147483647)+3*((n+104729*k+17)*69621%2147483647)+k)%2147483629
theorem oN(n k:Int):aE [.int n,.int k]=some (.int (qu n k)):=by
 unfold qu
 generalize hq:(n+104729*k+17)*69621%2147483647=q
 have q0:0<=q:=by rw[<- hq];exact Int.emod_nonneg _ (by decide)
 have q1:q<2147483647:=by rw[<- hq];exact Int.emod_lt_of_pos _ (by decide)
 have m1:jO 104729 k=true:=kB (by decide) (by decide)
 have m2:jO (n+104729*k+17) 69621=true:=pP (by decide) (by decide)
 have m3:jO q q=true:=kB (by omega) (by omega)
 have m4:jO 3 q=true:=kB (by decide) (by decide)
 simp[aE,via,b_,m1,m2,hq,m3,m4]
def cz:R->Option Out:=
  (jn (jr (i6 jD (kI 1) (i6 jz (i3 0) (kI 8))) (setAt 1))
  (jn (jr (jw (e8 (kS "none") (e8 (kS "hour") (e8 (kS "minute") (e8 (kS "zero") (e8 (kS "ahour") (e8 (kS "aminute") (e8 (kS "alarm") (e8 (kS "run") (e8 (kS "lap") (e8 (kS "cminute") (e8 (kS "csecond") (e8 (kS "full") i8))))))))))))) (setAt 2))
  (jn (jr (jw i8) (setAt 3))
  (jn (nG (kQ (i3 1)) (setAt 4)
  (jn (jr (i6 j7 (jc aE (e8 (i3 0) (e8 (i3 4) i8))) (kI 4)) (setAt 5))
  (jn (jr (jw i8) (setAt 6))
  (jn (nG (kQ (kI 6)) (setAt 7)
  (jn (jr (i6 j7 (jc aE (e8 (i3 5) (e8 (i6 jD (kI 10) (i3 7)) i8))) (kI 4)) (setAt 8))
  (jr (i6 jD (i3 6) (jw (e8 (jw (e8 (i6 jd (i6 jD (i3 2) (jw (e8 (kS "count") i8))) (i6 jz (i3 8) (kI 13))) (e8 (i6 jz (i6 j7 (i3 8) (kI 16)) (i3 1)) i8))) i8))) (setAt 6))))
  (jn (jr (i6 jd (jw (e8 (kS "time") (e8 (kS "alarm") (e8 (kS "laps") (e8 (kS "count") i8))))) (i6 jz (i3 5) (kI 4))) (setAt 9))
  (jr (i6 jD (i3 3) (jw (e8 (jw (e8 (i3 9) (e8 (rX (ju ql (i6 jz (i6 j7 (i3 5) (kI 4)) (kI 2)) (kI 0))) (e8 (i3 6) i8)))) i8))) (setAt 3)))))))
  (j5 (jw (e8 (i6 jD (kI 1) (i6 jz (i6 j7 (i3 0) (kI 8)) (i6 jd (jw (e8 (kI 3) (e8 (kI 9) i8))) (i6 jz (i6 j7 (i3 0) (kI 128)) (kI 2))))) (e8 (i6 jd (jw (e8 (kI 0) (e8 (kI 7) (e8 (kI 60) (e8 (kI 1) (e8 (kI 20) i8)))))) (i6 jz (i6 j7 (i3 0) (kI 256)) (kI 5))) (e8 (i3 3) i8)))))))))
def aR:LD->OD:=via 1 10 cz
def jT:LD:=[.str (oS "none"),.str (oS "hour"),.str (oS "minute"),.str (oS "zero"),.str (oS "ahour"),.str (oS "aminute"),.str (oS "alarm"),.str (oS "run"),.str (oS "lap"),.str (oS "cminute"),.str (oS "csecond"),.str (oS "full")]
theorem qN:∀x∈nA,oneOf x nA=true/\Fits x:=by
 intro x hx
 simp only[nA,List.mem_cons,List.not_mem_nil,or_false] at hx
 rcases hx with h | h | h | h | h | h | h | h | h | h | h | h | h<;>subst h<;>exact⟨by decide,.str _⟩
theorem rQ:∀x∈oD,oneOf x oD=true/\Fits x:=by
 intro x hx
 simp only[oD,List.mem_cons,List.not_mem_nil,or_false] at hx
 rcases hx with h | h | h | h<;>subst h<;>exact⟨by decide,.str _⟩
def mO:R->Option Out:=(jn (jr (i6 j7 (jc aE (e8 (i3 5) (e8 (i6 jD (kI 10) (i3 7)) i8))) (kI 4)) (setAt 8))
 (jr (i6 jD (i3 6) (jw (e8 (jw (e8 (i6 jd (i6 jD (i3 2) (jw (e8 (kS "count") i8))) (i6 jz (i3 8) (kI 13))) (e8 (i6 jz (i6 j7 (i3 8) (kI 16)) (i3 1)) i8))) i8))) (setAt 6)))
theorem sz{n:Nat}(h:n<=1000):n<=sizeLine:=Nat.le_trans h (by decide)
theorem gq{N m:Int}{ms rs:LD}{a b f:OD}{q j:Int}(hm:0<m)(hr:rs.length<=100)(hk:∀x∈rs,mG x m=true/\Fits x) :
  ∃o r,mO [some (.int N),some (.int m),some (.tup jT),some (.tup ms),a,some (.int q),some (.tup rs),some (.int j),b,f]=some (.nx [some (.int N),some (.int m),some (.tup jT),some (.tup ms),a,some (.int q),some (.tup (rs++[r])),some (.int j),o,f])/\mG r m=true/\Fits r:=by
 generalize hz:qu q (10+j) / 4=z
 obtain⟨x,hx,hat⟩:=mC (xs:=nA) (i:=z%13) (Int.emod_nonneg _ (by decide)) (Int.emod_lt_of_pos _ (by decide))
 have w0:0<=z / 16%m:=Int.emod_nonneg _ (by omega)
 have w1:z / 16%m<m:=Int.emod_lt_of_pos _ hm
 have hl:rs.length+1<=sizeLine:=sz (by omega)
 have hd:jT++[.str (oS "count")]=nA:=rfl
 have hs:jT.length+1<=sizeLine:=by decide
 refine⟨some (.int z),.tup [x,.int (z / 16%m)],?_,?_,?_⟩
 ·simp[mO,oN,hz,hd,hat,hm,hl,hs]
 ·simp[mG,(qN x hx).1,within,w0]
  omega
 ·exact .tup (by simp) (by
   intro y hy
   simp at hy
   rcases hy with h | h<;>subst h
   ·exact(qN _ hx).2
   ·exact .int _)
def mS:R->Option Out:=(jn (jr (i6 j7 (jc aE (e8 (i3 0) (e8 (i3 4) i8))) (kI 4)) (setAt 5))
  (jn (jr (jw i8) (setAt 6))
  (jn (nG (kQ (kI 6)) (setAt 7) mO)
  (jn (jr (i6 jd (jw (e8 (kS "time") (e8 (kS "alarm") (e8 (kS "laps") (e8 (kS "count") i8))))) (i6 jz (i3 5) (kI 4))) (setAt 9))
  (jr (i6 jD (i3 3) (jw (e8 (jw (e8 (i3 9) (e8 (rX (ju ql (i6 jz (i6 j7 (i3 5) (kI 4)) (kI 2)) (kI 0))) (e8 (i3 6) i8)))) i8))) (setAt 3))))))
def AB(N m q:Int)(ms:LD)(a f:OD)(i:Nat)(ρ:R):Prop:=∃rs o j,ρ=[some (.int N),some (.int m),some (.tup jT),some (.tup ms),a,some (.int q),some (.tup rs),j,o,f]/\rs.length=i/\∀x∈rs,mG x m=true/\Fits x
theorem fS{N m q:Int}{ms:LD}{a b c f:OD}(hm:0<m) :
  ∃rs o j,qC (setAt 7) mO (kx 0 6) [some (.int N),some (.int m),some (.tup jT),some (.tup ms),a,some (.int q),some (.tup []),b,c,f]=some (.nx [some (.int N),some (.int m),some (.tup jT),some (.tup ms),a,some (.int q),some (.tup rs),j,o,f])/\rs.length=6/\∀x∈rs,mG x m=true/\Fits x:=by
 obtain⟨ρ',h1,rs,o,j,h2,h3,h4⟩:=oq (st:=setAt 7) (body:=mO) (AB N m q ms a f) (kx 0 6) 0 [some (.int N),some (.int m),some (.tup jT),some (.tup ms),a,some (.int q),some (.tup []),b,c,f]
  ⟨[],c,b,rfl,rfl,fun x hx=>nomatch hx⟩ (fun i d ρ e p=>by
   obtain⟨rs,o,j,rfl,hl,hk⟩:=p
   obtain⟨rfl,hi⟩:=eW e
   obtain⟨o',r,h1,h2,h3⟩:=gq (N:=N) (ms:=ms) (a:=a) (b:=o) (f:=f) (q:=q) (j:=(i:Int)) hm (rs:=rs) (by omega) hk
   refine⟨_,_,rfl,h1,rs++[r],o',_,rfl,by simp[hl],fun x hx=>?_⟩
   rcases List.mem_append.mp hx with hx | hx
   ·exact hk x hx
   ·cases List.mem_singleton.mp hx
    exact⟨h2,h3⟩)
 subst h2
 refine⟨rs,o,j,h1,?_,h4⟩
 rw[h3,fm]
 rfl
theorem fR{N m:Int}{ms:LD}{k:Int}{a b c d e:OD}(hm:0<m)(hms:ms.length<=100) :
  ∃r o1 o2 o3 o4 o5,mS [some (.int N),some (.int m),some (.tup jT),some (.tup ms),some (.int k),a,b,c,d,e]=some (.nx [some (.int N),some (.int m),some (.tup jT),some (.tup (ms++[r])),some (.int k),o1,o2,o3,o4,o5])/\mi r m=true/\Fits r:=by
 generalize hq:qu N k / 4=q
 obtain⟨rs,o,j,h1,h2,h3⟩:=fS (N:=N) (m:=m) (q:=q) (ms:=ms) (a:=some (.int k)) (b:=c) (c:=d) (f:=e) hm
 obtain⟨x,hx,hat⟩:=mC (xs:=oD) (i:=q%4) (Int.emod_nonneg _ (by decide)) (Int.emod_lt_of_pos _ (by decide))
 have hl:ms.length+1<=sizeLine:=sz (by omega)
 refine⟨.tup [x,.bl (q / 4%2==0),.tup rs],some (.int q),some (.tup rs),j,o,some x,?_,?_,?_⟩
 rotate_left 1
 ·have ha:(rs.all fun y=>mG y m)=true:=List.all_eq_true.mpr fun y hy=>(h3 y hy).1
  simp[mi,(rQ x hx).1,sj,h2,ha]
 ·refine .tup (by simp) fun y hy=>?_
  simp at hy
  rcases hy with h | h | h<;>subst h
  ·exact(rQ _ hx).2
  ·exact .bl _
  ·exact .tup (by omega) fun y hy=>(h3 y hy).2
 ·have hat':ro [.str (oS "time"),.str (oS "alarm"),.str (oS "laps"),.str (oS "count")] (q%4)=some x:=hat
  simp[mS,oN,hq,h1,hat',hl]
def AF(N m:Int)(i:Nat)(ρ:R):Prop:=∃ms a b c d e f,ρ=[some (.int N),some (.int m),some (.tup jT),some (.tup ms),a,b,c,d,e,f]/\ms.length=i/\∀x∈ms,mi x m=true/\Fits x
theorem dg(N:Int):∃b,aR [.int N]=some b/\qD b=true/\Fits b:=by
  generalize hM:1+N%8=m
  have hm0:0<m:=by have:=Int.emod_nonneg N (show(8:Int)≠0 by decide);omega
  have hm8:m<=8:=by have:=Int.emod_lt_of_pos N (show(0:Int)<8 by decide);omega
  obtain⟨ρ',h1,ms,a,b,c,d,e,f,h2,h3,h4⟩:=oq (st:=setAt 4) (body:=mS) (AF N m) (kx 0 m) 0 [some (.int N),some (.int m),some (.tup jT),some (.tup []),none,none,none,none,none,none]
    ⟨[],none,none,none,none,none,none,rfl,rfl,fun x hx=>nomatch hx⟩ (fun i d ρ e p=>by
      obtain⟨ms,a,b,c,d',e',f,rfl,hl,hk⟩:=p
      obtain⟨rfl,hi⟩:=eW e
      obtain⟨r,o1,o2,o3,o4,o5,h1,h2,h3⟩:=fR (N:=N) (ms:=ms) (k:=(i:Int)) (a:=b) (b:=c) (c:=d') (d:=e') (e:=f) hm0 (by omega)
      refine⟨_,_,rfl,h1,ms++[r],_,_,_,_,_,_,rfl,by simp[hl],fun x hx=>?_⟩
      rcases List.mem_append.mp hx with hx | hx
      · exact hk x hx
      · cases List.mem_singleton.mp hx
        exact⟨h2,h3⟩)
  subst h2
  rw[fm] at h3
  have hlen:((ms.length:Nat):Int)=m:=by omega
  have hr : -4611686018427387904<=m/\m<4611686018427387904:=by omega
  obtain⟨p,hp,hat⟩:=mC (xs:=[.int 3,.int 9]) (i:=N / 128%2) (Int.emod_nonneg _ (by decide)) (Int.emod_lt_of_pos _ (by decide))
  have hp':∃v:Int,p=.int v/\0<v/\v<=9:=by
    simp at hp
    rcases hp with h | h<;>subst h
    · exact⟨3,rfl,by decide,by decide⟩
    · exact⟨9,rfl,by decide,by decide⟩
  obtain⟨v,rfl,hv0,hv9⟩:=hp'
  obtain⟨p2,hp2,hat2⟩:=mC (xs:=[.int 0,.int 7,.int 60,.int 1,.int 20]) (i:=N / 256%5) (Int.emod_nonneg _ (by decide)) (Int.emod_lt_of_pos _ (by decide))
  have hp2':∃v:Int,p2=.int v/\0<=v/\v<=60:=by
    simp at hp2
    rcases hp2 with h | h | h | h | h<;>subst h
    · exact⟨0,rfl,by decide,by decide⟩
    · exact⟨7,rfl,by decide,by decide⟩
    · exact⟨60,rfl,by decide,by decide⟩
    · exact⟨1,rfl,by decide,by decide⟩
    · exact⟨20,rfl,by decide,by decide⟩
  obtain⟨v2,rfl,hv20,hv260⟩:=hp2'
  have w0:0<=N / 8%v:=Int.emod_nonneg _ (by omega)
  have w1:N / 8%v<v:=Int.emod_lt_of_pos _ hv0
  refine⟨.tup [.int (1+N / 8%v),.int v2,.tup ms],?_,?_,?_⟩
  · have hg:cz=(jn (jr (i6 jD (kI 1) (i6 jz (i3 0) (kI 8))) (setAt 1))
      (jn (jr (jw (e8 (kS "none") (e8 (kS "hour") (e8 (kS "minute") (e8 (kS "zero") (e8 (kS "ahour") (e8 (kS "aminute") (e8 (kS "alarm") (e8 (kS "run") (e8 (kS "lap") (e8 (kS "cminute") (e8 (kS "csecond") (e8 (kS "full") i8))))))))))))) (setAt 2))
      (jn (jr (jw i8) (setAt 3))
      (jn (nG (kQ (i3 1)) (setAt 4) mS)
      (j5 (jw (e8 (i6 jD (kI 1) (i6 jz (i6 j7 (i3 0) (kI 8)) (i6 jd (jw (e8 (kI 3) (e8 (kI 9) i8))) (i6 jz (i6 j7 (i3 0) (kI 128)) (kI 2))))) (e8 (i6 jd (jw (e8 (kI 0) (e8 (kI 7) (e8 (kI 60) (e8 (kI 1) (e8 (kI 20) i8)))))) (i6 jz (i6 j7 (i3 0) (kI 256)) (kI 5))) (e8 (i3 3) i8))))))))):=rfl
    unfold jT at h1
    simp[aR,via,hg,hM,hr,h1,hat,hat2,hv0]
  · have ha:(ms.all fun y=>mi y ms.length)=true:=List.all_eq_true.mpr fun y hy=>by rw[hlen];exact(h4 y hy).1
    have g1:1<=ms.length:=by omega
    have g8:ms.length<=8:=by omega
    simp[qD,within,qz,ha,g1,g8]
    omega
  · refine .tup (by simp) fun y hy=>?_
    simp at hy
    rcases hy with h | h | h<;>subst h
    · exact .int _
    · exact .int _
    · exact .tup (by omega) fun y hy=>(h4 y hy).2
def dQ:R->Option Out:=
  (jn (jr (jc nL (e8 (i6 jd (i3 0) (kI 2)) i8)) (setAt 2))
  (jn (jr (i6 jz (i6 j7 (i3 1) (kI 8)) (i3 2)) (setAt 3))
  (jn (jr (i6 jd (i6 jd (i3 0) (kI 2)) (i3 3)) (j6 [(setAt 4),(setAt 5),(setAt 6)]))
  (jn (jr (i6 jz (i6 j7 (i3 1) (kI 64)) (kI 6)) (setAt 7))
  (jn (jr (i6 jd (i3 6) (i3 7)) (setAt 8))
  (jn (mv (ju ql (i6 jz (i3 1) (kI 4)) (kI 0))
  (jr (jw (e8 (i6 jd (jw (e8 (kS "none") (e8 (kS "hour") (e8 (kS "run") (e8 (kS "count") i8))))) (i6 jz (i6 j7 (i3 1) (kI 512)) (kI 4))) (e8 (i6 jd (i3 8) (kI 1)) i8))) (setAt 8))
  (mv (ju ql (i6 jz (i3 1) (kI 4)) (kI 1))
  (jr (jw (e8 (i6 jd (i3 8) (kI 0)) (e8 (i6 jz (i6 j7 (i3 1) (kI 512)) (i3 2)) i8))) (setAt 8))
  (mv (ju ql (i6 jz (i3 1) (kI 4)) (kI 2))
  (jr (xM (i3 5)) (setAt 5))
  kg)))
  (jn (jr (jw (e8 (i3 4) (e8 (i3 5) (e8 (i6 jD (i6 jD (mw (i3 6) my (aP (i3 7))) (jw (e8 (i3 8) i8))) (mw (i3 6) (aP (i6 jD (i3 7) (kI 1))) my)) i8)))) (setAt 9))
  (j5 (jw (e8 (i6 jd (i3 0) (kI 0)) (e8 (i6 jz (i6 j7 (i3 1) (kI 4096)) (kI 61)) (e8 (i6 jD (i6 jD (mw (i6 jd (i3 0) (kI 2)) my (aP (i3 3))) (jw (e8 (i3 9) i8))) (mw (i6 jd (i3 0) (kI 2)) (aP (i6 jD (i3 3) (kI 1))) my)) i8))))))))))))
def aZ:LD->OD:=via 2 10 dQ
def bw:NU:=
  (pd (kF (mv (zf (ju uK (i3 6) (i3 8)) (ju mf (mw (i6 jd (i6 jd (i3 0) (kI 2)) (i3 7)) my (aP (kI 2))) (mw (i6 jd (i6 jd (i3 1) (kI 2)) (i3 9)) my (aP (kI 2)))))
  (j5 (i3 3))
  kg))
  (A1 (ju n6 (jw (e8 (i3 7) (e8 (i3 9) i8))) (i3 10))
  (pd (rH 10 0 (jw (e8 (i3 7) (e8 (i3 9) i8))))
  (rH 11 1 (jw (e8 (i3 7) (e8 (i3 9) i8)))))
  yn))
def au:NU:=
 (vR (tU (i6 jd (i6 jd (i6 jd (i3 0) (kI 2)) (i3 4)) (kI 2)) (i6 jd (i6 jd (i6 jd (i3 1) (kI 2)) (i3 5)) (kI 2))) (j6 [(j6 [(setAt 6),(setAt 7)]),(j6 [(setAt 8),(setAt 9)])]) bw)
def ao:NU:=
  (pd (kF (jr (i6 jD (i3 3) (kI 1)) (setAt 3)))
  (zv 11 2 i8
  (vR (ku (i3 2)) (j6 [(setAt 4),(setAt 5)]) au)))
def cX:R->Option Out:=
  (jn (mv (ju mf (mw (i6 jd (i6 jd (i3 0) (kI 2)) (kI 0)) my (aP (kI 2))) (mw (i6 jd (i6 jd (i3 1) (kI 2)) (kI 0)) my (aP (kI 2))))
  (j5 (kI 0))
  kg)
  (wY 10 (e8 (jw (e8 (kI 0) (e8 (kI 0) i8))) i8)
  (pd (kF (jr (qX (e8 (jw (e8 (kI 0) (e8 (kI 0) i8))) i8)) (setAt 2)))
  (pd (kF (jr (kI 0) (setAt 3)))
  (pd (sr 100 (ju wL (i3 2) (qX i8)) ao)
  (kF (j5 (fun _=>some .non))))))))
def aO:LD->OD:=via 2 12 cX
def cx:R->Option Out:=
  (jn (jr (kI 0) (setAt 3))
  (jn (jr (kI 0) (setAt 4))
  (jn (jr (rX (ju mf (mw (i6 jd (i6 jd (i3 0) (kI 2)) (kI 0)) my (aP (kI 2))) (mw (i6 jd (i6 jd (i3 1) (kI 2)) (kI 0)) my (aP (kI 2))))) (setAt 5))
  (jn (nG (ku (i3 2)) (setAt 6)
  (jn (mv (xQ (i3 5))
  (j5 (fun _=>some (.bl false)))
  kg)
  (jn (jr (jc nD (e8 (kS "abcABC") (e8 (i3 6) i8))) (setAt 7))
  (jn (jr (i6 jd (i6 jd (i6 jd (i6 jd (i3 0) (kI 2)) (i3 3)) (kI 2)) (i3 7)) (j6 [(setAt 8),(setAt 3)]))
  (jn (jr (i6 jd (i6 jd (i6 jd (i6 jd (i3 1) (kI 2)) (i3 4)) (kI 2)) (i3 7)) (j6 [(setAt 9),(setAt 4)]))
  (jr (Ai (rX (ju uK (i3 8) (i3 9))) (rX (ju mf (mw (i6 jd (i6 jd (i3 0) (kI 2)) (i3 3)) my (aP (kI 2))) (mw (i6 jd (i6 jd (i3 1) (kI 2)) (i3 4)) my (aP (kI 2)))))) (setAt 5)))))))
  (j5 (i3 5))))))
def aJ:LD->OD:=via 3 10 cx
def dB:R->Option Out:=
 (jr (jc aR (e8 (jc aq (e8 (i3 0) (e8 (kI 0) i8))) i8)) (setAt 1))
def fe:R->Option Out:=
 (jr (jc aZ (e8 (i3 1) (e8 (jc aq (e8 (i3 0) (e8 (kI 1) i8))) i8))) (setAt 2))
def dE:R->Option Out:=
  (mv (ju ql (i6 jz (jc aq (e8 (i3 0) (e8 (kI 2) i8))) (kI 4)) (kI 0))
  (jr (jc aR (e8 (i6 j7 (jc aq (e8 (i3 0) (e8 (kI 2) i8))) (kI 4)) i8)) (setAt 2))
  kg)
def ft:R->Option Out:=
 (jr (jc aO (e8 (i3 1) (e8 (i3 2) i8))) (setAt 3))
def fx:R->Option Out:=
 (jr (jc aW (e8 (i3 1) (e8 (i3 2) i8))) (setAt 4))
def dl:R->Option Out:=
 (jr (jc aH (e8 (i3 1) (e8 (i3 2) i8))) (setAt 5))
def fk:R->Option Out:=
  (mv (zf (Az (xQ (Cg "bool" (i3 5)))) (zf (ju uK (i3 5) (rX (ju rA (i3 3) (fun _=>some .non)))) (ju uK (rX (ju rA (i3 4) (fun _=>some .non))) (rX (ju rA (i3 3) (fun _=>some .non))))))
  (j5 (fun _=>some (.bl false)))
  kg)
def fi:R->Option Out:=
 (j5 (Ai (rX (ju rA (i3 4) (fun _=>some .non))) (xo (rX (ju ql (jc oh (e8 (i3 4) i8)) (i3 3))) (jc aJ (e8 (i3 1) (e8 (i3 2) (e8 (i3 4) i8)))))))
def fU:R->Option Out:=
 (jn dB (jn fe (jn dE (jn ft (jn fx (jn dl (jn fk fi)))))))
def cy:LD->OD:=via 1 6 fU
theorem iU:∀ds d,cy ds=some d->jK (fU (pQ 6 ds))=some d:=fun _ _ h=>fh h
theorem iZ:∀ds d,cy ds=some d->ds.length=1:=fun _ _ h=>cJ h
abbrev Pp:=Nat×Nat
def Bk.md(b:Bk)(x:Nat):Md:=b.modes.getD x default
def Md.row(m:Md)(k:Nat):kL×Nat:=m.rows.getD k default
def jV(A B:Bk)(p:Pp)(k:Nat):Pp:=(((A.md p.1).row k).2,((B.md p.2).row k).2)
def ri(A B:Bk)(p:Pp):Bool:=!(decide ((A.md p.1).face=(B.md p.2).face)&&((A.md p.1).stays==(B.md p.2).stays))
def xV(A B:Bk)(p:Pp)(k:Nat):Bool:=!decide (((A.md p.1).row k).1=((B.md p.2).row k).1)
def Wd(u:List Nat):Prop:=∀k∈u,k<6
def run(A B:Bk)(u:List Nat):Pp:=u.foldl (jV A B) (0,0)
theorem jX{A B:Bk}(v:List Nat)(k:Nat):run A B (v++[k])=jV A B (run A B v) k:=by simp[run]
theorem j2{v:List Nat}{k:Nat}:Wd (v++[k])↔Wd v/\k<6:=by
 unfold Wd
 constructor
 ·intro h
  exact⟨fun j hj=>h j (List.mem_append_left _ hj),h k (by simp)⟩
 ·rintro⟨h1,h2⟩ j hj
  rcases List.mem_append.mp hj with z | z
  ·exact h1 j z
  ·rw[List.mem_singleton.mp z];exact h2
def Pt(A B:Bk)(u:List Nat):Prop:=(u=[]/\ri A B (0,0)=true)\/∃v k,u=v++[k]/\(xV A B (run A B v) k=true\/ri A B (run A B u)=true)
theorem nk{A B:Bk}:Pt A B []↔ri A B (0,0)=true:=by
 constructor
 ·rintro(h | ⟨v,k,h,_⟩)
  ·exact h.2
  ·simp at h
 ·exact fun h=>.inl ⟨rfl,h⟩
theorem nX{A B:Bk}{v:List Nat}{k:Nat}:Pt A B (v++[k])↔xV A B (run A B v) k=true\/ri A B (jV A B (run A B v) k)=true:=by
 constructor
 ·rintro(h | ⟨v',k',h,h2⟩)
  ·simp at h
  ·obtain⟨rfl,h3⟩:=List.append_inj' h rfl
   cases h3
   rw[jX] at h2
   exact h2
 ·intro h
  exact .inr ⟨v,k,rfl,by rw[jX];exact h⟩
theorem snoc_cases(u:List Nat):u=[]\/∃v k,u=v++[k]:=by
 rcases List.eq_nil_or_concat u with h | ⟨v,k,h⟩
 ·exact .inl h
 ·exact .inr ⟨v,k,by rw[h];simp⟩
theorem i_{A B:Bk}{u:List Nat}(h:ri A B (run A B u)=true):Pt A B u:=by
 rcases snoc_cases u with rfl | ⟨v,k,rfl⟩
 ·exact nk.mpr h
 ·rw[jX] at h
  exact nX.mpr (.inr h)
def rY(A B:Bk)(p:Pp):Prop:=p.1<A.modes.length/\p.2<B.modes.length
theorem yu{b:Bk}{x:Nat}(h:x<b.modes.length):b.md x∈b.modes:=by
 unfold Bk.md
 rw[List.getD_eq_getElem?_getD,List.getElem?_eq_getElem h]
 exact List.getElem_mem h
theorem lY{b:Bk}(ok:b.Ok){x:Nat}(h:x<b.modes.length):(b.md x).Ok b.modes.length:=ok.all _ (yu h)
theorem pK{m:Md}{k:Nat}(h:k<m.rows.length):m.rows[k]?=some (m.row k):=by
 unfold Md.row
 rw[List.getD_eq_getElem?_getD,List.getElem?_eq_getElem h];rfl
theorem oW{A B:Bk}(hA:A.Ok)(hB:B.Ok){p:Pp}{k:Nat}(h:rY A B p)(hk:k<6):rY A B (jV A B p k):=by
 have a:=lY hA h.1
 have b:=lY hB h.2
 exact⟨a.nx _ (List.mem_of_getElem? (pK (by rw[a.six];exact hk))),b.nx _ (List.mem_of_getElem? (pK (by rw[b.six];exact hk)))⟩
theorem ze{A B:Bk}(hA:A.Ok)(hB:B.Ok):rY A B (0,0):=⟨hA.some1,hB.some1⟩
theorem xh{A B:Bk}(hA:A.Ok)(hB:B.Ok)(u:List Nat):Wd u->rY A B (run A B u):=by
 have:∀(u:List Nat) (p:Pp),rY A B p->Wd u->rY A B (u.foldl (jV A B) p):=fun u=>by
  induction u with
  | nil=>exact fun p h _=>h
  | cons k u ih=>exact fun p h w=>ih _ (oW hA hB h (w k List.mem_cons_self)) fun j hj=>w j (List.mem_cons_of_mem _ hj)
 exact this u (0,0) (ze hA hB)
structure wR (A B:Bk) (m:Nat):Prop where
 ex:∃u,Wd u/\u.length=m/\Pt A B u
 no:∀u,Wd u->u.length<m->¬ Pt A B u
def Ax(A B:Bk):Prop:=∀u,Wd u->¬ Pt A B u
theorem tT(f g:Face)(s t:Bool):mf (.tup [.str f.x,.bl s]) (.tup [.str g.x,.bl t])=some (!(decide (f=g)&&(s==t))):=by
 cases f<;>cases g<;>cases s<;>cases t<;>decide +kernel
def kL.ofX(x:Str):Option kL:=[kL.none,.hour,.minute,.zero,.ahour,.aminute,.alarm,.run,.lap,.cminute,.csecond,.full,.count].find? (·.x==x)
theorem yb(d:kL):kL.ofX d.x=some d:=by cases d<;>rfl
theorem u6{a b:kL}(h:a.x=b.x):a=b:=by
 have:=yb a
 rw[h,yb b] at this
 exact(Option.some.inj this).symm
theorem qw(a b:kL):uK (.str a.x) (.str b.x)=some (!decide (a=b)):=by
 show some (!(a.x==b.x))=_
 by_cases h:a=b
 ·subst h;simp
 ·rw[decide_eq_false h,beq_eq_false_iff_ne.mpr fun z=>h (u6 z)]
theorem AN{b:Bk}{x:Nat}(h:x<b.modes.length):ro (b.modes.map Md.d) (x:Int)=some (b.md x).d:=
 mn (by rw[List.getElem?_map,List.getElem?_eq_getElem h];unfold Bk.md;rw[List.getD_eq_getElem?_getD,List.getElem?_eq_getElem h];rfl)
theorem lZ{b:Bk}{x:Nat}{f g:R->OD}{ρ:R}(hf:f ρ=some b.d)(hg:g ρ=some (.int (x:Int)))(h:x<b.modes.length):i6 jd (i6 jd f (kI 2)) g ρ=some (b.md x).d:=by
 show((f ρ).bind fun x=>(some (D.int 2)).bind fun y=>jd x y).bind (fun x=>(g ρ).bind fun y=>jd x y)=_
 rw[hf,hg]
 exact AN h
theorem u9{f:R->OD}{ρ:R}{m:Md}(h:f ρ=some m.d):mw f my (aP (kI 2)) ρ=some (.tup [.str m.face.x,.bl m.stays]):=by
 show(f ρ).bind _=_
 rw[h];rfl
theorem mT{A B:Bk}{x y:Nat}{f g f' g':R->OD}{ρ:R}(hf:f ρ=some A.d)(hg:g ρ=some (.int (x:Int)))(hx:x<A.modes.length)(hf':f' ρ=some B.d)(hg':g' ρ=some (.int (y:Int)))(hy:y<B.modes.length) :
  ju mf (mw (i6 jd (i6 jd f (kI 2)) g) my (aP (kI 2))) (mw (i6 jd (i6 jd f' (kI 2)) g') my (aP (kI 2))) ρ=some (ri A B (x,y)):=
 (lc (u9 (lZ hf hg hx)) (u9 (lZ hf' hg' hy))).trans (tT _ _ _ _)
theorem cN{m:Md}(h:m.rows.length=6){β:Type}(f:kL×Nat->β):m.rows.map f=(List.range 6).map fun k=>f (m.row k):=by
 apply List.ext_getElem?
 intro i
 rw[List.getElem?_map,List.getElem?_map]
 by_cases hi:i<6
 ·rw[pK (by omega),List.getElem?_range hi];rfl
 ·rw[List.getElem?_eq_none (by omega),List.getElem?_eq_none (by simpa using hi)];rfl
theorem fg(m:Md):bg [m.d]=some (.tup [.str m.face.x,.bl m.stays]):=rfl
theorem tG{m:Md}(h:m.rows.length=6){j:Int}{f:kL×Nat->D}(hf:∀r,jd (jv r) (.int j)=some (f r)):wu 1 (ku (i6 jd (i3 0) (kI 2))) (setAt 0) qF (i6 jd (i3 0) (kI j)) [some m.d]=some (.lst ((List.range 6).map fun k=>f (m.row k))):=by
 have hc:lz (setAt 0) qF (i6 jd (i3 0) (kI j)) (m.rows.map jv) (List.replicate 1 none++[some m.d])=some ((m.rows.map jv).map fun d=>(jd d (.int j)).getD .non):=
  nj _ fun d hd=>by
   obtain⟨r,_,rfl⟩:=List.mem_map.mp hd
   refine⟨_,rfl,?_⟩
   rw[hf r]
   exact hf r
 have hi:ku (i6 jd (i3 0) (kI 2)) [some m.d]=some (m.rows.map jv):=rfl
 unfold wu
 rw[hi,Option.bind_some,if_pos (x6 (by rw[List.length_map];omega)),hc,List.map_map,cN h]
 show some (D.lst _)=_
 congr 2
 apply List.map_congr_left
 intro k _
 show(jd (jv (m.row k)) (.int j)).getD .non=_
 rw[hf];rfl
theorem fy{m:Md}(h:m.rows.length=6):br [m.d]=some (.lst ((List.range 6).map fun k=>.int ((m.row k).2:Int))):=
 lL (tG h (j:=1) (f:=fun r=>.int (r.2:Int)) fun _=>rfl)
theorem fj{m:Md}(h:m.rows.length=6):aC [m.d]=some (.lst ((List.range 6).map fun k=>.str (m.row k).1.x)):=
 lL (tG h (j:=0) (f:=fun r=>.str r.1.x) fun _=>rfl)
theorem iq{m m':Md}(h:m.rows.length=6)(h':m'.rows.length=6):aK [m.d,m'.d]=some (.lst ((List.range 6).map fun k=>.tup [.int ((m.row k).2:Int),.int ((m'.row k).2:Int)])):=by
 refine lL ?_
 show((jc br (e8 (i3 0) i8) [some m.d,some m'.d]).bind fun x=>(jc br (e8 (i3 1) i8) [some m.d,some m'.d]).bind fun y=>_)=_
 rw[lB (x:=m.d) rfl (fy h),lB (x:=m'.d) rfl (fy h'),Option.bind_some,Option.bind_some]
 show(if _ then some (D.lst (lb _ _)) else none)=_
 rw[if_pos (by simp)]
 rfl
def kX(p:Pp):Ky:=.inr ((p.1:Int),(p.2:Int))
def jA(p:Pp):D:=.tup [.int (p.1:Int),.int (p.2:Int)]
def uT(A B:Bk):Ky->List Ky
 | .inr q=>(List.range 6).map fun k=>kX (jV A B (q.1.toNat,q.2.toNat) k)
 | .inl _=>[]
theorem nW(A B:Bk)(p:Pp):uT A B (kX p)=(List.range 6).map fun k=>kX (jV A B p k):=rfl
def ui(A B:Bk):List Ky:=(List.range A.modes.length).flatMap fun i=>(List.range B.modes.length).map fun j=>kX (i,j)
theorem lG{A B:Bk}{x:Ky}:x∈ui A B↔∃p,rY A B p/\x=kX p:=by
 unfold ui
 rw[List.mem_flatMap]
 constructor
 ·rintro⟨i,hi,hx⟩
  obtain⟨j,hj,rfl⟩:=List.mem_map.mp hx
  exact⟨(i,j),⟨List.mem_range.mp hi,List.mem_range.mp hj⟩,rfl⟩
 ·rintro⟨p,h,rfl⟩
  exact⟨p.1,List.mem_range.mpr h.1,List.mem_map.mpr ⟨p.2,List.mem_range.mpr h.2,rfl⟩⟩
theorem cO{α β:Type}(f:α->List β)(c:Nat):∀l:List α,(∀x∈l,(f x).length=c)->(l.flatMap f).length=l.length*c
 | [],_=>by simp
 | a::l,h=>by
  rw[List.flatMap_cons,List.length_append,h a List.mem_cons_self,cO f c l fun x hx=>h x (List.mem_cons_of_mem _ hx),List.length_cons,Nat.succ_mul]
  omega
theorem we{A B:Bk}(hA:A.Ok)(hB:B.Ok):(ui A B).length<=64:=by
 unfold ui
 rw[cO _ B.modes.length _ fun x _=>by simp,List.length_range]
 exact Nat.mul_le_mul hA.some8 hB.some8
theorem uY{A B:Bk}:∀x∈ui A B,x.isLeft=false:=fun x hx=>by
 obtain⟨p,_,rfl⟩:=lG.mp hx
 rfl
theorem yo{A B:Bk}(hA:A.Ok)(hB:B.Ok):∀x:Ky,x∈ui A B->(uT A B x).length=6/\∀e∈uT A B x,True/\e∈ui A B:=fun x hx=>by
 obtain⟨p,hp,rfl⟩:=lG.mp hx
 rw[nW]
 refine⟨by simp,fun e he=>⟨trivial,?_⟩⟩
 obtain⟨k,hk,rfl⟩:=List.mem_map.mp he
 exact lG.mpr ⟨_,oW hA hB hp (List.mem_range.mp hk),rfl⟩
theorem bW{α:Type}{f:α->D}(h:∀a,l6 (f a)=true):∀l:List α,jS (l.map f)=true
 | []=>rfl
 | a::l=>by show(l6 (f a)&&jS _)=true;rw[h a,bW h l];rfl
theorem hU(r:kL×Nat):l6 (jv r)=true:=rfl
theorem iI(m:Md):l6 m.d=true:=by
 show(true&&(true&&(jS (m.rows.map jv)&&true)))=true
 rw[bW hU];rfl
theorem dG(b:Bk):l6 b.d=true:=by
 show(true&&(true&&(jS (b.modes.map Md.d)&&true)))=true
 rw[bW iI];rfl
theorem r_{A B:Bk}(hA:A.Ok)(hB:B.Ok){a:Nat}(x:Ky)(hx:x∈ui A B):Gives (.cl t9 a [B.d,A.d]) (uT A B) x:=by
 obtain⟨p,hp,rfl⟩:=lG.mp hx
 refine⟨(yo hA hB _ hx).1,fun ρ h2 h3=>?_⟩
 unfold oQ
 rw[h2,Option.bind_some]
 show((i3 3 ρ).bind fun y=>(some []).map (y::·)).bind _=_
 rw[h3]
 show(LL t9).bind _=_
 rw[Cw,Option.bind_some]
 rw[if_pos ⟨rfl,by show(l6 _&&(l6 _&&true))=true;rw[dG,dG];rfl,Bw.symm⟩]
 have e3:uE 3 vH ([ji (kX p)]++[B.d,A.d])=some (.lst ((uT A B (kX p)).map ji)):=by
  show jc aK _ [some (ji (kX p)),some B.d,some A.d]=_
  have e1:=lZ (b:=A) (x:=p.1) (f:=i3 2) (g:=i6 jd (i3 0) (kI 0)) (ρ:=[some (ji (kX p)),some B.d,some A.d]) rfl rfl hp.1
  have e2:=lZ (b:=B) (x:=p.2) (f:=i3 1) (g:=i6 jd (i3 0) (kI 1)) (ρ:=[some (ji (kX p)),some B.d,some A.d]) rfl rfl hp.2
  have e4:e8 (i6 jd (i6 jd (i3 2) (kI 2)) (i6 jd (i3 0) (kI 0))) (e8 (i6 jd (i6 jd (i3 1) (kI 2)) (i6 jd (i3 0) (kI 1))) i8) [some (ji (kX p)),some B.d,some A.d]=some [(A.md p.1).d,(B.md p.2).d]:=by
   show(i6 jd _ _ _).bind (fun x=>((i6 jd _ _ _).bind fun y=>(some []).map (y::·)).map (x::·))=_
   rw[e1,e2];rfl
  show(e8 _ _ _).bind aK=_
  rw[e4,Option.bind_some,iq (lY hA hp.1).six (lY hB hp.2).six,nW,List.map_map]
  rfl
 rw[e3,Option.bind_some,if_pos (show l6 (.lst ((uT A B (kX p)).map ji))=true from bW (fun k=>by cases k<;>rfl) _)]
def u3(A B:Bk):R->OD:=(nr aS t9 (e8 (jw (e8 (kI 0) (e8 (kI 0) i8))) i8) (pC [1,0]))
theorem uy{A B:Bk}(hA:A.Ok)(hB:B.Ok):∃kf L,BI (uT A B) (ui A B) (kX (0,0)) kf [] L/\L<=100/\∀r:R,u3 A B (some A.d::some B.d::r)=some (.dcp (kf.map fun p=>k2 p.1) (kf.map fun p=>p.2)):=by
 obtain⟨kf,L,hk,hI,hL⟩:=u7 (go:=uT A B) (bx:=ui A B) (s:=kX (0,0)) uY (we hA hB) (lG.mpr ⟨_,ze hA hB,rfl⟩) (yo hA hB)
 refine⟨kf,L,hI,hL,fun r=>?_⟩
 have hne:kf ≠ []:=fun z=>by have:=hI.st;rw[z] at this;cases this
 have hd:l8 kf=.dcp (kf.map fun p=>k2 p.1) (kf.map fun p=>p.2):=by
  match kf,hne,hI with
  | (.inr q,d)::kf,_,_=>rfl
  | (.inl q,d)::kf,_,hI =>
   have:=uY _ (hI.val _ List.mem_cons_self).2.1
   cases this
 have ff:∀a,aS [ji (kX (0,0)),.cl t9 a [B.d,A.d]]=some (l8 kf):=fun a=>by
  show jK (om ar 4 0 1 (.str (oS "")) [some (ji (kX (0,0))),some (.cl t9 a [B.d,A.d]),none,none])=_
  exact(congrArg jK (vC (g:=ar) (n:=4) (i:=0) (j:=1) (e:=.str (oS "")) (c:=.cl t9 a [B.d,A.d]) (ρ:=[some (ji (kX (0,0))),some (.cl t9 a [B.d,A.d]),none,none]) (s:=ji (kX (0,0))) (k:=kX (0,0)) (kv:=kf) rfl rfl rfl rfl hne (hk _ fun x hx=>r_ hA hB x hx))).trans rfl
 have nv:uQ (l8 kf)=true:=by
  rw[hd]
  show jS (kf.map fun p=>p.2)=true
  have:∀l:KI,(∀p∈l,∃w,p.2=D.str w)->jS (l.map fun p=>p.2)=true:=fun l=>by
   induction l with
   | nil=>intro _;rfl
   | cons p l ih =>
    intro hp
    obtain⟨w,hw⟩:=hp p List.mem_cons_self
    show(l6 p.2&&_)=true
    rw[hw,ih fun q hq=>hp q (List.mem_cons_of_mem _ hq)]
    rfl
  exact this kf fun p hp=>let ⟨_,_,w,hw,_⟩:=hI.val p hp;⟨w,hw⟩
 unfold u3
 rw[<- hd]
 exact uX (as:=[ji (kX (0,0))]) (caps:=[B.d,A.d]) rfl rfl (by show(l6 _&&(l6 _&&true))=true;rw[dG,dG];rfl) nv ff
def nE(k:Nat):Str:=lh.getD k (oS "")
def txt(u:List Nat):Str:=u.foldl (fun w k=>w++nE k) (oS "")
theorem txt_snoc(u:List Nat)(k:Nat):txt (u++[k])=txt u++nE k:=by simp[txt]
theorem oH{k:Nat}(h:k<6):lh[k]?=some (nE k):=by
 unfold nE
 rw[List.getD_eq_getElem?_getD,List.getElem?_eq_getElem (show k<lh.length from h)];rfl
theorem tP:∀(n:Nat) (u:List Nat),u.length=n->Wd u->(txt u).length=u.length
 | 0,u,h,_=>by rw[List.length_eq_zero_iff.mp h];decide +kernel
 | n+1,u,h,w=>by
  rcases snoc_cases u with rfl | ⟨v,k,rfl⟩
  ·cases h
  ·obtain⟨w1,w2⟩:=j2.mp w
   have hv:v.length=n:=by simp at h;omega
   rw[txt_snoc,str_len,tP n v hv w1,og (oH w2)]
   simp
theorem cI{u:List Nat}(w:Wd u):(txt u).length=u.length:=tP _ u rfl w
theorem xy{p q:Pp}(h:kX p=kX q):p=q:=by
 have h':=Sum.inr.inj h
 injection h' with a b
 exact Prod.ext (by omega) (by omega)
theorem vX{A B:Bk}{kf:KI}{L:Nat}(hA:A.Ok)(hB:B.Ok)(hI:BI (uT A B) (ui A B) (kX (0,0)) kf [] L):∀(n:Nat) (x:Ky) (w:Str),w.length=n->(x,D.str w)∈kf->∃u,Wd u/\x=kX (run A B u)/\w=txt u:=by
 intro n
 induction n using Nat.strongRecOn with
 | ind n ih =>
  intro x w hn hm
  rcases hI.tr x w hm with ⟨rfl,rfl⟩ | ⟨y,v,i,pr,h1,h2,h3,rfl⟩
  ·exact⟨[],fun k hk=>(by cases hk),rfl,rfl⟩
  ·have hl:=og h3
   rw[str_len] at hn
   obtain⟨u,hu,rfl,rfl⟩:=ih v.length (by omega) y v rfl h1
   have hi:i<6:=by have:=(List.getElem?_eq_some_iff.mp h3).1;exact this
   refine⟨u++[i],j2.mpr ⟨hu,hi⟩,?_,?_⟩
   ·rw[nW,List.getElem?_map,List.getElem?_range hi] at h2
    rw[jX]
    exact(Option.some.inj h2).symm
   ·rw[txt_snoc]
    rw[oH hi] at h3
    cases h3;rfl
theorem oJ{A B:Bk}{kf:KI}{L:Nat}(hI:BI (uT A B) (ui A B) (kX (0,0)) kf [] L):∀(n:Nat) (u:List Nat),u.length=n->Wd u->∃w,(kX (run A B u),D.str w)∈kf/\w.length<=u.length
 | 0,u,h,_=>by rw[List.length_eq_zero_iff.mp h];exact⟨_,hI.st,by decide +kernel⟩
 | n+1,u,h,w=>by
  rcases snoc_cases u with rfl | ⟨v,k,rfl⟩
  ·cases h
  ·obtain⟨w1,w2⟩:=j2.mp w
   have hv:v.length=n:=by simp at h;omega
   obtain⟨x,hx,hl⟩:=oJ hI n v hv w1
   obtain⟨y,hy,hl'⟩:=hI.cl _ _ hx (by simp) (kX (jV A B (run A B v) k)) (by rw[nW];exact List.mem_map.mpr ⟨k,List.mem_range.mpr w2,rfl⟩)
   rw[jX]
   exact⟨y,hy,by simp;omega⟩
def rV(A B:Bk)(p:Pp):List Str:=if ri A B p then [oS ""] else ((List.range 6).filter (xV A B p)).map nE
theorem y3:kx 0 6=(List.range 6).map fun k:Nat=>D.int (k:Int):=rfl
theorem rh{f:Nat->D}{k:Nat}(h:k<6):ro ((List.range 6).map f) (k:Int)=some (f k):=mn (by rw[List.getElem?_map,List.getElem?_range h];rfl)
theorem eD{A B:Bk}(hA:A.Ok)(hB:B.Ok){p:Pp}(h:rY A B p):aQ [(A.md p.1).d,(B.md p.2).d]=some (.lst ((rV A B p).map .str)):=by
 have t1:ju mf (jc bg (e8 (i3 0) i8)) (jc bg (e8 (i3 1) i8)) [some (A.md p.1).d,some (B.md p.2).d]=some (ri A B p):=
  (lc (lB (x:=(A.md p.1).d) rfl (fg _)) (lB (x:=(B.md p.2).d) rfl (fg _))).trans (tT _ _ _ _)
 show jK (jn (mv _ _ kg) _ [some (A.md p.1).d,some (B.md p.2).d])=_
 unfold rV
 cases hl:ri A B p with
 | true =>
  rw[hl] at t1
  show jK ((mv _ _ kg _).bind _)=_
  unfold mv
  rw[t1]
  rfl
 | false =>
  rw[hl] at t1
  have s1:mv (ju mf (jc bg (e8 (i3 0) i8)) (jc bg (e8 (i3 1) i8))) (j5 (qX (e8 (kS "") i8))) kg [some (A.md p.1).d,some (B.md p.2).d]=some (.nx [some (A.md p.1).d,some (B.md p.2).d]):=by
   unfold mv
   rw[t1];rfl
  rw[jk s1]
  refine lL ?_
  have hc:lz (setAt 0) (ju uK (i6 jd (jc aC (e8 (i3 1) i8)) (i3 0)) (i6 jd (jc aC (e8 (i3 2) i8)) (i3 0))) (i6 jd (fun _=>some az) (i3 0)) (kx 0 6) (List.replicate 1 none++[some (A.md p.1).d,some (B.md p.2).d])=some (((kx 0 6).filter fun d=>match d with | .int i=>xV A B p i.toNat | _=>false).map fun d=>match d with | .int i=>D.str (nE i.toNat) | _=>.non):=
   mz _ _ fun d hd=>by
    rw[y3] at hd
    obtain⟨k,hk,rfl⟩:=List.mem_map.mp hd
    have hk:=List.mem_range.mp hk
    refine⟨[some (.int (k:Int)),some (A.md p.1).d,some (B.md p.2).d],rfl,?_,fun _=>?_⟩
    ·have a1:i6 jd (jc aC (e8 (i3 1) i8)) (i3 0) [some (.int (k:Int)),some (A.md p.1).d,some (B.md p.2).d]=some (.str ((A.md p.1).row k).1.x):=by
      show(jc aC (e8 (i3 1) i8) _).bind (fun x=>(some (D.int (k:Int))).bind fun y=>jd x y)=_
      rw[lB (x:=(A.md p.1).d) rfl (fj (lY hA h.1).six)]
      exact rh hk
     have a2:i6 jd (jc aC (e8 (i3 2) i8)) (i3 0) [some (.int (k:Int)),some (A.md p.1).d,some (B.md p.2).d]=some (.str ((B.md p.2).row k).1.x):=by
      show(jc aC (e8 (i3 2) i8) _).bind (fun x=>(some (D.int (k:Int))).bind fun y=>jd x y)=_
      rw[lB (x:=(B.md p.2).d) rfl (fj (lY hB h.2).six)]
      exact rh hk
     exact(lc a1 a2).trans (qw _ _)
    ·show ro (lh.map .str) (k:Int)=_
     exact mn (by rw[List.getElem?_map,oH hk];rfl)
  unfold wu
  have hi:kQ (jc nL (e8 (fun _=>some az) i8)) [some (A.md p.1).d,some (B.md p.2).d]=some (kx 0 6):=rfl
  rw[hi,Option.bind_some,if_pos (x6 (by rw[y3];simp)),hc,y3,List.filter_map,List.map_map,if_neg (by simp),List.map_map]
  rfl
def q9(A B:Bk)(e:Ky×D):List Str:=match e with
 | (.inr q,.str w)=>(rV A B (q.1.toNat,q.2.toNat)).map fun s=>w++s
 | _=>[]
theorem x9:∀{kv:KI} {q:Int×Int},(∀e∈kv,e.1.isLeft=false)->y9 (kv.map fun p=>k2 p.1) (kv.map fun p=>p.2) q=jB kv (.inr q)
 | [],q,_=>rfl
 | (.inl _,d)::kv,q,h=>by cases h _ List.mem_cons_self
 | (.inr k,d)::kv,q,h=>by
  show(if k=q then some d else y9 _ _ _)=if (Sum.inr k:Ky)=.inr q then some d else jB kv _
  by_cases z:k=q
  ·rw[if_pos z,if_pos (by rw[z])]
  ·rw[if_neg z,if_neg fun y=>z (Sum.inr.inj y)]
   exact x9 fun e he=>h e (List.mem_cons_of_mem _ he)
theorem tK(A B:Bk)(p:Pp):(rV A B p).length<=6:=by
 unfold rV
 split
 ·simp
 ·rw[List.length_map]
  exact Nat.le_trans (List.length_filter_le _ _) (by simp)
theorem uh(A B:Bk)(p:Pp):∀s∈rV A B p,s.length<=1:=fun s hs=>by
 unfold rV at hs
 split at hs
 ·rw[List.mem_singleton.mp hs];decide +kernel
 ·obtain⟨k,hk,rfl⟩:=List.mem_map.mp hs
  have:=List.mem_range.mp (List.mem_filter.mp hk).1
  rw[og (oH this)];exact Nat.le_refl _
def qR:R->OD:=(wu 1 (ku (jc aQ (e8 (i6 jd (i6 jd (i3 0) (kI 2)) (i6 jd (i3 3) (kI 0))) (e8 (i6 jd (i6 jd (i3 1) (kI 2)) (i6 jd (i3 3) (kI 1))) i8)))) (setAt 0) qF (i6 jD (i6 xW (i3 3) (i3 4)) (i3 0)))
theorem xK{A B:Bk}(hA:A.Ok)(hB:B.Ok){kf:KI}{L:Nat}(hI:BI (uT A B) (ui A B) (kX (0,0)) kf [] L)(hL:L<=100){p:Pp}{w:Str}(hm:(kX p,D.str w)∈kf)(hp:rY A B p) :
  qR [some A.d,some B.d,some (.dcp (kf.map fun p=>k2 p.1) (kf.map fun p=>p.2)),some (jA p)]=some (.lst ((q9 A B (kX p,.str w)).map .str)):=by
 generalize hρ:([some A.d,some B.d,some (.dcp (kf.map fun p=>k2 p.1) (kf.map fun p=>p.2)),some (jA p)]:R)=ρ
 have e1:=lZ (b:=A) (x:=p.1) (f:=i3 0) (g:=i6 jd (i3 3) (kI 0)) (ρ:=ρ) (by rw[<- hρ];rfl) (by rw[<- hρ];rfl) hp.1
 have e2:=lZ (b:=B) (x:=p.2) (f:=i3 1) (g:=i6 jd (i3 3) (kI 1)) (ρ:=ρ) (by rw[<- hρ];rfl) (by rw[<- hρ];rfl) hp.2
 have e4:e8 (i6 jd (i6 jd (i3 0) (kI 2)) (i6 jd (i3 3) (kI 0))) (e8 (i6 jd (i6 jd (i3 1) (kI 2)) (i6 jd (i3 3) (kI 1))) i8) ρ=some [(A.md p.1).d,(B.md p.2).d]:=by
  show(i6 jd _ _ _).bind (fun x=>((i6 jd _ _ _).bind fun y=>(some []).map (y::·)).map (x::·))=_
  rw[e1,e2];rfl
 have hi:ku (jc aQ (e8 (i6 jd (i6 jd (i3 0) (kI 2)) (i6 jd (i3 3) (kI 0))) (e8 (i6 jd (i6 jd (i3 1) (kI 2)) (i6 jd (i3 3) (kI 1))) i8))) ρ=some ((rV A B p).map .str):=by
  show((e8 _ _ ρ).bind aQ).bind _=_
  rw[e4,Option.bind_some,eD hA hB hp]
  rfl
 have hl:w.length<=100:=by
  obtain⟨_,_,w',e,h⟩:=hI.val _ hm
  injection e with e
  rw[e];omega
 have hc:lz (setAt 0) qF (i6 jD (i6 xW (i3 3) (i3 4)) (i3 0)) ((rV A B p).map D.str) (List.replicate 1 none++ρ)=some (((rV A B p).map D.str).map fun d=>match d with | .str s=>D.str (w++s) | _=>.non):=
  nj _ fun d hd=>by
   obtain⟨s,hs,rfl⟩:=List.mem_map.mp hd
   refine⟨some (.str s)::ρ,rfl,?_⟩
   rw[<- hρ]
   show(y9 (kf.map fun p=>k2 p.1) (kf.map fun p=>p.2) ((p.1:Int),(p.2:Int))).bind (fun x=>jD x (.str s))=_
   rw[x9 fun e he=>uY _ (hI.val e he).2.1,show(Sum.inr ((p.1:Int),(p.2:Int)):Ky)=kX p from rfl,lN hI.nd hm]
   show(if w.length+s.length<=sizeLine then _ else _)=_
   have:=uh A B p s hs
   rw[if_pos (x6 (by omega))]
 unfold qR wu
 rw[hi,Option.bind_some,if_pos (x6 (by rw[List.length_map];have:=tK A B p;omega)),hc,List.map_map]
 show some (D.lst _)=some (.lst (((rV A B p).map fun s=>w++s).map .str))
 rw[List.map_map]
 rfl
theorem qZ(A B:Bk)(e:Ky×D):(q9 A B e).length<=6:=by
 unfold q9
 split
 ·rw[List.length_map];exact tK _ _ _
 ·simp
theorem oo{A B:Bk}(hA:A.Ok)(hB:B.Ok){kf:KI}{L:Nat}(hI:BI (uT A B) (ui A B) (kX (0,0)) kf [] L)(hL:L<=100):∀(l:KI) (o:OD) (C:List Str),(∀e∈l,e∈kf)->C.length+6*l.length<=1000 ->
  ∃o',sN (setAt 3) (sC 4 qR) (l.map fun e=>.tup [.int (k2 e.1).1,.int (k2 e.1).2]) [some A.d,some B.d,some (.dcp (kf.map fun p=>k2 p.1) (kf.map fun p=>p.2)),o] (C.map .str)=some (.nx [some A.d,some B.d,some (.dcp (kf.map fun p=>k2 p.1) (kf.map fun p=>p.2)),o'],(C++l.flatMap (q9 A B)).map .str)
 | [],o,C,_,_=>⟨o,by simp[sN]⟩
 | e::l,o,C,h,hc=>by
  have he:=h e List.mem_cons_self
  obtain⟨_,hb,w,hw,_⟩:=hI.val e he
  obtain⟨p,hp,hk⟩:=lG.mp hb
  have ee:e=(kX p,.str w):=Prod.ext hk hw
  subst ee
  rw[List.length_cons] at hc
  have hcl:=qZ A B (kX p,.str w)
  obtain⟨o',ih⟩:=oo hA hB hI hL l (some (jA p)) (C++q9 A B (kX p,.str w)) (fun e he=>h e (List.mem_cons_of_mem _ he)) (by rw[List.length_append];omega)
  refine⟨o',?_⟩
  rw[List.flatMap_cons,<- List.append_assoc,<- ih]
  have x1:=xK hA hB hI hL he hp
  show(sC 4 qR [some A.d,some B.d,some (.dcp (kf.map fun p=>k2 p.1) (kf.map fun p=>p.2)),some (jA p)] (C.map .str)).bind _=_
  have x2:sC 4 qR [some A.d,some B.d,some (.dcp (kf.map fun p=>k2 p.1) (kf.map fun p=>p.2)),some (jA p)] (C.map .str)=some (.nx [some A.d,some B.d,some (.dcp (kf.map fun p=>k2 p.1) (kf.map fun p=>p.2)),some (jA p)],(C++q9 A B (kX p,.str w)).map .str):=by
   show(qR _).bind _=_
   rw[x1,Option.bind_some]
   show(if _/\_ then _ else _)=_
   rw[if_pos ⟨rfl,x6 (by rw[List.length_map,List.length_map];omega)⟩,List.map_append]
  rw[x2]
  rfl
theorem strs_map:∀C:List Str,nH (C.map .str)=some C
 | []=>rfl
 | s::C=>by show(nH (C.map .str)).map (s::·)=_;rw[strs_map C];rfl
theorem tZ(xs:List Str):∀n:Nat,jI (jj xs) n<=n/\∀j,j<=n->(xs.getD (jI (jj xs) n) Str.empty).length<=(xs.getD j Str.empty).length
 | 0=>⟨Nat.le_refl _,fun j hj=>by rw[Nat.le_zero.mp hj];exact Nat.le_refl _⟩
 | n+1=>by
  obtain⟨h1,h2⟩:=tZ xs n
  show(if jj xs (n+1) (jI (jj xs) n) then n+1 else jI (jj xs) n)<=n+1/\∀j,j<=n+1->(xs.getD (if jj xs (n+1) (jI (jj xs) n) then n+1 else jI (jj xs) n) Str.empty).length<=_
  cases hs:jj xs (n+1) (jI (jj xs) n) with
  | true =>
   have hs':=of_decide_eq_true hs
   rw[if_pos rfl]
   refine⟨Nat.le_refl _,fun j hj=>?_⟩
   rcases Nat.lt_or_ge n j with z | z
   ·rw[show j=n+1 by omega];exact Nat.le_refl _
   ·have:=h2 j z;omega
  | false =>
   have hs':=of_decide_eq_false hs
   rw[if_neg (by simp)]
   refine⟨by omega,fun j hj=>?_⟩
   rcases Nat.lt_or_ge n j with z | z
   ·rw[show j=n+1 by omega];omega
   ·exact h2 j z
theorem yJ{C:List Str}(h:C.length<=1000)(h2:∀c∈C,c.length<=1000):(C=[]/\oK [.lst (C.map .str)]=some .non)\/∃c∈C,oK [.lst (C.map .str)]=some (.str c)/\∀c'∈C,c.length<=c'.length:=by
 have h3:C.all (fun x=>decide (x.length<=100000))=true:=List.all_eq_true.mpr fun c hc=>by have:=h2 c hc;simp;omega
 have e:oK [.lst (C.map .str)]=some (if C.isEmpty then .non else .str (C.getD (jI (jj C) (C.length - 1)) Str.empty)):=by
  show(nH _).bind _=_
  rw[strs_map,Option.bind_some,if_pos ⟨by omega,h3⟩]
 cases C with
 | nil=>exact .inl ⟨rfl,e⟩
 | cons c0 C0 =>
  obtain⟨b1,b2⟩:=tZ (c0::C0) ((c0::C0).length - 1)
  have hlt:jI (jj (c0::C0)) ((c0::C0).length - 1)<(c0::C0).length:=by rw[List.length_cons] at *;omega
  refine .inr ⟨_,?_,e,fun c' hc'=>?_⟩
  ·rw[List.getD_eq_getElem?_getD,List.getElem?_eq_getElem hlt]
   exact List.getElem_mem hlt
  ·obtain⟨i,hi⟩:=List.getElem?_of_mem hc'
   have hi2:=(List.getElem?_eq_some_iff.mp hi).1
   have:=b2 i (by omega)
   rw[show(c0::C0).getD i Str.empty=c' by rw[List.getD_eq_getElem?_getD,hi];rfl] at this
   exact this
def Told(A B:Bk)(d:D):Prop:=(d=.non/\Ax A B)\/∃u,Wd u/\d=.str (txt u)/\Pt A B u/\wR A B u.length/\u.length<=1000
theorem gJ{A B:Bk}(hA:A.Ok)(hB:B.Ok):∃d,aW [A.d,B.d]=some d/\Told A B d:=by
 obtain⟨kf,L,hI,hL,hw⟩:=uy hA hB
 have hkl:kf.length<=64:=Nat.le_trans hI.len (we hA hB)
 obtain⟨o',hlo⟩:=oo hA hB hI hL kf none [] (fun e he=>he) (by simp;omega)
 generalize hC:kf.flatMap (q9 A B)=C at hlo
 have hin:∀{p:Pp} {w s:Str},(kX p,D.str w)∈kf->s∈rV A B p->w++s∈C:=fun {p w s} h1 h2=>by
  rw[<- hC]
  exact List.mem_flatMap.mpr ⟨_,h1,List.mem_map.mpr ⟨s,h2,rfl⟩⟩
 have hout:∀c∈C,∃u,Wd u/\c=txt u/\Pt A B u:=fun c hc=>by
  rw[<- hC] at hc
  obtain⟨e,he,hce⟩:=List.mem_flatMap.mp hc
  obtain⟨_,hb,w,hw',_⟩:=hI.val e he
  obtain⟨p,hp,hk⟩:=lG.mp hb
  have ee:e=(kX p,.str w):=Prod.ext hk hw'
  subst ee
  obtain⟨u,hu,hku,rfl⟩:=vX hA hB hI _ _ w rfl he
  cases xy hku
  obtain⟨s,hs,rfl⟩:=List.mem_map.mp hce
  have hs':s∈rV A B (run A B u):=hs
  unfold rV at hs'
  split at hs'
  ·rename_i hl
   rw[List.mem_singleton.mp hs']
   refine⟨u,hu,?_,i_ hl⟩
   show(⟨(txt u).cps++#[]⟩:Str)=_
   rw[Array.append_empty]
  ·obtain⟨k,hk,rfl⟩:=List.mem_map.mp hs'
   obtain⟨h6,hd⟩:=List.mem_filter.mp hk
   exact⟨u++[k],j2.mpr ⟨hu,List.mem_range.mp h6⟩,(txt_snoc u k).symm,nX.mpr (.inl hd)⟩
 have hall:∀u,Wd u->Pt A B u->∃c∈C,c.length<=u.length:=fun u hu hp=>by
  have byl:∀v,Wd v->ri A B (run A B v)=true->∃c∈C,c.length<=v.length:=fun v hv hl=>by
   obtain⟨w,hw1,hw2⟩:=oJ hI _ v rfl hv
   refine⟨_,hin hw1 (s:=oS "") (by unfold rV;rw[if_pos hl];exact List.mem_singleton.mpr rfl),?_⟩
   rw[str_len,show(oS "").length=0 by decide +kernel];omega
  rcases snoc_cases u with rfl | ⟨v,k,rfl⟩
  ·exact byl [] hu (nk.mp hp)
  ·obtain⟨hv,hk⟩:=j2.mp hu
   rcases nX.mp hp with hd | hl
   ·cases hl:ri A B (run A B v) with
    | true =>
     obtain⟨c,h1,h2⟩:=byl v hv hl
     exact⟨c,h1,by simp;omega⟩
    | false =>
     obtain⟨w,hw1,hw2⟩:=oJ hI _ v rfl hv
     refine⟨_,hin hw1 (s:=nE k) (by unfold rV;rw[if_neg (by rw[hl];simp)];exact List.mem_map.mpr ⟨k,List.mem_filter.mpr ⟨List.mem_range.mpr hk,hd⟩,rfl⟩),?_⟩
     rw[str_len,og (oH hk)];simp;omega
   ·exact byl _ hu (by rw[jX];exact hl)
 have hlen:C.length<=1000:=by
  rw[<- hC]
  have:∀l:KI,(l.flatMap (q9 A B)).length<=6*l.length:=fun l=>by
   induction l with
   | nil=>simp
   | cons e l ih=>rw[List.flatMap_cons,List.length_append,List.length_cons];have:=qZ A B e;omega
  have:=this kf
  omega
 have hshort:∀c∈C,c.length<=1000:=fun c hc=>by
  rw[<- hC] at hc
  obtain⟨e,he,hce⟩:=List.mem_flatMap.mp hc
  obtain⟨_,hb,w,hw',hl⟩:=hI.val e he
  obtain⟨p,hp,hk⟩:=lG.mp hb
  have ee:e=(kX p,.str w):=Prod.ext hk hw'
  subst ee
  obtain⟨s,hs,rfl⟩:=List.mem_map.mp hce
  have:=uh A B _ s hs
  rw[str_len];omega
 have hF:∀d,oK [.lst (C.map .str)]=some d->aW [A.d,B.d]=some d:=fun d hd=>by
  show jK (jn (jr (u3 A B) (setAt 2)) _ [some A.d,some B.d,none,none,none])=_
  rw[jk (jt (hw [none,none,none]) rfl)]
  show jK ((ug (pO (i3 2)) (setAt 3) (sC 4 qR) [some A.d,some B.d,some (.dcp (kf.map fun p=>k2 p.1) (kf.map fun p=>p.2)),none] []).bind _)=_
  have hin:pO (i3 2) [some A.d,some B.d,some (.dcp (kf.map fun p=>k2 p.1) (kf.map fun p=>p.2)),none]=some (kf.map fun e=>.tup [.int (k2 e.1).1,.int (k2 e.1).2]):=by
   show some ((kf.map fun p=>k2 p.1).map _)=_
   rw[List.map_map];rfl
  have hlp:ug (pO (i3 2)) (setAt 3) (sC 4 qR) [some A.d,some B.d,some (.dcp (kf.map fun p=>k2 p.1) (kf.map fun p=>p.2)),none] []=some (.nx [some A.d,some B.d,some (.dcp (kf.map fun p=>k2 p.1) (kf.map fun p=>p.2)),o'],C.map .str):=by
   show(pO (i3 2) _).bind _=_
   rw[hin,Option.bind_some]
   exact hlo
  rw[hlp,Option.bind_some]
  show jK ((oK [.lst (C.map .str)]).map .rt)=_
  rw[hd];rfl
 rcases yJ hlen hshort with ⟨he,hm⟩ | ⟨c,hc,hm,hmin⟩
 ·refine⟨_,hF _ hm,.inl ⟨rfl,fun u hu hp=>?_⟩⟩
  obtain⟨c,hc,_⟩:=hall u hu hp
  rw[he] at hc;cases hc
 ·obtain⟨u,hu,rfl,hp⟩:=hout c hc
  have hs:=hshort _ hc
  rw[cI hu] at hs
  refine⟨_,hF _ hm,.inr ⟨u,hu,rfl,hp,⟨⟨u,hu,rfl,hp⟩,fun v hv hlt hpv=>?_⟩,hs⟩⟩
  obtain⟨c',hc',hl'⟩:=hall v hv hpv
  have:=hmin c' hc'
  rw[cI hu] at this
  omega
def bad(A B:Bk)(p:Pp)(k:Nat):Bool:=xV A B p k||ri A B (jV A B p k)
def addQ(s:List Pp×List Pp)(q:Pp):List Pp×List Pp:=if q∈s.1 then s else (s.1++[q],s.2++[q])
theorem w_{p q:Pp}:wy (jA p) (jA q)=decide (p=q):=by
 show((p.1:Int)==(q.1:Int)&&(((p.2:Int)==(q.2:Int))&&true))=_
 by_cases h:p=q
 ·subst h;simp
 ·rw[decide_eq_false h]
  by_cases h1:p.1=q.1
  ·have h2:p.2≠q.2:=fun z=>h (Prod.ext h1 z)
   have h3:((p.2:Int)==(q.2:Int))=false:=beq_eq_false_iff_ne.mpr (by omega)
   rw[h3];simp
  ·have:((p.1:Int)==(q.1:Int))=false:=beq_eq_false_iff_ne.mpr (by omega)
   rw[this];rfl
theorem tu:∀l:List Pp,lu (l.map jA)=true
 | []=>rfl
 | p::l=>by show(true&&lu _)=true;rw[tu l];rfl
theorem vt(q:Pp)(kn:List Pp):n6 (jA q) (.lst (kn.map jA))=some (!decide (q∈kn)):=by
 show(if _ then _ else _)=_
 rw[if_pos ⟨by simp[jA,mQ,nu],rfl,tu kn⟩,List.any_map]
 congr 2
 induction kn with
 | nil=>simp
 | cons p kn ih =>
  rw[List.any_cons,ih]
  show(wy (jA p) (jA q)||_)=_
  rw[w_]
  by_cases h:p=q
  ·subst h;simp
  ·simp[h,show ¬ q=p from fun z=>h z.symm]
def qi:NU:=bw
theorem wb{A B:Bk}(hA:A.Ok)(hB:B.Ok){p:Pp}{k:Nat}(hp:rY A B p)(hk:k<6){o2:OD}{mm:Int}{kn lt:List Pp}(hl:kn.length<1000)(hl2:lt.length<1000)(a4 a5:OD) :
  (bad A B p k=true/\qi [some A.d,some B.d,o2,some (.int mm),a4,a5,some (.str ((A.md p.1).row k).1.x),some (.int ((jV A B p k).1:Int)),some (.str ((B.md p.2).row k).1.x),some (.int ((jV A B p k).2:Int))] [kn.map jA,lt.map jA]=some (.rt (.int mm),[kn.map jA,lt.map jA])) \/
  (bad A B p k=false/\qi [some A.d,some B.d,o2,some (.int mm),a4,a5,some (.str ((A.md p.1).row k).1.x),some (.int ((jV A B p k).1:Int)),some (.str ((B.md p.2).row k).1.x),some (.int ((jV A B p k).2:Int))] [kn.map jA,lt.map jA]=some (.nx [some A.d,some B.d,o2,some (.int mm),a4,a5,some (.str ((A.md p.1).row k).1.x),some (.int ((jV A B p k).1:Int)),some (.str ((B.md p.2).row k).1.x),some (.int ((jV A B p k).2:Int))],[(addQ (kn,lt) (jV A B p k)).1.map jA,(addQ (kn,lt) (jV A B p k)).2.map jA])):=by
 have hb:=oW hA hB hp hk
 generalize hρ:([some A.d,some B.d,o2,some (.int mm),a4,a5,some (.str ((A.md p.1).row k).1.x),some (.int ((jV A B p k).1:Int)),some (.str ((B.md p.2).row k).1.x),some (.int ((jV A B p k).2:Int))]:R)=ρ
 have c1:ju uK (i3 6) (i3 8) ρ=some (xV A B p k):=(lc (x:=.str ((A.md p.1).row k).1.x) (y:=.str ((B.md p.2).row k).1.x) (by rw[<- hρ];rfl) (by rw[<- hρ];rfl)).trans (qw _ _)
 have c2:=mT (A:=A) (B:=B) (x:=(jV A B p k).1) (y:=(jV A B p k).2) (f:=i3 0) (g:=i3 7) (f':=i3 1) (g':=i3 9) (ρ:=ρ) (by rw[<- hρ];rfl) (by rw[<- hρ];rfl) hb.1 (by rw[<- hρ];rfl) (by rw[<- hρ];rfl) hb.2
 have c3:zf (ju uK (i3 6) (i3 8)) (ju mf (mw (i6 jd (i6 jd (i3 0) (kI 2)) (i3 7)) my (aP (kI 2))) (mw (i6 jd (i6 jd (i3 1) (kI 2)) (i3 9)) my (aP (kI 2)))) ρ=some (bad A B p k):=by
  unfold zf bad
  rw[c1,Option.bind_some]
  cases xV A B p k with
  | true=>rfl
  | false=>exact c2
 have h3:i3 3 ρ=some (.int mm):=by rw[<- hρ];rfl
 have hln:ρ.length=10:=by rw[<- hρ];rfl
 have htp:jw (e8 (i3 7) (e8 (i3 9) i8)) ρ=some (jA (jV A B p k)):=by rw[<- hρ];rfl
 cases hbad:bad A B p k with
 | true =>
  refine .inl ⟨rfl,?_⟩
  rw[hbad] at c3
  show((kF _ ρ _).bind _)=_
  unfold kF mv
  rw[c3,Option.bind_some,if_pos rfl]
  show(((i3 3 ρ).map Out.rt).map _).bind _=_
  rw[h3];rfl
 | false =>
  refine .inr ⟨rfl,?_⟩
  rw[hbad] at c3
  have s1:kF (mv (zf (ju uK (i3 6) (i3 8)) (ju mf (mw (i6 jd (i6 jd (i3 0) (kI 2)) (i3 7)) my (aP (kI 2))) (mw (i6 jd (i6 jd (i3 1) (kI 2)) (i3 9)) my (aP (kI 2))))) (j5 (i3 3)) kg) ρ [kn.map jA,lt.map jA]=some (.nx ρ,[kn.map jA,lt.map jA]):=by
   unfold kF mv
   rw[c3];rfl
  show(kF _ ρ _).bind _=_
  rw[s1,Option.bind_some]
  show A1 _ _ _ ρ [kn.map jA,lt.map jA]=_
  have c4:ju n6 (jw (e8 (i3 7) (e8 (i3 9) i8))) (i3 10) (wz ρ [kn.map jA,lt.map jA])=some (!decide (jV A B p k∈kn)):=by
   refine(lc (x:=jA (jV A B p k)) (y:=.lst (kn.map jA)) ?_ ?_).trans (vt _ _)
   ·rw[<- hρ];rfl
   ·rw[<- hρ];rfl
  unfold A1
  rw[c4,Option.bind_some]
  unfold addQ
  by_cases hm:jV A B p k∈kn
  ·rw[decide_eq_true hm,if_pos (show jV A B p k∈(kn,lt).1 from hm)]
   rfl
  ·rw[decide_eq_false hm,if_neg (show ¬ jV A B p k∈(kn,lt).1 from hm)]
   show(rH 10 0 _ ρ _).bind _=_
   have a1:rH 10 0 (jw (e8 (i3 7) (e8 (i3 9) i8))) ρ [kn.map jA,lt.map jA]=some (.nx ρ,[(kn++[jV A B p k]).map jA,lt.map jA]):=by
    unfold rH
    rw[htp,Option.bind_some]
    show(if ρ.length+0=10/\(kn.map jA).length<100000 then _ else _)=_
    rw[if_pos ⟨by omega,by rw[List.length_map];omega⟩,List.map_append];rfl
   rw[a1,Option.bind_some]
   show rH 11 1 _ ρ _=_
   unfold rH
   rw[htp,Option.bind_some]
   show(if ρ.length+1=11/\(lt.map jA).length<100000 then _ else _)=_
   rw[if_pos ⟨by omega,by rw[List.length_map];omega⟩,List.map_append (l₁:=lt)];rfl
theorem qP(s:List Pp×List Pp)(q:Pp):(addQ s q).1.length<=s.1.length+1/\(addQ s q).2.length<=s.2.length+1:=by
 unfold addQ
 split
 ·exact⟨Nat.le_succ _,Nat.le_succ _⟩
 ·simp
theorem pz:∀(l:List Pp) (s:List Pp×List Pp),(l.foldl addQ s).1.length<=s.1.length+l.length/\(l.foldl addQ s).2.length<=s.2.length+l.length
 | [],s=>⟨Nat.le_refl _,Nat.le_refl _⟩
 | q::l,s=>by
  have h1:=qP s q
  have h2:=pz l (addQ s q)
  rw[List.foldl_cons,List.length_cons];omega
theorem rB{A B:Bk}(hA:A.Ok)(hB:B.Ok){p:Pp}(hp:rY A B p){o2:OD}{mm:Int}{a4 a5:OD}:∀(ks:List Nat) (a6 a7 a8 a9:OD) (kn lt:List Pp),(∀k∈ks,k<6)->kn.length+ks.length<=900->lt.length+ks.length<=900 ->
  (∃k∈ks,bad A B p k=true/\∃ls:oP,ls.length=2/\lV (j6 [(j6 [(setAt 6),(setAt 7)]),(j6 [(setAt 8),(setAt 9)])]) qi (ks.map fun k=>.tup [jv ((A.md p.1).row k),jv ((B.md p.2).row k)]) [some A.d,some B.d,o2,some (.int mm),a4,a5,a6,a7,a8,a9] [kn.map jA,lt.map jA]=some (.rt (.int mm),ls)) \/
  ((∀k∈ks,bad A B p k=false)/\∃b6 b7 b8 b9,lV (j6 [(j6 [(setAt 6),(setAt 7)]),(j6 [(setAt 8),(setAt 9)])]) qi (ks.map fun k=>.tup [jv ((A.md p.1).row k),jv ((B.md p.2).row k)]) [some A.d,some B.d,o2,some (.int mm),a4,a5,a6,a7,a8,a9] [kn.map jA,lt.map jA]=some (.nx [some A.d,some B.d,o2,some (.int mm),a4,a5,b6,b7,b8,b9],[((ks.map (jV A B p)).foldl addQ (kn,lt)).1.map jA,((ks.map (jV A B p)).foldl addQ (kn,lt)).2.map jA]))
 | [],a6,a7,a8,a9,kn,lt,_,_,_=>.inr ⟨fun k hk=>(by cases hk),a6,a7,a8,a9,rfl⟩
 | k::ks,a6,a7,a8,a9,kn,lt,h,h1,h2=>by
  have hk:=h k List.mem_cons_self
  rw[List.length_cons] at h1 h2
  rcases wb hA hB hp hk (o2:=o2) (mm:=mm) (kn:=kn) (lt:=lt) (by omega) (by omega) a4 a5 with ⟨hb,t⟩ | ⟨hb,t⟩
  ·refine .inl ⟨k,List.mem_cons_self,hb,[kn.map jA,lt.map jA],rfl,?_⟩
   show(qi [some A.d,some B.d,o2,some (.int mm),a4,a5,some (.str ((A.md p.1).row k).1.x),some (.int ((jV A B p k).1:Int)),some (.str ((B.md p.2).row k).1.x),some (.int ((jV A B p k).2:Int))] [kn.map jA,lt.map jA]).bind _=_
   rw[t];rfl
  ·have hq:=qP (kn,lt) (jV A B p k)
   have hq1:(addQ (kn,lt) (jV A B p k)).1.length<=kn.length+1:=hq.1
   have hq2:(addQ (kn,lt) (jV A B p k)).2.length<=lt.length+1:=hq.2
   have ih:=rB hA hB hp (o2:=o2) (mm:=mm) (a4:=a4) (a5:=a5) ks (some (.str ((A.md p.1).row k).1.x)) (some (.int ((jV A B p k).1:Int))) (some (.str ((B.md p.2).row k).1.x)) (some (.int ((jV A B p k).2:Int))) (addQ (kn,lt) (jV A B p k)).1 (addQ (kn,lt) (jV A B p k)).2 (fun j hj=>h j (List.mem_cons_of_mem _ hj)) (by omega) (by omega)
   have e:∀X,lV (j6 [(j6 [(setAt 6),(setAt 7)]),(j6 [(setAt 8),(setAt 9)])]) qi (ks.map fun k=>.tup [jv ((A.md p.1).row k),jv ((B.md p.2).row k)]) [some A.d,some B.d,o2,some (.int mm),a4,a5,some (.str ((A.md p.1).row k).1.x),some (.int ((jV A B p k).1:Int)),some (.str ((B.md p.2).row k).1.x),some (.int ((jV A B p k).2:Int))] [(addQ (kn,lt) (jV A B p k)).1.map jA,(addQ (kn,lt) (jV A B p k)).2.map jA]=X->lV (j6 [(j6 [(setAt 6),(setAt 7)]),(j6 [(setAt 8),(setAt 9)])]) qi ((k::ks).map fun k=>.tup [jv ((A.md p.1).row k),jv ((B.md p.2).row k)]) [some A.d,some B.d,o2,some (.int mm),a4,a5,a6,a7,a8,a9] [kn.map jA,lt.map jA]=X:=fun X hX=>by
    show(qi [some A.d,some B.d,o2,some (.int mm),a4,a5,some (.str ((A.md p.1).row k).1.x),some (.int ((jV A B p k).1:Int)),some (.str ((B.md p.2).row k).1.x),some (.int ((jV A B p k).2:Int))] [kn.map jA,lt.map jA]).bind _=_
    rw[t];exact hX
   rcases ih with ⟨j,hj,hbj,ls,hls,hr⟩ | ⟨hn,b6,b7,b8,b9,hr⟩
   ·exact .inl ⟨j,List.mem_cons_of_mem _ hj,hbj,ls,hls,e _ hr⟩
   ·refine .inr ⟨fun j hj=>?_,b6,b7,b8,b9,e _ hr⟩
    rcases List.mem_cons.mp hj with rfl | z
    ·exact hb
    ·exact hn j z
theorem gw{A B:Bk}(hA:A.Ok)(hB:B.Ok){p:Pp}(hp:rY A B p):lb ((A.md p.1).rows.map jv) ((B.md p.2).rows.map jv)=(List.range 6).map fun k=>.tup [jv ((A.md p.1).row k),jv ((B.md p.2).row k)]:=by
 rw[cN (lY hA hp.1).six,cN (lY hB hp.2).six]
 rfl
theorem ez{A B:Bk}(hA:A.Ok)(hB:B.Ok){o2:OD}{mm:Int}:∀(ly:List Pp) (a4 a5 a6 a7 a8 a9:OD) (kn lt:List Pp),(∀p∈ly,rY A B p)->kn.length+6*ly.length<=900->lt.length+6*ly.length<=900 ->
  (∃p∈ly,∃k<6,bad A B p k=true/\∃ls:oP,ls.length=2/\lV (j6 [(setAt 4),(setAt 5)]) au (ly.map jA) [some A.d,some B.d,o2,some (.int mm),a4,a5,a6,a7,a8,a9] [kn.map jA,lt.map jA]=some (.rt (.int mm),ls)) \/
  ((∀p∈ly,∀k<6,bad A B p k=false)/\∃b4 b5 b6 b7 b8 b9,lV (j6 [(setAt 4),(setAt 5)]) au (ly.map jA) [some A.d,some B.d,o2,some (.int mm),a4,a5,a6,a7,a8,a9] [kn.map jA,lt.map jA]=some (.nx [some A.d,some B.d,o2,some (.int mm),b4,b5,b6,b7,b8,b9],[((ly.flatMap fun p=>(List.range 6).map (jV A B p)).foldl addQ (kn,lt)).1.map jA,((ly.flatMap fun p=>(List.range 6).map (jV A B p)).foldl addQ (kn,lt)).2.map jA]))
 | [],a4,a5,a6,a7,a8,a9,kn,lt,_,_,_=>.inr ⟨fun k hk=>(by cases hk),a4,a5,a6,a7,a8,a9,rfl⟩
 | p::ly,a4,a5,a6,a7,a8,a9,kn,lt,h,h1,h2=>by
  have hp:=h p List.mem_cons_self
  rw[List.length_cons] at h1 h2
  have hz:tU (i6 jd (i6 jd (i6 jd (i3 0) (kI 2)) (i3 4)) (kI 2)) (i6 jd (i6 jd (i6 jd (i3 1) (kI 2)) (i3 5)) (kI 2)) [some A.d,some B.d,o2,some (.int mm),some (.int (p.1:Int)),some (.int (p.2:Int)),a6,a7,a8,a9]=some ((List.range 6).map fun k=>.tup [jv ((A.md p.1).row k),jv ((B.md p.2).row k)]):=by
   have e1:=lZ (b:=A) (x:=p.1) (f:=i3 0) (g:=i3 4) (ρ:=[some A.d,some B.d,o2,some (.int mm),some (.int (p.1:Int)),some (.int (p.2:Int)),a6,a7,a8,a9]) rfl rfl hp.1
   have e2:=lZ (b:=B) (x:=p.2) (f:=i3 1) (g:=i3 5) (ρ:=[some A.d,some B.d,o2,some (.int mm),some (.int (p.1:Int)),some (.int (p.2:Int)),a6,a7,a8,a9]) rfl rfl hp.2
   rw[<- gw hA hB hp]
   show((i6 jd (i6 jd (i3 0) (kI 2)) (i3 4) _).bind fun x=>_).bind (fun x=>((i6 jd (i6 jd (i3 1) (kI 2)) (i3 5) _).bind fun x=>_).bind fun y=>_)=_
   rw[e1,e2]
   rfl
  have hf:∀X,lV (j6 [(j6 [(setAt 6),(setAt 7)]),(j6 [(setAt 8),(setAt 9)])]) qi ((List.range 6).map fun k=>.tup [jv ((A.md p.1).row k),jv ((B.md p.2).row k)]) [some A.d,some B.d,o2,some (.int mm),some (.int (p.1:Int)),some (.int (p.2:Int)),a6,a7,a8,a9] [kn.map jA,lt.map jA]=X->au [some A.d,some B.d,o2,some (.int mm),some (.int (p.1:Int)),some (.int (p.2:Int)),a6,a7,a8,a9] [kn.map jA,lt.map jA]=X:=fun X hX=>by
   show(tU _ _ _).bind _=_
   rw[hz,Option.bind_some]
   exact hX
  rcases rB hA hB hp (o2:=o2) (mm:=mm) (a4:=some (.int (p.1:Int))) (a5:=some (.int (p.2:Int))) (List.range 6) a6 a7 a8 a9 kn lt (fun k hk=>List.mem_range.mp hk) (by simp;omega) (by simp;omega) with ⟨k,hk,hb,ls,hls,hr⟩ | ⟨hn,b6,b7,b8,b9,hr⟩
  ·refine .inl ⟨p,List.mem_cons_self,k,List.mem_range.mp hk,hb,ls,hls,?_⟩
   show(au [some A.d,some B.d,o2,some (.int mm),some (.int (p.1:Int)),some (.int (p.2:Int)),a6,a7,a8,a9] [kn.map jA,lt.map jA]).bind _=_
   rw[hf _ hr];rfl
  ·have hq:=pz ((List.range 6).map (jV A B p)) (kn,lt)
   rw[List.length_map,List.length_range] at hq
   have hq1:(((List.range 6).map (jV A B p)).foldl addQ (kn,lt)).1.length<=kn.length+6:=hq.1
   have hq2:(((List.range 6).map (jV A B p)).foldl addQ (kn,lt)).2.length<=lt.length+6:=hq.2
   rw[List.flatMap_cons,List.foldl_append]
   generalize ((List.range 6).map (jV A B p)).foldl addQ (kn,lt)=s at *
   have ih:=ez hA hB (o2:=o2) (mm:=mm) ly (some (.int (p.1:Int))) (some (.int (p.2:Int))) b6 b7 b8 b9 s.1 s.2 (fun q hq=>h q (List.mem_cons_of_mem _ hq)) (by omega) (by omega)
   have e:∀X,lV (j6 [(setAt 4),(setAt 5)]) au (ly.map jA) [some A.d,some B.d,o2,some (.int mm),some (.int (p.1:Int)),some (.int (p.2:Int)),b6,b7,b8,b9] [s.1.map jA,s.2.map jA]=X->lV (j6 [(setAt 4),(setAt 5)]) au ((p::ly).map jA) [some A.d,some B.d,o2,some (.int mm),a4,a5,a6,a7,a8,a9] [kn.map jA,lt.map jA]=X:=fun X hX=>by
    show(au [some A.d,some B.d,o2,some (.int mm),some (.int (p.1:Int)),some (.int (p.2:Int)),a6,a7,a8,a9] [kn.map jA,lt.map jA]).bind _=_
    rw[hf _ hr];exact hX
   rcases ih with ⟨q,hq,k,hk,hb,ls,hls,hr2⟩ | ⟨hn2,c4,c5,c6,c7,c8,c9,hr2⟩
   ·exact .inl ⟨q,List.mem_cons_of_mem _ hq,k,hk,hb,ls,hls,e _ hr2⟩
   ·refine .inr ⟨fun q hq k hk=>?_,c4,c5,c6,c7,c8,c9,e _ hr2⟩
    rcases List.mem_cons.mp hq with rfl | z
    ·exact hn k (List.mem_range.mpr hk)
    ·exact hn2 q z k hk
def BF(A B:Bk):List Pp:=(List.range A.modes.length).flatMap fun i=>(List.range B.modes.length).map fun j=>(i,j)
theorem xC{A B:Bk}{p:Pp}(h:rY A B p):p∈BF A B:=List.mem_flatMap.mpr ⟨p.1,List.mem_range.mpr h.1,List.mem_map.mpr ⟨p.2,List.mem_range.mpr h.2,rfl⟩⟩
theorem xI{A B:Bk}(hA:A.Ok)(hB:B.Ok):(BF A B).length<=64:=by
 unfold BF
 rw[cO _ B.modes.length _ fun x _=>by simp,List.length_range]
 exact Nat.mul_le_mul hA.some8 hB.some8
structure LI (A B:Bk) (t:Nat) (kn ly:List Pp):Prop where
 l0:ri A B (0,0)=false
 st:(0,0)∈kn
 nd:kn.Nodup
 bx:∀p∈kn,rY A B p
 lay:∀p∈ly,p∈kn/\∃v,Wd v/\v.length=t/\run A B v=p
 cl:∀p∈kn,p∈ly\/∀k<6,bad A B p k=false/\jV A B p k∈kn
 fr:∀v,Wd v->v.length<t->run A B v∈kn/\run A B v∉ly
 many:ly ≠ []->t+1<=kn.length
 lyl:ly.length<=kn.length
theorem LI.len{A B:Bk}(hA:A.Ok)(hB:B.Ok){t:Nat}{kn ly:List Pp}(h:LI A B t kn ly):kn.length<=64:=
 Nat.le_trans (List.Nodup.length_le_of_subset h.nd fun p hp=>xC (h.bx p hp)) (xI hA hB)
theorem qm{A B:Bk}{v:List Nat}{k:Nat}:Pt A B (v++[k])↔bad A B (run A B v) k=true:=by
 rw[nX];unfold bad;rw[Bool.or_eq_true]
theorem LI.inK{A B:Bk}{t:Nat}{kn ly:List Pp}(h:LI A B t kn ly){v:List Nat}(hv:Wd v)(hl:v.length<=t):run A B v∈kn:=by
 rcases snoc_cases v with rfl | ⟨w,k,rfl⟩
 ·exact h.st
 ·obtain⟨w1,w2⟩:=j2.mp hv
  obtain⟨q1,q2⟩:=h.fr w w1 (by simp at hl;omega)
  rcases h.cl _ q1 with z | z
  ·exact absurd z q2
  ·rw[jX];exact(z k w2).2
theorem LI.no{A B:Bk}{t:Nat}{kn ly:List Pp}(h:LI A B t kn ly){v:List Nat}(hv:Wd v)(hl:v.length<=t):¬ Pt A B v:=by
 rcases snoc_cases v with rfl | ⟨w,k,rfl⟩
 ·rw[nk,h.l0];simp
 ·obtain⟨w1,w2⟩:=j2.mp hv
  obtain⟨q1,q2⟩:=h.fr w w1 (by simp at hl;omega)
  rcases h.cl _ q1 with z | z
  ·exact absurd z q2
  ·rw[qm,(z k w2).1];simp
theorem LI.nev{A B:Bk}{t:Nat}{kn:List Pp}(h:LI A B t kn []):Ax A B:=by
 have all:∀(n:Nat) (v:List Nat),v.length=n->Wd v->run A B v∈kn:=fun n=>by
  induction n with
  | zero=>intro v hv _;rw[List.length_eq_zero_iff.mp hv];exact h.st
  | succ n ih =>
   intro v hv w
   rcases snoc_cases v with rfl | ⟨u,k,rfl⟩
   ·cases hv
   ·obtain⟨w1,w2⟩:=j2.mp w
    rcases h.cl _ (ih u (by simp at hv;omega) w1) with z | z
    ·cases z
    ·rw[jX];exact(z k w2).2
 intro u hu
 rcases snoc_cases u with rfl | ⟨w,k,rfl⟩
 ·rw[nk,h.l0];simp
 ·obtain⟨w1,w2⟩:=j2.mp hu
  rcases h.cl _ (all _ w rfl w1) with z | z
  ·cases z
  ·rw[qm,(z k w2).1];simp
theorem oU:∀(l:List Pp) (s:List Pp×List Pp),∃e,l.foldl addQ s=(s.1++e,s.2++e)/\(∀q∈e,q∈l/\q∉s.1)/\(∀q∈l,q∈s.1++e)/\(s.1.Nodup->(s.1++e).Nodup)
 | [],s=>⟨[],by simp,fun q hq=>(by cases hq),fun q hq=>(by cases hq),fun h=>by simpa using h⟩
 | q::l,s=>by
  by_cases hq:q∈s.1
  ·obtain⟨e,h1,h2,h3,h4⟩:=oU l s
   refine⟨e,?_,fun x hx=>⟨List.mem_cons_of_mem _ (h2 x hx).1,(h2 x hx).2⟩,fun x hx=>?_,h4⟩
   ·rw[List.foldl_cons,show addQ s q=s from if_pos hq];exact h1
   ·rcases List.mem_cons.mp hx with rfl | z
    ·exact List.mem_append_left _ hq
    ·exact h3 x z
  ·obtain⟨e,h1,h2,h3,h4⟩:=oU l (s.1++[q],s.2++[q])
   have ea:∀r:List Pp,r++[q]++e=r++q::e:=fun r=>by simp
   rw[ea,ea] at h1
   rw[ea] at h3 h4
   refine⟨q::e,?_,fun x hx=>?_,fun x hx=>?_,fun nd=>h4 ?_⟩
   ·rw[List.foldl_cons,show addQ s q=(s.1++[q],s.2++[q]) from if_neg hq];exact h1
   ·rcases List.mem_cons.mp hx with rfl | z
    ·exact⟨List.mem_cons_self,hq⟩
    ·obtain⟨a,b⟩:=h2 x z
     exact⟨List.mem_cons_of_mem _ a,fun y=>b (List.mem_append_left _ y)⟩
   ·rcases List.mem_cons.mp hx with rfl | z
    ·simp
    ·exact h3 x z
   ·show(s.1++[q]).Nodup
    rw[List.nodup_append]
    refine⟨nd,by simp,fun a ha b hb=>?_⟩
    rw[List.mem_singleton.mp hb]
    exact fun z=>hq (z ▸ ha)
theorem LI.step{A B:Bk}(hA:A.Ok)(hB:B.Ok){t:Nat}{kn ly:List Pp}(h:LI A B t kn ly)(hn:∀p∈ly,∀k<6,bad A B p k=false) :
  LI A B (t+1) ((ly.flatMap fun p=>(List.range 6).map (jV A B p)).foldl addQ (kn,[])).1 ((ly.flatMap fun p=>(List.range 6).map (jV A B p)).foldl addQ (kn,[])).2:=by
 obtain⟨e,h1,h2,h3,h4⟩:=oU (ly.flatMap fun p=>(List.range 6).map (jV A B p)) (kn,[])
 rw[h1]
 show LI A B (t+1) (kn++e) ([]++e)
 rw[List.nil_append]
 have from_ly:∀q∈e,∃p∈ly,∃k<6,q=jV A B p k:=fun q hq=>by
  obtain⟨p,hp,hx⟩:=List.mem_flatMap.mp (h2 q hq).1
  obtain⟨k,hk,rfl⟩:=List.mem_map.mp hx
  exact⟨p,hp,k,List.mem_range.mp hk,rfl⟩
 refine⟨h.l0,List.mem_append_left _ h.st,h4 h.nd,fun q hq=>?_,fun q hq=>⟨List.mem_append_right _ hq,?_⟩,fun q hq=>?_,fun v hv hl=>?_,fun hne=>?_,by simp⟩
 ·rcases List.mem_append.mp hq with z | z
  ·exact h.bx q z
  ·obtain⟨p,hp,k,hk,rfl⟩:=from_ly q z
   exact oW hA hB (h.bx p (h.lay p hp).1) hk
 ·obtain⟨p,hp,k,hk,rfl⟩:=from_ly q hq
  obtain⟨_,v,hv,hl,rfl⟩:=h.lay p hp
  exact⟨v++[k],j2.mpr ⟨hv,hk⟩,by simp[hl],jX v k⟩
 ·rcases List.mem_append.mp hq with z | z
  ·refine .inr fun k hk=>?_
   rcases h.cl q z with y | y
   ·exact⟨hn q y k hk,h3 _ (List.mem_flatMap.mpr ⟨q,y,List.mem_map.mpr ⟨k,List.mem_range.mpr hk,rfl⟩⟩)⟩
   ·exact⟨(y k hk).1,List.mem_append_left _ (y k hk).2⟩
  ·exact .inl z
 ·have hk:=h.inK hv (by omega)
  exact⟨List.mem_append_left _ hk,fun z=>(h2 _ z).2 hk⟩
 ·have he:0<e.length:=List.length_pos_iff.mpr hne
  rw[List.length_append]
  have hly:ly ≠ []:=fun z=>by
   rw[z] at h2
   obtain⟨q,r,hq⟩:=List.exists_cons_of_ne_nil hne
   have:=(h2 q (by rw[hq];exact List.mem_cons_self)).1
   cases this
  have:=h.many hly
  omega
theorem BN{A B:Bk}{t:Nat}{kn ly:List Pp}(h:LI A B t kn ly){p:Pp}(hp:p∈ly){k:Nat}(hk:k<6)(hb:bad A B p k=true):wR A B (t+1):=by
 obtain⟨_,v,hv,hl,rfl⟩:=h.lay p hp
 exact⟨⟨v++[k],j2.mpr ⟨hv,hk⟩,by simp[hl],qm.mpr hb⟩,fun u hu hlt=>h.no hu (by omega)⟩
def yg:R->Option Bool:=(ju wL (i3 2) (qX i8))
theorem pE{A B:Bk}(hA:A.Ok)(hB:B.Ok):∀(n t:Nat) (kn ly:List Pp) (a4 a5 a6 a7 a8 a9:OD),LI A B t kn ly->1<=n->(ly ≠ []->66<=n+t) ->
  (∃m ls,wR A B m/\m8 yg ao n [some A.d,some B.d,some (.lst (ly.map jA)),some (.int (t:Int)),a4,a5,a6,a7,a8,a9] [kn.map jA]=some (.rt (.int (m:Int)),ls)) \/
  (∃ ρ' ls,Ax A B/\m8 yg ao n [some A.d,some B.d,some (.lst (ly.map jA)),some (.int (t:Int)),a4,a5,a6,a7,a8,a9] [kn.map jA]=some (.nx ρ',ls))
 | 0,_,_,_,_,_,_,_,_,_,_,h,_=>absurd h (by decide)
 | n+1,t,kn,[],a4,a5,a6,a7,a8,a9,h,_,_=>.inr ⟨_,_,h.nev,rfl⟩
 | n+1,t,kn,p::ly,a4,a5,a6,a7,a8,a9,h,_,hn=>by
  have hn:=hn (by simp)
  have hlen:=h.len hA hB
  have hmany:=h.many (by simp)
  have hlyl:=h.lyl
  have hu:∀X,(ao [some A.d,some B.d,some (.lst ((p::ly).map jA)),some (.int (t:Int)),a4,a5,a6,a7,a8,a9] [kn.map jA]).bind (fun r=>match r.1 with
  | .nx ρ1=>m8 yg ao n ρ1 r.2
  | .ct ρ1=>m8 yg ao n ρ1 r.2
  | .bk ρ1=>some (.nx ρ1,r.2)
  | .rt d=>some (.rt d,r.2))=X->m8 yg ao (n+1) [some A.d,some B.d,some (.lst ((p::ly).map jA)),some (.int (t:Int)),a4,a5,a6,a7,a8,a9] [kn.map jA]=X:=fun X hX=>hX
  have e3:∀X,lV (j6 [(setAt 4),(setAt 5)]) au ((p::ly).map jA) [some A.d,some B.d,some (.lst ((p::ly).map jA)),some (.int ((t+1:Nat):Int)),a4,a5,a6,a7,a8,a9] [kn.map jA,([]:List Pp).map jA]=X->ao [some A.d,some B.d,some (.lst ((p::ly).map jA)),some (.int (t:Int)),a4,a5,a6,a7,a8,a9] [kn.map jA]=X.bind fun r=>match r.1 with
   | .nx ρ1=>if ρ1.length=10/\r.2.length=1+1 then some (.nx (ρ1.set 2 (some (.lst (r.2.getLastD [])))),r.2.dropLast) else none
   | .rt d=>if r.2.length=1+1 then some (.rt d,r.2.dropLast) else none
   | _=>none:=fun X hX=>by rw[<- hX];rfl
  rcases ez hA hB (o2:=some (.lst ((p::ly).map jA))) (mm:=((t+1:Nat):Int)) (p::ly) a4 a5 a6 a7 a8 a9 kn [] (fun q hq=>h.bx q (h.lay q hq).1) (by omega) (by simp at *;omega) with ⟨q,hq,k,hk,hb,ls,hls,hr⟩ | ⟨hno,b4,b5,b6,b7,b8,b9,hr⟩
  ·refine .inl ⟨t+1,ls.dropLast,BN h hq hk hb,hu _ ?_⟩
   rw[e3 _ hr,Option.bind_some]
   show((if ls.length=1+1 then some ((.rt (.int ((t+1:Nat):Int)):Out),ls.dropLast) else none):Option (Out×oP)).bind _=_
   rw[if_pos hls]
   rfl
  ·have h':=h.step hA hB hno
   generalize ((p::ly).flatMap fun p=>(List.range 6).map (jV A B p)).foldl addQ (kn,[])=s at *
   have ih:=pE hA hB n (t+1) s.1 s.2 b4 b5 b6 b7 b8 b9 h' (by omega) (fun _=>by omega)
   have e:∀X,m8 yg ao n [some A.d,some B.d,some (.lst (s.2.map jA)),some (.int ((t+1:Nat):Int)),b4,b5,b6,b7,b8,b9] [s.1.map jA]=X->m8 yg ao (n+1) [some A.d,some B.d,some (.lst ((p::ly).map jA)),some (.int (t:Int)),a4,a5,a6,a7,a8,a9] [kn.map jA]=X:=fun X hX=>by
    refine hu _ ?_
    rw[e3 _ hr,Option.bind_some]
    exact hX
   rcases ih with ⟨m,ls,hf,hw⟩ | ⟨ρ',ls,hf,hw⟩
   ·exact .inl ⟨m,ls,hf,e _ hw⟩
   ·exact .inr ⟨ρ',ls,hf,e _ hw⟩
def Due(A B:Bk)(d:D):Prop:=(d=.non/\Ax A B)\/∃m:Nat,d=.int (m:Int)/\wR A B m
theorem fV{A B:Bk}(hA:A.Ok)(hB:B.Ok):∃d,aO [A.d,B.d]=some d/\Due A B d:=by
  have c0:=mT (A:=A) (B:=B) (x:=0) (y:=0) (f:=i3 0) (g:=fun _=>some (.int 0)) (f':=i3 1) (g':=fun _=>some (.int 0)) (ρ:=[some A.d,some B.d,none,none,none,none,none,none,none,none,none,none]) rfl rfl hA.some1 rfl rfl hB.some1
  show ∃d,jK (jn (mv _ _ kg) _ [some A.d,some B.d,none,none,none,none,none,none,none,none,none,none])=some d/\_
  cases hl:ri A B (0,0) with
  | true =>
    rw[hl] at c0
    refine⟨.int 0,?_,.inr ⟨0,rfl,⟨[],fun k hk=>(by cases hk),rfl,nk.mpr hl⟩,fun u _ h=>absurd h (Nat.not_lt_zero _)⟩⟩
    show jK ((mv _ _ kg _).bind _)=_
    unfold mv
    rw[c0]
    rfl
  | false =>
    rw[hl] at c0
    have s1:mv (ju mf (mw (i6 jd (i6 jd (i3 0) (kI 2)) (kI 0)) my (aP (kI 2))) (mw (i6 jd (i6 jd (i3 1) (kI 2)) (kI 0)) my (aP (kI 2)))) (j5 (kI 0)) kg [some A.d,some B.d,none,none,none,none,none,none,none,none,none,none]=some (.nx [some A.d,some B.d,none,none,none,none,none,none,none,none,none,none]):=by
      unfold mv
      rw[c0];rfl
    rw[jk s1]
    have h0:LI A B 0 [(0,0)] [(0,0)]:=⟨hl,by simp,by simp,fun p hp=>by rw[List.mem_singleton.mp hp];exact ze hA hB,fun p hp=>⟨hp,[],fun k hk=>(by cases hk),rfl,(List.mem_singleton.mp hp).symm⟩,fun p hp=>.inl hp,fun v _ h=>absurd h (Nat.not_lt_zero _),fun _=>Nat.le_refl _,Nat.le_refl _⟩
    have e:∀ X,m8 yg ao 100 [some A.d,some B.d,some (.lst ([(0,0)].map jA)),some (.int ((0:Nat):Int)),none,none,none,none,none,none] [[(0,0)].map jA]=X->wY 10 (e8 (jw (e8 (kI 0) (e8 (kI 0) i8))) i8)
        (pd (kF (jr (qX (e8 (jw (e8 (kI 0) (e8 (kI 0) i8))) i8)) (setAt 2)))
        (pd (kF (jr (kI 0) (setAt 3)))
        (pd (sr 100 (ju wL (i3 2) (qX i8)) ao)
        (kF (j5 (fun _=>some .non)))))) [some A.d,some B.d,none,none,none,none,none,none,none,none,none,none]=(X.bind fun r=>match r.1 with
          | .nx ρ1=>kF (j5 (fun _=>some .non)) ρ1 r.2
          | o=>some (o,r.2)).bind fun r=>match r.1 with
          | .rt d=>some (.rt d)
          | _=>none:=fun X hX=>by rw[<- hX];rfl
    rcases pE hA hB 100 0 [(0,0)] [(0,0)] none none none none none none h0 (by decide) (fun _=>by decide) with ⟨m,ls,hf,hw⟩ | ⟨ρ',ls,hf,hw⟩
    · refine⟨.int (m:Int),?_,.inr ⟨m,rfl,hf⟩⟩
      rw[e _ hw];rfl
    · refine⟨.non,?_,.inl ⟨rfl,hf⟩⟩
      rw[e _ hw];rfl
theorem pI{k:Nat}(h:k<6):k=0\/k=1\/k=2\/k=3\/k=4\/k=5:=by omega
theorem uu(a b:Str):chars (a++b)=chars a++chars b:=by
 show((a.cps++b.cps).toList.map _)=_
 rw[Array.toList_append,List.map_append];rfl
theorem u_{k:Nat}(h:k<6):chars (nE k)=[.str (nE k)]/\(nE k).cps.all (·<128)=true:=by
 rcases pI h with rfl | rfl | rfl | rfl | rfl | rfl<;>exact⟨rfl,by decide +kernel⟩
theorem pH:∀(n:Nat) (u:List Nat),u.length=n->Wd u->chars (txt u)=u.map (fun k=>.str (nE k))/\(txt u).cps.all (·<128)=true
 | 0,u,h,_=>by rw[List.length_eq_zero_iff.mp h];exact⟨rfl,by decide +kernel⟩
 | n+1,u,h,w=>by
  rcases snoc_cases u with rfl | ⟨v,k,rfl⟩
  ·cases h
  ·obtain⟨w1,w2⟩:=j2.mp w
   have hv:v.length=n:=by simp at h;omega
   obtain⟨h1,h2⟩:=pH n v hv w1
   obtain⟨h3,h4⟩:=u_ w2
   rw[txt_snoc]
   refine⟨by rw[uu,h1,h3,List.map_append];rfl,?_⟩
   show((txt v).cps++(nE k).cps).all (·<128)=true
   rw[Array.all_append,h2,h4];rfl
theorem Bj{x y:Str}{i:Nat}{l:List Nat}(h:PySem.Builtin.Str.occurrences x y 0 x.length 1=i::l):nD [.str x,.str y]=some (.int i):=by
 show(match PySem.Builtin.Str.occurrences x y 0 x.length 1 with | i::_=>some (D.int (i:Int)) | []=>none)=_
 rw[h]
theorem y6{k:Nat}(h:k<6):nD [.str (oS "abcABC"),.str (nE k)]=some (.int (k:Int)):=by
 rcases pI h with rfl | rfl | rfl | rfl | rfl | rfl<;>exact Bj (l:=[]) (by decide +kernel)
def uL:R->Option Out:=(jn (mv (xQ (i3 5))
  (j5 (fun _=>some (.bl false)))
  kg)
  (jn (jr (jc nD (e8 (kS "abcABC") (e8 (i3 6) i8))) (setAt 7))
  (jn (jr (i6 jd (i6 jd (i6 jd (i6 jd (i3 0) (kI 2)) (i3 3)) (kI 2)) (i3 7)) (j6 [(setAt 8),(setAt 3)]))
  (jn (jr (i6 jd (i6 jd (i6 jd (i6 jd (i3 1) (kI 2)) (i3 4)) (kI 2)) (i3 7)) (j6 [(setAt 9),(setAt 4)]))
  (jr (Ai (rX (ju uK (i3 8) (i3 9))) (rX (ju mf (mw (i6 jd (i6 jd (i3 0) (kI 2)) (i3 3)) my (aP (kI 2))) (mw (i6 jd (i6 jd (i3 1) (kI 2)) (i3 4)) my (aP (kI 2)))))) (setAt 5))))))
theorem gz{b:Bk}(ok:b.Ok){x k:Nat}{f g q:R->OD}{ρ:R}(hf:f ρ=some b.d)(hg:g ρ=some (.int (x:Int)))(hq:q ρ=some (.int (k:Int)))(hx:x<b.modes.length)(hk:k<6) :
  i6 jd (i6 jd (i6 jd (i6 jd f (kI 2)) g) (kI 2)) q ρ=some (jv ((b.md x).row k)):=by
 show((i6 jd (i6 jd f (kI 2)) g ρ).bind fun z=>(some (D.int 2)).bind fun y=>jd z y).bind (fun z=>(q ρ).bind fun y=>jd z y)=_
 rw[lZ hf hg hx,hq]
 show ro ((b.md x).rows.map jv) (k:Int)=_
 exact mn (by rw[List.getElem?_map,pK (by rw[(lY ok hx).six];exact hk)];rfl)
theorem vj{A B:Bk}(hA:A.Ok)(hB:B.Ok){p:Pp}{k:Nat}(hp:rY A B p)(hk:k<6){o2 a7 a8 a9:OD} :
  ∃b7 b8 b9,uL [some A.d,some B.d,o2,some (.int (p.1:Int)),some (.int (p.2:Int)),some (.bl false),some (.str (nE k)),a7,a8,a9]=some (.nx [some A.d,some B.d,o2,some (.int ((jV A B p k).1:Int)),some (.int ((jV A B p k).2:Int)),some (.bl (bad A B p k)),some (.str (nE k)),b7,b8,b9]):=by
 refine⟨some (.int (k:Int)),some (.str ((A.md p.1).row k).1.x),some (.str ((B.md p.2).row k).1.x),?_⟩
 have hb:=oW hA hB hp hk
 unfold uL
 rw[jk (ρ2:=[some A.d,some B.d,o2,some (.int (p.1:Int)),some (.int (p.2:Int)),some (.bl false),some (.str (nE k)),a7,a8,a9]) rfl]
 have e1:jc nD (e8 (kS "abcABC") (e8 (i3 6) i8)) [some A.d,some B.d,o2,some (.int (p.1:Int)),some (.int (p.2:Int)),some (.bl false),some (.str (nE k)),a7,a8,a9]=some (.int (k:Int)):=y6 hk
 rw[jk (jt (ρ':=[some A.d,some B.d,o2,some (.int (p.1:Int)),some (.int (p.2:Int)),some (.bl false),some (.str (nE k)),some (.int (k:Int)),a8,a9]) e1 rfl)]
 have e2:=gz hA (x:=p.1) (k:=k) (f:=i3 0) (g:=i3 3) (q:=i3 7) (ρ:=[some A.d,some B.d,o2,some (.int (p.1:Int)),some (.int (p.2:Int)),some (.bl false),some (.str (nE k)),some (.int (k:Int)),a8,a9]) rfl rfl rfl hp.1 hk
 rw[jk (jt (ρ':=[some A.d,some B.d,o2,some (.int ((jV A B p k).1:Int)),some (.int (p.2:Int)),some (.bl false),some (.str (nE k)),some (.int (k:Int)),some (.str ((A.md p.1).row k).1.x),a9]) e2 rfl)]
 have e3:=gz hB (x:=p.2) (k:=k) (f:=i3 1) (g:=i3 4) (q:=i3 7) (ρ:=[some A.d,some B.d,o2,some (.int ((jV A B p k).1:Int)),some (.int (p.2:Int)),some (.bl false),some (.str (nE k)),some (.int (k:Int)),some (.str ((A.md p.1).row k).1.x),a9]) rfl rfl rfl hp.2 hk
 rw[jk (jt (ρ':=[some A.d,some B.d,o2,some (.int ((jV A B p k).1:Int)),some (.int ((jV A B p k).2:Int)),some (.bl false),some (.str (nE k)),some (.int (k:Int)),some (.str ((A.md p.1).row k).1.x),some (.str ((B.md p.2).row k).1.x)]) e3 rfl)]
 generalize hρ:([some A.d,some B.d,o2,some (.int ((jV A B p k).1:Int)),some (.int ((jV A B p k).2:Int)),some (.bl false),some (.str (nE k)),some (.int (k:Int)),some (.str ((A.md p.1).row k).1.x),some (.str ((B.md p.2).row k).1.x)]:R)=ρ
 have c1:ju uK (i3 8) (i3 9) ρ=some (xV A B p k):=(lc (x:=.str ((A.md p.1).row k).1.x) (y:=.str ((B.md p.2).row k).1.x) (by rw[<- hρ];rfl) (by rw[<- hρ];rfl)).trans (qw _ _)
 have c2:=mT (A:=A) (B:=B) (x:=(jV A B p k).1) (y:=(jV A B p k).2) (f:=i3 0) (g:=i3 3) (f':=i3 1) (g':=i3 4) (ρ:=ρ) (by rw[<- hρ];rfl) (by rw[<- hρ];rfl) hb.1 (by rw[<- hρ];rfl) (by rw[<- hρ];rfl) hb.2
 refine jt (d:=.bl (bad A B p k)) ?_ (by rw[<- hρ];rfl)
 unfold Ai
 rw[xi c1,Option.bind_some]
 unfold bad
 cases xV A B p k with
 | true=>rfl
 | false=>exact xi c2
theorem qW{A B:Bk}(hA:A.Ok)(hB:B.Ok){o2:OD}:∀(w v:List Nat) (f:Bool) (a6 a7 a8 a9:OD),Wd (v++w)->(f=true↔Pt A B v)->(∀w1 w2,w=w1++w2->w2 ≠ []->¬ Pt A B (v++w1))->Pt A B (v++w) ->
  ∃x y b6 b7 b8 b9,qC (setAt 6) uL (w.map fun k=>.str (nE k)) [some A.d,some B.d,o2,some (.int ((run A B v).1:Int)),some (.int ((run A B v).2:Int)),some (.bl f),a6,a7,a8,a9]=some (.nx [some A.d,some B.d,o2,x,y,some (.bl true),b6,b7,b8,b9])
 | [],v,f,a6,a7,a8,a9,_,hf,_,hp=>by
  rw[List.append_nil] at hp
  rw[hf.mpr hp]
  exact⟨_,_,_,_,_,_,rfl⟩
 | k::w,v,f,a6,a7,a8,a9,hw,hf,hn,hp=>by
  have hnv:¬ Pt A B v:=by have:=hn [] (k::w) rfl (by simp);rwa [List.append_nil] at this
  have ff:f=false:=by cases f with | false=>rfl | true=>exact absurd (hf.mp rfl) hnv
  subst ff
  have hv:Wd v:=fun j hj=>hw j (List.mem_append_left _ hj)
  have hk:k<6:=hw k (by simp)
  obtain⟨b7,b8,b9,t⟩:=vj hA hB (xh hA hB v hv) hk (o2:=o2) (a7:=a7) (a8:=a8) (a9:=a9)
  have ap:v++k::w=v++[k]++w:=by simp
  obtain⟨x,y,c6,c7,c8,c9,ih⟩:=qW hA hB (o2:=o2) w (v++[k]) (bad A B (run A B v) k) (some (.str (nE k))) b7 b8 b9 (by rw[<- ap];exact hw) qm.symm (fun w1 w2 e h2=>by
   have:=hn (k::w1) w2 (by rw[e];rfl) h2
   rwa [show v++k::w1=v++[k]++w1 by simp] at this) (by rw[<- ap];exact hp)
  rw[jX] at ih
  refine⟨x,y,c6,c7,c8,c9,?_⟩
  show(uL [some A.d,some B.d,o2,some (.int ((run A B v).1:Int)),some (.int ((run A B v).2:Int)),some (.bl false),some (.str (nE k)),a7,a8,a9]).bind _=_
  rw[t]
  exact ih
theorem gs{A B:Bk}(hA:A.Ok)(hB:B.Ok){u:List Nat}(hu:Wd u)(hp:Pt A B u)(hf:wR A B u.length):aJ [A.d,B.d,.str (txt u)]=some (.bl true):=by
 have c0:=mT (A:=A) (B:=B) (x:=0) (y:=0) (f:=i3 0) (g:=fun _=>some (.int 0)) (f':=i3 1) (g':=fun _=>some (.int 0)) (ρ:=[some A.d,some B.d,some (.str (txt u)),some (.int 0),some (.int 0),none,none,none,none,none]) rfl rfl hA.some1 rfl rfl hB.some1
 obtain⟨h1,h2⟩:=pH _ u rfl hu
 obtain⟨x,y,b6,b7,b8,b9,hl⟩:=qW hA hB (o2:=some (.str (txt u))) u [] (ri A B (0,0)) none none none none hu nk.symm (fun w1 w2 e h2 hp1=>by
  refine hf.no w1 (fun k hk=>hu k (by rw[e];exact List.mem_append_left _ hk)) ?_ hp1
  have:0<w2.length:=List.length_pos_iff.mpr h2
  rw[e,List.length_append];omega) hp
 show jK (jn _ _ [some A.d,some B.d,some (.str (txt u)),none,none,none,none,none,none,none])=_
 rw[jk (ρ2:=[some A.d,some B.d,some (.str (txt u)),some (.int 0),none,none,none,none,none,none]) rfl]
 rw[jk (ρ2:=[some A.d,some B.d,some (.str (txt u)),some (.int 0),some (.int 0),none,none,none,none,none]) rfl]
 rw[jk (jt (ρ':=[some A.d,some B.d,some (.str (txt u)),some (.int 0),some (.int 0),some (.bl (ri A B (0,0))),none,none,none,none]) (xi c0) rfl)]
 have hlp:nG (ku (i3 2)) (setAt 6) uL [some A.d,some B.d,some (.str (txt u)),some (.int 0),some (.int 0),some (.bl (ri A B (0,0))),none,none,none,none]=some (.nx [some A.d,some B.d,some (.str (txt u)),x,y,some (.bl true),b6,b7,b8,b9]):=by
  show(if (txt u).cps.all (·<128) then some (chars (txt u)) else none).bind _=_
  rw[if_pos h2,Option.bind_some,h1]
  exact hl
 show jK (jn (nG (ku (i3 2)) (setAt 6) uL) _ _)=_
 rw[jk hlp]
 rfl
theorem iM{xs:LD}{k:Nat}(h:k<=xs.length):cutD xs none (some (k:Int))=xs.take k:=by
 unfold cutD uF
 simp[show ¬ (k:Int)<0 by omega,Nat.min_eq_left h]
theorem iR{xs:LD}{k:Nat}(h:k<=xs.length):cutD xs (some (k:Int)) none=xs.drop k:=by
 unfold cutD uF
 simp[show ¬ (k:Int)<0 by omega,Nat.min_eq_left h]
 exact List.take_of_length_le (by simp)
theorem eV{α:Type}{xs:List α}{k:Nat}{y x:α}(h:x∈xs.take k++[y]++xs.drop (k+1)):x∈xs\/x=y:=by
 rcases List.mem_append.mp h with z | z
 ·rcases List.mem_append.mp z with a | a
  ·exact .inl (List.mem_of_mem_take a)
  ·exact .inr (List.mem_singleton.mp a)
 ·exact .inl (List.mem_of_mem_drop z)
theorem cG{α:Type}{xs:List α}{k:Nat}{y:α}(h:k<xs.length):(xs.take k++[y]++xs.drop (k+1)).length=xs.length:=by
 simp;omega
theorem eY{α:Type}{xs:List α}{k:Nat}{y:α}(f:α->D):(xs.map f).take k++[f y]++(xs.map f).drop (k+1)=(xs.take k++[y]++xs.drop (k+1)).map f:=by
 simp[List.map_take,List.map_drop]
theorem dO{f g:R->OD}{e:R->OD}{ρ:R}{xs:LD}{k:Nat}{y:D}(hf:f ρ=some (.tup xs))(hg:g ρ=some (.int (k:Int)))(he:e ρ=some y)(hk:k<xs.length)(hx:xs.length<=1000) :
  i6 jD (i6 jD (mw f my (aP g)) (jw (e8 e i8))) (mw f (aP (i6 jD g (kI 1))) my) ρ=some (.tup (xs.take k++[y]++xs.drop (k+1))):=by
 have a1:mw f my (aP g) ρ=some (.tup (xs.take k)):=by
  show(f ρ).bind (fun x=>(some none).bind fun a=>((g ρ).bind Bc).bind fun b=>Bz x a b)=_
  rw[hf,hg]
  show some (D.tup (cutD xs none (some (k:Int))))=_
  rw[iM (Nat.le_of_lt hk)]
 have a2:mw f (aP (i6 jD g (kI 1))) my ρ=some (.tup (xs.drop (k+1))):=by
  show(f ρ).bind (fun x=>(((g ρ).bind fun i=>(some (D.int 1)).bind fun j=>jD i j).bind Bc).bind fun a=>(some none).bind fun b=>Bz x a b)=_
  rw[hf,hg]
  show some (D.tup (cutD xs (some ((k:Int)+1)) none))=_
  rw[show((k:Int)+1)=((k+1:Nat):Int) by omega,iR hk]
 have a3:jw (e8 e i8) ρ=some (.tup [y]):=by
  show((e ρ).bind fun x=>(some []).map (x::·)).map D.tup=_
  rw[he];rfl
 show((mw f my (aP g) ρ).bind fun x=>(jw (e8 e i8) ρ).bind fun y=>jD x y).bind (fun x=>(mw f (aP (i6 jD g (kI 1))) my ρ).bind fun y=>jD x y)=_
 rw[a1,a2,a3]
 show(if (xs.take k).length+[y].length<=sizeLine then some (D.tup (xs.take k++[y])) else none).bind _=_
 rw[if_pos (x6 (by simp;omega)),Option.bind_some]
 show(if (xs.take k++[y]).length+(xs.drop (k+1)).length<=sizeLine then _ else none)=_
 rw[if_pos (x6 (by simp;omega))]
theorem nO(a:Int){n:Nat}(h:0<n):∃x:Nat,a%(n:Int)=(x:Int)/\x<n:=by
 have h0:0<=a%(n:Int):=Int.emod_nonneg _ (by omega)
 have h1:a%(n:Int)<(n:Int):=Int.emod_lt_of_pos _ (by omega)
 exact⟨(a%(n:Int)).toNat,by omega,by omega⟩
theorem km{f g:R->OD}{ρ:R}{N j:Int}{n:Nat}(hf:f ρ=some (.int N))(hg:g ρ=some (.int (n:Int)))(hn:0<n)(h0:0<j)(h1:j<1073741824):i6 jz (i6 j7 f (kI j)) g ρ=some (.int (N / j%(n:Int))):=by
 show((f ρ).bind fun x=>(some (D.int j)).bind fun y=>j7 x y).bind (fun x=>(g ρ).bind fun y=>jz x y)=_
 rw[hf,hg]
 show((if 0<j/\j<1073741824 then some (D.int (N / j)) else none).bind fun x=>jz x (.int (n:Int)))=_
 rw[if_pos ⟨h0,h1⟩]
 show(if 0<(n:Int) then some (D.int (N / j%(n:Int))) else none)=_
 rw[if_pos (by omega)]
theorem BG(N:Int):∃d:kL,jd (.tup [.str (oS "none"),.str (oS "hour"),.str (oS "run"),.str (oS "count")]) (.int (N%4))=some (.str d.x):=by
 have h:N%4=0\/N%4=1\/N%4=2\/N%4=3:=by omega
 rcases h with h | h | h | h<;>rw[h]
 ·exact⟨.none,rfl⟩
 ·exact⟨.hour,rfl⟩
 ·exact⟨.run,rfl⟩
 ·exact⟨.count,rfl⟩
theorem mY{ρ:R}{N c:Int}(h:i3 1 ρ=some (.int N)):ju ql (i6 jz (i3 1) (kI 4)) (kI c) ρ=some (N%4==c):=by
 show((((i3 1 ρ).bind fun x=>(some (D.int 4)).bind fun y=>jz x y)).bind fun x=>(some (D.int c)).bind fun y=>ql x y)=_
 rw[h]
 rfl
def so:R->Option Out:=(mv (ju ql (i6 jz (i3 1) (kI 4)) (kI 0))
  (jr (jw (e8 (i6 jd (jw (e8 (kS "none") (e8 (kS "hour") (e8 (kS "run") (e8 (kS "count") i8))))) (i6 jz (i6 j7 (i3 1) (kI 512)) (kI 4))) (e8 (i6 jd (i3 8) (kI 1)) i8))) (setAt 8))
  (mv (ju ql (i6 jz (i3 1) (kI 4)) (kI 1))
  (jr (jw (e8 (i6 jd (i3 8) (kI 0)) (e8 (i6 jz (i6 j7 (i3 1) (kI 512)) (i3 2)) i8))) (setAt 8))
  (mv (ju ql (i6 jz (i3 1) (kI 4)) (kI 2))
  (jr (xM (i3 5)) (setAt 5))
  kg)))
theorem xb{c:R->Option Bool}{f g:R->Option Out}{ρ:R}(h:c ρ=some true):mv c f g ρ=f ρ:=by simp[h]
theorem w4{c:R->Option Bool}{f g:R->Option Out}{ρ:R}(h:c ρ=some false):mv c f g ρ=g ρ:=by simp[h]
theorem xB{b:Bk}{N:Int}{n:Nat}(hn:0<n){o3 o4 o6 o7:OD}{s:Bool}{r:kL×Nat}(hr:r.2<n) :
  ∃s' r',r'.2<n/\so [some b.d,some (.int N),some (.int (n:Int)),o3,o4,some (.bl s),o6,o7,some (jv r),none]=some (.nx [some b.d,some (.int N),some (.int (n:Int)),o3,o4,some (.bl s'),o6,o7,some (jv r'),none]):=by
 generalize hρ:([some b.d,some (.int N),some (.int (n:Int)),o3,o4,some (.bl s),o6,o7,some (jv r),none]:R)=ρ
 have h1:i3 1 ρ=some (.int N):=by rw[<- hρ];rfl
 have h2:i3 2 ρ=some (.int (n:Int)):=by rw[<- hρ];rfl
 have h8:i3 8 ρ=some (jv r):=by rw[<- hρ];rfl
 have c0:=mY (c:=0) h1
 have c1:=mY (c:=1) h1
 have c2:=mY (c:=2) h1
 unfold so
 by_cases h:N%4=0
 ·rw[h] at c0
  rw[xb c0]
  obtain⟨d,hd⟩:=BG (N / 512)
  refine⟨s,(d,r.2),hr,jt (d:=jv (d,r.2)) ?_ (by rw[<- hρ];rfl)⟩
  have e1:i6 jd (jw (e8 (kS "none") (e8 (kS "hour") (e8 (kS "run") (e8 (kS "count") i8))))) (i6 jz (i6 j7 (i3 1) (kI 512)) (kI 4)) ρ=some (.str d.x):=by
   show(some (D.tup [.str (oS "none"),.str (oS "hour"),.str (oS "run"),.str (oS "count")])).bind (fun x=>(i6 jz (i6 j7 (i3 1) (kI 512)) (kI 4) ρ).bind fun y=>jd x y)=_
   rw[km (n:=4) h1 rfl (by decide) (by decide) (by decide)]
   exact hd
  show((i6 jd _ _ ρ).bind fun x=>(((i3 8 ρ).bind fun x=>(some (D.int 1)).bind fun y=>jd x y).bind fun y=>(some []).map (y::·)).map (x::·)).map D.tup=_
  rw[e1,h8]
  rfl
 ·have c0':ju ql (i6 jz (i3 1) (kI 4)) (kI 0) ρ=some false:=by rw[c0,beq_eq_false_iff_ne.mpr h]
  rw[w4 c0']
  by_cases h':N%4=1
  ·rw[h'] at c1
   rw[xb c1]
   obtain⟨x,hx,hxn⟩:=nO (N / 512) hn
   refine⟨s,(r.1,x),hxn,jt (d:=jv (r.1,x)) ?_ (by rw[<- hρ];rfl)⟩
   show(((i3 8 ρ).bind fun x=>(some (D.int 0)).bind fun y=>jd x y).bind fun x=>((i6 jz (i6 j7 (i3 1) (kI 512)) (i3 2) ρ).bind fun y=>(some []).map (y::·)).map (x::·)).map D.tup=_
   rw[h8,km (n:=n) h1 h2 hn (by decide) (by decide),hx]
   rfl
  ·have c1':ju ql (i6 jz (i3 1) (kI 4)) (kI 1) ρ=some false:=by rw[c1,beq_eq_false_iff_ne.mpr h']
   rw[w4 c1']
   by_cases h'':N%4=2
   ·rw[h''] at c2
    rw[xb c2]
    refine⟨!s,r,hr,jt (d:=.bl (!s)) (xS (by rw[<- hρ];rfl)) (by rw[<- hρ];rfl)⟩
   ·have c2':ju ql (i6 jz (i3 1) (kI 4)) (kI 2) ρ=some false:=by rw[c2,beq_eq_false_iff_ne.mpr h'']
    rw[w4 c2']
    exact⟨s,r,hr,by rw[<- hρ];rfl⟩
theorem iK{b:Bk}(ok:b.Ok)(N:Int):∃b':Bk,aZ [b.d,.int N]=some b'.d/\b'.Ok:=by
 have hn:0<b.modes.length:=ok.some1
 have hn8:=ok.some8
 obtain⟨x,hx,hxn⟩:=nO (N / 8) hn
 obtain⟨k,hk,hk6⟩:=nO (N / 64) (n:=6) (by decide)
 have mk:=lY ok hxn
 generalize hm:b.md x=m at mk
 have hrk:(m.row k).2<b.modes.length:=mk.nx _ (List.mem_of_getElem? (pK (by rw[mk.six];exact hk6)))
 obtain⟨s',r',hr',hif⟩:=xB (b:=b) (N:=N) hn (o3:=some (.int (x:Int))) (o4:=some (.str m.face.x)) (o6:=some (.tup (m.rows.map jv))) (o7:=some (.int (k:Int))) (s:=m.stays) hrk
 have mk':Md.Ok b.modes.length ⟨m.face,s',m.rows.take k++[r']++m.rows.drop (k+1)⟩:=by
  refine⟨by show(m.rows.take k++[r']++m.rows.drop (k+1)).length=6;rw[cG (by rw[mk.six];exact hk6)];exact mk.six,fun r hr=>?_⟩
  rcases eV hr with z | z
  ·exact mk.nx r z
  ·rw[z];exact hr'
 generalize hmm:(⟨m.face,s',m.rows.take k++[r']++m.rows.drop (k+1)⟩:Md)=m' at mk'
 obtain⟨q,hq,hq61⟩:=nO (N / 4096) (n:=61) (by decide)
 refine⟨⟨b.hold,(q:Int),b.modes.take x++[m']++b.modes.drop (x+1)⟩,?_,ok.hold1,ok.hold9,by show 0<=(q:Int);omega,by show(q:Int)<=60;omega,?_,?_,?_⟩
 ·have hl8:(b.modes.map Md.d).length<=1000:=by rw[List.length_map];omega
  show jK (jn _ _ [some b.d,some (.int N),none,none,none,none,none,none,none,none])=_
  have s1:jr (jc nL (e8 (i6 jd (i3 0) (kI 2)) i8)) (setAt 2) [some b.d,some (.int N),none,none,none,none,none,none,none,none]=some (.nx [some b.d,some (.int N),some (.int (b.modes.length:Int)),none,none,none,none,none,none,none]):=by
   refine jt (d:=.int (b.modes.length:Int)) ?_ rfl
   show some (D.int ((b.modes.map Md.d).length:Int))=_
   rw[List.length_map]
  rw[jk s1]
  have s2:=km (f:=i3 1) (g:=i3 2) (ρ:=[some b.d,some (.int N),some (.int (b.modes.length:Int)),none,none,none,none,none,none,none]) (N:=N) (j:=8) rfl rfl hn (by decide) (by decide)
  rw[hx] at s2
  rw[jk (jt (ρ':=[some b.d,some (.int N),some (.int (b.modes.length:Int)),some (.int (x:Int)),none,none,none,none,none,none]) s2 rfl)]
  have s3:=lZ (b:=b) (x:=x) (f:=i3 0) (g:=i3 3) (ρ:=[some b.d,some (.int N),some (.int (b.modes.length:Int)),some (.int (x:Int)),none,none,none,none,none,none]) rfl rfl hxn
  rw[hm] at s3
  rw[jk (jt (ρ':=[some b.d,some (.int N),some (.int (b.modes.length:Int)),some (.int (x:Int)),some (.str m.face.x),some (.bl m.stays),some (.tup (m.rows.map jv)),none,none,none]) s3 rfl)]
  have s4:i6 jz (i6 j7 (i3 1) (kI 64)) (kI 6) [some b.d,some (.int N),some (.int (b.modes.length:Int)),some (.int (x:Int)),some (.str m.face.x),some (.bl m.stays),some (.tup (m.rows.map jv)),none,none,none]=some (.int (k:Int)):=(km (n:=6) (N:=N) (j:=64) rfl rfl (by decide) (by decide) (by decide)).trans (by rw[hk])
  rw[jk (jt (ρ':=[some b.d,some (.int N),some (.int (b.modes.length:Int)),some (.int (x:Int)),some (.str m.face.x),some (.bl m.stays),some (.tup (m.rows.map jv)),some (.int (k:Int)),none,none]) s4 rfl)]
  have s5:i6 jd (i3 6) (i3 7) [some b.d,some (.int N),some (.int (b.modes.length:Int)),some (.int (x:Int)),some (.str m.face.x),some (.bl m.stays),some (.tup (m.rows.map jv)),some (.int (k:Int)),none,none]=some (jv (m.row k)):=by
   show ro (m.rows.map jv) (k:Int)=_
   exact mn (by rw[List.getElem?_map,pK (by rw[mk.six];exact hk6)];rfl)
  rw[jk (jt (ρ':=[some b.d,some (.int N),some (.int (b.modes.length:Int)),some (.int (x:Int)),some (.str m.face.x),some (.bl m.stays),some (.tup (m.rows.map jv)),some (.int (k:Int)),some (jv (m.row k)),none]) s5 rfl)]
  show jK (jn so _ _)=_
  rw[jk hif]
  have p1:=dO (f:=i3 6) (g:=i3 7) (e:=i3 8) (ρ:=[some b.d,some (.int N),some (.int (b.modes.length:Int)),some (.int (x:Int)),some (.str m.face.x),some (.bl s'),some (.tup (m.rows.map jv)),some (.int (k:Int)),some (jv r'),none]) (xs:=m.rows.map jv) (k:=k) (y:=jv r') rfl rfl rfl (by rw[List.length_map,mk.six];exact hk6) (by rw[List.length_map,mk.six];decide)
  rw[eY] at p1
  have p2:=ye (f:=i3 4) (g:=i3 5) (x:=.str m.face.x) (y:=.bl s') rfl rfl p1
  have p3:(D.tup [.str m.face.x,.bl s',.tup ((m.rows.take k++[r']++m.rows.drop (k+1)).map jv)])=m'.d:=by rw[<- hmm];rfl
  rw[p3] at p2
  rw[jk (jt (ρ':=[some b.d,some (.int N),some (.int (b.modes.length:Int)),some (.int (x:Int)),some (.str m.face.x),some (.bl s'),some (.tup (m.rows.map jv)),some (.int (k:Int)),some (jv r'),some m'.d]) p2 rfl)]
  have p4:=dO (f:=i6 jd (i3 0) (kI 2)) (g:=i3 3) (e:=i3 9) (ρ:=[some b.d,some (.int N),some (.int (b.modes.length:Int)),some (.int (x:Int)),some (.str m.face.x),some (.bl s'),some (.tup (m.rows.map jv)),some (.int (k:Int)),some (jv r'),some m'.d]) (xs:=b.modes.map Md.d) (k:=x) (y:=m'.d) rfl rfl rfl (by rw[List.length_map];exact hxn) hl8
  rw[eY] at p4
  have p5:=km (f:=i3 1) (g:=fun _=>some (.int ((61:Nat):Int))) (ρ:=[some b.d,some (.int N),some (.int (b.modes.length:Int)),some (.int (x:Int)),some (.str m.face.x),some (.bl s'),some (.tup (m.rows.map jv)),some (.int (k:Int)),some (jv r'),some m'.d]) (N:=N) (j:=4096) rfl rfl (by decide) (by decide) (by decide)
  rw[hq] at p5
  exact lL (ye (f:=i6 jd (i3 0) (kI 0)) (x:=.int b.hold) rfl p5 p4)
 ·show 1<=(b.modes.take x++[m']++b.modes.drop (x+1)).length
  rw[cG hxn];exact hn
 ·show(b.modes.take x++[m']++b.modes.drop (x+1)).length<=8
  rw[cG hxn];exact hn8
 ·show ∀z∈b.modes.take x++[m']++b.modes.drop (x+1),z.Ok (b.modes.take x++[m']++b.modes.drop (x+1)).length
  rw[cG hxn]
  intro z hz
  rcases eV hz with y | y
  ·exact ok.all z y
  ·rw[y];exact mk'
theorem vo{A B:Bk}{m n:Nat}(h1:wR A B m)(h2:wR A B n):m=n:=by
 obtain⟨u,hu,hl,hp⟩:=h1.ex
 obtain⟨v,hv,hl',hp'⟩:=h2.ex
 have a:¬ u.length<n:=fun z=>h2.no u hu z hp
 have b:¬ v.length<m:=fun z=>h1.no v hv z hp'
 omega
theorem uf{A B:Bk}{m:Nat}(h:Ax A B)(h1:wR A B m):False:=by
 obtain⟨u,hu,hl,hp⟩:=h1.ex
 exact h u hu hp
theorem vm(ns:List Int)(_:ns.length<=63):cy [.fro (ns.map .int)]=some (.bl true):=by
 obtain⟨n0,e0,_⟩:=mq ns 0 (by decide)
 obtain⟨n1,e1,_⟩:=mq ns 1 (by decide)
 obtain⟨n2,e2,_⟩:=mq ns 2 (by decide)
 obtain⟨bd,hb,hbo,_⟩:=dg n0
 obtain⟨A,rfl,hA⟩:=fv hbo
 obtain⟨B0,hB0,okB0⟩:=iK hA n1
 generalize hS:D.fro (ns.map .int)=S at *
 have m2:∀(i:Int) (n:Int),aq [S,.int i]=some (.int n)->∀r:R,jc aq (e8 (i3 0) (e8 (kI i) i8)) (some S::r)=some (.int n):=fun i n h r=>h
 have s1:dB [some S,none,none,none,none,none]=some (.nx [some S,some A.d,none,none,none,none]):=
  jt (lB (m2 0 n0 e0 _) hb) rfl
 have s2:fe [some S,some A.d,none,none,none,none]=some (.nx [some S,some A.d,some B0.d,none,none,none]):=by
  refine jt (d:=B0.d) ?_ rfl
  show((some A.d).bind fun x=>((jc aq (e8 (i3 0) (e8 (kI 1) i8)) [some S,some A.d,none,none,none,none]).bind fun y=>(some []).map (y::·)).map (x::·)).bind aZ=_
  rw[m2 1 n1 e1]
  exact hB0
 have s3:∃B:Bk,B.Ok/\dE [some S,some A.d,some B0.d,none,none,none]=some (.nx [some S,some A.d,some B.d,none,none,none]):=by
  have c:ju ql (i6 jz (jc aq (e8 (i3 0) (e8 (kI 2) i8))) (kI 4)) (kI 0) [some S,some A.d,some B0.d,none,none,none]=some (n2%4==0):=by
   show(((jc aq (e8 (i3 0) (e8 (kI 2) i8)) _).bind fun x=>(some (D.int 4)).bind fun y=>jz x y).bind fun x=>(some (D.int 0)).bind fun y=>ql x y)=_
   rw[m2 2 n2 e2];rfl
  unfold dE
  cases hc:(n2%4==0) with
  | false =>
   rw[hc] at c
   exact⟨B0,okB0,w4 c⟩
  | true =>
   rw[hc] at c
   obtain⟨bd,hb2,hbo2,_⟩:=dg (n2 / 4)
   obtain⟨B,rfl,hB⟩:=fv hbo2
   refine⟨B,hB,(xb c).trans (jt (lB (x:=.int (n2 / 4)) ?_ hb2) rfl)⟩
   show((jc aq (e8 (i3 0) (e8 (kI 2) i8)) _).bind fun x=>(some (D.int 4)).bind fun y=>j7 x y)=_
   rw[m2 2 n2 e2];rfl
 obtain⟨B,hB,s3⟩:=s3
 obtain⟨due,hdue,hd⟩:=fV hA hB
 obtain⟨told,htold,ht⟩:=gJ hA hB
 have s4:ft [some S,some A.d,some B.d,none,none,none]=some (.nx [some S,some A.d,some B.d,some due,none,none]):=jt (show aO [A.d,B.d]=_ from hdue) rfl
 have s5:fx [some S,some A.d,some B.d,some due,none,none]=some (.nx [some S,some A.d,some B.d,some due,some told,none]):=jt (show aW [A.d,B.d]=_ from htold) rfl
 have hal:aH [A.d,B.d]=(rA told .non).map .bl:=by
  show jK (((((aW [A.d,B.d]).bind fun x=>(some D.non).bind fun y=>rA x y).map D.bl)).map .rt)=_
  rw[htold]
  rfl
 have hsame:(told=.non/\due=.non)\/∃u,Wd u/\told=.str (txt u)/\due=.int (u.length:Int)/\Pt A B u/\wR A B u.length/\u.length<=1000:=by
  rcases ht with ⟨h1,h2⟩ | ⟨u,hu,h1,h2,h3,h6⟩
  ·rcases hd with ⟨h4,h5⟩ | ⟨m,h4,h5⟩
   ·exact .inl ⟨h1,h4⟩
   ·exact(uf h2 h5).elim
  ·rcases hd with ⟨h4,h5⟩ | ⟨m,h4,h5⟩
   ·exact(uf h5 h3).elim
   ·exact .inr ⟨u,hu,h1,by rw[h4,vo h5 h3],h2,h3,h6⟩
 unfold cy via fU
 rw[if_pos (show [S].length=1 from rfl)]
 show jK (jn dB _ [some S,none,none,none,none,none])=_
 rw[jk s1,jk s2,jk s3,jk s4,jk s5]
 rcases hsame with ⟨rfl,rfl⟩ | ⟨u,hu,rfl,rfl,hp,hf,hsz⟩
 ·have s6:dl [some S,some A.d,some B.d,some .non,some .non,none]=some (.nx [some S,some A.d,some B.d,some .non,some .non,some (.bl true)]):=jt (show aH [A.d,B.d]=_ from hal) rfl
  rw[jk s6]
  rfl
 ·have s6:dl [some S,some A.d,some B.d,some (.int (u.length:Int)),some (.str (txt u)),none]=some (.nx [some S,some A.d,some B.d,some (.int (u.length:Int)),some (.str (txt u)),some (.bl false)]):=jt (show aH [A.d,B.d]=_ from hal) rfl
  have s7:fk [some S,some A.d,some B.d,some (.int (u.length:Int)),some (.str (txt u)),some (.bl false)]=some (.nx [some S,some A.d,some B.d,some (.int (u.length:Int)),some (.str (txt u)),some (.bl false)]):=rfl
  rw[jk s6,jk s7]
  unfold fi
  refine lL ?_
  have a1:jc oh (e8 (i3 4) i8) [some S,some A.d,some B.d,some (.int (u.length:Int)),some (.str (txt u)),some (.bl false)]=some (.int (u.length:Int)):=by
   have:=AJ (f:=i3 4) (ρ:=[some S,some A.d,some B.d,some (.int (u.length:Int)),some (.str (txt u)),some (.bl false)]) (w:=txt u) rfl (by rw[cI hu];exact hsz)
   rw[cI hu] at this
   exact this
  have a2:ju ql (jc oh (e8 (i3 4) i8)) (i3 3) [some S,some A.d,some B.d,some (.int (u.length:Int)),some (.str (txt u)),some (.bl false)]=some true:=by
   rw[lc (y:=.int (u.length:Int)) a1 rfl]
   show some ((u.length:Int)==(u.length:Int))=_
   simp
  show(some (D.bl false)).bind _=_
  rw[Option.bind_some]
  show xo _ _ _=_
  unfold xo
  rw[xi a2,Option.bind_some]
  exact gs hA hB hu hp hf
end
end HW
set_option maxRecDepth 100000
namespace HW
open PySem PySem.Spec PyProof.Rows L2
variable{P:Program}{w:World}{K:W.Frag}{mg:Str->Option Value}{base:Heap}{k:Nat}{f:Addr}{fd:FuncData}
abbrev dJ:Stmt:=top 2
theorem gm:jm ["mode"] ["mode"] (i7 dJ):=rE
theorem gk(Fn:ng K "nexts" "nexts" dJ f fd):jx P w K mg base kK (k+1) f fd ["mode"] (pS K br):=by
 refine aU Fn gm ?_
 intro _ _ _ _ _ _ hr
 refine ax ?_
 refine aT ?_
 refine fz (T:=["row"]) rfl ?_ ?_ ?_ (fun C s₃ H₃ fp hTC=>(aj (aa 0) ad)) (lO (by decide)) (show List.Nodup ((["row"]:List Str)++(["mode"]:List Str)) from by decide +kernel)
 ·exact ci (aj (aa 0) ad)
 ·intro C s₃ H₃ fp hTC
  exact ag 0 (show List.Nodup (["row" ,"mode"]:List Str) from by decide +kernel)
 intro C s₃ H₃ fp hTC
 exact eS
abbrev bF:Stmt:=top 8
theorem db:jm ["one","other"] ["one","other"] (i7 bF):=rE
theorem cZ(n9:lg P w K mg base k "nexts" ["mode"] br)(sP:mg "list" = none)(p0:mg "zip" = none)(Fn:ng K "pair_nexts" "pair_nexts" bF f fd):jx P w K mg base kK (k+1) f fd ["one","other"] (pS K aK):=by
 refine aU Fn db ?_
 intro _ _ _ _ _ _ hr
 refine ax ?_
 refine aT ?_
 refine gT rfl sP p0 ?_ ?_
 ·exact aB n9 hr (ac (aa 0) af)
 exact aB n9 hr (ac (aa 1) af)
theorem AE{P:Program}{w:World}{K:W.Frag}{mg:Str->Option Value}{base:Heap}{k:Nat}(li:lg P w K mg base k "pair_nexts" ["one","other"] aK):oI P w K mg base (k+1) t9 (uE 3 vH):=by
 refine yp (t:=t9) (g:=vH) (fun cl f cd A outer s H E S hr=>?_) (zu fun _ _ _ _ us hl=>by obtain⟨x0,rfl⟩:=Cv (us:=us) hl;rfl)
 exact(aB li hr (ac (aj (aj (aa 2) ad) (aj (aa 0) ad)) (ac (aj (aj (aa 1) ad) (aj (aa 0) ad)) af)))
abbrev bo:Stmt:=top 4
theorem jM:jm ["ways","newest","nexts_of","place","ends","number","found"] ["ways","newest","nexts_of"] (i7 bo):=rE
theorem cF(jZ:mg "len" = none)(kj:mg "range" = none)(j4:Ad K mg "PRESSES" az)(LO:Af P w K mg base k LL)(Fn:ng K "one_press_on" "one_press_on" bo f fd):jx P w K mg base kK (k+1) f fd ["ways","newest","nexts_of"] (BL P w K 3 ar):=by
  refine gX Fn jM ?_
  intro _ _ _ _ _ _ hr
  exact(xk 6 jM.nd
  (u5 PassesOwn.never rfl (ci (aa 1)) (ag 3 jM.nd)
  (rn (wH (ay (ge 2 LO hr (ac (aa 3) af)) (ag 4 jM.nd)))
  (qA (u5 PassesOwn.never rfl (cL kj (bz cR jZ (ac (dI j4) af))) (ag 5 jM.nd)
  (qA (AU (vA 0 (rL hr) (aj (aa 4) (aa 5)))
  (rn (yL 0 (rL hr) (aj (aa 4) (aa 5)) (zX aG (yY 0 (rL hr) (aa 3)) (Ay (aj (dI j4) (aa 5)))))
  (qA (zF 6 (aj (aa 4) (aa 5)))))
  w9)))))))
abbrev bB:Stmt:=top 3
theorem l_:jm ["start","nexts_of","ways","newest"] ["start","nexts_of"] (i7 bB):=rE
theorem cW(jZ:mg "len" = none)(kG:ut P w K mg base k "one_press_on" ["ways","newest","nexts_of"] ar)(Fn:ng K "first_ways" "first_ways" bB f fd):jx P w K mg base kK (k+1) f fd ["start","nexts_of"] (pS K aS):=by
 refine aU Fn l_ ?_
 intro _ _ _ _ _ _ hr
 refine gH 4 0 1 2 3 PassesOwn.never kG rfl hr l_.nd ?_ aD (fun _ _ _ r=>r)
 refine aY iY ?_ ad
 exact bz cR jZ (ac (aa 3) af)
abbrev dH:Stmt:=top 10
theorem gu:jm ["mode"] ["mode"] (i7 dH):=rE
theorem gy(Fn:ng K "looks" "looks" dH f fd):jx P w K mg base kK (k+1) f fd ["mode"] (pS K bg):=by
 refine aU Fn gu ?_
 intro _ _ _ _ _ _ hr
 refine ax ?_
 refine aT ?_
 refine aA ?_
 exact ac (aj (aa 0) ad) (ac (aj (aa 0) ad) af)
abbrev bR:Stmt:=top 11
theorem dZ:jm ["mode"] ["mode"] (i7 bR):=rE
theorem dR(Fn:ng K "deeds_of" "deeds_of" bR f fd):jx P w K mg base kK (k+1) f fd ["mode"] (pS K aC):=by
 refine aU Fn dZ ?_
 intro _ _ _ _ _ _ hr
 refine ax ?_
 refine aT ?_
 refine fz (T:=["row"]) rfl ?_ ?_ ?_ (fun C s₃ H₃ fp hTC=>(aj (aa 0) ad)) (lO (by decide)) (show List.Nodup ((["row"]:List Str)++(["mode"]:List Str)) from by decide +kernel)
 ·exact ci (aj (aa 0) ad)
 ·intro C s₃ H₃ fp hTC
  exact ag 0 (show List.Nodup (["row" ,"mode"]:List Str) from by decide +kernel)
 intro C s₃ H₃ fp hTC
 exact eS
abbrev bP:Stmt:=top 9
theorem eh:jm ["one","other"] ["one","other"] (i7 bP):=rE
theorem dW(lj:lg P w K mg base k "deeds_of" ["mode"] aC)(n_:lg P w K mg base k "looks" ["mode"] bg)(jZ:mg "len" = none)(kj:mg "range" = none)(j4:Ad K mg "PRESSES" az)(Fn:ng K "partings" "partings" bP f fd):jx P w K mg base kK (k+1) f fd ["one","other"] (pS K aQ):=by
 refine aU Fn eh ?_
 intro _ _ _ _ _ _ hr
 refine al ?_ ?_
 ·refine c_ ?_ ?_ bJ
  ·refine aY (cU hr) ?_ ?_
   ·exact aB n_ hr (ac (aa 0) af)
   exact aB n_ hr (ac (aa 1) af)
  refine ax ?_
  refine aT ?_
  exact eR (ac aD af)
 refine ax ?_
 refine aT ?_
 refine fz (T:=["number"]) rfl ?_ ?_ ?_ (fun C s₃ H₃ fp hTC=>(aj (dI j4) (aa 0))) (lO (by decide)) (show List.Nodup ((["number"]:List Str)++(["one" ,"other"]:List Str)) from by decide +kernel)
 ·refine cL kj ?_
  exact bz cR jZ (ac (dI j4) af)
 ·intro C s₃ H₃ fp hTC
  exact ag 0 (show List.Nodup (["number" ,"one" ,"other"]:List Str) from by decide +kernel)
 intro C s₃ H₃ fp hTC
 refine ii ?_
 refine aY (em hr) ?_ ?_
 ·refine aj ?_ (aa 0)
  exact aB lj hr (ac (aa 1) af)
 refine aj ?_ (aa 0)
 exact aB lj hr (ac (aa 2) af)
abbrev bf:Stmt:=top 7
theorem mK:jm ["one","other","ways","pair","texts"] ["one","other"] (i7 bf):=rE
theorem gx{ct:jW}(ll:lg P w K mg base k "first_ways" ["start","nexts_of"] aS)(mt:lg P w K mg base k "partings" ["one","other"] aQ)(jZ:mg "len" = none)(wt:mg "min" = none)(hq:ct.q=("parts.<locals>.<lambda>" : Str))(TB:j8 mg [ct] base)(Fn:zB K "parts" "parts" bf f fd ct.c):jx P w K mg base kK (k+1) f fd ["one","other"] (spT K aW ct):=by
 refine gL Fn mK gZ ?_ gP
 intro A outer s H E hr hT
 have Lm1:=vp (X:=(nN kK P w K mg base ["one","other","ways","pair","texts"] "parts" (i7 bf) f (.ref ct.c) A outer s H E).nox) (t:=t9) (ct:=ct) (x:="other") (y:="one") (c:=s.heap.objs.size+2) (d:=s.heap.objs.size+1) (j:=1) (l:=0) TB hT hq.symm rfl hq.symm (fun _=>rfl) rfl rfl rfl rfl rfl rfl rfl rfl (by decide) (fun h=>absurd (Nat.add_left_cancel h) (by decide)) rfl rfl rfl (by decide) rfl (by decide +kernel) (by decide +kernel) rfl rfl (by decide +kernel)
 refine al ?_ ?_
 ·refine ay ?_ ?_
  ·exact fI ll hr Lm1 (vW (aA (ac ad (ac ad af))) (yG Lm1))
  exact ag 2 mK.nd
 refine iN 4 mK.nd af ?_
 refine gR ?_ ?_
 ·refine io PassesOwn.never rfl ?_ ?_ ?_
  ·exact ip (aa 2)
  ·exact ag 3 mK.nd
  refine gW ?_
  refine iu 4 ?_
  refine fz (T:=["last"]) rfl ?_ ?_ ?_ ?_ (lO (by decide)) (show List.Nodup ((["last"]:List Str)++(["one" ,"other" ,"ways" ,"pair" ,"texts"]:List Str)) from by decide +kernel)
  ·refine ci ?_
   refine aB mt hr ?_
   refine ac (aj (aj (aa 0) ad) (aj (aa 3) ad)) ?_
   exact ac (aj (aj (aa 1) ad) (aj (aa 3) ad)) af
  ·intro C s₃ H₃ fp hTC
   exact ag 0 (show List.Nodup (["last" ,"one" ,"other" ,"ways" ,"pair" ,"texts"]:List Str) from by decide +kernel)
  ·intro C s₃ H₃ fp hTC
   exact eS
  intro C s₃ H₃ fp hTC
  refine ak aG ?_ (aa 0)
  exact gF (rL hr) (aa 3) (aa 4)
 refine ie ?_
 refine ax ?_
 refine aT ?_
 exact gE rfl wt jZ (aa 4)
abbrev bH:Stmt:=top 6
theorem dF:jm ["one","other"] ["one","other"] (i7 bH):=rE
theorem dz{ct:jW}(lU:nK P w K mg base k "parts" ["one","other"] aW ct)(Fn:ng K "are_alike" "are_alike" bH f fd):jx P w K mg base kK (k+1) f fd ["one","other"] (spT K aH ct):=by
 refine eU Fn dF dU ?_ dY
 intro cdv A outer s H E hr hT
 refine ax ?_
 refine aT ?_
 refine bv ej ?_ cg
 exact cj lU hr hT (ac (aa 0) (ac (aa 1) af))
abbrev bh:Stmt:=top 13
theorem cD:jm ["_law_script","_law_k"] ["_law_script","_law_k"] (i7 bh):=rE
theorem cE(jZ:mg "len" = none)(Fn:ng K "_law_cell_at" "_law_cell_at" bh f fd):jx P w K mg base kK (k+1) f fd ["_law_script","_law_k"] (pS K aw):=by
 refine gb Fn cD cV ?_ cM
 intro _ _ _ _ _ _ hr
 refine al ?_ ?_
 ·refine c_ ?_ ?_ bJ
  ·refine aY iW (aa 1) ?_
   exact bz cR jZ (ac (aa 0) af)
  refine ax ?_
  exact aT (aj (aa 0) (aa 1))
 refine ax ?_
 exact aT ad
abbrev bC:Stmt:=top 14
theorem lW:jm ["_law_script","_law_k","_law_drawn_here"] ["_law_script","_law_k"] (i7 bC):=rE
theorem da(kH:lg P w K mg base k "_law_cell_at" ["_law_script","_law_k"] aw)(Fn:ng K "_law_mixed" "_law_mixed" bC f fd):jx P w K mg base kK (k+1) f fd ["_law_script","_law_k"] (pS K aq):=by
 refine aU Fn lW ?_
 intro _ _ _ _ _ _ hr
 refine al ?_ ?_
 ·refine ay ?_ ?_
  ·refine ak aI ?_ ad
   refine ak bM ?_ ad
   refine ak aG ?_ ad
   refine ak aG ?_ ?_
   ·exact aB kH hr (ac (aa 0) (ac (aa 1) af))
   exact ak bM ad (aa 1)
  exact ag 2 lW.nd
 refine ax ?_
 refine aT ?_
 refine ak aI ?_ ad
 refine ak aG ?_ (aa 1)
 refine ak aG ?_ ?_
 ·exact ak bM (aa 2) (aa 2)
 exact ak bM ad (aa 2)
abbrev bD:Stmt:=top 15
theorem lX:jm ["_law_number","_law_k","_law_drawn_here"] ["_law_number","_law_k"] (i7 bD):=rE
theorem cY(Fn:ng K "_law_drawn" "_law_drawn" bD f fd):jx P w K mg base kK (k+1) f fd ["_law_number","_law_k"] (pS K aE):=by
 refine aU Fn lX ?_
 intro _ _ _ _ _ _ hr
 refine al ?_ ?_
 ·refine ay ?_ ?_
  ·refine ak aI ?_ ad
   refine ak bM ?_ ad
   refine ak aG ?_ ad
   refine ak aG (aa 0) ?_
   exact ak bM ad (aa 1)
  exact ag 2 lX.nd
 refine ax ?_
 refine aT ?_
 refine ak aI ?_ ad
 refine ak aG ?_ (aa 1)
 refine ak aG ?_ ?_
 ·exact ak bM (aa 2) (aa 2)
 exact ak bM ad (aa 2)
abbrev bN:Stmt:=top 16
theorem jp:jm ["_law_number","_law_many","_law_deeds","_law_modes","_law_k","_law_drawn_here","_law_rows","_law_j","_law_one","_law_face"] ["_law_number"] (i7 bN):=rE
theorem dL(kA:lg P w K mg base k "_law_drawn" ["_law_number","_law_k"] aE)(kj:mg "range" = none)(Fn:ng K "_law_book" "_law_book" bN f fd):jx P w K mg base kK (k+1) f fd ["_law_number"] (pS K aR):=by
 refine aU Fn jp ?_
 intro _ _ _ _ _ _ hr
 refine al ?_ ?_
 ·refine ay ?_ ?_
  ·refine ak aG ad ?_
   exact ak aI (aa 0) ad
  exact ag 1 jp.nd
 refine al ?_ ?_
 ·refine ay ?_ ?_
  ·refine aA ?_
   refine ac aD ?_
   refine ac aD ?_
   refine ac aD ?_
   refine ac aD ?_
   refine ac aD ?_
   refine ac aD ?_
   refine ac aD ?_
   refine ac aD ?_
   exact ac aD (ac aD (ac aD (ac aD af)))
  exact ag 2 jp.nd
 refine al ?_ ?_
 ·refine ay ?_ ?_
  ·exact aA af
  exact ag 3 jp.nd
 refine al ?_ ?_
 ·refine fZ PassesOwn.never rfl ?_ ?_ ?_
  ·exact cL kj (aa 1)
  ·exact ag 4 jp.nd
  refine al ?_ ?_
  ·refine ay ?_ ?_
   ·refine ak bb ?_ ad
    exact aB kA hr (ac (aa 0) (ac (aa 4) af))
   exact ag 5 jp.nd
  refine al ?_ ?_
  ·refine ay ?_ ?_
   ·exact aA af
   exact ag 6 jp.nd
  refine al ?_ ?_
  ·refine fZ PassesOwn.never rfl ?_ ?_ ?_
   ·exact cL kj ad
   ·exact ag 7 jp.nd
   refine al ?_ ?_
   ·refine ay ?_ ?_
    ·refine ak bb ?_ ad
     refine aB kA hr ?_
     refine ac (aa 5) ?_
     refine ac ?_ af
     exact ak aG ad (aa 7)
    exact ag 8 jp.nd
   refine ax ?_
   refine ay ?_ ?_
   ·refine ak aG (aa 6) ?_
    refine aA ?_
    refine ac ?_ af
    refine aA ?_
    refine ac ?_ ?_
    ·refine aj ?_ ?_
     ·refine ak aG (aa 2) ?_
      exact aA (ac aD af)
     exact ak aI (aa 8) ad
    refine ac ?_ af
    refine ak aI ?_ (aa 1)
    exact ak bb (aa 8) ad
   exact ag 6 jp.nd
  refine al ?_ ?_
  ·refine ay ?_ ?_
   ·refine aj ?_ ?_
    ·refine aA ?_
     exact ac aD (ac aD (ac aD (ac aD af)))
    exact ak aI (aa 5) ad
   exact ag 9 jp.nd
  refine ax ?_
  refine ay ?_ ?_
  ·refine ak aG (aa 3) ?_
   refine aA ?_
   refine ac ?_ af
   refine aA ?_
   refine ac (aa 9) ?_
   refine ac ?_ (ac (aa 6) af)
   refine bv (dh hr) ?_ ad
   refine ak aI ?_ ad
   exact ak bb (aa 5) ad
  exact ag 3 jp.nd
 refine ax ?_
 refine aT ?_
 refine aA ?_
 refine ac ?_ ?_
 ·refine ak aG ad ?_
  refine ak aI ?_ ?_
  ·exact ak bb (aa 0) ad
  refine aj ?_ ?_
  ·exact aA (ac ad (ac ad af))
  refine ak aI ?_ ad
  exact ak bb (aa 0) ad
 refine ac ?_ (ac (aa 3) af)
 refine aj ?_ ?_
 ·refine aA ?_
  refine ac ad ?_
  exact ac ad (ac ad (ac ad (ac ad af)))
 refine ak aI ?_ ad
 exact ak bb (aa 0) ad
abbrev bK:Stmt:=top 17
theorem jo:jm ["_law_book_here","_law_number","_law_many","_law_at","_law_face","_law_stays","_law_rows","_law_k","_law_pair","_law_mode"] ["_law_book_here","_law_number"] (i7 bK):=rE
theorem dC(jZ:mg "len" = none)(Fn:ng K "_law_near" "_law_near" bK f fd):jx P w K mg base kK (k+1) f fd ["_law_book_here","_law_number"] (pS K aZ):=by
 refine aU Fn jo ?_
 intro _ _ _ _ _ _ hr
 refine al ?_ ?_
 ·refine ay ?_ ?_
  ·exact bz cR jZ (ac (aj (aa 0) ad) af)
  exact ag 2 jo.nd
 refine al ?_ ?_
 ·refine ay ?_ ?_
  ·refine ak aI ?_ (aa 2)
   exact ak bb (aa 1) ad
  exact ag 3 jo.nd
 refine al ?_ ?_
 ·refine ay (aj (aj (aa 0) ad) (aa 3)) ?_
  refine bQ rfl ?_
  refine aF ?_ ?_
  ·exact ag 4 jo.nd
  refine aF ?_ ?_
  ·exact ag 5 jo.nd
  refine aF ?_ bE
  exact ag 6 jo.nd
 refine al ?_ ?_
 ·refine ay ?_ ?_
  ·refine ak aI ?_ ad
   exact ak bb (aa 1) ad
  exact ag 7 jo.nd
 refine al ?_ ?_
 ·refine ay (aj (aa 6) (aa 7)) ?_
  exact ag 8 jo.nd
 refine al ?_ ?_
 ·refine c_ ?_ ?_ ?_
  ·refine aY (dh hr) ?_ ad
   exact ak aI (aa 1) ad
  ·refine ax ?_
   refine ay ?_ ?_
   ·refine aA ?_
    refine ac ?_ (ac (aj (aa 8) ad) af)
    refine aj ?_ ?_
    ·refine aA ?_
     exact ac aD (ac aD (ac aD (ac aD af)))
    refine ak aI ?_ ad
    exact ak bb (aa 1) ad
   exact ag 8 jo.nd
  refine ax ?_
  refine c_ ?_ ?_ ?_
  ·refine aY (dh hr) ?_ ad
   exact ak aI (aa 1) ad
  ·refine ax ?_
   refine ay ?_ ?_
   ·refine aA ?_
    refine ac (aj (aa 8) ad) ?_
    refine ac ?_ af
    refine ak aI ?_ (aa 2)
    exact ak bb (aa 1) ad
   exact ag 8 jo.nd
  refine ax ?_
  refine c_ ?_ ?_ bJ
  ·refine aY (dh hr) ?_ ad
   exact ak aI (aa 1) ad
  refine ax ?_
  refine ay ?_ ?_
  ·exact iP (aa 5)
  exact ag 5 jo.nd
 refine al ?_ ?_
 ·refine ay ?_ ?_
  ·refine aA ?_
   refine ac (aa 4) ?_
   refine ac (aa 5) ?_
   refine ac ?_ af
   refine ak aG ?_ ?_
   ·refine ak aG ?_ ?_
    ·refine aN (aa 6) aX ?_
     exact aV (aa 7)
    exact aA (ac (aa 8) af)
   refine aN (aa 6) ?_ aX
   refine aV ?_
   exact ak aG (aa 7) ad
  exact ag 9 jo.nd
 refine ax ?_
 refine aT ?_
 refine aA ?_
 refine ac (aj (aa 0) ad) ?_
 refine ac ?_ ?_
 ·refine ak aI ?_ ad
  exact ak bb (aa 1) ad
 refine ac ?_ af
 refine ak aG ?_ ?_
 ·refine ak aG ?_ ?_
  ·refine aN (aj (aa 0) ad) aX ?_
   exact aV (aa 3)
  exact aA (ac (aa 9) af)
 refine aN (aj (aa 0) ad) ?_ aX
 refine aV ?_
 exact ak aG (aa 3) ad
abbrev bu:Stmt:=top 18
theorem jh:jm ["_law_one","_law_other","_law_layer","_law_many","_law_here","_law_there","_law_deed","_law_goal","_law_its","_law_other_goal","_law_known","_law_later"] ["_law_one","_law_other"] (i7 bu):=rE
theorem cP(p0:mg "zip" = none)(Fn:ng K "_law_fewest" "_law_fewest" bu f fd):jx P w K mg base kK (k+1) f fd ["_law_one","_law_other"] (pS K aO):=by
 refine aU Fn jh ?_
 intro _ _ _ _ _ _ hr
 refine al ?_ (Ah 10 jh.nd (ac (aA (ac ad (ac ad af))) af) (lS (ox (ay (eR (ac (aA (ac ad (ac ad af))) af)) (ag 2 jh.nd))) (lS (ox (ay ad (ag 3 jh.nd))) (lS (xU 100 PassesOwn.never (aY (ir hr) (aa 2) (eR af)) (lS (ox (ay (ak aG (aa 3) ad) (ag 3 jh.nd))) (y4 11 2 jh.nd af (yc PassesOwn.never rfl (ci (aa 2)) (bQ rfl (aF (ag 4 jh.nd) (aF (ag 5 jh.nd) bE))) (qt (yc PassesOwn.never rfl (iL p0 (aj (aj (aj (aa 0) ad) (aa 4)) ad) (aj (aj (aj (aa 1) ad) (aa 5)) ad)) (bQ rfl (aF (bQ rfl (aF (ag 6 jh.nd) (aF (ag 7 jh.nd) bE))) (aF (bQ rfl (aF (ag 8 jh.nd) (aF (ag 9 jh.nd) bE))) bE))) (lS (ox (c_ (h_ (fX (aY (em hr) (aa 6) (aa 8)) (gj (aY (cU hr) (aN (aj (aj (aa 0) ad) (aa 7)) aX (aV ad)) (aN (aj (aj (aa 1) ad) (aa 9)) aX (aV ad)))))) (ax (aT (aa 3))) bJ)) (qt (BM (aY (fE hr) (aA (ac (aa 7) (ac (aa 9) af))) (aa 10)) (lS (yd 10 0 (aA (ac (aa 7) (ac (aa 9) af)))) (qt (yd 11 1 (aA (ac (aa 7) (ac (aa 9) af)))))) yM))))))))) (qt (ox (aT cg)))))))
 refine c_ ?_ ?_ bJ
 ·refine aY (cU hr) ?_ ?_
  ·refine aN (aj (aj (aa 0) ad) ad) aX ?_
   exact aV ad
  refine aN (aj (aj (aa 1) ad) ad) aX ?_
  exact aV ad
 refine ax ?_
 exact aT ad
abbrev be:Stmt:=top 19
theorem jf:jm ["_law_one","_law_other","_law_text","_law_here","_law_there","_law_is_parted_here","_law_press","_law_k","_law_deed","_law_its"] ["_law_one","_law_other","_law_text"] (i7 be):=rE
theorem bY(Fn:ng K "_law_is_parted" "_law_is_parted" be f fd):jx P w K mg base kK (k+1) f fd ["_law_one","_law_other","_law_text"] (pS K aJ):=by
 refine aU Fn jf ?_
 intro _ _ _ _ _ _ hr
 refine al ?_ ?_
 ·refine ay ad ?_
  exact ag 3 jf.nd
 refine al ?_ ?_
 ·refine ay ad ?_
  exact ag 4 jf.nd
 refine al ?_ ?_
 ·refine ay ?_ ?_
  ·refine bv (cU hr) ?_ ?_
   ·refine aN (aj (aj (aa 0) ad) ad) aX ?_
    exact aV ad
   refine aN (aj (aj (aa 1) ad) ad) aX ?_
   exact aV ad
  exact ag 5 jf.nd
 refine al ?_ ?_
 ·refine fZ PassesOwn.never rfl ?_ ?_ ?_
  ·exact ci (aa 2)
  ·exact ag 6 jf.nd
  refine al ?_ ?_
  ·refine c_ ?_ ?_ bJ
   ·exact gr (aa 5)
   refine ax ?_
   exact aT hZ
  refine al ?_ ?_
  ·refine ay ?_ ?_
   ·exact gY aD (ac (aa 6) af)
   exact ag 7 jf.nd
  refine al ?_ ?_
  ·refine ay ?_ ?_
   ·exact aj (aj (aj (aj (aa 0) ad) (aa 3)) ad) (aa 7)
   refine bQ rfl ?_
   refine aF ?_ ?_
   ·exact ag 8 jf.nd
   refine aF ?_ bE
   exact ag 3 jf.nd
  refine al ?_ ?_
  ·refine ay ?_ ?_
   ·exact aj (aj (aj (aj (aa 1) ad) (aa 4)) ad) (aa 7)
   refine bQ rfl ?_
   refine aF ?_ ?_
   ·exact ag 9 jf.nd
   refine aF ?_ bE
   exact ag 4 jf.nd
  refine ax ?_
  refine ay ?_ ?_
  ·refine ib ?_ ?_
   ·exact bv (em hr) (aa 8) (aa 9)
   refine eO ?_
   refine bv (cU hr) ?_ ?_
   ·refine aN (aj (aj (aa 0) ad) (aa 3)) aX ?_
    exact aV ad
   refine aN (aj (aj (aa 1) ad) (aa 4)) aX ?_
   exact aV ad
  exact ag 5 jf.nd
 refine ax ?_
 exact aT (aa 5)
abbrev bU:Stmt:=top 20
theorem me:jm ["_law_script","_law_one","_law_other","_law_due","_law_told","_law_got"] ["_law_script"] (i7 bU):=rE
theorem iO{ct:jW}(kO:lg P w K mg base k "_law_book" ["_law_number"] aR)(kR:lg P w K mg base k "_law_fewest" ["_law_one","_law_other"] aO)(ki:lg P w K mg base k "_law_is_parted" ["_law_one","_law_other","_law_text"] aJ)(jU:lg P w K mg base k "_law_mixed" ["_law_script","_law_k"] aq)(lJ:lg P w K mg base k "_law_near" ["_law_book_here","_law_number"] aZ)(lK:nK P w K mg base k "are_alike" ["one","other"] aH ct)(lU:nK P w K mg base k "parts" ["one","other"] aW ct)(sQ:mg "bool" = none)(lp:mg "isinstance" = none)(jZ:mg "len" = none)(Fn:ng K "law" "law" bU f fd):jx P w K mg base kK (k+1) f fd ["_law_script"] (spT K cy ct):=by
 refine eU Fn me iZ ?_ iU
 intro cdv A outer s H E hr hT
 refine al ?_ ?_
 ·refine ay ?_ ?_
  ·refine aB kO hr ?_
   refine ac ?_ af
   exact aB jU hr (ac (aa 0) (ac ad af))
  exact ag 1 me.nd
 refine al ?_ ?_
 ·refine ay ?_ ?_
  ·refine aB lJ hr ?_
   refine ac (aa 1) ?_
   refine ac ?_ af
   exact aB jU hr (ac (aa 0) (ac ad af))
  exact ag 2 me.nd
 refine al ?_ ?_
 ·refine c_ ?_ ?_ bJ
  ·refine aY (dh hr) ?_ ad
   refine ak aI ?_ ad
   exact aB jU hr (ac (aa 0) (ac ad af))
  refine ax ?_
  refine ay ?_ ?_
  ·refine aB kO hr ?_
   refine ac ?_ af
   refine ak bb ?_ ad
   exact aB jU hr (ac (aa 0) (ac ad af))
  exact ag 2 me.nd
 refine al ?_ ?_
 ·refine ay ?_ ?_
  ·exact aB kR hr (ac (aa 1) (ac (aa 2) af))
  exact ag 3 me.nd
 refine al ?_ ?_
 ·refine ay ?_ ?_
  ·exact cj lU hr hT (ac (aa 1) (ac (aa 2) af))
  exact ag 4 me.nd
 refine al ?_ ?_
 ·refine ay ?_ ?_
  ·exact cj lK hr hT (ac (aa 1) (ac (aa 2) af))
  exact ag 5 me.nd
 refine al ?_ ?_
 ·refine c_ ?_ ?_ bJ
  ·refine h_ ?_
   refine fX ?_ ?_
   ·refine iD ?_
    refine gr ?_
    exact fD lp sQ (aa 5)
   refine fX ?_ ?_
   ·refine aY (em hr) (aa 5) ?_
    exact bv ej (aa 3) cg
   refine gj ?_
   refine aY (em hr) ?_ ?_
   ·exact bv ej (aa 4) cg
   exact bv ej (aa 3) cg
  refine ax ?_
  exact aT hZ
 refine ax ?_
 refine aT ?_
 refine ib ?_ ?_
 ·exact bv ej (aa 4) cg
 refine eO ?_
 refine iz ?_ ?_
 ·refine bv (dh hr) ?_ (aa 3)
  exact bz g_ jZ (ac (aa 4) af)
 refine eO ?_
 exact aB ki hr (ac (aa 1) (ac (aa 2) (ac (aa 4) af)))
end HW
namespace HW
open PySem PySem.Spec PyProof.Rows L2
theorem pN(K:W.Frag)(H:Hp):∀ns:List Int,i4 K H (ns.map .int) (ns.map V.int)
 | []=>rfl
 | n::ns=>⟨.int n,_,rfl,rfl,pN K H ns⟩
theorem all_mk{l:W.OpenLaw}{w:World}{K:W.Frag}{h:Heap}{mg:Str->Option Value}{fa:Addr}
  {q:Program} {cA pA:Addr} {oc2:Value} {od2:Option Addr} {vs2:Array Value} {u9:Array (Option Value)} {f7:Addr} {od7 an7:Option Addr} {sl7:Array (Option Value)} {oc7 kV7 dc7 pm7 ct7:Value}
  {f16:Addr} {od16 an16:Option Addr} {sl16:Array (Option Value)} {oc16 kV16 dc16 pm16 cd16 ct16:Value}
  {kJ:Addr} {sR:Nat} {sU:Array (Option Value)} {sW sX sY sZ s_ ti:Tok}
  {f0 f1 f2 f3 f4 f5 f6 f8 f9 f10 f11 f12 f13 f14 f15:Addr}
  (X:K.In h) (G:h.Ns mainGlobals mg) (hfa:mg "law" = some (.ref fa))
  (a0:rO K "nexts" dJ f0)
  (a1:rO K "pair_nexts" bF f1)
  (a2:rO K "one_press_on" bo f2)
  (a3:rO K "first_ways" bB f3)
  (a4:rO K "looks" dH f4)
  (a5:rO K "deeds_of" bR f5)
  (a6:rO K "partings" bP f6)
  (a7:W.nsIn K mainGlobals "parts" = some (some (.ref f7))) (l7:K.lookup f7=some ⟨oc7,od7,.func (W.fnOf "parts" "parts" (j9 bf) (jE bf) (i7 bf) .none kV7 dc7 pm7 an7 (.ref cA) ct7),sl7⟩) (c7:W.codeIn K (.ref cA) "parts" = true) (k7:W.keepIn K (.ref f7)=true) (l2:K.lookup cA=some ⟨oc2,od2,.fields vs2,u9⟩) (h11:vs2[11]?=some (.ref pA)) (nt:K.lookup pA=none) (hrec:∃d,(recsOf q).find? (fun e=>e.name==("parts" : Str))=some d)
  (a8:rO K "are_alike" bH f8)
  (a9:rO K "_law_cell_at" bh f9)
  (a10:rO K "_law_mixed" bC f10)
  (a11:rO K "_law_drawn" bD f11)
  (a12:rO K "_law_book" bN f12)
  (a13:rO K "_law_near" bK f13)
  (a14:rO K "_law_fewest" bu f14)
  (a15:rO K "_law_is_parted" be f15)
  (a16:W.nsIn K mainGlobals "law" = some (some (.ref f16))) (l16:K.lookup f16=some ⟨oc16,od16,.func (W.fnOf "law" "law" (j9 bU) (jE bU) (i7 bU) .none kV16 dc16 pm16 an16 cd16 ct16),sl16⟩) (c16:W.codeIn K cd16 "law" = true) (k16:W.keepIn K (.ref f16)=true)
  (zG:W.nsIn K mainGlobals "bool" = some none)
  (qI:W.nsIn K mainGlobals "isinstance" = some none)
  (AV:W.nsIn K mainGlobals "len" = some none)
  (zH:W.nsIn K mainGlobals "list" = some none)
  (AW:W.nsIn K mainGlobals "min" = some none)
  (xY:W.nsIn K mainGlobals "range" = some none)
  (AX:W.nsIn K mainGlobals "zip" = some none)
  (q_PRESSES:W.nsIn K mainGlobals "PRESSES" = some (some (.ref kJ))) (r_PRESSES:K.lookup kJ=some ⟨.type "tuple",none,.seq #[.str (oS "a") sW,.str (oS "b") sX,.str (oS "c") sY,.str (oS "A") sZ,.str (oS "B") s_,.str (oS "C") ti] sR,sU⟩) :
  ∃(ts:List jW) (fd:FuncData),(∀t∈ts,K.lookup t.P=none/\∃y d,(recsOf q).find? (fun e=>e.name==y)=some d/\W.tabIn K y=some (t.c,t.P))/\(∀(s:Shared) (v:Value),BindsTo s fd ⟨[v],[]⟩ [("_law_script",v)])/\∀base:Heap,K.In base->base.Ns mainGlobals mg->j8 mg ts base->jx l.prog w K mg base kK 8 fa fd ["_law_script"] (AO K cy ts):=by
 have e:=hfa.symm.trans (W.mg_of X G a16)
 cases e
 obtain⟨d0,F0,a0⟩:=sO a0
 have b0:=F0.binds (ps:=["mode"]) fun | _,_,_,_,_,_,[_],_=>rfl
 have g0:=W.mg_of X G a0
 obtain⟨d1,F1,a1⟩:=sO a1
 have b1:=F1.binds (ps:=["one","other"]) fun | _,_,_,_,_,_,[_,_],_=>rfl
 have g1:=W.mg_of X G a1
 obtain⟨d2,F2,a2⟩:=sO a2
 have b2:=F2.binds (ps:=["ways","newest","nexts_of"]) fun | _,_,_,_,_,_,[_,_,_],_=>rfl
 have g2:=W.mg_of X G a2
 obtain⟨d3,F3,a3⟩:=sO a3
 have b3:=F3.binds (ps:=["start","nexts_of"]) fun | _,_,_,_,_,_,[_,_],_=>rfl
 have g3:=W.mg_of X G a3
 obtain⟨d4,F4,a4⟩:=sO a4
 have b4:=F4.binds (ps:=["mode"]) fun | _,_,_,_,_,_,[_],_=>rfl
 have g4:=W.mg_of X G a4
 obtain⟨d5,F5,a5⟩:=sO a5
 have b5:=F5.binds (ps:=["mode"]) fun | _,_,_,_,_,_,[_],_=>rfl
 have g5:=W.mg_of X G a5
 obtain⟨d6,F6,a6⟩:=sO a6
 have b6:=F6.binds (ps:=["one","other"]) fun | _,_,_,_,_,_,[_,_],_=>rfl
 have g6:=W.mg_of X G a6
 have F7:zB K "parts" "parts" bf _ _ cA:=⟨⟨_,_,_,_,_,_,_,_,rfl,l7,c7⟩,k7⟩
 have g7:=W.mg_of X G a7
 have tb:=iF a7 l7 rfl l2 h11
 have b7:=Binds.all (K:=K) (fd:=W.fnOf "parts" "parts" (j9 bf) (jE bf) (i7 bf) .none kV7 dc7 pm7 an7 (.ref cA) ct7) (ps:=["one","other"]) fun us hl=>by obtain⟨x0,x1,rfl⟩:=ln2 (us:=us) hl;rfl
 obtain⟨d8,F8,a8⟩:=sO a8
 have b8:=F8.binds (ps:=["one","other"]) fun | _,_,_,_,_,_,[_,_],_=>rfl
 have g8:=W.mg_of X G a8
 obtain⟨d9,F9,a9⟩:=sO a9
 have b9:=F9.binds (ps:=["_law_script","_law_k"]) fun | _,_,_,_,_,_,[_,_],_=>rfl
 have g9:=W.mg_of X G a9
 obtain⟨d10,F10,a10⟩:=sO a10
 have b10:=F10.binds (ps:=["_law_script","_law_k"]) fun | _,_,_,_,_,_,[_,_],_=>rfl
 have g10:=W.mg_of X G a10
 obtain⟨d11,F11,a11⟩:=sO a11
 have b11:=F11.binds (ps:=["_law_number","_law_k"]) fun | _,_,_,_,_,_,[_,_],_=>rfl
 have g11:=W.mg_of X G a11
 obtain⟨d12,F12,a12⟩:=sO a12
 have b12:=F12.binds (ps:=["_law_number"]) fun | _,_,_,_,_,_,[_],_=>rfl
 have g12:=W.mg_of X G a12
 obtain⟨d13,F13,a13⟩:=sO a13
 have b13:=F13.binds (ps:=["_law_book_here","_law_number"]) fun | _,_,_,_,_,_,[_,_],_=>rfl
 have g13:=W.mg_of X G a13
 obtain⟨d14,F14,a14⟩:=sO a14
 have b14:=F14.binds (ps:=["_law_one","_law_other"]) fun | _,_,_,_,_,_,[_,_],_=>rfl
 have g14:=W.mg_of X G a14
 obtain⟨d15,F15,a15⟩:=sO a15
 have b15:=F15.binds (ps:=["_law_one","_law_other","_law_text"]) fun | _,_,_,_,_,_,[_,_,_],_=>rfl
 have g15:=W.mg_of X G a15
 have F16:=gp (st:=bU) l16 c16 k16
 have b16:=F16.binds (ps:=["_law_script"]) fun | _,_,_,_,_,_,[_],_=>rfl
 have g16:=W.mg_of X G a16
 have sQ:=W.mg_none_of X G zG
 have lp:=W.mg_none_of X G qI
 have jZ:=W.mg_none_of X G AV
 have sP:=W.mg_none_of X G zH
 have wt:=W.mg_none_of X G AW
 have kj:=W.mg_none_of X G xY
 have p0:=W.mg_none_of X G AX
 have j4:Ad K mg "PRESSES" az:=⟨.ref kJ,.ref kJ,W.mg_of X G q_PRESSES,rfl,fun H=>⟨kJ,[.str (oS "a"),.str (oS "b"),.str (oS "c"),.str (oS "A"),.str (oS "B"),.str (oS "C")],rfl,.inr ⟨_,_,_,r_PRESSES,rfl,rfl,rfl,(by show 6<=sizeLine;decide),(.cons ⟨_,rfl⟩ (.cons ⟨_,rfl⟩ (.cons ⟨_,rfl⟩ (.cons ⟨_,rfl⟩ (.cons ⟨_,rfl⟩ (.cons ⟨_,rfl⟩ .nil))))))⟩,⟨_,_,rfl,rfl,⟨_,_,rfl,rfl,⟨_,_,rfl,rfl,⟨_,_,rfl,rfl,⟨_,_,rfl,rfl,⟨_,_,rfl,rfl,rfl⟩⟩⟩⟩⟩⟩⟩⟩
 obtain⟨dr,hdr⟩:=hrec
 refine⟨[⟨cA,pA,"parts.<locals>.<lambda>"⟩],W.fnOf "law" "law" (j9 bU) (jE bU) (i7 bU) .none kV16 dc16 pm16 an16 cd16 ct16,fun t ht=>by rw[List.mem_singleton.mp ht];exact⟨nt,"parts",dr,hdr,tb⟩,fun s v=>.of_eq rfl,fun base _ _ TB=>?_⟩
 have n9:lg l.prog w K mg base 1 "nexts" ["mode"] br:=ba F0 g0 b0 (gk (k:=0)  F0)
 have li:lg l.prog w K mg base 2 "pair_nexts" ["one","other"] aK:=ba F1 g1 b1 (cZ (k:=1) n9.m sP p0 F1)
 have LO:Af l.prog w K mg base 3 LL:=fun t G e=>by
  unfold LL at e
  split at e
  ·rename_i z
   subst z
   cases e
   exact AE (k:=2) li.m
  ·cases e
 have kG:ut l.prog w K mg base 4 "one_press_on" ["ways","newest","nexts_of"] ar:=⟨_,_,cF (k:=3) jZ kj j4 (LO.mono (by decide)) F2,g2,F2.kp,b2⟩
 have ll:lg l.prog w K mg base 5 "first_ways" ["start","nexts_of"] aS:=ba F3 g3 b3 (cW (k:=4) jZ kG.m F3)
 have n_:lg l.prog w K mg base 1 "looks" ["mode"] bg:=ba F4 g4 b4 (gy (k:=0)  F4)
 have lj:lg l.prog w K mg base 1 "deeds_of" ["mode"] aC:=ba F5 g5 b5 (dR (k:=0)  F5)
 have mt:lg l.prog w K mg base 2 "partings" ["one","other"] aQ:=ba F6 g6 b6 (dW (k:=1) lj.m n_.m jZ kj j4 F6)
 have lU:nK l.prog w K mg base 6 "parts" ["one","other"] aW ⟨cA,pA,"parts.<locals>.<lambda>"⟩:=⟨_,_,gx (k:=5) ll.m mt.m jZ wt rfl TB F7,g7,F7.kp,b7⟩
 have lK:nK l.prog w K mg base 7 "are_alike" ["one","other"] aH ⟨cA,pA,"parts.<locals>.<lambda>"⟩:=⟨_,_,dz (k:=6) lU.m F8,g8,F8.kp,b8⟩
 have kH:lg l.prog w K mg base 1 "_law_cell_at" ["_law_script","_law_k"] aw:=ba F9 g9 b9 (cE (k:=0) jZ F9)
 have jU:lg l.prog w K mg base 2 "_law_mixed" ["_law_script","_law_k"] aq:=ba F10 g10 b10 (da (k:=1) kH.m F10)
 have kA:lg l.prog w K mg base 1 "_law_drawn" ["_law_number","_law_k"] aE:=ba F11 g11 b11 (cY (k:=0)  F11)
 have kO:lg l.prog w K mg base 2 "_law_book" ["_law_number"] aR:=ba F12 g12 b12 (dL (k:=1) kA.m kj F12)
 have lJ:lg l.prog w K mg base 1 "_law_near" ["_law_book_here","_law_number"] aZ:=ba F13 g13 b13 (dC (k:=0) jZ F13)
 have kR:lg l.prog w K mg base 1 "_law_fewest" ["_law_one","_law_other"] aO:=ba F14 g14 b14 (cP (k:=0) p0 F14)
 have ki:lg l.prog w K mg base 1 "_law_is_parted" ["_law_one","_law_other","_law_text"] aJ:=ba F15 g15 b15 (bY (k:=0)  F15)
 exact zq (iO kO.m kR.m ki.m jU.m lJ.m lK.m lU.m sQ lp jZ F16)
theorem walk {l:W.OpenLaw} {q:Program} {loose:List Str} {XP:(Str->Option Value)->Heap->Prop} {YP:World->Heap->Prop} {d:DefRec} {K:Params->W.Frag} (hn:l.most=some 63) (hdf:d.params.defaults=[])
    (hY:∀(w:World) (h:Heap),YP w h->(K w.params).In h)
    (F:∀(w:World) (mg:Str->Option Value) (fa:Addr) (h:Heap),(K w.params).In h->h.Ns mainGlobals mg->mg d.name=some (.ref fa) ->
      ∃(ts:List jW) (fd:FuncData),(∀t∈ts,(K w.params).lookup t.P=none/\∃y d',(recsOf q).find? (fun e=>e.name==y)=some d'/\W.tabIn (K w.params) y=some (t.c,t.P))/\(∀(s:Shared) (u:Value),BindsTo s fd ⟨[u],[]⟩ [("_law_script",u)])/\∀base:Heap,(K w.params).In base->base.Ns mainGlobals mg->j8 mg ts base->jx l.prog w (K w.params) mg base kK 8 fa fd ["_law_script"] (AO (K w.params) cy ts)) :
    W.WalkO q loose XP YP l.row.toRowW d [] (fun f vs=>PySem.call f vs):=
  vi (n:=63) (k:=8) (x:="_law_script") (CX:=fun _=>kK) (sp:=fun w ts=>AO (K w.params) cy ts) hn (by decide) hdf ⟨rfl,by decide,by decide,rfl⟩ hY F (fun w ts H a ns hl hO hP hS=>zt hO hP ⟨[.fro (ns.map .int)],.bl true,i4.one ⟨a,ns.map V.int,rfl,hS,pN _ _ ns⟩,vm ns hl,fun v H' _ hv=>hv⟩) fun _ _ _ _ _ z=>z
end HW
namespace PySem.W.Fast
theorem tw10937677730069795651:True:=⟨⟩
theorem tw10015331198406309768:True:=⟨⟩
theorem tw2613303875960761641:True:=⟨⟩
theorem tw14878624386562599853:True:=⟨⟩
theorem tw4183487571081773426:True:=⟨⟩
theorem tw1212771415200856498:True:=⟨⟩
theorem tw8403262497767043956:True:=⟨⟩
theorem tw5065869470712074614:True:=⟨⟩
theorem tw17013997587068146366:True:=⟨⟩
theorem tw1357219557429886719:True:=⟨⟩
noncomputable def tw11433230423621551536:=PySem.Challenge.pw_handwatch_k50_parted_books
theorem te11433230423621551536:PySem.Challenge.pw_handwatch_k50_parted_books=tw11433230423621551536:=rfl
end PySem.W.Fast
open PySem PySem.W PyProof.Rows
set_option maxRecDepth 100000 in
set_option maxHeartbeats 0 in
theorem PySem.Challenge.cw_handwatch_k50_parted_books_holds : PySem.Challenge.rw_handwatch_k50_parted_books.Holds := by
 w_on;o_law;k_head;(case hw=>w_witness2)
 k_fill
 refine HW.walk (l:=PySem.Challenge.rw_handwatch_k50_parted_books) rfl rfl (fun w h Y=>PySem.W.km_in_of Y) ?F
 case F =>
  intro w mg fa h KX G hmg
  refine' HW.all_mk KX G hmg ?_ ?_ ?_ ?_ ?_ ?_ ?_ ?_ ?_ ?_ ?_ ?_ ?_ ?_ ?_ ?_ ?_ ?_ ?_ ?_ ?_ ?_ ?_ ?_ ?_ ?_ ?_ ?_ ?_ ?_ ?_ ?_ ?_ ?_ ?_ ?_
  all_goals try first | k_is | (refine' HW.fn4_mk ?_ ?_ ?_ ?_<;>try k_is) | rfl | kernel_rfl | exact⟨_,rfl⟩
