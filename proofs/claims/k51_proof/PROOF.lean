import PyProof.Rows.All
import Wide.All
import OpenK.AllK
import Wide.FinOn
import Lean
import PyProof.EqAt
import PyProof.EqKinds
import PyProof.TupleCall
import KE.KLam
import PySem.Str
import PySem.Sem
import PyProof.StrWalks
import PyProof.ReprReads
import PyProof.ReprRoads
import PyProof.NeData
import PyProof.WalkInts
import PyProof.Rows.RegStrFacts
import PyProof.StrBlockI
import KE.IntText
import KE.KRevIter
import PyProof.StrBlock2
import KE.KIntText
import PyProof.Rows.Range3
import PyProof.ZipIter
import PyProof.Draws
import PyProof.IsRules
import PySem.SetOps
import PyProof.SetKind
import PyProof.DictStraight
import KE.KDictSum
import PyProof.Rows.SetFrom
import PyProof.Rows.SortShell
import PyProof.ListRange
import PyProof.Rows.FactsT2
import PyProof.Rows.FactsT3
import PySem.Builtin.Str.Common
import PyProof.StrCalls
import PyProof.DictWalks
import PyProof.Rows.TupDisplay
import PyProof.CollectWalk
import KE.KItemsList
import PyProof.ListNew
import PyProof.StrLawsIn
import PyProof.FitsReplace
import PyProof.ReprLen
import PyProof.P3In
import PyProof.FString5
import KE.KSortKey
import PySem.Challenge.RW_handwatch_k51_whole_alike
set_option Elab.async false
noncomputable section
set_option linter.all false
set_option maxRecDepth 100000
namespace L2
open PySem PySem.Spec PyProof.Rows
abbrev Key:=Sum Int Str
def rn:Key->Value->Bool
 | .inl k,v=>Value.isInt k v
 | .inr x,v=>Value.isStrOf x v
def Gz(w:World):Key->Int
 | .inl k=>hashInt k
 | .inr x=>hashStr w x
theorem lc:∀{k:Key} {v:Value},rn k v=true->(∃i t,k=Sum.inl i/\v=Value.int i t)\/(∃x t,k=Sum.inr x/\v=Value.str x t)
 | .inl i,v,h=>by
  obtain⟨t,e⟩:=Value.isInt_shape (k:=i) (v:=v) h
  exact .inl ⟨i,t,rfl,e⟩
 | .inr x,v,h=>by
  obtain⟨t,e⟩:=Value.isStrOf_shape (x:=x) (v:=v) h
  exact .inr ⟨x,t,rfl,e⟩
theorem za(i:Int)(t:Tok):rn (.inl i) (.int i t)=true:=by simp[rn,Value.isInt]
theorem zm(x:Str)(t:Tok):rn (.inr x) (.str x t)=true:=by simp[rn,Value.isStrOf]
theorem Dw(a b:Int):decide ((Sum.inl a:Key)=Sum.inl b)=(a==b):=by
 by_cases e:a=b
 ·subst e;simp
 ·have h:¬ (Sum.inl a:Key)=Sum.inl b:=fun q=>e (Sum.inl.inj q)
  rw[decide_eq_false h]
  exact(beq_eq_false_iff_ne.mpr e).symm
theorem C3(a b:Str):decide ((Sum.inr a:Key)=Sum.inr b)=decide (a=b):=by
 by_cases e:a=b
 ·subst e;simp
 ·have h:¬ (Sum.inr a:Key)=Sum.inr b:=fun q=>e (Sum.inr.inj q)
  rw[decide_eq_false h,decide_eq_false e]
theorem DE(a:Int)(b:Str):decide ((Sum.inl a:Key)=Sum.inr b)=false:=decide_eq_false (fun q=>nomatch q)
theorem C2(a:Str)(b:Int):decide ((Sum.inr a:Key)=Sum.inl b)=false:=decide_eq_false (fun q=>nomatch q)
def kJ(prog:Program)(w:World):PySem.KeyKind prog w Key where
 is:=rn
 hash:=Gz w
 inj:=fun v a b ha hb=>by
  rcases lc ha with ⟨i,t,rfl,rfl⟩ | ⟨x,t,rfl,rfl⟩
  ·rcases lc hb with ⟨j,u,rfl,e⟩ | ⟨y,u,rfl,e⟩
   ·injection e with e1 _;rw[e1]
   ·exact nomatch e
  ·rcases lc hb with ⟨j,u,rfl,e⟩ | ⟨y,u,rfl,e⟩
   ·exact nomatch e
   ·injection e with e1 _;rw[e1]
 byValue:=fun k v h=>by
  rcases lc h with ⟨i,t,rfl,rfl⟩ | ⟨x,t,rfl,rfl⟩<;>rfl
 pyHash:=fun hv h=>by
  rcases lc hv with ⟨i,t,rfl,rfl⟩ | ⟨x,t,rfl,rfl⟩
  ·exact wpAny_pyHash_int h
  ·exact wpAny_pyHash_str h
 eqBool:=fun hu hv h=>by
  rcases lc hu with ⟨i,t,rfl,rfl⟩ | ⟨x,t,rfl,rfl⟩
  ·rcases lc hv with ⟨j,u,rfl,rfl⟩ | ⟨y,u,rfl,rfl⟩
   ·rw[Dw] at h;exact wpAny_eqBool_int h
   ·rw[DE] at h;exact SeqAt.EqAt.int_str i t y u _ _ _ _ h
  ·rcases lc hv with ⟨j,u,rfl,rfl⟩ | ⟨y,u,rfl,rfl⟩
   ·rw[C2] at h;exact SeqAt.EqAt.str_int x t j u _ _ _ _ h
   ·rw[C3] at h;exact wpAny_eqBool_str h
 «strs»:=fun k x t v h=>by
  rcases lc h with ⟨i,u,rfl,e⟩ | ⟨y,u,rfl,e⟩
  ·exact nomatch e
  ·injection e with e1 _
   subst e1
   cases v<;>rfl
theorem v5(prog:Program)(w:World)(i:Int)(t:Tok):(kJ prog w).is (.inl i) (.int i t)=true:=za i t
theorem wt(prog:Program)(w:World)(x:Str)(t:Tok):(kJ prog w).is (.inr x) (.str x t)=true:=zm x t
end L2
namespace L2
open PySem PySem.Spec PyProof.Rows
inductive V where
 | non | bl (b:Bool) | int (i:Int) | str (x:Str) | byt (b:Array UInt8) | flt (b:UInt64) | ref (a:Addr) | ty (n:String)
 deriving DecidableEq
def RelV:V->Value->Prop
 | .non,u=>u=Value.none
 | .bl b,u=>u=Value.bool b
 | .int i,u=>∃t,u=Value.int i t
 | .str x,u=>∃t,u=Value.str x t
 | .byt b,u=>∃t,u=Value.bytes b t
 | .flt b,u=>∃t,u=Value.float b t
 | .ref a,u=>u=Value.ref a
 | .ty n,u=>u=Value.type n
abbrev kM:List V->List Value->Prop:=Paired RelV
theorem kM.length{xs:List V}{us:List Value}(r:kM xs us):xs.length=us.length:=Paired.length r
theorem kM.get:∀{xs:List V} {us:List Value} {i:Nat} {x:V},kM xs us->xs[i]?=some x->∃u,us[i]?=some u/\RelV x u
 | _,_,_,_,.nil,e=>by simp at e
 | _,_,0,_,.cons r _,e=>by simp at e;subst e;exact⟨_,rfl,r⟩
 | _,_,i+1,x,.cons _ t,e=>by
  obtain⟨u,h1,h2⟩:=kM.get (i:=i) (x:=x) t (by simpa using e)
  exact⟨u,by simpa using h1,h2⟩
theorem kM.set{x:V}{u:Value}(r:RelV x u):∀{xs:List V} {us:List Value} (i:Nat),kM xs us->kM (xs.set i x) (us.set i u)
 | _,_,_,.nil=>.nil
 | _,_,0,.cons _ t=>.cons r t
 | _,_,i+1,.cons q t=>.cons q (kM.set r i t)
theorem kM.append:∀{xs ys:List V} {us ws:List Value},kM xs us->kM ys ws->kM (xs++ys) (us++ws)
 | _,_,_,_,.nil,s=>s
 | _,_,_,_,.cons r t,s=>.cons r (kM.append t s)
theorem kM.take:∀{xs:List V} {us:List Value} (n:Nat),kM xs us->kM (xs.take n) (us.take n)
 | _,_,0,_=>.nil
 | _,_,_+1,.nil=>.nil
 | _,_,n+1,.cons r t=>.cons r (kM.take n t)
theorem kM.drop:∀{xs:List V} {us:List Value} (n:Nat),kM xs us->kM (xs.drop n) (us.drop n)
 | _,_,0,r=>r
 | _,_,_+1,.nil=>.nil
 | _,_,n+1,.cons _ t=>kM.drop n t
def rM:Option V->Option Value->Prop
 | some v,some u=>RelV v u
 | none,none=>True
 | _,_=>False
def KV{κ:Type}:List (κ×V)->List (κ×Value)->Prop:=Paired fun (p:κ×V) (q:κ×Value)=>p.1=q.1/\RelV p.2 q.2
def kV:Key->V
 | .inl i=>.int i
 | .inr x=>.str x
inductive HO where
 | lst (xs:List V)
 | tup (xs:List V)
 | dK (kvs:List (Key×V)) | dT (kvs:List (List Key×V))
 | set (S:Int->Bool) (n:Nat)
 | ins (C dx:Addr) (fs:List (Str×V))
 | own (x:Addr)
 | xd (fs:List (Str×V))
 | met (f x:Addr)
 | rng (lo hi:Int)
 | frz (o:Obj) (u:HO)
 | tbl (q:Str) (c:Bool)
 | ext (φ:Heap->Prop)
abbrev Hp:=Addr->Option HO
def upd(H:Hp)(a:Addr)(o:HO):Hp:=fun b=>if b=a then some o else H b
theorem ai{H:Hp}{a:Addr}{o:HO}:upd H a o a=some o:=by unfold upd;rw[if_pos rfl]
theorem aj{H:Hp}{a b:Addr}{o:HO}(h:b≠a):upd H a o b=H b:=by unfold upd;rw[if_neg h]
theorem jw{H:Hp}{a:Addr}{o u:HO}:upd (upd H a o) a u=upd H a u:=by
 funext b;unfold upd;split<;>rfl
theorem CS{H:Hp}{a b:Addr}{o u:HO}(h:H a=some o)(h':H b=some u)(d:o≠u):a≠b:=by
 intro e;subst e;rw[h] at h';exact d (Option.some.inj h')
theorem mn{H:Hp}{a b:Addr}{o:HO}(h:H a=some o)(h':H b=none):a≠b:=by
 intro e;subst e;rw[h] at h';cases h'
def nj(h:Heap)(a:Addr)(its:Array Value):Prop:=∃o,h.get? a=some o/\o.cls=.type "tuple" /\ (∃n,o.data=.seq its n)/\o.dict=none
theorem nj.is{h:Heap}{a:Addr}{its:Array Value}(x:nj h a its):IsTup h a its:=by obtain⟨o,e,c,d,_⟩:=x;exact⟨o,e,c,d⟩
theorem nj.lt{h:Heap}{a:Addr}{its:Array Value}(x:nj h a its):a<h.objs.size:=x.is.lt
theorem nj.new(h:Heap)(its:Array Value):nj (h.push {cls:=.type "tuple",data:=.seq its}) h.objs.size its:=⟨_,Heap.get?_push_size _ rfl,rfl,⟨_,rfl⟩,rfl⟩
section
variable(P:Program)(w:World)
def lF(H:Hp)(h:Heap)(a:Addr):HO->Prop
 | .lst xs=>xs.length<=sizeLine/\∃(its:List Value) (n:Nat),kM xs its/\h.get? a=some {cls:=.type "list",data:=.seq its.toArray n}
 | .tup xs=>xs.length<=sizeLine/\∃its:List Value,kM xs its/\nj h a its.toArray
 | .dK kvs=>kvs.length<=sizeLine/\(a==sysModules)=false/\∃vs,KV kvs vs/\h.DictOf (kJ P w) a vs
 | .dT kvs=>kvs.length<=sizeLine/\(a==sysModules)=false/\∃xs:List (List Key×Addr×Value),
   Paired (fun (p:List Key×V) (q:List Key×Addr×Value)=>p.1=q.1/\H q.2.1=some (.tup (p.1.map kV))/\RelV p.2 q.2.2) kvs xs /\
   ∃o es ep,h.get? a=some o/\o.ExactDict/\o.data=.dict es ep/\es.toList=xs.map (entryOfKey (tupleKind (kJ P w)))/\(xs.map (·.1)).Nodup
 | .set S n=>h.SetOf (intKind P w) a S n
 | .ins C dx fs=>H dx=some (.own a)/\fs.length<=1000/\dx≠a/\h.get? a=some (PySem.W.instObj C dx) /\
   ∃mA,h.Ns1 dx mA/\(∀f,rM (fs.lookup f) (mA f))/\PySem.Within mA (fs.map (·.1))
 | .own _=>∃o,h.get? a=some o
 | .xd fs=>∃mA,h.Ns1 a mA/\∀f,rM (fs.lookup f) (mA f)
 | .rng lo hi=>∃t u v,h.get? a=some {cls:=.type "range",data:=.fields #[.int lo t,.int hi u,.int 1 v]}
 | .frz o u=>h.get? a=some o/\lF H h a u
 | .tbl q true=>h.CodeRec (.ref a) q
 | .tbl q false=>∃ts:Array Value,h.get? a=some {cls:=.none,data:=.fields ts}/\TriplesOk ts.toList/\∀(pos:Pos) (cv:Value),codeAmong pos ts.toList=some cv->∃c,cv=.ref c/\H c=some (.tbl q true)
 | .met f x=>h.get? a=some (PySem.W.methodObj (.ref f) (.ref x))
 | .ext φ=>φ h/\(∃o,h.get? a=some o)/\∀h1 h2:Heap,φ h1->(∀o,h1.get? a=some o->h2.get? a=some o)->φ h2
def pL(H:Hp)(h:Heap):Prop:=∀a o,H a=some o->lF P w H h a o
end
section
variable{P:Program}{w:World}{H H':Hp}{h h':Heap}{a:Addr}{o:HO}
theorem lF.lt(x:lF P w H h a o):a<h.objs.size:=by
 cases o with
 | lst xs=>obtain⟨_,_,_,_,e⟩:=x;exact Heap.lt_size e
 | tup xs=>obtain⟨_,_,_,p⟩:=x;exact p.lt
 | dK kvs=>obtain⟨_,_,_,_,o,_,_,e,_⟩:=x;exact Heap.lt_size e
 | dT kvs=>obtain⟨_,_,_,_,o,_,_,e,_⟩:=x;exact Heap.lt_size e
 | set S n=>obtain⟨o,_,_,_,e,_⟩:=x;exact Heap.lt_size e
 | ins C dx fs=>obtain⟨_,_,_,e,_⟩:=x;exact Heap.lt_size e
 | own y=>obtain⟨_,e⟩:=x;exact Heap.lt_size e
 | xd fs=>obtain⟨_,⟨_,_,_,e,_⟩,_⟩:=x;exact Heap.lt_size e
 | rng lo hi=>obtain⟨_,_,_,e⟩:=x;exact Heap.lt_size e
 | frz ob u=>obtain⟨e,_⟩:=x;exact Heap.lt_size e
 | tbl q c =>
  cases c with
  | true=>obtain⟨_,o,_,_,e,g,_⟩:=(show h.CodeRec (.ref a) q from x);cases e;exact Heap.lt_size g
  | false=>obtain⟨_,e,_⟩:=x;exact Heap.lt_size e
 | met f y=>exact Heap.lt_size (show h.get? a=some _ from x)
 | ext φ=>obtain⟨_,⟨_,e⟩,_⟩:=x;exact Heap.lt_size e
theorem Paired.mapP{α β:Type}{F G:α->β->Prop}:∀{l₁:List α} {l₂:List β},Paired F l₁ l₂->(∀a b,F a b->G a b)->Paired G l₁ l₂
 | _,_,.nil,_=>.nil
 | _,_,.cons r t,f=>.cons (f _ _ r) (Paired.mapP t f)
theorem lF.stay(x:lF P w H h a o)(k:∀b u,(b=a\/H b=some (.own a))->h.get? b=some u->h'.get? b=some u)
  (ho:∀b,H b=some (.own a)->H' b=some (.own a)) (ht:∀b xs,H b=some (.tup xs)->H' b=some (.tup xs)) (hc:∀b q c,H b=some (.tbl q c)->H' b=some (.tbl q c)):lF P w H' h' a o:=by
 induction o with
 | lst xs=>obtain⟨z,its,n,r,e⟩:=x;exact⟨z,its,n,r,k _ _ (.inl rfl) e⟩
 | tup xs=>obtain⟨z,its,r,ob,e,c⟩:=x;exact⟨z,its,r,ob,k _ _ (.inl rfl) e,c⟩
 | dK kvs=>obtain⟨z,y,vs,r,ob,es,ep,e,c⟩:=x;exact⟨z,y,vs,r,ob,es,ep,k _ _ (.inl rfl) e,c⟩
 | dT kvs =>
  obtain⟨z,y,xs,r,ob,es,ep,e,c⟩:=x
  exact⟨z,y,xs,Paired.mapP r fun p q z=>⟨z.1,ht _ _ z.2.1,z.2.2⟩,ob,es,ep,k _ _ (.inl rfl) e,c⟩
 | set S n=>obtain⟨ob,es,ep,t,e,c⟩:=x;exact⟨ob,es,ep,t,k _ _ (.inl rfl) e,c⟩
 | ins C dx fs =>
  obtain⟨d,z,ne,e,mA,⟨od,es,ep,e2,c⟩,r⟩:=x
  exact⟨ho _ d,z,ne,k _ _ (.inl rfl) e,mA,⟨od,es,ep,k _ _ (.inr d) e2,c⟩,r⟩
 | own y=>obtain⟨ob,e⟩:=x;exact⟨ob,k _ _ (.inl rfl) e⟩
 | xd fs=>obtain⟨mA,⟨od,es,ep,e,c⟩,r⟩:=x;exact⟨mA,⟨od,es,ep,k _ _ (.inl rfl) e,c⟩,r⟩
 | rng lo hi=>obtain⟨t,u,v,e⟩:=x;exact⟨t,u,v,k _ _ (.inl rfl) e⟩
 | frz ob u ih=>obtain⟨e,q⟩:=x;exact⟨k _ _ (.inl rfl) e,ih q⟩
 | tbl q c =>
  cases c with
  | true =>
   obtain⟨_,o,vs,t,e,g,r⟩:=(show h.CodeRec (.ref a) q from x)
   cases e
   exact⟨a,o,vs,t,rfl,k _ _ (.inl rfl) g,r⟩
  | false =>
   obtain⟨ts,e,t,r⟩:=x
   refine⟨ts,k _ _ (.inl rfl) e,t,fun pos cv hcv=>?_⟩
   obtain⟨c,e1,e2⟩:=r pos cv hcv
   exact⟨c,e1,hc _ _ _ e2⟩
 | met f y =>
  have e:h.get? a=some (PySem.W.methodObj (.ref f) (.ref y)):=x
  show h'.get? a=some (PySem.W.methodObj (.ref f) (.ref y))
  exact k a _ (.inl rfl) e
 | ext φ=>obtain⟨p,⟨o,e⟩,st⟩:=x;exact⟨st _ _ p fun o q=>k _ _ (.inl rfl) q,⟨o,k _ _ (.inl rfl) e⟩,st⟩
theorem pL.lt(x:pL P w H h)(e:H a=some o):a<h.objs.size:=(x a o e).lt
theorem pL.fresh(x:pL P w H h)(e:h.objs.size<=a):H a=none:=by
 cases q:H a with
 | none=>rfl
 | some u=>exact absurd (Nat.lt_of_lt_of_le (x.lt q) e) (Nat.lt_irrefl _)
theorem pL.kept(x:pL P w H h)(k:∀b u,h.get? b=some u->h'.get? b=some u):pL P w H h':=fun a o e =>
 (x a o e).stay (fun b u _ q=>k b u q) (fun _ q=>q) (fun _ _ q=>q) fun _ _ _ q=>q
theorem pL.laid(x:pL P w H h)(k:∀b u,h.get? b=some u->h'.get? b=some u)(hp:h.objs.size<=a)(new:lF P w (upd H a o) h' a o):pL P w (upd H a o) h':=fun b u e=>by
 have hn:=x.fresh hp
 by_cases hb:b=a
 ·subst hb;rw[ai] at e;cases e;exact new
 ·rw[aj hb] at e
  exact(x b u e).stay (fun c v _ q=>k c v q) (fun c q=>by rw[aj (mn q hn)];exact q) (fun c xs q=>by rw[aj (mn q hn)];exact q) fun c _ _ q=>by rw[aj (mn q hn)];exact q
end
def Rd(H:Hp)(a:Addr)(u:HO):Prop:=H a=some u\/∃o,H a=some (.frz o u)
theorem Rd.of{H:Hp}{a:Addr}{u:HO}(h:H a=some u):Rd H a u:=.inl h
theorem Rd.ok{P:Program}{w:World}{H:Hp}{h:Heap}{a:Addr}{u:HO}(r:Rd H a u)(x:pL P w H h):lF P w H h a u:=by
 rcases r with r | ⟨o,r⟩
 ·exact x a u r
 ·obtain⟨_,q⟩:=x a _ r
  exact q
def EW:Option HO->Prop
 | some (.lst _)=>True
 | some (.dK _)=>True
 | some (.dT _)=>True
 | some (.set _ _)=>True
 | some (.ins _ _ _)=>True
 | some (.ext _)=>True
 | some (.frz _ (.own _))=>True
 | _=>False
section
variable{P:Program}{w:World}{H:Hp}{h h':Heap}{x e:Addr}{o':HO}
theorem pL.write(ok:pL P w H h)(mu:EW (H x))(he:e=x\/H e=some (.own x))(k:∀b u,b≠e->h.get? b=some u->h'.get? b=some u)(heo:∃u,h'.get? e=some u)
  (new:lF P w (upd H x o') h' x o'):pL P w (upd H x o') h':=fun b u q=>by
 have nown:∀c y,H c=some (.own y)->c≠x:=fun c y r z=>by subst z;rw[r] at mu;exact mu
 have ntup:∀c xs,H c=some (.tup xs)->c≠x:=fun c xs r z=>by subst z;rw[r] at mu;exact mu
 by_cases hb:b=x
 ·subst hb;rw[ai] at q;cases q;exact new
 ·rw[aj hb] at q
  by_cases hbe:b=e
  ·have q':H b=some (.own x):=by
    rcases he with z | z
    ·exact absurd (hbe.trans z) hb
    ·rw[hbe];exact z
   rw[q] at q';cases q'
   obtain⟨v,hv⟩:=heo
   exact⟨v,by rw[hbe];exact hv⟩
  ·refine(ok b u q).stay (fun c v hc r=>k c v ?_ r) (fun c r=>by rw[aj (nown c b r)];exact r) (fun c xs r=>by rw[aj (ntup c xs r)];exact r) fun c q d r=>by rw[aj fun z=>by subst z;rw[r] at mu;exact mu];exact r
   rcases hc with rfl | hc
   ·exact hbe
   ·rintro rfl
    rcases he with z | z
    ·exact nown c b hc z
    ·rw[hc] at z;cases z;exact hb rfl
end
structure Un (fs ex:List Addr) (H H':Hp) (h h':Heap):Prop where
 keep:∀b o,h.get? b=some o->H b=none->b∉fs->b∉ex->h'.get? b=some o
 slot:∀b o,h.get? b=some o->H b=none->b∈fs->b∉ex->∃sl,h'.get? b=some {o with slots:=sl}
 free:∀b o,h.get? b=some o->H b=none->b∉ex->H' b=none
 there:∀b o,h.get? b=some o->b∉ex->∃o',h'.get? b=some o'
 tups:∀b xs,H b=some (.tup xs)->H' b=some (.tup xs)
 frzs:∀b o u,(∀y,u≠.own y)->H b=some (.frz o u)->H' b=some (.frz o u)
 tbls:∀b q c,H b=some (.tbl q c)->H' b=some (.tbl q c)
section
variable{fs fs' ex ex':List Addr}{H H1 H2:Hp}{h h1 h2 h':Heap}{a x e:Addr}{o:HO}
theorem Un.any(u:Un fs ex H H1 h h1){b:Addr}{ob:Obj}(q:h.get? b=some ob)(n:H b=none)(hx:b∉ex):∃sl,h1.get? b=some {ob with slots:=sl}:=by
 by_cases hb:b∈fs
 ·exact u.slot b ob q n hb hx
 ·exact⟨ob.slots,u.keep b ob q n hb hx⟩
theorem Un.trans(a:Un fs ex H H1 h h1)(b:Un fs ex H1 H2 h1 h2):Un fs ex H H2 h h2 where
 keep:=fun c ob q n hc hx=>b.keep c ob (a.keep c ob q n hc hx) (a.free c ob q n hx) hc hx
 slot:=fun c ob q n hc hx=>by
  obtain⟨sl,e1⟩:=a.slot c ob q n hc hx
  obtain⟨sl',e2⟩:=b.slot c _ e1 (a.free c ob q n hx) hc hx
  exact⟨sl',e2⟩
 free:=fun c ob q n hx=>by
  obtain⟨o',e1⟩:=a.there c ob q hx
  exact b.free c o' e1 (a.free c ob q n hx) hx
 there:=fun c ob q hx=>by
  obtain⟨o',e1⟩:=a.there c ob q hx
  exact b.there c o' e1 hx
 tups:=fun c xs q=>b.tups c xs (a.tups c xs q)
 frzs:=fun c ob xs ny q=>b.frzs c ob xs ny (a.frzs c ob xs ny q)
 tbls:=fun c ps d q=>b.tbls c ps d (a.tbls c ps d q)
theorem Un.kept(k:∀b u,h.get? b=some u->h'.get? b=some u):Un fs ex H H h h':=
 ⟨fun b ob q _ _ _=>k b ob q,fun b ob q _ _ _=>⟨ob.slots,k b ob q⟩,fun _ _ _ n _=>n,fun b ob q _=>⟨ob,k b ob q⟩,fun _ _ q=>q,fun _ _ _ _ q=>q,fun _ _ _ q=>q⟩
theorem Un.refl:Un fs ex H H h h:=Un.kept fun _ _ q=>q
theorem Un.laid(k:∀b u,h.get? b=some u->h'.get? b=some u)(hp:h.objs.size<=a)(hn:H a=none):Un fs ex H (upd H a o) h h' where
 keep:=fun b u q _ _ _=>k b u q
 slot:=fun b u q _ _ _=>⟨u.slots,k b u q⟩
 free:=fun b u q n _=>by rw[aj (Nat.ne_of_lt (Nat.lt_of_lt_of_le (Heap.lt_size q) hp))];exact n
 there:=fun b u q _=>⟨u,k b u q⟩
 tups:=fun b xs q=>by rw[aj (mn q hn)];exact q
 frzs:=fun b u xs _ q=>by rw[aj (mn q hn)];exact q
 tbls:=fun b ps _ q=>by rw[aj (mn q hn)];exact q
theorem Un.write(mu:EW (H x))(he:e=x\/H e=some (.own x))(k:∀b u,b≠e->h.get? b=some u->h'.get? b=some u)(heo:∃u,h'.get? e=some u):Un fs ex H (upd H x o) h h':=by
 have hx:∀b,H b=none->b≠x:=fun b n z=>by subst z;rw[n] at mu;exact mu
 have hb:∀b,H b=none->b≠e:=fun b n z=>by
  subst z
  rcases he with r | r
  ·exact hx b n r
  ·rw[n] at r;cases r
 have hm:∀b u,H b=some u->¬ EW (some u)->b≠x:=fun b u q nm z=>by subst z;rw[q] at mu;exact nm mu
 refine⟨fun b u q n _ _=>k b u (hb b n) q,fun b u q n _ _=>⟨u.slots,k b u (hb b n) q⟩,fun b u q n _=>by rw[aj (hx b n)];exact n,fun b u q _=>?_,
  fun b xs q=>by rw[aj (hm b _ q fun z=>z)];exact q,fun b u xs ny q=>by rw[aj (hm b _ q (by intro z;cases xs<;>first | exact z | exact ny _ rfl))];exact q,fun b ps _ q=>by rw[aj (hm b _ q fun z=>z)];exact q⟩
 by_cases hbe:b=e
 ·subst hbe;exact heo
 ·exact⟨u,k b u hbe q⟩
theorem Un.mono(u:Un fs ex H H1 h h1)(hs:∀b∈fs,b∈fs')(hx:∀b∈ex,b∈ex'):Un fs' ex' H H1 h h1:=
 ⟨fun b ob q n hb he=>u.keep b ob q n (fun z=>hb (hs b z)) fun z=>he (hx b z),fun _ _ q n _ he=>u.any q n fun z=>he (hx _ z),fun b ob q n he=>u.free b ob q n fun z=>he (hx b z),fun b ob q he=>u.there b ob q fun z=>he (hx b z),u.tups,u.frzs,u.tbls⟩
end
def Dq(h:Heap)(H:Hp):List Addr:=(List.range h.objs.size).filter fun a=>(H a).isSome
def pT(h:Heap)(H:Hp):Heap:=PySem.W.hideAll h (Dq h H)
theorem ue(h:Heap)(H:Hp):(pT h H).objs.size=h.objs.size:=PySem.W.hideAll_size _ _
theorem wq{h:Heap}{H:Hp}{b:Addr}{o:Obj}(e:h.get? b=some o)(n:H b=none):(pT h H).get? b=some o:=
 PySem.W.hideAll_get _ e fun hm=>by
  have q:(H b).isSome=true:=(List.mem_filter.mp hm).2
  rw[n] at q;simp at q
theorem yl{h:Heap}{H:Hp}{b:Addr}{o:Obj}(e:(pT h H).get? b=some o):h.get? b=some o/\H b=none:=by
 have e':h.get? b=some o:=PySem.W.of_hideAll (Dq h H) e
 refine⟨e',?_⟩
 cases q:H b with
 | none=>rfl
 | some x =>
  have hm:b∈Dq h H:=List.mem_filter.mpr ⟨List.mem_range.mpr (Heap.lt_size e'),by simp[q]⟩
  have z:(pT h H).get? b=none:=PySem.W.hideAll_none (Dq h H) hm
  rw[z] at e;cases e
def CB(g h:Heap)(L:Addr):List (Addr×Obj):=(List.range h.objs.size).filterMap fun a=>if a=L\/(g.get? a).isSome=true then none else (h.get? a).map fun o=>(a,o)
def rest(g h:Heap)(L d:Addr):List (Addr×Obj):=(CB g h L).filter fun p=>decide (p.1≠d)
end L2
namespace L2
open PySem PySem.Spec PyProof.Rows
structure Mod (K:PySem.W.Frag) (mg:Str->Option Value) (base:Heap):Prop where
 kin:K.In base
 glob:base.Ns mainGlobals mg
 blt:∃mb,base.Ns builtinsNs mb/\∀x:Str,x ≠ "__name__" -> mb x=bootBuiltins x
 nolimit:base.NoLimit
structure Cx where
 prog:Program
 w:World
 K:PySem.W.Frag
 mg:Str->Option Value
 base:Heap
 A:Around
 N:List Str
 s₀:Shared
 H₀:Hp
 env:Env
 outer:List Env
 stack:List Env
 ex:List Addr
 fn:Str->Bool
 calm:Bool
 pn:List (Addr×Obj)
 xe:Value->Shared->Prop
def x5(l:List Env):List Addr:=l.filterMap (·.frame)
abbrev Cx.fs(X:Cx):List Addr:=x5 X.outer
def vC(sc:Scope)(x:Str):Prop:=sc.names.lookup x=some .local\/sc.names.lookup x=some .cell\/sc.names.lookup x=some .free
def Loc(sc:Scope)(x:Str):Prop:=sc.names.lookup x=some .local\/sc.names.lookup x=some .cell
def Look(env:Env)(h:Heap)(m:Str->Option Value)(x:Str)(u:Value):Prop:=
 (env.kindOf x=some .local/\m x=some u)\/((env.kindOf x=some .cell\/env.kindOf x=some .free)/\∃c,env.cells.lookup x=some c/\h.IsCell c (some u))
structure Cx.Ok (X:Cx):Prop where
 mod:Mod X.K X.mg X.base
 kind:X.env.scope.kind=.function
 glob:X.env.globals=mainGlobals
 blt:X.env.builtins=builtinsNs
 above:X.s₀.heap.objs.size<=X.env.locals
 inj:∀x y c,X.env.cells.lookup x=some c->X.env.cells.lookup y=some c->x=y
 has:∀x,(X.env.kindOf x=some .cell\/X.env.kindOf x=some .free)->∃c,X.env.cells.lookup x=some c
 cab:∀x c,X.fn x=true->X.env.cells.lookup x=some c->X.s₀.heap.objs.size<=c
 hd:X.calm=true->X.A.handled=none
 frames:X.A.frames=some X.stack
 stk:X.stack=X.outer\/(X.stack=X.env::X.outer/\X.env.frame=some X.env.locals)
 exf:∀b∈X.ex,b≠X.env.locals/\∀x c,X.env.cells.lookup x=some c->c≠b
 bs:∀b o,X.base.get? b=some o->X.s₀.heap.get? b=some o/\X.H₀ b=none
 bsz:X.base.objs.size<=X.s₀.heap.objs.size
 noex:∀b o,X.base.get? b=some o->b∉X.ex
 exfs:∀b∈X.ex,b∉X.fs
 funs:X.s₀.heap.FunFrames X.base X.outer
 frf:∀b∈X.fs,X.H₀ b=none
structure Inv (X:Cx) (pins:List (Addr×Obj)) (σ:List (Option V)) (H:Hp) (s:Shared):Prop where
 ok:X.Ok
 os:s.os=X.s₀.os
 bare:AllBare s.gens
 base:Un X.fs X.ex X.H₀ H X.s₀.heap s.heap
 loc:∃m,s.heap.Ns X.env.locals m/\∀(i:Nat) (x:Str) (v:V),X.N[i]?=some x->σ[i]?=some (some v)->vC X.env.scope x->∃u,RelV v u/\Look X.env s.heap m x u
 cell:∀x c,X.env.cells.lookup x=some c->∃v,s.heap.IsCell c v
 free:H X.env.locals=none
 freeC:∀x c,X.env.cells.lookup x=some c->H c=none
 pin:∀p∈X.pn++pins,s.heap.get? p.1=some p.2/\H p.1=none/\p.1≠X.env.locals/\p.1∉X.fs/\∀v,p.2.data≠.cell v
 hok:pL X.prog X.w H s.heap
 len:σ.length=X.N.length
section
variable{X:Cx}{pins:List (Addr×Obj)}{σ:List (Option V)}{H H':Hp}{s:Shared}{h':Heap}
theorem Cx.Ok.nofr(ok:X.Ok){b:Addr}{o:Obj}(e:X.base.get? b=some o):b∉X.fs:=fun hb=>by
 have:=(ok.funs.mem hb).1
 rw[e] at this;cases this
theorem Inv.bs(I:Inv X pins σ H s):∀b o,X.base.get? b=some o->s.heap.get? b=some o/\H b=none:=fun b o e =>
 ⟨I.base.keep b o (I.ok.bs b o e).1 (I.ok.bs b o e).2 (I.ok.nofr e) (I.ok.noex b o e),I.base.free b o (I.ok.bs b o e).1 (I.ok.bs b o e).2 (I.ok.noex b o e)⟩
theorem Inv.bk(I:Inv X pins σ H s):∀b o,X.base.get? b=some o->s.heap.get? b=some o:=fun b o e=>(I.bs b o e).1
theorem Inv.mod(I:Inv X pins σ H s):Mod X.K X.mg X.base:=I.ok.mod
theorem Inv.kIn(I:Inv X pins σ H s):X.K.In s.heap:=I.ok.mod.kin.keeps I.bk
theorem Inv.nolimit(I:Inv X pins σ H s):s.heap.NoLimit:=I.ok.mod.nolimit.keeps I.bk
theorem Inv.fr(I:Inv X pins σ H s):∃m,Fr X.base X.env.locals s.heap m:=
 let ⟨m,hn,_⟩:=I.loc
 ⟨m,hn,I.bk,Nat.le_trans I.ok.bsz I.ok.above⟩
theorem Inv.lt(I:Inv X pins σ H s):X.env.locals<s.heap.objs.size:=let ⟨_,hn,_⟩:=I.loc;hn.lt
theorem Inv.sz(I:Inv X pins σ H s):X.s₀.heap.objs.size<=s.heap.objs.size:=Nat.le_trans I.ok.above (Nat.le_of_lt I.lt)
theorem Inv.nofs(I:Inv X pins σ H s){a:Addr}(h:s.heap.objs.size<=a):a∉X.fs:=fun hb=>by
 obtain⟨_,o,ho,_⟩:=I.ok.funs.mem hb
 exact absurd (Nat.lt_of_lt_of_le (Heap.lt_size ho) (Nat.le_trans I.sz h)) (Nat.lt_irrefl _)
theorem Inv.cne(I:Inv X pins σ H s):∀x c,X.env.cells.lookup x=some c->c≠X.env.locals:=fun x c e z=>by
 obtain⟨v,o,ho,hd⟩:=I.cell x c e
 obtain⟨m,⟨o',es,ep,ho',hd',_⟩,_⟩:=I.loc
 rw[z,ho'] at ho;cases ho;rw[hd'] at hd;cases hd
theorem Inv.funs(I:Inv X pins σ H s):s.heap.FunFrames X.base X.outer:=by
 have all:∀(l:List Env),(∀b∈x5 l,b∈X.fs)->X.s₀.heap.FunFrames X.base l->s.heap.FunFrames X.base l:=by
  intro l
  induction l with
  | nil=>intro _ _;trivial
  | cons env r ih =>
   intro hs hl
   obtain⟨hk,⟨L,o,hf,hn,ho,hd⟩,hr⟩:=hl
   have hL:L∈X.fs:=hs L (by unfold x5;rw[List.filterMap_cons,hf];exact List.mem_cons_self)
   obtain⟨sl,e⟩:=I.base.slot L o ho (I.ok.frf L hL) hL fun z=>I.ok.exfs L z hL
   exact⟨hk,⟨L,_,hf,hn,e,hd⟩,ih (fun b hb=>hs b (by unfold x5;rw[List.filterMap_cons,hf];exact List.mem_cons_of_mem _ hb)) hr⟩
 exact all X.outer (fun _ hb=>hb) I.ok.funs
theorem Inv.stack(I:Inv X pins σ H s):s.heap.FunFrames X.base X.stack:=by
 rcases I.ok.stk with e | ⟨e,hf⟩
 ·rw[e];exact I.funs
 ·rw[e]
  obtain⟨m,hn,_⟩:=I.loc
  refine .cons (by rw[I.ok.kind];decide) hf hn ?_ I.funs
  exact Heap.get?_none_of_le (Nat.le_trans I.ok.bsz I.ok.above)
theorem Inv.stkSub(I:Inv X pins σ H s):∀b∈x5 X.stack,b∈X.env.locals::X.fs:=fun b hb=>by
 rcases I.ok.stk with e | ⟨e,hf⟩
 ·rw[e] at hb;exact List.mem_cons_of_mem _ hb
 ·rw[e] at hb
  unfold x5 at hb
  rw[List.filterMap_cons,hf] at hb
  exact hb
theorem Inv.stkFree(I:Inv X pins σ H s):∀b∈x5 X.stack,H b=none:=fun b hb=>by
 rcases List.mem_cons.mp (I.stkSub b hb) with e | hb
 ·rw[e];exact I.free
 ·obtain⟨_,o,ho,_⟩:=I.ok.funs.mem hb
  exact I.base.free b o ho (I.ok.frf b hb) fun z=>I.ok.exfs b z hb
theorem Inv.step{g':Array GenState}{t':Nat}{d':Drawn}{ch:List Addr}(I:Inv X pins σ H s)
  (hch:∀b∈ch,(b∈X.ex\/X.s₀.heap.objs.size<=b)/\b≠X.env.locals/\(∀x c,X.env.cells.lookup x=some c->c≠b)/\∀p∈X.pn++pins,p.1≠b)
  (keep:∀b o,b≠X.env.locals->b∉X.fs->b∉ch->s.heap.get? b=some o->H b=none->h'.get? b=some o)
  (slot:∀b o,b≠X.env.locals->b∈X.fs->b∉ch->s.heap.get? b=some o->H b=none->∃sl,h'.get? b=some {o with slots:=sl}) (free:∀b o,b∉ch->s.heap.get? b=some o->H b=none->H' b=none)
  (there:∀b o,b∉ch->s.heap.get? b=some o->∃o',h'.get? b=some o')
  (tups:∀b xs,H b=some (.tup xs)->H' b=some (.tup xs)) (frzs:∀b o u,(∀y,u≠.own y)->H b=some (.frz o u)->H' b=some (.frz o u)) (tbls:∀b q c,H b=some (.tbl q c)->H' b=some (.tbl q c))
  (ns:∀m,s.heap.Ns X.env.locals m->h'.Ns X.env.locals m) (hok:pL X.prog X.w H' h') (hg:AllBare g') :
  Inv X pins σ H' {s with heap:=h',gens:=g',drawn:=d',toks:=t' }:=by
 have neL:∀b o,X.s₀.heap.get? b=some o->b≠X.env.locals:=fun b o e=>Nat.ne_of_lt (Nat.lt_of_lt_of_le (Heap.lt_size e) I.ok.above)
 have neC:∀b o,X.s₀.heap.get? b=some o->b∉X.ex->b∉ch:=fun b o e hx hb=>by
  rcases(hch b hb).1 with z | z
  ·exact hx z
  ·exact absurd (Nat.lt_of_lt_of_le (Heap.lt_size e) z) (Nat.lt_irrefl _)
 have cellK:∀x c,X.env.cells.lookup x=some c->∀v,s.heap.IsCell c v->h'.IsCell c v:=fun x c e v ⟨o,ho,hd⟩=>by
  have nch:c∉ch:=fun z=>(hch c z).2.2.1 x c e rfl
  by_cases hc:c∈X.fs
  ·obtain⟨sl,q⟩:=slot c o (I.cne x c e) hc nch ho (I.freeC x c e)
   exact⟨_,q,hd⟩
  ·exact⟨o,keep c o (I.cne x c e) hc nch ho (I.freeC x c e),hd⟩
 refine⟨I.ok,I.os,hg,⟨fun b o e n hb hx=>?_,fun b o e n hb hx=>?_,fun b o e n hx=>?_,fun b o e hx=>?_,fun b xs e=>tups b xs (I.base.tups b xs e),fun b o xs ny e=>frzs b o xs ny (I.base.frzs b o xs ny e),fun b ps d e=>?_⟩,?_,fun x c e=>?_,?_,fun x c e=>?_,fun p hp=>?_,hok,I.len⟩
 ·exact keep b o (neL b o e) hb (neC b o e hx) (I.base.keep b o e n hb hx) (I.base.free b o e n hx)
 ·obtain⟨sl,e1⟩:=I.base.slot b o e n hb hx
  obtain⟨sl',e2⟩:=slot b _ (neL b o e) hb (neC b o e hx) e1 (I.base.free b o e n hx)
  exact⟨sl',e2⟩
 ·obtain⟨o',e1⟩:=I.base.there b o e hx
  exact free b o' (neC b o e hx) e1 (I.base.free b o e n hx)
 ·obtain⟨o',e1⟩:=I.base.there b o e hx
  exact there b o' (neC b o e hx) e1
 ·exact tbls b ps d (I.base.tbls b ps d e)
 ·obtain⟨m,hn,hl⟩:=I.loc
  refine⟨m,ns m hn,fun i x v e1 e2 e3=>?_⟩
  obtain⟨u,r,l⟩:=hl i x v e1 e2 e3
  refine⟨u,r,?_⟩
  rcases l with l | ⟨k,c,e,z⟩
  ·exact .inl l
  ·exact .inr ⟨k,c,e,cellK x c e _ z⟩
 ·obtain⟨v,z⟩:=I.cell x c e
  exact⟨v,cellK x c e v z⟩
 ·obtain⟨m,⟨o,_,_,ho,_⟩,_⟩:=I.loc
  exact free _ o (fun z=>(hch _ z).2.1 rfl) ho I.free
 ·obtain⟨v,o,ho,hd⟩:=I.cell x c e
  exact free c o (fun z=>(hch c z).2.2.1 x c e rfl) ho (I.freeC x c e)
 ·obtain⟨e,n,ne,nf,d⟩:=I.pin p hp
  have nch:p.1∉ch:=fun z=>(hch p.1 z).2.2.2 p hp rfl
  exact⟨keep p.1 p.2 ne nf nch e n,free p.1 p.2 nch e n,ne,nf,d⟩
theorem Inv.un{t':Nat}(I:Inv X pins σ H s)(u:Un X.fs [] H H' s.heap h')(hok:pL X.prog X.w H' h'):Inv X pins σ H' {s with heap:=h',toks:=t' }:=by
 obtain⟨m,⟨o,es,ep,ho,r⟩,_⟩:=id I.loc
 obtain⟨sl,hL⟩:=u.any ho I.free (by simp)
 exact I.step (g':=s.gens) (d':=s.drawn) (ch:=[]) (fun _ z=>nomatch z) (fun b o _ hb _ e n=>u.keep b o e n hb (by simp)) (fun b o _ hb _ e n=>u.slot b o e n hb (by simp)) (fun b o _ e n=>u.free b o e n (by simp)) (fun b o _ e=>u.there b o e (by simp)) u.tups u.frzs u.tbls (fun m' hm=>by
  obtain⟨o',es',ep',ho',r'⟩:=hm
  rw[ho] at ho';cases ho'
  exact⟨_,es',ep',hL,r'⟩) hok I.bare
theorem Inv.call{g':Array GenState}{t':Nat}{d':Drawn}{ch:List Addr}(I:Inv X pins σ H s)(u:Un (x5 X.stack) ch H H' s.heap h')(hok:pL X.prog X.w H' h')(hg:AllBare g')
  (hch:∀b∈ch,(b∈X.ex\/X.s₀.heap.objs.size<=b)/\b≠X.env.locals/\(∀x c,X.env.cells.lookup x=some c->c≠b)/\∀p∈X.pn++pins,p.1≠b) :
  Inv X pins σ H' {s with heap:=h',gens:=g',drawn:=d',toks:=t' }:=by
 obtain⟨m,⟨o,es,ep,ho,r⟩,_⟩:=id I.loc
 obtain⟨sl,hL⟩:=u.any ho I.free fun z=>(hch _ z).2.1 rfl
 exact I.step (ch:=ch) hch (fun b o hL hb hc e n=>u.keep b o e n (fun z=>(List.mem_cons.mp (I.stkSub b z)).elim hL hb) hc) (fun b o _ _ hc e n=>u.any e n hc) (fun b o hc e n=>u.free b o e n hc) (fun b o hc e=>u.there b o e hc) u.tups u.frzs u.tbls (fun m' hm=>by
  obtain⟨o',es',ep',ho',r'⟩:=hm
  rw[ho] at ho';cases ho'
  exact⟨_,es',ep',hL,r'⟩) hok hg
theorem Inv.turned{t':Nat}{it:Addr}(I:Inv X pins σ H s)(k:∀b o,b≠it->s.heap.get? b=some o->h'.get? b=some o)(hn:H it=none)(hL:it≠X.env.locals)
  (h1:it∈X.ex\/X.s₀.heap.objs.size<=it) (h2:∀x c,X.env.cells.lookup x=some c->c≠it) (h3:∀p∈X.pn++pins,p.1≠it):Inv X pins σ H {s with heap:=h',toks:=t' }:=by
 have nit:∀b u,H b=some u->b≠it:=fun b u e z=>by rw[z,hn] at e;cases e
 refine I.step (g':=s.gens) (d':=s.drawn) (ch:=[it]) (fun b hb=>?_) (fun b o _ _ hc e _=>k b o (fun z=>hc (by simp[z])) e) (fun b o _ _ hc e _=>⟨o.slots,k b o (fun z=>hc (by simp[z])) e⟩) (fun _ _ _ _ n=>n)
  (fun b o hc e=>⟨o,k b o (fun z=>hc (by simp[z])) e⟩) (fun _ _ e=>e) (fun _ _ _ _ e=>e) (fun _ _ _ e=>e) (fun m hm=>?_) (fun b u e=>?_) I.bare
 ·have e:b=it:=by simpa using hb
  subst e
  exact⟨h1,hL,h2,h3⟩
 ·obtain⟨o,es,ep,ho,r⟩:=hm
  exact⟨o,es,ep,k _ o (Ne.symm hL) ho,r⟩
 ·refine(I.hok b u e).stay (fun c v hc q=>k c v ?_ q) (fun _ q=>q) (fun _ _ q=>q) fun _ _ _ q=>q
  rcases hc with z | z
  ·rw[z];exact nit b u e
  ·exact nit c _ z
theorem Inv.tok(I:Inv X pins σ H s)(t:Nat):Inv X pins σ H {s with toks:=t}:=I.un (h':=s.heap) (t':=t) Un.refl I.hok
theorem Inv.kept{t':Nat}(I:Inv X pins σ H s)(k:∀b u,s.heap.get? b=some u->h'.get? b=some u):Inv X pins σ H {s with heap:=h',toks:=t' }:=I.un (Un.kept k) (I.hok.kept k)
theorem Inv.laid{a:Addr}{o:HO}{t':Nat}(I:Inv X pins σ H s)(k:∀b u,s.heap.get? b=some u->h'.get? b=some u)(hp:s.heap.objs.size<=a)(new:lF X.prog X.w (upd H a o) h' a o) :
  Inv X pins σ (upd H a o) {s with heap:=h',toks:=t' }:=I.un (Un.laid k hp (I.hok.fresh hp)) (I.hok.laid k hp new)
theorem Inv.write{x e:Addr}{o:HO}{t':Nat}(I:Inv X pins σ H s)(mu:EW (H x))(he:e=x\/H e=some (.own x))(k:∀b u,b≠e->s.heap.get? b=some u->h'.get? b=some u)(heo:∃u,h'.get? e=some u)
  (new:lF X.prog X.w (upd H x o) h' x o):Inv X pins σ (upd H x o) {s with heap:=h',toks:=t' }:=I.un (Un.write mu he k heo) (I.hok.write mu he k heo new)
theorem Inv.pins_of{pins':List (Addr×Obj)}(I:Inv X pins σ H s)(h:∀p∈pins',s.heap.get? p.1=some p.2/\H p.1=none/\p.1≠X.env.locals/\p.1∉X.fs/\∀v,p.2.data≠.cell v):Inv X pins' σ H s:=
 ⟨I.ok,I.os,I.bare,I.base,I.loc,I.cell,I.free,I.freeC,fun p hp=>(List.mem_append.mp hp).elim (fun z=>I.pin p (List.mem_append_left _ z)) (h p),I.hok,I.len⟩
theorem vI{N:List Str}(hN:N.Nodup){i j:Nat}{x:Str}(a:N[i]?=some x)(b:N[j]?=some x):i=j:=by
 obtain⟨h1,e1⟩:=List.getElem?_eq_some_iff.mp a
 obtain⟨h2,e2⟩:=List.getElem?_eq_some_iff.mp b
 exact(List.getElem_inj hN).mp (e1.trans e2.symm)
theorem uj{M:Model}{A:Around}{E:Value->Shared->Prop}{i:Nat}{x:Str}{v:V}{u:Value}{Q:Unit->Shared->Prop}(I:Inv X pins σ H s)(hN:X.N.Nodup)(hi:X.N[i]?=some x)(hx:Loc X.env.scope x)(r:RelV v u)
  (h:∀s',Inv X pins (σ.set i (some v)) H s'->(∃a,Heap.SameBut a s.heap s'.heap/\(a=X.env.locals\/X.env.cells.lookup x=some a))->Q () s') (hf:X.fn x=true\/X.env.scope.names.lookup x=some .local:=by first | exact .inl rfl | exact .inr rfl | assumption):wpAny M A (storeName X.env x u) Q E s:=by
 obtain⟨m,hn,hl⟩:=id I.loc
 have hcls:(X.env.scope.kind==.class||(X.env.scope.kind==.module&&X.env.locals != X.env.globals))=false:=by rw[I.ok.kind];rfl
 have hiσ:i<σ.length:=by rw[I.len];exact(List.getElem?_eq_some_iff.mp hi).1
 have cne:=I.cne
 have tracked:∀{a:Addr} {h':Heap},(∃o,s.heap.get? a=some o/\H a=none)->Heap.SameBut a s.heap h'->pL X.prog X.w H h':=fun {a h'} ha hs b ob e=>by
  obtain⟨_,_,hfree⟩:=ha
  refine(I.hok b ob e).stay (fun c w' hc q=>(hs.2 c ?_).trans q) (fun _ q=>q) (fun _ _ q=>q) fun _ _ _ q=>q
  rintro rfl
  rcases hc with rfl | hc
  ·rw[hfree] at e;cases e
  ·rw[hfree] at hc;cases hc
 rcases hx with hk | hk
 ·refine wpAny_storeName_local hk hn (fun h' hn' hs=>?_) hcls
  obtain⟨oL,_,_,hoL,_⟩:=id hn
  refine h _ ⟨I.ok,I.os,I.bare,⟨fun b o e n hb hx=>?_,fun b o e n hb hx=>?_,I.base.free,fun b o e hx=>?_,I.base.tups,I.base.frzs,I.base.tbls⟩,⟨_,hn',fun j y v' e1 e2 e3=>?_⟩,fun y c e=>?_,I.free,I.freeC,fun p hp=>?_,tracked ⟨oL,hoL,I.free⟩ hs,by simpa using I.len⟩ ⟨_,hs,.inl rfl⟩
  ·exact(hs.2 b (Nat.ne_of_lt (Nat.lt_of_lt_of_le (Heap.lt_size e) I.ok.above))).trans (I.base.keep b o e n hb hx)
  ·obtain⟨sl,e1⟩:=I.base.slot b o e n hb hx
   exact⟨sl,(hs.2 b (Nat.ne_of_lt (Nat.lt_of_lt_of_le (Heap.lt_size e) I.ok.above))).trans e1⟩
  ·obtain⟨o',e1⟩:=I.base.there b o e hx
   exact⟨o',(hs.2 b (Nat.ne_of_lt (Nat.lt_of_lt_of_le (Heap.lt_size e) I.ok.above))).trans e1⟩
  ·by_cases hj:j=i
   ·subst hj
    rw[hi] at e1;cases e1
    rw[List.getElem?_set_self hiσ] at e2
    cases e2
    exact⟨u,r,.inl ⟨hk,by simp⟩⟩
   ·rw[List.getElem?_set_ne (Ne.symm hj)] at e2
    obtain⟨u',r',q⟩:=hl j y v' e1 e2 e3
    refine⟨u',r',?_⟩
    rcases q with ⟨k,e⟩ | ⟨k,c,e,z⟩
    ·refine .inl ⟨k,?_⟩
     have:y≠x:=fun e=>hj (vI hN e1 (e ▸ hi))
     simp[this,e]
    ·exact .inr ⟨k,c,e,z.sameBut hs (cne y c e)⟩
  ·obtain⟨w',z⟩:=I.cell y c e
   exact⟨w',z.sameBut hs (cne y c e)⟩
  ·obtain⟨e,n,ne,nf,d⟩:=I.pin p hp
   exact⟨(hs.2 p.1 ne).trans e,n,ne,nf,d⟩
 ·have hfn:X.fn x=true:=by
   rcases hf with z | z
   ·exact z
   ·rw[z] at hk;cases hk
  obtain⟨c,hc⟩:=I.ok.has x (.inl hk)
  obtain⟨w',z⟩:=I.cell x c hc
  refine wpAny_storeName_cell I.ok.kind hk hc z (fun h' hc' hs=>?_)
  obtain⟨oc,hoc,hocd⟩:=id z
  refine h {s with heap:=h' } ⟨I.ok,I.os,I.bare,⟨fun b o e n hb hx=>?_,fun b o e n hb hx=>?_,I.base.free,fun b o e hx=>?_,I.base.tups,I.base.frzs,I.base.tbls⟩,⟨m,hn.sameBut hs (Ne.symm (cne x c hc)),fun j y v' e1 e2 e3=>?_⟩,fun y c' e=>?_,I.free,I.freeC,fun p hp=>?_,tracked ⟨oc,hoc,I.freeC x c hc⟩ hs,by simpa using I.len⟩ ⟨c,hs,.inr hc⟩
  ·exact(hs.2 b (Nat.ne_of_lt (Nat.lt_of_lt_of_le (Heap.lt_size e) (I.ok.cab x c hfn hc)))).trans (I.base.keep b o e n hb hx)
  ·obtain⟨sl,e1⟩:=I.base.slot b o e n hb hx
   exact⟨sl,(hs.2 b (Nat.ne_of_lt (Nat.lt_of_lt_of_le (Heap.lt_size e) (I.ok.cab x c hfn hc)))).trans e1⟩
  ·obtain⟨o',e1⟩:=I.base.there b o e hx
   exact⟨o',(hs.2 b (Nat.ne_of_lt (Nat.lt_of_lt_of_le (Heap.lt_size e) (I.ok.cab x c hfn hc)))).trans e1⟩
  ·by_cases hj:j=i
   ·subst hj
    rw[hi] at e1;cases e1
    rw[List.getElem?_set_self hiσ] at e2
    cases e2
    exact⟨u,r,.inr ⟨.inl hk,c,hc,hc'⟩⟩
   ·rw[List.getElem?_set_ne (Ne.symm hj)] at e2
    obtain⟨u',r',q⟩:=hl j y v' e1 e2 e3
    refine⟨u',r',?_⟩
    rcases q with q | ⟨k,c',e,z'⟩
    ·exact .inl q
    ·refine .inr ⟨k,c',e,z'.sameBut hs ?_⟩
     rintro rfl
     exact hj (vI hN e1 (I.ok.inj _ _ _ e hc ▸ hi))
  ·by_cases hcc:c'=c
   ·subst hcc;exact⟨_,hc'⟩
   ·obtain⟨w2,z2⟩:=I.cell y c' e
    exact⟨w2,z2.sameBut hs hcc⟩
  ·obtain⟨e,n,ne,nf,d⟩:=I.pin p hp
   refine⟨(hs.2 p.1 ?_).trans e,n,ne,nf,d⟩
   intro q
   rw[q,hoc] at e
   have q':oc=p.2:=Option.some.inj e
   exact d w' (by rw[<- q'];exact hocd)
theorem ww{M:Model}{A:Around}{E:Value->Shared->Prop}{i:Nat}{x:Str}{v:V}{u:Value}{Q:Unit->Shared->Prop}(I:Inv X pins σ H s)(hN:X.N.Nodup)(hi:X.N[i]?=some x)(hx:Loc X.env.scope x)(r:RelV v u)
  (h:∀s',Inv X pins (σ.set i (some v)) H s'->Q () s') (hf:X.fn x=true\/X.env.scope.names.lookup x=some .local:=by first | exact .inl rfl | exact .inr rfl | assumption):wpAny M A (storeName X.env x u) Q E s:=
 uj I hN hi hx r (fun s' I' _=>h s' I') hf
theorem Inv.call'{s':Shared}{ch:List Addr}(I:Inv X pins σ H s)(ho:s'.os=s.os)(u:Un (x5 X.stack) ch H H' s.heap s'.heap)(hok:pL X.prog X.w H' s'.heap)(hg:AllBare s'.gens)
  (hch:∀b∈ch,(b∈X.ex\/X.s₀.heap.objs.size<=b)/\b≠X.env.locals/\(∀x c,X.env.cells.lookup x=some c->c≠b)/\∀p∈X.pn++pins,p.1≠b):Inv X pins σ H' s':=by
 obtain⟨h',g',d',t',o'⟩:=s'
 have e:o'=s.os:=ho
 subst e
 exact I.call (g':=g') (t':=t') (d':=d') u hok hg hch
end
abbrev XK:=Value->Option Addr->Hp->Prop
abbrev St:=List (Option V)
abbrev VK:=V->Hp->Prop
abbrev TE:=St->Hp->VK->Prop
abbrev TT:=St->Hp->(Bool->Hp->Prop)->Prop
abbrev TA:=St->Hp->(List V->Hp->Prop)->Prop
structure Ends where
 nx:St->Hp->Prop
 rt:VK
 bk:St->Hp->Prop:=fun _ _=>False
 ct:St->Hp->Prop:=fun _ _=>False
abbrev TS:=Ends->St->Hp->Prop
def EP(X:Cx)(pins:List (Addr×Obj))(σ:St)(Q:VK)(u:Value)(s':Shared):Prop:=∃v H',Inv X pins σ H' s'/\RelV v u/\Q v H'
def TP(X:Cx)(pins:List (Addr×Obj))(σ:St)(Q:Bool->Hp->Prop)(b:Bool)(s':Shared):Prop:=∃H',Inv X pins σ H' s'/\Q b H'
def AP(X:Cx)(pins:List (Addr×Obj))(σ:St)(Q:List V->Hp->Prop)(us:List Value)(s':Shared):Prop:=∃vs H',Inv X pins σ H' s'/\kM vs us/\Q vs H'
def SP(X:Cx)(pins:List (Addr×Obj))(D:Ends)(f:Flow)(s':Shared):Prop:=
 match f with
 | .next=>∃ σ' H',Inv X pins σ' H' s'/\D.nx σ' H'
 | .brk=>∃ σ' H',Inv X pins σ' H' s'/\D.bk σ' H'
 | .cont=>∃ σ' H',Inv X pins σ' H' s'/\D.ct σ' H'
 | .ret u=>∃v σ' H',Inv X pins σ' H' s'/\RelV v u/\D.rt v H'
def PE(X:Cx)(e:Expr)(t:TE):Prop:=
 ∀(pins:List (Addr×Obj)) (s:Shared) (σ:St) (H:Hp) (Q:VK),Inv X pins σ H s->t σ H Q->wpAny (model X.prog X.w) X.A (eval e X.env) (EP X pins σ Q) X.xe s
def PT(X:Cx)(e:Expr)(t:TT):Prop:=
 ∀(pins:List (Addr×Obj)) (s:Shared) (σ:St) (H:Hp) (Q:Bool->Hp->Prop),Inv X pins σ H s->t σ H Q->wpAny (model X.prog X.w) X.A (isTrue e X.env (eval e X.env)) (TP X pins σ Q) X.xe s
def PW(X:Cx)(e:Expr)(t:TT):Prop:=
 ∀(whole:Sem Value) (pins:List (Addr×Obj)) (s:Shared) (σ:St) (H:Hp) (Q:Bool->Hp->Prop),Inv X pins σ H s->t σ H Q->wpAny (model X.prog X.w) X.A (isTrue e X.env whole) (TP X pins σ Q) X.xe s
theorem PW.pt{X:Cx}{e:Expr}{t:TT}(h:PW X e t):PT X e t:=h _
def PA(X:Cx)(es:List Expr)(t:TA):Prop:=
 ∀(pos:Pos) (pins:List (Addr×Obj)) (s:Shared) (σ:St) (H:Hp) (Q:List V->Hp->Prop),Inv X pins σ H s->t σ H Q->wpAny (model X.prog X.w) X.A (spliced (backTo pos (starEach es X.env))) (AP X pins σ Q) X.xe s
def PS(X:Cx)(st:Stmt)(t:TS):Prop:=
 ∀(pins:List (Addr×Obj)) (s:Shared) (σ:St) (H:Hp) (D:Ends),Inv X pins σ H s->t D σ H->wpAny (model X.prog X.w) X.A (exec st X.env) (SP X pins D) X.xe s
def PSs(X:Cx)(st:List Stmt)(t:TS):Prop:=
 ∀(pins:List (Addr×Obj)) (s:Shared) (σ:St) (H:Hp) (D:Ends),Inv X pins σ H s->t D σ H->wpAny (model X.prog X.w) X.A (execs st X.env) (SP X pins D) X.xe s
theorem lA{α:Type}{t:Sem α}{Q Q':α->Shared->Prop}{M:Model}{A:Around}{E:Value->Shared->Prop}{s:Shared}(h:wpAny M A t Q E s)(hQ:∀a s,Q a s->Q' a s):wpAny M A t Q' E s:=wpAny_mono h hQ fun _ _ x=>x
end L2
namespace L2
open PySem PySem.Spec PyProof.Rows
section
variable{X:Cx}
theorem bin{a b:Expr}{ta tb:TE}(ha:PE X a ta)(hb:PE X b tb){pins:List (Addr×Obj)}{s:Shared}{σ:St}{H:Hp}{R:V->V->Hp->Prop}(I:Inv X pins σ H s)(h:ta σ H fun x H1=>tb σ H1 fun y H2=>R x y H2)
  {α:Type} {Q:α->Shared->Prop} {f:Value->Value->Sem α}
  (hf:∀v u s2 x y H2,Inv X pins σ H2 s2->RelV x v->RelV y u->R x y H2->wpAny (model X.prog X.w) X.A (f v u) Q X.xe s2) :
  wpAny (model X.prog X.w) X.A (eval a X.env) (fun v s₁=>wpAny (model X.prog X.w) X.A (eval b X.env) (fun u s₂=>wpAny (model X.prog X.w) X.A (f v u) Q X.xe s₂) X.xe s₁) X.xe s:=by
 refine lA (ha pins s σ H _ I h) fun v s1 ⟨x,H1,I1,r1,q1⟩=>?_
 refine lA (hb pins s1 σ H1 _ I1 q1) fun u s2 ⟨y,H2,I2,r2,q2⟩=>?_
 exact hf v u s2 x y H2 I2 r1 r2 q2
def Ft(i:Nat):TE:=fun σ H Q=>∃v,σ[i]?=some (some v)/\Q v H
def tC(v:V):TE:=fun _ H Q=>Q v H
theorem fE{i:Nat}{x:Str}{pos:Pos}(hN:X.N[i]?=some x)(hv:vC X.env.scope x)(hd:(x==("__debug__" : Str))=false:=by decide)(hcd:(x==("__classdict__" : Str))=false:=by decide):PE X (.Name x pos) (Ft i):=by
 intro pins s σ H Q I h
 obtain⟨v,e,h⟩:=h
 obtain⟨m,hn,hl⟩:=I.loc
 obtain⟨u,r,l⟩:=hl i x v hN e hv
 have fin:EP X pins σ Q u s:=⟨v,H,I,r,h⟩
 rcases l with ⟨hk,hm⟩ | ⟨hk,c,hc,hcell⟩
 ·exact wpAny_Name (wpAny_loadName_local I.ok.kind hk hn hm fin) hd
 ·rcases hk with hk | hk
  ·exact wpAny_Name (wpAny_loadName_cell I.ok.kind hk hc hcell fin) hd
  ·exact wpAny_Name (wpAny_loadName_free I.ok.kind hk hc hcell fin hcd) hd
theorem DJ{i j pos}:PE X (.Constant (.int i) j pos) (tC (.int i)):=fun _ _ _ H _ I h=>wpAny_Constant_int ⟨.int i,H,I.tok _,⟨_,rfl⟩,h⟩
theorem E5{b j pos}:PE X (.Constant (.bool b) j pos) (tC (.bl b)):=fun _ _ _ H _ I h=>Constant_bool ⟨.bl b,H,I,rfl,h⟩
theorem Dx{j pos}:PE X (.Constant .none j pos) (tC .non):=fun _ _ _ H _ I h=>Constant_none ⟨.non,H,I,rfl,h⟩
theorem Dl{x j pos}:PE X (.Constant (.str x) j pos) (tC (.str x)):=fun _ _ _ H _ I h=>Calls.Constant_str ⟨.str x,H,I.tok _,⟨_,rfl⟩,h⟩
def Gl(X:Cx)(x:Str):Prop:=X.env.kindOf x=some .globalImplicit
theorem eN{E:Value->Shared->Prop}{pins:List (Addr×Obj)}{s:Shared}{σ:St}{H:Hp}{x:Str}{u:Value}{pos:Pos}{Q:Value->Shared->Prop}(I:Inv X pins σ H s)(hg:Gl X x)(hm:X.mg x=some u)(h:Q u s)
  (hd:(x==("__debug__" : Str))=false:=by decide):wpAny (model X.prog X.w) X.A (eval (.Name x pos) X.env) Q E s:=
 Calls.Name_function_global I.ok.kind hg (Calls.loadGlobal_global (by rw[I.ok.glob];exact I.mod.glob.keeps I.bk) hm h) hd
theorem bB{E:Value->Shared->Prop}{pins:List (Addr×Obj)}{s:Shared}{σ:St}{H:Hp}{x:Str}{u:Value}{pos:Pos}{Q:Value->Shared->Prop}(I:Inv X pins σ H s)(hg:Gl X x)(hm:X.mg x=none)(hv:bootBuiltins x=some u)(h:Q u s)
  (hn:x ≠ "__name__":=by decide) (hd:(x==("__debug__" : Str))=false:=by decide):wpAny (model X.prog X.w) X.A (eval (.Name x pos) X.env) Q E s:=by
 obtain⟨mb,h1,h2⟩:=I.mod.blt
 exact Calls.Name_function_global I.ok.kind hg (Calls.loadGlobal_builtin (by rw[I.ok.glob];exact I.mod.glob.keeps I.bk) hm (by rw[I.ok.blt];exact h1.keeps I.bk) ((h2 x hn).trans hv) h) hd
theorem jh{x:Str}{v:V}{u:Value}{pos:Pos}(hg:Gl X x)(hm:X.mg x=some u)(r:RelV v u)(hd:(x==("__debug__" : Str))=false:=by decide):PE X (.Name x pos) (tC v):=
 fun _ _ _ H _ I h=>eN I hg hm ⟨v,H,I,r,h⟩ hd
variable{a b:Expr}{ta tb:TE}{pos:Pos}
def PC(X:Cx)(op:CmpOp)(a b:Expr)(t:TE):Prop:=
 ∀(pins:List (Addr×Obj)) (s:Shared) (σ:St) (H:Hp) (Q:VK),Inv X pins σ H s->t σ H Q ->
  wpAny (model X.prog X.w) X.A (eval a X.env) (fun v s₁=>wpAny (model X.prog X.w) X.A (eval b X.env) (fun u s₂=>wpAny (model X.prog X.w) X.A (compareOp op v u) (EP X pins σ Q) X.xe s₂) X.xe s₁) X.xe s
theorem A3(b:Expr){op:CmpOp}(h:op≠.In)(h2:op≠.NotIn):behindInMarks op b=false:=by
 have e1:(op==CmpOp.In)=false:=by cases op<;>first | rfl | exact absurd rfl h
 have e2:(op==CmpOp.NotIn)=false:=by cases op<;>first | rfl | exact absurd rfl h2
 cases b<;>simp[behindInMarks,e1,e2]
def tB(t:TE):TT:=fun σ H Q=>t σ H fun x H1=>∃c,x=.bl c/\Q c H1
theorem jW{op:CmpOp}{t:TE}(h:PC X op a b t)(h1:behindInMarks op b=false:=by first | exact A3 _ (by decide) (by decide) | rfl):PT X (.Compare a [op] [b] pos) (tB t):=by
 intro pins s σ H Q I hw
 refine wpAny_isTrue_Compare1 (lA (h pins s σ H _ I hw) fun v s1 h1=>lA h1 fun u s2 h2=>lA h2 fun c s3 ⟨x,H1,I1,r1,q1⟩=>?_) h1
 obtain⟨d,rfl,q⟩:=q1
 cases r1
 exact wpAny_truthy_bool ⟨H1,I1,q⟩
variable{tA tB':TT}{rest:List Expr}
def Gy(t u:TT):TT:=fun σ H Q=>t σ H fun c H1=>if c=true then u σ H1 Q else Q false H1
def Hy(t u:TT):TT:=fun σ H Q=>t σ H fun c H1=>if c=true then Q true H1 else u σ H1 Q
theorem B8(ha:PT X a tA):PW X (.BoolOp .And [a] pos) tA:=by
 intro wh pins s σ H Q I h
 refine isTrue_and (lA (ha pins s σ H Q I h) fun c s1 e=>?_)
 cases c with
 | true=>exact isTrue_and_nil e
 | false=>exact e
theorem Eh(ha:PT X a tA):PW X (.BoolOp .Or [a] pos) tA:=by
 intro wh pins s σ H Q I h
 refine isTrue_or (lA (ha pins s σ H Q I h) fun c s1 e=>?_)
 cases c with
 | false=>exact isTrue_or_nil e
 | true=>exact e
theorem C_(ha:PT X a tA)(hb:PW X (.BoolOp .And (b::rest) pos) tB'):PW X (.BoolOp .And (a::b::rest) pos) (Gy tA tB'):=by
 intro wh pins s σ H Q I h
 refine isTrue_and (lA (ha pins s σ H _ I h) fun c s1 ⟨H1,I1,q1⟩=>?_)
 cases c with
 | true=>exact hb wh pins s1 σ H1 Q I1 q1
 | false=>exact⟨H1,I1,q1⟩
theorem EU(ha:PT X a tA)(hb:PW X (.BoolOp .Or (b::rest) pos) tB'):PW X (.BoolOp .Or (a::b::rest) pos) (Hy tA tB'):=by
 intro wh pins s σ H Q I h
 refine isTrue_or (lA (ha pins s σ H _ I h) fun c s1 ⟨H1,I1,q1⟩=>?_)
 cases c with
 | true=>exact⟨H1,I1,q1⟩
 | false=>exact hb wh pins s1 σ H1 Q I1 q1
def Fj(ta:TE):TE:=fun σ H Q=>ta σ H fun x H1=>∃c,x=.bl c/\Q (.bl (!c)) H1
theorem jZ(ha:PE X a ta):PE X (.UnaryOp .Not a pos) (Fj ta):=by
 intro pins s σ H Q I h
 refine UnaryOp_ (lA (ha pins s σ H _ I h) fun v s1 ⟨x,H1,I1,r1,q1⟩=>?_)
 obtain⟨c,rfl,q1⟩:=q1
 cases r1
 exact not_of (wpAny_truthy_bool ⟨.bl (!c),H1,I1,rfl,q1⟩)
end
end L2
namespace L2
open PySem PySem.Spec PyProof.Rows
def nO(K:PySem.W.Frag)(H:Hp)(a:Addr)(xs:List V):Prop:=
 Rd H a (.lst xs) \/
  ∃(o:Obj) (its:Array Value) (n:Nat),K.lookup a=some o/\o.cls=.type "list" /\ o.dict=none/\o.data=.seq its n/\its.size<=sizeLine/\kM xs its.toList
def mG(K:PySem.W.Frag)(H:Hp)(a:Addr)(xs:List V):Prop:=
 Rd H a (.tup xs) \/
  ∃(o:Obj) (its:Array Value) (n:Nat),K.lookup a=some o/\o.cls=.type "tuple" /\ o.dict=none/\o.data=.seq its n/\its.size<=sizeLine/\kM xs its.toList
def Gx:Value->Option V
 | .none=>some .non
 | .bool b=>some (.bl b)
 | .int i _=>some (.int i)
 | .str x _=>some (.str x)
 | .bytes b _=>some (.byt b)
 | .float b _=>some (.flt b)
 | .ref a=>some (.ref a)
 | .type n=>some (.ty n)
 | _=>none
theorem RelV.abs{x:V}{u:Value}(r:RelV x u):Gx u=some x:=by
 cases x with
 | non=>cases r;rfl
 | bl _=>cases r;rfl
 | int _=>obtain⟨t,rfl⟩:=r;rfl
 | str _=>obtain⟨t,rfl⟩:=r;rfl
 | byt _=>obtain⟨t,rfl⟩:=r;rfl
 | flt _=>obtain⟨t,rfl⟩:=r;rfl
 | ref _=>cases r;rfl
 | ty _=>cases r;rfl
theorem RelV.inj{x y:V}{u:Value}(r:RelV x u)(q:RelV y u):x=y:=Option.some.inj (r.abs.symm.trans q.abs)
theorem kM.inj:∀{xs ys:List V} {us:List Value},kM xs us->kM ys us->xs=ys
 | _,_,_,.nil,.nil=>rfl
 | _,_,_,.cons r t,.cons r' t'=>by rw[r.inj r',kM.inj t t']
section
variable{X:Cx}{pins:List (Addr×Obj)}{σ:St}{H:Hp}{s:Shared}{a:Addr}{xs ys:List V}
theorem nO.of{K:PySem.W.Frag}(h:H a=some (.lst xs)):nO K H a xs:=.inl (.inl h)
theorem mG.of{K:PySem.W.Frag}(h:H a=some (.tup xs)):mG K H a xs:=.inl (.inl h)
theorem Inv.list(I:Inv X pins σ H s)(h:nO X.K H a xs):∃its:List Value,kM xs its/\PlainL s.heap a its.toArray/\xs.length<=sizeLine:=by
 rcases h with h | ⟨o,its,n,hk,hc,hd,hs,hz,r⟩
 ·obtain⟨z,its,n,r,e⟩:=h.ok I.hok
  exact⟨its,r,⟨_,n,e,rfl,rfl,rfl⟩,z⟩
 ·refine⟨its.toList,r,⟨o,n,I.kIn a o hk,hc,hd,by simpa using hs⟩,?_⟩
  have e:=r.length
  simp only[Array.length_toList] at e
  omega
theorem Inv.tuple(I:Inv X pins σ H s)(h:mG X.K H a xs):∃its:List Value,kM xs its/\IsTup s.heap a its.toArray/\xs.length<=sizeLine:=by
 rcases h with h | ⟨o,its,n,hk,hc,hd,hs,hz,r⟩
 ·obtain⟨z,its,r,p⟩:=h.ok I.hok
  exact⟨its,r,p.is,z⟩
 ·refine⟨its.toList,r,⟨o,I.kIn a o hk,hc,n,by simpa using hs⟩,?_⟩
  have e:=r.length
  simp only[Array.length_toList] at e
  omega
theorem Inv.list_inj(I:Inv X pins σ H s)(h:nO X.K H a xs)(h':nO X.K H a ys):xs=ys:=by
 obtain⟨its,r,⟨o,n,e,_,_,d⟩,_⟩:=I.list h
 obtain⟨its',r',⟨o',n',e',_,_,d'⟩,_⟩:=I.list h'
 rw[e] at e';cases e'
 rw[d] at d'
 injection d' with d1 _
 have:its=its':=by simpa using congrArg Array.toList d1
 subst this
 exact r.inj r'
theorem Inv.tuple_inj(I:Inv X pins σ H s)(h:mG X.K H a xs)(h':mG X.K H a ys):xs=ys:=by
 obtain⟨its,r,⟨o,e,_,n,d⟩,_⟩:=I.tuple h
 obtain⟨its',r',⟨o',e',_,n',d'⟩,_⟩:=I.tuple h'
 rw[e] at e';cases e'
 rw[d] at d'
 injection d' with d1 _
 have:its=its':=by simpa using congrArg Array.toList d1
 subst this
 exact r.inj r'
end
abbrev Cx.wish(X:Cx)(E:Value->Shared->Prop):Cx:={X with xe:=E}
abbrev Cx.nox(X:Cx):Cx:=X.wish fun _ _=>False
theorem Cx.Ok.wish{X:Cx}(ok:X.Ok)(E:Value->Shared->Prop):(X.wish E).Ok:=
 ⟨ok.mod,ok.kind,ok.glob,ok.blt,ok.above,ok.inj,ok.has,ok.cab,ok.hd,ok.frames,ok.stk,ok.exf,ok.bs,ok.bsz,ok.noex,ok.exfs,ok.funs,ok.frf⟩
theorem Cx.Ok.unwish{X:Cx}{E:Value->Shared->Prop}(ok:(X.wish E).Ok):X.Ok:=
 ⟨ok.mod,ok.kind,ok.glob,ok.blt,ok.above,ok.inj,ok.has,ok.cab,ok.hd,ok.frames,ok.stk,ok.exf,ok.bs,ok.bsz,ok.noex,ok.exfs,ok.funs,ok.frf⟩
section
variable{X:Cx}{pins:List (Addr×Obj)}{σ:St}{H:Hp}{s:Shared}{E:Value->Shared->Prop}
theorem Inv.wish(I:Inv X pins σ H s)(E:Value->Shared->Prop):Inv (X.wish E) pins σ H s:=⟨I.ok.wish E,I.os,I.bare,I.base,I.loc,I.cell,I.free,I.freeC,I.pin,I.hok,I.len⟩
theorem Inv.unwish(I:Inv (X.wish E) pins σ H s):Inv X pins σ H s:=⟨I.ok.unwish,I.os,I.bare,I.base,I.loc,I.cell,I.free,I.freeC,I.pin,I.hok,I.len⟩
theorem SP.unwish{D:Ends}{f:Flow}{s':Shared}(h:SP (X.wish E) pins D f s'):SP X pins D f s':=by
 cases f with
 | next=>obtain⟨σ',H',I,q⟩:=h;exact⟨σ',H',I.unwish,q⟩
 | brk=>obtain⟨σ',H',I,q⟩:=h;exact⟨σ',H',I.unwish,q⟩
 | cont=>obtain⟨σ',H',I,q⟩:=h;exact⟨σ',H',I.unwish,q⟩
 | ret u=>obtain⟨v,σ',H',I,r,q⟩:=h;exact⟨v,σ',H',I.unwish,r,q⟩
theorem PE.nox{e:Expr}{t:TE}(h:PE X.nox e t):PE X e t:=fun pins s σ H Q I hw =>
 wpAny_mono (h pins s σ H Q (I.wish _) hw) (fun _ _ ⟨v,H',I',r,q⟩=>⟨v,H',I'.unwish,r,q⟩) fun _ _ z=>False.elim z
theorem PT.nox{e:Expr}{t:TT}(h:PT X.nox e t):PT X e t:=fun pins s σ H Q I hw =>
 wpAny_mono (h pins s σ H Q (I.wish _) hw) (fun _ _ ⟨H',I',q⟩=>⟨H',I'.unwish,q⟩) fun _ _ z=>False.elim z
theorem PSs.nox{st:List Stmt}{t:TS}(h:PSs X.nox st t):PSs X st t:=fun pins s σ H D I hw =>
 wpAny_mono (h pins s σ H D (I.wish _) hw) (fun _ _ q=>q.unwish) fun _ _ z=>False.elim z
end
section
variable{X:Cx}{st:Stmt}{rest:List Stmt}{t u:TS}{e:Expr}{te:TE}{pos:Pos}
def Fy:TS:=fun D σ H=>D.nx σ H
def Gi(t u:TS):TS:=fun D σ H=>t {D with nx:=u D} σ H
theorem vf:PSs X [] Fy:=fun _ _ σ H _ I h=>wpAny_execs_nil ⟨σ,H,I,h⟩
theorem ba(h1:PS X st t)(h2:PSs X rest u):PSs X (st::rest) (Gi t u):=by
 intro pins s σ H D I h
 refine wpAny_execs_cons (lA (h1 pins s σ H {D with nx:=u D} I h) fun f s1 q=>?_)
 cases f with
 | next =>
  obtain⟨σ',H',I',q⟩:=q
  exact h2 pins s1 σ' H' D I' q
 | ret v=>exact q
 | brk=>exact q
 | cont=>exact q
theorem cg(h1:PS X st t):PSs X [st] t:=by
 intro pins s σ H D I h
 refine wpAny_execs_cons (lA (h1 pins s σ H D I h) fun f s1 q=>?_)
 cases f with
 | next=>exact wpAny_execs_nil q
 | ret v=>exact q
 | brk=>exact q
 | cont=>exact q
theorem Inv.quiet{pins:List (Addr×Obj)}{σ:St}{H:Hp}{s:Shared}(I:Inv X pins σ H s):interactive X.env=false:=by simp[interactive,I.ok.kind]
def Gn(te:TE):TS:=fun D σ H=>te σ H D.rt
theorem fK(he:PE X e te):PS X (.Return (some e) pos) (Gn te):=by
 intro pins s σ H D I h
 exact wpAny_Return_some (lA (he pins s σ H _ I h) fun v s1 ⟨x,H1,I1,r1,q1⟩=>⟨x,σ,H1,I1,r1,q1⟩)
def GD(c:TT)(t u:TS):TS:=fun D σ H=>c σ H fun b H1=>if b=true then t D σ H1 else u D σ H1
theorem gG{c:Expr}{a b:List Stmt}{tc:TT}(hc:PT X c tc)(ha:PSs X a t)(hb:PSs X b u):PS X (.If c a b pos) (GD tc t u):=by
 intro pins s σ H D I h
 refine wpAny_If (lA (hc pins s σ H _ I h) fun d s1 ⟨H1,I1,q1⟩=>?_)
 cases d with
 | true=>exact ha pins s1 σ H1 D I1 q1
 | false=>exact hb pins s1 σ H1 D I1 q1
end
abbrev TG:=V->St->Hp->(St->Hp->Prop)->Prop
abbrev Bo:=List V->St->Hp->(St->Hp->Prop)->Prop
def PG(X:Cx)(target:Expr)(t:TG):Prop:=
 ∀(pins:List (Addr×Obj)) (s:Shared) (σ:St) (H:Hp) (v:V) (u:Value) (Q:St->Hp->Prop),Inv X pins σ H s->RelV v u->t v σ H Q ->
  wpAny (model X.prog X.w) X.A (assign target X.env u) (fun _ s'=>∃ σ' H',Inv X pins σ' H' s'/\Q σ' H') X.xe s
def PGs(X:Cx)(ts:List Expr)(t:Bo):Prop:=
 ∀(pins:List (Addr×Obj)) (s:Shared) (σ:St) (H:Hp) (vs:List V) (us:List Value) (Q:St->Hp->Prop),Inv X pins σ H s->kM vs us->t vs σ H Q ->
  wpAny (model X.prog X.w) X.A (assignInOrder ((assignEach ts X.env).map (·.2)) us) (fun _ s'=>∃ σ' H',Inv X pins σ' H' s'/\Q σ' H') X.xe s
section
variable{X:Cx}{pos:Pos}
def CH(i:Nat):TG:=fun v σ H Q=>Q (σ.set i (some v)) H
theorem iW{i:Nat}{x:Str}(hN:X.N.Nodup)(hi:X.N[i]?=some x)(hx:Loc X.env.scope x)(hf:X.fn x=true\/X.env.scope.names.lookup x=some .local:=by first | exact .inl rfl | exact .inr rfl | assumption):PG X (.Name x pos) (CH i):=by
 intro pins s σ H v u Q I r h
 exact wpAny_assign_Name (ww I hN hi hx r (fun s' I'=>⟨_,H,I',h⟩) hf)
def FY:Bo:=fun vs σ H Q=>vs=[]/\Q σ H
def Fo(t:TG)(u:Bo):Bo:=fun vs σ H Q=>∃v r,vs=v::r/\t v σ H fun σ' H'=>u r σ' H' Q
theorem Bj:PGs X [] FY:=by
 intro pins s σ H vs us Q I r h
 obtain⟨e,h⟩:=h
 subst e
 cases r
 exact assignInOrder_nil ⟨σ,H,I,h⟩
theorem Bb{e:Expr}{es:List Expr}{t:TG}{u:Bo}(h1:PG X e t)(h2:PGs X es u)
  (hs:(assignEach (e::es) X.env).map (·.2)=assign e X.env::(assignEach es X.env).map (·.2):=by rfl):PGs X (e::es) (Fo t u):=by
 intro pins s σ H vs us Q I r h
 obtain⟨v,vr,e1,h⟩:=h
 subst e1
 cases r with
 | cons r rr =>
  rw[hs]
  refine assignInOrder_cons (lA (h1 pins s σ H _ _ _ I r h) fun _ s1 ⟨σ1,H1,I1,q1⟩=>?_)
  exact h2 pins s1 σ1 H1 _ _ Q I1 rr q1
def GN(K:PySem.W.Frag)(n:Nat)(t:Bo):TG:=fun v σ H Q=>∃a xs,v=.ref a/\mG K H a xs/\xs.length=n/\t xs σ H Q
theorem jV{es:List Expr}{k:Nat}{t:Bo}{n:Nat}(hc:X.calm=true)(h:PGs X es t)
  (hn:(assignEach es X.env).length=n:=by rfl) (hst:(assignEach es X.env).findIdx? (·.1)=none:=by rfl):PG X (.Tuple es k pos) (GN X.K n t):=by
 intro pins s σ H v u Q I r hw
 obtain⟨a,xs,e1,hq,hl,hw⟩:=hw
 subst e1
 cases r
 obtain⟨its,rv,ht,hz⟩:=I.tuple hq
 refine assign_Tuple_tuple (I.ok.hd hc) ht (by simp[hn,<- hl,rv.length]) hst fun h' hx=>?_
 have I1:Inv X pins σ H {s with heap:=h' }:=I.kept (t':=s.toks) fun b o e=>hx b o (Nat.ne_of_lt (Heap.lt_size e)) e
 exact h pins _ σ H xs _ Q I1 (by simpa using rv) hw
def Fp(te:TE)(g:TG):TS:=fun D σ H=>te σ H fun x H1=>g x σ H1 D.nx
theorem iF{tg e:Expr}{te:TE}{g:TG}(he:PE X e te)(hg:PG X tg g)(hs:swapsWithSole [tg] e pos.line X.env=pure false:=by rfl)(hw:swappedStores [tg] e X.env=pure none:=by rfl)
  (h1:(assignEach [tg] X.env).map (·.2)=[assign tg X.env]:=by rfl):PS X (.Assign [tg] e pos) (Fp te g):=by
 intro pins s σ H D I h
 refine wpAny_Assign_stores (lA (he pins s σ H _ I h) fun v s1 ⟨x,H1,I1,r1,q1⟩=>?_) hs hw
 rw[h1]
 exact lA (hg pins s1 σ H1 x v _ I1 r1 q1) fun _ s2 q=>q
theorem cN{i:Nat}{x:Str}{e:Expr}{te:TE}{pos':Pos}(hN:X.N.Nodup)(hi:X.N[i]?=some x)(hx:Loc X.env.scope x)(he:PE X e te)(hs:swapsWith e (some (.Name x pos')) pos.line X.env=pure false:=by rfl)(hf:X.fn x=true\/X.env.scope.names.lookup x=some .local:=by first | exact .inl rfl | exact .inr rfl | assumption) :
  PS X (.Assign [.Name x pos'] e pos) (Fp te (CH i)):=by
 intro pins s σ H D I h
 refine wpAny_Assign_Name (lA (he pins s σ H _ I h) fun v s1 ⟨y,H1,I1,r1,q1⟩=>?_) hs
 exact ww I1 hN hi hx r1 (fun s2 I2=>⟨_,H1,I2,q1⟩) hf
end
section
variable{X:Cx}{pos:Pos}
def Dr(c:TT)(tb:TS):TS:=fun D σ H=>∃W:Nat->St->Hp->Prop,(∃m,W m σ H)/\∀m σ H,W m σ H ->
 c σ H fun b H1=>if b=true then ∃N:St->Hp->Prop,(∀ σ' H',N σ' H'->∃m',m'<m/\W m' σ' H')/\tb {D with nx:=N,ct:=N,bk:=D.nx} σ H1 else D.nx σ H1
theorem eU{c:Expr}{body:List Stmt}{tc:TT}{tb:TS}(hp:PassesOwn (model X.prog X.w) X.A X.env X.xe)(hc:PT X c tc)(hb:PSs X body tb):PS X (.While c body [] pos) (Dr tc tb):=by
 intro pins s σ H D I h
 obtain⟨W,⟨m0,w0⟩,turn⟩:=h
 refine wpAny_While (codeAny_whileLoop (fun n s'=>∃ σ' H',Inv X pins σ' H' s'/\W n σ' H') ?_ m0 ⟨σ,H,I,w0⟩)
 rintro n s1 ⟨σ1,H1,I1,w1⟩
 refine wpAny_passesOwn hp (lA (hc pins s1 σ1 H1 _ I1 (turn n σ1 H1 w1)) fun b s2 ⟨H2,I2,q2⟩=>?_)
 cases b with
 | true =>
  obtain⟨N,hN,q2⟩:=q2
  rw[if_pos rfl]
  refine wpAny_passesOwn hp (lA (hb pins s2 σ1 H2 _ I2 q2) fun f s3 q3=>?_)
  cases f with
  | next =>
   obtain⟨σ3,H3,I3,n3⟩:=q3
   obtain⟨m',hm,w3⟩:=hN σ3 H3 n3
   exact⟨m',hm,σ3,H3,I3,w3⟩
  | cont =>
   obtain⟨σ3,H3,I3,n3⟩:=q3
   obtain⟨m',hm,w3⟩:=hN σ3 H3 n3
   exact⟨m',hm,σ3,H3,I3,w3⟩
  | brk=>exact q3
  | ret v=>exact q3
 | false =>
  rw[if_neg Bool.false_ne_true]
  exact wpAny_execs_nil ⟨σ1,H2,I2,q2⟩
end
structure It where
 go:Nat->Hp->Prop
 yld:Nat->Hp->V->Hp->Prop
 stop:Nat->Hp->Prop
def oQ(X:Cx)(pins:List (Addr×Obj))(H:Hp)(b:Addr):Prop:=
 H b=none/\b≠X.env.locals/\b∉X.fs/\(b∈X.ex\/X.s₀.heap.objs.size<=b)/\(∀x c,X.env.cells.lookup x=some c->c≠b)/\∀p∈X.pn++pins,p.1≠b
theorem Inv.fpOk{X:Cx}{pins:List (Addr×Obj)}{σ:St}{H H':Hp}{s:Shared}{b:Addr}(I:Inv X pins σ H s)(hb:s.heap.objs.size<=b)(hn:H' b=none):oQ X pins H' b:=by
 refine⟨hn,Nat.ne_of_gt (Nat.lt_of_lt_of_le I.lt hb),I.nofs hb,.inr (Nat.le_trans I.sz hb),fun x c e z=>?_,fun p hp z=>?_⟩
 ·obtain⟨v,q⟩:=I.cell x c e
  exact absurd (Nat.lt_of_lt_of_le q.lt (by rw[z];exact hb)) (Nat.lt_irrefl _)
 ·exact absurd (Nat.lt_of_lt_of_le (Heap.lt_size (I.pin p hp).1) (by rw[z];exact hb)) (Nat.lt_irrefl _)
structure Turn (P:Program) (w:World) (K:PySem.W.Frag) (tg:Expr) (J:It) (fp:List Addr) (it:Addr) (tn:Nat->Heap->Prop):Prop where
 mem:it∈fp
 obj:∀i h,tn i h->∀b∈fp,∃o,h.get? b=some o/\∀v,o.data≠.cell v
 keep:∀i h h',tn i h->(∀b∈fp,∀o,h.get? b=some o->h'.get? b=some o)->tn i h'
 item:∀(X:Cx),X.prog=P->X.w=w->X.K=K->X.calm=true->∀(i:Nat) (pins:List (Addr×Obj)) (s:Shared) (σ:St) (H:Hp) (E:Value->Shared->Prop),Inv X pins σ H s->(∀b∈fp,oQ X pins H b)->tn i s.heap->J.go i H ->
  wpAny (model P w) X.A (pyNext (.ref it)) (fun r s1=>∃u,r=some u /\
   wpAny (model P w) X.A (letOwnedTupleGo tg (.ref it) u) (fun _ s2=>∃x H',Inv X pins σ H' s2/\RelV x u/\J.yld i H x H'/\tn (i+1) s2.heap/\∀b∈fp,H' b=none) E s1) E s
 done:∀(X:Cx),X.prog=P->X.w=w->X.K=K->X.calm=true->∀(i:Nat) (pins:List (Addr×Obj)) (s:Shared) (σ:St) (H:Hp) (E:Value->Shared->Prop),Inv X pins σ H s->(∀b∈fp,oQ X pins H b)->tn i s.heap->J.stop i H ->
  wpAny (model P w) X.A (pyNext (.ref it)) (fun r s1=>r=none/\Inv X pins σ H s1) E s
 self:∀(A:Around) (i:Nat) (s:Shared) (Q:Value->Shared->Prop) (E:Value->Shared->Prop),tn i s.heap->Q (.ref it) s->wpAny (model P w) A (pyIter (.ref it)) Q E s
abbrev TI:=St->Hp->(It->Hp->Prop)->Prop
def GX(X:Cx)(pins:List (Addr×Obj))(σ:St)(tg:Expr)(R:It->Hp->Prop)(itv:Value)(s2:Shared):Prop:=
 ∃(it:Addr) (fp:List Addr) (tn:Nat->Heap->Prop) (J:It) (H':Hp),itv=.ref it/\Inv X pins σ H' s2/\Turn X.prog X.w X.K tg J fp it tn/\tn 0 s2.heap/\(∀b∈fp,oQ X pins H' b)/\R J H'
def PI(X:Cx)(tg iter:Expr)(wi:TI):Prop:=
 ∀(pins:List (Addr×Obj)) (s:Shared) (σ:St) (H:Hp) (R:It->Hp->Prop),Inv X pins σ H s->wi σ H R ->
  wpAny (model X.prog X.w) X.A (eval iter X.env) (fun v s1=>wpAny (model X.prog X.w) X.A (pyIter v) (GX X pins σ tg R) X.xe s1) X.xe s
theorem wI {M:Model} {A:Around} {E:Value->Shared->Prop} {s:Shared} {tg:Expr} {it:Addr} {u:Value} {o:Obj} {n:String} {vs:Array Value} {Q:Unit->Shared->Prop} (ho:s.heap.get? it=some o) (hc:o.cls=.type n) (hd:o.data=.fields vs)
    (hn:["enumerate","zip","dict_itemiterator","dict_reverseitemiterator","odict_iterator","itertools.zip_longest","itertools.pairwise"].contains n=false) (hQ:Q () s):wpAny M A (letOwnedTupleGo tg (.ref it) u) Q E s:=by
  unfold letOwnedTupleGo
  cases tg<;>first
    | exact wpAny_pure hQ
    | (cases u<;>first
        | exact wpAny_pure hQ
        | (refine wpAny_bind (wpAny_load ho ?_)
           rw[hc,hd]
           show wpAny M A (if (["enumerate","zip","dict_itemiterator","dict_reverseitemiterator","odict_iterator","itertools.zip_longest","itertools.pairwise"].contains n&&vs[0]?==some (rawInt _))=true then _ else _) Q E s
           rw[if_neg (by intro h;rw[hn,Bool.false_and] at h;cases h)]
           exact wpAny_pure hQ))
def GM(K:PySem.W.Frag)(a:Addr):It:=
 ⟨fun i H=>∃xs x,nO K H a xs/\xs[i]?=some x,fun i H x H'=>H'=H/\∀xs,nO K H a xs->xs[i]?=some x,fun i H=>∃xs,nO K H a xs/\xs.length<=i⟩
def Gs(K:PySem.W.Frag)(a:Addr):It:=
 ⟨fun i H=>∃xs x,mG K H a xs/\xs[i]?=some x,fun i H x H'=>H'=H/\∀xs,mG K H a xs->xs[i]?=some x,fun i H=>∃xs,mG K H a xs/\xs.length<=i⟩
def FQ(lo:Int)(n:Nat):It:=⟨fun i _=>i<n,fun i H x H'=>H'=H/\x=.int (lo+i),fun i _=>n<=i⟩
theorem yL{P:Program}{w:World}{K:PySem.W.Frag}{tg:Expr}(a it:Addr):Turn P w K tg (GM K a) [it] it (fun i h=>h.IsListIter it a i) where
 mem:=by simp
 obj:=fun i h st b hb=>by
  have e:b=it:=by simpa using hb
  subst e
  obtain⟨o,e,c,d⟩:=st
  exact⟨o,e,fun v z=>by rw[d] at z;cases z⟩
 keep:=fun i h h' st k=>st.at fun o e=>k it (by simp) o e
 item:=by
  intro X hP hw hK hc i pins s σ H E I hf st hg
  subst hP hw hK
  obtain⟨xs,x,hq,hx⟩:=hg
  obtain⟨its,rv,p,hz⟩:=I.list hq
  obtain⟨u,hu,ru⟩:=rv.get hx
  obtain⟨f0,f1,f2,f3,f4,f5⟩:=hf it (by simp)
  refine wpAny_pyNext_list_item st p.isList (x:=u) (by simpa using hu) fun h' st' sb=>?_
  have I1:Inv X pins σ H {s with heap:=h' }:=I.turned (t':=s.toks) (fun b o hb e=>(sb.2 b hb).trans e) f0 f1 f3 f4 f5
  obtain⟨o,e,c,d⟩:=id st'
  exact⟨u,rfl,wI (s:={s with heap:=h' }) e c d (by decide) ⟨x,H,I1,ru,⟨rfl,fun ys hy=>by rw[I.list_inj hy hq];exact hx⟩,st',fun b hb=>(hf b hb).1⟩⟩
 done:=by
  intro X hP hw hK hc i pins s σ H E I hf st hg
  subst hP hw hK
  obtain⟨xs,hq,hx⟩:=hg
  obtain⟨its,rv,p,hz⟩:=I.list hq
  obtain⟨f0,f1,f2,f3,f4,f5⟩:=hf it (by simp)
  have hl:=rv.length
  exact wpAny_pyNext_list_end (I.ok.hd hc) st p.isList (by simp;omega) fun h' eb=>⟨rfl,I.turned (t':=s.toks) (fun b o hb e=>eb b o hb e) f0 f1 f3 f4 f5⟩
 self:=fun _ _ _ _ _ st h=>wpAny_pyIter_listiter st h
theorem xb{P:Program}{w:World}{K:PySem.W.Frag}{tg:Expr}(a it:Addr):Turn P w K tg (Gs K a) [it] it (fun i h=>h.IsTupleIter it a i) where
 mem:=by simp
 obj:=fun i h st b hb=>by
  have e:b=it:=by simpa using hb
  subst e
  obtain⟨o,e,c,d⟩:=st
  exact⟨o,e,fun v z=>by rw[d] at z;cases z⟩
 keep:=fun i h h' st k=>st.at fun o e=>k it (by simp) o e
 item:=by
  intro X hP hw hK hc i pins s σ H E I hf st hg
  subst hP hw hK
  obtain⟨xs,x,hq,hx⟩:=hg
  obtain⟨its,rv,p,hz⟩:=I.tuple hq
  obtain⟨u,hu,ru⟩:=rv.get hx
  obtain⟨f0,f1,f2,f3,f4,f5⟩:=hf it (by simp)
  refine wpAny_pyNext_tuple_item st (show s.heap.IsTuple a its.toArray from p) (x:=u) (by simpa using hu) fun h' st' sb=>?_
  have I1:Inv X pins σ H {s with heap:=h' }:=I.turned (t':=s.toks) (fun b o hb e=>(sb.2 b hb).trans e) f0 f1 f3 f4 f5
  obtain⟨o,e,c,d⟩:=id st'
  exact⟨u,rfl,wI (s:={s with heap:=h' }) e c d (by decide) ⟨x,H,I1,ru,⟨rfl,fun ys hy=>by rw[I.tuple_inj hy hq];exact hx⟩,st',fun b hb=>(hf b hb).1⟩⟩
 done:=by
  intro X hP hw hK hc i pins s σ H E I hf st hg
  subst hP hw hK
  obtain⟨xs,hq,hx⟩:=hg
  obtain⟨its,rv,p,hz⟩:=I.tuple hq
  obtain⟨f0,f1,f2,f3,f4,f5⟩:=hf it (by simp)
  have hl:=rv.length
  exact wpAny_pyNext_tuple_end (I.ok.hd hc) st (show s.heap.IsTuple a its.toArray from p) (by simp;omega) fun h' eb=>⟨rfl,I.turned (t':=s.toks) (fun b o hb e=>eb b o hb e) f0 f1 f3 f4 f5⟩
 self:=fun _ _ _ _ _ st h=>wpAny_pyIter_tupleiter st h
theorem w4{P:Program}{w:World}{K:PySem.W.Frag}{tg:Expr}(it:Addr)(lo:Int)(n:Nat):Turn P w K tg (FQ lo n) [it] it (fun i h=>IsRangeIter h it (lo+(i:Nat)*1) ((n:Int) - (i:Nat)) 1) where
 mem:=by simp
 obj:=fun i h st b hb=>by
  have e:b=it:=by simpa using hb
  subst e
  exact⟨_,st,fun v z=>by
   have z':Data.fields _=Data.cell v:=z
   cases z'⟩
 keep:=fun i h h' st k=>k it (by simp) _ st
 item:=by
  intro X hP hw hK hc i pins s σ H E I hf st hg
  subst hP hw hK
  obtain⟨f0,f1,f2,f3,f4,f5⟩:=hf it (by simp)
  have W:=Walks.range (prog:=X.prog) (w:=X.w) (I.ok.hd hc) it lo 1 n
  refine W.item i s _ _ hg st fun v h' tk hv st' kk=>?_
  obtain⟨t,rfl⟩:=hv
  have I1:Inv X pins σ H {s with heap:=h',toks:=tk}:=I.turned (fun b o hb e=>kk b o (by simpa using hb) e) f0 f1 f3 f4 f5
  refine⟨_,rfl,wI (s:={s with heap:=h',toks:=tk}) (n:="range_iterator") st' rfl rfl (by decide) ⟨.int (lo+i),H,I1,⟨t,?_⟩,⟨rfl,rfl⟩,st',fun b hb=>(hf b hb).1⟩⟩
  rw[Int.mul_one]
 done:=by
  intro X hP hw hK hc i pins s σ H E I hf st hg
  subst hP hw hK
  obtain⟨f0,f1,f2,f3,f4,f5⟩:=hf it (by simp)
  exact wpAny_pyNext_range_end (I.ok.hd hc) st (by have:n<=i:=hg;omega) fun h' eb=>⟨rfl,I.turned (t':=s.toks) (fun b o hb e=>eb b o hb e) f0 f1 f3 f4 f5⟩
 self:=fun _ _ _ _ _ st h=>wpAny_pyIter_rangeiter st h
end L2
namespace L2
open PySem PySem.Spec PyProof.Rows
section
variable{X:Cx}{tg:Expr}
theorem Ax{pins:List (Addr×Obj)}{σ:St}{H:Hp}{s:Shared}{R:It->Hp->Prop}{E:Value->Shared->Prop}{lo hi:Int}{t u v:Tok}{tk:Nat}(I:Inv X pins σ H s)(h1 : -(2 ^ 62)<=lo)(h2:lo<2 ^ 62)(h3 : -(2 ^ 62)<=hi)(h4:hi<2 ^ 62)
  (q:R (FQ lo (hi - lo).toNat) H):wpAny (model X.prog X.w) X.A (pyIter (.ref s.heap.objs.size)) (GX X pins σ tg R) E {s with heap:=s.heap.push {cls:=.type "range",data:=.fields #[.int lo t,.int hi u,.int 1 v]},toks:=tk}:=by
 refine wpAny_pyIter_range (IsRange.new ..) (small_one h1 h2 h3 h4) ?_
 have I1:Inv X pins σ H {s with heap:=s.heap.push {cls:=.type "range",data:=.fields #[.int lo t,.int hi u,.int 1 v]},toks:=tk}:=I.kept fun b o e=>Heap.get?_push_of_some _ e
 refine⟨(s.heap.push {cls:=.type "range",data:=.fields #[.int lo t,.int hi u,.int 1 v]}).objs.size,[(s.heap.push {cls:=.type "range",data:=.fields #[.int lo t,.int hi u,.int 1 v]}).objs.size],_,_,H,rfl,
  I1.kept (t':=tk) fun b o e=>Heap.get?_push_of_some _ e,w4 _ lo (hi - lo).toNat,?_,fun b hb=>?_,q⟩
 ·have e1:lo+((0:Nat):Int)*1=lo:=by simp
  have e2:(((hi - lo).toNat:Nat):Int) - ((0:Nat):Int)=Builtin.Range.rangeSize lo hi 1:=by rw[rangeSize_one];split<;>omega
  show IsRangeIter _ _ (lo+((0:Nat):Int)*1) ((((hi - lo).toNat:Nat):Int) - ((0:Nat):Int)) 1
  rw[e1,e2]
  exact Heap.get?_push_size _ rfl
 ·have e:b=(s.heap.push {cls:=.type "range",data:=.fields #[.int lo t,.int hi u,.int 1 v]}).objs.size:=by simpa using hb
  subst e
  exact I1.fpOk (Nat.le_refl _) (I1.hok.fresh (Nat.le_refl _))
def E6(ta:TA):TI:=fun σ H R=>ta σ H fun vs H1=>∃j:Int,vs=[.int j] /\ -(2 ^ 62)<=j/\j<2 ^ 62/\R (FQ 0 j.toNat) H1
theorem gt{a:Expr}{ta:TA}{p pos:Pos}(hg:Gl X "range")(hm:X.mg "range" = none)(ha:PA X [a] ta)(hs:starEach [a] X.env=[(false,eval a X.env)]:=by rfl):PI X tg (.Call (.Name "range" p) [a] [] pos) (E6 ta):=by
 intro pins s σ H R I h
 refine Call_ (bB I hg hm boot_range (PyProof.Rows.callWith_type1 (lA (ha pos pins s σ H _ I h) fun us s1 ⟨vs,H1,I1,r1,q1⟩=>?_) hs rfl))
 obtain⟨j,e,q1,q2,q⟩:=q1
 subst e
 cases r1 with
 | cons r rr =>
  cases rr
  obtain⟨t,rfl⟩:=r
  exact call_range_1 (Ax I1 (by omega) (by omega) q1 q2 (by simpa using q))
def GH(wi:TI)(g:TG)(tb:TS):TS:=fun D σ H=>wi σ H fun J H1=>∃W:Nat->Nat->St->Hp->Prop,(∃m,W 0 m σ H1)/\∀i m σ H,W i m σ H ->
 (J.stop i H/\D.nx σ H)\/(J.go i H/\∃N:St->Hp->Prop,(∀ σ' H',N σ' H'->∃m',m'<m/\W (i+1) m' σ' H')/\∀x H',J.yld i H x H'->g x σ H' fun σ2 H2=>tb {D with nx:=N,ct:=N,bk:=D.nx} σ2 H2)
def pW(fp:List Addr)(h:Heap):List (Addr×Obj):=fp.filterMap fun b=>(h.get? b).map fun o=>(b,o)
theorem bH{fp:List Addr}{h:Heap}{b:Addr}{o:Obj}(hb:b∈fp)(e:h.get? b=some o):(b,o)∈pW fp h:=List.mem_filterMap.mpr ⟨b,hb,by rw[e];rfl⟩
theorem uH{fp:List Addr}{h:Heap}{p:Addr×Obj}(hp:p∈pW fp h):p.1∈fp/\h.get? p.1=some p.2:=by
 obtain⟨b,hb,e⟩:=List.mem_filterMap.mp hp
 cases q:h.get? b with
 | none=>rw[q] at e;cases e
 | some o =>
  rw[q] at e
  have e':(b,o)=p:=Option.some.inj e
  subst e'
  exact⟨hb,q⟩
theorem Inv.pinned{pins:List (Addr×Obj)}{σ:St}{H:Hp}{s:Shared}{fp:List Addr}(I:Inv X pins σ H s)(hf:∀b∈fp,oQ X pins H b)(ho:∀b∈fp,∃o,s.heap.get? b=some o/\∀v,o.data≠.cell v):Inv X (pins++pW fp s.heap) σ H s:=
 I.pins_of fun p hp=>(List.mem_append.mp hp).elim (fun z=>I.pin p (List.mem_append_right _ z)) fun z=>by
  obtain⟨hb,e⟩:=uH z
  obtain⟨f0,f1,f2,_⟩:=hf p.1 hb
  obtain⟨o,e',d⟩:=ho p.1 hb
  rw[e] at e';cases e'
  exact⟨e,f0,f1,f2,d⟩
theorem Inv.unpinned{pins pl:List (Addr×Obj)}{σ:St}{H:Hp}{s:Shared}(I:Inv X (pins++pl) σ H s):Inv X pins σ H s:=I.pins_of fun p hp=>I.pin p (List.mem_append_right _ (List.mem_append_left _ hp))
theorem fz{iter:Expr}{body:List Stmt}{wi:TI}{g:TG}{tb:TS}{pos:Pos}(hp:PassesOwn (model X.prog X.w) X.A X.env X.xe)(hc:X.calm=true)(hi:PI X tg iter wi)(hg:PG X tg g)(hb:PSs X body tb)
  (hs:∀x,foldedSetIterable iter X.env x=pure x:=by intro _;rfl):PS X (.For tg iter body [] pos) (GH wi g tb):=by
 intro pins s σ H D I h
 refine wpAny_For (lA (hi pins s σ H _ I h) fun v s1 h1=>lA h1 fun itv s2 h2=>?_) hs
 obtain⟨it,fp,tn,J,H2,e,I2,T,st2,f2,W,⟨m0,w0⟩,turn⟩:=h2
 subst e
 have stat:∀{H':Hp},(∀b∈fp,H' b=none)->∀b∈fp,oQ X pins H' b:=fun hn b hb=>⟨hn b hb,(f2 b hb).2⟩
 refine codeAny_forLoop_any (fun n s'=>∃i σ' H',Inv X pins σ' H' s'/\tn i s'.heap/\(∀b∈fp,H' b=none)/\W i n σ' H') ?_ m0 ⟨0,σ,H2,I2,st2,fun b hb=>(f2 b hb).1,w0⟩
 rintro n s3 ⟨i,σ3,H3,I3,st3,fr3,w3⟩
 rcases turn i n σ3 H3 w3 with ⟨stop,qn⟩ | ⟨go,N,hN,step⟩
 ·refine wpAny_passesOwn hp (lA (T.done X rfl rfl rfl hc i pins s3 σ3 H3 X.xe I3 (stat fr3) st3 stop) fun r s4 ⟨hr,I4⟩=>?_)
  subst hr
  exact wpAny_execs_nil ⟨σ3,H3,I4,qn⟩
 ·refine wpAny_passesOwn hp (lA (T.item X rfl rfl rfl hc i pins s3 σ3 H3 X.xe I3 (stat fr3) st3 go) fun r s4 ⟨u,hr,h4⟩=>?_)
  subst hr
  refine wpAny_passesOwn hp (lA h4 fun _ s5 ⟨x,H5,I5,r5,y5,st5,fr5⟩=>?_)
  have I5':=I5.pinned (stat fr5) (T.obj _ _ st5)
  refine wpAny_passesOwn hp (lA (hg _ s5 σ3 H5 x u _ I5' r5 (step x H5 y5)) fun _ s6 ⟨σ6,H6,I6,q6⟩=>?_)
  refine wpAny_passesOwn hp (lA (hb _ s6 σ6 H6 _ I6 q6) fun f s7 q7=>?_)
  have again:∀{σ7:St} {H7:Hp},Inv X (pins++pW fp s5.heap) σ7 H7 s7->N σ7 H7->∃m,m<n/\∃i σ' H',Inv X pins σ' H' s7/\tn i s7.heap/\(∀b∈fp,H' b=none)/\W i m σ' H':=fun {σ7 H7} I7 n7=>by
   obtain⟨m',hm,w7⟩:=hN σ7 H7 n7
   refine⟨m',hm,i+1,σ7,H7,I7.unpinned,T.keep _ _ _ st5 fun b hb o e=>(I7.pin (b,o) (List.mem_append_right _ (List.mem_append_right _ (bH hb e)))).1,fun b hb=>?_,w7⟩
   obtain⟨o,e,d⟩:=T.obj _ _ st5 b hb
   exact(I7.pin (b,o) (List.mem_append_right _ (List.mem_append_right _ (bH hb e)))).2.1
  cases f with
  | next=>obtain⟨σ7,H7,I7,n7⟩:=q7;exact again I7 n7
  | cont=>obtain⟨σ7,H7,I7,n7⟩:=q7;exact again I7 n7
  | brk=>obtain⟨σ7,H7,I7,q7⟩:=q7;exact⟨σ7,H7,I7.unpinned,q7⟩
  | ret v=>obtain⟨x7,σ7,H7,I7,r7,q7⟩:=q7;exact⟨x7,σ7,H7,I7.unpinned,r7,q7⟩
end
end L2
namespace L2
open PySem PySem.Spec PyProof.Rows
abbrev R2:=V->V->Hp->VK->Prop
def OpR(X:Cx)(f:Value->Value->Sem Value)(r:R2):Prop:=
 ∀(pins:List (Addr×Obj)) (s:Shared) (σ:St) (H:Hp) (x y:V) (v u:Value) (Q:VK),Inv X pins σ H s->RelV x v->RelV y u->r x y H Q ->
  wpAny (model X.prog X.w) X.A (f v u) (EP X pins σ Q) X.xe s
def UnR(X:Cx)(f:Value->Sem Value)(r:V->Hp->VK->Prop):Prop:=
 ∀(pins:List (Addr×Obj)) (s:Shared) (σ:St) (H:Hp) (x:V) (v:Value) (Q:VK),Inv X pins σ H s->RelV x v->r x H Q ->
  wpAny (model X.prog X.w) X.A (f v) (EP X pins σ Q) X.xe s
def CallR(X:Cx)(f:Value)(r:List V->Hp->VK->Prop):Prop:=
 ∀(pins:List (Addr×Obj)) (s:Shared) (σ:St) (H:Hp) (xs:List V) (us:List Value) (Q:VK),Inv X pins σ H s->kM xs us->r xs H Q ->
  wpAny (model X.prog X.w) X.A (call f us) (EP X pins σ Q) X.xe s
def FV(r:R2)(ta tb:TE):TE:=fun σ H Q=>ta σ H fun x H1=>tb σ H1 fun y H2=>r x y H2 Q
def rI(C:Int->Int->Prop)(g:Int->Int->V):R2:=fun x y H Q=>∃i j,x=.int i/\y=.int j/\C i j/\Q (g i j) H
def Es(g:Int->Int->V):R2:=fun x y H Q=>∃i j,x=.int i/\y=.int j/\Q (g i j) H
section
variable{X:Cx}{a b c:Expr}{ta tb tc:TE}{pos:Pos}
theorem De(ha:PE X a ta)(hb:PE X b tb){pins:List (Addr×Obj)}{s:Shared}{σ:St}{H:Hp}{R:V->V->Hp->Prop}(I:Inv X pins σ H s)
  (h:ta σ H fun x H1=>tb σ H1 fun y H2=>R x y H2) {Q:Value->Shared->Prop} {f:Value->Value->Sem Value}
  (hf:∀v u s2 x y H2,Inv X pins σ H2 s2->RelV x v->RelV y u->R x y H2->wpAny (model X.prog X.w) X.A (f v u) Q X.xe s2) :
  wpAny (model X.prog X.w) X.A (eval a X.env) (fun v s₁=>wpAny (model X.prog X.w) X.A (eval b X.env) (fun u s₂=>wpAny (model X.prog X.w) X.A (f v u) Q X.xe s₂) X.xe s₁) X.xe s:=by
 refine lA (ha pins s σ H _ I h) fun v s1 ⟨x,H1,I1,r1,q1⟩=>?_
 refine lA (hb pins s1 σ H1 _ I1 q1) fun u s2 ⟨y,H2,I2,r2,q2⟩=>?_
 exact hf v u s2 x y H2 I2 r1 r2 q2
theorem iC{op:Operator}{r:R2}(ho:OpR X (binaryOp op) r)(ha:PE X a ta)(hb:PE X b tb):PE X (.BinOp a op b pos) (FV r ta tb):=by
 intro pins s σ H Q I h
 exact wpAny_BinOp (De ha hb I h fun v u s2 x y H2 I2 rx ry q=>ho pins s2 σ H2 x y v u Q I2 rx ry q)
theorem Gv{f:Value->Value->Sem Value}{C:Int->Int->Prop}{g:Int->Int->Int}
  (rule:∀(i j:Int) (t u:Tok) (s:Shared) (Q:Value->Shared->Prop) (E:Value->Shared->Prop),C i j->Q (.int (g i j) s.toks) {s with toks:=s.toks+1}->wpAny (model X.prog X.w) X.A (f (.int i t) (.int j u)) Q E s) :
  OpR X f (rI C fun i j=>.int (g i j)):=by
 intro pins s σ H x y v u Q I rx ry h
 obtain⟨i,j,rfl,rfl,hc,q⟩:=h
 obtain⟨t,rfl⟩:=rx
 obtain⟨t',rfl⟩:=ry
 exact rule i j t t' s _ _ hc ⟨.int (g i j),H,I.tok _,⟨_,rfl⟩,q⟩
theorem Gg{f:Value->Value->Sem Value}{g:Int->Int->Int}
  (rule:∀(i j:Int) (t u:Tok) (s:Shared) (Q:Value->Shared->Prop) (E:Value->Shared->Prop),Q (.int (g i j) s.toks) {s with toks:=s.toks+1}->wpAny (model X.prog X.w) X.A (f (.int i t) (.int j u)) Q E s) :
  OpR X f (Es fun i j=>.int (g i j)):=by
 intro pins s σ H x y v u Q I rx ry h
 obtain⟨i,j,rfl,rfl,q⟩:=h
 obtain⟨t,rfl⟩:=rx
 obtain⟨t',rfl⟩:=ry
 exact rule i j t t' s _ _ ⟨.int (g i j),H,I.tok _,⟨_,rfl⟩,q⟩
theorem Fs{f:Value->Value->Sem Value}{g:Int->Int->Bool}
  (rule:∀(i j:Int) (t u:Tok) (s:Shared) (Q:Value->Shared->Prop) (E:Value->Shared->Prop),Q (.bool (g i j)) s->wpAny (model X.prog X.w) X.A (f (.int i t) (.int j u)) Q E s) :
  OpR X f (Es fun i j=>.bl (g i j)):=by
 intro pins s σ H x y v u Q I rx ry h
 obtain⟨i,j,rfl,rfl,q⟩:=h
 obtain⟨t,rfl⟩:=rx
 obtain⟨t',rfl⟩:=ry
 exact rule i j t t' s _ _ ⟨.bl (g i j),H,I,rfl,q⟩
def GA(i j:Int):Prop:=0<j/\j<1073741824
def Ed(i j:Int):Prop:=(-(2 ^ 64)<i/\i<2 ^ 64)\/(-(2 ^ 64)<j/\j<2 ^ 64)
theorem Ed.ok{i j:Int}(h:Ed i j):IntMulOk i j:=by
 rcases h with ⟨h1,h2⟩ | ⟨h1,h2⟩
 ·exact .of_left (intBits_le_64 h1 h2)
 ·exact .of_right (intBits_le_64 h1 h2)
theorem Df:OpR X (binaryOp .Add) (Es fun i j=>.int (i+j)):=Gg fun _ _ _ _ _ _ _ q=>add_int q
theorem Dz:OpR X (binaryOp .Mult) (rI Ed fun i j=>.int (i*j)):=Gv fun _ _ _ _ _ _ _ hc q=>mul_int q hc.ok
theorem Ce:OpR X (binaryOp .FloorDiv) (rI GA fun i j=>.int (i / j)):=Gv fun i j _ _ _ _ _ hc q=>by
 have h1:(0:Int)<j:=hc.1
 have h2:j<1073741824:=hc.2
 exact floordiv_int (by omega) (by rw[Int.fdiv_eq_ediv_of_nonneg i (by omega)];exact q) (.inl (PyProof.noPylong_small (by omega)))
theorem DU:OpR X (binaryOp .Mod) (rI (fun _ j=>0<j) fun i j=>.int (i%j)):=Gv fun i j _ _ _ _ _ hc q=>by
 have h1:(0:Int)<j:=hc
 exact mod_int' (by omega) (by rw[Int.fmod_eq_emod_of_nonneg i (by omega)];exact q)
end
def BF:V->V->Bool
 | .non,.non=>true | .non,.int _=>true | .int _,.non=>true | .non,.bl _=>true | .bl _,.non=>true | .non,.str _=>true | .str _,.non=>true
 | .int _,.int _=>true | .bl _,.bl _=>true | .str _,.str _=>true | .byt _,.byt _=>true
 | .int _,.str _=>true | .str _,.int _=>true | .bl _,.str _=>true | .str _,.bl _=>true
 | _,_=>false
def Ht:R2:=fun x y H Q=>BF x y=true/\Q (.bl (decide (x=y))) H
def Hr:R2:=fun x y H Q=>BF x y=true/\Q (.bl (!decide (x=y))) H
theorem sf{i j:Int}:decide (V.int i=V.int j)=(i==j):=by
 rw[Bool.eq_iff_iff]
 simp
theorem u_{i j:Bool}:decide (V.bl i=V.bl j)=(i==j):=by
 rw[Bool.eq_iff_iff]
 simp
theorem sd{i j:Str}:decide (V.str i=V.str j)=(i==j):=by
 rw[Bool.eq_iff_iff]
 simp
theorem yb{i j:Array UInt8}:decide (V.byt i=V.byt j)=(i.toList==j.toList):=by
 rw[Bool.eq_iff_iff]
 cases i
 cases j
 simp
section
variable{X:Cx}{a b c:Expr}{ta tb tc:TE}{pos:Pos}
theorem kU{pins:List (Addr×Obj)}{σ:St}{H:Hp}{s:Shared}{Q:VK}{k k':Bool}(I:Inv X pins σ H s)(q:Q (.bl k) H)(e:k=k'):EP X pins σ Q (.bool k') s:=by
 subst e
 exact⟨.bl k,H,I,rfl,q⟩
theorem ES:OpR X (compareOp .Eq) Ht:=by
 intro pins s σ H x y v u Q I rx ry h
 obtain⟨hs,q⟩:=h
 cases x with
 | non =>
  cases rx
  cases y with
  | non=>cases ry;exact PySem.EqNone.eq_none_none (kU I q (by simp))
  | bl j=>cases ry;exact PySem.EqNone.eq_none_bool (kU I q (by simp))
  | int j=>obtain⟨t',rfl⟩:=ry;exact PySem.EqNone.eq_none_int (kU I q (by simp))
  | str j=>obtain⟨t',rfl⟩:=ry;exact PySem.EqNone.eq_none_str (kU I q (by simp))
  | _=>exact absurd (show false=true from hs) Bool.false_ne_true
 | bl i =>
  cases rx
  cases y with
  | non=>cases ry;exact PySem.EqNone.eq_bool_none (kU I q (by simp))
  | bl j=>cases ry;exact eq_bool (kU I q u_)
  | str j=>obtain⟨t',rfl⟩:=ry;exact PySem.EqMixed.eq_bool_str (kU I q (by simp))
  | _=>exact absurd (show false=true from hs) Bool.false_ne_true
 | int i =>
  obtain⟨t,rfl⟩:=rx
  cases y with
  | non=>cases ry;exact PySem.EqNone.eq_int_none (kU I q (by simp))
  | int j=>obtain⟨t',rfl⟩:=ry;exact eq_int (kU I q sf)
  | str j=>obtain⟨t',rfl⟩:=ry;exact PySem.EqMixed.eq_int_str (kU I q (by simp))
  | _=>exact absurd (show false=true from hs) Bool.false_ne_true
 | str i =>
  obtain⟨t,rfl⟩:=rx
  cases y with
  | non=>cases ry;exact PySem.EqNone.eq_str_none (kU I q (by simp))
  | bl j=>cases ry;exact PySem.EqMixed.eq_str_bool (kU I q (by simp))
  | int j=>obtain⟨t',rfl⟩:=ry;exact PySem.EqMixed.eq_str_int (kU I q (by simp))
  | str j=>obtain⟨t',rfl⟩:=ry;exact eq_str (kU I q sd)
  | _=>exact absurd (show false=true from hs) Bool.false_ne_true
 | byt i =>
  obtain⟨t,rfl⟩:=rx
  cases y with
  | byt j=>obtain⟨t',rfl⟩:=ry;exact PySem.W.eq_bytes (kU I q yb)
  | _=>exact absurd (show false=true from hs) Bool.false_ne_true
 | _=>cases y<;>exact absurd (show false=true from hs) Bool.false_ne_true
theorem EG:OpR X (compareOp .NotEq) Hr:=by
 intro pins s σ H x y v u Q I rx ry h
 obtain⟨hs,q⟩:=h
 cases x with
 | non =>
  cases rx
  cases y with
  | non=>cases ry;exact PySem.EqNone.ne_none_none (kU I q (by simp))
  | bl j=>cases ry;exact PySem.EqNone.ne_none_bool (kU I q (by simp))
  | int j=>obtain⟨t',rfl⟩:=ry;exact PySem.EqNone.ne_none_int (kU I q (by simp))
  | str j=>obtain⟨t',rfl⟩:=ry;exact PySem.EqNone.ne_none_str (kU I q (by simp))
  | _=>exact absurd (show false=true from hs) Bool.false_ne_true
 | bl i =>
  cases rx
  cases y with
  | non=>cases ry;exact PySem.EqNone.ne_bool_none (kU I q (by simp))
  | bl j=>cases ry;exact ne_bool (kU I q (congrArg not u_))
  | str j=>obtain⟨t',rfl⟩:=ry;exact PySem.EqMixed.ne_bool_str (kU I q (by simp))
  | _=>exact absurd (show false=true from hs) Bool.false_ne_true
 | int i =>
  obtain⟨t,rfl⟩:=rx
  cases y with
  | non=>cases ry;exact PySem.EqNone.ne_int_none (kU I q (by simp))
  | int j=>obtain⟨t',rfl⟩:=ry;exact ne_int (kU I q (congrArg not sf))
  | str j=>obtain⟨t',rfl⟩:=ry;exact PySem.EqMixed.ne_int_str (kU I q (by simp))
  | _=>exact absurd (show false=true from hs) Bool.false_ne_true
 | str i =>
  obtain⟨t,rfl⟩:=rx
  cases y with
  | non=>cases ry;exact PySem.EqNone.ne_str_none (kU I q (by simp))
  | bl j=>cases ry;exact PySem.EqMixed.ne_str_bool (kU I q (by simp))
  | int j=>obtain⟨t',rfl⟩:=ry;exact PySem.EqMixed.ne_str_int (kU I q (by simp))
  | str j=>obtain⟨t',rfl⟩:=ry;exact ne_str (kU I q (congrArg not sd))
  | _=>exact absurd (show false=true from hs) Bool.false_ne_true
 | byt i =>
  obtain⟨t,rfl⟩:=rx
  cases y with
  | byt j=>obtain⟨t',rfl⟩:=ry;exact PySem.W.ne_bytes (kU I q (congrArg not yb))
  | _=>exact absurd (show false=true from hs) Bool.false_ne_true
 | _=>cases y<;>exact absurd (show false=true from hs) Bool.false_ne_true
theorem Fe:OpR X (compareOp .Lt) (Es fun i j=>.bl (decide (i<j))):=Fs fun _ _ _ _ _ _ _ q=>lt_int q
theorem Fm:OpR X (compareOp .Gt) (Es fun i j=>.bl (decide (j<i))):=Fs fun _ _ _ _ _ _ _ q=>gt_int q
theorem D_:OpR X (compareOp .Is) (fun x y H Q=>y=.non/\Q (.bl (decide (x=.non))) H):=by
 intro pins s σ H x y v u Q I rx ry h
 obtain⟨rfl,q⟩:=h
 cases ry
 refine is_none_gen (kU I q ?_)
 cases x<;>first
  | (cases rx;rfl)
  | (obtain⟨t,rfl⟩:=rx;rfl)
theorem BM:OpR X (compareOp .IsNot) (fun x y H Q=>y=.non/\Q (.bl (!decide (x=.non))) H):=by
 intro pins s σ H x y v u Q I rx ry h
 obtain⟨rfl,q⟩:=h
 cases ry
 refine isnot_none_gen (kU I q ?_)
 cases x<;>first
  | (cases rx;rfl)
  | (obtain⟨t,rfl⟩:=rx;rfl)
theorem OpR.or{f:Value->Value->Sem Value}{r r':R2}(h:OpR X f r)(h':OpR X f r'):OpR X f (fun x y H Q=>r x y H Q\/r' x y H Q):=by
 intro pins s σ H x y v u Q I rx ry q
 rcases q with q | q
 ·exact h pins s σ H x y v u Q I rx ry q
 ·exact h' pins s σ H x y v u Q I rx ry q
theorem Aq(b:Expr){op:CmpOp}(h:op≠.In:=by decide)(h2:op≠.NotIn:=by decide):behindInMarks op b=false:=by
 have e1:(op==CmpOp.In)=false:=by cases op<;>first | rfl | exact absurd rfl h
 have e2:(op==CmpOp.NotIn)=false:=by cases op<;>first | rfl | exact absurd rfl h2
 cases b<;>simp[behindInMarks,e1,e2]
theorem iP{op:CmpOp}{r:R2}(ho:OpR X (compareOp op) r)(ha:PE X a ta)(hb:PE X b tb)(hm:behindInMarks op b=false):PE X (.Compare a [op] [b] pos) (FV r ta tb):=by
 intro pins s σ H Q I h
 exact wpAny_Compare1 (De ha hb I h fun v u s2 x y H2 I2 rx ry q=>ho pins s2 σ H2 x y v u Q I2 rx ry q) hm
def E7(t:TE):TT:=fun σ H Q=>t σ H fun x H'=>∃k,x=.bl k/\Q k H'
theorem jD{op:CmpOp}{r:R2}(ho:OpR X (compareOp op) r)(ha:PE X a ta)(hb:PE X b tb)(hm:behindInMarks op b=false):PT X (.Compare a [op] [b] pos) (E7 (FV r ta tb)):=by
 intro pins s σ H Q I h
 refine wpAny_isTrue_Compare1 (lA (ha pins s σ H _ I h) fun v s1 ⟨x,H1,I1,r1,q1⟩=>lA (hb pins s1 σ H1 _ I1 q1) fun u s2 ⟨y,H2,I2,r2,q2⟩ =>
  lA (ho pins s2 σ H2 x y v u _ I2 r1 r2 q2) fun c s3 ⟨z,H3,I3,r3,k,e,q3⟩=>?_) hm
 subst e
 cases r3
 exact wpAny_truthy_bool ⟨H3,I3,q3⟩
theorem sy:(sizeLine:Nat)<2 ^ 63:=by rw[sizeLine_eq];decide
theorem xi:OpR X (binaryOp .Add) (fun x y H Q=>∃i j,x=.str i/\y=.str j/\i.length+j.length<=sizeLine/\Q (.str (i++j)) H):=by
 intro pins s σ H x y v u Q I rx ry h
 obtain⟨i,j,rfl,rfl,hz,q⟩:=h
 obtain⟨t,rfl⟩:=rx
 obtain⟨t',rfl⟩:=ry
 exact add_str (fun t' tk=>⟨.str (i++j),H,I.tok _,⟨_,rfl⟩,q⟩) hz
theorem vals1{x:V}{us:List Value}(r:kM [x] us):∃u,us=[u]/\RelV x u:=by
 cases r with
 | cons r1 r2=>cases r2;exact⟨_,rfl,r1⟩
end
end L2
namespace L2
open PySem PySem.Spec PyProof.Rows
structure EK (h:Heap) (x dx C:Addr) (mA:Str->Option Value):Prop where
 obj:h.get? x=some (PySem.W.instObj C dx)
 ns:h.Ns1 dx mA
 ne:dx≠x
theorem y7{h:Heap}{dx:Addr}{mA:Str->Option Value}(n:h.Ns1 dx mA):∃od,h.get? dx=some od/\∀name,PySem.W.lookIn name od=some (mA name):=by
 obtain⟨o,es,ep,ho,hd,hk,_,hm⟩:=n
 refine⟨o,ho,fun name=>?_⟩
 have e:=hm name
 unfold nsFind findBy at e
 rw[<- Array.find?_toList] at e
 unfold PySem.W.lookIn
 rw[hd]
 dsimp only
 split
 ·rename_i y q
  rw[q] at e
  exact congrArg some e
 ·rename_i q
  rw[q] at e
  have a:es.toList.any (·.refKey)=false:=by
   rw[List.any_eq_false]
   intro y hy
   obtain⟨z,t,hkey⟩:=hk y (Array.mem_toList_iff.mp hy)
   simp[DictEntry.refKey,hkey]
  have a':¬ es.toList.any (·.refKey)=true:=by rw[a];exact Bool.false_ne_true
  rw[if_neg a']
  exact congrArg some e
theorem EK.look{h:Heap}{x dx C:Addr}{mA:Str->Option Value}(I:EK h x dx C mA):∃od,PySem.W.InstAt h x (PySem.W.instObj C dx) C (some od)/\∀name,PySem.W.lookIn name od=some (mA name):=
 let ⟨od,ho,hl⟩:=y7 I.ns
 ⟨od,⟨I.obj,rfl,rfl,ho⟩,hl⟩
section
variable{prog:Program}{w:World}{A:Around}{E:Value->Shared->Prop}{s:Shared}{K:PySem.W.Frag}{x dx C f:Addr}{mA:Str->Option Value}{name:Str}{v:Value}
end
theorem rM.some_of{v:V}{o:Option Value}(r:rM (some v) o):∃u,o=some u/\RelV v u:=by
 cases o with
 | none=>exact(show False from r).elim
 | some u=>exact⟨u,rfl,r⟩
section
variable{P:Program}{w:World}{H H':Hp}{h h':Heap}{a C dx:Addr}{fs fs':List (Str×V)}
end
structure G_ (K:PySem.W.Frag) (C:Addr):Prop where
 pg:PySem.W.plainGet K C Str.empty=true
 hd:PySem.W.hasDictIn K C=true
 po:PySem.W.plainOver K C=true
 sa:PySem.W.findIn K (.ref C) "__setattr__" = some (some (.builtin "object.__setattr__"))
theorem G_.get{K:PySem.W.Frag}{C:Addr}(c:G_ K C)(f:Str):PySem.W.plainGet K C f=true:=c.pg
structure E2 (K:PySem.W.Frag) (C:Addr) (f:Str) (v:V) (u:Value):Prop where
 at_:PySem.W.findIn K (.ref C) f=some (some u)
 rel:RelV v u
 get:PySem.W.specialIn K u "__get__" = some none
 cp:PySem.W.copiedNames.contains f=false
section
variable{X:Cx}{pins:List (Addr×Obj)}{σ:St}{H:Hp}{s:Shared}{a C dx:Addr}{fs:List (Str×V)}{f:Str}{v:V}{A:Around}{E:Value->Shared->Prop}
theorem Inv.made(I:Inv X pins σ H s):Inv X pins σ (upd (upd H s.heap.objs.size (.own (s.heap.objs.size+1))) (s.heap.objs.size+1) (.ins C s.heap.objs.size []))
  {s with heap:=(s.heap.push PySem.W.emptyDict).push (PySem.W.instObj C s.heap.objs.size)}:=by
 have e1:(s.heap.push PySem.W.emptyDict).get? s.heap.objs.size=some PySem.W.emptyDict:=Heap.get?_push_size s.heap rfl
 have e2:((s.heap.push PySem.W.emptyDict).push (PySem.W.instObj C s.heap.objs.size)).get? (s.heap.objs.size+1)=some (PySem.W.instObj C s.heap.objs.size):=by
  have:=Heap.get?_push_size (s.heap.push PySem.W.emptyDict) (o:=PySem.W.instObj C s.heap.objs.size) rfl
  rwa [Heap.size_push] at this
 have e3:(s.heap.push PySem.W.emptyDict).Ns s.heap.objs.size (fun _=>none):=⟨PySem.W.emptyDict,#[],_,e1,rfl,(fun e he=>absurd he (by simp)),fun _=>rfl⟩
 have I1:=I.laid (a:=s.heap.objs.size) (o:=.own (s.heap.objs.size+1)) (h':=s.heap.push PySem.W.emptyDict) (t':=s.toks) (fun b u q=>Heap.get?_push_of_some _ q) (Nat.le_refl _) ⟨_,e1⟩
 refine I1.laid (a:=s.heap.objs.size+1) (o:=.ins C s.heap.objs.size []) (t':=s.toks) (fun b u q=>Heap.get?_push_of_some _ q) (Nat.le_of_eq (Heap.size_push _ _)) ?_
 have ne:s.heap.objs.size≠s.heap.objs.size+1:=Nat.ne_of_lt (Nat.lt_succ_self _)
 refine⟨by rw[aj ne,ai],Nat.zero_le _,ne,e2,fun _=>none,(Heap.Ns1.of_empty e3).at fun o q=>Heap.get?_push_of_some _ q,fun _=>True.intro,fun y hy=>absurd rfl hy⟩
end
section
variable{X:Cx}{o e value:Expr}{f:Str}{pos pos' tpos:Pos}{ta tv:TE}
end
section
variable{X:Cx}{pins:List (Addr×Obj)}{σ:St}{H:Hp}{s:Shared}{A:Around}{E:Value->Shared->Prop}{Q:Value->Shared->Prop}{c:Value}{b:Bool}
end
end L2
namespace L2
open PySem PySem.Spec PyProof.Rows
structure lb (k:Nat) (A:Around):Prop where
 hd:A.handled=none
 dp:A.depth+3*k+5<recursionLimit
 un:A.units+16*k+200<cLine
 gd:A.guards=some []
theorem lb.mono{j k:Nat}{A:Around}(r:lb k A)(h:j<=k):lb j A:=⟨r.hd,by have:=r.dp;omega,by have:=r.un;omega,r.gd⟩
theorem lb.deeper{k:Nat}{A:Around}(r:lb (k+1) A)(env:Env):lb k (A.deeper env):=
 ⟨r.hd,by have:=r.dp;show A.depth+1+3*k+5<_;omega,by have:=r.un;show A.units+3+16*k+200<_;omega,r.gd⟩
theorem lb.in1{k:Nat}{A:Around}(r:lb (k+1) A):lb k A.in1:=
 ⟨r.hd,by have:=r.dp;show A.depth+3*k+5<_;omega,by have:=r.un;show A.units+1+16*k+200<_;omega,r.gd⟩
theorem wZ{A:Around}{C:Addr}{us:List Value}{kw:List (Str×Value)}:(A.under (.builtin "type.__call__" ⟨.ref C::us,kw⟩)).depth=A.depth+1:=by
 first | rfl | simp[Around.under,Code.weight,Code.isCreation,Code.isGuard,Code.isCaller,Code.frames,Code.isFrame,guardIds]
theorem xm{A:Around}{C:Addr}{us:List Value}{kw:List (Str×Value)}:(A.under (.builtin "type.__call__" ⟨.ref C::us,kw⟩)).units=A.units+1:=by
 first | rfl | simp[Around.under,Code.cUnits,Code.frames,Code.isFrame]
theorem lb.make{k:Nat}{A:Around}(r:lb (k+1) A)(C:Addr)(us:List Value)(kw:List (Str×Value)):lb k (A.under (.builtin "type.__call__" ⟨.ref C::us,kw⟩)):=
 ⟨r.hd,by have:=r.dp;rw[wZ];omega,by have:=r.un;rw[xm];omega,by show pushGuards (Code.guards (.builtin "type.__call__" ⟨.ref C::us,kw⟩)) A.guards=_;rw[r.gd];first | rfl | simp[Code.guards,Code.isGuard,guardIds,pushGuards]⟩
theorem lb.depth{k:Nat}{A:Around}(r:lb k A):A.depth<recursionLimit:=by have:=r.dp;omega
theorem lb.units{k:Nat}{A:Around}(r:lb k A):A.units+64<cLine:=by have:=r.un;omega
def Gh:TA:=fun _ H Q=>Q [] H
def EV(ta:TE)(tr:TA):TA:=fun σ H Q=>ta σ H fun x H1=>tr σ H1 fun xs H2=>Q (x::xs) H2
section
variable{X:Cx}{e:Expr}{es:List Expr}{te:TE}{t:TA}{pos:Pos}
theorem xo:PA X [] Gh:=fun _ _ _ _ H Q I h=>Calls.spliced_nil ⟨[],H,I,.nil,h⟩
theorem ce(ha:PE X e te)(hr:PA X es t)(hs:starEach (e::es) X.env=(false,eval e X.env)::starEach es X.env:=by rfl):PA X (e::es) (EV te t):=by
 intro pos pins s σ H Q I h
 rw[hs]
 show wpAny _ _ (spliced ((false,eval e X.env)::backTo pos (starEach es X.env))) _ _ s
 refine Calls.spliced_cons (lA (ha pins s σ H _ I h) fun u s1 ⟨x,H1,I1,r1,q1⟩=>?_)
 exact lA (hr pos pins s1 σ H1 _ I1 q1) fun us s2 ⟨xs,H2,I2,r2,q2⟩=>⟨x::xs,H2,I2,.cons r1 r2,q2⟩
def GP(t:TA):TE:=fun σ H Q=>t σ H fun xs H1=>xs.length<=sizeLine/\∀p,H1 p=none->Q (.ref p) (upd H1 p (.tup xs))
def Gq(t:TA):TE:=fun σ H Q=>t σ H fun xs H1=>xs.length<=sizeLine/\∀p,H1 p=none->Q (.ref p) (upd H1 p (.lst xs))
theorem jN{x1}(h:PA X es t):PE X (.Tuple es x1 pos) (GP t):=by
 intro pins s σ H Q I hq
 refine wpAny_Tuple_spliced (lA (h pos pins s σ H _ I hq) fun us s1 ⟨xs,H1,I1,r,z,q⟩=>⟨by rw[<- r.length];exact z,?_⟩)
 have hf:H1 s1.heap.objs.size=none:=I1.hok.fresh (Nat.le_refl _)
 refine⟨.ref s1.heap.objs.size,upd H1 s1.heap.objs.size (.tup xs),I1.laid (t':=s1.toks) (fun b u e=>Heap.get?_push_of_some _ e) (Nat.le_refl _) ?_,rfl,q _ hf⟩
 exact⟨z,us,r,⟨_,Heap.get?_push_size _ rfl,rfl,⟨_,rfl⟩,rfl⟩⟩
theorem dF(h:PA X es t):PE X (.List es pos) (Gq t):=by
 intro pins s σ H Q I hq
 refine wpAny_List_spliced (lA (h pos pins s σ H _ I hq) fun us s1 ⟨xs,H1,I1,r,z,q⟩=>⟨by rw[<- r.length];exact z,?_⟩)
 have hf:H1 s1.heap.objs.size=none:=I1.hok.fresh (Nat.le_refl _)
 refine⟨.ref s1.heap.objs.size,upd H1 s1.heap.objs.size (.lst xs),I1.laid (t':=s1.toks) (fun b u e=>Heap.get?_push_of_some _ e) (Nat.le_refl _) ?_,rfl,q _ hf⟩
 exact⟨z,us,0,r,Heap.get?_push_size _ rfl⟩
end
abbrev Sp:=List V->Hp->VK->XK->Prop
abbrev wc:=List Env->Hp->Shared->XK->Value->Shared->Prop
structure qJ (P:Program) (w:World) (K:PySem.W.Frag) (mg:Str->Option Value) (base:Heap) (A:Around) (outer:List Env) (s:Shared) (H:Hp):Prop where
 frames:A.frames=some outer
 mod:Mod K mg base
 bs:∀b o,base.get? b=some o->s.heap.get? b=some o/\H b=none
 bsz:base.objs.size<=s.heap.objs.size
 funs:s.heap.FunFrames base outer
 frf:∀b∈x5 outer,H b=none
 hok:pL P w H s.heap
 bare:AllBare s.gens
def CE(outer:List Env)(P:Program)(w:World)(H:Hp)(s:Shared)(Q:VK)(u:Value)(s':Shared):Prop:=
 ∃v H',s'.os=s.os/\AllBare s'.gens/\Un (x5 outer) [] H H' s.heap s'.heap/\pL P w H' s'.heap/\RelV v u/\Q v H'
def CR(CX:wc)(outer:List Env)(P:Program)(w:World)(H:Hp)(s:Shared)(Q:VK)(E:XK)(r:Result)(s':Shared):Prop:=
 match r with
 | .ok (.ret u)=>CE outer P w H s Q u s'
 | .ok _=>False
 | .error e=>CX outer H s E e s'
structure kT (P:Program) (w:World) (K:PySem.W.Frag) (mg:Str->Option Value) (base:Heap) (CX:wc) (k:Nat) (f:Addr) (fd:FuncData) (ps:List Str) (sp:Sp):Prop where
 len:∀vs H Q E,sp vs H Q E->vs.length=ps.length
 run:∀(A:Around) (outer:List Env) (s:Shared) (H:Hp) (args:Args) (us:List Value) (vs:List V) (Q:VK) (E:XK),lb k A->qJ P w K mg base A outer s H->BindsTo s fd args (ps.zip us)->kM vs us->sp vs H Q E ->
  codeAny (model P w) A (.call (.ref f) args) (CR CX outer P w H s Q E) s
theorem kT.mono{P:Program}{w:World}{K:PySem.W.Frag}{mg:Str->Option Value}{base:Heap}{CX:wc}{j k:Nat}{f:Addr}{fd:FuncData}{ps:List Str}{sp:Sp}(F:kT P w K mg base CX j f fd ps sp)(h:j<=k) :
  kT P w K mg base CX k f fd ps sp:=⟨F.len,fun A outer s H args us vs Q E hr=>F.run A outer s H args us vs Q E (hr.mono h)⟩
theorem kT.imp{P:Program}{w:World}{K:PySem.W.Frag}{mg:Str->Option Value}{base:Heap}{CX:wc}{k:Nat}{f:Addr}{fd:FuncData}{ps:List Str}{sp sp':Sp}(F:kT P w K mg base CX k f fd ps sp)
  (h:∀vs H Q E,sp' vs H Q E->sp vs H Q E):kT P w K mg base CX k f fd ps sp':=
 ⟨fun vs H Q E q=>F.len vs H Q E (h _ _ _ _ q),fun A outer s H args us vs Q E hr he hb hv hs=>F.run A outer s H args us vs Q E hr he hb hv (h _ _ _ _ hs)⟩
theorem qJ.make{P:Program}{w:World}{K:PySem.W.Frag}{mg:Str->Option Value}{base:Heap}{A:Around}{outer:List Env}{s:Shared}{H:Hp}(e:qJ P w K mg base A outer s H)(C:Addr)(us:List Value)(kw:List (Str×Value)) :
  qJ P w K mg base (A.under (.builtin "type.__call__" ⟨.ref C::us,kw⟩)) outer s H:=⟨by first | exact e.frames | (simpa [Around.under,Code.envs,Code.isFrame,pushEnvs] using e.frames),e.mod,e.bs,e.bsz,e.funs,e.frf,e.hok,e.bare⟩
theorem qJ.in1{P:Program}{w:World}{K:PySem.W.Frag}{mg:Str->Option Value}{base:Heap}{A:Around}{outer:List Env}{s:Shared}{H:Hp}(e:qJ P w K mg base A outer s H) :
  qJ P w K mg base A.in1 outer s H:=⟨e.frames,e.mod,e.bs,e.bsz,e.funs,e.frf,e.hok,e.bare⟩
section
variable{X:Cx}{pins:List (Addr×Obj)}{σ:St}{H:Hp}{s s':Shared}
theorem Inv.env0(I:Inv X pins σ H s):qJ X.prog X.w X.K X.mg X.base X.A X.stack s H:=
 ⟨I.ok.frames,I.ok.mod,I.bs,Nat.le_trans I.ok.bsz I.sz,I.stack,I.stkFree,I.hok,I.bare⟩
theorem Inv.after{Q:VK}{u:Value}(I:Inv X pins σ H s)(h:CE X.stack X.prog X.w H s Q u s'):EP X pins σ Q u s':=by
 obtain⟨v,H',os,bare,un,hok,r,q⟩:=h
 obtain⟨hh,g,d,t,os'⟩:=s'
 obtain rfl:os'=s.os:=os
 exact⟨v,H',I.call (h':=hh) (g':=g) (d':=d) (t':=t) (ch:=[]) un hok bare (fun b z=>absurd z (by simp)),r,q⟩
end
def Fv(sp:Sp)(dvs:List V)(E:XK)(t:TA):TE:=fun σ H Q=>t σ H fun vs H1=>sp (vs++dvs) H1 Q E
def Binds(K:PySem.W.Frag)(fd:FuncData)(ps:List Str)(ds:List Value):Prop:=
 ∀(s:Shared) (us:List Value),K.In s.heap->(us++ds).length=ps.length->BindsTo s fd ⟨us,[]⟩ (ps.zip (us++ds))
theorem Binds.all{K:PySem.W.Frag}{fd:FuncData}{ps:List Str}(h:∀us:List Value,us.length=ps.length->bindArgs fd ⟨us,[]⟩=pure (ps.zip us)):Binds K fd ps []:=fun s us _ hl=>by
 rw[List.append_nil] at hl ⊢
 exact .of_eq (h us hl)
def xa(CX:wc)(X:Cx)(E:XK):Prop:=∀(pins:List (Addr×Obj)) (σ:St) (H:Hp) (s:Shared) (e:Value) (s':Shared),Inv X pins σ H s->CX X.stack H s E e s'->X.xe e s'
section
variable{X:Cx}{CX:wc}{k:Nat}{f C:Addr}{fd:FuncData}{ps:List Str}{sp:Sp}{dvs:List V}{ds:List Value}{E:XK}{x m:Str}{p pos apos:Pos}{e o:Expr}{es:List Expr}{ta:TE}{t:TA}
theorem AM{pins:List (Addr×Obj)}{σ:St}{H:Hp}{s:Shared}{Q:VK}{us:List Value}{vs:List V}(F:kT X.prog X.w X.K X.mg X.base CX k f fd ps sp)(hr:lb k X.A)(hb:Binds X.K fd ps ds)(hd:kM dvs ds)(hx:xa CX X E)
  (I:Inv X pins σ H s) (r:kM vs us) (h:sp (vs++dvs) H Q E):wpAny (model X.prog X.w) X.A (call (.ref f) us) (EP X pins σ Q) X.xe s:=by
 have r2:kM (vs++dvs) (us++ds):=r.append hd
 have hl:(us++ds).length=ps.length:=by rw[<- r2.length];exact F.len _ _ _ _ h
 refine wpAny_call (codeAny_mono (F.run X.A X.stack s H ⟨us,[]⟩ (us++ds) (vs++dvs) Q E hr I.env0 (hb s us I.kIn hl) r2 h) fun r s' hq=>?_)
 cases r with
 | error e=>exact hx pins σ H s e s' I hq
 | ok fl =>
  cases fl with
  | ret u=>exact I.after hq
  | next=>exact False.elim hq
  | brk=>exact False.elim hq
  | cont=>exact False.elim hq
theorem dg(F:kT X.prog X.w X.K X.mg X.base CX k f fd ps sp)(hr:lb k X.A)(hg:Gl X x)(hm:X.mg x=some (.ref f))(hk:PySem.W.keepIn X.K (.ref f)=true)(hb:Binds X.K fd ps ds)(hd:kM dvs ds)(hx:xa CX X E)
  (ha:PA X (e::es) t) (hdb:(x==("__debug__" : Str))=false:=by decide) (he:starEach (e::es) X.env=(false,eval e X.env)::starEach es X.env:=by rfl) (hpl:(backTo pos (starEach es X.env)).any (·.1)=false:=by rfl) :
  PE X (.Call (.Name x p) (e::es) [] pos) (Fv sp dvs E t):=by
 intro pins s σ H Q I h
 refine wpAny_Call_Name_kw (eN I hg hm ?_ hdb)
 refine PySem.W.callWith_K (h₀:=X.base) I.ok.mod.kin hk (lA (ha pos pins s σ H _ I h) fun us s1 ⟨vs,H1,I1,r,q⟩=>⟨I1.kIn,?_⟩) he hpl
 exact AM F hr hb hd hx I1 r q
end
def PK(X:Cx)(kws:List Keyword)(t:TA):Prop:=
 ∀(pos:Pos) (pins:List (Addr×Obj)) (s:Shared) (σ:St) (H:Hp) (Q:List V->Hp->Prop),Inv X pins σ H s->t σ H Q->wpAny (model X.prog X.w) X.A (evalAll ((backToKw pos (keywordEach kws X.env)).map (·.2))) (AP X pins σ Q) X.xe s
section
variable{X:Cx}{CX:wc}{k:Nat}{f C:Addr}{fd:FuncData}{ps ks:List Str}{sp:Sp}{E:XK}{x m:Str}{p pos apos kpos:Pos}{e o:Expr}{es:List Expr}{kws:List Keyword}{te ta:TE}{t tk:TA}{nm:Option Str}
variable{g:List Value->List Value->List Value}{gV:List V->List V->List V}
end
structure kL (N P:List Str) (sc:Scope):Prop where
 kind:sc.kind=.function
 co:sc.isCoroutine=false
 gen:sc.isGenerator=false
 nd:N.Nodup
 pre:N.take P.length=P
 par:∀x∈P,sc.names.lookup x=some .local\/sc.names.lookup x=some .cell
 nofree:∀y∈sc.names,y.2≠.free
theorem r_{N P:List Str}{sc:Scope}(h1:N.Nodup:=by decide +kernel)(h2:∀x∈P,sc.names.lookup x=some .local\/sc.names.lookup x=some .cell:=by decide +kernel)(h3:∀y∈sc.names,y.2≠.free:=by decide +kernel)(k:sc.kind=.function:=by rfl)(c:sc.isCoroutine=false:=by rfl)(g:sc.isGenerator=false:=by rfl)(p:N.take P.length=P:=by rfl):kL N P sc:=⟨k,c,g,h1,p,h2,h3⟩
theorem uq{kindOf:Str->Option NameKind}{x:Str}:∀{binds:List (Str×Value)} {m:Str->Option Value},(∀v,(x,v)∉binds)->bindL kindOf binds m x=m x
 | [],_,_=>rfl
 | (n,v)::r,m,h=>by
  unfold bindL
  rw[uq fun w hw=>h w (List.mem_cons_of_mem _ hw)]
  split
  ·have:x≠n:=by rintro rfl;exact h v List.mem_cons_self
   simp[this]
  ·rfl
theorem uN{kindOf:Str->Option NameKind}{x:Str}:∀{binds:List (Str×Value)} {m:Str->Option Value},(∀v,(x,v)∉binds)->bindC kindOf binds m x=m x
 | [],_,_=>rfl
 | (n,v)::r,m,h=>by
  unfold bindC
  rw[uN fun w hw=>h w (List.mem_cons_of_mem _ hw)]
  split
  ·rfl
  ·have:x≠n:=by rintro rfl;exact h v List.mem_cons_self
   simp[this]
theorem uu{kindOf:Str->Option NameKind}{x:Str}{v:Value}:∀{P:List Str} {vs:List Value} {i:Nat} {m:Str->Option Value},P.Nodup->P[i]?=some x->vs[i]?=some v->kindOf x=some .local ->
  bindL kindOf (P.zip vs) m x=some v
 | [],_,_,_,_,h,_,_=>by simp at h
 | _::_,[],_,_,_,_,h,_=>by simp at h
 | p::P,w::vs,0,m,nd,h1,h2,hk=>by
  simp at h1 h2;subst h1;subst h2
  show bindL kindOf ((p,w)::P.zip vs) m p=_
  unfold bindL
  rw[uq fun v hv=>(List.nodup_cons.mp nd).1 (List.of_mem_zip hv).1,if_pos hk]
  simp
 | p::P,w::vs,i+1,m,nd,h1,h2,hk=>by
  show bindL kindOf ((p,w)::P.zip vs) m x=_
  unfold bindL
  exact uu (i:=i) (List.nodup_cons.mp nd).2 (by simpa using h1) (by simpa using h2) hk
theorem ur{kindOf:Str->Option NameKind}{x:Str}{v:Value}:∀{P:List Str} {vs:List Value} {i:Nat} {m:Str->Option Value},P.Nodup->P[i]?=some x->vs[i]?=some v->kindOf x≠some .local ->
  bindC kindOf (P.zip vs) m x=some v
 | [],_,_,_,_,h,_,_=>by simp at h
 | _::_,[],_,_,_,_,h,_=>by simp at h
 | p::P,w::vs,0,m,nd,h1,h2,hk=>by
  simp at h1 h2;subst h1;subst h2
  show bindC kindOf ((p,w)::P.zip vs) m p=_
  unfold bindC
  rw[uN fun v hv=>(List.nodup_cons.mp nd).1 (List.of_mem_zip hv).1,if_neg hk]
  simp
 | p::P,w::vs,i+1,m,nd,h1,h2,hk=>by
  show bindC kindOf ((p,w)::P.zip vs) m x=_
  unfold bindC
  exact ur (i:=i) (List.nodup_cons.mp nd).2 (by simpa using h1) (by simpa using h2) hk
def start(N:List Str)(vs:List V):St:=vs.map some++List.replicate (N.length - vs.length) none
def pK(CX:wc)(P:Program)(w:World)(K:PySem.W.Frag)(mg:Str->Option Value)(base:Heap)(N:List Str)(qual:Str)(scope:Scope)(f:Addr)(cd:Value)(A:Around)(outer:List Env)(s:Shared)(H:Hp)(E:XK):Cx where
 prog:=P
 w:=w
 K:=K
 mg:=mg
 base:=base
 A:=A.deeper (envOfC qual scope s.heap.objs.size f cd)
 N:=N
 s₀:=s
 H₀:=H
 env:=envOfC qual scope s.heap.objs.size f cd
 outer:=outer
 stack:=envOfC qual scope s.heap.objs.size f cd::outer
 ex:=[]
 calm:=true
 fn:=fun _=>true
 pn:=[]
 xe:=fun e s'=>wpAny (model P w) (A.deeper (envOfC qual scope s.heap.objs.size f cd)) (leaving (envOfC qual scope s.heap.objs.size f cd) e) (fun _ s''=>CX outer H s E e s'') (fun e' s''=>CX outer H s E e' s'') s'
theorem wB{sc:Scope}{n:Nat}{x:Str}(h:sc.names.lookup x=some .cell):∃c,(cellsFrom n sc.names []).lookup x=some c:=by
 have q:=PySem.W.cellsFrom_some sc.names n [] (.inl h)
 exact Option.isSome_iff_exists.mp q
theorem y3{CX:wc}{P:Program}{w:World}{K:PySem.W.Frag}{mg:Str->Option Value}{base:Heap}{N ps:List Str}{qual:Str}{scope:Scope}{f:Addr}{cd:Value}{A:Around}{outer:List Env}{s s1:Shared}{H:Hp}{E:XK}{us:List Value}{vs:List V}
  (S:kL N ps scope) (hd:A.handled=none) (e0:qJ P w K mg base A outer s H) (hl:vs.length=ps.length) (r:kM vs us)
  (x:InCallC s s.heap.objs.size (bindL (envOfC qual scope s.heap.objs.size f cd).kindOf (ps.zip us) fun _=>none) (cellsFrom (s.heap.objs.size+1) scope.names []) (bindC (envOfC qual scope s.heap.objs.size f cd).kindOf (ps.zip us) fun _=>none) s1) :
  Inv (pK CX P w K mg base N qual scope f cd A outer s H E) [] (start N vs) H s1:=by
 have hpl:ps.length<=N.length:=by have:=congrArg List.length S.pre;rw[List.length_take] at this;omega
 obtain⟨h1,tk,rfl,hk⟩:=x.done
 have noA:∀b:Addr,b∉(pK CX P w K mg base N qual scope f cd A outer s H E).ex:=fun b z=>absurd (show b∈([]:List Addr) from z) (by simp)
 refine⟨⟨e0.mod,S.kind,rfl,rfl,Nat.le_refl _,fun y z c h1 h2=>?_,fun y hy=>?_,fun y c _ h=>?_,fun _=>hd,Around.frames_deeper e0.frames,.inr ⟨rfl,rfl⟩,fun b z=>absurd z (noA b),e0.bs,e0.bsz,fun b _ _=>noA b,fun b z=>absurd z (noA b),e0.funs,e0.frf⟩,
  rfl,e0.bare,Un.kept hk,⟨_,x.toInCall.ns,fun i y v h1 h2 h3=>?_⟩,fun y c h=>⟨_,x.cell y c h⟩,e0.hok.fresh (Nat.le_refl _),fun y c h=>?_,fun p hp=>absurd (show p∈([]:List (Addr×Obj)) from hp) (by simp),e0.hok.kept hk,?_⟩
 ·exact name_of_addr x.apart (PySem.mem_of_lookup h1) (PySem.mem_of_lookup h2)
 ·have hy:scope.names.lookup y=some .cell\/scope.names.lookup y=some .free:=hy
  rcases hy with hy | hy
  ·exact wB hy
  ·exact absurd rfl (S.nofree _ (PySem.mem_of_lookup hy))
 ·exact Nat.le_of_lt (x.above y c (PySem.mem_of_lookup h))
 ·have hi:i<vs.length:=by
   unfold start at h2
   by_cases hi:i<vs.length
   ·exact hi
   ·rw[List.getElem?_append_right (by simpa using hi)] at h2
    rw[List.getElem?_replicate] at h2
    split at h2<;>cases h2
  have ha:vs[i]?=some v:=by
   unfold start at h2
   rw[List.getElem?_append_left (by simpa using hi),List.getElem?_map] at h2
   cases e:vs[i]? with
   | none=>rw[e] at h2;cases h2
   | some a=>rw[e] at h2;cases h2;rfl
  obtain⟨u,hu,rv⟩:=r.get ha
  have hp:ps[i]?=some y:=by
   rw[<- S.pre,List.getElem?_take_of_lt (by omega)];exact h1
  have ndP:ps.Nodup:=by rw[<- S.pre];exact S.nd.sublist (List.take_sublist _ _)
  refine⟨u,rv,?_⟩
  rcases S.par y (List.mem_of_getElem? hp) with k | k
  ·exact .inl ⟨k,uu ndP hp hu k⟩
  ·obtain⟨c,e⟩:=wB (n:=s.heap.objs.size+1) k
   refine .inr ⟨.inl k,c,e,?_⟩
   have q:=x.cell y c e
   rw[ur ndP hp hu (by show scope.names.lookup y≠_;rw[k];decide)] at q
   exact q
 ·exact e0.hok.fresh (Nat.le_of_lt (x.above y c (PySem.mem_of_lookup h)))
 ·unfold start
  show _=N.length
  rw[List.length_append,List.length_map,List.length_replicate]
  omega
theorem ir {CX:wc} {P:Program} {w:World} {K:PySem.W.Frag} {mg:Str->Option Value} {base:Heap} {k:Nat} {f:Addr} {name qual:Str} {params:Arguments} {body:List Stmt} {scope:Scope} {dV kV doc pm cdv ct oc:Value} {an od:Option Addr}
    {osl:Array (Option Value)} {N ps:List Str} {sp:Sp} (lk:K.lookup f=some ⟨oc,od,.func (PySem.W.fnOf name qual params body scope dV kV doc pm an cdv ct),osl⟩) (hcd:PySem.W.codeIn K cdv qual=true) (S:kL N ps scope)
    (len:∀vs H Q E,sp vs H Q E->vs.length=ps.length)
    (hbody:∀(A:Around) (outer:List Env) (s:Shared) (H:Hp) (vs:List V) (Q:VK) (E:XK),lb k (A.deeper (envOfC qual scope s.heap.objs.size f cdv))->sp vs H Q E ->
      ∃t,PSs (pK CX P w K mg base N qual scope f cdv A outer s H E) body t/\t {nx:=fun _ H'=>Q .non H',rt:=Q} (start N vs) H) :
    kT P w K mg base CX (k+1) f (PySem.W.fnOf name qual params body scope dV kV doc pm an cdv ct) ps sp:=by
  refine⟨len,fun A outer s H args us vs Q E hr e0 hb r hsp=>?_⟩
  have hl:=len _ _ _ _ hsp
  have KX:K.In s.heap:=e0.mod.kin.keeps fun b o e=>(e0.bs b o e).1
  have lim:s.heap.NoLimit:=e0.mod.nolimit.keeps fun b o e=>(e0.bs b o e).1
  have hkind:∀y∈ps.zip us,scope.names.lookup y.1=some .local\/(scope.names.lookup y.1=some .cell/\((cellsFrom (s.heap.objs.size+1) scope.names []).lookup y.1).isSome=true):=fun ⟨n,v⟩ hy=>by
    rcases S.par n (List.of_mem_zip hy).1 with q | q
    · exact .inl q
    · exact .inr ⟨q,PySem.W.cellsFrom_some _ _ _ (.inl q)⟩
  refine codeAny_call_function hr.depth (KX _ _ lk) rfl S.co S.gen rfl (PySem.W.codeRec_of KX hcd) (hb _ _ _ _ ?_)
  refine wpAny_newFunctionEnv_cells S.kind hkind fun env he s1 x=>?_
  subst he
  refine⟨lim.keeps x.toInCall.keep,codeAny_func ?_⟩
  obtain⟨t,ht,hq⟩:=hbody A outer s H vs Q E (hr.deeper _) hsp
  have I:Inv (pK CX P w K mg base N qual scope f cdv A outer s H E) [] (start N vs) H s1:=y3 S hr.hd e0 hl r x
  refine wpAny_mono (ht [] s1 (start N vs) H _ I hq) (fun fl s' hs=>?_) fun e s' hs=>hs
  have fin:∀{σ':St} {H':Hp} {v:V} {u:Value},Inv (pK CX P w K mg base N qual scope f cdv A outer s H E) [] σ' H' s'->RelV v u->Q v H'->CE outer P w H s Q u s':=
    fun {σ' H' v u} J rv q=>⟨v,H',J.os,J.bare,J.base,J.hok,rv,q⟩
  cases fl with
  | ret u =>
    obtain⟨v,σ',H',J,rv,q⟩:=hs
    exact fin J rv q
  | next =>
    obtain⟨σ',H',J,q⟩:=hs
    exact fin (v:=V.non) (u:=Value.none) J rfl q
  | brk =>
    obtain⟨_,_,_,q⟩:=hs
    exact False.elim q
  | cont =>
    obtain⟨_,_,_,q⟩:=hs
    exact False.elim q
end L2
namespace L2
open PySem PySem.Spec PyProof.Rows
section
variable{X:Cx}{x:Str}{p pos:Pos}{e:Expr}{es:List Expr}{t:TA}{id T:String}{r:List V->Hp->VK->Prop}
def Hb(r:List V->Hp->VK->Prop)(t:TA):TE:=fun σ H Q=>t σ H fun vs H1=>r vs H1 Q
theorem gF(hc:CallR X (.builtin id) r)(hg:Gl X x)(hm:X.mg x=none)(hv:bootBuiltins x=some (.builtin id))(ha:PA X (e::es) t)(hn:x ≠ "__name__":=by decide)(hdb:(x==("__debug__" : Str))=false:=by decide)
  (he:starEach (e::es) X.env=(false,eval e X.env)::starEach es X.env:=by rfl) (hpl:(backTo pos (starEach es X.env)).any (·.1)=false:=by rfl):PE X (.Call (.Name x p) (e::es) [] pos) (Hb r t):=by
 intro pins s σ H Q I h
 refine wpAny_Call_Name_kw (bB I hg hm hv ?_ hn hdb)
 exact PyProof.Rows.callWith_builtin1 (lA (ha pos pins s σ H _ I h) fun us s1 ⟨vs,H1,I1,r1,q1⟩=>hc pins s1 σ H1 vs us Q I1 r1 q1) he hpl
theorem gs(hc:CallR X (.type T) r)(hg:Gl X x)(hm:X.mg x=none)(hv:bootBuiltins x=some (.type T))(ha:PA X (e::es) t)(hn:x ≠ "__name__":=by decide)(hdb:(x==("__debug__" : Str))=false:=by decide)
  (he:starEach (e::es) X.env=(false,eval e X.env)::starEach es X.env:=by rfl) (hpl:(backTo pos (starEach es X.env)).any (·.1)=false:=by rfl):PE X (.Call (.Name x p) (e::es) [] pos) (Hb r t):=by
 intro pins s σ H Q I h
 refine wpAny_Call_Name_kw (bB I hg hm hv ?_ hn hdb)
 exact PyProof.Rows.callWith_type1 (lA (ha pos pins s σ H _ I h) fun us s1 ⟨vs,H1,I1,r1,q1⟩=>hc pins s1 σ H1 vs us Q I1 r1 q1) he hpl
end
end L2
namespace HT
open PySem PyProof.Rows
section
open PySem.SeqAt
open PySem.AutoSeq1 (wpAny_loadPart')
open PySem.MeetsSeq PySem.MeetsSeq2 PySem.MeetsSeq3
end
section
variable{prog:Program}{w:World}{A:Around}{E:Value->Shared->Prop}{s:Shared}
theorem cat_tup{t b:Addr}{vs ws:List Value}{Q:Value->Shared->Prop}(ht:IsTup s.heap t vs.toArray)(hb:IsTup s.heap b ws.toArray)(hv:vs ≠ [])
  (h1:ws=[]->Q (.ref t) s) (h2:ws ≠ []->Q (.ref s.heap.objs.size) {s with heap:=s.heap.push {cls:=.type "tuple",data:=.seq (vs++ws).toArray} })
  (hsz:vs.length+ws.length<=sizeLine):wpAny (model prog w) A (binaryOp .Add (.ref t) (.ref b)) Q E s:=by
 obtain⟨⟨cls,dd,data,sl⟩,ho,hc,n,hd⟩:=id ht
 obtain⟨⟨cls2,dd2,data2,C9⟩,ho2,hc2,n2,hd2⟩:=id hb
 simp only at hc hd hc2 hd2
 subst hc hd hc2 hd2
 have e:vs.toArray++ws.toArray=(vs++ws).toArray:=by simp
 by_cases hw:ws=[]
 ·exact concat_meets ⟨_,ho,rfl⟩ ⟨_,ho2,rfl⟩ noFill_tuple_add seq_tuple_add PySem.F.slot_tuple_add PySem.F.entry_tuple_add (PySem.F.args_tuple_add_2 _ _)
   (tuple_addW1 t b vs.toArray ws.toArray n n2 dd dd2 sl C9 (by simpa using hv) (by simp[hw])) ⟨ho,ho2,h1 hw⟩
 ·refine concat_meets ⟨_,ho,rfl⟩ ⟨_,ho2,rfl⟩ noFill_tuple_add seq_tuple_add PySem.F.slot_tuple_add PySem.F.entry_tuple_add (PySem.F.args_tuple_add_2 _ _)
   (tuple_addW2 t b vs.toArray ws.toArray n n2 dd dd2 sl C9 (by simpa using hv) (by simpa using hw) (by rw[List.size_toArray,List.size_toArray];exact hsz)) ⟨ho,ho2,?_⟩
  rw[e]
  exact h2 hw
def sIx(n d:Nat):Option Int->Nat
 | none=>d
 | some v=>if v<0 then (v+(n:Int)).toNat else min v.toNat n
theorem C4(n d:Nat)(hd:d<=n)(o:Option Int):sIx n d o<=n:=by
 cases o with
 | none=>exact hd
 | some v =>
  show(if v<0 then (v+(n:Int)).toNat else min v.toNat n)<=n
  by_cases hv:v<0
  ·rw[if_pos hv];omega
  ·rw[if_neg hv];exact Nat.min_le_right _ _
theorem yj(v:Int)(n d:Nat):(if v<0 then max (v+(n:Int)) 0 else min v (n:Int))=((sIx n d (some v):Nat):Int):=by
 show(if v<0 then max (v+(n:Int)) 0 else min v (n:Int))=(((if v<0 then (v+(n:Int)).toNat else min v.toNat n):Nat):Int)
 by_cases hv:v<0
 ·simp only[if_pos hv];omega
 ·simp only[if_neg hv];omega
theorem xk(lo hi:Option Int)(n:Nat):Builtin.Slice.sliceAdjust lo hi 1 (n:Int)=(((sIx n 0 lo:Nat):Int),((sIx n n hi:Nat):Int)):=by
 have h1:¬ ((1:Int)<0):=by omega
 unfold Builtin.Slice.sliceAdjust
 simp only[h1,if_false]
 refine Prod.ext ?_ ?_
 ·cases lo with
  | none=>rfl
  | some v=>exact yj v n 0
 ·cases hi with
  | none=>rfl
  | some v=>exact yj v n n
theorem wY(i j:Nat):Builtin.Slice.slicePlaces (i:Int) (j:Int) 1=j - i:=by
 unfold Builtin.Slice.slicePlaces
 have h1:(1:Int) > 0:=by omega
 simp only[h1,if_true,Int.ediv_one]
 split<;>omega
theorem sW{v:Value}{o:Option Int}{Q:Option Int->Shared->Prop}(p:IsPart v o)(h:Q o s):wpAny (model prog w) A (Builtin.Slice.slicePartIndex v) Q E s:=by
 cases p with
 | none=>exact slicePart_none h
 | int i t=>exact slicePart_int h
theorem sliceApplied_gen{sl:Addr}{vl vu:Value}{lo hi:Option Int}{n:Nat}{Q:Int×Int×Nat->Shared->Prop}(hs:s.heap.IsSliceOf sl vl vu .none)(pl:IsPart vl lo)(pu:IsPart vu hi)
  (h:Q (((sIx n 0 lo:Nat):Int),1,sIx n n hi - sIx n 0 lo) s):wpAny (model prog w) A (Builtin.Slice.sliceApplied (.ref sl) (pure (n:Int))) Q E s:=by
 obtain⟨os,hos,hcs,hds⟩:=id hs
 unfold Builtin.Slice.sliceApplied Builtin.Slice.sliceFields
 refine wpAny_bind (wpAny_bind (wpAny_field hos hds (x:=vl) rfl (wpAny_bind (wpAny_field hos hds (x:=vu) rfl (wpAny_bind (wpAny_field hos hds (x:=.none) rfl (wpAny_pure ?_)))))))
 refine wpAny_bind (slicePart_none ?_)
 show wpAny _ _ (if ((1:Int)==0)=true then _ else _) _ _ s
 rw[if_neg (by decide)]
 refine wpAny_bind (sW pl (wpAny_bind (sW pu (wpAny_bind (wpAny_pure ?_)))))
 show wpAny _ _ (match Builtin.Slice.sliceAdjust lo hi 1 (n:Int) with | (lo,hi)=>pure (lo,(1:Int),Builtin.Slice.slicePlaces lo hi 1)) _ _ s
 rw[xk lo hi n]
 show wpAny _ _ (pure (((sIx n 0 lo:Nat):Int),(1:Int),Builtin.Slice.slicePlaces ((sIx n 0 lo:Nat):Int) ((sIx n n hi:Nat):Int) 1)) _ _ s
 rw[wY]
 exact wpAny_pure h
theorem Ay(xs:Array Value)(i k:Nat):((List.range k).filterMap fun (m:Nat)=>xs[((i:Int)+(m:Int)*1).toNat]?).toArray=((xs.toList.drop i).take k).toArray:=by
 have e:(fun (m:Nat)=>xs[((i:Int)+(m:Int)*1).toNat]?)=fun m=>xs[i+m]?:=by
  funext m
  have:((i:Int)+(m:Int)*1).toNat=i+m:=by omega
  rw[this]
 rw[e]
 have:=pick_run xs i k
 rw[List.filterMap_map] at this
 have e2:((fun x=>xs[x]?) ∘ fun x=>i+x)=fun m=>xs[i+m]?:=rfl
 rw[e2] at this
 rw[this]
theorem getItem_tuple_cut{t sl:Addr}{items:Array Value}{vl vu:Value}{lo hi:Option Int}{Q:Value->Shared->Prop}(ht:IsTup s.heap t items)(hs:s.heap.IsSliceOf sl vl vu .none)(pl:IsPart vl lo)(pu:IsPart vu hi)
  (hw:¬ (sIx items.size 0 lo=0/\sIx items.size items.size hi=items.size))
  (h:Q (.ref s.heap.objs.size) {s with heap:=s.heap.push {cls:=.type "tuple",data:=.seq ((items.toList.drop (sIx items.size 0 lo)).take (sIx items.size items.size hi - sIx items.size 0 lo)).toArray} })
  (hsz:items.size<=sizeLine):wpAny (model prog w) A (getItem (.ref t) (.ref sl)) Q E s:=by
 have htake:sizeOk (.seq ((items.toList.drop (sIx items.size 0 lo)).take (sIx items.size items.size hi - sIx items.size 0 lo)).toArray):=by
  show((items.toList.drop (sIx items.size 0 lo)).take (sIx items.size items.size hi - sIx items.size 0 lo)).toArray.size<=sizeLine
  rw[List.size_toArray,List.length_take,List.length_drop,Array.length_toList]
  omega
 have hj:sIx items.size items.size hi<=items.size:=C4 _ _ (Nat.le_refl _) hi
 obtain⟨os,hos,hcs,hds⟩:=id hs
 have hTs:s.TypeIs (.ref sl) "slice":=⟨os,hos,hcs⟩
 unfold getItem
 try with_reducible refine wpAny_holding ?_
 first | refine wpAny_bind (wpAny_pure ?_) | skip
 refine wpAny_bind (wpAny_sequenceKey ht.typeIs (by decide) ?_)
 refine wpAny_bind (wpAny_callSpecial?_slot (name:=Str.ofString "__getitem__") ht.typeIs PyProof.Rows.slot_tuple_getitem
  (wpAny_call_entry PyProof.Rows.slot_tuple_getitem ht.typeIs entry_tuple_getitem ?_ (args_tuple_getitem _ _)))
 show wpAny _ _ (Builtin.Tuple.tupleItemsOf (.ref t) >>= _) _ _ s
 refine wpAny_bind (tupleItemsOf_ ht ?_)
 refine wpAny_bind (wpAny_typeOf hTs ?_)
 rw[if_pos (by decide)]
 refine wpAny_bind (sliceApplied_gen hs pl pu ?_)
 have hno:¬ ((((sIx items.size 0 lo:Nat):Int)==0&&(1:Int)==1&&(sIx items.size items.size hi - sIx items.size 0 lo)==items.size)=true):=by
  intro q
  rw[Bool.and_eq_true,Bool.and_eq_true] at q
  have q1:((sIx items.size 0 lo:Nat):Int)=0:=eq_of_beq q.1.1
  have q2:sIx items.size items.size hi - sIx items.size 0 lo=items.size:=eq_of_beq q.2
  exact hw ⟨by omega,by omega⟩
 show wpAny _ _ (if (((sIx items.size 0 lo:Nat):Int)==0&&(1:Int)==1&&(sIx items.size items.size hi - sIx items.size 0 lo)==items.size)=true then _ else _) _ _ s
 rw[if_neg hno,Ay]
 first
  | exact wpAny_bind (m:=Builtin.Tuple.tupleExact _) (wpAny_newObj_type (wpAny_pure ⟨_,rfl,wpAny_pure h⟩) htake)
  | exact wpAny_bind (m:=Builtin.Tuple.tupleExact _) (wpAny_newObj_type (wpAny_bind (wpAny_pure (wpAny_pure ⟨_,rfl,wpAny_pure h⟩))) htake)
  | exact wpAny_bind (wpAny_bind (m:=Builtin.Tuple.tupleExact _) (wpAny_newObj_type (wpAny_pure (wpAny_pure ⟨_,rfl,wpAny_pure h⟩)) htake))
  | exact wpAny_bind (wpAny_bind (m:=Builtin.Tuple.tupleExact _) (wpAny_newObj_type (wpAny_pure ⟨_,rfl,wpAny_pure h⟩) htake))
end
end HT
namespace L2
open PySem PySem.Spec PyProof.Rows
abbrev TO:=St->Hp->(Option Int->Hp->Prop)->Prop
def PO(X:Cx)(e:Option Expr)(t:TO):Prop:=
 ∀(pins:List (Addr×Obj)) (s:Shared) (σ:St) (H:Hp) (Q:Option Int->Hp->Prop),Inv X pins σ H s->t σ H Q ->
  wpAny (model X.prog X.w) X.A (evalPart e X.env) (fun u s'=>∃o H',Inv X pins σ H' s'/\IsPart u o/\Q o H') X.xe s
def B6:TO:=fun _ H Q=>Q none H
def Fk(t:TE):TO:=fun σ H Q=>t σ H fun x H1=>∃i,x=.int i/\Q (some i) H1
section
variable{X:Cx}{e:Expr}{te:TE}{lo hi:Option Expr}{tl th:TO}{pos p2:Pos}
theorem BW:PO X none B6:=by
 intro pins s σ H Q I h
 rw[evalPart_none]
 exact wpAny_pure ⟨none,H,I,.none,h⟩
theorem BX(h:PE X e te):PO X (some e) (Fk te):=by
 intro pins s σ H Q I hw
 rw[evalPart_some]
 refine lA (h pins s σ H _ I hw) fun u s1 ⟨x,H1,I1,r1,q1⟩=>?_
 obtain⟨i,rfl,q⟩:=q1
 obtain⟨t,rfl⟩:=r1
 exact⟨some i,H1,I1,.int i t,q⟩
def CJ(X:Cx)(r:V->Option Int->Option Int->Hp->VK->Prop):Prop:=
 ∀(pins:List (Addr×Obj)) (s:Shared) (σ:St) (H:Hp) (x:V) (v vl vu:Value) (lo hi:Option Int) (sl:Addr) (Q:VK),Inv X pins σ H s->RelV x v->s.heap.IsSliceOf sl vl vu .none->IsPart vl lo->IsPart vu hi->r x lo hi H Q ->
  ∃T id,typeLookup (.type T) "__getitem__" = pure (some (.builtin id))/\s.TypeIs v T/\wpAny (model X.prog X.w) X.A (getItem v (.ref sl)) (EP X pins σ Q) X.xe s
theorem CJ.or{r r':V->Option Int->Option Int->Hp->VK->Prop}(h:CJ X r)(h':CJ X r'):CJ X (fun x lo hi H Q=>r x lo hi H Q\/r' x lo hi H Q):=by
 intro pins s σ H x v vl vu lo hi sl Q I rx hs pl pu q
 rcases q with q | q
 ·exact h pins s σ H x v vl vu lo hi sl Q I rx hs pl pu q
 ·exact h' pins s σ H x v vl vu lo hi sl Q I rx hs pl pu q
def Hu(r:V->Option Int->Option Int->Hp->VK->Prop)(te:TE)(tl th:TO):TE:=fun σ H Q=>te σ H fun x H1=>tl σ H1 fun l H2=>th σ H2 fun u H3=>r x l u H3 Q
theorem gL{r:V->Option Int->Option Int->Hp->VK->Prop}(hr:CJ X r)(he:PE X e te)(hl:PO X lo tl)(hu:PO X hi th):PE X (.Subscript e (.Slice lo hi none p2) pos) (Hu r te tl th):=by
 intro pins s σ H Q I h
 refine Subscript_ (lA (he pins s σ H _ I h) fun v s1 ⟨x,H1,I1,r1,q1⟩=>?_)
 refine wpAny_Slice (lA (hl pins s1 σ H1 _ I1 q1) fun vl s2 ⟨l,H2,I2,pl,q2⟩=>lA (hu pins s2 σ H2 _ I2 q2) fun vu s3 ⟨u,H3,I3,pu,q3⟩=>?_)
 rw[evalPart_none]
 refine wpAny_pure ?_
 have I4:Inv X pins σ H3 {s3 with heap:=s3.heap.push {cls:=.type "slice",data:=.fields #[vl,vu,.none]} }:=I3.kept (t':=s3.toks) fun b ob q=>Heap.get?_push_of_some _ q
 obtain⟨T,id,hT,ht,hg⟩:=hr pins {s3 with heap:=s3.heap.push {cls:=.type "slice",data:=.fields #[vl,vu,.none]} } σ H3 x v vl vu l u s3.heap.objs.size Q I4 r1 (Heap.IsSliceOf.new ..) pl pu q3
 show wpAny (model X.prog X.w) X.A (subscriptTail e (.Slice lo hi none p2) v (.ref s3.heap.objs.size)) (EP X pins σ Q) X.xe {s3 with heap:=s3.heap.push {cls:=.type "slice",data:=.fields #[vl,vu,.none]} }
 exact tail_any (ops:=[.ref s3.heap.objs.size,v]) ht hT hg (by with_unfolding_all rfl)
def rO(xs:List V)(lo hi:Option Int):List V:=(xs.drop (HT.sIx xs.length 0 lo)).take (HT.sIx xs.length xs.length hi - HT.sIx xs.length 0 lo)
theorem rq(xs:List V)(lo hi:Option Int):(rO xs lo hi).length<=xs.length:=by
 unfold rO
 rw[List.length_take,List.length_drop]
 omega
def GS(K:PySem.W.Frag):V->Option Int->Option Int->Hp->VK->Prop:=fun x lo hi H Q=>∃a xs,x=.ref a/\mG K H a xs /\
 ¬ (HT.sIx xs.length 0 lo=0/\HT.sIx xs.length xs.length hi=xs.length)/\∀p,H p=none->Q (.ref p) (upd H p (.tup (rO xs lo hi)))
theorem DF:CJ X (GS X.K):=by
 intro pins s σ H x v vl vu lo hi sl Q I rx hs pl pu h
 obtain⟨a,xs,rfl,hx,hw,q⟩:=h
 cases rx
 obtain⟨its,r,ht,hz⟩:=I.tuple hx
 have hlen:its.toArray.size=xs.length:=by rw[List.size_toArray];exact r.length.symm
 refine⟨"tuple",_,PyProof.Rows.slot_tuple_getitem.lookup,ht.typeIs,?_⟩
 refine HT.getItem_tuple_cut ht hs pl pu (by rw[hlen];exact hw) ?_ (by rw[hlen];exact hz)
 rw[hlen]
 refine⟨.ref s.heap.objs.size,_,I.laid (t':=s.toks) (o:=.tup (rO xs lo hi)) (fun b ob q=>Heap.get?_push_of_some _ q) (Nat.le_refl _) ?_,rfl,q _ (I.hok.fresh (Nat.le_refl _))⟩
 exact⟨Nat.le_trans (rq xs lo hi) hz,_,(r.drop (HT.sIx xs.length 0 lo)).take (HT.sIx xs.length xs.length hi - HT.sIx xs.length 0 lo),nj.new _ _⟩
def E9(K:PySem.W.Frag):R2:=fun x y H Q=>∃a b xs ys,x=.ref a/\y=.ref b/\mG K H a xs/\mG K H b ys/\xs ≠ []/\xs.length+ys.length<=sizeLine /\
 (ys=[]->Q (.ref a) H)/\(ys ≠ []->∀p,H p=none->Q (.ref p) (upd H p (.tup (xs++ys))))
theorem kM.nil_iff{xs:List V}{us:List Value}(r:kM xs us):us=[]↔xs=[]:=by
 cases r with
 | nil=>simp
 | cons _ _=>simp
theorem Ca:OpR X (binaryOp .Add) (E9 X.K):=by
 intro pins s σ H x y v u Q I rx ry h
 obtain⟨a,b,xs,ys,rfl,rfl,ha,hb,hx,hz,q1,q2⟩:=h
 cases rx
 cases ry
 obtain⟨its,r1,p1,_⟩:=I.tuple ha
 obtain⟨its2,r2,p2,_⟩:=I.tuple hb
 refine HT.cat_tup p1 p2 (fun z=>hx (r1.nil_iff.mp z)) (fun z=>⟨.ref a,H,I,rfl,q1 (r2.nil_iff.mp z)⟩) (fun z=>?_) (by rw[<- r1.length,<- r2.length];exact hz)
 refine⟨.ref s.heap.objs.size,_,I.laid (t':=s.toks) (o:=.tup (xs++ys)) (fun b ob q=>Heap.get?_push_of_some _ q) (Nat.le_refl _) ?_,rfl,q2 (fun w=>z (r2.nil_iff.mpr w)) _ (I.hok.fresh (Nat.le_refl _))⟩
 exact⟨by rw[List.length_append];exact hz,_,r1.append r2,nj.new _ _⟩
end
end L2
namespace L2
open PySem PySem.Spec PyProof.Rows
def Fg(n:Nat)(i:Int):Option Nat:=if 0<=i then (if i<n then some i.toNat else none) else if -(n:Int)<=i then some (i+n).toNat else none
def Dj{α:Type}(xs:List α)(i:Int):Option α:=(Fg xs.length i).bind fun j=>xs[j]?
theorem BV{n:Nat}{i:Int}{j:Nat}(h:Fg n i=some j):seqIndex? i n=some j/\j<n /\ -(n:Int)<=i/\i<n:=by
 unfold Fg at h
 by_cases h0:0<=i
 ·rw[if_pos h0] at h
  by_cases h1:i<n
  ·rw[if_pos h1] at h
   have e:i.toNat=j:=Option.some.inj h
   exact⟨by rw[seqIndex_of h0 h1,e],by omega,by omega,h1⟩
  ·rw[if_neg h1] at h;cases h
 ·rw[if_neg h0] at h
  by_cases h1 : -(n:Int)<=i
  ·rw[if_pos h1] at h
   have e:(i+n).toNat=j:=Option.some.inj h
   exact⟨by rw[seqIndex_neg (by omega) h1,e],by omega,h1,by omega⟩
  ·rw[if_neg h1] at h;cases h
theorem uO{α:Type}{xs:List α}{i:Int}{v:α}(h:Dj xs i=some v):∃j,seqIndex? i xs.length=some j/\xs[j]?=some v/\j<xs.length /\ -(xs.length:Int)<=i/\i<xs.length:=by
 unfold Dj at h
 cases e:Fg xs.length i with
 | none=>rw[e] at h;cases h
 | some j =>
  rw[e] at h
  obtain⟨h1,h2,h3,h4⟩:=BV e
  exact⟨j,h1,h,h2,h3,h4⟩
def xV(b:Expr):Prop:=∀o i,subscripted b false o i=operate [o,i] (getItem o i)
def IxR(X:Cx)(r:R2):Prop:=
 ∀(value slice:Expr) (pins:List (Addr×Obj)) (s:Shared) (σ:St) (H:Hp) (x y:V) (v u:Value) (Q:VK),Inv X pins σ H s->RelV x v->RelV y u->r x y H Q ->
  subscripted slice false v u=operate [v,u] (getItem v u)->wpAny (model X.prog X.w) X.A (subscriptTail value slice v u) (EP X pins σ Q) X.xe s
def Ej(X:Cx)(id:String)(r:V->List V->Hp->VK->Prop):Prop:=
 ∀(pins:List (Addr×Obj)) (s:Shared) (σ:St) (H:Hp) (x:V) (xs:List V) (v:Value) (us:List Value) (Q:VK),Inv X pins σ H s->RelV x v->kM xs us->r x xs H Q ->
  wpAny (model X.prog X.w) X.A (call (.builtin id) (v::us)) (EP X pins σ Q) X.xe s
section
variable{X:Cx}{a b:Expr}{ta tb:TE}{pos:Pos}
theorem IxR.or{r r':R2}(h:IxR X r)(h':IxR X r'):IxR X (fun x y H Q=>r x y H Q\/r' x y H Q):=by
 intro value slice pins s σ H x y v u Q I rx ry q hs
 rcases q with q | q
 ·exact h value slice pins s σ H x y v u Q I rx ry q hs
 ·exact h' value slice pins s σ H x y v u Q I rx ry q hs
theorem Ej.or{id:String}{r r':V->List V->Hp->VK->Prop}(h:Ej X id r)(h':Ej X id r'):Ej X id (fun x xs H Q=>r x xs H Q\/r' x xs H Q):=by
 intro pins s σ H x xs v us Q I rx rs q
 rcases q with q | q
 ·exact h pins s σ H x xs v us Q I rx rs q
 ·exact h' pins s σ H x xs v us Q I rx rs q
theorem km{r:R2}(hr:IxR X r)(ha:PE X a ta)(hb:PE X b tb)(hs:xV b):PE X (.Subscript a b pos) (FV r ta tb):=by
 intro pins s σ H Q I h
 exact Subscript_ (De ha hb I h fun v u s2 x y H2 I2 rx ry q=>hr a b pins s2 σ H2 x y v u Q I2 rx ry q (hs _ _))
def GO(K:PySem.W.Frag):R2:=fun x y H Q=>∃p xs i v,x=.ref p/\y=.int i/\nO K H p xs/\Dj xs i=some v/\Q v H
def Gp(K:PySem.W.Frag):R2:=fun x y H Q=>∃p xs i v,x=.ref p/\y=.int i/\mG K H p xs/\Dj xs i=some v/\Q v H
def FX:R2:=fun x y H Q=>∃z i c,x=.str z/\y=.int i/\z.length<=sizeLine/\Dj z.cps.toList i=some c/\Q (.str ⟨#[c]⟩) H
theorem BZ:IxR X (GO X.K):=by
 intro value slice pins s σ H x y v u Q I rx ry h hs
 obtain⟨p,xs,i,z,rfl,rfl,hq,he,q⟩:=h
 cases rx
 obtain⟨t,rfl⟩:=ry
 obtain⟨its,r,pl,hz⟩:=I.list hq
 obtain⟨j,h1,h2,h3,h4,h5⟩:=uO he
 obtain⟨w,ew,rw'⟩:=r.get h2
 have hl:=r.length
 have hn:=sy
 have fin:EP X pins σ Q w s:=⟨z,H,I,rw',q⟩
 by_cases h0:0<=i
 ·have hj:i.toNat=j:=by
   rw[seqIndex_of h0 h5] at h1
   exact Option.some.inj h1
  exact item_listR pl.isList h0 (by omega) (by rw[hj];simpa using ew) fin hs
 ·have hj:(i+(its.toArray.size:Int)).toNat=j:=by
   rw[seqIndex_neg (by omega) h4] at h1
   rw[List.size_toArray,<- hl]
   exact Option.some.inj h1
  exact subscriptTail_builtinR (x:=w) pl.isList.typeIs slot_list_getitem.lookup
   (wpAny_getItem_list_neg (Q:=fun r s'=>r=w/\EP X pins σ Q r s') pl.isList (by omega) (by rw[List.size_toArray]<;>omega) (by omega) (by rw[hj];simpa using ew) ⟨rfl,fin⟩) hs
theorem DP:IxR X (Gp X.K):=by
 intro value slice pins s σ H x y v u Q I rx ry h hs
 obtain⟨p,xs,i,z,rfl,rfl,hq,he,q⟩:=h
 cases rx
 obtain⟨t,rfl⟩:=ry
 obtain⟨its,r,pl,hz⟩:=I.tuple hq
 obtain⟨j,h1,h2,h3,h4,h5⟩:=uO he
 obtain⟨w,ew,rw'⟩:=r.get h2
 have hl:=r.length
 have hn:=sy
 have fin:EP X pins σ Q w s:=⟨z,H,I,rw',q⟩
 exact subscriptTail_builtinR (x:=w) pl.typeIs slot_tuple_getitem.lookup
  (getItem_tuple (j:=j) (Q:=fun r s'=>r=w/\EP X pins σ Q r s') pl (by omega) (by omega) (by rw[List.size_toArray,<- hl];exact h1) (by simpa using ew) ⟨rfl,fin⟩) hs
theorem D5:IxR X FX:=by
 intro value slice pins s σ H x y v u Q I rx ry h hs
 obtain⟨z,i,c,rfl,rfl,hz,he,q⟩:=h
 obtain⟨t,rfl⟩:=rx
 obtain⟨t',rfl⟩:=ry
 obtain⟨j,h1,h2,h3,h4,h5⟩:=uO he
 have hl:z.cps.toList.length=z.length:=by simp[Str.length]
 rw[hl] at h1 h4 h5
 have hn:=sy
 exact tail_any (typeIs_str s z t) slot_str_getitem.lookup (getItem_str (c:=c) (by
  have e1:decide (i < -(2 ^ 63:Int))=false:=decide_eq_false (by omega)
  have e2:decide (i ≥ 2 ^ 63)=false:=decide_eq_false (by omega)
  rw[e1,e2,Bool.or_false]) (by rw[h1];simpa using h2) ⟨.str ⟨#[c]⟩,H,I.tok _,⟨_,rfl⟩,q⟩) hs
theorem Inv.lst{pins:List (Addr×Obj)}{σ:St}{H:Hp}{s:Shared}{p:Addr}{xs:List V}(I:Inv X pins σ H s)(h:H p=some (.lst xs)) :
  ∃(its:List Value) (n:Nat),kM xs its/\s.heap.get? p=some {cls:=.type "list",data:=.seq its.toArray n}/\xs.length<=sizeLine:=by
 obtain⟨z,its,n,r,e⟩:=I.hok p _ h
 exact⟨its,n,r,e,z⟩
theorem uX(lo hi:Option Int)(n:Nat):(sliceBounds lo hi none n).1=((HT.sIx n 0 lo:Nat):Int)/\(sliceBounds lo hi none n).2.1=((HT.sIx n n hi:Nat):Int)/\(sliceBounds lo hi none n).2.2=1:=by
 refine⟨?_,?_,rfl⟩
 ·cases lo with
  | none=>simp[sliceBounds,HT.sIx]
  | some i =>
   simp only[sliceBounds,HT.sIx,Option.getD_none,show(1:Int) > 0 by decide,if_true]
   by_cases h:i<0
   ·simp only[h,if_true]<;>omega
   ·simp only[h,if_false]<;>omega
 ·cases hi with
  | none=>simp[sliceBounds,HT.sIx]
  | some i =>
   simp only[sliceBounds,HT.sIx,Option.getD_none,show(1:Int) > 0 by decide,if_true]
   by_cases h:i<0
   ·simp only[h,if_true]<;>omega
   ·simp only[h,if_false]<;>omega
theorem tS(its:List Value)(lo hi:Option Int):slicePick its.toArray lo hi none=((its.drop (HT.sIx its.length 0 lo)).take (HT.sIx its.length its.length hi - HT.sIx its.length 0 lo)).toArray:=by
 obtain⟨h1,h2,h3⟩:=uX lo hi its.toArray.size
 unfold slicePick
 rw[h1,h2,h3]
 simp only[sliceRange_one,pick_run,List.size_toArray]<;>rfl
def Gr(K:PySem.W.Frag):V->Option Int->Option Int->Hp->VK->Prop:=fun x lo hi H Q=>∃a xs,x=.ref a/\nO K H a xs/\∀p,H p=none->Q (.ref p) (upd H p (.lst (rO xs lo hi)))
theorem CA:CJ X (Gr X.K):=by
 intro pins s σ H x v vl vu lo hi sl Q I rx hs pl pu h
 obtain⟨a,xs,rfl,hx,q⟩:=h
 cases rx
 obtain⟨its,r,ht,hz⟩:=I.list hx
 have hlen:=r.length
 refine⟨"list",_,slot_list_getitem.lookup,ht.isList.typeIs,?_⟩
 refine wpAny_getItem_list_slice ht.isList hs pl pu .none (by simp) ?_ (by rw[List.size_toArray]<;>omega)
 rw[tS,<- hlen]
 refine⟨.ref s.heap.objs.size,_,I.laid (t':=s.toks) (o:=.lst (rO xs lo hi)) (fun b ob q=>Heap.get?_push_of_some _ q) (Nat.le_refl _) ?_,rfl,q _ (I.hok.fresh (Nat.le_refl _))⟩
 exact⟨Nat.le_trans (rq xs lo hi) hz,_,0,(r.drop (HT.sIx xs.length 0 lo)).take (HT.sIx xs.length xs.length hi - HT.sIx xs.length 0 lo),Heap.get?_push_size _ rfl⟩
theorem vp:CallR X (.builtin "len") (fun xs H Q=>∃p ys,xs=[.ref p]/\(nO X.K H p ys\/mG X.K H p ys)/\Q (.int ys.length) H):=by
 intro pins s σ H xs us Q I r h
 obtain⟨p,ys,rfl,hq,q⟩:=h
 obtain⟨u,rfl,rx⟩:=vals1 r
 cases rx
 have hn:=sy
 rcases hq with hq | hq
 ·obtain⟨its,r',pl,hz⟩:=I.list hq
  have hlen:=r'.length
  exact Calls.call_len_list pl.isList (by simp only[List.size_toArray]<;>omega) ⟨.int ys.length,H,I.tok _,⟨s.toks+1,by rw[List.size_toArray,hlen]⟩,q⟩
 ·obtain⟨its,r',pl,hz⟩:=I.tuple hq
  have hlen:=r'.length
  exact len_tuple pl (by simp only[List.size_toArray]<;>omega) ⟨.int ys.length,H,I.tok _,⟨s.toks+1,by rw[List.size_toArray,hlen]⟩,q⟩
theorem uR:CallR X (.builtin "len") (fun xs H Q=>∃z,xs=[.str z]/\z.length<=sizeLine/\Q (.int z.length) H):=by
 intro pins s σ H xs us Q I r h
 obtain⟨z,rfl,hz,q⟩:=h
 obtain⟨u,rfl,t,rfl⟩:=vals1 r
 have hn:=sy
 exact len_str (by omega) ⟨.int z.length,H,I.tok _,⟨_,rfl⟩,q⟩
theorem CallR.or{f:Value}{r r':List V->Hp->VK->Prop}(h:CallR X f r)(h':CallR X f r'):CallR X f (fun xs H Q=>r xs H Q\/r' xs H Q):=by
 intro pins s σ H xs us Q I rs q
 rcases q with q | q
 ·exact h pins s σ H xs us Q I rs q
 ·exact h' pins s σ H xs us Q I rs q
theorem tU:CallR X (.type "tuple") (fun xs H Q=>∃p ys,xs=[.ref p]/\((nO X.K H p ys/\∀l,H l=none->Q (.ref l) (upd H l (.tup ys)))\/(mG X.K H p ys/\Q (.ref p) H))):=by
 intro pins s σ H xs us Q I r h
 obtain⟨p,ys,rfl,h⟩:=h
 obtain⟨u,rfl,rx⟩:=vals1 r
 cases rx
 rcases h with ⟨hq,q⟩ | ⟨hq,q⟩
 ·obtain⟨its,r',pl,hz⟩:=I.list hq
  have hlen:=r'.length
  refine call_tuple_list pl.isList (fun h' kp=>?_) (by simp only[List.size_toArray]<;>omega)
  have I1:Inv X pins σ H {s with heap:=h' }:=I.kept (t':=s.toks) kp
  have I2:Inv X pins σ (upd H h'.objs.size (.tup ys)) {s with heap:=h'.push {cls:=.type "tuple",data:=.seq its.toArray} }:=
   I1.laid (t':=s.toks) (fun b o e=>Heap.get?_push_of_some _ e) (Nat.le_refl _) (show lF X.prog X.w _ _ _ (.tup ys) from⟨hz,its,r',nj.new _ _⟩)
  exact⟨.ref h'.objs.size,_,I2,rfl,q _ (I1.hok.fresh (Nat.le_refl _))⟩
 ·obtain⟨its,r',pl,hz⟩:=I.tuple hq
  exact call_tuple_same pl ⟨.ref p,H,I,rfl,q⟩
def G8(K:PySem.W.Frag)(T:String)(x:V)(H:Hp):Prop:=match x with
 | .str _=>T = "str"
 | .int _=>T = "int"
 | .ref p=>(T = "list" /\ ∃xs,nO K H p xs)\/(T = "tuple" /\ ∃o,K.lookup p=some o/\o.cls=.type "tuple" /\ o.dict=none) \/
   (T = "dict" /\ ((∃kvs,H p=some (.dK kvs))\/∃kvs,H p=some (.dT kvs)))\/(T = "set" /\ ∃S n,H p=some (.set S n))
 | _=>False
theorem C8{pins:List (Addr×Obj)}{σ:St}{H:Hp}{s:Shared}{T:String}{x:V}{v:Value}(I:Inv X pins σ H s)(r:RelV x v)(ty:G8 X.K T x H) :
  s.TypeIs v T/\∀a,v=.ref a->∃ob,s.heap.get? a=some ob/\ob.dict=none:=by
 cases x with
 | str z =>
  obtain⟨t,rfl⟩:=r
  cases (show T = "str" from ty)
  exact⟨typeIs_str s z t,fun _ e=>nomatch e⟩
 | int i =>
  obtain⟨t,rfl⟩:=r
  cases (show T = "int" from ty)
  exact⟨typeIs_int s i t,fun _ e=>nomatch e⟩
 | ref p =>
  cases r
  rcases ty with ⟨rfl,xs,hq⟩ | ⟨rfl,o,hk,hc,hd⟩ | ⟨rfl,hk⟩ | ⟨rfl,S,n,hk⟩
  ·obtain⟨its,_,pl,_⟩:=I.list hq
   refine⟨pl.isList.typeIs,fun a e=>?_⟩
   cases e
   obtain⟨o,n,e,c,hd,_⟩:=pl
   exact⟨o,e,hd⟩
  ·refine⟨⟨o,I.kIn p o hk,hc⟩,fun a e=>?_⟩
   cases e
   exact⟨o,I.kIn _ o hk,hd⟩
  ·have z:∃o,s.heap.get? p=some o/\o.ExactDict:=by
    rcases hk with ⟨kvs,hk⟩ | ⟨kvs,hk⟩
    ·obtain⟨_,_,_,_,o,_,_,e,ex,_⟩:=I.hok p _ hk
     exact⟨o,e,ex⟩
    ·obtain⟨_,_,_,_,o,_,_,e,ex,_⟩:=I.hok p _ hk
     exact⟨o,e,ex⟩
   obtain⟨o,e,ex⟩:=z
   refine⟨⟨o,e,ex.1⟩,fun a e2=>?_⟩
   cases e2
   exact⟨o,e,ex.2.1⟩
  ·obtain⟨o,_,_,_,e,ex,_⟩:=I.hok p _ hk
   refine⟨⟨o,e,ex.1⟩,fun a e2=>?_⟩
   cases e2
   exact⟨o,e,ex.2.1⟩
 | _=>exact False.elim ty
def Hk(K:PySem.W.Frag)(T:String)(r:V->List V->Hp->VK->Prop)(to:TE)(t:TA):TE:=fun σ H Q=>to σ H fun x H1=>G8 K T x H1/\t σ H1 fun xs H2=>r x xs H2 Q
variable{o e:Expr}{es:List Expr}{to:TE}{t:TA}{name:Str}{apos cpos:Pos}{T id:String}{r:V->List V->Hp->VK->Prop}
theorem jI (pa:PlainAttrs T) (slot:Slot T name id) (hty:typeOf (.builtin id)=pure (.type "method_descriptor")) (hm:Ej X id r) (ho:PE X o to) (ha:PA X (e::es) t)
    (hbase:attributeBase o name X.env (eval o X.env)=eval o X.env:=by rfl)
    (hfew:((backTo cpos (starEach (e::es) X.env)).all (fun x=>!x.1)&&(backToKw cpos (keywordEach [] X.env)).all (fun x=>x.1.isSome)
      && decide ((e::es).length+([]:List Keyword).length+(if ([]:List Keyword).isEmpty then 0 else 1)<30))=true:=by rfl)
    (hline:(apos.endLine==cpos.line)=true:=by rfl) (hs:starEach (e::es) X.env=(false,eval e X.env)::starEach es X.env:=by rfl) (hplain:(backTo cpos (starEach es X.env)).any (·.1)=false:=by rfl) :
    PE X (.Call (.Attribute o name apos) (e::es) [] cpos) (Hk X.K T r to t):=by
  intro pins s σ H Q I h
  refine wpAny_Call_method_late hbase hfew hline rfl (lA (ho pins s σ H _ I h) fun v s1 ⟨x,H1,I1,r1,ty,q1⟩=>?_)
  obtain⟨h1,h2⟩:=C8 I1 r1 ty
  refine⟨T,id,pa,slot,hty,h1,h2,?_⟩
  have hA:=ha cpos pins s1 σ H1 _ I1 q1
  rw[hs] at hA ⊢
  refine Calls.callWith_builtin (by show(false||(backTo cpos (starEach es X.env)).any (·.1))=false;rw[hplain]<;>rfl) (Calls.evalArgs_plain ?_)
  exact lA hA fun us s2 ⟨vs,H2,I2,r2,q2⟩=>hm pins s2 σ H2 x vs v us Q I2 r1 r2 q2
/- xs.append(e),list.index on a module's tuple .. are Ej facts of 06m -/
end
end L2
namespace L2
open PySem PySem.Spec PyProof.Rows
def GE(X:Cx)(id:String)(r:V->List V->Hp->VK->Prop):Prop:=
 ∀(pins:List (Addr×Obj)) (s:Shared) (σ:St) (H:Hp) (x:V) (xs:List V) (v:Value) (us:List Value) (Q:VK),Inv X pins σ H s->RelV x v->kM xs us->r x xs H Q ->
  wpAny (model X.prog X.w) X.A (call (.builtin id) (v::us)) (EP X pins σ Q) X.xe s
theorem kM.one:∀{x:V} {us:List Value},kM [x] us->∃u,us=[u]/\RelV x u
 | _,_,h=>by cases h with | cons r t=>cases t;exact⟨_,rfl,r⟩
theorem kM.two:∀{x y:V} {us:List Value},kM [x,y] us->∃u v,us=[u,v]/\RelV x u/\RelV y v
 | _,_,_,h=>by cases h with | cons r t=>cases t with | cons q t=>cases t;exact⟨_,_,rfl,r,q⟩
theorem kM.zero:∀{us:List Value},kM [] us->us=[]
 | _,.nil=>rfl
theorem kM.dropLast{xs:List V}{us:List Value}(h:kM xs us):kM xs.dropLast us.dropLast:=by
 induction h with
 | nil=>exact .nil
 | cons r t ih =>
  cases t with
  | nil=>exact .nil
  | cons q t'=>exact .cons r ih
theorem kM.eraseIdx:∀{xs:List V} {us:List Value} (i:Nat),kM xs us->kM (xs.eraseIdx i) (us.eraseIdx i)
 | _,_,_,.nil=>.nil
 | _,_,0,.cons _ t=>t
 | _,_,i+1,.cons r t=>.cons r (kM.eraseIdx i t)
theorem kM.reverse{xs:List V}{us:List Value}(h:kM xs us):kM xs.reverse us.reverse:=by
 induction h with
 | nil=>exact .nil
 | cons r t ih=>rw[List.reverse_cons,List.reverse_cons];exact kM.append ih (.cons r .nil)
theorem kM.rep{xs:List V}{us:List Value}(h:kM xs us):∀k:Nat,kM (List.replicate k xs).flatten (List.replicate k us).flatten
 | 0=>.nil
 | k+1=>by
  rw[List.replicate_succ,List.replicate_succ,List.flatten_cons,List.flatten_cons]
  exact kM.append h (kM.rep h k)
theorem foldl_rep(its:List Value):∀(k:Nat) (acc:List Value),
  List.foldl (fun x1 x2=>x1++x2) acc.toArray (List.replicate k its.toArray)=(acc++(List.replicate k its).flatten).toArray
 | 0,acc=>by simp
 | k+1,acc=>by
  have e:acc.toArray++its.toArray=(acc++its).toArray:=by simp
  have e2:(acc++its)++(List.replicate k its).flatten=acc++(List.replicate (k+1) its).flatten:=by
   rw[List.replicate_succ,List.flatten_cons,List.append_assoc]
  rw[<- e2,<- foldl_rep its k (acc++its),<- e,List.replicate_succ,List.foldl_cons]
section
variable{X:Cx}{pins:List (Addr×Obj)}{σ:St}{H:Hp}{s:Shared}{l b:Addr}{xs ys zs:List V}
theorem Inv.lset{its its':List Value}{n:Nat}{f:Array Value->Array Value}{t':Nat}(I:Inv X pins σ H s)(hH:H l=some (.lst xs))
  (e:s.heap.get? l=some {cls:=.type "list",data:=.seq its.toArray n}) (hf:f its.toArray=its'.toArray) (hv:kM ys its') (hz:ys.length<=sizeLine) :
  Inv X pins σ (upd H l (.lst ys)) {s with heap:=s.heap.update l (Obj.mapSeq f),toks:=t' }:=by
 have q:=PySem.IsL.update e f
 rw[hf] at q
 refine I.write (x:=l) (e:=l) (by rw[hH];exact trivial) (.inl rfl) (fun b' u hb hu=>(Heap.get?_update_other s.heap (Obj.mapSeq f) (Ne.symm hb)).trans hu) ⟨_,q⟩ ?_
 exact⟨hz,its',_,hv,q⟩
theorem Inv.lnew{its:List Value}{t':Nat}(I:Inv X pins σ H s)(hv:kM ys its)(hz:ys.length<=sizeLine) :
  Inv X pins σ (upd H s.heap.objs.size (.lst ys)) {s with heap:=s.heap.push {cls:=.type "list",data:=.seq its.toArray},toks:=t' }:=
 I.laid (fun _ _ q=>Heap.get?_push_of_some _ q) (Nat.le_refl _) ⟨hz,its,0,hv,Heap.get?_push_size _ rfl⟩
theorem Inv.fresh(I:Inv X pins σ H s):H s.heap.objs.size=none:=I.hok.fresh (Nat.le_refl _)
theorem Inv.lstM(I:Inv X pins σ H s)(hH:H l=some (.lst xs)):xs.length<=sizeLine/\∃(its:List Value) (n:Nat),kM xs its/\xs.length=its.length/\s.heap.get? l=some {cls:=.type "list",data:=.seq its.toArray n}:=by
 obtain⟨z,its,n,r,e⟩:=I.hok l _ hH
 exact⟨z,its,n,r,r.length,e⟩
theorem Ae{n:Nat}(h:n<=sizeLine):Builtin.List.listTooLong n=false:=by
 unfold Builtin.List.listTooLong
 exact decide_eq_false (by omega)
end
section
variable{X:Cx}
def Cu:V->List V->Hp->VK->Prop:=fun x vs H Q=>∃l xs y,x=.ref l/\vs=[y]/\H l=some (.lst xs)/\xs.length<sizeLine/\Q .non (upd H l (.lst (xs++[y])))
theorem dP:GE X "list.append" Cu:=by
 intro pins s σ H x vs v us Q I rx rv h
 obtain⟨l,xs,y,rfl,rfl,hH,hz,q⟩:=h
 cases rx
 obtain⟨u,rfl,ru⟩:=rv.one
 obtain⟨z,its,n,r,hl,e⟩:=I.lstM hH
 refine call_meets F.slot_list_append ⟨_,e,rfl⟩ F.entry_list_append (F.args_list_append_2 _ _) (PySem.list_append l its.toArray n u (by rw[List.size_toArray];omega)) ⟨e,?_⟩
 refine⟨.non,_,I.lset (its':=its++[u]) hH e (by simp) (r.append (.cons ru .nil)) ?_,rfl,q⟩
 rw[List.length_append,List.length_singleton]
 omega
def Cv:V->List V->Hp->VK->Prop:=fun x vs H Q=>∃l b xs zs,x=.ref l/\vs=[.ref b]/\H l=some (.lst xs)/\H b=some (.lst zs)/\xs.length+zs.length<=sizeLine/\Q .non (upd H l (.lst (xs++zs)))
theorem gm:GE X "list.extend" Cv:=by
 intro pins s σ H x vs v us Q I rx rv h
 obtain⟨l,b,xs,zs,rfl,rfl,hH,hB,hz,q⟩:=h
 cases rx
 obtain⟨u,rfl,ru⟩:=rv.one
 cases ru
 obtain⟨z,its,n,r,hl,e⟩:=I.lstM hH
 obtain⟨z2,its2,n2,r2,hl2,e2⟩:=I.lstM hB
 have hsz:its.toArray.size+its2.toArray.size<=sizeLine:=by rw[List.size_toArray,List.size_toArray];omega
 have hlong:¬ (!its.toArray.isEmpty&&Builtin.List.listTooLong (its.toArray.size+its2.toArray.size))=true:=by
  rw[Ae hsz,Bool.and_false]
  exact Bool.false_ne_true
 refine call_meets F.slot_list_extend ⟨_,e,rfl⟩ F.entry_list_extend (F.args_list_extend_2 _ _)
  (AutoSeq1.list_extend_list_list_0 l its.toArray n b its2.toArray n2 hlong (by rw[List.size_toArray];omega) (by omega)) ⟨e,e2,?_⟩
 refine⟨.non,_,I.lset (its':=its++its2) hH e (by simp) (r.append r2) ?_,rfl,q⟩
 rw[List.length_append]
 omega
def GQ:R2:=fun x y H Q=>∃l b xs zs,x=.ref l/\y=.ref b/\H l=some (.lst xs)/\H b=some (.lst zs)/\xs.length+zs.length<=sizeLine/\∀p,H p=none->Q (.ref p) (upd H p (.lst (xs++zs)))
theorem DQ:OpR X (binaryOp .Add) GQ:=by
 intro pins s σ H x y v u Q I rx ry h
 obtain⟨l,b,xs,zs,rfl,rfl,hH,hB,hz,q⟩:=h
 cases rx
 cases ry
 obtain⟨z,its,n,r,hl,e⟩:=I.lstM hH
 obtain⟨z2,its2,n2,r2,hl2,e2⟩:=I.lstM hB
 refine PySem.P.add_list e e2 ?_ (by rw[List.size_toArray,List.size_toArray];omega)
 have ea:its.toArray++its2.toArray=(its++its2).toArray:=by simp
 rw[ea]
 exact⟨.ref _,_,I.lnew (t':=s.toks) (r.append r2) (by rw[List.length_append];omega),rfl,q _ I.fresh⟩
theorem fQ{α:Type}(xs:List α)(k:Nat):(List.replicate k xs).flatten.length=k*xs.length:=by
 induction k with
 | zero=>simp
 | succ k ih=>rw[List.replicate_succ,List.flatten_cons,List.length_append,ih,Nat.succ_mul,Nat.add_comm]
end
section
variable{prog:Program}{w:World}{A:Around}{E:Value->Shared->Prop}{s:Shared}
set_option maxRecDepth 100000 in
end
section
variable{X:Cx}
end
end L2
namespace Att
open PySem PySem.W PySem.Calls PyProof.Rows
theorem cX{P:Params}{h:Heap}:∀(ns:List Int) (vs:List Value),WellAll P h vs (ns.map WData.int)->IntsAre vs ns:=by
 intro ns
 induction ns with
 | nil =>
  intro vs w
  rw[List.map_nil] at w
  cases w
  exact .nil
 | cons n ns ih =>
  intro vs w
  rw[List.map_cons] at w
  cases w with
  | cons a b =>
   cases a
   exact .cons _ _ (ih _ b)
theorem yX{l:OpenLaw}{n:Nat}(hn:l.most=some n){P:Params}{h:Heap}{args:List WData}{vals:List Value}
  (hpre:l.row.toRowW.claim.pre args=true) (hwl:WellAll P h vals args) :
  ∃a vs ns,vals=[Value.ref a]/\args=[WData.list (ns.map WData.int)]/\h.get? a=some {cls:=.type "list",data:=.seq vs.toArray}/\IntsAre vs ns/\ns.length<=n:=by
 have hsh:WShape.hasAll [] args [.list .int]=true:=(pre_splitW hpre).1
 have hc:l.pre.holds [] {args:=args}=true:=(pre_splitW hpre).2
 obtain⟨d,r,rfl,h1,h2⟩:=hasAllW_cons hsh
 obtain rfl:=hasAllW_nil h2
 obtain⟨xs,rfl,h3⟩:=hasW_list h1
 obtain⟨ns,rfl⟩:=items_int h3
 have hlen:ns.length<=n:=by
  unfold OpenLaw.pre at hc
  have h4:(WTm.not (.lt (.lit (.int (n:Int))) (.len (.arg 0)))).holds [] {args:=[.list (ns.map .int)]}=true:=by
   have h4:=(holds_andW hc).1
   rw[hn] at h4
   exact h4
  have h5:=condW_of h4 (w_not (w_lt w_lit (w_len_list (w_arg rfl))))
  rw[List.length_map] at h5
  refine Nat.le_of_not_lt fun q=>?_
  have q':(n:Int)<((ns.length:Nat):Int):=by omega
  first
   | (rw[decide_eq_true q'] at h5;exact absurd h5 (by decide))
   | (simp at h5;omega)
 cases hwl with
 | cons w1 w2 =>
  cases w2
  cases w1 with
  | list ho hall=>exact⟨_,_,ns,rfl,rfl,ho,cX ns _ hall,hlen⟩
theorem y8(l:OpenLaw)(args:List WData):l.row.toRowW.claim.post args (.bool true) args=true:=
 postW_of (r:=l.row.toRowW) (X:=(true==true))
  (show WShape.has [] (.bool true) .bool=true by first | rfl | decide | simp[WShape.has,WShape.arms,WShape.armsAll])
  (show(WTm.eq .res (.lit (.bool true))).value [] {args:=args,res:=some (.bool true),after:=args}=some (.bool (true==true)) from w_eq_bool (w_res rfl) w_lit) rfl
theorem attach_call {l:OpenLaw} {n:Nat} {q:Program} {loose:List Str} {XP:(Str->Option Value)->Heap->Prop} {YP:World->Heap->Prop} {d:DefRec}
    (hn:l.most=some n) (hdf:d.params.defaults=[])
    (call:∀(w:World) (s₀ s₁:Shared) (mg mb:Str->Option Value) (fa:Addr) (o:Obj) (pm cd doc:Value) (a:Addr) (vs:List Value) (ns:List Int),
      Ground q loose [] XP w s₀ mg mb s₁.heap->YP w s₁.heap ->
      s₁.heap.get? fa=some o->o.data=.func (docDef d.name d.params d.body d.scope pm cd doc)->s₁.heap.CodeRec cd d.name->mg d.name=some (.ref fa) ->
      s₁.heap.get? a=some {cls:=.type "list",data:=.seq vs.toArray}->IntsAre vs ns->ns.length<=n->s₁.gens=#[] ->
      codeAny (model l.prog w) callerA (.call (.ref fa) ⟨[.ref a],[]⟩) (fun r s'=>r=.ok (.ret (.bool true))/\OldK s₁.heap s'.heap/\s'.os=s₁.os/\AllBare s'.gens) s₁) :
    WalkO q loose XP YP l.row.toRowW d [] (fun f vs=>PySem.call f vs):=by
  intro w s₀ s₁ mg mb G Y fa o pm cd doc dV kV ho hd hcd hD hmg hg args vals as hpre hlay hrd hwl hlo
  obtain rfl:dV=.none:=Dflts.none hD hdf
  obtain rfl:kV=.none:=Dflts.noKw hD
  obtain⟨a,vs,ns,rfl,rfl,hobj,hints,hlen⟩:=yX hn hpre hwl
  refine enter_call (codeAny_mono (call w s₀ s₁ mg mb fa o pm cd doc a vs ns G Y ho (fd_plain hd) hcd hmg hobj hints hlen hg) fun r s' hq=>?_)
  obtain⟨rfl,h2,h3,h4⟩:=hq
  exact⟨.inl ⟨.bool true,.bool true,[],rfl,fun _=>rfl,.bool true,y8 l _,fun _=>⟨List.Pairwise.nil,fun _ hm=>(nomatch hm)⟩⟩,h2,h3,h4⟩
section
variable{prog:Program}{w:World}{A:Around}{E:Value->Shared->Prop}{s:Shared}{K:Frag}
def ledger(h:Heap)(L d:Addr):List (Addr×Obj):=(List.range h.objs.size).filterMap fun a=>if a=L\/a=d then none else (h.get? a).map fun o=>(a,o)
end
end Att
namespace L2
open PySem PySem.Spec PyProof.Rows
theorem bD:∀{vs:List Value} {ns:List Int},IntsAre vs ns->kM (ns.map V.int) vs
 | _,_,.nil=>.nil
 | _,_,.cons n t h=>.cons ⟨t,rfl⟩ (bD h)
def Dc(H:Hp):Prop:=∀b,H b=none\/∃o xs,H b=some (.frz o (.lst xs))
theorem Ag{P:Program}{w:World}{K:PySem.W.Frag}{mg mb:Str->Option Value}{CX:wc}{k:Nat}{fa a:Addr}{fd:FuncData}{x:Str}{sp:Sp}{s₁:Shared}{vs:List Value}{ns:List Int}
  (KX:K.In s₁.heap) (hns:s₁.heap.Ns mainGlobals mg) (hb:s₁.heap.Ns builtinsNs mb) (hbb:∀x:Str,x ≠ "__name__" -> mb x=bootBuiltins x) (hlim:s₁.heap.NoLimit) (hg:s₁.gens=#[])
  (ha:s₁.heap.get? a=some {cls:=.type "list",data:=.seq vs.toArray}) (hi:IntsAre vs ns) (hl:ns.length<=sizeLine) (hr:lb k callerA)
  (F:∀base:Heap,K.In base->base.Ns mainGlobals mg->kT P w K mg base CX k fa fd [x] sp) (hbind:∀(s:Shared) (u:Value),BindsTo s fd ⟨[u],[]⟩ [(x,u)])
  (hsp:∀H:Hp,Dc H->nO K H a (ns.map V.int)->sp [.ref a] H (fun v _=>v=.bl true) fun _ _ _=>False)
  (hCX:∀H e s',CX [] H s₁ (fun _ _ _=>False) e s'->False) :
  codeAny (model P w) callerA (.call (.ref fa) ⟨[.ref a],[]⟩) (fun r s'=>r=.ok (.ret (.bool true))/\OldK s₁.heap s'.heap/\s'.os=s₁.os/\AllBare s'.gens) s₁:=by
 have rv:=bD hi
 have lenV:=hi.length
 have core:∀H:Hp,Dc H->nO K H a (ns.map V.int)->pL P w H s₁.heap->(∀b,H b≠none->b=a)->(H a≠none->K.lookup a=none) ->
   codeAny (model P w) callerA (.call (.ref fa) ⟨[.ref a],[]⟩) (fun r s'=>r=.ok (.ret (.bool true))/\OldK s₁.heap s'.heap/\s'.os=s₁.os/\AllBare s'.gens) s₁:=by
  intro H hO hS hok hA hK
  have base_of:∀{b:Addr} {o:Obj},s₁.heap.get? b=some o->H b=none->(pT s₁.heap H).get? b=some o:=fun e n=>wq e n
  have noA:∀{b:Addr} {o:Obj} {es:Array DictEntry} {ep:Nat},s₁.heap.get? b=some o->o.data=.dict es ep->H b=none:=fun {b o es ep} e d=>by
   cases q:H b with
   | none=>rfl
   | some u =>
    have e':b=a:=hA b (by rw[q];simp)
    subst e'
    rw[ha] at e;cases e
    have d':Data.seq vs.toArray _=Data.dict es ep:=d
    cases d'
  have nsK:∀{b:Addr} {m:Str->Option Value},s₁.heap.Ns b m->(pT s₁.heap H).Ns b m:=fun {b m} ⟨o,es,ep,e,d,r⟩=>⟨o,es,ep,base_of e (noA e d),d,r⟩
  have hKb:K.In (pT s₁.heap H):=fun b o e=>base_of (KX b o e) (by
   cases q:H b with
   | none=>rfl
   | some u =>
    have e':b=a:=hA b (by rw[q];simp)
    subst e'
    rw[hK (by rw[q];simp)] at e;cases e)
  have hM:Mod K mg (pT s₁.heap H):=⟨hKb,nsK hns,⟨mb,nsK hb,hbb⟩,let ⟨mc,h1,h2⟩:=hlim;⟨mc,nsK h1,h2⟩⟩
  have e0:qJ P w K mg (pT s₁.heap H) callerA [] s₁ H:=⟨rfl,hM,fun b o e=>yl e,Nat.le_of_eq (ue _ _),trivial,fun b hb=>absurd (show b∈([]:List Addr) from hb) (by simp),hok,.of_eq hg⟩
  refine codeAny_mono ((F _ hKb (nsK hns)).run callerA [] s₁ H ⟨[.ref a],[]⟩ [.ref a] [.ref a] _ _ hr e0 (hbind s₁ (.ref a)) (.cons rfl .nil) (hsp H hO hS)) fun r s' h=>?_
  cases r with
  | error e=>exact(hCX H e s' h).elim
  | ok fl =>
   cases fl with
   | next=>exact False.elim h
   | brk=>exact False.elim h
   | cont=>exact False.elim h
   | ret u =>
    obtain⟨v,H',os,bare,un,hok',r',q⟩:=h
    have q':v=.bl true:=q
    subst q'
    obtain rfl:u=Value.bool true:=r'
    refine⟨rfl,OldK.of_keep fun b o e=>?_,os,bare⟩
    cases q:H b with
    | none=>exact un.keep b o e q (by intro z;exact absurd (show b∈([]:List Addr) from z) (by simp)) (by simp)
    | some u =>
     rcases hO b with z | ⟨ob,xs,z⟩
     ·rw[q] at z;cases z
     ·have z2:=un.frzs b ob _ (fun y q=>by cases q) z
      obtain⟨e1,_⟩:=hok b _ z
      obtain⟨e2,_⟩:=hok' b _ z2
      rw[e] at e1;cases e1
      exact e2
 cases hk:K.lookup a with
 | some o =>
  have e:=KX a o hk
  rw[ha] at e
  cases e
  refine core (fun _=>none) (fun _=>.inl rfl) (.inr ⟨_,vs.toArray,_,hk,rfl,rfl,rfl,by rw[List.size_toArray,lenV];exact hl,by simpa using rv⟩) (fun b u z=>by have z':(none:Option HO)=some u:=z;cases z') (fun b z=>absurd rfl z) fun z=>absurd rfl z
 | none =>
  refine core (fun b=>if b=a then some (.frz {cls:=.type "list",data:=.seq vs.toArray} (.lst (ns.map V.int))) else none) (fun b=>?_) (.inl (.inr ⟨{cls:=.type "list",data:=.seq vs.toArray},if_pos rfl⟩)) (fun b u z=>?_) (fun b z=>?_) fun _=>hk
  ·by_cases hb:b=a
   ·exact .inr ⟨_,_,if_pos hb⟩
   ·exact .inl (if_neg hb)
  ·by_cases hb:b=a
   ·have z':=(if_pos hb).symm.trans z
    cases z'
    subst hb
    exact⟨ha,by rw[List.length_map];exact hl,vs,_,rv,ha⟩
   ·have z':=(if_neg hb).symm.trans z
    cases z'
  ·by_cases hb:b=a
   ·exact hb
   ·exact absurd (if_neg hb) z
end L2
namespace L2
open PySem PySem.Spec PyProof.Rows
abbrev KOf{K:PySem.W.Frag}{h:Heap}(_:K.In h):PySem.W.Frag:=K
theorem walk_of {l:PySem.W.OpenLaw} {n k:Nat} {q:Program} {loose:List Str} {XP:(Str->Option Value)->Heap->Prop} {YP:World->Heap->Prop} {d:DefRec} {K:Params->PySem.W.Frag} {CX:World->wc} {sp:World->Sp} {x:Str}
    (hn:l.most=some n) (hn2:n<=sizeLine) (hdf:d.params.defaults=[]) (hr:lb k callerA)
    (hY:∀(w:World) (h:Heap),YP w h->(K w.params).In h)
    (F:∀(w:World) (mg:Str->Option Value) (fa:Addr) (h:Heap),(K w.params).In h->h.Ns mainGlobals mg->mg d.name=some (.ref fa) ->
      ∃fd:FuncData,(∀(s:Shared) (u:Value),BindsTo s fd ⟨[u],[]⟩ [(x,u)]) /\
        ∀base:Heap,(K w.params).In base->base.Ns mainGlobals mg->kT l.prog w (K w.params) mg base (CX w) k fa fd [x] (sp w))
    (hsp:∀(w:World) (H:Hp) (a:Addr) (ns:List Int),ns.length<=n->Dc H->nO (K w.params) H a (ns.map V.int)->sp w [.ref a] H (fun v _=>v=.bl true) fun _ _ _=>False)
    (hCX:∀(w:World) (H:Hp) (s:Shared) (e:Value) (s':Shared),CX w [] H s (fun _ _ _=>False) e s'->False) :
    PySem.W.WalkO q loose XP YP l.row.toRowW d [] (fun f vs=>PySem.call f vs):=by
  refine Att.attach_call hn hdf fun w s₀ s₁ mg mb fa o pm cd doc a vs ns G Y ho hd hcd hmg hobj hints hlen hg=>?_
  have KX:=hY w _ Y
  obtain⟨fd,hb,hF⟩:=F w mg fa _ KX G.T.g hmg
  exact Ag KX G.T.g G.T.b G.T.builtins G.T.nolimit hg hobj hints (Nat.le_trans hlen hn2) hr hF hb (fun H hO hS=>hsp w H a ns hlen hO hS) fun H e s'=>hCX w H s₁ e s'
end L2
/- THE LAST THEOREM (shape;LID,My.* are yours):
  My.Adr: a structure of the addresses that your layer names (classes,functions);My.Txt K t: a structure (Prop) of the equations over K;
  My.txt_mk:{K} {implicit addresses ..} (e1:nsIn K mainGlobals "law" = some (some (.ref f))) (e2:K.lookup f=some ⟨oc,od,.func (fnOf "law" "law" params body scope dV kV doc pm an cdv ct),sl⟩) (e3:codeIn K cdv "law" = true) ..:∃t,My.Txt K t
set_option maxRecDepth 100000 in
set_option maxHeartbeats 0 in
theorem PySem.Challenge.cw_LID_holds : PySem.Challenge.rw_LID.Holds := by
 w_on;o_law;k_head;(case hw=>w_witness2)
 k_fill
 refine L2.walk_of (l:=PySem.Challenge.rw_LID) (n:=63) (k:=40) (x:="script") (CX:=fun w=>..) (sp:=fun _=>My.sp_law) rfl (by decide) rfl ⟨rfl,by decide,by decide⟩ (fun w h Y=>PySem.W.kIn_of Y) ?F ?S ?C
 case F =>
  intro w mg fa h KX G hmg
  have T:∃t,My.Txt (L2.KOf KX) t:=by
   dsimp only [L2.KOf]                          -- K must stand as «<heap const> w.params» for k_is
   refine' My.txt_mk ?e1 ?e2 ?e3 ..
   (case e1=>PySem.W.k_is)                    -- in the order: a name->its address->its object->its parts
   (case e2=>PySem.W.k_is)
   ..
  obtain⟨t,T⟩:=T
  have e0:=hmg.symm.trans (PySem.W.mg_of KX G T.law)
  cases e0                                       -- fa is the law's own address
  exact⟨_,fun s u=>.of_eq rfl,fun base kb nb=>My.law_fn T kb nb⟩     -- if «.of_eq rfl» comes too early: refine' ⟨_,?b,fun base kb nb=>My.law_fn T kb nb⟩;exact fun s u=>.of_eq rfl
 case S=>exact fun w H a ns hl hO hS=>..
 case C=>exact ..
(the tactic k_is has no namespace: write k_is) -/
namespace L2
open PySem PySem.Spec PyProof.Rows
def lD(s:Stmt):Arguments:=match s with
 | .FunctionDef _ a _ _ _ _ _ _ _ _=>a
 | _=>{posonlyargs:=[],args:=[],vararg:=none,kwonlyargs:=[],kw_defaults:=[],kwarg:=none,defaults:=[]}
def k7(s:Stmt):List Stmt:=match s with
 | .FunctionDef _ _ b _ _ _ _ _ _ _=>b
 | _=>[]
def i7(s:Stmt):Scope:=match s with
 | .FunctionDef _ _ _ _ _ _ sc _ _ _=>sc
 | _=>{kind:=.function,names:=[],isGenerator:=false,isCoroutine:=false}
abbrev mi:wc:=fun _ _ _ _ _ _=>False
abbrev E0:XK:=fun _ _ _=>False
theorem uw{X:Cx}:xa mi X E0:=fun _ _ _ _ _ _ _ h=>h.elim
structure qa (K:PySem.W.Frag) (x qual:Str) (st:Stmt) (f:Addr) (fd:FuncData):Prop where
 ex:∃(oc:Value) (od:Option Addr) (kV doc pm:Value) (an:Option Addr) (cdv ct:Value) (osl:Array (Option Value)),
  fd=PySem.W.fnOf x qual (lD st) (k7 st) (i7 st) .none kV doc pm an cdv ct/\K.lookup f=some ⟨oc,od,.func fd,osl⟩/\PySem.W.codeIn K cdv qual=true
 kp:PySem.W.keepIn K (.ref f)=true
section
variable{P:Program}{w:World}{K:PySem.W.Frag}{mg:Str->Option Value}{base:Heap}
theorem qa.ok {x qual:Str} {st:Stmt} {f:Addr} {fd:FuncData} {N ps:List Str} {k:Nat} {sp:Sp} (F:qa K x qual st f fd) (S:kL N ps (i7 st)) (len:∀ vs H Q E,sp vs H Q E->vs.length=ps.length)
    (hbody:∀(cdv:Value) (A:Around) (outer:List Env) (s:Shared) (H:Hp) (vs:List V) (Q:VK) (E:XK),lb k (A.deeper (envOfC qual (i7 st) s.heap.objs.size f cdv))->sp vs H Q E ->
      ∃t,PSs (pK mi P w K mg base N qual (i7 st) f cdv A outer s H E).nox (k7 st) t/\t {nx:=fun _ H'=>Q .non H',rt:=Q} (start N vs) H):kT P w K mg base mi (k+1) f fd ps sp:=by
  obtain⟨oc,od,kV,doc,pm,an,cdv,ct,osl,rfl,lk,hcd⟩:=F.ex
  refine ir lk hcd S len fun A outer s H vs Q E hr hsp=>?_
  obtain⟨t,h,q⟩:=hbody cdv A outer s H vs Q E hr hsp
  exact⟨t,h.nox,q⟩
theorem qa.binds{x qual:Str}{st:Stmt}{f:Addr}{fd:FuncData}{ps:List Str}(F:qa K x qual st f fd)
  (h:∀(kV doc pm:Value) (an:Option Addr) (cdv ct:Value) (us:List Value),us.length=ps.length->bindArgs (PySem.W.fnOf x qual (lD st) (k7 st) (i7 st) .none kV doc pm an cdv ct) ⟨us,[]⟩=pure (ps.zip us)):Binds K fd ps []:=by
 obtain⟨oc,od,kV,doc,pm,an,cdv,ct,osl,rfl,lk,hcd⟩:=F.ex
 exact .all (h kV doc pm an cdv ct)
theorem gP{x qual:Str}{st:Stmt}{f:Addr}{oc:Value}{od an:Option Addr}{osl:Array (Option Value)}{kV doc pm cdv ct:Value}(l:K.lookup f=some ⟨oc,od,.func (PySem.W.fnOf x qual (lD st) (k7 st) (i7 st) .none kV doc pm an cdv ct),osl⟩)
  (c:PySem.W.codeIn K cdv qual=true) (k:PySem.W.keepIn K (.ref f)=true):qa K x qual st f (PySem.W.fnOf x qual (lD st) (k7 st) (i7 st) .none kV doc pm an cdv ct):=⟨⟨oc,od,kV,doc,pm,an,cdv,ct,osl,rfl,l,c⟩,k⟩
end
theorem vE{A:Around}{k:Nat}(hr:lb k A):A.units+1<cLine:=Nat.lt_of_le_of_lt (Nat.add_le_add_left (by decide:1<=64) _) hr.units
theorem qQ{n:Nat}(h:n<=1000):n<sizeLine:=Nat.lt_of_le_of_lt h (by decide)
section
variable{X:Cx}
theorem pv(i:Nat){x:Str}{pos:Pos}(hN:X.N[i]?=some x:=by rfl)(hv:vC X.env.scope x:=by first | exact Or.inl rfl | exact Or.inr (Or.inl rfl) | exact Or.inr (Or.inr rfl))(hd:(x==("__debug__" : Str))=false:=by decide)
  (hcd:(x==("__classdict__" : Str))=false:=by decide):PE X (.Name x pos) (Ft i):=fE hN hv hd hcd
end
def ku(H H':Hp):Prop:=∀b o,H b=some o->H' b=some o
theorem ku.refl(H:Hp):ku H H:=fun _ _ h=>h
theorem ku.trans{H H1 H2:Hp}(a:ku H H1)(b:ku H1 H2):ku H H2:=fun c o h=>b c o (a c o h)
theorem ku.free{H H':Hp}(e:ku H H'){l:Addr}(h:H' l=Option.none):H l=Option.none:=by
 cases q:H l with
 | none=>rfl
 | some o =>
  rw[e l o q] at h
  cases h
theorem ku.seq{K:PySem.W.Frag}{H H':Hp}{a:Addr}{xs:List V}(e:ku H H')(h:nO K H a xs):nO K H' a xs:=by
 rcases h with (h | ⟨o,h⟩) | h
 ·exact .inl (.inl (e _ _ h))
 ·exact .inl (.inr ⟨o,e _ _ h⟩)
 ·exact .inr h
end L2
set_option maxHeartbeats 1000000
namespace HW
open PySem PySem.Spec PyProof.Rows L2
structure kR where
 c:Addr
 P:Addr
 q:Str
def t8(ts:List kR)(b:Addr):Option HO:=(ts.find? fun t=>t.P==b).map fun t=>.tbl t.q false
theorem rX{ts:List kR}{b:Addr}{u:HO}(h:t8 ts b=some u):∃t∈ts,t.P=b/\u=.tbl t.q false:=by
 unfold t8 at h
 cases e:ts.find? fun t=>t.P==b with
 | none=>rw[e] at h;cases h
 | some t =>
  rw[e] at h
  cases h
  exact⟨t,List.mem_of_find?_eq_some e,by simpa using List.find?_some e,rfl⟩
def yH(ts:List kR)(a:Addr)(H:Hp):Prop:=∀b,(b≠a/\H b=t8 ts b)\/(b=a/\(H b=none\/∃o xs,H b=some (.frz o (.lst xs))))
structure lz (mg:Str->Option Value) (ts:List kR) (base:Heap):Prop where
 code:∀t∈ts,W.CodeHd base t.c t.P
 bm:∃bm o,mg "__builtins__" = some (.ref bm)/\bm≠builtinsNs/\bm≠mainGlobals/\base.get? bm=some o/\o.cls=.type "module" /\ o.dict=some builtinsNs/\o.data=.plain
theorem ze{P:Program}{w:World}{K:W.Frag}{mg mb:Str->Option Value}{CX:wc}{k:Nat}{fa a:Addr}{fd:FuncData}{x:Str}{sp:Sp}{s₁:Shared}{vs:List Value}{ns:List Int}{ts:List kR}
  (KX:K.In s₁.heap) (hns:s₁.heap.Ns mainGlobals mg) (hb:s₁.heap.Ns builtinsNs mb) (hbb:∀x:Str,x ≠ "__name__" -> mb x=bootBuiltins x) (hlim:s₁.heap.NoLimit) (hg:s₁.gens=#[])
  (ha:s₁.heap.get? a=some {cls:=.type "list",data:=.seq vs.toArray}) (hi:IntsAre vs ns) (hl:ns.length<=sizeLine) (hr:lb k callerA)
  (hT:∀t∈ts,W.CodeHd s₁.heap t.c t.P/\s₁.heap.get? t.P=some (W.tabObj #[])) (hK:∀t∈ts,K.lookup t.P=none)
  (hbm:∃bm o,mg "__builtins__" = some (.ref bm)/\bm≠builtinsNs/\bm≠mainGlobals/\s₁.heap.get? bm=some o/\o.cls=.type "module" /\ o.dict=some builtinsNs/\o.data=.plain)
  (F:∀base:Heap,K.In base->base.Ns mainGlobals mg->lz mg ts base->kT P w K mg base CX k fa fd [x] sp) (hbind:∀(s:Shared) (u:Value),BindsTo s fd ⟨[u],[]⟩ [(x,u)])
  (hsp:∀H:Hp,yH ts a H->(∀t∈ts,t.P≠a)->nO K H a (ns.map V.int)->sp [.ref a] H (fun v _=>v=.bl true) fun _ _ _=>False)
  (hCX:∀H e s',CX [] H s₁ (fun _ _ _=>False) e s'->False) :
  codeAny (model P w) callerA (.call (.ref fa) ⟨[.ref a],[]⟩) (fun r s'=>r=.ok (.ret (.bool true))/\OldK s₁.heap s'.heap/\s'.os=s₁.os/\AllBare s'.gens) s₁:=by
 have rv:=bD hi
 have lenV:=hi.length
 have aP:∀t∈ts,t.P≠a:=fun t ht z=>by
  have e:=(hT t ht).2
  rw[z,ha] at e;cases e
 have tabOk:∀(H:Hp) {b:Addr} {u:HO},t8 ts b=some u->lF P w H s₁.heap b u:=fun H {b u} h=>by
  obtain⟨t,ht,rfl,rfl⟩:=rX h
  exact⟨#[],(hT t ht).2,trivial,fun pos cv hc=>by cases hc⟩
 have core:∀H:Hp,yH ts a H->nO K H a (ns.map V.int)->pL P w H s₁.heap->(H a≠none->K.lookup a=none) ->
   codeAny (model P w) callerA (.call (.ref fa) ⟨[.ref a],[]⟩) (fun r s'=>r=.ok (.ret (.bool true))/\OldK s₁.heap s'.heap/\s'.os=s₁.os/\AllBare s'.gens) s₁:=by
  intro H hO hS hok hKa
  have what:∀{b:Addr} {u:HO},H b=some u->(b=a)\/∃t∈ts,t.P=b/\u=.tbl t.q false:=fun {b u} e=>by
   rcases hO b with ⟨_,z⟩ | ⟨z,_⟩
   ·rw[e] at z;exact .inr (rX z.symm)
   ·exact .inl z
  have base_of:∀{b:Addr} {o:Obj},s₁.heap.get? b=some o->H b=none->(pT s₁.heap H).get? b=some o:=fun e n=>wq e n
  have free:∀{b:Addr} {o:Obj},s₁.heap.get? b=some o->(∀(its:Array Value) n,o.data≠.seq its n)->(o.cls≠.none)->H b=none:=fun {b o} e h1 h2=>by
   cases q:H b with
   | none=>rfl
   | some u =>
    rcases what q with z | ⟨t,ht,z,_⟩
    ·rw[z,ha] at e;cases e;exact absurd rfl (h1 _ _)
    ·rw[<- z,(hT t ht).2] at e;cases e;exact absurd rfl h2
  have noA:∀{b:Addr} {o:Obj} {es:Array DictEntry} {ep:Nat},s₁.heap.get? b=some o->o.data=.dict es ep->H b=none:=fun {b o es ep} e d=>by
   cases q:H b with
   | none=>rfl
   | some u =>
    rcases what q with z | ⟨t,ht,z,_⟩
    ·rw[z,ha] at e;cases e;cases (show Data.seq vs.toArray _=Data.dict es ep from d)
    ·rw[<- z,(hT t ht).2] at e;cases e;cases d
  have nsK:∀{b:Addr} {m:Str->Option Value},s₁.heap.Ns b m->(pT s₁.heap H).Ns b m:=fun {b m} ⟨o,es,ep,e,d,r⟩=>⟨o,es,ep,base_of e (noA e d),d,r⟩
  have hKb:K.In (pT s₁.heap H):=fun b o e=>base_of (KX b o e) (by
   cases q:H b with
   | none=>rfl
   | some u =>
    rcases what q with z | ⟨t,ht,z,_⟩
    ·subst z;rw[hKa (by rw[q];simp)] at e;cases e
    ·rw[<- z,hK t ht] at e;cases e)
  have hM:Mod K mg (pT s₁.heap H):=⟨hKb,nsK hns,⟨mb,nsK hb,hbb⟩,let ⟨mc,h1,h2⟩:=hlim;⟨mc,nsK h1,h2⟩⟩
  have hTB:lz mg ts (pT s₁.heap H):=by
   refine⟨fun t ht=>?_,?_⟩
   ·obtain⟨o,vs',file,tf,flags,tg,inF,text,tt,e,ec,ed,r⟩:=(hT t ht).1
    exact⟨o,vs',file,tf,flags,tg,inF,text,tt,base_of e (free e (fun its n z=>by rw[ed] at z;cases z) (by rw[ec];simp)),ec,ed,r⟩
   ·obtain⟨bm,o,b1,b2,b3,b4,b5,b6,b7⟩:=hbm
    exact⟨bm,o,b1,b2,b3,base_of b4 (free b4 (fun its n z=>by rw[b7] at z;cases z) (by rw[b5];simp)),b5,b6,b7⟩
  have e0:qJ P w K mg (pT s₁.heap H) callerA [] s₁ H:=⟨rfl,hM,fun b o e=>yl e,Nat.le_of_eq (ue _ _),trivial,fun b hb=>absurd (show b∈([]:List Addr) from hb) (by simp),hok,.of_eq hg⟩
  refine codeAny_mono ((F _ hKb (nsK hns) hTB).run callerA [] s₁ H ⟨[.ref a],[]⟩ [.ref a] [.ref a] _ _ hr e0 (hbind s₁ (.ref a)) (.cons rfl .nil) (hsp H hO aP hS)) fun r s' h=>?_
  cases r with
  | error e=>exact(hCX H e s' h).elim
  | ok fl =>
   cases fl with
   | next=>exact False.elim h
   | brk=>exact False.elim h
   | cont=>exact False.elim h
   | ret u =>
    obtain⟨v,H',os,bare,un,hok',r',q⟩:=h
    have q':v=.bl true:=q
    subst q'
    obtain rfl:u=Value.bool true:=r'
    have tab:∀{b:Addr} {o:Obj},s₁.heap.get? b=some o->(s'.heap.get? b=some o)\/∃t∈ts,t.P=b/\o=W.tabObj #[]/\∃ps,s'.heap.get? b=some (W.tabObj ps):=fun {b o} e=>by
     cases qb:H b with
     | none=>exact .inl (un.keep b o e qb (by intro z;exact absurd (show b∈([]:List Addr) from z) (by simp)) (by simp))
     | some u =>
      rcases hO b with ⟨_,z⟩ | ⟨_,z⟩
      ·rw[qb] at z
       obtain⟨t,ht,zP,rfl⟩:=rX z.symm
       have z2:=un.tbls b _ _ qb
       obtain⟨ps,g,_⟩:=(show lF P w H' s'.heap b (.tbl t.q false) from hok' b _ z2)
       have e2:=(hT t ht).2
       rw[zP,e] at e2
       exact .inr ⟨t,ht,zP,Option.some.inj e2,ps,g⟩
      ·rcases z with z | ⟨ob,xs,z⟩
       ·rw[qb] at z;cases z
       ·have z2:=un.frzs b ob _ (fun y q=>by cases q) z
        obtain⟨e1,_⟩:=hok b _ z
        obtain⟨e2,_⟩:=hok' b _ z2
        rw[e] at e1;cases e1
        exact .inl e2
    refine⟨rfl,⟨fun b o e=>?_,fun b o e=>?_⟩,os,bare⟩
    ·rcases tab e with z | ⟨t,ht,rfl,rfl,ps,g⟩
     ·exact .inl z
     ·exact .inr (.inl ⟨((hT t ht).1.tab (hT t ht).2).isCodeTable,rfl,#[],ps,rfl,by rw[Array.empty_append];exact g⟩)
    ·rcases tab e with z | ⟨t,ht,rfl,rfl,ps,g⟩
     ·exact⟨_,z⟩
     ·exact⟨_,g⟩
 cases hk:K.lookup a with
 | some o =>
  have e:=KX a o hk
  rw[ha] at e
  cases e
  have hn:t8 ts a=none:=by
   cases q:t8 ts a with
   | none=>rfl
   | some u=>obtain⟨t,ht,z,_⟩:=rX q;exact absurd z (aP t ht)
  refine core (t8 ts) (fun b=>?_) (.inr ⟨_,vs.toArray,_,hk,rfl,rfl,rfl,by rw[List.size_toArray,lenV];exact hl,by simpa using rv⟩) (fun b u z=>tabOk _ z) fun z=>absurd hn z
  by_cases hb:b=a
  ·exact .inr ⟨hb,.inl (by rw[hb];exact hn)⟩
  ·exact .inl ⟨hb,rfl⟩
 | none =>
  refine core (fun b=>if b=a then some (.frz {cls:=.type "list",data:=.seq vs.toArray} (.lst (ns.map V.int))) else t8 ts b) (fun b=>?_) (.inl (.inr ⟨{cls:=.type "list",data:=.seq vs.toArray},if_pos rfl⟩)) (fun b u z=>?_) fun _=>hk
  ·by_cases hb:b=a
   ·exact .inr ⟨hb,.inr ⟨_,_,if_pos hb⟩⟩
   ·exact .inl ⟨hb,if_neg hb⟩
  ·by_cases hb:b=a
   ·have z':=(if_pos hb).symm.trans z
    cases z'
    subst hb
    exact⟨ha,by rw[List.length_map];exact hl,vs,_,rv,ha⟩
   ·exact tabOk _ ((if_neg hb).symm.trans z)
theorem qB{i j:Int}{t u:Tok}{c:Value}:∀{l:List Value},TriplesOk l->TriplesOk (l++[.int i t,.int j u,c])
 | [],_=>trivial
 | .int _ _::.int _ _::_::rest,h=>qB (l:=rest) h
theorem tO{pos:Pos}{i j:Int}{t u:Tok}{c cv:Value}:∀{l:List Value},TriplesOk l->codeAmong pos (l++[.int i t,.int j u,c])=some cv->codeAmong pos l=some cv\/cv=c
 | [],_,h=>by
  have h':(if (i==pos.line&&j==pos.col)=true then some c else codeAmong pos [])=some cv:=h
  split at h'
  ·cases h';exact .inr rfl
  ·cases h'
 | .int a ta::.int b tb::d::rest,hl,h=>by
  have h':(if (a==pos.line&&b==pos.col)=true then some d else codeAmong pos (rest++[.int i t,.int j u,c]))=some cv:=h
  show(if (a==pos.line&&b==pos.col)=true then some d else codeAmong pos rest)=some cv\/_
  split at h'
  ·rename_i z;rw[if_pos z];exact .inl h'
  ·rename_i z;rw[if_neg z];exact tO (l:=rest) hl h'
section
variable{X:Cx}{pins:List (Addr×Obj)}{σ:L2.St}{H:Hp}{s:Shared}
abbrev oH(o:Obj):HO:=.frz o (.ext fun _=>True)
theorem Bc{t:kR}{ts:List kR}{name:Str}{params:Arguments}{body:Expr}{scope:Scope}{clos:List (Str×Addr)}{pos:Pos}{line:Nat}(I:L2.Inv X pins σ H s)(TB:lz X.mg ts X.base)(ht:t∈ts)(hP:H t.P=some (.tbl t.q false))(hcode:X.env.code=.ref t.c)
  (hcl:closureFor scope X.env=pure clos):wpAny (model X.prog X.w) X.A (makeFunction name t.q params (.expr body) scope X.env [] [] [] pos line)
   (fun v s'=>∃f c' ctv pm H',v=.ref f/\L2.Inv X pins σ H' s'/\ku H H'/\H f=none/\H' f=some (oH (W.kla_obj name t.q params body scope clos pm c' ctv))/\H' c'=some (.tbl t.q true)) X.xe s:=by
 obtain⟨tv,eP,tr,ent⟩:=(show lF X.prog X.w H s.heap t.P (.tbl t.q false) from I.hok _ _ hP)
 have hg:s.heap.Ns mainGlobals X.mg:=I.mod.glob.keeps I.bk
 have C:W.CodeHd s.heap t.c t.P:=(TB.code t ht).keeps I.bk
 have nbase:∀{b:Addr} {o:Obj},X.base.get? b=some o->b≠t.P:=fun e z=>by
  have:=(I.bs _ _ e).2
  rw[z,hP] at this;cases this
 have hgP:mainGlobals≠t.P:=by
  obtain⟨o,_,_,e,_⟩:=I.mod.glob
  exact nbase e
 have hb:s.heap.BuiltinsAt X.mg t.P:=by
  obtain⟨bm,o,b1,b2,b3,b4,b5⟩:=TB.bm
  exact⟨bm,o,b1,b2,b3,nbase b4,I.bk _ _ b4,b5⟩
 cases hc:codeAmong pos tv.toList with
 | none =>
  refine W.kla_makeFunction hcl I.ok.glob hg hcode C eP tr hc hgP hb fun c' ctv h' tk hx hge hlt hrec htb=>?_
  have hcs:∀{b:Addr} {u:HO},H b=some u->b≠c'/\b≠h'.objs.size:=fun e=>by
   have q:=I.hok.lt e
   exact⟨Nat.ne_of_lt (Nat.lt_of_lt_of_le q hge),Nat.ne_of_lt (Nat.lt_of_lt_of_le q (Nat.le_trans hge (Nat.le_of_lt hlt)))⟩
  have hF:H h'.objs.size=none:=I.hok.fresh (Nat.le_trans hge (Nat.le_of_lt hlt))
  have hCn:H c'=none:=I.hok.fresh hge
  refine⟨h'.objs.size,c',ctv,_,upd (upd H c' (.tbl t.q true)) h'.objs.size (oH (W.kla_obj name t.q params body scope clos ((X.mg "__name__").getD .none) c' ctv)),rfl,?_,fun b u e=>?_,hF,ai,?_⟩
  ·have kp:∀b o,b≠t.P->s.heap.get? b=some o->(h'.push (W.kla_obj name t.q params body scope clos ((X.mg "__name__").getD .none) c' ctv)).get? b=some o:=fun b o nb e=>Heap.get?_push_of_some _ (hx b o nb e)
   have nP:∀{b:Addr},H b=none->b≠t.P:=fun e z=>by rw[z,hP] at e;cases e
   have st:∀{b:Addr} {u:HO},H b=some u->upd (upd H c' (.tbl t.q true)) h'.objs.size (oH (W.kla_obj name t.q params body scope clos ((X.mg "__name__").getD .none) c' ctv)) b=some u:=fun e=>by rw[aj (hcs e).2,aj (hcs e).1];exact e
   refine I.un ⟨fun b o e n _ _=>kp b o (nP n) e,fun b o e n _ _=>⟨o.slots,kp b o (nP n) e⟩,fun b o e n _=>?_,fun b o e _=>?_,fun b xs e=>st e,fun b o u _ e=>st e,fun b q d e=>st e⟩ fun b u e=>?_
   ·have q:=Heap.lt_size e
    rw[aj (Nat.ne_of_lt (Nat.lt_of_lt_of_le q (Nat.le_trans hge (Nat.le_of_lt hlt)))),aj (Nat.ne_of_lt (Nat.lt_of_lt_of_le q hge))];exact n
   ·by_cases hb:b=t.P
    ·exact⟨_,by rw[hb];exact Heap.get?_push_of_some _ htb⟩
    ·exact⟨o,kp b o hb e⟩
   ·by_cases hbf:b=h'.objs.size
    ·subst hbf
     rw[ai] at e
     cases e
     exact⟨Heap.get?_push_size _ rfl,trivial,⟨_,Heap.get?_push_size _ rfl⟩,fun _ _ _ _=>trivial⟩
    ·rw[aj hbf] at e
     by_cases hbc:b=c'
     ·subst hbc
      rw[ai] at e
      cases e
      exact hrec.push _
     ·rw[aj hbc] at e
      by_cases hbP:b=t.P
      ·subst hbP
       rw[hP] at e
       cases e
       refine⟨_,Heap.get?_push_of_some _ htb,by rw[Array.toList_append];exact qB tr,fun pos' cv hcv=>?_⟩
       rw[Array.toList_append] at hcv
       rcases tO tr hcv with z | z
       ·obtain⟨c2,e1,e2⟩:=ent pos' cv z
        exact⟨c2,e1,st e2⟩
       ·exact⟨c',z,by rw[aj (Nat.ne_of_lt hlt),ai]⟩
      ·refine(I.hok b u e).stay (fun c v hcb r=>kp c v (fun z=>?_) r) (fun c r=>st r) (fun c xs r=>st r) fun c q d r=>st r
       rcases hcb with rfl | hcb
       ·exact hbP z
       ·rw[z,hP] at hcb;cases hcb
  ·rw[aj (hcs e).2,aj (hcs e).1];exact e
  ·rw[aj (Nat.ne_of_lt hlt),ai]
 | some cv =>
  obtain⟨c',rfl,hcC⟩:=ent pos cv hc
  refine W.kla_makeFunctionHit hcl I.ok.glob hg hcode C eP tr hc hb fun ctv h' tk hk hsz=>?_
  have hcs:∀{b:Addr} {u:HO},H b=some u->b≠h'.objs.size:=fun e=>by
   exact Nat.ne_of_lt (Nat.lt_of_lt_of_le (I.hok.lt e) hsz)
  have hF:H h'.objs.size=none:=I.hok.fresh hsz
  refine⟨h'.objs.size,c',ctv,_,upd H h'.objs.size (oH (W.kla_obj name t.q params body scope clos ((X.mg "__name__").getD .none) c' ctv)),rfl,?_,fun b u e=>?_,hF,ai,?_⟩
  ·have kp:∀b o,s.heap.get? b=some o->(h'.push (W.kla_obj name t.q params body scope clos ((X.mg "__name__").getD .none) c' ctv)).get? b=some o:=fun b o e=>Heap.get?_push_of_some _ (hk b o e)
   have st:∀{b:Addr} {u:HO},H b=some u->upd H h'.objs.size (oH (W.kla_obj name t.q params body scope clos ((X.mg "__name__").getD .none) c' ctv)) b=some u:=fun e=>by rw[aj (hcs e)];exact e
   refine I.un ⟨fun b o e n _ _=>kp b o e,fun b o e n _ _=>⟨o.slots,kp b o e⟩,fun b o e n _=>?_,fun b o e _=>⟨o,kp b o e⟩,fun b xs e=>st e,fun b o u _ e=>st e,fun b q d e=>st e⟩ fun b u e=>?_
   ·rw[aj (Nat.ne_of_lt (Nat.lt_of_lt_of_le (Heap.lt_size e) hsz))];exact n
   ·by_cases hbf:b=h'.objs.size
    ·subst hbf
     rw[ai] at e
     cases e
     exact⟨Heap.get?_push_size _ rfl,trivial,⟨_,Heap.get?_push_size _ rfl⟩,fun _ _ _ _=>trivial⟩
    ·rw[aj hbf] at e
     exact(I.hok b u e).stay (fun c v _ r=>kp c v r) (fun c r=>st r) (fun c xs r=>st r) fun c q d r=>st r
  ·rw[aj (hcs e)];exact e
  ·rw[aj (hcs hcC)];exact hcC
end
theorem m5{α:Type}:∀{l:List (Str×α)} {x:Str} {u:α},(l.map (·.1)).Nodup->(x,u)∈l->l.lookup x=some u
 | (y,v)::l,x,u,nd,h=>by
  rw[List.map_cons,List.nodup_cons] at nd
  rw[List.lookup_cons]
  rcases List.mem_cons.mp h with e | h
  ·cases e;simp
  ·have hn:(x==y)=false:=beq_eq_false_iff_ne.mpr fun z=>nd.1 (List.mem_map.mpr ⟨(x,u),h,z⟩)
   rw[hn]
   exact m5 nd.2 h
def lX(cl:List (Str×Addr))(b:Addr):Bool:=cl.any fun p=>p.2==b
def m6(cl:List (Str×Addr))(H:Hp):Hp:=fun b=>if lX cl b then none else H b
def uf(cl:List (Str×Addr))(H H2:Hp):Hp:=fun b=>if lX cl b then H b else H2 b
theorem wU{cl:List (Str×Addr)}{x:Str}{c:Addr}(h:cl.lookup x=some c):lX cl c=true:=List.any_eq_true.mpr ⟨(x,c),PySem.mem_of_lookup h,by simp⟩
structure og (N ps:List Str) (sc:Scope) (cl:List (Str×Addr)):Prop where
 kind:sc.kind=.function
 co:sc.isCoroutine=false
 gen:sc.isGenerator=false
 nd:N.Nodup
 pre:N.take ps.length=ps
 par:∀x∈ps,sc.names.lookup x=some .local
 nocell:∀y∈sc.names,y.2≠.cell
 fre:∀x∈N.drop ps.length,sc.names.lookup x=some .free
 has:∀x,sc.names.lookup x=some .free->∃c,cl.lookup x=some c
 ndc:(cl.map (·.1)).Nodup
 inj:∀x y c,cl.lookup x=some c->cl.lookup y=some c->x=y
def pC(H:Hp)(N ps:List Str)(cl:List (Str×Addr))(caps:List V):Prop:=
 caps.length=N.length - ps.length/\(∀b,lX cl b=true->∃o u,H b=some (oH o)/\o.data=.cell (some u))/\∀(i:Nat) (x:Str) (v:V),(N.drop ps.length)[i]?=some x->caps[i]?=some v->∃c o u,cl.lookup x=some c/\H c=some (oH o)/\o.data=.cell (some u)/\RelV v u
theorem pC.to{H H':Hp}{N ps:List Str}{cl:List (Str×Addr)}{caps:List V}(h:pC H N ps cl caps)(s:∀b o,H b=some (oH o)->H' b=some (oH o)):pC H' N ps cl caps:=by
 obtain⟨h1,h2,h3⟩:=h
 refine⟨h1,fun b hb=>?_,fun i x v q1 q2=>?_⟩
 ·obtain⟨o,u,e,d⟩:=h2 b hb
  exact⟨o,u,s b o e,d⟩
 ·obtain⟨c,o,u,e1,e2,r⟩:=h3 i x v q1 q2
  exact⟨c,o,u,e1,s c o e2,r⟩
def yh(CX:wc)(P:Program)(w:World)(K:W.Frag)(mg:Str->Option Value)(base:Heap)(N:List Str)(qual:Str)(scope:Scope)(cl:List (Str×Addr))(f:Addr)(cd:Value)(A:Around)(outer:List Env)(s:Shared)(H:Hp)(E:XK):Cx where
 prog:=P
 w:=w
 K:=K
 mg:=mg
 base:=base
 A:=A.deeper (W.envX qual scope s.heap.objs.size f cd cl)
 N:=N
 s₀:=s
 H₀:=m6 cl H
 env:=W.envX qual scope s.heap.objs.size f cd cl
 outer:=outer
 stack:=W.envX qual scope s.heap.objs.size f cd cl::outer
 ex:=[]
 calm:=true
 fn:=fun _=>false
 pn:=[]
 xe:=fun e s'=>wpAny (model P w) (A.deeper (W.envX qual scope s.heap.objs.size f cd cl)) (leaving (W.envX qual scope s.heap.objs.size f cd cl) e) (fun _ s''=>CX outer H s E e s'') (fun e' s''=>CX outer H s E e' s'') s'
theorem Dn {CX:wc} {P:Program} {w:World} {K:W.Frag} {mg:Str->Option Value} {base:Heap} {k:Nat} {f c':Addr} {name qual:Str} {params:Arguments} {body:Expr} {scope:Scope} {cl:List (Str×Addr)} {pm ctv:Value} {N ps:List Str} {sp:Sp}
    (S:og N ps scope cl) (len:∀vs H Q E,sp vs H Q E->vs.length=ps.length)
    (pre:∀vs H Q E,sp vs H Q E->H f=some (oH (W.kla_obj name qual params body scope cl pm c' ctv))/\H c'=some (.tbl qual true))
    (hbody:∀(A:Around) (outer:List Env) (s:Shared) (H:Hp) (vs:List V) (Q:VK) (E:XK),lb k (A.deeper (W.envX qual scope s.heap.objs.size f (.ref c') cl))->qJ P w K mg base A outer s H->sp vs H Q E ->
      ∃caps t,pC H N ps cl caps/\PE (yh CX P w K mg base N qual scope cl f (.ref c') A outer s H E) body t/\t ((vs++caps).map some) (m6 cl H) fun v H2=>(∀b u,H2 b=some u->uf cl H H2 b=some u)->Q v (uf cl H H2)) :
    kT P w K mg base CX (k+1) f (W.kla_fn name qual params body scope cl pm (.ref c') ctv) ps sp:=by
  refine⟨len,fun A outer s H args us vs Q E hr e0 hb r hsp=>?_⟩
  have hl:=len _ _ _ _ hsp
  obtain⟨hf,hc'⟩:=pre _ _ _ _ hsp
  obtain⟨caps,t,⟨cl1,cl2,cl3⟩,ht,hq⟩:=hbody A outer s H vs Q E (hr.deeper _) e0 hsp
  have lim:s.heap.NoLimit:=e0.mod.nolimit.keeps fun b o e=>(e0.bs b o e).1
  have ndP:ps.Nodup:=by rw[<- S.pre];exact S.nd.sublist (List.take_sublist _ _)
  have hpl:ps.length<=N.length:=by have:=congrArg List.length S.pre;rw[List.length_take] at this;omega
  have hul:us.length=ps.length:=by rw[<- r.length];exact hl
  have dr:∀{b:Addr} {u:HO},H b=some u->(∀o,u≠oH o)->lX cl b=false:=fun {b u} e n=>by
    cases q:lX cl b with
    | false=>rfl
    | true=>obtain⟨o,v,z,_⟩:=cl2 b q;rw[e] at z;cases z;exact absurd rfl (n o)
  have dk:∀{b:Addr} {u:HO},H b=some u->(∀o,u≠oH o)->m6 cl H b=some u:=fun {b u} e n=>by
    show(if lX cl b then none else H b)=_
    rw[dr e n];exact e
  have dn:∀{b:Addr},H b=none->m6 cl H b=none:=fun {b} e=>by
    show(if lX cl b then none else H b)=_
    split
    · rfl
    · exact e
  refine W.kla_callFunE hr.depth (e0.hok f _ hf).1 rfl S.co S.gen rfl (show lF P w H s.heap c' (.tbl qual true) from e0.hok c' _ hc') (hb _ _ _ _ ?_)
  refine wpAny_newFunctionEnv S.nocell (fun ⟨n,v⟩ hy=>S.par n (List.of_mem_zip hy).1) (fun h₁ hns hsb=>⟨lim.fresh _ hsb,?_⟩) S.kind
  show codeAny _ _ (.expr body (W.envX qual scope s.heap.objs.size f (.ref c') cl)) _ _
  have hk:∀b o,s.heap.get? b=some o->h₁.get? b=some o:=fun b o e=>hsb.extBut b o (Nat.ne_of_lt (Heap.lt_size e)) (Heap.get?_push_of_some _ e)
  have noA:∀b:Addr,b∉(yh CX P w K mg base N qual scope cl f (.ref c') A outer s H E).ex:=fun b z=>absurd (show b∈([]:List Addr) from z) (by simp)
  have hcell:∀x c,cl.lookup x=some c->∃u,h₁.IsCell c (some u):=fun x c e=>by
    obtain⟨o,u,z,d⟩:=cl2 c (wU e)
    exact⟨u,o,hk _ _ (e0.hok c _ z).1,d⟩
  have I:L2.Inv (yh CX P w K mg base N qual scope cl f (.ref c') A outer s H E) [] ((vs++caps).map some) (m6 cl H) {s with heap:=h₁,toks:=s.toks+(ps.zip us).length}:=by
    refine⟨⟨e0.mod,S.kind,rfl,rfl,Nat.le_refl _,S.inj,fun y hy=>?_,fun y c z _=>(by cases z),fun _=>hr.hd,Around.frames_deeper e0.frames,.inr ⟨rfl,rfl⟩,fun b z=>absurd z (noA b),fun b o e=>⟨(e0.bs b o e).1,dn (e0.bs b o e).2⟩,e0.bsz,fun b _ _=>noA b,fun b z=>absurd z (noA b),e0.funs,fun b hb=>dn (e0.frf b hb)⟩,
      rfl,e0.bare,Un.kept hk,⟨_,hns,fun i y v h1 h2 h3=>?_⟩,fun y c h=>let ⟨u,z⟩:=hcell y c h;⟨_,z⟩,dn (e0.hok.fresh (Nat.le_refl _)),fun y c h=>?_,fun p hp=>absurd (show p∈([]:List (Addr×Obj)) from hp) (by simp),fun b u e=>?_,?_⟩
    · have hy:scope.names.lookup y=some .cell\/scope.names.lookup y=some .free:=hy
      rcases hy with hy | hy
      · exact absurd rfl (S.nocell _ (PySem.mem_of_lookup hy))
      · exact S.has y hy
    · rw[List.getElem?_map] at h2
      cases e:(vs++caps)[i]? with
      | none=>rw[e] at h2;cases h2
      | some z =>
        rw[e] at h2
        cases h2
        by_cases hi:i<vs.length
        · rw[List.getElem?_append_left hi] at e
          obtain⟨u,hu,rv⟩:=r.get e
          have hp:ps[i]?=some y:=by rw[<- S.pre,List.getElem?_take_of_lt (by omega)];exact h1
          refine⟨u,rv,.inl ⟨S.par y (List.mem_of_getElem? hp),?_⟩⟩
          show(ps.zip us).reverse.lookup y=some u
          refine m5 ?_ ?_
          · rw[List.map_reverse,List.map_fst_zip (by omega),List.Nodup,List.pairwise_reverse];exact ndP.imp fun h=>Ne.symm h
          · rw[List.mem_reverse]
            exact List.mem_of_getElem? (i:=i) (List.getElem?_zip_eq_some.mpr ⟨hp,hu⟩)
        · rw[List.getElem?_append_right (by omega)] at e
          have hd:(N.drop ps.length)[i - vs.length]?=some y:=by rw[List.getElem?_drop,show ps.length+(i - vs.length)=i by omega];exact h1
          obtain⟨c,o,u,h4,h5,h6,h7⟩:=cl3 _ y v hd e
          exact⟨u,h7,.inr ⟨.inr (S.fre y (List.mem_of_getElem? hd)),c,h4,o,hk _ _ (e0.hok c _ h5).1,h6⟩⟩
    · show(if lX cl c then none else H c)=none
      rw[wU (show cl.lookup y=some c from h)];rfl
    · have e':(if lX cl b then none else H b)=some u:=e
      cases q:lX cl b with
      | true=>rw[q] at e';cases e'
      | false =>
        rw[q] at e'
        exact(e0.hok b u e').stay (fun c v _ g=>hk c v g) (fun c g=>dk g fun o z=>by cases z) (fun c xs g=>dk g fun o z=>by cases z) fun c a d g=>dk g fun o z=>by cases z
    · show((vs++caps).map some).length=N.length
      rw[List.length_map,List.length_append,cl1,hl];omega
  refine W.kla_codeExpr (wpAny_mono (ht [] _ _ _ _ I hq) (fun u s' hs=>?_) fun e s' hs=>hs)
  obtain⟨v,H2,J,rv,q⟩:=hs
  have cellKept:∀{b:Addr},lX cl b=true->∃o,H b=some (oH o)/\s'.heap.get? b=some o:=fun {b} hb=>by
    obtain⟨o,u',z,_⟩:=cl2 b hb
    have hfr:b∉x5 outer:=fun m=>by rw[e0.frf b m] at z;cases z
    exact⟨o,z,J.base.keep b o (e0.hok b _ z).1 (by show(if lX cl b then none else H b)=none;rw[hb];rfl) hfr (noA b)⟩
  have bk:∀{b:Addr} {u:HO},H2 b=some u->uf cl H H2 b=some u:=fun {b u} e=>by
    show(if lX cl b then H b else H2 b)=_
    cases qq:lX cl b with
    | false=>exact e
    | true =>
      obtain⟨p,hp,hpb⟩:=List.any_eq_true.mp qq
      have this:∃x,cl.lookup x=some b:=⟨p.1,m5 S.ndc (by rw[<- eq_of_beq hpb];exact hp)⟩
      obtain⟨x,hx⟩:=this
      have:=J.freeC x b hx
      rw[this] at e;cases e
  have bc:∀{b:Addr},lX cl b=true->uf cl H H2 b=H b:=fun {b} hb=>by show(if lX cl b then H b else H2 b)=_;rw[hb];rfl
  have bn:∀{b:Addr},lX cl b=false->uf cl H H2 b=H2 b:=fun {b} hb=>by show(if lX cl b then H b else H2 b)=_;rw[hb];rfl
  refine⟨v,uf cl H H2,J.os,J.bare,⟨fun b o e n hf' hx=>J.base.keep b o e (dn n) hf' (noA b),fun b o e n hf' hx=>J.base.slot b o e (dn n) hf' (noA b),fun b o e n hx=>?_,fun b o e hx=>J.base.there b o e (noA b),fun b xs e=>bk (J.base.tups b xs (dk e fun o z=>by cases z)),fun b o u ny e=>?_,fun b a d e=>bk (J.base.tbls b a d (dk e fun o z=>by cases z))⟩,fun b u e=>?_,rv,q fun b u e=>bk e⟩
  · cases hb:lX cl b with
    | true=>rw[bc hb];exact n
    | false=>rw[bn hb];exact J.base.free b o e (dn n) (noA b)
  · cases hb:lX cl b with
    | true=>rw[bc hb];exact e
    | false =>
      rw[bn hb]
      refine J.base.frzs b o u ny ?_
      show(if lX cl b then none else H b)=_
      rw[hb];exact e
  · cases hb:lX cl b with
    | true =>
      obtain⟨o,z,g⟩:=cellKept hb
      rw[bc hb,z] at e
      cases e
      exact⟨g,trivial,⟨_,g⟩,fun _ _ _ _=>trivial⟩
    | false =>
      rw[bn hb] at e
      exact(J.hok b u e).stay (fun c v _ g=>g) (fun c g=>bk g) (fun c xs g=>bk g) fun c a d g=>bk g
end HW
namespace HW
open PySem
open Sem (wp)
section
variable{prog:Program}{w:World}{A:Around}{E:Value->Shared->Prop}{h:Heap}{g:Array GenState}{d:Drawn}{t:Nat}{os:OsState}{a:Addr}{o:Obj}{tk:Tok}
end
structure mS where
 q:Str
 params:Arguments
 body:Expr
 scope:Scope
 N:List Str
 ps:List Str
 deriving Inhabited
inductive D where
 | non
 | bl (b:Bool)
 | int (i:Int)
 | str (x:Str)
 | tup (xs:List D)
 | lst (xs:List D)
 | fro (xs:List D)
 | obj (k a:Nat) (ks:List Str) (ds:List D)
 | dct (ks:List (Int ⊕ Str)) (ds:List D)
 | dcp (ks:List (Int×Int)) (ds:List D)
 | cl (t:mS) (a:Nat) (ds:List D)
 deriving Inhabited
abbrev R:=List (Option D)
abbrev OD:=Option D
abbrev LD:=List D
abbrev oS(x:String):Str:=Str.ofString x
@[simp] abbrev kI (n:Int):R->OD:=fun _=>some (.int n)
@[simp] abbrev kS (x:String):R->OD:=fun _=>some (.str (oS x))
inductive Out where
 | nx (ρ:R)
 | rt (d:D)
 | bk (ρ:R)
 | ct (ρ:R)
@[simp] def Hq:D->Option Bool
 | .non=>some false
 | .bl b=>some b
 | .int i=>some (i != 0)
 | .str x=>if x.length<=sizeLine then some ((x.length:Int) != 0) else none
 | .tup xs=>some (!xs.isEmpty)
 | .lst xs=>some (!xs.isEmpty)
 | .fro xs=>some (!xs.isEmpty)
 | .obj ..=>none
 | .dct ..=>none
 | .dcp ..=>none
 | .cl ..=>none
def bI(b:Bool):Int:=if b then 1 else 0
@[simp] def nI:D->Option Int
 | .int i=>some i
 | _=>none
@[simp] def tI:D->Option LD
 | .tup xs=>some xs
 | _=>none
@[simp] def lI:D->Option LD
 | .lst xs=>some xs
 | _=>none
@[simp] def sI:D->Option Str
 | .str x=>some x
 | _=>none
@[simp] def bO:D->Option Bool
 | .bl b=>some b
 | _=>none
@[simp] def kY (x y:D):OD:=match x with
 | .int i=>(nI y).map fun j=>.int (i+j)
 | .tup xs=>(tI y).bind fun ys=>if xs.length+ys.length<=sizeLine then some (.tup (xs++ys)) else none
 | .lst xs=>(lI y).bind fun ys=>if xs.length+ys.length<=sizeLine then some (.lst (xs++ys)) else none
 | .str x=>(sI y).bind fun y=>if x.length+y.length<=sizeLine then some (.str (x++y)) else none
 | _=>none
def lR(i j:Int):Bool:=(decide (-(2 ^ 64)<i)&&decide (i<2 ^ 64))||(decide (-(2 ^ 64)<j)&&decide (j<2 ^ 64))
@[simp] def qW (x y:D):OD:=(nI x).bind fun i=>(nI y).bind fun j=>if lR i j then some (.int (i*j)) else none
@[simp] def mK (x y:D):OD:=(nI x).bind fun i=>(nI y).bind fun j=>if 0<j/\j<1073741824 then some (.int (i / j)) else none
@[simp] def lB (x y:D):OD:=(nI x).bind fun i=>(nI y).bind fun j=>if 0<j then some (.int (i%j)) else none
@[simp] def EO (x y:D):Option Bool:=(nI x).bind fun i=>(nI y).map fun j=>decide (i<j)
@[simp] def FT (x y:D):Option Bool:=(nI x).bind fun i=>(nI y).map fun j=>decide (j<i)
@[simp] def zU (x y:D):Option Bool:=match x with
 | .int i=>(nI y).map fun j=>i==j
 | .str a=>(sI y).map fun b=>a==b
 | .bl a=>(bO y).map fun b=>a==b
 | _=>none
@[simp] def Bl:D->D->Option Bool:=zU
@[simp] def Ex (x y:D):Option Bool:=(zU x y).map (!·)
@[simp] def Bw:D->Bool
 | .non=>true
 | _=>false
@[simp] def zi (x y:D):Option Bool:=if Bw y then some (Bw x) else none
@[simp] def yB (x y:D):Option Bool:=(zi x y).map (!·)
def flat:D->Bool
 | .non=>true
 | .bl _=>true
 | .int _=>true
 | .str _=>true
 | _=>false
def FU:D->D->Bool
 | .non,.non=>true
 | .bl a,.bl b=>a==b
 | .bl a,.int b=>bI a==b
 | .int a,.bl b=>a==bI b
 | .int a,.int b=>a==b
 | .str a,.str b=>a==b
 | _,_=>false
@[simp] def AC:D->Option LD
 | .tup xs=>some xs
 | .lst xs=>some xs
 | .fro xs=>some xs
 | _=>none
mutual
def sH:D->D->Bool
 | .non,.non=>true
 | .bl a,.bl b=>a==b
 | .bl a,.int b=>bI a==b
 | .int a,.bl b=>a==bI b
 | .int a,.int b=>a==b
 | .str a,.str b=>a==b
 | .tup xs,.tup ys=>qO xs ys
 | .lst xs,.lst ys=>qO xs ys
 | .lst xs,.fro ys=>qO xs ys
 | .fro xs,.lst ys=>qO xs ys
 | .fro xs,.fro ys=>qO xs ys
 | _,_=>false
def qO:LD->LD->Bool
 | [],[]=>true
 | x::xs,y::ys=>sH x y&&qO xs ys
 | _,_=>false
end
mutual
def nu:D->Nat
 | .tup xs=>pB xs+1
 | .lst xs=>pB xs+1
 | .fro xs=>pB xs+1
 | _=>0
def pB:LD->Nat
 | []=>0
 | x::xs=>max (nu x) (pB xs)
end
mutual
def oZ:D->Bool
 | .str x=>x.cps.all (·<0x110000)
 | .tup xs=>nG xs
 | .lst xs=>nG xs
 | .fro xs=>nG xs
 | .obj ..=>false
 | .dct ..=>false
 | .dcp ..=>false
 | .cl ..=>false
 | _=>true
def nG:LD->Bool
 | []=>true
 | x::xs=>oZ x&&nG xs
end
mutual
def mV:D->Bool
 | .tup xs=>lE xs
 | .lst xs=>lE xs
 | .fro xs=>lE xs
 | .obj ..=>false
 | .dct ..=>false
 | .dcp ..=>false
 | .cl ..=>false
 | _=>true
def lE:LD->Bool
 | []=>true
 | x::xs=>mV x&&lE xs
end
mutual
theorem bw:∀{d:D},oZ d=true->mV d=true
 | .non,_=>rfl
 | .bl _,_=>rfl
 | .int _,_=>rfl
 | .str _,_=>rfl
 | .tup xs,h=>cK (xs:=xs) h
 | .lst xs,h=>cK (xs:=xs) h
 | .fro xs,h=>cK (xs:=xs) h
 | .obj ..,h=>by cases h
 | .dct ..,h=>by cases h
 | .dcp ..,h=>by cases h
 | .cl ..,h=>by cases h
theorem cK:∀{xs:LD},nG xs=true->lE xs=true
 | [],_=>rfl
 | x::xs,h=>by
  have h':(oZ x&&nG xs)=true:=h
  rw[Bool.and_eq_true] at h'
  show(mV x&&lE xs)=true
  rw[bw h'.1,cK h'.2];rfl
end
def Dm(x y:D):Option Bool:=if nu x<=100/\oZ x=true/\oZ y=true then some (sH x y) else none
def qX(x y:D):Option Bool:=(Dm x y).map (!·)
def En(n:Nat)(i:Int):Option Nat:=if 0<=i then (if i<n then some i.toNat else none) else if -(n:Int)<=i then some (i+n).toNat else none
def wL(xs:LD)(i:Int):OD:=(En xs.length i).bind fun j=>xs[j]?
@[simp] def kF:D->D->OD
 | .tup xs,.int i=>wL xs i
 | .lst xs,.int i=>wL xs i
 | .fro xs,.int i=>wL xs i
 | .str x,.int i=>if x.length<=sizeLine then ((En x.length i).bind fun j=>x.cps.toList[j]?).map fun c=>.str ⟨#[c]⟩ else none
 | _,_=>none
def zc(n d:Nat):Option Int->Nat
 | none=>d
 | some v=>if v<0 then (v+(n:Int)).toNat else min v.toNat n
def cutD(xs:LD)(lo hi:Option Int):LD:=(xs.drop (zc xs.length 0 lo)).take (zc xs.length xs.length hi - zc xs.length 0 lo)
@[simp] def FZ:D->Option Int->Option Int->OD
 | .tup xs,lo,hi=>some (.tup (cutD xs lo hi))
 | .lst xs,lo,hi=>some (.lst (cutD xs lo hi))
 | _,_,_=>none
@[simp] def GC:D->Option (Option Int)
 | .int i=>some (some i)
 | _=>none
@[simp] def Fx:D->String
 | .non=>"NoneType"
 | .bl _=>"bool"
 | .int _=>"int"
 | .str _=>"str"
 | .tup _=>"tuple"
 | .lst _=>"list"
 | .fro _=>"list"
 | .obj ..=>"object"
 | .dct ..=>"dict"
 | .dcp ..=>"dict"
 | .cl ..=>"function"
@[simp] def G9 (d:D) (n:String):Bool:=decide (Fx d=n)||(decide (Fx d = "bool")&&decide (n = "int"))
@[simp] def ml:LD->OD
 | [d]=>(AC d).map fun xs=>.int xs.length
 | _=>none
@[simp] def GV:LD->OD
 | [.tup xs]=>some (.lst xs)
 | [.lst xs]=>some (.lst xs)
 | _=>none
@[simp] def qe:LD->OD
 | [.tup xs]=>some (.tup xs)
 | [.lst xs]=>some (.tup xs)
 | _=>none
def bools:LD->Option (List Bool)
 | []=>some []
 | .bl b::r=>(bools r).map (b::·)
 | _=>none
def ow(st:D->R->Option R)(body:R->Option Out):LD->R->Option Out
 | [],ρ=>some (.nx ρ)
 | d::ds,ρ=>(st d ρ).bind fun ρ1=>(body ρ1).bind fun o=>match o with
  | .nx ρ2=>ow st body ds ρ2
  | .ct ρ2=>ow st body ds ρ2
  | .bk ρ2=>some (.nx ρ2)
  | .rt r=>some (.rt r)
def mC(st:D->R->Option R)(c:R->Option Bool)(e:R->OD):LD->R->Option LD
 | [],_=>some []
 | d::ds,ρ=>(st d ρ).bind fun ρ1=>(c ρ1).bind fun b=>(if b then (e ρ1).map some else some none).bind fun x =>
   (mC st c e ds ρ).map fun r=>match x with
    | some y=>y::r
    | none=>r
@[simp] def kP (f g:R->Option Out):R->Option Out:=fun ρ=>(f ρ).bind fun o=>match o with
 | .nx ρ2=>g ρ2
 | o=>some o
@[simp] def i4 (i:Nat) (ρ:R):OD:=ρ.getD i none
@[simp] def setAt (i:Nat) (d:D) (ρ:R):Option R:=if i<ρ.length then some (ρ.set i (some d)) else none
@[simp] def uT (c:R->Option Bool) (f g:R->Option Out):R->Option Out:=fun ρ=>(c ρ).bind fun b=>if b then f ρ else g ρ
@[simp] def Cy (f:R->OD):R->OD:=fun ρ=>(f ρ).bind fun x=>match x with
 | .bl b=>some (.bl !b)
 | _=>none
@[simp] def zN (f g:R->Option Bool):R->Option Bool:=fun ρ=>(f ρ).bind fun b=>if b then g ρ else some false
@[simp] def EB (f g:R->Option Bool):R->Option Bool:=fun ρ=>(f ρ).bind fun b=>if b then some true else g ρ
@[simp] def i8 (F:D->D->OD) (f g:R->OD):R->OD:=fun ρ=>(f ρ).bind fun x=>(g ρ).bind fun y=>F x y
@[simp] def lC (F:D->D->Option Bool) (f g:R->OD):R->Option Bool:=fun ρ=>(f ρ).bind fun x=>(g ρ).bind fun y=>F x y
@[simp] def Fz (f:R->Option Bool):R->OD:=fun ρ=>(f ρ).map .bl
@[simp] def i5:R->Option LD:=fun _=>some []
@[simp] def i3 (f:R->OD) (g:R->Option LD):R->Option LD:=fun ρ=>(f ρ).bind fun d=>(g ρ).map fun ds=>d::ds
@[simp] def i6 (F:LD->OD) (g:R->Option LD):R->OD:=fun ρ=>(g ρ).bind F
@[simp] def kG (g:R->Option LD):R->OD:=fun ρ=>(g ρ).map .tup
@[simp] def BH (g:R->Option LD):R->OD:=fun ρ=>(g ρ).map .lst
@[simp] def zA:R->Option (Option Int):=fun _=>some none
@[simp] def aP (f:R->OD):R->Option (Option Int):=fun ρ=>(f ρ).bind GC
@[simp] def zv (f:R->OD) (l h:R->Option (Option Int)):R->OD:=fun ρ=>(f ρ).bind fun x=>(l ρ).bind fun a=>(h ρ).bind fun b=>FZ x a b
@[simp] def lV (f:R->OD):R->Option Out:=fun ρ=>(f ρ).map .rt
@[simp] def kO (f:R->OD) (st:D->R->Option R):R->Option Out:=fun ρ=>(f ρ).bind fun d=>(st d ρ).map .nx
@[simp] def m9:R->Option Out:=fun ρ=>some (.nx ρ)
@[simp] def mJ (it:R->Option LD) (st:D->R->Option R) (body:R->Option Out):R->Option Out:=fun ρ=>(it ρ).bind fun ds=>ow st body ds ρ
def chars(x:Str):LD:=x.cps.toList.map fun c=>.str ⟨#[c]⟩
@[simp] def lh (f:R->OD):R->Option LD:=fun ρ=>(f ρ).bind fun d=>match d with
 | .tup xs=>some xs
 | .lst xs=>some xs
 | .str x=>if x.cps.all (·<128) then some (chars x) else none
 | _=>none
def mH(a b:Int):LD:=(List.range (b - a).toNat).map fun (k:Nat)=>D.int (a+(k:Int))
@[simp] def mt (f:R->OD):R->Option LD:=fun ρ=>(f ρ).bind fun d=>match d with
 | .int j=>if -(2 ^ 62)<=j/\j<2 ^ 62 then some (mH 0 j) else none
 | _=>none
def qP(k:Nat)(it:R->Option LD)(st:D->R->Option R)(c:R->Option Bool)(e:R->OD):R->OD:=fun ρ =>
 (it ρ).bind fun ds=>if ds.length<=sizeLine then (mC st c e ds (List.replicate k none++ρ)).map .lst else none
@[simp] def mF:R->Option Bool:=fun _=>some true
@[simp] def pe (n:Nat) (ds:LD):R:=ds.map some++List.replicate (n - ds.length) none
@[simp] def k_:Option Out->OD
 | some (.rt d)=>some d
 | some (.nx _)=>some .non
 | _=>none
@[simp] def v6:List (D->R->Option R)->LD->R->Option R
 | [],[],ρ=>some ρ
 | f::fs,d::ds,ρ=>(f d ρ).bind fun ρ1=>v6 fs ds ρ1
 | _,_,_=>none
@[simp] def nR (fs:List (D->R->Option R)):D->R->Option R
 | .tup ds,ρ=>v6 fs ds ρ
 | _,_=>none
@[simp] def uQ (i:Nat) (f:R->OD):R->LD->Option (Out×LD):=fun ρ ds=>(f ρ).bind fun d=>if ρ.length=i/\ds.length<sizeLine then some (.nx ρ,ds++[d]) else none
@[simp] def xx (i:Nat) (f:R->OD):R->LD->Option (Out×LD):=fun ρ ds=>(f ρ).bind fun d=>match d with
 | .lst es=>if ρ.length=i/\ds.length+es.length<=sizeLine then some (.nx ρ,ds++es) else none
 | _=>none
@[simp] def Ac:R->LD->Option (Out×LD):=fun ρ ds=>some (.nx ρ,ds)
@[simp] def Cc (p q:R->LD->Option (Out×LD)):R->LD->Option (Out×LD):=fun ρ ds=>(p ρ ds).bind fun r=>match r with
 | (.nx ρ2,ds2)=>q ρ2 ds2
 | r=>some r
@[simp] def EF (c:R->Option Bool) (p q:R->LD->Option (Out×LD)):R->LD->Option (Out×LD):=fun ρ ds=>(c ρ).bind fun b=>if b then p ρ ds else q ρ ds
def xJ(st:D->R->Option R)(p:R->LD->Option (Out×LD)):LD->R->LD->Option (Out×LD)
 | [],ρ,ds=>some (.nx ρ,ds)
 | d::es,ρ,ds=>(st d ρ).bind fun ρ1=>(p ρ1 ds).bind fun r=>match r with
  | (.nx ρ2,ds2)=>xJ st p es ρ2 ds2
  | (.ct ρ2,ds2)=>xJ st p es ρ2 ds2
  | (.bk ρ2,ds2)=>some (.nx ρ2,ds2)
  | r=>some r
@[simp] def yc (it:R->Option LD) (st:D->R->Option R) (p:R->LD->Option (Out×LD)):R->LD->Option (Out×LD):=fun ρ ds=>(it ρ).bind fun es=>xJ st p es ρ ds
@[simp] def E3 (i:Nat) (F:R->Option LD) (q:R->LD->Option Out):R->Option Out:=fun ρ=>(F ρ).bind fun ds=>if ρ.length=i+1 then q (ρ.take i) ds else none
@[simp] def wd (p:R->LD->Option (Out×LD)) (q:R->LD->Option Out):R->LD->Option Out:=fun ρ ds=>(p ρ ds).bind fun r=>match r with
 | (.nx ρ2,ds2)=>q ρ2 ds2
 | (.rt d,_)=>some (.rt d)
 | _=>none
@[simp] def vP (w:R->Option Out):R->LD->Option Out:=fun ρ ds=>w (ρ++[some (.lst ds)])
theorem qY{st:D->R->Option R}{e:R->OD}{ρ:R}(f:D->D):∀{ds:LD},(∀d∈ds,∃ ρ1,st d ρ=some ρ1/\e ρ1=some (f d))->mC st mF e ds ρ=some (ds.map f)
 | [],_=>rfl
 | d::ds,h=>by
  obtain⟨ρ1,h1,h2⟩:=h d List.mem_cons_self
  have ih:=qY f fun x hx=>h x (List.mem_cons_of_mem _ hx)
  simp[mC,h1,h2,ih]
theorem qh{st:D->R->Option R}{c:R->Option Bool}{e:R->OD}{ρ:R}(p:D->Bool)(f:D->D):∀{ds:LD},(∀d∈ds,∃ ρ1,st d ρ=some ρ1/\c ρ1=some (p d)/\(p d=true->e ρ1=some (f d)))->mC st c e ds ρ=some ((ds.filter p).map f)
 | [],_=>rfl
 | d::ds,h=>by
  obtain⟨ρ1,h1,h2,h3⟩:=h d List.mem_cons_self
  have ih:=qh p f fun x hx=>h x (List.mem_cons_of_mem _ hx)
  cases hp:p d with
  | true=>simp[mC,h1,h2,hp,h3 hp,ih]
  | false=>simp[mC,h1,h2,hp,ih]
def via(k n:Nat)(g:R->Option Out)(ds:LD):OD:=if ds.length=k then k_ (g (pe n ds)) else none
theorem bT{k n:Nat}{g:R->Option Out}{ds:LD}{d:D}(h:via k n g ds=some d):ds.length=k:=by
 unfold via at h
 split at h
 ·assumption
 ·cases h
theorem dt{k n:Nat}{g:R->Option Out}{ds:LD}{d:D}(h:via k n g ds=some d):k_ (g (pe n ds))=some d:=by
 unfold via at h
 split at h
 ·exact h
 ·cases h
theorem uE{i j:Int}(h1 : -(2 ^ 64)<j)(h2:j<2 ^ 64):lR i j=true:=by unfold lR;rw[decide_eq_true h1,decide_eq_true h2];simp
theorem mN{i j:Int}(h1 : -(2 ^ 64)<i)(h2:i<2 ^ 64):lR i j=true:=by unfold lR;rw[decide_eq_true h1,decide_eq_true h2];simp
theorem su{st:D->R->Option R}{body:R->Option Out}(P:Nat->R->Prop):∀(ds:LD) (k:Nat) (ρ0:R),P k ρ0->(∀i d ρ,ds[i]?=some d->P (k+i) ρ->∃ ρ1 ρ2,st d ρ=some ρ1/\body ρ1=some (.nx ρ2)/\P (k+i+1) ρ2) ->
  ∃ ρ',ow st body ds ρ0=some (.nx ρ')/\P (k+ds.length) ρ'
 | [],k,ρ0,h0,_=>⟨ρ0,rfl,h0⟩
 | d::ds,k,ρ0,h0,hs=>by
  obtain⟨ρ1,ρ2,h1,h2,h3⟩:=hs 0 d ρ0 rfl h0
  obtain⟨ρ',h4,h5⟩:=su P ds (k+1) ρ2 h3 fun i d' ρ e p=>by
   have q:=hs (i+1) d' ρ (by simpa using e) (by rw[show k+(i+1)=k+1+i by omega];exact p)
   rw[show k+(i+1)+1=k+1+i+1 by omega] at q
   exact q
  refine⟨ρ',?_,?_⟩
  ·simp[ow,h1,h2,h4]
  ·rw[show k+(d::ds).length=k+1+ds.length by simp;omega];exact h5
theorem fW{n:Int}{i:Nat}{d:D}(e:(mH 0 n)[i]?=some d):d=.int i/\(i:Int)<n:=by
 unfold mH at e
 rw[List.getElem?_map] at e
 cases q:(List.range (n - 0).toNat)[i]? with
 | none=>rw[q] at e;cases e
 | some k =>
  rw[q] at e
  obtain⟨h1,h2⟩:=List.getElem?_eq_some_iff.mp q
  simp at h1 h2
  subst h2
  have e':D.int (0+(i:Int))=d:=Option.some.inj e
  rw[Int.zero_add] at e'
  exact⟨e'.symm,by omega⟩
theorem ga(n:Int):(mH 0 n).length=n.toNat:=by simp[mH]
theorem qz{xs:LD}{i:Int}(h0:0<=i)(h1:i<xs.length):∃x,x∈xs/\wL xs i=some x:=by
 have h2:i.toNat<xs.length:=by omega
 refine⟨xs[i.toNat],List.getElem_mem h2,?_⟩
 unfold wL En
 rw[if_pos h0,if_pos h1]
 simp[h2]
inductive Fits:D->Prop
 | non:Fits .non
 | bl (b:Bool):Fits (.bl b)
 | int (i:Int):Fits (.int i)
 | str (x:Str):Fits (.str x)
 | tup {xs:LD}:xs.length<=1000->(∀x∈xs,Fits x)->Fits (.tup xs)
end HW
namespace HW
open PySem PySem.Spec PyProof.Rows L2
def Gw(x:Str):It:=⟨fun i _=>i<x.cps.size,fun i H v H'=>H'=H/\∃c,x.cps[i]?=some c/\v=.str ⟨#[c]⟩,fun i _=>x.cps.size<=i⟩
theorem zG{P:Program}{w:World}{K:W.Frag}{tg:Expr}(it:Addr)(x:Str)(t:Tok):Turn P w K tg (Gw x) [it] it (fun i h=>h.IsStrIter it "str_ascii_iterator" x t i) where
 mem:=by simp
 obj:=fun i h st b hb=>by
  have e:b=it:=by simpa using hb
  subst e
  obtain⟨o,e,c,d⟩:=st
  exact⟨o,e,fun v z=>by rw[d] at z;cases z⟩
 keep:=fun i h h' st k=>by
  obtain⟨o,e,r⟩:=st
  exact⟨o,k it (by simp) o e,r⟩
 item:=by
  intro X hP hw hK hc i pins s σ H E I hf st hg
  subst hP hw hK
  have hg':i<x.cps.size:=hg
  obtain⟨f0,f1,f2,f3,f4,f5⟩:=hf it (by simp)
  refine wpAny_pyNext_ascii_item st (c:=x.cps[i]) (by simp[hg']) fun h' st' sb=>?_
  have I1:L2.Inv X pins σ H {s with heap:=h',toks:=s.toks+1}:=I.turned (t':=s.toks+1) (fun b o hb e=>(sb.2 b hb).trans e) f0 f1 f3 f4 f5
  obtain⟨o,e,c,d⟩:=id st'
  exact⟨_,rfl,wI (s:={s with heap:=h',toks:=s.toks+1}) e c d (by decide) ⟨.str ⟨#[x.cps[i]]⟩,H,I1,⟨_,rfl⟩,⟨rfl,_,by simp[hg'],rfl⟩,st',fun b hb=>(hf b hb).1⟩⟩
 done:=by
  intro X hP hw hK hc i pins s σ H E I hf st hg
  subst hP hw hK
  have hg':x.cps.size<=i:=hg
  obtain⟨f0,f1,f2,f3,f4,f5⟩:=hf it (by simp)
  exact wpAny_pyNext_ascii_end (I.ok.hd hc) st (by simp;omega) fun h' eb=>⟨rfl,I.turned (t':=s.toks) (fun b o hb e=>eb b o hb e) f0 f1 f3 f4 f5⟩
 self:=fun _ _ _ _ _ st h=>wpAny_pyIter_striter_ascii st h
def Gd(H:Hp)(k a:Nat)(ks:List Str)(vs:List V):Prop:=match k with
 | 0=>vs.length<=sizeLine/\∃(its:List Value) (n:Nat),kM vs its/\H a=some (.frz {cls:=.type "list",data:=.seq its.toArray n} (.own 0))
 | 1=>ks.length=vs.length/\H a=some (.dK ((ks.map Sum.inr).zip vs))
 | C+2=>ks.length=vs.length/\∃dx,H a=some (.ins C dx (ks.zip vs))
theorem Gd.to{H H':Hp}{k a:Nat}{ks:List Str}{vs:List V}(h:Gd H k a ks vs)(e:∀u,H a=some u->(∀ φ,u≠.ext φ)->H' a=some u):Gd H' k a ks vs:=by
 match k,h with
 | 0,⟨z,its,n,r,q⟩=>exact⟨z,its,n,r,e _ q fun φ z=>by cases z⟩
 | 1,⟨z,q⟩=>exact⟨z,e _ q fun φ z=>by cases z⟩
 | C+2,⟨z,dx,q⟩=>exact⟨z,dx,e _ q fun φ z=>by cases z⟩
def wR:List ((Int×Int)×Addr×V)->List (List Key×Addr×Value)->Prop:=Paired fun p q=>q.1=[.inl p.1.1,.inl p.1.2]/\q.2.1=p.2.1/\RelV p.2.2 q.2.2
def A5(P:Program)(w:World)(o:Obj)(xs:List ((Int×Int)×Addr×V)):Prop:=xs.length<=sizeLine/\∃qs es ep,wR xs qs/\o.ExactDict/\o.data=.dict es ep/\es.toList=qs.map (entryOfKey (tupleKind (kJ P w)))/\(qs.map (·.1)).Nodup
theorem Fd(P P':Program)(w w':World)(i j:Int):tupleKeyHash (kJ P w) [.inl i,.inl j]=tupleKeyHash (kJ P' w') [.inl i,.inl j]:=by
 unfold tupleKeyHash
 have h:∀i:Int,(kJ P w).hash (.inl i)=(kJ P' w').hash (.inl i):=fun _=>rfl
 simp only[List.map_cons,List.map_nil,h]
theorem zD{prog:Program}{w:World}(k:List Key)(a:Addr)(v:Value):entryOfKey (tupleKind (kJ prog w)) (k,a,v)=⟨tupleKeyHash (kJ prog w) k,.ref a,v⟩:=rfl
theorem wR.entries(P P':Program)(w w':World){xs:List ((Int×Int)×Addr×V)}{qs:List (List Key×Addr×Value)}(h:wR xs qs):qs.map (entryOfKey (tupleKind (kJ P w)))=qs.map (entryOfKey (tupleKind (kJ P' w'))):=by
 refine List.map_congr_left fun q hq=>?_
 have:∃i j,q.1=[.inl i,.inl j]:=by
  induction h with
  | nil=>cases hq
  | cons e t ih =>
   rcases List.mem_cons.mp hq with rfl | hq
   ·exact⟨_,_,e.1⟩
   ·exact ih hq
 obtain⟨i,j,e⟩:=this
 obtain⟨k,a,v⟩:=q
 cases (show k=_ from e)
 rw[zD,zD,Fd P P' w w']
theorem A5.any{P:Program}{w:World}{o:Obj}{xs:List ((Int×Int)×Addr×V)}(h:A5 P w o xs)(P':Program)(w':World):A5 P' w' o xs:=by
 obtain⟨z,qs,es,ep,h1,h2,h3,h4,h5⟩:=h
 exact⟨z,qs,es,ep,h1,h2,h3,by rw[h4];exact wR.entries P P' w w' h1,h5⟩
def pR(K:W.Frag)(H:Hp):List (Int×Int)->List Addr->Prop
 | [],as=>as=[]
 | k::ks,as=>∃a r,as=a::r/\mG K H a [.int k.1,.int k.2]/\pR K H ks r
def B3(K:W.Frag)(H:Hp)(a:Addr)(ks:List (Int×Int))(kas:List Addr)(xs:List V):Prop:=((a==sysModules)=false/\pR K H ks kas/\kas.length=xs.length)/\∃o P w,H a=some (.frz o (.own 0))/\A5 P w o (ks.zip (kas.zip xs))
theorem pR.to{K:W.Frag}{H H':Hp}(s:∀a xs,mG K H a xs->mG K H' a xs):∀{ks:List (Int×Int)} {kas:List Addr},pR K H ks kas->pR K H' ks kas
 | [],_,h=>h
 | k::ks,_,h=>by
  obtain⟨a,r,e,q,t⟩:=h
  exact⟨a,r,e,s _ _ q,pR.to s t⟩
theorem B3.to{K:W.Frag}{H H':Hp}{a:Addr}{ks:List (Int×Int)}{kas:List Addr}{xs:List V}(h:B3 K H a ks kas xs)(s:∀a xs,mG K H a xs->mG K H' a xs)(s2:∀o u,H a=some (.frz o u)->H' a=some (.frz o u)):B3 K H' a ks kas xs:=by
 obtain⟨⟨h1,h2,h3⟩,o,P,w,h4,h5⟩:=h
 exact⟨⟨h1,h2.to s,h3⟩,o,P,w,s2 _ _ h4,h5⟩
mutual
def Rep(K:W.Frag)(H:Hp):D->V->Prop
 | .non,v=>v=.non
 | .bl b,v=>v=.bl b
 | .int i,v=>v=.int i
 | .str x,v=>v=.str x
 | .tup ds,v=>∃a xs,v=.ref a/\mG K H a xs/\i9 K H ds xs
 | .lst ds,v=>∃a xs,v=.ref a/\H a=some (.lst xs)/\i9 K H ds xs
 | .fro ds,v=>∃a xs,v=.ref a/\nO K H a xs/\i9 K H ds xs
 | .obj k a ks ds,v=>v=.ref a
 | .cl t a ds,v=>v=.ref a/\∃cl xs pm ctv c',H a=some (oH (W.kla_obj "<lambda>" t.q t.params t.body t.scope cl pm c' ctv))/\H c'=some (.tbl t.q true)/\og t.N t.ps t.scope cl/\pC H t.N t.ps cl xs/\i9 K H ds xs
 | .dct ks ds,v=>∃a xs,v=.ref a/\(ks.length=xs.length/\∃o,H a=some (.frz o (.dK (ks.zip xs))))/\i9 K H ds xs
 | .dcp ks ds,v=>∃a kas xs,v=.ref a/\B3 K H a ks kas xs/\i9 K H ds xs
def i9(K:W.Frag)(H:Hp):LD->List V->Prop
 | [],vs=>vs=[]
 | d::ds,vs=>∃v r,vs=v::r/\Rep K H d v/\i9 K H ds r
end
theorem AH{K:W.Frag}{H H':Hp}{a:Addr}{xs:List V}(e:ku H H')(h:mG K H a xs):mG K H' a xs:=by
 rcases h with (h | ⟨o,h⟩) | h
 ·exact .inl (.inl (e _ _ h))
 ·exact .inl (.inr ⟨o,e _ _ h⟩)
 ·exact .inr h
mutual
theorem Rep.mono{K:W.Frag}{H H':Hp}(s:ku H H'):∀{d:D} {v:V},Rep K H d v->Rep K H' d v
 | .non,_,h=>h
 | .bl _,_,h=>h
 | .int _,_,h=>h
 | .str _,_,h=>h
 | .tup ds,_,h=>by
  obtain⟨a,xs,e,q,r⟩:=h
  exact⟨a,xs,e,AH s q,i9.mono s r⟩
 | .lst ds,_,h=>by
  obtain⟨a,xs,e,q,r⟩:=h
  exact⟨a,xs,e,s _ _ q,i9.mono s r⟩
 | .fro ds,_,h=>by
  obtain⟨a,xs,e,q,r⟩:=h
  exact⟨a,xs,e,s.seq q,i9.mono s r⟩
 | .obj ..,_,h=>h
 | .dct ks ds,_,h=>by
  obtain⟨a,xs,e,q,r⟩:=h
  exact⟨a,xs,e,⟨q.1,let ⟨o,z⟩:=q.2;⟨o,s _ _ z⟩⟩,i9.mono s r⟩
 | .dcp ks ds,_,h=>by
  obtain⟨a,kas,xs,e,q,r⟩:=h
  exact⟨a,kas,xs,e,q.to (fun _ _=>AH s) fun o u z=>s _ _ z,i9.mono s r⟩
 | .cl t a ds,_,h=>by
  obtain⟨e,cl,xs,pm,ctv,c',h1,h2,h3,h4,r⟩:=h
  exact⟨e,cl,xs,pm,ctv,c',s _ _ h1,s _ _ h2,h3,h4.to fun b o z=>s _ _ z,i9.mono s r⟩
theorem i9.mono{K:W.Frag}{H H':Hp}(s:ku H H'):∀{ds:LD} {vs:List V},i9 K H ds vs->i9 K H' ds vs
 | [],_,h=>h
 | d::ds,_,h=>by
  obtain⟨v,r,e,q,t⟩:=h
  exact⟨v,r,e,Rep.mono s q,i9.mono s t⟩
end
section
variable{K:W.Frag}{H:Hp}
theorem i9.length:∀{ds:LD} {vs:List V},i9 K H ds vs->ds.length=vs.length
 | [],_,h=>by cases (show _=[] from h);rfl
 | d::ds,_,h=>by
  obtain⟨v,r,e,q,t⟩:=h
  subst e
  simp[i9.length t]
theorem i9.get:∀{ds:LD} {vs:List V} {i:Nat} {d:D},i9 K H ds vs->ds[i]?=some d->∃v,vs[i]?=some v/\Rep K H d v
 | [],_,_,_,_,e=>by simp at e
 | d::ds,_,0,_,h,e=>by
  obtain⟨v,r,e',q,t⟩:=h
  subst e'
  simp at e
  subst e
  exact⟨v,by simp,q⟩
 | d::ds,_,i+1,_,h,e=>by
  obtain⟨v,r,e',q,t⟩:=h
  subst e'
  obtain⟨u,h1,h2⟩:=i9.get (i:=i) t (by simpa using e)
  exact⟨u,by simpa using h1,h2⟩
theorem i9.append:∀{ds es:LD} {vs us:List V},i9 K H ds vs->i9 K H es us->i9 K H (ds++es) (vs++us)
 | [],_,_,_,h,t=>by cases (show _=[] from h);exact t
 | d::ds,_,_,_,h,t=>by
  obtain⟨v,r,e',q,t'⟩:=h
  subst e'
  exact⟨v,_,rfl,q,i9.append t' t⟩
theorem i9.drop:∀(n:Nat) {ds:LD} {vs:List V},i9 K H ds vs->i9 K H (ds.drop n) (vs.drop n)
 | 0,_,_,h=>by simpa using h
 | n+1,[],_,h=>by cases (show _=[] from h);exact rfl
 | n+1,d::ds,_,h=>by
  obtain⟨v,r,e',q,t'⟩:=h
  subst e'
  simpa using i9.drop n t'
theorem i9.take:∀(n:Nat) {ds:LD} {vs:List V},i9 K H ds vs->i9 K H (ds.take n) (vs.take n)
 | 0,_,_,h=>by simp only[List.take_zero];exact rfl
 | n+1,[],_,h=>by cases (show _=[] from h);exact rfl
 | n+1,d::ds,_,h=>by
  obtain⟨v,r,e',q,t'⟩:=h
  subst e'
  rw[List.take_succ_cons,List.take_succ_cons]
  exact⟨v,_,rfl,q,i9.take n t'⟩
theorem i9.one{d:D}{v:V}(h:Rep K H d v):i9 K H [d] [v]:=⟨v,[],rfl,h,rfl⟩
theorem i9.nil:i9 K H [] []:=rfl
theorem i9.cons{d:D}{v:V}{ds:LD}{vs:List V}(h:Rep K H d v)(t:i9 K H ds vs):i9 K H (d::ds) (v::vs):=⟨v,vs,rfl,h,t⟩
theorem i9.reverse:∀{ds:LD} {vs:List V},i9 K H ds vs->i9 K H ds.reverse vs.reverse
 | [],_,h=>by cases (show _=[] from h);exact rfl
 | d::ds,_,h=>by
  obtain⟨v,r,e',q,t'⟩:=h
  subst e'
  rw[List.reverse_cons,List.reverse_cons]
  exact i9.append (i9.reverse t') (i9.one q)
theorem i9.rep{ds:LD}{vs:List V}(h:i9 K H ds vs):∀n:Nat,i9 K H (List.replicate n ds).flatten (List.replicate n vs).flatten
 | 0=>rfl
 | n+1=>by
  rw[List.replicate_succ,List.replicate_succ,List.flatten_cons,List.flatten_cons]
  exact h.append (i9.rep h n)
def lW(K:W.Frag)(H:Hp)(ρ:R)(σ:L2.St):Prop:=ρ.length<=σ.length/\∀(i:Nat) (d:D),ρ[i]?=some (some d)->∃v,σ[i]?=some (some v)/\Rep K H d v
theorem lW.mono{H':Hp}{ρ:R}{σ:L2.St}(e:lW K H ρ σ)(s:ku H H'):lW K H' ρ σ:=⟨e.1,fun i d h=>let ⟨v,a,b⟩:=e.2 i d h;⟨v,a,b.mono s⟩⟩
theorem lW.at{ρ:R}{σ:L2.St}(e:lW K H ρ σ){i:Nat}{d:D}(h:i4 i ρ=some d):∃v,σ[i]?=some (some v)/\Rep K H d v:=by
 refine e.2 i d ?_
 unfold i4 at h
 rw[List.getD_eq_getElem?_getD] at h
 cases q:ρ[i]? with
 | none=>rw[q] at h;cases h
 | some o=>rw[q] at h;cases (show o=some d from h);rfl
theorem lW.set{ρ:R}{σ:L2.St}(e:lW K H ρ σ){i:Nat}{d:D}{v:V}(r:Rep K H d v):lW K H (ρ.set i (some d)) (σ.set i (some v)):=by
 refine⟨by simpa using e.1,fun j c h=>?_⟩
 by_cases hj:i=j
 ·subst hj
  by_cases hi:i<ρ.length
  ·rw[List.getElem?_set_self hi] at h
   cases h
   exact⟨v,by rw[List.getElem?_set_self (Nat.lt_of_lt_of_le hi e.1)],r⟩
  ·rw[List.getElem?_eq_none (by simpa using hi)] at h
   cases h
 ·rw[List.getElem?_set_ne hj] at h ⊢
  exact e.2 j c h
theorem lW.front{ρ:R}{σ:L2.St}(e:lW K H ρ σ)(k:Nat)(τ:L2.St)(hk:τ.length=k):lW K H (List.replicate k none++ρ) (τ++σ):=by
 subst hk
 refine⟨by simpa using e.1,fun i d h=>?_⟩
 by_cases hi:i<τ.length
 ·rw[List.getElem?_append_left (by simpa using hi),List.getElem?_replicate] at h
  split at h<;>cases h
 ·rw[List.getElem?_append_right (by simpa using hi),List.length_replicate] at h
  rw[List.getElem?_append_right (by simpa using hi)]
  exact e.2 _ d h
end
def lQ(K:W.Frag)(H:Hp)(ρ:R)(τ:L2.St)(σ:L2.St):Prop:=lW K H ρ σ/\σ.drop ρ.length=τ
theorem lW.t{K:W.Frag}{H:Hp}{ρ:R}{σ:L2.St}(e:lW K H ρ σ):lQ K H ρ (σ.drop ρ.length) σ:=⟨e,rfl⟩
theorem lQ.mono{K:W.Frag}{H H':Hp}{ρ:R}{τ σ:L2.St}(e:lQ K H ρ τ σ)(s:ku H H'):lQ K H' ρ τ σ:=⟨e.1.mono s,e.2⟩
theorem lQ.set{K:W.Frag}{H:Hp}{ρ:R}{τ σ:L2.St}(e:lQ K H ρ τ σ){i:Nat}{d:D}{v:V}(hi:i<ρ.length)(r:Rep K H d v):lQ K H (ρ.set i (some d)) τ (σ.set i (some v)):=by
 refine⟨e.1.set r,?_⟩
 rw[List.length_set,List.drop_set_of_lt hi]
 exact e.2
section
variable(K:W.Frag)
def tD(f:R->OD):TE:=fun σ H Q=>∃ ρ d,lW K H ρ σ/\f ρ=some d/\∀v H',ku H H'->Rep K H' d v->Q v H'
def Fi(f:R->Option Bool):TT:=fun σ H Q=>∃ ρ b,lW K H ρ σ/\f ρ=some b/\∀H',ku H H'->Q b H'
def Hh(f:R->Option LD):TA:=fun σ H Q=>∃ ρ ds,lW K H ρ σ/\f ρ=some ds/\∀vs H',ku H H'->i9 K H' ds vs->Q vs H'
def HB(f:R->Option (Option Int)):TO:=fun σ H Q=>∃ ρ o,lW K H ρ σ/\f ρ=some o/\∀H',ku H H'->Q o H'
def fin(E:Ends)(τ:L2.St)(o:Out)(H':Hp):Prop:=
 match o with
 | .nx ρ=>∀ σ,lQ K H' ρ τ σ->E.nx σ H'
 | .rt d=>∀v,Rep K H' d v->E.rt v H'
 | .bk ρ=>∀ σ,lQ K H' ρ τ σ->E.bk σ H'
 | .ct ρ=>∀ σ,lQ K H' ρ τ σ->E.ct σ H'
def EY(f:R->Option Out):TS:=fun E σ H=>∃ ρ τ o,lQ K H ρ τ σ/\f ρ=some o/\∀H',ku H H'->fin K E τ o H'
def He(st:D->R->Option R):TG:=fun v σ H Q=>∃ ρ τ d ρ',lQ K H ρ τ σ/\Rep K H d v/\st d ρ=some ρ'/\∀ σ' H',ku H H'->lQ K H' ρ' τ σ'->Q σ' H'
def GB(sts:List (D->R->Option R)):Bo:=fun vs σ H Q=>∃ ρ τ ds ρ',lQ K H ρ τ σ/\i9 K H ds vs/\v6 sts ds ρ=some ρ'/\∀ σ' H',ku H H'->lQ K H' ρ' τ σ'->Q σ' H'
def Kp(H H':Hp):Prop:=∀b u,H b=some u->(∀ φ,u≠.ext φ)->H' b=some u
def oP(J:It)(ds:LD)(H:Hp):Prop:=
 (∀(i:Nat) (d:D) (H2:Hp),Kp H H2->ds[i]?=some d->J.go i H2/\∀x H3,J.yld i H2 x H3->ku H2 H3/\Rep K H3 d x)/\∀(i:Nat) (H2:Hp),Kp H H2->ds.length<=i->J.stop i H2
def HD(f:R->Option LD):TI:=fun σ H W=>∃ ρ ds,lW K H ρ σ/\f ρ=some ds/\∀J H',ku H H'->oP K J ds H'->W J H'
def rS(F:LD->OD):Sp:=fun vs H Q _=>∃ds d,i9 K H ds vs/\F ds=some d/\∀v H',ku H H'->Rep K H' d v->Q v H'
end
def SE(X:Cx)(e:Expr)(f:R->OD):Prop:=PE X e (tD X.K f)
def ST(X:Cx)(e:Expr)(f:R->Option Bool):Prop:=PT X e (Fi X.K f)
def SW(X:Cx)(e:Expr)(f:R->Option Bool):Prop:=PW X e (Fi X.K f)
def noStar:Expr->Bool
 | .Starred _ _=>false
 | _=>true
theorem aw{e:Expr}(es:List Expr)(env:Env)(h:noStar e=true):starEach (e::es) env=(false,eval e env)::starEach es env:=by
 cases e<;>first | rfl | cases h
theorem bo{pos:Pos}{env:Env}:∀{es:List Expr},es.all noStar=true->(backTo pos (starEach es env)).any (·.1)=false
 | [],_=>rfl
 | e::es,h=>by
  rw[List.all_cons,Bool.and_eq_true] at h
  rw[aw es env h.1]
  show(false||(backTo pos (starEach es env)).any (·.1))=false
  rw[bo h.2]
  rfl
def SA(X:Cx)(es:List Expr)(f:R->Option LD):Prop:=PA X es (Hh X.K f)/\(∀ ρ ds,f ρ=some ds->ds.length=es.length)/\es.all noStar=true
def SO(X:Cx)(e:Option Expr)(f:R->Option (Option Int)):Prop:=PO X e (HB X.K f)
def S1(X:Cx)(s:Stmt)(f:R->Option Out):Prop:=PS X s (EY X.K f)
def SS(X:Cx)(s:List Stmt)(f:R->Option Out):Prop:=PSs X s (EY X.K f)
def SG(X:Cx)(e:Expr)(st:D->R->Option R):Prop:=PG X e (He X.K st)
def FP(X:Cx)(es:List Expr)(sts:List (D->R->Option R)):Prop:=PGs X es (GB X.K sts)
def SI(X:Cx)(tg iter:Expr)(f:R->Option LD):Prop:=PI X tg iter (HD X.K f)
section
variable{X:Cx}{e a b c:Expr}{es:List Expr}{pos p:Pos}
theorem _root_.L2.PE.imp{t t':TE}(h:PE X e t)(hi:∀ σ H Q,t' σ H Q->t σ H Q):PE X e t':=fun pins s σ H Q I q=>h pins s σ H Q I (hi σ H Q q)
theorem _root_.L2.PT.imp{t t':TT}(h:PT X e t)(hi:∀ σ H Q,t' σ H Q->t σ H Q):PT X e t':=fun pins s σ H Q I q=>h pins s σ H Q I (hi σ H Q q)
theorem _root_.L2.PW.imp{t t':TT}(h:PW X e t)(hi:∀ σ H Q,t' σ H Q->t σ H Q):PW X e t':=fun wh pins s σ H Q I q=>h wh pins s σ H Q I (hi σ H Q q)
theorem _root_.L2.PA.imp{t t':TA}(h:PA X es t)(hi:∀ σ H Q,t' σ H Q->t σ H Q):PA X es t':=fun pos pins s σ H Q I q=>h pos pins s σ H Q I (hi σ H Q q)
theorem _root_.L2.PO.imp{e:Option Expr}{t t':TO}(h:PO X e t)(hi:∀ σ H Q,t' σ H Q->t σ H Q):PO X e t':=fun pins s σ H Q I q=>h pins s σ H Q I (hi σ H Q q)
theorem _root_.L2.PS.imp{s:Stmt}{t t':TS}(h:PS X s t)(hi:∀E σ H,t' E σ H->t E σ H):PS X s t':=fun pins s σ H E I q=>h pins s σ H E I (hi E σ H q)
theorem _root_.L2.PSs.imp{s:List Stmt}{t t':TS}(h:PSs X s t)(hi:∀E σ H,t' E σ H->t E σ H):PSs X s t':=fun pins s σ H E I q=>h pins s σ H E I (hi E σ H q)
theorem _root_.L2.PG.imp{t t':TG}(h:PG X e t)(hi:∀v σ H Q,t' v σ H Q->t v σ H Q):PG X e t':=fun pins s σ H v u Q I r q=>h pins s σ H v u Q I r (hi v σ H Q q)
theorem _root_.L2.PGs.imp{t t':Bo}(h:PGs X es t)(hi:∀v σ H Q,t' v σ H Q->t v σ H Q):PGs X es t':=fun pins s σ H v u Q I r q=>h pins s σ H v u Q I r (hi v σ H Q q)
theorem _root_.L2.PI.imp{tg:Expr}{t t':TI}(h:PI X tg e t)(hi:∀ σ H Q,t' σ H Q->t σ H Q):PI X tg e t':=fun pins s σ H W I q=>h pins s σ H W I (hi σ H W q)
theorem kx{α β:Type}{o:Option α}{f:α->Option β}{y:β}(h:o.bind f=some y):∃x,o=some x/\f x=some y:=by
 cases o with
 | none=>cases h
 | some x=>exact⟨x,rfl,h⟩
theorem lK{α β:Type}{o:Option α}{f:α->β}{y:β}(h:o.map f=some y):∃x,o=some x/\f x=y:=by
 cases o with
 | none=>cases h
 | some x=>exact⟨x,rfl,Option.some.inj h⟩
theorem ac(i:Nat){x:Str}(hN:X.N[i]?=some x:=by rfl)(hv:vC X.env.scope x:=by first | exact Or.inl rfl | exact Or.inr (Or.inl rfl) | exact Or.inr (Or.inr rfl))(hd:(x==("__debug__" : Str))=false:=by decide)
  (hcd:(x==("__classdict__" : Str))=false:=by decide):SE X (.Name x pos) (i4 i):=(fE hN hv hd hcd).imp fun σ H Q ⟨ρ,d,er,e,q⟩=>by
 obtain⟨v,h1,h2⟩:=er.at e
 exact⟨v,h1,q v H (ku.refl H) h2⟩
theorem af{i j}:SE X (.Constant (.int i) j pos) (kI i):=DJ.imp fun σ H Q ⟨ρ,d,er,e,q⟩=>by
 cases e
 exact q _ H (ku.refl H) rfl
theorem cS{b j}:SE X (.Constant (.bool b) j pos) (fun _=>some (.bl b)):=E5.imp fun σ H Q ⟨ρ,d,er,e,q⟩=>by
 cases e
 exact q _ H (ku.refl H) rfl
theorem im{j}:SE X (.Constant .none j pos) (fun _=>some .non):=Dx.imp fun σ H Q ⟨ρ,d,er,e,q⟩=>by
 cases e
 exact q _ H (ku.refl H) rfl
theorem aS{x j}:SE X (.Constant (.str x) j pos) (fun _=>some (.str x)):=Dl.imp fun σ H Q ⟨ρ,d,er,e,q⟩=>by
 cases e
 exact q _ H (ku.refl H) rfl
def E2(K:W.Frag)(mg:Str->Option Value)(x:Str)(d:D):Prop:=∃u v,mg x=some u/\RelV v u/\∀H,Rep K H d v
theorem eQ{x:Str}{d:D}(h:E2 X.K X.mg x d)(hg:Gl X x:=by rfl)(hd:(x==("__debug__" : Str))=false:=by decide):SE X (.Name x pos) (fun _=>some d):=by
 obtain⟨u,v,hm,r,hr⟩:=h
 exact(jh hg hm r hd).imp fun σ H Q ⟨ρ,d',er,e,q⟩=>by
  cases e
  exact q v H (ku.refl H) (hr H)
def DC(X:Cx)(f:Value->Value->Sem Value)(F:D->D->OD):Prop:=
 OpR X f fun x y H Q=>∃dx dy d,Rep X.K H dx x/\Rep X.K H dy y/\F dx dy=some d/\∀v H',ku H H'->Rep X.K H' d v->Q v H'
def A9(X:Cx)(op:CmpOp)(F:D->D->Option Bool):Prop:=
 OpR X (compareOp op) fun x y H Q=>∃dx dy b,Rep X.K H dx x/\Rep X.K H dy y/\F dx dy=some b/\Q (.bl b) H
def E8(X:Cx)(f:Value)(F:LD->OD):Prop:=
 CallR X f fun xs H Q=>∃ds d,i9 X.K H ds xs/\F ds=some d/\∀v H',ku H H'->Rep X.K H' d v->Q v H'
theorem _root_.L2.OpR.imp{f:Value->Value->Sem Value}{r r':R2}(h:OpR X f r)(hi:∀x y H Q,r' x y H Q->r x y H Q):OpR X f r':=fun pins s σ H x y v u Q I rx ry q=>h pins s σ H x y v u Q I rx ry (hi x y H Q q)
theorem _root_.L2.UnR.imp{f:Value->Sem Value}{r r':V->Hp->VK->Prop}(h:UnR X f r)(hi:∀x H Q,r' x H Q->r x H Q):UnR X f r':=fun pins s σ H x v Q I rx q=>h pins s σ H x v Q I rx (hi x H Q q)
theorem _root_.L2.CallR.imp{f:Value}{r r':List V->Hp->VK->Prop}(h:CallR X f r)(hi:∀x H Q,r' x H Q->r x H Q):CallR X f r':=fun pins s σ H xs us Q I rx q=>h pins s σ H xs us Q I rx (hi xs H Q q)
variable{f g h:R->OD}
theorem two{σ:L2.St}{H:Hp}{Q:VK}{F:D->D->OD}(q:tD X.K (i8 F f g) σ H Q) :
  tD X.K f σ H fun x H1=>tD X.K g σ H1 fun y H2=>∃dx dy d,Rep X.K H2 dx x/\Rep X.K H2 dy y/\F dx dy=some d/\∀v H',ku H2 H'->Rep X.K H' d v->Q v H':=by
 obtain⟨ρ,d,er,e,q⟩:=q
 obtain⟨x,e1,e⟩:=kx e
 obtain⟨y,e2,e⟩:=kx e
 exact⟨ρ,x,er,e1,fun v H1 s1 r1=>⟨ρ,y,er.mono s1,e2,fun u H2 s2 r2=>⟨x,y,d,r1.mono s2,r2,e,fun w H3 s3 r3=>q w H3 (s1.trans (s2.trans s3)) r3⟩⟩⟩
theorem ar{op:Operator}{F:D->D->OD}(ho:DC X (binaryOp op) F)(ha:SE X a f)(hb:SE X b g):SE X (.BinOp a op b pos) (i8 F f g):=(iC ho ha hb).imp fun σ H Q q=>two q
theorem Gb{σ:L2.St}{H:Hp}{Q:Bool->Hp->Prop}{F:D->D->Option Bool}(q:Fi X.K (lC F f g) σ H Q) :
  tD X.K f σ H fun x H1=>tD X.K g σ H1 fun y H2=>∃dx dy b,Rep X.K H2 dx x/\Rep X.K H2 dy y/\F dx dy=some b/\Q b H2:=by
 obtain⟨ρ,d,er,e,q⟩:=q
 obtain⟨x,e1,e⟩:=kx e
 obtain⟨y,e2,e⟩:=kx e
 exact⟨ρ,x,er,e1,fun v H1 s1 r1=>⟨ρ,y,er.mono s1,e2,fun u H2 s2 r2=>⟨x,y,d,r1.mono s2,r2,e,q H2 (s1.trans s2)⟩⟩⟩
theorem Eb{σ:L2.St}{H:Hp}{Q:VK}{f:R->Option Bool}(q:tD X.K (Fz f) σ H Q):Fi X.K f σ H fun b H'=>Q (.bl b) H':=by
 obtain⟨ρ,d,er,e,q⟩:=q
 obtain⟨x,e1,e⟩:=lK e
 subst e
 exact⟨ρ,x,er,e1,fun H1 s1=>q _ H1 s1 rfl⟩
theorem gS{op:CmpOp}{F:D->D->Option Bool}(ho:A9 X op F)(ha:SE X a f)(hb:SE X b g)(hm:behindInMarks op b=false:=by first | exact Aq _ | with_unfolding_all rfl) :
  SE X (.Compare a [op] [b] pos) (Fz (lC F f g)):=(iP ho ha hb hm).imp fun σ H Q q=>Gb (Eb q)
theorem bu{op:CmpOp}{F:D->D->Option Bool}(ho:A9 X op F)(ha:SE X a f)(hb:SE X b g)(hm:behindInMarks op b=false:=by first | exact Aq _ | with_unfolding_all rfl) :
  ST X (.Compare a [op] [b] pos) (lC F f g):=(jD ho ha hb hm).imp fun σ H Q q=>by
 obtain⟨ρ,d,er,e,q⟩:=q
 obtain⟨x,e1,e⟩:=kx e
 obtain⟨y,e2,e⟩:=kx e
 exact⟨ρ,x,er,e1,fun v H1 s1 r1=>⟨ρ,y,er.mono s1,e2,fun u H2 s2 r2=>⟨x,y,d,r1.mono s2,r2,e,d,rfl,q H2 (s1.trans s2)⟩⟩⟩
variable{s t:R->Option Bool}{rest:List Expr}
theorem gZ{e:Expr}(h:SW X e s):ST X e s:=PW.pt h
theorem jc(ha:ST X a s):SW X (.BoolOp .And [a] pos) s:=B8 ha
theorem iG(ha:ST X a s):SW X (.BoolOp .Or [a] pos) s:=Eh ha
theorem jU(ha:ST X a s)(hb:SW X (.BoolOp .And (b::rest) pos) t):SW X (.BoolOp .And (a::b::rest) pos) (zN s t):=(C_ ha hb).imp fun σ H Q ⟨ρ,k,er,e,q⟩=>by
 obtain⟨x,e1,e⟩:=kx e
 refine⟨ρ,x,er,e1,fun H1 s1=>?_⟩
 cases x with
 | false=>cases e;rw[if_neg Bool.false_ne_true];exact q H1 s1
 | true=>rw[if_pos rfl] at e ⊢;exact⟨ρ,k,er.mono s1,e,fun H2 s2=>q H2 (s1.trans s2)⟩
theorem jG(ha:ST X a s)(hb:SW X (.BoolOp .Or (b::rest) pos) t):SW X (.BoolOp .Or (a::b::rest) pos) (EB s t):=(EU ha hb).imp fun σ H Q ⟨ρ,k,er,e,q⟩=>by
 obtain⟨x,e1,e⟩:=kx e
 refine⟨ρ,x,er,e1,fun H1 s1=>?_⟩
 cases x with
 | true=>cases e;rw[if_pos rfl];exact q H1 s1
 | false=>rw[if_neg Bool.false_ne_true] at e ⊢;exact⟨ρ,k,er.mono s1,e,fun H2 s2=>q H2 (s1.trans s2)⟩
theorem jX(ha:SE X a f):SE X (.UnaryOp .Not a pos) (Cy f):=(jZ ha).imp fun σ H Q ⟨ρ,d,er,e,q⟩=>by
 obtain⟨x,e1,e⟩:=kx e
 refine⟨ρ,x,er,e1,fun v H1 s1 r1=>?_⟩
 cases x with
 | bl c =>
  cases (show v=_ from r1)
  cases e
  exact⟨c,rfl,q _ H1 s1 rfl⟩
 | _=>cases e
variable{F:R->Option LD}
theorem ae:SA X [] i5:=⟨xo.imp fun σ H Q ⟨ρ,d,er,e,q⟩=>by cases e;exact q [] H (ku.refl H) rfl,fun ρ ds e=>by cases e;rfl,rfl⟩
theorem aa(ha:SE X e f)(hr:SA X es F)(hs:noStar e=true:=by rfl):SA X (e::es) (i3 f F):=⟨(ce ha hr.1 (aw es X.env hs)).imp fun σ H Q ⟨ρ,ds,er,e,q⟩=>by
 obtain⟨x,e1,e⟩:=kx e
 obtain⟨y,e2,e⟩:=lK e
 subst e
 exact⟨ρ,x,er,e1,fun v H1 s1 r1=>⟨ρ,y,er.mono s1,e2,fun vs H2 s2 r2=>q _ H2 (s1.trans s2) (i9.cons (r1.mono s2) r2)⟩⟩,fun ρ ds e=>by
 obtain⟨x,e1,e⟩:=kx e
 obtain⟨y,e2,e⟩:=lK e
 subst e
 simp[hr.2.1 ρ y e2],by rw[List.all_cons,hs,hr.2.2];rfl⟩
theorem aQ{H:Hp}{p:Addr}(h:H p=none)(o:HO):ku H (upd H p o):=fun b u q=>by rw[aj (mn q h)];exact q
theorem ax{k}(h:SA X es F)(hl:Nat.ble es.length 1000=true:=by rfl):SE X (.Tuple es k pos) (kG F):=(jN h.1).imp fun σ H Q ⟨ρ,d,er,e,q⟩=>by
 obtain⟨ds,e1,e⟩:=lK e
 subst e
 refine⟨ρ,ds,er,e1,fun vs H1 s1 r1=>⟨?_,fun p hp=>?_⟩⟩
 ·rw[<- r1.length,h.2.1 ρ ds e1];exact Nat.le_of_lt (qQ (Nat.le_of_ble_eq_true hl))
 ·have s2:=aQ hp (.tup vs)
  exact q _ _ (s1.trans s2) ⟨p,vs,rfl,mG.of ai,r1.mono s2⟩
theorem iL(h:SA X es F)(hl:Nat.ble es.length 1000=true:=by rfl):SE X (.List es pos) (BH F):=(dF h.1).imp fun σ H Q ⟨ρ,d,er,e,q⟩=>by
 obtain⟨ds,e1,e⟩:=lK e
 subst e
 refine⟨ρ,ds,er,e1,fun vs H1 s1 r1=>⟨?_,fun p hp=>?_⟩⟩
 ·rw[<- r1.length,h.2.1 ρ ds e1];exact Nat.le_of_lt (qQ (Nat.le_of_ble_eq_true hl))
 ·have s2:=aQ hp (.lst vs)
  exact q _ _ (s1.trans s2) ⟨p,vs,rfl,ai,r1.mono s2⟩
structure mL (P:Program) (w:World) (K:W.Frag) (mg:Str->Option Value) (base:Heap) (k:Nat) (x:Str) (ps:List Str) (F:LD->OD):Prop where
 ex:∃f fd,kT P w K mg base mi k f fd ps (rS K F)/\mg x=some (.ref f)/\W.keepIn K (.ref f)=true/\Binds K fd ps []
theorem mL.mono{P:Program}{w:World}{K:W.Frag}{mg:Str->Option Value}{base:Heap}{j k:Nat}{x:Str}{ps:List Str}{F:LD->OD}(h:mL P w K mg base j x ps F)(hk:j<=k):mL P w K mg base k x ps F:=by
 obtain⟨f,fd,a,b⟩:=h.ex
 exact⟨f,fd,a.mono hk,b⟩
theorem mL.imp{P:Program}{w:World}{K:W.Frag}{mg:Str->Option Value}{base:Heap}{k:Nat}{x:Str}{ps:List Str}{F G:LD->OD}(h:mL P w K mg base k x ps F)(hi:∀ds d,G ds=some d->F ds=some d):mL P w K mg base k x ps G:=by
 obtain⟨f,fd,a,b⟩:=h.ex
 exact⟨f,fd,a.imp fun vs H Q E ⟨ds,d,r,e,q⟩=>⟨ds,d,r,hi ds d e,q⟩,b⟩
theorem aA{k:Nat}{x:Str}{ps:List Str}{G:LD->OD}(C:mL X.prog X.w X.K X.mg X.base k x ps G)(hr:lb k X.A)(ha:SA X (e::es) F)(hg:Gl X x:=by rfl)
  (hdb:(x==("__debug__" : Str))=false:=by decide) :
  SE X (.Call (.Name x p) (e::es) [] pos) (i6 G F):=by
 have hst:=ha.2.2
 rw[List.all_cons,Bool.and_eq_true] at hst
 have he:=aw es X.env hst.1
 have hpl:=bo (pos:=pos) (env:=X.env) hst.2
 obtain⟨f,fd,a,m,kp,bd⟩:=C.ex
 refine(dg a hr hg m kp bd .nil uw ha.1 hdb he hpl).imp fun σ H Q ⟨ρ,d,er,e,q⟩=>?_
 obtain⟨ds,e1,e⟩:=kx e
 exact⟨ρ,ds,er,e1,fun vs H1 s1 r1=>⟨ds,d,by rw[List.append_nil];exact r1,e,fun v H2 s2 r2=>q v H2 (s1.trans s2) r2⟩⟩
theorem aX{x:Str}{id:String}{G:LD->OD}(hc:E8 X (.builtin id) G)(hm:X.mg x=none)(ha:SA X (e::es) F)(hv:bootBuiltins x=some (.builtin id):=by kernel_rfl)(hg:Gl X x:=by rfl)(hn:x ≠ "__name__":=by decide)(hdb:(x==("__debug__" : Str))=false:=by decide):SE X (.Call (.Name x p) (e::es) [] pos) (i6 G F):=
 (gF hc hg hm hv ha.1 hn hdb (aw es X.env (List.all_eq_true.mp ha.2.2 e List.mem_cons_self)) (bo (List.all_eq_true.mpr fun x hx=>List.all_eq_true.mp ha.2.2 x (List.mem_cons_of_mem _ hx)))).imp fun σ H Q ⟨ρ,d,er,e,q⟩=>by
  obtain⟨ds,e1,e⟩:=kx e
  exact⟨ρ,ds,er,e1,fun vs H1 s1 r1=>⟨ds,d,r1,e,fun v H2 s2 r2=>q v H2 (s1.trans s2) r2⟩⟩
theorem cE{x:Str}{T:String}{G:LD->OD}(hc:E8 X (.type T) G)(hm:X.mg x=none)(ha:SA X (e::es) F)(hv:bootBuiltins x=some (.type T):=by kernel_rfl)(hg:Gl X x:=by rfl)(hn:x ≠ "__name__":=by decide)(hdb:(x==("__debug__" : Str))=false:=by decide):SE X (.Call (.Name x p) (e::es) [] pos) (i6 G F):=
 (gs hc hg hm hv ha.1 hn hdb (aw es X.env (List.all_eq_true.mp ha.2.2 e List.mem_cons_self)) (bo (List.all_eq_true.mpr fun x hx=>List.all_eq_true.mp ha.2.2 x (List.mem_cons_of_mem _ hx)))).imp fun σ H Q ⟨ρ,d,er,e,q⟩=>by
  obtain⟨ds,e1,e⟩:=kx e
  exact⟨ρ,ds,er,e1,fun vs H1 s1 r1=>⟨ds,d,r1,e,fun v H2 s2 r2=>q v H2 (s1.trans s2) r2⟩⟩
def Hl(X:Cx)(F:D->D->OD):Prop:=IxR X fun x y H Q=>∃dx dy d,Rep X.K H dx x/\Rep X.K H dy y/\F dx dy=some d/\∀v H',ku H H'->Rep X.K H' d v->Q v H'
theorem _root_.L2.IxR.imp{r r':R2}(h:IxR X r)(hi:∀x y H Q,r' x y H Q->r x y H Q):IxR X r':=fun value slice pins s σ H x y v u Q I rx ry q hs=>h value slice pins s σ H x y v u Q I rx ry (hi x y H Q q) hs
theorem Du(n:Nat)(i:Int):En n i=Fg n i:=rfl
theorem u7{K:W.Frag}{H:Hp}{ds:LD}{xs:List V}{i:Int}{d:D}(r:i9 K H ds xs)(e:wL ds i=some d):∃v,Dj xs i=some v/\Rep K H d v:=by
 obtain⟨j,e1,e2⟩:=kx e
 obtain⟨v,h1,h2⟩:=r.get e2
 refine⟨v,?_,h2⟩
 unfold Dj
 rw[<- r.length,<- Du,e1]
 exact h1
theorem GR:Hl X kF:=(BZ.or (DP.or D5)).imp fun x y H Q ⟨dx,dy,d,r1,r2,e,q⟩=>by
 cases dx with
 | tup ds =>
  cases dy with
  | int i =>
   obtain⟨a,xs,e1,hq,t⟩:=r1
   cases (show y=_ from r2)
   obtain⟨v,h1,h2⟩:=u7 t e
   exact .inr (.inl ⟨a,xs,i,v,e1,rfl,hq,h1,q v H (ku.refl H) h2⟩)
  | _=>cases e
 | lst ds =>
  cases dy with
  | int i =>
   obtain⟨a,xs,e1,hq,t⟩:=r1
   cases (show y=_ from r2)
   obtain⟨v,h1,h2⟩:=u7 t e
   exact .inl ⟨a,xs,i,v,e1,rfl,nO.of hq,h1,q v H (ku.refl H) h2⟩
  | _=>cases e
 | fro ds =>
  cases dy with
  | int i =>
   obtain⟨a,xs,e1,hq,t⟩:=r1
   cases (show y=_ from r2)
   obtain⟨v,h1,h2⟩:=u7 t e
   exact .inl ⟨a,xs,i,v,e1,rfl,hq,h1,q v H (ku.refl H) h2⟩
  | _=>cases e
 | str z =>
  cases dy with
  | int i =>
   cases (show x=_ from r1)
   cases (show y=_ from r2)
   unfold kF at e
   dsimp only at e
   split at e
   ·rename_i hz
    obtain⟨c,e1,e2⟩:=lK e
    subst e2
    exact .inr (.inr ⟨z,i,c,rfl,rfl,hz,(by rw[<- e1];rfl),q _ H (ku.refl H) rfl⟩)
   ·cases e
  | _=>cases e
 | _=>cases e
theorem ao(ha:SE X a f)(hb:SE X b g)(hs:xV b:=by intro _ _;rfl):SE X (.Subscript a b pos) (i8 kF f g):=(km GR ha hb hs).imp fun σ H Q q=>two q
variable{st:Stmt}{sts:List Stmt}{u w:R->Option Out}
theorem cQ:SS X [] m9:=vf.imp fun E σ H ⟨ρ,τ,o,er,e,q⟩=>by
 cases e
 exact q H (ku.refl H) σ er
theorem D9{E:Ends}{σ:L2.St}{H:Hp}{K:W.Frag}(q:EY K (kP u w) E σ H):EY K u {E with nx:=EY K w E} σ H:=by
 obtain⟨ρ,τ,o,er,e,q⟩:=q
 obtain⟨o1,e1,e⟩:=kx e
 refine⟨ρ,τ,o1,er,e1,fun H1 s1=>?_⟩
 cases o1 with
 | nx ρ2=>exact fun σ2 er2=>⟨ρ2,τ,o,er2,e,fun H2 s2=>q H2 (s1.trans s2)⟩
 | rt d=>cases e;exact q H1 s1
 | bk ρ2=>cases e;exact q H1 s1
 | ct ρ2=>cases e;exact q H1 s1
theorem ak(h1:S1 X st u)(h2:SS X sts w):SS X (st::sts) (kP u w):=(ba h1 h2).imp fun E σ H q=>D9 q
theorem az(h1:S1 X st u):SS X [st] u:=cg h1
theorem aT(ha:SE X a f):S1 X (.Return (some a) pos) (lV f):=(fK ha).imp fun E σ H ⟨ρ,τ,o,er,e,q⟩=>by
 obtain⟨x,e1,e⟩:=lK e
 subst e
 exact⟨ρ,x,er.1,e1,fun v H1 s1 r1=>q H1 s1 v r1⟩
theorem gp{B1 B2:List Stmt}(hc:ST X c s)(ha:SS X B1 u)(hb:SS X B2 w):S1 X (.If c B1 B2 pos) (uT s u w):=(gG hc ha hb).imp fun E σ H ⟨ρ,τ,o,er,e,q⟩=>by
 obtain⟨x,e1,e⟩:=kx e
 refine⟨ρ,x,er.1,e1,fun H1 s1=>?_⟩
 cases x with
 | true=>rw[if_pos rfl] at e ⊢;exact⟨ρ,τ,o,er.mono s1,e,fun H2 s2=>q H2 (s1.trans s2)⟩
 | false=>rw[if_neg Bool.false_ne_true] at e ⊢;exact⟨ρ,τ,o,er.mono s1,e,fun H2 s2=>q H2 (s1.trans s2)⟩
theorem ag(i:Nat){x:Str}(hN:X.N.Nodup)(hi:X.N[i]?=some x:=by rfl)(hx:Loc X.env.scope x:=by first | exact Or.inl rfl | exact Or.inr rfl)(hf:X.fn x=true\/X.env.scope.names.lookup x=some .local:=by first | exact .inl rfl | exact .inr rfl) :
  SG X (.Name x pos) (setAt i):=(iW hN hi hx hf).imp fun v σ H Q ⟨ρ,τ,d,ρ',er,r,e,q⟩=>by
 unfold setAt at e
 split at e
 ·rename_i hlt
  cases e
  exact q _ H (ku.refl H) (er.set hlt r)
 ·cases e
variable{stf:D->R->Option R}{stfs:List (D->R->Option R)}
theorem bX:FP X [] []:=Bj.imp fun v σ H Q ⟨ρ,τ,ds,ρ',er,r,e,q⟩=>by
 cases ds with
 | nil=>cases e;exact⟨r,q σ H (ku.refl H) er⟩
 | cons d ds=>cases e
theorem aL(h1:SG X e stf)(h2:FP X es stfs)(hs:(assignEach (e::es) X.env).map (·.2)=assign e X.env::(assignEach es X.env).map (·.2):=by rfl):FP X (e::es) (stf::stfs):=
 (Bb h1 h2 hs).imp fun v σ H Q ⟨ρ,τ,ds,ρ',er,r,e,q⟩=>by
  cases ds with
  | nil=>cases e
  | cons d ds =>
   obtain⟨v1,vr,rfl,r1,rr⟩:=r
   obtain⟨ρ1,e1,e⟩:=kx e
   exact⟨v1,vr,rfl,ρ,τ,d,ρ1,er,r1,e1,fun σ1 H1 s1 er1=>⟨ρ1,τ,ds,ρ',er1,rr.mono s1,e,fun σ2 H2 s2 er2=>q σ2 H2 (s1.trans s2) er2⟩⟩
theorem uG:∀{fs:List (D->R->Option R)} {ds:LD} {ρ ρ':R},v6 fs ds ρ=some ρ'->ds.length=fs.length
 | [],[],_,_,_=>rfl
 | [],_::_,_,_,e=>by cases e
 | _::_,[],_,_,e=>by cases e
 | f::fs,d::ds,_,_,e=>by
  obtain⟨_,_,e⟩:=kx e
  simp[uG e]
theorem cx{k}(hc:X.calm=true)(h:FP X es stfs)(hn:(assignEach es X.env).length=stfs.length:=by rfl)(hst:(assignEach es X.env).findIdx? (·.1)=none:=by rfl):SG X (.Tuple es k pos) (nR stfs):=
 (jV hc h hn hst).imp fun v σ H Q ⟨ρ,τ,d,ρ',er,r,e,q⟩=>by
  cases d with
  | tup ds =>
   obtain⟨a,xs,e1,hq,t⟩:=r
   exact⟨a,xs,e1,hq,by rw[<- t.length];exact uG e,ρ,τ,ds,ρ',er,t,e,q⟩
  | _=>cases e
theorem aF{tg:Expr}(ha:SE X a f)(hg:SG X tg stf)(hs:swapsWithSole [tg] a pos.line X.env=pure false:=by rfl)(hw:swappedStores [tg] a X.env=pure none:=by rfl)(h1:(assignEach [tg] X.env).map (·.2)=[assign tg X.env]:=by rfl) :
  S1 X (.Assign [tg] a pos) (kO f stf):=(iF ha hg hs hw h1).imp fun E σ H ⟨ρ,τ,o,er,e,q⟩=>by
 obtain⟨x,e1,e⟩:=kx e
 obtain⟨ρ',e2,e⟩:=lK e
 subst e
 exact⟨ρ,x,er.1,e1,fun v H1 s1 r1=>⟨ρ,τ,x,ρ',er.mono s1,r1,e2,fun σ2 H2 s2 er2=>q H2 (s1.trans s2) σ2 er2⟩⟩
theorem Kp.of{H H':Hp}(s:ku H H'):Kp H H':=fun b u e _=>s b u e
theorem Kp.refl(H:Hp):Kp H H:=fun _ _ e _=>e
theorem Kp.seq{K:W.Frag}{H H':Hp}{a:Addr}{xs:List V}(s:Kp H H')(h:nO K H a xs):nO K H' a xs:=by
 rcases h with (h | ⟨o,h⟩) | h
 ·exact .inl (.inl (s _ _ h fun φ z=>nomatch z))
 ·exact .inl (.inr ⟨o,s _ _ h fun φ z=>nomatch z⟩)
 ·exact .inr h
theorem Kp.tup{K:W.Frag}{H H':Hp}{a:Addr}{xs:List V}(s:Kp H H')(h:mG K H a xs):mG K H' a xs:=by
 rcases h with (h | ⟨o,h⟩) | h
 ·exact .inl (.inl (s _ _ h fun φ z=>nomatch z))
 ·exact .inl (.inr ⟨o,s _ _ h fun φ z=>nomatch z⟩)
 ·exact .inr h
mutual
theorem Rep.kp{K:W.Frag}{H H':Hp}(s:Kp H H'):∀{d:D} {v:V},Rep K H d v->Rep K H' d v
 | .non,_,h=>h
 | .bl _,_,h=>h
 | .int _,_,h=>h
 | .str _,_,h=>h
 | .tup ds,_,h=>by
  obtain⟨a,xs,e,q,r⟩:=h
  exact⟨a,xs,e,s.tup q,i9.kp s r⟩
 | .lst ds,_,h=>by
  obtain⟨a,xs,e,q,r⟩:=h
  exact⟨a,xs,e,s _ _ q (fun φ z=>by cases z),i9.kp s r⟩
 | .fro ds,_,h=>by
  obtain⟨a,xs,e,q,r⟩:=h
  exact⟨a,xs,e,s.seq q,i9.kp s r⟩
 | .obj ..,_,h=>h
 | .dct ks ds,_,h=>by
  obtain⟨a,xs,e,q,r⟩:=h
  exact⟨a,xs,e,⟨q.1,let ⟨o,z⟩:=q.2;⟨o,s _ _ z (fun φ z=>by cases z)⟩⟩,i9.kp s r⟩
 | .dcp ks ds,_,h=>by
  obtain⟨a,kas,xs,e,q,r⟩:=h
  exact⟨a,kas,xs,e,q.to (fun _ _=>s.tup) fun o u z=>s _ _ z (fun φ z=>by cases z),i9.kp s r⟩
 | .cl t a ds,_,h=>by
  obtain⟨e,cl,xs,pm,ctv,c',h1,h2,h3,h4,r⟩:=h
  exact⟨e,cl,xs,pm,ctv,c',s _ _ h1 (fun φ z=>by cases z),s _ _ h2 (fun φ z=>by cases z),h3,h4.to fun b o z=>s _ _ z (fun φ z=>by cases z),i9.kp s r⟩
theorem i9.kp{K:W.Frag}{H H':Hp}(s:Kp H H'):∀{ds:LD} {vs:List V},i9 K H ds vs->i9 K H' ds vs
 | [],_,h=>h
 | d::ds,_,h=>by
  obtain⟨v,r,e,q,t⟩:=h
  exact⟨v,r,e,Rep.kp s q,i9.kp s t⟩
end
theorem lW.kp{K:W.Frag}{H H':Hp}{ρ:R}{σ:L2.St}(e:lW K H ρ σ)(s:Kp H H'):lW K H' ρ σ:=⟨e.1,fun i d h=>let ⟨v,a,b⟩:=e.2 i d h;⟨v,a,b.kp s⟩⟩
theorem lQ.kp{K:W.Frag}{H H':Hp}{ρ:R}{τ σ:L2.St}(e:lQ K H ρ τ σ)(s:Kp H H'):lQ K H' ρ τ σ:=⟨e.1.kp s,e.2⟩
theorem eX{K:W.Frag}{H:Hp}{a:Addr}{ds:LD}{xs:List V}(hq:nO K H a xs)(t:i9 K H ds xs):oP K (GM K a) ds H:=by
 refine⟨fun i d H2 s2 e=>?_,fun i H2 s2 hl=>⟨xs,s2.seq hq,by rw[<- t.length];exact hl⟩⟩
 obtain⟨v,h1,h2⟩:=t.get e
 refine⟨⟨xs,v,s2.seq hq,h1⟩,fun x H3 ⟨e3,y⟩=>?_⟩
 subst e3
 have:=(y xs (s2.seq hq)).symm.trans h1
 cases this
 exact⟨ku.refl _,h2.kp s2⟩
theorem fJ{K:W.Frag}{H:Hp}{a:Addr}{ds:LD}{xs:List V}(hq:mG K H a xs)(t:i9 K H ds xs):oP K (Gs K a) ds H:=by
 refine⟨fun i d H2 s2 e=>?_,fun i H2 s2 hl=>⟨xs,s2.tup hq,by rw[<- t.length];exact hl⟩⟩
 obtain⟨v,h1,h2⟩:=t.get e
 refine⟨⟨xs,v,s2.tup hq,h1⟩,fun x H3 ⟨e3,y⟩=>?_⟩
 subst e3
 have:=(y xs (s2.tup hq)).symm.trans h1
 cases this
 exact⟨ku.refl _,h2.kp s2⟩
theorem Ak{a b:Int}{i:Nat}{d:D}(e:(mH a b)[i]?=some d):i<(b - a).toNat/\d=.int (a+i):=by
 unfold mH at e
 rw[List.getElem?_map] at e
 obtain⟨k,e1,e⟩:=lK e
 obtain⟨h1,h2⟩:=List.getElem?_eq_some_iff.mp e1
 rw[List.length_range] at h1
 rw[List.getElem_range] at h2
 subst h2
 exact⟨h1,e.symm⟩
theorem ft{K:W.Frag}{H:Hp}{a b:Int}:oP K (FQ a (b - a).toNat) (mH a b) H:=by
 refine⟨fun i d H2 s2 e=>?_,fun i H2 s2 hl=>by
  have z:(mH a b).length=(b - a).toNat:=by simp[mH]
  rw[z] at hl
  exact hl⟩
 obtain⟨h1,rfl⟩:=Ak e
 refine⟨h1,fun x H3 ⟨e3,y⟩=>?_⟩
 subst e3
 exact⟨ku.refl _,y⟩
def GJ(K:PySem.W.Frag)(tl:TE):TI:=fun σ H W=>tl σ H fun x H1=>(∃a,x=.ref a/\(((∃xs,nO K H1 a xs)/\W (GM K a) H1)\/((∃xs,mG K H1 a xs)/\W (Gs K a) H1)))\/∃z,x=.str z/\z.cps.all (·<128)=true/\W (Gw z) H1
theorem fF{K:W.Frag}{H:Hp}{x:Str}:oP K (Gw x) (chars x) H:=by
 have hl:(chars x).length=x.cps.size:=by simp[chars]
 refine⟨fun i d H2 s2 e=>?_,fun i H2 s2 h=>by rw[hl] at h;exact h⟩
 have hi:i<x.cps.size:=by rw[<- hl];exact(List.getElem?_eq_some_iff.mp e).1
 refine⟨hi,fun v H3 ⟨e3,c,h1,h2⟩=>?_⟩
 subst e3
 refine⟨ku.refl _,?_⟩
 unfold chars at e
 rw[List.getElem?_map] at e
 obtain⟨c',e1,e⟩:=lK e
 have h1':x.cps.toList[i]?=some c:=by simpa using h1
 rw[h1'] at e1
 cases e1
 subst e
 exact h2
theorem jS{tg l:Expr}{tl:TE}(hl:PE X l tl):PI X tg l (GJ X.K tl):=by
 intro pins s σ H W I h
 refine lA (hl pins s σ H _ I h) fun v s1 ⟨x,H1,I1,r1,q1⟩=>?_
 rcases q1 with ⟨a,e,q1⟩ | ⟨z,e,hz,q⟩
 rotate_left
 ·subst e
  obtain⟨t,rfl⟩:=r1
  refine wpAny_pyIter_ascii hz ?_
  refine⟨s1.heap.objs.size,[s1.heap.objs.size],_,_,H1,rfl,I1.kept (t':=s1.toks) fun b o e=>Heap.get?_push_of_some _ e,zG _ z t,⟨_,Heap.get?_push_size _ rfl,rfl,rfl⟩,fun b hb=>?_,q⟩
  have e:b=s1.heap.objs.size:=by simpa using hb
  subst e
  exact I1.fpOk (Nat.le_refl _) (I1.hok.fresh (Nat.le_refl _))
 subst e
 cases r1
 rcases q1 with ⟨⟨xs,hq⟩,q⟩ | ⟨⟨xs,hq⟩,q⟩
 ·obtain⟨its,rv,p,hz⟩:=I1.list hq
  refine wpAny_pyIter_list p.isList ?_
  refine⟨s1.heap.objs.size,[s1.heap.objs.size],_,_,H1,rfl,I1.kept (t':=s1.toks) fun b o e=>Heap.get?_push_of_some _ e,yL a _,⟨_,Heap.get?_push_size _ rfl,rfl,rfl⟩,fun b hb=>?_,q⟩
  have e:b=s1.heap.objs.size:=by simpa using hb
  subst e
  exact I1.fpOk (Nat.le_refl _) (I1.hok.fresh (Nat.le_refl _))
 ·obtain⟨its,rv,p,hz⟩:=I1.tuple hq
  refine wpAny_pyIter_tuple (show s1.heap.IsTuple a its.toArray from p) ?_
  refine⟨s1.heap.objs.size,[s1.heap.objs.size],_,_,H1,rfl,I1.kept (t':=s1.toks) fun b o e=>Heap.get?_push_of_some _ e,xb a _,⟨_,Heap.get?_push_size _ rfl,rfl,rfl⟩,fun b hb=>?_,q⟩
  have e:b=s1.heap.objs.size:=by simpa using hb
  subst e
  exact I1.fpOk (Nat.le_refl _) (I1.hok.fresh (Nat.le_refl _))
theorem bj{tg:Expr}(ha:SE X a f):SI X tg a (lh f):=(jS ha).imp fun σ H W ⟨ρ,ds,er,e,q⟩=>by
 obtain⟨x,e1,e⟩:=kx e
 refine⟨ρ,x,er,e1,fun v H1 s1 r1=>?_⟩
 cases x with
 | tup xs =>
  cases e
  obtain⟨a,vs,ev,hq,t⟩:=r1
  exact .inl ⟨a,ev,.inr ⟨⟨vs,hq⟩,q _ H1 s1 (fJ hq t)⟩⟩
 | lst xs =>
  cases e
  obtain⟨a,vs,ev,hq,t⟩:=r1
  exact .inl ⟨a,ev,.inl ⟨⟨vs,nO.of hq⟩,q _ H1 s1 (eX (nO.of hq) t)⟩⟩
 | str z =>
  dsimp only at e
  split at e
  ·rename_i hz
   cases e
   cases (show v=_ from r1)
   exact .inr ⟨z,rfl,hz,q _ H1 s1 fF⟩
  ·cases e
 | _=>cases e
theorem cJ{tg:Expr}(hm:X.mg "range" = none)(ha:SE X a f)(hg:Gl X "range":=by rfl)(hs:noStar a=true:=by rfl):SI X tg (.Call (.Name "range" p) [a] [] pos) (mt f):=
 (gt hg hm (aa ha ae hs).1 (aw [] X.env hs)).imp fun σ H W ⟨ρ,ds,er,e,q⟩=>by
  obtain⟨x,e1,e⟩:=kx e
  cases x with
  | int j =>
   dsimp only at e
   split at e
   ·rename_i hj
    cases e
    refine⟨ρ,[.int j],er,by show(f ρ).bind _=_;rw[e1];rfl,fun vs H1 s1 r1=>?_⟩
    obtain⟨v,r,rfl,r2,r3⟩:=r1
    cases (show v=_ from r2)
    cases (show r=_ from r3)
    refine⟨j,rfl,hj.1,hj.2,q _ H1 s1 ?_⟩
    have z:=ft (K:=X.K) (H:=H1) (a:=0) (b:=j)
    rw[Int.sub_zero] at z
    exact z
   ·cases e
  | _=>cases e
theorem cW{tg iter:Expr}{B:List Stmt}{it:R->Option LD}(hp:PassesOwn (model X.prog X.w) X.A X.env X.xe)(hc:X.calm=true)(hi:SI X tg iter it)(hg:SG X tg stf)(hb:SS X B u)
  (hs:∀x,foldedSetIterable iter X.env x=pure x:=by intro _;rfl):S1 X (.For tg iter B [] pos) (mJ it stf u):=(fz hp hc hi hg hb hs).imp fun E σ H ⟨ρ,τ,o,er,e,q⟩=>by
 obtain⟨ds,e1,e⟩:=kx e
 refine⟨ρ,ds,er.1,e1,fun J H1 s1 y=>?_⟩
 refine⟨fun i m σ' H'=>m=ds.length - i/\i<=ds.length/\ku H1 H'/\∃ ρ',lQ X.K H' ρ' τ σ'/\ow stf u (ds.drop i) ρ'=some o,⟨ds.length,by simp,Nat.zero_le _,ku.refl _,ρ,er.mono s1,by simpa using e⟩,?_⟩
 rintro i m σ' H' ⟨rfl,hi,s2,ρ',er',e'⟩
 by_cases hlt:i<ds.length
 ·refine .inr ?_
  have hd:ds[i]?=some ds[i]:=by simp[hlt]
  obtain⟨hgo,hy⟩:=y.1 i ds[i] H' (Kp.of s2) hd
  rw[List.drop_eq_getElem_cons hlt] at e'
  obtain⟨ρ1,e2,e'⟩:=kx e'
  obtain⟨o1,e3,e'⟩:=kx e'
  refine⟨hgo,fun σ2 H2=>i+1<=ds.length/\ku H1 H2/\∃ ρ',lQ X.K H2 ρ' τ σ2/\ow stf u (ds.drop (i+1)) ρ'=some o,fun σ2 H2 n2=>⟨ds.length - (i+1),by omega,rfl,n2.1,n2.2⟩,fun x H3 yx=>?_⟩
  obtain⟨s3,rx⟩:=hy x H3 yx
  refine⟨ρ',τ,ds[i],ρ1,er'.mono s3,rx,e2,fun σ4 H4 s4 er4=>⟨ρ1,τ,o1,er4,e3,fun H5 s5=>?_⟩⟩
  have s15:ku H1 H5:=s2.trans (s3.trans (s4.trans s5))
  cases o1 with
  | nx ρ2=>exact fun σ6 er6=>⟨hlt,s15,ρ2,er6,e'⟩
  | ct ρ2=>exact fun σ6 er6=>⟨hlt,s15,ρ2,er6,e'⟩
  | bk ρ2=>cases e';exact fun σ6 er6=>q H5 (s1.trans s15) σ6 er6
  | rt d=>cases e';exact q H5 (s1.trans s15)
 ·have e4:i=ds.length:=by omega
  subst e4
  rw[List.drop_length] at e'
  cases e'
  exact .inl ⟨y.2 _ H' (Kp.of s2) (Nat.le_refl _),q H' (s1.trans s2) σ' er'⟩
end
theorem qo{K:W.Frag}{H:Hp}{N:List Str}{ds:LD}{vs:List V}(r:i9 K H ds vs):lW K H (pe N.length ds) (L2.start N vs):=by
 unfold pe L2.start
 refine⟨by simp[r.length],fun i d h=>?_⟩
 by_cases hi:i<ds.length
 ·rw[List.getElem?_append_left (by simpa using hi),List.getElem?_map] at h
  obtain⟨d',e1,e⟩:=lK h
  cases e
  obtain⟨v,h1,h2⟩:=r.get e1
  exact⟨v,by rw[List.getElem?_append_left (by rw[List.length_map,<- r.length];exact hi),List.getElem?_map,h1];rfl,h2⟩
 ·rw[List.getElem?_append_right (by simpa using hi),List.getElem?_replicate] at h
  split at h<;>cases h
theorem iq{P:Program}{w:World}{K:W.Frag}{mg:Str->Option Value}{base:Heap}{x qual:Str}{st:Stmt}{f:Addr}{fd:FuncData}{N ps:List Str}{k:Nat}{F:LD->OD}{g:R->Option Out}
  (Fn:qa K x qual st f fd) (S:kL N ps (i7 st)) (hlen:∀ds d,F ds=some d->ds.length=ps.length)
  (hb:∀(cdv:Value) (A:Around) (outer:List Env) (s:Shared) (H:Hp) (E:XK),lb k (A.deeper (envOfC qual (i7 st) s.heap.objs.size f cdv))->SS (pK mi P w K mg base N qual (i7 st) f cdv A outer s H E).nox (k7 st) g)
  (hF:∀ds d,F ds=some d->k_ (g (pe N.length ds))=some d):kT P w K mg base mi (k+1) f fd ps (rS K F):=by
 refine Fn.ok S (fun vs H Q E h=>?_) (fun cdv A outer s H vs Q E hr h=>?_)
 ·obtain⟨ds,d,r,e,_⟩:=h
  rw[<- r.length]
  exact hlen ds d e
 ·obtain⟨ds,d,r,e,q⟩:=h
  refine⟨_,hb cdv A outer s H E hr,?_⟩
  have z:=hF ds d e
  cases ho:g (pe N.length ds) with
  | none=>rw[ho] at z;cases z
  | some o =>
   rw[ho] at z
   refine⟨pe N.length ds,_,o,(qo r).t,ho,fun H1 s1=>?_⟩
   cases o with
   | rt d'=>cases (show d'=d from Option.some.inj z);exact fun v rv=>q v H1 s1 rv
   | nx ρ=>cases (show D.non=d from Option.some.inj z);exact fun σ _=>q .non H1 s1 rfl
   | bk ρ=>cases z
   | ct ρ=>cases z
theorem aV{P:Program}{w:World}{K:W.Frag}{mg:Str->Option Value}{base:Heap}{x qual:Str}{st:Stmt}{f:Addr}{fd:FuncData}{N ps:List Str}{k:Nat}{n m:Nat}{g:R->Option Out}
  (Fn:qa K x qual st f fd) (S:kL N ps (i7 st))
  (hb:∀(cdv:Value) (A:Around) (outer:List Env) (s:Shared) (H:Hp) (E:XK),lb k (A.deeper (envOfC qual (i7 st) s.heap.objs.size f cdv))->SS (pK mi P w K mg base N qual (i7 st) f cdv A outer s H E).nox (k7 st) g)
  (h1:n=ps.length:=by rfl) (h2:m=N.length:=by rfl):kT P w K mg base mi (k+1) f fd ps (rS K (via n m g)):=by
 subst h1 h2
 exact iq Fn S (fun _ _ h=>bT h) hb fun _ _ h=>dt h
theorem bg{P:Program}{w:World}{K:W.Frag}{mg:Str->Option Value}{base:Heap}{x qual:Str}{st:Stmt}{f:Addr}{fd:FuncData}{ps:List Str}{k:Nat}{F:LD->OD}(Fn:qa K x qual st f fd)(hm:mg x=some (.ref f))
  (hb:Binds K fd ps []) (h:kT P w K mg base mi k f fd ps (rS K F)):mL P w K mg base k x ps F:=⟨f,fd,h,hm,Fn.kp,hb⟩
section
variable{X:Cx}
theorem Ba{prog:Program}{w:World}{A:Around}{E:Value->Shared->Prop}{s:Shared}{t b:Addr}{ws:List Value}{Q:Value->Shared->Prop}(ht:IsTup s.heap t ([]:List Value).toArray)(hb:IsTup s.heap b ws.toArray)
  (h:Q (.ref b) s):wpAny (model prog w) A (binaryOp .Add (.ref t) (.ref b)) Q E s:=by
 obtain⟨⟨cls,dd,data,sl⟩,ho,hc,n,hd⟩:=id ht
 obtain⟨⟨cls2,dd2,data2,C9⟩,ho2,hc2,n2,hd2⟩:=id hb
 simp only at hc hd hc2 hd2
 subst hc hd hc2 hd2
 exact concat_meets ⟨_,ho,rfl⟩ ⟨_,ho2,rfl⟩ noFill_tuple_add seq_tuple_add PySem.F.slot_tuple_add PySem.F.entry_tuple_add (PySem.F.args_tuple_add_2 _ _)
  (tuple_addW0 t b ([]:List Value).toArray ws.toArray n n2 dd dd2 sl C9 (by simp)) ⟨ho,ho2,h⟩
theorem pw{K:W.Frag}{H:Hp}{d:D}{v:V}{i:Int}(e:nI d=some i)(r:Rep K H d v):v=.int i:=by
 cases d<;>cases e
 exact r
theorem EQ{K:W.Frag}{H:Hp}{d:D}{v:V}{xs:LD}(e:tI d=some xs)(r:Rep K H d v):Rep K H (.tup xs) v:=by
 cases d<;>cases e
 exact r
theorem E_{K:W.Frag}{H:Hp}{d:D}{v:V}{xs:LD}(e:lI d=some xs)(r:Rep K H d v):Rep K H (.lst xs) v:=by
 cases d<;>cases e
 exact r
theorem xY{K:W.Frag}{H:Hp}{d:D}{v:V}{x:Str}(e:sI d=some x)(r:Rep K H d v):v=.str x:=by
 cases d<;>cases e
 exact r
theorem CT{K:W.Frag}{H:Hp}{d:D}{v:V}{x:Bool}(e:bO d=some x)(r:Rep K H d v):v=.bl x:=by
 cases d<;>cases e
 exact r
theorem wu{α:Type}{p:Prop}[Decidable p]{x y:α}(h:(if p then some x else none)=some y):p/\x=y:=by
 split at h
 ·rename_i hp;exact⟨hp,Option.some.inj h⟩
 ·cases h
theorem aI:DC X (binaryOp .Add) kY:=by
 intro pins s σ H x y v u Q I rx ry h
 obtain⟨dx,dy,d,r1,r2,e,q⟩:=h
 cases dx with
 | int i =>
  obtain⟨j,e1,rfl⟩:=lK e
  exact Df pins s σ H x y v u Q I rx ry ⟨i,j,r1,pw e1 r2,q _ H (ku.refl H) rfl⟩
 | tup xs =>
  obtain⟨ys,e1,e⟩:=kx e
  obtain⟨hz,rfl⟩:=wu e
  obtain⟨a,vs,rfl,hq,t⟩:=r1
  obtain⟨b,us,rfl,hq2,t2⟩:=EQ e1 r2
  cases vs with
  | nil =>
   cases rx
   cases ry
   obtain⟨its,rr1,p1,_⟩:=I.tuple hq
   obtain⟨its2,rr2,p2,_⟩:=I.tuple hq2
   cases rr1
   refine Ba p1 p2 ⟨.ref b,H,I,rfl,q _ H (ku.refl H) ⟨b,us,rfl,hq2,?_⟩⟩
   cases xs with
   | nil=>exact t2
   | cons x r=>obtain⟨_,_,z,_⟩:=t;cases z
  | cons v0 vr =>
   refine Ca pins s σ H _ _ v u Q I rx ry ⟨a,b,v0::vr,us,rfl,rfl,hq,hq2,by simp,by rw[<- t.length,<- t2.length];exact hz,fun z=>?_,fun z p hp=>?_⟩
   ·subst z
    refine q _ H (ku.refl H) ⟨a,v0::vr,rfl,hq,?_⟩
    have:ys=[]:=List.length_eq_zero_iff.mp t2.length
    subst this
    rw[List.append_nil]
    exact t
   ·have s2:=aQ hp (.tup (v0::vr++us))
    exact q _ _ s2 ⟨p,_,rfl,mG.of ai,(t.append t2).mono s2⟩
 | lst xs =>
  obtain⟨ys,e1,e⟩:=kx e
  obtain⟨hz,rfl⟩:=wu e
  obtain⟨a,vs,rfl,hq,t⟩:=r1
  obtain⟨b,us,rfl,hq2,t2⟩:=E_ e1 r2
  refine DQ pins s σ H _ _ v u Q I rx ry ⟨a,b,vs,us,rfl,rfl,hq,hq2,by rw[<- t.length,<- t2.length];exact hz,fun p hp=>?_⟩
  have s2:=aQ hp (.lst (vs++us))
  exact q _ _ s2 ⟨p,_,rfl,ai,(t.append t2).mono s2⟩
 | str a =>
  obtain⟨b,e1,e⟩:=kx e
  obtain⟨hz,rfl⟩:=wu e
  exact xi pins s σ H x y v u Q I rx ry ⟨a,b,r1,xY e1 r2,hz,q _ H (ku.refl H) rfl⟩
 | _=>cases e
theorem bZ:DC X (binaryOp .Mult) qW:=by
 intro pins s σ H x y v u Q I rx ry h
 obtain⟨dx,dy,d,r1,r2,e,q⟩:=h
 obtain⟨i,e1,e⟩:=kx e
 obtain⟨j,e2,e⟩:=kx e
 obtain⟨hz,rfl⟩:=wu e
 refine Dz pins s σ H x y v u Q I rx ry ⟨i,j,pw e1 r1,pw e2 r2,?_,q _ H (ku.refl H) rfl⟩
 unfold lR at hz
 rw[Bool.or_eq_true,Bool.and_eq_true,Bool.and_eq_true] at hz
 exact hz.imp (fun z=>⟨of_decide_eq_true z.1,of_decide_eq_true z.2⟩) fun z=>⟨of_decide_eq_true z.1,of_decide_eq_true z.2⟩
theorem bQ:DC X (binaryOp .FloorDiv) mK:=by
 intro pins s σ H x y v u Q I rx ry h
 obtain⟨dx,dy,d,r1,r2,e,q⟩:=h
 obtain⟨i,e1,e⟩:=kx e
 obtain⟨j,e2,e⟩:=kx e
 obtain⟨hz,rfl⟩:=wu e
 exact Ce pins s σ H x y v u Q I rx ry ⟨i,j,pw e1 r1,pw e2 r2,hz,q _ H (ku.refl H) rfl⟩
theorem aW:DC X (binaryOp .Mod) lB:=by
 intro pins s σ H x y v u Q I rx ry h
 obtain⟨dx,dy,d,r1,r2,e,q⟩:=h
 obtain⟨i,e1,e⟩:=kx e
 obtain⟨j,e2,e⟩:=kx e
 obtain⟨hz,rfl⟩:=wu e
 exact DU pins s σ H x y v u Q I rx ry ⟨i,j,pw e1 r1,pw e2 r2,hz,q _ H (ku.refl H) rfl⟩
theorem G0{op:CmpOp}{p:Int->Int->Bool}{F:D->D->Option Bool}(ho:OpR X (compareOp op) (Es fun i j=>.bl (p i j)))(hF:∀x y,F x y=(nI x).bind fun i=>(nI y).map fun j=>p i j):A9 X op F:=by
 intro pins s σ H x y v u Q I rx ry h
 obtain⟨dx,dy,b,r1,r2,e,q⟩:=h
 rw[hF] at e
 obtain⟨i,e1,e⟩:=kx e
 obtain⟨j,e2,rfl⟩:=lK e
 exact ho pins s σ H x y v u Q I rx ry ⟨i,j,pw e1 r1,pw e2 r2,q⟩
theorem jK:A9 X .Lt EO:=G0 Fe fun _ _=>rfl
theorem kg:A9 X .Gt FT:=G0 Fm fun _ _=>rfl
theorem yP{K:W.Frag}{H:Hp}{d:D}{v:V}{ys:LD}(r:Rep K H d v)(e:AC d=some ys):∃p xs,v=.ref p/\(nO K H p xs\/mG K H p xs)/\i9 K H ys xs:=by
 cases d with
 | tup ds=>cases e;obtain⟨a,xs,rfl,q,t⟩:=r;exact⟨a,xs,rfl,.inr q,t⟩
 | lst ds=>cases e;obtain⟨a,xs,rfl,q,t⟩:=r;exact⟨a,xs,rfl,.inl (nO.of q),t⟩
 | fro ds=>cases e;obtain⟨a,xs,rfl,q,t⟩:=r;exact⟨a,xs,rfl,.inl q,t⟩
 | _=>cases e
theorem tF{K:W.Frag}{H:Hp}{d:D}{v:V}(r:Rep K H d v):Bw d=decide (v=.non):=by
 cases d with
 | tup c=>obtain⟨_,_,rfl,_⟩:=r;rfl
 | lst c=>obtain⟨_,_,rfl,_⟩:=r;rfl
 | fro c=>obtain⟨_,_,rfl,_⟩:=r;rfl
 | obj k a ks ds=>cases (show v=_ from r);rfl
 | dct ks ds=>obtain⟨_,_,rfl,_⟩:=r;rfl
 | dcp ks ds=>obtain⟨_,_,_,rfl,_⟩:=r;rfl
 | cl t a ds=>obtain⟨rfl,_⟩:=r;rfl
 | _=>cases (show v=_ from r);rfl
theorem yG{K:W.Frag}{H:Hp}{d:D}{v:V}(r:Rep K H d v)(h:Bw d=true):v=.non:=by
 rw[tF r] at h
 exact of_decide_eq_true h
theorem j_:A9 X .Is zi:=by
 intro pins s σ H x y v u Q I rx ry h
 obtain⟨dx,dy,b,r1,r2,e,q⟩:=h
 obtain⟨h1,rfl⟩:=wu e
 exact D_ pins s σ H x y v u Q I rx ry ⟨yG r2 h1,by rw[<- tF r1];exact q⟩
theorem gT:A9 X .IsNot yB:=by
 intro pins s σ H x y v u Q I rx ry h
 obtain⟨dx,dy,b,r1,r2,e,q⟩:=h
 obtain⟨k,e2,rfl⟩:=lK e
 obtain⟨h1,rfl⟩:=wu e2
 exact BM pins s σ H x y v u Q I rx ry ⟨yG r2 h1,by rw[<- tF r1];exact q⟩
theorem bN:E8 X (.builtin "len") ml:=vp.imp fun xs H Q ⟨ds,d,r,e,q⟩=>by
 match ds,e with
 | [x],e =>
  obtain⟨ys,e1,e2⟩:=lK e
  subst e2
  obtain⟨v,r',rfl,r1,r2⟩:=r
  cases (show r'=[] from r2)
  obtain⟨p,vs,rfl,hq,t⟩:=yP r1 e1
  exact⟨p,vs,rfl,hq,q _ H (ku.refl H) (by show V.int _=V.int _;rw[t.length])⟩
theorem cG:E8 X (.type "tuple") qe:=tU.imp fun xs H Q ⟨ds,d,r,e,q⟩=>by
 match ds,e with
 | [.tup ys],e =>
  cases e
  obtain⟨v,r',rfl,⟨a,vs,rfl,hq,t⟩,r2⟩:=r
  cases (show r'=[] from r2)
  exact⟨a,vs,rfl,.inr ⟨hq,q _ H (ku.refl H) ⟨a,vs,rfl,hq,t⟩⟩⟩
 | [.lst ys],e =>
  cases e
  obtain⟨v,r',rfl,⟨a,vs,rfl,hq,t⟩,r2⟩:=r
  cases (show r'=[] from r2)
  exact⟨a,vs,rfl,.inl ⟨nO.of hq,fun l hl=>q _ _ (aQ hl _) ⟨l,vs,rfl,mG.of ai,t.mono (aQ hl _)⟩⟩⟩
theorem gM{k:Nat}(hr:lb k X.A):A9 X .Eq Bl:=by
 intro pins s σ H x y v u Q I rx ry h
 obtain⟨dx,dy,b,r1,r2,e,q⟩:=h
 have sc:BF x y=true->decide (x=y)=b->wpAny (model X.prog X.w) X.A (compareOp .Eq v u) (EP X pins σ Q) X.xe s:=fun z1 z2=>ES pins s σ H x y v u Q I rx ry ⟨z1,by rw[z2];exact q⟩
 cases dx with
 | int i=>obtain⟨j,e1,e⟩:=lK e;cases (show x=_ from r1);cases pw e1 r2;exact sc rfl (sf.trans e)
 | str i=>obtain⟨j,e1,e⟩:=lK e;cases (show x=_ from r1);cases xY e1 r2;exact sc rfl (sd.trans e)
 | bl i=>obtain⟨j,e1,e⟩:=lK e;cases (show x=_ from r1);cases CT e1 r2;exact sc rfl (u_.trans e)
 | _=>cases e
theorem jH{k:Nat}(hr:lb k X.A):A9 X .NotEq Ex:=by
 intro pins s σ H x y v u Q I rx ry h
 obtain⟨dx,dy,b,r1,r2,e0,q⟩:=h
 obtain⟨c,e,rfl⟩:=lK e0
 clear e0
 have sc:BF x y=true->decide (x=y)=c->wpAny (model X.prog X.w) X.A (compareOp .NotEq v u) (EP X pins σ Q) X.xe s:=fun z1 z2=>EG pins s σ H x y v u Q I rx ry ⟨z1,by rw[z2];exact q⟩
 cases dx with
 | int i=>obtain⟨j,e1,e⟩:=lK e;cases (show x=_ from r1);cases pw e1 r2;exact sc rfl (sf.trans e)
 | str i=>obtain⟨j,e1,e⟩:=lK e;cases (show x=_ from r1);cases xY e1 r2;exact sc rfl (sd.trans e)
 | bl i=>obtain⟨j,e1,e⟩:=lK e;cases (show x=_ from r1);cases CT e1 r2;exact sc rfl (u_.trans e)
 | _=>cases e
variable{a:Expr}{f:R->OD}{pos p2:Pos}{lo hi:Option Expr}{l h:R->Option (Option Int)}
theorem fV:SO X none zA:=BW.imp fun σ H Q ⟨ρ,o,er,e,q⟩=>by
 cases e
 exact q H (ku.refl H)
theorem fN(ha:SE X a f):SO X (some a) (aP f):=(BX ha).imp fun σ H Q ⟨ρ,o,er,e,q⟩=>by
 obtain⟨x,e1,e2⟩:=kx e
 refine⟨ρ,x,er,e1,fun v H1 s1 r1=>?_⟩
 cases x with
 | int i=>cases e2;exact⟨i,r1,q H1 s1⟩
 | _=>cases e2
theorem yt(n d:Nat)(o:Option Int):zc n d o=HT.sIx n d o:=rfl
theorem tX{prog:Program}{w:World}{A:Around}{E:Value->Shared->Prop}{s:Shared}{t sl:Addr}{items:Array Value}{vl vu:Value}{lo hi:Option Int}{Q:Value->Shared->Prop}(ht:IsTup s.heap t items)(hs:s.heap.IsSliceOf sl vl vu .none)(pl:IsPart vl lo)(pu:IsPart vu hi)
  (hw:HT.sIx items.size 0 lo=0/\HT.sIx items.size items.size hi=items.size) (h:Q (.ref t) s):wpAny (model prog w) A (getItem (.ref t) (.ref sl)) Q E s:=by
 obtain⟨os,hos,hcs,hds⟩:=id hs
 have hTs:s.TypeIs (.ref sl) "slice":=⟨os,hos,hcs⟩
 unfold getItem
 try with_reducible refine wpAny_holding ?_
 first | refine wpAny_bind (wpAny_pure ?_) | skip
 refine wpAny_bind (wpAny_sequenceKey ht.typeIs (by decide) ?_)
 refine wpAny_bind (wpAny_callSpecial?_slot (name:=oS "__getitem__") ht.typeIs PyProof.Rows.slot_tuple_getitem
  (wpAny_call_entry PyProof.Rows.slot_tuple_getitem ht.typeIs entry_tuple_getitem ?_ (args_tuple_getitem _ _)))
 show wpAny _ _ (Builtin.Tuple.tupleItemsOf (.ref t) >>= _) _ _ s
 refine wpAny_bind (tupleItemsOf_ ht ?_)
 refine wpAny_bind (wpAny_typeOf hTs ?_)
 rw[if_pos (by decide)]
 refine wpAny_bind (HT.sliceApplied_gen hs pl pu ?_)
 have hyes:((((HT.sIx items.size 0 lo:Nat):Int)==0&&(1:Int)==1&&(HT.sIx items.size items.size hi - HT.sIx items.size 0 lo)==items.size)=true):=by
  rw[hw.1,hw.2];simp
 show wpAny _ _ (if (((HT.sIx items.size 0 lo:Nat):Int)==0&&(1:Int)==1&&(HT.sIx items.size items.size hi - HT.sIx items.size 0 lo)==items.size)=true then _ else _) _ _ s
 rw[if_pos hyes]
 refine wpAny_bind (m:=Builtin.Tuple.tupleIsExact _) (wpAny_bind (wpAny_typeOf ht.typeIs (wpAny_pure ?_)))
 rw[if_pos (by decide)]
 exact wpAny_bind (wpAny_rule (wpAny_pure ⟨_,rfl,wpAny_pure h⟩))
theorem xH{xs:List V}{lo hi:Option Int}(h:HT.sIx xs.length 0 lo=0/\HT.sIx xs.length xs.length hi=xs.length):rO xs lo hi=xs:=by
 unfold rO
 rw[h.1,h.2,List.drop_zero,Nat.sub_zero,List.take_length]
def Gc(K:W.Frag):V->Option Int->Option Int->Hp->VK->Prop:=fun x lo hi H Q=>∃a xs,x=.ref a/\mG K H a xs/\∀p H',ku H H'->mG K H' p (rO xs lo hi)->Q (.ref p) H'
theorem D4:CJ X (Gc X.K):=by
 intro pins s σ H x v vl vu lo hi sl Q I rx hs pl pu h
 obtain⟨a,xs,rfl,hx,q⟩:=h
 by_cases hw:HT.sIx xs.length 0 lo=0/\HT.sIx xs.length xs.length hi=xs.length
 ·cases rx
  obtain⟨its,r,ht,hz⟩:=I.tuple hx
  have hlen:its.toArray.size=xs.length:=by rw[List.size_toArray];exact r.length.symm
  refine⟨"tuple",_,PyProof.Rows.slot_tuple_getitem.lookup,ht.typeIs,?_⟩
  exact tX ht hs pl pu (by rw[hlen];exact hw) ⟨.ref a,H,I,rfl,q a H (ku.refl H) (by rw[xH hw];exact hx)⟩
 ·exact DF pins s σ H (.ref a) v vl vu lo hi sl Q I rx hs pl pu ⟨a,xs,rfl,hx,hw,fun p hp=>q p _ (aQ hp _) (mG.of ai)⟩
theorem f_{K:W.Frag}{H:Hp}{ds:LD}{xs:List V}(t:i9 K H ds xs)(lo hi:Option Int):i9 K H (cutD ds lo hi) (rO xs lo hi):=by
 unfold cutD rO
 rw[t.length,yt,yt]
 exact(t.drop _).take _
theorem fj(ha:SE X a f)(hl:SO X lo l)(hh:SO X hi h):SE X (.Subscript a (.Slice lo hi none p2) pos) (zv f l h):=(gL (D4.or CA) ha hl hh).imp fun σ H Q ⟨ρ,d,er,e,q⟩=>by
 obtain⟨x,e1,e⟩:=kx e
 obtain⟨o1,e2,e⟩:=kx e
 obtain⟨o2,e3,e⟩:=kx e
 refine⟨ρ,x,er,e1,fun v H1 s1 r1=>⟨ρ,o1,er.mono s1,e2,fun H2 s2=>⟨ρ,o2,er.mono (s1.trans s2),e3,fun H3 s3=>?_⟩⟩⟩
 cases x with
 | tup xs =>
  cases e
  obtain⟨a,vs,rfl,hq,t⟩:=(r1.mono (s2.trans s3))
  exact .inl ⟨a,vs,rfl,hq,fun p H4 s4 sq=>q _ H4 (s1.trans (s2.trans (s3.trans s4))) ⟨p,_,rfl,sq,(f_ t o1 o2).mono s4⟩⟩
 | lst xs =>
  cases e
  obtain⟨a,vs,rfl,hq,t⟩:=(r1.mono (s2.trans s3))
  refine .inr ⟨a,vs,rfl,nO.of hq,fun p hp=>?_⟩
  have s4:=aQ hp (.lst (rO vs o1 o2))
  exact q _ _ (s1.trans (s2.trans (s3.trans s4))) ⟨p,_,rfl,ai,(f_ t o1 o2).mono s4⟩
 | _=>cases e
end
set_option maxHeartbeats 2000000
def mR(names:List (Str×NameKind))(cells:List (Str×Addr))(acc:List (Str×Addr)):List (Str×Addr):=
 match names with
 | []=>acc
 | (n,k)::r=>mR r cells (if k==.free then (match cells.lookup n with | some c=>(n,c)::acc | none=>acc) else acc)
theorem pV {env:Env}:∀ (names:List (Str×NameKind)) (acc:List (Str×Addr)),(∀ p∈names,p.2=.free->∃ c,env.cells.lookup p.1=some c) ->
    (forIn names acc fun x r=>(match x with
      | (name,kind)=>if (kind==NameKind.free)=true then do
          let c <- cellOf env name
          pure (ForInStep.yield ((name,c)::r))
        else pure (ForInStep.yield r):Sem (ForInStep (List (Str×Addr)))))=(pure (mR names env.cells acc):Sem (List (Str×Addr)))
  | [],acc,_=>rfl
  | (n,k)::r,acc,h=>by
    rw[List.forIn_cons]
    cases hk:(k==NameKind.free) with
    | false =>
      have ih:=pV r acc fun p hp=>h p (List.mem_cons_of_mem _ hp)
      simp only[hk,mR,Bool.false_eq_true,if_false]
      exact ih
    | true =>
      obtain⟨c,hc⟩:=h (n,k) List.mem_cons_self (by simpa using hk)
      have ih:=pV r ((n,c)::acc) fun p hp=>h p (List.mem_cons_of_mem _ hp)
      have hcell:cellOf env n=pure c:=by unfold cellOf;rw[show env.cells.lookup n=some c from hc]
      simp only[hk,mR,if_true,hcell,show env.cells.lookup n=some c from hc]
      exact ih
theorem xg{scope:Scope}{env:Env}(h:∀p∈scope.names,p.2=.free->∃c,env.cells.lookup p.1=some c):closureFor scope env=pure (mR scope.names env.cells []):=by
 unfold closureFor
 have:=pV scope.names [] h
 simp only[bind_pure]
 exact this
theorem m8{β:Type}{y n:Str}{c:β}{l:List (Str×β)}:List.lookup y ((n,c)::l)=if y=n then some c else List.lookup y l:=by
 rw[List.lookup_cons]
 by_cases h:y=n
 ·subst h;simp
 ·have:(y==n)=false:=by simpa using h
  rw[this,if_neg h]
theorem rT{cells:List (Str×Addr)}:∀(names:List (Str×NameKind)) (acc:List (Str×Addr)),(∀y c,acc.lookup y=some c->cells.lookup y=some c)->∀y c,(mR names cells acc).lookup y=some c->cells.lookup y=some c
 | [],acc,h=>h
 | (n,k)::r,acc,h=>by
  unfold mR
  refine rT r _ ?_
  split
  ·cases hc:cells.lookup n with
   | none=>exact h
   | some c0 =>
    intro y c hy
    rw[m8] at hy
    split at hy
    ·rename_i e
     subst e
     cases hy
     exact hc
    ·exact h y c hy
  ·exact h
theorem uk{cells:List (Str×Addr)}{y:Str}:∀(names:List (Str×NameKind)) (acc:List (Str×Addr)),(acc.lookup y).isSome=true->((mR names cells acc).lookup y).isSome=true
 | [],acc,h=>h
 | (n,k)::r,acc,h=>by
  unfold mR
  refine uk r _ ?_
  split
  ·cases hc:cells.lookup n with
   | none=>exact h
   | some c0 =>
    dsimp only
    rw[m8]
    split
    ·rfl
    ·exact h
  ·exact h
theorem vZ{cells:List (Str×Addr)}{y:Str}{c:Addr}(hc:cells.lookup y=some c):∀(names:List (Str×NameKind)) (acc:List (Str×Addr)),(y,NameKind.free)∈names->((mR names cells acc).lookup y).isSome=true
 | (n,k)::r,acc,h=>by
  unfold mR
  rcases List.mem_cons.mp h with e | h
  ·cases e
   refine uk r _ ?_
   rw[if_pos (show(NameKind.free==NameKind.free)=true by decide),hc]
   dsimp only
   rw[m8,if_pos rfl]
   rfl
  ·exact vZ hc r _ h
theorem Bx{cells:List (Str×Addr)}{names:List (Str×NameKind)}{y:Str}{c:Addr}(hc:cells.lookup y=some c)(h:(y,NameKind.free)∈names):(mR names cells []).lookup y=some c:=by
 obtain⟨c',e⟩:=Option.isSome_iff_exists.mp (vZ hc names [] h)
 have:=rT names [] (fun y c h=>by cases h) y c' e
 rw[hc] at this
 cases this
 exact e
theorem tE{env:Env}{y:Str}:∀(names:List (Str×NameKind)),(names.map fun (n,k)=>if (k==NameKind.free&&env.scope.kind==.function&&env.kindOf n==some .cell) then (n,NameKind.cell) else (n,k)).lookup y =
  (names.lookup y).map fun k=>if (k==NameKind.free&&env.scope.kind==.function&&env.kindOf y==some .cell) then NameKind.cell else k
 | []=>rfl
 | (n,k)::r=>by
  have hd:∀(c:Bool),(if c=true then (n,NameKind.cell) else (n,k))=(n,if c=true then NameKind.cell else k):=fun c=>by cases c<;>rfl
  rw[List.map_cons]
  show List.lookup y ((if (k==NameKind.free&&env.scope.kind==.function&&env.kindOf n==some .cell)=true then (n,NameKind.cell) else (n,k))::_)=_
  rw[hd,m8,m8]
  by_cases e:y=n
  ·subst e
   rw[if_pos rfl,if_pos rfl]
   rfl
  ·rw[if_neg e,if_neg e]
   exact tE r
def rU(sc outer:Scope)(T N:List Str):Bool:=
 sc.kind==.function&&(sc.names.all fun p=>p.2 != .cell&&(p.2 != .local||(sc.names.lookup p.1==some .local&&(T.contains p.1||p.1==(".0" : Str))))&&(p.2 != .free||outer.names.lookup p.1==some .cell||outer.names.lookup p.1==some .free)) &&
  (T.all fun t=>sc.names.lookup t==some .local)&&!N.contains (".0" : Str)
structure u3 (sc outer:Scope) (T N:List Str):Prop where
 kind:sc.kind=.function
 nocell:∀y∈sc.names,y.2≠.cell
 names:∀y∈sc.names,y.2=.local->sc.names.lookup y.1=some .local
 loc:∀y,sc.names.lookup y=some .local->y∈T\/y=(".0" : Str)
 free:∀y∈sc.names,y.2=.free->outer.names.lookup y.1=some .cell\/outer.names.lookup y.1=some .free
 tg:∀t∈T,sc.names.lookup t=some .local
 no0:(".0" : Str)∉N
theorem uo{sc outer:Scope}{T N:List Str}(h:rU sc outer T N=true):u3 sc outer T N:=by
 unfold rU at h
 rw[Bool.and_eq_true,Bool.and_eq_true,Bool.and_eq_true] at h
 obtain⟨⟨⟨h1,h2⟩,h3⟩,h4⟩:=h
 rw[List.all_eq_true] at h2 h3
 have g:∀y∈sc.names,y.2≠.cell/\(y.2=.local->sc.names.lookup y.1=some .local/\(y.1∈T\/y.1=(".0" : Str)))/\(y.2=.free->outer.names.lookup y.1=some .cell\/outer.names.lookup y.1=some .free):=fun y hy=>by
  have q:=h2 y hy
  rw[Bool.and_eq_true,Bool.and_eq_true] at q
  obtain⟨⟨q1,q2⟩,q3⟩:=q
  refine⟨by simpa using q1,fun hl=>?_,fun hf=>?_⟩
  ·rw[hl] at q2
   simpa using q2
  ·rw[hf] at q3
   simpa using q3
 refine⟨by simpa using h1,fun y hy=>(g y hy).1,fun y hy hl=>((g y hy).2.1 hl).1,fun y hy=>?_,fun y hy hf=>(g y hy).2.2 hf,fun t ht=>by simpa using h3 t ht,by simpa using h4⟩
 exact((g (y,.local) (PySem.mem_of_lookup hy)).2.1 rfl).2
def BA(X:Cx)(H:Hp):Prop:=∀b q c,X.H₀ b=some (.tbl q c)->H b=some (.tbl q c)
def tT(X:Cx)(T:List Str)(scope:Scope)(C:Addr)(fp:List Addr)(s₃:Shared)(H₃:Hp):Cx where
 prog:=X.prog
 w:=X.w
 K:=X.K
 mg:=X.mg
 base:=X.base
 A:=X.A
 N:=T++X.N
 s₀:=s₃
 H₀:=H₃
 env:=compEnvC scope (mR scope.names X.env.cells []) C X.env
 outer:=X.stack
 stack:=X.stack
 ex:=fp
 fn:=fun _=>false
 calm:=X.calm
 pn:=[]
 xe:=fun _ _=>False
section
variable{X:Cx}{pins:List (Addr×Obj)}{σ:L2.St}{H:Hp}{s:Shared}{T:List Str}{scope:Scope}{C:Addr}{fp:List Addr}{h₁:Heap}{t:Nat}
theorem Af(I:L2.Inv X pins σ H s)(ck:u3 scope X.env.scope T X.N)(hnd:(T++X.N).Nodup)(hf:∀b∈fp,oQ X pins H b)(hfo:∀b∈fp,∃o,s.heap.get? b=some o)(hC:s.heap.objs.size<=C)
  (hk:∀b u,s.heap.get? b=some u->h₁.get? b=some u) (hns:h₁.Ns C (fun _=>none)) :
  L2.Inv (tT X T scope C fp s H) [] (List.replicate T.length none++σ) H {s with heap:=h₁,toks:=t}:=by
 have hlt:∀b∈fp,b<s.heap.objs.size:=fun b hb=>let ⟨o,e⟩:=hfo b hb;Heap.lt_size e
 have hcl:∀y c,(mR scope.names X.env.cells []).lookup y=some c->X.env.cells.lookup y=some c:=rT scope.names [] fun y c h=>by cases h
 have hfr:∀y,(y,NameKind.free)∈scope.names->(X.env.kindOf y=some .cell\/X.env.kindOf y=some .free)/\∃c,(mR scope.names X.env.cells []).lookup y=some c/\X.env.cells.lookup y=some c:=fun y hy=>by
  have k:=ck.free _ hy rfl
  obtain⟨c,hc⟩:=I.ok.has y k
  exact⟨k,c,Bx hc hy,hc⟩
 have hkind:∀y,(compEnvC scope (mR scope.names X.env.cells []) C X.env).kindOf y=(scope.names.lookup y).map fun k=>if (k==NameKind.free&&X.env.scope.kind==.function&&X.env.kindOf y==some .cell) then NameKind.cell else k:=fun y=>tE scope.names
 have hvis:∀y,((compEnvC scope (mR scope.names X.env.cells []) C X.env).kindOf y=some .cell\/(compEnvC scope (mR scope.names X.env.cells []) C X.env).kindOf y=some .free)->(y,NameKind.free)∈scope.names:=fun y hy=>by
  rw[hkind] at hy
  cases hl:scope.names.lookup y with
  | none=>rw[hl] at hy;rcases hy with z | z<;>cases z
  | some k =>
   have hm:=PySem.mem_of_lookup hl
   rw[hl] at hy
   cases k with
   | free=>exact hm
   | cell=>exact absurd rfl (ck.nocell _ hm)
   | «local»=>rcases hy with z | z<;>cases z
   | globalExplicit=>rcases hy with z | z<;>cases z
   | globalImplicit=>rcases hy with z | z<;>cases z
 refine⟨⟨I.ok.mod,ck.kind,I.ok.glob,I.ok.blt,hC,fun x y c h1 h2=>I.ok.inj x y c (hcl x c h1) (hcl y c h2),fun y hy=>?_,fun y c h=>absurd (show false=true from h) Bool.false_ne_true,I.ok.hd,I.ok.frames,.inl rfl,fun b hb=>⟨?_,fun x c h=>?_⟩,I.bs,
  Nat.le_trans I.ok.bsz I.sz,fun b o e hb=>?_,fun b hb hz=>?_,I.stack,I.stkFree⟩,rfl,I.bare,Un.kept hk,⟨_,hns,fun i x v h1 h2 h3=>?_⟩,fun y c h=>?_,I.hok.fresh hC,fun y c h=>I.freeC y c (hcl y c h),fun p hp=>absurd (show p∈([]:List (Addr×Obj)) from hp) (by simp),I.hok.kept hk,?_⟩
 ·obtain⟨_,c,h1,_⟩:=hfr y (hvis y hy)
  exact⟨c,h1⟩
 ·exact Nat.ne_of_lt (Nat.lt_of_lt_of_le (hlt b hb) hC)
 ·exact(hf b hb).2.2.2.2.1 x c (hcl x c h)
 ·rcases(hf b hb).2.2.2.1 with z | z
  ·exact I.ok.noex b o e z
  ·exact absurd (Nat.lt_of_lt_of_le (Heap.lt_size e) (Nat.le_trans I.ok.bsz z)) (Nat.lt_irrefl _)
 ·rcases List.mem_cons.mp (I.stkSub b hz) with z | z
  ·exact(hf b hb).2.1 z
  ·exact(hf b hb).2.2.1 z
 ·by_cases hi:i<T.length
  ·rw[List.getElem?_append_left (by simpa using hi),List.getElem?_replicate] at h2
   split at h2<;>cases h2
  ·rw[List.getElem?_append_right (by simpa using hi),List.length_replicate] at h2
   have h1':X.N[i - T.length]?=some x:=by
    have z:(T++X.N)[i]?=some x:=h1
    rw[List.getElem?_append_right (by omega)] at z
    exact z
   have hxN:x∈X.N:=List.mem_of_getElem? h1'
   have hxf:(x,NameKind.free)∈scope.names:=by
    rcases h3 with z | z | z
    ·have z':(compEnvC scope (mR scope.names X.env.cells []) C X.env).kindOf x=some .local:=z
     rw[hkind] at z'
     cases hl:scope.names.lookup x with
     | none=>rw[hl] at z';cases z'
     | some k =>
      rw[hl] at z'
      have hkl:k=.local:=by
       cases k with
       | «local»=>rfl
       | free=>simp at z';split at z'<;>cases z'
       | cell=>cases z'
       | globalExplicit=>cases z'
       | globalImplicit=>cases z'
      subst hkl
      rcases ck.loc x hl with q | q
      ·exact absurd rfl ((List.nodup_append.mp hnd).2.2 x q x hxN)
      ·exact absurd (q ▸ hxN) ck.no0
    ·exact hvis x (.inl z)
    ·exact hvis x (.inr z)
   obtain⟨hk2,c,hc1,hc2⟩:=hfr x hxf
   obtain⟨m,hm,hl⟩:=I.loc
   obtain⟨u,ru,lk⟩:=hl _ x v h1' h2 (hk2.elim (fun z=>.inr (.inl z)) fun z=>.inr (.inr z))
   refine⟨u,ru,.inr ⟨?_,c,hc1,?_⟩⟩
   ·rcases h3 with z | z | z
    ·exfalso
     have z':(compEnvC scope (mR scope.names X.env.cells []) C X.env).kindOf x=some .local:=z
     rw[hkind] at z'
     cases hl2:scope.names.lookup x with
     | none=>rw[hl2] at z';cases z'
     | some k =>
      rw[hl2] at z'
      have hkl:k=.local:=by
       cases k with
       | «local»=>rfl
       | free=>simp at z';split at z'<;>cases z'
       | cell=>cases z'
       | globalExplicit=>cases z'
       | globalImplicit=>cases z'
      subst hkl
      rcases ck.loc x hl2 with q | q
      ·exact absurd rfl ((List.nodup_append.mp hnd).2.2 x q x hxN)
      ·exact absurd (q ▸ hxN) ck.no0
    ·exact .inl z
    ·exact .inr z
   ·rcases lk with ⟨kl,_⟩ | ⟨_,c',hc',hcell⟩
    ·rcases hk2 with z | z
     ·rw[kl] at z;cases z
     ·rw[kl] at z;cases z
    ·rw[hc2] at hc'
     cases hc'
     obtain⟨o,ho,hd⟩:=hcell
     exact⟨o,hk _ _ ho,hd⟩
 ·obtain⟨v,o,ho,hd⟩:=I.cell y c (hcl y c h)
  exact⟨v,o,hk _ _ ho,hd⟩
 ·show(List.replicate T.length none++σ).length=(T++X.N).length
  rw[List.length_append,List.length_append,List.length_replicate,I.len]
end
theorem uU {prog:Program} {w:World} {A:Around} {R':Result->Shared->Prop} {s:Shared} {elt target iter:Expr} {ifs:List Expr} {scope:Scope} {pos:Pos} {it acc:Value} {env:Env} (I:Nat->Shared->Prop)
    (turn:∀n s,I n s->wpAny (model prog w) A (pyNext it) (fun r s₁=>match r with
      | none=>R' (.ok .next) s₁
      | some v=>wpAny (model prog w) A (letOwnedTupleGo target it v) (fun _ s₁'=>wpAny (model prog w) A (assign target env v) (fun _ s₂ =>
          wpAny (model prog w) A (forIn ifs true fun c r=>if r=true then do let ok <- isTrue c env (eval c env);pure (ForInStep.yield ok) else pure (ForInStep.yield r)) (fun ok s₃ =>
            if ok=true then wpAny (model prog w) A (eval elt env) (fun x s₄ =>
              wpAny (model prog w) A (call (.builtin "list.append") [acc,x]) (fun _ s₅=>∃m,m<n/\I m s₅) (fun _ _=>False) s₄) (fun _ _=>False) s₃
            else ∃m,m<n/\I m s₃) (fun _ _=>False) s₂) (fun _ _=>False) s₁') (fun _ _=>False) s₁) (fun _ _=>False) s)
    (n:Nat) (h:I n s):codeAny (model prog w) A (.compLoop (.ListComp elt [⟨target,iter,ifs,0⟩] scope pos) 0 it acc env) R' s:=by
  refine codeAny_loop rfl I (fun n s hI=>?_) n h
  show wpAny _ A ((compTurn (.ListComp elt [⟨target,iter,ifs,0⟩] scope pos) 0 it acc env).onRaise (fun x=>do noteFrame x env;theTreesLotGoes x)) _ _ s
  refine wpAny_noted ?_
  rw[compTurn_list]
  have ff:∀{E:Value->Shared->Prop} (a:Value) (s:Shared),False->E a s:=fun _ _ z=>z.elim
  refine wpAny_bind (wpAny_standAt (wpAny_bind (wpAny_mono (turn n s hI) (fun r s₁ h₁=>?_) ff)))
  cases r with
  | none=>exact wpAny_pure h₁
  | some v =>
    refine wpAny_bind (wpAny_mono h₁ (fun _ s₁' h₁'=>?_) ff)
    refine wpAny_bind (wpAny_mono h₁' (fun _ s₂ h₂=>wpAny_bind (wpAny_mono h₂ (fun ok s₃ h₃=>?_) ff)) ff)
    cases ok with
    | false=>exact wpAny_pure ⟨rfl,h₃⟩
    | true =>
      exact wpAny_bind (wpAny_bind (wpAny_mono h₃ (fun x s₄ h₄=>wpAny_bind (wpAny_mono h₄ (fun _ s₅ h₅=>wpAny_pure (wpAny_pure ⟨rfl,h₅⟩)) ff)) ff))
def EJ(X:Cx)(ifs:List Expr)(c:R->Option Bool):Prop:=
 ∀(pins:List (Addr×Obj)) (s:Shared) (σ:L2.St) (H:Hp) (Q:Bool->Hp->Prop),L2.Inv X pins σ H s->Fi X.K c σ H Q ->
  wpAny (model X.prog X.w) X.A (forIn ifs true fun c r=>if r=true then do let ok <- isTrue c X.env (eval c X.env);pure (ForInStep.yield ok) else pure (ForInStep.yield r)) (TP X pins σ Q) X.xe s
theorem bR{X:Cx}:EJ X [] mF:=fun pins s σ H Q I ⟨ρ,b,er,e,q⟩=>by
 cases e
 exact wpAny_tests_nil ⟨H,I,q H (ku.refl H)⟩
theorem j7{X:Cx}{e:Expr}{c:R->Option Bool}(h:ST X e c):EJ X [e] c:=fun pins s σ H Q I q=>wpAny_tests_one (h pins s σ H Q I q)
section
variable{X:Cx}{pins:List (Addr×Obj)}{σ:L2.St}{H:Hp}{s:Shared}{T:List Str}{scope:Scope}
def sR(k:Nat)(stf:D->R->Option R):Prop:=∀(d:D) (τ ρ ρ1:R),τ.length=k->stf d (τ++ρ)=some ρ1->∃ τ',τ'.length=k/\ρ1=τ'++ρ
theorem lH{k i:Nat}(h:i<k):sR k (setAt i):=fun d τ ρ ρ1 hl e=>by
 unfold setAt at e
 split at e
 ·cases e
  exact⟨τ.set i (some d),by simp[hl],List.set_append_left _ _ (by omega)⟩
 ·cases e
theorem sr{k:Nat}:∀{fs:List (D->R->Option R)},(∀f∈fs,sR k f)->∀(ds:LD) (τ ρ ρ1:R),τ.length=k->v6 fs ds (τ++ρ)=some ρ1->∃ τ',τ'.length=k/\ρ1=τ'++ρ
 | [],_,[],τ,ρ,ρ1,hl,e=>by cases e;exact⟨τ,hl,rfl⟩
 | [],_,_::_,_,_,_,_,e=>by cases e
 | _::_,_,[],_,_,_,_,e=>by cases e
 | f::fs,hf,d::ds,τ,ρ,ρ1,hl,e=>by
  obtain⟨ρ2,e1,e⟩:=kx e
  obtain⟨τ2,h2,rfl⟩:=hf f List.mem_cons_self d τ ρ ρ2 hl e1
  exact sr (fun g hg=>hf g (List.mem_cons_of_mem _ hg)) ds τ2 ρ ρ1 h2 e
theorem zt{k:Nat}{fs:List (D->R->Option R)}(hf:∀f∈fs,sR k f):sR k (nR fs):=fun d τ ρ ρ1 hl e=>by
 cases d with
 | tup ds=>exact sr hf ds τ ρ ρ1 hl e
 | _=>cases e
theorem lW.forget{K:W.Frag}{H:Hp}{τ ρ:R}{σ:L2.St}(e:lW K H (τ++ρ) σ):lW K H (List.replicate τ.length none++ρ) σ:=by
 refine⟨by have:=e.1;simpa using this,fun i d h=>?_⟩
 by_cases hi:i<τ.length
 ·rw[List.getElem?_append_left (by simpa using hi),List.getElem?_replicate] at h
  split at h<;>cases h
 ·rw[List.getElem?_append_right (by simpa using hi),List.length_replicate] at h
  exact e.2 i d (by rw[List.getElem?_append_right (by omega)];exact h)
theorem CL{a:Addr}{o:HO}(I:L2.Inv X pins σ H s)(f:oQ X pins H a)(new:lF X.prog X.w (upd H a o) s.heap a o):L2.Inv X pins σ (upd H a o) s:=by
 obtain⟨f0,f1,f2,f3,f4,f5⟩:=f
 have ne:∀{b:Addr} {u:HO},H b=some u->b≠a:=fun e z=>by rw[z,f0] at e;cases e
 refine⟨I.ok,I.os,I.bare,⟨I.base.keep,I.base.slot,fun b ob e n hx=>?_,I.base.there,fun b xs e=>?_,fun b ob u ny e=>?_,fun b ps d e=>?_⟩,I.loc,I.cell,?_,fun x c e=>?_,fun p hp=>?_,fun b u e=>?_,I.len⟩
 ·have hb:b≠a:=fun z=>by
   rcases f3 with q | q
   ·exact hx (z ▸ q)
   ·exact absurd (Nat.lt_of_lt_of_le (Heap.lt_size e) (z ▸ q)) (Nat.lt_irrefl _)
  rw[aj hb]
  exact I.base.free b ob e n hx
 ·have q:=I.base.tups b xs e
  rw[aj (ne q)]
  exact q
 ·have q:=I.base.frzs b ob u ny e
  rw[aj (ne q)]
  exact q
 ·have q:=I.base.tbls b ps d e
  rw[aj (ne q)]
  exact q
 ·rw[aj (Ne.symm f1)]
  exact I.free
 ·rw[aj (f4 x c e)]
  exact I.freeC x c e
 ·obtain⟨q1,q2,q3⟩:=I.pin p hp
  exact⟨q1,by rw[aj (f5 p hp)];exact q2,q3⟩
 ·by_cases hb:b=a
  ·subst hb
   rw[ai] at e
   cases e
   exact new
  ·rw[aj hb] at e
   refine(I.hok b u e).stay (fun _ _ _ q=>q) (fun c q=>?_) (fun c xs q=>?_) fun c _ _ q=>?_
   ·rw[aj (ne q)];exact q
   ·rw[aj (ne q)];exact q
   ·rw[aj (ne q)];exact q
theorem CP{C:Addr}{fp:List Addr}{s₃:Shared}{H₃ H':Hp}{b:Addr}{pl:List (Addr×Obj)}(hb:b∈fp\/s₃.heap.objs.size<=b)(hC:b≠C)(hfs:b∉x5 X.stack)(hcells:∀x c,(mR scope.names X.env.cells []).lookup x=some c->c≠b)(hn:H' b=none)(hp:∀p∈pl,p.1≠b) :
  oQ (tT X T scope C fp s₃ H₃) pl H' b:=⟨hn,hC,hfs,hb,hcells,fun p hp'=>hp p hp'⟩
theorem fq{elt iter tg:Expr}{ifs:List Expr}{pos:Pos}{it:Addr}{fp:List Addr}{tn:Nat->Heap->Prop}{J:It}{E:Value->Shared->Prop}{ρ:R}{ds out:LD}{stf:D->R->Option R}{cf:R->Option Bool}{ef:R->OD}
  (I:L2.Inv X pins σ H s) (hc:X.calm=true) (Tn:Turn X.prog X.w X.K tg J fp it tn) (st:tn 0 s.heap) (hf:∀b∈fp,oQ X pins H b)
  (ck:u3 scope X.env.scope T X.N) (hnd:(T++X.N).Nodup) (hst:sR T.length stf) (er:lW X.K H ρ σ) (y:oP X.K J ds H) (hz:ds.length<=sizeLine) (hout:mC stf cf ef ds (List.replicate T.length none++ρ)=some out)
  (hg:∀C s₃ H₃ fp,BA X H₃->SG (tT X T scope C fp s₃ H₃) tg stf) (hcnd:∀C s₃ H₃ fp,BA X H₃->EJ (tT X T scope C fp s₃ H₃) ifs cf) (he:∀C s₃ H₃ fp,BA X H₃->SE (tT X T scope C fp s₃ H₃) elt ef)
  {RR:Value->Addr->Result->Shared->Prop}
  (hRR:∀(a C:Addr) (H':Hp) (s':Shared) (vs:List V),ku H H'->H' a=some (.lst vs)->i9 X.K H' out vs->L2.Inv X pins σ H' s'->oQ X pins H' C->(∃m,s'.heap.Ns C m)->RR (.ref a) C (.ok .next) s') :
  wpAny (model X.prog X.w) X.A (newList []) (fun acc s₃=>wpAny (model X.prog X.w) X.A (newFunctionEnv scope X.env.globals (mR scope.names X.env.cells []) [] X.env.qual none .none (some X.env)) (fun cenv s₄ =>
   codeAny (model X.prog X.w) X.A (.compStart (.ListComp elt [⟨tg,iter,ifs,0⟩] scope pos) 0 (.ref it) acc {cenv with scope:=relabel scope X.env}) (RR acc cenv.locals) s₄) E s₃) E s:=by
 refine wpAny_newObj_type (wpAny_newFunctionEnv ck.nocell (by intro y hy;simp at hy) (fun h₁ hns₁ hsb₁=>?_) ck.kind)
 dsimp only at hns₁ hsb₁ ⊢
 generalize hH2:s.heap.push {cls:=.type "list",dict:=none,data:=.seq ([]:List Value).toArray}=H2 at hns₁ hsb₁ ⊢
 generalize ha:s.heap.objs.size=a at *
 generalize hCe:H2.objs.size=C at hns₁ hsb₁ ⊢
 have hC:C=a+1:=by rw[<- hCe,<- hH2,Heap.size_push,ha]
 have haC':a<C:=by rw[hC];exact Nat.lt_succ_self a
 have haC:a≠C:=Nat.ne_of_lt haC'
 have hle:s.heap.objs.size<=a:=Nat.le_of_eq ha
 have hCle:s.heap.objs.size<=C:=Nat.le_trans hle (Nat.le_of_lt haC')
 have hlta:∀{b:Addr} {o:Obj},s.heap.get? b=some o->b<a:=fun e=>Nat.lt_of_lt_of_le (Heap.lt_size e) hle
 have old:∀b o,s.heap.get? b=some o->h₁.get? b=some o:=fun b o e=>hsb₁.extBut b o (Nat.ne_of_lt (Nat.lt_trans (hlta e) haC')) (Heap.get?_push_of_some _ (hH2 ▸ Heap.get?_push_of_some _ e))
 have hacc:h₁.get? a=some {cls:=.type "list",data:=.seq ([]:List Value).toArray}:=hsb₁.extBut _ _ haC (Heap.get?_push_of_some _ (hH2 ▸ (ha ▸ Heap.get?_push_size _ rfl)))
 have hfo:∀b∈fp,∃o,s.heap.get? b=some o:=fun b hb=>let ⟨o,e,_⟩:=Tn.obj 0 _ st b hb;⟨o,e⟩
 have hlt:∀b∈fp,b<a:=fun b hb=>let ⟨o,e⟩:=hfo b hb;hlta e
 have hns:h₁.Ns C (fun _=>none):=hns₁
 have I0:L2.Inv (tT X T scope C fp s H) [] (List.replicate T.length none++σ) H {s with heap:=h₁,toks:=s.toks+([]:List (Str×Value)).length}:=Af I ck hnd hf hfo hCle old hns
 have hcl:∀y c,(mR scope.names X.env.cells []).lookup y=some c->X.env.cells.lookup y=some c:=rT scope.names [] fun y c h=>by cases h
 have hfs:∀b,a<=b->b∉x5 X.stack:=fun b hb hz=>by
  rcases List.mem_cons.mp (I.stkSub b hz) with z | z
  ·exact absurd (Nat.lt_of_lt_of_le I.lt (Nat.le_trans hle (z ▸ hb))) (Nat.lt_irrefl _)
  ·exact I.nofs (Nat.le_trans hle hb) z
 have hcells:∀b,a<=b->∀x c,(mR scope.names X.env.cells []).lookup x=some c->c≠b:=fun b hb x c h z=>by
  obtain⟨v,q⟩:=I.cell x c (hcl x c h)
  exact absurd (Nat.lt_of_lt_of_le q.lt (Nat.le_trans hle (z ▸ hb))) (Nat.lt_irrefl _)
 have hfpok:∀{H':Hp} {pl:List (Addr×Obj)},(∀b∈fp,H' b=none)->(∀p∈pl,p.1∉fp)->∀b∈fp,oQ (tT X T scope C fp s H) pl H' b:=fun {H' pl} hn hp b hb =>
  CP (.inl hb) (Nat.ne_of_lt (Nat.lt_trans (hlt b hb) haC')) (I0.ok.exfs b hb) (fun x c h=>(I0.ok.exf b hb).2 x c h) (hn b hb) fun p hp' z=>hp p hp' (z ▸ hb)
 have hAok:∀{H':Hp},H' a=none->∀b ∈ [a],oQ (tT X T scope C fp s H) [] H' b:=fun {H'} hn b hb=>by
  cases List.mem_singleton.mp hb
  exact CP (.inr hle) haC (hfs a (Nat.le_refl _)) (hcells a (Nat.le_refl _)) hn fun p hp=>absurd hp (by simp)
 have hAfp:a∉fp:=fun z=>Nat.lt_irrefl _ (hlt a z)
 have loop:codeAny (model X.prog X.w) X.A (.compLoop (.ListComp elt [⟨tg,iter,ifs,0⟩] scope pos) 0 (.ref it) (.ref a) (compEnvC scope (mR scope.names X.env.cells []) C X.env))
   (RR (.ref a) C) {s with heap:=h₁,toks:=s.toks+([]:List (Str×Value)).length}:=by
  refine uU (fun n s'=>∃i σ' H' vs its k done rest,n=ds.length - i/\i<=ds.length/\L2.Inv (tT X T scope C fp s H) [] σ' H' s'/\tn i s'.heap/\(∀b∈fp,H' b=none)/\H' a=none/\ku H H' /\
   s'.heap.get? a=some {cls:=.type "list",data:=.seq (its:List Value).toArray k}/\kM vs its/\i9 X.K H' done vs/\vs.length<=i/\lW X.K H' (List.replicate T.length none++ρ) σ' /\
   mC stf cf ef (ds.drop i) (List.replicate T.length none++ρ)=some rest/\out=done++rest) ?_ ds.length
   ⟨0,_,H,[],[],0,[],out,by omega,Nat.zero_le _,I0,Tn.keep _ _ _ st (fun b hb o e=>old b o e),fun b hb=>(hf b hb).1,I.hok.fresh hle,ku.refl H,hacc,.nil,rfl,Nat.zero_le _,er.front T.length (List.replicate T.length none) (by simp),by simpa using hout,rfl⟩
  rintro n s' ⟨i,σ',H',vs,its,k,done,rest,rfl,hi,I',st',hn',hna,sm,ho,hv,hrd,hvl,er',hrest,hsum⟩
  have Ip:=I'.pinned (fp:=[a]) (hAok hna) fun b hb=>by
   cases List.mem_singleton.mp hb
   exact⟨_,ho,fun v z=>by cases z⟩
  generalize hP:([]:List (Addr×Obj))++pW [a] s'.heap=P at Ip
  have hPm:(a,({cls:=.type "list",data:=.seq its.toArray k}:Obj))∈P:=by rw[<- hP];exact List.mem_append_right _ (bH (by simp) ho)
  have hPa:∀p∈P,p.1∉fp:=fun p hp z=>by
   rw[<- hP] at hp
   obtain⟨q,_⟩:=uH hp
   rw[List.mem_singleton.mp q] at z
   exact hAfp z
  by_cases hlt':i<ds.length
  ·have hd:ds[i]?=some ds[i]:=by simp[hlt']
   obtain⟨hgo,hy⟩:=y.1 i ds[i] H' (Kp.of sm) hd
   rw[List.drop_eq_getElem_cons hlt'] at hrest
   obtain⟨ρ1,e1,hrest⟩:=kx hrest
   obtain⟨b,e2,hrest⟩:=kx hrest
   obtain⟨o,e3,hrest⟩:=kx hrest
   obtain⟨rest',e4,e5⟩:=lK hrest
   obtain⟨τ,hτ,hρ1⟩:=hst ds[i] (List.replicate T.length none) ρ ρ1 (by simp) e1
   refine lA (Tn.item (tT X T scope C fp s H) rfl rfl rfl hc i P s' σ' H' (fun _ _=>False) Ip (hfpok hn' hPa) st' hgo) fun r s1 ⟨u,hr,h4⟩=>?_
   subst hr
   refine lA h4 fun _ s2 ⟨x,H2',I2,r2,y2,st2,fr2⟩=>?_
   obtain⟨s12,rx⟩:=hy x H2' y2
   have I3:=I2.pinned (fp:=fp) (hfpok fr2 hPa) (Tn.obj _ _ st2)
   refine lA (hg C s H fp I.base.tbls _ s2 σ' H2' x u (fun σ3 H3=>ku H2' H3/\lW X.K H3 ρ1 σ3) I3 r2 ⟨_,_,ds[i],ρ1,(er'.mono s12).t,rx,e1,fun σ3 H3 s3 er3=>⟨s3,er3.1⟩⟩) fun _ s3 ⟨σ3,H3,I4,s23,er3⟩=>?_
   refine lA (hcnd C s H fp I.base.tbls _ s3 σ3 H3 (fun b' H4=>b'=b/\ku H3 H4) I4 ⟨ρ1,b,er3,e2,fun H4 s4=>⟨rfl,s4⟩⟩) fun b' s4 ⟨H4,I5,hb',s34⟩=>?_
   subst hb'
   have fin:∀{H5:Hp} {s5:Shared},L2.Inv (tT X T scope C fp s H) (P++pW fp s2.heap) σ3 H5 s5->(∀b∈fp,H5 b=none)/\H5 a=none/\s5.heap.get? a=some {cls:=.type "list",data:=.seq its.toArray k}/\(∀b∈fp,∀o,s2.heap.get? b=some o->s5.heap.get? b=some o):=fun {H5 s5} I6=>by
    refine⟨fun b hb=>?_,(I6.pin _ (List.mem_append_right _ (List.mem_append_left _ hPm))).2.1,(I6.pin _ (List.mem_append_right _ (List.mem_append_left _ hPm))).1,fun b hb o e=>(I6.pin (b,o) (List.mem_append_right _ (List.mem_append_right _ (bH hb e)))).1⟩
    obtain⟨o,e,_⟩:=Tn.obj _ _ st2 b hb
    exact(I6.pin (b,o) (List.mem_append_right _ (List.mem_append_right _ (bH hb e)))).2.1
   have unpin:∀{H5:Hp} {s5:Shared},L2.Inv (tT X T scope C fp s H) (P++pW fp s2.heap) σ3 H5 s5->L2.Inv (tT X T scope C fp s H) [] σ3 H5 s5:=fun I6=>I6.pins_of fun p hp=>absurd hp (by simp)
   have erb:∀{H5:Hp},ku H3 H5->lW X.K H5 (List.replicate T.length none++ρ) σ3:=fun s5=>by
    have z:=er3.mono s5
    rw[hρ1] at z
    have z2:=z.forget
    rw[hτ] at z2
    exact z2
   cases b' with
   | false =>
    cases e3
    rw[if_neg Bool.false_ne_true]
    obtain⟨q1,q2,q3,q4⟩:=fin I5
    have sm4:ku H H4:=sm.trans (s12.trans (s23.trans s34))
    have smr:ku H' H4:=s12.trans (s23.trans s34)
    exact⟨ds.length - (i+1),by omega,i+1,σ3,H4,vs,its,k,done,rest',rfl,hlt',unpin I5,Tn.keep _ _ _ st2 q4,q1,q2,sm4,q3,hv,hrd.mono smr,Nat.le_succ_of_le hvl,erb s34,e4,by rw[hsum,<- e5]⟩
   | true =>
    rw[if_pos rfl] at e3 ⊢
    obtain⟨yv,e6,e7⟩:=lK e3
    subst e7
    refine lA (he C s H fp I.base.tbls _ s4 σ3 H4 (fun v H5=>ku H4 H5/\Rep X.K H5 yv v) I5 ⟨ρ1,yv,er3.mono s34,e6,fun v H5 s5 r5=>⟨s5,r5⟩⟩) fun xv s5 ⟨v,H5,I6,rv,s45,ry⟩=>?_
    obtain⟨q1,q2,q3,q4⟩:=fin I6
    have hl:=hv.length
    refine call_meets F.slot_list_append ⟨_,q3,rfl⟩ F.entry_list_append (F.args_list_append_2 _ _) (PySem.list_append a its.toArray k xv (by rw[List.size_toArray];omega)) ⟨q3,?_⟩
    have q:=PySem.IsL.update q3 (fun xs=>xs.push xv)
    have sm5:ku H H5:=sm.trans (s12.trans (s23.trans (s34.trans s45)))
    have smr:ku H' H5:=s12.trans (s23.trans (s34.trans s45))
    have I7:L2.Inv (tT X T scope C fp s H) [] σ3 H5 {s5 with heap:=s5.heap.update a (Obj.mapSeq fun xs=>xs.push xv),toks:=s5.toks}:=
     (unpin I6).turned (it:=a) (t':=s5.toks) (fun b ob hb hu=>(Heap.get?_update_other s5.heap _ (Ne.symm hb)).trans hu) q2 haC (.inr hle) (hcells a (Nat.le_refl _)) fun p hp=>absurd (show p∈([]:List (Addr×Obj)) from hp) (by simp)
    refine⟨ds.length - (i+1),by omega,i+1,σ3,H5,vs++[v],its++[xv],(if (its.toArray.push xv).size==its.toArray.size then k else k+1),done++[yv],rest',rfl,hlt',I7,Tn.keep _ _ _ st2 fun b hb ob e=>?_,q1,q2,sm5,?_,hv.append (.cons rv .nil),(hrd.mono smr).append (i9.one ry),by simp;omega,erb (s34.trans s45),e4,by rw[hsum,<- e5];simp⟩
    ·have hne:b≠a:=fun z=>hAfp (z ▸ hb)
     exact(Heap.get?_update_other s5.heap _ (Ne.symm hne)).trans (q4 b hb ob e)
    ·have z:its.toArray.push xv=(its++[xv]).toArray:=by simp
     rw[<- z]
     exact q
  ·have ei:i=ds.length:=by omega
   subst ei
   rw[List.drop_length] at hrest
   cases hrest
   rw[List.append_nil] at hsum
   subst hsum
   refine lA (Tn.done (tT X T scope C fp s H) rfl rfl rfl hc ds.length P s' σ' H' (fun _ _=>False) Ip (hfpok hn' hPa) st' (y.2 _ H' (Kp.of sm) (Nat.le_refl _))) fun r s1 ⟨hr,I1⟩=>?_
   subst hr
   have ho1:=(I1.pin _ (List.mem_append_right _ hPm)).1
   have IX:L2.Inv X pins σ H' s1:=I.call' (ch:=fp) I1.os I1.base I1.hok I1.bare fun b hb=>⟨(hf b hb).2.2.2.1,(hf b hb).2.1,(hf b hb).2.2.2.2.1,(hf b hb).2.2.2.2.2⟩
   have fA:oQ X pins H' a:=I.fpOk hle hna
   have s2:=aQ hna (.lst vs)
   refine hRR a C (upd H' a (.lst vs)) s1 vs (sm.trans s2) ai (hrd.mono s2) (CL IX fA ⟨Nat.le_trans hvl hz,its,k,hv,ho1⟩) (I.fpOk hCle ?_) (let ⟨m,q,_⟩:=I1.loc;⟨m,q⟩)
   rw[aj (Ne.symm haC)]
   exact I1.free
 exact codeAny_compStart_list loop (Tn.self _ _ _ _ _ (Tn.keep _ _ _ st fun b hb o e=>old b o e) loop)
variable{elt iter tg:Expr}{ifs:List Expr}{pos p2:Pos}{itf:R->Option LD}{stf:D->R->Option R}{cf:R->Option Bool}{ef:R->OD}
theorem dQ(I:L2.Inv X pins σ H s)(ck:u3 scope X.env.scope T X.N):closureFor scope X.env=pure (mR scope.names X.env.cells []):=xg fun p hp hf=>I.ok.has p.1 (ck.free p hp hf)
theorem cu(hc:X.calm=true)(hi:SI X tg iter itf)(hg:∀C s₃ H₃ fp,BA X H₃->SG (tT X T scope C fp s₃ H₃) tg stf)(hcnd:∀C s₃ H₃ fp,BA X H₃->EJ (tT X T scope C fp s₃ H₃) ifs cf)(he:∀C s₃ H₃ fp,BA X H₃->SE (tT X T scope C fp s₃ H₃) elt ef)
  (hst:sR T.length stf) (hnd:(T++X.N).Nodup) (ck:rU scope X.env.scope T X.N=true:=by rfl) (hs:∀x,foldedSetIterable iter X.env x=pure x:=by intro _;rfl) :
  SE X (.ListComp elt [⟨tg,iter,ifs,0⟩] scope pos) (qP T.length itf stf cf ef):=by
 intro pins s σ H Q I hw
 obtain⟨ρ,d,er,e,q⟩:=hw
 obtain⟨ds,e1,e⟩:=kx e
 have ck':=uo ck
 split at e
 ·rename_i hz
  obtain⟨out,e2,e3⟩:=lK e
  subst e3
  rw[eval_ListComp]
  refine wpAny_comprehension_free (use:=none) rfl hs (dQ I ck') ck'.kind ck'.names ?_
  refine lA (hi pins s σ H (fun J H'=>ku H H'/\oP X.K J ds H') I ⟨ρ,ds,er,e1,fun J H' s1 y=>⟨s1,y⟩⟩) fun v s1 h1=>lA h1 fun itv s2 h2=>?_
  obtain⟨it,fp,tn,J,H',ei,I2,Tn,st,hf,s12,y⟩:=h2
  subst ei
  refine fq (RR:=fun acc C=>compPost (model X.prog X.w) X.A X.xe none (EP X pins σ Q) acc C) I2 hc Tn st hf ck' hnd hst (er.mono s12) y hz e2 hg hcnd he ?_
  intro a C H3 s' vs sm ha hr I3 fC hns
  obtain⟨m,hm⟩:=hns
  refine⟨m,hm,fun h' hsb=>⟨.ref a,H3,?_,rfl,q _ H3 (s12.trans sm) ⟨a,vs,rfl,ha,hr⟩⟩⟩
  obtain⟨f0,f1,f2,f3,f4,f5⟩:=fC
  exact I3.turned (it:=C) (t':=s'.toks) (fun b o hb eb=>(hsb.2 b hb).trans eb) f0 f1 f3 f4 f5
 ·cases e
theorem i_{i:Nat}{x:Str}{py:Pos}{spos:Pos}(hc:X.calm=true)(hN:X.N.Nodup)(hi:SI X tg iter itf)(hg:∀C s₃ H₃ fp,BA X H₃->SG (tT X T scope C fp s₃ H₃) tg stf)(hcnd:∀C s₃ H₃ fp,BA X H₃->EJ (tT X T scope C fp s₃ H₃) ifs cf)(he:∀C s₃ H₃ fp,BA X H₃->SE (tT X T scope C fp s₃ H₃) elt ef)
  (hst:sR T.length stf) (hnd:(T++X.N).Nodup) (hix:X.N[i]?=some x:=by rfl) (hx:Loc X.env.scope x:=by first | exact Or.inl rfl | exact Or.inr rfl) (hfn:X.fn x=true\/X.env.scope.names.lookup x=some .local:=by first | exact .inl rfl | exact .inr rfl)
  (ck:rU scope X.env.scope T X.N=true:=by rfl) (hsw:swapsWith (.ListComp elt [⟨tg,iter,ifs,0⟩] scope pos) (some (.Name x py)) spos.line X.env=pure true:=by rfl) (hs:∀x,foldedSetIterable iter X.env x=pure x:=by intro _;rfl) :
  S1 X (.Assign [.Name x py] (.ListComp elt [⟨tg,iter,ifs,0⟩] scope pos) spos) (kO (qP T.length itf stf cf ef) (setAt i)):=by
 intro pins s σ H E I hw
 obtain⟨ρ,τ,o,er,e,q⟩:=hw
 obtain⟨d,e0,e⟩:=kx e
 obtain⟨ρ',e9,e⟩:=lK e
 subst e
 unfold setAt at e9
 split at e9
 case isFalse=>cases e9
 case isTrue hlt =>
 cases e9
 obtain⟨ds,e1,e⟩:=kx e0
 have ck':=uo ck
 split at e
 ·rename_i hz
  obtain⟨out,e2,e3⟩:=lK e
  subst e3
  rw[exec_Assign_Name_used _ _ _ _ hsw]
  refine wpAny_bind (wpAny_standAt (wpAny_bind ?_))
  show wpAny _ X.A (do let _ <- comprehension (.ListComp elt [⟨tg,iter,ifs,0⟩] scope pos) scope X.env _ (newList []) false (eval iter X.env) (some (assign (.Name x py) X.env))) _ _ s
  refine wpAny_bind (wpAny_mono (wpAny_comprehension_free (use:=some (assign (.Name x py) X.env)) (Q:=fun _ s'=>SP X pins E .next s') rfl hs (dQ I ck') ck'.kind ck'.names ?_) (fun _ s' hq=>wpAny_pure (wpAny_pure hq)) fun _ _ z=>z)
  refine lA (hi pins s σ H (fun J H'=>ku H H'/\oP X.K J ds H') I ⟨ρ,ds,er.1,e1,fun J H' s1 y=>⟨s1,y⟩⟩) fun v s1 h1=>lA h1 fun itv s2 h2=>?_
  obtain⟨it,fp,tn,J,H',ei,I2,Tn,st,hf,s12,y⟩:=h2
  subst ei
  refine fq (RR:=fun acc C=>compPost (model X.prog X.w) X.A X.xe (some (assign (.Name x py) X.env)) (fun _ s'=>SP X pins E .next s') acc C) I2 hc Tn st hf ck' hnd hst (er.1.mono s12) y hz e2 hg hcnd he ?_
  intro a C H3 s' vs sm ha hr I3 fC hns
  obtain⟨m,hm⟩:=hns
  obtain⟨f0,f1,f2,f3,f4,f5⟩:=fC
  show wpAny _ X.A (assign (.Name x py) X.env (.ref a)) _ _ _
  refine wpAny_assign_Name (uj (v:=.ref a) I3 hN hix hx rfl (fun s'' I4 ⟨b,hsb,hb⟩=>?_) hfn)
  have hCb:C≠b:=by
   rcases hb with z | z
   ·exact z ▸ f1
   ·exact Ne.symm (f4 x b z)
  refine⟨m,hm.sameBut hsb hCb,fun h' hsb2=>⟨σ.set i (some (.ref a)),H3,I4.turned (it:=C) (t':=s''.toks) (fun b o hb eb=>(hsb2.2 b hb).trans eb) f0 f1 f3 f4 f5,q H3 (s12.trans sm) _ ?_⟩⟩
  exact(er.mono (s12.trans sm)).set hlt ⟨a,vs,rfl,ha,hr⟩
 ·cases e
end
end HW
namespace HW
open PySem
mutual
def toPy:D->PyData
 | .non=>.none
 | .bl b=>.bool b
 | .int i=>.int i
 | .str x=>.str x
 | .tup xs=>.tuple (mB xs)
 | .lst xs=>.list (mB xs)
 | .fro xs=>.list (mB xs)
 | .obj ..=>.dict []
 | .dct ..=>.dict []
 | .dcp ..=>.dict []
 | .cl ..=>.dict []
def mB:LD->List PyData
 | []=>[]
 | d::ds=>toPy d::mB ds
end
end HW
set_option maxHeartbeats 1000000
namespace HW
open PySem PySem.Spec PyProof.Rows L2
section
variable{X:Cx}
mutual
theorem qA{pins:List (Addr×Obj)}{σ:L2.St}{H:Hp}{s:Shared}(I:L2.Inv X pins σ H s):∀{d:D} {v:V} {u:Value},mV d=true->Rep X.K H d v->RelV v u->∃as,Reads s.heap u (toPy d) as
 | .non,v,u,hn,h,r=>by
  cases (show v=_ from h)
  cases (show u=_ from r)
  exact⟨_,.none⟩
 | .bl b,v,u,hn,h,r=>by
  cases (show v=_ from h)
  cases (show u=_ from r)
  exact⟨_,.bool b⟩
 | .int i,v,u,hn,h,r=>by
  cases (show v=_ from h)
  obtain⟨t,rfl⟩:=r
  exact⟨_,.int i t⟩
 | .str x,v,u,hn,h,r=>by
  cases (show v=_ from h)
  obtain⟨t,rfl⟩:=r
  exact⟨_,.str x t⟩
 | .tup ds,v,u,hn,h,r=>by
  obtain⟨a,xs,rfl,q,t⟩:=h
  cases (show u=_ from r)
  obtain⟨its,rv,⟨o,e,c,n,dd⟩,_⟩:=I.tuple q
  obtain⟨as,ra⟩:=nX I hn t rv
  exact⟨_,.tuple e c dd (by simpa using ra)⟩
 | .lst ds,v,u,hn,h,r=>by
  obtain⟨a,xs,rfl,q,t⟩:=h
  cases (show u=_ from r)
  obtain⟨its,rv,⟨o,n,e,c,_,dd⟩,_⟩:=I.list (nO.of q)
  obtain⟨as,ra⟩:=nX I hn t rv
  exact⟨_,.list e c dd (by simpa using ra)⟩
 | .fro ds,v,u,hn,h,r=>by
  obtain⟨a,xs,rfl,q,t⟩:=h
  cases (show u=_ from r)
  obtain⟨its,rv,⟨o,n,e,c,_,dd⟩,_⟩:=I.list q
  obtain⟨as,ra⟩:=nX I hn t rv
  exact⟨_,.list e c dd (by simpa using ra)⟩
 | .obj ..,v,u,hn,h,r=>by cases hn
 | .dct ..,v,u,hn,h,r=>by cases hn
 | .dcp ..,v,u,hn,h,r=>by cases hn
 | .cl ..,v,u,hn,h,r=>by cases hn
theorem nX{pins:List (Addr×Obj)}{σ:L2.St}{H:Hp}{s:Shared}(I:L2.Inv X pins σ H s):∀{ds:LD} {vs:List V} {us:List Value},lE ds=true->i9 X.K H ds vs->kM vs us->∃as,ReadsAll s.heap us (mB ds) as
 | [],vs,us,hn,h,r=>by
  cases (show vs=[] from h)
  cases r
  exact⟨_,.nil⟩
 | d::ds,vs,us,hn,h,r=>by
  have hn':(mV d&&lE ds)=true:=hn
  rw[Bool.and_eq_true] at hn'
  obtain⟨v,vr,rfl,h1,h2⟩:=h
  cases r with
  | cons r1 r2 =>
   obtain⟨as,q1⟩:=qA I hn'.1 h1 r1
   obtain⟨bs,q2⟩:=nX I hn'.2 h2 r2
   exact⟨_,.cons q1 q2⟩
end
end
def mj(a:Addr)(xs:List V):HO:=.ext fun h=>xs.length<=sizeLine/\∃(its:List Value) (n:Nat),kM xs its/\h.get? a=some {cls:=.type "list",data:=.seq its.toArray n}
section
variable{X:Cx}{pins:List (Addr×Obj)}{σ:L2.St}{H:Hp}{s:Shared}{a:Addr}{xs:List V}
theorem dX(I:L2.Inv X pins σ H s)(h:H a=some (mj a xs)):xs.length<=sizeLine/\∃(its:List Value) (n:Nat),kM xs its/\s.heap.get? a=some {cls:=.type "list",data:=.seq its.toArray n}:=(I.hok a _ h).1
theorem qR(I:L2.Inv X pins σ H s)(h:H a=some (.lst xs)):L2.Inv X pins σ (upd H a (mj a xs)) s:=by
 obtain⟨z,its,n,r,e⟩:=I.hok a _ h
 have:=I.write (t':=s.toks) (h':=s.heap) (o:=mj a xs) (x:=a) (e:=a) (by rw[h];trivial) (.inl rfl) (fun _ _ _ q=>q) ⟨_,e⟩ ⟨⟨z,its,n,r,e⟩,⟨_,e⟩,fun h1 h2 ⟨z,its,n,r,e⟩ k=>⟨z,its,n,r,k _ e⟩⟩
 exact this
theorem sv(I:L2.Inv X pins σ H s)(h:H a=some (mj a xs)):L2.Inv X pins σ (upd H a (.lst xs)) s:=by
 obtain⟨z,its,n,r,e⟩:=dX I h
 have:=I.write (t':=s.toks) (h':=s.heap) (o:=.lst xs) (x:=a) (e:=a) (by rw[h];trivial) (.inl rfl) (fun _ _ _ q=>q) ⟨_,e⟩ ⟨z,its,n,r,e⟩
 exact this
def lY(a:Addr)(H H':Hp):Prop:=∀b u,b≠a->H b=some u->H' b=some u
theorem lY.of{H H':Hp}(h:ku H H'):lY a H H':=fun b u _ e=>h b u e
theorem lY.trans{H H1 H2:Hp}(h:lY a H H1)(h':lY a H1 H2):lY a H H2:=fun b u n e=>h' b u n (h b u n e)
theorem lY.upd{o:HO}:lY a H (upd H a o):=fun b u n e=>by rw[aj n];exact e
theorem lY.kp{H H':Hp}(h:lY a H H')(ho:H a=some (mj a xs)):Kp H H':=fun b u e n=>by
 by_cases hb:b=a
 ·subst hb
  rw[ho] at e
  cases e
  exact absurd rfl (n _)
 ·exact h b u hb e
end
section
variable(K:W.Frag)
def G6(u:R->LD->Option (Out×LD)):TS:=fun E σ H=>∃ ρ τ a ds xs o ds',lQ K H ρ (some (.ref a)::τ) σ/\H a=some (mj a xs)/\i9 K H ds xs/\u ρ ds=some (o,ds') /\
 ∀H' xs',lY a H H'->H' a=some (mj a xs')->i9 K H' ds' xs'->fin K E (some (.ref a)::τ) o H'
def Hj(u:R->LD->Option Out):TS:=fun E σ H=>∃ ρ τ a ds xs o,lQ K H ρ (some (.ref a)::τ) σ/\H a=some (mj a xs)/\i9 K H ds xs/\u ρ ds=some o/\∀H',lY a H H'->fin K E τ o H'
end
def OS(X:Cx)(st:Stmt)(u:R->LD->Option (Out×LD)):Prop:=PS X st (G6 X.K u)
def DK(X:Cx)(sts:List Stmt)(u:R->LD->Option (Out×LD)):Prop:=PSs X sts (G6 X.K u)
def OB(X:Cx)(sts:List Stmt)(u:R->LD->Option Out):Prop:=PSs X sts (Hj X.K u)
section
variable{X:Cx}{st:Stmt}{sts:List Stmt}{u:R->Option Out}{p q:R->LD->Option (Out×LD)}{pos:Pos}
theorem jp:DK X [] Ac:=vf.imp fun E σ H ⟨ρ,τ,a,ds,xs,o,ds',er,ho,rp,e,q⟩=>by
 cases e
 exact q H xs (lY.of (ku.refl H)) ho rp σ er
theorem gN(h1:OS X st p)(h2:DK X sts q):DK X (st::sts) (Cc p q):=(ba h1 h2).imp fun E σ H ⟨ρ,τ,a,ds,xs,o,ds',er,ho,rp,e,qq⟩=>by
 obtain⟨⟨o1,ds1⟩,e1,e⟩:=kx e
 refine⟨ρ,τ,a,ds,xs,o1,ds1,er,ho,rp,e1,fun H1 xs1 k1 ho1 rp1=>?_⟩
 cases o1 with
 | nx ρ2=>exact fun σ2 er2=>⟨ρ2,τ,a,ds1,xs1,o,ds',er2,ho1,rp1,e,fun H2 xs2 k2 ho2 rp2=>qq H2 xs2 (k1.trans k2) ho2 rp2⟩
 | rt d=>cases e;exact qq H1 xs1 k1 ho1 rp1
 | bk ρ2=>cases e;exact qq H1 xs1 k1 ho1 rp1
 | ct ρ2=>cases e;exact qq H1 xs1 k1 ho1 rp1
theorem fP(h:OS X st p):DK X [st] p:=cg h
theorem kc{c:Expr}{s:R->Option Bool}{B1 B2:List Stmt}(hc:ST X c s)(ha:DK X B1 p)(hb:DK X B2 q):OS X (.If c B1 B2 pos) (EF s p q):=(gG hc ha hb).imp fun E σ H ⟨ρ,τ,a,ds,xs,o,ds',er,ho,rp,e,qq⟩=>by
 obtain⟨x,e1,e⟩:=kx e
 refine⟨ρ,x,er.1,e1,fun H1 s1=>?_⟩
 cases x with
 | true=>rw[if_pos rfl] at e ⊢;exact⟨ρ,τ,a,ds,xs,o,ds',er.mono s1,s1 _ _ ho,rp.mono s1,e,fun H2 xs2 k2=>qq H2 xs2 ((lY.of s1).trans k2)⟩
 | false=>rw[if_neg Bool.false_ne_true] at e ⊢;exact⟨ρ,τ,a,ds,xs,o,ds',er.mono s1,s1 _ _ ho,rp.mono s1,e,fun H2 xs2 k2=>qq H2 xs2 ((lY.of s1).trans k2)⟩
theorem jM{tg iter:Expr}{B:List Stmt}{it:R->Option LD}{stf:D->R->Option R}(hp:PassesOwn (model X.prog X.w) X.A X.env X.xe)(hc:X.calm=true)(hi:SI X tg iter it)(hg:SG X tg stf)(hb:DK X B p)
  (hs:∀x,foldedSetIterable iter X.env x=pure x:=by intro _;rfl):OS X (.For tg iter B [] pos) (yc it stf p):=(fz hp hc hi hg hb hs).imp fun E σ H ⟨ρ,τ,a,ls,xs,o,ls',er,ho,rp,e,q⟩=>by
 obtain⟨ds,e1,e⟩:=kx e
 refine⟨ρ,ds,er.1,e1,fun J H1 s1 y=>?_⟩
 refine⟨fun i m σ' H'=>m=ds.length - i/\i<=ds.length/\lY a H1 H'/\∃ ρ' l xs',lQ X.K H' ρ' (some (.ref a)::τ) σ'/\H' a=some (mj a xs')/\i9 X.K H' l xs'/\xJ stf p (ds.drop i) ρ' l=some (o,ls'),
  ⟨ds.length,by simp,Nat.zero_le _,lY.of (ku.refl _),ρ,ls,xs,er.mono s1,s1 _ _ ho,rp.mono s1,by simpa using e⟩,?_⟩
 rintro i m σ' H' ⟨rfl,hi,s2,ρ',l,xs',er',ho',rp',e'⟩
 have kp:Kp H1 H':=s2.kp (s1 _ _ ho)
 by_cases hlt:i<ds.length
 ·refine .inr ?_
  have hd:ds[i]?=some ds[i]:=by simp[hlt]
  obtain⟨hgo,hy⟩:=y.1 i ds[i] H' kp hd
  rw[List.drop_eq_getElem_cons hlt] at e'
  obtain⟨ρ1,e2,e'⟩:=kx e'
  obtain⟨⟨o1,l1⟩,e3,e'⟩:=kx e'
  refine⟨hgo,fun σ2 H2=>i+1<=ds.length/\lY a H1 H2/\∃ ρ' l xs',lQ X.K H2 ρ' (some (.ref a)::τ) σ2/\H2 a=some (mj a xs')/\i9 X.K H2 l xs'/\xJ stf p (ds.drop (i+1)) ρ' l=some (o,ls'),
   fun σ2 H2 n2=>⟨ds.length - (i+1),by omega,rfl,n2.1,n2.2⟩,fun x H3 yx=>?_⟩
  obtain⟨s3,rx⟩:=hy x H3 yx
  refine⟨ρ',_,ds[i],ρ1,er'.mono s3,rx,e2,fun σ4 H4 s4 er4=>⟨ρ1,τ,a,l,xs',o1,l1,er4,s4 _ _ (s3 _ _ ho'),(rp'.mono s3).mono s4,e3,fun H5 xs5 k5 ho5 rp5=>?_⟩⟩
  have s15:lY a H1 H5:=s2.trans ((lY.of s3).trans ((lY.of s4).trans k5))
  cases o1 with
  | nx ρ2=>exact fun σ6 er6=>⟨hlt,s15,ρ2,l1,xs5,er6,ho5,rp5,e'⟩
  | ct ρ2=>exact fun σ6 er6=>⟨hlt,s15,ρ2,l1,xs5,er6,ho5,rp5,e'⟩
  | bk ρ2=>cases e';exact fun σ6 er6=>q H5 xs5 ((lY.of s1).trans s15) ho5 rp5 σ6 er6
  | rt d=>cases e';exact q H5 xs5 ((lY.of s1).trans s15) ho5 rp5
 ·have e4:i=ds.length:=by omega
  subst e4
  rw[List.drop_length] at e'
  cases e'
  exact .inl ⟨y.2 _ H' kp (Nat.le_refl _),q H' xs' ((lY.of s1).trans s2) ho' rp' σ' er'⟩
theorem eG{K:W.Frag}{H:Hp}{ρ:R}{v:V}{τ σ:L2.St}(er:lQ K H ρ (some v::τ) σ):σ[ρ.length]?=some (some v):=by
 have:=er.2
 have h0:(σ.drop ρ.length)[0]?=some (some v):=by rw[this];rfl
 rw[List.getElem?_drop] at h0
 simpa using h0
theorem iy{x name:Str}{e:Expr}{px ap cp:Pos}{f:R->OD}{id:String}{r:V->List V->Hp->VK->Prop}{g:LD->D->Option LD}{u:R->LD->Option (Out×LD)}(i:Nat)(slot:Slot "list" name id)(hty:typeOf (.builtin id)=pure (.type "method_descriptor"))(hm:GE X id r)
  (hu:∀ ρ ds o ds',u ρ ds=some (o,ds')->ρ.length=i/\o=.nx ρ/\∃d,f ρ=some d/\g ds d=some ds')
  (hr:∀(H:Hp) (a:Addr) (xs:List V) (v:V) (ds ds':LD) (d:D) (Q:VK),H a=some (mj a xs)->i9 X.K H ds xs->Rep X.K H d v->g ds d=some ds'->(∀xs',i9 X.K H ds' xs'->Q .non (upd (upd H a (.lst xs)) a (.lst xs')))->r (.ref a) [v] (upd H a (.lst xs)) Q)
  (he:SE X e f) (hN:X.N[i]?=some x:=by rfl) (hv:vC X.env.scope x:=by first | exact Or.inl rfl | exact Or.inr (Or.inl rfl) | exact Or.inr (Or.inr rfl)) (hd:(x==("__debug__" : Str))=false:=by decide) (hcd:(x==("__classdict__" : Str))=false:=by decide)
  (hbase:attributeBase (.Name x px) name X.env (eval (.Name x px) X.env)=eval (.Name x px) X.env:=by rfl) (hst:noStar e=true:=by rfl)
  (hline:(ap.endLine==cp.line)=true:=by rfl) (hs:swapsWith (.Call (.Attribute (.Name x px) name ap) [e] [] cp) none pos.line X.env=pure false:=by rfl) :
  OS X (.Expr (.Call (.Attribute (.Name x px) name ap) [e] [] cp) pos) u:=by
 intro pins s σ H E I ⟨ρ,τ,a,ds,xs,o,ds',er,ho,rp,eu,qq⟩
 obtain⟨hi,rfl,d,e1,e2⟩:=hu ρ ds o ds' eu
 have hσ:=eG er
 rw[hi] at hσ
 have hst1:=aw [] X.env hst
 refine wpAny_Expr_any (wpAny_Call_method_late hbase ?_ hline rfl (lA ((pv i (pos:=px) hN hv hd hcd) pins s σ H (fun v H1=>v=.ref a/\H1=H) I ⟨.ref a,hσ,rfl,rfl⟩) fun v s1 ⟨y,H1,I1,r1,ey,eH⟩=>?_)) I.quiet hs
 ·rw[hst1]
  rfl
 subst ey eH
 cases (show v=_ from r1)
 obtain⟨z,its,n,rv,eo⟩:=dX I1 ho
 refine⟨"list",id,PySem.F.plainAttrs_list,slot,hty,⟨_,eo,rfl⟩,fun b eb=>?_,?_⟩
 ·cases eb
  exact⟨_,eo,rfl⟩
 have hA:=(aa he ae hst).1 cp pins s1 σ H1 (fun vs H2=>ku H1 H2/\i9 X.K H2 [d] vs) I1 ⟨ρ,[d],er.1,by show(f ρ).bind _=_;rw[e1];rfl,fun vs H2 s2 r2=>⟨s2,r2⟩⟩
 rw[hst1] at hA ⊢
 refine Calls.callWith_builtin rfl (Calls.evalArgs_plain ?_)
 refine lA hA fun us s2 ⟨vs,H2,I2,r2,s12,rd⟩=>?_
 obtain⟨w,w',rfl,rw1,rw2⟩:=rd
 cases (show w'=[] from rw2)
 have ho2:=s12 _ _ ho
 have I3:=sv I2 ho2
 refine lA (hm pins s2 σ (upd H2 a (.lst xs)) (.ref a) [w] (.ref a) us (fun v H3=>∃xs',i9 X.K H2 ds' xs'/\H3=upd (upd H2 a (.lst xs)) a (.lst xs')) I3 rfl r2 (hr H2 a xs w ds ds' d _ ho2 (rp.mono s12) rw1 e2 fun xs' rp'=>⟨xs',rp',rfl⟩)) fun v s3 ⟨v',H3,I4,_,xs',rp',e3⟩=>?_
 subst e3
 have I5:=qR I4 ai
 generalize hH5:upd (upd (upd H2 a (.lst xs)) a (.lst xs')) a (mj a xs')=H5 at I5
 have k25:lY a H2 H5:=by
  subst hH5
  exact lY.upd.trans (lY.upd.trans lY.upd)
 have ho5:H5 a=some (mj a xs'):=by subst hH5;exact ai
 have k15:lY a H1 H5:=(lY.of s12).trans k25
 refine⟨σ,H5,I5,qq H5 xs' k15 ho5 (rp'.kp (k25.kp ho2)) σ (er.kp (k15.kp ho))⟩
theorem gX{x:Str}{e:Expr}{px ap cp:Pos}{f:R->OD}(i:Nat)(he:SE X e f)(hN:X.N[i]?=some x:=by rfl)(hv:vC X.env.scope x:=by first | exact Or.inl rfl | exact Or.inr (Or.inl rfl) | exact Or.inr (Or.inr rfl))(hd:(x==("__debug__" : Str))=false:=by decide)(hcd:(x==("__classdict__" : Str))=false:=by decide)
  (hbase:attributeBase (.Name x px) "append" X.env (eval (.Name x px) X.env)=eval (.Name x px) X.env:=by rfl) (hst:noStar e=true:=by rfl)
  (hline:(ap.endLine==cp.line)=true:=by rfl) (hs:swapsWith (.Call (.Attribute (.Name x px) "append" ap) [e] [] cp) none pos.line X.env=pure false:=by rfl) :
  OS X (.Expr (.Call (.Attribute (.Name x px) "append" ap) [e] [] cp) pos) (uQ i f):=by
 refine iy (g:=fun ds d=>if ds.length<sizeLine then some (ds++[d]) else none) (f:=f) i PySem.F.slot_list_append PySem.F.type_list_append dP ?_ ?_ he hN hv hd hcd hbase hst hline hs
 ·intro ρ ds o ds' h
  obtain⟨d,e1,h⟩:=kx h
  split at h
  ·rename_i hc
   cases h
   exact⟨hc.1,rfl,d,e1,if_pos hc.2⟩
  ·cases h
 ·intro H a xs v ds ds' d Q ho rp rd e q
  split at e
  ·rename_i hc
   cases e
   exact⟨a,xs,v,rfl,rfl,ai,by rw[<- rp.length];exact hc,q _ (rp.append (i9.one rd))⟩
  ·cases e
theorem jR{x:Str}{e:Expr}{px ap cp:Pos}{f:R->OD}(i:Nat)(he:SE X e f)(hN:X.N[i]?=some x:=by rfl)(hv:vC X.env.scope x:=by first | exact Or.inl rfl | exact Or.inr (Or.inl rfl) | exact Or.inr (Or.inr rfl))(hd:(x==("__debug__" : Str))=false:=by decide)(hcd:(x==("__classdict__" : Str))=false:=by decide)
  (hbase:attributeBase (.Name x px) "extend" X.env (eval (.Name x px) X.env)=eval (.Name x px) X.env:=by rfl) (hst:noStar e=true:=by rfl)
  (hline:(ap.endLine==cp.line)=true:=by rfl) (hs:swapsWith (.Call (.Attribute (.Name x px) "extend" ap) [e] [] cp) none pos.line X.env=pure false:=by rfl) :
  OS X (.Expr (.Call (.Attribute (.Name x px) "extend" ap) [e] [] cp) pos) (xx i f):=by
 refine iy (g:=fun ds d=>match d with | .lst es=>if ds.length+es.length<=sizeLine then some (ds++es) else none | _=>none) (f:=f) i PySem.F.slot_list_extend PySem.F.type_list_extend gm ?_ ?_ he hN hv hd hcd hbase hst hline hs
 ·intro ρ ds o ds' h
  obtain⟨d,e1,h⟩:=kx h
  cases d with
  | lst es =>
   dsimp only at h
   split at h
   ·rename_i hc
    cases h
    exact⟨hc.1,rfl,_,e1,if_pos hc.2⟩
   ·cases h
  | _=>cases h
 ·intro H a xs v ds ds' d Q ho rp rd e q
  cases d with
  | lst es =>
   dsimp only at e
   split at e
   ·rename_i hc
    cases e
    obtain⟨b,zs,rfl,hb,rz⟩:=rd
    have hne:b≠a:=fun z=>by
     rw[z,ho] at hb
     cases hb
    exact⟨a,b,xs,zs,rfl,rfl,ai,by rw[aj hne];exact hb,by rw[<- rp.length,<- rz.length];exact hc,q _ (rp.append rz)⟩
   ·cases e
  | _=>cases e
theorem fM{w:R->LD->Option Out}(h1:OS X st p)(h2:OB X sts w):OB X (st::sts) (wd p w):=(ba h1 h2).imp fun E σ H ⟨ρ,τ,a,ds,xs,o,er,ho,rp,e,qq⟩=>by
 obtain⟨⟨o1,ds1⟩,e1,e⟩:=kx e
 refine⟨ρ,τ,a,ds,xs,o1,ds1,er,ho,rp,e1,fun H1 xs1 k1 ho1 rp1=>?_⟩
 cases o1 with
 | nx ρ2=>exact fun σ2 er2=>⟨ρ2,τ,a,ds1,xs1,o,er2,ho1,rp1,e,fun H2 k2=>qq H2 (k1.trans k2)⟩
 | rt d=>cases e;exact qq H1 k1
 | bk ρ2=>cases e
 | ct ρ2=>cases e
theorem ii(h:SS X sts u):OB X sts (vP u):=by
 intro pins s σ H E I ⟨ρ,τ,a,ds,xs,o,er,ho,rp,e,qq⟩
 have I2:=sv I ho
 have k:lY a H (upd H a (.lst xs)):=lY.upd
 have hσ:=eG er
 have er2:=er.kp (k.kp ho)
 refine h pins s σ _ E I2 ⟨ρ++[some (D.lst ds)],τ,o,⟨⟨?_,fun i d hd=>?_⟩,?_⟩,(show u (ρ++[some (D.lst ds)])=some o from e),fun H' s'=>qq H' (k.trans (lY.of s'))⟩
 ·have:=(List.getElem?_eq_some_iff.mp hσ).1
  rw[List.length_append,List.length_singleton]
  exact this
 ·by_cases hi:i<ρ.length
  ·rw[List.getElem?_append_left hi] at hd
   exact er2.1.2 i d hd
  ·by_cases hi2:i=ρ.length
   ·subst hi2
    rw[List.getElem?_append_right (Nat.le_refl _),Nat.sub_self] at hd
    cases hd
    exact⟨_,hσ,a,xs,rfl,ai,rp.kp (k.kp ho)⟩
   ·rw[List.getElem?_eq_none (by simp;omega)] at hd
    cases hd
 ·rw[List.length_append,List.length_singleton,<- List.drop_drop,er.2]
  rfl
theorem j3{x:Str}{es:List Expr}{F:R->Option LD}{w:R->LD->Option Out}{px p1:Pos}(i:Nat)(hN:X.N.Nodup)(hF:SA X es F)(h2:OB X sts w)(hix:X.N[i]?=some x:=by rfl)(hx:Loc X.env.scope x:=by first | exact Or.inl rfl | exact Or.inr rfl)
  (hl:Nat.ble es.length 1000=true:=by rfl) (hs:swapsWith (.List es p1) (some (.Name x px)) pos.line X.env=pure false:=by rfl) (hf:X.fn x=true\/X.env.scope.names.lookup x=some .local:=by first | exact .inl rfl | exact .inr rfl) :
  SS X (.Assign [.Name x px] (.List es p1) pos::sts) (E3 i F w):=by
 intro pins s σ H E I ⟨ρ,τ,o,er,e,qq⟩
 obtain⟨ds,e1,e⟩:=kx e
 split at e
 case isFalse=>cases e
 case isTrue hlen =>
 refine wpAny_execs_cons (lA ((cN (i:=i) hN hix hx (dF hF.1) hs hf) pins s σ H {E with nx:=fun σ' H'=>∃a vs H1,σ'=σ.set i (some (.ref a))/\H'=upd H1 a (.lst vs)/\H1 a=none/\ku H H1/\i9 X.K H1 ds vs} I ?_) fun f s1 q=>?_)
 ·refine⟨ρ,ds,er.1,e1,fun vs H1 s1 r1=>⟨?_,fun a ha=>⟨a,vs,H1,rfl,rfl,ha,s1,r1⟩⟩⟩
  rw[<- r1.length,hF.2.1 ρ ds e1]
  exact Nat.le_of_lt (qQ (Nat.le_of_ble_eq_true hl))
 cases f with
 | next =>
  obtain⟨σ',H',I',a,vs,H1,rfl,rfl,ha,s1',r1⟩:=q
  have I2:=qR I' ai
  generalize hH2:upd (upd H1 a (.lst vs)) a (mj a vs)=H2 at I2
  have k12:lY a H1 H2:=by
   subst hH2
   exact lY.upd.trans lY.upd
  have s12:ku H1 H2:=fun b u hb=>k12 b u (fun z=>by rw[z,ha] at hb;cases hb) hb
  have ho2:H2 a=some (mj a vs):=by subst hH2;exact ai
  have hσi:i<σ.length:=Nat.lt_of_lt_of_le (by omega) er.1.1
  refine h2 pins s1 _ H2 E I2 ⟨ρ.take i,τ,a,ds,vs,o,⟨⟨?_,fun j d hd=>?_⟩,?_⟩,ho2,r1.mono s12,e,fun H' k=>qq H' fun b u hb=>?_⟩
  ·simp
   omega
  ·have hj:j<i:=by
    have:=(List.getElem?_eq_some_iff.mp hd).1
    simp at this
    omega
   rw[List.getElem?_take_of_lt hj] at hd
   obtain⟨v,h1,h2⟩:=er.1.2 j d hd
   exact⟨v,by rw[List.getElem?_set_ne (by omega)];exact h1,(h2.mono s1').mono s12⟩
  ·have hd:σ.drop (i+1)=τ:=by rw[<- hlen];exact er.2
   rw[List.length_take,Nat.min_eq_left (by omega),List.drop_eq_getElem_cons (by simpa using hσi)]
   congr 1
   ·simp
   ·rw[List.drop_set_of_lt (by omega)]
    exact hd
  ·have hb2:=s12 _ _ (s1' _ _ hb)
   exact k b u (fun z=>by
    have q:=s1' _ _ hb
    rw[z,ha] at q
    cases q) hb2
 | brk=>exact q
 | cont=>exact q
 | ret v=>exact q
end
mutual
theorem el:∀d:D,oZ d=true->(toPy d).canLay0=true
 | .non,_=>by simp[toPy,PyData.canLay0]
 | .bl _,_=>by simp[toPy,PyData.canLay0]
 | .int _,_=>by simp[toPy,PyData.canLay0]
 | .str _,h=>by rw[oZ] at h;simpa [toPy,PyData.canLay0,PyData.strOk] using h
 | .tup ds,h=>by rw[toPy,PyData.canLay0];exact cA ds h
 | .lst ds,h=>by rw[toPy,PyData.canLay0];exact cA ds h
 | .fro ds,h=>by rw[toPy,PyData.canLay0];exact cA ds h
 | .obj ..,h=>by cases h
 | .dct ..,h=>by cases h
 | .dcp ..,h=>by cases h
 | .cl ..,h=>by cases h
theorem cA:∀ds:LD,nG ds=true->PyData.canLayAll0 (mB ds)=true
 | [],_=>by simp[mB,PyData.canLayAll0]
 | d::ds,h=>by
  have h':(oZ d&&nG ds)=true:=h
  rw[Bool.and_eq_true] at h'
  rw[mB,PyData.canLayAll0,el d h'.1,cA ds h'.2];rfl
end
mutual
theorem fu:∀d:D,mV d=true->(toPy d).depth=nu d
 | .non,_=>by simp[toPy,PyData.depth,nu]
 | .bl _,_=>by simp[toPy,PyData.depth,nu]
 | .int _,_=>by simp[toPy,PyData.depth,nu]
 | .str _,_=>by simp[toPy,PyData.depth,nu]
 | .tup ds,h=>by rw[toPy,PyData.depth,nu,dh ds h]
 | .lst ds,h=>by rw[toPy,PyData.depth,nu,dh ds h]
 | .fro ds,h=>by rw[toPy,PyData.depth,nu,dh ds h]
 | .obj ..,h=>by cases h
 | .dct ..,h=>by cases h
 | .dcp ..,h=>by cases h
 | .cl ..,h=>by cases h
theorem dh:∀ds:LD,lE ds=true->PyData.depthAll (mB ds)=pB ds
 | [],_=>by simp[mB,PyData.depthAll,pB]
 | d::ds,h=>by
  have h':(mV d&&lE ds)=true:=h
  rw[Bool.and_eq_true] at h'
  rw[mB,PyData.depthAll,pB,fu d h'.1,dh ds h'.2]
end
mutual
theorem xB:∀x y:D,mV x=true->mV y=true->PyData.eqv (toPy x) (toPy y)=sH x y
 | .non,y,_,h=>by cases y<;>first | rfl | cases h
 | .bl a,y,_,h=>by cases y<;>first | rfl | cases h
 | .int a,y,_,h=>by cases y<;>first | rfl | cases h
 | .str a,y,_,h=>by cases y<;>first | rfl | cases h
 | .tup xs,y,g,h=>by
  cases y with
  | tup ys=>exact pJ xs ys g h
  | obj _ _ _ _=>cases h
  | dct _ _=>cases h
  | dcp _ _=>cases h
  | cl _ _ _=>cases h
  | _=>rfl
 | .lst xs,y,g,h=>by
  cases y with
  | lst ys=>exact pJ xs ys g h
  | fro ys=>exact pJ xs ys g h
  | obj _ _ _ _=>cases h
  | dct _ _=>cases h
  | dcp _ _=>cases h
  | cl _ _ _=>cases h
  | _=>rfl
 | .fro xs,y,g,h=>by
  cases y with
  | lst ys=>exact pJ xs ys g h
  | fro ys=>exact pJ xs ys g h
  | obj _ _ _ _=>cases h
  | dct _ _=>cases h
  | dcp _ _=>cases h
  | cl _ _ _=>cases h
  | _=>rfl
 | .obj ..,y,g,h=>by cases g
 | .dct ..,y,g,h=>by cases g
 | .dcp ..,y,g,h=>by cases g
 | .cl ..,y,g,h=>by cases g
theorem pJ:∀xs ys:LD,lE xs=true->lE ys=true->PyData.eqvAll (mB xs) (mB ys)=qO xs ys
 | [],[],_,_=>rfl
 | [],_::_,_,_=>rfl
 | _::_,[],_,_=>rfl
 | x::xs,y::ys,g,h=>by
  have g':(mV x&&lE xs)=true:=g
  have h':(mV y&&lE ys)=true:=h
  rw[Bool.and_eq_true] at g' h'
  show(PyData.eqv (toPy x) (toPy y)&&PyData.eqvAll (mB xs) (mB ys))=(sH x y&&qO xs ys)
  rw[xB x y g'.1 h'.1,pJ xs ys g'.2 h'.2]
end
section
variable{X:Cx}
theorem zd{k:Nat}(hr:lb k X.A){dx dy:D}(h:nu dx<=100)(hn:mV dx=true):X.A.units+min (toPy dx).depth (toPy dy).depth<cLine:=by
 have h1:=hr.un
 have h2:min (toPy dx).depth (toPy dy).depth<=100:=by rw[fu dx hn];omega
 omega
theorem ip{k:Nat}(hr:lb k X.A):A9 X .NotEq qX:=by
 intro pins s σ H x y v u Q I rx ry h
 obtain⟨dx,dy,b,r1,r2,e,q⟩:=h
 unfold qX Dm at e
 split at e
 ·rename_i hd
  cases e
  obtain⟨as,ra⟩:=qA I (bw hd.2.1) r1 rx
  obtain⟨bs,rb⟩:=qA I (bw hd.2.2) r2 ry
  have z:=SeqAt.rcNeAt_reads ra rb (el dx hd.2.1) (el dy hd.2.2) (zd (dy:=dy) hr hd.1 (bw hd.2.1))
  rw[xB _ _ (bw hd.2.1) (bw hd.2.2)] at z
  exact PySem.EqBoolInt.of_rcne z ⟨.bl (!sH dx dy),H,I,rfl,q⟩
 ·cases e
end
section
variable{prog:Program}{w:World}{A:Around}{R':Result->Shared->Prop}{I:Addr}{fp wr:List Addr}{n:Nat}{P:Nat->Value->Prop}{St:Nat->Heap->Prop}
abbrev DY(S:Addr)(vs:Array Value)(c:Nat)(h:Heap):Prop:=h.get? S=some {cls:=.type "list",dict:=none,data:=.seq vs c,slots:=#[]}
end
section
variable{prog:Program}{w:World}{A:Around}{E:Value->Shared->Prop}{s:Shared}
end
section
variable{X:Cx}
end
section
open PySem.SeqAt
open AutoSeq1 (wpAny_loadPart')
open MeetsSeq MeetsSeq2 MeetsSeq3 SeqRoads2
end
section
variable{X:Cx}
end
section
variable{X:Cx}
end
section
variable{X:Cx}{i k:Nat}{fa:Addr}{e a:Expr}{es:List Expr}{pos p:Pos}{f:R->OD}{F:R->Option LD}{G:LD->OD}
def GW(P:Program)(w:World)(K:W.Frag)(mg:Str->Option Value)(base:Heap)(k:Nat)(fa:Addr)(G:LD->OD):Prop:=∃fd ps,kT P w K mg base mi k fa fd ps (rS K G)/\W.keepIn K (.ref fa)=true/\Binds K fd ps []
inductive Tab (P:Program) (w:World) (K:W.Frag) (mg:Str->Option Value) (base:Heap) (k:Nat):List (Str×(LD->OD))->List (Str×Value)->Prop
 | nil:Tab P w K mg base k [] []
 | cons {z:Str} {G:LD->OD} {fa:Addr} {t:List (Str×(LD->OD))} {vs:List (Str×Value)}:GW P w K mg base k fa G->Tab P w K mg base k t vs->Tab P w K mg base k ((z,G)::t) ((z,.ref fa)::vs)
theorem Tab.get{P:Program}{w:World}{K:W.Frag}{mg:Str->Option Value}{base:Heap}{t:List (Str×(LD->OD))}{vs:List (Str×Value)}(h:Tab P w K mg base k t vs){z:Str}(e:t.lookup z=some G):∃fa,valueAt vs z=some (.ref fa)/\GW P w K mg base k fa G:=by
 induction h with
 | nil=>cases e
 | @cons y G' fa t vs h1 h2 ih =>
  unfold valueAt
  rw[List.find?_cons]
  by_cases hz:y=z
  ·subst hz
   rw[List.lookup_cons,beq_self_eq_true] at e
   cases e
   simp
   exact h1
  ·rw[List.lookup_cons,beq_eq_false_iff_ne.mpr (fun q=>hz q.symm)] at e
   obtain⟨fb,q1,q2⟩:=ih e
   refine⟨fb,?_,q2⟩
   unfold valueAt at q1
   simp[hz]
   simpa using q1
def entries(w:World):List (Str×Tok×Value)->List DictEntry
 | []=>[]
 | (z,t,v)::r=>{hash:=PyData.keyHash w.params z,key:=.str z t,val:=v}::entries w r
end
section
variable{X:Cx}
end
end HW
namespace HW
open PySem
def rG:LD->Option (List Str)
 | []=>some []
 | d::r=>(sI d).bind fun x=>(rG r).map fun xs=>x::xs
def Fh(sep:Str)(xs:List Str):Option Str:=if xs.toArray.foldl (fun n x=>n+x.length+sep.length) 0<=sizeLine/\(Builtin.Str.glued sep xs).length<=sizeLine then some (Builtin.Str.glued sep xs) else none
@[simp] def G1:LD->OD
 | [.str s,.lst ds]=>(rG ds).bind fun xs=>(Fh s xs).map .str
 | _=>none
def Hx(x:Str)(n c:Nat):Str:=if n<=x.length then x else Builtin.Str.padded x (n - x.length) 0 c
@[simp] def HE:LD->OD
 | [.str x,.int i,.str f]=>if 0<=i/\i<=1000/\f.length=1 then some (.str (Hx x i.toNat (f.cps.getD 0 0))) else none
 | _=>none
@[simp] def ut:D->D->OD
 | .tup xs,.int k=>if xs.length*k.toNat<=sizeLine/\0<k/\k<2 ^ 63 then some (.tup (List.replicate k.toNat xs).flatten) else none
 | _,_=>none
@[simp] def GZ:LD->OD
 | [.str x]=>if x.length<=640 then (PySem.intText? x).map .int else none
 | _=>none
def rJ(a b c:Int):Nat:=if a<b then ((b - a - 1) / c+1).toNat else 0
@[simp] def rK:LD->OD
 | [.str x]=>if x.length<=sizeLine then some (.int x.length) else none
 | _=>none
def kP?:D->Option LD
 | .tup xs=>some xs
 | .lst xs=>some xs
 | .str x=>if x.cps.all (·<128) then some (chars x) else none
 | _=>none
def qt(xs ys:LD):LD:=List.zipWith (fun x y=>D.tup [x,y]) xs ys
theorem rE(xs ys:LD):(qt xs ys).length=min xs.length ys.length:=by simp[qt]
end HW
namespace HW
open PySem PySem.Spec PyProof.Rows L2
section
variable{X:Cx}{a:Expr}{f:R->OD}{pos p2:Pos}
end
theorem ER{us:List Value}(h:us.length=1):∃x0,us=[x0]:=by
 match us,h with
 | [x0],_=>exact⟨x0,rfl⟩
theorem ln2{us:List Value}(h:us.length=2):∃x0 x1,us=[x0,x1]:=by
 match us,h with
 | [x0,x1],_=>exact⟨x0,x1,rfl⟩
theorem HF{us:List Value}(h:us.length=3):∃x0 x1 x2,us=[x0,x1,x2]:=by
 match us,h with
 | [x0,x1,x2],_=>exact⟨x0,x1,x2,rfl⟩
section
variable{X:Cx}
def G4(X:Cx)(id:String)(G:LD->OD):Prop:=Ej X id fun x vs H Q=>∃dx ds d,Rep X.K H dx x/\i9 X.K H ds vs/\G (dx::ds)=some d/\∀v H',ku H H'->Rep X.K H' d v->Q v H'
theorem uJ:∀{K:W.Frag} {H:Hp} {ds:LD} {vs:List V} {us:List Value} {xs:List Str},rG ds=some xs->i9 K H ds vs->kM vs us->∃l:List (Str×Tok),us=strValues l/\l.map (·.1)=xs
 | _,_,[],vs,us,xs,e,r,h=>by
  cases e
  cases (show vs=[] from r)
  cases h
  exact⟨[],rfl,rfl⟩
 | K,H,d::ds,vs,us,xs,e,r,h=>by
  obtain⟨x,e1,e⟩:=kx e
  obtain⟨ys,e2,rfl⟩:=lK e
  obtain⟨v,vs',rfl,r1,r2⟩:=r
  have hv:=xY e1 r1
  subst hv
  cases h with
  | cons h1 h2 =>
   obtain⟨t,rfl⟩:=h1
   obtain⟨l,rfl,rfl⟩:=uJ e2 r2 h2
   exact⟨(x,t)::l,rfl,rfl⟩
end
section
variable{prog:Program}{w:World}{A:Around}{E:Value->Shared->Prop}{s:Shared}
end
section
variable{X:Cx}
end
section
variable{X:Cx}
theorem qT:fillsNumberSlot (.type "tuple") "mul" = pure false:=
 PySem.fillsNumberSlot_seq (id:="tuple.__mul__") (r:=some (.builtin "tuple.__rmul__")) PySem.F.slot_tuple_mul.lookup (by decide +kernel) PySem.F.slot_tuple_rmul.lookup (by decide +kernel)
theorem vg:seqRepeat? (.type "tuple")=pure (some (.builtin "tuple.__mul__")):=by
 unfold seqRepeat?
 rw[PySem.seqSlot_of (T:="tuple") (name:="__mul__") (id:="tuple.__mul__") PySem.F.slot_tuple_mul.lookup (by decide +kernel),PySem.seqSlot_of (T:="tuple") (name:="__rmul__") (id:="tuple.__rmul__") PySem.F.slot_tuple_rmul.lookup (by decide +kernel)]
 rfl
theorem tK(a:Int)(t:Tok)(l:Addr)(items:Array Value)(n:Nat)(dd:Option Addr)(sl:Array (Option Value)) :
  Meets (Builtin.«int.__rmul__» ⟨[.int a t,.ref l],[]⟩) (fun _ R s=>s.heap.get? l=some {cls:=.type "tuple",dict:=dd,data:=.seq items n,slots:=sl}/\R (.ok (.ret Value.notImplemented)) s):=
 .of_wp fun prog w A R s h=>by obtain⟨hp,g,d,tk,os⟩:=s;obtain⟨hl,h⟩:=h;wp_walk;exact⟨_,rfl,h⟩
theorem Hc{b:Bool}(h:b=false):decide (b=true)=false:=by subst h;rfl
theorem tJ(l:Addr)(items:Array Value)(n:Nat)(dd:Option Addr)(sl:Array (Option Value))(k:Int)(u:Tok)(h1:(decide (k < -(2 ^ 63))||decide (k ≥ 2 ^ 63))=false)(h2:(items.isEmpty||k==1)=true) :
  Meets (Builtin.«tuple.__mul__» ⟨[.ref l,.int k u],[]⟩) (fun _ R s=>s.heap.get? l=some {cls:=.type "tuple",dict:=dd,data:=.seq items n,slots:=sl}/\R (.ok (.ret (.ref l))) s):=
 .of_wp fun prog w A R s h=>by
  obtain⟨hp,g,d,tk,os⟩:=s;obtain⟨hl,h⟩:=h;have f1:=AutoSeq1.idx_int;have f2:=AutoSeq1.sub_tuple_tuple
  wp_walk using wpAny_loadPart' hl
  refine wpAny_ite_false (Hc h1) ?_
  wp_walk using wpAny_loadPart' hl
  exact⟨_,rfl,h⟩
theorem tY(l:Addr)(items:Array Value)(n:Nat)(dd:Option Addr)(sl:Array (Option Value))(k:Int)(u:Tok)(h1:(decide (k < -(2 ^ 63))||decide (k ≥ 2 ^ 63))=false)(h2:(items.isEmpty||k==1)=false)
  (h3:(decide (k<=0)||items.isEmpty)=false) (h4:decide ((items.size:Int)*k > (2 ^ 63 - 1) / 8)=false) (h5:Builtin.Tuple.tupleTooMany ((items.size:Int)*k)=false) (h6:(List.foldl (fun x1 x2=>x1++x2) #[] (List.replicate k.toNat items)).size<=sizeLine) :
  Meets (Builtin.«tuple.__mul__» ⟨[.ref l,.int k u],[]⟩) (fun _ R s=>s.heap.get? l=some {cls:=.type "tuple",dict:=dd,data:=.seq items n,slots:=sl} /\
   R (.ok (.ret (.ref s.heap.objs.size))) {s with heap:=s.heap.push {cls:=Value.type "tuple",data:=Data.seq (List.foldl (fun x1 x2=>x1++x2) #[] (List.replicate k.toNat items))},toks:=s.toks}):=
 .of_wp fun prog w A R s h=>by
  obtain⟨hp,g,d,tk,os⟩:=s;obtain⟨hl,h⟩:=h;have f1:=AutoSeq1.idx_int;have f2:=AutoSeq1.sub_tuple_tuple
  wp_walk using wpAny_loadPart' hl
  refine wpAny_ite_false (Hc h1) ?_
  wp_walk using wpAny_loadPart' hl
  refine wpAny_ite_false h4 ?_
  wp_walk using wpAny_loadPart' hl
  exact⟨_,rfl,h⟩
theorem je:DC X (binaryOp .Mult) ut:=by
 intro pins s σ H x y v u Q I rx ry h
 obtain⟨dx,dy,d,r1,r2,e,q⟩:=h
 match dx,dy,e with
 | .tup xs,.int k,e =>
   have e':(if xs.length*k.toNat<=sizeLine/\0<k/\k<2 ^ 63 then some (D.tup (List.replicate k.toNat xs).flatten) else none)=some d:=e
   split at e'
   ·rename_i hz
    obtain⟨hz,k1,k2⟩:=hz
    cases e'
    obtain⟨a,vs,rfl,hq,t⟩:=r1
    cases (show y=_ from r2)
    cases rx
    obtain⟨tk,rfl⟩:=ry
    obtain⟨its,rr,p,hsz⟩:=I.tuple hq
    obtain⟨⟨cls,dd,data,sl⟩,ho,hc,n,hd⟩:=id p
    simp only at hc hd
    subst hc hd
    have hlen:xs.length=its.length:=t.length.trans rr.length
    have b1:(decide (k < -(2 ^ 63))||decide (k ≥ 2 ^ 63))=false:=by
     rw[decide_eq_false (by omega),decide_eq_false (by omega)];rfl
    have hnew:List.foldl (fun x1 x2=>x1++x2) #[] (List.replicate k.toNat its.toArray)=(List.replicate k.toNat its).flatten.toArray:=by
     have:=foldl_rep its k.toNat []
     rw[List.nil_append] at this
     exact this
    have hfs:(List.replicate k.toNat its).flatten.length<=sizeLine:=by rw[fQ,<- hlen,Nat.mul_comm];exact hz
    refine wpAny_binaryOp_repeat_ref (T:="tuple") (U:="int") (by decide) ⟨_,ho,rfl⟩ (fun s'=>typeIs_int s' k tk) qT F.fills_int_mul F.slot_int_rmul vg F.slot_int_index.lookup
     (call_meets F.slot_int_rmul (typeIs_int s k tk) F.entry_int_rmul (F.args_int_rmul_2 _ _) (tK k tk a its.toArray n dd sl) ⟨ho,rfl,⟨_,ho,rfl⟩,?_⟩)
    by_cases hc:its=[]\/k=1
    ·have b2:(its.toArray.isEmpty||k==1)=true:=by
      rcases hc with hc | hc
      ·subst hc;rfl
      ·subst hc;simp
     refine call_meets PySem.F.slot_tuple_mul ⟨_,ho,rfl⟩ PySem.F.entry_tuple_mul (PySem.F.args_tuple_mul_2 _ _) (tJ a its.toArray n dd sl k tk b1 b2) ⟨ho,?_⟩
     refine⟨.ref a,H,I,rfl,q _ H (ku.refl H) ⟨a,vs,rfl,hq,?_⟩⟩
     rcases hc with hc | hc
     ·subst hc
      have z:xs=[]:=List.length_eq_zero_iff.mp hlen
      subst z
      have z2:(List.replicate k.toNat ([]:LD)).flatten=[]:=by simp
      rw[z2]
      exact t
     ·subst hc
      have z2:(List.replicate (1:Int).toNat xs).flatten=xs:=by simp
      rw[z2]
      exact t
    ·have b2:(its.toArray.isEmpty||k==1)=false:=by
      have a1:its ≠ []:=fun z=>hc (.inl z)
      have a2:k≠1:=fun z=>hc (.inr z)
      cases its with
      | nil=>exact absurd rfl a1
      | cons x r=>simp[a2]
     have hk:¬ k<=0:=by omega
     have b3:(decide (k<=0)||its.toArray.isEmpty)=false:=by
      have a1:its ≠ []:=fun z=>hc (.inl z)
      rw[decide_eq_false hk]
      cases its with
      | nil=>exact absurd rfl a1
      | cons x r=>rfl
     have hk2:((its.toArray.size:Nat):Int)*k=((its.length*k.toNat:Nat):Int):=by
      rw[List.size_toArray,Int.natCast_mul,Int.toNat_of_nonneg (by omega)]
     have hz2:its.length*k.toNat<=16777216:=by rw[<- hlen];exact hz
     have b4:decide (((its.toArray.size:Nat):Int)*k > (2 ^ 63 - 1) / 8)=false:=decide_eq_false (by rw[hk2];omega)
     have b5:Builtin.Tuple.tupleTooMany (((its.toArray.size:Nat):Int)*k)=false:=by
      unfold Builtin.Tuple.tupleTooMany
      rw[hk2]
      exact decide_eq_false (by rw[sizeLine_eq];omega)
     refine call_meets PySem.F.slot_tuple_mul ⟨_,ho,rfl⟩ PySem.F.entry_tuple_mul (PySem.F.args_tuple_mul_2 _ _) (tY a its.toArray n dd sl k tk b1 b2 b3 b4 b5 (by rw[hnew,List.size_toArray];exact hfs)) ⟨ho,?_⟩
     rw[hnew]
     have hf:=I.hok.fresh (Nat.le_refl s.heap.objs.size)
     have s2:=aQ hf (.tup (List.replicate k.toNat vs).flatten)
     refine⟨.ref s.heap.objs.size,_,I.laid (t':=s.toks) (o:=.tup (List.replicate k.toNat vs).flatten) (fun b ob q=>Heap.get?_push_of_some _ q) (Nat.le_refl _) ?_,rfl,q _ _ s2 ⟨_,_,rfl,mG.of ai,(t.rep k.toNat).mono s2⟩⟩
     exact⟨by rw[fQ,<- t.length,Nat.mul_comm];exact hz,_,rr.rep k.toNat,nj.new _ _⟩
   ·cases e'
end
theorem DB{a b c:Int}(ha : -(2 ^ 60)<=a)(ha':a<2 ^ 60)(hb : -(2 ^ 60)<=b)(hb':b<2 ^ 60)(hc:0<c)(hc':c<1073741824):Builtin.Range.small a b c=true:=by
 have hd:0<=(b - a - 1) / c\/b - a - 1<0:=by
  by_cases h:b - a - 1<0
  ·exact .inr h
  ·exact .inl (Int.ediv_nonneg (by omega) (by omega))
 have hd2:a<b->(b - a - 1) / c<=b - a - 1:=fun h=>Int.ediv_le_self _ (by omega)
 unfold Builtin.Range.small Builtin.Range.rangeSize
 simp only[Builtin.Range.rangeFitsLong,Bool.and_eq_true,Bool.or_eq_true,decide_eq_true_eq,beq_iff_eq,gt_iff_lt,hc,if_true]
 split<;>omega
section
variable{X:Cx}
theorem y1{a b c:Int}(hc:0<c):((rJ a b c:Nat):Int)=Builtin.Range.rangeSize a b c:=by
 unfold rJ Builtin.Range.rangeSize
 rw[if_pos (show c > 0 from hc)]
 split
 ·rename_i h
  have:0<=(b - a - 1) / c:=Int.ediv_nonneg (by omega) (by omega)
  omega
 ·rfl
end
section
variable{X:Cx}{pins:List (Addr×Obj)}{σ:L2.St}{H:Hp}{s:Shared}{k:Nat}{y:Str}
end
end HW
namespace HW
open PySem
structure Ap (z TI TO i1 i2:Addr):Prop where
 a1:TI≠z
 a2:TO≠z
 a3:i1≠z
 a4:i2≠z
 a5:TI≠TO
 a6:TI≠i1
 a7:TI≠i2
 a8:TO≠i1
 a9:TO≠i2
 b1:i1≠i2
section
variable{prog:Program}{w:World}{A:Around}{E:Value->Shared->Prop}{g:_}{d:_}{os:_}
structure Nx (prog:Program) (w:World) (A:Around) (mk:Heap->Nat->Shared) (Good:Heap->Nat->Prop) (it:Addr) (st st':Heap->Prop) (P:Value->Prop):Prop where
 stay:∀h h',st h->(∀o,h.get? it=some o->h'.get? it=some o)->st h'
 stay':∀h h',st' h->(∀o,h.get? it=some o->h'.get? it=some o)->st' h'
 run:∀h tk (Q:Value->Shared->Prop) (E:Value->Shared->Prop),Good h tk->st h->(∀u h' tk',P u->st' h'->Heap.SameBut it h h'->Q u (mk h' tk')) ->
  wpAny (model prog w) A (Builtin.SmallTypes.nextOf (.ref it)) Q E (mk h tk)
structure Ne (prog:Program) (w:World) (A:Around) (mk:Heap->Nat->Shared) (Good:Heap->Nat->Prop) (it:Addr) (st:Heap->Prop):Prop where
 stay:∀h h',st h->(∀o,h.get? it=some o->h'.get? it=some o)->st h'
 run:∀h tk (Q:Value->Shared->Prop) (E:Value->Shared->Prop),Good h tk->st h->(∀h' e,Heap.ExtBut it h h'->(∃o,h'.get? e=some o/\o.cls=.type "StopIteration")->E (.ref e) (mk h' tk)) ->
  wpAny (model prog w) A (Builtin.SmallTypes.nextOf (.ref it)) Q E (mk h tk)
def mX(s:Shared)(h:Heap)(tk:Nat):Shared:={s with heap:=h,toks:=tk}
def Cl(Good:Heap->Nat->Prop)(cs:List Addr):Prop:=∀c∈cs,∀h tk h' tk',Good h tk->(∀b o,b≠c->h.get? b=some o->h'.get? b=some o)->Good h' tk'
variable{Good:Heap->Nat->Prop}{s:Shared}{z TI TO i1 i2:Addr}{a b:Value}{st1 st1' st2 st2':Heap->Prop}{P1 P2:Value->Prop}
theorem iK {Q:Value->Shared->Prop} (D:Ap z TI TO i1 i2) (hz:IsZip s.heap z TI TO .none) (hI:IsPair s.heap TI (.ref i1) (.ref i2)) (hO:IsPair s.heap TO a b)
    (g0:Good s.heap s.toks) (cl:Cl Good [z,TO,i1,i2]) (n1:Nx prog w A (mX s) Good i1 st1 st1' P1) (n2:Nx prog w A (mX s) Good i2 st2 st2' P2) (q1:st1 s.heap) (q2:st2 s.heap)
    (hQ:∀h5 tk u1 u2 h8,Good h5 tk->P1 u1->P2 u2->IsZip h5 z TI TO .ellipsis->IsPair h5 TI (.ref i1) (.ref i2)->IsPair h5 TO u1 u2->st1' h5->st2' h5->IsZip h8 z TI TO (rawInt h5.objs.size) ->
      (∀c o,c≠z->(h5.push {cls:=.type "tuple",data:=.seq #[u1,u2]}).get? c=some o->h8.get? c=some o)->Q (.ref h5.objs.size) (mX s h8 tk)) :
    wpAny (model prog w) A (Builtin.«zip.__next__» ⟨[.ref z],[]⟩) (fun fin s'=>∃v,fin=.done (.ret v)/\Q v s') E s:=by
  show wpAny _ _ (field (.ref z) 2 >>= _) _ _ _;refine wpAny_bind (wpAny_field hz rfl (x:=.bool false) rfl ?_)
  show wpAny _ _ (field (.ref z) 3 >>= _) _ _ _;refine wpAny_bind (wpAny_field hz rfl (x:=.ref TI) rfl ?_)
  refine wpAny_bind (wpAny_seqItems hI rfl ?_);show wpAny _ _ (Builtin.SmallTypes.ownedTupleIsFree (.ref z) >>= _) _ _ _
  refine wpAny_bind ?_;unfold Builtin.SmallTypes.ownedTupleIsFree
  refine wpAny_bind (wpAny_field hz rfl (x:=.none) rfl (wpAny_pure ?_));simp only[if_true]
  refine wpAny_bind (wpAny_rule ?_);refine wpAny_bind (wpAny_field hz rfl (x:=.ref TO) rfl ?_)
  refine wpAny_bind (wpAny_setField_rec hz (by simp) fun h1 hz1 s1=>?_)
  replace hz1:IsZip h1 z TI TO .ellipsis:=hz1
  have e1:∀b o,b≠z->s.heap.get? b=some o->h1.get? b=some o:=s1.extBut
  have g1:Good h1 s.toks:=cl z (by simp) _ _ _ _ g0 e1
  refine wpAny_bind ?_;simp only[List.zipIdx_cons,List.zipIdx_nil,List.forIn_cons,List.forIn_nil]
  refine wpAny_bind (wpAny_bind (wpAny_onRaise ?_));show wpAny _ _ (Builtin.SmallTypes.nextOf (.ref i1) >>= _) _ _ _
  refine wpAny_bind (n1.run h1 s.toks _ _ g1 (n1.stay _ _ q1 fun o=>e1 _ o D.a3) fun u1 h2 tk2 p1 t1 s2=>wpAny_pure ?_)
  have e2:∀b o,b≠i1->h1.get? b=some o->h2.get? b=some o:=s2.extBut
  have g2:Good h2 tk2:=cl i1 (by simp) _ _ _ _ g1 e2
  have O2:IsPair h2 TO a b:=e2 _ _ D.a8 (e1 _ _ D.a2 hO)
  refine wpAny_bind (wpAny_seqItems (s:=mX s h2 tk2) O2 rfl ?_)
  refine wpAny_bind (wpAny_updateSeq_pair (s:=mX s h2 tk2) O2 fun h3 O3 s3=>?_)
  replace O3:IsPair h3 TO u1 b:=O3
  have e3:∀b o,b≠TO->h2.get? b=some o->h3.get? b=some o:=s3.extBut
  have g3:Good h3 tk2:=cl TO (by simp) _ _ _ _ g2 e3
  refine wpAny_bind (wpAny_letGo (wpAny_pure ?_));refine wpAny_bind (wpAny_bind (wpAny_onRaise ?_))
  show wpAny _ _ (Builtin.SmallTypes.nextOf (.ref i2) >>= _) _ _ (mX s h3 tk2)
  refine wpAny_bind (n2.run h3 tk2 _ _ g3 (n2.stay _ _ q2 fun o q=>e3 _ o D.a9.symm (e2 _ o D.b1.symm (e1 _ o D.a4 q))) fun u2 h4 tk4 p2 t2 s4=>wpAny_pure ?_)
  have e4:∀b o,b≠i2->h3.get? b=some o->h4.get? b=some o:=s4.extBut
  have g4:Good h4 tk4:=cl i2 (by simp) _ _ _ _ g3 e4
  have O4:IsPair h4 TO u1 b:=e4 _ _ D.a9 O3
  refine wpAny_bind (wpAny_seqItems (s:=mX s h4 tk4) O4 rfl ?_)
  refine wpAny_bind (wpAny_updateSeq_pair (s:=mX s h4 tk4) O4 fun h5 O5 s5=>?_)
  replace O5:IsPair h5 TO u1 u2:=O5
  have e5:∀b o,b≠TO->h4.get? b=some o->h5.get? b=some o:=s5.extBut
  have g5:Good h5 tk4:=cl TO (by simp) _ _ _ _ g4 e5
  refine wpAny_bind (wpAny_letGo (wpAny_pure (wpAny_pure ?_)));refine wpAny_bind (wpAny_seqItems (s:=mX s h5 tk4) O5 rfl ?_)
  refine wpAny_bind (wpAny_newTuple (s:=mX s h5 tk4) ?_)
  have z5:IsZip h5 z TI TO .ellipsis:=e5 _ _ D.a2.symm (e4 _ _ D.a4.symm (e3 _ _ D.a2.symm (e2 _ _ D.a3.symm hz1)))
  have I5:IsPair h5 TI (.ref i1) (.ref i2):=e5 _ _ D.a5 (e4 _ _ D.a7 (e3 _ _ D.a5 (e2 _ _ D.a6 (e1 _ _ D.a1 hI))))
  show wpAny _ _ (Builtin.SmallTypes.ownedTupleHandOut (.ref z) (.ref h5.objs.size) >>= _) _ _ _
  refine wpAny_bind ?_;unfold Builtin.SmallTypes.ownedTupleHandOut
  have z6:IsZip (h5.push {cls:=.type "tuple",data:=.seq #[u1,u2]}) z TI TO .ellipsis:=Heap.get?_push_of_some _ z5
  refine wpAny_bind (wpAny_setField_rec (s:=mX s (h5.push {cls:=.type "tuple",data:=.seq #[u1,u2]}) tk4) z6 (by simp) fun h7 z7 s7=>?_)
  replace z7:IsZip h7 z TI TO (rawInt h5.objs.size):=z7
  refine wpAny_setField_rec (s:=mX s h7 tk4) z7 (by simp) fun h8 z8 s8=>?_
  replace z8:IsZip h8 z TI TO (rawInt h5.objs.size):=z8
  exact wpAny_pure ⟨_,rfl,hQ h5 tk4 u1 u2 h8 g5 p1 p2 z5 I5 O5 (n1.stay' _ _ t1 fun o q=>e5 _ o D.a8.symm (e4 _ o D.b1 (e3 _ o D.a8.symm q))) (n2.stay' _ _ t2 fun o q=>e5 _ o D.a9.symm q) z8
    fun c o n q=>s8.extBut _ _ n (s7.extBut _ _ n q)⟩
theorem fH {Q:Value->Shared->Prop} (D:Ap z TI TO i1 i2) (hz:IsZip s.heap z TI TO .none) (hI:IsPair s.heap TI (.ref i1) (.ref i2)) (hO:IsPair s.heap TO a b)
    (g0:Good s.heap s.toks) (cl:Cl Good [z,TO,i1,i2]) (n1:Nx prog w A.in1 (mX s) Good i1 st1 st1' P1) (n2:Nx prog w A.in1 (mX s) Good i2 st2 st2' P2) (q1:st1 s.heap) (q2:st2 s.heap)
    (hQ:∀h5 tk u1 u2 h8,Good h5 tk->P1 u1->P2 u2->IsZip h5 z TI TO .ellipsis->IsPair h5 TI (.ref i1) (.ref i2)->IsPair h5 TO u1 u2->st1' h5->st2' h5->IsZip h8 z TI TO (rawInt h5.objs.size) ->
      (∀c o,c≠z->(h5.push {cls:=.type "tuple",data:=.seq #[u1,u2]}).get? c=some o->h8.get? c=some o)->Q (.ref h5.objs.size) (mX s h8 tk)) :
    wpAny (model prog w) A (pyNext (.ref z)) (fun r s'=>∃v,r=some v/\Q v s') E s:=by
  have hT:s.TypeIs (.ref z) "zip":=⟨_,hz,rfl⟩
  unfold pyNext
  exact wpAny_bind (wpAny_attempt (wpAny_callSpecial?_slot (name:=oS "__next__") hT F.slot_zip_next (wpAny_call_entry F.slot_zip_next hT F.entry_zip_next
      (iK (Q:=fun v s'=>_) D hz hI hO g0 cl n1 n2 q1 q2 fun h5 tk u1 u2 h8 c1 c2 c3 c4 c5 c6 c7 c8 c9 c10=>wpAny_pure ⟨_,rfl,hQ h5 tk u1 u2 h8 c1 c2 c3 c4 c5 c6 c7 c8 c9 c10⟩) (F.args_zip_next_1 _))))
theorem bL{it l:Addr}{i:Nat}{items}{x:Value}{Q:Value->Shared->Prop}(hit:s.heap.IsTupleIter it l i)(hl:s.heap.IsTuple l items)(hx:items[i]?=some x)
  (hQ:∀h',h'.IsTupleIter it l (i+1)->Heap.SameBut it s.heap h'->Q x {s with heap:=h' }):wpAny (model prog w) A (Builtin.SmallTypes.nextOf (.ref it)) Q E s:=by
 obtain⟨o,ho,hc,hd⟩:=id hit
 obtain⟨ol,hol,_,nl,hdl⟩:=hl
 unfold Builtin.SmallTypes.nextOf
 refine wpAny_bind (wpAny_callSpecial?_slot (name:=oS "__next__") hit.typeIs F.slot_tuple_iterator_next (wpAny_call_entry F.slot_tuple_iterator_next hit.typeIs F.entry_tuple_iterator_next ?_ (F.args_tuple_iterator_next_1 _)))
 show wpAny _ _ (field (.ref it) 0 >>= _) _ _ s;refine wpAny_bind (wpAny_field ho hd (x:=.ref l) rfl ?_)
 show wpAny _ _ (if (Value.ref l==Value.none)=true then _ else _) _ _ s;rw[if_neg (show ¬ ((Value.ref l==Value.none)=true) from Bool.false_ne_true)]
 show wpAny _ _ (field (.ref it) 1 >>= _) _ _ s;refine wpAny_bind (wpAny_field ho hd (x:=.int i 0) rfl ?_)
 show wpAny _ _ (seqItems? (.ref l) >>= _) _ _ s;refine wpAny_bind (wpAny_seqItems hol hdl ?_)
 simp only[Int.toNat_natCast,hx]
 refine wpAny_bind (wpAny_setField ho hd (by simp) (wpAny_pure ⟨x,rfl,wpAny_pure (hQ _ ⟨_,Heap.get?_update_self _ ho (Obj.isFreed_of_fields (Obj.data_mapFields hd _)),(Obj.cls_mapFields ..).trans hc,?_⟩ (Heap.SameBut.update ..))⟩))
 rw[Obj.data_mapFields hd];simp[rawInt]
theorem br{it l:Addr}{i:Nat}{items}{Q:Value->Shared->Prop}(hh:A.handled=none)(hit:s.heap.IsTupleIter it l i)(hl:s.heap.IsTuple l items)(hx:items[i]?=none)
  (hE:∀h' e,Heap.ExtBut it s.heap h'->(∃o,h'.get? e=some o/\o.cls=.type "StopIteration")->E (.ref e) {s with heap:=h' }):wpAny (model prog w) A (Builtin.SmallTypes.nextOf (.ref it)) Q E s:=by
 obtain⟨o,ho,hc,hd⟩:=id hit
 obtain⟨ol,hol,_,nl,hdl⟩:=hl
 unfold Builtin.SmallTypes.nextOf
 refine wpAny_bind (wpAny_callSpecial?_slot (name:=oS "__next__") hit.typeIs F.slot_tuple_iterator_next (wpAny_call_entry F.slot_tuple_iterator_next hit.typeIs F.entry_tuple_iterator_next ?_ (F.args_tuple_iterator_next_1 _)))
 show wpAny _ _ (field (.ref it) 0 >>= _) _ _ s;refine wpAny_bind (wpAny_field ho hd (x:=.ref l) rfl ?_)
 show wpAny _ _ (if (Value.ref l==Value.none)=true then _ else _) _ _ s;rw[if_neg (show ¬ ((Value.ref l==Value.none)=true) from Bool.false_ne_true)]
 show wpAny _ _ (field (.ref it) 1 >>= _) _ _ s;refine wpAny_bind (wpAny_field ho hd (x:=.int i 0) rfl ?_)
 show wpAny _ _ (seqItems? (.ref l) >>= _) _ _ s;refine wpAny_bind (wpAny_seqItems hol hdl ?_)
 simp only[Int.toNat_natCast,hx]
 refine wpAny_bind (wpAny_rule (wpAny_bind (wpAny_setField ho hd (by simp) ?_)));show wpAny _ _ (newExc (.type "StopIteration") [] >>= _) _ _ _
 refine wpAny_bind ?_;simp only[newExc,newTuple]
 refine wpAny_bind (wpAny_newObj_type ?_ (by size_fits));refine wpAny_bind (m:=firstArgMember _ _) (wpAny_of_eq (a:=Value.none) (by first | rfl | (simp only[firstArgMember];rfl)) ?_)
 refine wpAny_newObj_type ?_ (by size_fits);simp only[raiseNew]
 refine wpAny_bind (wpAny_handled ?_);first | rw[show A.in1.handled=none from hh] | rw[hh]
 exact wpAny_bind (wpAny_pure (wpAny_throw (hE _ _ (((Heap.SameBut.update ..).extBut.push _).push _) ⟨_,Heap.get?_push_size _ rfl,rfl⟩)))
inductive Src where
 | lst (a:Addr)
 | tup (a:Addr)
 | txt (x:Str) (t:Tok)
def Src.val:Src->Value
 | .lst a=>.ref a
 | .tup a=>.ref a
 | .txt x t=>.str x t
def Src.obj:Src->Obj
 | .lst a=>{cls:=.type "list_iterator",data:=.fields #[.ref a,.int 0 0]}
 | .tup a=>{cls:=.type "tuple_iterator",data:=.fields #[.ref a,.int 0 0]}
 | .txt x t=>{cls:=.type "str_ascii_iterator",data:=.fields #[.str x t,.int 0 0]}
def Src.ok(h:Heap):Src->Prop
 | .lst a=>∃xs,h.IsList a xs
 | .tup a=>∃xs,h.IsTuple a xs
 | .txt x _=>x.cps.all (·<128)=true
def Src.at(it:Addr)(i:Nat)(h:Heap):Src->Prop
 | .lst a=>h.IsListIter it a i
 | .tup a=>h.IsTupleIter it a i
 | .txt x t=>h.IsStrIter it "str_ascii_iterator" x t i
theorem Src.iter{S:Src}{Q:Value->Shared->Prop}(h:S.ok s.heap)(hQ:Q (.ref s.heap.objs.size) {s with heap:=s.heap.push S.obj}):wpAny (model prog w) A (pyIter S.val) Q E s:=by
 cases S with
 | lst a=>obtain⟨xs,h⟩:=h;exact wpAny_pyIter_list h hQ
 | tup a=>obtain⟨xs,h⟩:=h;exact wpAny_pyIter_tuple h hQ
 | txt x t=>exact wpAny_pyIter_ascii h hQ
theorem Src.keep{S:Src}{it:Addr}{i:Nat}{h h':Heap}(q:S.at it i h)(k:∀o,h.get? it=some o->h'.get? it=some o):S.at it i h':=by
 cases S with
 | lst a=>exact Heap.IsListIter.at q k
 | tup a=>obtain⟨o,e,r⟩:=q;exact⟨o,k o e,r⟩
 | txt x t=>obtain⟨o,e,r⟩:=q;exact⟨o,k o e,r⟩
theorem Src.obj_at{S:Src}{it:Addr}{i:Nat}{h:Heap}(q:S.at it i h):∃o,h.get? it=some o/\∀v,o.data≠.cell v:=by
 cases S with
 | lst a=>obtain⟨o,e,c,d⟩:=q;exact⟨o,e,fun v z=>by rw[d] at z;cases z⟩
 | tup a=>obtain⟨o,e,c,d⟩:=q;exact⟨o,e,fun v z=>by rw[d] at z;cases z⟩
 | txt x t=>obtain⟨o,e,c,d⟩:=q;exact⟨o,e,fun v z=>by rw[d] at z;cases z⟩
theorem Src.start{S:Src}{it:Addr}{h:Heap}(q:h.get? it=some S.obj):S.at it 0 h:=by
 cases S<;>exact⟨_,q,rfl,rfl⟩
theorem Src.nx {S:Src} {it:Addr} {i:Nat} {P:Value->Prop} (hx:∀h tk,Good h tk->match S with
  | .lst a=>∃xs x,h.IsList a xs/\xs[i]?=some x/\P x
  | .tup a=>∃xs x,h.IsTuple a xs/\xs[i]?=some x/\P x
  | .txt x _=>∃c,x.cps[i]?=some c/\∀u,P (.str ⟨#[c]⟩ u)):Nx prog w A (mX s) Good it (fun h=>S.at it i h) (fun h=>S.at it (i+1) h) P where
 stay:=fun _ _ q k=>Src.keep q k
 stay':=fun _ _ q k=>Src.keep q k
 run:=fun h tk Q E gg q hQ=>by
  have z:=hx h tk gg
  cases S with
  | lst a=>obtain⟨xs,x,l,e,p⟩:=z;exact wpAny_nextOf_list_item (s:=mX s h tk) q l e fun h' q' sb=>hQ x h' tk p q' sb
  | tup a=>obtain⟨xs,x,l,e,p⟩:=z;exact bL (s:=mX s h tk) q l e fun h' q' sb=>hQ x h' tk p q' sb
  | txt x t=>obtain⟨c,e,p⟩:=z;exact wpAny_nextOf_ascii_item (s:=mX s h tk) q e fun h' q' sb=>hQ _ h' (tk+1) (p _) q' sb
theorem Src.ne {S:Src} {it:Addr} {i:Nat} (hh:A.handled=none) (hx:∀h tk,Good h tk->match S with
  | .lst a=>∃xs,h.IsList a xs/\xs[i]?=none
  | .tup a=>∃xs,h.IsTuple a xs/\xs[i]?=none
  | .txt x _=>x.cps[i]?=none):Ne prog w A (mX s) Good it (fun h=>S.at it i h) where
 stay:=fun _ _ q k=>Src.keep q k
 run:=fun h tk Q E gg q hQ=>by
  have z:=hx h tk gg
  cases S with
  | lst a=>obtain⟨xs,l,e⟩:=z;exact wpAny_nextOf_list_end (s:=mX s h tk) hh q l e hQ
  | tup a=>obtain⟨xs,l,e⟩:=z;exact br (s:=mX s h tk) hh q l e hQ
  | txt x t=>exact wpAny_nextOf_ascii_end (s:=mX s h tk) hh q z hQ
end
def Bi(h:Heap)(S T:Src):Heap:=(((h.push S.obj).push T.obj).push {cls:=.type "tuple",data:=.seq #[.ref h.objs.size,.ref (h.push S.obj).objs.size]}).push {cls:=.type "tuple",data:=.seq #[.none,.none]}
def Et(h:Heap)(S T:Src):Obj:={cls:=.type "zip",data:=.fields #[.none,.bool false,.bool false,.ref ((h.push S.obj).push T.obj).objs.size,
 .ref (((h.push S.obj).push T.obj).push {cls:=.type "tuple",data:=.seq #[.ref h.objs.size,.ref (h.push S.obj).objs.size]}).objs.size]}
theorem Src.ok_push{S T:Src}{h:Heap}(q:T.ok h):T.ok (h.push S.obj):=by
 cases T with
 | lst a=>obtain⟨xs,q⟩:=q;exact⟨xs,Heap.IsList.push q _⟩
 | tup a=>obtain⟨xs,o,e,r⟩:=q;exact⟨xs,o,Heap.get?_push_of_some _ e,r⟩
 | txt x t=>exact q
theorem jE(S T:Src):Meets (Builtin.«zip.__new__» ⟨[.type "zip",S.val,T.val],[]⟩) (fun _ R s=>S.ok s.heap/\T.ok s.heap/\R (.ok (.ret (.ref (Bi s.heap S T).objs.size))) {s with heap:=(Bi s.heap S T).push (Et s.heap S T)}):=
 .of_wp fun prog w A R s h=>by
  obtain⟨hp,g,d,tk,os⟩:=s;obtain⟨q1,q2,h⟩:=h
  have hsub:=sub_zip
  have r1:Src.ok (Shared.heap ⟨hp,g,d,tk,os⟩) S:=q1
  have r2:Src.ok (Shared.heap ⟨hp.push S.obj,g,d,tk,os⟩) T:=Src.ok_push q2
  wp_walk using Src.iter r1,Src.iter r2
  exact⟨_,rfl,h⟩
section
variable{prog:Program}{w:World}{A:Around}{E:Value->Shared->Prop}{s:Shared}
theorem DG(n:Nat):Ap (n+4) (n+2) (n+3) n (n+1):=by
 have k:∀a b:Nat,a≠b->(show Addr from a)≠(show Addr from b):=fun a b h=>h
 constructor<;>exact k _ _ (by omega)
theorem ic {S T:Src} {Q:Value->Shared->Prop} (h1:S.ok s.heap) (h2:T.ok s.heap)
    (h:∀h' z TI TO i1 i2,Ap z TI TO i1 i2->IsZip h' z TI TO .none->IsPair h' TI (.ref i1) (.ref i2)->IsPair h' TO .none .none->S.at i1 0 h'->T.at i2 0 h'->(∀c ∈ [z,TI,TO,i1,i2],s.heap.objs.size<=c) ->
      (∀c o,s.heap.get? c=some o->h'.get? c=some o)->Q (.ref z) {s with heap:=h' }):wpAny (model prog w) A (call (.type "zip") [S.val,T.val]) Q E s:=by
  refine callType_new F.called_zip (by decide) (F.typeCall_zip_2 _ _) (F.newCall_zip_2 _ _) (fun obj=>F.args_object_init_3 obj _ _) F.entry_zip_new (jE S T) ⟨h1,h2,?_⟩
  have z1:(s.heap.push S.obj).objs.size=s.heap.objs.size+1:=Heap.size_push ..
  have z2:((s.heap.push S.obj).push T.obj).objs.size=s.heap.objs.size+2:=by rw[Heap.size_push,z1]
  have z3:(((s.heap.push S.obj).push T.obj).push {cls:=.type "tuple",data:=.seq #[.ref s.heap.objs.size,.ref (s.heap.push S.obj).objs.size]}).objs.size=s.heap.objs.size+3:=by rw[Heap.size_push,z2]
  have z4:(Bi s.heap S T).objs.size=s.heap.objs.size+4:=by unfold Bi;rw[Heap.size_push,z3]
  have k1:∀c o,(s.heap.push S.obj).get? c=some o->((Bi s.heap S T).push (Et s.heap S T)).get? c=some o:=fun c o e=>Heap.get?_push_of_some _ (Heap.get?_push_of_some _ (Heap.get?_push_of_some _ (Heap.get?_push_of_some _ e)))
  have g1:=k1 _ _ (Heap.get?_push_size s.heap (o:=S.obj) (by cases S<;>rfl))
  have g2:((Bi s.heap S T).push (Et s.heap S T)).get? (s.heap.push S.obj).objs.size=some T.obj:=Heap.get?_push_of_some _ (Heap.get?_push_of_some _ (Heap.get?_push_of_some _ (Heap.get?_push_size _ (by cases T<;>rfl))))
  have g3:((Bi s.heap S T).push (Et s.heap S T)).get? ((s.heap.push S.obj).push T.obj).objs.size=some _:=Heap.get?_push_of_some _ (Heap.get?_push_of_some _ (Heap.get?_push_size _ rfl))
  have g4:((Bi s.heap S T).push (Et s.heap S T)).get? (((s.heap.push S.obj).push T.obj).push {cls:=.type "tuple",data:=.seq #[.ref s.heap.objs.size,.ref (s.heap.push S.obj).objs.size]}).objs.size=some _:=Heap.get?_push_of_some _ (Heap.get?_push_size _ rfl)
  have g5:((Bi s.heap S T).push (Et s.heap S T)).get? (Bi s.heap S T).objs.size=some _:=Heap.get?_push_size _ rfl
  refine⟨⟨_,g5,rfl⟩,h _ _ _ _ _ _ ?_ g5 g3 g4 (Src.start g1) (Src.start g2) ?_ fun c o e=>k1 c o (Heap.get?_push_of_some _ e)⟩
  · rw[z4,z3,z2,z1]
    exact DG _
  · rw[z4,z3,z2,z1]
    intro c hc
    simp only[List.mem_cons,List.not_mem_nil,or_false] at hc
    rcases hc with rfl | rfl | rfl | rfl | rfl
    · exact Nat.le_add_right _ 4
    · exact Nat.le_add_right _ 2
    · exact Nat.le_add_right _ 3
    · exact Nat.le_refl _
    · exact Nat.le_add_right _ 1
end
end HW
namespace HW
open PySem PySem.Spec PyProof.Rows L2
def Src.go(K:W.Frag)(i:Nat)(H:Hp)(v:V):Src->Prop
 | .lst a=>∃xs,nO K H a xs/\xs[i]?=some v
 | .tup a=>∃xs,mG K H a xs/\xs[i]?=some v
 | .txt x _=>∃c,x.cps[i]?=some c/\v=.str ⟨#[c]⟩
def Src.stop(K:W.Frag)(i:Nat)(H:Hp):Src->Prop
 | .lst a=>∃xs,nO K H a xs/\xs.length<=i
 | .tup a=>∃xs,mG K H a xs/\xs.length<=i
 | .txt x _=>x.cps.size<=i
section
variable{X:Cx}{pins:List (Addr×Obj)}{σ:L2.St}{H:Hp}{s:Shared}{S:Src}{i:Nat}{v:V}
theorem eE{A:Around}{it:Addr}(q:S.go X.K i H v):Nx X.prog X.w A (mX s) (fun h tk=>L2.Inv X pins σ H (mX s h tk)) it (fun h=>S.at it i h) (fun h=>S.at it (i+1) h) (RelV v):=by
 refine Src.nx fun h tk I=>?_
 cases S with
 | lst a =>
  obtain⟨xs,hq,hx⟩:=q
  obtain⟨its,rv,p,hz⟩:=I.list hq
  obtain⟨u,hu,ru⟩:=rv.get hx
  exact⟨_,u,p.isList,by simpa using hu,ru⟩
 | tup a =>
  obtain⟨xs,hq,hx⟩:=q
  obtain⟨its,rv,p,hz⟩:=I.tuple hq
  obtain⟨u,hu,ru⟩:=rv.get hx
  exact⟨its.toArray,u,p,by simpa using hu,ru⟩
 | txt x t =>
  obtain⟨c,hc,e⟩:=q
  subst e
  exact⟨c,hc,fun u=>⟨u,rfl⟩⟩
theorem jT{A:Around}{it:Addr}(hh:A.handled=none)(q:S.stop X.K i H):Ne X.prog X.w A (mX s) (fun h tk=>L2.Inv X pins σ H (mX s h tk)) it (fun h=>S.at it i h):=by
 refine Src.ne hh fun h tk I=>?_
 cases S with
 | lst a =>
  obtain⟨xs,hq,hx⟩:=q
  obtain⟨its,rv,p,hz⟩:=I.list hq
  have hl:=rv.length
  exact⟨_,p.isList,by simp;omega⟩
 | tup a =>
  obtain⟨xs,hq,hx⟩:=q
  obtain⟨its,rv,p,hz⟩:=I.tuple hq
  have hl:=rv.length
  exact⟨its.toArray,p,by simp;omega⟩
 | txt x t=>exact Array.getElem?_eq_none q
end
section
variable{X:Cx}
theorem fZ:E8 X (.builtin "len") rK:=uR.imp fun xs H Q ⟨ds,d,r,e,q⟩=>by
 match ds,e with
 | [.str x],e =>
  simp only[rK] at e
  split at e
  ·rename_i hz
   cases e
   obtain⟨v,r',rfl,r1,r2⟩:=r
   cases (show v=_ from r1)
   cases (show r'=[] from r2)
   exact⟨x,rfl,hz,q _ H (ku.refl H) rfl⟩
  ·cases e
def z_(K:W.Frag)(H:Hp)(ds:LD):Src->Prop
 | .lst a=>∃xs,nO K H a xs/\i9 K H ds xs
 | .tup a=>∃xs,mG K H a xs/\i9 K H ds xs
 | .txt x _=>ds=chars x
theorem zg{x:Str}{i:Nat}{d:D}(e:(chars x)[i]?=some d):∃c,x.cps[i]?=some c/\d=.str ⟨#[c]⟩:=by
 unfold chars at e
 rw[List.getElem?_map] at e
 obtain⟨c,e1,e⟩:=lK e
 exact⟨c,by simpa using e1,e.symm⟩
theorem yz{K:W.Frag}{H H2:Hp}{ds:LD}{S:Src}{i:Nat}{d:D}(h:z_ K H ds S)(k:Kp H H2)(e:ds[i]?=some d):∃v,S.go K i H2 v/\Rep K H2 d v:=by
 cases S with
 | lst a =>
  obtain⟨xs,hq,t⟩:=h
  obtain⟨v,h1,h2⟩:=t.get e
  exact⟨v,⟨xs,k.seq hq,h1⟩,h2.kp k⟩
 | tup a =>
  obtain⟨xs,hq,t⟩:=h
  obtain⟨v,h1,h2⟩:=t.get e
  exact⟨v,⟨xs,k.tup hq,h1⟩,h2.kp k⟩
 | txt x t =>
  cases (show ds=_ from h)
  obtain⟨c,h1,rfl⟩:=zg e
  exact⟨_,⟨c,h1,rfl⟩,rfl⟩
theorem yY{K:W.Frag}{H H2:Hp}{ds:LD}{S:Src}{i:Nat}(h:z_ K H ds S)(k:Kp H H2)(e:ds.length<=i):S.stop K i H2:=by
 cases S with
 | lst a=>obtain⟨xs,hq,t⟩:=h;exact⟨xs,k.seq hq,by rw[<- t.length];exact e⟩
 | tup a=>obtain⟨xs,hq,t⟩:=h;exact⟨xs,k.tup hq,by rw[<- t.length];exact e⟩
 | txt x t =>
  cases (show ds=_ from h)
  have hl:(chars x).length=x.cps.size:=by simp[chars]
  rw[hl] at e
  exact e
theorem iB{pins:List (Addr×Obj)}{σ:L2.St}{H:Hp}{s:Shared}{x:D}{v:V}{u:Value}{xs:LD}(I:L2.Inv X pins σ H s)(e:kP? x=some xs)(r:Rep X.K H x v)(ru:RelV v u) :
  ∃S:Src,u=S.val/\S.ok s.heap/\z_ X.K H xs S:=by
 cases x with
 | tup ds =>
  cases e
  obtain⟨a,vs,rfl,hq,t⟩:=r
  cases (show u=_ from ru)
  obtain⟨its,rv,p,hz⟩:=I.tuple hq
  exact⟨.tup a,rfl,⟨its.toArray,p⟩,vs,hq,t⟩
 | lst ds =>
  cases e
  obtain⟨a,vs,rfl,hq,t⟩:=r
  cases (show u=_ from ru)
  obtain⟨its,rv,p,hz⟩:=I.list (nO.of hq)
  exact⟨.lst a,rfl,⟨_,p.isList⟩,vs,nO.of hq,t⟩
 | str z =>
  replace e:(if z.cps.all (·<128) then some (chars z) else none)=some xs:=e
  split at e
  ·rename_i hz
   cases e
   cases (show v=_ from r)
   obtain⟨t,rfl⟩:=ru
   exact⟨.txt z t,rfl,hz,rfl⟩
  ·cases e
 | _=>cases e
end
end HW
namespace HW
open PySem
def DA:List (Str×D)->Str->OD
 | [],_=>none
 | p::r,x=>if p.1=x then some p.2 else DA r x
@[simp] def kA (F:R->Option LD):R->List (Str×D)->Option LD:=fun ρ _=>F ρ
end HW
namespace L2
open PySem PySem.Spec PyProof.Rows
section
variable{κ:Type}[DecidableEq κ]
def m7(kvs:List (κ×V))(k:κ):Option V:=(kvs.find? fun kv=>decide (kv.1=k)).map (·.2)
def putK(kvs:List (κ×V))(k:κ)(v:V):List (κ×V):=
 if (kvs.any fun kv=>decide (kv.1=k))=true then kvs.map (fun kv=>if kv.1=k then (kv.1,v) else kv) else kvs++[(k,v)]
def CO(kvs:List (κ×V))(k:κ):List (κ×V):=kvs.filter fun kv=>decide (kv.1≠k)
theorem qk{p:κ×V}{r:List (κ×V)}{k:κ}(e:p.1=k):m7 (p::r) k=some p.2:=by simp[m7,List.find?_cons,e]
theorem qC{p:κ×V}{r:List (κ×V)}{k:κ}(e:¬ p.1=k):m7 (p::r) k=m7 r k:=by simp[m7,List.find?_cons,e]
theorem sM(k:κ):∀kvs:List (κ×V),(kvs.any fun kv=>decide (kv.1=k))=(m7 kvs k).isSome
 | []=>rfl
 | p::r=>by
  rw[List.any_cons]
  by_cases e:p.1=k
  ·simp only[qk e,decide_eq_true e,Bool.true_or,Option.isSome_some]
  ·rw[qC e,decide_eq_false e,Bool.false_or];exact sM k r
theorem rA(kvs:List (κ×V))(k:κ)(v:V):(putK kvs k v).length<=kvs.length+1:=by
 unfold putK
 split
 ·rw[List.length_map];omega
 ·rw[List.length_append,List.length_cons,List.length_nil];omega
theorem AE{kvs:List (κ×V)}{k:κ}(v:V)(h:m7 kvs k=none):putK kvs k v=kvs++[(k,v)]:=by
 unfold putK
 rw[sM,h]
 exact if_neg (by decide)
theorem rM.isSome_eq{o:Option V}{u:Option Value}(r:rM o u):o.isSome=u.isSome:=by
 cases o with
 | none=>cases u with
  | none=>rfl
  | some _=>exact(show False from r).elim
 | some _=>cases u with
  | none=>exact(show False from r).elim
  | some _=>rfl
theorem rM.getD{o:Option V}{u:Option Value}{d:V}{d':Value}(r:rM o u)(rd:RelV d d'):RelV (o.getD d) (u.getD d'):=by
 cases o with
 | none=>cases u with
  | none=>exact rd
  | some _=>exact(show False from r).elim
 | some _=>cases u with
  | none=>exact(show False from r).elim
  | some _=>exact r
theorem KV.val{kvs:List (κ×V)}{vs:List (κ×Value)}(r:KV kvs vs)(k:κ):rM (m7 kvs k) (valueAt vs k):=by
 unfold KV at r
 induction r with
 | nil=>exact True.intro
 | @cons p q ps qs h t ih =>
  obtain⟨h1,h2⟩:=h
  by_cases e:p.1=k
  ·have e':q.1=k:=h1.symm.trans e
   have b:valueAt (q::qs) k=some q.2:=by simp[valueAt,List.find?_cons,e']
   rw[qk e,b];exact h2
  ·have e':¬ q.1=k:=fun z=>e (h1.trans z)
   have b:valueAt (q::qs) k=valueAt qs k:=by simp[valueAt,List.find?_cons,e']
   rw[qC e,b];exact ih
theorem KV.any{kvs:List (κ×V)}{vs:List (κ×Value)}(r:KV kvs vs)(k:κ):(kvs.any fun kv=>decide (kv.1=k))=vs.any fun kv=>decide (kv.1=k):=by
 unfold KV at r
 induction r with
 | nil=>rfl
 | cons h t ih=>rw[List.any_cons,List.any_cons,ih,h.1]
theorem KV.repl{kvs:List (κ×V)}{vs:List (κ×Value)}(r:KV kvs vs)(k:κ){y:V}{u:Value}(ry:RelV y u) :
  KV (kvs.map fun kv=>if kv.1=k then (kv.1,y) else kv) (vs.map fun kv=>if kv.1=k then (kv.1,u) else kv):=by
 unfold KV at r ⊢
 induction r with
 | nil=>exact .nil
 | @cons p q ps qs h t ih =>
  rw[List.map_cons,List.map_cons]
  refine .cons ?_ ih
  obtain⟨h1,h2⟩:=h
  by_cases e:p.1=k
  ·rw[if_pos e,if_pos (h1.symm.trans e)];exact⟨h1,ry⟩
  ·rw[if_neg e,if_neg (fun z=>e (h1.trans z))];exact⟨h1,h2⟩
theorem KV.put{kvs:List (κ×V)}{vs:List (κ×Value)}(r:KV kvs vs)(k:κ){y:V}{u:Value}(ry:RelV y u):KV (putK kvs k y) (stored vs k u):=by
 unfold putK stored
 rw[r.any k]
 by_cases e:(vs.any fun kv=>decide (kv.1=k))=true
 ·rw[if_pos e,if_pos e];exact r.repl k ry
 ·rw[if_neg e,if_neg e];exact Paired.snoc r ⟨rfl,ry⟩
theorem KV.drop{kvs:List (κ×V)}{vs:List (κ×Value)}(r:KV kvs vs)(k:κ):KV (CO kvs k) (without vs k):=by
 unfold KV at r ⊢
 unfold CO without
 induction r with
 | nil=>exact .nil
 | @cons p q ps qs h t ih =>
  obtain⟨h1,h2⟩:=h
  rw[List.filter_cons,List.filter_cons]
  by_cases e:p.1=k
  ·have a:¬ decide (p.1≠k)=true:=by simp[e]
   have b:¬ decide (q.1≠k)=true:=by simp[h1.symm.trans e]
   rw[if_neg a,if_neg b];exact ih
  ·have e':¬ q.1=k:=fun z=>e (h1.trans z)
   have a:decide (p.1≠k)=true:=by simp[e]
   have b:decide (q.1≠k)=true:=by simp[e']
   rw[if_pos a,if_pos b];exact .cons ⟨h1,h2⟩ ih
theorem KV.keys{kvs:List (κ×V)}{vs:List (κ×Value)}(r:KV kvs vs):kvs.map (·.1)=vs.map (·.1):=by
 unfold KV at r
 induction r with
 | nil=>rfl
 | cons h t ih=>rw[List.map_cons,List.map_cons,ih,h.1]
theorem KV.length{kvs:List (κ×V)}{vs:List (κ×Value)}(r:KV kvs vs):kvs.length=vs.length:=Paired.length r
end
theorem wj{P:Program}{w:World}{k:Key}{u:Value}(r:RelV (kV k) u):(kJ P w).is k u=true:=by
 cases k with
 | inl i=>obtain⟨t,e⟩:=(show ∃t,u=Value.int i t from r);subst e;exact v5 P w i t
 | inr x=>obtain⟨t,e⟩:=(show ∃t,u=Value.str x t from r);subst e;exact wt P w x t
theorem qZ{P:Program}{w:World}:∀{ks:List Key} {us:List Value},kM (ks.map kV) us->ItemsAre (kJ P w) ks us
 | [],_,r=>by rw[List.map_nil] at r;cases r;exact .nil
 | k::ks,_,r=>by
  rw[List.map_cons] at r
  cases r with
  | cons h t=>exact .cons (wj h) (qZ t)
abbrev KT(H:Hp):List (List Key×V)->List (List Key×Addr×Value)->Prop:=Paired fun p q=>p.1=q.1/\H q.2.1=some (.tup (p.1.map kV))/\RelV p.2 q.2.2
theorem KT.val{H:Hp}{kvs:List (List Key×V)}{xs:List (List Key×Addr×Value)}(r:KT H kvs xs)(k:List Key):rM (m7 kvs k) ((atKey xs k).map (·.2)):=by
 induction r with
 | nil=>exact True.intro
 | @cons p q ps qs h t ih =>
  obtain⟨h1,_,h2⟩:=h
  by_cases e:p.1=k
  ·have e':q.1=k:=h1.symm.trans e
   have b:atKey (q::qs) k=some q.2:=by simp[atKey,List.find?_cons,e']
   rw[qk e,b];exact h2
  ·have e':¬ q.1=k:=fun z=>e (h1.trans z)
   have b:atKey (q::qs) k=atKey qs k:=by simp[atKey,List.find?_cons,e']
   rw[qC e,b];exact ih
theorem KT.repl{H:Hp}{kvs:List (List Key×V)}{xs:List (List Key×Addr×Value)}(r:KT H kvs xs)(k:List Key){y:V}{u:Value}(ry:RelV y u) :
  KT H (kvs.map fun kv=>if kv.1=k then (kv.1,y) else kv) (xs.map (putAt k u)):=by
 induction r with
 | nil=>exact .nil
 | @cons p q ps qs h t ih =>
  rw[List.map_cons,List.map_cons]
  refine .cons ?_ ih
  obtain⟨h1,h2,h3⟩:=h
  unfold putAt
  by_cases e:p.1=k
  ·rw[if_pos e,if_pos (h1.symm.trans e)];exact⟨h1,h2,ry⟩
  ·rw[if_neg e,if_neg (fun z=>e (h1.trans z))];exact⟨h1,h2,h3⟩
theorem KT.put{H:Hp}{kvs:List (List Key×V)}{xs:List (List Key×Addr×Value)}(r:KT H kvs xs)(k:List Key){b:Addr}{y:V}{u:Value}(hb:H b=some (.tup (k.map kV)))(ry:RelV y u) :
  KT H (putK kvs k y) (storedH xs k b u):=by
 have e:(kvs.any fun kv=>decide (kv.1=k))=(atKey xs k).isSome:=by
  rw[sM,(r.val k).isSome_eq,Option.isSome_map]
 unfold putK storedH
 rw[e]
 by_cases q:(atKey xs k).isSome=true
 ·rw[if_pos q,if_pos q];exact r.repl k ry
 ·rw[if_neg q,if_neg q];exact Paired.snoc r ⟨rfl,hb,ry⟩
theorem KT.keeps{H H':Hp}{kvs:List (List Key×V)}{xs:List (List Key×Addr×Value)}(r:KT H kvs xs)(ht:∀b ys,H b=some (.tup ys)->H' b=some (.tup ys)):KT H' kvs xs:=
 Paired.mapP r fun _ _ z=>⟨z.1,ht _ _ z.2.1,z.2.2⟩
section
variable{P:Program}{w:World}{H:Hp}{h:Heap}{a:Addr}
theorem CY{u:HO}(ok:pL P w H h)(e:Rd H a u):lF P w H h a u:=e.ok ok
theorem fT{kvs:List (Key×V)}(ok:pL P w H h)(e:Rd H a (.dK kvs)):kvs.length<=sizeLine/\(a==sysModules)=false/\∃vs,KV kvs vs/\h.DictOf (kJ P w) a vs:=
 show lF P w H h a (.dK kvs) from CY ok e
theorem jJ{kvs:List (Key×V)}(ok:pL P w H h)(e:H a=some (.dK kvs)):kvs.length<=sizeLine/\(a==sysModules)=false/\∃vs,KV kvs vs/\h.DictOf (kJ P w) a vs:=fT ok (.inl e)
theorem u9{ks:List Key}(ok:pL P w H h)(e:H a=some (.tup (ks.map kV))):(tupleKind (kJ P w)).is h ks a:=by
 obtain⟨_,its,r,o,h1,h2,⟨n,h3⟩,_⟩:=(show lF P w H h a (.tup (ks.map kV)) from ok a _ e)
 exact⟨o,its.toArray,n,h1,h2,h3,by simpa using qZ r⟩
theorem gj{kvs:List (List Key×V)}(ok:pL P w H h)(e:Rd H a (.dT kvs)):kvs.length<=sizeLine/\(a==sysModules)=false /\
  ∃xs,KT H kvs xs/\h.DictOfH (tupleKind (kJ P w)) a xs:=by
 obtain⟨z,y,xs,r,o,es,ep,h1,h2,h3,h4,h5⟩:=(show lF P w H h a (.dT kvs) from CY ok e)
 refine⟨z,y,xs,r,o,es,ep,h1,h2,h3,h4,fun x hx=>?_,h5⟩
 have all:∀{l:List (List Key×V)} {m:List (List Key×Addr×Value)},KT H l m->∀x∈m,(tupleKind (kJ P w)).is h x.1 x.2.1:=by
  intro l m q
  induction q with
  | nil=>intro x hx;exact nomatch hx
  | @cons p q ps qs hq t ih =>
   intro x hx
   rcases List.mem_cons.mp hx with e | hx
   ·subst e
    exact u9 ok (by rw[<- hq.1];exact hq.2.1)
   ·exact ih x hx
 exact all r x hx
theorem kj{kvs:List (List Key×V)}(ok:pL P w H h)(e:H a=some (.dT kvs)):kvs.length<=sizeLine/\(a==sysModules)=false /\
  ∃xs,KT H kvs xs/\h.DictOfH (tupleKind (kJ P w)) a xs:=gj ok (.inl e)
end
def sF(H:Hp)(a:Addr)(y:V)(r:Option V):Prop:=
 (∃kvs k,Rd H a (.dK kvs)/\y=kV k/\r=m7 kvs k)\/∃kvs k b,Rd H a (.dT kvs)/\y=.ref b/\H b=some (.tup (k.map kV))/\r=m7 kvs k
def xI(H:Hp)(a:Addr)(y v:V)(H':Hp):Prop:=
 (∃kvs k,H a=some (.dK kvs)/\y=kV k/\kvs.length<sizeLine/\H'=upd H a (.dK (putK kvs k v))) \/
 ∃kvs k b,H a=some (.dT kvs)/\y=.ref b/\H b=some (.tup (k.map kV))/\kvs.length<sizeLine/\H'=upd H a (.dT (putK kvs k v))
theorem sF.k{H:Hp}{a:Addr}{kvs:List (Key×V)}{k:Key}(e:H a=some (.dK kvs)):sF H a (kV k) (m7 kvs k):=.inl ⟨kvs,k,.inl e,rfl,rfl⟩
theorem sF.t{H:Hp}{a b:Addr}{kvs:List (List Key×V)}{k:List Key}(e:H a=some (.dT kvs))(eb:H b=some (.tup (k.map kV))):sF H a (.ref b) (m7 kvs k):=.inr ⟨kvs,k,b,.inl e,rfl,eb,rfl⟩
theorem xI.k{H:Hp}{a:Addr}{kvs:List (Key×V)}{k:Key}{v:V}(e:H a=some (.dK kvs))(hl:kvs.length<sizeLine):xI H a (kV k) v (upd H a (.dK (putK kvs k v))):=.inl ⟨kvs,k,e,rfl,hl,rfl⟩
theorem xI.t{H:Hp}{a b:Addr}{kvs:List (List Key×V)}{k:List Key}{v:V}(e:H a=some (.dT kvs))(eb:H b=some (.tup (k.map kV)))(hl:kvs.length<sizeLine) :
  xI H a (.ref b) v (upd H a (.dT (putK kvs k v))):=.inr ⟨kvs,k,b,e,rfl,eb,hl,rfl⟩
section
variable{X:Cx}{pins:List (Addr×Obj)}{σ:St}{H:Hp}{s:Shared}{a:Addr}{y v:V}{u r:Value}{o:Option V}{A:Around}{E:Value->Shared->Prop}
theorem Inv.big(I:Inv X pins σ H s):sysModules<s.heap.objs.size:=by
 have h:mainGlobals<s.heap.objs.size:=(I.mod.glob.keeps I.bk).lt
 exact Nat.lt_trans (by decide) h
theorem gz{Q:Value->Shared->Prop}(hu:A.units+1<cLine)(I:Inv X pins σ H s)(g:sF H a y (some v))(ry:RelV y u)(h:∀w' s',Inv X pins σ H s'->RelV v w'->Q w' s') :
  wpAny (model X.prog X.w) A (getItem (.ref a) u) Q E s:=by
 rcases g with ⟨kvs,k,e,ey,l⟩ | ⟨kvs,k,b,e,ey,eb,l⟩
 ·subst ey
  obtain⟨z,hd,vs,rel,dd⟩:=fT I.hok e
  obtain⟨w',hw,rw'⟩:=rM.some_of (v:=v) (o:=valueAt vs k) (by rw[l];exact rel.val k)
  exact wpAny_getItem_of (wj ry) dd.mapOf hw (h w' _ (I.tok _) rw')
 ·subst ey
  cases (show u=Value.ref b from ry)
  obtain⟨z,hd,xs,rel,dd⟩:=gj I.hok e
  obtain⟨w',hw,rw'⟩:=rM.some_of (v:=v) (o:=(atKey xs k).map (·.2)) (by rw[l];exact rel.val k)
  obtain⟨p,hp,hp2⟩:=Option.map_eq_some_iff.mp hw
  refine wpAny_getItem_heap (tupleKind_room_in1 hu) (u9 I.hok eb) dd hp ?_
  rw[hp2]
  exact h w' _ (I.tok _) rw'
theorem jv{Q:Value->Shared->Prop}(hu:A.units+1<cLine)(I:Inv X pins σ H s)(g:sF H a y o)(ry:RelV y u)(h:∀s',Inv X pins σ H s'->Q (.bool (!o.isSome)) s') :
  wpAny (model X.prog X.w) A (compareOp .NotIn u (.ref a)) Q E s:=by
 rcases g with ⟨kvs,k,e,ey,l⟩ | ⟨kvs,k,b,e,ey,eb,l⟩
 ·subst ey
  obtain⟨z,hd,vs,rel,dd⟩:=fT I.hok e
  refine wpAny_notIn_of (wj ry) hd dd.mapOf ?_
  rw[<- (rel.val k).isSome_eq,<- l]
  exact h _ (I.tok _)
 ·subst ey
  cases (show u=Value.ref b from ry)
  obtain⟨z,hd,xs,rel,dd⟩:=gj I.hok e
  refine wpAny_notIn_heap (tupleKind_room_in1 hu) (u9 I.hok eb) hd dd ?_
  have q:=(rel.val k).isSome_eq
  rw[Option.isSome_map] at q
  rw[<- q,<- l]
  exact h _ (I.tok _)
theorem cI{h':Heap}{t':Nat}{ob:HO}(I:Inv X pins σ H s)(mu:EW (H a))(hs:Heap.SameBut a s.heap h')(he:∃q,h'.get? a=some q)(new:lF X.prog X.w (upd H a ob) h' a ob) :
  Inv X pins σ (upd H a ob) {s with heap:=h',toks:=t' }:=
 I.write (x:=a) (e:=a) mu (.inl rfl) (fun b q hb z=>(hs.2 b hb).trans z) he new
theorem ia{P:Program}{w:World}{H':Hp}{h':Heap}{kvs:List (Key×V)}{vs:List (Key×Value)}(z:kvs.length<=sizeLine)(hd:(a==sysModules)=false)(rel:KV kvs vs)(dd:h'.DictOf (kJ P w) a vs) :
  lF P w H' h' a (.dK kvs):=⟨z,hd,vs,rel,dd⟩
theorem gv{H':Hp}{Q:Unit->Shared->Prop}(hu:A.units+1<cLine)(I:Inv X pins σ H s)(g:xI H a y v H')(ry:RelV y u)(rv:RelV v r)(h:∀s',Inv X pins σ H' s'->Q () s') :
  wpAny (model X.prog X.w) A (setItem (.ref a) u r) Q E s:=by
 rcases g with ⟨kvs,k,e,ey,l,eH⟩ | ⟨kvs,k,b,e,ey,eb,l,eH⟩
 ·subst ey eH
  obtain⟨z,hd,vs,rel,dd⟩:=jJ I.hok e
  have hz:vs.length<=sizeLine:=by rw[<- rel.length];exact z
  have hl:(putK kvs k v).length<=sizeLine:=by have:=rA kvs k v;omega
  refine wpAny_setItem_pairs (hsz:=hz) (wj ry) dd fun h' dd' hs=>h _ ?_
  have he:∃q,h'.get? a=some q:=let ⟨q,_,_,hq,_⟩:=dd';⟨q,hq⟩
  exact cI I (by rw[e];exact True.intro) hs he (ia hl hd (rel.put k rv) dd')
 ·subst ey eH
  cases (show u=Value.ref b from ry)
  obtain⟨z,hd,xs,rel,dd⟩:=kj I.hok e
  have hz:xs.length<=sizeLine:=by rw[<- Paired.length rel];exact z
  have hl:(putK kvs k v).length<=sizeLine:=by have:=rA kvs k v;omega
  refine wpAny_setItem_heap (hsz:=hz) (tupleKind_room_in1 hu) (u9 I.hok eb) dd fun h' dd' hs=>h _ ?_
  obtain⟨q,es,ep,hq,h2,h3,h4,_,h5⟩:=dd'
  refine cI I (by rw[e];exact True.intro) hs ⟨q,hq⟩ ⟨hl,hd,_,(rel.put k eb rv).keeps fun c ys ec=>?_,q,es,ep,hq,h2,h3,h4,h5⟩
  rw[aj (CS ec e (fun z=>nomatch z))]
  exact ec
end
section
variable{X:Cx}{pins:List (Addr×Obj)}{σ:St}{H:Hp}{s:Shared}{a:Addr}{kvs:List (Key×V)}{k:Key}{u:Value}{A:Around}{E:Value->Shared->Prop}
end
def Eg(i:Expr):Prop:=∀ov iv,subscripted i false ov iv=operate [ov,iv] (getItem ov iv)
theorem yr{prog:Program}{w:World}{A:Around}{E:Value->Shared->Prop}{s:Shared}{env:Env}{value slice:Expr}{pos:Pos}{T id:String}{Q:Value->Shared->Prop}
  (hl:typeLookup (.type T) "__getitem__" = pure (some (.builtin id))) (hs:Eg slice)
  (h:wpAny (model prog w) A (eval value env) (fun o s₁=>wpAny (model prog w) A (eval slice env) (fun i s₂=>s₂.TypeIs o T/\wpAny (model prog w) A (getItem o i) Q E s₂) E s₁) E s) :
  wpAny (model prog w) A (eval (.Subscript value slice pos) env) Q E s:=by
 refine Subscript_ (wpAny_mono h (fun o s₁ h₁=>wpAny_mono h₁ (fun i s₂ h₂=>?_) fun _ _ x=>x) fun _ _ x=>x)
 obtain⟨hT,h₂⟩:=h₂
 unfold subscriptTail
 refine wpAny_bind ?_
 rw[getitemInPython_of_ne hT.not_modules]
 refine wpAny_bind (wpAny_specialOf hT hl ?_)
 have fin:wpAny (model prog w) A (subscripted slice false o i) (fun r s₃=>wpAny (model prog w) A (letTemporaryGo value o r >>= fun _=>pure r) Q E s₃) E s₂:=by
  rw[hs o i]
  exact wpAny_operating (wpAny_mono h₂ (fun r s₃ h₃=>wpAny_bind (wpAny_letTemporaryGo (wpAny_pure h₃))) fun _ _ x=>x)
 first
  | exact wpAny_pure (wpAny_bind fin)
  | exact wpAny_bind (wpAny_pure (wpAny_bind fin))
  | exact wpAny_bind fin
theorem vM{X:Cx}{pins:List (Addr×Obj)}{σ:St}{H:Hp}{s:Shared}{a:Addr}{y:V}{o:Option V}(I:Inv X pins σ H s)(g:sF H a y o):s.TypeIs (.ref a) "dict":=by
 rcases g with ⟨kvs,k,e,_,_⟩ | ⟨kvs,k,b,e,_,_,_⟩
 ·obtain⟨_,_,vs,_,dd⟩:=fT I.hok e
  exact dd.typeIs
 ·obtain⟨_,_,xs,_,dd⟩:=gj I.hok e
  exact dd.typeIs
section
variable{X:Cx}{o i e value:Expr}{pos pos' tpos:Pos}{td ty tv:TE}
end
theorem iM{P:Program}{w:World}{H:Hp}(h:Heap)(hb:sysModules<h.objs.size):lF P w H (h.push {cls:=.type "dict",data:=.dict #[]}) h.objs.size (.dK []):=
 ⟨Nat.zero_le _,beq_eq_false_iff_ne.mpr (Ne.symm (Nat.ne_of_lt hb)),[],.nil,Heap.DictOf.new h⟩
section
variable{X:Cx}{pos:Pos}
end
def xF:List (TE×TE)->St->Hp->(List (V×V)->Hp->Prop)->Prop
 | [],_,H,Q=>Q [] H
 | (tk,tv)::r,σ,H,Q=>tk σ H fun x H1=>tv σ H1 fun y H2=>xF r σ H2 fun ps H3=>Q ((x,y)::ps) H3
abbrev VV:List (V×V)->List (Value×Value)->Prop:=Paired fun p q=>RelV p.1 q.1/\RelV p.2 q.2
def GI(X:Cx)(pos:Pos)(keys:List (Option Expr))(values:List Expr)(trs:List (TE×TE)):Prop:=
 ∀(pins:List (Addr×Obj)) (s:Shared) (σ:St) (H:Hp) (Q:List (V×V)->Hp->Prop),Inv X pins σ H s->xF trs σ H Q ->
  wpAny (model X.prog X.w) X.A (evalPairs (pairTrees keys values X.env pos)) (fun vs s'=>∃ps H',Inv X pins σ H' s'/\VV ps vs/\Q ps H') X.xe s
theorem Cg{X:Cx}{pos:Pos}:GI X pos [] [] []:=fun pins s σ H Q I h=>pairTrees_nil_walk ⟨[],H,I,.nil,h⟩
theorem Az{X:Cx}{pos:Pos}{k v:Expr}{ks:List (Option Expr)}{vs:List Expr}{tk tv:TE}{trs:List (TE×TE)}(hk:PE X k tk)(hv:PE X v tv)(hr:GI X pos ks vs trs) :
  GI X pos (some k::ks) (v::vs) ((tk,tv)::trs):=fun pins s σ H Q I h =>
 pairTrees_cons_walk (lA (hk pins s σ H _ I h) fun u s1 ⟨x,H1,I1,rx,q1⟩=>lA (hv pins s1 σ H1 _ I1 q1) fun w2 s2 ⟨y,H2,I2,ry,q2⟩ =>
  lA (hr pins s2 σ H2 _ I2 q2) fun ws s3 ⟨ps,H3,I3,rel,q3⟩=>⟨(x,y)::ps,H3,I3,.cons ⟨rx,ry⟩ rel,q3⟩)
section
variable{X:Cx}{pins:List (Addr×Obj)}{σ:St}{H:Hp}{s:Shared}{a:Addr}{y d:V}{u r:Value}{o:Option V}{A:Around}{E:Value->Shared->Prop}
end
section
variable{X:Cx}{o e f:Expr}{apos cpos:Pos}{td ty tx:TE}
end
section
variable{X:Cx}{pins:List (Addr×Obj)}{σ:St}{H:Hp}{s:Shared}{a:Addr}{kvs:List (Key×V)}{A:Around}{E:Value->Shared->Prop}
end
section
variable{X:Cx}{pins:List (Addr×Obj)}{σ:St}{H:Hp}{s:Shared}{a:Addr}{y:V}{u:Value}{A:Around}{E:Value->Shared->Prop}
end
end L2
namespace HW
open PySem PySem.Spec PyProof.Rows L2
def t5(P:Program)(w:World)(a:Addr)(kvs:List (Key×V)):HO:=.ext fun h=>kvs.length<=sizeLine/\(a==sysModules)=false/\∃vs,KV kvs vs/\h.DictOf (kJ P w) a vs
section
variable{X:Cx}{pins:List (Addr×Obj)}{σ:L2.St}{H:Hp}{s:Shared}{a:Addr}{kvs:List (Key×V)}
theorem fO(I:L2.Inv X pins σ H s)(h:H a=some (t5 X.prog X.w a kvs)):kvs.length<=sizeLine/\(a==sysModules)=false/\∃vs,KV kvs vs/\s.heap.DictOf (kJ X.prog X.w) a vs:=(I.hok a _ h).1
theorem rY(I:L2.Inv X pins σ H s)(h:H a=some (.dK kvs)):L2.Inv X pins σ (upd H a (t5 X.prog X.w a kvs)) s:=by
 obtain⟨z,y,vs,r,ob,es,ep,e,c⟩:=I.hok a _ h
 have:=I.write (t':=s.toks) (h':=s.heap) (o:=t5 X.prog X.w a kvs) (x:=a) (e:=a) (by rw[h];trivial) (.inl rfl) (fun _ _ _ q=>q) ⟨_,e⟩ ⟨⟨z,y,vs,r,ob,es,ep,e,c⟩,⟨_,e⟩,fun h1 h2 ⟨z,y,vs,r,ob,es,ep,e,c⟩ k=>⟨z,y,vs,r,ob,es,ep,k _ e,c⟩⟩
 exact this
theorem AL(I:L2.Inv X pins σ H s)(h:H a=some (t5 X.prog X.w a kvs)):L2.Inv X pins σ (upd H a (.dK kvs)) s:=by
 obtain⟨z,y,vs,r,ob,es,ep,e,c⟩:=fO I h
 have:=I.write (t':=s.toks) (h':=s.heap) (o:=.dK kvs) (x:=a) (e:=a) (by rw[h];trivial) (.inl rfl) (fun _ _ _ q=>q) ⟨_,e⟩ ⟨z,y,vs,r,ob,es,ep,e,c⟩
 exact this
end
def oE(K:W.Frag)(H:Hp):List (Str×D)->List (Key×V)->Prop
 | [],vs=>vs=[]
 | p::r,vs=>∃v t,vs=(.inr p.1,v)::t/\Rep K H p.2 v/\oE K H r t
section
variable{K:W.Frag}{H H':Hp}
theorem oE.kp(s:Kp H H'):∀{ds:List (Str×D)} {vs:List (Key×V)},oE K H ds vs->oE K H' ds vs
 | [],_,h=>h
 | p::r,_,h=>by
  obtain⟨v,t,e,q,w⟩:=h
  exact⟨v,t,e,q.kp s,oE.kp s w⟩
theorem oE.mono(s:ku H H'){ds:List (Str×D)}{vs:List (Key×V)}(h:oE K H ds vs):oE K H' ds vs:=h.kp (Kp.of s)
theorem oE.snoc:∀{ds:List (Str×D)} {vs:List (Key×V)} {x:Str} {d:D} {v:V},oE K H ds vs->Rep K H d v->oE K H (ds++[(x,d)]) (vs++[(.inr x,v)])
 | [],_,x,d,v,h,r=>by
  cases (show _=[] from h)
  exact⟨v,[],rfl,r,rfl⟩
 | p::ds,_,x,d,v,h,r=>by
  obtain⟨u,t,e,q,w⟩:=h
  subst e
  exact⟨u,t++[(.inr x,v)],rfl,q,oE.snoc w r⟩
theorem oE.len:∀{ds:List (Str×D)} {vs:List (Key×V)},oE K H ds vs->ds.length=vs.length
 | [],_,h=>by cases (show _=[] from h);rfl
 | p::r,_,h=>by
  obtain⟨v,t,e,q,w⟩:=h
  subst e
  simp[oE.len w]
theorem oE.at:∀{ds:List (Str×D)} {vs:List (Key×V)} {x:Str},oE K H ds vs->match DA ds x with
  | some d=>∃v,m7 vs (Sum.inr x:Key)=some v/\Rep K H d v
  | none=>m7 vs (Sum.inr x:Key)=none
 | [],_,x,h=>by cases (show _=[] from h);rfl
 | p::r,_,x,h=>by
  obtain⟨v,t,e,q,w⟩:=h
  subst e
  have ih:=oE.at (x:=x) w
  unfold DA
  by_cases hx:p.1=x
  ·rw[if_pos hx]
   exact⟨v,qk (by rw[hx]),q⟩
  ·rw[if_neg hx]
   have n:m7 (((Sum.inr p.1:Key),v)::t) (Sum.inr x)=m7 t (Sum.inr x):=qC fun z=>hx (Sum.inr.inj z)
   rw[n]
   exact ih
end
def Hg(P:Program)(w:World)(K:W.Frag)(g:R->List (Str×D)->OD):TE:=fun σ H Q=>∃ ρ τ a ds xs d,lQ K H ρ (some (.ref a)::τ) σ/\H a=some (t5 P w a xs)/\oE K H ds xs/\g ρ ds=some d/\∀v H',ku H H'->Rep K H' d v->Q v H'
def KE(X:Cx)(e:Expr)(g:R->List (Str×D)->OD):Prop:=PE X e (Hg X.prog X.w X.K g)
section
variable{X:Cx}{st:Stmt}{sts:List Stmt}{u:R->Option Out}{w:R->List (Str×D)->Option Out}{pos:Pos}{e:Expr}{es:List Expr}{f:R->OD}{F:R->Option LD}
end
def Kd(H H':Hp):Prop:=∀b u,H b=some u->(∀kvs,u≠.dK kvs)->H' b=some u
mutual
theorem Rep.kd{K:W.Frag}{H H':Hp}(s:Kd H H'):∀{d:D} {v:V},mV d=true->Rep K H d v->Rep K H' d v
 | .non,_,hn,h=>h
 | .bl _,_,hn,h=>h
 | .int _,_,hn,h=>h
 | .str _,_,hn,h=>h
 | .tup ds,_,hn,h=>by
  obtain⟨a,xs,e,q,r⟩:=h
  refine⟨a,xs,e,?_,i9.kd s hn r⟩
  rcases q with (h | ⟨o,h⟩) | h
  ·exact .inl (.inl (s _ _ h fun φ z=>nomatch z))
  ·exact .inl (.inr ⟨o,s _ _ h fun φ z=>nomatch z⟩)
  ·exact .inr h
 | .lst ds,_,hn,h=>by
  obtain⟨a,xs,e,q,r⟩:=h
  exact⟨a,xs,e,s _ _ q (fun φ z=>by cases z),i9.kd s hn r⟩
 | .fro ds,_,hn,h=>by
  obtain⟨a,xs,e,q,r⟩:=h
  refine⟨a,xs,e,?_,i9.kd s hn r⟩
  rcases q with (h | ⟨o,h⟩) | h
  ·exact .inl (.inl (s _ _ h fun φ z=>nomatch z))
  ·exact .inl (.inr ⟨o,s _ _ h fun φ z=>nomatch z⟩)
  ·exact .inr h
 | .obj k a ks ds,_,hn,h=>by cases hn
 | .dct ks ds,_,hn,h=>by cases hn
 | .dcp ks ds,_,hn,h=>by cases hn
 | .cl t a ds,_,hn,h=>by cases hn
theorem i9.kd{K:W.Frag}{H H':Hp}(s:Kd H H'):∀{ds:LD} {vs:List V},lE ds=true->i9 K H ds vs->i9 K H' ds vs
 | [],_,_,h=>h
 | d::ds,_,hn,h=>by
  have hn':(mV d&&lE ds)=true:=hn
  rw[Bool.and_eq_true] at hn'
  obtain⟨v,r,e,q,t⟩:=h
  exact⟨v,r,e,Rep.kd s hn'.1 q,i9.kd s hn'.2 t⟩
end
section
variable{X:Cx}{sts:List Stmt}{w:R->List (Str×D)->Option Out}{pos:Pos}{f:R->OD}
end
end HW
namespace HW
open PySem
@[simp] def pQ (x y:D):Option Bool:=(bO x).bind fun a=>(bO y).map fun b=>!(a==b)
end HW
namespace HW
open PySem PySem.Spec PyProof.Rows L2
variable{X:Cx}
theorem A6{K:W.Frag}{H:Hp}{d:D}{v:V}{u:Value}{a:Bool}(e:bO d=some a)(r:Rep K H d v)(ru:RelV v u):u=.bool a:=by
 cases d with
 | bl b =>
  cases e
  cases (show v=_ from r)
  exact ru
 | _=>cases e
theorem cP:A9 X .IsNot pQ:=by
 intro pins s σ H x y v u Q I rx ry h
 obtain⟨dx,dy,b,r1,r2,e,q⟩:=h
 obtain⟨a,e1,e⟩:=kx e
 obtain⟨c,e2,e⟩:=lK e
 subst e
 cases A6 e1 r1 rx
 cases A6 e2 r2 ry
 exact wpAny_isNot_plain (by cases a<;>cases c<;>rfl) (kU I q (by cases a<;>cases c<;>rfl))
end HW
namespace HW
open PySem PySem.SetTable
theorem z0(xs:Array Nat)(j:Nat)(H:∀a b,a<b->b<xs.size->xs.getD a 0<xs.getD b 0):∀fuel lo hi,hi - lo<=fuel->lo<=hi->hi<=xs.size ->
  (∀i,i<lo->xs.getD i 0<j)->(∀i,hi<=i->i<xs.size->j<=xs.getD i 0) ->
  below.go xs j fuel lo hi<=xs.size/\(∀i,i<below.go xs j fuel lo hi->xs.getD i 0<j)/\(∀i,below.go xs j fuel lo hi<=i->i<xs.size->j<=xs.getD i 0):=by
 intro fuel
 induction fuel with
 | zero =>
  intro lo hi h1 h2 h3 h4 h5
  have:lo=hi:=by omega
  subst this
  exact⟨h3,h4,h5⟩
 | succ fuel ih =>
  intro lo hi h1 h2 h3 h4 h5
  unfold below.go
  by_cases hlt:lo<hi
  ·rw[if_pos hlt]
   have hm:(lo+hi) / 2<xs.size:=by omega
   have e:xs.getD ((lo+hi) / 2) j=xs.getD ((lo+hi) / 2) 0:=by simp[Array.getD,hm]
   show(if xs.getD ((lo+hi) / 2) j<j then _ else _:Nat)<=_/\_
   dsimp only
   rw[e]
   by_cases hc:xs.getD ((lo+hi) / 2) 0<j
   ·rw[if_pos hc]
    refine ih _ _ (by omega) (by omega) h3 (fun i hi'=>?_) h5
    by_cases he:i=(lo+hi) / 2
    ·subst he;exact hc
    ·exact Nat.lt_trans (H i _ (by omega) hm) hc
   ·rw[if_neg hc]
    refine ih _ _ (by omega) (by omega) (by omega) h4 (fun i hi' hs=>?_)
    by_cases he:i=(lo+hi) / 2
    ·subst he;omega
    ·have:=H _ i (by omega:(lo+hi) / 2<i) hs;omega
  ·rw[if_neg hlt]
   have:lo=hi:=by omega
   subst this
   exact⟨h3,h4,h5⟩
def FO(xs:Array Nat):Prop:=∀a b,a<b->b<xs.size->xs.getD a 0<xs.getD b 0
theorem sL{xs:Array Nat}(H:FO xs)(j:Nat):below xs j<=xs.size/\(∀i,i<below xs j->xs.getD i 0<j)/\(∀i,below xs j<=i->i<xs.size->j<=xs.getD i 0):=
 z0 xs j H xs.size 0 xs.size (by omega) (by omega) (by omega) (fun i h=>by omega) (fun i h h'=>by omega)
theorem BJ{xs:Array Nat}(H:FO xs):below xs 0=0:=by
 obtain⟨a,b,c⟩:=sL H 0
 rcases Nat.eq_zero_or_pos (below xs 0) with h | h
 ·exact h
 ·have:=b 0 h;omega
theorem B4{xs:Array Nat}(H:FO xs){i:Nat}(hi:i<xs.size):below xs (xs.getD i 0+1)=i+1:=by
 obtain⟨a,b,c⟩:=sL H (xs.getD i 0+1)
 generalize below xs (xs.getD i 0+1)=r at *
 rcases Nat.lt_or_ge i r with h | h
 ·rcases Nat.lt_or_ge (i+1) r with h' | h'
  ·have h1:=b (i+1) h'
   have h2:=H i (i+1) (by omega) (by omega)
   omega
  ·omega
 ·have:=c i h hi;omega
structure TI (t:SetTable) (n:Nat):Prop where
 mask:t.mask=7
 dum:t.dummies=#[]
 plain:t.plain=true
 ris:FO t.place
 size:t.place.size=n
def way(i pt:Nat):Nat->Nat×Nat
 | 0=>(i,pt)
 | k+1=>way ((i*5+1+pt / 32)%8) (pt / 32) k
theorem TI.fits{t:SetTable}{n:Nat}(T:TI t n)(hn:n<=7):t.fits n=true:=by
 unfold SetTable.fits SetTable.fill
 rw[T.mask,T.dum,T.size]
 simp;omega
theorem TI.fresh(led:Bool):TI (.fresh 0 0 led) 0:=⟨rfl,rfl,rfl,fun a b h hb=>absurd hb (by simp[SetTable.fresh]),rfl⟩
theorem sO{α:Type}:∀(l:List α) (i:Nat) (x:α),l[i]?=some x->(x::l.eraseIdx i).Perm l
 | [],i,x,h=>by simp at h
 | a::l,0,x,h=>by simp at h;subst h;exact .refl _
 | a::l,i+1,x,h=>by
  simp only[List.getElem?_cons_succ] at h
  simp only[List.eraseIdx_cons_succ]
  exact(List.Perm.swap _ _ _).trans ((sO l i x h).cons a)
theorem yq{α:Type}(next:Nat->Nat):∀(fuel k:Nat) (left:List α) (out:Array α),left.length=fuel->(pickOrder.go next fuel k left out).toList.Perm (out.toList++left)
 | 0,k,left,out,h=>by
  have:left=[]:=List.eq_nil_of_length_eq_zero h
  subst this;rw[List.append_nil];exact .refl _
 | fuel+1,k,left,out,h=>by
  unfold pickOrder.go
  have hlt:next k%left.length<left.length:=Nat.mod_lt _ (by omega)
  rw[List.getElem?_eq_getElem hlt]
  dsimp only
  refine(yq next fuel (k+1) _ _ (by rw[List.length_eraseIdx_of_lt hlt];omega)).trans ?_
  rw[Array.toList_push,List.append_assoc]
  exact(sO left _ _ (List.getElem?_eq_getElem hlt)).append_left _
theorem uK{α:Type}(next:Nat->Nat)(xs:Array α):(pickOrder next xs).toList.Perm xs.toList:=by
 unfold pickOrder
 exact yq next xs.size 0 xs.toList #[] (by simp)
theorem y4{α:Type}(next:Nat->Nat)(xs:Array α):(pickOrder next xs).size=xs.size:=by
 rw[<- Array.length_toList,(uK next xs).length_eq,Array.length_toList]
end HW
namespace HW
def zq(x:Int):List Int->List Int
 | []=>[x]
 | y::r=>if x<=y then x::y::r else y::zq x r
def ph:List Int->List Int
 | []=>[]
 | x::r=>zq x (ph r)
def intsOf:LD->Option (List Int)
 | []=>some []
 | .int i::r=>(intsOf r).map (i::·)
 | _::_=>none
theorem qM(x:Int):∀l:List Int,(zq x l).Perm (x::l)
 | []=>.refl _
 | y::r=>by
  unfold zq
  split
  ·exact .refl _
  ·exact((qM x r).cons y).trans (.swap _ _ _)
theorem oI:∀l:List Int,(ph l).Perm l
 | []=>.refl _
 | x::r=>(qM x _).trans ((oI r).cons x)
theorem tN(x:Int):∀l:List Int,l.Pairwise (·<=·)->(zq x l).Pairwise (·<=·)
 | [],_=>List.pairwise_singleton _ _
 | y::r,h=>by
  unfold zq
  have h1:∀{z},z∈r->y<=z:=fun hz=>List.rel_of_pairwise_cons h hz
  split
  ·rename_i hx
   refine List.Pairwise.cons (fun z hz=>?_) h
   rcases List.mem_cons.mp hz with e | e
   ·rw[e];exact hx
   ·exact Int.le_trans hx (h1 e)
  ·rename_i hx
   refine List.Pairwise.cons (fun z hz=>?_) (tN x r h.of_cons)
   rcases List.mem_cons.mp ((qM x r).mem_iff.mp hz) with e | e
   ·rw[e];omega
   ·exact h1 e
theorem pA:∀l:List Int,(ph l).Pairwise (·<=·)
 | []=>.nil
 | x::r=>tN x _ (pA r)
theorem io{ns ns':List Int}(hp:ns'.Perm ns)(hs:ns'.Pairwise (·<=·)):ns'=ph ns:=
 List.Perm.eq_of_pairwise (fun _ _ _ _ a b=>Int.le_antisymm a b) hs (pA ns) (hp.trans (oI ns).symm)
end HW
namespace HW
open PySem
def G3:Value->Int
 | .int n _=>n
 | _=>0
def xq(b:Bool)(h:Heap)(S:Addr)(ks:List Int):Prop:=
 ∃o es ep t,h.get? S=some o/\o.ExactSet/\o.data=.set es ep t/\(∀e∈es.toList,∃k tk,e=(hashInt k,Value.int k tk))/\TI t es.size/\t.led=b/\(es.toList.map fun e=>G3 e.2).Perm ks
theorem xq.at{b:Bool}{h h':Heap}{S:Addr}{ks:List Int}(x:xq b h S ks)(e:∀o,h.get? S=some o->h'.get? S=some o):xq b h' S ks:=let ⟨o,es,ep,t,ho,r⟩:=x;⟨o,es,ep,t,e _ ho,r⟩
section
variable{prog:Program}{w:World}{A:Around}{E:Value->Shared->Prop}{s:Shared}
end
end HW
namespace HW
open PySem PySem.Spec PyProof.Rows
def ql(h:Heap)(it S:Addr)(slot i n ep:Nat):Prop:=∃o,h.get? it=some o/\o.cls=.type "set_iterator" /\ o.data=.fields #[.int slot 0,.int i 0,.ref S,.int n 0,.int ep 0]
def rH(h:Heap)(S:Addr)(es:Array (Int×Value))(ep:Nat)(t:SetTable):Prop:=∃o,h.get? S=some o/\o.cls=.type "set" /\ o.data=.set es ep t
def slotAt(t:SetTable):Nat->Nat
 | 0=>0
 | i+1=>t.place.getD i 0+1
def uv(w:World):Bool:=w.params.followText "set-order"
structure Ee (w:World) (S:Addr) (es:Array (Int×Value)) (ep:Nat) (t:SetTable) (ord:Array (Int×Value)):Prop where
 fits:t.fits es.size=true
 size:ord.size=es.size
 txt:uv w=true->ord=pickOrder (w.params.setOrder S ep) es
 plc:uv w=false->ord=es/\t.led=true/\(!t.plain&&decide (es.size > 1))=false/\∀i,i<=es.size->SetTable.below t.place (slotAt t i)=i
theorem ql.typeIs{s:Shared}{it S slot i n ep}(x:ql s.heap it S slot i n ep):s.TypeIs (.ref it) "set_iterator":=let ⟨o,ho,hc,_⟩:=x;⟨o,ho,hc⟩
theorem rH.typeIs{s:Shared}{S es ep t}(x:rH s.heap S es ep t):s.TypeIs (.ref S) "set":=let ⟨o,ho,hc,_⟩:=x;⟨o,ho,hc⟩
theorem rH.at{h h':Heap}{S es ep t}(x:rH h S es ep t)(e:∀o,h.get? S=some o->h'.get? S=some o):rH h' S es ep t:=let ⟨o,ho,r⟩:=x;⟨o,e _ ho,r⟩
theorem ql.at{h h':Heap}{it S slot i n ep}(x:ql h it S slot i n ep)(e:∀o,h.get? it=some o->h'.get? it=some o):ql h' it S slot i n ep:=let ⟨o,ho,r⟩:=x;⟨o,e _ ho,r⟩
theorem rH.lt{h:Heap}{S es ep t}(x:rH h S es ep t):S<h.objs.size:=let ⟨_,ho,_⟩:=x;Heap.lt_size ho
section
variable{prog:Program}{w:World}{A:Around}{E:Value->Shared->Prop}{s:Shared}{S:Addr}{es ord:Array (Int×Value)}{ep:Nat}{t:SetTable}
def nextOf(ord:Array (Int×Value))(i nx:Nat):Option (Value×Nat):=(ord[i]?).map fun e=>(e.2,nx)
end
set_option maxHeartbeats 3200000
section
variable{prog:Program}{w:World}{A:Around}{R:Result->Shared->Prop}{I:Addr}{fp wr:List Addr}{G:Array GenState->Array GenState->Prop}{n:Nat}{P:Nat->Value->Prop}{St:Nat->Shared->Prop}
end
section
variable{prog:Program}{w:World}{A:Around}{E:Value->Shared->Prop}{s:Shared}
abbrev Aa(w:World):Obj:={cls:=.type "set",dict:=none,data:=.set #[] 0 (.fresh 0 0 (!uv w))}
theorem xq.new{h:Heap}{w:World}:xq (!uv w) (h.push (Aa w)) h.objs.size []:=
 ⟨Aa w,#[],0,_,Heap.get?_push_size _ rfl,⟨rfl,rfl,rfl⟩,rfl,fun e he=>by simp at he,TI.fresh _,rfl,.refl _⟩
theorem xq.ord{h:Heap}{S:Addr}{ks:List Int}(x:xq (!uv w) h S ks)(hn:ks.length<=4) :
  ∃es ep t ord,rH h S es ep t/\Ee w S es ep t ord/\(ord.toList.map fun e=>G3 e.2).Perm ks/\∀e∈ord.toList,∃k tk,e.2=Value.int k tk:=by
 obtain⟨o,es,ep,t,ho,hex,hd,hel,hT,hled,hp⟩:=x
 have hlen:es.size=ks.length:=by rw[<- hp.length_eq,List.length_map,Array.length_toList]
 have hf:t.fits es.size=true:=hT.fits (by omega)
 have hel':∀e∈es.toList,∃k tk,e.2=Value.int k tk:=fun e he=>let ⟨k,tk,q⟩:=hel e he;⟨k,tk,by rw[q]⟩
 cases hb:uv w with
 | true =>
  have pp:=uK (w.params.setOrder S ep) es
  exact⟨es,ep,t,pickOrder (w.params.setOrder S ep) es,⟨o,ho,hex.1,hd⟩,⟨hf,y4 _ _,fun _=>rfl,fun z=>by rw[hb] at z;cases z⟩,(pp.map _).trans hp,fun e he=>hel' e (pp.mem_iff.mp he)⟩
 | false =>
  refine⟨es,ep,t,es,⟨o,ho,hex.1,hd⟩,⟨hf,rfl,(fun z=>by rw[hb] at z;cases z),fun _=>⟨rfl,by rw[hled,hb];rfl,by rw[hT.plain];rfl,fun i hi=>?_⟩⟩,hp,hel'⟩
  cases i with
  | zero=>exact BJ hT.ris
  | succ i=>exact B4 hT.ris (by rw[hT.size];exact hi)
end
end HW
set_option maxHeartbeats 1000000
namespace HW
open PySem PySem.Spec PyProof.Rows L2
section
variable{X:Cx}
theorem bD{K:W.Frag}{H:Hp}:∀{ds:LD} {ns:List Int} {xs:List V} {its:List Value},intsOf ds=some ns->i9 K H ds xs->kM xs its->IntsAre its ns
 | [],ns,xs,its,e,r,v=>by
  cases e
  cases (show xs=[] from r)
  cases v
  exact .nil
 | .int i::ds,ns,xs,its,e,r,v=>by
  obtain⟨ms,e1,e2⟩:=lK (show(intsOf ds).map (i::·)=some ns from e)
  subst e2
  obtain⟨x,xr,rfl,r1,r2⟩:=r
  cases (show x=_ from r1)
  cases v with
  | cons v1 v2 =>
   obtain⟨t,rfl⟩:=v1
   exact .cons i t (bD e1 r2 v2)
 | .non::_,_,_,_,e,_,_=>by cases e
 | .bl _::_,_,_,_,e,_,_=>by cases e
 | .str _::_,_,_,_,e,_,_=>by cases e
 | .tup _::_,_,_,_,e,_,_=>by cases e
 | .lst _::_,_,_,_,e,_,_=>by cases e
 | .fro _::_,_,_,_,e,_,_=>by cases e
theorem bS{K:W.Frag}{H:Hp}:∀{ns:List Int} {its:List Value},IntsAre its ns->kM (ns.map V.int) its/\i9 K H (ns.map D.int) (ns.map V.int)
 | _,_,.nil=>⟨.nil,rfl⟩
 | _,_,.cons n t r=>⟨.cons ⟨t,rfl⟩ (bS (K:=K) (H:=H) r).1,⟨_,_,rfl,rfl,(bS r).2⟩⟩
theorem ge:∀(its:List Value) (ns:List Int),its.length=ns.length->(∀(j:Nat) (v:Value),its[j]?=some v->∃t,v=.int (ns.getD j 0) t)->IntsAre its ns
 | [],[],_,_=>.nil
 | [],_::_,h,_=>by cases h
 | _::_,[],h,_=>by cases h
 | v::r,n::ns,hl,h=>by
  obtain⟨t,e⟩:=h 0 v rfl
  cases (show v=.int n t from e)
  exact .cons n t (ge r ns (Nat.succ.inj hl) fun j u hu=>h (j+1) u hu)
variable{sts:List Stmt}
end
section
variable{prog:Program}{w:World}{A:Around}{R':Result->Shared->Prop}{I:Addr}{fp wr:List Addr}{n:Nat}{P:Nat->Value->Prop}{St:Nat->Heap->Prop}
theorem oK:(toString "min" ++ toString ".loop" : String) = "min.loop":=by decide
end
section
variable{prog:Program}{w:World}{A:Around}{E:Value->Shared->Prop}{s:Shared}
end
section
variable{X:Cx}
end
end HW
namespace HW
def uA(xs:LD):LD:=xs.zipIdx.map fun p=>.tup [.int (p.2:Int),p.1]
def qK(f:R->OD):R->Option LD:=fun ρ=>(f ρ).bind fun d=>match d with
 | .tup xs=>some (uA xs)
 | _=>none
theorem y6{xs:LD}{i:Nat}{d:D}(e:(uA xs)[i]?=some d):∃x,xs[i]?=some x/\d=.tup [.int (i:Int),x]:=by
 unfold uA at e
 rw[List.getElem?_map,List.getElem?_zipIdx] at e
 cases h:xs[i]? with
 | none=>rw[h] at e;cases e
 | some x=>rw[h] at e;simp at e;exact⟨x,rfl,e.symm⟩
theorem vd(xs:LD):(uA xs).length=xs.length:=by simp[uA]
end HW
namespace HW
open PySem PySem.Spec PyProof.Rows L2
section
variable{prog:Program}{w:World}{A:Around}{E:Value->Shared->Prop}{s:Shared}
theorem v_(hh:A.handled=none)(it a:Addr)(hne:a≠it)(items:Array Value):Draws prog w A it [it,a] items.size (fun i v=>items[i]?=some v) (fun i h=>h.IsTupleIter it a i/\h.IsTuple a items) where
 live:=fun _ _ st=>let ⟨o,e,_⟩:=st.1;⟨o,e⟩
 frame:=fun _ _ _ st k=>⟨let ⟨o,e,r⟩:=st.1;⟨o,k it (by simp) o e,r⟩,let ⟨o,e,r⟩:=st.2;⟨o,k a (by simp) o e,r⟩⟩
 item:=fun i s Q E hi st hQ=>bL st.1 st.2 (x:=items[i]) (by simp[hi]) fun h' q sb=>hQ items[i] h' s.toks (by simp[hi]) ⟨q,let ⟨o,e,r⟩:=st.2;⟨o,(sb.2 a hne).trans e,r⟩⟩ sb
 done:=fun s Q E st hE=>br hh st.1 st.2 (by simp) hE
theorem AJ{e it a:Addr}{i:Int}{k:Nat}{old:Value}{items:Array Value}{Q:Option Value->Shared->Prop}(hh:A.handled=none)(he:IsEnum s.heap e it i old)(hit:s.heap.IsTupleIter it a k)(hl:s.heap.IsTuple a items)(hx:items[k]?=none)
  (hQ:∀h',Heap.ExtBut it s.heap h'->Q none {s with heap:=h' }):wpAny (model prog w) A (pyNext (.ref e)) Q E s:=by
 have hT:s.TypeIs (.ref e) "enumerate":=⟨_,he,rfl⟩
 unfold pyNext;refine wpAny_bind (wpAny_attempt (wpAny_callSpecial?_slot (name:=oS "__next__") hT PySem.F.slot_enumerate_next (wpAny_call_entry PySem.F.slot_enumerate_next hT PySem.F.entry_enumerate_next ?_ (PySem.F.args_enumerate_next_1 _))))
 show wpAny _ _ (field (.ref e) 2 >>= _) _ _ _;refine wpAny_bind (wpAny_field he rfl (x:=.ref it) rfl (wpAny_bind (br (A:=A.in1) hh hit hl hx fun h' x k' ⟨o,ho,hc⟩=>?_)))
 exact wpAny_bind (wpAny_isInstance (T:="StopIteration") (b:=true) ⟨o,ho,hc⟩ isSubtype_stop (wpAny_pure (hQ _ k')))
def Ga(h:Heap):Obj:={cls:=.type "enumerate",data:=.fields #[.none,.bool false,.ref h.objs.size,rawInt 0,.none,.none]}
theorem A0(a:Addr):Meets (Builtin.«enumerate.__new__» ⟨[.type "enumerate",.ref a],[]⟩) (fun _ R s=>(Src.tup a).ok s.heap/\R (.ok (.ret (.ref (s.heap.push (Src.tup a).obj).objs.size))) {s with heap:=(s.heap.push (Src.tup a).obj).push (Ga s.heap)}):=
 .of_wp fun prog w A R s h=>by
  obtain⟨hp,g,d,tk,os⟩:=s;obtain⟨⟨xs,q1⟩,h⟩:=h;have hsub:=sub_enumerate
  have r1:Heap.IsTuple (Shared.heap ⟨hp,g,d,tk,os⟩) a xs:=q1
  wp_walk using wpAny_pyIter_tuple r1
  refine wpAny_stack_any fun st=>wpAny_pure ?_
  split
  ·rename_i c _ _ _ _ _
   cases (c==Value.type "enumerate")<;>(wp_walk using wpAny_pyIter_tuple r1;exact⟨_,rfl,h⟩)
  ·wp_walk using wpAny_pyIter_tuple r1;exact⟨_,rfl,h⟩
theorem gy{a:Addr}{xs:Array Value}{Q:Value->Shared->Prop}(hT:s.heap.IsTuple a xs)
  (h:∀h',IsEnum h' (s.heap.objs.size+1) s.heap.objs.size 0 .none->h'.IsTupleIter s.heap.objs.size a 0->(∀b o,s.heap.get? b=some o->h'.get? b=some o)->Q (.ref (s.heap.objs.size+1)) {s with heap:=h' }) :
  wpAny (model prog w) A (call (.type "enumerate") [.ref a]) Q E s:=by
 refine callType_new PySem.F.called_enumerate (by decide) (PySem.F.typeCall_enumerate_1 _) (PySem.F.newCall_enumerate_1 _) (fun obj=>PySem.F.args_object_init_2 obj _) PySem.F.entry_enumerate_new (A0 a) ⟨⟨xs,hT⟩,?_⟩
 have hz:(s.heap.push (Src.tup a).obj).objs.size=s.heap.objs.size+1:=Heap.size_push ..
 have he:((s.heap.push (Src.tup a).obj).push (Ga s.heap)).get? (s.heap.push (Src.tup a).obj).objs.size=some (Ga s.heap):=Heap.get?_push_size _ rfl
 rw[hz] at he
 show _/\_
 rw[hz]
 exact⟨⟨_,he,rfl⟩,h _ he ⟨_,Heap.get?_push_of_some _ (Heap.get?_push_size _ rfl),rfl,rfl⟩ fun b o y=>Heap.get?_push_of_some _ (Heap.get?_push_of_some _ y)⟩
end
def Ha(K:W.Frag)(a:Addr):It:=⟨fun i H=>∃xs v,mG K H a xs/\xs[i]?=some v,
 fun i H x H'=>∃b v,x=.ref b/\H b=none/\H'=upd H b (.tup [.int (i:Int),v])/\∀xs,mG K H a xs->xs[i]?=some v,fun i H=>∃xs,mG K H a xs/\xs.length<=i⟩
theorem yK{P:Program}{w:World}{K:W.Frag}{es:List Expr}{x1:_}{tp:Pos}{e it a:Addr}(hne:e≠it) :
  Turn P w K (.Tuple es x1 tp) (Ha K a) [e,it] e (fun i h=>(∃old,IsEnum h e it (i:Int) old)/\h.IsTupleIter it a i) where
 mem:=List.mem_cons_self
 obj:=fun i h ⟨⟨old,q1⟩,q2⟩ b hb=>by
  rcases List.mem_cons.mp hb with rfl | hb
  ·exact⟨_,q1,fun v z=>nomatch (show Data.fields _=Data.cell v from z)⟩
  ·cases (List.mem_singleton.mp hb)
   obtain⟨o,q,c,d⟩:=q2
   exact⟨o,q,fun v z=>by rw[d] at z;cases z⟩
 keep:=fun i h h' ⟨⟨old,q1⟩,q2⟩ k=>⟨⟨old,k _ (by simp) _ q1⟩,let ⟨o,q,r⟩:=q2;⟨o,k _ (by simp) o q,r⟩⟩
 item:=by
  rintro X rfl rfl rfl hc i pins s σ H E I hf ⟨⟨old,he⟩,hit⟩ ⟨xs,v,hq,hx⟩
  obtain⟨its,rv,p,hz⟩:=I.tuple hq
  obtain⟨u,hu,ru⟩:=rv.get hx
  obtain⟨f0,f1,f2,f3,f4,f5⟩:=hf e (by simp)
  obtain⟨g0,g1,g2,g3,g4,g5⟩:=hf it (by simp)
  have hai:a≠it:=fun z=>by
   obtain⟨o,q,c,_⟩:=hit
   obtain⟨o',q',c',_⟩:=p
   rw[z,q] at q'
   cases q'
   rw[c] at c'
   simp at c'
  have hea:e ∉ [it,a]:=fun z=>by
   rcases List.mem_cons.mp z with z | z
   ·exact hne z
   ·obtain⟨o',q',c',_⟩:=p
    rw[<- List.mem_singleton.mp z,he] at q'
    cases q'
    simp at c'
  have hi:i<its.toArray.size:=by
   rw[List.size_toArray]
   exact(List.getElem?_eq_some_iff.mp hu).1
  refine wpAny_pyNext_enum_itemD (v_ (prog:=X.prog) (w:=X.w) (A:=X.A.in1) (I.ok.hd hc) it a hai its.toArray) he ⟨hit,p⟩ hi hne hea fun x h' tk hP ho hst hT hsz hk=>?_
  refine⟨_,rfl,wpAny_letOwnedTupleGo_enum (s:={s with heap:=h',toks:=tk+1}) ho fun h9 z9 s9=>?_⟩
  have hxu:x=u:=by
   have h1:its[i]?=some x:=by simpa using hP
   rw[hu] at h1
   exact(Option.some.inj h1).symm
  subst hxu
  obtain⟨oi,hoi,ci,di⟩:=id hst.1
  obtain⟨o0,ho0,_⟩:=id hit
  have lt:∀{c o},s.heap.get? c=some o->c≠s.heap.objs.size:=fun q=>Nat.ne_of_lt (Heap.lt_size q)
  have hn:H s.heap.objs.size=none:=I.hok.fresh (Nat.le_refl _)
  generalize hh1:s.heap.update it (fun _=>oi)=h1
  have k1:∀b o,b≠it->s.heap.get? b=some o->h1.get? b=some o:=fun b o n q=>by rw[<- hh1];exact(Heap.get?_update_other _ _ (Ne.symm n)).trans q
  have k1':∀b o,b≠it->h1.get? b=some o->s.heap.get? b=some o:=fun b o n q=>by rw[<- hh1,Heap.get?_update_other _ _ (Ne.symm n)] at q;exact q
  have hz1:h1.objs.size=s.heap.objs.size:=by rw[<- hh1,Heap.size_update]
  have J1:L2.Inv X pins σ H {s with heap:=h1,toks:=tk+1}:=I.turned (t':=tk+1) k1 g0 g1 g3 g4 g5
  have J2:L2.Inv X pins σ (upd H h1.objs.size (.tup [.int (i:Int),v])) {s with heap:=h1.push {cls:=.type "tuple",data:=.seq #[.int i tk,x]},toks:=tk+1}:=
   J1.laid (t':=tk+1) (fun b u q=>Heap.get?_push_of_some _ q) (Nat.le_refl _) ⟨show 2<=sizeLine by decide,[.int i tk,x],.cons ⟨tk,rfl⟩ (.cons ru .nil),⟨_,Heap.get?_push_size _ rfl,rfl,⟨_,rfl⟩,rfl⟩⟩
  have k2:∀b o,b≠e->(h1.push {cls:=.type "tuple",data:=.seq #[.int i tk,x]}).get? b=some o->h'.get? b=some o:=fun b o n q=>by
   by_cases hb:b=h1.objs.size
   ·rw[hb,Heap.get?_push_size _ rfl] at q
    cases q
    rw[hb,hz1]
    exact hT
   ·rw[Heap.get?_push_ne _ _ _ hb] at q
    by_cases hbi:b=it
    ·rw[hbi] at q ⊢
     rw[<- hh1,Heap.get?_update_self (fun _=>oi) ho0 (Obj.isFreed_of_fields di)] at q
     cases q
     exact hoi
    ·exact hk b o n hbi (k1' b o hbi q)
  rw[hz1] at J2
  have J3:L2.Inv X pins σ (upd H s.heap.objs.size (.tup [.int (i:Int),v])) {s with heap:=h',toks:=tk+1}:=J2.turned (t':=tk+1) k2 (by rw[aj (lt he)];exact f0) f1 f3 f4 f5
  have J4:L2.Inv X pins σ (upd H s.heap.objs.size (.tup [.int (i:Int),v])) {s with heap:=h9,toks:=tk+1}:=J3.turned (t':=tk+1) (fun b o n q=>s9.extBut b o n q) (by rw[aj (lt he)];exact f0) f1 f3 f4 f5
  refine⟨.ref s.heap.objs.size,_,J4,rfl,⟨_,v,rfl,hn,rfl,fun ys hy=>by rw[I.tuple_inj hy hq];exact hx⟩,⟨⟨x,by simpa using z9⟩,⟨oi,s9.extBut _ _ (Ne.symm hne) hoi,ci,di⟩⟩,fun b hb=>?_⟩
  have lv:∃o,s.heap.get? b=some o:=by
   rcases List.mem_cons.mp hb with rfl | hb
   ·exact⟨_,he⟩
   ·cases (List.mem_singleton.mp hb)
    exact⟨_,ho0⟩
  obtain⟨o,q⟩:=lv
  rw[aj (lt q)]
  exact(hf b hb).1
 done:=by
  rintro X rfl rfl rfl hc i pins s σ H E I hf ⟨⟨old,he⟩,hit⟩ ⟨xs,hq,hx⟩
  obtain⟨its,rv,p,hz⟩:=I.tuple hq
  obtain⟨g0,g1,g2,g3,g4,g5⟩:=hf it (by simp)
  have hl:=rv.length
  exact AJ (I.ok.hd hc) he hit p (by simp;omega) fun h' k=>⟨rfl,I.turned (t':=s.toks) k g0 g1 g3 g4 g5⟩
 self:=fun _ _ _ _ _ ⟨⟨_,q⟩,_⟩ h=>wpAny_pyIter_enum q h
section
variable{X:Cx}
theorem fg{K:W.Frag}{H:Hp}{a:Addr}{ds:LD}{xs:List V}(hq:mG K H a xs)(t:i9 K H ds xs):oP K (Ha K a) (uA ds) H:=by
 refine⟨fun i d H2 k e=>?_,fun i H2 k hl=>⟨xs,k.tup hq,?_⟩⟩
 ·obtain⟨x,ex,rfl⟩:=y6 e
  obtain⟨v,h1,h2⟩:=t.get ex
  refine⟨⟨xs,v,k.tup hq,h1⟩,?_⟩
  rintro p H3 ⟨b,v',rfl,hn,rfl,w1⟩
  have hv:v'=v:=by
   have:=w1 xs (k.tup hq)
   rw[h1] at this
   exact(Option.some.inj this).symm
  subst hv
  have s3:=aQ hn (.tup [.int (i:Int),v'])
  exact⟨s3,b,[.int (i:Int),v'],rfl,mG.of ai,_,[v'],rfl,rfl,v',[],rfl,(h2.kp k).mono s3,rfl⟩
 ·rw[<- t.length]
  rw[vd] at hl
  exact hl
theorem fR{es:List Expr}{x1:_}{tp:Pos}{a:Expr}{f:R->OD}{p pos:Pos}(hm:X.mg "enumerate" = none)(ha:SE X a f)(hg:Gl X "enumerate":=by rfl)(hs:noStar a=true:=by rfl) :
  SI X (.Tuple es x1 tp) (.Call (.Name "enumerate" p) [a] [] pos) (qK f):=by
 have z1:=aw [] X.env hs
 intro pins s σ H W I ⟨ρ,ds,er,e,q⟩
 obtain⟨x,e1,e⟩:=kx e
 match x,e with
 | .tup xs,e =>
  cases e
  have PAA:=(aa ha ae hs).1
  refine Call_ (bB I hg hm (u:=.type "enumerate") (by kernel_rfl) (PyProof.Rows.callWith_type1 (lA (PAA pos pins s σ H (fun vs H1=>ku H H1/\i9 X.K H1 [.tup xs] vs) I
   ⟨ρ,[.tup xs],er,by show(f ρ).bind _=_;rw[e1];rfl,fun vs H1 s1 r1=>⟨s1,r1⟩⟩) fun us s1 ⟨vs,H1,I1,r1,s01,rp⟩=>?_) (by rw[z1]) rfl))
  obtain⟨v,r',rfl,⟨b,ys,rfl,hq,t⟩,rr⟩:=rp
  cases (show r'=[] from rr)
  obtain⟨u,rfl,ru⟩:=r1.one
  cases (show u=_ from ru)
  obtain⟨its,rv,p,hz⟩:=I1.tuple hq
  refine gy p fun h' he hit kept=>?_
  refine wpAny_pyIter_enum (s:={s1 with heap:=h' }) he ?_
  have l1:s1.heap.objs.size<=s1.heap.objs.size+1:=Nat.le_succ _
  have hne:(show Addr from s1.heap.objs.size+1)≠(show Addr from s1.heap.objs.size):=Nat.succ_ne_self _
  refine⟨s1.heap.objs.size+1,[s1.heap.objs.size+1,s1.heap.objs.size],_,_,H1,rfl,I1.kept (t':=s1.toks) kept,yK hne,⟨⟨_,he⟩,hit⟩,fun c hc=>?_,q _ H1 s01 (fg hq t)⟩
  rcases List.mem_cons.mp hc with rfl | hc
  ·exact I1.fpOk l1 (I1.hok.fresh l1)
  ·cases (List.mem_singleton.mp hc)
   exact I1.fpOk (Nat.le_refl _) (I1.hok.fresh (Nat.le_refl _))
end
end HW
namespace HW
end HW
namespace HW
open PySem PySem.Spec PyProof.Rows L2
section
variable{X:Cx}
end
section
variable{X:Cx}
end
end HW
namespace HW
end HW
namespace HW
open PySem PySem.Spec PyProof.Rows L2
section
variable{X:Cx}
end
end HW
namespace HW
open PySem
def oy:LD->OD
 | [.lst es,.int k]=>(intsOf es).bind fun ns=>if k∈ns/\ns.length<=1000 then some (.int ((ns.idxOf k:Nat):Int)) else none
 | _=>none
end HW
namespace HW
open PySem PySem.Spec PyProof.Rows L2
section
variable{X:Cx}
theorem jm:G4 X "list.index" oy:=by
 intro pins s σ H x vs v us Q I rx rv h
 obtain⟨dx,ds,d,r1,r2,e,q⟩:=h
 match dx,ds,e with
 | .lst es,[.int k],e =>
  obtain⟨a,xs,rfl,ha,rr⟩:=r1
  cases (show v=_ from rx)
  obtain⟨u,r',rfl,k1,r2⟩:=r2
  cases (show r'=[] from r2)
  cases (show u=_ from k1)
  obtain⟨u',rfl,t2,rfl⟩:=rv.one
  obtain⟨ns,e1,e2⟩:=kx (show(intsOf es).bind _=some d from e)
  split at e2
  case isFalse=>cases e2
  case isTrue hn =>
  cases e2
  obtain⟨_,its,n,rv2,hl,eo⟩:=I.lstM ha
  have hI:=bD e1 rr rv2
  have hlen:its.length=ns.length:=IntsAre.length hI
  have hj:ns.idxOf k<ns.length:=List.idxOf_lt_length_iff.mpr hn.1
  refine call_meets PySem.F.slot_list_index ⟨_,eo,rfl⟩ PySem.F.entry_list_index (PySem.F.args_list_index_2 _ _)
   (PySem.SeqAt.list_indexAt a its.toArray n none _ (.int k t2) (isInt k) (ns.idxOf k) (by simpa [hlen] using hj) (by omega) ?_ ?_) ⟨eo,fun y hy=>(eq_isInt k t2 hI y (by simpa using hy)).at _ _,?_⟩
  ·show isInt k its[ns.idxOf k]=true
   rw[isInt_at k hI _ (by omega) hj]
   simpa using List.getElem_idxOf hj
  ·intro j hjs hlt
   show isInt k its[j]=false
   rw[isInt_at k hI j (by simpa using hjs) (by omega)]
   exact ne_of_lt_idxOf hlt _
  ·exact⟨.int ((ns.idxOf k:Nat):Int),H,I.tok _,⟨_,rfl⟩,q _ H (ku.refl H) rfl⟩
theorem zW{x:D}{ds:LD}{d:D}(h:oy (x::ds)=some d):∃es,x=.lst es:=by
 cases x with
 | lst z=>exact⟨z,rfl⟩
 | _=>cases h
theorem gb{a e:Expr}{es:List Expr}{f:R->OD}{F:R->Option LD}{ap cp:Pos}(ha:SE X a f)(hF:SA X (e::es) F)
  (hbase:attributeBase a "index" X.env (eval a X.env)=eval a X.env:=by rfl)
  (hfew:((backTo cp (starEach (e::es) X.env)).all (fun x=>!x.1)&&(backToKw cp (keywordEach [] X.env)).all (fun x=>x.1.isSome)&&decide ((e::es).length+([]:List Keyword).length+(if ([]:List Keyword).isEmpty then 0 else 1)<30))=true:=by rfl)
  (hline:(ap.endLine==cp.line)=true:=by rfl):SE X (.Call (.Attribute a "index" ap) (e::es) [] cp) (i6 oy (i3 f F)):=by
 have hst:=hF.2.2
 rw[List.all_cons,Bool.and_eq_true] at hst
 refine(jI (T:="list") PySem.F.plainAttrs_list PySem.F.slot_list_index PySem.F.type_list_index jm ha hF.1 hbase hfew hline (aw es X.env hst.1) (bo (pos:=cp) (env:=X.env) hst.2)).imp fun σ H Q ⟨ρ,d,er,e,q⟩=>?_
 obtain⟨dd,e1,e⟩:=kx e
 obtain⟨x,e2,e1⟩:=kx e1
 obtain⟨ds,e3,e1⟩:=lK e1
 subst e1
 obtain⟨es,rfl⟩:=zW e
 exact⟨ρ,_,er,e2,fun v H1 s1 r1=>⟨by obtain⟨a,xs,rfl,ha,rr⟩:=r1;exact .inl ⟨rfl,xs,.inl (.inl ha)⟩,ρ,ds,er.mono s1,e3,fun vs H2 s2 r2=>⟨.lst es,ds,d,r1.mono s2,r2,e,fun u H3 s3 r3=>q u H3 (s1.trans (s2.trans s3)) r3⟩⟩⟩
end
abbrev t9(K:W.Frag)(n:Str)(st:Stmt)(f:Addr):Prop:=∃(oc:Value) (od an:Option Addr) (sl:Array (Option Value)) (kV dc pm cd ct:Value),W.nsIn K mainGlobals n=some (some (.ref f)) /\
 K.lookup f=some ⟨oc,od,.func (W.fnOf n n (lD st) (k7 st) (i7 st) .none kV dc pm an cd ct),sl⟩/\W.codeIn K cd n=true/\W.keepIn K (.ref f)=true
theorem u6{K:W.Frag}{n:Str}{st:Stmt}{f:Addr}(h:t9 K n st f):∃fd,qa K n n st f fd/\W.nsIn K mainGlobals n=some (some (.ref f)):=by
 obtain⟨oc,od,an,sl,kV,dc,pm,cd,ct,a,l,c,k⟩:=h
 exact⟨_,gP l c k,a⟩
theorem fn4_mk{K:W.Frag}{n:Str}{st:Stmt}{f:Addr}{oc:Value}{od an:Option Addr}{sl:Array (Option Value)}{kV dc pm cd ct:Value}(a:W.nsIn K mainGlobals n=some (some (.ref f)))
  (l:K.lookup f=some ⟨oc,od,.func (W.fnOf n n (lD st) (k7 st) (i7 st) .none kV dc pm an cd ct),sl⟩) (c:W.codeIn K cd n=true) (k:W.keepIn K (.ref f)=true):t9 K n st f:=⟨oc,od,an,sl,kV,dc,pm,cd,ct,a,l,c,k⟩
theorem mL.m{P:Program}{w:World}{K:W.Frag}{mg:Str->Option Value}{base:Heap}{j k:Nat}{x:Str}{ps:List Str}{F:LD->OD}(h:mL P w K mg base j x ps F)(hk:j<=k:=by decide):mL P w K mg base k x ps F:=h.mono hk
section
variable{X:Cx}{pos p:Pos}{e:Expr}{es:List Expr}{k i:Nat}{f c':Addr}{G:LD->OD}{F:R->Option LD}{name qual:Str}{params:Arguments}{body:Expr}{scope:Scope}{cl:List (Str×Addr)}{pm ctv:Value}{ps:List Str}
theorem BK{M:Model}(h:Heap)(x:h.get? f=some (W.kla_obj name qual params body scope cl pm c' ctv)):∃k,(k=Keeper.frame\/k=Keeper.machine\/k=Keeper.boundFrame)/\W.Looks M h (keeperOf (.ref f)) k:=
 ⟨.frame,.inl rfl,(W.Looks.ld (part:=none) x).andThen .now⟩
theorem gO{x:Str}{sp:Sp}{t:TA}(hF:kT X.prog X.w X.K X.mg X.base mi k f (W.kla_fn name qual params body scope cl pm (.ref c') ctv) ps sp)(bd:Binds X.K (W.kla_fn name qual params body scope cl pm (.ref c') ctv) ps [])(hr:lb k X.A)
  (ha:PA X (e::es) t) (he:starEach (e::es) X.env=(false,eval e X.env)::starEach es X.env) (hpl:(backTo pos (starEach es X.env)).any (·.1)=false) (hN:X.N[i]?=some x:=by rfl) (hv:vC X.env.scope x:=by first | exact Or.inl rfl | exact Or.inr (Or.inl rfl) | exact Or.inr (Or.inr rfl))
  (hd:(x==("__debug__" : Str))=false:=by decide) (hcd:(x==("__classdict__" : Str))=false:=by decide) :
  PE X (.Call (.Name x p) (e::es) [] pos) fun σ H Q=>σ[i]?=some (some (.ref f))/\t σ H fun vs H1=>H1 f=some (oH (W.kla_obj name qual params body scope cl pm c' ctv))/\sp vs H1 Q E0:=by
 intro pins s σ H Q I ⟨x1,h⟩
 refine wpAny_Call_Name_kw (lA (fE (pos:=p) hN hv hd hcd pins s σ H (fun v H1=>v=.ref f/\H1=H) I ⟨.ref f,x1,rfl,rfl⟩) fun u s1 ⟨v,H1,I1,rv,ev,eH⟩=>?_)
 subst ev eH
 cases (show u=_ from rv)
 rw[he]
 refine W.callWith_of (P:=fun h=>h.get? f=some (W.kla_obj name qual params body scope cl pm c' ctv)) (by show((false||(backTo pos (starEach es X.env)).any (·.1))||false)=false;rw[hpl];rfl) BK (Calls.evalArgs_plain ?_)
 have hA:=ha pos pins s1 σ H1 (fun vs H2=>H2 f=some (oH (W.kla_obj name qual params body scope cl pm c' ctv))/\sp vs H2 Q E0) I1 h
 rw[he] at hA
 refine lA hA fun us s2 ⟨vs,H2,I2,r,hf,q⟩=>⟨(I2.hok f _ hf).1,?_⟩
 exact AM hF hr bd .nil uw I2 r (by rw[List.append_nil];exact q)
end
section
variable{X:Cx}{pins:List (Addr×Obj)}{σ:L2.St}{H:Hp}{s:Shared}{pos:Pos}
theorem iz{t:kR}{ts:List kR}{params:Arguments}{body:Expr}{scope:Scope}{clos:List (Str×Addr)}(TB:lz X.mg ts X.base)(ht:t∈ts)(hcode:X.env.code=.ref t.c)(hq:X.env.qual ++ "<lambda>" = t.q)(hcl:closureFor scope X.env=pure clos)(hdef:defaultsOf params X.env=([],[]):=by rfl) :
  PE X (.Lambda params body scope pos) fun σ H Q=>H t.P=some (.tbl t.q false)/\∀f c' ctv pm H',ku H H'->H f=none->H' f=some (oH (W.kla_obj "<lambda>" t.q params body scope clos pm c' ctv))->H' c'=some (.tbl t.q true)->Q (.ref f) H':=by
 intro pins s σ H Q I ⟨hP,q⟩
 refine W.kla_eval hdef ?_
 rw[hq]
 refine lA (Bc I TB ht hP hcode hcl) fun v s' ⟨f,c',ctv,pm,H',ev,I',sm,hn,h1,h2⟩=>?_
 exact⟨.ref f,H',I',ev,q f c' ctv pm H' sm hn h1 h2⟩
def mE(cl:List (Str×Addr))(h:Heap)(H:Hp):Hp:=fun b=>if lX cl b then (h.get? b).map oH else H b
theorem oh{cl:List (Str×Addr)}{h:Heap}{b:Addr}{o:Obj}(hb:lX cl b=true)(e:h.get? b=some o):mE cl h H b=some (oH o):=by
 show(if lX cl b then (h.get? b).map oH else H b)=_
 rw[if_pos hb,e];rfl
theorem lq{cl:List (Str×Addr)}{h:Heap}{b:Addr}(hb:lX cl b=false):mE cl h H b=H b:=by
 show(if lX cl b then (h.get? b).map oH else H b)=_
 rw[if_neg (by rw[hb];decide)]
theorem mf{cl:List (Str×Addr)}{b:Addr}(hb:lX cl b=false):m6 cl H b=H b:=by
 show(if lX cl b then none else H b)=_
 rw[if_neg (by rw[hb];decide)]
theorem rV{cl:List (Str×Addr)}{b:Addr}(hb:lX cl b=true):m6 cl H b=none:=by
 show(if lX cl b then none else H b)=_
 rw[if_pos hb]
theorem Bz{k:Nat}{f:Addr}{fd:FuncData}{ps:List Str}{sp:Sp}{cl:List (Str×Addr)}{us:List Value}{vs:List V}{Q:VK}(F:kT X.prog X.w X.K X.mg X.base mi k f fd ps sp)(hr:lb k X.A)(hb:Binds X.K fd ps [])(hfn:∀x,X.fn x=true)(hcl:∀b,lX cl b=true->∃x,X.env.cells.lookup x=some b)
  (I:L2.Inv X pins σ H s) (r:kM vs us) (h:sp vs (mE cl s.heap H) (fun v H'=>Q v (m6 cl H')) E0):wpAny (model X.prog X.w) X.A (call (.ref f) us) (EP X pins σ Q) X.xe s:=by
 have cellO:∀{b:Addr},lX cl b=true->∃o v,s.heap.get? b=some o/\o.data=.cell v/\H b=none/\X.s₀.heap.objs.size<=b:=fun {b} hb=>by
  obtain⟨x,hx⟩:=hcl b hb
  obtain⟨v,o,e,d⟩:=I.cell x b hx
  exact⟨o,v,e,d,I.freeC x b hx,I.ok.cab x b (hfn x) hx⟩
 have nC:∀{b:Addr} {u:HO},H b=some u->lX cl b=false:=fun {b u} e=>by
  cases q:lX cl b with
  | false=>rfl
  | true=>obtain⟨_,_,_,_,z,_⟩:=cellO q;rw[e] at z;cases z
 have tk:∀{b:Addr} {u:HO},H b=some u->mE cl s.heap H b=some u:=fun e=>by rw[lq (nC e)];exact e
 have hok:pL X.prog X.w (mE cl s.heap H) s.heap:=fun b u e=>by
  cases q:lX cl b with
  | true =>
   obtain⟨o,_,g,_⟩:=cellO q
   rw[oh q g] at e
   cases e
   exact⟨g,trivial,⟨_,g⟩,fun _ _ _ _=>trivial⟩
  | false =>
   rw[lq q] at e
   exact(I.hok b u e).stay (fun _ _ _ g=>g) (fun c g=>tk g) (fun c xs g=>tk g) fun c a d g=>tk g
 have low:∀{b:Addr},b<X.s₀.heap.objs.size->lX cl b=false:=fun {b} hb=>by
  cases q:lX cl b with
  | false=>rfl
  | true=>obtain⟨_,_,_,_,_,z⟩:=cellO q;exact absurd (Nat.lt_of_lt_of_le hb z) (Nat.lt_irrefl _)
 have e0:qJ X.prog X.w X.K X.mg X.base X.A X.stack s (mE cl s.heap H):=by
  have z:=I.env0
  refine⟨z.frames,z.mod,fun b o e=>⟨(z.bs b o e).1,?_⟩,z.bsz,z.funs,fun b hb=>?_,hok,z.bare⟩
  ·rw[lq (low (Nat.lt_of_lt_of_le (Heap.lt_size e) I.ok.bsz))];exact(z.bs b o e).2
  ·have n:=z.frf b hb
   cases q:lX cl b with
   | false=>rw[lq q];exact n
   | true =>
    obtain⟨x,hx⟩:=hcl b q
    rcases List.mem_cons.mp (I.stkSub b hb) with m | m
    ·exact absurd m (I.cne x b hx)
    ·obtain⟨_,o,ho,_⟩:=I.ok.funs.mem m
     rw[low (Heap.lt_size ho)] at q;cases q
 have hl:us.length=ps.length:=by rw[<- r.length];exact F.len _ _ _ _ h
 refine wpAny_call (codeAny_mono (F.run X.A X.stack s (mE cl s.heap H) ⟨us,[]⟩ us vs _ E0 hr e0 (by have:=hb s us I.kIn (by simpa using hl);simpa using this) r h) fun rr s' hq=>?_)
 cases rr with
 | error e=>exact uw pins σ H s e s' I hq
 | ok fl =>
  cases fl with
  | next=>exact False.elim hq
  | brk=>exact False.elim hq
  | cont=>exact False.elim hq
  | ret u =>
   obtain⟨v,H',os,bare,un,hok',rv,q⟩:=hq
   obtain⟨hh,g,d,tt,os'⟩:=s'
   obtain rfl:os'=s.os:=os
   have ck:∀{b:Addr},lX cl b=true->∃o,s.heap.get? b=some o/\H' b=some (oH o)/\hh.get? b=some o:=fun {b} hb=>by
    obtain⟨o,_,e,_⟩:=cellO hb
    have z:=un.frzs b o _ (fun y w=>by cases w) (oh hb e)
    exact⟨o,e,z,(hok' b _ z).1⟩
   have bk:∀{b:Addr} {u:HO},H' b=some u->(∀o,u≠oH o)->m6 cl H' b=some u:=fun {b u} e n=>by
    cases qq:lX cl b with
    | false=>rw[mf qq];exact e
    | true=>obtain⟨o,_,z,_⟩:=ck qq;rw[e] at z;cases z;exact absurd rfl (n o)
   refine⟨v,m6 cl H',I.call (h':=hh) (g':=g) (d':=d) (t':=tt) (ch:=[]) ⟨fun b o e n hf hx=>?_,fun b o e n hf hx=>?_,fun b o e n hx=>?_,fun b o e hx=>un.there b o e hx,fun b xs e=>bk (un.tups b xs (tk e)) (fun o z=>by cases z),fun b o u ny e=>?_,fun b a d' e=>bk (un.tbls b a d' (tk e)) (fun o z=>by cases z)⟩ (fun b u e=>?_) bare (fun b z=>absurd z (by simp)),rv,q⟩
   ·cases qq:lX cl b with
    | true=>obtain⟨o',e1,_,e2⟩:=ck qq;rw[e] at e1;cases e1;exact e2
    | false=>exact un.keep b o e (by rw[lq qq];exact n) hf hx
   ·cases qq:lX cl b with
    | true=>obtain⟨o',e1,_,e2⟩:=ck qq;rw[e] at e1;cases e1;exact⟨o.slots,e2⟩
    | false=>exact un.slot b o e (by rw[lq qq];exact n) hf hx
   ·cases qq:lX cl b with
    | true=>exact rV qq
    | false=>rw[mf qq];exact un.free b o e (by rw[lq qq];exact n) hx
   ·rw[mf (nC e)];exact un.frzs b o u ny (tk e)
   ·cases qq:lX cl b with
    | true=>rw[rV qq] at e;cases e
    | false =>
     rw[mf qq] at e
     exact(hok' b u e).stay (fun _ _ _ g=>g) (fun c g=>bk g fun o z=>by cases z) (fun c xs g=>bk g fun o z=>by cases z) fun c a d g=>bk g fun o z=>by cases z
end
theorem AA {l:W.OpenLaw} {n k:Nat} {q:Program} {loose:List Str} {XP:(Str->Option Value)->Heap->Prop} {YP:World->Heap->Prop} {d:DefRec} {K:Params->W.Frag} {CX:World->wc} {sp:World->List kR->Sp} {x:Str}
    (hn:l.most=some n) (hn2:n<=sizeLine) (hdf:d.params.defaults=[]) (hr:lb k callerA)
    (hY:∀(w:World) (h:Heap),YP w h->(K w.params).In h)
    (F:∀(w:World) (mg:Str->Option Value) (fa:Addr) (h:Heap),(K w.params).In h->h.Ns mainGlobals mg->mg d.name=some (.ref fa) ->
      ∃(ts:List kR) (fd:FuncData),(∀t∈ts,(K w.params).lookup t.P=none/\∃y d',(recsOf q).find? (fun e=>e.name==y)=some d'/\W.tabIn (K w.params) y=some (t.c,t.P))/\(∀(s:Shared) (u:Value),BindsTo s fd ⟨[u],[]⟩ [(x,u)]) /\
        ∀base:Heap,(K w.params).In base->base.Ns mainGlobals mg->lz mg ts base->kT l.prog w (K w.params) mg base (CX w) k fa fd [x] (sp w ts))
    (hsp:∀(w:World) (ts:List kR) (H:Hp) (a:Addr) (ns:List Int),ns.length<=n->yH ts a H->(∀t∈ts,t.P≠a)->nO (K w.params) H a (ns.map V.int)->sp w ts [.ref a] H (fun v _=>v=.bl true) fun _ _ _=>False)
    (hCX:∀(w:World) (H:Hp) (s:Shared) (e:Value) (s':Shared),CX w [] H s (fun _ _ _=>False) e s'->False) :
    W.WalkO q loose XP YP l.row.toRowW d [] (fun f vs=>PySem.call f vs):=by
  refine Att.attach_call hn hdf fun w s₀ s₁ mg mb fa o pm cd doc a vs ns G Y ho hd hcd hmg hobj hints hlen hg=>?_
  have KX:=hY w _ Y
  obtain⟨ts,fd,hts,hb,hF⟩:=F w mg fa _ KX G.T.g hmg
  refine ze KX G.T.g G.T.b G.T.builtins G.T.nolimit hg hobj hints (Nat.le_trans hlen hn2) hr (fun t ht=>?_) (fun t ht=>(hts t ht).1) ?_ hF hb (fun H hO hP hS=>hsp w ts H a ns hlen hO hP hS) fun H e s'=>hCX w H s₁ e s'
  · obtain⟨_,y,d',h1,h2⟩:=hts t ht
    exact W.tab_of G.T KX h1 h2
  · obtain⟨bm,ob,b1,b2,b3,b4,b5,b6⟩:=G.T.bmain
    refine⟨bm,ob,b1,b2,fun z=>?_,b3,b4,b5,b6⟩
    obtain⟨o',es,ep,e,hd',_⟩:=G.T.g
    rw[z,e] at b3;cases b3;rw[hd'] at b6;cases b6
section
variable{X:Cx}{pins:List (Addr×Obj)}{σ:L2.St}{H Hp':Hp}{s:Shared}{pos:Pos}
structure ym (X:Cx) (cl:List (Str×Addr)) (σ:L2.St) (H H':Hp):Prop where
 out:∀b,lX cl b=false->H' b=H b
 cel:∀b,lX cl b=true->H b=none/\∃o v,H' b=some (oH o)/\o.data=.cell v
 val:∀(i:Nat) (x:Str) (c:Addr) (v:V),X.N[i]?=some x->σ[i]?=some (some v)->cl.lookup x=some c->∃o u,H' c=some (oH o)/\o.data=.cell (some u)/\RelV v u
structure yT (X:Cx) (cl:List (Str×Addr)):Prop where
 fn:∀x,X.fn x=true
 ndc:(cl.map (·.1)).Nodup
 of:∀x c,cl.lookup x=some c->X.env.cells.lookup x=some c/\X.env.scope.names.lookup x=some .cell
theorem yT.lk{cl:List (Str×Addr)}(o:yT X cl):∀b,lX cl b=true->∃x,X.env.cells.lookup x=some b:=fun b hb=>by
 obtain⟨p,hp,e⟩:=List.any_eq_true.mp hb
 exact⟨p.1,(o.of p.1 b (m5 o.ndc (by rw[<- eq_of_beq e];exact hp))).1⟩
theorem wy{cl:List (Str×Addr)}(o:yT X cl)(I:L2.Inv X pins σ H s):ym X cl σ H (mE cl s.heap H):=by
 refine⟨fun b hb=>lq hb,fun b hb=>?_,fun i x c v h1 h2 h3=>?_⟩
 ·obtain⟨x,hx⟩:=o.lk b hb
  obtain⟨v,ob,e,d⟩:=I.cell x b hx
  exact⟨I.freeC x b hx,ob,v,oh hb e,d⟩
 ·obtain⟨hx,hk⟩:=o.of x c h3
  obtain⟨m,_,hl⟩:=I.loc
  obtain⟨u,rv,lk⟩:=hl i x v h1 h2 (.inr (.inl hk))
  rcases lk with ⟨z,_⟩ | ⟨_,c2,e2,ob,g,d⟩
  ·exact absurd (show some NameKind.cell=some NameKind.local from hk.symm.trans z) (by simp)
  ·rw[hx] at e2
   cases e2
   exact⟨ob,u,oh (wU h3) g,d,rv⟩
theorem ig{x:Str}{e:Expr}{es:List Expr}{k:Nat}{f:Addr}{fd:FuncData}{ps:List Str}{sp:Sp}{t:TA}{p:Pos}{cl:List (Str×Addr)}(F:kT X.prog X.w X.K X.mg X.base mi k f fd ps sp)(hr:lb k X.A)(hg:Gl X x)(hm:X.mg x=some (.ref f))(hk:W.keepIn X.K (.ref f)=true)(hb:Binds X.K fd ps [])(o:yT X cl)
  (ha:PA X (e::es) t) (hdb:(x==("__debug__" : Str))=false:=by decide) (he:starEach (e::es) X.env=(false,eval e X.env)::starEach es X.env:=by rfl) (hpl:(backTo pos (starEach es X.env)).any (·.1)=false:=by rfl) :
  PE X (.Call (.Name x p) (e::es) [] pos) fun σ H Q=>t σ H fun vs H1=>∀H2,ym X cl σ H1 H2->sp vs H2 (fun v H'=>Q v (m6 cl H')) E0:=by
 intro pins s σ H Q I h
 refine wpAny_Call_Name_kw (eN I hg hm ?_ hdb)
 refine W.callWith_K (h₀:=X.base) I.ok.mod.kin hk (lA (ha pos pins s σ H _ I h) fun us s1 ⟨vs,H1,I1,r,q⟩=>⟨I1.kIn,?_⟩) he hpl
 exact Bz F hr hb o.fn o.lk I1 r (q _ (wy o I1))
end
end HW
namespace HW
open PySem
mutual
def Hs:D->Bool
 | .tup xs=>nofs xs
 | .lst xs=>nofs xs
 | .fro _=>false
 | .obj ..=>false
 | .dct ..=>false
 | .dcp ..=>false
 | .cl ..=>false
 | _=>true
def nofs:LD->Bool
 | []=>true
 | x::xs=>Hs x&&nofs xs
end
def vx:D->Bool
 | .dct _ ds=>lE ds
 | .dcp _ ds=>lE ds
 | d=>mV d
theorem Bt{d:D}(h:mV d=true):vx d=true:=by cases d<;>first | exact h | cases h
abbrev vT:=mS->Option (LD->OD)
def qp(L:vT)(i:Nat)(F:R->Option LD):R->OD:=fun ρ=>(i4 i ρ).bind fun c=>(F ρ).bind fun as=>match c with
 | .cl t _ ds=>(L t).bind fun G=>if lE as=true/\lE ds=true/\as.length=t.ps.length then (G (as++ds)).bind fun d=>if mV d then some d else none else none
 | _=>none
def pd(n:Nat)(g:R->OD):LD->OD:=fun xs=>if xs.length=n then g (xs.map some) else none
def ni:List Nat->R->Option LD
 | [],_=>some []
 | j::js,ρ=>(i4 j ρ).bind fun d=>(ni js ρ).map (d::·)
def oe(G:LD->OD)(t:mS)(F C:R->Option LD):R->OD:=fun ρ=>(F ρ).bind fun as=>(C ρ).bind fun caps=>open Classical in
 if h:lE caps=true/\∃d,vx d=true/\∀a,G (as++[.cl t a caps])=some d then some h.2.choose else none
theorem sP{G:LD->OD}{t:mS}{F C:R->Option LD}{ρ:R}{as caps:LD}{d:D}(h1:F ρ=some as)(h2:C ρ=some caps)(h3:lE caps=true)(h4:vx d=true)(h5:∀a,G (as++[.cl t a caps])=some d):oe G t F C ρ=some d:=by
 unfold oe
 rw[h1,Option.bind_some,h2,Option.bind_some,dif_pos ⟨h3,d,h4,h5⟩]
 have z:=(show ∃d,vx d=true/\∀a,G (as++[.cl t a caps])=some d from⟨d,h4,h5⟩).choose_spec.2 0
 rw[h5 0] at z
 exact congrArg some (Option.some.inj z).symm
theorem zO{G:LD->OD}{t:mS}{F C:R->Option LD}{ρ:R}{d:D}(h:oe G t F C ρ=some d):∃as caps,F ρ=some as/\C ρ=some caps/\lE caps=true/\vx d=true/\∀a,G (as++[.cl t a caps])=some d:=by
 unfold oe at h
 cases e:F ρ with
 | none=>rw[e] at h;cases h
 | some as =>
  rw[e,Option.bind_some] at h
  cases e2:C ρ with
  | none=>rw[e2] at h;cases h
  | some caps =>
   rw[e2,Option.bind_some] at h
   split at h
   ·rename_i q
    cases h
    exact⟨as,caps,rfl,rfl,q.1,q.2.choose_spec⟩
   ·cases h
def sB(i:Nat):Stmt->Stmt
 | .For _ _ b _ _=>b.getD i (.Pass ⟨0,0,0,0⟩)
 | .If _ b _ _=>b.getD i (.Pass ⟨0,0,0,0⟩)
 | .FunctionDef _ _ b ..=>b.getD i (.Pass ⟨0,0,0,0⟩)
 | s=>s
def sV:Stmt->Expr
 | .Assign _ v ..=>v
 | .Return (some v) _=>v
 | .Expr v _=>v
 | _=>.Name "" ⟨0,0,0,0⟩
def eA(i:Nat):Expr->Expr
 | .Call _ a _ _=>a.getD i (.Name "" ⟨0,0,0,0⟩)
 | e=>e
def yD(q:Str)(N ps:List Str):Expr->mS
 | .Lambda a b c _=>⟨q,a,b,c,N,ps⟩
 | _=>default
def Gf:Expr->Nat
 | .Call _ _ _ p=>p.line
 | _=>0
end HW
namespace HW
open PySem PySem.Spec PyProof.Rows L2
section
variable{K:W.Frag}{H H':Hp}
theorem mG.clo{a:Addr}{xs:List V}(s:∀b u,H b=some u->(∀o,u≠oH o)->H' b=some u)(h:mG K H a xs):mG K H' a xs:=by
 rcases h with (h | ⟨o,h⟩) | h
 ·exact .inl (.inl (s _ _ h fun o z=>by cases z))
 ·exact .inl (.inr ⟨o,s _ _ h fun o z=>by cases z⟩)
 ·exact .inr h
theorem nO.clo{a:Addr}{xs:List V}(s:∀b u,H b=some u->(∀o,u≠oH o)->H' b=some u)(h:nO K H a xs):nO K H' a xs:=by
 rcases h with (h | ⟨o,h⟩) | h
 ·exact .inl (.inl (s _ _ h fun o z=>by cases z))
 ·exact .inl (.inr ⟨o,s _ _ h fun o z=>by cases z⟩)
 ·exact .inr h
mutual
theorem Rep.clo(s:∀b u,H b=some u->(∀o,u≠oH o)->H' b=some u):∀{d:D} {v:V},mV d=true->Rep K H d v->Rep K H' d v
 | .non,_,_,h=>h
 | .bl _,_,_,h=>h
 | .int _,_,_,h=>h
 | .str _,_,_,h=>h
 | .tup ds,_,hn,h=>by
  obtain⟨a,xs,e,q,r⟩:=h
  exact⟨a,xs,e,mG.clo s q,i9.clo s hn r⟩
 | .lst ds,_,hn,h=>by
  obtain⟨a,xs,e,q,r⟩:=h
  exact⟨a,xs,e,s _ _ q (fun o z=>by cases z),i9.clo s hn r⟩
 | .fro ds,_,hn,h=>by
  obtain⟨a,xs,e,q,r⟩:=h
  exact⟨a,xs,e,nO.clo s q,i9.clo s hn r⟩
 | .obj ..,_,hn,_=>by cases hn
 | .dct ..,_,hn,_=>by cases hn
 | .dcp ..,_,hn,_=>by cases hn
 | .cl ..,_,hn,_=>by cases hn
theorem i9.clo(s:∀b u,H b=some u->(∀o,u≠oH o)->H' b=some u):∀{ds:LD} {vs:List V},lE ds=true->i9 K H ds vs->i9 K H' ds vs
 | [],_,_,h=>h
 | d::ds,_,hn,h=>by
  have hn':(mV d&&lE ds)=true:=hn
  rw[Bool.and_eq_true] at hn'
  obtain⟨v,r,e,q,t⟩:=h
  exact⟨v,r,e,Rep.clo s hn'.1 q,i9.clo s hn'.2 t⟩
end
theorem Rep.cloC(s:∀b u,H b=some u->(∀o,u≠oH o)->H' b=some u){d:D}{v:V}(hn:vx d=true)(h:Rep K H d v):Rep K H' d v:=by
 match d,hn,h with
 | .dct ks ds,hn,h =>
  obtain⟨a,xs,e,⟨hl,o,q⟩,r⟩:=h
  exact⟨a,xs,e,⟨hl,o,s _ _ q (fun o' z=>by cases z)⟩,i9.clo s hn r⟩
 | .dcp ks ds,hn,h =>
  obtain⟨a,kas,xs,e,q,r⟩:=h
  obtain⟨⟨h1,h2,h3⟩,o,P,w,h4,h5⟩:=q
  exact⟨a,kas,xs,e,⟨⟨h1,h2.to (fun _ _=>mG.clo s),h3⟩,o,P,w,s _ _ h4 (fun o' z=>by cases z),h5⟩,i9.clo s hn r⟩
 | .non,hn,h=>exact Rep.clo s hn h
 | .bl _,hn,h=>exact Rep.clo s hn h
 | .int _,hn,h=>exact Rep.clo s hn h
 | .str _,hn,h=>exact Rep.clo s hn h
 | .tup _,hn,h=>exact Rep.clo s hn h
 | .lst _,hn,h=>exact Rep.clo s hn h
 | .fro _,hn,h=>exact Rep.clo s hn h
 | .obj ..,hn,h=>cases hn
 | .cl ..,hn,h=>cases hn
theorem sh{cl:List (Str×Addr)}(hC:∀b,lX cl b=true->∃o,H b=some (oH o)):∀b u,H b=some u->(∀o,u≠oH o)->m6 cl H b=some u:=fun b u e n=>by
 cases q:lX cl b with
 | false=>rw[mf q];exact e
 | true =>
  obtain⟨o,z⟩:=hC b q
  rw[e] at z
  exact absurd (Option.some.inj z) (n o)
theorem gI:∀{ds:LD} {vs:List V},i9 K H ds vs->lW K H (ds.map some) (vs.map some):=fun {ds vs} r=>by
 refine⟨by rw[List.length_map,List.length_map,r.length];exact Nat.le_refl _,fun i d h=>?_⟩
 rw[List.getElem?_map] at h
 obtain⟨d',e,q⟩:=lK h
 cases q
 obtain⟨v,h1,h2⟩:=r.get e
 exact⟨v,by rw[List.getElem?_map,h1];rfl,h2⟩
end
def HA(K:W.Frag)(t:mS)(G:LD->OD)(f c':Addr)(cl:List (Str×Addr))(pm ctv:Value):Sp:=fun vs H Q _=>∃as ds caps d,H f=some (oH (W.kla_obj "<lambda>" t.q t.params t.body t.scope cl pm c' ctv))/\H c'=some (.tbl t.q true)/\pC H t.N t.ps cl caps /\
 as.length=t.ps.length/\i9 K H as vs/\i9 K H ds caps/\lE as=true/\lE ds=true/\G (as++ds)=some d/\mV d=true/\∀v H',ku H H'->Rep K H' d v->Q v H'
structure nJ (P:Program) (w:World) (K:W.Frag) (mg:Str->Option Value) (base:Heap) (k:Nat) (t:mS) (G:LD->OD):Prop where
 ok:∀(f c':Addr) (cl:List (Str×Addr)) (pm ctv:Value),og t.N t.ps t.scope cl->kT P w K mg base mi k f (W.kla_fn "<lambda>" t.q t.params t.body t.scope cl pm (.ref c') ctv) t.ps (HA K t G f c' cl pm ctv)
 bd:∀(c':Addr) (cl:List (Str×Addr)) (pm ctv:Value),Binds K (W.kla_fn "<lambda>" t.q t.params t.body t.scope cl pm (.ref c') ctv) t.ps []
theorem nJ.m{P:Program}{w:World}{K:W.Frag}{mg:Str->Option Value}{base:Heap}{k k':Nat}{t:mS}{G:LD->OD}(h:nJ P w K mg base k t G)(hk:k<=k':=by decide):nJ P w K mg base k' t G:=
 ⟨fun f c' cl pm ctv S=>(h.ok f c' cl pm ctv S).mono hk,h.bd⟩
theorem vm{P:Program}{w:World}{K:W.Frag}{mg:Str->Option Value}{base:Heap}{k:Nat}{t:mS}{g:R->OD}
  (hb:∀(cl:List (Str×Addr)) (f c':Addr) (A:Around) (outer:List Env) (s:Shared) (H:Hp) (E:XK),og t.N t.ps t.scope cl->lb k (A.deeper (W.envX t.q t.scope s.heap.objs.size f (.ref c') cl))->SE (yh mi P w K mg base t.N t.q t.scope cl f (.ref c') A outer s H E) t.body g)
  (bd:∀(c':Addr) (cl:List (Str×Addr)) (pm ctv:Value),Binds K (W.kla_fn "<lambda>" t.q t.params t.body t.scope cl pm (.ref c') ctv) t.ps []):nJ P w K mg base (k+1) t (pd t.N.length g):=by
 refine⟨fun f c' cl pm ctv S=>Dn S (fun vs H Q E ⟨as,ds,caps,d,_,_,_,hl,r,_⟩=>by rw[<- r.length];exact hl) (fun vs H Q E ⟨as,ds,caps,d,h1,h2,_⟩=>⟨h1,h2⟩) (fun A outer s H vs Q E hr _ h=>?_),bd⟩
 obtain⟨as,ds,caps,d,h1,h2,h3,hl,r1,r2,n1,n2,e,nd,q⟩:=h
 have hC:∀b,lX cl b=true->∃o,H b=some (oH o):=fun b hb=>let ⟨o,_,z,_⟩:=h3.2.1 b hb;⟨o,z⟩
 have dc:=sh hC
 unfold pd at e
 split at e
 case isFalse=>cases e
 case isTrue hlen =>
 refine⟨caps,_,h3,hb cl f c' A outer s H E S hr,(as++ds).map some,d,?_,e,fun v H2 s2 rv bk=>q v _ (fun b u hu=>?_) (rv.mono fun b u hu=>bk b u hu)⟩
 ·exact gI (i9.append (i9.clo dc n1 r1) (i9.clo dc n2 r2))
 ·show(if lX cl b then H b else H2 b)=some u
  cases qc:lX cl b with
  | true=>exact hu
  | false=>exact s2 b u (by rw[mf qc];exact hu)
section
variable{X:Cx}{pos p:Pos}{e:Expr}{es:List Expr}{k i:Nat}{F:R->Option LD}
theorem gR{x:Str}{L:vT}(i:Nat)(LO:∀t G,L t=some G->nJ X.prog X.w X.K X.mg X.base k t G)(hr:lb k X.A)(ha:SA X (e::es) F)(hN:X.N[i]?=some x:=by rfl)(hv:vC X.env.scope x:=by first | exact Or.inl rfl | exact Or.inr (Or.inl rfl) | exact Or.inr (Or.inr rfl))
  (hd:(x==("__debug__" : Str))=false:=by decide) (hcd:(x==("__classdict__" : Str))=false:=by decide):SE X (.Call (.Name x p) (e::es) [] pos) (qp L i F):=by
 have hst:=ha.2.2
 rw[List.all_cons,Bool.and_eq_true] at hst
 have he:=aw es X.env hst.1
 have hpl:=bo (pos:=pos) (env:=X.env) hst.2
 intro pins s σ H Q I ⟨ρ,d,er,e0,q⟩
 obtain⟨c,hat,e1⟩:=kx e0
 obtain⟨as,eF,e2⟩:=kx e1
 match c,hat,e2 with
 | .cl t a ds,hat,e2 =>
 obtain⟨G,hG,e3⟩:=kx e2
 split at e3
 case isFalse=>cases e3
 case isTrue hc =>
 obtain⟨n1,n2,hl⟩:=hc
 obtain⟨d',hd',e4⟩:=kx e3
 split at e4
 case isFalse=>cases e4
 case isTrue nd =>
 cases e4
 obtain⟨v,hσ,rv⟩:=er.at hat
 obtain⟨ev,cl,xs,pm,ctv,c',h1,h2,S,h3,r⟩:=rv
 subst ev
 have lo:=LO t G hG
 refine gO (lo.ok a c' cl pm ctv S) (lo.bd c' cl pm ctv) hr ha.1 he hpl hN hv hd hcd pins s σ H Q I ⟨hσ,ρ,as,er,eF,fun vs H1 s1 r1=>⟨s1 _ _ h1,as,ds,xs,d,s1 _ _ h1,s1 _ _ h2,h3.to fun b o z=>s1 _ _ z,hl,r1,r.mono s1,n1,n2,hd',nd,fun u H2 s2 r2=>q u H2 (s1.trans s2) r2⟩⟩
end
theorem sj{K:W.Frag}{H:Hp}{ρ:R}{σ:L2.St}(er:lW K H ρ σ):∀{js:List Nat} {cs:LD},ni js ρ=some cs->∃vs,i9 K H cs vs/\vs.length=js.length/\∀(i j:Nat) (v:V),js[i]?=some j->vs[i]?=some v->σ[j]?=some (some v)
 | [],_,h=>by cases h;exact⟨[],rfl,rfl,fun i j v h=>by cases h⟩
 | j::js,cs,h=>by
  obtain⟨d,e1,h⟩:=kx h
  obtain⟨cs',e2,rfl⟩:=lK h
  obtain⟨v,hσ,rv⟩:=er.at e1
  obtain⟨vs,r,hl,hg⟩:=sj er e2
  refine⟨v::vs,⟨v,vs,rfl,rv,r⟩,by simp[hl],fun i j' v' h1 h2=>?_⟩
  cases i with
  | zero=>cases h1;cases h2;exact hσ
  | succ i=>exact hg i j' v' h1 h2
def Er(K:W.Frag)(t:mS)(cl:List (Str×Addr))(Pt:Addr)(F:R->Option LD):TA:=fun σ H Q=>∃ ρ as,lW K H ρ σ/\F ρ=some as/\H Pt=some (.tbl t.q false) /\
 ∀vs f c' ctv pm H',ku H H'->i9 K H' as vs->H f=none->H' f=some (oH (W.kla_obj "<lambda>" t.q t.params t.body t.scope cl pm c' ctv))->H' c'=some (.tbl t.q true)->Q (vs++[.ref f]) H'
section
variable{X:Cx}{pos p:Pos}{e:Expr}{es:List Expr}{k:Nat}{F:R->Option LD}{t:mS}{cl:List (Str×Addr)}{ct:kR}{ts:List kR}
theorem zQ(TB:lz X.mg ts X.base)(ht:ct∈ts)(hcode:X.env.code=.ref ct.c)(hq:X.env.qual ++ "<lambda>" = ct.q)(htq:t.q=ct.q)(hcl:closureFor t.scope X.env=pure cl)(hdef:defaultsOf t.params X.env=([],[]):=by rfl):PA X [.Lambda t.params t.body t.scope pos] (Er X.K t cl ct.P i5):=
 (ce (iz (pos:=pos) TB ht hcode hq hcl hdef) xo).imp fun σ H Q ⟨ρ,as,er,e,hP,q⟩=>by
  cases e
  rw[htq] at hP
  refine⟨hP,fun f c' ctv pm H' sm hn h1 h2=>?_⟩
  rw[<- htq] at h1 h2
  exact q [] f c' ctv pm H' sm rfl hn h1 h2
theorem tG{f:R->OD}{Pt:Addr}(ha:SE X e f)(hr:PA X es (Er X.K t cl Pt F))(hs:noStar e=true:=by rfl):PA X (e::es) (Er X.K t cl Pt (i3 f F)):=
 (ce ha hr (aw es X.env hs)).imp fun σ H Q ⟨ρ,as,er,e,hP,q⟩=>by
  obtain⟨x,e1,e⟩:=kx e
  obtain⟨y,e2,e⟩:=lK e
  subst e
  refine⟨ρ,x,er,e1,fun v H1 s1 r1=>⟨ρ,y,er.mono s1,e2,s1 _ _ hP,fun vs g c' ctv pm H2 s2 r2 hn h1 h2=>q (v::vs) g c' ctv pm H2 (s1.trans s2) (i9.cons (r1.mono s2) r2) ?_ h1 h2⟩⟩
  cases hb:H g with
  | none=>rfl
  | some u=>rw[s1 g u hb] at hn;cases hn
theorem g_{x:Str}{G:LD->OD}{ps:List Str}{js:List Nat}{Pt:Addr}(C:mL X.prog X.w X.K X.mg X.base k x ps G)(hr:lb k X.A)(hT:X.H₀ Pt=some (.tbl t.q false))(o:yT X cl)(S:og t.N t.ps t.scope cl)
  (hjs:js.map (fun j=>X.N[j]?)=(t.N.drop t.ps.length).map some) (hcn:∀y c,cl.lookup y=some c->y∈t.N.drop t.ps.length) (ha:PA X (e::es) (Er X.K t cl Pt F)) (hst:(e::es).all noStar=true:=by rfl) (hg:Gl X x:=by rfl) (hdb:(x==("__debug__" : Str))=false:=by decide) :
  SE X (.Call (.Name x p) (e::es) [] pos) (oe G t F (ni js)):=by
 rw[List.all_cons,Bool.and_eq_true] at hst
 have he:=aw es X.env hst.1
 have hpl:=bo (pos:=pos) (env:=X.env) hst.2
 obtain⟨fa,fd,fok,hm,kp,bd⟩:=C.ex
 intro pins s σ H Q I ⟨ρ,d,er,e0,q⟩
 obtain⟨as,cs,eF,eC,nc,nd,hG⟩:=zO e0
 refine ig fok hr hg hm kp bd o ha hdb he hpl pins s σ H Q I ⟨ρ,as,er,eF,I.base.tbls _ _ _ hT,fun vs f c' ctv pm H1 s1 r1 hn h1 h2 H2 tr=>?_⟩
 have s12:ku H1 H2:=fun b u hb=>by
  cases qc:lX cl b with
  | false=>rw[tr.out b qc];exact hb
  | true=>rw[(tr.cel b qc).1] at hb;cases hb
 obtain⟨cvs,rc,hl,hg'⟩:=sj (er.mono s1) eC
 have hlen:js.length=t.N.length - t.ps.length:=by
  have:=congrArg List.length hjs
  rw[List.length_map,List.length_map,List.length_drop] at this
  exact this
 have at_i:∀(i:Nat) (y:Str),(t.N.drop t.ps.length)[i]?=some y->∃j,js[i]?=some j/\X.N[j]?=some y:=fun i y hy=>by
  have h:=congrArg (fun l=>l[i]?) hjs
  simp only[List.getElem?_map] at h
  rw[hy] at h
  cases hj:js[i]? with
  | none=>rw[hj] at h;cases h
  | some j=>rw[hj] at h;exact⟨j,rfl,Option.some.inj h⟩
 have caps:pC H2 t.N t.ps cl cvs:=by
  refine⟨by rw[hl,hlen],fun b hb=>?_,fun i y v hy hv=>?_⟩
  ·obtain⟨pr,hp,ep⟩:=List.any_eq_true.mp hb
   have hlk:cl.lookup pr.1=some b:=m5 o.ndc (by rw[<- eq_of_beq ep];exact hp)
   obtain⟨i,hi⟩:=List.getElem?_of_mem (hcn _ _ hlk)
   obtain⟨j,hj,hN⟩:=at_i i _ hi
   have hil:i<cvs.length:=by rw[hl];exact(List.getElem?_eq_some_iff.mp hj).1
   obtain⟨ob,u,z1,z2,_⟩:=tr.val j _ b cvs[i] hN (hg' i j _ hj (List.getElem?_eq_getElem hil)) hlk
   exact⟨ob,u,z1,z2⟩
  ·obtain⟨j,hj,hN⟩:=at_i i y hy
   obtain⟨c,hc⟩:=S.has y (S.fre y (List.mem_of_getElem? hy))
   obtain⟨ob,u,z1,z2,z3⟩:=tr.val j y c v hN (hg' i j v hj hv) hc
   exact⟨c,ob,u,hc,z1,z2,z3⟩
 refine⟨as++[.cl t f cs],d,?_,hG f,fun v H' s2 rv=>q v _ (fun b u hb=>?_) (Rep.cloC (sh fun b hb=>?_) nd rv)⟩
 ·exact i9.append (r1.mono s12) (i9.one ⟨rfl,cl,cvs,pm,ctv,c',s12 _ _ h1,s12 _ _ h2,S,caps,rc.mono s12⟩)
 ·have hb1:=s1 b u hb
  cases qc:lX cl b with
  | true=>rw[(tr.cel b qc).1] at hb1;cases hb1
  | false=>rw[mf qc];exact s2 b u (s12 b u hb1)
 ·obtain⟨_,ob,_,z,_⟩:=tr.cel b hb
  exact⟨ob,s2 _ _ z⟩
end
structure tZ (K:W.Frag) (x qual:Str) (st:Stmt) (f:Addr) (fd:FuncData) (c:Addr):Prop where
 ex:∃(oc:Value) (od:Option Addr) (kV doc pm:Value) (an:Option Addr) (ct:Value) (osl:Array (Option Value)),
  fd=W.fnOf x qual (lD st) (k7 st) (i7 st) .none kV doc pm an (.ref c) ct/\K.lookup f=some ⟨oc,od,.func fd,osl⟩/\W.codeIn K (.ref c) qual=true
 kp:W.keepIn K (.ref f)=true
def spT(K:W.Frag)(F:LD->OD)(t:kR):Sp:=fun vs H Q E=>H t.P=some (.tbl t.q false)/\rS K F vs H Q E
theorem dZ{P:Program}{w:World}{K:W.Frag}{mg:Str->Option Value}{base:Heap}{x qual:Str}{st:Stmt}{f:Addr}{fd:FuncData}{N ps:List Str}{k:Nat}{F:LD->OD}{g:R->Option Out}{t:kR}
  (Fn:tZ K x qual st f fd t.c) (S:kL N ps (i7 st)) (hlen:∀ds d,F ds=some d->ds.length=ps.length)
  (hb:∀(A:Around) (outer:List Env) (s:Shared) (H:Hp) (E:XK),lb k (A.deeper (envOfC qual (i7 st) s.heap.objs.size f (.ref t.c)))->H t.P=some (.tbl t.q false)->SS (pK mi P w K mg base N qual (i7 st) f (.ref t.c) A outer s H E).nox (k7 st) g)
  (hF:∀ds d,F ds=some d->k_ (g (pe N.length ds))=some d):kT P w K mg base mi (k+1) f fd ps (spT K F t):=by
 obtain⟨oc,od,kV,doc,pm,an,ct,osl,rfl,lk,hcd⟩:=Fn.ex
 refine ir lk hcd S (fun vs H Q E h=>?_) (fun A outer s H vs Q E hr h=>?_)
 ·obtain⟨_,ds,d,r,e,_⟩:=h
  rw[<- r.length]
  exact hlen ds d e
 ·obtain⟨hT,ds,d,r,e,q⟩:=h
  refine⟨_,(hb A outer s H E hr hT).nox,?_⟩
  have z:=hF ds d e
  cases ho:g (pe N.length ds) with
  | none=>rw[ho] at z;cases z
  | some o =>
   rw[ho] at z
   refine⟨pe N.length ds,_,o,(qo r).t,ho,fun H1 s1=>?_⟩
   cases o with
   | rt d'=>cases (show d'=d from Option.some.inj z);exact fun v rv=>q v H1 s1 rv
   | nx ρ=>cases (show D.non=d from Option.some.inj z);exact fun σ _=>q .non H1 s1 rfl
   | bk ρ=>cases z
   | ct ρ=>cases z
structure pZ (X:Cx) (t:mS) (cl:List (Str×Addr)) (ct:kR) (js:List Nat):Prop where
 TB:lz X.mg [ct] X.base
 hT:X.H₀ ct.P=some (.tbl ct.q false)
 tq:t.q=ct.q
 code:X.env.code=.ref ct.c
 qual:X.env.qual ++ "<lambda>" = ct.q
 hcl:closureFor t.scope X.env=pure cl
 hdf:defaultsOf t.params X.env=([],[])
 own:yT X cl
 sc:og t.N t.ps t.scope cl
 hjs:js.map (fun j=>X.N[j]?)=(t.N.drop t.ps.length).map some
 hcn:∀y c,cl.lookup y=some c->y∈t.N.drop t.ps.length
theorem wA{X:Cx}{t:mS}{ct:kR}{x:Str}{c:Addr}{j:Nat}(TB:lz X.mg [ct] X.base)(hT:X.H₀ ct.P=some (.tbl ct.q false))(tq:t.q=ct.q)(code:X.env.code=.ref ct.c)(qual:X.env.qual ++ "<lambda>" = ct.q)
  (fn:∀x,X.fn x=true) (hcl:closureFor t.scope X.env=pure [(x,c)]) (hdf:defaultsOf t.params X.env=([],[])) (hcell:X.env.cells.lookup x=some c) (hk:X.env.scope.names.lookup x=some .cell) (hN:X.N[j]?=some x)
  (kd:t.scope.kind=.function) (co:t.scope.isCoroutine=false) (gen:t.scope.isGenerator=false) (nd:t.N.Nodup) (hn:t.N=t.ps++[x]) (par:∀y∈t.ps,t.scope.names.lookup y=some .local) (noc:∀y∈t.scope.names,y.2≠.cell)
  (fre:t.scope.names.lookup x=some .free) (only:∀y∈t.scope.names,y.2=.free->y.1=x):pZ X t [(x,c)] ct [j]:=by
 have hdr:t.N.drop t.ps.length=[x]:=by rw[hn,List.drop_left]
 have lk:∀y c',List.lookup y [(x,c)]=some c'->y=x/\c'=c:=fun y c' h=>by
  rw[List.lookup_cons] at h
  cases q:y==x with
  | true=>rw[q] at h;cases h;exact⟨eq_of_beq q,rfl⟩
  | false=>rw[q] at h;cases h
 have lkx:List.lookup x [(x,c)]=some c:=by rw[List.lookup_cons];simp
 refine⟨TB,hT,tq,code,qual,hcl,hdf,⟨fn,by simp,fun y c' h=>?_⟩,⟨kd,co,gen,nd,by rw[hn,List.take_left],par,noc,fun y hy=>?_,fun y hy=>?_,by simp,fun y z c' h1 h2=>by rw[(lk y c' h1).1,(lk z c' h2).1]⟩,by rw[hdr];simp[hN],fun y c' h=>by rw[hdr,(lk y c' h).1];exact List.mem_singleton.mpr rfl⟩
 ·obtain⟨rfl,rfl⟩:=lk y c' h
  exact⟨hcell,hk⟩
 ·rw[hdr] at hy
  rw[List.mem_singleton.mp hy]
  exact fre
 ·have:=only _ (PySem.mem_of_lookup hy) rfl
  rw[show y=x from this]
  exact⟨c,lkx⟩
section
variable{X:Cx}{pos p:Pos}{e:Expr}{es:List Expr}{k:Nat}{F:R->Option LD}{t:mS}{cl:List (Str×Addr)}{ct:kR}{js:List Nat}
theorem xt(o:pZ X t cl ct js):PA X [.Lambda t.params t.body t.scope pos] (Er X.K t cl ct.P i5):=
 zQ o.TB (List.mem_singleton.mpr rfl) o.code o.qual o.tq o.hcl o.hdf
theorem cO{x:Str}{G:LD->OD}{ps:List Str}(C:mL X.prog X.w X.K X.mg X.base k x ps G)(hr:lb k X.A)(o:pZ X t cl ct js)(ha:PA X (e::es) (Er X.K t cl ct.P F))(hst:(e::es).all noStar=true:=by rfl)(hg:Gl X x:=by rfl)(hdb:(x==("__debug__" : Str))=false:=by decide) :
  SE X (.Call (.Name x p) (e::es) [] pos) (oe G t F (ni js)):=g_ C hr (by rw[o.tq];exact o.hT) o.own o.sc o.hjs o.hcn ha hst hg hdb
end
def Ff(P:Program)(w:World)(K:W.Frag)(mg:Str->Option Value)(base:Heap)(k:Nat)(L:vT):Prop:=∀t G,L t=some G->nJ P w K mg base k t G
theorem Ff.mono{P:Program}{w:World}{K:W.Frag}{mg:Str->Option Value}{base:Heap}{k k':Nat}{L:vT}(h:Ff P w K mg base k L)(hk:k<=k'):Ff P w K mg base k' L:=fun t G e=>(h t G e).m hk
theorem vq{K:W.Frag}{t:mS}(h:∀(c':Addr) (cl:List (Str×Addr)) (pm ctv:Value) (us:List Value),us.length=t.ps.length->bindArgs (W.kla_fn "<lambda>" t.q t.params t.body t.scope cl pm (.ref c') ctv) ⟨us,[]⟩=pure (t.ps.zip us)) :
  ∀(c':Addr) (cl:List (Str×Addr)) (pm ctv:Value),Binds K (W.kla_fn "<lambda>" t.q t.params t.body t.scope cl pm (.ref c') ctv) t.ps []:=fun c' cl pm ctv=>.all (h c' cl pm ctv)
theorem eO{K:W.Frag}{x:Str}{f c P:Addr}{oc oc2:Value}{od od2:Option Addr}{osl C9:Array (Option Value)}{fd:FuncData}{vs:Array Value}(a:W.nsIn K mainGlobals x=some (some (.ref f)))(l:K.lookup f=some ⟨oc,od,.func fd,osl⟩)(hc:fd.code=.ref c)
  (l2:K.lookup c=some ⟨oc2,od2,.fields vs,C9⟩) (h:vs[11]?=some (.ref P)):W.tabIn K x=some (c,P):=by
 unfold W.tabIn
 simp only[a,l,hc,l2,h]
end HW
namespace HW
open PySem
@[simp] def Hf:LD->OD
 | [.lst xs]=>(bools xs).map fun bs=>.bl (bs.any id)
 | _=>none
def FC:Int ⊕ Str->D
 | .inl i=>.int i
 | .inr x=>.str x
def GY(f:R->OD):R->Option LD:=fun ρ=>(f ρ).bind fun d=>match d with
 | .dct ks _=>some (ks.map FC)
 | _=>none
def pP:List (Int ⊕ Str)->Option (List Int)
 | []=>some []
 | .inl i::ks=>(pP ks).map (i::·)
 | _=>none
def w9:LD->OD
 | [.dct ks _]=>(pP ks).bind fun ns=>if ns.length<64 then some (.lst ((ph ns).map .int)) else none
 | _=>none
end HW
namespace HW
open PySem PySem.Spec PyProof.Rows L2
section
variable{X:Cx}
variable{o i:Expr}{f g:R->OD}{pos apos cpos:Pos}
end
theorem wg{P:Program}{w:World}{H:Hp}{h:Heap}{a:Addr}{o:Obj}{kvs:List (Key×V)}(ok:pL P w H h)(e:H a=some (.frz o (.dK kvs))) :
  (a==sysModules)=false/\∃vs es ep,KV kvs vs/\h.get? a=some o/\o.data=.dict es ep/\h.DictAt (kJ P w) a vs ep:=by
 obtain⟨g,z,hd,vs,r,o',es,ep,g',h1,h2,h3⟩:=(show lF P w H h a (.frz o (.dK kvs)) from ok a _ e)
 rw[g] at g'
 cases g'
 exact⟨hd,vs,es,ep,r,g,h2,o,es,g,h1,h2,h3⟩
section
variable{X:Cx}{a:Expr}{f:R->OD}
end
theorem eM:∀{vs:List Value} {ns:List Int},vs.length=ns.length->(∀(j:Nat) (v:Value) (n:Int),vs[j]?=some v->ns[j]?=some n->∃t,v=Value.int n t)->IntsAre vs ns
 | [],[],_,_=>.nil
 | v::vs,n::ns,hl,h=>by
  obtain⟨t,rfl⟩:=h 0 v n rfl rfl
  exact .cons n t (eM (by simpa using hl) fun j v' n' h1 h2=>h (j+1) v' n' h1 h2)
theorem vO {prog:Program} {w:World} {A:Around} {E:Value->Shared->Prop} {s:Shared} {T:String} {r d:Addr} {n:Nat} {P:Nat->Value->Prop} {OK:Heap->Prop} {R:List Value->Shared->Prop} (K:W.KdlSrc prog w T r d n P OK) (hh:A.handled=none) (hok:OK s.heap) (hn:n<=sizeLine)
    (h:∀(h':Heap) (tk:Nat) (acc:Array Value),(∀b o,s.heap.get? b=some o->h'.get? b=some o)->s.heap.objs.size<=h'.objs.size->ItemsOf P acc n->R acc.toList {s with heap:=h',toks:=tk}) :
    wpAny (model prog w) A (collect (.ref r)) R E s:=by
  have hlt:=K.there _ hok
  unfold collect
  refine wpAny_bind (wpAny_runValue (codeAny_builtin entry_proto_collect' ?_))
  rw[Around.under_plainId PySem.F.plain_proto_collect _]
  show wpAny _ A.in1 (newList [] >>= fun l=>again (.builtin "list.__iadd__" ⟨[l,.ref r],[]⟩)) _ _ s
  refine wpAny_bind (wpAny_newObj_type ?_)
  refine wpAny_pure ⟨plainId_quiet PySem.F.plain_list_iadd _,codeAny_builtin entry_list_iadd' ?_⟩
  rw[Around.under_plainId PySem.F.plain_list_iadd _]
  have hS:(s.heap.push {cls:=.type "list",data:=.seq ([]:List Value).toArray}).get? s.heap.objs.size=some {cls:=.type "list",data:=.seq #[]}:=Heap.get?_push_size _ rfl
  show wpAny _ A.in1 (Builtin.List.listExtendWith (.ref s.heap.objs.size) (.ref r) (.ref s.heap.objs.size)) _ _ _
  have key:=W.kdl_extend (A:=A) (s:={s with heap:=s.heap.push {cls:=.type "list",data:=.seq ([]:List Value).toArray} })
    (R:=fun (q:Result) (s':Shared)=>∃(h':Heap) (tk:Nat) (acc:Array Value) (c:Nat),q=.ok (.ret (.ref s.heap.objs.size))/\s'={s with heap:=h',toks:=tk} /\
      (∀b o,s.heap.get? b=some o->h'.get? b=some o)/\h'.get? s.heap.objs.size=some {cls:=.type "list",dict:=none,data:=.seq acc c,slots:=#[]}/\ItemsOf P acc n)
    K hh (K.keep _ _ hok fun b _ o e=>Heap.get?_push_of_some _ e) s.heap.objs.size (Nat.ne_of_gt hlt.1) (Nat.ne_of_gt hlt.2) (.ref s.heap.objs.size) 0 hS
    (fun h' tk acc c hk hS' hacc=>⟨h',tk,acc,c,rfl,rfl,fun b o e=>hk b o (Nat.ne_of_lt (Heap.lt_size e)) (Heap.get?_push_of_some _ e),hS',hacc⟩) hn
  refine wpAny_mono key (fun fin s' x=>?_) fun e s' x=>?_
  · cases fin with
    | done f =>
      obtain⟨h',tk,acc,c,e,rfl,hk,hS',hacc⟩:=x
      cases e
      show wpAny _ A (load s.heap.objs.size >>= _) _ _ _
      exact wpAny_bind (wpAny_load hS' (wpAny_pure (h h' tk acc hk (Nat.le_of_lt (Heap.lt_size hS')) hacc)))
    | again c₁ =>
      refine⟨x.1,codeAny_mono x.2 fun q s₂ y=>?_⟩
      obtain⟨h',tk,acc,c,rfl,rfl,hk,hS',hacc⟩:=y
      show wpAny _ A (load s.heap.objs.size >>= _) _ _ _
      exact wpAny_bind (wpAny_load hS' (wpAny_pure (h h' tk acc hk (Nat.le_of_lt (Heap.lt_size hS')) hacc)))
  · obtain⟨_,_,_,_,e',_⟩:=x
    cases e'
theorem wb{prog:Program}{w:World}{A:Around}{E:Value->Shared->Prop}{s:Shared}{d:Addr}{kvs:List (Key×Value)}{ep:Nat}{ns:List Int}{Q:Value->Shared->Prop}(hh:A.handled=none)(lo:(d==sysModules)=false)(hat:s.heap.DictAt (kJ prog w) d kvs ep)
  (hk:kvs.map (·.1)=ns.map Sum.inl) (h64:ns.length<64)
  (h:∀(r:Addr) (h':Heap) (tk:Nat) (out:Array Value) (ns':List Int) (n:Nat),IntsAre out.toList ns'->ns'.Perm ns->ns'.Pairwise (·<=·)->s.heap.objs.size<=r->h'.get? r=some (seqObj "list" out n)->(∀b o,s.heap.get? b=some o->h'.get? b=some o)->Q (.ref r) {s with heap:=h',toks:=tk}) :
  wpAny (model prog w) A (call (.builtin "sorted") [.ref d]) Q E s:=by
 have hl:kvs.length=ns.length:=by have:=congrArg List.length hk;rw[List.length_map,List.length_map] at this;exact this
 have hn:kvs.length<=sizeLine:=by rw[hl];exact Nat.le_trans (Nat.le_of_lt h64) (by decide)
 refine Calls.call_function_entry kind_sorted plain_sorted entry_sorted (args_sorted1 _) ?_
 unfold Builtin.«sorted»
 refine wpAny_bind (m:=checkCount "sorted" 1 1 _) (wpAny_pure ?_)
 refine wpAny_bind (vO (A:=A.in1) (W.kdl_dict lo) hh hat hn fun h1 tk acc hk1 hsz hacc=>?_)
 have hal:acc.toList.length=ns.length:=by rw[Array.length_toList,hacc.1,hl]
 have hI:IntsAre acc.toList ns:=eM hal fun j v n h1 h2=>by
  obtain⟨k,x,e1,e2⟩:=hacc.2 j v (by rw[<- Array.getElem?_toList];exact h1)
  have e3:(kvs.map (·.1))[j]?=some k:=by rw[List.getElem?_map,e1];rfl
  rw[hk,List.getElem?_map,h2] at e3
  have e4:Sum.inl n=k:=Option.some.inj e3
  subst e4
  rcases lc (show rn (Sum.inl n) v=true from e2) with ⟨i,t,e5,rfl⟩ | ⟨y,t,e5,_⟩
  ·cases e5;exact⟨t,rfl⟩
  ·cases e5
 refine wpAny_bind (wpAny_newList ?_ (by rw[hal];exact Nat.le_trans (Nat.le_of_lt h64) (by decide)))
 have hoL:(h1.push (seqObj "list" acc.toList.toArray 0)).get? h1.objs.size=some (seqObj "list" acc.toList.toArray 0):=Heap.get?_push_size _ rfl
 refine wpAny_bind (wpAny_holding (wpAny_call_entry slot_list_sort ⟨_,hoL,rfl⟩ entry_list_sort (list_sort_tree hoL hI (by rw[hal];exact h64) fun out ns' a1 a2 a3=>⟨_,rfl,?_⟩) (args_list_sort _)))
 obtain⟨e,he⟩:=sortedHeap_at (out:=out) hoL
 refine wpAny_pure ⟨_,rfl,h _ _ tk out ns' e a1 a2 a3 hsz he fun b o eb=>?_⟩
 have hb1:=hk1 b o eb
 have hlt:=Heap.lt_size hb1
 rw[sortedHeap_old (Nat.ne_of_lt hlt) (by rw[size_push'];exact Nat.lt_succ_of_lt hlt),Heap.get?_push_ne _ _ _ (Nat.ne_of_lt hlt)]
 exact hb1
section
variable{X:Cx}
theorem tM:∀{ks:List (Int ⊕ Str)} {ns:List Int},pP ks=some ns->ks=ns.map Sum.inl
 | [],ns,h=>by cases h;rfl
 | .inl i::ks,ns,h=>by
  obtain⟨m,e,rfl⟩:=lK h
  rw[tM e];rfl
theorem vz:∀{kvs:List (Key×V)} {vs:List (Key×Value)},KV kvs vs->kvs.map (·.1)=vs.map (·.1)
 | _,_,.nil=>rfl
 | _,_,.cons h r=>by rw[List.map_cons,List.map_cons,vz r,h.1]
theorem iJ{e:Expr}{f:R->OD}{p pos:Pos}(hc:X.calm=true)(hm:X.mg "sorted" = none)(he:SE X e f)(hg:Gl X "sorted":=by rfl)(hst:noStar e=true:=by rfl) :
  SE X (.Call (.Name "sorted" p) [e] [] pos) (i6 w9 (i3 f i5)):=by
 intro pins s σ H Q I ⟨ρ,d,er,eq,q⟩
 obtain⟨ds,e1,e2⟩:=kx eq
 have hst1:=aw [] X.env hst
 have PAA:=(aa he ae hst).1 pos pins s σ H (fun vs H2=>ku H H2/\i9 X.K H2 ds vs) I ⟨ρ,ds,er,e1,fun vs H2 s2 r2=>⟨s2,r2⟩⟩
 refine Call_ (bB I hg hm boot_sorted ?_)
 rw[hst1] at PAA ⊢
 refine Calls.callWith_builtin rfl (Calls.evalArgs_plain ?_)
 refine lA PAA fun us s1 ⟨vs,H1,I1,r1,s01,rp⟩=>?_
 match ds,e2 with
 | [.dct ks dd],e2 =>
  obtain⟨ns,e3,e4⟩:=kx (show(pP ks).bind _=some d from e2)
  split at e4
  case isFalse=>cases e4
  case isTrue hn =>
  cases e4
  obtain⟨v,r',rfl,⟨a,xs,rfl,⟨hl,o,hq⟩,rx⟩,rr⟩:=rp
  cases (show r'=[] from rr)
  obtain⟨u,rfl,ru⟩:=r1.one
  cases (show u=_ from ru)
  obtain⟨lo,ws,es,ep,rk,g,hd,hat⟩:=wg I1.hok hq
  have hk:ws.map (·.1)=ns.map Sum.inl:=by
   rw[<- vz rk,<- tM e3,List.map_fst_zip]
   omega
  refine wb (I1.ok.hd hc) lo hat hk hn fun r h' tk out ns' n a1 a2 a3 hsz g3 k3=>?_
  have hns:ns'=ph ns:=io a2 a3
  subst hns
  obtain⟨v1,v2⟩:=bS (K:=X.K) (H:=upd H1 r (.lst ((ph ns).map V.int))) a1
  have hz:((ph ns).map V.int).length<=sizeLine:=by
   rw[List.length_map,(oI _).length_eq,sizeLine_eq];omega
  have hf:H1 r=none:=I1.hok.fresh hsz
  refine⟨.ref r,upd H1 r (.lst ((ph ns).map V.int)),I1.laid (t':=tk) k3 hsz ⟨hz,out.toList,n,v1,by rw[g3]⟩,rfl,?_⟩
  refine q _ _ (s01.trans fun b u hb=>?_) ⟨_,_,rfl,ai,v2⟩
  rw[aj fun z=>by rw[z,hf] at hb;cases hb]
  exact hb
end
structure zb (P:Program) (w:World) (K:W.Frag) (mg:Str->Option Value) (base:Heap) (k:Nat) (x:Str) (ps:List Str) (F:LD->OD) (ct:kR):Prop where
 ex:∃f fd,kT P w K mg base mi k f fd ps (spT K F ct)/\mg x=some (.ref f)/\W.keepIn K (.ref f)=true/\Binds K fd ps []
theorem zb.mono{P:Program}{w:World}{K:W.Frag}{mg:Str->Option Value}{base:Heap}{j k:Nat}{x:Str}{ps:List Str}{F:LD->OD}{ct:kR}(h:zb P w K mg base j x ps F ct)(hk:j<=k):zb P w K mg base k x ps F ct:=by
 obtain⟨f,fd,a,b⟩:=h.ex
 exact⟨f,fd,a.mono hk,b⟩
theorem zb.m{P:Program}{w:World}{K:W.Frag}{mg:Str->Option Value}{base:Heap}{j k:Nat}{x:Str}{ps:List Str}{F:LD->OD}{ct:kR}(h:zb P w K mg base j x ps F ct)(hk:j<=k:=by decide):zb P w K mg base k x ps F ct:=h.mono hk
section
variable{X:Cx}{p pos:Pos}{e:Expr}{es:List Expr}{F:R->Option LD}{ct:kR}
end
end HW
namespace HW
open PySem
abbrev Ky:=Int ⊕ (Int×Int)
abbrev KI:=List (Ky×D)
def rN:D->Option Ky
 | .int i=>some (.inl i)
 | .tup [.int i,.int j]=>some (.inr (i,j))
 | _=>none
def kH:Ky->D
 | .inl i=>.int i
 | .inr p=>.tup [.int p.1,.int p.2]
theorem se{d:D}{k:Ky}(h:rN d=some k):d=kH k:=by
 match d,h with
 | .int i,h=>cases h;rfl
 | .tup [.int i,.int j],h=>cases h;rfl
def kin(kv:KI)(k:Ky):Bool:=!kv.isEmpty&&kv.all fun p=>p.1.isLeft==k.isLeft
abbrev WU:=R->Nat->KI->LD->Option (Out×KI×LD)
abbrev WE:=R->Nat->KI->OD
def lu:KI->Ky->OD
 | [],_=>none
 | (k,d)::kv,j=>if k=j then some d else lu kv j
def isAt(i:Nat)(ρ:R)(a:Nat):Prop:=i4 i ρ=some (.obj 1 a [] [])
instance (i:Nat) (ρ:R) (a:Nat):Decidable (isAt i ρ a):=by
 unfold isAt
 match h:i4 i ρ with
 | some (.obj 1 b [] []) =>
  by_cases e:b=a
  ·exact isTrue (by rw[e])
  ·exact isFalse (by intro z;cases z;exact e rfl)
 | none=>exact isFalse (by intro z;cases z)
 | some .non=>exact isFalse (by intro z;cases z)
 | some (.bl _)=>exact isFalse (by intro z;cases z)
 | some (.int _)=>exact isFalse (by intro z;cases z)
 | some (.str _)=>exact isFalse (by intro z;cases z)
 | some (.tup _)=>exact isFalse (by intro z;cases z)
 | some (.lst _)=>exact isFalse (by intro z;cases z)
 | some (.fro _)=>exact isFalse (by intro z;cases z)
 | some (.dct ..)=>exact isFalse (by intro z;cases z)
 | some (.dcp ..)=>exact isFalse (by intro z;cases z)
 | some (.cl ..)=>exact isFalse (by intro z;cases z)
 | some (.obj 0 ..)=>exact isFalse (by intro z;cases z)
 | some (.obj (_+2) ..)=>exact isFalse (by intro z;cases z)
 | some (.obj 1 _ (_::_) _)=>exact isFalse (by intro z;cases z)
 | some (.obj 1 _ [] (_::_))=>exact isFalse (by intro z;cases z)
def yw(u:R->Option Out):WU:=fun ρ _ kv ds=>(u ρ).map fun o=>(o,kv,ds)
def AZ:WU:=fun ρ _ kv ds=>some (.nx ρ,kv,ds)
def xh(p q:WU):WU:=fun ρ a kv ds=>(p ρ a kv ds).bind fun r=>match r.1 with
 | .nx ρ1=>q ρ1 a r.2.1 r.2.2
 | o=>some (o,r.2)
def FS(c:R->Nat->KI->Option Bool)(p q:WU):WU:=fun ρ a kv ds=>(c ρ a kv).bind fun b=>if b then p ρ a kv ds else q ρ a kv ds
def vY(st:D->R->Option R)(p:WU):LD->R->Nat->KI->LD->Option (Out×KI×LD)
 | [],ρ,_,kv,ds=>some (.nx ρ,kv,ds)
 | x::xs,ρ,a,kv,ds=>(st x ρ).bind fun ρ1=>(p ρ1 a kv ds).bind fun r=>match r.1 with
  | .nx ρ2=>vY st p xs ρ2 a r.2.1 r.2.2
  | .ct ρ2=>vY st p xs ρ2 a r.2.1 r.2.2
  | .bk ρ2=>some (.nx ρ2,r.2)
  | .rt d=>some (.rt d,r.2)
def qg(it:R->Option LD)(st:D->R->Option R)(p:WU):WU:=fun ρ a kv ds=>(it ρ).bind fun xs=>vY st p xs ρ a kv ds
def Cp(i:Nat)(f:R->OD):WU:=fun ρ _ kv ds=>(f ρ).bind fun d=>if ρ.length=i/\ds.length<sizeLine then some (.nx ρ,kv,ds++[d]) else none
def zf(f:R->OD):WE:=fun ρ _ _=>f ρ
def sU(i:Nat)(f:R->OD):WE:=fun ρ a kv=>(f ρ).bind fun k=>(rN k).bind fun j=>if isAt i ρ a/\kin kv j=true then lu kv j else none
def yW(F:D->D->OD)(f g:WE):WE:=fun ρ a kv=>(f ρ a kv).bind fun x=>(g ρ a kv).bind fun y=>F x y
def A8(i:Nat)(kf:R->OD)(g:WE):WU:=fun ρ a kv ds=>(g ρ a kv).bind fun d=>(kf ρ).bind fun k=>(rN k).bind fun j=>if isAt i ρ a/\kin kv j=true/\(lu kv j).isNone/\kv.length<1000 then some (.nx ρ,kv++[(j,d)],ds) else none
def qU(i:Nat)(kf:R->OD):R->Nat->KI->Option Bool:=fun ρ a kv=>(kf ρ).bind fun k=>(rN k).bind fun j=>if isAt i ρ a/\kin kv j=true then some (lu kv j).isNone else none
def wa(i:Nat)(p:WU):R->Nat->KI->Option (D×KI):=fun ρ a kv=>if ρ.length=i+1 then (p (ρ.take i) a kv []).bind fun r=>match r.1 with
 | .nx ρ1=>if ρ1.length=i then some (.lst r.2.2,r.2.1) else none
 | _=>none
 else none
def wD(g:LD->Nat->KI->Option (D×KI))(c:D):Nat->LD->Nat->KI->Option KI
 | 0,_,_,_=>none
 | _+1,[],_,kv=>some kv
 | n+1,x::l,a,kv=>(g [.obj 1 a [] [],.lst (x::l),c] a kv).bind fun r=>match r.1 with
  | .lst l'=>wD g c n l' a r.2
  | _=>none
def k1:Ky->Int ⊕ Str
 | .inl i=>.inl i
 | .inr p=>.inl p.1
def k2:Ky->Int×Int
 | .inl i=>(i,i)
 | .inr p=>p
def mw(kv:KI):D:=match kv with
 | (.inr _,_)::_=>.dcp (kv.map fun p=>k2 p.1) (kv.map fun p=>p.2)
 | _=>.dct (kv.map fun p=>k1 p.1) (kv.map fun p=>p.2)
def lO(bt:Nat->Nat->Bool):Nat->Nat
 | 0=>0
 | j+1=>if bt (j+1) (lO bt j) then j+1 else lO bt j
def kQ(xs:List Str)(i j:Nat):Bool:=decide (((xs.getD i Str.empty).length:Int)<((xs.getD j Str.empty).length:Int))
def sC:LD->OD
 | [.lst ds]=>(rG ds).bind fun xs=>if xs.length<=100000/\xs.all (fun x=>decide (x.length<=100000))=true then some (if xs.isEmpty then .non else .str (xs.getD (lO (kQ xs) (xs.length - 1)) Str.empty)) else none
 | _=>none
def Hd(f g:R->OD):R->OD:=fun ρ=>(f ρ).bind fun x=>(g ρ).bind fun y=>match x,y with
 | .lst xs,.lst ys=>if xs.length=ys.length/\0<xs.length/\xs.length<=1000 then some (.lst (qt xs ys)) else none
 | _,_=>none
def uc(f:R->OD):R->Option LD:=fun ρ=>(f ρ).bind fun d=>match d with
 | .dcp ks _=>some (ks.map fun p=>.tup [.int p.1,.int p.2])
 | _=>none
def Dg:List (Int×Int)->LD->Int×Int->OD
 | k::ks,d::ds,j=>if k=j then some d else Dg ks ds j
 | _,_,_=>none
def Cq:D->D->OD
 | .dcp ks ds,.tup [.int i,.int j]=>Dg ks ds (i,j)
 | _,_=>none
def qj(g:LD->Nat->KI->Option (D×KI))(n i j:Nat)(e:D):R->Option Out:=fun ρ=>if ρ.length=n then (i4 i ρ).bind fun s=>(i4 j ρ).bind fun c=>(rN s).bind fun k =>
 open Classical in if h:∃kv:KI,kv ≠ []/\∀a,wD g c 100 [s] a [(k,e)]=some kv then some (.rt (mw h.choose)) else none
 else none
theorem tL{g:LD->Nat->KI->Option (D×KI)}{n i j:Nat}{e c s:D}{ρ:R}{k:Ky}{kv:KI}(h0:ρ.length=n)(h1:i4 i ρ=some s)(h2:i4 j ρ=some c)(hk:rN s=some k)(hn:kv ≠ [])(h:∀a,wD g c 100 [s] a [(k,e)]=some kv) :
  qj g n i j e ρ=some (.rt (mw kv)):=by
 unfold qj
 rw[if_pos h0,h1,Option.bind_some,h2,Option.bind_some,hk,Option.bind_some]
 have hx:∃kv:KI,kv ≠ []/\∀a,wD g c 100 [s] a [(k,e)]=some kv:=⟨kv,hn,h⟩
 rw[dif_pos hx]
 have:hx.choose=kv:=by
  have z:=hx.choose_spec.2 0
  rw[h 0] at z
  exact(Option.some.inj z).symm
 rw[this]
theorem AX{g:LD->Nat->KI->Option (D×KI)}{n i j:Nat}{e:D}{ρ:R}{o:Out}(h:qj g n i j e ρ=some o):ρ.length=n/\∃s c k kv,i4 i ρ=some s/\i4 j ρ=some c/\rN s=some k/\kv ≠ []/\(∀a,wD g c 100 [s] a [(k,e)]=some kv)/\o=.rt (mw kv):=by
 unfold qj at h
 split at h
 case isFalse=>cases h
 case isTrue h0 =>
 refine⟨h0,?_⟩
 cases e1:i4 i ρ with
 | none=>rw[e1] at h;cases h
 | some s =>
  rw[e1,Option.bind_some] at h
  cases e2:i4 j ρ with
  | none=>rw[e2] at h;cases h
  | some c =>
   rw[e2,Option.bind_some] at h
   cases e3:rN s with
   | none=>rw[e3] at h;cases h
   | some k =>
    rw[e3,Option.bind_some] at h
    split at h
    ·rename_i hx
     cases h
     exact⟨s,c,k,hx.choose,rfl,rfl,e3,hx.choose_spec.1,hx.choose_spec.2,rfl⟩
    ·cases h
theorem vv{i:Nat}{ρ:R}{d:D}(h:i<ρ.length):i4 i (ρ.set i (some d))=some d:=by
 show(List.set ρ i (some d)).getD i none=some d
 rw[List.getD_eq_getElem?_getD,List.getElem?_set_self h]
 rfl
theorem rh{i j:Nat}{ρ:R}{d:OD}(h:i≠j):i4 j (ρ.set i d)=i4 j ρ:=by
 show(List.set ρ i d).getD j none=List.getD ρ j none
 rw[List.getD_eq_getElem?_getD,List.getElem?_set_ne h,<- List.getD_eq_getElem?_getD]
end HW
namespace HW
open PySem PySem.Spec PyProof.Rows L2
def zo(P:Program)(w:World)(d:Addr)(xs:List ((Int×Int)×Addr×V)):HO:=.ext fun h=>(d==sysModules)=false/\∃o,h.get? d=some o/\A5 P w o xs
abbrev kk(p:Int×Int):List Key:=[.inl p.1,.inl p.2]
section
variable{K:W.Frag}{H H':Hp}
def nU(K:W.Frag)(H:Hp):KI->List (Key×V)->Prop
 | [],xs=>xs=[]
 | (k,d)::kv,xs=>∃i v r,k=.inl i/\xs=(Sum.inl i,v)::r/\Rep K H d v/\nU K H kv r
def m_(K:W.Frag)(H:Hp):KI->List ((Int×Int)×Addr×V)->Prop
 | [],xs=>xs=[]
 | (k,d)::kv,xs=>∃p a v r,k=.inr p/\xs=(p,a,v)::r/\mG K H a [.int p.1,.int p.2]/\Rep K H d v/\m_ K H kv r
theorem nU.kp(s:Kp H H'):∀{kv:KI} {xs:List (Key×V)},nU K H kv xs->nU K H' kv xs
 | [],_,h=>h
 | (k,d)::kv,_,h=>by
  obtain⟨i,v,r,e0,e,q,t⟩:=h
  exact⟨i,v,r,e0,e,q.kp s,nU.kp s t⟩
theorem m_.kp(s:Kp H H'):∀{kv:KI} {xs:List ((Int×Int)×Addr×V)},m_ K H kv xs->m_ K H' kv xs
 | [],_,h=>h
 | (k,d)::kv,_,h=>by
  obtain⟨p,a,v,r,e0,e,q0,q,t⟩:=h
  exact⟨p,a,v,r,e0,e,s.tup q0,q.kp s,m_.kp s t⟩
theorem nU.snoc:∀{kv:KI} {xs:List (Key×V)} {k:Int} {d:D} {v:V},nU K H kv xs->Rep K H d v->nU K H (kv++[(.inl k,d)]) (xs++[(Sum.inl k,v)])
 | [],_,k,d,v,h,r=>by cases (show _=[] from h);exact⟨k,v,[],rfl,rfl,r,rfl⟩
 | (k',d')::kv,_,k,d,v,h,r=>by
  obtain⟨i',v',r',e,rfl,q,t⟩:=h
  exact⟨i',v',r'++[(Sum.inl k,v)],e,rfl,q,nU.snoc t r⟩
theorem m_.snoc:∀{kv:KI} {xs:List ((Int×Int)×Addr×V)} {k:Int×Int} {d:D} {a:Addr} {v:V},m_ K H kv xs->mG K H a [.int k.1,.int k.2]->Rep K H d v->m_ K H (kv++[(.inr k,d)]) (xs++[(k,a,v)])
 | [],_,k,d,a,v,h,q,r=>by cases (show _=[] from h);exact⟨k,a,v,[],rfl,rfl,q,r,rfl⟩
 | (k',d')::kv,_,k,d,a,v,h,q,r=>by
  obtain⟨p',a',v',r',e,rfl,q0,q',t⟩:=h
  exact⟨p',a',v',r'++[(k,a,v)],e,rfl,q0,q',m_.snoc t q r⟩
theorem nU.len:∀{kv:KI} {xs:List (Key×V)},nU K H kv xs->kv.length=xs.length
 | [],_,h=>by cases (show _=[] from h);rfl
 | (k,d)::kv,_,h=>by
  obtain⟨i,v,r,_,rfl,q,t⟩:=h
  rw[List.length_cons,List.length_cons,nU.len t]
theorem m_.len:∀{kv:KI} {xs:List ((Int×Int)×Addr×V)},m_ K H kv xs->kv.length=xs.length
 | [],_,h=>by cases (show _=[] from h);rfl
 | (k,d)::kv,_,h=>by
  obtain⟨p,a,v,r,_,rfl,_,q,t⟩:=h
  rw[List.length_cons,List.length_cons,m_.len t]
theorem nU.at:∀{kv:KI} {xs:List (Key×V)} {j:Int},nU K H kv xs->(lu kv (.inl j)=none/\m7 xs (Sum.inl j:Key)=none)\/∃d v,lu kv (.inl j)=some d/\m7 xs (Sum.inl j:Key)=some v/\Rep K H d v
 | [],_,j,h=>by cases (show _=[] from h);exact .inl ⟨rfl,rfl⟩
 | (k,d)::kv,_,j,h=>by
  obtain⟨i,v,r,rfl,rfl,q,t⟩:=h
  by_cases hk:i=j
  ·refine .inr ⟨d,v,if_pos (by rw[hk]),?_,q⟩
   show((List.find? _ ((Sum.inl i,v)::r)).map _)=_
   rw[List.find?_cons_of_pos (by simpa using hk)]
   rfl
  ·have e1:lu ((.inl i,d)::kv) (.inl j)=lu kv (.inl j):=if_neg (fun z=>hk (Sum.inl.inj z))
   have e2:m7 ((Sum.inl i,v)::r) (Sum.inl j:Key)=m7 r (Sum.inl j:Key):=by
    show((List.find? _ ((Sum.inl i,v)::r)).map _)=_
    rw[List.find?_cons_of_neg (by simpa using hk)]
    rfl
   rw[e1,e2]
   exact nU.at t
theorem zE{p q:Int×Int}(h:kk p=kk q):p=q:=by
 have h1:=List.cons.inj h
 have h2:=List.cons.inj h1.2
 exact Prod.ext (Sum.inl.inj h1.1) (Sum.inl.inj h2.1)
theorem m_.at:∀{kv:KI} {xs:List ((Int×Int)×Addr×V)} {qs:List (List Key×Addr×Value)} {j:Int×Int},m_ K H kv xs->wR xs qs->(lu kv (.inr j)=none/\atKey qs (kk j)=none)\/∃d v a u,lu kv (.inr j)=some d/\atKey qs (kk j)=some (a,u)/\RelV v u/\Rep K H d v
 | [],_,_,j,h,r=>by
  cases (show _=[] from h)
  cases r
  exact .inl ⟨rfl,rfl⟩
 | (k,d)::kv,_,qs,j,h,r=>by
  obtain⟨p,a,v,r',rfl,rfl,q0,q,t⟩:=h
  cases r with
  | @cons _ b _ ls e rt =>
  obtain⟨kb,ab,ub⟩:=b
  obtain⟨e1,e2,e3⟩:=e
  cases (show kb=_ from e1)
  by_cases hk:p=j
  ·subst hk
   refine .inr ⟨d,v,ab,ub,if_pos rfl,?_,e3,q⟩
   show((List.find? _ ((kk p,ab,ub)::ls)).map _)=_
   rw[List.find?_cons_of_pos (by simp)]
   rfl
  ·have e1:lu ((.inr p,d)::kv) (.inr j)=lu kv (.inr j):=if_neg (fun z=>hk (Sum.inr.inj z))
   have e2:atKey ((kk p,ab,ub)::ls) (kk j)=atKey ls (kk j):=by
    show((List.find? _ ((kk p,ab,ub)::ls)).map _)=_
    rw[List.find?_cons_of_neg (by simpa using fun z=>hk (zE z))]
    rfl
   show(lu ((.inr p,d)::kv) (.inr j)=none/\atKey ((kk p,ab,ub)::ls) (kk j)=none)\/∃d' v a u,lu ((.inr p,d)::kv) (.inr j)=some d'/\atKey ((kk p,ab,ub)::ls) (kk j)=some (a,u)/\RelV v u/\Rep K H d' v
   rw[e1,e2]
   exact m_.at t rt
end
def mM(P:Program)(w:World)(K:W.Frag)(H:Hp)(d:Addr)(kv:KI):Prop:=(∃xs,H d=some (t5 P w d xs)/\nU K H kv xs)\/∃xs,H d=some (zo P w d xs)/\m_ K H kv xs
section
variable{P:Program}{w:World}{K:W.Frag}{H H':Hp}{d a:Addr}{kv:KI}
theorem mM.mono(h:mM P w K H d kv)(s:ku H H'):mM P w K H' d kv:=by
 rcases h with ⟨xs,h1,h2⟩ | ⟨xs,h1,h2⟩
 ·exact .inl ⟨xs,s _ _ h1,h2.kp (Kp.of s)⟩
 ·exact .inr ⟨xs,s _ _ h1,h2.kp (Kp.of s)⟩
theorem mM.move(h:mM P w K H d kv)(s:lY a H H')(hn:d≠a)(k:Kp H H'):mM P w K H' d kv:=by
 rcases h with ⟨xs,h1,h2⟩ | ⟨xs,h1,h2⟩
 ·exact .inl ⟨xs,s _ _ hn h1,h2.kp k⟩
 ·exact .inr ⟨xs,s _ _ hn h1,h2.kp k⟩
theorem mM.ext(h:mM P w K H d kv):∃ φ,H d=some (.ext φ):=by
 rcases h with ⟨xs,h1,h2⟩ | ⟨xs,h1,h2⟩
 ·exact⟨_,h1⟩
 ·exact⟨_,h1⟩
theorem mM.kp(h:mM P w K H d kv)(s:lY d H H'):Kp H H':=fun b u e n=>by
 obtain⟨φ,h1⟩:=h.ext
 by_cases hb:b=d
 ·subst hb;rw[h1] at e;cases e;exact absurd rfl (n _)
 ·exact s b u hb e
theorem eW{o u:HO}(h:H d=some o):upd (upd H d u) d o=H:=by
 funext b
 unfold upd
 by_cases e:b=d
 ·rw[if_pos e,e,h]
 ·rw[if_neg e,if_neg e]
end
section
variable{X:Cx}{pins:List (Addr×Obj)}{σ:L2.St}{H:Hp}{s:Shared}{d:Addr}{kv:KI}{A:Around}{E:Value->Shared->Prop}
theorem sX{a:Addr}{p:Int×Int}(I:L2.Inv X pins σ H s)(h:mG X.K H a [.int p.1,.int p.2]):(tupleKind (kJ X.prog X.w)).is s.heap (kk p) a:=by
 obtain⟨its,r,⟨o,e,c,n,dd⟩,_⟩:=I.tuple h
 exact⟨o,its.toArray,n,e,c,dd,by simpa using qZ (P:=X.prog) (w:=X.w) (ks:=kk p) r⟩
theorem xW(I:L2.Inv X pins σ H s):∀{kv:KI} {xs:List ((Int×Int)×Addr×V)} {qs:List (List Key×Addr×Value)},m_ X.K H kv xs->wR xs qs->∀x∈qs,(tupleKind (kJ X.prog X.w)).is s.heap x.1 x.2.1
 | [],_,_,h,r,x,hx=>by
  cases (show _=[] from h)
  cases r
  cases hx
 | (k,dd)::kv,_,qs,h,r,x,hx=>by
  obtain⟨p,a,v,r',rfl,rfl,q0,q,t⟩:=h
  cases r with
  | @cons _ b _ ls e rt =>
  rcases List.mem_cons.mp hx with rfl | hx
  ·rw[e.1,e.2.1]
   exact sX I q0
  ·exact xW I t rt x hx
theorem eD{xs:List ((Int×Int)×Addr×V)}(I:L2.Inv X pins σ H s)(h:H d=some (zo X.prog X.w d xs))(r:m_ X.K H kv xs):(d==sysModules)=false/\xs.length<=sizeLine/\∃qs,wR xs qs/\s.heap.DictOfH (tupleKind (kJ X.prog X.w)) d qs:=by
 obtain⟨hd,o,g,z,qs,es,ep,h1,h2,h3,h4,h5⟩:=(I.hok d _ h).1
 exact⟨hd,z,qs,h1,o,es,ep,g,h2,h3,h4,xW I r h1,h5⟩
theorem qN{k:Ky}(h:kin kv k=true)(D:mM X.prog X.w X.K H d kv):(∃j xs,k=.inl j/\H d=some (t5 X.prog X.w d xs)/\nU X.K H kv xs)\/∃p xs,k=.inr p/\H d=some (zo X.prog X.w d xs)/\m_ X.K H kv xs:=by
 unfold kin at h
 rw[Bool.and_eq_true] at h
 match kv,h,D with
 | (k',d')::kv,h,D =>
  rw[List.all_cons,Bool.and_eq_true] at h
  have h2:=h.2.1
  rcases D with ⟨xs,h1,hr⟩ | ⟨xs,h1,hr⟩
  ·obtain⟨i,v,r,e,_⟩:=id hr
   subst e
   cases k with
   | inl j=>exact .inl ⟨j,xs,rfl,h1,hr⟩
   | inr p=>exact absurd (show(false:Bool)=true from h2) Bool.false_ne_true
  ·obtain⟨i,a,v,r,e,_⟩:=id hr
   subst e
   cases k with
   | inl j=>exact absurd (show(false:Bool)=true from h2) Bool.false_ne_true
   | inr p=>exact .inr ⟨p,xs,rfl,h1,hr⟩
theorem qG{k:Ky}{y:V}(h:Rep X.K H (kH k) y):(∃i,k=.inl i/\y=.int i)\/∃p a,k=.inr p/\y=.ref a/\mG X.K H a [.int p.1,.int p.2]:=by
 cases k with
 | inl i=>exact .inl ⟨i,rfl,h⟩
 | inr p =>
  obtain⟨a,xs,rfl,hq,v1,r1,rfl,h1,v2,r2,rfl,h2,h3⟩:=h
  cases (show v1=_ from h1)
  cases (show v2=_ from h2)
  cases (show r2=_ from h3)
  exact .inr ⟨p,a,rfl,rfl,hq⟩
theorem DI{k:Ky}{x:D}{y:V}{u:Value}{Q:Value->Shared->Prop}(hu:A.units+1<cLine)(I:L2.Inv X pins σ H s)(D:mM X.prog X.w X.K H d kv)(hk:kin kv k=true)(hg:lu kv k=some x)(rk:Rep X.K H (kH k) y)(ry:RelV y u)
  (h:∀v w' s',L2.Inv X pins σ H s'->RelV v w'->Rep X.K H x v->Q w' s'):s.TypeIs (.ref d) "dict" /\ wpAny (model X.prog X.w) A (getItem (.ref d) u) Q E s:=by
 rcases qN hk D with ⟨j,xs,rfl,h1,hr⟩ | ⟨p,xs,rfl,h1,hr⟩
 ·cases (show y=_ from rk)
  have I3:=AL I h1
  rcases nU.at (j:=j) hr with ⟨h2,_⟩ | ⟨d',v,h2,hv',rv⟩
  ·rw[h2] at hg;cases hg
  ·rw[h2] at hg;cases hg
   have g:sF (upd H d (.dK xs)) d (kV (.inl j)) (some v):=by rw[<- hv'];exact sF.k ai
   refine⟨vM I3 g,gz hu I3 g ry fun w' s3 I4 rw'=>h v w' s3 ?_ rw' rv⟩
   have:=rY I4 ai
   rw[eW h1] at this
   exact this
 ·rcases qG rk with ⟨_,e,_⟩ | ⟨p',a,e,rfl,hq⟩
  ·cases e
  ·cases e
   cases (show u=_ from ry)
   obtain⟨hd,z,qs,hp,dd⟩:=eD I h1 hr
   rcases m_.at (j:=p) hr hp with ⟨h2,_⟩ | ⟨d',v,a',u',h2,h3,h4,h5⟩
   ·rw[h2] at hg;cases hg
   ·rw[h2] at hg;cases hg
    exact⟨dd.typeIs,wpAny_getItem_heap (tupleKind_room_in1 hu) (sX I hq) dd h3 (h v u' _ (I.tok _) h4 h5)⟩
theorem zX{k:Ky}{y:V}{u:Value}{Q:Value->Shared->Prop}(hu:A.units+1<cLine)(I:L2.Inv X pins σ H s)(D:mM X.prog X.w X.K H d kv)(hk:kin kv k=true)(rk:Rep X.K H (kH k) y)(ry:RelV y u)
  (h:∀s',L2.Inv X pins σ H s'->Q (.bool (lu kv k).isNone) s'):wpAny (model X.prog X.w) A (compareOp .NotIn u (.ref d)) Q E s:=by
 rcases qN hk D with ⟨j,xs,rfl,h1,hr⟩ | ⟨p,xs,rfl,h1,hr⟩
 ·cases (show y=_ from rk)
  have I3:=AL I h1
  have g:sF (upd H d (.dK xs)) d (kV (.inl j)) (m7 xs (Sum.inl j:Key)):=sF.k ai
  refine jv hu I3 g ry fun s3 I4=>?_
  have:=rY I4 ai
  rw[eW h1] at this
  have q:=h s3 this
  rcases nU.at (j:=j) hr with ⟨h2,h3⟩ | ⟨d',v',h2,h3,_⟩
  ·rw[h2] at q;rw[h3];exact q
  ·rw[h2] at q;rw[h3];exact q
 ·rcases qG rk with ⟨_,e,_⟩ | ⟨p',a,e,rfl,hq⟩
  ·cases e
  ·cases e
   cases (show u=_ from ry)
   obtain⟨hd,z,qs,hp,dd⟩:=eD I h1 hr
   refine wpAny_notIn_heap (tupleKind_room_in1 hu) (sX I hq) hd dd ?_
   have q:=h _ (I.tok (s.toks+(tupleKind (kJ X.prog X.w)).draws (kk p)))
   rcases m_.at (j:=p) hr hp with ⟨h2,h3⟩ | ⟨d',v,a',u',h2,h3,h4,h5⟩
   ·rw[h2] at q;rw[h3];exact q
   ·rw[h2] at q;rw[h3];exact q
theorem wR.snoc{xs:List ((Int×Int)×Addr×V)}{qs:List (List Key×Addr×Value)}{p:Int×Int}{a:Addr}{v:V}{u:Value}(h:wR xs qs)(r:RelV v u):wR (xs++[(p,a,v)]) (qs++[(kk p,a,u)]):=by
 induction h with
 | nil=>exact .cons ⟨rfl,rfl,r⟩ .nil
 | cons e t ih=>exact .cons e ih
theorem wR.len{xs:List ((Int×Int)×Addr×V)}{qs:List (List Key×Addr×Value)}(h:wR xs qs):xs.length=qs.length:=by
 induction h with
 | nil=>rfl
 | cons e t ih=>rw[List.length_cons,List.length_cons,ih]
theorem vU{h:Heap}{xs:List ((Int×Int)×Addr×V)}{qs:List (List Key×Addr×Value)}(hd:(d==sysModules)=false)(z:xs.length<=sizeLine)(hp:wR xs qs)(dd:h.DictOfH (tupleKind (kJ X.prog X.w)) d qs):lF X.prog X.w H h d (zo X.prog X.w d xs):=by
 obtain⟨o,es,ep,g,h2,h3,h4,_,h5⟩:=dd
 refine⟨⟨hd,o,g,z,qs,es,ep,hp,h2,h3,h4,h5⟩,⟨o,g⟩,?_⟩
 rintro h1 h2 ⟨e1,o,e2,e3⟩ k
 exact⟨e1,o,k o e2,e3⟩
theorem D1{k:Ky}{x:D}{y v:V}{u r:Value}{Q:Unit->Shared->Prop}(hu:A.units+1<cLine)(I:L2.Inv X pins σ H s)(D:mM X.prog X.w X.K H d kv)(hk:kin kv k=true)(hg:(lu kv k).isNone=true)(hl:kv.length<1000)(rk:Rep X.K H (kH k) y)(ry:RelV y u)(rx:Rep X.K H x v)(rv:RelV v r)
  (h:∀H' s',L2.Inv X pins σ H' s'->lY d H H'->mM X.prog X.w X.K H' d (kv++[(k,x)])->Q () s'):wpAny (model X.prog X.w) A (setItem (.ref d) u r) Q E s:=by
 rcases qN hk D with ⟨j,xs,rfl,h1,hr⟩ | ⟨p,xs,rfl,h1,hr⟩
 ·cases (show y=_ from rk)
  have I4:=AL I h1
  have hnone:m7 xs (Sum.inl j:Key)=none:=by
   rcases nU.at (j:=j) hr with ⟨_,h2⟩ | ⟨d',v',h2,_,_⟩
   ·exact h2
   ·rw[h2] at hg;cases hg
  have hz:xs.length<sizeLine:=by rw[<- hr.len];exact Nat.lt_of_lt_of_le hl (by decide)
  have g:xI (upd H d (.dK xs)) d (kV (.inl j)) v (upd (upd H d (.dK xs)) d (.dK (putK xs (Sum.inl j:Key) v))):=xI.k ai hz
  rw[AE v hnone] at g
  refine gv hu I4 g ry rv fun s4 I5=>?_
  have I6:=rY I5 ai
  generalize hH6:upd (upd (upd H d (.dK xs)) d (.dK (xs++[(Sum.inl j,v)]))) d (t5 X.prog X.w d (xs++[(Sum.inl j,v)]))=H6 at I6
  have k36:lY d H H6:=by
   subst hH6
   exact lY.upd.trans (lY.upd.trans lY.upd)
  have ho6:H6 d=some (t5 X.prog X.w d (xs++[(Sum.inl j,v)])):=by subst hH6;exact ai
  have kp:=D.kp k36
  exact h H6 s4 I6 k36 (.inl ⟨_,ho6,(hr.kp kp).snoc (rx.kp kp)⟩)
 ·rcases qG rk with ⟨_,e,_⟩ | ⟨p',a,e,rfl,hq⟩
  ·cases e
  ·cases e
   cases (show u=_ from ry)
   obtain⟨hd,z,qs,hp,dd⟩:=eD I h1 hr
   have hnone:atKey qs (kk p)=none:=by
    rcases m_.at (j:=p) hr hp with ⟨_,h3⟩ | ⟨d',v,a',u',h2,h3,h4,h5⟩
    ·exact h3
    ·rw[h2] at hg;cases hg
   have hz:xs.length<1000:=by rw[<- hr.len];exact hl
   have zz:1000<=sizeLine:=by decide
   refine wpAny_setItem_heap (tupleKind_room_in1 hu) (sX I hq) dd (fun h' dd' hs=>?_) (by rw[<- hp.len];omega)
   rw[storedH_new hnone] at dd'
   have k1:lY d H (upd H d (zo X.prog X.w d (xs++[(p,a,v)]))):=lY.upd
   have kp:=D.kp k1
   have he:∃q,h'.get? d=some q:=let ⟨q,_,_,g,_⟩:=dd';⟨q,g⟩
   exact h _ _ (cI I (by rw[h1];trivial) hs he (vU hd (by rw[List.length_append];show xs.length+1<=_;omega) (hp.snoc rv) dd')) k1 (.inr ⟨_,ai,(hr.kp kp).snoc (kp.tup hq) (rx.kp kp)⟩)
theorem wC{K:W.Frag}{H:Hp}:∀{kv:KI} {xs:List (Key×V)},nU K H kv xs->∃vs,xs=(kv.map fun p=>k1 p.1).zip vs/\kv.length=vs.length/\i9 K H (kv.map fun p=>p.2) vs
 | [],_,h=>by cases (show _=[] from h);exact⟨[],rfl,rfl,rfl⟩
 | (k,d)::kv,_,h=>by
  obtain⟨i,v,r,rfl,rfl,q,t⟩:=h
  obtain⟨vs,rfl,hl,rr⟩:=wC t
  exact⟨v::vs,rfl,by simp[hl],v,vs,rfl,q,rr⟩
theorem wK{K:W.Frag}{H:Hp}:∀{kv:KI} {xs:List ((Int×Int)×Addr×V)},m_ K H kv xs->∃kas vs,xs=(kv.map fun p=>k2 p.1).zip (kas.zip vs)/\kas.length=vs.length/\pR K H (kv.map fun p=>k2 p.1) kas/\i9 K H (kv.map fun p=>p.2) vs
 | [],_,h=>by cases (show _=[] from h);exact⟨[],[],rfl,rfl,rfl,rfl⟩
 | (k,d)::kv,_,h=>by
  obtain⟨p,a,v,r,rfl,rfl,q0,q,t⟩:=h
  obtain⟨kas,vs,rfl,hl,hk,rr⟩:=wK t
  exact⟨a::kas,v::vs,rfl,by simp[hl],⟨a,kas,rfl,q0,hk⟩,v,vs,rfl,q,rr⟩
theorem Dh(I:L2.Inv X pins σ H s)(D:mM X.prog X.w X.K H d kv)(hne:kv ≠ []):∃H',L2.Inv X pins σ H' s/\lY d H H'/\Rep X.K H' (mw kv) (.ref d):=by
 rcases D with ⟨xs,h1,hr⟩ | ⟨xs,h1,hr⟩
 ·obtain⟨z,hd,vs,r,dd⟩:=fO I h1
  obtain⟨o,es,ep,e,rest⟩:=id dd
  have I':=I.write (t':=s.toks) (h':=s.heap) (o:=.frz o (.dK xs)) (x:=d) (e:=d) (by rw[h1];trivial) (.inl rfl) (fun _ _ _ q=>q) ⟨_,e⟩ ⟨e,z,hd,vs,r,dd⟩
  have k1:lY d H (upd H d (.frz o (.dK xs))):=lY.upd
  have kp:Kp H _:=mM.kp (.inl ⟨xs,h1,hr⟩) k1
  obtain⟨ws,ex,lw,rw9⟩:=wC (hr.kp kp)
  refine⟨_,I',k1,?_⟩
  have e9:mw kv=.dct (kv.map fun p=>HW.k1 p.1) (kv.map fun p=>p.2):=by
   cases kv with
   | nil=>rfl
   | cons q kv =>
    obtain⟨i,_,_,e,_⟩:=hr
    obtain⟨k,dd⟩:=q
    cases (show k=_ from e)
    rfl
  rw[e9]
  exact⟨d,ws,rfl,⟨by rw[List.length_map];exact lw,o,by rw[<- ex];exact ai⟩,rw9⟩
 ·obtain⟨hd,o,g,tt⟩:=(I.hok d _ h1).1
  have I':=I.write (t':=s.toks) (h':=s.heap) (o:=.frz o (.own 0)) (x:=d) (e:=d) (by rw[h1];trivial) (.inl rfl) (fun _ _ _ q=>q) ⟨_,g⟩ ⟨g,o,g⟩
  have k1:lY d H (upd H d (.frz o (.own 0))):=lY.upd
  have kp:Kp H _:=mM.kp (.inr ⟨xs,h1,hr⟩) k1
  obtain⟨kas,vs,ex,hl,hk,rr⟩:=wK (hr.kp kp)
  refine⟨_,I',k1,?_⟩
  have e9:mw kv=.dcp (kv.map fun p=>k2 p.1) (kv.map fun p=>p.2):=by
   cases kv with
   | nil=>exact absurd rfl hne
   | cons q kv =>
    obtain⟨i,_,_,_,e,_⟩:=hr
    obtain⟨k,dd⟩:=q
    cases (show k=_ from e)
    rfl
  rw[e9]
  exact⟨d,kas,vs,rfl,⟨⟨hd,hk,hl⟩,o,X.prog,X.w,ai,by rw[<- ex];exact tt⟩,rr⟩
end
section
variable{K:W.Frag}{H H':Hp}
def qy(d a:Addr)(H H':Hp):Prop:=∀b u,b≠d->b≠a->H b=some u->H' b=some u
theorem qy.of{d a:Addr}(h:ku H H'):qy d a H H':=fun b u _ _ e=>h b u e
theorem qy.trans{d a:Addr}{H1 H2:Hp}(h:qy d a H H1)(h':qy d a H1 H2):qy d a H H2:=fun b u n m e=>h' b u n m (h b u n m e)
theorem qy.d{d a:Addr}(h:lY d H H'):qy d a H H':=fun b u n _ e=>h b u n e
theorem qy.a{d a:Addr}(h:lY a H H'):qy d a H H':=fun b u _ m e=>h b u m e
def zw(P:Program)(w:World)(K:W.Frag)(H:Hp)(d a:Addr)(kv:KI)(ds:LD):Prop:=d≠a/\mM P w K H d kv/\∃ys,H a=some (mj a ys)/\i9 K H ds ys
theorem zw.mono{P:Program}{w:World}{d a:Addr}{kv:KI}{ds:LD}(h:zw P w K H d a kv ds)(s:ku H H'):zw P w K H' d a kv ds:=by
 obtain⟨n,h1,ys,h3,h4⟩:=h
 exact⟨n,h1.mono s,ys,s _ _ h3,h4.mono s⟩
theorem zw.kp{P:Program}{w:World}{d a:Addr}{kv:KI}{ds:LD}(h:zw P w K H d a kv ds)(s:qy d a H H'):Kp H H':=fun b u e n=>by
 obtain⟨_,h1,ys,h3,_⟩:=h
 obtain⟨φ,h1⟩:=h1.ext
 by_cases hb:b=d
 ·subst hb;rw[h1] at e;cases e;exact absurd rfl (n _)
 ·by_cases hc:b=a
  ·subst hc;rw[h3] at e;cases e;exact absurd rfl (n _)
  ·exact s b u hb hc e
end
section
variable(P:Program)(w:World)(K:W.Frag)
def tW(u:WU):TS:=fun E σ H=>∃ ρ τ d a kv ds o kv' ds',lQ K H ρ (some (.ref a)::τ) σ/\zw P w K H d a kv ds/\u ρ d kv ds=some (o,kv',ds')/\∀H',qy d a H H'->zw P w K H' d a kv' ds'->fin K E (some (.ref a)::τ) o H'
def Hw(g:WE):TE:=fun σ H Q=>∃ ρ τ d a kv ds x,lQ K H ρ (some (.ref a)::τ) σ/\zw P w K H d a kv ds/\g ρ d kv=some x/\∀v H',ku H H'->Rep K H' x v->Q v H'
def HC(g:R->Nat->KI->Option Bool):TT:=fun σ H Q=>∃ ρ τ d a kv ds b,lQ K H ρ (some (.ref a)::τ) σ/\zw P w K H d a kv ds/\g ρ d kv=some b/\∀H',ku H H'->Q b H'
end
def WJ(X:Cx)(st:Stmt)(u:WU):Prop:=PS X st (tW X.prog X.w X.K u)
def C1(X:Cx)(sts:List Stmt)(u:WU):Prop:=PSs X sts (tW X.prog X.w X.K u)
def Ep(X:Cx)(e:Expr)(g:WE):Prop:=PE X e (Hw X.prog X.w X.K g)
def GU(X:Cx)(e:Expr)(g:R->Nat->KI->Option Bool):Prop:=PT X e (HC X.prog X.w X.K g)
section
variable{X:Cx}{st:Stmt}{sts:List Stmt}{u:R->Option Out}{p q:WU}{pos:Pos}{e:Expr}{f:R->OD}
theorem Br(h:S1 X st u):WJ X st (yw u):=PS.imp h fun E σ H ⟨ρ,τ,d,a,kv,ds,o,kv',ds',er,W,e,qq⟩=>by
 obtain⟨o1,e1,e2⟩:=lK e
 cases e2
 exact⟨ρ,_,o,er,e1,fun H' s=>qq H' (qy.of s) (W.mono s)⟩
theorem Bu:C1 X [] AZ:=vf.imp fun E σ H ⟨ρ,τ,d,a,kv,ds,o,kv',ds',er,W,e,qq⟩=>by
 cases e
 exact qq H (qy.of (ku.refl H)) W σ er
theorem wm(h1:WJ X st p)(h2:C1 X sts q):C1 X (st::sts) (xh p q):=(ba h1 h2).imp fun E σ H ⟨ρ,τ,d,a,kv,ds,o,kv',ds',er,W,e,qq⟩=>by
 obtain⟨⟨o1,kv1,ds1⟩,e1,e⟩:=kx e
 refine⟨ρ,τ,d,a,kv,ds,o1,kv1,ds1,er,W,e1,fun H1 k1 W1=>?_⟩
 cases o1 with
 | nx ρ2=>exact fun σ2 er2=>⟨ρ2,τ,d,a,kv1,ds1,o,kv',ds',er2,W1,e,fun H2 k2 W2=>qq H2 (k1.trans k2) W2⟩
 | rt x=>cases e;exact qq H1 k1 W1
 | bk ρ2=>cases e;exact qq H1 k1 W1
 | ct ρ2=>cases e;exact qq H1 k1 W1
theorem uZ(h:WJ X st p):C1 X [st] p:=cg h
theorem FD{c:Expr}{s:R->Nat->KI->Option Bool}{B1 B2:List Stmt}(hc:GU X c s)(ha:C1 X B1 p)(hb:C1 X B2 q):WJ X (.If c B1 B2 pos) (FS s p q):=(gG hc ha hb).imp fun E σ H ⟨ρ,τ,d,a,kv,ds,o,kv',ds',er,W,e,qq⟩=>by
 obtain⟨x,e1,e⟩:=kx e
 refine⟨ρ,τ,d,a,kv,ds,x,er,W,e1,fun H1 s1=>?_⟩
 cases x with
 | true=>rw[if_pos rfl] at e ⊢;exact⟨ρ,τ,d,a,kv,ds,o,kv',ds',er.mono s1,W.mono s1,e,fun H2 k2=>qq H2 ((qy.of s1).trans k2)⟩
 | false=>rw[if_neg Bool.false_ne_true] at e ⊢;exact⟨ρ,τ,d,a,kv,ds,o,kv',ds',er.mono s1,W.mono s1,e,fun H2 k2=>qq H2 ((qy.of s1).trans k2)⟩
theorem Ah{tg iter:Expr}{B:List Stmt}{it:R->Option LD}{stf:D->R->Option R}(hp:PassesOwn (model X.prog X.w) X.A X.env X.xe)(hc:X.calm=true)(hi:SI X tg iter it)(hg:SG X tg stf)(hb:C1 X B p)
  (hs:∀x,foldedSetIterable iter X.env x=pure x:=by intro _;rfl):WJ X (.For tg iter B [] pos) (qg it stf p):=(fz hp hc hi hg hb hs).imp fun E σ H ⟨ρ,τ,d,a,kv,ls,o,kv',ls',er,W,e,q⟩=>by
 obtain⟨ds,e1,e⟩:=kx e
 refine⟨ρ,ds,er.1,e1,fun J H1 s1 y=>?_⟩
 refine⟨fun i m σ' H'=>m=ds.length - i/\i<=ds.length/\qy d a H1 H'/\∃ ρ' k l,lQ X.K H' ρ' (some (.ref a)::τ) σ'/\zw X.prog X.w X.K H' d a k l/\vY stf p (ds.drop i) ρ' d k l=some (o,kv',ls'),
  ⟨ds.length,by simp,Nat.zero_le _,qy.of (ku.refl _),ρ,kv,ls,er.mono s1,W.mono s1,by simpa using e⟩,?_⟩
 rintro i m σ' H' ⟨rfl,hi,s2,ρ',k,l,er',W',e'⟩
 have kp:Kp H1 H':=(W.mono s1).kp s2
 by_cases hlt:i<ds.length
 ·refine .inr ?_
  have hd:ds[i]?=some ds[i]:=by simp[hlt]
  obtain⟨hgo,hy⟩:=y.1 i ds[i] H' kp hd
  rw[List.drop_eq_getElem_cons hlt] at e'
  obtain⟨ρ1,e2,e'⟩:=kx e'
  obtain⟨⟨o1,k1,l1⟩,e3,e'⟩:=kx e'
  refine⟨hgo,fun σ2 H2=>i+1<=ds.length/\qy d a H1 H2/\∃ ρ' k l,lQ X.K H2 ρ' (some (.ref a)::τ) σ2/\zw X.prog X.w X.K H2 d a k l/\vY stf p (ds.drop (i+1)) ρ' d k l=some (o,kv',ls'),
   fun σ2 H2 n2=>⟨ds.length - (i+1),by omega,rfl,n2.1,n2.2⟩,fun x H3 yx=>?_⟩
  obtain⟨s3,rx⟩:=hy x H3 yx
  refine⟨ρ',_,ds[i],ρ1,er'.mono s3,rx,e2,fun σ4 H4 s4 er4=>⟨ρ1,τ,d,a,k,l,o1,k1,l1,er4,(W'.mono s3).mono s4,e3,fun H5 k5 W5=>?_⟩⟩
  have s15:qy d a H1 H5:=s2.trans ((qy.of s3).trans ((qy.of s4).trans k5))
  cases o1 with
  | nx ρ2=>exact fun σ6 er6=>⟨hlt,s15,ρ2,k1,l1,er6,W5,e'⟩
  | ct ρ2=>exact fun σ6 er6=>⟨hlt,s15,ρ2,k1,l1,er6,W5,e'⟩
  | bk ρ2=>cases e';exact fun σ6 er6=>q H5 ((qy.of s1).trans s15) W5 σ6 er6
  | rt d=>cases e';exact q H5 ((qy.of s1).trans s15) W5
 ·have e4:i=ds.length:=by omega
  subst e4
  rw[List.drop_length] at e'
  cases e'
  exact .inl ⟨y.2 _ H' kp (Nat.le_refl _),q H' ((qy.of s1).trans s2) W' σ' er'⟩
theorem ED(h:SE X e f):Ep X e (zf f):=PE.imp h fun σ H Q ⟨ρ,τ,d,a,kv,ds,x,er,W,e,q⟩=>⟨ρ,x,er.1,e,q⟩
theorem EL{op:Operator}{F:D->D->OD}{a b:Expr}{g h:WE}(ho:DC X (binaryOp op) F)(ha:Ep X a g)(hb:Ep X b h):Ep X (.BinOp a op b pos) (yW F g h):=(iC ho ha hb).imp fun σ H Q ⟨ρ,τ,d,c,kv,ds,x,er,W,e,q⟩=>by
 obtain⟨y,e1,e⟩:=kx e
 obtain⟨z,e2,e⟩:=kx e
 exact⟨ρ,τ,d,c,kv,ds,y,er,W,e1,fun v H1 s1 r1=>⟨ρ,τ,d,c,kv,ds,z,er.mono s1,W.mono s1,e2,fun v2 H2 s2 r2=>⟨y,z,x,r1.mono s2,r2,e,fun v3 H3 s3 r3=>q v3 H3 ((s1.trans s2).trans s3) r3⟩⟩⟩
theorem obj_at{K:W.Frag}{H:Hp}{ρ:R}{τ σ:L2.St}{i:Nat}{d:Addr}(er:lQ K H ρ τ σ)(h:isAt i ρ d):σ[i]?=some (some (.ref d)):=by
 obtain⟨v,hσ,r⟩:=er.1.at h
 cases (show v=_ from r)
 exact hσ
theorem Da{x:Str}{px:Pos}(i:Nat)(hu:X.A.units+1<cLine)(he:SE X e f)(hs:Eg e:=by exact fun _ _=>rfl)(hN:X.N[i]?=some x:=by rfl)(hv:vC X.env.scope x:=by first | exact Or.inl rfl | exact Or.inr (Or.inl rfl) | exact Or.inr (Or.inr rfl))(hd:(x==("__debug__" : Str))=false:=by decide)(hcd:(x==("__classdict__" : Str))=false:=by decide) :
  Ep X (.Subscript (.Name x px) e pos) (sU i f):=by
 intro pins s σ H Q I ⟨ρ,τ,d,a,kv,ds,y0,er,W,eq,q⟩
 obtain⟨dk,e1,eq⟩:=kx eq
 obtain⟨j,ek,eq⟩:=kx eq
 split at eq
 case isFalse=>cases eq
 case isTrue hc =>
 obtain⟨hi,hk⟩:=hc
 have hσ:=obj_at er hi
 refine yr PySem.F.slot_dict_getitem.lookup hs (lA ((pv i (pos:=px) hN hv hd hcd) pins s σ H (fun v H1=>v=.ref d/\H1=H) I ⟨.ref d,hσ,rfl,rfl⟩) fun u s1 ⟨y,H1,I1,r1,ey,eH⟩=>?_)
 subst ey eH
 cases (show u=_ from r1)
 refine lA (he pins s1 σ H1 (fun v H2=>ku H1 H2/\Rep X.K H2 dk v) I1 ⟨ρ,dk,er.1,e1,fun v H2 s2 r2=>⟨s2,r2⟩⟩) fun iv s2 ⟨y,H2,I2,ry,s12,rk⟩=>?_
 obtain⟨_,D2,_⟩:=W.mono s12
 rw[se ek] at rk
 exact DI hu I2 D2 hk eq rk ry fun v w' s3 I4 rw' rv=>⟨v,H2,I4,rw',q v _ s12 rv⟩
theorem DO{x:Str}{ke:Expr}{kf:R->OD}{g:WE}{px pos':Pos}(i:Nat)(hu:X.A.units+1<cLine)(hk:SE X ke kf)(he:Ep X e g)(hN:X.N[i]?=some x:=by rfl)(hv:vC X.env.scope x:=by first | exact Or.inl rfl | exact Or.inr (Or.inl rfl) | exact Or.inr (Or.inr rfl))(hd:(x==("__debug__" : Str))=false:=by decide)(hcd:(x==("__classdict__" : Str))=false:=by decide)
  (hs:swapsWith e (some (.Subscript (.Name x px) ke pos')) pos.line X.env=pure false:=by rfl):WJ X (.Assign [.Subscript (.Name x px) ke pos'] e pos) (A8 i kf g):=by
 intro pins s σ H E I ⟨ρ,τ,d,a,kv,ds,o,kv',ds',er,W,eq,qq⟩
 obtain⟨y0,e1,eq⟩:=kx eq
 obtain⟨k0,e2,eq⟩:=kx eq
 obtain⟨j,ek,eq⟩:=kx eq
 split at eq
 case isFalse=>cases eq
 case isTrue hc =>
 cases eq
 obtain⟨hi,hkn,hn,hl⟩:=hc
 have hσ:=obj_at er hi
 refine wpAny_Assign_Subscript (lA (he pins s σ H (fun v H1=>ku H H1/\Rep X.K H1 y0 v) I ⟨ρ,τ,d,a,kv,ds,y0,er,W,e1,fun v H1 s1 r1=>⟨s1,r1⟩⟩) fun r s1 ⟨v,H1,I1,rv,s01,rd⟩ =>
  lA ((pv i (pos:=px) hN hv hd hcd) pins s1 σ H1 (fun v H2=>v=.ref d/\H2=H1) I1 ⟨.ref d,hσ,rfl,rfl⟩) fun u s2 ⟨y,H2,I2,r2,ey,eH⟩=>?_) hs
 subst ey eH
 cases (show u=_ from r2)
 refine lA (hk pins s2 σ H2 (fun v H3=>ku H2 H3/\Rep X.K H3 k0 v) I2 ⟨ρ,k0,(er.mono s01).1,e2,fun v H3 s3 r3=>⟨s3,r3⟩⟩) fun iv s3 ⟨y,H3,I3,ry,s23,rk⟩=>?_
 have s03:=s01.trans s23
 have W3:=W.mono s03
 obtain⟨hda,D3,ys,hy3,ry3⟩:=id W3
 rw[se ek] at rk
 refine D1 hu I3 D3 hkn hn hl rk ry (rd.mono s23) rv fun H6 s6 I6 k36 D6=>?_
 have kp36:=D3.kp k36
 exact⟨σ,H6,I6,qq H6 ((qy.of s03).trans (qy.d k36)) ⟨hda,D6,ys,k36 _ _ (Ne.symm hda) hy3,ry3.kp kp36⟩ σ ((er.mono s03).kp kp36)⟩
theorem Dd{x:Str}{px ap cp:Pos}(i:Nat)(he:SE X e f)(hN:X.N[i]?=some x:=by rfl)(hv:vC X.env.scope x:=by first | exact Or.inl rfl | exact Or.inr (Or.inl rfl) | exact Or.inr (Or.inr rfl))(hd:(x==("__debug__" : Str))=false:=by decide)(hcd:(x==("__classdict__" : Str))=false:=by decide)
  (hbase:attributeBase (.Name x px) "append" X.env (eval (.Name x px) X.env)=eval (.Name x px) X.env:=by rfl) (hst:noStar e=true:=by rfl)
  (hline:(ap.endLine==cp.line)=true:=by rfl) (hs:swapsWith (.Call (.Attribute (.Name x px) "append" ap) [e] [] cp) none pos.line X.env=pure false:=by rfl) :
  WJ X (.Expr (.Call (.Attribute (.Name x px) "append" ap) [e] [] cp) pos) (Cp i f):=by
 intro pins s σ H E I ⟨ρ,τ,d0,a,kv,ds,o,kv',ds',er,W,eu,qq⟩
 obtain⟨d,e1,eu⟩:=kx eu
 split at eu
 case isFalse=>cases eu
 case isTrue hc =>
 cases eu
 obtain⟨hi,hlen⟩:=hc
 have hσ:=eG er
 rw[hi] at hσ
 have hst1:=aw [] X.env hst
 refine wpAny_Expr_any (wpAny_Call_method_late hbase ?_ hline rfl (lA ((pv i (pos:=px) hN hv hd hcd) pins s σ H (fun v H1=>v=.ref a/\H1=H) I ⟨.ref a,hσ,rfl,rfl⟩) fun v s1 ⟨y,H1,I1,r1,ey,eH⟩=>?_)) I.quiet hs
 ·rw[hst1]
  rfl
 subst ey eH
 cases (show v=_ from r1)
 obtain⟨_,_,ys0,ho,_⟩:=id W
 obtain⟨z,its,n,rv,eo⟩:=dX I1 ho
 refine⟨"list","list.append",PySem.F.plainAttrs_list,PySem.F.slot_list_append,PySem.F.type_list_append,⟨_,eo,rfl⟩,fun b eb=>?_,?_⟩
 ·cases eb
  exact⟨_,eo,rfl⟩
 have hA:=(aa he ae hst).1 cp pins s1 σ H1 (fun vs H2=>ku H1 H2/\i9 X.K H2 [d] vs) I1 ⟨ρ,[d],er.1,by show(f ρ).bind _=_;rw[e1];rfl,fun vs H2 s2 r2=>⟨s2,r2⟩⟩
 rw[hst1] at hA ⊢
 refine Calls.callWith_builtin rfl (Calls.evalArgs_plain ?_)
 refine lA hA fun us s2 ⟨vs,H2,I2,r2,s12,rd⟩=>?_
 obtain⟨w,w',rfl,rw1,rw2⟩:=rd
 cases (show w'=[] from rw2)
 obtain⟨hda,D2,ys,ho2,rp⟩:=W.mono s12
 have I3:=sv I2 ho2
 refine lA (dP pins s2 σ (upd H2 a (.lst ys)) (.ref a) [w] (.ref a) us (fun v H3=>H3=upd (upd H2 a (.lst ys)) a (.lst (ys++[w]))) I3 rfl r2 ⟨a,ys,w,rfl,rfl,ai,by rw[<- rp.length];exact hlen,rfl⟩) fun v s3 ⟨v',H3,I4,_,e3⟩=>?_
 subst e3
 have I5:=qR I4 ai
 generalize hH5:upd (upd (upd H2 a (.lst ys)) a (.lst (ys++[w]))) a (mj a (ys++[w]))=H5 at I5
 have k25:lY a H2 H5:=by
  subst hH5
  exact lY.upd.trans (lY.upd.trans lY.upd)
 have ho5:H5 a=some (mj a (ys++[w])):=by subst hH5;exact ai
 have kp25:Kp H2 H5:=k25.kp ho2
 refine⟨σ,H5,I5,qq H5 ((qy.of s12).trans (qy.a k25)) ⟨hda,D2.move k25 hda kp25,_,ho5,(rp.kp kp25).append (i9.one (rw1.kp kp25))⟩ σ ((er.mono s12).kp kp25)⟩
theorem Au{x:Str}{kf:R->OD}{px:Pos}(i:Nat)(hu:X.A.units+1<cLine)(hk:SE X e kf)(hN:X.N[i]?=some x:=by rfl)(hv:vC X.env.scope x:=by first | exact Or.inl rfl | exact Or.inr (Or.inl rfl) | exact Or.inr (Or.inr rfl))(hd:(x==("__debug__" : Str))=false:=by decide)(hcd:(x==("__classdict__" : Str))=false:=by decide) :
  GU X (.Compare e [.NotIn] [.Name x px] pos) (qU i kf):=by
 have PCx:PC X .NotIn e (.Name x px) (fun σ H Q=>∃ ρ τ d a kv ds b,lQ X.K H ρ (some (.ref a)::τ) σ/\zw X.prog X.w X.K H d a kv ds/\qU i kf ρ d kv=some b/\∀H',ku H H'->Q (.bl b) H'):=by
  intro pins s σ H Q I ⟨ρ,τ,d,a,kv,ds,b,er,W,eq,q⟩
  obtain⟨k0,e1,eq⟩:=kx eq
  obtain⟨j,ek,eq⟩:=kx eq
  split at eq
  case isFalse=>cases eq
  case isTrue hc =>
  cases eq
  obtain⟨hi,hkn⟩:=hc
  have hσ:=obj_at er hi
  refine lA (hk pins s σ H (fun v H2=>ku H H2/\Rep X.K H2 k0 v) I ⟨ρ,k0,er.1,e1,fun v H2 s2 r2=>⟨s2,r2⟩⟩) fun iv s1 ⟨y,H1,I1,ry,s01,rk⟩=>?_
  refine lA ((pv i (pos:=px) hN hv hd hcd) pins s1 σ H1 (fun v H2=>v=.ref d/\H2=H1) I1 ⟨.ref d,hσ,rfl,rfl⟩) fun u s2 ⟨y',H2,I2,r2,ey,eH⟩=>?_
  subst ey eH
  cases (show u=_ from r2)
  obtain⟨_,D2,_⟩:=W.mono s01
  rw[se ek] at rk
  exact zX hu I2 D2 hkn rk ry fun s3 I4=>⟨.bl (lu kv j).isNone,_,I4,rfl,q _ s01⟩
 exact(jW PCx (by rfl)).imp fun σ H Q ⟨ρ,τ,d,a,kv,ds,b,er,W,e,q⟩=>⟨ρ,τ,d,a,kv,ds,b,er,W,e,fun H' s=>⟨b,rfl,q H' s⟩⟩
end
section
variable(P:Program)(w:World)(K:W.Frag)
def G7(u:R->Nat->KI->Option (D×KI)):TS:=fun E σ H=>∃ ρ τ d kv r kv',lQ K H ρ τ σ/\mM P w K H d kv/\u ρ d kv=some (r,kv')/\∀H' v,lY d H H'->mM P w K H' d kv'->Rep K H' r v->E.rt v H'
def EX(u:TS):TS:=fun E σ H=>∃a xs,H a=some (.lst xs)/\u E σ (upd H a (mj a xs))
def EM(u:TS):TS:=fun E σ H=>∃a xs,H a=some (mj a xs)/\u E σ (upd H a (.lst xs))
def EE(u:TS):TS:=fun E σ H=>∃a kv,mM P w K H a kv/\kv ≠ []/\∀H',lY a H H'->Rep K H' (mw kv) (.ref a)->u E σ H'
end
section
variable{X:Cx}{st:Stmt}{sts:List Stmt}{u:TS}{p q:WU}{pos:Pos}
theorem jA(h:PSs X sts u):PSs X sts (EX u):=fun pins s σ H E I ⟨a,xs,ha,hu⟩=>h pins s σ _ E (qR I ha) hu
theorem jr(h:PSs X sts u):PSs X sts (EM u):=fun pins s σ H E I ⟨a,xs,ha,hu⟩=>h pins s σ _ E (sv I ha) hu
theorem jo(h:PSs X sts u):PSs X sts (EE X.prog X.w X.K u):=fun pins s σ H E I ⟨a,kv,D,hne,hu⟩=>by
 obtain⟨H',I',k,r⟩:=Dh I D hne
 exact h pins s σ _ E I' (hu H' k r)
theorem B0{x:Str}{px p1 p2 p3:Pos}(i:Nat)(hN:X.N.Nodup)(h:WJ X st p)(hix:X.N[i]?=some x:=by rfl)(hx:Loc X.env.scope x:=by first | exact Or.inl rfl | exact Or.inr rfl)(hv:vC X.env.scope x:=by first | exact Or.inl rfl | exact Or.inr (Or.inl rfl) | exact Or.inr (Or.inr rfl))
  (hs:swapsWith (.List [] p1) (some (.Name x px)) pos.line X.env=pure false:=by rfl) (hf:X.fn x=true\/X.env.scope.names.lookup x=some .local:=by first | exact .inl rfl | exact .inr rfl) (hd:(x==("__debug__" : Str))=false:=by decide) (hcd:(x==("__classdict__" : Str))=false:=by decide) :
  PSs X [.Assign [.Name x px] (.List [] p1) pos,st,.Return (some (.Name x p2)) p3] (G7 X.prog X.w X.K (wa i p)):=by
 refine(ba (cN (i:=i) hN hix hx (dF ae.1) hs hf) (jA (ba h (jr (cg (fK (pv i (pos:=p2) hix hv hd hcd))))))).imp fun E σ H ⟨ρ,τ,d,kv,r,kv',er,D0,e,qq⟩=>?_
 unfold wa at e
 split at e
 case isFalse=>cases e
 case isTrue hlen =>
 obtain⟨⟨o1,kv1,ds1⟩,e1,e⟩:=kx e
 match o1,e,e1 with
 | .nx ρ1,e,e1 =>
 dsimp only at e
 split at e
 case isFalse=>cases e
 case isTrue hl1 =>
 cases e
 refine⟨ρ,[],er.1,rfl,fun vs H1 s1 r1=>⟨?_,fun a ha=>?_⟩⟩
 ·rw[<- r1.length];exact Nat.zero_le _
 cases (show vs=[] from r1)
 refine⟨a,[],ai,?_⟩
 generalize hH2:upd (upd H1 a (.lst [])) a (mj a [])=H2
 have k12:lY a H1 H2:=by
  subst hH2
  exact lY.upd.trans lY.upd
 have s12:ku H1 H2:=fun b u hb=>k12 b u (fun z=>by rw[z,ha] at hb;cases hb) hb
 have ho2:H2 a=some (mj a []):=by subst hH2;exact ai
 have s02:=s1.trans s12
 obtain⟨φ,hdd⟩:=D0.ext
 have hda:d≠a:=fun z=>by
  have:=s1 _ _ hdd
  rw[z,ha] at this;cases this
 have hσi:i<σ.length:=Nat.lt_of_lt_of_le (by omega) er.1.1
 refine⟨ρ.take i,τ,d,a,kv,[],.nx ρ1,kv',ds1,⟨⟨?_,fun j d' hd'=>?_⟩,?_⟩,⟨hda,D0.mono s02,[],ho2,rfl⟩,e1,fun H3 k3 W3 σ3 er3=>?_⟩
 ·simp
  omega
 ·have hj:j<i:=by
   have:=(List.getElem?_eq_some_iff.mp hd').1
   simp at this
   omega
  rw[List.getElem?_take_of_lt hj] at hd'
  obtain⟨v,h1,h2⟩:=er.1.2 j d' hd'
  exact⟨v,by rw[List.getElem?_set_ne (by omega)];exact h1,h2.mono s02⟩
 ·have hd':σ.drop (i+1)=τ:=by rw[<- hlen];exact er.2
  rw[List.length_take,Nat.min_eq_left (by omega),List.drop_eq_getElem_cons (by simpa using hσi)]
  congr 1
  ·simp
  ·rw[List.drop_set_of_lt (by omega)]
   exact hd'
 ·obtain⟨_,D3,ys3,hy3,ry3⟩:=id W3
  have k34:lY a H3 (upd H3 a (.lst ys3)):=lY.upd
  have kp34:Kp H3 (upd H3 a (.lst ys3)):=k34.kp hy3
  have hσ:=eG er3
  rw[hl1] at hσ
  refine⟨a,ys3,hy3,.ref a,hσ,qq _ (.ref a) (fun b u hb e=>?_) (D3.move k34 hda kp34) ⟨a,ys3,rfl,ai,ry3.kp kp34⟩⟩
  have hba:b≠a:=fun z=>by
   have:=s1 _ _ e
   rw[z,ha] at this;cases this
  exact k34 b u hba (k3 b u hb hba (s02 _ _ e))
end
def Ge(P:Program)(w:World)(K:W.Frag)(m:Nat)(g:LD->Nat->KI->Option (D×KI)):Sp:=fun vs H Q _=>∃d ds rest kv r kv',vs=.ref d::rest/\rest.length+1=m/\i9 K H ds rest/\mM P w K H d kv/\g (.obj 1 d [] []::ds) d kv=some (r,kv') /\
 ∀H' v,lY d H H'->mM P w K H' d kv'->Rep K H' r v->Q v H'
theorem jn{P:Program}{w:World}{K:W.Frag}{mg:Str->Option Value}{base:Heap}{x qual:Str}{st:Stmt}{f:Addr}{fd:FuncData}{N ps:List Str}{k:Nat}{g:R->Nat->KI->Option (D×KI)}
  (Fn:qa K x qual st f fd) (S:kL N ps (i7 st))
  (hb:∀(cdv:Value) (A:Around) (outer:List Env) (s:Shared) (H:Hp) (E:XK),lb k (A.deeper (envOfC qual (i7 st) s.heap.objs.size f cdv))->PSs (pK mi P w K mg base N qual (i7 st) f cdv A outer s H E).nox (k7 st) (G7 P w K g)) :
  kT P w K mg base mi (k+1) f fd ps (Ge P w K ps.length fun ds=>g (pe N.length ds)):=by
 refine Fn.ok S (fun vs H Q E h=>?_) (fun cdv A outer s H vs Q E hr h=>?_)
 ·obtain⟨d,ds,rest,kv,r,kv',rfl,hl,_⟩:=h
  exact hl
 ·obtain⟨d,ds,rest,kv,r,kv',rfl,hl,rr,hd,e,q⟩:=h
  refine⟨_,hb cdv A outer s H E hr,pe N.length (.obj 1 d [] []::ds),_,d,kv,r,kv',(qo (ds:=.obj 1 d [] []::ds) ⟨.ref d,rest,rfl,rfl,rr⟩).t,hd,e,fun H' v a b c=>q H' v a b c⟩
structure zj (P:Program) (w:World) (K:W.Frag) (mg:Str->Option Value) (base:Heap) (k:Nat) (x:Str) (ps:List Str) (g:LD->Nat->KI->Option (D×KI)):Prop where
 ex:∃f fd,kT P w K mg base mi k f fd ps (Ge P w K ps.length g)/\mg x=some (.ref f)/\W.keepIn K (.ref f)=true/\Binds K fd ps []
theorem zj.m{P:Program}{w:World}{K:W.Frag}{mg:Str->Option Value}{base:Heap}{j k:Nat}{x:Str}{ps:List Str}{g:LD->Nat->KI->Option (D×KI)}(h:zj P w K mg base j x ps g)(hk:j<=k:=by decide):zj P w K mg base k x ps g:=by
 obtain⟨f,fd,a,b⟩:=h.ex
 exact⟨f,fd,a.mono hk,b⟩
def GL(P:Program)(w:World)(K:W.Frag)(tk tv:TE):TE:=fun σ H Q=>∀p,H p=none->xF [(tk,tv)] σ (upd H p (.dK [])) fun ps H2=>∃x y,ps=[(x,y)]/\H2 p=some (.dK [])/\∃ky e,Rep K H2 (kH ky) x/\(∀H,Rep K H e y)/\∀H3,lY p H2 H3->mM P w K H3 p [(ky,e)]->Q (.ref p) H3
theorem Hz{K:W.Frag}{H:Hp}{p:Addr}{o:HO}(h:H p=some (.dK [])):(∀{a xs},mG K H a xs->mG K (upd H p o) a xs):=fun {a xs} q=>by
 have ne:∀{u},H a=some u->u≠.dK []->a≠p:=fun {u} e n z=>by rw[z,h] at e;exact n (Option.some.inj e).symm
 rcases q with (q | ⟨ob,q⟩) | q
 ·exact .inl (.inl (by rw[aj (ne q (fun z=>by cases z))];exact q))
 ·exact .inl (.inr ⟨ob,by rw[aj (ne q (fun z=>by cases z))];exact q⟩)
 ·exact .inr q
theorem j4{X:Cx}{pos:Pos}{k v:Expr}{tk tv:TE}(hu:X.A.units+1<cLine)(hk:PE X k tk)(hv:PE X v tv):PE X (.Dict [some k] [v] pos) (GL X.prog X.w X.K tk tv):=by
 intro pins s σ H Q I q
 have hn:=I.hok.fresh (Nat.le_refl s.heap.objs.size)
 have I1:=I.laid (a:=s.heap.objs.size) (o:=.dK []) (h':=s.heap.push {cls:=.type "dict",data:=.dict #[]}) (t':=s.toks) (fun _ _ q=>Heap.get?_push_of_some _ q) (Nat.le_refl _) (iM s.heap I.big)
 refine wpAny_Dict_any rfl rfl (by simp) (by simp) ?_
 generalize s.heap.objs.size=d at *
 refine lA (Az (pos:=pos) hk hv Cg pins _ σ _ (fun ps H2=>∃x y,ps=[(x,y)]/\H2 d=some (.dK [])/\∃ky e,Rep X.K H2 (kH ky) x/\(∀H,Rep X.K H e y)/\∀H3,lY d H2 H3->mM X.prog X.w X.K H3 d [(ky,e)]->Q (.ref d) H3) I1 (q d hn)) fun ws s2 ⟨ps,H2,I2,rel,x,y,eps,hd2,ky,e0,rk,re,q1⟩=>?_
 subst eps
 cases rel with
 | @cons _ b _ ls e rt =>
 cases rt
 obtain⟨u1,u2⟩:=b
 obtain⟨e1,e2⟩:=e
 show wpAny _ _ (storeAll d [(u1,u2)]) _ _ s2
 unfold storeAll
 rw[List.forIn_cons]
 refine wpAny_bind (wpAny_bind ?_)
 obtain⟨z,hsm,vs0,r0,dd⟩:=jJ I2.hok hd2
 cases r0
 rcases qG rk with ⟨i,rfl,rfl⟩ | ⟨r,a,rfl,rfl,hq⟩
 ·refine wpAny_dictSet_pairs (wj (k:=(Sum.inl i:Key)) e1) dd fun h' dd' hs=>?_
  refine wpAny_pure (wpAny_pure ⟨.ref d,upd H2 d (t5 X.prog X.w d [(Sum.inl i,y)]),?_,rfl,q1 _ lY.upd (.inl ⟨_,ai,i,y,[],rfl,rfl,re _,rfl⟩)⟩)
  have he:∃q,h'.get? d=some q:=let ⟨q,_,_,g,_⟩:=dd';⟨q,g⟩
  have I3:=cI (ob:=.dK [(Sum.inl i,y)]) (t':=s2.toks+1) I2 (by rw[hd2];trivial) hs he (ia (by show 1<=sizeLine;decide) hsm (.cons ⟨rfl,e2⟩ .nil) dd')
  have I4:=rY I3 ai
  rw[jw] at I4
  exact I4
 ·cases (show u1=_ from e1)
  obtain⟨o,es,ep,g,hx,hdat,hko,hpr,hnd⟩:=dd
  have hes:es.toList=[]:=by
   have:=hpr.length
   exact List.length_eq_zero_iff.mp this
  have ddH:s2.heap.DictOfH (tupleKind (kJ X.prog X.w)) d []:=⟨o,es,ep,g,hx,hdat,by rw[hes];rfl,(fun x hx=>nomatch hx),List.nodup_nil⟩
  refine wpAny_dictSet_heap (knd:=tupleKind (kJ X.prog X.w)) (show X.A.units<cLine by omega) (sX I2 hq) ddH (fun h' dd' hs=>?_) (by show 0<=sizeLine;decide)
  rw[storedH_new rfl] at dd'
  have he:∃q,h'.get? d=some q:=let ⟨q,_,_,g,_⟩:=dd';⟨q,g⟩
  refine wpAny_pure (wpAny_pure ⟨.ref d,upd H2 d (zo X.prog X.w d [(r,a,y)]),?_,rfl,q1 _ lY.upd (.inr ⟨_,ai,r,a,y,[],rfl,rfl,Hz hd2 hq,re _,rfl⟩)⟩)
  exact cI I2 (by rw[hd2];trivial) hs he (vU hsm (by show 1<=sizeLine;decide) (.cons ⟨rfl,rfl,e2⟩ .nil) dd')
section
variable{X:Cx}{pos p1 p2 p3 p4 p5 p6 p7 p8 p9 p10 p11 p12 p13 p14:Pos}
theorem jB{k:Nat}{xf xs xc xw xn:Str}{ps:List Str}{g:LD->Nat->KI->Option (D×KI)}{c ve:Expr}{e:D}(n i j iw il:Nat)(hp:PassesOwn (model X.prog X.w) X.A X.env X.xe)(C:zj X.prog X.w X.K X.mg X.base k xf ps g)(hps:ps.length=3)(hr:lb k X.A)(hN:X.N.Nodup)(hc:ST X c (lC FT (i6 ml (i3 (i4 il) i5)) (kI 0)))(hve:SE X ve (fun _=>some e))(rye:∀(A B:Hp) (v:V),Rep X.K A e v->Rep X.K B e v)
  (hij:i≠iw/\i≠il/\j≠iw/\j≠il/\iw≠il/\iw<n/\il<n:=by decide)
  (hxs:X.N[i]?=some xs:=by rfl) (hxc:X.N[j]?=some xc:=by rfl) (hxw:X.N[iw]?=some xw:=by rfl) (hxn:X.N[il]?=some xn:=by rfl)
  (vs:vC X.env.scope xs:=by first | exact Or.inl rfl | exact Or.inr (Or.inl rfl) | exact Or.inr (Or.inr rfl)) (vc:vC X.env.scope xc:=by first | exact Or.inl rfl | exact Or.inr (Or.inl rfl) | exact Or.inr (Or.inr rfl))
  (vw:vC X.env.scope xw:=by first | exact Or.inl rfl | exact Or.inr (Or.inl rfl) | exact Or.inr (Or.inr rfl)) (vn:vC X.env.scope xn:=by first | exact Or.inl rfl | exact Or.inr (Or.inl rfl) | exact Or.inr (Or.inr rfl))
  (lw:Loc X.env.scope xw:=by first | exact Or.inl rfl | exact Or.inr rfl) (ln:Loc X.env.scope xn:=by first | exact Or.inl rfl | exact Or.inr rfl)
  (fw:X.fn xw=true\/X.env.scope.names.lookup xw=some .local:=by first | exact .inl rfl | exact .inr rfl) (fn:X.fn xn=true\/X.env.scope.names.lookup xn=some .local:=by first | exact .inl rfl | exact .inr rfl)
  (ds:(xs==("__debug__" : Str))=false:=by decide) (dc:(xc==("__debug__" : Str))=false:=by decide) (dw:(xw==("__debug__" : Str))=false:=by decide) (dn:(xn==("__debug__" : Str))=false:=by decide) (df:(xf==("__debug__" : Str))=false:=by decide)
  (cs:(xs==("__classdict__" : Str))=false:=by decide) (cc:(xc==("__classdict__" : Str))=false:=by decide) (cw:(xw==("__classdict__" : Str))=false:=by decide) (cn:(xn==("__classdict__" : Str))=false:=by decide)
  (gf:Gl X xf:=by rfl)
  (s1:swapsWith (.Dict [some (.Name xs p2)] [ve] p3) (some (.Name xw p1)) p4.line X.env=pure false:=by rfl) (s2:swapsWith (.List [.Name xs p6] p7) (some (.Name xn p5)) p8.line X.env=pure false:=by rfl)
  (s3:swapsWith (.Call (.Name xf p10) [.Name xw p11,.Name xn p12,.Name xc p13] [] p9) (some (.Name xn p14)) pos.line X.env=pure false:=by rfl) {q1 q2 q3:Pos} :
  SS X [.Assign [.Name xw p1] (.Dict [some (.Name xs p2)] [ve] p3) p4,.Assign [.Name xn p5] (.List [.Name xs p6] p7) p8,.While c [.Assign [.Name xn p14] (.Call (.Name xf p10) [.Name xw p11,.Name xn p12,.Name xc p13] [] p9) pos] [] q1,.Return (some (.Name xw q2)) q3] (qj g n i j e):=by
 obtain⟨f,fd,a,m,kp,bd⟩:=C.ex
 obtain⟨n1,n2,n3,n4,n5,l1,l2⟩:=hij
 have ha:SA X [.Name xw p11,.Name xn p12,.Name xc p13] (i3 (i4 iw) (i3 (i4 il) (i3 (i4 j) i5))):=aa (ac iw hxw vw dw cw) (aa (ac il hxn vn dn cn) (aa (ac j hxc vc dc cc) ae))
 have hl1:SA X [.Name xs p6] (i3 (i4 i) i5):=aa (ac i hxs vs ds cs) ae
 have he':=aw (e:=.Name xw p11) [.Name xn p12,.Name xc p13] X.env rfl
 have hpl:=bo (pos:=p9) (env:=X.env) (es:=[.Name xn p12,.Name xc p13]) rfl
 refine PSs.imp (ba (cN (i:=iw) hN hxw lw (j4 (vE hr) (show SE X (.Name xs p2) (i4 i) from ac i hxs vs ds cs) hve) s1 fw) (ba (cN (i:=il) hN hxn ln (dF hl1.1) s2 fn)
  (ba (eU hp hc (cg (cN (i:=il) hN hxn ln (dg a hr gf m kp bd .nil uw ha.1 df he' hpl) s3 fn))) (jo (cg (fK (pv iw (pos:=q2) hxw vw dw cw))))))) fun E σ H ⟨ρ,τ,o,er,eg,q⟩=>?_
 obtain⟨hlen,s,c',ky,kv,h1,h2,hky,hne,h3,rfl⟩:=AX eg
 intro d hd
 have u0:=aQ hd (.dK [])
 have nd:∀b u,H b=some u->b≠d:=fun b u eb z=>by rw[z,hd] at eb;cases eb
 refine⟨ρ,s,(er.mono u0).1,h1,fun v H1 t1 r1=>?_⟩
 refine⟨ρ,e,((er.mono u0).mono t1).1,rfl,fun y H2 t2 r2=>?_⟩
 have hd2:H2 d=some (.dK []):=t2 _ _ (t1 _ _ ai)
 have rk:Rep X.K H2 (kH ky) v:=by rw[<- se hky];exact r1.mono t2
 refine⟨v,y,rfl,hd2,ky,e,rk,fun H=>rye _ _ _ r2,fun H3 k23 D3=>?_⟩
 have s03:ku H H3:=fun b u eb=>k23 b u (nd b u eb) (t2 _ _ (t1 _ _ (u0 _ _ eb)))
 have er1:=(er.mono s03).set (i:=iw) (d:=.obj 1 d [] []) (v:=.ref d) (by omega) rfl
 refine⟨ρ.set iw (some (.obj 1 d [] [])),[s],er1.1,?_,fun vs4 H4 t4 r4=>⟨?_,fun l hl=>?_⟩⟩
 ·show(i4 i (ρ.set iw _)).bind _=_
  rw[rh (Ne.symm n1),h1];rfl
 ·rw[<- r4.length];exact Nat.le_trans (show 1<=1000 by decide) (by decide)
 have u4:=aQ hl (.lst vs4)
 have s05:=(s03.trans t4).trans u4
 have er2:=((er1.mono t4).mono u4).set (i:=il) (d:=.lst [s]) (v:=.ref l) (by rw[List.length_set];omega) ⟨l,vs4,rfl,ai,r4.mono u4⟩
 refine⟨fun mm σ' H'=>∃ ρ' ls kv0,lQ X.K H' ρ' τ σ'/\ρ'.length=n/\i4 iw ρ'=some (.obj 1 d [] [])/\i4 il ρ'=some (.lst ls)/\i4 j ρ'=some c'/\mM X.prog X.w X.K H' d kv0/\ku H H'/\wD g c' mm ls d kv0=some kv,
  ⟨100,_,[s],[(ky,e)],er2,by rw[List.length_set,List.length_set];exact hlen,?_,?_,?_,(D3.mono t4).mono u4,s05,h3 d⟩,?_⟩
 ·rw[rh (Ne.symm n5),vv (by omega)]
 ·rw[vv (by rw[List.length_set];omega)]
 ·rw[rh (Ne.symm n4),rh (Ne.symm n3)];exact h2
 rintro mm σ' H' ⟨ρ',ls,kv0,er',hl',v1,v2,v3,D',sm',ew⟩
 have hcv:lC FT (i6 ml (i3 (i4 il) i5)) (kI 0) ρ'=some (decide (0<(ls.length:Int))):=by
  show(((i4 il ρ').bind fun x=>(some []).map (x::·)).bind ml).bind (fun x=>(some (D.int 0)).bind fun y=>FT x y)=_
  rw[v2]
  show some (decide ((ls.length:Int) > 0))=_
  rfl
 refine⟨ρ',_,er'.1,hcv,fun H6 t6=>?_⟩
 cases mm with
 | zero=>cases ew
 | succ mm =>
 cases ls with
 | nil =>
  have ek:kv0=kv:=Option.some.inj ew
  subst ek
  rw[if_neg (by simp)]
  refine⟨d,kv0,D'.mono t6,hne,fun H9 k69 r9=>⟨.ref d,obj_at er' v1,q _ (fun b u eb=>k69 b u (nd b u eb) (t6 _ _ (sm' _ _ eb))) (.ref d) r9⟩⟩
 | cons x ls =>
  rw[if_pos (by simp)]
  obtain⟨⟨r,kv1⟩,eg1,ew⟩:=kx ew
  match r,ew,eg1 with
  | .lst l',ew,eg1 =>
  refine⟨_,fun σ2 H2 w=>⟨mm,Nat.lt_succ_self _,w⟩,ρ',[.obj 1 d [] [],.lst (x::ls),c'],(er'.mono t6).1,?_,fun vs7 H7 t7 r7=>?_⟩
  ·show(i4 iw ρ').bind (fun x=>((i4 il ρ').bind fun y=>((i4 j ρ').bind fun z=>(some []).map (z::·)).map (y::·)).map (x::·))=_
   rw[v1,v2,v3];rfl
  obtain⟨v7,rest7,rfl,rv7,rr⟩:=r7
  cases (show v7=_ from rv7)
  have t67:=t6.trans t7
  refine⟨d,[.lst (x::ls),c'],rest7,kv0,.lst l',kv1,by simp,by rw[hps,<- rr.length];rfl,rr,D'.mono t67,eg1,fun H8 v8 k8 D8 rv8=>?_⟩
  have kp78:Kp H7 H8:=(D'.mono t67).kp k8
  refine⟨ρ'.set il (some (.lst l')),l',kv1,(((er'.mono t67).kp kp78).set (by omega) rv8),by rw[List.length_set];exact hl',?_,vv (by omega),?_,D8,fun b u eb=>k8 b u (nd b u eb) (t67 _ _ (sm' _ _ eb)),ew⟩
  ·rw[rh (Ne.symm n5)];exact v1
  ·rw[rh (Ne.symm n4)];exact v3
end
end HW
namespace HW
open PySem
abbrev zr:=List LD
abbrev NU:=R->zr->Option (Out×zr)
def Fb(ρ:R)(ls:zr):R:=ρ++ls.map fun l=>some (.lst l)
mutual
def nol:D->Bool
 | .non=>true
 | .bl _=>true
 | .int _=>true
 | .str _=>true
 | .tup ds=>B7 ds
 | _=>false
def B7:LD->Bool
 | []=>true
 | d::ds=>nol d&&B7 ds
end
end HW
namespace HW
open PySem PySem.Spec PyProof.Rows L2
def q_(H:Hp)(as:List Addr)(f:Addr->HO):Hp:=fun b=>if b∈as then some (f b) else H b
section
variable{H:Hp}{as:List Addr}{f:Addr->HO}
theorem rR{a:Addr}(h:a∈as):q_ H as f a=some (f a):=if_pos h
theorem qD{a:Addr}(h:a∉as):q_ H as f a=H a:=if_neg h
theorem ud{a:Addr}:q_ H (a::as) f=q_ (upd H a (f a)) as f:=by
 funext b
 unfold q_
 by_cases hb:b∈as
 ·rw[if_pos hb,if_pos (List.mem_cons_of_mem _ hb)]
 ·rw[if_neg hb]
  by_cases e:b=a
  ·subst e;rw[if_pos List.mem_cons_self,ai]
  ·rw[if_neg (fun z=>(List.mem_cons.mp z).elim e hb),aj e]
end
section
variable{X:Cx}{pins:List (Addr×Obj)}{σ:L2.St}{s:Shared}{xs:Addr->List V}
theorem yy:∀{as:List Addr} {H:Hp},as.Nodup->L2.Inv X pins σ H s->(∀a∈as,H a=some (mj a (xs a)))->L2.Inv X pins σ (q_ H as fun a=>.lst (xs a)) s
 | [],H,_,I,_=>by
  have e:q_ H [] (fun a=>HO.lst (xs a))=H:=by funext b;exact if_neg (fun z=>nomatch z)
  rw[e];exact I
 | a::as,H,nd,I,h=>by
  rw[ud]
  refine yy (List.nodup_cons.mp nd).2 (sv I (h a List.mem_cons_self)) fun b hb=>?_
  rw[aj (show b≠a from fun z=>(List.nodup_cons.mp nd).1 (by rw[<- z];exact hb))]
  exact h b (List.mem_cons_of_mem _ hb)
theorem yo:∀{as:List Addr} {H:Hp},as.Nodup->L2.Inv X pins σ H s->(∀a∈as,H a=some (.lst (xs a)))->L2.Inv X pins σ (q_ H as fun a=>mj a (xs a)) s
 | [],H,_,I,_=>by
  have e:q_ H [] (fun a=>mj a (xs a))=H:=by funext b;exact if_neg (fun z=>nomatch z)
  rw[e];exact I
 | a::as,H,nd,I,h=>by
  rw[ud]
  refine yo (List.nodup_cons.mp nd).2 (qR I (h a List.mem_cons_self)) fun b hb=>?_
  rw[aj (show b≠a from fun z=>(List.nodup_cons.mp nd).1 (by rw[<- z];exact hb))]
  exact h b (List.mem_cons_of_mem _ hb)
end
def qS(K:W.Frag)(H:Hp)(xs:Addr->List V):List Addr->zr->Prop
 | [],ls=>ls=[]
 | a::as,ls=>∃l r,ls=l::r/\i9 K H l (xs a)/\qS K H xs as r
def CK(K:W.Frag)(H:Hp)(as:List Addr)(ls:zr):Prop:=as.Nodup/\∃xs,(∀a∈as,H a=some (mj a (xs a)))/\qS K H xs as ls
def C7(as:List Addr)(H H':Hp):Prop:=∀b u,b∉as->H b=some u->H' b=some u
def refs(as:List Addr):L2.St:=as.map fun a=>some (.ref a)
def tV(K:W.Frag)(H:Hp)(ρ:R)(as:List Addr)(σ:L2.St):Prop:=∃ τ,lQ K H ρ (refs as++τ) σ
section
variable{K:W.Frag}{H H' H1 H2:Hp}{as:List Addr}{ls:zr}{xs:Addr->List V}{ρ:R}{σ:L2.St}
theorem C7.of(h:ku H H'):C7 as H H':=fun b u _ e=>h b u e
theorem C7.trans(h:C7 as H H1)(k:C7 as H1 H2):C7 as H H2:=fun b u n e=>k b u n (h b u n e)
theorem qS.kp(s:Kp H H'):∀{as:List Addr} {ls:zr},qS K H xs as ls->qS K H' xs as ls
 | [],_,h=>h
 | a::as,_,h=>by
  obtain⟨l,r,e,q,t⟩:=h
  exact⟨l,r,e,q.kp s,qS.kp s t⟩
theorem qS.len:∀{as:List Addr} {ls:zr},qS K H xs as ls->ls.length=as.length
 | [],_,h=>by cases (show _=[] from h);rfl
 | a::as,_,h=>by
  obtain⟨l,r,rfl,q,t⟩:=h
  rw[List.length_cons,List.length_cons,qS.len t]
theorem qS.get:∀{as:List Addr} {ls:zr} {j:Nat} {l:LD},qS K H xs as ls->ls[j]?=some l->∃a,as[j]?=some a/\i9 K H l (xs a)
 | [],_,_,_,h,e=>by cases (show _=[] from h);cases e
 | a::as,_,0,l,h,e=>by
  obtain⟨l',r,rfl,q,t⟩:=h
  cases (show some l'=some l from e)
  exact⟨a,rfl,q⟩
 | a::as,_,j+1,l,h,e=>by
  obtain⟨l',r,rfl,q,t⟩:=h
  exact qS.get (j:=j) t e
theorem CK.mono(h:CK K H as ls)(s:ku H H'):CK K H' as ls:=by
 obtain⟨nd,xs,h1,h2⟩:=h
 exact⟨nd,xs,fun a ha=>s _ _ (h1 a ha),h2.kp (Kp.of s)⟩
theorem CK.kp(h:CK K H as ls)(s:C7 as H H'):Kp H H':=fun b u e n=>by
 obtain⟨nd,xs,h1,_⟩:=h
 by_cases hb:b∈as
 ·rw[h1 b hb] at e
  cases e
  exact absurd rfl (n _)
 ·exact s b u hb e
theorem CK.len(h:CK K H as ls):ls.length=as.length:=let ⟨_,_,_,r⟩:=h;r.len
theorem tV.mono(h:tV K H ρ as σ)(s:ku H H'):tV K H' ρ as σ:=let ⟨τ,e⟩:=h;⟨τ,e.mono s⟩
theorem tV.kp(h:tV K H ρ as σ)(s:Kp H H'):tV K H' ρ as σ:=let ⟨τ,e⟩:=h;⟨τ,e.kp s⟩
theorem tV.at(h:tV K H ρ as σ){j:Nat}{a:Addr}(ha:as[j]?=some a):σ[ρ.length+j]?=some (some (.ref a)):=by
 obtain⟨τ,e⟩:=h
 have h0:(σ.drop ρ.length)[j]?=some (some (.ref a)):=by
  rw[e.2,List.getElem?_append_left (by unfold refs;rw[List.length_map];exact(List.getElem?_eq_some_iff.mp ha).1)]
  unfold refs
  rw[List.getElem?_map,ha];rfl
 rwa [List.getElem?_drop] at h0
theorem jF(h:tV K H ρ as σ)(k:Kp H H')(hl:∀a∈as,H' a=some (.lst (xs a)))(r:qS K H xs as ls):lW K H' (Fb ρ ls) σ:=by
 have hlen:=r.len
 refine⟨?_,fun i d hi=>?_⟩
 ·obtain⟨τ,e⟩:=id h
  have h2:=congrArg List.length e.2
  rw[List.length_drop,List.length_append] at h2
  have h3:=e.1.1
  unfold Fb
  rw[List.length_append,List.length_map]
  have h4:(refs as).length=as.length:=List.length_map ..
  omega
 ·unfold Fb at hi
  by_cases hlt:i<ρ.length
  ·rw[List.getElem?_append_left hlt] at hi
   obtain⟨τ,e⟩:=h
   exact(e.kp k).1.2 i d hi
  ·rw[List.getElem?_append_right (by omega),List.getElem?_map] at hi
   obtain⟨l,hl1,hd⟩:=lK hi
   cases hd
   obtain⟨a,ha,rl⟩:=r.get hl1
   have z:=h.at ha
   rw[show ρ.length+(i - ρ.length)=i by omega] at z
   exact⟨.ref a,z,a,xs a,rfl,hl a (List.mem_of_getElem? ha),rl.kp k⟩
end
mutual
theorem Rep.nol{K:W.Frag}{H H':Hp}(s:∀b u,H b=some u->(∀ys,u≠.lst ys)->H' b=some u):∀{d:D} {v:V},HW.nol d=true->Rep K H d v->Rep K H' d v
 | .non,_,_,h=>h
 | .bl _,_,_,h=>h
 | .int _,_,_,h=>h
 | .str _,_,_,h=>h
 | .tup ds,_,hn,h=>by
  obtain⟨a,xs,e,q,r⟩:=h
  refine⟨a,xs,e,?_,i9.nol s hn r⟩
  rcases q with (q | ⟨o,q⟩) | q
  ·exact .inl (.inl (s _ _ q (fun ys z=>by cases z)))
  ·exact .inl (.inr ⟨o,s _ _ q (fun ys z=>by cases z)⟩)
  ·exact .inr q
 | .lst _,_,hn,_=>by cases hn
 | .fro _,_,hn,_=>by cases hn
 | .obj ..,_,hn,_=>by cases hn
 | .dct ..,_,hn,_=>by cases hn
 | .dcp ..,_,hn,_=>by cases hn
 | .cl ..,_,hn,_=>by cases hn
theorem i9.nol{K:W.Frag}{H H':Hp}(s:∀b u,H b=some u->(∀ys,u≠.lst ys)->H' b=some u):∀{ds:LD} {vs:List V},B7 ds=true->i9 K H ds vs->i9 K H' ds vs
 | [],_,_,h=>h
 | d::ds,_,hn,h=>by
  have hn':(HW.nol d&&B7 ds)=true:=hn
  rw[Bool.and_eq_true] at hn'
  obtain⟨v,r,e,q,t⟩:=h
  exact⟨v,r,e,Rep.nol s hn'.1 q,i9.nol s hn'.2 t⟩
end
section
variable(K:W.Frag)
def Hn(f:R->OD):TE:=fun σ H Q=>∃ ρ as ls d,tV K H ρ as σ/\CK K H as ls/\f (Fb ρ ls)=some d/\nol d=true/\∀v H',ku H H'->Rep K H' d v->Q v H'
end
section
variable{X:Cx}{st:Stmt}{sts:List Stmt}{u:R->Option Out}{p q:NU}{pos:Pos}{e:Expr}
theorem fx{H H2:Hp}{as:List Addr}{xs:Addr->List V}(h:∀a∈as,H a=some (mj a (xs a)))(s:ku (q_ H as fun a=>.lst (xs a)) H2):ku H (q_ H2 as fun a=>mj a (xs a)):=fun b u e=>by
 by_cases hb:b∈as
 ·rw[rR hb,<- h b hb,e]
 ·rw[qD hb]
  exact s b u (by rw[qD hb];exact e)
theorem Ef{H:Hp}{as:List Addr}{xs:Addr->List V}(h:∀a∈as,H a=some (mj a (xs a))):Kp H (q_ H as fun a=>.lst (xs a)):=fun b u e n=>by
 by_cases hb:b∈as
 ·rw[h b hb] at e
  cases e
  exact absurd rfl (n _)
 ·rw[qD hb];exact e
theorem CS{f:R->OD}(h:SE X e f):PE X e (Hn X.K f):=by
 intro pins s σ H Q I ⟨ρ,as,ls,d,er,⟨nd,xs,h1,h2⟩,ec,hn,q⟩
 refine lA (h pins s σ _ (fun v H2=>Rep X.K H2 d v/\ku (q_ H as fun a=>.lst (xs a)) H2) (yy nd I h1) ⟨Fb ρ ls,d,jF er (Ef h1) (fun a ha=>rR ha) h2,ec,fun v H' s' r=>⟨r,s'⟩⟩) fun u s2 ⟨v,H2,I2,rv,rd,sm⟩=>?_
 refine⟨v,_,yo nd I2 (fun a ha=>sm _ _ (rR ha)),rv,q v _ (fx h1 sm) (Rep.nol (fun b w eb n=>?_) hn rd)⟩
 have hb:b∉as:=fun hb=>by
  rw[sm _ _ (rR (f:=fun a=>HO.lst (xs a)) hb)] at eb
  exact n _ (Option.some.inj eb).symm
 rw[qD hb];exact eb
theorem qS.set{K:W.Frag}{H:Hp}{xs ys:Addr->List V}:∀{as:List Addr} {ls:zr} {j:Nat} {a:Addr} {l:LD},as.Nodup->qS K H xs as ls->as[j]?=some a->(∀b,b≠a->ys b=xs b)->i9 K H l (ys a)->qS K H ys as (ls.set j l)
 | [],_,_,_,_,_,h,e,_,_=>by cases e
 | a'::as,_,0,a,l,nd,h,e,hb,r=>by
  obtain⟨l',r',rfl,q,t⟩:=h
  cases (show some a'=some a from e)
  refine⟨l,r',rfl,r,?_⟩
  have go:∀{as:List Addr} {ls:zr},a'∉as->qS K H xs as ls->qS K H ys as ls:=fun {as}=>by
   induction as with
   | nil=>intro ls _ h;exact h
   | cons c cs ih =>
    rintro ls hn ⟨l,r,e,q,t⟩
    exact⟨l,r,e,by rw[hb c (fun z=>hn (z ▸ List.mem_cons_self))];exact q,ih (fun z=>hn (List.mem_cons_of_mem _ z)) t⟩
  exact go (List.nodup_cons.mp nd).1 t
 | a'::as,_,j+1,a,l,nd,h,e,hb,r=>by
  obtain⟨l',r',rfl,q,t⟩:=h
  have hm:a∈as:=List.mem_of_getElem? (i:=j) (by simpa using e)
  refine⟨l',r'.set j l,rfl,?_,qS.set (List.nodup_cons.mp nd).2 t (by simpa using e) hb r⟩
  rw[hb a' (fun z=>(List.nodup_cons.mp nd).1 (z ▸ hm))]
  exact q
theorem qS.snoc{K:W.Frag}{H:Hp}{xs:Addr->List V}{a:Addr}{l:LD}(r:i9 K H l (xs a)):∀{as:List Addr} {ls:zr},qS K H xs as ls->qS K H xs (as++[a]) (ls++[l])
 | [],_,h=>by cases (show _=[] from h);exact⟨l,[],rfl,r,rfl⟩
 | b::as,_,h=>by
  obtain⟨l',r',rfl,q,t⟩:=h
  exact⟨l',r'++[l],rfl,q,qS.snoc r t⟩
theorem qS.split{K:W.Frag}{H:Hp}{xs:Addr->List V}{a:Addr}:∀{as:List Addr} {ls:zr},qS K H xs (as++[a]) ls->∃ls0 l,ls=ls0++[l]/\qS K H xs as ls0/\i9 K H l (xs a)
 | [],_,h=>by
  obtain⟨l,r,rfl,q,t⟩:=h
  cases (show r=[] from t)
  exact⟨[],l,rfl,rfl,q⟩
 | b::as,_,h=>by
  obtain⟨l',r',rfl,q,t⟩:=h
  obtain⟨ls0,l,rfl,h1,h2⟩:=qS.split t
  exact⟨l'::ls0,l,rfl,⟨l',ls0,rfl,q,h1⟩,h2⟩
end
section
variable{prog:Program}{w:World}{A:Around}{E:Value->Shared->Prop}{s:Shared}{d it:Addr}{o:Obj}{es:Array DictEntry}{ep i:Nat}
theorem BL(ho:s.heap.get? d=some o)(hc:o.ExactDict):s.TypeIs (.ref d) "dict":=⟨o,ho,hc.1⟩
theorem FF{Q:Value->Shared->Prop}(hd:(d==sysModules)=false)(ho:s.heap.get? d=some o)(hc:o.ExactDict)(hdat:o.data=.dict es ep)
  (hQ:Q (.ref s.heap.objs.size) {s with heap:=s.heap.push {cls:=.type "dict_keyiterator",data:=.fields #[.ref d,.int 0 0,.int es.size 0,.int ep 0]} }):wpAny (model prog w) A (pyIter (.ref d)) Q E s:=by
 have hT:=BL ho hc
 refine wpAny_pyIter_slot hT F.slot_dict_iter (wpAny_call_entry F.slot_dict_iter hT F.entry_dict_iter ?_ (F.args_dict_iter_1 _));unfold Builtin.«dict.__iter__»
 refine wpAny_bind ?_;unfold Builtin.Dict.dictSlotNone
 refine wpAny_bind (wpAny_notOrdered_dict hT ?_);show wpAny _ _ (pure (Value.ref d)) _ _ s
 refine wpAny_pure ?_;show wpAny _ _ (Builtin.Dict.showsAll d >>= _) _ _ s
 unfold Builtin.Dict.showsAll;rw[if_neg (by rw[hd];exact Bool.false_ne_true)]
 refine wpAny_bind (wpAny_pure ?_);refine wpAny_bind (wpAny_dictEntries ho hdat ?_);refine wpAny_bind (wpAny_dictEpoch ho hdat ?_)
 refine wpAny_bind (wpAny_newObj_type (wpAny_pure ⟨_,rfl,"dict_keyiterator",_,⟨_,Heap.get?_push_size _ rfl,rfl⟩,F.slot_dict_keyiterator_next.lookup,?_⟩));simpa [rawInt] using hQ
theorem FI{Q:Option Value->Shared->Prop}(hit:s.heap.IsKeyIter it d i es.size ep)(hod:s.heap.get? d=some o)(hdd:o.data=.dict es ep)(hlt:i<es.size)
  (hQ:∀h',h'.IsKeyIter it d (i+1) es.size ep->Heap.SameBut it s.heap h'->Q (some es[i].key) {s with heap:=h' }):wpAny (model prog w) A (pyNext (.ref it)) Q E s:=by
 obtain⟨oi,ho,hc,hd⟩:=id hit
 unfold pyNext;refine wpAny_bind (wpAny_attempt (wpAny_callSpecial?_slot (name:=oS "__next__") hit.typeIs F.slot_dict_keyiterator_next (wpAny_call_entry F.slot_dict_keyiterator_next hit.typeIs F.entry_dict_keyiterator_next ?_ (F.args_dict_keyiterator_next_1 _))))
 refine wpAny_bind (wpAny_pure ?_);refine wpAny_bind ?_;refine wpAny_bind ?_
 first | refine wpAny_bind (wpAny_typeNameOfWhole_keyiter hit.typeIs (wpAny_pure ?_));refine wpAny_bind (wpAny_fieldsOf ho hd ?_) | refine wpAny_bind (wpAny_typeNameOf_keyiter hit.typeIs (wpAny_pure ?_));refine wpAny_bind (wpAny_fieldsOf ho hd ?_)
 simp only[show Builtin.Dict_items.ownsTuple "dict_keyiterator" = false by decide,Bool.false_eq_true,if_false]
 show wpAny _ _ (if (Value.ref d==Value.none)=true then _ else _) _ _ s;rw[if_neg (show ¬ ((Value.ref d==Value.none)=true) from Bool.false_ne_true)]
 refine wpAny_bind (wpAny_pure ?_);refine wpAny_bind (wpAny_dictEntries hod hdd ?_);rw[if_neg (by simp)]
 refine wpAny_bind (wpAny_pure ?_);refine wpAny_bind (wpAny_dictEpoch hod hdd ?_);rw[if_neg (by simp)];refine wpAny_pure ?_
 simp only[show ¬ ((i:Int)<0) from by omega,if_false,Int.toNat_natCast,Array.getElem?_eq_getElem hlt];refine wpAny_bind ?_
 first | refine wpAny_bind (wpAny_typeNameOfWhole_keyiter hit.typeIs (wpAny_pure ?_));refine wpAny_bind (wpAny_isOneOf_keyiter hit.typeIs ?_) | refine wpAny_bind (wpAny_typeNameOf_keyiter hit.typeIs (wpAny_pure ?_));refine wpAny_bind (wpAny_isOneOf_keyiter hit.typeIs ?_)
 show wpAny _ _ (setField (.ref it) 1 (rawInt ((i:Int)+1)) >>= _) _ _ s;refine wpAny_bind (wpAny_setField ho hd (by simp) ?_)
 have hit':(s.heap.update it (Obj.mapFields (·.setIfInBounds 1 (rawInt ((i:Int)+1))))).IsKeyIter it d (i+1) es.size ep:=⟨_,Heap.get?_update_self _ ho (Obj.isFreed_of_fields (Obj.data_mapFields hd _)),(Obj.cls_mapFields ..).trans hc,by rw[Obj.data_mapFields hd];simp[rawInt]⟩
 refine wpAny_bind (wpAny_holding ?_);refine wpAny_bind (wpAny_isOneOf_keyiter (s:={s with heap:=s.heap.update it (Obj.mapFields (·.setIfInBounds 1 (rawInt ((i:Int)+1))))}) hit'.typeIs ?_)
 show wpAny _ _ (pure es[i].key) _ _ _;exact wpAny_pure (wpAny_pure ⟨_,rfl,wpAny_pure (hQ _ hit' (Heap.SameBut.update ..))⟩)
theorem GF{Q:Option Value->Shared->Prop}(hh:A.handled=none)(hit:s.heap.IsKeyIter it d i es.size ep)(hod:s.heap.get? d=some o)(hdd:o.data=.dict es ep)(hge:es.size<=i)
  (hQ:∀h',Heap.ExtBut it s.heap h'->Q none {s with heap:=h' }):wpAny (model prog w) A (pyNext (.ref it)) Q E s:=by
 obtain⟨oi,ho,hc,hd⟩:=id hit
 unfold pyNext;refine wpAny_bind (wpAny_attempt (wpAny_callSpecial?_slot (name:=oS "__next__") hit.typeIs F.slot_dict_keyiterator_next (wpAny_call_entry F.slot_dict_keyiterator_next hit.typeIs F.entry_dict_keyiterator_next ?_ (F.args_dict_keyiterator_next_1 _))))
 refine wpAny_bind (wpAny_pure ?_);refine wpAny_bind ?_;refine wpAny_bind ?_
 first | refine wpAny_bind (wpAny_typeNameOfWhole_keyiter hit.typeIs (wpAny_pure ?_));refine wpAny_bind (wpAny_fieldsOf ho hd ?_) | refine wpAny_bind (wpAny_typeNameOf_keyiter hit.typeIs (wpAny_pure ?_));refine wpAny_bind (wpAny_fieldsOf ho hd ?_)
 simp only[show Builtin.Dict_items.ownsTuple "dict_keyiterator" = false by decide,Bool.false_eq_true,if_false]
 show wpAny _ _ (if (Value.ref d==Value.none)=true then _ else _) _ _ s;rw[if_neg (show ¬ ((Value.ref d==Value.none)=true) from Bool.false_ne_true)]
 refine wpAny_bind (wpAny_pure ?_);refine wpAny_bind (wpAny_dictEntries hod hdd ?_);rw[if_neg (by simp)]
 refine wpAny_bind (wpAny_pure ?_);refine wpAny_bind (wpAny_dictEpoch hod hdd ?_);rw[if_neg (by simp)];refine wpAny_pure ?_
 simp only[show ¬ ((i:Int)<0) from by omega,if_false,Int.toNat_natCast,Array.getElem?_eq_none hge];refine wpAny_bind ?_
 first | refine wpAny_bind (wpAny_typeNameOfWhole_keyiter hit.typeIs (wpAny_pure ?_));show wpAny _ _ (setField (.ref it) 0 .none >>= _) _ _ s | refine wpAny_bind (wpAny_typeNameOf_keyiter hit.typeIs (wpAny_pure ?_));show wpAny _ _ (setField (.ref it) 0 .none >>= _) _ _ s
 refine wpAny_bind (wpAny_setField ho hd (by simp) ?_);show wpAny _ _ (newExc (.type "StopIteration") [] >>= _) _ _ _
 refine wpAny_bind ?_;simp only[newExc,newTuple];refine wpAny_bind (wpAny_newObj_type ?_ (by size_fits))
 refine wpAny_bind (m:=firstArgMember _ _) (wpAny_of_eq (a:=Value.none) (by first | rfl | (simp only[firstArgMember];rfl)) ?_);refine wpAny_newObj_type ?_ (by size_fits);simp only[raiseNew]
 refine wpAny_bind (wpAny_handled ?_);rw[show A.in1.handled=none from hh];refine wpAny_bind (wpAny_pure (wpAny_throw ?_))
 refine wpAny_bind (wpAny_isInstance (T:="StopIteration") (b:=true) ⟨_,Heap.get?_push_size _ rfl,rfl⟩ isSubtype_stop ?_);exact wpAny_pure (hQ _ (((Heap.SameBut.update ..).extBut.push _).push _))
end
def G2(a:Addr)(o:Obj)(kas:List Addr):It:=⟨fun i H=>H a=some (.frz o (.own 0))/\i<kas.length,fun i H x H'=>H'=H/\∃k,kas[i]?=some k/\x=.ref k,fun i H=>H a=some (.frz o (.own 0))/\kas.length<=i⟩
theorem wV{P:Program}{w:World}{K:W.Frag}{tg:Expr}{a it:Addr}{o:Obj}{kas:List Addr}{es:Array DictEntry}{ep:Nat}(hd:o.data=.dict es ep)(hk:es.toList.map (·.key)=kas.map Value.ref):Turn P w K tg (G2 a o kas) [it] it (fun i h=>h.IsKeyIter it a i es.size ep) where
 mem:=by simp
 obj:=fun i h st b hb=>by
  have e:b=it:=by simpa using hb
  subst e
  obtain⟨o,e,c,d⟩:=st
  exact⟨o,e,fun v z=>by rw[d] at z;cases z⟩
 keep:=fun i h h' st k=>st.at fun o e=>k it (by simp) o e
 item:=by
  intro X hP hw hK hc i pins s σ H E I hf st ⟨hq,hi⟩
  have g:s.heap.get? a=some o:=(I.hok a _ hq).1
  have hl:es.size=kas.length:=by have:=congrArg List.length hk;simpa using this
  have hie:i<es.size:=by omega
  obtain⟨f0,f1,f2,f3,f4,f5⟩:=hf it (by simp)
  have hkey:es[i].key=.ref kas[i]:=by
   have h1:(es.toList.map (·.key))[i]?=(kas.map Value.ref)[i]?:=by rw[hk]
   rw[List.getElem?_map,List.getElem?_map,List.getElem?_eq_getElem hi,List.getElem?_eq_getElem (by simpa using hie)] at h1
   simpa using h1
  subst hP hw hK
  refine FI st g hd hie fun h' hit' hs'=>?_
  have I1:L2.Inv X pins σ H {s with heap:=h' }:=I.turned (t':=s.toks) (fun b o hb e=>(hs'.2 b hb).trans e) f0 f1 f3 f4 f5
  obtain⟨oi,e1,c1,d1⟩:=id hit'
  refine⟨_,rfl,wI (s:={s with heap:=h' }) e1 c1 d1 (by decide) ⟨.ref kas[i],H,I1,?_,⟨rfl,_,List.getElem?_eq_getElem hi,rfl⟩,hit',fun b hb=>(hf b hb).1⟩⟩
  rw[hkey];rfl
 done:=by
  intro X hP hw hK hc i pins s σ H E I hf st ⟨hq,hi⟩
  have g:s.heap.get? a=some o:=(I.hok a _ hq).1
  have hl:es.size=kas.length:=by have:=congrArg List.length hk;simpa using this
  obtain⟨f0,f1,f2,f3,f4,f5⟩:=hf it (by simp)
  subst hP hw hK
  exact GF (I.ok.hd hc) st g hd (by omega) fun h' eb=>⟨rfl,I.turned (t':=s.toks) (fun b o hb e=>eb b o hb e) f0 f1 f3 f4 f5⟩
 self:=fun _ _ _ _ _ st h=>wpAny_pyIter_keyiter st h
theorem qV{K:W.Frag}{H:Hp}:∀{ks:List (Int×Int)} {kas:List Addr},pR K H ks kas->ks.length=kas.length
 | [],_,h=>by cases (show _=[] from h);rfl
 | k::ks,_,h=>by
  obtain⟨a,r,rfl,_,t⟩:=h
  rw[List.length_cons,List.length_cons,qV t]
theorem uh{K:W.Frag}{H:Hp}:∀{ks:List (Int×Int)} {kas:List Addr} {i:Nat} {k:Int×Int},pR K H ks kas->ks[i]?=some k->∃a,kas[i]?=some a/\mG K H a [.int k.1,.int k.2]
 | k'::ks,_,0,k,h,e=>by
  obtain⟨a,r,rfl,q,t⟩:=h
  cases (show some k'=some k from e)
  exact⟨a,rfl,q⟩
 | k'::ks,_,i+1,k,h,e=>by
  obtain⟨a,r,rfl,q,t⟩:=h
  exact uh (i:=i) t e
theorem wo{w:World}{P:Program}:∀{ks:List (Int×Int)} {kas:List Addr} {xs:List V} {qs:List (List Key×Addr×Value)},ks.length=kas.length->kas.length=xs.length->wR (ks.zip (kas.zip xs)) qs->(qs.map (entryOfKey (tupleKind (kJ P w)))).map (·.key)=kas.map Value.ref
 | [],[],[],_,_,_,h=>by cases h;rfl
 | k::ks,a::kas,x::xs,_,h1,h2,h=>by
  cases h with
  | @cons _ b _ ls e t =>
  obtain⟨kb,ab,ub⟩:=b
  cases (show ab=_ from e.2.1)
  have ih:=wo (P:=P) (w:=w) (by simpa using h1) (by simpa using h2) t
  show Value.ref a::_=Value.ref a::_
  rw[ih]
theorem A_{K:W.Frag}{H:Hp}{k:Int×Int}{a:Addr}(h:mG K H a [.int k.1,.int k.2]):Rep K H (.tup [.int k.1,.int k.2]) (.ref a):=⟨a,_,rfl,h,_,_,rfl,rfl,_,_,rfl,rfl,rfl⟩
section
variable{X:Cx}{a:Expr}{f:R->OD}
theorem j5{tg:Expr}(ha:SE X a f):SI X tg a (uc f):=by
 intro pins s σ H W I ⟨ρ,ds,er,e,q⟩
 obtain⟨x,e1,e⟩:=kx e
 refine lA (ha pins s σ H (fun v H1=>ku H H1/\Rep X.K H1 x v) I ⟨ρ,x,er,e1,fun v H1 s1 r1=>⟨s1,r1⟩⟩) fun u s1 ⟨v,H1,I1,rv,s01,rx⟩=>?_
 match x,e,rx with
 | .dcp ks dd,e,rx =>
  cases e
  obtain⟨b,kas,xs,rfl,⟨⟨hm,hk,hl⟩,o,P,w,hq,_,qs,es,ep,hp,hx,hdat,hes,_⟩,r⟩:=rx
  cases rv
  have g:s1.heap.get? b=some o:=(I1.hok b _ hq).1
  have hkl:=qV hk
  have hkeys:es.toList.map (·.key)=kas.map Value.ref:=by rw[hes];exact wo hkl hl hp
  refine FF hm g hx hdat ?_
  refine⟨s1.heap.objs.size,[s1.heap.objs.size],_,G2 b o kas,H1,rfl,I1.kept (t':=s1.toks) fun c o e=>Heap.get?_push_of_some _ e,wV hdat hkeys,⟨_,Heap.get?_push_size _ rfl,rfl,rfl⟩,fun c hc=>?_,q _ H1 s01 ?_⟩
  ·have e:c=s1.heap.objs.size:=by simpa using hc
   subst e
   exact I1.fpOk (Nat.le_refl _) (I1.hok.fresh (Nat.le_refl _))
  ·refine⟨fun i d H2 k2 hi=>?_,fun i H2 k2 hi=>⟨k2 _ _ hq (fun φ z=>by cases z),by rw[List.length_map] at hi;omega⟩⟩
   rw[List.getElem?_map] at hi
   obtain⟨k,hki,rfl⟩:=lK hi
   have hik:i<ks.length:=(List.getElem?_eq_some_iff.mp hki).1
   obtain⟨ka,hka,hsq⟩:=uh hk hki
   refine⟨⟨k2 _ _ hq (fun φ z=>by cases z),by omega⟩,?_⟩
   rintro y H3 ⟨rfl,k',hkk,rfl⟩
   rw[hka] at hkk
   cases hkk
   exact⟨ku.refl _,A_ (k2.tup hsq)⟩
theorem wM{pins:List (Addr×Obj)}{σ:L2.St}{H:Hp}{s:Shared}(I:L2.Inv X pins σ H s):∀{ks:List (Int×Int)} {kas:List Addr} {xs:List V} {qs:List (List Key×Addr×Value)},pR X.K H ks kas->wR (ks.zip (kas.zip xs)) qs->∀x∈qs,(tupleKind (kJ X.prog X.w)).is s.heap x.1 x.2.1
 | [],_,_,_,_,r,x,hx=>by
  rw[List.zip_nil_left] at r
  cases r
  cases hx
 | k::ks,_,[],_,h,r,x,hx=>by
  obtain⟨a,r',rfl,q,t⟩:=h
  cases r
  cases hx
 | k::ks,_,y::ys,_,h,r,x,hx=>by
  obtain⟨a,r',rfl,q,t⟩:=h
  cases r with
  | @cons _ b _ ls e rt =>
  rcases List.mem_cons.mp hx with rfl | hx
  ·rw[e.1,e.2.1]
   exact sX I q
  ·exact wM I t rt x hx
theorem zK{K:W.Frag}{H:Hp}{j:Int×Int}:∀{ks:List (Int×Int)} {kas:List Addr} {ds:LD} {xs:List V} {qs:List (List Key×Addr×Value)} {d:D},ks.length=kas.length->wR (ks.zip (kas.zip xs)) qs->i9 K H ds xs->Dg ks ds j=some d->∃v a u,atKey qs (kk j)=some (a,u)/\RelV v u/\Rep K H d v
 | [],_,_,_,_,d,_,_,_,e=>by cases e
 | _::_,[],_,_,_,_,hl,_,_,_=>by cases hl
 | k::ks,a::kas,[],xs,qs,d,hl,h,r,e=>by cases e
 | k::ks,a::kas,d'::ds,xs,qs,d,hl,h,r,e=>by
  obtain⟨v,r',rfl,rv,rr⟩:=r
  cases h with
  | @cons _ b _ ls eb t =>
  obtain⟨kb,ab,ub⟩:=b
  cases (show kb=_ from eb.1)
  by_cases hk:k=j
  ·subst hk
   have e':some d'=some d:=by rw[<- e];exact(if_pos rfl).symm
   cases e'
   refine⟨v,ab,ub,?_,eb.2.2,rv⟩
   show((List.find? _ ((kk k,ab,ub)::ls)).map _)=_
   rw[List.find?_cons_of_pos (by simp)]
   rfl
  ·have e':Dg ks ds j=some d:=by rw[<- e];exact(if_neg hk).symm
   obtain⟨v',a',u',h1,h2,h3⟩:=zK (by simpa using hl) t rr e'
   refine⟨v',a',u',?_,h2,h3⟩
   show((List.find? _ ((kk k,ab,ub)::ls)).map _)=_
   rw[List.find?_cons_of_neg (by simpa using fun z=>hk (zE z))]
   exact h1
theorem jz{o i:Expr}{f g:R->OD}{pos:Pos}(hu:X.A.units+1<cLine)(ho:SE X o f)(hi:SE X i g)(hs:Eg i:=by exact fun _ _=>rfl):SE X (.Subscript o i pos) (i8 Cq f g):=by
 intro pins s σ H Q I ⟨ρ,d,er,e,q⟩
 obtain⟨x,e1,e⟩:=kx e
 obtain⟨y,e2,e⟩:=kx e
 refine yr PySem.F.slot_dict_getitem.lookup hs (lA (ho pins s σ H (fun v H1=>ku H H1/\Rep X.K H1 x v) I ⟨ρ,x,er,e1,fun v H1 s1 r1=>⟨s1,r1⟩⟩) fun u s1 ⟨v,H1,I1,rv,s01,rx⟩=>?_)
 match x,y,e,e2,rx with
 | .dcp ks dd,.tup [.int k1,.int k2],e,e2,rx =>
 obtain⟨b,kas,xs,rfl,hD,r⟩:=rx
 cases rv
 refine lA (hi pins s1 σ H1 (fun v H2=>ku H1 H2/\Rep X.K H2 (.tup [.int k1,.int k2]) v) I1 ⟨ρ,_,er.mono s01,e2,fun v H2 s2 r2=>⟨s2,r2⟩⟩) fun iv s2 ⟨y,H2,I2,ry,s12,rk⟩=>?_
 rcases qG (k:=.inr (k1,k2)) rk with ⟨_,ee,_⟩ | ⟨p',ka,ee,rfl,hq2⟩
 ·cases ee
 cases ee
 cases (show iv=_ from ry)
 obtain⟨⟨hm,hk,hl⟩,ob,P,w,hq,tt⟩:=hD.to (fun _ _=>AH s12) fun o u z=>s12 _ _ z
 obtain⟨_,qs,es,ep,hp,hx,hdat,hes,hnd⟩:=tt.any X.prog X.w
 have g:s2.heap.get? b=some ob:=(I2.hok b _ hq).1
 have ddH:s2.heap.DictOfH (tupleKind (kJ X.prog X.w)) b qs:=⟨ob,es,ep,g,hx,hdat,hes,wM I2 hk hp,hnd⟩
 obtain⟨v',a',u',h1,h2,h3⟩:=zK (qV hk) hp (r.mono s12) e
 exact⟨ddH.typeIs,wpAny_getItem_heap (tupleKind_room_in1 hu) (sX I2 hq2) ddH h1 ⟨v',H2,I2.tok _,h2,q v' H2 (s01.trans s12) h3⟩⟩
end
abbrev ZK(h:Heap)(z TI TO T:Addr)(f:Bool):Prop:=h.get? z=some {cls:=.type "zip",dict:=none,data:=.fields #[rawInt T,.bool f,.bool false,.ref TI,.ref TO],slots:=#[]}
section
variable{prog:Program}{w:World}{A:Around}{E:Value->Shared->Prop}{s:Shared}
variable{Good:Heap->Nat->Prop}{z TI TO i1 i2 T:Addr}{f:Bool}{st1 st1' st2 st2':Heap->Prop}{P1 P2:Value->Prop}
theorem yn{Q:Bool->Shared->Prop}(hz:ZK s.heap z TI TO T f){oT:Obj}(hT:s.heap.get? T=some oT)(h:∀h',ZK h' z TI TO T true->Heap.SameBut z s.heap h'->Q false {s with heap:=h' }):wpAny (model prog w) A (Builtin.SmallTypes.ownedTupleIsFree (.ref z)) Q E s:=by
 unfold Builtin.SmallTypes.ownedTupleIsFree
 refine wpAny_bind (wpAny_field hz rfl (x:=rawInt T) rfl ?_)
 show wpAny _ _ (loadIfAlive T >>= _) _ _ s
 refine wpAny_bind (W.kdx_alive hT ?_)
 simp only[Option.isNone_some,Bool.false_eq_true,if_false]
 refine wpAny_bind (wpAny_field hz rfl (x:=.bool f) rfl ?_)
 cases f with
 | true =>
  simp
  exact wpAny_pure (h s.heap hz (Heap.SameBut.refl ..))
 | false =>
  simp
  refine wpAny_bind (wpAny_setField_rec hz (by simp) fun h1 hz1 s1=>?_)
  exact wpAny_pure (h h1 hz1 s1)
theorem gA {Q:Value->Shared->Prop} (D:Ap z TI TO i1 i2) (hz:ZK s.heap z TI TO T f) {oT:Obj} (hT:s.heap.get? T=some oT) (hI:IsPair s.heap TI (.ref i1) (.ref i2))
    (g0:Good s.heap s.toks) (cl:Cl Good [z,i1,i2]) (n1:Nx prog w A (mX s) Good i1 st1 st1' P1) (n2:Nx prog w A (mX s) Good i2 st2 st2' P2) (q1:st1 s.heap) (q2:st2 s.heap)
    (hQ:∀h5 tk u1 u2,Good h5 tk->P1 u1->P2 u2->ZK h5 z TI TO T true->IsPair h5 TI (.ref i1) (.ref i2)->st1' h5->st2' h5->(∀c o,c≠z->c≠i1->c≠i2->s.heap.get? c=some o->h5.get? c=some o) ->
      Q (.ref h5.objs.size) (mX s (h5.push {cls:=.type "tuple",data:=.seq #[u1,u2]}) tk)) :
    wpAny (model prog w) A (Builtin.«zip.__next__» ⟨[.ref z],[]⟩) (fun fin s'=>∃v,fin=.done (.ret v)/\Q v s') E s:=by
  show wpAny _ _ (field (.ref z) 2 >>= _) _ _ _;refine wpAny_bind (wpAny_field hz rfl (x:=.bool false) rfl ?_)
  show wpAny _ _ (field (.ref z) 3 >>= _) _ _ _;refine wpAny_bind (wpAny_field hz rfl (x:=.ref TI) rfl ?_)
  refine wpAny_bind (wpAny_seqItems hI rfl ?_);show wpAny _ _ (Builtin.SmallTypes.ownedTupleIsFree (.ref z) >>= _) _ _ _
  refine wpAny_bind (yn hz hT fun h1 hz1 s1=>?_)
  have e1:∀b o,b≠z->s.heap.get? b=some o->h1.get? b=some o:=s1.extBut
  have g1:Good h1 s.toks:=cl z (by simp) _ _ _ _ g0 e1
  simp only[Bool.false_eq_true,if_false]
  refine wpAny_bind ?_
  rw[<- Array.forIn_toList]
  simp only[List.forIn_cons,List.forIn_nil]
  refine wpAny_bind (wpAny_bind (wpAny_holding ?_));show wpAny _ _ (Builtin.SmallTypes.nextOf (.ref i1) >>= _) _ _ _
  refine wpAny_bind (n1.run h1 s.toks _ _ g1 (n1.stay _ _ q1 fun o=>e1 _ o D.a3) fun u1 h2 tk2 p1 t1 s2=>wpAny_pure ?_)
  have e2:∀b o,b≠i1->h1.get? b=some o->h2.get? b=some o:=s2.extBut
  have g2:Good h2 tk2:=cl i1 (by simp) _ _ _ _ g1 e2
  refine wpAny_pure ?_
  refine wpAny_bind (wpAny_bind (wpAny_holding ?_));show wpAny _ _ (Builtin.SmallTypes.nextOf (.ref i2) >>= _) _ _ (mX s h2 tk2)
  refine wpAny_bind (n2.run h2 tk2 _ _ g2 (n2.stay _ _ q2 fun o q=>e2 _ o D.b1.symm (e1 _ o D.a4 q)) fun u2 h4 tk4 p2 t2 s4=>wpAny_pure ?_)
  have e4:∀b o,b≠i2->h2.get? b=some o->h4.get? b=some o:=s4.extBut
  have g4:Good h4 tk4:=cl i2 (by simp) _ _ _ _ g2 e4
  refine wpAny_pure (wpAny_pure ?_)
  show wpAny _ _ (newTuple [u1,u2] >>= _) _ _ _
  refine wpAny_bind (wpAny_newTuple (s:=mX s h4 tk4) ?_)
  refine wpAny_pure ⟨_,rfl,hQ h4 tk4 u1 u2 g4 p1 p2 (e4 _ _ D.a4.symm (e2 _ _ D.a3.symm hz1)) (e4 _ _ D.a7 (e2 _ _ D.a6 (e1 _ _ D.a1 hI))) (n1.stay' _ _ t1 fun o q=>e4 _ o D.b1 q) t2 fun c o n1 n2 n3 q=>e4 _ _ n3 (e2 _ _ n2 (e1 _ _ n1 q))⟩
theorem gw{Q:Fin->Shared->Prop}(D:Ap z TI TO i1 i2)(hz:ZK s.heap z TI TO T f){oT:Obj}(hT:s.heap.get? T=some oT)(hI:IsPair s.heap TI (.ref i1) (.ref i2))
  (g0:Good s.heap s.toks) (cl:Cl Good [z,i1,i2]) (q1:st1 s.heap) (n:Ne prog w A (mX s) Good i1 st1)
  (hE:∀h' tk e,Good h' tk->(∀c o,c≠z->c≠i1->s.heap.get? c=some o->h'.get? c=some o)->(∃o,h'.get? e=some o/\o.cls=.type "StopIteration")->E (.ref e) (mX s h' tk)) :
  wpAny (model prog w) A (Builtin.«zip.__next__» ⟨[.ref z],[]⟩) Q E s:=by
 show wpAny _ _ (field (.ref z) 2 >>= _) _ _ _;refine wpAny_bind (wpAny_field hz rfl (x:=.bool false) rfl ?_)
 show wpAny _ _ (field (.ref z) 3 >>= _) _ _ _;refine wpAny_bind (wpAny_field hz rfl (x:=.ref TI) rfl ?_)
 refine wpAny_bind (wpAny_seqItems hI rfl ?_);show wpAny _ _ (Builtin.SmallTypes.ownedTupleIsFree (.ref z) >>= _) _ _ _
 refine wpAny_bind (yn hz hT fun h1 hz1 s1=>?_)
 have e1:∀b o,b≠z->s.heap.get? b=some o->h1.get? b=some o:=s1.extBut
 have g1:Good h1 s.toks:=cl z (by simp) _ _ _ _ g0 e1
 simp only[Bool.false_eq_true,if_false]
 refine wpAny_bind ?_
 rw[<- Array.forIn_toList]
 simp only[List.forIn_cons,List.forIn_nil]
 refine wpAny_bind (wpAny_bind (wpAny_holding ?_));show wpAny _ _ (Builtin.SmallTypes.nextOf (.ref i1) >>= _) _ _ _
 refine wpAny_bind (n.run h1 s.toks _ _ g1 (n.stay _ _ q1 fun o=>e1 _ o D.a3) fun h2 e s2 he=>?_)
 exact hE h2 s.toks e (cl i1 (by simp) _ _ _ s.toks g1 s2) (fun c o n1 n2 q=>s2 _ _ n2 (e1 _ _ n1 q)) he
theorem gx {Q:Value->Shared->Prop} (D:Ap z TI TO i1 i2) (hz:ZK s.heap z TI TO T f) {oT:Obj} (hT:s.heap.get? T=some oT) (hI:IsPair s.heap TI (.ref i1) (.ref i2))
    (g0:Good s.heap s.toks) (cl:Cl Good [z,i1,i2]) (n1:Nx prog w A.in1 (mX s) Good i1 st1 st1' P1) (n2:Nx prog w A.in1 (mX s) Good i2 st2 st2' P2) (q1:st1 s.heap) (q2:st2 s.heap)
    (hQ:∀h5 tk u1 u2,Good h5 tk->P1 u1->P2 u2->ZK h5 z TI TO T true->IsPair h5 TI (.ref i1) (.ref i2)->st1' h5->st2' h5->(∀c o,c≠z->c≠i1->c≠i2->s.heap.get? c=some o->h5.get? c=some o) ->
      Q (.ref h5.objs.size) (mX s (h5.push {cls:=.type "tuple",data:=.seq #[u1,u2]}) tk)) :
    wpAny (model prog w) A (pyNext (.ref z)) (fun r s'=>∃v,r=some v/\Q v s') E s:=by
  have hT':s.TypeIs (.ref z) "zip":=⟨_,hz,rfl⟩
  unfold pyNext
  exact wpAny_bind (wpAny_attempt (wpAny_callSpecial?_slot (name:=oS "__next__") hT' F.slot_zip_next (wpAny_call_entry F.slot_zip_next hT' F.entry_zip_next
      (gA (Q:=fun v s'=>_) D hz hT hI g0 cl n1 n2 q1 q2 fun h5 tk u1 u2 c1 c2 c3 c4 c5 c6 c7 c8=>wpAny_pure ⟨_,rfl,hQ h5 tk u1 u2 c1 c2 c3 c4 c5 c6 c7 c8⟩) (F.args_zip_next_1 _))))
theorem hV{Q:Option Value->Shared->Prop}(D:Ap z TI TO i1 i2)(hz:ZK s.heap z TI TO T f){oT:Obj}(hT:s.heap.get? T=some oT)(hI:IsPair s.heap TI (.ref i1) (.ref i2))
  (g0:Good s.heap s.toks) (cl:Cl Good [z,i1,i2]) (q1:st1 s.heap) (n:Ne prog w A.in1 (mX s) Good i1 st1)
  (hQ:∀h' tk,Good h' tk->(∀c o,c≠z->c≠i1->s.heap.get? c=some o->h'.get? c=some o)->Q none (mX s h' tk)):wpAny (model prog w) A (pyNext (.ref z)) Q E s:=by
 have hT':s.TypeIs (.ref z) "zip":=⟨_,hz,rfl⟩
 unfold pyNext
 refine wpAny_bind (wpAny_attempt (wpAny_callSpecial?_slot (name:=oS "__next__") hT' F.slot_zip_next (wpAny_call_entry F.slot_zip_next hT' F.entry_zip_next
  (gw D hz hT hI g0 cl q1 n fun h' tk e gg kk he=>?_) (F.args_zip_next_1 _))))
 obtain⟨o,ho,hc⟩:=he
 exact wpAny_bind (wpAny_isInstance (s:=mX s h' tk) (T:="StopIteration") (b:=true) ⟨o,ho,hc⟩ isSubtype_stop (wpAny_pure (hQ _ _ gg kk)))
end
end HW
namespace HW
open PySem PySem.Calls PySem.Spec PyProof.Rows L2
theorem fG:typeLookup (.type "zip") "__len__" = pure none:=by rw[typeLookup_type,builtinLookup_eq_fast];kernel_rfl
theorem e_:typeLookup (.type "zip") "__length_hint__" = pure none:=by rw[typeLookup_type,builtinLookup_eq_fast];kernel_rfl
abbrev qi(its:List Value)(k:Nat):Obj:={cls:=.type "list",data:=.seq its.toArray k}
section
variable{X:Cx}{pins:List (Addr×Obj)}{σ:L2.St}{H1:Hp}{xs ys:LD}{S T:Src}{z TI TO i1 i2 L:Addr}
def FR(z TI TO i1 i2 L:Addr)(i:Nat)(h:Heap):Prop:=(i=0/\IsZip h z TI TO .none)\/(0<i/\∃T f o,ZK h z TI TO T f/\h.get? T=some o/\T≠z/\T≠i1/\T≠i2/\T≠L)
structure Gj (X:Cx) (pins:List (Addr×Obj)) (σ:L2.St) (H1:Hp) (xs ys:LD) (S T:Src) (z TI TO i1 i2 L:Addr) (i:Nat) (H:Hp) (vs:List V) (its:List Value) (k:Nat) (s:Shared):Prop where
 I:L2.Inv X pins σ H s
 same:ku H1 H
 zs:FR z TI TO i1 i2 L i s.heap
 hI:IsPair s.heap TI (.ref i1) (.ref i2)
 hO:∃a b,IsPair s.heap TO a b
 a1:S.at i1 i s.heap
 a2:T.at i2 i s.heap
 fr:∀c ∈ [z,TI,TO,i1,i2,L],H c=none
 lst:s.heap.get? L=some (qi its k)
 vals:kM vs its
 reps:i9 X.K H ((qt xs ys).take i) vs
theorem rW{prog:Program}{w:World}{A:Around}{mk:Heap->Nat->Shared}{Good Good':Heap->Nat->Prop}{it:Addr}{st st':Heap->Prop}{P:Value->Prop}(n:Nx prog w A mk Good it st st' P)(h:∀h tk,Good' h tk->Good h tk):Nx prog w A mk Good' it st st' P:=⟨n.stay,n.stay',fun h' tk Q E g=>n.run h' tk Q E (h _ _ g)⟩
variable(D:Ap z TI TO i1 i2)(hL:L≠z/\L≠TI/\L≠TO/\L≠i1/\L≠i2)(hfp:∀c ∈ [z,TI,TO,i1,i2,L],oQ X pins H1 c)(dS:z_ X.K H1 xs S)(dT:z_ X.K H1 ys T)(hlen:xs.length=ys.length)
include D hL hfp dS dT hlen
theorem BE{A:Around}{E:Value->Shared->Prop}{i:Nat}{H:Hp}{vs:List V}{its:List Value}{k:Nat}{s:Shared}(q:Gj X pins σ H1 xs ys S T z TI TO i1 i2 L i H vs its k s)(hi:i<xs.length) :
  wpAny (model X.prog X.w) A (pyNext (.ref z)) (fun r s'=>∃v u H',r=some u/\RelV v u/\L2.Inv X pins σ H' s'/\ku H H'/\FR z TI TO i1 i2 L (i+1) s'.heap/\IsPair s'.heap TI (.ref i1) (.ref i2)/\(∃a b,IsPair s'.heap TO a b)/\S.at i1 (i+1) s'.heap/\T.at i2 (i+1) s'.heap/\(∀c ∈ [z,TI,TO,i1,i2,L],H' c=none)/\s'.heap.get? L=some (qi its k)/\i9 X.K H' ((qt xs ys).take (i+1)) (vs++[v])) E s:=by
 obtain⟨I,same,zs,hI,⟨oa,ob,hO⟩,a1,a2,fr,lst,vals,reps⟩:=q
 obtain⟨l1,l2,l3,l4,l5⟩:=hL
 obtain⟨v,g1,r1⟩:=yz dS (Kp.of same) (List.getElem?_eq_getElem hi)
 obtain⟨u,g2,r2⟩:=yz dT (Kp.of same) (List.getElem?_eq_getElem (show i<ys.length by omega))
 have cl0:∀c ∈ [z,TI,TO,i1,i2],∀h tk h' tk',(L2.Inv X pins σ H (mX s h tk)/\h.get? L=some (qi its k))->(∀b o,b≠c->h.get? b=some o->h'.get? b=some o)->(L2.Inv X pins σ H (mX s h' tk')/\h'.get? L=some (qi its k)):=fun c hc h tk h' tk' ⟨J,jl⟩ kp=>by
  have hc':c ∈ [z,TI,TO,i1,i2,L]:=by simp only[List.mem_cons,List.not_mem_nil,or_false] at hc ⊢;rcases hc with rfl | rfl | rfl | rfl | rfl<;>simp
  obtain⟨f0,f1,f2,f3,f4,f5⟩:=hfp c hc'
  refine⟨J.turned (t':=tk') kp (fr c hc') f1 f3 f4 f5,kp _ _ ?_ jl⟩
  simp only[List.mem_cons,List.not_mem_nil,or_false] at hc
  rcases hc with rfl | rfl | rfl | rfl | rfl<;>assumption
 have row:(qt xs ys).take (i+1)=(qt xs ys).take i++[.tup [xs[i],ys[i]]]:=by
  rw[List.take_add_one]
  congr 1
  unfold qt
  rw[List.getElem?_zipWith,List.getElem?_eq_getElem hi,List.getElem?_eq_getElem (show i<ys.length by omega)];rfl
 have fin:∀(h5:Heap) (h9:Heap) (tk:Nat) (u1 u2:Value),(L2.Inv X pins σ H (mX s h5 tk)/\h5.get? L=some (qi its k))->RelV v u1->RelV u u2->(∀c o,c≠z->(h5.push {cls:=.type "tuple",data:=.seq #[u1,u2]}).get? c=some o->h9.get? c=some o)->(∃oz,h5.get? z=some oz)->IsPair h5 TI (.ref i1) (.ref i2)->(∃a b,IsPair h5 TO a b)->S.at i1 (i+1) h5->T.at i2 (i+1) h5 ->
   L2.Inv X pins σ (upd H h5.objs.size (.tup [v,u])) (mX s h9 tk)/\ku H (upd H h5.objs.size (.tup [v,u]))/\IsPair h9 TI (.ref i1) (.ref i2)/\(∃a b,IsPair h9 TO a b)/\S.at i1 (i+1) h9/\T.at i2 (i+1) h9/\(∀c ∈ [z,TI,TO,i1,i2,L],(upd H h5.objs.size (.tup [v,u])) c=none)/\h9.get? L=some (qi its k)/\i9 X.K (upd H h5.objs.size (.tup [v,u])) ((qt xs ys).take (i+1)) (vs++[.ref h5.objs.size])/\h5.objs.size≠z/\h5.objs.size≠i1/\h5.objs.size≠i2/\h5.objs.size≠L/\∃o,h9.get? h5.objs.size=some o:=fun h5 h9 tk u1 u2 ⟨G5,L5⟩ p1 p2 k9 ⟨oz,z5⟩ I5 ⟨b1,b2,O5⟩ t1 t2=>by
  have hn:H h5.objs.size=none:=G5.hok.fresh (Nat.le_refl _)
  have lt:∀{c o},h5.get? c=some o->c≠h5.objs.size:=fun e=>Nat.ne_of_lt (Heap.lt_size e)
  have J6:L2.Inv X pins σ (upd H h5.objs.size (.tup [v,u])) {mX s h5 tk with heap:=h5.push {cls:=.type "tuple",data:=.seq #[u1,u2]},toks:=tk}:=
   G5.laid (t':=tk) (fun b u e=>Heap.get?_push_of_some _ e) (Nat.le_refl _) ⟨show 2<=sizeLine by decide,[u1,u2],.cons p1 (.cons p2 .nil),⟨_,Heap.get?_push_size _ rfl,rfl,⟨_,rfl⟩,rfl⟩⟩
  obtain⟨f0,f1,f2,f3,f4,f5⟩:=hfp z (by simp)
  have J9:L2.Inv X pins σ (upd H h5.objs.size (.tup [v,u])) (mX s h9 tk):=J6.turned (t':=tk) k9 (by rw[aj (lt z5)];exact fr z (by simp)) f1 f3 f4 f5
  have up:∀c o,c≠z->h5.get? c=some o->h9.get? c=some o:=fun c o n e=>k9 c o n (Heap.get?_push_of_some _ e)
  have sm:=aQ hn (.tup [v,u])
  obtain⟨o1,e1,_⟩:=Src.obj_at t1
  obtain⟨o2,e2,_⟩:=Src.obj_at t2
  refine⟨J9,sm,up _ _ D.a1 I5,⟨b1,b2,up _ _ D.a2 O5⟩,Src.keep t1 fun o=>up _ o D.a3,Src.keep t2 fun o=>up _ o D.a4,fun c hc=>?_,up _ _ l1 L5,?_,Ne.symm (lt z5),Ne.symm (lt e1),Ne.symm (lt e2),Ne.symm (lt L5),⟨_,k9 _ _ (Ne.symm (lt z5)) (Heap.get?_push_size _ rfl)⟩⟩
  ·have lv:∃o,h5.get? c=some o:=by
    simp only[List.mem_cons,List.not_mem_nil,or_false] at hc
    rcases hc with rfl | rfl | rfl | rfl | rfl | rfl
    ·exact⟨_,z5⟩
    ·exact⟨_,I5⟩
    ·exact⟨_,O5⟩
    ·exact⟨_,e1⟩
    ·exact⟨_,e2⟩
    ·exact⟨_,L5⟩
   obtain⟨o,e⟩:=lv
   rw[aj (lt e)]
   exact fr c hc
  ·rw[row]
   exact(reps.mono sm).append (i9.one ⟨_,_,rfl,mG.of ai,v,[u],rfl,r1.mono sm,u,[],rfl,r2.mono sm,rfl⟩)
 rcases zs with ⟨rfl,hz⟩ | ⟨hi0,T0,f0,o0,hz,hT0,n1,n2,n3,n4⟩
 ·refine lA (fH (Good:=fun h tk=>L2.Inv X pins σ H (mX s h tk)/\h.get? L=some (qi its k)) (Q:=fun w s'=>∃v H',RelV v w/\L2.Inv X pins σ H' s'/\ku H H'/\FR z TI TO i1 i2 L (0+1) s'.heap/\IsPair s'.heap TI (.ref i1) (.ref i2)/\(∃a b,IsPair s'.heap TO a b)/\S.at i1 (0+1) s'.heap/\T.at i2 (0+1) s'.heap/\(∀c ∈ [z,TI,TO,i1,i2,L],H' c=none)/\s'.heap.get? L=some (qi its k)/\i9 X.K H' ((qt xs ys).take (0+1)) (vs++[v])) D hz hI hO ⟨I,lst⟩
   (fun c hc h tk h' tk' g kp=>cl0 c (by simp only[List.mem_cons,List.not_mem_nil,or_false] at hc ⊢;rcases hc with rfl | rfl | rfl | rfl<;>simp) h tk h' tk' g kp) (rW (eE g1) fun _ _ g=>g.1) (rW (eE g2) fun _ _ g=>g.1) a1 a2 fun h5 tk u1 u2 h8 G5 p1 p2 z5 I5 O5 t1 t2 z8 k8=>?_) fun r s' ⟨w,e,v',H',c1,c2,c3,c4,c5,c6,c7,c8,c9,c10,c11⟩=>⟨v',w,H',e,c1,c2,c3,c4,c5,c6,c7,c8,c9,c10,c11⟩
  obtain⟨d1,d2,d3,d4,d5,d6,d7,d8,d9,m1,m2,m3,m4,o9,e9⟩:=fin h5 h8 tk u1 u2 G5 p1 p2 k8 ⟨_,z5⟩ I5 ⟨_,_,O5⟩ t1 t2
  exact⟨.ref h5.objs.size,_,rfl,d1,d2,.inr ⟨by omega,h5.objs.size,false,o9,z8,e9,m1,m2,m3,m4⟩,d3,d4,d5,d6,d7,d8,d9⟩
 ·refine lA (gx (Good:=fun h tk=>L2.Inv X pins σ H (mX s h tk)/\h.get? L=some (qi its k)) (Q:=fun w s'=>∃v H',RelV v w/\L2.Inv X pins σ H' s'/\ku H H'/\FR z TI TO i1 i2 L (i+1) s'.heap/\IsPair s'.heap TI (.ref i1) (.ref i2)/\(∃a b,IsPair s'.heap TO a b)/\S.at i1 (i+1) s'.heap/\T.at i2 (i+1) s'.heap/\(∀c ∈ [z,TI,TO,i1,i2,L],H' c=none)/\s'.heap.get? L=some (qi its k)/\i9 X.K H' ((qt xs ys).take (i+1)) (vs++[v])) D hz hT0 hI ⟨I,lst⟩
   (fun c hc h tk h' tk' g kp=>cl0 c (by simp only[List.mem_cons,List.not_mem_nil,or_false] at hc ⊢;rcases hc with rfl | rfl | rfl<;>simp) h tk h' tk' g kp) (rW (eE g1) fun _ _ g=>g.1) (rW (eE g2) fun _ _ g=>g.1) a1 a2 fun h5 tk u1 u2 G5 p1 p2 z5 I5 t1 t2 k5=>?_) fun r s' ⟨w,e,v',H',c1,c2,c3,c4,c5,c6,c7,c8,c9,c10,c11⟩=>⟨v',w,H',e,c1,c2,c3,c4,c5,c6,c7,c8,c9,c10,c11⟩
  obtain⟨d1,d2,d3,d4,d5,d6,d7,d8,d9,m1,m2,m3,m4,o9,e9⟩:=fin h5 (h5.push {cls:=.type "tuple",data:=.seq #[u1,u2]}) tk u1 u2 G5 p1 p2 (fun c o n e=>e) ⟨_,z5⟩ I5 ⟨_,_,k5 _ _ D.a2 D.a8 D.a9 hO⟩ t1 t2
  exact⟨.ref h5.objs.size,_,rfl,d1,d2,.inr ⟨by omega,T0,true,o0,Heap.get?_push_of_some _ z5,Heap.get?_push_of_some _ (k5 _ _ n1 n2 n3 hT0),n1,n2,n3,n4⟩,d3,d4,d5,d6,d7,d8,d9⟩
theorem DV{A:Around}{E:Value->Shared->Prop}(hh:A.handled=none){i:Nat}{H:Hp}{vs:List V}{its:List Value}{k:Nat}{s:Shared}{Q:Option Value->Shared->Prop}(q:Gj X pins σ H1 xs ys S T z TI TO i1 i2 L i H vs its k s)(hi:i=xs.length)(h0:0<i)
  (hQ:∀s',L2.Inv X pins σ H s'->s'.heap.get? L=some (qi its k)->Q none s'):wpAny (model X.prog X.w) A (pyNext (.ref z)) Q E s:=by
 obtain⟨I,same,zs,hI,⟨oa,ob,hO⟩,a1,a2,fr,lst,vals,reps⟩:=q
 obtain⟨l1,l2,l3,l4,l5⟩:=hL
 rcases zs with ⟨rfl,_⟩ | ⟨_,T0,f0,o0,hz,hT0,n1,n2,n3,n4⟩
 ·omega
 refine hV (Good:=fun h tk=>L2.Inv X pins σ H (mX s h tk)) (st1:=fun h=>S.at i1 i h) D hz hT0 hI I (fun c hc h tk h' tk' J kp=>?_) a1 (jT hh (yY dS (Kp.of same) (Nat.le_of_eq hi.symm))) fun h' tk G kk=>hQ _ G (kk _ _ l1 l4 lst)
 have hc':c ∈ [z,TI,TO,i1,i2,L]:=by simp only[List.mem_cons,List.not_mem_nil,or_false] at hc ⊢;rcases hc with rfl | rfl | rfl<;>simp
 obtain⟨f0,f1,f2,f3,f4,f5⟩:=hfp c hc'
 exact J.turned (t':=tk') kp (fr c hc') f1 f3 f4 f5
theorem BB{A:Around}{R':Result->Shared->Prop}{res:Value}(hh:A.in1.handled=none)(hz1:xs.length<=1000)(hn:0<xs.length)(hR:∀H vs its k s',L2.Inv X pins σ H s'->ku H1 H->H L=none->s'.heap.get? L=some (qi its k)->kM vs its->i9 X.K H (qt xs ys) vs->R' (.ok (.ret res)) s'):∀(m i:Nat) (H:Hp) (vs:List V) (its:List Value) (k:Nat) (s:Shared),xs.length - i=m->i<=xs.length->Gj X pins σ H1 xs ys S T z TI TO i1 i2 L i H vs its k s ->
  codeAny (model X.prog X.w) A (.builtin "list.extend.loop" ⟨[.ref L,.ref z,res],[]⟩) R' s:=by
 intro m
 induction m with
 | zero =>
  intro i H vs its k s hk hi q
  refine codeAny_builtin F.entry_extend_loop ?_;rw[Around.under_plainId F.plain_extend_loop _];show wpAny _ A.in1 (pyNext (.ref z) >>= _) _ _ s
  refine wpAny_bind (DV D hL hfp dS dT hlen hh q (by omega) (by omega) fun s' I' l'=>wpAny_pure (hR H vs its k s' I' q.same (q.fr L (by simp)) l' q.vals ?_))
  have:=q.reps
  rw[List.take_of_length_le (by rw[rE];omega)] at this
  exact this
 | succ m ih =>
  intro i H vs its k s hk hi q
  refine codeAny_builtin F.entry_extend_loop ?_;rw[Around.under_plainId F.plain_extend_loop _];show wpAny _ A.in1 (pyNext (.ref z) >>= _) _ _ s
  refine wpAny_bind (wpAny_mono (BE D hL hfp dS dT hlen q (by omega)) ?_ fun _ _ e=>e)
  rintro _ s' ⟨v,u,H',rfl,ru,I',sm,zs',hI',hO',a1',a2',fr',lst',reps'⟩
  have hvl:=q.vals.length
  have hvn:vs.length<=i:=by rw[<- q.reps.length,List.length_take];omega
  have z9:1000<=sizeLine:=by decide
  show wpAny _ A.in1 (updateSeq L (·.push u) >>= _) _ _ _
  refine wpAny_bind ?_
  refine wpAny_updateSeq lst' rfl (wpAny_pure ⟨plainId_quiet F.plain_extend_loop _,ih (i+1) H' (vs++[v]) (its++[u]) (if (its.toArray.push u).size==its.toArray.size then k else k+1) _ (by omega) (by omega) ?_⟩) (by rw[List.size_toArray];omega) (by show(its.toArray.push u).size<=sizeLine+1;rw[Array.size_push,List.size_toArray];omega)
  have oth:∀b o,b≠L->s'.heap.get? b=some o->(s'.heap.update L (Obj.mapSeq (·.push u))).get? b=some o:=fun b o hb e=>(Heap.get?_update_other _ _ (Ne.symm hb)).trans e
  obtain⟨l1,l2,l3,l4,l5⟩:=hL
  obtain⟨f0,f1,f2,f3,f4,f5⟩:=hfp L (by simp)
  refine⟨I'.turned (it:=L) (t':=s'.toks) oth (fr' L (by simp)) f1 f3 f4 f5,q.same.trans sm,?_,oth _ _ (Ne.symm l2) hI',let ⟨a,b,e⟩:=hO';⟨a,b,oth _ _ (Ne.symm l3) e⟩,Src.keep a1' fun o e=>oth _ o (Ne.symm l4) e,Src.keep a2' fun o e=>oth _ o (Ne.symm l5) e,fr',?_,q.vals.append (.cons ru .nil),reps'⟩
  ·rcases zs' with ⟨e,_⟩ | ⟨e,T0,ff,o0,hz,hT0,n1,n2,n3,n4⟩
   ·omega
   ·exact .inr ⟨e,T0,ff,o0,oth _ _ (Ne.symm l1) hz,oth _ _ n4 hT0,n1,n2,n3,n4⟩
  ·have zz:=Heap.get?_update_self (Obj.mapSeq (·.push u)) lst' rfl
   have e9:its.toArray.push u=(its++[u]).toArray:=by simp
   show _=some (qi (its++[u]) _)
   unfold qi
   rw[<- e9]
   exact zz
omit hL hfp
theorem BU{A:Around}{E:Value->Shared->Prop}{s:Shared}{Q:Value->Shared->Prop}(hh:A.handled=none)(hz1:xs.length<=1000)(hn:0<xs.length)(I:L2.Inv X pins σ H1 s)(hfz:∀c ∈ [z,TI,TO,i1,i2],oQ X pins H1 c)(hz:IsZip s.heap z TI TO .none)(hI:IsPair s.heap TI (.ref i1) (.ref i2))(hO:∃a b,IsPair s.heap TO a b)(a1:S.at i1 0 s.heap)(a2:T.at i2 0 s.heap)
  (hQ:∀H' s' l vs,L2.Inv X pins σ H' s'->ku H1 H'->H' l=some (.lst vs)->i9 X.K H' (qt xs ys) vs->Q (.ref l) s'):wpAny (model X.prog X.w) A (call (.type "list") [.ref z]) Q E s:=by
 refine callType_codes (Q₁:=fun obj s₁=>obj=.ref s.heap.objs.size/\s₁={s with heap:=s.heap.push {cls:=.type "list",data:=.seq #[]} }) PySem.F.called_list (PySem.F.typeCall_list_1 _) PySem.F.entry_list_init (code_list_new _ ⟨rfl,rfl⟩) fun obj s₁ h₁=>?_
 obtain⟨rfl,rfl⟩:=h₁
 have hS:(s.heap.push {cls:=.type "list",data:=.seq #[]}).get? s.heap.objs.size=some {cls:=.type "list",data:=.seq #[]}:=Heap.get?_push_size _ rfl
 have lv:∀{c o},s.heap.get? c=some o->c≠s.heap.objs.size:=fun e=>Nat.ne_of_lt (Heap.lt_size e)
 obtain⟨oa,ob,hO'⟩:=hO
 obtain⟨p1,e1,_⟩:=Src.obj_at a1
 obtain⟨p2,e2,_⟩:=Src.obj_at a2
 have hL:s.heap.objs.size≠z/\s.heap.objs.size≠TI/\s.heap.objs.size≠TO/\s.heap.objs.size≠i1/\s.heap.objs.size≠i2:=⟨Ne.symm (lv hz),Ne.symm (lv hI),Ne.symm (lv hO'),Ne.symm (lv e1),Ne.symm (lv e2)⟩
 have fL:oQ X pins H1 s.heap.objs.size:=I.fpOk (Nat.le_refl _) (I.hok.fresh (Nat.le_refl _))
 have I0:L2.Inv X pins σ H1 {s with heap:=s.heap.push {cls:=.type "list",data:=.seq #[]} }:=I.kept (t':=s.toks) fun b o e=>Heap.get?_push_of_some _ e
 have keep0:∀b o,s.heap.get? b=some o->(s.heap.push {cls:=.type "list",data:=.seq #[]}).get? b=some o:=fun b o e=>Heap.get?_push_of_some _ e
 generalize hLs:s.heap.objs.size=L at *
 generalize s.heap.push {cls:=.type "list",data:=.seq #[]}=h0 at *
 have hfp:∀c ∈ [z,TI,TO,i1,i2,L],oQ X pins H1 c:=fun c hc=>by
  simp only[List.mem_cons,List.not_mem_nil,or_false] at hc
  rcases hc with rfl | rfl | rfl | rfl | rfl | rfl
  ·exact hfz _ (by simp)
  ·exact hfz _ (by simp)
  ·exact hfz _ (by simp)
  ·exact hfz _ (by simp)
  ·exact hfz _ (by simp)
  ·exact fL
 obtain⟨l1,l2,l3,l4,l5⟩:=id hL
 obtain⟨f0,f1,f2,f3,f4,f5⟩:=id fL
 refine⟨⟨_,hS,rfl⟩,PySem.F.args_list_init_2 _ _,?_⟩
 show wpAny _ _ (do let old <- Builtin.List.listItems (.ref L);Builtin.List.listUpdate (.ref L) (fun _=>#[]);letGo old.toList.reverse;Builtin.List.listExtendWith (.ref L) (.ref z) .none) _ _ _
 refine wpAny_bind ?_;unfold Builtin.List.listItems;refine wpAny_bind (wpAny_seqItems (s:={s with heap:=h0}) hS rfl (wpAny_pure ?_))
 show wpAny _ _ (updateSeq L (fun _=>#[]) >>= fun _=>letGo (#[]:Array Value).toList.reverse >>= fun _=>Builtin.List.listExtendWith (.ref L) (.ref z) .none) _ _ _
 refine wpAny_bind (wpAny_updateSeq (s:={s with heap:=h0}) hS rfl ?_)
 have hS₂:=Heap.get?_update_self (Obj.mapSeq (fun _=>(#[]:Array Value))) hS rfl
 have ot:∀(h:Heap) (f:Array Value->Array Value) b o,b≠L->h.get? b=some o->(h.update L (Obj.mapSeq f)).get? b=some o:=fun h f b o hb e=>(Heap.get?_update_other _ _ (Ne.symm hb)).trans e
 refine wpAny_bind (wpAny_letGo ?_)
 generalize hh2:h0.update L (Obj.mapSeq (fun _=>(#[]:Array Value)))=h2 at *
 have k2:∀b o,b≠L->h0.get? b=some o->h2.get? b=some o:=fun b o hb e=>by rw[<- hh2];exact ot _ _ b o hb e
 have I2:=I0.turned (it:=L) (h':=h2) (t':=s.toks) k2 f0 f1 f3 f4 f5
 have hzT:Shared.TypeIs {s with heap:=h2} (.ref z) "zip":=⟨_,k2 _ _ (Ne.symm l1) (keep0 _ _ hz),rfl⟩
 unfold Builtin.List.listExtendWith
 refine wpAny_bind (wpAny_typeOf (s:={s with heap:=h2}) (T:="zip") hzT ?_)
 have h1:Builtin.List.listSameRef (.ref L) (.ref z)=false:=by simp[Builtin.List.listSameRef,l1]
 simp only[h1,show(Value.type "zip" == Value.type "list")=false by decide,show(Value.type "zip" == Value.type "tuple")=false by decide,Bool.or_false,Bool.false_eq_true,if_false]
 refine wpAny_bind (wpAny_pyIter_zip (s:={s with heap:=h2}) (k2 _ _ (Ne.symm l1) (keep0 _ _ hz)) ?_)
 refine wpAny_bind (wpAny_holding ?_);unfold Builtin.List.listLengthHint
 refine wpAny_bind (wpAny_specialOf (s:={s with heap:=h2}) hzT fG ?_);show wpAny _ _ (specialOf (Value.ref z) (oS "__length_hint__") >>= _) _ _ _
 refine wpAny_bind (wpAny_specialOf (s:={s with heap:=h2}) hzT e_ ?_);refine wpAny_pure ?_
 show wpAny _ _ (rule "list.extend.makes-room" >>= fun _=>Builtin.List.listTouch (.ref L) >>= fun _=>again (.builtin "list.extend.loop" ⟨[.ref L,.ref z,.none],[]⟩)) _ _ _
 refine wpAny_bind (wpAny_rule ?_);refine wpAny_bind ?_
 show wpAny _ _ (updateSeq L (·.push .none) >>= fun _=>updateSeq L (·.pop)) _ _ _
 refine wpAny_bind (wpAny_updateSeq (s:={s with heap:=h2}) hS₂ rfl ?_)
 have hS₃:=Heap.get?_update_self (Obj.mapSeq (·.push Value.none)) hS₂ rfl
 refine wpAny_updateSeq (hz:=by seq_fits) (s:={s with heap:=h2.update L (Obj.mapSeq (·.push Value.none))}) hS₃ rfl ?_
 have hS₄:=Heap.get?_update_self (Obj.mapSeq (·.pop)) hS₃ rfl
 generalize hh4:(h2.update L (Obj.mapSeq (·.push Value.none))).update L (Obj.mapSeq (·.pop))=h4 at *
 have k4:∀b o,b≠L->h2.get? b=some o->h4.get? b=some o:=fun b o hb e=>by rw[<- hh4];exact ot _ _ b o hb (ot _ _ b o hb e)
 have I4:=I2.turned (it:=L) (h':=h4) (t':=s.toks) k4 f0 f1 f3 f4 f5
 have up:∀b o,b≠L->s.heap.get? b=some o->h4.get? b=some o:=fun b o hb e=>k4 _ _ hb (k2 _ _ hb (keep0 _ _ e))
 refine wpAny_pure ⟨plainId_quiet F.plain_extend_loop _,BB D hL hfp dS dT hlen (A:=A.in1) hh hz1 hn (fun H vs its k s' I' sm hl l' va rp=>?_) xs.length 0 H1 [] [] _ {s with heap:=h4} (by omega) (Nat.zero_le _) ⟨I4,ku.refl _,.inl ⟨rfl,up _ _ (Ne.symm l1) hz⟩,up _ _ (Ne.symm l2) hI,⟨oa,ob,up _ _ (Ne.symm l3) hO'⟩,Src.keep a1 fun o e=>up _ o (Ne.symm l4) e,Src.keep a2 fun o e=>up _ o (Ne.symm l5) e,fun c hc=>(hfp c hc).1,hS₄,.nil,rfl⟩⟩
 have s2:=aQ hl (.lst vs)
 have fA:oQ X pins H L:=⟨hl,f1,f2,f3,f4,f5⟩
 have z9:1000<=sizeLine:=by decide
 have hvl:vs.length<=1000:=by rw[<- rp.length,rE];omega
 exact⟨rfl,hQ _ s' L vs (CL (o:=.lst vs) I' fA ⟨by omega,its,k,va,l'⟩) (sm.trans s2) ai (rp.mono s2)⟩
end
section
variable{X:Cx}
theorem iY{a b:Expr}{f g:R->OD}{p p' pos pos':Pos}(hcm:X.calm=true)(hm:X.mg "list" = none)(hm':X.mg "zip" = none)(ha:SE X a f)(hb:SE X b g)(hg:Gl X "list":=by rfl)(hg':Gl X "zip":=by rfl)(hs:noStar a=true:=by rfl)(hs2:noStar b=true:=by rfl) :
  SE X (.Call (.Name "list" p) [.Call (.Name "zip" p') [a,b] [] pos'] [] pos) (Hd f g):=by
 have z2:=aw [] X.env hs2
 have z1:=aw [b] X.env hs
 intro pins s σ H Q I ⟨ρ,d,er,e,q⟩
 obtain⟨x,e1,e⟩:=kx e
 obtain⟨y,e2,e⟩:=kx e
 match x,y,e,e1,e2 with
 | .lst xs,.lst ys,e,e1,e2 =>
 dsimp only at e
 split at e
 case isFalse=>cases e
 case isTrue hz =>
 cases e
 obtain⟨hlen,h0,h1000⟩:=hz
 refine Call_ (bB I hg hm boot_list ?_)
 refine PyProof.Rows.callWith_type1 (Calls.spliced_cons ?_) rfl rfl
 refine Call_ (bB I hg' hm' (u:=.type "zip") (by kernel_rfl) ?_)
 refine PyProof.Rows.callWith_type1 (lA ((aa ha (aa hb ae hs2) hs).1 pos' pins s σ H (fun vs H2=>ku H H2/\i9 X.K H2 [.lst xs,.lst ys] vs) I ⟨ρ,[.lst xs,.lst ys],er,by show(f ρ).bind _=_;rw[e1];show((g ρ).bind _).map _=_;rw[e2];rfl,fun vs H2 s2 r2=>⟨s2,r2⟩⟩) fun us s1 ⟨vs,H1,I1,r1,s01,rp⟩=>?_) (by rw[z1,z2]) (by rw[z2];rfl)
 obtain⟨v,r,rfl,r2,r3⟩:=rp
 obtain⟨u,r',rfl,r4,r5⟩:=r3
 cases (show r'=_ from r5)
 cases r1 with
 | cons ra rr =>
  cases rr with
  | cons rb rr =>
   cases rr
   obtain⟨S,rfl,okS,dS⟩:=iB I1 (xs:=xs) rfl r2 ra
   obtain⟨T,rfl,okT,dT⟩:=iB I1 (xs:=ys) rfl r4 rb
   refine ic okS okT fun h' z TI TO i1 i2 D hz hI hO sS sT new kept=>?_
   refine Calls.spliced_nil ?_
   refine BU (s:={s1 with heap:=h' }) D dS dT hlen (I1.ok.hd hcm) h1000 h0 (I1.kept (t':=s1.toks) kept) (fun c hc=>I1.fpOk (new c hc) (I1.hok.fresh (new c hc))) hz hI ⟨_,_,hO⟩ sS sT fun H' s' l ws I' sm hl rp=>?_
   exact⟨.ref l,H',I',rfl,q _ _ (s01.trans sm) ⟨l,ws,rfl,hl,rp⟩⟩
end
end HW
namespace HW
open PySem
section
open Builtin Builtin.Str
end
end HW
namespace HW
open PySem PySem.Spec PyProof.Rows L2
abbrev Dy:List (Str×Value):=[(oS "key",.builtin "len"),(oS "default",.none)]
section
variable{prog:Program}{w:World}{A:Around}{R':Result->Shared->Prop}{I:Addr}{fp wr:List Addr}{n:Nat}{St:Nat->Heap->Prop}{xs:List Str}
abbrev PK(xs:List Str)(i:Nat)(v:Value):Prop:=∃x t,xs[i]?=some x/\v=.str x t
theorem PK.get{i:Nat}{v:Value}(h:PK xs i v):∃t,v=.str (xs.getD i Str.empty) t:=by
 obtain⟨x,t,h1,rfl⟩:=h
 exact⟨t,by rw[List.getD_eq_getElem?_getD,h1];rfl⟩
theorem BN(W:Walks prog w A.in1 I fp wr n (PK xs) St)(hx:∀x∈xs,x.length<=100000)(S:Addr)(hSf:S∉fp):∀(k j:Nat) (s:Shared) (vb:Value) (tb:Tok) (c:Nat),n - (j+1)=k->j+1<=n->St (j+1) s.heap->PK xs (lO (kQ xs) j) vb->DY S #[vb,.int ((xs.getD (lO (kQ xs) j) Str.empty).length:Nat) tb] c s.heap ->
  (∀v h' tk,PK xs (lO (kQ xs) (n - 1)) v->(∀b o,b∉wr->b≠S->s.heap.get? b=some o->h'.get? b=some o)->R' (.ok (.ret v)) {s with heap:=h',toks:=tk})->codeAny (model prog w) A (.builtin "min.loop" ⟨[.ref I,.builtin "len",.ref S],[(oS "default",.none)]⟩) R' s:=by
 have hSw:S∉wr:=fun z=>hSf (W.sub _ z)
 intro k
 induction k with
 | zero =>
  intro j s vb tb c hk hj hst hPb hS hR
  have hin:j+1=n:=by omega
  refine codeAny_builtin F.entry_min_loop ?_;rw[Around.under_plainId F.plain_min_loop _];show wpAny _ A.in1 (seqItems? (.ref S) >>= _) _ _ s
  refine wpAny_bind (wpAny_seqItems hS rfl ?_);show wpAny _ A.in1 (tryCatch (pyNext (.ref I)) _ >>= _) _ _ s
  refine wpAny_bind (wpAny_tryCatch (W.done s _ _ (hin ▸ hst) fun h1 t1 k1=>?_));have hS1:=k1 S _ hSw hS
  show wpAny _ A.in1 (updateSeq S (fun _=>#[]) >>= _) _ _ _;refine wpAny_bind (wpAny_updateSeq hS1 rfl (wpAny_bind (wpAny_letGo (wpAny_pure ?_))))
  exact hR vb _ t1 (by rw[<- hin];exact hPb) fun b o hbw hbS e=>(Heap.get?_update_other _ _ (Ne.symm hbS)).trans (k1 b o hbw e)
 | succ k ih =>
  intro j s vb tb c hk hj hst hPb hS hR
  have hlt:j+1<n:=by omega
  refine codeAny_builtin F.entry_min_loop ?_;rw[Around.under_plainId F.plain_min_loop _];show wpAny _ A.in1 (seqItems? (.ref S) >>= _) _ _ s
  refine wpAny_bind (wpAny_seqItems hS rfl ?_);show wpAny _ A.in1 (tryCatch (pyNext (.ref I)) _ >>= _) _ _ s
  refine wpAny_bind (wpAny_tryCatch (W.item (j+1) s _ _ hlt hst fun v h1 t1 hP st1 k1=>?_));have hS1:=k1 S _ hSw hS
  obtain⟨x,t,hx1,rfl⟩:=id hP
  have hxd:xs.getD (j+1) Str.empty=x:=by rw[List.getD_eq_getElem?_getD,hx1];rfl
  have hxl:x.length<=100000:=hx x (List.mem_of_getElem? hx1)
  show wpAny _ A.in1 (tryCatch (holding [Value.str x t] (call (.builtin "len") [.str x t])) _ >>= _) _ _ _
  refine wpAny_bind (wpAny_tryCatch (wpAny_holding (len_str (by omega) ?_)))
  show wpAny _ A.in1 (tryCatch (holding [_,_] (richCompare .Lt (.int (x.length:Nat) _) (.int _ tb) >>= _)) _ >>= _) _ _ _
  refine wpAny_bind (wpAny_tryCatch (wpAny_holding (wpAny_bind (CmpOf.ints_lt (prog:=prog) (w:=w) (A:=A.in1) (P:=fun i v=>∃t,v=.int ((xs.getD i Str.empty).length:Nat) t) (fun i=>((xs.getD i Str.empty).length:Nat)) (fun i v h=>h) (j+1) (lO (kQ xs) j) _ _ _ _ _ ⟨_,by rw[hxd]⟩ ⟨tb,rfl⟩ ?_))))
  refine wpAny_bind (wpAny_holding (wpAny_truthy_bool ?_));refine wpAny_bind (wpAny_letGo (wpAny_pure ?_))
  have hbt:decide (((xs.getD (j+1) Str.empty).length:Int)<((xs.getD (lO (kQ xs) j) Str.empty).length:Int))=kQ xs (j+1) (lO (kQ xs) j):=rfl
  simp only[hbt]
  cases hb:kQ xs (j+1) (lO (kQ xs) j) with
  | true =>
   have hnew:lO (kQ xs) (j+1)=j+1:=by simp only[lO,hb,if_true]
   simp only[if_true];refine wpAny_bind (wpAny_updateSeq hS1 rfl (wpAny_bind (wpAny_letGo ?_)));rw[oK]
   refine wpAny_pure ⟨plainId_quiet F.plain_min_loop _,ih (j+1) _ (.str x t) _ _ (by omega) hlt (W.frame _ _ _ st1 fun b hbf o e=>?_) (by rw[hnew];exact hP) (by rw[hnew,hxd];exact Heap.get?_update_self _ hS1 rfl) fun v' h2 t2 hP' k2=>?_⟩
   ·refine(Heap.get?_update_other _ _ fun z:S=b=>hSf ?_).trans e;rw[z];exact hbf
   ·refine hR v' h2 t2 hP' fun b o hbw hbS e=>k2 b o hbw hbS ?_;exact(Heap.get?_update_other _ _ (Ne.symm hbS)).trans (k1 b o hbw e)
  | false =>
   have hnew:lO (kQ xs) (j+1)=lO (kQ xs) j:=by simp only[lO,hb,Bool.false_eq_true,if_false]
   simp only[Bool.false_eq_true,if_false];refine wpAny_bind (wpAny_letGo ?_);rw[oK]
   refine wpAny_pure ⟨plainId_quiet F.plain_min_loop _,ih (j+1) _ vb tb c (by omega) hlt st1 (by rw[hnew];exact hPb) (by rw[hnew];exact hS1) fun v' h2 t2 hP' k2=>?_⟩
   refine hR v' h2 t2 hP' fun b o hbw hbS e=>k2 b o hbw hbS ?_;exact k1 b o hbw e
theorem AO(W:Walks prog w A.in1 I fp wr n (PK xs) St)(hx:∀x∈xs,x.length<=100000)(S:Addr)(hSf:S∉fp){s:Shared}{c:Nat}(hst:St 0 s.heap)(hS:DY S #[] c s.heap)
  (h0:n=0->∀h' tk,(∀b o,b∉wr->b≠S->s.heap.get? b=some o->h'.get? b=some o)->R' (.ok (.ret .none)) {s with heap:=h',toks:=tk})
  (hR:0<n->∀v h' tk,PK xs (lO (kQ xs) (n - 1)) v->(∀b o,b∉wr->b≠S->s.heap.get? b=some o->h'.get? b=some o)->R' (.ok (.ret v)) {s with heap:=h',toks:=tk}):codeAny (model prog w) A (.builtin "min.loop" ⟨[.ref I,.builtin "len",.ref S],[(oS "default",.none)]⟩) R' s:=by
 have hSw:S∉wr:=fun z=>hSf (W.sub _ z)
 refine codeAny_builtin F.entry_min_loop ?_;rw[Around.under_plainId F.plain_min_loop _];show wpAny _ A.in1 (seqItems? (.ref S) >>= _) _ _ s
 refine wpAny_bind (wpAny_seqItems hS rfl ?_);show wpAny _ A.in1 (tryCatch (pyNext (.ref I)) _ >>= _) _ _ s
 by_cases hn:0<n
 ·refine wpAny_bind (wpAny_tryCatch (W.item 0 s _ _ hn hst fun v h1 t1 hP st1 k1=>?_));have hS1:=k1 S _ hSw hS
  obtain⟨x,t,hx1,rfl⟩:=id hP
  have hxd:xs.getD 0 Str.empty=x:=by rw[List.getD_eq_getElem?_getD,hx1];rfl
  have hxl:x.length<=100000:=hx x (List.mem_of_getElem? hx1)
  show wpAny _ A.in1 (tryCatch (holding [Value.str x t] (call (.builtin "len") [.str x t])) _ >>= _) _ _ _
  refine wpAny_bind (wpAny_tryCatch (wpAny_holding (len_str (by omega) ?_)))
  show wpAny _ A.in1 (updateSeq S (fun _=>#[_,_]) >>= _) _ _ _;refine wpAny_bind (wpAny_updateSeq hS1 rfl ?_);rw[oK]
  refine wpAny_pure ⟨plainId_quiet F.plain_min_loop _,BN W hx S hSf _ 0 _ (.str x t) _ _ rfl hn (W.frame _ _ _ st1 fun b hbf o e=>?_) hP (by show DY S #[_,.int ((xs.getD 0 Str.empty).length:Nat) _] _ _;rw[hxd];exact Heap.get?_update_self _ hS1 rfl) fun v' h2 t2 hP' k2=>?_⟩
  ·refine(Heap.get?_update_other _ _ fun z:S=b=>hSf ?_).trans e;rw[z];exact hbf
  ·refine hR hn v' h2 t2 hP' fun b o hbw hbS e=>k2 b o hbw hbS ?_;exact(Heap.get?_update_other _ _ (Ne.symm hbS)).trans (k1 b o hbw e)
 ·have hz:n=0:=by omega
  refine wpAny_bind (wpAny_tryCatch (W.done s _ _ (hz ▸ hst) fun h1 t1 k1=>?_))
  refine wpAny_bind (wpAny_rule (wpAny_pure ?_))
  exact h0 hz h1 t1 fun b o hbw hbS e=>k1 b o hbw e
end
section
variable{prog:Program}{w:World}{A:Around}{E:Value->Shared->Prop}{s:Shared}
theorem yJ(a:Value):argsOk "min" ⟨[a],Dy⟩:=by unfold argsOk;kernel_rfl
theorem gk{l:Addr}{its:List Value}{xs:List Str}{Q:Value->Shared->Prop}(hh:A.handled=none)(hl:s.heap.IsList l its.toArray)(hx:∀x∈xs,x.length<=100000)(hln:its.length=xs.length)(hv:∀(i:Nat) v,its.toArray[i]?=some v->PK xs i v)
  (h0:its=[]->∀h' tk,(∀b o,s.heap.get? b=some o->h'.get? b=some o)->Q .none {s with heap:=h',toks:=tk})
  (h1:its ≠ []->∀v h' tk,PK xs (lO (kQ xs) (its.length - 1)) v->(∀b o,s.heap.get? b=some o->h'.get? b=some o)->Q v {s with heap:=h',toks:=tk}) :
  wpAny (model prog w) A (call (.builtin "min") [.ref l] Dy) Q E s:=by
 refine wpAny_call (codeAny_call_builtin F.plain_min F.entry_min ?_)
 simp only[checkBuiltinCall,F.kind_min]
 have main:wpAny (model prog w) A.in1 (Builtin.«min» ⟨[.ref l],Dy⟩) (fun fin s'=>match fin with
   | .done f=>(match (Except.ok f:Result) with
    | .ok (.ret v)=>Q v s'
    | .ok _=>False
    | .error e=>E e s')
   | .again c'=>c'.quiet=true/\codeAny (model prog w) A c' (fun r s'=>match r with
    | .ok (.ret v)=>Q v s'
    | .ok _=>False
    | .error e=>E e s') s') E s:=by
  show wpAny _ A.in1 (Builtin.Builtins.bindParams "min" ["key","default"] 0 ⟨[],Dy⟩ >>= _) _ _ s
  refine wpAny_bind (wpAny_of_eq (show Builtin.Builtins.bindParams "min" ["key","default"] 0 ⟨[],Dy⟩=pure [some (.builtin "len"),some .none] from rfl) ?_)
  refine wpAny_bind (wpAny_pure (wpAny_bind (wpAny_pyIter_list hl ?_)))
  refine wpAny_bind (wpAny_newObj_type ?_)
  rw[oK]
  have hlt:l<s.heap.objs.size:=by
   obtain⟨o,e,_⟩:=hl
   exact Heap.lt_size e
  generalize hI:s.heap.objs.size=J at hlt
  generalize h1e:s.heap.push {cls:=Value.type "list_iterator",data:=Data.fields #[Value.ref l,Value.int 0 0]}=H1
  have hJ:H1.objs.size=J+1:=by rw[<- h1e,Heap.size_push,hI]
  have k1:∀b o,s.heap.get? b=some o->H1.get? b=some o:=fun b o e=>by rw[<- h1e];exact Heap.get?_push_of_some _ e
  have st1:H1.IsListIter J l 0/\H1.IsList l its.toArray:=⟨by rw[<- h1e,<- hI];exact⟨_,Heap.get?_push_size _ rfl,rfl,rfl⟩,hl.at fun o e=>k1 _ _ e⟩
  have hne:l≠J:=Nat.ne_of_lt hlt
  have hSf:H1.objs.size ∉ [J,l]:=by
   rw[hJ]
   intro z
   rcases List.mem_cons.mp z with z | z
   ·exact absurd z (Nat.ne_of_gt (Nat.lt_succ_self J))
   ·rw[<- List.mem_singleton.mp z] at hlt
    exact absurd hlt (Nat.not_lt.mpr (Nat.le_succ J))
  have W0:=Walks.list (prog:=prog) (w:=w) (A:=A.in1) hh J l hne its.toArray
  have W:Walks prog w A.in1 J [J,l] [J] its.toArray.size (PK xs) (fun i h=>h.IsListIter J l i/\h.IsList l its.toArray):=⟨W0.sub,W0.frame,fun i s Q E hi st hQ=>W0.item i s Q E hi st fun v h' tk hP=>hQ v h' tk (hv i v hP),W0.done,W0.self⟩
  have old:∀{h':Heap},(∀b o,b ∉ [J]->b≠H1.objs.size->(H1.push {cls:=Value.type "list",data:=Data.seq ([]:List Value).toArray}).get? b=some o->h'.get? b=some o)->∀b o,s.heap.get? b=some o->h'.get? b=some o:=fun {h'} kk b o e=>by
   have hb:b<J:=by rw[<- hI];exact Heap.lt_size e
   refine kk b o (fun z=>absurd (List.mem_singleton.mp z) (Nat.ne_of_lt hb)) ?_ (Heap.get?_push_of_some _ (k1 b o e))
   rw[hJ]
   exact Nat.ne_of_lt (Nat.lt_succ_of_lt hb)
  refine wpAny_pure ⟨plainId_quiet F.plain_min_loop _,AO W hx H1.objs.size hSf (W.frame _ _ _ st1 fun b _ o e=>Heap.get?_push_of_some _ e) (Heap.get?_push_size _ rfl) (fun hz h' tk kk=>?_) fun hn v h' tk hP kk=>?_⟩
  ·exact h0 (by simpa using hz) h' tk (old kk)
  ·refine h1 (fun z=>by subst z;simp at hn) v h' tk ?_ (old kk)
   simpa using hP
 cases hsig:Manifest.signature? "min" with
 | none=>exact wpAny_pure main
 | some sig =>
  have ha:=yJ (.ref l)
  simp only[argsOk,hsig] at ha
  have h2:Bind.checkArgs "min" sig ⟨[.ref l],Dy⟩=pure ():=ha
  show wpAny _ A.in1 (Bind.checkArgs "min" sig ⟨[.ref l],Dy⟩) _ _ s
  rw[h2]
  exact wpAny_pure main
end
section
variable{X:Cx}
theorem jb{e:Expr}{f:R->OD}{p kp kp2 p2 p3 pos:Pos}{j:Nat}(hc:X.calm=true)(hm:X.mg "min" = none)(hml:X.mg "len" = none)(he:SE X e f)(hg:Gl X "min":=by rfl)(hgl:Gl X "len":=by rfl)(hst:noStar e=true:=by rfl) :
  SE X (.Call (.Name "min" p) [e] [⟨some "key",.Name "len" p3,kp⟩,⟨some "default",.Constant .none j p2,kp2⟩] pos) (i6 sC (i3 f i5)):=by
 intro pins s σ H Q I ⟨ρ,d,er,eq,q⟩
 obtain⟨ds,e1,e2⟩:=kx eq
 have hst1:=aw [] X.env hst
 refine wpAny_Call_Name_kw (bB I hg hm boot_min ?_ (by decide) (by decide))
 refine callWith_kw (lA ((aa he ae hst).1 pos pins s σ H (fun vs H2=>ku H H2/\i9 X.K H2 ds vs) I ⟨ρ,ds,er,e1,fun vs H2 s2 r2=>⟨s2,r2⟩⟩) fun us s1 ⟨vs,H1,I1,r1,s01,rp⟩=>?_) (by rw[hst1];rfl) (by rw[hst1];rfl) rfl rfl
 refine kws_cons (bB I1 hgl hml boot_len (kws_cons (Constant_none (kws_nil ?_))))
 have hh:=I1.ok.hd hc
 match ds,e2 with
 | [.lst es],e2 =>
  obtain⟨xs,e3,e4⟩:=kx (show(rG es).bind _=some d from e2)
  split at e4
  case isFalse=>cases e4
  case isTrue hz =>
  cases e4
  obtain⟨v,r',rfl,⟨a,ws,rfl,ha,rx⟩,rr⟩:=rp
  cases (show r'=[] from rr)
  obtain⟨u,rfl,ru⟩:=r1.one
  cases (show u=_ from ru)
  obtain⟨_,its,n,rv,hl,eo⟩:=I1.lstM ha
  obtain⟨ls,hits,hls⟩:=uJ e3 rx rv
  have hit:its.length=xs.length:=by rw[hits,<- hls];simp[strValues]
  have hx:∀x∈xs,x.length<=100000:=fun x hx=>by simpa using List.all_eq_true.mp hz.2 x hx
  have hv:∀(i:Nat) v,its.toArray[i]?=some v->PK xs i v:=fun i v hv=>by
   have hv':its[i]?=some v:=by simpa using hv
   rw[hits] at hv'
   unfold strValues at hv'
   rw[List.getElem?_map] at hv'
   obtain⟨p,ep,rfl⟩:=lK hv'
   exact⟨p.1,p.2,by rw[<- hls,List.getElem?_map,ep];rfl,rfl⟩
  refine gk hh ⟨_,eo,rfl,n,rfl⟩ hx hit hv (fun hz0 h' tk k=>?_) fun hz0 v h' tk hP k=>?_
  ·have hxe:xs=[]:=List.length_eq_zero_iff.mp (by rw[<- hit,hz0];rfl)
   subst hxe
   exact⟨.non,H1,I1.kept k,rfl,q _ H1 s01 rfl⟩
  ·have hxe:xs.isEmpty=false:=by
    cases xs with
    | nil=>exact absurd (List.length_eq_zero_iff.mp hit) hz0
    | cons _ _=>rfl
   rw[hit] at hP
   obtain⟨t,rfl⟩:=hP.get
   rw[hxe] at q
   exact⟨.str _,H1,I1.kept k,⟨t,rfl⟩,q _ H1 s01 rfl⟩
end
theorem wf{X:Cx}{t:mS}{ct:kR}{x y:Str}{c d:Addr}{j l:Nat}(TB:lz X.mg [ct] X.base)(hT:X.H₀ ct.P=some (.tbl ct.q false))(tq:t.q=ct.q)(code:X.env.code=.ref ct.c)(qual:X.env.qual ++ "<lambda>" = ct.q)
  (fn:∀x,X.fn x=true) (hcl:closureFor t.scope X.env=pure [(x,c),(y,d)]) (hdf:defaultsOf t.params X.env=([],[])) (hcell:X.env.cells.lookup x=some c) (hk:X.env.scope.names.lookup x=some .cell) (hN:X.N[j]?=some x)
  (hcell2:X.env.cells.lookup y=some d) (hk2:X.env.scope.names.lookup y=some .cell) (hN2:X.N[l]?=some y) (hxy:x≠y) (hcd:c≠d)
  (kd:t.scope.kind=.function) (co:t.scope.isCoroutine=false) (gen:t.scope.isGenerator=false) (nd:t.N.Nodup) (hn:t.N=t.ps++[x,y]) (par:∀y∈t.ps,t.scope.names.lookup y=some .local) (noc:∀y∈t.scope.names,y.2≠.cell)
  (fre:t.scope.names.lookup x=some .free) (fre2:t.scope.names.lookup y=some .free) (only:∀z∈t.scope.names,z.2=.free->z.1=x\/z.1=y):pZ X t [(x,c),(y,d)] ct [j,l]:=by
 have hdr:t.N.drop t.ps.length=[x,y]:=by rw[hn,List.drop_left]
 have lk:∀z c',List.lookup z [(x,c),(y,d)]=some c'->(z=x/\c'=c)\/(z=y/\c'=d):=fun z c' h=>by
  rw[List.lookup_cons] at h
  cases q:z==x with
  | true=>rw[q] at h;cases h;exact .inl ⟨eq_of_beq q,rfl⟩
  | false =>
   rw[q] at h
   have h':List.lookup z [(y,d)]=some c':=h
   rw[List.lookup_cons] at h'
   cases q2:z==y with
   | true=>rw[q2] at h';cases h';exact .inr ⟨eq_of_beq q2,rfl⟩
   | false=>rw[q2] at h';cases h'
 have lkx:List.lookup x [(x,c),(y,d)]=some c:=by rw[List.lookup_cons];simp
 have lky:List.lookup y [(x,c),(y,d)]=some d:=by
  rw[List.lookup_cons]
  have:(y==x)=false:=by simpa using Ne.symm hxy
  rw[this]
  show List.lookup y [(y,d)]=some d
  rw[List.lookup_cons];simp
 have ndc:([(x,c),(y,d)].map (·.1)).Nodup:=by simp[hxy]
 refine⟨TB,hT,tq,code,qual,hcl,hdf,⟨fn,ndc,fun z c' h=>?_⟩,⟨kd,co,gen,nd,by rw[hn,List.take_left],par,noc,fun z hz=>?_,fun z hz=>?_,ndc,fun z w c' h1 h2=>?_⟩,by rw[hdr];simp[hN,hN2],fun z c' h=>?_⟩
 ·rcases lk z c' h with ⟨rfl,rfl⟩ | ⟨rfl,rfl⟩
  ·exact⟨hcell,hk⟩
  ·exact⟨hcell2,hk2⟩
 ·rw[hdr] at hz
  simp only[List.mem_cons,List.not_mem_nil,or_false] at hz
  rcases hz with rfl | rfl
  ·exact fre
  ·exact fre2
 ·rcases only _ (PySem.mem_of_lookup hz) rfl with h | h
  ·rw[show z=x from h];exact⟨c,lkx⟩
  ·rw[show z=y from h];exact⟨d,lky⟩
 ·rcases lk z c' h1 with ⟨a,b⟩ | ⟨a,b⟩<;>rcases lk w c' h2 with ⟨a',b'⟩ | ⟨a',b'⟩
  ·rw[a,a']
  ·exact absurd (b.symm.trans b') hcd
  ·exact absurd (b'.symm.trans b) hcd
  ·rw[a,a']
 ·rw[hdr]
  rcases lk z c' h with ⟨rfl,_⟩ | ⟨rfl,_⟩<;>simp
end HW
namespace HW
open PySem
def vj(c:R->Option Bool)(p:R->Option Out):Nat->R->Option Out
 | 0,_=>none
 | n+1,ρ=>(c ρ).bind fun b=>if b then (p ρ).bind fun r=>match r with
  | .nx ρ1=>vj c p n ρ1
  | .ct ρ1=>vj c p n ρ1
  | .bk ρ1=>some (.nx ρ1)
  | .rt d=>some (.rt d)
  else some (.nx ρ)
def vV:LD->OD
 | [.lst es,x]=>if nu x<=100/\oZ x=true/\nG es=true/\es.length<=1000 then (if es.findIdx (fun y=>sH y x)<es.length then some (.int ((es.findIdx (fun y=>sH y x):Nat):Int)) else none) else none
 | _=>none
def Hi:Expr->Expr
 | .BinOp _ _ b _=>b
 | e=>e
def eK(i:Nat):Expr->Expr
 | .Call _ _ ks _=>(ks.map (·.value)).getD i (.Name "" ⟨0,0,0,0⟩)
 | e=>e
def xE:LD->OD
 | [.dct ks _]=>(pP ks).bind fun ns=>if ns.length<=1000 then some (.lst (ns.map .int)) else none
 | _=>none
end HW
namespace HW
open PySem PySem.Spec PyProof.Rows L2
section
variable{X:Cx}{pos:Pos}
theorem ie{c:Expr}{B:List Stmt}{s:R->Option Bool}{u:R->Option Out}(n:Nat)(hp:PassesOwn (model X.prog X.w) X.A X.env X.xe)(hc:ST X c s)(hb:SS X B u):S1 X (.While c B [] pos) (vj s u n):=(eU hp hc hb).imp fun E σ H ⟨ρ,τ,o,er,e,q⟩=>by
 refine⟨fun m σ' H'=>∃ ρ',lQ X.K H' ρ' τ σ'/\ku H H'/\vj s u m ρ'=some o,⟨n,ρ,er,ku.refl _,e⟩,?_⟩
 rintro m σ' H' ⟨ρ',er',k',e'⟩
 cases m with
 | zero=>cases e'
 | succ m =>
  obtain⟨b,e1,e'⟩:=kx e'
  refine⟨ρ',b,er'.1,e1,fun H1 s1=>?_⟩
  cases b with
  | false =>
   rw[if_neg Bool.false_ne_true] at e' ⊢
   cases e'
   exact q H1 (k'.trans s1) σ' (er'.mono s1)
  | true =>
   rw[if_pos rfl] at e' ⊢
   obtain⟨o1,e3,e'⟩:=kx e'
   refine⟨fun σ2 H2=>∃ ρ',lQ X.K H2 ρ' τ σ2/\ku H H2/\vj s u m ρ'=some o,fun σ2 H2 z=>⟨m,Nat.lt_succ_self _,z⟩,ρ',τ,o1,er'.mono s1,e3,fun H5 k5=>?_⟩
   have k15:ku H H5:=k'.trans (s1.trans k5)
   cases o1 with
   | nx ρ2=>exact fun σ6 er6=>⟨ρ2,er6,k15,e'⟩
   | ct ρ2=>exact fun σ6 er6=>⟨ρ2,er6,k15,e'⟩
   | bk ρ2=>cases e';exact fun σ6 er6=>q H5 k15 σ6 er6
   | rt d=>cases e';exact q H5 k15
theorem Ad{h:Heap}:∀{xs:List PyData} {vs:List Value} {as:List Addr},PyData.canLayAll0 xs=true->ReadsAll h vs xs as->∀{j:Nat} {v:Value},vs[j]?=some v->∃x,xs[j]?=some x/\SeqAt.readOf h v=x:=fun {xs vs as} hc r {j v} e=>by
 have z:=SeqAt.readsAll_map xs vs as hc r
 have:(vs.map (SeqAt.readOf h))[j]?=some (SeqAt.readOf h v):=by rw[List.getElem?_map,e];rfl
 rw[z] at this
 exact⟨_,this,rfl⟩
theorem qL:∀ds:LD,mB ds=ds.map toPy
 | []=>rfl
 | d::ds=>by rw[mB,qL ds,List.map_cons]
theorem jy{es:LD}(h:lE es=true){j:Nat}{d:D}(e:es[j]?=some d):mV d=true:=by
 induction es generalizing j with
 | nil=>cases e
 | cons x es ih =>
  have h':(mV x&&lE es)=true:=h
  rw[Bool.and_eq_true] at h'
  cases j with
  | zero=>cases e;exact h'.1
  | succ j=>exact ih h'.2 e
theorem ju{k:Nat}(hr:lb k X.A):G4 X "list.index" vV:=by
 intro pins s σ H x vs v us Q I rx rv h
 obtain⟨dx,ds,d,r1,r2,e,q⟩:=h
 match dx,ds,e with
 | .lst es,[y],e =>
  have e':(if nu y<=100/\oZ y=true/\nG es=true/\es.length<=1000 then (if es.findIdx (fun z=>sH z y)<es.length then some (D.int ((es.findIdx (fun z=>sH z y):Nat):Int)) else none) else none)=some d:=e
  split at e'
  case isFalse=>cases e'
  case isTrue hd =>
  split at e'
  case isFalse=>cases e'
  case isTrue hj =>
  cases e'
  obtain⟨a,xs,rfl,ha,rr⟩:=r1
  cases (show v=_ from rx)
  obtain⟨u,r',rfl,k1,r2⟩:=r2
  cases (show r'=[] from r2)
  obtain⟨u',rfl,t2⟩:=rv.one
  obtain⟨_,its,n,rv2,hl,eo⟩:=I.lstM ha
  obtain⟨as,ra⟩:=qA I (bw hd.2.1) k1 t2
  have hle:oZ (.lst es)=true:=hd.2.2.1
  have hne:lE es=true:=bw hle
  obtain⟨bs,rb⟩:=nX I hne rr rv2
  have hcl:=cA es hd.2.2.1
  have hlen:its.length=es.length:=by
   have z:=congrArg List.length (SeqAt.readsAll_map _ _ _ hcl rb)
   rw[List.length_map,qL,List.length_map] at z
   exact z
  have at_j:∀(j:Nat) (hj:j<its.length) (hj2:j<es.length),PyData.eqv (SeqAt.readOf s.heap its[j]) (toPy y)=sH es[j] y:=fun j hj hj2=>by
   obtain⟨p,hp,hq⟩:=Ad hcl rb (j:=j) (v:=its[j]) (List.getElem?_eq_getElem hj)
   rw[qL,List.getElem?_map,List.getElem?_eq_getElem hj2] at hp
   rw[hq,<- Option.some.inj hp,xB _ _ (jy hne (List.getElem?_eq_getElem hj2)) (bw hd.2.1)]
  have hu:X.A.units+1+min (PyData.depthAll (mB es)) (toPy y).depth<cLine:=by
   have h1:=hr.un
   have h2:min (PyData.depthAll (mB es)) (toPy y).depth<=100:=by rw[fu y (bw hd.2.1)];omega
   omega
  refine call_meets PySem.F.slot_list_index ⟨_,eo,rfl⟩ PySem.F.entry_list_index (PySem.F.args_list_index_2 _ _)
   (PySem.SeqAt.list_indexAt a its.toArray n none _ u' (fun z=>PyData.eqv (SeqAt.readOf s.heap z) (toPy y)) (es.findIdx fun z=>sH z y) (by simpa [hlen] using hj) (by omega) ?_ ?_) ⟨eo,SeqAt.items_eqAt rb ra hcl (el y hd.2.1) hu,?_⟩
  ·show PyData.eqv (SeqAt.readOf s.heap its[es.findIdx fun z=>sH z y]) (toPy y)=true
   rw[at_j _ (by omega) hj]
   exact List.findIdx_getElem (w:=hj)
  ·intro j hjs hlt
   show PyData.eqv (SeqAt.readOf s.heap its[j]) (toPy y)=false
   rw[at_j j (by simpa using hjs) (by omega)]
   exact Bool.eq_false_iff.mpr (by simpa using List.not_of_lt_findIdx hlt)
  ·exact⟨.int _,H,I.tok _,⟨_,rfl⟩,q _ H (ku.refl H) rfl⟩
theorem A7{x:D}{ds:LD}{d:D}(h:vV (x::ds)=some d):∃es,x=.lst es:=by
 cases x with
 | lst z=>exact⟨z,rfl⟩
 | _=>cases h
theorem jC{k:Nat}(hr:lb k X.A){a e:Expr}{es:List Expr}{f:R->OD}{F:R->Option LD}{ap cp:Pos}(ha:SE X a f)(hF:SA X (e::es) F)
  (hbase:attributeBase a "index" X.env (eval a X.env)=eval a X.env:=by rfl)
  (hfew:((backTo cp (starEach (e::es) X.env)).all (fun x=>!x.1)&&(backToKw cp (keywordEach [] X.env)).all (fun x=>x.1.isSome)&&decide ((e::es).length+([]:List Keyword).length+(if ([]:List Keyword).isEmpty then 0 else 1)<30))=true:=by rfl)
  (hline:(ap.endLine==cp.line)=true:=by rfl):SE X (.Call (.Attribute a "index" ap) (e::es) [] cp) (i6 vV (i3 f F)):=by
 have hst:=hF.2.2
 rw[List.all_cons,Bool.and_eq_true] at hst
 refine(jI (T:="list") PySem.F.plainAttrs_list PySem.F.slot_list_index PySem.F.type_list_index (ju hr) ha hF.1 hbase hfew hline (aw es X.env hst.1) (bo (pos:=cp) (env:=X.env) hst.2)).imp fun σ H Q ⟨ρ,d,er,e,q⟩=>?_
 obtain⟨dd,e1,e⟩:=kx e
 obtain⟨x,e2,e1⟩:=kx e1
 obtain⟨ds,e3,e1⟩:=lK e1
 subst e1
 obtain⟨es,rfl⟩:=A7 e
 exact⟨ρ,_,er,e2,fun v H1 s1 r1=>⟨by obtain⟨a,xs,rfl,ha,rr⟩:=r1;exact .inl ⟨rfl,xs,.inl (.inl ha)⟩,ρ,ds,er.mono s1,e3,fun vs H2 s2 r2=>⟨.lst es,ds,d,r1.mono s2,r2,e,fun u H3 s3 r3=>q u H3 (s1.trans (s2.trans s3)) r3⟩⟩⟩
theorem iH{e:Expr}{f:R->OD}{p pos:Pos}(hc:X.calm=true)(hm:X.mg "list" = none)(he:SE X e f)(hg:Gl X "list":=by rfl)(hst:noStar e=true:=by rfl) :
  SE X (.Call (.Name "list" p) [e] [] pos) (i6 xE (i3 f i5)):=by
 intro pins s σ H Q I ⟨ρ,d,er,eq,q⟩
 obtain⟨ds,e1,e2⟩:=kx eq
 have hst1:=aw [] X.env hst
 have PAA:=(aa he ae hst).1 pos pins s σ H (fun vs H2=>ku H H2/\i9 X.K H2 ds vs) I ⟨ρ,ds,er,e1,fun vs H2 s2 r2=>⟨s2,r2⟩⟩
 refine Call_ (bB I hg hm boot_list ?_)
 refine PyProof.Rows.callWith_type1 (lA PAA fun us s1 ⟨vs,H1,I1,r1,s01,rp⟩=>?_) hst1 rfl
 match ds,e2 with
 | [.dct ks dd],e2 =>
  obtain⟨ns,e3,e4⟩:=kx (show(pP ks).bind _=some d from e2)
  split at e4
  case isFalse=>cases e4
  case isTrue hn =>
  cases e4
  obtain⟨v,r',rfl,⟨a,xs,rfl,⟨hl,o,hq⟩,rx⟩,rr⟩:=rp
  cases (show r'=[] from rr)
  obtain⟨u,rfl,ru⟩:=r1.one
  cases (show u=_ from ru)
  obtain⟨lo,ws,es,ep,rk,g,hd,hat⟩:=wg I1.hok hq
  have hk:ws.map (·.1)=ns.map Sum.inl:=by
   rw[<- vz rk,<- tM e3,List.map_fst_zip]
   omega
  have hl2:ws.length=ns.length:=by have:=congrArg List.length hk;rw[List.length_map,List.length_map] at this;exact this
  refine W.kdl_call (W.kdl_dict lo) (I1.ok.hd hc) hat (by rw[hl2,sizeLine_eq];omega) fun h' tk acc c' hkp hS' hacc=>?_
  have hal:acc.toList.length=ns.length:=by rw[Array.length_toList,hacc.1,hl2]
  have hI:IntsAre acc.toList ns:=eM hal fun j v n h1 h2=>by
   obtain⟨k,x,e1,e2⟩:=hacc.2 j v (by rw[<- Array.getElem?_toList];exact h1)
   have e3:(ws.map (·.1))[j]?=some k:=by rw[List.getElem?_map,e1];rfl
   rw[hk,List.getElem?_map,h2] at e3
   have e4:Sum.inl n=k:=Option.some.inj e3
   subst e4
   rcases lc (show rn (Sum.inl n) v=true from e2) with ⟨i,t,e5,rfl⟩ | ⟨y,t,e5,_⟩
   ·cases e5;exact⟨t,rfl⟩
   ·cases e5
  have hf:H1 s1.heap.objs.size=none:=I1.hok.fresh (Nat.le_refl _)
  obtain⟨v1,v2⟩:=bS (K:=X.K) (H:=upd H1 s1.heap.objs.size (.lst (ns.map V.int))) hI
  refine⟨.ref s1.heap.objs.size,upd H1 s1.heap.objs.size (.lst (ns.map V.int)),I1.laid (t':=tk) hkp (Nat.le_refl _) ⟨by rw[List.length_map,sizeLine_eq];omega,acc.toList,c',v1,by rw[hS']⟩,rfl,?_⟩
  refine q _ _ (s01.trans fun b u hb=>?_) ⟨_,_,rfl,ai,v2⟩
  rw[aj fun z=>by rw[z,hf] at hb;cases hb]
  exact hb
end
def TabsAt(ts:List kR)(H:Hp):Prop:=∀t∈ts,H t.P=some (.tbl t.q false)
def sY(K:W.Frag)(F:LD->OD)(ts:List kR):Sp:=fun vs H Q E=>TabsAt ts H/\rS K F vs H Q E
theorem lz.one{mg:Str->Option Value}{ts:List kR}{base:Heap}(h:lz mg ts base){t:kR}(ht:t∈ts):lz mg [t] base:=⟨fun u hu=>by rw[List.mem_singleton.mp hu];exact h.code t ht,h.bm⟩
structure mI (P:Program) (w:World) (K:W.Frag) (mg:Str->Option Value) (base:Heap) (k:Nat) (x:Str) (ps:List Str) (F:LD->OD) (ts:List kR):Prop where
 ex:∃f fd,kT P w K mg base mi k f fd ps (sY K F ts)/\mg x=some (.ref f)/\W.keepIn K (.ref f)=true/\Binds K fd ps []
theorem mI.mono{P:Program}{w:World}{K:W.Frag}{mg:Str->Option Value}{base:Heap}{j k:Nat}{x:Str}{ps:List Str}{F:LD->OD}{ts:List kR}(h:mI P w K mg base j x ps F ts)(hk:j<=k):mI P w K mg base k x ps F ts:=by
 obtain⟨f,fd,a,b⟩:=h.ex
 exact⟨f,fd,a.mono hk,b⟩
theorem mI.m{P:Program}{w:World}{K:W.Frag}{mg:Str->Option Value}{base:Heap}{j k:Nat}{x:Str}{ps:List Str}{F:LD->OD}{ts:List kR}(h:mI P w K mg base j x ps F ts)(hk:j<=k:=by decide):mI P w K mg base k x ps F ts:=h.mono hk
theorem kT.tabs{P:Program}{w:World}{K:W.Frag}{mg:Str->Option Value}{base:Heap}{k:Nat}{f:Addr}{fd:FuncData}{ps:List Str}{F:LD->OD}{ts:List kR}{t:kR}(ht:t∈ts)(h:kT P w K mg base mi k f fd ps (spT K F t)):kT P w K mg base mi k f fd ps (sY K F ts):=h.imp fun vs H Q E z=>⟨z.1 t ht,z.2⟩
theorem du{P:Program}{w:World}{K:W.Frag}{mg:Str->Option Value}{base:Heap}{x qual:Str}{st:Stmt}{f:Addr}{fd:FuncData}{N ps:List Str}{k:Nat}{F:LD->OD}{g:R->Option Out}{ts:List kR}
  (Fn:qa K x qual st f fd) (S:kL N ps (i7 st)) (hlen:∀ds d,F ds=some d->ds.length=ps.length)
  (hb:∀(cdv:Value) (A:Around) (outer:List Env) (s:Shared) (H:Hp) (E:XK),lb k (A.deeper (envOfC qual (i7 st) s.heap.objs.size f cdv))->TabsAt ts H->SS (pK mi P w K mg base N qual (i7 st) f cdv A outer s H E).nox (k7 st) g)
  (hF:∀ds d,F ds=some d->k_ (g (pe N.length ds))=some d):kT P w K mg base mi (k+1) f fd ps (sY K F ts):=by
 refine Fn.ok S (fun vs H Q E h=>?_) (fun cdv A outer s H vs Q E hr h=>?_)
 ·obtain⟨_,ds,d,r,e,_⟩:=h
  rw[<- r.length]
  exact hlen ds d e
 ·obtain⟨hT,ds,d,r,e,q⟩:=h
  refine⟨_,hb cdv A outer s H E hr hT,?_⟩
  have z:=hF ds d e
  cases ho:g (pe N.length ds) with
  | none=>rw[ho] at z;cases z
  | some o =>
   rw[ho] at z
   refine⟨pe N.length ds,_,o,(qo r).t,ho,fun H1 s1=>?_⟩
   cases o with
   | rt d'=>cases (show d'=d from Option.some.inj z);exact fun v rv=>q v H1 s1 rv
   | nx ρ=>cases (show D.non=d from Option.some.inj z);exact fun σ _=>q .non H1 s1 rfl
   | bk ρ=>cases z
   | ct ρ=>cases z
section
variable{X:Cx}{p pos:Pos}{e:Expr}{es:List Expr}{F:R->Option LD}{ts:List kR}
theorem aY{k:Nat}{x:Str}{ps:List Str}{G:LD->OD}(C:mI X.prog X.w X.K X.mg X.base k x ps G ts)(hr:lb k X.A)(hT:TabsAt ts X.H₀)(ha:SA X (e::es) F)(hg:Gl X x:=by rfl)
  (hdb:(x==("__debug__" : Str))=false:=by decide):SE X (.Call (.Name x p) (e::es) [] pos) (i6 G F):=by
 have hst:=ha.2.2
 rw[List.all_cons,Bool.and_eq_true] at hst
 have he:=aw es X.env hst.1
 have hpl:=bo (pos:=pos) (env:=X.env) hst.2
 obtain⟨f,fd,a,m,kp,bd⟩:=C.ex
 intro pins s σ H Q I h
 have hP:TabsAt ts H:=fun t ht=>I.base.tbls _ _ _ (hT t ht)
 refine((dg a hr hg m kp bd .nil uw ha.1 hdb he hpl).imp (t':=fun σ H Q=>TabsAt ts H/\tD X.K (i6 G F) σ H Q) fun σ H Q ⟨hP,ρ,d,er,e,q⟩=>?_) pins s σ H Q I ⟨hP,h⟩
 obtain⟨ds,e1,e⟩:=kx e
 exact⟨ρ,ds,er,e1,fun vs H1 s1 r1=>⟨fun t ht=>s1 _ _ (hP t ht),ds,d,by rw[List.append_nil];exact r1,e,fun v H2 s2 r2=>q v H2 (s1.trans s2) r2⟩⟩
end
def AT(K:W.Frag)(F:LD->OD)(ts:List kR):Sp:=fun vs H Q E=>(ts.map (·.P)).Nodup->sY K F ts vs H Q E
theorem Cs{ts:List kR}(nd:(ts.map (·.P)).Nodup){t:kR}(ht:t∈ts):t8 ts t.P=some (.tbl t.q false):=by
 induction ts with
 | nil=>cases ht
 | cons u ts ih =>
  rw[List.map_cons,List.nodup_cons] at nd
  unfold t8
  rw[List.find?_cons]
  rcases List.mem_cons.mp ht with rfl | ht
  ·simp
  ·have hne:(u.P==t.P)=false:=beq_eq_false_iff_ne.mpr fun z=>nd.1 (z ▸ List.mem_map.mpr ⟨t,ht,rfl⟩)
   rw[hne]
   exact ih nd.2 ht
theorem BR{K:W.Frag}{F:LD->OD}{H:Hp}{ts:List kR}{a:Addr}{vs:List V}{Q:VK}{E:XK}(hO:yH ts a H)(hP:∀t∈ts,t.P≠a)(h:rS K F vs H Q E):AT K F ts vs H Q E:=fun nd=>by
 refine⟨fun t ht=>?_,h⟩
 rcases hO t.P with ⟨_,z⟩ | ⟨z,_⟩
 ·rw[z];exact Cs nd ht
 ·exact absurd z (hP t ht)
theorem Ck{P:Program}{w:World}{K:W.Frag}{mg:Str->Option Value}{base:Heap}{k:Nat}{f:Addr}{fd:FuncData}{ps:List Str}{F:LD->OD}{ts:List kR}(nd:(ts.map (·.P)).Nodup)(h:kT P w K mg base mi k f fd ps (sY K F ts)):kT P w K mg base mi k f fd ps (AT K F ts):=h.imp fun vs H Q E z=>z nd
def zH(h:Heap):List (Addr×Obj):=(List.range h.objs.size).filterMap fun b=>(h.get? b).map fun o=>(b,o)
theorem uI{h:Heap}{b:Addr}{o:Obj}:(b,o)∈zH h↔h.get? b=some o:=by
 unfold zH
 rw[List.mem_filterMap]
 constructor
 ·rintro⟨b',_,e⟩
  cases hb:h.get? b' with
  | none=>rw[hb] at e;cases e
  | some o'=>rw[hb] at e;cases e;exact hb
 ·intro e
  exact⟨b,List.mem_range.mpr (Heap.lt_size e),by rw[e];rfl⟩
section
variable{X:Cx}{pins:List (Addr×Obj)}{σ:L2.St}{H:Hp}{s:Shared}{A:Around}{E:Value->Shared->Prop}
structure n_ (X:Cx) (pins:List (Addr×Obj)) (H:Hp) (b:Addr):Prop where
 nL:b≠X.env.locals
 nH:H b=none
 up:X.s₀.heap.objs.size<=b
 nc:∀x c,X.env.cells.lookup x=some c->c≠b
 np:∀p∈X.pn++pins,p.1≠b
theorem Bq{a kS:Addr}{vs:List Value}{kz:List Int}{keys:Array Value}{e e1:Nat}{P:PySem.Fin->Shared->Prop}
  (I:L2.Inv X pins σ H s) (nk:s.heap.get? kS=some (seqObj "list" keys e)) (na:s.heap.get? a=some (seqObj "list" #[] e1)) (hka:kS≠a) (mk:n_ X pins H kS) (ma:n_ X pins H a)
  (hk:IntsAre keys.toList kz) (hlen:kz.length=vs.length) (h64:vs.length<64)
  (h:∀h' tk out c,L2.Inv X pins σ H {s with heap:=h',toks:=tk}->h'.get? a=some (seqObj "list" out c)->KskOut false kz vs out.toList->P (.done (.ret .none)) {s with heap:=h',toks:=tk}) :
  wpAny (model X.prog X.w) A (ksk_end a false vs.toArray e1 (.ref kS) keys) P E s:=by
 obtain⟨m,F⟩:=I.fr
 have hb0:∀b,X.s₀.heap.objs.size<=b->X.base.get? b=none:=fun b hb=>Heap.get?_none_of_le (Nat.le_trans I.ok.bsz hb)
 refine ksk_end_ (e:=e) (news:=(zH s.heap).filter fun p=>decide (p.1≠X.env.locals/\p.1≠a/\p.1≠kS)&&(X.base.get? p.1).isNone) F (fun p hp=>?_) hka (fun p hp=>?_) (fun p hp=>?_) hk hlen h64 fun h' tk out c F' N' ko=>?_
 ·rcases List.mem_append.mp hp with hp | hp
  ·obtain⟨h1,h2⟩:=List.mem_filter.mp hp
   rw[Bool.and_eq_true] at h2
   exact⟨uI.mp h1,(of_decide_eq_true h2.1).1,Option.isNone_iff_eq_none.mp h2.2⟩
  ·rcases List.mem_cons.mp hp with rfl | hp
   ·exact⟨nk,mk.nL,hb0 _ mk.up⟩
   ·rw[List.mem_singleton.mp hp];exact⟨na,ma.nL,hb0 _ ma.up⟩
 ·obtain⟨_,h2⟩:=List.mem_filter.mp hp
  rw[Bool.and_eq_true] at h2
  exact(of_decide_eq_true h2.1).2.2
 ·obtain⟨_,h2⟩:=List.mem_filter.mp hp
  rw[Bool.and_eq_true] at h2
  exact(of_decide_eq_true h2.1).2.1
 ·have keep:∀b o,b≠X.env.locals->b≠a->b≠kS->s.heap.get? b=some o->h'.get? b=some o:=fun b o n1 n2 n3 eo=>by
   cases hb:X.base.get? b with
   | some o' =>
    have:=I.bk b o' hb
    rw[this] at eo;cases eo
    exact F'.keep b _ hb
   | none=>exact(N' (b,o) (List.mem_cons_of_mem _ (List.mem_filter.mpr ⟨uI.mpr eo,by rw[Bool.and_eq_true];exact⟨decide_eq_true ⟨n1,n2,n3⟩,by rw[hb];rfl⟩⟩))).1
  have ha':=(N' (a,seqObj "list" out c) List.mem_cons_self).1
  refine h h' tk out c ?_ ha' ko
  have nin:∀b,b ∉ [a,kS]->b≠a/\b≠kS:=fun b hb=>⟨fun z=>hb (by simp[z]),fun z=>hb (by simp[z])⟩
  have Dq:∀b u,H b=some u->b≠X.env.locals/\b≠a/\b≠kS:=fun b u eu=>⟨(fun z=>by rw[z,I.free] at eu;cases eu),(fun z=>by rw[z,ma.nH] at eu;cases eu),(fun z=>by rw[z,mk.nH] at eu;cases eu)⟩
  refine I.step (g':=s.gens) (d':=s.drawn) (ch:=[a,kS]) (fun b hb=>?_) (fun b o n1 _ hc eo _=>keep b o n1 (nin b hc).1 (nin b hc).2 eo) (fun b o n1 _ hc eo _=>⟨o.slots,keep b o n1 (nin b hc).1 (nin b hc).2 eo⟩) (fun _ _ _ _ n=>n)
   (fun b o hc eo=>?_) (fun _ _ q=>q) (fun _ _ _ _ q=>q) (fun _ _ _ q=>q) (fun m' hm=>?_) (fun b u eu=>?_) I.bare
  ·rcases List.mem_cons.mp hb with rfl | hb
   ·exact⟨.inr ma.up,ma.nL,ma.nc,ma.np⟩
   ·rw[List.mem_singleton.mp hb];exact⟨.inr mk.up,mk.nL,mk.nc,mk.np⟩
  ·by_cases hL:b=X.env.locals
   ·obtain⟨o',_,_,ho',_⟩:=F'.ns
    rw[hL];exact⟨o',ho'⟩
   ·exact⟨o,keep b o hL (nin b hc).1 (nin b hc).2 eo⟩
  ·rw[hm.eq_nsMap,<- F.ns.eq_nsMap];exact F'.ns
  ·refine(I.hok b u eu).stay (fun c v hc q=>?_) (fun _ q=>q) (fun _ _ q=>q) fun _ _ _ q=>q
   rcases hc with z | z
   ·rw[z] at q ⊢
    obtain⟨n1,n2,n3⟩:=Dq b u eu
    exact keep b v n1 n2 n3 q
   ·obtain⟨n1,n2,n3⟩:=Dq c _ z
    exact keep c v n1 n2 n3 q
theorem n_.of_pin{b:Addr}{pl:List (Addr×Obj)}{H':Hp}{o:Obj}(m:n_ X pins H b)(I:L2.Inv X (pins++pl) σ H' s)(hp:(b,o)∈pl):n_ X pins H' b:=by
 obtain⟨_,n,nl,_,_⟩:=I.pin (b,o) (List.mem_append_right _ (List.mem_append_right _ hp))
 exact⟨nl,n,m.up,m.nc,m.np⟩
theorem oG(c:String)(xs:Array Value)(n:Nat):∀v,(seqObj c xs n).data≠.cell v:=fun v z=>by cases z
theorem n_.nofs{b:Addr}(m:n_ X pins H b)(I:L2.Inv X pins σ H s):b∉X.fs:=fun z=>by
 obtain⟨_,o,ho,_⟩:=I.ok.funs.mem z
 exact absurd (Heap.lt_size ho) (Nat.not_lt.mpr m.up)
theorem AI{f a kS:Addr}{vs:List Value}{kz:List Int}{e1:Nat}{P:PySem.Fin->Shared->Prop}
  (I:L2.Inv X pins σ H s) (nk:s.heap.get? kS=some (seqObj "list" #[] 0)) (na:s.heap.get? a=some (seqObj "list" #[] e1)) (hka:kS≠a) (mk:n_ X pins H kS) (ma:n_ X pins H a) (hlen:kz.length=vs.length) (h64:vs.length<64)
  (turn:∀(i:Nat) (v:Value) (k:Int) (pins':List (Addr×Obj)) (H1:Hp) (s1:Shared),vs[i]?=some v->kz[i]?=some k->ku H H1->L2.Inv X pins' σ H1 s1->wpAny (model X.prog X.w) A (call (.ref f) [v]) (EP X pins' σ fun w H2=>ku H1 H2/\w=.int k) (fun _ _=>False) s1)
  (h:∀(H1:Hp) (s1:Shared) h' tk out c,ku H H1->n_ X pins H1 a->L2.Inv X pins σ H1 {s1 with heap:=h',toks:=tk}->h'.get? a=some (seqObj "list" out c)->KskOut false kz vs out.toList->P (.done (.ret .none)) {s1 with heap:=h',toks:=tk}) :
  wpAny (model X.prog X.w) A (ksk_rest a (.ref f) false vs.toArray e1 (.ref kS)) P E s:=by
 unfold ksk_rest
 refine wpAny_bind (wpAny_rule ?_)
 first
  | rw[List.forIn_toArray]
  | (rw[<- Array.forIn_toList];simp only[List.toList_toArray])
  | rw[<- Array.forIn_toList]
 refine wpAny_bind (ksk_fold (fun i s'=>∃H' kA e,ku H H'/\L2.Inv X (pins++[(kS,seqObj "list" kA e),(a,seqObj "list" #[] e1)]) σ H' s'/\IntsAre kA.toList (kz.take i)) vs 0 s ⟨H,#[],0,ku.refl _,?init,by simpa using IntsAre.nil⟩ ?step ?done)
 case init =>
  refine I.pins_of fun p hp=>?_
  rcases List.mem_append.mp hp with hp | hp
  ·exact I.pin p (List.mem_append_right _ hp)
  ·rcases List.mem_cons.mp hp with rfl | hp
   ·exact⟨nk,mk.nH,mk.nL,mk.nofs I,oG _ _ _⟩
   ·rw[List.mem_singleton.mp hp];exact⟨na,ma.nH,ma.nL,ma.nofs I,oG _ _ _⟩
 case step =>
  rintro j x s' hx ⟨H',kA,e,hs',I',hk⟩
  simp only[Nat.zero_add] at hk ⊢
  have hj:j<vs.length:=(List.getElem?_eq_some_iff.mp hx).1
  obtain⟨k,hkj⟩:∃k,kz[j]?=some k:=⟨_,List.getElem?_eq_getElem (by omega)⟩
  have hz:kA.size<=vs.length:=by
   have h1:=hk.length
   rw[Array.length_toList,List.length_take] at h1
   omega
  refine wpAny_bind (wpAny_attempt (wpAny_mono (turn j x k _ H' s' hx hkj hs' I') (fun u s2 he=>?_) fun _ _ hF=>hF.elim))
  obtain⟨v,H2,I2,rv,s12,rfl⟩:=he
  obtain⟨t2,rfl⟩:=rv
  try dsimp only
  have pk:=I2.pin (kS,seqObj "list" kA e) (List.mem_append_right _ (List.mem_append_right _ (.head _)))
  have pa:=I2.pin (a,seqObj "list" #[] e1) (List.mem_append_right _ (List.mem_append_right _ (.tail _ (.head _))))
  have mk2:=mk.of_pin I2 (.head _)
  have ma2:=ma.of_pin I2 (.tail _ (.head _))
  have s1:=Heap.SameBut.update s2.heap kS (Obj.mapSeq (·.push (.int k t2)))
  obtain⟨c2,hc2⟩:∃c2,(s2.heap.update kS (Obj.mapSeq (·.push (.int k t2)))).get? kS=some (seqObj "list" (kA.push (.int k t2)) c2):=⟨_,get?_update_seq pk.1 (·.push (.int k t2))⟩
  have ek:kz.take (j+1)=kz.take j++[k]:=by rw[List.take_add_one,hkj];simp
  have ea:(kA.push (Value.int k t2)).toList=kA.toList++[Value.int k t2]:=by simp
  refine wpAny_bind (listUpdate_at pk.1 rfl ?_ (by rw[sizeLine_eq];omega) (Nat.le_trans (Nat.le_of_eq (Array.size_push ..)) (by rw[sizeLine_eq];omega)))
  have I3:L2.Inv X pins σ H2 {s2 with heap:=s2.heap.update kS (Obj.mapSeq (·.push (.int k t2))),toks:=s2.toks}:=(I2.unpinned).turned (it:=kS) (fun b o hb eo=>(s1.2 b hb).trans eo) mk2.nH mk2.nL (.inr mk2.up) mk2.nc mk2.np
  refine wpAny_pure ⟨rfl,H2,kA.push (.int k t2),c2,hs'.trans s12,I3.pins_of fun p hp=>?_,by rw[ea,ek];exact ksk_snoc hk⟩
  rcases List.mem_append.mp hp with hp | hp
  ·exact I3.pin p (List.mem_append_right _ hp)
  ·rcases List.mem_cons.mp hp with rfl | hp
   ·exact⟨hc2,mk2.nH,mk2.nL,mk2.nofs I3,oG _ _ _⟩
   ·rw[List.mem_singleton.mp hp]
    exact⟨(s1.2 a hka.symm).trans pa.1,ma2.nH,ma2.nL,ma2.nofs I3,oG _ _ _⟩
 case done =>
  rintro s' ⟨H',kA,e,hs',I',hk⟩
  have hk':IntsAre kA.toList kz:=by
   have e3:kz.take (0+vs.length)=kz:=List.take_of_length_le (by omega)
   rw[e3] at hk
   exact hk
  have pk:=I'.pin (kS,seqObj "list" kA e) (List.mem_append_right _ (List.mem_append_right _ (.head _)))
  have pa:=I'.pin (a,seqObj "list" #[] e1) (List.mem_append_right _ (List.mem_append_right _ (.tail _ (.head _))))
  try dsimp only
  refine wpAny_bind (listItems_at pk.1 rfl ?_)
  exact Bq (I'.unpinned) pk.1 pa.1 hka (mk.of_pin I' (.head _)) (ma.of_pin I' (.tail _ (.head _))) hk' hlen h64 fun h' tk out c I4 ha4 ko=>h H' s' h' tk out c hs' (ma.of_pin I' (.tail _ (.head _))) I4 ha4 ko
theorem Ai{f a:Addr}{vs:List Value}{kz:List Int}{n:Nat}{P:PySem.Fin->Shared->Prop}
  (I:L2.Inv X pins σ H s) (ho:s.heap.get? a=some (seqObj "list" vs.toArray n)) (ma:n_ X pins H a) (hlen:kz.length=vs.length) (h64:vs.length<64)
  (turn:∀(i:Nat) (v:Value) (k:Int) (pins':List (Addr×Obj)) (H1:Hp) (s1:Shared),vs[i]?=some v->kz[i]?=some k->ku H H1->L2.Inv X pins' σ H1 s1->wpAny (model X.prog X.w) A (call (.ref f) [v]) (EP X pins' σ fun w H2=>ku H1 H2/\w=.int k) (fun _ _=>False) s1)
  (h:∀(H1:Hp) (s1:Shared) h' tk out c,ku H H1->n_ X pins H1 a->L2.Inv X pins σ H1 {s1 with heap:=h',toks:=tk}->h'.get? a=some (seqObj "list" out c)->KskOut false kz vs out.toList->P (.done (.ret .none)) {s1 with heap:=h',toks:=tk}) :
  wpAny (model X.prog X.w) A (ksk_tree a (.ref f) false) P E s:=by
 have ha:a<s.heap.objs.size:=Heap.lt_size ho
 have s1:=Heap.SameBut.update s.heap a (Obj.mapSeq fun _=>(#[]:Array Value))
 obtain⟨e1,ho1⟩:∃e1,(s.heap.update a (Obj.mapSeq fun _=>(#[]:Array Value))).get? a=some (seqObj "list" #[] e1):=⟨_,get?_update_seq ho fun _=>#[]⟩
 have I1:L2.Inv X pins σ H {s with heap:=s.heap.update a (Obj.mapSeq fun _=>(#[]:Array Value)),toks:=s.toks}:=I.turned (it:=a) (fun b o hb eo=>(s1.2 b hb).trans eo) ma.nH ma.nL (.inr ma.up) ma.nc ma.np
 generalize hh1:s.heap.update a (Obj.mapSeq fun _=>(#[]:Array Value))=h1 at *
 have hsz1:h1.objs.size=s.heap.objs.size:=by rw[<- hh1,Heap.size_update]
 have I2:L2.Inv X pins σ H {s with heap:=h1.push (seqObj "tuple" vs.toArray 0),toks:=s.toks}:=I1.kept fun b u q=>Heap.get?_push_of_some _ q
 have I3:L2.Inv X pins σ H {s with heap:=(h1.push (seqObj "tuple" vs.toArray 0)).push (seqObj "list" #[] 0),toks:=s.toks}:=I2.kept fun b u q=>Heap.get?_push_of_some _ q
 have hkS:(h1.push (seqObj "tuple" vs.toArray 0)).objs.size=s.heap.objs.size+1:=by rw[size_push',hsz1]
 have mk:n_ X pins H (h1.push (seqObj "tuple" vs.toArray 0)).objs.size:=by
  rw[hkS]
  refine⟨fun z=>?_,I.hok.fresh (Nat.le_succ _),Nat.le_succ_of_le I.sz,fun x c ec z=>?_,fun p hp z=>?_⟩
  ·have:=I.lt;rw[<- z] at this;exact absurd this (Nat.not_lt.mpr (Nat.le_succ _))
  ·obtain⟨v,o,ho',_⟩:=I.cell x c ec
   have:=Heap.lt_size ho';rw[z] at this;exact absurd this (Nat.not_lt.mpr (Nat.le_succ _))
  ·have:=Heap.lt_size (I.pin p hp).1;rw[z] at this;exact absurd this (Nat.not_lt.mpr (Nat.le_succ _))
 unfold ksk_tree
 refine wpAny_bind (listItems_at ho rfl ?_)
 refine wpAny_bind (listUpdate_at ho rfl ?_ (by rw[List.size_toArray,sizeLine_eq];omega) (Nat.zero_le _))
 rw[hh1]
 refine wpAny_bind (seqEpoch_at ho1 rfl ?_)
 refine wpAny_bind (wpAny_newTuple ?_ (by show vs.length<=_;rw[sizeLine_eq];omega))
 refine wpAny_bind (wpAny_newList ?_ (Nat.zero_le _))
 refine wpAny_holding ?_
 exact AI (s:={s with heap:=(h1.push (seqObj "tuple" vs.toArray 0)).push (seqObj "list" #[] 0)}) I3 (Heap.get?_push_size _ rfl) (Heap.get?_push_of_some _ (Heap.get?_push_of_some _ ho1)) (by rw[hkS];exact Nat.ne_of_gt (Nat.lt_succ_of_lt ha)) mk ma hlen h64 turn h
end
theorem t_ {prog:Program} {w:World} {A:Around} {E:Value->Shared->Prop} {s:Shared} {r:Addr} {a b c:Int} {t u v:Tok} {n:Nat} {R:List Value->Shared->Prop} (hh:A.handled=none) (hr:IsRange s.heap r a b c t u v) (hsmall:Builtin.Range.small a b c=true) (hn:Builtin.Range.rangeSize a b c=n) (hlen:n<=2 ^ 24)
    (h:∀(h':Heap) (tk:Nat) (acc:Array Value),(∀b o,s.heap.get? b=some o->h'.get? b=some o)->s.heap.objs.size<=h'.objs.size->ItemsOf (fun i v=>∃t,v=.int (a+i*c) t) acc n->R acc.toList {s with heap:=h',toks:=tk}) :
    wpAny (model prog w) A (collect (.ref r)) R E s:=by
  unfold collect
  refine wpAny_bind (wpAny_runValue (codeAny_builtin entry_proto_collect' ?_))
  rw[Around.under_plainId PySem.F.plain_proto_collect _]
  show wpAny _ A.in1 (newList [] >>= fun l=>again (.builtin "list.__iadd__" ⟨[l,.ref r],[]⟩)) _ _ s
  refine wpAny_bind (wpAny_newObj_type ?_)
  refine wpAny_pure ⟨plainId_quiet PySem.F.plain_list_iadd _,codeAny_builtin entry_list_iadd' ?_⟩
  rw[Around.under_plainId PySem.F.plain_list_iadd _]
  have hS:(s.heap.push {cls:=.type "list",data:=.seq ([]:List Value).toArray}).get? s.heap.objs.size=some {cls:=.type "list",data:=.seq #[]}:=Heap.get?_push_size _ rfl
  show wpAny _ A.in1 (Builtin.List.listExtendWith (.ref s.heap.objs.size) (.ref r) (.ref s.heap.objs.size)) _ _ _
  have key:=wpAny_extend_range (prog:=prog) (w:=w) (A:=A) (s:={s with heap:=s.heap.push {cls:=.type "list",data:=.seq ([]:List Value).toArray} })
    (R:=fun (q:Result) (s':Shared)=>∃(h':Heap) (tk:Nat) (acc:Array Value) (c₁:Nat),q=.ok (.ret (.ref s.heap.objs.size))/\s'={s with heap:=h',toks:=tk} /\
      (∀b o,s.heap.get? b=some o->h'.get? b=some o)/\h'.get? s.heap.objs.size=some {cls:=.type "list",dict:=none,data:=.seq acc c₁,slots:=#[]}/\ItemsOf (fun i v=>∃t,v=.int (a+i*c) t) acc n)
    hh (Heap.get?_push_of_some _ hr) hsmall hn hlen s.heap.objs.size (.ref s.heap.objs.size) 0 hS
    (fun h' tk acc c hk hS' hacc=>⟨h',tk,acc,c,rfl,rfl,fun b o e=>hk b o (Nat.ne_of_lt (Heap.lt_size e)) (Heap.get?_push_of_some _ e),hS',hacc⟩)
  refine wpAny_mono key (fun fin s' x=>?_) fun e s' x=>?_
  · cases fin with
    | done f =>
      obtain⟨h',tk,acc,c,e,rfl,hk,hS',hacc⟩:=x
      cases e
      show wpAny _ A (load s.heap.objs.size >>= _) _ _ _
      exact wpAny_bind (wpAny_load hS' (wpAny_pure (h h' tk acc hk (Nat.le_of_lt (Heap.lt_size hS')) hacc)))
    | again c₁ =>
      refine⟨x.1,codeAny_mono x.2 fun q s₂ y=>?_⟩
      obtain⟨h',tk,acc,c,rfl,rfl,hk,hS',hacc⟩:=y
      show wpAny _ A (load s.heap.objs.size >>= _) _ _ _
      exact wpAny_bind (wpAny_load hS' (wpAny_pure (h h' tk acc hk (Nat.le_of_lt (Heap.lt_size hS')) hacc)))
  · obtain⟨_,_,_,_,e',_⟩:=x
    cases e'
theorem gE{l l':List Value}(p:l.Perm l'):∀{L:List Int},IntsAre l L->∃ns:List Int,L.Perm ns/\IntsAre l' ns:=by
 induction p with
 | nil=>intro L h;cases h;exact⟨[],.refl _,.nil⟩
 | cons x _ ih =>
  intro L h
  cases h with
  | cons n t h =>
   obtain⟨ns,p,q⟩:=ih h
   exact⟨n::ns,p.cons n,.cons n t q⟩
 | swap x y l =>
  intro L h
  cases h with
  | cons n t h =>
   cases h with
   | cons m u h=>exact⟨_,.swap _ _ _,.cons m u (.cons n t h)⟩
 | trans _ _ ih1 ih2 =>
  intro L h
  obtain⟨ns,p,q⟩:=ih1 h
  obtain⟨ms,p2,q2⟩:=ih2 q
  exact⟨ms,p.trans p2,q2⟩
section
variable{X:Cx}{pins:List (Addr×Obj)}{σ:L2.St}{H:Hp}{s:Shared}{E:Value->Shared->Prop}
theorem n_.fresh(I:L2.Inv X pins σ H s){b:Addr}(hb:s.heap.objs.size<=b):n_ X pins H b:=by
 refine⟨fun z=>?_,I.hok.fresh hb,Nat.le_trans I.sz hb,fun x c ec z=>?_,fun p hp z=>?_⟩
 ·have:=I.lt;rw[<- z] at this;exact absurd this (Nat.not_lt.mpr hb)
 ·obtain⟨v,o,ho',_⟩:=I.cell x c ec
  have:=Heap.lt_size ho';rw[z] at this;exact absurd this (Nat.not_lt.mpr hb)
 ·have:=Heap.lt_size (I.pin p hp).1;rw[z] at this;exact absurd this (Nat.not_lt.mpr hb)
theorem Inv.adopt{a:Addr}{o:HO}(I:L2.Inv X pins σ H s)(m:n_ X pins H a)(new:lF X.prog X.w (upd H a o) s.heap a o):L2.Inv X pins σ (upd H a o) s:=by
 have ne:∀b u,H b=some u->b≠a:=fun b u e z=>by rw[z,m.nH] at e;cases e
 have kp:∀b u,H b=some u->upd H a o b=some u:=fun b u e=>by rw[aj (ne b u e)];exact e
 have nin:∀b,b ∉ [a]->b≠a:=fun b hb z=>hb (by simp[z])
 have:=I.step (h':=s.heap) (t':=s.toks) (g':=s.gens) (d':=s.drawn) (ch:=[a]) (H':=upd H a o) (fun b hb=>by rw[List.mem_singleton.mp hb];exact⟨.inr m.up,m.nL,m.nc,m.np⟩) (fun b o _ _ _ eo _=>eo) (fun b o _ _ _ eo _=>⟨o.slots,eo⟩) (fun b o' hc _ n=>by rw[aj (nin b hc)];exact n)
  (fun b o _ eo=>⟨o,eo⟩) (fun b xs q=>kp b _ q) (fun b o u _ q=>kp b _ q) (fun b q c e=>kp b _ e) (fun m' hm=>hm) (fun b u eu=>?_) I.bare
 ·exact this
 ·by_cases hb:b=a
  ·subst hb
   rw[ai] at eu
   cases eu
   exact new
  ·rw[aj hb] at eu
   exact(I.hok b u eu).stay (fun _ _ _ g=>g) (fun c g=>kp c _ g) (fun c xs g=>kp c _ g) fun c x d g=>kp c _ g
theorem xG{r f:Addr}{i j:Int}{t u v:Tok}{n:Nat}{kz:List Int}{Q:Value->Shared->Prop}(hh:X.A.handled=none)(I:L2.Inv X pins σ H s)(hr:IsRange s.heap r i j 1 t u v)(hsmall:Builtin.Range.small i j 1=true)(hn:Builtin.Range.rangeSize i j 1=n)(hlen:kz.length=n)(h64:n<64)
  (turn:∀(m:Nat) (tk:Tok) (k:Int) (pins':List (Addr×Obj)) (H1:Hp) (s1:Shared),m<n->kz[m]?=some k->ku H H1->L2.Inv X pins' σ H1 s1->wpAny (model X.prog X.w) X.A.in1.in1 (call (.ref f) [.int (i+m*1) tk]) (EP X pins' σ fun w H2=>ku H1 H2/\w=.int k) (fun _ _=>False) s1)
  (h:∀(H1:Hp) (a:Addr) (s1:Shared) (ns:List Int),ku H H1->ns.Perm ((List.range n).map fun m:Nat=>i+(m:Int)*1)->L2.Inv X pins σ (upd H1 a (.lst (ns.map V.int))) s1->H1 a=none->Q (.ref a) s1) :
  wpAny (model X.prog X.w) X.A (call (.builtin "sorted") [.ref r] [(oS "key",.ref f)]) Q E s:=by
 refine call_function_entry_kw kind_sorted plain_sorted entry_sorted (ksk_s1 _ _) ?_
 unfold Builtin.«sorted»
 refine wpAny_bind (m:=checkCount "sorted" 1 1 _) (wpAny_pure ?_)
 refine wpAny_bind (t_ (A:=X.A.in1) hh hr hsmall hn (by omega) fun h1 tk acc hk1 hsz hacc=>?_)
 have hal:acc.toList.length=n:=by rw[Array.length_toList,hacc.1]
 refine wpAny_bind (wpAny_newList ?_ (by rw[hal,sizeLine_eq];omega))
 have hoL:(h1.push (seqObj "list" acc.toList.toArray 0)).get? h1.objs.size=some (seqObj "list" acc.toList.toArray 0):=Heap.get?_push_size _ rfl
 have I1:L2.Inv X pins σ H {s with heap:=h1.push (seqObj "list" acc.toList.toArray 0),toks:=tk}:=I.kept fun b o q=>Heap.get?_push_of_some _ (hk1 b o q)
 have ma:n_ X pins H h1.objs.size:=n_.fresh I hsz
 refine wpAny_bind (wpAny_holding (wpAny_call_entry_kw slot_list_sort ⟨_,hoL,rfl⟩ entry_list_sort ?body (ksk_l1 _ _)))
 case body =>
  show wpAny (model X.prog X.w) X.A.in1.in1 (Builtin.«list.sort» ⟨[.ref h1.objs.size],[(oS "key",.ref f)]⟩) _ _ _
  rw[ksk_t1]
  refine Ai (s:={s with heap:=h1.push (seqObj "list" acc.toList.toArray 0),toks:=tk}) (kz:=kz) I1 hoL ma (by rw[hal];exact hlen) (by rw[hal];exact h64) (fun m x k pins' H1 s1 hx hk hs I'=>?_) fun H1 s1 h' tk' out c hs ma' I' ha' ko=>⟨_,rfl,wpAny_pure ⟨_,rfl,?_⟩⟩
  ·obtain⟨t',e⟩:=hacc.2 m x (by rw[<- Array.getElem?_toList];exact hx)
   have hm:m<n:=by have:=(List.getElem?_eq_some_iff.mp hx).1;omega
   rw[e]
   exact turn m t' k pins' H1 s1 hm hk hs I'
  ·obtain⟨ps,hp,ho,_⟩:=ko
   have hI:IntsAre acc.toList ((List.range n).map fun m:Nat=>i+(m:Int)*1):=by
    refine ge _ _ (by rw[hal,List.length_map,List.length_range]) fun m x hx=>?_
    have hm:m<n:=by have:=(List.getElem?_eq_some_iff.mp hx).1;omega
    obtain⟨t',e⟩:=hacc.2 m x (by rw[<- Array.getElem?_toList];exact hx)
    refine⟨t',e.trans ?_⟩
    simp[List.getD_eq_getElem?_getD,List.getElem?_map,List.getElem?_range hm]
   have hz:(kz.zip acc.toList).map Prod.snd=acc.toList:=List.map_snd_zip (by rw[hal];omega)
   have hp2:acc.toList.Perm out.toList:=by
    rw[ho,<- hz]
    exact(hp.map Prod.snd).symm
   obtain⟨ns,hns,hio⟩:=gE hp2 hI
   have hnl:ns.length=n:=by rw[<- hns.length_eq];simp
   obtain⟨v1,v2⟩:=bS (K:=X.K) (H:=upd H1 h1.objs.size (.lst (ns.map V.int))) hio
   exact h H1 h1.objs.size _ ns hs hns.symm (Inv.adopt I' ma' ⟨by rw[List.length_map,sizeLine_eq];omega,out.toList,c,v1,by rw[ha']⟩) ma'.nH
end
section
variable{X:Cx}{pins:List (Addr×Obj)}{σ:L2.St}{H:Hp}{s:Shared}
theorem zV{A:Around}{E:Value->Shared->Prop}(hfr:A.frames=X.A.frames){k:Nat}{f:Addr}{fd:FuncData}{ps:List Str}{sp:Sp}{cl:List (Str×Addr)}{us:List Value}{vs:List V}{Q:VK}(F:kT X.prog X.w X.K X.mg X.base mi k f fd ps sp)(hr:lb k A)(hb:Binds X.K fd ps [])(hfn:∀x,X.fn x=true)(hcl:∀b,lX cl b=true->∃x,X.env.cells.lookup x=some b)
  (I:L2.Inv X pins σ H s) (r:kM vs us) (h:sp vs (mE cl s.heap H) (fun v H'=>Q v (m6 cl H')) E0):wpAny (model X.prog X.w) A (call (.ref f) us) (EP X pins σ Q) E s:=by
 have cellO:∀{b:Addr},lX cl b=true->∃o v,s.heap.get? b=some o/\o.data=.cell v/\H b=none/\X.s₀.heap.objs.size<=b:=fun {b} hb=>by
  obtain⟨x,hx⟩:=hcl b hb
  obtain⟨v,o,e,d⟩:=I.cell x b hx
  exact⟨o,v,e,d,I.freeC x b hx,I.ok.cab x b (hfn x) hx⟩
 have nC:∀{b:Addr} {u:HO},H b=some u->lX cl b=false:=fun {b u} e=>by
  cases q:lX cl b with
  | false=>rfl
  | true=>obtain⟨_,_,_,_,z,_⟩:=cellO q;rw[e] at z;cases z
 have tk:∀{b:Addr} {u:HO},H b=some u->mE cl s.heap H b=some u:=fun e=>by rw[lq (nC e)];exact e
 have hok:pL X.prog X.w (mE cl s.heap H) s.heap:=fun b u e=>by
  cases q:lX cl b with
  | true =>
   obtain⟨o,_,g,_⟩:=cellO q
   rw[oh q g] at e
   cases e
   exact⟨g,trivial,⟨_,g⟩,fun _ _ _ _=>trivial⟩
  | false =>
   rw[lq q] at e
   exact(I.hok b u e).stay (fun _ _ _ g=>g) (fun c g=>tk g) (fun c xs g=>tk g) fun c a d g=>tk g
 have low:∀{b:Addr},b<X.s₀.heap.objs.size->lX cl b=false:=fun {b} hb=>by
  cases q:lX cl b with
  | false=>rfl
  | true=>obtain⟨_,_,_,_,_,z⟩:=cellO q;exact absurd (Nat.lt_of_lt_of_le hb z) (Nat.lt_irrefl _)
 have e0:qJ X.prog X.w X.K X.mg X.base A X.stack s (mE cl s.heap H):=by
  have z:=I.env0
  refine⟨hfr.trans z.frames,z.mod,fun b o e=>⟨(z.bs b o e).1,?_⟩,z.bsz,z.funs,fun b hb=>?_,hok,z.bare⟩
  ·rw[lq (low (Nat.lt_of_lt_of_le (Heap.lt_size e) I.ok.bsz))];exact(z.bs b o e).2
  ·have n:=z.frf b hb
   cases q:lX cl b with
   | false=>rw[lq q];exact n
   | true =>
    obtain⟨x,hx⟩:=hcl b q
    rcases List.mem_cons.mp (I.stkSub b hb) with m | m
    ·exact absurd m (I.cne x b hx)
    ·obtain⟨_,o,ho,_⟩:=I.ok.funs.mem m
     rw[low (Heap.lt_size ho)] at q;cases q
 have hl:us.length=ps.length:=by rw[<- r.length];exact F.len _ _ _ _ h
 refine wpAny_call (codeAny_mono (F.run A X.stack s (mE cl s.heap H) ⟨us,[]⟩ us vs _ E0 hr e0 (by have:=hb s us I.kIn (by simpa using hl);simpa using this) r h) fun rr s' hq=>?_)
 cases rr with
 | error e=>exact False.elim hq
 | ok fl =>
  cases fl with
  | next=>exact False.elim hq
  | brk=>exact False.elim hq
  | cont=>exact False.elim hq
  | ret u =>
   obtain⟨v,H',os,bare,un,hok',rv,q⟩:=hq
   obtain⟨hh,g,d,tt,os'⟩:=s'
   obtain rfl:os'=s.os:=os
   have ck:∀{b:Addr},lX cl b=true->∃o,s.heap.get? b=some o/\H' b=some (oH o)/\hh.get? b=some o:=fun {b} hb=>by
    obtain⟨o,_,e,_⟩:=cellO hb
    have z:=un.frzs b o _ (fun y w=>by cases w) (oh hb e)
    exact⟨o,e,z,(hok' b _ z).1⟩
   have bk:∀{b:Addr} {u:HO},H' b=some u->(∀o,u≠oH o)->m6 cl H' b=some u:=fun {b u} e n=>by
    cases qq:lX cl b with
    | false=>rw[mf qq];exact e
    | true=>obtain⟨o,_,z,_⟩:=ck qq;rw[e] at z;cases z;exact absurd rfl (n o)
   refine⟨v,m6 cl H',I.call (h':=hh) (g':=g) (d':=d) (t':=tt) (ch:=[]) ⟨fun b o e n hf hx=>?_,fun b o e n hf hx=>?_,fun b o e n hx=>?_,fun b o e hx=>un.there b o e hx,fun b xs e=>bk (un.tups b xs (tk e)) (fun o z=>by cases z),fun b o u ny e=>?_,fun b a d' e=>bk (un.tbls b a d' (tk e)) (fun o z=>by cases z)⟩ (fun b u e=>?_) bare (fun b z=>absurd z (by simp)),rv,q⟩
   ·cases qq:lX cl b with
    | true=>obtain⟨o',e1,_,e2⟩:=ck qq;rw[e] at e1;cases e1;exact e2
    | false=>exact un.keep b o e (by rw[lq qq];exact n) hf hx
   ·cases qq:lX cl b with
    | true=>obtain⟨o',e1,_,e2⟩:=ck qq;rw[e] at e1;cases e1;exact⟨o.slots,e2⟩
    | false=>exact un.slot b o e (by rw[lq qq];exact n) hf hx
   ·cases qq:lX cl b with
    | true=>exact rV qq
    | false=>rw[mf qq];exact un.free b o e (by rw[lq qq];exact n) hx
   ·rw[mf (nC e)];exact un.frzs b o u ny (tk e)
   ·cases qq:lX cl b with
    | true=>rw[rV qq] at e;cases e
    | false =>
     rw[mf qq] at e
     exact(hok' b u e).stay (fun _ _ _ g=>g) (fun c g=>bk g fun o z=>by cases z) (fun c xs g=>bk g fun o z=>by cases z) fun c a d g=>bk g fun o z=>by cases z
end
end HW
namespace HW
open PySem
def KeysAre(G:LD->OD)(cs:LD)(i:Int)(n:Nat)(kz:List Int):Prop:=kz.length=n/\∀m,m<n->∃k:Int,kz[m]?=some k/\G ([.int (i+(m:Int)*1)]++cs)=some (.int k)
def Cj(u1:R->Option Out)(i:Nat)(g:R->Option Out)(p:List Int):R->Option Out:=fun ρ=>match u1 ρ with
 | some (.nx ρ1)=>if i<ρ1.length then g (ρ1.set i (some (.lst (.int 0::p.map .int)))) else none
 | _=>none
def EI(u1:R->Option Out)(f h:R->OD)(C:R->Option LD)(G:LD->OD)(ρ:R)(p:List Int):Prop:=∃ ρ1 i j n cs kz,u1 ρ=some (.nx ρ1)/\f ρ1=some (.int i)/\h ρ1=some (.int j)/\C ρ1=some cs/\lE cs=true/\rJ i j 1=n/\n<64/\(-(2 ^ 60)<=i/\i<2 ^ 60 /\ -(2 ^ 60)<=j/\j<2 ^ 60)/\KeysAre G cs i n kz/\p.Perm ((List.range n).map fun m:Nat=>i+(m:Int)*1)
end HW
namespace HW
open PySem PySem.Spec PyProof.Rows L2
theorem AS{K:W.Frag}{H:Hp}:∀ns:List Int,i9 K H (ns.map D.int) (ns.map V.int)
 | []=>rfl
 | n::ns=>⟨_,_,rfl,rfl,AS ns⟩
section
variable{X:Cx}{pins:List (Addr×Obj)}{σ:L2.St}{H:Hp}{s:Shared}{t:mS}{cl:List (Str×Addr)}{ct:kR}{js:List Nat}{k:Nat}{G:LD->OD}
theorem gH{A:Around}{E:Value->Shared->Prop}{f c':Addr}{pm ctv:Value}{ρ:R}{cs:LD}{x:D}{xv:V}{u:Value}{d:D}{Q:VK}(hfr:A.frames=X.A.frames)(hr:lb k A)(o:pZ X t cl ct js)(lo:nJ X.prog X.w X.K X.mg X.base k t G)(I:L2.Inv X pins σ H s)
  (h1:H f=some (oH (W.kla_obj "<lambda>" t.q t.params t.body t.scope cl pm c' ctv))) (h2:H c'=some (.tbl t.q true)) (er:lW X.K H ρ σ) (eC:ni js ρ=some cs) (nc:lE cs=true) (nx:mV x=true) (rx:Rep X.K H x xv) (rv:RelV xv u) (h1p:t.ps.length=1) (hG:G ([x]++cs)=some d) (nd:mV d=true)
  (q:∀v H',ku H H'->Rep X.K H' d v->Q v H'):wpAny (model X.prog X.w) A (call (.ref f) [u]) (EP X pins σ Q) E s:=by
 refine zV (cl:=cl) hfr (lo.ok f c' cl pm ctv o.sc) hr (lo.bd c' cl pm ctv) o.own.fn o.own.lk I (.cons rv .nil) ?_
 have tr:=wy o.own I
 generalize mE cl s.heap H=H2 at tr ⊢
 have s12:ku H H2:=fun b u hb=>by
  cases qc:lX cl b with
  | false=>rw[tr.out b qc];exact hb
  | true=>rw[(tr.cel b qc).1] at hb;cases hb
 obtain⟨cvs,rc,hl,hg'⟩:=sj er eC
 have hjs:=o.hjs
 have hlen:js.length=t.N.length - t.ps.length:=by
  have:=congrArg List.length hjs
  rw[List.length_map,List.length_map,List.length_drop] at this
  exact this
 have at_i:∀(i:Nat) (y:Str),(t.N.drop t.ps.length)[i]?=some y->∃j,js[i]?=some j/\X.N[j]?=some y:=fun i y hy=>by
  have h:=congrArg (fun l=>l[i]?) hjs
  simp only[List.getElem?_map] at h
  rw[hy] at h
  cases hj:js[i]? with
  | none=>rw[hj] at h;cases h
  | some j=>rw[hj] at h;exact⟨j,rfl,Option.some.inj h⟩
 have caps:pC H2 t.N t.ps cl cvs:=by
  refine⟨by rw[hl,hlen],fun b hb=>?_,fun i y v hy hv=>?_⟩
  ·obtain⟨pr,hp,ep⟩:=List.any_eq_true.mp hb
   have hlk:cl.lookup pr.1=some b:=m5 o.own.ndc (by rw[<- eq_of_beq ep];exact hp)
   obtain⟨i,hi⟩:=List.getElem?_of_mem (o.hcn _ _ hlk)
   obtain⟨j,hj,hN⟩:=at_i i _ hi
   have hil:i<cvs.length:=by rw[hl];exact(List.getElem?_eq_some_iff.mp hj).1
   obtain⟨ob,u,z1,z2,_⟩:=tr.val j _ b cvs[i] hN (hg' i j _ hj (List.getElem?_eq_getElem hil)) hlk
   exact⟨ob,u,z1,z2⟩
  ·obtain⟨j,hj,hN⟩:=at_i i y hy
   obtain⟨c,hc⟩:=o.sc.has y (o.sc.fre y (List.mem_of_getElem? hy))
   obtain⟨ob,u,z1,z2,z3⟩:=tr.val j y c v hN (hg' i j v hj hv) hc
   exact⟨c,ob,u,hc,z1,z2,z3⟩
 refine⟨[x],cs,cvs,d,s12 _ _ h1,s12 _ _ h2,caps,h1p.symm,i9.one (rx.mono s12),rc.mono s12,by show(mV x&&true)=true;rw[nx];rfl,nc,hG,nd,fun v H' s2 rd=>q v _ (fun b u hb=>?_) (Rep.cloC (sh fun b hb=>?_) (Bt nd) rd)⟩
 ·cases qc:lX cl b with
  | true=>rw[(tr.cel b qc).1] at hb;cases hb
  | false=>rw[mf qc];exact s2 b u (s12 b u hb)
 ·obtain⟨_,ob,_,z,_⟩:=tr.cel b hb
  exact⟨ob,s2 _ _ z⟩
theorem hW{a b:Expr}{f g:R->OD}{p p' pos pos' lp kp:Pos}(o:pZ X t cl ct js)(lo:nJ X.prog X.w X.K X.mg X.base k t G)(hr:lb (k+2) X.A)(h1p:t.ps.length=1)(hcm:X.calm=true)(hm:X.mg "sorted" = none)(hm':X.mg "range" = none)(ha:SE X a f)(hb:SE X b g)
  (hg:Gl X "sorted":=by rfl) (hg':Gl X "range":=by rfl) (hs:noStar a=true:=by rfl) (hs2:noStar b=true:=by rfl) :
  PE X (.Call (.Name "sorted" p) [.Call (.Name "range" p') [a,b] [] pos'] [⟨some "key",.Lambda t.params t.body t.scope lp,kp⟩] pos) fun σ H Q=>∃ ρ i j n cs kz,lW X.K H ρ σ/\f ρ=some (.int i)/\g ρ=some (.int j)/\ni js ρ=some cs/\lE cs=true/\rJ i j 1=n/\n<64/\(-(2 ^ 60)<=i/\i<2 ^ 60 /\ -(2 ^ 60)<=j/\j<2 ^ 60)/\KeysAre G cs i n kz /\
   ∀(ns:List Int),ns.Perm ((List.range n).map fun m:Nat=>i+(m:Int)*1)->∀v H',ku H H'->Rep X.K H' (.lst (ns.map .int)) v->Q v H':=by
 have z2:=aw [] X.env hs2
 have z1:=aw [b] X.env hs
 intro pins s σ H Q I ⟨ρ,i,j,n,cs,kz,er,e1,e2,eC,nc,hn,h64,⟨q1,q2,q3,q4⟩,hK,q⟩
 refine wpAny_Call_Name_kw (bB I hg hm boot_sorted ?_ (by decide) (by decide))
 refine callWith_kw (Calls.spliced_cons ?_) rfl rfl rfl rfl
 refine Call_ (bB I hg' hm' boot_range ?_)
 refine PyProof.Rows.callWith_type1 (lA ((aa ha (aa hb ae hs2) hs).1 pos' pins s σ H (fun vs H2=>ku H H2/\i9 X.K H2 [.int i,.int j] vs) I ⟨ρ,[.int i,.int j],er,by show(f ρ).bind _=_;rw[e1];show((g ρ).bind _).map _=_;rw[e2];rfl,fun vs H2 s2 r2=>⟨s2,r2⟩⟩) fun us s1 ⟨vs,H1,I1,r1,s01,rp⟩=>?_) (by rw[z1,z2]) (by rw[z2];rfl)
 obtain⟨v,r,rfl,r2,r3⟩:=rp
 obtain⟨u,r',rfl,r4,r5⟩:=r3
 cases (show r'=_ from r5)
 cases (show v=_ from r2)
 cases (show u=_ from r4)
 cases r1 with
 | cons r rr =>
  cases rr with
  | cons r' rr =>
   cases rr
   obtain⟨tk,rfl⟩:=r
   obtain⟨tk',rfl⟩:=r'
   refine call_range_2 ?_
   refine Calls.spliced_nil ?_
   generalize hob:({cls:=.type "range",data:=.fields #[.int i tk,.int j tk',.int 1 s1.toks]}:Obj)=ob
   have hR:IsRange (s1.heap.push ob) s1.heap.objs.size i j 1 tk tk' s1.toks:=by subst hob;exact IsRange.new ..
   have I2:L2.Inv X pins σ H1 {s1 with heap:=s1.heap.push ob,toks:=s1.toks+1}:=I1.kept fun b u q=>Heap.get?_push_of_some _ q
   have mr:n_ X pins H1 s1.heap.objs.size:=n_.fresh I1 (Nat.le_refl _)
   have gr:(s1.heap.push ob).get? s1.heap.objs.size=some ob:=by subst hob;exact Heap.get?_push_size _ rfl
   have I3:L2.Inv X (pins++[(s1.heap.objs.size,ob)]) σ H1 {s1 with heap:=s1.heap.push ob,toks:=s1.toks+1}:=I2.pins_of fun p hp=>by
    rcases List.mem_append.mp hp with hp | hp
    ·exact I2.pin p (List.mem_append_right _ hp)
    ·rw[List.mem_singleton.mp hp]
     exact⟨gr,mr.nH,mr.nL,mr.nofs I2,fun v z=>by subst hob;cases z⟩
   refine kws_cons (lA (iz (pos:=lp) o.TB (List.mem_singleton.mpr rfl) o.code o.qual o.hcl o.hdf (pins++[(s1.heap.objs.size,ob)]) _ σ H1 (fun v H2=>ku H1 H2/\∃f c' ctv pm,v=.ref f/\H2 f=some (oH (W.kla_obj "<lambda>" ct.q t.params t.body t.scope cl pm c' ctv))/\H2 c'=some (.tbl ct.q true)) I3 ⟨I3.base.tbls _ _ _ o.hT,fun f c' ctv pm H' sm hn h1 h2=>⟨sm,f,c',ctv,pm,rfl,h1,h2⟩⟩) fun u s2 ⟨v,H2,I4,rv,s12,f,c',ctv,pm,ev,h1,h2⟩=>kws_nil ?_)
   subst ev
   cases (show u=_ from rv)
   rw[<- o.tq] at h1 h2
   have pr:=I4.pin (s1.heap.objs.size,ob) (List.mem_append_right _ (List.mem_append_right _ (.head _)))
   have hR2:IsRange s2.heap s1.heap.objs.size i j 1 tk tk' s1.toks:=by
    have:=pr.1
    subst hob
    exact this
   refine xG (kz:=kz) (n:=n) (I.ok.hd hcm) I4.unpinned hR2 (DB q1 q2 q3 q4 (by decide) (by decide)) ((y1 (by decide)).symm.trans (by rw[hn])) hK.1 h64 (fun m tk2 kk pins' H3 s3 hm3 hk3 s23 I5=>?_) fun H3 ad s3 ns s23 hp I5 hn3=>?_
   ·obtain⟨k',hk',hG⟩:=hK.2 m hm3
    rw[hk3] at hk'
    cases hk'
    refine gH (x:=.int (i+(m:Int)*1)) (xv:=.int (i+(m:Int)*1)) rfl hr.in1.in1 o lo I5 (s23 _ _ h1) (s23 _ _ h2) (er.mono (s01.trans (s12.trans s23))) eC nc rfl rfl ⟨tk2,rfl⟩ h1p hG rfl fun v H' s' rd=>⟨s',rd⟩
   ·refine⟨.ref ad,_,I5,rfl,q ns hp _ _ ?_ ⟨ad,_,rfl,ai,?_⟩⟩
    ·exact(s01.trans (s12.trans s23)).trans fun b u hb=>by rw[aj fun z=>by rw[z,hn3] at hb;cases hb];exact hb
    ·exact AS ns
end
def EN(K:W.Frag)(P:R->List Int->Prop)(g:List Int->R->Option Out):TS:=fun E σ H=>∃ ρ τ,lQ K H ρ τ σ/\(∃p,P ρ p)/\∀p,P ρ p->∃o,g p ρ=some o/\∀H',ku H H'->fin K E τ o H'
section
variable{X:Cx}{t:mS}{cl:List (Str×Addr)}{ct:kR}{js:List Nat}{k:Nat}{G:LD->OD}
theorem jP{st1:Stmt}{u1 g:R->Option Out}{x:Str}{a b z:Expr}{f h:R->OD}{rest:List Stmt}{p p' pos pos' lp kp px bp zp ap:Pos}{i:Nat}(h1:S1 X st1 u1)(o:pZ X t cl ct js)(lo:nJ X.prog X.w X.K X.mg X.base k t G)(hr:lb (k+2) X.A)(h1p:t.ps.length=1)(hcm:X.calm=true)(hm:X.mg "sorted" = none)(hm':X.mg "range" = none)(ha:SE X a f)(hb:SE X b h)
  (hz:SE X z (BH (i3 (kI 0) i5))) (hsg:SG X (.Name x px) (setAt i)) (hrest:SS X rest g) (hg:Gl X "sorted":=by rfl) (hg':Gl X "range":=by rfl) (hs:noStar a=true:=by rfl) (hs2:noStar b=true:=by rfl)
  (hsw:swapsWithSole [.Name x px] (.BinOp z .Add (.Call (.Name "sorted" p) [.Call (.Name "range" p') [a,b] [] pos'] [⟨some "key",.Lambda t.params t.body t.scope lp,kp⟩] pos) bp) ap.line X.env=pure false:=by rfl) (hw:swappedStores [.Name x px] (.BinOp z .Add (.Call (.Name "sorted" p) [.Call (.Name "range" p') [a,b] [] pos'] [⟨some "key",.Lambda t.params t.body t.scope lp,kp⟩] pos) bp) X.env=pure none:=by rfl) (has:(assignEach [.Name x px] X.env).map (·.2)=[assign (.Name x px) X.env]:=by rfl) :
  PSs X (st1::.Assign [.Name x px] (.BinOp z .Add (.Call (.Name "sorted" p) [.Call (.Name "range" p') [a,b] [] pos'] [⟨some "key",.Lambda t.params t.body t.scope lp,kp⟩] pos) bp) ap::rest) (EN X.K (EI u1 f h (ni js) G) (Cj u1 i g)):=by
 refine(ba h1 (ba (iF (iC aI hz (hW o lo hr h1p hcm hm hm' ha hb hg hg' hs hs2)) hsg hsw hw has) hrest)).imp fun E σ H ⟨ρ,τ,er,⟨p0,hp0⟩,hall⟩=>?_
 obtain⟨ρ1,i',j',n,cs,kz,e1,e2,e3,e4,e5,e6,e7,e8,e9,_⟩:=id hp0
 refine⟨ρ,τ,.nx ρ1,er,e1,fun H1 s1 σ1 er1=>?_⟩
 refine⟨ρ1,.lst [.int 0],er1.1,rfl,fun x H2 s2 rx=>⟨ρ1,i',j',n,cs,kz,er1.1.mono s2,e2,e3,e4,e5,e6,e7,e8,e9,fun q hq y H3 s3 ry=>?_⟩⟩
 obtain⟨oo,ho,hfin⟩:=hall q ⟨ρ1,i',j',n,cs,kz,e1,e2,e3,e4,e5,e6,e7,e8,e9,hq⟩
 unfold Cj at ho
 rw[e1] at ho
 dsimp only at ho
 split at ho
 case isFalse=>cases ho
 case isTrue hlt =>
 have hql:q.length=n:=by rw[hq.length_eq];simp
 refine⟨.lst [.int 0],.lst (q.map .int),.lst (.int 0::q.map .int),rx.mono s3,ry,?_,fun w H4 s4 rw4=>?_⟩
 ·show(if [D.int 0].length+(q.map D.int).length<=sizeLine then some (D.lst ([.int 0]++q.map .int)) else none)=_
  rw[if_pos (by rw[List.length_map,sizeLine_eq];simp;omega)]
  rfl
 ·refine⟨ρ1,τ,_,ρ1.set i (some (.lst (.int 0::q.map .int))),((er1.mono s2).mono s3).mono s4,rw4,if_pos hlt,fun σ2 H5 s5 er5=>⟨_,τ,oo,er5,ho,fun H6 s6=>hfin H6 (s1.trans (s2.trans (s3.trans (s4.trans (s5.trans s6)))))⟩⟩
end
def A4(K:W.Frag)(N:Nat)(P:R->List Int->Prop)(g:List Int->R->Option Out)(np:Nat)(ts:List kR):Sp:=fun vs H Q E=>TabsAt ts H/\∃ds,i9 K H ds vs/\ds.length=np/\(∃p,P (pe N ds) p)/\∀p,P (pe N ds) p->∃d,k_ (g p (pe N ds))=some d/\∀v H',ku H H'->Rep K H' d v->Q v H'
theorem gD{P:Program}{w:World}{K:W.Frag}{mg:Str->Option Value}{base:Heap}{x qual:Str}{st:Stmt}{f:Addr}{fd:FuncData}{N ps:List Str}{k:Nat}{pp:R->List Int->Prop}{g:List Int->R->Option Out}{t:kR}{ts:List kR}
  (Fn:tZ K x qual st f fd t.c) (S:kL N ps (i7 st)) (ht:t∈ts)
  (hb:∀(A:Around) (outer:List Env) (s:Shared) (H:Hp) (E:XK),lb k (A.deeper (envOfC qual (i7 st) s.heap.objs.size f (.ref t.c)))->H t.P=some (.tbl t.q false)->PSs (pK mi P w K mg base N qual (i7 st) f (.ref t.c) A outer s H E).nox (k7 st) (EN K pp g)):kT P w K mg base mi (k+1) f fd ps (A4 K N.length pp g ps.length ts):=by
 obtain⟨oc,od,kV,doc,pm,an,ct,osl,rfl,lk,hcd⟩:=Fn.ex
 refine ir lk hcd S (fun vs H Q E h=>?_) (fun A outer s H vs Q E hr h=>?_)
 ·obtain⟨_,ds,r,e,_⟩:=h
  rw[<- r.length]
  exact e
 ·obtain⟨hT,ds,r,_,hp,hall⟩:=h
  refine⟨_,(hb A outer s H E hr (hT t ht)).nox,?_⟩
  refine⟨pe N.length ds,_,(qo r).t,hp,fun p hpp=>?_⟩
  obtain⟨d,z,q⟩:=hall p hpp
  cases ho:g p (pe N.length ds) with
  | none=>rw[ho] at z;cases z
  | some o =>
   rw[ho] at z
   refine⟨o,rfl,fun H1 s1=>?_⟩
   cases o with
   | rt d'=>cases (show d'=d from Option.some.inj z);exact fun v rv=>q v H1 s1 rv
   | nx ρ=>cases (show D.non=d from Option.some.inj z);exact fun σ _=>q .non H1 s1 rfl
   | bk ρ=>cases z
   | ct ρ=>cases z
structure rf (P:Program) (w:World) (K:W.Frag) (mg:Str->Option Value) (base:Heap) (k:Nat) (x:Str) (ps:List Str) (N:Nat) (pp:R->List Int->Prop) (g:List Int->R->Option Out) (ts:List kR):Prop where
 ex:∃f fd,kT P w K mg base mi k f fd ps (A4 K N pp g ps.length ts)/\mg x=some (.ref f)/\W.keepIn K (.ref f)=true/\Binds K fd ps []
theorem rf.m{P:Program}{w:World}{K:W.Frag}{mg:Str->Option Value}{base:Heap}{j k:Nat}{x:Str}{ps:List Str}{N:Nat}{pp:R->List Int->Prop}{g:List Int->R->Option Out}{ts:List kR}(h:rf P w K mg base j x ps N pp g ts)(hk:j<=k:=by decide):rf P w K mg base k x ps N pp g ts:=by
 obtain⟨f,fd,a,b⟩:=h.ex
 exact⟨f,fd,a.mono hk,b⟩
section
variable{X:Cx}{ts:List kR}
end
end HW
namespace HW
open PySem
def AllIn(N np:Nat)(P:R->List Int->Prop)(g:List Int->R->Option Out)(i:Nat)(w:R->LD->Option Out)(ρ:R)(ds:LD)(x z:D)(o:Out):Prop:=ds.length=np/\(∃p,P (pe N ds) p)/\∀p,P (pe N ds) p->∃d,k_ (g p (pe N ds))=some d/\w (ρ.take i) [x,d,z]=some o
def qm(i:Nat)(f1:R->OD)(F:R->Option LD)(f3:R->OD)(N np:Nat)(P:R->List Int->Prop)(g:List Int->R->Option Out)(w:R->LD->Option Out):R->Option Out:=fun ρ=>(f1 ρ).bind fun x=>(F ρ).bind fun ds=>(f3 ρ).bind fun z=>if ρ.length=i+1 then (open Classical in if h:∃o,AllIn N np P g i w ρ ds x z o then some h.choose else none) else none
theorem xC{i:Nat}{f1:R->OD}{F:R->Option LD}{f3:R->OD}{N np:Nat}{P:R->List Int->Prop}{g:List Int->R->Option Out}{w:R->LD->Option Out}{ρ:R}{ds:LD}{x z:D}{o:Out}(h1:f1 ρ=some x)(h2:F ρ=some ds)(h3:f3 ρ=some z)(hl:ρ.length=i+1)(h:AllIn N np P g i w ρ ds x z o):qm i f1 F f3 N np P g w ρ=some o:=by
 unfold qm
 rw[h1,Option.bind_some,h2,Option.bind_some,h3,Option.bind_some,if_pos hl]
 have hx:∃o,AllIn N np P g i w ρ ds x z o:=⟨o,h⟩
 rw[dif_pos hx]
 obtain⟨_,⟨p,hp⟩,ha⟩:=h
 obtain⟨_,_,ha'⟩:=hx.choose_spec
 obtain⟨d,e1,e2⟩:=ha p hp
 obtain⟨d',e1',e2'⟩:=ha' p hp
 rw[e1] at e1'
 cases e1'
 rw[e2] at e2'
 exact e2'.symm
end HW
namespace HW
open PySem PySem.Spec PyProof.Rows L2
section
variable{X:Cx}{ts:List kR}
theorem gB{x fn:Str}{ps:List Str}{e1 e e3:Expr}{es:List Expr}{sts:List Stmt}{f1 f3:R->OD}{F:R->Option LD}{N k:Nat}{pp:R->List Int->Prop}{g:List Int->R->Option Out}{w:R->LD->Option Out}{px p1 p cp pos:Pos}(i:Nat)(hN:X.N.Nodup)(h1:SE X e1 f1)(C:rf X.prog X.w X.K X.mg X.base k fn ps N pp g ts)(hr:lb k X.A)(hT:TabsAt ts X.H₀)(ha:SA X (e::es) F)(h3:SE X e3 f3)(h2:OB X sts w)(hix:X.N[i]?=some x:=by rfl)(hx:Loc X.env.scope x:=by first | exact Or.inl rfl | exact Or.inr rfl)
  (hg:Gl X fn:=by rfl) (hdb:(fn==("__debug__" : Str))=false:=by decide) (hs1:noStar e1=true:=by rfl) (hs3:noStar e3=true:=by rfl) (hs:swapsWith (.List [e1,.Call (.Name fn p) (e::es) [] cp,e3] p1) (some (.Name x px)) pos.line X.env=pure false:=by rfl) (hf:X.fn x=true\/X.env.scope.names.lookup x=some .local:=by first | exact .inl rfl | exact .inr rfl) :
  SS X (.Assign [.Name x px] (.List [e1,.Call (.Name fn p) (e::es) [] cp,e3] p1) pos::sts) (qm i f1 F f3 N ps.length pp g w):=by
 intro pins s σ H E I ⟨ρ,τ,o,er,e0,qq⟩
 have hst:=ha.2.2
 rw[List.all_cons,Bool.and_eq_true] at hst
 have he:=aw es X.env hst.1
 have hpl:=bo (pos:=cp) (env:=X.env) hst.2
 obtain⟨f,fd,a,m,kp,bd⟩:=C.ex
 have hP:TabsAt ts H:=fun t ht=>I.base.tbls _ _ _ (hT t ht)
 obtain⟨x1,c1,e0⟩:=kx e0
 obtain⟨ds,c2,e0⟩:=kx e0
 obtain⟨x3,c3,e0⟩:=kx e0
 split at e0
 case isFalse=>cases e0
 case isTrue hlen =>
 split at e0
 case isFalse=>cases e0
 case isTrue hex =>
 obtain⟨hl,hp,hall⟩:=hex.choose_spec
 have eo:hex.choose=o:=Option.some.inj e0
 rw[eo] at hall
 refine wpAny_execs_cons (lA ((cN (i:=i) hN hix hx (dF (ce h1 (ce (dg a hr hg m kp bd .nil uw ha.1 hdb he hpl) (ce h3 xo (aw [] X.env hs3)) (aw _ X.env rfl)) (aw _ X.env hs1))) hs hf) pins s σ H {E with nx:=fun σ' H'=>∃a vs H1 ds,σ'=σ.set i (some (.ref a))/\H'=upd H1 a (.lst vs)/\H1 a=none/\ku H H1/\i9 X.K H1 ds vs/\w (ρ.take i) ds=some o} I ?_) fun f s1 q=>?_)
 ·refine⟨ρ,x1,er.1,c1,fun v1 H1 s1 r1=>⟨ρ,ds,er.1.mono s1,c2,fun vs H2 s2 r2=>⟨fun t ht=>s2 _ _ (s1 _ _ (hP t ht)),ds,by rw[List.append_nil];exact r2,hl,hp,fun pq hpq=>?_⟩⟩⟩
  obtain⟨d,d1,d2⟩:=hall pq hpq
  refine⟨d,d1,fun v H3 s3 rv=>⟨ρ,x3,((er.1.mono s1).mono s2).mono s3,c3,fun v3 H4 s4 r4=>⟨?_,fun a ha=>⟨a,_,H4,[x1,d,x3],rfl,rfl,ha,s1.trans (s2.trans (s3.trans s4)),i9.cons (((r1.mono s2).mono s3).mono s4) (i9.cons (rv.mono s4) (i9.cons r4 i9.nil)),d2⟩⟩⟩⟩
  show 3<=sizeLine
  decide
 cases f with
 | next =>
  obtain⟨σ',H',I',a,vs,H1,ds,rfl,rfl,ha,s1',r1,e⟩:=q
  have I2:=qR I' ai
  generalize hH2:upd (upd H1 a (.lst vs)) a (mj a vs)=H2 at I2
  have k12:lY a H1 H2:=by
   subst hH2
   exact lY.upd.trans lY.upd
  have s12:ku H1 H2:=fun b u hb=>k12 b u (fun z=>by rw[z,ha] at hb;cases hb) hb
  have ho2:H2 a=some (mj a vs):=by subst hH2;exact ai
  have hσi:i<σ.length:=Nat.lt_of_lt_of_le (by omega) er.1.1
  refine h2 pins s1 _ H2 E I2 ⟨ρ.take i,τ,a,ds,vs,o,⟨⟨?_,fun j d hd=>?_⟩,?_⟩,ho2,r1.mono s12,e,fun H' k=>qq H' fun b u hb=>?_⟩
  ·simp
   omega
  ·have hj:j<i:=by
    have:=(List.getElem?_eq_some_iff.mp hd).1
    simp at this
    omega
   rw[List.getElem?_take_of_lt hj] at hd
   obtain⟨v,h1,h2⟩:=er.1.2 j d hd
   exact⟨v,by rw[List.getElem?_set_ne (by omega)];exact h1,(h2.mono s1').mono s12⟩
  ·have hd:σ.drop (i+1)=τ:=by rw[<- hlen];exact er.2
   rw[List.length_take,Nat.min_eq_left (by omega),List.drop_eq_getElem_cons (by simpa using hσi)]
   congr 1
   ·simp
   ·rw[List.drop_set_of_lt (by omega)]
    exact hd
  ·have hb2:=s12 _ _ (s1' _ _ hb)
   exact k b u (fun z=>by
    have q:=s1' _ _ hb
    rw[z,ha] at q
    cases q) hb2
 | brk=>exact q
 | cont=>exact q
 | ret v=>exact q
end
end HW
namespace HW
open PySem
inductive lN | none | hour | minute | zero | ahour | aminute | alarm | run | lap | cminute | csecond | full | count
 deriving DecidableEq,Inhabited
inductive yg | a | b | c
 deriving DecidableEq,Inhabited
inductive Face | time | alarm | laps | count
 deriving DecidableEq,Inhabited
def lN.x:lN->Str
 | .none=>oS "none" | .hour=>oS "hour" | .minute=>oS "minute" | .zero=>oS "zero" | .ahour=>oS "ahour" | .aminute=>oS "aminute" | .alarm=>oS "alarm"
 | .run=>oS "run" | .lap=>oS "lap" | .cminute=>oS "cminute" | .csecond=>oS "csecond" | .full=>oS "full" | .count=>oS "count"
def yg.x:yg->Str
 | .a=>oS "a" | .b=>oS "b" | .c=>oS "c"
def yg.X:yg->Str
 | .a=>oS "A" | .b=>oS "B" | .c=>oS "C"
def yg.ix:yg->Nat
 | .a=>0 | .b=>1 | .c=>2
def Face.x:Face->Str
 | .time=>oS "time" | .alarm=>oS "alarm" | .laps=>oS "laps" | .count=>oS "count"
structure Md where
 face:Face
 stays:Bool
 rows:List (lN×Nat)
 deriving Inhabited
structure Bk where
 hold:Int
 back:Int
 modes:List Md
structure WS where
 mode:Nat
 clock:Int
 ah:Int
 am:Int
 aon:Bool
 lm:Int
 lr:Bool
 lk:List Int
 cm:Int
 cs:Int
 cl:Int
 cr:Bool
 ring:Int
 held:Option (yg×Option Int)
 idle:Int
def lg(r:lN×Nat):D:=.tup [.str r.1.x,.int (r.2:Int)]
def Md.d(m:Md):D:=.tup [.str m.face.x,.bl m.stays,.tup (m.rows.map lg)]
def Bk.d(b:Bk):D:=.tup [.int b.hold,.int b.back,.tup (b.modes.map Md.d)]
def Gk:Option Int->D
 | .none=>.non
 | .some k=>.int k
def Fw:Option (yg×Option Int)->D
 | .none=>.non
 | .some (x,k)=>.tup [.str x.x,Gk k]
def WS.alarmD(s:WS):D:=.tup [.int s.ah,.int s.am,.bl s.aon]
def WS.lapsD(s:WS):D:=.tup [.int s.lm,.bl s.lr,.tup (s.lk.map .int)]
def WS.countD(s:WS):D:=.tup [.int s.cm,.int s.cs,.int s.cl,.bl s.cr]
def WS.d(s:WS):D:=.tup [.int (s.mode:Int),.int s.clock,s.alarmD,s.lapsD,s.countD,.int s.ring,Fw s.held,.int s.idle]
structure Md.Ok (n:Nat) (m:Md):Prop where
 six:m.rows.length=6
 nx:∀r∈m.rows,r.2<n
structure Bk.Ok (b:Bk):Prop where
 hold1:1<=b.hold
 hold9:b.hold<=9
 back0:0<=b.back
 back60:b.back<=60
 some1:1<=b.modes.length
 some8:b.modes.length<=8
 all:∀m∈b.modes,m.Ok b.modes.length
structure WS.Wk (b:Bk) (s:WS):Prop where
 bk:0<=b.back
 mode:s.mode<b.modes.length
 clock0:0<=s.clock
 clock1:s.clock<86400
 ah0:0<=s.ah
 ah1:s.ah<24
 am0:0<=s.am
 am1:s.am<60
 lm0:0<=s.lm
 lk:s.lk.length<=4
 cm0:0<=s.cm
 cm1:s.cm<60
 cs0:0<=s.cs
 cs1:s.cs<60
 cl0:0<=s.cl
 cl1:s.cl<3600
 cr:s.cr=true->0<s.cl
 ring0:0<=s.ring
 ring1:s.ring<=10
 idle0:0<=s.idle
 idle1:0<b.back->s.idle<b.back
 idle2:b.back=0->s.idle=0
structure WS.Ok (b:Bk) (s:WS):Prop extends WS.Wk b s where
 held:∀x k,s.held=some (x,some k)->0<=k/\k<b.hold
def vG(s:WS)(m c:Int):WS:=if s.cr then s else {s with cm:=m,cs:=c,cl:=60*m+c,cr:=false}
def deed:lN->WS->WS
 | .none,s=>s
 | .hour,s=>{s with clock:=(s.clock+3600)%86400}
 | .minute,s=>{s with clock:=s.clock - s.clock%3600+(s.clock%3600+60)%3600}
 | .zero,s=>{s with clock:=s.clock - s.clock%60}
 | .ahour,s=>{s with ah:=(s.ah+1)%24}
 | .aminute,s=>{s with am:=(s.am+1)%60}
 | .alarm,s=>{s with aon:=!s.aon}
 | .run,s=>{s with lr:=!s.lr}
 | .lap,s=>if s.lr then (if 4<=s.lk.length then s else {s with lk:=s.lk++[s.lm]}) else {s with lm:=0,lk:=[]}
 | .cminute,s=>vG s ((s.cm+1)%60) s.cs
 | .csecond,s=>vG s s.cm ((s.cs+1)%60)
 | .full,s=>vG s s.cm s.cs
 | .count,s=>{s with cr:=!s.cr&&decide (0<s.cl)}
def Bk.row(b:Bk)(m i:Nat):lN×Nat:=(b.modes.getD m default).rows.getD i (.none,0)
def CQ(b:Bk)(s:WS)(i:Nat):WS:={deed (b.row s.mode i).1 s with mode:=(b.row s.mode i).2}
def mx(i j:Int):Int:=if j > i then j else i
def WS.sec(s:WS):Int:=3600*s.ah+60*s.am
def yM(s:WS):Option Int:=if s.aon then some ((s.sec - s.clock - 1)%86400+1) else none
def y_(s:WS):Option Int:=if s.cr then some s.cl else none
def zF(s:WS)(n:Int):Option Int:=
 match yM s,y_ s with
 | some a,some c=>if a<=n then (if c<=n then some (mx (n - (n - a)%86400) c) else some (n - (n - a)%86400)) else (if c<=n then some c else none)
 | some a,none=>if a<=n then some (n - (n - a)%86400) else none
 | none,some c=>if c<=n then some c else none
 | none,none=>none
def DN(s:WS)(n:Int):Int:=
 match zF s n with
 | none=>mx 0 (s.ring - n)
 | some l=>mx 0 (10 - (n - l))
def Dt(h:Option (yg×Option Int))(n:Int):Option (yg×Option Int):=
 match h with
 | some (x,some k)=>some (x,some (k+n))
 | h=>h
def zR(b:Bk)(s:WS):Int:=mx 1 (b.back - s.idle)
def DL(b:Bk)(s:WS)(n:Int):Int:=
 if s.held.isSome\/b.back=0 then s.idle else if n<zR b s then s.idle+n else (n - zR b s)%b.back
def C6(s:WS)(n:Int):Int:=if s.lr then s.lm+n else s.lm
def Ea(s:WS)(n:Int):Int:=if s.cr then mx 0 (s.cl - n) else s.cl
def runsOn(s:WS)(n:Int):Bool:=s.cr&&decide (0<mx 0 (s.cl - n))
def Cr(b:Bk)(s:WS)(n:Int):WS:=
 {s with clock:=(s.clock+n)%86400,lm:=C6 s n,cl:=Ea s n,cr:=runsOn s n,ring:=DN s n,held:=Dt s.held n,idle:=DL b s n}
def turned(b:Bk)(s:WS):WS:=
 match s.held with
 | none=>{s with mode:=0}
 | some (x,_)=>CQ b {s with held:=some (x,none)} (x.ix+3)
def behind(b:Bk)(s:WS)(t:Int):WS:=turned b (Cr b s t)
def letGo(b:Bk)(s:WS)(x:yg):WS:=
 match s.held with
 | some (y,k)=>if y=x then { (if k.isSome then CQ b s x.ix else s) with held:=none,idle:=0} else s
 | none=>s
inductive Ev | down (x:yg) | up (x:yg) | ticks (n:Int)
 deriving DecidableEq
def Ev.d:Ev->D
 | .down x=>.tup [.str (oS "down"),.str x.x]
 | .up x=>.tup [.str (oS "up"),.str x.x]
 | .ticks n=>.tup [.str (oS "ticks"),.int n]
theorem sA(a:Int){b:Int}(h:0<b):a%b<b:=Int.emod_lt_of_pos a h
theorem sQ(a:Int){b:Int}(h:0<b):0<=a%b:=Int.emod_nonneg a (by omega)
theorem WS.Wk.set{b:Bk}{s:WS}(w:s.Wk b){m c:Int}(m0:0<=m)(m1:m<60)(c0:0<=c)(c1:c<60):(vG s m c).Wk b:=by
 unfold vG
 split
 ·exact w
 ·exact {w with cm0:=m0,cm1:=m1,cs0:=c0,cs1:=c1,cl0:=(by show 0<=60*m+c;omega),cl1:=(by show 60*m+c<3600;omega),cr:=fun h=>by cases h}
theorem WS.Wk.dd{b:Bk}{s:WS}(w:s.Wk b)(d:lN):(deed d s).Wk b:=by
 have c0:=w.clock0;have c1:=w.clock1
 cases d with
 | none=>exact w
 | hour=>exact {w with clock0:=sQ _ (by decide),clock1:=sA _ (by decide)}
 | minute=>exact {w with clock0:=(by show 0<=s.clock - s.clock%3600+(s.clock%3600+60)%3600;omega),clock1:=(by show s.clock - s.clock%3600+(s.clock%3600+60)%3600<86400;omega)}
 | zero=>exact {w with clock0:=(by show 0<=s.clock - s.clock%60;omega),clock1:=(by show s.clock - s.clock%60<86400;omega)}
 | ahour=>exact {w with ah0:=sQ _ (by decide),ah1:=sA _ (by decide)}
 | aminute=>exact {w with am0:=sQ _ (by decide),am1:=sA _ (by decide)}
 | alarm=>exact {w with}
 | run=>exact {w with}
 | lap =>
  show(if s.lr then (if 4<=s.lk.length then s else {s with lk:=s.lk++[s.lm]}) else {s with lm:=0,lk:=[]}:WS).Wk b
  split
  ·split
   ·exact w
   ·exact {w with lk:=(by show(s.lk++[s.lm]).length<=4;simp;omega)}
  ·exact {w with lm0:=Int.le_refl 0,lk:=Nat.zero_le _}
 | cminute=>exact w.set (sQ _ (by decide)) (sA _ (by decide)) w.cs0 w.cs1
 | csecond=>exact w.set w.cm0 w.cm1 (sQ _ (by decide)) (sA _ (by decide))
 | full=>exact w.set w.cm0 w.cm1 w.cs0 w.cs1
 | count =>
  have hc:(!s.cr&&decide (0<s.cl))=true->0<s.cl:=fun h=>by simp at h;exact h.2
  exact {w with cr:=hc}
def Ev.Ok:Ev->Prop
 | .ticks n=>1<=n
 | _=>True
abbrev Pr:=yg×Bool
def Pr.x(p:Pr):Str:=if p.2 then p.1.X else p.1.x
def Pr.ix(p:Pr):Nat:=if p.2 then p.1.ix+3 else p.1.ix
def Pr.code(p:Pr):Nat:=(if p.2 then 65 else 97)+p.1.ix
end HW
set_option maxRecDepth 10000
namespace HW
open PySem
noncomputable section
def top(i:Nat):Stmt:=PySem.Challenge.pw_handwatch_k51_whole_alike.main.body.getD i (.Pass ⟨0,0,0,0⟩)
def x9:mS:=yD "ways_from.<locals>.<lambda>" ["place","book"] ["place"] (eA 1 (sV (sB 0 (top 3))))
def xX:mS:=yD "parts.<locals>.<lambda>" ["pair","other","one"] ["pair"] (eA 1 (sV (sB 0 (top 9))))
def xA:mS:=yD "least.<locals>.<lambda>" ["head","modes","heads"] ["head"] (eA 1 (eA 0 (sV (sB 2 (top 14)))))
def Em:mS:=yD "_law_turned.<locals>.<lambda>" ["_law_mode","_law_number"] ["_law_mode"] (eK 0 (Hi (sV (sB 1 (top 25)))))
def aJ:D:=.tup [.str (oS "a"),.str (oS "b"),.str (oS "c"),.str (oS "A"),.str (oS "B"),.str (oS "C")]
def whole:D->Bool
 | .int _=>true
 | _=>false
def within(d:D)(l m:Int):Bool:=match d with
 | .int i=>decide (l<=i)&&decide (i<=m)
 | _=>false
def oneOf(d:D)(ws:LD):Bool:=match d with
 | .str x=>ws.any fun y=>FU y (.str x)
 | _=>false
def GT(d:D)(m:Int):Bool:=match d with
 | .tup xs=>(xs.length:Int)==m
 | _=>false
def rD:LD:=[.str (oS "none"),.str (oS "hour"),.str (oS "minute"),.str (oS "zero"),.str (oS "ahour"),.str (oS "aminute"),.str (oS "alarm"),.str (oS "run"),.str (oS "lap"),.str (oS "cminute"),.str (oS "csecond"),.str (oS "full"),.str (oS "count")]
def sG:LD:=[.str (oS "time"),.str (oS "alarm"),.str (oS "laps"),.str (oS "count")]
def qF(d:D)(m:Int):Bool:=match d with
 | .tup [a,b]=>oneOf a rD&&within b 0 (m - 1)
 | _=>false
def w_(d:D)(m:Int):Bool:=match d with
 | .tup xs=>xs.length==6&&xs.all fun x=>qF x m
 | _=>false
def pU(d:D)(m:Int):Bool:=match d with
 | .tup [a,b,c]=>oneOf a sG&&(G9 b "bool" && w_ c m)
 | _=>false
def vt(d:D):Bool:=match d with
 | .tup xs=>decide (1<=xs.length)&&(decide (xs.length<=8)&&xs.all fun x=>pU x xs.length)
 | _=>false
def vh(d:D):Bool:=match d with
 | .tup [a,b,c]=>within a 1 9&&(within b 0 60&&vt c)
 | _=>false
theorem within_int{d:D}{l h:Int}(e:within d l h=true):∃i:Int,d=.int i/\l<=i/\i<=h:=by
 cases d with
 | int i=>simp[within] at e;exact⟨i,rfl,e⟩
 | _=>cases e
theorem zB{d:D}(e:G9 d "bool" = true):∃b,d=.bl b:=by
 cases d with
 | bl b=>exact⟨b,rfl⟩
 | _=>simp at e
theorem uD{d:D}{ws:LD}(e:oneOf d ws=true):∃x,d=.str x/\(ws.any fun y=>FU y (.str x))=true:=by
 cases d with
 | str x=>exact⟨x,rfl,e⟩
 | _=>cases e
theorem Bn{d:D}(e:oneOf d rD=true):∃k:lN,d=.str k.x:=by
 obtain⟨x,rfl,h⟩:=uD e
 obtain⟨y,hy,h⟩:=List.any_eq_true.mp h
 have q:∀w:Str,FU (.str w) (.str x)=true->w=x:=fun w z=>beq_iff_eq.mp z
 simp only[rD,List.mem_cons,List.not_mem_nil,or_false] at hy
 rcases hy with rfl | rfl | rfl | rfl | rfl | rfl | rfl | rfl | rfl | rfl | rfl | rfl | rfl
 ·exact⟨.none,congrArg D.str (q _ h).symm⟩
 ·exact⟨.hour,congrArg D.str (q _ h).symm⟩
 ·exact⟨.minute,congrArg D.str (q _ h).symm⟩
 ·exact⟨.zero,congrArg D.str (q _ h).symm⟩
 ·exact⟨.ahour,congrArg D.str (q _ h).symm⟩
 ·exact⟨.aminute,congrArg D.str (q _ h).symm⟩
 ·exact⟨.alarm,congrArg D.str (q _ h).symm⟩
 ·exact⟨.run,congrArg D.str (q _ h).symm⟩
 ·exact⟨.lap,congrArg D.str (q _ h).symm⟩
 ·exact⟨.cminute,congrArg D.str (q _ h).symm⟩
 ·exact⟨.csecond,congrArg D.str (q _ h).symm⟩
 ·exact⟨.full,congrArg D.str (q _ h).symm⟩
 ·exact⟨.count,congrArg D.str (q _ h).symm⟩
theorem BG{d:D}(e:oneOf d sG=true):∃k:Face,d=.str k.x:=by
 obtain⟨x,rfl,h⟩:=uD e
 obtain⟨y,hy,h⟩:=List.any_eq_true.mp h
 have q:∀w:Str,FU (.str w) (.str x)=true->w=x:=fun w z=>beq_iff_eq.mp z
 simp only[sG,List.mem_cons,List.not_mem_nil,or_false] at hy
 rcases hy with rfl | rfl | rfl | rfl
 ·exact⟨.time,congrArg D.str (q _ h).symm⟩
 ·exact⟨.alarm,congrArg D.str (q _ h).symm⟩
 ·exact⟨.laps,congrArg D.str (q _ h).symm⟩
 ·exact⟨.count,congrArg D.str (q _ h).symm⟩
theorem jO{d:D}{n:Nat}(e:qF d n=true):∃r:lN×Nat,d=lg r/\r.2<n:=by
 unfold qF at e
 split at e
 ·rw[Bool.and_eq_true] at e
  obtain⟨k,rfl⟩:=Bn e.1
  obtain⟨i,rfl,h0,h1⟩:=within_int e.2
  refine⟨(k,i.toNat),?_,?_⟩
  ·simp[lg,Int.toNat_of_nonneg h0]
  ·simp;omega
 ·cases e
theorem vi{α:Type}{f:α->D}{P:α->Prop}{q:D->Bool}(h:∀d,q d=true->∃a,d=f a/\P a):∀{ds:LD},ds.all q=true->∃as:List α,ds=as.map f/\∀a∈as,P a
 | [],_=>⟨[],rfl,fun _ h=>by cases h⟩
 | d::ds,e=>by
  rw[List.all_cons,Bool.and_eq_true] at e
  obtain⟨a,rfl,ha⟩:=h d e.1
  obtain⟨as,rfl,hs⟩:=vi h e.2
  exact⟨a::as,rfl,fun x hx=>by rcases List.mem_cons.mp hx with rfl | hx;exact ha;exact hs x hx⟩
theorem jj{d:D}{n:Nat}(e:pU d n=true):∃m:Md,d=m.d/\m.Ok n:=by
 unfold pU at e
 split at e
 ·rename_i a b c
  rw[Bool.and_eq_true,Bool.and_eq_true] at e
  obtain⟨f,rfl⟩:=BG e.1
  obtain⟨s,rfl⟩:=zB e.2.1
  have e2:=e.2.2
  cases c with
  | tup xs =>
   unfold w_ at e2
   simp only[Bool.and_eq_true] at e2
   obtain⟨rs,rfl,hr⟩:=vi (f:=lg) (P:=fun r=>r.2<n) (fun d h=>jO h) e2.2
   refine⟨⟨f,s,rs⟩,rfl,?_,hr⟩
   have:=e2.1
   simpa using this
  | _=>cases e2
 ·cases e
theorem iN{d:D}(e:vh d=true):∃b:Bk,d=b.d/\b.Ok:=by
 unfold vh at e
 split at e
 ·rename_i a b c
  rw[Bool.and_eq_true,Bool.and_eq_true] at e
  obtain⟨i,rfl,i0,i1⟩:=within_int e.1
  obtain⟨j,rfl,j0,j1⟩:=within_int e.2.1
  have e2:=e.2.2
  cases c with
  | tup xs =>
   unfold vt at e2
   simp only[Bool.and_eq_true] at e2
   obtain⟨h1,h2,h3⟩:=e2
   obtain⟨ms,hm,hok⟩:=vi (f:=Md.d) (P:=fun m=>m.Ok xs.length) (fun d h=>jj h) h3
   have hl:xs.length=ms.length:=by rw[hm];simp
   refine⟨⟨i,j,ms⟩,by rw[hm];rfl,i0,i1,j0,j1,?_,?_,?_⟩
   ·have:=of_decide_eq_true h1;show 1<=ms.length;omega
   ·have:=of_decide_eq_true h2;show ms.length<=8;omega
   ·rw[hl] at hok;exact hok
  | _=>cases e2
 ·cases e
theorem FA{f g:R->Option Bool}{ρ:R}(h1:f ρ=some false)(h2:g ρ=some false):EB f g ρ=some false:=by simp[h1,h2]
theorem Fu{f g:R->Option Bool}{ρ:R}(h1:f ρ=some false):zN f g ρ=some false:=by simp[h1]
theorem CM{f g:R->Option Bool}{ρ:R}{b:Bool}(h1:f ρ=some true)(h2:g ρ=some b):zN f g ρ=some b:=by simp[h1,h2]
theorem CZ{f:R->OD}{ρ:R}{w:Str}(h:f ρ=some (.str w))(hw:w.length<=1000):i6 rK (i3 f i5) ρ=some (.int w.length):=by
 show((f ρ).bind fun x=>(some []).map (x::·)).bind rK=_
 rw[h]
 show(if w.length<=sizeLine then _ else _)=_
 rw[if_pos (Nat.le_trans hw (by decide))]
theorem uW{F:D->D->Option Bool}{f g:R->OD}{ρ:R}{x y:D}(h1:f ρ=some x)(h2:g ρ=some y):lC F f g ρ=F x y:=by simp[h1,h2]
theorem lS{F:LD->OD}{f:R->OD}{ρ:R}{x d:D}(h1:f ρ=some x)(h2:F [x]=some d):i6 F (i3 f i5) ρ=some d:=by simp[h1,h2]
theorem wx{f g k:R->OD}{ρ:R}{x y z:D}(h1:f ρ=some x)(h2:g ρ=some y)(h3:k ρ=some z):kG (i3 f (i3 g (i3 k i5))) ρ=some (.tup [x,y,z]):=by simp[h1,h2,h3]
theorem kN{f g:R->Option Out}{ρ ρ2:R}(h:f ρ=some (.nx ρ2)):kP f g ρ=g ρ2:=by simp[h]
theorem nD{f:R->OD}{st:D->R->Option R}{ρ ρ':R}{d:D}(h:f ρ=some d)(h2:st d ρ=some ρ'):kO f st ρ=some (.nx ρ'):=by simp[h,h2]
theorem F_{f:R->OD}{ρ:R}{m:Int}(h:f ρ=some (.int m))(h0:0<=m)(h1:m<=1000):mt f ρ=some (mH 0 m):=by
 have hr : -4611686018427387904<=m/\m<4611686018427387904:=by omega
 unfold mt
 rw[h]
 show(if -4611686018427387904<=m/\m<4611686018427387904 then some (mH 0 m) else none)=_
 rw[if_pos hr]
theorem inR{f:R->OD}{ρ:R}{n:Nat}(h:f ρ=some (.int n))(hn:n<=1000):mt f ρ=some (mH 0 n):=F_ h (by omega) (by omega)
theorem me{f:R->OD}{ρ:R}{d:D}(h:f ρ=some d):k_ (lV f ρ)=some d:=by simp[h]
theorem Ct{n:Nat}(h:n<=2000):n<=sizeLine:=Nat.le_trans h (by decide)
theorem pG:∀{kv:KI} {x:Ky} {d:D} {r:KI},lu kv x=some d->lu (kv++r) x=some d
 | (k,d')::kv,x,d,r,h=>by
  show(if k=x then some d' else lu (kv++r) x)=some d
  have h':(if k=x then some d' else lu kv x)=some d:=h
  split at h'<;>rename_i hk
  ·rw[if_pos hk];exact h'
  ·rw[if_neg hk];exact pG h'
def iT:R->Option Out:=
 (lV (qP 1 (lh (i8 kF (i4 0) (kI 2))) (setAt 0) mF (i8 kF (i4 0) (kI 1))))
def aZ:LD->OD:=via 1 1 iT
def d_:R->Option Out:=
 (lV (Hd (i6 aZ (i3 (i4 0) i5)) (i6 aZ (i3 (i4 1) i5))))
def aU:LD->OD:=via 2 2 d_
def cL:R->Option Out:=
 (lV (qP 1 (lh (i6 aZ (i3 (i4 0) i5))) (setAt 0) mF (i8 kF (i4 2) (i4 0))))
def aq:LD->OD:=via 2 2 cL
def cF:R->Option Out:=
  (kP (kO (i8 lB (i8 qW (i8 kY (i8 kY (i4 0) (i8 qW (kI 104729) (i4 1))) (kI 17)) (kI 69621)) (kI 2147483647)) (setAt 2))
  (lV (i8 lB (i8 kY (i8 kY (i8 qW (i4 2) (i4 2)) (i8 qW (kI 3) (i4 2))) (i4 1)) (kI 2147483629))))
def av:LD->OD:=via 2 3 cF
def qd(n k:Int):Int:=((n+104729*k+17)*69621%2147483647*((n+104729*k+17)*69621%2147483647)+3*((n+104729*k+17)*69621%2147483647)+k)%2147483629
theorem oD(n k:Int):av [.int n,.int k]=some (.int (qd n k)):=by
 unfold qd
 generalize hq:(n+104729*k+17)*69621%2147483647=q
 have q0:0<=q:=by rw[<- hq];exact Int.emod_nonneg _ (by decide)
 have q1:q<2147483647:=by rw[<- hq];exact Int.emod_lt_of_pos _ (by decide)
 have m1:lR 104729 k=true:=mN (by decide) (by decide)
 have m2:lR (n+104729*k+17) 69621=true:=uE (by decide) (by decide)
 have m3:lR q q=true:=mN (by omega) (by omega)
 have m4:lR 3 q=true:=mN (by decide) (by decide)
 simp[av,via,cF,m1,m2,hq,m3,m4]
def Aw:R->OD:=(i6 aZ (i3 (i8 kF (i8 kF (i4 1) (kI 2)) (i4 0)) i5))
def Ar:R->OD:=(i6 aU (i3 (i8 kF (i8 kF (i4 2) (kI 2)) (i8 kF (i4 0) (kI 0))) (i3 (i8 kF (i8 kF (i4 1) (kI 2)) (i8 kF (i4 0) (kI 1))) i5)))
def AQ:R->OD:=(i6 aq (i3 (i8 kF (i4 1) (i4 0)) (i3 (i4 2) i5)))
def zZ:R->OD:=(i6 av (i3 (i4 1) (i3 (i4 0) i5)))
def LL:vT:=fun t=>open Classical in if t=x9 then some (pd 2 Aw) else if t=xX then some (pd 3 Ar) else if t=xA then some (pd 3 AQ) else if t=Em then some (pd 2 zZ) else none
theorem Hv:LL x9=some (pd 2 Aw):=if_pos rfl
theorem GK:x9.ps.length=1:=rfl
theorem Hm:LL xX=some (pd 3 Ar):=(if_neg fun h=>absurd (congrArg (fun t:mS=>Gf t.body) h) (by decide)).trans (if_pos rfl)
theorem GG:xX.ps.length=1:=rfl
theorem Ho:LL xA=some (pd 3 AQ):=(if_neg fun h=>absurd (congrArg (fun t:mS=>Gf t.body) h) (by decide)).trans ((if_neg fun h=>absurd (congrArg (fun t:mS=>Gf t.body) h) (by decide)).trans (if_pos rfl))
theorem FW:xA.ps.length=1:=rfl
def dv:R->Nat->KI->Option (D×KI):=
  (wa 6
  (qg (lh (i4 1)) (setAt 3)
  (xh (yw (kO (qp LL 2 (i3 (i4 3) i5)) (setAt 4)))
  (qg (mt (i6 ml (i3 (fun _=>some aJ) i5))) (setAt 5)
  (FS (qU 0 (i8 kF (i4 4) (i4 5)))
  (xh (A8 0 (i8 kF (i4 4) (i4 5)) (yW kY (sU 0 (i4 3)) (zf (i8 kF (fun _=>some aJ) (i4 5)))))
  (Cp 6 (i8 kF (i4 4) (i4 5))))
  AZ)))))
def au:LD->Nat->KI->Option (D×KI):=fun ds=>dv (pe 7 ds)
def n6:List Str:=[oS "a",oS "b",oS "c",oS "A",oS "B",oS "C"]
def lL(w:Str)(s:KI×LD)(ep:Ky×Str):KI×LD:=if (lu s.1 ep.1).isNone then (s.1++[(ep.1,.str (w++ep.2))],s.2++[kH ep.1]) else s
def zy(lf:Bool)(kv:KI):Prop:=kv ≠ []/\∀p∈kv,p.1.isLeft=lf
theorem zy.kin{lf:Bool}{kv:KI}(h:zy lf kv){k:Ky}(hk:k.isLeft=lf):kin kv k=true:=by
 unfold HW.kin
 rw[Bool.and_eq_true]
 refine⟨?_,List.all_eq_true.mpr fun p hp=>by rw[h.2 p hp,hk];simp⟩
 cases kv with
 | nil=>exact absurd rfl h.1
 | cons=>rfl
theorem qu:∀k:Ky,rN (kH k)=some k
 | .inl _=>rfl
 | .inr _=>rfl
theorem yI{lf:Bool}{w:Str}{s:KI×LD}{ep:Ky×Str}(h:zy lf s.1)(he:ep.1.isLeft=lf):zy lf (lL w s ep).1:=by
 unfold lL
 split
 ·refine⟨by simp,fun p hp=>?_⟩
  rcases List.mem_append.mp hp with z | z
  ·exact h.2 p z
  ·rw[List.mem_singleton.mp z];exact he
 ·exact h
theorem vQ{lf:Bool}(w:Str):∀(l:List (Ky×Str)) {s:KI×LD},zy lf s.1->(∀q∈l,q.1.isLeft=lf)->zy lf (l.foldl (lL w) s).1
 | [],_,h,_=>h
 | e::l,s,h,hl=>vQ w l (yI h (hl e List.mem_cons_self)) fun q hq=>hl q (List.mem_cons_of_mem _ hq)
def El:WU:=(FS (qU 0 (i8 kF (i4 4) (i4 5)))
  (xh (A8 0 (i8 kF (i4 4) (i4 5)) (yW kY (sU 0 (i4 3)) (zf (i8 kF (fun _=>some aJ) (i4 5)))))
  (Cp 6 (i8 kF (i4 4) (i4 5))))
  AZ)
theorem pY{xs:LD}{i:Nat}{x:D}(h:xs[i]?=some x):wL xs (i:Int)=some x:=by
 have hi:=(List.getElem?_eq_some_iff.mp h).1
 unfold wL En
 rw[if_pos (by omega),if_pos (by omega)]
 exact h
theorem Cd{d:Nat}{a1 a2:OD}{x:Ky}{es:List Ky}{i:Nat}{e:Ky}{p w:Str}{kv:KI}{ds:LD}(he:es[i]?=some e)(hp:n6[i]?=some p)(hw:lu kv x=some (.str w))(hk:kv.length<1000)(hd:ds.length<1000)(hl:w.length<1000){lf:Bool}(hKd:zy lf kv)(hxl:x.isLeft=lf)(hel:e.isLeft=lf) :
  El [some (.obj 1 d [] []),a1,a2,some (kH x),some (.lst (es.map kH)),some (.int i)] d kv ds=some (.nx [some (.obj 1 d [] []),a1,a2,some (kH x),some (.lst (es.map kH)),some (.int i)],lL w (kv,ds) (e,p)):=by
 have q1:i8 kF (i4 4) (i4 5) [some (.obj 1 d [] []),a1,a2,some (kH x),some (.lst (es.map kH)),some (.int i)]=some (kH e):=by
  show wL (es.map kH) (i:Int)=_
  exact pY (by rw[List.getElem?_map,he];rfl)
 have q2:i8 kF (fun _=>some aJ) (i4 5) [some (.obj 1 d [] []),a1,a2,some (kH x),some (.lst (es.map kH)),some (.int i)]=some (.str p):=by
  show wL (n6.map .str) (i:Int)=_
  exact pY (by rw[List.getElem?_map,hp];rfl)
 have hat:isAt 0 [some (.obj 1 d [] []),a1,a2,some (kH x),some (.lst (es.map kH)),some (.int i)] d:=rfl
 have hpl:p.length<=1:=by
  have:∀y∈n6,y.length<=1:=by decide +kernel
  exact this p (List.mem_of_getElem? hp)
 generalize hρ:[some (.obj 1 d [] []),a1,a2,some (kH x),some (.lst (es.map kH)),some (.int i)]=ρ at *
 have v3:i4 3 ρ=some (kH x):=by rw[<- hρ];rfl
 have hlen:ρ.length=6:=by rw[<- hρ];rfl
 have t1:qU 0 (i8 kF (i4 4) (i4 5)) ρ d kv=some (lu kv e).isNone:=by
  unfold qU
  rw[q1]
  show((rN (kH e)).bind fun j=>if isAt 0 ρ d/\kin kv j=true then some (lu kv j).isNone else none)=_
  rw[qu,Option.bind_some,if_pos ⟨hat,hKd.kin hel⟩]
 unfold El FS
 rw[t1,Option.bind_some]
 unfold lL
 cases hn:(lu kv e).isNone with
 | false=>rfl
 | true =>
  rw[if_pos rfl,if_pos rfl]
  have g1:sU 0 (i4 3) ρ d kv=some (.str w):=by
   unfold sU
   rw[v3]
   show((rN (kH x)).bind fun j=>if isAt 0 ρ d/\kin kv j=true then lu kv j else none)=_
   rw[qu,Option.bind_some,if_pos ⟨hat,hKd.kin hxl⟩,hw]
  have g2:yW kY (sU 0 (i4 3)) (zf (i8 kF (fun _=>some aJ) (i4 5))) ρ d kv=some (.str (w++p)):=by
   unfold yW zf
   rw[g1,Option.bind_some,q2,Option.bind_some]
   show(if w.length+p.length<=sizeLine then _ else _)=_
   rw[if_pos (Ct (by omega))]
  have g3:A8 0 (i8 kF (i4 4) (i4 5)) (yW kY (sU 0 (i4 3)) (zf (i8 kF (fun _=>some aJ) (i4 5)))) ρ d kv ds=some (.nx ρ,kv++[(e,.str (w++p))],ds):=by
   unfold A8
   rw[g2,Option.bind_some,q1,Option.bind_some]
   rw[qu,Option.bind_some,if_pos ⟨hat,hKd.kin hel,hn,hk⟩]
  unfold xh
  rw[g3,Option.bind_some]
  unfold Cp
  show((i8 kF (i4 4) (i4 5) ρ).bind fun d=>if ρ.length=6/\ds.length<sizeLine then _ else _)=_
  rw[q1,Option.bind_some,if_pos ⟨hlen,Nat.lt_of_lt_of_le hd (by decide)⟩]
theorem xU{d:Nat}{a1 a2:OD}{x:Ky}{es:List Ky}{w:Str}{lf:Bool}(hxl:x.isLeft=lf)(hes:∀e∈es,e.isLeft=lf)(h6:es.length=6)(hl:w.length<1000):∀(k:Nat) (o:OD) (kv:KI) (ds:LD),k<=6->zy lf kv->lu kv x=some (.str w)->kv.length+k<1000->ds.length+k<1000 ->
  ∃o',vY (setAt 5) El ((mH 0 6).drop (6 - k)) [some (.obj 1 d [] []),a1,a2,some (kH x),some (.lst (es.map kH)),o] d kv ds=some (.nx [some (.obj 1 d [] []),a1,a2,some (kH x),some (.lst (es.map kH)),o'],((es.zip n6).drop (6 - k)).foldl (lL w) (kv,ds))
 | 0,o,kv,ds,_,_,_,_,_=>by
  refine⟨o,?_⟩
  have e2:(es.zip n6).drop 6=[]:=List.drop_eq_nil_of_le (by simp[n6,h6])
  rw[e2];rfl
 | k+1,o,kv,ds,hk,hKd,hw,h1,h2=>by
  have hi:6 - (k+1)<6:=by omega
  have e1:(mH 0 6).drop (6 - (k+1))=.int ((6 - (k+1):Nat):Int)::(mH 0 6).drop (6 - k):=by
   have hlen:(mH 0 6).length=6:=rfl
   rw[List.drop_eq_getElem_cons (by rw[hlen];exact hi),show 6 - (k+1)+1=6 - k by omega]
   congr 1
   simp[mH]
  have hz:(es.zip n6).length=6:=by simp[n6,h6]
  have e2:(es.zip n6).drop (6 - (k+1))=(es.zip n6)[6 - (k+1)]'(by omega)::(es.zip n6).drop (6 - k):=by
   rw[List.drop_eq_getElem_cons (by omega),show 6 - (k+1)+1=6 - k by omega]
  rw[e1,e2,List.getElem_zip,List.foldl_cons]
  have he:es[6 - (k+1)]?=some es[6 - (k+1)]:=List.getElem?_eq_getElem (by omega)
  have hp:n6[6 - (k+1)]?=some (n6[6 - (k+1)]'(by simp[n6];omega)):=List.getElem?_eq_getElem _
  have t:=Cd (d:=d) (a1:=a1) (a2:=a2) (ds:=ds) he hp hw (by omega) (by omega) hl hKd hxl (hes _ (List.getElem_mem _))
  have hKd':zy lf (lL w (kv,ds) (es[6 - (k+1)],n6[6 - (k+1)]'(by simp[n6];omega))).1:=yI hKd (hes _ (List.getElem_mem _))
  generalize es[6 - (k+1)]=e at *
  generalize (n6[6 - (k+1)]'(by simp[n6];omega))=p at *
  obtain⟨hw',l1,l2⟩:lu (lL w (kv,ds) (e,p)).1 x=some (.str w)/\(lL w (kv,ds) (e,p)).1.length<=kv.length+1/\(lL w (kv,ds) (e,p)).2.length<=ds.length+1:=by
   unfold lL
   split
   ·exact⟨pG hw,by simp,by simp⟩
   ·exact⟨hw,Nat.le_succ _,Nat.le_succ _⟩
  obtain⟨o',r⟩:=xU (d:=d) (a1:=a1) (a2:=a2) (x:=x) hxl hes h6 hl k (some (.int ((6 - (k+1):Nat):Int))) (lL w (kv,ds) (e,p)).1 (lL w (kv,ds) (e,p)).2 (by omega) hKd' hw' (by omega) (by omega)
  refine⟨o',?_⟩
  show((some [some (.obj 1 d [] []),a1,a2,some (kH x),some (.lst (es.map kH)),some (.int ((6 - (k+1):Nat):Int))]:Option R)).bind _=_
  rw[Option.bind_some,t]
  exact r
def rC(kv:KI)(x:Ky):Str:=match lu kv x with
 | some (.str w)=>w
 | _=>oS ""
def mq(go:Ky->List Ky)(s:KI×LD)(x:Ky):KI×LD:=((go x).zip n6).foldl (lL (rC s.1 x)) s
def zh:WU:=(xh (yw (kO (qp LL 2 (i3 (i4 3) i5)) (setAt 4)))
 (qg (mt (i6 ml (i3 (fun _=>some aJ) i5))) (setAt 5) El))
def Gives(c:D)(go:Ky->List Ky)(x:Ky):Prop:=(go x).length=6/\∀ ρ:R,i4 2 ρ=some c->i4 3 ρ=some (kH x)->qp LL 2 (i3 (i4 3) i5) ρ=some (.lst ((go x).map kH))
theorem AG{d:Nat}{a1 o4 o5:OD}{c:D}{go:Ky->List Ky}{x:Ky}{kv:KI}{ds:LD}{w:Str}{lf:Bool}(hxl:x.isLeft=lf)(hes:∀e∈go x,e.isLeft=lf)(hKd:zy lf kv)(hg:Gives c go x)(hw:lu kv x=some (.str w))(hl:w.length<1000)(hk:kv.length+6<1000)(hd:ds.length+6<1000) :
  ∃p4 p5,zh [some (.obj 1 d [] []),a1,some c,some (kH x),o4,o5] d kv ds=some (.nx [some (.obj 1 d [] []),a1,some c,some (kH x),p4,p5],mq go (kv,ds) x):=by
 obtain⟨h6,hc⟩:=hg
 have e1:=hc [some (.obj 1 d [] []),a1,some c,some (kH x),o4,o5] rfl rfl
 obtain⟨o',e2⟩:=xU (d:=d) (a1:=a1) (a2:=some c) (x:=x) (es:=go x) (w:=w) hxl hes h6 hl 6 o5 kv ds (Nat.le_refl _) hKd hw hk hd
 refine⟨some (.lst ((go x).map kH)),o',?_⟩
 have hwo:rC kv x=w:=by unfold rC;rw[hw]
 have e3:yw (kO (qp LL 2 (i3 (i4 3) i5)) (setAt 4)) [some (.obj 1 d [] []),a1,some c,some (kH x),o4,o5] d kv ds=some (.nx [some (.obj 1 d [] []),a1,some c,some (kH x),some (.lst ((go x).map kH)),o5],kv,ds):=by
  show((qp LL 2 (i3 (i4 3) i5) _).bind fun v=>(setAt 4 v _).map Out.nx).map _=_
  rw[e1]
  rfl
 unfold zh xh
 rw[e3,Option.bind_some]
 show qg (mt (i6 ml (i3 (fun _=>some aJ) i5))) (setAt 5) El [some (.obj 1 d [] []),a1,some c,some (kH x),some (.lst ((go x).map kH)),o5] d kv ds=_
 unfold qg
 show(some (mH 0 6)).bind _=_
 rw[Option.bind_some]
 unfold mq
 show vY (setAt 5) El (mH 0 6) _ d kv ds=some (_,(((go x).zip n6).foldl (lL (rC kv x)) (kv,ds)))
 rw[hwo]
 exact e2
theorem AF(w:Str)(s:KI×LD)(ep:Ky×Str):(lL w s ep).1.length<=s.1.length+1/\(lL w s ep).2.length<=s.2.length+1:=by
 unfold lL
 split
 ·exact⟨by simp,by simp⟩
 ·exact⟨Nat.le_succ _,Nat.le_succ _⟩
theorem uC(w:Str):∀(l:List (Ky×Str)) (s:KI×LD),(l.foldl (lL w) s).1.length<=s.1.length+l.length/\(l.foldl (lL w) s).2.length<=s.2.length+l.length
 | [],s=>⟨Nat.le_refl _,Nat.le_refl _⟩
 | e::l,s=>by
  have h1:=AF w s e
  have h2:=uC w l (lL w s e)
  rw[List.foldl_cons,List.length_cons]
  omega
theorem AV(w:Str){s:KI×LD}{ep:Ky×Str}{x:Ky}{d:D}(h:lu s.1 x=some d):lu (lL w s ep).1 x=some d:=by
 unfold lL
 split
 ·exact pG h
 ·exact h
theorem uz(w:Str):∀(l:List (Ky×Str)) {s:KI×LD} {x:Ky} {d:D},lu s.1 x=some d->lu (l.foldl (lL w) s).1 x=some d
 | [],_,_,_,h=>h
 | e::l,s,x,d,h=>uz w l (AV w h)
theorem wN{d:Nat}{a1:OD}{c:D}{go:Ky->List Ky}{lf:Bool}:∀(xs:List Ky) (o3 o4 o5:OD) (kv:KI) (ds:LD),zy lf kv->(∀x∈xs,(Gives c go x/\x.isLeft=lf/\∀e∈go x,e.isLeft=lf)/\∃w,lu kv x=some (.str w)/\w.length<1000)->kv.length+6*xs.length<1000->ds.length+6*xs.length<1000 ->
  ∃p3 p4 p5,vY (setAt 3) zh (xs.map kH) [some (.obj 1 d [] []),a1,some c,o3,o4,o5] d kv ds=some (.nx [some (.obj 1 d [] []),a1,some c,p3,p4,p5],xs.foldl (mq go) (kv,ds))
 | [],o3,o4,o5,kv,ds,_,_,_,_=>⟨o3,o4,o5,rfl⟩
 | x::xs,o3,o4,o5,kv,ds,hKd,h,h1,h2=>by
  rw[List.length_cons] at h1 h2
  obtain⟨⟨hg,hxl,hes⟩,w,hw,hl⟩:=h x List.mem_cons_self
  obtain⟨p4,p5,t⟩:=AG (d:=d) (a1:=a1) (o4:=o4) (o5:=o5) (ds:=ds) hxl hes hKd hg hw hl (by omega) (by omega)
  have hz:((go x).zip n6).length=6:=by simp[n6,hg.1]
  have hln:(mq go (kv,ds) x).1.length<=kv.length+6/\(mq go (kv,ds) x).2.length<=ds.length+6:=by
   have:=uC (rC kv x) ((go x).zip n6) (kv,ds)
   rw[hz] at this
   exact this
  obtain⟨q3,q4,q5,r⟩:=wN (d:=d) (a1:=a1) (c:=c) (go:=go) xs (some (kH x)) p4 p5 (mq go (kv,ds) x).1 (mq go (kv,ds) x).2 (vQ _ _ hKd fun q hq=>hes q.1 (List.of_mem_zip hq).1) (fun y hy=>by
   obtain⟨hg',w',hw',hl'⟩:=h y (List.mem_cons_of_mem _ hy)
   exact⟨hg',w',uz _ _ hw',hl'⟩) (by omega) (by omega)
  refine⟨q3,q4,q5,?_⟩
  show((some [some (.obj 1 d [] []),a1,some c,some (kH x),o4,o5]:Option R)).bind _=_
  rw[Option.bind_some,t]
  exact r
theorem AD{d:Nat}{c:D}{go:Ky->List Ky}{xs:List Ky}{kv:KI}{lf:Bool}(hKd:zy lf kv)(h:∀x∈xs,(Gives c go x/\x.isLeft=lf/\∀e∈go x,e.isLeft=lf)/\∃w,lu kv x=some (.str w)/\w.length<1000)(h1:kv.length+6*xs.length<1000) :
  au [.obj 1 d [] [],.lst (xs.map kH),c] d kv=some (.lst (xs.foldl (mq go) (kv,[])).2,(xs.foldl (mq go) (kv,[])).1):=by
 obtain⟨p3,p4,p5,r⟩:=wN (d:=d) (a1:=some (.lst (xs.map kH))) (c:=c) (go:=go) xs none none none kv [] hKd h h1 (by simp;omega)
 show wa 6 (qg (lh (i4 1)) (setAt 3) zh) [some (.obj 1 d [] []),some (.lst (xs.map kH)),some c,none,none,none,none] d kv=_
 unfold wa
 rw[if_pos (show([some (.obj 1 d [] []),some (.lst (xs.map kH)),some c,none,none,none,none]:R).length=6+1 from rfl)]
 have e:qg (lh (i4 1)) (setAt 3) zh [some (.obj 1 d [] []),some (.lst (xs.map kH)),some c,none,none,none] d kv []=some (.nx [some (.obj 1 d [] []),some (.lst (xs.map kH)),some c,p3,p4,p5],xs.foldl (mq go) (kv,[])):=r
 show(qg (lh (i4 1)) (setAt 3) zh [some (.obj 1 d [] []),some (.lst (xs.map kH)),some c,none,none,none] d kv []).bind _=_
 rw[e]
 rfl
def kD(kv:KI):List Ky:=kv.map (·.1)
theorem ou:∀{kv:KI} {x:Ky},lu kv x=none↔x∉kD kv
 | [],x=>by simp[lu,kD]
 | (k,d)::kv,x=>by
  have ih:=ou (kv:=kv) (x:=x)
  show(if k=x then some d else lu kv x)=none↔x∉k::kD kv
  by_cases h:k=x
  ·rw[if_pos h];simp[h]
  ·rw[if_neg h,ih,List.mem_cons,not_or]
   exact⟨fun z=>⟨fun q=>h q.symm,z⟩,fun z=>z.2⟩
theorem pH:∀{kv:KI} {x:Ky} {d:D},(kD kv).Nodup->(x,d)∈kv->lu kv x=some d
 | (k,d')::kv,x,d,nd,h=>by
  have nd':(k::kD kv).Nodup:=nd
  rw[List.nodup_cons] at nd'
  show(if k=x then some d' else lu kv x)=some d
  rcases List.mem_cons.mp h with e | h
  ·cases e;rw[if_pos rfl]
  ·have:k≠x:=fun z=>nd'.1 (z ▸ List.mem_map.mpr ⟨(x,d),h,rfl⟩)
   rw[if_neg this]
   exact pH nd'.2 h
def AK(p:Ky×Str):Ky×D:=(p.1,.str p.2)
def Good(k:KI)(L:Nat)(bx:List Ky)(go:Ky->List Ky)(p:Ky×Str):Prop:=True/\p.1∈bx/\p.2.length=L+1/\∃(x:Ky) (w:Str) (i:Nat) (pr:Str),(x,D.str w)∈k/\(go x)[i]?=some p.1/\n6[i]?=some pr/\p.2=w++pr
def Ey(k:KI)(L:Nat)(bx:List Ky)(go:Ky->List Ky)(s:KI×LD):Prop:=∃ext:List (Ky×Str),s.1=k++ext.map AK/\s.2=ext.map (fun p=>kH p.1)/\(∀p∈ext,Good k L bx go p)/\(kD s.1).Nodup
theorem rg{i:Nat}{pr:Str}(h:n6[i]?=some pr):pr.length=1:=by
 have:∀y∈n6,y.length=1:=by decide +kernel
 exact this pr (List.mem_of_getElem? h)
theorem str_len(a b:Str):(a++b).length=a.length+b.length:=by show(a.cps++b.cps).size=_;rw[Array.size_append];rfl
theorem BO{k:KI}{L:Nat}{bx:List Ky}{go:Ky->List Ky}{s:KI×LD}{x e:Ky}{w pr:Str}{i:Nat}(hE:Ey k L bx go s)(hx:(x,D.str w)∈k)(hw:w.length=L)(he:(go x)[i]?=some e)(hp:n6[i]?=some pr)(h0:True)(hn:e∈bx) :
  Ey k L bx go (lL w s (e,pr))/\e∈kD (lL w s (e,pr)).1/\∀y∈kD s.1,y∈kD (lL w s (e,pr)).1:=by
 obtain⟨ext,e1,e2,hg,nd⟩:=hE
 unfold lL
 by_cases h:(lu s.1 e).isNone=true
 ·rw[if_pos h]
  have hk:e∉kD s.1:=ou.mp (Option.isNone_iff_eq_none.mp h)
  have hks:kD (s.1++[(e,D.str (w++pr))])=kD s.1++[e]:=by simp[kD]
  refine⟨⟨ext++[(e,w++pr)],?_,?_,fun p hp'=>?_,?_⟩,?_,fun y hy=>?_⟩
  ·show s.1++[(e,D.str (w++pr))]=_
   rw[e1,List.map_append,List.append_assoc];rfl
  ·show s.2++[kH e]=_
   rw[e2,List.map_append];rfl
  ·rcases List.mem_append.mp hp' with z | z
   ·exact hg p z
   ·rw[List.mem_singleton.mp z]
    exact⟨h0,hn,by rw[str_len,hw,rg hp],x,w,i,pr,hx,he,hp,rfl⟩
  ·show(kD (s.1++[(e,D.str (w++pr))])).Nodup
   rw[hks,List.nodup_append]
   refine⟨nd,by simp,fun a ha b hb=>?_⟩
   rw[List.mem_singleton.mp hb]
   exact fun z=>hk (z ▸ ha)
  ·show e∈kD (s.1++[(e,D.str (w++pr))])
   rw[hks];simp
  ·show y∈kD (s.1++[(e,D.str (w++pr))])
   rw[hks];exact List.mem_append_left _ hy
 ·rw[if_neg h]
  refine⟨⟨ext,e1,e2,hg,nd⟩,?_,fun y hy=>hy⟩
  exact Classical.byContradiction fun z=>h (by rw[ou.mpr z];rfl)
theorem xZ{k:KI}{L:Nat}{bx:List Ky}{go:Ky->List Ky}{x:Ky}{w:Str}(hx:(x,D.str w)∈k)(hw:w.length=L)(hr:∀e∈go x,True/\e∈bx):∀(l:List (Ky×Str)) (s:KI×LD),(∀q∈l,∃i:Nat,(go x)[i]?=some q.1/\n6[i]?=some q.2)->Ey k L bx go s ->
  Ey k L bx go (l.foldl (lL w) s)/\(∀q∈l,q.1∈kD (l.foldl (lL w) s).1)/\∀y∈kD s.1,y∈kD (l.foldl (lL w) s).1
 | [],s,_,hE=>⟨hE,fun q hq=>absurd hq (by simp),fun y hy=>hy⟩
 | (e,pr)::l,s,hl,hE=>by
  obtain⟨i,h1,h2⟩:=hl (e,pr) List.mem_cons_self
  obtain⟨h0,hn⟩:=hr e (List.mem_of_getElem? h1)
  obtain⟨a1,a2,a3⟩:=BO hE hx hw h1 h2 h0 hn
  obtain⟨b1,b2,b3⟩:=xZ hx hw hr l _ (fun q hq=>hl q (List.mem_cons_of_mem _ hq)) a1
  refine⟨b1,fun q hq=>?_,fun y hy=>b3 y (a3 y hy)⟩
  rcases List.mem_cons.mp hq with z | z
  ·rw[z];exact b3 e a2
  ·exact b2 q z
theorem yp{k:KI}{L:Nat}{bx:List Ky}{go:Ky->List Ky}(nd:(kD k).Nodup):∀(xs:List Ky) (s:KI×LD),(∀x∈xs,(go x).length=6/\(∀e∈go x,True/\e∈bx)/\∃w,(x,D.str w)∈k/\w.length=L)->Ey k L bx go s ->
  Ey k L bx go (xs.foldl (mq go) s)/\(∀x∈xs,∀e∈go x,e∈kD (xs.foldl (mq go) s).1)/\∀y∈kD s.1,y∈kD (xs.foldl (mq go) s).1
 | [],s,_,hE=>⟨hE,fun x hx=>absurd hx (by simp),fun y hy=>hy⟩
 | x::xs,s,h,hE=>by
  obtain⟨h6,hr,w,hx,hw⟩:=h x List.mem_cons_self
  have hget:lu s.1 x=some (.str w):=by
   obtain⟨ext,e1,_,_,_⟩:=hE
   rw[e1]
   exact pG (pH nd hx)
  have hwo:rC s.1 x=w:=by unfold rC;rw[hget]
  have hz:∀q∈(go x).zip n6,∃i:Nat,(go x)[i]?=some q.1/\n6[i]?=some q.2:=fun q hq=>by
   obtain⟨i,hi⟩:=List.getElem?_of_mem hq
   obtain⟨z1,z2⟩:=List.getElem?_zip_eq_some.mp hi
   exact⟨i,z1,z2⟩
  obtain⟨a1,a2,a3⟩:=xZ hx hw hr ((go x).zip n6) s hz hE
  have es:mq go s x=((go x).zip n6).foldl (lL w) s:=by unfold mq;rw[hwo]
  rw[<- es] at a1 a2 a3
  obtain⟨b1,b2,b3⟩:=yp nd xs (mq go s x) (fun y hy=>h y (List.mem_cons_of_mem _ hy)) a1
  refine⟨b1,fun y hy e he=>?_,fun y hy=>b3 y (a3 y hy)⟩
  rcases List.mem_cons.mp hy with z | z
  ·subst z
   obtain⟨i,hi⟩:=List.getElem?_of_mem he
   have hi6:i<6:=by have:=(List.getElem?_eq_some_iff.mp hi).1;omega
   obtain⟨pr,hpr⟩:∃pr,n6[i]?=some pr:=⟨_,List.getElem?_eq_getElem (show i<n6.length from hi6)⟩
   exact b3 e (a2 (e,pr) (List.mem_of_getElem? (List.getElem?_zip_eq_some.mpr ⟨hi,hpr⟩)))
  ·exact b2 y z e he
structure BI (go:Ky->List Ky) (bx:List Ky) (s:Ky) (kv:KI) (xs:List Ky) (L:Nat):Prop where
 nd:(kD kv).Nodup
 val:∀p∈kv,True/\p.1∈bx/\∃w,p.2=.str w/\w.length<=L
 st:(s,D.str (oS ""))∈kv
 new:∀x∈xs,∃w,(x,D.str w)∈kv/\w.length=L
 xl:xs.length<=kv.length
 cl:∀x w,(x,D.str w)∈kv->x∉xs->∀e∈go x,∃v,(e,D.str v)∈kv/\v.length<=w.length+1
 tr:∀x w,(x,D.str w)∈kv->(x=s/\w=oS "")\/∃(y:Ky) (v:Str) (i:Nat) (pr:Str),(y,D.str v)∈kv/\(go y)[i]?=some x/\n6[i]?=some pr/\w=v++pr
theorem nY{kv:KI}{x:Ky}(h:x∈kD kv):∃d,(x,d)∈kv:=by
 obtain⟨p,hp,rfl⟩:=List.mem_map.mp h
 exact⟨p.2,hp⟩
theorem BI.inj{go:Ky->List Ky}{bx:List Ky}{s:Ky}{kv:KI}{xs:List Ky}{L:Nat}(h:BI go bx s kv xs L){x:Ky}{v w:Str}(h1:(x,D.str v)∈kv)(h2:(x,D.str w)∈kv):v=w:=by
 have:=(pH h.nd h1).symm.trans (pH h.nd h2)
 injection this with z
 injection z
theorem BI.len{go:Ky->List Ky}{bx:List Ky}{s:Ky}{kv:KI}{xs:List Ky}{L:Nat}(h:BI go bx s kv xs L):kv.length<=bx.length:=by
 have hl:(kD kv).length<=bx.length:=List.Nodup.length_le_of_subset h.nd fun x hx=>by
  obtain⟨d,hd⟩:=nY hx
  exact(h.val _ hd).2.1
 simpa [kD] using hl
theorem BI.step{go:Ky->List Ky}{bx:List Ky}{s:Ky}{kv:KI}{xs:List Ky}{L:Nat}(h:BI go bx s kv xs L)(hgo:∀x:Ky,x∈bx->(go x).length=6/\∀e∈go x,True/\e∈bx) :
  ∃fd:List Ky,(xs.foldl (mq go) (kv,[])).2=fd.map kH/\BI go bx s (xs.foldl (mq go) (kv,[])).1 fd (L+1)/\(fd ≠ []->kv.length<(xs.foldl (mq go) (kv,[])).1.length):=by
 have hx:∀x∈xs,(go x).length=6/\(∀e∈go x,True/\e∈bx)/\∃w,(x,D.str w)∈kv/\w.length=L:=fun x hx=>by
  obtain⟨w,hw,hl⟩:=h.new x hx
  obtain⟨h0,hn,_⟩:=h.val _ hw
  obtain⟨g1,g2⟩:=hgo x hn
  exact⟨g1,g2,w,hw,hl⟩
 obtain⟨⟨ext,e1,e2,hg,nd⟩,hc,hk⟩:=yp h.nd xs (kv,[]) hx ⟨[],by simp,rfl,fun p hp=>absurd hp (by simp),h.nd⟩
 generalize (xs.foldl (mq go) (kv,[])).1=kv' at *
 generalize (xs.foldl (mq go) (kv,[])).2=fd' at *
 subst e1 e2
 have old:∀{p:Ky×D},p∈kv->p∈kv++ext.map AK:=fun hp=>List.mem_append_left _ hp
 have isnew:∀{x:Ky} {w:Str},(x,D.str w)∈kv++ext.map AK->(x,D.str w)∈kv\/(x,w)∈ext:=fun {x w} hm=>by
  rcases List.mem_append.mp hm with z | z
  ·exact .inl z
  ·obtain⟨p,hp,ep⟩:=List.mem_map.mp z
   unfold AK at ep
   injection ep with a b
   injection b with b
   subst a b
   exact .inr hp
 refine⟨ext.map (·.1),by rw[List.map_map];rfl,⟨nd,fun p hp=>?_,old h.st,fun x hx'=>?_,?_,fun x w hm hn e he=>?_,fun x w hm=>?_⟩,fun hne=>?_⟩
 ·rcases List.mem_append.mp hp with z | z
  ·obtain⟨h0,hn,w,hw,hl⟩:=h.val p z
   exact⟨h0,hn,w,hw,by omega⟩
  ·obtain⟨q,hq,rfl⟩:=List.mem_map.mp z
   obtain⟨h0,hn,hl,_⟩:=hg q hq
   exact⟨h0,hn,q.2,rfl,by omega⟩
 ·obtain⟨q,hq,rfl⟩:=List.mem_map.mp hx'
  exact⟨q.2,List.mem_append_right _ (List.mem_map.mpr ⟨q,hq,rfl⟩),(hg q hq).2.2.1⟩
 ·simp
 ·rcases isnew hm with z | z
  ·by_cases hxx:x∈xs
   ·obtain⟨d,hd⟩:=nY (hc x hxx e he)
    obtain⟨v0,hv0,hl0⟩:=h.new x hxx
    have:w=v0:=h.inj z hv0
    rcases List.mem_append.mp hd with y | y
    ·obtain⟨_,_,v,hv,hl⟩:=h.val _ y
     have hv':d=.str v:=hv
     subst hv'
     exact⟨v,hd,by rw[this,hl0];omega⟩
    ·obtain⟨q,hq,eq⟩:=List.mem_map.mp y
     have eq':d=.str q.2:=by unfold AK at eq;injection eq with _ b;exact b.symm
     subst eq'
     exact⟨q.2,hd,by rw[(hg q hq).2.2.1,this,hl0];omega⟩
   ·obtain⟨v,hv,hl⟩:=h.cl x w z hxx e he
    exact⟨v,old hv,hl⟩
  ·exact absurd (List.mem_map.mpr ⟨(x,w),z,rfl⟩) hn
 ·rcases isnew hm with z | z
  ·rcases h.tr x w z with a | ⟨y,v,i,pr,h1,h2,h3,h4⟩
   ·exact .inl a
   ·exact .inr ⟨y,v,i,pr,old h1,h2,h3,h4⟩
  ·obtain⟨_,_,_,y,v,i,pr,h1,h2,h3,h4⟩:=hg (x,w) z
   exact .inr ⟨y,v,i,pr,old h1,h2,h3,h4⟩
 ·rw[List.length_append,List.length_map]
  have:ext ≠ []:=fun z=>hne (by rw[z];rfl)
  have:0<ext.length:=List.length_pos_iff.mpr this
  omega
def mD{α:Type}[DecidableEq α](sn:List α)(e:α):List α:=if e∈sn then sn else sn++[e]
def mW{α:Type}[DecidableEq α](go:α->List α)(sn:List α)(x:α):List α:=(go x).foldl mD sn
inductive vJ {α:Type} (pr:List α->α->List α):List α->Nat->List α->Prop
 | done {sn:List α} {i:Nat}:sn.length<=i->vJ pr sn i sn
 | step {sn r:List α} {i:Nat}:i<sn.length->vJ pr ((sn.drop i).foldl pr sn) sn.length r->vJ pr sn i r
theorem zk(w:Str)(s:KI×LD)(ep:Ky×Str):kD (lL w s ep).1=mD (kD s.1) ep.1:=by
 unfold lL mD
 by_cases h:ep.1∈kD s.1
 ·rw[if_pos h,if_neg (fun z=>ou.mp (Option.isNone_iff_eq_none.mp z) h)]
 ·rw[if_neg h,if_pos (by rw[ou.mpr h];rfl)]
  simp[kD]
theorem sD(w:Str):∀(l:List (Ky×Str)) (s:KI×LD),kD (l.foldl (lL w) s).1=(l.map (·.1)).foldl mD (kD s.1)
 | [],_=>rfl
 | e::l,s=>by rw[List.foldl_cons,sD w l,zk];rfl
theorem yU{go:Ky->List Ky}{s:KI×LD}{x:Ky}(h:(go x).length=6):kD (mq go s x).1=mW go (kD s.1) x:=by
 unfold mq mW
 rw[sD,List.map_fst_zip (by rw[h];exact Nat.le_refl _)]
theorem sx{go:Ky->List Ky}:∀(xs:List Ky) (s:KI×LD),(∀x∈xs,(go x).length=6)->kD (xs.foldl (mq go) s).1=xs.foldl (mW go) (kD s.1)
 | [],_,_=>rfl
 | x::xs,s,h=>by rw[List.foldl_cons,sx xs _ fun y hy=>h y (List.mem_cons_of_mem _ hy),yU (h x List.mem_cons_self)];rfl
theorem w6(w:Str)(s:KI×LD)(ep:Ky×Str):∃F:List Ky,kD (lL w s ep).1=kD s.1++F/\(lL w s ep).2=s.2++F.map kH:=by
 unfold lL
 split
 ·exact⟨[ep.1],by simp[kD],rfl⟩
 ·exact⟨[],by simp,by simp⟩
theorem rm(w:Str):∀(l:List (Ky×Str)) (s:KI×LD),∃F:List Ky,kD (l.foldl (lL w) s).1=kD s.1++F/\(l.foldl (lL w) s).2=s.2++F.map kH
 | [],s=>⟨[],by simp,by simp⟩
 | e::l,s=>by
  obtain⟨F1,a1,a2⟩:=w6 w s e
  obtain⟨F2,b1,b2⟩:=rm w l (lL w s e)
  exact⟨F1++F2,by rw[List.foldl_cons,b1,a1,List.append_assoc],by rw[List.foldl_cons,b2,a2,List.append_assoc,List.map_append]⟩
theorem rF{go:Ky->List Ky}:∀(xs:List Ky) (s:KI×LD),∃F:List Ky,kD (xs.foldl (mq go) s).1=kD s.1++F/\(xs.foldl (mq go) s).2=s.2++F.map kH
 | [],s=>⟨[],by simp,by simp⟩
 | x::xs,s=>by
  obtain⟨F1,a1,a2⟩:=rm (rC s.1 x) ((go x).zip n6) s
  obtain⟨F2,b1,b2⟩:=rF xs (mq go s x)
  refine⟨F1++F2,?_,?_⟩
  ·rw[List.foldl_cons,b1];unfold mq;rw[a1,List.append_assoc]
  ·rw[List.foldl_cons,b2];unfold mq;rw[a2,List.append_assoc,List.map_append]
theorem AY{a b:Ky}(h:kH a=kH b):a=b:=by
 have:=congrArg rN h
 rw[qu,qu] at this
 exact Option.some.inj this
theorem ul:∀{a b:List Ky},a.map kH=b.map kH->a=b
 | [],[],_=>rfl
 | [],_::_,h=>by cases h
 | _::_,[],h=>by cases h
 | x::a,y::b,h=>by
  rw[List.map_cons,List.map_cons] at h
  injection h with h1 h2
  rw[AY h1,ul h2]
theorem ui{go:Ky->List Ky}{bx:List Ky}{s:Ky}{lf:Bool}(hkd:∀x∈bx,x.isLeft=lf)(hn8:bx.length<=64)(hgo:∀x:Ky,x∈bx->(go x).length=6/\∀e∈go x,True/\e∈bx)(hgo2:True):∀(m:Nat) (xs:List Ky) (kv:KI) (L:Nat),BI go bx s kv xs L->L+m<=100->(xs ≠ []->bx.length+2<=m+kv.length)->1<=m->∀P:List Ky,kD kv=P++xs ->
  ∃kf L',(∀c,(∀x:Ky,x∈bx->Gives c go x)->∀d,wD au c m (xs.map kH) d kv=some kf)/\BI go bx s kf [] L'/\L'<=100/\vJ (mW go) (kD kv) P.length (kD kf)
 | 0,_,_,_,_,_,_,h,_,_=>absurd h (by decide)
 | m+1,[],kv,L,h,kZ,_,_,P,hP=>⟨kv,L,fun c _ d=>rfl,h,by omega,.done (by rw[hP];simp)⟩
 | m+1,x::xs,kv,L,h,kZ,hm,_,P,hP=>by
  have hm:=hm (by simp)
  obtain⟨fd,e2,h',hne⟩:=h.step hgo
  have hlen:=h.len
  have hxl:=h.xl
  have po:∀c,(∀x:Ky,x∈bx->Gives c go x)->∀d,au [.obj 1 d [] [],.lst ((x::xs).map kH),c] d kv=some (.lst (fd.map kH),((x::xs).foldl (mq go) (kv,[])).1):=fun c hG d=>by
   rw[<- e2]
   refine AD (lf:=lf) ⟨fun z=>by rw[z] at hxl;simp at hxl,fun p hp=>hkd _ (h.val p hp).2.1⟩ (fun y hy=>?_) (by omega)
   obtain⟨w,hw,hl⟩:=h.new y hy
   obtain⟨h0,hn,_⟩:=h.val _ hw
   exact⟨⟨hG y hn,hkd y hn,fun e he=>hkd e ((hgo y hn).2 e he).2⟩,w,pH h.nd hw,by omega⟩
  have hlen':=h'.len
  have hkeys:kD ((x::xs).foldl (mq go) (kv,[])).1=kD kv++fd:=by
   obtain⟨F,a1,a2⟩:=rF (go:=go) (x::xs) (kv,[])
   rw[e2,List.nil_append] at a2
   rw[a1,ul a2]
  have hks:=sx (go:=go) (x::xs) (kv,[]) fun y hy=>(hgo y (let ⟨w,hw,_⟩:=h.new y hy;(h.val _ hw).2.1)).1
  obtain⟨kf,L',hk,hB,hb,hlr⟩:=ui hkd hn8 hgo trivial m fd _ (L+1) h' (by omega) (fun z=>by have:=hne z;omega) (by omega) (kD kv) hkeys
  have hlr':vJ (mW go) (kD kv) P.length (kD kf):=by
   refine .step (by rw[hP];simp) ?_
   rw[show(kD kv).drop P.length=x::xs by rw[hP];simp,<- hks]
   exact hlr
  refine⟨kf,L',fun c hG d=>?_,hB,hb,hlr'⟩
  show(au [.obj 1 d [] [],.lst ((x::xs).map kH),c] d kv).bind _=_
  rw[po c hG d]
  exact hk c hG d
theorem so{go:Ky->List Ky}{bx:List Ky}{s:Ky}{lf:Bool}(hkd:∀x∈bx,x.isLeft=lf)(hn8:bx.length<=64)(hs:s∈bx)(hgo:∀x:Ky,x∈bx->(go x).length=6/\∀e∈go x,True/\e∈bx) :
  ∃kf L',(∀c,(∀x:Ky,x∈bx->Gives c go x)->∀d,wD au c 100 [kH s] d [(s,.str (oS ""))]=some kf)/\BI go bx s kf [] L'/\L'<=100/\vJ (mW go) [s] 0 (kD kf):=by
 have he:(oS "").length=0:=by decide +kernel
 refine ui hkd hn8 hgo trivial 100 [s] [(s,.str (oS ""))] 0 ⟨by simp[kD],fun p hp=>?_,List.mem_cons_self,fun x hx=>?_,Nat.le_refl _,fun x w hm hn=>?_,fun x w hm=>?_⟩ (by decide) (fun _=>by simp;omega) (by decide) [] rfl
 ·rw[List.mem_singleton.mp hp];exact⟨trivial,hs,_,rfl,by rw[he];exact Nat.le_refl _⟩
 ·rw[List.mem_singleton.mp hx];exact⟨_,List.mem_cons_self,he⟩
 ·have z:=List.mem_singleton.mp hm
  injection z with a b
  exact absurd (by rw[a];exact List.mem_cons_self) hn
 ·have z:=List.mem_singleton.mp hm
  injection z with a b
  injection b with b
  exact .inl ⟨a,b⟩
def eR:R->Option Out:=
 (qj au 4 0 1 (.str (oS "")))
def ay:LD->OD:=via 2 4 eR
def cU:R->Option Out:=
 (lV (oe ay x9 (i3 (i4 1) i5) (ni [0])))
def bb:LD->OD:=via 2 2 cU
theorem eZ:∀ds d,bb ds=some d->k_ (cU (pe 2 ds))=some d:=fun _ _ h=>dt h
theorem fc:∀ds d,bb ds=some d->ds.length=2:=fun _ _ h=>bT h
def fY:R->Option Out:=
 (lV (i6 qe (i3 (i6 w9 (i3 (i6 bb (i3 (i4 0) (i3 (kI 0) i5))) i5)) i5)))
def bC:LD->OD:=via 1 1 fY
theorem iZ:∀ds d,bC ds=some d->k_ (fY (pe 1 ds))=some d:=fun _ _ h=>dt h
theorem iQ:∀ds d,bC ds=some d->ds.length=1:=fun _ _ h=>bT h
def iS:R->Option Out:=
 (lV (kG (i3 (i8 kF (i4 0) (kI 0)) (i3 (i8 kF (i4 0) (kI 1)) i5))))
def a_:LD->OD:=via 1 1 iS
def fB:R->Option Out:=
 (lV (qP 1 (lh (i8 kF (i4 0) (kI 2))) (setAt 0) mF (i8 kF (i4 0) (kI 0))))
def aC:LD->OD:=via 1 1 fB
def fI:R->Option Out:=
  (kP (uT (lC qX (i6 a_ (i3 (i4 0) i5)) (i6 a_ (i3 (i4 1) i5)))
  (lV (BH (i3 (kS "") i5)))
  m9)
  (lV (qP 1 (mt (i6 ml (i3 (fun _=>some aJ) i5))) (setAt 0) (lC Ex (i8 kF (i6 aC (i3 (i4 1) i5)) (i4 0)) (i8 kF (i6 aC (i3 (i4 2) i5)) (i4 0))) (i8 kF (fun _=>some aJ) (i4 0)))))
def bf:LD->OD:=via 2 2 fI
def gh:R->Option Out:=
  (kP (kO (oe ay xX (i3 (kG (i3 (kI 0) (i3 (kI 0) i5))) i5) (ni [1,0])) (setAt 2))
  (E3 4 i5
  (wd (yc (uc (i4 2)) (setAt 3)
  (xx 4 (qP 1 (lh (i6 bf (i3 (i8 kF (i8 kF (i4 0) (kI 2)) (i8 kF (i4 3) (kI 0))) (i3 (i8 kF (i8 kF (i4 1) (kI 2)) (i8 kF (i4 3) (kI 1))) i5)))) (setAt 0) mF (i8 kY (i8 Cq (i4 3) (i4 4)) (i4 0)))))
  (vP (lV (i6 sC (i3 (i4 4) i5)))))))
def aM:LD->OD:=via 2 5 gh
theorem ja:∀ds d,aM ds=some d->k_ (gh (pe 5 ds))=some d:=fun _ _ h=>dt h
theorem jq:∀ds d,aM ds=some d->ds.length=2:=fun _ _ h=>bT h
def cT:R->Option Out:=
 (lV (Fz (lC zi (i6 aM (i3 (i4 0) (i3 (i4 1) i5))) (fun _=>some .non))))
def aB:LD->OD:=via 2 2 cT
theorem fe:∀ds d,aB ds=some d->k_ (cT (pe 2 ds))=some d:=fun _ _ h=>dt h
theorem fm:∀ds d,aB ds=some d->ds.length=2:=fun _ _ h=>bT h
def dq:R->Option Out:=
 (lV (qP 1 (lh (i4 0)) (setAt 0) mF (i6 vV (i3 (i4 1) (i3 (i4 0) i5)))))
def aH:LD->OD:=via 1 1 dq
def cq:R->Option Out:=
 (lV (i6 aH (i3 (qP 1 (mt (i6 ml (i3 (i4 0) i5))) (setAt 0) mF (kG (i3 (i8 kF (i4 2) (i4 0)) (i3 (i6 aq (i3 (i8 kF (i4 1) (i4 0)) (i3 (i4 2) i5))) i5)))) i5)))
def aK:LD->OD:=via 2 2 cq
def dO:R->Option Out:=
  (kP (kO (i6 aH (i3 (qP 1 (lh (i4 0)) (setAt 0) mF (kG (i3 (i6 a_ (i3 (i4 0) i5)) (i3 (i6 aC (i3 (i4 0) i5)) i5)))) i5)) (setAt 1))
  (kP (kO (i6 aK (i3 (i4 0) (i3 (i4 1) i5))) (setAt 2))
  (kP (vj (lC qX (i4 2) (i4 1))
  (kP (kO (i4 2) (setAt 1))
  (kO (i6 aK (i3 (i4 0) (i3 (i4 1) i5))) (setAt 2))) 20)
  (lV (i4 1)))))
def bi:LD->OD:=via 1 3 dO
def gK:R->Option Out:=
  (kP (kO (qP 1 (lh (i8 kF (i4 0) (kI 2))) (setAt 0) mF (kG (i3 (i8 kF (i4 0) (kI 0)) (i3 (i6 oy (i3 (i4 3) (i3 (i8 kF (i4 2) (i8 kF (i4 0) (kI 1))) i5))) i5)))) (setAt 3))
  (lV (kG (i3 (i8 kF (i4 0) (kI 0)) (i3 (i8 kF (i4 0) (kI 1)) (i3 (i6 qe (i3 (i4 3) i5)) i5))))))
def bK:LD->OD:=via 3 4 gK
def fX:R->Option Out:=
  (kP (kO (i8 kF (i4 0) (kI 2)) (setAt 1))
  (kP (kO (i6 bi (i3 (i4 1) i5)) (setAt 2))
  (kP (kO (i6 xE (i3 (oe ay xA (i3 (kI 0) i5) (ni [1,2])) i5)) (setAt 3))
  (lV (kG (i3 (i8 kF (i4 0) (kI 0)) (i3 (i8 kF (i4 0) (kI 1)) (i3 (i6 qe (i3 (qP 1 (lh (i4 3)) (setAt 0) mF (i6 bK (i3 (i8 kF (i4 2) (i4 0)) (i3 (i4 3) (i3 (i4 4) i5))))) i5)) i5))))))))
def bv:LD->OD:=via 1 4 fX
theorem iR:∀ds d,bv ds=some d->k_ (fX (pe 4 ds))=some d:=fun _ _ h=>dt h
theorem jg:∀ds d,bv ds=some d->ds.length=1:=fun _ _ h=>bT h
def bF:R->Option Out:=
  (kP (uT (lC EO (i4 1) (i6 ml (i3 (i4 0) i5)))
  (lV (i8 kF (i4 0) (i4 1)))
  m9)
  (lV (kI 0)))
def aD:LD->OD
 | [.fro xs,.int k]=>if 0<=k then (if k<xs.length then xs[k.toNat]? else some (.int 0)) else none
 | _=>none
theorem dj:∀ds d,aD ds=some d->k_ (bF (pe 2 ds))=some d
 | [.fro xs,.int k],d,h=>by
  unfold aD at h
  dsimp only at h
  split at h
  ·rename_i h0
   split at h
   ·rename_i h1
    obtain⟨hk,e⟩:=List.getElem?_eq_some_iff.mp h
    simp[bF,h1,wL,En,h0]
    exact e
   ·rename_i h1
    cases h
    simp[bF,h1]
  ·cases h
theorem dE:∀ds d,aD ds=some d->ds.length=2:=fun ds d h=>by unfold aD at h;split at h<;>first | rfl | cases h
def cC:R->Option Out:=
  (kP (kO (i8 lB (i8 qW (i8 kY (i8 kY (i6 aD (i3 (i4 0) (i3 (i4 1) i5))) (i8 qW (kI 7919) (i4 1))) (kI 1)) (kI 48271)) (kI 2147483647)) (setAt 2))
  (lV (i8 lB (i8 kY (i8 kY (i8 qW (i4 2) (i4 2)) (i8 qW (kI 7) (i4 2))) (i4 1)) (kI 2147483629))))
def aG:LD->OD:=via 2 3 cC
theorem yQ(ns:List Int)(k:Int)(h0:0<=k):∃c,aD [.fro (ns.map .int),.int k]=some (.int c):=by
 unfold aD
 dsimp only
 rw[if_pos h0]
 by_cases h1:k<((ns.map D.int).length:Int)
 ·rw[if_pos h1]
  have h2:k.toNat<ns.length:=by simp at h1;omega
  exact⟨ns[k.toNat],by rw[List.getElem?_map,List.getElem?_eq_getElem h2];rfl⟩
 ·rw[if_neg h1]
  exact⟨0,rfl⟩
theorem sE(ns:List Int)(k:Int)(h0:0<=k):∃m,aG [.fro (ns.map .int),.int k]=some (.int m)/\0<=m:=by
 obtain⟨c,hc⟩:=yQ ns k h0
 generalize hq:(c+7919*k+1)*48271%2147483647=q
 have q0:0<=q:=by rw[<- hq];exact Int.emod_nonneg _ (by decide)
 have q1:q<2147483647:=by rw[<- hq];exact Int.emod_lt_of_pos _ (by decide)
 have m1:lR 7919 k=true:=mN (by decide) (by decide)
 have m2:lR (c+7919*k+1) 48271=true:=uE (by decide) (by decide)
 have m3:lR q q=true:=mN (by omega) (by omega)
 have m4:lR 7 q=true:=mN (by decide) (by decide)
 refine⟨(q*q+7*q+k)%2147483629,?_,Int.emod_nonneg _ (by decide)⟩
 simp[aG,via,cC,hc,m1,m2,hq,m3,m4]
def cR:R->Option Out:=
  (kP (kO (i8 kY (kI 1) (i8 lB (i4 0) (kI 8))) (setAt 1))
  (kP (kO (kG (i3 (kS "none") (i3 (kS "hour") (i3 (kS "minute") (i3 (kS "zero") (i3 (kS "ahour") (i3 (kS "aminute") (i3 (kS "alarm") (i3 (kS "run") (i3 (kS "lap") (i3 (kS "cminute") (i3 (kS "csecond") (i3 (kS "full") i5))))))))))))) (setAt 2))
  (kP (kO (kG i5) (setAt 3))
  (kP (mJ (mt (i4 1)) (setAt 4)
  (kP (kO (i8 mK (i6 av (i3 (i4 0) (i3 (i4 4) i5))) (kI 4)) (setAt 5))
  (kP (kO (kG i5) (setAt 6))
  (kP (mJ (mt (kI 6)) (setAt 7)
  (kP (kO (i8 mK (i6 av (i3 (i4 5) (i3 (i8 kY (kI 10) (i4 7)) i5))) (kI 4)) (setAt 8))
  (kO (i8 kY (i4 6) (kG (i3 (kG (i3 (i8 kF (i8 kY (i4 2) (kG (i3 (kS "count") i5))) (i8 lB (i4 8) (kI 13))) (i3 (i8 lB (i8 mK (i4 8) (kI 16)) (i4 1)) i5))) i5))) (setAt 6))))
  (kP (kO (i8 kF (kG (i3 (kS "time") (i3 (kS "alarm") (i3 (kS "laps") (i3 (kS "count") i5))))) (i8 lB (i4 5) (kI 4))) (setAt 9))
  (kO (i8 kY (i4 3) (kG (i3 (kG (i3 (i4 9) (i3 (Fz (lC Bl (i8 lB (i8 mK (i4 5) (kI 4)) (kI 2)) (kI 0))) (i3 (i4 6) i5)))) i5))) (setAt 3)))))))
  (lV (kG (i3 (i8 kY (kI 1) (i8 lB (i8 mK (i4 0) (kI 8)) (i8 kF (kG (i3 (kI 3) (i3 (kI 9) i5))) (i8 lB (i8 mK (i4 0) (kI 128)) (kI 2))))) (i3 (i8 kF (kG (i3 (kI 0) (i3 (kI 7) (i3 (kI 60) (i3 (kI 1) (i3 (kI 20) i5)))))) (i8 lB (i8 mK (i4 0) (kI 256)) (kI 5))) (i3 (i4 3) i5)))))))))
def be:LD->OD:=via 1 10 cR
def l0:LD:=[.str (oS "none"),.str (oS "hour"),.str (oS "minute"),.str (oS "zero"),.str (oS "ahour"),.str (oS "aminute"),.str (oS "alarm"),.str (oS "run"),.str (oS "lap"),.str (oS "cminute"),.str (oS "csecond"),.str (oS "full")]
theorem vL:∀x∈rD,oneOf x rD=true/\Fits x:=by
 intro x hx
 simp only[rD,List.mem_cons,List.not_mem_nil,or_false] at hx
 rcases hx with h | h | h | h | h | h | h | h | h | h | h | h | h<;>subst h<;>exact⟨by decide,.str _⟩
theorem v4:∀x∈sG,oneOf x sG=true/\Fits x:=by
 intro x hx
 simp only[sG,List.mem_cons,List.not_mem_nil,or_false] at hx
 rcases hx with h | h | h | h<;>subst h<;>exact⟨by decide,.str _⟩
def qH:R->Option Out:=(kP (kO (i8 mK (i6 av (i3 (i4 5) (i3 (i8 kY (kI 10) (i4 7)) i5))) (kI 4)) (setAt 8))
 (kO (i8 kY (i4 6) (kG (i3 (kG (i3 (i8 kF (i8 kY (i4 2) (kG (i3 (kS "count") i5))) (i8 lB (i4 8) (kI 13))) (i3 (i8 lB (i8 mK (i4 8) (kI 16)) (i4 1)) i5))) i5))) (setAt 6)))
theorem sz{n:Nat}(h:n<=1000):n<=sizeLine:=Nat.le_trans h (by decide)
theorem gY{N m:Int}{ms rs:LD}{a b f:OD}{q j:Int}(hm:0<m)(hr:rs.length<=100)(hk:∀x∈rs,qF x m=true/\Fits x) :
  ∃o r,qH [some (.int N),some (.int m),some (.tup l0),some (.tup ms),a,some (.int q),some (.tup rs),some (.int j),b,f]=some (.nx [some (.int N),some (.int m),some (.tup l0),some (.tup ms),a,some (.int q),some (.tup (rs++[r])),some (.int j),o,f])/\qF r m=true/\Fits r:=by
 generalize hz:qd q (10+j) / 4=z
 obtain⟨x,hx,hat⟩:=qz (xs:=rD) (i:=z%13) (Int.emod_nonneg _ (by decide)) (Int.emod_lt_of_pos _ (by decide))
 have w0:0<=z / 16%m:=Int.emod_nonneg _ (by omega)
 have w1:z / 16%m<m:=Int.emod_lt_of_pos _ hm
 have hl:rs.length+1<=sizeLine:=sz (by omega)
 have hd:l0++[.str (oS "count")]=rD:=rfl
 have hs:l0.length+1<=sizeLine:=by decide
 refine⟨some (.int z),.tup [x,.int (z / 16%m)],?_,?_,?_⟩
 ·simp[qH,oD,hz,hd,hat,hm,hl,hs]
 ·simp[qF,(vL x hx).1,within,w0]
  omega
 ·exact .tup (by simp) (by
   intro y hy
   simp at hy
   rcases hy with h | h<;>subst h
   ·exact(vL _ hx).2
   ·exact .int _)
def qx:R->Option Out:=(kP (kO (i8 mK (i6 av (i3 (i4 0) (i3 (i4 4) i5))) (kI 4)) (setAt 5))
  (kP (kO (kG i5) (setAt 6))
  (kP (mJ (mt (kI 6)) (setAt 7) qH)
  (kP (kO (i8 kF (kG (i3 (kS "time") (i3 (kS "alarm") (i3 (kS "laps") (i3 (kS "count") i5))))) (i8 lB (i4 5) (kI 4))) (setAt 9))
  (kO (i8 kY (i4 3) (kG (i3 (kG (i3 (i4 9) (i3 (Fz (lC Bl (i8 lB (i8 mK (i4 5) (kI 4)) (kI 2)) (kI 0))) (i3 (i4 6) i5)))) i5))) (setAt 3))))))
def FH(N m q:Int)(ms:LD)(a f:OD)(i:Nat)(ρ:R):Prop:=∃rs o j,ρ=[some (.int N),some (.int m),some (.tup l0),some (.tup ms),a,some (.int q),some (.tup rs),j,o,f]/\rs.length=i/\∀x∈rs,qF x m=true/\Fits x
theorem gC{N m q:Int}{ms:LD}{a b c f:OD}(hm:0<m) :
  ∃rs o j,ow (setAt 7) qH (mH 0 6) [some (.int N),some (.int m),some (.tup l0),some (.tup ms),a,some (.int q),some (.tup []),b,c,f]=some (.nx [some (.int N),some (.int m),some (.tup l0),some (.tup ms),a,some (.int q),some (.tup rs),j,o,f])/\rs.length=6/\∀x∈rs,qF x m=true/\Fits x:=by
 obtain⟨ρ',h1,rs,o,j,h2,h3,h4⟩:=su (st:=setAt 7) (body:=qH) (FH N m q ms a f) (mH 0 6) 0 [some (.int N),some (.int m),some (.tup l0),some (.tup ms),a,some (.int q),some (.tup []),b,c,f]
  ⟨[],c,b,rfl,rfl,fun x hx=>nomatch hx⟩ (fun i d ρ e p=>by
   obtain⟨rs,o,j,rfl,hl,hk⟩:=p
   obtain⟨rfl,hi⟩:=fW e
   obtain⟨o',r,h1,h2,h3⟩:=gY (N:=N) (ms:=ms) (a:=a) (b:=o) (f:=f) (q:=q) (j:=(i:Int)) hm (rs:=rs) (by omega) hk
   refine⟨_,_,rfl,h1,rs++[r],o',_,rfl,by simp[hl],fun x hx=>?_⟩
   rcases List.mem_append.mp hx with hx | hx
   ·exact hk x hx
   ·cases List.mem_singleton.mp hx
    exact⟨h2,h3⟩)
 subst h2
 refine⟨rs,o,j,h1,?_,h4⟩
 rw[h3,ga]
 rfl
theorem gu{N m:Int}{ms:LD}{k:Int}{a b c d e:OD}(hm:0<m)(hms:ms.length<=100) :
  ∃r o1 o2 o3 o4 o5,qx [some (.int N),some (.int m),some (.tup l0),some (.tup ms),some (.int k),a,b,c,d,e]=some (.nx [some (.int N),some (.int m),some (.tup l0),some (.tup (ms++[r])),some (.int k),o1,o2,o3,o4,o5])/\pU r m=true/\Fits r:=by
 generalize hq:qd N k / 4=q
 obtain⟨rs,o,j,h1,h2,h3⟩:=gC (N:=N) (m:=m) (q:=q) (ms:=ms) (a:=some (.int k)) (b:=c) (c:=d) (f:=e) hm
 obtain⟨x,hx,hat⟩:=qz (xs:=sG) (i:=q%4) (Int.emod_nonneg _ (by decide)) (Int.emod_lt_of_pos _ (by decide))
 have hl:ms.length+1<=sizeLine:=sz (by omega)
 refine⟨.tup [x,.bl (q / 4%2==0),.tup rs],some (.int q),some (.tup rs),j,o,some x,?_,?_,?_⟩
 rotate_left 1
 ·have ha:(rs.all fun y=>qF y m)=true:=List.all_eq_true.mpr fun y hy=>(h3 y hy).1
  simp[pU,(v4 x hx).1,w_,h2,ha]
 ·refine .tup (by simp) fun y hy=>?_
  simp at hy
  rcases hy with h | h | h<;>subst h
  ·exact(v4 _ hx).2
  ·exact .bl _
  ·exact .tup (by omega) fun y hy=>(h3 y hy).2
 ·have hat':wL [.str (oS "time"),.str (oS "alarm"),.str (oS "laps"),.str (oS "count")] (q%4)=some x:=hat
  simp[qx,oD,hq,h1,hat',hl]
def Fc(N m:Int)(i:Nat)(ρ:R):Prop:=∃ms a b c d e f,ρ=[some (.int N),some (.int m),some (.tup l0),some (.tup ms),a,b,c,d,e,f]/\ms.length=i/\∀x∈ms,pU x m=true/\Fits x
theorem gq(N:Int):∃b,be [.int N]=some b/\vh b=true/\Fits b:=by
  generalize hM:1+N%8=m
  have hm0:0<m:=by have:=Int.emod_nonneg N (show(8:Int)≠0 by decide);omega
  have hm8:m<=8:=by have:=Int.emod_lt_of_pos N (show(0:Int)<8 by decide);omega
  obtain⟨ρ',h1,ms,a,b,c,d,e,f,h2,h3,h4⟩:=su (st:=setAt 4) (body:=qx) (Fc N m) (mH 0 m) 0 [some (.int N),some (.int m),some (.tup l0),some (.tup []),none,none,none,none,none,none]
    ⟨[],none,none,none,none,none,none,rfl,rfl,fun x hx=>nomatch hx⟩ (fun i d ρ e p=>by
      obtain⟨ms,a,b,c,d',e',f,rfl,hl,hk⟩:=p
      obtain⟨rfl,hi⟩:=fW e
      obtain⟨r,o1,o2,o3,o4,o5,h1,h2,h3⟩:=gu (N:=N) (ms:=ms) (k:=(i:Int)) (a:=b) (b:=c) (c:=d') (d:=e') (e:=f) hm0 (by omega)
      refine⟨_,_,rfl,h1,ms++[r],_,_,_,_,_,_,rfl,by simp[hl],fun x hx=>?_⟩
      rcases List.mem_append.mp hx with hx | hx
      · exact hk x hx
      · cases List.mem_singleton.mp hx
        exact⟨h2,h3⟩)
  subst h2
  rw[ga] at h3
  have hlen:((ms.length:Nat):Int)=m:=by omega
  have hr : -4611686018427387904<=m/\m<4611686018427387904:=by omega
  obtain⟨p,hp,hat⟩:=qz (xs:=[.int 3,.int 9]) (i:=N / 128%2) (Int.emod_nonneg _ (by decide)) (Int.emod_lt_of_pos _ (by decide))
  have hp':∃v:Int,p=.int v/\0<v/\v<=9:=by
    simp at hp
    rcases hp with h | h<;>subst h
    · exact⟨3,rfl,by decide,by decide⟩
    · exact⟨9,rfl,by decide,by decide⟩
  obtain⟨v,rfl,hv0,hv9⟩:=hp'
  obtain⟨p2,hp2,hat2⟩:=qz (xs:=[.int 0,.int 7,.int 60,.int 1,.int 20]) (i:=N / 256%5) (Int.emod_nonneg _ (by decide)) (Int.emod_lt_of_pos _ (by decide))
  have hp2':∃v:Int,p2=.int v/\0<=v/\v<=60:=by
    simp at hp2
    rcases hp2 with h | h | h | h | h<;>subst h
    · exact⟨0,rfl,by decide,by decide⟩
    · exact⟨7,rfl,by decide,by decide⟩
    · exact⟨60,rfl,by decide,by decide⟩
    · exact⟨1,rfl,by decide,by decide⟩
    · exact⟨20,rfl,by decide,by decide⟩
  obtain⟨v2,rfl,hv20,hv260⟩:=hp2'
  have w0:0<=N / 8%v:=Int.emod_nonneg _ (by omega)
  have w1:N / 8%v<v:=Int.emod_lt_of_pos _ hv0
  refine⟨.tup [.int (1+N / 8%v),.int v2,.tup ms],?_,?_,?_⟩
  · have hg:cR=(kP (kO (i8 kY (kI 1) (i8 lB (i4 0) (kI 8))) (setAt 1))
      (kP (kO (kG (i3 (kS "none") (i3 (kS "hour") (i3 (kS "minute") (i3 (kS "zero") (i3 (kS "ahour") (i3 (kS "aminute") (i3 (kS "alarm") (i3 (kS "run") (i3 (kS "lap") (i3 (kS "cminute") (i3 (kS "csecond") (i3 (kS "full") i5))))))))))))) (setAt 2))
      (kP (kO (kG i5) (setAt 3))
      (kP (mJ (mt (i4 1)) (setAt 4) qx)
      (lV (kG (i3 (i8 kY (kI 1) (i8 lB (i8 mK (i4 0) (kI 8)) (i8 kF (kG (i3 (kI 3) (i3 (kI 9) i5))) (i8 lB (i8 mK (i4 0) (kI 128)) (kI 2))))) (i3 (i8 kF (kG (i3 (kI 0) (i3 (kI 7) (i3 (kI 60) (i3 (kI 1) (i3 (kI 20) i5)))))) (i8 lB (i8 mK (i4 0) (kI 256)) (kI 5))) (i3 (i4 3) i5))))))))):=rfl
    unfold l0 at h1
    simp[be,via,hg,hM,hr,h1,hat,hat2,hv0]
  · have ha:(ms.all fun y=>pU y ms.length)=true:=List.all_eq_true.mpr fun y hy=>by rw[hlen];exact(h4 y hy).1
    have g1:1<=ms.length:=by omega
    have g8:ms.length<=8:=by omega
    simp[vh,within,vt,ha,g1,g8]
    omega
  · refine .tup (by simp) fun y hy=>?_
    simp at hy
    rcases hy with h | h | h<;>subst h
    · exact .int _
    · exact .int _
    · exact .tup (by omega) fun y hy=>(h4 y hy).2
def mO:R->Option Out:=
 (kO (i6 ml (i3 (i8 kF (i4 0) (kI 2)) i5)) (setAt 2))
def nQ:R->Option Out:=
  (kP (kO (kG i5) (setAt 4))
  (kP (mJ (lh (i4 3)) (setAt 5)
  (kP (kO (i8 kF (i8 kF (i4 0) (kI 2)) (i4 5)) (nR [(setAt 6),(setAt 7),(setAt 8)]))
  (kP (kO (i6 qe (i3 (qP 2 (lh (i4 8)) (nR [(setAt 0),(setAt 1)]) mF (kG (i3 (i4 0) (i3 (i6 oy (i3 (i4 5) (i3 (i4 1) i5))) i5)))) i5)) (setAt 9))
  (kO (i8 kY (i4 4) (kG (i3 (kG (i3 (i4 6) (i3 (i4 7) (i3 (i4 9) i5)))) i5))) (setAt 4)))))
  (lV (kG (i3 (i8 kF (i4 0) (kI 0)) (i3 (i8 lB (i4 1) (kI 61)) (i3 (i4 4) i5)))))))
def aN:List Int->R->Option Out:=Cj mO 3 nQ
def lj:R->List Int->Prop:=EI mO (kI 1) (i4 2) (ni [1]) (pd 2 zZ)
def em:R->Option Out:=
  (kP (kO (i6 ml (i3 (i8 kF (i4 0) (kI 2)) i5)) (setAt 2))
  (kP (kO (i8 lB (i4 1) (i4 2)) (setAt 3))
  (kP (kO (kG i5) (setAt 4))
  (kP (mJ (qK (i8 kY (i8 kF (i4 0) (kI 2)) (kG (i3 (i8 kF (i8 kF (i4 0) (kI 2)) (i4 3)) i5)))) (nR [(setAt 5),(nR [(setAt 6),(setAt 7),(setAt 8)])])
  (kP (kO (kG i5) (setAt 9))
  (kP (mJ (qK (i4 8)) (nR [(setAt 10),(nR [(setAt 11),(setAt 12)])])
  (kP (uT (zN (lC Bl (i4 12) (i4 3)) (lC Bl (i8 lB (i8 mK (i6 av (i3 (i4 1) (i3 (i8 kY (i8 qW (kI 6) (i4 5)) (i4 10)) i5))) (kI 4)) (kI 2)) (kI 0)))
  (kO (i4 2) (setAt 12))
  m9)
  (kO (i8 kY (i4 9) (kG (i3 (kG (i3 (i4 11) (i3 (i4 12) i5))) i5))) (setAt 9))))
  (kO (i8 kY (i4 4) (kG (i3 (kG (i3 (i4 6) (i3 (i4 7) (i3 (i4 9) i5)))) i5))) (setAt 4)))))
  (lV (kG (i3 (i8 kY (kI 1) (i8 lB (i4 1) (kI 9))) (i3 (i8 kF (i4 0) (kI 1)) (i3 (i4 4) i5)))))))))
def aR:LD->OD:=via 2 13 em
def iu:R->Option Out:=
  (kP (kO (i6 be (i3 (i6 aG (i3 (i4 0) (i3 (kI 0) i5))) i5)) (setAt 1))
  (kP (kO (i6 aG (i3 (i4 0) (i3 (kI 1) i5))) (setAt 2))
  (qm 11 (i4 1) (i3 (i4 1) (i3 (i4 2) i5)) (i6 bv (i3 (i4 1) i5)) 10 2 lj aN
  (wd (EF (lC EO (i6 ml (i3 (i8 kF (i4 1) (kI 2)) i5)) (kI 8))
  (Cc (uQ 11 (i6 aR (i3 (i4 1) (i3 (i8 mK (i4 2) (kI 8)) i5))))
  (uQ 11 (kG (i3 (i8 kF (i4 1) (kI 0)) (i3 (i8 kF (i4 1) (kI 1)) (i3 (i8 kY (i8 kF (i4 1) (kI 2)) (kG (i3 (kG (i3 (kS "laps") (i3 (fun _=>some (.bl true)) (i3 (i8 ut (kG (i3 (kG (i3 (kS "run") (i3 (i8 lB (i8 lB (i4 2) (kI 8)) (i6 ml (i3 (i8 kF (i4 1) (kI 2)) i5))) i5))) i5)) (kI 6)) i5)))) i5))) i5))))))
  Ac)
  (vP (kP (mJ (lh (i4 11)) (setAt 3)
  (mJ (lh (i4 11)) (setAt 4)
  (uT (EB (lC pQ (i6 aB (i3 (i4 3) (i3 (i4 4) i5))) (fun _=>some (.bl true))) (lC yB (i6 aM (i3 (i4 3) (i3 (i4 4) i5))) (fun _=>some .non)))
  (lV (fun _=>some (.bl false)))
  m9)))
  (kP (kO (i6 bC (i3 (i4 1) i5)) (setAt 5))
  (kP (kO (i8 kF (i4 5) (i8 lB (i8 mK (i4 2) (kI 64)) (i6 ml (i3 (i4 5) i5)))) (setAt 6))
  (kP (kO (i8 kF (i8 kF (i4 1) (kI 2)) (i4 6)) (nR [(setAt 7),(setAt 8),(setAt 9)]))
  (kP (kO (i8 kY (i8 kY (zv (i8 kF (i4 1) (kI 2)) zA (aP (i4 6))) (kG (i3 (kG (i3 (i4 7) (i3 (Cy (i4 8)) (i3 (i4 9) i5)))) i5))) (zv (i8 kF (i4 1) (kI 2)) (aP (i8 kY (i4 6) (kI 1))) zA)) (setAt 10))
  (kP (kO (kG (i3 (i8 kF (i4 1) (kI 0)) (i3 (i8 kF (i4 1) (kI 1)) (i3 (i4 10) i5)))) (setAt 4))
  (kP (mJ (lh (i4 11)) (setAt 3)
  (kP (uT (EB (lC pQ (i6 aB (i3 (i4 3) (i3 (i4 4) i5))) (fun _=>some (.bl false))) (lC pQ (i6 aB (i3 (i4 4) (i3 (i4 3) i5))) (fun _=>some (.bl false))))
  (lV (fun _=>some (.bl false)))
  m9)
  (uT (lC Ex (i6 rK (i3 (i6 aM (i3 (i4 3) (i3 (i4 4) i5))) i5)) (i6 rK (i3 (i6 aM (i3 (i4 4) (i3 (i4 3) i5))) i5)))
  (lV (fun _=>some (.bl false)))
  m9)))
  (lV (fun _=>some (.bl true)))))))))))))))
def cV:LD->OD:=via 1 12 iu
theorem ki:∀ds d,cV ds=some d->k_ (iu (pe 12 ds))=some d:=fun _ _ h=>dt h
theorem kh:∀ds d,cV ds=some d->ds.length=1:=fun _ _ h=>bT h
abbrev Pp:=Nat×Nat
def Bk.md(b:Bk)(x:Nat):Md:=b.modes.getD x default
def Md.row(m:Md)(k:Nat):lN×Nat:=m.rows.getD k default
def Cb(A B:Bk)(p:Pp)(k:Nat):Pp:=(((A.md p.1).row k).2,((B.md p.2).row k).2)
def zx(A B:Bk)(p:Pp):Bool:=!(decide ((A.md p.1).face=(B.md p.2).face)&&((A.md p.1).stays==(B.md p.2).stays))
def EC(A B:Bk)(p:Pp)(k:Nat):Bool:=!decide (((A.md p.1).row k).1=((B.md p.2).row k).1)
def Wd(u:List Nat):Prop:=∀k∈u,k<6
def run(A B:Bk)(u:List Nat):Pp:=u.foldl (Cb A B) (0,0)
theorem om{A B:Bk}(v:List Nat)(k:Nat):run A B (v++[k])=Cb A B (run A B v) k:=by simp[run]
theorem l9{v:List Nat}{k:Nat}:Wd (v++[k])↔Wd v/\k<6:=by
 unfold Wd
 constructor
 ·intro h
  exact⟨fun j hj=>h j (List.mem_append_left _ hj),h k (by simp)⟩
 ·rintro⟨h1,h2⟩ j hj
  rcases List.mem_append.mp hj with z | z
  ·exact h1 j z
  ·rw[List.mem_singleton.mp z];exact h2
def Pt(A B:Bk)(u:List Nat):Prop:=(u=[]/\zx A B (0,0)=true)\/∃v k,u=v++[k]/\(EC A B (run A B v) k=true\/zx A B (run A B u)=true)
theorem xD{A B:Bk}:Pt A B []↔zx A B (0,0)=true:=by
 constructor
 ·rintro(h | ⟨v,k,h,_⟩)
  ·exact h.2
  ·simp at h
 ·exact fun h=>.inl ⟨rfl,h⟩
theorem rZ{A B:Bk}{v:List Nat}{k:Nat}:Pt A B (v++[k])↔EC A B (run A B v) k=true\/zx A B (Cb A B (run A B v) k)=true:=by
 constructor
 ·rintro(h | ⟨v',k',h,h2⟩)
  ·simp at h
  ·obtain⟨rfl,h3⟩:=List.append_inj' h rfl
   cases h3
   rw[om] at h2
   exact h2
 ·intro h
  exact .inr ⟨v,k,rfl,by rw[om];exact h⟩
theorem snoc_cases(u:List Nat):u=[]\/∃v k,u=v++[k]:=by
 rcases List.eq_nil_or_concat u with h | ⟨v,k,h⟩
 ·exact .inl h
 ·exact .inr ⟨v,k,by rw[h];simp⟩
theorem kq{A B:Bk}{u:List Nat}(h:zx A B (run A B u)=true):Pt A B u:=by
 rcases snoc_cases u with rfl | ⟨v,k,rfl⟩
 ·exact xD.mpr h
 ·rw[om] at h
  exact rZ.mpr (.inr h)
def BQ(A B:Bk)(p:Pp):Prop:=p.1<A.modes.length/\p.2<B.modes.length
theorem Do{b:Bk}{x:Nat}(h:x<b.modes.length):b.md x∈b.modes:=by
 unfold Bk.md
 rw[List.getD_eq_getElem?_getD,List.getElem?_eq_getElem h]
 exact List.getElem_mem h
theorem lT{b:Bk}(ok:b.Ok){x:Nat}(h:x<b.modes.length):(b.md x).Ok b.modes.length:=ok.all _ (Do h)
theorem pN{m:Md}{k:Nat}(h:k<m.rows.length):m.rows[k]?=some (m.row k):=by
 unfold Md.row
 rw[List.getD_eq_getElem?_getD,List.getElem?_eq_getElem h];rfl
theorem Al{A B:Bk}(hA:A.Ok)(hB:B.Ok){p:Pp}{k:Nat}(h:BQ A B p)(hk:k<6):BQ A B (Cb A B p k):=by
 have a:=lT hA h.1
 have b:=lT hB h.2
 exact⟨a.nx _ (List.mem_of_getElem? (pN (by rw[a.six];exact hk))),b.nx _ (List.mem_of_getElem? (pN (by rw[b.six];exact hk)))⟩
theorem FK{A B:Bk}(hA:A.Ok)(hB:B.Ok):BQ A B (0,0):=⟨hA.some1,hB.some1⟩
theorem Bm{A B:Bk}(hA:A.Ok)(hB:B.Ok)(u:List Nat):Wd u->BQ A B (run A B u):=by
 have:∀(u:List Nat) (p:Pp),BQ A B p->Wd u->BQ A B (u.foldl (Cb A B) p):=fun u=>by
  induction u with
  | nil=>exact fun p h _=>h
  | cons k u ih=>exact fun p h w=>ih _ (Al hA hB h (w k List.mem_cons_self)) fun j hj=>w j (List.mem_cons_of_mem _ hj)
 exact this u (0,0) (FK hA hB)
structure Ez (A B:Bk) (m:Nat):Prop where
 ex:∃u,Wd u/\u.length=m/\Pt A B u
 no:∀u,Wd u->u.length<m->¬ Pt A B u
def rP(A B:Bk):Prop:=∀u,Wd u->¬ Pt A B u
theorem BS(f g:Face)(s t:Bool):qX (.tup [.str f.x,.bl s]) (.tup [.str g.x,.bl t])=some (!(decide (f=g)&&(s==t))):=by
 cases f<;>cases g<;>cases s<;>cases t<;>decide +kernel
def lN.ofX(x:Str):Option lN:=[lN.none,.hour,.minute,.zero,.ahour,.aminute,.alarm,.run,.lap,.cminute,.csecond,.full,.count].find? (·.x==x)
theorem CV(d:lN):lN.ofX d.x=some d:=by cases d<;>rfl
theorem vW{a b:lN}(h:a.x=b.x):a=b:=by
 have:=CV a
 rw[h,CV b] at this
 exact(Option.some.inj this).symm
theorem Ci(a b:lN):Ex (.str a.x) (.str b.x)=some (!decide (a=b)):=by
 show some (!(a.x==b.x))=_
 by_cases h:a=b
 ·subst h;simp
 ·rw[decide_eq_false h,beq_eq_false_iff_ne.mpr fun z=>h (vW z)]
theorem yf{b:Bk}{x:Nat}(h:x<b.modes.length):wL (b.modes.map Md.d) (x:Int)=some (b.md x).d:=
 pY (by rw[List.getElem?_map,List.getElem?_eq_getElem h];unfold Bk.md;rw[List.getD_eq_getElem?_getD,List.getElem?_eq_getElem h];rfl)
theorem rL{b:Bk}{x:Nat}{f g:R->OD}{ρ:R}(hf:f ρ=some b.d)(hg:g ρ=some (.int (x:Int)))(h:x<b.modes.length):i8 kF (i8 kF f (kI 2)) g ρ=some (b.md x).d:=by
 show((f ρ).bind fun x=>(some (D.int 2)).bind fun y=>kF x y).bind (fun x=>(g ρ).bind fun y=>kF x y)=_
 rw[hf,hg]
 exact yf h
theorem C9{f:R->OD}{ρ:R}{m:Md}(h:f ρ=some m.d):zv f zA (aP (kI 2)) ρ=some (.tup [.str m.face.x,.bl m.stays]):=by
 show(f ρ).bind _=_
 rw[h];rfl
theorem fi{m:Md}(h:m.rows.length=6){β:Type}(f:lN×Nat->β):m.rows.map f=(List.range 6).map fun k=>f (m.row k):=by
 apply List.ext_getElem?
 intro i
 rw[List.getElem?_map,List.getElem?_map]
 by_cases hi:i<6
 ·rw[pN (by omega),List.getElem?_range hi];rfl
 ·rw[List.getElem?_eq_none (by omega),List.getElem?_eq_none (by simpa using hi)];rfl
theorem dW(m:Md):a_ [m.d]=some (.tup [.str m.face.x,.bl m.stays]):=rfl
theorem yu{m:Md}(h:m.rows.length=6){j:Int}{f:lN×Nat->D}(hf:∀r,kF (lg r) (.int j)=some (f r)):qP 1 (lh (i8 kF (i4 0) (kI 2))) (setAt 0) mF (i8 kF (i4 0) (kI j)) [some m.d]=some (.lst ((List.range 6).map fun k=>f (m.row k))):=by
 have hc:mC (setAt 0) mF (i8 kF (i4 0) (kI j)) (m.rows.map lg) (List.replicate 1 none++[some m.d])=some ((m.rows.map lg).map fun d=>(kF d (.int j)).getD .non):=
  qY _ fun d hd=>by
   obtain⟨r,_,rfl⟩:=List.mem_map.mp hd
   refine⟨_,rfl,?_⟩
   rw[hf r]
   exact hf r
 have hi:lh (i8 kF (i4 0) (kI 2)) [some m.d]=some (m.rows.map lg):=rfl
 unfold qP
 rw[hi,Option.bind_some,if_pos (Ct (by rw[List.length_map];omega)),hc,List.map_map,fi h]
 show some (D.lst _)=_
 congr 2
 apply List.map_congr_left
 intro k _
 show(kF (lg (m.row k)) (.int j)).getD .non=_
 rw[hf];rfl
theorem de{m:Md}(h:m.rows.length=6):aZ [m.d]=some (.lst ((List.range 6).map fun k=>.int ((m.row k).2:Int))):=
 me (yu h (j:=1) (f:=fun r=>.int (r.2:Int)) fun _=>rfl)
theorem dR{m:Md}(h:m.rows.length=6):aC [m.d]=some (.lst ((List.range 6).map fun k=>.str (m.row k).1.x)):=
 me (yu h (j:=0) (f:=fun r=>.str r.1.x) fun _=>rfl)
theorem jQ{m m':Md}(h:m.rows.length=6)(h':m'.rows.length=6):aU [m.d,m'.d]=some (.lst ((List.range 6).map fun k=>.tup [.int ((m.row k).2:Int),.int ((m'.row k).2:Int)])):=by
 refine me ?_
 show((i6 aZ (i3 (i4 0) i5) [some m.d,some m'.d]).bind fun x=>(i6 aZ (i3 (i4 1) i5) [some m.d,some m'.d]).bind fun y=>_)=_
 rw[lS (x:=m.d) rfl (de h),lS (x:=m'.d) rfl (de h'),Option.bind_some,Option.bind_some]
 show(if _ then some (D.lst (qt _ _)) else none)=_
 rw[if_pos (by simp)]
 rfl
def oN(p:Pp):Ky:=.inr ((p.1:Int),(p.2:Int))
def Eu(p:Pp):D:=.tup [.int (p.1:Int),.int (p.2:Int)]
def zu(A B:Bk):Ky->List Ky
 | .inr q=>(List.range 6).map fun k=>oN (Cb A B (q.1.toNat,q.2.toNat) k)
 | .inl _=>[]
theorem sg(A B:Bk)(p:Pp):zu A B (oN p)=(List.range 6).map fun k=>oN (Cb A B p k):=rfl
def x6(A B:Bk):List Ky:=(List.range A.modes.length).flatMap fun i=>(List.range B.modes.length).map fun j=>oN (i,j)
theorem pD{A B:Bk}{x:Ky}:x∈x6 A B↔∃p,BQ A B p/\x=oN p:=by
 unfold x6
 rw[List.mem_flatMap]
 constructor
 ·rintro⟨i,hi,hx⟩
  obtain⟨j,hj,rfl⟩:=List.mem_map.mp hx
  exact⟨(i,j),⟨List.mem_range.mp hi,List.mem_range.mp hj⟩,rfl⟩
 ·rintro⟨p,h,rfl⟩
  exact⟨p.1,List.mem_range.mpr h.1,List.mem_map.mpr ⟨p.2,List.mem_range.mpr h.2,rfl⟩⟩
theorem eV{α β:Type}(f:α->List β)(c:Nat):∀l:List α,(∀x∈l,(f x).length=c)->(l.flatMap f).length=l.length*c
 | [],_=>by simp
 | a::l,h=>by
  rw[List.flatMap_cons,List.length_append,h a List.mem_cons_self,eV f c l fun x hx=>h x (List.mem_cons_of_mem _ hx),List.length_cons,Nat.succ_mul]
  omega
theorem zT{A B:Bk}(hA:A.Ok)(hB:B.Ok):(x6 A B).length<=64:=by
 unfold x6
 rw[eV _ B.modes.length _ fun x _=>by simp,List.length_range]
 exact Nat.mul_le_mul hA.some8 hB.some8
theorem AU{A B:Bk}:∀x∈x6 A B,x.isLeft=false:=fun x hx=>by
 obtain⟨p,_,rfl⟩:=pD.mp hx
 rfl
theorem CI{A B:Bk}(hA:A.Ok)(hB:B.Ok):∀x:Ky,x∈x6 A B->(zu A B x).length=6/\∀e∈zu A B x,True/\e∈x6 A B:=fun x hx=>by
 obtain⟨p,hp,rfl⟩:=pD.mp hx
 rw[sg]
 refine⟨by simp,fun e he=>⟨trivial,?_⟩⟩
 obtain⟨k,hk,rfl⟩:=List.mem_map.mp he
 exact pD.mpr ⟨_,Al hA hB hp (List.mem_range.mp hk),rfl⟩
theorem bh{α:Type}{f:α->D}(h:∀a,mV (f a)=true):∀l:List α,lE (l.map f)=true
 | []=>rfl
 | a::l=>by show(mV (f a)&&lE _)=true;rw[h a,bh h l];rfl
theorem iV(r:lN×Nat):mV (lg r)=true:=rfl
theorem fv(m:Md):mV m.d=true:=by
 show(true&&(true&&(lE (m.rows.map lg)&&true)))=true
 rw[bh iV];rfl
theorem cM(b:Bk):mV b.d=true:=by
 show(true&&(true&&(lE (b.modes.map Md.d)&&true)))=true
 rw[bh fv];rfl
theorem xy{A B:Bk}(hA:A.Ok)(hB:B.Ok){a:Nat}(x:Ky)(hx:x∈x6 A B):Gives (.cl xX a [B.d,A.d]) (zu A B) x:=by
 obtain⟨p,hp,rfl⟩:=pD.mp hx
 refine⟨(CI hA hB _ hx).1,fun ρ h2 h3=>?_⟩
 unfold qp
 rw[h2,Option.bind_some]
 show((i4 3 ρ).bind fun y=>(some []).map (y::·)).bind _=_
 rw[h3]
 show(LL xX).bind _=_
 rw[Hm,Option.bind_some]
 rw[if_pos ⟨rfl,by show(mV _&&(mV _&&true))=true;rw[cM,cM];rfl,GG.symm⟩]
 have e3:pd 3 Ar ([kH (oN p)]++[B.d,A.d])=some (.lst ((zu A B (oN p)).map kH)):=by
  show i6 aU _ [some (kH (oN p)),some B.d,some A.d]=_
  have e1:=rL (b:=A) (x:=p.1) (f:=i4 2) (g:=i8 kF (i4 0) (kI 0)) (ρ:=[some (kH (oN p)),some B.d,some A.d]) rfl rfl hp.1
  have e2:=rL (b:=B) (x:=p.2) (f:=i4 1) (g:=i8 kF (i4 0) (kI 1)) (ρ:=[some (kH (oN p)),some B.d,some A.d]) rfl rfl hp.2
  have e4:i3 (i8 kF (i8 kF (i4 2) (kI 2)) (i8 kF (i4 0) (kI 0))) (i3 (i8 kF (i8 kF (i4 1) (kI 2)) (i8 kF (i4 0) (kI 1))) i5) [some (kH (oN p)),some B.d,some A.d]=some [(A.md p.1).d,(B.md p.2).d]:=by
   show(i8 kF _ _ _).bind (fun x=>((i8 kF _ _ _).bind fun y=>(some []).map (y::·)).map (x::·))=_
   rw[e1,e2];rfl
  show(i3 _ _ _).bind aU=_
  rw[e4,Option.bind_some,jQ (lT hA hp.1).six (lT hB hp.2).six,sg,List.map_map]
  rfl
 rw[e3,Option.bind_some,if_pos (show mV (.lst ((zu A B (oN p)).map kH))=true from bh (fun k=>by cases k<;>rfl) _)]
def zM(A B:Bk):R->OD:=(oe ay xX (i3 (kG (i3 (kI 0) (i3 (kI 0) i5))) i5) (ni [1,0]))
theorem zl{A B:Bk}(hA:A.Ok)(hB:B.Ok):∃kf L,BI (zu A B) (x6 A B) (oN (0,0)) kf [] L/\L<=100/\∀r:R,zM A B (some A.d::some B.d::r)=some (.dcp (kf.map fun p=>k2 p.1) (kf.map fun p=>p.2)):=by
 obtain⟨kf,L,hk,hI,hL⟩:=so (go:=zu A B) (bx:=x6 A B) (s:=oN (0,0)) AU (zT hA hB) (pD.mpr ⟨_,FK hA hB,rfl⟩) (CI hA hB)
 refine⟨kf,L,hI,hL.1,fun r=>?_⟩
 have hne:kf ≠ []:=fun z=>by have:=hI.st;rw[z] at this;cases this
 have hd:mw kf=.dcp (kf.map fun p=>k2 p.1) (kf.map fun p=>p.2):=by
  match kf,hne,hI with
  | (.inr q,d)::kf,_,_=>rfl
  | (.inl q,d)::kf,_,hI =>
   have:=AU _ (hI.val _ List.mem_cons_self).2.1
   cases this
 have ff:∀a,ay [kH (oN (0,0)),.cl xX a [B.d,A.d]]=some (mw kf):=fun a=>by
  show k_ (qj au 4 0 1 (.str (oS "")) [some (kH (oN (0,0))),some (.cl xX a [B.d,A.d]),none,none])=_
  exact(congrArg k_ (tL (g:=au) (n:=4) (i:=0) (j:=1) (e:=.str (oS "")) (c:=.cl xX a [B.d,A.d]) (ρ:=[some (kH (oN (0,0))),some (.cl xX a [B.d,A.d]),none,none]) (s:=kH (oN (0,0))) (k:=oN (0,0)) (kv:=kf) rfl rfl rfl rfl hne (hk _ fun x hx=>xy hA hB x hx))).trans rfl
 have nv:vx (mw kf)=true:=by
  rw[hd]
  show lE (kf.map fun p=>p.2)=true
  have:∀l:KI,(∀p∈l,∃w,p.2=D.str w)->lE (l.map fun p=>p.2)=true:=fun l=>by
   induction l with
   | nil=>intro _;rfl
   | cons p l ih =>
    intro hp
    obtain⟨w,hw⟩:=hp p List.mem_cons_self
    show(mV p.2&&_)=true
    rw[hw,ih fun q hq=>hp q (List.mem_cons_of_mem _ hq)]
    rfl
  exact this kf fun p hp=>let ⟨_,_,w,hw,_⟩:=hI.val p hp;⟨w,hw⟩
 unfold zM
 rw[<- hd]
 exact sP (as:=[kH (oN (0,0))]) (caps:=[B.d,A.d]) rfl rfl (by show(mV _&&(mV _&&true))=true;rw[cM,cM];rfl) nv ff
def DS(k:Nat):Str:=n6.getD k (oS "")
def txt(u:List Nat):Str:=u.foldl (fun w k=>w++DS k) (oS "")
theorem txt_snoc(u:List Nat)(k:Nat):txt (u++[k])=txt u++DS k:=by simp[txt]
theorem sN{k:Nat}(h:k<6):n6[k]?=some (DS k):=by
 unfold DS
 rw[List.getD_eq_getElem?_getD,List.getElem?_eq_getElem (show k<n6.length from h)];rfl
theorem yd:∀(n:Nat) (u:List Nat),u.length=n->Wd u->(txt u).length=u.length
 | 0,u,h,_=>by rw[List.length_eq_zero_iff.mp h];decide +kernel
 | n+1,u,h,w=>by
  rcases snoc_cases u with rfl | ⟨v,k,rfl⟩
  ·cases h
  ·obtain⟨w1,w2⟩:=l9.mp w
   have hv:v.length=n:=by simp at h;omega
   rw[txt_snoc,str_len,yd n v hv w1,rg (sN w2)]
   simp
theorem cj{u:List Nat}(w:Wd u):(txt u).length=u.length:=yd _ u rfl w
theorem BP{p q:Pp}(h:oN p=oN q):p=q:=by
 have h':=Sum.inr.inj h
 injection h' with a b
 exact Prod.ext (by omega) (by omega)
theorem zS{A B:Bk}{kf:KI}{L:Nat}(hA:A.Ok)(hB:B.Ok)(hI:BI (zu A B) (x6 A B) (oN (0,0)) kf [] L):∀(n:Nat) (x:Ky) (w:Str),w.length=n->(x,D.str w)∈kf->∃u,Wd u/\x=oN (run A B u)/\w=txt u:=by
 intro n
 induction n using Nat.strongRecOn with
 | ind n ih =>
  intro x w hn hm
  rcases hI.tr x w hm with ⟨rfl,rfl⟩ | ⟨y,v,i,pr,h1,h2,h3,rfl⟩
  ·exact⟨[],fun k hk=>(by cases hk),rfl,rfl⟩
  ·have hl:=rg h3
   rw[str_len] at hn
   obtain⟨u,hu,rfl,rfl⟩:=ih v.length (by omega) y v rfl h1
   have hi:i<6:=by have:=(List.getElem?_eq_some_iff.mp h3).1;exact this
   refine⟨u++[i],l9.mpr ⟨hu,hi⟩,?_,?_⟩
   ·rw[sg,List.getElem?_map,List.getElem?_range hi] at h2
    rw[om]
    exact(Option.some.inj h2).symm
   ·rw[txt_snoc]
    rw[sN hi] at h3
    cases h3;rfl
theorem sJ{A B:Bk}{kf:KI}{L:Nat}(hI:BI (zu A B) (x6 A B) (oN (0,0)) kf [] L):∀(n:Nat) (u:List Nat),u.length=n->Wd u->∃w,(oN (run A B u),D.str w)∈kf/\w.length<=u.length
 | 0,u,h,_=>by rw[List.length_eq_zero_iff.mp h];exact⟨_,hI.st,by decide +kernel⟩
 | n+1,u,h,w=>by
  rcases snoc_cases u with rfl | ⟨v,k,rfl⟩
  ·cases h
  ·obtain⟨w1,w2⟩:=l9.mp w
   have hv:v.length=n:=by simp at h;omega
   obtain⟨x,hx,hl⟩:=sJ hI n v hv w1
   obtain⟨y,hy,hl'⟩:=hI.cl _ _ hx (by simp) (oN (Cb A B (run A B v) k)) (by rw[sg];exact List.mem_map.mpr ⟨k,List.mem_range.mpr w2,rfl⟩)
   rw[om]
   exact⟨y,hy,by simp;omega⟩
def wQ(A B:Bk)(p:Pp):List Str:=if zx A B p then [oS ""] else ((List.range 6).filter (EC A B p)).map DS
theorem Ds:mH 0 6=(List.range 6).map fun k:Nat=>D.int (k:Int):=rfl
theorem vR{f:Nat->D}{k:Nat}(h:k<6):wL ((List.range 6).map f) (k:Int)=some (f k):=pY (by rw[List.getElem?_map,List.getElem?_range h];rfl)
theorem fD{A B:Bk}(hA:A.Ok)(hB:B.Ok){p:Pp}(h:BQ A B p):bf [(A.md p.1).d,(B.md p.2).d]=some (.lst ((wQ A B p).map .str)):=by
 have t1:lC qX (i6 a_ (i3 (i4 0) i5)) (i6 a_ (i3 (i4 1) i5)) [some (A.md p.1).d,some (B.md p.2).d]=some (zx A B p):=
  (uW (lS (x:=(A.md p.1).d) rfl (dW _)) (lS (x:=(B.md p.2).d) rfl (dW _))).trans (BS _ _ _ _)
 show k_ (kP (uT _ _ m9) _ [some (A.md p.1).d,some (B.md p.2).d])=_
 unfold wQ
 cases hl:zx A B p with
 | true =>
  rw[hl] at t1
  show k_ ((uT _ _ m9 _).bind _)=_
  unfold uT
  rw[t1]
  rfl
 | false =>
  rw[hl] at t1
  have s1:uT (lC qX (i6 a_ (i3 (i4 0) i5)) (i6 a_ (i3 (i4 1) i5))) (lV (BH (i3 (kS "") i5))) m9 [some (A.md p.1).d,some (B.md p.2).d]=some (.nx [some (A.md p.1).d,some (B.md p.2).d]):=by
   unfold uT
   rw[t1];rfl
  rw[kN s1]
  refine me ?_
  have hc:mC (setAt 0) (lC Ex (i8 kF (i6 aC (i3 (i4 1) i5)) (i4 0)) (i8 kF (i6 aC (i3 (i4 2) i5)) (i4 0))) (i8 kF (fun _=>some aJ) (i4 0)) (mH 0 6) (List.replicate 1 none++[some (A.md p.1).d,some (B.md p.2).d])=some (((mH 0 6).filter fun d=>match d with | .int i=>EC A B p i.toNat | _=>false).map fun d=>match d with | .int i=>D.str (DS i.toNat) | _=>.non):=
   qh _ _ fun d hd=>by
    rw[Ds] at hd
    obtain⟨k,hk,rfl⟩:=List.mem_map.mp hd
    have hk:=List.mem_range.mp hk
    refine⟨[some (.int (k:Int)),some (A.md p.1).d,some (B.md p.2).d],rfl,?_,fun _=>?_⟩
    ·have a1:i8 kF (i6 aC (i3 (i4 1) i5)) (i4 0) [some (.int (k:Int)),some (A.md p.1).d,some (B.md p.2).d]=some (.str ((A.md p.1).row k).1.x):=by
      show(i6 aC (i3 (i4 1) i5) _).bind (fun x=>(some (D.int (k:Int))).bind fun y=>kF x y)=_
      rw[lS (x:=(A.md p.1).d) rfl (dR (lT hA h.1).six)]
      exact vR hk
     have a2:i8 kF (i6 aC (i3 (i4 2) i5)) (i4 0) [some (.int (k:Int)),some (A.md p.1).d,some (B.md p.2).d]=some (.str ((B.md p.2).row k).1.x):=by
      show(i6 aC (i3 (i4 2) i5) _).bind (fun x=>(some (D.int (k:Int))).bind fun y=>kF x y)=_
      rw[lS (x:=(B.md p.2).d) rfl (dR (lT hB h.2).six)]
      exact vR hk
     exact(uW a1 a2).trans (Ci _ _)
    ·show wL (n6.map .str) (k:Int)=_
     exact pY (by rw[List.getElem?_map,sN hk];rfl)
  unfold qP
  have hi:mt (i6 ml (i3 (fun _=>some aJ) i5)) [some (A.md p.1).d,some (B.md p.2).d]=some (mH 0 6):=rfl
  rw[hi,Option.bind_some,if_pos (Ct (by rw[Ds];simp)),hc,Ds,List.filter_map,List.map_map,if_neg (by simp),List.map_map]
  rfl
def vS(A B:Bk)(e:Ky×D):List Str:=match e with
 | (.inr q,.str w)=>(wQ A B (q.1.toNat,q.2.toNat)).map fun s=>w++s
 | _=>[]
theorem CN:∀{kv:KI} {q:Int×Int},(∀e∈kv,e.1.isLeft=false)->Dg (kv.map fun p=>k2 p.1) (kv.map fun p=>p.2) q=lu kv (.inr q)
 | [],q,_=>rfl
 | (.inl _,d)::kv,q,h=>by cases h _ List.mem_cons_self
 | (.inr k,d)::kv,q,h=>by
  show(if k=q then some d else Dg _ _ _)=if (Sum.inr k:Ky)=.inr q then some d else lu kv _
  by_cases z:k=q
  ·rw[if_pos z,if_pos (by rw[z])]
  ·rw[if_neg z,if_neg fun y=>z (Sum.inr.inj y)]
   exact CN fun e he=>h e (List.mem_cons_of_mem _ he)
theorem xT(A B:Bk)(p:Pp):(wQ A B p).length<=6:=by
 unfold wQ
 split
 ·simp
 ·rw[List.length_map]
  exact Nat.le_trans (List.length_filter_le _ _) (by simp)
theorem yF(A B:Bk)(p:Pp):∀s∈wQ A B p,s.length<=1:=fun s hs=>by
 unfold wQ at hs
 split at hs
 ·rw[List.mem_singleton.mp hs];decide +kernel
 ·obtain⟨k,hk,rfl⟩:=List.mem_map.mp hs
  have:=List.mem_range.mp (List.mem_filter.mp hk).1
  rw[rg (sN this)];exact Nat.le_refl _
def vF:R->OD:=(qP 1 (lh (i6 bf (i3 (i8 kF (i8 kF (i4 0) (kI 2)) (i8 kF (i4 3) (kI 0))) (i3 (i8 kF (i8 kF (i4 1) (kI 2)) (i8 kF (i4 3) (kI 1))) i5)))) (setAt 0) mF (i8 kY (i8 Cq (i4 3) (i4 4)) (i4 0)))
theorem BD{A B:Bk}(hA:A.Ok)(hB:B.Ok){kf:KI}{L:Nat}(hI:BI (zu A B) (x6 A B) (oN (0,0)) kf [] L)(hL:L<=100){p:Pp}{w:Str}(hm:(oN p,D.str w)∈kf)(hp:BQ A B p) :
  vF [some A.d,some B.d,some (.dcp (kf.map fun p=>k2 p.1) (kf.map fun p=>p.2)),some (Eu p)]=some (.lst ((vS A B (oN p,.str w)).map .str)):=by
 generalize hρ:([some A.d,some B.d,some (.dcp (kf.map fun p=>k2 p.1) (kf.map fun p=>p.2)),some (Eu p)]:R)=ρ
 have e1:=rL (b:=A) (x:=p.1) (f:=i4 0) (g:=i8 kF (i4 3) (kI 0)) (ρ:=ρ) (by rw[<- hρ];rfl) (by rw[<- hρ];rfl) hp.1
 have e2:=rL (b:=B) (x:=p.2) (f:=i4 1) (g:=i8 kF (i4 3) (kI 1)) (ρ:=ρ) (by rw[<- hρ];rfl) (by rw[<- hρ];rfl) hp.2
 have e4:i3 (i8 kF (i8 kF (i4 0) (kI 2)) (i8 kF (i4 3) (kI 0))) (i3 (i8 kF (i8 kF (i4 1) (kI 2)) (i8 kF (i4 3) (kI 1))) i5) ρ=some [(A.md p.1).d,(B.md p.2).d]:=by
  show(i8 kF _ _ _).bind (fun x=>((i8 kF _ _ _).bind fun y=>(some []).map (y::·)).map (x::·))=_
  rw[e1,e2];rfl
 have hi:lh (i6 bf (i3 (i8 kF (i8 kF (i4 0) (kI 2)) (i8 kF (i4 3) (kI 0))) (i3 (i8 kF (i8 kF (i4 1) (kI 2)) (i8 kF (i4 3) (kI 1))) i5))) ρ=some ((wQ A B p).map .str):=by
  show((i3 _ _ ρ).bind bf).bind _=_
  rw[e4,Option.bind_some,fD hA hB hp]
  rfl
 have hl:w.length<=100:=by
  obtain⟨_,_,w',e,h⟩:=hI.val _ hm
  injection e with e
  rw[e];omega
 have hc:mC (setAt 0) mF (i8 kY (i8 Cq (i4 3) (i4 4)) (i4 0)) ((wQ A B p).map D.str) (List.replicate 1 none++ρ)=some (((wQ A B p).map D.str).map fun d=>match d with | .str s=>D.str (w++s) | _=>.non):=
  qY _ fun d hd=>by
   obtain⟨s,hs,rfl⟩:=List.mem_map.mp hd
   refine⟨some (.str s)::ρ,rfl,?_⟩
   rw[<- hρ]
   show(Dg (kf.map fun p=>k2 p.1) (kf.map fun p=>p.2) ((p.1:Int),(p.2:Int))).bind (fun x=>kY x (.str s))=_
   rw[CN fun e he=>AU _ (hI.val e he).2.1,show(Sum.inr ((p.1:Int),(p.2:Int)):Ky)=oN p from rfl,pH hI.nd hm]
   show(if w.length+s.length<=sizeLine then _ else _)=_
   have:=yF A B p s hs
   rw[if_pos (Ct (by omega))]
 unfold vF qP
 rw[hi,Option.bind_some,if_pos (Ct (by rw[List.length_map];have:=xT A B p;omega)),hc,List.map_map]
 show some (D.lst _)=some (.lst (((wQ A B p).map fun s=>w++s).map .str))
 rw[List.map_map]
 rfl
theorem we(A B:Bk)(e:Ky×D):(vS A B e).length<=6:=by
 unfold vS
 split
 ·rw[List.length_map];exact xT _ _ _
 ·simp
theorem sZ{A B:Bk}(hA:A.Ok)(hB:B.Ok){kf:KI}{L:Nat}(hI:BI (zu A B) (x6 A B) (oN (0,0)) kf [] L)(hL:L<=100):∀(l:KI) (o:OD) (C:List Str),(∀e∈l,e∈kf)->C.length+6*l.length<=1000 ->
  ∃o',xJ (setAt 3) (xx 4 vF) (l.map fun e=>.tup [.int (k2 e.1).1,.int (k2 e.1).2]) [some A.d,some B.d,some (.dcp (kf.map fun p=>k2 p.1) (kf.map fun p=>p.2)),o] (C.map .str)=some (.nx [some A.d,some B.d,some (.dcp (kf.map fun p=>k2 p.1) (kf.map fun p=>p.2)),o'],(C++l.flatMap (vS A B)).map .str)
 | [],o,C,_,_=>⟨o,by simp[xJ]⟩
 | e::l,o,C,h,hc=>by
  have he:=h e List.mem_cons_self
  obtain⟨_,hb,w,hw,_⟩:=hI.val e he
  obtain⟨p,hp,hk⟩:=pD.mp hb
  have ee:e=(oN p,.str w):=Prod.ext hk hw
  subst ee
  rw[List.length_cons] at hc
  have hcl:=we A B (oN p,.str w)
  obtain⟨o',ih⟩:=sZ hA hB hI hL l (some (Eu p)) (C++vS A B (oN p,.str w)) (fun e he=>h e (List.mem_cons_of_mem _ he)) (by rw[List.length_append];omega)
  refine⟨o',?_⟩
  rw[List.flatMap_cons,<- List.append_assoc,<- ih]
  have x1:=BD hA hB hI hL he hp
  show(xx 4 vF [some A.d,some B.d,some (.dcp (kf.map fun p=>k2 p.1) (kf.map fun p=>p.2)),some (Eu p)] (C.map .str)).bind _=_
  have x2:xx 4 vF [some A.d,some B.d,some (.dcp (kf.map fun p=>k2 p.1) (kf.map fun p=>p.2)),some (Eu p)] (C.map .str)=some (.nx [some A.d,some B.d,some (.dcp (kf.map fun p=>k2 p.1) (kf.map fun p=>p.2)),some (Eu p)],(C++vS A B (oN p,.str w)).map .str):=by
   show(vF _).bind _=_
   rw[x1,Option.bind_some]
   show(if _/\_ then _ else _)=_
   rw[if_pos ⟨rfl,Ct (by rw[List.length_map,List.length_map];omega)⟩,List.map_append]
  rw[x2]
  rfl
theorem strs_map:∀C:List Str,rG (C.map .str)=some C
 | []=>rfl
 | s::C=>by show(rG (C.map .str)).map (s::·)=_;rw[strs_map C];rfl
theorem yE(xs:List Str):∀n:Nat,lO (kQ xs) n<=n/\∀j,j<=n->(xs.getD (lO (kQ xs) n) Str.empty).length<=(xs.getD j Str.empty).length
 | 0=>⟨Nat.le_refl _,fun j hj=>by rw[Nat.le_zero.mp hj];exact Nat.le_refl _⟩
 | n+1=>by
  obtain⟨h1,h2⟩:=yE xs n
  show(if kQ xs (n+1) (lO (kQ xs) n) then n+1 else lO (kQ xs) n)<=n+1/\∀j,j<=n+1->(xs.getD (if kQ xs (n+1) (lO (kQ xs) n) then n+1 else lO (kQ xs) n) Str.empty).length<=_
  cases hs:kQ xs (n+1) (lO (kQ xs) n) with
  | true =>
   have hs':=of_decide_eq_true hs
   rw[if_pos rfl]
   refine⟨Nat.le_refl _,fun j hj=>?_⟩
   rcases Nat.lt_or_ge n j with z | z
   ·rw[show j=n+1 by omega];exact Nat.le_refl _
   ·have:=h2 j z;omega
  | false =>
   have hs':=of_decide_eq_false hs
   rw[if_neg (by simp)]
   refine⟨by omega,fun j hj=>?_⟩
   rcases Nat.lt_or_ge n j with z | z
   ·rw[show j=n+1 by omega];omega
   ·exact h2 j z
theorem DD{C:List Str}(h:C.length<=1000)(h2:∀c∈C,c.length<=1000):(C=[]/\sC [.lst (C.map .str)]=some .non)\/∃c∈C,sC [.lst (C.map .str)]=some (.str c)/\∀c'∈C,c.length<=c'.length:=by
 have h3:C.all (fun x=>decide (x.length<=100000))=true:=List.all_eq_true.mpr fun c hc=>by have:=h2 c hc;simp;omega
 have e:sC [.lst (C.map .str)]=some (if C.isEmpty then .non else .str (C.getD (lO (kQ C) (C.length - 1)) Str.empty)):=by
  show(rG _).bind _=_
  rw[strs_map,Option.bind_some,if_pos ⟨by omega,h3⟩]
 cases C with
 | nil=>exact .inl ⟨rfl,e⟩
 | cons c0 C0 =>
  obtain⟨b1,b2⟩:=yE (c0::C0) ((c0::C0).length - 1)
  have hlt:lO (kQ (c0::C0)) ((c0::C0).length - 1)<(c0::C0).length:=by rw[List.length_cons] at *;omega
  refine .inr ⟨_,?_,e,fun c' hc'=>?_⟩
  ·rw[List.getD_eq_getElem?_getD,List.getElem?_eq_getElem hlt]
   exact List.getElem_mem hlt
  ·obtain⟨i,hi⟩:=List.getElem?_of_mem hc'
   have hi2:=(List.getElem?_eq_some_iff.mp hi).1
   have:=b2 i (by omega)
   rw[show(c0::C0).getD i Str.empty=c' by rw[List.getD_eq_getElem?_getD,hi];rfl] at this
   exact this
def Told(A B:Bk)(d:D):Prop:=(d=.non/\rP A B)\/∃u,Wd u/\d=.str (txt u)/\Pt A B u/\Ez A B u.length/\u.length<=1000
theorem eI{A B:Bk}(hA:A.Ok)(hB:B.Ok):∃d,aM [A.d,B.d]=some d/\Told A B d:=by
 obtain⟨kf,L,hI,hL,hw⟩:=zl hA hB
 have hkl:kf.length<=64:=Nat.le_trans hI.len (zT hA hB)
 obtain⟨o',hlo⟩:=sZ hA hB hI hL kf none [] (fun e he=>he) (by simp;omega)
 generalize hC:kf.flatMap (vS A B)=C at hlo
 have hin:∀{p:Pp} {w s:Str},(oN p,D.str w)∈kf->s∈wQ A B p->w++s∈C:=fun {p w s} h1 h2=>by
  rw[<- hC]
  exact List.mem_flatMap.mpr ⟨_,h1,List.mem_map.mpr ⟨s,h2,rfl⟩⟩
 have hout:∀c∈C,∃u,Wd u/\c=txt u/\Pt A B u:=fun c hc=>by
  rw[<- hC] at hc
  obtain⟨e,he,hce⟩:=List.mem_flatMap.mp hc
  obtain⟨_,hb,w,hw',_⟩:=hI.val e he
  obtain⟨p,hp,hk⟩:=pD.mp hb
  have ee:e=(oN p,.str w):=Prod.ext hk hw'
  subst ee
  obtain⟨u,hu,hku,rfl⟩:=zS hA hB hI _ _ w rfl he
  cases BP hku
  obtain⟨s,hs,rfl⟩:=List.mem_map.mp hce
  have hs':s∈wQ A B (run A B u):=hs
  unfold wQ at hs'
  split at hs'
  ·rename_i hl
   rw[List.mem_singleton.mp hs']
   refine⟨u,hu,?_,kq hl⟩
   show(⟨(txt u).cps++#[]⟩:Str)=_
   rw[Array.append_empty]
  ·obtain⟨k,hk,rfl⟩:=List.mem_map.mp hs'
   obtain⟨h6,hd⟩:=List.mem_filter.mp hk
   exact⟨u++[k],l9.mpr ⟨hu,List.mem_range.mp h6⟩,(txt_snoc u k).symm,rZ.mpr (.inl hd)⟩
 have hall:∀u,Wd u->Pt A B u->∃c∈C,c.length<=u.length:=fun u hu hp=>by
  have byl:∀v,Wd v->zx A B (run A B v)=true->∃c∈C,c.length<=v.length:=fun v hv hl=>by
   obtain⟨w,hw1,hw2⟩:=sJ hI _ v rfl hv
   refine⟨_,hin hw1 (s:=oS "") (by unfold wQ;rw[if_pos hl];exact List.mem_singleton.mpr rfl),?_⟩
   rw[str_len,show(oS "").length=0 by decide +kernel];omega
  rcases snoc_cases u with rfl | ⟨v,k,rfl⟩
  ·exact byl [] hu (xD.mp hp)
  ·obtain⟨hv,hk⟩:=l9.mp hu
   rcases rZ.mp hp with hd | hl
   ·cases hl:zx A B (run A B v) with
    | true =>
     obtain⟨c,h1,h2⟩:=byl v hv hl
     exact⟨c,h1,by simp;omega⟩
    | false =>
     obtain⟨w,hw1,hw2⟩:=sJ hI _ v rfl hv
     refine⟨_,hin hw1 (s:=DS k) (by unfold wQ;rw[if_neg (by rw[hl];simp)];exact List.mem_map.mpr ⟨k,List.mem_filter.mpr ⟨List.mem_range.mpr hk,hd⟩,rfl⟩),?_⟩
     rw[str_len,rg (sN hk)];simp;omega
   ·exact byl _ hu (by rw[om];exact hl)
 have hlen:C.length<=1000:=by
  rw[<- hC]
  have:∀l:KI,(l.flatMap (vS A B)).length<=6*l.length:=fun l=>by
   induction l with
   | nil=>simp
   | cons e l ih=>rw[List.flatMap_cons,List.length_append,List.length_cons];have:=we A B e;omega
  have:=this kf
  omega
 have hshort:∀c∈C,c.length<=1000:=fun c hc=>by
  rw[<- hC] at hc
  obtain⟨e,he,hce⟩:=List.mem_flatMap.mp hc
  obtain⟨_,hb,w,hw',hl⟩:=hI.val e he
  obtain⟨p,hp,hk⟩:=pD.mp hb
  have ee:e=(oN p,.str w):=Prod.ext hk hw'
  subst ee
  obtain⟨s,hs,rfl⟩:=List.mem_map.mp hce
  have:=yF A B _ s hs
  rw[str_len];omega
 have hF:∀d,sC [.lst (C.map .str)]=some d->aM [A.d,B.d]=some d:=fun d hd=>by
  show k_ (kP (kO (zM A B) (setAt 2)) _ [some A.d,some B.d,none,none,none])=_
  rw[kN (nD (hw [none,none,none]) rfl)]
  show k_ ((yc (uc (i4 2)) (setAt 3) (xx 4 vF) [some A.d,some B.d,some (.dcp (kf.map fun p=>k2 p.1) (kf.map fun p=>p.2)),none] []).bind _)=_
  have hin:uc (i4 2) [some A.d,some B.d,some (.dcp (kf.map fun p=>k2 p.1) (kf.map fun p=>p.2)),none]=some (kf.map fun e=>.tup [.int (k2 e.1).1,.int (k2 e.1).2]):=by
   show some ((kf.map fun p=>k2 p.1).map _)=_
   rw[List.map_map];rfl
  have hlp:yc (uc (i4 2)) (setAt 3) (xx 4 vF) [some A.d,some B.d,some (.dcp (kf.map fun p=>k2 p.1) (kf.map fun p=>p.2)),none] []=some (.nx [some A.d,some B.d,some (.dcp (kf.map fun p=>k2 p.1) (kf.map fun p=>p.2)),o'],C.map .str):=by
   show(uc (i4 2) _).bind _=_
   rw[hin,Option.bind_some]
   exact hlo
  rw[hlp,Option.bind_some]
  show k_ ((sC [.lst (C.map .str)]).map .rt)=_
  rw[hd];rfl
 rcases DD hlen hshort with ⟨he,hm⟩ | ⟨c,hc,hm,hmin⟩
 ·refine⟨_,hF _ hm,.inl ⟨rfl,fun u hu hp=>?_⟩⟩
  obtain⟨c,hc,_⟩:=hall u hu hp
  rw[he] at hc;cases hc
 ·obtain⟨u,hu,rfl,hp⟩:=hout c hc
  have hs:=hshort _ hc
  rw[cj hu] at hs
  refine⟨_,hF _ hm,.inr ⟨u,hu,rfl,hp,⟨⟨u,hu,rfl,hp⟩,fun v hv hlt hpv=>?_⟩,hs⟩⟩
  obtain⟨c',hc',hl'⟩:=hall v hv hpv
  have:=hmin c' hc'
  rw[cj hu] at this
  omega
theorem j8{xs:LD}{k:Nat}(h:k<=xs.length):cutD xs none (some (k:Int))=xs.take k:=by
 unfold cutD zc
 simp[show ¬ (k:Int)<0 by omega,Nat.min_eq_left h]
theorem j2{xs:LD}{k:Nat}(h:k<=xs.length):cutD xs (some (k:Int)) none=xs.drop k:=by
 unfold cutD zc
 simp[show ¬ (k:Int)<0 by omega,Nat.min_eq_left h]
 exact List.take_of_length_le (by simp)
theorem jk{α:Type}{xs:List α}{k:Nat}{y x:α}(h:x∈xs.take k++[y]++xs.drop (k+1)):x∈xs\/x=y:=by
 rcases List.mem_append.mp h with z | z
 ·rcases List.mem_append.mp z with a | a
  ·exact .inl (List.mem_of_mem_take a)
  ·exact .inr (List.mem_singleton.mp a)
 ·exact .inl (List.mem_of_mem_drop z)
theorem iO{α:Type}{xs:List α}{k:Nat}{y:α}(h:k<xs.length):(xs.take k++[y]++xs.drop (k+1)).length=xs.length:=by
 simp;omega
theorem iX{α:Type}{xs:List α}{k:Nat}{y:α}(f:α->D):(xs.map f).take k++[f y]++(xs.map f).drop (k+1)=(xs.take k++[y]++xs.drop (k+1)).map f:=by
 simp[List.map_take,List.map_drop]
theorem iE{f g:R->OD}{e:R->OD}{ρ:R}{xs:LD}{k:Nat}{y:D}(hf:f ρ=some (.tup xs))(hg:g ρ=some (.int (k:Int)))(he:e ρ=some y)(hk:k<xs.length)(hx:xs.length<=1000) :
  i8 kY (i8 kY (zv f zA (aP g)) (kG (i3 e i5))) (zv f (aP (i8 kY g (kI 1))) zA) ρ=some (.tup (xs.take k++[y]++xs.drop (k+1))):=by
 have a1:zv f zA (aP g) ρ=some (.tup (xs.take k)):=by
  show(f ρ).bind (fun x=>(some none).bind fun a=>((g ρ).bind GC).bind fun b=>FZ x a b)=_
  rw[hf,hg]
  show some (D.tup (cutD xs none (some (k:Int))))=_
  rw[j8 (Nat.le_of_lt hk)]
 have a2:zv f (aP (i8 kY g (kI 1))) zA ρ=some (.tup (xs.drop (k+1))):=by
  show(f ρ).bind (fun x=>(((g ρ).bind fun i=>(some (D.int 1)).bind fun j=>kY i j).bind GC).bind fun a=>(some none).bind fun b=>FZ x a b)=_
  rw[hf,hg]
  show some (D.tup (cutD xs (some ((k:Int)+1)) none))=_
  rw[show((k:Int)+1)=((k+1:Nat):Int) by omega,j2 hk]
 have a3:kG (i3 e i5) ρ=some (.tup [y]):=by
  show((e ρ).bind fun x=>(some []).map (x::·)).map D.tup=_
  rw[he];rfl
 show((zv f zA (aP g) ρ).bind fun x=>(kG (i3 e i5) ρ).bind fun y=>kY x y).bind (fun x=>(zv f (aP (i8 kY g (kI 1))) zA ρ).bind fun y=>kY x y)=_
 rw[a1,a2,a3]
 show(if (xs.take k).length+[y].length<=sizeLine then some (D.tup (xs.take k++[y])) else none).bind _=_
 rw[if_pos (Ct (by simp;omega)),Option.bind_some]
 show(if (xs.take k++[y]).length+(xs.drop (k+1)).length<=sizeLine then _ else none)=_
 rw[if_pos (Ct (by simp;omega))]
theorem vk(a:Int){n:Nat}(h:0<n):∃x:Nat,a%(n:Int)=(x:Int)/\x<n:=by
 have h0:0<=a%(n:Int):=Int.emod_nonneg _ (by omega)
 have h1:a%(n:Int)<(n:Int):=Int.emod_lt_of_pos _ (by omega)
 exact⟨(a%(n:Int)).toNat,by omega,by omega⟩
theorem vD{f g:R->OD}{ρ:R}{N j:Int}{n:Nat}(hf:f ρ=some (.int N))(hg:g ρ=some (.int (n:Int)))(hn:0<n)(h0:0<j)(h1:j<1073741824):i8 lB (i8 mK f (kI j)) g ρ=some (.int (N / j%(n:Int))):=by
 show((f ρ).bind fun x=>(some (D.int j)).bind fun y=>mK x y).bind (fun x=>(g ρ).bind fun y=>lB x y)=_
 rw[hf,hg]
 show((if 0<j/\j<1073741824 then some (D.int (N / j)) else none).bind fun x=>lB x (.int (n:Int)))=_
 rw[if_pos ⟨h0,h1⟩]
 show(if 0<(n:Int) then some (D.int (N / j%(n:Int))) else none)=_
 rw[if_pos (by omega)]
theorem Gu{c:R->Option Bool}{f g:R->Option Out}{ρ:R}(h:c ρ=some true):uT c f g ρ=f ρ:=by simp[h]
theorem DR{c:R->Option Bool}{f g:R->Option Out}{ρ:R}(h:c ρ=some false):uT c f g ρ=g ρ:=by simp[h]
theorem zY{A B:Bk}{m n:Nat}(h1:Ez A B m)(h2:Ez A B n):m=n:=by
 obtain⟨u,hu,hl,hp⟩:=h1.ex
 obtain⟨v,hv,hl',hp'⟩:=h2.ex
 have a:¬ u.length<n:=fun z=>h2.no u hu z hp
 have b:¬ v.length<m:=fun z=>h1.no v hv z hp'
 omega
def lJ{α:Type}[DecidableEq α](κ:Nat->α)(n i:Nat):Nat:=(List.range n).findIdx fun j=>decide (κ j=κ i)
theorem xp{α:Type}[DecidableEq α]{κ:Nat->α}{n i:Nat}(hi:i<n):lJ κ n i<n:=by
 unfold lJ
 have:=List.findIdx_lt_length_of_exists (xs:=List.range n) (p:=fun j=>decide (κ j=κ i)) ⟨i,List.mem_range.mpr hi,by simp⟩
 rwa [List.length_range] at this
theorem xj{α:Type}[DecidableEq α]{κ:Nat->α}{n i:Nat}(hi:i<n):κ (lJ κ n i)=κ i:=by
 have h:=xp (κ:=κ) hi
 have w:(List.range n).findIdx (fun j=>decide (κ j=κ i))<(List.range n).length:=by rw[List.length_range];exact h
 have:=List.findIdx_getElem (w:=w)
 rw[List.getElem_range] at this
 exact of_decide_eq_true this
theorem By{α:Type}[DecidableEq α]{κ:Nat->α}{n i j:Nat}(hj:j<lJ κ n i):κ j≠κ i:=by
 have:=List.not_of_lt_findIdx (xs:=List.range n) (p:=fun j=>decide (κ j=κ i)) hj
 rw[List.getElem_range] at this
 simpa using this
theorem Dp{α:Type}[DecidableEq α]{κ:Nat->α}{n i:Nat}(hi:i<n):lJ κ n i<=i:=by
 rcases Nat.lt_or_ge i (lJ κ n i) with h | h
 ·exact absurd rfl (By h)
 ·exact h
theorem vy{α:Type}[DecidableEq α]{κ:Nat->α}{n i j:Nat}(hi:i<n)(hj:j<n):lJ κ n i=lJ κ n j↔κ i=κ j:=by
 constructor
 ·intro h
  exact(xj hi).symm.trans ((congrArg κ h).trans (xj hj))
 ·intro h
  unfold lJ
  rw[h]
theorem Bs{α:Type}[DecidableEq α]{κ:Nat->α}{n i:Nat}(hi:i<n):lJ κ n (lJ κ n i)=lJ κ n i:=(vy (xp hi) hi).mpr (xj hi)
structure Bp (n:Nat) (h:Nat->Nat):Prop where
 le:∀i,i<n->h i<=i
 id:∀i,i<n->h (h i)=h i
theorem As{α:Type}[DecidableEq α](κ:Nat->α)(n:Nat):Bp n (lJ κ n):=⟨fun _ hi=>Dp hi,fun _ hi=>Bs hi⟩
def tQ(n:Nat)(h:Nat->Nat):Nat:=((List.range n).filter fun i=>decide (h i=i)).length
theorem uy{p q:Nat->Bool}:∀{l:List Nat},(∀x∈l,p x=true->q x=true)->(∃x∈l,q x=true/\p x=false)->(l.filter p).length<(l.filter q).length
 | [],_,h=>by obtain⟨x,hx,_⟩:=h;cases hx
 | a::l,h1,h2=>by
  have le:(l.filter p).length<=(l.filter q).length:=by
   have:∀l:List Nat,(∀x∈l,p x=true->q x=true)->(l.filter p).length<=(l.filter q).length:=fun l=>by
    induction l with
    | nil=>intro _;exact Nat.le_refl _
    | cons b l ih =>
     intro h
     have ih:=ih fun x hx=>h x (List.mem_cons_of_mem _ hx)
     have hb:=h b List.mem_cons_self
     rw[List.filter_cons,List.filter_cons]
     cases hp:p b with
     | true=>rw[hb hp];simp;exact ih
     | false =>
      cases hq:q b with
      | true=>simp;omega
      | false=>simpa using ih
   exact this l fun x hx=>h1 x (List.mem_cons_of_mem _ hx)
  rw[List.filter_cons,List.filter_cons]
  obtain⟨x,hx,hq,hp⟩:=h2
  rcases List.mem_cons.mp hx with rfl | hx
  ·rw[hq,hp];simp;omega
  ·have ih:=uy (l:=l) (fun x hx=>h1 x (List.mem_cons_of_mem _ hx)) ⟨x,hx,hq,hp⟩
   have ha:=h1 a List.mem_cons_self
   cases hpa:p a with
   | true=>rw[ha hpa];simp;exact ih
   | false =>
    cases hqa:q a with
    | true=>simp;omega
    | false=>simpa using ih
theorem DW{n:Nat}{h h':Nat->Nat}(f:Bp n h)(f':Bp n h')(r:∀i j,i<n->j<n->h' i=h' j->h i=h j)(x:∃i,i<n/\h' i≠h i):tQ n h<tQ n h':=by
 refine uy (fun i hi hh=>?_) ?_
 ·have hi:=List.mem_range.mp hi
  have e:h i=i:=of_decide_eq_true hh
  have l1:=f'.le i hi
  have e2:h (h' i)=h i:=r _ _ (by omega) hi (f'.id i hi)
  have l2:=f.le (h' i) (by omega)
  exact decide_eq_true (by omega)
 ·obtain⟨i,hi,hne⟩:=x
  have l1:=f'.le i hi
  refine⟨h' i,List.mem_range.mpr (by omega),decide_eq_true (f'.id i hi),decide_eq_false fun z=>hne ?_⟩
  rw[<- z]
  exact r _ _ (by omega) hi (f'.id i hi)
theorem Ec(n:Nat)(h:Nat->Nat):tQ n h<=n:=by
 unfold tQ
 exact Nat.le_trans (List.length_filter_le _ _) (by simp)
structure pb where
 n:Nat
 lk:Nat->Face×Bool
 dd:Nat->Nat->lN
 g:Nat->Nat->Nat
 gn:∀i k,i<n->k<6->g i k<n
 n1:1<=n
 n8:n<=8
section
variable{a:pb}
def yN(a:pb)(i:Nat):(Face×Bool)×List lN:=(a.lk i,(List.range 6).map (a.dd i))
def tu(a:pb)(h:Nat->Nat)(i:Nat):Nat×List Nat:=(h i,(List.range 6).map fun k=>h (a.g i k))
def kB(a:pb):Nat->Nat->Nat
 | 0=>lJ (yN a) a.n
 | t+1=>lJ (tu a (kB a t)) a.n
theorem Bd{α:Type}{f g:Nat->α}:(List.range 6).map f=(List.range 6).map g↔∀k,k<6->f k=g k:=by
 constructor
 ·intro h k hk
  have:=congrArg (fun l=>l[k]?) h
  simpa [List.getElem?_map,List.getElem?_range hk] using this
 ·intro h
  exact List.map_congr_left fun k hk=>h k (List.mem_range.mp hk)
theorem DH{i j:Nat}:yN a i=yN a j↔a.lk i=a.lk j/\∀k,k<6->a.dd i k=a.dd j k:=by
 unfold yN
 rw[Prod.mk.injEq,Bd]
theorem Cm{h:Nat->Nat}{i j:Nat}:tu a h i=tu a h j↔h i=h j/\∀k,k<6->h (a.g i k)=h (a.g j k):=by
 unfold tu
 rw[Prod.mk.injEq,Bd]
theorem tH(t:Nat):Bp a.n (kB a t):=by
 cases t with
 | zero=>exact As _ _
 | succ t=>exact As _ _
theorem yC{i j:Nat}(hi:i<a.n)(hj:j<a.n):kB a 0 i=kB a 0 j↔a.lk i=a.lk j/\∀k,k<6->a.dd i k=a.dd j k:=(vy hi hj).trans DH
theorem uV(t:Nat){i j:Nat}(hi:i<a.n)(hj:j<a.n):kB a (t+1) i=kB a (t+1) j↔kB a t i=kB a t j/\∀k,k<6->kB a t (a.g i k)=kB a t (a.g j k):=(vy hi hj).trans Cm
theorem tm(t:Nat):∀i j,i<a.n->j<a.n->kB a (t+1) i=kB a (t+1) j->kB a t i=kB a t j:=fun i j hi hj h=>((uV t hi hj).mp h).1
theorem xu{T:Nat}(hT:∀i,i<a.n->kB a (T+1) i=kB a T i){i j:Nat}(hi:i<a.n)(hj:j<a.n)(h:kB a T i=kB a T j):a.lk i=a.lk j/\(∀k,k<6->a.dd i k=a.dd j k)/\∀k,k<6->kB a T (a.g i k)=kB a T (a.g j k):=by
 have h1:kB a (T+1) i=kB a (T+1) j:=by rw[hT i hi,hT j hj,h]
 have down:∀t i j,i<a.n->j<a.n->kB a t i=kB a t j->kB a 0 i=kB a 0 j:=fun t=>by
  induction t with
  | zero=>exact fun _ _ _ _ h=>h
  | succ t ih=>exact fun i j hi hj h=>ih i j hi hj (tm t i j hi hj h)
 have h0:=(yC hi hj).mp (down T i j hi hj h)
 exact⟨h0.1,h0.2,((uV T hi hj).mp h1).2⟩
end
def kC(A:Bk)(ok:A.Ok):pb:=⟨A.modes.length,fun i=>((A.md i).face,(A.md i).stays),fun i k=>((A.md i).row k).1,fun i k=>((A.md i).row k).2,
 fun i k hi hk=>(lT ok hi).nx _ (List.mem_of_getElem? (pN (by rw[(lT ok hi).six];exact hk))),ok.some1,ok.some8⟩
theorem ij{α:Type}{T f:α->D}{e:R->OD}{ρ:R}:∀(xs:List α),(∀x∈xs,e (some (T x)::ρ)=some (f x))->mC (setAt 0) mF e (xs.map T) (none::ρ)=some (xs.map f)
 | [],_=>rfl
 | x::xs,h=>by
  have h1:=h x List.mem_cons_self
  have ih:=ij xs fun y hy=>h y (List.mem_cons_of_mem _ hy)
  have h0:setAt 0 (T x) (none::ρ)=some (some (T x)::ρ):=rfl
  rw[List.map_cons]
  simp only[mC,h0,Option.bind_some,mF,if_true,h1,ih,Option.map_some,List.map_cons]
theorem yZ{α:Type}{T f:α->D}{it:R->Option LD}{e:R->OD}{ρ:R}{xs:List α}(hi:it ρ=some (xs.map T))(hl:xs.length<=1000)(h:∀x∈xs,e (some (T x)::ρ)=some (f x)):qP 1 it (setAt 0) mF e ρ=some (.lst (xs.map f)):=by
 unfold qP
 rw[hi,Option.bind_some,if_pos (Ct (by rw[List.length_map];omega))]
 show(mC (setAt 0) mF e (xs.map T) (none::ρ)).map D.lst=_
 rw[ij xs h];rfl
theorem Bv(A:Bk){β:Type}(f:Md->β):A.modes.map f=(List.range A.modes.length).map fun i=>f (A.md i):=by
 apply List.ext_getElem?
 intro i
 rw[List.getElem?_map,List.getElem?_map]
 by_cases hi:i<A.modes.length
 ·rw[List.getElem?_range hi,List.getElem?_eq_getElem hi]
  unfold Bk.md
  show _=some (f (A.modes.getD i default))
  rw[List.getD_eq_getElem?_getD,List.getElem?_eq_getElem hi];rfl
 ·rw[List.getElem?_eq_none (by omega),List.getElem?_eq_none (by simpa using hi)];rfl
theorem qE{α:Type}[DecidableEq α]{f g:Nat->D}{u v:Nat->α}(h:∀k,sH (f k) (g k)=decide (u k=v k)):∀l:List Nat,qO (l.map f) (l.map g)=decide (l.map u=l.map v)
 | []=>rfl
 | x::l=>by
  show(sH (f x) (g x)&&qO (l.map f) (l.map g))=_
  rw[h x,qE h l,<- Bool.decide_and]
  exact decide_eq_decide.mpr (by rw[List.map_cons,List.map_cons,List.cons.injEq])
theorem dG(i j:Nat):sH (.int (i:Int)) (.int (j:Int))=decide (i=j):=by
 show((i:Int)==(j:Int))=_
 by_cases h:i=j
 ·subst h;simp
 ·rw[decide_eq_false h,beq_eq_false_iff_ne.mpr (by omega)]
theorem gJ(x y:Str):sH (.str x) (.str y)=decide (x=y):=by
 show(x==y)=_
 by_cases h:x=y
 ·subst h;simp
 ·rw[decide_eq_false h,beq_eq_false_iff_ne.mpr h]
theorem ox{α:Type}{f:α->D}(h:∀x,oZ (f x)=true):∀l:List α,nG (l.map f)=true
 | []=>rfl
 | x::l=>by show(oZ (f x)&&nG _)=true;rw[h x,ox h l];rfl
theorem qv{α:Type}{f:α->D}{m:Nat}(h:∀x,nu (f x)<=m):∀l:List α,pB (l.map f)<=m
 | []=>Nat.zero_le _
 | x::l=>by
  have:=h x
  have:=qv h l
  simp only[List.map_cons,pB]
  omega
theorem Ao(d:lN):oZ (.str d.x)=true:=by cases d<;>decide +kernel
theorem Am(d:Face):oZ (.str d.x)=true:=by cases d<;>decide +kernel
theorem fU{α:Type}[DecidableEq α]{T:Nat->D}{κ:Nat->α}{n:Nat}(hn:n<=8)(h:∀i j,sH (T j) (T i)=decide (κ j=κ i))(hl:∀i,oZ (T i)=true)(hd:∀i,nu (T i)<=100) :
  aH [.lst ((List.range n).map T)]=some (.lst ((List.range n).map fun i=>.int (lJ κ n i:Int))):=by
 refine me (yZ (T:=T) (xs:=List.range n) rfl (by simp;omega) fun i hi=>?_)
 have hi:=List.mem_range.mp hi
 show vV [.lst ((List.range n).map T),T i]=_
 have ef:((List.range n).map T).findIdx (fun y=>sH y (T i))=lJ κ n i:=by
  rw[List.findIdx_map]
  unfold lJ
  congr 1
  funext j
  exact h i j
 show(if _ then (if ((List.range n).map T).findIdx (fun y=>sH y (T i))<_ then some (D.int ((((List.range n).map T).findIdx (fun y=>sH y (T i)):Nat):Int)) else none) else none)=_
 rw[ef,if_pos ⟨hd i,hl i,ox hl _,by simp;omega⟩,if_pos (by simpa using xp hi)]
def kZ(n:Nat)(h:Nat->Nat):D:=.lst ((List.range n).map fun i=>.int (h i:Int))
theorem D7{g:R->Option Out}{x y:D}:via 2 2 g [x,y]=k_ (g [some x,some y]):=rfl
theorem AR{n i:Nat}{h:Nat->Nat}(hi:i<n):kF (kZ n h) (.int (i:Int))=some (.int (h i:Int)):=by
 show wL _ (i:Int)=_
 exact pY (by rw[List.getElem?_map,List.getElem?_range hi];rfl)
theorem jL{A:Bk}(ok:A.Ok){i:Nat}{h:Nat->Nat}(hi:i<A.modes.length):aq [(A.md i).d,kZ A.modes.length h]=some (.lst ((List.range 6).map fun k=>.int (h ((kC A ok).g i k):Int))):=by
 refine me (yZ (T:=fun k=>D.int (((A.md i).row k).2:Int)) (xs:=List.range 6) ?_ (by simp) fun k hk=>?_)
 ·show((i6 aZ (i3 (i4 0) i5)) [some (A.md i).d,some (kZ A.modes.length h)]).bind _=_
  rw[lS (x:=(A.md i).d) rfl (de (lT ok hi).six)];rfl
 ·exact AR ((kC A ok).gn i k hi (List.mem_range.mp hk))
theorem jY{A:Bk}(ok:A.Ok)(h:Nat->Nat):aK [.tup (A.modes.map Md.d),kZ A.modes.length h]=some (kZ A.modes.length (lJ (tu (kC A ok) h) A.modes.length)):=by
 have n8:=ok.some8
 have key1:qP 1 (mt (i6 ml (i3 (i4 0) i5))) (setAt 0) mF (kG (i3 (i8 kF (i4 2) (i4 0)) (i3 (i6 aq (i3 (i8 kF (i4 1) (i4 0)) (i3 (i4 2) i5))) i5))) [some (.tup (A.modes.map Md.d)),some (kZ A.modes.length h)]=some (.lst ((List.range A.modes.length).map fun i=>.tup [.int (h i:Int),.lst ((List.range 6).map fun k=>.int (h ((kC A ok).g i k):Int))])):=by
  refine yZ (T:=fun i:Nat=>D.int (i:Int)) (xs:=List.range A.modes.length) ?_ (by simp;omega) fun i hi=>?_
  ·have hlen:i6 ml (i3 (i4 0) i5) [some (.tup (A.modes.map Md.d)),some (kZ A.modes.length h)]=some (.int (A.modes.length:Int)):=by
    show some (D.int ((A.modes.map Md.d).length:Int))=_
    rw[List.length_map]
   rw[inR hlen (by omega)]
   unfold mH
   simp
  ·have hi:=List.mem_range.mp hi
   have a1:i8 kF (i4 2) (i4 0) [some (.int (i:Int)),some (.tup (A.modes.map Md.d)),some (kZ A.modes.length h)]=some (.int (h i:Int)):=AR hi
   have a2:i8 kF (i4 1) (i4 0) [some (.int (i:Int)),some (.tup (A.modes.map Md.d)),some (kZ A.modes.length h)]=some (A.md i).d:=yf hi
   have a3:i6 aq (i3 (i8 kF (i4 1) (i4 0)) (i3 (i4 2) i5)) [some (.int (i:Int)),some (.tup (A.modes.map Md.d)),some (kZ A.modes.length h)]=some (.lst ((List.range 6).map fun k=>.int (h ((kC A ok).g i k):Int))):=by
    show((i8 kF (i4 1) (i4 0) _).bind fun x=>((some (kZ A.modes.length h)).bind fun y=>(some []).map (y::·)).map (x::·)).bind aq=_
    rw[a2]
    exact jL ok hi
   show((i8 kF (i4 2) (i4 0) _).bind fun x=>((i6 aq _ _).bind fun y=>(some []).map (y::·)).map (x::·)).map D.tup=_
   rw[a1,a3];rfl
 have key2:aH [.lst ((List.range A.modes.length).map fun i=>.tup [.int (h i:Int),.lst ((List.range 6).map fun k=>.int (h ((kC A ok).g i k):Int))])]=some (.lst ((List.range A.modes.length).map fun i=>.int (lJ (tu (kC A ok) h) A.modes.length i:Int))):=by
  refine fU n8 (fun i j=>?_) (fun i=>?_) fun i=>?_
  ·show(sH (.int (h j:Int)) (.int (h i:Int))&&(qO ((List.range 6).map fun k=>.int (h ((kC A ok).g j k):Int)) ((List.range 6).map fun k=>.int (h ((kC A ok).g i k):Int))&&true))=_
   rw[dG,qE (u:=fun k=>h ((kC A ok).g j k)) (v:=fun k=>h ((kC A ok).g i k)) (fun k=>dG _ _),Bool.and_true,<- Bool.decide_and]
   refine decide_eq_decide.mpr ?_
   unfold tu
   rw[Prod.mk.injEq]
  ·simp only[oZ,nG]
   rw[ox (fun k=>rfl)];rfl
  ·have:=qv (f:=fun k=>D.int (h ((kC A ok).g i k):Int)) (m:=5) (fun k=>by simp[nu]) (List.range 6)
   simp only[nu,pB]
   omega
 exact(D7 (g:=cq)).trans (me (lS key1 key2))
theorem jx{A:Bk}(ok:A.Ok)(t:Nat):aK [.tup (A.modes.map Md.d),kZ A.modes.length (kB (kC A ok) t)]=some (kZ A.modes.length (kB (kC A ok) (t+1))):=jY ok (kB (kC A ok) t)
theorem Cw{F:LD->OD}{x y:D}{r:R}:i6 F (i3 (i4 0) (i3 (i4 1) i5)) (some x::some y::r)=F [x,y]:=rfl
theorem DX{f:R->OD}{x y:D}{o:OD}{d:D}(h:f [some x,some y,o]=some d):kO f (setAt 2) [some x,some y,o]=some (.nx [some x,some y,some d]):=nD h rfl
theorem x8{A:Bk}(ok:A.Ok)(t:Nat)(o:OD):kO (i6 aK (i3 (i4 0) (i3 (i4 1) i5))) (setAt 2) [some (.tup (A.modes.map Md.d)),some (kZ A.modes.length (kB (kC A ok) t)),o]=some (.nx [some (.tup (A.modes.map Md.d)),some (kZ A.modes.length (kB (kC A ok) t)),some (kZ A.modes.length (kB (kC A ok) (t+1)))]):=
 DX (Cw.trans (jx ok t))
theorem EZ(n:Nat)(h h':Nat->Nat):qX (kZ n h) (kZ n h')=some (!decide (∀i,i<n->h i=h' i)):=by
 have hd:nu (kZ n h)<=100:=by
  have:=qv (f:=fun i=>D.int (h i:Int)) (m:=5) (fun k=>by simp[nu]) (List.range n)
  unfold kZ
  simp only[nu]
  omega
 unfold qX Dm
 rw[if_pos ⟨hd,ox (fun k=>rfl) _,ox (fun k=>rfl) _⟩]
 show some (!qO ((List.range n).map fun i=>.int (h i:Int)) ((List.range n).map fun i=>.int (h' i:Int)))=_
 rw[qE (u:=h) (v:=h') fun k=>dG _ _]
 congr 2
 apply decide_eq_decide.mpr
 constructor
 ·intro z i hi
  have:=congrArg (fun l=>l[i]?) z
  simpa [List.getElem?_map,List.getElem?_range hi] using this
 ·exact fun z=>List.map_congr_left fun i hi=>z i (List.mem_range.mp hi)
def x_:R->Option Out:=(kP (kO (i4 2) (setAt 1)) (kO (i6 aK (i3 (i4 0) (i3 (i4 1) i5))) (setAt 2)))
theorem gc{A:Bk}(ok:A.Ok):∀(m t:Nat),9<=m+tQ A.modes.length (kB (kC A ok) t)->∃T,(∀i,i<A.modes.length->kB (kC A ok) (T+1) i=kB (kC A ok) T i)/\∃o,vj (lC qX (i4 2) (i4 1)) x_ m [some (.tup (A.modes.map Md.d)),some (kZ A.modes.length (kB (kC A ok) t)),some (kZ A.modes.length (kB (kC A ok) (t+1)))]=some (.nx [some (.tup (A.modes.map Md.d)),some (kZ A.modes.length (kB (kC A ok) T)),o])
 | 0,t,h=>by have:=Ec A.modes.length (kB (kC A ok) t);have:=ok.some8;omega
 | m+1,t,h=>by
  have c:lC qX (i4 2) (i4 1) [some (.tup (A.modes.map Md.d)),some (kZ A.modes.length (kB (kC A ok) t)),some (kZ A.modes.length (kB (kC A ok) (t+1)))]=some (!decide (∀i,i<A.modes.length->kB (kC A ok) (t+1) i=kB (kC A ok) t i)):=EZ _ _ _
  by_cases hs:∀i,i<A.modes.length->kB (kC A ok) (t+1) i=kB (kC A ok) t i
  ·rw[decide_eq_true hs] at c
   refine⟨t,hs,some (kZ A.modes.length (kB (kC A ok) (t+1))),?_⟩
   show(lC qX (i4 2) (i4 1) _).bind _=_
   rw[c];rfl
  ·rw[decide_eq_false hs] at c
   have hlt:=DW (tH (a:=kC A ok) t) (tH (a:=kC A ok) (t+1)) (tm t) (Classical.byContradiction fun z=>hs fun i hi=>Classical.byContradiction fun y=>z ⟨i,hi,y⟩)
   obtain⟨T,hT,o,e⟩:=gc ok m (t+1) (by have:tQ A.modes.length (kB (kC A ok) t)<tQ A.modes.length (kB (kC A ok) (t+1)):=hlt;omega)
   refine⟨T,hT,o,?_⟩
   have b:x_ [some (.tup (A.modes.map Md.d)),some (kZ A.modes.length (kB (kC A ok) t)),some (kZ A.modes.length (kB (kC A ok) (t+1)))]=some (.nx [some (.tup (A.modes.map Md.d)),some (kZ A.modes.length (kB (kC A ok) (t+1))),some (kZ A.modes.length (kB (kC A ok) (t+2)))]):=by
    unfold x_
    rw[kN (nD (d:=kZ A.modes.length (kB (kC A ok) (t+1))) (ρ':=[some (.tup (A.modes.map Md.d)),some (kZ A.modes.length (kB (kC A ok) (t+1))),some (kZ A.modes.length (kB (kC A ok) (t+1)))]) rfl rfl)]
    exact x8 ok (t+1) _
   unfold vj
   rw[c,Option.bind_some]
   rw[if_pos (show(!false)=true from rfl),b]
   exact e
theorem ji{A:Bk}(ok:A.Ok):∃T,(∀i,i<A.modes.length->kB (kC A ok) (T+1) i=kB (kC A ok) T i)/\bi [.tup (A.modes.map Md.d)]=some (kZ A.modes.length (kB (kC A ok) T)):=by
 have n8:=ok.some8
 obtain⟨T,hT,o,e⟩:=gc ok 20 0 (by omega)
 refine⟨T,hT,?_⟩
 have s1:kO (i6 aH (i3 (qP 1 (lh (i4 0)) (setAt 0) mF (kG (i3 (i6 a_ (i3 (i4 0) i5)) (i3 (i6 aC (i3 (i4 0) i5)) i5)))) i5)) (setAt 1) [some (.tup (A.modes.map Md.d)),none,none]=some (.nx [some (.tup (A.modes.map Md.d)),some (kZ A.modes.length (kB (kC A ok) 0)),none]):=by
  refine nD (d:=kZ A.modes.length (kB (kC A ok) 0)) (lS (x:=.lst ((List.range A.modes.length).map fun i=>.tup [.tup [.str (A.md i).face.x,.bl (A.md i).stays],.lst ((List.range 6).map fun k=>.str ((A.md i).row k).1.x)])) ?_ ?_) rfl
  ·refine yZ (T:=fun i=>(A.md i).d) (xs:=List.range A.modes.length) ?_ (by simp;omega) fun i hi=>?_
   ·show some (A.modes.map Md.d)=_
    rw[Bv]
   ·have hi:=List.mem_range.mp hi
    show((i6 a_ (i3 (i4 0) i5) _).bind fun x=>((i6 aC (i3 (i4 0) i5) _).bind fun y=>(some []).map (y::·)).map (x::·)).map D.tup=_
    rw[lS (x:=(A.md i).d) rfl (dW _),lS (x:=(A.md i).d) rfl (dR (lT ok hi).six)];rfl
  ·refine fU (κ:=yN (kC A ok)) n8 (fun i j=>?_) (fun i=>?_) fun i=>?_
   ·show((sH (.str (A.md j).face.x) (.str (A.md i).face.x)&&(((A.md j).stays==(A.md i).stays)&&true))&&(qO ((List.range 6).map fun k=>.str ((A.md j).row k).1.x) ((List.range 6).map fun k=>.str ((A.md i).row k).1.x)&&true))=_
    have hf:∀f g:Face,sH (.str f.x) (.str g.x)=decide (f=g):=by intro f g;cases f<;>cases g<;>decide +kernel
    rw[hf,qE (u:=(kC A ok).dd j) (v:=(kC A ok).dd i) fun k=>by
     rw[gJ]
     exact decide_eq_decide.mpr ⟨vW,fun z=>congrArg lN.x z⟩]
    have hb:∀x y:Bool,(x==y)=decide (x=y):=by intro x y;cases x<;>cases y<;>rfl
    rw[Bool.and_true,Bool.and_true,hb,<- Bool.decide_and,<- Bool.decide_and]
    refine decide_eq_decide.mpr ?_
    unfold yN
    rw[Prod.mk.injEq]
    show _↔((A.md j).face,(A.md j).stays)=((A.md i).face,(A.md i).stays)/\_
    rw[Prod.mk.injEq]
   ·have h1:=Am (A.md i).face
    have h2:=ox (f:=fun k=>D.str ((A.md i).row k).1.x) (fun k=>Ao _) (List.range 6)
    simp only[oZ,nG] at *
    rw[h1,h2];rfl
   ·have:=qv (f:=fun k=>D.str ((A.md i).row k).1.x) (m:=5) (fun k=>by simp[nu]) (List.range 6)
    simp only[nu,pB]
    omega
 show k_ (kP _ _ [some (.tup (A.modes.map Md.d)),none,none])=_
 rw[kN s1]
 rw[kN (x8 ok 0 none)]
 show k_ (kP (vj (lC qX (i4 2) (i4 1)) x_ 20) _ _)=_
 rw[kN e]
 rfl
inductive o_ {α:Type} (pr:List α->α->List α):List α->Nat->List α->Prop
 | done {sn:List α} {i:Nat}:sn.length<=i->o_ pr sn i sn
 | step {sn r:List α} {i:Nat} {x:α}:sn[i]?=some x->o_ pr (pr sn x) (i+1) r->o_ pr sn i r
theorem o_.block{α:Type}{pr:List α->α->List α}(hpr:∀sn x,∃e,pr sn x=sn++e){r:List α}:∀(d:Nat) (sn:List α) (i:Nat),i+d<=sn.length->o_ pr (((sn.drop i).take d).foldl pr sn) (i+d) r->o_ pr sn i r
 | 0,sn,i,_,h=>by simpa using h
 | d+1,sn,i,hl,h=>by
  have hi:i<sn.length:=by omega
  refine .step (x:=sn[i]) (List.getElem?_eq_getElem hi) (o_.block hpr d _ _ ?_ ?_)
  ·obtain⟨e,he⟩:=hpr sn sn[i]
   rw[he,List.length_append];omega
  ·rw[List.drop_eq_getElem_cons hi,List.take_succ_cons,List.foldl_cons] at h
   obtain⟨e,he⟩:=hpr sn sn[i]
   rw[show i+(d+1)=i+1+d by omega] at h
   rw[show((pr sn sn[i]).drop (i+1)).take d=(sn.drop (i+1)).take d by
    rw[he,List.drop_append_of_le_length (by omega),List.take_append_of_le_length (by rw[List.length_drop];omega)]]
   exact h
theorem vJ.qr{α:Type}{pr:List α->α->List α}(hpr:∀sn x,∃e,pr sn x=sn++e){sn r:List α}{i:Nat}(h:vJ pr sn i r):o_ pr sn i r:=by
 induction h with
 | done hl=>exact .done hl
 | step hi _ ih =>
  rename_i sn r i _
  refine o_.block hpr (sn.length - i) sn i (by omega) ?_
  rw[show i+(sn.length - i)=sn.length by omega,List.take_of_length_le (by rw[List.length_drop];exact Nat.le_refl _)]
  exact ih
theorem ri{α:Type}[DecidableEq α]:∀(l sn:List α),∃e,l.foldl mD sn=sn++e
 | [],sn=>⟨[],by simp⟩
 | x::l,sn=>by
  rw[List.foldl_cons]
  unfold mD
  split
  ·exact ri l sn
  ·obtain⟨e,he⟩:=ri l (sn++[x])
   exact⟨[x]++e,by rw[<- List.append_assoc];exact he⟩
theorem yi{α:Type}[DecidableEq α](go:α->List α)(sn:List α)(x:α):∃e,mW go sn x=sn++e:=ri _ _
theorem Aj{α β:Type}[DecidableEq α][DecidableEq β]{f:α->β}(hf:∀x y,f x=f y->x=y)(sn:List α)(e:α):mD (sn.map f) (f e)=(mD sn e).map f:=by
 unfold mD
 by_cases h:e∈sn
 ·rw[if_pos h,if_pos (List.mem_map.mpr ⟨e,h,rfl⟩)]
 ·rw[if_neg h,if_neg fun z=>h (by obtain⟨y,hy,hz⟩:=List.mem_map.mp z;exact hf _ _ hz ▸ hy),List.map_append];rfl
theorem ua{α β:Type}[DecidableEq α][DecidableEq β]{f:α->β}(hf:∀x y,f x=f y->x=y):∀(l sn:List α),(l.map f).foldl mD (sn.map f)=(l.foldl mD sn).map f
 | [],_=>rfl
 | x::l,sn=>by rw[List.map_cons,List.foldl_cons,List.foldl_cons,Aj hf,ua hf l]
theorem o_.map{α β:Type}{pr:List α->α->List α}{pr':List β->β->List β}{f:α->β}(h:∀sn x,pr' (sn.map f) (f x)=(pr sn x).map f){sn r:List α}{i:Nat}(q:o_ pr sn i r):o_ pr' (sn.map f) i (r.map f):=by
 induction q with
 | done hl=>exact .done (by rw[List.length_map];exact hl)
 | step hx _ ih=>exact .step (x:=f _) (by rw[List.getElem?_map,hx];rfl) (by rw[h];exact ih)
def kE(x:Nat):Ky:=.inl (x:Int)
theorem ng(x y:Nat)(h:kE x=kE y):x=y:=by
 have:=Sum.inl.inj h
 omega
def oW(a:pb)(h:Nat->Nat)(x:Nat):List Nat:=(List.range 6).map fun k=>h (a.g x k)
def nE(a:pb)(h:Nat->Nat):Ky->List Ky
 | .inl x=>(oW a h x.toNat).map kE
 | .inr _=>[]
theorem tj(a:pb)(h:Nat->Nat)(x:Nat):nE a h (kE x)=(oW a h x).map kE:=rfl
def nh(n:Nat):List Ky:=(List.range n).map kE
theorem l7{n:Nat}{x:Ky}:x∈nh n↔∃y,y<n/\x=kE y:=by
 unfold nh
 rw[List.mem_map]
 constructor
 ·rintro⟨y,hy,rfl⟩;exact⟨y,List.mem_range.mp hy,rfl⟩
 ·rintro⟨y,hy,rfl⟩;exact⟨y,List.mem_range.mpr hy,rfl⟩
theorem tP{n:Nat}:∀(l:List Ky),(∀e∈l,∃y,y<n/\e=kE y)->∃S:List Nat,l=S.map kE/\∀x∈S,x<n
 | [],_=>⟨[],rfl,fun x hx=>(by cases hx)⟩
 | e::l,h=>by
  obtain⟨y,hy,rfl⟩:=h e List.mem_cons_self
  obtain⟨S,rfl,hS⟩:=tP l fun z hz=>h z (List.mem_cons_of_mem _ hz)
  exact⟨y::S,rfl,fun x hx=>by rcases List.mem_cons.mp hx with rfl | z;exact hy;exact hS x z⟩
theorem ya{A:Bk}(ok:A.Ok){h:Nat->Nat}(hh:∀i,i<A.modes.length->h i<A.modes.length):∀x:Ky,x∈nh A.modes.length->(nE (kC A ok) h x).length=6/\∀e∈nE (kC A ok) h x,True/\e∈nh A.modes.length:=fun x hx=>by
 obtain⟨y,hy,rfl⟩:=l7.mp hx
 rw[tj]
 refine⟨by simp[oW],fun e he=>⟨trivial,?_⟩⟩
 obtain⟨z,hz,rfl⟩:=List.mem_map.mp he
 obtain⟨k,hk,rfl⟩:=List.mem_map.mp hz
 exact l7.mpr ⟨_,hh _ ((kC A ok).gn y k hy (List.mem_range.mp hk)),rfl⟩
theorem Cz{A:Bk}(ok:A.Ok){h:Nat->Nat}(hh:∀i,i<A.modes.length->h i<A.modes.length){c:Nat}(x:Ky)(hx:x∈nh A.modes.length):Gives (.cl xA c [.tup (A.modes.map Md.d),kZ A.modes.length h]) (nE (kC A ok) h) x:=by
 obtain⟨y,hy,rfl⟩:=l7.mp hx
 refine⟨(ya ok hh _ hx).1,fun ρ h2 h3=>?_⟩
 unfold qp
 rw[h2,Option.bind_some]
 show((i4 3 ρ).bind fun y=>(some []).map (y::·)).bind _=_
 rw[h3]
 show(LL xA).bind _=_
 rw[Ho,Option.bind_some]
 have nb1:mV (.tup (A.modes.map Md.d))=true:=bh fv _
 have nb2:mV (kZ A.modes.length h)=true:=bh (fun _=>rfl) _
 rw[if_pos ⟨rfl,by show(mV _&&(mV _&&true))=true;rw[nb1,nb2];rfl,FW.symm⟩]
 have e3:pd 3 AQ ([kH (kE y)]++[.tup (A.modes.map Md.d),kZ A.modes.length h])=some (.lst ((nE (kC A ok) h (kE y)).map kH)):=by
  show i6 aq _ [some (.int (y:Int)),some (.tup (A.modes.map Md.d)),some (kZ A.modes.length h)]=_
  have a2:i8 kF (i4 1) (i4 0) [some (.int (y:Int)),some (.tup (A.modes.map Md.d)),some (kZ A.modes.length h)]=some (A.md y).d:=yf hy
  show((i8 kF (i4 1) (i4 0) _).bind fun x=>((some (kZ A.modes.length h)).bind fun y=>(some []).map (y::·)).map (x::·)).bind aq=_
  rw[a2]
  refine(jL ok hy).trans ?_
  rw[tj,List.map_map,oW,List.map_map]
  rfl
 rw[e3,Option.bind_some,if_pos (show mV (.lst ((nE (kC A ok) h (kE y)).map kH))=true from bh (fun k=>by cases k<;>rfl) _)]
theorem u5:∀S:List Nat,pP (S.map fun x:Nat=>(Sum.inl (x:Int):Int ⊕ Str))=some (S.map fun x:Nat=>(x:Int))
 | []=>rfl
 | x::S=>by show(pP _).map _=_;rw[u5 S];rfl
theorem wG:∀S:List Nat,intsOf (S.map fun x:Nat=>D.int (x:Int))=some (S.map fun x:Nat=>(x:Int))
 | []=>rfl
 | x::S=>by show(intsOf _).map _=_;rw[wG S];rfl
theorem jf{A:Bk}(ok:A.Ok){h:Nat->Nat}(hh:∀i,i<A.modes.length->h i<A.modes.length):∃S:List Nat,o_ (mW (oW (kC A ok) h)) [0] 0 S/\(∀x∈S,x<A.modes.length)/\(∀x∈S,∀k,k<6->h ((kC A ok).g x k)∈S)/\S.length<=8 /\
  ∀r:R,i6 xE (i3 (oe ay xA (i3 (kI 0) i5) (ni [1,2])) i5) (some A.d::some (.tup (A.modes.map Md.d))::some (kZ A.modes.length h)::r)=some (.lst (S.map fun x:Nat=>.int (x:Int))):=by
 have n1:=ok.some1
 have n8:=ok.some8
 obtain⟨kf,L,hk,hI,hL_q',hlr⟩:=so (go:=nE (kC A ok) h) (bx:=nh A.modes.length) (s:=kE 0) (lf:=true) (fun x hx=>by obtain⟨y,_,rfl⟩:=l7.mp hx;rfl) (by simp[nh];omega) (l7.mpr ⟨0,n1,rfl⟩) (ya ok hh)
 have hks:∀e∈kD kf,∃y,y<A.modes.length/\e=kE y:=fun e he=>by
  obtain⟨d,hd⟩:=nY he
  exact l7.mp (hI.val _ hd).2.1
 obtain⟨S,hS,hSn⟩:=tP _ hks
 have hq:=hlr.qr (yi _)
 have hpr:∀(sn:List Nat) (x:Nat),mW (nE (kC A ok) h) (sn.map kE) (kE x)=(mW (oW (kC A ok) h) sn x).map kE:=fun sn x=>by
  unfold mW
  rw[tj]
  exact ua ng _ _
 have lift:∀{sn:List Nat} {i:Nat} {r:List Ky},o_ (mW (nE (kC A ok) h)) (sn.map kE) i r->∃r',r=r'.map kE/\o_ (mW (oW (kC A ok) h)) sn i r':=fun {sn i r} q=>by
  generalize hsn:sn.map kE=sk at q
  induction q generalizing sn with
  | done hl=>exact⟨sn,hsn.symm,.done (by rw[<- hsn,List.length_map] at hl;exact hl)⟩
  | step hx _ ih =>
   rw[<- hsn,List.getElem?_map] at hx
   cases hx':sn[‹Nat›]? with
   | none=>rw[hx'] at hx;cases hx
   | some x =>
    rw[hx'] at hx
    cases hx
    obtain⟨r',h1,h2⟩:=ih (sn:=mW (oW (kC A ok) h) sn x) (by rw[<- hpr,hsn])
    exact⟨r',h1,.step hx' h2⟩
 obtain⟨S',hS',hq'⟩:=lift (sn:=[0]) hq
 have hSS:S'=S:=by
  have z:=hS'.symm.trans hS
  have inj:∀(x y:List Nat),x.map kE=y.map kE->x=y:=fun x=>by
   induction x with
   | nil=>intro y hy;cases y with | nil=>rfl | cons=>cases hy
   | cons a x ih =>
    intro y hy
    cases y with
    | nil=>cases hy
    | cons b y =>
     rw[List.map_cons,List.map_cons] at hy
     injection hy with h1 h2
     rw[ng _ _ h1,ih y h2]
  exact inj _ _ z
 subst hSS
 have hlen:S'.length<=8:=by
  have:=hI.len
  have e:(kD kf).length=S'.length:=by rw[hS,List.length_map]
  have e2:(kD kf).length=kf.length:=by simp[kD]
  have e3:(nh A.modes.length).length=A.modes.length:=by simp[nh]
  omega
 refine⟨S',hq',hSn,fun x hx k hk6=>?_,hlen,fun r=>?_⟩
 ·have hx':kE x∈kD kf:=by rw[hS];exact List.mem_map.mpr ⟨x,hx,rfl⟩
  obtain⟨d,hd⟩:=nY hx'
  obtain⟨_,_,w,hw,_⟩:=hI.val _ hd
  have hw':d=.str w:=hw
  subst hw'
  obtain⟨v,hv,_⟩:=hI.cl _ _ hd (by simp) (kE (h ((kC A ok).g x k))) (by
   rw[tj]
   exact List.mem_map.mpr ⟨_,List.mem_map.mpr ⟨k,List.mem_range.mpr hk6,rfl⟩,rfl⟩)
  have:kE (h ((kC A ok).g x k))∈kD kf:=List.mem_map.mpr ⟨_,hv,rfl⟩
  rw[hS] at this
  obtain⟨y,hy,e⟩:=List.mem_map.mp this
  exact ng _ _ e ▸ hy
 ·have hne:kf ≠ []:=fun z=>by have:=hI.st;rw[z] at this;cases this
  have hd:mw kf=.dct (kf.map fun p=>k1 p.1) (kf.map fun p=>p.2):=by
   match kf,hne,hI with
   | (.inl q,d)::kf,_,_=>rfl
   | (.inr q,d)::kf,_,hI =>
    obtain⟨y,_,e⟩:=l7.mp (hI.val _ List.mem_cons_self).2.1
    cases e
  have ff:∀c,ay [kH (kE 0),.cl xA c [.tup (A.modes.map Md.d),kZ A.modes.length h]]=some (mw kf):=fun c=>by
   show k_ (qj au 4 0 1 (.str (oS "")) [some (kH (kE 0)),some (.cl xA c [.tup (A.modes.map Md.d),kZ A.modes.length h]),none,none])=_
   exact(congrArg k_ (tL (g:=au) (n:=4) (i:=0) (j:=1) (e:=.str (oS "")) (c:=.cl xA c [.tup (A.modes.map Md.d),kZ A.modes.length h]) (ρ:=[some (kH (kE 0)),some (.cl xA c [.tup (A.modes.map Md.d),kZ A.modes.length h]),none,none]) (s:=kH (kE 0)) (k:=kE 0) (kv:=kf) rfl rfl rfl rfl hne (hk _ fun x hx=>Cz ok hh x hx))).trans rfl
  have nv:vx (mw kf)=true:=by
   rw[hd]
   show lE (kf.map fun p=>p.2)=true
   have:∀l:KI,(∀p∈l,∃w,p.2=D.str w)->lE (l.map fun p=>p.2)=true:=fun l=>by
    induction l with
    | nil=>intro _;rfl
    | cons p l ih =>
     intro hp
     obtain⟨w,hw⟩:=hp p List.mem_cons_self
     show(mV p.2&&_)=true
     rw[hw,ih fun q hq=>hp q (List.mem_cons_of_mem _ hq)]
     rfl
   exact this kf fun p hp=>let ⟨_,_,w,hw,_⟩:=hI.val p hp;⟨w,hw⟩
  have nb1:mV (.tup (A.modes.map Md.d))=true:=bh fv _
  have nb2:mV (kZ A.modes.length h)=true:=bh (fun _=>rfl) _
  have hcw:oe ay xA (i3 (kI 0) i5) (ni [1,2]) (some A.d::some (.tup (A.modes.map Md.d))::some (kZ A.modes.length h)::r)=some (mw kf):=
   sP (as:=[kH (kE 0)]) (caps:=[.tup (A.modes.map Md.d),kZ A.modes.length h]) rfl rfl (by show(mV _&&(mV _&&true))=true;rw[nb1,nb2];rfl) nv ff
  refine(lS hcw ?_)
  rw[hd]
  have ek:(kf.map fun p=>k1 p.1)=S'.map fun x:Nat=>(Sum.inl (x:Int):Int ⊕ Str):=by
   have:(kf.map fun p=>k1 p.1)=(kD kf).map k1:=by unfold kD;rw[List.map_map];rfl
   rw[this,hS,List.map_map];rfl
  show(pP (kf.map fun p=>k1 p.1)).bind _=_
  rw[ek,u5,Option.bind_some,if_pos (by rw[List.length_map];omega),List.map_map]
  rfl
def wX(S:List Nat)(x:Nat):Int:=((S.map fun y:Nat=>(y:Int)).idxOf (x:Int):Nat)
def si(A:Bk)(ok:A.Ok)(h:Nat->Nat)(S:List Nat)(x:Nat):D:=.tup [.str (A.md x).face.x,.bl (A.md x).stays,.tup ((List.range 6).map fun k=>.tup [.str ((A.md x).row k).1.x,.int (wX S (h ((kC A ok).g x k)))])]
theorem kt{A:Bk}(ok:A.Ok){h:Nat->Nat}{S:List Nat}(hS8:S.length<=8){x:Nat}(hx:x<A.modes.length)(hc:∀k,k<6->h ((kC A ok).g x k)∈S):bK [(A.md x).d,kZ A.modes.length h,.lst (S.map fun y:Nat=>.int (y:Int))]=some (si A ok h S x):=by
 have key:qP 1 (lh (i8 kF (i4 0) (kI 2))) (setAt 0) mF (kG (i3 (i8 kF (i4 0) (kI 0)) (i3 (i6 oy (i3 (i4 3) (i3 (i8 kF (i4 2) (i8 kF (i4 0) (kI 1))) i5))) i5))) [some (A.md x).d,some (kZ A.modes.length h),some (.lst (S.map fun y:Nat=>.int (y:Int))),none]=some (.lst ((List.range 6).map fun k=>.tup [.str ((A.md x).row k).1.x,.int (wX S (h ((kC A ok).g x k)))])):=by
  refine yZ (T:=fun k=>lg ((A.md x).row k)) (xs:=List.range 6) ?_ (by simp) fun k hk=>?_
  ·show some ((A.md x).rows.map lg)=_
   rw[fi (lT ok hx).six]
  ·have hk:=List.mem_range.mp hk
   have a1:i8 kF (i4 2) (i8 kF (i4 0) (kI 1)) [some (lg ((A.md x).row k)),some (A.md x).d,some (kZ A.modes.length h),some (.lst (S.map fun y:Nat=>.int (y:Int))),none]=some (.int (h ((kC A ok).g x k):Int)):=AR ((kC A ok).gn x k hx hk)
   have a2:i6 oy (i3 (i4 3) (i3 (i8 kF (i4 2) (i8 kF (i4 0) (kI 1))) i5)) [some (lg ((A.md x).row k)),some (A.md x).d,some (kZ A.modes.length h),some (.lst (S.map fun y:Nat=>.int (y:Int))),none]=some (.int (wX S (h ((kC A ok).g x k)))):=by
    show((some (D.lst (S.map fun y:Nat=>D.int (y:Int)))).bind fun z=>((i8 kF (i4 2) (i8 kF (i4 0) (kI 1)) _).bind fun y=>(some []).map (y::·)).map (z::·)).bind oy=_
    rw[a1]
    show(intsOf (S.map fun y:Nat=>D.int (y:Int))).bind _=_
    rw[wG,Option.bind_some,if_pos ⟨List.mem_map.mpr ⟨_,hc k hk,rfl⟩,by rw[List.length_map];omega⟩]
    rfl
   show((some (D.str ((A.md x).row k).1.x)).bind fun z=>((i6 oy _ _).bind fun y=>(some []).map (y::·)).map (z::·)).map D.tup=_
   rw[a2];rfl
 show k_ (kP _ _ [some (A.md x).d,some (kZ A.modes.length h),some (.lst (S.map fun y:Nat=>.int (y:Int))),none])=_
 rw[kN (nD (ρ':=[some (A.md x).d,some (kZ A.modes.length h),some (.lst (S.map fun y:Nat=>.int (y:Int))),some (.lst ((List.range 6).map fun k=>.tup [.str ((A.md x).row k).1.x,.int (wX S (h ((kC A ok).g x k)))]))]) key rfl)]
 rfl
theorem iU{A:Bk}(ok:A.Ok):∃(T:Nat) (S:List Nat),(∀i,i<A.modes.length->kB (kC A ok) (T+1) i=kB (kC A ok) T i)/\o_ (mW (oW (kC A ok) (kB (kC A ok) T))) [0] 0 S/\(∀x∈S,x<A.modes.length)/\(∀x∈S,∀k,k<6->kB (kC A ok) T ((kC A ok).g x k)∈S)/\S.length<=8 /\
  bv [A.d]=some (.tup [.int A.hold,.int A.back,.tup (S.map (si A ok (kB (kC A ok) T) S))]):=by
 obtain⟨T,hT,eh⟩:=ji ok
 have hh:∀i,i<A.modes.length->kB (kC A ok) T i<A.modes.length:=fun i hi=>Nat.lt_of_le_of_lt ((tH (a:=kC A ok) T).le i hi) hi
 obtain⟨S,q,hS,hc,h8,eo⟩:=jf ok hh
 refine⟨T,S,hT,q,hS,hc,h8,?_⟩
 generalize kB (kC A ok) T=h at *
 have key:qP 1 (lh (i4 3)) (setAt 0) mF (i6 bK (i3 (i8 kF (i4 2) (i4 0)) (i3 (i4 3) (i3 (i4 4) i5)))) [some A.d,some (.tup (A.modes.map Md.d)),some (kZ A.modes.length h),some (.lst (S.map fun y:Nat=>.int (y:Int)))]=some (.lst (S.map (si A ok h S))):=by
  refine yZ (T:=fun y:Nat=>D.int (y:Int)) (xs:=S) rfl (by omega) fun x hx=>?_
  have a1:i8 kF (i4 2) (i4 0) [some (.int (x:Int)),some A.d,some (.tup (A.modes.map Md.d)),some (kZ A.modes.length h),some (.lst (S.map fun y:Nat=>.int (y:Int)))]=some (A.md x).d:=yf (hS x hx)
  show((i8 kF (i4 2) (i4 0) _).bind fun x=>((some (kZ A.modes.length h)).bind fun y=>((some (D.lst (S.map fun y:Nat=>.int (y:Int)))).bind fun z=>(some []).map (z::·)).map (y::·)).map (x::·)).bind bK=_
  rw[a1]
  exact kt ok h8 (hS x hx) (hc x hx)
 show k_ (kP _ _ [some A.d,none,none,none])=_
 rw[kN (ρ2:=[some A.d,some (.tup (A.modes.map Md.d)),none,none]) rfl]
 rw[kN (nD (ρ':=[some A.d,some (.tup (A.modes.map Md.d)),some (kZ A.modes.length h),none]) (lS (x:=.tup (A.modes.map Md.d)) rfl eh) rfl)]
 rw[kN (nD (ρ':=[some A.d,some (.tup (A.modes.map Md.d)),some (kZ A.modes.length h),some (.lst (S.map fun y:Nat=>.int (y:Int)))]) (eo [none]) rfl)]
 refine me (wx (f:=i8 kF (i4 0) (kI 0)) (g:=i8 kF (i4 0) (kI 1)) (x:=.int A.hold) (y:=.int A.back) rfl rfl (lS key rfl))
def nS(A:Bk)(u:List Nat):Nat:=u.foldl (fun x k=>((A.md x).row k).2) 0
theorem l_(A:Bk)(v:List Nat)(k:Nat):nS A (v++[k])=((A.md (nS A v)).row k).2:=by simp[nS]
theorem vK(A B:Bk):∀(u:List Nat),run A B u=(nS A u,nS B u):=fun u=>by
 have:∀(u:List Nat) (x y:Nat),u.foldl (Cb A B) (x,y)=(u.foldl (fun x k=>((A.md x).row k).2) x,u.foldl (fun x k=>((B.md x).row k).2) y):=fun u=>by
  induction u with
  | nil=>intro x y;rfl
  | cons k u ih=>intro x y;exact ih _ _
 exact this u 0 0
def lP(A:Bk)(x:Nat):Face×Bool:=((A.md x).face,(A.md x).stays)
def vX(A:Bk)(u:List Nat):Option lN×(Face×Bool):=(u.getLast?.map fun k=>((A.md (nS A u.dropLast)).row k).1,lP A (nS A u))
theorem yA(A B:Bk)(p:Pp):zx A B p=true↔lP A p.1≠lP B p.2:=by
 unfold zx lP
 rw[Bool.not_eq_true',<- Bool.not_eq_true,Bool.and_eq_true,decide_eq_true_iff,beq_iff_eq]
 exact not_congr (by rw[Prod.mk.injEq])
theorem B9(A B:Bk)(p:Pp)(k:Nat):EC A B p k=true↔((A.md p.1).row k).1≠((B.md p.2).row k).1:=by
 unfold EC
 rw[Bool.not_eq_true',decide_eq_false_iff_not]
theorem pX(A B:Bk)(u:List Nat):Pt A B u↔vX A u≠vX B u:=by
 rcases snoc_cases u with rfl | ⟨v,k,rfl⟩
 ·rw[xD,yA]
  show lP A 0≠lP B 0↔((none:Option lN),lP A 0)≠(none,lP B 0)
  exact not_congr ⟨fun z=>by rw[z],fun z=>congrArg Prod.snd z⟩
 ·rw[rZ,B9,yA,vK]
  unfold vX
  rw[List.getLast?_concat,List.dropLast_concat,l_,l_]
  show _↔(some ((A.md (nS A v)).row k).1,lP A ((A.md (nS A v)).row k).2)≠(some ((B.md (nS B v)).row k).1,lP B ((B.md (nS B v)).row k).2)
  have key:∀(a b:lN) (c d:Face×Bool),(a≠b\/c≠d)↔(some a,c)≠(some b,d):=fun a b c d=>by
   constructor
   ·rintro(h | h) z
    ·exact h (Option.some.inj (congrArg Prod.fst z))
    ·exact h (congrArg Prod.snd z)
   ·intro h
    by_cases hab:a=b
    ·exact .inr fun hcd=>h (by rw[hab,hcd])
    ·exact .inl hab
  exact key _ _ _ _
theorem rQ{A B:Bk}{u:List Nat}(h:Pt A B u):Pt B A u:=(pX B A u).mpr (Ne.symm ((pX A B u).mp h))
theorem Ez.symm{A B:Bk}{m:Nat}(h:Ez A B m):Ez B A m:=by
 obtain⟨u,hu,hl,hp⟩:=h.ex
 exact⟨⟨u,hu,hl,rQ hp⟩,fun v hv hlt hp'=>h.no v hv hlt (rQ hp')⟩
theorem rP.symm{A B:Bk}(h:rP A B):rP B A:=fun u hu hp=>h u hu (rQ hp)
theorem oJ{A B:Bk}:rP A B↔∀u,Wd u->vX A u=vX B u:=by
 constructor
 ·intro h u hu
  exact Classical.byContradiction fun z=>h u hu ((pX A B u).mpr z)
 ·intro h u hu hp
  exact(pX A B u).mp hp (h u hu)
theorem rP.trans{A B C:Bk}(h1:rP A B)(h2:rP B C):rP A C:=oJ.mpr fun u hu=>(oJ.mp h1 u hu).trans (oJ.mp h2 u hu)
def Ew(a b:pb):Nat->Nat->Nat->Prop
 | 0,x,y=>a.lk x=b.lk y/\∀k,k<6->a.dd x k=b.dd y k
 | n+1,x,y=>Ew a b n x y/\∀k,k<6->Ew a b n (a.g x k) (b.g y k)
def yS(a b:pb)(x y:Nat):Prop:=∀n,Ew a b n x y
theorem Ew.symm{a b:pb}:∀{n x y:Nat},Ew a b n x y->Ew b a n y x
 | 0,_,_,h=>⟨h.1.symm,fun k hk=>(h.2 k hk).symm⟩
 | n+1,_,_,h=>⟨h.1.symm,fun k hk=>(h.2 k hk).symm⟩
theorem Ew.trans{a b c:pb}:∀{n x y z:Nat},Ew a b n x y->Ew b c n y z->Ew a c n x z
 | 0,_,_,_,h,h'=>⟨h.1.trans h'.1,fun k hk=>(h.2 k hk).trans (h'.2 k hk)⟩
 | n+1,_,_,_,h,h'=>⟨h.1.trans h'.1,fun k hk=>(h.2 k hk).trans (h'.2 k hk)⟩
theorem yS.symm{a b:pb}{x y:Nat}(h:yS a b x y):yS b a y x:=fun n=>(h n).symm
theorem yS.trans{a b c:pb}{x y z:Nat}(h:yS a b x y)(h':yS b c y z):yS a c x z:=fun n=>(h n).trans (h' n)
theorem yS.go{a b:pb}{x y k:Nat}(h:yS a b x y)(hk:k<6):yS a b (a.g x k) (b.g y k):=fun n=>(h (n+1)).2 k hk
theorem A1{a:pb}:∀(t x y:Nat),x<a.n->y<a.n->Ew a a t x y->kB a t x=kB a t y
 | 0,x,y,hx,hy,h=>(yC hx hy).mpr h
 | t+1,x,y,hx,hy,h=>(uV t hx hy).mpr ⟨A1 t x y hx hy h.1,fun k hk=>A1 t _ _ (a.gn x k hx hk) (a.gn y k hy hk) (h.2 k hk)⟩
section
variable{a b:pb}{T U:Nat}
structure ro (a b:pb) (T U:Nat) (s t:List Nat):Prop where
 len:s.length=t.length
 at2:∀(i x y:Nat),s[i]?=some x->t[i]?=some y->yS a b x y
 fa:∀x∈s,x<a.n/\kB a T x=x
 fb:∀y∈t,y<b.n/\kB b U y=y
theorem ro.mem{s t:List Nat}(P:ro a b T U s t){x y:Nat}(hy:y<b.n/\kB b U y=y)(e:yS a b x y){i:Nat}(h:s[i]?=some x):t[i]?=some y:=by
 have hi:i<t.length:=by rw[<- P.len];exact(List.getElem?_eq_some_iff.mp h).1
 have ht:t[i]?=some t[i]:=List.getElem?_eq_getElem hi
 have h2:=P.at2 i x _ h ht
 obtain⟨f1,f2⟩:=P.fb _ (List.mem_of_getElem? ht)
 have:=A1 U _ _ f1 hy.1 ((h2.symm.trans e) U)
 rw[f2,hy.2] at this
 rw[ht,this]
theorem ro.swap{s t:List Nat}(P:ro a b T U s t):ro b a U T t s:=⟨P.len.symm,fun i x y h1 h2=>(P.at2 i y x h2 h1).symm,P.fb,P.fa⟩
theorem ro.add{s t:List Nat}(P:ro a b T U s t){x y:Nat}(hx:x<a.n/\kB a T x=x)(hy:y<b.n/\kB b U y=y)(e:yS a b x y):ro a b T U (mD s x) (mD t y):=by
 have iff:x∈s↔y∈t:=by
  constructor
  ·intro h
   obtain⟨i,hi⟩:=List.getElem?_of_mem h
   exact List.mem_of_getElem? (P.mem hy e hi)
  ·intro h
   obtain⟨i,hi⟩:=List.getElem?_of_mem h
   exact List.mem_of_getElem? (P.swap.mem hx e.symm hi)
 unfold mD
 by_cases h:x∈s
 ·rw[if_pos h,if_pos (iff.mp h)];exact P
 ·rw[if_neg h,if_neg fun z=>h (iff.mpr z)]
  refine⟨by simp[P.len],fun i u v hu hv=>?_,fun z hz=>?_,fun z hz=>?_⟩
  ·by_cases hi:i<s.length
   ·rw[List.getElem?_append_left hi] at hu
    rw[List.getElem?_append_left (by rw[<- P.len];exact hi)] at hv
    exact P.at2 i u v hu hv
   ·rw[List.getElem?_append_right (by omega)] at hu
    rw[List.getElem?_append_right (by rw[<- P.len];omega)] at hv
    have e1:=List.mem_of_getElem? hu
    have e2:=List.mem_of_getElem? hv
    rw[List.mem_singleton.mp e1,List.mem_singleton.mp e2]
    exact e
  ·rcases List.mem_append.mp hz with q | q
   ·exact P.fa z q
   ·rw[List.mem_singleton.mp q];exact hx
  ·rcases List.mem_append.mp hz with q | q
   ·exact P.fb z q
   ·rw[List.mem_singleton.mp q];exact hy
variable(hT:∀i,i<a.n->kB a (T+1) i=kB a T i)(hU:∀i,i<b.n->kB b (U+1) i=kB b U i)
include hT hU
end
theorem pj{f:R->OD}{st:D->R->Option R}{ρ ρ':R}{d:D}(h1:f ρ=some d)(h2:st d ρ=some ρ'):kO f st ρ=some (.nx ρ'):=nD h1 h2
theorem mT{F:LD->OD}{g:R->Option LD}{ρ:R}{ds:LD}{d:D}(h1:g ρ=some ds)(h2:F ds=some d):i6 F g ρ=some d:=by simp[h1,h2]
theorem mZ{f:R->OD}{g:R->Option LD}{ρ:R}{x:D}{xs:LD}(h1:f ρ=some x)(h2:g ρ=some xs):i3 f g ρ=some (x::xs):=by simp[h1,h2]
theorem tupS{g:R->Option LD}{ρ:R}{xs:LD}(h1:g ρ=some xs):kG g ρ=some (.tup xs):=by simp[h1]
theorem yV{F:D->D->OD}{f g:R->OD}{ρ:R}{x y d:D}(h1:f ρ=some x)(h2:g ρ=some y)(h3:F x y=some d):i8 F f g ρ=some d:=by simp[h1,h2,h3]
theorem Fl{st:D->R->Option R}{e:R->OD}{ρ ρ1:R}{d x:D}{ds xs:LD}(h1:st d ρ=some ρ1)(h2:e ρ1=some x)(h3:mC st mF e ds ρ=some xs):mC st mF e (d::ds) ρ=some (x::xs):=by simp[mC,h1,h2,h3]
theorem Av{xs ys:LD}(h:xs.length+ys.length<=1000):kY (.tup xs) (.tup ys)=some (.tup (xs++ys)):=by
 have z:1000<=sizeLine:=by decide
 show(if xs.length+ys.length<=sizeLine then _ else none)=_
 rw[if_pos (by omega)]
theorem p_(g:Nat):∀l:List Nat,(l.map fun (m:Nat)=>(m:Int)).idxOf (g:Int)=l.idxOf g
 | []=>rfl
 | a::l=>by
  rw[List.map_cons,List.idxOf_cons,List.idxOf_cons,p_ g l]
  by_cases h:a=g
  ·subst h;simp
  ·have h2:¬ (a:Int)=(g:Int):=by omega
   have e1:((a:Int)==(g:Int))=false:=beq_eq_false_iff_ne.mpr h2
   have e2:(a==g)=false:=beq_eq_false_iff_ne.mpr h
   rw[e1,e2]
theorem sw:∀ns:List Int,intsOf (ns.map D.int)=some ns
 | []=>rfl
 | n::ns=>by show(intsOf (ns.map D.int)).map (n::·)=_;rw[sw ns];rfl
def nZ(l:List Nat):D:=.lst ((l.map fun (m:Nat)=>(m:Int)).map D.int)
theorem DZ{l:List Nat}{g:Nat}(h:g∈l)(hl:l.length<=8):oy [nZ l,.int (g:Int)]=some (.int (l.idxOf g:Nat)):=by
 show(intsOf ((l.map fun (m:Nat)=>(m:Int)).map D.int)).bind _=_
 rw[sw,Option.bind_some,if_pos ⟨List.mem_map.mpr ⟨g,h,rfl⟩,by rw[List.length_map];omega⟩,p_]
def wF(l:List Nat)(m:Md):Md:=⟨m.face,m.stays,m.rows.map fun r=>(r.1,l.idxOf r.2)⟩
def wJ(b:Bk)(l:List Nat)(h k:Int):Bk:=⟨h,k,l.map fun m=>wF l (b.md m)⟩
structure EA (n:Nat) (l:List Nat):Prop where
 len:l.length=n
 lt:∀m∈l,m<n
 all:∀m,m<n->m∈l
 zero:l[0]?=some 0
theorem w5{b:Bk}{l:List Nat}{h k:Int}{j x:Nat}(e:l[j]?=some x):(wJ b l h k).md j=wF l (b.md x):=by
 show(l.map _).getD j default=_
 rw[List.getD_eq_getElem?_getD,List.getElem?_map,e];rfl
theorem x4{l:List Nat}{m:Md}{k:Nat}(h6:m.rows.length=6)(hk:k<6):(wF l m).row k=((m.row k).1,l.idxOf (m.row k).2):=by
 show(m.rows.map _).getD k default=_
 rw[List.getD_eq_getElem?_getD,List.getElem?_map,pN (by omega)];rfl
theorem DT{b:Bk}{l:List Nat}{h k:Int}(ok:b.Ok)(p:EA b.modes.length l)(h1:1<=h)(h9:h<=9)(k0:0<=k)(k60:k<=60):(wJ b l h k).Ok where
 hold1:=h1
 hold9:=h9
 back0:=k0
 back60:=k60
 some1:=by show 1<=(l.map _).length;rw[List.length_map,p.len];exact ok.some1
 some8:=by show(l.map _).length<=8;rw[List.length_map,p.len];exact ok.some8
 all:=fun m hm=>by
  obtain⟨k,hk,rfl⟩:=List.mem_map.mp hm
  have q:=lT ok (p.lt k hk)
  refine⟨by show(List.map _ _).length=6;rw[List.length_map];exact q.six,fun r hr=>?_⟩
  obtain⟨r',hr',rfl⟩:=List.mem_map.mp hr
  show l.idxOf r'.2<(l.map _).length
  rw[List.length_map]
  exact List.idxOf_lt_length_iff.mpr (p.all _ (q.nx r' hr'))
theorem rB{A:Bk}(ok:A.Ok){u:List Nat}(hu:Wd u):nS A u<A.modes.length:=by
 have:=(Bm ok ok u hu).1
 rw[vK] at this
 exact this
theorem uS{b:Bk}(ok:b.Ok){l:List Nat}(p:EA b.modes.length l){h k:Int}:∀(n:Nat) (u:List Nat),u.length=n->Wd u->l[nS (wJ b l h k) u]?=some (nS b u)
 | 0,u,hn,_=>by rw[List.length_eq_zero_iff.mp hn];exact p.zero
 | n+1,u,hn,hu=>by
  rcases snoc_cases u with rfl | ⟨v,j,rfl⟩
  ·cases hn
  ·obtain⟨hv,hj⟩:=l9.mp hu
   have ih:=uS ok p (h:=h) (k:=k) n v (by simpa using hn) hv
   have hx:=rB ok hv
   rw[l_,l_,w5 ih,x4 (lT ok hx).six hj]
   have hin:=p.all _ ((lT ok hx).nx ((b.md (nS b v)).row j) (List.mem_of_getElem? (pN (by rw[(lT ok hx).six];exact hj))))
   have hlt:=List.idxOf_lt_length_iff.mpr hin
   rw[List.getElem?_eq_getElem hlt,List.getElem_idxOf hlt]
theorem B_{b:Bk}(ok:b.Ok){l:List Nat}(p:EA b.modes.length l){h k:Int}:rP b (wJ b l h k):=oJ.mpr fun u hu=>by
 have e:=uS ok p (h:=h) (k:=k) _ u rfl hu
 unfold vX
 have e2:lP (wJ b l h k) (nS (wJ b l h k) u)=lP b (nS b u):=by unfold lP;rw[w5 e];rfl
 rw[e2]
 rcases snoc_cases u with rfl | ⟨v,j,rfl⟩
 ·rfl
 ·obtain⟨hv,hj⟩:=l9.mp hu
  have ev:=uS ok p (h:=h) (k:=k) _ v rfl hv
  rw[List.getLast?_concat,List.dropLast_concat]
  have e3:=congrArg Prod.fst (x4 (l:=l) (lT ok (rB ok hv)).six hj)
  rw[<- w5 ev] at e3
  exact congrArg (fun x=>(some x,lP b (nS b (v++[j])))) e3.symm
theorem gi{a0 a1 a2:OD}{r:R}{l:List Nat}(hl:l.length<=8):∀rows:List (lN×Nat),(∀x∈rows,x.2∈l) ->
  mC (nR [(setAt 0),(setAt 1)]) mF (kG (i3 (i4 0) (i3 (i6 oy (i3 (i4 5) (i3 (i4 1) i5))) i5))) (rows.map lg) (none::none::a0::a1::a2::some (nZ l)::r)=some ((rows.map fun r=>(r.1,l.idxOf r.2)).map lg)
 | [],_=>rfl
 | x::rows,h=>Fl rfl (tupS (mZ rfl (mZ (mT (mZ rfl (mZ rfl rfl)) (DZ (h x (.head _)) hl)) rfl))) (gi hl rows fun y hy=>h y (.tail _ hy))
def ye:R->Option Out:=(kP (kO (i8 kF (i8 kF (i4 0) (kI 2)) (i4 5)) (nR [(setAt 6),(setAt 7),(setAt 8)]))
  (kP (kO (i6 qe (i3 (qP 2 (lh (i4 8)) (nR [(setAt 0),(setAt 1)]) mF (kG (i3 (i4 0) (i3 (i6 oy (i3 (i4 5) (i3 (i4 1) i5))) i5)))) i5)) (setAt 9))
  (kO (i8 kY (i4 4) (kG (i3 (kG (i3 (i4 6) (i3 (i4 7) (i3 (i4 9) i5)))) i5))) (setAt 4))))
def oq(b:Bk)(l pre:List Nat):LD:=pre.map fun m=>(wF l (b.md m)).d
theorem zL{b:Bk}(ok:b.Ok){l:List Nat}(p:EA b.modes.length l){a1 a2 o6 o7 o8 o9:OD}(pre:List Nat){m:Nat}(hp:pre.length<8)(hm:m<b.modes.length) :
  ∃p6 p7 p8 p9,ye [some b.d,a1,a2,some (nZ l),some (.tup (oq b l pre)),some (.int (m:Int)),o6,o7,o8,o9] =
   some (.nx [some b.d,a1,a2,some (nZ l),some (.tup (oq b l (pre++[m]))),some (.int (m:Int)),p6,p7,p8,p9]):=by
 have z:6<=sizeLine:=by decide
 have h8:l.length<=8:=by rw[p.len];exact ok.some8
 have mok:=lT ok hm
 have e:oq b l (pre++[m])=oq b l pre++[(wF l (b.md m)).d]:=by unfold oq;rw[List.map_append];rfl
 rw[e]
 have hd:(oq b l pre).length<8:=by unfold oq;rw[List.length_map];exact hp
 have hat:=rL (b:=b) (x:=m) (f:=i4 0) (g:=i4 5) (ρ:=[some b.d,a1,a2,some (nZ l),some (.tup (oq b l pre)),some (.int (m:Int)),o6,o7,o8,o9]) rfl rfl hm
 generalize oq b l pre=pr at *
 generalize b.md m=md at *
 have hin:∀x∈md.rows,x.2∈l:=fun x hx=>p.all _ (mok.nx x hx)
 refine⟨some (.str md.face.x),some (.bl md.stays),some (.tup (md.rows.map lg)),some (.tup ((wF l md).rows.map lg)),?_⟩
 have q:qP 2 (lh (i4 8)) (nR [(setAt 0),(setAt 1)]) mF (kG (i3 (i4 0) (i3 (i6 oy (i3 (i4 5) (i3 (i4 1) i5))) i5))) [some b.d,a1,a2,some (nZ l),some (.tup pr),some (.int (m:Int)),some (.str md.face.x),some (.bl md.stays),some (.tup (md.rows.map lg)),o9]=some (.lst ((wF l md).rows.map lg)):=by
  have h:lh (i4 8) [some b.d,a1,a2,some (nZ l),some (.tup pr),some (.int (m:Int)),some (.str md.face.x),some (.bl md.stays),some (.tup (md.rows.map lg)),o9]=some (md.rows.map lg):=rfl
  unfold qP
  rw[h,Option.bind_some,if_pos (by rw[List.length_map,mok.six];exact z)]
  exact congrArg (Option.map D.lst) (gi h8 md.rows hin)
 unfold ye
 rw[kN (pj hat rfl)]
 refine(kN (pj (mT (F:=qe) (mZ q rfl) rfl) rfl)).trans (pj (yV rfl (tupS (mZ (tupS (mZ rfl (mZ rfl (mZ rfl rfl)))) rfl)) ?_) rfl)
 exact Av (by show _+1<=1000;omega)
theorem pI{st:D->R->Option R}{body:R->Option Out}{d:D}{ds:LD}{ρ ρ1 ρ2:R}(h1:st d ρ=some ρ1)(h2:body ρ1=some (.nx ρ2)):ow st body (d::ds) ρ=ow st body ds ρ2:=by simp[ow,h1,h2]
theorem uM{b:Bk}(ok:b.Ok){l:List Nat}(p:EA b.modes.length l){a1 a2:OD}:∀(ms pre:List Nat) (o5 o6 o7 o8 o9:OD),(∀m∈ms,m<b.modes.length)->pre.length+ms.length<=8 ->
  ∃p5 p6 p7 p8 p9,ow (setAt 5) ye ((ms.map fun (m:Nat)=>(m:Int)).map D.int) [some b.d,a1,a2,some (nZ l),some (.tup (oq b l pre)),o5,o6,o7,o8,o9] =
   some (.nx [some b.d,a1,a2,some (nZ l),some (.tup (oq b l (pre++ms))),p5,p6,p7,p8,p9])
 | [],pre,o5,o6,o7,o8,o9,_,_=>⟨o5,o6,o7,o8,o9,by rw[List.append_nil];rfl⟩
 | m::ms,pre,o5,o6,o7,o8,o9,h,hl=>by
  rw[List.length_cons] at hl
  obtain⟨q6,q7,q8,q9,t⟩:=zL ok p (a1:=a1) (a2:=a2) (o6:=o6) (o7:=o7) (o8:=o8) (o9:=o9) pre (by omega) (h m (.head _))
  obtain⟨p5,p6,p7,p8,p9,ih⟩:=uM ok p (a1:=a1) (a2:=a2) ms (pre++[m]) (some (.int (m:Int))) q6 q7 q8 q9 (fun x hx=>h x (.tail _ hx)) (by simp;omega)
  refine⟨p5,p6,p7,p8,p9,?_⟩
  rw[List.map_cons,List.map_cons,pI rfl t,ih,List.append_assoc];rfl
theorem AN{b:Bk}(ok:b.Ok)(N:Int):∃p,lj (pe 10 [b.d,.int N]) p:=by
 have hn:=ok.some1
 have h8:=ok.some8
 have hlen:mO (pe 10 [b.d,.int N])=some (.nx [some b.d,some (.int N),some (.int (b.modes.length:Int)),none,none,none,none,none,none,none]):=by
  refine pj (d:=.int (b.modes.length:Int)) (lS (x:=.tup (b.modes.map Md.d)) rfl ?_) rfl
  show some (D.int ((b.modes.map Md.d).length:Int))=_
  rw[List.length_map]
 have hr:rJ 1 (b.modes.length:Int) 1=b.modes.length - 1:=by
  unfold rJ
  split<;>omega
 refine⟨(List.range (b.modes.length - 1)).map fun m:Nat=>1+(m:Int)*1,_,1,(b.modes.length:Int),b.modes.length - 1,[.int N],(List.range (b.modes.length - 1)).map fun m:Nat=>qd N (1+(m:Int)*1),hlen,rfl,rfl,rfl,rfl,hr,by omega,by omega,⟨by simp,fun m hm=>⟨qd N (1+(m:Int)*1),by rw[List.getElem?_map,List.getElem?_range hm];rfl,?_⟩⟩,.refl _⟩
 show av [.int N,.int (1+(m:Int)*1)]=_
 exact oD _ _
theorem w8{b:Bk}(ok:b.Ok)(N:Int){p:List Int}(hp:lj (pe 10 [b.d,.int N]) p):∃B:Bk,B.Ok/\rP b B/\k_ (aN p (pe 10 [b.d,.int N]))=some B.d:=by
 have hn:=ok.some1
 have h8:=ok.some8
 have hlen:mO (pe 10 [b.d,.int N])=some (.nx [some b.d,some (.int N),some (.int (b.modes.length:Int)),none,none,none,none,none,none,none]):=by
  refine pj (d:=.int (b.modes.length:Int)) (lS (x:=.tup (b.modes.map Md.d)) rfl ?_) rfl
  show some (D.int ((b.modes.map Md.d).length:Int))=_
  rw[List.length_map]
 have hr:rJ 1 (b.modes.length:Int) 1=b.modes.length - 1:=by
  unfold rJ
  split<;>omega
 obtain⟨ρ1,i,j,n,cs,kz,e1,e2,e3,e4,e5,e6,e7,e8,e9,pp⟩:=hp
 rw[hlen] at e1
 cases e1
 cases (show D.int 1=D.int i from Option.some.inj e2)
 cases (show D.int (b.modes.length:Int)=D.int j from Option.some.inj e3)
 rw[hr] at e6
 subst e6
 have pl:p.length=b.modes.length - 1:=by rw[pp.length_eq];simp
 have pm:∀x,x∈p↔1<=x/\x<(b.modes.length:Int):=fun x=>by
  rw[pp.mem_iff,List.mem_map]
  constructor
  ·rintro⟨m,hm,rfl⟩
   have:=List.mem_range.mp hm
   omega
  ·rintro⟨h1,h2⟩
   exact⟨(x - 1).toNat,List.mem_range.mpr (by omega),by omega⟩
 have hnat:∀q:List Int,(∀x∈q,0<=x)->(q.map Int.toNat).map (fun (m:Nat)=>(m:Int))=q:=fun q=>by
  induction q with
  | nil=>exact fun _=>rfl
  | cons x q ih =>
   intro h
   rw[List.map_cons,List.map_cons,ih fun y hy=>h y (.tail _ hy)]
   have:=h x (.head _)
   congr 1
   omega
 have hD:D.lst (.int 0::p.map .int)=nZ (0::p.map Int.toNat):=by
  unfold nZ
  rw[List.map_cons,hnat p fun x hx=>by have:=(pm x).mp hx;omega]
  rfl
 have per:EA b.modes.length (0::p.map Int.toNat):=by
  refine⟨by simp[pl];omega,fun m hm=>?_,fun m hm=>?_,rfl⟩
  ·rcases List.mem_cons.mp hm with rfl | hm
   ·omega
   ·obtain⟨x,hx,rfl⟩:=List.mem_map.mp hm
    have:=(pm x).mp hx
    omega
  ·by_cases h0:m=0
   ·subst h0;exact .head _
   ·exact .tail _ (List.mem_map.mpr ⟨(m:Int),(pm _).mpr (by omega),by omega⟩)
 generalize (0::p.map Int.toNat)=l at hD per
 have k0:0<=N%61:=Int.emod_nonneg _ (by decide)
 have k60:N%61<=60:=by have:=Int.emod_lt_of_pos N (show(0:Int)<61 by decide);omega
 refine⟨wJ b l b.hold (N%61),DT ok per ok.hold1 ok.hold9 k0 k60,B_ ok per,?_⟩
 unfold aN Cj
 rw[hlen]
 show k_ (nQ [some b.d,some (.int N),some (.int (b.modes.length:Int)),some (.lst (.int 0::p.map .int)),none,none,none,none,none,none])=_
 rw[hD]
 obtain⟨p5,p6,p7,p8,p9,t⟩:=uM ok per (a1:=some (.int N)) (a2:=some (.int (b.modes.length:Int))) l [] none none none none none per.lt (by rw[per.len];simpa using h8)
 unfold nQ
 rw[kN (ρ2:=[some b.d,some (.int N),some (.int (b.modes.length:Int)),some (nZ l),some (.tup []),none,none,none,none,none]) rfl]
 have t2:mJ (lh (i4 3)) (setAt 5) ye [some b.d,some (.int N),some (.int (b.modes.length:Int)),some (nZ l),some (.tup []),none,none,none,none,none]=_:=t
 refine(congrArg k_ (kN t2)).trans ?_
 refine me (wx (x:=.int b.hold) (y:=.int (N%61)) (z:=.tup ((wJ b l b.hold (N%61)).modes.map Md.d)) rfl rfl ?_)
 show some (D.tup (oq b l ([]++l)))=some (D.tup ((l.map fun m=>wF l (b.md m)).map Md.d))
 unfold oq
 rw[List.nil_append,List.map_map]
 rfl
def leB(A:Bk)(h:Nat->Nat)(S:List Nat):Bk:=⟨A.hold,A.back,S.map fun x=>⟨(A.md x).face,(A.md x).stays,(List.range 6).map fun k=>(((A.md x).row k).1,S.idxOf (h ((A.md x).row k).2))⟩⟩
theorem Di{α:Type}{pr:List α->α->List α}(hpr:∀sn x,∃e,pr sn x=sn++e){sn r:List α}{i:Nat}(q:o_ pr sn i r):∃e,r=sn++e:=by
 induction q with
 | done _=>exact⟨[],(List.append_nil _).symm⟩
 | step hx _ ih =>
  obtain⟨e,he⟩:=ih
  obtain⟨e',he'⟩:=hpr _ _
  exact⟨e'++e,by rw[he,he',List.append_assoc]⟩
theorem CW{A:Bk}{h:Nat->Nat}{S:List Nat}{j x:Nat}(e:S[j]?=some x):(leB A h S).md j=⟨(A.md x).face,(A.md x).stays,(List.range 6).map fun k=>(((A.md x).row k).1,S.idxOf (h ((A.md x).row k).2))⟩:=by
 show(S.map _).getD j default=_
 rw[List.getD_eq_getElem?_getD,List.getElem?_map,e];rfl
theorem Ab{A:Bk}{h:Nat->Nat}{S:List Nat}{j x k:Nat}(e:S[j]?=some x)(hk:k<6):((leB A h S).md j).row k=(((A.md x).row k).1,S.idxOf (h ((A.md x).row k).2)):=by
 rw[CW e]
 show((List.range 6).map fun k=>(((A.md x).row k).1,S.idxOf (h ((A.md x).row k).2))).getD k default=_
 rw[List.getD_eq_getElem?_getD,List.getElem?_map,List.getElem?_range hk];rfl
theorem FE{S:List Nat}{y:Nat}(h:y∈S):S[S.idxOf y]?=some y:=by
 have hlt:=List.idxOf_lt_length_iff.mpr h
 rw[List.getElem?_eq_getElem hlt,List.getElem_idxOf hlt]
structure Be (A:Bk) (ok:A.Ok) (T:Nat) (S:List Nat):Prop where
 st:∀i,i<A.modes.length->kB (kC A ok) (T+1) i=kB (kC A ok) T i
 q:o_ (mW (oW (kC A ok) (kB (kC A ok) T))) [0] 0 S
 lt:∀x∈S,x<A.modes.length
 cl:∀x∈S,∀k,k<6->kB (kC A ok) T ((A.md x).row k).2∈S
 l8:S.length<=8
theorem Be.zero{A:Bk}{ok:A.Ok}{T:Nat}{S:List Nat}(I:Be A ok T S):S[0]?=some 0:=by
 obtain⟨e,he⟩:=Di (yi _) I.q
 rw[he];rfl
theorem Be.h0{A:Bk}{ok:A.Ok}{T:Nat}{S:List Nat}(_:Be A ok T S):kB (kC A ok) T 0=0:=by have:=(tH (a:=kC A ok) T).le 0 ok.some1;omega
theorem Be.ok{A:Bk}{oA:A.Ok}{T:Nat}{S:List Nat}(I:Be A oA T S):(leB A (kB (kC A oA) T) S).Ok where
 hold1:=oA.hold1
 hold9:=oA.hold9
 back0:=oA.back0
 back60:=oA.back60
 some1:=by show 1<=(S.map _).length;rw[List.length_map];exact(List.getElem?_eq_some_iff.mp I.zero).1
 some8:=by show(S.map _).length<=8;rw[List.length_map];exact I.l8
 all:=fun m hm=>by
  obtain⟨x,hx,rfl⟩:=List.mem_map.mp hm
  refine⟨by show((List.range 6).map _).length=6;simp,fun r hr=>?_⟩
  obtain⟨k,hk,rfl⟩:=List.mem_map.mp hr
  show S.idxOf _<(S.map _).length
  rw[List.length_map]
  exact List.idxOf_lt_length_iff.mpr (I.cl x hx k (List.mem_range.mp hk))
theorem Be.run{A:Bk}{oA:A.Ok}{T:Nat}{S:List Nat}(I:Be A oA T S):∀(n:Nat) (u:List Nat),u.length=n->Wd u->S[nS (leB A (kB (kC A oA) T) S) u]?=some (kB (kC A oA) T (nS A u))
 | 0,u,hn,_=>by rw[List.length_eq_zero_iff.mp hn];show S[0]?=some (kB (kC A oA) T 0);rw[I.h0];exact I.zero
 | n+1,u,hn,hu=>by
  rcases snoc_cases u with rfl | ⟨v,k,rfl⟩
  ·cases hn
  ·obtain⟨hv,hk⟩:=l9.mp hu
   have ih:=I.run n v (by simpa using hn) hv
   have hx:=rB oA hv
   have hy:=I.lt _ (List.mem_of_getElem? ih)
   obtain⟨_,_,h3⟩:=xu (a:=kC A oA) I.st hy hx ((tH (a:=kC A oA) T).id _ hx)
   have h3:kB (kC A oA) T ((A.md (kB (kC A oA) T (nS A v))).row k).2=kB (kC A oA) T ((A.md (nS A v)).row k).2:=h3 k hk
   rw[l_,l_,Ab ih hk]
   have:=FE (I.cl _ (List.mem_of_getElem? ih) k hk)
   rw[h3] at this
   rw[<- this]
   show S[S.idxOf (kB (kC A oA) T ((A.md (kB (kC A oA) T (nS A v))).row k).2)]?=_
   rw[h3]
theorem Be.nev{A:Bk}{oA:A.Ok}{T:Nat}{S:List Nat}(I:Be A oA T S):rP A (leB A (kB (kC A oA) T) S):=oJ.mpr fun u hu=>by
 have e:=I.run _ u rfl hu
 have look:∀u,Wd u->lP (leB A (kB (kC A oA) T) S) (nS (leB A (kB (kC A oA) T) S) u)=lP A (nS A u):=fun u hu=>by
  have e:=I.run _ u rfl hu
  obtain⟨h1,_,_⟩:=xu (a:=kC A oA) I.st (I.lt _ (List.mem_of_getElem? e)) (rB oA hu) ((tH (a:=kC A oA) T).id _ (rB oA hu))
  unfold lP
  rw[CW e]
  exact h1
 unfold vX
 rw[look u hu]
 rcases snoc_cases u with rfl | ⟨v,j,rfl⟩
 ·rfl
 ·obtain⟨hv,hj⟩:=l9.mp hu
  have ev:=I.run _ v rfl hv
  obtain⟨_,h2,_⟩:=xu (a:=kC A oA) I.st (I.lt _ (List.mem_of_getElem? ev)) (rB oA hv) ((tH (a:=kC A oA) T).id _ (rB oA hv))
  have h2:((A.md (kB (kC A oA) T (nS A v))).row j).1=((A.md (nS A v)).row j).1:=h2 j hj
  rw[List.getLast?_concat,List.dropLast_concat]
  have e3:=congrArg Prod.fst (Ab (A:=A) (h:=kB (kC A oA) T) ev hj)
  exact congrArg (fun x=>(some x,lP A (nS A (v++[j])))) (h2.symm.trans e3.symm)
theorem Dk(S:List Nat)(x:Nat):wX S x=(S.idxOf x:Nat):=by
 unfold wX
 rw[p_]
theorem DM{A:Bk}(ok:A.Ok)(h:Nat->Nat)(S:List Nat)(x:Nat):si A ok h S x=(⟨(A.md x).face,(A.md x).stays,(List.range 6).map fun k=>(((A.md x).row k).1,S.idxOf (h ((A.md x).row k).2))⟩:Md).d:=by
 unfold si Md.d
 rw[List.map_map]
 congr 4
 refine congrArg D.tup (List.map_congr_left fun k _=>?_)
 show D.tup [.str ((A.md x).row k).1.x,.int (wX S (h ((A.md x).row k).2))]=_
 rw[Dk];rfl
theorem kn{A:Bk}(ok:A.Ok):∃(T:Nat) (S:List Nat),Be A ok T S/\bv [A.d]=some (leB A (kB (kC A ok) T) S).d:=by
 obtain⟨T,S,hT,q,hS,hc,h8,eL⟩:=iU ok
 refine⟨T,S,⟨hT,q,hS,hc,h8⟩,?_⟩
 rw[eL]
 unfold leB Bk.d
 rw[List.map_map,List.map_congr_left fun x _=>DM ok _ S x]
 rfl
theorem kr{A:Bk}(ok:A.Ok):∃L:Bk,bv [A.d]=some L.d/\L.Ok/\rP A L/\L.hold=A.hold/\L.back=A.back:=by
 obtain⟨T,S,I,e⟩:=kn ok
 exact⟨_,e,I.ok,I.nev,rfl,rfl⟩
def Gm(d:D):Bool:=match d with | .non=>true | _=>false
theorem Co{A B:Bk}{d:D}(h:Told A B d):zi d .non=some (Gm d)/\(Gm d=true↔rP A B):=by
 rcases h with ⟨rfl,h⟩ | ⟨u,hu,rfl,hp,hf,_⟩
 ·exact⟨rfl,⟨fun _=>h,fun _=>rfl⟩⟩
 ·exact⟨rfl,⟨fun z=>(by cases z),fun z=>(z u hu hp).elim⟩⟩
theorem s_{A B:Bk}{d:D}(h:aM [A.d,B.d]=some d)(ht:Told A B d):aB [A.d,B.d]=some (.bl (Gm d)):=by
 show k_ (((((aM [A.d,B.d]).bind fun x=>(some D.non).bind fun y=>zi x y).map D.bl)).map .rt)=_
 rw[h]
 show k_ (((zi d .non).map D.bl).map .rt)=_
 rw[(Co ht).1];rfl
theorem wz{F:D->D->Option Bool}{f g:R->OD}{ρ:R}{x y:D}{b:Bool}(h1:f ρ=some x)(h2:g ρ=some y)(h3:F x y=some b):lC F f g ρ=some b:=by rw[uW h1 h2,h3]
theorem uY{c:R->Option Bool}{f:R->OD}{ρ:R}(h:c ρ=some false):uT c (lV f) m9 ρ=some (.nx ρ):=by rw[DR h];rfl
theorem B5{A:Bk}(ok:A.Ok){c:Nat}(x:Ky)(hx:x∈nh A.modes.length):Gives (.cl x9 c [A.d]) (nE (kC A ok) id) x:=by
 obtain⟨y,hy,rfl⟩:=l7.mp hx
 refine⟨(ya ok (fun i hi=>hi) _ hx).1,fun ρ h2 h3=>?_⟩
 unfold qp
 rw[h2,Option.bind_some]
 show((i4 3 ρ).bind fun y=>(some []).map (y::·)).bind _=_
 rw[h3]
 show(LL x9).bind _=_
 rw[Hv,Option.bind_some]
 rw[if_pos ⟨rfl,by show(mV _&&true)=true;rw[cM];rfl,GK.symm⟩]
 have e3:pd 2 Aw ([kH (kE y)]++[A.d])=some (.lst ((nE (kC A ok) id (kE y)).map kH)):=by
  show i6 aZ _ [some (.int (y:Int)),some A.d]=_
  have a2:=rL (b:=A) (x:=y) (f:=i4 1) (g:=i4 0) (ρ:=[some (.int (y:Int)),some A.d]) rfl rfl hy
  refine(mT (mZ a2 rfl) (de (lT ok hy).six)).trans ?_
  rw[tj,List.map_map,oW,List.map_map]
  rfl
 rw[e3,Option.bind_some,if_pos (show mV (.lst ((nE (kC A ok) id (kE y)).map kH))=true from bh (fun k=>by cases k<;>rfl) _)]
theorem A2{i:Nat}{p:Str}(h:n6[i]?=some p):i<6/\p.length=1:=⟨(List.getElem?_eq_some_iff.mp h).1,rg h⟩
theorem BY{A:Bk}(ok:A.Ok){kf:KI}{L:Nat}(hI:BI (nE (kC A ok) id) (nh A.modes.length) (kE 0) kf [] L):∀(n x:Nat) (w:Str),w.length<=n->(kE x,D.str w)∈kf->∃u,Wd u/\nS A u=x:=fun n=>by
 induction n with
 | zero =>
  intro x w hw h
  rcases hI.tr _ _ h with ⟨h1,_⟩ | ⟨y,v,i,pr,_,_,h3,rfl⟩
  ·exact⟨[],fun k hk=>(by cases hk),(ng _ _ h1).symm⟩
  ·have:=(A2 h3).2
   rw[Str.length_append] at hw
   omega
 | succ n ih =>
  intro x w hw h
  rcases hI.tr _ _ h with ⟨h1,_⟩ | ⟨y,v,i,pr,h1,h2,h3,rfl⟩
  ·exact⟨[],fun k hk=>(by cases hk),(ng _ _ h1).symm⟩
  ·obtain⟨h6,hl⟩:=A2 h3
   rw[Str.length_append] at hw
   obtain⟨z,hz,rfl⟩:=l7.mp (hI.val _ h1).2.1
   obtain⟨u,hu,e⟩:=ih z v (by omega) h1
   refine⟨u++[i],l9.mpr ⟨hu,h6⟩,?_⟩
   rw[tj,List.getElem?_map,oW,List.getElem?_map,List.getElem?_range h6] at h2
   rw[l_,e]
   exact ng _ _ (Option.some.inj h2)
theorem jt{A:Bk}(ok:A.Ok):∃rs:List Nat,bC [A.d]=some (.tup (rs.map fun x:Nat=>.int (x:Int)))/\rs.Nodup/\rs.Pairwise (·<=·)/\∀x,x∈rs↔∃u,Wd u/\nS A u=x:=by
 have n1:=ok.some1
 have n8:=ok.some8
 obtain⟨kf,L,hk,hI,hL_q',_⟩:=so (go:=nE (kC A ok) id) (bx:=nh A.modes.length) (s:=kE 0) (lf:=true) (fun x hx=>by obtain⟨y,_,rfl⟩:=l7.mp hx;rfl) (by simp[nh];omega) (l7.mpr ⟨0,n1,rfl⟩) (ya ok fun i hi=>hi)
 have hks:∀e∈kD kf,∃y,y<A.modes.length/\e=kE y:=fun e he=>by
  obtain⟨d,hd⟩:=nY he
  exact l7.mp (hI.val _ hd).2.1
 obtain⟨S,hS,hSn⟩:=tP _ hks
 have hSd:S.Nodup:=by
  have:=hI.nd
  rw[hS] at this
  exact(List.pairwise_map.mp this).imp fun h z=>h (congrArg kE z)
 have hlen:S.length<=8:=by
  have:=hI.len
  have e:(kD kf).length=S.length:=by rw[hS,List.length_map]
  have e2:(kD kf).length=kf.length:=by simp[kD]
  have e3:(nh A.modes.length).length=A.modes.length:=by simp[nh]
  omega
 have hin:∀x,x∈S->∃w,(kE x,D.str w)∈kf:=fun x hx=>by
  have hx':kE x∈kD kf:=by rw[hS];exact List.mem_map.mpr ⟨x,hx,rfl⟩
  obtain⟨d,hd⟩:=nY hx'
  obtain⟨_,_,w,hw,_⟩:=hI.val _ hd
  have hw':d=.str w:=hw
  subst hw'
  exact⟨w,hd⟩
 have mem:∀x w,(kE x,D.str w)∈kf->x∈S:=fun x w h=>by
  have:kE x∈kD kf:=List.mem_map.mpr ⟨_,h,rfl⟩
  rw[hS] at this
  obtain⟨y,hy,e⟩:=List.mem_map.mp this
  exact ng _ _ e ▸ hy
 have hiff:∀x,x∈S↔∃u,Wd u/\nS A u=x:=fun x=>by
  constructor
  ·intro hx
   obtain⟨w,hw⟩:=hin x hx
   exact BY ok hI _ x w (Nat.le_refl _) hw
  ·rintro⟨u,hu,rfl⟩
   have:∀(n:Nat) (u:List Nat),u.length=n->Wd u->nS A u∈S:=fun n=>by
    induction n with
    | zero=>intro u hn _;rw[List.length_eq_zero_iff.mp hn];exact mem 0 _ hI.st
    | succ n ih =>
     intro u hn hu
     rcases snoc_cases u with rfl | ⟨v,k,rfl⟩
     ·cases hn
     ·obtain⟨hv,hk6⟩:=l9.mp hu
      obtain⟨w,hw⟩:=hin _ (ih v (by simpa using hn) hv)
      obtain⟨v',hv',_⟩:=hI.cl _ _ hw (by simp) (kE ((A.md (nS A v)).row k).2) (by
       rw[tj]
       exact List.mem_map.mpr ⟨_,List.mem_map.mpr ⟨k,List.mem_range.mpr hk6,rfl⟩,rfl⟩)
      rw[l_]
      exact mem _ _ hv'
   exact this _ u rfl hu
 have hne:kf ≠ []:=fun z=>by have:=hI.st;rw[z] at this;cases this
 have hd:mw kf=.dct (kf.map fun p=>k1 p.1) (kf.map fun p=>p.2):=by
  match kf,hne,hI with
  | (.inl q,d)::kf,_,_=>rfl
  | (.inr q,d)::kf,_,hI =>
   obtain⟨y,_,e⟩:=l7.mp (hI.val _ List.mem_cons_self).2.1
   cases e
 have ff:∀c,ay [kH (kE 0),.cl x9 c [A.d]]=some (mw kf):=fun c=>by
  show k_ (qj au 4 0 1 (.str (oS "")) [some (kH (kE 0)),some (.cl x9 c [A.d]),none,none])=_
  exact(congrArg k_ (tL (g:=au) (n:=4) (i:=0) (j:=1) (e:=.str (oS "")) (c:=.cl x9 c [A.d]) (ρ:=[some (kH (kE 0)),some (.cl x9 c [A.d]),none,none]) (s:=kH (kE 0)) (k:=kE 0) (kv:=kf) rfl rfl rfl rfl hne (hk _ fun x hx=>B5 ok x hx))).trans rfl
 have nv:vx (mw kf)=true:=by
  rw[hd]
  show lE (kf.map fun p=>p.2)=true
  have:∀l:KI,(∀p∈l,∃w,p.2=D.str w)->lE (l.map fun p=>p.2)=true:=fun l=>by
   induction l with
   | nil=>intro _;rfl
   | cons p l ih =>
    intro hp
    obtain⟨w,hw⟩:=hp p List.mem_cons_self
    show(mV p.2&&_)=true
    rw[hw,ih fun q hq=>hp q (List.mem_cons_of_mem _ hq)]
    rfl
  exact this kf fun p hp=>let ⟨_,_,w,hw,_⟩:=hI.val p hp;⟨w,hw⟩
 have hcw:oe ay x9 (i3 (i4 1) i5) (ni [0]) [some A.d,some (.int 0)]=some (mw kf):=
  sP (as:=[kH (kE 0)]) (caps:=[A.d]) rfl rfl (by show(mV _&&true)=true;rw[cM];rfl) nv ff
 have hwf:bb [A.d,.int 0]=some (mw kf):=me hcw
 have ek:(kf.map fun p=>k1 p.1)=S.map fun x:Nat=>(Sum.inl (x:Int):Int ⊕ Str):=by
  have:(kf.map fun p=>k1 p.1)=(kD kf).map k1:=by unfold kD;rw[List.map_map];rfl
  rw[this,hS,List.map_map];rfl
 have e1:w9 [mw kf]=some (.lst ((ph (S.map fun x:Nat=>(x:Int))).map .int)):=by
  rw[hd]
  show(pP (kf.map fun p=>k1 p.1)).bind _=_
  rw[ek,u5,Option.bind_some,if_pos (by rw[List.length_map];omega)]
 have hp:=oI (S.map fun x:Nat=>(x:Int))
 have hs:=pA (S.map fun x:Nat=>(x:Int))
 generalize ph (S.map fun x:Nat=>(x:Int))=zs at e1 hp hs
 have hz:∀z∈zs,0<=z:=fun z hz=>by
  obtain⟨x,_,rfl⟩:=List.mem_map.mp (hp.mem_iff.mp hz)
  omega
 have back:∀q:List Int,(∀x∈q,0<=x)->(q.map Int.toNat).map (fun (m:Nat)=>(m:Int))=q:=fun q=>by
  induction q with
  | nil=>exact fun _=>rfl
  | cons x q ih =>
   intro h
   rw[List.map_cons,List.map_cons,ih fun y hy=>h y (.tail _ hy)]
   have:=h x (.head _)
   congr 1
   omega
 have hp2:(zs.map Int.toNat).Perm S:=by
  have:=hp.map Int.toNat
  rw[List.map_map] at this
  have e:(Int.toNat ∘ fun x:Nat=>(x:Int))=id:=funext fun x=>by simp
  rw[e,List.map_id] at this
  exact this
 refine⟨zs.map Int.toNat,?_,hp2.nodup_iff.mpr hSd,?_,fun x=>by rw[hp2.mem_iff];exact hiff x⟩
 ·have e2:(zs.map Int.toNat).map (fun x:Nat=>D.int (x:Int))=zs.map D.int:=by
   have:=congrArg (List.map D.int) (back zs hz)
   rw[List.map_map] at this
   exact this
  rw[e2]
  exact me (mT (mZ (mT (mZ (mT (mZ rfl (mZ rfl rfl)) hwf) rfl) e1) rfl) rfl)
 ·rw[List.pairwise_map]
  exact hs.imp_of_mem fun ha hb hab=>by have:=hz _ ha;omega
theorem fS{A B:Bk}(f:Nat->Nat)(P:Nat->Prop)(p0:P 0)(h0:f 0=0)(h:∀j,P j->lP B j=lP A (f j)/\∀k,k<6->P ((B.md j).row k).2/\((B.md j).row k).1=((A.md (f j)).row k).1/\f ((B.md j).row k).2=((A.md (f j)).row k).2):rP A B:=by
 have key:∀(n:Nat) (u:List Nat),u.length=n->Wd u->P (nS B u)/\f (nS B u)=nS A u:=fun n=>by
  induction n with
  | zero=>intro u hn _;rw[List.length_eq_zero_iff.mp hn];exact⟨p0,h0⟩
  | succ n ih =>
   intro u hn hu
   rcases snoc_cases u with rfl | ⟨v,k,rfl⟩
   ·cases hn
   ·obtain⟨hv,hk⟩:=l9.mp hu
    obtain⟨h1,h2⟩:=ih v (by simpa using hn) hv
    obtain⟨h3,_,h4⟩:=(h _ h1).2 k hk
    rw[l_,l_,<- h2]
    exact⟨h3,h4⟩
 refine oJ.mpr fun u hu=>?_
 obtain⟨h1,h2⟩:=key _ u rfl hu
 have e2:=(h _ h1).1
 rw[h2] at e2
 unfold vX
 rw[e2]
 rcases snoc_cases u with rfl | ⟨v,j,rfl⟩
 ·rfl
 ·obtain⟨hv,hj⟩:=l9.mp hu
  obtain⟨g1,g2⟩:=key _ v rfl hv
  obtain⟨_,g3,_⟩:=(h _ g1).2 j hj
  rw[g2] at g3
  rw[List.getLast?_concat,List.dropLast_concat]
  exact congrArg (fun x=>(some x,lP A (nS A (v++[j])))) g3.symm
def nz(f:Nat->Nat->Nat):Nat->List (lN×Nat)->List (lN×Nat)
 | _,[]=>[]
 | j,r::rs=>(r.1,f j r.2)::nz f (j+1) rs
def oF(f:Nat->Nat->Nat->Nat):Nat->List Md->List Md
 | _,[]=>[]
 | k,m::ms=>⟨m.face,m.stays,nz (f k) 0 m.rows⟩::oF f (k+1) ms
theorem wl(f:Nat->Nat->Nat):∀(j:Nat) (rs:List (lN×Nat)) (i:Nat),(nz f j rs)[i]?=rs[i]?.map fun r=>(r.1,f (j+i) r.2)
 | _,[],_=>rfl
 | j,r::rs,0=>rfl
 | j,r::rs,i+1=>by
  show(nz f (j+1) rs)[i]?=_
  rw[wl f (j+1) rs i,Nat.add_right_comm];rfl
theorem uB(f:Nat->Nat->Nat->Nat):∀(k:Nat) (ms:List Md) (i:Nat),(oF f k ms)[i]?=ms[i]?.map fun m=>⟨m.face,m.stays,nz (f (k+i)) 0 m.rows⟩
 | _,[],_=>rfl
 | k,m::ms,0=>rfl
 | k,m::ms,i+1=>by
  show(oF f (k+1) ms)[i]?=_
  rw[uB f (k+1) ms i,Nat.add_right_comm];rfl
theorem uL(f:Nat->Nat->Nat):∀(j:Nat) (rs:List (lN×Nat)),(nz f j rs).length=rs.length
 | _,[]=>rfl
 | j,r::rs=>congrArg (·+1) (uL f (j+1) rs)
theorem ti(f:Nat->Nat->Nat->Nat):∀(j:Nat) (ms:List Md),(oF f j ms).length=ms.length
 | _,[]=>rfl
 | j,r::rs=>congrArg (·+1) (ti f (j+1) rs)
def C5(N:Int)(k j:Nat):Bool:=qd N (6*(k:Int)+(j:Int)) / 4%2==0
def wW(N:Int)(a n k j g:Nat):Nat:=if g=a/\C5 N k j=true then n else g
def Eo(A:Bk)(N:Int)(a:Nat):Bk:=⟨1+N%9,A.back,oF (wW N a A.modes.length) 0 (A.modes++[A.md a])⟩
def BC:R->Option Out:=(kP (uT (zN (lC Bl (i4 12) (i4 3)) (lC Bl (i8 lB (i8 mK (i6 av (i3 (i4 1) (i3 (i8 kY (i8 qW (kI 6) (i4 5)) (i4 10)) i5))) (kI 4)) (kI 2)) (kI 0)))
 (kO (i4 2) (setAt 12))
 m9)
 (kO (i8 kY (i4 9) (kG (i3 (kG (i3 (i4 11) (i3 (i4 12) i5))) i5))) (setAt 9)))
def zI:R->Option Out:=(kP (kO (kG i5) (setAt 9))
  (kP (mJ (qK (i4 8)) (nR [(setAt 10),(nR [(setAt 11),(setAt 12)])]) BC)
  (kO (i8 kY (i4 4) (kG (i3 (kG (i3 (i4 6) (i3 (i4 7) (i3 (i4 9) i5)))) i5))) (setAt 4))))
theorem yO{N:Int}{a n k j:Nat}(hj:j<6)(hk:k<9){r:lN×Nat}{ps:List (lN×Nat)}(hp:ps.length<6){o0 o4 o6 o7 o8:OD} :
  ∃x,BC [o0,some (.int N),some (.int (n:Int)),some (.int (a:Int)),o4,some (.int (k:Int)),o6,o7,o8,some (.tup (ps.map lg)),some (.int (j:Int)),some (.str r.1.x),some (.int (r.2:Int))]=some (.nx [o0,some (.int N),some (.int (n:Int)),some (.int (a:Int)),o4,some (.int (k:Int)),o6,o7,o8,some (.tup ((ps++[(r.1,wW N a n k j r.2)]).map lg)),some (.int (j:Int)),some (.str r.1.x),x]):=by
 have h1:lC Bl (i4 12) (i4 3) [o0,some (.int N),some (.int (n:Int)),some (.int (a:Int)),o4,some (.int (k:Int)),o6,o7,o8,some (.tup (ps.map lg)),some (.int (j:Int)),some (.str r.1.x),some (.int (r.2:Int))]=some (decide (r.2=a)):=by
  refine wz rfl rfl ?_
  show some ((r.2:Int)==(a:Int))=_
  congr 1
  by_cases z:r.2=a
  ·rw[z,decide_eq_true rfl];simp
  ·rw[decide_eq_false z];exact beq_eq_false_iff_ne.mpr (by omega)
 have h2:lC Bl (i8 lB (i8 mK (i6 av (i3 (i4 1) (i3 (i8 kY (i8 qW (kI 6) (i4 5)) (i4 10)) i5))) (kI 4)) (kI 2)) (kI 0) [o0,some (.int N),some (.int (n:Int)),some (.int (a:Int)),o4,some (.int (k:Int)),o6,o7,o8,some (.tup (ps.map lg)),some (.int (j:Int)),some (.str r.1.x),some (.int (r.2:Int))]=some (C5 N k j):=by
  have m1:i8 qW (kI 6) (i4 5) [o0,some (.int N),some (.int (n:Int)),some (.int (a:Int)),o4,some (.int (k:Int)),o6,o7,o8,some (.tup (ps.map lg)),some (.int (j:Int)),some (.str r.1.x),some (.int (r.2:Int))]=some (.int (6*(k:Int))):=by
   refine yV rfl rfl ?_
   show(if lR 6 (k:Int) then some (D.int (6*(k:Int))) else none)=_
   rw[if_pos (mN (by decide) (by decide))]
  exact wz (yV (yV (mT (mZ rfl (mZ (yV m1 rfl rfl) rfl)) (oD _ _)) rfl rfl) rfl rfl) rfl rfl
 have add:∀g:Nat,kO (i8 kY (i4 9) (kG (i3 (kG (i3 (i4 11) (i3 (i4 12) i5))) i5))) (setAt 9) [o0,some (.int N),some (.int (n:Int)),some (.int (a:Int)),o4,some (.int (k:Int)),o6,o7,o8,some (.tup (ps.map lg)),some (.int (j:Int)),some (.str r.1.x),some (.int (g:Int))]=some (.nx [o0,some (.int N),some (.int (n:Int)),some (.int (a:Int)),o4,some (.int (k:Int)),o6,o7,o8,some (.tup ((ps++[(r.1,g)]).map lg)),some (.int (j:Int)),some (.str r.1.x),some (.int (g:Int))]):=fun g=>by
  refine pj (yV rfl (tupS (mZ (tupS (mZ rfl (mZ rfl rfl))) rfl)) (Av ?_)) (by rw[List.map_append];rfl)
  show(ps.map lg).length+1<=1000
  rw[List.length_map];omega
 unfold BC wW
 by_cases z1:r.2=a
 ·rw[decide_eq_true z1] at h1
  cases z2:C5 N k j with
  | true =>
   rw[z2] at h2
   rw[if_pos ⟨z1,rfl⟩]
   refine⟨some (.int (n:Int)),?_⟩
   rw[kN ((Gu (CM h1 h2)).trans (pj (d:=.int (n:Int)) rfl rfl))]
   exact add n
  | false =>
   rw[z2] at h2
   rw[if_neg fun h=>by cases h.2]
   refine⟨some (.int (r.2:Int)),?_⟩
   rw[kN ((DR (CM h1 h2)).trans rfl)]
   exact add r.2
 ·rw[decide_eq_false z1] at h1
  rw[if_neg fun h=>z1 h.1]
  refine⟨some (.int (r.2:Int)),?_⟩
  rw[kN ((DR (Fu h1)).trans rfl)]
  exact add r.2
def wk(j:Nat):List (lN×Nat)->LD
 | []=>[]
 | r::rs=>.tup [.int (j:Int),lg r]::wk (j+1) rs
def wH(j:Nat):List Md->LD
 | []=>[]
 | r::rs=>.tup [.int (j:Int),r.d]::wH (j+1) rs
theorem vH:∀(rs:List (lN×Nat)) (j:Nat),((rs.map lg).zipIdx j).map (fun p:D×Nat=>D.tup [.int (p.2:Int),p.1])=wk j rs
 | [],_=>rfl
 | r::rs,j=>by rw[List.map_cons,List.zipIdx_cons,List.map_cons,vH rs (j+1)];rfl
theorem vN:∀(rs:List Md) (j:Nat),((rs.map Md.d).zipIdx j).map (fun p:D×Nat=>D.tup [.int (p.2:Int),p.1])=wH j rs
 | [],_=>rfl
 | r::rs,j=>by rw[List.map_cons,List.zipIdx_cons,List.map_cons,vN rs (j+1)];rfl
theorem pz{it:R->Option LD}{st:D->R->Option R}{body:R->Option Out}{ρ:R}{ds:LD}{o:Out}(h1:it ρ=some ds)(h2:ow st body ds ρ=some o):mJ it st body ρ=some o:=by simp[h1,h2]
theorem fk{N:Int}{a n k:Nat}(hk:k<9){o0 o4 o6 o7 o8:OD}:∀(rs:List (lN×Nat)) (j:Nat) (ps:List (lN×Nat)) (o10 o11 o12:OD),j+rs.length<=6->ps.length+rs.length<=6->∃p10 p11 p12,
  ow (nR [(setAt 10),(nR [(setAt 11),(setAt 12)])]) BC (wk j rs) [o0,some (.int N),some (.int (n:Int)),some (.int (a:Int)),o4,some (.int (k:Int)),o6,o7,o8,some (.tup (ps.map lg)),o10,o11,o12]=some (.nx [o0,some (.int N),some (.int (n:Int)),some (.int (a:Int)),o4,some (.int (k:Int)),o6,o7,o8,some (.tup ((ps++nz (wW N a n k) j rs).map lg)),p10,p11,p12])
 | [],j,ps,o10,o11,o12,_,_=>⟨o10,o11,o12,by show some _=_;rw[nz,List.append_nil]⟩
 | r::rs,j,ps,o10,o11,o12,hj,hp=>by
  rw[List.length_cons] at hj hp
  obtain⟨x,t⟩:=yO (N:=N) (a:=a) (n:=n) (k:=k) (j:=j) (by omega) hk (r:=r) (ps:=ps) (by omega) (o0:=o0) (o4:=o4) (o6:=o6) (o7:=o7) (o8:=o8)
  obtain⟨p10,p11,p12,ih⟩:=fk hk (o0:=o0) (o4:=o4) (o6:=o6) (o7:=o7) (o8:=o8) rs (j+1) (ps++[(r.1,wW N a n k j r.2)]) (some (.int (j:Int))) (some (.str r.1.x)) x (by omega) (by rw[List.length_append,List.length_singleton];omega)
  refine⟨p10,p11,p12,?_⟩
  show ow _ _ (.tup [.int (j:Int),lg r]::wk (j+1) rs) _=_
  rw[pI rfl t,ih,List.append_assoc]
  rfl
theorem fy{N:Int}{a n k:Nat}(hk:k<9){m:Md}(h6:m.rows.length=6){ms:List Md}(hp:ms.length<10){o0 o9 o10 o11 o12:OD} :
  ∃p9 p10 p11 p12,zI [o0,some (.int N),some (.int (n:Int)),some (.int (a:Int)),some (.tup (ms.map Md.d)),some (.int (k:Int)),some (.str m.face.x),some (.bl m.stays),some (.tup (m.rows.map lg)),o9,o10,o11,o12]=some (.nx [o0,some (.int N),some (.int (n:Int)),some (.int (a:Int)),some (.tup ((ms++[(⟨m.face,m.stays,nz (wW N a n k) 0 m.rows⟩:Md)]).map Md.d)),some (.int (k:Int)),some (.str m.face.x),some (.bl m.stays),some (.tup (m.rows.map lg)),p9,p10,p11,p12]):=by
 obtain⟨p10,p11,p12,t⟩:=fk (N:=N) (a:=a) (n:=n) hk (o0:=o0) (o4:=some (.tup (ms.map Md.d))) (o6:=some (.str m.face.x)) (o7:=some (.bl m.stays)) (o8:=some (.tup (m.rows.map lg))) m.rows 0 [] o10 o11 o12 (by omega) (by simp;omega)
 rw[List.nil_append] at t
 refine⟨some (.tup ((nz (wW N a n k) 0 m.rows).map lg)),p10,p11,p12,?_⟩
 unfold zI
 rw[kN (ρ2:=[o0,some (.int N),some (.int (n:Int)),some (.int (a:Int)),some (.tup (ms.map Md.d)),some (.int (k:Int)),some (.str m.face.x),some (.bl m.stays),some (.tup (m.rows.map lg)),some (.tup []),o10,o11,o12]) rfl]
 have he:qK (i4 8) [o0,some (.int N),some (.int (n:Int)),some (.int (a:Int)),some (.tup (ms.map Md.d)),some (.int (k:Int)),some (.str m.face.x),some (.bl m.stays),some (.tup (m.rows.map lg)),some (.tup []),o10,o11,o12]=some (wk 0 m.rows):=by
  rw[<- vH];rfl
 rw[kN (pz he t)]
 refine pj (yV rfl (tupS (mZ (tupS (mZ rfl (mZ rfl (mZ rfl rfl)))) rfl)) (Av ?_)) (by rw[List.map_append];rfl)
 show(ms.map Md.d).length+1<=1000
 rw[List.length_map];omega
theorem dz{N:Int}{a n:Nat}{o0:OD}:∀(rs:List Md) (k:Nat) (ms:List Md) (o5 o6 o7 o8 o9 o10 o11 o12:OD),(∀m∈rs,m.rows.length=6)->k+rs.length<=9->ms.length+rs.length<=9->∃p5 p6 p7 p8 p9 p10 p11 p12,
  ow (nR [(setAt 5),(nR [(setAt 6),(setAt 7),(setAt 8)])]) zI (wH k rs) [o0,some (.int N),some (.int (n:Int)),some (.int (a:Int)),some (.tup (ms.map Md.d)),o5,o6,o7,o8,o9,o10,o11,o12]=some (.nx [o0,some (.int N),some (.int (n:Int)),some (.int (a:Int)),some (.tup ((ms++oF (wW N a n) k rs).map Md.d)),p5,p6,p7,p8,p9,p10,p11,p12])
 | [],k,ms,o5,o6,o7,o8,o9,o10,o11,o12,_,_,_=>⟨o5,o6,o7,o8,o9,o10,o11,o12,by show some _=_;rw[oF,List.append_nil]⟩
 | m::rs,k,ms,o5,o6,o7,o8,o9,o10,o11,o12,h6,hk,hp=>by
  rw[List.length_cons] at hk hp
  obtain⟨q9,q10,q11,q12,t⟩:=fy (N:=N) (a:=a) (n:=n) (k:=k) (by omega) (h6 m (.head _)) (ms:=ms) (by omega) (o0:=o0) (o9:=o9) (o10:=o10) (o11:=o11) (o12:=o12)
  obtain⟨p5,p6,p7,p8,p9,p10,p11,p12,ih⟩:=dz (N:=N) (a:=a) (n:=n) (o0:=o0) rs (k+1) (ms++[(⟨m.face,m.stays,nz (wW N a n k) 0 m.rows⟩:Md)]) (some (.int (k:Int))) (some (.str m.face.x)) (some (.bl m.stays)) (some (.tup (m.rows.map lg))) q9 q10 q11 q12 (fun x hx=>h6 x (.tail _ hx)) (by omega) (by rw[List.length_append,List.length_singleton];omega)
  refine⟨p5,p6,p7,p8,p9,p10,p11,p12,?_⟩
  show ow _ _ (.tup [.int (k:Int),m.d]::wH (k+1) rs) _=_
  rw[pI rfl t,ih,List.append_assoc]
  rfl
theorem AW{A:Bk}{b k:Int}{m:Md}{j:Nat}(hj:j<A.modes.length):(⟨b,k,A.modes++[m]⟩:Bk).md j=A.md j:=by
 show(A.modes++[m]).getD j default=A.modes.getD j default
 rw[List.getD_eq_getElem?_getD,List.getD_eq_getElem?_getD,List.getElem?_append_left hj]
theorem ET{A:Bk}{j:Nat}(hj:j<A.modes.length):A.modes[j]?=some (A.md j):=by
 unfold Bk.md
 rw[List.getD_eq_getElem?_getD,List.getElem?_eq_getElem hj];rfl
theorem CF{A:Bk}{j:Nat}{m:Md}(h:A.modes[j]?=some m):A.md j=m:=by
 unfold Bk.md
 rw[List.getD_eq_getElem?_getD,h];rfl
theorem yk{m:Md}{k:Nat}{r:lN×Nat}(h:m.rows[k]?=some r):m.row k=r:=by
 unfold Md.row
 rw[List.getD_eq_getElem?_getD,h];rfl
def nF(n a j:Nat):Nat:=if j=n then a else j
theorem zJ{A:Bk}(ok:A.Ok){N:Int}{a j:Nat}(ha:a<A.modes.length)(hj:j<=A.modes.length):(Eo A N a).md j=⟨(A.md (nF A.modes.length a j)).face,(A.md (nF A.modes.length a j)).stays,nz (wW N a A.modes.length j) 0 (A.md (nF A.modes.length a j)).rows⟩:=by
 refine CF ?_
 show(oF _ 0 (A.modes++[A.md a]))[j]?=_
 rw[uB,Nat.zero_add]
 have:(A.modes++[A.md a])[j]?=some (A.md (nF A.modes.length a j)):=by
  unfold nF
  by_cases h:j=A.modes.length
  ·rw[if_pos h,h,List.getElem?_append_right (Nat.le_refl _),Nat.sub_self];rfl
  ·have:j<A.modes.length:=by omega
   rw[if_neg h,List.getElem?_append_left this,ET this]
 rw[this];rfl
theorem fold_lt{n a j:Nat}(ha:a<n)(hj:j<=n):nF n a j<n:=by
 unfold nF
 split<;>omega
theorem v9{N:Int}{n a k j g:Nat}(hg:g<n):nF n a (wW N a n k j g)=g/\wW N a n k j g<=n:=by
 unfold wW
 split
 ·rename_i h
  unfold nF
  rw[if_pos rfl,h.1];exact⟨rfl,Nat.le_refl _⟩
 ·unfold nF
  rw[if_neg (by omega)];exact⟨rfl,by omega⟩
theorem zC{A:Bk}(ok:A.Ok){N:Int}{a j k:Nat}(ha:a<A.modes.length)(hj:j<=A.modes.length)(hk:k<6):((Eo A N a).md j).row k=(((A.md (nF A.modes.length a j)).row k).1,wW N a A.modes.length j k ((A.md (nF A.modes.length a j)).row k).2):=by
 rw[zJ ok ha hj]
 refine yk ?_
 show(nz _ 0 _)[k]?=_
 rw[wl,Nat.zero_add,pN (by rw[(lT ok (fold_lt ha hj)).six];exact hk)];rfl
theorem FJ{A:Bk}(ok:A.Ok){N:Int}{a:Nat}(ha:a<A.modes.length)(h7:A.modes.length<8):(Eo A N a).Ok:=by
 have hl:(Eo A N a).modes.length=A.modes.length+1:=by show(oF _ 0 _).length=_;rw[ti];simp
 have n0:=Int.emod_nonneg N (show(9:Int)≠0 by decide)
 have n9:=Int.emod_lt_of_pos N (show(0:Int)<9 by decide)
 refine⟨by show 1<=1+N%9;omega,by show 1+N%9<=9;omega,ok.back0,ok.back60,by omega,by omega,fun m hm=>?_⟩
 obtain⟨j,hj⟩:=List.getElem?_of_mem hm
 have hjl:=(List.getElem?_eq_some_iff.mp hj).1
 rw[hl] at hjl
 have hjn:j<=A.modes.length:=by omega
 have e:=CF hj
 have mo:=lT ok (fold_lt ha hjn)
 have h6:m.rows.length=6:=by rw[<- e,zJ ok ha hjn];show(nz _ 0 _).length=6;rw[uL];exact mo.six
 refine⟨h6,fun r hr=>?_⟩
 obtain⟨k,hk⟩:=List.getElem?_of_mem hr
 have hk6:k<6:=by have:=(List.getElem?_eq_some_iff.mp hk).1;omega
 have e2:=yk hk
 rw[<- e,zC ok ha hjn hk6] at e2
 rw[<- e2,hl]
 have:=(v9 (N:=N) (a:=a) (k:=j) (j:=k) (mo.nx _ (List.mem_of_getElem? (pN (by rw[mo.six];exact hk6))))).2
 show wW _ _ _ _ _ _<_
 omega
theorem Dv{A:Bk}(ok:A.Ok){N:Int}{a:Nat}(ha:a<A.modes.length):rP A (Eo A N a):=by
 refine fS (nF A.modes.length a) (fun j=>j<=A.modes.length) (Nat.zero_le _) ?_ fun j hj=>⟨?_,fun k hk=>?_⟩
 ·unfold nF
  rw[if_neg (by omega)]
 ·unfold lP
  rw[zJ ok ha hj]
 ·have mo:=lT ok (fold_lt ha hj)
  have:=v9 (N:=N) (a:=a) (k:=j) (j:=k) (mo.nx _ (List.mem_of_getElem? (pN (by rw[mo.six];exact hk))))
  rw[zC ok ha hj hk]
  exact⟨this.2,rfl,this.1⟩
theorem jd{A:Bk}(ok:A.Ok)(h7:A.modes.length<8)(N:Int):∃T:Bk,T.Ok/\rP A T/\aR [A.d,.int N]=some T.d:=by
 have h1:=ok.some1
 obtain⟨a,ea,ha⟩:=vk N h1
 refine⟨Eo A N a,FJ ok ha h7,Dv ok ha,?_⟩
 show k_ (kP _ _ [some A.d,some (.int N),none,none,none,none,none,none,none,none,none,none,none])=_
 have s1:kO (i6 ml (i3 (i8 kF (i4 0) (kI 2)) i5)) (setAt 2) [some A.d,some (.int N),none,none,none,none,none,none,none,none,none,none,none]=some (.nx [some A.d,some (.int N),some (.int (A.modes.length:Int)),none,none,none,none,none,none,none,none,none,none]):=by
  refine pj (d:=.int (A.modes.length:Int)) (lS (x:=.tup (A.modes.map Md.d)) rfl ?_) rfl
  show some (D.int ((A.modes.map Md.d).length:Int))=_
  rw[List.length_map]
 have s2:kO (i8 lB (i4 1) (i4 2)) (setAt 3) [some A.d,some (.int N),some (.int (A.modes.length:Int)),none,none,none,none,none,none,none,none,none,none]=some (.nx [some A.d,some (.int N),some (.int (A.modes.length:Int)),some (.int (a:Int)),none,none,none,none,none,none,none,none,none]):=by
  refine pj (yV rfl rfl ?_) rfl
  show(if (0:Int)<(A.modes.length:Int) then some (D.int (N%(A.modes.length:Int))) else none)=_
  rw[if_pos (by omega),ea]
 have he:qK (i8 kY (i8 kF (i4 0) (kI 2)) (kG (i3 (i8 kF (i8 kF (i4 0) (kI 2)) (i4 3)) i5))) [some A.d,some (.int N),some (.int (A.modes.length:Int)),some (.int (a:Int)),some (.tup []),none,none,none,none,none,none,none,none]=some (wH 0 (A.modes++[A.md a])):=by
  have e1:=rL (b:=A) (x:=a) (f:=i4 0) (g:=i4 3) (ρ:=[some A.d,some (.int N),some (.int (A.modes.length:Int)),some (.int (a:Int)),some (.tup []),none,none,none,none,none,none,none,none]) rfl rfl ha
  have e2:i8 kY (i8 kF (i4 0) (kI 2)) (kG (i3 (i8 kF (i8 kF (i4 0) (kI 2)) (i4 3)) i5)) [some A.d,some (.int N),some (.int (A.modes.length:Int)),some (.int (a:Int)),some (.tup []),none,none,none,none,none,none,none,none]=some (.tup (A.modes.map Md.d++[(A.md a).d])):=yV (x:=.tup (A.modes.map Md.d)) rfl (tupS (mZ e1 rfl)) (Av (by rw[List.length_map];show _+1<=1000;omega))
  show(i8 kY _ _ _).bind _=_
  rw[e2,<- vN,List.map_append]
  rfl
 obtain⟨p5,p6,p7,p8,p9,p10,p11,p12,t⟩:=dz (N:=N) (a:=a) (n:=A.modes.length) (o0:=some A.d) (A.modes++[A.md a]) 0 [] none none none none none none none none (fun m hm=>by
  rcases List.mem_append.mp hm with z | z
  ·exact(ok.all m z).six
  ·rw[List.mem_singleton.mp z];exact(lT ok ha).six) (by simp;omega) (by simp;omega)
 rw[List.nil_append] at t
 rw[kN s1,kN s2,kN (ρ2:=[some A.d,some (.int N),some (.int (A.modes.length:Int)),some (.int (a:Int)),some (.tup []),none,none,none,none,none,none,none,none]) rfl]
 refine(congrArg k_ (kN (pz he t))).trans ?_
 exact me (wx (x:=.int (1+N%9)) (y:=.int A.back) rfl rfl rfl)
theorem Cf{A:Bk}(ok:A.Ok)(h7:A.modes.length<8){x:Nat}(hx:x<A.modes.length):(⟨A.hold,A.back,A.modes++[⟨.laps,true,List.replicate 6 (.run,x)⟩]⟩:Bk).Ok:=by
 refine⟨ok.hold1,ok.hold9,ok.back0,ok.back60,by simp,by simp;omega,fun m hm=>?_⟩
 rw[List.length_append,List.length_singleton]
 rcases List.mem_append.mp hm with z | z
 ·exact⟨(ok.all m z).six,fun r hr=>Nat.lt_succ_of_lt ((ok.all m z).nx r hr)⟩
 ·rw[List.mem_singleton.mp z]
  exact⟨by simp,fun r hr=>by rw[(List.mem_replicate.mp hr).2];show x<_;omega⟩
theorem An{A:Bk}(ok:A.Ok)(m:Md)(b k:Int):rP A ⟨b,k,A.modes++[m]⟩:=by
 refine fS id (fun j=>j<A.modes.length) ok.some1 rfl fun j hj=>⟨?_,fun i hi=>?_⟩
 ·unfold lP
  rw[AW hj];rfl
 ·have mo:=lT ok hj
  rw[AW hj]
  exact⟨mo.nx _ (List.mem_of_getElem? (pN (by rw[mo.six];exact hi))),rfl,rfl⟩
def wn:R->Option Out:=(uT (EB (lC pQ (i6 aB (i3 (i4 3) (i3 (i4 4) i5))) (fun _=>some (.bl true))) (lC yB (i6 aM (i3 (i4 3) (i3 (i4 4) i5))) (fun _=>some .non)))
 (lV (fun _=>some (.bl false)))
 m9)
def uP:R->Option Out:=(kP (uT (EB (lC pQ (i6 aB (i3 (i4 3) (i3 (i4 4) i5))) (fun _=>some (.bl false))) (lC pQ (i6 aB (i3 (i4 4) (i3 (i4 3) i5))) (fun _=>some (.bl false))))
  (lV (fun _=>some (.bl false)))
  m9)
  (uT (lC Ex (i6 rK (i3 (i6 aM (i3 (i4 3) (i3 (i4 4) i5))) i5)) (i6 rK (i3 (i6 aM (i3 (i4 4) (i3 (i4 3) i5))) i5)))
  (lV (fun _=>some (.bl false)))
  m9))
section
variable{S a1 a2:OD}{L:D}
theorem ug{X:Bk}(oX:X.Ok):∀(Ys:List Bk) (o4:OD),(∀Y∈Ys,Y.Ok/\rP X Y)->∃p4,ow (setAt 4) wn (Ys.map Bk.d) [S,a1,a2,some X.d,o4,none,none,none,none,none,none,some L]=some (.nx [S,a1,a2,some X.d,p4,none,none,none,none,none,none,some L])
 | [],o4,_=>⟨o4,rfl⟩
 | Y::Ys,o4,h=>by
  obtain⟨oY,nv⟩:=h Y (.head _)
  obtain⟨d,e,t⟩:=eI oX oY
  have hd:d=.non:=by
   rcases t with ⟨rfl,_⟩ | ⟨u,hu,_,hp,_⟩
   ·rfl
   ·exact(nv u hu hp).elim
  subst hd
  have hb:wn [S,a1,a2,some X.d,some Y.d,none,none,none,none,none,none,some L]=some (.nx [S,a1,a2,some X.d,some Y.d,none,none,none,none,none,none,some L]):=by
   unfold wn
   have c1:lC pQ (i6 aB (i3 (i4 3) (i3 (i4 4) i5))) (fun _=>some (.bl true)) [S,a1,a2,some X.d,some Y.d,none,none,none,none,none,none,some L]=some false:=wz (y:=.bl true) (mT (mZ rfl (mZ rfl rfl)) (s_ e t)) rfl rfl
   have c2:lC yB (i6 aM (i3 (i4 3) (i3 (i4 4) i5))) (fun _=>some .non) [S,a1,a2,some X.d,some Y.d,none,none,none,none,none,none,some L]=some false:=wz (y:=.non) (mT (mZ rfl (mZ rfl rfl)) e) rfl rfl
   exact uY (FA c1 c2)
  obtain⟨p4,ih⟩:=ug oX Ys (some Y.d) fun Z hZ=>h Z (.tail _ hZ)
  exact⟨p4,by rw[List.map_cons,pI rfl hb,ih]⟩
theorem tw{Xs:List Bk}{A:Bk}(hX:∀X∈Xs,X.Ok/\rP A X):∀(Ys:List Bk) (o3 o4:OD),(∀Y∈Ys,Y∈Xs)->∃p3 p4,ow (setAt 3) (mJ (lh (i4 11)) (setAt 4) wn) (Ys.map Bk.d) [S,a1,a2,o3,o4,none,none,none,none,none,none,some (.lst (Xs.map Bk.d))]=some (.nx [S,a1,a2,p3,p4,none,none,none,none,none,none,some (.lst (Xs.map Bk.d))])
 | [],o3,o4,_=>⟨o3,o4,rfl⟩
 | Y::Ys,o3,o4,h=>by
  obtain⟨oY,nv⟩:=hX Y (h Y (.head _))
  obtain⟨q4,t⟩:=ug (S:=S) (a1:=a1) (a2:=a2) (L:=.lst (Xs.map Bk.d)) oY Xs o4 fun Z hZ=>⟨(hX Z hZ).1,nv.symm.trans (hX Z hZ).2⟩
  obtain⟨p3,p4,ih⟩:=tw hX Ys (some Y.d) q4 fun Z hZ=>h Z (.tail _ hZ)
  exact⟨p3,p4,by rw[List.map_cons,pI rfl (pz rfl t),ih]⟩
theorem ux{A O:Bk}(oO:O.Ok){a5 a6 a7 a8 a9 a10:OD}(hpt:∃u,Wd u/\Pt A O u):∀(Ys:List Bk) (o3:OD),(∀Y∈Ys,Y.Ok/\rP A Y)->∃p3,ow (setAt 3) uP (Ys.map Bk.d) [S,a1,a2,o3,some O.d,a5,a6,a7,a8,a9,a10,some L]=some (.nx [S,a1,a2,p3,some O.d,a5,a6,a7,a8,a9,a10,some L])
 | [],o3,_=>⟨o3,rfl⟩
 | Y::Ys,o3,h=>by
  obtain⟨oY,nv⟩:=h Y (.head _)
  obtain⟨w,hw,hpw⟩:=hpt
  have hyo:Pt Y O w:=(pX Y O w).mpr fun z=>(pX A O w).mp hpw ((oJ.mp nv w hw).trans z)
  obtain⟨d1,e1,t1⟩:=eI oY oO
  obtain⟨d2,e2,t2⟩:=eI oO oY
  have al1:=s_ e1 t1
  have al2:=s_ e2 t2
  rcases t1 with ⟨_,n1⟩ | ⟨u,hu,rfl,hp,hf,hl⟩
  ·exact(n1 w hw hyo).elim
  rcases t2 with ⟨_,n2⟩ | ⟨v,hv,rfl,hp',hf',hl'⟩
  ·exact(n2 w hw (rQ hyo)).elim
  have huv:v.length=u.length:=zY hf'.symm hf
  have hb:uP [S,a1,a2,some Y.d,some O.d,a5,a6,a7,a8,a9,a10,some L]=some (.nx [S,a1,a2,some Y.d,some O.d,a5,a6,a7,a8,a9,a10,some L]):=by
   unfold uP
   have c1:lC pQ (i6 aB (i3 (i4 3) (i3 (i4 4) i5))) (fun _=>some (.bl false)) [S,a1,a2,some Y.d,some O.d,a5,a6,a7,a8,a9,a10,some L]=some false:=wz (y:=.bl false) (mT (mZ rfl (mZ rfl rfl)) al1) rfl rfl
   have c2:lC pQ (i6 aB (i3 (i4 4) (i3 (i4 3) i5))) (fun _=>some (.bl false)) [S,a1,a2,some Y.d,some O.d,a5,a6,a7,a8,a9,a10,some L]=some false:=wz (y:=.bl false) (mT (mZ rfl (mZ rfl rfl)) al2) rfl rfl
   have l1:=CZ (f:=i6 aM (i3 (i4 3) (i3 (i4 4) i5))) (ρ:=[S,a1,a2,some Y.d,some O.d,a5,a6,a7,a8,a9,a10,some L]) (w:=txt u) (mT (mZ rfl (mZ rfl rfl)) e1) (by rw[cj hu];exact hl)
   have l2:=CZ (f:=i6 aM (i3 (i4 4) (i3 (i4 3) i5))) (ρ:=[S,a1,a2,some Y.d,some O.d,a5,a6,a7,a8,a9,a10,some L]) (w:=txt v) (mT (mZ rfl (mZ rfl rfl)) e2) (by rw[cj hv];exact hl')
   rw[cj hu] at l1
   rw[cj hv,huv] at l2
   rw[kN (uY (FA c1 c2))]
   exact uY (wz l1 l2 (b:=false) (by show some (!((u.length:Int)==(u.length:Int)))=_;simp))
  obtain⟨p3,ih⟩:=ux oO (a5:=a5) (a6:=a6) (a7:=a7) (a8:=a8) (a9:=a9) (a10:=a10) ⟨w,hw,hpw⟩ Ys (some Y.d) fun Z hZ=>h Z (.tail _ hZ)
  exact⟨p3,by rw[List.map_cons,pI rfl hb,ih]⟩
end
def yR(A:Bk)(x:Nat):Bk:=⟨A.hold,A.back,A.modes.take x++[⟨(A.md x).face,!(A.md x).stays,(A.md x).rows⟩]++A.modes.drop (x+1)⟩
theorem CG{A:Bk}{x:Nat}(hx:x<A.modes.length)(j:Nat):(yR A x).md j=if j=x then ⟨(A.md x).face,!(A.md x).stays,(A.md x).rows⟩ else A.md j:=by
 show(A.modes.take x++[_]++A.modes.drop (x+1)).getD j default=_
 rw[List.getD_eq_getElem?_getD]
 have hlt:(A.modes.take x).length=x:=by rw[List.length_take];omega
 by_cases h:j=x
 ·rw[if_pos h,List.append_assoc,List.getElem?_append_right (by omega),hlt,h,Nat.sub_self];rfl
 ·rw[if_neg h]
  show _=A.modes.getD j default
  rw[List.getD_eq_getElem?_getD]
  by_cases h2:j<x
  ·rw[List.append_assoc,List.getElem?_append_left (by omega),List.getElem?_take_of_lt h2]
  ·rw[List.getElem?_append_right (by rw[List.length_append,hlt];simp;omega),List.length_append,hlt,List.getElem?_drop]
   congr 2
   simp
   omega
theorem FG{A:Bk}(ok:A.Ok){x:Nat}(hx:x<A.modes.length):(yR A x).Ok:=by
 have hl:(yR A x).modes.length=A.modes.length:=iO hx
 refine⟨ok.hold1,ok.hold9,ok.back0,ok.back60,by rw[hl];exact ok.some1,by rw[hl];exact ok.some8,fun m hm=>?_⟩
 rw[hl]
 rcases jk hm with z | z
 ·exact ok.all m z
 ·rw[z];exact⟨(lT ok hx).six,(lT ok hx).nx⟩
theorem Ei{A:Bk}{x:Nat}(hx:x<A.modes.length)(u:List Nat):nS (yR A x) u=nS A u:=by
 unfold nS
 congr 1
 funext j k
 rw[CG hx]
 split
 ·rename_i h;rw[h];rfl
 ·rfl
theorem Fq{A:Bk}{x:Nat}(hx:x<A.modes.length){u:List Nat}(h:nS A u=x):Pt A (yR A x) u:=by
 refine(pX _ _ _).mpr fun z=>?_
 have z2:lP A (nS A u)=lP (yR A x) (nS (yR A x) u):=congrArg Prod.snd z
 rw[Ei hx,h] at z2
 unfold lP at z2
 rw[CG hx,if_pos rfl] at z2
 have:=congrArg Prod.snd z2
 cases hs:(A.md x).stays<;>rw[hs] at this<;>cases this
def vo:R->Option Out:=(kP (mJ (lh (i4 11)) (setAt 3)
  (mJ (lh (i4 11)) (setAt 4) wn))
  (kP (kO (i6 bC (i3 (i4 1) i5)) (setAt 5))
  (kP (kO (i8 kF (i4 5) (i8 lB (i8 mK (i4 2) (kI 64)) (i6 ml (i3 (i4 5) i5)))) (setAt 6))
  (kP (kO (i8 kF (i8 kF (i4 1) (kI 2)) (i4 6)) (nR [(setAt 7),(setAt 8),(setAt 9)]))
  (kP (kO (i8 kY (i8 kY (zv (i8 kF (i4 1) (kI 2)) zA (aP (i4 6))) (kG (i3 (kG (i3 (i4 7) (i3 (Cy (i4 8)) (i3 (i4 9) i5)))) i5))) (zv (i8 kF (i4 1) (kI 2)) (aP (i8 kY (i4 6) (kI 1))) zA)) (setAt 10))
  (kP (kO (kG (i3 (i8 kF (i4 1) (kI 0)) (i3 (i8 kF (i4 1) (kI 1)) (i3 (i4 10) i5)))) (setAt 4))
  (kP (mJ (lh (i4 11)) (setAt 3) uP)
  (lV (fun _=>some (.bl true))))))))))
theorem iA{A:Bk}(oA:A.Ok){S:OD}{N:Int}{Xs:List Bk}(hX:∀X∈Xs,X.Ok/\rP A X):vo [S,some A.d,some (.int N),none,none,none,none,none,none,none,none,some (.lst (Xs.map Bk.d))]=some (.rt (.bl true)):=by
 obtain⟨p3,p4,t1⟩:=tw (S:=S) (a1:=some A.d) (a2:=some (.int N)) hX Xs none none fun Y h=>h
 obtain⟨rs,e2,_,_,hrs⟩:=jt oA
 have hne:0<rs.length:=List.length_pos_of_mem ((hrs 0).mpr ⟨[],fun k hk=>(by cases hk),rfl⟩)
 obtain⟨i,ei,hi⟩:=vk (N / 64) hne
 obtain⟨u,hu,hux⟩:=(hrs rs[i]).mp (List.getElem_mem hi)
 have hxn:rs[i]<A.modes.length:=by rw[<- hux];exact rB oA hu
 generalize hx:rs[i]=x at hux hxn
 have s2:kO (i6 bC (i3 (i4 1) i5)) (setAt 5) [S,some A.d,some (.int N),p3,p4,none,none,none,none,none,none,some (.lst (Xs.map Bk.d))]=some (.nx [S,some A.d,some (.int N),p3,p4,some (.tup (rs.map fun x:Nat=>.int (x:Int))),none,none,none,none,none,some (.lst (Xs.map Bk.d))]):=pj (mT (mZ rfl rfl) e2) rfl
 have s3:kO (i8 kF (i4 5) (i8 lB (i8 mK (i4 2) (kI 64)) (i6 ml (i3 (i4 5) i5)))) (setAt 6) [S,some A.d,some (.int N),p3,p4,some (.tup (rs.map fun x:Nat=>.int (x:Int))),none,none,none,none,none,some (.lst (Xs.map Bk.d))]=some (.nx [S,some A.d,some (.int N),p3,p4,some (.tup (rs.map fun x:Nat=>.int (x:Int))),some (.int (x:Int)),none,none,none,none,some (.lst (Xs.map Bk.d))]):=by
  have l1:i6 ml (i3 (i4 5) i5) [S,some A.d,some (.int N),p3,p4,some (.tup (rs.map fun x:Nat=>.int (x:Int))),none,none,none,none,none,some (.lst (Xs.map Bk.d))]=some (.int (rs.length:Int)):=by
   refine lS (x:=.tup (rs.map fun x:Nat=>.int (x:Int))) rfl ?_
   show some (D.int ((rs.map fun x:Nat=>D.int (x:Int)).length:Int))=_
   rw[List.length_map]
  have dm:=vD (f:=i4 2) (g:=i6 ml (i3 (i4 5) i5)) (ρ:=[S,some A.d,some (.int N),p3,p4,some (.tup (rs.map fun x:Nat=>.int (x:Int))),none,none,none,none,none,some (.lst (Xs.map Bk.d))]) (N:=N) (j:=64) rfl l1 hne (by decide) (by decide)
  rw[ei] at dm
  refine pj (yV rfl dm ?_) rfl
  show wL (rs.map fun x:Nat=>D.int (x:Int)) (i:Int)=_
  exact pY (by rw[List.getElem?_map,List.getElem?_eq_getElem hi,hx];rfl)
 have s4:kO (i8 kF (i8 kF (i4 1) (kI 2)) (i4 6)) (nR [(setAt 7),(setAt 8),(setAt 9)]) [S,some A.d,some (.int N),p3,p4,some (.tup (rs.map fun x:Nat=>.int (x:Int))),some (.int (x:Int)),none,none,none,none,some (.lst (Xs.map Bk.d))]=some (.nx [S,some A.d,some (.int N),p3,p4,some (.tup (rs.map fun x:Nat=>.int (x:Int))),some (.int (x:Int)),some (.str (A.md x).face.x),some (.bl (A.md x).stays),some (.tup ((A.md x).rows.map lg)),none,some (.lst (Xs.map Bk.d))]):=pj (rL (b:=A) (x:=x) (f:=i4 1) (g:=i4 6) rfl rfl hxn) rfl
 have n8:=oA.some8
 have p1:=iE (f:=i8 kF (i4 1) (kI 2)) (g:=i4 6) (e:=kG (i3 (i4 7) (i3 (Cy (i4 8)) (i3 (i4 9) i5)))) (ρ:=[S,some A.d,some (.int N),p3,p4,some (.tup (rs.map fun x:Nat=>.int (x:Int))),some (.int (x:Int)),some (.str (A.md x).face.x),some (.bl (A.md x).stays),some (.tup ((A.md x).rows.map lg)),none,some (.lst (Xs.map Bk.d))]) (xs:=A.modes.map Md.d) (k:=x) (y:=(⟨(A.md x).face,!(A.md x).stays,(A.md x).rows⟩:Md).d) rfl rfl rfl (by rw[List.length_map];exact hxn) (by rw[List.length_map];omega)
 rw[iX] at p1
 have s5:=pj (st:=setAt 10) (ρ':=[S,some A.d,some (.int N),p3,p4,some (.tup (rs.map fun x:Nat=>.int (x:Int))),some (.int (x:Int)),some (.str (A.md x).face.x),some (.bl (A.md x).stays),some (.tup ((A.md x).rows.map lg)),some (.tup ((yR A x).modes.map Md.d)),some (.lst (Xs.map Bk.d))]) p1 rfl
 have s6:kO (kG (i3 (i8 kF (i4 1) (kI 0)) (i3 (i8 kF (i4 1) (kI 1)) (i3 (i4 10) i5)))) (setAt 4) [S,some A.d,some (.int N),p3,p4,some (.tup (rs.map fun x:Nat=>.int (x:Int))),some (.int (x:Int)),some (.str (A.md x).face.x),some (.bl (A.md x).stays),some (.tup ((A.md x).rows.map lg)),some (.tup ((yR A x).modes.map Md.d)),some (.lst (Xs.map Bk.d))]=some (.nx [S,some A.d,some (.int N),p3,some (yR A x).d,some (.tup (rs.map fun x:Nat=>.int (x:Int))),some (.int (x:Int)),some (.str (A.md x).face.x),some (.bl (A.md x).stays),some (.tup ((A.md x).rows.map lg)),some (.tup ((yR A x).modes.map Md.d)),some (.lst (Xs.map Bk.d))]):=pj (d:=(yR A x).d) (wx (x:=.int A.hold) (y:=.int A.back) rfl rfl rfl) rfl
 obtain⟨q3,t7⟩:=ux (S:=S) (a1:=some A.d) (a2:=some (.int N)) (L:=.lst (Xs.map Bk.d)) (FG oA hxn) (a5:=some (.tup (rs.map fun x:Nat=>.int (x:Int)))) (a6:=some (.int (x:Int))) (a7:=some (.str (A.md x).face.x)) (a8:=some (.bl (A.md x).stays)) (a9:=some (.tup ((A.md x).rows.map lg))) (a10:=some (.tup ((yR A x).modes.map Md.d))) ⟨u,hu,Fq hxn hux⟩ Xs p3 hX
 unfold vo
 rw[kN (pz rfl t1),kN s2,kN s3,kN s4,kN s5,kN s6,kN (pz rfl t7)]
 rfl
def y9:R->LD->Option (Out×LD):=(EF (lC EO (i6 ml (i3 (i8 kF (i4 1) (kI 2)) i5)) (kI 8))
  (Cc (uQ 11 (i6 aR (i3 (i4 1) (i3 (i8 mK (i4 2) (kI 8)) i5))))
  (uQ 11 (kG (i3 (i8 kF (i4 1) (kI 0)) (i3 (i8 kF (i4 1) (kI 1)) (i3 (i8 kY (i8 kF (i4 1) (kI 2)) (kG (i3 (kG (i3 (kS "laps") (i3 (fun _=>some (.bl true)) (i3 (i8 ut (kG (i3 (kG (i3 (kS "run") (i3 (i8 lB (i8 lB (i4 2) (kI 8)) (i6 ml (i3 (i8 kF (i4 1) (kI 2)) i5))) i5))) i5)) (kI 6)) i5)))) i5))) i5))))))
  Ac)
theorem j9{A:Bk}(oA:A.Ok){S:OD}{N:Int}{Xs:List Bk}(hl:Xs.length=3)(hX:∀X∈Xs,X.Ok/\rP A X):∃Ys:List Bk,(∀X∈Ys,X.Ok/\rP A X)/\y9 [S,some A.d,some (.int N),none,none,none,none,none,none,none,none] (Xs.map Bk.d)=some (.nx [S,some A.d,some (.int N),none,none,none,none,none,none,none,none],Ys.map Bk.d):=by
 have n8:=oA.some8
 have n1:=oA.some1
 have ln:i6 ml (i3 (i8 kF (i4 1) (kI 2)) i5) [S,some A.d,some (.int N),none,none,none,none,none,none,none,none]=some (.int (A.modes.length:Int)):=by
  refine lS (x:=.tup (A.modes.map Md.d)) rfl ?_
  show some (D.int ((A.modes.map Md.d).length:Int))=_
  rw[List.length_map]
 have c:lC EO (i6 ml (i3 (i8 kF (i4 1) (kI 2)) i5)) (kI 8) [S,some A.d,some (.int N),none,none,none,none,none,none,none,none]=some (decide ((A.modes.length:Int)<8)):=wz ln rfl rfl
 by_cases h8:A.modes.length<8
 ·rw[decide_eq_true (by omega)] at c
  obtain⟨T,oT,nT,eT⟩:=jd oA h8 (N / 8)
  obtain⟨x,ex,hx⟩:=vk (N%8) n1
  have oM:=Cf oA h8 hx
  have nM:=An oA ⟨.laps,true,List.replicate 6 (.run,x)⟩ A.hold A.back
  generalize hM:(⟨A.hold,A.back,A.modes++[⟨.laps,true,List.replicate 6 (.run,x)⟩]⟩:Bk)=M at oM nM
  refine⟨Xs++[T,M],fun X hXm=>?_,?_⟩
  ·rcases List.mem_append.mp hXm with z | z
   ·exact hX X z
   ·rcases List.mem_cons.mp z with rfl | z
    ·exact⟨oT,nT⟩
    ·rw[List.mem_singleton.mp z];exact⟨oM,nM⟩
  ·have f1:i6 aR (i3 (i4 1) (i3 (i8 mK (i4 2) (kI 8)) i5)) [S,some A.d,some (.int N),none,none,none,none,none,none,none,none]=some T.d:=mT (mZ rfl (mZ rfl rfl)) eT
   have hm:i8 lB (i8 lB (i4 2) (kI 8)) (i6 ml (i3 (i8 kF (i4 1) (kI 2)) i5)) [S,some A.d,some (.int N),none,none,none,none,none,none,none,none]=some (.int (x:Int)):=by
    refine yV (x:=.int (N%8)) rfl ln ?_
    show(if (0:Int)<(A.modes.length:Int) then some (D.int (N%8%(A.modes.length:Int))) else none)=_
    rw[if_pos (by omega),ex]
   have hrow:i8 ut (kG (i3 (kG (i3 (kS "run") (i3 (i8 lB (i8 lB (i4 2) (kI 8)) (i6 ml (i3 (i8 kF (i4 1) (kI 2)) i5))) i5))) i5)) (kI 6) [S,some A.d,some (.int N),none,none,none,none,none,none,none,none]=some (.tup ((List.replicate 6 (lN.run,x)).map lg)):=by
    refine yV (tupS (mZ (tupS (mZ rfl (mZ hm rfl))) rfl)) rfl ?_
    rfl
   have f2:kG (i3 (i8 kF (i4 1) (kI 0)) (i3 (i8 kF (i4 1) (kI 1)) (i3 (i8 kY (i8 kF (i4 1) (kI 2)) (kG (i3 (kG (i3 (kS "laps") (i3 (fun _=>some (.bl true)) (i3 (i8 ut (kG (i3 (kG (i3 (kS "run") (i3 (i8 lB (i8 lB (i4 2) (kI 8)) (i6 ml (i3 (i8 kF (i4 1) (kI 2)) i5))) i5))) i5)) (kI 6)) i5)))) i5))) i5))) [S,some A.d,some (.int N),none,none,none,none,none,none,none,none]=some M.d:=by
    rw[<- hM]
    refine(wx (x:=.int A.hold) (y:=.int A.back) rfl rfl (yV (x:=.tup (A.modes.map Md.d)) rfl (tupS (mZ (tupS (mZ rfl (mZ rfl (mZ hrow rfl)))) rfl)) (Av (by rw[List.length_map];show _+1<=1000;omega)))).trans ?_
    unfold Bk.d
    rw[List.map_append]
    rfl
   have b1:uQ 11 (i6 aR (i3 (i4 1) (i3 (i8 mK (i4 2) (kI 8)) i5))) [S,some A.d,some (.int N),none,none,none,none,none,none,none,none] (Xs.map Bk.d)=some (.nx [S,some A.d,some (.int N),none,none,none,none,none,none,none,none],Xs.map Bk.d++[T.d]):=by
    unfold uQ
    rw[f1,Option.bind_some,if_pos ⟨rfl,by rw[List.length_map,hl];decide⟩]
   have b2:uQ 11 (kG (i3 (i8 kF (i4 1) (kI 0)) (i3 (i8 kF (i4 1) (kI 1)) (i3 (i8 kY (i8 kF (i4 1) (kI 2)) (kG (i3 (kG (i3 (kS "laps") (i3 (fun _=>some (.bl true)) (i3 (i8 ut (kG (i3 (kG (i3 (kS "run") (i3 (i8 lB (i8 lB (i4 2) (kI 8)) (i6 ml (i3 (i8 kF (i4 1) (kI 2)) i5))) i5))) i5)) (kI 6)) i5)))) i5))) i5)))) [S,some A.d,some (.int N),none,none,none,none,none,none,none,none] (Xs.map Bk.d++[T.d])=some (.nx [S,some A.d,some (.int N),none,none,none,none,none,none,none,none],Xs.map Bk.d++[T.d]++[M.d]):=by
    unfold uQ
    rw[f2,Option.bind_some,if_pos ⟨rfl,by rw[List.length_append,List.length_map,hl];exact(show 3+1<sizeLine by decide)⟩]
   unfold y9 EF
   rw[c,Option.bind_some,if_pos rfl]
   unfold Cc
   rw[b1,Option.bind_some]
   refine b2.trans ?_
   rw[List.map_append,List.append_assoc]
   rfl
 ·rw[decide_eq_false (by omega)] at c
  refine⟨Xs,hX,?_⟩
  unfold y9 EF
  rw[c,Option.bind_some,if_neg Bool.false_ne_true]
  rfl
theorem AB(ns:List Int)(_:ns.length<=63):cV [.fro (ns.map .int)]=some (.bl true):=by
 obtain⟨n0,e0,_⟩:=sE ns 0 (by decide)
 obtain⟨n1,e1,_⟩:=sE ns 1 (by decide)
 obtain⟨bd,hb,hbo,_⟩:=gq n0
 obtain⟨A,rfl,hA⟩:=iN hbo
 obtain⟨L,eL,oL,nL,_,_⟩:=kr hA
 generalize hS:D.fro (ns.map .int)=S at *
 have m2:∀(i:Int) (n:Int),aG [S,.int i]=some (.int n)->∀r:R,i6 aG (i3 (i4 0) (i3 (kI i) i5)) (some S::r)=some (.int n):=fun i n h r=>h
 have s1:kO (i6 be (i3 (i6 aG (i3 (i4 0) (i3 (kI 0) i5))) i5)) (setAt 1) [some S,none,none,none,none,none,none,none,none,none,none,none]=some (.nx [some S,some A.d,none,none,none,none,none,none,none,none,none,none]):=pj (mT (mZ (m2 0 n0 e0 _) rfl) hb) rfl
 have s2:kO (i6 aG (i3 (i4 0) (i3 (kI 1) i5))) (setAt 2) [some S,some A.d,none,none,none,none,none,none,none,none,none,none]=some (.nx [some S,some A.d,some (.int n1),none,none,none,none,none,none,none,none,none]):=pj (m2 1 n1 e1 _) rfl
 unfold cV via iu
 rw[if_pos (show [S].length=1 from rfl)]
 show k_ (kP _ _ [some S,none,none,none,none,none,none,none,none,none,none,none])=_
 rw[kN s1,kN s2]
 show k_ (qm 11 (i4 1) (i3 (i4 1) (i3 (i4 2) i5)) (i6 bv (i3 (i4 1) i5)) 10 2 lj aN (wd y9 (vP vo)) [some S,some A.d,some (.int n1),none,none,none,none,none,none,none,none,none])=_
 have al:AllIn 10 2 lj aN 11 (wd y9 (vP vo)) [some S,some A.d,some (.int n1),none,none,none,none,none,none,none,none,none] [A.d,.int n1] A.d L.d (.rt (.bl true)):=
  ⟨rfl,AN hA n1,fun p hp=>by
   obtain⟨B,oB,nB,e⟩:=w8 hA n1 hp
   refine⟨B.d,e,?_⟩
   have nA:rP A A:=nL.trans nL.symm
   obtain⟨Ys,hY,ea⟩:=j9 hA (S:=some S) (N:=n1) (Xs:=[A,B,L]) rfl fun X hX=>by
    rcases List.mem_cons.mp hX with rfl | hX
    ·exact⟨hA,nA⟩
    rcases List.mem_cons.mp hX with rfl | hX
    ·exact⟨oB,nB⟩
    rw[List.mem_singleton.mp hX];exact⟨oL,nL⟩
   show(y9 [some S,some A.d,some (.int n1),none,none,none,none,none,none,none,none] ([A,B,L].map Bk.d)).bind _=_
   rw[ea,Option.bind_some]
   exact iA hA hY⟩
 rw[xC (x:=A.d) (ds:=[A.d,.int n1]) (z:=L.d) rfl rfl (mT (mZ rfl rfl) eL) rfl al];rfl
end
end HW
set_option maxRecDepth 100000
namespace HW
open PySem PySem.Spec PyProof.Rows L2
variable{P:Program}{w:World}{K:W.Frag}{mg:Str->Option Value}{base:Heap}{k:Nat}{f:Addr}{fd:FuncData}
abbrev et:Stmt:=top 4
theorem gU:kL ["mode"] ["mode"] (i7 et):=r_
theorem h_(Fn:qa K "nexts" "nexts" et f fd):kT P w K mg base mi (k+1) f fd ["mode"] (rS K aZ):=by
 refine aV Fn gU ?_
 intro _ _ _ _ _ _ hr
 refine az ?_
 refine aT ?_
 refine cu (T:=["row"]) rfl ?_ ?_ ?_ (fun C s₃ H₃ fp hTC=>(ao (ac 0) af)) (lH (by decide)) (show List.Nodup ((["row"]:List Str)++(["mode"]:List Str)) from by decide +kernel)
 ·exact bj (ao (ac 0) af)
 ·intro C s₃ H₃ fp hTC
  exact ag 0 (show List.Nodup (["row" ,"mode"]:List Str) from by decide +kernel)
 intro C s₃ H₃ fp hTC
 exact bR
abbrev bV:Stmt:=top 10
theorem dI:kL ["one","other"] ["one","other"] (i7 bV):=r_
theorem dH(mP:mL P w K mg base k "nexts" ["mode"] aZ)(rj:mg "list" = none)(Bf:mg "zip" = none)(Fn:qa K "pair_nexts" "pair_nexts" bV f fd):kT P w K mg base mi (k+1) f fd ["one","other"] (rS K aU):=by
 refine aV Fn dI ?_
 intro _ _ _ _ _ _ hr
 refine az ?_
 refine aT ?_
 refine iY rfl rj Bf ?_ ?_
 ·exact aA mP hr (aa (ac 0) ae)
 exact aA mP hr (aa (ac 1) ae)
abbrev bq:Stmt:=top 18
theorem cD:kL ["mode","heads"] ["mode","heads"] (i7 bq):=r_
theorem cH(mP:mL P w K mg base k "nexts" ["mode"] aZ)(Fn:qa K "heads_of_nexts" "heads_of_nexts" bq f fd):kT P w K mg base mi (k+1) f fd ["mode","heads"] (rS K aq):=by
 refine aV Fn cD ?_
 intro _ _ _ _ _ _ hr
 refine az ?_
 refine aT ?_
 refine cu (T:=["number"]) rfl ?_ ?_ ?_ (fun C s₃ H₃ fp hTC=>(ao (ac 2) (ac 0))) (lH (by decide)) (show List.Nodup ((["number"]:List Str)++(["mode" ,"heads"]:List Str)) from by decide +kernel)
 ·refine bj ?_
  exact aA mP hr (aa (ac 0) ae)
 ·intro C s₃ H₃ fp hTC
  exact ag 0 (show List.Nodup (["number" ,"mode" ,"heads"]:List Str) from by decide +kernel)
 intro C s₃ H₃ fp hTC
 exact bR
abbrev bY:Stmt:=top 23
theorem pM:kL ["_law_number","_law_k","_law_drawn_here"] ["_law_number","_law_k"] (i7 bY):=r_
theorem dN(Fn:qa K "_law_drawn" "_law_drawn" bY f fd):kT P w K mg base mi (k+1) f fd ["_law_number","_law_k"] (rS K av):=by
 refine aV Fn pM ?_
 intro _ _ _ _ _ _ hr
 refine ak ?_ ?_
 ·refine aF ?_ ?_
  ·refine ar aW ?_ af
   refine ar bZ ?_ af
   refine ar aI ?_ af
   refine ar aI (ac 0) ?_
   exact ar bZ af (ac 1)
  exact ag 2 pM.nd
 refine az ?_
 refine aT ?_
 refine ar aW ?_ af
 refine ar aI ?_ (ac 1)
 refine ar aI ?_ ?_
 ·exact ar bZ (ac 2) (ac 2)
 exact ar bZ af (ac 2)
theorem E1{P:Program}{w:World}{K:W.Frag}{mg:Str->Option Value}{base:Heap}{k:Nat}(mP:mL P w K mg base k "nexts" ["mode"] aZ):nJ P w K mg base (k+1) x9 (pd 2 Aw):=by
 refine vm (t:=x9) (g:=Aw) (fun cl f cd A outer s H E S hr=>?_) (vq fun _ _ _ _ us hl=>by obtain⟨x0,rfl⟩:=ER (us:=us) hl;rfl)
 exact(aA mP hr (aa (ao (ao (ac 1) af) (ac 0)) ae))
theorem EH{P:Program}{w:World}{K:W.Frag}{mg:Str->Option Value}{base:Heap}{k:Nat}(oR:mL P w K mg base k "pair_nexts" ["one","other"] aU):nJ P w K mg base (k+1) xX (pd 3 Ar):=by
 refine vm (t:=xX) (g:=Ar) (fun cl f cd A outer s H E S hr=>?_) (vq fun _ _ _ _ us hl=>by obtain⟨x0,rfl⟩:=ER (us:=us) hl;rfl)
 exact(aA oR hr (aa (ao (ao (ac 2) af) (ao (ac 0) af)) (aa (ao (ao (ac 1) af) (ao (ac 0) af)) ae)))
theorem E4{P:Program}{w:World}{K:W.Frag}{mg:Str->Option Value}{base:Heap}{k:Nat}(ll:mL P w K mg base k "heads_of_nexts" ["mode","heads"] aq):nJ P w K mg base (k+1) xA (pd 3 AQ):=by
 refine vm (t:=xA) (g:=AQ) (fun cl f cd A outer s H E S hr=>?_) (vq fun _ _ _ _ us hl=>by obtain⟨x0,rfl⟩:=ER (us:=us) hl;rfl)
 exact(aA ll hr (aa (ao (ac 1) (ac 0)) (aa (ac 2) ae)))
theorem CU{P:Program}{w:World}{K:W.Frag}{mg:Str->Option Value}{base:Heap}{k:Nat}(la:mL P w K mg base k "_law_drawn" ["_law_number","_law_k"] av):nJ P w K mg base (k+1) Em (pd 2 zZ):=by
 refine vm (t:=Em) (g:=zZ) (fun cl f cd A outer s H E S hr=>?_) (vq fun _ _ _ _ us hl=>by obtain⟨x0,rfl⟩:=ER (us:=us) hl;rfl)
 exact(aA la hr (aa (ac 1) (aa (ac 0) ae)))
abbrev bG:Stmt:=top 6
theorem lU:kL ["ways","newest","nexts_of","place","ends","number","found"] ["ways","newest","nexts_of"] (i7 bG):=r_
theorem cY(ly:mg "len" = none)(lG:mg "range" = none)(my:E2 K mg "PRESSES" aJ)(LO:Ff P w K mg base k LL)(Fn:qa K "one_press_on" "one_press_on" bG f fd):kT P w K mg base mi (k+1) f fd ["ways","newest","nexts_of"] (Ge P w K 3 au):=by
  refine jn Fn lU ?_
  intro _ _ _ _ _ _ hr
  exact(B0 6 lU.nd
  (Ah PassesOwn.never rfl (bj (ac 1)) (ag 3 lU.nd)
  (wm (Br (aF (gR 2 LO hr (aa (ac 3) ae)) (ag 4 lU.nd)))
  (uZ (Ah PassesOwn.never rfl (cJ lG (aX bN ly (aa (eQ my) ae))) (ag 5 lU.nd)
  (uZ (FD (Au 0 (vE hr) (ao (ac 4) (ac 5)))
  (wm (DO 0 (vE hr) (ao (ac 4) (ac 5)) (EL aI (Da 0 (vE hr) (ac 3)) (ED (ao (eQ my) (ac 5)))))
  (uZ (Dd 6 (ao (ac 4) (ac 5)))))
  Bu)))))))
abbrev bU:Stmt:=top 5
theorem pO:kL ["start","nexts_of","ways","newest"] ["start","nexts_of"] (i7 bU):=r_
theorem dM(ly:mg "len" = none)(nq:zj P w K mg base k "one_press_on" ["ways","newest","nexts_of"] au)(Fn:qa K "first_ways" "first_ways" bU f fd):kT P w K mg base mi (k+1) f fd ["start","nexts_of"] (rS K ay):=by
 refine aV Fn pO ?_
 intro _ _ _ _ _ _ hr
 refine jB 4 0 1 2 3 PassesOwn.never nq rfl hr pO.nd ?_ aS (fun _ _ _ r=>r)
 refine bu kg ?_ af
 exact aX bN ly (aa (ac 3) ae)
abbrev aO:Stmt:=top 3
theorem en:kL ["book","mode"] ["book","mode"] (i7 aO):=r_
theorem dY{ts:List kR}{ct:kR}(li:mL P w K mg base k "first_ways" ["start","nexts_of"] ay)(hct:ct∈ts)(hq:ct.q=("ways_from.<locals>.<lambda>" : Str))(TB:lz mg [ct] base)(Fn:tZ K "ways_from" "ways_from" aO f fd ct.c):kT P w K mg base mi (k+1) f fd ["book","mode"] (sY K bb ts):=by
 refine kT.tabs hct ?_
 refine dZ Fn en fc ?_ eZ
 intro A outer s H E hr hT
 have Lm1:=wA (X:=(pK mi P w K mg base ["book","mode"] "ways_from" (i7 aO) f (.ref ct.c) A outer s H E).nox) (t:=x9) (ct:=ct) (x:="book") (c:=s.heap.objs.size+1) (j:=0) TB hT hq.symm rfl hq.symm (fun _=>rfl) rfl rfl rfl rfl rfl rfl rfl rfl (by decide) rfl (by decide +kernel) (by decide +kernel) rfl (by decide +kernel)
 refine az ?_
 refine aT ?_
 exact cO li hr Lm1 (tG (ac 1) (xt Lm1))
abbrev ej:Stmt:=top 2
theorem ik:kL ["book"] ["book"] (i7 ej):=r_
theorem gQ{ts:List kR}(pE:mI P w K mg base k "ways_from" ["book","mode"] bb ts)(oC:mg "sorted" = none)(mh:mg "tuple" = none)(Fn:qa K "reach" "reach" ej f fd):kT P w K mg base mi (k+1) f fd ["book"] (sY K bC ts):=by
 refine du Fn ik iQ ?_ iZ
 intro cdv A outer s H E hr hT
 refine az ?_
 refine aT ?_
 refine cE cG mh ?_
 refine aa ?_ ae
 refine iJ rfl oC ?_
 exact aY pE hr hT (aa (ac 0) (aa af ae))
abbrev eB:Stmt:=top 12
theorem ib:kL ["mode"] ["mode"] (i7 eB):=r_
theorem iD(Fn:qa K "looks" "looks" eB f fd):kT P w K mg base mi (k+1) f fd ["mode"] (rS K a_):=by
 refine aV Fn ib ?_
 intro _ _ _ _ _ _ hr
 refine az ?_
 refine aT ?_
 refine ax ?_
 exact aa (ao (ac 0) af) (aa (ao (ac 0) af) ae)
abbrev cy:Stmt:=top 13
theorem eY:kL ["mode"] ["mode"] (i7 cy):=r_
theorem eS(Fn:qa K "deeds_of" "deeds_of" cy f fd):kT P w K mg base mi (k+1) f fd ["mode"] (rS K aC):=by
 refine aV Fn eY ?_
 intro _ _ _ _ _ _ hr
 refine az ?_
 refine aT ?_
 refine cu (T:=["row"]) rfl ?_ ?_ ?_ (fun C s₃ H₃ fp hTC=>(ao (ac 0) af)) (lH (by decide)) (show List.Nodup ((["row"]:List Str)++(["mode"]:List Str)) from by decide +kernel)
 ·exact bj (ao (ac 0) af)
 ·intro C s₃ H₃ fp hTC
  exact ag 0 (show List.Nodup (["row" ,"mode"]:List Str) from by decide +kernel)
 intro C s₃ H₃ fp hTC
 exact bR
abbrev cz:Stmt:=top 11
theorem fo:kL ["one","other"] ["one","other"] (i7 cz):=r_
theorem fh(mv:mL P w K mg base k "deeds_of" ["mode"] aC)(oU:mL P w K mg base k "looks" ["mode"] a_)(ly:mg "len" = none)(lG:mg "range" = none)(my:E2 K mg "PRESSES" aJ)(Fn:qa K "partings" "partings" cz f fd):kT P w K mg base mi (k+1) f fd ["one","other"] (rS K bf):=by
 refine aV Fn fo ?_
 intro _ _ _ _ _ _ hr
 refine ak ?_ ?_
 ·refine gp ?_ ?_ cQ
  ·refine bu (ip hr) ?_ ?_
   ·exact aA oU hr (aa (ac 0) ae)
   exact aA oU hr (aa (ac 1) ae)
  refine az ?_
  refine aT ?_
  exact iL (aa aS ae)
 refine az ?_
 refine aT ?_
 refine cu (T:=["number"]) rfl ?_ ?_ ?_ (fun C s₃ H₃ fp hTC=>(ao (eQ my) (ac 0))) (lH (by decide)) (show List.Nodup ((["number"]:List Str)++(["one" ,"other"]:List Str)) from by decide +kernel)
 ·refine cJ lG ?_
  exact aX bN ly (aa (eQ my) ae)
 ·intro C s₃ H₃ fp hTC
  exact ag 0 (show List.Nodup (["number" ,"one" ,"other"]:List Str) from by decide +kernel)
 intro C s₃ H₃ fp hTC
 refine j7 ?_
 refine bu (jH hr) ?_ ?_
 ·refine ao ?_ (ac 0)
  exact aA mv hr (aa (ac 1) ae)
 refine ao ?_ (ac 0)
 exact aA mv hr (aa (ac 2) ae)
abbrev bA:Stmt:=top 9
theorem qw:kL ["one","other","ways","pair","texts"] ["one","other"] (i7 bA):=r_
theorem gW{ts:List kR}{ct:kR}(li:mL P w K mg base k "first_ways" ["start","nexts_of"] ay)(qf:mL P w K mg base k "partings" ["one","other"] bf)(ly:mg "len" = none)(Bg:mg "min" = none)(hct:ct∈ts)(hq:ct.q=("parts.<locals>.<lambda>" : Str))(TB:lz mg [ct] base)(Fn:tZ K "parts" "parts" bA f fd ct.c):kT P w K mg base mi (k+1) f fd ["one","other"] (sY K aM ts):=by
 refine kT.tabs hct ?_
 refine dZ Fn qw jq ?_ ja
 intro A outer s H E hr hT
 have Lm2:=wf (X:=(pK mi P w K mg base ["one","other","ways","pair","texts"] "parts" (i7 bA) f (.ref ct.c) A outer s H E).nox) (t:=xX) (ct:=ct) (x:="other") (y:="one") (c:=s.heap.objs.size+2) (d:=s.heap.objs.size+1) (j:=1) (l:=0) TB hT hq.symm rfl hq.symm (fun _=>rfl) rfl rfl rfl rfl rfl rfl rfl rfl (by decide) (fun h=>absurd (Nat.add_left_cancel h) (by decide)) rfl rfl rfl (by decide) rfl (by decide +kernel) (by decide +kernel) rfl rfl (by decide +kernel)
 refine ak ?_ ?_
 ·refine aF ?_ ?_
  ·exact cO li hr Lm2 (tG (ax (aa af (aa af ae))) (xt Lm2))
  exact ag 2 qw.nd
 refine j3 4 qw.nd ae ?_
 refine fM ?_ ?_
 ·refine jM PassesOwn.never rfl ?_ ?_ ?_
  ·exact j5 (ac 2)
  ·exact ag 3 qw.nd
  refine fP ?_
  refine jR 4 ?_
  refine cu (T:=["last"]) rfl ?_ ?_ ?_ ?_ (lH (by decide)) (show List.Nodup ((["last"]:List Str)++(["one" ,"other" ,"ways" ,"pair" ,"texts"]:List Str)) from by decide +kernel)
  ·refine bj ?_
   refine aA qf hr ?_
   refine aa (ao (ao (ac 0) af) (ao (ac 3) af)) ?_
   exact aa (ao (ao (ac 1) af) (ao (ac 3) af)) ae
  ·intro C s₃ H₃ fp hTC
   exact ag 0 (show List.Nodup (["last" ,"one" ,"other" ,"ways" ,"pair" ,"texts"]:List Str) from by decide +kernel)
  ·intro C s₃ H₃ fp hTC
   exact bR
  intro C s₃ H₃ fp hTC
  refine ar aI ?_ (ac 0)
  exact jz (vE hr) (ac 3) (ac 4)
 refine ii ?_
 refine az ?_
 refine aT ?_
 exact jb rfl Bg ly (ac 4)
abbrev ca:Stmt:=top 8
theorem ez:kL ["one","other"] ["one","other"] (i7 ca):=r_
theorem dU{ts:List kR}(nK:mI P w K mg base k "parts" ["one","other"] aM ts)(Fn:qa K "are_alike" "are_alike" ca f fd):kT P w K mg base mi (k+1) f fd ["one","other"] (sY K aB ts):=by
 refine du Fn ez fm ?_ fe
 intro cdv A outer s H E hr hT
 refine az ?_
 refine aT ?_
 refine gS j_ ?_ im
 exact aY nK hr hT (aa (ac 0) (aa (ac 1) ae))
abbrev bE:Stmt:=top 17
theorem cZ:kL ["things"] ["things"] (i7 bE):=r_
theorem c_(Fn:qa K "first_places" "first_places" bE f fd):kT P w K mg base mi (k+1) f fd ["things"] (rS K aH):=by
 refine aV Fn cZ ?_
 intro _ _ _ _ _ _ hr
 refine az ?_
 refine aT ?_
 refine cu (T:=["thing"]) rfl ?_ ?_ ?_ ?_ (lH (by decide)) (show List.Nodup ((["thing"]:List Str)++(["things"]:List Str)) from by decide +kernel)
 ·exact bj (ac 0)
 ·intro C s₃ H₃ fp hTC
  exact ag 0 (show List.Nodup (["thing" ,"things"]:List Str) from by decide +kernel)
 ·intro C s₃ H₃ fp hTC
  exact bR
 intro C s₃ H₃ fp hTC
 exact jC hr (ac 1) (aa (ac 0) ae)
abbrev bP:Stmt:=top 16
theorem dB:kL ["modes","heads"] ["modes","heads"] (i7 bP):=r_
theorem dC(lM:mL P w K mg base k "first_places" ["things"] aH)(ll:mL P w K mg base k "heads_of_nexts" ["mode","heads"] aq)(ly:mg "len" = none)(lG:mg "range" = none)(Fn:qa K "parted_once" "parted_once" bP f fd):kT P w K mg base mi (k+1) f fd ["modes","heads"] (rS K aK):=by
 refine aV Fn dB ?_
 intro _ _ _ _ _ _ hr
 refine az ?_
 refine aT ?_
 refine aA lM hr ?_
 refine aa ?_ ae
 refine cu (T:=["number"]) rfl ?_ ?_ ?_ ?_ (lH (by decide)) (show List.Nodup ((["number"]:List Str)++(["modes" ,"heads"]:List Str)) from by decide +kernel)
 ·refine cJ lG ?_
  exact aX bN ly (aa (ac 0) ae)
 ·intro C s₃ H₃ fp hTC
  exact ag 0 (show List.Nodup (["number" ,"modes" ,"heads"]:List Str) from by decide +kernel)
 ·intro C s₃ H₃ fp hTC
  exact bR
 intro C s₃ H₃ fp hTC
 refine ax ?_
 refine aa (ao (ac 2) (ac 0)) ?_
 refine aa ?_ ae
 exact aA ll hr (aa (ao (ac 1) (ac 0)) (aa (ac 2) ae))
abbrev bM:Stmt:=top 15
theorem lZ:kL ["modes","heads","finer"] ["modes"] (i7 bM):=r_
theorem dD(mv:mL P w K mg base k "deeds_of" ["mode"] aC)(lM:mL P w K mg base k "first_places" ["things"] aH)(oU:mL P w K mg base k "looks" ["mode"] a_)(mQ:mL P w K mg base k "parted_once" ["modes","heads"] aK)(Fn:qa K "alike_heads" "alike_heads" bM f fd):kT P w K mg base mi (k+1) f fd ["modes"] (rS K bi):=by
 refine aV Fn lZ ?_
 intro _ _ _ _ _ _ hr
 refine ak ?_ ?_
 ·refine aF ?_ ?_
  ·refine aA lM hr ?_
   refine aa ?_ ae
   refine cu (T:=["mode"]) rfl ?_ ?_ ?_ ?_ (lH (by decide)) (show List.Nodup ((["mode"]:List Str)++(["modes" ,"heads" ,"finer"]:List Str)) from by decide +kernel)
   ·exact bj (ac 0)
   ·intro C s₃ H₃ fp hTC
    exact ag 0 (show List.Nodup (["mode" ,"modes" ,"heads" ,"finer"]:List Str) from by decide +kernel)
   ·intro C s₃ H₃ fp hTC
    exact bR
   intro C s₃ H₃ fp hTC
   refine ax ?_
   refine aa ?_ ?_
   ·exact aA oU hr (aa (ac 0) ae)
   refine aa ?_ ae
   exact aA mv hr (aa (ac 0) ae)
  exact ag 1 lZ.nd
 refine ak ?_ ?_
 ·refine aF ?_ ?_
  ·exact aA mQ hr (aa (ac 0) (aa (ac 1) ae))
  exact ag 2 lZ.nd
 refine ak ?_ ?_
 ·refine ie 20 PassesOwn.never ?_ ?_
  ·exact bu (ip hr) (ac 2) (ac 1)
  refine ak ?_ ?_
  ·refine aF (ac 2) ?_
   exact ag 1 lZ.nd
  refine az ?_
  refine aF ?_ ?_
  ·exact aA mQ hr (aa (ac 0) (aa (ac 1) ae))
  exact ag 2 lZ.nd
 refine az ?_
 exact aT (ac 1)
abbrev dA:Stmt:=top 19
theorem um:kL ["mode","heads","order","rows"] ["mode","heads","order"] (i7 dA):=r_
theorem gl(mh:mg "tuple" = none)(Fn:qa K "led_by" "led_by" dA f fd):kT P w K mg base mi (k+1) f fd ["mode","heads","order"] (rS K bK):=by
 refine aV Fn um ?_
 intro _ _ _ _ _ _ hr
 refine ak ?_ ?_
 ·refine i_ (T:=["row"]) rfl (i:=3) um.nd ?_ ?_ ?_ ?_ (lH (by decide)) (show List.Nodup ((["row"]:List Str)++(["mode" ,"heads" ,"order" ,"rows"]:List Str)) from by decide +kernel)
  ·exact bj (ao (ac 0) af)
  ·intro C s₃ H₃ fp hTC
   exact ag 0 (show List.Nodup (["row" ,"mode" ,"heads" ,"order" ,"rows"]:List Str) from by decide +kernel)
  ·intro C s₃ H₃ fp hTC
   exact bR
  intro C s₃ H₃ fp hTC
  refine ax ?_
  refine aa (ao (ac 0) af) ?_
  refine aa ?_ ae
  exact gb (ac 3) (aa (ao (ac 2) (ao (ac 0) af)) ae)
 refine az ?_
 refine aT ?_
 refine ax ?_
 refine aa (ao (ac 0) af) ?_
 refine aa (ao (ac 0) af) ?_
 refine aa ?_ ae
 exact cE cG mh (aa (ac 3) ae)
abbrev bz:Stmt:=top 14
theorem qI:kL ["book","modes","heads","order"] ["book"] (i7 bz):=r_
theorem iI{ts:List kR}{ct:kR}(nV:mL P w K mg base k "alike_heads" ["modes"] bi)(li:mL P w K mg base k "first_ways" ["start","nexts_of"] ay)(tR:mL P w K mg base k "led_by" ["mode","heads","order"] bK)(rj:mg "list" = none)(mh:mg "tuple" = none)(hct:ct∈ts)(hq:ct.q=("least.<locals>.<lambda>" : Str))(TB:lz mg [ct] base)(Fn:tZ K "least" "least" bz f fd ct.c):kT P w K mg base mi (k+1) f fd ["book"] (sY K bv ts):=by
 refine kT.tabs hct ?_
 refine dZ Fn qI jg ?_ iR
 intro A outer s H E hr hT
 have Lm3:=wf (X:=(pK mi P w K mg base ["book","modes","heads","order"] "least" (i7 bz) f (.ref ct.c) A outer s H E).nox) (t:=xA) (ct:=ct) (x:="modes") (y:="heads") (c:=s.heap.objs.size+3) (d:=s.heap.objs.size+2) (j:=1) (l:=2) TB hT hq.symm rfl hq.symm (fun _=>rfl) rfl rfl rfl rfl rfl rfl rfl rfl (by decide) (fun h=>absurd (Nat.add_left_cancel h) (by decide)) rfl rfl rfl (by decide) rfl (by decide +kernel) (by decide +kernel) rfl rfl (by decide +kernel)
 refine ak ?_ ?_
 ·refine aF (ao (ac 0) af) ?_
  exact ag 1 qI.nd
 refine ak ?_ ?_
 ·refine aF ?_ ?_
  ·exact aA nV hr (aa (ac 1) ae)
  exact ag 2 qI.nd
 refine ak ?_ ?_
 ·refine aF ?_ ?_
  ·refine iH rfl rj ?_
   exact cO li hr Lm3 (tG af (xt Lm3))
  exact ag 3 qI.nd
 refine az ?_
 refine aT ?_
 refine ax ?_
 refine aa (ao (ac 0) af) ?_
 refine aa (ao (ac 0) af) ?_
 refine aa ?_ ae
 refine cE cG mh ?_
 refine aa ?_ ae
 refine cu (T:=["head"]) rfl ?_ ?_ ?_ ?_ (lH (by decide)) (show List.Nodup ((["head"]:List Str)++(["book" ,"modes" ,"heads" ,"order"]:List Str)) from by decide +kernel)
 ·exact bj (ac 3)
 ·intro C s₃ H₃ fp hTC
  exact ag 0 (show List.Nodup (["head" ,"book" ,"modes" ,"heads" ,"order"]:List Str) from by decide +kernel)
 ·intro C s₃ H₃ fp hTC
  exact bR
 intro C s₃ H₃ fp hTC
 refine aA tR hr ?_
 exact aa (ao (ac 2) (ac 0)) (aa (ac 3) (aa (ac 4) ae))
abbrev bJ:Stmt:=top 21
theorem da:kL ["_law_script","_law_k"] ["_law_script","_law_k"] (i7 bJ):=r_
theorem db(ly:mg "len" = none)(Fn:qa K "_law_cell_at" "_law_cell_at" bJ f fd):kT P w K mg base mi (k+1) f fd ["_law_script","_law_k"] (rS K aD):=by
 refine iq Fn da dE ?_ dj
 intro _ _ _ _ _ _ hr
 refine ak ?_ ?_
 ·refine gp ?_ ?_ cQ
  ·refine bu jK (ac 1) ?_
   exact aX bN ly (aa (ac 0) ae)
  refine az ?_
  exact aT (ao (ac 0) (ac 1))
 refine az ?_
 exact aT af
abbrev bW:Stmt:=top 22
theorem pS:kL ["_law_script","_law_k","_law_drawn_here"] ["_law_script","_law_k"] (i7 bW):=r_
theorem dJ(nr:mL P w K mg base k "_law_cell_at" ["_law_script","_law_k"] aD)(Fn:qa K "_law_mixed" "_law_mixed" bW f fd):kT P w K mg base mi (k+1) f fd ["_law_script","_law_k"] (rS K aG):=by
 refine aV Fn pS ?_
 intro _ _ _ _ _ _ hr
 refine ak ?_ ?_
 ·refine aF ?_ ?_
  ·refine ar aW ?_ af
   refine ar bZ ?_ af
   refine ar aI ?_ af
   refine ar aI ?_ ?_
   ·exact aA nr hr (aa (ac 0) (aa (ac 1) ae))
   exact ar bZ af (ac 1)
  exact ag 2 pS.nd
 refine az ?_
 refine aT ?_
 refine ar aW ?_ af
 refine ar aI ?_ (ac 1)
 refine ar aI ?_ ?_
 ·exact ar bZ (ac 2) (ac 2)
 exact ar bZ af (ac 2)
abbrev cb:Stmt:=top 24
theorem kX:kL ["_law_number","_law_many","_law_deeds","_law_modes","_law_k","_law_drawn_here","_law_rows","_law_j","_law_one","_law_face"] ["_law_number"] (i7 cb):=r_
theorem eJ(la:mL P w K mg base k "_law_drawn" ["_law_number","_law_k"] av)(lG:mg "range" = none)(Fn:qa K "_law_book" "_law_book" cb f fd):kT P w K mg base mi (k+1) f fd ["_law_number"] (rS K be):=by
 refine aV Fn kX ?_
 intro _ _ _ _ _ _ hr
 refine ak ?_ ?_
 ·refine aF ?_ ?_
  ·refine ar aI af ?_
   exact ar aW (ac 0) af
  exact ag 1 kX.nd
 refine ak ?_ ?_
 ·refine aF ?_ ?_
  ·refine ax ?_
   refine aa aS ?_
   refine aa aS ?_
   refine aa aS ?_
   refine aa aS ?_
   refine aa aS ?_
   refine aa aS ?_
   refine aa aS ?_
   refine aa aS ?_
   exact aa aS (aa aS (aa aS (aa aS ae)))
  exact ag 2 kX.nd
 refine ak ?_ ?_
 ·refine aF ?_ ?_
  ·exact ax ae
  exact ag 3 kX.nd
 refine ak ?_ ?_
 ·refine cW PassesOwn.never rfl ?_ ?_ ?_
  ·exact cJ lG (ac 1)
  ·exact ag 4 kX.nd
  refine ak ?_ ?_
  ·refine aF ?_ ?_
   ·refine ar bQ ?_ af
    exact aA la hr (aa (ac 0) (aa (ac 4) ae))
   exact ag 5 kX.nd
  refine ak ?_ ?_
  ·refine aF ?_ ?_
   ·exact ax ae
   exact ag 6 kX.nd
  refine ak ?_ ?_
  ·refine cW PassesOwn.never rfl ?_ ?_ ?_
   ·exact cJ lG af
   ·exact ag 7 kX.nd
   refine ak ?_ ?_
   ·refine aF ?_ ?_
    ·refine ar bQ ?_ af
     refine aA la hr ?_
     refine aa (ac 5) ?_
     refine aa ?_ ae
     exact ar aI af (ac 7)
    exact ag 8 kX.nd
   refine az ?_
   refine aF ?_ ?_
   ·refine ar aI (ac 6) ?_
    refine ax ?_
    refine aa ?_ ae
    refine ax ?_
    refine aa ?_ ?_
    ·refine ao ?_ ?_
     ·refine ar aI (ac 2) ?_
      exact ax (aa aS ae)
     exact ar aW (ac 8) af
    refine aa ?_ ae
    refine ar aW ?_ (ac 1)
    exact ar bQ (ac 8) af
   exact ag 6 kX.nd
  refine ak ?_ ?_
  ·refine aF ?_ ?_
   ·refine ao ?_ ?_
    ·refine ax ?_
     exact aa aS (aa aS (aa aS (aa aS ae)))
    exact ar aW (ac 5) af
   exact ag 9 kX.nd
  refine az ?_
  refine aF ?_ ?_
  ·refine ar aI (ac 3) ?_
   refine ax ?_
   refine aa ?_ ae
   refine ax ?_
   refine aa (ac 9) ?_
   refine aa ?_ (aa (ac 6) ae)
   refine gS (gM hr) ?_ af
   refine ar aW ?_ af
   exact ar bQ (ac 5) af
  exact ag 3 kX.nd
 refine az ?_
 refine aT ?_
 refine ax ?_
 refine aa ?_ ?_
 ·refine ar aI af ?_
  refine ar aW ?_ ?_
  ·exact ar bQ (ac 0) af
  refine ao ?_ ?_
  ·exact ax (aa af (aa af ae))
  refine ar aW ?_ af
  exact ar bQ (ac 0) af
 refine aa ?_ (aa (ac 3) ae)
 refine ao ?_ ?_
 ·refine ax ?_
  refine aa af ?_
  exact aa af (aa af (aa af (aa af ae)))
 refine ar aW ?_ af
 exact ar bQ (ac 0) af
abbrev aE:Stmt:=top 25
theorem kW:kL ["_law_book_here","_law_number","_law_many","_law_order","_law_modes","_law_mode","_law_face","_law_stays","_law_rows","_law_pairs"] ["_law_book_here","_law_number"] (i7 aE):=r_
theorem dl{ts:List kR}{ct:kR}(ly:mg "len" = none)(lG:mg "range" = none)(oC:mg "sorted" = none)(mh:mg "tuple" = none)(hct:ct∈ts)(hq:ct.q=("_law_turned.<locals>.<lambda>" : Str))(TB:lz mg [ct] base)(LO:nJ P w K mg base k Em (pd 2 zZ))(Fn:tZ K "_law_turned" "_law_turned" aE f fd ct.c):kT P w K mg base mi (k+2+1) f fd ["_law_book_here","_law_number"] (A4 K 10 lj aN 2 ts):=by
 refine gD Fn kW hct ?_
 intro A outer s H E hr hT
 have Lm4:=wA (X:=(pK mi P w K mg base ["_law_book_here","_law_number","_law_many","_law_order","_law_modes","_law_mode","_law_face","_law_stays","_law_rows","_law_pairs"] "_law_turned" (i7 aE) f (.ref ct.c) A outer s H E).nox) (t:=Em) (ct:=ct) (x:="_law_number") (c:=s.heap.objs.size+1) (j:=1) TB hT hq.symm rfl hq.symm (fun _=>rfl) rfl rfl rfl rfl rfl rfl rfl rfl (by decide) rfl (by decide +kernel) (by decide +kernel) rfl (by decide +kernel)
 refine jP (t:=Em) (zp:=⟨0,0,0,0⟩) ?_ Lm4 LO hr rfl rfl oC lG af (ac 2) ?_ ?_ ?_
 ·refine aF ?_ ?_
  ·exact aX bN ly (aa (ao (ac 0) af) ae)
  exact ag 2 kW.nd
 ·exact iL (aa af ae)
 ·exact ag 3 kW.nd
 refine ak ?_ ?_
 ·refine aF ?_ ?_
  ·exact ax ae
  exact ag 4 kW.nd
 refine ak ?_ ?_
 ·refine cW PassesOwn.never rfl ?_ ?_ ?_
  ·exact bj (ac 3)
  ·exact ag 5 kW.nd
  refine ak ?_ ?_
  ·refine aF (ao (ao (ac 0) af) (ac 5)) ?_
   refine cx rfl ?_
   refine aL ?_ ?_
   ·exact ag 6 kW.nd
   refine aL ?_ ?_
   ·exact ag 7 kW.nd
   refine aL ?_ bX
   exact ag 8 kW.nd
  refine ak ?_ ?_
  ·refine aF ?_ ?_
   ·refine cE cG mh ?_
    refine aa ?_ ae
    refine cu (T:=["_law_deed" ,"_law_goal"]) rfl ?_ ?_ ?_ ?_ (zt (by intro f hf;simp only[List.mem_cons,List.not_mem_nil,or_false] at hf;rcases hf with rfl | rfl<;>exact lH (by decide))) (show List.Nodup ((["_law_deed" ,"_law_goal"]:List Str)++(["_law_book_here" ,"_law_number" ,"_law_many" ,"_law_order" ,"_law_modes" ,"_law_mode" ,"_law_face" ,"_law_stays" ,"_law_rows" ,"_law_pairs"]:List Str)) from by decide +kernel)
    ·exact bj (ac 8)
    ·intro C s₃ H₃ fp hTC
     refine cx rfl ?_
     refine aL ?_ ?_
     ·exact ag 0 (show List.Nodup (["_law_deed" ,"_law_goal" ,"_law_book_here" ,"_law_number" ,"_law_many" ,"_law_order" ,"_law_modes" ,"_law_mode" ,"_law_face" ,"_law_stays" ,"_law_rows" ,"_law_pairs"]:List Str) from by decide +kernel)
     refine aL ?_ bX
     exact ag 1 (show List.Nodup (["_law_deed" ,"_law_goal" ,"_law_book_here" ,"_law_number" ,"_law_many" ,"_law_order" ,"_law_modes" ,"_law_mode" ,"_law_face" ,"_law_stays" ,"_law_rows" ,"_law_pairs"]:List Str) from by decide +kernel)
    ·intro C s₃ H₃ fp hTC
     exact bR
    intro C s₃ H₃ fp hTC
    refine ax ?_
    refine aa (ac 0) ?_
    refine aa ?_ ae
    exact gb (ac 5) (aa (ac 1) ae)
   exact ag 9 kW.nd
  refine az ?_
  refine aF ?_ ?_
  ·refine ar aI (ac 4) ?_
   refine ax ?_
   refine aa ?_ ae
   exact ax (aa (ac 6) (aa (ac 7) (aa (ac 9) ae)))
  exact ag 4 kW.nd
 refine az ?_
 refine aT ?_
 refine ax ?_
 refine aa (ao (ac 0) af) ?_
 refine aa ?_ (aa (ac 4) ae)
 exact ar aW (ac 1) af
abbrev b_:Stmt:=top 26
theorem kK:kL ["_law_book_here","_law_number","_law_many","_law_at","_law_modes","_law_k","_law_face","_law_stays","_law_rows","_law_pairs","_law_j","_law_deed","_law_goal"] ["_law_book_here","_law_number"] (i7 b_):=r_
theorem dL(la:mL P w K mg base k "_law_drawn" ["_law_number","_law_k"] av)(nN:mg "enumerate" = none)(ly:mg "len" = none)(Fn:qa K "_law_twice" "_law_twice" b_ f fd):kT P w K mg base mi (k+1) f fd ["_law_book_here","_law_number"] (rS K aR):=by
 refine aV Fn kK ?_
 intro _ _ _ _ _ _ hr
 refine ak ?_ ?_
 ·refine aF ?_ ?_
  ·exact aX bN ly (aa (ao (ac 0) af) ae)
  exact ag 2 kK.nd
 refine ak ?_ ?_
 ·refine aF ?_ ?_
  ·exact ar aW (ac 1) (ac 2)
  exact ag 3 kK.nd
 refine ak ?_ ?_
 ·refine aF ?_ ?_
  ·exact ax ae
  exact ag 4 kK.nd
 refine ak ?_ ?_
 ·refine cW PassesOwn.never rfl ?_ ?_ ?_
  ·refine fR nN ?_
   refine ar aI (ao (ac 0) af) ?_
   exact ax (aa (ao (ao (ac 0) af) (ac 3)) ae)
  ·refine cx rfl ?_
   refine aL ?_ ?_
   ·exact ag 5 kK.nd
   refine aL ?_ bX
   refine cx rfl ?_
   refine aL ?_ ?_
   ·exact ag 6 kK.nd
   refine aL ?_ ?_
   ·exact ag 7 kK.nd
   refine aL ?_ bX
   exact ag 8 kK.nd
  refine ak ?_ ?_
  ·refine aF ?_ ?_
   ·exact ax ae
   exact ag 9 kK.nd
  refine ak ?_ ?_
  ·refine cW PassesOwn.never rfl ?_ ?_ ?_
   ·exact fR nN (ac 8)
   ·refine cx rfl ?_
    refine aL ?_ ?_
    ·exact ag 10 kK.nd
    refine aL ?_ bX
    refine cx rfl ?_
    refine aL ?_ ?_
    ·exact ag 11 kK.nd
    refine aL ?_ bX
    exact ag 12 kK.nd
   refine ak ?_ ?_
   ·refine gp ?_ ?_ cQ
    ·refine gZ ?_
     refine jU ?_ ?_
     ·exact bu (gM hr) (ac 12) (ac 3)
     refine jc ?_
     refine bu (gM hr) ?_ af
     refine ar aW ?_ af
     refine ar bQ ?_ af
     refine aA la hr ?_
     refine aa (ac 1) ?_
     refine aa ?_ ae
     refine ar aI ?_ (ac 10)
     exact ar bZ af (ac 5)
    refine az ?_
    refine aF (ac 2) ?_
    exact ag 12 kK.nd
   refine az ?_
   refine aF ?_ ?_
   ·refine ar aI (ac 9) ?_
    refine ax ?_
    refine aa ?_ ae
    exact ax (aa (ac 11) (aa (ac 12) ae))
   exact ag 9 kK.nd
  refine az ?_
  refine aF ?_ ?_
  ·refine ar aI (ac 4) ?_
   refine ax ?_
   refine aa ?_ ae
   exact ax (aa (ac 6) (aa (ac 7) (aa (ac 9) ae)))
  exact ag 4 kK.nd
 refine az ?_
 refine aT ?_
 refine ax ?_
 refine aa ?_ (aa (ao (ac 0) af) (aa (ac 4) ae))
 refine ar aI af ?_
 exact ar aW (ac 1) af
abbrev cB:Stmt:=top 27
theorem mz:kL ["_law_script","_law_book_here","_law_number","_law_one","_law_other","_law_some","_law_at","_law_face","_law_stays","_law_pairs","_law_new","_law_rows"] ["_law_script"] (i7 cB):=r_
theorem j6{ts:List kR}(pF:mL P w K mg base k "_law_book" ["_law_number"] be)(mY:mL P w K mg base k "_law_mixed" ["_law_script","_law_k"] aG)(nW:rf P w K mg base k "_law_turned" ["_law_book_here","_law_number"] 10 lj aN ts)(oV:mL P w K mg base k "_law_twice" ["_law_book_here","_law_number"] aR)(mU:mI P w K mg base k "are_alike" ["one","other"] aB ts)(vA:mI P w K mg base k "least" ["book"] bv ts)(nK:mI P w K mg base k "parts" ["one","other"] aM ts)(vB:mI P w K mg base k "reach" ["book"] bC ts)(ly:mg "len" = none)(Fn:qa K "law" "law" cB f fd):kT P w K mg base mi (k+1) f fd ["_law_script"] (sY K cV ts):=by
 refine du Fn mz kh ?_ ki
 intro cdv A outer s H E hr hT
 refine ak ?_ ?_
 ·refine aF ?_ ?_
  ·refine aA pF hr ?_
   refine aa ?_ ae
   exact aA mY hr (aa (ac 0) (aa af ae))
  exact ag 1 mz.nd
 refine ak ?_ ?_
 ·refine aF ?_ ?_
  ·exact aA mY hr (aa (ac 0) (aa af ae))
  exact ag 2 mz.nd
 refine gB (ps:=["_law_book_here" ,"_law_number"]) 11 mz.nd (ac 1) nW hr hT (aa (ac 1) (aa (ac 2) ae)) ?_ ?_
 ·exact aY vA hr hT (aa (ac 1) ae)
 refine fM ?_ ?_
 ·refine kc ?_ ?_ jp
  ·refine bu jK ?_ af
   exact aX bN ly (aa (ao (ac 1) af) ae)
  refine gN ?_ ?_
  ·refine gX 11 ?_
   refine aA oV hr ?_
   refine aa (ac 1) ?_
   refine aa ?_ ae
   exact ar bQ (ac 2) af
  refine fP ?_
  refine gX 11 ?_
  refine ax ?_
  refine aa (ao (ac 1) af) ?_
  refine aa (ao (ac 1) af) ?_
  refine aa ?_ ae
  refine ar aI (ao (ac 1) af) ?_
  refine ax ?_
  refine aa ?_ ae
  refine ax ?_
  refine aa aS ?_
  refine aa cS ?_
  refine aa ?_ ae
  refine ar je ?_ af
  refine ax ?_
  refine aa ?_ ae
  refine ax ?_
  refine aa aS ?_
  refine aa ?_ ae
  refine ar aW ?_ ?_
  ·exact ar aW (ac 2) af
  exact aX bN ly (aa (ao (ac 1) af) ae)
 refine ii ?_
 refine ak ?_ ?_
 ·refine cW PassesOwn.never rfl ?_ ?_ ?_
  ·exact bj (ac 11)
  ·exact ag 3 mz.nd
  refine az ?_
  refine cW PassesOwn.never rfl ?_ ?_ ?_
  ·exact bj (ac 11)
  ·exact ag 4 mz.nd
  refine az ?_
  refine gp ?_ ?_ cQ
  ·refine gZ ?_
   refine jG ?_ ?_
   ·refine bu cP ?_ cS
    exact aY mU hr hT (aa (ac 3) (aa (ac 4) ae))
   refine iG ?_
   refine bu gT ?_ im
   exact aY nK hr hT (aa (ac 3) (aa (ac 4) ae))
  refine az ?_
  exact aT cS
 refine ak ?_ ?_
 ·refine aF ?_ ?_
  ·exact aY vB hr hT (aa (ac 1) ae)
  exact ag 5 mz.nd
 refine ak ?_ ?_
 ·refine aF ?_ ?_
  ·refine ao (ac 5) ?_
   refine ar aW ?_ ?_
   ·exact ar bQ (ac 2) af
   exact aX bN ly (aa (ac 5) ae)
  exact ag 6 mz.nd
 refine ak ?_ ?_
 ·refine aF (ao (ao (ac 1) af) (ac 6)) ?_
  refine cx rfl ?_
  refine aL ?_ ?_
  ·exact ag 7 mz.nd
  refine aL ?_ ?_
  ·exact ag 8 mz.nd
  refine aL ?_ bX
  exact ag 9 mz.nd
 refine ak ?_ ?_
 ·refine aF ?_ ?_
  ·refine ar aI ?_ ?_
   ·refine ar aI ?_ ?_
    ·refine fj (ao (ac 1) af) fV ?_
     exact fN (ac 6)
    refine ax ?_
    refine aa ?_ ae
    refine ax ?_
    refine aa (ac 7) ?_
    refine aa ?_ (aa (ac 9) ae)
    exact jX (ac 8)
   refine fj (ao (ac 1) af) ?_ fV
   refine fN ?_
   exact ar aI (ac 6) af
  exact ag 10 mz.nd
 refine ak ?_ ?_
 ·refine aF ?_ ?_
  ·refine ax ?_
   exact aa (ao (ac 1) af) (aa (ao (ac 1) af) (aa (ac 10) ae))
  exact ag 4 mz.nd
 refine ak ?_ ?_
 ·refine cW PassesOwn.never rfl ?_ ?_ ?_
  ·exact bj (ac 11)
  ·exact ag 3 mz.nd
  refine ak ?_ ?_
  ·refine gp ?_ ?_ cQ
   ·refine gZ ?_
    refine jG ?_ ?_
    ·refine bu cP ?_ cS
     exact aY mU hr hT (aa (ac 3) (aa (ac 4) ae))
    refine iG ?_
    refine bu cP ?_ cS
    exact aY mU hr hT (aa (ac 4) (aa (ac 3) ae))
   refine az ?_
   exact aT cS
  refine az ?_
  refine gp ?_ ?_ cQ
  ·refine bu (jH hr) ?_ ?_
   ·refine aX fZ ly ?_
    refine aa ?_ ae
    exact aY nK hr hT (aa (ac 3) (aa (ac 4) ae))
   refine aX fZ ly ?_
   refine aa ?_ ae
   exact aY nK hr hT (aa (ac 4) (aa (ac 3) ae))
  refine az ?_
  exact aT cS
 refine az ?_
 exact aT cS
end HW
namespace HW
open PySem PySem.Spec PyProof.Rows L2
theorem uF(K:W.Frag)(H:Hp):∀ns:List Int,i9 K H (ns.map .int) (ns.map V.int)
 | []=>rfl
 | n::ns=>⟨.int n,_,rfl,rfl,uF K H ns⟩
theorem all_mk{l:W.OpenLaw}{w:World}{K:W.Frag}{h:Heap}{mg:Str->Option Value}{fa:Addr}
  {cA6 pA6:Addr} {ow6:Value} {ox6:Option Addr} {vw6:Array Value} {sw6:Array (Option Value)} {f6:Addr} {od6 an6:Option Addr} {sl6:Array (Option Value)} {oc6 kV6 dc6 pm6 ct6:Value}
  {cA11 pA11:Addr} {ow11:Value} {ox11:Option Addr} {vw11:Array Value} {sw11:Array (Option Value)} {f11:Addr} {od11 an11:Option Addr} {sl11:Array (Option Value)} {oc11 kV11 dc11 pm11 ct11:Value}
  {cA17 pA17:Addr} {ow17:Value} {ox17:Option Addr} {vw17:Array Value} {sw17:Array (Option Value)} {f17:Addr} {od17 an17:Option Addr} {sl17:Array (Option Value)} {oc17 kV17 dc17 pm17 ct17:Value}
  {cA21 pA21:Addr} {ow21:Value} {ox21:Option Addr} {vw21:Array Value} {sw21:Array (Option Value)} {f21:Addr} {od21 an21:Option Addr} {sl21:Array (Option Value)} {oc21 kV21 dc21 pm21 ct21:Value}
  {f23:Addr} {od23 an23:Option Addr} {sl23:Array (Option Value)} {oc23 kV23 dc23 pm23 cd23 ct23:Value}
  {nt:Addr} {xK:Nat} {xM:Array (Option Value)} {xN xO xP xQ xR xS:Tok}
  {q:Program}
  {f0 f1 f2 f3 f4 f5 f7 f8 f9 f10 f12 f13 f14 f15 f16 f18 f19 f20 f22:Addr}
  (X:K.In h) (G:h.Ns mainGlobals mg) (hfa:mg "law" = some (.ref fa))
  (a0:t9 K "nexts" et f0)
  (a1:t9 K "pair_nexts" bV f1)
  (a2:t9 K "heads_of_nexts" bq f2)
  (a3:t9 K "_law_drawn" bY f3)
  (a4:t9 K "one_press_on" bG f4)
  (a5:t9 K "first_ways" bU f5)
  (a6:W.nsIn K mainGlobals "ways_from" = some (some (.ref f6))) (l6:K.lookup f6=some ⟨oc6,od6,.func (W.fnOf "ways_from" "ways_from" (lD aO) (k7 aO) (i7 aO) .none kV6 dc6 pm6 an6 (.ref cA6) ct6),sl6⟩) (c6:W.codeIn K (.ref cA6) "ways_from" = true) (k6:W.keepIn K (.ref f6)=true) (lw6:K.lookup cA6=some ⟨ow6,ox6,.fields vw6,sw6⟩) (hw6:vw6[11]?=some (.ref pA6)) (nt6:K.lookup pA6=none) (hrec6:∃d,(recsOf q).find? (fun e=>e.name==("ways_from" : Str))=some d)
  (a7:t9 K "reach" ej f7)
  (a8:t9 K "looks" eB f8)
  (a9:t9 K "deeds_of" cy f9)
  (a10:t9 K "partings" cz f10)
  (a11:W.nsIn K mainGlobals "parts" = some (some (.ref f11))) (l11:K.lookup f11=some ⟨oc11,od11,.func (W.fnOf "parts" "parts" (lD bA) (k7 bA) (i7 bA) .none kV11 dc11 pm11 an11 (.ref cA11) ct11),sl11⟩) (c11:W.codeIn K (.ref cA11) "parts" = true) (k11:W.keepIn K (.ref f11)=true) (lw11:K.lookup cA11=some ⟨ow11,ox11,.fields vw11,sw11⟩) (hw11:vw11[11]?=some (.ref pA11)) (nt11:K.lookup pA11=none) (hrec11:∃d,(recsOf q).find? (fun e=>e.name==("parts" : Str))=some d)
  (a12:t9 K "are_alike" ca f12)
  (a13:t9 K "first_places" bE f13)
  (a14:t9 K "parted_once" bP f14)
  (a15:t9 K "alike_heads" bM f15)
  (a16:t9 K "led_by" dA f16)
  (a17:W.nsIn K mainGlobals "least" = some (some (.ref f17))) (l17:K.lookup f17=some ⟨oc17,od17,.func (W.fnOf "least" "least" (lD bz) (k7 bz) (i7 bz) .none kV17 dc17 pm17 an17 (.ref cA17) ct17),sl17⟩) (c17:W.codeIn K (.ref cA17) "least" = true) (k17:W.keepIn K (.ref f17)=true) (lw17:K.lookup cA17=some ⟨ow17,ox17,.fields vw17,sw17⟩) (hw17:vw17[11]?=some (.ref pA17)) (nt17:K.lookup pA17=none) (hrec17:∃d,(recsOf q).find? (fun e=>e.name==("least" : Str))=some d)
  (a18:t9 K "_law_cell_at" bJ f18)
  (a19:t9 K "_law_mixed" bW f19)
  (a20:t9 K "_law_book" cb f20)
  (a21:W.nsIn K mainGlobals "_law_turned" = some (some (.ref f21))) (l21:K.lookup f21=some ⟨oc21,od21,.func (W.fnOf "_law_turned" "_law_turned" (lD aE) (k7 aE) (i7 aE) .none kV21 dc21 pm21 an21 (.ref cA21) ct21),sl21⟩) (c21:W.codeIn K (.ref cA21) "_law_turned" = true) (k21:W.keepIn K (.ref f21)=true) (lw21:K.lookup cA21=some ⟨ow21,ox21,.fields vw21,sw21⟩) (hw21:vw21[11]?=some (.ref pA21)) (nt21:K.lookup pA21=none) (hrec21:∃d,(recsOf q).find? (fun e=>e.name==("_law_turned" : Str))=some d)
  (a22:t9 K "_law_twice" b_ f22)
  (a23:W.nsIn K mainGlobals "law" = some (some (.ref f23))) (l23:K.lookup f23=some ⟨oc23,od23,.func (W.fnOf "law" "law" (lD cB) (k7 cB) (i7 cB) .none kV23 dc23 pm23 an23 cd23 ct23),sl23⟩) (c23:W.codeIn K cd23 "law" = true) (k23:W.keepIn K (.ref f23)=true)
  (wO:W.nsIn K mainGlobals "enumerate" = some none)
  (FL:W.nsIn K mainGlobals "len" = some none)
  (Ek:W.nsIn K mainGlobals "list" = some none)
  (FM:W.nsIn K mainGlobals "min" = some none)
  (CC:W.nsIn K mainGlobals "range" = some none)
  (Bh:W.nsIn K mainGlobals "sorted" = some none)
  (CD:W.nsIn K mainGlobals "tuple" = some none)
  (FN:W.nsIn K mainGlobals "zip" = some none)
  (q_PRESSES:W.nsIn K mainGlobals "PRESSES" = some (some (.ref nt))) (r_PRESSES:K.lookup nt=some ⟨.type "tuple",none,.seq #[.str (oS "a") xN,.str (oS "b") xO,.str (oS "c") xP,.str (oS "A") xQ,.str (oS "B") xR,.str (oS "C") xS] xK,xM⟩)
  (hnd:List.Nodup [pA6,pA11,pA17,pA21]) :
  ∃(ts:List kR) (fd:FuncData),(∀t∈ts,K.lookup t.P=none/\∃y d,(recsOf q).find? (fun e=>e.name==y)=some d/\W.tabIn K y=some (t.c,t.P))/\(∀(s:Shared) (v:Value),BindsTo s fd ⟨[v],[]⟩ [("_law_script",v)])/\∀base:Heap,K.In base->base.Ns mainGlobals mg->lz mg ts base->kT l.prog w K mg base mi 8 fa fd ["_law_script"] (AT K cV ts):=by
 have e:=hfa.symm.trans (W.mg_of X G a23)
 cases e
 obtain⟨d0,F0,a0⟩:=u6 a0
 have b0:=F0.binds (ps:=["mode"]) fun | _,_,_,_,_,_,[_],_=>rfl
 have g0:=W.mg_of X G a0
 obtain⟨d1,F1,a1⟩:=u6 a1
 have b1:=F1.binds (ps:=["one","other"]) fun | _,_,_,_,_,_,[_,_],_=>rfl
 have g1:=W.mg_of X G a1
 obtain⟨d2,F2,a2⟩:=u6 a2
 have b2:=F2.binds (ps:=["mode","heads"]) fun | _,_,_,_,_,_,[_,_],_=>rfl
 have g2:=W.mg_of X G a2
 obtain⟨d3,F3,a3⟩:=u6 a3
 have b3:=F3.binds (ps:=["_law_number","_law_k"]) fun | _,_,_,_,_,_,[_,_],_=>rfl
 have g3:=W.mg_of X G a3
 obtain⟨d4,F4,a4⟩:=u6 a4
 have b4:=F4.binds (ps:=["ways","newest","nexts_of"]) fun | _,_,_,_,_,_,[_,_,_],_=>rfl
 have g4:=W.mg_of X G a4
 obtain⟨d5,F5,a5⟩:=u6 a5
 have b5:=F5.binds (ps:=["start","nexts_of"]) fun | _,_,_,_,_,_,[_,_],_=>rfl
 have g5:=W.mg_of X G a5
 have F6:tZ K "ways_from" "ways_from" aO _ _ cA6:=⟨⟨_,_,_,_,_,_,_,_,rfl,l6,c6⟩,k6⟩
 have g6:=W.mg_of X G a6
 have tb6:=eO a6 l6 rfl lw6 hw6
 have b6:=Binds.all (K:=K) (fd:=W.fnOf "ways_from" "ways_from" (lD aO) (k7 aO) (i7 aO) .none kV6 dc6 pm6 an6 (.ref cA6) ct6) (ps:=["book","mode"]) fun us hl=>by obtain⟨x0,x1,rfl⟩:=ln2 (us:=us) hl;rfl
 obtain⟨d7,F7,a7⟩:=u6 a7
 have b7:=F7.binds (ps:=["book"]) fun | _,_,_,_,_,_,[_],_=>rfl
 have g7:=W.mg_of X G a7
 obtain⟨d8,F8,a8⟩:=u6 a8
 have b8:=F8.binds (ps:=["mode"]) fun | _,_,_,_,_,_,[_],_=>rfl
 have g8:=W.mg_of X G a8
 obtain⟨d9,F9,a9⟩:=u6 a9
 have b9:=F9.binds (ps:=["mode"]) fun | _,_,_,_,_,_,[_],_=>rfl
 have g9:=W.mg_of X G a9
 obtain⟨d10,F10,a10⟩:=u6 a10
 have b10:=F10.binds (ps:=["one","other"]) fun | _,_,_,_,_,_,[_,_],_=>rfl
 have g10:=W.mg_of X G a10
 have F11:tZ K "parts" "parts" bA _ _ cA11:=⟨⟨_,_,_,_,_,_,_,_,rfl,l11,c11⟩,k11⟩
 have g11:=W.mg_of X G a11
 have tb11:=eO a11 l11 rfl lw11 hw11
 have b11:=Binds.all (K:=K) (fd:=W.fnOf "parts" "parts" (lD bA) (k7 bA) (i7 bA) .none kV11 dc11 pm11 an11 (.ref cA11) ct11) (ps:=["one","other"]) fun us hl=>by obtain⟨x0,x1,rfl⟩:=ln2 (us:=us) hl;rfl
 obtain⟨d12,F12,a12⟩:=u6 a12
 have b12:=F12.binds (ps:=["one","other"]) fun | _,_,_,_,_,_,[_,_],_=>rfl
 have g12:=W.mg_of X G a12
 obtain⟨d13,F13,a13⟩:=u6 a13
 have b13:=F13.binds (ps:=["things"]) fun | _,_,_,_,_,_,[_],_=>rfl
 have g13:=W.mg_of X G a13
 obtain⟨d14,F14,a14⟩:=u6 a14
 have b14:=F14.binds (ps:=["modes","heads"]) fun | _,_,_,_,_,_,[_,_],_=>rfl
 have g14:=W.mg_of X G a14
 obtain⟨d15,F15,a15⟩:=u6 a15
 have b15:=F15.binds (ps:=["modes"]) fun | _,_,_,_,_,_,[_],_=>rfl
 have g15:=W.mg_of X G a15
 obtain⟨d16,F16,a16⟩:=u6 a16
 have b16:=F16.binds (ps:=["mode","heads","order"]) fun | _,_,_,_,_,_,[_,_,_],_=>rfl
 have g16:=W.mg_of X G a16
 have F17:tZ K "least" "least" bz _ _ cA17:=⟨⟨_,_,_,_,_,_,_,_,rfl,l17,c17⟩,k17⟩
 have g17:=W.mg_of X G a17
 have tb17:=eO a17 l17 rfl lw17 hw17
 have b17:=Binds.all (K:=K) (fd:=W.fnOf "least" "least" (lD bz) (k7 bz) (i7 bz) .none kV17 dc17 pm17 an17 (.ref cA17) ct17) (ps:=["book"]) fun us hl=>by obtain⟨x0,rfl⟩:=ER (us:=us) hl;rfl
 obtain⟨d18,F18,a18⟩:=u6 a18
 have b18:=F18.binds (ps:=["_law_script","_law_k"]) fun | _,_,_,_,_,_,[_,_],_=>rfl
 have g18:=W.mg_of X G a18
 obtain⟨d19,F19,a19⟩:=u6 a19
 have b19:=F19.binds (ps:=["_law_script","_law_k"]) fun | _,_,_,_,_,_,[_,_],_=>rfl
 have g19:=W.mg_of X G a19
 obtain⟨d20,F20,a20⟩:=u6 a20
 have b20:=F20.binds (ps:=["_law_number"]) fun | _,_,_,_,_,_,[_],_=>rfl
 have g20:=W.mg_of X G a20
 have F21:tZ K "_law_turned" "_law_turned" aE _ _ cA21:=⟨⟨_,_,_,_,_,_,_,_,rfl,l21,c21⟩,k21⟩
 have g21:=W.mg_of X G a21
 have tb21:=eO a21 l21 rfl lw21 hw21
 have b21:=Binds.all (K:=K) (fd:=W.fnOf "_law_turned" "_law_turned" (lD aE) (k7 aE) (i7 aE) .none kV21 dc21 pm21 an21 (.ref cA21) ct21) (ps:=["_law_book_here","_law_number"]) fun us hl=>by obtain⟨x0,x1,rfl⟩:=ln2 (us:=us) hl;rfl
 obtain⟨d22,F22,a22⟩:=u6 a22
 have b22:=F22.binds (ps:=["_law_book_here","_law_number"]) fun | _,_,_,_,_,_,[_,_],_=>rfl
 have g22:=W.mg_of X G a22
 have F23:=gP (st:=cB) l23 c23 k23
 have b23:=F23.binds (ps:=["_law_script"]) fun | _,_,_,_,_,_,[_],_=>rfl
 have g23:=W.mg_of X G a23
 have nN:=W.mg_none_of X G wO
 have ly:=W.mg_none_of X G FL
 have rj:=W.mg_none_of X G Ek
 have Bg:=W.mg_none_of X G FM
 have lG:=W.mg_none_of X G CC
 have oC:=W.mg_none_of X G Bh
 have mh:=W.mg_none_of X G CD
 have Bf:=W.mg_none_of X G FN
 have my:E2 K mg "PRESSES" aJ:=⟨.ref nt,.ref nt,W.mg_of X G q_PRESSES,rfl,fun H=>⟨nt,[.str (oS "a"),.str (oS "b"),.str (oS "c"),.str (oS "A"),.str (oS "B"),.str (oS "C")],rfl,.inr ⟨_,_,_,r_PRESSES,rfl,rfl,rfl,(by show 6<=sizeLine;decide),(.cons ⟨_,rfl⟩ (.cons ⟨_,rfl⟩ (.cons ⟨_,rfl⟩ (.cons ⟨_,rfl⟩ (.cons ⟨_,rfl⟩ (.cons ⟨_,rfl⟩ .nil))))))⟩,⟨_,_,rfl,rfl,⟨_,_,rfl,rfl,⟨_,_,rfl,rfl,⟨_,_,rfl,rfl,⟨_,_,rfl,rfl,⟨_,_,rfl,rfl,rfl⟩⟩⟩⟩⟩⟩⟩⟩
 obtain⟨dr6,hdr6⟩:=hrec6
 obtain⟨dr11,hdr11⟩:=hrec11
 obtain⟨dr17,hdr17⟩:=hrec17
 obtain⟨dr21,hdr21⟩:=hrec21
 obtain⟨ts,hts⟩:∃ts:List kR,ts=[⟨cA6,pA6,"ways_from.<locals>.<lambda>"⟩,⟨cA11,pA11,"parts.<locals>.<lambda>"⟩,⟨cA17,pA17,"least.<locals>.<lambda>"⟩,⟨cA21,pA21,"_law_turned.<locals>.<lambda>"⟩]:=⟨_,rfl⟩
 have ht6:(⟨cA6,pA6,"ways_from.<locals>.<lambda>"⟩:kR)∈ts:=by rw[hts];exact .head _
 have ht11:(⟨cA11,pA11,"parts.<locals>.<lambda>"⟩:kR)∈ts:=by rw[hts];exact .tail _ (.head _)
 have ht17:(⟨cA17,pA17,"least.<locals>.<lambda>"⟩:kR)∈ts:=by rw[hts];exact .tail _ (.tail _ (.head _))
 have ht21:(⟨cA21,pA21,"_law_turned.<locals>.<lambda>"⟩:kR)∈ts:=by rw[hts];exact .tail _ (.tail _ (.tail _ (.head _)))
 have hall:∀t∈ts,K.lookup t.P=none/\∃y d,(recsOf q).find? (fun e=>e.name==y)=some d/\W.tabIn K y=some (t.c,t.P):=by
  rw[hts]
  intro t ht
  rcases List.mem_cons.mp ht with rfl | ht
  ·exact⟨nt6,"ways_from",dr6,hdr6,tb6⟩
  rcases List.mem_cons.mp ht with rfl | ht
  ·exact⟨nt11,"parts",dr11,hdr11,tb11⟩
  rcases List.mem_cons.mp ht with rfl | ht
  ·exact⟨nt17,"least",dr17,hdr17,tb17⟩
  rcases List.mem_cons.mp ht with rfl | ht
  ·exact⟨nt21,"_law_turned",dr21,hdr21,tb21⟩
  cases ht
 have hnd2:(ts.map (·.P)).Nodup:=by rw[hts];exact hnd
 refine⟨ts,W.fnOf "law" "law" (lD cB) (k7 cB) (i7 cB) .none kV23 dc23 pm23 an23 cd23 ct23,hall,fun s v=>.of_eq rfl,fun base _ _ TB=>?_⟩
 have mP:mL l.prog w K mg base 1 "nexts" ["mode"] aZ:=bg F0 g0 b0 (h_ (k:=0)  F0)
 have oR:mL l.prog w K mg base 2 "pair_nexts" ["one","other"] aU:=bg F1 g1 b1 (dH (k:=1) mP.m rj Bf F1)
 have ll:mL l.prog w K mg base 2 "heads_of_nexts" ["mode","heads"] aq:=bg F2 g2 b2 (cH (k:=1) mP.m F2)
 have la:mL l.prog w K mg base 1 "_law_drawn" ["_law_number","_law_k"] av:=bg F3 g3 b3 (dN (k:=0)  F3)
 have LO:Ff l.prog w K mg base 3 LL:=fun t G e=>by
  unfold LL at e
  split at e
  ·rename_i z
   subst z
   cases e
   exact E1 (k:=2) mP.m
  split at e
  ·rename_i z
   subst z
   cases e
   exact EH (k:=2) oR.m
  split at e
  ·rename_i z
   subst z
   cases e
   exact E4 (k:=2) ll.m
  split at e
  ·rename_i z
   subst z
   cases e
   exact CU (k:=2) la.m
  ·cases e
 have nq:zj l.prog w K mg base 4 "one_press_on" ["ways","newest","nexts_of"] au:=⟨_,_,cY (k:=3) ly lG my (LO.mono (by decide)) F4,g4,F4.kp,b4⟩
 have li:mL l.prog w K mg base 5 "first_ways" ["start","nexts_of"] ay:=bg F5 g5 b5 (dM (k:=4) ly nq.m F5)
 have pE:mI l.prog w K mg base 6 "ways_from" ["book","mode"] bb ts:=⟨_,_,dY (k:=5) li.m ht6 rfl (TB.one ht6) F6,g6,F6.kp,b6⟩
 have vB:mI l.prog w K mg base 7 "reach" ["book"] bC ts:=⟨_,_,gQ (k:=6) pE.m oC mh F7,g7,F7.kp,b7⟩
 have oU:mL l.prog w K mg base 1 "looks" ["mode"] a_:=bg F8 g8 b8 (iD (k:=0)  F8)
 have mv:mL l.prog w K mg base 1 "deeds_of" ["mode"] aC:=bg F9 g9 b9 (eS (k:=0)  F9)
 have qf:mL l.prog w K mg base 2 "partings" ["one","other"] bf:=bg F10 g10 b10 (fh (k:=1) mv.m oU.m ly lG my F10)
 have nK:mI l.prog w K mg base 6 "parts" ["one","other"] aM ts:=⟨_,_,gW (k:=5) li.m qf.m ly Bg ht11 rfl (TB.one ht11) F11,g11,F11.kp,b11⟩
 have mU:mI l.prog w K mg base 7 "are_alike" ["one","other"] aB ts:=⟨_,_,dU (k:=6) nK.m F12,g12,F12.kp,b12⟩
 have lM:mL l.prog w K mg base 1 "first_places" ["things"] aH:=bg F13 g13 b13 (c_ (k:=0)  F13)
 have mQ:mL l.prog w K mg base 3 "parted_once" ["modes","heads"] aK:=bg F14 g14 b14 (dC (k:=2) lM.m ll.m ly lG F14)
 have nV:mL l.prog w K mg base 4 "alike_heads" ["modes"] bi:=bg F15 g15 b15 (dD (k:=3) mv.m lM.m oU.m mQ.m F15)
 have tR:mL l.prog w K mg base 1 "led_by" ["mode","heads","order"] bK:=bg F16 g16 b16 (gl (k:=0) mh F16)
 have vA:mI l.prog w K mg base 6 "least" ["book"] bv ts:=⟨_,_,iI (k:=5) nV.m li.m tR.m rj mh ht17 rfl (TB.one ht17) F17,g17,F17.kp,b17⟩
 have nr:mL l.prog w K mg base 1 "_law_cell_at" ["_law_script","_law_k"] aD:=bg F18 g18 b18 (db (k:=0) ly F18)
 have mY:mL l.prog w K mg base 2 "_law_mixed" ["_law_script","_law_k"] aG:=bg F19 g19 b19 (dJ (k:=1) nr.m F19)
 have pF:mL l.prog w K mg base 2 "_law_book" ["_law_number"] be:=bg F20 g20 b20 (eJ (k:=1) la.m lG F20)
 have nW:rf l.prog w K mg base 5 "_law_turned" ["_law_book_here","_law_number"] 10 lj aN ts:=⟨_,_,dl (k:=2) ly lG oC mh ht21 rfl (TB.one ht21) (CU (k:=1) la.m) F21,g21,F21.kp,b21⟩
 have oV:mL l.prog w K mg base 2 "_law_twice" ["_law_book_here","_law_number"] aR:=bg F22 g22 b22 (dL (k:=1) la.m nN ly F22)
 exact Ck hnd2 (j6 pF.m mY.m nW.m oV.m mU.m vA.m nK.m vB.m ly F23)
theorem walk {l:W.OpenLaw} {q:Program} {loose:List Str} {XP:(Str->Option Value)->Heap->Prop} {YP:World->Heap->Prop} {d:DefRec} {K:Params->W.Frag} (hn:l.most=some 63) (hdf:d.params.defaults=[])
    (hY:∀(w:World) (h:Heap),YP w h->(K w.params).In h)
    (F:∀(w:World) (mg:Str->Option Value) (fa:Addr) (h:Heap),(K w.params).In h->h.Ns mainGlobals mg->mg d.name=some (.ref fa) ->
      ∃(ts:List kR) (fd:FuncData),(∀t∈ts,(K w.params).lookup t.P=none/\∃y d',(recsOf q).find? (fun e=>e.name==y)=some d'/\W.tabIn (K w.params) y=some (t.c,t.P))/\(∀(s:Shared) (u:Value),BindsTo s fd ⟨[u],[]⟩ [("_law_script",u)])/\∀base:Heap,(K w.params).In base->base.Ns mainGlobals mg->lz mg ts base->kT l.prog w (K w.params) mg base mi 8 fa fd ["_law_script"] (AT (K w.params) cV ts)) :
    W.WalkO q loose XP YP l.row.toRowW d [] (fun f vs=>PySem.call f vs):=
  AA (n:=63) (k:=8) (x:="_law_script") (CX:=fun _=>mi) (sp:=fun w ts=>AT (K w.params) cV ts) hn (by decide) hdf ⟨rfl,by decide,by decide,rfl⟩ hY F (fun w ts H a ns hl hO hP hS=>BR hO hP ⟨[.fro (ns.map .int)],.bl true,i9.one ⟨a,ns.map V.int,rfl,hS,uF _ _ ns⟩,AB ns hl,fun v H' _ hv=>hv⟩) fun _ _ _ _ _ z=>z
end HW
namespace PySem.W.Fast
theorem tw11686793203709432097:True:=⟨⟩
theorem tw2642694355739106914:True:=⟨⟩
theorem tw13882364969762277031:True:=⟨⟩
theorem tw17781381819849468521:True:=⟨⟩
theorem tw7115884300629397069:True:=⟨⟩
theorem tw7906863499945091026:True:=⟨⟩
theorem tw14084935677589799958:True:=⟨⟩
theorem tw17571664047237597271:True:=⟨⟩
theorem tw4044891896729746745:True:=⟨⟩
theorem tw7104791908615942559:True:=⟨⟩
noncomputable def tw2220897120949232479:=PySem.Challenge.pw_handwatch_k51_whole_alike
theorem te2220897120949232479:PySem.Challenge.pw_handwatch_k51_whole_alike=tw2220897120949232479:=rfl
end PySem.W.Fast
open PySem PySem.W PyProof.Rows
set_option maxRecDepth 100000 in
set_option maxHeartbeats 0 in
theorem PySem.Challenge.cw_handwatch_k51_whole_alike_holds : PySem.Challenge.rw_handwatch_k51_whole_alike.Holds := by
 w_on;o_law;k_head;(case hw=>w_witness2)
 k_fill
 refine HW.walk (l:=PySem.Challenge.rw_handwatch_k51_whole_alike) rfl rfl (fun w h Y=>PySem.W.km_in_of Y) ?F
 case F =>
  intro w mg fa h KX G hmg
  refine' HW.all_mk KX G hmg ?_ ?_ ?_ ?_ ?_ ?_ ?_ ?_ ?_ ?_ ?_ ?_ ?_ ?_ ?_ ?_ ?_ ?_ ?_ ?_ ?_ ?_ ?_ ?_ ?_ ?_ ?_ ?_ ?_ ?_ ?_ ?_ ?_ ?_ ?_ ?_ ?_ ?_ ?_ ?_ ?_ ?_ ?_ ?_ ?_ ?_ ?_ ?_ ?_ ?_ ?_ ?_ ?_ ?_ ?_ ?_ ?_ ?_ ?_ ?_ ?_ ?_ ?_ ?_ ?_ ?_
  all_goals try first | k_is | (refine' HW.fn4_mk ?_ ?_ ?_ ?_<;>try k_is) | rfl | kernel_rfl | exact⟨_,rfl⟩ | decide
