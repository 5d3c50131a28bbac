import PyProof.Rows.All
import Wide.All
import OpenK.AllK
import Wide.FinOn
import Lean
import PyProof.EqAt
import PyProof.EqKinds
import PyProof.TupleCall
import PySem.Str
import PySem.Sem
import PyProof.ReprReads
import PyProof.Rows.RegStrFacts
import PyProof.StrBlockI
import KE.IntText
import PyProof.StrWalks
import PyProof.ReprRoads
import PyProof.NeData
import PyProof.WalkInts
import KE.KRevIter
import PyProof.StrBlock2
import KE.KIntText
import PyProof.Rows.Range3
import PyProof.StrLawsIn
import PyProof.FitsReplace
import PyProof.ReprLen
import PyProof.ZipIter
import PyProof.Draws
import PyProof.IsRules
import PySem.Builtin.Str.Common
import PySem.SetOps
import PyProof.SetKind
import PyProof.DictStraight
import KE.KDictSum
import PyProof.Rows.SetFrom
import PyProof.Rows.SortShell
import PyProof.ListRange
import PyProof.Rows.FactsT2
import PyProof.Rows.FactsT3
import PyProof.StrCalls
import PyProof.SumWalk
import PyProof.AttrMissHeap
import KE.KDictOf
import PySem.Challenge.RW_handwatch_k10_what_happens
set_option Elab.async false
noncomputable section
set_option linter.all false
set_option maxRecDepth 100000
namespace L2
open PySem PySem.Spec PyProof.Rows
abbrev Key:=Sum Int Str
def keyIs:Key->Value->Bool
 | .inl k,v=>Value.isInt k v
 | .inr x,v=>Value.isStrOf x v
def keyH (w:World):Key->Int
 | .inl k=>hashInt k
 | .inr x=>hashStr w x
theorem keyIs_shape:∀ {k:Key} {v:Value},keyIs k v=true->(∃ i t,k=Sum.inl i/\v=Value.int i t)\/(∃ x t,k=Sum.inr x/\v=Value.str x t)
 | .inl i,v,h=>by
  obtain ⟨t,e⟩:=Value.isInt_shape (k:=i) (v:=v) h
  exact .inl ⟨i,t,rfl,e⟩
 | .inr x,v,h=>by
  obtain ⟨t,e⟩:=Value.isStrOf_shape (x:=x) (v:=v) h
  exact .inr ⟨x,t,rfl,e⟩
theorem keyIs_int (i:Int) (t:Tok):keyIs (.inl i) (.int i t)=true:=by simp [keyIs,Value.isInt]
theorem keyIs_str (x:Str) (t:Tok):keyIs (.inr x) (.str x t)=true:=by simp [keyIs,Value.isStrOf]
theorem key_ll (a b:Int):decide ((Sum.inl a:Key)=Sum.inl b)=(a==b):=by
 by_cases e:a=b
 ·subst e;simp
 ·have h:¬ (Sum.inl a:Key)=Sum.inl b:=fun q=>e (Sum.inl.inj q)
  rw [decide_eq_false h]
  exact (beq_eq_false_iff_ne.mpr e).symm
theorem key_rr (a b:Str):decide ((Sum.inr a:Key)=Sum.inr b)=decide (a=b):=by
 by_cases e:a=b
 ·subst e;simp
 ·have h:¬ (Sum.inr a:Key)=Sum.inr b:=fun q=>e (Sum.inr.inj q)
  rw [decide_eq_false h,decide_eq_false e]
theorem key_lr (a:Int) (b:Str):decide ((Sum.inl a:Key)=Sum.inr b)=false:=decide_eq_false (fun q=>nomatch q)
theorem key_rl (a:Str) (b:Int):decide ((Sum.inr a:Key)=Sum.inl b)=false:=decide_eq_false (fun q=>nomatch q)
def mixKind (prog:Program) (w:World):PySem.KeyKind prog w Key where
 is:=keyIs
 hash:=keyH w
 inj:=fun v a b ha hb=>by
  rcases keyIs_shape ha with ⟨i,t,rfl,rfl⟩ | ⟨x,t,rfl,rfl⟩
  ·rcases keyIs_shape hb with ⟨j,u,rfl,e⟩ | ⟨y,u,rfl,e⟩
   ·injection e with e1 _;rw [e1]
   ·exact nomatch e
  ·rcases keyIs_shape hb with ⟨j,u,rfl,e⟩ | ⟨y,u,rfl,e⟩
   ·exact nomatch e
   ·injection e with e1 _;rw [e1]
 byValue:=fun k v h=>by
  rcases keyIs_shape h with ⟨i,t,rfl,rfl⟩ | ⟨x,t,rfl,rfl⟩<;>rfl
 pyHash:=fun hv h=>by
  rcases keyIs_shape hv with ⟨i,t,rfl,rfl⟩ | ⟨x,t,rfl,rfl⟩
  ·exact wpAny_pyHash_int h
  ·exact wpAny_pyHash_str h
 eqBool:=fun hu hv h=>by
  rcases keyIs_shape hu with ⟨i,t,rfl,rfl⟩ | ⟨x,t,rfl,rfl⟩
  ·rcases keyIs_shape hv with ⟨j,u,rfl,rfl⟩ | ⟨y,u,rfl,rfl⟩
   ·rw [key_ll] at h;exact wpAny_eqBool_int h
   ·rw [key_lr] at h;exact SeqAt.EqAt.int_str i t y u _ _ _ _ h
  ·rcases keyIs_shape hv with ⟨j,u,rfl,rfl⟩ | ⟨y,u,rfl,rfl⟩
   ·rw [key_rl] at h;exact SeqAt.EqAt.str_int x t j u _ _ _ _ h
   ·rw [key_rr] at h;exact wpAny_eqBool_str h
 «strs»:=fun k x t v h=>by
  rcases keyIs_shape h with ⟨i,u,rfl,e⟩ | ⟨y,u,rfl,e⟩
  ·exact nomatch e
  ·injection e with e1 _
   subst e1
   cases v<;>rfl
theorem mixKind_int (prog:Program) (w:World) (i:Int) (t:Tok):(mixKind prog w).is (.inl i) (.int i t)=true:=keyIs_int i t
theorem mixKind_str (prog:Program) (w:World) (x:Str) (t:Tok):(mixKind prog w).is (.inr x) (.str x t)=true:=keyIs_str x t
end L2
namespace L2
open PySem PySem.Spec PyProof.Rows
inductive V where
 | non | bl (b:Bool) | int (i:Int) | str (x:Str) | byt (b:Array UInt8) | flt (b:UInt64) | ref (a:Addr) | ty (n:String)
 deriving DecidableEq
def RelV:V->Value->Prop
 | .non,u=>u=Value.none
 | .bl b,u=>u=Value.bool b
 | .int i,u=>∃ t,u=Value.int i t
 | .str x,u=>∃ t,u=Value.str x t
 | .byt b,u=>∃ t,u=Value.bytes b t
 | .flt b,u=>∃ t,u=Value.float b t
 | .ref a,u=>u=Value.ref a
 | .ty n,u=>u=Value.type n
abbrev Vals:List V->List Value->Prop:=Paired RelV
theorem Vals.length {xs:List V} {us:List Value} (r:Vals xs us):xs.length=us.length:=Paired.length r
theorem Vals.get:∀ {xs:List V} {us:List Value} {i:Nat} {x:V},Vals xs us->xs[i]?=some x->∃ u,us[i]?=some u/\RelV x u
 | _,_,_,_,.nil,e=>by simp at e
 | _,_,0,_,.cons r _,e=>by simp at e;subst e;exact ⟨_,rfl,r⟩
 | _,_,i+1,x,.cons _ t,e=>by
  obtain ⟨u,h1,h2⟩:=Vals.get (i:=i) (x:=x) t (by simpa using e)
  exact ⟨u,by simpa using h1,h2⟩
theorem Vals.set {x:V} {u:Value} (r:RelV x u):∀ {xs:List V} {us:List Value} (i:Nat),Vals xs us->Vals (xs.set i x) (us.set i u)
 | _,_,_,.nil=>.nil
 | _,_,0,.cons _ t=>.cons r t
 | _,_,i+1,.cons q t=>.cons q (Vals.set r i t)
theorem Vals.append:∀ {xs ys:List V} {us ws:List Value},Vals xs us->Vals ys ws->Vals (xs++ys) (us++ws)
 | _,_,_,_,.nil,s=>s
 | _,_,_,_,.cons r t,s=>.cons r (Vals.append t s)
theorem Vals.take:∀ {xs:List V} {us:List Value} (n:Nat),Vals xs us->Vals (xs.take n) (us.take n)
 | _,_,0,_=>.nil
 | _,_,_+1,.nil=>.nil
 | _,_,n+1,.cons r t=>.cons r (Vals.take n t)
theorem Vals.drop:∀ {xs:List V} {us:List Value} (n:Nat),Vals xs us->Vals (xs.drop n) (us.drop n)
 | _,_,0,r=>r
 | _,_,_+1,.nil=>.nil
 | _,_,n+1,.cons _ t=>Vals.drop n t
def RelO:Option V->Option Value->Prop
 | some v,some u=>RelV v u
 | none,none=>True
 | _,_=>False
def KV {κ:Type}:List (κ×V)->List (κ×Value)->Prop:=Paired fun (p:κ×V) (q:κ×Value)=>p.1=q.1/\RelV p.2 q.2
def kV:Key->V
 | .inl i=>.int i
 | .inr x=>.str x
inductive HO where
 | lst (xs:List V)
 | tup (xs:List V)
 | dK (kvs:List (Key×V)) | dT (kvs:List (List Key×V))
 | set (S:Int->Bool) (n:Nat)
 | ins (C dx:Addr) (fs:List (Str×V))
 | own (x:Addr)
 | xd (fs:List (Str×V))
 | met (f x:Addr)
 | rng (lo hi:Int)
 | frz (o:Obj) (u:HO)
 | tbl (q:Str) (c:Bool)
 | ext (φ:Heap->Prop)
abbrev Hp:=Addr->Option HO
def upd (H:Hp) (a:Addr) (o:HO):Hp:=fun b=>if b=a then some o else H b
theorem aC {H:Hp} {a:Addr} {o:HO}:upd H a o a=some o:=by unfold upd;rw [if_pos rfl]
theorem ay {H:Hp} {a b:Addr} {o:HO} (h:b≠a):upd H a o b=H b:=by unfold upd;rw [if_neg h]
theorem kE {H:Hp} {a:Addr} {o u:HO}:upd (upd H a o) a u=upd H a u:=by
 funext b;unfold upd;split<;>rfl
theorem ne_of {H:Hp} {a b:Addr} {o u:HO} (h:H a=some o) (h':H b=some u) (d:o≠u):a≠b:=by
 intro e;subst e;rw [h] at h';exact d (Option.some.inj h')
theorem ne_of_none {H:Hp} {a b:Addr} {o:HO} (h:H a=some o) (h':H b=none):a≠b:=by
 intro e;subst e;rw [h] at h';cases h'
def IsTupN (h:Heap) (a:Addr) (its:Array Value):Prop:=∃ o,h.get? a=some o/\o.cls=.type "tuple" /\ (∃ n,o.data=.seq its n)/\o.dict=none
theorem IsTupN.is {h:Heap} {a:Addr} {its:Array Value} (x:IsTupN h a its):IsTup h a its:=by obtain ⟨o,e,c,d,_⟩:=x;exact ⟨o,e,c,d⟩
theorem IsTupN.lt {h:Heap} {a:Addr} {its:Array Value} (x:IsTupN h a its):a<h.objs.size:=x.is.lt
theorem IsTupN.new (h:Heap) (its:Array Value):IsTupN (h.push {cls:=.type "tuple",data:=.seq its}) h.objs.size its:=⟨_,Heap.get?_push_size _ rfl,rfl,⟨_,rfl⟩,rfl⟩
section
variable (P:Program) (w:World)
def ObjOk (H:Hp) (h:Heap) (a:Addr):HO->Prop
 | .lst xs=>xs.length<=sizeLine/\∃ (its:List Value) (n:Nat),Vals xs its/\h.get? a=some {cls:=.type "list",data:=.seq its.toArray n}
 | .tup xs=>xs.length<=sizeLine/\∃ its:List Value,Vals xs its/\IsTupN h a its.toArray
 | .dK kvs=>kvs.length<=sizeLine/\(a==sysModules)=false/\∃ vs,KV kvs vs/\h.DictOf (mixKind P w) a vs
 | .dT kvs=>kvs.length<=sizeLine/\(a==sysModules)=false/\∃ xs:List (List Key×Addr×Value),
   Paired (fun (p:List Key×V) (q:List Key×Addr×Value)=>p.1=q.1/\H q.2.1=some (.tup (p.1.map kV))/\RelV p.2 q.2.2) kvs xs /\
   ∃ o es ep,h.get? a=some o/\o.ExactDict/\o.data=.dict es ep/\es.toList=xs.map (entryOfKey (tupleKind (mixKind P w)))/\(xs.map (·.1)).Nodup
 | .set S n=>h.SetOf (intKind P w) a S n
 | .ins C dx fs=>H dx=some (.own a)/\fs.length<=1000/\dx≠a/\h.get? a=some (PySem.W.instObj C dx) /\
   ∃ mA,h.Ns1 dx mA/\(∀ f,RelO (fs.lookup f) (mA f))/\PySem.Within mA (fs.map (·.1))
 | .own _=>∃ o,h.get? a=some o
 | .xd fs=>∃ mA,h.Ns1 a mA/\∀ f,RelO (fs.lookup f) (mA f)
 | .rng lo hi=>∃ t u v,h.get? a=some {cls:=.type "range",data:=.fields #[.int lo t,.int hi u,.int 1 v]}
 | .frz o u=>h.get? a=some o/\ObjOk H h a u
 | .tbl q true=>h.CodeRec (.ref a) q
 | .tbl q false=>∃ ts:Array Value,h.get? a=some {cls:=.none,data:=.fields ts}/\TriplesOk ts.toList/\∀ (pos:Pos) (cv:Value),codeAmong pos ts.toList=some cv->∃ c,cv=.ref c/\H c=some (.tbl q true)
 | .met f x=>h.get? a=some (PySem.W.methodObj (.ref f) (.ref x))
 | .ext φ=>φ h/\(∃ o,h.get? a=some o)/\∀ h1 h2:Heap,φ h1->(∀ o,h1.get? a=some o->h2.get? a=some o)->φ h2
def HOk (H:Hp) (h:Heap):Prop:=∀ a o,H a=some o->ObjOk P w H h a o
end
section
variable {P:Program} {w:World} {H H':Hp} {h h':Heap} {a:Addr} {o:HO}
theorem ObjOk.lt (x:ObjOk P w H h a o):a<h.objs.size:=by
 cases o with
 | lst xs=>obtain ⟨_,_,_,_,e⟩:=x;exact Heap.lt_size e
 | tup xs=>obtain ⟨_,_,_,p⟩:=x;exact p.lt
 | dK kvs=>obtain ⟨_,_,_,_,o,_,_,e,_⟩:=x;exact Heap.lt_size e
 | dT kvs=>obtain ⟨_,_,_,_,o,_,_,e,_⟩:=x;exact Heap.lt_size e
 | set S n=>obtain ⟨o,_,_,_,e,_⟩:=x;exact Heap.lt_size e
 | ins C dx fs=>obtain ⟨_,_,_,e,_⟩:=x;exact Heap.lt_size e
 | own y=>obtain ⟨_,e⟩:=x;exact Heap.lt_size e
 | xd fs=>obtain ⟨_,⟨_,_,_,e,_⟩,_⟩:=x;exact Heap.lt_size e
 | rng lo hi=>obtain ⟨_,_,_,e⟩:=x;exact Heap.lt_size e
 | frz ob u=>obtain ⟨e,_⟩:=x;exact Heap.lt_size e
 | tbl q c =>
  cases c with
  | true=>obtain ⟨_,o,_,_,e,g,_⟩:=(show h.CodeRec (.ref a) q from x);cases e;exact Heap.lt_size g
  | false=>obtain ⟨_,e,_⟩:=x;exact Heap.lt_size e
 | met f y=>exact Heap.lt_size (show h.get? a=some _ from x)
 | ext φ=>obtain ⟨_,⟨_,e⟩,_⟩:=x;exact Heap.lt_size e
theorem Paired.mapP {α β:Type} {F G:α->β->Prop}:∀ {l₁:List α} {l₂:List β},Paired F l₁ l₂->(∀ a b,F a b->G a b)->Paired G l₁ l₂
 | _,_,.nil,_=>.nil
 | _,_,.cons r t,f=>.cons (f _ _ r) (Paired.mapP t f)
theorem ObjOk.stay (x:ObjOk P w H h a o) (k:∀ b u,(b=a\/H b=some (.own a))->h.get? b=some u->h'.get? b=some u)
  (ho:∀ b,H b=some (.own a)->H' b=some (.own a)) (ht:∀ b xs,H b=some (.tup xs)->H' b=some (.tup xs)) (hc:∀ b q c,H b=some (.tbl q c)->H' b=some (.tbl q c)):ObjOk P w H' h' a o:=by
 induction o with
 | lst xs=>obtain ⟨z,its,n,r,e⟩:=x;exact ⟨z,its,n,r,k _ _ (.inl rfl) e⟩
 | tup xs=>obtain ⟨z,its,r,ob,e,c⟩:=x;exact ⟨z,its,r,ob,k _ _ (.inl rfl) e,c⟩
 | dK kvs=>obtain ⟨z,y,vs,r,ob,es,ep,e,c⟩:=x;exact ⟨z,y,vs,r,ob,es,ep,k _ _ (.inl rfl) e,c⟩
 | dT kvs =>
  obtain ⟨z,y,xs,r,ob,es,ep,e,c⟩:=x
  exact ⟨z,y,xs,Paired.mapP r fun p q z=>⟨z.1,ht _ _ z.2.1,z.2.2⟩,ob,es,ep,k _ _ (.inl rfl) e,c⟩
 | set S n=>obtain ⟨ob,es,ep,t,e,c⟩:=x;exact ⟨ob,es,ep,t,k _ _ (.inl rfl) e,c⟩
 | ins C dx fs =>
  obtain ⟨d,z,ne,e,mA,⟨od,es,ep,e2,c⟩,r⟩:=x
  exact ⟨ho _ d,z,ne,k _ _ (.inl rfl) e,mA,⟨od,es,ep,k _ _ (.inr d) e2,c⟩,r⟩
 | own y=>obtain ⟨ob,e⟩:=x;exact ⟨ob,k _ _ (.inl rfl) e⟩
 | xd fs=>obtain ⟨mA,⟨od,es,ep,e,c⟩,r⟩:=x;exact ⟨mA,⟨od,es,ep,k _ _ (.inl rfl) e,c⟩,r⟩
 | rng lo hi=>obtain ⟨t,u,v,e⟩:=x;exact ⟨t,u,v,k _ _ (.inl rfl) e⟩
 | frz ob u ih=>obtain ⟨e,q⟩:=x;exact ⟨k _ _ (.inl rfl) e,ih q⟩
 | tbl q c =>
  cases c with
  | true =>
   obtain ⟨_,o,vs,t,e,g,r⟩:=(show h.CodeRec (.ref a) q from x)
   cases e
   exact ⟨a,o,vs,t,rfl,k _ _ (.inl rfl) g,r⟩
  | false =>
   obtain ⟨ts,e,t,r⟩:=x
   refine ⟨ts,k _ _ (.inl rfl) e,t,fun pos cv hcv=>?_⟩
   obtain ⟨c,e1,e2⟩:=r pos cv hcv
   exact ⟨c,e1,hc _ _ _ e2⟩
 | met f y =>
  have e:h.get? a=some (PySem.W.methodObj (.ref f) (.ref y)):=x
  show h'.get? a=some (PySem.W.methodObj (.ref f) (.ref y))
  exact k a _ (.inl rfl) e
 | ext φ=>obtain ⟨p,⟨o,e⟩,st⟩:=x;exact ⟨st _ _ p fun o q=>k _ _ (.inl rfl) q,⟨o,k _ _ (.inl rfl) e⟩,st⟩
theorem HOk.lt (x:HOk P w H h) (e:H a=some o):a<h.objs.size:=(x a o e).lt
theorem HOk.fresh (x:HOk P w H h) (e:h.objs.size<=a):H a=none:=by
 cases q:H a with
 | none=>rfl
 | some u=>exact absurd (Nat.lt_of_lt_of_le (x.lt q) e) (Nat.lt_irrefl _)
theorem HOk.kept (x:HOk P w H h) (k:∀ b u,h.get? b=some u->h'.get? b=some u):HOk P w H h':=fun a o e =>
 (x a o e).stay (fun b u _ q=>k b u q) (fun _ q=>q) (fun _ _ q=>q) fun _ _ _ q=>q
theorem HOk.laid (x:HOk P w H h) (k:∀ b u,h.get? b=some u->h'.get? b=some u) (hp:h.objs.size<=a) (new:ObjOk P w (upd H a o) h' a o):HOk P w (upd H a o) h':=fun b u e=>by
 have hn:=x.fresh hp
 by_cases hb:b=a
 ·subst hb;rw [aC] at e;cases e;exact new
 ·rw [ay hb] at e
  exact (x b u e).stay (fun c v _ q=>k c v q) (fun c q=>by rw [ay (ne_of_none q hn)];exact q) (fun c xs q=>by rw [ay (ne_of_none q hn)];exact q) fun c _ _ q=>by rw [ay (ne_of_none q hn)];exact q
end
def Rd (H:Hp) (a:Addr) (u:HO):Prop:=H a=some u\/∃ o,H a=some (.frz o u)
theorem Rd.of {H:Hp} {a:Addr} {u:HO} (h:H a=some u):Rd H a u:=.inl h
theorem Rd.ok {P:Program} {w:World} {H:Hp} {h:Heap} {a:Addr} {u:HO} (r:Rd H a u) (x:HOk P w H h):ObjOk P w H h a u:=by
 rcases r with r | ⟨o,r⟩
 ·exact x a u r
 ·obtain ⟨_,q⟩:=x a _ r
  exact q
def Mut:Option HO->Prop
 | some (.lst _)=>True
 | some (.dK _)=>True
 | some (.dT _)=>True
 | some (.set _ _)=>True
 | some (.ins _ _ _)=>True
 | some (.ext _)=>True
 | some (.frz _ (.own _))=>True
 | _=>False
section
variable {P:Program} {w:World} {H:Hp} {h h':Heap} {x e:Addr} {o':HO}
theorem HOk.write (ok:HOk P w H h) (mu:Mut (H x)) (he:e=x\/H e=some (.own x)) (k:∀ b u,b≠e->h.get? b=some u->h'.get? b=some u) (heo:∃ u,h'.get? e=some u)
  (new:ObjOk P w (upd H x o') h' x o'):HOk P w (upd H x o') h':=fun b u q=>by
 have nown:∀ c y,H c=some (.own y)->c≠x:=fun c y r z=>by subst z;rw [r] at mu;exact mu
 have ntup:∀ c xs,H c=some (.tup xs)->c≠x:=fun c xs r z=>by subst z;rw [r] at mu;exact mu
 by_cases hb:b=x
 ·subst hb;rw [aC] at q;cases q;exact new
 ·rw [ay hb] at q
  by_cases hbe:b=e
  ·have q':H b=some (.own x):=by
    rcases he with z | z
    ·exact absurd (hbe.trans z) hb
    ·rw [hbe];exact z
   rw [q] at q';cases q'
   obtain ⟨v,hv⟩:=heo
   exact ⟨v,by rw [hbe];exact hv⟩
  ·refine (ok b u q).stay (fun c v hc r=>k c v ?_ r) (fun c r=>by rw [ay (nown c b r)];exact r) (fun c xs r=>by rw [ay (ntup c xs r)];exact r) fun c q d r=>by rw [ay fun z=>by subst z;rw [r] at mu;exact mu];exact r
   rcases hc with rfl | hc
   ·exact hbe
   ·rintro rfl
    rcases he with z | z
    ·exact nown c b hc z
    ·rw [hc] at z;cases z;exact hb rfl
end
structure Un (fs ex:List Addr) (H H':Hp) (h h':Heap):Prop where
 keep:∀ b o,h.get? b=some o->H b=none->b∉fs->b∉ex->h'.get? b=some o
 slot:∀ b o,h.get? b=some o->H b=none->b∈fs->b∉ex->∃ sl,h'.get? b=some {o with slots:=sl}
 free:∀ b o,h.get? b=some o->H b=none->b∉ex->H' b=none
 there:∀ b o,h.get? b=some o->b∉ex->∃ o',h'.get? b=some o'
 tups:∀ b xs,H b=some (.tup xs)->H' b=some (.tup xs)
 frzs:∀ b o u,(∀ y,u≠.own y)->H b=some (.frz o u)->H' b=some (.frz o u)
 tbls:∀ b q c,H b=some (.tbl q c)->H' b=some (.tbl q c)
section
variable {fs fs' ex ex':List Addr} {H H1 H2:Hp} {h h1 h2 h':Heap} {a x e:Addr} {o:HO}
theorem Un.any (u:Un fs ex H H1 h h1) {b:Addr} {ob:Obj} (q:h.get? b=some ob) (n:H b=none) (hx:b∉ex):∃ sl,h1.get? b=some {ob with slots:=sl}:=by
 by_cases hb:b∈fs
 ·exact u.slot b ob q n hb hx
 ·exact ⟨ob.slots,u.keep b ob q n hb hx⟩
theorem Un.trans (a:Un fs ex H H1 h h1) (b:Un fs ex H1 H2 h1 h2):Un fs ex H H2 h h2 where
 keep:=fun c ob q n hc hx=>b.keep c ob (a.keep c ob q n hc hx) (a.free c ob q n hx) hc hx
 slot:=fun c ob q n hc hx=>by
  obtain ⟨sl,e1⟩:=a.slot c ob q n hc hx
  obtain ⟨sl',e2⟩:=b.slot c _ e1 (a.free c ob q n hx) hc hx
  exact ⟨sl',e2⟩
 free:=fun c ob q n hx=>by
  obtain ⟨o',e1⟩:=a.there c ob q hx
  exact b.free c o' e1 (a.free c ob q n hx) hx
 there:=fun c ob q hx=>by
  obtain ⟨o',e1⟩:=a.there c ob q hx
  exact b.there c o' e1 hx
 tups:=fun c xs q=>b.tups c xs (a.tups c xs q)
 frzs:=fun c ob xs ny q=>b.frzs c ob xs ny (a.frzs c ob xs ny q)
 tbls:=fun c ps d q=>b.tbls c ps d (a.tbls c ps d q)
theorem Un.kept (k:∀ b u,h.get? b=some u->h'.get? b=some u):Un fs ex H H h h' :=
 ⟨fun b ob q _ _ _=>k b ob q,fun b ob q _ _ _=>⟨ob.slots,k b ob q⟩,fun _ _ _ n _=>n,fun b ob q _=>⟨ob,k b ob q⟩,fun _ _ q=>q,fun _ _ _ _ q=>q,fun _ _ _ q=>q⟩
theorem Un.refl:Un fs ex H H h h:=Un.kept fun _ _ q=>q
theorem Un.laid (k:∀ b u,h.get? b=some u->h'.get? b=some u) (hp:h.objs.size<=a) (hn:H a=none):Un fs ex H (upd H a o) h h' where
 keep:=fun b u q _ _ _=>k b u q
 slot:=fun b u q _ _ _=>⟨u.slots,k b u q⟩
 free:=fun b u q n _=>by rw [ay (Nat.ne_of_lt (Nat.lt_of_lt_of_le (Heap.lt_size q) hp))];exact n
 there:=fun b u q _=>⟨u,k b u q⟩
 tups:=fun b xs q=>by rw [ay (ne_of_none q hn)];exact q
 frzs:=fun b u xs _ q=>by rw [ay (ne_of_none q hn)];exact q
 tbls:=fun b ps _ q=>by rw [ay (ne_of_none q hn)];exact q
theorem Un.write (mu:Mut (H x)) (he:e=x\/H e=some (.own x)) (k:∀ b u,b≠e->h.get? b=some u->h'.get? b=some u) (heo:∃ u,h'.get? e=some u):Un fs ex H (upd H x o) h h':=by
 have hx:∀ b,H b=none->b≠x:=fun b n z=>by subst z;rw [n] at mu;exact mu
 have hb:∀ b,H b=none->b≠e:=fun b n z=>by
  subst z
  rcases he with r | r
  ·exact hx b n r
  ·rw [n] at r;cases r
 have hm:∀ b u,H b=some u->¬ Mut (some u)->b≠x:=fun b u q nm z=>by subst z;rw [q] at mu;exact nm mu
 refine ⟨fun b u q n _ _=>k b u (hb b n) q,fun b u q n _ _=>⟨u.slots,k b u (hb b n) q⟩,fun b u q n _=>by rw [ay (hx b n)];exact n,fun b u q _=>?_,
  fun b xs q=>by rw [ay (hm b _ q fun z=>z)];exact q,fun b u xs ny q=>by rw [ay (hm b _ q (by intro z;cases xs<;>first | exact z | exact ny _ rfl))];exact q,fun b ps _ q=>by rw [ay (hm b _ q fun z=>z)];exact q⟩
 by_cases hbe:b=e
 ·subst hbe;exact heo
 ·exact ⟨u,k b u hbe q⟩
theorem Un.mono (u:Un fs ex H H1 h h1) (hs:∀ b∈fs,b∈fs') (hx:∀ b∈ex,b∈ex'):Un fs' ex' H H1 h h1 :=
 ⟨fun b ob q n hb he=>u.keep b ob q n (fun z=>hb (hs b z)) fun z=>he (hx b z),fun _ _ q n _ he=>u.any q n fun z=>he (hx _ z),fun b ob q n he=>u.free b ob q n fun z=>he (hx b z),fun b ob q he=>u.there b ob q fun z=>he (hx b z),u.tups,u.frzs,u.tbls⟩
end
def trk (h:Heap) (H:Hp):List Addr:=(List.range h.objs.size).filter fun a=>(H a).isSome
def hidT (h:Heap) (H:Hp):Heap:=PySem.W.hideAll h (trk h H)
theorem hidT_size (h:Heap) (H:Hp):(hidT h H).objs.size=h.objs.size:=PySem.W.hideAll_size _ _
theorem hidT_get {h:Heap} {H:Hp} {b:Addr} {o:Obj} (e:h.get? b=some o) (n:H b=none):(hidT h H).get? b=some o :=
 PySem.W.hideAll_get _ e fun hm=>by
  have q:(H b).isSome=true:=(List.mem_filter.mp hm).2
  rw [n] at q;simp at q
theorem of_hidT {h:Heap} {H:Hp} {b:Addr} {o:Obj} (e:(hidT h H).get? b=some o):h.get? b=some o/\H b=none:=by
 have e':h.get? b=some o:=PySem.W.of_hideAll (trk h H) e
 refine ⟨e',?_⟩
 cases q:H b with
 | none=>rfl
 | some x =>
  have hm:b∈trk h H:=List.mem_filter.mpr ⟨List.mem_range.mpr (Heap.lt_size e'),by simp [q]⟩
  have z:(hidT h H).get? b=none:=PySem.W.hideAll_none (trk h H) hm
  rw [z] at e;cases e
def allNews (g h:Heap) (L:Addr):List (Addr×Obj):=(List.range h.objs.size).filterMap fun a=>if a=L\/(g.get? a).isSome=true then none else (h.get? a).map fun o=>(a,o)
def rest (g h:Heap) (L d:Addr):List (Addr×Obj):=(allNews g h L).filter fun p=>decide (p.1≠d)
end L2
namespace L2
open PySem PySem.Spec PyProof.Rows
structure Mod (K:PySem.W.Frag) (mg:Str->Option Value) (base:Heap):Prop where
 kin:K.In base
 glob:base.Ns mainGlobals mg
 blt:∃ mb,base.Ns builtinsNs mb/\∀ x:Str,x ≠ "__name__" -> mb x=bootBuiltins x
 nolimit:base.NoLimit
structure Cx where
 prog:Program
 w:World
 K:PySem.W.Frag
 mg:Str->Option Value
 base:Heap
 A:Around
 N:List Str
 s₀:Shared
 H₀:Hp
 env:Env
 outer:List Env
 stack:List Env
 ex:List Addr
 fn:Str->Bool
 calm:Bool
 pn:List (Addr×Obj)
 xe:Value->Shared->Prop
def frs (l:List Env):List Addr:=l.filterMap (·.frame)
abbrev Cx.fs (X:Cx):List Addr:=frs X.outer
def Vis (sc:Scope) (x:Str):Prop:=sc.names.lookup x=some .local\/sc.names.lookup x=some .cell\/sc.names.lookup x=some .free
def Loc (sc:Scope) (x:Str):Prop:=sc.names.lookup x=some .local\/sc.names.lookup x=some .cell
def Look (env:Env) (h:Heap) (m:Str->Option Value) (x:Str) (u:Value):Prop :=
 (env.kindOf x=some .local/\m x=some u)\/((env.kindOf x=some .cell\/env.kindOf x=some .free)/\∃ c,env.cells.lookup x=some c/\h.IsCell c (some u))
structure Cx.Ok (X:Cx):Prop where
 mod:Mod X.K X.mg X.base
 kind:X.env.scope.kind=.function
 glob:X.env.globals=mainGlobals
 blt:X.env.builtins=builtinsNs
 above:X.s₀.heap.objs.size<=X.env.locals
 inj:∀ x y c,X.env.cells.lookup x=some c->X.env.cells.lookup y=some c->x=y
 has:∀ x,(X.env.kindOf x=some .cell\/X.env.kindOf x=some .free)->∃ c,X.env.cells.lookup x=some c
 cab:∀ x c,X.fn x=true->X.env.cells.lookup x=some c->X.s₀.heap.objs.size<=c
 hd:X.calm=true->X.A.handled=none
 frames:X.A.frames=some X.stack
 stk:X.stack=X.outer\/(X.stack=X.env::X.outer/\X.env.frame=some X.env.locals)
 exf:∀ b∈X.ex,b≠X.env.locals/\∀ x c,X.env.cells.lookup x=some c->c≠b
 bs:∀ b o,X.base.get? b=some o->X.s₀.heap.get? b=some o/\X.H₀ b=none
 bsz:X.base.objs.size<=X.s₀.heap.objs.size
 noex:∀ b o,X.base.get? b=some o->b∉X.ex
 exfs:∀ b∈X.ex,b∉X.fs
 funs:X.s₀.heap.FunFrames X.base X.outer
 frf:∀ b∈X.fs,X.H₀ b=none
structure Inv (X:Cx) (pins:List (Addr×Obj)) (σ:List (Option V)) (H:Hp) (s:Shared):Prop where
 ok:X.Ok
 os:s.os=X.s₀.os
 bare:AllBare s.gens
 base:Un X.fs X.ex X.H₀ H X.s₀.heap s.heap
 loc:∃ m,s.heap.Ns X.env.locals m/\∀ (i:Nat) (x:Str) (v:V),X.N[i]?=some x->σ[i]?=some (some v)->Vis X.env.scope x->∃ u,RelV v u/\Look X.env s.heap m x u
 cell:∀ x c,X.env.cells.lookup x=some c->∃ v,s.heap.IsCell c v
 free:H X.env.locals=none
 freeC:∀ x c,X.env.cells.lookup x=some c->H c=none
 pin:∀ p∈X.pn++pins,s.heap.get? p.1=some p.2/\H p.1=none/\p.1≠X.env.locals/\p.1∉X.fs/\∀ v,p.2.data≠.cell v
 hok:HOk X.prog X.w H s.heap
 len:σ.length=X.N.length
section
variable {X:Cx} {pins:List (Addr×Obj)} {σ:List (Option V)} {H H':Hp} {s:Shared} {h':Heap}
theorem Cx.Ok.nofr (ok:X.Ok) {b:Addr} {o:Obj} (e:X.base.get? b=some o):b∉X.fs:=fun hb=>by
 have:=(ok.funs.mem hb).1
 rw [e] at this;cases this
theorem Inv.bs (I:Inv X pins σ H s):∀ b o,X.base.get? b=some o->s.heap.get? b=some o/\H b=none:=fun b o e =>
 ⟨I.base.keep b o (I.ok.bs b o e).1 (I.ok.bs b o e).2 (I.ok.nofr e) (I.ok.noex b o e),I.base.free b o (I.ok.bs b o e).1 (I.ok.bs b o e).2 (I.ok.noex b o e)⟩
theorem Inv.bk (I:Inv X pins σ H s):∀ b o,X.base.get? b=some o->s.heap.get? b=some o:=fun b o e=>(I.bs b o e).1
theorem Inv.mod (I:Inv X pins σ H s):Mod X.K X.mg X.base:=I.ok.mod
theorem Inv.kIn (I:Inv X pins σ H s):X.K.In s.heap:=I.ok.mod.kin.keeps I.bk
theorem Inv.nolimit (I:Inv X pins σ H s):s.heap.NoLimit:=I.ok.mod.nolimit.keeps I.bk
theorem Inv.lt (I:Inv X pins σ H s):X.env.locals<s.heap.objs.size:=let ⟨_,hn,_⟩:=I.loc;hn.lt
theorem Inv.sz (I:Inv X pins σ H s):X.s₀.heap.objs.size<=s.heap.objs.size:=Nat.le_trans I.ok.above (Nat.le_of_lt I.lt)
theorem Inv.nofs (I:Inv X pins σ H s) {a:Addr} (h:s.heap.objs.size<=a):a∉X.fs:=fun hb=>by
 obtain ⟨_,o,ho,_⟩:=I.ok.funs.mem hb
 exact absurd (Nat.lt_of_lt_of_le (Heap.lt_size ho) (Nat.le_trans I.sz h)) (Nat.lt_irrefl _)
theorem Inv.cne (I:Inv X pins σ H s):∀ x c,X.env.cells.lookup x=some c->c≠X.env.locals:=fun x c e z=>by
 obtain ⟨v,o,ho,hd⟩:=I.cell x c e
 obtain ⟨m,⟨o',es,ep,ho',hd',_⟩,_⟩:=I.loc
 rw [z,ho'] at ho;cases ho;rw [hd'] at hd;cases hd
theorem Inv.funs (I:Inv X pins σ H s):s.heap.FunFrames X.base X.outer:=by
 have all:∀ (l:List Env),(∀ b∈frs l,b∈X.fs)->X.s₀.heap.FunFrames X.base l->s.heap.FunFrames X.base l:=by
  intro l
  induction l with
  | nil=>intro _ _;trivial
  | cons env r ih =>
   intro hs hl
   obtain ⟨hk,⟨L,o,hf,hn,ho,hd⟩,hr⟩:=hl
   have hL:L∈X.fs:=hs L (by unfold frs;rw [List.filterMap_cons,hf];exact List.mem_cons_self)
   obtain ⟨sl,e⟩:=I.base.slot L o ho (I.ok.frf L hL) hL fun z=>I.ok.exfs L z hL
   exact ⟨hk,⟨L,_,hf,hn,e,hd⟩,ih (fun b hb=>hs b (by unfold frs;rw [List.filterMap_cons,hf];exact List.mem_cons_of_mem _ hb)) hr⟩
 exact all X.outer (fun _ hb=>hb) I.ok.funs
theorem Inv.stack (I:Inv X pins σ H s):s.heap.FunFrames X.base X.stack:=by
 rcases I.ok.stk with e | ⟨e,hf⟩
 ·rw [e];exact I.funs
 ·rw [e]
  obtain ⟨m,hn,_⟩:=I.loc
  refine .cons (by rw [I.ok.kind];decide) hf hn ?_ I.funs
  exact Heap.get?_none_of_le (Nat.le_trans I.ok.bsz I.ok.above)
theorem Inv.stkSub (I:Inv X pins σ H s):∀ b∈frs X.stack,b∈X.env.locals::X.fs:=fun b hb=>by
 rcases I.ok.stk with e | ⟨e,hf⟩
 ·rw [e] at hb;exact List.mem_cons_of_mem _ hb
 ·rw [e] at hb
  unfold frs at hb
  rw [List.filterMap_cons,hf] at hb
  exact hb
theorem Inv.stkFree (I:Inv X pins σ H s):∀ b∈frs X.stack,H b=none:=fun b hb=>by
 rcases List.mem_cons.mp (I.stkSub b hb) with e | hb
 ·rw [e];exact I.free
 ·obtain ⟨_,o,ho,_⟩:=I.ok.funs.mem hb
  exact I.base.free b o ho (I.ok.frf b hb) fun z=>I.ok.exfs b z hb
theorem Inv.step {g':Array GenState} {t':Nat} {d':Drawn} {ch:List Addr} (I:Inv X pins σ H s)
  (hch:∀ b∈ch,(b∈X.ex\/X.s₀.heap.objs.size<=b)/\b≠X.env.locals/\(∀ x c,X.env.cells.lookup x=some c->c≠b)/\∀ p∈X.pn++pins,p.1≠b)
  (keep:∀ b o,b≠X.env.locals->b∉X.fs->b∉ch->s.heap.get? b=some o->H b=none->h'.get? b=some o)
  (slot:∀ b o,b≠X.env.locals->b∈X.fs->b∉ch->s.heap.get? b=some o->H b=none->∃ sl,h'.get? b=some {o with slots:=sl}) (free:∀ b o,b∉ch->s.heap.get? b=some o->H b=none->H' b=none)
  (there:∀ b o,b∉ch->s.heap.get? b=some o->∃ o',h'.get? b=some o')
  (tups:∀ b xs,H b=some (.tup xs)->H' b=some (.tup xs)) (frzs:∀ b o u,(∀ y,u≠.own y)->H b=some (.frz o u)->H' b=some (.frz o u)) (tbls:∀ b q c,H b=some (.tbl q c)->H' b=some (.tbl q c))
  (ns:∀ m,s.heap.Ns X.env.locals m->h'.Ns X.env.locals m) (hok:HOk X.prog X.w H' h') (hg:AllBare g') :
  Inv X pins σ H' {s with heap:=h',gens:=g',drawn:=d',toks:=t' }:=by
 have neL:∀ b o,X.s₀.heap.get? b=some o->b≠X.env.locals:=fun b o e=>Nat.ne_of_lt (Nat.lt_of_lt_of_le (Heap.lt_size e) I.ok.above)
 have neC:∀ b o,X.s₀.heap.get? b=some o->b∉X.ex->b∉ch:=fun b o e hx hb=>by
  rcases (hch b hb).1 with z | z
  ·exact hx z
  ·exact absurd (Nat.lt_of_lt_of_le (Heap.lt_size e) z) (Nat.lt_irrefl _)
 have cellK:∀ x c,X.env.cells.lookup x=some c->∀ v,s.heap.IsCell c v->h'.IsCell c v:=fun x c e v ⟨o,ho,hd⟩=>by
  have nch:c∉ch:=fun z=>(hch c z).2.2.1 x c e rfl
  by_cases hc:c∈X.fs
  ·obtain ⟨sl,q⟩:=slot c o (I.cne x c e) hc nch ho (I.freeC x c e)
   exact ⟨_,q,hd⟩
  ·exact ⟨o,keep c o (I.cne x c e) hc nch ho (I.freeC x c e),hd⟩
 refine ⟨I.ok,I.os,hg,⟨fun b o e n hb hx=>?_,fun b o e n hb hx=>?_,fun b o e n hx=>?_,fun b o e hx=>?_,fun b xs e=>tups b xs (I.base.tups b xs e),fun b o xs ny e=>frzs b o xs ny (I.base.frzs b o xs ny e),fun b ps d e=>?_⟩,?_,fun x c e=>?_,?_,fun x c e=>?_,fun p hp=>?_,hok,I.len⟩
 ·exact keep b o (neL b o e) hb (neC b o e hx) (I.base.keep b o e n hb hx) (I.base.free b o e n hx)
 ·obtain ⟨sl,e1⟩:=I.base.slot b o e n hb hx
  obtain ⟨sl',e2⟩:=slot b _ (neL b o e) hb (neC b o e hx) e1 (I.base.free b o e n hx)
  exact ⟨sl',e2⟩
 ·obtain ⟨o',e1⟩:=I.base.there b o e hx
  exact free b o' (neC b o e hx) e1 (I.base.free b o e n hx)
 ·obtain ⟨o',e1⟩:=I.base.there b o e hx
  exact there b o' (neC b o e hx) e1
 ·exact tbls b ps d (I.base.tbls b ps d e)
 ·obtain ⟨m,hn,hl⟩:=I.loc
  refine ⟨m,ns m hn,fun i x v e1 e2 e3=>?_⟩
  obtain ⟨u,r,l⟩:=hl i x v e1 e2 e3
  refine ⟨u,r,?_⟩
  rcases l with l | ⟨k,c,e,z⟩
  ·exact .inl l
  ·exact .inr ⟨k,c,e,cellK x c e _ z⟩
 ·obtain ⟨v,z⟩:=I.cell x c e
  exact ⟨v,cellK x c e v z⟩
 ·obtain ⟨m,⟨o,_,_,ho,_⟩,_⟩:=I.loc
  exact free _ o (fun z=>(hch _ z).2.1 rfl) ho I.free
 ·obtain ⟨v,o,ho,hd⟩:=I.cell x c e
  exact free c o (fun z=>(hch c z).2.2.1 x c e rfl) ho (I.freeC x c e)
 ·obtain ⟨e,n,ne,nf,d⟩:=I.pin p hp
  have nch:p.1∉ch:=fun z=>(hch p.1 z).2.2.2 p hp rfl
  exact ⟨keep p.1 p.2 ne nf nch e n,free p.1 p.2 nch e n,ne,nf,d⟩
theorem Inv.un {t':Nat} (I:Inv X pins σ H s) (u:Un X.fs [] H H' s.heap h') (hok:HOk X.prog X.w H' h'):Inv X pins σ H' {s with heap:=h',toks:=t' }:=by
 obtain ⟨m,⟨o,es,ep,ho,r⟩,_⟩:=id I.loc
 obtain ⟨sl,hL⟩:=u.any ho I.free (by simp)
 exact I.step (g':=s.gens) (d':=s.drawn) (ch:=[]) (fun _ z=>nomatch z) (fun b o _ hb _ e n=>u.keep b o e n hb (by simp)) (fun b o _ hb _ e n=>u.slot b o e n hb (by simp)) (fun b o _ e n=>u.free b o e n (by simp)) (fun b o _ e=>u.there b o e (by simp)) u.tups u.frzs u.tbls (fun m' hm=>by
  obtain ⟨o',es',ep',ho',r'⟩:=hm
  rw [ho] at ho';cases ho'
  exact ⟨_,es',ep',hL,r'⟩) hok I.bare
theorem Inv.call {g':Array GenState} {t':Nat} {d':Drawn} {ch:List Addr} (I:Inv X pins σ H s) (u:Un (frs X.stack) ch H H' s.heap h') (hok:HOk X.prog X.w H' h') (hg:AllBare g')
  (hch:∀ b∈ch,(b∈X.ex\/X.s₀.heap.objs.size<=b)/\b≠X.env.locals/\(∀ x c,X.env.cells.lookup x=some c->c≠b)/\∀ p∈X.pn++pins,p.1≠b) :
  Inv X pins σ H' {s with heap:=h',gens:=g',drawn:=d',toks:=t' }:=by
 obtain ⟨m,⟨o,es,ep,ho,r⟩,_⟩:=id I.loc
 obtain ⟨sl,hL⟩:=u.any ho I.free fun z=>(hch _ z).2.1 rfl
 exact I.step (ch:=ch) hch (fun b o hL hb hc e n=>u.keep b o e n (fun z=>(List.mem_cons.mp (I.stkSub b z)).elim hL hb) hc) (fun b o _ _ hc e n=>u.any e n hc) (fun b o hc e n=>u.free b o e n hc) (fun b o hc e=>u.there b o e hc) u.tups u.frzs u.tbls (fun m' hm=>by
  obtain ⟨o',es',ep',ho',r'⟩:=hm
  rw [ho] at ho';cases ho'
  exact ⟨_,es',ep',hL,r'⟩) hok hg
theorem Inv.turned {t':Nat} {it:Addr} (I:Inv X pins σ H s) (k:∀ b o,b≠it->s.heap.get? b=some o->h'.get? b=some o) (hn:H it=none) (hL:it≠X.env.locals)
  (h1:it∈X.ex\/X.s₀.heap.objs.size<=it) (h2:∀ x c,X.env.cells.lookup x=some c->c≠it) (h3:∀ p∈X.pn++pins,p.1≠it):Inv X pins σ H {s with heap:=h',toks:=t' }:=by
 have nit:∀ b u,H b=some u->b≠it:=fun b u e z=>by rw [z,hn] at e;cases e
 refine I.step (g':=s.gens) (d':=s.drawn) (ch:=[it]) (fun b hb=>?_) (fun b o _ _ hc e _=>k b o (fun z=>hc (by simp [z])) e) (fun b o _ _ hc e _=>⟨o.slots,k b o (fun z=>hc (by simp [z])) e⟩) (fun _ _ _ _ n=>n)
  (fun b o hc e=>⟨o,k b o (fun z=>hc (by simp [z])) e⟩) (fun _ _ e=>e) (fun _ _ _ _ e=>e) (fun _ _ _ e=>e) (fun m hm=>?_) (fun b u e=>?_) I.bare
 ·have e:b=it:=by simpa using hb
  subst e
  exact ⟨h1,hL,h2,h3⟩
 ·obtain ⟨o,es,ep,ho,r⟩:=hm
  exact ⟨o,es,ep,k _ o (Ne.symm hL) ho,r⟩
 ·refine (I.hok b u e).stay (fun c v hc q=>k c v ?_ q) (fun _ q=>q) (fun _ _ q=>q) fun _ _ _ q=>q
  rcases hc with z | z
  ·rw [z];exact nit b u e
  ·exact nit c _ z
theorem Inv.tok (I:Inv X pins σ H s) (t:Nat):Inv X pins σ H {s with toks:=t}:=I.un (h':=s.heap) (t':=t) Un.refl I.hok
theorem Inv.kept {t':Nat} (I:Inv X pins σ H s) (k:∀ b u,s.heap.get? b=some u->h'.get? b=some u):Inv X pins σ H {s with heap:=h',toks:=t' }:=I.un (Un.kept k) (I.hok.kept k)
theorem Inv.laid {a:Addr} {o:HO} {t':Nat} (I:Inv X pins σ H s) (k:∀ b u,s.heap.get? b=some u->h'.get? b=some u) (hp:s.heap.objs.size<=a) (new:ObjOk X.prog X.w (upd H a o) h' a o) :
  Inv X pins σ (upd H a o) {s with heap:=h',toks:=t' }:=I.un (Un.laid k hp (I.hok.fresh hp)) (I.hok.laid k hp new)
theorem Inv.write {x e:Addr} {o:HO} {t':Nat} (I:Inv X pins σ H s) (mu:Mut (H x)) (he:e=x\/H e=some (.own x)) (k:∀ b u,b≠e->s.heap.get? b=some u->h'.get? b=some u) (heo:∃ u,h'.get? e=some u)
  (new:ObjOk X.prog X.w (upd H x o) h' x o):Inv X pins σ (upd H x o) {s with heap:=h',toks:=t' }:=I.un (Un.write mu he k heo) (I.hok.write mu he k heo new)
theorem Inv.pins_of {pins':List (Addr×Obj)} (I:Inv X pins σ H s) (h:∀ p∈pins',s.heap.get? p.1=some p.2/\H p.1=none/\p.1≠X.env.locals/\p.1∉X.fs/\∀ v,p.2.data≠.cell v):Inv X pins' σ H s :=
 ⟨I.ok,I.os,I.bare,I.base,I.loc,I.cell,I.free,I.freeC,fun p hp=>(List.mem_append.mp hp).elim (fun z=>I.pin p (List.mem_append_left _ z)) (h p),I.hok,I.len⟩
theorem nodup_ix {N:List Str} (hN:N.Nodup) {i j:Nat} {x:Str} (a:N[i]?=some x) (b:N[j]?=some x):i=j:=by
 obtain ⟨h1,e1⟩:=List.getElem?_eq_some_iff.mp a
 obtain ⟨h2,e2⟩:=List.getElem?_eq_some_iff.mp b
 exact (List.getElem_inj hN).mp (e1.trans e2.symm)
theorem store_ok2 {M:Model} {A:Around} {E:Value->Shared->Prop} {i:Nat} {x:Str} {v:V} {u:Value} {Q:Unit->Shared->Prop} (I:Inv X pins σ H s) (hN:X.N.Nodup) (hi:X.N[i]?=some x) (hx:Loc X.env.scope x) (r:RelV v u)
  (h:∀ s',Inv X pins (σ.set i (some v)) H s'->(∃ a,Heap.SameBut a s.heap s'.heap/\(a=X.env.locals\/X.env.cells.lookup x=some a))->Q () s') (hf:X.fn x=true\/X.env.scope.names.lookup x=some .local:=by first | exact .inl rfl | exact .inr rfl | assumption):wpAny M A (storeName X.env x u) Q E s:=by
 obtain ⟨m,hn,hl⟩:=id I.loc
 have hcls:(X.env.scope.kind==.class||(X.env.scope.kind==.module&&X.env.locals != X.env.globals))=false:=by rw [I.ok.kind];rfl
 have hiσ:i<σ.length:=by rw [I.len];exact (List.getElem?_eq_some_iff.mp hi).1
 have cne:=I.cne
 have tracked:∀ {a:Addr} {h':Heap},(∃ o,s.heap.get? a=some o/\H a=none)->Heap.SameBut a s.heap h'->HOk X.prog X.w H h':=fun {a h'} ha hs b ob e=>by
  obtain ⟨_,_,hfree⟩:=ha
  refine (I.hok b ob e).stay (fun c w' hc q=>(hs.2 c ?_).trans q) (fun _ q=>q) (fun _ _ q=>q) fun _ _ _ q=>q
  rintro rfl
  rcases hc with rfl | hc
  ·rw [hfree] at e;cases e
  ·rw [hfree] at hc;cases hc
 rcases hx with hk | hk
 ·refine wpAny_storeName_local hk hn (fun h' hn' hs=>?_) hcls
  obtain ⟨oL,_,_,hoL,_⟩:=id hn
  refine h _ ⟨I.ok,I.os,I.bare,⟨fun b o e n hb hx=>?_,fun b o e n hb hx=>?_,I.base.free,fun b o e hx=>?_,I.base.tups,I.base.frzs,I.base.tbls⟩,⟨_,hn',fun j y v' e1 e2 e3=>?_⟩,fun y c e=>?_,I.free,I.freeC,fun p hp=>?_,tracked ⟨oL,hoL,I.free⟩ hs,by simpa using I.len⟩ ⟨_,hs,.inl rfl⟩
  ·exact (hs.2 b (Nat.ne_of_lt (Nat.lt_of_lt_of_le (Heap.lt_size e) I.ok.above))).trans (I.base.keep b o e n hb hx)
  ·obtain ⟨sl,e1⟩:=I.base.slot b o e n hb hx
   exact ⟨sl,(hs.2 b (Nat.ne_of_lt (Nat.lt_of_lt_of_le (Heap.lt_size e) I.ok.above))).trans e1⟩
  ·obtain ⟨o',e1⟩:=I.base.there b o e hx
   exact ⟨o',(hs.2 b (Nat.ne_of_lt (Nat.lt_of_lt_of_le (Heap.lt_size e) I.ok.above))).trans e1⟩
  ·by_cases hj:j=i
   ·subst hj
    rw [hi] at e1;cases e1
    rw [List.getElem?_set_self hiσ] at e2
    cases e2
    exact ⟨u,r,.inl ⟨hk,by simp⟩⟩
   ·rw [List.getElem?_set_ne (Ne.symm hj)] at e2
    obtain ⟨u',r',q⟩:=hl j y v' e1 e2 e3
    refine ⟨u',r',?_⟩
    rcases q with ⟨k,e⟩ | ⟨k,c,e,z⟩
    ·refine .inl ⟨k,?_⟩
     have:y≠x:=fun e=>hj (nodup_ix hN e1 (e ▸ hi))
     simp [this,e]
    ·exact .inr ⟨k,c,e,z.sameBut hs (cne y c e)⟩
  ·obtain ⟨w',z⟩:=I.cell y c e
   exact ⟨w',z.sameBut hs (cne y c e)⟩
  ·obtain ⟨e,n,ne,nf,d⟩:=I.pin p hp
   exact ⟨(hs.2 p.1 ne).trans e,n,ne,nf,d⟩
 ·have hfn:X.fn x=true:=by
   rcases hf with z | z
   ·exact z
   ·rw [z] at hk;cases hk
  obtain ⟨c,hc⟩:=I.ok.has x (.inl hk)
  obtain ⟨w',z⟩:=I.cell x c hc
  refine wpAny_storeName_cell I.ok.kind hk hc z (fun h' hc' hs=>?_)
  obtain ⟨oc,hoc,hocd⟩:=id z
  refine h {s with heap:=h' } ⟨I.ok,I.os,I.bare,⟨fun b o e n hb hx=>?_,fun b o e n hb hx=>?_,I.base.free,fun b o e hx=>?_,I.base.tups,I.base.frzs,I.base.tbls⟩,⟨m,hn.sameBut hs (Ne.symm (cne x c hc)),fun j y v' e1 e2 e3=>?_⟩,fun y c' e=>?_,I.free,I.freeC,fun p hp=>?_,tracked ⟨oc,hoc,I.freeC x c hc⟩ hs,by simpa using I.len⟩ ⟨c,hs,.inr hc⟩
  ·exact (hs.2 b (Nat.ne_of_lt (Nat.lt_of_lt_of_le (Heap.lt_size e) (I.ok.cab x c hfn hc)))).trans (I.base.keep b o e n hb hx)
  ·obtain ⟨sl,e1⟩:=I.base.slot b o e n hb hx
   exact ⟨sl,(hs.2 b (Nat.ne_of_lt (Nat.lt_of_lt_of_le (Heap.lt_size e) (I.ok.cab x c hfn hc)))).trans e1⟩
  ·obtain ⟨o',e1⟩:=I.base.there b o e hx
   exact ⟨o',(hs.2 b (Nat.ne_of_lt (Nat.lt_of_lt_of_le (Heap.lt_size e) (I.ok.cab x c hfn hc)))).trans e1⟩
  ·by_cases hj:j=i
   ·subst hj
    rw [hi] at e1;cases e1
    rw [List.getElem?_set_self hiσ] at e2
    cases e2
    exact ⟨u,r,.inr ⟨.inl hk,c,hc,hc'⟩⟩
   ·rw [List.getElem?_set_ne (Ne.symm hj)] at e2
    obtain ⟨u',r',q⟩:=hl j y v' e1 e2 e3
    refine ⟨u',r',?_⟩
    rcases q with q | ⟨k,c',e,z'⟩
    ·exact .inl q
    ·refine .inr ⟨k,c',e,z'.sameBut hs ?_⟩
     rintro rfl
     exact hj (nodup_ix hN e1 (I.ok.inj _ _ _ e hc ▸ hi))
  ·by_cases hcc:c'=c
   ·subst hcc;exact ⟨_,hc'⟩
   ·obtain ⟨w2,z2⟩:=I.cell y c' e
    exact ⟨w2,z2.sameBut hs hcc⟩
  ·obtain ⟨e,n,ne,nf,d⟩:=I.pin p hp
   refine ⟨(hs.2 p.1 ?_).trans e,n,ne,nf,d⟩
   intro q
   rw [q,hoc] at e
   have q':oc=p.2:=Option.some.inj e
   exact d w' (by rw [<- q'];exact hocd)
theorem store_ok {M:Model} {A:Around} {E:Value->Shared->Prop} {i:Nat} {x:Str} {v:V} {u:Value} {Q:Unit->Shared->Prop} (I:Inv X pins σ H s) (hN:X.N.Nodup) (hi:X.N[i]?=some x) (hx:Loc X.env.scope x) (r:RelV v u)
  (h:∀ s',Inv X pins (σ.set i (some v)) H s'->Q () s') (hf:X.fn x=true\/X.env.scope.names.lookup x=some .local:=by first | exact .inl rfl | exact .inr rfl | assumption):wpAny M A (storeName X.env x u) Q E s :=
 store_ok2 I hN hi hx r (fun s' I' _=>h s' I') hf
theorem Inv.call' {s':Shared} {ch:List Addr} (I:Inv X pins σ H s) (ho:s'.os=s.os) (u:Un (frs X.stack) ch H H' s.heap s'.heap) (hok:HOk X.prog X.w H' s'.heap) (hg:AllBare s'.gens)
  (hch:∀ b∈ch,(b∈X.ex\/X.s₀.heap.objs.size<=b)/\b≠X.env.locals/\(∀ x c,X.env.cells.lookup x=some c->c≠b)/\∀ p∈X.pn++pins,p.1≠b):Inv X pins σ H' s':=by
 obtain ⟨h',g',d',t',o'⟩:=s'
 have e:o'=s.os:=ho
 subst e
 exact I.call (g':=g') (t':=t') (d':=d') u hok hg hch
end
abbrev XK:=Value->Option Addr->Hp->Prop
abbrev St:=List (Option V)
abbrev VK:=V->Hp->Prop
abbrev TE:=St->Hp->VK->Prop
abbrev TT:=St->Hp->(Bool->Hp->Prop)->Prop
abbrev TA:=St->Hp->(List V->Hp->Prop)->Prop
structure Ends where
 nx:St->Hp->Prop
 rt:VK
 bk:St->Hp->Prop:=fun _ _=>False
 ct:St->Hp->Prop:=fun _ _=>False
abbrev TS:=Ends->St->Hp->Prop
def EP (X:Cx) (pins:List (Addr×Obj)) (σ:St) (Q:VK) (u:Value) (s':Shared):Prop:=∃ v H',Inv X pins σ H' s'/\RelV v u/\Q v H'
def TP (X:Cx) (pins:List (Addr×Obj)) (σ:St) (Q:Bool->Hp->Prop) (b:Bool) (s':Shared):Prop:=∃ H',Inv X pins σ H' s'/\Q b H'
def AP (X:Cx) (pins:List (Addr×Obj)) (σ:St) (Q:List V->Hp->Prop) (us:List Value) (s':Shared):Prop:=∃ vs H',Inv X pins σ H' s'/\Vals vs us/\Q vs H'
def SP (X:Cx) (pins:List (Addr×Obj)) (D:Ends) (f:Flow) (s':Shared):Prop :=
 match f with
 | .next=>∃ σ' H',Inv X pins σ' H' s'/\D.nx σ' H'
 | .brk=>∃ σ' H',Inv X pins σ' H' s'/\D.bk σ' H'
 | .cont=>∃ σ' H',Inv X pins σ' H' s'/\D.ct σ' H'
 | .ret u=>∃ v σ' H',Inv X pins σ' H' s'/\RelV v u/\D.rt v H'
def PE (X:Cx) (e:Expr) (t:TE):Prop :=
 ∀ (pins:List (Addr×Obj)) (s:Shared) (σ:St) (H:Hp) (Q:VK),Inv X pins σ H s->t σ H Q->wpAny (model X.prog X.w) X.A (eval e X.env) (EP X pins σ Q) X.xe s
def PT (X:Cx) (e:Expr) (t:TT):Prop :=
 ∀ (pins:List (Addr×Obj)) (s:Shared) (σ:St) (H:Hp) (Q:Bool->Hp->Prop),Inv X pins σ H s->t σ H Q->wpAny (model X.prog X.w) X.A (isTrue e X.env (eval e X.env)) (TP X pins σ Q) X.xe s
def PW (X:Cx) (e:Expr) (t:TT):Prop :=
 ∀ (whole:Sem Value) (pins:List (Addr×Obj)) (s:Shared) (σ:St) (H:Hp) (Q:Bool->Hp->Prop),Inv X pins σ H s->t σ H Q->wpAny (model X.prog X.w) X.A (isTrue e X.env whole) (TP X pins σ Q) X.xe s
theorem PW.pt {X:Cx} {e:Expr} {t:TT} (h:PW X e t):PT X e t:=h _
def PA (X:Cx) (es:List Expr) (t:TA):Prop :=
 ∀ (pos:Pos) (pins:List (Addr×Obj)) (s:Shared) (σ:St) (H:Hp) (Q:List V->Hp->Prop),Inv X pins σ H s->t σ H Q->wpAny (model X.prog X.w) X.A (spliced (backTo pos (starEach es X.env))) (AP X pins σ Q) X.xe s
def PS (X:Cx) (st:Stmt) (t:TS):Prop :=
 ∀ (pins:List (Addr×Obj)) (s:Shared) (σ:St) (H:Hp) (D:Ends),Inv X pins σ H s->t D σ H->wpAny (model X.prog X.w) X.A (exec st X.env) (SP X pins D) X.xe s
def PSs (X:Cx) (st:List Stmt) (t:TS):Prop :=
 ∀ (pins:List (Addr×Obj)) (s:Shared) (σ:St) (H:Hp) (D:Ends),Inv X pins σ H s->t D σ H->wpAny (model X.prog X.w) X.A (execs st X.env) (SP X pins D) X.xe s
theorem thn {α:Type} {t:Sem α} {Q Q':α->Shared->Prop} {M:Model} {A:Around} {E:Value->Shared->Prop} {s:Shared} (h:wpAny M A t Q E s) (hQ:∀ a s,Q a s->Q' a s):wpAny M A t Q' E s:=wpAny_mono h hQ fun _ _ x=>x
end L2
namespace L2
open PySem PySem.Spec PyProof.Rows
section
variable {X:Cx}
theorem bin {a b:Expr} {ta tb:TE} (ha:PE X a ta) (hb:PE X b tb) {pins:List (Addr×Obj)} {s:Shared} {σ:St} {H:Hp} {R:V->V->Hp->Prop} (I:Inv X pins σ H s) (h:ta σ H fun x H1=>tb σ H1 fun y H2=>R x y H2)
  {α:Type} {Q:α->Shared->Prop} {f:Value->Value->Sem α}
  (hf:∀ v u s2 x y H2,Inv X pins σ H2 s2->RelV x v->RelV y u->R x y H2->wpAny (model X.prog X.w) X.A (f v u) Q X.xe s2) :
  wpAny (model X.prog X.w) X.A (eval a X.env) (fun v s₁=>wpAny (model X.prog X.w) X.A (eval b X.env) (fun u s₂=>wpAny (model X.prog X.w) X.A (f v u) Q X.xe s₂) X.xe s₁) X.xe s:=by
 refine thn (ha pins s σ H _ I h) fun v s1 ⟨x,H1,I1,r1,q1⟩=>?_
 refine thn (hb pins s1 σ H1 _ I1 q1) fun u s2 ⟨y,H2,I2,r2,q2⟩=>?_
 exact hf v u s2 x y H2 I2 r1 r2 q2
def tVar (i:Nat):TE:=fun σ H Q=>∃ v,σ[i]?=some (some v)/\Q v H
def tC (v:V):TE:=fun _ H Q=>Q v H
theorem oy {i:Nat} {x:Str} {pos:Pos} (hN:X.N[i]?=some x) (hv:Vis X.env.scope x) (hd:(x==("__debug__" : Str))=false:=by decide) (hcd:(x==("__classdict__" : Str))=false:=by decide):PE X (.Name x pos) (tVar i):=by
 intro pins s σ H Q I h
 obtain ⟨v,e,h⟩:=h
 obtain ⟨m,hn,hl⟩:=I.loc
 obtain ⟨u,r,l⟩:=hl i x v hN e hv
 have fin:EP X pins σ Q u s:=⟨v,H,I,r,h⟩
 rcases l with ⟨hk,hm⟩ | ⟨hk,c,hc,hcell⟩
 ·exact wpAny_Name (wpAny_loadName_local I.ok.kind hk hn hm fin) hd
 ·rcases hk with hk | hk
  ·exact wpAny_Name (wpAny_loadName_cell I.ok.kind hk hc hcell fin) hd
  ·exact wpAny_Name (wpAny_loadName_free I.ok.kind hk hc hcell fin hcd) hd
theorem pe_int {i j pos}:PE X (.Constant (.int i) j pos) (tC (.int i)):=fun _ _ _ H _ I h=>wpAny_Constant_int ⟨.int i,H,I.tok _,⟨_,rfl⟩,h⟩
theorem pe_bl {b j pos}:PE X (.Constant (.bool b) j pos) (tC (.bl b)):=fun _ _ _ H _ I h=>Constant_bool ⟨.bl b,H,I,rfl,h⟩
theorem pe_non {j pos}:PE X (.Constant .none j pos) (tC .non):=fun _ _ _ H _ I h=>Constant_none ⟨.non,H,I,rfl,h⟩
theorem pe_str {x j pos}:PE X (.Constant (.str x) j pos) (tC (.str x)):=fun _ _ _ H _ I h=>Calls.Constant_str ⟨.str x,H,I.tok _,⟨_,rfl⟩,h⟩
def Gl (X:Cx) (x:Str):Prop:=X.env.kindOf x=some .globalImplicit
theorem oH {E:Value->Shared->Prop} {pins:List (Addr×Obj)} {s:Shared} {σ:St} {H:Hp} {x:Str} {u:Value} {pos:Pos} {Q:Value->Shared->Prop} (I:Inv X pins σ H s) (hg:Gl X x) (hm:X.mg x=some u) (h:Q u s)
  (hd:(x==("__debug__" : Str))=false:=by decide):wpAny (model X.prog X.w) X.A (eval (.Name x pos) X.env) Q E s :=
 Calls.Name_function_global I.ok.kind hg (Calls.loadGlobal_global (by rw [I.ok.glob];exact I.mod.glob.keeps I.bk) hm h) hd
theorem fO {E:Value->Shared->Prop} {pins:List (Addr×Obj)} {s:Shared} {σ:St} {H:Hp} {x:Str} {u:Value} {pos:Pos} {Q:Value->Shared->Prop} (I:Inv X pins σ H s) (hg:Gl X x) (hm:X.mg x=none) (hv:bootBuiltins x=some u) (h:Q u s)
  (hn:x ≠ "__name__":=by decide) (hd:(x==("__debug__" : Str))=false:=by decide):wpAny (model X.prog X.w) X.A (eval (.Name x pos) X.env) Q E s:=by
 obtain ⟨mb,h1,h2⟩:=I.mod.blt
 exact Calls.Name_function_global I.ok.kind hg (Calls.loadGlobal_builtin (by rw [I.ok.glob];exact I.mod.glob.keeps I.bk) hm (by rw [I.ok.blt];exact h1.keeps I.bk) ((h2 x hn).trans hv) h) hd
theorem kY {x:Str} {v:V} {u:Value} {pos:Pos} (hg:Gl X x) (hm:X.mg x=some u) (r:RelV v u) (hd:(x==("__debug__" : Str))=false:=by decide):PE X (.Name x pos) (tC v) :=
 fun _ _ _ H _ I h=>oH I hg hm ⟨v,H,I,r,h⟩ hd
theorem sw {x:Str} {v:V} {u:Value} {pos:Pos} (hg:Gl X x) (hm:X.mg x=none) (hv:bootBuiltins x=some u) (r:RelV v u) (hn:x ≠ "__name__":=by decide) (hd:(x==("__debug__" : Str))=false:=by decide):PE X (.Name x pos) (tC v) :=
 fun _ _ _ H _ I h=>fO I hg hm hv ⟨v,H,I,r,h⟩ hn hd
variable {a b:Expr} {ta tb:TE} {pos:Pos}
variable {tA tB':TT} {rest:List Expr}
def tAnd (t u:TT):TT:=fun σ H Q=>t σ H fun c H1=>if c=true then u σ H1 Q else Q false H1
def tOr (t u:TT):TT:=fun σ H Q=>t σ H fun c H1=>if c=true then Q true H1 else u σ H1 Q
def tNot (t:TT):TT:=fun σ H Q=>t σ H fun c H1=>Q (!c) H1
theorem pw_and1 (ha:PT X a tA):PW X (.BoolOp .And [a] pos) tA:=by
 intro wh pins s σ H Q I h
 refine isTrue_and (thn (ha pins s σ H Q I h) fun c s1 e=>?_)
 cases c with
 | true=>exact isTrue_and_nil e
 | false=>exact e
theorem pw_or1 (ha:PT X a tA):PW X (.BoolOp .Or [a] pos) tA:=by
 intro wh pins s σ H Q I h
 refine isTrue_or (thn (ha pins s σ H Q I h) fun c s1 e=>?_)
 cases c with
 | false=>exact isTrue_or_nil e
 | true=>exact e
theorem pw_and (ha:PT X a tA) (hb:PW X (.BoolOp .And (b::rest) pos) tB'):PW X (.BoolOp .And (a::b::rest) pos) (tAnd tA tB'):=by
 intro wh pins s σ H Q I h
 refine isTrue_and (thn (ha pins s σ H _ I h) fun c s1 ⟨H1,I1,q1⟩=>?_)
 cases c with
 | true=>exact hb wh pins s1 σ H1 Q I1 q1
 | false=>exact ⟨H1,I1,q1⟩
theorem pw_or (ha:PT X a tA) (hb:PW X (.BoolOp .Or (b::rest) pos) tB'):PW X (.BoolOp .Or (a::b::rest) pos) (tOr tA tB'):=by
 intro wh pins s σ H Q I h
 refine isTrue_or (thn (ha pins s σ H _ I h) fun c s1 ⟨H1,I1,q1⟩=>?_)
 cases c with
 | true=>exact ⟨H1,I1,q1⟩
 | false=>exact hb wh pins s1 σ H1 Q I1 q1
theorem tz (ha:PT X a tA):PT X (.UnaryOp .Not a pos) (tNot tA):=by
 intro pins s σ H Q I h
 exact isTrue_not (ha pins s σ H (fun c H1=>Q (!c) H1) I h)
def tAndV (ta tb:TE):TE:=fun σ H Q=>ta σ H fun x H1=>∃ c,x=.bl c/\if c=true then tb σ H1 Q else Q (.bl false) H1
def tOrV (ta tb:TE):TE:=fun σ H Q=>ta σ H fun x H1=>∃ c,x=.bl c/\if c=true then Q (.bl true) H1 else tb σ H1 Q
def tNotV (ta:TE):TE:=fun σ H Q=>ta σ H fun x H1=>∃ c,x=.bl c/\Q (.bl (!c)) H1
theorem tq {op} {t:TE} (h:PE X a t):PE X (.BoolOp op [a] pos) t:=fun pins s σ H Q I hw=>BoolOp_one (h pins s σ H Q I hw)
theorem tE (ha:PE X a ta) (hb:PE X (.BoolOp .And (b::rest) pos) tb):PE X (.BoolOp .And (a::b::rest) pos) (tAndV ta tb):=by
 intro pins s σ H Q I h
 refine BoolOp_and (thn (ha pins s σ H _ I h) fun v s1 ⟨x,H1,I1,r1,q1⟩=>?_)
 obtain ⟨c,rfl,q1⟩:=q1
 cases r1
 refine wpAny_truthy_bool ?_
 cases c with
 | true=>exact hb pins s1 σ H1 Q I1 q1
 | false=>exact ⟨.bl false,H1,I1,rfl,q1⟩
theorem uy (ha:PE X a ta) (hb:PE X (.BoolOp .Or (b::rest) pos) tb):PE X (.BoolOp .Or (a::b::rest) pos) (tOrV ta tb):=by
 intro pins s σ H Q I h
 refine BoolOp_or (thn (ha pins s σ H _ I h) fun v s1 ⟨x,H1,I1,r1,q1⟩=>?_)
 obtain ⟨c,rfl,q1⟩:=q1
 cases r1
 refine wpAny_truthy_bool ?_
 cases c with
 | false=>exact hb pins s1 σ H1 Q I1 q1
 | true=>exact ⟨.bl true,H1,I1,rfl,q1⟩
theorem tj (ha:PE X a ta):PE X (.UnaryOp .Not a pos) (tNotV ta):=by
 intro pins s σ H Q I h
 refine UnaryOp_ (thn (ha pins s σ H _ I h) fun v s1 ⟨x,H1,I1,r1,q1⟩=>?_)
 obtain ⟨c,rfl,q1⟩:=q1
 cases r1
 exact not_of (wpAny_truthy_bool ⟨.bl (!c),H1,I1,rfl,q1⟩)
def tIf (t:TT) (ta tb:TE):TE:=fun σ H Q=>t σ H fun c H1=>if c=true then ta σ H1 Q else tb σ H1 Q
theorem rS {c:Expr} (hc:PT X c tA) (ha:PE X a ta) (hb:PE X b tb):PE X (.IfExp c a b pos) (tIf tA ta tb):=by
 intro pins s σ H Q I h
 refine wpAny_IfExp (thn (hc pins s σ H _ I h) fun d s1 ⟨H1,I1,q1⟩=>?_)
 cases d with
 | true=>exact ha pins s1 σ H1 Q I1 q1
 | false=>exact hb pins s1 σ H1 Q I1 q1
end
end L2
namespace L2
open PySem PySem.Spec PyProof.Rows
def SqL (K:PySem.W.Frag) (H:Hp) (a:Addr) (xs:List V):Prop :=
 Rd H a (.lst xs) \/
  ∃ (o:Obj) (its:Array Value) (n:Nat),K.lookup a=some o/\o.cls=.type "list" /\ o.dict=none/\o.data=.seq its n/\its.size<=sizeLine/\Vals xs its.toList
def SqT (K:PySem.W.Frag) (H:Hp) (a:Addr) (xs:List V):Prop :=
 Rd H a (.tup xs) \/
  ∃ (o:Obj) (its:Array Value) (n:Nat),K.lookup a=some o/\o.cls=.type "tuple" /\ o.dict=none/\o.data=.seq its n/\its.size<=sizeLine/\Vals xs its.toList
def absV:Value->Option V
 | .none=>some .non
 | .bool b=>some (.bl b)
 | .int i _=>some (.int i)
 | .str x _=>some (.str x)
 | .bytes b _=>some (.byt b)
 | .float b _=>some (.flt b)
 | .ref a=>some (.ref a)
 | .type n=>some (.ty n)
 | _=>none
theorem RelV.abs {x:V} {u:Value} (r:RelV x u):absV u=some x:=by
 cases x with
 | non=>cases r;rfl
 | bl _=>cases r;rfl
 | int _=>obtain ⟨t,rfl⟩:=r;rfl
 | str _=>obtain ⟨t,rfl⟩:=r;rfl
 | byt _=>obtain ⟨t,rfl⟩:=r;rfl
 | flt _=>obtain ⟨t,rfl⟩:=r;rfl
 | ref _=>cases r;rfl
 | ty _=>cases r;rfl
theorem RelV.inj {x y:V} {u:Value} (r:RelV x u) (q:RelV y u):x=y:=Option.some.inj (r.abs.symm.trans q.abs)
theorem Vals.inj:∀ {xs ys:List V} {us:List Value},Vals xs us->Vals ys us->xs=ys
 | _,_,_,.nil,.nil=>rfl
 | _,_,_,.cons r t,.cons r' t'=>by rw [r.inj r',Vals.inj t t']
section
variable {X:Cx} {pins:List (Addr×Obj)} {σ:St} {H:Hp} {s:Shared} {a:Addr} {xs ys:List V}
theorem SqL.of {K:PySem.W.Frag} (h:H a=some (.lst xs)):SqL K H a xs:=.inl (.inl h)
theorem SqT.of {K:PySem.W.Frag} (h:H a=some (.tup xs)):SqT K H a xs:=.inl (.inl h)
theorem Inv.list (I:Inv X pins σ H s) (h:SqL X.K H a xs):∃ its:List Value,Vals xs its/\PlainL s.heap a its.toArray/\xs.length<=sizeLine:=by
 rcases h with h | ⟨o,its,n,hk,hc,hd,hs,hz,r⟩
 ·obtain ⟨z,its,n,r,e⟩:=h.ok I.hok
  exact ⟨its,r,⟨_,n,e,rfl,rfl,rfl⟩,z⟩
 ·refine ⟨its.toList,r,⟨o,n,I.kIn a o hk,hc,hd,by simpa using hs⟩,?_⟩
  have e:=r.length
  simp only [Array.length_toList] at e
  omega
theorem Inv.tuple (I:Inv X pins σ H s) (h:SqT X.K H a xs):∃ its:List Value,Vals xs its/\IsTup s.heap a its.toArray/\xs.length<=sizeLine:=by
 rcases h with h | ⟨o,its,n,hk,hc,hd,hs,hz,r⟩
 ·obtain ⟨z,its,r,p⟩:=h.ok I.hok
  exact ⟨its,r,p.is,z⟩
 ·refine ⟨its.toList,r,⟨o,I.kIn a o hk,hc,n,by simpa using hs⟩,?_⟩
  have e:=r.length
  simp only [Array.length_toList] at e
  omega
theorem Inv.list_inj (I:Inv X pins σ H s) (h:SqL X.K H a xs) (h':SqL X.K H a ys):xs=ys:=by
 obtain ⟨its,r,⟨o,n,e,_,_,d⟩,_⟩:=I.list h
 obtain ⟨its',r',⟨o',n',e',_,_,d'⟩,_⟩:=I.list h'
 rw [e] at e';cases e'
 rw [d] at d'
 injection d' with d1 _
 have:its=its':=by simpa using congrArg Array.toList d1
 subst this
 exact r.inj r'
theorem Inv.tuple_inj (I:Inv X pins σ H s) (h:SqT X.K H a xs) (h':SqT X.K H a ys):xs=ys:=by
 obtain ⟨its,r,⟨o,e,_,n,d⟩,_⟩:=I.tuple h
 obtain ⟨its',r',⟨o',e',_,n',d'⟩,_⟩:=I.tuple h'
 rw [e] at e';cases e'
 rw [d] at d'
 injection d' with d1 _
 have:its=its':=by simpa using congrArg Array.toList d1
 subst this
 exact r.inj r'
end
abbrev Cx.wish (X:Cx) (E:Value->Shared->Prop):Cx:={X with xe:=E}
abbrev Cx.nox (X:Cx):Cx:=X.wish fun _ _=>False
theorem Cx.Ok.wish {X:Cx} (ok:X.Ok) (E:Value->Shared->Prop):(X.wish E).Ok :=
 ⟨ok.mod,ok.kind,ok.glob,ok.blt,ok.above,ok.inj,ok.has,ok.cab,ok.hd,ok.frames,ok.stk,ok.exf,ok.bs,ok.bsz,ok.noex,ok.exfs,ok.funs,ok.frf⟩
theorem Cx.Ok.unwish {X:Cx} {E:Value->Shared->Prop} (ok:(X.wish E).Ok):X.Ok :=
 ⟨ok.mod,ok.kind,ok.glob,ok.blt,ok.above,ok.inj,ok.has,ok.cab,ok.hd,ok.frames,ok.stk,ok.exf,ok.bs,ok.bsz,ok.noex,ok.exfs,ok.funs,ok.frf⟩
section
variable {X:Cx} {pins:List (Addr×Obj)} {σ:St} {H:Hp} {s:Shared} {E:Value->Shared->Prop}
theorem Inv.wish (I:Inv X pins σ H s) (E:Value->Shared->Prop):Inv (X.wish E) pins σ H s:=⟨I.ok.wish E,I.os,I.bare,I.base,I.loc,I.cell,I.free,I.freeC,I.pin,I.hok,I.len⟩
theorem Inv.unwish (I:Inv (X.wish E) pins σ H s):Inv X pins σ H s:=⟨I.ok.unwish,I.os,I.bare,I.base,I.loc,I.cell,I.free,I.freeC,I.pin,I.hok,I.len⟩
theorem SP.unwish {D:Ends} {f:Flow} {s':Shared} (h:SP (X.wish E) pins D f s'):SP X pins D f s':=by
 cases f with
 | next=>obtain ⟨σ',H',I,q⟩:=h;exact ⟨σ',H',I.unwish,q⟩
 | brk=>obtain ⟨σ',H',I,q⟩:=h;exact ⟨σ',H',I.unwish,q⟩
 | cont=>obtain ⟨σ',H',I,q⟩:=h;exact ⟨σ',H',I.unwish,q⟩
 | ret u=>obtain ⟨v,σ',H',I,r,q⟩:=h;exact ⟨v,σ',H',I.unwish,r,q⟩
theorem PE.nox {e:Expr} {t:TE} (h:PE X.nox e t):PE X e t:=fun pins s σ H Q I hw =>
 wpAny_mono (h pins s σ H Q (I.wish _) hw) (fun _ _ ⟨v,H',I',r,q⟩=>⟨v,H',I'.unwish,r,q⟩) fun _ _ z=>False.elim z
theorem PT.nox {e:Expr} {t:TT} (h:PT X.nox e t):PT X e t:=fun pins s σ H Q I hw =>
 wpAny_mono (h pins s σ H Q (I.wish _) hw) (fun _ _ ⟨H',I',q⟩=>⟨H',I'.unwish,q⟩) fun _ _ z=>False.elim z
theorem PSs.nox {st:List Stmt} {t:TS} (h:PSs X.nox st t):PSs X st t:=fun pins s σ H D I hw =>
 wpAny_mono (h pins s σ H D (I.wish _) hw) (fun _ _ q=>q.unwish) fun _ _ z=>False.elim z
end
section
variable {X:Cx} {st:Stmt} {rest:List Stmt} {t u:TS} {e:Expr} {te:TE} {pos:Pos}
def tNext:TS:=fun D σ H=>D.nx σ H
def tSeq (t u:TS):TS:=fun D σ H=>t {D with nx:=u D} σ H
theorem pss_nil:PSs X [] tNext:=fun _ _ σ H _ I h=>wpAny_execs_nil ⟨σ,H,I,h⟩
theorem dh (h1:PS X st t) (h2:PSs X rest u):PSs X (st::rest) (tSeq t u):=by
 intro pins s σ H D I h
 refine wpAny_execs_cons (thn (h1 pins s σ H {D with nx:=u D} I h) fun f s1 q=>?_)
 cases f with
 | next =>
  obtain ⟨σ',H',I',q⟩:=q
  exact h2 pins s1 σ' H' D I' q
 | ret v=>exact q
 | brk=>exact q
 | cont=>exact q
theorem gv (h1:PS X st t):PSs X [st] t:=by
 intro pins s σ H D I h
 refine wpAny_execs_cons (thn (h1 pins s σ H D I h) fun f s1 q=>?_)
 cases f with
 | next=>exact wpAny_execs_nil q
 | ret v=>exact q
 | brk=>exact q
 | cont=>exact q
theorem Inv.quiet {pins:List (Addr×Obj)} {σ:St} {H:Hp} {s:Shared} (I:Inv X pins σ H s):interactive X.env=false:=by simp [interactive,I.ok.kind]
def tDrop (te:TE):TS:=fun D σ H=>te σ H fun _ H1=>D.nx σ H1
theorem sR (he:PE X e te) (hs:swapsWith e none pos.line X.env=pure false:=by rfl):PS X (.Expr e pos) (tDrop te):=by
 intro pins s σ H D I h
 exact wpAny_Expr_any (thn (he pins s σ H _ I h) fun v s1 ⟨x,H1,I1,r1,q1⟩=>⟨σ,H1,I1,q1⟩) I.quiet hs
def tRet (te:TE):TS:=fun D σ H=>te σ H D.rt
theorem oi (he:PE X e te):PS X (.Return (some e) pos) (tRet te):=by
 intro pins s σ H D I h
 exact wpAny_Return_some (thn (he pins s σ H _ I h) fun v s1 ⟨x,H1,I1,r1,q1⟩=>⟨x,σ,H1,I1,r1,q1⟩)
def tIfS (c:TT) (t u:TS):TS:=fun D σ H=>c σ H fun b H1=>if b=true then t D σ H1 else u D σ H1
theorem rF {c:Expr} {a b:List Stmt} {tc:TT} (hc:PT X c tc) (ha:PSs X a t) (hb:PSs X b u):PS X (.If c a b pos) (tIfS tc t u):=by
 intro pins s σ H D I h
 refine wpAny_If (thn (hc pins s σ H _ I h) fun d s1 ⟨H1,I1,q1⟩=>?_)
 cases d with
 | true=>exact ha pins s1 σ H1 D I1 q1
 | false=>exact hb pins s1 σ H1 D I1 q1
end
abbrev TG:=V->St->Hp->(St->Hp->Prop)->Prop
abbrev TGs:=List V->St->Hp->(St->Hp->Prop)->Prop
def PG (X:Cx) (target:Expr) (t:TG):Prop :=
 ∀ (pins:List (Addr×Obj)) (s:Shared) (σ:St) (H:Hp) (v:V) (u:Value) (Q:St->Hp->Prop),Inv X pins σ H s->RelV v u->t v σ H Q ->
  wpAny (model X.prog X.w) X.A (assign target X.env u) (fun _ s'=>∃ σ' H',Inv X pins σ' H' s'/\Q σ' H') X.xe s
def PGs (X:Cx) (ts:List Expr) (t:TGs):Prop :=
 ∀ (pins:List (Addr×Obj)) (s:Shared) (σ:St) (H:Hp) (vs:List V) (us:List Value) (Q:St->Hp->Prop),Inv X pins σ H s->Vals vs us->t vs σ H Q ->
  wpAny (model X.prog X.w) X.A (assignInOrder ((assignEach ts X.env).map (·.2)) us) (fun _ s'=>∃ σ' H',Inv X pins σ' H' s'/\Q σ' H') X.xe s
section
variable {X:Cx} {pos:Pos}
def gName (i:Nat):TG:=fun v σ H Q=>Q (σ.set i (some v)) H
theorem sv {i:Nat} {x:Str} (hN:X.N.Nodup) (hi:X.N[i]?=some x) (hx:Loc X.env.scope x) (hf:X.fn x=true\/X.env.scope.names.lookup x=some .local:=by first | exact .inl rfl | exact .inr rfl | assumption):PG X (.Name x pos) (gName i):=by
 intro pins s σ H v u Q I r h
 exact wpAny_assign_Name (store_ok I hN hi hx r (fun s' I'=>⟨_,H,I',h⟩) hf)
def gNil:TGs:=fun vs σ H Q=>vs=[]/\Q σ H
def gCons (t:TG) (u:TGs):TGs:=fun vs σ H Q=>∃ v r,vs=v::r/\t v σ H fun σ' H'=>u r σ' H' Q
theorem pgs_nil:PGs X [] gNil:=by
 intro pins s σ H vs us Q I r h
 obtain ⟨e,h⟩:=h
 subst e
 cases r
 exact assignInOrder_nil ⟨σ,H,I,h⟩
theorem pgs_cons {e:Expr} {es:List Expr} {t:TG} {u:TGs} (h1:PG X e t) (h2:PGs X es u)
  (hs:(assignEach (e::es) X.env).map (·.2)=assign e X.env::(assignEach es X.env).map (·.2):=by rfl):PGs X (e::es) (gCons t u):=by
 intro pins s σ H vs us Q I r h
 obtain ⟨v,vr,e1,h⟩:=h
 subst e1
 cases r with
 | cons r rr =>
  rw [hs]
  refine assignInOrder_cons (thn (h1 pins s σ H _ _ _ I r h) fun _ s1 ⟨σ1,H1,I1,q1⟩=>?_)
  exact h2 pins s1 σ1 H1 _ _ Q I1 rr q1
def gTup (K:PySem.W.Frag) (n:Nat) (t:TGs):TG:=fun v σ H Q=>∃ a xs,v=.ref a/\SqT K H a xs/\xs.length=n/\t xs σ H Q
theorem tF {es:List Expr} {k:Nat} {t:TGs} {n:Nat} (hc:X.calm=true) (h:PGs X es t)
  (hn:(assignEach es X.env).length=n:=by rfl) (hst:(assignEach es X.env).findIdx? (·.1)=none:=by rfl):PG X (.Tuple es k pos) (gTup X.K n t):=by
 intro pins s σ H v u Q I r hw
 obtain ⟨a,xs,e1,hq,hl,hw⟩:=hw
 subst e1
 cases r
 obtain ⟨its,rv,ht,hz⟩:=I.tuple hq
 refine assign_Tuple_tuple (I.ok.hd hc) ht (by simp [hn,<- hl,rv.length]) hst fun h' hx=>?_
 have I1:Inv X pins σ H {s with heap:=h' }:=I.kept (t':=s.toks) fun b o e=>hx b o (Nat.ne_of_lt (Heap.lt_size e)) e
 exact h pins _ σ H xs _ Q I1 (by simpa using rv) hw
def tAsg (te:TE) (g:TG):TS:=fun D σ H=>te σ H fun x H1=>g x σ H1 D.nx
theorem tN {tg e:Expr} {te:TE} {g:TG} (he:PE X e te) (hg:PG X tg g) (hs:swapsWithSole [tg] e pos.line X.env=pure false:=by rfl) (hw:swappedStores [tg] e X.env=pure none:=by rfl)
  (h1:(assignEach [tg] X.env).map (·.2)=[assign tg X.env]:=by rfl):PS X (.Assign [tg] e pos) (tAsg te g):=by
 intro pins s σ H D I h
 refine wpAny_Assign_stores (thn (he pins s σ H _ I h) fun v s1 ⟨x,H1,I1,r1,q1⟩=>?_) hs hw
 rw [h1]
 exact thn (hg pins s1 σ H1 x v _ I1 r1 q1) fun _ s2 q=>q
theorem jz {i:Nat} {x:Str} {e:Expr} {te:TE} {pos':Pos} (hN:X.N.Nodup) (hi:X.N[i]?=some x) (hx:Loc X.env.scope x) (he:PE X e te) (hs:swapsWith e (some (.Name x pos')) pos.line X.env=pure false:=by rfl) (hf:X.fn x=true\/X.env.scope.names.lookup x=some .local:=by first | exact .inl rfl | exact .inr rfl | assumption) :
  PS X (.Assign [.Name x pos'] e pos) (tAsg te (gName i)):=by
 intro pins s σ H D I h
 refine wpAny_Assign_Name (thn (he pins s σ H _ I h) fun v s1 ⟨y,H1,I1,r1,q1⟩=>?_) hs
 exact store_ok I1 hN hi hx r1 (fun s2 I2=>⟨_,H1,I2,q1⟩) hf
end
section
variable {X:Cx} {pos:Pos}
end
structure It where
 go:Nat->Hp->Prop
 yld:Nat->Hp->V->Hp->Prop
 stop:Nat->Hp->Prop
def FpOk (X:Cx) (pins:List (Addr×Obj)) (H:Hp) (b:Addr):Prop :=
 H b=none/\b≠X.env.locals/\b∉X.fs/\(b∈X.ex\/X.s₀.heap.objs.size<=b)/\(∀ x c,X.env.cells.lookup x=some c->c≠b)/\∀ p∈X.pn++pins,p.1≠b
theorem Inv.fpOk {X:Cx} {pins:List (Addr×Obj)} {σ:St} {H H':Hp} {s:Shared} {b:Addr} (I:Inv X pins σ H s) (hb:s.heap.objs.size<=b) (hn:H' b=none):FpOk X pins H' b:=by
 refine ⟨hn,Nat.ne_of_gt (Nat.lt_of_lt_of_le I.lt hb),I.nofs hb,.inr (Nat.le_trans I.sz hb),fun x c e z=>?_,fun p hp z=>?_⟩
 ·obtain ⟨v,q⟩:=I.cell x c e
  exact absurd (Nat.lt_of_lt_of_le q.lt (by rw [z];exact hb)) (Nat.lt_irrefl _)
 ·exact absurd (Nat.lt_of_lt_of_le (Heap.lt_size (I.pin p hp).1) (by rw [z];exact hb)) (Nat.lt_irrefl _)
structure Turn (P:Program) (w:World) (K:PySem.W.Frag) (tg:Expr) (J:It) (fp:List Addr) (it:Addr) (tn:Nat->Heap->Prop):Prop where
 mem:it∈fp
 obj:∀ i h,tn i h->∀ b∈fp,∃ o,h.get? b=some o/\∀ v,o.data≠.cell v
 keep:∀ i h h',tn i h->(∀ b∈fp,∀ o,h.get? b=some o->h'.get? b=some o)->tn i h'
 item:∀ (X:Cx),X.prog=P->X.w=w->X.K=K->X.calm=true->∀ (i:Nat) (pins:List (Addr×Obj)) (s:Shared) (σ:St) (H:Hp) (E:Value->Shared->Prop),Inv X pins σ H s->(∀ b∈fp,FpOk X pins H b)->tn i s.heap->J.go i H ->
  wpAny (model P w) X.A (pyNext (.ref it)) (fun r s1=>∃ u,r=some u /\
   wpAny (model P w) X.A (letOwnedTupleGo tg (.ref it) u) (fun _ s2=>∃ x H',Inv X pins σ H' s2/\RelV x u/\J.yld i H x H'/\tn (i+1) s2.heap/\∀ b∈fp,H' b=none) E s1) E s
 done:∀ (X:Cx),X.prog=P->X.w=w->X.K=K->X.calm=true->∀ (i:Nat) (pins:List (Addr×Obj)) (s:Shared) (σ:St) (H:Hp) (E:Value->Shared->Prop),Inv X pins σ H s->(∀ b∈fp,FpOk X pins H b)->tn i s.heap->J.stop i H ->
  wpAny (model P w) X.A (pyNext (.ref it)) (fun r s1=>r=none/\Inv X pins σ H s1) E s
 self:∀ (A:Around) (i:Nat) (s:Shared) (Q:Value->Shared->Prop) (E:Value->Shared->Prop),tn i s.heap->Q (.ref it) s->wpAny (model P w) A (pyIter (.ref it)) Q E s
abbrev TI:=St->Hp->(It->Hp->Prop)->Prop
def PIE (X:Cx) (pins:List (Addr×Obj)) (σ:St) (tg:Expr) (R:It->Hp->Prop) (itv:Value) (s2:Shared):Prop :=
 ∃ (it:Addr) (fp:List Addr) (tn:Nat->Heap->Prop) (J:It) (H':Hp),itv=.ref it/\Inv X pins σ H' s2/\Turn X.prog X.w X.K tg J fp it tn/\tn 0 s2.heap/\(∀ b∈fp,FpOk X pins H' b)/\R J H'
def PI (X:Cx) (tg iter:Expr) (wi:TI):Prop :=
 ∀ (pins:List (Addr×Obj)) (s:Shared) (σ:St) (H:Hp) (R:It->Hp->Prop),Inv X pins σ H s->wi σ H R ->
  wpAny (model X.prog X.w) X.A (eval iter X.env) (fun v s1=>wpAny (model X.prog X.w) X.A (pyIter v) (PIE X pins σ tg R) X.xe s1) X.xe s
theorem go_of {M:Model} {A:Around} {E:Value->Shared->Prop} {s:Shared} {tg:Expr} {it:Addr} {u:Value} {o:Obj} {n:String} {vs:Array Value} {Q:Unit->Shared->Prop} (ho:s.heap.get? it=some o) (hc:o.cls=.type n) (hd:o.data=.fields vs)
    (hn:["enumerate","zip","dict_itemiterator","dict_reverseitemiterator","odict_iterator","itertools.zip_longest","itertools.pairwise"].contains n=false) (hQ:Q () s):wpAny M A (letOwnedTupleGo tg (.ref it) u) Q E s:=by
  unfold letOwnedTupleGo
  cases tg<;>first
    | exact wpAny_pure hQ
    | (cases u<;>first
        | exact wpAny_pure hQ
        | (refine wpAny_bind (wpAny_load ho ?_)
           rw [hc,hd]
           show wpAny M A (if (["enumerate","zip","dict_itemiterator","dict_reverseitemiterator","odict_iterator","itertools.zip_longest","itertools.pairwise"].contains n&&vs[0]?==some (rawInt _))=true then _ else _) Q E s
           rw [if_neg (by intro h;rw [hn,Bool.false_and] at h;cases h)]
           exact wpAny_pure hQ))
def Itl (K:PySem.W.Frag) (a:Addr):It :=
 ⟨fun i H=>∃ xs x,SqL K H a xs/\xs[i]?=some x,fun i H x H'=>H'=H/\∀ xs,SqL K H a xs->xs[i]?=some x,fun i H=>∃ xs,SqL K H a xs/\xs.length<=i⟩
def Itt (K:PySem.W.Frag) (a:Addr):It :=
 ⟨fun i H=>∃ xs x,SqT K H a xs/\xs[i]?=some x,fun i H x H'=>H'=H/\∀ xs,SqT K H a xs->xs[i]?=some x,fun i H=>∃ xs,SqT K H a xs/\xs.length<=i⟩
def Itr (lo:Int) (n:Nat):It:=⟨fun i _=>i<n,fun i H x H'=>H'=H/\x=.int (lo+i),fun i _=>n<=i⟩
theorem turn_list {P:Program} {w:World} {K:PySem.W.Frag} {tg:Expr} (a it:Addr):Turn P w K tg (Itl K a) [it] it (fun i h=>h.IsListIter it a i) where
 mem:=by simp
 obj:=fun i h st b hb=>by
  have e:b=it:=by simpa using hb
  subst e
  obtain ⟨o,e,c,d⟩:=st
  exact ⟨o,e,fun v z=>by rw [d] at z;cases z⟩
 keep:=fun i h h' st k=>st.at fun o e=>k it (by simp) o e
 item:=by
  intro X hP hw hK hc i pins s σ H E I hf st hg
  subst hP hw hK
  obtain ⟨xs,x,hq,hx⟩:=hg
  obtain ⟨its,rv,p,hz⟩:=I.list hq
  obtain ⟨u,hu,ru⟩:=rv.get hx
  obtain ⟨f0,f1,f2,f3,f4,f5⟩:=hf it (by simp)
  refine wpAny_pyNext_list_item st p.isList (x:=u) (by simpa using hu) fun h' st' sb=>?_
  have I1:Inv X pins σ H {s with heap:=h' }:=I.turned (t':=s.toks) (fun b o hb e=>(sb.2 b hb).trans e) f0 f1 f3 f4 f5
  obtain ⟨o,e,c,d⟩:=id st'
  exact ⟨u,rfl,go_of (s:={s with heap:=h' }) e c d (by decide) ⟨x,H,I1,ru,⟨rfl,fun ys hy=>by rw [I.list_inj hy hq];exact hx⟩,st',fun b hb=>(hf b hb).1⟩⟩
 done:=by
  intro X hP hw hK hc i pins s σ H E I hf st hg
  subst hP hw hK
  obtain ⟨xs,hq,hx⟩:=hg
  obtain ⟨its,rv,p,hz⟩:=I.list hq
  obtain ⟨f0,f1,f2,f3,f4,f5⟩:=hf it (by simp)
  have hl:=rv.length
  exact wpAny_pyNext_list_end (I.ok.hd hc) st p.isList (by simp;omega) fun h' eb=>⟨rfl,I.turned (t':=s.toks) (fun b o hb e=>eb b o hb e) f0 f1 f3 f4 f5⟩
 self:=fun _ _ _ _ _ st h=>wpAny_pyIter_listiter st h
theorem turn_tuple {P:Program} {w:World} {K:PySem.W.Frag} {tg:Expr} (a it:Addr):Turn P w K tg (Itt K a) [it] it (fun i h=>h.IsTupleIter it a i) where
 mem:=by simp
 obj:=fun i h st b hb=>by
  have e:b=it:=by simpa using hb
  subst e
  obtain ⟨o,e,c,d⟩:=st
  exact ⟨o,e,fun v z=>by rw [d] at z;cases z⟩
 keep:=fun i h h' st k=>st.at fun o e=>k it (by simp) o e
 item:=by
  intro X hP hw hK hc i pins s σ H E I hf st hg
  subst hP hw hK
  obtain ⟨xs,x,hq,hx⟩:=hg
  obtain ⟨its,rv,p,hz⟩:=I.tuple hq
  obtain ⟨u,hu,ru⟩:=rv.get hx
  obtain ⟨f0,f1,f2,f3,f4,f5⟩:=hf it (by simp)
  refine wpAny_pyNext_tuple_item st (show s.heap.IsTuple a its.toArray from p) (x:=u) (by simpa using hu) fun h' st' sb=>?_
  have I1:Inv X pins σ H {s with heap:=h' }:=I.turned (t':=s.toks) (fun b o hb e=>(sb.2 b hb).trans e) f0 f1 f3 f4 f5
  obtain ⟨o,e,c,d⟩:=id st'
  exact ⟨u,rfl,go_of (s:={s with heap:=h' }) e c d (by decide) ⟨x,H,I1,ru,⟨rfl,fun ys hy=>by rw [I.tuple_inj hy hq];exact hx⟩,st',fun b hb=>(hf b hb).1⟩⟩
 done:=by
  intro X hP hw hK hc i pins s σ H E I hf st hg
  subst hP hw hK
  obtain ⟨xs,hq,hx⟩:=hg
  obtain ⟨its,rv,p,hz⟩:=I.tuple hq
  obtain ⟨f0,f1,f2,f3,f4,f5⟩:=hf it (by simp)
  have hl:=rv.length
  exact wpAny_pyNext_tuple_end (I.ok.hd hc) st (show s.heap.IsTuple a its.toArray from p) (by simp;omega) fun h' eb=>⟨rfl,I.turned (t':=s.toks) (fun b o hb e=>eb b o hb e) f0 f1 f3 f4 f5⟩
 self:=fun _ _ _ _ _ st h=>wpAny_pyIter_tupleiter st h
theorem turn_range {P:Program} {w:World} {K:PySem.W.Frag} {tg:Expr} (it:Addr) (lo:Int) (n:Nat):Turn P w K tg (Itr lo n) [it] it (fun i h=>IsRangeIter h it (lo+(i:Nat)*1) ((n:Int) - (i:Nat)) 1) where
 mem:=by simp
 obj:=fun i h st b hb=>by
  have e:b=it:=by simpa using hb
  subst e
  exact ⟨_,st,fun v z=>by
   have z':Data.fields _=Data.cell v:=z
   cases z'⟩
 keep:=fun i h h' st k=>k it (by simp) _ st
 item:=by
  intro X hP hw hK hc i pins s σ H E I hf st hg
  subst hP hw hK
  obtain ⟨f0,f1,f2,f3,f4,f5⟩:=hf it (by simp)
  have W:=Walks.range (prog:=X.prog) (w:=X.w) (I.ok.hd hc) it lo 1 n
  refine W.item i s _ _ hg st fun v h' tk hv st' kk=>?_
  obtain ⟨t,rfl⟩:=hv
  have I1:Inv X pins σ H {s with heap:=h',toks:=tk}:=I.turned (fun b o hb e=>kk b o (by simpa using hb) e) f0 f1 f3 f4 f5
  refine ⟨_,rfl,go_of (s:={s with heap:=h',toks:=tk}) (n:="range_iterator") st' rfl rfl (by decide) ⟨.int (lo+i),H,I1,⟨t,?_⟩,⟨rfl,rfl⟩,st',fun b hb=>(hf b hb).1⟩⟩
  rw [Int.mul_one]
 done:=by
  intro X hP hw hK hc i pins s σ H E I hf st hg
  subst hP hw hK
  obtain ⟨f0,f1,f2,f3,f4,f5⟩:=hf it (by simp)
  exact wpAny_pyNext_range_end (I.ok.hd hc) st (by have:n<=i:=hg;omega) fun h' eb=>⟨rfl,I.turned (t':=s.toks) (fun b o hb e=>eb b o hb e) f0 f1 f3 f4 f5⟩
 self:=fun _ _ _ _ _ st h=>wpAny_pyIter_rangeiter st h
end L2
namespace L2
open PySem PySem.Spec PyProof.Rows
section
variable {X:Cx} {tg:Expr}
theorem range_it {pins:List (Addr×Obj)} {σ:St} {H:Hp} {s:Shared} {R:It->Hp->Prop} {E:Value->Shared->Prop} {lo hi:Int} {t u v:Tok} {tk:Nat} (I:Inv X pins σ H s) (h1 : -(2 ^ 62)<=lo) (h2:lo<2 ^ 62) (h3 : -(2 ^ 62)<=hi) (h4:hi<2 ^ 62)
  (q:R (Itr lo (hi - lo).toNat) H):wpAny (model X.prog X.w) X.A (pyIter (.ref s.heap.objs.size)) (PIE X pins σ tg R) E {s with heap:=s.heap.push {cls:=.type "range",data:=.fields #[.int lo t,.int hi u,.int 1 v]},toks:=tk}:=by
 refine wpAny_pyIter_range (IsRange.new ..) (small_one h1 h2 h3 h4) ?_
 have I1:Inv X pins σ H {s with heap:=s.heap.push {cls:=.type "range",data:=.fields #[.int lo t,.int hi u,.int 1 v]},toks:=tk}:=I.kept fun b o e=>Heap.get?_push_of_some _ e
 refine ⟨(s.heap.push {cls:=.type "range",data:=.fields #[.int lo t,.int hi u,.int 1 v]}).objs.size,[(s.heap.push {cls:=.type "range",data:=.fields #[.int lo t,.int hi u,.int 1 v]}).objs.size],_,_,H,rfl,
  I1.kept (t':=tk) fun b o e=>Heap.get?_push_of_some _ e,turn_range _ lo (hi - lo).toNat,?_,fun b hb=>?_,q⟩
 ·have e1:lo+((0:Nat):Int)*1=lo:=by simp
  have e2:(((hi - lo).toNat:Nat):Int) - ((0:Nat):Int)=Builtin.Range.rangeSize lo hi 1:=by rw [rangeSize_one];split<;>omega
  show IsRangeIter _ _ (lo+((0:Nat):Int)*1) ((((hi - lo).toNat:Nat):Int) - ((0:Nat):Int)) 1
  rw [e1,e2]
  exact Heap.get?_push_size _ rfl
 ·have e:b=(s.heap.push {cls:=.type "range",data:=.fields #[.int lo t,.int hi u,.int 1 v]}).objs.size:=by simpa using hb
  subst e
  exact I1.fpOk (Nat.le_refl _) (I1.hok.fresh (Nat.le_refl _))
def iRng1 (ta:TA):TI:=fun σ H R=>ta σ H fun vs H1=>∃ j:Int,vs=[.int j] /\ -(2 ^ 62)<=j/\j<2 ^ 62/\R (Itr 0 j.toNat) H1
theorem j_ {a:Expr} {ta:TA} {p pos:Pos} (hg:Gl X "range") (hm:X.mg "range" = none) (ha:PA X [a] ta) (hs:starEach [a] X.env=[(false,eval a X.env)]:=by rfl):PI X tg (.Call (.Name "range" p) [a] [] pos) (iRng1 ta):=by
 intro pins s σ H R I h
 refine Call_ (fO I hg hm boot_range (PyProof.Rows.callWith_type1 (thn (ha pos pins s σ H _ I h) fun us s1 ⟨vs,H1,I1,r1,q1⟩=>?_) hs rfl))
 obtain ⟨j,e,q1,q2,q⟩:=q1
 subst e
 cases r1 with
 | cons r rr =>
  cases rr
  obtain ⟨t,rfl⟩:=r
  exact call_range_1 (range_it I1 (by omega) (by omega) q1 q2 (by simpa using q))
def tFor (wi:TI) (g:TG) (tb:TS):TS:=fun D σ H=>wi σ H fun J H1=>∃ W:Nat->Nat->St->Hp->Prop,(∃ m,W 0 m σ H1)/\∀ i m σ H,W i m σ H ->
 (J.stop i H/\D.nx σ H)\/(J.go i H/\∃ N:St->Hp->Prop,(∀ σ' H',N σ' H'->∃ m',m'<m/\W (i+1) m' σ' H')/\∀ x H',J.yld i H x H'->g x σ H' fun σ2 H2=>tb {D with nx:=N,ct:=N,bk:=D.nx} σ2 H2)
def pinsAt (fp:List Addr) (h:Heap):List (Addr×Obj):=fp.filterMap fun b=>(h.get? b).map fun o=>(b,o)
theorem dE {fp:List Addr} {h:Heap} {b:Addr} {o:Obj} (hb:b∈fp) (e:h.get? b=some o):(b,o)∈pinsAt fp h:=List.mem_filterMap.mpr ⟨b,hb,by rw [e];rfl⟩
theorem of_pinsAt {fp:List Addr} {h:Heap} {p:Addr×Obj} (hp:p∈pinsAt fp h):p.1∈fp/\h.get? p.1=some p.2:=by
 obtain ⟨b,hb,e⟩:=List.mem_filterMap.mp hp
 cases q:h.get? b with
 | none=>rw [q] at e;cases e
 | some o =>
  rw [q] at e
  have e':(b,o)=p:=Option.some.inj e
  subst e'
  exact ⟨hb,q⟩
theorem Inv.pinned {pins:List (Addr×Obj)} {σ:St} {H:Hp} {s:Shared} {fp:List Addr} (I:Inv X pins σ H s) (hf:∀ b∈fp,FpOk X pins H b) (ho:∀ b∈fp,∃ o,s.heap.get? b=some o/\∀ v,o.data≠.cell v):Inv X (pins++pinsAt fp s.heap) σ H s :=
 I.pins_of fun p hp=>(List.mem_append.mp hp).elim (fun z=>I.pin p (List.mem_append_right _ z)) fun z=>by
  obtain ⟨hb,e⟩:=of_pinsAt z
  obtain ⟨f0,f1,f2,_⟩:=hf p.1 hb
  obtain ⟨o,e',d⟩:=ho p.1 hb
  rw [e] at e';cases e'
  exact ⟨e,f0,f1,f2,d⟩
theorem Inv.unpinned {pins pl:List (Addr×Obj)} {σ:St} {H:Hp} {s:Shared} (I:Inv X (pins++pl) σ H s):Inv X pins σ H s:=I.pins_of fun p hp=>I.pin p (List.mem_append_right _ (List.mem_append_left _ hp))
theorem ri {iter:Expr} {body:List Stmt} {wi:TI} {g:TG} {tb:TS} {pos:Pos} (hp:PassesOwn (model X.prog X.w) X.A X.env X.xe) (hc:X.calm=true) (hi:PI X tg iter wi) (hg:PG X tg g) (hb:PSs X body tb)
  (hs:∀ x,foldedSetIterable iter X.env x=pure x:=by intro _;rfl):PS X (.For tg iter body [] pos) (tFor wi g tb):=by
 intro pins s σ H D I h
 refine wpAny_For (thn (hi pins s σ H _ I h) fun v s1 h1=>thn h1 fun itv s2 h2=>?_) hs
 obtain ⟨it,fp,tn,J,H2,e,I2,T,st2,f2,W,⟨m0,w0⟩,turn⟩:=h2
 subst e
 have stat:∀ {H':Hp},(∀ b∈fp,H' b=none)->∀ b∈fp,FpOk X pins H' b:=fun hn b hb=>⟨hn b hb,(f2 b hb).2⟩
 refine codeAny_forLoop_any (fun n s'=>∃ i σ' H',Inv X pins σ' H' s'/\tn i s'.heap/\(∀ b∈fp,H' b=none)/\W i n σ' H') ?_ m0 ⟨0,σ,H2,I2,st2,fun b hb=>(f2 b hb).1,w0⟩
 rintro n s3 ⟨i,σ3,H3,I3,st3,fr3,w3⟩
 rcases turn i n σ3 H3 w3 with ⟨stop,qn⟩ | ⟨go,N,hN,step⟩
 ·refine wpAny_passesOwn hp (thn (T.done X rfl rfl rfl hc i pins s3 σ3 H3 X.xe I3 (stat fr3) st3 stop) fun r s4 ⟨hr,I4⟩=>?_)
  subst hr
  exact wpAny_execs_nil ⟨σ3,H3,I4,qn⟩
 ·refine wpAny_passesOwn hp (thn (T.item X rfl rfl rfl hc i pins s3 σ3 H3 X.xe I3 (stat fr3) st3 go) fun r s4 ⟨u,hr,h4⟩=>?_)
  subst hr
  refine wpAny_passesOwn hp (thn h4 fun _ s5 ⟨x,H5,I5,r5,y5,st5,fr5⟩=>?_)
  have I5':=I5.pinned (stat fr5) (T.obj _ _ st5)
  refine wpAny_passesOwn hp (thn (hg _ s5 σ3 H5 x u _ I5' r5 (step x H5 y5)) fun _ s6 ⟨σ6,H6,I6,q6⟩=>?_)
  refine wpAny_passesOwn hp (thn (hb _ s6 σ6 H6 _ I6 q6) fun f s7 q7=>?_)
  have again:∀ {σ7:St} {H7:Hp},Inv X (pins++pinsAt fp s5.heap) σ7 H7 s7->N σ7 H7->∃ m,m<n/\∃ i σ' H',Inv X pins σ' H' s7/\tn i s7.heap/\(∀ b∈fp,H' b=none)/\W i m σ' H':=fun {σ7 H7} I7 n7=>by
   obtain ⟨m',hm,w7⟩:=hN σ7 H7 n7
   refine ⟨m',hm,i+1,σ7,H7,I7.unpinned,T.keep _ _ _ st5 fun b hb o e=>(I7.pin (b,o) (List.mem_append_right _ (List.mem_append_right _ (dE hb e)))).1,fun b hb=>?_,w7⟩
   obtain ⟨o,e,d⟩:=T.obj _ _ st5 b hb
   exact (I7.pin (b,o) (List.mem_append_right _ (List.mem_append_right _ (dE hb e)))).2.1
  cases f with
  | next=>obtain ⟨σ7,H7,I7,n7⟩:=q7;exact again I7 n7
  | cont=>obtain ⟨σ7,H7,I7,n7⟩:=q7;exact again I7 n7
  | brk=>obtain ⟨σ7,H7,I7,q7⟩:=q7;exact ⟨σ7,H7,I7.unpinned,q7⟩
  | ret v=>obtain ⟨x7,σ7,H7,I7,r7,q7⟩:=q7;exact ⟨x7,σ7,H7,I7.unpinned,r7,q7⟩
end
end L2
namespace L2
open PySem PySem.Spec PyProof.Rows
abbrev R2:=V->V->Hp->VK->Prop
def OpR (X:Cx) (f:Value->Value->Sem Value) (r:R2):Prop :=
 ∀ (pins:List (Addr×Obj)) (s:Shared) (σ:St) (H:Hp) (x y:V) (v u:Value) (Q:VK),Inv X pins σ H s->RelV x v->RelV y u->r x y H Q ->
  wpAny (model X.prog X.w) X.A (f v u) (EP X pins σ Q) X.xe s
def UnR (X:Cx) (f:Value->Sem Value) (r:V->Hp->VK->Prop):Prop :=
 ∀ (pins:List (Addr×Obj)) (s:Shared) (σ:St) (H:Hp) (x:V) (v:Value) (Q:VK),Inv X pins σ H s->RelV x v->r x H Q ->
  wpAny (model X.prog X.w) X.A (f v) (EP X pins σ Q) X.xe s
def CallR (X:Cx) (f:Value) (r:List V->Hp->VK->Prop):Prop :=
 ∀ (pins:List (Addr×Obj)) (s:Shared) (σ:St) (H:Hp) (xs:List V) (us:List Value) (Q:VK),Inv X pins σ H s->Vals xs us->r xs H Q ->
  wpAny (model X.prog X.w) X.A (call f us) (EP X pins σ Q) X.xe s
def TruR (X:Cx) (r:V->Hp->(Bool->Hp->Prop)->Prop):Prop :=
 ∀ (pins:List (Addr×Obj)) (s:Shared) (σ:St) (H:Hp) (x:V) (v:Value) (Q:Bool->Hp->Prop),Inv X pins σ H s->RelV x v->r x H Q ->
  wpAny (model X.prog X.w) X.A (truthy v) (TP X pins σ Q) X.xe s
def tOp (r:R2) (ta tb:TE):TE:=fun σ H Q=>ta σ H fun x H1=>tb σ H1 fun y H2=>r x y H2 Q
def tUn (r:V->Hp->VK->Prop) (ta:TE):TE:=fun σ H Q=>ta σ H fun x H1=>r x H1 Q
def rI (C:Int->Int->Prop) (g:Int->Int->V):R2:=fun x y H Q=>∃ i j,x=.int i/\y=.int j/\C i j/\Q (g i j) H
def rI0 (g:Int->Int->V):R2:=fun x y H Q=>∃ i j,x=.int i/\y=.int j/\Q (g i j) H
def rU (g:Int->V):V->Hp->VK->Prop:=fun x H Q=>∃ i,x=.int i/\Q (g i) H
section
variable {X:Cx} {a b c:Expr} {ta tb tc:TE} {pos:Pos}
theorem binT (ha:PE X a ta) (hb:PE X b tb) {pins:List (Addr×Obj)} {s:Shared} {σ:St} {H:Hp} {R:V->V->Hp->Prop} (I:Inv X pins σ H s)
  (h:ta σ H fun x H1=>tb σ H1 fun y H2=>R x y H2) {Q:Value->Shared->Prop} {f:Value->Value->Sem Value}
  (hf:∀ v u s2 x y H2,Inv X pins σ H2 s2->RelV x v->RelV y u->R x y H2->wpAny (model X.prog X.w) X.A (f v u) Q X.xe s2) :
  wpAny (model X.prog X.w) X.A (eval a X.env) (fun v s₁=>wpAny (model X.prog X.w) X.A (eval b X.env) (fun u s₂=>wpAny (model X.prog X.w) X.A (f v u) Q X.xe s₂) X.xe s₁) X.xe s:=by
 refine thn (ha pins s σ H _ I h) fun v s1 ⟨x,H1,I1,r1,q1⟩=>?_
 refine thn (hb pins s1 σ H1 _ I1 q1) fun u s2 ⟨y,H2,I2,r2,q2⟩=>?_
 exact hf v u s2 x y H2 I2 r1 r2 q2
theorem uk {op:Operator} {r:R2} (ho:OpR X (binaryOp op) r) (ha:PE X a ta) (hb:PE X b tb):PE X (.BinOp a op b pos) (tOp r ta tb):=by
 intro pins s σ H Q I h
 exact wpAny_BinOp (binT ha hb I h fun v u s2 x y H2 I2 rx ry q=>ho pins s2 σ H2 x y v u Q I2 rx ry q)
theorem ui {op:UnaryOp} {r:V->Hp->VK->Prop} (ho:UnR X (unaryOp op) r) (ha:PE X a ta):PE X (.UnaryOp op a pos) (tUn r ta):=by
 intro pins s σ H Q I h
 exact UnaryOp_ (thn (ha pins s σ H _ I h) fun v s1 ⟨x,H1,I1,r1,q1⟩=>ho pins s1 σ H1 x v Q I1 r1 q1)
theorem opI {f:Value->Value->Sem Value} {C:Int->Int->Prop} {g:Int->Int->Int}
  (rule:∀ (i j:Int) (t u:Tok) (s:Shared) (Q:Value->Shared->Prop) (E:Value->Shared->Prop),C i j->Q (.int (g i j) s.toks) {s with toks:=s.toks+1}->wpAny (model X.prog X.w) X.A (f (.int i t) (.int j u)) Q E s) :
  OpR X f (rI C fun i j=>.int (g i j)):=by
 intro pins s σ H x y v u Q I rx ry h
 obtain ⟨i,j,rfl,rfl,hc,q⟩:=h
 obtain ⟨t,rfl⟩:=rx
 obtain ⟨t',rfl⟩:=ry
 exact rule i j t t' s _ _ hc ⟨.int (g i j),H,I.tok _,⟨_,rfl⟩,q⟩
theorem opI0 {f:Value->Value->Sem Value} {g:Int->Int->Int}
  (rule:∀ (i j:Int) (t u:Tok) (s:Shared) (Q:Value->Shared->Prop) (E:Value->Shared->Prop),Q (.int (g i j) s.toks) {s with toks:=s.toks+1}->wpAny (model X.prog X.w) X.A (f (.int i t) (.int j u)) Q E s) :
  OpR X f (rI0 fun i j=>.int (g i j)):=by
 intro pins s σ H x y v u Q I rx ry h
 obtain ⟨i,j,rfl,rfl,q⟩:=h
 obtain ⟨t,rfl⟩:=rx
 obtain ⟨t',rfl⟩:=ry
 exact rule i j t t' s _ _ ⟨.int (g i j),H,I.tok _,⟨_,rfl⟩,q⟩
theorem opB0 {f:Value->Value->Sem Value} {g:Int->Int->Bool}
  (rule:∀ (i j:Int) (t u:Tok) (s:Shared) (Q:Value->Shared->Prop) (E:Value->Shared->Prop),Q (.bool (g i j)) s->wpAny (model X.prog X.w) X.A (f (.int i t) (.int j u)) Q E s) :
  OpR X f (rI0 fun i j=>.bl (g i j)):=by
 intro pins s σ H x y v u Q I rx ry h
 obtain ⟨i,j,rfl,rfl,q⟩:=h
 obtain ⟨t,rfl⟩:=rx
 obtain ⟨t',rfl⟩:=ry
 exact rule i j t t' s _ _ ⟨.bl (g i j),H,I,rfl,q⟩
def CDiv (i j:Int):Prop:=0<j/\j<1073741824
def CMul (i j:Int):Prop:=(-(2 ^ 64)<i/\i<2 ^ 64)\/(-(2 ^ 64)<j/\j<2 ^ 64)
theorem CMul.ok {i j:Int} (h:CMul i j):IntMulOk i j:=by
 rcases h with ⟨h1,h2⟩ | ⟨h1,h2⟩
 ·exact .of_left (intBits_le_64 h1 h2)
 ·exact .of_right (intBits_le_64 h1 h2)
theorem op_add:OpR X (binaryOp .Add) (rI0 fun i j=>.int (i+j)):=opI0 fun _ _ _ _ _ _ _ q=>add_int q
theorem op_sub:OpR X (binaryOp .Sub) (rI0 fun i j=>.int (i - j)):=opI0 fun _ _ _ _ _ _ _ q=>sub_int q
theorem op_mul:OpR X (binaryOp .Mult) (rI CMul fun i j=>.int (i*j)):=opI fun _ _ _ _ _ _ _ hc q=>mul_int q hc.ok
theorem op_fdiv:OpR X (binaryOp .FloorDiv) (rI CDiv fun i j=>.int (i / j)):=opI fun i j _ _ _ _ _ hc q=>by
 have h1:(0:Int)<j:=hc.1
 have h2:j<1073741824:=hc.2
 exact floordiv_int (by omega) (by rw [Int.fdiv_eq_ediv_of_nonneg i (by omega)];exact q) (.inl (PyProof.noPylong_small (by omega)))
theorem op_mod:OpR X (binaryOp .Mod) (rI (fun _ j=>0<j) fun i j=>.int (i%j)):=opI fun i j _ _ _ _ _ hc q=>by
 have h1:(0:Int)<j:=hc
 exact mod_int' (by omega) (by rw [Int.fmod_eq_emod_of_nonneg i (by omega)];exact q)
theorem unI {f:Value->Sem Value} {g:Int->Int}
  (rule:∀ (i:Int) (t:Tok) (s:Shared) (Q:Value->Shared->Prop) (E:Value->Shared->Prop),Q (.int (g i) s.toks) {s with toks:=s.toks+1}->wpAny (model X.prog X.w) X.A (f (.int i t)) Q E s) :
  UnR X f (rU fun i=>.int (g i)):=by
 intro pins s σ H x v Q I rx h
 obtain ⟨i,rfl,q⟩:=h
 obtain ⟨t,rfl⟩:=rx
 exact rule i t s _ _ ⟨.int (g i),H,I.tok _,⟨_,rfl⟩,q⟩
theorem un_neg:UnR X (unaryOp .USub) (rU fun i=>.int (-i)):=unI fun _ _ _ _ _ q=>neg_int q
end
def scal:V->V->Bool
 | .non,.non=>true | .non,.int _=>true | .int _,.non=>true | .non,.bl _=>true | .bl _,.non=>true | .non,.str _=>true | .str _,.non=>true
 | .int _,.int _=>true | .bl _,.bl _=>true | .str _,.str _=>true | .byt _,.byt _=>true
 | .int _,.str _=>true | .str _,.int _=>true | .bl _,.str _=>true | .str _,.bl _=>true
 | _,_=>false
def rEq:R2:=fun x y H Q=>scal x y=true/\Q (.bl (decide (x=y))) H
def rNe:R2:=fun x y H Q=>scal x y=true/\Q (.bl (!decide (x=y))) H
theorem dec_int {i j:Int}:decide (V.int i=V.int j)=(i==j):=by
 rw [Bool.eq_iff_iff]
 simp
theorem dec_bl {i j:Bool}:decide (V.bl i=V.bl j)=(i==j):=by
 rw [Bool.eq_iff_iff]
 simp
theorem dec_str {i j:Str}:decide (V.str i=V.str j)=(i==j):=by
 rw [Bool.eq_iff_iff]
 simp
theorem dec_byt {i j:Array UInt8}:decide (V.byt i=V.byt j)=(i.toList==j.toList):=by
 rw [Bool.eq_iff_iff]
 cases i
 cases j
 simp
section
variable {X:Cx} {a b c:Expr} {ta tb tc:TE} {pos:Pos}
theorem fin_bl {pins:List (Addr×Obj)} {σ:St} {H:Hp} {s:Shared} {Q:VK} {k k':Bool} (I:Inv X pins σ H s) (q:Q (.bl k) H) (e:k=k'):EP X pins σ Q (.bool k') s:=by
 subst e
 exact ⟨.bl k,H,I,rfl,q⟩
theorem op_eq:OpR X (compareOp .Eq) rEq:=by
 intro pins s σ H x y v u Q I rx ry h
 obtain ⟨hs,q⟩:=h
 cases x with
 | non =>
  cases rx
  cases y with
  | non=>cases ry;exact PySem.EqNone.eq_none_none (fin_bl I q (by simp))
  | bl j=>cases ry;exact PySem.EqNone.eq_none_bool (fin_bl I q (by simp))
  | int j=>obtain ⟨t',rfl⟩:=ry;exact PySem.EqNone.eq_none_int (fin_bl I q (by simp))
  | str j=>obtain ⟨t',rfl⟩:=ry;exact PySem.EqNone.eq_none_str (fin_bl I q (by simp))
  | _=>exact absurd (show false=true from hs) Bool.false_ne_true
 | bl i =>
  cases rx
  cases y with
  | non=>cases ry;exact PySem.EqNone.eq_bool_none (fin_bl I q (by simp))
  | bl j=>cases ry;exact eq_bool (fin_bl I q dec_bl)
  | str j=>obtain ⟨t',rfl⟩:=ry;exact PySem.EqMixed.eq_bool_str (fin_bl I q (by simp))
  | _=>exact absurd (show false=true from hs) Bool.false_ne_true
 | int i =>
  obtain ⟨t,rfl⟩:=rx
  cases y with
  | non=>cases ry;exact PySem.EqNone.eq_int_none (fin_bl I q (by simp))
  | int j=>obtain ⟨t',rfl⟩:=ry;exact eq_int (fin_bl I q dec_int)
  | str j=>obtain ⟨t',rfl⟩:=ry;exact PySem.EqMixed.eq_int_str (fin_bl I q (by simp))
  | _=>exact absurd (show false=true from hs) Bool.false_ne_true
 | str i =>
  obtain ⟨t,rfl⟩:=rx
  cases y with
  | non=>cases ry;exact PySem.EqNone.eq_str_none (fin_bl I q (by simp))
  | bl j=>cases ry;exact PySem.EqMixed.eq_str_bool (fin_bl I q (by simp))
  | int j=>obtain ⟨t',rfl⟩:=ry;exact PySem.EqMixed.eq_str_int (fin_bl I q (by simp))
  | str j=>obtain ⟨t',rfl⟩:=ry;exact eq_str (fin_bl I q dec_str)
  | _=>exact absurd (show false=true from hs) Bool.false_ne_true
 | byt i =>
  obtain ⟨t,rfl⟩:=rx
  cases y with
  | byt j=>obtain ⟨t',rfl⟩:=ry;exact PySem.W.eq_bytes (fin_bl I q dec_byt)
  | _=>exact absurd (show false=true from hs) Bool.false_ne_true
 | _=>cases y<;>exact absurd (show false=true from hs) Bool.false_ne_true
theorem op_ne:OpR X (compareOp .NotEq) rNe:=by
 intro pins s σ H x y v u Q I rx ry h
 obtain ⟨hs,q⟩:=h
 cases x with
 | non =>
  cases rx
  cases y with
  | non=>cases ry;exact PySem.EqNone.ne_none_none (fin_bl I q (by simp))
  | bl j=>cases ry;exact PySem.EqNone.ne_none_bool (fin_bl I q (by simp))
  | int j=>obtain ⟨t',rfl⟩:=ry;exact PySem.EqNone.ne_none_int (fin_bl I q (by simp))
  | str j=>obtain ⟨t',rfl⟩:=ry;exact PySem.EqNone.ne_none_str (fin_bl I q (by simp))
  | _=>exact absurd (show false=true from hs) Bool.false_ne_true
 | bl i =>
  cases rx
  cases y with
  | non=>cases ry;exact PySem.EqNone.ne_bool_none (fin_bl I q (by simp))
  | bl j=>cases ry;exact ne_bool (fin_bl I q (congrArg not dec_bl))
  | str j=>obtain ⟨t',rfl⟩:=ry;exact PySem.EqMixed.ne_bool_str (fin_bl I q (by simp))
  | _=>exact absurd (show false=true from hs) Bool.false_ne_true
 | int i =>
  obtain ⟨t,rfl⟩:=rx
  cases y with
  | non=>cases ry;exact PySem.EqNone.ne_int_none (fin_bl I q (by simp))
  | int j=>obtain ⟨t',rfl⟩:=ry;exact ne_int (fin_bl I q (congrArg not dec_int))
  | str j=>obtain ⟨t',rfl⟩:=ry;exact PySem.EqMixed.ne_int_str (fin_bl I q (by simp))
  | _=>exact absurd (show false=true from hs) Bool.false_ne_true
 | str i =>
  obtain ⟨t,rfl⟩:=rx
  cases y with
  | non=>cases ry;exact PySem.EqNone.ne_str_none (fin_bl I q (by simp))
  | bl j=>cases ry;exact PySem.EqMixed.ne_str_bool (fin_bl I q (by simp))
  | int j=>obtain ⟨t',rfl⟩:=ry;exact PySem.EqMixed.ne_str_int (fin_bl I q (by simp))
  | str j=>obtain ⟨t',rfl⟩:=ry;exact ne_str (fin_bl I q (congrArg not dec_str))
  | _=>exact absurd (show false=true from hs) Bool.false_ne_true
 | byt i =>
  obtain ⟨t,rfl⟩:=rx
  cases y with
  | byt j=>obtain ⟨t',rfl⟩:=ry;exact PySem.W.ne_bytes (fin_bl I q (congrArg not dec_byt))
  | _=>exact absurd (show false=true from hs) Bool.false_ne_true
 | _=>cases y<;>exact absurd (show false=true from hs) Bool.false_ne_true
theorem op_lt:OpR X (compareOp .Lt) (rI0 fun i j=>.bl (decide (i<j))):=opB0 fun _ _ _ _ _ _ _ q=>lt_int q
theorem op_le:OpR X (compareOp .LtE) (rI0 fun i j=>.bl (decide (i<=j))):=opB0 fun _ _ _ _ _ _ _ q=>le_int q
theorem op_gt:OpR X (compareOp .Gt) (rI0 fun i j=>.bl (decide (j<i))):=opB0 fun _ _ _ _ _ _ _ q=>gt_int q
theorem op_ge:OpR X (compareOp .GtE) (rI0 fun i j=>.bl (decide (j<=i))):=opB0 fun _ _ _ _ _ _ _ q=>ge_int q
theorem op_isN:OpR X (compareOp .Is) (fun x y H Q=>y=.non/\Q (.bl (decide (x=.non))) H):=by
 intro pins s σ H x y v u Q I rx ry h
 obtain ⟨rfl,q⟩:=h
 cases ry
 refine is_none_gen (fin_bl I q ?_)
 cases x<;>first
  | (cases rx;rfl)
  | (obtain ⟨t,rfl⟩:=rx;rfl)
theorem op_notN:OpR X (compareOp .IsNot) (fun x y H Q=>y=.non/\Q (.bl (!decide (x=.non))) H):=by
 intro pins s σ H x y v u Q I rx ry h
 obtain ⟨rfl,q⟩:=h
 cases ry
 refine isnot_none_gen (fin_bl I q ?_)
 cases x<;>first
  | (cases rx;rfl)
  | (obtain ⟨t,rfl⟩:=rx;rfl)
theorem OpR.or {f:Value->Value->Sem Value} {r r':R2} (h:OpR X f r) (h':OpR X f r'):OpR X f (fun x y H Q=>r x y H Q\/r' x y H Q):=by
 intro pins s σ H x y v u Q I rx ry q
 rcases q with q | q
 ·exact h pins s σ H x y v u Q I rx ry q
 ·exact h' pins s σ H x y v u Q I rx ry q
theorem nomark (b:Expr) {op:CmpOp} (h:op≠.In:=by decide) (h2:op≠.NotIn:=by decide):behindInMarks op b=false:=by
 have e1:(op==CmpOp.In)=false:=by cases op<;>first | rfl | exact absurd rfl h
 have e2:(op==CmpOp.NotIn)=false:=by cases op<;>first | rfl | exact absurd rfl h2
 cases b<;>simp [behindInMarks,e1,e2]
theorem si {op:CmpOp} {r:R2} (ho:OpR X (compareOp op) r) (ha:PE X a ta) (hb:PE X b tb) (hm:behindInMarks op b=false):PE X (.Compare a [op] [b] pos) (tOp r ta tb):=by
 intro pins s σ H Q I h
 exact wpAny_Compare1 (binT ha hb I h fun v u s2 x y H2 I2 rx ry q=>ho pins s2 σ H2 x y v u Q I2 rx ry q) hm
def tTest (t:TE):TT:=fun σ H Q=>t σ H fun x H'=>∃ k,x=.bl k/\Q k H'
theorem sG {op:CmpOp} {r:R2} (ho:OpR X (compareOp op) r) (ha:PE X a ta) (hb:PE X b tb) (hm:behindInMarks op b=false):PT X (.Compare a [op] [b] pos) (tTest (tOp r ta tb)):=by
 intro pins s σ H Q I h
 refine wpAny_isTrue_Compare1 (thn (ha pins s σ H _ I h) fun v s1 ⟨x,H1,I1,r1,q1⟩=>thn (hb pins s1 σ H1 _ I1 q1) fun u s2 ⟨y,H2,I2,r2,q2⟩ =>
  thn (ho pins s2 σ H2 x y v u _ I2 r1 r2 q2) fun c s3 ⟨z,H3,I3,r3,k,e,q3⟩=>?_) hm
 subst e
 cases r3
 exact wpAny_truthy_bool ⟨H3,I3,q3⟩
def TruV (K:PySem.W.Frag) (x:V) (H:Hp) (k:Bool):Prop :=
 match x with
 | .non=>k=false
 | .bl b=>k=b
 | .int i=>k=(i != 0)
 | .str y=>y.length<=sizeLine/\k=((y.length:Int) != 0)
 | .byt y=>y.size<=sizeLine/\k=((y.size:Int) != 0)
 | .ref p=>(∃ xs,SqL K H p xs/\k=!xs.isEmpty)\/(∃ xs,SqT K H p xs/\k=!xs.isEmpty)\/∃ kvs,H p=some (.dK kvs)/\k=!kvs.isEmpty
 | _=>False
theorem isEmpty_kv {κ:Type} {kvs:List (κ×V)} {vs:List (κ×Value)} (r:KV kvs vs):(!vs.isEmpty)=!kvs.isEmpty:=by
 cases r<;>rfl
theorem isEmpty_of {xs:List V} {its:List Value} (r:Vals xs its):(!its.toArray.isEmpty)=!xs.isEmpty:=by
 cases r<;>simp
theorem line63:(sizeLine:Nat)<2 ^ 63:=by rw [sizeLine_eq];decide
theorem tru_ok:TruR X (fun x H Q=>∃ k,TruV X.K x H k/\Q k H):=by
 intro pins s σ H x v Q I rx h
 obtain ⟨k,e,q⟩:=h
 have hl:=line63
 have hs:sizeLine=16777216:=sizeLine_eq
 cases x with
 | non =>
  cases rx
  have e':k=false:=e
  subst e'
  exact truthy_none ⟨H,I,q⟩
 | bl b =>
  cases rx
  have e':k=b:=e
  subst e'
  exact wpAny_truthy_bool ⟨H,I,q⟩
 | int i =>
  obtain ⟨t,rfl⟩:=rx
  have e':k=(i != 0):=e
  subst e'
  exact PySem.P.truthy_int ⟨H,I,q⟩
 | str y =>
  obtain ⟨t,rfl⟩:=rx
  obtain ⟨hy,e'⟩:y.length<=sizeLine/\k=((y.length:Int) != 0):=e
  subst e'
  exact PySem.P.truthy_str (by omega) ⟨H,I.tok _,q⟩
 | byt y =>
  obtain ⟨t,rfl⟩:=rx
  obtain ⟨hy,e'⟩:y.size<=sizeLine/\k=((y.size:Int) != 0):=e
  subst e'
  exact PySem.W.truthy_bytes (by omega) ⟨H,I.tok _,q⟩
 | ref p =>
  cases rx
  have e':(∃ xs,SqL X.K H p xs/\k=!xs.isEmpty)\/(∃ xs,SqT X.K H p xs/\k=!xs.isEmpty)\/∃ kvs,H p=some (.dK kvs)/\k=!kvs.isEmpty:=e
  rcases e' with ⟨xs,hx,e'⟩ | ⟨xs,hx,e'⟩ | ⟨kvs,hx,e'⟩
  ·subst e'
   obtain ⟨its,r,pl,hz⟩:=I.list hx
   have hlen:=r.length
   exact wpAny_truthy_list pl.isList (by simp only [List.size_toArray];omega) ⟨H,I.tok _,by rw [isEmpty_of r];exact q⟩
  ·subst e'
   obtain ⟨its,r,pl,hz⟩:=I.tuple hx
   have hlen:=r.length
   exact truthy_tuple pl (by simp only [List.size_toArray];omega) ⟨H,I.tok _,by rw [isEmpty_of r];exact q⟩
  ·subst e'
   obtain ⟨hz,hS,vs,r,m⟩:kvs.length<=sizeLine/\(p==sysModules)=false/\∃ vs,KV kvs vs/\s.heap.DictOf (mixKind X.prog X.w) p vs:=I.hok p _ hx
   have hlen:kvs.length=vs.length:=Paired.length r
   exact wpAny_truthy_dict hS m (by omega) ⟨H,I.tok _,by rw [isEmpty_kv r];exact q⟩
 | _=>exact (show False from e).elim
theorem r_ (ha:PE X a ta) (he:∀ whole,isTrue a X.env whole=(do let v <- whole;standAt a.pos;holding [v] (truthy v))) :
  PT X a (fun σ H Q=>ta σ H fun x H'=>∃ k,TruV X.K x H' k/\Q k H'):=by
 intro pins s σ H Q I h
 exact isTrue_plain (thn (ha pins s σ H _ I h) fun v s1 ⟨x,H1,I1,r1,q1⟩=>tru_ok pins s1 σ H1 x v Q I1 r1 q1) (he _)
theorem op_add_str:OpR X (binaryOp .Add) (fun x y H Q=>∃ i j,x=.str i/\y=.str j/\i.length+j.length<=sizeLine/\Q (.str (i++j)) H):=by
 intro pins s σ H x y v u Q I rx ry h
 obtain ⟨i,j,rfl,rfl,hz,q⟩:=h
 obtain ⟨t,rfl⟩:=rx
 obtain ⟨t',rfl⟩:=ry
 exact add_str (fun t' tk=>⟨.str (i++j),H,I.tok _,⟨_,rfl⟩,q⟩) hz
theorem vals1 {x:V} {us:List Value} (r:Vals [x] us):∃ u,us=[u]/\RelV x u:=by
 cases r with
 | cons r1 r2=>cases r2;exact ⟨_,rfl,r1⟩
theorem vals2 {x y:V} {us:List Value} (r:Vals [x,y] us):∃ u w',us=[u,w']/\RelV x u/\RelV y w':=by
 cases r with
 | cons r1 r2 =>
  cases r2 with
  | cons r3 r4=>cases r4;exact ⟨_,_,rfl,r1,r3⟩
theorem qa (hc:X.calm=true):CallR X (.builtin "max") (fun xs H Q=>∃ i j,xs=[.int i,.int j]/\Q (.int (if j > i then j else i)) H):=by
 intro pins s σ H xs us Q I r h
 obtain ⟨i,j,rfl,q⟩:=h
 obtain ⟨u,w',rfl,⟨t,rfl⟩,⟨t',rfl⟩⟩:=vals2 r
 refine max_two_ints (I.ok.hd hc) fun h' tk k=>⟨_,H,I.kept k,?_,q⟩
 by_cases hj:j > i
 ·rw [if_pos hj,if_pos hj];exact ⟨_,rfl⟩
 ·rw [if_neg hj,if_neg hj];exact ⟨_,rfl⟩
theorem call_int1:CallR X (.type "int") (fun xs H Q=>(∃ i,xs=[.int i]/\Q (.int i) H)\/∃ k,xs=[.bl k]/\Q (.int (if k then 1 else 0)) H):=by
 intro pins s σ H xs us Q I r h
 rcases h with ⟨i,rfl,q⟩ | ⟨k,rfl,q⟩
 ·obtain ⟨u,rfl,t,rfl⟩:=vals1 r
  exact call_int_int ⟨.int i,H,I,⟨_,rfl⟩,q⟩
 ·obtain ⟨u,rfl,r1⟩:=vals1 r
  cases r1
  exact call_int_bool ⟨.int (if k then 1 else 0),H,I.tok _,⟨_,rfl⟩,q⟩
end
end L2
namespace L2
open PySem PySem.Spec PyProof.Rows
section
variable {prog:Program} {w:World} {A:Around} {E:Value->Shared->Prop} {s:Shared} {K:PySem.W.Frag} {x dx C f:Addr} {mA:Str->Option Value} {name:Str} {v:Value}
end
def putF (f:Str) (v:V):List (Str×V)->List (Str×V)
 | []=>[(f,v)]
 | (g,x)::r=>if g=f then (g,v)::r else (g,x)::putF f v r
theorem RelO.some_of {v:V} {o:Option Value} (r:RelO (some v) o):∃ u,o=some u/\RelV v u:=by
 cases o with
 | none=>exact (show False from r).elim
 | some u=>exact ⟨u,rfl,r⟩
section
variable {P:Program} {w:World} {H H':Hp} {h h':Heap} {a C dx:Addr} {fs fs':List (Str×V)}
end
structure Cls (K:PySem.W.Frag) (C:Addr):Prop where
 pg:PySem.W.plainGet K C Str.empty=true
 hd:PySem.W.hasDictIn K C=true
 po:PySem.W.plainOver K C=true
 sa:PySem.W.findIn K (.ref C) "__setattr__" = some (some (.builtin "object.__setattr__"))
theorem Cls.get {K:PySem.W.Frag} {C:Addr} (c:Cls K C) (f:Str):PySem.W.plainGet K C f=true:=c.pg
structure Con (K:PySem.W.Frag) (C:Addr) (f:Str) (v:V) (u:Value):Prop where
 at_:PySem.W.findIn K (.ref C) f=some (some u)
 rel:RelV v u
 get:PySem.W.specialIn K u "__get__" = some none
 cp:PySem.W.copiedNames.contains f=false
structure Meth (K:PySem.W.Frag) (C:Addr) (m:Str) (f:Addr):Prop where
 at_:PySem.W.findIn K (.ref C) m=some (some (.ref f))
 fn:PySem.W.isFn K (.ref f)=true
 kp:PySem.W.keepIn K (.ref f)=true
section
variable {X:Cx} {pins:List (Addr×Obj)} {σ:St} {H:Hp} {s:Shared} {a C dx:Addr} {fs:List (Str×V)} {f:Str} {v:V} {A:Around} {E:Value->Shared->Prop}
theorem Inv.made (I:Inv X pins σ H s):Inv X pins σ (upd (upd H s.heap.objs.size (.own (s.heap.objs.size+1))) (s.heap.objs.size+1) (.ins C s.heap.objs.size []))
  {s with heap:=(s.heap.push PySem.W.emptyDict).push (PySem.W.instObj C s.heap.objs.size)}:=by
 have e1:(s.heap.push PySem.W.emptyDict).get? s.heap.objs.size=some PySem.W.emptyDict:=Heap.get?_push_size s.heap rfl
 have e2:((s.heap.push PySem.W.emptyDict).push (PySem.W.instObj C s.heap.objs.size)).get? (s.heap.objs.size+1)=some (PySem.W.instObj C s.heap.objs.size):=by
  have:=Heap.get?_push_size (s.heap.push PySem.W.emptyDict) (o:=PySem.W.instObj C s.heap.objs.size) rfl
  rwa [Heap.size_push] at this
 have e3:(s.heap.push PySem.W.emptyDict).Ns s.heap.objs.size (fun _=>none):=⟨PySem.W.emptyDict,#[],_,e1,rfl,(fun e he=>absurd he (by simp)),fun _=>rfl⟩
 have I1:=I.laid (a:=s.heap.objs.size) (o:=.own (s.heap.objs.size+1)) (h':=s.heap.push PySem.W.emptyDict) (t':=s.toks) (fun b u q=>Heap.get?_push_of_some _ q) (Nat.le_refl _) ⟨_,e1⟩
 refine I1.laid (a:=s.heap.objs.size+1) (o:=.ins C s.heap.objs.size []) (t':=s.toks) (fun b u q=>Heap.get?_push_of_some _ q) (Nat.le_of_eq (Heap.size_push _ _)) ?_
 have ne:s.heap.objs.size≠s.heap.objs.size+1:=Nat.ne_of_lt (Nat.lt_succ_self _)
 refine ⟨by rw [ay ne,aC],Nat.zero_le _,ne,e2,fun _=>none,(Heap.Ns1.of_empty e3).at fun o q=>Heap.get?_push_of_some _ q,fun _=>True.intro,fun y hy=>absurd rfl hy⟩
end
section
variable {X:Cx} {o e value:Expr} {f:Str} {pos pos' tpos:Pos} {ta tv:TE}
end
section
variable {X:Cx} {pins:List (Addr×Obj)} {σ:St} {H:Hp} {s:Shared} {A:Around} {E:Value->Shared->Prop} {Q:Value->Shared->Prop} {c:Value} {b:Bool}
end
end L2
namespace L2
open PySem PySem.Spec PyProof.Rows
structure Room (k:Nat) (A:Around):Prop where
 hd:A.handled=none
 dp:A.depth+3*k+5<recursionLimit
 un:A.units+16*k+200<cLine
 gd:A.guards=some []
theorem Room.mono {j k:Nat} {A:Around} (r:Room k A) (h:j<=k):Room j A:=⟨r.hd,by have:=r.dp;omega,by have:=r.un;omega,r.gd⟩
theorem Room.deeper {k:Nat} {A:Around} (r:Room (k+1) A) (env:Env):Room k (A.deeper env) :=
 ⟨r.hd,by have:=r.dp;show A.depth+1+3*k+5<_;omega,by have:=r.un;show A.units+3+16*k+200<_;omega,r.gd⟩
theorem Room.in1 {k:Nat} {A:Around} (r:Room (k+1) A):Room k A.in1 :=
 ⟨r.hd,by have:=r.dp;show A.depth+3*k+5<_;omega,by have:=r.un;show A.units+1+16*k+200<_;omega,r.gd⟩
theorem make_depth {A:Around} {C:Addr} {us:List Value} {kw:List (Str×Value)}:(A.under (.builtin "type.__call__" ⟨.ref C::us,kw⟩)).depth=A.depth+1:=by
 first | rfl | simp [Around.under,Code.weight,Code.isCreation,Code.isGuard,Code.isCaller,Code.frames,Code.isFrame,guardIds]
theorem make_units {A:Around} {C:Addr} {us:List Value} {kw:List (Str×Value)}:(A.under (.builtin "type.__call__" ⟨.ref C::us,kw⟩)).units=A.units+1:=by
 first | rfl | simp [Around.under,Code.cUnits,Code.frames,Code.isFrame]
theorem Room.make {k:Nat} {A:Around} (r:Room (k+1) A) (C:Addr) (us:List Value) (kw:List (Str×Value)):Room k (A.under (.builtin "type.__call__" ⟨.ref C::us,kw⟩)) :=
 ⟨r.hd,by have:=r.dp;rw [make_depth];omega,by have:=r.un;rw [make_units];omega,by show pushGuards (Code.guards (.builtin "type.__call__" ⟨.ref C::us,kw⟩)) A.guards=_;rw [r.gd];first | rfl | simp [Code.guards,Code.isGuard,guardIds,pushGuards]⟩
theorem Room.depth {k:Nat} {A:Around} (r:Room k A):A.depth<recursionLimit:=by have:=r.dp;omega
theorem Room.units {k:Nat} {A:Around} (r:Room k A):A.units+64<cLine:=by have:=r.un;omega
def tNil:TA:=fun _ H Q=>Q [] H
def tCons (ta:TE) (tr:TA):TA:=fun σ H Q=>ta σ H fun x H1=>tr σ H1 fun xs H2=>Q (x::xs) H2
section
variable {X:Cx} {e:Expr} {es:List Expr} {te:TE} {t:TA} {pos:Pos}
theorem pa_nil:PA X [] tNil:=fun _ _ _ _ H Q I h=>Calls.spliced_nil ⟨[],H,I,.nil,h⟩
theorem iP (ha:PE X e te) (hr:PA X es t) (hs:starEach (e::es) X.env=(false,eval e X.env)::starEach es X.env:=by rfl):PA X (e::es) (tCons te t):=by
 intro pos pins s σ H Q I h
 rw [hs]
 show wpAny _ _ (spliced ((false,eval e X.env)::backTo pos (starEach es X.env))) _ _ s
 refine Calls.spliced_cons (thn (ha pins s σ H _ I h) fun u s1 ⟨x,H1,I1,r1,q1⟩=>?_)
 exact thn (hr pos pins s1 σ H1 _ I1 q1) fun us s2 ⟨xs,H2,I2,r2,q2⟩=>⟨x::xs,H2,I2,.cons r1 r2,q2⟩
def tTup (t:TA):TE:=fun σ H Q=>t σ H fun xs H1=>xs.length<=sizeLine/\∀ p,H1 p=none->Q (.ref p) (upd H1 p (.tup xs))
def tLst (t:TA):TE:=fun σ H Q=>t σ H fun xs H1=>xs.length<=sizeLine/\∀ p,H1 p=none->Q (.ref p) (upd H1 p (.lst xs))
theorem tw {x1} (h:PA X es t):PE X (.Tuple es x1 pos) (tTup t):=by
 intro pins s σ H Q I hq
 refine wpAny_Tuple_spliced (thn (h pos pins s σ H _ I hq) fun us s1 ⟨xs,H1,I1,r,z,q⟩=>⟨by rw [<- r.length];exact z,?_⟩)
 have hf:H1 s1.heap.objs.size=none:=I1.hok.fresh (Nat.le_refl _)
 refine ⟨.ref s1.heap.objs.size,upd H1 s1.heap.objs.size (.tup xs),I1.laid (t':=s1.toks) (fun b u e=>Heap.get?_push_of_some _ e) (Nat.le_refl _) ?_,rfl,q _ hf⟩
 exact ⟨z,us,r,⟨_,Heap.get?_push_size _ rfl,rfl,⟨_,rfl⟩,rfl⟩⟩
theorem nZ (h:PA X es t):PE X (.List es pos) (tLst t):=by
 intro pins s σ H Q I hq
 refine wpAny_List_spliced (thn (h pos pins s σ H _ I hq) fun us s1 ⟨xs,H1,I1,r,z,q⟩=>⟨by rw [<- r.length];exact z,?_⟩)
 have hf:H1 s1.heap.objs.size=none:=I1.hok.fresh (Nat.le_refl _)
 refine ⟨.ref s1.heap.objs.size,upd H1 s1.heap.objs.size (.lst xs),I1.laid (t':=s1.toks) (fun b u e=>Heap.get?_push_of_some _ e) (Nat.le_refl _) ?_,rfl,q _ hf⟩
 exact ⟨z,us,0,r,Heap.get?_push_size _ rfl⟩
end
abbrev Sp:=List V->Hp->VK->XK->Prop
abbrev CXT:=List Env->Hp->Shared->XK->Value->Shared->Prop
structure Env0 (P:Program) (w:World) (K:PySem.W.Frag) (mg:Str->Option Value) (base:Heap) (A:Around) (outer:List Env) (s:Shared) (H:Hp):Prop where
 frames:A.frames=some outer
 mod:Mod K mg base
 bs:∀ b o,base.get? b=some o->s.heap.get? b=some o/\H b=none
 bsz:base.objs.size<=s.heap.objs.size
 funs:s.heap.FunFrames base outer
 frf:∀ b∈frs outer,H b=none
 hok:HOk P w H s.heap
 bare:AllBare s.gens
def CE (outer:List Env) (P:Program) (w:World) (H:Hp) (s:Shared) (Q:VK) (u:Value) (s':Shared):Prop :=
 ∃ v H',s'.os=s.os/\AllBare s'.gens/\Un (frs outer) [] H H' s.heap s'.heap/\HOk P w H' s'.heap/\RelV v u/\Q v H'
def CR (CX:CXT) (outer:List Env) (P:Program) (w:World) (H:Hp) (s:Shared) (Q:VK) (E:XK) (r:Result) (s':Shared):Prop :=
 match r with
 | .ok (.ret u)=>CE outer P w H s Q u s'
 | .ok _=>False
 | .error e=>CX outer H s E e s'
structure FnOk (P:Program) (w:World) (K:PySem.W.Frag) (mg:Str->Option Value) (base:Heap) (CX:CXT) (k:Nat) (f:Addr) (fd:FuncData) (ps:List Str) (sp:Sp):Prop where
 len:∀ vs H Q E,sp vs H Q E->vs.length=ps.length
 run:∀ (A:Around) (outer:List Env) (s:Shared) (H:Hp) (args:Args) (us:List Value) (vs:List V) (Q:VK) (E:XK),Room k A->Env0 P w K mg base A outer s H->BindsTo s fd args (ps.zip us)->Vals vs us->sp vs H Q E ->
  codeAny (model P w) A (.call (.ref f) args) (CR CX outer P w H s Q E) s
theorem FnOk.mono {P:Program} {w:World} {K:PySem.W.Frag} {mg:Str->Option Value} {base:Heap} {CX:CXT} {j k:Nat} {f:Addr} {fd:FuncData} {ps:List Str} {sp:Sp} (F:FnOk P w K mg base CX j f fd ps sp) (h:j<=k) :
  FnOk P w K mg base CX k f fd ps sp:=⟨F.len,fun A outer s H args us vs Q E hr=>F.run A outer s H args us vs Q E (hr.mono h)⟩
theorem FnOk.imp {P:Program} {w:World} {K:PySem.W.Frag} {mg:Str->Option Value} {base:Heap} {CX:CXT} {k:Nat} {f:Addr} {fd:FuncData} {ps:List Str} {sp sp':Sp} (F:FnOk P w K mg base CX k f fd ps sp)
  (h:∀ vs H Q E,sp' vs H Q E->sp vs H Q E):FnOk P w K mg base CX k f fd ps sp' :=
 ⟨fun vs H Q E q=>F.len vs H Q E (h _ _ _ _ q),fun A outer s H args us vs Q E hr he hb hv hs=>F.run A outer s H args us vs Q E hr he hb hv (h _ _ _ _ hs)⟩
theorem Env0.make {P:Program} {w:World} {K:PySem.W.Frag} {mg:Str->Option Value} {base:Heap} {A:Around} {outer:List Env} {s:Shared} {H:Hp} (e:Env0 P w K mg base A outer s H) (C:Addr) (us:List Value) (kw:List (Str×Value)) :
  Env0 P w K mg base (A.under (.builtin "type.__call__" ⟨.ref C::us,kw⟩)) outer s H:=⟨by first | exact e.frames | (simpa [Around.under,Code.envs,Code.isFrame,pushEnvs] using e.frames),e.mod,e.bs,e.bsz,e.funs,e.frf,e.hok,e.bare⟩
theorem Env0.in1 {P:Program} {w:World} {K:PySem.W.Frag} {mg:Str->Option Value} {base:Heap} {A:Around} {outer:List Env} {s:Shared} {H:Hp} (e:Env0 P w K mg base A outer s H) :
  Env0 P w K mg base A.in1 outer s H:=⟨e.frames,e.mod,e.bs,e.bsz,e.funs,e.frf,e.hok,e.bare⟩
section
variable {X:Cx} {pins:List (Addr×Obj)} {σ:St} {H:Hp} {s s':Shared}
theorem Inv.env0 (I:Inv X pins σ H s):Env0 X.prog X.w X.K X.mg X.base X.A X.stack s H :=
 ⟨I.ok.frames,I.ok.mod,I.bs,Nat.le_trans I.ok.bsz I.sz,I.stack,I.stkFree,I.hok,I.bare⟩
theorem Inv.after {Q:VK} {u:Value} (I:Inv X pins σ H s) (h:CE X.stack X.prog X.w H s Q u s'):EP X pins σ Q u s':=by
 obtain ⟨v,H',os,bare,un,hok,r,q⟩:=h
 obtain ⟨hh,g,d,t,os'⟩:=s'
 obtain rfl:os'=s.os:=os
 exact ⟨v,H',I.call (h':=hh) (g':=g) (d':=d) (t':=t) (ch:=[]) un hok bare (fun b z=>absurd z (by simp)),r,q⟩
end
def tCall (sp:Sp) (dvs:List V) (E:XK) (t:TA):TE:=fun σ H Q=>t σ H fun vs H1=>sp (vs++dvs) H1 Q E
def Binds (K:PySem.W.Frag) (fd:FuncData) (ps:List Str) (ds:List Value):Prop :=
 ∀ (s:Shared) (us:List Value),K.In s.heap->(us++ds).length=ps.length->BindsTo s fd ⟨us,[]⟩ (ps.zip (us++ds))
theorem Binds.all {K:PySem.W.Frag} {fd:FuncData} {ps:List Str} (h:∀ us:List Value,us.length=ps.length->bindArgs fd ⟨us,[]⟩=pure (ps.zip us)):Binds K fd ps []:=fun s us _ hl=>by
 rw [List.append_nil] at hl ⊢
 exact .of_eq (h us hl)
def Passes (CX:CXT) (X:Cx) (E:XK):Prop:=∀ (pins:List (Addr×Obj)) (σ:St) (H:Hp) (s:Shared) (e:Value) (s':Shared),Inv X pins σ H s->CX X.stack H s E e s'->X.xe e s'
section
variable {X:Cx} {CX:CXT} {k:Nat} {f C:Addr} {fd:FuncData} {ps:List Str} {sp:Sp} {dvs:List V} {ds:List Value} {E:XK} {x m:Str} {p pos apos:Pos} {e o:Expr} {es:List Expr} {ta:TE} {t:TA}
theorem run_fn {pins:List (Addr×Obj)} {σ:St} {H:Hp} {s:Shared} {Q:VK} {us:List Value} {vs:List V} (F:FnOk X.prog X.w X.K X.mg X.base CX k f fd ps sp) (hr:Room k X.A) (hb:Binds X.K fd ps ds) (hd:Vals dvs ds) (hx:Passes CX X E)
  (I:Inv X pins σ H s) (r:Vals vs us) (h:sp (vs++dvs) H Q E):wpAny (model X.prog X.w) X.A (call (.ref f) us) (EP X pins σ Q) X.xe s:=by
 have r2:Vals (vs++dvs) (us++ds):=r.append hd
 have hl:(us++ds).length=ps.length:=by rw [<- r2.length];exact F.len _ _ _ _ h
 refine wpAny_call (codeAny_mono (F.run X.A X.stack s H ⟨us,[]⟩ (us++ds) (vs++dvs) Q E hr I.env0 (hb s us I.kIn hl) r2 h) fun r s' hq=>?_)
 cases r with
 | error e=>exact hx pins σ H s e s' I hq
 | ok fl =>
  cases fl with
  | ret u=>exact I.after hq
  | next=>exact False.elim hq
  | brk=>exact False.elim hq
  | cont=>exact False.elim hq
theorem iX (F:FnOk X.prog X.w X.K X.mg X.base CX k f fd ps sp) (hr:Room k X.A) (hg:Gl X x) (hm:X.mg x=some (.ref f)) (hk:PySem.W.keepIn X.K (.ref f)=true) (hb:Binds X.K fd ps ds) (hd:Vals dvs ds) (hx:Passes CX X E)
  (ha:PA X (e::es) t) (hdb:(x==("__debug__" : Str))=false:=by decide) (he:starEach (e::es) X.env=(false,eval e X.env)::starEach es X.env:=by rfl) (hpl:(backTo pos (starEach es X.env)).any (·.1)=false:=by rfl) :
  PE X (.Call (.Name x p) (e::es) [] pos) (tCall sp dvs E t):=by
 intro pins s σ H Q I h
 refine wpAny_Call_Name_kw (oH I hg hm ?_ hdb)
 refine PySem.W.callWith_K (h₀:=X.base) I.ok.mod.kin hk (thn (ha pos pins s σ H _ I h) fun us s1 ⟨vs,H1,I1,r,q⟩=>⟨I1.kIn,?_⟩) he hpl
 exact run_fn F hr hb hd hx I1 r q
end
section
variable {X:Cx} {CX:CXT} {k:Nat} {f C:Addr} {fd:FuncData} {ps ks:List Str} {sp:Sp} {E:XK} {x m:Str} {p pos apos kpos:Pos} {e o:Expr} {es:List Expr} {kws:List Keyword} {te ta:TE} {t tk:TA} {nm:Option Str}
variable {g:List Value->List Value->List Value} {gV:List V->List V->List V}
end
structure FnScope (N P:List Str) (sc:Scope):Prop where
 kind:sc.kind=.function
 co:sc.isCoroutine=false
 gen:sc.isGenerator=false
 nd:N.Nodup
 pre:N.take P.length=P
 par:∀ x∈P,sc.names.lookup x=some .local\/sc.names.lookup x=some .cell
 nofree:∀ y∈sc.names,y.2≠.free
theorem bindL_out {kindOf:Str->Option NameKind} {x:Str}:∀ {binds:List (Str×Value)} {m:Str->Option Value},(∀ v,(x,v)∉binds)->bindL kindOf binds m x=m x
 | [],_,_=>rfl
 | (n,v)::r,m,h=>by
  unfold bindL
  rw [bindL_out fun w hw=>h w (List.mem_cons_of_mem _ hw)]
  split
  ·have:x≠n:=by rintro rfl;exact h v List.mem_cons_self
   simp [this]
  ·rfl
theorem bindC_out {kindOf:Str->Option NameKind} {x:Str}:∀ {binds:List (Str×Value)} {m:Str->Option Value},(∀ v,(x,v)∉binds)->bindC kindOf binds m x=m x
 | [],_,_=>rfl
 | (n,v)::r,m,h=>by
  unfold bindC
  rw [bindC_out fun w hw=>h w (List.mem_cons_of_mem _ hw)]
  split
  ·rfl
  ·have:x≠n:=by rintro rfl;exact h v List.mem_cons_self
   simp [this]
theorem bindL_get {kindOf:Str->Option NameKind} {x:Str} {v:Value}:∀ {P:List Str} {vs:List Value} {i:Nat} {m:Str->Option Value},P.Nodup->P[i]?=some x->vs[i]?=some v->kindOf x=some .local ->
  bindL kindOf (P.zip vs) m x=some v
 | [],_,_,_,_,h,_,_=>by simp at h
 | _::_,[],_,_,_,_,h,_=>by simp at h
 | p::P,w::vs,0,m,nd,h1,h2,hk=>by
  simp at h1 h2;subst h1;subst h2
  show bindL kindOf ((p,w)::P.zip vs) m p=_
  unfold bindL
  rw [bindL_out fun v hv=>(List.nodup_cons.mp nd).1 (List.of_mem_zip hv).1,if_pos hk]
  simp
 | p::P,w::vs,i+1,m,nd,h1,h2,hk=>by
  show bindL kindOf ((p,w)::P.zip vs) m x=_
  unfold bindL
  exact bindL_get (i:=i) (List.nodup_cons.mp nd).2 (by simpa using h1) (by simpa using h2) hk
theorem bindC_get {kindOf:Str->Option NameKind} {x:Str} {v:Value}:∀ {P:List Str} {vs:List Value} {i:Nat} {m:Str->Option Value},P.Nodup->P[i]?=some x->vs[i]?=some v->kindOf x≠some .local ->
  bindC kindOf (P.zip vs) m x=some v
 | [],_,_,_,_,h,_,_=>by simp at h
 | _::_,[],_,_,_,_,h,_=>by simp at h
 | p::P,w::vs,0,m,nd,h1,h2,hk=>by
  simp at h1 h2;subst h1;subst h2
  show bindC kindOf ((p,w)::P.zip vs) m p=_
  unfold bindC
  rw [bindC_out fun v hv=>(List.nodup_cons.mp nd).1 (List.of_mem_zip hv).1,if_neg hk]
  simp
 | p::P,w::vs,i+1,m,nd,h1,h2,hk=>by
  show bindC kindOf ((p,w)::P.zip vs) m x=_
  unfold bindC
  exact bindC_get (i:=i) (List.nodup_cons.mp nd).2 (by simpa using h1) (by simpa using h2) hk
def start (N:List Str) (vs:List V):St:=vs.map some++List.replicate (N.length - vs.length) none
def cxOf (CX:CXT) (P:Program) (w:World) (K:PySem.W.Frag) (mg:Str->Option Value) (base:Heap) (N:List Str) (qual:Str) (scope:Scope) (f:Addr) (cd:Value) (A:Around) (outer:List Env) (s:Shared) (H:Hp) (E:XK):Cx where
 prog:=P
 w:=w
 K:=K
 mg:=mg
 base:=base
 A:=A.deeper (envOfC qual scope s.heap.objs.size f cd)
 N:=N
 s₀:=s
 H₀:=H
 env:=envOfC qual scope s.heap.objs.size f cd
 outer:=outer
 stack:=envOfC qual scope s.heap.objs.size f cd::outer
 ex:=[]
 calm:=true
 fn:=fun _=>true
 pn:=[]
 xe:=fun e s'=>wpAny (model P w) (A.deeper (envOfC qual scope s.heap.objs.size f cd)) (leaving (envOfC qual scope s.heap.objs.size f cd) e) (fun _ s''=>CX outer H s E e s'') (fun e' s''=>CX outer H s E e' s'') s'
theorem cell_has {sc:Scope} {n:Nat} {x:Str} (h:sc.names.lookup x=some .cell):∃ c,(cellsFrom n sc.names []).lookup x=some c:=by
 have q:=PySem.W.cellsFrom_some sc.names n [] (.inl h)
 exact Option.isSome_iff_exists.mp q
theorem inv_start {CX:CXT} {P:Program} {w:World} {K:PySem.W.Frag} {mg:Str->Option Value} {base:Heap} {N ps:List Str} {qual:Str} {scope:Scope} {f:Addr} {cd:Value} {A:Around} {outer:List Env} {s s1:Shared} {H:Hp} {E:XK} {us:List Value} {vs:List V}
  (S:FnScope N ps scope) (hd:A.handled=none) (e0:Env0 P w K mg base A outer s H) (hl:vs.length=ps.length) (r:Vals vs us)
  (x:InCallC s s.heap.objs.size (bindL (envOfC qual scope s.heap.objs.size f cd).kindOf (ps.zip us) fun _=>none) (cellsFrom (s.heap.objs.size+1) scope.names []) (bindC (envOfC qual scope s.heap.objs.size f cd).kindOf (ps.zip us) fun _=>none) s1) :
  Inv (cxOf CX P w K mg base N qual scope f cd A outer s H E) [] (start N vs) H s1:=by
 have hpl:ps.length<=N.length:=by have:=congrArg List.length S.pre;rw [List.length_take] at this;omega
 obtain ⟨h1,tk,rfl,hk⟩:=x.done
 have noA:∀ b:Addr,b∉(cxOf CX P w K mg base N qual scope f cd A outer s H E).ex:=fun b z=>absurd (show b∈([]:List Addr) from z) (by simp)
 refine ⟨⟨e0.mod,S.kind,rfl,rfl,Nat.le_refl _,fun y z c h1 h2=>?_,fun y hy=>?_,fun y c _ h=>?_,fun _=>hd,Around.frames_deeper e0.frames,.inr ⟨rfl,rfl⟩,fun b z=>absurd z (noA b),e0.bs,e0.bsz,fun b _ _=>noA b,fun b z=>absurd z (noA b),e0.funs,e0.frf⟩,
  rfl,e0.bare,Un.kept hk,⟨_,x.toInCall.ns,fun i y v h1 h2 h3=>?_⟩,fun y c h=>⟨_,x.cell y c h⟩,e0.hok.fresh (Nat.le_refl _),fun y c h=>?_,fun p hp=>absurd (show p∈([]:List (Addr×Obj)) from hp) (by simp),e0.hok.kept hk,?_⟩
 ·exact name_of_addr x.apart (PySem.mem_of_lookup h1) (PySem.mem_of_lookup h2)
 ·have hy:scope.names.lookup y=some .cell\/scope.names.lookup y=some .free:=hy
  rcases hy with hy | hy
  ·exact cell_has hy
  ·exact absurd rfl (S.nofree _ (PySem.mem_of_lookup hy))
 ·exact Nat.le_of_lt (x.above y c (PySem.mem_of_lookup h))
 ·have hi:i<vs.length:=by
   unfold start at h2
   by_cases hi:i<vs.length
   ·exact hi
   ·rw [List.getElem?_append_right (by simpa using hi)] at h2
    rw [List.getElem?_replicate] at h2
    split at h2<;>cases h2
  have ha:vs[i]?=some v:=by
   unfold start at h2
   rw [List.getElem?_append_left (by simpa using hi),List.getElem?_map] at h2
   cases e:vs[i]? with
   | none=>rw [e] at h2;cases h2
   | some a=>rw [e] at h2;cases h2;rfl
  obtain ⟨u,hu,rv⟩:=r.get ha
  have hp:ps[i]?=some y:=by
   rw [<- S.pre,List.getElem?_take_of_lt (by omega)];exact h1
  have ndP:ps.Nodup:=by rw [<- S.pre];exact S.nd.sublist (List.take_sublist _ _)
  refine ⟨u,rv,?_⟩
  rcases S.par y (List.mem_of_getElem? hp) with k | k
  ·exact .inl ⟨k,bindL_get ndP hp hu k⟩
  ·obtain ⟨c,e⟩:=cell_has (n:=s.heap.objs.size+1) k
   refine .inr ⟨.inl k,c,e,?_⟩
   have q:=x.cell y c e
   rw [bindC_get ndP hp hu (by show scope.names.lookup y≠_;rw [k];decide)] at q
   exact q
 ·exact e0.hok.fresh (Nat.le_of_lt (x.above y c (PySem.mem_of_lookup h)))
 ·unfold start
  show _=N.length
  rw [List.length_append,List.length_map,List.length_replicate]
  omega
theorem uu {CX:CXT} {P:Program} {w:World} {K:PySem.W.Frag} {mg:Str->Option Value} {base:Heap} {k:Nat} {f:Addr} {name qual:Str} {params:Arguments} {body:List Stmt} {scope:Scope} {dV kV doc pm cdv ct oc:Value} {an od:Option Addr}
    {osl:Array (Option Value)} {N ps:List Str} {sp:Sp} (lk:K.lookup f=some ⟨oc,od,.func (PySem.W.fnOf name qual params body scope dV kV doc pm an cdv ct),osl⟩) (hcd:PySem.W.codeIn K cdv qual=true) (S:FnScope N ps scope)
    (len:∀ vs H Q E,sp vs H Q E->vs.length=ps.length)
    (hbody:∀ (A:Around) (outer:List Env) (s:Shared) (H:Hp) (vs:List V) (Q:VK) (E:XK),Room k (A.deeper (envOfC qual scope s.heap.objs.size f cdv))->sp vs H Q E ->
      ∃ t,PSs (cxOf CX P w K mg base N qual scope f cdv A outer s H E) body t/\t {nx:=fun _ H'=>Q .non H',rt:=Q} (start N vs) H) :
    FnOk P w K mg base CX (k+1) f (PySem.W.fnOf name qual params body scope dV kV doc pm an cdv ct) ps sp:=by
  refine ⟨len,fun A outer s H args us vs Q E hr e0 hb r hsp=>?_⟩
  have hl:=len _ _ _ _ hsp
  have KX:K.In s.heap:=e0.mod.kin.keeps fun b o e=>(e0.bs b o e).1
  have lim:s.heap.NoLimit:=e0.mod.nolimit.keeps fun b o e=>(e0.bs b o e).1
  have hkind:∀ y∈ps.zip us,scope.names.lookup y.1=some .local\/(scope.names.lookup y.1=some .cell/\((cellsFrom (s.heap.objs.size+1) scope.names []).lookup y.1).isSome=true):=fun ⟨n,v⟩ hy=>by
    rcases S.par n (List.of_mem_zip hy).1 with q | q
    · exact .inl q
    · exact .inr ⟨q,PySem.W.cellsFrom_some _ _ _ (.inl q)⟩
  refine codeAny_call_function hr.depth (KX _ _ lk) rfl S.co S.gen rfl (PySem.W.codeRec_of KX hcd) (hb _ _ _ _ ?_)
  refine wpAny_newFunctionEnv_cells S.kind hkind fun env he s1 x=>?_
  subst he
  refine ⟨lim.keeps x.toInCall.keep,codeAny_func ?_⟩
  obtain ⟨t,ht,hq⟩:=hbody A outer s H vs Q E (hr.deeper _) hsp
  have I:Inv (cxOf CX P w K mg base N qual scope f cdv A outer s H E) [] (start N vs) H s1:=inv_start S hr.hd e0 hl r x
  refine wpAny_mono (ht [] s1 (start N vs) H _ I hq) (fun fl s' hs=>?_) fun e s' hs=>hs
  have fin:∀ {σ':St} {H':Hp} {v:V} {u:Value},Inv (cxOf CX P w K mg base N qual scope f cdv A outer s H E) [] σ' H' s'->RelV v u->Q v H'->CE outer P w H s Q u s' :=
    fun {σ' H' v u} J rv q=>⟨v,H',J.os,J.bare,J.base,J.hok,rv,q⟩
  cases fl with
  | ret u =>
    obtain ⟨v,σ',H',J,rv,q⟩:=hs
    exact fin J rv q
  | next =>
    obtain ⟨σ',H',J,q⟩:=hs
    exact fin (v:=V.non) (u:=Value.none) J rfl q
  | brk =>
    obtain ⟨_,_,_,q⟩:=hs
    exact False.elim q
  | cont =>
    obtain ⟨_,_,_,q⟩:=hs
    exact False.elim q
end L2
namespace L2
open PySem PySem.Spec PyProof.Rows
section
variable {X:Cx} {x:Str} {p pos:Pos} {e:Expr} {es:List Expr} {t:TA} {id T:String} {r:List V->Hp->VK->Prop}
def tCB (r:List V->Hp->VK->Prop) (t:TA):TE:=fun σ H Q=>t σ H fun vs H1=>r vs H1 Q
theorem lL (hc:CallR X (.builtin id) r) (hg:Gl X x) (hm:X.mg x=none) (hv:bootBuiltins x=some (.builtin id)) (ha:PA X (e::es) t) (hn:x ≠ "__name__":=by decide) (hdb:(x==("__debug__" : Str))=false:=by decide)
  (he:starEach (e::es) X.env=(false,eval e X.env)::starEach es X.env:=by rfl) (hpl:(backTo pos (starEach es X.env)).any (·.1)=false:=by rfl):PE X (.Call (.Name x p) (e::es) [] pos) (tCB r t):=by
 intro pins s σ H Q I h
 refine wpAny_Call_Name_kw (fO I hg hm hv ?_ hn hdb)
 exact PyProof.Rows.callWith_builtin1 (thn (ha pos pins s σ H _ I h) fun us s1 ⟨vs,H1,I1,r1,q1⟩=>hc pins s1 σ H1 vs us Q I1 r1 q1) he hpl
theorem pB (hc:CallR X (.type T) r) (hg:Gl X x) (hm:X.mg x=none) (hv:bootBuiltins x=some (.type T)) (ha:PA X (e::es) t) (hn:x ≠ "__name__":=by decide) (hdb:(x==("__debug__" : Str))=false:=by decide)
  (he:starEach (e::es) X.env=(false,eval e X.env)::starEach es X.env:=by rfl) (hpl:(backTo pos (starEach es X.env)).any (·.1)=false:=by rfl):PE X (.Call (.Name x p) (e::es) [] pos) (tCB r t):=by
 intro pins s σ H Q I h
 refine wpAny_Call_Name_kw (fO I hg hm hv ?_ hn hdb)
 exact PyProof.Rows.callWith_type1 (thn (ha pos pins s σ H _ I h) fun us s1 ⟨vs,H1,I1,r1,q1⟩=>hc pins s1 σ H1 vs us Q I1 r1 q1) he hpl
end
end L2
namespace HT
open PySem PyProof.Rows
section
open PySem.SeqAt
open PySem.AutoSeq1 (wpAny_loadPart')
open PySem.MeetsSeq PySem.MeetsSeq2 PySem.MeetsSeq3
end
section
variable {prog:Program} {w:World} {A:Around} {E:Value->Shared->Prop} {s:Shared}
theorem cat_tup {t b:Addr} {vs ws:List Value} {Q:Value->Shared->Prop} (ht:IsTup s.heap t vs.toArray) (hb:IsTup s.heap b ws.toArray) (hv:vs ≠ [])
  (h1:ws=[]->Q (.ref t) s) (h2:ws ≠ []->Q (.ref s.heap.objs.size) {s with heap:=s.heap.push {cls:=.type "tuple",data:=.seq (vs++ws).toArray} })
  (hsz:vs.length+ws.length<=sizeLine):wpAny (model prog w) A (binaryOp .Add (.ref t) (.ref b)) Q E s:=by
 obtain ⟨⟨cls,dd,data,sl⟩,ho,hc,n,hd⟩:=id ht
 obtain ⟨⟨cls2,dd2,data2,sl2⟩,ho2,hc2,n2,hd2⟩:=id hb
 simp only at hc hd hc2 hd2
 subst hc hd hc2 hd2
 have e:vs.toArray++ws.toArray=(vs++ws).toArray:=by simp
 by_cases hw:ws=[]
 ·exact concat_meets ⟨_,ho,rfl⟩ ⟨_,ho2,rfl⟩ noFill_tuple_add seq_tuple_add PySem.F.slot_tuple_add PySem.F.entry_tuple_add (PySem.F.args_tuple_add_2 _ _)
   (tuple_addW1 t b vs.toArray ws.toArray n n2 dd dd2 sl sl2 (by simpa using hv) (by simp [hw])) ⟨ho,ho2,h1 hw⟩
 ·refine concat_meets ⟨_,ho,rfl⟩ ⟨_,ho2,rfl⟩ noFill_tuple_add seq_tuple_add PySem.F.slot_tuple_add PySem.F.entry_tuple_add (PySem.F.args_tuple_add_2 _ _)
   (tuple_addW2 t b vs.toArray ws.toArray n n2 dd dd2 sl sl2 (by simpa using hv) (by simpa using hw) (by rw [List.size_toArray,List.size_toArray];exact hsz)) ⟨ho,ho2,?_⟩
  rw [e]
  exact h2 hw
def sIx (n d:Nat):Option Int->Nat
 | none=>d
 | some v=>if v<0 then (v+(n:Int)).toNat else min v.toNat n
theorem sIx_le (n d:Nat) (hd:d<=n) (o:Option Int):sIx n d o<=n:=by
 cases o with
 | none=>exact hd
 | some v =>
  show (if v<0 then (v+(n:Int)).toNat else min v.toNat n)<=n
  by_cases hv:v<0
  ·rw [if_pos hv];omega
  ·rw [if_neg hv];exact Nat.min_le_right _ _
theorem clip_eq (v:Int) (n d:Nat):(if v<0 then max (v+(n:Int)) 0 else min v (n:Int))=((sIx n d (some v):Nat):Int):=by
 show (if v<0 then max (v+(n:Int)) 0 else min v (n:Int))=(((if v<0 then (v+(n:Int)).toNat else min v.toNat n):Nat):Int)
 by_cases hv:v<0
 ·simp only [if_pos hv];omega
 ·simp only [if_neg hv];omega
theorem adjust_gen (lo hi:Option Int) (n:Nat):Builtin.Slice.sliceAdjust lo hi 1 (n:Int)=(((sIx n 0 lo:Nat):Int),((sIx n n hi:Nat):Int)):=by
 have h1:¬ ((1:Int)<0):=by omega
 unfold Builtin.Slice.sliceAdjust
 simp only [h1,if_false]
 refine Prod.ext ?_ ?_
 ·cases lo with
  | none=>rfl
  | some v=>exact clip_eq v n 0
 ·cases hi with
  | none=>rfl
  | some v=>exact clip_eq v n n
theorem places_gen (i j:Nat):Builtin.Slice.slicePlaces (i:Int) (j:Int) 1=j - i:=by
 unfold Builtin.Slice.slicePlaces
 have h1:(1:Int) > 0:=by omega
 simp only [h1,if_true,Int.ediv_one]
 split<;>omega
theorem slicePart_ {v:Value} {o:Option Int} {Q:Option Int->Shared->Prop} (p:IsPart v o) (h:Q o s):wpAny (model prog w) A (Builtin.Slice.slicePartIndex v) Q E s:=by
 cases p with
 | none=>exact slicePart_none h
 | int i t=>exact slicePart_int h
theorem sliceApplied_gen {sl:Addr} {vl vu:Value} {lo hi:Option Int} {n:Nat} {Q:Int×Int×Nat->Shared->Prop} (hs:s.heap.IsSliceOf sl vl vu .none) (pl:IsPart vl lo) (pu:IsPart vu hi)
  (h:Q (((sIx n 0 lo:Nat):Int),1,sIx n n hi - sIx n 0 lo) s):wpAny (model prog w) A (Builtin.Slice.sliceApplied (.ref sl) (pure (n:Int))) Q E s:=by
 obtain ⟨os,hos,hcs,hds⟩:=id hs
 unfold Builtin.Slice.sliceApplied Builtin.Slice.sliceFields
 refine wpAny_bind (wpAny_bind (wpAny_field hos hds (x:=vl) rfl (wpAny_bind (wpAny_field hos hds (x:=vu) rfl (wpAny_bind (wpAny_field hos hds (x:=.none) rfl (wpAny_pure ?_)))))))
 refine wpAny_bind (slicePart_none ?_)
 show wpAny _ _ (if ((1:Int)==0)=true then _ else _) _ _ s
 rw [if_neg (by decide)]
 refine wpAny_bind (slicePart_ pl (wpAny_bind (slicePart_ pu (wpAny_bind (wpAny_pure ?_)))))
 show wpAny _ _ (match Builtin.Slice.sliceAdjust lo hi 1 (n:Int) with | (lo,hi)=>pure (lo,(1:Int),Builtin.Slice.slicePlaces lo hi 1)) _ _ s
 rw [adjust_gen lo hi n]
 show wpAny _ _ (pure (((sIx n 0 lo:Nat):Int),(1:Int),Builtin.Slice.slicePlaces ((sIx n 0 lo:Nat):Int) ((sIx n n hi:Nat):Int) 1)) _ _ s
 rw [places_gen]
 exact wpAny_pure h
theorem pick_gen (xs:Array Value) (i k:Nat):((List.range k).filterMap fun (m:Nat)=>xs[((i:Int)+(m:Int)*1).toNat]?).toArray=((xs.toList.drop i).take k).toArray:=by
 have e:(fun (m:Nat)=>xs[((i:Int)+(m:Int)*1).toNat]?)=fun m=>xs[i+m]?:=by
  funext m
  have:((i:Int)+(m:Int)*1).toNat=i+m:=by omega
  rw [this]
 rw [e]
 have:=pick_run xs i k
 rw [List.filterMap_map] at this
 have e2:((fun x=>xs[x]?) ∘ fun x=>i+x)=fun m=>xs[i+m]?:=rfl
 rw [e2] at this
 rw [this]
theorem getItem_tuple_cut {t sl:Addr} {items:Array Value} {vl vu:Value} {lo hi:Option Int} {Q:Value->Shared->Prop} (ht:IsTup s.heap t items) (hs:s.heap.IsSliceOf sl vl vu .none) (pl:IsPart vl lo) (pu:IsPart vu hi)
  (hw:¬ (sIx items.size 0 lo=0/\sIx items.size items.size hi=items.size))
  (h:Q (.ref s.heap.objs.size) {s with heap:=s.heap.push {cls:=.type "tuple",data:=.seq ((items.toList.drop (sIx items.size 0 lo)).take (sIx items.size items.size hi - sIx items.size 0 lo)).toArray} })
  (hsz:items.size<=sizeLine):wpAny (model prog w) A (getItem (.ref t) (.ref sl)) Q E s:=by
 have htake:sizeOk (.seq ((items.toList.drop (sIx items.size 0 lo)).take (sIx items.size items.size hi - sIx items.size 0 lo)).toArray):=by
  show ((items.toList.drop (sIx items.size 0 lo)).take (sIx items.size items.size hi - sIx items.size 0 lo)).toArray.size<=sizeLine
  rw [List.size_toArray,List.length_take,List.length_drop,Array.length_toList]
  omega
 have hj:sIx items.size items.size hi<=items.size:=sIx_le _ _ (Nat.le_refl _) hi
 obtain ⟨os,hos,hcs,hds⟩:=id hs
 have hTs:s.TypeIs (.ref sl) "slice":=⟨os,hos,hcs⟩
 unfold getItem
 try with_reducible refine wpAny_holding ?_
 first | refine wpAny_bind (wpAny_pure ?_) | skip
 refine wpAny_bind (wpAny_sequenceKey ht.typeIs (by decide) ?_)
 refine wpAny_bind (wpAny_callSpecial?_slot (name:=Str.ofString "__getitem__") ht.typeIs PyProof.Rows.slot_tuple_getitem
  (wpAny_call_entry PyProof.Rows.slot_tuple_getitem ht.typeIs entry_tuple_getitem ?_ (args_tuple_getitem _ _)))
 show wpAny _ _ (Builtin.Tuple.tupleItemsOf (.ref t) >>= _) _ _ s
 refine wpAny_bind (tupleItemsOf_ ht ?_)
 refine wpAny_bind (wpAny_typeOf hTs ?_)
 rw [if_pos (by decide)]
 refine wpAny_bind (sliceApplied_gen hs pl pu ?_)
 have hno:¬ ((((sIx items.size 0 lo:Nat):Int)==0&&(1:Int)==1&&(sIx items.size items.size hi - sIx items.size 0 lo)==items.size)=true):=by
  intro q
  rw [Bool.and_eq_true,Bool.and_eq_true] at q
  have q1:((sIx items.size 0 lo:Nat):Int)=0:=eq_of_beq q.1.1
  have q2:sIx items.size items.size hi - sIx items.size 0 lo=items.size:=eq_of_beq q.2
  exact hw ⟨by omega,by omega⟩
 show wpAny _ _ (if (((sIx items.size 0 lo:Nat):Int)==0&&(1:Int)==1&&(sIx items.size items.size hi - sIx items.size 0 lo)==items.size)=true then _ else _) _ _ s
 rw [if_neg hno,pick_gen]
 first
  | exact wpAny_bind (m:=Builtin.Tuple.tupleExact _) (wpAny_newObj_type (wpAny_pure ⟨_,rfl,wpAny_pure h⟩) htake)
  | exact wpAny_bind (m:=Builtin.Tuple.tupleExact _) (wpAny_newObj_type (wpAny_bind (wpAny_pure (wpAny_pure ⟨_,rfl,wpAny_pure h⟩))) htake)
  | exact wpAny_bind (wpAny_bind (m:=Builtin.Tuple.tupleExact _) (wpAny_newObj_type (wpAny_pure (wpAny_pure ⟨_,rfl,wpAny_pure h⟩)) htake))
  | exact wpAny_bind (wpAny_bind (m:=Builtin.Tuple.tupleExact _) (wpAny_newObj_type (wpAny_pure ⟨_,rfl,wpAny_pure h⟩) htake))
end
end HT
namespace L2
open PySem PySem.Spec PyProof.Rows
abbrev TO:=St->Hp->(Option Int->Hp->Prop)->Prop
def PO (X:Cx) (e:Option Expr) (t:TO):Prop :=
 ∀ (pins:List (Addr×Obj)) (s:Shared) (σ:St) (H:Hp) (Q:Option Int->Hp->Prop),Inv X pins σ H s->t σ H Q ->
  wpAny (model X.prog X.w) X.A (evalPart e X.env) (fun u s'=>∃ o H',Inv X pins σ H' s'/\IsPart u o/\Q o H') X.xe s
def tNoPart:TO:=fun _ H Q=>Q none H
def tPart (t:TE):TO:=fun σ H Q=>t σ H fun x H1=>∃ i,x=.int i/\Q (some i) H1
section
variable {X:Cx} {e:Expr} {te:TE} {lo hi:Option Expr} {tl th:TO} {pos p2:Pos}
theorem po_none:PO X none tNoPart:=by
 intro pins s σ H Q I h
 rw [evalPart_none]
 exact wpAny_pure ⟨none,H,I,.none,h⟩
theorem po_some (h:PE X e te):PO X (some e) (tPart te):=by
 intro pins s σ H Q I hw
 rw [evalPart_some]
 refine thn (h pins s σ H _ I hw) fun u s1 ⟨x,H1,I1,r1,q1⟩=>?_
 obtain ⟨i,rfl,q⟩:=q1
 obtain ⟨t,rfl⟩:=r1
 exact ⟨some i,H1,I1,.int i t,q⟩
def SlR (X:Cx) (r:V->Option Int->Option Int->Hp->VK->Prop):Prop :=
 ∀ (pins:List (Addr×Obj)) (s:Shared) (σ:St) (H:Hp) (x:V) (v vl vu:Value) (lo hi:Option Int) (sl:Addr) (Q:VK),Inv X pins σ H s->RelV x v->s.heap.IsSliceOf sl vl vu .none->IsPart vl lo->IsPart vu hi->r x lo hi H Q ->
  ∃ T id,typeLookup (.type T) "__getitem__" = pure (some (.builtin id))/\s.TypeIs v T/\wpAny (model X.prog X.w) X.A (getItem v (.ref sl)) (EP X pins σ Q) X.xe s
theorem SlR.or {r r':V->Option Int->Option Int->Hp->VK->Prop} (h:SlR X r) (h':SlR X r'):SlR X (fun x lo hi H Q=>r x lo hi H Q\/r' x lo hi H Q):=by
 intro pins s σ H x v vl vu lo hi sl Q I rx hs pl pu q
 rcases q with q | q
 ·exact h pins s σ H x v vl vu lo hi sl Q I rx hs pl pu q
 ·exact h' pins s σ H x v vl vu lo hi sl Q I rx hs pl pu q
def tSl (r:V->Option Int->Option Int->Hp->VK->Prop) (te:TE) (tl th:TO):TE:=fun σ H Q=>te σ H fun x H1=>tl σ H1 fun l H2=>th σ H2 fun u H3=>r x l u H3 Q
theorem rA {r:V->Option Int->Option Int->Hp->VK->Prop} (hr:SlR X r) (he:PE X e te) (hl:PO X lo tl) (hu:PO X hi th):PE X (.Subscript e (.Slice lo hi none p2) pos) (tSl r te tl th):=by
 intro pins s σ H Q I h
 refine Subscript_ (thn (he pins s σ H _ I h) fun v s1 ⟨x,H1,I1,r1,q1⟩=>?_)
 refine wpAny_Slice (thn (hl pins s1 σ H1 _ I1 q1) fun vl s2 ⟨l,H2,I2,pl,q2⟩=>thn (hu pins s2 σ H2 _ I2 q2) fun vu s3 ⟨u,H3,I3,pu,q3⟩=>?_)
 rw [evalPart_none]
 refine wpAny_pure ?_
 have I4:Inv X pins σ H3 {s3 with heap:=s3.heap.push {cls:=.type "slice",data:=.fields #[vl,vu,.none]} }:=I3.kept (t':=s3.toks) fun b ob q=>Heap.get?_push_of_some _ q
 obtain ⟨T,id,hT,ht,hg⟩:=hr pins {s3 with heap:=s3.heap.push {cls:=.type "slice",data:=.fields #[vl,vu,.none]} } σ H3 x v vl vu l u s3.heap.objs.size Q I4 r1 (Heap.IsSliceOf.new ..) pl pu q3
 show wpAny (model X.prog X.w) X.A (subscriptTail e (.Slice lo hi none p2) v (.ref s3.heap.objs.size)) (EP X pins σ Q) X.xe {s3 with heap:=s3.heap.push {cls:=.type "slice",data:=.fields #[vl,vu,.none]} }
 exact tail_any (ops:=[.ref s3.heap.objs.size,v]) ht hT hg (by with_unfolding_all rfl)
def cutV (xs:List V) (lo hi:Option Int):List V:=(xs.drop (HT.sIx xs.length 0 lo)).take (HT.sIx xs.length xs.length hi - HT.sIx xs.length 0 lo)
theorem cutV_length (xs:List V) (lo hi:Option Int):(cutV xs lo hi).length<=xs.length:=by
 unfold cutV
 rw [List.length_take,List.length_drop]
 omega
def rSlT (K:PySem.W.Frag):V->Option Int->Option Int->Hp->VK->Prop:=fun x lo hi H Q=>∃ a xs,x=.ref a/\SqT K H a xs /\
 ¬ (HT.sIx xs.length 0 lo=0/\HT.sIx xs.length xs.length hi=xs.length)/\∀ p,H p=none->Q (.ref p) (upd H p (.tup (cutV xs lo hi)))
theorem sl_tup:SlR X (rSlT X.K):=by
 intro pins s σ H x v vl vu lo hi sl Q I rx hs pl pu h
 obtain ⟨a,xs,rfl,hx,hw,q⟩:=h
 cases rx
 obtain ⟨its,r,ht,hz⟩:=I.tuple hx
 have hlen:its.toArray.size=xs.length:=by rw [List.size_toArray];exact r.length.symm
 refine ⟨"tuple",_,PyProof.Rows.slot_tuple_getitem.lookup,ht.typeIs,?_⟩
 refine HT.getItem_tuple_cut ht hs pl pu (by rw [hlen];exact hw) ?_ (by rw [hlen];exact hz)
 rw [hlen]
 refine ⟨.ref s.heap.objs.size,_,I.laid (t':=s.toks) (o:=.tup (cutV xs lo hi)) (fun b ob q=>Heap.get?_push_of_some _ q) (Nat.le_refl _) ?_,rfl,q _ (I.hok.fresh (Nat.le_refl _))⟩
 exact ⟨Nat.le_trans (cutV_length xs lo hi) hz,_,(r.drop (HT.sIx xs.length 0 lo)).take (HT.sIx xs.length xs.length hi - HT.sIx xs.length 0 lo),IsTupN.new _ _⟩
def rCatT (K:PySem.W.Frag):R2:=fun x y H Q=>∃ a b xs ys,x=.ref a/\y=.ref b/\SqT K H a xs/\SqT K H b ys/\xs ≠ []/\xs.length+ys.length<=sizeLine /\
 (ys=[]->Q (.ref a) H)/\(ys ≠ []->∀ p,H p=none->Q (.ref p) (upd H p (.tup (xs++ys))))
theorem Vals.nil_iff {xs:List V} {us:List Value} (r:Vals xs us):us=[]↔xs=[]:=by
 cases r with
 | nil=>simp
 | cons _ _=>simp
theorem op_catT:OpR X (binaryOp .Add) (rCatT X.K):=by
 intro pins s σ H x y v u Q I rx ry h
 obtain ⟨a,b,xs,ys,rfl,rfl,ha,hb,hx,hz,q1,q2⟩:=h
 cases rx
 cases ry
 obtain ⟨its,r1,p1,_⟩:=I.tuple ha
 obtain ⟨its2,r2,p2,_⟩:=I.tuple hb
 refine HT.cat_tup p1 p2 (fun z=>hx (r1.nil_iff.mp z)) (fun z=>⟨.ref a,H,I,rfl,q1 (r2.nil_iff.mp z)⟩) (fun z=>?_) (by rw [<- r1.length,<- r2.length];exact hz)
 refine ⟨.ref s.heap.objs.size,_,I.laid (t':=s.toks) (o:=.tup (xs++ys)) (fun b ob q=>Heap.get?_push_of_some _ q) (Nat.le_refl _) ?_,rfl,q2 (fun w=>z (r2.nil_iff.mpr w)) _ (I.hok.fresh (Nat.le_refl _))⟩
 exact ⟨by rw [List.length_append];exact hz,_,r1.append r2,IsTupN.new _ _⟩
end
end L2
namespace L2
open PySem PySem.Spec PyProof.Rows
def ixN (n:Nat) (i:Int):Option Nat:=if 0<=i then (if i<n then some i.toNat else none) else if -(n:Int)<=i then some (i+n).toNat else none
def atI {α:Type} (xs:List α) (i:Int):Option α:=(ixN xs.length i).bind fun j=>xs[j]?
theorem ixN_seq {n:Nat} {i:Int} {j:Nat} (h:ixN n i=some j):seqIndex? i n=some j/\j<n /\ -(n:Int)<=i/\i<n:=by
 unfold ixN at h
 by_cases h0:0<=i
 ·rw [if_pos h0] at h
  by_cases h1:i<n
  ·rw [if_pos h1] at h
   have e:i.toNat=j:=Option.some.inj h
   exact ⟨by rw [seqIndex_of h0 h1,e],by omega,by omega,h1⟩
  ·rw [if_neg h1] at h;cases h
 ·rw [if_neg h0] at h
  by_cases h1 : -(n:Int)<=i
  ·rw [if_pos h1] at h
   have e:(i+n).toNat=j:=Option.some.inj h
   exact ⟨by rw [seqIndex_neg (by omega) h1,e],by omega,h1,by omega⟩
  ·rw [if_neg h1] at h;cases h
theorem atI_get {α:Type} {xs:List α} {i:Int} {v:α} (h:atI xs i=some v):∃ j,seqIndex? i xs.length=some j/\xs[j]?=some v/\j<xs.length /\ -(xs.length:Int)<=i/\i<xs.length:=by
 unfold atI at h
 cases e:ixN xs.length i with
 | none=>rw [e] at h;cases h
 | some j =>
  rw [e] at h
  obtain ⟨h1,h2,h3,h4⟩:=ixN_seq e
  exact ⟨j,h1,h,h2,h3,h4⟩
def PlainIx (b:Expr):Prop:=∀ o i,subscripted b false o i=operate [o,i] (getItem o i)
def IxR (X:Cx) (r:R2):Prop :=
 ∀ (value slice:Expr) (pins:List (Addr×Obj)) (s:Shared) (σ:St) (H:Hp) (x y:V) (v u:Value) (Q:VK),Inv X pins σ H s->RelV x v->RelV y u->r x y H Q ->
  subscripted slice false v u=operate [v,u] (getItem v u)->wpAny (model X.prog X.w) X.A (subscriptTail value slice v u) (EP X pins σ Q) X.xe s
def MtR (X:Cx) (id:String) (r:V->List V->Hp->VK->Prop):Prop :=
 ∀ (pins:List (Addr×Obj)) (s:Shared) (σ:St) (H:Hp) (x:V) (xs:List V) (v:Value) (us:List Value) (Q:VK),Inv X pins σ H s->RelV x v->Vals xs us->r x xs H Q ->
  wpAny (model X.prog X.w) X.A (call (.builtin id) (v::us)) (EP X pins σ Q) X.xe s
section
variable {X:Cx} {a b:Expr} {ta tb:TE} {pos:Pos}
theorem IxR.or {r r':R2} (h:IxR X r) (h':IxR X r'):IxR X (fun x y H Q=>r x y H Q\/r' x y H Q):=by
 intro value slice pins s σ H x y v u Q I rx ry q hs
 rcases q with q | q
 ·exact h value slice pins s σ H x y v u Q I rx ry q hs
 ·exact h' value slice pins s σ H x y v u Q I rx ry q hs
theorem MtR.or {id:String} {r r':V->List V->Hp->VK->Prop} (h:MtR X id r) (h':MtR X id r'):MtR X id (fun x xs H Q=>r x xs H Q\/r' x xs H Q):=by
 intro pins s σ H x xs v us Q I rx rs q
 rcases q with q | q
 ·exact h pins s σ H x xs v us Q I rx rs q
 ·exact h' pins s σ H x xs v us Q I rx rs q
theorem sX {r:R2} (hr:IxR X r) (ha:PE X a ta) (hb:PE X b tb) (hs:PlainIx b):PE X (.Subscript a b pos) (tOp r ta tb):=by
 intro pins s σ H Q I h
 exact Subscript_ (binT ha hb I h fun v u s2 x y H2 I2 rx ry q=>hr a b pins s2 σ H2 x y v u Q I2 rx ry q (hs _ _))
def rIxL (K:PySem.W.Frag):R2:=fun x y H Q=>∃ p xs i v,x=.ref p/\y=.int i/\SqL K H p xs/\atI xs i=some v/\Q v H
def rIxT (K:PySem.W.Frag):R2:=fun x y H Q=>∃ p xs i v,x=.ref p/\y=.int i/\SqT K H p xs/\atI xs i=some v/\Q v H
def rIxS:R2:=fun x y H Q=>∃ z i c,x=.str z/\y=.int i/\z.length<=sizeLine/\atI z.cps.toList i=some c/\Q (.str ⟨#[c]⟩) H
theorem ix_list:IxR X (rIxL X.K):=by
 intro value slice pins s σ H x y v u Q I rx ry h hs
 obtain ⟨p,xs,i,z,rfl,rfl,hq,he,q⟩:=h
 cases rx
 obtain ⟨t,rfl⟩:=ry
 obtain ⟨its,r,pl,hz⟩:=I.list hq
 obtain ⟨j,h1,h2,h3,h4,h5⟩:=atI_get he
 obtain ⟨w,ew,rw'⟩:=r.get h2
 have hl:=r.length
 have hn:=line63
 have fin:EP X pins σ Q w s:=⟨z,H,I,rw',q⟩
 by_cases h0:0<=i
 ·have hj:i.toNat=j:=by
   rw [seqIndex_of h0 h5] at h1
   exact Option.some.inj h1
  exact item_listR pl.isList h0 (by omega) (by rw [hj];simpa using ew) fin hs
 ·have hj:(i+(its.toArray.size:Int)).toNat=j:=by
   rw [seqIndex_neg (by omega) h4] at h1
   rw [List.size_toArray,<- hl]
   exact Option.some.inj h1
  exact subscriptTail_builtinR (x:=w) pl.isList.typeIs slot_list_getitem.lookup
   (wpAny_getItem_list_neg (Q:=fun r s'=>r=w/\EP X pins σ Q r s') pl.isList (by omega) (by rw [List.size_toArray]<;>omega) (by omega) (by rw [hj];simpa using ew) ⟨rfl,fin⟩) hs
theorem ix_tup:IxR X (rIxT X.K):=by
 intro value slice pins s σ H x y v u Q I rx ry h hs
 obtain ⟨p,xs,i,z,rfl,rfl,hq,he,q⟩:=h
 cases rx
 obtain ⟨t,rfl⟩:=ry
 obtain ⟨its,r,pl,hz⟩:=I.tuple hq
 obtain ⟨j,h1,h2,h3,h4,h5⟩:=atI_get he
 obtain ⟨w,ew,rw'⟩:=r.get h2
 have hl:=r.length
 have hn:=line63
 have fin:EP X pins σ Q w s:=⟨z,H,I,rw',q⟩
 exact subscriptTail_builtinR (x:=w) pl.typeIs slot_tuple_getitem.lookup
  (getItem_tuple (j:=j) (Q:=fun r s'=>r=w/\EP X pins σ Q r s') pl (by omega) (by omega) (by rw [List.size_toArray,<- hl];exact h1) (by simpa using ew) ⟨rfl,fin⟩) hs
theorem ix_str:IxR X rIxS:=by
 intro value slice pins s σ H x y v u Q I rx ry h hs
 obtain ⟨z,i,c,rfl,rfl,hz,he,q⟩:=h
 obtain ⟨t,rfl⟩:=rx
 obtain ⟨t',rfl⟩:=ry
 obtain ⟨j,h1,h2,h3,h4,h5⟩:=atI_get he
 have hl:z.cps.toList.length=z.length:=by simp [Str.length]
 rw [hl] at h1 h4 h5
 have hn:=line63
 exact tail_any (typeIs_str s z t) slot_str_getitem.lookup (getItem_str (c:=c) (by
  have e1:decide (i < -(2 ^ 63:Int))=false:=decide_eq_false (by omega)
  have e2:decide (i ≥ 2 ^ 63)=false:=decide_eq_false (by omega)
  rw [e1,e2,Bool.or_false]) (by rw [h1];simpa using h2) ⟨.str ⟨#[c]⟩,H,I.tok _,⟨_,rfl⟩,q⟩) hs
theorem Inv.lst {pins:List (Addr×Obj)} {σ:St} {H:Hp} {s:Shared} {p:Addr} {xs:List V} (I:Inv X pins σ H s) (h:H p=some (.lst xs)) :
  ∃ (its:List Value) (n:Nat),Vals xs its/\s.heap.get? p=some {cls:=.type "list",data:=.seq its.toArray n}/\xs.length<=sizeLine:=by
 obtain ⟨z,its,n,r,e⟩:=I.hok p _ h
 exact ⟨its,n,r,e,z⟩
theorem slice_bounds (lo hi:Option Int) (n:Nat):(sliceBounds lo hi none n).1=((HT.sIx n 0 lo:Nat):Int)/\(sliceBounds lo hi none n).2.1=((HT.sIx n n hi:Nat):Int)/\(sliceBounds lo hi none n).2.2=1:=by
 refine ⟨?_,?_,rfl⟩
 ·cases lo with
  | none=>simp [sliceBounds,HT.sIx]
  | some i =>
   simp only [sliceBounds,HT.sIx,Option.getD_none,show (1:Int) > 0 by decide,if_true]
   by_cases h:i<0
   ·simp only [h,if_true]<;>omega
   ·simp only [h,if_false]<;>omega
 ·cases hi with
  | none=>simp [sliceBounds,HT.sIx]
  | some i =>
   simp only [sliceBounds,HT.sIx,Option.getD_none,show (1:Int) > 0 by decide,if_true]
   by_cases h:i<0
   ·simp only [h,if_true]<;>omega
   ·simp only [h,if_false]<;>omega
theorem slicePick_cut (its:List Value) (lo hi:Option Int):slicePick its.toArray lo hi none=((its.drop (HT.sIx its.length 0 lo)).take (HT.sIx its.length its.length hi - HT.sIx its.length 0 lo)).toArray:=by
 obtain ⟨h1,h2,h3⟩:=slice_bounds lo hi its.toArray.size
 unfold slicePick
 rw [h1,h2,h3]
 simp only [sliceRange_one,pick_run,List.size_toArray]<;>rfl
def rSlL (K:PySem.W.Frag):V->Option Int->Option Int->Hp->VK->Prop:=fun x lo hi H Q=>∃ a xs,x=.ref a/\SqL K H a xs/\∀ p,H p=none->Q (.ref p) (upd H p (.lst (cutV xs lo hi)))
theorem sl_list:SlR X (rSlL X.K):=by
 intro pins s σ H x v vl vu lo hi sl Q I rx hs pl pu h
 obtain ⟨a,xs,rfl,hx,q⟩:=h
 cases rx
 obtain ⟨its,r,ht,hz⟩:=I.list hx
 have hlen:=r.length
 refine ⟨"list",_,slot_list_getitem.lookup,ht.isList.typeIs,?_⟩
 refine wpAny_getItem_list_slice ht.isList hs pl pu .none (by simp) ?_ (by rw [List.size_toArray]<;>omega)
 rw [slicePick_cut,<- hlen]
 refine ⟨.ref s.heap.objs.size,_,I.laid (t':=s.toks) (o:=.lst (cutV xs lo hi)) (fun b ob q=>Heap.get?_push_of_some _ q) (Nat.le_refl _) ?_,rfl,q _ (I.hok.fresh (Nat.le_refl _))⟩
 exact ⟨Nat.le_trans (cutV_length xs lo hi) hz,_,0,(r.drop (HT.sIx xs.length 0 lo)).take (HT.sIx xs.length xs.length hi - HT.sIx xs.length 0 lo),Heap.get?_push_size _ rfl⟩
def flatV:V->Bool
 | .non=>true
 | .bl _=>true
 | .int _=>true
 | .str _=>true
 | _=>false
def eqV:V->V->Bool
 | .non,.non=>true
 | .bl a,.bl b=>a==b
 | .bl a,.int b=>(if a then 1 else 0)==b
 | .int a,.bl b=>a==(if b then 1 else 0)
 | .int a,.int b=>a==b
 | .str a,.str b=>a==b
 | _,_=>false
theorem eqAt_V {A:Around} {s:Shared} {y x:V} {u v:Value} (ry:RelV y u) (rx:RelV x v) (fy:flatV y=true) (fx:flatV x=true):SeqAt.EqAt A s u v (eqV y x):=by
 cases y with
 | non =>
  cases ry
  cases x with
  | non=>cases rx;exact SeqAt.EqAt.same _
  | bl b=>cases rx;exact SeqAt.EqAt.none_bool b
  | int b=>obtain ⟨t,rfl⟩:=rx;exact SeqAt.EqAt.none_int b t
  | str b=>obtain ⟨t,rfl⟩:=rx;exact SeqAt.EqAt.none_str b t
  | _=>exact absurd (show false=true from fx) Bool.false_ne_true
 | bl a =>
  cases ry
  cases x with
  | non=>cases rx;exact SeqAt.EqAt.bool_none a
  | bl b=>cases rx;exact SeqAt.EqAt.bool_bool a b
  | int b=>obtain ⟨t,rfl⟩:=rx;exact SeqAt.EqAt.bool_int a b t
  | str b=>obtain ⟨t,rfl⟩:=rx;exact SeqAt.EqAt.bool_str a b t
  | _=>exact absurd (show false=true from fx) Bool.false_ne_true
 | int a =>
  obtain ⟨t',rfl⟩:=ry
  cases x with
  | non=>cases rx;exact SeqAt.EqAt.int_none a t'
  | bl b=>cases rx;exact SeqAt.EqAt.int_bool a t' b
  | int b=>obtain ⟨t,rfl⟩:=rx;exact SeqAt.EqAt.int_int a t' b t
  | str b=>obtain ⟨t,rfl⟩:=rx;exact SeqAt.EqAt.int_str a t' b t
  | _=>exact absurd (show false=true from fx) Bool.false_ne_true
 | str a =>
  obtain ⟨t',rfl⟩:=ry
  cases x with
  | non=>cases rx;exact SeqAt.EqAt.str_none a t'
  | bl b=>cases rx;exact SeqAt.EqAt.str_bool a t' b
  | int b=>obtain ⟨t,rfl⟩:=rx;exact SeqAt.EqAt.str_int a t' b t
  | str b=>obtain ⟨t,rfl⟩:=rx;exact SeqAt.EqAt.str_str a t' b t
  | _=>exact absurd (show false=true from fx) Bool.false_ne_true
 | _=>exact absurd (show false=true from fy) Bool.false_ne_true
def eqU (x:V) (u:Value):Bool:=match u with
 | .none=>eqV .non x
 | .bool b=>eqV (.bl b) x
 | .int i _=>eqV (.int i) x
 | .str z _=>eqV (.str z) x
 | _=>false
theorem eqU_of {x y:V} {u:Value} (r:RelV y u) (f:flatV y=true):eqU x u=eqV y x:=by
 cases y with
 | non=>cases r;rfl
 | bl b=>cases r;rfl
 | int i=>obtain ⟨t,rfl⟩:=r;rfl
 | str z=>obtain ⟨t,rfl⟩:=r;rfl
 | _=>exact absurd (show false=true from f) Bool.false_ne_true
theorem any_eqU {x:V}:∀ {xs:List V} {us:List Value},Vals xs us->xs.all flatV=true->us.any (eqU x)=xs.any fun y=>eqV y x
 | _,_,.nil,_=>rfl
 | y::xs,u::us,.cons r t,f=>by
  rw [List.all_cons,Bool.and_eq_true] at f
  rw [List.any_cons,List.any_cons,eqU_of r f.1,any_eqU t f.2]
theorem jB {A:Around} {s:Shared} {x:V} {v:Value} (rx:RelV x v) (fx:flatV x=true):∀ {xs:List V} {us:List Value},Vals xs us->xs.all flatV=true->∀ u∈us,SeqAt.EqAt A s u v (eqU x u)
 | _,_,.nil,_=>fun u hu=>by cases hu
 | y::xs,u::us,.cons r t,f=>fun u' hu=>by
  rw [List.all_cons,Bool.and_eq_true] at f
  rcases List.mem_cons.mp hu with rfl | hu
  ·rw [eqU_of r f.1];exact eqAt_V r rx f.1 fx
  ·exact jB rx fx t f.2 u' hu
def inV (x:V) (xs:List V):Bool:=xs.any fun y=>eqV y x
def rIn (K:PySem.W.Frag) (neg:Bool):R2:=fun x y H Q=>∃ p xs,y=.ref p/\(SqL K H p xs\/SqT K H p xs)/\flatV x=true/\xs.all flatV=true/\Q (.bl (if neg then !inV x xs else inV x xs)) H
theorem op_in_seq:OpR X (compareOp .In) (rIn X.K false):=by
 intro pins s σ H x y v u Q I rx ry h
 obtain ⟨p,xs,rfl,hq,fx,fs,q⟩:=h
 cases ry
 rcases hq with hq | hq
 ·obtain ⟨its,r,pl,hz⟩:=I.list hq
  refine SeqAt.in_listAt (eqU x) pl.isList (fun w hw=>jB rx fx r fs w (by simpa using hw)) ⟨.bl _,H,I,rfl,?_⟩
  rw [show its.toArray.any (eqU x)=its.any (eqU x) by simp,any_eqU r fs]
  exact q
 ·obtain ⟨its,r,pl,hz⟩:=I.tuple hq
  refine SeqAt.in_tupleAt (eqU x) pl (fun w hw=>jB rx fx r fs w (by simpa using hw)) ⟨.bl _,H,I,rfl,?_⟩
  rw [show its.toArray.any (eqU x)=its.any (eqU x) by simp,any_eqU r fs]
  exact q
theorem call_len_seq:CallR X (.builtin "len") (fun xs H Q=>∃ p ys,xs=[.ref p]/\(SqL X.K H p ys\/SqT X.K H p ys)/\Q (.int ys.length) H):=by
 intro pins s σ H xs us Q I r h
 obtain ⟨p,ys,rfl,hq,q⟩:=h
 obtain ⟨u,rfl,rx⟩:=vals1 r
 cases rx
 have hn:=line63
 rcases hq with hq | hq
 ·obtain ⟨its,r',pl,hz⟩:=I.list hq
  have hlen:=r'.length
  exact Calls.call_len_list pl.isList (by simp only [List.size_toArray]<;>omega) ⟨.int ys.length,H,I.tok _,⟨s.toks+1,by rw [List.size_toArray,hlen]⟩,q⟩
 ·obtain ⟨its,r',pl,hz⟩:=I.tuple hq
  have hlen:=r'.length
  exact len_tuple pl (by simp only [List.size_toArray]<;>omega) ⟨.int ys.length,H,I.tok _,⟨s.toks+1,by rw [List.size_toArray,hlen]⟩,q⟩
theorem CallR.or {f:Value} {r r':List V->Hp->VK->Prop} (h:CallR X f r) (h':CallR X f r'):CallR X f (fun xs H Q=>r xs H Q\/r' xs H Q):=by
 intro pins s σ H xs us Q I rs q
 rcases q with q | q
 ·exact h pins s σ H xs us Q I rs q
 ·exact h' pins s σ H xs us Q I rs q
theorem call_tuple_of:CallR X (.type "tuple") (fun xs H Q=>∃ p ys,xs=[.ref p]/\((SqL X.K H p ys/\∀ l,H l=none->Q (.ref l) (upd H l (.tup ys)))\/(SqT X.K H p ys/\Q (.ref p) H))):=by
 intro pins s σ H xs us Q I r h
 obtain ⟨p,ys,rfl,h⟩:=h
 obtain ⟨u,rfl,rx⟩:=vals1 r
 cases rx
 rcases h with ⟨hq,q⟩ | ⟨hq,q⟩
 ·obtain ⟨its,r',pl,hz⟩:=I.list hq
  have hlen:=r'.length
  refine call_tuple_list pl.isList (fun h' kp=>?_) (by simp only [List.size_toArray]<;>omega)
  have I1:Inv X pins σ H {s with heap:=h' }:=I.kept (t':=s.toks) kp
  have I2:Inv X pins σ (upd H h'.objs.size (.tup ys)) {s with heap:=h'.push {cls:=.type "tuple",data:=.seq its.toArray} } :=
   I1.laid (t':=s.toks) (fun b o e=>Heap.get?_push_of_some _ e) (Nat.le_refl _) (show ObjOk X.prog X.w _ _ _ (.tup ys) from ⟨hz,its,r',IsTupN.new _ _⟩)
  exact ⟨.ref h'.objs.size,_,I2,rfl,q _ (I1.hok.fresh (Nat.le_refl _))⟩
 ·obtain ⟨its,r',pl,hz⟩:=I.tuple hq
  exact call_tuple_same pl ⟨.ref p,H,I,rfl,q⟩
def tyV (K:PySem.W.Frag) (T:String) (x:V) (H:Hp):Prop:=match x with
 | .str _=>T = "str"
 | .int _=>T = "int"
 | .ref p=>(T = "list" /\ ∃ xs,SqL K H p xs)\/(T = "tuple" /\ ∃ o,K.lookup p=some o/\o.cls=.type "tuple" /\ o.dict=none) \/
   (T = "dict" /\ ((∃ kvs,H p=some (.dK kvs))\/∃ kvs,H p=some (.dT kvs)))\/(T = "set" /\ ∃ S n,H p=some (.set S n))
 | _=>False
theorem tyV_is {pins:List (Addr×Obj)} {σ:St} {H:Hp} {s:Shared} {T:String} {x:V} {v:Value} (I:Inv X pins σ H s) (r:RelV x v) (ty:tyV X.K T x H) :
  s.TypeIs v T/\∀ a,v=.ref a->∃ ob,s.heap.get? a=some ob/\ob.dict=none:=by
 cases x with
 | str z =>
  obtain ⟨t,rfl⟩:=r
  cases (show T = "str" from ty)
  exact ⟨typeIs_str s z t,fun _ e=>nomatch e⟩
 | int i =>
  obtain ⟨t,rfl⟩:=r
  cases (show T = "int" from ty)
  exact ⟨typeIs_int s i t,fun _ e=>nomatch e⟩
 | ref p =>
  cases r
  rcases ty with ⟨rfl,xs,hq⟩ | ⟨rfl,o,hk,hc,hd⟩ | ⟨rfl,hk⟩ | ⟨rfl,S,n,hk⟩
  ·obtain ⟨its,_,pl,_⟩:=I.list hq
   refine ⟨pl.isList.typeIs,fun a e=>?_⟩
   cases e
   obtain ⟨o,n,e,c,hd,_⟩:=pl
   exact ⟨o,e,hd⟩
  ·refine ⟨⟨o,I.kIn p o hk,hc⟩,fun a e=>?_⟩
   cases e
   exact ⟨o,I.kIn _ o hk,hd⟩
  ·have z:∃ o,s.heap.get? p=some o/\o.ExactDict:=by
    rcases hk with ⟨kvs,hk⟩ | ⟨kvs,hk⟩
    ·obtain ⟨_,_,_,_,o,_,_,e,ex,_⟩:=I.hok p _ hk
     exact ⟨o,e,ex⟩
    ·obtain ⟨_,_,_,_,o,_,_,e,ex,_⟩:=I.hok p _ hk
     exact ⟨o,e,ex⟩
   obtain ⟨o,e,ex⟩:=z
   refine ⟨⟨o,e,ex.1⟩,fun a e2=>?_⟩
   cases e2
   exact ⟨o,e,ex.2.1⟩
  ·obtain ⟨o,_,_,_,e,ex,_⟩:=I.hok p _ hk
   refine ⟨⟨o,e,ex.1⟩,fun a e2=>?_⟩
   cases e2
   exact ⟨o,e,ex.2.1⟩
 | _=>exact False.elim ty
def tBM0 (K:PySem.W.Frag) (T:String) (r:V->List V->Hp->VK->Prop) (to:TE):TE:=fun σ H Q=>to σ H fun x H1=>tyV K T x H1/\r x [] H1 Q
def tBM (K:PySem.W.Frag) (T:String) (r:V->List V->Hp->VK->Prop) (to:TE) (t:TA):TE:=fun σ H Q=>to σ H fun x H1=>tyV K T x H1/\t σ H1 fun xs H2=>r x xs H2 Q
variable {o e:Expr} {es:List Expr} {to:TE} {t:TA} {name:Str} {apos cpos:Pos} {T id:String} {r:V->List V->Hp->VK->Prop}
theorem tH (pa:PlainAttrs T) (slot:Slot T name id) (hty:typeOf (.builtin id)=pure (.type "method_descriptor")) (hm:MtR X id r) (ho:PE X o to)
  (hbase:attributeBase o name X.env (eval o X.env)=eval o X.env:=by rfl) (hline:(apos.endLine==cpos.line)=true:=by rfl):PE X (.Call (.Attribute o name apos) [] [] cpos) (tBM0 X.K T r to):=by
 intro pins s σ H Q I h
 refine wpAny_Call_method0_late hbase hline (thn (ho pins s σ H _ I h) fun v s1 ⟨x,H1,I1,r1,ty,q1⟩=>?_)
 obtain ⟨h1,h2⟩:=tyV_is I1 r1 ty
 exact ⟨T,id,pa,slot,hty,h1,h2,Calls.callWith_builtin rfl (PySem.evalArgs_none (hm pins s1 σ H1 x [] v [] Q I1 r1 .nil q1))⟩
theorem sU (pa:PlainAttrs T) (slot:Slot T name id) (hty:typeOf (.builtin id)=pure (.type "method_descriptor")) (hm:MtR X id r) (ho:PE X o to) (ha:PA X (e::es) t)
    (hbase:attributeBase o name X.env (eval o X.env)=eval o X.env:=by rfl)
    (hfew:((backTo cpos (starEach (e::es) X.env)).all (fun x=>!x.1)&&(backToKw cpos (keywordEach [] X.env)).all (fun x=>x.1.isSome)
      && decide ((e::es).length+([]:List Keyword).length+(if ([]:List Keyword).isEmpty then 0 else 1)<30))=true:=by rfl)
    (hline:(apos.endLine==cpos.line)=true:=by rfl) (hs:starEach (e::es) X.env=(false,eval e X.env)::starEach es X.env:=by rfl) (hplain:(backTo cpos (starEach es X.env)).any (·.1)=false:=by rfl) :
    PE X (.Call (.Attribute o name apos) (e::es) [] cpos) (tBM X.K T r to t):=by
  intro pins s σ H Q I h
  refine wpAny_Call_method_late hbase hfew hline rfl (thn (ho pins s σ H _ I h) fun v s1 ⟨x,H1,I1,r1,ty,q1⟩=>?_)
  obtain ⟨h1,h2⟩:=tyV_is I1 r1 ty
  refine ⟨T,id,pa,slot,hty,h1,h2,?_⟩
  have hA:=ha cpos pins s1 σ H1 _ I1 q1
  rw [hs] at hA ⊢
  refine Calls.callWith_builtin (by show (false||(backTo cpos (starEach es X.env)).any (·.1))=false;rw [hplain]<;>rfl) (Calls.evalArgs_plain ?_)
  exact thn hA fun us s2 ⟨vs,H2,I2,r2,q2⟩=>hm pins s2 σ H2 x vs v us Q I2 r1 r2 q2
/- xs.append(e),list.index on a module's tuple .. are MtR facts of 06m -/
end
end L2
namespace L2
open PySem PySem.Spec PyProof.Rows
def MtM (X:Cx) (id:String) (r:V->List V->Hp->VK->Prop):Prop :=
 ∀ (pins:List (Addr×Obj)) (s:Shared) (σ:St) (H:Hp) (x:V) (xs:List V) (v:Value) (us:List Value) (Q:VK),Inv X pins σ H s->RelV x v->Vals xs us->r x xs H Q ->
  wpAny (model X.prog X.w) X.A (call (.builtin id) (v::us)) (EP X pins σ Q) X.xe s
theorem Vals.one:∀ {x:V} {us:List Value},Vals [x] us->∃ u,us=[u]/\RelV x u
 | _,_,h=>by cases h with | cons r t=>cases t;exact ⟨_,rfl,r⟩
theorem Vals.two:∀ {x y:V} {us:List Value},Vals [x,y] us->∃ u v,us=[u,v]/\RelV x u/\RelV y v
 | _,_,_,h=>by cases h with | cons r t=>cases t with | cons q t=>cases t;exact ⟨_,_,rfl,r,q⟩
theorem Vals.zero:∀ {us:List Value},Vals [] us->us=[]
 | _,.nil=>rfl
theorem Vals.eraseIdx:∀ {xs:List V} {us:List Value} (i:Nat),Vals xs us->Vals (xs.eraseIdx i) (us.eraseIdx i)
 | _,_,_,.nil=>.nil
 | _,_,0,.cons _ t=>t
 | _,_,i+1,.cons r t=>.cons r (Vals.eraseIdx i t)
theorem Vals.rep {xs:List V} {us:List Value} (h:Vals xs us):∀ k:Nat,Vals (List.replicate k xs).flatten (List.replicate k us).flatten
 | 0=>.nil
 | k+1=>by
  rw [List.replicate_succ,List.replicate_succ,List.flatten_cons,List.flatten_cons]
  exact Vals.append h (Vals.rep h k)
theorem foldl_rep (its:List Value):∀ (k:Nat) (acc:List Value),
  List.foldl (fun x1 x2=>x1++x2) acc.toArray (List.replicate k its.toArray)=(acc++(List.replicate k its).flatten).toArray
 | 0,acc=>by simp
 | k+1,acc=>by
  have e:acc.toArray++its.toArray=(acc++its).toArray:=by simp
  have e2:(acc++its)++(List.replicate k its).flatten=acc++(List.replicate (k+1) its).flatten:=by
   rw [List.replicate_succ,List.flatten_cons,List.append_assoc]
  rw [<- e2,<- foldl_rep its k (acc++its),<- e,List.replicate_succ,List.foldl_cons]
section
variable {X:Cx} {pins:List (Addr×Obj)} {σ:St} {H:Hp} {s:Shared} {l b:Addr} {xs ys zs:List V}
theorem Inv.lset {its its':List Value} {n:Nat} {f:Array Value->Array Value} {t':Nat} (I:Inv X pins σ H s) (hH:H l=some (.lst xs))
  (e:s.heap.get? l=some {cls:=.type "list",data:=.seq its.toArray n}) (hf:f its.toArray=its'.toArray) (hv:Vals ys its') (hz:ys.length<=sizeLine) :
  Inv X pins σ (upd H l (.lst ys)) {s with heap:=s.heap.update l (Obj.mapSeq f),toks:=t' }:=by
 have q:=PySem.IsL.update e f
 rw [hf] at q
 refine I.write (x:=l) (e:=l) (by rw [hH];exact trivial) (.inl rfl) (fun b' u hb hu=>(Heap.get?_update_other s.heap (Obj.mapSeq f) (Ne.symm hb)).trans hu) ⟨_,q⟩ ?_
 exact ⟨hz,its',_,hv,q⟩
theorem Inv.lnew {its:List Value} {t':Nat} (I:Inv X pins σ H s) (hv:Vals ys its) (hz:ys.length<=sizeLine) :
  Inv X pins σ (upd H s.heap.objs.size (.lst ys)) {s with heap:=s.heap.push {cls:=.type "list",data:=.seq its.toArray},toks:=t' } :=
 I.laid (fun _ _ q=>Heap.get?_push_of_some _ q) (Nat.le_refl _) ⟨hz,its,0,hv,Heap.get?_push_size _ rfl⟩
theorem Inv.fresh (I:Inv X pins σ H s):H s.heap.objs.size=none:=I.hok.fresh (Nat.le_refl _)
theorem Inv.lstM (I:Inv X pins σ H s) (hH:H l=some (.lst xs)):xs.length<=sizeLine/\∃ (its:List Value) (n:Nat),Vals xs its/\xs.length=its.length/\s.heap.get? l=some {cls:=.type "list",data:=.seq its.toArray n}:=by
 obtain ⟨z,its,n,r,e⟩:=I.hok l _ hH
 exact ⟨z,its,n,r,r.length,e⟩
theorem notLongL {n:Nat} (h:n<=sizeLine):Builtin.List.listTooLong n=false:=by
 unfold Builtin.List.listTooLong
 exact decide_eq_false (by omega)
end
section
variable {X:Cx}
def rAppend:V->List V->Hp->VK->Prop:=fun x vs H Q=>∃ l xs y,x=.ref l/\vs=[y]/\H l=some (.lst xs)/\xs.length<sizeLine/\Q .non (upd H l (.lst (xs++[y])))
theorem kj:MtM X "list.append" rAppend:=by
 intro pins s σ H x vs v us Q I rx rv h
 obtain ⟨l,xs,y,rfl,rfl,hH,hz,q⟩:=h
 cases rx
 obtain ⟨u,rfl,ru⟩:=rv.one
 obtain ⟨z,its,n,r,hl,e⟩:=I.lstM hH
 refine call_meets F.slot_list_append ⟨_,e,rfl⟩ F.entry_list_append (F.args_list_append_2 _ _) (PySem.list_append l its.toArray n u (by rw [List.size_toArray];omega)) ⟨e,?_⟩
 refine ⟨.non,_,I.lset (its':=its++[u]) hH e (by simp) (r.append (.cons ru .nil)) ?_,rfl,q⟩
 rw [List.length_append,List.length_singleton]
 omega
def rExtend:V->List V->Hp->VK->Prop:=fun x vs H Q=>∃ l b xs zs,x=.ref l/\vs=[.ref b]/\H l=some (.lst xs)/\H b=some (.lst zs)/\xs.length+zs.length<=sizeLine/\Q .non (upd H l (.lst (xs++zs)))
theorem ug:MtM X "list.extend" rExtend:=by
 intro pins s σ H x vs v us Q I rx rv h
 obtain ⟨l,b,xs,zs,rfl,rfl,hH,hB,hz,q⟩:=h
 cases rx
 obtain ⟨u,rfl,ru⟩:=rv.one
 cases ru
 obtain ⟨z,its,n,r,hl,e⟩:=I.lstM hH
 obtain ⟨z2,its2,n2,r2,hl2,e2⟩:=I.lstM hB
 have hsz:its.toArray.size+its2.toArray.size<=sizeLine:=by rw [List.size_toArray,List.size_toArray];omega
 have hlong:¬ (!its.toArray.isEmpty&&Builtin.List.listTooLong (its.toArray.size+its2.toArray.size))=true:=by
  rw [notLongL hsz,Bool.and_false]
  exact Bool.false_ne_true
 refine call_meets F.slot_list_extend ⟨_,e,rfl⟩ F.entry_list_extend (F.args_list_extend_2 _ _)
  (AutoSeq1.list_extend_list_list_0 l its.toArray n b its2.toArray n2 hlong (by rw [List.size_toArray];omega) (by omega)) ⟨e,e2,?_⟩
 refine ⟨.non,_,I.lset (its':=its++its2) hH e (by simp) (r.append r2) ?_,rfl,q⟩
 rw [List.length_append]
 omega
def rCat:R2:=fun x y H Q=>∃ l b xs zs,x=.ref l/\y=.ref b/\H l=some (.lst xs)/\H b=some (.lst zs)/\xs.length+zs.length<=sizeLine/\∀ p,H p=none->Q (.ref p) (upd H p (.lst (xs++zs)))
theorem op_cat:OpR X (binaryOp .Add) rCat:=by
 intro pins s σ H x y v u Q I rx ry h
 obtain ⟨l,b,xs,zs,rfl,rfl,hH,hB,hz,q⟩:=h
 cases rx
 cases ry
 obtain ⟨z,its,n,r,hl,e⟩:=I.lstM hH
 obtain ⟨z2,its2,n2,r2,hl2,e2⟩:=I.lstM hB
 refine PySem.P.add_list e e2 ?_ (by rw [List.size_toArray,List.size_toArray];omega)
 have ea:its.toArray++its2.toArray=(its++its2).toArray:=by simp
 rw [ea]
 exact ⟨.ref _,_,I.lnew (t':=s.toks) (r.append r2) (by rw [List.length_append];omega),rfl,q _ I.fresh⟩
theorem oF {α:Type} (xs:List α) (k:Nat):(List.replicate k xs).flatten.length=k*xs.length:=by
 induction k with
 | zero=>simp
 | succ k ih=>rw [List.replicate_succ,List.flatten_cons,List.length_append,ih,Nat.succ_mul,Nat.add_comm]
end
section
variable {prog:Program} {w:World} {A:Around} {E:Value->Shared->Prop} {s:Shared}
set_option maxRecDepth 100000 in
end
section
variable {X:Cx}
end
end L2
namespace Att
open PySem PySem.W PySem.Calls PyProof.Rows
theorem iF {P:Params} {h:Heap}:∀ (ns:List Int) (vs:List Value),WellAll P h vs (ns.map WData.int)->IntsAre vs ns:=by
 intro ns
 induction ns with
 | nil =>
  intro vs w
  rw [List.map_nil] at w
  cases w
  exact .nil
 | cons n ns ih =>
  intro vs w
  rw [List.map_cons] at w
  cases w with
  | cons a b =>
   cases a
   exact .cons _ _ (ih _ b)
theorem script_of {l:OpenLaw} {n:Nat} (hn:l.most=some n) {P:Params} {h:Heap} {args:List WData} {vals:List Value}
  (hpre:l.row.toRowW.claim.pre args=true) (hwl:WellAll P h vals args) :
  ∃ a vs ns,vals=[Value.ref a]/\args=[WData.list (ns.map WData.int)]/\h.get? a=some {cls:=.type "list",data:=.seq vs.toArray}/\IntsAre vs ns/\ns.length<=n:=by
 have hsh:WShape.hasAll [] args [.list .int]=true:=(pre_splitW hpre).1
 have hc:l.pre.holds [] {args:=args}=true:=(pre_splitW hpre).2
 obtain ⟨d,r,rfl,h1,h2⟩:=hasAllW_cons hsh
 obtain rfl:=hasAllW_nil h2
 obtain ⟨xs,rfl,h3⟩:=hasW_list h1
 obtain ⟨ns,rfl⟩:=items_int h3
 have hlen:ns.length<=n:=by
  unfold OpenLaw.pre at hc
  have h4:(WTm.not (.lt (.lit (.int (n:Int))) (.len (.arg 0)))).holds [] {args:=[.list (ns.map .int)]}=true:=by
   have h4:=(holds_andW hc).1
   rw [hn] at h4
   exact h4
  have h5:=condW_of h4 (w_not (w_lt w_lit (w_len_list (w_arg rfl))))
  rw [List.length_map] at h5
  refine Nat.le_of_not_lt fun q=>?_
  have q':(n:Int)<((ns.length:Nat):Int):=by omega
  first
   | (rw [decide_eq_true q'] at h5;exact absurd h5 (by decide))
   | (simp at h5;omega)
 cases hwl with
 | cons w1 w2 =>
  cases w2
  cases w1 with
  | list ho hall=>exact ⟨_,_,ns,rfl,rfl,ho,iF ns _ hall,hlen⟩
theorem post_true (l:OpenLaw) (args:List WData):l.row.toRowW.claim.post args (.bool true) args=true :=
 postW_of (r:=l.row.toRowW) (X:=(true==true))
  (show WShape.has [] (.bool true) .bool=true by first | rfl | decide | simp [WShape.has,WShape.arms,WShape.armsAll])
  (show (WTm.eq .res (.lit (.bool true))).value [] {args:=args,res:=some (.bool true),after:=args}=some (.bool (true==true)) from w_eq_bool (w_res rfl) w_lit) rfl
theorem attach_call {l:OpenLaw} {n:Nat} {q:Program} {loose:List Str} {XP:(Str->Option Value)->Heap->Prop} {YP:World->Heap->Prop} {d:DefRec}
    (hn:l.most=some n) (hdf:d.params.defaults=[])
    (call:∀ (w:World) (s₀ s₁:Shared) (mg mb:Str->Option Value) (fa:Addr) (o:Obj) (pm cd doc:Value) (a:Addr) (vs:List Value) (ns:List Int),
      Ground q loose [] XP w s₀ mg mb s₁.heap->YP w s₁.heap ->
      s₁.heap.get? fa=some o->o.data=.func (docDef d.name d.params d.body d.scope pm cd doc)->s₁.heap.CodeRec cd d.name->mg d.name=some (.ref fa) ->
      s₁.heap.get? a=some {cls:=.type "list",data:=.seq vs.toArray}->IntsAre vs ns->ns.length<=n->s₁.gens=#[] ->
      codeAny (model l.prog w) callerA (.call (.ref fa) ⟨[.ref a],[]⟩) (fun r s'=>r=.ok (.ret (.bool true))/\OldK s₁.heap s'.heap/\s'.os=s₁.os/\AllBare s'.gens) s₁) :
    WalkO q loose XP YP l.row.toRowW d [] (fun f vs=>PySem.call f vs):=by
  intro w s₀ s₁ mg mb G Y fa o pm cd doc dV kV ho hd hcd hD hmg hg args vals as hpre hlay hrd hwl hlo
  obtain rfl:dV=.none:=Dflts.none hD hdf
  obtain rfl:kV=.none:=Dflts.noKw hD
  obtain ⟨a,vs,ns,rfl,rfl,hobj,hints,hlen⟩:=script_of hn hpre hwl
  refine enter_call (codeAny_mono (call w s₀ s₁ mg mb fa o pm cd doc a vs ns G Y ho (fd_plain hd) hcd hmg hobj hints hlen hg) fun r s' hq=>?_)
  obtain ⟨rfl,h2,h3,h4⟩:=hq
  exact ⟨.inl ⟨.bool true,.bool true,[],rfl,fun _=>rfl,.bool true,post_true l _,fun _=>⟨List.Pairwise.nil,fun _ hm=>(nomatch hm)⟩⟩,h2,h3,h4⟩
section
variable {prog:Program} {w:World} {A:Around} {E:Value->Shared->Prop} {s:Shared} {K:Frag}
def ledger (h:Heap) (L d:Addr):List (Addr×Obj):=(List.range h.objs.size).filterMap fun a=>if a=L\/a=d then none else (h.get? a).map fun o=>(a,o)
end
end Att
namespace L2
open PySem PySem.Spec PyProof.Rows
theorem fF:∀ {vs:List Value} {ns:List Int},IntsAre vs ns->Vals (ns.map V.int) vs
 | _,_,.nil=>.nil
 | _,_,.cons n t h=>.cons ⟨t,rfl⟩ (fF h)
def Only (H:Hp):Prop:=∀ b,H b=none\/∃ o xs,H b=some (.frz o (.lst xs))
theorem law_call {P:Program} {w:World} {K:PySem.W.Frag} {mg mb:Str->Option Value} {CX:CXT} {k:Nat} {fa a:Addr} {fd:FuncData} {x:Str} {sp:Sp} {s₁:Shared} {vs:List Value} {ns:List Int}
  (KX:K.In s₁.heap) (hns:s₁.heap.Ns mainGlobals mg) (hb:s₁.heap.Ns builtinsNs mb) (hbb:∀ x:Str,x ≠ "__name__" -> mb x=bootBuiltins x) (hlim:s₁.heap.NoLimit) (hg:s₁.gens=#[])
  (ha:s₁.heap.get? a=some {cls:=.type "list",data:=.seq vs.toArray}) (hi:IntsAre vs ns) (hl:ns.length<=sizeLine) (hr:Room k callerA)
  (F:∀ base:Heap,K.In base->base.Ns mainGlobals mg->FnOk P w K mg base CX k fa fd [x] sp) (hbind:∀ (s:Shared) (u:Value),BindsTo s fd ⟨[u],[]⟩ [(x,u)])
  (hsp:∀ H:Hp,Only H->SqL K H a (ns.map V.int)->sp [.ref a] H (fun v _=>v=.bl true) fun _ _ _=>False)
  (hCX:∀ H e s',CX [] H s₁ (fun _ _ _=>False) e s'->False) :
  codeAny (model P w) callerA (.call (.ref fa) ⟨[.ref a],[]⟩) (fun r s'=>r=.ok (.ret (.bool true))/\OldK s₁.heap s'.heap/\s'.os=s₁.os/\AllBare s'.gens) s₁:=by
 have rv:=fF hi
 have lenV:=hi.length
 have core:∀ H:Hp,Only H->SqL K H a (ns.map V.int)->HOk P w H s₁.heap->(∀ b,H b≠none->b=a)->(H a≠none->K.lookup a=none) ->
   codeAny (model P w) callerA (.call (.ref fa) ⟨[.ref a],[]⟩) (fun r s'=>r=.ok (.ret (.bool true))/\OldK s₁.heap s'.heap/\s'.os=s₁.os/\AllBare s'.gens) s₁:=by
  intro H hO hS hok hA hK
  have base_of:∀ {b:Addr} {o:Obj},s₁.heap.get? b=some o->H b=none->(hidT s₁.heap H).get? b=some o:=fun e n=>hidT_get e n
  have noA:∀ {b:Addr} {o:Obj} {es:Array DictEntry} {ep:Nat},s₁.heap.get? b=some o->o.data=.dict es ep->H b=none:=fun {b o es ep} e d=>by
   cases q:H b with
   | none=>rfl
   | some u =>
    have e':b=a:=hA b (by rw [q];simp)
    subst e'
    rw [ha] at e;cases e
    have d':Data.seq vs.toArray _=Data.dict es ep:=d
    cases d'
  have nsK:∀ {b:Addr} {m:Str->Option Value},s₁.heap.Ns b m->(hidT s₁.heap H).Ns b m:=fun {b m} ⟨o,es,ep,e,d,r⟩=>⟨o,es,ep,base_of e (noA e d),d,r⟩
  have hKb:K.In (hidT s₁.heap H):=fun b o e=>base_of (KX b o e) (by
   cases q:H b with
   | none=>rfl
   | some u =>
    have e':b=a:=hA b (by rw [q];simp)
    subst e'
    rw [hK (by rw [q];simp)] at e;cases e)
  have hM:Mod K mg (hidT s₁.heap H):=⟨hKb,nsK hns,⟨mb,nsK hb,hbb⟩,let ⟨mc,h1,h2⟩:=hlim;⟨mc,nsK h1,h2⟩⟩
  have e0:Env0 P w K mg (hidT s₁.heap H) callerA [] s₁ H:=⟨rfl,hM,fun b o e=>of_hidT e,Nat.le_of_eq (hidT_size _ _),trivial,fun b hb=>absurd (show b∈([]:List Addr) from hb) (by simp),hok,.of_eq hg⟩
  refine codeAny_mono ((F _ hKb (nsK hns)).run callerA [] s₁ H ⟨[.ref a],[]⟩ [.ref a] [.ref a] _ _ hr e0 (hbind s₁ (.ref a)) (.cons rfl .nil) (hsp H hO hS)) fun r s' h=>?_
  cases r with
  | error e=>exact (hCX H e s' h).elim
  | ok fl =>
   cases fl with
   | next=>exact False.elim h
   | brk=>exact False.elim h
   | cont=>exact False.elim h
   | ret u =>
    obtain ⟨v,H',os,bare,un,hok',r',q⟩:=h
    have q':v=.bl true:=q
    subst q'
    obtain rfl:u=Value.bool true:=r'
    refine ⟨rfl,OldK.of_keep fun b o e=>?_,os,bare⟩
    cases q:H b with
    | none=>exact un.keep b o e q (by intro z;exact absurd (show b∈([]:List Addr) from z) (by simp)) (by simp)
    | some u =>
     rcases hO b with z | ⟨ob,xs,z⟩
     ·rw [q] at z;cases z
     ·have z2:=un.frzs b ob _ (fun y q=>by cases q) z
      obtain ⟨e1,_⟩:=hok b _ z
      obtain ⟨e2,_⟩:=hok' b _ z2
      rw [e] at e1;cases e1
      exact e2
 cases hk:K.lookup a with
 | some o =>
  have e:=KX a o hk
  rw [ha] at e
  cases e
  refine core (fun _=>none) (fun _=>.inl rfl) (.inr ⟨_,vs.toArray,_,hk,rfl,rfl,rfl,by rw [List.size_toArray,lenV];exact hl,by simpa using rv⟩) (fun b u z=>by have z':(none:Option HO)=some u:=z;cases z') (fun b z=>absurd rfl z) fun z=>absurd rfl z
 | none =>
  refine core (fun b=>if b=a then some (.frz {cls:=.type "list",data:=.seq vs.toArray} (.lst (ns.map V.int))) else none) (fun b=>?_) (.inl (.inr ⟨{cls:=.type "list",data:=.seq vs.toArray},if_pos rfl⟩)) (fun b u z=>?_) (fun b z=>?_) fun _=>hk
  ·by_cases hb:b=a
   ·exact .inr ⟨_,_,if_pos hb⟩
   ·exact .inl (if_neg hb)
  ·by_cases hb:b=a
   ·have z':=(if_pos hb).symm.trans z
    cases z'
    subst hb
    exact ⟨ha,by rw [List.length_map];exact hl,vs,_,rv,ha⟩
   ·have z':=(if_neg hb).symm.trans z
    cases z'
  ·by_cases hb:b=a
   ·exact hb
   ·exact absurd (if_neg hb) z
end L2
namespace L2
open PySem PySem.Spec PyProof.Rows
abbrev KOf {K:PySem.W.Frag} {h:Heap} (_:K.In h):PySem.W.Frag:=K
theorem walk_of {l:PySem.W.OpenLaw} {n k:Nat} {q:Program} {loose:List Str} {XP:(Str->Option Value)->Heap->Prop} {YP:World->Heap->Prop} {d:DefRec} {K:Params->PySem.W.Frag} {CX:World->CXT} {sp:World->Sp} {x:Str}
    (hn:l.most=some n) (hn2:n<=sizeLine) (hdf:d.params.defaults=[]) (hr:Room k callerA)
    (hY:∀ (w:World) (h:Heap),YP w h->(K w.params).In h)
    (F:∀ (w:World) (mg:Str->Option Value) (fa:Addr) (h:Heap),(K w.params).In h->h.Ns mainGlobals mg->mg d.name=some (.ref fa) ->
      ∃ fd:FuncData,(∀ (s:Shared) (u:Value),BindsTo s fd ⟨[u],[]⟩ [(x,u)]) /\
        ∀ base:Heap,(K w.params).In base->base.Ns mainGlobals mg->FnOk l.prog w (K w.params) mg base (CX w) k fa fd [x] (sp w))
    (hsp:∀ (w:World) (H:Hp) (a:Addr) (ns:List Int),ns.length<=n->Only H->SqL (K w.params) H a (ns.map V.int)->sp w [.ref a] H (fun v _=>v=.bl true) fun _ _ _=>False)
    (hCX:∀ (w:World) (H:Hp) (s:Shared) (e:Value) (s':Shared),CX w [] H s (fun _ _ _=>False) e s'->False) :
    PySem.W.WalkO q loose XP YP l.row.toRowW d [] (fun f vs=>PySem.call f vs):=by
  refine Att.attach_call hn hdf fun w s₀ s₁ mg mb fa o pm cd doc a vs ns G Y ho hd hcd hmg hobj hints hlen hg=>?_
  have KX:=hY w _ Y
  obtain ⟨fd,hb,hF⟩:=F w mg fa _ KX G.T.g hmg
  exact law_call KX G.T.g G.T.b G.T.builtins G.T.nolimit hg hobj hints (Nat.le_trans hlen hn2) hr hF hb (fun H hO hS=>hsp w H a ns hlen hO hS) fun H e s'=>hCX w H s₁ e s'
end L2
/- THE LAST THEOREM (shape;LID,My.* are yours):
  My.Adr: a structure of the addresses that your layer names (classes,functions);My.Txt K t: a structure (Prop) of the equations over K;
  My.txt_mk:{K} {implicit addresses ..} (e1:nsIn K mainGlobals "law" = some (some (.ref f))) (e2:K.lookup f=some ⟨oc,od,.func (fnOf "law" "law" params body scope dV kV doc pm an cdv ct),sl⟩) (e3:codeIn K cdv "law" = true) ..:∃ t,My.Txt K t
set_option maxRecDepth 100000 in
set_option maxHeartbeats 0 in
theorem PySem.Challenge.cw_LID_holds : PySem.Challenge.rw_LID.Holds := by
 w_on;o_law;k_head;(case hw=>w_witness2)
 k_fill
 refine L2.walk_of (l:=PySem.Challenge.rw_LID) (n:=63) (k:=40) (x:="script") (CX:=fun w=>..) (sp:=fun _=>My.sp_law) rfl (by decide) rfl ⟨rfl,by decide,by decide⟩ (fun w h Y=>PySem.W.kIn_of Y) ?F ?S ?C
 case F =>
  intro w mg fa h KX G hmg
  have T:∃ t,My.Txt (L2.KOf KX) t:=by
   dsimp only [L2.KOf]                          -- K must stand as «<heap const> w.params» for k_is
   refine' My.txt_mk ?e1 ?e2 ?e3 ..
   (case e1=>PySem.W.k_is)                    -- in the order: a name->its address->its object->its parts
   (case e2=>PySem.W.k_is)
   ..
  obtain ⟨t,T⟩:=T
  have e0:=hmg.symm.trans (PySem.W.mg_of KX G T.law)
  cases e0                                       -- fa is the law's own address
  exact ⟨_,fun s u=>.of_eq rfl,fun base kb nb=>My.law_fn T kb nb⟩     -- if «.of_eq rfl» comes too early: refine' ⟨_,?b,fun base kb nb=>My.law_fn T kb nb⟩;exact fun s u=>.of_eq rfl
 case S=>exact fun w H a ns hl hO hS=>..
 case C=>exact ..
(the tactic k_is has no namespace: write k_is) -/
namespace L2
open PySem PySem.Spec PyProof.Rows
def defArgs (s:Stmt):Arguments:=match s with
 | .FunctionDef _ a _ _ _ _ _ _ _ _=>a
 | _=>{posonlyargs:=[],args:=[],vararg:=none,kwonlyargs:=[],kw_defaults:=[],kwarg:=none,defaults:=[]}
def defBody (s:Stmt):List Stmt:=match s with
 | .FunctionDef _ _ b _ _ _ _ _ _ _=>b
 | _=>[]
def defScope (s:Stmt):Scope:=match s with
 | .FunctionDef _ _ _ _ _ _ sc _ _ _=>sc
 | _=>{kind:=.function,names:=[],isGenerator:=false,isCoroutine:=false}
abbrev CX0:CXT:=fun _ _ _ _ _ _=>False
abbrev E0:XK:=fun _ _ _=>False
theorem pass0 {X:Cx}:Passes CX0 X E0:=fun _ _ _ _ _ _ _ h=>h.elim
structure Fun (K:PySem.W.Frag) (x qual:Str) (st:Stmt) (f:Addr) (fd:FuncData):Prop where
 ex:∃ (oc:Value) (od:Option Addr) (kV doc pm:Value) (an:Option Addr) (cdv ct:Value) (osl:Array (Option Value)),
  fd=PySem.W.fnOf x qual (defArgs st) (defBody st) (defScope st) .none kV doc pm an cdv ct/\K.lookup f=some ⟨oc,od,.func fd,osl⟩/\PySem.W.codeIn K cdv qual=true
 kp:PySem.W.keepIn K (.ref f)=true
section
variable {P:Program} {w:World} {K:PySem.W.Frag} {mg:Str->Option Value} {base:Heap}
theorem Fun.ok {x qual:Str} {st:Stmt} {f:Addr} {fd:FuncData} {N ps:List Str} {k:Nat} {sp:Sp} (F:Fun K x qual st f fd) (S:FnScope N ps (defScope st)) (len:∀ vs H Q E,sp vs H Q E->vs.length=ps.length)
    (hbody:∀ (cdv:Value) (A:Around) (outer:List Env) (s:Shared) (H:Hp) (vs:List V) (Q:VK) (E:XK),Room k (A.deeper (envOfC qual (defScope st) s.heap.objs.size f cdv))->sp vs H Q E ->
      ∃ t,PSs (cxOf CX0 P w K mg base N qual (defScope st) f cdv A outer s H E).nox (defBody st) t/\t {nx:=fun _ H'=>Q .non H',rt:=Q} (start N vs) H):FnOk P w K mg base CX0 (k+1) f fd ps sp:=by
  obtain ⟨oc,od,kV,doc,pm,an,cdv,ct,osl,rfl,lk,hcd⟩:=F.ex
  refine uu lk hcd S len fun A outer s H vs Q E hr hsp=>?_
  obtain ⟨t,h,q⟩:=hbody cdv A outer s H vs Q E hr hsp
  exact ⟨t,h.nox,q⟩
theorem Fun.binds {x qual:Str} {st:Stmt} {f:Addr} {fd:FuncData} {ps:List Str} (F:Fun K x qual st f fd)
  (h:∀ (kV doc pm:Value) (an:Option Addr) (cdv ct:Value) (us:List Value),us.length=ps.length->bindArgs (PySem.W.fnOf x qual (defArgs st) (defBody st) (defScope st) .none kV doc pm an cdv ct) ⟨us,[]⟩=pure (ps.zip us)):Binds K fd ps []:=by
 obtain ⟨oc,od,kV,doc,pm,an,cdv,ct,osl,rfl,lk,hcd⟩:=F.ex
 exact .all (h kV doc pm an cdv ct)
theorem qJ {x qual:Str} {st:Stmt} {f:Addr} {oc:Value} {od an:Option Addr} {osl:Array (Option Value)} {kV doc pm cdv ct:Value} (l:K.lookup f=some ⟨oc,od,.func (PySem.W.fnOf x qual (defArgs st) (defBody st) (defScope st) .none kV doc pm an cdv ct),osl⟩)
  (c:PySem.W.codeIn K cdv qual=true) (k:PySem.W.keepIn K (.ref f)=true):Fun K x qual st f (PySem.W.fnOf x qual (defArgs st) (defBody st) (defScope st) .none kV doc pm an cdv ct):=⟨⟨oc,od,kV,doc,pm,an,cdv,ct,osl,rfl,l,c⟩,k⟩
end
theorem hu_of {A:Around} {k:Nat} (hr:Room k A):A.units+1<cLine:=Nat.lt_of_le_of_lt (Nat.add_le_add_left (by decide:1<=64) _) hr.units
theorem small1000 {n:Nat} (h:n<=1000):n<sizeLine:=Nat.lt_of_le_of_lt h (by decide)
section
variable {X:Cx}
theorem pv (i:Nat) {x:Str} {pos:Pos} (hN:X.N[i]?=some x:=by rfl) (hv:Vis X.env.scope x:=by first | exact Or.inl rfl | exact Or.inr (Or.inl rfl) | exact Or.inr (Or.inr rfl)) (hd:(x==("__debug__" : Str))=false:=by decide)
  (hcd:(x==("__classdict__" : Str))=false:=by decide):PE X (.Name x pos) (tVar i):=oy hN hv hd hcd
end
def Same (H H':Hp):Prop:=∀ b o,H b=some o->H' b=some o
theorem Same.refl (H:Hp):Same H H:=fun _ _ h=>h
theorem Same.trans {H H1 H2:Hp} (a:Same H H1) (b:Same H1 H2):Same H H2:=fun c o h=>b c o (a c o h)
theorem Same.free {H H':Hp} (e:Same H H') {l:Addr} (h:H' l=Option.none):H l=Option.none:=by
 cases q:H l with
 | none=>rfl
 | some o =>
  rw [e l o q] at h
  cases h
theorem Same.seq {K:PySem.W.Frag} {H H':Hp} {a:Addr} {xs:List V} (e:Same H H') (h:SqL K H a xs):SqL K H' a xs:=by
 rcases h with (h | ⟨o,h⟩) | h
 ·exact .inl (.inl (e _ _ h))
 ·exact .inl (.inr ⟨o,e _ _ h⟩)
 ·exact .inr h
end L2
namespace HW
open PySem
inductive D where
 | non
 | bl (b:Bool)
 | int (i:Int)
 | str (x:Str)
 | tup (xs:List D)
 | lst (xs:List D)
 | fro (xs:List D)
 | obj (k a:Nat) (ks:List Str) (ds:List D)
 deriving Inhabited
abbrev R:=List (Option D)
inductive Out where
 | nx (ρ:R)
 | rt (d:D)
 | bk (ρ:R)
 | ct (ρ:R)
@[simp] def dTru:D->Option Bool
 | .non=>some false
 | .bl b=>some b
 | .int i=>some (i != 0)
 | .str x=>if x.length<=sizeLine then some ((x.length:Int) != 0) else none
 | .tup xs=>some (!xs.isEmpty)
 | .lst xs=>some (!xs.isEmpty)
 | .fro xs=>some (!xs.isEmpty)
 | .obj ..=>none
def bI (b:Bool):Int:=if b then 1 else 0
def dNum:D->Option Int
 | .int i=>some i
 | .bl b=>some (bI b)
 | _=>none
@[simp] def nI:D->Option Int
 | .int i=>some i
 | _=>none
@[simp] def tI:D->Option (List D)
 | .tup xs=>some xs
 | _=>none
@[simp] def lI:D->Option (List D)
 | .lst xs=>some xs
 | _=>none
@[simp] def sI:D->Option Str
 | .str x=>some x
 | _=>none
@[simp] def bO:D->Option Bool
 | .bl b=>some b
 | _=>none
@[simp] def dAdd (x y:D):Option D:=match x with
 | .int i=>(nI y).map fun j=>.int (i+j)
 | .tup xs=>(tI y).bind fun ys=>if xs.length+ys.length<=sizeLine then some (.tup (xs++ys)) else none
 | .lst xs=>(lI y).bind fun ys=>if xs.length+ys.length<=sizeLine then some (.lst (xs++ys)) else none
 | .str x=>(sI y).bind fun y=>if x.length+y.length<=sizeLine then some (.str (x++y)) else none
 | _=>none
@[simp] def dSub (x y:D):Option D:=(nI x).bind fun i=>(nI y).map fun j=>.int (i - j)
def mulFits (i j:Int):Bool:=(decide (-(2 ^ 64)<i)&&decide (i<2 ^ 64))||(decide (-(2 ^ 64)<j)&&decide (j<2 ^ 64))
@[simp] def dMul (x y:D):Option D:=(nI x).bind fun i=>(nI y).bind fun j=>if mulFits i j then some (.int (i*j)) else none
@[simp] def dDiv (x y:D):Option D:=(nI x).bind fun i=>(nI y).bind fun j=>if 0<j/\j<1073741824 then some (.int (i / j)) else none
@[simp] def dMod (x y:D):Option D:=(nI x).bind fun i=>(nI y).bind fun j=>if 0<j then some (.int (i%j)) else none
@[simp] def dNeg (x:D):Option D:=(nI x).map fun i=>.int (-i)
@[simp] def cLt (x y:D):Option Bool:=(nI x).bind fun i=>(nI y).map fun j=>decide (i<j)
@[simp] def cLe (x y:D):Option Bool:=(nI x).bind fun i=>(nI y).map fun j=>decide (i<=j)
@[simp] def cGt (x y:D):Option Bool:=(nI x).bind fun i=>(nI y).map fun j=>decide (j<i)
@[simp] def cGe (x y:D):Option Bool:=(nI x).bind fun i=>(nI y).map fun j=>decide (j<=i)
@[simp] def scalEq (x y:D):Option Bool:=match x with
 | .int i=>(nI y).map fun j=>i==j
 | .str a=>(sI y).map fun b=>a==b
 | .bl a=>(bO y).map fun b=>a==b
 | _=>none
@[simp] def cEq:D->D->Option Bool:=scalEq
@[simp] def cNe (x y:D):Option Bool:=(scalEq x y).map (!·)
@[simp] def nonD:D->Bool
 | .non=>true
 | _=>false
@[simp] def cIsN (x y:D):Option Bool:=if nonD y then some (nonD x) else none
@[simp] def cNotN (x y:D):Option Bool:=(cIsN x y).map (!·)
def flat:D->Bool
 | .non=>true
 | .bl _=>true
 | .int _=>true
 | .str _=>true
 | _=>false
def eqF:D->D->Bool
 | .non,.non=>true
 | .bl a,.bl b=>a==b
 | .bl a,.int b=>bI a==b
 | .int a,.bl b=>a==bI b
 | .int a,.int b=>a==b
 | .str a,.str b=>a==b
 | _,_=>false
@[simp] def itemsD:D->Option (List D)
 | .tup xs=>some xs
 | .lst xs=>some xs
 | .fro xs=>some xs
 | _=>none
@[simp] def cIn (x y:D):Option Bool:=(itemsD y).bind fun ys=>if flat x&&ys.all flat then some (ys.any fun y=>eqF y x) else none
mutual
def eqD:D->D->Bool
 | .non,.non=>true
 | .bl a,.bl b=>a==b
 | .bl a,.int b=>bI a==b
 | .int a,.bl b=>a==bI b
 | .int a,.int b=>a==b
 | .str a,.str b=>a==b
 | .tup xs,.tup ys=>eqDs xs ys
 | .lst xs,.lst ys=>eqDs xs ys
 | .lst xs,.fro ys=>eqDs xs ys
 | .fro xs,.lst ys=>eqDs xs ys
 | .fro xs,.fro ys=>eqDs xs ys
 | _,_=>false
def eqDs:List D->List D->Bool
 | [],[]=>true
 | x::xs,y::ys=>eqD x y&&eqDs xs ys
 | _,_=>false
end
mutual
def depD:D->Nat
 | .tup xs=>depDs xs+1
 | .lst xs=>depDs xs+1
 | .fro xs=>depDs xs+1
 | _=>0
def depDs:List D->Nat
 | []=>0
 | x::xs=>max (depD x) (depDs xs)
end
mutual
def layD:D->Bool
 | .str x=>x.cps.all (·<0x110000)
 | .tup xs=>layDs xs
 | .lst xs=>layDs xs
 | .fro xs=>layDs xs
 | .obj ..=>false
 | _=>true
def layDs:List D->Bool
 | []=>true
 | x::xs=>layD x&&layDs xs
end
mutual
def nob:D->Bool
 | .tup xs=>nobs xs
 | .lst xs=>nobs xs
 | .fro xs=>nobs xs
 | .obj ..=>false
 | _=>true
def nobs:List D->Bool
 | []=>true
 | x::xs=>nob x&&nobs xs
end
mutual
theorem dL:∀ {d:D},layD d=true->nob d=true
 | .non,_=>rfl
 | .bl _,_=>rfl
 | .int _,_=>rfl
 | .str _,_=>rfl
 | .tup xs,h=>gx (xs:=xs) h
 | .lst xs,h=>gx (xs:=xs) h
 | .fro xs,h=>gx (xs:=xs) h
 | .obj ..,h=>by cases h
theorem gx:∀ {xs:List D},layDs xs=true->nobs xs=true
 | [],_=>rfl
 | x::xs,h=>by
  have h':(layD x&&layDs xs)=true:=h
  rw [Bool.and_eq_true] at h'
  show (nob x&&nobs xs)=true
  rw [dL h'.1,gx h'.2];rfl
end
def cEqD (x y:D):Option Bool:=if depD x<=100/\layD x=true/\layD y=true then some (eqD x y) else none
def cNeD (x y:D):Option Bool:=(cEqD x y).map (!·)
def ixD (n:Nat) (i:Int):Option Nat:=if 0<=i then (if i<n then some i.toNat else none) else if -(n:Int)<=i then some (i+n).toNat else none
def atD (xs:List D) (i:Int):Option D:=(ixD xs.length i).bind fun j=>xs[j]?
@[simp] def dIx:D->D->Option D
 | .tup xs,.int i=>atD xs i
 | .lst xs,.int i=>atD xs i
 | .fro xs,.int i=>atD xs i
 | .str x,.int i=>if x.length<=sizeLine then ((ixD x.length i).bind fun j=>x.cps.toList[j]?).map fun c=>.str ⟨#[c]⟩ else none
 | _,_=>none
def cutP (n d:Nat):Option Int->Nat
 | none=>d
 | some v=>if v<0 then (v+(n:Int)).toNat else min v.toNat n
def cutD (xs:List D) (lo hi:Option Int):List D:=(xs.drop (cutP xs.length 0 lo)).take (cutP xs.length xs.length hi - cutP xs.length 0 lo)
@[simp] def dSl:D->Option Int->Option Int->Option D
 | .tup xs,lo,hi=>some (.tup (cutD xs lo hi))
 | .lst xs,lo,hi=>some (.lst (cutD xs lo hi))
 | _,_,_=>none
@[simp] def asI:D->Option (Option Int)
 | .int i=>some (some i)
 | _=>none
@[simp] def tyOf:D->String
 | .non=>"NoneType"
 | .bl _=>"bool"
 | .int _=>"int"
 | .str _=>"str"
 | .tup _=>"tuple"
 | .lst _=>"list"
 | .fro _=>"list"
 | .obj ..=>"object"
@[simp] def isOb:D->Bool
 | .obj ..=>true
 | _=>false
@[simp] def isI (d:D) (n:String):Bool:=decide (tyOf d=n)||(decide (tyOf d = "bool")&&decide (n = "int"))
@[simp] def fLen:List D->Option D
 | [d]=>(itemsD d).map fun xs=>.int xs.length
 | _=>none
@[simp] def fList:List D->Option D
 | [.tup xs]=>some (.lst xs)
 | [.lst xs]=>some (.lst xs)
 | _=>none
@[simp] def fTuple:List D->Option D
 | [.tup xs]=>some (.tup xs)
 | [.lst xs]=>some (.tup xs)
 | _=>none
@[simp] def fMax:List D->Option D
 | [.int i,.int j]=>some (.int (if j > i then j else i))
 | _=>none
@[simp] def fInt:List D->Option D
 | [.int i]=>some (.int i)
 | [.bl b]=>some (.int (if b then 1 else 0))
 | _=>none
@[simp] def fMaxD:List D->Option D
 | [.lst []]=>some .non
 | [.lst [.int a]]=>some (.int a)
 | [.lst [.int a,.int b]]=>some (.int (if b > a then b else a))
 | _=>none
def upTab (x:Str):Option Str:=if x=Str.ofString "a" then some (Str.ofString "A") else if x=Str.ofString "b" then some (Str.ofString "B") else if x=Str.ofString "c" then some (Str.ofString "C") else none
def dUp:D->Option D
 | .str x=>(upTab x).map .str
 | _=>none
def dIdx (ws:List Str):D->Option D
 | .str x=>(ws.findIdx? (·==x)).map fun (j:Nat)=>.int (j:Int)
 | _=>none
def bools:List D->Option (List Bool)
 | []=>some []
 | .bl b::r=>(bools r).map (b::·)
 | _=>none
@[simp] def fAll:List D->Option D
 | [.lst xs]=>(bools xs).map fun bs=>.bl (bs.all id)
 | _=>none
def forD (st:D->R->Option R) (body:R->Option Out):List D->R->Option Out
 | [],ρ=>some (.nx ρ)
 | d::ds,ρ=>(st d ρ).bind fun ρ1=>(body ρ1).bind fun o=>match o with
  | .nx ρ2=>forD st body ds ρ2
  | .ct ρ2=>forD st body ds ρ2
  | .bk ρ2=>some (.nx ρ2)
  | .rt r=>some (.rt r)
def compD (st:D->R->Option R) (c:R->Option Bool) (e:R->Option D):List D->R->Option (List D)
 | [],_=>some []
 | d::ds,ρ=>(st d ρ).bind fun ρ1=>(c ρ1).bind fun b=>(if b then (e ρ1).map some else some none).bind fun x =>
   (compD st c e ds ρ).map fun r=>match x with
    | some y=>y::r
    | none=>r
@[simp] def seqD (f g:R->Option Out):R->Option Out:=fun ρ=>(f ρ).bind fun o=>match o with
 | .nx ρ2=>g ρ2
 | o=>some o
@[simp] def vAt (i:Nat) (ρ:R):Option D:=ρ.getD i none
@[simp] def setAt (i:Nat) (d:D) (ρ:R):Option R:=if i<ρ.length then some (ρ.set i (some d)) else none
@[simp] def ifD (c:R->Option Bool) (f g:R->Option Out):R->Option Out:=fun ρ=>(c ρ).bind fun b=>if b then f ρ else g ρ
@[simp] def andV (f g:R->Option D):R->Option D:=fun ρ=>(f ρ).bind fun x=>match x with
 | .bl true=>g ρ
 | .bl false=>some (.bl false)
 | _=>none
@[simp] def orV (f g:R->Option D):R->Option D:=fun ρ=>(f ρ).bind fun x=>match x with
 | .bl false=>g ρ
 | .bl true=>some (.bl true)
 | _=>none
@[simp] def notV (f:R->Option D):R->Option D:=fun ρ=>(f ρ).bind fun x=>match x with
 | .bl b=>some (.bl !b)
 | _=>none
@[simp] def andT (f g:R->Option Bool):R->Option Bool:=fun ρ=>(f ρ).bind fun b=>if b then g ρ else some false
@[simp] def orT (f g:R->Option Bool):R->Option Bool:=fun ρ=>(f ρ).bind fun b=>if b then some true else g ρ
@[simp] def notT (f:R->Option Bool):R->Option Bool:=fun ρ=>(f ρ).map (!·)
@[simp] def ifE (c:R->Option Bool) (f g:R->Option D):R->Option D:=fun ρ=>(c ρ).bind fun b=>if b then f ρ else g ρ
@[simp] def op2 (F:D->D->Option D) (f g:R->Option D):R->Option D:=fun ρ=>(f ρ).bind fun x=>(g ρ).bind fun y=>F x y
@[simp] def op1 (F:D->Option D) (f:R->Option D):R->Option D:=fun ρ=>(f ρ).bind F
@[simp] def cmp2 (F:D->D->Option Bool) (f g:R->Option D):R->Option Bool:=fun ρ=>(f ρ).bind fun x=>(g ρ).bind fun y=>F x y
@[simp] def asV (f:R->Option Bool):R->Option D:=fun ρ=>(f ρ).map .bl
@[simp] def truT (f:R->Option D):R->Option Bool:=fun ρ=>(f ρ).bind dTru
@[simp] def isD (n:String) (f:R->Option D):R->Option D:=fun ρ=>(f ρ).bind fun d=>if isOb d then none else some (.bl (isI d n))
@[simp] def argN:R->Option (List D):=fun _=>some []
@[simp] def argC (f:R->Option D) (g:R->Option (List D)):R->Option (List D):=fun ρ=>(f ρ).bind fun d=>(g ρ).map fun ds=>d::ds
@[simp] def callD (F:List D->Option D) (g:R->Option (List D)):R->Option D:=fun ρ=>(g ρ).bind F
@[simp] def tupD (g:R->Option (List D)):R->Option D:=fun ρ=>(g ρ).map .tup
@[simp] def lstD (g:R->Option (List D)):R->Option D:=fun ρ=>(g ρ).map .lst
@[simp] def noP:R->Option (Option Int):=fun _=>some none
@[simp] def aP (f:R->Option D):R->Option (Option Int):=fun ρ=>(f ρ).bind asI
@[simp] def slD (f:R->Option D) (l h:R->Option (Option Int)):R->Option D:=fun ρ=>(f ρ).bind fun x=>(l ρ).bind fun a=>(h ρ).bind fun b=>dSl x a b
@[simp] def retD (f:R->Option D):R->Option Out:=fun ρ=>(f ρ).map .rt
@[simp] def asgD (f:R->Option D) (st:D->R->Option R):R->Option Out:=fun ρ=>(f ρ).bind fun d=>(st d ρ).map .nx
@[simp] def nextD:R->Option Out:=fun ρ=>some (.nx ρ)
@[simp] def loopD (it:R->Option (List D)) (st:D->R->Option R) (body:R->Option Out):R->Option Out:=fun ρ=>(it ρ).bind fun ds=>forD st body ds ρ
def chars (x:Str):List D:=x.cps.toList.map fun c=>.str ⟨#[c]⟩
@[simp] def inSeq (f:R->Option D):R->Option (List D):=fun ρ=>(f ρ).bind fun d=>match d with
 | .tup xs=>some xs
 | .lst xs=>some xs
 | .str x=>if x.cps.all (·<128) then some (chars x) else none
 | _=>none
def rngD (a b:Int):List D:=(List.range (b - a).toNat).map fun (k:Nat)=>D.int (a+(k:Int))
@[simp] def inRng1 (f:R->Option D):R->Option (List D):=fun ρ=>(f ρ).bind fun d=>match d with
 | .int j=>if -(2 ^ 62)<=j/\j<2 ^ 62 then some (rngD 0 j) else none
 | _=>none
def lcD (k:Nat) (it:R->Option (List D)) (st:D->R->Option R) (c:R->Option Bool) (e:R->Option D):R->Option D:=fun ρ =>
 (it ρ).bind fun ds=>if ds.length<=sizeLine then (compD st c e ds (List.replicate k none++ρ)).map .lst else none
@[simp] def yesT:R->Option Bool:=fun _=>some true
@[simp] def beg (n:Nat) (ds:List D):R:=ds.map some++List.replicate (n - ds.length) none
@[simp] def retOf:Option Out->Option D
 | some (.rt d)=>some d
 | some (.nx _)=>some .non
 | _=>none
@[simp] def manyD:List (D->R->Option R)->List D->R->Option R
 | [],[],ρ=>some ρ
 | f::fs,d::ds,ρ=>(f d ρ).bind fun ρ1=>manyD fs ds ρ1
 | _,_,_=>none
@[simp] def unpD (fs:List (D->R->Option R)):D->R->Option R
 | .tup ds,ρ=>manyD fs ds ρ
 | _,_=>none
@[simp] def oApp (i:Nat) (f:R->Option D):R->List D->Option (Out×List D):=fun ρ ds=>(f ρ).bind fun d=>if ρ.length=i/\ds.length<sizeLine then some (.nx ρ,ds++[d]) else none
@[simp] def oNext:R->List D->Option (Out×List D):=fun ρ ds=>some (.nx ρ,ds)
@[simp] def oIf (c:R->Option Bool) (p q:R->List D->Option (Out×List D)):R->List D->Option (Out×List D):=fun ρ ds=>(c ρ).bind fun b=>if b then p ρ ds else q ρ ds
@[simp] def ownD (i:Nat) (F:R->Option (List D)) (q:R->List D->Option Out):R->Option Out:=fun ρ=>(F ρ).bind fun ds=>if ρ.length=i+1 then q (ρ.take i) ds else none
@[simp] def obSeq (p:R->List D->Option (Out×List D)) (q:R->List D->Option Out):R->List D->Option Out:=fun ρ ds=>(p ρ ds).bind fun r=>match r with
 | (.nx ρ2,ds2)=>q ρ2 ds2
 | (.rt d,_)=>some (.rt d)
 | _=>none
@[simp] def obRel (w:R->Option Out):R->List D->Option Out:=fun ρ ds=>w (ρ++[some (.lst ds)])
def fnD (i:Nat) (tab:List (Str×(List D->Option D))) (f:R->Option D) (g:(List D->Option D)->R->Option Out):R->Option Out:=fun ρ=>(f ρ).bind fun d=>match d with
 | .str z=>(tab.lookup z).bind fun F=>if i<ρ.length then g F (ρ.set i none) else none
 | _=>none
theorem compD_map {st:D->R->Option R} {e:R->Option D} {ρ:R} (f:D->D):∀ {ds:List D},(∀ d∈ds,∃ ρ1,st d ρ=some ρ1/\e ρ1=some (f d))->compD st yesT e ds ρ=some (ds.map f)
 | [],_=>rfl
 | d::ds,h=>by
  obtain ⟨ρ1,h1,h2⟩:=h d List.mem_cons_self
  have ih:=compD_map f fun x hx=>h x (List.mem_cons_of_mem _ hx)
  simp [compD,h1,h2,ih]
def via (k n:Nat) (g:R->Option Out) (ds:List D):Option D:=if ds.length=k then retOf (g (beg n ds)) else none
theorem aw {k n:Nat} {g:R->Option Out} {ds:List D} {d:D} (h:via k n g ds=some d):ds.length=k:=by
 unfold via at h
 split at h
 ·assumption
 ·cases h
theorem aK {k n:Nat} {g:R->Option Out} {ds:List D} {d:D} (h:via k n g ds=some d):retOf (g (beg n ds))=some d:=by
 unfold via at h
 split at h
 ·exact h
 ·cases h
theorem mulFits_r {i j:Int} (h1 : -(2 ^ 64)<j) (h2:j<2 ^ 64):mulFits i j=true:=by unfold mulFits;rw [decide_eq_true h1,decide_eq_true h2];simp
theorem mulFits_l {i j:Int} (h1 : -(2 ^ 64)<i) (h2:i<2 ^ 64):mulFits i j=true:=by unfold mulFits;rw [decide_eq_true h1,decide_eq_true h2];simp
theorem forD_inv {st:D->R->Option R} {body:R->Option Out} (P:Nat->R->Prop):∀ (ds:List D) (k:Nat) (ρ0:R),P k ρ0->(∀ i d ρ,ds[i]?=some d->P (k+i) ρ->∃ ρ1 ρ2,st d ρ=some ρ1/\body ρ1=some (.nx ρ2)/\P (k+i+1) ρ2) ->
  ∃ ρ',forD st body ds ρ0=some (.nx ρ')/\P (k+ds.length) ρ'
 | [],k,ρ0,h0,_=>⟨ρ0,rfl,h0⟩
 | d::ds,k,ρ0,h0,hs=>by
  obtain ⟨ρ1,ρ2,h1,h2,h3⟩:=hs 0 d ρ0 rfl h0
  obtain ⟨ρ',h4,h5⟩:=forD_inv P ds (k+1) ρ2 h3 fun i d' ρ e p=>by
   have q:=hs (i+1) d' ρ (by simpa using e) (by rw [show k+(i+1)=k+1+i by omega];exact p)
   rw [show k+(i+1)+1=k+1+i+1 by omega] at q
   exact q
  refine ⟨ρ',?_,?_⟩
  ·simp [forD,h1,h2,h4]
  ·rw [show k+(d::ds).length=k+1+ds.length by simp;omega];exact h5
theorem gj {n:Int} {i:Nat} {d:D} (e:(rngD 0 n)[i]?=some d):d=.int i/\(i:Int)<n:=by
 unfold rngD at e
 rw [List.getElem?_map] at e
 cases q:(List.range (n - 0).toNat)[i]? with
 | none=>rw [q] at e;cases e
 | some k =>
  rw [q] at e
  obtain ⟨h1,h2⟩:=List.getElem?_eq_some_iff.mp q
  simp at h1 h2
  subst h2
  have e':D.int (0+(i:Int))=d:=Option.some.inj e
  rw [Int.zero_add] at e'
  exact ⟨e'.symm,by omega⟩
theorem fD (n:Int):(rngD 0 n).length=n.toNat:=by simp [rngD]
theorem atD_some {xs:List D} {i:Int} (h0:0<=i) (h1:i<xs.length):∃ x,x∈xs/\atD xs i=some x:=by
 have h2:i.toNat<xs.length:=by omega
 refine ⟨xs[i.toNat],List.getElem_mem h2,?_⟩
 unfold atD ixD
 rw [if_pos h0,if_pos h1]
 simp [h2]
inductive Fits:D->Prop
 | non:Fits .non
 | bl (b:Bool):Fits (.bl b)
 | int (i:Int):Fits (.int i)
 | str (x:Str):Fits (.str x)
 | tup {xs:List D}:xs.length<=1000->(∀ x∈xs,Fits x)->Fits (.tup xs)
end HW
namespace HW
open PySem
mutual
def toPy:D->PyData
 | .non=>.none
 | .bl b=>.bool b
 | .int i=>.int i
 | .str x=>.str x
 | .tup xs=>.tuple (toPys xs)
 | .lst xs=>.list (toPys xs)
 | .fro xs=>.list (toPys xs)
 | .obj ..=>.dict []
def toPys:List D->List PyData
 | []=>[]
 | d::ds=>toPy d::toPys ds
end
mutual
theorem lP:∀ {d:D},(toPy d).hasDict=false->nob d=true
 | .non,_=>rfl
 | .bl _,_=>rfl
 | .int _,_=>rfl
 | .str _,_=>rfl
 | .tup xs,h=>fE (xs:=xs) (by simpa [toPy,PyData.hasDict] using h)
 | .lst xs,h=>fE (xs:=xs) (by simpa [toPy,PyData.hasDict] using h)
 | .fro xs,h=>fE (xs:=xs) (by simpa [toPy,PyData.hasDict] using h)
 | .obj ..,h=>by simp [toPy,PyData.hasDict] at h
theorem fE:∀ {xs:List D},PyData.hasDictAll (toPys xs)=false->nobs xs=true
 | [],_=>rfl
 | x::xs,h=>by
  have h':((toPy x).hasDict||PyData.hasDictAll (toPys xs))=false:=by simpa [toPys,PyData.hasDictAll] using h
  rw [Bool.or_eq_false_iff] at h'
  show (nob x&&nobs xs)=true
  rw [lP h'.1,fE h'.2];rfl
end
def fRepr:List D->Option D
 | [.tup ds]=>if (toPy (.tup ds)).showable=true/\(toPy (.tup ds)).hasDict=false/\(toPy (.tup ds)).depth<=100/\(toPy (.tup ds)).shown.length<=sizeLine then some (.str (toPy (.tup ds)).shown) else none
 | _=>none
end HW
set_option maxHeartbeats 1000000
namespace HW
open PySem
inductive Deed | none | hour | minute | zero | ahour | aminute | alarm | run | lap | cminute | csecond | full | count
 deriving DecidableEq,Inhabited
inductive Btn | a | b | c
 deriving DecidableEq,Inhabited
inductive Face | time | alarm | laps | count
 deriving DecidableEq,Inhabited
def Deed.x:Deed->Str
 | .none=>Str.ofString "none" | .hour=>Str.ofString "hour" | .minute=>Str.ofString "minute" | .zero=>Str.ofString "zero" | .ahour=>Str.ofString "ahour" | .aminute=>Str.ofString "aminute" | .alarm=>Str.ofString "alarm"
 | .run=>Str.ofString "run" | .lap=>Str.ofString "lap" | .cminute=>Str.ofString "cminute" | .csecond=>Str.ofString "csecond" | .full=>Str.ofString "full" | .count=>Str.ofString "count"
def Btn.x:Btn->Str
 | .a=>Str.ofString "a" | .b=>Str.ofString "b" | .c=>Str.ofString "c"
def Btn.X:Btn->Str
 | .a=>Str.ofString "A" | .b=>Str.ofString "B" | .c=>Str.ofString "C"
def Btn.ix:Btn->Nat
 | .a=>0 | .b=>1 | .c=>2
def Face.x:Face->Str
 | .time=>Str.ofString "time" | .alarm=>Str.ofString "alarm" | .laps=>Str.ofString "laps" | .count=>Str.ofString "count"
structure Md where
 face:Face
 stays:Bool
 rows:List (Deed×Nat)
 deriving Inhabited
structure Bk where
 hold:Int
 back:Int
 modes:List Md
structure WS where
 mode:Nat
 clock:Int
 ah:Int
 am:Int
 aon:Bool
 lm:Int
 lr:Bool
 lk:List Int
 cm:Int
 cs:Int
 cl:Int
 cr:Bool
 ring:Int
 held:Option (Btn×Option Int)
 idle:Int
def rowD (r:Deed×Nat):D:=.tup [.str r.1.x,.int (r.2:Int)]
def Md.d (m:Md):D:=.tup [.str m.face.x,.bl m.stays,.tup (m.rows.map rowD)]
def Bk.d (b:Bk):D:=.tup [.int b.hold,.int b.back,.tup (b.modes.map Md.d)]
def optI:Option Int->D
 | .none=>.non
 | .some k=>.int k
def heldD:Option (Btn×Option Int)->D
 | .none=>.non
 | .some (x,k)=>.tup [.str x.x,optI k]
def WS.alarmD (s:WS):D:=.tup [.int s.ah,.int s.am,.bl s.aon]
def WS.lapsD (s:WS):D:=.tup [.int s.lm,.bl s.lr,.tup (s.lk.map .int)]
def WS.countD (s:WS):D:=.tup [.int s.cm,.int s.cs,.int s.cl,.bl s.cr]
def WS.d (s:WS):D:=.tup [.int (s.mode:Int),.int s.clock,s.alarmD,s.lapsD,s.countD,.int s.ring,heldD s.held,.int s.idle]
structure Md.Ok (n:Nat) (m:Md):Prop where
 six:m.rows.length=6
 nx:∀ r∈m.rows,r.2<n
structure Bk.Ok (b:Bk):Prop where
 hold1:1<=b.hold
 hold9:b.hold<=9
 back0:0<=b.back
 back60:b.back<=60
 some1:1<=b.modes.length
 some8:b.modes.length<=8
 all:∀ m∈b.modes,m.Ok b.modes.length
structure WS.Wk (b:Bk) (s:WS):Prop where
 bk:0<=b.back
 mode:s.mode<b.modes.length
 clock0:0<=s.clock
 clock1:s.clock<86400
 ah0:0<=s.ah
 ah1:s.ah<24
 am0:0<=s.am
 am1:s.am<60
 lm0:0<=s.lm
 lk:s.lk.length<=4
 cm0:0<=s.cm
 cm1:s.cm<60
 cs0:0<=s.cs
 cs1:s.cs<60
 cl0:0<=s.cl
 cl1:s.cl<3600
 cr:s.cr=true->0<s.cl
 ring0:0<=s.ring
 ring1:s.ring<=10
 idle0:0<=s.idle
 idle1:0<b.back->s.idle<b.back
 idle2:b.back=0->s.idle=0
structure WS.Ok (b:Bk) (s:WS):Prop extends WS.Wk b s where
 held:∀ x k,s.held=some (x,some k)->0<=k/\k<b.hold
def setTo (s:WS) (m c:Int):WS:=if s.cr then s else {s with cm:=m,cs:=c,cl:=60*m+c,cr:=false}
def deed:Deed->WS->WS
 | .none,s=>s
 | .hour,s=>{s with clock:=(s.clock+3600)%86400}
 | .minute,s=>{s with clock:=s.clock - s.clock%3600+(s.clock%3600+60)%3600}
 | .zero,s=>{s with clock:=s.clock - s.clock%60}
 | .ahour,s=>{s with ah:=(s.ah+1)%24}
 | .aminute,s=>{s with am:=(s.am+1)%60}
 | .alarm,s=>{s with aon:=!s.aon}
 | .run,s=>{s with lr:=!s.lr}
 | .lap,s=>if s.lr then (if 4<=s.lk.length then s else {s with lk:=s.lk++[s.lm]}) else {s with lm:=0,lk:=[]}
 | .cminute,s=>setTo s ((s.cm+1)%60) s.cs
 | .csecond,s=>setTo s s.cm ((s.cs+1)%60)
 | .full,s=>setTo s s.cm s.cs
 | .count,s=>{s with cr:=!s.cr&&decide (0<s.cl)}
def Bk.row (b:Bk) (m i:Nat):Deed×Nat:=(b.modes.getD m default).rows.getD i (.none,0)
def press (b:Bk) (s:WS) (i:Nat):WS:={deed (b.row s.mode i).1 s with mode:=(b.row s.mode i).2}
def mx (i j:Int):Int:=if j > i then j else i
def WS.sec (s:WS):Int:=3600*s.ah+60*s.am
def alarmTick (s:WS):Option Int:=if s.aon then some ((s.sec - s.clock - 1)%86400+1) else none
def countTick (s:WS):Option Int:=if s.cr then some s.cl else none
def lastRing (s:WS) (n:Int):Option Int :=
 match alarmTick s,countTick s with
 | some a,some c=>if a<=n then (if c<=n then some (mx (n - (n - a)%86400) c) else some (n - (n - a)%86400)) else (if c<=n then some c else none)
 | some a,none=>if a<=n then some (n - (n - a)%86400) else none
 | none,some c=>if c<=n then some c else none
 | none,none=>none
def ringOn (s:WS) (n:Int):Int :=
 match lastRing s n with
 | none=>mx 0 (s.ring - n)
 | some l=>mx 0 (10 - (n - l))
def heldOn (h:Option (Btn×Option Int)) (n:Int):Option (Btn×Option Int) :=
 match h with
 | some (x,some k)=>some (x,some (k+n))
 | h=>h
def toBack (b:Bk) (s:WS):Int:=mx 1 (b.back - s.idle)
def idleOn (b:Bk) (s:WS) (n:Int):Int :=
 if s.held.isSome\/b.back=0 then s.idle else if n<toBack b s then s.idle+n else (n - toBack b s)%b.back
def lapsOn (s:WS) (n:Int):Int:=if s.lr then s.lm+n else s.lm
def leftOn (s:WS) (n:Int):Int:=if s.cr then mx 0 (s.cl - n) else s.cl
def runsOn (s:WS) (n:Int):Bool:=s.cr&&decide (0<mx 0 (s.cl - n))
def counted (b:Bk) (s:WS) (n:Int):WS :=
 {s with clock:=(s.clock+n)%86400,lm:=lapsOn s n,cl:=leftOn s n,cr:=runsOn s n,ring:=ringOn s n,held:=heldOn s.held n,idle:=idleOn b s n}
def goesBack (b:Bk) (s:WS):Bool:=decide (0<b.back)&&(!decide (s.mode=0)&&!(b.modes.getD s.mode default).stays)
def turnTick (b:Bk) (s:WS):Option Int :=
 match s.held with
 | none=>if goesBack b s then some (toBack b s) else none
 | some (_,none)=>none
 | some (_,some k)=>some (mx 1 (b.hold - k))
def turned (b:Bk) (s:WS):WS :=
 match s.held with
 | none=>{s with mode:=0}
 | some (x,_)=>press b {s with held:=some (x,none)} (x.ix+3)
def behind (b:Bk) (s:WS) (t:Int):WS:=turned b (counted b s t)
def ticked (b:Bk) (s:WS) (n:Int):WS :=
 match turnTick b s with
 | none=>counted b s n
 | some t=>if n<t then counted b s n else counted b (behind b s t) (n - t)
def pushed (s:WS) (x:Btn):WS:=if s.held.isSome then s else {s with ring:=0,held:=some (x,if 0<s.ring then none else some 0),idle:=0}
def letGo (b:Bk) (s:WS) (x:Btn):WS :=
 match s.held with
 | some (y,k)=>if y=x then { (if k.isSome then press b s x.ix else s) with held:=none,idle:=0} else s
 | none=>s
inductive Ev | down (x:Btn) | up (x:Btn) | ticks (n:Int)
 deriving DecidableEq
def Ev.d:Ev->D
 | .down x=>.tup [.str (Str.ofString "down"),.str x.x]
 | .up x=>.tup [.str (Str.ofString "up"),.str x.x]
 | .ticks n=>.tup [.str (Str.ofString "ticks"),.int n]
def gone (b:Bk) (s:WS):Ev->WS
 | .down x=>pushed s x
 | .up x=>letGo b s x
 | .ticks n=>ticked b s n
theorem mxl (i j:Int):i<=mx i j:=by unfold mx;split<;>omega
theorem leftOn_add {b:Bk} {s:WS} {m n:Int} (hm:0<=m) (hn:0<=n):leftOn (counted b s m) n=leftOn s (m+n):=by
 unfold leftOn counted runsOn leftOn mx
 cases s.cr
 ·simp
 ·simp
  split<;>split<;>(try split)<;>omega
theorem runsOn_eq (s:WS) {n:Int} (hn:0<=n):runsOn s n=(s.cr&&decide (n<s.cl)):=by
 unfold runsOn mx
 congr 1
 by_cases h:n<s.cl
 ·rw [if_pos (by omega),decide_eq_true h,decide_eq_true (by omega)]
 ·rw [if_neg (by omega),decide_eq_false h,decide_eq_false (by omega)]
theorem leftOn_eq (s:WS) {n:Int} (h:n<s.cl):leftOn s n=if s.cr then s.cl - n else s.cl:=by
 unfold leftOn
 have e:mx 0 (s.cl - n)=s.cl - n:=by unfold mx;split<;>omega
 rw [e]
theorem runsOn_add {b:Bk} {s:WS} {m n:Int} (hm:0<=m) (hn:0<=n):runsOn (counted b s m) n=runsOn s (m+n):=by
 rw [runsOn_eq _ hn,runsOn_eq _ (by omega)]
 show (runsOn s m&&decide (n<leftOn s m))=_
 rw [runsOn_eq _ hm]
 cases hc:s.cr
 ·rfl
 ·by_cases h:m<s.cl
  ·rw [leftOn_eq s h,if_pos hc]
   by_cases h2:m+n<s.cl
   ·rw [decide_eq_true h,decide_eq_true h2,decide_eq_true (by omega)];rfl
   ·rw [decide_eq_true h,decide_eq_false h2,decide_eq_false (by omega)];rfl
  ·rw [decide_eq_false h,decide_eq_false (show ¬ m+n<s.cl by omega)]
   rfl
def ringN (aon:Bool) (a:Int) (cr:Bool) (c r n:Int):Int :=
 if aon=true/\a<=n then (if cr=true/\c<=n then mx 0 (10 - (n - mx (n - (n - a)%86400) c)) else mx 0 (10 - (n - a)%86400)) else if cr=true/\c<=n then mx 0 (10 - (n - c)) else mx 0 (r - n)
theorem ringOn_eq (s:WS) (n:Int):ringOn s n=ringN s.aon ((s.sec - s.clock - 1)%86400+1) s.cr s.cl s.ring n:=by
 unfold ringOn lastRing alarmTick countTick ringN
 generalize (s.sec - s.clock - 1)%86400+1=a
 have e:∀ x:Int,n - (n - x)=x:=fun x=>by omega
 cases s.aon<;>cases s.cr<;>by_cases h1:a<=n<;>by_cases h2:s.cl<=n<;>simp [h1,h2,e]
theorem ringOn_add {b:Bk} {s:WS} {m n:Int} (w:s.Wk b) (hm:0<=m) (hn:0<=n):ringOn (counted b s m) n=ringOn s (m+n):=by
 have hc0:=w.clock0;have hc1:=w.clock1;have hcr:=w.cr;have hr:=w.ring0
 have hl0:=w.cl0
 rw [ringOn_eq,ringOn_eq]
 show ringN s.aon ((s.sec - (s.clock+m)%86400 - 1)%86400+1) (runsOn s m) (leftOn s m) (ringOn s m) n=_
 rw [ringOn_eq,runsOn_eq s hm]
 generalize s.sec=sec
 generalize s.clock=ck at hc0 hc1 ⊢
 have ea:(sec - (ck+m)%86400 - 1)%86400=(sec - ck - 1 - m)%86400:=by omega
 rw [ea]
 generalize sec - ck - 1=q
 cases ha:s.aon<;>cases hc:s.cr
 ·-- none of both
  simp [ringN]
  unfold mx
  split<;>split<;>(try split)<;>omega
 ·have hcl:=hcr hc
  by_cases h:m<s.cl
  ·rw [leftOn_eq s h,if_pos hc,decide_eq_true h]
   simp [ringN]
   have h':¬ s.cl<=m:=by omega
   simp [h']
   by_cases h2:s.cl - m<=n
   ·rw [if_pos h2,if_pos (by omega)];congr 1;omega
   ·rw [if_neg h2,if_neg (by omega)];unfold mx;split<;>split<;>(try split)<;>omega
  ·rw [decide_eq_false h]
   have h':s.cl<=m:=by omega
   have h'':s.cl<=m+n:=by omega
   simp [ringN,h',h'']
   unfold mx;split<;>split<;>(try split)<;>omega
 ·simp [ringN]
  by_cases h1:q%86400+1<=m
  ·rw [if_pos h1,if_pos (show q%86400+1<=m+n by omega)]
   by_cases h2:(q - m)%86400+1<=n
   ·rw [if_pos h2];congr 1;omega
   ·rw [if_neg h2];unfold mx;split<;>split<;>(try split)<;>omega
  ·rw [if_neg h1]
   have e1:(q - m)%86400=q%86400 - m:=by omega
   rw [e1]
   by_cases h2:q%86400 - m+1<=n
   ·rw [if_pos h2,if_pos (by omega)];congr 1;omega
   ·rw [if_neg h2,if_neg (by omega)];unfold mx;split<;>split<;>(try split)<;>omega
 ·have hcl:=hcr hc
  by_cases h:m<s.cl
  ·rw [leftOn_eq s h,if_pos hc,decide_eq_true h]
   have h':¬ s.cl<=m:=by omega
   simp [ringN,h']
   by_cases h1:q%86400+1<=m
   ·rw [if_pos h1,if_pos (show q%86400+1<=m+n by omega)]
    by_cases h2:(q - m)%86400+1<=n<;>by_cases h3:s.cl - m<=n
    ·rw [if_pos h2,if_pos h3,if_pos (show s.cl<=m+n by omega)];unfold mx;split<;>split<;>(try split)<;>(try split)<;>omega
    ·rw [if_pos h2,if_neg h3,if_neg (show ¬ s.cl<=m+n by omega)];congr 1;omega
    ·rw [if_neg h2,if_pos h3,if_pos (show s.cl<=m+n by omega)];unfold mx;split<;>split<;>(try split)<;>(try split)<;>omega
    ·rw [if_neg h2,if_neg h3,if_neg (show ¬ s.cl<=m+n by omega)];unfold mx;split<;>split<;>(try split)<;>omega
   ·rw [if_neg h1]
    have e1:(q - m)%86400=q%86400 - m:=by omega
    rw [e1]
    by_cases h2:q%86400 - m+1<=n<;>by_cases h3:s.cl - m<=n
    ·rw [if_pos h2,if_pos h3,if_pos (show q%86400+1<=m+n by omega),if_pos (show s.cl<=m+n by omega)];unfold mx;split<;>split<;>(try split)<;>(try split)<;>omega
    ·rw [if_pos h2,if_neg h3,if_pos (show q%86400+1<=m+n by omega),if_neg (show ¬ s.cl<=m+n by omega)];congr 1;omega
    ·rw [if_neg h2,if_pos h3,if_neg (show ¬ q%86400+1<=m+n by omega),if_pos (show s.cl<=m+n by omega)];congr 1;omega
    ·rw [if_neg h2,if_neg h3,if_neg (show ¬ q%86400+1<=m+n by omega),if_neg (show ¬ s.cl<=m+n by omega)];unfold mx;split<;>split<;>(try split)<;>omega
  ·rw [decide_eq_false h]
   have h':s.cl<=m:=by omega
   have h'':s.cl<=m+n:=by omega
   simp [ringN,h',h'']
   by_cases h1:q%86400+1<=m
   ·rw [if_pos h1,if_pos (show q%86400+1<=m+n by omega)]
    by_cases h2:(q - m)%86400+1<=n
    ·rw [if_pos h2];unfold mx;split<;>split<;>(try split)<;>(try split)<;>omega
    ·rw [if_neg h2];unfold mx;split<;>split<;>(try split)<;>(try split)<;>omega
   ·rw [if_neg h1]
    have e1:(q - m)%86400=q%86400 - m:=by omega
    rw [e1]
    by_cases h2:q%86400 - m+1<=n
    ·rw [if_pos h2,if_pos (by omega)];unfold mx;split<;>split<;>(try split)<;>(try split)<;>omega
    ·rw [if_neg h2,if_neg (by omega)];unfold mx;split<;>split<;>(try split)<;>omega
theorem toBack_eq {b:Bk} {s:WS} (h:s.idle<b.back):toBack b s=b.back - s.idle:=by unfold toBack mx;split<;>omega
theorem mod_sub_self (x b:Int):(x - b)%b=x%b:=Int.sub_emod_right x b
theorem idleOn_eq {b:Bk} {s:WS} {n:Int} (w:s.Wk b) (hn:0<=n):idleOn b s n=if s.held.isSome=true\/b.back=0 then s.idle else (s.idle+n)%b.back:=by
 unfold idleOn
 have h0:=w.idle0
 by_cases h:s.held.isSome=true\/b.back=0
 ·rw [if_pos h,if_pos h]
 ·have hb:0<b.back:=by
   have:¬ b.back=0:=fun z=>h (.inr z)
   have:=w.bk
   omega
  have h1:=w.idle1 hb
  rw [if_neg h,if_neg h,toBack_eq h1]
  by_cases h2:n<b.back - s.idle
  ·rw [if_pos h2,Int.emod_eq_of_lt (by omega) (by omega)]
  ·rw [if_neg h2,show n - (b.back - s.idle)=s.idle+n - b.back by omega,mod_sub_self]
theorem heldOn_some (h:Option (Btn×Option Int)) (n:Int):(heldOn h n).isSome=h.isSome:=by
 unfold heldOn;split<;>rfl
theorem heldOn_add (h:Option (Btn×Option Int)) (m n:Int):heldOn (heldOn h m) n=heldOn h (m+n):=by
 rcases h with _ | ⟨x,_ | k⟩
 ·rfl
 ·rfl
 ·simp [heldOn];omega
theorem emodlt (a:Int) {b:Int} (h:0<b):a%b<b:=Int.emod_lt_of_pos a h
theorem emodnn (a:Int) {b:Int} (h:0<b):0<=a%b:=Int.emod_nonneg a (by omega)
theorem ringN_b (aon:Bool) (a:Int) (cr:Bool) (c r n:Int) (hr:r<=10) (hn:0<=n) (hc:cr=true->0<c) (ha:1<=a):0<=ringN aon a cr c r n/\ringN aon a cr c r n<=10:=by
 unfold ringN
 split
 ·split
  ·unfold mx;split<;>(try split)<;>omega
  ·unfold mx;split<;>omega
 ·split
  ·unfold mx;split<;>omega
  ·unfold mx;split<;>omega
theorem WS.Wk.cnt {b:Bk} {s:WS} {n:Int} (w:s.Wk b) (hn:0<=n):(counted b s n).Wk b:=by
 have hr:=ringN_b s.aon ((s.sec - s.clock - 1)%86400+1) s.cr s.cl s.ring n w.ring1 hn w.cr (by omega)
 rw [<- ringOn_eq] at hr
 have hl0:=w.lm0
 have hi:=idleOn_eq w hn
 have hcl0:=w.cl0
 have hcl1:=w.cl1
 exact {
  bk:=w.bk,mode:=w.mode,clock0:=emodnn _ (by decide),clock1:=emodlt _ (by decide),ah0:=w.ah0,ah1:=w.ah1,am0:=w.am0,am1:=w.am1
  lm0:=by show 0<=lapsOn s n;unfold lapsOn;split<;>omega
  lk:=w.lk,cm0:=w.cm0,cm1:=w.cm1,cs0:=w.cs0,cs1:=w.cs1
  cl0:=by show 0<=leftOn s n;unfold leftOn mx;split<;>(try split)<;>omega
  cl1:=by show leftOn s n<3600;unfold leftOn mx;split<;>(try split)<;>omega
  cr:=by
   show runsOn s n=true->0<leftOn s n
   intro h
   unfold runsOn at h
   unfold leftOn
   cases hc:s.cr
   ·rw [hc] at h;cases h
   ·rw [hc] at h;simp at h;simp;exact h
  ring0:=hr.1,ring1:=hr.2
  idle0:=by
   show 0<=idleOn b s n
   rw [hi]
   split
   ·exact w.idle0
   ·rename_i h
    have:¬ b.back=0:=fun z=>h (.inr z)
    exact Int.emod_nonneg _ this
  idle1:=fun hb=>by
   show idleOn b s n<b.back
   rw [hi]
   split
   ·exact w.idle1 hb
   ·exact emodlt _ hb
  idle2:=fun hb=>by
   show idleOn b s n=0
   rw [hi,if_pos (.inr hb)]
   exact w.idle2 hb}
theorem idleOn_add {b:Bk} {s:WS} {m n:Int} (w:s.Wk b) (hm:0<=m) (hn:0<=n):idleOn b (counted b s m) n=idleOn b s (m+n):=by
 rw [idleOn_eq (w.cnt hm) hn,idleOn_eq w (by omega)]
 show (if (heldOn s.held m).isSome=true\/b.back=0 then idleOn b s m else (idleOn b s m+n)%b.back)=_
 rw [heldOn_some,idleOn_eq w hm]
 split
 ·rfl
 ·rw [Int.emod_add_emod,Int.add_assoc]
theorem lapsOn_add {b:Bk} {s:WS} {m n:Int}:lapsOn (counted b s m) n=lapsOn s (m+n):=by
 unfold lapsOn
 show (if s.lr=true then lapsOn s m+n else lapsOn s m)=_
 unfold lapsOn
 split<;>omega
theorem counted_add {b:Bk} {s:WS} {m n:Int} (w:s.Wk b) (hm:0<=m) (hn:0<=n):counted b (counted b s m) n=counted b s (m+n):=by
 have e1:=leftOn_add (b:=b) (s:=s) hm hn
 have e2:=runsOn_add (b:=b) (s:=s) hm hn
 have e3:=ringOn_add w hm hn
 have e4:=idleOn_add w hm hn
 have e5:=lapsOn_add (b:=b) (s:=s) (m:=m) (n:=n)
 have e6:=heldOn_add s.held m n
 have e7:((s.clock+m)%86400+n)%86400=(s.clock+(m+n))%86400:=by omega
 show ({counted b s m with clock:=((s.clock+m)%86400+n)%86400,lm:=lapsOn (counted b s m) n,cl:=leftOn (counted b s m) n,cr:=runsOn (counted b s m) n,ring:=ringOn (counted b s m) n,held:=heldOn (heldOn s.held m) n,idle:=idleOn b (counted b s m) n}:WS)=_
 rw [e1,e2,e3,e4,e5,e6,e7]
 rfl
theorem counted_zero {b:Bk} {s:WS} (w:s.Wk b):counted b s 0=s:=by
 have e1:leftOn s 0=s.cl:=by
  have:=w.cl0
  unfold leftOn mx
  split
  ·split<;>omega
  ·rfl
 have e2:runsOn s 0=s.cr:=by
  rw [runsOn_eq s (Int.le_refl 0)]
  cases hc:s.cr
  ·rfl
  ·simp [w.cr hc]
 have e3:ringOn s 0=s.ring:=by
  rw [ringOn_eq]
  have h0:=w.ring0
  unfold ringN
  rw [if_neg (by rintro ⟨_,z⟩;omega),if_neg (by rintro ⟨h,z⟩;have:=w.cr h;omega)]
  unfold mx;split<;>omega
 have e4:idleOn b s 0=s.idle:=by
  rw [idleOn_eq w (Int.le_refl 0)]
  split
  ·rfl
  ·rename_i h
   have hb:=w.bk
   have h0:=w.idle0
   have hb':0<b.back:=by
    have:¬ b.back=0:=fun z=>h (.inr z)
    omega
   rw [Int.add_zero,Int.emod_eq_of_lt h0 (w.idle1 hb')]
 have e5:lapsOn s 0=s.lm:=by unfold lapsOn;split<;>omega
 have e6:heldOn s.held 0=s.held:=by rcases s.held with _ | ⟨x,_ | k⟩<;>simp [heldOn]
 have e7:(s.clock+0)%86400=s.clock:=by have:=w.clock0;have:=w.clock1;omega
 unfold counted
 rw [e1,e2,e3,e4,e5,e6,e7]
theorem tT {b:Bk} (ok:b.Ok) {m i:Nat} (hm:m<b.modes.length) (hi:i<6):(b.row m i).2<b.modes.length:=by
 unfold Bk.row
 have e:b.modes.getD m default=b.modes[m]:=by simp [List.getD_eq_getElem?_getD,hm]
 rw [e]
 have o:=ok.all _ (List.getElem_mem hm)
 have hi':i<b.modes[m].rows.length:=by rw [o.six];exact hi
 have e2:b.modes[m].rows.getD i (.none,0)=b.modes[m].rows[i]:=by simp [List.getD_eq_getElem?_getD,hi']
 rw [e2]
 exact o.nx _ (List.getElem_mem hi')
theorem deed_held (d:Deed) (s:WS):(deed d s).held=s.held:=by
 cases d<;>simp [deed,setTo]<;>(repeat' split)<;>rfl
theorem WS.Wk.set {b:Bk} {s:WS} (w:s.Wk b) {m c:Int} (m0:0<=m) (m1:m<60) (c0:0<=c) (c1:c<60):(setTo s m c).Wk b:=by
 unfold setTo
 split
 ·exact w
 ·exact {w with cm0:=m0,cm1:=m1,cs0:=c0,cs1:=c1,cl0:=(by show 0<=60*m+c;omega),cl1:=(by show 60*m+c<3600;omega),cr:=fun h=>by cases h}
theorem WS.Wk.dd {b:Bk} {s:WS} (w:s.Wk b) (d:Deed):(deed d s).Wk b:=by
 have c0:=w.clock0;have c1:=w.clock1
 cases d with
 | none=>exact w
 | hour=>exact {w with clock0:=emodnn _ (by decide),clock1:=emodlt _ (by decide)}
 | minute=>exact {w with clock0:=(by show 0<=s.clock - s.clock%3600+(s.clock%3600+60)%3600;omega),clock1:=(by show s.clock - s.clock%3600+(s.clock%3600+60)%3600<86400;omega)}
 | zero=>exact {w with clock0:=(by show 0<=s.clock - s.clock%60;omega),clock1:=(by show s.clock - s.clock%60<86400;omega)}
 | ahour=>exact {w with ah0:=emodnn _ (by decide),ah1:=emodlt _ (by decide)}
 | aminute=>exact {w with am0:=emodnn _ (by decide),am1:=emodlt _ (by decide)}
 | alarm=>exact {w with}
 | run=>exact {w with}
 | lap =>
  show (if s.lr then (if 4<=s.lk.length then s else {s with lk:=s.lk++[s.lm]}) else {s with lm:=0,lk:=[]}:WS).Wk b
  split
  ·split
   ·exact w
   ·exact {w with lk:=(by show (s.lk++[s.lm]).length<=4;simp;omega)}
  ·exact {w with lm0:=Int.le_refl 0,lk:=Nat.zero_le _}
 | cminute=>exact w.set (emodnn _ (by decide)) (emodlt _ (by decide)) w.cs0 w.cs1
 | csecond=>exact w.set w.cm0 w.cm1 (emodnn _ (by decide)) (emodlt _ (by decide))
 | full=>exact w.set w.cm0 w.cm1 w.cs0 w.cs1
 | count =>
  have hc:(!s.cr&&decide (0<s.cl))=true->0<s.cl:=fun h=>by simp at h;exact h.2
  exact {w with cr:=hc}
theorem WS.Wk.prs {b:Bk} {s:WS} (ok:b.Ok) (w:s.Wk b) {i:Nat} (hi:i<6):(press b s i).Wk b:=by
 have z:=w.dd (b.row s.mode i).1
 exact {z with mode:=tT ok w.mode hi}
theorem press_held (b:Bk) (s:WS) (i:Nat):(press b s i).held=s.held:=deed_held _ _
theorem Btn.ix3 (x:Btn):x.ix+3<6:=by cases x<;>decide
theorem Btn.ix6 (x:Btn):x.ix<6:=by cases x<;>decide
theorem WS.Wk.trn {b:Bk} {s:WS} (ok:b.Ok) (w:s.Wk b):(turned b s).Wk b:=by
 unfold turned
 split
 ·exact {w with mode:=ok.some1}
 ·rename_i x k e
  exact WS.Wk.prs (s:={s with held:=some (x,none)}) ok {w with} x.ix3
theorem turned_turn {b:Bk} {s:WS}:turnTick b (turned b s)=none:=by
 unfold turned
 split
 ·rename_i e
  unfold turnTick
  simp [e,goesBack]
 ·rename_i x k e
  unfold turnTick
  rw [press_held]
theorem turn_cnt_none {b:Bk} {s:WS} {n:Int} (w:s.Wk b) (hn:0<=n) (h:turnTick b s=none):turnTick b (counted b s n)=none:=by
 unfold turnTick at h ⊢
 show (match heldOn s.held n with | none=>if goesBack b s then some (toBack b (counted b s n)) else none | some (_,none)=>none | some (_,some k)=>some (mx 1 (b.hold - k)))=none
 rcases hs:s.held with _ | ⟨x,_ | k⟩
 ·rw [hs] at h
  by_cases hg:goesBack b s=true
  ·simp [hg] at h
  ·simp [heldOn,hg]
 ·rfl
 ·rw [hs] at h;cases h
theorem turn_cnt_some {b:Bk} {s:WS} {n t:Int} (w:s.Ok b) (hn:0<=n) (h:turnTick b s=some t) (hlt:n<t):turnTick b (counted b s n)=some (t - n):=by
 unfold turnTick at h ⊢
 show (match heldOn s.held n with | none=>if goesBack b s then some (toBack b (counted b s n)) else none | some (_,none)=>none | some (_,some k)=>some (mx 1 (b.hold - k)))=_
 rcases hs:s.held with _ | ⟨x,_ | k⟩
 ·rw [hs] at h
  by_cases hg:goesBack b s=true
  ·simp [hg] at h
   simp [heldOn,hg]
   have hb:0<b.back:=by unfold goesBack at hg;simp at hg;exact hg.1
   have h1:=w.idle1 hb
   rw [toBack_eq h1] at h
   have hi:=idleOn_eq w.toWk hn
   rw [hs] at hi
   rw [if_neg (by simp;omega),Int.emod_eq_of_lt (by have:=w.idle0;omega) (by omega)] at hi
   rw [toBack_eq (show (counted b s n).idle<b.back by show idleOn b s n<b.back;rw [hi];omega)]
   show b.back - idleOn b s n=_
   rw [hi]
   omega
  ·simp [hg] at h
 ·rw [hs] at h;cases h
 ·rw [hs] at h
  have hk:=w.held x k hs
  simp [heldOn] at h ⊢
  unfold mx at h ⊢
  split at h<;>split<;>omega
theorem turn_pos {b:Bk} {s:WS} {t:Int} (h:turnTick b s=some t):1<=t:=by
 unfold turnTick at h
 split at h
 ·split at h
  ·cases h;exact mxl _ _
  ·cases h
 ·cases h
 ·cases h;exact mxl _ _
theorem WS.Ok.cnt {b:Bk} {s:WS} {n:Int} (w:s.Ok b) (hn:0<=n) (h:∀ t,turnTick b s=some t->n<t):(counted b s n).Ok b:=by
 refine {w.toWk.cnt hn with held:=fun x k e=>?_}
 have e':heldOn s.held n=some (x,some k):=e
 rcases hs:s.held with _ | ⟨y,_ | j⟩
 ·rw [hs] at e';cases e'
 ·rw [hs] at e';cases e'
 ·rw [hs] at e'
  simp [heldOn] at e'
  obtain ⟨rfl,rfl⟩:=e'
  have hj:=w.held y j hs
  have ht:=h (mx 1 (b.hold - j)) (by unfold turnTick;rw [hs])
  unfold mx at ht
  split at ht<;>omega
theorem turned_ok {b:Bk} {s:WS} (ok:b.Ok) (w:s.Wk b):(turned b s).Ok b:=by
 refine {w.trn ok with held:=fun x k e=>?_}
 unfold turned at e
 split at e
 ·rename_i e2
  simp at e
  rw [e2] at e;cases e
 ·rw [press_held] at e;cases e
theorem tick_ok {b:Bk} {s:WS} {n:Int} (ok:b.Ok) (w:s.Ok b) (hn:0<=n):(ticked b s n).Ok b:=by
 unfold ticked
 split
 ·rename_i e
  exact w.cnt hn fun t ht=>by rw [e] at ht;cases ht
 ·rename_i t e
  have ht:=turn_pos e
  split
  ·rename_i h
   exact w.cnt hn fun t' ht'=>by rw [e] at ht';cases ht';exact h
  ·rename_i h
   exact (turned_ok ok (w.toWk.cnt (by omega))).cnt (by omega) fun t' ht'=>by rw [turned_turn] at ht';cases ht'
theorem ticked_zero {b:Bk} {s:WS} (w:s.Ok b):ticked b s 0=s:=by
 unfold ticked
 split
 ·exact counted_zero w.toWk
 ·rename_i t e
  have ht:=turn_pos e
  rw [if_pos (by omega)]
  exact counted_zero w.toWk
theorem ticked_add {b:Bk} {s:WS} {m n:Int} (ok:b.Ok) (w:s.Ok b) (hm:0<=m) (hn:0<=n):ticked b (ticked b s m) n=ticked b s (m+n):=by
 cases e:turnTick b s with
 | none =>
  have e1:ticked b s m=counted b s m:=by unfold ticked;rw [e]
  have e2:ticked b s (m+n)=counted b s (m+n):=by unfold ticked;rw [e]
  rw [e1,e2]
  have e3:=turn_cnt_none w.toWk hm e
  unfold ticked
  rw [e3]
  exact counted_add w.toWk hm hn
 | some t =>
  have ht:=turn_pos e
  by_cases h1:m<t
  ·have e1:ticked b s m=counted b s m:=by unfold ticked;rw [e];exact if_pos h1
   rw [e1]
   have e3:=turn_cnt_some w hm e h1
   unfold ticked
   rw [e3,e]
   dsimp only
   by_cases h2:m+n<t
   ·rw [if_pos (by omega),if_pos h2]
    exact counted_add w.toWk hm hn
   ·rw [if_neg (by omega),if_neg h2]
    unfold behind
    rw [counted_add w.toWk hm (by omega),show m+(t - m)=t by omega,show n - (t - m)=m+n - t by omega]
  ·have e1:ticked b s m=counted b (behind b s t) (m - t):=by unfold ticked;rw [e];exact if_neg h1
   have e2:ticked b s (m+n)=counted b (behind b s t) (m+n - t):=by unfold ticked;rw [e];exact if_neg (by omega)
   rw [e1,e2]
   have wb:=turned_ok ok (w.toWk.cnt (n:=t) (by omega))
   have e3:=turn_cnt_none (n:=m - t) wb.toWk (by omega) turned_turn
   show ticked b (counted b (turned b (counted b s t)) (m - t)) n=_
   unfold ticked
   rw [e3]
   dsimp only
   rw [counted_add wb.toWk (by omega) hn,show m - t+n=m+n - t by omega]
   rfl
theorem push_ok {b:Bk} {s:WS} (ok:b.Ok) (w:s.Ok b) (x:Btn):(pushed s x).Ok b:=by
 unfold pushed
 split
 ·exact w
 ·have hh:=ok.hold1
  refine {w with ring0:=Int.le_refl 0,ring1:=(by show (0:Int)<=10;decide),idle0:=Int.le_refl 0,idle1:=fun h=>h,idle2:=fun _=>rfl,held:=fun y k e=>?_}
  simp at e
  obtain ⟨_,h2,h3⟩:=e
  subst h3
  omega
theorem let_ok {b:Bk} {s:WS} (ok:b.Ok) (w:s.Ok b) (x:Btn):(letGo b s x).Ok b:=by
 unfold letGo
 split
 ·split
  ·have z:(if (by assumption:Option Int).isSome then press b s x.ix else s).Wk b:=by
    split
    ·exact w.toWk.prs ok x.ix6
    ·exact w.toWk
   exact {z with idle0:=Int.le_refl 0,idle1:=fun h=>h,idle2:=fun _=>rfl,held:=fun y k e=>by cases e}
  ·exact w
 ·exact w
def Ev.Ok:Ev->Prop
 | .ticks n=>1<=n
 | _=>True
theorem gone_ok {b:Bk} {s:WS} (ok:b.Ok) (w:s.Ok b) (e:Ev) (h:e.Ok):(gone b s e).Ok b:=by
 cases e with
 | down x=>exact push_ok ok w x
 | up x=>exact let_ok ok w x
 | ticks n=>exact tick_ok ok w (by have:1<=n:=h;omega)
def afterE (b:Bk) (s:WS) (es:List Ev):WS:=es.foldl (gone b) s
abbrev Pr:=Btn×Bool
def Pr.x (p:Pr):Str:=if p.2 then p.1.X else p.1.x
def Pr.ix (p:Pr):Nat:=if p.2 then p.1.ix+3 else p.1.ix
def Pr.evs (b:Bk) (p:Pr):List Ev:=if p.2 then [.down p.1,.ticks b.hold,.up p.1] else [.down p.1,.up p.1]
def Pr.code (p:Pr):Nat:=(if p.2 then 65 else 97)+p.1.ix
end HW
namespace HW
open PySem
def rjS (x:Str) (n c:Nat):Str:=if n<=x.length then x else Builtin.Str.padded x (n - x.length) 0 c
@[simp] def fRj:List D->Option D
 | [.str x,.int i,.str f]=>if 0<=i/\i<=1000/\f.length=1 then some (.str (rjS x i.toNat (f.cps.getD 0 0))) else none
 | _=>none
@[simp] def dMulT:D->D->Option D
 | .tup xs,.int k=>if xs.length*k.toNat<=sizeLine/\0<k/\k<2 ^ 63 then some (.tup (List.replicate k.toNat xs).flatten) else none
 | _,_=>none
end HW
namespace HW
open PySem PySem.Spec PyProof.Rows L2
def Its (x:Str):It:=⟨fun i _=>i<x.cps.size,fun i H v H'=>H'=H/\∃ c,x.cps[i]?=some c/\v=.str ⟨#[c]⟩,fun i _=>x.cps.size<=i⟩
theorem turn_str {P:Program} {w:World} {K:PySem.W.Frag} {tg:Expr} (it:Addr) (x:Str) (t:Tok):Turn P w K tg (Its x) [it] it (fun i h=>h.IsStrIter it "str_ascii_iterator" x t i) where
 mem:=by simp
 obj:=fun i h st b hb=>by
  have e:b=it:=by simpa using hb
  subst e
  obtain ⟨o,e,c,d⟩:=st
  exact ⟨o,e,fun v z=>by rw [d] at z;cases z⟩
 keep:=fun i h h' st k=>by
  obtain ⟨o,e,r⟩:=st
  exact ⟨o,k it (by simp) o e,r⟩
 item:=by
  intro X hP hw hK hc i pins s σ H E I hf st hg
  subst hP hw hK
  have hg':i<x.cps.size:=hg
  obtain ⟨f0,f1,f2,f3,f4,f5⟩:=hf it (by simp)
  refine wpAny_pyNext_ascii_item st (c:=x.cps[i]) (by simp [hg']) fun h' st' sb=>?_
  have I1:L2.Inv X pins σ H {s with heap:=h',toks:=s.toks+1}:=I.turned (t':=s.toks+1) (fun b o hb e=>(sb.2 b hb).trans e) f0 f1 f3 f4 f5
  obtain ⟨o,e,c,d⟩:=id st'
  exact ⟨_,rfl,go_of (s:={s with heap:=h',toks:=s.toks+1}) e c d (by decide) ⟨.str ⟨#[x.cps[i]]⟩,H,I1,⟨_,rfl⟩,⟨rfl,_,by simp [hg'],rfl⟩,st',fun b hb=>(hf b hb).1⟩⟩
 done:=by
  intro X hP hw hK hc i pins s σ H E I hf st hg
  subst hP hw hK
  have hg':x.cps.size<=i:=hg
  obtain ⟨f0,f1,f2,f3,f4,f5⟩:=hf it (by simp)
  exact wpAny_pyNext_ascii_end (I.ok.hd hc) st (by simp;omega) fun h' eb=>⟨rfl,I.turned (t':=s.toks) (fun b o hb e=>eb b o hb e) f0 f1 f3 f4 f5⟩
 self:=fun _ _ _ _ _ st h=>wpAny_pyIter_striter_ascii st h
end HW
namespace HW
open PySem PySem.Spec PyProof.Rows L2
def ObH (H:Hp) (k a:Nat) (ks:List Str) (vs:List V):Prop:=match k with
 | 0=>vs.length<=sizeLine/\∃ (its:List Value) (n:Nat),Vals vs its/\H a=some (.frz {cls:=.type "list",data:=.seq its.toArray n} (.own 0))
 | 1=>ks.length=vs.length/\H a=some (.dK ((ks.map Sum.inr).zip vs))
 | C+2=>ks.length=vs.length/\∃ dx,H a=some (.ins C dx (ks.zip vs))
theorem ObH.to {H H':Hp} {k a:Nat} {ks:List Str} {vs:List V} (h:ObH H k a ks vs) (e:∀ u,H a=some u->(∀ φ,u≠.ext φ)->H' a=some u):ObH H' k a ks vs:=by
 match k,h with
 | 0,⟨z,its,n,r,q⟩=>exact ⟨z,its,n,r,e _ q fun φ z=>by cases z⟩
 | 1,⟨z,q⟩=>exact ⟨z,e _ q fun φ z=>by cases z⟩
 | C+2,⟨z,dx,q⟩=>exact ⟨z,dx,e _ q fun φ z=>by cases z⟩
mutual
def Rep (K:PySem.W.Frag) (H:Hp):D->V->Prop
 | .non,v=>v=.non
 | .bl b,v=>v=.bl b
 | .int i,v=>v=.int i
 | .str x,v=>v=.str x
 | .tup ds,v=>∃ a xs,v=.ref a/\SqT K H a xs/\Reps K H ds xs
 | .lst ds,v=>∃ a xs,v=.ref a/\H a=some (.lst xs)/\Reps K H ds xs
 | .fro ds,v=>∃ a xs,v=.ref a/\SqL K H a xs/\Reps K H ds xs
 | .obj k a ks ds,v=>∃ xs,v=.ref a/\ObH H k a ks xs/\Reps K H ds xs
def Reps (K:PySem.W.Frag) (H:Hp):List D->List V->Prop
 | [],vs=>vs=[]
 | d::ds,vs=>∃ v r,vs=v::r/\Rep K H d v/\Reps K H ds r
end
theorem sameT {K:PySem.W.Frag} {H H':Hp} {a:Addr} {xs:List V} (e:Same H H') (h:SqT K H a xs):SqT K H' a xs:=by
 rcases h with (h | ⟨o,h⟩) | h
 ·exact .inl (.inl (e _ _ h))
 ·exact .inl (.inr ⟨o,e _ _ h⟩)
 ·exact .inr h
mutual
theorem Rep.mono {K:PySem.W.Frag} {H H':Hp} (s:Same H H'):∀ {d:D} {v:V},Rep K H d v->Rep K H' d v
 | .non,_,h=>h
 | .bl _,_,h=>h
 | .int _,_,h=>h
 | .str _,_,h=>h
 | .tup ds,_,h=>by
  obtain ⟨a,xs,e,q,r⟩:=h
  exact ⟨a,xs,e,sameT s q,Reps.mono s r⟩
 | .lst ds,_,h=>by
  obtain ⟨a,xs,e,q,r⟩:=h
  exact ⟨a,xs,e,s _ _ q,Reps.mono s r⟩
 | .fro ds,_,h=>by
  obtain ⟨a,xs,e,q,r⟩:=h
  exact ⟨a,xs,e,s.seq q,Reps.mono s r⟩
 | .obj k a ks ds,_,h=>by
  obtain ⟨xs,e,q,r⟩:=h
  exact ⟨xs,e,q.to fun u z _=>s _ u z,Reps.mono s r⟩
theorem Reps.mono {K:PySem.W.Frag} {H H':Hp} (s:Same H H'):∀ {ds:List D} {vs:List V},Reps K H ds vs->Reps K H' ds vs
 | [],_,h=>h
 | d::ds,_,h=>by
  obtain ⟨v,r,e,q,t⟩:=h
  exact ⟨v,r,e,Rep.mono s q,Reps.mono s t⟩
end
section
variable {K:PySem.W.Frag} {H:Hp}
theorem Reps.length:∀ {ds:List D} {vs:List V},Reps K H ds vs->ds.length=vs.length
 | [],_,h=>by cases (show _=[] from h);rfl
 | d::ds,_,h=>by
  obtain ⟨v,r,e,q,t⟩:=h
  subst e
  simp [Reps.length t]
theorem Reps.get:∀ {ds:List D} {vs:List V} {i:Nat} {d:D},Reps K H ds vs->ds[i]?=some d->∃ v,vs[i]?=some v/\Rep K H d v
 | [],_,_,_,_,e=>by simp at e
 | d::ds,_,0,_,h,e=>by
  obtain ⟨v,r,e',q,t⟩:=h
  subst e'
  simp at e
  subst e
  exact ⟨v,by simp,q⟩
 | d::ds,_,i+1,_,h,e=>by
  obtain ⟨v,r,e',q,t⟩:=h
  subst e'
  obtain ⟨u,h1,h2⟩:=Reps.get (i:=i) t (by simpa using e)
  exact ⟨u,by simpa using h1,h2⟩
theorem Reps.append:∀ {ds es:List D} {vs us:List V},Reps K H ds vs->Reps K H es us->Reps K H (ds++es) (vs++us)
 | [],_,_,_,h,t=>by cases (show _=[] from h);exact t
 | d::ds,_,_,_,h,t=>by
  obtain ⟨v,r,e',q,t'⟩:=h
  subst e'
  exact ⟨v,_,rfl,q,Reps.append t' t⟩
theorem Reps.drop:∀ (n:Nat) {ds:List D} {vs:List V},Reps K H ds vs->Reps K H (ds.drop n) (vs.drop n)
 | 0,_,_,h=>by simpa using h
 | n+1,[],_,h=>by cases (show _=[] from h);exact rfl
 | n+1,d::ds,_,h=>by
  obtain ⟨v,r,e',q,t'⟩:=h
  subst e'
  simpa using Reps.drop n t'
theorem Reps.take:∀ (n:Nat) {ds:List D} {vs:List V},Reps K H ds vs->Reps K H (ds.take n) (vs.take n)
 | 0,_,_,h=>by simp only [List.take_zero];exact rfl
 | n+1,[],_,h=>by cases (show _=[] from h);exact rfl
 | n+1,d::ds,_,h=>by
  obtain ⟨v,r,e',q,t'⟩:=h
  subst e'
  rw [List.take_succ_cons,List.take_succ_cons]
  exact ⟨v,_,rfl,q,Reps.take n t'⟩
theorem Reps.one {d:D} {v:V} (h:Rep K H d v):Reps K H [d] [v]:=⟨v,[],rfl,h,rfl⟩
theorem Reps.nil:Reps K H [] []:=rfl
theorem Reps.cons {d:D} {v:V} {ds:List D} {vs:List V} (h:Rep K H d v) (t:Reps K H ds vs):Reps K H (d::ds) (v::vs):=⟨v,vs,rfl,h,t⟩
theorem Reps.rep {ds:List D} {vs:List V} (h:Reps K H ds vs):∀ n:Nat,Reps K H (List.replicate n ds).flatten (List.replicate n vs).flatten
 | 0=>rfl
 | n+1=>by
  rw [List.replicate_succ,List.replicate_succ,List.flatten_cons,List.flatten_cons]
  exact h.append (Reps.rep h n)
def EnvR (K:PySem.W.Frag) (H:Hp) (ρ:R) (σ:L2.St):Prop:=ρ.length<=σ.length/\∀ (i:Nat) (d:D),ρ[i]?=some (some d)->∃ v,σ[i]?=some (some v)/\Rep K H d v
theorem EnvR.mono {H':Hp} {ρ:R} {σ:L2.St} (e:EnvR K H ρ σ) (s:Same H H'):EnvR K H' ρ σ:=⟨e.1,fun i d h=>let ⟨v,a,b⟩:=e.2 i d h;⟨v,a,b.mono s⟩⟩
theorem EnvR.at {ρ:R} {σ:L2.St} (e:EnvR K H ρ σ) {i:Nat} {d:D} (h:vAt i ρ=some d):∃ v,σ[i]?=some (some v)/\Rep K H d v:=by
 refine e.2 i d ?_
 unfold vAt at h
 rw [List.getD_eq_getElem?_getD] at h
 cases q:ρ[i]? with
 | none=>rw [q] at h;cases h
 | some o=>rw [q] at h;cases (show o=some d from h);rfl
theorem EnvR.set {ρ:R} {σ:L2.St} (e:EnvR K H ρ σ) {i:Nat} {d:D} {v:V} (r:Rep K H d v):EnvR K H (ρ.set i (some d)) (σ.set i (some v)):=by
 refine ⟨by simpa using e.1,fun j c h=>?_⟩
 by_cases hj:i=j
 ·subst hj
  by_cases hi:i<ρ.length
  ·rw [List.getElem?_set_self hi] at h
   cases h
   exact ⟨v,by rw [List.getElem?_set_self (Nat.lt_of_lt_of_le hi e.1)],r⟩
  ·rw [List.getElem?_eq_none (by simpa using hi)] at h
   cases h
 ·rw [List.getElem?_set_ne hj] at h ⊢
  exact e.2 j c h
theorem EnvR.front {ρ:R} {σ:L2.St} (e:EnvR K H ρ σ) (k:Nat) (τ:L2.St) (hk:τ.length=k):EnvR K H (List.replicate k none++ρ) (τ++σ):=by
 subst hk
 refine ⟨by simpa using e.1,fun i d h=>?_⟩
 by_cases hi:i<τ.length
 ·rw [List.getElem?_append_left (by simpa using hi),List.getElem?_replicate] at h
  split at h<;>cases h
 ·rw [List.getElem?_append_right (by simpa using hi),List.length_replicate] at h
  rw [List.getElem?_append_right (by simpa using hi)]
  exact e.2 _ d h
end
def EnvT (K:PySem.W.Frag) (H:Hp) (ρ:R) (τ:L2.St) (σ:L2.St):Prop:=EnvR K H ρ σ/\σ.drop ρ.length=τ
theorem EnvR.t {K:PySem.W.Frag} {H:Hp} {ρ:R} {σ:L2.St} (e:EnvR K H ρ σ):EnvT K H ρ (σ.drop ρ.length) σ:=⟨e,rfl⟩
theorem EnvT.mono {K:PySem.W.Frag} {H H':Hp} {ρ:R} {τ σ:L2.St} (e:EnvT K H ρ τ σ) (s:Same H H'):EnvT K H' ρ τ σ:=⟨e.1.mono s,e.2⟩
theorem EnvT.set {K:PySem.W.Frag} {H:Hp} {ρ:R} {τ σ:L2.St} (e:EnvT K H ρ τ σ) {i:Nat} {d:D} {v:V} (hi:i<ρ.length) (r:Rep K H d v):EnvT K H (ρ.set i (some d)) τ (σ.set i (some v)):=by
 refine ⟨e.1.set r,?_⟩
 rw [List.length_set,List.drop_set_of_lt hi]
 exact e.2
section
variable (K:PySem.W.Frag)
def tD (f:R->Option D):TE:=fun σ H Q=>∃ ρ d,EnvR K H ρ σ/\f ρ=some d/\∀ v H',Same H H'->Rep K H' d v->Q v H'
def tDT (f:R->Option Bool):TT:=fun σ H Q=>∃ ρ b,EnvR K H ρ σ/\f ρ=some b/\∀ H',Same H H'->Q b H'
def tDA (f:R->Option (List D)):TA:=fun σ H Q=>∃ ρ ds,EnvR K H ρ σ/\f ρ=some ds/\∀ vs H',Same H H'->Reps K H' ds vs->Q vs H'
def tDO (f:R->Option (Option Int)):TO:=fun σ H Q=>∃ ρ o,EnvR K H ρ σ/\f ρ=some o/\∀ H',Same H H'->Q o H'
def fin (E:Ends) (τ:L2.St) (o:Out) (H':Hp):Prop :=
 match o with
 | .nx ρ=>∀ σ,EnvT K H' ρ τ σ->E.nx σ H'
 | .rt d=>∀ v,Rep K H' d v->E.rt v H'
 | .bk ρ=>∀ σ,EnvT K H' ρ τ σ->E.bk σ H'
 | .ct ρ=>∀ σ,EnvT K H' ρ τ σ->E.ct σ H'
def tDS (f:R->Option Out):TS:=fun E σ H=>∃ ρ τ o,EnvT K H ρ τ σ/\f ρ=some o/\∀ H',Same H H'->fin K E τ o H'
def tDG (st:D->R->Option R):TG:=fun v σ H Q=>∃ ρ τ d ρ',EnvT K H ρ τ σ/\Rep K H d v/\st d ρ=some ρ'/\∀ σ' H',Same H H'->EnvT K H' ρ' τ σ'->Q σ' H'
def tDGs (sts:List (D->R->Option R)):TGs:=fun vs σ H Q=>∃ ρ τ ds ρ',EnvT K H ρ τ σ/\Reps K H ds vs/\manyD sts ds ρ=some ρ'/\∀ σ' H',Same H H'->EnvT K H' ρ' τ σ'->Q σ' H'
def Kp (H H':Hp):Prop:=∀ b u,H b=some u->(∀ φ,u≠.ext φ)->H' b=some u
def Yields (J:It) (ds:List D) (H:Hp):Prop :=
 (∀ (i:Nat) (d:D) (H2:Hp),Kp H H2->ds[i]?=some d->J.go i H2/\∀ x H3,J.yld i H2 x H3->Same H2 H3/\Rep K H3 d x)/\∀ (i:Nat) (H2:Hp),Kp H H2->ds.length<=i->J.stop i H2
def tDI (f:R->Option (List D)):TI:=fun σ H W=>∃ ρ ds,EnvR K H ρ σ/\f ρ=some ds/\∀ J H',Same H H'->Yields K J ds H'->W J H'
def spD (F:List D->Option D):Sp:=fun vs H Q _=>∃ ds d,Reps K H ds vs/\F ds=some d/\∀ v H',Same H H'->Rep K H' d v->Q v H'
end
def SE (X:Cx) (e:Expr) (f:R->Option D):Prop:=PE X e (tD X.K f)
def ST (X:Cx) (e:Expr) (f:R->Option Bool):Prop:=PT X e (tDT X.K f)
def SW (X:Cx) (e:Expr) (f:R->Option Bool):Prop:=PW X e (tDT X.K f)
def noStar:Expr->Bool
 | .Starred _ _=>false
 | _=>true
theorem aX {e:Expr} (es:List Expr) (env:Env) (h:noStar e=true):starEach (e::es) env=(false,eval e env)::starEach es env:=by
 cases e<;>first | rfl | cases h
theorem dr {pos:Pos} {env:Env}:∀ {es:List Expr},es.all noStar=true->(backTo pos (starEach es env)).any (·.1)=false
 | [],_=>rfl
 | e::es,h=>by
  rw [List.all_cons,Bool.and_eq_true] at h
  rw [aX es env h.1]
  show (false||(backTo pos (starEach es env)).any (·.1))=false
  rw [dr h.2]
  rfl
def SA (X:Cx) (es:List Expr) (f:R->Option (List D)):Prop:=PA X es (tDA X.K f)/\(∀ ρ ds,f ρ=some ds->ds.length=es.length)/\es.all noStar=true
def SO (X:Cx) (e:Option Expr) (f:R->Option (Option Int)):Prop:=PO X e (tDO X.K f)
def S1 (X:Cx) (s:Stmt) (f:R->Option Out):Prop:=PS X s (tDS X.K f)
def SS (X:Cx) (s:List Stmt) (f:R->Option Out):Prop:=PSs X s (tDS X.K f)
def SG (X:Cx) (e:Expr) (st:D->R->Option R):Prop:=PG X e (tDG X.K st)
def SGs (X:Cx) (es:List Expr) (sts:List (D->R->Option R)):Prop:=PGs X es (tDGs X.K sts)
def SI (X:Cx) (tg iter:Expr) (f:R->Option (List D)):Prop:=PI X tg iter (tDI X.K f)
section
variable {X:Cx} {e a b c:Expr} {es:List Expr} {pos p:Pos}
theorem _root_.L2.PE.imp {t t':TE} (h:PE X e t) (hi:∀ σ H Q,t' σ H Q->t σ H Q):PE X e t':=fun pins s σ H Q I q=>h pins s σ H Q I (hi σ H Q q)
theorem _root_.L2.PT.imp {t t':TT} (h:PT X e t) (hi:∀ σ H Q,t' σ H Q->t σ H Q):PT X e t':=fun pins s σ H Q I q=>h pins s σ H Q I (hi σ H Q q)
theorem _root_.L2.PW.imp {t t':TT} (h:PW X e t) (hi:∀ σ H Q,t' σ H Q->t σ H Q):PW X e t':=fun wh pins s σ H Q I q=>h wh pins s σ H Q I (hi σ H Q q)
theorem _root_.L2.PA.imp {t t':TA} (h:PA X es t) (hi:∀ σ H Q,t' σ H Q->t σ H Q):PA X es t':=fun pos pins s σ H Q I q=>h pos pins s σ H Q I (hi σ H Q q)
theorem _root_.L2.PO.imp {e:Option Expr} {t t':TO} (h:PO X e t) (hi:∀ σ H Q,t' σ H Q->t σ H Q):PO X e t':=fun pins s σ H Q I q=>h pins s σ H Q I (hi σ H Q q)
theorem _root_.L2.PS.imp {s:Stmt} {t t':TS} (h:PS X s t) (hi:∀ E σ H,t' E σ H->t E σ H):PS X s t':=fun pins s σ H E I q=>h pins s σ H E I (hi E σ H q)
theorem _root_.L2.PSs.imp {s:List Stmt} {t t':TS} (h:PSs X s t) (hi:∀ E σ H,t' E σ H->t E σ H):PSs X s t':=fun pins s σ H E I q=>h pins s σ H E I (hi E σ H q)
theorem _root_.L2.PG.imp {t t':TG} (h:PG X e t) (hi:∀ v σ H Q,t' v σ H Q->t v σ H Q):PG X e t':=fun pins s σ H v u Q I r q=>h pins s σ H v u Q I r (hi v σ H Q q)
theorem _root_.L2.PGs.imp {t t':TGs} (h:PGs X es t) (hi:∀ v σ H Q,t' v σ H Q->t v σ H Q):PGs X es t':=fun pins s σ H v u Q I r q=>h pins s σ H v u Q I r (hi v σ H Q q)
theorem _root_.L2.PI.imp {tg:Expr} {t t':TI} (h:PI X tg e t) (hi:∀ σ H Q,t' σ H Q->t σ H Q):PI X tg e t':=fun pins s σ H W I q=>h pins s σ H W I (hi σ H W q)
theorem bindS {α β:Type} {o:Option α} {f:α->Option β} {y:β} (h:o.bind f=some y):∃ x,o=some x/\f x=some y:=by
 cases o with
 | none=>cases h
 | some x=>exact ⟨x,rfl,h⟩
theorem mapS {α β:Type} {o:Option α} {f:α->β} {y:β} (h:o.map f=some y):∃ x,o=some x/\f x=y:=by
 cases o with
 | none=>cases h
 | some x=>exact ⟨x,rfl,Option.some.inj h⟩
theorem ac (i:Nat) {x:Str} (hN:X.N[i]?=some x:=by rfl) (hv:Vis X.env.scope x:=by first | exact Or.inl rfl | exact Or.inr (Or.inl rfl) | exact Or.inr (Or.inr rfl)) (hd:(x==("__debug__" : Str))=false:=by decide)
  (hcd:(x==("__classdict__" : Str))=false:=by decide):SE X (.Name x pos) (vAt i):=(oy hN hv hd hcd).imp fun σ H Q ⟨ρ,d,er,e,q⟩=>by
 obtain ⟨v,h1,h2⟩:=er.at e
 exact ⟨v,h1,q v H (Same.refl H) h2⟩
theorem ae {i j}:SE X (.Constant (.int i) j pos) (fun _=>some (.int i)):=pe_int.imp fun σ H Q ⟨ρ,d,er,e,q⟩=>by
 cases e
 exact q _ H (Same.refl H) rfl
theorem cT {b j}:SE X (.Constant (.bool b) j pos) (fun _=>some (.bl b)):=pe_bl.imp fun σ H Q ⟨ρ,d,er,e,q⟩=>by
 cases e
 exact q _ H (Same.refl H) rfl
theorem aT {j}:SE X (.Constant .none j pos) (fun _=>some .non):=pe_non.imp fun σ H Q ⟨ρ,d,er,e,q⟩=>by
 cases e
 exact q _ H (Same.refl H) rfl
theorem aj {x j}:SE X (.Constant (.str x) j pos) (fun _=>some (.str x)):=pe_str.imp fun σ H Q ⟨ρ,d,er,e,q⟩=>by
 cases e
 exact q _ H (Same.refl H) rfl
def Con (K:PySem.W.Frag) (mg:Str->Option Value) (x:Str) (d:D):Prop:=∃ u v,mg x=some u/\RelV v u/\∀ H,Rep K H d v
theorem ax {x:Str} {d:D} (h:Con X.K X.mg x d) (hg:Gl X x:=by rfl) (hd:(x==("__debug__" : Str))=false:=by decide):SE X (.Name x pos) (fun _=>some d):=by
 obtain ⟨u,v,hm,r,hr⟩:=h
 exact (kY hg hm r hd).imp fun σ H Q ⟨ρ,d',er,e,q⟩=>by
  cases e
  exact q v H (Same.refl H) (hr H)
def OpD (X:Cx) (f:Value->Value->Sem Value) (F:D->D->Option D):Prop :=
 OpR X f fun x y H Q=>∃ dx dy d,Rep X.K H dx x/\Rep X.K H dy y/\F dx dy=some d/\∀ v H',Same H H'->Rep X.K H' d v->Q v H'
def CmD (X:Cx) (op:CmpOp) (F:D->D->Option Bool):Prop :=
 OpR X (compareOp op) fun x y H Q=>∃ dx dy b,Rep X.K H dx x/\Rep X.K H dy y/\F dx dy=some b/\Q (.bl b) H
def UnD (X:Cx) (f:Value->Sem Value) (F:D->Option D):Prop :=
 UnR X f fun x H Q=>∃ dx d,Rep X.K H dx x/\F dx=some d/\∀ v H',Same H H'->Rep X.K H' d v->Q v H'
def CaD (X:Cx) (f:Value) (F:List D->Option D):Prop :=
 CallR X f fun xs H Q=>∃ ds d,Reps X.K H ds xs/\F ds=some d/\∀ v H',Same H H'->Rep X.K H' d v->Q v H'
theorem _root_.L2.OpR.imp {f:Value->Value->Sem Value} {r r':R2} (h:OpR X f r) (hi:∀ x y H Q,r' x y H Q->r x y H Q):OpR X f r':=fun pins s σ H x y v u Q I rx ry q=>h pins s σ H x y v u Q I rx ry (hi x y H Q q)
theorem _root_.L2.UnR.imp {f:Value->Sem Value} {r r':V->Hp->VK->Prop} (h:UnR X f r) (hi:∀ x H Q,r' x H Q->r x H Q):UnR X f r':=fun pins s σ H x v Q I rx q=>h pins s σ H x v Q I rx (hi x H Q q)
theorem _root_.L2.CallR.imp {f:Value} {r r':List V->Hp->VK->Prop} (h:CallR X f r) (hi:∀ x H Q,r' x H Q->r x H Q):CallR X f r':=fun pins s σ H xs us Q I rx q=>h pins s σ H xs us Q I rx (hi xs H Q q)
variable {f g h:R->Option D}
theorem two {σ:L2.St} {H:Hp} {Q:VK} {F:D->D->Option D} (q:tD X.K (op2 F f g) σ H Q) :
  tD X.K f σ H fun x H1=>tD X.K g σ H1 fun y H2=>∃ dx dy d,Rep X.K H2 dx x/\Rep X.K H2 dy y/\F dx dy=some d/\∀ v H',Same H2 H'->Rep X.K H' d v->Q v H':=by
 obtain ⟨ρ,d,er,e,q⟩:=q
 obtain ⟨x,e1,e⟩:=bindS e
 obtain ⟨y,e2,e⟩:=bindS e
 exact ⟨ρ,x,er,e1,fun v H1 s1 r1=>⟨ρ,y,er.mono s1,e2,fun u H2 s2 r2=>⟨x,y,d,r1.mono s2,r2,e,fun w H3 s3 r3=>q w H3 (s1.trans (s2.trans s3)) r3⟩⟩⟩
theorem ai {op:Operator} {F:D->D->Option D} (ho:OpD X (binaryOp op) F) (ha:SE X a f) (hb:SE X b g):SE X (.BinOp a op b pos) (op2 F f g):=(uk ho ha hb).imp fun σ H Q q=>two q
theorem uv {op:UnaryOp} {F:D->Option D} (ho:UnD X (unaryOp op) F) (ha:SE X a f):SE X (.UnaryOp op a pos) (op1 F f):=(ui ho ha).imp fun σ H Q ⟨ρ,d,er,e,q⟩=>by
 obtain ⟨x,e1,e⟩:=bindS e
 exact ⟨ρ,x,er,e1,fun v H1 s1 r1=>⟨x,d,r1,e,fun w H2 s2 r2=>q w H2 (s1.trans s2) r2⟩⟩
theorem twoB {σ:L2.St} {H:Hp} {Q:Bool->Hp->Prop} {F:D->D->Option Bool} (q:tDT X.K (cmp2 F f g) σ H Q) :
  tD X.K f σ H fun x H1=>tD X.K g σ H1 fun y H2=>∃ dx dy b,Rep X.K H2 dx x/\Rep X.K H2 dy y/\F dx dy=some b/\Q b H2:=by
 obtain ⟨ρ,d,er,e,q⟩:=q
 obtain ⟨x,e1,e⟩:=bindS e
 obtain ⟨y,e2,e⟩:=bindS e
 exact ⟨ρ,x,er,e1,fun v H1 s1 r1=>⟨ρ,y,er.mono s1,e2,fun u H2 s2 r2=>⟨x,y,d,r1.mono s2,r2,e,q H2 (s1.trans s2)⟩⟩⟩
theorem asV_of {σ:L2.St} {H:Hp} {Q:VK} {f:R->Option Bool} (q:tD X.K (asV f) σ H Q):tDT X.K f σ H fun b H'=>Q (.bl b) H':=by
 obtain ⟨ρ,d,er,e,q⟩:=q
 obtain ⟨x,e1,e⟩:=mapS e
 subst e
 exact ⟨ρ,x,er,e1,fun H1 s1=>q _ H1 s1 rfl⟩
theorem bo {op:CmpOp} {F:D->D->Option Bool} (ho:CmD X op F) (ha:SE X a f) (hb:SE X b g) (hm:behindInMarks op b=false:=by first | exact nomark _ | with_unfolding_all rfl) :
  SE X (.Compare a [op] [b] pos) (asV (cmp2 F f g)):=(si ho ha hb hm).imp fun σ H Q q=>twoB (asV_of q)
theorem aH {op:CmpOp} {F:D->D->Option Bool} (ho:CmD X op F) (ha:SE X a f) (hb:SE X b g) (hm:behindInMarks op b=false:=by first | exact nomark _ | with_unfolding_all rfl) :
  ST X (.Compare a [op] [b] pos) (cmp2 F f g):=(sG ho ha hb hm).imp fun σ H Q q=>by
 obtain ⟨ρ,d,er,e,q⟩:=q
 obtain ⟨x,e1,e⟩:=bindS e
 obtain ⟨y,e2,e⟩:=bindS e
 exact ⟨ρ,x,er,e1,fun v H1 s1 r1=>⟨ρ,y,er.mono s1,e2,fun u H2 s2 r2=>⟨x,y,d,r1.mono s2,r2,e,d,rfl,q H2 (s1.trans s2)⟩⟩⟩
theorem truV_of {H:Hp} {d:D} {v:V} {b:Bool} {K:PySem.W.Frag} (r:Rep K H d v) (e:dTru d=some b):TruV K v H b:=by
 cases d with
 | non=>cases (show v=_ from r);cases e;exact rfl
 | bl c=>cases (show v=_ from r);cases e;exact rfl
 | int i=>cases (show v=_ from r);cases e;exact rfl
 | str x =>
  cases (show v=_ from r)
  unfold dTru at e
  dsimp only at e
  split at e
  ·rename_i hx
   cases e
   exact ⟨hx,rfl⟩
  ·cases e
 | tup ds =>
  obtain ⟨a,xs,rfl,q,t⟩:=r
  cases e
  refine .inr (.inl ⟨xs,q,?_⟩)
  cases ds with
  | nil=>cases (show xs=[] from t);rfl
  | cons d ds=>obtain ⟨_,_,rfl,_⟩:=t;rfl
 | lst ds =>
  obtain ⟨a,xs,rfl,q,t⟩:=r
  cases e
  refine .inl ⟨xs,SqL.of q,?_⟩
  cases ds with
  | nil=>cases (show xs=[] from t);rfl
  | cons d ds=>obtain ⟨_,_,rfl,_⟩:=t;rfl
 | fro ds =>
  obtain ⟨a,xs,rfl,q,t⟩:=r
  cases e
  refine .inl ⟨xs,q,?_⟩
  cases ds with
  | nil=>cases (show xs=[] from t);rfl
  | cons d ds=>obtain ⟨_,_,rfl,_⟩:=t;rfl
 | obj k a ks ds=>cases e
theorem bK (ha:SE X a f) (he:∀ whole,isTrue a X.env whole=(do let v <- whole;standAt a.pos;holding [v] (truthy v)):=by intro _;rfl):ST X a (truT f):=(r_ ha he).imp fun σ H Q ⟨ρ,b,er,e,q⟩=>by
 obtain ⟨x,e1,e⟩:=bindS e
 exact ⟨ρ,x,er,e1,fun v H1 s1 r1=>⟨b,truV_of r1 e,q H1 s1⟩⟩
variable {s t:R->Option Bool} {rest:List Expr}
theorem eF {e:Expr} (h:SW X e s):ST X e s:=PW.pt h
theorem fB (ha:ST X a s):SW X (.BoolOp .And [a] pos) s:=pw_and1 ha
theorem gJ (ha:ST X a s):SW X (.BoolOp .Or [a] pos) s:=pw_or1 ha
theorem gY (ha:ST X a s) (hb:SW X (.BoolOp .And (b::rest) pos) t):SW X (.BoolOp .And (a::b::rest) pos) (andT s t):=(pw_and ha hb).imp fun σ H Q ⟨ρ,k,er,e,q⟩=>by
 obtain ⟨x,e1,e⟩:=bindS e
 refine ⟨ρ,x,er,e1,fun H1 s1=>?_⟩
 cases x with
 | false=>cases e;rw [if_neg Bool.false_ne_true];exact q H1 s1
 | true=>rw [if_pos rfl] at e ⊢;exact ⟨ρ,k,er.mono s1,e,fun H2 s2=>q H2 (s1.trans s2)⟩
theorem ju (ha:ST X a s) (hb:SW X (.BoolOp .Or (b::rest) pos) t):SW X (.BoolOp .Or (a::b::rest) pos) (orT s t):=(pw_or ha hb).imp fun σ H Q ⟨ρ,k,er,e,q⟩=>by
 obtain ⟨x,e1,e⟩:=bindS e
 refine ⟨ρ,x,er,e1,fun H1 s1=>?_⟩
 cases x with
 | true=>cases e;rw [if_pos rfl];exact q H1 s1
 | false=>rw [if_neg Bool.false_ne_true] at e ⊢;exact ⟨ρ,k,er.mono s1,e,fun H2 s2=>q H2 (s1.trans s2)⟩
theorem cN (ha:ST X a s):ST X (.UnaryOp .Not a pos) (notT s):=(tz ha).imp fun σ H Q ⟨ρ,k,er,e,q⟩=>by
 obtain ⟨x,e1,e⟩:=mapS e
 subst e
 exact ⟨ρ,x,er,e1,fun H1 s1=>q H1 s1⟩
theorem bU {op} (ha:SE X a f):SE X (.BoolOp op [a] pos) f:=tq ha
theorem bf (ha:SE X a f) (hb:SE X (.BoolOp .And (b::rest) pos) g):SE X (.BoolOp .And (a::b::rest) pos) (andV f g):=(tE ha hb).imp fun σ H Q ⟨ρ,d,er,e,q⟩=>by
 obtain ⟨x,e1,e⟩:=bindS e
 refine ⟨ρ,x,er,e1,fun v H1 s1 r1=>?_⟩
 cases x with
 | bl c =>
  cases (show v=_ from r1)
  refine ⟨c,rfl,?_⟩
  cases c with
  | false=>cases e;rw [if_neg Bool.false_ne_true];exact q _ H1 s1 rfl
  | true=>rw [if_pos rfl];exact ⟨ρ,d,er.mono s1,e,fun v H2 s2 r2=>q v H2 (s1.trans s2) r2⟩
 | _=>cases e
theorem sY (ha:SE X a f) (hb:SE X (.BoolOp .Or (b::rest) pos) g):SE X (.BoolOp .Or (a::b::rest) pos) (orV f g):=(uy ha hb).imp fun σ H Q ⟨ρ,d,er,e,q⟩=>by
 obtain ⟨x,e1,e⟩:=bindS e
 refine ⟨ρ,x,er,e1,fun v H1 s1 r1=>?_⟩
 cases x with
 | bl c =>
  cases (show v=_ from r1)
  refine ⟨c,rfl,?_⟩
  cases c with
  | true=>cases e;rw [if_pos rfl];exact q _ H1 s1 rfl
  | false=>rw [if_neg Bool.false_ne_true];exact ⟨ρ,d,er.mono s1,e,fun v H2 s2 r2=>q v H2 (s1.trans s2) r2⟩
 | _=>cases e
theorem d_ (ha:SE X a f):SE X (.UnaryOp .Not a pos) (notV f):=(tj ha).imp fun σ H Q ⟨ρ,d,er,e,q⟩=>by
 obtain ⟨x,e1,e⟩:=bindS e
 refine ⟨ρ,x,er,e1,fun v H1 s1 r1=>?_⟩
 cases x with
 | bl c =>
  cases (show v=_ from r1)
  cases e
  exact ⟨c,rfl,q _ H1 s1 rfl⟩
 | _=>cases e
theorem kh (hc:ST X c s) (ha:SE X a f) (hb:SE X b g):SE X (.IfExp c a b pos) (ifE s f g):=(rS hc ha hb).imp fun σ H Q ⟨ρ,d,er,e,q⟩=>by
 obtain ⟨x,e1,e⟩:=bindS e
 refine ⟨ρ,x,er,e1,fun H1 s1=>?_⟩
 cases x with
 | true=>rw [if_pos rfl] at e ⊢;exact ⟨ρ,d,er.mono s1,e,fun v H2 s2 r2=>q v H2 (s1.trans s2) r2⟩
 | false=>rw [if_neg Bool.false_ne_true] at e ⊢;exact ⟨ρ,d,er.mono s1,e,fun v H2 s2 r2=>q v H2 (s1.trans s2) r2⟩
variable {F:R->Option (List D)}
theorem af:SA X [] argN:=⟨pa_nil.imp fun σ H Q ⟨ρ,d,er,e,q⟩=>by cases e;exact q [] H (Same.refl H) rfl,fun ρ ds e=>by cases e;rfl,rfl⟩
theorem ab (ha:SE X e f) (hr:SA X es F) (hs:noStar e=true:=by rfl):SA X (e::es) (argC f F):=⟨(iP ha hr.1 (aX es X.env hs)).imp fun σ H Q ⟨ρ,ds,er,e,q⟩=>by
 obtain ⟨x,e1,e⟩:=bindS e
 obtain ⟨y,e2,e⟩:=mapS e
 subst e
 exact ⟨ρ,x,er,e1,fun v H1 s1 r1=>⟨ρ,y,er.mono s1,e2,fun vs H2 s2 r2=>q _ H2 (s1.trans s2) (Reps.cons (r1.mono s2) r2)⟩⟩,fun ρ ds e=>by
 obtain ⟨x,e1,e⟩:=bindS e
 obtain ⟨y,e2,e⟩:=mapS e
 subst e
 simp [hr.2.1 ρ y e2],by rw [List.all_cons,hs,hr.2.2];rfl⟩
theorem bm {H:Hp} {p:Addr} (h:H p=none) (o:HO):Same H (upd H p o):=fun b u q=>by rw [ay (ne_of_none q h)];exact q
theorem av {k} (h:SA X es F) (hl:Nat.ble es.length 1000=true:=by rfl):SE X (.Tuple es k pos) (tupD F):=(tw h.1).imp fun σ H Q ⟨ρ,d,er,e,q⟩=>by
 obtain ⟨ds,e1,e⟩:=mapS e
 subst e
 refine ⟨ρ,ds,er,e1,fun vs H1 s1 r1=>⟨?_,fun p hp=>?_⟩⟩
 ·rw [<- r1.length,h.2.1 ρ ds e1];exact Nat.le_of_lt (small1000 (Nat.le_of_ble_eq_true hl))
 ·have s2:=bm hp (.tup vs)
  exact q _ _ (s1.trans s2) ⟨p,vs,rfl,SqT.of aC,r1.mono s2⟩
theorem kT (h:SA X es F) (hl:Nat.ble es.length 1000=true:=by rfl):SE X (.List es pos) (lstD F):=(nZ h.1).imp fun σ H Q ⟨ρ,d,er,e,q⟩=>by
 obtain ⟨ds,e1,e⟩:=mapS e
 subst e
 refine ⟨ρ,ds,er,e1,fun vs H1 s1 r1=>⟨?_,fun p hp=>?_⟩⟩
 ·rw [<- r1.length,h.2.1 ρ ds e1];exact Nat.le_of_lt (small1000 (Nat.le_of_ble_eq_true hl))
 ·have s2:=bm hp (.lst vs)
  exact q _ _ (s1.trans s2) ⟨p,vs,rfl,aC,r1.mono s2⟩
structure Cal (P:Program) (w:World) (K:PySem.W.Frag) (mg:Str->Option Value) (base:Heap) (k:Nat) (x:Str) (ps:List Str) (F:List D->Option D):Prop where
 ex:∃ f fd,FnOk P w K mg base CX0 k f fd ps (spD K F)/\mg x=some (.ref f)/\PySem.W.keepIn K (.ref f)=true/\Binds K fd ps []
theorem Cal.mono {P:Program} {w:World} {K:PySem.W.Frag} {mg:Str->Option Value} {base:Heap} {j k:Nat} {x:Str} {ps:List Str} {F:List D->Option D} (h:Cal P w K mg base j x ps F) (hk:j<=k):Cal P w K mg base k x ps F:=by
 obtain ⟨f,fd,a,b⟩:=h.ex
 exact ⟨f,fd,a.mono hk,b⟩
theorem Cal.imp {P:Program} {w:World} {K:PySem.W.Frag} {mg:Str->Option Value} {base:Heap} {k:Nat} {x:Str} {ps:List Str} {F G:List D->Option D} (h:Cal P w K mg base k x ps F) (hi:∀ ds d,G ds=some d->F ds=some d):Cal P w K mg base k x ps G:=by
 obtain ⟨f,fd,a,b⟩:=h.ex
 exact ⟨f,fd,a.imp fun vs H Q E ⟨ds,d,r,e,q⟩=>⟨ds,d,r,hi ds d e,q⟩,b⟩
theorem al {k:Nat} {x:Str} {ps:List Str} {G:List D->Option D} (C:Cal X.prog X.w X.K X.mg X.base k x ps G) (hr:Room k X.A) (ha:SA X (e::es) F) (hg:Gl X x:=by rfl)
  (hdb:(x==("__debug__" : Str))=false:=by decide) :
  SE X (.Call (.Name x p) (e::es) [] pos) (callD G F):=by
 have hst:=ha.2.2
 rw [List.all_cons,Bool.and_eq_true] at hst
 have he:=aX es X.env hst.1
 have hpl:=dr (pos:=pos) (env:=X.env) hst.2
 obtain ⟨f,fd,a,m,kp,bd⟩:=C.ex
 refine (iX a hr hg m kp bd .nil pass0 ha.1 hdb he hpl).imp fun σ H Q ⟨ρ,d,er,e,q⟩=>?_
 obtain ⟨ds,e1,e⟩:=bindS e
 exact ⟨ρ,ds,er,e1,fun vs H1 s1 r1=>⟨ds,d,by rw [List.append_nil];exact r1,e,fun v H2 s2 r2=>q v H2 (s1.trans s2) r2⟩⟩
theorem bh {x:Str} {id:String} {G:List D->Option D} (hc:CaD X (.builtin id) G) (hm:X.mg x=none) (ha:SA X (e::es) F) (hv:bootBuiltins x=some (.builtin id):=by kernel_rfl) (hg:Gl X x:=by rfl) (hn:x ≠ "__name__":=by decide) (hdb:(x==("__debug__" : Str))=false:=by decide):SE X (.Call (.Name x p) (e::es) [] pos) (callD G F) :=
 (lL hc hg hm hv ha.1 hn hdb (aX es X.env (List.all_eq_true.mp ha.2.2 e List.mem_cons_self)) (dr (List.all_eq_true.mpr fun x hx=>List.all_eq_true.mp ha.2.2 x (List.mem_cons_of_mem _ hx)))).imp fun σ H Q ⟨ρ,d,er,e,q⟩=>by
  obtain ⟨ds,e1,e⟩:=bindS e
  exact ⟨ρ,ds,er,e1,fun vs H1 s1 r1=>⟨ds,d,r1,e,fun v H2 s2 r2=>q v H2 (s1.trans s2) r2⟩⟩
theorem cO {x:Str} {T:String} {G:List D->Option D} (hc:CaD X (.type T) G) (hm:X.mg x=none) (ha:SA X (e::es) F) (hv:bootBuiltins x=some (.type T):=by kernel_rfl) (hg:Gl X x:=by rfl) (hn:x ≠ "__name__":=by decide) (hdb:(x==("__debug__" : Str))=false:=by decide):SE X (.Call (.Name x p) (e::es) [] pos) (callD G F) :=
 (pB hc hg hm hv ha.1 hn hdb (aX es X.env (List.all_eq_true.mp ha.2.2 e List.mem_cons_self)) (dr (List.all_eq_true.mpr fun x hx=>List.all_eq_true.mp ha.2.2 x (List.mem_cons_of_mem _ hx)))).imp fun σ H Q ⟨ρ,d,er,e,q⟩=>by
  obtain ⟨ds,e1,e⟩:=bindS e
  exact ⟨ρ,ds,er,e1,fun vs H1 s1 r1=>⟨ds,d,r1,e,fun v H2 s2 r2=>q v H2 (s1.trans s2) r2⟩⟩
def IxD (X:Cx) (F:D->D->Option D):Prop:=IxR X fun x y H Q=>∃ dx dy d,Rep X.K H dx x/\Rep X.K H dy y/\F dx dy=some d/\∀ v H',Same H H'->Rep X.K H' d v->Q v H'
theorem _root_.L2.IxR.imp {r r':R2} (h:IxR X r) (hi:∀ x y H Q,r' x y H Q->r x y H Q):IxR X r':=fun value slice pins s σ H x y v u Q I rx ry q hs=>h value slice pins s σ H x y v u Q I rx ry (hi x y H Q q) hs
theorem ixD_eq (n:Nat) (i:Int):ixD n i=ixN n i:=rfl
theorem atD_rep {K:PySem.W.Frag} {H:Hp} {ds:List D} {xs:List V} {i:Int} {d:D} (r:Reps K H ds xs) (e:atD ds i=some d):∃ v,atI xs i=some v/\Rep K H d v:=by
 obtain ⟨j,e1,e2⟩:=bindS e
 obtain ⟨v,h1,h2⟩:=r.get e2
 refine ⟨v,?_,h2⟩
 unfold atI
 rw [<- r.length,<- ixD_eq,e1]
 exact h1
theorem ix_d:IxD X dIx:=(ix_list.or (ix_tup.or ix_str)).imp fun x y H Q ⟨dx,dy,d,r1,r2,e,q⟩=>by
 cases dx with
 | tup ds =>
  cases dy with
  | int i =>
   obtain ⟨a,xs,e1,hq,t⟩:=r1
   cases (show y=_ from r2)
   obtain ⟨v,h1,h2⟩:=atD_rep t e
   exact .inr (.inl ⟨a,xs,i,v,e1,rfl,hq,h1,q v H (Same.refl H) h2⟩)
  | _=>cases e
 | lst ds =>
  cases dy with
  | int i =>
   obtain ⟨a,xs,e1,hq,t⟩:=r1
   cases (show y=_ from r2)
   obtain ⟨v,h1,h2⟩:=atD_rep t e
   exact .inl ⟨a,xs,i,v,e1,rfl,SqL.of hq,h1,q v H (Same.refl H) h2⟩
  | _=>cases e
 | fro ds =>
  cases dy with
  | int i =>
   obtain ⟨a,xs,e1,hq,t⟩:=r1
   cases (show y=_ from r2)
   obtain ⟨v,h1,h2⟩:=atD_rep t e
   exact .inl ⟨a,xs,i,v,e1,rfl,hq,h1,q v H (Same.refl H) h2⟩
  | _=>cases e
 | str z =>
  cases dy with
  | int i =>
   cases (show x=_ from r1)
   cases (show y=_ from r2)
   unfold dIx at e
   dsimp only at e
   split at e
   ·rename_i hz
    obtain ⟨c,e1,e2⟩:=mapS e
    subst e2
    exact .inr (.inr ⟨z,i,c,rfl,rfl,hz,(by rw [<- e1];rfl),q _ H (Same.refl H) rfl⟩)
   ·cases e
  | _=>cases e
 | _=>cases e
theorem ag (ha:SE X a f) (hb:SE X b g) (hs:PlainIx b:=by intro _ _;rfl):SE X (.Subscript a b pos) (op2 dIx f g):=(sX ix_d ha hb hs).imp fun σ H Q q=>two q
variable {st:Stmt} {sts:List Stmt} {u w:R->Option Out}
theorem aS:SS X [] nextD:=pss_nil.imp fun E σ H ⟨ρ,τ,o,er,e,q⟩=>by
 cases e
 exact q H (Same.refl H) σ er
theorem seq_of {E:Ends} {σ:L2.St} {H:Hp} {K:PySem.W.Frag} (q:tDS K (seqD u w) E σ H):tDS K u {E with nx:=tDS K w E} σ H:=by
 obtain ⟨ρ,τ,o,er,e,q⟩:=q
 obtain ⟨o1,e1,e⟩:=bindS e
 refine ⟨ρ,τ,o1,er,e1,fun H1 s1=>?_⟩
 cases o1 with
 | nx ρ2=>exact fun σ2 er2=>⟨ρ2,τ,o,er2,e,fun H2 s2=>q H2 (s1.trans s2)⟩
 | rt d=>cases e;exact q H1 s1
 | bk ρ2=>cases e;exact q H1 s1
 | ct ρ2=>cases e;exact q H1 s1
theorem ar (h1:S1 X st u) (h2:SS X sts w):SS X (st::sts) (seqD u w):=(dh h1 h2).imp fun E σ H q=>seq_of q
theorem au (h1:S1 X st u):SS X [st] u:=gv h1
theorem az (ha:SE X a f):S1 X (.Return (some a) pos) (retD f):=(oi ha).imp fun E σ H ⟨ρ,τ,o,er,e,q⟩=>by
 obtain ⟨x,e1,e⟩:=mapS e
 subst e
 exact ⟨ρ,x,er.1,e1,fun v H1 s1 r1=>q H1 s1 v r1⟩
theorem ci {B1 B2:List Stmt} (hc:ST X c s) (ha:SS X B1 u) (hb:SS X B2 w):S1 X (.If c B1 B2 pos) (ifD s u w):=(rF hc ha hb).imp fun E σ H ⟨ρ,τ,o,er,e,q⟩=>by
 obtain ⟨x,e1,e⟩:=bindS e
 refine ⟨ρ,x,er.1,e1,fun H1 s1=>?_⟩
 cases x with
 | true=>rw [if_pos rfl] at e ⊢;exact ⟨ρ,τ,o,er.mono s1,e,fun H2 s2=>q H2 (s1.trans s2)⟩
 | false=>rw [if_neg Bool.false_ne_true] at e ⊢;exact ⟨ρ,τ,o,er.mono s1,e,fun H2 s2=>q H2 (s1.trans s2)⟩
theorem ak (i:Nat) {x:Str} (hN:X.N.Nodup) (hi:X.N[i]?=some x:=by rfl) (hx:Loc X.env.scope x:=by first | exact Or.inl rfl | exact Or.inr rfl) (hf:X.fn x=true\/X.env.scope.names.lookup x=some .local:=by first | exact .inl rfl | exact .inr rfl) :
  SG X (.Name x pos) (setAt i):=(sv hN hi hx hf).imp fun v σ H Q ⟨ρ,τ,d,ρ',er,r,e,q⟩=>by
 unfold setAt at e
 split at e
 ·rename_i hlt
  cases e
  exact q _ H (Same.refl H) (er.set hlt r)
 ·cases e
variable {stf:D->R->Option R} {stfs:List (D->R->Option R)}
theorem dM:SGs X [] []:=pgs_nil.imp fun v σ H Q ⟨ρ,τ,ds,ρ',er,r,e,q⟩=>by
 cases ds with
 | nil=>cases e;exact ⟨r,q σ H (Same.refl H) er⟩
 | cons d ds=>cases e
theorem aQ (h1:SG X e stf) (h2:SGs X es stfs) (hs:(assignEach (e::es) X.env).map (·.2)=assign e X.env::(assignEach es X.env).map (·.2):=by rfl):SGs X (e::es) (stf::stfs) :=
 (pgs_cons h1 h2 hs).imp fun v σ H Q ⟨ρ,τ,ds,ρ',er,r,e,q⟩=>by
  cases ds with
  | nil=>cases e
  | cons d ds =>
   obtain ⟨v1,vr,rfl,r1,rr⟩:=r
   obtain ⟨ρ1,e1,e⟩:=bindS e
   exact ⟨v1,vr,rfl,ρ,τ,d,ρ1,er,r1,e1,fun σ1 H1 s1 er1=>⟨ρ1,τ,ds,ρ',er1,rr.mono s1,e,fun σ2 H2 s2 er2=>q σ2 H2 (s1.trans s2) er2⟩⟩
theorem manyD_len:∀ {fs:List (D->R->Option R)} {ds:List D} {ρ ρ':R},manyD fs ds ρ=some ρ'->ds.length=fs.length
 | [],[],_,_,_=>rfl
 | [],_::_,_,_,e=>by cases e
 | _::_,[],_,_,e=>by cases e
 | f::fs,d::ds,_,_,e=>by
  obtain ⟨_,_,e⟩:=bindS e
  simp [manyD_len e]
theorem ft {k} (hc:X.calm=true) (h:SGs X es stfs) (hn:(assignEach es X.env).length=stfs.length:=by rfl) (hst:(assignEach es X.env).findIdx? (·.1)=none:=by rfl):SG X (.Tuple es k pos) (unpD stfs) :=
 (tF hc h hn hst).imp fun v σ H Q ⟨ρ,τ,d,ρ',er,r,e,q⟩=>by
  cases d with
  | tup ds =>
   obtain ⟨a,xs,e1,hq,t⟩:=r
   exact ⟨a,xs,e1,hq,by rw [<- t.length];exact manyD_len e,ρ,τ,ds,ρ',er,t,e,q⟩
  | _=>cases e
theorem aF {tg:Expr} (ha:SE X a f) (hg:SG X tg stf) (hs:swapsWithSole [tg] a pos.line X.env=pure false:=by rfl) (hw:swappedStores [tg] a X.env=pure none:=by rfl) (h1:(assignEach [tg] X.env).map (·.2)=[assign tg X.env]:=by rfl) :
  S1 X (.Assign [tg] a pos) (asgD f stf):=(tN ha hg hs hw h1).imp fun E σ H ⟨ρ,τ,o,er,e,q⟩=>by
 obtain ⟨x,e1,e⟩:=bindS e
 obtain ⟨ρ',e2,e⟩:=mapS e
 subst e
 exact ⟨ρ,x,er.1,e1,fun v H1 s1 r1=>⟨ρ,τ,x,ρ',er.mono s1,r1,e2,fun σ2 H2 s2 er2=>q H2 (s1.trans s2) σ2 er2⟩⟩
theorem Kp.of {H H':Hp} (s:Same H H'):Kp H H':=fun b u e _=>s b u e
theorem Kp.refl (H:Hp):Kp H H:=fun _ _ e _=>e
theorem Kp.seq {K:PySem.W.Frag} {H H':Hp} {a:Addr} {xs:List V} (s:Kp H H') (h:SqL K H a xs):SqL K H' a xs:=by
 rcases h with (h | ⟨o,h⟩) | h
 ·exact .inl (.inl (s _ _ h fun φ z=>nomatch z))
 ·exact .inl (.inr ⟨o,s _ _ h fun φ z=>nomatch z⟩)
 ·exact .inr h
theorem Kp.tup {K:PySem.W.Frag} {H H':Hp} {a:Addr} {xs:List V} (s:Kp H H') (h:SqT K H a xs):SqT K H' a xs:=by
 rcases h with (h | ⟨o,h⟩) | h
 ·exact .inl (.inl (s _ _ h fun φ z=>nomatch z))
 ·exact .inl (.inr ⟨o,s _ _ h fun φ z=>nomatch z⟩)
 ·exact .inr h
mutual
theorem Rep.kp {K:PySem.W.Frag} {H H':Hp} (s:Kp H H'):∀ {d:D} {v:V},Rep K H d v->Rep K H' d v
 | .non,_,h=>h
 | .bl _,_,h=>h
 | .int _,_,h=>h
 | .str _,_,h=>h
 | .tup ds,_,h=>by
  obtain ⟨a,xs,e,q,r⟩:=h
  exact ⟨a,xs,e,s.tup q,Reps.kp s r⟩
 | .lst ds,_,h=>by
  obtain ⟨a,xs,e,q,r⟩:=h
  exact ⟨a,xs,e,s _ _ q (fun φ z=>by cases z),Reps.kp s r⟩
 | .fro ds,_,h=>by
  obtain ⟨a,xs,e,q,r⟩:=h
  exact ⟨a,xs,e,s.seq q,Reps.kp s r⟩
 | .obj k a ks ds,_,h=>by
  obtain ⟨xs,e,q,r⟩:=h
  exact ⟨xs,e,q.to fun u z n=>s _ u z n,Reps.kp s r⟩
theorem Reps.kp {K:PySem.W.Frag} {H H':Hp} (s:Kp H H'):∀ {ds:List D} {vs:List V},Reps K H ds vs->Reps K H' ds vs
 | [],_,h=>h
 | d::ds,_,h=>by
  obtain ⟨v,r,e,q,t⟩:=h
  exact ⟨v,r,e,Rep.kp s q,Reps.kp s t⟩
end
theorem EnvR.kp {K:PySem.W.Frag} {H H':Hp} {ρ:R} {σ:L2.St} (e:EnvR K H ρ σ) (s:Kp H H'):EnvR K H' ρ σ:=⟨e.1,fun i d h=>let ⟨v,a,b⟩:=e.2 i d h;⟨v,a,b.kp s⟩⟩
theorem EnvT.kp {K:PySem.W.Frag} {H H':Hp} {ρ:R} {τ σ:L2.St} (e:EnvT K H ρ τ σ) (s:Kp H H'):EnvT K H' ρ τ σ:=⟨e.1.kp s,e.2⟩
theorem mC {K:PySem.W.Frag} {H:Hp} {a:Addr} {ds:List D} {xs:List V} (hq:SqL K H a xs) (t:Reps K H ds xs):Yields K (Itl K a) ds H:=by
 refine ⟨fun i d H2 s2 e=>?_,fun i H2 s2 hl=>⟨xs,s2.seq hq,by rw [<- t.length];exact hl⟩⟩
 obtain ⟨v,h1,h2⟩:=t.get e
 refine ⟨⟨xs,v,s2.seq hq,h1⟩,fun x H3 ⟨e3,y⟩=>?_⟩
 subst e3
 have:=(y xs (s2.seq hq)).symm.trans h1
 cases this
 exact ⟨Same.refl _,h2.kp s2⟩
theorem ni {K:PySem.W.Frag} {H:Hp} {a:Addr} {ds:List D} {xs:List V} (hq:SqT K H a xs) (t:Reps K H ds xs):Yields K (Itt K a) ds H:=by
 refine ⟨fun i d H2 s2 e=>?_,fun i H2 s2 hl=>⟨xs,s2.tup hq,by rw [<- t.length];exact hl⟩⟩
 obtain ⟨v,h1,h2⟩:=t.get e
 refine ⟨⟨xs,v,s2.tup hq,h1⟩,fun x H3 ⟨e3,y⟩=>?_⟩
 subst e3
 have:=(y xs (s2.tup hq)).symm.trans h1
 cases this
 exact ⟨Same.refl _,h2.kp s2⟩
theorem rngD_get {a b:Int} {i:Nat} {d:D} (e:(rngD a b)[i]?=some d):i<(b - a).toNat/\d=.int (a+i):=by
 unfold rngD at e
 rw [List.getElem?_map] at e
 obtain ⟨k,e1,e⟩:=mapS e
 obtain ⟨h1,h2⟩:=List.getElem?_eq_some_iff.mp e1
 rw [List.length_range] at h1
 rw [List.getElem_range] at h2
 subst h2
 exact ⟨h1,e.symm⟩
theorem jt {K:PySem.W.Frag} {H:Hp} {a b:Int}:Yields K (Itr a (b - a).toNat) (rngD a b) H:=by
 refine ⟨fun i d H2 s2 e=>?_,fun i H2 s2 hl=>by
  have z:(rngD a b).length=(b - a).toNat:=by simp [rngD]
  rw [z] at hl
  exact hl⟩
 obtain ⟨h1,rfl⟩:=rngD_get e
 refine ⟨h1,fun x H3 ⟨e3,y⟩=>?_⟩
 subst e3
 exact ⟨Same.refl _,y⟩
def iSeq (K:PySem.W.Frag) (tl:TE):TI:=fun σ H W=>tl σ H fun x H1=>(∃ a,x=.ref a/\(((∃ xs,SqL K H1 a xs)/\W (Itl K a) H1)\/((∃ xs,SqT K H1 a xs)/\W (Itt K a) H1)))\/∃ z,x=.str z/\z.cps.all (·<128)=true/\W (Its z) H1
theorem jN {K:PySem.W.Frag} {H:Hp} {x:Str}:Yields K (Its x) (chars x) H:=by
 have hl:(chars x).length=x.cps.size:=by simp [chars]
 refine ⟨fun i d H2 s2 e=>?_,fun i H2 s2 h=>by rw [hl] at h;exact h⟩
 have hi:i<x.cps.size:=by rw [<- hl];exact (List.getElem?_eq_some_iff.mp e).1
 refine ⟨hi,fun v H3 ⟨e3,c,h1,h2⟩=>?_⟩
 subst e3
 refine ⟨Same.refl _,?_⟩
 unfold chars at e
 rw [List.getElem?_map] at e
 obtain ⟨c',e1,e⟩:=mapS e
 have h1':x.cps.toList[i]?=some c:=by simpa using h1
 rw [h1'] at e1
 cases e1
 subst e
 exact h2
theorem rG {tg l:Expr} {tl:TE} (hl:PE X l tl):PI X tg l (iSeq X.K tl):=by
 intro pins s σ H W I h
 refine thn (hl pins s σ H _ I h) fun v s1 ⟨x,H1,I1,r1,q1⟩=>?_
 rcases q1 with ⟨a,e,q1⟩ | ⟨z,e,hz,q⟩
 rotate_left
 ·subst e
  obtain ⟨t,rfl⟩:=r1
  refine wpAny_pyIter_ascii hz ?_
  refine ⟨s1.heap.objs.size,[s1.heap.objs.size],_,_,H1,rfl,I1.kept (t':=s1.toks) fun b o e=>Heap.get?_push_of_some _ e,turn_str _ z t,⟨_,Heap.get?_push_size _ rfl,rfl,rfl⟩,fun b hb=>?_,q⟩
  have e:b=s1.heap.objs.size:=by simpa using hb
  subst e
  exact I1.fpOk (Nat.le_refl _) (I1.hok.fresh (Nat.le_refl _))
 subst e
 cases r1
 rcases q1 with ⟨⟨xs,hq⟩,q⟩ | ⟨⟨xs,hq⟩,q⟩
 ·obtain ⟨its,rv,p,hz⟩:=I1.list hq
  refine wpAny_pyIter_list p.isList ?_
  refine ⟨s1.heap.objs.size,[s1.heap.objs.size],_,_,H1,rfl,I1.kept (t':=s1.toks) fun b o e=>Heap.get?_push_of_some _ e,turn_list a _,⟨_,Heap.get?_push_size _ rfl,rfl,rfl⟩,fun b hb=>?_,q⟩
  have e:b=s1.heap.objs.size:=by simpa using hb
  subst e
  exact I1.fpOk (Nat.le_refl _) (I1.hok.fresh (Nat.le_refl _))
 ·obtain ⟨its,rv,p,hz⟩:=I1.tuple hq
  refine wpAny_pyIter_tuple (show s1.heap.IsTuple a its.toArray from p) ?_
  refine ⟨s1.heap.objs.size,[s1.heap.objs.size],_,_,H1,rfl,I1.kept (t':=s1.toks) fun b o e=>Heap.get?_push_of_some _ e,turn_tuple a _,⟨_,Heap.get?_push_size _ rfl,rfl,rfl⟩,fun b hb=>?_,q⟩
  have e:b=s1.heap.objs.size:=by simpa using hb
  subst e
  exact I1.fpOk (Nat.le_refl _) (I1.hok.fresh (Nat.le_refl _))
theorem kJ {tg:Expr} (ha:SE X a f):SI X tg a (inSeq f):=(rG ha).imp fun σ H W ⟨ρ,ds,er,e,q⟩=>by
 obtain ⟨x,e1,e⟩:=bindS e
 refine ⟨ρ,x,er,e1,fun v H1 s1 r1=>?_⟩
 cases x with
 | tup xs =>
  cases e
  obtain ⟨a,vs,ev,hq,t⟩:=r1
  exact .inl ⟨a,ev,.inr ⟨⟨vs,hq⟩,q _ H1 s1 (ni hq t)⟩⟩
 | lst xs =>
  cases e
  obtain ⟨a,vs,ev,hq,t⟩:=r1
  exact .inl ⟨a,ev,.inl ⟨⟨vs,SqL.of hq⟩,q _ H1 s1 (mC (SqL.of hq) t)⟩⟩
 | str z =>
  dsimp only at e
  split at e
  ·rename_i hz
   cases e
   cases (show v=_ from r1)
   exact .inr ⟨z,rfl,hz,q _ H1 s1 jN⟩
  ·cases e
 | _=>cases e
theorem gz {tg:Expr} (hm:X.mg "range" = none) (ha:SE X a f) (hg:Gl X "range":=by rfl) (hs:noStar a=true:=by rfl):SI X tg (.Call (.Name "range" p) [a] [] pos) (inRng1 f) :=
 (j_ hg hm (ab ha af hs).1 (aX [] X.env hs)).imp fun σ H W ⟨ρ,ds,er,e,q⟩=>by
  obtain ⟨x,e1,e⟩:=bindS e
  cases x with
  | int j =>
   dsimp only at e
   split at e
   ·rename_i hj
    cases e
    refine ⟨ρ,[.int j],er,by show (f ρ).bind _=_;rw [e1];rfl,fun vs H1 s1 r1=>?_⟩
    obtain ⟨v,r,rfl,r2,r3⟩:=r1
    cases (show v=_ from r2)
    cases (show r=_ from r3)
    refine ⟨j,rfl,hj.1,hj.2,q _ H1 s1 ?_⟩
    have z:=jt (K:=X.K) (H:=H1) (a:=0) (b:=j)
    rw [Int.sub_zero] at z
    exact z
   ·cases e
  | _=>cases e
theorem oD {tg iter:Expr} {B:List Stmt} {it:R->Option (List D)} (hp:PassesOwn (model X.prog X.w) X.A X.env X.xe) (hc:X.calm=true) (hi:SI X tg iter it) (hg:SG X tg stf) (hb:SS X B u)
  (hs:∀ x,foldedSetIterable iter X.env x=pure x:=by intro _;rfl):S1 X (.For tg iter B [] pos) (loopD it stf u):=(ri hp hc hi hg hb hs).imp fun E σ H ⟨ρ,τ,o,er,e,q⟩=>by
 obtain ⟨ds,e1,e⟩:=bindS e
 refine ⟨ρ,ds,er.1,e1,fun J H1 s1 y=>?_⟩
 refine ⟨fun i m σ' H'=>m=ds.length - i/\i<=ds.length/\Same H1 H'/\∃ ρ',EnvT X.K H' ρ' τ σ'/\forD stf u (ds.drop i) ρ'=some o,⟨ds.length,by simp,Nat.zero_le _,Same.refl _,ρ,er.mono s1,by simpa using e⟩,?_⟩
 rintro i m σ' H' ⟨rfl,hi,s2,ρ',er',e'⟩
 by_cases hlt:i<ds.length
 ·refine .inr ?_
  have hd:ds[i]?=some ds[i]:=by simp [hlt]
  obtain ⟨hgo,hy⟩:=y.1 i ds[i] H' (Kp.of s2) hd
  rw [List.drop_eq_getElem_cons hlt] at e'
  obtain ⟨ρ1,e2,e'⟩:=bindS e'
  obtain ⟨o1,e3,e'⟩:=bindS e'
  refine ⟨hgo,fun σ2 H2=>i+1<=ds.length/\Same H1 H2/\∃ ρ',EnvT X.K H2 ρ' τ σ2/\forD stf u (ds.drop (i+1)) ρ'=some o,fun σ2 H2 n2=>⟨ds.length - (i+1),by omega,rfl,n2.1,n2.2⟩,fun x H3 yx=>?_⟩
  obtain ⟨s3,rx⟩:=hy x H3 yx
  refine ⟨ρ',τ,ds[i],ρ1,er'.mono s3,rx,e2,fun σ4 H4 s4 er4=>⟨ρ1,τ,o1,er4,e3,fun H5 s5=>?_⟩⟩
  have s15:Same H1 H5:=s2.trans (s3.trans (s4.trans s5))
  cases o1 with
  | nx ρ2=>exact fun σ6 er6=>⟨hlt,s15,ρ2,er6,e'⟩
  | ct ρ2=>exact fun σ6 er6=>⟨hlt,s15,ρ2,er6,e'⟩
  | bk ρ2=>cases e';exact fun σ6 er6=>q H5 (s1.trans s15) σ6 er6
  | rt d=>cases e';exact q H5 (s1.trans s15)
 ·have e4:i=ds.length:=by omega
  subst e4
  rw [List.drop_length] at e'
  cases e'
  exact .inl ⟨y.2 _ H' (Kp.of s2) (Nat.le_refl _),q H' (s1.trans s2) σ' er'⟩
end
theorem beg_env {K:PySem.W.Frag} {H:Hp} {N:List Str} {ds:List D} {vs:List V} (r:Reps K H ds vs):EnvR K H (beg N.length ds) (L2.start N vs):=by
 unfold beg L2.start
 refine ⟨by simp [r.length],fun i d h=>?_⟩
 by_cases hi:i<ds.length
 ·rw [List.getElem?_append_left (by simpa using hi),List.getElem?_map] at h
  obtain ⟨d',e1,e⟩:=mapS h
  cases e
  obtain ⟨v,h1,h2⟩:=r.get e1
  exact ⟨v,by rw [List.getElem?_append_left (by rw [List.length_map,<- r.length];exact hi),List.getElem?_map,h1];rfl,h2⟩
 ·rw [List.getElem?_append_right (by simpa using hi),List.getElem?_replicate] at h
  split at h<;>cases h
theorem aD {P:Program} {w:World} {K:PySem.W.Frag} {mg:Str->Option Value} {base:Heap} {x qual:Str} {st:Stmt} {f:Addr} {fd:FuncData} {N ps:List Str} {k:Nat} {F:List D->Option D} {g:R->Option Out}
  (Fn:Fun K x qual st f fd) (S:FnScope N ps (defScope st)) (hlen:∀ ds d,F ds=some d->ds.length=ps.length)
  (hb:∀ (cdv:Value) (A:Around) (outer:List Env) (s:Shared) (H:Hp) (E:XK),Room k (A.deeper (envOfC qual (defScope st) s.heap.objs.size f cdv))->SS (cxOf CX0 P w K mg base N qual (defScope st) f cdv A outer s H E).nox (defBody st) g)
  (hF:∀ ds d,F ds=some d->retOf (g (beg N.length ds))=some d):FnOk P w K mg base CX0 (k+1) f fd ps (spD K F):=by
 refine Fn.ok S (fun vs H Q E h=>?_) (fun cdv A outer s H vs Q E hr h=>?_)
 ·obtain ⟨ds,d,r,e,_⟩:=h
  rw [<- r.length]
  exact hlen ds d e
 ·obtain ⟨ds,d,r,e,q⟩:=h
  refine ⟨_,hb cdv A outer s H E hr,?_⟩
  have z:=hF ds d e
  cases ho:g (beg N.length ds) with
  | none=>rw [ho] at z;cases z
  | some o =>
   rw [ho] at z
   refine ⟨beg N.length ds,_,o,(beg_env r).t,ho,fun H1 s1=>?_⟩
   cases o with
   | rt d'=>cases (show d'=d from Option.some.inj z);exact fun v rv=>q v H1 s1 rv
   | nx ρ=>cases (show D.non=d from Option.some.inj z);exact fun σ _=>q .non H1 s1 rfl
   | bk ρ=>cases z
   | ct ρ=>cases z
theorem aE {P:Program} {w:World} {K:PySem.W.Frag} {mg:Str->Option Value} {base:Heap} {x qual:Str} {st:Stmt} {f:Addr} {fd:FuncData} {ps:List Str} {k:Nat} {F:List D->Option D} (Fn:Fun K x qual st f fd) (hm:mg x=some (.ref f))
  (hb:Binds K fd ps []) (h:FnOk P w K mg base CX0 k f fd ps (spD K F)):Cal P w K mg base k x ps F:=⟨f,fd,h,hm,Fn.kp,hb⟩
end HW
namespace HW
open PySem PySem.Spec PyProof.Rows L2
section
variable {X:Cx}
theorem cat_tup0 {prog:Program} {w:World} {A:Around} {E:Value->Shared->Prop} {s:Shared} {t b:Addr} {ws:List Value} {Q:Value->Shared->Prop} (ht:IsTup s.heap t ([]:List Value).toArray) (hb:IsTup s.heap b ws.toArray)
  (h:Q (.ref b) s):wpAny (model prog w) A (binaryOp .Add (.ref t) (.ref b)) Q E s:=by
 obtain ⟨⟨cls,dd,data,sl⟩,ho,hc,n,hd⟩:=id ht
 obtain ⟨⟨cls2,dd2,data2,sl2⟩,ho2,hc2,n2,hd2⟩:=id hb
 simp only at hc hd hc2 hd2
 subst hc hd hc2 hd2
 exact concat_meets ⟨_,ho,rfl⟩ ⟨_,ho2,rfl⟩ noFill_tuple_add seq_tuple_add PySem.F.slot_tuple_add PySem.F.entry_tuple_add (PySem.F.args_tuple_add_2 _ _)
  (tuple_addW0 t b ([]:List Value).toArray ws.toArray n n2 dd dd2 sl sl2 (by simp)) ⟨ho,ho2,h⟩
theorem nI_of {K:PySem.W.Frag} {H:Hp} {d:D} {v:V} {i:Int} (e:nI d=some i) (r:Rep K H d v):v=.int i:=by
 cases d<;>cases e
 exact r
theorem tI_of {K:PySem.W.Frag} {H:Hp} {d:D} {v:V} {xs:List D} (e:tI d=some xs) (r:Rep K H d v):Rep K H (.tup xs) v:=by
 cases d<;>cases e
 exact r
theorem lI_of {K:PySem.W.Frag} {H:Hp} {d:D} {v:V} {xs:List D} (e:lI d=some xs) (r:Rep K H d v):Rep K H (.lst xs) v:=by
 cases d<;>cases e
 exact r
theorem sI_of {K:PySem.W.Frag} {H:Hp} {d:D} {v:V} {x:Str} (e:sI d=some x) (r:Rep K H d v):v=.str x:=by
 cases d<;>cases e
 exact r
theorem bO_of {K:PySem.W.Frag} {H:Hp} {d:D} {v:V} {x:Bool} (e:bO d=some x) (r:Rep K H d v):v=.bl x:=by
 cases d<;>cases e
 exact r
theorem iteS {α:Type} {p:Prop} [Decidable p] {x y:α} (h:(if p then some x else none)=some y):p/\x=y:=by
 split at h
 ·rename_i hp;exact ⟨hp,Option.some.inj h⟩
 ·cases h
theorem aG:OpD X (binaryOp .Add) dAdd:=by
 intro pins s σ H x y v u Q I rx ry h
 obtain ⟨dx,dy,d,r1,r2,e,q⟩:=h
 cases dx with
 | int i =>
  obtain ⟨j,e1,rfl⟩:=mapS e
  exact op_add pins s σ H x y v u Q I rx ry ⟨i,j,r1,nI_of e1 r2,q _ H (Same.refl H) rfl⟩
 | tup xs =>
  obtain ⟨ys,e1,e⟩:=bindS e
  obtain ⟨hz,rfl⟩:=iteS e
  obtain ⟨a,vs,rfl,hq,t⟩:=r1
  obtain ⟨b,us,rfl,hq2,t2⟩:=tI_of e1 r2
  cases vs with
  | nil =>
   cases rx
   cases ry
   obtain ⟨its,rr1,p1,_⟩:=I.tuple hq
   obtain ⟨its2,rr2,p2,_⟩:=I.tuple hq2
   cases rr1
   refine cat_tup0 p1 p2 ⟨.ref b,H,I,rfl,q _ H (Same.refl H) ⟨b,us,rfl,hq2,?_⟩⟩
   cases xs with
   | nil=>exact t2
   | cons x r=>obtain ⟨_,_,z,_⟩:=t;cases z
  | cons v0 vr =>
   refine op_catT pins s σ H _ _ v u Q I rx ry ⟨a,b,v0::vr,us,rfl,rfl,hq,hq2,by simp,by rw [<- t.length,<- t2.length];exact hz,fun z=>?_,fun z p hp=>?_⟩
   ·subst z
    refine q _ H (Same.refl H) ⟨a,v0::vr,rfl,hq,?_⟩
    have:ys=[]:=List.length_eq_zero_iff.mp t2.length
    subst this
    rw [List.append_nil]
    exact t
   ·have s2:=bm hp (.tup (v0::vr++us))
    exact q _ _ s2 ⟨p,_,rfl,SqT.of aC,(t.append t2).mono s2⟩
 | lst xs =>
  obtain ⟨ys,e1,e⟩:=bindS e
  obtain ⟨hz,rfl⟩:=iteS e
  obtain ⟨a,vs,rfl,hq,t⟩:=r1
  obtain ⟨b,us,rfl,hq2,t2⟩:=lI_of e1 r2
  refine op_cat pins s σ H _ _ v u Q I rx ry ⟨a,b,vs,us,rfl,rfl,hq,hq2,by rw [<- t.length,<- t2.length];exact hz,fun p hp=>?_⟩
  have s2:=bm hp (.lst (vs++us))
  exact q _ _ s2 ⟨p,_,rfl,aC,(t.append t2).mono s2⟩
 | str a =>
  obtain ⟨b,e1,e⟩:=bindS e
  obtain ⟨hz,rfl⟩:=iteS e
  exact op_add_str pins s σ H x y v u Q I rx ry ⟨a,b,r1,sI_of e1 r2,hz,q _ H (Same.refl H) rfl⟩
 | _=>cases e
theorem bJ:OpD X (binaryOp .Sub) dSub:=by
 intro pins s σ H x y v u Q I rx ry h
 obtain ⟨dx,dy,d,r1,r2,e,q⟩:=h
 obtain ⟨i,e1,e⟩:=bindS e
 obtain ⟨j,e2,rfl⟩:=mapS e
 exact op_sub pins s σ H x y v u Q I rx ry ⟨i,j,nI_of e1 r1,nI_of e2 r2,q _ H (Same.refl H) rfl⟩
theorem cj:OpD X (binaryOp .Mult) dMul:=by
 intro pins s σ H x y v u Q I rx ry h
 obtain ⟨dx,dy,d,r1,r2,e,q⟩:=h
 obtain ⟨i,e1,e⟩:=bindS e
 obtain ⟨j,e2,e⟩:=bindS e
 obtain ⟨hz,rfl⟩:=iteS e
 refine op_mul pins s σ H x y v u Q I rx ry ⟨i,j,nI_of e1 r1,nI_of e2 r2,?_,q _ H (Same.refl H) rfl⟩
 unfold mulFits at hz
 rw [Bool.or_eq_true,Bool.and_eq_true,Bool.and_eq_true] at hz
 exact hz.imp (fun z=>⟨of_decide_eq_true z.1,of_decide_eq_true z.2⟩) fun z=>⟨of_decide_eq_true z.1,of_decide_eq_true z.2⟩
theorem ba:OpD X (binaryOp .FloorDiv) dDiv:=by
 intro pins s σ H x y v u Q I rx ry h
 obtain ⟨dx,dy,d,r1,r2,e,q⟩:=h
 obtain ⟨i,e1,e⟩:=bindS e
 obtain ⟨j,e2,e⟩:=bindS e
 obtain ⟨hz,rfl⟩:=iteS e
 exact op_fdiv pins s σ H x y v u Q I rx ry ⟨i,j,nI_of e1 r1,nI_of e2 r2,hz,q _ H (Same.refl H) rfl⟩
theorem aB:OpD X (binaryOp .Mod) dMod:=by
 intro pins s σ H x y v u Q I rx ry h
 obtain ⟨dx,dy,d,r1,r2,e,q⟩:=h
 obtain ⟨i,e1,e⟩:=bindS e
 obtain ⟨j,e2,e⟩:=bindS e
 obtain ⟨hz,rfl⟩:=iteS e
 exact op_mod pins s σ H x y v u Q I rx ry ⟨i,j,nI_of e1 r1,nI_of e2 r2,hz,q _ H (Same.refl H) rfl⟩
theorem tB:UnD X (unaryOp .USub) dNeg:=by
 intro pins s σ H x v Q I rx h
 obtain ⟨dx,d,r1,e,q⟩:=h
 obtain ⟨i,e1,rfl⟩:=mapS e
 exact un_neg pins s σ H x v Q I rx ⟨i,nI_of e1 r1,q _ H (Same.refl H) rfl⟩
theorem cdI {op:CmpOp} {p:Int->Int->Bool} {F:D->D->Option Bool} (ho:OpR X (compareOp op) (rI0 fun i j=>.bl (p i j))) (hF:∀ x y,F x y=(nI x).bind fun i=>(nI y).map fun j=>p i j):CmD X op F:=by
 intro pins s σ H x y v u Q I rx ry h
 obtain ⟨dx,dy,b,r1,r2,e,q⟩:=h
 rw [hF] at e
 obtain ⟨i,e1,e⟩:=bindS e
 obtain ⟨j,e2,rfl⟩:=mapS e
 exact ho pins s σ H x y v u Q I rx ry ⟨i,j,nI_of e1 r1,nI_of e2 r2,q⟩
theorem pe:CmD X .Lt cLt:=cdI op_lt fun _ _=>rfl
theorem pc:CmD X .LtE cLe:=cdI op_le fun _ _=>rfl
theorem dX:CmD X .Gt cGt:=cdI op_gt fun _ _=>rfl
theorem uh:CmD X .GtE cGe:=cdI op_ge fun _ _=>rfl
theorem flat_rep {K:PySem.W.Frag} {H:Hp} {d:D} {v:V} (r:Rep K H d v) (f:flat d=true):flatV v=true:=by
 cases d<;>simp [flat] at f<;>(cases (show v=_ from r);rfl)
theorem eqF_rep {K:PySem.W.Frag} {H:Hp} {d e:D} {v u:V} (r:Rep K H d v) (r':Rep K H e u) (f:flat d=true) (f':flat e=true):eqV v u=eqF d e:=by
 cases d<;>simp [flat] at f<;>cases e<;>simp [flat] at f'<;>(cases (show v=_ from r);cases (show u=_ from r');rfl)
theorem flats_rep {K:PySem.W.Frag} {H:Hp}:∀ {ds:List D} {vs:List V},Reps K H ds vs->ds.all flat=true->vs.all flatV=true
 | [],_,h,_=>by cases (show _=[] from h);rfl
 | d::ds,_,h,f=>by
  obtain ⟨v,r,rfl,q,t⟩:=h
  rw [List.all_cons,Bool.and_eq_true] at f ⊢
  exact ⟨flat_rep q f.1,flats_rep t f.2⟩
theorem any_rep {K:PySem.W.Frag} {H:Hp} {x:D} {vx:V} (rx:Rep K H x vx) (fx:flat x=true):∀ {ds:List D} {vs:List V},Reps K H ds vs->ds.all flat=true->inV vx vs=ds.any fun y=>eqF y x
 | [],_,h,_=>by cases (show _=[] from h);rfl
 | d::ds,_,h,f=>by
  obtain ⟨v,r,rfl,q,t⟩:=h
  rw [List.all_cons,Bool.and_eq_true] at f
  have ih:=any_rep rx fx t f.2
  unfold inV at ih ⊢
  rw [List.any_cons,List.any_cons,eqF_rep q rx f.1 fx,ih]
theorem items_rep {K:PySem.W.Frag} {H:Hp} {d:D} {v:V} {ys:List D} (r:Rep K H d v) (e:itemsD d=some ys):∃ p xs,v=.ref p/\(SqL K H p xs\/SqT K H p xs)/\Reps K H ys xs:=by
 cases d with
 | tup ds=>cases e;obtain ⟨a,xs,rfl,q,t⟩:=r;exact ⟨a,xs,rfl,.inr q,t⟩
 | lst ds=>cases e;obtain ⟨a,xs,rfl,q,t⟩:=r;exact ⟨a,xs,rfl,.inl (SqL.of q),t⟩
 | fro ds=>cases e;obtain ⟨a,xs,rfl,q,t⟩:=r;exact ⟨a,xs,rfl,.inl q,t⟩
 | _=>cases e
theorem s_:CmD X .In cIn:=by
 intro pins s σ H x y v u Q I rx ry h
 obtain ⟨dx,dy,b,r1,r2,e,q⟩:=h
 obtain ⟨ys,e1,e⟩:=bindS e
 obtain ⟨p,xs,rfl,hq,t⟩:=items_rep r2 e1
 split at e
 ·rename_i hf
  rw [Bool.and_eq_true] at hf
  cases e
  refine op_in_seq pins s σ H x _ v u Q I rx ry ⟨p,xs,rfl,hq,flat_rep r1 hf.1,flats_rep t hf.2,?_⟩
  rw [any_rep r1 hf.1 t hf.2]
  exact q
 ·cases e
theorem nonD_rep {K:PySem.W.Frag} {H:Hp} {d:D} {v:V} (r:Rep K H d v):nonD d=decide (v=.non):=by
 cases d with
 | tup c=>obtain ⟨_,_,rfl,_⟩:=r;rfl
 | lst c=>obtain ⟨_,_,rfl,_⟩:=r;rfl
 | fro c=>obtain ⟨_,_,rfl,_⟩:=r;rfl
 | obj k a ks ds=>obtain ⟨_,rfl,_⟩:=r;rfl
 | _=>cases (show v=_ from r);rfl
theorem nonD_eq {K:PySem.W.Frag} {H:Hp} {d:D} {v:V} (r:Rep K H d v) (h:nonD d=true):v=.non:=by
 rw [nonD_rep r] at h
 exact of_decide_eq_true h
theorem fK:CmD X .Is cIsN:=by
 intro pins s σ H x y v u Q I rx ry h
 obtain ⟨dx,dy,b,r1,r2,e,q⟩:=h
 obtain ⟨h1,rfl⟩:=iteS e
 exact op_isN pins s σ H x y v u Q I rx ry ⟨nonD_eq r2 h1,by rw [<- nonD_rep r1];exact q⟩
theorem cq:CmD X .IsNot cNotN:=by
 intro pins s σ H x y v u Q I rx ry h
 obtain ⟨dx,dy,b,r1,r2,e,q⟩:=h
 obtain ⟨k,e2,rfl⟩:=mapS e
 obtain ⟨h1,rfl⟩:=iteS e2
 exact op_notN pins s σ H x y v u Q I rx ry ⟨nonD_eq r2 h1,by rw [<- nonD_rep r1];exact q⟩
theorem ib:CaD X (.builtin "len") fLen:=call_len_seq.imp fun xs H Q ⟨ds,d,r,e,q⟩=>by
 match ds,e with
 | [x],e =>
  obtain ⟨ys,e1,e2⟩:=mapS e
  subst e2
  obtain ⟨v,r',rfl,r1,r2⟩:=r
  cases (show r'=[] from r2)
  obtain ⟨p,vs,rfl,hq,t⟩:=items_rep r1 e1
  exact ⟨p,vs,rfl,hq,q _ H (Same.refl H) (by show V.int _=V.int _;rw [t.length])⟩
theorem jn:CaD X (.type "tuple") fTuple:=call_tuple_of.imp fun xs H Q ⟨ds,d,r,e,q⟩=>by
 match ds,e with
 | [.tup ys],e =>
  cases e
  obtain ⟨v,r',rfl,⟨a,vs,rfl,hq,t⟩,r2⟩:=r
  cases (show r'=[] from r2)
  exact ⟨a,vs,rfl,.inr ⟨hq,q _ H (Same.refl H) ⟨a,vs,rfl,hq,t⟩⟩⟩
 | [.lst ys],e =>
  cases e
  obtain ⟨v,r',rfl,⟨a,vs,rfl,hq,t⟩,r2⟩:=r
  cases (show r'=[] from r2)
  exact ⟨a,vs,rfl,.inl ⟨SqL.of hq,fun l hl=>q _ _ (bm hl _) ⟨l,vs,rfl,SqT.of aC,t.mono (bm hl _)⟩⟩⟩
theorem bools_rep {K:PySem.W.Frag} {H:Hp}:∀ {ds:List D} {bs:List Bool} {vs:List V} {us:List Value},bools ds=some bs->Reps K H ds vs->Vals vs us->us=bs.map .bool
 | [],_,_,_,e,h,r=>by
  cases e
  cases (show _=[] from h)
  cases r
  rfl
 | d::ds,_,_,_,e,h,r=>by
  cases d with
  | bl b =>
   obtain ⟨bs',e1,e2⟩:=mapS e
   subst e2
   obtain ⟨v,vr,rfl,r1,r2⟩:=h
   cases (show v=_ from r1)
   cases r with
   | cons q t =>
    cases q
    rw [bools_rep e1 r2 t]
    rfl
  | _=>cases e
theorem ua (hc:X.calm=true):CaD X (.builtin "all") fAll:=by
 intro pins s σ H xs us Q I r h
 obtain ⟨ds,d,rs,e,q⟩:=h
 match ds,e with
 | [.lst ys],e =>
  obtain ⟨bs,e1,e2⟩:=mapS e
  subst e2
  obtain ⟨v,r',rfl,⟨a,vs,rfl,hq,t⟩,r2⟩:=rs
  cases (show r'=[] from r2)
  obtain ⟨u,rfl,ru⟩:=vals1 r
  cases ru
  obtain ⟨z,its,n,rv,hl,eo⟩:=I.lstM hq
  have hits:=bools_rep e1 t rv
  have hlist:s.heap.IsList a its.toArray:=⟨_,eo,rfl,n,rfl⟩
  have hlt:a<s.heap.objs.size:=Heap.lt_size eo
  refine call_all_walk (wpAny_pyIter_list hlist ?_)
  refine ⟨s.heap.objs.size,[s.heap.objs.size,a],[s.heap.objs.size],its.toArray.size,_,_,fun i=>(bs[i]?).getD true,rfl,Walks.list (A:=X.A.in1) (I.ok.hd hc) _ a (Nat.ne_of_lt hlt) its.toArray,
   ⟨⟨_,Heap.get?_push_size _ rfl,rfl,rfl⟩,hlist.push _⟩,fun i v s' Q' E' hP hQ=>?_,fun h' tk hk=>?_⟩
  ·have hv:its[i]?=some v:=by simpa using hP
   rw [hits,List.getElem?_map] at hv
   obtain ⟨b,eb,ev⟩:=mapS hv
   subst ev
   simp only [eb,Option.getD_some] at hQ
   exact wpAny_truthy_bool hQ
  ·have e3:((List.range its.toArray.size).all fun i=>(bs[i]?).getD true)=bs.all id:=by
    rw [List.size_toArray,hits,List.length_map]
    exact LSm.range_all bs
   rw [e3]
   refine ⟨.bl (bs.all id),H,I.kept (t':=tk) fun b o eb=>hk b o ?_ (Heap.get?_push_of_some _ eb),rfl,q _ H (Same.refl H) rfl⟩
   intro hm
   rw [List.mem_singleton.mp hm] at eb
   exact Nat.lt_irrefl _ (Heap.lt_size eb)
theorem isi_ok {pins:List (Addr×Obj)} {σ:L2.St} {H:Hp} {s:Shared} {Q:Value->Shared->Prop} {E:Value->Shared->Prop} {d:D} {x:V} {u:Value} {n:String} (I:L2.Inv X pins σ H s) (rx:RelV x u) (r:Rep X.K H d x) (ho:isOb d=false)
  (e:PySem.W.kitOne X.K (.type (tyOf d)) (.type n)=some (isI d n)) (h:∀ tk,Q (.bool (isI d n)) {s with toks:=tk}):wpAny (model X.prog X.w) X.A (call (.builtin "isinstance") [u,.type n]) Q E s:=by
 cases d with
 | non=>cases (show x=_ from r);cases rx;exact PySem.W.kia_one PySem.W.kitx_none I.kIn True.intro e (fun z=>nomatch z) h
 | bl y=>cases (show x=_ from r);cases rx;exact PySem.W.kia_one PySem.W.kitx_bool I.kIn True.intro e (fun z=>nomatch z) h
 | int i=>cases (show x=_ from r);obtain ⟨t,rfl⟩:=rx;exact PySem.W.kia_one PySem.W.kitx_int I.kIn True.intro e (fun z=>nomatch z) h
 | str y=>cases (show x=_ from r);obtain ⟨t,rfl⟩:=rx;exact PySem.W.kia_one PySem.W.kitx_str I.kIn True.intro e (fun z=>nomatch z) h
 | tup ds =>
  obtain ⟨a,vs,rfl,hq,t⟩:=r
  cases rx
  obtain ⟨its,_,⟨o,h1,h2,_⟩,_⟩:=I.tuple hq
  exact PySem.W.kia_one PySem.W.kitx_tuple I.kIn ⟨o,h1,h2⟩ e (fun z=>nomatch z) h
 | lst ds =>
  obtain ⟨a,vs,rfl,hq,t⟩:=r
  cases rx
  obtain ⟨_,_,n,_,_,h1⟩:=I.lstM hq
  exact PySem.W.kia_one PySem.W.kitx_list I.kIn ⟨_,h1,rfl⟩ e (fun z=>nomatch z) h
 | fro ds =>
  obtain ⟨a,vs,rfl,hq,t⟩:=r
  cases rx
  obtain ⟨its,_,⟨o,n,h1,h2,h3,h4⟩,_⟩:=I.list hq
  exact PySem.W.kia_one PySem.W.kitx_list I.kIn ⟨o,h1,h2⟩ e (fun z=>nomatch z) h
 | obj k a ks ds=>cases ho
def kitOk (K:PySem.W.Frag) (n:String):Prop:=∀ d:D,isOb d=false->PySem.W.kitOne K (.type (tyOf d)) (.type n)=some (isI d n)
theorem kit_int (K:PySem.W.Frag):kitOk K "int":=fun d h=>by cases d<;>first | rfl | cases h
theorem kit_bool (K:PySem.W.Frag):kitOk K "bool":=fun d h=>by cases d<;>first | rfl | cases h
theorem kit_str (K:PySem.W.Frag):kitOk K "str":=fun d h=>by cases d<;>first | rfl | cases h
theorem kit_tuple (K:PySem.W.Frag):kitOk K "tuple":=fun d h=>by cases d<;>first | rfl | cases h
theorem kit_list (K:PySem.W.Frag):kitOk K "list":=fun d h=>by cases d<;>first | rfl | cases h
theorem isi_call {n:String} (hk:kitOk X.K n):CallR X (.builtin "isinstance") (fun xs H Q=>∃ d x,xs=[x,.ty n]/\Rep X.K H d x/\isOb d=false/\Q (.bl (isI d n)) H):=by
 intro pins s σ H xs us Q I r h
 obtain ⟨d,x,rfl,rd,ho,q⟩:=h
 obtain ⟨u,w',rfl,ru,rw'⟩:=vals2 r
 cases rw'
 exact isi_ok I ru rd ho (hk d ho) fun tk=>⟨.bl (isI d n),H,I.tok tk,rfl,q⟩
theorem du {n:String} {x:Str} {a:Expr} {f:R->Option D} {p p2 pos:Pos} (hm:X.mg "isinstance" = none) (hmT:X.mg x=none) (ha:SE X a f) (hk:kitOk X.K n:=by first | exact kit_int _ | exact kit_bool _ | exact kit_str _ | exact kit_tuple _ | exact kit_list _) (hv:bootBuiltins x=some (.type n):=by kernel_rfl)
  (hg:Gl X "isinstance":=by rfl) (hgT:Gl X x:=by rfl) (hn:x ≠ "__name__":=by decide) (hd:(x==("__debug__" : Str))=false:=by decide)
  (hst:noStar a=true:=by rfl) (hv2:bootBuiltins "isinstance" = some (.builtin "isinstance"):=by kernel_rfl) :
  SE X (.Call (.Name "isinstance" p) [a,.Name x p2] [] pos) (isD n f) :=
 (lL (isi_call hk) hg hm hv2 (iP ha (iP (sw (v:=.ty n) hgT hmT hv rfl hn hd) pa_nil) (aX [.Name x p2] X.env hst)) (by decide) (by decide) (aX [.Name x p2] X.env hst) rfl).imp fun σ H Q ⟨ρ,d,er,e,q⟩=>by
  obtain ⟨y,e1,e2⟩:=bindS e
  split at e2
  ·cases e2
  ·rename_i ho
   cases e2
   exact ⟨ρ,y,er,e1,fun v H1 s1 r1=>⟨y,v,rfl,r1,by simpa using ho,q _ H1 s1 rfl⟩⟩
theorem bM {k:Nat} (hr:Room k X.A):CmD X .Eq cEq:=by
 intro pins s σ H x y v u Q I rx ry h
 obtain ⟨dx,dy,b,r1,r2,e,q⟩:=h
 have sc:scal x y=true->decide (x=y)=b->wpAny (model X.prog X.w) X.A (compareOp .Eq v u) (EP X pins σ Q) X.xe s:=fun z1 z2=>op_eq pins s σ H x y v u Q I rx ry ⟨z1,by rw [z2];exact q⟩
 cases dx with
 | int i=>obtain ⟨j,e1,e⟩:=mapS e;cases (show x=_ from r1);cases nI_of e1 r2;exact sc rfl (dec_int.trans e)
 | str i=>obtain ⟨j,e1,e⟩:=mapS e;cases (show x=_ from r1);cases sI_of e1 r2;exact sc rfl (dec_str.trans e)
 | bl i=>obtain ⟨j,e1,e⟩:=mapS e;cases (show x=_ from r1);cases bO_of e1 r2;exact sc rfl (dec_bl.trans e)
 | _=>cases e
theorem oM {k:Nat} (hr:Room k X.A):CmD X .NotEq cNe:=by
 intro pins s σ H x y v u Q I rx ry h
 obtain ⟨dx,dy,b,r1,r2,e0,q⟩:=h
 obtain ⟨c,e,rfl⟩:=mapS e0
 clear e0
 have sc:scal x y=true->decide (x=y)=c->wpAny (model X.prog X.w) X.A (compareOp .NotEq v u) (EP X pins σ Q) X.xe s:=fun z1 z2=>op_ne pins s σ H x y v u Q I rx ry ⟨z1,by rw [z2];exact q⟩
 cases dx with
 | int i=>obtain ⟨j,e1,e⟩:=mapS e;cases (show x=_ from r1);cases nI_of e1 r2;exact sc rfl (dec_int.trans e)
 | str i=>obtain ⟨j,e1,e⟩:=mapS e;cases (show x=_ from r1);cases sI_of e1 r2;exact sc rfl (dec_str.trans e)
 | bl i=>obtain ⟨j,e1,e⟩:=mapS e;cases (show x=_ from r1);cases bO_of e1 r2;exact sc rfl (dec_bl.trans e)
 | _=>cases e
variable {a:Expr} {f:R->Option D} {pos p2:Pos} {lo hi:Option Expr} {l h:R->Option (Option Int)}
theorem lc:SO X none noP:=po_none.imp fun σ H Q ⟨ρ,o,er,e,q⟩=>by
 cases e
 exact q H (Same.refl H)
theorem gA (ha:SE X a f):SO X (some a) (aP f):=(po_some ha).imp fun σ H Q ⟨ρ,o,er,e,q⟩=>by
 obtain ⟨x,e1,e2⟩:=bindS e
 refine ⟨ρ,x,er,e1,fun v H1 s1 r1=>?_⟩
 cases x with
 | int i=>cases e2;exact ⟨i,r1,q H1 s1⟩
 | _=>cases e2
theorem cutP_eq (n d:Nat) (o:Option Int):cutP n d o=HT.sIx n d o:=rfl
theorem getItem_whole {prog:Program} {w:World} {A:Around} {E:Value->Shared->Prop} {s:Shared} {t sl:Addr} {items:Array Value} {vl vu:Value} {lo hi:Option Int} {Q:Value->Shared->Prop} (ht:IsTup s.heap t items) (hs:s.heap.IsSliceOf sl vl vu .none) (pl:IsPart vl lo) (pu:IsPart vu hi)
  (hw:HT.sIx items.size 0 lo=0/\HT.sIx items.size items.size hi=items.size) (h:Q (.ref t) s):wpAny (model prog w) A (getItem (.ref t) (.ref sl)) Q E s:=by
 obtain ⟨os,hos,hcs,hds⟩:=id hs
 have hTs:s.TypeIs (.ref sl) "slice":=⟨os,hos,hcs⟩
 unfold getItem
 try with_reducible refine wpAny_holding ?_
 first | refine wpAny_bind (wpAny_pure ?_) | skip
 refine wpAny_bind (wpAny_sequenceKey ht.typeIs (by decide) ?_)
 refine wpAny_bind (wpAny_callSpecial?_slot (name:=Str.ofString "__getitem__") ht.typeIs PyProof.Rows.slot_tuple_getitem
  (wpAny_call_entry PyProof.Rows.slot_tuple_getitem ht.typeIs entry_tuple_getitem ?_ (args_tuple_getitem _ _)))
 show wpAny _ _ (Builtin.Tuple.tupleItemsOf (.ref t) >>= _) _ _ s
 refine wpAny_bind (tupleItemsOf_ ht ?_)
 refine wpAny_bind (wpAny_typeOf hTs ?_)
 rw [if_pos (by decide)]
 refine wpAny_bind (HT.sliceApplied_gen hs pl pu ?_)
 have hyes:((((HT.sIx items.size 0 lo:Nat):Int)==0&&(1:Int)==1&&(HT.sIx items.size items.size hi - HT.sIx items.size 0 lo)==items.size)=true):=by
  rw [hw.1,hw.2];simp
 show wpAny _ _ (if (((HT.sIx items.size 0 lo:Nat):Int)==0&&(1:Int)==1&&(HT.sIx items.size items.size hi - HT.sIx items.size 0 lo)==items.size)=true then _ else _) _ _ s
 rw [if_pos hyes]
 refine wpAny_bind (m:=Builtin.Tuple.tupleIsExact _) (wpAny_bind (wpAny_typeOf ht.typeIs (wpAny_pure ?_)))
 rw [if_pos (by decide)]
 exact wpAny_bind (wpAny_rule (wpAny_pure ⟨_,rfl,wpAny_pure h⟩))
theorem cutV_whole {xs:List V} {lo hi:Option Int} (h:HT.sIx xs.length 0 lo=0/\HT.sIx xs.length xs.length hi=xs.length):cutV xs lo hi=xs:=by
 unfold cutV
 rw [h.1,h.2,List.drop_zero,Nat.sub_zero,List.take_length]
def rSlA (K:PySem.W.Frag):V->Option Int->Option Int->Hp->VK->Prop:=fun x lo hi H Q=>∃ a xs,x=.ref a/\SqT K H a xs/\∀ p H',Same H H'->SqT K H' p (cutV xs lo hi)->Q (.ref p) H'
theorem sl_all:SlR X (rSlA X.K):=by
 intro pins s σ H x v vl vu lo hi sl Q I rx hs pl pu h
 obtain ⟨a,xs,rfl,hx,q⟩:=h
 by_cases hw:HT.sIx xs.length 0 lo=0/\HT.sIx xs.length xs.length hi=xs.length
 ·cases rx
  obtain ⟨its,r,ht,hz⟩:=I.tuple hx
  have hlen:its.toArray.size=xs.length:=by rw [List.size_toArray];exact r.length.symm
  refine ⟨"tuple",_,PyProof.Rows.slot_tuple_getitem.lookup,ht.typeIs,?_⟩
  exact getItem_whole ht hs pl pu (by rw [hlen];exact hw) ⟨.ref a,H,I,rfl,q a H (Same.refl H) (by rw [cutV_whole hw];exact hx)⟩
 ·exact sl_tup pins s σ H (.ref a) v vl vu lo hi sl Q I rx hs pl pu ⟨a,xs,rfl,hx,hw,fun p hp=>q p _ (bm hp _) (SqT.of aC)⟩
theorem oQ {K:PySem.W.Frag} {H:Hp} {ds:List D} {xs:List V} (t:Reps K H ds xs) (lo hi:Option Int):Reps K H (cutD ds lo hi) (cutV xs lo hi):=by
 unfold cutD cutV
 rw [t.length,cutP_eq,cutP_eq]
 exact (t.drop _).take _
theorem gf (ha:SE X a f) (hl:SO X lo l) (hh:SO X hi h):SE X (.Subscript a (.Slice lo hi none p2) pos) (slD f l h):=(rA (sl_all.or sl_list) ha hl hh).imp fun σ H Q ⟨ρ,d,er,e,q⟩=>by
 obtain ⟨x,e1,e⟩:=bindS e
 obtain ⟨o1,e2,e⟩:=bindS e
 obtain ⟨o2,e3,e⟩:=bindS e
 refine ⟨ρ,x,er,e1,fun v H1 s1 r1=>⟨ρ,o1,er.mono s1,e2,fun H2 s2=>⟨ρ,o2,er.mono (s1.trans s2),e3,fun H3 s3=>?_⟩⟩⟩
 cases x with
 | tup xs =>
  cases e
  obtain ⟨a,vs,rfl,hq,t⟩:=(r1.mono (s2.trans s3))
  exact .inl ⟨a,vs,rfl,hq,fun p H4 s4 sq=>q _ H4 (s1.trans (s2.trans (s3.trans s4))) ⟨p,_,rfl,sq,(oQ t o1 o2).mono s4⟩⟩
 | lst xs =>
  cases e
  obtain ⟨a,vs,rfl,hq,t⟩:=(r1.mono (s2.trans s3))
  refine .inr ⟨a,vs,rfl,SqL.of hq,fun p hp=>?_⟩
  have s4:=bm hp (.lst (cutV vs o1 o2))
  exact q _ _ (s1.trans (s2.trans (s3.trans s4))) ⟨p,_,rfl,aC,(oQ t o1 o2).mono s4⟩
 | _=>cases e
end
end HW
set_option maxHeartbeats 2000000
namespace HW
open PySem PySem.Spec PyProof.Rows L2
def clOf (names:List (Str×NameKind)) (cells:List (Str×Addr)) (acc:List (Str×Addr)):List (Str×Addr) :=
 match names with
 | []=>acc
 | (n,k)::r=>clOf r cells (if k==.free then (match cells.lookup n with | some c=>(n,c)::acc | none=>acc) else acc)
theorem closure_go {env:Env}:∀ (names:List (Str×NameKind)) (acc:List (Str×Addr)),(∀ p∈names,p.2=.free->∃ c,env.cells.lookup p.1=some c) ->
    (forIn names acc fun x r=>(match x with
      | (name,kind)=>if (kind==NameKind.free)=true then do
          let c <- cellOf env name
          pure (ForInStep.yield ((name,c)::r))
        else pure (ForInStep.yield r):Sem (ForInStep (List (Str×Addr)))))=(pure (clOf names env.cells acc):Sem (List (Str×Addr)))
  | [],acc,_=>rfl
  | (n,k)::r,acc,h=>by
    rw [List.forIn_cons]
    cases hk:(k==NameKind.free) with
    | false =>
      have ih:=closure_go r acc fun p hp=>h p (List.mem_cons_of_mem _ hp)
      simp only [hk,clOf,Bool.false_eq_true,if_false]
      exact ih
    | true =>
      obtain ⟨c,hc⟩:=h (n,k) List.mem_cons_self (by simpa using hk)
      have ih:=closure_go r ((n,c)::acc) fun p hp=>h p (List.mem_cons_of_mem _ hp)
      have hcell:cellOf env n=pure c:=by unfold cellOf;rw [show env.cells.lookup n=some c from hc]
      simp only [hk,clOf,if_true,hcell,show env.cells.lookup n=some c from hc]
      exact ih
theorem closure_eq {scope:Scope} {env:Env} (h:∀ p∈scope.names,p.2=.free->∃ c,env.cells.lookup p.1=some c):closureFor scope env=pure (clOf scope.names env.cells []):=by
 unfold closureFor
 have:=closure_go scope.names [] h
 simp only [bind_pure]
 exact this
theorem lookup_ite {β:Type} {y n:Str} {c:β} {l:List (Str×β)}:List.lookup y ((n,c)::l)=if y=n then some c else List.lookup y l:=by
 rw [List.lookup_cons]
 by_cases h:y=n
 ·subst h;simp
 ·have:(y==n)=false:=by simpa using h
  rw [this,if_neg h]
theorem clOf_ok {cells:List (Str×Addr)}:∀ (names:List (Str×NameKind)) (acc:List (Str×Addr)),(∀ y c,acc.lookup y=some c->cells.lookup y=some c)->∀ y c,(clOf names cells acc).lookup y=some c->cells.lookup y=some c
 | [],acc,h=>h
 | (n,k)::r,acc,h=>by
  unfold clOf
  refine clOf_ok r _ ?_
  split
  ·cases hc:cells.lookup n with
   | none=>exact h
   | some c0 =>
    intro y c hy
    rw [lookup_ite] at hy
    split at hy
    ·rename_i e
     subst e
     cases hy
     exact hc
    ·exact h y c hy
  ·exact h
theorem clOf_keep {cells:List (Str×Addr)} {y:Str}:∀ (names:List (Str×NameKind)) (acc:List (Str×Addr)),(acc.lookup y).isSome=true->((clOf names cells acc).lookup y).isSome=true
 | [],acc,h=>h
 | (n,k)::r,acc,h=>by
  unfold clOf
  refine clOf_keep r _ ?_
  split
  ·cases hc:cells.lookup n with
   | none=>exact h
   | some c0 =>
    dsimp only
    rw [lookup_ite]
    split
    ·rfl
    ·exact h
  ·exact h
theorem clOf_has {cells:List (Str×Addr)} {y:Str} {c:Addr} (hc:cells.lookup y=some c):∀ (names:List (Str×NameKind)) (acc:List (Str×Addr)),(y,NameKind.free)∈names->((clOf names cells acc).lookup y).isSome=true
 | (n,k)::r,acc,h=>by
  unfold clOf
  rcases List.mem_cons.mp h with e | h
  ·cases e
   refine clOf_keep r _ ?_
   rw [if_pos (show (NameKind.free==NameKind.free)=true by decide),hc]
   dsimp only
   rw [lookup_ite,if_pos rfl]
   rfl
  ·exact clOf_has hc r _ h
theorem clOf_at {cells:List (Str×Addr)} {names:List (Str×NameKind)} {y:Str} {c:Addr} (hc:cells.lookup y=some c) (h:(y,NameKind.free)∈names):(clOf names cells []).lookup y=some c:=by
 obtain ⟨c',e⟩:=Option.isSome_iff_exists.mp (clOf_has hc names [] h)
 have:=clOf_ok names [] (fun y c h=>by cases h) y c' e
 rw [hc] at this
 cases this
 exact e
theorem relabel_at {env:Env} {y:Str}:∀ (names:List (Str×NameKind)),(names.map fun (n,k)=>if (k==NameKind.free&&env.scope.kind==.function&&env.kindOf n==some .cell) then (n,NameKind.cell) else (n,k)).lookup y =
  (names.lookup y).map fun k=>if (k==NameKind.free&&env.scope.kind==.function&&env.kindOf y==some .cell) then NameKind.cell else k
 | []=>rfl
 | (n,k)::r=>by
  have hd:∀ (c:Bool),(if c=true then (n,NameKind.cell) else (n,k))=(n,if c=true then NameKind.cell else k):=fun c=>by cases c<;>rfl
  rw [List.map_cons]
  show List.lookup y ((if (k==NameKind.free&&env.scope.kind==.function&&env.kindOf n==some .cell)=true then (n,NameKind.cell) else (n,k))::_)=_
  rw [hd,lookup_ite,lookup_ite]
  by_cases e:y=n
  ·subst e
   rw [if_pos rfl,if_pos rfl]
   rfl
  ·rw [if_neg e,if_neg e]
   exact relabel_at r
def compChk (sc outer:Scope) (T N:List Str):Bool :=
 sc.kind==.function&&(sc.names.all fun p=>p.2 != .cell&&(p.2 != .local||(sc.names.lookup p.1==some .local&&(T.contains p.1||p.1==(".0" : Str))))&&(p.2 != .free||outer.names.lookup p.1==some .cell||outer.names.lookup p.1==some .free)) &&
  (T.all fun t=>sc.names.lookup t==some .local)&&!N.contains (".0" : Str)
structure CompOk (sc outer:Scope) (T N:List Str):Prop where
 kind:sc.kind=.function
 nocell:∀ y∈sc.names,y.2≠.cell
 names:∀ y∈sc.names,y.2=.local->sc.names.lookup y.1=some .local
 loc:∀ y,sc.names.lookup y=some .local->y∈T\/y=(".0" : Str)
 free:∀ y∈sc.names,y.2=.free->outer.names.lookup y.1=some .cell\/outer.names.lookup y.1=some .free
 tg:∀ t∈T,sc.names.lookup t=some .local
 no0:(".0" : Str)∉N
theorem compOk_of {sc outer:Scope} {T N:List Str} (h:compChk sc outer T N=true):CompOk sc outer T N:=by
 unfold compChk at h
 rw [Bool.and_eq_true,Bool.and_eq_true,Bool.and_eq_true] at h
 obtain ⟨⟨⟨h1,h2⟩,h3⟩,h4⟩:=h
 rw [List.all_eq_true] at h2 h3
 have g:∀ y∈sc.names,y.2≠.cell/\(y.2=.local->sc.names.lookup y.1=some .local/\(y.1∈T\/y.1=(".0" : Str)))/\(y.2=.free->outer.names.lookup y.1=some .cell\/outer.names.lookup y.1=some .free):=fun y hy=>by
  have q:=h2 y hy
  rw [Bool.and_eq_true,Bool.and_eq_true] at q
  obtain ⟨⟨q1,q2⟩,q3⟩:=q
  refine ⟨by simpa using q1,fun hl=>?_,fun hf=>?_⟩
  ·rw [hl] at q2
   simpa using q2
  ·rw [hf] at q3
   simpa using q3
 refine ⟨by simpa using h1,fun y hy=>(g y hy).1,fun y hy hl=>((g y hy).2.1 hl).1,fun y hy=>?_,fun y hy hf=>(g y hy).2.2 hf,fun t ht=>by simpa using h3 t ht,by simpa using h4⟩
 exact ((g (y,.local) (PySem.mem_of_lookup hy)).2.1 rfl).2
def cxC (X:Cx) (T:List Str) (scope:Scope) (C:Addr) (fp:List Addr) (s₃:Shared) (H₃:Hp):Cx where
 prog:=X.prog
 w:=X.w
 K:=X.K
 mg:=X.mg
 base:=X.base
 A:=X.A
 N:=T++X.N
 s₀:=s₃
 H₀:=H₃
 env:=compEnvC scope (clOf scope.names X.env.cells []) C X.env
 outer:=X.stack
 stack:=X.stack
 ex:=fp
 fn:=fun _=>false
 calm:=X.calm
 pn:=[]
 xe:=fun _ _=>False
section
variable {X:Cx} {pins:List (Addr×Obj)} {σ:L2.St} {H:Hp} {s:Shared} {T:List Str} {scope:Scope} {C:Addr} {fp:List Addr} {h₁:Heap} {t:Nat}
theorem inv_comp (I:L2.Inv X pins σ H s) (ck:CompOk scope X.env.scope T X.N) (hnd:(T++X.N).Nodup) (hf:∀ b∈fp,FpOk X pins H b) (hfo:∀ b∈fp,∃ o,s.heap.get? b=some o) (hC:s.heap.objs.size<=C)
  (hk:∀ b u,s.heap.get? b=some u->h₁.get? b=some u) (hns:h₁.Ns C (fun _=>none)) :
  L2.Inv (cxC X T scope C fp s H) [] (List.replicate T.length none++σ) H {s with heap:=h₁,toks:=t}:=by
 have hlt:∀ b∈fp,b<s.heap.objs.size:=fun b hb=>let ⟨o,e⟩:=hfo b hb;Heap.lt_size e
 have hcl:∀ y c,(clOf scope.names X.env.cells []).lookup y=some c->X.env.cells.lookup y=some c:=clOf_ok scope.names [] fun y c h=>by cases h
 have hfr:∀ y,(y,NameKind.free)∈scope.names->(X.env.kindOf y=some .cell\/X.env.kindOf y=some .free)/\∃ c,(clOf scope.names X.env.cells []).lookup y=some c/\X.env.cells.lookup y=some c:=fun y hy=>by
  have k:=ck.free _ hy rfl
  obtain ⟨c,hc⟩:=I.ok.has y k
  exact ⟨k,c,clOf_at hc hy,hc⟩
 have hkind:∀ y,(compEnvC scope (clOf scope.names X.env.cells []) C X.env).kindOf y=(scope.names.lookup y).map fun k=>if (k==NameKind.free&&X.env.scope.kind==.function&&X.env.kindOf y==some .cell) then NameKind.cell else k:=fun y=>relabel_at scope.names
 have hvis:∀ y,((compEnvC scope (clOf scope.names X.env.cells []) C X.env).kindOf y=some .cell\/(compEnvC scope (clOf scope.names X.env.cells []) C X.env).kindOf y=some .free)->(y,NameKind.free)∈scope.names:=fun y hy=>by
  rw [hkind] at hy
  cases hl:scope.names.lookup y with
  | none=>rw [hl] at hy;rcases hy with z | z<;>cases z
  | some k =>
   have hm:=PySem.mem_of_lookup hl
   rw [hl] at hy
   cases k with
   | free=>exact hm
   | cell=>exact absurd rfl (ck.nocell _ hm)
   | «local»=>rcases hy with z | z<;>cases z
   | globalExplicit=>rcases hy with z | z<;>cases z
   | globalImplicit=>rcases hy with z | z<;>cases z
 refine ⟨⟨I.ok.mod,ck.kind,I.ok.glob,I.ok.blt,hC,fun x y c h1 h2=>I.ok.inj x y c (hcl x c h1) (hcl y c h2),fun y hy=>?_,fun y c h=>absurd (show false=true from h) Bool.false_ne_true,I.ok.hd,I.ok.frames,.inl rfl,fun b hb=>⟨?_,fun x c h=>?_⟩,I.bs,
  Nat.le_trans I.ok.bsz I.sz,fun b o e hb=>?_,fun b hb hz=>?_,I.stack,I.stkFree⟩,rfl,I.bare,Un.kept hk,⟨_,hns,fun i x v h1 h2 h3=>?_⟩,fun y c h=>?_,I.hok.fresh hC,fun y c h=>I.freeC y c (hcl y c h),fun p hp=>absurd (show p∈([]:List (Addr×Obj)) from hp) (by simp),I.hok.kept hk,?_⟩
 ·obtain ⟨_,c,h1,_⟩:=hfr y (hvis y hy)
  exact ⟨c,h1⟩
 ·exact Nat.ne_of_lt (Nat.lt_of_lt_of_le (hlt b hb) hC)
 ·exact (hf b hb).2.2.2.2.1 x c (hcl x c h)
 ·rcases (hf b hb).2.2.2.1 with z | z
  ·exact I.ok.noex b o e z
  ·exact absurd (Nat.lt_of_lt_of_le (Heap.lt_size e) (Nat.le_trans I.ok.bsz z)) (Nat.lt_irrefl _)
 ·rcases List.mem_cons.mp (I.stkSub b hz) with z | z
  ·exact (hf b hb).2.1 z
  ·exact (hf b hb).2.2.1 z
 ·by_cases hi:i<T.length
  ·rw [List.getElem?_append_left (by simpa using hi),List.getElem?_replicate] at h2
   split at h2<;>cases h2
  ·rw [List.getElem?_append_right (by simpa using hi),List.length_replicate] at h2
   have h1':X.N[i - T.length]?=some x:=by
    have z:(T++X.N)[i]?=some x:=h1
    rw [List.getElem?_append_right (by omega)] at z
    exact z
   have hxN:x∈X.N:=List.mem_of_getElem? h1'
   have hxf:(x,NameKind.free)∈scope.names:=by
    rcases h3 with z | z | z
    ·have z':(compEnvC scope (clOf scope.names X.env.cells []) C X.env).kindOf x=some .local:=z
     rw [hkind] at z'
     cases hl:scope.names.lookup x with
     | none=>rw [hl] at z';cases z'
     | some k =>
      rw [hl] at z'
      have hkl:k=.local:=by
       cases k with
       | «local»=>rfl
       | free=>simp at z';split at z'<;>cases z'
       | cell=>cases z'
       | globalExplicit=>cases z'
       | globalImplicit=>cases z'
      subst hkl
      rcases ck.loc x hl with q | q
      ·exact absurd rfl ((List.nodup_append.mp hnd).2.2 x q x hxN)
      ·exact absurd (q ▸ hxN) ck.no0
    ·exact hvis x (.inl z)
    ·exact hvis x (.inr z)
   obtain ⟨hk2,c,hc1,hc2⟩:=hfr x hxf
   obtain ⟨m,hm,hl⟩:=I.loc
   obtain ⟨u,ru,lk⟩:=hl _ x v h1' h2 (hk2.elim (fun z=>.inr (.inl z)) fun z=>.inr (.inr z))
   refine ⟨u,ru,.inr ⟨?_,c,hc1,?_⟩⟩
   ·rcases h3 with z | z | z
    ·exfalso
     have z':(compEnvC scope (clOf scope.names X.env.cells []) C X.env).kindOf x=some .local:=z
     rw [hkind] at z'
     cases hl2:scope.names.lookup x with
     | none=>rw [hl2] at z';cases z'
     | some k =>
      rw [hl2] at z'
      have hkl:k=.local:=by
       cases k with
       | «local»=>rfl
       | free=>simp at z';split at z'<;>cases z'
       | cell=>cases z'
       | globalExplicit=>cases z'
       | globalImplicit=>cases z'
      subst hkl
      rcases ck.loc x hl2 with q | q
      ·exact absurd rfl ((List.nodup_append.mp hnd).2.2 x q x hxN)
      ·exact absurd (q ▸ hxN) ck.no0
    ·exact .inl z
    ·exact .inr z
   ·rcases lk with ⟨kl,_⟩ | ⟨_,c',hc',hcell⟩
    ·rcases hk2 with z | z
     ·rw [kl] at z;cases z
     ·rw [kl] at z;cases z
    ·rw [hc2] at hc'
     cases hc'
     obtain ⟨o,ho,hd⟩:=hcell
     exact ⟨o,hk _ _ ho,hd⟩
 ·obtain ⟨v,o,ho,hd⟩:=I.cell y c (hcl y c h)
  exact ⟨v,o,hk _ _ ho,hd⟩
 ·show (List.replicate T.length none++σ).length=(T++X.N).length
  rw [List.length_append,List.length_append,List.length_replicate,I.len]
end
theorem compLoop_any {prog:Program} {w:World} {A:Around} {R':Result->Shared->Prop} {s:Shared} {elt target iter:Expr} {ifs:List Expr} {scope:Scope} {pos:Pos} {it acc:Value} {env:Env} (I:Nat->Shared->Prop)
    (turn:∀ n s,I n s->wpAny (model prog w) A (pyNext it) (fun r s₁=>match r with
      | none=>R' (.ok .next) s₁
      | some v=>wpAny (model prog w) A (letOwnedTupleGo target it v) (fun _ s₁'=>wpAny (model prog w) A (assign target env v) (fun _ s₂ =>
          wpAny (model prog w) A (forIn ifs true fun c r=>if r=true then do let ok <- isTrue c env (eval c env);pure (ForInStep.yield ok) else pure (ForInStep.yield r)) (fun ok s₃ =>
            if ok=true then wpAny (model prog w) A (eval elt env) (fun x s₄ =>
              wpAny (model prog w) A (call (.builtin "list.append") [acc,x]) (fun _ s₅=>∃ m,m<n/\I m s₅) (fun _ _=>False) s₄) (fun _ _=>False) s₃
            else ∃ m,m<n/\I m s₃) (fun _ _=>False) s₂) (fun _ _=>False) s₁') (fun _ _=>False) s₁) (fun _ _=>False) s)
    (n:Nat) (h:I n s):codeAny (model prog w) A (.compLoop (.ListComp elt [⟨target,iter,ifs,0⟩] scope pos) 0 it acc env) R' s:=by
  refine codeAny_loop rfl I (fun n s hI=>?_) n h
  show wpAny _ A ((compTurn (.ListComp elt [⟨target,iter,ifs,0⟩] scope pos) 0 it acc env).onRaise (fun x=>do noteFrame x env;theTreesLotGoes x)) _ _ s
  refine wpAny_noted ?_
  rw [compTurn_list]
  have ff:∀ {E:Value->Shared->Prop} (a:Value) (s:Shared),False->E a s:=fun _ _ z=>z.elim
  refine wpAny_bind (wpAny_standAt (wpAny_bind (wpAny_mono (turn n s hI) (fun r s₁ h₁=>?_) ff)))
  cases r with
  | none=>exact wpAny_pure h₁
  | some v =>
    refine wpAny_bind (wpAny_mono h₁ (fun _ s₁' h₁'=>?_) ff)
    refine wpAny_bind (wpAny_mono h₁' (fun _ s₂ h₂=>wpAny_bind (wpAny_mono h₂ (fun ok s₃ h₃=>?_) ff)) ff)
    cases ok with
    | false=>exact wpAny_pure ⟨rfl,h₃⟩
    | true =>
      exact wpAny_bind (wpAny_bind (wpAny_mono h₃ (fun x s₄ h₄=>wpAny_bind (wpAny_mono h₄ (fun _ s₅ h₅=>wpAny_pure (wpAny_pure ⟨rfl,h₅⟩)) ff)) ff))
def SIf (X:Cx) (ifs:List Expr) (c:R->Option Bool):Prop :=
 ∀ (pins:List (Addr×Obj)) (s:Shared) (σ:L2.St) (H:Hp) (Q:Bool->Hp->Prop),L2.Inv X pins σ H s->tDT X.K c σ H Q ->
  wpAny (model X.prog X.w) X.A (forIn ifs true fun c r=>if r=true then do let ok <- isTrue c X.env (eval c X.env);pure (ForInStep.yield ok) else pure (ForInStep.yield r)) (TP X pins σ Q) X.xe s
theorem jd {X:Cx}:SIf X [] yesT:=fun pins s σ H Q I ⟨ρ,b,er,e,q⟩=>by
 cases e
 exact wpAny_tests_nil ⟨H,I,q H (Same.refl H)⟩
section
variable {X:Cx} {pins:List (Addr×Obj)} {σ:L2.St} {H:Hp} {s:Shared} {T:List Str} {scope:Scope}
def Front (k:Nat) (stf:D->R->Option R):Prop:=∀ (d:D) (τ ρ ρ1:R),τ.length=k->stf d (τ++ρ)=some ρ1->∃ τ',τ'.length=k/\ρ1=τ'++ρ
theorem front_set {k i:Nat} (h:i<k):Front k (setAt i):=fun d τ ρ ρ1 hl e=>by
 unfold setAt at e
 split at e
 ·cases e
  exact ⟨τ.set i (some d),by simp [hl],List.set_append_left _ _ (by omega)⟩
 ·cases e
theorem EnvR.forget {K:PySem.W.Frag} {H:Hp} {τ ρ:R} {σ:L2.St} (e:EnvR K H (τ++ρ) σ):EnvR K H (List.replicate τ.length none++ρ) σ:=by
 refine ⟨by have:=e.1;simpa using this,fun i d h=>?_⟩
 by_cases hi:i<τ.length
 ·rw [List.getElem?_append_left (by simpa using hi),List.getElem?_replicate] at h
  split at h<;>cases h
 ·rw [List.getElem?_append_right (by simpa using hi),List.length_replicate] at h
  exact e.2 i d (by rw [List.getElem?_append_right (by omega)];exact h)
theorem track {a:Addr} {o:HO} (I:L2.Inv X pins σ H s) (f:FpOk X pins H a) (new:ObjOk X.prog X.w (upd H a o) s.heap a o):L2.Inv X pins σ (upd H a o) s:=by
 obtain ⟨f0,f1,f2,f3,f4,f5⟩:=f
 have ne:∀ {b:Addr} {u:HO},H b=some u->b≠a:=fun e z=>by rw [z,f0] at e;cases e
 refine ⟨I.ok,I.os,I.bare,⟨I.base.keep,I.base.slot,fun b ob e n hx=>?_,I.base.there,fun b xs e=>?_,fun b ob u ny e=>?_,fun b ps d e=>?_⟩,I.loc,I.cell,?_,fun x c e=>?_,fun p hp=>?_,fun b u e=>?_,I.len⟩
 ·have hb:b≠a:=fun z=>by
   rcases f3 with q | q
   ·exact hx (z ▸ q)
   ·exact absurd (Nat.lt_of_lt_of_le (Heap.lt_size e) (z ▸ q)) (Nat.lt_irrefl _)
  rw [ay hb]
  exact I.base.free b ob e n hx
 ·have q:=I.base.tups b xs e
  rw [ay (ne q)]
  exact q
 ·have q:=I.base.frzs b ob u ny e
  rw [ay (ne q)]
  exact q
 ·have q:=I.base.tbls b ps d e
  rw [ay (ne q)]
  exact q
 ·rw [ay (Ne.symm f1)]
  exact I.free
 ·rw [ay (f4 x c e)]
  exact I.freeC x c e
 ·obtain ⟨q1,q2,q3⟩:=I.pin p hp
  exact ⟨q1,by rw [ay (f5 p hp)];exact q2,q3⟩
 ·by_cases hb:b=a
  ·subst hb
   rw [aC] at e
   cases e
   exact new
  ·rw [ay hb] at e
   refine (I.hok b u e).stay (fun _ _ _ q=>q) (fun c q=>?_) (fun c xs q=>?_) fun c _ _ q=>?_
   ·rw [ay (ne q)];exact q
   ·rw [ay (ne q)];exact q
   ·rw [ay (ne q)];exact q
theorem fp_of {C:Addr} {fp:List Addr} {s₃:Shared} {H₃ H':Hp} {b:Addr} {pl:List (Addr×Obj)} (hb:b∈fp\/s₃.heap.objs.size<=b) (hC:b≠C) (hfs:b∉frs X.stack) (hcells:∀ x c,(clOf scope.names X.env.cells []).lookup x=some c->c≠b) (hn:H' b=none) (hp:∀ p∈pl,p.1≠b) :
  FpOk (cxC X T scope C fp s₃ H₃) pl H' b:=⟨hn,hC,hfs,hb,hcells,fun p hp'=>hp p hp'⟩
theorem rq {elt iter tg:Expr} {ifs:List Expr} {pos:Pos} {it:Addr} {fp:List Addr} {tn:Nat->Heap->Prop} {J:It} {E:Value->Shared->Prop} {ρ:R} {ds out:List D} {stf:D->R->Option R} {cf:R->Option Bool} {ef:R->Option D}
  (I:L2.Inv X pins σ H s) (hc:X.calm=true) (Tn:Turn X.prog X.w X.K tg J fp it tn) (st:tn 0 s.heap) (hf:∀ b∈fp,FpOk X pins H b)
  (ck:CompOk scope X.env.scope T X.N) (hnd:(T++X.N).Nodup) (hst:Front T.length stf) (er:EnvR X.K H ρ σ) (y:Yields X.K J ds H) (hz:ds.length<=sizeLine) (hout:compD stf cf ef ds (List.replicate T.length none++ρ)=some out)
  (hg:∀ C s₃ H₃ fp,SG (cxC X T scope C fp s₃ H₃) tg stf) (hcnd:∀ C s₃ H₃ fp,SIf (cxC X T scope C fp s₃ H₃) ifs cf) (he:∀ C s₃ H₃ fp,SE (cxC X T scope C fp s₃ H₃) elt ef)
  {RR:Value->Addr->Result->Shared->Prop}
  (hRR:∀ (a C:Addr) (H':Hp) (s':Shared) (vs:List V),Same H H'->H' a=some (.lst vs)->Reps X.K H' out vs->L2.Inv X pins σ H' s'->FpOk X pins H' C->(∃ m,s'.heap.Ns C m)->RR (.ref a) C (.ok .next) s') :
  wpAny (model X.prog X.w) X.A (newList []) (fun acc s₃=>wpAny (model X.prog X.w) X.A (newFunctionEnv scope X.env.globals (clOf scope.names X.env.cells []) [] X.env.qual none .none (some X.env)) (fun cenv s₄ =>
   codeAny (model X.prog X.w) X.A (.compStart (.ListComp elt [⟨tg,iter,ifs,0⟩] scope pos) 0 (.ref it) acc {cenv with scope:=relabel scope X.env}) (RR acc cenv.locals) s₄) E s₃) E s:=by
 refine wpAny_newObj_type (wpAny_newFunctionEnv ck.nocell (by intro y hy;simp at hy) (fun h₁ hns₁ hsb₁=>?_) ck.kind)
 dsimp only at hns₁ hsb₁ ⊢
 generalize hH2:s.heap.push {cls:=.type "list",dict:=none,data:=.seq ([]:List Value).toArray}=H2 at hns₁ hsb₁ ⊢
 generalize ha:s.heap.objs.size=a at *
 generalize hCe:H2.objs.size=C at hns₁ hsb₁ ⊢
 have hC:C=a+1:=by rw [<- hCe,<- hH2,Heap.size_push,ha]
 have haC':a<C:=by rw [hC];exact Nat.lt_succ_self a
 have haC:a≠C:=Nat.ne_of_lt haC'
 have hle:s.heap.objs.size<=a:=Nat.le_of_eq ha
 have hCle:s.heap.objs.size<=C:=Nat.le_trans hle (Nat.le_of_lt haC')
 have hlta:∀ {b:Addr} {o:Obj},s.heap.get? b=some o->b<a:=fun e=>Nat.lt_of_lt_of_le (Heap.lt_size e) hle
 have old:∀ b o,s.heap.get? b=some o->h₁.get? b=some o:=fun b o e=>hsb₁.extBut b o (Nat.ne_of_lt (Nat.lt_trans (hlta e) haC')) (Heap.get?_push_of_some _ (hH2 ▸ Heap.get?_push_of_some _ e))
 have hacc:h₁.get? a=some {cls:=.type "list",data:=.seq ([]:List Value).toArray}:=hsb₁.extBut _ _ haC (Heap.get?_push_of_some _ (hH2 ▸ (ha ▸ Heap.get?_push_size _ rfl)))
 have hfo:∀ b∈fp,∃ o,s.heap.get? b=some o:=fun b hb=>let ⟨o,e,_⟩:=Tn.obj 0 _ st b hb;⟨o,e⟩
 have hlt:∀ b∈fp,b<a:=fun b hb=>let ⟨o,e⟩:=hfo b hb;hlta e
 have hns:h₁.Ns C (fun _=>none):=hns₁
 have I0:L2.Inv (cxC X T scope C fp s H) [] (List.replicate T.length none++σ) H {s with heap:=h₁,toks:=s.toks+([]:List (Str×Value)).length}:=inv_comp I ck hnd hf hfo hCle old hns
 have hcl:∀ y c,(clOf scope.names X.env.cells []).lookup y=some c->X.env.cells.lookup y=some c:=clOf_ok scope.names [] fun y c h=>by cases h
 have hfs:∀ b,a<=b->b∉frs X.stack:=fun b hb hz=>by
  rcases List.mem_cons.mp (I.stkSub b hz) with z | z
  ·exact absurd (Nat.lt_of_lt_of_le I.lt (Nat.le_trans hle (z ▸ hb))) (Nat.lt_irrefl _)
  ·exact I.nofs (Nat.le_trans hle hb) z
 have hcells:∀ b,a<=b->∀ x c,(clOf scope.names X.env.cells []).lookup x=some c->c≠b:=fun b hb x c h z=>by
  obtain ⟨v,q⟩:=I.cell x c (hcl x c h)
  exact absurd (Nat.lt_of_lt_of_le q.lt (Nat.le_trans hle (z ▸ hb))) (Nat.lt_irrefl _)
 have hfpok:∀ {H':Hp} {pl:List (Addr×Obj)},(∀ b∈fp,H' b=none)->(∀ p∈pl,p.1∉fp)->∀ b∈fp,FpOk (cxC X T scope C fp s H) pl H' b:=fun {H' pl} hn hp b hb =>
  fp_of (.inl hb) (Nat.ne_of_lt (Nat.lt_trans (hlt b hb) haC')) (I0.ok.exfs b hb) (fun x c h=>(I0.ok.exf b hb).2 x c h) (hn b hb) fun p hp' z=>hp p hp' (z ▸ hb)
 have hAok:∀ {H':Hp},H' a=none->∀ b ∈ [a],FpOk (cxC X T scope C fp s H) [] H' b:=fun {H'} hn b hb=>by
  cases List.mem_singleton.mp hb
  exact fp_of (.inr hle) haC (hfs a (Nat.le_refl _)) (hcells a (Nat.le_refl _)) hn fun p hp=>absurd hp (by simp)
 have hAfp:a∉fp:=fun z=>Nat.lt_irrefl _ (hlt a z)
 have loop:codeAny (model X.prog X.w) X.A (.compLoop (.ListComp elt [⟨tg,iter,ifs,0⟩] scope pos) 0 (.ref it) (.ref a) (compEnvC scope (clOf scope.names X.env.cells []) C X.env))
   (RR (.ref a) C) {s with heap:=h₁,toks:=s.toks+([]:List (Str×Value)).length}:=by
  refine compLoop_any (fun n s'=>∃ i σ' H' vs its k done rest,n=ds.length - i/\i<=ds.length/\L2.Inv (cxC X T scope C fp s H) [] σ' H' s'/\tn i s'.heap/\(∀ b∈fp,H' b=none)/\H' a=none/\Same H H' /\
   s'.heap.get? a=some {cls:=.type "list",data:=.seq (its:List Value).toArray k}/\Vals vs its/\Reps X.K H' done vs/\vs.length<=i/\EnvR X.K H' (List.replicate T.length none++ρ) σ' /\
   compD stf cf ef (ds.drop i) (List.replicate T.length none++ρ)=some rest/\out=done++rest) ?_ ds.length
   ⟨0,_,H,[],[],0,[],out,by omega,Nat.zero_le _,I0,Tn.keep _ _ _ st (fun b hb o e=>old b o e),fun b hb=>(hf b hb).1,I.hok.fresh hle,Same.refl H,hacc,.nil,rfl,Nat.zero_le _,er.front T.length (List.replicate T.length none) (by simp),by simpa using hout,rfl⟩
  rintro n s' ⟨i,σ',H',vs,its,k,done,rest,rfl,hi,I',st',hn',hna,sm,ho,hv,hrd,hvl,er',hrest,hsum⟩
  have Ip:=I'.pinned (fp:=[a]) (hAok hna) fun b hb=>by
   cases List.mem_singleton.mp hb
   exact ⟨_,ho,fun v z=>by cases z⟩
  generalize hP:([]:List (Addr×Obj))++pinsAt [a] s'.heap=P at Ip
  have hPm:(a,({cls:=.type "list",data:=.seq its.toArray k}:Obj))∈P:=by rw [<- hP];exact List.mem_append_right _ (dE (by simp) ho)
  have hPa:∀ p∈P,p.1∉fp:=fun p hp z=>by
   rw [<- hP] at hp
   obtain ⟨q,_⟩:=of_pinsAt hp
   rw [List.mem_singleton.mp q] at z
   exact hAfp z
  by_cases hlt':i<ds.length
  ·have hd:ds[i]?=some ds[i]:=by simp [hlt']
   obtain ⟨hgo,hy⟩:=y.1 i ds[i] H' (Kp.of sm) hd
   rw [List.drop_eq_getElem_cons hlt'] at hrest
   obtain ⟨ρ1,e1,hrest⟩:=bindS hrest
   obtain ⟨b,e2,hrest⟩:=bindS hrest
   obtain ⟨o,e3,hrest⟩:=bindS hrest
   obtain ⟨rest',e4,e5⟩:=mapS hrest
   obtain ⟨τ,hτ,hρ1⟩:=hst ds[i] (List.replicate T.length none) ρ ρ1 (by simp) e1
   refine thn (Tn.item (cxC X T scope C fp s H) rfl rfl rfl hc i P s' σ' H' (fun _ _=>False) Ip (hfpok hn' hPa) st' hgo) fun r s1 ⟨u,hr,h4⟩=>?_
   subst hr
   refine thn h4 fun _ s2 ⟨x,H2',I2,r2,y2,st2,fr2⟩=>?_
   obtain ⟨s12,rx⟩:=hy x H2' y2
   have I3:=I2.pinned (fp:=fp) (hfpok fr2 hPa) (Tn.obj _ _ st2)
   refine thn (hg C s H fp _ s2 σ' H2' x u (fun σ3 H3=>Same H2' H3/\EnvR X.K H3 ρ1 σ3) I3 r2 ⟨_,_,ds[i],ρ1,(er'.mono s12).t,rx,e1,fun σ3 H3 s3 er3=>⟨s3,er3.1⟩⟩) fun _ s3 ⟨σ3,H3,I4,s23,er3⟩=>?_
   refine thn (hcnd C s H fp _ s3 σ3 H3 (fun b' H4=>b'=b/\Same H3 H4) I4 ⟨ρ1,b,er3,e2,fun H4 s4=>⟨rfl,s4⟩⟩) fun b' s4 ⟨H4,I5,hb',s34⟩=>?_
   subst hb'
   have fin:∀ {H5:Hp} {s5:Shared},L2.Inv (cxC X T scope C fp s H) (P++pinsAt fp s2.heap) σ3 H5 s5->(∀ b∈fp,H5 b=none)/\H5 a=none/\s5.heap.get? a=some {cls:=.type "list",data:=.seq its.toArray k}/\(∀ b∈fp,∀ o,s2.heap.get? b=some o->s5.heap.get? b=some o):=fun {H5 s5} I6=>by
    refine ⟨fun b hb=>?_,(I6.pin _ (List.mem_append_right _ (List.mem_append_left _ hPm))).2.1,(I6.pin _ (List.mem_append_right _ (List.mem_append_left _ hPm))).1,fun b hb o e=>(I6.pin (b,o) (List.mem_append_right _ (List.mem_append_right _ (dE hb e)))).1⟩
    obtain ⟨o,e,_⟩:=Tn.obj _ _ st2 b hb
    exact (I6.pin (b,o) (List.mem_append_right _ (List.mem_append_right _ (dE hb e)))).2.1
   have unpin:∀ {H5:Hp} {s5:Shared},L2.Inv (cxC X T scope C fp s H) (P++pinsAt fp s2.heap) σ3 H5 s5->L2.Inv (cxC X T scope C fp s H) [] σ3 H5 s5:=fun I6=>I6.pins_of fun p hp=>absurd hp (by simp)
   have erb:∀ {H5:Hp},Same H3 H5->EnvR X.K H5 (List.replicate T.length none++ρ) σ3:=fun s5=>by
    have z:=er3.mono s5
    rw [hρ1] at z
    have z2:=z.forget
    rw [hτ] at z2
    exact z2
   cases b' with
   | false =>
    cases e3
    rw [if_neg Bool.false_ne_true]
    obtain ⟨q1,q2,q3,q4⟩:=fin I5
    have sm4:Same H H4:=sm.trans (s12.trans (s23.trans s34))
    have smr:Same H' H4:=s12.trans (s23.trans s34)
    exact ⟨ds.length - (i+1),by omega,i+1,σ3,H4,vs,its,k,done,rest',rfl,hlt',unpin I5,Tn.keep _ _ _ st2 q4,q1,q2,sm4,q3,hv,hrd.mono smr,Nat.le_succ_of_le hvl,erb s34,e4,by rw [hsum,<- e5]⟩
   | true =>
    rw [if_pos rfl] at e3 ⊢
    obtain ⟨yv,e6,e7⟩:=mapS e3
    subst e7
    refine thn (he C s H fp _ s4 σ3 H4 (fun v H5=>Same H4 H5/\Rep X.K H5 yv v) I5 ⟨ρ1,yv,er3.mono s34,e6,fun v H5 s5 r5=>⟨s5,r5⟩⟩) fun xv s5 ⟨v,H5,I6,rv,s45,ry⟩=>?_
    obtain ⟨q1,q2,q3,q4⟩:=fin I6
    have hl:=hv.length
    refine call_meets F.slot_list_append ⟨_,q3,rfl⟩ F.entry_list_append (F.args_list_append_2 _ _) (PySem.list_append a its.toArray k xv (by rw [List.size_toArray];omega)) ⟨q3,?_⟩
    have q:=PySem.IsL.update q3 (fun xs=>xs.push xv)
    have sm5:Same H H5:=sm.trans (s12.trans (s23.trans (s34.trans s45)))
    have smr:Same H' H5:=s12.trans (s23.trans (s34.trans s45))
    have I7:L2.Inv (cxC X T scope C fp s H) [] σ3 H5 {s5 with heap:=s5.heap.update a (Obj.mapSeq fun xs=>xs.push xv),toks:=s5.toks} :=
     (unpin I6).turned (it:=a) (t':=s5.toks) (fun b ob hb hu=>(Heap.get?_update_other s5.heap _ (Ne.symm hb)).trans hu) q2 haC (.inr hle) (hcells a (Nat.le_refl _)) fun p hp=>absurd (show p∈([]:List (Addr×Obj)) from hp) (by simp)
    refine ⟨ds.length - (i+1),by omega,i+1,σ3,H5,vs++[v],its++[xv],(if (its.toArray.push xv).size==its.toArray.size then k else k+1),done++[yv],rest',rfl,hlt',I7,Tn.keep _ _ _ st2 fun b hb ob e=>?_,q1,q2,sm5,?_,hv.append (.cons rv .nil),(hrd.mono smr).append (Reps.one ry),by simp;omega,erb (s34.trans s45),e4,by rw [hsum,<- e5];simp⟩
    ·have hne:b≠a:=fun z=>hAfp (z ▸ hb)
     exact (Heap.get?_update_other s5.heap _ (Ne.symm hne)).trans (q4 b hb ob e)
    ·have z:its.toArray.push xv=(its++[xv]).toArray:=by simp
     rw [<- z]
     exact q
  ·have ei:i=ds.length:=by omega
   subst ei
   rw [List.drop_length] at hrest
   cases hrest
   rw [List.append_nil] at hsum
   subst hsum
   refine thn (Tn.done (cxC X T scope C fp s H) rfl rfl rfl hc ds.length P s' σ' H' (fun _ _=>False) Ip (hfpok hn' hPa) st' (y.2 _ H' (Kp.of sm) (Nat.le_refl _))) fun r s1 ⟨hr,I1⟩=>?_
   subst hr
   have ho1:=(I1.pin _ (List.mem_append_right _ hPm)).1
   have IX:L2.Inv X pins σ H' s1:=I.call' (ch:=fp) I1.os I1.base I1.hok I1.bare fun b hb=>⟨(hf b hb).2.2.2.1,(hf b hb).2.1,(hf b hb).2.2.2.2.1,(hf b hb).2.2.2.2.2⟩
   have fA:FpOk X pins H' a:=I.fpOk hle hna
   have s2:=bm hna (.lst vs)
   refine hRR a C (upd H' a (.lst vs)) s1 vs (sm.trans s2) aC (hrd.mono s2) (track IX fA ⟨Nat.le_trans hvl hz,its,k,hv,ho1⟩) (I.fpOk hCle ?_) (let ⟨m,q,_⟩:=I1.loc;⟨m,q⟩)
   rw [ay (Ne.symm haC)]
   exact I1.free
 exact codeAny_compStart_list loop (Tn.self _ _ _ _ _ (Tn.keep _ _ _ st fun b hb o e=>old b o e) loop)
variable {elt iter tg:Expr} {ifs:List Expr} {pos p2:Pos} {itf:R->Option (List D)} {stf:D->R->Option R} {cf:R->Option Bool} {ef:R->Option D}
theorem qG (I:L2.Inv X pins σ H s) (ck:CompOk scope X.env.scope T X.N):closureFor scope X.env=pure (clOf scope.names X.env.cells []):=closure_eq fun p hp hf=>I.ok.has p.1 (ck.free p hp hf)
theorem lN (hc:X.calm=true) (hi:SI X tg iter itf) (hg:∀ C s₃ H₃ fp,SG (cxC X T scope C fp s₃ H₃) tg stf) (hcnd:∀ C s₃ H₃ fp,SIf (cxC X T scope C fp s₃ H₃) ifs cf) (he:∀ C s₃ H₃ fp,SE (cxC X T scope C fp s₃ H₃) elt ef)
  (hst:Front T.length stf) (hnd:(T++X.N).Nodup) (ck:compChk scope X.env.scope T X.N=true:=by rfl) (hs:∀ x,foldedSetIterable iter X.env x=pure x:=by intro _;rfl) :
  SE X (.ListComp elt [⟨tg,iter,ifs,0⟩] scope pos) (lcD T.length itf stf cf ef):=by
 intro pins s σ H Q I hw
 obtain ⟨ρ,d,er,e,q⟩:=hw
 obtain ⟨ds,e1,e⟩:=bindS e
 have ck':=compOk_of ck
 split at e
 ·rename_i hz
  obtain ⟨out,e2,e3⟩:=mapS e
  subst e3
  rw [eval_ListComp]
  refine wpAny_comprehension_free (use:=none) rfl hs (qG I ck') ck'.kind ck'.names ?_
  refine thn (hi pins s σ H (fun J H'=>Same H H'/\Yields X.K J ds H') I ⟨ρ,ds,er,e1,fun J H' s1 y=>⟨s1,y⟩⟩) fun v s1 h1=>thn h1 fun itv s2 h2=>?_
  obtain ⟨it,fp,tn,J,H',ei,I2,Tn,st,hf,s12,y⟩:=h2
  subst ei
  refine rq (RR:=fun acc C=>compPost (model X.prog X.w) X.A X.xe none (EP X pins σ Q) acc C) I2 hc Tn st hf ck' hnd hst (er.mono s12) y hz e2 hg hcnd he ?_
  intro a C H3 s' vs sm ha hr I3 fC hns
  obtain ⟨m,hm⟩:=hns
  refine ⟨m,hm,fun h' hsb=>⟨.ref a,H3,?_,rfl,q _ H3 (s12.trans sm) ⟨a,vs,rfl,ha,hr⟩⟩⟩
  obtain ⟨f0,f1,f2,f3,f4,f5⟩:=fC
  exact I3.turned (it:=C) (t':=s'.toks) (fun b o hb eb=>(hsb.2 b hb).trans eb) f0 f1 f3 f4 f5
 ·cases e
end
end HW
set_option maxHeartbeats 1000000
namespace HW
open PySem PySem.Spec PyProof.Rows L2
section
variable {X:Cx}
theorem ints2 {K:PySem.W.Frag} {H:Hp} {i j:Int} {xs:List V} (r:Reps K H [.int i,.int j] xs):xs=[.int i,.int j]:=by
 obtain ⟨v,r',rfl,r1,w,r'',rfl,r2,r3⟩:=r
 cases (show v=_ from r1)
 cases (show w=_ from r2)
 cases (show r''=[] from r3)
 rfl
theorem fV (hc:X.calm=true):CaD X (.builtin "max") fMax:=(qa hc).imp fun xs H Q ⟨ds,d,r,e,q⟩=>by
 match ds,e with
 | [.int i,.int j],e =>
  cases e
  exact ⟨i,j,ints2 r,q _ H (Same.refl H) rfl⟩
theorem gU:CaD X (.type "int") fInt:=call_int1.imp fun xs H Q ⟨ds,d,r,e,q⟩=>by
 match ds,e with
 | [.int i],e =>
  cases e
  obtain ⟨v,r',rfl,r1,r2⟩:=r
  cases (show v=_ from r1)
  cases (show r'=[] from r2)
  exact .inl ⟨i,rfl,q _ H (Same.refl H) rfl⟩
 | [.bl b],e =>
  cases e
  obtain ⟨v,r',rfl,r1,r2⟩:=r
  cases (show v=_ from r1)
  cases (show r'=[] from r2)
  exact .inr ⟨b,rfl,q _ H (Same.refl H) rfl⟩
mutual
theorem reads_of {pins:List (Addr×Obj)} {σ:L2.St} {H:Hp} {s:Shared} (I:L2.Inv X pins σ H s):∀ {d:D} {v:V} {u:Value},nob d=true->Rep X.K H d v->RelV v u->∃ as,Reads s.heap u (toPy d) as
 | .non,v,u,hn,h,r=>by
  cases (show v=_ from h)
  cases (show u=_ from r)
  exact ⟨_,.none⟩
 | .bl b,v,u,hn,h,r=>by
  cases (show v=_ from h)
  cases (show u=_ from r)
  exact ⟨_,.bool b⟩
 | .int i,v,u,hn,h,r=>by
  cases (show v=_ from h)
  obtain ⟨t,rfl⟩:=r
  exact ⟨_,.int i t⟩
 | .str x,v,u,hn,h,r=>by
  cases (show v=_ from h)
  obtain ⟨t,rfl⟩:=r
  exact ⟨_,.str x t⟩
 | .tup ds,v,u,hn,h,r=>by
  obtain ⟨a,xs,rfl,q,t⟩:=h
  cases (show u=_ from r)
  obtain ⟨its,rv,⟨o,e,c,n,dd⟩,_⟩:=I.tuple q
  obtain ⟨as,ra⟩:=reads_ofs I hn t rv
  exact ⟨_,.tuple e c dd (by simpa using ra)⟩
 | .lst ds,v,u,hn,h,r=>by
  obtain ⟨a,xs,rfl,q,t⟩:=h
  cases (show u=_ from r)
  obtain ⟨its,rv,⟨o,n,e,c,_,dd⟩,_⟩:=I.list (SqL.of q)
  obtain ⟨as,ra⟩:=reads_ofs I hn t rv
  exact ⟨_,.list e c dd (by simpa using ra)⟩
 | .fro ds,v,u,hn,h,r=>by
  obtain ⟨a,xs,rfl,q,t⟩:=h
  cases (show u=_ from r)
  obtain ⟨its,rv,⟨o,n,e,c,_,dd⟩,_⟩:=I.list q
  obtain ⟨as,ra⟩:=reads_ofs I hn t rv
  exact ⟨_,.list e c dd (by simpa using ra)⟩
 | .obj ..,v,u,hn,h,r=>by cases hn
theorem reads_ofs {pins:List (Addr×Obj)} {σ:L2.St} {H:Hp} {s:Shared} (I:L2.Inv X pins σ H s):∀ {ds:List D} {vs:List V} {us:List Value},nobs ds=true->Reps X.K H ds vs->Vals vs us->∃ as,ReadsAll s.heap us (toPys ds) as
 | [],vs,us,hn,h,r=>by
  cases (show vs=[] from h)
  cases r
  exact ⟨_,.nil⟩
 | d::ds,vs,us,hn,h,r=>by
  have hn':(nob d&&nobs ds)=true:=hn
  rw [Bool.and_eq_true] at hn'
  obtain ⟨v,vr,rfl,h1,h2⟩:=h
  cases r with
  | cons r1 r2 =>
   obtain ⟨as,q1⟩:=reads_of I hn'.1 h1 r1
   obtain ⟨bs,q2⟩:=reads_ofs I hn'.2 h2 r2
   exact ⟨_,.cons q1 q2⟩
end
theorem iS {k:Nat} (hr:Room k X.A):CaD X (.builtin "repr") fRepr:=by
 intro pins s σ H xs us Q I r h
 obtain ⟨ds,d,rs,e,q⟩:=h
 match ds,e with
 | [.tup ys],e =>
  unfold fRepr at e
  dsimp only at e
  split at e
  ·rename_i hc
   obtain ⟨h1,h2,h3,h4⟩:=hc
   cases e
   obtain ⟨v,r',rfl,r1,r2⟩:=rs
   cases (show r'=[] from r2)
   obtain ⟨u,rfl,ru⟩:=r.one
   obtain ⟨as,rd⟩:=reads_of I (lP h2) r1 ru
   obtain ⟨a,zs,rfl,_⟩:=r1
   cases (show u=_ from ru)
   refine repr_of_reads' rd h1 (PyData.noDict_hsm h2) hr.gd ?_ (fun _ _ e=>e) (fun h' t tk hk=>?_) h4
   ·have:=hr.un
    omega
   ·exact ⟨.str _,H,I.kept hk,⟨t,rfl⟩,q _ H (Same.refl H) rfl⟩
  ·cases e
end
def OwnO (a:Addr) (xs:List V):HO:=.ext fun h=>xs.length<=sizeLine/\∃ (its:List Value) (n:Nat),Vals xs its/\h.get? a=some {cls:=.type "list",data:=.seq its.toArray n}
section
variable {X:Cx} {pins:List (Addr×Obj)} {σ:L2.St} {H:Hp} {s:Shared} {a:Addr} {xs:List V}
theorem oV (I:L2.Inv X pins σ H s) (h:H a=some (OwnO a xs)):xs.length<=sizeLine/\∃ (its:List Value) (n:Nat),Vals xs its/\s.heap.get? a=some {cls:=.type "list",data:=.seq its.toArray n}:=(I.hok a _ h).1
theorem to_own (I:L2.Inv X pins σ H s) (h:H a=some (.lst xs)):L2.Inv X pins σ (upd H a (OwnO a xs)) s:=by
 obtain ⟨z,its,n,r,e⟩:=I.hok a _ h
 have:=I.write (t':=s.toks) (h':=s.heap) (o:=OwnO a xs) (x:=a) (e:=a) (by rw [h];trivial) (.inl rfl) (fun _ _ _ q=>q) ⟨_,e⟩ ⟨⟨z,its,n,r,e⟩,⟨_,e⟩,fun h1 h2 ⟨z,its,n,r,e⟩ k=>⟨z,its,n,r,k _ e⟩⟩
 exact this
theorem to_lst (I:L2.Inv X pins σ H s) (h:H a=some (OwnO a xs)):L2.Inv X pins σ (upd H a (.lst xs)) s:=by
 obtain ⟨z,its,n,r,e⟩:=oV I h
 have:=I.write (t':=s.toks) (h':=s.heap) (o:=.lst xs) (x:=a) (e:=a) (by rw [h];trivial) (.inl rfl) (fun _ _ _ q=>q) ⟨_,e⟩ ⟨z,its,n,r,e⟩
 exact this
def SmA (a:Addr) (H H':Hp):Prop:=∀ b u,b≠a->H b=some u->H' b=some u
theorem SmA.of {H H':Hp} (h:Same H H'):SmA a H H':=fun b u _ e=>h b u e
theorem SmA.trans {H H1 H2:Hp} (h:SmA a H H1) (h':SmA a H1 H2):SmA a H H2:=fun b u n e=>h' b u n (h b u n e)
theorem SmA.upd {o:HO}:SmA a H (upd H a o):=fun b u n e=>by rw [ay n];exact e
theorem SmA.kp {H H':Hp} (h:SmA a H H') (ho:H a=some (OwnO a xs)):Kp H H':=fun b u e n=>by
 by_cases hb:b=a
 ·subst hb
  rw [ho] at e
  cases e
  exact absurd rfl (n _)
 ·exact h b u hb e
end
section
variable (K:PySem.W.Frag)
def tOS (u:R->List D->Option (Out×List D)):TS:=fun E σ H=>∃ ρ τ a ds xs o ds',EnvT K H ρ (some (.ref a)::τ) σ/\H a=some (OwnO a xs)/\Reps K H ds xs/\u ρ ds=some (o,ds') /\
 ∀ H' xs',SmA a H H'->H' a=some (OwnO a xs')->Reps K H' ds' xs'->fin K E (some (.ref a)::τ) o H'
def tOB (u:R->List D->Option Out):TS:=fun E σ H=>∃ ρ τ a ds xs o,EnvT K H ρ (some (.ref a)::τ) σ/\H a=some (OwnO a xs)/\Reps K H ds xs/\u ρ ds=some o/\∀ H',SmA a H H'->fin K E τ o H'
end
def OS (X:Cx) (st:Stmt) (u:R->List D->Option (Out×List D)):Prop:=PS X st (tOS X.K u)
def OSS (X:Cx) (sts:List Stmt) (u:R->List D->Option (Out×List D)):Prop:=PSs X sts (tOS X.K u)
def OB (X:Cx) (sts:List Stmt) (u:R->List D->Option Out):Prop:=PSs X sts (tOB X.K u)
section
variable {X:Cx} {st:Stmt} {sts:List Stmt} {u:R->Option Out} {p q:R->List D->Option (Out×List D)} {pos:Pos}
theorem oX:OSS X [] oNext:=pss_nil.imp fun E σ H ⟨ρ,τ,a,ds,xs,o,ds',er,ho,rp,e,q⟩=>by
 cases e
 exact q H xs (SmA.of (Same.refl H)) ho rp σ er
theorem oE (h:OS X st p):OSS X [st] p:=gv h
theorem sV {c:Expr} {s:R->Option Bool} {B1 B2:List Stmt} (hc:ST X c s) (ha:OSS X B1 p) (hb:OSS X B2 q):OS X (.If c B1 B2 pos) (oIf s p q):=(rF hc ha hb).imp fun E σ H ⟨ρ,τ,a,ds,xs,o,ds',er,ho,rp,e,qq⟩=>by
 obtain ⟨x,e1,e⟩:=bindS e
 refine ⟨ρ,x,er.1,e1,fun H1 s1=>?_⟩
 cases x with
 | true=>rw [if_pos rfl] at e ⊢;exact ⟨ρ,τ,a,ds,xs,o,ds',er.mono s1,s1 _ _ ho,rp.mono s1,e,fun H2 xs2 k2=>qq H2 xs2 ((SmA.of s1).trans k2)⟩
 | false=>rw [if_neg Bool.false_ne_true] at e ⊢;exact ⟨ρ,τ,a,ds,xs,o,ds',er.mono s1,s1 _ _ ho,rp.mono s1,e,fun H2 xs2 k2=>qq H2 xs2 ((SmA.of s1).trans k2)⟩
theorem qK {K:PySem.W.Frag} {H:Hp} {ρ:R} {v:V} {τ σ:L2.St} (er:EnvT K H ρ (some v::τ) σ):σ[ρ.length]?=some (some v):=by
 have:=er.2
 have h0:(σ.drop ρ.length)[0]?=some (some v):=by rw [this];rfl
 rw [List.getElem?_drop] at h0
 simpa using h0
theorem tQ {x name:Str} {e:Expr} {px ap cp:Pos} {f:R->Option D} {id:String} {r:V->List V->Hp->VK->Prop} {g:List D->D->Option (List D)} {u:R->List D->Option (Out×List D)} (i:Nat) (slot:Slot "list" name id) (hty:typeOf (.builtin id)=pure (.type "method_descriptor")) (hm:MtM X id r)
  (hu:∀ ρ ds o ds',u ρ ds=some (o,ds')->ρ.length=i/\o=.nx ρ/\∃ d,f ρ=some d/\g ds d=some ds')
  (hr:∀ (H:Hp) (a:Addr) (xs:List V) (v:V) (ds ds':List D) (d:D) (Q:VK),H a=some (OwnO a xs)->Reps X.K H ds xs->Rep X.K H d v->g ds d=some ds'->(∀ xs',Reps X.K H ds' xs'->Q .non (upd (upd H a (.lst xs)) a (.lst xs')))->r (.ref a) [v] (upd H a (.lst xs)) Q)
  (he:SE X e f) (hN:X.N[i]?=some x:=by rfl) (hv:Vis X.env.scope x:=by first | exact Or.inl rfl | exact Or.inr (Or.inl rfl) | exact Or.inr (Or.inr rfl)) (hd:(x==("__debug__" : Str))=false:=by decide) (hcd:(x==("__classdict__" : Str))=false:=by decide)
  (hbase:attributeBase (.Name x px) name X.env (eval (.Name x px) X.env)=eval (.Name x px) X.env:=by rfl) (hst:noStar e=true:=by rfl)
  (hline:(ap.endLine==cp.line)=true:=by rfl) (hs:swapsWith (.Call (.Attribute (.Name x px) name ap) [e] [] cp) none pos.line X.env=pure false:=by rfl) :
  OS X (.Expr (.Call (.Attribute (.Name x px) name ap) [e] [] cp) pos) u:=by
 intro pins s σ H E I ⟨ρ,τ,a,ds,xs,o,ds',er,ho,rp,eu,qq⟩
 obtain ⟨hi,rfl,d,e1,e2⟩:=hu ρ ds o ds' eu
 have hσ:=qK er
 rw [hi] at hσ
 have hst1:=aX [] X.env hst
 refine wpAny_Expr_any (wpAny_Call_method_late hbase ?_ hline rfl (thn ((pv i (pos:=px) hN hv hd hcd) pins s σ H (fun v H1=>v=.ref a/\H1=H) I ⟨.ref a,hσ,rfl,rfl⟩) fun v s1 ⟨y,H1,I1,r1,ey,eH⟩=>?_)) I.quiet hs
 ·rw [hst1]
  rfl
 subst ey eH
 cases (show v=_ from r1)
 obtain ⟨z,its,n,rv,eo⟩:=oV I1 ho
 refine ⟨"list",id,PySem.F.plainAttrs_list,slot,hty,⟨_,eo,rfl⟩,fun b eb=>?_,?_⟩
 ·cases eb
  exact ⟨_,eo,rfl⟩
 have hA:=(ab he af hst).1 cp pins s1 σ H1 (fun vs H2=>Same H1 H2/\Reps X.K H2 [d] vs) I1 ⟨ρ,[d],er.1,by show (f ρ).bind _=_;rw [e1];rfl,fun vs H2 s2 r2=>⟨s2,r2⟩⟩
 rw [hst1] at hA ⊢
 refine Calls.callWith_builtin rfl (Calls.evalArgs_plain ?_)
 refine thn hA fun us s2 ⟨vs,H2,I2,r2,s12,rd⟩=>?_
 obtain ⟨w,w',rfl,rw1,rw2⟩:=rd
 cases (show w'=[] from rw2)
 have ho2:=s12 _ _ ho
 have I3:=to_lst I2 ho2
 refine thn (hm pins s2 σ (upd H2 a (.lst xs)) (.ref a) [w] (.ref a) us (fun v H3=>∃ xs',Reps X.K H2 ds' xs'/\H3=upd (upd H2 a (.lst xs)) a (.lst xs')) I3 rfl r2 (hr H2 a xs w ds ds' d _ ho2 (rp.mono s12) rw1 e2 fun xs' rp'=>⟨xs',rp',rfl⟩)) fun v s3 ⟨v',H3,I4,_,xs',rp',e3⟩=>?_
 subst e3
 have I5:=to_own I4 aC
 generalize hH5:upd (upd (upd H2 a (.lst xs)) a (.lst xs')) a (OwnO a xs')=H5 at I5
 have k25:SmA a H2 H5:=by
  subst hH5
  exact SmA.upd.trans (SmA.upd.trans SmA.upd)
 have ho5:H5 a=some (OwnO a xs'):=by subst hH5;exact aC
 have k15:SmA a H1 H5:=(SmA.of s12).trans k25
 refine ⟨σ,H5,I5,qq H5 xs' k15 ho5 (rp'.kp (k25.kp ho2)) σ (er.kp (k15.kp ho))⟩
theorem rN {x:Str} {e:Expr} {px ap cp:Pos} {f:R->Option D} (i:Nat) (he:SE X e f) (hN:X.N[i]?=some x:=by rfl) (hv:Vis X.env.scope x:=by first | exact Or.inl rfl | exact Or.inr (Or.inl rfl) | exact Or.inr (Or.inr rfl)) (hd:(x==("__debug__" : Str))=false:=by decide) (hcd:(x==("__classdict__" : Str))=false:=by decide)
  (hbase:attributeBase (.Name x px) "append" X.env (eval (.Name x px) X.env)=eval (.Name x px) X.env:=by rfl) (hst:noStar e=true:=by rfl)
  (hline:(ap.endLine==cp.line)=true:=by rfl) (hs:swapsWith (.Call (.Attribute (.Name x px) "append" ap) [e] [] cp) none pos.line X.env=pure false:=by rfl) :
  OS X (.Expr (.Call (.Attribute (.Name x px) "append" ap) [e] [] cp) pos) (oApp i f):=by
 refine tQ (g:=fun ds d=>if ds.length<sizeLine then some (ds++[d]) else none) (f:=f) i PySem.F.slot_list_append PySem.F.type_list_append kj ?_ ?_ he hN hv hd hcd hbase hst hline hs
 ·intro ρ ds o ds' h
  obtain ⟨d,e1,h⟩:=bindS h
  split at h
  ·rename_i hc
   cases h
   exact ⟨hc.1,rfl,d,e1,if_pos hc.2⟩
  ·cases h
 ·intro H a xs v ds ds' d Q ho rp rd e q
  split at e
  ·rename_i hc
   cases e
   exact ⟨a,xs,v,rfl,rfl,aC,by rw [<- rp.length];exact hc,q _ (rp.append (Reps.one rd))⟩
  ·cases e
theorem pi {w:R->List D->Option Out} (h1:OS X st p) (h2:OB X sts w):OB X (st::sts) (obSeq p w):=(dh h1 h2).imp fun E σ H ⟨ρ,τ,a,ds,xs,o,er,ho,rp,e,qq⟩=>by
 obtain ⟨⟨o1,ds1⟩,e1,e⟩:=bindS e
 refine ⟨ρ,τ,a,ds,xs,o1,ds1,er,ho,rp,e1,fun H1 xs1 k1 ho1 rp1=>?_⟩
 cases o1 with
 | nx ρ2=>exact fun σ2 er2=>⟨ρ2,τ,a,ds1,xs1,o,er2,ho1,rp1,e,fun H2 k2=>qq H2 (k1.trans k2)⟩
 | rt d=>cases e;exact qq H1 k1
 | bk ρ2=>cases e
 | ct ρ2=>cases e
theorem ud (h:SS X sts u):OB X sts (obRel u):=by
 intro pins s σ H E I ⟨ρ,τ,a,ds,xs,o,er,ho,rp,e,qq⟩
 have I2:=to_lst I ho
 have k:SmA a H (upd H a (.lst xs)):=SmA.upd
 have hσ:=qK er
 have er2:=er.kp (k.kp ho)
 refine h pins s σ _ E I2 ⟨ρ++[some (D.lst ds)],τ,o,⟨⟨?_,fun i d hd=>?_⟩,?_⟩,(show u (ρ++[some (D.lst ds)])=some o from e),fun H' s'=>qq H' (k.trans (SmA.of s'))⟩
 ·have:=(List.getElem?_eq_some_iff.mp hσ).1
  rw [List.length_append,List.length_singleton]
  exact this
 ·by_cases hi:i<ρ.length
  ·rw [List.getElem?_append_left hi] at hd
   exact er2.1.2 i d hd
  ·by_cases hi2:i=ρ.length
   ·subst hi2
    rw [List.getElem?_append_right (Nat.le_refl _),Nat.sub_self] at hd
    cases hd
    exact ⟨_,hσ,a,xs,rfl,aC,rp.kp (k.kp ho)⟩
   ·rw [List.getElem?_eq_none (by simp;omega)] at hd
    cases hd
 ·rw [List.length_append,List.length_singleton,<- List.drop_drop,er.2]
  rfl
theorem tU {x:Str} {es:List Expr} {F:R->Option (List D)} {w:R->List D->Option Out} {px p1:Pos} (i:Nat) (hN:X.N.Nodup) (hF:SA X es F) (h2:OB X sts w) (hix:X.N[i]?=some x:=by rfl) (hx:Loc X.env.scope x:=by first | exact Or.inl rfl | exact Or.inr rfl)
  (hl:Nat.ble es.length 1000=true:=by rfl) (hs:swapsWith (.List es p1) (some (.Name x px)) pos.line X.env=pure false:=by rfl) (hf:X.fn x=true\/X.env.scope.names.lookup x=some .local:=by first | exact .inl rfl | exact .inr rfl) :
  SS X (.Assign [.Name x px] (.List es p1) pos::sts) (ownD i F w):=by
 intro pins s σ H E I ⟨ρ,τ,o,er,e,qq⟩
 obtain ⟨ds,e1,e⟩:=bindS e
 split at e
 case isFalse=>cases e
 case isTrue hlen =>
 refine wpAny_execs_cons (thn ((jz (i:=i) hN hix hx (nZ hF.1) hs hf) pins s σ H {E with nx:=fun σ' H'=>∃ a vs H1,σ'=σ.set i (some (.ref a))/\H'=upd H1 a (.lst vs)/\H1 a=none/\Same H H1/\Reps X.K H1 ds vs} I ?_) fun f s1 q=>?_)
 ·refine ⟨ρ,ds,er.1,e1,fun vs H1 s1 r1=>⟨?_,fun a ha=>⟨a,vs,H1,rfl,rfl,ha,s1,r1⟩⟩⟩
  rw [<- r1.length,hF.2.1 ρ ds e1]
  exact Nat.le_of_lt (small1000 (Nat.le_of_ble_eq_true hl))
 cases f with
 | next =>
  obtain ⟨σ',H',I',a,vs,H1,rfl,rfl,ha,s1',r1⟩:=q
  have I2:=to_own I' aC
  generalize hH2:upd (upd H1 a (.lst vs)) a (OwnO a vs)=H2 at I2
  have k12:SmA a H1 H2:=by
   subst hH2
   exact SmA.upd.trans SmA.upd
  have s12:Same H1 H2:=fun b u hb=>k12 b u (fun z=>by rw [z,ha] at hb;cases hb) hb
  have ho2:H2 a=some (OwnO a vs):=by subst hH2;exact aC
  have hσi:i<σ.length:=Nat.lt_of_lt_of_le (by omega) er.1.1
  refine h2 pins s1 _ H2 E I2 ⟨ρ.take i,τ,a,ds,vs,o,⟨⟨?_,fun j d hd=>?_⟩,?_⟩,ho2,r1.mono s12,e,fun H' k=>qq H' fun b u hb=>?_⟩
  ·simp
   omega
  ·have hj:j<i:=by
    have:=(List.getElem?_eq_some_iff.mp hd).1
    simp at this
    omega
   rw [List.getElem?_take_of_lt hj] at hd
   obtain ⟨v,h1,h2⟩:=er.1.2 j d hd
   exact ⟨v,by rw [List.getElem?_set_ne (by omega)];exact h1,(h2.mono s1').mono s12⟩
  ·have hd:σ.drop (i+1)=τ:=by rw [<- hlen];exact er.2
   rw [List.length_take,Nat.min_eq_left (by omega),List.drop_eq_getElem_cons (by simpa using hσi)]
   congr 1
   ·simp
   ·rw [List.drop_set_of_lt (by omega)]
    exact hd
  ·have hb2:=s12 _ _ (s1' _ _ hb)
   exact k b u (fun z=>by
    have q:=s1' _ _ hb
    rw [z,ha] at q
    cases q) hb2
 | brk=>exact q
 | cont=>exact q
 | ret v=>exact q
end
end HW
namespace HW
open PySem PySem.Spec PyProof.Rows L2
mutual
theorem nz:∀ d:D,layD d=true->(toPy d).canLay0=true
 | .non,_=>by simp [toPy,PyData.canLay0]
 | .bl _,_=>by simp [toPy,PyData.canLay0]
 | .int _,_=>by simp [toPy,PyData.canLay0]
 | .str _,h=>by rw [layD] at h;simpa [toPy,PyData.canLay0,PyData.strOk] using h
 | .tup ds,h=>by rw [toPy,PyData.canLay0];exact iU ds h
 | .lst ds,h=>by rw [toPy,PyData.canLay0];exact iU ds h
 | .fro ds,h=>by rw [toPy,PyData.canLay0];exact iU ds h
 | .obj ..,h=>by cases h
theorem iU:∀ ds:List D,layDs ds=true->PyData.canLayAll0 (toPys ds)=true
 | [],_=>by simp [toPys,PyData.canLayAll0]
 | d::ds,h=>by
  have h':(layD d&&layDs ds)=true:=h
  rw [Bool.and_eq_true] at h'
  rw [toPys,PyData.canLayAll0,nz d h'.1,iU ds h'.2];rfl
end
mutual
theorem qR:∀ d:D,nob d=true->(toPy d).depth=depD d
 | .non,_=>by simp [toPy,PyData.depth,depD]
 | .bl _,_=>by simp [toPy,PyData.depth,depD]
 | .int _,_=>by simp [toPy,PyData.depth,depD]
 | .str _,_=>by simp [toPy,PyData.depth,depD]
 | .tup ds,h=>by rw [toPy,PyData.depth,depD,iW ds h]
 | .lst ds,h=>by rw [toPy,PyData.depth,depD,iW ds h]
 | .fro ds,h=>by rw [toPy,PyData.depth,depD,iW ds h]
 | .obj ..,h=>by cases h
theorem iW:∀ ds:List D,nobs ds=true->PyData.depthAll (toPys ds)=depDs ds
 | [],_=>by simp [toPys,PyData.depthAll,depDs]
 | d::ds,h=>by
  have h':(nob d&&nobs ds)=true:=h
  rw [Bool.and_eq_true] at h'
  rw [toPys,PyData.depthAll,depDs,qR d h'.1,iW ds h'.2]
end
mutual
theorem eqv_of:∀ x y:D,nob x=true->nob y=true->PyData.eqv (toPy x) (toPy y)=eqD x y
 | .non,y,_,h=>by cases y<;>first | rfl | cases h
 | .bl a,y,_,h=>by cases y<;>first | rfl | cases h
 | .int a,y,_,h=>by cases y<;>first | rfl | cases h
 | .str a,y,_,h=>by cases y<;>first | rfl | cases h
 | .tup xs,y,g,h=>by
  cases y with
  | tup ys=>exact eqv_ofs xs ys g h
  | obj _ _ _ _=>cases h
  | _=>rfl
 | .lst xs,y,g,h=>by
  cases y with
  | lst ys=>exact eqv_ofs xs ys g h
  | fro ys=>exact eqv_ofs xs ys g h
  | obj _ _ _ _=>cases h
  | _=>rfl
 | .fro xs,y,g,h=>by
  cases y with
  | lst ys=>exact eqv_ofs xs ys g h
  | fro ys=>exact eqv_ofs xs ys g h
  | obj _ _ _ _=>cases h
  | _=>rfl
 | .obj ..,y,g,h=>by cases g
theorem eqv_ofs:∀ xs ys:List D,nobs xs=true->nobs ys=true->PyData.eqvAll (toPys xs) (toPys ys)=eqDs xs ys
 | [],[],_,_=>rfl
 | [],_::_,_,_=>rfl
 | _::_,[],_,_=>rfl
 | x::xs,y::ys,g,h=>by
  have g':(nob x&&nobs xs)=true:=g
  have h':(nob y&&nobs ys)=true:=h
  rw [Bool.and_eq_true] at g' h'
  show (PyData.eqv (toPy x) (toPy y)&&PyData.eqvAll (toPys xs) (toPys ys))=(eqD x y&&eqDs xs ys)
  rw [eqv_of x y g'.1 h'.1,eqv_ofs xs ys g'.2 h'.2]
end
section
variable {X:Cx}
theorem deep_room {k:Nat} (hr:Room k X.A) {dx dy:D} (h:depD dx<=100) (hn:nob dx=true):X.A.units+min (toPy dx).depth (toPy dy).depth<cLine:=by
 have h1:=hr.un
 have h2:min (toPy dx).depth (toPy dy).depth<=100:=by rw [qR dx hn];omega
 omega
theorem rR {k:Nat} (hr:Room k X.A):CmD X .NotEq cNeD:=by
 intro pins s σ H x y v u Q I rx ry h
 obtain ⟨dx,dy,b,r1,r2,e,q⟩:=h
 unfold cNeD cEqD at e
 split at e
 ·rename_i hd
  cases e
  obtain ⟨as,ra⟩:=reads_of I (dL hd.2.1) r1 rx
  obtain ⟨bs,rb⟩:=reads_of I (dL hd.2.2) r2 ry
  have z:=SeqAt.rcNeAt_reads ra rb (nz dx hd.2.1) (nz dy hd.2.2) (deep_room (dy:=dy) hr hd.1 (dL hd.2.1))
  rw [eqv_of _ _ (dL hd.2.1) (dL hd.2.2)] at z
  exact PySem.EqBoolInt.of_rcne z ⟨.bl (!eqD dx dy),H,I,rfl,q⟩
 ·cases e
end
end HW
namespace HW
open PySem PySem.Spec PyProof.Rows L2
section
variable {prog:Program} {w:World} {A:Around} {R':Result->Shared->Prop} {I:Addr} {fp wr:List Addr} {n:Nat} {P:Nat->Value->Prop} {St:Nat->Heap->Prop}
abbrev kwD:List (Str×Value):=[(Str.ofString "default",Value.none)]
abbrev boxD (S:Addr) (vs:Array Value) (c:Nat) (h:Heap):Prop:=h.get? S=some {cls:=.type "list",dict:=none,data:=.seq vs c,slots:=#[]}
theorem loop_name:(toString "max" ++ toString ".loop" : String) = "max.loop":=by decide
theorem mx_rest (W:Walks prog w A.in1 I fp wr n P St) (bt:Nat->Nat->Bool) (hcmp:CmpOf prog w A.in1 .Gt P bt) (S:Addr) (hSf:S∉fp):∀ (k j:Nat) (s:Shared) (vb:Value) (c:Nat),n - (j+1)=k->j+1<=n->St (j+1) s.heap->P (argBest bt j) vb->boxD S #[vb,vb] c s.heap ->
  (∀ v h' tk,P (argBest bt (n - 1)) v->(∀ b o,b∉wr->b≠S->s.heap.get? b=some o->h'.get? b=some o)->R' (.ok (.ret v)) {s with heap:=h',toks:=tk})->codeAny (model prog w) A (.builtin "max.loop" ⟨[.ref I,.none,.ref S],kwD⟩) R' s:=by
 have hSw:S∉wr:=fun z=>hSf (W.sub _ z)
 intro k
 induction k with
 | zero =>
  intro j s vb c hk hj hst hPb hS hR
  have hin:j+1=n:=by omega
  refine codeAny_builtin F.entry_max_loop ?_;rw [Around.under_plainId F.plain_max_loop _];show wpAny _ A.in1 (seqItems? (.ref S) >>= _) _ _ s
  refine wpAny_bind (wpAny_seqItems hS rfl ?_);show wpAny _ A.in1 (tryCatch (pyNext (.ref I)) _ >>= _) _ _ s
  refine wpAny_bind (wpAny_tryCatch (W.done s _ _ (hin ▸ hst) fun h1 t1 k1=>?_));have hS1:=k1 S _ hSw hS
  show wpAny _ A.in1 (updateSeq S (fun _=>#[]) >>= _) _ _ _;refine wpAny_bind (wpAny_updateSeq hS1 rfl (wpAny_bind (wpAny_letGo (wpAny_pure ?_))))
  exact hR vb _ t1 (by rw [<- hin];exact hPb) fun b o hbw hbS e=>(Heap.get?_update_other _ _ (Ne.symm hbS)).trans (k1 b o hbw e)
 | succ k ih =>
  intro j s vb c hk hj hst hPb hS hR
  have hlt:j+1<n:=by omega
  refine codeAny_builtin F.entry_max_loop ?_;rw [Around.under_plainId F.plain_max_loop _];show wpAny _ A.in1 (seqItems? (.ref S) >>= _) _ _ s
  refine wpAny_bind (wpAny_seqItems hS rfl ?_);show wpAny _ A.in1 (tryCatch (pyNext (.ref I)) _ >>= _) _ _ s
  refine wpAny_bind (wpAny_tryCatch (W.item (j+1) s _ _ hlt hst fun v h1 t1 hP st1 k1=>?_));have hS1:=k1 S _ hSw hS
  show wpAny _ A.in1 (tryCatch (holding [v,v] (richCompare .Gt v vb >>= _)) _ >>= _) _ _ _;refine wpAny_bind (wpAny_tryCatch (wpAny_holding (wpAny_bind (hcmp (j+1) (argBest bt j) v vb _ _ _ hP hPb ?_))))
  refine wpAny_bind (wpAny_holding (wpAny_truthy_bool ?_));refine wpAny_bind (wpAny_letGo (wpAny_pure ?_))
  cases hb:bt (j+1) (argBest bt j) with
  | true =>
   simp only [if_true];refine wpAny_bind (wpAny_updateSeq hS1 rfl (wpAny_bind (wpAny_letGo ?_)));rw [loop_name]
   refine wpAny_pure ⟨plainId_quiet F.plain_max_loop _,ih (j+1) _ v _ (by omega) hlt (W.frame _ _ _ st1 fun b hbf o e=>?_) (by simp only [argBest,hb,if_true];exact hP) (Heap.get?_update_self _ hS1 rfl) fun v' h2 t2 hP' k2=>?_⟩
   ·refine (Heap.get?_update_other _ _ fun z:S=b=>hSf ?_).trans e;rw [z];exact hbf
   ·refine hR v' h2 t2 hP' fun b o hbw hbS e=>k2 b o hbw hbS ?_;exact (Heap.get?_update_other _ _ (Ne.symm hbS)).trans (k1 b o hbw e)
  | false =>
   simp only [Bool.false_eq_true,if_false];refine wpAny_bind (wpAny_letGo ?_);rw [loop_name]
   refine wpAny_pure ⟨plainId_quiet F.plain_max_loop _,ih (j+1) _ vb c (by omega) hlt st1 (by simp only [argBest,hb,Bool.false_eq_true,if_false];exact hPb) hS1 fun v' h2 t2 hP' k2=>?_⟩
   refine hR v' h2 t2 hP' fun b o hbw hbS e=>k2 b o hbw hbS ?_;exact k1 b o hbw e
theorem mx_first (W:Walks prog w A.in1 I fp wr n P St) (bt:Nat->Nat->Bool) (hcmp:CmpOf prog w A.in1 .Gt P bt) (S:Addr) (hSf:S∉fp) {s:Shared} {c:Nat} (hst:St 0 s.heap) (hS:boxD S #[] c s.heap)
  (h0:n=0->∀ h' tk,(∀ b o,b∉wr->b≠S->s.heap.get? b=some o->h'.get? b=some o)->R' (.ok (.ret .none)) {s with heap:=h',toks:=tk})
  (hR:0<n->∀ v h' tk,P (argBest bt (n - 1)) v->(∀ b o,b∉wr->b≠S->s.heap.get? b=some o->h'.get? b=some o)->R' (.ok (.ret v)) {s with heap:=h',toks:=tk}):codeAny (model prog w) A (.builtin "max.loop" ⟨[.ref I,.none,.ref S],kwD⟩) R' s:=by
 have hSw:S∉wr:=fun z=>hSf (W.sub _ z)
 refine codeAny_builtin F.entry_max_loop ?_;rw [Around.under_plainId F.plain_max_loop _];show wpAny _ A.in1 (seqItems? (.ref S) >>= _) _ _ s
 refine wpAny_bind (wpAny_seqItems hS rfl ?_);show wpAny _ A.in1 (tryCatch (pyNext (.ref I)) _ >>= _) _ _ s
 by_cases hn:0<n
 ·refine wpAny_bind (wpAny_tryCatch (W.item 0 s _ _ hn hst fun v h1 t1 hP st1 k1=>?_));have hS1:=k1 S _ hSw hS
  show wpAny _ A.in1 (updateSeq S (fun _=>#[v,v]) >>= _) _ _ _;refine wpAny_bind (wpAny_updateSeq hS1 rfl ?_);rw [loop_name]
  refine wpAny_pure ⟨plainId_quiet F.plain_max_loop _,mx_rest W bt hcmp S hSf _ 0 _ v _ rfl hn (W.frame _ _ _ st1 fun b hbf o e=>?_) hP (Heap.get?_update_self _ hS1 rfl) fun v' h2 t2 hP' k2=>?_⟩
  ·refine (Heap.get?_update_other _ _ fun z:S=b=>hSf ?_).trans e;rw [z];exact hbf
  ·refine hR hn v' h2 t2 hP' fun b o hbw hbS e=>k2 b o hbw hbS ?_;exact (Heap.get?_update_other _ _ (Ne.symm hbS)).trans (k1 b o hbw e)
 ·have hz:n=0:=by omega
  refine wpAny_bind (wpAny_tryCatch (W.done s _ _ (hz ▸ hst) fun h1 t1 k1=>?_))
  refine wpAny_bind (wpAny_rule (wpAny_pure ?_))
  exact h0 hz h1 t1 fun b o hbw hbS e=>k1 b o hbw e
end
section
variable {prog:Program} {w:World} {A:Around} {E:Value->Shared->Prop} {s:Shared}
theorem maxD_args (a:Value):argsOk "max" ⟨[a],kwD⟩:=by unfold argsOk;kernel_rfl
theorem im {l:Addr} {its:List Value} {val:Nat->Int} {Q:Value->Shared->Prop} (hh:A.handled=none) (hl:s.heap.IsList l its.toArray) (hv:∀ (i:Nat) v,its.toArray[i]?=some v->∃ t,v=.int (val i) t)
  (h0:its=[]->∀ h' tk,(∀ b o,s.heap.get? b=some o->h'.get? b=some o)->Q .none {s with heap:=h',toks:=tk})
  (h1:its ≠ []->∀ v h' tk,its.toArray[argBest (fun i j=>decide (val i > val j)) (its.length - 1)]?=some v->(∀ b o,s.heap.get? b=some o->h'.get? b=some o)->Q v {s with heap:=h',toks:=tk}) :
  wpAny (model prog w) A (call (.builtin "max") [.ref l] kwD) Q E s:=by
 refine wpAny_call (codeAny_call_builtin F.plain_max F.entry_max ?_)
 simp only [checkBuiltinCall,F.kind_max]
 have main:wpAny (model prog w) A.in1 (Builtin.«max» ⟨[.ref l],kwD⟩) (fun fin s'=>match fin with
   | .done f=>(match (Except.ok f:Result) with
    | .ok (.ret v)=>Q v s'
    | .ok _=>False
    | .error e=>E e s')
   | .again c'=>c'.quiet=true/\codeAny (model prog w) A c' (fun r s'=>match r with
    | .ok (.ret v)=>Q v s'
    | .ok _=>False
    | .error e=>E e s') s') E s:=by
  show wpAny _ A.in1 (Builtin.Builtins.bindParams "max" ["key","default"] 0 ⟨[],kwD⟩ >>= _) _ _ s
  refine wpAny_bind (wpAny_of_eq (show Builtin.Builtins.bindParams "max" ["key","default"] 0 ⟨[],kwD⟩=pure [none,some .none] from rfl) ?_)
  refine wpAny_bind (wpAny_pure (wpAny_bind (wpAny_pyIter_list hl ?_)))
  refine wpAny_bind (wpAny_newObj_type ?_)
  rw [loop_name]
  have hlt:l<s.heap.objs.size:=by
   obtain ⟨o,e,_⟩:=hl
   exact Heap.lt_size e
  generalize hI:s.heap.objs.size=J at hlt
  generalize h1e:s.heap.push {cls:=Value.type "list_iterator",data:=Data.fields #[Value.ref l,Value.int 0 0]}=H1
  have hJ:H1.objs.size=J+1:=by rw [<- h1e,Heap.size_push,hI]
  have k1:∀ b o,s.heap.get? b=some o->H1.get? b=some o:=fun b o e=>by rw [<- h1e];exact Heap.get?_push_of_some _ e
  have st1:H1.IsListIter J l 0/\H1.IsList l its.toArray:=⟨by rw [<- h1e,<- hI];exact ⟨_,Heap.get?_push_size _ rfl,rfl,rfl⟩,hl.at fun o e=>k1 _ _ e⟩
  have hne:l≠J:=Nat.ne_of_lt hlt
  have hSf:H1.objs.size ∉ [J,l]:=by
   rw [hJ]
   intro z
   rcases List.mem_cons.mp z with z | z
   ·exact absurd z (Nat.ne_of_gt (Nat.lt_succ_self J))
   ·rw [<- List.mem_singleton.mp z] at hlt
    exact absurd hlt (Nat.not_lt.mpr (Nat.le_succ J))
  have W:=Walks.list (prog:=prog) (w:=w) (A:=A.in1) hh J l hne its.toArray
  have old:∀ {h':Heap},(∀ b o,b ∉ [J]->b≠H1.objs.size->(H1.push {cls:=Value.type "list",data:=Data.seq ([]:List Value).toArray}).get? b=some o->h'.get? b=some o)->∀ b o,s.heap.get? b=some o->h'.get? b=some o:=fun kk b o e=>by
   have hb:b<J:=by rw [<- hI];exact Heap.lt_size e
   refine kk b o (fun z=>absurd (List.mem_singleton.mp z) (Nat.ne_of_lt hb)) ?_ (Heap.get?_push_of_some _ (k1 b o e))
   rw [hJ]
   exact Nat.ne_of_lt (Nat.lt_succ_of_lt hb)
  refine wpAny_pure ⟨plainId_quiet F.plain_max_loop _,mx_first W _ (CmpOf.ints_gt val hv) H1.objs.size hSf (W.frame _ _ _ st1 fun b _ o e=>Heap.get?_push_of_some _ e) (Heap.get?_push_size _ rfl) (fun hz h' tk kk=>?_) fun hn v h' tk hP kk=>?_⟩
  ·exact h0 (by simpa using hz) h' tk (old kk)
  ·refine h1 (fun z=>by subst z;simp at hn) v h' tk ?_ (old kk)
   simpa using hP
 cases hsig:Manifest.signature? "max" with
 | none=>exact wpAny_pure main
 | some sig =>
  have ha:=maxD_args (.ref l)
  simp only [argsOk,hsig] at ha
  have h2:Bind.checkArgs "max" sig ⟨[.ref l],kwD⟩=pure ():=ha
  show wpAny _ A.in1 (Bind.checkArgs "max" sig ⟨[.ref l],kwD⟩) _ _ s
  rw [h2]
  exact wpAny_pure main
end
section
variable {X:Cx}
theorem sr {e:Expr} {f:R->Option D} {p kp p2 pos:Pos} {j:Nat} (hc:X.calm=true) (hm:X.mg "max" = none) (he:SE X e f) (hg:Gl X "max":=by rfl) (hst:noStar e=true:=by rfl) :
  SE X (.Call (.Name "max" p) [e] [⟨some "default",.Constant .none j p2,kp⟩] pos) (callD fMaxD (argC f argN)):=by
 intro pins s σ H Q I ⟨ρ,d,er,eq,q⟩
 obtain ⟨ds,e1,e2⟩:=bindS eq
 have hst1:=aX [] X.env hst
 refine wpAny_Call_Name_kw (fO I hg hm boot_max ?_ (by decide) (by decide))
 refine callWith_kw (thn ((ab he af hst).1 pos pins s σ H (fun vs H2=>Same H H2/\Reps X.K H2 ds vs) I ⟨ρ,ds,er,e1,fun vs H2 s2 r2=>⟨s2,r2⟩⟩) fun us s1 ⟨vs,H1,I1,r1,s01,rp⟩=>?_) (by rw [hst1];rfl) (by rw [hst1];rfl) rfl rfl
 refine kws_cons (Constant_none (kws_nil ?_))
 have hh:=I1.ok.hd hc
 match ds,e2 with
 | [.lst []],e2 =>
  cases e2
  obtain ⟨v,r',rfl,⟨a,xs,rfl,ha,rx⟩,rr⟩:=rp
  cases (show r'=[] from rr)
  cases (show xs=[] from rx)
  obtain ⟨u,rfl,ru⟩:=r1.one
  cases (show u=_ from ru)
  obtain ⟨_,its,n,rv,hl,eo⟩:=I1.lstM ha
  cases rv
  exact im (val:=fun _=>0) hh ⟨_,eo,rfl,n,rfl⟩ (fun i v hv=>by simp at hv) (fun _ h' tk k=>⟨.non,H1,I1.kept k,rfl,q _ H1 s01 rfl⟩) fun z=>absurd rfl z
 | [.lst [.int a1]],e2 =>
  cases e2
  obtain ⟨v,r',rfl,⟨a,xs,rfl,ha,rx⟩,rr⟩:=rp
  cases (show r'=[] from rr)
  obtain ⟨x1,x2,rfl,rx1,rx2⟩:=rx
  cases (show x1=_ from rx1)
  cases (show x2=[] from rx2)
  obtain ⟨u,rfl,ru⟩:=r1.one
  cases (show u=_ from ru)
  obtain ⟨_,its,n,rv,hl,eo⟩:=I1.lstM ha
  obtain ⟨w1,rfl,t1,rfl⟩:=rv.one
  refine im (val:=fun _=>a1) hh ⟨_,eo,rfl,n,rfl⟩ (fun i v hv=>?_) (fun z=>by cases z) fun _ v h' tk hv k=>?_
  ·have z:=(Array.getElem?_eq_some_iff.mp hv).1
   have z0:i=0:=by simpa using z
   subst z0
   exact ⟨t1,(Option.some.inj hv).symm⟩
  ·have hv':Value.int a1 t1=v:=Option.some.inj hv
   subst hv'
   exact ⟨.int a1,H1,I1.kept k,⟨t1,rfl⟩,q _ H1 s01 rfl⟩
 | [.lst [.int a1,.int a2]],e2 =>
  cases e2
  obtain ⟨v,r',rfl,⟨a,xs,rfl,ha,rx⟩,rr⟩:=rp
  cases (show r'=[] from rr)
  have hx:=ints2 rx
  subst hx
  obtain ⟨u,rfl,ru⟩:=r1.one
  cases (show u=_ from ru)
  obtain ⟨_,its,n,rv,hl,eo⟩:=I1.lstM ha
  obtain ⟨w1,w2,rfl,⟨t1,rfl⟩,⟨t2,rfl⟩⟩:=vals2 rv
  refine im (val:=fun i=>if i=0 then a1 else a2) hh ⟨_,eo,rfl,n,rfl⟩ (fun i v hv=>?_) (fun z=>by cases z) fun _ v h' tk hv k=>?_
  ·have z:=(Array.getElem?_eq_some_iff.mp hv).1
   have z0:i=0\/i=1:=by
    have:i<2:=by simpa using z
    omega
   rcases z0 with rfl | rfl
   ·exact ⟨t1,(Option.some.inj hv).symm⟩
   ·exact ⟨t2,(Option.some.inj hv).symm⟩
  ·by_cases hgt:a2 > a1
   ·have hb:argBest (fun i j=>decide ((if i=0 then a1 else a2) > (if j=0 then a1 else a2))) ([Value.int a1 t1,Value.int a2 t2].length - 1)=1:=by simp [argBest,hgt]
    rw [hb] at hv
    have hv':Value.int a2 t2=v:=Option.some.inj hv
    subst hv'
    exact ⟨.int a2,H1,I1.kept k,⟨t2,rfl⟩,q _ H1 s01 (by show V.int a2=V.int _;rw [if_pos hgt])⟩
   ·have hb:argBest (fun i j=>decide ((if i=0 then a1 else a2) > (if j=0 then a1 else a2))) ([Value.int a1 t1,Value.int a2 t2].length - 1)=0:=by simp [argBest,hgt]
    rw [hb] at hv
    have hv':Value.int a1 t1=v:=Option.some.inj hv
    subst hv'
    exact ⟨.int a1,H1,I1.kept k,⟨t1,rfl⟩,q _ H1 s01 (by show V.int a1=V.int _;rw [if_neg hgt])⟩
end
end HW
namespace HW
open PySem PySem.Spec PyProof.Rows L2
section
open PySem.SeqAt
open AutoSeq1 (wpAny_loadPart')
open MeetsSeq MeetsSeq2 MeetsSeq3 SeqRoads2
theorem tuple_indexAt (l:Addr) (items:Array Value) (n:Nat) (dd:Option Addr) (sl:Array (Option Value)) (x:Value) (j:Nat) (hj:j<items.size) :
  Meets (Builtin.«tuple.index» ⟨[.ref l,x],[]⟩) (fun A R s=>s.heap.get? l=some {cls:=.type "tuple",dict:=dd,data:=.seq items n,slots:=sl}/\(∀ i (h:i<items.size),i<=j->EqAt A.in1 s items[i] x (decide (i=j)))/\R (.ok (.ret (.int (j:Int) s.toks))) {s with toks:=s.toks+1}) :=
 .of_wp fun prog w A R s h=>by
  obtain ⟨hp,g,d,tk,os⟩:=s
  obtain ⟨hl,he,h⟩:=h
  unfold Builtin.«tuple.index»
  simp only [Std.Legacy.Range.forIn_eq_forIn_range']
  wp_walk using wpAny_loadPart' hl,wpAny_forIn_list _ (fun rest b s'=>s'=⟨hp,g,d,tk,os⟩/\b=(none,())/\∃ k,k<=j/\rest=List.range' k (items.size - k)) _
  case turn =>
   rintro i rest b s' ⟨rfl,rfl,k,hk,e⟩
   have hs:items.size - k=(items.size - (k+1))+1:=by omega
   rw [hs,List.range'_succ] at e
   cases e
   have hlt:i<items.size:=by omega
   have hi:items[i]?=some items[i]:=by simp [hlt]
   rw [hi]
   refine wpAny_bind (he i hlt hk prog w _ _ ?_)
   by_cases hij:i=j
   ·subst hij
    rw [decide_eq_true rfl]
    wp_walk
    exact ⟨_,rfl,h⟩
   ·rw [decide_eq_false hij]
    wp_walk
    exact ⟨rfl,rfl,i+1,by omega,rfl⟩
  case fin =>
   rintro b s' ⟨rfl,rfl,k,hk,e⟩
   have hs:items.size - k=(items.size - (k+1))+1:=by omega
   rw [hs,List.range'_succ] at e
   cases e
  case h =>
   refine ⟨rfl,rfl,0,Nat.zero_le _,?_⟩
   simp
end
def ConS (K:PySem.W.Frag) (mg:Str->Option Value) (x:Str) (ws:List Str):Prop:=∃ a its n sl,mg x=some (.ref a)/\K.lookup a=some ⟨.type "tuple",none,.seq its n,sl⟩/\Vals (ws.map V.str) its.toList
section
variable {X:Cx}
def rIdx (K:PySem.W.Frag):V->List V->Hp->VK->Prop:=fun x vs H Q=>∃ (p:Addr) (its:Array Value) (n:Nat) (sl:Array (Option Value)) (ws:List Str) (z:Str) (j:Nat),x=.ref p/\vs=[.str z]/\K.lookup p=some ⟨.type "tuple",none,.seq its n,sl⟩/\Vals (ws.map V.str) its.toList/\ws.findIdx? (·==z)=some j/\Q (.int (j:Nat)) H
theorem tY:MtR X "tuple.index" (rIdx X.K):=by
 intro pins s σ H x vs v us Q I rx rv h
 obtain ⟨p,its,n,sl,ws,z,j,rfl,rfl,hk,hv,hj,q⟩:=h
 cases (show v=_ from rx)
 obtain ⟨u,rfl,t,rfl⟩:=rv.one
 have e:=I.kIn p _ hk
 obtain ⟨h1,h2,h3⟩:=List.findIdx?_eq_some_iff_getElem.mp hj
 have hlen:ws.length=its.size:=by have:=hv.length;simpa using this
 refine call_meets F.slot_tuple_index ⟨_,e,rfl⟩ F.entry_tuple_index (F.args_tuple_index_2 _ _) (tuple_indexAt p its n none sl (.str z t) j (by omega)) ⟨e,fun i hi hle=>?_,?_⟩
 ·have hw:i<ws.length:=by omega
  obtain ⟨u,hu,ru⟩:=hv.get (i:=i) (x:=.str ws[i]) (by simp [hw])
  obtain ⟨t2,rfl⟩:=ru
  have he:its[i]=Value.str ws[i] t2:=by
   have:its[i]?=some (Value.str ws[i] t2):=by simpa using hu
   rw [Array.getElem?_eq_getElem hi] at this
   exact Option.some.inj this
  rw [he]
  have hb:(ws[i]==z)=decide (i=j):=by
   by_cases hij:i=j
   ·subst hij
    rw [decide_eq_true rfl]
    exact h2
   ·rw [decide_eq_false hij]
    exact Bool.eq_false_iff.mpr (h3 i (by omega))
  rw [<- hb]
  exact SeqAt.EqAt.str_str _ _ _ _
 ·exact ⟨.int (j:Nat),H,I.tok _,⟨_,rfl⟩,q⟩
theorem tV {x:Str} {ws:List Str} {e:Expr} {f:R->Option D} {px ap cp:Pos} (hc:ConS X.K X.mg x ws) (he:SE X e f) (hg:Gl X x:=by rfl) (hd:(x==("__debug__" : Str))=false:=by decide)
  (hbase:attributeBase (.Name x px) "index" X.env (eval (.Name x px) X.env)=eval (.Name x px) X.env:=by rfl) (hst:noStar e=true:=by rfl) (hline:(ap.endLine==cp.line)=true:=by rfl) :
  SE X (.Call (.Attribute (.Name x px) "index" ap) [e] [] cp) (op1 (dIdx ws) f):=by
 obtain ⟨a,its,n,sl,hm,hk,hv⟩:=hc
 have hs:=aX [] X.env hst
 refine (sU (T:="tuple") PySem.F.plainAttrs_tuple PySem.F.slot_tuple_index PySem.F.type_tuple_index tY (kY (v:=.ref a) hg hm rfl hd) (ab he af hst).1 hbase (by rw [hs];rfl) hline hs rfl).imp fun σ H Q ⟨ρ,d,er,e,q⟩=>?_
 obtain ⟨y,e1,e⟩:=bindS e
 cases y with
 | str z =>
  obtain ⟨j,e2,e3⟩:=mapS e
  subst e3
  refine ⟨.inr (.inl ⟨rfl,_,hk,rfl,rfl⟩),ρ,[.str z],er,by show (f ρ).bind _=_;rw [e1];rfl,fun vs H2 s2 r2=>?_⟩
  obtain ⟨v,r',rfl,h1,h2⟩:=r2
  cases (show v=_ from h1)
  cases (show r'=[] from h2)
  exact ⟨a,its,n,sl,ws,z,j,rfl,rfl,hk,hv,e2,q _ H2 s2 rfl⟩
 | _=>cases e
end
section
variable {X:Cx}
def rUp:V->List V->Hp->VK->Prop:=fun x vs H Q=>∃ z w,x=.str z/\vs=[]/\upTab z=some w/\Q (.str w) H
theorem up_fact {z w:Str} (h:upTab z=some w):Builtin.Str.tooLong (placed z fun _ c=>Unicode.upperOf c).size=false/\(⟨placed z fun _ c=>Unicode.upperOf c⟩:Str)=w:=by
 unfold upTab at h
 split at h
 ·rename_i e;cases h;subst e;exact ⟨by decide +kernel,by decide +kernel⟩
 ·split at h
  ·rename_i e;cases h;subst e;exact ⟨by decide +kernel,by decide +kernel⟩
  ·split at h
   ·rename_i e;cases h;subst e;exact ⟨by decide +kernel,by decide +kernel⟩
   ·cases h
theorem uw:MtR X "str.upper" rUp:=by
 intro pins s σ H x vs v us Q I rx rv h
 obtain ⟨z,w,rfl,rfl,hz,q⟩:=h
 obtain ⟨t,rfl⟩:=rx
 cases rv
 obtain ⟨f1,f2⟩:=up_fact hz
 exact call_gives F.slot_str_upper (typeIs_str s z t) F.entry_str_upper (F.args_str_upper_1 _) (gives_str_upper z t f1) ⟨Nat.le_of_not_lt (of_decide_eq_false f1),.str w,H,I.tok _,⟨_,by rw [f2]⟩,q⟩
theorem sZ {a:Expr} {f:R->Option D} {ap cp:Pos} (ha:SE X a f) (hbase:attributeBase a "upper" X.env (eval a X.env)=eval a X.env:=by rfl) (hline:(ap.endLine==cp.line)=true:=by rfl) :
  SE X (.Call (.Attribute a "upper" ap) [] [] cp) (op1 dUp f):=(tH (T:="str") PySem.F.plainAttrs_str PySem.F.slot_str_upper PySem.F.type_str_upper uw ha hbase hline).imp fun σ H Q ⟨ρ,d,er,e,q⟩=>by
 obtain ⟨x,e1,e⟩:=bindS e
 cases x with
 | str z =>
  obtain ⟨w,e2,e3⟩:=mapS e
  subst e3
  exact ⟨ρ,_,er,e1,fun v H1 s1 r1=>by cases (show v=_ from r1);exact ⟨rfl,z,w,rfl,rfl,e2,q _ H1 s1 rfl⟩⟩
 | _=>cases e
end
end HW
namespace HW
open PySem PySem.Spec PyProof.Rows L2
section
variable {X:Cx} {i k:Nat} {fa:Addr} {e a:Expr} {es:List Expr} {pos p:Pos} {f:R->Option D} {F:R->Option (List D)} {G:List D->Option D}
def ExS (i:Nat) (fa:Addr) (σ:L2.St):Prop:=σ[i]?=some (some (.ref fa))
def SEx (X:Cx) (i:Nat) (fa:Addr) (e:Expr) (f:R->Option D):Prop:=PE X e (fun σ H Q=>ExS i fa σ/\tD X.K f σ H Q)
def SAx (X:Cx) (i:Nat) (fa:Addr) (es:List Expr) (F:R->Option (List D)):Prop:=PA X es (fun σ H Q=>ExS i fa σ/\tDA X.K F σ H Q)/\(∀ ρ ds,F ρ=some ds->ds.length=es.length)/\es.all noStar=true
def SSx (X:Cx) (i:Nat) (fa:Addr) (st:Stmt) (g:R->Option Out):Prop:=PS X st (fun E σ H=>ExS i fa σ/\tDS X.K g E σ H)
def FnK (P:Program) (w:World) (K:PySem.W.Frag) (mg:Str->Option Value) (base:Heap) (k:Nat) (fa:Addr) (G:List D->Option D):Prop:=∃ fd ps,FnOk P w K mg base CX0 k fa fd ps (spD K G)/\PySem.W.keepIn K (.ref fa)=true/\Binds K fd ps []
theorem fnk_of {P:Program} {w:World} {K:PySem.W.Frag} {mg:Str->Option Value} {base:Heap} {x:Str} {ps:List Str} (C:Cal P w K mg base k x ps G) (h:mg x=some (.ref fa)):FnK P w K mg base k fa G:=by
 obtain ⟨f,fd,a,m,kp,bd⟩:=C.ex
 rw [h] at m
 cases m
 exact ⟨fd,ps,a,kp,bd⟩
theorem sax_of (h:SA X es F):SAx X i fa es F:=⟨h.1.imp fun _ _ _ q=>q.2,h.2⟩
theorem sax_cons (ha:SEx X i fa e f) (hr:SAx X i fa es F) (hs:noStar e=true:=by rfl):SAx X i fa (e::es) (argC f F):=⟨(iP ha hr.1 (aX es X.env hs)).imp fun σ H Q ⟨x,ρ,ds,er,e,q⟩=>by
 obtain ⟨d,e1,e⟩:=bindS e
 obtain ⟨y,e2,e⟩:=mapS e
 subst e
 exact ⟨x,ρ,d,er,e1,fun v H1 s1 r1=>⟨x,ρ,y,er.mono s1,e2,fun vs H2 s2 r2=>q _ H2 (s1.trans s2) (Reps.cons (r1.mono s2) r2)⟩⟩,fun ρ ds e=>by
 obtain ⟨d,e1,e⟩:=bindS e
 obtain ⟨y,e2,e⟩:=mapS e
 subst e
 simp [hr.2.1 ρ y e2],by rw [List.all_cons,hs,hr.2.2];rfl⟩
theorem sex_call {x:Str} {ps:List Str} (C:Cal X.prog X.w X.K X.mg X.base k x ps G) (hr:Room k X.A) (ha:SAx X i fa (e::es) F) (hg:Gl X x:=by rfl)
  (hdb:(x==("__debug__" : Str))=false:=by decide):SEx X i fa (.Call (.Name x p) (e::es) [] pos) (callD G F):=by
 have hst:=ha.2.2
 rw [List.all_cons,Bool.and_eq_true] at hst
 have he:=aX es X.env hst.1
 have hpl:=dr (pos:=pos) (env:=X.env) hst.2
 obtain ⟨f,fd,a,m,kp,bd⟩:=C.ex
 refine (iX a hr hg m kp bd .nil pass0 ha.1 hdb he hpl).imp fun σ H Q ⟨x,ρ,d,er,e,q⟩=>?_
 obtain ⟨ds,e1,e⟩:=bindS e
 exact ⟨x,ρ,ds,er,e1,fun vs H1 s1 r1=>⟨ds,d,by rw [List.append_nil];exact r1,e,fun v H2 s2 r2=>q v H2 (s1.trans s2) r2⟩⟩
theorem sex_callL {x:Str} (hF:FnK X.prog X.w X.K X.mg X.base k fa G) (hr:Room k X.A) (ha:SA X (e::es) F) (hN:X.N[i]?=some x:=by rfl) (hv:Vis X.env.scope x:=by first | exact Or.inl rfl | exact Or.inr (Or.inl rfl) | exact Or.inr (Or.inr rfl))
  (hd:(x==("__debug__" : Str))=false:=by decide) (hcd:(x==("__classdict__" : Str))=false:=by decide):SEx X i fa (.Call (.Name x p) (e::es) [] pos) (callD G F):=by
 have hst:=ha.2.2
 rw [List.all_cons,Bool.and_eq_true] at hst
 have he:=aX es X.env hst.1
 have hpl:=dr (pos:=pos) (env:=X.env) hst.2
 obtain ⟨fd,ps,a,kp,bd⟩:=hF
 intro pins s σ H Q I h
 obtain ⟨x1,ρ,d,er,e,q⟩:=h
 obtain ⟨ds,e1,e⟩:=bindS e
 refine wpAny_Call_Name_kw (thn (oy (pos:=p) hN hv hd hcd pins s σ H (fun v H1=>v=.ref fa/\H1=H) I ⟨.ref fa,x1,rfl,rfl⟩) fun u s1 ⟨v,H1,I1,rv,ev,eH⟩=>?_)
 subst ev eH
 cases (show u=_ from rv)
 refine PySem.W.callWith_K (h₀:=X.base) I1.ok.mod.kin kp (thn (ha.1 pos pins s1 σ H1 (fun vs H2=>Same H1 H2/\Reps X.K H2 ds vs) I1 ⟨ρ,ds,er,e1,fun vs H2 s2 r2=>⟨s2,r2⟩⟩) fun us s2 ⟨vs,H2,I2,r,s12,rp⟩=>⟨I2.kIn,?_⟩) he hpl
 exact run_fn a hr bd .nil pass0 I2 r ⟨ds,d,by rw [List.append_nil];exact rp,e,fun v H3 s3 r3=>q v H3 (s12.trans s3) r3⟩
theorem sx_ret (ha:SEx X i fa a f):SSx X i fa (.Return (some a) pos) (retD f):=(oi ha).imp fun E σ H ⟨x,ρ,τ,o,er,e,q⟩=>by
 obtain ⟨d,e1,e⟩:=mapS e
 subst e
 exact ⟨x,ρ,d,er.1,e1,fun v H1 s1 r1=>q H1 s1 v r1⟩
inductive Tab (P:Program) (w:World) (K:PySem.W.Frag) (mg:Str->Option Value) (base:Heap) (k:Nat):List (Str×(List D->Option D))->List (Str×Value)->Prop
 | nil:Tab P w K mg base k [] []
 | cons {z:Str} {G:List D->Option D} {fa:Addr} {t:List (Str×(List D->Option D))} {vs:List (Str×Value)}:FnK P w K mg base k fa G->Tab P w K mg base k t vs->Tab P w K mg base k ((z,G)::t) ((z,.ref fa)::vs)
theorem Tab.get {P:Program} {w:World} {K:PySem.W.Frag} {mg:Str->Option Value} {base:Heap} {t:List (Str×(List D->Option D))} {vs:List (Str×Value)} (h:Tab P w K mg base k t vs) {z:Str} (e:t.lookup z=some G):∃ fa,valueAt vs z=some (.ref fa)/\FnK P w K mg base k fa G:=by
 induction h with
 | nil=>cases e
 | @cons y G' fa t vs h1 h2 ih =>
  unfold valueAt
  rw [List.find?_cons]
  by_cases hz:y=z
  ·subst hz
   rw [List.lookup_cons,beq_self_eq_true] at e
   cases e
   simp
   exact h1
  ·rw [List.lookup_cons,beq_eq_false_iff_ne.mpr (fun q=>hz q.symm)] at e
   obtain ⟨fb,q1,q2⟩:=ih e
   refine ⟨fb,?_,q2⟩
   unfold valueAt at q1
   simp [hz]
   simpa using q1
def TabOk (P:Program) (w:World) (K:PySem.W.Frag) (mg:Str->Option Value) (base:Heap) (k:Nat) (T:Str) (t:List (Str×(List D->Option D))):Prop:=∃ a vs,mg T=some (.ref a)/\(∀ h:Heap,K.In h->h.DictOf (strKind P w) a vs)/\Tab P w K mg base k t vs
def entries (w:World):List (Str×Tok×Value)->List DictEntry
 | []=>[]
 | (z,t,v)::r=>{hash:=PyData.keyHash w.params z,key:=.str z t,val:=v}::entries w r
theorem qS {P:Program} {w:World} {K:PySem.W.Frag} {a:Addr} {n:Nat} (l:List (Str×Tok×Value)) (hk:K.lookup a=some ⟨.type "dict",none,.dict (entries w l).toArray n,#[]⟩) (hn:(l.map (·.1)).Nodup) (h:Heap) (X:K.In h) :
  h.DictOf (strKind P w) a (l.map fun p=>(p.1,p.2.2)):=by
 refine ⟨_,_,_,X _ _ hk,⟨rfl,rfl,rfl⟩,rfl,?_,?_,?_⟩
 ·intro e he
  have he':e∈entries w l:=by simpa using he
  clear he hk hn
  induction l with
  | nil=>cases he'
  | cons p l ih =>
   obtain ⟨z,t,v⟩:=p
   rcases List.mem_cons.mp he' with rfl | h2
   ·exact ⟨z,strKind_is P w z t,rfl⟩
   ·exact ih h2
 ·show Pairs _ (entries w l) _
  clear hk hn
  induction l with
  | nil=>exact .nil
  | cons p l ih =>
   obtain ⟨z,t,v⟩:=p
   exact .cons (strKind_is P w z t) rfl ih
 ·rw [List.map_map]
  exact hn
theorem EnvR.hide {K:PySem.W.Frag} {H:Hp} {ρ:R} {σ:L2.St} (e:EnvR K H ρ σ) (i:Nat) (v:Option V):EnvR K H (ρ.set i none) (σ.set i v):=by
 refine ⟨by simpa using e.1,fun j c h=>?_⟩
 by_cases hj:i=j
 ·subst hj
  by_cases hi:i<ρ.length
  ·rw [List.getElem?_set_self hi] at h
   cases h
  ·rw [List.getElem?_eq_none (by simpa using hi)] at h
   cases h
 ·rw [List.getElem?_set_ne hj] at h ⊢
  exact e.2 j c h
theorem ur {T x:Str} {pt px ps:Pos} {st:Stmt} {t:List (Str×(List D->Option D))} {g:(List D->Option D)->R->Option Out} (i:Nat) (hN:X.N.Nodup) (hT:TabOk X.prog X.w X.K X.mg X.base k T t) (he:SE X e f) (hb:∀ fa G,FnK X.prog X.w X.K X.mg X.base k fa G->SSx X i fa st (g G))
  (hg:Gl X T:=by rfl) (hi:X.N[i]?=some x:=by rfl) (hx:Loc X.env.scope x:=by first | exact Or.inl rfl | exact Or.inr rfl) (hs:PlainIx e:=by intro _ _;rfl)
  (hw:swapsWith (.Subscript (.Name T pt) e ps) (some (.Name x px)) pos.line X.env=pure false:=by rfl) (hf:X.fn x=true\/X.env.scope.names.lookup x=some .local:=by first | exact .inl rfl | exact .inr rfl) (hdb:(T==("__debug__" : Str))=false:=by decide) :
  SS X [.Assign [.Name x px] (.Subscript (.Name T pt) e ps) pos,st] (fnD i t f g):=by
 obtain ⟨a,vs,hm,hd,ht⟩:=hT
 have hix:IxR X (fun x y H Q=>∃ z fa,x=.ref a/\y=.str z/\valueAt vs z=some (.ref fa)/\Q (.ref fa) H):=by
  intro value slice pins s σ H x y v u Q I rx ry h hs
  obtain ⟨z,fa,rfl,rfl,hv,q⟩:=h
  cases rx
  obtain ⟨tk,rfl⟩:=ry
  have hdd:=hd s.heap I.kIn
  exact tail_any hdd.mapOf.typeIs PySem.F.slot_dict_getitem.lookup (wpAny_getItem_of (strKind_is X.prog X.w z tk) hdd.mapOf hv ⟨.ref fa,H,I.tok _,rfl,q⟩) hs
 have hsub:=sX (pos:=ps) hix (kY (pos:=pt) (v:=.ref a) hg hm rfl hdb) he hs
 intro pins s σ H E I h
 obtain ⟨ρ,τ,o,er,ef,q⟩:=h
 obtain ⟨d,e1,ef⟩:=bindS ef
 cases d with
 | str z =>
  obtain ⟨G,e2,e3⟩:=bindS ef
  obtain ⟨fa,hv,hF⟩:=ht.get e2
  have hl:i<σ.length:=by
   rw [I.len]
   exact (List.getElem?_eq_some_iff.mp hi).1
  split at e3
  case isFalse=>cases e3
  case isTrue hlt =>
  refine dh (jz hN hi hx hsub hw hf) (gv (hb fa G hF)) pins s σ H E I ?_
  refine ⟨ρ,_,er.1,e1,fun v H1 s1 r1=>⟨z,fa,rfl,r1,hv,?_⟩⟩
  refine ⟨List.getElem?_set_self hl,ρ.set i none,τ,o,⟨(er.1.mono s1).hide i _,?_⟩,e3,fun H2 s2=>q H2 (s1.trans s2)⟩
  rw [List.length_set,List.drop_set_of_lt hlt]
  exact er.2
 | _=>cases ef
end
section
variable {X:Cx}
end
end HW
namespace HW
open PySem PySem.Spec PyProof.Rows L2
section
variable {X:Cx} {a:Expr} {f:R->Option D} {pos p2:Pos}
end
theorem ln1 {us:List Value} (h:us.length=1):∃ x0,us=[x0]:=by
 match us,h with
 | [x0],_=>exact ⟨x0,rfl⟩
theorem ln2 {us:List Value} (h:us.length=2):∃ x0 x1,us=[x0,x1]:=by
 match us,h with
 | [x0,x1],_=>exact ⟨x0,x1,rfl⟩
theorem ln3 {us:List Value} (h:us.length=3):∃ x0 x1 x2,us=[x0,x1,x2]:=by
 match us,h with
 | [x0,x1,x2],_=>exact ⟨x0,x1,x2,rfl⟩
end HW
namespace HW
open PySem PySem.Spec PyProof.Rows L2
section
variable {X:Cx}
def MtD (X:Cx) (id:String) (G:List D->Option D):Prop:=MtR X id fun x vs H Q=>∃ dx ds d,Rep X.K H dx x/\Reps X.K H ds vs/\G (dx::ds)=some d/\∀ v H',Same H H'->Rep X.K H' d v->Q v H'
theorem uo {a e:Expr} {es:List Expr} {f:R->Option D} {F:R->Option (List D)} {G:List D->Option D} {name:Str} {id:String} {ap cp:Pos} (slot:Slot "str" name id)
    (hty:typeOf (.builtin id)=pure (.type "method_descriptor")) (hm:MtD X id G) (hG:∀ x ds d,G (x::ds)=some d->∃ z,x=.str z) (ha:SE X a f) (hF:SA X (e::es) F)
    (hbase:attributeBase a name X.env (eval a X.env)=eval a X.env:=by rfl)
    (hfew:((backTo cp (starEach (e::es) X.env)).all (fun x=>!x.1)&&(backToKw cp (keywordEach [] X.env)).all (fun x=>x.1.isSome)
      && decide ((e::es).length+([]:List Keyword).length+(if ([]:List Keyword).isEmpty then 0 else 1)<30))=true:=by rfl)
    (hline:(ap.endLine==cp.line)=true:=by rfl) :
    SE X (.Call (.Attribute a name ap) (e::es) [] cp) (callD G (argC f F)):=by
  have hst:=hF.2.2
  rw [List.all_cons,Bool.and_eq_true] at hst
  refine (sU (T:="str") PySem.F.plainAttrs_str slot hty hm ha hF.1 hbase hfew hline (aX es X.env hst.1) (dr (pos:=cp) (env:=X.env) hst.2)).imp fun σ H Q ⟨ρ,d,er,e,q⟩=>?_
  obtain ⟨dd,e1,e⟩:=bindS e
  obtain ⟨x,e2,e1⟩:=bindS e1
  obtain ⟨ds,e3,e1⟩:=mapS e1
  subst e1
  obtain ⟨z,rfl⟩:=hG x ds d e
  exact ⟨ρ,_,er,e2,fun v H1 s1 r1=>⟨by cases (show v=_ from r1);exact rfl,ρ,ds,er.mono s1,e3,fun vs H2 s2 r2=>⟨.str z,ds,d,r1.mono s2,r2,e,fun u H3 s3 r3=>q u H3 (s1.trans (s2.trans s3)) r3⟩⟩⟩
end
end HW
namespace HW
open PySem PySem.Spec PyProof.Rows L2
section
variable {prog:Program} {w:World} {A:Around} {E:Value->Shared->Prop} {s:Shared}
end
section
variable {X:Cx}
end
end HW
namespace HW
open PySem PySem.Spec PyProof.Rows L2
section
variable {X:Cx}
theorem noFill_tuple_mul:fillsNumberSlot (.type "tuple") "mul" = pure false :=
 PySem.fillsNumberSlot_seq (id:="tuple.__mul__") (r:=some (.builtin "tuple.__rmul__")) PySem.F.slot_tuple_mul.lookup (by decide +kernel) PySem.F.slot_tuple_rmul.lookup (by decide +kernel)
theorem repeat_tuple:seqRepeat? (.type "tuple")=pure (some (.builtin "tuple.__mul__")):=by
 unfold seqRepeat?
 rw [PySem.seqSlot_of (T:="tuple") (name:="__mul__") (id:="tuple.__mul__") PySem.F.slot_tuple_mul.lookup (by decide +kernel),PySem.seqSlot_of (T:="tuple") (name:="__rmul__") (id:="tuple.__rmul__") PySem.F.slot_tuple_rmul.lookup (by decide +kernel)]
 rfl
theorem int_rmul_tuple (a:Int) (t:Tok) (l:Addr) (items:Array Value) (n:Nat) (dd:Option Addr) (sl:Array (Option Value)) :
  Meets (Builtin.«int.__rmul__» ⟨[.int a t,.ref l],[]⟩) (fun _ R s=>s.heap.get? l=some {cls:=.type "tuple",dict:=dd,data:=.seq items n,slots:=sl}/\R (.ok (.ret Value.notImplemented)) s) :=
 .of_wp fun prog w A R s h=>by obtain ⟨hp,g,d,tk,os⟩:=s;obtain ⟨hl,h⟩:=h;wp_walk;exact ⟨_,rfl,h⟩
theorem ffB {b:Bool} (h:b=false):decide (b=true)=false:=by subst h;rfl
theorem tuple_mul_same (l:Addr) (items:Array Value) (n:Nat) (dd:Option Addr) (sl:Array (Option Value)) (k:Int) (u:Tok) (h1:(decide (k < -(2 ^ 63))||decide (k ≥ 2 ^ 63))=false) (h2:(items.isEmpty||k==1)=true) :
  Meets (Builtin.«tuple.__mul__» ⟨[.ref l,.int k u],[]⟩) (fun _ R s=>s.heap.get? l=some {cls:=.type "tuple",dict:=dd,data:=.seq items n,slots:=sl}/\R (.ok (.ret (.ref l))) s) :=
 .of_wp fun prog w A R s h=>by
  obtain ⟨hp,g,d,tk,os⟩:=s;obtain ⟨hl,h⟩:=h;have f1:=AutoSeq1.idx_int;have f2:=AutoSeq1.sub_tuple_tuple
  wp_walk using wpAny_loadPart' hl
  refine wpAny_ite_false (ffB h1) ?_
  wp_walk using wpAny_loadPart' hl
  exact ⟨_,rfl,h⟩
theorem tuple_mul_new (l:Addr) (items:Array Value) (n:Nat) (dd:Option Addr) (sl:Array (Option Value)) (k:Int) (u:Tok) (h1:(decide (k < -(2 ^ 63))||decide (k ≥ 2 ^ 63))=false) (h2:(items.isEmpty||k==1)=false)
  (h3:(decide (k<=0)||items.isEmpty)=false) (h4:decide ((items.size:Int)*k > (2 ^ 63 - 1) / 8)=false) (h5:Builtin.Tuple.tupleTooMany ((items.size:Int)*k)=false) (h6:(List.foldl (fun x1 x2=>x1++x2) #[] (List.replicate k.toNat items)).size<=sizeLine) :
  Meets (Builtin.«tuple.__mul__» ⟨[.ref l,.int k u],[]⟩) (fun _ R s=>s.heap.get? l=some {cls:=.type "tuple",dict:=dd,data:=.seq items n,slots:=sl} /\
   R (.ok (.ret (.ref s.heap.objs.size))) {s with heap:=s.heap.push {cls:=Value.type "tuple",data:=Data.seq (List.foldl (fun x1 x2=>x1++x2) #[] (List.replicate k.toNat items))},toks:=s.toks}) :=
 .of_wp fun prog w A R s h=>by
  obtain ⟨hp,g,d,tk,os⟩:=s;obtain ⟨hl,h⟩:=h;have f1:=AutoSeq1.idx_int;have f2:=AutoSeq1.sub_tuple_tuple
  wp_walk using wpAny_loadPart' hl
  refine wpAny_ite_false (ffB h1) ?_
  wp_walk using wpAny_loadPart' hl
  refine wpAny_ite_false h4 ?_
  wp_walk using wpAny_loadPart' hl
  exact ⟨_,rfl,h⟩
theorem sO:OpD X (binaryOp .Mult) dMulT:=by
 intro pins s σ H x y v u Q I rx ry h
 obtain ⟨dx,dy,d,r1,r2,e,q⟩:=h
 match dx,dy,e with
 | .tup xs,.int k,e =>
   have e':(if xs.length*k.toNat<=sizeLine/\0<k/\k<2 ^ 63 then some (D.tup (List.replicate k.toNat xs).flatten) else none)=some d:=e
   split at e'
   ·rename_i hz
    obtain ⟨hz,k1,k2⟩:=hz
    cases e'
    obtain ⟨a,vs,rfl,hq,t⟩:=r1
    cases (show y=_ from r2)
    cases rx
    obtain ⟨tk,rfl⟩:=ry
    obtain ⟨its,rr,p,hsz⟩:=I.tuple hq
    obtain ⟨⟨cls,dd,data,sl⟩,ho,hc,n,hd⟩:=id p
    simp only at hc hd
    subst hc hd
    have hlen:xs.length=its.length:=t.length.trans rr.length
    have b1:(decide (k < -(2 ^ 63))||decide (k ≥ 2 ^ 63))=false:=by
     rw [decide_eq_false (by omega),decide_eq_false (by omega)];rfl
    have hnew:List.foldl (fun x1 x2=>x1++x2) #[] (List.replicate k.toNat its.toArray)=(List.replicate k.toNat its).flatten.toArray:=by
     have:=foldl_rep its k.toNat []
     rw [List.nil_append] at this
     exact this
    have hfs:(List.replicate k.toNat its).flatten.length<=sizeLine:=by rw [oF,<- hlen,Nat.mul_comm];exact hz
    refine wpAny_binaryOp_repeat_ref (T:="tuple") (U:="int") (by decide) ⟨_,ho,rfl⟩ (fun s'=>typeIs_int s' k tk) noFill_tuple_mul F.fills_int_mul F.slot_int_rmul repeat_tuple F.slot_int_index.lookup
     (call_meets F.slot_int_rmul (typeIs_int s k tk) F.entry_int_rmul (F.args_int_rmul_2 _ _) (int_rmul_tuple k tk a its.toArray n dd sl) ⟨ho,rfl,⟨_,ho,rfl⟩,?_⟩)
    by_cases hc:its=[]\/k=1
    ·have b2:(its.toArray.isEmpty||k==1)=true:=by
      rcases hc with hc | hc
      ·subst hc;rfl
      ·subst hc;simp
     refine call_meets PySem.F.slot_tuple_mul ⟨_,ho,rfl⟩ PySem.F.entry_tuple_mul (PySem.F.args_tuple_mul_2 _ _) (tuple_mul_same a its.toArray n dd sl k tk b1 b2) ⟨ho,?_⟩
     refine ⟨.ref a,H,I,rfl,q _ H (Same.refl H) ⟨a,vs,rfl,hq,?_⟩⟩
     rcases hc with hc | hc
     ·subst hc
      have z:xs=[]:=List.length_eq_zero_iff.mp hlen
      subst z
      have z2:(List.replicate k.toNat ([]:List D)).flatten=[]:=by simp
      rw [z2]
      exact t
     ·subst hc
      have z2:(List.replicate (1:Int).toNat xs).flatten=xs:=by simp
      rw [z2]
      exact t
    ·have b2:(its.toArray.isEmpty||k==1)=false:=by
      have a1:its ≠ []:=fun z=>hc (.inl z)
      have a2:k≠1:=fun z=>hc (.inr z)
      cases its with
      | nil=>exact absurd rfl a1
      | cons x r=>simp [a2]
     have hk:¬ k<=0:=by omega
     have b3:(decide (k<=0)||its.toArray.isEmpty)=false:=by
      have a1:its ≠ []:=fun z=>hc (.inl z)
      rw [decide_eq_false hk]
      cases its with
      | nil=>exact absurd rfl a1
      | cons x r=>rfl
     have hk2:((its.toArray.size:Nat):Int)*k=((its.length*k.toNat:Nat):Int):=by
      rw [List.size_toArray,Int.natCast_mul,Int.toNat_of_nonneg (by omega)]
     have hz2:its.length*k.toNat<=16777216:=by rw [<- hlen];exact hz
     have b4:decide (((its.toArray.size:Nat):Int)*k > (2 ^ 63 - 1) / 8)=false:=decide_eq_false (by rw [hk2];omega)
     have b5:Builtin.Tuple.tupleTooMany (((its.toArray.size:Nat):Int)*k)=false:=by
      unfold Builtin.Tuple.tupleTooMany
      rw [hk2]
      exact decide_eq_false (by rw [sizeLine_eq];omega)
     refine call_meets PySem.F.slot_tuple_mul ⟨_,ho,rfl⟩ PySem.F.entry_tuple_mul (PySem.F.args_tuple_mul_2 _ _) (tuple_mul_new a its.toArray n dd sl k tk b1 b2 b3 b4 b5 (by rw [hnew,List.size_toArray];exact hfs)) ⟨ho,?_⟩
     rw [hnew]
     have hf:=I.hok.fresh (Nat.le_refl s.heap.objs.size)
     have s2:=bm hf (.tup (List.replicate k.toNat vs).flatten)
     refine ⟨.ref s.heap.objs.size,_,I.laid (t':=s.toks) (o:=.tup (List.replicate k.toNat vs).flatten) (fun b ob q=>Heap.get?_push_of_some _ q) (Nat.le_refl _) ?_,rfl,q _ _ s2 ⟨_,_,rfl,SqT.of aC,(t.rep k.toNat).mono s2⟩⟩
     exact ⟨by rw [oF,<- t.length,Nat.mul_comm];exact hz,_,rr.rep k.toNat,IsTupN.new _ _⟩
   ·cases e'
end
end HW
namespace HW
open PySem PySem.Spec PyProof.Rows L2
section
variable {X:Cx}
end
section
variable {X:Cx} {pins:List (Addr×Obj)} {σ:L2.St} {H:Hp} {s:Shared} {k:Nat} {y:Str}
def hid (X:Cx) (k:Nat) (y:Str):Cx:={X with N:=X.N.set k y}
end
end HW
namespace HW
open PySem
section
open Builtin Builtin.Str
end
end HW
namespace HW
open PySem
structure Ap (z TI TO i1 i2:Addr):Prop where
 a1:TI≠z
 a2:TO≠z
 a3:i1≠z
 a4:i2≠z
 a5:TI≠TO
 a6:TI≠i1
 a7:TI≠i2
 a8:TO≠i1
 a9:TO≠i2
 b1:i1≠i2
section
variable {prog:Program} {w:World} {A:Around} {E:Value->Shared->Prop} {g:_} {d:_} {os:_}
structure Nx (prog:Program) (w:World) (A:Around) (mk:Heap->Nat->Shared) (Good:Heap->Nat->Prop) (it:Addr) (st st':Heap->Prop) (P:Value->Prop):Prop where
 stay:∀ h h',st h->(∀ o,h.get? it=some o->h'.get? it=some o)->st h'
 stay':∀ h h',st' h->(∀ o,h.get? it=some o->h'.get? it=some o)->st' h'
 run:∀ h tk (Q:Value->Shared->Prop) (E:Value->Shared->Prop),Good h tk->st h->(∀ u h' tk',P u->st' h'->Heap.SameBut it h h'->Q u (mk h' tk')) ->
  wpAny (model prog w) A (Builtin.SmallTypes.nextOf (.ref it)) Q E (mk h tk)
structure Ne (prog:Program) (w:World) (A:Around) (mk:Heap->Nat->Shared) (Good:Heap->Nat->Prop) (it:Addr) (st:Heap->Prop):Prop where
 stay:∀ h h',st h->(∀ o,h.get? it=some o->h'.get? it=some o)->st h'
 run:∀ h tk (Q:Value->Shared->Prop) (E:Value->Shared->Prop),Good h tk->st h->(∀ h' e,Heap.ExtBut it h h'->(∃ o,h'.get? e=some o/\o.cls=.type "StopIteration")->E (.ref e) (mk h' tk)) ->
  wpAny (model prog w) A (Builtin.SmallTypes.nextOf (.ref it)) Q E (mk h tk)
def mkS (s:Shared) (h:Heap) (tk:Nat):Shared:={s with heap:=h,toks:=tk}
def Cl (Good:Heap->Nat->Prop) (cs:List Addr):Prop:=∀ c∈cs,∀ h tk h' tk',Good h tk->(∀ b o,b≠c->h.get? b=some o->h'.get? b=some o)->Good h' tk'
variable {Good:Heap->Nat->Prop} {s:Shared} {z TI TO i1 i2:Addr} {a b:Value} {st1 st1' st2 st2':Heap->Prop} {P1 P2:Value->Prop}
theorem sf {Q:Value->Shared->Prop} (D:Ap z TI TO i1 i2) (hz:IsZip s.heap z TI TO .none) (hI:IsPair s.heap TI (.ref i1) (.ref i2)) (hO:IsPair s.heap TO a b)
    (g0:Good s.heap s.toks) (cl:Cl Good [z,TO,i1,i2]) (n1:Nx prog w A (mkS s) Good i1 st1 st1' P1) (n2:Nx prog w A (mkS s) Good i2 st2 st2' P2) (q1:st1 s.heap) (q2:st2 s.heap)
    (hQ:∀ h5 tk u1 u2 h8,Good h5 tk->P1 u1->P2 u2->IsZip h5 z TI TO .ellipsis->IsPair h5 TI (.ref i1) (.ref i2)->IsPair h5 TO u1 u2->st1' h5->st2' h5->IsZip h8 z TI TO (rawInt h5.objs.size) ->
      (∀ c o,c≠z->(h5.push {cls:=.type "tuple",data:=.seq #[u1,u2]}).get? c=some o->h8.get? c=some o)->Q (.ref h5.objs.size) (mkS s h8 tk)) :
    wpAny (model prog w) A (Builtin.«zip.__next__» ⟨[.ref z],[]⟩) (fun fin s'=>∃ v,fin=.done (.ret v)/\Q v s') E s:=by
  show wpAny _ _ (field (.ref z) 2 >>= _) _ _ _;refine wpAny_bind (wpAny_field hz rfl (x:=.bool false) rfl ?_)
  show wpAny _ _ (field (.ref z) 3 >>= _) _ _ _;refine wpAny_bind (wpAny_field hz rfl (x:=.ref TI) rfl ?_)
  refine wpAny_bind (wpAny_seqItems hI rfl ?_);show wpAny _ _ (Builtin.SmallTypes.ownedTupleIsFree (.ref z) >>= _) _ _ _
  refine wpAny_bind ?_;unfold Builtin.SmallTypes.ownedTupleIsFree
  refine wpAny_bind (wpAny_field hz rfl (x:=.none) rfl (wpAny_pure ?_));simp only [if_true]
  refine wpAny_bind (wpAny_rule ?_);refine wpAny_bind (wpAny_field hz rfl (x:=.ref TO) rfl ?_)
  refine wpAny_bind (wpAny_setField_rec hz (by simp) fun h1 hz1 s1=>?_)
  replace hz1:IsZip h1 z TI TO .ellipsis:=hz1
  have e1:∀ b o,b≠z->s.heap.get? b=some o->h1.get? b=some o:=s1.extBut
  have g1:Good h1 s.toks:=cl z (by simp) _ _ _ _ g0 e1
  refine wpAny_bind ?_;simp only [List.zipIdx_cons,List.zipIdx_nil,List.forIn_cons,List.forIn_nil]
  refine wpAny_bind (wpAny_bind (wpAny_onRaise ?_));show wpAny _ _ (Builtin.SmallTypes.nextOf (.ref i1) >>= _) _ _ _
  refine wpAny_bind (n1.run h1 s.toks _ _ g1 (n1.stay _ _ q1 fun o=>e1 _ o D.a3) fun u1 h2 tk2 p1 t1 s2=>wpAny_pure ?_)
  have e2:∀ b o,b≠i1->h1.get? b=some o->h2.get? b=some o:=s2.extBut
  have g2:Good h2 tk2:=cl i1 (by simp) _ _ _ _ g1 e2
  have O2:IsPair h2 TO a b:=e2 _ _ D.a8 (e1 _ _ D.a2 hO)
  refine wpAny_bind (wpAny_seqItems (s:=mkS s h2 tk2) O2 rfl ?_)
  refine wpAny_bind (wpAny_updateSeq_pair (s:=mkS s h2 tk2) O2 fun h3 O3 s3=>?_)
  replace O3:IsPair h3 TO u1 b:=O3
  have e3:∀ b o,b≠TO->h2.get? b=some o->h3.get? b=some o:=s3.extBut
  have g3:Good h3 tk2:=cl TO (by simp) _ _ _ _ g2 e3
  refine wpAny_bind (wpAny_letGo (wpAny_pure ?_));refine wpAny_bind (wpAny_bind (wpAny_onRaise ?_))
  show wpAny _ _ (Builtin.SmallTypes.nextOf (.ref i2) >>= _) _ _ (mkS s h3 tk2)
  refine wpAny_bind (n2.run h3 tk2 _ _ g3 (n2.stay _ _ q2 fun o q=>e3 _ o D.a9.symm (e2 _ o D.b1.symm (e1 _ o D.a4 q))) fun u2 h4 tk4 p2 t2 s4=>wpAny_pure ?_)
  have e4:∀ b o,b≠i2->h3.get? b=some o->h4.get? b=some o:=s4.extBut
  have g4:Good h4 tk4:=cl i2 (by simp) _ _ _ _ g3 e4
  have O4:IsPair h4 TO u1 b:=e4 _ _ D.a9 O3
  refine wpAny_bind (wpAny_seqItems (s:=mkS s h4 tk4) O4 rfl ?_)
  refine wpAny_bind (wpAny_updateSeq_pair (s:=mkS s h4 tk4) O4 fun h5 O5 s5=>?_)
  replace O5:IsPair h5 TO u1 u2:=O5
  have e5:∀ b o,b≠TO->h4.get? b=some o->h5.get? b=some o:=s5.extBut
  have g5:Good h5 tk4:=cl TO (by simp) _ _ _ _ g4 e5
  refine wpAny_bind (wpAny_letGo (wpAny_pure (wpAny_pure ?_)));refine wpAny_bind (wpAny_seqItems (s:=mkS s h5 tk4) O5 rfl ?_)
  refine wpAny_bind (wpAny_newTuple (s:=mkS s h5 tk4) ?_)
  have z5:IsZip h5 z TI TO .ellipsis:=e5 _ _ D.a2.symm (e4 _ _ D.a4.symm (e3 _ _ D.a2.symm (e2 _ _ D.a3.symm hz1)))
  have I5:IsPair h5 TI (.ref i1) (.ref i2):=e5 _ _ D.a5 (e4 _ _ D.a7 (e3 _ _ D.a5 (e2 _ _ D.a6 (e1 _ _ D.a1 hI))))
  show wpAny _ _ (Builtin.SmallTypes.ownedTupleHandOut (.ref z) (.ref h5.objs.size) >>= _) _ _ _
  refine wpAny_bind ?_;unfold Builtin.SmallTypes.ownedTupleHandOut
  have z6:IsZip (h5.push {cls:=.type "tuple",data:=.seq #[u1,u2]}) z TI TO .ellipsis:=Heap.get?_push_of_some _ z5
  refine wpAny_bind (wpAny_setField_rec (s:=mkS s (h5.push {cls:=.type "tuple",data:=.seq #[u1,u2]}) tk4) z6 (by simp) fun h7 z7 s7=>?_)
  replace z7:IsZip h7 z TI TO (rawInt h5.objs.size):=z7
  refine wpAny_setField_rec (s:=mkS s h7 tk4) z7 (by simp) fun h8 z8 s8=>?_
  replace z8:IsZip h8 z TI TO (rawInt h5.objs.size):=z8
  exact wpAny_pure ⟨_,rfl,hQ h5 tk4 u1 u2 h8 g5 p1 p2 z5 I5 O5 (n1.stay' _ _ t1 fun o q=>e5 _ o D.a8.symm (e4 _ o D.b1 (e3 _ o D.a8.symm q))) (n2.stay' _ _ t2 fun o q=>e5 _ o D.a9.symm q) z8
    fun c o n q=>s8.extBut _ _ n (s7.extBut _ _ n q)⟩
theorem nM {Q:Value->Shared->Prop} (D:Ap z TI TO i1 i2) (hz:IsZip s.heap z TI TO .none) (hI:IsPair s.heap TI (.ref i1) (.ref i2)) (hO:IsPair s.heap TO a b)
    (g0:Good s.heap s.toks) (cl:Cl Good [z,TO,i1,i2]) (n1:Nx prog w A.in1 (mkS s) Good i1 st1 st1' P1) (n2:Nx prog w A.in1 (mkS s) Good i2 st2 st2' P2) (q1:st1 s.heap) (q2:st2 s.heap)
    (hQ:∀ h5 tk u1 u2 h8,Good h5 tk->P1 u1->P2 u2->IsZip h5 z TI TO .ellipsis->IsPair h5 TI (.ref i1) (.ref i2)->IsPair h5 TO u1 u2->st1' h5->st2' h5->IsZip h8 z TI TO (rawInt h5.objs.size) ->
      (∀ c o,c≠z->(h5.push {cls:=.type "tuple",data:=.seq #[u1,u2]}).get? c=some o->h8.get? c=some o)->Q (.ref h5.objs.size) (mkS s h8 tk)) :
    wpAny (model prog w) A (pyNext (.ref z)) (fun r s'=>∃ v,r=some v/\Q v s') E s:=by
  have hT:s.TypeIs (.ref z) "zip":=⟨_,hz,rfl⟩
  unfold pyNext
  exact wpAny_bind (wpAny_attempt (wpAny_callSpecial?_slot (name:=Str.ofString "__next__") hT F.slot_zip_next (wpAny_call_entry F.slot_zip_next hT F.entry_zip_next
      (sf (Q:=fun v s'=>_) D hz hI hO g0 cl n1 n2 q1 q2 fun h5 tk u1 u2 h8 c1 c2 c3 c4 c5 c6 c7 c8 c9 c10=>wpAny_pure ⟨_,rfl,hQ h5 tk u1 u2 h8 c1 c2 c3 c4 c5 c6 c7 c8 c9 c10⟩) (F.args_zip_next_1 _))))
theorem gB {it l:Addr} {i:Nat} {items} {x:Value} {Q:Value->Shared->Prop} (hit:s.heap.IsTupleIter it l i) (hl:s.heap.IsTuple l items) (hx:items[i]?=some x)
  (hQ:∀ h',h'.IsTupleIter it l (i+1)->Heap.SameBut it s.heap h'->Q x {s with heap:=h' }):wpAny (model prog w) A (Builtin.SmallTypes.nextOf (.ref it)) Q E s:=by
 obtain ⟨o,ho,hc,hd⟩:=id hit
 obtain ⟨ol,hol,_,nl,hdl⟩:=hl
 unfold Builtin.SmallTypes.nextOf
 refine wpAny_bind (wpAny_callSpecial?_slot (name:=Str.ofString "__next__") hit.typeIs F.slot_tuple_iterator_next (wpAny_call_entry F.slot_tuple_iterator_next hit.typeIs F.entry_tuple_iterator_next ?_ (F.args_tuple_iterator_next_1 _)))
 show wpAny _ _ (field (.ref it) 0 >>= _) _ _ s;refine wpAny_bind (wpAny_field ho hd (x:=.ref l) rfl ?_)
 show wpAny _ _ (if (Value.ref l==Value.none)=true then _ else _) _ _ s;rw [if_neg (show ¬ ((Value.ref l==Value.none)=true) from Bool.false_ne_true)]
 show wpAny _ _ (field (.ref it) 1 >>= _) _ _ s;refine wpAny_bind (wpAny_field ho hd (x:=.int i 0) rfl ?_)
 show wpAny _ _ (seqItems? (.ref l) >>= _) _ _ s;refine wpAny_bind (wpAny_seqItems hol hdl ?_)
 simp only [Int.toNat_natCast,hx]
 refine wpAny_bind (wpAny_setField ho hd (by simp) (wpAny_pure ⟨x,rfl,wpAny_pure (hQ _ ⟨_,Heap.get?_update_self _ ho (Obj.isFreed_of_fields (Obj.data_mapFields hd _)),(Obj.cls_mapFields ..).trans hc,?_⟩ (Heap.SameBut.update ..))⟩))
 rw [Obj.data_mapFields hd];simp [rawInt]
theorem ie {it l:Addr} {i:Nat} {items} {Q:Value->Shared->Prop} (hh:A.handled=none) (hit:s.heap.IsTupleIter it l i) (hl:s.heap.IsTuple l items) (hx:items[i]?=none)
  (hE:∀ h' e,Heap.ExtBut it s.heap h'->(∃ o,h'.get? e=some o/\o.cls=.type "StopIteration")->E (.ref e) {s with heap:=h' }):wpAny (model prog w) A (Builtin.SmallTypes.nextOf (.ref it)) Q E s:=by
 obtain ⟨o,ho,hc,hd⟩:=id hit
 obtain ⟨ol,hol,_,nl,hdl⟩:=hl
 unfold Builtin.SmallTypes.nextOf
 refine wpAny_bind (wpAny_callSpecial?_slot (name:=Str.ofString "__next__") hit.typeIs F.slot_tuple_iterator_next (wpAny_call_entry F.slot_tuple_iterator_next hit.typeIs F.entry_tuple_iterator_next ?_ (F.args_tuple_iterator_next_1 _)))
 show wpAny _ _ (field (.ref it) 0 >>= _) _ _ s;refine wpAny_bind (wpAny_field ho hd (x:=.ref l) rfl ?_)
 show wpAny _ _ (if (Value.ref l==Value.none)=true then _ else _) _ _ s;rw [if_neg (show ¬ ((Value.ref l==Value.none)=true) from Bool.false_ne_true)]
 show wpAny _ _ (field (.ref it) 1 >>= _) _ _ s;refine wpAny_bind (wpAny_field ho hd (x:=.int i 0) rfl ?_)
 show wpAny _ _ (seqItems? (.ref l) >>= _) _ _ s;refine wpAny_bind (wpAny_seqItems hol hdl ?_)
 simp only [Int.toNat_natCast,hx]
 refine wpAny_bind (wpAny_rule (wpAny_bind (wpAny_setField ho hd (by simp) ?_)));show wpAny _ _ (newExc (.type "StopIteration") [] >>= _) _ _ _
 refine wpAny_bind ?_;simp only [newExc,newTuple]
 refine wpAny_bind (wpAny_newObj_type ?_ (by size_fits));refine wpAny_bind (m:=firstArgMember _ _) (wpAny_of_eq (a:=Value.none) (by first | rfl | (simp only [firstArgMember];rfl)) ?_)
 refine wpAny_newObj_type ?_ (by size_fits);simp only [raiseNew]
 refine wpAny_bind (wpAny_handled ?_);first | rw [show A.in1.handled=none from hh] | rw [hh]
 exact wpAny_bind (wpAny_pure (wpAny_throw (hE _ _ (((Heap.SameBut.update ..).extBut.push _).push _) ⟨_,Heap.get?_push_size _ rfl,rfl⟩)))
inductive Src where
 | lst (a:Addr)
 | tup (a:Addr)
 | txt (x:Str) (t:Tok)
def Src.val:Src->Value
 | .lst a=>.ref a
 | .tup a=>.ref a
 | .txt x t=>.str x t
def Src.obj:Src->Obj
 | .lst a=>{cls:=.type "list_iterator",data:=.fields #[.ref a,.int 0 0]}
 | .tup a=>{cls:=.type "tuple_iterator",data:=.fields #[.ref a,.int 0 0]}
 | .txt x t=>{cls:=.type "str_ascii_iterator",data:=.fields #[.str x t,.int 0 0]}
def Src.ok (h:Heap):Src->Prop
 | .lst a=>∃ xs,h.IsList a xs
 | .tup a=>∃ xs,h.IsTuple a xs
 | .txt x _=>x.cps.all (·<128)=true
def Src.at (it:Addr) (i:Nat) (h:Heap):Src->Prop
 | .lst a=>h.IsListIter it a i
 | .tup a=>h.IsTupleIter it a i
 | .txt x t=>h.IsStrIter it "str_ascii_iterator" x t i
theorem Src.iter {S:Src} {Q:Value->Shared->Prop} (h:S.ok s.heap) (hQ:Q (.ref s.heap.objs.size) {s with heap:=s.heap.push S.obj}):wpAny (model prog w) A (pyIter S.val) Q E s:=by
 cases S with
 | lst a=>obtain ⟨xs,h⟩:=h;exact wpAny_pyIter_list h hQ
 | tup a=>obtain ⟨xs,h⟩:=h;exact wpAny_pyIter_tuple h hQ
 | txt x t=>exact wpAny_pyIter_ascii h hQ
theorem Src.keep {S:Src} {it:Addr} {i:Nat} {h h':Heap} (q:S.at it i h) (k:∀ o,h.get? it=some o->h'.get? it=some o):S.at it i h':=by
 cases S with
 | lst a=>exact Heap.IsListIter.at q k
 | tup a=>obtain ⟨o,e,r⟩:=q;exact ⟨o,k o e,r⟩
 | txt x t=>obtain ⟨o,e,r⟩:=q;exact ⟨o,k o e,r⟩
theorem Src.obj_at {S:Src} {it:Addr} {i:Nat} {h:Heap} (q:S.at it i h):∃ o,h.get? it=some o/\∀ v,o.data≠.cell v:=by
 cases S with
 | lst a=>obtain ⟨o,e,c,d⟩:=q;exact ⟨o,e,fun v z=>by rw [d] at z;cases z⟩
 | tup a=>obtain ⟨o,e,c,d⟩:=q;exact ⟨o,e,fun v z=>by rw [d] at z;cases z⟩
 | txt x t=>obtain ⟨o,e,c,d⟩:=q;exact ⟨o,e,fun v z=>by rw [d] at z;cases z⟩
theorem Src.start {S:Src} {it:Addr} {h:Heap} (q:h.get? it=some S.obj):S.at it 0 h:=by
 cases S<;>exact ⟨_,q,rfl,rfl⟩
theorem Src.nx {S:Src} {it:Addr} {i:Nat} {P:Value->Prop} (hx:∀ h tk,Good h tk->match S with
  | .lst a=>∃ xs x,h.IsList a xs/\xs[i]?=some x/\P x
  | .tup a=>∃ xs x,h.IsTuple a xs/\xs[i]?=some x/\P x
  | .txt x _=>∃ c,x.cps[i]?=some c/\∀ u,P (.str ⟨#[c]⟩ u)):Nx prog w A (mkS s) Good it (fun h=>S.at it i h) (fun h=>S.at it (i+1) h) P where
 stay:=fun _ _ q k=>Src.keep q k
 stay':=fun _ _ q k=>Src.keep q k
 run:=fun h tk Q E gg q hQ=>by
  have z:=hx h tk gg
  cases S with
  | lst a=>obtain ⟨xs,x,l,e,p⟩:=z;exact wpAny_nextOf_list_item (s:=mkS s h tk) q l e fun h' q' sb=>hQ x h' tk p q' sb
  | tup a=>obtain ⟨xs,x,l,e,p⟩:=z;exact gB (s:=mkS s h tk) q l e fun h' q' sb=>hQ x h' tk p q' sb
  | txt x t=>obtain ⟨c,e,p⟩:=z;exact wpAny_nextOf_ascii_item (s:=mkS s h tk) q e fun h' q' sb=>hQ _ h' (tk+1) (p _) q' sb
theorem Src.ne {S:Src} {it:Addr} {i:Nat} (hh:A.handled=none) (hx:∀ h tk,Good h tk->match S with
  | .lst a=>∃ xs,h.IsList a xs/\xs[i]?=none
  | .tup a=>∃ xs,h.IsTuple a xs/\xs[i]?=none
  | .txt x _=>x.cps[i]?=none):Ne prog w A (mkS s) Good it (fun h=>S.at it i h) where
 stay:=fun _ _ q k=>Src.keep q k
 run:=fun h tk Q E gg q hQ=>by
  have z:=hx h tk gg
  cases S with
  | lst a=>obtain ⟨xs,l,e⟩:=z;exact wpAny_nextOf_list_end (s:=mkS s h tk) hh q l e hQ
  | tup a=>obtain ⟨xs,l,e⟩:=z;exact ie (s:=mkS s h tk) hh q l e hQ
  | txt x t=>exact wpAny_nextOf_ascii_end (s:=mkS s h tk) hh q z hQ
end
def zpH (h:Heap) (S T:Src):Heap:=(((h.push S.obj).push T.obj).push {cls:=.type "tuple",data:=.seq #[.ref h.objs.size,.ref (h.push S.obj).objs.size]}).push {cls:=.type "tuple",data:=.seq #[.none,.none]}
def zpO (h:Heap) (S T:Src):Obj:={cls:=.type "zip",data:=.fields #[.none,.bool false,.bool false,.ref ((h.push S.obj).push T.obj).objs.size,
 .ref (((h.push S.obj).push T.obj).push {cls:=.type "tuple",data:=.seq #[.ref h.objs.size,.ref (h.push S.obj).objs.size]}).objs.size]}
theorem Src.ok_push {S T:Src} {h:Heap} (q:T.ok h):T.ok (h.push S.obj):=by
 cases T with
 | lst a=>obtain ⟨xs,q⟩:=q;exact ⟨xs,Heap.IsList.push q _⟩
 | tup a=>obtain ⟨xs,o,e,r⟩:=q;exact ⟨xs,o,Heap.get?_push_of_some _ e,r⟩
 | txt x t=>exact q
theorem so (S T:Src):Meets (Builtin.«zip.__new__» ⟨[.type "zip",S.val,T.val],[]⟩) (fun _ R s=>S.ok s.heap/\T.ok s.heap/\R (.ok (.ret (.ref (zpH s.heap S T).objs.size))) {s with heap:=(zpH s.heap S T).push (zpO s.heap S T)}) :=
 .of_wp fun prog w A R s h=>by
  obtain ⟨hp,g,d,tk,os⟩:=s;obtain ⟨q1,q2,h⟩:=h
  have hsub:=sub_zip
  have r1:Src.ok (Shared.heap ⟨hp,g,d,tk,os⟩) S:=q1
  have r2:Src.ok (Shared.heap ⟨hp.push S.obj,g,d,tk,os⟩) T:=Src.ok_push q2
  wp_walk using Src.iter r1,Src.iter r2
  exact ⟨_,rfl,h⟩
section
variable {prog:Program} {w:World} {A:Around} {E:Value->Shared->Prop} {s:Shared}
theorem ap_new (n:Nat):Ap (n+4) (n+2) (n+3) n (n+1):=by
 have k:∀ a b:Nat,a≠b->(show Addr from a)≠(show Addr from b):=fun a b h=>h
 constructor<;>exact k _ _ (by omega)
theorem qL {S T:Src} {Q:Value->Shared->Prop} (h1:S.ok s.heap) (h2:T.ok s.heap)
    (h:∀ h' z TI TO i1 i2,Ap z TI TO i1 i2->IsZip h' z TI TO .none->IsPair h' TI (.ref i1) (.ref i2)->IsPair h' TO .none .none->S.at i1 0 h'->T.at i2 0 h'->(∀ c ∈ [z,TI,TO,i1,i2],s.heap.objs.size<=c) ->
      (∀ c o,s.heap.get? c=some o->h'.get? c=some o)->Q (.ref z) {s with heap:=h' }):wpAny (model prog w) A (call (.type "zip") [S.val,T.val]) Q E s:=by
  refine callType_new F.called_zip (by decide) (F.typeCall_zip_2 _ _) (F.newCall_zip_2 _ _) (fun obj=>F.args_object_init_3 obj _ _) F.entry_zip_new (so S T) ⟨h1,h2,?_⟩
  have z1:(s.heap.push S.obj).objs.size=s.heap.objs.size+1:=Heap.size_push ..
  have z2:((s.heap.push S.obj).push T.obj).objs.size=s.heap.objs.size+2:=by rw [Heap.size_push,z1]
  have z3:(((s.heap.push S.obj).push T.obj).push {cls:=.type "tuple",data:=.seq #[.ref s.heap.objs.size,.ref (s.heap.push S.obj).objs.size]}).objs.size=s.heap.objs.size+3:=by rw [Heap.size_push,z2]
  have z4:(zpH s.heap S T).objs.size=s.heap.objs.size+4:=by unfold zpH;rw [Heap.size_push,z3]
  have k1:∀ c o,(s.heap.push S.obj).get? c=some o->((zpH s.heap S T).push (zpO s.heap S T)).get? c=some o:=fun c o e=>Heap.get?_push_of_some _ (Heap.get?_push_of_some _ (Heap.get?_push_of_some _ (Heap.get?_push_of_some _ e)))
  have g1:=k1 _ _ (Heap.get?_push_size s.heap (o:=S.obj) (by cases S<;>rfl))
  have g2:((zpH s.heap S T).push (zpO s.heap S T)).get? (s.heap.push S.obj).objs.size=some T.obj:=Heap.get?_push_of_some _ (Heap.get?_push_of_some _ (Heap.get?_push_of_some _ (Heap.get?_push_size _ (by cases T<;>rfl))))
  have g3:((zpH s.heap S T).push (zpO s.heap S T)).get? ((s.heap.push S.obj).push T.obj).objs.size=some _:=Heap.get?_push_of_some _ (Heap.get?_push_of_some _ (Heap.get?_push_size _ rfl))
  have g4:((zpH s.heap S T).push (zpO s.heap S T)).get? (((s.heap.push S.obj).push T.obj).push {cls:=.type "tuple",data:=.seq #[.ref s.heap.objs.size,.ref (s.heap.push S.obj).objs.size]}).objs.size=some _:=Heap.get?_push_of_some _ (Heap.get?_push_size _ rfl)
  have g5:((zpH s.heap S T).push (zpO s.heap S T)).get? (zpH s.heap S T).objs.size=some _:=Heap.get?_push_size _ rfl
  refine ⟨⟨_,g5,rfl⟩,h _ _ _ _ _ _ ?_ g5 g3 g4 (Src.start g1) (Src.start g2) ?_ fun c o e=>k1 c o (Heap.get?_push_of_some _ e)⟩
  · rw [z4,z3,z2,z1]
    exact ap_new _
  · rw [z4,z3,z2,z1]
    intro c hc
    simp only [List.mem_cons,List.not_mem_nil,or_false] at hc
    rcases hc with rfl | rfl | rfl | rfl | rfl
    · exact Nat.le_add_right _ 4
    · exact Nat.le_add_right _ 2
    · exact Nat.le_add_right _ 3
    · exact Nat.le_refl _
    · exact Nat.le_add_right _ 1
end
end HW
namespace HW
open PySem PySem.Spec PyProof.Rows L2
def Src.go (K:PySem.W.Frag) (i:Nat) (H:Hp) (v:V):Src->Prop
 | .lst a=>∃ xs,SqL K H a xs/\xs[i]?=some v
 | .tup a=>∃ xs,SqT K H a xs/\xs[i]?=some v
 | .txt x _=>∃ c,x.cps[i]?=some c/\v=.str ⟨#[c]⟩
def Src.stop (K:PySem.W.Frag) (i:Nat) (H:Hp):Src->Prop
 | .lst a=>∃ xs,SqL K H a xs/\xs.length<=i
 | .tup a=>∃ xs,SqT K H a xs/\xs.length<=i
 | .txt x _=>x.cps.size<=i
section
variable {X:Cx} {pins:List (Addr×Obj)} {σ:L2.St} {H:Hp} {s:Shared} {S:Src} {i:Nat} {v:V}
theorem le {A:Around} {it:Addr} (q:S.go X.K i H v):Nx X.prog X.w A (mkS s) (fun h tk=>L2.Inv X pins σ H (mkS s h tk)) it (fun h=>S.at it i h) (fun h=>S.at it (i+1) h) (RelV v):=by
 refine Src.nx fun h tk I=>?_
 cases S with
 | lst a =>
  obtain ⟨xs,hq,hx⟩:=q
  obtain ⟨its,rv,p,hz⟩:=I.list hq
  obtain ⟨u,hu,ru⟩:=rv.get hx
  exact ⟨_,u,p.isList,by simpa using hu,ru⟩
 | tup a =>
  obtain ⟨xs,hq,hx⟩:=q
  obtain ⟨its,rv,p,hz⟩:=I.tuple hq
  obtain ⟨u,hu,ru⟩:=rv.get hx
  exact ⟨its.toArray,u,p,by simpa using hu,ru⟩
 | txt x t =>
  obtain ⟨c,hc,e⟩:=q
  subst e
  exact ⟨c,hc,fun u=>⟨u,rfl⟩⟩
theorem tJ {A:Around} {it:Addr} (hh:A.handled=none) (q:S.stop X.K i H):Ne X.prog X.w A (mkS s) (fun h tk=>L2.Inv X pins σ H (mkS s h tk)) it (fun h=>S.at it i h):=by
 refine Src.ne hh fun h tk I=>?_
 cases S with
 | lst a =>
  obtain ⟨xs,hq,hx⟩:=q
  obtain ⟨its,rv,p,hz⟩:=I.list hq
  have hl:=rv.length
  exact ⟨_,p.isList,by simp;omega⟩
 | tup a =>
  obtain ⟨xs,hq,hx⟩:=q
  obtain ⟨its,rv,p,hz⟩:=I.tuple hq
  have hl:=rv.length
  exact ⟨its.toArray,p,by simp;omega⟩
 | txt x t=>exact Array.getElem?_eq_none q
end
section
variable {X:Cx}
end
end HW
namespace L2
open PySem PySem.Spec PyProof.Rows
section
variable {κ:Type} [DecidableEq κ]
def valV (kvs:List (κ×V)) (k:κ):Option V:=(kvs.find? fun kv=>decide (kv.1=k)).map (·.2)
def putK (kvs:List (κ×V)) (k:κ) (v:V):List (κ×V) :=
 if (kvs.any fun kv=>decide (kv.1=k))=true then kvs.map (fun kv=>if kv.1=k then (kv.1,v) else kv) else kvs++[(k,v)]
def dropK (kvs:List (κ×V)) (k:κ):List (κ×V):=kvs.filter fun kv=>decide (kv.1≠k)
theorem valV_pos {p:κ×V} {r:List (κ×V)} {k:κ} (e:p.1=k):valV (p::r) k=some p.2:=by simp [valV,List.find?_cons,e]
theorem valV_neg {p:κ×V} {r:List (κ×V)} {k:κ} (e:¬ p.1=k):valV (p::r) k=valV r k:=by simp [valV,List.find?_cons,e]
theorem valV_any (k:κ):∀ kvs:List (κ×V),(kvs.any fun kv=>decide (kv.1=k))=(valV kvs k).isSome
 | []=>rfl
 | p::r=>by
  rw [List.any_cons]
  by_cases e:p.1=k
  ·simp only [valV_pos e,decide_eq_true e,Bool.true_or,Option.isSome_some]
  ·rw [valV_neg e,decide_eq_false e,Bool.false_or];exact valV_any k r
theorem length_putK (kvs:List (κ×V)) (k:κ) (v:V):(putK kvs k v).length<=kvs.length+1:=by
 unfold putK
 split
 ·rw [List.length_map];omega
 ·rw [List.length_append,List.length_cons,List.length_nil];omega
theorem putK_new {kvs:List (κ×V)} {k:κ} (v:V) (h:valV kvs k=none):putK kvs k v=kvs++[(k,v)]:=by
 unfold putK
 rw [valV_any,h]
 exact if_neg (by decide)
theorem RelO.isSome_eq {o:Option V} {u:Option Value} (r:RelO o u):o.isSome=u.isSome:=by
 cases o with
 | none=>cases u with
  | none=>rfl
  | some _=>exact (show False from r).elim
 | some _=>cases u with
  | none=>exact (show False from r).elim
  | some _=>rfl
theorem RelO.getD {o:Option V} {u:Option Value} {d:V} {d':Value} (r:RelO o u) (rd:RelV d d'):RelV (o.getD d) (u.getD d'):=by
 cases o with
 | none=>cases u with
  | none=>exact rd
  | some _=>exact (show False from r).elim
 | some _=>cases u with
  | none=>exact (show False from r).elim
  | some _=>exact r
theorem KV.val {kvs:List (κ×V)} {vs:List (κ×Value)} (r:KV kvs vs) (k:κ):RelO (valV kvs k) (valueAt vs k):=by
 unfold KV at r
 induction r with
 | nil=>exact True.intro
 | @cons p q ps qs h t ih =>
  obtain ⟨h1,h2⟩:=h
  by_cases e:p.1=k
  ·have e':q.1=k:=h1.symm.trans e
   have b:valueAt (q::qs) k=some q.2:=by simp [valueAt,List.find?_cons,e']
   rw [valV_pos e,b];exact h2
  ·have e':¬ q.1=k:=fun z=>e (h1.trans z)
   have b:valueAt (q::qs) k=valueAt qs k:=by simp [valueAt,List.find?_cons,e']
   rw [valV_neg e,b];exact ih
theorem KV.any {kvs:List (κ×V)} {vs:List (κ×Value)} (r:KV kvs vs) (k:κ):(kvs.any fun kv=>decide (kv.1=k))=vs.any fun kv=>decide (kv.1=k):=by
 unfold KV at r
 induction r with
 | nil=>rfl
 | cons h t ih=>rw [List.any_cons,List.any_cons,ih,h.1]
theorem KV.repl {kvs:List (κ×V)} {vs:List (κ×Value)} (r:KV kvs vs) (k:κ) {y:V} {u:Value} (ry:RelV y u) :
  KV (kvs.map fun kv=>if kv.1=k then (kv.1,y) else kv) (vs.map fun kv=>if kv.1=k then (kv.1,u) else kv):=by
 unfold KV at r ⊢
 induction r with
 | nil=>exact .nil
 | @cons p q ps qs h t ih =>
  rw [List.map_cons,List.map_cons]
  refine .cons ?_ ih
  obtain ⟨h1,h2⟩:=h
  by_cases e:p.1=k
  ·rw [if_pos e,if_pos (h1.symm.trans e)];exact ⟨h1,ry⟩
  ·rw [if_neg e,if_neg (fun z=>e (h1.trans z))];exact ⟨h1,h2⟩
theorem KV.put {kvs:List (κ×V)} {vs:List (κ×Value)} (r:KV kvs vs) (k:κ) {y:V} {u:Value} (ry:RelV y u):KV (putK kvs k y) (stored vs k u):=by
 unfold putK stored
 rw [r.any k]
 by_cases e:(vs.any fun kv=>decide (kv.1=k))=true
 ·rw [if_pos e,if_pos e];exact r.repl k ry
 ·rw [if_neg e,if_neg e];exact Paired.snoc r ⟨rfl,ry⟩
theorem KV.drop {kvs:List (κ×V)} {vs:List (κ×Value)} (r:KV kvs vs) (k:κ):KV (dropK kvs k) (without vs k):=by
 unfold KV at r ⊢
 unfold dropK without
 induction r with
 | nil=>exact .nil
 | @cons p q ps qs h t ih =>
  obtain ⟨h1,h2⟩:=h
  rw [List.filter_cons,List.filter_cons]
  by_cases e:p.1=k
  ·have a:¬ decide (p.1≠k)=true:=by simp [e]
   have b:¬ decide (q.1≠k)=true:=by simp [h1.symm.trans e]
   rw [if_neg a,if_neg b];exact ih
  ·have e':¬ q.1=k:=fun z=>e (h1.trans z)
   have a:decide (p.1≠k)=true:=by simp [e]
   have b:decide (q.1≠k)=true:=by simp [e']
   rw [if_pos a,if_pos b];exact .cons ⟨h1,h2⟩ ih
theorem KV.keys {kvs:List (κ×V)} {vs:List (κ×Value)} (r:KV kvs vs):kvs.map (·.1)=vs.map (·.1):=by
 unfold KV at r
 induction r with
 | nil=>rfl
 | cons h t ih=>rw [List.map_cons,List.map_cons,ih,h.1]
theorem KV.length {kvs:List (κ×V)} {vs:List (κ×Value)} (r:KV kvs vs):kvs.length=vs.length:=Paired.length r
end
theorem kV_is {P:Program} {w:World} {k:Key} {u:Value} (r:RelV (kV k) u):(mixKind P w).is k u=true:=by
 cases k with
 | inl i=>obtain ⟨t,e⟩:=(show ∃ t,u=Value.int i t from r);subst e;exact mixKind_int P w i t
 | inr x=>obtain ⟨t,e⟩:=(show ∃ t,u=Value.str x t from r);subst e;exact mixKind_str P w x t
theorem items_are {P:Program} {w:World}:∀ {ks:List Key} {us:List Value},Vals (ks.map kV) us->ItemsAre (mixKind P w) ks us
 | [],_,r=>by rw [List.map_nil] at r;cases r;exact .nil
 | k::ks,_,r=>by
  rw [List.map_cons] at r
  cases r with
  | cons h t=>exact .cons (kV_is h) (items_are t)
abbrev KT (H:Hp):List (List Key×V)->List (List Key×Addr×Value)->Prop:=Paired fun p q=>p.1=q.1/\H q.2.1=some (.tup (p.1.map kV))/\RelV p.2 q.2.2
theorem KT.val {H:Hp} {kvs:List (List Key×V)} {xs:List (List Key×Addr×Value)} (r:KT H kvs xs) (k:List Key):RelO (valV kvs k) ((atKey xs k).map (·.2)):=by
 induction r with
 | nil=>exact True.intro
 | @cons p q ps qs h t ih =>
  obtain ⟨h1,_,h2⟩:=h
  by_cases e:p.1=k
  ·have e':q.1=k:=h1.symm.trans e
   have b:atKey (q::qs) k=some q.2:=by simp [atKey,List.find?_cons,e']
   rw [valV_pos e,b];exact h2
  ·have e':¬ q.1=k:=fun z=>e (h1.trans z)
   have b:atKey (q::qs) k=atKey qs k:=by simp [atKey,List.find?_cons,e']
   rw [valV_neg e,b];exact ih
theorem KT.repl {H:Hp} {kvs:List (List Key×V)} {xs:List (List Key×Addr×Value)} (r:KT H kvs xs) (k:List Key) {y:V} {u:Value} (ry:RelV y u) :
  KT H (kvs.map fun kv=>if kv.1=k then (kv.1,y) else kv) (xs.map (putAt k u)):=by
 induction r with
 | nil=>exact .nil
 | @cons p q ps qs h t ih =>
  rw [List.map_cons,List.map_cons]
  refine .cons ?_ ih
  obtain ⟨h1,h2,h3⟩:=h
  unfold putAt
  by_cases e:p.1=k
  ·rw [if_pos e,if_pos (h1.symm.trans e)];exact ⟨h1,h2,ry⟩
  ·rw [if_neg e,if_neg (fun z=>e (h1.trans z))];exact ⟨h1,h2,h3⟩
theorem KT.put {H:Hp} {kvs:List (List Key×V)} {xs:List (List Key×Addr×Value)} (r:KT H kvs xs) (k:List Key) {b:Addr} {y:V} {u:Value} (hb:H b=some (.tup (k.map kV))) (ry:RelV y u) :
  KT H (putK kvs k y) (storedH xs k b u):=by
 have e:(kvs.any fun kv=>decide (kv.1=k))=(atKey xs k).isSome:=by
  rw [valV_any,(r.val k).isSome_eq,Option.isSome_map]
 unfold putK storedH
 rw [e]
 by_cases q:(atKey xs k).isSome=true
 ·rw [if_pos q,if_pos q];exact r.repl k ry
 ·rw [if_neg q,if_neg q];exact Paired.snoc r ⟨rfl,hb,ry⟩
theorem KT.keeps {H H':Hp} {kvs:List (List Key×V)} {xs:List (List Key×Addr×Value)} (r:KT H kvs xs) (ht:∀ b ys,H b=some (.tup ys)->H' b=some (.tup ys)):KT H' kvs xs :=
 Paired.mapP r fun _ _ z=>⟨z.1,ht _ _ z.2.1,z.2.2⟩
section
variable {P:Program} {w:World} {H:Hp} {h:Heap} {a:Addr}
theorem rd_of {u:HO} (ok:HOk P w H h) (e:Rd H a u):ObjOk P w H h a u:=e.ok ok
theorem lU {kvs:List (Key×V)} (ok:HOk P w H h) (e:Rd H a (.dK kvs)):kvs.length<=sizeLine/\(a==sysModules)=false/\∃ vs,KV kvs vs/\h.DictOf (mixKind P w) a vs :=
 show ObjOk P w H h a (.dK kvs) from rd_of ok e
theorem ph {kvs:List (Key×V)} (ok:HOk P w H h) (e:H a=some (.dK kvs)):kvs.length<=sizeLine/\(a==sysModules)=false/\∃ vs,KV kvs vs/\h.DictOf (mixKind P w) a vs:=lU ok (.inl e)
theorem key_of {ks:List Key} (ok:HOk P w H h) (e:H a=some (.tup (ks.map kV))):(tupleKind (mixKind P w)).is h ks a:=by
 obtain ⟨_,its,r,o,h1,h2,⟨n,h3⟩,_⟩:=(show ObjOk P w H h a (.tup (ks.map kV)) from ok a _ e)
 exact ⟨o,its.toArray,n,h1,h2,h3,by simpa using items_are r⟩
theorem lz {kvs:List (List Key×V)} (ok:HOk P w H h) (e:Rd H a (.dT kvs)):kvs.length<=sizeLine/\(a==sysModules)=false /\
  ∃ xs,KT H kvs xs/\h.DictOfH (tupleKind (mixKind P w)) a xs:=by
 obtain ⟨z,y,xs,r,o,es,ep,h1,h2,h3,h4,h5⟩:=(show ObjOk P w H h a (.dT kvs) from rd_of ok e)
 refine ⟨z,y,xs,r,o,es,ep,h1,h2,h3,h4,fun x hx=>?_,h5⟩
 have all:∀ {l:List (List Key×V)} {m:List (List Key×Addr×Value)},KT H l m->∀ x∈m,(tupleKind (mixKind P w)).is h x.1 x.2.1:=by
  intro l m q
  induction q with
  | nil=>intro x hx;exact nomatch hx
  | @cons p q ps qs hq t ih =>
   intro x hx
   rcases List.mem_cons.mp hx with e | hx
   ·subst e
    exact key_of ok (by rw [<- hq.1];exact hq.2.1)
   ·exact ih x hx
 exact all r x hx
theorem ut {kvs:List (List Key×V)} (ok:HOk P w H h) (e:H a=some (.dT kvs)):kvs.length<=sizeLine/\(a==sysModules)=false /\
  ∃ xs,KT H kvs xs/\h.DictOfH (tupleKind (mixKind P w)) a xs:=lz ok (.inl e)
end
def DGet (H:Hp) (a:Addr) (y:V) (r:Option V):Prop :=
 (∃ kvs k,Rd H a (.dK kvs)/\y=kV k/\r=valV kvs k)\/∃ kvs k b,Rd H a (.dT kvs)/\y=.ref b/\H b=some (.tup (k.map kV))/\r=valV kvs k
def DPut (H:Hp) (a:Addr) (y v:V) (H':Hp):Prop :=
 (∃ kvs k,H a=some (.dK kvs)/\y=kV k/\kvs.length<sizeLine/\H'=upd H a (.dK (putK kvs k v))) \/
 ∃ kvs k b,H a=some (.dT kvs)/\y=.ref b/\H b=some (.tup (k.map kV))/\kvs.length<sizeLine/\H'=upd H a (.dT (putK kvs k v))
theorem DGet.k {H:Hp} {a:Addr} {kvs:List (Key×V)} {k:Key} (e:H a=some (.dK kvs)):DGet H a (kV k) (valV kvs k):=.inl ⟨kvs,k,.inl e,rfl,rfl⟩
theorem DGet.t {H:Hp} {a b:Addr} {kvs:List (List Key×V)} {k:List Key} (e:H a=some (.dT kvs)) (eb:H b=some (.tup (k.map kV))):DGet H a (.ref b) (valV kvs k):=.inr ⟨kvs,k,b,.inl e,rfl,eb,rfl⟩
theorem DPut.k {H:Hp} {a:Addr} {kvs:List (Key×V)} {k:Key} {v:V} (e:H a=some (.dK kvs)) (hl:kvs.length<sizeLine):DPut H a (kV k) v (upd H a (.dK (putK kvs k v))):=.inl ⟨kvs,k,e,rfl,hl,rfl⟩
theorem DPut.t {H:Hp} {a b:Addr} {kvs:List (List Key×V)} {k:List Key} {v:V} (e:H a=some (.dT kvs)) (eb:H b=some (.tup (k.map kV))) (hl:kvs.length<sizeLine) :
  DPut H a (.ref b) v (upd H a (.dT (putK kvs k v))):=.inr ⟨kvs,k,b,e,rfl,eb,hl,rfl⟩
section
variable {X:Cx} {pins:List (Addr×Obj)} {σ:St} {H:Hp} {s:Shared} {a:Addr} {y v:V} {u r:Value} {o:Option V} {A:Around} {E:Value->Shared->Prop}
theorem Inv.big (I:Inv X pins σ H s):sysModules<s.heap.objs.size:=by
 have h:mainGlobals<s.heap.objs.size:=(I.mod.glob.keeps I.bk).lt
 exact Nat.lt_trans (by decide) h
theorem qr {Q:Value->Shared->Prop} (hu:A.units+1<cLine) (I:Inv X pins σ H s) (g:DGet H a y (some v)) (ry:RelV y u) (h:∀ w' s',Inv X pins σ H s'->RelV v w'->Q w' s') :
  wpAny (model X.prog X.w) A (getItem (.ref a) u) Q E s:=by
 rcases g with ⟨kvs,k,e,ey,l⟩ | ⟨kvs,k,b,e,ey,eb,l⟩
 ·subst ey
  obtain ⟨z,hd,vs,rel,dd⟩:=lU I.hok e
  obtain ⟨w',hw,rw'⟩:=RelO.some_of (v:=v) (o:=valueAt vs k) (by rw [l];exact rel.val k)
  exact wpAny_getItem_of (kV_is ry) dd.mapOf hw (h w' _ (I.tok _) rw')
 ·subst ey
  cases (show u=Value.ref b from ry)
  obtain ⟨z,hd,xs,rel,dd⟩:=lz I.hok e
  obtain ⟨w',hw,rw'⟩:=RelO.some_of (v:=v) (o:=(atKey xs k).map (·.2)) (by rw [l];exact rel.val k)
  obtain ⟨p,hp,hp2⟩:=Option.map_eq_some_iff.mp hw
  refine wpAny_getItem_heap (tupleKind_room_in1 hu) (key_of I.hok eb) dd hp ?_
  rw [hp2]
  exact h w' _ (I.tok _) rw'
theorem iR {h':Heap} {t':Nat} {ob:HO} (I:Inv X pins σ H s) (mu:Mut (H a)) (hs:Heap.SameBut a s.heap h') (he:∃ q,h'.get? a=some q) (new:ObjOk X.prog X.w (upd H a ob) h' a ob) :
  Inv X pins σ (upd H a ob) {s with heap:=h',toks:=t' } :=
 I.write (x:=a) (e:=a) mu (.inl rfl) (fun b q hb z=>(hs.2 b hb).trans z) he new
theorem nR {P:Program} {w:World} {H':Hp} {h':Heap} {kvs:List (Key×V)} {vs:List (Key×Value)} (z:kvs.length<=sizeLine) (hd:(a==sysModules)=false) (rel:KV kvs vs) (dd:h'.DictOf (mixKind P w) a vs) :
  ObjOk P w H' h' a (.dK kvs):=⟨z,hd,vs,rel,dd⟩
theorem qv {H':Hp} {Q:Unit->Shared->Prop} (hu:A.units+1<cLine) (I:Inv X pins σ H s) (g:DPut H a y v H') (ry:RelV y u) (rv:RelV v r) (h:∀ s',Inv X pins σ H' s'->Q () s') :
  wpAny (model X.prog X.w) A (setItem (.ref a) u r) Q E s:=by
 rcases g with ⟨kvs,k,e,ey,l,eH⟩ | ⟨kvs,k,b,e,ey,eb,l,eH⟩
 ·subst ey eH
  obtain ⟨z,hd,vs,rel,dd⟩:=ph I.hok e
  have hz:vs.length<=sizeLine:=by rw [<- rel.length];exact z
  have hl:(putK kvs k v).length<=sizeLine:=by have:=length_putK kvs k v;omega
  refine wpAny_setItem_pairs (hsz:=hz) (kV_is ry) dd fun h' dd' hs=>h _ ?_
  have he:∃ q,h'.get? a=some q:=let ⟨q,_,_,hq,_⟩:=dd';⟨q,hq⟩
  exact iR I (by rw [e];exact True.intro) hs he (nR hl hd (rel.put k rv) dd')
 ·subst ey eH
  cases (show u=Value.ref b from ry)
  obtain ⟨z,hd,xs,rel,dd⟩:=ut I.hok e
  have hz:xs.length<=sizeLine:=by rw [<- Paired.length rel];exact z
  have hl:(putK kvs k v).length<=sizeLine:=by have:=length_putK kvs k v;omega
  refine wpAny_setItem_heap (hsz:=hz) (tupleKind_room_in1 hu) (key_of I.hok eb) dd fun h' dd' hs=>h _ ?_
  obtain ⟨q,es,ep,hq,h2,h3,h4,_,h5⟩:=dd'
  refine iR I (by rw [e];exact True.intro) hs ⟨q,hq⟩ ⟨hl,hd,_,(rel.put k eb rv).keeps fun c ys ec=>?_,q,es,ep,hq,h2,h3,h4,h5⟩
  rw [ay (ne_of ec e (fun z=>nomatch z))]
  exact ec
end
section
variable {X:Cx} {pins:List (Addr×Obj)} {σ:St} {H:Hp} {s:Shared} {a:Addr} {kvs:List (Key×V)} {k:Key} {u:Value} {A:Around} {E:Value->Shared->Prop}
end
def NoSl (i:Expr):Prop:=∀ ov iv,subscripted i false ov iv=operate [ov,iv] (getItem ov iv)
theorem subD_of {prog:Program} {w:World} {A:Around} {E:Value->Shared->Prop} {s:Shared} {env:Env} {value slice:Expr} {pos:Pos} {T id:String} {Q:Value->Shared->Prop}
  (hl:typeLookup (.type T) "__getitem__" = pure (some (.builtin id))) (hs:NoSl slice)
  (h:wpAny (model prog w) A (eval value env) (fun o s₁=>wpAny (model prog w) A (eval slice env) (fun i s₂=>s₂.TypeIs o T/\wpAny (model prog w) A (getItem o i) Q E s₂) E s₁) E s) :
  wpAny (model prog w) A (eval (.Subscript value slice pos) env) Q E s:=by
 refine Subscript_ (wpAny_mono h (fun o s₁ h₁=>wpAny_mono h₁ (fun i s₂ h₂=>?_) fun _ _ x=>x) fun _ _ x=>x)
 obtain ⟨hT,h₂⟩:=h₂
 unfold subscriptTail
 refine wpAny_bind ?_
 rw [getitemInPython_of_ne hT.not_modules]
 refine wpAny_bind (wpAny_specialOf hT hl ?_)
 have fin:wpAny (model prog w) A (subscripted slice false o i) (fun r s₃=>wpAny (model prog w) A (letTemporaryGo value o r >>= fun _=>pure r) Q E s₃) E s₂:=by
  rw [hs o i]
  exact wpAny_operating (wpAny_mono h₂ (fun r s₃ h₃=>wpAny_bind (wpAny_letTemporaryGo (wpAny_pure h₃))) fun _ _ x=>x)
 first
  | exact wpAny_pure (wpAny_bind fin)
  | exact wpAny_bind (wpAny_pure (wpAny_bind fin))
  | exact wpAny_bind fin
theorem dict_typeIs {X:Cx} {pins:List (Addr×Obj)} {σ:St} {H:Hp} {s:Shared} {a:Addr} {y:V} {o:Option V} (I:Inv X pins σ H s) (g:DGet H a y o):s.TypeIs (.ref a) "dict":=by
 rcases g with ⟨kvs,k,e,_,_⟩ | ⟨kvs,k,b,e,_,_,_⟩
 ·obtain ⟨_,_,vs,_,dd⟩:=lU I.hok e
  exact dd.typeIs
 ·obtain ⟨_,_,xs,_,dd⟩:=lz I.hok e
  exact dd.typeIs
def tDGet (td ty:TE):TE:=fun σ H Q=>td σ H fun x H1=>ty σ H1 fun y H2=>∃ a v,x=.ref a/\DGet H2 a y (some v)/\Q v H2
def sDPut (td ty tv:TE):TS:=fun D σ H=>tv σ H fun v H1=>td σ H1 fun x H2=>ty σ H2 fun y H3=>∃ a H4,x=.ref a/\DPut H3 a y v H4/\D.nx σ H4
section
variable {X:Cx} {o i e value:Expr} {pos pos' tpos:Pos} {td ty tv:TE}
theorem oY (hu:X.A.units+1<cLine) (ho:PE X o td) (hi:PE X i ty) (hs:NoSl i):PE X (.Subscript o i pos) (tDGet td ty):=by
 intro pins s σ H Q I h
 refine subD_of PySem.F.slot_dict_getitem.lookup hs (thn (ho pins s σ H _ I h) fun u s1 ⟨x,H1,I1,rx,q1⟩=>thn (hi pins s1 σ H1 _ I1 q1) fun iv s2 ⟨y,H2,I2,ry,a,v,ex,g,q2⟩=>?_)
 subst ex
 obtain rfl:u=Value.ref a:=rx
 exact ⟨dict_typeIs I2 g,qr hu I2 g ry fun w' s3 I3 rw'=>⟨v,H2,I3,rw',q2⟩⟩
theorem gF (hu:X.A.units+1<cLine) (ho:PE X o td) (hi:PE X i ty) (hv:PE X value tv) (hs:swapsWith value (some (.Subscript o i pos')) pos.line X.env=pure false) :
  PS X (.Assign [.Subscript o i pos'] value pos) (sDPut td ty tv):=by
 intro pins s σ H D I h
 refine wpAny_Assign_Subscript (thn (hv pins s σ H _ I h) fun r s1 ⟨v,H1,I1,rv,q1⟩=>thn (ho pins s1 σ H1 _ I1 q1) fun u s2 ⟨x,H2,I2,rx,q2⟩=>thn (hi pins s2 σ H2 _ I2 q2) fun iv s3 ⟨y,H3,I3,ry,a,H4,ex,g,q3⟩=>?_) hs
 subst ex
 obtain rfl:u=Value.ref a:=rx
 exact qv hu I3 g ry rv fun s4 I4=>⟨σ,H4,I4,q3⟩
end
theorem mM {P:Program} {w:World} {H:Hp} (h:Heap) (hb:sysModules<h.objs.size):ObjOk P w H (h.push {cls:=.type "dict",data:=.dict #[]}) h.objs.size (.dK []) :=
 ⟨Nat.zero_le _,beq_eq_false_iff_ne.mpr (Ne.symm (Nat.ne_of_lt hb)),[],.nil,Heap.DictOf.new h⟩
section
variable {X:Cx} {pos:Pos}
end
def tPairs:List (TE×TE)->St->Hp->(List (V×V)->Hp->Prop)->Prop
 | [],_,H,Q=>Q [] H
 | (tk,tv)::r,σ,H,Q=>tk σ H fun x H1=>tv σ H1 fun y H2=>tPairs r σ H2 fun ps H3=>Q ((x,y)::ps) H3
abbrev VV:List (V×V)->List (Value×Value)->Prop:=Paired fun p q=>RelV p.1 q.1/\RelV p.2 q.2
def PPs (X:Cx) (pos:Pos) (keys:List (Option Expr)) (values:List Expr) (trs:List (TE×TE)):Prop :=
 ∀ (pins:List (Addr×Obj)) (s:Shared) (σ:St) (H:Hp) (Q:List (V×V)->Hp->Prop),Inv X pins σ H s->tPairs trs σ H Q ->
  wpAny (model X.prog X.w) X.A (evalPairs (pairTrees keys values X.env pos)) (fun vs s'=>∃ ps H',Inv X pins σ H' s'/\VV ps vs/\Q ps H') X.xe s
theorem pps_nil {X:Cx} {pos:Pos}:PPs X pos [] [] []:=fun pins s σ H Q I h=>pairTrees_nil_walk ⟨[],H,I,.nil,h⟩
theorem pps_cons {X:Cx} {pos:Pos} {k v:Expr} {ks:List (Option Expr)} {vs:List Expr} {tk tv:TE} {trs:List (TE×TE)} (hk:PE X k tk) (hv:PE X v tv) (hr:PPs X pos ks vs trs) :
  PPs X pos (some k::ks) (v::vs) ((tk,tv)::trs):=fun pins s σ H Q I h =>
 pairTrees_cons_walk (thn (hk pins s σ H _ I h) fun u s1 ⟨x,H1,I1,rx,q1⟩=>thn (hv pins s1 σ H1 _ I1 q1) fun w2 s2 ⟨y,H2,I2,ry,q2⟩ =>
  thn (hr pins s2 σ H2 _ I2 q2) fun ws s3 ⟨ps,H3,I3,rel,q3⟩=>⟨(x,y)::ps,H3,I3,.cons ⟨rx,ry⟩ rel,q3⟩)
def mergeK (kvs more:List (Key×V)):List (Key×V):=more.foldl (fun acc kv=>putK acc kv.1 kv.2) kvs
theorem KV.merge:∀ {more:List (Key×V)} {rs:List (Key×Value)} {kvs:List (Key×V)} {vs:List (Key×Value)},KV more rs->KV kvs vs->KV (mergeK kvs more) (merged vs rs):=by
 intro more rs kvs vs r
 unfold KV at r
 induction r generalizing kvs vs with
 | nil=>intro q;exact q
 | @cons p q ps qs h t ih =>
  intro r0
  have e:KV (putK kvs p.1 p.2) (stored vs q.1 q.2):=by
   have:=r0.put p.1 h.2
   rw [<- h.1];exact this
  exact ih e
theorem length_mergeK:∀ (more kvs:List (Key×V)),(mergeK kvs more).length<=kvs.length+more.length
 | [],kvs=>by show kvs.length<=kvs.length+0;omega
 | p::r,kvs=>by
  have h1:=length_mergeK r (putK kvs p.1 p.2)
  have h2:=length_putK kvs p.1 p.2
  show (mergeK (putK kvs p.1 p.2) r).length<=_
  rw [List.length_cons];omega
theorem carries_of {P:Program} {w:World}:∀ {kvs:List (Key×V)} {ws:List (Value×Value)},VV (kvs.map fun kv=>(kV kv.1,kv.2)) ws->∃ rs,Carries (mixKind P w) ws rs/\KV kvs rs
 | [],_,r=>by rw [List.map_nil] at r;cases r;exact ⟨[],True.intro,.nil⟩
 | p::kvs,_,r=>by
  rw [List.map_cons] at r
  cases r with
  | @cons a b as bs h t =>
   obtain ⟨rs,c,q⟩:=carries_of (P:=P) (w:=w) t
   obtain ⟨b1,b2⟩:=b
   exact ⟨(p.1,b2)::rs,⟨kV_is h.1,rfl,c⟩,.cons ⟨rfl,h.2⟩ q⟩
def tDisp (trs:List (TE×TE)):TE:=fun σ H Q=>∀ p,H p=none->tPairs trs σ (upd H p (.dK [])) fun ps H2=>H2 p=some (.dK [])/\∃ kvs:List (Key×V),ps=kvs.map (fun kv=>(kV kv.1,kv.2))/\kvs.length<=15/\Q (.ref p) (upd H2 p (.dK (mergeK [] kvs)))
theorem sn {X:Cx} {pos:Pos} {keys:List (Option Expr)} {values:List Expr} {trs:List (TE×TE)} (h:PPs X pos keys values trs) (hall:keys.all (·.isSome)=true) (hl:keys.length=values.length) (h0:keys ≠ [])
  (h15:keys.length<=15):PE X (.Dict keys values pos) (tDisp trs):=by
 intro pins s σ H Q I q
 have hn:=I.hok.fresh (Nat.le_refl s.heap.objs.size)
 have I1:=I.laid (a:=s.heap.objs.size) (o:=.dK []) (h':=s.heap.push {cls:=.type "dict",data:=.dict #[]}) (t':=s.toks) (fun _ _ q=>Heap.get?_push_of_some _ q) (Nat.le_refl _) (mM s.heap I.big)
 refine wpAny_Dict_walk (knd:=mixKind X.prog X.w) hall hl h0 h15 (thn (h pins _ σ _ _ I1 (q _ hn)) fun ws s2 ⟨ps,H2,I2,rel,e,kvs,ep,lk,q2⟩=>?_)
 subst ep
 obtain ⟨rs,c,rk⟩:=carries_of (P:=X.prog) (w:=X.w) rel
 obtain ⟨z,hd,vs0,r0,dd⟩:=ph I2.hok e
 cases r0
 refine ⟨rs,c,dd,fun h' dd' hs=>⟨.ref s.heap.objs.size,_,?_,rfl,q2⟩⟩
 have hz:(mergeK [] kvs).length<=sizeLine:=by
  have h1:=length_mergeK kvs []
  rw [List.length_nil] at h1
  rw [sizeLine_eq];omega
 have he:∃ q,h'.get? s.heap.objs.size=some q:=let ⟨q,_,_,hq,_⟩:=dd';⟨q,hq⟩
 exact iR I2 (by rw [e];exact True.intro) hs he (nR hz hd (rk.merge .nil) dd')
structure M2 (X:Cx) (o:Expr) (m:Str) (apos:Pos) (e f:Expr) (cpos:Pos):Prop where
 base:attributeBase o m X.env (eval o X.env)=eval o X.env
 few:((backTo cpos (starEach [e,f] X.env)).all (fun x=>!x.1)&&(backToKw cpos (keywordEach [] X.env)).all (fun x=>x.1.isSome)
  && decide (([e,f]:List Expr).length+([]:List Keyword).length+(if ([]:List Keyword).isEmpty then 0 else 1)<30))=true
 line:(apos.endLine==cpos.line)=true
 trees:backTo cpos (starEach [e,f] X.env)=[(false,eval e X.env),(false,eval f X.env)]
def IsD (H:Hp) (a:Addr):Prop:=(∃ kvs,Rd H a (.dK kvs))\/∃ kvs,Rd H a (.dT kvs)
theorem isD_at {X:Cx} {pins:List (Addr×Obj)} {σ:St} {H:Hp} {s:Shared} {a:Addr} (I:Inv X pins σ H s) (d:IsD H a) :
  s.TypeIs (.ref a) "dict" /\ (∀ b,Value.ref a=.ref b->∃ ob,s.heap.get? b=some ob/\ob.dict=none)/\(a==sysModules)=false:=by
 rcases d with ⟨kvs,e⟩ | ⟨kvs,e⟩
 ·obtain ⟨_,hd,vs,_,dd⟩:=lU I.hok e
  refine ⟨dd.typeIs,fun b q=>?_,hd⟩
  cases q
  obtain ⟨ob,_,_,h1,h2,_⟩:=dd
  exact ⟨ob,h1,h2.2.1⟩
 ·obtain ⟨_,hd,xs,_,dd⟩:=lz I.hok e
  refine ⟨dd.typeIs,fun b q=>?_,hd⟩
  cases q
  obtain ⟨ob,_,_,h1,h2,_⟩:=dd
  exact ⟨ob,h1,h2.2.1⟩
section
variable {X:Cx} {pins:List (Addr×Obj)} {σ:St} {H:Hp} {s:Shared} {a:Addr} {y d:V} {u r:Value} {o:Option V} {A:Around} {E:Value->Shared->Prop}
theorem uf {Q:Value->Shared->Prop} (hu:A.units+1<cLine) (I:Inv X pins σ H s) (g:DGet H a y o) (ry:RelV y u) (rd:RelV d r) (h:∀ w' s',Inv X pins σ H s'->RelV (o.getD d) w'->Q w' s') :
  wpAny (model X.prog X.w) A (call (.builtin "dict.get") [.ref a,u,r]) Q E s:=by
 rcases g with ⟨kvs,k,e,ey,l⟩ | ⟨kvs,k,b,e,ey,eb,l⟩
 ·subst ey
  obtain ⟨z,hd,vs,rel,dd⟩:=lU I.hok e
  refine call_meetsIn PySem.F.slot_dict_get dd.typeIs PySem.F.entry_dict_get (PySem.F.args_dict_get_3 _ _ _) (meets_dict_get_default (mixKind X.prog X.w) a (kV_is ry) hd r) ⟨_,dd.mapOf,h _ _ (I.tok _) ?_⟩
  rw [l]
  exact (rel.val k).getD rd
 ·subst ey
  cases (show u=Value.ref b from ry)
  obtain ⟨z,hd,xs,rel,dd⟩:=lz I.hok e
  refine call_meetsIn PySem.F.slot_dict_get dd.typeIs PySem.F.entry_dict_get (PySem.F.args_dict_get_3 _ _ _) (meetsH_dict_get_default (tupleKind (mixKind X.prog X.w)) a b hd r) ⟨tupleKind_room_in1 hu,k,xs,key_of I.hok eb,dd,h _ _ (I.tok _) ?_⟩
  rw [l]
  exact (rel.val k).getD rd
end
def tDGet2 (td ty tx:TE):TE:=fun σ H Q=>td σ H fun x H1=>∃ a,x=.ref a/\IsD H1 a/\ty σ H1 fun y H2=>tx σ H2 fun z H3=>∃ o,DGet H3 a y o/\Q (o.getD z) H3
section
variable {X:Cx} {o e f:Expr} {apos cpos:Pos} {td ty tx:TE}
theorem qX (hu:X.A.units+1<cLine) (ho:PE X o td) (he:PE X e ty) (hf:PE X f tx) (m:M2 X o "get" apos e f cpos):PE X (.Call (.Attribute o "get" apos) [e,f] [] cpos) (tDGet2 td ty tx):=by
 intro pins s σ H Q I h
 refine wpAny_Call_method m.base m.few m.line PySem.F.plainAttrs_dict PySem.F.slot_dict_get PySem.F.type_dict_get (thn (ho pins s σ H _ I h) fun u s1 ⟨x,H1,I1,rx,a,ex,d,q1⟩=>?_)
 subst ex
 obtain rfl:u=Value.ref a:=rx
 obtain ⟨t1,t2,_⟩:=isD_at I1 d
 refine ⟨t1,t2,?_⟩
 rw [m.trees]
 refine Calls.callWith_builtin rfl (Calls.evalArgs_plain (Calls.spliced_cons (thn (he pins s1 σ H1 _ I1 q1) fun iv s2 ⟨y,H2,I2,ry,q2⟩ =>
  Calls.spliced_cons (thn (hf pins s2 σ H2 _ I2 q2) fun fv s3 ⟨z,H3,I3,rz,ov,g,q3⟩=>Calls.spliced_nil ?_))))
 exact uf hu I3 g ry rz fun w' s4 I4 rw'=>⟨_,H3,I4,rw',q3⟩
end
section
variable {X:Cx} {pins:List (Addr×Obj)} {σ:St} {H:Hp} {s:Shared} {a:Addr} {kvs:List (Key×V)} {A:Around} {E:Value->Shared->Prop}
end
section
variable {X:Cx} {pins:List (Addr×Obj)} {σ:St} {H:Hp} {s:Shared} {a:Addr} {y:V} {u:Value} {A:Around} {E:Value->Shared->Prop}
end
end L2
namespace HW
open PySem
def getK:List (Str×D)->Str->Option D
 | [],_=>none
 | p::r,x=>if p.1=x then some p.2 else getK r x
end HW
namespace HW
open PySem
end HW
namespace HW
open PySem PySem.Spec PyProof.Rows L2
def OwnK (P:Program) (w:World) (a:Addr) (kvs:List (Key×V)):HO:=.ext fun h=>kvs.length<=sizeLine/\(a==sysModules)=false/\∃ vs,KV kvs vs/\h.DictOf (mixKind P w) a vs
section
variable {X:Cx} {pins:List (Addr×Obj)} {σ:L2.St} {H:Hp} {s:Shared} {a:Addr} {kvs:List (Key×V)}
end
def RepK (K:PySem.W.Frag) (H:Hp):List (Str×D)->List (Key×V)->Prop
 | [],vs=>vs=[]
 | p::r,vs=>∃ v t,vs=(.inr p.1,v)::t/\Rep K H p.2 v/\RepK K H r t
section
variable {K:PySem.W.Frag} {H H':Hp}
theorem RepK.kp (s:Kp H H'):∀ {ds:List (Str×D)} {vs:List (Key×V)},RepK K H ds vs->RepK K H' ds vs
 | [],_,h=>h
 | p::r,_,h=>by
  obtain ⟨v,t,e,q,w⟩:=h
  exact ⟨v,t,e,q.kp s,RepK.kp s w⟩
theorem RepK.mono (s:Same H H') {ds:List (Str×D)} {vs:List (Key×V)} (h:RepK K H ds vs):RepK K H' ds vs:=h.kp (Kp.of s)
theorem RepK.snoc:∀ {ds:List (Str×D)} {vs:List (Key×V)} {x:Str} {d:D} {v:V},RepK K H ds vs->Rep K H d v->RepK K H (ds++[(x,d)]) (vs++[(.inr x,v)])
 | [],_,x,d,v,h,r=>by
  cases (show _=[] from h)
  exact ⟨v,[],rfl,r,rfl⟩
 | p::ds,_,x,d,v,h,r=>by
  obtain ⟨u,t,e,q,w⟩:=h
  subst e
  exact ⟨u,t++[(.inr x,v)],rfl,q,RepK.snoc w r⟩
theorem RepK.len:∀ {ds:List (Str×D)} {vs:List (Key×V)},RepK K H ds vs->ds.length=vs.length
 | [],_,h=>by cases (show _=[] from h);rfl
 | p::r,_,h=>by
  obtain ⟨v,t,e,q,w⟩:=h
  subst e
  simp [RepK.len w]
theorem RepK.at:∀ {ds:List (Str×D)} {vs:List (Key×V)} {x:Str},RepK K H ds vs->match getK ds x with
  | some d=>∃ v,valV vs (Sum.inr x:Key)=some v/\Rep K H d v
  | none=>valV vs (Sum.inr x:Key)=none
 | [],_,x,h=>by cases (show _=[] from h);rfl
 | p::r,_,x,h=>by
  obtain ⟨v,t,e,q,w⟩:=h
  subst e
  have ih:=RepK.at (x:=x) w
  unfold getK
  by_cases hx:p.1=x
  ·rw [if_pos hx]
   exact ⟨v,valV_pos (by rw [hx]),q⟩
  ·rw [if_neg hx]
   have n:valV (((Sum.inr p.1:Key),v)::t) (Sum.inr x)=valV t (Sum.inr x):=valV_neg fun z=>hx (Sum.inr.inj z)
   rw [n]
   exact ih
end
def tKE (P:Program) (w:World) (K:PySem.W.Frag) (g:R->List (Str×D)->Option D):TE:=fun σ H Q=>∃ ρ τ a ds xs d,EnvT K H ρ (some (.ref a)::τ) σ/\H a=some (OwnK P w a xs)/\RepK K H ds xs/\g ρ ds=some d/\∀ v H',Same H H'->Rep K H' d v->Q v H'
def KE (X:Cx) (e:Expr) (g:R->List (Str×D)->Option D):Prop:=PE X e (tKE X.prog X.w X.K g)
section
variable {X:Cx} {st:Stmt} {sts:List Stmt} {u:R->Option Out} {w:R->List (Str×D)->Option Out} {pos:Pos} {e:Expr} {es:List Expr} {f:R->Option D} {F:R->Option (List D)}
end
section
variable {X:Cx} {sts:List Stmt} {w:R->List (Str×D)->Option Out} {pos:Pos} {f:R->Option D}
end
end HW
namespace HW
open PySem PySem.Spec PyProof.Rows L2
variable {X:Cx}
end HW
namespace HW
def intsOf:List D->Option (List Int)
 | []=>some []
 | .int i::r=>(intsOf r).map (i::·)
 | _::_=>none
end HW
namespace HW
end HW
namespace HW
def fSIdx:List D->Option D
 | [.str x,.str y]=>match PySem.Builtin.Str.occurrences x y 0 x.length 1 with
  | i::_=>some (.int (i:Int))
  | []=>none
 | _=>none
end HW
namespace HW
open PySem
end HW
namespace HW
open PySem
inductive MO where
 | nx (ρ:R)
 | rt (d:D) (ρ:R)
abbrev MU:=List Nat->R->Option MO
def mPure (u:R->Option Out):MU:=fun _ ρ=>(u ρ).bind fun o=>match o with
 | .nx ρ2=>some (.nx ρ2)
 | .rt d=>some (.rt d ρ)
 | _=>none
def mNext:MU:=fun _ ρ=>some (.nx ρ)
def mSeq (u w:MU):MU:=fun S ρ=>(u S ρ).bind fun o=>match o with
 | .nx ρ2=>w S ρ2
 | o=>some o
def mIf (c:R->Option Bool) (u w:MU):MU:=fun S ρ=>(c ρ).bind fun b=>if b then u S ρ else w S ρ
def forM (st:D->R->Option R) (u:MU) (S:List Nat):List D->R->Option MO
 | [],ρ=>some (.nx ρ)
 | d::ds,ρ=>(st d ρ).bind fun ρ1=>(u S ρ1).bind fun o=>match o with
  | .nx ρ2=>forM st u S ds ρ2
  | o=>some o
def mFor (it:R->Option (List D)) (st:D->R->Option R) (u:MU):MU:=fun S ρ=>(it ρ).bind fun ds=>if nobs ds then forM st u S ds ρ else none
def nobO:Option D->Bool
 | some d=>nob d
 | none=>true
def nobBut (i:Nat) (ρ:R):Bool:=(ρ.set i none).all nobO
def adr1:D->List Nat
 | .obj _ a _ _=>[a]
 | _=>[]
def adr:D->List Nat
 | .obj _ a _ es=>a::es.flatMap adr1
 | _=>[]
def inS (S:List Nat) (as:List Nat):Bool:=as.all fun a=>S.contains a
def mCal (i:Nat) (G:List D->Option (D×D)) (F:R->Option (List D)) (S:List Nat) (ρ:R):Option (D×R):=(vAt i ρ).bind fun ob=>(F ρ).bind fun ds=>(G ds).bind fun r =>
 if isOb ob=true/\nobBut i ρ=true/\inS S (adr ob)=true then some (r.1,ρ.set i (some r.2)) else none
def mExpr (c:List Nat->R->Option (D×R)):MU:=fun S ρ=>(c S ρ).map fun r=>.nx r.2
def keyD:List Str->List D->Str->Option D
 | k::ks,d::ds,x=>if k=x then some d else keyD ks ds x
 | _,_,_=>none
def putD:List Str->List D->Str->D->List Str×List D
 | k::ks,d::ds,x,e=>if k=x then (k::ks,e::ds) else (k::(putD ks ds x e).1,d::(putD ks ds x e).2)
 | ks,ds,x,e=>(ks++[x],ds++[e])
def okN:D->Bool
 | .obj 0 _ _ es=>nobs es
 | d=>nob d
def endM (j:Nat) (ob d:D) (ρ:R):Option (D×D):=(vAt j ρ).bind fun ob'=>if isOb ob'=true/\adr ob'=adr ob then some (d,ob') else none
def viaM (n N j:Nat) (g:MU):List D->Option (D×D):=fun ds=>if ds.length=n then (ds[j]?).bind fun ob=>if isOb ob=true then (g (adr ob) (beg N ds)).bind fun o=>match o with
 | .nx ρ=>endM j ob .non ρ
 | .rt d ρ=>endM j ob d ρ
 else none else none
def adr0:D->Nat
 | .obj _ a _ _=>a
 | _=>0
end HW
namespace HW
open PySem
def sepO (A:List Nat):Option D->Bool
 | some (.obj _ a _ es)=>(a::es.flatMap adr1).all (fun x=>!A.contains x)&&es.all okN
 | some d=>nob d
 | none=>true
mutual
def nof:D->Bool
 | .tup xs=>nofs xs
 | .lst xs=>nofs xs
 | .fro _=>false
 | .obj ..=>false
 | _=>true
def nofs:List D->Bool
 | []=>true
 | x::xs=>nof x&&nofs xs
end
end HW
namespace HW
open PySem PySem.SetTable
theorem below_go (xs:Array Nat) (j:Nat) (H:∀ a b,a<b->b<xs.size->xs.getD a 0<xs.getD b 0):∀ fuel lo hi,hi - lo<=fuel->lo<=hi->hi<=xs.size ->
  (∀ i,i<lo->xs.getD i 0<j)->(∀ i,hi<=i->i<xs.size->j<=xs.getD i 0) ->
  below.go xs j fuel lo hi<=xs.size/\(∀ i,i<below.go xs j fuel lo hi->xs.getD i 0<j)/\(∀ i,below.go xs j fuel lo hi<=i->i<xs.size->j<=xs.getD i 0):=by
 intro fuel
 induction fuel with
 | zero =>
  intro lo hi h1 h2 h3 h4 h5
  have:lo=hi:=by omega
  subst this
  exact ⟨h3,h4,h5⟩
 | succ fuel ih =>
  intro lo hi h1 h2 h3 h4 h5
  unfold below.go
  by_cases hlt:lo<hi
  ·rw [if_pos hlt]
   have hm:(lo+hi) / 2<xs.size:=by omega
   have e:xs.getD ((lo+hi) / 2) j=xs.getD ((lo+hi) / 2) 0:=by simp [Array.getD,hm]
   show (if xs.getD ((lo+hi) / 2) j<j then _ else _:Nat)<=_/\_
   dsimp only
   rw [e]
   by_cases hc:xs.getD ((lo+hi) / 2) 0<j
   ·rw [if_pos hc]
    refine ih _ _ (by omega) (by omega) h3 (fun i hi'=>?_) h5
    by_cases he:i=(lo+hi) / 2
    ·subst he;exact hc
    ·exact Nat.lt_trans (H i _ (by omega) hm) hc
   ·rw [if_neg hc]
    refine ih _ _ (by omega) (by omega) (by omega) h4 (fun i hi' hs=>?_)
    by_cases he:i=(lo+hi) / 2
    ·subst he;omega
    ·have:=H _ i (by omega:(lo+hi) / 2<i) hs;omega
  ·rw [if_neg hlt]
   have:lo=hi:=by omega
   subst this
   exact ⟨h3,h4,h5⟩
def Ris (xs:Array Nat):Prop:=∀ a b,a<b->b<xs.size->xs.getD a 0<xs.getD b 0
theorem below_spec {xs:Array Nat} (H:Ris xs) (j:Nat):below xs j<=xs.size/\(∀ i,i<below xs j->xs.getD i 0<j)/\(∀ i,below xs j<=i->i<xs.size->j<=xs.getD i 0) :=
 below_go xs j H xs.size 0 xs.size (by omega) (by omega) (by omega) (fun i h=>by omega) (fun i h h'=>by omega)
theorem below_0 {xs:Array Nat} (H:Ris xs):below xs 0=0:=by
 obtain ⟨a,b,c⟩:=below_spec H 0
 rcases Nat.eq_zero_or_pos (below xs 0) with h | h
 ·exact h
 ·have:=b 0 h;omega
theorem below_s {xs:Array Nat} (H:Ris xs) {i:Nat} (hi:i<xs.size):below xs (xs.getD i 0+1)=i+1:=by
 obtain ⟨a,b,c⟩:=below_spec H (xs.getD i 0+1)
 generalize below xs (xs.getD i 0+1)=r at *
 rcases Nat.lt_or_ge i r with h | h
 ·rcases Nat.lt_or_ge (i+1) r with h' | h'
  ·have h1:=b (i+1) h'
   have h2:=H i (i+1) (by omega) (by omega)
   omega
  ·omega
 ·have:=c i h hi;omega
structure TI (t:SetTable) (n:Nat):Prop where
 mask:t.mask=7
 dum:t.dummies=#[]
 plain:t.plain=true
 ris:Ris t.place
 size:t.place.size=n
theorem TI.fits {t:SetTable} {n:Nat} (T:TI t n) (hn:n<=7):t.fits n=true:=by
 unfold SetTable.fits SetTable.fill
 rw [T.mask,T.dum,T.size]
 simp;omega
theorem TI.fresh (led:Bool):TI (.fresh 0 0 led) 0:=⟨rfl,rfl,rfl,fun a b h hb=>absurd hb (by simp [SetTable.fresh]),rfl⟩
theorem perm_erase {α:Type}:∀ (l:List α) (i:Nat) (x:α),l[i]?=some x->(x::l.eraseIdx i).Perm l
 | [],i,x,h=>by simp at h
 | a::l,0,x,h=>by simp at h;subst h;exact .refl _
 | a::l,i+1,x,h=>by
  simp only [List.getElem?_cons_succ] at h
  simp only [List.eraseIdx_cons_succ]
  exact (List.Perm.swap _ _ _).trans ((perm_erase l i x h).cons a)
theorem pick_go {α:Type} (next:Nat->Nat):∀ (fuel k:Nat) (left:List α) (out:Array α),left.length=fuel->(pickOrder.go next fuel k left out).toList.Perm (out.toList++left)
 | 0,k,left,out,h=>by
  have:left=[]:=List.eq_nil_of_length_eq_zero h
  subst this;rw [List.append_nil];exact .refl _
 | fuel+1,k,left,out,h=>by
  unfold pickOrder.go
  have hlt:next k%left.length<left.length:=Nat.mod_lt _ (by omega)
  rw [List.getElem?_eq_getElem hlt]
  dsimp only
  refine (pick_go next fuel (k+1) _ _ (by rw [List.length_eraseIdx_of_lt hlt];omega)).trans ?_
  rw [Array.toList_push,List.append_assoc]
  exact (perm_erase left _ _ (List.getElem?_eq_getElem hlt)).append_left _
theorem pick_perm {α:Type} (next:Nat->Nat) (xs:Array α):(pickOrder next xs).toList.Perm xs.toList:=by
 unfold pickOrder
 exact pick_go next xs.size 0 xs.toList #[] (by simp)
theorem pick_size {α:Type} (next:Nat->Nat) (xs:Array α):(pickOrder next xs).size=xs.size:=by
 rw [<- Array.length_toList,(pick_perm next xs).length_eq,Array.length_toList]
end HW
namespace HW
open PySem
def zOf:Value->Int
 | .int n _=>n
 | _=>0
def SetI (b:Bool) (h:Heap) (S:Addr) (ks:List Int):Prop :=
 ∃ o es ep t,h.get? S=some o/\o.ExactSet/\o.data=.set es ep t/\(∀ e∈es.toList,∃ k tk,e=(hashInt k,Value.int k tk))/\TI t es.size/\t.led=b/\(es.toList.map fun e=>zOf e.2).Perm ks
theorem SetI.at {b:Bool} {h h':Heap} {S:Addr} {ks:List Int} (x:SetI b h S ks) (e:∀ o,h.get? S=some o->h'.get? S=some o):SetI b h' S ks:=let ⟨o,es,ep,t,ho,r⟩:=x;⟨o,es,ep,t,e _ ho,r⟩
section
variable {prog:Program} {w:World} {A:Around} {E:Value->Shared->Prop} {s:Shared}
end
end HW
namespace HW
open PySem PySem.Spec PyProof.Rows
def IsSetIt (h:Heap) (it S:Addr) (slot i n ep:Nat):Prop:=∃ o,h.get? it=some o/\o.cls=.type "set_iterator" /\ o.data=.fields #[.int slot 0,.int i 0,.ref S,.int n 0,.int ep 0]
def IsSet (h:Heap) (S:Addr) (es:Array (Int×Value)) (ep:Nat) (t:SetTable):Prop:=∃ o,h.get? S=some o/\o.cls=.type "set" /\ o.data=.set es ep t
def slotAt (t:SetTable):Nat->Nat
 | 0=>0
 | i+1=>t.place.getD i 0+1
def byTxt (w:World):Bool:=w.params.followText "set-order"
structure SetOrd (w:World) (S:Addr) (es:Array (Int×Value)) (ep:Nat) (t:SetTable) (ord:Array (Int×Value)):Prop where
 fits:t.fits es.size=true
 size:ord.size=es.size
 txt:byTxt w=true->ord=pickOrder (w.params.setOrder S ep) es
 plc:byTxt w=false->ord=es/\t.led=true/\(!t.plain&&decide (es.size > 1))=false/\∀ i,i<=es.size->SetTable.below t.place (slotAt t i)=i
theorem IsSetIt.typeIs {s:Shared} {it S slot i n ep} (x:IsSetIt s.heap it S slot i n ep):s.TypeIs (.ref it) "set_iterator":=let ⟨o,ho,hc,_⟩:=x;⟨o,ho,hc⟩
theorem IsSet.typeIs {s:Shared} {S es ep t} (x:IsSet s.heap S es ep t):s.TypeIs (.ref S) "set":=let ⟨o,ho,hc,_⟩:=x;⟨o,ho,hc⟩
theorem IsSet.at {h h':Heap} {S es ep t} (x:IsSet h S es ep t) (e:∀ o,h.get? S=some o->h'.get? S=some o):IsSet h' S es ep t:=let ⟨o,ho,r⟩:=x;⟨o,e _ ho,r⟩
theorem IsSetIt.at {h h':Heap} {it S slot i n ep} (x:IsSetIt h it S slot i n ep) (e:∀ o,h.get? it=some o->h'.get? it=some o):IsSetIt h' it S slot i n ep:=let ⟨o,ho,r⟩:=x;⟨o,e _ ho,r⟩
theorem IsSet.lt {h:Heap} {S es ep t} (x:IsSet h S es ep t):S<h.objs.size:=let ⟨_,ho,_⟩:=x;Heap.lt_size ho
section
variable {prog:Program} {w:World} {A:Around} {E:Value->Shared->Prop} {s:Shared} {S:Addr} {es ord:Array (Int×Value)} {ep:Nat} {t:SetTable}
def nextOf (ord:Array (Int×Value)) (i nx:Nat):Option (Value×Nat):=(ord[i]?).map fun e=>(e.2,nx)
end
end HW
set_option maxHeartbeats 3200000
namespace HW
open PySem PySem.Spec PyProof.Rows
section
variable {prog:Program} {w:World} {A:Around} {R:Result->Shared->Prop} {I:Addr} {fp wr:List Addr} {G:Array GenState->Array GenState->Prop} {n:Nat} {P:Nat->Value->Prop} {St:Nat->Shared->Prop}
end
section
variable {prog:Program} {w:World} {A:Around} {E:Value->Shared->Prop} {s:Shared}
abbrev freshS (w:World):Obj:={cls:=.type "set",dict:=none,data:=.set #[] 0 (.fresh 0 0 (!byTxt w))}
theorem SetI.new {h:Heap} {w:World}:SetI (!byTxt w) (h.push (freshS w)) h.objs.size [] :=
 ⟨freshS w,#[],0,_,Heap.get?_push_size _ rfl,⟨rfl,rfl,rfl⟩,rfl,fun e he=>by simp at he,TI.fresh _,rfl,.refl _⟩
theorem SetI.ord {h:Heap} {S:Addr} {ks:List Int} (x:SetI (!byTxt w) h S ks) (hn:ks.length<=4) :
  ∃ es ep t ord,IsSet h S es ep t/\SetOrd w S es ep t ord/\(ord.toList.map fun e=>zOf e.2).Perm ks/\∀ e∈ord.toList,∃ k tk,e.2=Value.int k tk:=by
 obtain ⟨o,es,ep,t,ho,hex,hd,hel,hT,hled,hp⟩:=x
 have hlen:es.size=ks.length:=by rw [<- hp.length_eq,List.length_map,Array.length_toList]
 have hf:t.fits es.size=true:=hT.fits (by omega)
 have hel':∀ e∈es.toList,∃ k tk,e.2=Value.int k tk:=fun e he=>let ⟨k,tk,q⟩:=hel e he;⟨k,tk,by rw [q]⟩
 cases hb:byTxt w with
 | true =>
  have pp:=pick_perm (w.params.setOrder S ep) es
  exact ⟨es,ep,t,pickOrder (w.params.setOrder S ep) es,⟨o,ho,hex.1,hd⟩,⟨hf,pick_size _ _,fun _=>rfl,fun z=>by rw [hb] at z;cases z⟩,(pp.map _).trans hp,fun e he=>hel' e (pp.mem_iff.mp he)⟩
 | false =>
  refine ⟨es,ep,t,es,⟨o,ho,hex.1,hd⟩,⟨hf,rfl,(fun z=>by rw [hb] at z;cases z),fun _=>⟨rfl,by rw [hled,hb];rfl,by rw [hT.plain];rfl,fun i hi=>?_⟩⟩,hp,hel'⟩
  cases i with
  | zero=>exact below_0 hT.ris
  | succ i=>exact below_s hT.ris (by rw [hT.size];exact hi)
end
end HW
set_option maxHeartbeats 1000000
namespace HW
open PySem PySem.Spec PyProof.Rows L2
section
variable {X:Cx}
theorem fF {K:PySem.W.Frag} {H:Hp}:∀ {ds:List D} {ns:List Int} {xs:List V} {its:List Value},intsOf ds=some ns->Reps K H ds xs->Vals xs its->IntsAre its ns
 | [],ns,xs,its,e,r,v=>by
  cases e
  cases (show xs=[] from r)
  cases v
  exact .nil
 | .int i::ds,ns,xs,its,e,r,v=>by
  obtain ⟨ms,e1,e2⟩:=mapS (show (intsOf ds).map (i::·)=some ns from e)
  subst e2
  obtain ⟨x,xr,rfl,r1,r2⟩:=r
  cases (show x=_ from r1)
  cases v with
  | cons v1 v2 =>
   obtain ⟨t,rfl⟩:=v1
   exact .cons i t (fF e1 r2 v2)
 | .non::_,_,_,_,e,_,_=>by cases e
 | .bl _::_,_,_,_,e,_,_=>by cases e
 | .str _::_,_,_,_,e,_,_=>by cases e
 | .tup _::_,_,_,_,e,_,_=>by cases e
 | .lst _::_,_,_,_,e,_,_=>by cases e
 | .fro _::_,_,_,_,e,_,_=>by cases e
variable {sts:List Stmt}
end
end HW
namespace HW
open PySem PySem.Spec PyProof.Rows L2
section
variable {prog:Program} {w:World} {A:Around} {R':Result->Shared->Prop} {I:Addr} {fp wr:List Addr} {n:Nat} {P:Nat->Value->Prop} {St:Nat->Heap->Prop}
end
section
variable {prog:Program} {w:World} {A:Around} {E:Value->Shared->Prop} {s:Shared}
end
section
variable {X:Cx}
end
end HW
namespace HW
open PySem PySem.Spec PyProof.Rows L2
section
variable {prog:Program} {w:World} {A:Around} {E:Value->Shared->Prop} {s:Shared}
end
section
variable {X:Cx}
end
end HW
namespace HW
open PySem PySem.Spec PyProof.Rows L2
section
variable {X:Cx}
theorem sC:MtD X "str.index" fSIdx:=by
 intro pins s σ H x vs v us Q I rx rv h
 obtain ⟨dx,ds,d,r1,r2,e,q⟩:=h
 match dx,ds,e with
 | .str z,[.str y],e =>
  cases (show x=_ from r1)
  obtain ⟨t,rfl⟩:=rx
  obtain ⟨u,r',rfl,k1,r2⟩:=r2
  cases (show r'=[] from r2)
  cases (show u=_ from k1)
  obtain ⟨u',rfl,t2,rfl⟩:=rv.one
  cases ho:Builtin.Str.occurrences z y 0 z.length 1 with
  | nil =>
   have e':(match Builtin.Str.occurrences z y 0 z.length 1 with | i::_=>some (D.int (i:Int)) | []=>none)=some d:=e
   rw [ho] at e'
   cases e'
  | cons i rest =>
   have e':(match Builtin.Str.occurrences z y 0 z.length 1 with | i::_=>some (D.int (i:Int)) | []=>none)=some d:=e
   rw [ho] at e'
   cases e'
   exact SC.index ho ⟨.int (i:Int),H,I.tok _,⟨_,rfl⟩,q _ H (Same.refl H) rfl⟩
theorem sidx_str {x:D} {ds:List D} {d:D} (h:fSIdx (x::ds)=some d):∃ z,x=.str z:=by
 cases x with
 | str z=>exact ⟨z,rfl⟩
 | _=>cases h
theorem sx {a e:Expr} {es:List Expr} {f:R->Option D} {F:R->Option (List D)} {ap cp:Pos} (ha:SE X a f) (hF:SA X (e::es) F)
  (hbase:attributeBase a "index" X.env (eval a X.env)=eval a X.env:=by rfl)
  (hfew:((backTo cp (starEach (e::es) X.env)).all (fun x=>!x.1)&&(backToKw cp (keywordEach [] X.env)).all (fun x=>x.1.isSome)&&decide ((e::es).length+([]:List Keyword).length+(if ([]:List Keyword).isEmpty then 0 else 1)<30))=true:=by rfl)
  (hline:(ap.endLine==cp.line)=true:=by rfl):SE X (.Call (.Attribute a "index" ap) (e::es) [] cp) (callD fSIdx (argC f F)) :=
 uo PySem.F.slot_str_index PySem.F.type_str_index sC (fun _ _ _ h=>sidx_str h) ha hF hbase hfew hline
end
end HW
namespace HW
open PySem PySem.Spec PyProof.Rows L2
section
variable {X:Cx}
end
abbrev Fn4 (K:PySem.W.Frag) (n:Str) (st:Stmt) (f:Addr):Prop:=∃ (oc:Value) (od an:Option Addr) (sl:Array (Option Value)) (kV dc pm cd ct:Value),PySem.W.nsIn K mainGlobals n=some (some (.ref f)) /\
 K.lookup f=some ⟨oc,od,.func (PySem.W.fnOf n n (defArgs st) (defBody st) (defScope st) .none kV dc pm an cd ct),sl⟩/\PySem.W.codeIn K cd n=true/\PySem.W.keepIn K (.ref f)=true
theorem fn4 {K:PySem.W.Frag} {n:Str} {st:Stmt} {f:Addr} (h:Fn4 K n st f):∃ fd,Fun K n n st f fd/\PySem.W.nsIn K mainGlobals n=some (some (.ref f)):=by
 obtain ⟨oc,od,an,sl,kV,dc,pm,cd,ct,a,l,c,k⟩:=h
 exact ⟨_,qJ l c k,a⟩
theorem fn4_mk {K:PySem.W.Frag} {n:Str} {st:Stmt} {f:Addr} {oc:Value} {od an:Option Addr} {sl:Array (Option Value)} {kV dc pm cd ct:Value} (a:PySem.W.nsIn K mainGlobals n=some (some (.ref f)))
  (l:K.lookup f=some ⟨oc,od,.func (PySem.W.fnOf n n (defArgs st) (defBody st) (defScope st) .none kV dc pm an cd ct),sl⟩) (c:PySem.W.codeIn K cd n=true) (k:PySem.W.keepIn K (.ref f)=true):Fn4 K n st f:=⟨oc,od,an,sl,kV,dc,pm,cd,ct,a,l,c,k⟩
theorem Cal.m {P:Program} {w:World} {K:PySem.W.Frag} {mg:Str->Option Value} {base:Heap} {j k:Nat} {x:Str} {ps:List Str} {F:List D->Option D} (h:Cal P w K mg base j x ps F) (hk:j<=k:=by decide):Cal P w K mg base k x ps F:=h.mono hk
end HW
namespace HW
open PySem PySem.Spec PyProof.Rows L2
def MutK:Option HO->Prop
 | some (.ins _ _ _)=>True
 | some (.dK _)=>True
 | some (.frz _ (.own _))=>True
 | _=>False
def KqS (S:List Nat) (H H':Hp):Prop:=∀ b u,b∉S->H b=some u->H' b=some u
def MutS (S:List Nat) (H:Hp):Prop:=∀ b∈S,MutK (H b)
section
variable {S T:List Nat} {H H' H1 H2:Hp} {K:PySem.W.Frag}
theorem KqS.of (h:Same H H'):KqS S H H':=fun b u _ e=>h b u e
theorem KqS.refl:KqS S H H:=fun _ _ _ e=>e
theorem KqS.trans (h:KqS S H H1) (k:KqS S H1 H2):KqS S H H2:=fun b u n e=>k b u n (h b u n e)
theorem KqS.mono (h:KqS S H H') (hs:∀ b∈S,b∈T):KqS T H H':=fun b u n e=>h b u (fun z=>n (hs b z)) e
theorem MutS.same (m:MutS S H) (s:Same H H'):MutS S H':=fun b hb=>by
 have h:=m b hb
 cases e:H b with
 | none=>rw [e] at h;exact h.elim
 | some u=>rw [s b u e];rw [e] at h;exact h
theorem MutS.nin {a:Nat} {u:HO} (m:MutS S H) (e:H a=some u) (n:¬ MutK (some u)):a∉S:=fun z=>n (by have:=m a z;rw [e] at this;exact this)
theorem KqS.tup {a:Addr} {xs:List V} (m:MutS S H) (s:KqS S H H') (h:SqT K H a xs):SqT K H' a xs:=by
 rcases h with (h | ⟨o,h⟩) | h
 ·exact .inl (.inl (s _ _ (m.nin h fun z=>z) h))
 ·exact .inl (.inr ⟨o,s _ _ (m.nin h fun z=>z) h⟩)
 ·exact .inr h
theorem KqS.seq {a:Addr} {xs:List V} (m:MutS S H) (s:KqS S H H') (h:SqL K H a xs):SqL K H' a xs:=by
 rcases h with (h | ⟨o,h⟩) | h
 ·exact .inl (.inl (s _ _ (m.nin h fun z=>z) h))
 ·exact .inl (.inr ⟨o,s _ _ (m.nin h fun z=>z) h⟩)
 ·exact .inr h
end
mutual
theorem Rep.kq {S:List Nat} {K:PySem.W.Frag} {H H':Hp} (m:MutS S H) (s:KqS S H H'):∀ {d:D} {v:V},nob d=true->Rep K H d v->Rep K H' d v
 | .non,_,_,h=>h
 | .bl _,_,_,h=>h
 | .int _,_,_,h=>h
 | .str _,_,_,h=>h
 | .tup ds,_,hn,h=>by
  obtain ⟨a,xs,e,q,r⟩:=h
  exact ⟨a,xs,e,s.tup m q,Reps.kq m s hn r⟩
 | .lst ds,_,hn,h=>by
  obtain ⟨a,xs,e,q,r⟩:=h
  exact ⟨a,xs,e,s _ _ (m.nin q fun z=>z) q,Reps.kq m s hn r⟩
 | .fro ds,_,hn,h=>by
  obtain ⟨a,xs,e,q,r⟩:=h
  exact ⟨a,xs,e,s.seq m q,Reps.kq m s hn r⟩
 | .obj ..,_,hn,_=>by cases hn
theorem Reps.kq {S:List Nat} {K:PySem.W.Frag} {H H':Hp} (m:MutS S H) (s:KqS S H H'):∀ {ds:List D} {vs:List V},nobs ds=true->Reps K H ds vs->Reps K H' ds vs
 | [],_,_,h=>h
 | d::ds,_,hn,h=>by
  have hn':(nob d&&nobs ds)=true:=hn
  rw [Bool.and_eq_true] at hn'
  obtain ⟨v,r,e,q,t⟩:=h
  exact ⟨v,r,e,Rep.kq m s hn'.1 q,Reps.kq m s hn'.2 t⟩
end
section
variable {S T:List Nat} {H H' H1 H2:Hp} {K:PySem.W.Frag}
theorem ObH.mut {k a:Nat} {ks:List Str} {vs:List V} (h:ObH H k a ks vs):MutK (H a):=by
 match k,h with
 | 0,⟨_,_,_,_,e⟩=>rw [e];trivial
 | 1,⟨_,e⟩=>rw [e];trivial
 | C+2,⟨_,_,e⟩=>rw [e];trivial
theorem Reps.mem:∀ {ds:List D} {vs:List V} {d:D},Reps K H ds vs->d∈ds->∃ v,Rep K H d v
 | [],_,_,_,h=>by cases h
 | e::ds,vs,d,h,hd=>by
  obtain ⟨v,r,_,q,t⟩:=h
  rcases List.mem_cons.mp hd with rfl | hd
  ·exact ⟨v,q⟩
  ·exact Reps.mem t hd
theorem mutS_of {ob:D} {v:V} (r:Rep K H ob v):MutS (adr ob) H:=fun b hb=>by
 cases ob with
 | obj k a ks es =>
  obtain ⟨xs,_,q,t⟩:=r
  rcases List.mem_cons.mp hb with rfl | hb
  ·exact q.mut
  ·obtain ⟨e,he,hb⟩:=List.mem_flatMap.mp hb
   cases e with
   | obj k' a' ks' es' =>
    obtain ⟨v',xs',_,q',_⟩:=Reps.mem t he
    rw [show b=a' from List.mem_singleton.mp hb]
    exact q'.mut
   | _=>cases hb
 | _=>cases hb
theorem inS_of {as:List Nat} (h:inS S as=true):∀ b∈as,b∈S:=fun b hb=>by
 have:=List.all_eq_true.mp h b hb
 simpa using this
theorem rW {ob:D} {v:V} (h:isOb ob=true) (r:Rep K H ob v):v=.ref (adr0 ob):=by
 cases ob with
 | obj k a ks es=>obtain ⟨xs,e,_⟩:=r;exact e
 | _=>cases h
theorem tO {ρ:R} {σ:L2.St} {i:Nat} {ob':D} {v:V} (er:EnvR K H ρ σ) (m:MutS S H) (s:KqS S H H') (hn:nobBut i ρ=true) (hv:σ[i]?=some (some v)) (r:Rep K H' ob' v):EnvR K H' (ρ.set i (some ob')) σ:=by
 refine ⟨by rw [List.length_set];exact er.1,fun j d h=>?_⟩
 by_cases hj:j=i
 ·subst hj
  have hl:j<ρ.length:=by have:=(List.getElem?_eq_some_iff.mp h).1;simpa using this
  rw [List.getElem?_set_self hl] at h
  cases h
  exact ⟨v,hv,r⟩
 ·rw [List.getElem?_set_ne (Ne.symm hj)] at h
  obtain ⟨u,h1,h2⟩:=er.2 j d h
  have hd:nobO (some d)=true:=List.all_eq_true.mp hn _ (List.mem_of_getElem? (i:=j) (by rw [List.getElem?_set_ne (Ne.symm hj)];exact h))
  exact ⟨u,h1,Rep.kq m s hd h2⟩
theorem iV {ρ:R} {σ τ:L2.St} {i:Nat} {ob':D} {v:V} (er:EnvT K H ρ τ σ) (m:MutS S H) (s:KqS S H H') (hn:nobBut i ρ=true) (hv:σ[i]?=some (some v)) (r:Rep K H' ob' v):EnvT K H' (ρ.set i (some ob')) τ σ :=
 ⟨tO er.1 m s hn hv r,by rw [List.length_set];exact er.2⟩
def ObR (K:PySem.W.Frag) (H:Hp) (ρ:R):Prop:=∀ (j:Nat) (d:D),ρ[j]?=some (some d)->isOb d=true->Rep K H d (.ref (adr0 d))
theorem ObR.of {ρ:R} {σ:L2.St} (e:EnvR K H ρ σ):ObR K H ρ:=fun j d h ho=>by
 obtain ⟨v,_,r⟩:=e.2 j d h
 rw [<- rW ho r];exact r
variable (K)
def finM (E:Ends) (τ:L2.St) (o:MO) (H':Hp):Prop :=
 match o with
 | .nx ρ=>∀ σ,EnvT K H' ρ τ σ->E.nx σ H'
 | .rt d ρ=>∀ v,Rep K H' d v->ObR K H' ρ->E.rt v H'
def tMS (S:List Nat) (u:MU):TS:=fun E σ H=>∃ ρ τ o,EnvT K H ρ τ σ/\MutS S H/\u S ρ=some o/\∀ H',KqS S H H'->MutS S H'->finM K E τ o H'
def YieldsM (S:List Nat) (J:It) (ds:List D) (H:Hp):Prop :=
 (∀ (i:Nat) (d:D) (H2:Hp),KqS S H H2->ds[i]?=some d->J.go i H2/\∀ x H3,J.yld i H2 x H3->Same H2 H3/\Rep K H3 d x)/\∀ (i:Nat) (H2:Hp),KqS S H H2->ds.length<=i->J.stop i H2
def tMI (S:List Nat) (f:R->Option (List D)):L2.TI:=fun σ H W=>∃ ρ ds,EnvR K H ρ σ/\MutS S H/\f ρ=some ds/\nobs ds=true/\∀ J H',Same H H'->YieldsM K S J ds H'->W J H'
def spM (j:Nat) (G:List D->Option (D×D)):Sp:=fun vs H Q _=>∃ ds ob d o',Reps K H ds vs/\ds[j]?=some ob/\isOb ob=true/\G ds=some (d,o')/\∀ v H',KqS (adr ob) H H'->MutS (adr ob) H'->Rep K H' d v->Rep K H' o' (.ref (adr0 ob))->Q v H'
end
def MS (X:Cx) (st:Stmt) (u:MU):Prop:=∀ S,PS X st (tMS X.K S u)
def MSS (X:Cx) (sts:List Stmt) (u:MU):Prop:=∀ S,PSs X sts (tMS X.K S u)
def SIM (X:Cx) (tg iter:Expr) (f:R->Option (List D)):Prop:=∀ S,PI X tg iter (tMI X.K S f)
section
variable {X:Cx} {st:Stmt} {sts:List Stmt} {u w:MU} {pos:Pos}
theorem pureM_of {E:Ends} {σ:L2.St} {H:Hp} {K:PySem.W.Frag} {S:List Nat} {p:R->Option Out} (q:tMS K S (mPure p) E σ H):tDS K p E σ H:=by
 obtain ⟨ρ,τ,o,er,m,e,q⟩:=q
 obtain ⟨o1,e1,e⟩:=bindS e
 refine ⟨ρ,τ,o1,er,e1,fun H' s=>?_⟩
 cases o1 with
 | nx ρ2=>cases e;exact q H' (KqS.of s) (m.same s)
 | rt d=>cases e;exact fun v rv=>q H' (KqS.of s) (m.same s) v rv (ObR.of (er.mono s).1)
 | bk ρ2=>cases e
 | ct ρ2=>cases e
theorem bq {p:R->Option Out} (h:S1 X st p):MS X st (mPure p):=fun S=>PS.imp h fun E σ H z=>pureM_of z
theorem rJ {p:R->Option Out} (h:SS X sts p):MSS X sts (mPure p):=fun S=>PSs.imp h fun E σ H z=>pureM_of z
theorem bN:MSS X [] mNext:=fun S=>pss_nil.imp fun E σ H ⟨ρ,τ,o,er,m,e,q⟩=>by
 cases e
 exact q H KqS.refl m σ er
theorem seqM_of {E:Ends} {σ:L2.St} {H:Hp} {K:PySem.W.Frag} {S:List Nat} (q:tMS K S (mSeq u w) E σ H):tMS K S u {E with nx:=tMS K S w E} σ H:=by
 obtain ⟨ρ,τ,o,er,m,e,q⟩:=q
 obtain ⟨o1,e1,e⟩:=bindS e
 refine ⟨ρ,τ,o1,er,m,e1,fun H1 k1 m1=>?_⟩
 cases o1 with
 | nx ρ2=>exact fun σ2 er2=>⟨ρ2,τ,o,er2,m1,e,fun H2 k2 m2=>q H2 (k1.trans k2) m2⟩
 | rt d ρ2=>cases e;exact q H1 k1 m1
theorem aA (h1:MS X st u) (h2:MSS X sts w):MSS X (st::sts) (mSeq u w):=fun S=>(dh (h1 S) (h2 S)).imp fun E σ H q=>seqM_of q
theorem aN (h1:MS X st u):MSS X [st] u:=fun S=>gv (h1 S)
theorem cH {c:Expr} {s:R->Option Bool} {B1 B2:List Stmt} (hc:ST X c s) (ha:MSS X B1 u) (hb:MSS X B2 w):MS X (.If c B1 B2 pos) (mIf s u w):=fun S=>(rF hc (ha S) (hb S)).imp fun E σ H ⟨ρ,τ,o,er,m,e,q⟩=>by
 obtain ⟨x,e1,e⟩:=bindS e
 refine ⟨ρ,x,er.1,e1,fun H1 s1=>?_⟩
 cases x with
 | true=>rw [if_pos rfl] at e ⊢;exact ⟨ρ,τ,o,er.mono s1,m.same s1,e,fun H2 k2 m2=>q H2 ((KqS.of s1).trans k2) m2⟩
 | false=>rw [if_neg Bool.false_ne_true] at e ⊢;exact ⟨ρ,τ,o,er.mono s1,m.same s1,e,fun H2 k2 m2=>q H2 ((KqS.of s1).trans k2) m2⟩
theorem lw {K:PySem.W.Frag} {S:List Nat} {H:Hp} {a:Addr} {ds:List D} {xs:List V} (m:MutS S H) (hn:nobs ds=true) (hq:SqT K H a xs) (t:Reps K H ds xs):YieldsM K S (Itt K a) ds H:=by
 refine ⟨fun i d H2 s2 e=>?_,fun i H2 s2 hl=>⟨xs,s2.tup m hq,by rw [<- t.length];exact hl⟩⟩
 obtain ⟨v,h1,h2⟩:=(Reps.kq m s2 hn t).get e
 refine ⟨⟨xs,v,s2.tup m hq,h1⟩,fun x H3 ⟨e3,y⟩=>?_⟩
 subst e3
 have:=(y xs (s2.tup m hq)).symm.trans h1
 cases this
 exact ⟨Same.refl _,h2⟩
theorem ln {K:PySem.W.Frag} {S:List Nat} {H:Hp} {a:Addr} {ds:List D} {xs:List V} (m:MutS S H) (hn:nobs ds=true) (hq:SqL K H a xs) (t:Reps K H ds xs):YieldsM K S (Itl K a) ds H:=by
 refine ⟨fun i d H2 s2 e=>?_,fun i H2 s2 hl=>⟨xs,s2.seq m hq,by rw [<- t.length];exact hl⟩⟩
 obtain ⟨v,h1,h2⟩:=(Reps.kq m s2 hn t).get e
 refine ⟨⟨xs,v,s2.seq m hq,h1⟩,fun x H3 ⟨e3,y⟩=>?_⟩
 subst e3
 have:=(y xs (s2.seq m hq)).symm.trans h1
 cases this
 exact ⟨Same.refl _,h2⟩
theorem lQ {K:PySem.W.Frag} {S:List Nat} {H:Hp} {x:Str}:YieldsM K S (Its x) (chars x) H:=by
 have y:∀ H,Yields K (Its x) (chars x) H:=fun H=>jN
 exact ⟨fun i d H2 _ e=>(y H2).1 i d H2 (Kp.refl H2) e,fun i H2 _ hl=>(y H2).2 i H2 (Kp.refl H2) hl⟩
theorem mI {K:PySem.W.Frag} {S:List Nat} {H:Hp} {a b:Int}:YieldsM K S (Itr a (b - a).toNat) (rngD a b) H:=by
 have y:∀ H,Yields K (Itr a (b - a).toNat) (rngD a b) H:=fun H=>jt
 exact ⟨fun i d H2 _ e=>(y H2).1 i d H2 (Kp.refl H2) e,fun i H2 _ hl=>(y H2).2 i H2 (Kp.refl H2) hl⟩
theorem oN {tg a:Expr} {f:R->Option D} (ha:SE X a f):SIM X tg a (inSeq f):=fun S=>(rG ha).imp fun σ H W ⟨ρ,ds,er,m,e,hn,q⟩=>by
 obtain ⟨x,e1,e⟩:=bindS e
 refine ⟨ρ,x,er,e1,fun v H1 s1 r1=>?_⟩
 have m1:=m.same s1
 cases x with
 | tup xs =>
  cases e
  obtain ⟨a,vs,ev,hq,t⟩:=r1
  exact .inl ⟨a,ev,.inr ⟨⟨vs,hq⟩,q _ H1 s1 (lw m1 hn hq t)⟩⟩
 | lst xs =>
  cases e
  obtain ⟨a,vs,ev,hq,t⟩:=r1
  exact .inl ⟨a,ev,.inl ⟨⟨vs,SqL.of hq⟩,q _ H1 s1 (ln m1 hn (SqL.of hq) t)⟩⟩
 | str z =>
  dsimp only at e
  split at e
  ·rename_i hz
   cases e
   cases (show v=_ from r1)
   exact .inr ⟨z,rfl,hz,q _ H1 s1 lQ⟩
  ·cases e
 | _=>cases e
theorem q_ {tg a:Expr} {f:R->Option D} {p:Pos} (hm:X.mg "range" = none) (ha:SE X a f) (hg:Gl X "range":=by rfl) (hs:noStar a=true:=by rfl):SIM X tg (.Call (.Name "range" p) [a] [] pos) (inRng1 f):=fun S =>
 (j_ hg hm (ab ha af hs).1 (aX [] X.env hs)).imp fun σ H W ⟨ρ,ds,er,m,e,hn,q⟩=>by
  obtain ⟨x,e1,e⟩:=bindS e
  cases x with
  | int j =>
   dsimp only at e
   split at e
   ·rename_i hj
    cases e
    refine ⟨ρ,[.int j],er,by show (f ρ).bind _=_;rw [e1];rfl,fun vs H1 s1 r1=>?_⟩
    obtain ⟨v,r,rfl,r2,r3⟩:=r1
    cases (show v=_ from r2)
    cases (show r=_ from r3)
    refine ⟨j,rfl,hj.1,hj.2,q _ H1 s1 ?_⟩
    have z:=mI (K:=X.K) (S:=S) (H:=H1) (a:=0) (b:=j)
    rw [Int.sub_zero] at z
    exact z
   ·cases e
  | _=>cases e
theorem nD {tg iter:Expr} {B:List Stmt} {it:R->Option (List D)} {stf:D->R->Option R} (hp:PassesOwn (model X.prog X.w) X.A X.env X.xe) (hc:X.calm=true) (hi:SIM X tg iter it) (hg:SG X tg stf) (hb:MSS X B u)
  (hs:∀ x,foldedSetIterable iter X.env x=pure x:=by intro _;rfl):MS X (.For tg iter B [] pos) (mFor it stf u):=fun S=>(ri hp hc (hi S) hg (hb S) hs).imp fun E σ H ⟨ρ,τ,o,er,m,e,q⟩=>by
 obtain ⟨ds,e1,e⟩:=bindS e
 split at e
 case isFalse=>cases e
 case isTrue hn =>
 refine ⟨ρ,ds,er.1,m,e1,hn,fun J H1 s1 y=>?_⟩
 refine ⟨fun i n σ' H'=>n=ds.length - i/\i<=ds.length/\KqS S H1 H'/\MutS S H'/\∃ ρ',EnvT X.K H' ρ' τ σ'/\forM stf u S (ds.drop i) ρ'=some o,⟨ds.length,by simp,Nat.zero_le _,KqS.refl,m.same s1,ρ,er.mono s1,by simpa using e⟩,?_⟩
 rintro i n σ' H' ⟨rfl,hi,s2,m2,ρ',er',e'⟩
 by_cases hlt:i<ds.length
 ·refine .inr ?_
  have hd:ds[i]?=some ds[i]:=by simp [hlt]
  obtain ⟨hgo,hy⟩:=y.1 i ds[i] H' s2 hd
  rw [List.drop_eq_getElem_cons hlt] at e'
  obtain ⟨ρ1,e2,e'⟩:=bindS e'
  obtain ⟨o1,e3,e'⟩:=bindS e'
  refine ⟨hgo,fun σ2 H2=>i+1<=ds.length/\KqS S H1 H2/\MutS S H2/\∃ ρ',EnvT X.K H2 ρ' τ σ2/\forM stf u S (ds.drop (i+1)) ρ'=some o,fun σ2 H2 n2=>⟨ds.length - (i+1),by omega,rfl,n2.1,n2.2⟩,fun x H3 yx=>?_⟩
  obtain ⟨s3,rx⟩:=hy x H3 yx
  refine ⟨ρ',τ,ds[i],ρ1,er'.mono s3,rx,e2,fun σ4 H4 s4 er4=>⟨ρ1,τ,o1,er4,(m2.same s3).same s4,e3,fun H5 s5 m5=>?_⟩⟩
  have s15:KqS S H1 H5:=s2.trans ((KqS.of s3).trans ((KqS.of s4).trans s5))
  cases o1 with
  | nx ρ2=>exact fun σ6 er6=>⟨hlt,s15,m5,ρ2,er6,e'⟩
  | rt d ρ2=>cases e';exact q H5 ((KqS.of s1).trans s15) m5
 ·have e4:i=ds.length:=by omega
  subst e4
  rw [List.drop_length] at e'
  cases e'
  exact .inl ⟨y.2 _ H' s2 (Nat.le_refl _),q H' ((KqS.of s1).trans s2) m2 σ' er'⟩
end
end HW
namespace HW
open PySem PySem.Spec PyProof.Rows L2
section
variable {K:PySem.W.Frag} {H H':Hp}
theorem putD_at {x:Str} {e:D} {y:V}:∀ {ks:List Str} {ds:List D} {vs:List V},ks.length=vs.length->ds.length=vs.length->∃ vs',putF x y (ks.zip vs)=(putD ks ds x e).1.zip vs'/\(putD ks ds x e).1.length=vs'.length/\(Reps K H' ds vs->Rep K H' e y->Reps K H' (putD ks ds x e).2 vs')
 | [],[],[],_,_=>⟨[y],rfl,rfl,fun _ r=>⟨y,[],rfl,r,rfl⟩⟩
 | k::ks,d::ds,v::vs,h1,h2=>by
  obtain ⟨vs',a,b,c⟩:=putD_at (x:=x) (e:=e) (y:=y) (ks:=ks) (ds:=ds) (vs:=vs) (by simpa using h1) (by simpa using h2)
  by_cases h:k=x
  ·refine ⟨y::vs,?_,?_,fun r re=>?_⟩
   ·show (if k=x then (k,y)::ks.zip vs else _)=(putD (k::ks) (d::ds) x e).1.zip _
    rw [if_pos h,putD,if_pos h];rfl
   ·rw [putD,if_pos h];simpa using h1
   ·rw [putD,if_pos h]
    obtain ⟨u,r',q,r1,r2⟩:=r
    cases q
    exact ⟨y,vs,rfl,re,r2⟩
  ·refine ⟨v::vs',?_,?_,fun r re=>?_⟩
   ·show (if k=x then _ else (k,v)::putF x y (ks.zip vs))=(putD (k::ks) (d::ds) x e).1.zip _
    rw [if_neg h,putD,if_neg h,a];rfl
   ·rw [putD,if_neg h];simpa using b
   ·rw [putD,if_neg h]
    obtain ⟨u,r',q,r1,r2⟩:=r
    cases q
    exact ⟨_,vs',rfl,r1,c r2 re⟩
 | [],_::_,[],_,h=>by cases h
 | [],_,_::_,h,_=>by cases h
 | _::_,_,[],h,_=>by cases h
 | _::_,[],_::_,_,h=>by cases h
theorem mi {d:D} (h:nob d=true):adr1 d=[]:=by cases d<;>first | rfl | cases h
end
section
variable {X:Cx} {pos:Pos}
section
variable {pins:List (Addr×Obj)} {σ:L2.St} {H:Hp} {s:Shared} {a:Addr} {xs:List V} {its:List Value} {n:Nat}
theorem frz_lst (I:L2.Inv X pins σ H s) (h:H a=some (.frz {cls:=.type "list",data:=.seq its.toArray n} (.own 0))) (r:Vals xs its) (z:xs.length<=sizeLine):L2.Inv X pins σ (upd H a (.lst xs)) s:=by
 have e:=(I.hok a _ h).1
 have:=I.write (t':=s.toks) (h':=s.heap) (o:=.lst xs) (x:=a) (e:=a) (by rw [h];trivial) (.inl rfl) (fun _ _ _ q=>q) ⟨_,e⟩ ⟨z,its,n,r,e⟩
 exact this
theorem lst_frz (I:L2.Inv X pins σ H s) (h:H a=some (.lst xs)):∃ (its:List Value) (n:Nat),Vals xs its/\xs.length<=sizeLine/\L2.Inv X pins σ (upd H a (.frz {cls:=.type "list",data:=.seq its.toArray n} (.own 0))) s:=by
 obtain ⟨z,its,n,r,e⟩:=I.hok a _ h
 have:=I.write (t':=s.toks) (h':=s.heap) (o:=.frz {cls:=.type "list",data:=.seq its.toArray n} (.own 0)) (x:=a) (e:=a) (by rw [h];trivial) (.inl rfl) (fun _ _ _ q=>q) ⟨_,e⟩ ⟨e,⟨_,e⟩⟩
 exact ⟨its,n,r,z,this⟩
end
end
end HW
namespace HW
open PySem PySem.Spec PyProof.Rows L2
section
variable {K:PySem.W.Frag} {H H':Hp}
theorem Reps.kqf (kq:∀ {d:D} {v:V},nob d=true->Rep K H d v->Rep K H' d v):∀ {ds:List D} {vs:List V},nobs ds=true->Reps K H ds vs->Reps K H' ds vs
 | [],_,_,r=>r
 | d::ds,_,h,r=>by
  have h':(nob d&&nobs ds)=true:=h
  rw [Bool.and_eq_true] at h'
  obtain ⟨v,vr,e,r1,r2⟩:=r
  exact ⟨v,vr,e,kq h'.1 r1,Reps.kqf kq h'.2 r2⟩
theorem lZ {x:Str} {e e':D} {y:V}:∀ {ks:List Str} {ds:List D} {vs:List V},keyD ks ds x=some e->(ks.zip vs).lookup x=some y->Reps K H ds vs->ks.length=vs.length->nobs (putD ks ds x .non).2=true ->
  (∀ {d:D} {v:V},nob d=true->Rep K H d v->Rep K H' d v)->Rep K H' e' y->(putD ks ds x e').1=ks/\Reps K H' (putD ks ds x e').2 vs
 | [],_,_,h,_,_,_,_,_,_=>by cases h
 | k::ks,[],_,h,_,_,_,_,_,_=>by cases h
 | k::ks,c::ds,vs,h,hl,r,hn,hb,kq,re=>by
  obtain ⟨v,vr,rfl,r1,r2⟩:=r
  have h':(if k=x then some c else keyD ks ds x)=some e:=h
  have hl':List.lookup x ((k,v)::ks.zip vr)=some y:=hl
  by_cases hx:k=x
  ·subst hx
   rw [putD,if_pos rfl] at hb ⊢
   have hb':(nob D.non&&nobs ds)=true:=hb
   rw [Bool.and_eq_true] at hb'
   have:v=y:=by simpa using hl'
   subst this
   exact ⟨rfl,v,vr,rfl,re,Reps.kqf kq hb'.2 r2⟩
  ·rw [if_neg hx] at h'
   rw [putD,if_neg hx] at hb ⊢
   have hb':(nob c&&nobs (putD ks ds x .non).2)=true:=hb
   rw [Bool.and_eq_true] at hb'
   have hxk:(x==k)=false:=beq_eq_false_iff_ne.mpr (Ne.symm hx)
   rw [List.lookup_cons,hxk] at hl'
   obtain ⟨g1,g2⟩:=lZ h' hl' r2 (by simpa using hn) hb'.2 kq re
   exact ⟨by show k::(putD ks ds x e').1=_;rw [g1],v,vr,rfl,kq hb'.1 r1,g2⟩
end
theorem vAt_get {i:Nat} {ρ:R} {d:D} (h:vAt i ρ=some d):ρ[i]?=some (some d):=by
 have h:ρ.getD i none=some d:=h
 rw [List.getD_eq_getElem?_getD] at h
 cases e:ρ[i]? with
 | none=>rw [e] at h;cases h
 | some o=>rw [e] at h;cases o with | none=>cases h | some c=>cases h;rfl
theorem adr0_of {a b:D} (h1:isOb a=true) (h2:isOb b=true) (h:adr a=adr b):adr0 a=adr0 b:=by
 cases a with
 | obj k x ks ds =>
  cases b with
  | obj k' y ks' ds'=>exact (List.cons.inj h).1
  | _=>cases h2
 | _=>cases h1
section
variable {X:Cx} {pos:Pos}
structure CalM (P:Program) (w:World) (K:PySem.W.Frag) (mg:Str->Option Value) (base:Heap) (k:Nat) (x:Str) (ps:List Str) (j:Nat) (G:List D->Option (D×D)):Prop where
 ex:∃ f fd,FnOk P w K mg base CX0 k f fd ps (spM K j G)/\mg x=some (.ref f)/\PySem.W.keepIn K (.ref f)=true/\Binds K fd ps []
structure MetM (P:Program) (w:World) (K:PySem.W.Frag) (mg:Str->Option Value) (base:Heap) (k C:Nat) (m:Str) (ps:List Str) (G:List D->Option (D×D)):Prop where
 ex:∃ f fd,FnOk P w K mg base CX0 k f fd ps (spM K 0 G)/\Meth K C m f/\Binds K fd ps []
structure MetP (P:Program) (w:World) (K:PySem.W.Frag) (mg:Str->Option Value) (base:Heap) (k C:Nat) (m:Str) (ps:List Str) (G:List D->Option D):Prop where
 ex:∃ f fd,FnOk P w K mg base CX0 k f fd ps (spD K G)/\Meth K C m f/\Binds K fd ps []
theorem CalM.m {P:Program} {w:World} {K:PySem.W.Frag} {mg:Str->Option Value} {base:Heap} {k k':Nat} {x:Str} {ps:List Str} {j:Nat} {G:List D->Option (D×D)} (h:CalM P w K mg base k x ps j G) (hk:k<=k':=by decide):CalM P w K mg base k' x ps j G:=by
 obtain ⟨f,fd,a,b⟩:=h.ex
 exact ⟨f,fd,a.mono hk,b⟩
theorem MetM.m {P:Program} {w:World} {K:PySem.W.Frag} {mg:Str->Option Value} {base:Heap} {k k' C:Nat} {x:Str} {ps:List Str} {G:List D->Option (D×D)} (h:MetM P w K mg base k C x ps G) (hk:k<=k':=by decide):MetM P w K mg base k' C x ps G:=by
 obtain ⟨f,fd,a,b⟩:=h.ex
 exact ⟨f,fd,a.mono hk,b⟩
theorem MetP.m {P:Program} {w:World} {K:PySem.W.Frag} {mg:Str->Option Value} {base:Heap} {k k' C:Nat} {x:Str} {ps:List Str} {G:List D->Option D} (h:MetP P w K mg base k C x ps G) (hk:k<=k':=by decide):MetP P w K mg base k' C x ps G:=by
 obtain ⟨f,fd,a,b⟩:=h.ex
 exact ⟨f,fd,a.mono hk,b⟩
theorem iT {P:Program} {w:World} {K:PySem.W.Frag} {mg:Str->Option Value} {base:Heap} {x qual:Str} {st:Stmt} {f:Addr} {fd:FuncData} {N ps:List Str} {k j:Nat} {g:MU}
  (Fn:Fun K x qual st f fd) (Sc:FnScope N ps (defScope st))
  (hb:∀ (cdv:Value) (A:Around) (outer:List Env) (s:Shared) (H:Hp) (E:XK),Room k (A.deeper (envOfC qual (defScope st) s.heap.objs.size f cdv))->MSS (cxOf CX0 P w K mg base N qual (defScope st) f cdv A outer s H E).nox (defBody st) g) :
  FnOk P w K mg base CX0 (k+1) f fd ps (spM K j (viaM ps.length N.length j g)):=by
 refine Fn.ok Sc (fun vs H Q E h=>?_) (fun cdv A outer s H vs Q E hr h=>?_)
 ·obtain ⟨ds,ob,d,o',r,hj,ho,e,_⟩:=h
  rw [<- r.length]
  unfold viaM at e
  split at e
  ·assumption
  ·cases e
 ·obtain ⟨ds,ob,d,o',r,hj,ho,e,q⟩:=h
  unfold viaM at e
  split at e
  case isFalse=>cases e
  case isTrue hlen =>
  rw [hj,Option.bind_some,if_pos ho] at e
  obtain ⟨mo,e1,e⟩:=bindS e
  obtain ⟨v,hv,rv⟩:=r.get hj
  have ms:=mutS_of rv
  refine ⟨_,hb cdv A outer s H E hr (adr ob),beg N.length ds,_,mo,(beg_env r).t,ms,e1,fun H1 k1 m1=>?_⟩
  cases mo with
  | rt d' ρ =>
   intro v rv ob1
   obtain ⟨ob',e2,e⟩:=bindS e
   split at e
   ·rename_i hc
    obtain ⟨rfl,rfl⟩:d'=d/\ob'=o':=by simpa using e
    have hat:ρ[j]?=some (some ob'):=vAt_get e2
    have rr:=ob1 j ob' hat hc.1
    have ha:adr0 ob'=adr0 ob:=adr0_of hc.1 ho hc.2
    rw [ha] at rr
    exact q v H1 k1 m1 rv rr
   ·cases e
  | nx ρ =>
   intro σ' er'
   obtain ⟨ob',e2,e⟩:=bindS e
   split at e
   ·rename_i hc
    obtain ⟨rfl,rfl⟩:D.non=d/\ob'=o':=by simpa using e
    have hat:ρ[j]?=some (some ob'):=vAt_get e2
    have rr:=(ObR.of er'.1) j ob' hat hc.1
    have ha:adr0 ob'=adr0 ob:=adr0_of hc.1 ho hc.2
    rw [ha] at rr
    exact q .non H1 k1 m1 rfl rr
   ·cases e
end
end HW
namespace HW
open PySem PySem.Spec PyProof.Rows L2
section
variable {X:Cx} {pos:Pos}
theorem after_call {K:PySem.W.Frag} {S:List Nat} {H H1 H2:Hp} {ρ:R} {σ τ:L2.St} {i:Nat} {ob o':D} (er:EnvT K H ρ τ σ) (m:MutS S H) (hat:vAt i ρ=some ob) (ho:isOb ob=true) (hn:nobBut i ρ=true) (hin:inS S (adr ob)=true) (s1:Same H H1) (kq:KqS (adr ob) H1 H2) (m2:MutS (adr ob) H2)
  (r:Rep K H2 o' (.ref (adr0 ob))):KqS S H H2/\MutS S H2/\EnvT K H2 (ρ.set i (some o')) τ σ:=by
 have sub:=inS_of hin
 have kS:KqS S H1 H2:=kq.mono sub
 have m1:=m.same s1
 have mS:MutS S H2:=fun b hb=>by
  by_cases hba:b∈adr ob
  ·exact m2 b hba
  ·have hm:=m1 b hb
   cases e:H1 b with
   | none=>rw [e] at hm;exact hm.elim
   | some u=>rw [kq b u hba e];rw [e] at hm;exact hm
 obtain ⟨v,hσ,rv⟩:=(er.mono s1).1.at hat
 rw [rW ho rv] at hσ
 exact ⟨(KqS.of s1).trans kS,mS,iV (er.mono s1) m1 kS hn hσ r⟩
theorem qj {F:R->Option (List D)} {G:List D->Option (D×D)} {S:List Nat} {i j:Nat} {ρ ρ':R} {σ τ:L2.St} {H:Hp} {d:D} {Q:VK} (hF:∀ ρ ds ob,F ρ=some ds->vAt i ρ=some ob->ds[j]?=some ob) (er:EnvT X.K H ρ τ σ) (m:MutS S H) (e:mCal i G F S ρ=some (d,ρ'))
  (q:∀ v H',KqS S H H'->MutS S H'->Rep X.K H' d v->EnvT X.K H' ρ' τ σ->Q v H'):tCall (spM X.K j G) [] E0 (tDA X.K F) σ H Q:=by
 obtain ⟨ob,hat,e⟩:=bindS e
 obtain ⟨ds,e1,e⟩:=bindS e
 obtain ⟨r,e2,e⟩:=bindS e
 split at e
 case isFalse=>cases e
 case isTrue hc =>
 obtain ⟨ho,hn,hin⟩:=hc
 obtain ⟨rfl,rfl⟩:r.1=d/\ρ.set i (some r.2)=ρ':=by simpa using e
 refine ⟨ρ,ds,er.1,e1,fun vs H1 s1 r1=>?_⟩
 show spM X.K j G (vs++[]) H1 Q E0
 rw [List.append_nil]
 refine ⟨ds,ob,r.1,r.2,r1,hF ρ ds ob e1 hat,ho,e2,fun v H2 kq m2 rd ro=>?_⟩
 obtain ⟨a,b,c⟩:=after_call er m hat ho hn hin s1 kq m2 ro
 exact q v H2 a b rd c
variable {x:Str} {e:Expr} {es:List Expr} {F:R->Option (List D)} {G:List D->Option (D×D)} {k j:Nat} {ps:List Str} {p:Pos}
theorem pick0 {i:Nat} {F:R->Option (List D)}:∀ ρ ds ob,argC (vAt i) F ρ=some ds->vAt i ρ=some ob->ds[0]?=some ob:=fun ρ ds ob h1 h2=>by
 obtain ⟨d,e1,e2⟩:=bindS h1
 obtain ⟨r,_,rfl⟩:=mapS e2
 rw [h2] at e1;cases e1;rfl
theorem pick1 {i:Nat} {f:R->Option D} {F:R->Option (List D)}:∀ ρ ds ob,argC f (argC (vAt i) F) ρ=some ds->vAt i ρ=some ob->ds[1]?=some ob:=fun ρ ds ob h1 h2=>by
 obtain ⟨d,e1,e2⟩:=bindS h1
 obtain ⟨r,e3,rfl⟩:=mapS e2
 obtain ⟨d',e4,e5⟩:=bindS e3
 obtain ⟨r',_,rfl⟩:=mapS e5
 rw [h2] at e4;cases e4;rfl
theorem fz (i:Nat) (C:CalM X.prog X.w X.K X.mg X.base k x ps j G) (hr:Room k X.A) (ha:SA X (e::es) F) (hF:∀ ρ ds ob,F ρ=some ds->vAt i ρ=some ob->ds[j]?=some ob) {pos':Pos} (hg:Gl X x:=by rfl) (hdb:(x==("__debug__" : Str))=false:=by decide)
  (hs:swapsWith (.Call (.Name x p) (e::es) [] pos) none pos'.line X.env=pure false:=by rfl):MS X (.Expr (.Call (.Name x p) (e::es) [] pos) pos') (mExpr (mCal i G F)):=by
 have hst:=ha.2.2
 rw [List.all_cons,Bool.and_eq_true] at hst
 have he:=aX es X.env hst.1
 have hpl:=dr (pos:=pos) (env:=X.env) hst.2
 obtain ⟨f,fd,a,m,kp,bd⟩:=C.ex
 refine fun S=>(sR (iX a hr hg m kp bd .nil pass0 ha.1 hdb he hpl) hs).imp fun E σ H ⟨ρ,τ,o,er,m,e,q⟩=>?_
 obtain ⟨r,e1,rfl⟩:=mapS e
 exact qj hF er m e1 fun v H' kq mS _ er'=>q H' kq mS σ er'
variable {C:Nat} {mn:Str} {apos:Pos}
end
end HW
namespace HW
open PySem PySem.Spec PyProof.Rows L2
theorem kr {es:List D} (h:nobs es=true):es.flatMap adr1=[]:=by
 induction es with
 | nil=>rfl
 | cons d es ih =>
  have h':(nob d&&nobs es)=true:=h
  rw [Bool.and_eq_true] at h'
  show adr1 d++es.flatMap adr1=[]
  rw [mi h'.1,ih h'.2];rfl
theorem lG {x:Str} {l:Nat}:∀ {ks:List Str} {ds:List D},nobs ds=true->(putD ks ds x (.obj 0 l [] [])).2.flatMap adr1=[l]
 | [],ds,h=>by
  have:(putD [] ds x (.obj 0 l [] [])).2=ds++[.obj 0 l [] []]:=by cases ds<;>rfl
  rw [this,List.flatMap_append,kr h];rfl
 | k::ks,[],h=>rfl
 | k::ks,c::ds,h=>by
  have h':(nob c&&nobs ds)=true:=h
  rw [Bool.and_eq_true] at h'
  by_cases hx:k=x
  ·rw [putD,if_pos hx]
   show [l]++ds.flatMap adr1=[l]
   rw [kr h'.2];rfl
  ·rw [putD,if_neg hx]
   show adr1 c++(putD ks ds x (.obj 0 l [] [])).2.flatMap adr1=[l]
   rw [mi h'.1,lG h'.2];rfl
section
variable {X:Cx} {pos:Pos} {C:Nat} {f:Str}
end
end HW
namespace HW
open PySem PySem.Spec PyProof.Rows L2
section
variable {X:Cx}
end
end HW
namespace HW
open PySem PySem.Spec PyProof.Rows L2
end HW
namespace HW
open PySem PySem.Spec PyProof.Rows L2
section
variable {K:PySem.W.Frag} {H H' H1 H2:Hp} {A S:List Nat}
theorem tW (m:MutS A H) (s:KqS A H H'):∀ {d:D} {v:V},okN d=true->(∀ b∈adr1 d,b∉A)->Rep K H d v->Rep K H' d v:=by
 intro d v h hA r
 match d,h,hA,r with
 | .obj 0 l ls es,h,hA,⟨xs,e,⟨z,its,n,rv,q⟩,t⟩=>exact ⟨xs,e,⟨z,its,n,rv,s _ _ (hA l (List.mem_singleton.mpr rfl)) q⟩,Reps.kq m s h t⟩
 | .obj (k+1) l ls es,h,_,_=>cases (show nob (.obj (k+1) l ls es)=true from h)
 | .non,_,_,r=>exact r
 | .bl _,_,_,r=>exact r
 | .int _,_,_,r=>exact r
 | .str _,_,_,r=>exact r
 | .tup ds,h,_,r=>exact Rep.kq m s (d:=.tup ds) h r
 | .lst ds,h,_,r=>exact Rep.kq m s (d:=.lst ds) h r
 | .fro ds,h,_,r=>exact Rep.kq m s (d:=.fro ds) h r
theorem oJ (m:MutS A H) (s:KqS A H H'):∀ {ds:List D} {vs:List V},ds.all okN=true->(∀ b∈ds.flatMap adr1,b∉A)->Reps K H ds vs->Reps K H' ds vs
 | [],_,_,_,r=>r
 | d::ds,_,h,hA,r=>by
  rw [List.all_cons,Bool.and_eq_true] at h
  rw [List.flatMap_cons] at hA
  obtain ⟨v,vr,e,r1,r2⟩:=r
  exact ⟨v,vr,e,tW m s h.1 (fun b hb=>hA b (List.mem_append_left _ hb)) r1,oJ m s h.2 (fun b hb=>hA b (List.mem_append_right _ hb)) r2⟩
theorem Rep.sep (m:MutS A H) (s:KqS A H H'):∀ {d:D} {v:V},sepO A (some d)=true->Rep K H d v->Rep K H' d v:=by
 intro d v h r
 cases d with
 | obj k a ks es =>
  have h':((a::es.flatMap adr1).all (fun x=>!A.contains x)&&es.all okN)=true:=h
  rw [Bool.and_eq_true] at h'
  have hA:∀ b∈a::es.flatMap adr1,b∉A:=fun b hb z=>by
   have:=List.all_eq_true.mp h'.1 b hb
   simp at this
   exact this z
  obtain ⟨xs,e,q,t⟩:=r
  exact ⟨xs,e,q.to fun u e' _=>s a u (hA a (.head _)) e',oJ m s h'.2 (fun b hb=>hA b (.tail _ hb)) t⟩
 | _=>exact Rep.kq m s h r
end
section
variable {X:Cx} {pos:Pos}
variable {x:Str} {e:Expr} {es:List Expr} {F:R->Option (List D)} {G:List D->Option (D×D)} {k j:Nat} {ps:List Str} {p:Pos}
variable {C:Nat} {mn:Str} {apos:Pos}
end
end HW
namespace HW
open PySem PySem.Spec PyProof.Rows L2
section
variable {X:Cx} {pins pins0:List (Addr×Obj)} {σ σ0:L2.St} {H H0:Hp} {s s0:Shared} {l:Addr} {its:List Value} {n:Nat} {xs:List V}
end
section
variable {K:PySem.W.Frag} {H:Hp} {l:Addr} {o:Obj} {ys:List V} {u:HO}
mutual
theorem Rep.nof (h:H l=some (.frz o (.lst ys))):∀ {d:D} {v:V},nof d=true->Rep K H d v->Rep K (upd H l u) d v
 | .non,_,_,r=>r
 | .bl _,_,_,r=>r
 | .int _,_,_,r=>r
 | .str _,_,_,r=>r
 | .tup ds,_,hn,r=>by
  obtain ⟨a,xs,e,q,t⟩:=r
  refine ⟨a,xs,e,?_,Reps.nof h hn t⟩
  rcases q with (q | ⟨o',q⟩) | q
  ·exact .inl (.inl (by rw [ay fun w=>by rw [w,h] at q;cases q];exact q))
  ·exact .inl (.inr ⟨o',by rw [ay fun w=>by rw [w,h] at q;cases q];exact q⟩)
  ·exact .inr q
 | .lst ds,_,hn,r=>by
  obtain ⟨a,xs,e,q,t⟩:=r
  exact ⟨a,xs,e,by rw [ay fun w=>by rw [w,h] at q;cases q];exact q,Reps.nof h hn t⟩
 | .fro _,_,hn,_=>by cases hn
 | .obj ..,_,hn,_=>by cases hn
theorem Reps.nof (h:H l=some (.frz o (.lst ys))):∀ {ds:List D} {vs:List V},nofs ds=true->Reps K H ds vs->Reps K (upd H l u) ds vs
 | [],_,_,r=>r
 | d::ds,_,hn,r=>by
  have hn':(HW.nof d&&nofs ds)=true:=hn
  rw [Bool.and_eq_true] at hn'
  obtain ⟨v,vr,e,r1,r2⟩:=r
  exact ⟨v,vr,e,Rep.nof h hn'.1 r1,Reps.nof h hn'.2 r2⟩
end
end
section
variable {X:Cx} {pos:Pos}
end
end HW
namespace HW
open PySem
def keyG:D->D->Option D
 | .obj k _ ks ds,.str x=>if k=1 then keyD ks ds x else none
 | _,_=>none
def mDput (i:Nat) (x:Str) (f:R->Option D):MU:=fun S ρ=>(f ρ).bind fun d=>match vAt i ρ with
 | some (.obj k a ks ds)=>if k=1/\nob d=true/\nobBut i ρ=true/\inS S (a::ds.flatMap adr1)=true/\ks.length<100/\ds.all okN=true/\(keyD ks ds x).all nob=true/\ks.Nodup then some (.nx (ρ.set i (some (.obj 1 a (putD ks ds x d).1 (putD ks ds x d).2)))) else none
 | _=>none
def mDapp (i:Nat) (x:Str) (f:R->Option D):MU:=fun S ρ=>(f ρ).bind fun d=>match vAt i ρ with
 | some (.obj k a ks ds)=>match keyD ks ds x with
  | some (.obj 0 l ls es)=>if k=1/\nob d=true/\nobBut i ρ=true/\inS S (a::ds.flatMap adr1)=true/\es.length<100000/\nobs es=true/\nobs (putD ks ds x .non).2=true/\S.contains l=true then some (.nx (ρ.set i (some (.obj 1 a (putD ks ds x (.obj 0 l ls (es++[d]))).1 (putD ks ds x (.obj 0 l ls (es++[d]))).2)))) else none
  | _=>none
 | _=>none
def freeAt (j:Nat) (ρ:R):Bool:=match ρ[j]? with
 | some none=>true
 | _=>false
def rows3 (j:Nat) (k1 k2 k3:Str) (f1 f2 f3 e f:R->Option D):R->Option D:=fun ρ=>(f1 ρ).bind fun d1=>(f2 ρ).bind fun d2=>(f3 ρ).bind fun d3=>(e ρ).bind fun q=>(f ρ).bind fun d=>match q with
 | .str z=>if freeAt j ρ=true/\nobs [d1,d2,d3]=true/\k1≠k2/\k1≠k3/\k2≠k3 then some (if z=k1 then d1 else if z=k2 then d2 else if z=k3 then d3 else d) else none
 | _=>none
def mDrop (i:Nat):MU:=fun _ ρ=>some (.nx (ρ.set i none))
def txsOf:List D->Option (List Str)
 | []=>some []
 | .str x::ds=>(txsOf ds).map (x::·)
 | _=>none
abbrev NK:=R->Nat->Nat->Option D
def nkPure (p:R->Option Out) (w:NK):NK:=fun ρ a l=>(p ρ).bind fun o=>match o with
 | .nx ρ2=>w ρ2 a l
 | _=>none
def nkEnd (i:Nat) (f1 f2:R->Option D) (k:Str) (f:R->Option D) (k':Str):NK:=fun ρ a l=>(f1 ρ).bind fun x=>(f2 ρ).bind fun y=>(f ρ).bind fun d=>match x,y with
  | .tup xs,.tup ys=>(txsOf xs).bind fun ks=>if (ks.Nodup/\ks.length=ys.length/\0<ks.length/\ks.length<50)/\nobs ys=true/\nob d=true/\freeAt i ρ=true/\(putD ks ys k d).1.Nodup then
    some (.obj 1 a (putD (putD ks ys k d).1 (putD ks ys k d).2 k' (.obj 0 l [] [])).1 (putD (putD ks ys k d).1 (putD ks ys k d).2 k' (.obj 0 l [] [])).2) else none
  | _,_=>none
def viaN (n N:Nat) (w:NK) (ds:List D) (a l:Nat):Option D:=if ds.length=n then w (beg N ds) a l else none
def outN (i:Nat):MO->Out
 | .rt d _=>.rt d
 | .nx ρ=>.nx (ρ.set i none)
def NewN (i:Nat) (mk:List D->Nat->Nat->Option D) (ds:List D) (w:MU) (ρ:R) (o:Out):Prop:=∀ a l,a≠l->∃ ob mo,mk ds a l=some ob/\w [a,l] (ρ.set i (some ob))=some mo/\outN i mo=o
def newN (i:Nat) (mk:List D->Nat->Nat->Option D) (F:R->Option (List D)) (w:MU):R->Option Out:=fun ρ=>(F ρ).bind fun ds=>open Classical in
 if h:i<ρ.length/\∃ o,NewN i mk ds w ρ o then some h.2.choose else none
theorem newN_of {i:Nat} {mk:List D->Nat->Nat->Option D} {F:R->Option (List D)} {w:MU} {ρ:R} {ds:List D} {o:Out} (h1:F ρ=some ds) (hi:i<ρ.length) (h2:NewN i mk ds w ρ o):newN i mk F w ρ=some o:=by
 unfold newN
 rw [h1,Option.bind_some,dif_pos ⟨hi,o,h2⟩]
 obtain ⟨ob,mo,e1,e2,e3⟩:=(show ∃ o,NewN i mk ds w ρ o from ⟨o,h2⟩).choose_spec 0 1 (by decide)
 obtain ⟨ob',mo',e4,e5,e6⟩:=h2 0 1 (by decide)
 rw [e1] at e4;cases e4
 rw [e2] at e5;cases e5
 exact congrArg some (e3.symm.trans e6)
theorem newN_is {i:Nat} {mk:List D->Nat->Nat->Option D} {F:R->Option (List D)} {w:MU} {ρ:R} {o:Out} (h:newN i mk F w ρ=some o):∃ ds,F ρ=some ds/\i<ρ.length/\NewN i mk ds w ρ o:=by
 unfold newN at h
 cases e:F ρ with
 | none=>rw [e] at h;cases h
 | some ds =>
  rw [e,Option.bind_some] at h
  split at h
  ·rename_i q
   cases h
   exact ⟨ds,rfl,q.1,q.2.choose_spec⟩
  ·cases h
end HW
namespace HW
open PySem
theorem gs {M:Model} {A:Around} {E:Value->Shared->Prop} {s:Shared} {a:Addr} {Q:Option Obj->Shared->Prop} (h:Q (s.heap.get? a) s):wpAny M A (loadIfAlive a) Q E s:=by
 intro Γ p hp
 unfold loadIfAlive
 rw [Sem.wp_loadIfAlive]
 exact h
theorem am_zip_getattr_none:typeLookup (.type "zip") "__getattr__" = pure none:=by rw [typeLookup_type,builtinLookup_eq_fast];kernel_rfl
theorem am_zip_keys_none:typeLookup (.type "zip") "keys" = pure none:=by rw [typeLookup_type,builtinLookup_eq_fast];kernel_rfl
theorem am_entry_zip_getattribute:entryFor table "zip.__getattribute__" = some Builtin.«object.__getattribute__» :=
 entryFor_alias (id':="object.__getattribute__") (by kernel_rfl) (by decide +kernel) (by decide +kernel) (by kernel_rfl)
theorem meets_getattribute_miss_zip (a:Addr) (fs:Array Value) (name:Str) (u:Tok) (hmiss:typeLookup (.type "zip") name=pure none) (hname:(["__module__","__name__","__qualname__","__doc__","__annotations__"]:List Str).contains name=false) (hsz:name.length+100<=sizeLine:=by size_fits) :
  Meets (Builtin.«object.__getattribute__» ⟨[.ref a,.str name u],[]⟩) (fun A R s=>s.heap.get? a=some {cls:=.type "zip",dict:=none,data:=.fields fs,slots:=#[]}/\raisesAttr (.ref a) name A R s) :=
 Meets.of_wp fun prog w A R s hs=>by
  obtain ⟨hp,g,d,tk,os⟩:=s
  obtain ⟨hx,hs⟩:=hs
  have hT:(⟨hp,g,d,tk,os⟩:Shared).TypeIs (.ref a) "zip":=⟨_,hx,rfl⟩
  unfold Builtin.«object.__getattribute__»
  repeat (any_goals (first | assumption | wp_step))
  simp only [hname,Bool.false_eq_true,if_false]
  repeat (any_goals (first | assumption | wp_step))
  exact wpAny_raiseAttrError hs.1 hs.2 (attrMsg_fits (by decide +kernel) hsz)
theorem getAttrBy_miss_zip {prog:Program} {w:World} {A:Around} {E:Value->Shared->Prop} {s:Shared} {a:Addr} {fs:Array Value} {tk:Tok} {Q:Value->Shared->Prop}
  (hx:s.heap.get? a=some {cls:=.type "zip",dict:=none,data:=.fields fs,slots:=#[]}) (hA:A.handled=none)
  (h:∀ h' tk e,Heap.NewExcOf s.heap h' e "AttributeError" -> E (.ref e) {s with heap:=h',toks:=tk}) :
  wpAny (model prog w) A (getAttrBy (.ref a) (.str "keys" tk) false) Q E s:=by
 have hsz:Str.length "keys" + 100<=sizeLine:=by size_fits
 have hname:(["__module__","__name__","__qualname__","__doc__","__annotations__"]:List Str).contains "keys" = false:=by decide +kernel
 obtain ⟨hp,g,d,tk,os⟩:=s
 have hT:∀ tk',(⟨hp,g,d,tk',os⟩:Shared).TypeIs (.ref a) "zip":=fun _=>⟨_,hx,rfl⟩
 have f1:=sub_AttributeError
 have f3:=F.slot_zip_getattribute.lookup
 have f4:=F.slot_zip_getattribute.bind (.ref a)
 have f5:=am_zip_getattr_none
 unfold getAttrBy
 repeat (any_goals (first | assumption | exact hT _ | ((with_reducible show wpAny _ _ (call (Value.builtin "zip.__getattribute__") _ _) _ _ _);refine call_meets F.slot_zip_getattribute (hT _) am_entry_zip_getattribute (F.args_zip_getattribute_2 _ _) (meets_getattribute_miss_zip a fs "keys" _ am_zip_keys_none hname hsz) ⟨hx,hA,fun h' tk' e hx'=>?_⟩) | wp_step))
 obtain ⟨t',u',he⟩:=hx'.there
 show wpAny _ _ (getattributeRaised _ _ _ _ _ _ _) _ _ _
 unfold getattributeRaised
 repeat (any_goals (first | assumption | wp_step))
 exact h _ _ _ hx'.of
end HW
namespace HW
open PySem
abbrev IsZipG (h:Heap) (z TI TO p:Addr) (b:Bool):Prop :=
 h.get? z=some {cls:=.type "zip",dict:=none,data:=.fields #[rawInt p,.bool b,.bool false,.ref TI,.ref TO],slots:=#[]}
section
variable {prog:Program} {w:World} {A:Around} {E:Value->Shared->Prop}
variable {Good:Heap->Nat->Prop} {s:Shared} {z TI TO i1 i2 p:Addr} {b:Bool} {op:Obj} {st1 st1' st2 st2':Heap->Prop} {P1 P2:Value->Prop}
theorem ir {Q:Bool->Shared->Prop} (hz:IsZipG s.heap z TI TO p b) (hp:s.heap.get? p=some op) (hQ:∀ h1,IsZipG h1 z TI TO p true->(∀ c o,c≠z->s.heap.get? c=some o->h1.get? c=some o)->Q false {s with heap:=h1}) :
  wpAny (model prog w) A (Builtin.SmallTypes.ownedTupleIsFree (.ref z)) Q E s:=by
 unfold Builtin.SmallTypes.ownedTupleIsFree
 refine wpAny_bind (wpAny_field hz rfl (x:=rawInt p) rfl ?_)
 show wpAny _ _ (loadIfAlive (Int.toNat (p:Int)) >>= _) _ _ _
 refine wpAny_bind (gs ?_)
 rw [Int.toNat_natCast,hp]
 simp only [Option.isNone_some,Bool.false_eq_true,if_false]
 refine wpAny_bind (wpAny_field hz rfl (x:=.bool b) rfl ?_)
 cases b with
 | true =>
  simp only [bne_self_eq_false,Bool.false_eq_true,if_false]
  exact wpAny_pure (hQ _ hz fun _ _ _ e=>e)
 | false =>
  rw [if_pos (by decide)]
  refine wpAny_bind (wpAny_setField_rec hz (by simp) fun h1 z1 s1=>wpAny_pure (hQ h1 ?_ s1.extBut))
  exact z1
theorem qx {Q:Value->Shared->Prop} (D:Ap z TI TO i1 i2) (hz:IsZipG s.heap z TI TO p b) (hp:s.heap.get? p=some op) (hI:IsPair s.heap TI (.ref i1) (.ref i2))
  (g0:Good s.heap s.toks) (cl:Cl Good [z,TO,i1,i2]) (n1:Nx prog w A (mkS s) Good i1 st1 st1' P1) (n2:Nx prog w A (mkS s) Good i2 st2 st2' P2) (q1:st1 s.heap) (q2:st2 s.heap)
  (hQ:∀ h5 tk u1 u2,Good h5 tk->P1 u1->P2 u2->IsZipG h5 z TI TO p true->IsPair h5 TI (.ref i1) (.ref i2)->st1' h5->st2' h5->Q (.ref h5.objs.size) (mkS s (h5.push {cls:=.type "tuple",data:=.seq #[u1,u2]}) tk)) :
  wpAny (model prog w) A (Builtin.«zip.__next__» ⟨[.ref z],[]⟩) (fun fin s'=>∃ v,fin=.done (.ret v)/\Q v s') E s:=by
 show wpAny _ _ (field (.ref z) 2 >>= _) _ _ _;refine wpAny_bind (wpAny_field hz rfl (x:=.bool false) rfl ?_)
 show wpAny _ _ (field (.ref z) 3 >>= _) _ _ _;refine wpAny_bind (wpAny_field hz rfl (x:=.ref TI) rfl ?_)
 refine wpAny_bind (wpAny_seqItems hI rfl ?_);show wpAny _ _ (Builtin.SmallTypes.ownedTupleIsFree (.ref z) >>= _) _ _ _
 refine wpAny_bind (ir hz hp fun h1 hz1 e1=>?_)
 simp only [Bool.false_eq_true,if_false]
 have g1:Good h1 s.toks:=cl z (by simp) _ _ _ _ g0 e1
 refine wpAny_bind ?_
 simp only [List.forIn_toArray,<- Array.forIn_toList,List.forIn_cons,List.forIn_nil]
 refine wpAny_bind (wpAny_bind (wpAny_holding ?_))
 show wpAny _ _ (Builtin.SmallTypes.nextOf (.ref i1) >>= _) _ _ _
 refine wpAny_bind (n1.run h1 s.toks _ _ g1 (n1.stay _ _ q1 fun o=>e1 _ o D.a3) fun u1 h2 tk2 p1 t1 s2=>wpAny_pure ?_)
 have e2:∀ b o,b≠i1->h1.get? b=some o->h2.get? b=some o:=s2.extBut
 have g2:Good h2 tk2:=cl i1 (by simp) _ _ _ _ g1 e2
 refine wpAny_pure ?_
 refine wpAny_bind (wpAny_bind (wpAny_holding ?_))
 show wpAny _ _ (Builtin.SmallTypes.nextOf (.ref i2) >>= _) _ _ (mkS s h2 tk2)
 refine wpAny_bind (n2.run h2 tk2 _ _ g2 (n2.stay _ _ q2 fun o q=>e2 _ o D.b1.symm (e1 _ o D.a4 q)) fun u2 h4 tk4 p2 t2 s4=>wpAny_pure ?_)
 have e4:∀ b o,b≠i2->h2.get? b=some o->h4.get? b=some o:=s4.extBut
 have g4:Good h4 tk4:=cl i2 (by simp) _ _ _ _ g2 e4
 refine wpAny_pure (wpAny_pure ?_)
 refine wpAny_bind (wpAny_newTuple (s:=mkS s h4 tk4) ?_ (show 2<=sizeLine by decide))
 exact wpAny_pure ⟨_,rfl,hQ h4 tk4 u1 u2 g4 p1 p2 (e4 _ _ D.a4.symm (e2 _ _ D.a3.symm hz1)) (e4 _ _ D.a7 (e2 _ _ D.a6 (e1 _ _ D.a1 hI))) (n1.stay' _ _ t1 fun o q=>e4 _ o D.b1 q) t2⟩
theorem pH {Q:Fin->Shared->Prop} (D:Ap z TI TO i1 i2) (hz:IsZipG s.heap z TI TO p b) (hp:s.heap.get? p=some op) (hI:IsPair s.heap TI (.ref i1) (.ref i2))
  (g0:Good s.heap s.toks) (cl:Cl Good [z,TO,i1,i2]) (q1:st1 s.heap) (n:Ne prog w A (mkS s) Good i1 st1)
  (hE:∀ h' tk e,Good h' tk->(∃ o,h'.get? e=some o/\o.cls=.type "StopIteration")->E (.ref e) (mkS s h' tk)) :
  wpAny (model prog w) A (Builtin.«zip.__next__» ⟨[.ref z],[]⟩) Q E s:=by
 show wpAny _ _ (field (.ref z) 2 >>= _) _ _ _;refine wpAny_bind (wpAny_field hz rfl (x:=.bool false) rfl ?_)
 show wpAny _ _ (field (.ref z) 3 >>= _) _ _ _;refine wpAny_bind (wpAny_field hz rfl (x:=.ref TI) rfl ?_)
 refine wpAny_bind (wpAny_seqItems hI rfl ?_);show wpAny _ _ (Builtin.SmallTypes.ownedTupleIsFree (.ref z) >>= _) _ _ _
 refine wpAny_bind (ir hz hp fun h1 hz1 e1=>?_)
 simp only [Bool.false_eq_true,if_false]
 have g1:Good h1 s.toks:=cl z (by simp) _ _ _ _ g0 e1
 refine wpAny_bind ?_
 simp only [List.forIn_toArray,<- Array.forIn_toList,List.forIn_cons,List.forIn_nil]
 refine wpAny_bind (wpAny_bind (wpAny_holding ?_))
 show wpAny _ _ (Builtin.SmallTypes.nextOf (.ref i1) >>= _) _ _ _
 refine wpAny_bind (n.run h1 s.toks _ _ g1 (n.stay _ _ q1 fun o=>e1 _ o D.a3) fun h2 e s2 he=>?_)
 exact hE h2 s.toks e (cl i1 (by simp) _ _ _ _ g1 s2) he
theorem l_ {Q:Value->Shared->Prop} (D:Ap z TI TO i1 i2) (hz:IsZipG s.heap z TI TO p b) (hp:s.heap.get? p=some op) (hI:IsPair s.heap TI (.ref i1) (.ref i2))
  (g0:Good s.heap s.toks) (cl:Cl Good [z,TO,i1,i2]) (n1:Nx prog w A.in1 (mkS s) Good i1 st1 st1' P1) (n2:Nx prog w A.in1 (mkS s) Good i2 st2 st2' P2) (q1:st1 s.heap) (q2:st2 s.heap)
  (hQ:∀ h5 tk u1 u2,Good h5 tk->P1 u1->P2 u2->IsZipG h5 z TI TO p true->IsPair h5 TI (.ref i1) (.ref i2)->st1' h5->st2' h5->Q (.ref h5.objs.size) (mkS s (h5.push {cls:=.type "tuple",data:=.seq #[u1,u2]}) tk)) :
  wpAny (model prog w) A (pyNext (.ref z)) (fun r s'=>∃ v,r=some v/\Q v s') E s:=by
 have hT:s.TypeIs (.ref z) "zip":=⟨_,hz,rfl⟩
 unfold pyNext
 exact wpAny_bind (wpAny_attempt (wpAny_callSpecial?_slot (name:=Str.ofString "__next__") hT F.slot_zip_next (wpAny_call_entry F.slot_zip_next hT F.entry_zip_next
   (qx (Q:=fun v s'=>_) D hz hp hI g0 cl n1 n2 q1 q2 fun h5 tk u1 u2 c1 c2 c3 c4 c5 c7 c8=>wpAny_pure ⟨_,rfl,hQ h5 tk u1 u2 c1 c2 c3 c4 c5 c7 c8⟩) (F.args_zip_next_1 _))))
theorem nH {Q:Option Value->Shared->Prop} (D:Ap z TI TO i1 i2) (hz:IsZipG s.heap z TI TO p b) (hp:s.heap.get? p=some op) (hI:IsPair s.heap TI (.ref i1) (.ref i2))
  (g0:Good s.heap s.toks) (cl:Cl Good [z,TO,i1,i2]) (q1:st1 s.heap) (n:Ne prog w A.in1 (mkS s) Good i1 st1)
  (hQ:∀ h' tk,Good h' tk->Q none (mkS s h' tk)):wpAny (model prog w) A (pyNext (.ref z)) Q E s:=by
 have hT:s.TypeIs (.ref z) "zip":=⟨_,hz,rfl⟩
 unfold pyNext
 refine wpAny_bind (wpAny_attempt (wpAny_callSpecial?_slot (name:=Str.ofString "__next__") hT F.slot_zip_next (wpAny_call_entry F.slot_zip_next hT F.entry_zip_next
  (pH D hz hp hI g0 cl q1 n fun h' tk e gg he=>?_) (F.args_zip_next_1 _))))
 obtain ⟨o,ho,hc⟩:=he
 exact wpAny_bind (wpAny_isInstance (s:=mkS s h' tk) (T:="StopIteration") (b:=true) ⟨o,ho,hc⟩ isSubtype_stop (wpAny_pure (hQ _ _ gg)))
theorem getAttrQ_miss_zip {fs:Array Value} {Q:Option Value->Shared->Prop} (hx:s.heap.get? z=some {cls:=.type "zip",dict:=none,data:=.fields fs,slots:=#[]}) (hA:A.handled=none)
  (h:∀ h' tk,(∀ c o,s.heap.get? c=some o->h'.get? c=some o)->Q none {s with heap:=h',toks:=tk}):wpAny (model prog w) A (getAttr? (.ref z) "keys") Q E s:=by
 unfold getAttr? getAttrBy?
 refine wpAny_bind (wpAny_mkText ?_)
 refine wpAny_bind (wpAny_attempt (getAttrBy_miss_zip (s:={s with toks:=s.toks+1}) hx hA fun h' tk e he=>?_))
 obtain ⟨ob,vs,ho,hc,_⟩:=he.there
 exact wpAny_bind (wpAny_isInstance (s:={s with heap:=h',toks:=tk}) (T:="AttributeError") (b:=true) ⟨ob,ho,hc⟩ sub_AttributeError (wpAny_pure (h h' tk he.keeps)))
end
end HW
namespace HW
open PySem PySem.Spec PyProof.Rows L2
theorem plain_upd:plainId "dict.update.loop" = true:=by decide +kernel
theorem entry_upd:entryFor table "dict.update.loop" = some Builtin.«dict.update.loop»:=entryFor_of_fast (by kernel_rfl)
section
variable {X:Cx} {pins:List (Addr×Obj)} {σ:L2.St} {s:Shared} {A:Around} {E:Value->Shared->Prop} {H:Hp} {d T:Addr} {kvs:List (Key×V)} {k:Str} {v:V} {u1 u2:Value}
theorem dict_put {Q:Unit->Shared->Prop} (I:L2.Inv X pins σ H s) (e:H d=some (.dK kvs)) (hl:kvs.length<sizeLine) (r1:RelV (.str k) u1) (r2:RelV v u2)
  (hQ:∀ h',L2.Inv X pins σ (upd H d (.dK (putK kvs (.inr k) v))) {s with heap:=h',toks:=s.toks+1}->Heap.SameBut d s.heap h'->Q () {s with heap:=h',toks:=s.toks+1}) :
  wpAny (model X.prog X.w) A (dictSet d u1 u2) Q E s:=by
 obtain ⟨z,hd,vs,rel,dd⟩:=ph I.hok e
 have hz:vs.length<=sizeLine:=by rw [<- rel.length];exact z
 have hl':(putK kvs (.inr k) v).length<=sizeLine:=by have:=length_putK kvs (.inr k) v;omega
 refine wpAny_dictSet_pairs (knd:=mixKind X.prog X.w) (k:=.inr k) (hsz:=hz) (kV_is (k:=.inr k) r1) dd fun h' dd' hs=>hQ h' ?_ hs
 have he:∃ q,h'.get? d=some q:=let ⟨q,_,_,hq,_⟩:=dd';⟨q,hq⟩
 exact iR I (by rw [e];exact True.intro) hs he (nR hl' hd (rel.put (.inr k) r2) dd')
theorem pair_put {Q:Unit->Shared->Prop} {n:Int} (I:L2.Inv X pins σ H s) (e:H d=some (.dK kvs)) (hl:kvs.length<sizeLine) (hT:IsPair s.heap T u1 u2) (r1:RelV (.str k) u1) (r2:RelV v u2)
  (hQ:∀ h',L2.Inv X pins σ (upd H d (.dK (putK kvs (.inr k) v))) {s with heap:=h',toks:=s.toks+1}->Heap.SameBut d s.heap h'->Q () {s with heap:=h',toks:=s.toks+1}) :
  wpAny (model X.prog X.w) A (holding [Value.ref T] do
   let pair <- (Builtin.Dict.pairItems (.ref T)).tryCatch fun e=>do
    if !(<- isInstance e (.type "TypeError")) then throw e
    rule "dict.update.element-no-sequence"
    raiseError "TypeError" s!"cannot convert dictionary update sequence element #{n} to a sequence"
   match pair with
   | [k,v]=>holding [k,v] (dictSet d k v)
   | l =>
    rule "dict.update.element-length"
    raiseError "ValueError" s!"dictionary update sequence element #{n} has length {l.length}; 2 is required") Q E s:=by
 have hTy:s.TypeIs (.ref T) "tuple":=⟨_,hT,rfl⟩
 refine wpAny_holding (wpAny_bind (wpAny_tryCatch ?_))
 unfold Builtin.Dict.pairItems
 refine wpAny_bind (wpAny_typeOf hTy ?_)
 rw [if_pos (by decide)]
 refine wpAny_bind (wpAny_seqItems hT rfl (wpAny_pure ?_))
 refine wpAny_holding ?_
 exact dict_put I e hl r1 r2 hQ
end
theorem kE {H:Hp} {d:Addr} {a b:HO}:upd (upd H d a) d b=upd H d b:=by
 funext c
 by_cases h:c=d
 ·rw [h,aC,aC]
 ·rw [ay h,ay h,ay h]
theorem valV_not {kvs:List (Key×V)} {k:Key} (h:k∉kvs.map (·.1)):valV kvs k=none:=by
 induction kvs with
 | nil=>rfl
 | cons p r ih =>
  rw [List.map_cons,List.mem_cons,not_or] at h
  rw [valV_neg (Ne.symm h.1)]
  exact ih h.2
theorem mj {ks:List Str} {vs:List V} {i:Nat} {k:Str} {v:V} (hn:ks.Nodup) (hk:ks[i]?=some k) (hv:vs[i]?=some v) :
  putK (((ks.map (Sum.inr:Str->Key)).zip vs).take i) (.inr k) v=((ks.map (Sum.inr:Str->Key)).zip vs).take (i+1):=by
 have hz:((ks.map (Sum.inr:Str->Key)).zip vs)[i]?=some (.inr k,v):=by
  rw [List.getElem?_zip_eq_some]
  exact ⟨by rw [List.getElem?_map,hk];rfl,hv⟩
 rw [putK_new,List.take_add_one,hz]
 ·rfl
 refine valV_not fun hm=>?_
 obtain ⟨q,hq,e⟩:=List.mem_map.mp hm
 obtain ⟨j,hj,e2⟩:=List.getElem_of_mem hq
 rw [List.length_take] at hj
 have hji:j<i:=by omega
 have e3:((ks.map (Sum.inr:Str->Key)).zip vs)[j]?=some q:=by
  rw [List.getElem_take] at e2
  rw [<- e2];exact List.getElem?_eq_getElem (by omega)
 rw [List.getElem?_zip_eq_some] at e3
 have e4:=e3.1
 rw [List.getElem?_map,e] at e4
 obtain ⟨k',e5,e6⟩:=mapS e4
 cases e6
 have hi:i<ks.length:=(List.getElem?_eq_some_iff.mp hk).1
 have a:=List.getElem?_eq_some_iff.mp e5
 have b:=List.getElem?_eq_some_iff.mp hk
 exact List.pairwise_iff_getElem.mp hn j i a.1 hi hji (by rw [a.2,b.2])
def ZB (S T:Src) (z TI TO i1 i2 p:Addr) (i:Nat) (b:Bool) (h:Heap):Prop:=IsZipG h z TI TO p b/\IsPair h TI (.ref i1) (.ref i2)/\S.at i1 i h/\T.at i2 i h
section
variable {X:Cx} {pins:List (Addr×Obj)} {σ:L2.St} {s:Shared} {A:Around} {E:Value->Shared->Prop} {H0:Hp} {S T:Src} {z TI TO i1 i2 p d:Addr} {ks:List Str} {vs pq:List V} {R:Result->Shared->Prop} {res:Value}
theorem dupd_loop (D:Ap z TI TO i1 i2) (hh:A.handled=none) (hlen:ks.length=vs.length) (hnd:ks.Nodup) (hsz:ks.length<=sizeLine)
  (hS:∀ kvs i k,ks[i]?=some k->S.go X.K i (upd H0 d (.dK kvs)) (.str k)) (hT:∀ kvs i v,vs[i]?=some v->T.go X.K i (upd H0 d (.dK kvs)) v) (hE:∀ kvs,S.stop X.K ks.length (upd H0 d (.dK kvs)))
  (hp:H0 p=some (.tup pq)) (hpd:p≠d) (hf:∀ c ∈ [z,TI,TO,i1,i2],FpOk X pins H0 c/\c≠d) :
  ∀ (m i:Nat) (h:Heap) (tk:Nat) (b:Bool),ks.length - i=m->i<=ks.length->L2.Inv X pins σ (upd H0 d (.dK (((ks.map Sum.inr).zip vs).take i))) (mkS s h tk)->ZB S T z TI TO i1 i2 p i b h ->
   (∀ h' tk',L2.Inv X pins σ (upd H0 d (.dK ((ks.map Sum.inr).zip vs))) (mkS s h' tk')->R (.ok (.ret res)) (mkS s h' tk')) ->
   codeAny (model X.prog X.w) A (.builtin "dict.update.loop" ⟨[.ref d,.ref z,rawInt i,res],[]⟩) R (mkS s h tk):=by
 intro m
 induction m with
 | zero =>
  intro i h tk b hm hi I ⟨q1,q2,q3,q4⟩ hR
  have hin:i=ks.length:=by omega
  subst hin
  have hfull:((ks.map (Sum.inr:Str->Key)).zip vs).take ks.length=(ks.map Sum.inr).zip vs:=List.take_of_length_le (by rw [List.length_zip,List.length_map];omega)
  rw [hfull] at I
  have cl:Cl (fun h tk=>L2.Inv X pins σ (upd H0 d (.dK ((ks.map Sum.inr).zip vs))) (mkS s h tk)) [z,TO,i1,i2]:=fun c hc h tk h' tk' J k=>by
   obtain ⟨⟨f0,f1,f2,f3,f4,f5⟩,fd⟩:=hf c (by simp only [List.mem_cons,List.not_mem_nil,or_false] at hc ⊢;rcases hc with rfl | rfl | rfl | rfl<;>simp)
   exact J.turned (t':=tk') k (by rw [ay fd];exact f0) f1 f3 f4 f5
  obtain ⟨op,hop⟩:∃ op,h.get? p=some op:=by
   obtain ⟨_,its,_,o,ho,_⟩:=I.hok p (.tup pq) (by rw [ay hpd];exact hp)
   exact ⟨o,ho⟩
  refine codeAny_builtin entry_upd ?_
  rw [Around.under_plainId plain_upd _]
  show wpAny _ A.in1 (pyNext (.ref z) >>= _) _ _ _
  refine wpAny_bind (nH (s:=mkS s h tk) (Good:=fun h tk=>L2.Inv X pins σ (upd H0 d (.dK ((ks.map Sum.inr).zip vs))) (mkS s h tk)) (st1:=fun h=>S.at i1 ks.length h) D q1 hop q2 I cl q3 (tJ hh (hE _)) fun h' tk' J=>?_)
  exact wpAny_bind (wpAny_pure (wpAny_pure (hR h' tk' J)))
 | succ m ih =>
  intro i h tk b hm hi I ⟨q1,q2,q3,q4⟩ hR
  have hlt:i<ks.length:=by omega
  have hk:ks[i]?=some ks[i]:=List.getElem?_eq_getElem hlt
  have hv:vs[i]?=some (vs[i]'(by omega)):=List.getElem?_eq_getElem (by omega)
  have cl:Cl (fun h tk=>L2.Inv X pins σ (upd H0 d (.dK (((ks.map Sum.inr).zip vs).take i))) (mkS s h tk)) [z,TO,i1,i2]:=fun c hc h tk h' tk' J k=>by
   obtain ⟨⟨f0,f1,f2,f3,f4,f5⟩,fd⟩:=hf c (by simp only [List.mem_cons,List.not_mem_nil,or_false] at hc ⊢;rcases hc with rfl | rfl | rfl | rfl<;>simp)
   exact J.turned (t':=tk') k (by rw [ay fd];exact f0) f1 f3 f4 f5
  obtain ⟨op,hop⟩:∃ op,h.get? p=some op:=by
   obtain ⟨_,its,_,o,ho,_⟩:=I.hok p (.tup pq) (by rw [ay hpd];exact hp)
   exact ⟨o,ho⟩
  refine codeAny_builtin entry_upd ?_
  rw [Around.under_plainId plain_upd _]
  show wpAny _ A.in1 (pyNext (.ref z) >>= _) _ _ _
  refine wpAny_bind (thn (l_ (s:=mkS s h tk) (Good:=fun h tk=>L2.Inv X pins σ (upd H0 d (.dK (((ks.map Sum.inr).zip vs).take i))) (mkS s h tk)) D q1 hop q2 I cl (le (s:=s) (hS _ i _ hk)) (le (s:=s) (hT _ i _ hv)) q3 q4
   (Q:=fun v s'=>∃ h5 tk5 u1 u2,v=.ref h5.objs.size/\s'=mkS s (h5.push {cls:=.type "tuple",data:=.seq #[u1,u2]}) tk5/\L2.Inv X pins σ (upd H0 d (.dK (((ks.map Sum.inr).zip vs).take i))) (mkS s h5 tk5)/\RelV (.str ks[i]) u1/\RelV (vs[i]'(by omega)) u2/\ZB S T z TI TO i1 i2 p (i+1) true h5)
   fun h5 tk5 u1 u2 c1 c2 c3 c4 c5 c6 c7=>⟨h5,tk5,u1,u2,rfl,rfl,c1,c2,c3,c4,c5,c6,c7⟩) fun r s' ⟨v,er,h5,tk5,u1,u2,ev,es,I5,r1,r2,z5⟩=>?_)
  subst er ev es
  have I6:L2.Inv X pins σ (upd H0 d (.dK (((ks.map Sum.inr).zip vs).take i))) (mkS s (h5.push {cls:=.type "tuple",data:=.seq #[u1,u2]}) tk5):=I5.kept (t':=tk5) fun b u e=>Heap.get?_push_of_some _ e
  refine wpAny_bind (pair_put (n:=i) I6 aC (by rw [List.length_take,List.length_zip,List.length_map];omega) (Heap.get?_push_size _ rfl) r1 r2 fun h' I7 sb=>?_)
  rw [kE,mj hnd hk hv] at I7
  refine wpAny_pure ⟨plainId_quiet plain_upd _,ih (i+1) h' (tk5+1) true (by omega) hlt I7 ?_ hR⟩
  have up:∀ c ∈ [z,TI,TO,i1,i2],∀ o,h5.get? c=some o->h'.get? c=some o:=fun c hc o e=>sb.extBut _ _ (hf c hc).2 (Heap.get?_push_of_some _ e)
  obtain ⟨w1,w2,w3,w4⟩:=z5
  exact ⟨up z (by simp) _ w1,up TI (by simp) _ w2,Src.keep w3 (up i1 (by simp)),Src.keep w4 (up i2 (by simp))⟩
theorem pQ {Q:Value->Shared->Prop} {H:Hp} (hh:A.handled=none) (D:Ap z TI TO i1 i2) (hlen:ks.length=vs.length) (hnd:ks.Nodup) (hsz:ks.length<=sizeLine) (h0:0<ks.length) (I:L2.Inv X pins σ H s)
    (hz:IsZip s.heap z TI TO .none) (hI:IsPair s.heap TI (.ref i1) (.ref i2)) (hO:IsPair s.heap TO .none .none) (sS:S.at i1 0 s.heap) (sT:T.at i2 0 s.heap) (hf:∀ c ∈ [z,TI,TO,i1,i2],FpOk X pins H c)
    (hS:∀ H',Same H H'->∀ i k,ks[i]?=some k->S.go X.K i H' (.str k)) (hT:∀ H',Same H H'->∀ i v,vs[i]?=some v->T.go X.K i H' v) (hE:∀ H',Same H H'->S.stop X.K ks.length H')
    (hQ:∀ d H' s',H d=none->Same H H'->H' d=some (.dK ((ks.map Sum.inr).zip vs))->L2.Inv X pins σ H' s'->Q (.ref d) s') :
    wpAny (model X.prog X.w) A (call (.type "dict") [.ref z]) Q E s:=by
  refine callType_codes (Q₁:=fun obj s₁=>obj=.ref s.heap.objs.size/\s₁={s with heap:=s.heap.push {cls:=.type "dict",data:=.dict #[]} }) PySem.F.kt_called_dict (PySem.F.kt_typeCall_dict_1 _) PySem.F.entry_dict_init (kt_code_dict_new _ ⟨rfl,rfl⟩) ?_
  rintro obj s₁ ⟨rfl,rfl⟩
  generalize hd:s.heap.objs.size=d
  have hHd:H d=none:=by rw [<- hd];exact I.hok.fresh (Nat.le_refl _)
  have lt:∀ {c o},s.heap.get? c=some o->c≠d:=fun e=>by rw [<- hd];exact Nat.ne_of_lt (Heap.lt_size e)
  have I1:L2.Inv X pins σ (upd H d (.dK [])) {s with heap:=s.heap.push {cls:=.type "dict",data:=.dict #[]} }:=by
    have:=I.laid (a:=s.heap.objs.size) (o:=.dK []) (t':=s.toks) (fun _ _ q=>Heap.get?_push_of_some _ q) (Nat.le_refl _) (mM s.heap I.big)
    rw [hd] at this;exact this
  have hTd:({s with heap:=s.heap.push {cls:=.type "dict",data:=.dict #[]} }:Shared).TypeIs (.ref d) "dict":=by
    rw [<- hd];exact ⟨_,Heap.get?_push_size _ rfl,rfl⟩
  have z1:IsZip (s.heap.push {cls:=.type "dict",data:=.dict #[]}) z TI TO .none:=Heap.get?_push_of_some _ hz
  refine ⟨hTd,PySem.F.args_dict_init_2 _ _,?_⟩
  unfold Builtin.«dict.__init__»
  refine wpAny_bind ?_
  unfold Builtin.Dict.selfAndRest
  refine wpAny_bind (wpAny_notOrdered_dict hTd ?_)
  show wpAny _ _ (pure (d,[Value.ref z])) _ _ _
  refine wpAny_pure ?_
  show wpAny _ _ (Builtin.Dict.updateFrom "dict.__init__" d (.ref z) [] .none) _ _ _
  unfold Builtin.Dict.updateFrom
  refine wpAny_bind (wpAny_typeOf (T:="zip") ⟨_,z1,rfl⟩ ?_)
  rw [if_pos (by decide)]
  refine wpAny_bind (getAttrQ_miss_zip (A:=A.in1.in1) (s:={s with heap:=s.heap.push {cls:=.type "dict",data:=.dict #[]} }) z1 hh fun h2 tk2 k2=>?_)
  simp only [Option.isNone_none,if_true]
  have up2:∀ c o,s.heap.get? c=some o->h2.get? c=some o:=fun c o e=>k2 c o (Heap.get?_push_of_some _ e)
  have I2:L2.Inv X pins σ (upd H d (.dK [])) (mkS s h2 tk2):=I1.kept (t':=tk2) k2
  refine wpAny_bind (wpAny_rule ?_)
  refine wpAny_bind (wpAny_pyIter_zip (s:=mkS s h2 tk2) (up2 _ _ hz) ?_)
  refine wpAny_pure ⟨plainId_quiet plain_upd _,?_⟩
  have cl:Cl (fun h tk=>L2.Inv X pins σ (upd H d (.dK [])) (mkS s h tk)) [z,TO,i1,i2]:=fun c hc h tk h' tk' J k=>by
    have hc':c ∈ [z,TI,TO,i1,i2]:=by simp only [List.mem_cons,List.not_mem_nil,or_false] at hc ⊢;rcases hc with rfl | rfl | rfl | rfl<;>simp
    obtain ⟨f0,f1,f2,f3,f4,f5⟩:=hf c hc'
    have fd:c≠d:=by
      simp only [List.mem_cons,List.not_mem_nil,or_false] at hc
      rcases hc with rfl | rfl | rfl | rfl
      · exact lt hz
      · exact lt hO
      · obtain ⟨o,e,_⟩:=Src.obj_at sS;exact lt e
      · obtain ⟨o,e,_⟩:=Src.obj_at sT;exact lt e
    exact J.turned (t':=tk') k (by rw [ay fd];exact f0) f1 f3 f4 f5
  have s1:Same H (upd H d (.dK [])):=bm hHd _
  have hk:ks[0]?=some ks[0]:=List.getElem?_eq_getElem h0
  have hv:vs[0]?=some (vs[0]'(by omega)):=List.getElem?_eq_getElem (by omega)
  refine codeAny_builtin entry_upd ?_
  rw [Around.under_plainId plain_upd _]
  show wpAny _ A.in1.in1 (pyNext (.ref z) >>= _) _ _ _
  refine wpAny_bind (thn (nM (s:=mkS s h2 tk2) (Good:=fun h tk=>L2.Inv X pins σ (upd H d (.dK [])) (mkS s h tk)) D (up2 _ _ hz) (up2 _ _ hI) (up2 _ _ hO) I2 cl (le (s:=s) (hS _ s1 0 _ hk)) (le (s:=s) (hT _ s1 0 _ hv)) (Src.keep sS (up2 _)) (Src.keep sT (up2 _))
      (Q:=fun v s'=>∃ h5 tk5 u1 u2 h8,v=.ref h5.objs.size/\s'=mkS s h8 tk5/\L2.Inv X pins σ (upd H d (.dK [])) (mkS s h5 tk5)/\RelV (.str ks[0]) u1/\RelV (vs[0]'(by omega)) u2/\IsZip h5 z TI TO .ellipsis/\IsPair h5 TI (.ref i1) (.ref i2)/\S.at i1 1 h5/\T.at i2 1 h5/\IsZip h8 z TI TO (rawInt h5.objs.size)/\(∃ o,h5.get? TO=some o) /\
        ∀ c o,c≠z->(h5.push {cls:=.type "tuple",data:=.seq #[u1,u2]}).get? c=some o->h8.get? c=some o)
      fun h5 tk5 u1 u2 h8 c1 c2 c3 c4 c5 c6 c7 c8 c9 c10=>⟨h5,tk5,u1,u2,h8,rfl,rfl,c1,c2,c3,c4,c5,c7,c8,c9,⟨_,c6⟩,c10⟩) fun r s' ⟨v,er,h5,tk5,u1,u2,h8,ev,es,I5,r1,r2,z5,p5,a5,b5,z8,to5,k8⟩=>?_)
  subst er ev es
  generalize hp:h5.objs.size=p at *
  have ltp:∀ {c o},h5.get? c=some o->c≠p:=fun e=>by rw [<- hp];exact Nat.ne_of_lt (Heap.lt_size e)
  have hdp:d≠p:=by
    obtain ⟨_,_,vs0,_,q⟩:=ph I5.hok (a:=d) aC
    obtain ⟨o,_,_,e,_⟩:=q
    exact ltp e
  have cz:∀ c ∈ [z,TI,TO,i1,i2],c≠d/\c≠p:=fun c hc=>by
    simp only [List.mem_cons,List.not_mem_nil,or_false] at hc
    rcases hc with rfl | rfl | rfl | rfl | rfl
    · exact ⟨lt hz,ltp z5⟩
    · exact ⟨lt hI,ltp p5⟩
    · obtain ⟨o,e⟩:=to5;exact ⟨lt hO,ltp e⟩
    · obtain ⟨o,e,_⟩:=Src.obj_at sS;obtain ⟨o',e',_⟩:=Src.obj_at a5;exact ⟨lt e,ltp e'⟩
    · obtain ⟨o,e,_⟩:=Src.obj_at sT;obtain ⟨o',e',_⟩:=Src.obj_at b5;exact ⟨lt e,ltp e'⟩
  have hHp:(upd H d (.dK [])) p=none:=by rw [<- hp];exact I5.hok.fresh (Nat.le_refl _)
  have J6:L2.Inv X pins σ (upd (upd H d (.dK [])) p (.tup [.str ks[0],vs[0]'(by omega)])) {mkS s h5 tk5 with heap:=h5.push {cls:=.type "tuple",data:=.seq #[u1,u2]},toks:=tk5}:=by
    have:=I5.laid (t':=tk5) (a:=h5.objs.size) (o:=.tup [.str ks[0],vs[0]'(by omega)]) (h':=h5.push {cls:=.type "tuple",data:=.seq #[u1,u2]}) (fun b u e=>Heap.get?_push_of_some _ e) (Nat.le_refl _) ⟨show 2<=sizeLine by decide,[u1,u2],.cons r1 (.cons r2 .nil),⟨_,Heap.get?_push_size _ rfl,rfl,⟨_,rfl⟩,rfl⟩⟩
    rw [hp] at this;exact this
  have hcomm:upd (upd H d (.dK [])) p (.tup [.str ks[0],vs[0]'(by omega)])=upd (upd H p (.tup [.str ks[0],vs[0]'(by omega)])) d (.dK []):=by
    funext c
    by_cases h1:c=d
    · rw [h1,ay hdp,aC,aC]
    · by_cases h2:c=p
      · rw [h2,aC,ay (Ne.symm hdp),aC]
      · rw [ay h2,ay h1,ay h1,ay h2]
  rw [hcomm] at J6
  have hHp0:H p=none:=by rw [ay (Ne.symm hdp)] at hHp;exact hHp
  obtain ⟨f0,f1,f2,f3,f4,f5⟩:=hf z (by simp)
  have czz:=cz z (by simp)
  have J8:L2.Inv X pins σ (upd (upd H p (.tup [.str ks[0],vs[0]'(by omega)])) d (.dK [])) (mkS s h8 tk5):=J6.turned (t':=tk5) (fun b o n e=>k8 b o n e) (by rw [ay czz.1,ay czz.2];exact f0) f1 f3 f4 f5
  have pz:p≠z:=Ne.symm czz.2
  have hP8:IsPair h8 p u1 u2:=k8 _ _ pz (by rw [<- hp];exact Heap.get?_push_size _ rfl)
  refine wpAny_bind (pair_put (n:=0) J8 aC (show 0<sizeLine by decide) hP8 r1 r2 fun h' I7 sb=>?_)
  rw [kE,show putK ([]:List (Key×V)) (.inr ks[0]) (vs[0]'(by omega))=((ks.map (Sum.inr:Str->Key)).zip vs).take (0+1) from mj hnd hk hv] at I7
  refine wpAny_pure ⟨plainId_quiet plain_upd _,?_⟩
  have sp:Same H (upd H p (.tup [.str ks[0],vs[0]'(by omega)])):=bm hHp0 _
  have sd:∀ kvs,Same H (upd (upd H p (.tup [.str ks[0],vs[0]'(by omega)])) d (.dK kvs)):=fun kvs=>sp.trans (bm (by rw [ay hdp];exact hHd) _)
  have up:∀ c ∈ [z,TI,TO,i1,i2],c≠z->∀ o,h5.get? c=some o->h'.get? c=some o:=fun c hc n o e=>sb.extBut _ _ (cz c hc).1 (k8 _ _ n (Heap.get?_push_of_some _ e))
  show codeAny (model X.prog X.w) A.in1 (.builtin "dict.update.loop" ⟨[.ref d,.ref z,rawInt ((1:Nat):Int),.none],[]⟩) (wants (fun r s₂=>r=.none/\Q (.ref d) s₂) E) (mkS s h' (tk5+1))
  refine dupd_loop (A:=A.in1) (s:=s) (R:=wants (fun r s₂=>r=.none/\Q (.ref d) s₂) E) (H0:=upd H p (.tup [.str ks[0],vs[0]'(by omega)])) (S:=S) (T:=T) (p:=p) D hh hlen hnd hsz (fun kvs=>hS _ (sd kvs)) (fun kvs=>hT _ (sd kvs)) (fun kvs=>hE _ (sd kvs)) aC (Ne.symm hdp) (fun c hc=>⟨?_,(cz c hc).1⟩) _ 1 h' (tk5+1) false rfl (by omega) I7 ⟨?_,?_,?_,?_⟩ fun h9 tk9 I9=>⟨rfl,?_⟩
  · obtain ⟨f0,f1,f2,f3,f4,f5⟩:=hf c hc
    exact ⟨by rw [ay (cz c hc).2];exact f0,f1,f2,f3,f4,f5⟩
  · exact sb.extBut _ _ czz.1 z8
  · exact up TI (by simp) D.a1 _ p5
  · exact Src.keep a5 (up i1 (by simp) D.a3)
  · exact Src.keep b5 (up i2 (by simp) D.a4)
  · exact hQ d _ _ hHd (sd _) aC I9
end
def tDZ (K:PySem.W.Frag) (f g:R->Option D):TE:=fun σ H Q=>∃ ρ xs ys ks,EnvR K H ρ σ/\f ρ=some (.tup xs)/\g ρ=some (.tup ys)/\txsOf xs=some ks/\ks.Nodup/\ks.length=ys.length/\0<ks.length/\ks.length<50 /\
 ∀ d vs H',H d=none->Same H H'->vs.length=ks.length->H' d=some (.dK ((ks.map Sum.inr).zip vs))->Reps K H' ys vs->Q (.ref d) H'
theorem txs_reps {K:PySem.W.Frag} {H:Hp}:∀ {xs:List D} {ks:List Str} {us:List V},txsOf xs=some ks->Reps K H xs us->us=ks.map V.str
 | [],_,_,e,r=>by cases e;exact r
 | .str x::xs,ks,us,e,r=>by
  obtain ⟨ks',e1,rfl⟩:=mapS (show (txsOf xs).map (x::·)=some ks from e)
  obtain ⟨v,r',rfl,r1,r2⟩:=r
  rw [txs_reps e1 r2]
  cases (show v=_ from r1)
  rfl
 | .non::_,_,_,e,_=>by cases e
 | .bl _::_,_,_,e,_=>by cases e
 | .int _::_,_,_,e,_=>by cases e
 | .tup _::_,_,_,e,_=>by cases e
 | .lst _::_,_,_,e,_=>by cases e
 | .fro _::_,_,_,e,_=>by cases e
 | .obj ..::_,_,_,e,_=>by cases e
section
variable {X:Cx}
theorem mZ {a b:Expr} {f g:R->Option D} {p1 p2 p3 p4:Pos} (hc:X.calm=true) (hmd:X.mg "dict" = none) (hmz:X.mg "zip" = none) (ha:SE X a f) (hb:SE X b g) (hgd:Gl X "dict":=by rfl) (hgz:Gl X "zip":=by rfl) (hs:noStar a=true:=by rfl) (hs2:noStar b=true:=by rfl) :
  PE X (.Call (.Name "dict" p1) [.Call (.Name "zip" p2) [a,b] [] p3] [] p4) (tDZ X.K f g):=by
 have z2:=aX [] X.env hs2
 have z1:=aX [b] X.env hs
 intro pins s σ H Q I ⟨ρ,xs,ys,ks,er,e1,e2,e3,hnd,hlen,h0,h50,q⟩
 have PAA:=(ab ha (ab hb af hs2) hs).1
 refine Call_ (fO I hgd hmd (u:=.type "dict") (by kernel_rfl) (PyProof.Rows.callWith_type1 (Calls.spliced_cons (Call_ (fO I hgz hmz (u:=.type "zip") (by kernel_rfl) (PyProof.Rows.callWith_type1 (thn (PAA p3 pins s σ H (fun vs H1=>Same H H1/\Reps X.K H1 [.tup xs,.tup ys] vs) I
  ⟨ρ,[.tup xs,.tup ys],er,by show (f ρ).bind _=_;rw [e1];show ((g ρ).bind _).map _=_;rw [e2];rfl,fun vs H1 s1 r1=>⟨s1,r1⟩⟩) fun us s1 ⟨vs,H1,I1,r1,sm,q1⟩=>?_) (by rw [z1,z2]) (by rw [z2];rfl)))))))
 obtain ⟨v,r,rfl,r2,r3⟩:=q1
 obtain ⟨u,r',rfl,r4,r5⟩:=r3
 cases (show r'=_ from r5)
 cases r1 with
 | cons ra rr =>
  cases rr with
  | cons rb rr =>
   cases rr
   obtain ⟨aa,us,rfl,hqa,ta⟩:=r2
   obtain ⟨bb,vs,rfl,hqb,tb⟩:=r4
   cases (show _=_ from ra)
   cases (show _=_ from rb)
   obtain ⟨its,_,pa,_⟩:=I1.tuple hqa
   obtain ⟨its',_,pb,_⟩:=I1.tuple hqb
   have hus:=txs_reps e3 ta
   have hvl:vs.length=ks.length:=by rw [hlen];exact tb.length.symm
   refine qL (S:=.tup aa) (T:=.tup bb) ⟨_,pa⟩ ⟨_,pb⟩ fun h' z TI TO i1 i2 D hz hI hO sS sT new kept=>?_
   refine Calls.spliced_nil ?_
   refine pQ (s:={s1 with heap:=h' }) (H:=H1) (S:=.tup aa) (T:=.tup bb) (ks:=ks) (vs:=vs) (I.ok.hd hc) D hvl.symm hnd (by rw [sizeLine_eq];omega) h0 (I1.kept (t':=s1.toks) kept) hz hI hO sS sT (fun c hc=>I1.fpOk (new c hc) (I1.hok.fresh (new c hc))) (fun H' s' i k hk=>⟨us,KqS.tup (S:=[]) (fun b hb=>nomatch hb) (KqS.of s') hqa,?_⟩) (fun H' s' i v hv=>⟨vs,KqS.tup (S:=[]) (fun b hb=>nomatch hb) (KqS.of s') hqb,hv⟩) (fun H' s'=>⟨us,KqS.tup (S:=[]) (fun b hb=>nomatch hb) (KqS.of s') hqa,?_⟩) fun d H' s' hd sm' hH' I'=>?_
   ·rw [hus,List.getElem?_map,hk];rfl
   ·rw [hus,List.length_map];exact Nat.le_refl _
   ·refine ⟨.ref d,H',I',rfl,q d vs H' ?_ (sm.trans sm') hvl hH' (tb.mono sm')⟩
    cases hb:H d with
    | none=>rfl
    | some o=>rw [sm d o hb] at hd;cases hd
end
end HW
namespace HW
open PySem PySem.Spec PyProof.Rows L2
section
variable {K:PySem.W.Frag} {H H':Hp}
theorem keyV_at {x:Str} {d:D}:∀ {ks:List Str} {ds:List D} {vs:List V},keyD ks ds x=some d->Reps K H ds vs->ks.length=vs.length->∃ v,valV ((ks.map (Sum.inr:Str->Key)).zip vs) (.inr x)=some v/\(ks.zip vs).lookup x=some v/\Rep K H d v
 | [],_,_,e,_,_=>by cases e
 | k::ks,[],_,e,_,_=>by cases e
 | k::ks,c::ds,vs,e,r,hl=>by
  obtain ⟨v,vr,rfl,r1,r2⟩:=r
  have e':(if k=x then some c else keyD ks ds x)=some d:=e
  show ∃ u,valV ((.inr k,v)::(ks.map Sum.inr).zip vr) (.inr x)=some u/\List.lookup x ((k,v)::ks.zip vr)=some u/\Rep K H d u
  by_cases h:k=x
  ·subst h
   rw [if_pos rfl] at e'
   cases e'
   exact ⟨v,valV_pos rfl,by simp,r1⟩
  ·rw [if_neg h] at e'
   obtain ⟨u,h1,h2,h3⟩:=keyV_at e' r2 (by simpa using hl)
   refine ⟨u,?_,?_,h3⟩
   ·rw [valV_neg (fun z=>h (Sum.inr.inj z))];exact h1
   ·rw [List.lookup_cons]
    have hb:(x==k)=false:=beq_eq_false_iff_ne.mpr (Ne.symm h)
    rw [hb];exact h2
theorem putK_ne {p:Key×V} {r:List (Key×V)} {k:Key} {v:V} (h:¬ p.1=k):putK (p::r) k v=p::putK r k v:=by
 unfold putK
 rw [List.any_cons,decide_eq_false h,Bool.false_or]
 split
 ·rw [List.map_cons,if_neg h]
 ·rfl
theorem putK_eq {p:Key×V} {r:List (Key×V)} {k:Key} {v:V} (h:p.1=k) (hn:k∉r.map (·.1)):putK (p::r) k v=(p.1,v)::r:=by
 unfold putK
 rw [List.any_cons,decide_eq_true h,Bool.true_or,if_pos rfl,List.map_cons,if_pos h]
 congr 1
 have:∀ q∈r,(if q.1=k then (q.1,v) else q)=q:=fun q hq=>if_neg fun e=>hn (List.mem_map.mpr ⟨q,hq,e⟩)
 rw [List.map_congr_left this,List.map_id']
theorem putKF {x:Str} {y:V}:∀ fs:List (Str×V),(fs.map (·.1)).Nodup->putK (fs.map (Prod.map (Sum.inr:Str->Key) id)) (.inr x) y=(putF x y fs).map (Prod.map (Sum.inr:Str->Key) id)
 | [],_=>rfl
 | (g,v)::r,hn=>by
  rw [List.map_cons,List.nodup_cons] at hn
  rw [List.map_cons]
  by_cases h:g=x
  ·subst h
   rw [show putF g y ((g,v)::r)=(g,y)::r from if_pos rfl,List.map_cons]
   refine putK_eq rfl fun hm=>hn.1 ?_
   rw [List.map_map] at hm
   obtain ⟨q,hq,e⟩:=List.mem_map.mp hm
   exact List.mem_map.mpr ⟨q,hq,Sum.inr.inj e⟩
  ·rw [show putF x y ((g,v)::r)=(g,v)::putF x y r from if_neg h,List.map_cons,putK_ne (fun z=>h (Sum.inr.inj z)),putKF r hn.2]
theorem oG {ks:List Str} {vs:List V}:(ks.map (Sum.inr:Str->Key)).zip vs=(ks.zip vs).map (Prod.map Sum.inr id):=by rw [List.zip_map_left]
theorem putK_at {x:Str} {e:D} {y:V} {ks:List Str} {ds:List D} {vs:List V} (hn:ks.Nodup) (h1:ks.length=vs.length) (h2:ds.length=vs.length) :
  ∃ vs',putK ((ks.map (Sum.inr:Str->Key)).zip vs) (.inr x) y=((putD ks ds x e).1.map Sum.inr).zip vs'/\(putD ks ds x e).1.length=vs'.length/\(Reps K H' ds vs->Rep K H' e y->Reps K H' (putD ks ds x e).2 vs'):=by
 obtain ⟨vs',a,b,c⟩:=putD_at (K:=K) (H':=H') (x:=x) (e:=e) (y:=y) h1 h2
 refine ⟨vs',?_,b,c⟩
 rw [oG,oG,putKF,a]
 rw [List.map_fst_zip (by omega)]
 exact hn
theorem rO {a:Nat} {fs:List (Key×V)} {o:HO} (ha:H a=some (.dK fs)):∀ {d:D} {v:V},okN d=true->Rep K H d v->Rep K (upd H a o) d v:=by
 have m:MutS [a] H:=fun b hb=>by rw [List.mem_singleton.mp hb,ha];trivial
 have s:KqS [a] H (upd H a o):=fun b u n e=>by rw [ay fun z=>n (by rw [z];exact List.mem_singleton.mpr rfl)];exact e
 intro d v h r
 match d,h,r with
 | .obj 0 l ls es,h,⟨xs,e,⟨z,its,n,rv,q⟩,t⟩ =>
  have hla:l≠a:=fun z=>by rw [z,ha] at q;cases q
  exact ⟨xs,e,⟨z,its,n,rv,by rw [ay hla];exact q⟩,Reps.kq m s h t⟩
 | .obj (k+1) l ls es,h,_=>cases (show nob (.obj (k+1) l ls es)=true from h)
 | .non,_,r=>exact r
 | .bl _,_,r=>exact r
 | .int _,_,r=>exact r
 | .str _,_,r=>exact r
 | .tup ds,h,r=>exact Rep.kq m s (d:=.tup ds) h r
 | .lst ds,h,r=>exact Rep.kq m s (d:=.lst ds) h r
 | .fro ds,h,r=>exact Rep.kq m s (d:=.fro ds) h r
theorem hV {a:Nat} {fs:List (Key×V)} {o:HO} (ha:H a=some (.dK fs)):∀ {ds:List D} {vs:List V},ds.all okN=true->Reps K H ds vs->Reps K (upd H a o) ds vs
 | [],_,_,r=>r
 | d::ds,_,h,r=>by
  rw [List.all_cons,Bool.and_eq_true] at h
  obtain ⟨v,vr,e,r1,r2⟩:=r
  exact ⟨v,vr,e,rO ha h.1 r1,hV ha h.2 r2⟩
end
section
variable {X:Cx} {pos:Pos}
theorem aR {a i:Expr} {f g:R->Option D} (hu:X.A.units+1<cLine) (ha:SE X a f) (hi:SE X i g) (hs:NoSl i:=by intro _ _;rfl):SE X (.Subscript a i pos) (op2 keyG f g):=(oY hu ha hi hs).imp fun σ H Q ⟨ρ,d,er,e,q⟩=>by
 obtain ⟨x,e1,e⟩:=bindS e
 obtain ⟨y,e2,e⟩:=bindS e
 refine ⟨ρ,x,er,e1,fun v H1 s1 r1=>⟨ρ,y,er.mono s1,e2,fun u H2 s2 r2=>?_⟩⟩
 cases x with
 | obj k a ks ds =>
  cases y with
  | str z =>
   have e':(if k=1 then keyD ks ds z else none)=some d:=e
   split at e'
   ·rename_i hk
    subst hk
    obtain ⟨xs,ev,⟨hl,hH⟩,t⟩:=r1.mono s2
    cases (show u=_ from r2)
    obtain ⟨w,h1,_,h3⟩:=keyV_at e' t hl
    exact ⟨a,w,ev,by rw [<- h1];exact DGet.k (k:=.inr z) hH,q w H2 (s1.trans s2) h3⟩
   ·cases e'
  | _=>cases e
 | _=>cases e
theorem a_ {x k:Str} {ke value:Expr} {g:R->Option D} {px pos':Pos} (i:Nat) (hu:X.A.units+1<cLine) (hk:SE X ke (fun _=>some (.str k))) (he:SE X value g) (hN:X.N[i]?=some x:=by rfl) (hv:Vis X.env.scope x:=by first | exact Or.inl rfl | exact Or.inr (Or.inl rfl) | exact Or.inr (Or.inr rfl))
  (hd:(x==("__debug__" : Str))=false:=by decide) (hcd:(x==("__classdict__" : Str))=false:=by decide) (hs:swapsWith value (some (.Subscript (.Name x px) ke pos')) pos.line X.env=pure false:=by rfl):MS X (.Assign [.Subscript (.Name x px) ke pos'] value pos) (mDput i k g):=fun S =>
 (gF hu (pv i hN hv hd hcd) hk he hs).imp fun E σ H ⟨ρ,τ,o,er,m,e,q⟩=>by
  obtain ⟨d,e1,e⟩:=bindS e
  refine ⟨ρ,d,er.1,e1,fun y H0 s0 ry0=>?_⟩
  split at e
  case h_2=>cases e
  case h_1 kk a ks ds hat =>
  split at e
  case isFalse=>cases e
  case isTrue hc =>
  obtain ⟨rfl,h1,h2,h3,h4,h5,h6,h7⟩:=hc
  cases e
  obtain ⟨v,hσ,rv⟩:=(er.mono s0).1.at hat
  obtain ⟨xs,ev,⟨hl,hH0⟩,t0⟩:=rv
  subst ev
  refine ⟨.ref a,hσ,ρ,.str k,(er.mono s0).1,rfl,fun u H1 s1' ru=>?_⟩
  cases (show u=_ from ru)
  have s1:=s0.trans s1'
  have ry:=ry0.mono s1'
  have hH:=s1' _ _ hH0
  have t:=t0.mono s1'
  have hdl:ds.length=xs.length:=t.length
  refine ⟨a,_,rfl,DPut.k (k:=.inr k) hH (by rw [List.length_zip,List.length_map,sizeLine_eq];omega),?_⟩
  have ma:MutS [a] H1:=fun b hb=>by rw [List.mem_singleton.mp hb,hH];trivial
  generalize ho:HO.dK (putK ((ks.map Sum.inr).zip xs) (.inr k) y)=o'
  have kq:KqS [a] H1 (upd H1 a o'):=fun b u nb eb=>by rw [ay fun z=>nb (by rw [z];exact List.mem_singleton.mpr rfl)];exact eb
  obtain ⟨vs',p1,p2,p3⟩:=putK_at (K:=X.K) (H':=upd H1 a o') (x:=k) (e:=d) (y:=y) (ks:=ks) (ds:=ds) (vs:=xs) h7 hl hdl
  have rob:Rep X.K (upd H1 a o') (.obj 1 a (putD ks ds k d).1 (putD ks ds k d).2) (.ref a):=by
   refine ⟨vs',rfl,⟨p2,?_⟩,p3 (hV hH h5 t) (Rep.kq ma kq h1 ry)⟩
   rw [aC,<- ho,p1]
  have hin:=inS_of h3
  have haS:a∈S:=hin a (List.mem_cons_self ..)
  have kqS:KqS S H1 (upd H1 a o'):=kq.mono fun b hb=>by rw [List.mem_singleton.mp hb];exact haS
  have m1:=m.same s1
  have mS:MutS S (upd H1 a o'):=fun b hb=>by
   by_cases hba:b=a
   ·rw [hba,aC,<- ho];trivial
   ·rw [ay hba];exact m1 b hb
  exact q _ ((KqS.of s1).trans kqS) mS σ (iV (er.mono s1) m1 kqS h2 hσ rob)
theorem kD {x f:Str} {ke value:Expr} {g:R->Option D} {px pf ap cp:Pos} (i:Nat) (hu:X.A.units+1<cLine) (hk:SE X ke (fun _=>some (.str f))) (he:SE X value g) (hN:X.N[i]?=some x:=by rfl) (hv:Vis X.env.scope x:=by first | exact Or.inl rfl | exact Or.inr (Or.inl rfl) | exact Or.inr (Or.inr rfl))
  (hd:(x==("__debug__" : Str))=false:=by decide) (hcd:(x==("__classdict__" : Str))=false:=by decide) (hsl:NoSl ke:=by intro _ _;rfl)
  (hbase:attributeBase (.Subscript (.Name x px) ke pf) "append" X.env (eval (.Subscript (.Name x px) ke pf) X.env)=eval (.Subscript (.Name x px) ke pf) X.env:=by rfl) (hst:noStar value=true:=by rfl)
  (hline:(ap.endLine==cp.line)=true:=by rfl) (hs:swapsWith (.Call (.Attribute (.Subscript (.Name x px) ke pf) "append" ap) [value] [] cp) none pos.line X.env=pure false:=by rfl) :
  MS X (.Expr (.Call (.Attribute (.Subscript (.Name x px) ke pf) "append" ap) [value] [] cp) pos) (mDapp i f g):=by
 intro S pins s σ H E I ⟨ρ,τ,o,er,m,e,q⟩
 obtain ⟨d,e1,e⟩:=bindS e
 split at e
 case h_2=>cases e
 case h_1 k a ks ds hat =>
 split at e
 case h_2=>cases e
 case h_1 l ls es hkey =>
 split at e
 case isFalse=>cases e
 case isTrue hc =>
 obtain ⟨rfl,h1,h2,h3,h4,h5,h6,h7⟩:=hc
 cases e
 have hst1:=aX [] X.env hst
 obtain ⟨v,hσ,rv⟩:=er.1.at hat
 obtain ⟨xs,ev,⟨hl,hH⟩,t⟩:=rv
 subst ev
 obtain ⟨y,hval,hlk,ry⟩:=keyV_at hkey t hl
 obtain ⟨ys,ey,⟨hz,its,nn,rv,hL⟩,ty⟩:=ry
 subst ey
 refine wpAny_Expr_any (wpAny_Call_method_late hbase ?_ hline rfl (thn ((oY hu (pv i (pos:=px) hN hv hd hcd) hk hsl) pins s σ H (fun v H1=>v=.ref l/\Same H H1) I ⟨.ref a,hσ,ρ,.str f,er.1,rfl,fun u Hs ss ru=>by cases (show u=_ from ru);exact ⟨a,.ref l,rfl,by rw [<- hval];exact DGet.k (k:=.inr f) (ss _ _ hH),rfl,ss⟩⟩) fun v s1 ⟨y,H1,I1,r1,ey,eH⟩=>?_)) I.quiet hs
 ·rw [hst1]
  rfl
 subst ey
 cases (show v=_ from r1)
 replace er:=er.mono eH
 replace m:=m.same eH
 replace t:=t.mono eH
 replace ty:=ty.mono eH
 replace hH:=eH _ _ hH
 replace hL:=eH _ _ hL
 have eo:=(I1.hok l _ hL).1
 refine ⟨"list","list.append",PySem.F.plainAttrs_list,PySem.F.slot_list_append,PySem.F.type_list_append,⟨_,eo,rfl⟩,fun b eb=>?_,?_⟩
 ·cases eb
  exact ⟨_,eo,rfl⟩
 have hA:=(ab he af hst).1 cp pins s1 σ H1 (fun vs H2=>Same H1 H2/\Reps X.K H2 [d] vs) I1 ⟨ρ,[d],er.1,by show (g ρ).bind _=_;rw [e1];rfl,fun vs H2 s2 r2=>⟨s2,r2⟩⟩
 rw [hst1] at hA ⊢
 refine Calls.callWith_builtin rfl (Calls.evalArgs_plain ?_)
 refine thn hA fun us s2 ⟨vs,H2,I2,r2,s12,rd⟩=>?_
 obtain ⟨w,w',rfl,rw1,rw2⟩:=rd
 cases (show w'=[] from rw2)
 have hL2:=s12 _ _ hL
 have hH2:=s12 _ _ hH
 have I3:=frz_lst I2 hL2 rv hz
 have hys:es.length=ys.length:=ty.length
 refine thn (kj pins s2 σ (upd H2 l (.lst ys)) (.ref l) [w] (.ref l) us (fun v H3=>H3=upd (upd H2 l (.lst ys)) l (.lst (ys++[w]))) I3 rfl r2 ⟨l,ys,w,rfl,rfl,aC,by rw [<- hys,sizeLine_eq];omega,rfl⟩) fun v s3 ⟨v',H3,I4,_,e3⟩=>?_
 subst e3
 obtain ⟨its',n',rv',hz',I5⟩:=lst_frz I4 aC
 generalize hH5:upd (upd (upd H2 l (.lst ys)) l (.lst (ys++[w]))) l (.frz {cls:=.type "list",data:=.seq its'.toArray n' } (.own 0))=H5 at I5
 have k25:KqS [l] H2 H5:=fun b u nb eb=>by
  have hbl:b≠l:=fun z=>nb (by rw [z];exact List.mem_singleton.mpr rfl)
  subst hH5
  rw [ay hbl,ay hbl,ay hbl];exact eb
 have hL5:H5 l=some (.frz {cls:=.type "list",data:=.seq its'.toArray n' } (.own 0)):=by subst hH5;exact aC
 have ml:MutS [l] H2:=fun b hb=>by rw [List.mem_singleton.mp hb,hL2];trivial
 have hla:a≠l:=fun z=>by rw [z,hL2] at hH2;cases hH2
 have hH5a:H5 a=some (.dK ((ks.map Sum.inr).zip xs)):=k25 a _ (fun z=>hla (List.mem_singleton.mp z)) hH2
 have kq:∀ {d:D} {v:V},nob d=true->Rep X.K H2 d v->Rep X.K H5 d v:=fun hn r=>Rep.kq ml k25 hn r
 have rl:Rep X.K H5 (.obj 0 l ls (es++[d])) (.ref l):=by
  refine ⟨ys++[w],rfl,⟨hz',its',n',rv',hL5⟩,?_⟩
  exact Reps.append (Reps.kq ml k25 h5 (ty.mono s12)) (Reps.one (kq h1 rw1))
 obtain ⟨g1,g2⟩:=lZ hkey hlk (t.mono s12) hl h6 kq rl
 have rob:Rep X.K H5 (.obj 1 a (putD ks ds f (.obj 0 l ls (es++[d]))).1 (putD ks ds f (.obj 0 l ls (es++[d]))).2) (.ref a):=by
  rw [g1]
  exact ⟨xs,rfl,⟨hl,hH5a⟩,g2⟩
 have hlS:l∈S:=by simpa using h7
 have kqS:KqS S H2 H5:=k25.mono fun b hb=>by rw [List.mem_singleton.mp hb];exact hlS
 have m2:=m.same s12
 have mS:MutS S H5:=fun b hb=>by
  by_cases hbl:b=l
  ·rw [hbl,hL5];trivial
  ·have hm:=m2 b hb
   cases hb2:H2 b with
   | none=>rw [hb2] at hm;exact hm.elim
   | some u=>rw [k25 b u (fun z=>hbl (List.mem_singleton.mp z)) hb2];rw [hb2] at hm;exact hm
 exact ⟨σ,H5,I5,q H5 ((KqS.of eH).trans ((KqS.of s12).trans kqS)) mS σ (iV (er.mono s12) m2 kqS h2 hσ rob)⟩
theorem rH {sts:List Stmt} {w:MU} (i:Nat) (h:MSS X sts w):MSS X sts (mSeq (mDrop i) w):=fun S=>(h S).imp fun E σ H ⟨ρ,τ,o,er,m,e,q⟩=>by
 refine ⟨ρ.set i none,τ,o,⟨⟨by rw [List.length_set];exact er.1.1,fun j d hj=>er.1.2 j d ?_⟩,by rw [List.length_set];exact er.2⟩,m,e,q⟩
 by_cases hji:j=i
 ·subst hji
  have hl:j<ρ.length:=by have:=(List.getElem?_eq_some_iff.mp hj).1;simpa using this
  rw [List.getElem?_set_self hl] at hj
  cases hj
 ·rwa [List.getElem?_set_ne (Ne.symm hji)] at hj
theorem EnvT.hid {K:PySem.W.Frag} {H:Hp} {ρ:R} {τ σ:L2.St} {j:Nat} {v:V} (e:EnvT K H ρ τ σ) (hj:ρ[j]?=some none):EnvT K H ρ τ (σ.set j (some v)):=by
 have hl:j<ρ.length:=(List.getElem?_eq_some_iff.mp hj).1
 refine ⟨⟨by simpa using e.1.1,fun i d h=>?_⟩,by rw [List.drop_set_of_lt hl];exact e.2⟩
 have hij:j≠i:=fun z=>by rw [z,h] at hj;cases hj
 rw [List.getElem?_set_ne hij]
 exact e.1.2 i d h
theorem rL {x y k1 k2 k3 k4:Str} {ke1 ke2 ke3 ke4 v1 v2 v3 e f:Expr} {f1 f2 f3 fe ff:R->Option D} {sts:List Stmt} {w:MU} {py pd pos1 py2 ps2 pos2 px p4 py3 ap cp pos3:Pos} (i j:Nat) (hNd:X.N.Nodup) (hu:X.A.units+1<cLine)
  (hk1:SE X ke1 (fun _=>some (.str k1))) (h1:SE X v1 f1) (hk2:SE X ke2 (fun _=>some (.str k2))) (h2:SE X v2 f2) (hk3:SE X ke3 (fun _=>some (.str k3))) (h3:SE X v3 f3) (hk4:SE X ke4 (fun _=>some (.str k4))) (he:SE X e fe) (hf:SE X f ff) (hr:MSS X sts w)
  (hN:X.N[i]?=some x:=by rfl) (hv:Vis X.env.scope x:=by first | exact Or.inl rfl | exact Or.inr (Or.inl rfl) | exact Or.inr (Or.inr rfl)) (hd:(x==("__debug__" : Str))=false:=by decide) (hcd:(x==("__classdict__" : Str))=false:=by decide)
  (hNj:X.N[j]?=some y:=by rfl) (hvj:Vis X.env.scope y:=by first | exact Or.inl rfl | exact Or.inr (Or.inl rfl) | exact Or.inr (Or.inr rfl)) (hdj:(y==("__debug__" : Str))=false:=by decide) (hcdj:(y==("__classdict__" : Str))=false:=by decide)
  (hlj:Loc X.env.scope y:=by first | exact Or.inl rfl | exact Or.inr rfl) (hfj:X.fn y=true\/X.env.scope.names.lookup y=some .local:=by first | exact .inl rfl | exact .inr rfl)
  (hs1:swapsWith (.Dict [some ke1,some ke2] [v1,v2] pd) (some (.Name y py)) pos1.line X.env=pure false:=by rfl) (hs2:swapsWith v3 (some (.Subscript (.Name y py2) ke3 ps2)) pos2.line X.env=pure false:=by rfl)
  (hs3:swapsWith (.Call (.Attribute (.Name y py3) "get" ap) [e,f] [] cp) (some (.Subscript (.Name x px) ke4 p4)) pos3.line X.env=pure false:=by rfl)
  (m2:M2 X (.Name y py3) "get" ap e f cp:=by exact ⟨rfl,rfl,rfl,rfl⟩) :
  MSS X (.Assign [.Name y py] (.Dict [some ke1,some ke2] [v1,v2] pd) pos1::.Assign [.Subscript (.Name y py2) ke3 ps2] v3 pos2::.Assign [.Subscript (.Name x px) ke4 p4] (.Call (.Attribute (.Name y py3) "get" ap) [e,f] [] cp) pos3::sts)
   (mSeq (mDput i k4 (rows3 j k1 k2 k3 f1 f2 f3 fe ff)) w):=by
 intro S
 refine (dh (jz (i:=j) hNd hNj hlj (sn (pos:=pd) (pps_cons hk1 h1 (pps_cons hk2 h2 pps_nil)) rfl rfl (by simp) (by simp)) hs1 hfj) (dh (gF hu (pv j (pos:=py2) hNj hvj hdj hcdj) hk3 h3 hs2) (dh (gF hu (pv i (pos:=px) hN hv hd hcd) hk4 (qX hu (pv j (pos:=py3) hNj hvj hdj hcdj) he hf m2) hs3) (hr S)))).imp fun E σ H z=>?_
 obtain ⟨ρ,τ,o,er,m,e0,q⟩:=seqM_of z
 obtain ⟨dv,e1,e2⟩:=bindS e0
 obtain ⟨d1,a1,e1⟩:=bindS e1
 obtain ⟨d2,a2,e1⟩:=bindS e1
 obtain ⟨d3,a3,e1⟩:=bindS e1
 obtain ⟨dq,aq,e1⟩:=bindS e1
 obtain ⟨dd,ad,e1⟩:=bindS e1
 match dq,aq,e1 with
 | .str zz,aq,e1 =>
 have e1':(if freeAt j ρ=true/\nobs [d1,d2,d3]=true/\k1≠k2/\k1≠k3/\k2≠k3 then some (if zz=k1 then d1 else if zz=k2 then d2 else if zz=k3 then d3 else dd) else none)=some dv:=e1
 split at e1'
 case isFalse=>cases e1'
 case isTrue hc =>
 obtain ⟨hj0,hnb,n12,n13,n23⟩:=hc
 have hj:ρ[j]?=some none:=by
  unfold freeAt at hj0
  split at hj0
  ·assumption
  ·cases hj0
 cases e1'
 have hnb':(nob d1&&(nob d2&&(nob d3&&true)))=true:=hnb
 simp only [Bool.and_eq_true,and_true] at hnb'
 obtain ⟨nb1,nb2,nb3⟩:=hnb'
 have hjl:j<σ.length:=Nat.lt_of_lt_of_le (List.getElem?_eq_some_iff.mp hj).1 er.1.1
 intro p hp
 have s0:=bm hp (.dK [])
 refine ⟨ρ,.str k1,(er.mono s0).1,rfl,fun y1 H1 s1 ry1=>⟨ρ,d1,(er.mono (s0.trans s1)).1,a1,fun u1 H2 s2 r1=>⟨ρ,.str k2,(er.mono ((s0.trans s1).trans s2)).1,rfl,fun y2 H3 s3 ry2=>⟨ρ,d2,(er.mono (((s0.trans s1).trans s2).trans s3)).1,a2,fun u2 H4 s4 r2=>?_⟩⟩⟩⟩
 cases (show y1=_ from ry1)
 cases (show y2=_ from ry2)
 have t4:=(((s0.trans s1).trans s2).trans s3).trans s4
 have h4p:H4 p=some (.dK []):=(((s1.trans s2).trans s3).trans s4) _ _ aC
 refine ⟨h4p,[(.inr k1,u1),(.inr k2,u2)],rfl,by simp,?_⟩
 have hmk:mergeK [] [((.inr k1:Key),u1),(.inr k2,u2)]=[(.inr k1,u1),(.inr k2,u2)]:=by
  show putK (putK ([]:List (Key×V)) (Sum.inr k1) u1) (Sum.inr k2) u2=_
  rw [show putK ([]:List (Key×V)) (.inr k1) u1=[(.inr k1,u1)] from rfl,putK_ne (fun z=>n12 (Sum.inr.inj z))]
  rfl
 rw [hmk]
 generalize hH5:upd H4 p (.dK [((.inr k1:Key),u1),(.inr k2,u2)])=H5
 have k45:KqS [p] H4 H5:=fun b u nb eb=>by subst hH5;rw [ay fun z=>nb (by rw [z];exact List.mem_singleton.mpr rfl)];exact eb
 have m4:MutS [p] H4:=fun b hb=>by rw [List.mem_singleton.mp hb,h4p];trivial
 have sH5:Same H H5:=fun b u hb=>k45 b u (fun z=>by rw [List.mem_singleton.mp z,hp] at hb;cases hb) (t4 b u hb)
 have r1':Rep X.K H5 d1 u1:=Rep.kq m4 k45 nb1 (r1.mono (s3.trans s4))
 have r2':Rep X.K H5 d2 u2:=Rep.kq m4 k45 nb2 r2
 have h5p:H5 p=some (.dK [((.inr k1:Key),u1),(.inr k2,u2)]):=by subst hH5;exact aC
 have er5:=(er.mono sH5).hid (v:=.ref p) hj
 have hσj:(σ.set j (some (V.ref p)))[j]?=some (some (.ref p)):=List.getElem?_set_self hjl
 refine ⟨ρ,d3,er5.1,a3,fun u3 H6 s6 r3=>⟨.ref p,hσj,ρ,.str k3,(er5.mono s6).1,rfl,fun y3 H7 s7 ry3=>?_⟩⟩
 cases (show y3=_ from ry3)
 have h7p:=(s6.trans s7) _ _ h5p
 refine ⟨p,_,rfl,DPut.k (k:=.inr k3) h7p (by rw [sizeLine_eq];show 2<_;omega),?_⟩
 rw [putK_ne (fun z=>n13 (Sum.inr.inj z)),putK_ne (fun z=>n23 (Sum.inr.inj z)),show putK ([]:List (Key×V)) (.inr k3) u3=[(.inr k3,u3)] from rfl]
 generalize hH8:upd H7 p (.dK [((.inr k1:Key),u1),(.inr k2,u2),(.inr k3,u3)])=H8
 have k78:KqS [p] H7 H8:=fun b u nb eb=>by subst hH8;rw [ay fun z=>nb (by rw [z];exact List.mem_singleton.mpr rfl)];exact eb
 have m7:MutS [p] H7:=fun b hb=>by rw [List.mem_singleton.mp hb,h7p];trivial
 have sH8:Same H H8:=fun b u hb=>k78 b u (fun z=>by rw [List.mem_singleton.mp z,hp] at hb;cases hb) ((sH5.trans (s6.trans s7)) b u hb)
 have q1:Rep X.K H8 d1 u1:=Rep.kq m7 k78 nb1 (r1'.mono (s6.trans s7))
 have q2:Rep X.K H8 d2 u2:=Rep.kq m7 k78 nb2 (r2'.mono (s6.trans s7))
 have q3:Rep X.K H8 d3 u3:=Rep.kq m7 k78 nb3 (r3.mono s7)
 have h8p:H8 p=some (.dK [((.inr k1:Key),u1),(.inr k2,u2),(.inr k3,u3)]):=by subst hH8;exact aC
 have er8:=(er.mono sH8).hid (v:=.ref p) hj
 refine ⟨.ref p,hσj,p,rfl,.inl ⟨_,.inl h8p⟩,ρ,.str zz,er8.1,aq,fun y H9 s9 ry=>⟨ρ,dd,(er8.mono s9).1,ad,fun vz H10 s10 rz=>?_⟩⟩
 cases (show y=_ from ry)
 have t10:=s9.trans s10
 refine ⟨_,DGet.k (k:=.inr zz) (t10 _ _ h8p),?_⟩
 have rv:Rep X.K H10 (if zz=k1 then d1 else if zz=k2 then d2 else if zz=k3 then d3 else dd) ((valV [((.inr k1:Key),u1),(.inr k2,u2),(.inr k3,u3)] (.inr zz)).getD vz):=by
  by_cases c1:zz=k1
  ·rw [if_pos c1,valV_pos (by rw [c1])];exact q1.mono t10
  rw [if_neg c1,valV_neg (fun z=>c1 (Sum.inr.inj z).symm)]
  by_cases c2:zz=k2
  ·rw [if_pos c2,valV_pos (by rw [c2])];exact q2.mono t10
  rw [if_neg c2,valV_neg (fun z=>c2 (Sum.inr.inj z).symm)]
  by_cases c3:zz=k3
  ·rw [if_pos c3,valV_pos (by rw [c3])];exact q3.mono t10
  rw [if_neg c3,valV_neg (fun z=>c3 (Sum.inr.inj z).symm)]
  exact rz
 generalize (valV [((.inr k1:Key),u1),(.inr k2,u2),(.inr k3,u3)] (.inr zz)).getD vz=yv at rv
 generalize (if zz=k1 then d1 else if zz=k2 then d2 else if zz=k3 then d3 else dd)=d at rv e2
 split at e2
 case h_2=>cases e2
 case h_1 kk a ks ds hat =>
 split at e2
 case isFalse=>cases e2
 case isTrue hc =>
 obtain ⟨rfl,g1,g2,g3,g4,g5,g6,g7⟩:=hc
 cases e2
 have er10:=er8.mono t10
 obtain ⟨v,hσ,rob0⟩:=er10.1.at hat
 obtain ⟨xs,ev,⟨hl,hH0⟩,t0⟩:=rob0
 subst ev
 refine ⟨.ref a,hσ,ρ,.str k4,er10.1,rfl,fun u H11 s11 ru=>?_⟩
 cases (show u=_ from ru)
 have sA:=sH8.trans (t10.trans s11)
 have ry:=rv.mono s11
 have hH:=s11 _ _ hH0
 have t:=t0.mono s11
 have hdl:ds.length=xs.length:=t.length
 refine ⟨a,_,rfl,DPut.k (k:=.inr k4) hH (by rw [List.length_zip,List.length_map,sizeLine_eq];omega),?_⟩
 have ma:MutS [a] H11:=fun b hb=>by rw [List.mem_singleton.mp hb,hH];trivial
 generalize ho:HO.dK (putK ((ks.map Sum.inr).zip xs) (.inr k4) yv)=o'
 have kq:KqS [a] H11 (upd H11 a o'):=fun b u nb eb=>by rw [ay fun z=>nb (by rw [z];exact List.mem_singleton.mpr rfl)];exact eb
 obtain ⟨vs',p1,p2,p3⟩:=putK_at (K:=X.K) (H':=upd H11 a o') (x:=k4) (e:=d) (y:=yv) (ks:=ks) (ds:=ds) (vs:=xs) g7 hl hdl
 have rob:Rep X.K (upd H11 a o') (.obj 1 a (putD ks ds k4 d).1 (putD ks ds k4 d).2) (.ref a):=by
  refine ⟨vs',rfl,⟨p2,?_⟩,p3 (hV hH g5 t) (Rep.kq ma kq g1 ry)⟩
  rw [aC,<- ho,p1]
 have hin:=inS_of g3
 have haS:a∈S:=hin a (List.mem_cons_self ..)
 have kqS:KqS S H11 (upd H11 a o'):=kq.mono fun b hb=>by rw [List.mem_singleton.mp hb];exact haS
 have m1:=m.same sA
 have mS:MutS S (upd H11 a o'):=fun b hb=>by
  by_cases hba:b=a
  ·rw [hba,aC,<- ho];trivial
  ·rw [ay hba];exact m1 b hb
 exact q _ ((KqS.of sA).trans kqS) mS _ (iV (er10.mono s11) m1 kqS g2 hσ rob)
end
end HW
namespace HW
open PySem PySem.Spec PyProof.Rows L2
def tNB (K:PySem.W.Frag) (w:NK):TS:=fun E σ H=>∃ ρ τ,EnvT K H ρ τ σ/\(∃ ob,w ρ 0 1=some ob)/\∀ a l ob H',H a=none->H l=none->a≠l->w ρ a l=some ob->Same H H'->Rep K H' ob (.ref a)->E.rt (.ref a) H'
def NB (X:Cx) (sts:List Stmt) (w:NK):Prop:=PSs X sts (tNB X.K w)
theorem jM {x:Str} {e:D} (he:nob e=true):∀ {ks:List Str} {ds:List D},nobs ds=true->nobs (putD ks ds x e).2=true
 | [],ds,h=>by
  have:(putD [] ds x e).2=ds++[e]:=by cases ds<;>rfl
  rw [this]
  induction ds with
  | nil=>show (nob e&&true)=true;rw [he];rfl
  | cons d ds ih =>
   have h':(nob d&&nobs ds)=true:=h
   rw [Bool.and_eq_true] at h'
   show (nob d&&nobs (ds++[e]))=true
   rw [h'.1,ih h'.2 (by cases ds<;>rfl)];rfl
 | k::ks,[],h=>by show (nob e&&true)=true;rw [he];rfl
 | k::ks,c::ds,h=>by
  have h':(nob c&&nobs ds)=true:=h
  rw [Bool.and_eq_true] at h'
  by_cases hx:k=x
  ·rw [putD,if_pos hx];show (nob e&&nobs ds)=true;rw [he,h'.2];rfl
  ·rw [putD,if_neg hx];show (nob c&&nobs (putD ks ds x e).2)=true;rw [h'.1,jM he h'.2];rfl
section
variable {X:Cx} {pos:Pos}
theorem sJ {st:Stmt} {sts:List Stmt} {p:R->Option Out} {w:NK} (h1:S1 X st p) (h2:NB X sts w):NB X (st::sts) (nkPure p w):=(dh h1 h2).imp fun E σ H ⟨ρ,τ,er,⟨ob,ho⟩,q⟩=>by
 obtain ⟨o,e1,e2⟩:=bindS ho
 refine ⟨ρ,τ,o,er,e1,fun H1 s1=>?_⟩
 cases o with
 | nx ρ2 =>
  refine fun σ2 er2=>⟨ρ2,τ,er2,⟨ob,e2⟩,fun a l ob' H' ha hl hal hw s2 r=>q a l ob' H' ?_ ?_ hal ?_ (s1.trans s2) r⟩
  ·cases hb:H a with
   | none=>rfl
   | some u=>rw [s1 a u hb] at ha;cases ha
  ·cases hb:H l with
   | none=>rfl
   | some u=>rw [s1 l u hb] at hl;cases hl
  ·show (p ρ).bind _=_
   rw [e1];exact hw
 | rt d=>cases e2
 | bk ρ2=>cases e2
 | ct ρ2=>cases e2
theorem tK {x k k':Str} {ea eb ke ke' value:Expr} {f1 f2 f:R->Option D} {px p1 p2 p3 p4 pos1 px2 q2 pos2 px3 q3 pl pos3 px4 pos4:Pos} (i:Nat) (hNd:X.N.Nodup) (hu:X.A.units+1<cLine) (hc:X.calm=true) (hmd:X.mg "dict" = none) (hmz:X.mg "zip" = none)
  (h1:SE X ea f1) (h2:SE X eb f2) (hk:SE X ke (fun _=>some (.str k))) (h3:SE X value f) (hk':SE X ke' (fun _=>some (.str k')))
  (hN:X.N[i]?=some x:=by rfl) (hv:Vis X.env.scope x:=by first | exact Or.inl rfl | exact Or.inr (Or.inl rfl) | exact Or.inr (Or.inr rfl)) (hd:(x==("__debug__" : Str))=false:=by decide) (hcd:(x==("__classdict__" : Str))=false:=by decide)
  (hlj:Loc X.env.scope x:=by first | exact Or.inl rfl | exact Or.inr rfl) (hfj:X.fn x=true\/X.env.scope.names.lookup x=some .local:=by first | exact .inl rfl | exact .inr rfl)
  (hgd:Gl X "dict":=by rfl) (hgz:Gl X "zip":=by rfl) (hst:noStar ea=true:=by rfl) (hst2:noStar eb=true:=by rfl)
  (hs1:swapsWith (.Call (.Name "dict" p1) [.Call (.Name "zip" p2) [ea,eb] [] p3] [] p4) (some (.Name x px)) pos1.line X.env=pure false:=by rfl)
  (hs2:swapsWith value (some (.Subscript (.Name x px2) ke q2)) pos2.line X.env=pure false:=by rfl)
  (hs3:swapsWith (.List [] pl) (some (.Subscript (.Name x px3) ke' q3)) pos3.line X.env=pure false:=by rfl) :
  NB X [.Assign [.Name x px] (.Call (.Name "dict" p1) [.Call (.Name "zip" p2) [ea,eb] [] p3] [] p4) pos1,.Assign [.Subscript (.Name x px2) ke q2] value pos2,.Assign [.Subscript (.Name x px3) ke' q3] (.List [] pl) pos3,.Return (some (.Name x px4)) pos4] (nkEnd i f1 f2 k f k'):=by
 intro pins s σ H E I ⟨ρ,τ,er,⟨ob0,e0⟩,q⟩
 obtain ⟨dx,a1,z1⟩:=bindS e0
 obtain ⟨dy,a2,z2⟩:=bindS z1
 obtain ⟨dd,a3,z3⟩:=bindS z2
 match dx,dy,a1,a2,z3 with
 | .tup xs,.tup ys,a1,a2,z3 =>
 obtain ⟨ks,a4,z4⟩:=bindS (show (txsOf xs).bind _=some ob0 from z3)
 split at z4
 case isFalse=>cases z4
 case isTrue hcond =>
 obtain ⟨⟨hnd,hlen,h0,h50⟩,nys,ndd,hfree,hnd2⟩:=hcond
 have hj:ρ[i]?=some none:=by
  unfold freeAt at hfree
  split at hfree
  ·assumption
  ·cases hfree
 have hjl:i<σ.length:=Nat.lt_of_lt_of_le (List.getElem?_eq_some_iff.mp hj).1 er.1.1
 refine wpAny_execs_cons (thn ((jz (i:=i) hNd hN hlj (mZ (p1:=p1) (p2:=p2) (p3:=p3) (p4:=p4) hc hmd hmz h1 h2 hgd hgz hst hst2) hs1 hfj) pins s σ H {E with nx:=fun σ' H'=>∃ d vs,σ'=σ.set i (some (.ref d))/\H d=none/\Same H H'/\vs.length=ks.length/\H' d=some (.dK ((ks.map Sum.inr).zip vs))/\Reps X.K H' ys vs} I ?_) fun fl s1 z=>?_)
 ·exact ⟨ρ,xs,ys,ks,er.1,a1,a2,a4,hnd,hlen,h0,h50,fun d vs H' g1 g2 g3 g4 g5=>⟨d,vs,rfl,g1,g2,g3,g4,g5⟩⟩
 cases fl with
 | brk=>exact z
 | cont=>exact z
 | ret v=>exact z
 | next =>
 obtain ⟨σ',H1,I1,d,vs,rfl,hHd,s1',hvl,h1d,rys⟩:=z
 have er1:=(er.mono s1').hid (v:=.ref d) hj
 have hσ:(σ.set i (some (V.ref d)))[i]?=some (some (.ref d)):=List.getElem?_set_self hjl
 refine wpAny_execs_cons (thn ((gF hu (pv i (pos:=px2) hN hv hd hcd) hk h3 hs2) pins s1 _ H1 {E with nx:=fun σ' H'=>σ'=σ.set i (some (.ref d))/\∃ u H2,Same H1 H2/\Rep X.K H2 dd u/\H'=upd H2 d (.dK (putK ((ks.map Sum.inr).zip vs) (.inr k) u))} I1 ?_) fun fl s2 z=>?_)
 ·refine ⟨ρ,dd,er1.1,a3,fun u H2 s2 ru=>⟨.ref d,hσ,ρ,.str k,(er1.mono s2).1,rfl,fun y H3 s3 ry=>?_⟩⟩
  cases (show y=_ from ry)
  exact ⟨d,_,rfl,DPut.k (k:=.inr k) ((s2.trans s3) _ _ h1d) (by rw [List.length_zip,List.length_map,sizeLine_eq];omega),rfl,u,H3,s2.trans s3,ru.mono s3,rfl⟩
 cases fl with
 | brk=>exact z
 | cont=>exact z
 | ret v=>exact z
 | next =>
 obtain ⟨σ',H3,I3,rfl,u,H2,s12,ru,rfl⟩:=z
 have h2d:=s12 _ _ h1d
 have m2:MutS [d] H2:=fun b hb=>by rw [List.mem_singleton.mp hb,h2d];trivial
 generalize ho:HO.dK (putK ((ks.map Sum.inr).zip vs) (.inr k) u)=o' at I3
 generalize hH3:upd H2 d o'=H3 at I3
 have k23:KqS [d] H2 H3:=fun b w nb eb=>by subst hH3;rw [ay fun z=>nb (by rw [z];exact List.mem_singleton.mpr rfl)];exact eb
 obtain ⟨vs',p1',p2',p3'⟩:=putK_at (K:=X.K) (H':=H3) (x:=k) (e:=dd) (y:=u) (ks:=ks) (ds:=ys) (vs:=vs) hnd hvl.symm (by omega)
 have rys':Reps X.K H3 (putD ks ys k dd).2 vs':=p3' (Reps.kq m2 k23 nys (rys.mono s12)) (Rep.kq m2 k23 ndd ru)
 have h3d:H3 d=some (.dK (((putD ks ys k dd).1.map Sum.inr).zip vs')):=by subst hH3;rw [aC,<- ho,p1']
 have s03:Same H H3:=fun b w hb=>k23 b w (fun z=>by rw [List.mem_singleton.mp z,hHd] at hb;cases hb) ((s1'.trans s12) b w hb)
 have er3:=(er.mono s03).hid (v:=.ref d) hj
 have hl2:(putD ks ys k dd).1.length<=51:=by
  have:=length_putK ((ks.map (Sum.inr:Str->Key)).zip vs) (.inr k) u
  rw [p1',List.length_zip,List.length_zip,List.length_map,List.length_map] at this
  omega
 have nys':=jM (x:=k) ndd (ks:=ks) nys
 refine wpAny_execs_cons (thn ((gF hu (pv i (pos:=px3) hN hv hd hcd) hk' (nZ (pos:=pl) pa_nil) hs3) pins s2 _ H3 {E with nx:=fun σ' H'=>σ'=σ.set i (some (.ref d))/\∃ l H4,H3 l=none/\Same (upd H3 l (.lst [])) H4/\H'=upd H4 d (.dK (putK (((putD ks ys k dd).1.map Sum.inr).zip vs') (.inr k') (.ref l)))} I3 ?_) fun fl s3 z=>?_)
 ·refine ⟨Nat.zero_le _,fun l hl0=>⟨.ref d,hσ,ρ,.str k',(er3.mono (bm hl0 _)).1,rfl,fun y H4 s4 ry=>?_⟩⟩
  cases (show y=_ from ry)
  exact ⟨d,_,rfl,DPut.k (k:=.inr k') (((bm hl0 _).trans s4) _ _ h3d) (by rw [List.length_zip,List.length_map,sizeLine_eq];omega),rfl,l,H4,hl0,s4,rfl⟩
 cases fl with
 | brk=>exact z
 | cont=>exact z
 | ret v=>exact z
 | next =>
 obtain ⟨σ',H5,I5,rfl,l,H4,hl0,s34,rfl⟩:=z
 have hdl:d≠l:=ne_of_none h3d hl0
 have s3':=(bm hl0 (.lst [])).trans s34
 have h4l:H4 l=some (.lst []):=s34 _ _ aC
 have h4d:=s3' _ _ h3d
 have h5l:(upd H4 d (.dK (putK (((putD ks ys k dd).1.map Sum.inr).zip vs') (.inr k') (.ref l)))) l=some (.lst []):=by rw [ay (Ne.symm hdl)];exact h4l
 obtain ⟨its,nn,rv',hz',I6⟩:=lst_frz I5 h5l
 generalize hH6:upd (upd H4 d (.dK (putK (((putD ks ys k dd).1.map Sum.inr).zip vs') (.inr k') (.ref l)))) l (.frz {cls:=.type "list",data:=.seq its.toArray nn} (.own 0))=H6 at I6
 have k36:KqS [d] H3 H6:=fun b w nb eb=>by
  have hbd:b≠d:=fun z=>nb (by rw [z];exact List.mem_singleton.mpr rfl)
  have hbl:b≠l:=ne_of_none eb hl0
  subst hH6
  rw [ay hbl,ay hbd];exact s3' b w eb
 have m3:MutS [d] H3:=fun b hb=>by rw [List.mem_singleton.mp hb,h3d];trivial
 have h6l:H6 l=some (.frz {cls:=.type "list",data:=.seq its.toArray nn} (.own 0)):=by subst hH6;exact aC
 have h6d:H6 d=some (.dK (putK (((putD ks ys k dd).1.map Sum.inr).zip vs') (.inr k') (.ref l))):=by subst hH6;rw [ay hdl,aC]
 obtain ⟨vs2,r1,r2,r3⟩:=putK_at (K:=X.K) (H':=H6) (x:=k') (e:=.obj 0 l [] []) (y:=.ref l) (ks:=(putD ks ys k dd).1) (ds:=(putD ks ys k dd).2) (vs:=vs') hnd2 p2' rys'.length
 have s06:Same H H6:=fun b w hb=>k36 b w (fun z=>by rw [List.mem_singleton.mp z,hHd] at hb;cases hb) (s03 b w hb)
 have hHl:H l=none:=by
  cases hb:H l with
  | none=>rfl
  | some w=>rw [s03 l w hb] at hl0;cases hl0
 refine (gv (oi (pv i (pos:=px4) hN hv hd hcd))) pins s3 _ H6 E I6 ⟨.ref d,hσ,q d l (.obj 1 d (putD (putD ks ys k dd).1 (putD ks ys k dd).2 k' (.obj 0 l [] [])).1 (putD (putD ks ys k dd).1 (putD ks ys k dd).2 k' (.obj 0 l [] [])).2) H6 hHd hHl hdl ?_ s06 ⟨vs2,rfl,⟨r2,by rw [h6d,r1]⟩,r3 (Reps.kq m3 k36 nys' rys') ⟨[],rfl,⟨hz',its,nn,rv',h6l⟩,rfl⟩⟩⟩
 show (f1 ρ).bind _=_
 rw [a1,Option.bind_some,a2,Option.bind_some,a3,Option.bind_some]
 show (txsOf xs).bind _=_
 rw [a4,Option.bind_some,if_pos ⟨⟨hnd,hlen,h0,h50⟩,nys,ndd,hfree,hnd2⟩]
def spN (K:PySem.W.Frag) (mk:List D->Nat->Nat->Option D):Sp:=fun vs H Q _=>∃ ds,Reps K H ds vs/\(∃ ob,mk ds 0 1=some ob)/\∀ a l ob H',H a=none->H l=none->a≠l->mk ds a l=some ob->Same H H'->Rep K H' ob (.ref a)->Q (.ref a) H'
theorem sP {P:Program} {w:World} {K:PySem.W.Frag} {mg:Str->Option Value} {base:Heap} {x qual:Str} {st:Stmt} {f:Addr} {fd:FuncData} {N ps:List Str} {k:Nat} {g:NK}
  (Fn:Fun K x qual st f fd) (Sc:FnScope N ps (defScope st))
  (hb:∀ (cdv:Value) (A:Around) (outer:List Env) (s:Shared) (H:Hp) (E:XK),Room k (A.deeper (envOfC qual (defScope st) s.heap.objs.size f cdv))->NB (cxOf CX0 P w K mg base N qual (defScope st) f cdv A outer s H E).nox (defBody st) g) :
  FnOk P w K mg base CX0 (k+1) f fd ps (spN K (viaN ps.length N.length g)):=by
 refine Fn.ok Sc (fun vs H Q E h=>?_) (fun cdv A outer s H vs Q E hr h=>?_)
 ·obtain ⟨ds,r,⟨ob,e⟩,_⟩:=h
  rw [<- r.length]
  unfold viaN at e
  split at e
  ·assumption
  ·cases e
 ·obtain ⟨ds,r,⟨ob,e⟩,q⟩:=h
  unfold viaN at e
  split at e
  case isFalse=>cases e
  case isTrue hlen =>
  refine ⟨_,hb cdv A outer s H E hr,beg N.length ds,_,(beg_env r).t,⟨ob,e⟩,fun a l ob' H' ha hl hal hw s' r'=>q a l ob' H' ha hl hal ?_ s' r'⟩
  unfold viaN
  rw [if_pos hlen];exact hw
structure CalN (P:Program) (w:World) (K:PySem.W.Frag) (mg:Str->Option Value) (base:Heap) (k:Nat) (x:Str) (ps:List Str) (mk:List D->Nat->Nat->Option D):Prop where
 ex:∃ f fd,FnOk P w K mg base CX0 k f fd ps (spN K mk)/\mg x=some (.ref f)/\PySem.W.keepIn K (.ref f)=true/\Binds K fd ps []
theorem CalN.m {P:Program} {w:World} {K:PySem.W.Frag} {mg:Str->Option Value} {base:Heap} {k k':Nat} {x:Str} {ps:List Str} {mk:List D->Nat->Nat->Option D} (h:CalN P w K mg base k x ps mk) (hk:k<=k':=by decide):CalN P w K mg base k' x ps mk:=by
 obtain ⟨f,fd,a,b⟩:=h.ex
 exact ⟨f,fd,a.mono hk,b⟩
theorem rh {x cn:Str} {e:Expr} {es:List Expr} {sts:List Stmt} {F:R->Option (List D)} {mk:List D->Nat->Nat->Option D} {w:MU} {ps:List Str} {k:Nat} {px p p1:Pos} (i:Nat) (hN:X.N.Nodup) (C:CalN X.prog X.w X.K X.mg X.base k cn ps mk)
  (hr:Room k X.A) (ha:SA X (e::es) F) (h2:MSS X sts w) (hadr:∀ ds a l ob,mk ds a l=some ob->adr ob=[a,l]) (hg:Gl X cn:=by rfl) (hdb:(cn==("__debug__" : Str))=false:=by decide) (hix:X.N[i]?=some x:=by rfl) (hx:Loc X.env.scope x:=by first | exact Or.inl rfl | exact Or.inr rfl)
  (hs:swapsWith (.Call (.Name cn p) (e::es) [] p1) (some (.Name x px)) pos.line X.env=pure false:=by rfl) (hf:X.fn x=true\/X.env.scope.names.lookup x=some .local:=by first | exact .inl rfl | exact .inr rfl) :
  SS X (.Assign [.Name x px] (.Call (.Name cn p) (e::es) [] p1) pos::sts) (newN i mk F w):=by
 have hst:=ha.2.2
 rw [List.all_cons,Bool.and_eq_true] at hst
 have he:=aX es X.env hst.1
 have hpl:=dr (pos:=p1) (env:=X.env) hst.2
 obtain ⟨f,fd,fok,hm,kp,bd⟩:=C.ex
 intro pins s σ H E I ⟨ρ,τ,o,er,eo,qq⟩
 obtain ⟨ds,e1,hi,hw⟩:=newN_is eo
 refine wpAny_execs_cons (thn ((jz (i:=i) hN hix hx (iX fok hr hg hm kp bd .nil pass0 ha.1 hdb he hpl) hs hf) pins s σ H {E with nx:=fun σ' H'=>∃ a l ob,H a=none/\H l=none/\a≠l/\σ'=σ.set i (some (.ref a))/\mk ds a l=some ob/\Same H H'/\Rep X.K H' ob (.ref a)} I ?_) fun fl s1 z=>?_)
 ·refine ⟨ρ,ds,er.1,e1,fun vs H1 s1 r1=>⟨ds,by rw [List.append_nil];exact r1,?_,fun a l ob H' ha hl hal hmk s2 r2=>⟨a,l,ob,?_,?_,hal,rfl,hmk,s1.trans s2,r2⟩⟩⟩
  ·obtain ⟨ob,_,h,_⟩:=hw 0 1 (by decide)
   exact ⟨ob,h⟩
  ·cases hb:H a with
   | none=>rfl
   | some u=>rw [s1 a u hb] at ha;cases ha
  ·cases hb:H l with
   | none=>rfl
   | some u=>rw [s1 l u hb] at hl;cases hl
 cases fl with
 | brk=>exact z
 | cont=>exact z
 | ret v=>exact z
 | next =>
 obtain ⟨σ',H',I',a,l,ob,hHa,hHl,hal,rfl,hmk,sm,ro⟩:=z
 obtain ⟨ob',mo,h1,h3,h4⟩:=hw a l hal
 rw [hmk] at h1
 cases h1
 have ms:MutS [a,l] H':=by
  have:=mutS_of ro
  rw [hadr _ _ _ _ hmk] at this
  exact this
 refine h2 [a,l] pins s1 _ H' E I' ⟨ρ.set i (some ob),τ,mo,(er.mono sm).set hi ro,ms,h3,fun H2 kq m2=>?_⟩
 have sm2:Same H H2:=fun b u hb=>by
  refine kq b u (fun z=>?_) (sm b u hb)
  rcases List.mem_cons.mp z with rfl | z
  ·rw [hHa] at hb;cases hb
  ·rw [List.mem_singleton.mp z,hHl] at hb;cases hb
 have hfin:=qq H2 sm2
 subst h4
 cases mo with
 | rt d ρ'=>exact fun v rv _=>hfin v rv
 | nx ρ' =>
  intro σ2 er2
  refine hfin σ2 ⟨⟨by rw [List.length_set];exact er2.1.1,fun j d hj=>er2.1.2 j d ?_⟩,by rw [List.length_set];exact er2.2⟩
  by_cases hji:j=i
  ·subst hji
   have hl:j<ρ'.length:=by have:=(List.getElem?_eq_some_iff.mp hj).1;simpa using this
   rw [List.getElem?_set_self hl] at hj
   cases hj
  ·rwa [List.getElem?_set_ne (Ne.symm hji)] at hj
end
theorem nk_adr {i:Nat} {f1 f2 f:R->Option D} {k k':Str} {ρ:R} {a l:Nat} {ob:D} (h:nkEnd i f1 f2 k f k' ρ a l=some ob):adr ob=[a,l]:=by
 obtain ⟨dx,a1,z1⟩:=bindS h
 obtain ⟨dy,a2,z2⟩:=bindS z1
 obtain ⟨dd,a3,z3⟩:=bindS z2
 match dx,dy,a1,a2,z3 with
 | .tup xs,.tup ys,a1,a2,z3 =>
 obtain ⟨ks,a4,z4⟩:=bindS (show (txsOf xs).bind _=some ob from z3)
 split at z4
 case isFalse=>cases z4
 case isTrue hc =>
 cases z4
 show a::_=_
 rw [lG (jM hc.2.2.1 hc.2.1)]
theorem oR {n N i:Nat} {p:R->Option Out} {f1 f2 f:R->Option D} {k k':Str}:∀ ds a l ob,viaN n N (nkPure p (nkEnd i f1 f2 k f k')) ds a l=some ob->adr ob=[a,l]:=fun ds a l ob h=>by
 unfold viaN at h
 split at h
 case isFalse=>cases h
 case isTrue hl =>
 obtain ⟨o,e1,e2⟩:=bindS h
 cases o with
 | nx ρ2=>exact nk_adr e2
 | _=>cases e2
end HW
set_option maxRecDepth 10000
namespace HW
open PySem
def fw:D:=.tup [.str (Str.ofString "a"),.str (Str.ofString "b"),.str (Str.ofString "c")]
def cy:D:=.int 0
def br:D:=.int 1
def bB:D:=.int 2
def cu:D:=.int 3
def bc:D:=.int 4
def eQ:D:=.int 5
def bu:D:=.int 6
def c_:D:=.int 7
def dR:D:=.int 86399
def di:D:=.int 4
def eX:D:=.int 3599
def dj:D:=.int 10
def gw:D:=.int 86400
def dt:List Str:=[Str.ofString "a",Str.ofString "b",Str.ofString "c",Str.ofString "A",Str.ofString "B",Str.ofString "C"]
theorem forD_go {st:D->R->Option R} {body:R->Option Out} {d:D} {ds:List D} {ρ ρ1 ρ2:R} (h1:st d ρ=some ρ1) (h2:body ρ1=some (.nx ρ2)):forD st body (d::ds) ρ=forD st body ds ρ2:=by
 show (st d ρ).bind _=_
 rw [h1]
 show (body ρ1).bind _=_
 rw [h2];rfl
theorem loop_of {it:R->Option (List D)} {st:D->R->Option R} {body:R->Option Out} {ρ:R} {ds:List D} {o:Out} (h1:it ρ=some ds) (h2:forD st body ds ρ=some o):loopD it st body ρ=some o:=by simp [h1,h2]
theorem seqN {f g:R->Option Out} {ρ ρ2:R} (h:f ρ=some (.nx ρ2)):seqD f g ρ=g ρ2:=by simp [h]
theorem ifT {c:R->Option Bool} {f g:R->Option Out} {ρ:R} (h:c ρ=some true):ifD c f g ρ=f ρ:=by simp [h]
theorem ifF {c:R->Option Bool} {f g:R->Option Out} {ρ:R} (h:c ρ=some false):ifD c f g ρ=g ρ:=by simp [h]
theorem seqR {f g:R->Option Out} {ρ:R} {d:D} (h:f ρ=some (.rt d)):seqD f g ρ=some (.rt d):=by simp [h]
theorem asgS {f:R->Option D} {st:D->R->Option R} {ρ ρ':R} {d:D} (h:f ρ=some d) (h2:st d ρ=some ρ'):asgD f st ρ=some (.nx ρ'):=by simp [h,h2]
theorem callS {F:List D->Option D} {g:R->Option (List D)} {ρ:R} {ds:List D} {d:D} (h:g ρ=some ds) (h2:F ds=some d):callD F g ρ=some d:=by simp [h,h2]
theorem arS {f:R->Option D} {g:R->Option (List D)} {ρ:R} {d:D} {ds:List D} (h:f ρ=some d) (h2:g ρ=some ds):argC f g ρ=some (d::ds):=by simp [h,h2]
theorem opS {F:D->D->Option D} {f g:R->Option D} {ρ:R} {x y z:D} (h1:f ρ=some x) (h2:g ρ=some y) (h:F x y=some z):op2 F f g ρ=some z:=by simp only [op2,h1,h2,Option.bind_some,h]
theorem cmS {F:D->D->Option Bool} {f g:R->Option D} {ρ:R} {x y:D} {b:Bool} (h1:f ρ=some x) (h2:g ρ=some y) (h:F x y=some b):cmp2 F f g ρ=some b:=by simp only [cmp2,h1,h2,Option.bind_some,h]
theorem tupS {g:R->Option (List D)} {ρ:R} {ds:List D} (h:g ρ=some ds):tupD g ρ=some (.tup ds):=by simp [h]
theorem asS {c:R->Option Bool} {ρ:R} {b:Bool} (h:c ρ=some b):asV c ρ=some (.bl b):=by simp [h]
theorem slS {f:R->Option D} {l h:R->Option (Option Int)} {ρ:R} {x d:D} {a b:Option Int} (h1:f ρ=some x) (h2:l ρ=some a) (h3:h ρ=some b) (h4:dSl x a b=some d):slD f l h ρ=some d:=by simp only [slD,h1,h2,h3,Option.bind_some,h4]
theorem orF {c d:R->Option Bool} {ρ:R} (h1:c ρ=some false) (h2:d ρ=some false):orT c d ρ=some false:=by simp [h1,h2]
theorem anF {c d:R->Option Bool} {ρ:R} (h1:c ρ=some false):andT c d ρ=some false:=by simp [h1]
theorem anT {c d:R->Option Bool} {ρ:R} {b:Bool} (h1:c ρ=some true) (h2:d ρ=some b):andT c d ρ=some b:=by simp [h1,h2]
theorem anV {f g:R->Option D} {ρ:R} {d:D} (h1:f ρ=some (.bl true)) (h2:g ρ=some d):andV f g ρ=some d:=by simp [h1,h2]
theorem ntS {c:R->Option Bool} {ρ:R} {b:Bool} (h:c ρ=some b):notT c ρ=some (!b):=by simp [h]
theorem trS {f:R->Option D} {ρ:R} {b:Bool} (h:f ρ=some (.bl b)):truT f ρ=some b:=by simp [h]
theorem ieT {c:R->Option Bool} {f g:R->Option D} {ρ:R} {d:D} (h:c ρ=some true) (h2:f ρ=some d):ifE c f g ρ=some d:=by simp [h,h2]
theorem ieF {c:R->Option Bool} {f g:R->Option D} {ρ:R} {d:D} (h:c ρ=some false) (h2:g ρ=some d):ifE c f g ρ=some d:=by simp [h,h2]
theorem orL {c d:R->Option Bool} {ρ:R} (h1:c ρ=some true):orT c d ρ=some true:=by simp [h1]
theorem orR {c d:R->Option Bool} {ρ:R} {b:Bool} (h1:c ρ=some false) (h2:d ρ=some b):orT c d ρ=some b:=by simp [h1,h2]
theorem lstS {g:R->Option (List D)} {ρ:R} {ds:List D} (h:g ρ=some ds):lstD g ρ=some (.lst ds):=by simp [h]
theorem o1S {F:D->Option D} {f:R->Option D} {ρ:R} {x z:D} (h1:f ρ=some x) (h:F x=some z):op1 F f ρ=some z:=by simp only [op1,h1,Option.bind_some,h]
theorem viaS {k n:Nat} {g:R->Option Out} {ds:List D} {d:D} (h:g (beg n ds)=some (.rt d)) (hl:ds.length=k:=by rfl):via k n g ds=some d:=by unfold via;rw [if_pos hl,h];rfl
theorem anVF {f g:R->Option D} {ρ:R} (h1:f ρ=some (.bl false)):andV f g ρ=some (.bl false):=by simp [h1]
theorem ovT {f g:R->Option D} {ρ:R} (h1:f ρ=some (.bl true)):orV f g ρ=some (.bl true):=by simp [h1]
theorem ovF {f g:R->Option D} {ρ:R} {d:D} (h1:f ρ=some (.bl false)) (h2:g ρ=some d):orV f g ρ=some d:=by simp [h1,h2]
theorem retS {f:R->Option D} {ρ:R} {d:D} (h:f ρ=some d):retD f ρ=some (.rt d):=by simp [h]
theorem eqI (i:Int):cEq (.int i) (.int i)=some true:=by simp
theorem modS {i j:Int} (h:0<j):dMod (.int i) (.int j)=some (.int (i%j)):=by simp [h]
theorem mulS {i j:Int} (h:mulFits i j=true):dMul (.int i) (.int j)=some (.int (i*j)):=by
 show (if mulFits i j=true then _ else none)=_
 rw [if_pos h]
theorem mdS {i j q:Int} (h:0<j) (e:i%j=q):dMod (.int i) (.int j)=some (.int q):=by rw [<- e];exact modS h
theorem bqT {i:Int} (h:i=0):some (i==0)=some true:=by rw [h];rfl
theorem bqF {i:Int} (h:¬ i=0):some (i==0)=some false:=by rw [beq_eq_false_iff_ne.mpr h]
theorem dT {p:Prop} [Decidable p] (h:p):some (decide p)=some true:=by rw [decide_eq_true h]
theorem dF {p:Prop} [Decidable p] (h:¬ p):some (decide p)=some false:=by rw [decide_eq_false h]
mutual
theorem eqD_refl:∀ d:D,nob d=true->eqD d d=true
 | .non,_=>rfl
 | .bl b,_=>beq_self_eq_true b
 | .int i,_=>beq_self_eq_true i
 | .str x,_=>beq_self_eq_true x
 | .tup xs,h=>eqDs_refl xs h
 | .lst xs,h=>eqDs_refl xs h
 | .fro xs,h=>eqDs_refl xs h
 | .obj ..,h=>by cases h
theorem eqDs_refl:∀ ds:List D,nobs ds=true->eqDs ds ds=true
 | [],_=>rfl
 | d::ds,h=>by
  have h':(nob d&&nobs ds)=true:=h
  rw [Bool.and_eq_true] at h'
  show (eqD d d&&eqDs ds ds)=true
  rw [eqD_refl d h'.1,eqDs_refl ds h'.2];rfl
end
theorem cEqD_refl {d:D} (h:depD d<=100) (h2:layD d=true):cEqD d d=some true:=by unfold cEqD;rw [if_pos ⟨h,h2,h2⟩,eqD_refl _ (dL h2)]
theorem cNeD_refl {d:D} (h:depD d<=100) (h2:layD d=true):cNeD d d=some false:=by unfold cNeD;rw [cEqD_refl h h2];rfl
theorem depDs_ints (l:List Int):depDs (l.map D.int)=0:=by induction l with | nil=>rfl | cons a l ih=>simp [depDs,depD,ih]
theorem layDs_ints (l:List Int):layDs (l.map D.int)=true:=by induction l with | nil=>rfl | cons a l ih=>simp [layDs,layD,ih]
theorem oI (x:Btn):layD (.str x.x)=true:=by rw [layD];cases x<;>decide +kernel
theorem rc (h:Option (Btn×Option Int)):depD (heldD h)<=1:=by rcases h with _ | ⟨x,_ | k⟩<;>simp [heldD,optI,depD,depDs]
theorem rY (h:Option (Btn×Option Int)):layD (heldD h)=true:=by
 rcases h with _ | ⟨x,_ | k⟩
 ·rfl
 ·simp [heldD,optI,layD,layDs];have:=oI x;simp [layD] at this;exact this
 ·simp [heldD,optI,layD,layDs];have:=oI x;simp [layD] at this;exact this
theorem tR (s:WS):depD s.d<=100:=by
 have h:=rc s.held
 simp [WS.d,WS.alarmD,WS.lapsD,WS.countD,depD,depDs,depDs_ints]
 omega
theorem qI (s:WS):layD s.d=true:=by
 have h:=rY s.held
 simp [WS.d,WS.alarmD,WS.lapsD,WS.countD,layD,layDs,layDs_ints,h]
theorem ws_ne (s:WS):cNeD s.d s.d=some false:=cNeD_refl (tR s) (qI s)
theorem sl8:8<=sizeLine:=by decide
theorem w0 (s:WS):dIx s.d (.int 0)=some (.int (s.mode:Int)):=rfl
theorem w1 (s:WS):dIx s.d (.int 1)=some (.int s.clock):=rfl
theorem w2 (s:WS):dIx s.d (.int 2)=some s.alarmD:=rfl
theorem w3 (s:WS):dIx s.d (.int 3)=some s.lapsD:=rfl
theorem w4 (s:WS):dIx s.d (.int 4)=some s.countD:=rfl
theorem w5 (s:WS):dIx s.d (.int 5)=some (.int s.ring):=rfl
theorem w6 (s:WS):dIx s.d (.int 6)=some (heldD s.held):=rfl
theorem w7 (s:WS):dIx s.d (.int 7)=some (.int s.idle):=rfl
theorem wa0 (s:WS):dIx s.alarmD (.int 0)=some (.int s.ah):=rfl
theorem wa1 (s:WS):dIx s.alarmD (.int 1)=some (.int s.am):=rfl
theorem wa2 (s:WS):dIx s.alarmD (.int 2)=some (.bl s.aon):=rfl
theorem wl0 (s:WS):dIx s.lapsD (.int 0)=some (.int s.lm):=rfl
theorem wl1 (s:WS):dIx s.lapsD (.int 1)=some (.bl s.lr):=rfl
theorem wl2 (s:WS):dIx s.lapsD (.int 2)=some (.tup (s.lk.map .int)):=rfl
theorem wc0 (s:WS):dIx s.countD (.int 0)=some (.int s.cm):=rfl
theorem wc1 (s:WS):dIx s.countD (.int 1)=some (.int s.cs):=rfl
theorem wc2 (s:WS):dIx s.countD (.int 2)=some (.int s.cl):=rfl
theorem wc3 (s:WS):dIx s.countD (.int 3)=some (.bl s.cr):=rfl
theorem b0 (b:Bk):dIx b.d (.int 0)=some (.int b.hold):=rfl
theorem b1 (b:Bk):dIx b.d (.int 1)=some (.int b.back):=rfl
theorem b2 (b:Bk):dIx b.d (.int 2)=some (.tup (b.modes.map Md.d)):=rfl
theorem m0 (m:Md):dIx m.d (.int 0)=some (.str m.face.x):=rfl
theorem m1 (m:Md):dIx m.d (.int 1)=some (.bl m.stays):=rfl
theorem m2 (m:Md):dIx m.d (.int 2)=some (.tup (m.rows.map rowD)):=rfl
theorem r0 (r:Deed×Nat):dIx (rowD r) (.int 0)=some (.str r.1.x):=rfl
theorem r1 (r:Deed×Nat):dIx (rowD r) (.int 1)=some (.int (r.2:Int)):=rfl
theorem h0 (x:Btn) (k:Option Int):dIx (heldD (some (x,k))) (.int 0)=some (.str x.x):=rfl
theorem h1 (x:Btn) (k:Option Int):dIx (heldD (some (x,k))) (.int 1)=some (optI k):=rfl
theorem atD_nat {xs:List D} {i:Nat} (h:i<xs.length):atD xs (i:Int)=some xs[i]:=by
 unfold atD ixD
 rw [if_pos (by omega),if_pos (by omega)]
 simp [h]
theorem iQ (b:Bk) {m:Nat} (h:m<b.modes.length):dIx (.tup (b.modes.map Md.d)) (.int (m:Int))=some (b.modes.getD m default).d:=by
 show atD _ _=_
 rw [atD_nat (by simpa using h)]
 simp [List.getD_eq_getElem?_getD,h]
theorem qZ (m:Md) {i:Nat} (h:i<m.rows.length):dIx (.tup (m.rows.map rowD)) (.int (i:Int))=some (rowD (m.rows.getD i (.none,0))):=by
 show atD _ _=_
 rw [atD_nat (by simpa using h)]
 simp [List.getD_eq_getElem?_getD,h]
theorem mB (b:Bk) {m:Nat} (h:m<b.modes.length):b.modes.getD m default∈b.modes:=by
 have e:b.modes.getD m default=b.modes[m]:=by simp [List.getD_eq_getElem?_getD,h]
 rw [e];exact List.getElem_mem h
theorem mulL {i j:Int} (h1 : -(2 ^ 64)<i) (h2:i<2 ^ 64):dMul (.int i) (.int j)=some (.int (i*j)):=by simp [mulFits_l h1 h2]
theorem mul3600 (j:Int):dMul (.int 3600) (.int j)=some (.int (3600*j)):=mulL (by decide) (by decide)
theorem mul60 (j:Int):dMul (.int 60) (.int j)=some (.int (60*j)):=mulL (by decide) (by decide)
theorem not_non (k:Option Int):cNotN (optI k) .non=some k.isSome:=by cases k<;>rfl
theorem heldNon (h:Option (Btn×Option Int)):cIsN (heldD h) .non=some (!h.isSome):=by rcases h with _ | ⟨x,k⟩<;>rfl
theorem heldNot (h:Option (Btn×Option Int)):cNotN (heldD h) .non=some h.isSome:=by rcases h with _ | ⟨x,k⟩<;>rfl
theorem fmx (i j:Int):fMax [.int i,.int j]=some (.int (mx i j)):=rfl
def whole:D->Bool
 | .int _=>true
 | _=>false
def within (d:D) (l m:Int):Bool:=match d with
 | .int i=>decide (l<=i)&&decide (i<=m)
 | _=>false
def oneOf (d:D) (ws:List D):Bool:=match d with
 | .str x=>ws.any fun y=>eqF y (.str x)
 | _=>false
def tupOf (d:D) (m:Int):Bool:=match d with
 | .tup xs=>(xs.length:Int)==m
 | _=>false
def deeds:List D:=[.str (Str.ofString "none"),.str (Str.ofString "hour"),.str (Str.ofString "minute"),.str (Str.ofString "zero"),.str (Str.ofString "ahour"),.str (Str.ofString "aminute"),.str (Str.ofString "alarm"),.str (Str.ofString "run"),.str (Str.ofString "lap"),.str (Str.ofString "cminute"),.str (Str.ofString "csecond"),.str (Str.ofString "full"),.str (Str.ofString "count")]
def faces:List D:=[.str (Str.ofString "time"),.str (Str.ofString "alarm"),.str (Str.ofString "laps"),.str (Str.ofString "count")]
def rowOk (d:D) (m:Int):Bool:=match d with
 | .tup [a,b]=>oneOf a deeds&&within b 0 (m - 1)
 | _=>false
def rowsOk (d:D) (m:Int):Bool:=match d with
 | .tup xs=>xs.length==6&&xs.all fun x=>rowOk x m
 | _=>false
def modeOk (d:D) (m:Int):Bool:=match d with
 | .tup [a,b,c]=>oneOf a faces&&(isI b "bool" && rowsOk c m)
 | _=>false
def modesOk (d:D):Bool:=match d with
 | .tup xs=>decide (1<=xs.length)&&(decide (xs.length<=8)&&xs.all fun x=>modeOk x xs.length)
 | _=>false
def bookOk (d:D):Bool:=match d with
 | .tup [a,b,c]=>within a 1 9&&(within b 0 60&&modesOk c)
 | _=>false
theorem within_int {d:D} {l h:Int} (e:within d l h=true):∃ i:Int,d=.int i/\l<=i/\i<=h:=by
 cases d with
 | int i=>simp [within] at e;exact ⟨i,rfl,e⟩
 | _=>cases e
theorem isI_bool {d:D} (e:isI d "bool" = true):∃ b,d=.bl b:=by
 cases d with
 | bl b=>exact ⟨b,rfl⟩
 | _=>simp at e
theorem oneOf_str {d:D} {ws:List D} (e:oneOf d ws=true):∃ x,d=.str x/\(ws.any fun y=>eqF y (.str x))=true:=by
 cases d with
 | str x=>exact ⟨x,rfl,e⟩
 | _=>cases e
theorem deed_of {d:D} (e:oneOf d deeds=true):∃ k:Deed,d=.str k.x:=by
 obtain ⟨x,rfl,h⟩:=oneOf_str e
 obtain ⟨y,hy,h⟩:=List.any_eq_true.mp h
 have q:∀ w:Str,eqF (.str w) (.str x)=true->w=x:=fun w z=>beq_iff_eq.mp z
 simp only [deeds,List.mem_cons,List.not_mem_nil,or_false] at hy
 rcases hy with rfl | rfl | rfl | rfl | rfl | rfl | rfl | rfl | rfl | rfl | rfl | rfl | rfl
 ·exact ⟨.none,congrArg D.str (q _ h).symm⟩
 ·exact ⟨.hour,congrArg D.str (q _ h).symm⟩
 ·exact ⟨.minute,congrArg D.str (q _ h).symm⟩
 ·exact ⟨.zero,congrArg D.str (q _ h).symm⟩
 ·exact ⟨.ahour,congrArg D.str (q _ h).symm⟩
 ·exact ⟨.aminute,congrArg D.str (q _ h).symm⟩
 ·exact ⟨.alarm,congrArg D.str (q _ h).symm⟩
 ·exact ⟨.run,congrArg D.str (q _ h).symm⟩
 ·exact ⟨.lap,congrArg D.str (q _ h).symm⟩
 ·exact ⟨.cminute,congrArg D.str (q _ h).symm⟩
 ·exact ⟨.csecond,congrArg D.str (q _ h).symm⟩
 ·exact ⟨.full,congrArg D.str (q _ h).symm⟩
 ·exact ⟨.count,congrArg D.str (q _ h).symm⟩
theorem face_of {d:D} (e:oneOf d faces=true):∃ k:Face,d=.str k.x:=by
 obtain ⟨x,rfl,h⟩:=oneOf_str e
 obtain ⟨y,hy,h⟩:=List.any_eq_true.mp h
 have q:∀ w:Str,eqF (.str w) (.str x)=true->w=x:=fun w z=>beq_iff_eq.mp z
 simp only [faces,List.mem_cons,List.not_mem_nil,or_false] at hy
 rcases hy with rfl | rfl | rfl | rfl
 ·exact ⟨.time,congrArg D.str (q _ h).symm⟩
 ·exact ⟨.alarm,congrArg D.str (q _ h).symm⟩
 ·exact ⟨.laps,congrArg D.str (q _ h).symm⟩
 ·exact ⟨.count,congrArg D.str (q _ h).symm⟩
theorem tX {d:D} {n:Nat} (e:rowOk d n=true):∃ r:Deed×Nat,d=rowD r/\r.2<n:=by
 unfold rowOk at e
 split at e
 ·rw [Bool.and_eq_true] at e
  obtain ⟨k,rfl⟩:=deed_of e.1
  obtain ⟨i,rfl,h0,h1⟩:=within_int e.2
  refine ⟨(k,i.toNat),?_,?_⟩
  ·simp [rowD,Int.toNat_of_nonneg h0]
  ·simp;omega
 ·cases e
theorem list_of {α:Type} {f:α->D} {P:α->Prop} {q:D->Bool} (h:∀ d,q d=true->∃ a,d=f a/\P a):∀ {ds:List D},ds.all q=true->∃ as:List α,ds=as.map f/\∀ a∈as,P a
 | [],_=>⟨[],rfl,fun _ h=>by cases h⟩
 | d::ds,e=>by
  rw [List.all_cons,Bool.and_eq_true] at e
  obtain ⟨a,rfl,ha⟩:=h d e.1
  obtain ⟨as,rfl,hs⟩:=list_of h e.2
  exact ⟨a::as,rfl,fun x hx=>by rcases List.mem_cons.mp hx with rfl | hx;exact ha;exact hs x hx⟩
theorem sL {d:D} {n:Nat} (e:modeOk d n=true):∃ m:Md,d=m.d/\m.Ok n:=by
 unfold modeOk at e
 split at e
 ·rename_i a b c
  rw [Bool.and_eq_true,Bool.and_eq_true] at e
  obtain ⟨f,rfl⟩:=face_of e.1
  obtain ⟨s,rfl⟩:=isI_bool e.2.1
  have e2:=e.2.2
  cases c with
  | tup xs =>
   unfold rowsOk at e2
   simp only [Bool.and_eq_true] at e2
   obtain ⟨rs,rfl,hr⟩:=list_of (f:=rowD) (P:=fun r=>r.2<n) (fun d h=>tX h) e2.2
   refine ⟨⟨f,s,rs⟩,rfl,?_,hr⟩
   have:=e2.1
   simpa using this
  | _=>cases e2
 ·cases e
theorem sH {d:D} (e:bookOk d=true):∃ b:Bk,d=b.d/\b.Ok:=by
 unfold bookOk at e
 split at e
 ·rename_i a b c
  rw [Bool.and_eq_true,Bool.and_eq_true] at e
  obtain ⟨i,rfl,i0,i1⟩:=within_int e.1
  obtain ⟨j,rfl,j0,j1⟩:=within_int e.2.1
  have e2:=e.2.2
  cases c with
  | tup xs =>
   unfold modesOk at e2
   simp only [Bool.and_eq_true] at e2
   obtain ⟨h1,h2,h3⟩:=e2
   obtain ⟨ms,hm,hok⟩:=list_of (f:=Md.d) (P:=fun m=>m.Ok xs.length) (fun d h=>sL h) h3
   have hl:xs.length=ms.length:=by rw [hm];simp
   refine ⟨⟨i,j,ms⟩,by rw [hm];rfl,i0,i1,j0,j1,?_,?_,?_⟩
   ·have:=of_decide_eq_true h1;show 1<=ms.length;omega
   ·have:=of_decide_eq_true h2;show ms.length<=8;omega
   ·rw [hl] at hok;exact hok
  | _=>cases e2
 ·cases e
theorem mN {u w:MU} {S:List Nat} {ρ ρ':R} (h:u S ρ=some (.nx ρ')):mSeq u w S ρ=w S ρ':=by show (u S ρ).bind _=_;rw [h];rfl
theorem mP {p:R->Option Out} {S:List Nat} {ρ ρ':R} (h:p ρ=some (.nx ρ')):mPure p S ρ=some (.nx ρ'):=by show (p ρ).bind _=_;rw [h];rfl
theorem mPr {p:R->Option Out} {S:List Nat} {ρ:R} {d:D} (h:p ρ=some (.rt d)):mPure p S ρ=some (.rt d ρ):=by show (p ρ).bind _=_;rw [h];rfl
theorem mIT {c:R->Option Bool} {u w:MU} {S:List Nat} {ρ:R} (h:c ρ=some true):mIf c u w S ρ=u S ρ:=by show (c ρ).bind _=_;rw [h];rfl
theorem mIF {c:R->Option Bool} {u w:MU} {S:List Nat} {ρ:R} (h:c ρ=some false):mIf c u w S ρ=w S ρ:=by show (c ρ).bind _=_;rw [h];rfl
theorem mEx {c:List Nat->R->Option (D×R)} {S:List Nat} {ρ ρ':R} {d:D} (h:c S ρ=some (d,ρ')):mExpr c S ρ=some (.nx ρ'):=by show (c S ρ).map _=_;rw [h];rfl
theorem calS2 {i:Nat} {G:List D->Option (D×D)} {F:R->Option (List D)} {S:List Nat} {ρ:R} {ob ob' d:D} {ds:List D} (h1:vAt i ρ=some ob) (h2:F ρ=some ds) (h3:G ds=some (d,ob')) (h4:isOb ob=true) (h5:nobBut i ρ=true) (h6:inS S (adr ob)=true):mCal i G F S ρ=some (d,ρ.set i (some ob')):=by
 unfold mCal
 rw [h1,Option.bind_some,h2,Option.bind_some,h3,Option.bind_some]
 exact if_pos ⟨h4,h5,h6⟩
theorem nobsM {α:Type} {f:α->D} (h:∀ x,nob (f x)=true):∀ l:List α,nobs (l.map f)=true
 | []=>rfl
 | x::l=>by show (nob (f x)&&nobs (l.map f))=true;rw [h x,nobsM h l];rfl
theorem nobsI (l:List Int):nobs (l.map D.int)=true:=nobsM (fun _=>rfl) l
theorem nobsA {e:D} (he:nob e=true):∀ {q:List D},nobs q=true->nobs (q++[e])=true
 | [],_=>by show (nob e&&true)=true;rw [he];rfl
 | x::q,h=>by
  have h':(nob x&&nobs q)=true:=h
  rw [Bool.and_eq_true] at h'
  show (nob x&&nobs (q++[e]))=true
  rw [h'.1,nobsA he h'.2];rfl
theorem nobB (b:Bk):nob b.d=true:=by
 have h1:∀ m:Md,nob m.d=true:=fun m=>by
  show (true&&(true&&(nobs (m.rows.map rowD)&&true)))=true
  rw [nobsM (f:=rowD) fun r=>rfl];rfl
 show (true&&(true&&(nobs (b.modes.map Md.d)&&true)))=true
 rw [nobsM h1];rfl
theorem nobH (h:Option (Btn×Option Int)):nob (heldD h)=true:=by rcases h with _ | ⟨x,_ | k⟩<;>rfl
theorem nobLa (s:WS):nob s.lapsD=true:=by
 show (true&&(true&&(nobs (s.lk.map D.int)&&true)))=true
 rw [nobsI];rfl
def nKS:List Str:=[Str.ofString "mode",Str.ofString "clock",Str.ofString "alarm",Str.ofString "laps",Str.ofString "count",Str.ofString "ring",Str.ofString "held",Str.ofString "idle",Str.ofString "went",Str.ofString "story"]
def nowL (l:Nat) (s:WS) (w:Int) (st:List D):List D:=[.int (s.mode:Int),.int s.clock,s.alarmD,s.lapsD,s.countD,.int s.ring,heldD s.held,.int s.idle,.int w,.obj 0 l [] st]
def nowD (a l:Nat) (s:WS) (w:Int) (st:List D):D:=.obj 1 a nKS (nowL l s w st)
section
variable {a l i:Nat} {s s':WS} {w w':Int} {st:List D} {S:List Nat} {ρ:R} {f:R->Option D} {d:D} {k:Str}
theorem nowA:(nowL l s w st).flatMap adr1=[l]:=by
 have:adr1 (heldD s.held)=[]:=by rcases s.held with _ | ⟨x,_ | k⟩<;>rfl
 show adr1 (heldD s.held)++[l]=[l]
 rw [this];rfl
theorem nowAd:adr (nowD a l s w st)=[a,l]:=by
 show a::(nowL l s w st).flatMap adr1=_
 rw [nowA]
theorem okn {d:D} (h:nob d=true):okN d=true:=by cases d<;>first | exact h | cases h
theorem nowO (h:nobs st=true):(nowL l s w st).all okN=true:=by
 show (true&&(true&&(okN s.alarmD&&(okN s.lapsD&&(okN s.countD&&(true&&(okN (heldD s.held)&&(true&&(true&&(nobs st&&true))))))))))=true
 rw [okn (show nob s.alarmD=true from rfl),okn (nobLa s),okn (show nob s.countD=true from rfl),okn (nobH _),h];rfl
theorem ksN:nKS.Nodup:=by decide +kernel
theorem dpS (hv:vAt i ρ=some (nowD a l s w st)) (hf:f ρ=some d) (hd:nob d=true) (hb:nobBut i ρ=true) (hst:nobs st=true) (hk:(keyD nKS (nowL l s w st) k).all nob=true) (hp:putD nKS (nowL l s w st) k d=(nKS,nowL l s' w' st)) :
  mDput i k f [a,l] ρ=some (.nx (ρ.set i (some (nowD a l s' w' st)))):=by
 unfold mDput
 rw [hf,Option.bind_some,hv]
 show (if _ then some (MO.nx (ρ.set i (some (.obj 1 a (putD nKS (nowL l s w st) k d).1 (putD nKS (nowL l s w st) k d).2)))) else none)=_
 rw [hp]
 exact if_pos ⟨rfl,hd,hb,by rw [nowA];simp [inS],by decide,nowO hst,hk,ksN⟩
theorem nsp:putD nKS (nowL l s w st) (Str.ofString "story") d=(nKS,[.int (s.mode:Int),.int s.clock,s.alarmD,s.lapsD,s.countD,.int s.ring,heldD s.held,.int s.idle,.int w,d]):=rfl
theorem daS (hv:vAt i ρ=some (nowD a l s w st)) (hf:f ρ=some d) (hd:nob d=true) (hb:nobBut i ρ=true) (hst:nobs st=true) (hl:st.length<100000) :
  mDapp i (Str.ofString "story") f [a,l] ρ=some (.nx (ρ.set i (some (nowD a l s w (st++[d]))))):=by
 unfold mDapp
 rw [hf,Option.bind_some,hv]
 have hk:keyD nKS (nowL l s w st) (Str.ofString "story")=some (.obj 0 l [] st):=rfl
 show (match keyD nKS (nowL l s w st) (Str.ofString "story") with | some (.obj 0 l' ls es)=>_ | _=>none)=_
 rw [hk]
 have hn:nobs (putD nKS (nowL l s w st) (Str.ofString "story") .non).2=true:=by
  rw [nsp]
  show (true&&(true&&(nob s.alarmD&&(nob s.lapsD&&(nob s.countD&&(true&&(nob (heldD s.held)&&(true&&(true&&(true&&true))))))))))=true
  rw [show nob s.alarmD=true from rfl,nobLa s,show nob s.countD=true from rfl,nobH];rfl
 show (if _ then some (MO.nx (ρ.set i (some (.obj 1 a (putD nKS (nowL l s w st) (Str.ofString "story") (.obj 0 l [] (st++[d]))).1 (putD nKS (nowL l s w st) (Str.ofString "story") (.obj 0 l [] (st++[d]))).2)))) else none)=_
 rw [if_pos ⟨rfl,hd,hb,by rw [nowA];simp [inS],hl,hst,hn,by simp⟩]
 rfl
theorem kMode:keyG (nowD a l s w st) (.str (Str.ofString "mode"))=some (.int (s.mode:Int)):=rfl
theorem kClock:keyG (nowD a l s w st) (.str (Str.ofString "clock"))=some (.int s.clock):=rfl
theorem kAlarm:keyG (nowD a l s w st) (.str (Str.ofString "alarm"))=some s.alarmD:=rfl
theorem kLaps:keyG (nowD a l s w st) (.str (Str.ofString "laps"))=some s.lapsD:=rfl
theorem kCount:keyG (nowD a l s w st) (.str (Str.ofString "count"))=some s.countD:=rfl
theorem kRing:keyG (nowD a l s w st) (.str (Str.ofString "ring"))=some (.int s.ring):=rfl
theorem kHeld:keyG (nowD a l s w st) (.str (Str.ofString "held"))=some (heldD s.held):=rfl
theorem kIdle:keyG (nowD a l s w st) (.str (Str.ofString "idle"))=some (.int s.idle):=rfl
theorem kWent:keyG (nowD a l s w st) (.str (Str.ofString "went"))=some (.int w):=rfl
end
theorem nb1 {b:Bk} {x:Option D} {tl:R} (h:tl.all nobO=true):nobBut 1 (some b.d::x::tl)=true:=by show (nob b.d&&(true&&tl.all nobO))=true;rw [nobB,h];rfl
theorem nobWs (s:WS):nob s.d=true:=dL (qI s)
def gb:R->Option Out :=
  (seqD (asgD (op2 dMod (op2 dMul (op2 dAdd (op2 dAdd (vAt 0) (op2 dMul (fun _=>some (.int 104729)) (vAt 1))) (fun _=>some (.int 17))) (fun _=>some (.int 69621))) (fun _=>some (.int 2147483647))) (setAt 2))
  (retD (op2 dMod (op2 dAdd (op2 dAdd (op2 dMul (vAt 2) (vAt 2)) (op2 dMul (fun _=>some (.int 3)) (vAt 2))) (vAt 1)) (fun _=>some (.int 2147483629)))))
def aJ:List D->Option D:=via 2 3 gb
theorem k_:∀ ds d,aJ ds=some d->retOf (gb (beg 3 ds))=some d:=fun _ _ h=>aK h
def drawnI (n k:Int):Int:=((n+104729*k+17)*69621%2147483647*((n+104729*k+17)*69621%2147483647)+3*((n+104729*k+17)*69621%2147483647)+k)%2147483629
theorem drawn_some (n k:Int):aJ [.int n,.int k]=some (.int (drawnI n k)):=by
 unfold drawnI
 generalize hq:(n+104729*k+17)*69621%2147483647=q
 have q0:0<=q:=by rw [<- hq];exact Int.emod_nonneg _ (by decide)
 have q1:q<2147483647:=by rw [<- hq];exact Int.emod_lt_of_pos _ (by decide)
 have m1:mulFits 104729 k=true:=mulFits_l (by decide) (by decide)
 have m2:mulFits (n+104729*k+17) 69621=true:=mulFits_r (by decide) (by decide)
 have m3:mulFits q q=true:=mulFits_l (by omega) (by omega)
 have m4:mulFits 3 q=true:=mulFits_l (by decide) (by decide)
 exact viaS ((seqN (asgS (opS (opS (opS (opS rfl (opS rfl rfl (mulS m1)) rfl) rfl rfl) rfl (mulS m2)) rfl (mdS (by decide) hq)) rfl)).trans (retS (opS (opS (opS (opS rfl rfl (mulS m3)) (opS rfl rfl (mulS m4)) rfl) rfl rfl) rfl (modS (by decide)))))
theorem kR:∀ ds d,aJ ds=some d->ds.length=2:=fun _ _ h=>aw h
def iA:R->Option Out :=
  (seqD (asgD (op2 dAdd (fun _=>some (.int 1)) (op2 dMod (vAt 0) (fun _=>some (.int 8)))) (setAt 1))
  (seqD (asgD (tupD (argC (fun _=>some (.str (Str.ofString "none"))) (argC (fun _=>some (.str (Str.ofString "hour"))) (argC (fun _=>some (.str (Str.ofString "minute"))) (argC (fun _=>some (.str (Str.ofString "zero"))) (argC (fun _=>some (.str (Str.ofString "ahour"))) (argC (fun _=>some (.str (Str.ofString "aminute"))) (argC (fun _=>some (.str (Str.ofString "alarm"))) (argC (fun _=>some (.str (Str.ofString "run"))) (argC (fun _=>some (.str (Str.ofString "lap"))) (argC (fun _=>some (.str (Str.ofString "cminute"))) (argC (fun _=>some (.str (Str.ofString "csecond"))) (argC (fun _=>some (.str (Str.ofString "full"))) argN))))))))))))) (setAt 2))
  (seqD (asgD (tupD argN) (setAt 3))
  (seqD (loopD (inRng1 (vAt 1)) (setAt 4)
  (seqD (asgD (op2 dDiv (callD aJ (argC (vAt 0) (argC (vAt 4) argN))) (fun _=>some (.int 4))) (setAt 5))
  (seqD (asgD (tupD argN) (setAt 6))
  (seqD (loopD (inRng1 (fun _=>some (.int 6))) (setAt 7)
  (seqD (asgD (op2 dDiv (callD aJ (argC (vAt 5) (argC (op2 dAdd (fun _=>some (.int 10)) (vAt 7)) argN))) (fun _=>some (.int 4))) (setAt 8))
  (asgD (op2 dAdd (vAt 6) (tupD (argC (tupD (argC (op2 dIx (op2 dAdd (vAt 2) (tupD (argC (fun _=>some (.str (Str.ofString "count"))) argN))) (op2 dMod (vAt 8) (fun _=>some (.int 13)))) (argC (op2 dMod (op2 dDiv (vAt 8) (fun _=>some (.int 16))) (vAt 1)) argN))) argN))) (setAt 6))))
  (seqD (asgD (op2 dIx (tupD (argC (fun _=>some (.str (Str.ofString "time"))) (argC (fun _=>some (.str (Str.ofString "alarm"))) (argC (fun _=>some (.str (Str.ofString "laps"))) (argC (fun _=>some (.str (Str.ofString "count"))) argN))))) (op2 dMod (vAt 5) (fun _=>some (.int 4)))) (setAt 9))
  (asgD (op2 dAdd (vAt 3) (tupD (argC (tupD (argC (vAt 9) (argC (asV (cmp2 cEq (op2 dMod (op2 dDiv (vAt 5) (fun _=>some (.int 4))) (fun _=>some (.int 2))) (fun _=>some (.int 0)))) (argC (vAt 6) argN)))) argN))) (setAt 3)))))))
  (retD (tupD (argC (op2 dAdd (fun _=>some (.int 1)) (op2 dMod (op2 dDiv (vAt 0) (fun _=>some (.int 8))) (op2 dIx (tupD (argC (fun _=>some (.int 3)) (argC (fun _=>some (.int 9)) argN))) (op2 dMod (op2 dDiv (vAt 0) (fun _=>some (.int 128))) (fun _=>some (.int 2)))))) (argC (op2 dIx (tupD (argC (fun _=>some (.int 0)) (argC (fun _=>some (.int 7)) (argC (fun _=>some (.int 60)) (argC (fun _=>some (.int 1)) (argC (fun _=>some (.int 20)) argN)))))) (op2 dMod (op2 dDiv (vAt 0) (fun _=>some (.int 256))) (fun _=>some (.int 5)))) (argC (vAt 3) argN)))))))))
def ca:List D->Option D:=via 1 10 iA
theorem lE:∀ ds d,ca ds=some d->retOf (iA (beg 10 ds))=some d:=fun _ _ h=>aK h
def deeds12:List D:=[.str (Str.ofString "none"),.str (Str.ofString "hour"),.str (Str.ofString "minute"),.str (Str.ofString "zero"),.str (Str.ofString "ahour"),.str (Str.ofString "aminute"),.str (Str.ofString "alarm"),.str (Str.ofString "run"),.str (Str.ofString "lap"),.str (Str.ofString "cminute"),.str (Str.ofString "csecond"),.str (Str.ofString "full")]
theorem deeds_in:∀ x∈deeds,oneOf x deeds=true/\Fits x:=by
 intro x hx
 simp only [deeds,List.mem_cons,List.not_mem_nil,or_false] at hx
 rcases hx with h | h | h | h | h | h | h | h | h | h | h | h | h<;>subst h<;>exact ⟨by decide,.str _⟩
theorem faces_in:∀ x∈faces,oneOf x faces=true/\Fits x:=by
 intro x hx
 simp only [faces,List.mem_cons,List.not_mem_nil,or_false] at hx
 rcases hx with h | h | h | h<;>subst h<;>exact ⟨by decide,.str _⟩
def turnRow:R->Option Out:=(seqD (asgD (op2 dDiv (callD aJ (argC (vAt 5) (argC (op2 dAdd (fun _=>some (.int 10)) (vAt 7)) argN))) (fun _=>some (.int 4))) (setAt 8))
 (asgD (op2 dAdd (vAt 6) (tupD (argC (tupD (argC (op2 dIx (op2 dAdd (vAt 2) (tupD (argC (fun _=>some (.str (Str.ofString "count"))) argN))) (op2 dMod (vAt 8) (fun _=>some (.int 13)))) (argC (op2 dMod (op2 dDiv (vAt 8) (fun _=>some (.int 16))) (vAt 1)) argN))) argN))) (setAt 6)))
theorem sz {n:Nat} (h:n<=1000):n<=sizeLine:=Nat.le_trans h (by decide)
theorem rD {N m:Int} {ms rs:List D} {a b f:Option D} {q j:Int} (hm:0<m) (hr:rs.length<=100) (hk:∀ x∈rs,rowOk x m=true/\Fits x) :
  ∃ o r,turnRow [some (.int N),some (.int m),some (.tup deeds12),some (.tup ms),a,some (.int q),some (.tup rs),some (.int j),b,f]=some (.nx [some (.int N),some (.int m),some (.tup deeds12),some (.tup ms),a,some (.int q),some (.tup (rs++[r])),some (.int j),o,f])/\rowOk r m=true/\Fits r:=by
 generalize hz:drawnI q (10+j) / 4=z
 obtain ⟨x,hx,hat⟩:=atD_some (xs:=deeds) (i:=z%13) (Int.emod_nonneg _ (by decide)) (Int.emod_lt_of_pos _ (by decide))
 have w0:0<=z / 16%m:=Int.emod_nonneg _ (by omega)
 have w1:z / 16%m<m:=Int.emod_lt_of_pos _ hm
 have hl:rs.length+1<=sizeLine:=sz (by omega)
 have hd:deeds12++[.str (Str.ofString "count")]=deeds:=rfl
 have hs:deeds12.length+1<=sizeLine:=by decide
 refine ⟨some (.int z),.tup [x,.int (z / 16%m)],?_,?_,?_⟩
 ·have ha:dAdd (.tup deeds12) (.tup [.str (Str.ofString "count")])=some (.tup deeds):=by
   show (if deeds12.length+1<=sizeLine then some (D.tup (deeds12++[.str (Str.ofString "count")])) else none)=_
   rw [if_pos hs,hd]
  have hb:dAdd (.tup rs) (.tup [.tup [x,.int (z / 16%m)]])=some (.tup (rs++[.tup [x,.int (z / 16%m)]])):=by
   show (if rs.length+1<=sizeLine then _ else none)=_
   rw [if_pos hl]
  have hv:dDiv (.int (drawnI q (10+j))) (.int 4)=some (.int z):=by rw [<- hz];rfl
  exact (seqN (asgS (opS (callS (arS rfl (arS (opS rfl rfl rfl) rfl)) (drawn_some _ _)) rfl hv) rfl)).trans (asgS (opS rfl (tupS (arS (tupS (arS (opS (opS rfl rfl ha) (opS rfl rfl (modS (by decide))) hat) (arS (opS (opS rfl rfl rfl) rfl (modS hm)) rfl))) rfl)) hb) rfl)
 ·simp [rowOk,(deeds_in x hx).1,within,w0]
  omega
 ·exact .tup (by simp) (by
   intro y hy
   simp at hy
   rcases hy with h | h<;>subst h
   ·exact (deeds_in _ hx).2
   ·exact .int _)
def turnMode:R->Option Out:=(seqD (asgD (op2 dDiv (callD aJ (argC (vAt 0) (argC (vAt 4) argN))) (fun _=>some (.int 4))) (setAt 5))
  (seqD (asgD (tupD argN) (setAt 6))
  (seqD (loopD (inRng1 (fun _=>some (.int 6))) (setAt 7) turnRow)
  (seqD (asgD (op2 dIx (tupD (argC (fun _=>some (.str (Str.ofString "time"))) (argC (fun _=>some (.str (Str.ofString "alarm"))) (argC (fun _=>some (.str (Str.ofString "laps"))) (argC (fun _=>some (.str (Str.ofString "count"))) argN))))) (op2 dMod (vAt 5) (fun _=>some (.int 4)))) (setAt 9))
  (asgD (op2 dAdd (vAt 3) (tupD (argC (tupD (argC (vAt 9) (argC (asV (cmp2 cEq (op2 dMod (op2 dDiv (vAt 5) (fun _=>some (.int 4))) (fun _=>some (.int 2))) (fun _=>some (.int 0)))) (argC (vAt 6) argN)))) argN))) (setAt 3))))))
def Rows6 (N m q:Int) (ms:List D) (a f:Option D) (i:Nat) (ρ:R):Prop:=∃ rs o j,ρ=[some (.int N),some (.int m),some (.tup deeds12),some (.tup ms),a,some (.int q),some (.tup rs),j,o,f]/\rs.length=i/\∀ x∈rs,rowOk x m=true/\Fits x
theorem pX {N m q:Int} {ms:List D} {a b c f:Option D} (hm:0<m) :
  ∃ rs o j,forD (setAt 7) turnRow (rngD 0 6) [some (.int N),some (.int m),some (.tup deeds12),some (.tup ms),a,some (.int q),some (.tup []),b,c,f]=some (.nx [some (.int N),some (.int m),some (.tup deeds12),some (.tup ms),a,some (.int q),some (.tup rs),j,o,f])/\rs.length=6/\∀ x∈rs,rowOk x m=true/\Fits x:=by
 obtain ⟨ρ',h1,rs,o,j,h2,h3,h4⟩:=forD_inv (st:=setAt 7) (body:=turnRow) (Rows6 N m q ms a f) (rngD 0 6) 0 [some (.int N),some (.int m),some (.tup deeds12),some (.tup ms),a,some (.int q),some (.tup []),b,c,f]
  ⟨[],c,b,rfl,rfl,fun x hx=>nomatch hx⟩ (fun i d ρ e p=>by
   obtain ⟨rs,o,j,rfl,hl,hk⟩:=p
   obtain ⟨rfl,hi⟩:=gj e
   obtain ⟨o',r,h1,h2,h3⟩:=rD (N:=N) (ms:=ms) (a:=a) (b:=o) (f:=f) (q:=q) (j:=(i:Int)) hm (rs:=rs) (by omega) hk
   refine ⟨_,_,rfl,h1,rs++[r],o',_,rfl,by simp [hl],fun x hx=>?_⟩
   rcases List.mem_append.mp hx with hx | hx
   ·exact hk x hx
   ·cases List.mem_singleton.mp hx
    exact ⟨h2,h3⟩)
 subst h2
 refine ⟨rs,o,j,h1,?_,h4⟩
 rw [h3,fD]
 rfl
theorem qE {N m:Int} {ms:List D} {k:Int} {a b c d e:Option D} (hm:0<m) (hms:ms.length<=100) :
  ∃ r o1 o2 o3 o4 o5,turnMode [some (.int N),some (.int m),some (.tup deeds12),some (.tup ms),some (.int k),a,b,c,d,e]=some (.nx [some (.int N),some (.int m),some (.tup deeds12),some (.tup (ms++[r])),some (.int k),o1,o2,o3,o4,o5])/\modeOk r m=true/\Fits r:=by
 generalize hq:drawnI N k / 4=q
 obtain ⟨rs,o,j,h1,h2,h3⟩:=pX (N:=N) (m:=m) (q:=q) (ms:=ms) (a:=some (.int k)) (b:=c) (c:=d) (f:=e) hm
 obtain ⟨x,hx,hat⟩:=atD_some (xs:=faces) (i:=q%4) (Int.emod_nonneg _ (by decide)) (Int.emod_lt_of_pos _ (by decide))
 have hl:ms.length+1<=sizeLine:=sz (by omega)
 refine ⟨.tup [x,.bl (q / 4%2==0),.tup rs],some (.int q),some (.tup rs),j,o,some x,?_,?_,?_⟩
 rotate_left 1
 ·have ha:(rs.all fun y=>rowOk y m)=true:=List.all_eq_true.mpr fun y hy=>(h3 y hy).1
  simp [modeOk,(faces_in x hx).1,rowsOk,h2,ha]
 ·refine .tup (by simp) fun y hy=>?_
  simp at hy
  rcases hy with h | h | h<;>subst h
  ·exact (faces_in _ hx).2
  ·exact .bl _
  ·exact .tup (by omega) fun y hy=>(h3 y hy).2
 ·have hat':atD [.str (Str.ofString "time"),.str (Str.ofString "alarm"),.str (Str.ofString "laps"),.str (Str.ofString "count")] (q%4)=some x:=hat
  have hb:dAdd (.tup ms) (.tup [.tup [x,.bl (q / 4%2==0),.tup rs]])=some (.tup (ms++[.tup [x,.bl (q / 4%2==0),.tup rs]])):=by
   show (if ms.length+1<=sizeLine then _ else none)=_
   rw [if_pos hl]
  have hv:dDiv (.int (drawnI N k)) (.int 4)=some (.int q):=by rw [<- hq];rfl
  exact (seqN (asgS (opS (callS (arS rfl rfl) (drawn_some _ _)) rfl hv) rfl)).trans ((seqN (asgS (tupS rfl) rfl)).trans ((seqN (loop_of (ds:=rngD 0 6) rfl h1)).trans ((seqN (asgS (opS rfl (opS rfl rfl (modS (by decide))) hat') rfl)).trans
   (asgS (opS rfl (tupS (arS (tupS (arS rfl (arS (asS (cmS (opS (opS rfl rfl rfl) rfl (modS (by decide))) rfl rfl)) rfl))) rfl)) hb) rfl))))
def Modes (N m:Int) (i:Nat) (ρ:R):Prop:=∃ ms a b c d e f,ρ=[some (.int N),some (.int m),some (.tup deeds12),some (.tup ms),a,b,c,d,e,f]/\ms.length=i/\∀ x∈ms,modeOk x m=true/\Fits x
theorem qB (N:Int):∃ b,ca [.int N]=some b/\bookOk b=true/\Fits b:=by
 generalize hM:1+N%8=m
 have hm0:0<m:=by have:=Int.emod_nonneg N (show (8:Int)≠0 by decide);omega
 have hm8:m<=8:=by have:=Int.emod_lt_of_pos N (show (0:Int)<8 by decide);omega
 obtain ⟨ρ',h1,ms,a,b,c,d,e,f,h2,h3,h4⟩:=forD_inv (st:=setAt 4) (body:=turnMode) (Modes N m) (rngD 0 m) 0 [some (.int N),some (.int m),some (.tup deeds12),some (.tup []),none,none,none,none,none,none]
  ⟨[],none,none,none,none,none,none,rfl,rfl,fun x hx=>nomatch hx⟩ (fun i d ρ e p=>by
   obtain ⟨ms,a,b,c,d',e',f,rfl,hl,hk⟩:=p
   obtain ⟨rfl,hi⟩:=gj e
   obtain ⟨r,o1,o2,o3,o4,o5,h1,h2,h3⟩:=qE (N:=N) (ms:=ms) (k:=(i:Int)) (a:=b) (b:=c) (c:=d') (d:=e') (e:=f) hm0 (by omega)
   refine ⟨_,_,rfl,h1,ms++[r],_,_,_,_,_,_,rfl,by simp [hl],fun x hx=>?_⟩
   rcases List.mem_append.mp hx with hx | hx
   ·exact hk x hx
   ·cases List.mem_singleton.mp hx
    exact ⟨h2,h3⟩)
 subst h2
 rw [fD] at h3
 have hlen:((ms.length:Nat):Int)=m:=by omega
 have hr : -4611686018427387904<=m/\m<4611686018427387904:=by omega
 obtain ⟨p,hp,hat⟩:=atD_some (xs:=[.int 3,.int 9]) (i:=N / 128%2) (Int.emod_nonneg _ (by decide)) (Int.emod_lt_of_pos _ (by decide))
 have hp':∃ v:Int,p=.int v/\0<v/\v<=9:=by
  simp at hp
  rcases hp with h | h<;>subst h
  ·exact ⟨3,rfl,by decide,by decide⟩
  ·exact ⟨9,rfl,by decide,by decide⟩
 obtain ⟨v,rfl,hv0,hv9⟩:=hp'
 obtain ⟨p2,hp2,hat2⟩:=atD_some (xs:=[.int 0,.int 7,.int 60,.int 1,.int 20]) (i:=N / 256%5) (Int.emod_nonneg _ (by decide)) (Int.emod_lt_of_pos _ (by decide))
 have hp2':∃ v:Int,p2=.int v/\0<=v/\v<=60:=by
  simp at hp2
  rcases hp2 with h | h | h | h | h<;>subst h
  ·exact ⟨0,rfl,by decide,by decide⟩
  ·exact ⟨7,rfl,by decide,by decide⟩
  ·exact ⟨60,rfl,by decide,by decide⟩
  ·exact ⟨1,rfl,by decide,by decide⟩
  ·exact ⟨20,rfl,by decide,by decide⟩
 obtain ⟨v2,rfl,hv20,hv260⟩:=hp2'
 have w0:0<=N / 8%v:=Int.emod_nonneg _ (by omega)
 have w1:N / 8%v<v:=Int.emod_lt_of_pos _ hv0
 refine ⟨.tup [.int (1+N / 8%v),.int v2,.tup ms],?_,?_,?_⟩
 ·have hi:inRng1 (vAt 1) [some (.int N),some (.int m),some (.tup deeds12),some (.tup []),none,none,none,none,none,none]=some (rngD 0 m):=by
   show (if -4611686018427387904<=m/\m<4611686018427387904 then some (rngD 0 m) else none)=_
   rw [if_pos hr]
  have h0:dAdd (.int 1) (.int (N%8))=some (.int m):=by rw [<- hM];rfl
  exact viaS ((seqN (asgS (opS rfl (opS rfl rfl (modS (by decide))) h0) rfl)).trans ((seqN (asgS rfl rfl)).trans ((seqN (asgS (tupS rfl) rfl)).trans ((seqN (loop_of hi h1)).trans (retS (tupS (arS (opS rfl (opS (opS rfl rfl rfl) (opS rfl (opS (opS rfl rfl rfl) rfl (modS (by decide))) hat) (modS hv0)) rfl) (arS (opS rfl (opS (opS rfl rfl rfl) rfl (modS (by decide))) hat2) rfl))))))))
 ·have ha:(ms.all fun y=>modeOk y ms.length)=true:=List.all_eq_true.mpr fun y hy=>by rw [hlen];exact (h4 y hy).1
  have g1:1<=ms.length:=by omega
  have g8:ms.length<=8:=by omega
  simp [bookOk,within,modesOk,ha,g1,g8]
  omega
 ·refine .tup (by simp) fun y hy=>?_
  simp at hy
  rcases hy with h | h | h<;>subst h
  ·exact .int _
  ·exact .int _
  ·exact .tup (by omega) fun y hy=>(h4 y hy).2
theorem lJ:∀ ds d,ca ds=some d->ds.length=1:=fun _ _ h=>aw h
def fh:R->Option Out :=
  (seqD (ifD (cmp2 cLt (vAt 1) (callD fLen (argC (vAt 0) argN)))
  (retD (op2 dIx (vAt 0) (vAt 1)))
  nextD)
  (retD (fun _=>some (.int 0))))
def bF:List D->Option D:=via 2 2 fh
theorem iZ:∀ ds d,bF ds=some d->retOf (fh (beg 2 ds))=some d:=fun _ _ h=>aK h
theorem jE:∀ ds d,bF ds=some d->ds.length=2:=fun _ _ h=>aw h
theorem cell_some (ns:List Int) (k:Int) (h0:0<=k):∃ c,bF [.fro (ns.map .int),.int k]=some (.int c):=by
 obtain ⟨n,rfl⟩:=Int.eq_ofNat_of_zero_le h0
 by_cases h1:(n:Int)<((ns.map D.int).length:Int)
 ·have h2:n<(ns.map D.int).length:=Int.ofNat_lt.mp h1
  have h3:n<ns.length:=by rw [List.length_map] at h2;exact h2
  refine ⟨ns[n],viaS (seqR ((ifT (cmS rfl (callS (F:=fLen) rfl rfl) (dT h1))).trans (retS (opS rfl rfl ?_))))⟩
  exact (atD_nat h2).trans (by rw [List.getElem_map])
 ·exact ⟨0,viaS ((seqN (ifF (cmS rfl (callS (F:=fLen) rfl rfl) (dF h1)))).trans (retS rfl))⟩
def gI:R->Option Out :=
  (seqD (asgD (op2 dMod (op2 dMul (op2 dAdd (op2 dAdd (callD bF (argC (vAt 0) (argC (vAt 1) argN))) (op2 dMul (fun _=>some (.int 7919)) (vAt 1))) (fun _=>some (.int 1))) (fun _=>some (.int 48271))) (fun _=>some (.int 2147483647))) (setAt 2))
  (retD (op2 dMod (op2 dAdd (op2 dAdd (op2 dMul (vAt 2) (vAt 2)) (op2 dMul (fun _=>some (.int 7)) (vAt 2))) (vAt 1)) (fun _=>some (.int 2147483629)))))
def bA:List D->Option D:=via 2 3 gI
theorem li:∀ ds d,bA ds=some d->retOf (gI (beg 3 ds))=some d:=fun _ _ h=>aK h
theorem mixed_some (ns:List Int) (k:Int) (h0:0<=k):∃ m,bA [.fro (ns.map .int),.int k]=some (.int m)/\0<=m:=by
 obtain ⟨c,hc⟩:=cell_some ns k h0
 generalize hq:(c+7919*k+1)*48271%2147483647=q
 have q0:0<=q:=by rw [<- hq];exact Int.emod_nonneg _ (by decide)
 have q1:q<2147483647:=by rw [<- hq];exact Int.emod_lt_of_pos _ (by decide)
 have m1:mulFits 7919 k=true:=mulFits_l (by decide) (by decide)
 have m2:mulFits (c+7919*k+1) 48271=true:=mulFits_r (by decide) (by decide)
 have m3:mulFits q q=true:=mulFits_l (by omega) (by omega)
 have m4:mulFits 7 q=true:=mulFits_l (by decide) (by decide)
 refine ⟨(q*q+7*q+k)%2147483629,?_,Int.emod_nonneg _ (by decide)⟩
 exact viaS ((seqN (asgS (opS (opS (opS (opS (callS rfl hc) (opS rfl rfl (mulS m1)) rfl) rfl rfl) rfl (mulS m2)) rfl (mdS (by decide) hq)) rfl)).trans (retS (opS (opS (opS (opS rfl rfl (mulS m3)) (opS rfl rfl (mulS m4)) rfl) rfl rfl) rfl (modS (by decide)))))
theorem kZ:∀ ds d,bA ds=some d->ds.length=2:=fun _ _ h=>aw h
def gn:R->Option Out :=
  (seqD (asgD (op2 dIx (fun _=>some (.str (Str.ofString "abcaab"))) (op2 dMod (op2 dDiv (vAt 0) (fun _=>some (.int 8))) (fun _=>some (.int 6)))) (setAt 1))
  (seqD (asgD (op2 dMod (vAt 0) (fun _=>some (.int 8))) (setAt 2))
  (seqD (ifD (cmp2 cLt (vAt 2) (fun _=>some (.int 3)))
  (retD (tupD (argC (fun _=>some (.str (Str.ofString "down"))) (argC (vAt 1) argN))))
  nextD)
  (seqD (ifD (cmp2 cLt (vAt 2) (fun _=>some (.int 6)))
  (retD (tupD (argC (fun _=>some (.str (Str.ofString "up"))) (argC (vAt 1) argN))))
  nextD)
  (retD (tupD (argC (fun _=>some (.str (Str.ofString "ticks"))) (argC (op2 dAdd (fun _=>some (.int 1)) (op2 dMod (op2 dDiv (vAt 0) (fun _=>some (.int 64))) (op2 dIx (tupD (argC (fun _=>some (.int 4)) (argC (fun _=>some (.int 12)) (argC (fun _=>some (.int 130)) argN)))) (op2 dMod (op2 dDiv (vAt 0) (fun _=>some (.int 4096))) (fun _=>some (.int 3)))))) argN))))))))
def bC:List D->Option D:=via 1 3 gn
theorem ky:∀ ds d,bC ds=some d->retOf (gn (beg 3 ds))=some d:=fun _ _ h=>aK h
theorem lu:∀ ds d,bC ds=some d->ds.length=1:=fun _ _ h=>aw h
def evMost:Ev->Prop
 | .ticks n=>n<=130
 | _=>True
def Ev.Lt (e:Ev):Prop:=e.Ok/\evMost e
theorem btn6 {i:Int} (h0:0<=i) (h1:i<6):∃ x:Btn,dIx (.str (Str.ofString "abcaab")) (.int i)=some (.str x.x):=by
 have:i=0\/i=1\/i=2\/i=3\/i=4\/i=5:=by omega
 rcases this with rfl | rfl | rfl | rfl | rfl | rfl
 ·exact ⟨.a,rfl⟩
 ·exact ⟨.b,rfl⟩
 ·exact ⟨.c,rfl⟩
 ·exact ⟨.a,rfl⟩
 ·exact ⟨.a,rfl⟩
 ·exact ⟨.b,rfl⟩
theorem tick3 {i:Int} (h0:0<=i) (h1:i<3):∃ t:Int,dIx (.tup [.int 4,.int 12,.int 130]) (.int i)=some (.int t)/\0<t/\t<=130:=by
 have:i=0\/i=1\/i=2:=by omega
 rcases this with rfl | rfl | rfl
 ·exact ⟨4,rfl,by decide,by decide⟩
 ·exact ⟨12,rfl,by decide,by decide⟩
 ·exact ⟨130,rfl,by decide,by decide⟩
theorem event_some (n:Int):∃ e:Ev,bC [.int n]=some e.d/\e.Lt:=by
 obtain ⟨x,hx⟩:=btn6 (i:=n / 8%6) (by omega) (by omega)
 by_cases h1:n%8<3
 ·exact ⟨.down x,viaS ((seqN (asgS (opS rfl (opS (opS rfl rfl rfl) rfl (modS (by decide))) hx) rfl)).trans ((seqN (asgS (opS rfl rfl (modS (by decide))) rfl)).trans (seqR ((ifT (cmS rfl rfl (dT h1))).trans (retS rfl))))),trivial,trivial⟩
 ·by_cases h2:n%8<6
  ·exact ⟨.up x,viaS ((seqN (asgS (opS rfl (opS (opS rfl rfl rfl) rfl (modS (by decide))) hx) rfl)).trans ((seqN (asgS (opS rfl rfl (modS (by decide))) rfl)).trans ((seqN (ifF (cmS rfl rfl (dF h1)))).trans (seqR ((ifT (cmS rfl rfl (dT h2))).trans (retS rfl)))))),trivial,trivial⟩
  ·obtain ⟨t,ht,t0,t1⟩:=tick3 (i:=n / 4096%3) (by omega) (by omega)
   have hm:=Int.emod_nonneg (n / 64) (show t≠0 by omega)
   have hm2:=Int.emod_lt_of_pos (n / 64) t0
   exact ⟨.ticks (1+n / 64%t),viaS ((seqN (asgS (opS rfl (opS (opS rfl rfl rfl) rfl (modS (by decide))) hx) rfl)).trans ((seqN (asgS (opS rfl rfl (modS (by decide))) rfl)).trans ((seqN (ifF (cmS rfl rfl (dF h1)))).trans ((seqN (ifF (cmS rfl rfl (dF h2)))).trans (retS (tupS (arS rfl (arS (opS rfl (opS (opS rfl rfl rfl) (opS rfl (opS (opS rfl rfl rfl) rfl (modS (by decide))) ht) (modS t0)) rfl) rfl)))))))),by show 1<=_;omega,by show _<=130;omega⟩
def dZ:R->Option Out :=
 (retD (callD fTuple (argC (lcD 1 (inRng1 (op2 dMod (vAt 0) (op2 dAdd (vAt 1) (fun _=>some (.int 1))))) (setAt 0) yesT (callD bC (argC (op2 dDiv (callD aJ (argC (vAt 1) (argC (op2 dAdd (fun _=>some (.int 40)) (vAt 0)) argN))) (fun _=>some (.int 4))) argN))) argN)))
def cx:List D->Option D:=via 2 2 dZ
theorem nk:∀ ds d,cx ds=some d->retOf (dZ (beg 2 ds))=some d:=fun _ _ h=>aK h
theorem nP:∀ ds d,cx ds=some d->ds.length=2:=fun _ _ h=>aw h
theorem rj (n m:Int) (hm:0<=m) (hm2:m<=100):∃ es:List Ev,cx [.int n,.int m]=some (.tup (es.map Ev.d))/\(∀ e∈es,e.Lt)/\es.length<=m.toNat:=by
 have hk0:=Int.emod_nonneg n (show m+1≠0 by omega)
 have hk1:=Int.emod_lt_of_pos n (show 0<m+1 by omega)
 have hp:0<m+1:=by omega
 have key:∀ (ds:List D) (ρ:R),(∀ d∈ds,∃ i:Int,d=.int i)->∃ es:List Ev,compD (setAt 0) yesT (callD bC (argC (op2 dDiv (callD aJ (argC (vAt 1) (argC (op2 dAdd (fun _=>some (.int 40)) (vAt 0)) argN))) (fun _=>some (.int 4))) argN)) ds (none::some (.int n)::ρ)=some (es.map Ev.d)/\(∀ e∈es,e.Lt)/\es.length=ds.length:=by
  intro ds ρ
  induction ds with
  | nil=>intro _;exact ⟨[],rfl,(fun _ h=>by cases h),rfl⟩
  | cons d ds ih =>
   intro h
   obtain ⟨i,rfl⟩:=h d List.mem_cons_self
   obtain ⟨es,h1,h2,h3⟩:=ih fun x hx=>h x (List.mem_cons_of_mem _ hx)
   obtain ⟨e,e1,e2⟩:=event_some (drawnI n (40+i) / 4)
   refine ⟨e::es,?_,?_,by simp [h3]⟩
   ·simp [compD,drawn_some,e1] at h1 ⊢
    rw [h1]
   ·intro x hx
    rcases List.mem_cons.mp hx with rfl | hx
    ·exact e2
    ·exact h2 x hx
 obtain ⟨es,h1,h2,h3⟩:=key (rngD 0 (n%(m+1))) [some (.int m)] (fun d hd=>by
  obtain ⟨i,hi⟩:=List.mem_iff_getElem?.mp hd
  obtain ⟨rfl,_⟩:=gj hi
  exact ⟨_,rfl⟩)
 rw [fD] at h3
 have hz:(rngD 0 (n%(m+1))).length<=sizeLine:=by rw [fD];exact Nat.le_trans (show (n%(m+1)).toNat<=1000 by omega) (by decide)
 refine ⟨es,?_,h2,by rw [h3];omega⟩
 have hr : -(2 ^ 62:Int)<=n%(m+1)/\n%(m+1)<2 ^ 62:=by omega
 have hlc:lcD 1 (inRng1 (op2 dMod (vAt 0) (op2 dAdd (vAt 1) (fun _=>some (.int 1))))) (setAt 0) yesT (callD bC (argC (op2 dDiv (callD aJ (argC (vAt 1) (argC (op2 dAdd (fun _=>some (.int 40)) (vAt 0)) argN))) (fun _=>some (.int 4))) argN)) [some (.int n),some (.int m)]=some (.lst (es.map Ev.d)):=by
  have hi:inRng1 (op2 dMod (vAt 0) (op2 dAdd (vAt 1) (fun _=>some (.int 1)))) [some (.int n),some (.int m)]=some (rngD 0 (n%(m+1))):=by
   show (if 0<m+1 then some (D.int (n%(m+1))) else none).bind _=_
   rw [if_pos hp]
   show (if -(2 ^ 62:Int)<=n%(m+1)/\n%(m+1)<2 ^ 62 then some (rngD 0 (n%(m+1))) else none)=_
   rw [if_pos hr]
  unfold lcD
  rw [hi]
  show (if (rngD 0 (n%(m+1))).length<=sizeLine then _ else none)=_
  rw [if_pos hz]
  show (compD _ _ _ _ (none::some (.int n)::[some (.int m)])).map _=_
  rw [h1]
  rfl
 show (if (2:Nat)=2 then retOf (dZ [some (.int n),some (.int m)]) else none)=_
 rw [if_pos rfl]
 unfold dZ
 simp only [retD,callD,argC,argN,hlc]
 rfl
def dz:R->Option Out :=
 (asgD (lcD 1 (inRng1 (fun _=>some (.int 9))) (setAt 0) yesT (op2 dDiv (callD aJ (argC (vAt 2) (argC (vAt 0) argN))) (fun _=>some (.int 4)))) (setAt 2))
def e_:R->Option Out :=
 (asgD (op2 dIx (tupD (argC (op2 dMod (op2 dIx (vAt 2) (fun _=>some (.int 0))) (fun _=>some (.int 86400))) (argC (op2 dSub (fun _=>some (.int 86399)) (op2 dMod (op2 dIx (vAt 2) (fun _=>some (.int 0))) (fun _=>some (.int 90)))) (argC (op2 dMod (op2 dIx (vAt 2) (fun _=>some (.int 0))) (fun _=>some (.int 90))) argN)))) (op2 dMod (op2 dIx (vAt 2) (fun _=>some (.int 1))) (fun _=>some (.int 3)))) (setAt 3))
def eZ:R->Option Out :=
 (asgD (op2 dMod (op2 dAdd (op2 dDiv (vAt 3) (fun _=>some (.int 60))) (op2 dMod (op2 dIx (vAt 2) (fun _=>some (.int 2))) (fun _=>some (.int 4)))) (fun _=>some (.int 1440))) (setAt 4))
def fc:R->Option Out :=
 (asgD (tupD (argC (op2 dDiv (vAt 4) (fun _=>some (.int 60))) (argC (op2 dMod (vAt 4) (fun _=>some (.int 60))) (argC (asV (cmp2 cEq (op2 dMod (op2 dIx (vAt 2) (fun _=>some (.int 3))) (fun _=>some (.int 2))) (fun _=>some (.int 0)))) argN)))) (setAt 5))
def fu:R->Option Out :=
  (ifD (cmp2 cEq (op2 dMod (op2 dDiv (op2 dIx (vAt 2) (fun _=>some (.int 3))) (fun _=>some (.int 2))) (fun _=>some (.int 3))) (fun _=>some (.int 0)))
  (asgD (tupD (argC (op2 dMod (op2 dIx (vAt 2) (fun _=>some (.int 2))) (fun _=>some (.int 24))) (argC (op2 dMod (op2 dDiv (op2 dIx (vAt 2) (fun _=>some (.int 2))) (fun _=>some (.int 24))) (fun _=>some (.int 60))) (argC (asV (cmp2 cEq (op2 dMod (op2 dIx (vAt 2) (fun _=>some (.int 3))) (fun _=>some (.int 2))) (fun _=>some (.int 0)))) argN)))) (setAt 5))
  nextD)
def fg:R->Option Out :=
 (asgD (callD fTuple (argC (lcD 1 (inRng1 (op2 dMod (op2 dIx (vAt 2) (fun _=>some (.int 4))) (fun _=>some (.int 5)))) (setAt 0) yesT (op2 dMod (op2 dDiv (callD aJ (argC (op2 dIx (vAt 3) (fun _=>some (.int 4))) (argC (vAt 0) argN))) (fun _=>some (.int 4))) (fun _=>some (.int 400)))) argN)) (setAt 6))
def eY:R->Option Out :=
 (asgD (tupD (argC (op2 dMod (op2 dDiv (op2 dIx (vAt 2) (fun _=>some (.int 4))) (fun _=>some (.int 8))) (op2 dIx (tupD (argC (fun _=>some (.int 9999)) (argC (fun _=>some (.int 60)) argN))) (op2 dMod (op2 dDiv (op2 dIx (vAt 2) (fun _=>some (.int 4))) (fun _=>some (.int 65536))) (fun _=>some (.int 2))))) (argC (asV (cmp2 cEq (op2 dMod (op2 dDiv (op2 dIx (vAt 2) (fun _=>some (.int 4))) (fun _=>some (.int 131072))) (fun _=>some (.int 2))) (fun _=>some (.int 0)))) (argC (vAt 6) argN)))) (setAt 7))
def eS:R->Option Out :=
 (asgD (op2 dMod (op2 dIx (vAt 2) (fun _=>some (.int 5))) (op2 dIx (tupD (argC (fun _=>some (.int 3600)) (argC (fun _=>some (.int 20)) (argC (fun _=>some (.int 1)) argN)))) (op2 dMod (op2 dDiv (op2 dIx (vAt 2) (fun _=>some (.int 5))) (fun _=>some (.int 4096))) (fun _=>some (.int 3))))) (setAt 8))
def fo:R->Option Out :=
 (asgD (tupD (argC (op2 dMod (op2 dDiv (op2 dIx (vAt 2) (fun _=>some (.int 5))) (fun _=>some (.int 16384))) (fun _=>some (.int 60))) (argC (op2 dMod (op2 dIx (vAt 2) (fun _=>some (.int 6))) (fun _=>some (.int 60))) (argC (vAt 8) (argC (andV (asV (cmp2 cGt (vAt 8) (fun _=>some (.int 0)))) (asV (cmp2 cGt (op2 dMod (op2 dDiv (op2 dIx (vAt 2) (fun _=>some (.int 6))) (fun _=>some (.int 64))) (fun _=>some (.int 3))) (fun _=>some (.int 0))))) argN))))) (setAt 9))
def eJ:R->Option Out :=
 (asgD (fun _=>some .non) (setAt 10))
def eG:R->Option Out :=
  (ifD (cmp2 cEq (op2 dMod (op2 dIx (vAt 2) (fun _=>some (.int 7))) (fun _=>some (.int 3))) (fun _=>some (.int 0)))
  (seqD (asgD (tupD (argC (op2 dIx (fun _=>some (.str (Str.ofString "abc"))) (op2 dMod (op2 dDiv (op2 dIx (vAt 2) (fun _=>some (.int 7))) (fun _=>some (.int 4))) (fun _=>some (.int 3)))) (argC (op2 dMod (op2 dDiv (op2 dIx (vAt 2) (fun _=>some (.int 7))) (fun _=>some (.int 16))) (op2 dIx (vAt 0) (fun _=>some (.int 0)))) argN))) (setAt 10))
  (ifD (cmp2 cEq (op2 dMod (op2 dDiv (op2 dIx (vAt 2) (fun _=>some (.int 7))) (fun _=>some (.int 256))) (fun _=>some (.int 3))) (fun _=>some (.int 0)))
  (asgD (tupD (argC (op2 dIx (vAt 10) (fun _=>some (.int 0))) (argC (fun _=>some .non) argN))) (setAt 10))
  nextD))
  nextD)
def eC:R->Option Out :=
 (asgD (op2 dMul (op2 dMod (op2 dIx (vAt 2) (fun _=>some (.int 8))) (fun _=>some (.int 11))) (op2 dMod (op2 dDiv (op2 dIx (vAt 2) (fun _=>some (.int 8))) (fun _=>some (.int 16))) (fun _=>some (.int 2)))) (setAt 11))
def eL:R->Option Out :=
 (asgD (op2 dMod (op2 dDiv (op2 dIx (vAt 2) (fun _=>some (.int 8))) (fun _=>some (.int 64))) (callD fMax (argC (fun _=>some (.int 1)) (argC (op2 dIx (vAt 0) (fun _=>some (.int 1))) argN)))) (setAt 12))
def eE:R->Option Out :=
 (retD (tupD (argC (op2 dMod (op2 dDiv (op2 dIx (vAt 2) (fun _=>some (.int 6))) (fun _=>some (.int 256))) (callD fLen (argC (op2 dIx (vAt 0) (fun _=>some (.int 2))) argN))) (argC (vAt 3) (argC (vAt 5) (argC (vAt 7) (argC (vAt 9) (argC (vAt 11) (argC (vAt 10) (argC (vAt 12) argN))))))))))
def gp:R->Option Out :=
 (seqD dz (seqD e_ (seqD eZ (seqD fc (seqD fu (seqD fg (seqD eY (seqD eS (seqD fo (seqD eJ (seqD eG (seqD eC (seqD eL eE)))))))))))))
def bT:List D->Option D:=via 2 13 gp
theorem ld:∀ ds d,bT ds=some d->retOf (gp (beg 13 ds))=some d:=fun _ _ h=>aK h
def fDraw (n:Int):D->D
 | .int i=>.int (drawnI n i / 4)
 | d=>d
theorem rng9:rngD 0 9=[.int 0,.int 1,.int 2,.int 3,.int 4,.int 5,.int 6,.int 7,.int 8]:=rfl
theorem emn (a:Int) {b:Int} (h:0<b):0<=a%b:=Int.emod_nonneg a (by omega)
theorem eml (a:Int) {b:Int} (h:0<b):a%b<b:=Int.emod_lt_of_pos a h
theorem pick3 {a b c:Int} (P:Int->Prop) (ha:P a) (hb:P b) (hc:P c) (k:Int):∃ v,dIx (.tup [.int a,.int b,.int c]) (.int (k%3))=some (.int v)/\P v:=by
 have h:k%3=0\/k%3=1\/k%3=2:=by omega
 rcases h with h | h | h<;>rw [h]
 ·exact ⟨a,rfl,ha⟩
 ·exact ⟨b,rfl,hb⟩
 ·exact ⟨c,rfl,hc⟩
theorem pick2 {a b:Int} (P:Int->Prop) (ha:P a) (hb:P b) (k:Int):∃ v,dIx (.tup [.int a,.int b]) (.int (k%2))=some (.int v)/\P v:=by
 have h:k%2=0\/k%2=1:=by omega
 rcases h with h | h<;>rw [h]
 ·exact ⟨a,rfl,ha⟩
 ·exact ⟨b,rfl,hb⟩
theorem abc3 (k:Int):∃ x:Btn,dIx (.str (Str.ofString "abc")) (.int (k%3))=some (.str x.x):=by
 have h:k%3=0\/k%3=1\/k%3=2:=by omega
 rcases h with h | h | h<;>rw [h]
 ·exact ⟨.a,rfl⟩
 ·exact ⟨.b,rfl⟩
 ·exact ⟨.c,rfl⟩
theorem lcS {k:Nat} {it:R->Option (List D)} {st:D->R->Option R} {c:R->Option Bool} {e:R->Option D} {ρ:R} {ds out:List D} (h1:it ρ=some ds) (h2:ds.length<=sizeLine) (h3:compD st c e ds (List.replicate k none++ρ)=some out):lcD k it st c e ρ=some (.lst out):=by simp [lcD,h1,h2,h3]
theorem eb (a:Int) {b:Int} (h:0<b):0<=a%b/\a%b<b:=⟨emn a h,eml a h⟩
theorem eb1 (a:Int):0<=86399 - a%90/\86399 - a%90<86400:=by omega
theorem eb2 (a:Int):0<=a%90/\a%90<86400:=by omega
theorem eb3 (a:Int):0<=a%24/\a%24<24/\0<=a / 24%60/\a / 24%60<60:=by omega
theorem eb4 {a:Int} (h0:0<=a) (h1:a<1440):0<=a / 60/\a / 60<24/\0<=a%60/\a%60<60:=by omega
theorem eb5 (a:Int) : -(2 ^ 62:Int)<=a%5/\a%5<2 ^ 62:=by omega
theorem eb6 (a:Int):(a%5).toNat<=5:=by omega
theorem eb7 (a c:Int):mulFits (a%11) c=true:=mulFits_l (by omega) (by omega)
theorem eb8 (a c:Int):0<=a%11*(c%2)/\a%11*(c%2)<=10:=by
 have q5:c%2=0\/c%2=1:=by omega
 rcases q5 with q5 | q5<;>rw [q5]<;>omega
theorem eb9 {a:Int} {k:Nat} (h0:0<=a) (h1:a<k):a.toNat<k:=by omega
theorem qH {b:Bk} (ok:b.Ok) (n:Int):∃ s:WS,bT [b.d,.int n]=some s.d/\s.Ok b/\s.lm<9999/\∀ x∈s.lk,0<=x/\x<=9999:=by
 have hh:0<b.hold:=by have:=ok.hold1;omega
 have hb:=ok.back0
 have hm:=ok.some1
 have b0:dIx b.d (.int 0)=some (.int b.hold):=rfl
 have b1:dIx b.d (.int 1)=some (.int b.back):=rfl
 have b2:dIx b.d (.int 2)=some (.tup (b.modes.map Md.d)):=rfl
 generalize b.d=B at *
 generalize e0:drawnI n 0 / 4=d0
 generalize e1:drawnI n 1 / 4=d1
 generalize e2:drawnI n 2 / 4=d2
 generalize e3:drawnI n 3 / 4=d3
 generalize e4:drawnI n 4 / 4=d4
 generalize e5:drawnI n 5 / 4=d5
 generalize e6:drawnI n 6 / 4=d6
 generalize e7:drawnI n 7 / 4=d7
 generalize e8:drawnI n 8 / 4=d8
 have s1:dz [some B,some (.int n),none,none,none,none,none,none,none,none,none,none,none]=some (.nx [some B,some (.int n),some (.lst [.int d0,.int d1,.int d2,.int d3,.int d4,.int d5,.int d6,.int d7,.int d8]),none,none,none,none,none,none,none,none,none,none]):=by
  refine asgS (lcS (ds:=rngD 0 9) (by simp) (by rw [fD];decide) (compD_map (fDraw n) fun d hd=>?_)) ?_
  ·obtain ⟨i,hi⟩:=List.getElem?_of_mem hd
   obtain ⟨rfl,_⟩:=gj hi
   exact ⟨_,rfl,by simp [drawn_some,fDraw]⟩
  ·rw [rng9]
   simp [fDraw,e0,e1,e2,e3,e4,e5,e6,e7,e8]
 have l0:dIx (.lst [.int d0,.int d1,.int d2,.int d3,.int d4,.int d5,.int d6,.int d7,.int d8]) (.int 0)=some (.int d0):=rfl
 have l1:dIx (.lst [.int d0,.int d1,.int d2,.int d3,.int d4,.int d5,.int d6,.int d7,.int d8]) (.int 1)=some (.int d1):=rfl
 have l2:dIx (.lst [.int d0,.int d1,.int d2,.int d3,.int d4,.int d5,.int d6,.int d7,.int d8]) (.int 2)=some (.int d2):=rfl
 have l3:dIx (.lst [.int d0,.int d1,.int d2,.int d3,.int d4,.int d5,.int d6,.int d7,.int d8]) (.int 3)=some (.int d3):=rfl
 have l4:dIx (.lst [.int d0,.int d1,.int d2,.int d3,.int d4,.int d5,.int d6,.int d7,.int d8]) (.int 4)=some (.int d4):=rfl
 have l5:dIx (.lst [.int d0,.int d1,.int d2,.int d3,.int d4,.int d5,.int d6,.int d7,.int d8]) (.int 5)=some (.int d5):=rfl
 have l6:dIx (.lst [.int d0,.int d1,.int d2,.int d3,.int d4,.int d5,.int d6,.int d7,.int d8]) (.int 6)=some (.int d6):=rfl
 have l7:dIx (.lst [.int d0,.int d1,.int d2,.int d3,.int d4,.int d5,.int d6,.int d7,.int d8]) (.int 7)=some (.int d7):=rfl
 have l8:dIx (.lst [.int d0,.int d1,.int d2,.int d3,.int d4,.int d5,.int d6,.int d7,.int d8]) (.int 8)=some (.int d8):=rfl
 obtain ⟨c,c2,c20,c21⟩:=pick3 (fun c=>0<=c/\c<86400) (eb d0 (by decide)) (eb1 d0) (eb2 d0) d1
 have s2:e_ [some B,some (.int n),some (.lst [.int d0,.int d1,.int d2,.int d3,.int d4,.int d5,.int d6,.int d7,.int d8]),none,none,none,none,none,none,none,none,none,none]=some (.nx [some B,some (.int n),some (.lst [.int d0,.int d1,.int d2,.int d3,.int d4,.int d5,.int d6,.int d7,.int d8]),some (.int c),none,none,none,none,none,none,none,none,none]):=asgS c2 rfl
 have s3:eZ [some B,some (.int n),some (.lst [.int d0,.int d1,.int d2,.int d3,.int d4,.int d5,.int d6,.int d7,.int d8]),some (.int c),none,none,none,none,none,none,none,none,none]=some (.nx [some B,some (.int n),some (.lst [.int d0,.int d1,.int d2,.int d3,.int d4,.int d5,.int d6,.int d7,.int d8]),some (.int c),some (.int ((c / 60+d2%4)%1440)),none,none,none,none,none,none,none,none]):=asgS rfl rfl
 have hn0:0<=(c / 60+d2%4)%1440:=emn _ (by decide)
 have hn1:(c / 60+d2%4)%1440<1440:=eml _ (by decide)
 generalize (c / 60+d2%4)%1440=nr at *
 have s4:fc [some B,some (.int n),some (.lst [.int d0,.int d1,.int d2,.int d3,.int d4,.int d5,.int d6,.int d7,.int d8]),some (.int c),some (.int nr),none,none,none,none,none,none,none,none]=some (.nx [some B,some (.int n),some (.lst [.int d0,.int d1,.int d2,.int d3,.int d4,.int d5,.int d6,.int d7,.int d8]),some (.int c),some (.int nr),some (.tup [.int (nr / 60),.int (nr%60),.bl (d3%2==0)]),none,none,none,none,none,none,none]):=asgS rfl rfl
 have s5:∃ (ah am:Int) (ao:Bool),fu [some B,some (.int n),some (.lst [.int d0,.int d1,.int d2,.int d3,.int d4,.int d5,.int d6,.int d7,.int d8]),some (.int c),some (.int nr),some (.tup [.int (nr / 60),.int (nr%60),.bl (d3%2==0)]),none,none,none,none,none,none,none]=some (.nx [some B,some (.int n),some (.lst [.int d0,.int d1,.int d2,.int d3,.int d4,.int d5,.int d6,.int d7,.int d8]),some (.int c),some (.int nr),some (.tup [.int ah,.int am,.bl ao]),none,none,none,none,none,none,none])/\(0<=ah/\ah<24/\0<=am/\am<60):=by
  by_cases hc:d3 / 2%3=0
  ·exact ⟨d2%24,d2 / 24%60,d3%2==0,(ifT (bqT hc)).trans (asgS rfl rfl),eb3 d2⟩
  ·exact ⟨nr / 60,nr%60,d3%2==0,ifF (bqF hc),eb4 hn0 hn1⟩
 obtain ⟨ah,am,ao,s5,ha0,ha1,ham0,ham1⟩:=s5
 have r0:0<=d4%5:=emn _ (by decide)
 have r5:d4%5<5:=eml _ (by decide)
 have s6:∃ ks:List Int,fg [some B,some (.int n),some (.lst [.int d0,.int d1,.int d2,.int d3,.int d4,.int d5,.int d6,.int d7,.int d8]),some (.int c),some (.int nr),some (.tup [.int ah,.int am,.bl ao]),none,none,none,none,none,none,none]=some (.nx [some B,some (.int n),some (.lst [.int d0,.int d1,.int d2,.int d3,.int d4,.int d5,.int d6,.int d7,.int d8]),some (.int c),some (.int nr),some (.tup [.int ah,.int am,.bl ao]),some (.tup (ks.map .int)),none,none,none,none,none,none])/\ks.length<=4/\∀ x∈ks,0<=x/\x<=9999:=by
  refine ⟨(List.range (d4%5).toNat).map fun (k:Nat)=>drawnI d4 (k:Int) / 4%400,?_,by simp;omega,fun x hx=>by
   obtain ⟨k,_,rfl⟩:=List.mem_map.mp hx
   exact ⟨emn _ (by decide),Int.le_trans (Int.le_of_lt (eml _ (by decide))) (by decide)⟩⟩
  refine asgS (d:=.tup (((List.range (d4%5).toNat).map fun (k:Nat)=>drawnI d4 (k:Int) / 4%400).map .int)) ?_ rfl
  have hl:lcD 1 (inRng1 (op2 dMod (op2 dIx (vAt 2) (fun _=>some (.int 4))) (fun _=>some (.int 5)))) (setAt 0) yesT (op2 dMod (op2 dDiv (callD aJ (argC (op2 dIx (vAt 3) (fun _=>some (.int 4))) (argC (vAt 0) argN))) (fun _=>some (.int 4))) (fun _=>some (.int 400))) [some B,some (.int n),some (.lst [.int d0,.int d1,.int d2,.int d3,.int d4,.int d5,.int d6,.int d7,.int d8]),some (.int c),some (.int nr),some (.tup [.int ah,.int am,.bl ao]),none,none,none,none,none,none,none]=some (.lst (((List.range (d4%5).toNat).map fun (k:Nat)=>drawnI d4 (k:Int) / 4%400).map .int)):=by
   refine lcS (ds:=rngD 0 (d4%5)) ?_ ?_ ?_
   ·have q : -(2 ^ 62:Int)<=d4%5/\d4%5<2 ^ 62:=eb5 d4
    show (if -(2 ^ 62:Int)<=d4%5/\d4%5<2 ^ 62 then some (rngD 0 (d4%5)) else none)=_
    rw [if_pos q]
   ·rw [fD]
    exact Nat.le_trans (eb6 d4) (by decide)
   ·rw [compD_map (fun d=>match d with | .int i=>.int (drawnI d4 i / 4%400) | d=>d) fun d hd=>?_]
    ·simp [rngD]
    ·obtain ⟨i,hi⟩:=List.getElem?_of_mem hd
     obtain ⟨rfl,_⟩:=gj hi
     refine ⟨_,rfl,?_⟩
     show ((aJ [.int d4,.int (i:Int)]).bind fun x=>dDiv x (.int 4)).bind _=_
     rw [drawn_some]
     rfl
  simp only [callD,argC,argN,hl]
  rfl
 obtain ⟨ks,s6,hks,hk2⟩:=s6
 obtain ⟨v7,c7,c70,c71⟩:=pick2 (fun v=>0<v/\v<=9999) (show (0:Int)<9999/\(9999:Int)<=9999 by decide) (show (0:Int)<60/\(60:Int)<=9999 by decide) (d4 / 65536)
 have s7:eY [some B,some (.int n),some (.lst [.int d0,.int d1,.int d2,.int d3,.int d4,.int d5,.int d6,.int d7,.int d8]),some (.int c),some (.int nr),some (.tup [.int ah,.int am,.bl ao]),some (.tup (ks.map .int)),none,none,none,none,none,none]=some (.nx [some B,some (.int n),some (.lst [.int d0,.int d1,.int d2,.int d3,.int d4,.int d5,.int d6,.int d7,.int d8]),some (.int c),some (.int nr),some (.tup [.int ah,.int am,.bl ao]),some (.tup (ks.map .int)),some (.tup [.int (d4 / 8%v7),.bl (d4 / 131072%2==0),.tup (ks.map .int)]),none,none,none,none,none]):=by
  have hd:=modS (i:=d4 / 8) c70
  refine asgS ?_ rfl
  show (((dIx (.tup [.int 9999,.int 60]) (.int (d4 / 65536%2))).bind fun y=>dMod (.int (d4 / 8)) y).bind _).map _=_
  rw [c7]
  show ((dMod (.int (d4 / 8)) (.int v7)).bind _).map _=_
  rw [hd]
  rfl
 have hlm:=emn (d4 / 8) c70
 have hlm1:d4 / 8%v7<9999:=by have:=eml (d4 / 8) c70;omega
 generalize d4 / 8%v7=lm at *
 generalize (d4 / 131072%2==0)=lr at *
 obtain ⟨v8,c8,c80,c81⟩:=pick3 (fun v=>0<v/\v<=3600) (show (0:Int)<3600/\(3600:Int)<=3600 by decide) (show (0:Int)<20/\(20:Int)<=3600 by decide) (show (0:Int)<1/\(1:Int)<=3600 by decide) (d5 / 4096)
 have s8:eS [some B,some (.int n),some (.lst [.int d0,.int d1,.int d2,.int d3,.int d4,.int d5,.int d6,.int d7,.int d8]),some (.int c),some (.int nr),some (.tup [.int ah,.int am,.bl ao]),some (.tup (ks.map .int)),some (.tup [.int lm,.bl lr,.tup (ks.map .int)]),none,none,none,none,none]=some (.nx [some B,some (.int n),some (.lst [.int d0,.int d1,.int d2,.int d3,.int d4,.int d5,.int d6,.int d7,.int d8]),some (.int c),some (.int nr),some (.tup [.int ah,.int am,.bl ao]),some (.tup (ks.map .int)),some (.tup [.int lm,.bl lr,.tup (ks.map .int)]),some (.int (d5%v8)),none,none,none,none]):=by
  refine asgS ?_ rfl
  show (dIx (.tup [.int 3600,.int 20,.int 1]) (.int (d5 / 4096%3))).bind (fun y=>dMod (.int d5) y)=_
  rw [c8]
  exact modS c80
 have q80:=emn d5 c80
 have q81:=eml d5 c80
 generalize d5%v8=lf at *
 have s9:∃ ru:Bool,fo [some B,some (.int n),some (.lst [.int d0,.int d1,.int d2,.int d3,.int d4,.int d5,.int d6,.int d7,.int d8]),some (.int c),some (.int nr),some (.tup [.int ah,.int am,.bl ao]),some (.tup (ks.map .int)),some (.tup [.int lm,.bl lr,.tup (ks.map .int)]),some (.int lf),none,none,none,none]=some (.nx [some B,some (.int n),some (.lst [.int d0,.int d1,.int d2,.int d3,.int d4,.int d5,.int d6,.int d7,.int d8]),some (.int c),some (.int nr),some (.tup [.int ah,.int am,.bl ao]),some (.tup (ks.map .int)),some (.tup [.int lm,.bl lr,.tup (ks.map .int)]),some (.int lf),some (.tup [.int (d5 / 16384%60),.int (d6%60),.int lf,.bl ru]),none,none,none])/\(ru=true->0<lf):=by
  by_cases hc:0<lf
  ·exact ⟨decide (0<d6 / 64%3),asgS (tupS (arS rfl (arS rfl (arS rfl (arS (anV (asS (cmS rfl rfl (dT hc))) rfl) rfl))))) rfl,fun _=>hc⟩
  ·exact ⟨false,asgS (tupS (arS rfl (arS rfl (arS rfl (arS (anVF (asS (cmS rfl rfl (dF hc)))) rfl))))) rfl,fun h=>nomatch h⟩
 obtain ⟨ru,s9,hru⟩:=s9
 have hcm:0<=d5 / 16384%60/\d5 / 16384%60<60:=eb _ (by decide)
 have hcs:0<=d6%60/\d6%60<60:=eb _ (by decide)
 generalize d5 / 16384%60=cm at *
 generalize d6%60=cs at *
 have s10:eJ [some B,some (.int n),some (.lst [.int d0,.int d1,.int d2,.int d3,.int d4,.int d5,.int d6,.int d7,.int d8]),some (.int c),some (.int nr),some (.tup [.int ah,.int am,.bl ao]),some (.tup (ks.map .int)),some (.tup [.int lm,.bl lr,.tup (ks.map .int)]),some (.int lf),some (.tup [.int cm,.int cs,.int lf,.bl ru]),none,none,none]=some (.nx [some B,some (.int n),some (.lst [.int d0,.int d1,.int d2,.int d3,.int d4,.int d5,.int d6,.int d7,.int d8]),some (.int c),some (.int nr),some (.tup [.int ah,.int am,.bl ao]),some (.tup (ks.map .int)),some (.tup [.int lm,.bl lr,.tup (ks.map .int)]),some (.int lf),some (.tup [.int cm,.int cs,.int lf,.bl ru]),some .non,none,none]):=rfl
 have s11:∃ h:Option (Btn×Option Int),eG [some B,some (.int n),some (.lst [.int d0,.int d1,.int d2,.int d3,.int d4,.int d5,.int d6,.int d7,.int d8]),some (.int c),some (.int nr),some (.tup [.int ah,.int am,.bl ao]),some (.tup (ks.map .int)),some (.tup [.int lm,.bl lr,.tup (ks.map .int)]),some (.int lf),some (.tup [.int cm,.int cs,.int lf,.bl ru]),some .non,none,none]=some (.nx [some B,some (.int n),some (.lst [.int d0,.int d1,.int d2,.int d3,.int d4,.int d5,.int d6,.int d7,.int d8]),some (.int c),some (.int nr),some (.tup [.int ah,.int am,.bl ao]),some (.tup (ks.map .int)),some (.tup [.int lm,.bl lr,.tup (ks.map .int)]),some (.int lf),some (.tup [.int cm,.int cs,.int lf,.bl ru]),some (heldD h),none,none])/\∀ x k,h=some (x,some k)->0<=k/\k<b.hold:=by
  by_cases hc:d7%3=0
  ·obtain ⟨x,hx⟩:=abc3 (d7 / 4)
   have q1:=emn (d7 / 16) hh
   have q2:=eml (d7 / 16) hh
   by_cases hc2:d7 / 256%3=0
   ·refine ⟨some (x,none),?_,fun y k z=>by cases z⟩
    have x0:dIx (.tup [.str x.x,.int (d7 / 16%b.hold)]) (.int 0)=some (.str x.x):=rfl
    exact (ifT (bqT hc)).trans ((seqN (asgS (tupS (arS (opS rfl rfl hx) (arS (opS rfl (opS rfl rfl b0) (modS hh)) rfl))) rfl)).trans ((ifT (bqT hc2)).trans (asgS (tupS (arS (opS rfl rfl x0) rfl)) rfl)))
   ·refine ⟨some (x,some (d7 / 16%b.hold)),?_,fun y k z=>by cases z;exact ⟨q1,q2⟩⟩
    exact (ifT (bqT hc)).trans ((seqN (asgS (tupS (arS (opS rfl rfl hx) (arS (opS rfl (opS rfl rfl b0) (modS hh)) rfl))) rfl)).trans (ifF (bqF hc2)))
  ·exact ⟨none,ifF (bqF hc),fun y k z=>by cases z⟩
 obtain ⟨he,s11,hhe⟩:=s11
 have s12:∃ rg:Int,eC [some B,some (.int n),some (.lst [.int d0,.int d1,.int d2,.int d3,.int d4,.int d5,.int d6,.int d7,.int d8]),some (.int c),some (.int nr),some (.tup [.int ah,.int am,.bl ao]),some (.tup (ks.map .int)),some (.tup [.int lm,.bl lr,.tup (ks.map .int)]),some (.int lf),some (.tup [.int cm,.int cs,.int lf,.bl ru]),some (heldD he),none,none]=some (.nx [some B,some (.int n),some (.lst [.int d0,.int d1,.int d2,.int d3,.int d4,.int d5,.int d6,.int d7,.int d8]),some (.int c),some (.int nr),some (.tup [.int ah,.int am,.bl ao]),some (.tup (ks.map .int)),some (.tup [.int lm,.bl lr,.tup (ks.map .int)]),some (.int lf),some (.tup [.int cm,.int cs,.int lf,.bl ru]),some (heldD he),some (.int rg),none])/\0<=rg/\rg<=10:=by
  have mf:mulFits (d8%11) (d8 / 16%2)=true:=eb7 d8 _
  refine ⟨d8%11*(d8 / 16%2),asgS (by show (if mulFits (d8%11) (d8 / 16%2) then some (D.int (d8%11*(d8 / 16%2))) else none)=_;rw [if_pos mf]) rfl,eb8 d8 (d8 / 16)⟩
 obtain ⟨rg,s12,rg0,rg1⟩:=s12
 have s13:∃ id:Int,eL [some B,some (.int n),some (.lst [.int d0,.int d1,.int d2,.int d3,.int d4,.int d5,.int d6,.int d7,.int d8]),some (.int c),some (.int nr),some (.tup [.int ah,.int am,.bl ao]),some (.tup (ks.map .int)),some (.tup [.int lm,.bl lr,.tup (ks.map .int)]),some (.int lf),some (.tup [.int cm,.int cs,.int lf,.bl ru]),some (heldD he),some (.int rg),none]=some (.nx [some B,some (.int n),some (.lst [.int d0,.int d1,.int d2,.int d3,.int d4,.int d5,.int d6,.int d7,.int d8]),some (.int c),some (.int nr),some (.tup [.int ah,.int am,.bl ao]),some (.tup (ks.map .int)),some (.tup [.int lm,.bl lr,.tup (ks.map .int)]),some (.int lf),some (.tup [.int cm,.int cs,.int lf,.bl ru]),some (heldD he),some (.int rg),some (.int id)])/\0<=id/\(0<b.back->id<b.back)/\(b.back=0->id=0):=by
  by_cases hc:1<b.back
  ·have hc0:0<b.back:=by omega
   exact ⟨d8 / 64%b.back,asgS (opS rfl (callS (arS rfl (arS (opS rfl rfl b1) rfl)) (show fMax [.int 1,.int b.back]=some (.int b.back) by simp [hc])) (modS hc0)) rfl,emn _ hc0,fun _=>eml _ hc0,fun z=>by omega⟩
  ·exact ⟨0,asgS (opS rfl (callS (arS rfl (arS (opS rfl rfl b1) rfl)) (show fMax [.int 1,.int b.back]=some (.int 1) by simp [hc])) ((modS (by decide)).trans (by rw [Int.emod_one]))) rfl,Int.le_refl 0,fun z=>z,fun _=>rfl⟩
 obtain ⟨id,s13,id0,id1,id2⟩:=s13
 have hml:(0:Int)<(b.modes.length:Int):=by omega
 have q1:=emn (d6 / 256) hml
 have q2:=eml (d6 / 256) hml
 refine ⟨⟨(d6 / 256%b.modes.length).toNat,c,ah,am,ao,lm,lr,ks,cm,cs,lf,ru,rg,he,id⟩,?_,?_,hlm1,hk2⟩
 ·show (if (2:Nat)=2 then retOf (seqD dz _ [some B,some (.int n),none,none,none,none,none,none,none,none,none,none,none]) else none)=_
  rw [if_pos rfl,seqN s1,seqN s2,seqN s3,seqN s4,seqN s5,seqN s6,seqN s7,seqN s8,seqN s9,seqN s10,seqN s11,seqN s12,seqN s13]
  have hmn:0<b.modes.length:=hm
  have hlen:fLen [.tup (b.modes.map Md.d)]=some (.int (b.modes.length:Int)):=by simp
  rw [show eE [some B,some (.int n),some (.lst [.int d0,.int d1,.int d2,.int d3,.int d4,.int d5,.int d6,.int d7,.int d8]),some (.int c),some (.int nr),some (.tup [.int ah,.int am,.bl ao]),some (.tup (ks.map .int)),some (.tup [.int lm,.bl lr,.tup (ks.map .int)]),some (.int lf),some (.tup [.int cm,.int cs,.int lf,.bl ru]),some (heldD he),some (.int rg),some (.int id)]=_ from retS (tupS (arS (opS rfl (callS (arS (opS rfl rfl b2) rfl) hlen) (modS hml)) rfl))]
  simp [WS.d,WS.alarmD,WS.lapsD,WS.countD,Int.toNat_of_nonneg q1]
 ·exact {bk:=hb,mode:=eb9 q1 q2,clock0:=c20,clock1:=c21,ah0:=ha0,ah1:=ha1,am0:=ham0,am1:=ham1,lm0:=hlm,lk:=hks,cm0:=hcm.1,cm1:=hcm.2,cs0:=hcs.1,cs1:=hcs.2,cl0:=q80,cl1:=Int.lt_of_lt_of_le q81 c81,cr:=hru,ring0:=rg0,ring1:=rg1,idle0:=id0,idle1:=id1,idle2:=id2,held:=hhe}
theorem kI:∀ ds d,bT ds=some d->ds.length=2:=fun _ _ h=>aw h
def gH:R->Option Out :=
 (retD (andV (asV (cmp2 cNotN (op2 dIx (vAt 0) (fun _=>some bu)) (fun _=>some .non))) (asV (cmp2 cEq (op2 dIx (op2 dIx (vAt 0) (fun _=>some bu)) (fun _=>some (.int 0))) (vAt 1)))))
def bx:List D->Option D:=via 2 2 gH
theorem kM:∀ ds d,bx ds=some d->retOf (gH (beg 2 ds))=some d:=fun _ _ h=>aK h
theorem kO:∀ ds d,bx ds=some d->ds.length=2:=fun _ _ h=>aw h
theorem btn_eq (x y:Btn):cEq (.str x.x) (.str y.x)=some (decide (x=y)):=by cases x<;>cases y<;>rfl
theorem gi (s:WS) (x:Btn):bx [s.d,.str x.x]=some (.bl (match s.held with | some (y,_)=>decide (y=x) | none=>false)):=by
 have e6:=w6 s
 rcases hs:s.held with _ | ⟨y,k⟩<;>rw [hs] at e6
 ·exact viaS (retS (anVF (asS (cmS (opS rfl rfl e6) rfl rfl))))
 ·exact viaS (retS (anV (asS (cmS (opS rfl rfl e6) rfl rfl)) (asS (cmS (opS (opS rfl rfl e6) rfl (h0 y k)) rfl (btn_eq y x)))))
def jk:R->Option Out :=
 (retD (andV (callD bx (argC (vAt 0) (argC (vAt 1) argN))) (asV (cmp2 cNotN (op2 dIx (op2 dIx (vAt 0) (fun _=>some bu)) (fun _=>some (.int 1))) (fun _=>some .non)))))
def cC:List D->Option D:=via 2 2 jk
theorem mW:∀ ds d,cC ds=some d->retOf (jk (beg 2 ds))=some d:=fun _ _ h=>aK h
theorem nJ:∀ ds d,cC ds=some d->ds.length=2:=fun _ _ h=>aw h
theorem nL (s:WS) (x:Btn):cC [s.d,.str x.x]=some (.bl (match s.held with | some (y,k)=>decide (y=x)&&k.isSome | none=>false)):=by
 have e:=gi s x
 have e6:=w6 s
 rcases hs:s.held with _ | ⟨y,k⟩<;>rw [hs] at e e6
 ·exact viaS (retS (anVF (callS rfl e)))
 ·by_cases hy:y=x
  ·simp only [hy,decide_true,Bool.true_and] at e ⊢
   exact viaS (retS (anV (callS rfl e) (asS (cmS (opS (opS rfl rfl e6) rfl (h1 y k)) rfl (not_non k)))))
  ·simp only [hy,decide_false,Bool.false_and] at e ⊢
   exact viaS (retS (anVF (callS rfl e)))
def ti:R->Option Out :=
 (retD (op2 dAdd (op2 dAdd (slD (vAt 0) noP (aP (vAt 1))) (tupD (argC (vAt 2) argN))) (slD (vAt 0) (aP (op2 dAdd (vAt 1) (fun _=>some (.int 1)))) noP)))
def aM:List D->Option D:=via 3 3 ti
theorem ul:∀ ds d,aM ds=some d->retOf (ti (beg 3 ds))=some d:=fun _ _ h=>aK h
theorem uj:∀ ds d,aM ds=some d->ds.length=3:=fun _ _ h=>aw h
section
variable (a b c d e f g i x:D)
theorem addU {xs ys:List D} (h:xs.length+ys.length<=8):dAdd (.tup xs) (.tup ys)=some (.tup (xs++ys)):=by
 show (if xs.length+ys.length<=sizeLine then _ else none)=_
 rw [if_pos (Nat.le_trans h sl8)]
theorem put0:aM [.tup [a,b,c,d,e,f,g,i],.int 0,x]=some (.tup [x,b,c,d,e,f,g,i]):=viaS (retS (opS (opS (slS rfl rfl rfl rfl) (tupS (arS rfl rfl)) (addU (show 1<=8 by decide))) (slS rfl rfl rfl rfl) (addU (show 8<=8 by decide))))
theorem put1:aM [.tup [a,b,c,d,e,f,g,i],.int 1,x]=some (.tup [a,x,c,d,e,f,g,i]):=viaS (retS (opS (opS (slS rfl rfl rfl rfl) (tupS (arS rfl rfl)) (addU (show 2<=8 by decide))) (slS rfl rfl rfl rfl) (addU (show 8<=8 by decide))))
theorem put2:aM [.tup [a,b,c,d,e,f,g,i],.int 2,x]=some (.tup [a,b,x,d,e,f,g,i]):=viaS (retS (opS (opS (slS rfl rfl rfl rfl) (tupS (arS rfl rfl)) (addU (show 3<=8 by decide))) (slS rfl rfl rfl rfl) (addU (show 8<=8 by decide))))
theorem put3:aM [.tup [a,b,c,d,e,f,g,i],.int 3,x]=some (.tup [a,b,c,x,e,f,g,i]):=viaS (retS (opS (opS (slS rfl rfl rfl rfl) (tupS (arS rfl rfl)) (addU (show 4<=8 by decide))) (slS rfl rfl rfl rfl) (addU (show 8<=8 by decide))))
theorem put4:aM [.tup [a,b,c,d,e,f,g,i],.int 4,x]=some (.tup [a,b,c,d,x,f,g,i]):=viaS (retS (opS (opS (slS rfl rfl rfl rfl) (tupS (arS rfl rfl)) (addU (show 5<=8 by decide))) (slS rfl rfl rfl rfl) (addU (show 8<=8 by decide))))
theorem put5:aM [.tup [a,b,c,d,e,f,g,i],.int 5,x]=some (.tup [a,b,c,d,e,x,g,i]):=viaS (retS (opS (opS (slS rfl rfl rfl rfl) (tupS (arS rfl rfl)) (addU (show 6<=8 by decide))) (slS rfl rfl rfl rfl) (addU (show 8<=8 by decide))))
theorem put6:aM [.tup [a,b,c,d,e,f,g,i],.int 6,x]=some (.tup [a,b,c,d,e,f,x,i]):=viaS (retS (opS (opS (slS rfl rfl rfl rfl) (tupS (arS rfl rfl)) (addU (show 7<=8 by decide))) (slS rfl rfl rfl rfl) (addU (show 8<=8 by decide))))
theorem put7:aM [.tup [a,b,c,d,e,f,g,i],.int 7,x]=some (.tup [a,b,c,d,e,f,g,x]):=viaS (retS (opS (opS (slS rfl rfl rfl rfl) (tupS (arS rfl rfl)) (addU (show 8<=8 by decide))) (slS rfl rfl rfl rfl) (addU (show 8<=8 by decide))))
end
theorem pu0 (s:WS) (m:Nat):aM [s.d,.int 0,.int (m:Int)]=some {s with mode:=m}.d:=put0 ..
theorem pu1 (s:WS) (c:Int):aM [s.d,.int 1,.int c]=some {s with clock:=c}.d:=put1 ..
theorem pu2 (s:WS) (h m:Int) (o:Bool):aM [s.d,.int 2,.tup [.int h,.int m,.bl o]]=some {s with ah:=h,am:=m,aon:=o}.d:=put2 ..
theorem pu3 (s:WS) (m:Int) (r:Bool) (k:List Int):aM [s.d,.int 3,.tup [.int m,.bl r,.tup (k.map .int)]]=some {s with lm:=m,lr:=r,lk:=k}.d:=put3 ..
theorem pu4 (s:WS) (m c l:Int) (r:Bool):aM [s.d,.int 4,.tup [.int m,.int c,.int l,.bl r]]=some {s with cm:=m,cs:=c,cl:=l,cr:=r}.d:=put4 ..
theorem pu5 (s:WS) (r:Int):aM [s.d,.int 5,.int r]=some {s with ring:=r}.d:=put5 ..
theorem pu6n (s:WS):aM [s.d,.int 6,.non]=some {s with held:=none}.d:=put6 ..
theorem pu6s (s:WS) (x:Btn) (k:Option Int):aM [s.d,.int 6,.tup [.str x.x,optI k]]=some {s with held:=some (x,k)}.d:=put6 ..
theorem pu6z (s:WS) (x:Btn):aM [s.d,.int 6,.tup [.str x.x,.non]]=some {s with held:=some (x,none)}.d:=put6 ..
theorem pu7 (s:WS) (i:Int):aM [s.d,.int 7,.int i]=some {s with idle:=i}.d:=put7 ..
def dl:R->Option Out :=
  (seqD (asgD (op2 dIx (vAt 0) (fun _=>some bB)) (setAt 1))
  (retD (callD aM (argC (vAt 0) (argC (fun _=>some bB) (argC (tupD (argC (op2 dMod (op2 dAdd (op2 dIx (vAt 1) (fun _=>some (.int 0))) (fun _=>some (.int 1))) (fun _=>some (.int 24))) (argC (op2 dIx (vAt 1) (fun _=>some (.int 1))) (argC (op2 dIx (vAt 1) (fun _=>some (.int 2))) argN)))) argN))))))
def be:List D->Option D:=via 1 2 dl
theorem iD:∀ ds d,be ds=some d->retOf (dl (beg 2 ds))=some d:=fun _ _ h=>aK h
theorem iL:∀ ds d,be ds=some d->ds.length=1:=fun _ _ h=>aw h
theorem iE (s:WS):be [s.d]=some (deed .ahour s).d:=by simp [-dIx,be,via,dl,bB,w2,wa0,wa1,wa2,pu2,deed]
def cM:R->Option Out :=
  (seqD (asgD (op2 dIx (vAt 0) (fun _=>some bB)) (setAt 1))
  (retD (callD aM (argC (vAt 0) (argC (fun _=>some bB) (argC (tupD (argC (op2 dIx (vAt 1) (fun _=>some (.int 0))) (argC (op2 dMod (op2 dAdd (op2 dIx (vAt 1) (fun _=>some (.int 1))) (fun _=>some (.int 1))) (fun _=>some (.int 60))) (argC (op2 dIx (vAt 1) (fun _=>some (.int 2))) argN)))) argN))))))
def aW:List D->Option D:=via 1 2 cM
theorem gy:∀ ds d,aW ds=some d->retOf (cM (beg 2 ds))=some d:=fun _ _ h=>aK h
theorem gr:∀ ds d,aW ds=some d->ds.length=1:=fun _ _ h=>aw h
theorem gk (s:WS):aW [s.d]=some (deed .aminute s).d:=by simp [-dIx,aW,via,cM,bB,w2,wa0,wa1,wa2,pu2,deed]
def dI:R->Option Out :=
  (seqD (asgD (op2 dIx (vAt 0) (fun _=>some bB)) (setAt 1))
  (retD (callD aM (argC (vAt 0) (argC (fun _=>some bB) (argC (tupD (argC (op2 dIx (vAt 1) (fun _=>some (.int 0))) (argC (op2 dIx (vAt 1) (fun _=>some (.int 1))) (argC (notV (op2 dIx (vAt 1) (fun _=>some (.int 2)))) argN)))) argN))))))
def bn:List D->Option D:=via 1 2 dI
theorem je:∀ ds d,bn ds=some d->retOf (dI (beg 2 ds))=some d:=fun _ _ h=>aK h
theorem jf:∀ ds d,bn ds=some d->ds.length=1:=fun _ _ h=>aw h
theorem jI (s:WS):bn [s.d]=some (deed .alarm s).d:=by simp [-dIx,bn,via,dI,bB,w2,wa0,wa1,wa2,pu2,deed]
def jx:R->Option Out :=
  (seqD (ifD (truT (op2 dIx (op2 dIx (vAt 0) (fun _=>some bc)) (fun _=>some (.int 3))))
  (retD (vAt 0))
  nextD)
  (retD (callD aM (argC (vAt 0) (argC (fun _=>some bc) (argC (tupD (argC (vAt 1) (argC (vAt 2) (argC (op2 dAdd (op2 dMul (fun _=>some (.int 60)) (vAt 1)) (vAt 2)) (argC (fun _=>some (.bl false)) argN))))) argN))))))
def bV:List D->Option D:=via 3 3 jx
theorem se:∀ ds d,bV ds=some d->retOf (jx (beg 3 ds))=some d:=fun _ _ h=>aK h
theorem rZ:∀ ds d,bV ds=some d->ds.length=3:=fun _ _ h=>aw h
theorem jo (s:WS) (m c:Int):bV [s.d,.int m,.int c]=some (setTo s m c).d:=by
 cases hr:s.cr<;>simp [-dIx,-dMul,bV,via,jx,bc,w4,wc3,hr,setTo,mul60,pu4]
def cR:R->Option Out :=
  (seqD (asgD (op2 dIx (vAt 0) (fun _=>some bc)) (setAt 1))
  (retD (callD bV (argC (vAt 0) (argC (op2 dMod (op2 dAdd (op2 dIx (vAt 1) (fun _=>some (.int 0))) (fun _=>some (.int 1))) (fun _=>some (.int 60))) (argC (op2 dIx (vAt 1) (fun _=>some (.int 1))) argN))))))
def aV:List D->Option D:=via 1 2 cR
theorem gl:∀ ds d,aV ds=some d->retOf (cR (beg 2 ds))=some d:=fun _ _ h=>aK h
theorem gq:∀ ds d,aV ds=some d->ds.length=1:=fun _ _ h=>aw h
theorem gC (s:WS):aV [s.d]=some (deed .cminute s).d:=by simp [-dIx,aV,via,cR,bc,w4,wc0,wc1,jo,deed]
def cV:R->Option Out :=
  (seqD (asgD (op2 dIx (vAt 0) (fun _=>some bc)) (setAt 1))
  (retD (callD bV (argC (vAt 0) (argC (op2 dIx (vAt 1) (fun _=>some (.int 0))) (argC (op2 dMod (op2 dAdd (op2 dIx (vAt 1) (fun _=>some (.int 1))) (fun _=>some (.int 1))) (fun _=>some (.int 60))) argN))))))
def aU:List D->Option D:=via 1 2 cV
theorem gt:∀ ds d,aU ds=some d->retOf (cV (beg 2 ds))=some d:=fun _ _ h=>aK h
theorem gm:∀ ds d,aU ds=some d->ds.length=1:=fun _ _ h=>aw h
theorem gh (s:WS):aU [s.d]=some (deed .csecond s).d:=by simp [-dIx,aU,via,cV,bc,w4,wc0,wc1,jo,deed]
def fm:R->Option Out :=
  (seqD (asgD (op2 dIx (vAt 0) (fun _=>some bc)) (setAt 1))
  (seqD (asgD (andV (notV (op2 dIx (vAt 1) (fun _=>some (.int 3)))) (asV (cmp2 cGt (op2 dIx (vAt 1) (fun _=>some (.int 2))) (fun _=>some (.int 0))))) (setAt 2))
  (retD (callD aM (argC (vAt 0) (argC (fun _=>some bc) (argC (tupD (argC (op2 dIx (vAt 1) (fun _=>some (.int 0))) (argC (op2 dIx (vAt 1) (fun _=>some (.int 1))) (argC (op2 dIx (vAt 1) (fun _=>some (.int 2))) (argC (vAt 2) argN))))) argN)))))))
def bG:List D->Option D:=via 1 3 fm
theorem jg:∀ ds d,bG ds=some d->retOf (fm (beg 3 ds))=some d:=fun _ _ h=>aK h
theorem jh:∀ ds d,bG ds=some d->ds.length=1:=fun _ _ h=>aw h
theorem iY (s:WS):bG [s.d]=some (deed .count s).d:=by
 have q:∀ r:Bool,andV (notV (op2 dIx (vAt 1) (fun _=>some (.int 3)))) (asV (cmp2 cGt (op2 dIx (vAt 1) (fun _=>some (.int 2))) (fun _=>some (.int 0)))) [some s.d,some (.tup [.int s.cm,.int s.cs,.int s.cl,.bl r]),none]=some (.bl (!r&&decide (0<s.cl))):=by
  intro r
  cases r
  ·exact anV rfl (asS (cmS (opS rfl rfl rfl) rfl rfl))
  ·exact anVF rfl
 exact viaS ((seqN (asgS (opS rfl rfl (w4 s)) rfl)).trans ((seqN (asgS (q s.cr) rfl)).trans (retS (callS (arS rfl (arS rfl (arS (tupS (arS (opS rfl rfl (wc0 s)) (arS (opS rfl rfl (wc1 s)) (arS (opS rfl rfl (wc2 s)) rfl)))) rfl))) (pu4 s s.cm s.cs s.cl _)))))
def jr:R->Option Out :=
  (seqD (asgD (op2 dIx (vAt 0) (fun _=>some bc)) (setAt 1))
  (retD (callD bV (argC (vAt 0) (argC (op2 dIx (vAt 1) (fun _=>some (.int 0))) (argC (op2 dIx (vAt 1) (fun _=>some (.int 1))) argN))))))
def dg:List D->Option D:=via 1 2 jr
theorem qT:∀ ds d,dg ds=some d->retOf (jr (beg 2 ds))=some d:=fun _ _ h=>aK h
theorem rX:∀ ds d,dg ds=some d->ds.length=1:=fun _ _ h=>aw h
theorem qV (s:WS):dg [s.d]=some (deed .full s).d:=by simp [-dIx,dg,via,jr,bc,w4,wc0,wc1,jo,deed]
def ic:R->Option Out :=
 (retD (callD aM (argC (vAt 0) (argC (fun _=>some br) (argC (op2 dMod (op2 dAdd (op2 dIx (vAt 0) (fun _=>some br)) (fun _=>some (.int 3600))) (fun _=>some (.int 86400))) argN)))))
def cJ:List D->Option D:=via 1 1 ic
theorem qh:∀ ds d,cJ ds=some d->retOf (ic (beg 1 ds))=some d:=fun _ _ h=>aK h
theorem pP:∀ ds d,cJ ds=some d->ds.length=1:=fun _ _ h=>aw h
theorem pG (s:WS):cJ [s.d]=some (deed .hour s).d:=by simp [-dIx,cJ,via,ic,br,w1,pu1,deed]
def jC:R->Option Out :=
  (seqD (asgD (op2 dIx (vAt 0) (fun _=>some cu)) (setAt 1))
  (seqD (ifD (notT (truT (op2 dIx (vAt 1) (fun _=>some (.int 1)))))
  (retD (callD aM (argC (vAt 0) (argC (fun _=>some cu) (argC (tupD (argC (fun _=>some (.int 0)) (argC (fun _=>some (.bl false)) (argC (tupD argN) argN)))) argN)))))
  nextD)
  (seqD (ifD (cmp2 cGe (callD fLen (argC (op2 dIx (vAt 1) (fun _=>some (.int 2))) argN)) (fun _=>some di))
  (retD (vAt 0))
  nextD)
  (retD (callD aM (argC (vAt 0) (argC (fun _=>some cu) (argC (tupD (argC (op2 dIx (vAt 1) (fun _=>some (.int 0))) (argC (fun _=>some (.bl true)) (argC (op2 dAdd (op2 dIx (vAt 1) (fun _=>some (.int 2))) (tupD (argC (op2 dIx (vAt 1) (fun _=>some (.int 0))) argN))) argN)))) argN))))))))
def cB:List D->Option D:=via 1 2 jC
theorem oj:∀ ds d,cB ds=some d->retOf (jC (beg 2 ds))=some d:=fun _ _ h=>aK h
theorem mX:∀ ds d,cB ds=some d->ds.length=1:=fun _ _ h=>aw h
theorem nB (s:WS) (h:s.lk.length<=4):cB [s.d]=some (deed .lap s).d:=by
 have t:truT (op2 dIx (vAt 1) (fun _=>some (.int 1))) [some s.d,some s.lapsD]=some s.lr:=trS (opS rfl rfl (wl1 s))
 have hl:fLen [.tup (s.lk.map .int)]=some (.int s.lk.length):=by show some (D.int ((s.lk.map D.int).length:Int))=_;rw [List.length_map]
 have hlen:callD fLen (argC (op2 dIx (vAt 1) (fun _=>some (.int 2))) argN) [some s.d,some s.lapsD]=some (.int s.lk.length):=callS (arS (opS rfl rfl (wl2 s)) rfl) hl
 have a1:asgD (op2 dIx (vAt 0) (fun _=>some cu)) (setAt 1) [some s.d,none]=some (.nx [some s.d,some s.lapsD]):=asgS (opS rfl rfl (w3 s)) rfl
 cases hr:s.lr with
 | false =>
  have e:deed .lap s={s with lm:=0,lr:=false,lk:=[]}:=by
   show (if s.lr then _ else {s with lm:=0,lk:=[]})=_
   rw [if_neg (by rw [hr];decide),<- hr]
  rw [hr] at t
  rw [e]
  exact viaS ((seqN a1).trans (seqR ((ifT (ntS (b:=false) t)).trans (retS (callS (arS rfl (arS rfl (arS (tupS (arS rfl (arS rfl (arS (tupS rfl) rfl)))) rfl))) (pu3 s 0 false []))))))
 | true =>
  rw [hr] at t
  have n1:ifD (notT (truT (op2 dIx (vAt 1) (fun _=>some (.int 1))))) (retD (callD aM (argC (vAt 0) (argC (fun _=>some cu) (argC (tupD (argC (fun _=>some (.int 0)) (argC (fun _=>some (.bl false)) (argC (tupD argN) argN)))) argN))))) nextD [some s.d,some s.lapsD]=some (.nx [some s.d,some s.lapsD]):=(ifF (ntS (b:=true) t)).trans rfl
  by_cases h4:4<=s.lk.length
  ·have e:deed .lap s=s:=by
    show (if s.lr then (if 4<=s.lk.length then s else _) else _)=_
    rw [if_pos hr,if_pos h4]
   rw [e]
   exact viaS ((seqN a1).trans ((seqN n1).trans (seqR ((ifT (cmS hlen rfl (dT (Int.ofNat_le.mpr h4)))).trans (retS rfl)))))
  ·have e:deed .lap s={s with lm:=s.lm,lr:=true,lk:=s.lk++[s.lm]}:=by
    show (if s.lr then (if 4<=s.lk.length then s else {s with lk:=s.lk++[s.lm]}) else _)=_
    rw [if_pos hr,if_neg h4,<- hr]
   have ha:dAdd (.tup (s.lk.map .int)) (.tup [.int s.lm])=some (.tup ((s.lk++[s.lm]).map .int)):=by
    rw [List.map_append]
    exact addU (by rw [List.length_map];show s.lk.length+1<=8;omega)
   rw [e]
   exact viaS ((seqN a1).trans ((seqN n1).trans ((seqN ((ifF (cmS hlen rfl (dF fun q=>h4 (Int.ofNat_le.mp q)))).trans rfl)).trans (retS (callS (arS rfl (arS rfl (arS (tupS (arS (opS rfl rfl (wl0 s)) (arS rfl (arS (opS (opS rfl rfl (wl2 s)) (tupS (arS (opS rfl rfl (wl0 s)) rfl)) ha) rfl)))) rfl))) (pu3 s s.lm true (s.lk++[s.lm])))))))
def dW:R->Option Out :=
  (seqD (asgD (op2 dIx (vAt 0) (fun _=>some cu)) (setAt 1))
  (retD (callD aM (argC (vAt 0) (argC (fun _=>some cu) (argC (tupD (argC (op2 dIx (vAt 1) (fun _=>some (.int 0))) (argC (notV (op2 dIx (vAt 1) (fun _=>some (.int 1)))) (argC (op2 dIx (vAt 1) (fun _=>some (.int 2))) argN)))) argN))))))
def bD:List D->Option D:=via 1 2 dW
theorem j3:∀ ds d,bD ds=some d->retOf (dW (beg 2 ds))=some d:=fun _ _ h=>aK h
theorem j5:∀ ds d,bD ds=some d->ds.length=1:=fun _ _ h=>aw h
theorem jR (s:WS):bD [s.d]=some (deed .run s).d:=by simp [-dIx,bD,via,dW,cu,w3,wl0,wl1,wl2,pu3,deed]
def eM:R->Option Out :=
  (seqD (asgD (op2 dIx (vAt 0) (fun _=>some br)) (setAt 1))
  (seqD (asgD (op2 dMod (op2 dAdd (op2 dMod (vAt 1) (fun _=>some (.int 3600))) (fun _=>some (.int 60))) (fun _=>some (.int 3600))) (setAt 2))
  (retD (callD aM (argC (vAt 0) (argC (fun _=>some br) (argC (op2 dAdd (op2 dSub (vAt 1) (op2 dMod (vAt 1) (fun _=>some (.int 3600)))) (vAt 2)) argN)))))))
def bS:List D->Option D:=via 1 3 eM
theorem lT:∀ ds d,bS ds=some d->retOf (eM (beg 3 ds))=some d:=fun _ _ h=>aK h
theorem lD:∀ ds d,bS ds=some d->ds.length=1:=fun _ _ h=>aw h
theorem mR (s:WS):bS [s.d]=some (deed .minute s).d:=by simp [-dIx,bS,via,eM,br,w1,pu1,deed]
def gM:R->Option Out :=
 (retD (vAt 0))
def cL:List D->Option D:=via 1 1 gM
theorem pT:∀ ds d,cL ds=some d->retOf (gM (beg 1 ds))=some d:=fun _ _ h=>aK h
theorem pE:∀ ds d,cL ds=some d->ds.length=1:=fun _ _ h=>aw h
theorem qg (s:WS):cL [s.d]=some (deed .none s).d:=by simp [cL,via,gM,deed]
def gS:R->Option Out :=
 (retD (callD aM (argC (vAt 0) (argC (fun _=>some br) (argC (op2 dSub (op2 dIx (vAt 0) (fun _=>some br)) (op2 dMod (op2 dIx (vAt 0) (fun _=>some br)) (fun _=>some (.int 60)))) argN)))))
def cI:List D->Option D:=via 1 1 gS
theorem pJ:∀ ds d,cI ds=some d->retOf (gS (beg 1 ds))=some d:=fun _ _ h=>aK h
theorem qi:∀ ds d,cI ds=some d->ds.length=1:=fun _ _ h=>aw h
theorem pU (s:WS):cI [s.d]=some (deed .zero s).d:=by simp [-dIx,cI,via,gS,br,w1,pu1,deed]
def tab_STEPS:List (Str×(List D->Option D)):=[(Str.ofString "none",cL),(Str.ofString "hour",cJ),(Str.ofString "minute",bS),(Str.ofString "zero",cI),(Str.ofString "ahour",be),(Str.ofString "aminute",aW),(Str.ofString "alarm",bn),(Str.ofString "run",bD),(Str.ofString "lap",cB),(Str.ofString "cminute",aV),(Str.ofString "csecond",aU),(Str.ofString "full",dg),(Str.ofString "count",bG)]
def gu:R->Option Out :=
  (seqD (asgD (op2 dIx (op2 dIx (op2 dIx (vAt 0) (fun _=>some (.int 2))) (op2 dIx (vAt 1) (fun _=>some cy))) (fun _=>some (.int 2))) (setAt 3))
  (seqD (asgD (op2 dIx (vAt 3) (op1 (dIdx dt) (vAt 2))) (setAt 4))
  (fnD 5 tab_STEPS (op2 dIx (vAt 4) (fun _=>some (.int 0))) (fun G_=>(retD (callD aM (argC (callD G_ (argC (vAt 1) argN)) (argC (fun _=>some cy) (argC (op2 dIx (vAt 4) (fun _=>some (.int 1))) argN)))))))))
def bw:List D->Option D:=via 3 6 gu
theorem lq:∀ ds d,bw ds=some d->retOf (gu (beg 6 ds))=some d:=fun _ _ h=>aK h
theorem lp:∀ ds d,bw ds=some d->ds.length=3:=fun _ _ h=>aw h
theorem sy (d:Deed) (s:WS) (h:s.lk.length<=4):∃ F,tab_STEPS.lookup d.x=some F/\F [s.d]=some (deed d s).d:=by
 cases d
 ·exact ⟨_,rfl,qg s⟩
 ·exact ⟨_,rfl,pG s⟩
 ·exact ⟨_,rfl,mR s⟩
 ·exact ⟨_,rfl,pU s⟩
 ·exact ⟨_,rfl,iE s⟩
 ·exact ⟨_,rfl,gk s⟩
 ·exact ⟨_,rfl,jI s⟩
 ·exact ⟨_,rfl,jR s⟩
 ·exact ⟨_,rfl,nB s h⟩
 ·exact ⟨_,rfl,gC s⟩
 ·exact ⟨_,rfl,gh s⟩
 ·exact ⟨_,rfl,qV s⟩
 ·exact ⟨_,rfl,iY s⟩
theorem idx_x (x:Btn):dIdx dt (.str x.x)=some (.int (x.ix:Int)):=by cases x<;>rfl
theorem idx_X (x:Btn):dIdx dt (.str x.X)=some (.int ((x.ix+3:Nat):Int)):=by cases x<;>rfl
theorem fnS {i:Nat} {tab:List (Str×(List D->Option D))} {f:R->Option D} {g:(List D->Option D)->R->Option Out} {ρ:R} {z:Str} {F:List D->Option D} {o:Option Out} (h1:f ρ=some (.str z)) (h2:tab.lookup z=some F) (hi:i<ρ.length) (h3:g F (ρ.set i none)=o):fnD i tab f g ρ=o:=by
 unfold fnD
 rw [h1]
 show (tab.lookup z).bind _=_
 rw [h2]
 show (if i<ρ.length then g F (ρ.set i none) else none)=_
 rw [if_pos hi,h3]
theorem gG {b:Bk} {s:WS} (ok:b.Ok) (w:s.Wk b) {p:Str} {i:Nat} (hi:i<6) (hp:dIdx dt (.str p)=some (.int (i:Int))):bw [b.d,s.d,.str p]=some (press b s i).d:=by
 have hm:=iQ b w.mode
 have h6:=(ok.all _ (mB b w.mode)).six
 have hr:=qZ (b.modes.getD s.mode default) (i:=i) (by rw [h6];exact hi)
 obtain ⟨F,hF,hs⟩:=sy (b.row s.mode i).1 s w.lk
 unfold Bk.row at hF hs
 unfold press Bk.row
 generalize (b.modes.getD s.mode default)=md at *
 generalize (md.rows.getD i (Deed.none,0))=rw_ at *
 exact viaS ((seqN (asgS (opS (opS (opS rfl rfl (b2 b)) (opS rfl rfl (w0 s)) hm) rfl (m2 md)) rfl)).trans ((seqN (asgS (opS rfl (o1S rfl hp) hr) rfl)).trans
  (fnS (opS rfl rfl (r0 rw_)) hF (by simp) (retS (callS (arS (callS rfl hs) (arS rfl (arS (opS rfl rfl (r1 rw_)) rfl))) (pu0 _ _))))))
def mT:R->Option Out :=
  (seqD (ifD (notT (truT (callD bx (argC (vAt 1) (argC (vAt 2) argN)))))
  (retD (vAt 1))
  nextD)
  (seqD (ifD (truT (callD cC (argC (vAt 1) (argC (vAt 2) argN))))
  (asgD (callD bw (argC (vAt 0) (argC (vAt 1) (argC (vAt 2) argN)))) (setAt 1))
  nextD)
  (retD (callD aM (argC (callD aM (argC (vAt 1) (argC (fun _=>some bu) (argC (fun _=>some .non) argN)))) (argC (fun _=>some c_) (argC (fun _=>some (.int 0)) argN)))))))
def dB:List D->Option D:=via 3 3 mT
theorem qY:∀ ds d,dB ds=some d->retOf (mT (beg 3 ds))=some d:=fun _ _ h=>aK h
theorem rK:∀ ds d,dB ds=some d->ds.length=3:=fun _ _ h=>aw h
theorem qO {b:Bk} {s:WS} (ok:b.Ok) (w:s.Wk b) (x:Btn):dB [b.d,s.d,.str x.x]=some (letGo b s x).d:=by
 have e1:=gi s x
 have e2:=nL s x
 have e3:=gG ok w x.ix6 (idx_x x)
 unfold letGo
 rcases hs:s.held with _ | ⟨y,k⟩<;>rw [hs] at e1 e2
 ·exact viaS (seqR ((ifT (ntS (trS (callS rfl e1)))).trans (retS rfl)))
 ·by_cases hy:y=x
  ·subst hy
   simp only [decide_true,Bool.true_and] at e1 e2
   dsimp only
   rw [if_pos rfl]
   cases k with
   | none=>exact viaS ((seqN (ifF (ntS (trS (callS rfl e1))))).trans ((seqN (ifF (trS (callS rfl e2)))).trans (retS (callS (arS (callS rfl (pu6n s)) rfl) (pu7 _ 0)))))
   | some j=>exact viaS ((seqN (ifF (ntS (trS (callS rfl e1))))).trans ((seqN ((ifT (trS (callS rfl e2))).trans (asgS (callS rfl e3) rfl))).trans (retS (callS (arS (callS rfl (pu6n _)) rfl) (pu7 _ 0)))))
  ·dsimp only at e1 ⊢
   rw [decide_eq_false hy] at e1
   rw [if_neg hy]
   exact viaS (seqR ((ifT (ntS (trS (callS rfl e1)))).trans (retS rfl)))
def mr:R->Option Out :=
  (seqD (ifD (cmp2 cNotN (op2 dIx (vAt 0) (fun _=>some bu)) (fun _=>some .non))
  (retD (vAt 0))
  nextD)
  (seqD (asgD (ifE (cmp2 cGt (op2 dIx (vAt 0) (fun _=>some eQ)) (fun _=>some (.int 0))) (fun _=>some .non) (fun _=>some (.int 0))) (setAt 2))
  (retD (callD aM (argC (callD aM (argC (callD aM (argC (vAt 0) (argC (fun _=>some eQ) (argC (fun _=>some (.int 0)) argN)))) (argC (fun _=>some bu) (argC (tupD (argC (vAt 1) (argC (vAt 2) argN))) argN)))) (argC (fun _=>some c_) (argC (fun _=>some (.int 0)) argN)))))))
def dH:List D->Option D:=via 2 3 mr
theorem rP:∀ ds d,dH ds=some d->retOf (mr (beg 3 ds))=some d:=fun _ _ h=>aK h
theorem qW:∀ ds d,dH ds=some d->ds.length=2:=fun _ _ h=>aw h
theorem rM (s:WS) (x:Btn):dH [s.d,.str x.x]=some (pushed s x).d:=by
 have e6:=w6 s
 have e5:=w5 s
 unfold pushed
 cases hh:s.held with
 | some v =>
  rw [hh] at e6
  exact viaS (seqR ((ifT (cmS (opS rfl rfl e6) rfl rfl)).trans (retS rfl)))
 | none =>
  rw [hh] at e6
  by_cases hr:0<s.ring
  ·have z:=pu6s {s with ring:=0} x none
   simp only [Option.isSome_none,Bool.false_eq_true,if_false,if_pos hr]
   exact viaS ((seqN (ifF (cmS (opS rfl rfl e6) rfl rfl))).trans ((seqN (asgS (ieT (cmS (opS rfl rfl e5) rfl (dT hr)) rfl) rfl)).trans (retS (callS (arS (callS (arS (callS rfl (pu5 s 0)) rfl) z) rfl) (pu7 _ 0)))))
  ·have z:=pu6s {s with ring:=0} x (some 0)
   simp only [Option.isSome_none,Bool.false_eq_true,if_false,if_neg hr]
   exact viaS ((seqN (ifF (cmS (opS rfl rfl e6) rfl rfl))).trans ((seqN (asgS (ieF (cmS (opS rfl rfl e5) rfl (dF hr)) rfl) rfl)).trans (retS (callS (arS (callS (arS (callS rfl (pu5 s 0)) rfl) z) rfl) (pu7 _ 0)))))
def jq:R->Option Out :=
  (seqD (ifD (notT (truT (op2 dIx (vAt 0) (fun _=>some (.int 3)))))
  (retD (vAt 0))
  nextD)
  (seqD (asgD (callD fMax (argC (fun _=>some (.int 0)) (argC (op2 dSub (op2 dIx (vAt 0) (fun _=>some (.int 2))) (vAt 1)) argN))) (setAt 2))
  (retD (tupD (argC (op2 dIx (vAt 0) (fun _=>some (.int 0))) (argC (op2 dIx (vAt 0) (fun _=>some (.int 1))) (argC (vAt 2) (argC (asV (cmp2 cGt (vAt 2) (fun _=>some (.int 0)))) argN))))))))
def cw:List D->Option D:=via 2 3 jq
theorem m_:∀ ds d,cw ds=some d->retOf (jq (beg 3 ds))=some d:=fun _ _ h=>aK h
theorem nG:∀ ds d,cw ds=some d->ds.length=2:=fun _ _ h=>aw h
theorem oA (s:WS) (n:Int):cw [s.countD,.int n]=some (.tup [.int s.cm,.int s.cs,.int (leftOn s n),.bl (runsOn s n)]):=by
 have e1:leftOn s n=if s.cr then mx 0 (s.cl - n) else s.cl:=rfl
 have e2:runsOn s n=(s.cr&&decide (0<mx 0 (s.cl - n))):=rfl
 rw [e1,e2]
 have t:truT (op2 dIx (vAt 0) (fun _=>some (.int 3))) [some s.countD,some (.int n),none]=some s.cr:=trS (opS rfl rfl (wc3 s))
 cases hr:s.cr with
 | false =>
  rw [hr] at t
  have q:s.countD=.tup [.int s.cm,.int s.cs,.int s.cl,.bl false]:=by rw [<- hr];rfl
  exact (viaS (seqR ((ifT (ntS (b:=false) t)).trans (retS rfl)))).trans (congrArg some q)
 | true =>
  rw [hr] at t
  exact viaS ((seqN ((ifF (ntS (b:=true) t)).trans rfl)).trans ((seqN (asgS (callS (arS rfl (arS (opS (opS rfl rfl (wc2 s)) rfl rfl) rfl)) (fmx _ _)) rfl)).trans (retS (tupS (arS (opS rfl rfl (wc0 s)) (arS (opS rfl rfl (wc1 s)) (arS rfl (arS (asS (cmS rfl rfl rfl)) rfl))))))))
def kt:R->Option Out :=
  (seqD (ifD (orT (cmp2 cIsN (vAt 0) (fun _=>some .non)) (cmp2 cIsN (op2 dIx (vAt 0) (fun _=>some (.int 1))) (fun _=>some .non)))
  (retD (vAt 0))
  nextD)
  (retD (tupD (argC (op2 dIx (vAt 0) (fun _=>some (.int 0))) (argC (op2 dAdd (op2 dIx (vAt 0) (fun _=>some (.int 1))) (vAt 1)) argN)))))
def cW:List D->Option D:=via 2 2 kt
theorem pR:∀ ds d,cW ds=some d->retOf (kt (beg 2 ds))=some d:=fun _ _ h=>aK h
theorem qo:∀ ds d,cW ds=some d->ds.length=2:=fun _ _ h=>aw h
theorem pD (h:Option (Btn×Option Int)) (n:Int):cW [heldD h,.int n]=some (heldD (heldOn h n)):=by
 rcases h with _ | ⟨x,_ | k⟩
 ·exact viaS (seqR ((ifT (orL (cmS rfl rfl rfl))).trans (retS rfl)))
 ·exact viaS (seqR ((ifT (orR (cmS rfl rfl rfl) (cmS (opS rfl rfl rfl) rfl rfl))).trans (retS rfl)))
 ·exact viaS ((seqN ((ifF (orR (cmS rfl rfl rfl) (cmS (opS rfl rfl rfl) rfl rfl))).trans rfl)).trans (retS (tupS (arS (opS rfl rfl rfl) (arS (opS (opS rfl rfl rfl) rfl rfl) rfl)))))
def eK:R->Option Out :=
 (retD (callD fMax (argC (fun _=>some (.int 1)) (argC (op2 dSub (op2 dIx (vAt 0) (fun _=>some (.int 1))) (op2 dIx (vAt 1) (fun _=>some c_))) argN))))
def aY:List D->Option D:=via 2 2 eK
theorem iC:∀ ds d,aY ds=some d->retOf (eK (beg 2 ds))=some d:=fun _ _ h=>aK h
theorem iH:∀ ds d,aY ds=some d->ds.length=2:=fun _ _ h=>aw h
theorem eI (b:Bk) (s:WS):aY [b.d,s.d]=some (.int (toBack b s)):=viaS (retS (callS (arS rfl (arS (opS (opS rfl rfl (b1 b)) (opS rfl rfl (w7 s)) rfl) rfl)) (fmx _ _)))
def kg:R->Option Out :=
  (seqD (ifD (orT (cmp2 cNotN (op2 dIx (vAt 1) (fun _=>some bu)) (fun _=>some .non)) (cmp2 cEq (op2 dIx (vAt 0) (fun _=>some (.int 1))) (fun _=>some (.int 0))))
  (retD (op2 dIx (vAt 1) (fun _=>some c_)))
  nextD)
  (seqD (asgD (callD aY (argC (vAt 0) (argC (vAt 1) argN))) (setAt 3))
  (retD (ifE (cmp2 cLt (vAt 2) (vAt 3)) (op2 dAdd (op2 dIx (vAt 1) (fun _=>some c_)) (vAt 2)) (op2 dMod (op2 dSub (vAt 2) (vAt 3)) (op2 dIx (vAt 0) (fun _=>some (.int 1))))))))
def cZ:List D->Option D:=via 3 4 kg
theorem qF:∀ ds d,cZ ds=some d->retOf (kg (beg 4 ds))=some d:=fun _ _ h=>aK h
theorem qD:∀ ds d,cZ ds=some d->ds.length=3:=fun _ _ h=>aw h
theorem pN {b:Bk} {s:WS} (n:Int) (hb:0<=b.back):cZ [b.d,s.d,.int n]=some (.int (idleOn b s n)):=by
 have e:=eI b s
 have e6:=w6 s
 have e7:=w7 s
 unfold idleOn
 cases hh:s.held with
 | some v =>
  rw [hh] at e6
  rw [if_pos (.inl rfl)]
  exact viaS (seqR ((ifT (orL (cmS (opS rfl rfl e6) rfl rfl))).trans (retS (opS rfl rfl e7))))
 | none =>
  rw [hh] at e6
  by_cases h0:b.back=0
  ·rw [if_pos (.inr h0)]
   exact viaS (seqR ((ifT (orR (cmS (opS rfl rfl e6) rfl rfl) (cmS (opS rfl rfl (b1 b)) rfl (bqT h0)))).trans (retS (opS rfl rfl e7))))
  ·have hp:0<b.back:=by omega
   have q1:ifD (orT (cmp2 cNotN (op2 dIx (vAt 1) (fun _=>some bu)) (fun _=>some .non)) (cmp2 cEq (op2 dIx (vAt 0) (fun _=>some (.int 1))) (fun _=>some (.int 0)))) (retD (op2 dIx (vAt 1) (fun _=>some c_))) nextD [some b.d,some s.d,some (.int n),none]=some (.nx [some b.d,some s.d,some (.int n),none]) :=
    ifF (orR (cmS (opS rfl rfl e6) rfl rfl) (cmS (opS rfl rfl (b1 b)) rfl (bqF h0)))
   rw [if_neg (by rintro (z | z);cases z;exact h0 z)]
   by_cases h1:n<toBack b s
   ·rw [if_pos h1]
    exact viaS ((seqN q1).trans ((seqN (asgS (callS rfl e) rfl)).trans (retS (ieT (cmS (x:=.int n) (y:=.int (toBack b s)) rfl rfl (dT h1)) (opS (opS rfl rfl e7) rfl rfl)))))
   ·rw [if_neg h1]
    exact viaS ((seqN q1).trans ((seqN (asgS (callS rfl e) rfl)).trans (retS (ieF (cmS (x:=.int n) (y:=.int (toBack b s)) rfl rfl (dF h1)) (opS rfl (opS rfl rfl (b1 b)) (modS hp))))))
def kd:R->Option Out :=
 (retD (ifE (truT (op2 dIx (vAt 0) (fun _=>some (.int 1)))) (tupD (argC (op2 dAdd (op2 dIx (vAt 0) (fun _=>some (.int 0))) (vAt 1)) (argC (fun _=>some (.bl true)) (argC (op2 dIx (vAt 0) (fun _=>some (.int 2))) argN)))) (vAt 0)))
def cY:List D->Option D:=via 2 2 kd
theorem ql:∀ ds d,cY ds=some d->retOf (kd (beg 2 ds))=some d:=fun _ _ h=>aK h
theorem pV:∀ ds d,cY ds=some d->ds.length=2:=fun _ _ h=>aw h
theorem qp (s:WS) (n:Int):cY [s.lapsD,.int n]=some (.tup [.int (lapsOn s n),.bl s.lr,.tup (s.lk.map .int)]):=by
 have e:lapsOn s n=if s.lr then s.lm+n else s.lm:=rfl
 rw [e]
 have t:truT (op2 dIx (vAt 0) (fun _=>some (.int 1))) [some s.lapsD,some (.int n)]=some s.lr:=trS (opS rfl rfl (wl1 s))
 cases hr:s.lr with
 | false =>
  rw [hr] at t
  have q:s.lapsD=.tup [.int s.lm,.bl false,.tup (s.lk.map .int)]:=by rw [<- hr];rfl
  exact (viaS (retS (ieF t rfl))).trans (congrArg some q)
 | true =>
  rw [hr] at t
  exact viaS (retS (ieT t (tupS (arS (opS (opS rfl rfl (wl0 s)) rfl rfl) (arS rfl (arS (opS rfl rfl (wl2 s)) rfl))))))
def gc:R->Option Out :=
  (seqD (asgD (op2 dIx (vAt 0) (fun _=>some bB)) (setAt 1))
  (seqD (ifD (notT (truT (op2 dIx (vAt 1) (fun _=>some (.int 2)))))
  (retD (fun _=>some .non))
  nextD)
  (seqD (asgD (op2 dAdd (op2 dMul (fun _=>some (.int 3600)) (op2 dIx (vAt 1) (fun _=>some (.int 0)))) (op2 dMul (fun _=>some (.int 60)) (op2 dIx (vAt 1) (fun _=>some (.int 1))))) (setAt 2))
  (retD (op2 dAdd (op2 dMod (op2 dSub (op2 dSub (vAt 2) (op2 dIx (vAt 0) (fun _=>some br))) (fun _=>some (.int 1))) (fun _=>some gw)) (fun _=>some (.int 1)))))))
def bi:List D->Option D:=via 1 3 gc
theorem lh:∀ ds d,bi ds=some d->retOf (gc (beg 3 ds))=some d:=fun _ _ h=>aK h
theorem kQ:∀ ds d,bi ds=some d->ds.length=1:=fun _ _ h=>aw h
theorem kG (s:WS):bi [s.d]=some (optI (alarmTick s)):=by
 have e2:=wa2 s
 unfold alarmTick
 cases ha:s.aon<;>rw [ha] at e2
 ·exact viaS ((seqN (asgS (opS rfl rfl (w2 s)) rfl)).trans (seqR ((ifT (ntS (b:=false) (trS (opS rfl rfl e2)))).trans (retS rfl))))
 ·exact viaS ((seqN (asgS (opS rfl rfl (w2 s)) rfl)).trans ((seqN (ifF (ntS (b:=true) (trS (opS rfl rfl e2))))).trans ((seqN (asgS (opS (opS rfl (opS rfl rfl (wa0 s)) (mul3600 _)) (opS rfl (opS rfl rfl (wa1 s)) (mul60 _)) rfl) rfl)).trans (retS (opS (opS (opS (opS rfl (opS rfl rfl (w1 s)) rfl) rfl rfl) rfl (modS (by decide))) rfl rfl)))))
def ge:R->Option Out :=
  (seqD (asgD (op2 dIx (vAt 0) (fun _=>some bc)) (setAt 1))
  (retD (ifE (truT (op2 dIx (vAt 1) (fun _=>some (.int 3)))) (op2 dIx (vAt 1) (fun _=>some (.int 2))) (fun _=>some .non))))
def bz:List D->Option D:=via 1 2 ge
theorem kN:∀ ds d,bz ds=some d->retOf (ge (beg 2 ds))=some d:=fun _ _ h=>aK h
theorem kB:∀ ds d,bz ds=some d->ds.length=1:=fun _ _ h=>aw h
theorem kW (s:WS):bz [s.d]=some (optI (countTick s)):=by
 have e3:=wc3 s
 unfold countTick
 cases ha:s.cr<;>rw [ha] at e3
 ·exact viaS ((seqN (asgS (opS rfl rfl (w4 s)) rfl)).trans (retS (ieF (trS (opS rfl rfl e3)) rfl)))
 ·exact viaS ((seqN (asgS (opS rfl rfl (w4 s)) rfl)).trans (retS (ieT (trS (opS rfl rfl e3)) (opS rfl rfl (wc2 s)))))
def iu:R->Option Out :=
  (seqD (asgD (callD bi (argC (vAt 0) argN)) (setAt 2))
  (seqD (asgD (callD bz (argC (vAt 0) argN)) (setAt 3))
  (ownD 4 argN
  (obSeq (oIf (andT (cmp2 cNotN (vAt 2) (fun _=>some .non)) (cmp2 cLe (vAt 2) (vAt 1)))
  (oApp 4 (op2 dSub (vAt 1) (op2 dMod (op2 dSub (vAt 1) (vAt 2)) (fun _=>some gw))))
  oNext)
  (obSeq (oIf (andT (cmp2 cNotN (vAt 3) (fun _=>some .non)) (cmp2 cLe (vAt 3) (vAt 1)))
  (oApp 4 (vAt 3))
  oNext)
  (obRel (retD (callD fMaxD (argC (vAt 4) argN)))))))))
def bZ:List D->Option D:=via 2 5 iu
theorem mJ:∀ ds d,bZ ds=some d->retOf (iu (beg 5 ds))=some d:=fun _ _ h=>aK h
theorem mD:∀ ds d,bZ ds=some d->ds.length=2:=fun _ _ h=>aw h
def lrA (n:Int) (o:Option Int):List D:=match o with
 | some a=>if a<=n then [.int (n - (n - a)%86400)] else []
 | none=>[]
def lrC (n:Int) (o:Option Int):List D:=match o with
 | some c=>if c<=n then [.int c] else []
 | none=>[]
theorem lr_max (s:WS) (n:Int):fMaxD [.lst (lrA n (alarmTick s)++lrC n (countTick s))]=some (optI (lastRing s n)):=by
 unfold lastRing
 cases alarmTick s<;>cases countTick s
 ·rfl
 ·rename_i c;by_cases h:c<=n<;>simp [lrA,lrC,h,optI]
 ·rename_i a;by_cases h:a<=n<;>simp [lrA,lrC,h,optI]
 ·rename_i a c;by_cases h:a<=n<;>by_cases h':c<=n<;>simp [lrA,lrC,h,h',optI,mx]
theorem obS {p:R->List D->Option (Out×List D)} {q:R->List D->Option Out} {ρ ρ2:R} {ds ds2:List D} (h:p ρ ds=some (.nx ρ2,ds2)):obSeq p q ρ ds=q ρ2 ds2:=by simp [h]
theorem oIfT {c:R->Option Bool} {p q:R->List D->Option (Out×List D)} {ρ:R} {ds:List D} (h:c ρ=some true):oIf c p q ρ ds=p ρ ds:=by simp [h]
theorem oIfF {c:R->Option Bool} {p q:R->List D->Option (Out×List D)} {ρ:R} {ds:List D} (h:c ρ=some false):oIf c p q ρ ds=q ρ ds:=by simp [h]
theorem mK (s:WS) (n:Int):bZ [s.d,.int n]=some (optI (lastRing s n)):=by
 have e1:=kG s
 have e2:=kW s
 rw [<- lr_max]
 generalize alarmTick s=a at *
 generalize countTick s=c at *
 have z0:0<sizeLine:=by decide
 have z1:1<sizeLine:=by decide
 have q1:asgD (callD bi (argC (vAt 0) argN)) (setAt 2) [some s.d,some (.int n),none,none,none]=some (.nx [some s.d,some (.int n),some (optI a),none,none]):=by
  show (bi [s.d]).bind _=_
  rw [e1];rfl
 have q2:asgD (callD bz (argC (vAt 0) argN)) (setAt 3) [some s.d,some (.int n),some (optI a),none,none]=some (.nx [some s.d,some (.int n),some (optI a),some (optI c),none]):=by
  show (bz [s.d]).bind _=_
  rw [e2];rfl
 have q3:oIf (andT (cmp2 cNotN (vAt 2) (fun _=>some .non)) (cmp2 cLe (vAt 2) (vAt 1))) (oApp 4 (op2 dSub (vAt 1) (op2 dMod (op2 dSub (vAt 1) (vAt 2)) (fun _=>some gw)))) oNext [some s.d,some (.int n),some (optI a),some (optI c)] []=some (.nx [some s.d,some (.int n),some (optI a),some (optI c)],lrA n a):=by
  cases a with
  | none=>rfl
  | some a =>
   show _=some (Out.nx _,if a<=n then _ else _)
   by_cases h:a<=n
   ·rw [oIfT (dT h),if_pos h]
    show (if 4=4/\0<sizeLine then _ else none)=_
    rw [if_pos ⟨rfl,z0⟩];rfl
   ·rw [oIfF (dF h),if_neg h];rfl
 have hl:(lrA n a).length<=1:=by
  unfold lrA
  split
  ·split<;>simp
  ·simp
 have hl2:(lrA n a).length<sizeLine:=Nat.lt_of_le_of_lt hl z1
 have q4:oIf (andT (cmp2 cNotN (vAt 3) (fun _=>some .non)) (cmp2 cLe (vAt 3) (vAt 1))) (oApp 4 (vAt 3)) oNext [some s.d,some (.int n),some (optI a),some (optI c)] (lrA n a)=some (.nx [some s.d,some (.int n),some (optI a),some (optI c)],lrA n a++lrC n c):=by
  cases c with
  | none=>show some _=_;rw [show lrC n none=[] from rfl,List.append_nil]
  | some c =>
   show _=some (Out.nx _,lrA n a++if c<=n then _ else _)
   by_cases h:c<=n
   ·rw [oIfT (dT h),if_pos h]
    show (if 4=4/\(lrA n a).length<sizeLine then _ else none)=_
    rw [if_pos ⟨rfl,hl2⟩];rfl
   ·rw [oIfF (dF h),if_neg h,List.append_nil];rfl
 show retOf (seqD (asgD (callD bi (argC (vAt 0) argN)) (setAt 2)) _ [some s.d,some (.int n),none,none,none])=_
 rw [seqN q1,seqN q2]
 show retOf (obSeq (oIf (andT (cmp2 cNotN (vAt 2) (fun _=>some .non)) (cmp2 cLe (vAt 2) (vAt 1))) (oApp 4 (op2 dSub (vAt 1) (op2 dMod (op2 dSub (vAt 1) (vAt 2)) (fun _=>some gw)))) oNext) _ [some s.d,some (.int n),some (optI a),some (optI c)] [])=_
 rw [obS q3,obS q4]
 show retOf ((fMaxD [.lst (lrA n a++lrC n c)]).map .rt)=_
 cases fMaxD [.lst (lrA n a++lrC n c)]<;>rfl
def ku:R->Option Out :=
  (seqD (asgD (callD bZ (argC (vAt 0) (argC (vAt 1) argN))) (setAt 2))
  (seqD (ifD (cmp2 cIsN (vAt 2) (fun _=>some .non))
  (retD (callD fMax (argC (fun _=>some (.int 0)) (argC (op2 dSub (op2 dIx (vAt 0) (fun _=>some eQ)) (vAt 1)) argN))))
  nextD)
  (retD (callD fMax (argC (fun _=>some (.int 0)) (argC (op2 dSub (fun _=>some dj) (op2 dSub (vAt 1) (vAt 2))) argN))))))
def de:List D->Option D:=via 2 3 ku
theorem pO:∀ ds d,de ds=some d->retOf (ku (beg 3 ds))=some d:=fun _ _ h=>aK h
theorem qA:∀ ds d,de ds=some d->ds.length=2:=fun _ _ h=>aw h
theorem pY (s:WS) (n:Int):de [s.d,.int n]=some (.int (ringOn s n)):=by
 have e:=mK s n
 unfold ringOn
 cases h:lastRing s n with
 | none =>
  rw [h] at e
  exact viaS ((seqN (asgS (callS rfl e) rfl)).trans (seqR ((ifT (cmS rfl rfl rfl)).trans (retS (callS (arS rfl (arS (opS (opS rfl rfl (w5 s)) rfl rfl) rfl)) (fmx _ _))))))
 | some l =>
  rw [h] at e
  exact viaS ((seqN (asgS (callS rfl e) rfl)).trans ((seqN ((ifF (cmS rfl rfl rfl)).trans rfl)).trans (retS (callS (arS rfl (arS (opS rfl (opS rfl rfl rfl) rfl) rfl)) (fmx _ _)))))
def kc:R->Option Out :=
 (retD (tupD (argC (op2 dIx (vAt 1) (fun _=>some cy)) (argC (op2 dMod (op2 dAdd (op2 dIx (vAt 1) (fun _=>some br)) (vAt 2)) (fun _=>some gw)) (argC (op2 dIx (vAt 1) (fun _=>some bB)) (argC (callD cY (argC (op2 dIx (vAt 1) (fun _=>some cu)) (argC (vAt 2) argN))) (argC (callD cw (argC (op2 dIx (vAt 1) (fun _=>some bc)) (argC (vAt 2) argN))) (argC (callD de (argC (vAt 1) (argC (vAt 2) argN))) (argC (callD cW (argC (op2 dIx (vAt 1) (fun _=>some bu)) (argC (vAt 2) argN))) (argC (callD cZ (argC (vAt 0) (argC (vAt 1) (argC (vAt 2) argN)))) argN))))))))))
def cg:List D->Option D:=via 3 3 kc
theorem pL:∀ ds d,cg ds=some d->retOf (kc (beg 3 ds))=some d:=fun _ _ h=>aK h
theorem qb:∀ ds d,cg ds=some d->ds.length=3:=fun _ _ h=>aw h
theorem ia {b:Bk} {s:WS} (n:Int) (hb:0<=b.back):cg [b.d,s.d,.int n]=some (counted b s n).d :=
 viaS (retS (tupS (arS (opS rfl rfl (w0 s)) (arS (opS (opS (opS rfl rfl (w1 s)) rfl rfl) rfl rfl) (arS (opS rfl rfl (w2 s)) (arS (callS (arS (opS rfl rfl (w3 s)) rfl) (qp s n)) (arS (callS (arS (opS rfl rfl (w4 s)) rfl) (oA s n)) (arS (callS rfl (pY s n)) (arS (callS (arS (opS rfl rfl (w6 s)) rfl) (pD s.held n)) (arS (callS rfl (pN n hb)) rfl))))))))))
def iB:R->Option Out :=
 (retD (andV (asV (cmp2 cGt (op2 dIx (vAt 0) (fun _=>some (.int 1))) (fun _=>some (.int 0)))) (andV (asV (cmp2 cNe (op2 dIx (vAt 1) (fun _=>some cy)) (fun _=>some (.int 0)))) (notV (op2 dIx (op2 dIx (op2 dIx (vAt 0) (fun _=>some (.int 2))) (op2 dIx (vAt 1) (fun _=>some cy))) (fun _=>some (.int 1)))))))
def cc:List D->Option D:=via 2 2 iB
theorem lV:∀ ds d,cc ds=some d->retOf (iB (beg 2 ds))=some d:=fun _ _ h=>aK h
theorem lB:∀ ds d,cc ds=some d->ds.length=2:=fun _ _ h=>aw h
theorem lY {b:Bk} {s:WS} (w:s.Wk b):cc [b.d,s.d]=some (.bl (goesBack b s)):=by
 have hm:=iQ b w.mode
 unfold goesBack
 have c1:asV (cmp2 cGt (op2 dIx (vAt 0) (fun _=>some (.int 1))) (fun _=>some (.int 0))) [some b.d,some s.d]=some (.bl (decide (0<b.back))):=asS (cmS (opS rfl rfl (b1 b)) rfl rfl)
 have e2:cNe (.int (s.mode:Int)) (.int 0)=some (!decide (s.mode=0)):=by
  show some (!((s.mode:Int)==0))=_
  cases s.mode<;>rfl
 have c2:asV (cmp2 cNe (op2 dIx (vAt 1) (fun _=>some cy)) (fun _=>some (.int 0))) [some b.d,some s.d]=some (.bl (!decide (s.mode=0))):=asS (cmS (opS rfl rfl (w0 s)) rfl e2)
 generalize b.modes.getD s.mode default=md at *
 have c3:notV (op2 dIx (op2 dIx (op2 dIx (vAt 0) (fun _=>some (.int 2))) (op2 dIx (vAt 1) (fun _=>some cy))) (fun _=>some (.int 1))) [some b.d,some s.d]=some (.bl !md.stays):=by
  show (op2 dIx _ _ _).bind _=_
  rw [opS (opS (opS rfl rfl (b2 b)) (opS rfl rfl (w0 s)) hm) rfl (m1 md)];rfl
 generalize decide (0<b.back)=p at *
 generalize (!decide (s.mode=0))=q at *
 cases p
 ·exact viaS (retS (anVF c1))
 ·cases q
  ·exact viaS (retS (anV c1 (anVF c2)))
  ·exact viaS (retS (anV c1 (anV c2 c3)))
def eD:R->Option Out :=
 (retD (callD fMax (argC (fun _=>some (.int 1)) (argC (op2 dSub (op2 dIx (vAt 0) (fun _=>some (.int 0))) (op2 dIx (op2 dIx (vAt 1) (fun _=>some bu)) (fun _=>some (.int 1)))) argN))))
def bv:List D->Option D:=via 2 2 eD
theorem iJ:∀ ds d,bv ds=some d->retOf (eD (beg 2 ds))=some d:=fun _ _ h=>aK h
theorem iI:∀ ds d,bv ds=some d->ds.length=2:=fun _ _ h=>aw h
theorem iN {b:Bk} {s:WS} {x:Btn} {k:Int} (h:s.held=some (x,some k)):bv [b.d,s.d]=some (.int (mx 1 (b.hold - k))):=by
 have e6:=w6 s
 rw [h] at e6
 exact viaS (retS (callS (arS rfl (arS (opS (opS rfl rfl (b0 b)) (opS (opS rfl rfl e6) rfl (h1 x (some k))) rfl) rfl)) (fmx _ _)))
def iy:R->Option Out :=
  (seqD (asgD (op2 dIx (vAt 1) (fun _=>some bu)) (setAt 2))
  (seqD (ifD (cmp2 cIsN (vAt 2) (fun _=>some .non))
  (retD (ifE (truT (callD cc (argC (vAt 0) (argC (vAt 1) argN)))) (callD aY (argC (vAt 0) (argC (vAt 1) argN))) (fun _=>some .non)))
  nextD)
  (retD (ifE (cmp2 cIsN (op2 dIx (vAt 2) (fun _=>some (.int 1))) (fun _=>some .non)) (fun _=>some .non) (callD bv (argC (vAt 0) (argC (vAt 1) argN)))))))
def bP:List D->Option D:=via 2 3 iy
theorem lW:∀ ds d,bP ds=some d->retOf (iy (beg 3 ds))=some d:=fun _ _ h=>aK h
theorem lM:∀ ds d,bP ds=some d->ds.length=2:=fun _ _ h=>aw h
theorem ip {b:Bk} {s:WS} (w:s.Wk b):bP [b.d,s.d]=some (optI (turnTick b s)):=by
 have e1:=lY w
 have e2:=eI b s
 have e6:=w6 s
 unfold turnTick
 rcases hs:s.held with _ | ⟨x,_ | k⟩<;>rw [hs] at e6
 ·cases hg:goesBack b s<;>rw [hg] at e1
  ·exact viaS ((seqN (asgS (opS rfl rfl e6) rfl)).trans (seqR ((ifT rfl).trans (retS (ieF (trS (callS rfl e1)) rfl)))))
  ·exact viaS ((seqN (asgS (opS rfl rfl e6) rfl)).trans (seqR ((ifT rfl).trans (retS (ieT (trS (callS rfl e1)) (callS rfl e2))))))
 ·exact viaS ((seqN (asgS (opS rfl rfl e6) rfl)).trans ((seqN (ifF rfl)).trans (retS (ieT rfl rfl))))
 ·have e3:=iN (b:=b) hs
  exact viaS ((seqN (asgS (opS rfl rfl e6) rfl)).trans ((seqN (ifF rfl)).trans (retS (ieF rfl (callS rfl e3)))))
def lH:R->Option Out :=
  (seqD (asgD (op2 dIx (vAt 1) (fun _=>some bu)) (setAt 2))
  (seqD (ifD (cmp2 cIsN (vAt 2) (fun _=>some .non))
  (retD (callD aM (argC (vAt 1) (argC (fun _=>some cy) (argC (fun _=>some (.int 0)) argN)))))
  nextD)
  (retD (callD bw (argC (vAt 0) (argC (callD aM (argC (vAt 1) (argC (fun _=>some bu) (argC (tupD (argC (op2 dIx (vAt 2) (fun _=>some (.int 0))) (argC (fun _=>some .non) argN))) argN)))) (argC (op1 dUp (op2 dIx (vAt 2) (fun _=>some (.int 0)))) argN)))))))
def dG:List D->Option D:=via 2 3 lH
theorem rm:∀ ds d,dG ds=some d->retOf (lH (beg 3 ds))=some d:=fun _ _ h=>aK h
theorem qP:∀ ds d,dG ds=some d->ds.length=2:=fun _ _ h=>aw h
theorem up_x (x:Btn):dUp (.str x.x)=some (.str x.X):=by cases x<;>rfl
theorem turned_none {b:Bk} {s:WS} (h:s.held=none):turned b s={s with mode:=0}:=by
 unfold turned
 split
 ·rfl
 ·rename_i e;rw [h] at e;cases e
theorem turned_some {b:Bk} {s:WS} {x:Btn} {k:Option Int} (h:s.held=some (x,k)):turned b s=press b {s with held:=some (x,none)} (x.ix+3):=by
 unfold turned
 split
 ·rename_i e;rw [h] at e;cases e
 ·rename_i e;rw [h] at e;cases e;rfl
theorem sg {b:Bk} {s:WS} (ok:b.Ok) (w:s.Wk b):dG [b.d,s.d]=some (turned b s).d:=by
 have e6:=w6 s
 rcases hs:s.held with _ | ⟨x,k⟩<;>rw [hs] at e6
 ·rw [turned_none hs]
  exact viaS ((seqN (asgS (opS rfl rfl e6) rfl)).trans (seqR ((ifT rfl).trans (retS (callS rfl (pu0 s 0))))))
 ·have e:=gG (s:={s with held:=some (x,none)}) ok {w with} x.ix3 (idx_X x)
  rw [turned_some hs]
  exact viaS ((seqN (asgS (opS rfl rfl e6) rfl)).trans ((seqN (ifF rfl)).trans (retS (callS (arS rfl (arS (callS (arS rfl (arS rfl (arS (tupS (arS (opS rfl rfl (h0 x k)) rfl)) rfl))) (pu6z s x)) (arS (o1S (opS rfl rfl (h0 x k)) (up_x x)) rfl))) e))))
def dS:R->Option Out :=
 (retD (callD dG (argC (vAt 0) (argC (callD cg (argC (vAt 0) (argC (vAt 1) (argC (callD bP (argC (vAt 0) (argC (vAt 1) argN))) argN)))) argN))))
def bE:List D->Option D:=via 2 2 dS
theorem jZ:∀ ds d,bE ds=some d->retOf (dS (beg 2 ds))=some d:=fun _ _ h=>aK h
theorem jW:∀ ds d,bE ds=some d->ds.length=2:=fun _ _ h=>aw h
theorem rT {b:Bk} {s:WS} {t:Int} (ok:b.Ok) (w:s.Wk b) (h:turnTick b s=some t):bE [b.d,s.d]=some (behind b s t).d:=by
 have e1:=ip w
 rw [h] at e1
 have ht:=turn_pos h
 have e2:=ia (s:=s) t ok.back0
 have e3:=sg ok (w.cnt (n:=t) (by omega))
 simp only [optI] at e1
 simp [bE,via,dS,e1,e2,e3,behind]
def iw:R->Option Out :=
  (seqD (asgD (callD bP (argC (vAt 0) (argC (vAt 1) argN))) (setAt 3))
  (seqD (ifD (orT (cmp2 cIsN (vAt 3) (fun _=>some .non)) (cmp2 cGt (vAt 3) (vAt 2)))
  (retD (lstD (argC (tupD (argC (fun _=>some (.int 0)) (argC (vAt 1) (argC (vAt 2) argN)))) argN)))
  nextD)
  (retD (lstD (argC (tupD (argC (fun _=>some (.int 0)) (argC (vAt 1) (argC (vAt 3) argN)))) (argC (tupD (argC (vAt 3) (argC (callD bE (argC (vAt 0) (argC (vAt 1) argN))) (argC (op2 dSub (vAt 2) (vAt 3)) argN)))) argN))))))
def b_:List D->Option D:=via 3 4 iw
theorem mz:∀ ds d,b_ ds=some d->retOf (iw (beg 4 ds))=some d:=fun _ _ h=>aK h
theorem mF:∀ ds d,b_ ds=some d->ds.length=3:=fun _ _ h=>aw h
def stretchesD (b:Bk) (s:WS) (n:Int):List D:=match turnTick b s with
 | none=>[.tup [.int 0,s.d,.int n]]
 | some t=>if n<t then [.tup [.int 0,s.d,.int n]] else [.tup [.int 0,s.d,.int t],.tup [.int t,(behind b s t).d,.int (n - t)]]
theorem lC {b:Bk} {s:WS} (n:Int) (ok:b.Ok) (w:s.Wk b):b_ [b.d,s.d,.int n]=some (.lst (stretchesD b s n)):=by
 have e1:=ip w
 unfold stretchesD
 cases h:turnTick b s with
 | none =>
  rw [h] at e1
  exact viaS ((seqN (asgS (callS rfl e1) rfl)).trans (seqR ((ifT (orL rfl)).trans (retS rfl))))
 | some t =>
  have e2:=rT ok w h
  rw [h] at e1
  dsimp only
  by_cases hn:n<t
  ·rw [if_pos hn]
   exact viaS ((seqN (asgS (callS rfl e1) rfl)).trans (seqR ((ifT (orR rfl (cmS rfl rfl (dT hn)))).trans (retS rfl))))
  ·rw [if_neg hn]
   exact viaS ((seqN (asgS (callS rfl e1) rfl)).trans ((seqN (ifF (orR rfl (cmS rfl rfl (dF hn))))).trans (retS (lstS (arS rfl (arS (tupS (arS rfl (arS (callS rfl e2) rfl))) rfl))))))
def mG:R->Option Out :=
  (seqD (asgD (op2 dIx (callD b_ (argC (vAt 0) (argC (vAt 1) (argC (vAt 2) argN)))) (op1 dNeg (fun _=>some (.int 1)))) (setAt 3))
  (retD (callD cg (argC (vAt 0) (argC (op2 dIx (vAt 3) (fun _=>some (.int 1))) (argC (op2 dIx (vAt 3) (fun _=>some (.int 2))) argN))))))
def dA:List D->Option D:=via 3 4 mG
theorem rQ:∀ ds d,dA ds=some d->retOf (mG (beg 4 ds))=some d:=fun _ _ h=>aK h
theorem rn:∀ ds d,dA ds=some d->ds.length=3:=fun _ _ h=>aw h
theorem rf {b:Bk} {s:WS} (n:Int) (ok:b.Ok) (w:s.Wk b):dA [b.d,s.d,.int n]=some (ticked b s n).d:=by
 have e1:=lC n ok w
 unfold stretchesD at e1
 unfold ticked
 have e2:=ia (s:=s) n ok.back0
 cases h:turnTick b s with
 | none =>
  rw [h] at e1
  exact viaS ((seqN (asgS (opS (callS rfl e1) rfl rfl) rfl)).trans (retS (callS rfl e2)))
 | some t =>
  rw [h] at e1
  dsimp only at e1 ⊢
  have e3:=ia (s:=behind b s t) (n - t) ok.back0
  by_cases hn:n<t
  ·rw [if_pos hn] at e1 ⊢
   exact viaS ((seqN (asgS (opS (callS rfl e1) rfl rfl) rfl)).trans (retS (callS rfl e2)))
  ·rw [if_neg hn] at e1 ⊢
   exact viaS ((seqN (asgS (opS (callS rfl e1) rfl rfl) rfl)).trans (retS (callS rfl e3)))
def qQ:R->Option Out :=
  (seqD (ifD (cmp2 cEq (op2 dIx (vAt 2) (fun _=>some (.int 0))) (fun _=>some (.str (Str.ofString "down"))))
  (retD (callD dH (argC (vAt 1) (argC (op2 dIx (vAt 2) (fun _=>some (.int 1))) argN))))
  nextD)
  (seqD (ifD (cmp2 cEq (op2 dIx (vAt 2) (fun _=>some (.int 0))) (fun _=>some (.str (Str.ofString "up"))))
  (retD (callD dB (argC (vAt 0) (argC (vAt 1) (argC (op2 dIx (vAt 2) (fun _=>some (.int 1))) argN)))))
  nextD)
  (retD (callD dA (argC (vAt 0) (argC (vAt 1) (argC (op2 dIx (vAt 2) (fun _=>some (.int 1))) argN)))))))
def cP:List D->Option D:=via 3 3 qQ
theorem tS:∀ ds d,cP ds=some d->retOf (qQ (beg 3 ds))=some d:=fun _ _ h=>aK h
theorem t_:∀ ds d,cP ds=some d->ds.length=3:=fun _ _ h=>aw h
theorem ev_eq1:cEq (.str (Str.ofString "down")) (.str (Str.ofString "down"))=some true:=rfl
theorem ev_eq2:cEq (.str (Str.ofString "up")) (.str (Str.ofString "down"))=some false:=rfl
theorem ev_eq3:cEq (.str (Str.ofString "ticks")) (.str (Str.ofString "down"))=some false:=rfl
theorem ev_eq4:cEq (.str (Str.ofString "up")) (.str (Str.ofString "up"))=some true:=rfl
theorem ev_eq5:cEq (.str (Str.ofString "ticks")) (.str (Str.ofString "up"))=some false:=rfl
theorem kK {b:Bk} {s:WS} (ok:b.Ok) (w:s.Wk b) (e:Ev):cP [b.d,s.d,e.d]=some (gone b s e).d:=by
 cases e with
 | down x=>exact viaS (seqR ((ifT (cmS rfl rfl ev_eq1)).trans (retS (callS rfl (rM s x)))))
 | up x=>exact viaS ((seqN (ifF (cmS rfl rfl ev_eq2))).trans (seqR ((ifT (cmS rfl rfl ev_eq4)).trans (retS (callS rfl (qO ok w x))))))
 | ticks n=>exact viaS ((seqN (ifF (cmS rfl rfl ev_eq3))).trans ((seqN (ifF (cmS rfl rfl ev_eq5))).trans (retS (callS rfl (rf n ok w)))))
def iq:R->Option Out :=
 (asgD (callD cP (argC (vAt 0) (argC (vAt 1) (argC (vAt 3) argN)))) (setAt 1))
def gR:R->Option Out:=iq
def il:R->Option Out :=
 (loopD (inSeq (vAt 2)) (setAt 3) gR)
def ko:R->Option Out :=
 (retD (vAt 1))
def oP:R->Option Out :=
 (seqD il ko)
def ej:List D->Option D:=via 3 4 oP
theorem sk:∀ ds d,ej ds=some d->retOf (oP (beg 4 ds))=some d:=fun _ _ h=>aK h
theorem sE:∀ ds d,ej ds=some d->ds.length=3:=fun _ _ h=>aw h
theorem after_loop {b:Bk} (ok:b.Ok) (rw_:Option D):∀ (es:List Ev) (s:WS) (o:Option D),s.Ok b->(∀ e∈es,e.Ok) ->
  ∃ o',forD (setAt 3) gR (es.map Ev.d) [some b.d,some s.d,rw_,o]=some (.nx [some b.d,some (afterE b s es).d,rw_,o'])
 | [],s,o,_,_=>⟨o,rfl⟩
 | e::es,s,o,w,h=>by
  obtain ⟨o',ih⟩:=after_loop ok rw_ es (gone b s e) (some e.d) (gone_ok ok w e (h e List.mem_cons_self)) fun x hx=>h x (List.mem_cons_of_mem _ hx)
  refine ⟨o',?_⟩
  rw [List.map_cons,forD_go (ρ1:=[some b.d,some s.d,rw_,some e.d]) rfl (ρ2:=[some b.d,some (gone b s e).d,rw_,some e.d]) (by simp [gR,iq,kK ok w.toWk e]),ih]
  rfl
theorem sh {b:Bk} {s:WS} (ok:b.Ok) (w:s.Ok b) (es:List Ev) (h:∀ e∈es,e.Ok):ej [b.d,s.d,.tup (es.map Ev.d)]=some (afterE b s es).d:=by
 obtain ⟨o',e⟩:=after_loop ok (some (.tup (es.map Ev.d))) es s none w h
 have e1:il [some b.d,some s.d,some (.tup (es.map Ev.d)),none]=_:=loop_of rfl e
 show (if (3:Nat)=3 then retOf (seqD il ko [some b.d,some s.d,some (.tup (es.map Ev.d)),none]) else none)=_
 rw [if_pos rfl,seqN e1]
 rfl
def jF:R->Option Out :=
 (retD (isD "bool" (vAt 0)))
def bH:List D->Option D:=via 1 1 jF
theorem ou:∀ ds d,bH ds=some d->retOf (jF (beg 1 ds))=some d:=fun _ _ h=>aK h
theorem nc:∀ ds d,bH ds=some d->ds.length=1:=fun _ _ h=>aw h
def fJ:R->Option Out :=
 (retD (andV (isD "tuple" (vAt 0)) (asV (cmp2 cEq (callD fLen (argC (vAt 0) argN)) (vAt 1)))))
def aL:List D->Option D:=via 2 2 fJ
theorem jY:∀ ds d,aL ds=some d->retOf (fJ (beg 2 ds))=some d:=fun _ _ h=>aK h
theorem jQ:∀ ds d,aL ds=some d->ds.length=2:=fun _ _ h=>aw h
def jv:R->Option Out :=
 (retD (andV (isD "int" (vAt 0)) (notV (isD "bool" (vAt 0)))))
def cF:List D->Option D:=via 1 1 jv
theorem mV:∀ ds d,cF ds=some d->retOf (jv (beg 1 ds))=some d:=fun _ _ h=>aK h
theorem ow:∀ ds d,cF ds=some d->ds.length=1:=fun _ _ h=>aw h
def ki:R->Option Out :=
 (retD (andV (callD cF (argC (vAt 0) argN)) (asV (cmp2 cLe (vAt 1) (vAt 0)))))
def bp:List D->Option D:=via 2 2 ki
theorem qf:∀ ds d,bp ds=some d->retOf (ki (beg 2 ds))=some d:=fun _ _ h=>aK h
theorem pC:∀ ds d,bp ds=some d->ds.length=2:=fun _ _ h=>aw h
def iz:R->Option Out :=
 (retD (andV (callD bp (argC (vAt 0) (argC (vAt 1) argN))) (asV (cmp2 cLe (vAt 0) (vAt 2)))))
def aI:List D->Option D:=via 3 3 iz
theorem mH:∀ ds d,aI ds=some d->retOf (iz (beg 3 ds))=some d:=fun _ _ h=>aK h
theorem mw:∀ ds d,aI ds=some d->ds.length=3:=fun _ _ h=>aw h
def jA:R->Option Out :=
  (seqD (ifD (notT (truT (callD aL (argC (vAt 0) (argC (fun _=>some (.int 3)) argN)))))
  (retD (fun _=>some (.bl false)))
  nextD)
  (retD (andV (callD aI (argC (op2 dIx (vAt 0) (fun _=>some (.int 0))) (argC (fun _=>some (.int 0)) (argC (fun _=>some (.int 23)) argN)))) (andV (callD aI (argC (op2 dIx (vAt 0) (fun _=>some (.int 1))) (argC (fun _=>some (.int 0)) (argC (fun _=>some (.int 59)) argN)))) (callD bH (argC (op2 dIx (vAt 0) (fun _=>some (.int 2))) argN))))))
def cA:List D->Option D:=via 1 1 jA
theorem nv:∀ ds d,cA ds=some d->retOf (jA (beg 1 ds))=some d:=fun _ _ h=>aK h
theorem ot:∀ ds d,cA ds=some d->ds.length=1:=fun _ _ h=>aw h
def dC:R->Option Out :=
  (seqD (ifD (orT (notT (truT (callD aI (argC (vAt 0) (argC (fun _=>some (.int 0)) (argC (fun _=>some eX) argN)))))) (notT (truT (callD bH (argC (vAt 1) argN)))))
  (retD (fun _=>some (.bl false)))
  nextD)
  (retD (orV (asV (cmp2 cGt (vAt 0) (fun _=>some (.int 0)))) (notV (vAt 1)))))
def aZ:List D->Option D:=via 2 2 dC
theorem fQ:∀ ds d,aZ ds=some d->retOf (dC (beg 2 ds))=some d:=fun _ _ h=>aK h
theorem fT:∀ ds d,aZ ds=some d->ds.length=2:=fun _ _ h=>aw h
def jG:R->Option Out :=
  (seqD (ifD (notT (truT (callD aL (argC (vAt 0) (argC (fun _=>some (.int 4)) argN)))))
  (retD (fun _=>some (.bl false)))
  nextD)
  (retD (andV (callD aI (argC (op2 dIx (vAt 0) (fun _=>some (.int 0))) (argC (fun _=>some (.int 0)) (argC (fun _=>some (.int 59)) argN)))) (andV (callD aI (argC (op2 dIx (vAt 0) (fun _=>some (.int 1))) (argC (fun _=>some (.int 0)) (argC (fun _=>some (.int 59)) argN)))) (callD aZ (argC (op2 dIx (vAt 0) (fun _=>some (.int 2))) (argC (op2 dIx (vAt 0) (fun _=>some (.int 3))) argN)))))))
def cG:List D->Option D:=via 1 1 jG
theorem nu:∀ ds d,cG ds=some d->retOf (jG (beg 1 ds))=some d:=fun _ _ h=>aK h
theorem oq:∀ ds d,cG ds=some d->ds.length=1:=fun _ _ h=>aw h
def fI:R->Option Out :=
 (retD (orV (asV (cmp2 cIsN (vAt 0) (fun _=>some .non))) (callD aI (argC (vAt 0) (argC (fun _=>some (.int 0)) (argC (op2 dSub (vAt 1) (fun _=>some (.int 1))) argN))))))
def bR:List D->Option D:=via 2 2 fI
theorem jV:∀ ds d,bR ds=some d->retOf (fI (beg 2 ds))=some d:=fun _ _ h=>aK h
theorem j7:∀ ds d,bR ds=some d->ds.length=2:=fun _ _ h=>aw h
def io:R->Option Out :=
 (retD (andV (isD "str" (vAt 0)) (asV (cmp2 cIn (vAt 0) (vAt 1)))))
def cb:List D->Option D:=via 2 2 io
theorem mv:∀ ds d,cb ds=some d->retOf (io (beg 2 ds))=some d:=fun _ _ h=>aK h
theorem lK:∀ ds d,cb ds=some d->ds.length=2:=fun _ _ h=>aw h
def km:R->Option Out :=
  (seqD (ifD (cmp2 cIsN (vAt 0) (fun _=>some .non))
  (retD (fun _=>some (.bl true)))
  nextD)
  (retD (andV (callD aL (argC (vAt 0) (argC (fun _=>some (.int 2)) argN))) (andV (callD cb (argC (op2 dIx (vAt 0) (fun _=>some (.int 0))) (argC (fun _=>some fw) argN))) (callD bR (argC (op2 dIx (vAt 0) (fun _=>some (.int 1))) (argC (vAt 1) argN)))))))
def db:List D->Option D:=via 2 2 km
theorem qc:∀ ds d,db ds=some d->retOf (km (beg 2 ds))=some d:=fun _ _ h=>aK h
theorem qz:∀ ds d,db ds=some d->ds.length=2:=fun _ _ h=>aw h
def ka:R->Option Out :=
  (seqD (ifD (cmp2 cEq (vAt 1) (fun _=>some (.int 0)))
  (retD (callD aI (argC (vAt 0) (argC (fun _=>some (.int 0)) (argC (fun _=>some (.int 0)) argN)))))
  nextD)
  (retD (callD aI (argC (vAt 0) (argC (fun _=>some (.int 0)) (argC (op2 dSub (vAt 1) (fun _=>some (.int 1))) argN))))))
def da:List D->Option D:=via 2 2 ka
theorem pK:∀ ds d,da ds=some d->retOf (ka (beg 2 ds))=some d:=fun _ _ h=>aK h
theorem qt:∀ ds d,da ds=some d->ds.length=2:=fun _ _ h=>aw h
def kn:R->Option Out :=
  (seqD (ifD (orT (notT (truT (isD "tuple" (vAt 0)))) (cmp2 cGt (callD fLen (argC (vAt 0) argN)) (fun _=>some di)))
  (retD (fun _=>some (.bl false)))
  nextD)
  (retD (callD fAll (argC (lcD 1 (inSeq (vAt 0)) (setAt 0) yesT (callD bp (argC (vAt 0) (argC (fun _=>some (.int 0)) argN)))) argN))))
def df:List D->Option D:=via 1 1 kn
theorem pW:∀ ds d,df ds=some d->retOf (kn (beg 1 ds))=some d:=fun _ _ h=>aK h
theorem qe:∀ ds d,df ds=some d->ds.length=1:=fun _ _ h=>aw h
def kf:R->Option Out :=
  (seqD (ifD (notT (truT (callD aL (argC (vAt 0) (argC (fun _=>some (.int 3)) argN)))))
  (retD (fun _=>some (.bl false)))
  nextD)
  (retD (andV (callD bp (argC (op2 dIx (vAt 0) (fun _=>some (.int 0))) (argC (fun _=>some (.int 0)) argN))) (andV (callD bH (argC (op2 dIx (vAt 0) (fun _=>some (.int 1))) argN)) (callD df (argC (op2 dIx (vAt 0) (fun _=>some (.int 2))) argN))))))
def cX:List D->Option D:=via 1 1 kf
theorem pA:∀ ds d,cX ds=some d->retOf (kf (beg 1 ds))=some d:=fun _ _ h=>aK h
theorem pZ:∀ ds d,cX ds=some d->ds.length=1:=fun _ _ h=>aw h
def jm:R->Option Out :=
  (seqD (ifD (notT (truT (callD aL (argC (vAt 1) (argC (fun _=>some (.int 8)) argN)))))
  (retD (fun _=>some (.bl false)))
  nextD)
  (retD (andV (callD aI (argC (op2 dIx (vAt 1) (fun _=>some cy)) (argC (fun _=>some (.int 0)) (argC (op2 dSub (callD fLen (argC (op2 dIx (vAt 0) (fun _=>some (.int 2))) argN)) (fun _=>some (.int 1))) argN)))) (andV (callD aI (argC (op2 dIx (vAt 1) (fun _=>some br)) (argC (fun _=>some (.int 0)) (argC (fun _=>some dR) argN)))) (andV (callD cA (argC (op2 dIx (vAt 1) (fun _=>some bB)) argN)) (andV (callD cX (argC (op2 dIx (vAt 1) (fun _=>some cu)) argN)) (andV (callD cG (argC (op2 dIx (vAt 1) (fun _=>some bc)) argN)) (andV (callD aI (argC (op2 dIx (vAt 1) (fun _=>some eQ)) (argC (fun _=>some (.int 0)) (argC (fun _=>some dj) argN)))) (andV (callD db (argC (op2 dIx (vAt 1) (fun _=>some bu)) (argC (op2 dIx (vAt 0) (fun _=>some (.int 0))) argN))) (callD da (argC (op2 dIx (vAt 1) (fun _=>some c_)) (argC (op2 dIx (vAt 0) (fun _=>some (.int 1))) argN))))))))))))
def cE:List D->Option D:=via 2 2 jm
theorem nT:∀ ds d,cE ds=some d->retOf (jm (beg 2 ds))=some d:=fun _ _ h=>aK h
theorem mY:∀ ds d,cE ds=some d->ds.length=2:=fun _ _ h=>aw h
theorem kU (b:Bool):bH [.bl b]=some (.bl true):=viaS (retS rfl)
theorem sK (n:Int):cF [.int n]=some (.bl true):=viaS (retS (anV rfl rfl))
theorem nV {n k:Int} (h:k<=n):bp [.int n,.int k]=some (.bl true):=viaS (retS (anV (callS rfl (sK n)) (asS (cmS rfl rfl (dT h)))))
theorem ce {n k m:Int} (h:k<=n) (h2:n<=m):aI [.int n,.int k,.int m]=some (.bl true):=viaS (retS (anV (callS rfl (nV h)) (asS (cmS rfl rfl (dT h2)))))
theorem gE {ds:List D} {k:Int} (h:(ds.length:Int)=k):aL [.tup ds,.int k]=some (.bl true):=by
 have e:cEq (.int (ds.length:Int)) (.int k)=some true:=by rw [h];exact eqI k
 exact viaS (retS (anV rfl (asS (cmS (callS (arS rfl rfl) rfl) rfl e))))
theorem sB {b:Bk} {s:WS} (w:s.Wk b):cA [s.alarmD]=some (.bl true) :=
 viaS ((seqN ((ifF (show notT _ _=some (!true) from ntS (trS (callS rfl (gE (ds:=[.int s.ah,.int s.am,.bl s.aon]) rfl))))).trans rfl)).trans (retS (anV (callS (arS (opS rfl rfl (wa0 s)) rfl) (ce w.ah0 (by have:=w.ah1;omega))) (anV (callS (arS (opS rfl rfl (wa1 s)) rfl) (ce w.am0 (by have:=w.am1;omega))) (callS (arS (opS rfl rfl (wa2 s)) rfl) (kU _))))))
theorem kept_comp (o:Option D):∀ l:List Int,(∀ x∈l,0<=x)->compD (setAt 0) yesT (callD bp (argC (vAt 0) (argC (fun _=>some (.int 0)) argN))) (l.map D.int) [none,o]=some (l.map fun _=>D.bl true)
 | [],_=>rfl
 | x::l,h=>by
  have ih:=kept_comp o l fun y hy=>h y (.tail _ hy)
  have e:callD bp (argC (vAt 0) (argC (fun _=>some (.int 0)) argN)) [some (.int x),o]=some (.bl true):=callS rfl (nV (h x (.head _)))
  have h1:setAt 0 (D.int x) [none,o]=some [some (.int x),o]:=rfl
  rw [List.map_cons,compD,h1,Option.bind_some]
  rw [show yesT [some (D.int x),o]=some true from rfl,Option.bind_some,if_pos rfl,e,ih];rfl
theorem all_true:∀ l:List Int,fAll [.lst (l.map fun _=>D.bl true)]=some (.bl true):=fun l=>by
 have h:∀ l:List Int,bools (l.map fun _=>D.bl true)=some (l.map fun _=>true):=fun l=>by
  induction l with
  | nil=>rfl
  | cons x l ih=>simp [bools,ih]
 show (bools _).map _=_
 rw [h]
 simp
theorem tM {l:List Int} (hl:l.length<=4) (h:∀ x∈l,0<=x):df [.tup (l.map .int)]=some (.bl true):=by
 have e1:cGt (.int ((l.map D.int).length:Int)) (.int 4)=some false:=by
  rw [List.length_map]
  exact dF (by omega)
 have e2:lcD 1 (inSeq (vAt 0)) (setAt 0) yesT (callD bp (argC (vAt 0) (argC (fun _=>some (.int 0)) argN))) [some (.tup (l.map .int))]=some (.lst (l.map fun _=>D.bl true)):=lcS rfl (by rw [List.length_map,PySem.sizeLine_eq];omega) (kept_comp _ l h)
 exact viaS ((seqN ((ifF (orF (show notT _ _=some (!true) from ntS (trS rfl)) (cmS (callS (arS rfl rfl) rfl) rfl e1))).trans rfl)).trans (retS (callS (arS e2 rfl) (all_true l))))
theorem tG {b:Bk} {s:WS} (w:s.Wk b) (h:∀ x∈s.lk,0<=x):cX [s.lapsD]=some (.bl true) :=
 viaS ((seqN ((ifF (show notT _ _=some (!true) from ntS (trS (callS rfl (gE (ds:=[.int s.lm,.bl s.lr,.tup (s.lk.map .int)]) rfl))))).trans rfl)).trans (retS (anV (callS (arS (opS rfl rfl (wl0 s)) rfl) (nV w.lm0)) (anV (callS (arS (opS rfl rfl (wl1 s)) rfl) (kU _)) (callS (arS (opS rfl rfl (wl2 s)) rfl) (tM w.lk h))))))
theorem tZ {n:Int} {r:Bool} (h0:0<=n) (h1:n<3600) (hr:r=true->0<n):aZ [.int n,.bl r]=some (.bl true):=by
 have e:orV (asV (cmp2 cGt (vAt 0) (fun _=>some (.int 0)))) (notV (vAt 1)) [some (.int n),some (.bl r)]=some (.bl true):=by
  by_cases h:0<n
  ·exact ovT (asS (cmS rfl rfl (dT h)))
  ·have:r=false:=by cases r with | false=>rfl | true=>exact absurd (hr rfl) h
   subst this
   exact ovF (asS (cmS rfl rfl (dF h))) rfl
 exact viaS ((seqN ((ifF (orF (show notT _ _=some (!true) from ntS (trS (callS rfl (ce h0 (by omega:n<=3599))))) (show notT _ _=some (!true) from ntS (trS (callS rfl (kU r)))))).trans rfl)).trans (retS e))
theorem sF {b:Bk} {s:WS} (w:s.Wk b):cG [s.countD]=some (.bl true) :=
 viaS ((seqN ((ifF (show notT _ _=some (!true) from ntS (trS (callS rfl (gE (ds:=[.int s.cm,.int s.cs,.int s.cl,.bl s.cr]) rfl))))).trans rfl)).trans (retS (anV (callS (arS (opS rfl rfl (wc0 s)) rfl) (ce w.cm0 (by have:=w.cm1;omega))) (anV (callS (arS (opS rfl rfl (wc1 s)) rfl) (ce w.cs0 (by have:=w.cs1;omega))) (callS (arS (opS rfl rfl (wc2 s)) (arS (opS rfl rfl (wc3 s)) rfl)) (tZ w.cl0 w.cl1 w.cr))))))
theorem ux (x:Btn):cb [.str x.x,fw]=some (.bl true):=by
 refine viaS (retS (anV rfl (asS (cmS rfl rfl ?_))))
 cases x<;>rfl
theorem ue {b:Bk} {s:WS} (w:s.Ok b):db [heldD s.held,.int b.hold]=some (.bl true):=by
 rcases hh:s.held with _ | ⟨x,k⟩
 ·exact viaS (seqR ((ifT (cmS rfl rfl rfl)).trans (retS rfl)))
 ·have e:bR [optI k,.int b.hold]=some (.bl true):=by
   cases k with
   | none=>exact viaS (retS (ovT (asS (cmS rfl rfl rfl))))
   | some j =>
    have:=w.held x j hh
    exact viaS (retS (ovF (asS (cmS rfl rfl rfl)) (callS (arS rfl (arS rfl (arS (opS rfl rfl rfl) rfl))) (ce this.1 (by omega)))))
  exact viaS ((seqN ((ifF (cmS rfl rfl rfl)).trans rfl)).trans (retS (anV (callS rfl (gE (ds:=[.str x.x,optI k]) rfl)) (anV (callS (arS (opS rfl rfl (h0 x k)) rfl) (ux x)) (callS (arS (opS rfl rfl (h1 x k)) rfl) e)))))
theorem tL {b:Bk} {s:WS} (w:s.Wk b):da [.int s.idle,.int b.back]=some (.bl true):=by
 have h0:=w.idle0
 by_cases hb:b.back=0
 ·have h2:=w.idle2 hb
  have e:cEq (.int b.back) (.int 0)=some true:=by rw [hb];rfl
  exact viaS (seqR ((ifT (cmS rfl rfl e)).trans (retS (callS rfl (ce h0 (by omega))))))
 ·have h1:=w.idle1 (by have:=w.bk;omega)
  have e:cEq (.int b.back) (.int 0)=some false:=bqF hb
  exact viaS ((seqN ((ifF (cmS rfl rfl e)).trans rfl)).trans (retS (callS (arS rfl (arS rfl (arS (opS rfl rfl rfl) rfl))) (ce h0 (by omega)))))
theorem nh {b:Bk} {s:WS} (w:s.Ok b) (h:∀ x∈s.lk,0<=x):cE [b.d,s.d]=some (.bl true):=by
 have hl:fLen [.tup (b.modes.map Md.d)]=some (.int (b.modes.length:Int)):=by simp
 have hm:=w.mode
 refine viaS ((seqN ((ifF (show notT _ _=some (!true) from ntS (trS (callS rfl (gE (ds:=[.int (s.mode:Int),.int s.clock,s.alarmD,s.lapsD,s.countD,.int s.ring,heldD s.held,.int s.idle]) rfl))))).trans rfl)).trans (retS (anV ?_ (anV ?_ (anV ?_ (anV ?_ (anV ?_ (anV ?_ (anV ?_ ?_)))))))))
 ·exact callS (arS (opS rfl rfl (w0 s)) (arS rfl (arS (opS (callS (arS (opS rfl rfl (b2 b)) rfl) hl) rfl rfl) rfl))) (ce (by omega) (by omega))
 ·exact callS (arS (opS rfl rfl (w1 s)) rfl) (ce w.clock0 (by have:=w.clock1;omega))
 ·exact callS (arS (opS rfl rfl (w2 s)) rfl) (sB w.toWk)
 ·exact callS (arS (opS rfl rfl (w3 s)) rfl) (tG w.toWk h)
 ·exact callS (arS (opS rfl rfl (w4 s)) rfl) (sF w.toWk)
 ·exact callS (arS (opS rfl rfl (w5 s)) rfl) (ce w.ring0 w.ring1)
 ·exact callS (arS (opS rfl rfl (w6 s)) (arS (opS rfl rfl (b0 b)) rfl)) (ue w)
 ·exact callS (arS (opS rfl rfl (w7 s)) (arS (opS rfl rfl (b1 b)) rfl)) (tL w.toWk)
def j9:R->Option Out :=
 (retD (callD fTuple (argC (lcD 1 (inSeq (tupD (argC (fun _=>some (.str (Str.ofString "mode"))) (argC (fun _=>some (.str (Str.ofString "clock"))) (argC (fun _=>some (.str (Str.ofString "alarm"))) (argC (fun _=>some (.str (Str.ofString "laps"))) (argC (fun _=>some (.str (Str.ofString "count"))) (argC (fun _=>some (.str (Str.ofString "ring"))) (argC (fun _=>some (.str (Str.ofString "held"))) (argC (fun _=>some (.str (Str.ofString "idle"))) argN)))))))))) (setAt 0) yesT (op2 keyG (vAt 1) (vAt 0))) argN)))
def bW:List D->Option D:=via 1 1 (j9)
theorem qC:∀ ds d,bW ds=some d->retOf (j9 (beg 1 ds))=some d:=fun _ _ h=>aK h
theorem pw:∀ ds d,bW ds=some d->ds.length=1:=fun _ _ h=>aw h
theorem rB {a l:Nat} {s:WS} {w:Int} {st:List D}:bW [nowD a l s w st]=some s.d:=viaS (retS (callS (F:=fTuple) (arS (lcS rfl (by decide) rfl) rfl) rfl))
def kx:R->Option Out :=
 (retD (op2 dMod (op2 dAdd (vAt 0) (fun _=>some (.int 1))) (op2 dAdd (vAt 1) (fun _=>some (.int 1)))))
def bL:List D->Option D:=via 2 2 kx
theorem pI:∀ ds d,bL ds=some d->retOf (kx (beg 2 ds))=some d:=fun _ _ h=>aK h
theorem p_:∀ ds d,bL ds=some d->ds.length=2:=fun _ _ h=>aw h
def eO:MU :=
  (mSeq (mPure (asgD (op2 keyG (vAt 0) (fun _=>some (.str (Str.ofString "clock")))) (setAt 2)))
  (mSeq (mIf (cmp2 cEq (vAt 1) (fun _=>some (.str (Str.ofString "hour"))))
  (mDput 0 (Str.ofString "clock") (op2 dMod (op2 dAdd (vAt 2) (fun _=>some (.int 3600))) (fun _=>some (.int 86400))))
  mNext)
  (mSeq (mIf (cmp2 cEq (vAt 1) (fun _=>some (.str (Str.ofString "minute"))))
  (mDput 0 (Str.ofString "clock") (op2 dSub (op2 dAdd (vAt 2) (fun _=>some (.int 60))) (op2 dMul (fun _=>some (.int 3600)) (callD fInt (argC (asV (cmp2 cEq (op2 dMod (op2 dDiv (vAt 2) (fun _=>some (.int 60))) (fun _=>some (.int 60))) (fun _=>some (.int 59)))) argN)))))
  mNext)
  (mSeq (mIf (cmp2 cEq (vAt 1) (fun _=>some (.str (Str.ofString "zero"))))
  (mDput 0 (Str.ofString "clock") (op2 dSub (vAt 2) (op2 dMod (vAt 2) (fun _=>some (.int 60)))))
  mNext)
  (mSeq (mPure (asgD (op2 keyG (vAt 0) (fun _=>some (.str (Str.ofString "alarm")))) (unpD [(setAt 3),(setAt 4),(setAt 5)])))
  (mSeq (mDput 0 (Str.ofString "alarm") (rows3 11 (Str.ofString "ahour") (Str.ofString "aminute") (Str.ofString "alarm") (tupD (argC (callD bL (argC (vAt 3) (argC (fun _=>some (.int 23)) argN))) (argC (vAt 4) (argC (vAt 5) argN)))) (tupD (argC (vAt 3) (argC (callD bL (argC (vAt 4) (argC (fun _=>some (.int 59)) argN))) (argC (vAt 5) argN)))) (tupD (argC (vAt 3) (argC (vAt 4) (argC (notV (vAt 5)) argN)))) (vAt 1) (op2 keyG (vAt 0) (fun _=>some (.str (Str.ofString "alarm"))))))
  (mSeq (mPure (asgD (op2 keyG (vAt 0) (fun _=>some (.str (Str.ofString "laps")))) (unpD [(setAt 6),(setAt 7),(setAt 8)])))
  (mSeq (mIf (cmp2 cEq (vAt 1) (fun _=>some (.str (Str.ofString "run"))))
  (mDput 0 (Str.ofString "laps") (tupD (argC (vAt 6) (argC (notV (vAt 7)) (argC (vAt 8) argN)))))
  mNext)
  (mSeq (mIf (cmp2 cEq (vAt 1) (fun _=>some (.str (Str.ofString "lap"))))
  (mDput 0 (Str.ofString "laps") (op2 dIx (lstD (argC (tupD (argC (fun _=>some (.int 0)) (argC (fun _=>some (.bl false)) (argC (tupD argN) argN)))) (argC (tupD (argC (vAt 6) (argC (vAt 7) (argC (slD (op2 dAdd (vAt 8) (tupD (argC (vAt 6) argN))) noP (aP (fun _=>some (.int 4)))) argN)))) argN))) (callD fInt (argC (vAt 7) argN))))
  mNext)
  (mSeq (mPure (asgD (op2 keyG (vAt 0) (fun _=>some (.str (Str.ofString "count")))) (unpD [(setAt 4),(setAt 9),(setAt 10),(setAt 7)])))
  (mSeq (mIf (cmp2 cEq (vAt 1) (fun _=>some (.str (Str.ofString "count"))))
  (mDput 0 (Str.ofString "count") (tupD (argC (vAt 4) (argC (vAt 9) (argC (vAt 10) (argC (andV (notV (vAt 7)) (asV (cmp2 cGt (vAt 10) (fun _=>some (.int 0))))) argN))))))
  mNext)
  (mIf (andT (cmp2 cIn (vAt 1) (tupD (argC (fun _=>some (.str (Str.ofString "cminute"))) (argC (fun _=>some (.str (Str.ofString "csecond"))) (argC (fun _=>some (.str (Str.ofString "full"))) argN))))) (notT (truT (vAt 7))))
  (mSeq (mPure (asgD (op2 dMod (op2 dAdd (vAt 4) (callD fInt (argC (asV (cmp2 cEq (vAt 1) (fun _=>some (.str (Str.ofString "cminute"))))) argN))) (fun _=>some (.int 60))) (setAt 4)))
  (mSeq (mPure (asgD (op2 dMod (op2 dAdd (vAt 9) (callD fInt (argC (asV (cmp2 cEq (vAt 1) (fun _=>some (.str (Str.ofString "csecond"))))) argN))) (fun _=>some (.int 60))) (setAt 9)))
  (mDput 0 (Str.ofString "count") (tupD (argC (vAt 4) (argC (vAt 9) (argC (op2 dAdd (op2 dMul (fun _=>some (.int 60)) (vAt 4)) (vAt 9)) (argC (fun _=>some (.bl false)) argN))))))))
  mNext))))))))))))
def cK:List D->Option (D×D):=viaM 2 12 0 (eO)
theorem sW (n k:Int) (h:0<k+1):bL [.int n,.int k]=some (.int ((n+1)%(k+1))):=viaS (retS (opS (opS rfl rfl rfl) (opS rfl rfl rfl) (modS h)))
theorem eqX (d k:Deed):cEq (.str d.x) (.str k.x)=some (decide (d=k)):=by cases d<;>cases k<;>rfl
theorem xInj (d k:Deed):d.x=k.x↔d=k:=⟨by cases d<;>cases k<;>first | (intro _;rfl) | (intro h;exact absurd h (by decide)),fun h=>by rw [h]⟩
theorem in3 (d:Deed):cIn (.str d.x) (.tup [.str (Str.ofString "cminute"),.str (Str.ofString "csecond"),.str (Str.ofString "full")])=some (decide (d=.cminute\/d=.csecond\/d=.full)):=by cases d<;>rfl
theorem nb0 {x:Option D} {tl:R} (h:tl.all nobO=true):nobBut 0 (x::tl)=true:=by show (true&&tl.all nobO)=true;rw [h];rfl
theorem cut4 (xs:List D):cutD xs none (some 4)=xs.take 4:=by
 unfold cutD cutP
 simp
theorem fIntB (b:Bool):fInt [.bl b]=some (.int (if b then 1 else 0)):=by cases b<;>rfl
def ds1 (d:Deed) (s:WS):WS:=if d=.hour then {s with clock:=(s.clock+3600)%86400} else s
def ds2 (d:Deed) (s:WS) (c:Int):WS:=if d=.minute then {s with clock:=c+60 - 3600*(if c / 60%60=59 then 1 else 0)} else s
def ds3 (d:Deed) (s:WS) (c:Int):WS:=if d=.zero then {s with clock:=c - c%60} else s
def ds4 (d:Deed) (s:WS):WS:=if d=.ahour then {s with ah:=(s.ah+1)%24} else if d=.aminute then {s with am:=(s.am+1)%60} else if d=.alarm then {s with aon:=!s.aon} else s
def ds5 (d:Deed) (s:WS):WS:=if d=.run then {s with lr:=!s.lr} else s
def ds6 (d:Deed) (s:WS) (m:Int) (r:Bool) (k:List Int):WS:=if d=.lap then (if r then {s with lm:=m,lr:=true,lk:=(k++[m]).take 4} else {s with lm:=0,lr:=false,lk:=[]}) else s
def ds7 (d:Deed) (s:WS):WS:=if d=.count then {s with cr:=!s.cr&&decide (0<s.cl)} else s
def ds8 (d:Deed) (s:WS) (m c:Int) (r:Bool):WS:=if (d=.cminute\/d=.csecond\/d=.full)/\r=false then {s with cm:=(m+if d=.cminute then 1 else 0)%60,cs:=(c+if d=.csecond then 1 else 0)%60,cl:=60*((m+if d=.cminute then 1 else 0)%60)+(c+if d=.csecond then 1 else 0)%60,cr:=false} else s
section
variable {a l:Nat} {s:WS} {w:Int} {st:List D} {d:Deed}
abbrev DR (a l:Nat) (s:WS) (w:Int) (st:List D) (d:Deed) (o2 o3 o4 o5 o6 o7 o8 o9 o10:Option D):R:=[some (nowD a l s w st),some (.str d.x),o2,o3,o4,o5,o6,o7,o8,o9,o10,none]
theorem q1 {o3 o4 o5 o6 o7 o8 o9 o10:Option D} {c:Int} (hst:nobs st=true) (hc:s.clock=c) (hn:[o3,o4,o5,o6,o7,o8,o9,o10].all nobO=true):mIf (cmp2 cEq (vAt 1) (fun _=>some (.str (Str.ofString "hour"))))
 (mDput 0 (Str.ofString "clock") (op2 dMod (op2 dAdd (vAt 2) (fun _=>some (.int 3600))) (fun _=>some (.int 86400)))) mNext [a,l] (DR a l s w st d (some (.int c)) o3 o4 o5 o6 o7 o8 o9 o10)=some (.nx (DR a l (ds1 d s) w st d (some (.int c)) o3 o4 o5 o6 o7 o8 o9 o10)):=by
 unfold ds1
 subst hc
 have hb:nobBut 0 (DR a l s w st d (some (.int s.clock)) o3 o4 o5 o6 o7 o8 o9 o10)=true:=nb0 (by simp [nobO,nob] at hn ⊢;exact hn)
 by_cases h:d=.hour
 ·rw [if_pos h]
  exact (mIT (cmS rfl rfl ((eqX d .hour).trans (dT h)))).trans (dpS rfl (opS (opS rfl rfl rfl) rfl (modS (by decide))) rfl hb hst rfl rfl)
 ·rw [if_neg h]
  exact mIF (cmS rfl rfl ((eqX d .hour).trans (dF h)))
theorem q2 {o3 o4 o5 o6 o7 o8 o9 o10:Option D} {c:Int} (hst:nobs st=true) (hn:[o3,o4,o5,o6,o7,o8,o9,o10].all nobO=true):mIf (cmp2 cEq (vAt 1) (fun _=>some (.str (Str.ofString "minute"))))
 (mDput 0 (Str.ofString "clock") (op2 dSub (op2 dAdd (vAt 2) (fun _=>some (.int 60))) (op2 dMul (fun _=>some (.int 3600)) (callD fInt (argC (asV (cmp2 cEq (op2 dMod (op2 dDiv (vAt 2) (fun _=>some (.int 60))) (fun _=>some (.int 60))) (fun _=>some (.int 59)))) argN))))) mNext [a,l] (DR a l s w st d (some (.int c)) o3 o4 o5 o6 o7 o8 o9 o10)=some (.nx (DR a l (ds2 d s c) w st d (some (.int c)) o3 o4 o5 o6 o7 o8 o9 o10)):=by
 unfold ds2
 have hb:nobBut 0 (DR a l s w st d (some (.int c)) o3 o4 o5 o6 o7 o8 o9 o10)=true:=nb0 (by simp [nobO,nob] at hn ⊢;exact hn)
 by_cases h:d=.minute
 ·rw [if_pos h]
  have e:fInt [.bl (c / 60%60==59)]=some (.int (if c / 60%60=59 then 1 else 0)):=by rw [fIntB];simp
  exact (mIT (cmS rfl rfl ((eqX d .minute).trans (dT h)))).trans (dpS rfl (opS (opS rfl rfl rfl) (opS rfl (callS (arS (asS (cmS (opS (opS rfl rfl rfl) rfl (modS (by decide))) rfl rfl)) rfl) e) (mul3600 _)) rfl) rfl hb hst rfl rfl)
 ·rw [if_neg h]
  exact mIF (cmS rfl rfl ((eqX d .minute).trans (dF h)))
theorem q3 {o3 o4 o5 o6 o7 o8 o9 o10:Option D} {c:Int} (hst:nobs st=true) (hn:[o3,o4,o5,o6,o7,o8,o9,o10].all nobO=true):mIf (cmp2 cEq (vAt 1) (fun _=>some (.str (Str.ofString "zero"))))
 (mDput 0 (Str.ofString "clock") (op2 dSub (vAt 2) (op2 dMod (vAt 2) (fun _=>some (.int 60))))) mNext [a,l] (DR a l s w st d (some (.int c)) o3 o4 o5 o6 o7 o8 o9 o10)=some (.nx (DR a l (ds3 d s c) w st d (some (.int c)) o3 o4 o5 o6 o7 o8 o9 o10)):=by
 unfold ds3
 have hb:nobBut 0 (DR a l s w st d (some (.int c)) o3 o4 o5 o6 o7 o8 o9 o10)=true:=nb0 (by simp [nobO,nob] at hn ⊢;exact hn)
 by_cases h:d=.zero
 ·rw [if_pos h]
  exact (mIT (cmS rfl rfl ((eqX d .zero).trans (dT h)))).trans (dpS rfl (opS rfl (opS rfl rfl (modS (by decide))) rfl) rfl hb hst rfl rfl)
 ·rw [if_neg h]
  exact mIF (cmS rfl rfl ((eqX d .zero).trans (dF h)))
theorem q4 {o2 o6 o7 o8 o9 o10:Option D} (hst:nobs st=true) (hn:[o2,o6,o7,o8,o9,o10].all nobO=true):mDput 0 (Str.ofString "alarm") (rows3 11 (Str.ofString "ahour") (Str.ofString "aminute") (Str.ofString "alarm") (tupD (argC (callD bL (argC (vAt 3) (argC (fun _=>some (.int 23)) argN))) (argC (vAt 4) (argC (vAt 5) argN)))) (tupD (argC (vAt 3) (argC (callD bL (argC (vAt 4) (argC (fun _=>some (.int 59)) argN))) (argC (vAt 5) argN)))) (tupD (argC (vAt 3) (argC (vAt 4) (argC (notV (vAt 5)) argN)))) (vAt 1) (op2 keyG (vAt 0) (fun _=>some (.str (Str.ofString "alarm"))))) [a,l] (DR a l s w st d o2 (some (.int s.ah)) (some (.int s.am)) (some (.bl s.aon)) o6 o7 o8 o9 o10)=some (.nx (DR a l (ds4 d s) w st d o2 (some (.int s.ah)) (some (.int s.am)) (some (.bl s.aon)) o6 o7 o8 o9 o10)):=by
 have hb:nobBut 0 (DR a l s w st d o2 (some (.int s.ah)) (some (.int s.am)) (some (.bl s.aon)) o6 o7 o8 o9 o10)=true:=nb0 (by simp [nobO,nob] at hn ⊢;exact hn)
 have hf:rows3 11 (Str.ofString "ahour") (Str.ofString "aminute") (Str.ofString "alarm") (tupD (argC (callD bL (argC (vAt 3) (argC (fun _=>some (.int 23)) argN))) (argC (vAt 4) (argC (vAt 5) argN)))) (tupD (argC (vAt 3) (argC (callD bL (argC (vAt 4) (argC (fun _=>some (.int 59)) argN))) (argC (vAt 5) argN)))) (tupD (argC (vAt 3) (argC (vAt 4) (argC (notV (vAt 5)) argN)))) (vAt 1) (op2 keyG (vAt 0) (fun _=>some (.str (Str.ofString "alarm")))) (DR a l s w st d o2 (some (.int s.ah)) (some (.int s.am)) (some (.bl s.aon)) o6 o7 o8 o9 o10)=some (ds4 d s).alarmD:=by
  unfold rows3
  rw [tupS (arS (callS rfl (sW s.ah 23 (by decide))) rfl),Option.bind_some,tupS (arS rfl (arS (callS rfl (sW s.am 59 (by decide))) rfl)),Option.bind_some,tupS (arS rfl (arS rfl (arS (show notV (vAt 5) _=some (.bl (!s.aon)) from rfl) rfl))),Option.bind_some]
  have key:(if freeAt 11 (DR a l s w st d o2 (some (.int s.ah)) (some (.int s.am)) (some (.bl s.aon)) o6 o7 o8 o9 o10)=true/\nobs [D.tup [.int ((s.ah+1)%(23+1)),.int s.am,.bl s.aon],.tup [.int s.ah,.int ((s.am+1)%(59+1)),.bl s.aon],.tup [.int s.ah,.int s.am,.bl (!s.aon)]]=true/\Str.ofString "ahour" ≠ Str.ofString "aminute" /\ Str.ofString "ahour" ≠ Str.ofString "alarm" /\ Str.ofString "aminute" ≠ Str.ofString "alarm" then
    some (if d.x=Deed.ahour.x then D.tup [.int ((s.ah+1)%(23+1)),.int s.am,.bl s.aon] else if d.x=Deed.aminute.x then .tup [.int s.ah,.int ((s.am+1)%(59+1)),.bl s.aon] else if d.x=Deed.alarm.x then .tup [.int s.ah,.int s.am,.bl (!s.aon)] else s.alarmD) else none)=some (ds4 d s).alarmD:=by
   rw [if_pos ⟨rfl,rfl,by decide,by decide,by decide⟩]
   simp only [xInj]
   unfold ds4
   split
   ·rfl
   ·split
    ·rfl
    ·split<;>rfl
  exact key
 refine dpS rfl hf rfl hb hst rfl ?_
 show (nKS,_)=(nKS,_)
 have:∀ t:WS,(t=ds4 d s)->[D.int (s.mode:Int),.int s.clock,t.alarmD,s.lapsD,s.countD,.int s.ring,heldD s.held,.int s.idle,.int w,.obj 0 l [] st]=nowL l t w st:=fun t h=>by
  subst h
  unfold ds4
  repeat' split
  all_goals rfl
 exact congrArg (Prod.mk nKS) (this _ rfl)
theorem q5 {o2 o3 o4 o5 o9 o10:Option D} (hst:nobs st=true) (hn:[o2,o3,o4,o5,o9,o10].all nobO=true):mIf (cmp2 cEq (vAt 1) (fun _=>some (.str (Str.ofString "run"))))
 (mDput 0 (Str.ofString "laps") (tupD (argC (vAt 6) (argC (notV (vAt 7)) (argC (vAt 8) argN))))) mNext [a,l] (DR a l s w st d o2 o3 o4 o5 (some (.int s.lm)) (some (.bl s.lr)) (some (.tup (s.lk.map .int))) o9 o10)=some (.nx (DR a l (ds5 d s) w st d o2 o3 o4 o5 (some (.int s.lm)) (some (.bl s.lr)) (some (.tup (s.lk.map .int))) o9 o10)):=by
 unfold ds5
 have hb:nobBut 0 (DR a l s w st d o2 o3 o4 o5 (some (.int s.lm)) (some (.bl s.lr)) (some (.tup (s.lk.map .int))) o9 o10)=true:=nb0 (by simp [nobO,nob,nobsI] at hn ⊢;exact hn)
 by_cases h:d=.run
 ·rw [if_pos h]
  exact (mIT (cmS rfl rfl ((eqX d .run).trans (dT h)))).trans (dpS (s':={s with lr:=!s.lr}) rfl (tupS (arS rfl (arS (show notV (vAt 7) _=some (.bl (!s.lr)) from rfl) rfl))) (nobLa {s with lr:=!s.lr}) hb hst (nobLa s) rfl)
 ·rw [if_neg h]
  exact mIF (cmS rfl rfl ((eqX d .run).trans (dF h)))
theorem q6 {o2 o3 o4 o5 o9 o10:Option D} {m:Int} {r:Bool} {k:List Int} (hk:k.length<=4) (hst:nobs st=true) (hn:[o2,o3,o4,o5,o9,o10].all nobO=true):mIf (cmp2 cEq (vAt 1) (fun _=>some (.str (Str.ofString "lap"))))
 (mDput 0 (Str.ofString "laps") (op2 dIx (lstD (argC (tupD (argC (fun _=>some (.int 0)) (argC (fun _=>some (.bl false)) (argC (tupD argN) argN)))) (argC (tupD (argC (vAt 6) (argC (vAt 7) (argC (slD (op2 dAdd (vAt 8) (tupD (argC (vAt 6) argN))) noP (aP (fun _=>some (.int 4)))) argN)))) argN))) (callD fInt (argC (vAt 7) argN)))) mNext [a,l] (DR a l s w st d o2 o3 o4 o5 (some (.int m)) (some (.bl r)) (some (.tup (k.map .int))) o9 o10)=some (.nx (DR a l (ds6 d s m r k) w st d o2 o3 o4 o5 (some (.int m)) (some (.bl r)) (some (.tup (k.map .int))) o9 o10)):=by
 unfold ds6
 have hb:nobBut 0 (DR a l s w st d o2 o3 o4 o5 (some (.int m)) (some (.bl r)) (some (.tup (k.map .int))) o9 o10)=true:=nb0 (by simp [nobO,nob,nobsI] at hn ⊢;exact hn)
 by_cases h:d=.lap
 ·rw [if_pos h]
  have e1:op2 dAdd (vAt 8) (tupD (argC (vAt 6) argN)) (DR a l s w st d o2 o3 o4 o5 (some (.int m)) (some (.bl r)) (some (.tup (k.map .int))) o9 o10)=some (.tup ((k++[m]).map .int)):=by
   refine opS (x:=.tup (k.map .int)) (y:=.tup [.int m]) rfl rfl ?_
   show (if (k.map D.int).length+1<=sizeLine then _ else none)=_
   rw [if_pos (by rw [List.length_map,PySem.sizeLine_eq];omega),List.map_append];rfl
  have e2:slD (op2 dAdd (vAt 8) (tupD (argC (vAt 6) argN))) noP (aP (fun _=>some (.int 4))) (DR a l s w st d o2 o3 o4 o5 (some (.int m)) (some (.bl r)) (some (.tup (k.map .int))) o9 o10)=some (.tup (((k++[m]).take 4).map .int)):=by
   refine slS e1 rfl rfl ?_
   show some (D.tup (cutD ((k++[m]).map .int) none (some 4)))=_
   rw [cut4,List.map_take]
  refine (mIT (cmS rfl rfl ((eqX d .lap).trans (dT h)))).trans ?_
  cases r with
  | true=>exact dpS (s':={s with lm:=m,lr:=true,lk:=(k++[m]).take 4}) rfl (opS (lstS (arS rfl (arS (tupS (arS rfl (arS rfl (arS e2 rfl)))) rfl))) rfl rfl) (nobLa {s with lm:=m,lr:=true,lk:=(k++[m]).take 4}) hb hst (nobLa s) rfl
  | false=>exact dpS (s':={s with lm:=0,lr:=false,lk:=[]}) rfl (opS (lstS (arS rfl (arS (tupS (arS rfl (arS rfl (arS e2 rfl)))) rfl))) rfl rfl) rfl hb hst (nobLa s) rfl
 ·rw [if_neg h]
  exact mIF (cmS rfl rfl ((eqX d .lap).trans (dF h)))
theorem q7 {o2 o3 o5 o6 o8:Option D} (hst:nobs st=true) (hn:[o2,o3,o5,o6,o8].all nobO=true):mIf (cmp2 cEq (vAt 1) (fun _=>some (.str (Str.ofString "count"))))
 (mDput 0 (Str.ofString "count") (tupD (argC (vAt 4) (argC (vAt 9) (argC (vAt 10) (argC (andV (notV (vAt 7)) (asV (cmp2 cGt (vAt 10) (fun _=>some (.int 0))))) argN)))))) mNext [a,l] (DR a l s w st d o2 o3 (some (.int s.cm)) o5 o6 (some (.bl s.cr)) o8 (some (.int s.cs)) (some (.int s.cl)))=some (.nx (DR a l (ds7 d s) w st d o2 o3 (some (.int s.cm)) o5 o6 (some (.bl s.cr)) o8 (some (.int s.cs)) (some (.int s.cl)))):=by
 unfold ds7
 have hb:nobBut 0 (DR a l s w st d o2 o3 (some (.int s.cm)) o5 o6 (some (.bl s.cr)) o8 (some (.int s.cs)) (some (.int s.cl)))=true:=nb0 (by simp [nobO,nob,nobsI] at hn ⊢;exact hn)
 by_cases h:d=.count
 ·rw [if_pos h]
  have e:andV (notV (vAt 7)) (asV (cmp2 cGt (vAt 10) (fun _=>some (.int 0)))) (DR a l s w st d o2 o3 (some (.int s.cm)) o5 o6 (some (.bl s.cr)) o8 (some (.int s.cs)) (some (.int s.cl)))=some (.bl (!s.cr&&decide (0<s.cl))):=by
   cases hc:s.cr with
   | true=>exact anVF rfl
   | false=>exact anV rfl (asS (cmS rfl rfl rfl))
  exact (mIT (cmS rfl rfl ((eqX d .count).trans (dT h)))).trans (dpS (s':={s with cr:=!s.cr&&decide (0<s.cl)}) rfl (tupS (arS rfl (arS rfl (arS rfl (arS e rfl))))) rfl hb hst rfl rfl)
 ·rw [if_neg h]
  exact mIF (cmS rfl rfl ((eqX d .count).trans (dF h)))
theorem q8 {o2 o3 o5 o6 o8 o10:Option D} {m c:Int} {r:Bool} (hst:nobs st=true) (hn:[o2,o3,o5,o6,o8,o10].all nobO=true):∃ o4 o9,mIf (andT (cmp2 cIn (vAt 1) (tupD (argC (fun _=>some (.str (Str.ofString "cminute"))) (argC (fun _=>some (.str (Str.ofString "csecond"))) (argC (fun _=>some (.str (Str.ofString "full"))) argN))))) (notT (truT (vAt 7))))
  (mSeq (mPure (asgD (op2 dMod (op2 dAdd (vAt 4) (callD fInt (argC (asV (cmp2 cEq (vAt 1) (fun _=>some (.str (Str.ofString "cminute"))))) argN))) (fun _=>some (.int 60))) (setAt 4)))
  (mSeq (mPure (asgD (op2 dMod (op2 dAdd (vAt 9) (callD fInt (argC (asV (cmp2 cEq (vAt 1) (fun _=>some (.str (Str.ofString "csecond"))))) argN))) (fun _=>some (.int 60))) (setAt 9)))
  (mDput 0 (Str.ofString "count") (tupD (argC (vAt 4) (argC (vAt 9) (argC (op2 dAdd (op2 dMul (fun _=>some (.int 60)) (vAt 4)) (vAt 9)) (argC (fun _=>some (.bl false)) argN)))))))) mNext [a,l] (DR a l s w st d o2 o3 (some (.int m)) o5 o6 (some (.bl r)) o8 (some (.int c)) o10)=some (.nx (DR a l (ds8 d s m c r) w st d o2 o3 o4 o5 o6 (some (.bl r)) o8 o9 o10)):=by
  unfold ds8
  by_cases h:(d=.cminute\/d=.csecond\/d=.full)/\r=false
  · rw [if_pos h]
    obtain ⟨h1,h2⟩:=h
    subst h2
    have e1:fInt [.bl (decide (d=.cminute))]=some (.int (if d=.cminute then 1 else 0)):=by rw [fIntB];simp
    have e2:fInt [.bl (decide (d=.csecond))]=some (.int (if d=.csecond then 1 else 0)):=by rw [fIntB];simp
    have hb:nobBut 0 (DR a l s w st d o2 o3 (some (.int ((m+if d=.cminute then 1 else 0)%60))) o5 o6 (some (.bl false)) o8 (some (.int ((c+if d=.csecond then 1 else 0)%60))) o10)=true:=nb0 (by simp [nobO,nob,nobsI] at hn ⊢;exact hn)
    refine ⟨some (.int ((m+if d=.cminute then 1 else 0)%60)),some (.int ((c+if d=.csecond then 1 else 0)%60)),(mIT (anT (cmS rfl rfl ((in3 d).trans (dT h1))) (show notT _ _=some (!false) from ntS (trS rfl)))).trans ((mN (mP (asgS (opS (opS rfl (callS (arS (asS (cmS rfl rfl (eqX d .cminute))) rfl) e1) rfl) rfl (modS (by decide))) rfl))).trans ((mN (mP (asgS (opS (opS rfl (callS (arS (asS (cmS rfl rfl (eqX d .csecond))) rfl) e2) rfl) rfl (modS (by decide))) rfl))).trans ?_))⟩
    exact dpS (s':={s with cm:=(m+if d=.cminute then 1 else 0)%60,cs:=(c+if d=.csecond then 1 else 0)%60,cl:=60*((m+if d=.cminute then 1 else 0)%60)+(c+if d=.csecond then 1 else 0)%60,cr:=false}) rfl (tupS (arS rfl (arS rfl (arS (opS (opS rfl rfl (mul60 _)) rfl rfl) (arS rfl rfl))))) rfl hb hst rfl rfl
  · rw [if_neg h]
    refine ⟨_,_,mIF ?_⟩
    by_cases h1:d=.cminute\/d=.csecond\/d=.full
    · have hr:r=true:=by cases r with | true=>rfl | false=>exact absurd ⟨h1,rfl⟩ h
      subst hr
      exact anT (cmS rfl rfl ((in3 d).trans (dT h1))) (show notT _ _=some (!true) from ntS (trS rfl))
    · exact anF (cmS rfl rfl ((in3 d).trans (dF h1)))
end
theorem deed_eq (d:Deed) (s:WS) (h4:s.lk.length<=4) (m0:0<=s.cm) (m1:s.cm<60) (c0:0<=s.cs) (c1:s.cs<60) :
  ds8 d (ds7 d (ds6 d (ds5 d (ds4 d (ds3 d (ds2 d (ds1 d s) s.clock) s.clock))) s.lm s.lr s.lk)) s.cm s.cs s.cr=deed d s:=by
 obtain ⟨mode,clock,ah,am,aon,lm,lr,lk,cm,cs,cl,cr,ring,held,idle⟩:=s
 have em:cm%60=cm:=Int.emod_eq_of_lt m0 m1
 have ec:cs%60=cs:=Int.emod_eq_of_lt c0 c1
 cases d
 case minute =>
  have e:clock+60 - 3600*(if clock / 60%60=59 then 1 else 0)=clock - clock%3600+(clock%3600+60)%3600:=by split<;>omega
  simp [ds1,ds2,ds3,ds4,ds5,ds6,ds7,ds8,deed,e]
 case lap =>
  cases lr with
  | false=>simp [ds1,ds2,ds3,ds4,ds5,ds6,ds7,ds8,deed]
  | true =>
   by_cases h:4<=lk.length
   ·have:(lk++[lm]).take 4=lk:=by
     have h4':lk.length<=4:=h4
     have h':lk.length=4:=by omega
     rw [<- h',List.take_left]
    simp [ds1,ds2,ds3,ds4,ds5,ds6,ds7,ds8,deed,this,h]
   ·have:(lk++[lm]).take 4=lk++[lm]:=List.take_of_length_le (by simp;omega)
    simp [ds1,ds2,ds3,ds4,ds5,ds6,ds7,ds8,deed,this,h]
 case cminute=>cases cr<;>simp [ds1,ds2,ds3,ds4,ds5,ds6,ds7,ds8,deed,setTo,ec]
 case csecond=>cases cr<;>simp [ds1,ds2,ds3,ds4,ds5,ds6,ds7,ds8,deed,setTo,em]
 case full=>cases cr<;>simp [ds1,ds2,ds3,ds4,ds5,ds6,ds7,ds8,deed,setTo,ec,em]
 all_goals simp [ds1,ds2,ds3,ds4,ds5,ds6,ds7,ds8,deed]
section
variable {a l:Nat} {s:WS} {w:Int} {st:List D} {d:Deed}
theorem sM {b:Bk} (wk:s.Wk b) (hst:nobs st=true):cK [nowD a l s w st,.str d.x]=some (.non,nowD a l (deed d s) w st):=by
 obtain ⟨o4,o9,h8⟩:=q8 (a:=a) (l:=l) (w:=w) (st:=st) (d:=d) (s:=ds7 d (ds6 d (ds5 d (ds4 d (ds3 d (ds2 d (ds1 d s) s.clock) s.clock))) s.lm s.lr s.lk)) (o2:=some (.int s.clock)) (o3:=some (.int s.ah)) (o5:=some (.bl s.aon)) (o6:=some (.int s.lm)) (o8:=some (.tup (s.lk.map .int))) (o10:=some (.int s.cl)) (m:=s.cm) (c:=s.cs) (r:=s.cr) hst (by simp [nobO,nob,nobsI])
 rw [deed_eq d s wk.lk wk.cm0 wk.cm1 wk.cs0 wk.cs1] at h8
 have f3:∀ t:WS,((ds3 d (ds2 d (ds1 d t) t.clock) t.clock).ah=t.ah/\(ds3 d (ds2 d (ds1 d t) t.clock) t.clock).am=t.am/\(ds3 d (ds2 d (ds1 d t) t.clock) t.clock).aon=t.aon):=fun t=>by
  cases d<;>exact ⟨rfl,rfl,rfl⟩
 have f4:∀ t:WS,(ds4 d (ds3 d (ds2 d (ds1 d t) t.clock) t.clock)).lapsD=t.lapsD/\(ds4 d (ds3 d (ds2 d (ds1 d t) t.clock) t.clock)).lm=t.lm/\(ds4 d (ds3 d (ds2 d (ds1 d t) t.clock) t.clock)).lr=t.lr/\(ds4 d (ds3 d (ds2 d (ds1 d t) t.clock) t.clock)).lk=t.lk:=fun t=>by
  cases d<;>exact ⟨rfl,rfl,rfl,rfl⟩
 have f6:∀ t:WS,(ds6 d (ds5 d (ds4 d (ds3 d (ds2 d (ds1 d t) t.clock) t.clock))) t.lm t.lr t.lk).countD=t.countD:=fun t=>by
  obtain ⟨mode,clock,ah,am,aon,lm,lr,lk,cm,cs,cl,cr,ring,held,idle⟩:=t
  cases d<;>first | rfl | (cases lr<;>rfl)
 have f6':∀ t:WS,(ds6 d (ds5 d (ds4 d (ds3 d (ds2 d (ds1 d t) t.clock) t.clock))) t.lm t.lr t.lk).cm=t.cm/\(ds6 d (ds5 d (ds4 d (ds3 d (ds2 d (ds1 d t) t.clock) t.clock))) t.lm t.lr t.lk).cs=t.cs/\(ds6 d (ds5 d (ds4 d (ds3 d (ds2 d (ds1 d t) t.clock) t.clock))) t.lm t.lr t.lk).cl=t.cl/\(ds6 d (ds5 d (ds4 d (ds3 d (ds2 d (ds1 d t) t.clock) t.clock))) t.lm t.lr t.lk).cr=t.cr:=fun t=>by
  obtain ⟨mode,clock,ah,am,aon,lm,lr,lk,cm,cs,cl,cr,ring,held,idle⟩:=t
  cases d<;>first | exact ⟨rfl,rfl,rfl,rfl⟩ | (cases lr<;>exact ⟨rfl,rfl,rfl,rfl⟩)
 obtain ⟨g1,g2,g3⟩:=f3 s
 obtain ⟨k0,k1,k2,k3⟩:=f4 s
 have p0:=f6 s
 obtain ⟨p1,p2,p3,p4⟩:=f6' s
 have t0:mPure (asgD (op2 keyG (vAt 0) (fun _=>some (.str (Str.ofString "clock")))) (setAt 2)) [a,l] (DR a l s w st d none none none none none none none none none)=some (.nx (DR a l s w st d (some (.int s.clock)) none none none none none none none none)):=mP (asgS (opS rfl rfl kClock) rfl)
 have t1:=q1 (a:=a) (l:=l) (w:=w) (s:=s) (d:=d) (c:=s.clock) (o3:=none) (o4:=none) (o5:=none) (o6:=none) (o7:=none) (o8:=none) (o9:=none) (o10:=none) hst rfl rfl
 have t2:=q2 (a:=a) (l:=l) (w:=w) (s:=ds1 d s) (d:=d) (c:=s.clock) (o3:=none) (o4:=none) (o5:=none) (o6:=none) (o7:=none) (o8:=none) (o9:=none) (o10:=none) hst rfl
 have t3:=q3 (a:=a) (l:=l) (w:=w) (s:=ds2 d (ds1 d s) s.clock) (d:=d) (c:=s.clock) (o3:=none) (o4:=none) (o5:=none) (o6:=none) (o7:=none) (o8:=none) (o9:=none) (o10:=none) hst rfl
 generalize hs3:ds3 d (ds2 d (ds1 d s) s.clock) s.clock=s3 at *
 have t4:mPure (asgD (op2 keyG (vAt 0) (fun _=>some (.str (Str.ofString "alarm")))) (unpD [(setAt 3),(setAt 4),(setAt 5)])) [a,l] (DR a l s3 w st d (some (.int s.clock)) none none none none none none none none)=some (.nx (DR a l s3 w st d (some (.int s.clock)) (some (.int s3.ah)) (some (.int s3.am)) (some (.bl s3.aon)) none none none none none)):=mP (asgS (opS rfl rfl kAlarm) rfl)
 have t5:=q4 (a:=a) (l:=l) (w:=w) (s:=s3) (d:=d) (st:=st) (o2:=some (.int s.clock)) (o6:=none) (o7:=none) (o8:=none) (o9:=none) (o10:=none) hst rfl
 generalize hs4:ds4 d s3=s4 at *
 have t6:mPure (asgD (op2 keyG (vAt 0) (fun _=>some (.str (Str.ofString "laps")))) (unpD [(setAt 6),(setAt 7),(setAt 8)])) [a,l] (DR a l s4 w st d (some (.int s.clock)) (some (.int s3.ah)) (some (.int s3.am)) (some (.bl s3.aon)) none none none none none)=some (.nx (DR a l s4 w st d (some (.int s.clock)) (some (.int s3.ah)) (some (.int s3.am)) (some (.bl s3.aon)) (some (.int s4.lm)) (some (.bl s4.lr)) (some (.tup (s4.lk.map .int))) none none)):=mP (asgS (opS rfl rfl kLaps) rfl)
 have t7:=q5 (a:=a) (l:=l) (w:=w) (s:=s4) (d:=d) (st:=st) (o2:=some (.int s.clock)) (o3:=some (.int s3.ah)) (o4:=some (.int s3.am)) (o5:=some (.bl s3.aon)) (o9:=none) (o10:=none) hst rfl
 have t8:=q6 (a:=a) (l:=l) (w:=w) (s:=ds5 d s4) (d:=d) (st:=st) (o2:=some (.int s.clock)) (o3:=some (.int s3.ah)) (o4:=some (.int s3.am)) (o5:=some (.bl s3.aon)) (o9:=none) (o10:=none) (m:=s4.lm) (r:=s4.lr) (k:=s4.lk) (by rw [k3];exact wk.lk) hst rfl
 rw [k1,k2,k3] at t6 t7 t8
 generalize hs6:ds6 d (ds5 d s4) s.lm s.lr s.lk=s6 at *
 have t9:mPure (asgD (op2 keyG (vAt 0) (fun _=>some (.str (Str.ofString "count")))) (unpD [(setAt 4),(setAt 9),(setAt 10),(setAt 7)])) [a,l] (DR a l s6 w st d (some (.int s.clock)) (some (.int s3.ah)) (some (.int s3.am)) (some (.bl s3.aon)) (some (.int s.lm)) (some (.bl s.lr)) (some (.tup (s.lk.map .int))) none none)=some (.nx (DR a l s6 w st d (some (.int s.clock)) (some (.int s3.ah)) (some (.int s6.cm)) (some (.bl s3.aon)) (some (.int s.lm)) (some (.bl s6.cr)) (some (.tup (s.lk.map .int))) (some (.int s6.cs)) (some (.int s6.cl)))):=mP (asgS (opS rfl rfl kCount) rfl)
 have t10:=q7 (a:=a) (l:=l) (w:=w) (s:=s6) (d:=d) (st:=st) (o2:=some (.int s.clock)) (o3:=some (.int s3.ah)) (o5:=some (.bl s3.aon)) (o6:=some (.int s.lm)) (o8:=some (.tup (s.lk.map .int))) hst (by simp [nobO,nob,nobsI])
 rw [p1,p2,p3,p4] at t9 t10
 rw [g1,g2,g3] at t4 t5 t6 t7 t8 t9
 rw [g1,g3] at t10
 have g:eO [a,l] (DR a l s w st d none none none none none none none none none)=some (.nx (DR a l (deed d s) w st d (some (.int s.clock)) (some (.int s.ah)) o4 (some (.bl s.aon)) (some (.int s.lm)) (some (.bl s.cr)) (some (.tup (s.lk.map .int))) o9 (some (.int s.cl)))) :=
  (mN t0).trans ((mN t1).trans ((mN t2).trans ((mN t3).trans ((mN t4).trans ((mN t5).trans ((mN t6).trans ((mN t7).trans ((mN t8).trans ((mN t9).trans ((mN t10).trans h8))))))))))
 show (eO (adr (nowD a l s w st)) (DR a l s w st d none none none none none none none none none)).bind _=_
 rw [nowAd,g,Option.bind_some]
 show endM 0 _ _ _=_
 unfold endM
 show (if isOb (nowD a l (deed d s) w st)=true/\adr (nowD a l (deed d s) w st)=adr (nowD a l s w st) then _ else none)=_
 rw [if_pos ⟨rfl,by rw [nowAd,nowAd]⟩]
end
def ee:MU :=
  (mSeq (mPure (asgD (op2 dIx (op2 dIx (op2 dIx (op2 dIx (vAt 0) (fun _=>some (.int 2))) (op2 keyG (vAt 1) (fun _=>some (.str (Str.ofString "mode"))))) (fun _=>some (.int 2))) (callD fSIdx (argC (fun _=>some (.str (Str.ofString "abcABC"))) (argC (vAt 2) argN)))) (unpD [(setAt 3),(setAt 4)])))
  (mSeq (mExpr (mCal 1 (cK) (argC (vAt 1) (argC (vAt 3) argN))))
  (mSeq (mDput 1 (Str.ofString "mode") (vAt 4))
  (mDapp 1 (Str.ofString "story") (tupD (argC (op2 keyG (vAt 1) (fun _=>some (.str (Str.ofString "went")))) (argC (vAt 2) argN)))))))
def bj:List D->Option (D×D):=viaM 3 5 1 (ee)
def hpD (t:Int) (x:Str):D:=.tup [.int t,.str x]
theorem endS {j:Nat} {ob ob' d:D} {ρ:R} (h:vAt j ρ=some ob') (h1:isOb ob'=true) (h2:adr ob'=adr ob):endM j ob d ρ=some (d,ob'):=by
 unfold endM
 rw [h,Option.bind_some]
 exact if_pos ⟨h1,h2⟩
section
variable {a l:Nat} {b:Bk} {s:WS} {w:Int} {st:List D}
theorem oc16 (p:Pr):PySem.Builtin.Str.occurrences (Str.ofString "abcABC") (Pr.x p) 0 (Str.ofString "abcABC").length 1=[Pr.ix p]:=by
 obtain ⟨x,l⟩:=p
 cases x<;>cases l<;>decide +kernel
theorem sidx (p:Pr):fSIdx [.str (Str.ofString "abcABC"),.str (Pr.x p)]=some (.int (Pr.ix p:Int)):=by
 show (match PySem.Builtin.Str.occurrences (Str.ofString "abcABC") (Pr.x p) 0 (Str.ofString "abcABC").length 1 with | i::_=>some (D.int (i:Int)) | []=>none)=_
 rw [oc16]
theorem Pr.ix6 (p:Pr):Pr.ix p<6:=by obtain ⟨x,q⟩:=p;cases x<;>cases q<;>decide
theorem lR (ok:b.Ok) (wk:s.Wk b) (p:Pr) (hst:nobs st=true) (hl:st.length<100000):bj [b.d,nowD a l s w st,.str (Pr.x p)]=some (.non,nowD a l (press b s (Pr.ix p)) w (st++[hpD w (Pr.x p)])):=by
 have hm:=wk.mode
 have hr:Pr.ix p<(b.modes.getD s.mode default).rows.length:=by rw [(ok.all _ (mB b hm)).six];exact p.ix6
 have e1:op2 dIx (op2 dIx (op2 dIx (op2 dIx (vAt 0) (fun _=>some (.int 2))) (op2 keyG (vAt 1) (fun _=>some (.str (Str.ofString "mode"))))) (fun _=>some (.int 2))) (callD fSIdx (argC (fun _=>some (.str (Str.ofString "abcABC"))) (argC (vAt 2) argN))) [some b.d,some (nowD a l s w st),some (.str (Pr.x p)),none,none]=some (rowD (b.row s.mode (Pr.ix p))) :=
  opS (opS (opS (opS rfl rfl (b2 b)) (opS rfl rfl kMode) (iQ b hm)) rfl (m2 _)) (callS rfl (sidx p)) (qZ _ hr)
 have t1:mPure (asgD (op2 dIx (op2 dIx (op2 dIx (op2 dIx (vAt 0) (fun _=>some (.int 2))) (op2 keyG (vAt 1) (fun _=>some (.str (Str.ofString "mode"))))) (fun _=>some (.int 2))) (callD fSIdx (argC (fun _=>some (.str (Str.ofString "abcABC"))) (argC (vAt 2) argN)))) (unpD [(setAt 3),(setAt 4)])) [a,l] [some b.d,some (nowD a l s w st),some (.str (Pr.x p)),none,none]=some (.nx [some b.d,some (nowD a l s w st),some (.str (Pr.x p)),some (.str (b.row s.mode (Pr.ix p)).1.x),some (.int ((b.row s.mode (Pr.ix p)).2:Int))]):=mP (asgS e1 rfl)
 have t2:mExpr (mCal 1 (cK) (argC (vAt 1) (argC (vAt 3) argN))) [a,l] [some b.d,some (nowD a l s w st),some (.str (Pr.x p)),some (.str (b.row s.mode (Pr.ix p)).1.x),some (.int ((b.row s.mode (Pr.ix p)).2:Int))]=some (.nx [some b.d,some (nowD a l (deed (b.row s.mode (Pr.ix p)).1 s) w st),some (.str (Pr.x p)),some (.str (b.row s.mode (Pr.ix p)).1.x),some (.int ((b.row s.mode (Pr.ix p)).2:Int))]) :=
  mEx (calS2 (ob:=nowD a l s w st) rfl rfl (sM wk hst) rfl (nb1 rfl) (by rw [nowAd];simp [inS]))
 have t3:mDput 1 (Str.ofString "mode") (vAt 4) [a,l] [some b.d,some (nowD a l (deed (b.row s.mode (Pr.ix p)).1 s) w st),some (.str (Pr.x p)),some (.str (b.row s.mode (Pr.ix p)).1.x),some (.int ((b.row s.mode (Pr.ix p)).2:Int))]=some (.nx [some b.d,some (nowD a l (press b s (Pr.ix p)) w st),some (.str (Pr.x p)),some (.str (b.row s.mode (Pr.ix p)).1.x),some (.int ((b.row s.mode (Pr.ix p)).2:Int))]) :=
  dpS (s':=press b s (Pr.ix p)) rfl rfl rfl (nb1 rfl) hst rfl rfl
 have t4:mDapp 1 (Str.ofString "story") (tupD (argC (op2 keyG (vAt 1) (fun _=>some (.str (Str.ofString "went")))) (argC (vAt 2) argN))) [a,l] [some b.d,some (nowD a l (press b s (Pr.ix p)) w st),some (.str (Pr.x p)),some (.str (b.row s.mode (Pr.ix p)).1.x),some (.int ((b.row s.mode (Pr.ix p)).2:Int))]=some (.nx [some b.d,some (nowD a l (press b s (Pr.ix p)) w (st++[hpD w (Pr.x p)])),some (.str (Pr.x p)),some (.str (b.row s.mode (Pr.ix p)).1.x),some (.int ((b.row s.mode (Pr.ix p)).2:Int))]) :=
  daS (d:=hpD w (Pr.x p)) rfl (tupS (arS (opS rfl rfl kWent) rfl)) rfl (nb1 rfl) hst hl
 show (ee (adr (nowD a l s w st)) [some b.d,some (nowD a l s w st),some (.str (Pr.x p)),none,none]).bind _=_
 rw [nowAd,show ee [a,l] [some b.d,some (nowD a l s w st),some (.str (Pr.x p)),none,none]=_ from (mN t1).trans ((mN t2).trans ((mN t3).trans t4)),Option.bind_some]
 exact endS rfl rfl (by rw [nowAd,nowAd])
end
def bgn (s:WS):Bool:=(s.cr&&s.cl==1)||(s.aon&&((s.clock+1)%86400==s.sec))
def stA (s:WS):WS:={s with clock:=(s.clock+1)%86400,ring:=mx 0 (s.ring - 1),lm:=lapsOn s 1,cl:=leftOn s 1,cr:=runsOn s 1}
def stB (s:WS):WS:=if bgn s then {stA s with ring:=10} else stA s
def tkH (b:Bk) (s:WS):List Str:=match s.held with
 | some (x,some k)=>if k+1=b.hold then [x.X] else []
 | some (_,none)=>[]
 | none=>if 0<b.back/\s.idle+1=b.back/\s.mode≠0/\(b.modes.getD s.mode default).stays=false then [Str.ofString "back"] else []
def tkB (b:Bk) (s:WS):WS:=match s.held with
 | some (x,some k)=>if k+1=b.hold then press b {s with held:=some (x,none)} (x.ix+3) else {s with held:=some (x,some (k+1))}
 | some (_,none)=>s
 | none=>if 0<b.back then (if s.idle+1=b.back then (if s.mode≠0/\(b.modes.getD s.mode default).stays=false then {s with idle:=0,mode:=0} else {s with idle:=0}) else {s with idle:=s.idle+1}) else s
theorem rE {b:Bk} {s:WS} (w:s.Wk b):stB s={counted b s 1 with held:=s.held,idle:=s.idle}:=by
 have hr:(stB s).ring=ringOn s 1:=by
  have h0:=w.ring0;have c0:=w.clock0;have c1:=w.clock1;have hcr:=w.cr
  have s0:0<=s.sec:=by unfold WS.sec;have:=w.ah0;have:=w.am0;omega
  have s1:s.sec<86400:=by unfold WS.sec;have:=w.ah1;have:=w.am1;omega
  rw [ringOn_eq]
  unfold stB ringN
  have ha:((s.clock+1)%86400==s.sec)=decide ((s.sec - s.clock - 1)%86400+1<=1):=by
   rw [Bool.eq_iff_iff];simp;omega
  have hc:s.cr=true->(s.cl==1)=decide (s.cl<=1):=fun h=>by
   have:=hcr h
   rw [Bool.eq_iff_iff];simp;omega
  unfold bgn
  rw [ha]
  cases h1:s.aon<;>cases h2:s.cr
  ·simp [stA]
  ·rw [hc h2]
   have:=hcr h2
   by_cases q:s.cl<=1
   ·have:s.cl=1:=by omega
    simp [this];rfl
   ·simp [q,stA]
  ·by_cases q:(s.sec - s.clock - 1)%86400+1<=1
   ·simp [q]
    have:(1 - ((s.sec - s.clock - 1)%86400+1))%86400=0:=by omega
    rw [this];rfl
   ·simp [q,stA]
  ·rw [hc h2]
   have:=hcr h2
   by_cases q:(s.sec - s.clock - 1)%86400+1<=1<;>by_cases q2:s.cl<=1
   ·have e:s.cl=1:=by omega
    simp [q,q2]
    have:(s.sec - s.clock - 1)%86400=0:=by omega
    rw [this,e];rfl
   ·simp [q,q2]
    have:(1 - ((s.sec - s.clock - 1)%86400+1))%86400=0:=by omega
    rw [this];rfl
   ·have e:s.cl=1:=by omega
    simp [q,q2,e];rfl
   ·simp [q,q2,stA]
 have h2:stB s={stA s with ring:=(stB s).ring}:=by unfold stB;split<;>rfl
 rw [h2,hr]
 rfl
theorem uc {b:Bk} {s:WS} (ok:b.Ok) (w:s.Ok b):tkB b (stB s)=ticked b s 1:=by
 rw [rE w.toWk]
 have ei:=idleOn_eq (n:=1) w.toWk (by decide)
 have wb:(behind b s 1).Wk b:=(w.toWk.cnt (n:=1) (by decide)).trn ok
 have tt:∀ t,turnTick b s=some t->t=1->ticked b s 1=turned b (counted b s 1):=fun t h1 h2=>by
  subst h2
  unfold ticked
  rw [h1]
  show (if (1:Int)<1 then _ else counted b (behind b s 1) (1 - 1))=_
  rw [if_neg (by decide)]
  exact counted_zero wb
 have tn:(∀ t,turnTick b s=some t->1<t)->ticked b s 1=counted b s 1:=fun h=>by
  unfold ticked
  cases hh:turnTick b s with
  | none=>rfl
  | some t=>exact if_pos (h t hh)
 have bk0:=w.bk
 have i0:=w.idle0
 unfold tkB
 rcases hh:s.held with _ | ⟨x,_ | k⟩
 ·dsimp only
  show (if 0<b.back then (if s.idle+1=b.back then (if s.mode≠0/\(b.modes.getD s.mode default).stays=false then _ else _) else _) else _)=_
  have tu:turnTick b s=if goesBack b s then some (toBack b s) else none:=by unfold turnTick;rw [hh]
  rw [hh] at ei
  by_cases hb:0<b.back
  ·rw [if_pos hb]
   have i1:=w.idle1 hb
   have eb:=toBack_eq i1
   have ei':idleOn b s 1=(s.idle+1)%b.back:=by rw [ei,if_neg (by simp;omega)]
   by_cases h1:s.idle+1=b.back
   ·rw [if_pos h1]
    have ez:idleOn b s 1=0:=by rw [ei',h1,Int.emod_self]
    by_cases h2:s.mode≠0/\(b.modes.getD s.mode default).stays=false
    ·rw [if_pos h2]
     have hg:goesBack b s=true:=by
      obtain ⟨g1,g2⟩:=h2
      unfold goesBack
      rw [g2]
      simp [hb,g1]
     rw [hg,if_pos rfl,eb] at tu
     rw [tt _ tu (by omega),turned_none (show heldOn s.held 1=none by rw [hh];rfl)]
     show _=({s with clock:=_,lm:=_,cl:=_,cr:=_,ring:=_,held:=heldOn s.held 1,idle:=idleOn b s 1,mode:=0}:WS)
     rw [ez,hh];rfl
    ·rw [if_neg h2]
     have hg:goesBack b s=false:=by
      unfold goesBack
      cases h3:(b.modes.getD s.mode default).stays with
      | true=>simp
      | false =>
       have:s.mode=0:=by
        by_cases h4:s.mode=0
        ·exact h4
        ·exact absurd ⟨h4,h3⟩ h2
       simp [this]
     rw [tn fun t ht=>by rw [tu,hg] at ht;cases ht]
     show _=({s with clock:=_,lm:=_,cl:=_,cr:=_,ring:=_,held:=heldOn s.held 1,idle:=idleOn b s 1}:WS)
     rw [ez,hh];rfl
   ·rw [if_neg h1]
    have ez:idleOn b s 1=s.idle+1:=by rw [ei'];exact Int.emod_eq_of_lt (by omega) (by omega)
    rw [tn fun t ht=>by
     rw [tu] at ht
     split at ht
     ·cases ht;omega
     ·cases ht]
    show _=({s with clock:=_,lm:=_,cl:=_,cr:=_,ring:=_,held:=heldOn s.held 1,idle:=idleOn b s 1}:WS)
    rw [ez,hh];rfl
  ·rw [if_neg hb]
   have ez:idleOn b s 1=s.idle:=by rw [ei,if_pos (.inr (by omega))]
   have hg:goesBack b s=false:=by unfold goesBack;simp [hb]
   rw [tn fun t ht=>by rw [tu,hg] at ht;cases ht]
   show _=({s with clock:=_,lm:=_,cl:=_,cr:=_,ring:=_,held:=heldOn s.held 1,idle:=idleOn b s 1}:WS)
   rw [ez,hh];rfl
 ·rw [hh] at ei
  have ez:idleOn b s 1=s.idle:=by rw [ei,if_pos (.inl rfl)]
  rw [tn fun t ht=>by unfold turnTick at ht;rw [hh] at ht;cases ht]
  show _=({s with clock:=_,lm:=_,cl:=_,cr:=_,ring:=_,held:=heldOn s.held 1,idle:=idleOn b s 1}:WS)
  rw [ez,hh];rfl
 ·rw [hh] at ei
  have ez:idleOn b s 1=s.idle:=by rw [ei,if_pos (.inl rfl)]
  have hk:=w.held x k hh
  have tu:turnTick b s=some (mx 1 (b.hold - k)):=by unfold turnTick;rw [hh]
  dsimp only
  by_cases h1:k+1=b.hold
  ·rw [if_pos h1,tt _ tu (by unfold mx;split<;>omega)]
   have e2:(counted b s 1).held=some (x,some (k+1)):=by show heldOn s.held 1=_;rw [hh];rfl
   unfold turned
   rw [e2]
   show press b _ _=press b ({s with clock:=_,lm:=_,cl:=_,cr:=_,ring:=_,held:=some (x,none),idle:=idleOn b s 1}:WS) _
   rw [ez];rfl
  ·rw [if_neg h1,tn fun t ht=>by rw [tu] at ht;cases ht;unfold mx;split<;>omega]
   show _=({s with clock:=_,lm:=_,cl:=_,cr:=_,ring:=_,held:=heldOn s.held 1,idle:=idleOn b s 1}:WS)
   rw [ez,hh];rfl
def fk:MU :=
  (mSeq (mDput 1 (Str.ofString "went") (op2 dAdd (op2 keyG (vAt 1) (fun _=>some (.str (Str.ofString "went")))) (fun _=>some (.int 1))))
  (mSeq (mDput 1 (Str.ofString "clock") (op2 dMod (op2 dAdd (op2 keyG (vAt 1) (fun _=>some (.str (Str.ofString "clock")))) (fun _=>some (.int 1))) (fun _=>some (.int 86400))))
  (mSeq (mDput 1 (Str.ofString "ring") (callD fMax (argC (fun _=>some (.int 0)) (argC (op2 dSub (op2 keyG (vAt 1) (fun _=>some (.str (Str.ofString "ring")))) (fun _=>some (.int 1))) argN))))
  (mSeq (mPure (asgD (op2 keyG (vAt 1) (fun _=>some (.str (Str.ofString "laps")))) (unpD [(setAt 2),(setAt 3),(setAt 4)])))
  (mSeq (mDput 1 (Str.ofString "laps") (tupD (argC (op2 dAdd (vAt 2) (callD fInt (argC (vAt 3) argN))) (argC (vAt 3) (argC (vAt 4) argN)))))
  (mSeq (mPure (asgD (op2 keyG (vAt 1) (fun _=>some (.str (Str.ofString "count")))) (unpD [(setAt 5),(setAt 6),(setAt 7),(setAt 3)])))
  (mSeq (mPure (asgD (andV (vAt 3) (asV (cmp2 cEq (vAt 7) (fun _=>some (.int 1))))) (setAt 8)))
  (mSeq (mIf (truT (vAt 3))
  (mDput 1 (Str.ofString "count") (tupD (argC (vAt 5) (argC (vAt 6) (argC (op2 dSub (vAt 7) (fun _=>some (.int 1))) (argC (asV (cmp2 cGt (vAt 7) (fun _=>some (.int 1)))) argN))))))
  mNext)
  (mSeq (mPure (asgD (op2 keyG (vAt 1) (fun _=>some (.str (Str.ofString "alarm")))) (unpD [(setAt 9),(setAt 5),(setAt 10)])))
  (mSeq (mPure (ifD (andT (truT (vAt 10)) (cmp2 cEq (op2 keyG (vAt 1) (fun _=>some (.str (Str.ofString "clock")))) (op2 dAdd (op2 dMul (fun _=>some (.int 3600)) (vAt 9)) (op2 dMul (fun _=>some (.int 60)) (vAt 5)))))
  (asgD (fun _=>some (.bl true)) (setAt 8))
  nextD))
  (mSeq (mIf (truT (vAt 8))
  (mSeq (mDput 1 (Str.ofString "ring") (fun _=>some (.int 10)))
  (mDapp 1 (Str.ofString "story") (tupD (argC (op2 keyG (vAt 1) (fun _=>some (.str (Str.ofString "went")))) (argC (fun _=>some (.str (Str.ofString "ring"))) argN)))))
  mNext)
  (mIf (cmp2 cNotN (op2 keyG (vAt 1) (fun _=>some (.str (Str.ofString "held")))) (fun _=>some .non))
  (mSeq (mPure (asgD (op2 keyG (vAt 1) (fun _=>some (.str (Str.ofString "held")))) (unpD [(setAt 11),(setAt 12)])))
  (mIf (cmp2 cNotN (vAt 12) (fun _=>some .non))
  (mSeq (mDput 1 (Str.ofString "held") (tupD (argC (vAt 11) (argC (op2 dAdd (vAt 12) (fun _=>some (.int 1))) argN))))
  (mIf (cmp2 cEq (op2 dAdd (vAt 12) (fun _=>some (.int 1))) (op2 dIx (vAt 0) (fun _=>some (.int 0))))
  (mSeq (mDput 1 (Str.ofString "held") (tupD (argC (vAt 11) (argC (fun _=>some .non) argN))))
  (mExpr (mCal 1 (bj) (argC (vAt 0) (argC (vAt 1) (argC (op1 dUp (vAt 11)) argN))))))
  mNext))
  mNext))
  (mIf (cmp2 cGt (op2 dIx (vAt 0) (fun _=>some (.int 1))) (fun _=>some (.int 0)))
  (mSeq (mDput 1 (Str.ofString "idle") (op2 dAdd (op2 keyG (vAt 1) (fun _=>some (.str (Str.ofString "idle")))) (fun _=>some (.int 1))))
  (mIf (cmp2 cEq (op2 keyG (vAt 1) (fun _=>some (.str (Str.ofString "idle")))) (op2 dIx (vAt 0) (fun _=>some (.int 1))))
  (mSeq (mDput 1 (Str.ofString "idle") (fun _=>some (.int 0)))
  (mIf (andT (cmp2 cNe (op2 keyG (vAt 1) (fun _=>some (.str (Str.ofString "mode")))) (fun _=>some (.int 0))) (notT (truT (op2 dIx (op2 dIx (op2 dIx (vAt 0) (fun _=>some (.int 2))) (op2 keyG (vAt 1) (fun _=>some (.str (Str.ofString "mode"))))) (fun _=>some (.int 1))))))
  (mSeq (mDput 1 (Str.ofString "mode") (fun _=>some (.int 0)))
  (mDapp 1 (Str.ofString "story") (tupD (argC (op2 keyG (vAt 1) (fun _=>some (.str (Str.ofString "went")))) (argC (fun _=>some (.str (Str.ofString "back"))) argN)))))
  mNext))
  mNext))
  mNext)))))))))))))
def bX:List D->Option (D×D):=viaM 2 13 1 (fk)
abbrev TR (b:Bk) (x:D) (o2 o3 o4 o5 o6 o7 o8 o9 o10 o11 o12:Option D):R:=[some b.d,some x,o2,o3,o4,o5,o6,o7,o8,o9,o10,o11,o12]
def tkS (b:Bk) (s:WS) (w:Int):List D:=(if bgn s then [hpD (w+1) (Str.ofString "ring")] else [])++(tkH b (stB s)).map (hpD (w+1))
section
variable {a l:Nat} {b:Bk} {s:WS} {w:Int} {st:List D}
theorem up_btn (x:Btn):dUp (.str x.x)=some (.str x.X):=by cases x<;>rfl
theorem tick_end {o2 o3 o4 o5 o6 o7 o8 o9 o10:Option D} (ok:b.Ok) (wk:s.Wk b) (hst:nobs st=true) (hl:st.length<100000) (hn:[o2,o3,o4,o5,o6,o7,o8,o9,o10].all nobO=true):∃ ρ',(mIf (cmp2 cNotN (op2 keyG (vAt 1) (fun _=>some (.str (Str.ofString "held")))) (fun _=>some .non))
  (mSeq (mPure (asgD (op2 keyG (vAt 1) (fun _=>some (.str (Str.ofString "held")))) (unpD [(setAt 11),(setAt 12)])))
  (mIf (cmp2 cNotN (vAt 12) (fun _=>some .non))
  (mSeq (mDput 1 (Str.ofString "held") (tupD (argC (vAt 11) (argC (op2 dAdd (vAt 12) (fun _=>some (.int 1))) argN))))
  (mIf (cmp2 cEq (op2 dAdd (vAt 12) (fun _=>some (.int 1))) (op2 dIx (vAt 0) (fun _=>some (.int 0))))
  (mSeq (mDput 1 (Str.ofString "held") (tupD (argC (vAt 11) (argC (fun _=>some .non) argN))))
  (mExpr (mCal 1 (bj) (argC (vAt 0) (argC (vAt 1) (argC (op1 dUp (vAt 11)) argN))))))
  mNext))
  mNext))
  (mIf (cmp2 cGt (op2 dIx (vAt 0) (fun _=>some (.int 1))) (fun _=>some (.int 0)))
  (mSeq (mDput 1 (Str.ofString "idle") (op2 dAdd (op2 keyG (vAt 1) (fun _=>some (.str (Str.ofString "idle")))) (fun _=>some (.int 1))))
  (mIf (cmp2 cEq (op2 keyG (vAt 1) (fun _=>some (.str (Str.ofString "idle")))) (op2 dIx (vAt 0) (fun _=>some (.int 1))))
  (mSeq (mDput 1 (Str.ofString "idle") (fun _=>some (.int 0)))
  (mIf (andT (cmp2 cNe (op2 keyG (vAt 1) (fun _=>some (.str (Str.ofString "mode")))) (fun _=>some (.int 0))) (notT (truT (op2 dIx (op2 dIx (op2 dIx (vAt 0) (fun _=>some (.int 2))) (op2 keyG (vAt 1) (fun _=>some (.str (Str.ofString "mode"))))) (fun _=>some (.int 1))))))
  (mSeq (mDput 1 (Str.ofString "mode") (fun _=>some (.int 0)))
  (mDapp 1 (Str.ofString "story") (tupD (argC (op2 keyG (vAt 1) (fun _=>some (.str (Str.ofString "went")))) (argC (fun _=>some (.str (Str.ofString "back"))) argN)))))
  mNext))
  mNext))
  mNext)) [a,l] (TR b (nowD a l s w st) o2 o3 o4 o5 o6 o7 o8 o9 o10 none none)=some (.nx ρ')/\vAt 1 ρ'=some (nowD a l (tkB b s) w (st++(tkH b s).map (hpD w))):=by
  have hb:∀ x (o11 o12:Option D),nobO o11=true->nobO o12=true->nobBut 1 (TR b x o2 o3 o4 o5 o6 o7 o8 o9 o10 o11 o12)=true:=fun x o11 o12 h1 h2=>nb1 (by simp at hn ⊢;simp [hn,h1,h2])
  unfold tkB tkH
  rcases hh:s.held with _ | ⟨x,_ | k⟩
  · have c0:=((cmS (ρ:=TR b (nowD a l s w st) o2 o3 o4 o5 o6 o7 o8 o9 o10 none none) (f:=op2 keyG (vAt 1) (fun _=>some (.str (Str.ofString "held")))) (g:=fun _=>some .non) (opS rfl rfl kHeld) rfl ((heldNot s.held).trans (by rw [hh]))))
    by_cases hbk:0<b.back
    · have d1:mDput 1 (Str.ofString "idle") (op2 dAdd (op2 keyG (vAt 1) (fun _=>some (.str (Str.ofString "idle")))) (fun _=>some (.int 1))) [a,l] (TR b (nowD a l s w st) o2 o3 o4 o5 o6 o7 o8 o9 o10 none none)=some (.nx (TR b (nowD a l {s with idle:=s.idle+1} w st) o2 o3 o4 o5 o6 o7 o8 o9 o10 none none)) :=
        dpS (s':={s with idle:=s.idle+1}) rfl (opS (opS rfl rfl kIdle) rfl rfl) rfl (hb _ _ _ rfl rfl) hst rfl rfl
      have c1:cmp2 cEq (op2 keyG (vAt 1) (fun _=>some (.str (Str.ofString "idle")))) (op2 dIx (vAt 0) (fun _=>some (.int 1))) (TR b (nowD a l {s with idle:=s.idle+1} w st) o2 o3 o4 o5 o6 o7 o8 o9 o10 none none)=some (s.idle+1==b.back):=cmS (opS rfl rfl kIdle) (opS rfl rfl (b1 b)) rfl
      by_cases h1:s.idle+1=b.back
      · rw [beq_iff_eq.mpr h1] at c1
        have d2:mDput 1 (Str.ofString "idle") (fun _=>some (.int 0)) [a,l] (TR b (nowD a l {s with idle:=s.idle+1} w st) o2 o3 o4 o5 o6 o7 o8 o9 o10 none none)=some (.nx (TR b (nowD a l {s with idle:=0} w st) o2 o3 o4 o5 o6 o7 o8 o9 o10 none none)) :=
          dpS (s':={s with idle:=0}) rfl rfl rfl (hb _ _ _ rfl rfl) hst rfl rfl
        have c2:cmp2 cNe (op2 keyG (vAt 1) (fun _=>some (.str (Str.ofString "mode")))) (fun _=>some (.int 0)) (TR b (nowD a l {s with idle:=0} w st) o2 o3 o4 o5 o6 o7 o8 o9 o10 none none)=some (!((s.mode:Int)==0)):=cmS (opS rfl rfl kMode) rfl rfl
        have c3:notT (truT (op2 dIx (op2 dIx (op2 dIx (vAt 0) (fun _=>some (.int 2))) (op2 keyG (vAt 1) (fun _=>some (.str (Str.ofString "mode"))))) (fun _=>some (.int 1)))) (TR b (nowD a l {s with idle:=0} w st) o2 o3 o4 o5 o6 o7 o8 o9 o10 none none)=some (!(b.modes.getD s.mode default).stays) :=
          ntS (trS (opS (opS (opS rfl rfl (b2 b)) (opS rfl rfl kMode) (iQ b wk.mode)) rfl (m1 _)))
        by_cases h2:s.mode≠0/\(b.modes.getD s.mode default).stays=false
        · have n0:((s.mode:Int)==0)=false:=by have:=h2.1;simp;omega
          rw [n0] at c2
          rw [h2.2] at c3
          have d3:mDput 1 (Str.ofString "mode") (fun _=>some (.int 0)) [a,l] (TR b (nowD a l {s with idle:=0} w st) o2 o3 o4 o5 o6 o7 o8 o9 o10 none none)=some (.nx (TR b (nowD a l {s with idle:=0,mode:=0} w st) o2 o3 o4 o5 o6 o7 o8 o9 o10 none none)) :=
            dpS (s':={s with idle:=0,mode:=0}) rfl rfl rfl (hb _ _ _ rfl rfl) hst rfl rfl
          have d4:mDapp 1 (Str.ofString "story") (tupD (argC (op2 keyG (vAt 1) (fun _=>some (.str (Str.ofString "went")))) (argC (fun _=>some (.str (Str.ofString "back"))) argN))) [a,l] (TR b (nowD a l {s with idle:=0,mode:=0} w st) o2 o3 o4 o5 o6 o7 o8 o9 o10 none none)=some (.nx (TR b (nowD a l {s with idle:=0,mode:=0} w (st++[hpD w (Str.ofString "back")])) o2 o3 o4 o5 o6 o7 o8 o9 o10 none none)) :=
            daS (d:=hpD w (Str.ofString "back")) rfl (tupS (arS (opS rfl rfl kWent) rfl)) rfl (hb _ _ _ rfl rfl) hst hl
          refine ⟨_,(mIF c0).trans ((mIT (cmS (opS rfl rfl (b1 b)) rfl (dT hbk))).trans ((mN d1).trans ((mIT c1).trans ((mN d2).trans ((mIT (anT c2 c3)).trans ((mN d3).trans d4)))))),?_⟩
          dsimp only
          rw [if_pos hbk,if_pos h1,if_pos h2,if_pos ⟨hbk,h1,h2⟩,<- hh];rfl
        · have c4:andT (cmp2 cNe (op2 keyG (vAt 1) (fun _=>some (.str (Str.ofString "mode")))) (fun _=>some (.int 0))) (notT (truT (op2 dIx (op2 dIx (op2 dIx (vAt 0) (fun _=>some (.int 2))) (op2 keyG (vAt 1) (fun _=>some (.str (Str.ofString "mode"))))) (fun _=>some (.int 1))))) (TR b (nowD a l {s with idle:=0} w st) o2 o3 o4 o5 o6 o7 o8 o9 o10 none none)=some false:=by
            by_cases h3:s.mode=0
            · have:((s.mode:Int)==0)=true:=by simp [h3]
              rw [this] at c2
              exact anF c2
            · have:((s.mode:Int)==0)=false:=by simp;omega
              rw [this] at c2
              have h4:(b.modes.getD s.mode default).stays=true:=by
                cases h5:(b.modes.getD s.mode default).stays with
                | true=>rfl
                | false=>exact absurd ⟨h3,h5⟩ h2
              rw [h4] at c3
              exact anT c2 c3
          refine ⟨_,(mIF c0).trans ((mIT (cmS (opS rfl rfl (b1 b)) rfl (dT hbk))).trans ((mN d1).trans ((mIT c1).trans ((mN d2).trans (mIF c4))))),?_⟩
          dsimp only
          rw [if_pos hbk,if_pos h1,if_neg h2,if_neg fun z=>h2 z.2.2,List.map_nil,List.append_nil,<- hh];rfl
      · rw [beq_eq_false_iff_ne.mpr h1] at c1
        refine ⟨_,(mIF c0).trans ((mIT (cmS (opS rfl rfl (b1 b)) rfl (dT hbk))).trans ((mN d1).trans (mIF c1))),?_⟩
        dsimp only
        rw [if_pos hbk,if_neg h1,if_neg fun z=>h1 z.2.1,List.map_nil,List.append_nil,<- hh];rfl
    · refine ⟨_,(mIF c0).trans (mIF (cmS (opS rfl rfl (b1 b)) rfl (dF hbk))),?_⟩
      dsimp only
      rw [if_neg hbk,if_neg fun z=>hbk z.1,List.map_nil,List.append_nil];rfl
  · have c0:=((cmS (ρ:=TR b (nowD a l s w st) o2 o3 o4 o5 o6 o7 o8 o9 o10 none none) (f:=op2 keyG (vAt 1) (fun _=>some (.str (Str.ofString "held")))) (g:=fun _=>some .non) (opS rfl rfl kHeld) rfl ((heldNot s.held).trans (by rw [hh]))))
    have d1:mPure (asgD (op2 keyG (vAt 1) (fun _=>some (.str (Str.ofString "held")))) (unpD [(setAt 11),(setAt 12)])) [a,l] (TR b (nowD a l s w st) o2 o3 o4 o5 o6 o7 o8 o9 o10 none none)=some (.nx (TR b (nowD a l s w st) o2 o3 o4 o5 o6 o7 o8 o9 o10 (some (.str x.x)) (some .non))):=mP (asgS (d:=heldD (some (x,none))) (opS rfl rfl (kHeld.trans (by rw [hh]))) rfl)
    refine ⟨_,(mIT c0).trans ((mN d1).trans (mIF (cmS rfl rfl rfl))),?_⟩
    rw [List.map_nil,List.append_nil];rfl
  · have c0:=((cmS (ρ:=TR b (nowD a l s w st) o2 o3 o4 o5 o6 o7 o8 o9 o10 none none) (f:=op2 keyG (vAt 1) (fun _=>some (.str (Str.ofString "held")))) (g:=fun _=>some .non) (opS rfl rfl kHeld) rfl ((heldNot s.held).trans (by rw [hh]))))
    have d1:mPure (asgD (op2 keyG (vAt 1) (fun _=>some (.str (Str.ofString "held")))) (unpD [(setAt 11),(setAt 12)])) [a,l] (TR b (nowD a l s w st) o2 o3 o4 o5 o6 o7 o8 o9 o10 none none)=some (.nx (TR b (nowD a l s w st) o2 o3 o4 o5 o6 o7 o8 o9 o10 (some (.str x.x)) (some (.int k)))):=mP (asgS (d:=heldD (some (x,some k))) (opS rfl rfl (kHeld.trans (by rw [hh]))) rfl)
    have d2:mDput 1 (Str.ofString "held") (tupD (argC (vAt 11) (argC (op2 dAdd (vAt 12) (fun _=>some (.int 1))) argN))) [a,l] (TR b (nowD a l s w st) o2 o3 o4 o5 o6 o7 o8 o9 o10 (some (.str x.x)) (some (.int k)))=some (.nx (TR b (nowD a l {s with held:=some (x,some (k+1))} w st) o2 o3 o4 o5 o6 o7 o8 o9 o10 (some (.str x.x)) (some (.int k)))) :=
      dpS (s':={s with held:=some (x,some (k+1))}) rfl (tupS (arS rfl (arS (opS rfl rfl rfl) rfl))) rfl (hb _ _ _ rfl rfl) hst (nobH _) rfl
    have c2:cmp2 cEq (op2 dAdd (vAt 12) (fun _=>some (.int 1))) (op2 dIx (vAt 0) (fun _=>some (.int 0))) (TR b (nowD a l {s with held:=some (x,some (k+1))} w st) o2 o3 o4 o5 o6 o7 o8 o9 o10 (some (.str x.x)) (some (.int k)))=some (k+1==b.hold):=cmS (opS rfl rfl rfl) (opS rfl rfl (b0 b)) rfl
    by_cases h1:k+1=b.hold
    · rw [beq_iff_eq.mpr h1] at c2
      have d3:mDput 1 (Str.ofString "held") (tupD (argC (vAt 11) (argC (fun _=>some .non) argN))) [a,l] (TR b (nowD a l {s with held:=some (x,some (k+1))} w st) o2 o3 o4 o5 o6 o7 o8 o9 o10 (some (.str x.x)) (some (.int k)))=some (.nx (TR b (nowD a l {s with held:=some (x,none)} w st) o2 o3 o4 o5 o6 o7 o8 o9 o10 (some (.str x.x)) (some (.int k)))) :=
        dpS (s':={s with held:=some (x,none)}) rfl (tupS (arS rfl rfl)) rfl (hb _ _ _ rfl rfl) hst rfl rfl
      have hwk:WS.Wk b {s with held:=some (x,none)}:={wk with}
      have e5:=lR (a:=a) (l:=l) (w:=w) (st:=st) ok hwk (x,true) hst hl
      have d4:mExpr (mCal 1 (bj) (argC (vAt 0) (argC (vAt 1) (argC (op1 dUp (vAt 11)) argN)))) [a,l] (TR b (nowD a l {s with held:=some (x,none)} w st) o2 o3 o4 o5 o6 o7 o8 o9 o10 (some (.str x.x)) (some (.int k)))=some (.nx (TR b (nowD a l (press b {s with held:=some (x,none)} (x.ix+3)) w (st++[hpD w x.X])) o2 o3 o4 o5 o6 o7 o8 o9 o10 (some (.str x.x)) (some (.int k)))) :=
        mEx (calS2 (ob:=nowD a l {s with held:=some (x,none)} w st) rfl (arS rfl (arS rfl (arS (o1S rfl (up_btn x)) rfl))) e5 rfl (hb _ _ _ rfl rfl) (by rw [nowAd];simp [inS]))
      refine ⟨_,(mIT c0).trans ((mN d1).trans ((mIT (cmS rfl rfl rfl)).trans ((mN d2).trans ((mIT c2).trans ((mN d3).trans d4))))),?_⟩
      dsimp only
      rw [if_pos h1,if_pos h1];rfl
    · rw [beq_eq_false_iff_ne.mpr h1] at c2
      refine ⟨_,(mIT c0).trans ((mN d1).trans ((mIT (cmS rfl rfl rfl)).trans ((mN d2).trans (mIF c2)))),?_⟩
      dsimp only
      rw [if_neg h1,if_neg h1,List.map_nil,List.append_nil];rfl
end
section
variable {a l:Nat} {b:Bk} {s:WS} {w:Int} {st:List D}
theorem tp (w:s.Wk b):(stB s).Wk b:=by
 rw [rE w]
 exact {w.cnt (n:=1) (by decide) with idle0:=w.idle0,idle1:=w.idle1,idle2:=w.idle2}
theorem laps1 (s:WS):s.lm+(if s.lr then 1 else 0)=lapsOn s 1:=by unfold lapsOn;split<;>omega
theorem tick_cnt (wk:s.Wk b):s.cr=true->s.cl - 1=leftOn s 1/\decide (s.cl > 1)=runsOn s 1:=fun h=>by
 have h0:=wk.cr h
 refine ⟨?_,?_⟩
 ·unfold leftOn mx;rw [if_pos h];split<;>omega
 ·rw [runsOn_eq s (by decide),h];rfl
theorem su (ok:b.Ok) (wo:s.Ok b) (hst:nobs st=true) (hl:st.length<99000):bX [b.d,nowD a l s w st]=some (.non,nowD a l (ticked b s 1) (w+1) (st++tkS b s w)):=by
 have wk:=wo.toWk
 have hb:∀ x (o2 o3 o4 o5 o6 o7 o8 o9 o10 o11 o12:Option D),[o2,o3,o4,o5,o6,o7,o8,o9,o10,o11,o12].all nobO=true->nobBut 1 (TR b x o2 o3 o4 o5 o6 o7 o8 o9 o10 o11 o12)=true:=fun x o2 o3 o4 o5 o6 o7 o8 o9 o10 o11 o12 h=>nb1 h
 have d1:mDput 1 (Str.ofString "went") (op2 dAdd (op2 keyG (vAt 1) (fun _=>some (.str (Str.ofString "went")))) (fun _=>some (.int 1))) [a,l] (TR b (nowD a l s w st) none none none none none none none none none none none)=some (.nx (TR b (nowD a l s (w+1) st) none none none none none none none none none none none)) :=
  dpS (s':=s) (w':=w+1) rfl (opS (opS rfl rfl kWent) rfl rfl) rfl (hb _ _ _ _ _ _ _ _ _ _ _ _ rfl) hst rfl rfl
 have d2:mDput 1 (Str.ofString "clock") (op2 dMod (op2 dAdd (op2 keyG (vAt 1) (fun _=>some (.str (Str.ofString "clock")))) (fun _=>some (.int 1))) (fun _=>some (.int 86400))) [a,l] (TR b (nowD a l s (w+1) st) none none none none none none none none none none none)=some (.nx (TR b (nowD a l {s with clock:=(s.clock+1)%86400} (w+1) st) none none none none none none none none none none none)) :=
  dpS (s':={s with clock:=(s.clock+1)%86400}) rfl (opS (opS (opS rfl rfl kClock) rfl rfl) rfl (modS (by decide))) rfl (hb _ _ _ _ _ _ _ _ _ _ _ _ rfl) hst rfl rfl
 have d3:mDput 1 (Str.ofString "ring") (callD fMax (argC (fun _=>some (.int 0)) (argC (op2 dSub (op2 keyG (vAt 1) (fun _=>some (.str (Str.ofString "ring")))) (fun _=>some (.int 1))) argN))) [a,l] (TR b (nowD a l {s with clock:=(s.clock+1)%86400} (w+1) st) none none none none none none none none none none none)=some (.nx (TR b (nowD a l {s with clock:=(s.clock+1)%86400,ring:=mx 0 (s.ring - 1)} (w+1) st) none none none none none none none none none none none)) :=
  dpS (s':={s with clock:=(s.clock+1)%86400,ring:=mx 0 (s.ring - 1)}) rfl (callS (arS rfl (arS (opS (opS rfl rfl kRing) rfl rfl) rfl)) (fmx 0 (s.ring - 1))) rfl (hb _ _ _ _ _ _ _ _ _ _ _ _ rfl) hst rfl rfl
 have d4:mPure (asgD (op2 keyG (vAt 1) (fun _=>some (.str (Str.ofString "laps")))) (unpD [(setAt 2),(setAt 3),(setAt 4)])) [a,l] (TR b (nowD a l {s with clock:=(s.clock+1)%86400,ring:=mx 0 (s.ring - 1)} (w+1) st) none none none none none none none none none none none)=some (.nx (TR b (nowD a l {s with clock:=(s.clock+1)%86400,ring:=mx 0 (s.ring - 1)} (w+1) st) (some (.int s.lm)) (some (.bl s.lr)) (some (.tup (s.lk.map .int))) none none none none none none none none)):=mP (asgS (opS rfl rfl kLaps) rfl)
 have d5:mDput 1 (Str.ofString "laps") (tupD (argC (op2 dAdd (vAt 2) (callD fInt (argC (vAt 3) argN))) (argC (vAt 3) (argC (vAt 4) argN)))) [a,l] (TR b (nowD a l {s with clock:=(s.clock+1)%86400,ring:=mx 0 (s.ring - 1)} (w+1) st) (some (.int s.lm)) (some (.bl s.lr)) (some (.tup (s.lk.map .int))) none none none none none none none none)=some (.nx (TR b (nowD a l {s with clock:=(s.clock+1)%86400,ring:=mx 0 (s.ring - 1),lm:=lapsOn s 1} (w+1) st) (some (.int s.lm)) (some (.bl s.lr)) (some (.tup (s.lk.map .int))) none none none none none none none none)):=by
  have e:dAdd (.int s.lm) (.int (if s.lr then 1 else 0))=some (.int (lapsOn s 1)):=by rw [<- laps1];rfl
  exact dpS (s':={s with clock:=(s.clock+1)%86400,ring:=mx 0 (s.ring - 1),lm:=lapsOn s 1}) rfl (tupS (arS (opS rfl (callS rfl (fIntB s.lr)) e) (arS rfl (arS rfl rfl)))) (nobLa {s with lm:=lapsOn s 1}) (hb _ _ _ _ _ _ _ _ _ _ _ _ (by simp [nobO,nob,nobsI])) hst (nobLa s) rfl
 have d6:mPure (asgD (op2 keyG (vAt 1) (fun _=>some (.str (Str.ofString "count")))) (unpD [(setAt 5),(setAt 6),(setAt 7),(setAt 3)])) [a,l] (TR b (nowD a l {s with clock:=(s.clock+1)%86400,ring:=mx 0 (s.ring - 1),lm:=lapsOn s 1} (w+1) st) (some (.int s.lm)) (some (.bl s.lr)) (some (.tup (s.lk.map .int))) none none none none none none none none)=some (.nx (TR b (nowD a l {s with clock:=(s.clock+1)%86400,ring:=mx 0 (s.ring - 1),lm:=lapsOn s 1} (w+1) st) (some (.int s.lm)) (some (.bl s.cr)) (some (.tup (s.lk.map .int))) (some (.int s.cm)) (some (.int s.cs)) (some (.int s.cl)) none none none none none)):=mP (asgS (opS rfl rfl kCount) rfl)
 have d7:mPure (asgD (andV (vAt 3) (asV (cmp2 cEq (vAt 7) (fun _=>some (.int 1))))) (setAt 8)) [a,l] (TR b (nowD a l {s with clock:=(s.clock+1)%86400,ring:=mx 0 (s.ring - 1),lm:=lapsOn s 1} (w+1) st) (some (.int s.lm)) (some (.bl s.cr)) (some (.tup (s.lk.map .int))) (some (.int s.cm)) (some (.int s.cs)) (some (.int s.cl)) none none none none none)=some (.nx (TR b (nowD a l {s with clock:=(s.clock+1)%86400,ring:=mx 0 (s.ring - 1),lm:=lapsOn s 1} (w+1) st) (some (.int s.lm)) (some (.bl s.cr)) (some (.tup (s.lk.map .int))) (some (.int s.cm)) (some (.int s.cs)) (some (.int s.cl)) (some (.bl (s.cr&&s.cl==1))) none none none none)):=by
  refine mP (asgS (d:=.bl (s.cr&&s.cl==1)) ?_ rfl)
  cases h:s.cr with
  | true=>exact anV rfl (asS (cmS rfl rfl rfl))
  | false=>exact anVF rfl
 have d8:mIf (truT (vAt 3)) (mDput 1 (Str.ofString "count") (tupD (argC (vAt 5) (argC (vAt 6) (argC (op2 dSub (vAt 7) (fun _=>some (.int 1))) (argC (asV (cmp2 cGt (vAt 7) (fun _=>some (.int 1)))) argN)))))) mNext [a,l] (TR b (nowD a l {s with clock:=(s.clock+1)%86400,ring:=mx 0 (s.ring - 1),lm:=lapsOn s 1} (w+1) st) (some (.int s.lm)) (some (.bl s.cr)) (some (.tup (s.lk.map .int))) (some (.int s.cm)) (some (.int s.cs)) (some (.int s.cl)) (some (.bl (s.cr&&s.cl==1))) none none none none)=some (.nx (TR b (nowD a l (stA s) (w+1) st) (some (.int s.lm)) (some (.bl s.cr)) (some (.tup (s.lk.map .int))) (some (.int s.cm)) (some (.int s.cs)) (some (.int s.cl)) (some (.bl (s.cr&&s.cl==1))) none none none none)):=by
  cases h:s.cr with
  | true =>
   obtain ⟨h1,h2⟩:=tick_cnt wk h
   have e1:dSub (.int s.cl) (.int 1)=some (.int (leftOn s 1)):=by rw [<- h1];rfl
   have e2:cGt (.int s.cl) (.int 1)=some (runsOn s 1):=by rw [<- h2];rfl
   exact (mIT (trS rfl)).trans (dpS (s':=stA s) rfl (tupS (arS rfl (arS rfl (arS (opS rfl rfl e1) (arS (asS (cmS rfl rfl e2)) rfl))))) rfl (hb _ _ _ _ _ _ _ _ _ _ _ _ (by simp [nobO,nob,nobsI])) hst rfl rfl)
  | false =>
   have e:stA s={s with clock:=(s.clock+1)%86400,ring:=mx 0 (s.ring - 1),lm:=lapsOn s 1}:=by
    have h1:leftOn s 1=s.cl:=by unfold leftOn;rw [if_neg (by rw [h];decide)]
    have h2:runsOn s 1=s.cr:=by rw [runsOn_eq s (by decide),h];rfl
    unfold stA;rw [h1,h2]
   rw [e]
   exact (mIF (trS (b:=false) (by rw [<- h];rfl))).trans (by rw [h];rfl)
 have d9:mPure (asgD (op2 keyG (vAt 1) (fun _=>some (.str (Str.ofString "alarm")))) (unpD [(setAt 9),(setAt 5),(setAt 10)])) [a,l] (TR b (nowD a l (stA s) (w+1) st) (some (.int s.lm)) (some (.bl s.cr)) (some (.tup (s.lk.map .int))) (some (.int s.cm)) (some (.int s.cs)) (some (.int s.cl)) (some (.bl (s.cr&&s.cl==1))) none none none none)=some (.nx (TR b (nowD a l (stA s) (w+1) st) (some (.int s.lm)) (some (.bl s.cr)) (some (.tup (s.lk.map .int))) (some (.int s.am)) (some (.int s.cs)) (some (.int s.cl)) (some (.bl (s.cr&&s.cl==1))) (some (.int s.ah)) (some (.bl s.aon)) none none)):=mP (asgS (opS rfl rfl kAlarm) rfl)
 have d10:mPure (ifD (andT (truT (vAt 10)) (cmp2 cEq (op2 keyG (vAt 1) (fun _=>some (.str (Str.ofString "clock")))) (op2 dAdd (op2 dMul (fun _=>some (.int 3600)) (vAt 9)) (op2 dMul (fun _=>some (.int 60)) (vAt 5))))) (asgD (fun _=>some (.bl true)) (setAt 8)) nextD) [a,l] (TR b (nowD a l (stA s) (w+1) st) (some (.int s.lm)) (some (.bl s.cr)) (some (.tup (s.lk.map .int))) (some (.int s.am)) (some (.int s.cs)) (some (.int s.cl)) (some (.bl (s.cr&&s.cl==1))) (some (.int s.ah)) (some (.bl s.aon)) none none)=some (.nx (TR b (nowD a l (stA s) (w+1) st) (some (.int s.lm)) (some (.bl s.cr)) (some (.tup (s.lk.map .int))) (some (.int s.am)) (some (.int s.cs)) (some (.int s.cl)) (some (.bl (bgn s))) (some (.int s.ah)) (some (.bl s.aon)) none none)):=by
  have e:cmp2 cEq (op2 keyG (vAt 1) (fun _=>some (.str (Str.ofString "clock")))) (op2 dAdd (op2 dMul (fun _=>some (.int 3600)) (vAt 9)) (op2 dMul (fun _=>some (.int 60)) (vAt 5))) (TR b (nowD a l (stA s) (w+1) st) (some (.int s.lm)) (some (.bl s.cr)) (some (.tup (s.lk.map .int))) (some (.int s.am)) (some (.int s.cs)) (some (.int s.cl)) (some (.bl (s.cr&&s.cl==1))) (some (.int s.ah)) (some (.bl s.aon)) none none)=some ((s.clock+1)%86400==s.sec):=cmS (opS rfl rfl kClock) (opS (opS rfl rfl (mul3600 _)) (opS rfl rfl (mul60 _)) rfl) rfl
  refine mP ?_
  unfold bgn
  cases h:s.aon with
  | false =>
   rw [show (false&&((s.clock+1)%86400==s.sec))=false from rfl,Bool.or_false]
   exact ifF (anF (trS rfl))
  | true =>
   rw [h] at e
   cases h2:((s.clock+1)%86400==s.sec) with
   | true =>
    rw [h2] at e
    rw [show (true&&true)=true from rfl,Bool.or_true]
    exact (ifT (anT (trS rfl) e)).trans rfl
   | false =>
    rw [h2] at e
    rw [show (true&&false)=false from rfl,Bool.or_false]
    exact ifF (anT (trS rfl) e)
 have d11:mIf (truT (vAt 8)) (mSeq (mDput 1 (Str.ofString "ring") (fun _=>some (.int 10))) (mDapp 1 (Str.ofString "story") (tupD (argC (op2 keyG (vAt 1) (fun _=>some (.str (Str.ofString "went")))) (argC (fun _=>some (.str (Str.ofString "ring"))) argN))))) mNext [a,l] (TR b (nowD a l (stA s) (w+1) st) (some (.int s.lm)) (some (.bl s.cr)) (some (.tup (s.lk.map .int))) (some (.int s.am)) (some (.int s.cs)) (some (.int s.cl)) (some (.bl (bgn s))) (some (.int s.ah)) (some (.bl s.aon)) none none)=some (.nx (TR b (nowD a l (stB s) (w+1) (st++(if bgn s then [hpD (w+1) (Str.ofString "ring")] else []))) (some (.int s.lm)) (some (.bl s.cr)) (some (.tup (s.lk.map .int))) (some (.int s.am)) (some (.int s.cs)) (some (.int s.cl)) (some (.bl (bgn s))) (some (.int s.ah)) (some (.bl s.aon)) none none)):=by
  unfold stB
  cases h:bgn s with
  | true =>
   have f1:mDput 1 (Str.ofString "ring") (fun _=>some (.int 10)) [a,l] (TR b (nowD a l (stA s) (w+1) st) (some (.int s.lm)) (some (.bl s.cr)) (some (.tup (s.lk.map .int))) (some (.int s.am)) (some (.int s.cs)) (some (.int s.cl)) (some (.bl true)) (some (.int s.ah)) (some (.bl s.aon)) none none)=some (.nx (TR b (nowD a l {stA s with ring:=10} (w+1) st) (some (.int s.lm)) (some (.bl s.cr)) (some (.tup (s.lk.map .int))) (some (.int s.am)) (some (.int s.cs)) (some (.int s.cl)) (some (.bl true)) (some (.int s.ah)) (some (.bl s.aon)) none none)) :=
    dpS (s':={stA s with ring:=10}) rfl rfl rfl (hb _ _ _ _ _ _ _ _ _ _ _ _ (by simp [nobO,nob,nobsI])) hst rfl rfl
   have f2:mDapp 1 (Str.ofString "story") (tupD (argC (op2 keyG (vAt 1) (fun _=>some (.str (Str.ofString "went")))) (argC (fun _=>some (.str (Str.ofString "ring"))) argN))) [a,l] (TR b (nowD a l {stA s with ring:=10} (w+1) st) (some (.int s.lm)) (some (.bl s.cr)) (some (.tup (s.lk.map .int))) (some (.int s.am)) (some (.int s.cs)) (some (.int s.cl)) (some (.bl true)) (some (.int s.ah)) (some (.bl s.aon)) none none)=some (.nx (TR b (nowD a l {stA s with ring:=10} (w+1) (st++[hpD (w+1) (Str.ofString "ring")])) (some (.int s.lm)) (some (.bl s.cr)) (some (.tup (s.lk.map .int))) (some (.int s.am)) (some (.int s.cs)) (some (.int s.cl)) (some (.bl true)) (some (.int s.ah)) (some (.bl s.aon)) none none)) :=
    daS (d:=hpD (w+1) (Str.ofString "ring")) rfl (tupS (arS (opS rfl rfl kWent) rfl)) rfl (hb _ _ _ _ _ _ _ _ _ _ _ _ (by simp [nobO,nob,nobsI])) hst (by omega)
   exact (mIT (trS rfl)).trans ((mN f1).trans f2)
  | false =>
   rw [if_neg Bool.false_ne_true,if_neg Bool.false_ne_true,List.append_nil]
   exact mIF (trS rfl)
 have hst2:nobs (st++(if bgn s then [hpD (w+1) (Str.ofString "ring")] else []))=true:=by
  cases bgn s with
  | true=>exact nobsA rfl hst
  | false=>rw [if_neg Bool.false_ne_true,List.append_nil];exact hst
 obtain ⟨ρ',e12,v12⟩:=tick_end (a:=a) (l:=l) (b:=b) (s:=stB s) (w:=w+1) (st:=st++(if bgn s then [hpD (w+1) (Str.ofString "ring")] else [])) (o2:=some (.int s.lm)) (o3:=some (.bl s.cr)) (o4:=some (.tup (s.lk.map .int))) (o5:=some (.int s.am)) (o6:=some (.int s.cs)) (o7:=some (.int s.cl)) (o8:=some (.bl (bgn s))) (o9:=some (.int s.ah)) (o10:=some (.bl s.aon)) ok (tp wk) hst2 (by rw [List.length_append];split<;>simp<;>omega) (by simp [nobO,nob,nobsI])
 show (fk (adr (nowD a l s w st)) (TR b (nowD a l s w st) none none none none none none none none none none none)).bind _=_
 rw [nowAd,show fk [a,l] (TR b (nowD a l s w st) none none none none none none none none none none none)=some (.nx ρ') from (mN d1).trans ((mN d2).trans ((mN d3).trans ((mN d4).trans ((mN d5).trans ((mN d6).trans ((mN d7).trans ((mN d8).trans ((mN d9).trans ((mN d10).trans ((mN d11).trans e12)))))))))),Option.bind_some]
 rw [uc ok wo,List.append_assoc] at v12
 exact endS v12 rfl (by rw [nowAd,nowAd])
end
def bQ:MU :=
  (mIf (cmp2 cEq (op2 dIx (vAt 2) (fun _=>some (.int 0))) (fun _=>some (.str (Str.ofString "ticks"))))
  (mFor (inRng1 (op2 dIx (vAt 2) (fun _=>some (.int 1)))) (setAt 3)
  (mExpr (mCal 1 (bX) (argC (vAt 0) (argC (vAt 1) argN)))))
  (mIf (cmp2 cEq (op2 dIx (vAt 2) (fun _=>some (.int 0))) (fun _=>some (.str (Str.ofString "down"))))
  (mIf (cmp2 cIsN (op2 keyG (vAt 1) (fun _=>some (.str (Str.ofString "held")))) (fun _=>some .non))
  (mSeq (mDput 1 (Str.ofString "idle") (fun _=>some (.int 0)))
  (mSeq (mDput 1 (Str.ofString "held") (tupD (argC (op2 dIx (vAt 2) (fun _=>some (.int 1))) (argC (op2 dIx (lstD (argC (fun _=>some (.int 0)) (argC (fun _=>some .non) argN))) (callD fInt (argC (asV (cmp2 cGt (op2 keyG (vAt 1) (fun _=>some (.str (Str.ofString "ring")))) (fun _=>some (.int 0)))) argN))) argN))))
  (mDput 1 (Str.ofString "ring") (fun _=>some (.int 0)))))
  mNext)
  (mIf (andT (cmp2 cNotN (op2 keyG (vAt 1) (fun _=>some (.str (Str.ofString "held")))) (fun _=>some .non)) (cmp2 cEq (op2 dIx (op2 keyG (vAt 1) (fun _=>some (.str (Str.ofString "held")))) (fun _=>some (.int 0))) (op2 dIx (vAt 2) (fun _=>some (.int 1)))))
  (mSeq (mIf (cmp2 cNotN (op2 dIx (op2 keyG (vAt 1) (fun _=>some (.str (Str.ofString "held")))) (fun _=>some (.int 1))) (fun _=>some .non))
  (mExpr (mCal 1 (bj) (argC (vAt 0) (argC (vAt 1) (argC (op2 dIx (vAt 2) (fun _=>some (.int 1))) argN)))))
  mNext)
  (mSeq (mDput 1 (Str.ofString "held") (fun _=>some .non))
  (mDput 1 (Str.ofString "idle") (fun _=>some (.int 0)))))
  mNext)))
def aO:List D->Option (D×D):=viaM 3 4 1 (bQ)
def stN (b:Bk) (s:WS) (w:Int):Nat->List D
 | 0=>[]
 | n+1=>stN b s w n++tkS b (ticked b s n) (w+n)
theorem eV:∀ {p q:List D},nobs p=true->nobs q=true->nobs (p++q)=true
 | [],_,_,h=>h
 | x::p,q,h1,h2=>by
  have h':(nob x&&nobs p)=true:=h1
  rw [Bool.and_eq_true] at h'
  show (nob x&&nobs (p++q))=true
  rw [h'.1,eV h'.2 h2];rfl
theorem oZ (b:Bk) (s:WS) (w:Int):nobs (tkS b s w)=true:=by
 refine eV ?_ (nobsM (fun _=>rfl) _)
 split<;>rfl
theorem sj (b:Bk) (t:WS):(tkH b t).length<=1:=by
 unfold tkH
 rcases t.held with _ | ⟨x,_ | k⟩
 ·dsimp only;split<;>simp
 ·simp
 ·dsimp only;split<;>simp
theorem oO (b:Bk) (s:WS) (w:Int):(tkS b s w).length<=2:=by
 unfold tkS
 rw [List.length_append,List.length_map]
 have h1:(if bgn s=true then [hpD (w+1) (Str.ofString "ring")] else []).length<=1:=by split<;>simp
 have h2:=sj b (stB s)
 omega
theorem forM_go {stp:D->R->Option R} {u:MU} {S:List Nat} {d:D} {ds:List D} {ρ ρ1 ρ2:R} (h1:stp d ρ=some ρ1) (h2:u S ρ1=some (.nx ρ2)):forM stp u S (d::ds) ρ=forM stp u S ds ρ2:=by
 show (stp d ρ).bind _=_
 rw [h1,Option.bind_some]
 show (u S ρ1).bind _=_
 rw [h2];rfl
section
variable {a l:Nat} {b:Bk} {w:Int}
theorem qd (s:WS) (n:Nat) (ok:b.Ok) (wo:s.Ok b):stN b s w (n+1)=tkS b s w++stN b (ticked b s 1) (w+1) n:=by
 induction n with
 | zero =>
  show []++tkS b (ticked b s ((0:Nat):Int)) (w+((0:Nat):Int))=tkS b s w++[]
  rw [show (((0:Nat):Int))=0 from rfl,ticked_zero wo,Int.add_zero,List.append_nil];rfl
 | succ n ih =>
  show stN b s w (n+1)++tkS b (ticked b s ((n+1:Nat):Int)) (w+((n+1:Nat):Int))=tkS b s w++(stN b (ticked b s 1) (w+1) n++tkS b (ticked b (ticked b s 1) (n:Int)) (w+1+(n:Int)))
  rw [ih,List.append_assoc,ticked_add ok wo (by decide) (by omega)]
  have e1:((n+1:Nat):Int)=1+(n:Int):=by omega
  have e2:w+((n+1:Nat):Int)=w+1+(n:Int):=by omega
  rw [e1,<- e2,e1]
theorem ticks_loop (ok:b.Ok) (ev:D) (hev:nob ev=true):∀ (ds:List D) (s:WS) (w:Int) (st:List D) (o3:Option D),nobs ds=true->s.Ok b->nobs st=true->st.length+2*ds.length<98000->nobO o3=true ->
  ∃ o3',forM (setAt 3) (mExpr (mCal 1 (bX) (argC (vAt 0) (argC (vAt 1) argN)))) [a,l] ds [some b.d,some (nowD a l s w st),some ev,o3]=some (.nx [some b.d,some (nowD a l (ticked b s ds.length) (w+ds.length) (st++stN b s w ds.length)),some ev,o3'])
 | [],s,w,st,o3,_,wo,_,_,_=>by
  refine ⟨o3,?_⟩
  show some (MO.nx [some b.d,some (nowD a l s w st),some ev,o3])=some (MO.nx [some b.d,some (nowD a l (ticked b s 0) (w+0) (st++[])),some ev,o3])
  rw [ticked_zero wo,Int.add_zero,List.append_nil]
 | d::ds,s,w,st,o3,hn,wo,hst,hl,ho=>by
  have hn':(nob d&&nobs ds)=true:=hn
  rw [Bool.and_eq_true] at hn'
  rw [List.length_cons] at hl
  have e1:=su (a:=a) (l:=l) (w:=w) ok wo hst (by omega)
  have hb:nobBut 1 [some b.d,some (nowD a l s w st),some ev,some d]=true:=nb1 (by simp [nobO,hev,hn'.1])
  have e2:mExpr (mCal 1 (bX) (argC (vAt 0) (argC (vAt 1) argN))) [a,l] [some b.d,some (nowD a l s w st),some ev,some d]=some (.nx [some b.d,some (nowD a l (ticked b s 1) (w+1) (st++tkS b s w)),some ev,some d]) :=
   mEx (calS2 (ob:=nowD a l s w st) rfl rfl e1 rfl hb (by rw [nowAd];simp [inS]))
  have hl2:=oO b s w
  obtain ⟨o3',h⟩:=ticks_loop ok ev hev ds (ticked b s 1) (w+1) (st++tkS b s w) (some d) hn'.2 (tick_ok ok wo (by decide)) (eV hst (oZ b s w)) (by rw [List.length_append];omega) hn'.1
  refine ⟨o3',(forM_go rfl e2).trans (h.trans ?_)⟩
  have e3:(1:Int)+(ds.length:Int)=((ds.length+1:Nat):Int):=by omega
  rw [ticked_add ok wo (by decide) (by omega),List.append_assoc,<- qd s ds.length ok wo,e3,show w+1+(ds.length:Int)=w+((ds.length+1:Nat):Int) by omega];rfl
theorem oU (n:Int):nobs (rngD 0 n)=true:=by
 unfold rngD
 exact nobsM (fun _=>rfl) _
theorem rV {s:WS} {st:List D} {n:Int} (ok:b.Ok) (wo:s.Ok b) (hst:nobs st=true) (h0:0<=n) (h1:n<40000) (hl:st.length+2*n.toNat<98000):aO [b.d,nowD a l s w st,(Ev.ticks n).d]=some (.non,nowD a l (ticked b s n) (w+n) (st++stN b s w n.toNat)):=by
 have hlen:(rngD 0 n).length=n.toNat:=by simp [rngD]
 obtain ⟨o3',h⟩:=ticks_loop (a:=a) (l:=l) ok (Ev.ticks n).d rfl (rngD 0 n) s w st none (oU n) wo hst (by rw [hlen];exact hl) rfl
 rw [hlen,show ((n.toNat:Nat):Int)=n by omega] at h
 have it:inRng1 (op2 dIx (vAt 2) (fun _=>some (.int 1))) [some b.d,some (nowD a l s w st),some (Ev.ticks n).d,none]=some (rngD 0 n):=by
  show (op2 dIx (vAt 2) (fun _=>some (.int 1)) _).bind _=_
  rw [opS (z:=.int n) rfl rfl rfl,Option.bind_some]
  exact if_pos ⟨by omega,by omega⟩
 have e:bQ [a,l] [some b.d,some (nowD a l s w st),some (Ev.ticks n).d,none]=some (.nx [some b.d,some (nowD a l (ticked b s n) (w+n) (st++stN b s w n.toNat)),some (Ev.ticks n).d,o3']):=by
  refine (mIT (cmS (opS rfl rfl rfl) rfl rfl)).trans ?_
  show (inRng1 _ _).bind _=_
  rw [it,Option.bind_some,if_pos (oU n)]
  exact h
 show (bQ (adr (nowD a l s w st)) [some b.d,some (nowD a l s w st),some (Ev.ticks n).d,none]).bind _=_
 rw [nowAd,e,Option.bind_some]
 exact endS rfl rfl (by rw [nowAd,nowAd])
end
theorem pr (b:Bk) (s:WS) (w:Int):∀ n,nobs (stN b s w n)=true
 | 0=>rfl
 | n+1=>eV (pr b s w n) (oZ b _ _)
theorem oK (b:Bk) (s:WS) (w:Int):∀ n,(stN b s w n).length<=2*n
 | 0=>Nat.le_refl 0
 | n+1=>by
  have h1:=oK b s w n
  have h2:=oO b (ticked b s n) (w+n)
  show (stN b s w n++tkS b (ticked b s n) (w+n)).length<=_
  rw [List.length_append];omega
def stE (b:Bk) (s:WS) (w:Int):Ev->List D
 | .ticks n=>stN b s w n.toNat
 | .down _=>[]
 | .up x=>match s.held with
  | some (y,some _)=>if y=x then [hpD w x.x] else []
  | _=>[]
def wE (w:Int):Ev->Int
 | .ticks n=>w+n
 | _=>w
theorem btnEq (x y:Btn):cEq (.str x.x) (.str y.x)=some (decide (x=y)):=by cases x<;>cases y<;>rfl
theorem stE_nob (b:Bk) (s:WS) (w:Int) (e:Ev):nobs (stE b s w e)=true:=by
 cases e with
 | ticks n=>exact pr b s w _
 | down x=>rfl
 | up x =>
  unfold stE
  rcases s.held with _ | ⟨y,_ | k⟩
  ·rfl
  ·rfl
  ·dsimp only;split<;>rfl
section
variable {a l:Nat} {b:Bk} {s:WS} {w:Int} {st:List D}
theorem oS (hst:nobs st=true) (x:Btn):aO [b.d,nowD a l s w st,(Ev.down x).d]=some (.non,nowD a l (pushed s x) w st):=by
 have hb:∀ y,nobBut 1 [some b.d,some y,some (Ev.down x).d,none]=true:=fun y=>nb1 rfl
 have c1:cmp2 cEq (op2 dIx (vAt 2) (fun _=>some (.int 0))) (fun _=>some (.str (Str.ofString "ticks"))) [some b.d,some (nowD a l s w st),some (Ev.down x).d,none]=some false:=cmS (opS rfl rfl rfl) rfl rfl
 have c2:cmp2 cEq (op2 dIx (vAt 2) (fun _=>some (.int 0))) (fun _=>some (.str (Str.ofString "down"))) [some b.d,some (nowD a l s w st),some (Ev.down x).d,none]=some true:=cmS (opS rfl rfl rfl) rfl rfl
 have c3:cmp2 cIsN (op2 keyG (vAt 1) (fun _=>some (.str (Str.ofString "held")))) (fun _=>some .non) [some b.d,some (nowD a l s w st),some (Ev.down x).d,none]=some (!s.held.isSome):=cmS (opS rfl rfl kHeld) rfl (heldNon _)
 have key:bQ [a,l] [some b.d,some (nowD a l s w st),some (Ev.down x).d,none]=some (.nx [some b.d,some (nowD a l (pushed s x) w st),some (Ev.down x).d,none]):=by
  refine (mIF c1).trans ((mIT c2).trans ?_)
  unfold pushed
  cases hh:s.held.isSome with
  | true =>
   rw [hh] at c3
   exact (mIF c3).trans rfl
  | false =>
   rw [hh] at c3
   have d1:mDput 1 (Str.ofString "idle") (fun _=>some (.int 0)) [a,l] [some b.d,some (nowD a l s w st),some (Ev.down x).d,none]=some (.nx [some b.d,some (nowD a l {s with idle:=0} w st),some (Ev.down x).d,none]):=dpS (s':={s with idle:=0}) rfl rfl rfl (hb _) hst rfl rfl
   have e2:op2 dIx (lstD (argC (fun _=>some (.int 0)) (argC (fun _=>some .non) argN))) (callD fInt (argC (asV (cmp2 cGt (op2 keyG (vAt 1) (fun _=>some (.str (Str.ofString "ring")))) (fun _=>some (.int 0)))) argN)) [some b.d,some (nowD a l {s with idle:=0} w st),some (Ev.down x).d,none]=some (optI (if 0<s.ring then none else some 0)):=by
    have q:asV (cmp2 cGt (op2 keyG (vAt 1) (fun _=>some (.str (Str.ofString "ring")))) (fun _=>some (.int 0))) [some b.d,some (nowD a l {s with idle:=0} w st),some (Ev.down x).d,none]=some (.bl (decide (s.ring > 0))):=asS (cmS (opS rfl rfl kRing) rfl rfl)
    by_cases h:0<s.ring
    ·rw [if_pos h]
     rw [decide_eq_true h] at q
     exact opS rfl (callS (arS q rfl) rfl) rfl
    ·rw [if_neg h]
     rw [decide_eq_false h] at q
     exact opS rfl (callS (arS q rfl) rfl) rfl
   have d2:mDput 1 (Str.ofString "held") (tupD (argC (op2 dIx (vAt 2) (fun _=>some (.int 1))) (argC (op2 dIx (lstD (argC (fun _=>some (.int 0)) (argC (fun _=>some .non) argN))) (callD fInt (argC (asV (cmp2 cGt (op2 keyG (vAt 1) (fun _=>some (.str (Str.ofString "ring")))) (fun _=>some (.int 0)))) argN))) argN))) [a,l] [some b.d,some (nowD a l {s with idle:=0} w st),some (Ev.down x).d,none]=some (.nx [some b.d,some (nowD a l {s with idle:=0,held:=some (x,if 0<s.ring then none else some 0)} w st),some (Ev.down x).d,none]) :=
    dpS (s':={s with idle:=0,held:=some (x,if 0<s.ring then none else some 0)}) rfl (tupS (arS (opS rfl rfl rfl) (arS e2 rfl))) (nobH (some (x,if 0<s.ring then none else some 0))) (hb _) hst (nobH _) rfl
   have d3:mDput 1 (Str.ofString "ring") (fun _=>some (.int 0)) [a,l] [some b.d,some (nowD a l {s with idle:=0,held:=some (x,if 0<s.ring then none else some 0)} w st),some (Ev.down x).d,none]=some (.nx [some b.d,some (nowD a l {s with ring:=0,idle:=0,held:=some (x,if 0<s.ring then none else some 0)} w st),some (Ev.down x).d,none]) :=
    dpS (s':={s with ring:=0,idle:=0,held:=some (x,if 0<s.ring then none else some 0)}) rfl rfl rfl (hb _) hst rfl rfl
   exact (mIT c3).trans ((mN d1).trans ((mN d2).trans d3))
 show (bQ (adr (nowD a l s w st)) [some b.d,some (nowD a l s w st),some (Ev.down x).d,none]).bind _=_
 rw [nowAd,key,Option.bind_some]
 exact endS rfl rfl (by rw [nowAd,nowAd])
theorem qU (ok:b.Ok) (wk:s.Wk b) (hst:nobs st=true) (hl:st.length<90000) (x:Btn):aO [b.d,nowD a l s w st,(Ev.up x).d]=some (.non,nowD a l (letGo b s x) w (st++stE b s w (.up x))):=by
 have hb:∀ y,nobBut 1 [some b.d,some y,some (Ev.up x).d,none]=true:=fun y=>nb1 rfl
 have c1:cmp2 cEq (op2 dIx (vAt 2) (fun _=>some (.int 0))) (fun _=>some (.str (Str.ofString "ticks"))) [some b.d,some (nowD a l s w st),some (Ev.up x).d,none]=some false:=cmS (opS rfl rfl rfl) rfl rfl
 have c2:cmp2 cEq (op2 dIx (vAt 2) (fun _=>some (.int 0))) (fun _=>some (.str (Str.ofString "down"))) [some b.d,some (nowD a l s w st),some (Ev.up x).d,none]=some false:=cmS (opS rfl rfl rfl) rfl rfl
 have c3:cmp2 cNotN (op2 keyG (vAt 1) (fun _=>some (.str (Str.ofString "held")))) (fun _=>some .non) [some b.d,some (nowD a l s w st),some (Ev.up x).d,none]=some s.held.isSome:=cmS (opS rfl rfl kHeld) rfl (heldNot _)
 have fin:∀ (s':WS) (st':List D),nobs st'=true->mSeq (mDput 1 (Str.ofString "held") (fun _=>some .non)) (mDput 1 (Str.ofString "idle") (fun _=>some (.int 0))) [a,l] [some b.d,some (nowD a l s' w st'),some (Ev.up x).d,none]=some (.nx [some b.d,some (nowD a l {s' with held:=none,idle:=0} w st'),some (Ev.up x).d,none]):=fun s' st' hn=>by
  have d1:mDput 1 (Str.ofString "held") (fun _=>some .non) [a,l] [some b.d,some (nowD a l s' w st'),some (Ev.up x).d,none]=some (.nx [some b.d,some (nowD a l {s' with held:=none} w st'),some (Ev.up x).d,none]):=dpS (s':={s' with held:=none}) rfl rfl rfl (hb _) hn (nobH _) rfl
  have d2:mDput 1 (Str.ofString "idle") (fun _=>some (.int 0)) [a,l] [some b.d,some (nowD a l {s' with held:=none} w st'),some (Ev.up x).d,none]=some (.nx [some b.d,some (nowD a l {s' with held:=none,idle:=0} w st'),some (Ev.up x).d,none]):=dpS (s':={s' with held:=none,idle:=0}) rfl rfl rfl (hb _) hn rfl rfl
  exact (mN d1).trans d2
 have key:bQ [a,l] [some b.d,some (nowD a l s w st),some (Ev.up x).d,none]=some (.nx [some b.d,some (nowD a l (letGo b s x) w (st++stE b s w (.up x))),some (Ev.up x).d,none]):=by
  refine (mIF c1).trans ((mIF c2).trans ?_)
  unfold letGo stE
  rcases hh:s.held with _ | ⟨y,k⟩
  ·rw [hh] at c3
   refine (mIF (anF c3)).trans ?_
   show some _=some (MO.nx [some b.d,some (nowD a l s w (st++[])),_,_])
   rw [List.append_nil]
  ·rw [hh] at c3
   have c4:cmp2 cEq (op2 dIx (op2 keyG (vAt 1) (fun _=>some (.str (Str.ofString "held")))) (fun _=>some (.int 0))) (op2 dIx (vAt 2) (fun _=>some (.int 1))) [some b.d,some (nowD a l s w st),some (Ev.up x).d,none]=some (decide (y=x)):=cmS (opS (opS rfl rfl (kHeld.trans (by rw [hh]))) rfl (h0 y k)) (opS rfl rfl rfl) (btnEq y x)
   have c5:cmp2 cNotN (op2 dIx (op2 keyG (vAt 1) (fun _=>some (.str (Str.ofString "held")))) (fun _=>some (.int 1))) (fun _=>some .non) [some b.d,some (nowD a l s w st),some (Ev.up x).d,none]=some k.isSome:=cmS (opS (opS rfl rfl (kHeld.trans (by rw [hh]))) rfl (h1 y k)) rfl (not_non k)
   dsimp only
   by_cases hy:y=x
   ·subst hy
    rw [decide_eq_true rfl] at c4
    rw [if_pos rfl]
    refine (mIT (anT c3 c4)).trans ?_
    cases k with
    | none =>
     refine (mN (mIF c5)).trans ((fin s st hst).trans ?_)
     dsimp only
     rw [List.append_nil];rfl
    | some j =>
     have e5:=lR (a:=a) (l:=l) (w:=w) (st:=st) ok wk (y,false) hst (by omega)
     have d4:mExpr (mCal 1 (bj) (argC (vAt 0) (argC (vAt 1) (argC (op2 dIx (vAt 2) (fun _=>some (.int 1))) argN)))) [a,l] [some b.d,some (nowD a l s w st),some (Ev.up y).d,none]=some (.nx [some b.d,some (nowD a l (press b s y.ix) w (st++[hpD w y.x])),some (Ev.up y).d,none]) :=
      mEx (calS2 (ob:=nowD a l s w st) rfl (arS rfl (arS rfl (arS (opS rfl rfl rfl) rfl))) e5 rfl (hb _) (by rw [nowAd];simp [inS]))
     refine (mN ((mIT c5).trans d4)).trans ((fin (press b s y.ix) _ (nobsA rfl hst)).trans ?_)
     dsimp only
     rw [if_pos rfl];rfl
   ·rw [decide_eq_false hy] at c4
    rw [if_neg hy]
    refine (mIF (anT c3 c4)).trans ?_
    have:(match some (y,k) with | some (z,some _)=>if z=x then [hpD w x.x] else [] | _=>([]:List D))=[]:=by
     cases k with
     | none=>rfl
     | some j=>exact if_neg hy
    show some _=some (MO.nx [some b.d,some (nowD a l s w (st++(match some (y,k) with | some (z,some _)=>if z=x then [hpD w x.x] else [] | _=>([]:List D)))),_,_])
    rw [this,List.append_nil]
 show (bQ (adr (nowD a l s w st)) [some b.d,some (nowD a l s w st),some (Ev.up x).d,none]).bind _=_
 rw [nowAd,key,Option.bind_some]
 exact endS rfl rfl (by rw [nowAd,nowAd])
theorem pF (ok:b.Ok) (wo:s.Ok b) (hst:nobs st=true) (e:Ev) (he:e.Ok) (h4:∀ n,e=.ticks n->n<10000) (hl:st.length<70000):aO [b.d,nowD a l s w st,e.d]=some (.non,nowD a l (gone b s e) (wE w e) (st++stE b s w e)):=by
 cases e with
 | down x =>
  have:=oS (a:=a) (l:=l) (b:=b) (s:=s) (w:=w) hst x
  show _=some (D.non,nowD a l (pushed s x) w (st++[]))
  rw [List.append_nil];exact this
 | up x=>exact qU ok wo.toWk hst (by omega) x
 | ticks n =>
  have h1:1<=n:=he
  have h2:=h4 n rfl
  exact rV ok wo hst (by omega) (by omega) (by omega)
end
def nN:NK :=
  (nkPure (asgD (tupD (argC (fun _=>some (.str (Str.ofString "mode"))) (argC (fun _=>some (.str (Str.ofString "clock"))) (argC (fun _=>some (.str (Str.ofString "alarm"))) (argC (fun _=>some (.str (Str.ofString "laps"))) (argC (fun _=>some (.str (Str.ofString "count"))) (argC (fun _=>some (.str (Str.ofString "ring"))) (argC (fun _=>some (.str (Str.ofString "held"))) (argC (fun _=>some (.str (Str.ofString "idle"))) argN))))))))) (setAt 1))
  (nkEnd 2 (vAt 1) (vAt 0) (Str.ofString "went") (fun _=>some (.int 0)) (Str.ofString "story")))
def bY:List D->Nat->Nat->Option D:=viaN 1 3 nN
theorem nkE {i:Nat} {f1 f2 f:R->Option D} {k k':Str} {ρ:R} {a l:Nat} {xs ys:List D} {d:D} {ks:List Str} (h1:f1 ρ=some (.tup xs)) (h2:f2 ρ=some (.tup ys)) (h3:f ρ=some d) (h4:txsOf xs=some ks) (h5:(ks.Nodup/\ks.length=ys.length/\0<ks.length/\ks.length<50)/\nobs ys=true/\nob d=true/\freeAt i ρ=true/\(putD ks ys k d).1.Nodup) :
  nkEnd i f1 f2 k f k' ρ a l=some (.obj 1 a (putD (putD ks ys k d).1 (putD ks ys k d).2 k' (.obj 0 l [] [])).1 (putD (putD ks ys k d).1 (putD ks ys k d).2 k' (.obj 0 l [] [])).2):=by
 unfold nkEnd
 rw [h1,Option.bind_some,h2,Option.bind_some,h3,Option.bind_some]
 dsimp only
 rw [h4,Option.bind_some,if_pos h5]
theorem qN {a l:Nat} {s:WS}:bY [s.d] a l=some (nowD a l s 0 []):=by
 unfold bY viaN
 rw [if_pos (show [s.d].length=1 from rfl)]
 show nkEnd 2 (vAt 1) (vAt 0) (Str.ofString "went") (fun _=>some (.int 0)) (Str.ofString "story") [some s.d,some (.tup [.str (Str.ofString "mode"),.str (Str.ofString "clock"),.str (Str.ofString "alarm"),.str (Str.ofString "laps"),.str (Str.ofString "count"),.str (Str.ofString "ring"),.str (Str.ofString "held"),.str (Str.ofString "idle")]),none] a l=_
 exact (nkE (ks:=[Str.ofString "mode",Str.ofString "clock",Str.ofString "alarm",Str.ofString "laps",Str.ofString "count",Str.ofString "ring",Str.ofString "held",Str.ofString "idle"]) rfl rfl rfl rfl ⟨⟨by decide +kernel,rfl,by decide,by decide⟩,nobWs s,rfl,rfl,(by show List.Nodup [Str.ofString "mode",Str.ofString "clock",Str.ofString "alarm",Str.ofString "laps",Str.ofString "count",Str.ofString "ring",Str.ofString "held",Str.ofString "idle",Str.ofString "went"];decide +kernel)⟩).trans rfl
def oB:R->Option Out :=
 (asgD (callD ca (argC (callD bA (argC (vAt 0) (argC (fun _=>some (.int 0)) argN))) argN)) (setAt 1))
def oC:R->Option Out :=
 (asgD (callD bT (argC (vAt 1) (argC (callD bA (argC (vAt 0) (argC (fun _=>some (.int 1)) argN))) argN))) (setAt 2))
def pk:R->Option Out :=
 (asgD (vAt 2) (setAt 3))
def mq_law_6_1:MU :=
 (mPure (asgD (callD cP (argC (vAt 1) (argC (vAt 2) (argC (vAt 6) argN)))) (setAt 2)))
def mq_law_6_2:MU :=
 (mExpr (mCal 4 (aO) (argC (vAt 1) (argC (vAt 4) (argC (vAt 6) argN)))))
def mq_law_6_3:MU :=
  (mPure (ifD (orT (cmp2 cNeD (vAt 2) (callD (bW) (argC (vAt 4) argN))) (orT (cmp2 cNe (callD fRepr (argC (vAt 2) argN)) (callD fRepr (argC (callD (bW) (argC (vAt 4) argN)) argN))) (notT (truT (callD cE (argC (vAt 1) (argC (vAt 2) argN)))))))
  (retD (fun _=>some (.bl false)))
  nextD))
def jJ:MU:=(mSeq (mq_law_6_1) (mSeq (mq_law_6_2) (mq_law_6_3)))
def pj:MU :=
 (mPure (asgD (callD cx (argC (callD bA (argC (vAt 0) (argC (fun _=>some (.int 2)) argN))) (argC (fun _=>some (.int 9)) argN))) (setAt 5)))
def o_:MU :=
 (mFor (inSeq (vAt 5)) (setAt 6) (jJ))
def oW:MU :=
  (mPure (ifD (cmp2 cNeD (callD ej (argC (vAt 1) (argC (vAt 3) (argC (vAt 5) argN)))) (vAt 2))
  (retD (fun _=>some (.bl false)))
  nextD))
def oT:MU :=
 (mPure (asgD (tupD (argC (fun _=>some (.str (Str.ofString "none"))) (argC (fun _=>some (.str (Str.ofString "hour"))) (argC (fun _=>some (.str (Str.ofString "minute"))) (argC (fun _=>some (.str (Str.ofString "zero"))) (argC (fun _=>some (.str (Str.ofString "ahour"))) (argC (fun _=>some (.str (Str.ofString "aminute"))) (argC (fun _=>some (.str (Str.ofString "alarm"))) (argC (fun _=>some (.str (Str.ofString "run"))) (argC (fun _=>some (.str (Str.ofString "lap"))) (argC (fun _=>some (.str (Str.ofString "cminute"))) (argC (fun _=>some (.str (Str.ofString "csecond"))) (argC (fun _=>some (.str (Str.ofString "full"))) argN))))))))))))) (setAt 7)))
def sQ:MU :=
  (mSeq (mDrop 4) (mPure (seqD (loopD (inSeq (op2 dAdd (vAt 7) (tupD (argC (fun _=>some (.str (Str.ofString "count"))) argN)))) (setAt 8)
  (seqD (asgD (tupD (argC (op2 dIx (vAt 1) (fun _=>some (.int 0))) (argC (fun _=>some (.int 0)) (argC (tupD (argC (tupD (argC (fun _=>some (.str (Str.ofString "time"))) (argC (fun _=>some (.bl true)) (argC (op2 dAdd (tupD (argC (tupD (argC (vAt 8) (argC (fun _=>some (.int 0)) argN))) argN)) (op2 dMulT (tupD (argC (tupD (argC (fun _=>some (.str (Str.ofString "none"))) (argC (fun _=>some (.int 0)) argN))) argN)) (fun _=>some (.int 5)))) argN)))) argN)) argN)))) (setAt 9))
  (seqD (asgD (op2 dAdd (op2 dAdd (tupD (argC (fun _=>some (.int 0)) argN)) (slD (vAt 3) (aP (fun _=>some (.int 1))) (aP (fun _=>some (.int 5))))) (tupD (argC (fun _=>some (.int 0)) (argC (fun _=>some .non) (argC (fun _=>some (.int 0)) argN))))) (setAt 2))
  (newN 4 bY (argC (vAt 2) argN)
  (mSeq (mFor (inSeq (tupD (argC (tupD (argC (fun _=>some (.str (Str.ofString "down"))) (argC (fun _=>some (.str (Str.ofString "a"))) argN))) (argC (tupD (argC (fun _=>some (.str (Str.ofString "up"))) (argC (fun _=>some (.str (Str.ofString "a"))) argN))) argN)))) (setAt 6)
  (mSeq (mPure (asgD (callD cP (argC (vAt 9) (argC (vAt 2) (argC (vAt 6) argN)))) (setAt 2)))
  (mExpr (mCal 4 (aO) (argC (vAt 9) (argC (vAt 4) (argC (vAt 6) argN)))))))
  (mPure (ifD (cmp2 cNe (callD fRepr (argC (vAt 2) argN)) (callD fRepr (argC (callD (bW) (argC (vAt 4) argN)) argN)))
  (retD (fun _=>some (.bl false)))
  nextD)))))))
  (retD (fun _=>some (.bl true))))))
def tf:R->Option Out :=
 (seqD oB (seqD oC (seqD pk (newN 4 bY (argC (vAt 2) argN) (mSeq (pj) (mSeq (o_) (mSeq (oW) (mSeq (oT) (sQ)))))))))
def jD:List D->Option D:=via 1 10 (tf)
theorem um:∀ ds d,jD ds=some d->retOf (tf (beg 10 ds))=some d:=fun _ _ h=>aK h
theorem uq:∀ ds d,jD ds=some d->ds.length=1:=fun _ _ h=>aw h
def Big (s:WS) (M:Int):Prop:=0<=M/\s.lm<=M/\∀ x∈s.lk,0<=x/\x<=M
theorem Big.up {s:WS} {M N:Int} (h:Big s M) (hN:M<=N):Big s N:=⟨by have:=h.1;omega,by have:=h.2.1;omega,fun x hx=>⟨(h.2.2 x hx).1,by have:=(h.2.2 x hx).2;omega⟩⟩
theorem big_deed {d:Deed} {s:WS} {M:Int} (h0:0<=s.lm) (h:Big s M):Big (deed d s) M:=by
 cases d
 case lap =>
  show Big (if s.lr then (if 4<=s.lk.length then s else {s with lk:=s.lk++[s.lm]}) else {s with lm:=0,lk:=[]}) M
  split
  ·split
   ·exact h
   ·refine ⟨h.1,h.2.1,fun x hx=>?_⟩
    rcases List.mem_append.mp hx with hx | hx
    ·exact h.2.2 x hx
    ·rw [List.mem_singleton.mp hx];exact ⟨h0,h.2.1⟩
  ·exact ⟨h.1,h.1,fun x hx=>by cases hx⟩
 all_goals first | exact h | (simp only [deed,setTo];split<;>exact h)
theorem big_press {b:Bk} {s:WS} {i:Nat} {M:Int} (h0:0<=s.lm) (h:Big s M):Big (press b s i) M:=big_deed (d:=(b.row s.mode i).1) h0 h
theorem big_cnt {b:Bk} {s:WS} {n M:Int} (hn:0<=n) (h:Big s M):Big (counted b s n) (M+n):=by
 refine ⟨by have:=h.1;omega,?_,fun x hx=>⟨(h.2.2 x hx).1,by have:=(h.2.2 x hx).2;omega⟩⟩
 show lapsOn s n<=_
 have:=h.2.1
 unfold lapsOn;split<;>omega
theorem big_turned {b:Bk} {s:WS} {M:Int} (h0:0<=s.lm) (h:Big s M):Big (turned b s) M:=by
 unfold turned
 split
 ·exact h
 ·exact big_press (s:={s with held:=some (_,none)}) h0 h
theorem big_ticked {b:Bk} {s:WS} {n M:Int} (w:s.Wk b) (hn:0<=n) (h:Big s M):Big (ticked b s n) (M+n):=by
 unfold ticked
 split
 ·exact big_cnt hn h
 ·rename_i t ht
  split
  ·exact big_cnt hn h
  ·rename_i q
   have t1:=turn_pos ht
   have:=big_cnt (b:=b) (n:=n - t) (by omega) (big_turned (b:=b) (w.cnt (n:=t) (by omega)).lm0 (big_cnt (b:=b) (n:=t) (by omega) h))
   rw [show M+t+(n - t)=M+n by omega] at this
   exact this
theorem big_gone {b:Bk} {s:WS} {M:Int} (w:s.Wk b) (h:Big s M) (e:Ev) (he:e.Lt):Big (gone b s e) (M+130):=by
 have up:=h.up (N:=M+130) (by omega)
 cases e with
 | down x=>show Big (pushed s x) _;unfold pushed;split<;>exact up
 | up x =>
  show Big (letGo b s x) _
  unfold letGo
  split
  ·split
   ·split
    ·exact big_press w.lm0 up
    ·exact up
   ·exact up
  ·exact up
 | ticks n =>
  have h1:1<=n:=he.1
  have h2:n<=130:=he.2
  exact (big_ticked w (by omega) h).up (by omega)
theorem shown_all:∀ ds:List PyData,PyData.shownAll ds=ds.map PyData.shown
 | []=>rfl
 | d::ds=>by rw [PyData.shownAll,shown_all ds];rfl
theorem sum_le {α:Type} {f:α->Nat} {n:Nat}:∀ {l:List α},(∀ a∈l,f a<=n)->(l.map f).sum<=l.length*n
 | [],_=>by simp
 | a::l,h=>by
  have ih:=sum_le (l:=l) fun x hx=>h x (List.mem_cons_of_mem _ hx)
  have:=h a List.mem_cons_self
  rw [List.map_cons,List.sum_cons,List.length_cons,Nat.add_mul]
  omega
theorem tup_shown {ds:List PyData} {n:Nat} (h:∀ d∈ds,d.shown.length<=n):(PyData.tuple ds).shown.length<=ds.length*n+2*ds.length+3:=by
 have a:=PySem.tupleText_len_le (PyData.shownAll ds)
 have b:((PyData.shownAll ds).map (·.length)).sum<=ds.length*n:=by
  rw [shown_all,List.map_map]
  exact sum_le fun d hd=>h d hd
 rw [PyData.shown]
 rw [shown_all] at a b ⊢
 rw [List.length_map] at a
 omega
structure Sh (d:PyData) (n k:Nat):Prop where
 s1:d.showable=true
 s2:d.hasDict=false
 s3:d.depth<=k
 s4:d.shown.length<=n
theorem sh_tup {ds:List PyData} {n k:Nat} (h:∀ d∈ds,Sh d n k):Sh (.tuple ds) (ds.length*n+2*ds.length+3) (k+1) where
 s1:=by
  rw [PyData.showable]
  induction ds with
  | nil=>rfl
  | cons d ds ih=>rw [PyData.showableAll,(h d List.mem_cons_self).s1,ih fun x hx=>h x (List.mem_cons_of_mem _ hx)];rfl
 s2:=by
  rw [PyData.hasDict]
  induction ds with
  | nil=>rfl
  | cons d ds ih=>rw [PyData.hasDictAll,(h d List.mem_cons_self).s2,ih fun x hx=>h x (List.mem_cons_of_mem _ hx)];rfl
 s3:=by
  rw [PyData.depth]
  have:PyData.depthAll ds<=k:=by
   induction ds with
   | nil=>rw [PyData.depthAll];omega
   | cons d ds ih =>
    rw [PyData.depthAll]
    have a:=(h d List.mem_cons_self).s3
    have b:=ih fun x hx=>h x (List.mem_cons_of_mem _ hx)
    omega
  omega
 s4:=tup_shown fun d hd=>(h d hd).s4
theorem Sh.mono {d:PyData} {n k n' k':Nat} (h:Sh d n k) (h1:n<=n') (h2:k<=k'):Sh d n' k':=⟨h.s1,h.s2,Nat.le_trans h.s3 h2,Nat.le_trans h.s4 h1⟩
theorem sh_str {x:Str} {n:Nat} (h:(PyData.str x).shown.length<=n):Sh (.str x) n 0:=⟨rfl,rfl,by rw [PyData.depth];all_goals simp,h⟩
theorem sh_bool (b:Bool):Sh (.bool b) 100 0:=⟨rfl,rfl,by rw [PyData.depth];all_goals simp,by cases b<;>decide +kernel⟩
theorem small_log {n:Int} (h0:0<=n) (h1:n<1000000000000000000):n.natAbs.log2<1920:=by
 have h2:n.natAbs<2 ^ 60:=by omega
 by_cases hz:n.natAbs=0
 ·rw [hz];decide
 ·have:=(Nat.log2_lt hz).mpr h2;omega
theorem sh_int {n:Int} (h0:0<=n) (h1:n<1000000000):Sh (.int n) 1921 0:=by
 have h:=small_log h0 (by omega)
 refine ⟨by rw [PyData.showable];exact decide_eq_true h,rfl,by rw [PyData.depth];all_goals simp,?_⟩
 rw [PyData.shown]
 exact PyProof.Rows.int_text_len_1921 h
theorem sh_none:Sh .none 100 0:=⟨rfl,rfl,by rw [PyData.depth];all_goals simp,by decide +kernel⟩
theorem sh_btn (x:Btn):Sh (.str x.x) 100 0:=sh_str (by cases x<;>decide +kernel)
theorem toPys_map {α:Type} (f:α->D) (l:List α):toPys (l.map f)=l.map fun a=>toPy (f a):=by
 induction l with
 | nil=>rfl
 | cons a l ih=>rw [List.map_cons,toPys,ih];rfl
theorem repr_ws {b:Bk} {s:WS} (ok:b.Ok) (w:s.Ok b) (hb:Big s 999999):∃ z,fRepr [s.d]=some (.str z):=by
 have hm:=w.mode
 have h8:=ok.some8
 have a1:=w.clock0;have a2:=w.clock1;have a3:=w.ah0;have a4:=w.ah1;have a5:=w.am0;have a6:=w.am1
 have a7:=w.lm0;have a8:=hb.2.1;have a9:=w.cm0;have c1:=w.cm1;have c2:=w.cs0;have c3:=w.cs1;have c4:=w.cl0;have c5:=w.cl1
 have c6:=w.ring0;have c7:=w.ring1;have c8:=w.idle0
 have c9:s.idle<=60:=by
  have hh:=ok.back60
  by_cases q:0<b.back
  ·have:=w.idle1 q;omega
  ·have:=w.idle2 (by have:=w.bk;omega);omega
 have hk:s.lk.length<=4:=w.lk
 have up:∀ {d:PyData} {n k:Nat},Sh d n k->n<=100000->k<=2->Sh d 100000 2:=fun h h1 h2=>h.mono h1 h2
 have t1:Sh (toPy s.alarmD) 100000 2:=by
  have e:toPy s.alarmD=.tuple [.int s.ah,.int s.am,.bool s.aon]:=by rw [WS.alarmD,toPy,toPys,toPys,toPys,toPys,toPy,toPy,toPy]
  rw [e]
  refine up (sh_tup (n:=1921) (k:=0) fun d hd=>?_) (by simp) (by decide)
  simp only [List.mem_cons,List.not_mem_nil,or_false] at hd
  rcases hd with rfl | rfl | rfl
  ·exact sh_int (by omega) (by omega)
  ·exact sh_int (by omega) (by omega)
  ·exact (sh_bool _).mono (by decide) (by decide)
 have t2:Sh (toPy s.lapsD) 100000 2:=by
  have e:toPy s.lapsD=.tuple [.int s.lm,.bool s.lr,.tuple (s.lk.map fun x=>.int x)]:=by
   rw [WS.lapsD,toPy,toPys,toPys,toPys,toPys,toPy,toPy,toPy,toPys_map]
   congr 4
  rw [e]
  refine up (sh_tup (n:=4*1921+2*4+3) (k:=1) fun d hd=>?_) (by simp) (by decide)
  simp only [List.mem_cons,List.not_mem_nil,or_false] at hd
  rcases hd with rfl | rfl | rfl
  ·exact (sh_int (by omega) (by omega)).mono (by decide) (by decide)
  ·exact (sh_bool _).mono (by decide) (by decide)
  ·refine (sh_tup (n:=1921) (k:=0) fun d hd=>?_).mono ?_ (by decide)
   ·obtain ⟨x,hx,rfl⟩:=List.mem_map.mp hd
    have:=hb.2.2 x hx
    exact sh_int (by omega) (by omega)
   ·rw [List.length_map];omega
 have t3:Sh (toPy s.countD) 100000 2:=by
  have e:toPy s.countD=.tuple [.int s.cm,.int s.cs,.int s.cl,.bool s.cr]:=by rw [WS.countD,toPy,toPys,toPys,toPys,toPys,toPys,toPy,toPy,toPy,toPy]
  rw [e]
  refine up (sh_tup (n:=1921) (k:=0) fun d hd=>?_) (by simp) (by decide)
  simp only [List.mem_cons,List.not_mem_nil,or_false] at hd
  rcases hd with rfl | rfl | rfl | rfl
  ·exact sh_int (by omega) (by omega)
  ·exact sh_int (by omega) (by omega)
  ·exact sh_int (by omega) (by omega)
  ·exact (sh_bool _).mono (by decide) (by decide)
 have t4:Sh (toPy (heldD s.held)) 100000 2:=by
  rcases hh:s.held with _ | ⟨x,k⟩
  ·rw [heldD,toPy];exact up sh_none (by decide) (by decide)
  ·have e:toPy (heldD (some (x,k)))=.tuple [.str x.x,toPy (optI k)]:=by rw [heldD,toPy,toPys,toPys,toPys,toPy]
   rw [e]
   refine up (sh_tup (n:=1921) (k:=0) fun d hd=>?_) (by simp) (by decide)
   simp only [List.mem_cons,List.not_mem_nil,or_false] at hd
   rcases hd with rfl | rfl
   ·exact (sh_btn x).mono (by decide) (by decide)
   ·cases k with
    | none=>rw [optI,toPy];exact sh_none.mono (by decide) (by decide)
    | some j =>
     have:=w.held x j hh
     have:=ok.hold9
     rw [optI,toPy];exact sh_int (by omega) (by omega)
 have e:toPy s.d=.tuple [.int (s.mode:Int),.int s.clock,toPy s.alarmD,toPy s.lapsD,toPy s.countD,.int s.ring,toPy (heldD s.held),.int s.idle]:=by
  rw [WS.d,toPy,toPys,toPys,toPys,toPys,toPys,toPys,toPys,toPys,toPys,toPy,toPy,toPy,toPy]
 have h:Sh (toPy s.d) 1000000 3:=by
  rw [e]
  refine (sh_tup (n:=100000) (k:=2) fun d hd=>?_).mono (by simp) (by decide)
  simp only [List.mem_cons,List.not_mem_nil,or_false] at hd
  rcases hd with rfl | rfl | rfl | rfl | rfl | rfl | rfl | rfl
  ·exact up (sh_int (by omega) (by omega)) (by decide) (by decide)
  ·exact up (sh_int (by omega) (by omega)) (by decide) (by decide)
  ·exact t1
  ·exact t2
  ·exact t3
  ·exact up (sh_int (by omega) (by omega)) (by decide) (by decide)
  ·exact t4
  ·exact up (sh_int (by omega) (by omega)) (by decide) (by decide)
 have z:1000000<=sizeLine:=by decide
 refine ⟨(toPy s.d).shown,?_⟩
 have q:(toPy s.d).showable=true/\(toPy s.d).hasDict=false/\(toPy s.d).depth<=100/\(toPy s.d).shown.length<=sizeLine:=⟨h.s1,h.s2,Nat.le_trans h.s3 (by decide),by have:=h.s4;omega⟩
 exact if_pos q
theorem neS (z:Str):cNe (.str z) (.str z)=some false:=by simp
theorem stE_len (b:Bk) (s:WS) (w:Int) (e:Ev) (he:e.Lt):(stE b s w e).length<=260:=by
 cases e with
 | ticks n =>
  have:=oK b s w n.toNat
  have h2:n<=130:=he.2
  show (stN b s w n.toNat).length<=260
  omega
 | down x=>exact Nat.zero_le _
 | up x =>
  unfold stE
  rcases s.held with _ | ⟨y,_ | k⟩
  ·exact Nat.zero_le _
  ·exact Nat.zero_le _
  ·dsimp only;split<;>simp
section
variable {a l:Nat} {b:Bk} {Sc F5:D} {s0:WS}
abbrev LR (Sc:D) (b:Bk) (s s0:WS) (x r:D) (o6 o7:Option D):R:=[some Sc,some b.d,some s.d,some s0.d,some x,some r,o6,o7,none,none]
theorem lr_nb {s:WS} {x r:D} {o6 o7:Option D} (h1:nob Sc=true) (h2:nob r=true) (h6:nobO o6=true) (h7:nobO o7=true):nobBut 4 (LR Sc b s s0 x r o6 o7)=true:=by
 show (nob Sc&&(nob b.d&&(nob s.d&&(nob s0.d&&(true&&(nob r&&(nobO o6&&(nobO o7&&(true&&(true&&true))))))))))=true
 rw [h1,nobB,nobWs,nobWs,h2,h6,h7];rfl
theorem nobE (e:Ev):nob e.d=true:=by cases e<;>rfl
theorem turn10 {s:WS} {w:Int} {st:List D} {r:D} {e:Ev} {M:Int} (ok:b.Ok) (wo:s.Ok b) (hb:Big s M) (hM:M+130<=999999) (he:e.Lt) (hSc:nob Sc=true) (hr:nob r=true) (hst:nobs st=true) (hl:st.length<60000) :
  jJ [a,l] (LR Sc b s s0 (nowD a l s w st) r (some e.d) none)=some (.nx (LR Sc b (gone b s e) s0 (nowD a l (gone b s e) (wE w e) (st++stE b s w e)) r (some e.d) none)):=by
 have h2:∀ n,e=.ticks n->n<10000:=fun n q=>by subst q;have:n<=130:=he.2;omega
 have eh:=pF (a:=a) (l:=l) (w:=w) ok wo hst e he.1 h2 (by omega)
 have t1:mq_law_6_1 [a,l] (LR Sc b s s0 (nowD a l s w st) r (some e.d) none)=some (.nx (LR Sc b (gone b s e) s0 (nowD a l s w st) r (some e.d) none)):=mP (asgS (callS rfl (kK ok wo.toWk e)) rfl)
 have t2:mq_law_6_2 [a,l] (LR Sc b (gone b s e) s0 (nowD a l s w st) r (some e.d) none)=some (.nx (LR Sc b (gone b s e) s0 (nowD a l (gone b s e) (wE w e) (st++stE b s w e)) r (some e.d) none)) :=
  mEx (calS2 (ob:=nowD a l s w st) rfl rfl eh rfl (lr_nb hSc hr (nobE e) rfl) (by rw [nowAd];simp [inS]))
 have wo2:=gone_ok ok wo e he.1
 have bg:=(big_gone wo.toWk hb e he).up hM
 obtain ⟨z,hz⟩:=repr_ws ok wo2 bg
 have t3:mq_law_6_3 [a,l] (LR Sc b (gone b s e) s0 (nowD a l (gone b s e) (wE w e) (st++stE b s w e)) r (some e.d) none)=some (.nx (LR Sc b (gone b s e) s0 (nowD a l (gone b s e) (wE w e) (st++stE b s w e)) r (some e.d) none)) :=
  mP ((ifF (orF (cmS rfl (callS rfl rB) (ws_ne _)) (orF (cmS (callS rfl hz) (callS (arS (callS rfl rB) rfl) hz) (neS z)) (show notT _ _=some (!true) from ntS (trS (callS rfl (nh wo2 fun x hx=>(bg.2.2 x hx).1))))))).trans rfl)
 exact (mN t1).trans ((mN t2).trans t3)
theorem loop10 (ok:b.Ok) (hSc:nob Sc=true) {r:D} (hr:nob r=true):∀ (es:List Ev) (s:WS) (w:Int) (st:List D) (M:Int) (o6:Option D),(∀ e∈es,e.Lt)->s.Ok b->Big s M->M+130*es.length<=999999->nobs st=true->st.length+260*es.length<60000 ->
  ∃ o6' w' st',forM (setAt 6) jJ [a,l] (es.map Ev.d) (LR Sc b s s0 (nowD a l s w st) r o6 none)=some (.nx (LR Sc b (afterE b s es) s0 (nowD a l (afterE b s es) w' st') r o6' none))
 | [],s,w,st,M,o6,_,_,_,_,_,_=>⟨o6,w,st,rfl⟩
 | e::es,s,w,st,M,o6,he,wo,hb,hM,hst,hl=>by
  rw [List.length_cons] at hM hl
  have he1:=he e (.head _)
  have t:=turn10 (a:=a) (l:=l) (s0:=s0) (w:=w) ok wo hb (by omega) he1 hSc hr hst (by omega)
  have sl:=stE_len b s w e he1
  obtain ⟨o6',w',st',h⟩:=loop10 ok hSc hr es (gone b s e) (wE w e) (st++stE b s w e) (M+130) (some e.d) (fun x hx=>he x (.tail _ hx)) (gone_ok ok wo e he1.1) (big_gone wo.toWk hb e he1) (by omega) (eV hst (stE_nob b s w e)) (by rw [List.length_append];omega)
  exact ⟨o6',w',st',(forM_go rfl t).trans h⟩
end
def LB (b:Bk) (d:Deed):Bk:=⟨b.hold,0,[⟨.time,true,(d,0)::List.replicate 5 (.none,0)⟩]⟩
def LS (s:WS):WS:={s with mode:=0,ring:=0,held:=none,idle:=0}
theorem LB_ok {b:Bk} (ok:b.Ok) (d:Deed):(LB b d).Ok where
 hold1:=ok.hold1
 hold9:=ok.hold9
 back0:=Int.le_refl 0
 back60:=by show (0:Int)<=60;decide
 some1:=Nat.le_refl 1
 some8:=by show 1<=8;decide
 all:=fun m hm=>by
  have:m=⟨.time,true,(d,0)::List.replicate 5 (.none,0)⟩:=List.mem_singleton.mp hm
  subst this
  refine ⟨rfl,fun r hr=>?_⟩
  show r.2<1
  rcases List.mem_cons.mp hr with rfl | hr
  ·exact Nat.zero_lt_one
  ·rw [(List.mem_replicate.mp hr).2];exact Nat.zero_lt_one
theorem LS_ok {b:Bk} {s:WS} (w:s.Ok b) (d:Deed):(LS s).Ok (LB b d) :=
 {bk:=Int.le_refl 0,mode:=Nat.zero_lt_one,clock0:=w.clock0,clock1:=w.clock1,ah0:=w.ah0,ah1:=w.ah1,am0:=w.am0,am1:=w.am1,lm0:=w.lm0,lk:=w.lk,cm0:=w.cm0,cm1:=w.cm1,cs0:=w.cs0,cs1:=w.cs1,cl0:=w.cl0,cl1:=w.cl1,cr:=w.cr,ring0:=Int.le_refl 0,ring1:=(by show (0:Int)<=10;decide),idle0:=Int.le_refl 0,idle1:=fun h=>h,idle2:=fun _=>rfl,held:=fun x k e=>by cases e}
theorem mForS {it:R->Option (List D)} {stp:D->R->Option R} {u:MU} {S:List Nat} {ρ:R} {ds:List D} (h1:it ρ=some ds) (h2:nobs ds=true):mFor it stp u S ρ=forM stp u S ds ρ:=by
 unfold mFor
 rw [h1,Option.bind_some,if_pos h2]
theorem mul5:dMulT (.tup [.tup [.str (Str.ofString "none"),.int 0]]) (.int 5)=some (.tup ((List.replicate 5 ((.none,0):Deed×Nat)).map rowD)):=by
 show (if 1*5<=sizeLine/\(0:Int)<5/\(5:Int)<2 ^ 63 then _ else none)=_
 rw [if_pos ⟨by decide,by decide,by decide⟩];rfl
def body10:R->Option Out:=seqD (asgD (tupD (argC (op2 dIx (vAt 1) (fun _=>some (.int 0))) (argC (fun _=>some (.int 0)) (argC (tupD (argC (tupD (argC (fun _=>some (.str (Str.ofString "time"))) (argC (fun _=>some (.bl true)) (argC (op2 dAdd (tupD (argC (tupD (argC (vAt 8) (argC (fun _=>some (.int 0)) argN))) argN)) (op2 dMulT (tupD (argC (tupD (argC (fun _=>some (.str (Str.ofString "none"))) (argC (fun _=>some (.int 0)) argN))) argN)) (fun _=>some (.int 5)))) argN)))) argN)) argN)))) (setAt 9))
  (seqD (asgD (op2 dAdd (op2 dAdd (tupD (argC (fun _=>some (.int 0)) argN)) (slD (vAt 3) (aP (fun _=>some (.int 1))) (aP (fun _=>some (.int 5))))) (tupD (argC (fun _=>some (.int 0)) (argC (fun _=>some .non) (argC (fun _=>some (.int 0)) argN))))) (setAt 2))
  (newN 4 bY (argC (vAt 2) argN)
  (mSeq (mFor (inSeq (tupD (argC (tupD (argC (fun _=>some (.str (Str.ofString "down"))) (argC (fun _=>some (.str (Str.ofString "a"))) argN))) (argC (tupD (argC (fun _=>some (.str (Str.ofString "up"))) (argC (fun _=>some (.str (Str.ofString "a"))) argN))) argN)))) (setAt 6)
  (mSeq (mPure (asgD (callD cP (argC (vAt 9) (argC (vAt 2) (argC (vAt 6) argN)))) (setAt 2)))
  (mExpr (mCal 4 (aO) (argC (vAt 9) (argC (vAt 4) (argC (vAt 6) argN)))))))
  (mPure (ifD (cmp2 cNe (callD fRepr (argC (vAt 2) argN)) (callD fRepr (argC (callD (bW) (argC (vAt 4) argN)) argN)))
  (retD (fun _=>some (.bl false)))
  nextD)))))
abbrev MR (Sc:D) (b:Bk) (x2:Option D) (s0:WS) (x4:Option D) (r:D) (o6:Option D) (d7:D) (o8 o9:Option D):R:=[some Sc,some b.d,x2,some s0.d,x4,some r,o6,some d7,o8,o9]
theorem mr_nb {Sc r d7 x:D} {b c:Bk} {s s0:WS} {d:Deed} {o6:Option D} (h1:nob Sc=true) (h2:nob r=true) (h7:nob d7=true) (h6:nobO o6=true):nobBut 4 (MR Sc b (some s.d) s0 (some x) r o6 d7 (some (.str d.x)) (some c.d))=true:=by
 show (nob Sc&&(nob b.d&&(nob s.d&&(nob s0.d&&(true&&(nob r&&(nobO o6&&(nob d7&&(true&&(nob c.d&&true))))))))))=true
 rw [h1,nobB,nobB,nobWs,nobWs,h2,h6,h7];rfl
theorem turnD {Sc r d7:D} {b:Bk} {s0:WS} {x2 o6 o9:Option D} (ok:b.Ok) (wo:s0.Ok b) (hb:Big s0 9999) (hSc:nob Sc=true) (hr:nob r=true) (h7:nob d7=true) (d:Deed) :
  ∃ y2 y6 y9,body10 (MR Sc b x2 s0 none r o6 d7 (some (.str d.x)) o9)=some (.nx (MR Sc b y2 s0 none r y6 d7 (some (.str d.x)) y9)):=by
 have lok:=LB_ok ok d
 have lwo:=LS_ok wo d
 have w1:=push_ok lok lwo .a
 have w2:=let_ok lok w1 .a
 have bg:Big (letGo (LB b d) (pushed (LS s0) .a) .a) 999999:=(big_gone w1.toWk (big_gone (b:=LB b d) lwo.toWk (show Big (LS s0) 9999 from hb) (.down .a) ⟨trivial,trivial⟩) (.up .a) ⟨trivial,trivial⟩).up (by decide)
 obtain ⟨z,hz⟩:=repr_ws lok w2 bg
 have s1:asgD (tupD (argC (op2 dIx (vAt 1) (fun _=>some (.int 0))) (argC (fun _=>some (.int 0)) (argC (tupD (argC (tupD (argC (fun _=>some (.str (Str.ofString "time"))) (argC (fun _=>some (.bl true)) (argC (op2 dAdd (tupD (argC (tupD (argC (vAt 8) (argC (fun _=>some (.int 0)) argN))) argN)) (op2 dMulT (tupD (argC (tupD (argC (fun _=>some (.str (Str.ofString "none"))) (argC (fun _=>some (.int 0)) argN))) argN)) (fun _=>some (.int 5)))) argN)))) argN)) argN)))) (setAt 9) (MR Sc b x2 s0 none r o6 d7 (some (.str d.x)) o9)=some (.nx (MR Sc b x2 s0 none r o6 d7 (some (.str d.x)) (some (LB b d).d))) :=
  asgS (d:=(LB b d).d) (tupS (arS (opS rfl rfl (b0 b)) (arS rfl (arS (tupS (arS (tupS (arS rfl (arS rfl (arS (opS (tupS (arS (tupS (arS rfl (arS rfl rfl))) rfl)) (opS rfl rfl mul5) (addU (show 1+5<=8 by decide))) rfl)))) rfl)) rfl)))) rfl
 have s2:asgD (op2 dAdd (op2 dAdd (tupD (argC (fun _=>some (.int 0)) argN)) (slD (vAt 3) (aP (fun _=>some (.int 1))) (aP (fun _=>some (.int 5))))) (tupD (argC (fun _=>some (.int 0)) (argC (fun _=>some .non) (argC (fun _=>some (.int 0)) argN))))) (setAt 2) (MR Sc b x2 s0 none r o6 d7 (some (.str d.x)) (some (LB b d).d))=some (.nx (MR Sc b (some (LS s0).d) s0 none r o6 d7 (some (.str d.x)) (some (LB b d).d))) :=
  asgS (d:=(LS s0).d) (opS (opS rfl (slS rfl rfl rfl rfl) (addU (show 1+4<=8 by decide))) rfl (addU (show 5+3<=8 by decide))) rfl
 refine ⟨some (letGo (LB b d) (pushed (LS s0) .a) .a).d,some (Ev.up .a).d,some (LB b d).d,(seqN s1).trans ((seqN s2).trans (newN_of (ds:=[(LS s0).d]) rfl (by show 4<10;decide) fun a l hal=>⟨nowD a l (LS s0) 0 [],?_⟩))⟩
 have t1:mPure (asgD (callD cP (argC (vAt 9) (argC (vAt 2) (argC (vAt 6) argN)))) (setAt 2)) [a,l] (MR Sc b (some (LS s0).d) s0 (some (nowD a l (LS s0) 0 [])) r (some (Ev.down .a).d) d7 (some (.str d.x)) (some (LB b d).d))=some (.nx (MR Sc b (some (pushed (LS s0) .a).d) s0 (some (nowD a l (LS s0) 0 [])) r (some (Ev.down .a).d) d7 (some (.str d.x)) (some (LB b d).d))):=mP (asgS (callS rfl (kK lok lwo.toWk (.down .a))) rfl)
 have t2:mExpr (mCal 4 (aO) (argC (vAt 9) (argC (vAt 4) (argC (vAt 6) argN)))) [a,l] (MR Sc b (some (pushed (LS s0) .a).d) s0 (some (nowD a l (LS s0) 0 [])) r (some (Ev.down .a).d) d7 (some (.str d.x)) (some (LB b d).d))=some (.nx (MR Sc b (some (pushed (LS s0) .a).d) s0 (some (nowD a l (pushed (LS s0) .a) 0 [])) r (some (Ev.down .a).d) d7 (some (.str d.x)) (some (LB b d).d))) :=
  mEx (calS2 (ob:=nowD a l (LS s0) 0 []) rfl rfl (oS (b:=LB b d) rfl .a) rfl (mr_nb hSc hr h7 rfl) (by rw [nowAd];simp [inS]))
 have t3:mPure (asgD (callD cP (argC (vAt 9) (argC (vAt 2) (argC (vAt 6) argN)))) (setAt 2)) [a,l] (MR Sc b (some (pushed (LS s0) .a).d) s0 (some (nowD a l (pushed (LS s0) .a) 0 [])) r (some (Ev.up .a).d) d7 (some (.str d.x)) (some (LB b d).d))=some (.nx (MR Sc b (some (letGo (LB b d) (pushed (LS s0) .a) .a).d) s0 (some (nowD a l (pushed (LS s0) .a) 0 [])) r (some (Ev.up .a).d) d7 (some (.str d.x)) (some (LB b d).d))):=mP (asgS (callS rfl (kK lok w1.toWk (.up .a))) rfl)
 have t4:mExpr (mCal 4 (aO) (argC (vAt 9) (argC (vAt 4) (argC (vAt 6) argN)))) [a,l] (MR Sc b (some (letGo (LB b d) (pushed (LS s0) .a) .a).d) s0 (some (nowD a l (pushed (LS s0) .a) 0 [])) r (some (Ev.up .a).d) d7 (some (.str d.x)) (some (LB b d).d))=some (.nx (MR Sc b (some (letGo (LB b d) (pushed (LS s0) .a) .a).d) s0 (some (nowD a l (letGo (LB b d) (pushed (LS s0) .a) .a) 0 ([]++stE (LB b d) (pushed (LS s0) .a) 0 (.up .a)))) r (some (Ev.up .a).d) d7 (some (.str d.x)) (some (LB b d).d))) :=
  mEx (calS2 (ob:=nowD a l (pushed (LS s0) .a) 0 []) rfl rfl (qU (b:=LB b d) lok w1.toWk rfl (by decide) .a) rfl (mr_nb hSc hr h7 rfl) (by rw [nowAd];simp [inS]))
 have t5:mFor (inSeq (tupD (argC (tupD (argC (fun _=>some (.str (Str.ofString "down"))) (argC (fun _=>some (.str (Str.ofString "a"))) argN))) (argC (tupD (argC (fun _=>some (.str (Str.ofString "up"))) (argC (fun _=>some (.str (Str.ofString "a"))) argN))) argN)))) (setAt 6)
   (mSeq (mPure (asgD (callD cP (argC (vAt 9) (argC (vAt 2) (argC (vAt 6) argN)))) (setAt 2))) (mExpr (mCal 4 (aO) (argC (vAt 9) (argC (vAt 4) (argC (vAt 6) argN)))))) [a,l] (MR Sc b (some (LS s0).d) s0 (some (nowD a l (LS s0) 0 [])) r o6 d7 (some (.str d.x)) (some (LB b d).d))=some (.nx (MR Sc b (some (letGo (LB b d) (pushed (LS s0) .a) .a).d) s0 (some (nowD a l (letGo (LB b d) (pushed (LS s0) .a) .a) 0 ([]++stE (LB b d) (pushed (LS s0) .a) 0 (.up .a)))) r (some (Ev.up .a).d) d7 (some (.str d.x)) (some (LB b d).d))):=by
  rw [mForS (ds:=[(Ev.down .a).d,(Ev.up .a).d]) rfl rfl]
  exact (forM_go rfl ((mN t1).trans t2)).trans ((forM_go rfl ((mN t3).trans t4)).trans rfl)
 refine ⟨_,qN,(mN t5).trans (mP ((ifF (cmS (callS rfl hz) (callS (arS (callS rfl rB) rfl) hz) (neS z))).trans rfl)),rfl⟩
def DS:List Deed:=[.none,.hour,.minute,.zero,.ahour,.aminute,.alarm,.run,.lap,.cminute,.csecond,.full,.count]
theorem loopD10 {Sc r d7:D} {b:Bk} {s0:WS} (ok:b.Ok) (wo:s0.Ok b) (hb:Big s0 9999) (hSc:nob Sc=true) (hr:nob r=true) (h7:nob d7=true):∀ (ds:List Deed) (x2 o6 o8 o9:Option D),
  ∃ y2 y6 y8 y9,forD (setAt 8) body10 (ds.map fun d=>.str d.x) (MR Sc b x2 s0 none r o6 d7 o8 o9)=some (.nx (MR Sc b y2 s0 none r y6 d7 y8 y9))
 | [],x2,o6,o8,o9=>⟨x2,o6,o8,o9,rfl⟩
 | d::ds,x2,o6,o8,o9=>by
  obtain ⟨y2,y6,y9,t⟩:=turnD (x2:=x2) (o6:=o6) (o9:=o9) ok wo hb hSc hr h7 d
  obtain ⟨z2,z6,z8,z9,h⟩:=loopD10 ok wo hb hSc hr h7 ds y2 y6 (some (.str d.x)) y9
  exact ⟨z2,z6,z8,z9,(forD_go rfl t).trans h⟩
theorem law_true (ns:List Int) (_:ns.length<=63):jD [.fro (ns.map .int)]=some (.bl true):=by
 obtain ⟨n0,e0,hn0⟩:=mixed_some ns 0 (by decide)
 obtain ⟨n1,e1,hn1⟩:=mixed_some ns 1 (by decide)
 obtain ⟨n2,e2,hn2⟩:=mixed_some ns 2 (by decide)
 obtain ⟨bd,eb,hb,_⟩:=qB n0
 obtain ⟨b,rfl,ok⟩:=sH hb
 obtain ⟨s,es,wo,hlm,hlk⟩:=qH ok n1
 have bg:Big s 9999:=⟨by decide,by omega,hlk⟩
 obtain ⟨evs,er,hev,hlen⟩:=rj n2 9 (by decide) (by decide)
 have hSc:nob (.fro (ns.map .int))=true:=nobsI ns
 generalize hS:D.fro (ns.map .int)=Sc at *
 have hr:nob (.tup (evs.map Ev.d))=true:=nobsM nobE evs
 have s1:oB (beg 10 [Sc])=some (.nx (beg 10 [Sc,b.d])):=asgS (callS (arS (callS rfl e0) rfl) eb) rfl
 have s2:oC (beg 10 [Sc,b.d])=some (.nx (beg 10 [Sc,b.d,s.d])):=asgS (callS (arS rfl (arS (callS rfl e1) rfl)) es) rfl
 have s3:pk (beg 10 [Sc,b.d,s.d])=some (.nx (beg 10 [Sc,b.d,s.d,s.d])):=asgS rfl rfl
 refine viaS ((seqN s1).trans ((seqN s2).trans ((seqN s3).trans (newN_of (ds:=[s.d]) rfl (by show 4<10;decide) fun a l hal=>⟨nowD a l s 0 [],?_⟩))))
 have s5:pj [a,l] [some Sc,some b.d,some s.d,some s.d,some (nowD a l s 0 []),none,none,none,none,none]=some (.nx (LR Sc b s s (nowD a l s 0 []) (.tup (evs.map Ev.d)) none none)) :=
  mP (asgS (callS (arS (callS rfl e2) (arS rfl rfl)) er) rfl)
 have hl9:evs.length<=9:=hlen
 obtain ⟨o6,w',st',h6⟩:=loop10 (a:=a) (l:=l) (s0:=s) ok hSc hr evs s 0 [] 9999 none hev wo bg (by omega) rfl (by show 0+260*evs.length<60000;omega)
 have s6:o_ [a,l] (LR Sc b s s (nowD a l s 0 []) (.tup (evs.map Ev.d)) none none)=some (.nx (LR Sc b (afterE b s evs) s (nowD a l (afterE b s evs) w' st') (.tup (evs.map Ev.d)) o6 none)):=by
  exact (mForS rfl (nobsM nobE evs)).trans h6
 have ea:=sh ok wo evs fun e he=>(hev e he).1
 have s7:oW [a,l] (LR Sc b (afterE b s evs) s (nowD a l (afterE b s evs) w' st') (.tup (evs.map Ev.d)) o6 none)=some (.nx (LR Sc b (afterE b s evs) s (nowD a l (afterE b s evs) w' st') (.tup (evs.map Ev.d)) o6 none)) :=
  mP ((ifF (cmS (callS rfl ea) rfl (ws_ne _))).trans rfl)
 have s8:oT [a,l] (LR Sc b (afterE b s evs) s (nowD a l (afterE b s evs) w' st') (.tup (evs.map Ev.d)) o6 none)=some (.nx (LR Sc b (afterE b s evs) s (nowD a l (afterE b s evs) w' st') (.tup (evs.map Ev.d)) o6 (some (.tup deeds12)))):=mP (asgS rfl rfl)
 obtain ⟨y2,y6,y8,y9,h9⟩:=loopD10 (d7:=.tup deeds12) ok wo bg hSc hr rfl DS (some (afterE b s evs).d) o6 none none
 have it:inSeq (op2 dAdd (vAt 7) (tupD (argC (fun _=>some (.str (Str.ofString "count"))) argN))) (MR Sc b (some (afterE b s evs).d) s none (.tup (evs.map Ev.d)) o6 (.tup deeds12) none none)=some (DS.map fun d=>.str d.x):=by
  show (op2 dAdd _ _ _).bind _=_
  have h:dAdd (.tup deeds12) (.tup [.str (Str.ofString "count")])=some (.tup (DS.map fun d=>.str d.x)):=by
   show (if deeds12.length+1<=sizeLine then _ else none)=_
   rw [if_pos (by decide)];rfl
  rw [opS rfl rfl h];rfl
 refine ⟨.rt (.bl true) (MR Sc b (some (afterE b s evs).d) s none (.tup (evs.map Ev.d)) o6 (.tup deeds12) none none),qN,(mN s5).trans ((mN s6).trans ((mN s7).trans ((mN s8).trans ?_))),rfl⟩
 refine (mN (show mDrop 4 [a,l] _=some (.nx (MR Sc b (some (afterE b s evs).d) s none (.tup (evs.map Ev.d)) o6 (.tup deeds12) none none)) from rfl)).trans (mPr ?_)
 exact (seqN (loop_of it h9)).trans (retS rfl)
end HW
set_option maxRecDepth 100000
namespace HW
open PySem PySem.Spec PyProof.Rows L2
def top (i:Nat):Stmt:=PySem.Challenge.pw_handwatch_k10_what_happens.main.body.getD i (.Pass ⟨0,0,0,0⟩)
abbrev ek:Stmt:=top 79
theorem sc__law_drawn:FnScope ["_law_number","_law_k","_law_drawn_here"] ["_law_number","_law_k"] (defScope ek):=⟨rfl,rfl,rfl,by decide +kernel,rfl,by decide +kernel,by decide +kernel⟩
theorem j2 {P:Program} {w:World} {K:PySem.W.Frag} {mg:Str->Option Value} {base:Heap} {k:Nat} {f:Addr} {fd:FuncData} (Fn:Fun K "_law_drawn" "_law_drawn" ek f fd):FnOk P w K mg base CX0 (k+1) f fd ["_law_number","_law_k"] (spD K aJ):=by
 refine aD Fn sc__law_drawn kR ?_ k_
 intro cdv A outer s H E hr
 refine ar ?_ ?_
 ·refine aF ?_ ?_
  ·refine ai aB ?_ ae
   refine ai cj ?_ ae
   refine ai aG ?_ ae
   refine ai aG (ac 0) ?_
   exact ai cj ae (ac 1)
  exact ak 2 sc__law_drawn.nd
 refine au ?_
 refine az ?_
 refine ai aB ?_ ae
 refine ai aG ?_ (ac 1)
 refine ai aG ?_ ?_
 ·exact ai cj (ac 2) (ac 2)
 exact ai cj ae (ac 2)
abbrev eR:Stmt:=top 80
theorem sc__law_book:FnScope ["_law_number","_law_many","_law_deeds","_law_modes","_law_k","_law_drawn_here","_law_rows","_law_j","_law_one","_law_face"] ["_law_number"] (defScope eR):=⟨rfl,rfl,rfl,by decide +kernel,rfl,by decide +kernel,by decide +kernel⟩
theorem kL {P:Program} {w:World} {K:PySem.W.Frag} {mg:Str->Option Value} {base:Heap} {k:Nat} (C__law_drawn:Cal P w K mg base k "_law_drawn" ["_law_number","_law_k"] aJ) (m_range:mg "range" = none) {f:Addr} {fd:FuncData} (Fn:Fun K "_law_book" "_law_book" eR f fd):FnOk P w K mg base CX0 (k+1) f fd ["_law_number"] (spD K ca):=by
 refine aD Fn sc__law_book lJ ?_ lE
 intro cdv A outer s H E hr
 refine ar ?_ ?_
 ·refine aF ?_ ?_
  ·refine ai aG ae ?_
   exact ai aB (ac 0) ae
  exact ak 1 sc__law_book.nd
 refine ar ?_ ?_
 ·refine aF ?_ ?_
  ·refine av ?_
   refine ab aj ?_
   refine ab aj ?_
   refine ab aj ?_
   refine ab aj ?_
   refine ab aj ?_
   refine ab aj ?_
   refine ab aj ?_
   refine ab aj ?_
   exact ab aj (ab aj (ab aj (ab aj af)))
  exact ak 2 sc__law_book.nd
 refine ar ?_ ?_
 ·refine aF ?_ ?_
  ·exact av af
  exact ak 3 sc__law_book.nd
 refine ar ?_ ?_
 ·refine oD PassesOwn.never rfl ?_ ?_ ?_
  ·exact gz m_range (ac 1)
  ·exact ak 4 sc__law_book.nd
  refine ar ?_ ?_
  ·refine aF ?_ ?_
   ·refine ai ba ?_ ae
    exact al C__law_drawn hr (ab (ac 0) (ab (ac 4) af))
   exact ak 5 sc__law_book.nd
  refine ar ?_ ?_
  ·refine aF ?_ ?_
   ·exact av af
   exact ak 6 sc__law_book.nd
  refine ar ?_ ?_
  ·refine oD PassesOwn.never rfl ?_ ?_ ?_
   ·exact gz m_range ae
   ·exact ak 7 sc__law_book.nd
   refine ar ?_ ?_
   ·refine aF ?_ ?_
    ·refine ai ba ?_ ae
     refine al C__law_drawn hr ?_
     refine ab (ac 5) ?_
     refine ab ?_ af
     exact ai aG ae (ac 7)
    exact ak 8 sc__law_book.nd
   refine au ?_
   refine aF ?_ ?_
   ·refine ai aG (ac 6) ?_
    refine av ?_
    refine ab ?_ af
    refine av ?_
    refine ab ?_ ?_
    ·refine ag ?_ ?_
     ·refine ai aG (ac 2) ?_
      exact av (ab aj af)
     exact ai aB (ac 8) ae
    refine ab ?_ af
    refine ai aB ?_ (ac 1)
    exact ai ba (ac 8) ae
   exact ak 6 sc__law_book.nd
  refine ar ?_ ?_
  ·refine aF ?_ ?_
   ·refine ag ?_ ?_
    ·refine av ?_
     exact ab aj (ab aj (ab aj (ab aj af)))
    exact ai aB (ac 5) ae
   exact ak 9 sc__law_book.nd
  refine au ?_
  refine aF ?_ ?_
  ·refine ai aG (ac 3) ?_
   refine av ?_
   refine ab ?_ af
   refine av ?_
   refine ab (ac 9) ?_
   refine ab ?_ (ab (ac 6) af)
   refine bo (bM hr) ?_ ae
   refine ai aB ?_ ae
   exact ai ba (ac 5) ae
  exact ak 3 sc__law_book.nd
 refine au ?_
 refine az ?_
 refine av ?_
 refine ab ?_ ?_
 ·refine ai aG ae ?_
  refine ai aB ?_ ?_
  ·exact ai ba (ac 0) ae
  refine ag ?_ ?_
  ·exact av (ab ae (ab ae af))
  refine ai aB ?_ ae
  exact ai ba (ac 0) ae
 refine ab ?_ (ab (ac 3) af)
 refine ag ?_ ?_
 ·refine av ?_
  refine ab ae ?_
  exact ab ae (ab ae (ab ae (ab ae af)))
 refine ai aB ?_ ae
 exact ai ba (ac 0) ae
abbrev dw:Stmt:=top 77
theorem iO:FnScope ["_law_script","_law_k"] ["_law_script","_law_k"] (defScope dw):=⟨rfl,rfl,rfl,by decide +kernel,rfl,by decide +kernel,by decide +kernel⟩
theorem iM {P:Program} {w:World} {K:PySem.W.Frag} {mg:Str->Option Value} {base:Heap} {k:Nat} (m_len:mg "len" = none) {f:Addr} {fd:FuncData} (Fn:Fun K "_law_cell_at" "_law_cell_at" dw f fd):FnOk P w K mg base CX0 (k+1) f fd ["_law_script","_law_k"] (spD K bF):=by
 refine aD Fn iO jE ?_ iZ
 intro cdv A outer s H E hr
 refine ar ?_ ?_
 ·refine ci ?_ ?_ aS
  ·refine aH pe (ac 1) ?_
   exact bh ib m_len (ab (ac 0) af)
  refine au ?_
  exact az (ag (ac 0) (ac 1))
 refine au ?_
 exact az ae
abbrev el:Stmt:=top 78
theorem sc__law_mixed:FnScope ["_law_script","_law_k","_law_drawn_here"] ["_law_script","_law_k"] (defScope el):=⟨rfl,rfl,rfl,by decide +kernel,rfl,by decide +kernel,by decide +kernel⟩
theorem j4 {P:Program} {w:World} {K:PySem.W.Frag} {mg:Str->Option Value} {base:Heap} {k:Nat} (C__law_cell_at:Cal P w K mg base k "_law_cell_at" ["_law_script","_law_k"] bF) {f:Addr} {fd:FuncData} (Fn:Fun K "_law_mixed" "_law_mixed" el f fd):FnOk P w K mg base CX0 (k+1) f fd ["_law_script","_law_k"] (spD K bA):=by
 refine aD Fn sc__law_mixed kZ ?_ li
 intro cdv A outer s H E hr
 refine ar ?_ ?_
 ·refine aF ?_ ?_
  ·refine ai aB ?_ ae
   refine ai cj ?_ ae
   refine ai aG ?_ ae
   refine ai aG ?_ ?_
   ·exact al C__law_cell_at hr (ab (ac 0) (ab (ac 1) af))
   exact ai cj ae (ac 1)
  exact ak 2 sc__law_mixed.nd
 refine au ?_
 refine az ?_
 refine ai aB ?_ ae
 refine ai aG ?_ (ac 1)
 refine ai aG ?_ ?_
 ·exact ai cj (ac 2) (ac 2)
 exact ai cj ae (ac 2)
abbrev eg:Stmt:=top 82
theorem sc__law_event:FnScope ["_law_number","_law_button","_law_kind"] ["_law_number"] (defScope eg):=⟨rfl,rfl,rfl,by decide +kernel,rfl,by decide +kernel,by decide +kernel⟩
theorem jT {P:Program} {w:World} {K:PySem.W.Frag} {mg:Str->Option Value} {base:Heap} {k:Nat} {f:Addr} {fd:FuncData} (Fn:Fun K "_law_event" "_law_event" eg f fd):FnOk P w K mg base CX0 (k+1) f fd ["_law_number"] (spD K bC):=by
 refine aD Fn sc__law_event lu ?_ ky
 intro cdv A outer s H E hr
 refine ar ?_ ?_
 ·refine aF ?_ ?_
  ·refine ag aj ?_
   refine ai aB ?_ ae
   exact ai ba (ac 0) ae
  exact ak 1 sc__law_event.nd
 refine ar ?_ ?_
 ·refine aF ?_ ?_
  ·exact ai aB (ac 0) ae
  exact ak 2 sc__law_event.nd
 refine ar ?_ ?_
 ·refine ci ?_ ?_ aS
  ·exact aH pe (ac 2) ae
  refine au ?_
  refine az ?_
  exact av (ab aj (ab (ac 1) af))
 refine ar ?_ ?_
 ·refine ci ?_ ?_ aS
  ·exact aH pe (ac 2) ae
  refine au ?_
  refine az ?_
  exact av (ab aj (ab (ac 1) af))
 refine au ?_
 refine az ?_
 refine av ?_
 refine ab aj ?_
 refine ab ?_ af
 refine ai aG ae ?_
 refine ai aB ?_ ?_
 ·exact ai ba (ac 0) ae
 refine ag ?_ ?_
 ·exact av (ab ae (ab ae (ab ae af)))
 refine ai aB ?_ ae
 exact ai ba (ac 0) ae
abbrev fM:Stmt:=top 83
theorem mm:FnScope ["_law_number","_law_most"] ["_law_number","_law_most"] (defScope fM):=⟨rfl,rfl,rfl,by decide +kernel,rfl,by decide +kernel,by decide +kernel⟩
theorem mE {P:Program} {w:World} {K:PySem.W.Frag} {mg:Str->Option Value} {base:Heap} {k:Nat} (C__law_drawn:Cal P w K mg base k "_law_drawn" ["_law_number","_law_k"] aJ) (C__law_event:Cal P w K mg base k "_law_event" ["_law_number"] bC) (m_range:mg "range" = none) (m_tuple:mg "tuple" = none) {f:Addr} {fd:FuncData} (Fn:Fun K "_law_row" "_law_row" fM f fd):FnOk P w K mg base CX0 (k+1) f fd ["_law_number","_law_most"] (spD K cx):=by
 refine aD Fn mm nP ?_ nk
 intro cdv A outer s H E hr
 refine au ?_
 refine az ?_
 refine cO jn m_tuple ?_
 refine ab ?_ af
 refine lN (T:=["_law_k"]) rfl ?_ ?_ ?_ ?_ (front_set (by decide)) (show List.Nodup ((["_law_k"]:List Str)++(["_law_number" ,"_law_most"]:List Str)) from by decide +kernel)
 ·refine gz m_range ?_
  refine ai aB (ac 0) ?_
  exact ai aG (ac 1) ae
 ·intro C s₃ H₃ fp
  exact ak 0 (show List.Nodup (["_law_k" ,"_law_number" ,"_law_most"]:List Str) from by decide +kernel)
 ·intro C s₃ H₃ fp
  exact jd
 intro C s₃ H₃ fp
 refine al C__law_event hr ?_
 refine ab ?_ af
 refine ai ba ?_ ae
 refine al C__law_drawn hr ?_
 refine ab (ac 1) ?_
 refine ab ?_ af
 exact ai aG ae (ac 0)
abbrev eA:Stmt:=top 81
theorem sc__law_state:FnScope ["_law_book_here","_law_number","_law_drawn_here","_law_clock","_law_near","_law_alarm","_law_kept","_law_laps","_law_left","_law_count","_law_held","_law_ring","_law_idle"] ["_law_book_here","_law_number"] (defScope eA):=⟨rfl,rfl,rfl,by decide +kernel,rfl,by decide +kernel,by decide +kernel⟩
theorem jP {P:Program} {w:World} {K:PySem.W.Frag} {mg:Str->Option Value} {base:Heap} {k:Nat} (C__law_drawn:Cal P w K mg base k "_law_drawn" ["_law_number","_law_k"] aJ) (m_len:mg "len" = none) (m_max:mg "max" = none) (m_range:mg "range" = none) (m_tuple:mg "tuple" = none) {f:Addr} {fd:FuncData} (Fn:Fun K "_law_state" "_law_state" eA f fd):FnOk P w K mg base CX0 (k+1) f fd ["_law_book_here","_law_number"] (spD K bT):=by
 refine aD Fn sc__law_state kI ?_ ld
 intro cdv A outer s H E hr
 refine ar ?_ ?_
 ·refine aF ?_ ?_
  ·refine lN (T:=["_law_k"]) rfl ?_ ?_ ?_ ?_ (front_set (by decide)) (show List.Nodup ((["_law_k"]:List Str)++(["_law_book_here" ,"_law_number" ,"_law_drawn_here" ,"_law_clock" ,"_law_near" ,"_law_alarm" ,"_law_kept" ,"_law_laps" ,"_law_left" ,"_law_count" ,"_law_held" ,"_law_ring" ,"_law_idle"]:List Str)) from by decide +kernel)
   ·exact gz m_range ae
   ·intro C s₃ H₃ fp
    exact ak 0 (show List.Nodup (["_law_k" ,"_law_book_here" ,"_law_number" ,"_law_drawn_here" ,"_law_clock" ,"_law_near" ,"_law_alarm" ,"_law_kept" ,"_law_laps" ,"_law_left" ,"_law_count" ,"_law_held" ,"_law_ring" ,"_law_idle"]:List Str) from by decide +kernel)
   ·intro C s₃ H₃ fp
    exact jd
   intro C s₃ H₃ fp
   refine ai ba ?_ ae
   exact al C__law_drawn hr (ab (ac 2) (ab (ac 0) af))
  exact ak 2 sc__law_state.nd
 refine ar ?_ ?_
 ·refine aF ?_ ?_
  ·refine ag ?_ ?_
   ·refine av ?_
    refine ab ?_ ?_
    ·exact ai aB (ag (ac 2) ae) ae
    refine ab ?_ ?_
    ·refine ai bJ ae ?_
     exact ai aB (ag (ac 2) ae) ae
    refine ab ?_ af
    exact ai aB (ag (ac 2) ae) ae
   exact ai aB (ag (ac 2) ae) ae
  exact ak 3 sc__law_state.nd
 refine ar ?_ ?_
 ·refine aF ?_ ?_
  ·refine ai aB ?_ ae
   refine ai aG ?_ ?_
   ·exact ai ba (ac 3) ae
   exact ai aB (ag (ac 2) ae) ae
  exact ak 4 sc__law_state.nd
 refine ar ?_ ?_
 ·refine aF ?_ ?_
  ·refine av ?_
   refine ab ?_ ?_
   ·exact ai ba (ac 4) ae
   refine ab ?_ ?_
   ·exact ai aB (ac 4) ae
   refine ab ?_ af
   refine bo (bM hr) ?_ ae
   exact ai aB (ag (ac 2) ae) ae
  exact ak 5 sc__law_state.nd
 refine ar ?_ ?_
 ·refine ci ?_ ?_ aS
  ·refine aH (bM hr) ?_ ae
   refine ai aB ?_ ae
   exact ai ba (ag (ac 2) ae) ae
  refine au ?_
  refine aF ?_ ?_
  ·refine av ?_
   refine ab ?_ ?_
   ·exact ai aB (ag (ac 2) ae) ae
   refine ab ?_ ?_
   ·refine ai aB ?_ ae
    exact ai ba (ag (ac 2) ae) ae
   refine ab ?_ af
   refine bo (bM hr) ?_ ae
   exact ai aB (ag (ac 2) ae) ae
  exact ak 5 sc__law_state.nd
 refine ar ?_ ?_
 ·refine aF ?_ ?_
  ·refine cO jn m_tuple ?_
   refine ab ?_ af
   refine lN (T:=["_law_k"]) rfl ?_ ?_ ?_ ?_ (front_set (by decide)) (show List.Nodup ((["_law_k"]:List Str)++(["_law_book_here" ,"_law_number" ,"_law_drawn_here" ,"_law_clock" ,"_law_near" ,"_law_alarm" ,"_law_kept" ,"_law_laps" ,"_law_left" ,"_law_count" ,"_law_held" ,"_law_ring" ,"_law_idle"]:List Str)) from by decide +kernel)
   ·refine gz m_range ?_
    exact ai aB (ag (ac 2) ae) ae
   ·intro C s₃ H₃ fp
    exact ak 0 (show List.Nodup (["_law_k" ,"_law_book_here" ,"_law_number" ,"_law_drawn_here" ,"_law_clock" ,"_law_near" ,"_law_alarm" ,"_law_kept" ,"_law_laps" ,"_law_left" ,"_law_count" ,"_law_held" ,"_law_ring" ,"_law_idle"]:List Str) from by decide +kernel)
   ·intro C s₃ H₃ fp
    exact jd
   intro C s₃ H₃ fp
   refine ai aB ?_ ae
   refine ai ba ?_ ae
   exact al C__law_drawn hr (ab (ag (ac 3) ae) (ab (ac 0) af))
  exact ak 6 sc__law_state.nd
 refine ar ?_ ?_
 ·refine aF ?_ ?_
  ·refine av ?_
   refine ab ?_ ?_
   ·refine ai aB ?_ ?_
    ·exact ai ba (ag (ac 2) ae) ae
    refine ag ?_ ?_
    ·exact av (ab ae (ab ae af))
    refine ai aB ?_ ae
    exact ai ba (ag (ac 2) ae) ae
   refine ab ?_ (ab (ac 6) af)
   refine bo (bM hr) ?_ ae
   refine ai aB ?_ ae
   exact ai ba (ag (ac 2) ae) ae
  exact ak 7 sc__law_state.nd
 refine ar ?_ ?_
 ·refine aF ?_ ?_
  ·refine ai aB (ag (ac 2) ae) ?_
   refine ag ?_ ?_
   ·exact av (ab ae (ab ae (ab ae af)))
   refine ai aB ?_ ae
   exact ai ba (ag (ac 2) ae) ae
  exact ak 8 sc__law_state.nd
 refine ar ?_ ?_
 ·refine aF ?_ ?_
  ·refine av ?_
   refine ab ?_ ?_
   ·refine ai aB ?_ ae
    exact ai ba (ag (ac 2) ae) ae
   refine ab ?_ ?_
   ·exact ai aB (ag (ac 2) ae) ae
   refine ab (ac 8) ?_
   refine ab ?_ af
   refine bf ?_ ?_
   ·exact bo dX (ac 8) ae
   refine bU ?_
   refine bo dX ?_ ae
   refine ai aB ?_ ae
   exact ai ba (ag (ac 2) ae) ae
  exact ak 9 sc__law_state.nd
 refine ar ?_ ?_
 ·refine aF aT ?_
  exact ak 10 sc__law_state.nd
 refine ar ?_ ?_
 ·refine ci ?_ ?_ aS
  ·refine aH (bM hr) ?_ ae
   exact ai aB (ag (ac 2) ae) ae
  refine ar ?_ ?_
  ·refine aF ?_ ?_
   ·refine av ?_
    refine ab ?_ ?_
    ·refine ag aj ?_
     refine ai aB ?_ ae
     exact ai ba (ag (ac 2) ae) ae
    refine ab ?_ af
    refine ai aB ?_ (ag (ac 0) ae)
    exact ai ba (ag (ac 2) ae) ae
   exact ak 10 sc__law_state.nd
  refine au ?_
  refine ci ?_ ?_ aS
  ·refine aH (bM hr) ?_ ae
   refine ai aB ?_ ae
   exact ai ba (ag (ac 2) ae) ae
  refine au ?_
  refine aF ?_ ?_
  ·exact av (ab (ag (ac 10) ae) (ab aT af))
  exact ak 10 sc__law_state.nd
 refine ar ?_ ?_
 ·refine aF ?_ ?_
  ·refine ai cj ?_ ?_
   ·exact ai aB (ag (ac 2) ae) ae
   refine ai aB ?_ ae
   exact ai ba (ag (ac 2) ae) ae
  exact ak 11 sc__law_state.nd
 refine ar ?_ ?_
 ·refine aF ?_ ?_
  ·refine ai aB ?_ ?_
   ·exact ai ba (ag (ac 2) ae) ae
   exact bh (fV rfl) m_max (ab ae (ab (ag (ac 0) ae) af))
  exact ak 12 sc__law_state.nd
 refine au ?_
 refine az ?_
 refine av ?_
 refine ab ?_ ?_
 ·refine ai aB ?_ ?_
  ·exact ai ba (ag (ac 2) ae) ae
  exact bh ib m_len (ab (ag (ac 0) ae) af)
 refine ab (ac 3) ?_
 refine ab (ac 5) ?_
 refine ab (ac 7) ?_
 refine ab (ac 9) ?_
 exact ab (ac 11) (ab (ac 10) (ab (ac 12) af))
abbrev en:Stmt:=top 72
theorem j8:FnScope ["state","button"] ["state","button"] (defScope en):=⟨rfl,rfl,rfl,by decide +kernel,rfl,by decide +kernel,by decide +kernel⟩
theorem jX {P:Program} {w:World} {K:PySem.W.Frag} {mg:Str->Option Value} {base:Heap} {k:Nat} (c_HELD:Con K mg "HELD" bu) {f:Addr} {fd:FuncData} (Fn:Fun K "is_holding" "is_holding" en f fd):FnOk P w K mg base CX0 (k+1) f fd ["state","button"] (spD K bx):=by
 refine aD Fn j8 kO ?_ kM
 intro cdv A outer s H E hr
 refine au ?_
 refine az ?_
 refine bf ?_ ?_
 ·exact bo cq (ag (ac 0) (ax c_HELD)) aT
 refine bU ?_
 exact bo (bM hr) (ag (ag (ac 0) (ax c_HELD)) ae) (ac 1)
abbrev fU:Stmt:=top 73
theorem lF:FnScope ["state","button"] ["state","button"] (defScope fU):=⟨rfl,rfl,rfl,by decide +kernel,rfl,by decide +kernel,by decide +kernel⟩
theorem mQ {P:Program} {w:World} {K:PySem.W.Frag} {mg:Str->Option Value} {base:Heap} {k:Nat} (C_is_holding:Cal P w K mg base k "is_holding" ["state","button"] bx) (c_HELD:Con K mg "HELD" bu) {f:Addr} {fd:FuncData} (Fn:Fun K "is_short" "is_short" fU f fd):FnOk P w K mg base CX0 (k+1) f fd ["state","button"] (spD K cC):=by
 refine aD Fn lF nJ ?_ mW
 intro cdv A outer s H E hr
 refine au ?_
 refine az ?_
 refine bf ?_ ?_
 ·exact al C_is_holding hr (ab (ac 0) (ab (ac 1) af))
 refine bU ?_
 exact bo cq (ag (ag (ac 0) (ax c_HELD)) ae) aT
abbrev qM:Stmt:=top 22
theorem ub:FnScope ["state","place","part"] ["state","place","part"] (defScope qM):=⟨rfl,rfl,rfl,by decide +kernel,rfl,by decide +kernel,by decide +kernel⟩
theorem tm {P:Program} {w:World} {K:PySem.W.Frag} {mg:Str->Option Value} {base:Heap} {k:Nat} {f:Addr} {fd:FuncData} (Fn:Fun K "put" "put" qM f fd):FnOk P w K mg base CX0 (k+1) f fd ["state","place","part"] (spD K aM):=by
 refine aD Fn ub uj ?_ ul
 intro cdv A outer s H E hr
 refine au ?_
 refine az ?_
 refine ai aG ?_ ?_
 ·refine ai aG ?_ ?_
  ·refine gf (ac 0) lc ?_
   exact gA (ac 1)
  exact av (ab (ac 2) af)
 refine gf (ac 0) ?_ lc
 refine gA ?_
 exact ai aG (ac 1) ae
abbrev dk:Stmt:=top 37
theorem sc_alarm_hour_on:FnScope ["state","alarm"] ["state"] (defScope dk):=⟨rfl,rfl,rfl,by decide +kernel,rfl,by decide +kernel,by decide +kernel⟩
theorem ig {P:Program} {w:World} {K:PySem.W.Frag} {mg:Str->Option Value} {base:Heap} {k:Nat} (C_put:Cal P w K mg base k "put" ["state","place","part"] aM) (c_ALARM:Con K mg "ALARM" bB) {f:Addr} {fd:FuncData} (Fn:Fun K "alarm_hour_on" "alarm_hour_on" dk f fd):FnOk P w K mg base CX0 (k+1) f fd ["state"] (spD K be):=by
 refine aD Fn sc_alarm_hour_on iL ?_ iD
 intro cdv A outer s H E hr
 refine ar ?_ ?_
 ·refine aF (ag (ac 0) (ax c_ALARM)) ?_
  exact ak 1 sc_alarm_hour_on.nd
 refine au ?_
 refine az ?_
 refine al C_put hr ?_
 refine ab (ac 0) ?_
 refine ab (ax c_ALARM) ?_
 refine ab ?_ af
 refine av ?_
 refine ab ?_ ?_
 ·refine ai aB ?_ ae
  exact ai aG (ag (ac 1) ae) ae
 exact ab (ag (ac 1) ae) (ab (ag (ac 1) ae) af)
abbrev cU:Stmt:=top 38
theorem sc_alarm_minute_on:FnScope ["state","alarm"] ["state"] (defScope cU):=⟨rfl,rfl,rfl,by decide +kernel,rfl,by decide +kernel,by decide +kernel⟩
theorem fX {P:Program} {w:World} {K:PySem.W.Frag} {mg:Str->Option Value} {base:Heap} {k:Nat} (C_put:Cal P w K mg base k "put" ["state","place","part"] aM) (c_ALARM:Con K mg "ALARM" bB) {f:Addr} {fd:FuncData} (Fn:Fun K "alarm_minute_on" "alarm_minute_on" cU f fd):FnOk P w K mg base CX0 (k+1) f fd ["state"] (spD K aW):=by
 refine aD Fn sc_alarm_minute_on gr ?_ gy
 intro cdv A outer s H E hr
 refine ar ?_ ?_
 ·refine aF (ag (ac 0) (ax c_ALARM)) ?_
  exact ak 1 sc_alarm_minute_on.nd
 refine au ?_
 refine az ?_
 refine al C_put hr ?_
 refine ab (ac 0) ?_
 refine ab (ax c_ALARM) ?_
 refine ab ?_ af
 refine av ?_
 refine ab (ag (ac 1) ae) ?_
 refine ab ?_ (ab (ag (ac 1) ae) af)
 refine ai aB ?_ ae
 exact ai aG (ag (ac 1) ae) ae
abbrev dD:Stmt:=top 39
theorem sc_alarm_turned:FnScope ["state","alarm"] ["state"] (defScope dD):=⟨rfl,rfl,rfl,by decide +kernel,rfl,by decide +kernel,by decide +kernel⟩
theorem iG {P:Program} {w:World} {K:PySem.W.Frag} {mg:Str->Option Value} {base:Heap} {k:Nat} (C_put:Cal P w K mg base k "put" ["state","place","part"] aM) (c_ALARM:Con K mg "ALARM" bB) {f:Addr} {fd:FuncData} (Fn:Fun K "alarm_turned" "alarm_turned" dD f fd):FnOk P w K mg base CX0 (k+1) f fd ["state"] (spD K bn):=by
 refine aD Fn sc_alarm_turned jf ?_ je
 intro cdv A outer s H E hr
 refine ar ?_ ?_
 ·refine aF (ag (ac 0) (ax c_ALARM)) ?_
  exact ak 1 sc_alarm_turned.nd
 refine au ?_
 refine az ?_
 refine al C_put hr ?_
 refine ab (ac 0) ?_
 refine ab (ax c_ALARM) ?_
 refine ab ?_ af
 refine av ?_
 refine ab (ag (ac 1) ae) ?_
 refine ab (ag (ac 1) ae) ?_
 refine ab ?_ af
 exact d_ (ag (ac 1) ae)
abbrev jy:Stmt:=top 42
theorem pS:FnScope ["state","minute","second"] ["state","minute","second"] (defScope jy):=⟨rfl,rfl,rfl,by decide +kernel,rfl,by decide +kernel,by decide +kernel⟩
theorem qy {P:Program} {w:World} {K:PySem.W.Frag} {mg:Str->Option Value} {base:Heap} {k:Nat} (C_put:Cal P w K mg base k "put" ["state","place","part"] aM) (c_COUNT:Con K mg "COUNT" bc) {f:Addr} {fd:FuncData} (Fn:Fun K "set_to" "set_to" jy f fd):FnOk P w K mg base CX0 (k+1) f fd ["state","minute","second"] (spD K bV):=by
 refine aD Fn pS rZ ?_ se
 intro cdv A outer s H E hr
 refine ar ?_ ?_
 ·refine ci ?_ ?_ aS
  ·exact bK (ag (ag (ac 0) (ax c_COUNT)) ae)
  refine au ?_
  exact az (ac 0)
 refine au ?_
 refine az ?_
 refine al C_put hr ?_
 refine ab (ac 0) ?_
 refine ab (ax c_COUNT) ?_
 refine ab ?_ af
 refine av ?_
 refine ab (ac 1) ?_
 refine ab (ac 2) ?_
 refine ab ?_ (ab cT af)
 refine ai aG ?_ (ac 2)
 exact ai cj ae (ac 1)
abbrev cQ:Stmt:=top 43
theorem sc_count_minute_on:FnScope ["state","count"] ["state"] (defScope cQ):=⟨rfl,rfl,rfl,by decide +kernel,rfl,by decide +kernel,by decide +kernel⟩
theorem fP {P:Program} {w:World} {K:PySem.W.Frag} {mg:Str->Option Value} {base:Heap} {k:Nat} (C_set_to:Cal P w K mg base k "set_to" ["state","minute","second"] bV) (c_COUNT:Con K mg "COUNT" bc) {f:Addr} {fd:FuncData} (Fn:Fun K "count_minute_on" "count_minute_on" cQ f fd):FnOk P w K mg base CX0 (k+1) f fd ["state"] (spD K aV):=by
 refine aD Fn sc_count_minute_on gq ?_ gl
 intro cdv A outer s H E hr
 refine ar ?_ ?_
 ·refine aF (ag (ac 0) (ax c_COUNT)) ?_
  exact ak 1 sc_count_minute_on.nd
 refine au ?_
 refine az ?_
 refine al C_set_to hr ?_
 refine ab (ac 0) ?_
 refine ab ?_ (ab (ag (ac 1) ae) af)
 refine ai aB ?_ ae
 exact ai aG (ag (ac 1) ae) ae
abbrev cS:Stmt:=top 44
theorem sc_count_second_on:FnScope ["state","count"] ["state"] (defScope cS):=⟨rfl,rfl,rfl,by decide +kernel,rfl,by decide +kernel,by decide +kernel⟩
theorem fN {P:Program} {w:World} {K:PySem.W.Frag} {mg:Str->Option Value} {base:Heap} {k:Nat} (C_set_to:Cal P w K mg base k "set_to" ["state","minute","second"] bV) (c_COUNT:Con K mg "COUNT" bc) {f:Addr} {fd:FuncData} (Fn:Fun K "count_second_on" "count_second_on" cS f fd):FnOk P w K mg base CX0 (k+1) f fd ["state"] (spD K aU):=by
 refine aD Fn sc_count_second_on gm ?_ gt
 intro cdv A outer s H E hr
 refine ar ?_ ?_
 ·refine aF (ag (ac 0) (ax c_COUNT)) ?_
  exact ak 1 sc_count_second_on.nd
 refine au ?_
 refine az ?_
 refine al C_set_to hr ?_
 refine ab (ac 0) ?_
 refine ab (ag (ac 1) ae) ?_
 refine ab ?_ af
 refine ai aB ?_ ae
 exact ai aG (ag (ac 1) ae) ae
abbrev dJ:Stmt:=top 46
theorem sc_count_turned:FnScope ["state","count","runs"] ["state"] (defScope dJ):=⟨rfl,rfl,rfl,by decide +kernel,rfl,by decide +kernel,by decide +kernel⟩
theorem iK {P:Program} {w:World} {K:PySem.W.Frag} {mg:Str->Option Value} {base:Heap} {k:Nat} (C_put:Cal P w K mg base k "put" ["state","place","part"] aM) (c_COUNT:Con K mg "COUNT" bc) {f:Addr} {fd:FuncData} (Fn:Fun K "count_turned" "count_turned" dJ f fd):FnOk P w K mg base CX0 (k+1) f fd ["state"] (spD K bG):=by
 refine aD Fn sc_count_turned jh ?_ jg
 intro cdv A outer s H E hr
 refine ar ?_ ?_
 ·refine aF (ag (ac 0) (ax c_COUNT)) ?_
  exact ak 1 sc_count_turned.nd
 refine ar ?_ ?_
 ·refine aF ?_ ?_
  ·refine bf ?_ ?_
   ·exact d_ (ag (ac 1) ae)
   refine bU ?_
   exact bo dX (ag (ac 1) ae) ae
  exact ak 2 sc_count_turned.nd
 refine au ?_
 refine az ?_
 refine al C_put hr ?_
 refine ab (ac 0) ?_
 refine ab (ax c_COUNT) ?_
 refine ab ?_ af
 refine av ?_
 refine ab (ag (ac 1) ae) ?_
 exact ab (ag (ac 1) ae) (ab (ag (ac 1) ae) (ab (ac 2) af))
abbrev js:Stmt:=top 45
theorem sc_filled:FnScope ["state","count"] ["state"] (defScope js):=⟨rfl,rfl,rfl,by decide +kernel,rfl,by decide +kernel,by decide +kernel⟩
theorem qk {P:Program} {w:World} {K:PySem.W.Frag} {mg:Str->Option Value} {base:Heap} {k:Nat} (C_set_to:Cal P w K mg base k "set_to" ["state","minute","second"] bV) (c_COUNT:Con K mg "COUNT" bc) {f:Addr} {fd:FuncData} (Fn:Fun K "filled" "filled" js f fd):FnOk P w K mg base CX0 (k+1) f fd ["state"] (spD K dg):=by
 refine aD Fn sc_filled rX ?_ qT
 intro cdv A outer s H E hr
 refine ar ?_ ?_
 ·refine aF (ag (ac 0) (ax c_COUNT)) ?_
  exact ak 1 sc_filled.nd
 refine au ?_
 refine az ?_
 refine al C_set_to hr ?_
 refine ab (ac 0) ?_
 exact ab (ag (ac 1) ae) (ab (ag (ac 1) ae) af)
abbrev ik:Stmt:=top 34
theorem oz:FnScope ["state"] ["state"] (defScope ik):=⟨rfl,rfl,rfl,by decide +kernel,rfl,by decide +kernel,by decide +kernel⟩
theorem nY {P:Program} {w:World} {K:PySem.W.Frag} {mg:Str->Option Value} {base:Heap} {k:Nat} (C_put:Cal P w K mg base k "put" ["state","place","part"] aM) (c_CLOCK:Con K mg "CLOCK" br) {f:Addr} {fd:FuncData} (Fn:Fun K "hour_on" "hour_on" ik f fd):FnOk P w K mg base CX0 (k+1) f fd ["state"] (spD K cJ):=by
 refine aD Fn oz pP ?_ qh
 intro cdv A outer s H E hr
 refine au ?_
 refine az ?_
 refine al C_put hr ?_
 refine ab (ac 0) ?_
 refine ab (ax c_CLOCK) ?_
 refine ab ?_ af
 refine ai aB ?_ ae
 exact ai aG (ag (ac 0) (ax c_CLOCK)) ae
abbrev fS:Stmt:=top 41
theorem sc_lap_kept:FnScope ["state","laps"] ["state"] (defScope fS):=⟨rfl,rfl,rfl,by decide +kernel,rfl,by decide +kernel,by decide +kernel⟩
theorem mt {P:Program} {w:World} {K:PySem.W.Frag} {mg:Str->Option Value} {base:Heap} {k:Nat} (C_put:Cal P w K mg base k "put" ["state","place","part"] aM) (m_len:mg "len" = none) (c_LAPS:Con K mg "LAPS" cu) (c_MOST_KEPT:Con K mg "MOST_KEPT" di) {f:Addr} {fd:FuncData} (Fn:Fun K "lap_kept" "lap_kept" fS f fd):FnOk P w K mg base CX0 (k+1) f fd ["state"] (spD K cB):=by
 refine aD Fn sc_lap_kept mX ?_ oj
 intro cdv A outer s H E hr
 refine ar ?_ ?_
 ·refine aF (ag (ac 0) (ax c_LAPS)) ?_
  exact ak 1 sc_lap_kept.nd
 refine ar ?_ ?_
 ·refine ci ?_ ?_ aS
  ·refine cN ?_
   exact bK (ag (ac 1) ae)
  refine au ?_
  refine az ?_
  refine al C_put hr ?_
  refine ab (ac 0) ?_
  refine ab (ax c_LAPS) ?_
  refine ab ?_ af
  refine av ?_
  refine ab ae ?_
  refine ab cT ?_
  refine ab ?_ af
  exact av af
 refine ar ?_ ?_
 ·refine ci ?_ ?_ aS
  ·refine aH uh ?_ (ax c_MOST_KEPT)
   exact bh ib m_len (ab (ag (ac 1) ae) af)
  refine au ?_
  exact az (ac 0)
 refine au ?_
 refine az ?_
 refine al C_put hr ?_
 refine ab (ac 0) ?_
 refine ab (ax c_LAPS) ?_
 refine ab ?_ af
 refine av ?_
 refine ab (ag (ac 1) ae) ?_
 refine ab cT ?_
 refine ab ?_ af
 refine ai aG (ag (ac 1) ae) ?_
 exact av (ab (ag (ac 1) ae) af)
abbrev dN:Stmt:=top 40
theorem sc_laps_turned:FnScope ["state","laps"] ["state"] (defScope dN):=⟨rfl,rfl,rfl,by decide +kernel,rfl,by decide +kernel,by decide +kernel⟩
theorem jc {P:Program} {w:World} {K:PySem.W.Frag} {mg:Str->Option Value} {base:Heap} {k:Nat} (C_put:Cal P w K mg base k "put" ["state","place","part"] aM) (c_LAPS:Con K mg "LAPS" cu) {f:Addr} {fd:FuncData} (Fn:Fun K "laps_turned" "laps_turned" dN f fd):FnOk P w K mg base CX0 (k+1) f fd ["state"] (spD K bD):=by
 refine aD Fn sc_laps_turned j5 ?_ j3
 intro cdv A outer s H E hr
 refine ar ?_ ?_
 ·refine aF (ag (ac 0) (ax c_LAPS)) ?_
  exact ak 1 sc_laps_turned.nd
 refine au ?_
 refine az ?_
 refine al C_put hr ?_
 refine ab (ac 0) ?_
 refine ab (ax c_LAPS) ?_
 refine ab ?_ af
 refine av ?_
 refine ab (ag (ac 1) ae) ?_
 refine ab ?_ (ab (ag (ac 1) ae) af)
 exact d_ (ag (ac 1) ae)
abbrev eT:Stmt:=top 35
theorem sc_minute_on:FnScope ["state","clock","within"] ["state"] (defScope eT):=⟨rfl,rfl,rfl,by decide +kernel,rfl,by decide +kernel,by decide +kernel⟩
theorem lb {P:Program} {w:World} {K:PySem.W.Frag} {mg:Str->Option Value} {base:Heap} {k:Nat} (C_put:Cal P w K mg base k "put" ["state","place","part"] aM) (c_CLOCK:Con K mg "CLOCK" br) {f:Addr} {fd:FuncData} (Fn:Fun K "minute_on" "minute_on" eT f fd):FnOk P w K mg base CX0 (k+1) f fd ["state"] (spD K bS):=by
 refine aD Fn sc_minute_on lD ?_ lT
 intro cdv A outer s H E hr
 refine ar ?_ ?_
 ·refine aF (ag (ac 0) (ax c_CLOCK)) ?_
  exact ak 1 sc_minute_on.nd
 refine ar ?_ ?_
 ·refine aF ?_ ?_
  ·refine ai aB ?_ ae
   refine ai aG ?_ ae
   exact ai aB (ac 1) ae
  exact ak 2 sc_minute_on.nd
 refine au ?_
 refine az ?_
 refine al C_put hr ?_
 refine ab (ac 0) ?_
 refine ab (ax c_CLOCK) ?_
 refine ab ?_ af
 refine ai aG ?_ (ac 2)
 refine ai bJ (ac 1) ?_
 exact ai aB (ac 1) ae
abbrev hW:Stmt:=top 33
theorem n_:FnScope ["state"] ["state"] (defScope hW):=⟨rfl,rfl,rfl,by decide +kernel,rfl,by decide +kernel,by decide +kernel⟩
theorem nE {P:Program} {w:World} {K:PySem.W.Frag} {mg:Str->Option Value} {base:Heap} {k:Nat} {f:Addr} {fd:FuncData} (Fn:Fun K "nothing" "nothing" hW f fd):FnOk P w K mg base CX0 (k+1) f fd ["state"] (spD K cL):=by
 refine aD Fn n_ pE ?_ pT
 intro cdv A outer s H E hr
 refine au ?_
 exact az (ac 0)
abbrev gQ:Stmt:=top 36
theorem nq:FnScope ["state"] ["state"] (defScope gQ):=⟨rfl,rfl,rfl,by decide +kernel,rfl,by decide +kernel,by decide +kernel⟩
theorem oh {P:Program} {w:World} {K:PySem.W.Frag} {mg:Str->Option Value} {base:Heap} {k:Nat} (C_put:Cal P w K mg base k "put" ["state","place","part"] aM) (c_CLOCK:Con K mg "CLOCK" br) {f:Addr} {fd:FuncData} (Fn:Fun K "to_zero" "to_zero" gQ f fd):FnOk P w K mg base CX0 (k+1) f fd ["state"] (spD K cI):=by
 refine aD Fn nq qi ?_ pJ
 intro cdv A outer s H E hr
 refine au ?_
 refine az ?_
 refine al C_put hr ?_
 refine ab (ac 0) ?_
 refine ab (ax c_CLOCK) ?_
 refine ab ?_ af
 refine ai bJ (ag (ac 0) (ax c_CLOCK)) ?_
 exact ai aB (ag (ac 0) (ax c_CLOCK)) ae
abbrev dY:Stmt:=top 48
theorem sc_press_done:FnScope ["book","state","press","rows","row","step"] ["book","state","press"] (defScope dY):=⟨rfl,rfl,rfl,by decide +kernel,rfl,by decide +kernel,by decide +kernel⟩
theorem jO {P:Program} {w:World} {K:PySem.W.Frag} {mg:Str->Option Value} {base:Heap} {k:Nat} (C_alarm_hour_on:Cal P w K mg base k "alarm_hour_on" ["state"] be) (C_alarm_minute_on:Cal P w K mg base k "alarm_minute_on" ["state"] aW) (C_alarm_turned:Cal P w K mg base k "alarm_turned" ["state"] bn) (C_count_minute_on:Cal P w K mg base k "count_minute_on" ["state"] aV) (C_count_second_on:Cal P w K mg base k "count_second_on" ["state"] aU) (C_count_turned:Cal P w K mg base k "count_turned" ["state"] bG) (C_filled:Cal P w K mg base k "filled" ["state"] dg) (C_hour_on:Cal P w K mg base k "hour_on" ["state"] cJ) (C_lap_kept:Cal P w K mg base k "lap_kept" ["state"] cB) (C_laps_turned:Cal P w K mg base k "laps_turned" ["state"] bD) (C_minute_on:Cal P w K mg base k "minute_on" ["state"] bS) (C_nothing:Cal P w K mg base k "nothing" ["state"] cL) (C_put:Cal P w K mg base k "put" ["state","place","part"] aM) (C_to_zero:Cal P w K mg base k "to_zero" ["state"] cI) (c_MODE:Con K mg "MODE" cy) (s_PRESSES:ConS K mg "PRESSES" dt) (T_STEPS:TabOk P w K mg base k "STEPS" tab_STEPS) {f:Addr} {fd:FuncData} (Fn:Fun K "press_done" "press_done" dY f fd):FnOk P w K mg base CX0 (k+1) f fd ["book","state","press"] (spD K bw):=by
 refine aD Fn sc_press_done lp ?_ lq
 intro cdv A outer s H E hr
 refine ar ?_ ?_
 ·refine aF ?_ ?_
  ·exact ag (ag (ag (ac 0) ae) (ag (ac 1) (ax c_MODE))) ae
  exact ak 3 sc_press_done.nd
 refine ar ?_ ?_
 ·refine aF ?_ ?_
  ·refine ag (ac 3) ?_
   exact tV s_PRESSES (ac 2)
  exact ak 4 sc_press_done.nd
 refine ur 5 sc_press_done.nd T_STEPS (ag (ac 4) ae) ?_
 intro fa G_ hF
 refine sx_ret ?_
 refine sex_call C_put hr ?_
 refine sax_cons ?_ ?_
 ·exact sex_callL hF hr (ab (ac 1) af)
 exact sax_of (ab (ax c_MODE) (ab (ag (ac 4) ae) af))
abbrev ji:Stmt:=top 71
theorem sc_let_go:FnScope ["book","state","button"] ["book","state","button"] (defScope ji):=⟨rfl,rfl,rfl,by decide +kernel,rfl,by decide +kernel,by decide +kernel⟩
theorem pM {P:Program} {w:World} {K:PySem.W.Frag} {mg:Str->Option Value} {base:Heap} {k:Nat} (C_is_holding:Cal P w K mg base k "is_holding" ["state","button"] bx) (C_is_short:Cal P w K mg base k "is_short" ["state","button"] cC) (C_press_done:Cal P w K mg base k "press_done" ["book","state","press"] bw) (C_put:Cal P w K mg base k "put" ["state","place","part"] aM) (c_HELD:Con K mg "HELD" bu) (c_IDLE:Con K mg "IDLE" c_) {f:Addr} {fd:FuncData} (Fn:Fun K "let_go" "let_go" ji f fd):FnOk P w K mg base CX0 (k+1) f fd ["book","state","button"] (spD K dB):=by
 refine aD Fn sc_let_go rK ?_ qY
 intro cdv A outer s H E hr
 refine ar ?_ ?_
 ·refine ci ?_ ?_ aS
  ·refine cN ?_
   refine bK ?_
   exact al C_is_holding hr (ab (ac 1) (ab (ac 2) af))
  refine au ?_
  exact az (ac 1)
 refine ar ?_ ?_
 ·refine ci ?_ ?_ aS
  ·refine bK ?_
   exact al C_is_short hr (ab (ac 1) (ab (ac 2) af))
  refine au ?_
  refine aF ?_ ?_
  ·exact al C_press_done hr (ab (ac 0) (ab (ac 1) (ab (ac 2) af)))
  exact ak 1 sc_let_go.nd
 refine au ?_
 refine az ?_
 refine al C_put hr ?_
 refine ab ?_ (ab (ax c_IDLE) (ab ae af))
 exact al C_put hr (ab (ac 1) (ab (ax c_HELD) (ab aT af)))
abbrev jL:Stmt:=top 70
theorem sc_pushed:FnScope ["state","button","ticks"] ["state","button"] (defScope jL):=⟨rfl,rfl,rfl,by decide +kernel,rfl,by decide +kernel,by decide +kernel⟩
theorem qw {P:Program} {w:World} {K:PySem.W.Frag} {mg:Str->Option Value} {base:Heap} {k:Nat} (C_put:Cal P w K mg base k "put" ["state","place","part"] aM) (c_HELD:Con K mg "HELD" bu) (c_IDLE:Con K mg "IDLE" c_) (c_RING:Con K mg "RING" eQ) {f:Addr} {fd:FuncData} (Fn:Fun K "pushed" "pushed" jL f fd):FnOk P w K mg base CX0 (k+1) f fd ["state","button"] (spD K dH):=by
 refine aD Fn sc_pushed qW ?_ rP
 intro cdv A outer s H E hr
 refine ar ?_ ?_
 ·refine ci ?_ ?_ aS
  ·exact aH cq (ag (ac 0) (ax c_HELD)) aT
  refine au ?_
  exact az (ac 0)
 refine ar ?_ ?_
 ·refine aF ?_ ?_
  ·refine kh ?_ aT ae
   exact aH dX (ag (ac 0) (ax c_RING)) ae
  exact ak 2 sc_pushed.nd
 refine au ?_
 refine az ?_
 refine al C_put hr ?_
 refine ab ?_ (ab (ax c_IDLE) (ab ae af))
 refine al C_put hr ?_
 refine ab ?_ ?_
 ·exact al C_put hr (ab (ac 0) (ab (ax c_RING) (ab ae af)))
 refine ab (ax c_HELD) ?_
 refine ab ?_ af
 exact av (ab (ac 1) (ab (ac 2) af))
abbrev fZ:Stmt:=top 55
theorem sc_count_on:FnScope ["count","many","left"] ["count","many"] (defScope fZ):=⟨rfl,rfl,rfl,by decide +kernel,rfl,by decide +kernel,by decide +kernel⟩
theorem me {P:Program} {w:World} {K:PySem.W.Frag} {mg:Str->Option Value} {base:Heap} {k:Nat} (m_max:mg "max" = none) {f:Addr} {fd:FuncData} (Fn:Fun K "count_on" "count_on" fZ f fd):FnOk P w K mg base CX0 (k+1) f fd ["count","many"] (spD K cw):=by
 refine aD Fn sc_count_on nG ?_ m_
 intro cdv A outer s H E hr
 refine ar ?_ ?_
 ·refine ci ?_ ?_ aS
  ·refine cN ?_
   exact bK (ag (ac 0) ae)
  refine au ?_
  exact az (ac 0)
 refine ar ?_ ?_
 ·refine aF ?_ ?_
  ·refine bh (fV rfl) m_max ?_
   refine ab ae ?_
   refine ab ?_ af
   exact ai bJ (ag (ac 0) ae) (ac 1)
  exact ak 2 sc_count_on.nd
 refine au ?_
 refine az ?_
 refine av ?_
 refine ab (ag (ac 0) ae) ?_
 refine ab (ag (ac 0) ae) ?_
 refine ab (ac 2) ?_
 refine ab ?_ af
 exact bo dX (ac 2) ae
abbrev gN:Stmt:=top 57
theorem nj:FnScope ["held","many"] ["held","many"] (defScope gN):=⟨rfl,rfl,rfl,by decide +kernel,rfl,by decide +kernel,by decide +kernel⟩
theorem nw {P:Program} {w:World} {K:PySem.W.Frag} {mg:Str->Option Value} {base:Heap} {k:Nat} {f:Addr} {fd:FuncData} (Fn:Fun K "held_on" "held_on" gN f fd):FnOk P w K mg base CX0 (k+1) f fd ["held","many"] (spD K cW):=by
 refine aD Fn nj qo ?_ pR
 intro cdv A outer s H E hr
 refine ar ?_ ?_
 ·refine ci ?_ ?_ aS
  ·refine eF ?_
   refine ju ?_ ?_
   ·exact aH fK (ac 0) aT
   refine gJ ?_
   exact aH fK (ag (ac 0) ae) aT
  refine au ?_
  exact az (ac 0)
 refine au ?_
 refine az ?_
 refine av ?_
 refine ab (ag (ac 0) ae) ?_
 refine ab ?_ af
 exact ai aG (ag (ac 0) ae) (ac 1)
abbrev dm:Stmt:=top 58
theorem hZ:FnScope ["book","state"] ["book","state"] (defScope dm):=⟨rfl,rfl,rfl,by decide +kernel,rfl,by decide +kernel,by decide +kernel⟩
theorem g_ {P:Program} {w:World} {K:PySem.W.Frag} {mg:Str->Option Value} {base:Heap} {k:Nat} (m_max:mg "max" = none) (c_IDLE:Con K mg "IDLE" c_) {f:Addr} {fd:FuncData} (Fn:Fun K "ticks_to_back" "ticks_to_back" dm f fd):FnOk P w K mg base CX0 (k+1) f fd ["book","state"] (spD K aY):=by
 refine aD Fn hZ iH ?_ iC
 intro cdv A outer s H E hr
 refine au ?_
 refine az ?_
 refine bh (fV rfl) m_max ?_
 refine ab ae ?_
 refine ab ?_ af
 exact ai bJ (ag (ac 0) ae) (ag (ac 1) (ax c_IDLE))
abbrev gK:Stmt:=top 59
theorem sc_idle_on:FnScope ["book","state","many","ticks"] ["book","state","many"] (defScope gK):=⟨rfl,rfl,rfl,by decide +kernel,rfl,by decide +kernel,by decide +kernel⟩
theorem nF {P:Program} {w:World} {K:PySem.W.Frag} {mg:Str->Option Value} {base:Heap} {k:Nat} (C_ticks_to_back:Cal P w K mg base k "ticks_to_back" ["book","state"] aY) (c_HELD:Con K mg "HELD" bu) (c_IDLE:Con K mg "IDLE" c_) {f:Addr} {fd:FuncData} (Fn:Fun K "idle_on" "idle_on" gK f fd):FnOk P w K mg base CX0 (k+1) f fd ["book","state","many"] (spD K cZ):=by
 refine aD Fn sc_idle_on qD ?_ qF
 intro cdv A outer s H E hr
 refine ar ?_ ?_
 ·refine ci ?_ ?_ aS
  ·refine eF ?_
   refine ju ?_ ?_
   ·exact aH cq (ag (ac 1) (ax c_HELD)) aT
   refine gJ ?_
   exact aH (bM hr) (ag (ac 0) ae) ae
  refine au ?_
  exact az (ag (ac 1) (ax c_IDLE))
 refine ar ?_ ?_
 ·refine aF ?_ ?_
  ·exact al C_ticks_to_back hr (ab (ac 0) (ab (ac 1) af))
  exact ak 3 sc_idle_on.nd
 refine au ?_
 refine az ?_
 refine kh ?_ ?_ ?_
 ·exact aH pe (ac 2) (ac 3)
 ·exact ai aG (ag (ac 1) (ax c_IDLE)) (ac 2)
 refine ai aB ?_ (ag (ac 0) ae)
 exact ai bJ (ac 2) (ac 3)
abbrev gO:Stmt:=top 54
theorem nQ:FnScope ["laps","many"] ["laps","many"] (defScope gO):=⟨rfl,rfl,rfl,by decide +kernel,rfl,by decide +kernel,by decide +kernel⟩
theorem og {P:Program} {w:World} {K:PySem.W.Frag} {mg:Str->Option Value} {base:Heap} {k:Nat} {f:Addr} {fd:FuncData} (Fn:Fun K "laps_on" "laps_on" gO f fd):FnOk P w K mg base CX0 (k+1) f fd ["laps","many"] (spD K cY):=by
 refine aD Fn nQ pV ?_ ql
 intro cdv A outer s H E hr
 refine au ?_
 refine az ?_
 refine kh ?_ ?_ (ac 0)
 ·exact bK (ag (ac 0) ae)
 refine av ?_
 refine ab ?_ (ab cT (ab (ag (ac 0) ae) af))
 exact ai aG (ag (ac 0) ae) (ac 1)
abbrev ed:Stmt:=top 51
theorem sc_alarm_tick:FnScope ["state","alarm","second"] ["state"] (defScope ed):=⟨rfl,rfl,rfl,by decide +kernel,rfl,by decide +kernel,by decide +kernel⟩
theorem jU {P:Program} {w:World} {K:PySem.W.Frag} {mg:Str->Option Value} {base:Heap} {k:Nat} (c_ALARM:Con K mg "ALARM" bB) (c_CLOCK:Con K mg "CLOCK" br) (c_DAY:Con K mg "DAY" gw) {f:Addr} {fd:FuncData} (Fn:Fun K "alarm_tick" "alarm_tick" ed f fd):FnOk P w K mg base CX0 (k+1) f fd ["state"] (spD K bi):=by
 refine aD Fn sc_alarm_tick kQ ?_ lh
 intro cdv A outer s H E hr
 refine ar ?_ ?_
 ·refine aF (ag (ac 0) (ax c_ALARM)) ?_
  exact ak 1 sc_alarm_tick.nd
 refine ar ?_ ?_
 ·refine ci ?_ ?_ aS
  ·refine cN ?_
   exact bK (ag (ac 1) ae)
  refine au ?_
  exact az aT
 refine ar ?_ ?_
 ·refine aF ?_ ?_
  ·refine ai aG ?_ ?_
   ·exact ai cj ae (ag (ac 1) ae)
   exact ai cj ae (ag (ac 1) ae)
  exact ak 2 sc_alarm_tick.nd
 refine au ?_
 refine az ?_
 refine ai aG ?_ ae
 refine ai aB ?_ (ax c_DAY)
 refine ai bJ ?_ ae
 exact ai bJ (ac 2) (ag (ac 0) (ax c_CLOCK))
abbrev eB:Stmt:=top 52
theorem sc_count_tick:FnScope ["state","count"] ["state"] (defScope eB):=⟨rfl,rfl,rfl,by decide +kernel,rfl,by decide +kernel,by decide +kernel⟩
theorem j6 {P:Program} {w:World} {K:PySem.W.Frag} {mg:Str->Option Value} {base:Heap} {k:Nat} (c_COUNT:Con K mg "COUNT" bc) {f:Addr} {fd:FuncData} (Fn:Fun K "count_tick" "count_tick" eB f fd):FnOk P w K mg base CX0 (k+1) f fd ["state"] (spD K bz):=by
 refine aD Fn sc_count_tick kB ?_ kN
 intro cdv A outer s H E hr
 refine ar ?_ ?_
 ·refine aF (ag (ac 0) (ax c_COUNT)) ?_
  exact ak 1 sc_count_tick.nd
 refine au ?_
 refine az ?_
 refine kh ?_ (ag (ac 1) ae) aT
 exact bK (ag (ac 1) ae)
abbrev fr:Stmt:=top 53
theorem sc_last_ring:FnScope ["state","many","alarm","count","ticks"] ["state","many"] (defScope fr):=⟨rfl,rfl,rfl,by decide +kernel,rfl,by decide +kernel,by decide +kernel⟩
theorem kX {P:Program} {w:World} {K:PySem.W.Frag} {mg:Str->Option Value} {base:Heap} {k:Nat} (C_alarm_tick:Cal P w K mg base k "alarm_tick" ["state"] bi) (C_count_tick:Cal P w K mg base k "count_tick" ["state"] bz) (m_max:mg "max" = none) (c_DAY:Con K mg "DAY" gw) {f:Addr} {fd:FuncData} (Fn:Fun K "last_ring" "last_ring" fr f fd):FnOk P w K mg base CX0 (k+1) f fd ["state","many"] (spD K bZ):=by
 refine aD Fn sc_last_ring mD ?_ mJ
 intro cdv A outer s H E hr
 refine ar ?_ ?_
 ·refine aF ?_ ?_
  ·exact al C_alarm_tick hr (ab (ac 0) af)
  exact ak 2 sc_last_ring.nd
 refine ar ?_ ?_
 ·refine aF ?_ ?_
  ·exact al C_count_tick hr (ab (ac 0) af)
  exact ak 3 sc_last_ring.nd
 refine tU 4 sc_last_ring.nd af ?_
 refine pi ?_ ?_
 ·refine sV ?_ ?_ oX
  ·refine eF ?_
   refine gY ?_ ?_
   ·exact aH cq (ac 2) aT
   refine fB ?_
   exact aH pc (ac 2) (ac 1)
  refine oE ?_
  refine rN 4 ?_
  refine ai bJ (ac 1) ?_
  refine ai aB ?_ (ax c_DAY)
  exact ai bJ (ac 1) (ac 2)
 refine pi ?_ ?_
 ·refine sV ?_ ?_ oX
  ·refine eF ?_
   refine gY ?_ ?_
   ·exact aH cq (ac 3) aT
   refine fB ?_
   exact aH pc (ac 3) (ac 1)
  refine oE ?_
  exact rN 4 (ac 3)
 refine ud ?_
 refine au ?_
 refine az ?_
 exact sr rfl m_max (ac 4)
abbrev gZ:Stmt:=top 56
theorem sc_ring_on:FnScope ["state","many","last"] ["state","many"] (defScope gZ):=⟨rfl,rfl,rfl,by decide +kernel,rfl,by decide +kernel,by decide +kernel⟩
theorem nC {P:Program} {w:World} {K:PySem.W.Frag} {mg:Str->Option Value} {base:Heap} {k:Nat} (C_last_ring:Cal P w K mg base k "last_ring" ["state","many"] bZ) (m_max:mg "max" = none) (c_FULL_RING:Con K mg "FULL_RING" dj) (c_RING:Con K mg "RING" eQ) {f:Addr} {fd:FuncData} (Fn:Fun K "ring_on" "ring_on" gZ f fd):FnOk P w K mg base CX0 (k+1) f fd ["state","many"] (spD K de):=by
 refine aD Fn sc_ring_on qA ?_ pO
 intro cdv A outer s H E hr
 refine ar ?_ ?_
 ·refine aF ?_ ?_
  ·exact al C_last_ring hr (ab (ac 0) (ab (ac 1) af))
  exact ak 2 sc_ring_on.nd
 refine ar ?_ ?_
 ·refine ci ?_ ?_ aS
  ·exact aH fK (ac 2) aT
  refine au ?_
  refine az ?_
  refine bh (fV rfl) m_max ?_
  refine ab ae ?_
  refine ab ?_ af
  exact ai bJ (ag (ac 0) (ax c_RING)) (ac 1)
 refine au ?_
 refine az ?_
 refine bh (fV rfl) m_max ?_
 refine ab ae ?_
 refine ab ?_ af
 refine ai bJ (ax c_FULL_RING) ?_
 exact ai bJ (ac 1) (ac 2)
abbrev hX:Stmt:=top 60
theorem nW:FnScope ["book","state","many"] ["book","state","many"] (defScope hX):=⟨rfl,rfl,rfl,by decide +kernel,rfl,by decide +kernel,by decide +kernel⟩
theorem np {P:Program} {w:World} {K:PySem.W.Frag} {mg:Str->Option Value} {base:Heap} {k:Nat} (C_count_on:Cal P w K mg base k "count_on" ["count","many"] cw) (C_held_on:Cal P w K mg base k "held_on" ["held","many"] cW) (C_idle_on:Cal P w K mg base k "idle_on" ["book","state","many"] cZ) (C_laps_on:Cal P w K mg base k "laps_on" ["laps","many"] cY) (C_ring_on:Cal P w K mg base k "ring_on" ["state","many"] de) (c_ALARM:Con K mg "ALARM" bB) (c_CLOCK:Con K mg "CLOCK" br) (c_COUNT:Con K mg "COUNT" bc) (c_DAY:Con K mg "DAY" gw) (c_HELD:Con K mg "HELD" bu) (c_LAPS:Con K mg "LAPS" cu) (c_MODE:Con K mg "MODE" cy) {f:Addr} {fd:FuncData} (Fn:Fun K "counted" "counted" hX f fd):FnOk P w K mg base CX0 (k+1) f fd ["book","state","many"] (spD K cg):=by
 refine aD Fn nW qb ?_ pL
 intro cdv A outer s H E hr
 refine au ?_
 refine az ?_
 refine av ?_
 refine ab (ag (ac 1) (ax c_MODE)) ?_
 refine ab ?_ ?_
 ·refine ai aB ?_ (ax c_DAY)
  exact ai aG (ag (ac 1) (ax c_CLOCK)) (ac 2)
 refine ab (ag (ac 1) (ax c_ALARM)) ?_
 refine ab ?_ ?_
 ·refine al C_laps_on hr ?_
  exact ab (ag (ac 1) (ax c_LAPS)) (ab (ac 2) af)
 refine ab ?_ ?_
 ·refine al C_count_on hr ?_
  exact ab (ag (ac 1) (ax c_COUNT)) (ab (ac 2) af)
 refine ab ?_ ?_
 ·exact al C_ring_on hr (ab (ac 1) (ab (ac 2) af))
 refine ab ?_ ?_
 ·refine al C_held_on hr ?_
  exact ab (ag (ac 1) (ax c_HELD)) (ab (ac 2) af)
 refine ab ?_ af
 exact al C_idle_on hr (ab (ac 0) (ab (ac 1) (ab (ac 2) af)))
abbrev fq:Stmt:=top 61
theorem kA:FnScope ["book","state"] ["book","state"] (defScope fq):=⟨rfl,rfl,rfl,by decide +kernel,rfl,by decide +kernel,by decide +kernel⟩
theorem ll {P:Program} {w:World} {K:PySem.W.Frag} {mg:Str->Option Value} {base:Heap} {k:Nat} (c_MODE:Con K mg "MODE" cy) {f:Addr} {fd:FuncData} (Fn:Fun K "goes_back" "goes_back" fq f fd):FnOk P w K mg base CX0 (k+1) f fd ["book","state"] (spD K cc):=by
 refine aD Fn kA lB ?_ lV
 intro cdv A outer s H E hr
 refine au ?_
 refine az ?_
 refine bf ?_ ?_
 ·exact bo dX (ag (ac 0) ae) ae
 refine bf ?_ ?_
 ·exact bo (oM hr) (ag (ac 1) (ax c_MODE)) ae
 refine bU ?_
 refine d_ ?_
 exact ag (ag (ag (ac 0) ae) (ag (ac 1) (ax c_MODE))) ae
abbrev dn:Stmt:=top 62
theorem gL:FnScope ["book","state"] ["book","state"] (defScope dn):=⟨rfl,rfl,rfl,by decide +kernel,rfl,by decide +kernel,by decide +kernel⟩
theorem hU {P:Program} {w:World} {K:PySem.W.Frag} {mg:Str->Option Value} {base:Heap} {k:Nat} (m_max:mg "max" = none) (c_HELD:Con K mg "HELD" bu) {f:Addr} {fd:FuncData} (Fn:Fun K "ticks_to_long" "ticks_to_long" dn f fd):FnOk P w K mg base CX0 (k+1) f fd ["book","state"] (spD K bv):=by
 refine aD Fn gL iI ?_ iJ
 intro cdv A outer s H E hr
 refine au ?_
 refine az ?_
 refine bh (fV rfl) m_max ?_
 refine ab ae ?_
 refine ab ?_ af
 exact ai bJ (ag (ac 0) ae) (ag (ag (ac 1) (ax c_HELD)) ae)
abbrev fj:Stmt:=top 63
theorem sc_turn_tick:FnScope ["book","state","held"] ["book","state"] (defScope fj):=⟨rfl,rfl,rfl,by decide +kernel,rfl,by decide +kernel,by decide +kernel⟩
theorem kz {P:Program} {w:World} {K:PySem.W.Frag} {mg:Str->Option Value} {base:Heap} {k:Nat} (C_goes_back:Cal P w K mg base k "goes_back" ["book","state"] cc) (C_ticks_to_back:Cal P w K mg base k "ticks_to_back" ["book","state"] aY) (C_ticks_to_long:Cal P w K mg base k "ticks_to_long" ["book","state"] bv) (c_HELD:Con K mg "HELD" bu) {f:Addr} {fd:FuncData} (Fn:Fun K "turn_tick" "turn_tick" fj f fd):FnOk P w K mg base CX0 (k+1) f fd ["book","state"] (spD K bP):=by
 refine aD Fn sc_turn_tick lM ?_ lW
 intro cdv A outer s H E hr
 refine ar ?_ ?_
 ·refine aF (ag (ac 1) (ax c_HELD)) ?_
  exact ak 2 sc_turn_tick.nd
 refine ar ?_ ?_
 ·refine ci ?_ ?_ aS
  ·exact aH fK (ac 2) aT
  refine au ?_
  refine az ?_
  refine kh ?_ ?_ aT
  ·refine bK ?_
   exact al C_goes_back hr (ab (ac 0) (ab (ac 1) af))
  exact al C_ticks_to_back hr (ab (ac 0) (ab (ac 1) af))
 refine au ?_
 refine az ?_
 refine kh ?_ aT ?_
 ·exact aH fK (ag (ac 2) ae) aT
 exact al C_ticks_to_long hr (ab (ac 0) (ab (ac 1) af))
abbrev jb:Stmt:=top 64
theorem sc_turned:FnScope ["book","state","held"] ["book","state"] (defScope jb):=⟨rfl,rfl,rfl,by decide +kernel,rfl,by decide +kernel,by decide +kernel⟩
theorem qu {P:Program} {w:World} {K:PySem.W.Frag} {mg:Str->Option Value} {base:Heap} {k:Nat} (C_press_done:Cal P w K mg base k "press_done" ["book","state","press"] bw) (C_put:Cal P w K mg base k "put" ["state","place","part"] aM) (c_HELD:Con K mg "HELD" bu) (c_MODE:Con K mg "MODE" cy) {f:Addr} {fd:FuncData} (Fn:Fun K "turned" "turned" jb f fd):FnOk P w K mg base CX0 (k+1) f fd ["book","state"] (spD K dG):=by
 refine aD Fn sc_turned qP ?_ rm
 intro cdv A outer s H E hr
 refine ar ?_ ?_
 ·refine aF (ag (ac 1) (ax c_HELD)) ?_
  exact ak 2 sc_turned.nd
 refine ar ?_ ?_
 ·refine ci ?_ ?_ aS
  ·exact aH fK (ac 2) aT
  refine au ?_
  refine az ?_
  exact al C_put hr (ab (ac 1) (ab (ax c_MODE) (ab ae af)))
 refine au ?_
 refine az ?_
 refine al C_press_done hr ?_
 refine ab (ac 0) ?_
 refine ab ?_ ?_
 ·refine al C_put hr ?_
  refine ab (ac 1) ?_
  refine ab (ax c_HELD) ?_
  refine ab ?_ af
  exact av (ab (ag (ac 2) ae) (ab aT af))
 refine ab ?_ af
 exact sZ (ag (ac 2) ae)
abbrev dQ:Stmt:=top 65
theorem ja:FnScope ["book","state"] ["book","state"] (defScope dQ):=⟨rfl,rfl,rfl,by decide +kernel,rfl,by decide +kernel,by decide +kernel⟩
theorem jH {P:Program} {w:World} {K:PySem.W.Frag} {mg:Str->Option Value} {base:Heap} {k:Nat} (C_counted:Cal P w K mg base k "counted" ["book","state","many"] cg) (C_turn_tick:Cal P w K mg base k "turn_tick" ["book","state"] bP) (C_turned:Cal P w K mg base k "turned" ["book","state"] dG) {f:Addr} {fd:FuncData} (Fn:Fun K "behind_turn" "behind_turn" dQ f fd):FnOk P w K mg base CX0 (k+1) f fd ["book","state"] (spD K bE):=by
 refine aD Fn ja jW ?_ jZ
 intro cdv A outer s H E hr
 refine au ?_
 refine az ?_
 refine al C_turned hr ?_
 refine ab (ac 0) ?_
 refine ab ?_ af
 refine al C_counted hr ?_
 refine ab (ac 0) ?_
 refine ab (ac 1) ?_
 refine ab ?_ af
 exact al C_turn_tick hr (ab (ac 0) (ab (ac 1) af))
abbrev eU:Stmt:=top 66
theorem sc_stretches:FnScope ["book","state","many","turn"] ["book","state","many"] (defScope eU):=⟨rfl,rfl,rfl,by decide +kernel,rfl,by decide +kernel,by decide +kernel⟩
theorem lj {P:Program} {w:World} {K:PySem.W.Frag} {mg:Str->Option Value} {base:Heap} {k:Nat} (C_behind_turn:Cal P w K mg base k "behind_turn" ["book","state"] bE) (C_turn_tick:Cal P w K mg base k "turn_tick" ["book","state"] bP) {f:Addr} {fd:FuncData} (Fn:Fun K "stretches" "stretches" eU f fd):FnOk P w K mg base CX0 (k+1) f fd ["book","state","many"] (spD K b_):=by
 refine aD Fn sc_stretches mF ?_ mz
 intro cdv A outer s H E hr
 refine ar ?_ ?_
 ·refine aF ?_ ?_
  ·exact al C_turn_tick hr (ab (ac 0) (ab (ac 1) af))
  exact ak 3 sc_stretches.nd
 refine ar ?_ ?_
 ·refine ci ?_ ?_ aS
  ·refine eF ?_
   refine ju ?_ ?_
   ·exact aH fK (ac 3) aT
   refine gJ ?_
   exact aH dX (ac 3) (ac 2)
  refine au ?_
  refine az ?_
  refine kT ?_
  refine ab ?_ af
  exact av (ab ae (ab (ac 1) (ab (ac 2) af)))
 refine au ?_
 refine az ?_
 refine kT ?_
 refine ab ?_ ?_
 ·exact av (ab ae (ab (ac 1) (ab (ac 3) af)))
 refine ab ?_ af
 refine av ?_
 refine ab (ac 3) ?_
 refine ab ?_ ?_
 ·exact al C_behind_turn hr (ab (ac 0) (ab (ac 1) af))
 refine ab ?_ af
 exact ai bJ (ac 2) (ac 3)
abbrev jp:Stmt:=top 67
theorem sc_ticked:FnScope ["book","state","many","last"] ["book","state","many"] (defScope jp):=⟨rfl,rfl,rfl,by decide +kernel,rfl,by decide +kernel,by decide +kernel⟩
theorem qm {P:Program} {w:World} {K:PySem.W.Frag} {mg:Str->Option Value} {base:Heap} {k:Nat} (C_counted:Cal P w K mg base k "counted" ["book","state","many"] cg) (C_stretches:Cal P w K mg base k "stretches" ["book","state","many"] b_) {f:Addr} {fd:FuncData} (Fn:Fun K "ticked" "ticked" jp f fd):FnOk P w K mg base CX0 (k+1) f fd ["book","state","many"] (spD K dA):=by
 refine aD Fn sc_ticked rn ?_ rQ
 intro cdv A outer s H E hr
 refine ar ?_ ?_
 ·refine aF ?_ ?_
  ·refine ag ?_ ?_
   ·exact al C_stretches hr (ab (ac 0) (ab (ac 1) (ab (ac 2) af)))
   exact uv tB ae
  exact ak 3 sc_ticked.nd
 refine au ?_
 refine az ?_
 refine al C_counted hr ?_
 refine ab (ac 0) ?_
 exact ab (ag (ac 3) ae) (ab (ag (ac 3) ae) af)
abbrev nX:Stmt:=top 69
theorem sD:FnScope ["book","state","event"] ["book","state","event"] (defScope nX):=⟨rfl,rfl,rfl,by decide +kernel,rfl,by decide +kernel,by decide +kernel⟩
theorem sN {P:Program} {w:World} {K:PySem.W.Frag} {mg:Str->Option Value} {base:Heap} {k:Nat} (C_let_go:Cal P w K mg base k "let_go" ["book","state","button"] dB) (C_pushed:Cal P w K mg base k "pushed" ["state","button"] dH) (C_ticked:Cal P w K mg base k "ticked" ["book","state","many"] dA) {f:Addr} {fd:FuncData} (Fn:Fun K "gone" "gone" nX f fd):FnOk P w K mg base CX0 (k+1) f fd ["book","state","event"] (spD K cP):=by
 refine aD Fn sD t_ ?_ tS
 intro cdv A outer s H E hr
 refine ar ?_ ?_
 ·refine ci ?_ ?_ aS
  ·exact aH (bM hr) (ag (ac 2) ae) aj
  refine au ?_
  refine az ?_
  exact al C_pushed hr (ab (ac 1) (ab (ag (ac 2) ae) af))
 refine ar ?_ ?_
 ·refine ci ?_ ?_ aS
  ·exact aH (bM hr) (ag (ac 2) ae) aj
  refine au ?_
  refine az ?_
  refine al C_let_go hr ?_
  exact ab (ac 0) (ab (ac 1) (ab (ag (ac 2) ae) af))
 refine au ?_
 refine az ?_
 refine al C_ticked hr ?_
 exact ab (ac 0) (ab (ac 1) (ab (ag (ac 2) ae) af))
abbrev lv:Stmt:=top 75
theorem sc_after:FnScope ["book","state","row","event"] ["book","state","row"] (defScope lv):=⟨rfl,rfl,rfl,by decide +kernel,rfl,by decide +kernel,by decide +kernel⟩
theorem rC {P:Program} {w:World} {K:PySem.W.Frag} {mg:Str->Option Value} {base:Heap} {k:Nat} (C_gone:Cal P w K mg base k "gone" ["book","state","event"] cP) {f:Addr} {fd:FuncData} (Fn:Fun K "after" "after" lv f fd):FnOk P w K mg base CX0 (k+1) f fd ["book","state","row"] (spD K ej):=by
 refine aD Fn sc_after sE ?_ sk
 intro cdv A outer s H E hr
 refine ar ?_ ?_
 ·refine oD PassesOwn.never rfl ?_ ?_ ?_
  ·exact kJ (ac 2)
  ·exact ak 3 sc_after.nd
  refine au ?_
  refine aF ?_ ?_
  ·exact al C_gone hr (ab (ac 0) (ab (ac 1) (ab (ac 3) af)))
  exact ak 1 sc_after.nd
 refine au ?_
 exact az (ac 1)
abbrev fR:Stmt:=top 1
theorem lX:FnScope ["thing"] ["thing"] (defScope fR):=⟨rfl,rfl,rfl,by decide +kernel,rfl,by decide +kernel,by decide +kernel⟩
theorem lO {P:Program} {w:World} {K:PySem.W.Frag} {mg:Str->Option Value} {base:Heap} {k:Nat} (m_bool:mg "bool" = none) (m_isinstance:mg "isinstance" = none) {f:Addr} {fd:FuncData} (Fn:Fun K "is_truth" "is_truth" fR f fd):FnOk P w K mg base CX0 (k+1) f fd ["thing"] (spD K bH):=by
 refine aD Fn lX nc ?_ ou
 intro cdv A outer s H E hr
 refine au ?_
 refine az ?_
 exact du m_isinstance m_bool (ac 0)
abbrev dO:Stmt:=top 6
theorem jl:FnScope ["thing","many"] ["thing","many"] (defScope dO):=⟨rfl,rfl,rfl,by decide +kernel,rfl,by decide +kernel,by decide +kernel⟩
theorem i_ {P:Program} {w:World} {K:PySem.W.Frag} {mg:Str->Option Value} {base:Heap} {k:Nat} (m_isinstance:mg "isinstance" = none) (m_len:mg "len" = none) (m_tuple:mg "tuple" = none) {f:Addr} {fd:FuncData} (Fn:Fun K "is_tuple_of" "is_tuple_of" dO f fd):FnOk P w K mg base CX0 (k+1) f fd ["thing","many"] (spD K aL):=by
 refine aD Fn jl jQ ?_ jY
 intro cdv A outer s H E hr
 refine au ?_
 refine az ?_
 refine bf ?_ ?_
 ·exact du m_isinstance m_tuple (ac 0)
 refine bU ?_
 refine bo (bM hr) ?_ (ac 1)
 exact bh ib m_len (ab (ac 0) af)
abbrev f_:Stmt:=top 2
theorem mL:FnScope ["thing"] ["thing"] (defScope f_):=⟨rfl,rfl,rfl,by decide +kernel,rfl,by decide +kernel,by decide +kernel⟩
theorem mO {P:Program} {w:World} {K:PySem.W.Frag} {mg:Str->Option Value} {base:Heap} {k:Nat} (m_bool:mg "bool" = none) (m_int:mg "int" = none) (m_isinstance:mg "isinstance" = none) {f:Addr} {fd:FuncData} (Fn:Fun K "is_whole" "is_whole" f_ f fd):FnOk P w K mg base CX0 (k+1) f fd ["thing"] (spD K cF):=by
 refine aD Fn mL ow ?_ mV
 intro cdv A outer s H E hr
 refine au ?_
 refine az ?_
 refine bf ?_ ?_
 ·exact du m_isinstance m_int (ac 0)
 refine bU ?_
 refine d_ ?_
 exact du m_isinstance m_bool (ac 0)
abbrev ij:Stmt:=top 3
theorem ng:FnScope ["thing","least"] ["thing","least"] (defScope ij):=⟨rfl,rfl,rfl,by decide +kernel,rfl,by decide +kernel,by decide +kernel⟩
theorem oa {P:Program} {w:World} {K:PySem.W.Frag} {mg:Str->Option Value} {base:Heap} {k:Nat} (C_is_whole:Cal P w K mg base k "is_whole" ["thing"] cF) {f:Addr} {fd:FuncData} (Fn:Fun K "is_from" "is_from" ij f fd):FnOk P w K mg base CX0 (k+1) f fd ["thing","least"] (spD K bp):=by
 refine aD Fn ng pC ?_ qf
 intro cdv A outer s H E hr
 refine au ?_
 refine az ?_
 refine bf ?_ ?_
 ·exact al C_is_whole hr (ab (ac 0) af)
 refine bU ?_
 exact bo pc (ac 1) (ac 0)
abbrev eN:Stmt:=top 4
theorem la:FnScope ["thing","least","most"] ["thing","least","most"] (defScope eN):=⟨rfl,rfl,rfl,by decide +kernel,rfl,by decide +kernel,by decide +kernel⟩
theorem kC {P:Program} {w:World} {K:PySem.W.Frag} {mg:Str->Option Value} {base:Heap} {k:Nat} (C_is_from:Cal P w K mg base k "is_from" ["thing","least"] bp) {f:Addr} {fd:FuncData} (Fn:Fun K "is_within" "is_within" eN f fd):FnOk P w K mg base CX0 (k+1) f fd ["thing","least","most"] (spD K aI):=by
 refine aD Fn la mw ?_ mH
 intro cdv A outer s H E hr
 refine au ?_
 refine az ?_
 refine bf ?_ ?_
 ·exact al C_is_from hr (ab (ac 0) (ab (ac 1) af))
 refine bU ?_
 exact bo pc (ac 0) (ac 2)
abbrev fW:Stmt:=top 24
theorem mq:FnScope ["thing"] ["thing"] (defScope fW):=⟨rfl,rfl,rfl,by decide +kernel,rfl,by decide +kernel,by decide +kernel⟩
theorem mh {P:Program} {w:World} {K:PySem.W.Frag} {mg:Str->Option Value} {base:Heap} {k:Nat} (C_is_truth:Cal P w K mg base k "is_truth" ["thing"] bH) (C_is_tuple_of:Cal P w K mg base k "is_tuple_of" ["thing","many"] aL) (C_is_within:Cal P w K mg base k "is_within" ["thing","least","most"] aI) {f:Addr} {fd:FuncData} (Fn:Fun K "is_alarm" "is_alarm" fW f fd):FnOk P w K mg base CX0 (k+1) f fd ["thing"] (spD K cA):=by
 refine aD Fn mq ot ?_ nv
 intro cdv A outer s H E hr
 refine ar ?_ ?_
 ·refine ci ?_ ?_ aS
  ·refine cN ?_
   refine bK ?_
   exact al C_is_tuple_of hr (ab (ac 0) (ab ae af))
  refine au ?_
  exact az cT
 refine au ?_
 refine az ?_
 refine bf ?_ ?_
 ·refine al C_is_within hr ?_
  exact ab (ag (ac 0) ae) (ab ae (ab ae af))
 refine bf ?_ ?_
 ·refine al C_is_within hr ?_
  exact ab (ag (ac 0) ae) (ab ae (ab ae af))
 refine bU ?_
 exact al C_is_truth hr (ab (ag (ac 0) ae) af)
abbrev cD:Stmt:=top 28
theorem fG:FnScope ["left","runs"] ["left","runs"] (defScope cD):=⟨rfl,rfl,rfl,by decide +kernel,rfl,by decide +kernel,by decide +kernel⟩
theorem fH {P:Program} {w:World} {K:PySem.W.Frag} {mg:Str->Option Value} {base:Heap} {k:Nat} (C_is_truth:Cal P w K mg base k "is_truth" ["thing"] bH) (C_is_within:Cal P w K mg base k "is_within" ["thing","least","most"] aI) (c_MOST_LEFT:Con K mg "MOST_LEFT" eX) {f:Addr} {fd:FuncData} (Fn:Fun K "is_left_and_runs" "is_left_and_runs" cD f fd):FnOk P w K mg base CX0 (k+1) f fd ["left","runs"] (spD K aZ):=by
 refine aD Fn fG fT ?_ fQ
 intro cdv A outer s H E hr
 refine ar ?_ ?_
 ·refine ci ?_ ?_ aS
  ·refine eF ?_
   refine ju ?_ ?_
   ·refine cN ?_
    refine bK ?_
    refine al C_is_within hr ?_
    exact ab (ac 0) (ab ae (ab (ax c_MOST_LEFT) af))
   refine gJ ?_
   refine cN ?_
   refine bK ?_
   exact al C_is_truth hr (ab (ac 1) af)
  refine au ?_
  exact az cT
 refine au ?_
 refine az ?_
 refine sY ?_ ?_
 ·exact bo dX (ac 0) ae
 refine bU ?_
 exact d_ (ac 1)
abbrev fY:Stmt:=top 27
theorem my:FnScope ["thing"] ["thing"] (defScope fY):=⟨rfl,rfl,rfl,by decide +kernel,rfl,by decide +kernel,by decide +kernel⟩
theorem ly {P:Program} {w:World} {K:PySem.W.Frag} {mg:Str->Option Value} {base:Heap} {k:Nat} (C_is_left_and_runs:Cal P w K mg base k "is_left_and_runs" ["left","runs"] aZ) (C_is_tuple_of:Cal P w K mg base k "is_tuple_of" ["thing","many"] aL) (C_is_within:Cal P w K mg base k "is_within" ["thing","least","most"] aI) {f:Addr} {fd:FuncData} (Fn:Fun K "is_count" "is_count" fY f fd):FnOk P w K mg base CX0 (k+1) f fd ["thing"] (spD K cG):=by
 refine aD Fn my oq ?_ nu
 intro cdv A outer s H E hr
 refine ar ?_ ?_
 ·refine ci ?_ ?_ aS
  ·refine cN ?_
   refine bK ?_
   exact al C_is_tuple_of hr (ab (ac 0) (ab ae af))
  refine au ?_
  exact az cT
 refine au ?_
 refine az ?_
 refine bf ?_ ?_
 ·refine al C_is_within hr ?_
  exact ab (ag (ac 0) ae) (ab ae (ab ae af))
 refine bf ?_ ?_
 ·refine al C_is_within hr ?_
  exact ab (ag (ac 0) ae) (ab ae (ab ae af))
 refine bU ?_
 refine al C_is_left_and_runs hr ?_
 exact ab (ag (ac 0) ae) (ab (ag (ac 0) ae) af)
abbrev dU:Stmt:=top 30
theorem jK:FnScope ["ticks","hold"] ["ticks","hold"] (defScope dU):=⟨rfl,rfl,rfl,by decide +kernel,rfl,by decide +kernel,by decide +kernel⟩
theorem jw {P:Program} {w:World} {K:PySem.W.Frag} {mg:Str->Option Value} {base:Heap} {k:Nat} (C_is_within:Cal P w K mg base k "is_within" ["thing","least","most"] aI) {f:Addr} {fd:FuncData} (Fn:Fun K "is_held_for" "is_held_for" dU f fd):FnOk P w K mg base CX0 (k+1) f fd ["ticks","hold"] (spD K bR):=by
 refine aD Fn jK j7 ?_ jV
 intro cdv A outer s H E hr
 refine au ?_
 refine az ?_
 refine sY ?_ ?_
 ·exact bo fK (ac 0) aT
 refine bU ?_
 refine al C_is_within hr ?_
 refine ab (ac 0) ?_
 refine ab ae ?_
 refine ab ?_ af
 exact ai bJ (ac 1) ae
abbrev eW:Stmt:=top 5
theorem lg:FnScope ["thing","words"] ["thing","words"] (defScope eW):=⟨rfl,rfl,rfl,by decide +kernel,rfl,by decide +kernel,by decide +kernel⟩
theorem kH {P:Program} {w:World} {K:PySem.W.Frag} {mg:Str->Option Value} {base:Heap} {k:Nat} (m_isinstance:mg "isinstance" = none) (m_str:mg "str" = none) {f:Addr} {fd:FuncData} (Fn:Fun K "is_one_of" "is_one_of" eW f fd):FnOk P w K mg base CX0 (k+1) f fd ["thing","words"] (spD K cb):=by
 refine aD Fn lg lK ?_ mv
 intro cdv A outer s H E hr
 refine au ?_
 refine az ?_
 refine bf ?_ ?_
 ·exact du m_isinstance m_str (ac 0)
 refine bU ?_
 exact bo s_ (ac 0) (ac 1)
abbrev gX:Stmt:=top 29
theorem oe:FnScope ["thing","hold"] ["thing","hold"] (defScope gX):=⟨rfl,rfl,rfl,by decide +kernel,rfl,by decide +kernel,by decide +kernel⟩
theorem nO {P:Program} {w:World} {K:PySem.W.Frag} {mg:Str->Option Value} {base:Heap} {k:Nat} (C_is_held_for:Cal P w K mg base k "is_held_for" ["ticks","hold"] bR) (C_is_one_of:Cal P w K mg base k "is_one_of" ["thing","words"] cb) (C_is_tuple_of:Cal P w K mg base k "is_tuple_of" ["thing","many"] aL) (c_BUTTONS:Con K mg "BUTTONS" fw) {f:Addr} {fd:FuncData} (Fn:Fun K "is_held" "is_held" gX f fd):FnOk P w K mg base CX0 (k+1) f fd ["thing","hold"] (spD K db):=by
 refine aD Fn oe qz ?_ qc
 intro cdv A outer s H E hr
 refine ar ?_ ?_
 ·refine ci ?_ ?_ aS
  ·exact aH fK (ac 0) aT
  refine au ?_
  exact az cT
 refine au ?_
 refine az ?_
 refine bf ?_ ?_
 ·exact al C_is_tuple_of hr (ab (ac 0) (ab ae af))
 refine bf ?_ ?_
 ·refine al C_is_one_of hr ?_
  exact ab (ag (ac 0) ae) (ab (ax c_BUTTONS) af)
 refine bU ?_
 exact al C_is_held_for hr (ab (ag (ac 0) ae) (ab (ac 1) af))
abbrev gP:Stmt:=top 31
theorem nK:FnScope ["thing","back"] ["thing","back"] (defScope gP):=⟨rfl,rfl,rfl,by decide +kernel,rfl,by decide +kernel,by decide +kernel⟩
theorem ox {P:Program} {w:World} {K:PySem.W.Frag} {mg:Str->Option Value} {base:Heap} {k:Nat} (C_is_within:Cal P w K mg base k "is_within" ["thing","least","most"] aI) {f:Addr} {fd:FuncData} (Fn:Fun K "is_idle" "is_idle" gP f fd):FnOk P w K mg base CX0 (k+1) f fd ["thing","back"] (spD K da):=by
 refine aD Fn nK qt ?_ pK
 intro cdv A outer s H E hr
 refine ar ?_ ?_
 ·refine ci ?_ ?_ aS
  ·exact aH (bM hr) (ac 1) ae
  refine au ?_
  refine az ?_
  exact al C_is_within hr (ab (ac 0) (ab ae (ab ae af)))
 refine au ?_
 refine az ?_
 refine al C_is_within hr ?_
 refine ab (ac 0) ?_
 refine ab ae ?_
 refine ab ?_ af
 exact ai bJ (ac 1) ae
abbrev gW:Stmt:=top 26
theorem nS:FnScope ["thing"] ["thing"] (defScope gW):=⟨rfl,rfl,rfl,by decide +kernel,rfl,by decide +kernel,by decide +kernel⟩
theorem oo {P:Program} {w:World} {K:PySem.W.Frag} {mg:Str->Option Value} {base:Heap} {k:Nat} (C_is_from:Cal P w K mg base k "is_from" ["thing","least"] bp) (m_all:mg "all" = none) (m_isinstance:mg "isinstance" = none) (m_len:mg "len" = none) (m_tuple:mg "tuple" = none) (c_MOST_KEPT:Con K mg "MOST_KEPT" di) {f:Addr} {fd:FuncData} (Fn:Fun K "is_kept" "is_kept" gW f fd):FnOk P w K mg base CX0 (k+1) f fd ["thing"] (spD K df):=by
 refine aD Fn nS qe ?_ pW
 intro cdv A outer s H E hr
 refine ar ?_ ?_
 ·refine ci ?_ ?_ aS
  ·refine eF ?_
   refine ju ?_ ?_
   ·refine cN ?_
    refine bK ?_
    exact du m_isinstance m_tuple (ac 0)
   refine gJ ?_
   refine aH dX ?_ (ax c_MOST_KEPT)
   exact bh ib m_len (ab (ac 0) af)
  refine au ?_
  exact az cT
 refine au ?_
 refine az ?_
 refine bh (ua rfl) m_all ?_
 refine ab ?_ af
 refine lN (T:=["part"]) rfl ?_ ?_ ?_ ?_ (front_set (by decide)) (show List.Nodup ((["part"]:List Str)++(["thing"]:List Str)) from by decide +kernel)
 ·exact kJ (ac 0)
 ·intro C s₃ H₃ fp
  exact ak 0 (show List.Nodup (["part" ,"thing"]:List Str) from by decide +kernel)
 ·intro C s₃ H₃ fp
  exact jd
 intro C s₃ H₃ fp
 exact al C_is_from hr (ab (ac 0) (ab ae af))
abbrev gT:Stmt:=top 25
theorem nA:FnScope ["thing"] ["thing"] (defScope gT):=⟨rfl,rfl,rfl,by decide +kernel,rfl,by decide +kernel,by decide +kernel⟩
theorem om {P:Program} {w:World} {K:PySem.W.Frag} {mg:Str->Option Value} {base:Heap} {k:Nat} (C_is_from:Cal P w K mg base k "is_from" ["thing","least"] bp) (C_is_kept:Cal P w K mg base k "is_kept" ["thing"] df) (C_is_truth:Cal P w K mg base k "is_truth" ["thing"] bH) (C_is_tuple_of:Cal P w K mg base k "is_tuple_of" ["thing","many"] aL) {f:Addr} {fd:FuncData} (Fn:Fun K "is_laps" "is_laps" gT f fd):FnOk P w K mg base CX0 (k+1) f fd ["thing"] (spD K cX):=by
 refine aD Fn nA pZ ?_ pA
 intro cdv A outer s H E hr
 refine ar ?_ ?_
 ·refine ci ?_ ?_ aS
  ·refine cN ?_
   refine bK ?_
   exact al C_is_tuple_of hr (ab (ac 0) (ab ae af))
  refine au ?_
  exact az cT
 refine au ?_
 refine az ?_
 refine bf ?_ ?_
 ·exact al C_is_from hr (ab (ag (ac 0) ae) (ab ae af))
 refine bf ?_ ?_
 ·exact al C_is_truth hr (ab (ag (ac 0) ae) af)
 refine bU ?_
 exact al C_is_kept hr (ab (ag (ac 0) ae) af)
abbrev ga:Stmt:=top 23
theorem lS:FnScope ["book","thing"] ["book","thing"] (defScope ga):=⟨rfl,rfl,rfl,by decide +kernel,rfl,by decide +kernel,by decide +kernel⟩
theorem lx {P:Program} {w:World} {K:PySem.W.Frag} {mg:Str->Option Value} {base:Heap} {k:Nat} (C_is_alarm:Cal P w K mg base k "is_alarm" ["thing"] cA) (C_is_count:Cal P w K mg base k "is_count" ["thing"] cG) (C_is_held:Cal P w K mg base k "is_held" ["thing","hold"] db) (C_is_idle:Cal P w K mg base k "is_idle" ["thing","back"] da) (C_is_laps:Cal P w K mg base k "is_laps" ["thing"] cX) (C_is_tuple_of:Cal P w K mg base k "is_tuple_of" ["thing","many"] aL) (C_is_within:Cal P w K mg base k "is_within" ["thing","least","most"] aI) (m_len:mg "len" = none) (c_ALARM:Con K mg "ALARM" bB) (c_CLOCK:Con K mg "CLOCK" br) (c_COUNT:Con K mg "COUNT" bc) (c_FULL_RING:Con K mg "FULL_RING" dj) (c_HELD:Con K mg "HELD" bu) (c_IDLE:Con K mg "IDLE" c_) (c_LAPS:Con K mg "LAPS" cu) (c_LAST_SECOND:Con K mg "LAST_SECOND" dR) (c_MODE:Con K mg "MODE" cy) (c_RING:Con K mg "RING" eQ) {f:Addr} {fd:FuncData} (Fn:Fun K "is_state" "is_state" ga f fd):FnOk P w K mg base CX0 (k+1) f fd ["book","thing"] (spD K cE):=by
 refine aD Fn lS mY ?_ nT
 intro cdv A outer s H E hr
 refine ar ?_ ?_
 ·refine ci ?_ ?_ aS
  ·refine cN ?_
   refine bK ?_
   exact al C_is_tuple_of hr (ab (ac 1) (ab ae af))
  refine au ?_
  exact az cT
 refine au ?_
 refine az ?_
 refine bf ?_ ?_
 ·refine al C_is_within hr ?_
  refine ab (ag (ac 1) (ax c_MODE)) ?_
  refine ab ae ?_
  refine ab ?_ af
  refine ai bJ ?_ ae
  exact bh ib m_len (ab (ag (ac 0) ae) af)
 refine bf ?_ ?_
 ·refine al C_is_within hr ?_
  exact ab (ag (ac 1) (ax c_CLOCK)) (ab ae (ab (ax c_LAST_SECOND) af))
 refine bf ?_ ?_
 ·exact al C_is_alarm hr (ab (ag (ac 1) (ax c_ALARM)) af)
 refine bf ?_ ?_
 ·exact al C_is_laps hr (ab (ag (ac 1) (ax c_LAPS)) af)
 refine bf ?_ ?_
 ·exact al C_is_count hr (ab (ag (ac 1) (ax c_COUNT)) af)
 refine bf ?_ ?_
 ·refine al C_is_within hr ?_
  exact ab (ag (ac 1) (ax c_RING)) (ab ae (ab (ax c_FULL_RING) af))
 refine bf ?_ ?_
 ·refine al C_is_held hr ?_
  exact ab (ag (ac 1) (ax c_HELD)) (ab (ag (ac 0) ae) af)
 refine bU ?_
 refine al C_is_idle hr ?_
 exact ab (ag (ac 1) (ax c_IDLE)) (ab (ag (ac 0) ae) af)
abbrev h_:Stmt:=top 90
theorem nt:FnScope ["_law_now_here"] ["_law_now_here"] (defScope h_):=⟨rfl,rfl,rfl,by decide +kernel,rfl,by decide +kernel,by decide +kernel⟩
theorem nU {P:Program} {w:World} {K:PySem.W.Frag} {mg:Str->Option Value} {base:Heap} {k:Nat} (m_tuple:mg "tuple" = none) {f:Addr} {fd:FuncData} (Fn:Fun K "_law_of" "_law_of" h_ f fd):FnOk P w K mg base CX0 (k+1) f fd ["_law_now_here"] (spD K (bW)):=by
 refine aD Fn nt (pw) ?_ (qC)
 intro cdv A outer s H E hr
 refine au ?_
 refine az ?_
 refine cO jn m_tuple ?_
 refine ab ?_ af
 refine lN (T:=["_law_word"]) rfl ?_ ?_ ?_ ?_ (front_set (by decide)) (show List.Nodup ((["_law_word"]:List Str)++(["_law_now_here"]:List Str)) from by decide +kernel)
 ·refine kJ ?_
  refine av ?_
  refine ab aj ?_
  refine ab aj ?_
  refine ab aj ?_
  refine ab aj ?_
  exact ab aj (ab aj (ab aj (ab aj af)))
 ·intro C s₃ H₃ fp
  exact ak 0 (show List.Nodup (["_law_word" ,"_law_now_here"]:List Str) from by decide +kernel)
 ·intro C s₃ H₃ fp
  exact jd
 intro C s₃ H₃ fp
 exact aR (hu_of hr) (ac 1) (ac 0)
abbrev ii:Stmt:=top 84
theorem na:FnScope ["_law_number","_law_last"] ["_law_number","_law_last"] (defScope ii):=⟨rfl,rfl,rfl,by decide +kernel,rfl,by decide +kernel,by decide +kernel⟩
theorem mU {P:Program} {w:World} {K:PySem.W.Frag} {mg:Str->Option Value} {base:Heap} {k:Nat} {f:Addr} {fd:FuncData} (Fn:Fun K "_law_up" "_law_up" ii f fd):FnOk P w K mg base CX0 (k+1) f fd ["_law_number","_law_last"] (spD K bL):=by
 refine aD Fn na p_ ?_ pI
 intro cdv A outer s H E hr
 refine au ?_
 refine az ?_
 refine ai aB ?_ ?_
 ·exact ai aG (ac 0) ae
 exact ai aG (ac 1) ae
abbrev fi:Stmt:=top 85
theorem sc__law_deed:FnScope ["_law_now_here","_law_deed_here","_law_clock","_law_hour","_law_minute","_law_is_on","_law_many","_law_runs","_law_kept","_law_second","_law_left","_law_rows"] ["_law_now_here","_law_deed_here"] (defScope fi):=⟨rfl,rfl,rfl,by decide +kernel,rfl,by decide +kernel,by decide +kernel⟩
theorem kF {P:Program} {w:World} {K:PySem.W.Frag} {mg:Str->Option Value} {base:Heap} {k:Nat} (C__law_up:Cal P w K mg base k "_law_up" ["_law_number","_law_last"] bL) (m_int:mg "int" = none) {f:Addr} {fd:FuncData} (Fn:Fun K "_law_deed" "_law_deed" fi f fd):FnOk P w K mg base CX0 (k+1) f fd ["_law_now_here","_law_deed_here"] (spM K 0 (cK)):=by
 refine iT (j:=0) Fn sc__law_deed ?_
 intro cdv A outer s H E hr
 refine aA ?_ ?_
 ·refine bq ?_
  refine aF ?_ ?_
  ·exact aR (hu_of hr) (ac 0) aj
  exact ak 2 sc__law_deed.nd
 refine aA ?_ ?_
 ·refine cH ?_ ?_ bN
  ·exact aH (bM hr) (ac 1) aj
  refine aN ?_
  refine a_ 0 (hu_of hr) aj ?_
  refine ai aB ?_ ae
  exact ai aG (ac 2) ae
 refine aA ?_ ?_
 ·refine cH ?_ ?_ bN
  ·exact aH (bM hr) (ac 1) aj
  refine aN ?_
  refine a_ 0 (hu_of hr) aj ?_
  refine ai bJ ?_ ?_
  ·exact ai aG (ac 2) ae
  refine ai cj ae ?_
  refine cO gU m_int ?_
  refine ab ?_ af
  refine bo (bM hr) ?_ ae
  refine ai aB ?_ ae
  exact ai ba (ac 2) ae
 refine aA ?_ ?_
 ·refine cH ?_ ?_ bN
  ·exact aH (bM hr) (ac 1) aj
  refine aN ?_
  refine a_ 0 (hu_of hr) aj ?_
  refine ai bJ (ac 2) ?_
  exact ai aB (ac 2) ae
 refine aA ?_ ?_
 ·refine bq ?_
  refine aF ?_ ?_
  ·exact aR (hu_of hr) (ac 0) aj
  refine ft rfl ?_
  refine aQ ?_ ?_
  ·exact ak 3 sc__law_deed.nd
  refine aQ ?_ ?_
  ·exact ak 4 sc__law_deed.nd
  refine aQ ?_ dM
  exact ak 5 sc__law_deed.nd
 refine rL 0 11 sc__law_deed.nd (hu_of hr) aj ?_ aj ?_ aj ?_ aj (ac 1) ?_ ?_
 ·refine av ?_
  refine ab ?_ (ab (ac 4) (ab (ac 5) af))
  exact al C__law_up hr (ab (ac 3) (ab ae af))
 ·refine av ?_
  refine ab (ac 3) ?_
  refine ab ?_ (ab (ac 5) af)
  exact al C__law_up hr (ab (ac 4) (ab ae af))
 ·refine av ?_
  refine ab (ac 3) ?_
  refine ab (ac 4) ?_
  refine ab ?_ af
  exact d_ (ac 5)
 ·exact aR (hu_of hr) (ac 0) aj
 refine aA ?_ ?_
 ·refine bq ?_
  refine aF ?_ ?_
  ·exact aR (hu_of hr) (ac 0) aj
  refine ft rfl ?_
  refine aQ ?_ ?_
  ·exact ak 6 sc__law_deed.nd
  refine aQ ?_ ?_
  ·exact ak 7 sc__law_deed.nd
  refine aQ ?_ dM
  exact ak 8 sc__law_deed.nd
 refine aA ?_ ?_
 ·refine cH ?_ ?_ bN
  ·exact aH (bM hr) (ac 1) aj
  refine aN ?_
  refine a_ 0 (hu_of hr) aj ?_
  refine av ?_
  refine ab (ac 6) ?_
  refine ab ?_ (ab (ac 8) af)
  exact d_ (ac 7)
 refine aA ?_ ?_
 ·refine cH ?_ ?_ bN
  ·exact aH (bM hr) (ac 1) aj
  refine aN ?_
  refine a_ 0 (hu_of hr) aj ?_
  refine ag ?_ ?_
  ·refine kT ?_
   refine ab ?_ ?_
   ·refine av ?_
    refine ab ae ?_
    refine ab cT ?_
    refine ab ?_ af
    exact av af
   refine ab ?_ af
   refine av ?_
   refine ab (ac 6) ?_
   refine ab (ac 7) ?_
   refine ab ?_ af
   refine gf ?_ lc ?_
   ·refine ai aG (ac 8) ?_
    exact av (ab (ac 6) af)
   exact gA ae
  exact cO gU m_int (ab (ac 7) af)
 refine aA ?_ ?_
 ·refine bq ?_
  refine aF ?_ ?_
  ·exact aR (hu_of hr) (ac 0) aj
  refine ft rfl ?_
  refine aQ ?_ ?_
  ·exact ak 4 sc__law_deed.nd
  refine aQ ?_ ?_
  ·exact ak 9 sc__law_deed.nd
  refine aQ ?_ ?_
  ·exact ak 10 sc__law_deed.nd
  refine aQ ?_ dM
  exact ak 7 sc__law_deed.nd
 refine aA ?_ ?_
 ·refine cH ?_ ?_ bN
  ·exact aH (bM hr) (ac 1) aj
  refine aN ?_
  refine a_ 0 (hu_of hr) aj ?_
  refine av ?_
  refine ab (ac 4) ?_
  refine ab (ac 9) ?_
  refine ab (ac 10) ?_
  refine ab ?_ af
  refine bf ?_ ?_
  ·exact d_ (ac 7)
  refine bU ?_
  exact bo dX (ac 10) ae
 refine aN ?_
 refine cH ?_ ?_ bN
 ·refine eF ?_
  refine gY ?_ ?_
  ·refine aH s_ (ac 1) ?_
   exact av (ab aj (ab aj (ab aj af)))
  refine fB ?_
  refine cN ?_
  exact bK (ac 7)
 refine aA ?_ ?_
 ·refine bq ?_
  refine aF ?_ ?_
  ·refine ai aB ?_ ae
   refine ai aG (ac 4) ?_
   refine cO gU m_int ?_
   refine ab ?_ af
   exact bo (bM hr) (ac 1) aj
  exact ak 4 sc__law_deed.nd
 refine aA ?_ ?_
 ·refine bq ?_
  refine aF ?_ ?_
  ·refine ai aB ?_ ae
   refine ai aG (ac 9) ?_
   refine cO gU m_int ?_
   refine ab ?_ af
   exact bo (bM hr) (ac 1) aj
  exact ak 9 sc__law_deed.nd
 refine aN ?_
 refine a_ 0 (hu_of hr) aj ?_
 refine av ?_
 refine ab (ac 4) ?_
 refine ab (ac 9) ?_
 refine ab ?_ (ab cT af)
 refine ai aG ?_ (ac 9)
 exact ai cj ae (ac 4)
abbrev et:Stmt:=top 86
theorem sc__law_press:FnScope ["_law_book_here","_law_now_here","_law_press_here","_law_deed_here","_law_goal"] ["_law_book_here","_law_now_here","_law_press_here"] (defScope et):=⟨rfl,rfl,rfl,by decide +kernel,rfl,by decide +kernel,by decide +kernel⟩
theorem jS {P:Program} {w:World} {K:PySem.W.Frag} {mg:Str->Option Value} {base:Heap} {k:Nat} (C__law_deed:CalM P w K mg base k "_law_deed" ["_law_now_here","_law_deed_here"] 0 (cK)) {f:Addr} {fd:FuncData} (Fn:Fun K "_law_press" "_law_press" et f fd):FnOk P w K mg base CX0 (k+1) f fd ["_law_book_here","_law_now_here","_law_press_here"] (spM K 1 (bj)):=by
 refine iT (j:=1) Fn sc__law_press ?_
 intro cdv A outer s H E hr
 refine aA ?_ ?_
 ·refine bq ?_
  refine aF ?_ ?_
  ·refine ag ?_ ?_
   ·refine ag ?_ ae
    refine ag (ag (ac 0) ae) ?_
    exact aR (hu_of hr) (ac 1) aj
   exact sx aj (ab (ac 2) af)
  refine ft rfl ?_
  refine aQ ?_ ?_
  ·exact ak 3 sc__law_press.nd
  refine aQ ?_ dM
  exact ak 4 sc__law_press.nd
 refine aA ?_ ?_
 ·exact fz 1 C__law_deed hr (ab (ac 1) (ab (ac 3) af)) pick0
 refine aA ?_ ?_
 ·exact a_ 1 (hu_of hr) aj (ac 4)
 refine aN ?_
 refine kD 1 (hu_of hr) aj ?_
 refine av ?_
 refine ab ?_ (ab (ac 2) af)
 exact aR (hu_of hr) (ac 1) aj
abbrev eP:Stmt:=top 87
theorem sc__law_tick:FnScope ["_law_book_here","_law_now_here","_law_many","_law_runs","_law_kept","_law_minute","_law_second","_law_left","_law_begins","_law_hour","_law_is_on","_law_button","_law_ticks"] ["_law_book_here","_law_now_here"] (defScope eP):=⟨rfl,rfl,rfl,by decide +kernel,rfl,by decide +kernel,by decide +kernel⟩
theorem kP {P:Program} {w:World} {K:PySem.W.Frag} {mg:Str->Option Value} {base:Heap} {k:Nat} (m_int:mg "int" = none) (m_max:mg "max" = none) (C__law_press:CalM P w K mg base k "_law_press" ["_law_book_here","_law_now_here","_law_press_here"] 1 (bj)) {f:Addr} {fd:FuncData} (Fn:Fun K "_law_tick" "_law_tick" eP f fd):FnOk P w K mg base CX0 (k+1) f fd ["_law_book_here","_law_now_here"] (spM K 1 (bX)):=by
 refine iT (j:=1) Fn sc__law_tick ?_
 intro cdv A outer s H E hr
 refine aA ?_ ?_
 ·refine a_ 1 (hu_of hr) aj ?_
  refine ai aG ?_ ae
  exact aR (hu_of hr) (ac 1) aj
 refine aA ?_ ?_
 ·refine a_ 1 (hu_of hr) aj ?_
  refine ai aB ?_ ae
  refine ai aG ?_ ae
  exact aR (hu_of hr) (ac 1) aj
 refine aA ?_ ?_
 ·refine a_ 1 (hu_of hr) aj ?_
  refine bh (fV rfl) m_max ?_
  refine ab ae ?_
  refine ab ?_ af
  refine ai bJ ?_ ae
  exact aR (hu_of hr) (ac 1) aj
 refine aA ?_ ?_
 ·refine bq ?_
  refine aF ?_ ?_
  ·exact aR (hu_of hr) (ac 1) aj
  refine ft rfl ?_
  refine aQ ?_ ?_
  ·exact ak 2 sc__law_tick.nd
  refine aQ ?_ ?_
  ·exact ak 3 sc__law_tick.nd
  refine aQ ?_ dM
  exact ak 4 sc__law_tick.nd
 refine aA ?_ ?_
 ·refine a_ 1 (hu_of hr) aj ?_
  refine av ?_
  refine ab ?_ (ab (ac 3) (ab (ac 4) af))
  refine ai aG (ac 2) ?_
  exact cO gU m_int (ab (ac 3) af)
 refine aA ?_ ?_
 ·refine bq ?_
  refine aF ?_ ?_
  ·exact aR (hu_of hr) (ac 1) aj
  refine ft rfl ?_
  refine aQ ?_ ?_
  ·exact ak 5 sc__law_tick.nd
  refine aQ ?_ ?_
  ·exact ak 6 sc__law_tick.nd
  refine aQ ?_ ?_
  ·exact ak 7 sc__law_tick.nd
  refine aQ ?_ dM
  exact ak 3 sc__law_tick.nd
 refine aA ?_ ?_
 ·refine bq ?_
  refine aF ?_ ?_
  ·refine bf (ac 3) ?_
   refine bU ?_
   exact bo (bM hr) (ac 7) ae
  exact ak 8 sc__law_tick.nd
 refine aA ?_ ?_
 ·refine cH ?_ ?_ bN
  ·exact bK (ac 3)
  refine aN ?_
  refine a_ 1 (hu_of hr) aj ?_
  refine av ?_
  refine ab (ac 5) ?_
  refine ab (ac 6) ?_
  refine ab ?_ ?_
  ·exact ai bJ (ac 7) ae
  refine ab ?_ af
  exact bo dX (ac 7) ae
 refine aA ?_ ?_
 ·refine bq ?_
  refine aF ?_ ?_
  ·exact aR (hu_of hr) (ac 1) aj
  refine ft rfl ?_
  refine aQ ?_ ?_
  ·exact ak 9 sc__law_tick.nd
  refine aQ ?_ ?_
  ·exact ak 5 sc__law_tick.nd
  refine aQ ?_ dM
  exact ak 10 sc__law_tick.nd
 refine aA ?_ ?_
 ·refine bq ?_
  refine ci ?_ ?_ aS
  ·refine eF ?_
   refine gY ?_ ?_
   ·exact bK (ac 10)
   refine fB ?_
   refine aH (bM hr) ?_ ?_
   ·exact aR (hu_of hr) (ac 1) aj
   refine ai aG ?_ ?_
   ·exact ai cj ae (ac 9)
   exact ai cj ae (ac 5)
  refine au ?_
  refine aF cT ?_
  exact ak 8 sc__law_tick.nd
 refine aA ?_ ?_
 ·refine cH ?_ ?_ bN
  ·exact bK (ac 8)
  refine aA ?_ ?_
  ·exact a_ 1 (hu_of hr) aj ae
  refine aN ?_
  refine kD 1 (hu_of hr) aj ?_
  refine av ?_
  refine ab ?_ (ab aj af)
  exact aR (hu_of hr) (ac 1) aj
 refine aN ?_
 refine cH ?_ ?_ ?_
 ·refine aH cq ?_ aT
  exact aR (hu_of hr) (ac 1) aj
 ·refine aA ?_ ?_
  ·refine bq ?_
   refine aF ?_ ?_
   ·exact aR (hu_of hr) (ac 1) aj
   refine ft rfl ?_
   refine aQ ?_ ?_
   ·exact ak 11 sc__law_tick.nd
   refine aQ ?_ dM
   exact ak 12 sc__law_tick.nd
  refine aN ?_
  refine cH ?_ ?_ bN
  ·exact aH cq (ac 12) aT
  refine aA ?_ ?_
  ·refine a_ 1 (hu_of hr) aj ?_
   refine av ?_
   refine ab (ac 11) ?_
   refine ab ?_ af
   exact ai aG (ac 12) ae
  refine aN ?_
  refine cH ?_ ?_ bN
  ·refine aH (bM hr) ?_ (ag (ac 0) ae)
   exact ai aG (ac 12) ae
  refine aA ?_ ?_
  ·refine a_ 1 (hu_of hr) aj ?_
   exact av (ab (ac 11) (ab aT af))
  refine aN ?_
  refine fz 1 C__law_press hr ?_ pick1
  refine ab (ac 0) ?_
  refine ab (ac 1) ?_
  refine ab ?_ af
  exact sZ (ac 11)
 refine aN ?_
 refine cH ?_ ?_ bN
 ·exact aH dX (ag (ac 0) ae) ae
 refine aA ?_ ?_
 ·refine a_ 1 (hu_of hr) aj ?_
  refine ai aG ?_ ae
  exact aR (hu_of hr) (ac 1) aj
 refine aN ?_
 refine cH ?_ ?_ bN
 ·refine aH (bM hr) ?_ (ag (ac 0) ae)
  exact aR (hu_of hr) (ac 1) aj
 refine aA ?_ ?_
 ·exact a_ 1 (hu_of hr) aj ae
 refine aN ?_
 refine cH ?_ ?_ bN
 ·refine eF ?_
  refine gY ?_ ?_
  ·refine aH (oM hr) ?_ ae
   exact aR (hu_of hr) (ac 1) aj
  refine fB ?_
  refine cN ?_
  refine bK ?_
  refine ag ?_ ae
  refine ag (ag (ac 0) ae) ?_
  exact aR (hu_of hr) (ac 1) aj
 refine aA ?_ ?_
 ·exact a_ 1 (hu_of hr) aj ae
 refine aN ?_
 refine kD 1 (hu_of hr) aj ?_
 refine av ?_
 refine ab ?_ (ab aj af)
 exact aR (hu_of hr) (ac 1) aj
abbrev dP:Stmt:=top 88
theorem sc__law_happen:FnScope ["_law_book_here","_law_now_here","_law_event_here","_law_turn"] ["_law_book_here","_law_now_here","_law_event_here"] (defScope dP):=⟨rfl,rfl,rfl,by decide +kernel,rfl,by decide +kernel,by decide +kernel⟩
theorem jj {P:Program} {w:World} {K:PySem.W.Frag} {mg:Str->Option Value} {base:Heap} {k:Nat} (m_int:mg "int" = none) (m_range:mg "range" = none) (C__law_press:CalM P w K mg base k "_law_press" ["_law_book_here","_law_now_here","_law_press_here"] 1 (bj)) (C__law_tick:CalM P w K mg base k "_law_tick" ["_law_book_here","_law_now_here"] 1 (bX)) {f:Addr} {fd:FuncData} (Fn:Fun K "_law_happen" "_law_happen" dP f fd):FnOk P w K mg base CX0 (k+1) f fd ["_law_book_here","_law_now_here","_law_event_here"] (spM K 1 (aO)):=by
 refine iT (j:=1) Fn sc__law_happen ?_
 intro cdv A outer s H E hr
 refine aN ?_
 refine cH ?_ ?_ ?_
 ·exact aH (bM hr) (ag (ac 2) ae) aj
 ·refine aN ?_
  refine nD PassesOwn.never rfl ?_ ?_ ?_
  ·exact q_ m_range (ag (ac 2) ae)
  ·exact ak 3 sc__law_happen.nd
  refine aN ?_
  exact fz 1 C__law_tick hr (ab (ac 0) (ab (ac 1) af)) pick1
 refine aN ?_
 refine cH ?_ ?_ ?_
 ·exact aH (bM hr) (ag (ac 2) ae) aj
 ·refine aN ?_
  refine cH ?_ ?_ bN
  ·refine aH fK ?_ aT
   exact aR (hu_of hr) (ac 1) aj
  refine aA ?_ ?_
  ·exact a_ 1 (hu_of hr) aj ae
  refine aA ?_ ?_
  ·refine a_ 1 (hu_of hr) aj ?_
   refine av ?_
   refine ab (ag (ac 2) ae) ?_
   refine ab ?_ af
   refine ag ?_ ?_
   ·exact kT (ab ae (ab aT af))
   refine cO gU m_int ?_
   refine ab ?_ af
   refine bo dX ?_ ae
   exact aR (hu_of hr) (ac 1) aj
  refine aN ?_
  exact a_ 1 (hu_of hr) aj ae
 refine aN ?_
 refine cH ?_ ?_ bN
 ·refine eF ?_
  refine gY ?_ ?_
  ·refine aH cq ?_ aT
   exact aR (hu_of hr) (ac 1) aj
  refine fB ?_
  refine aH (bM hr) ?_ (ag (ac 2) ae)
  refine ag ?_ ae
  exact aR (hu_of hr) (ac 1) aj
 refine aA ?_ ?_
 ·refine cH ?_ ?_ bN
  ·refine aH cq ?_ aT
   refine ag ?_ ae
   exact aR (hu_of hr) (ac 1) aj
  refine aN ?_
  refine fz 1 C__law_press hr ?_ pick1
  exact ab (ac 0) (ab (ac 1) (ab (ag (ac 2) ae) af))
 refine aA ?_ ?_
 ·exact a_ 1 (hu_of hr) aj aT
 refine aN ?_
 exact a_ 1 (hu_of hr) aj ae
abbrev fL:Stmt:=top 89
theorem sc__law_now:FnScope ["_law_state_here","_law_words","_law_now_here"] ["_law_state_here"] (defScope fL):=⟨rfl,rfl,rfl,by decide +kernel,rfl,by decide +kernel,by decide +kernel⟩
theorem lA {P:Program} {w:World} {K:PySem.W.Frag} {mg:Str->Option Value} {base:Heap} {k:Nat} (m_dict:mg "dict" = none) (m_zip:mg "zip" = none) {f:Addr} {fd:FuncData} (Fn:Fun K "_law_now" "_law_now" fL f fd):FnOk P w K mg base CX0 (k+1) f fd ["_law_state_here"] (spN K bY):=by
 refine sP Fn sc__law_now ?_
 intro cdv A outer s H E hr
 refine sJ ?_ (tK 2 sc__law_now.nd (hu_of hr) rfl m_dict m_zip (ac 1) (ac 0) aj ae aj)
 refine aF ?_ ?_
 ·refine av ?_
  refine ab aj ?_
  refine ab aj ?_
  refine ab aj ?_
  refine ab aj ?_
  exact ab aj (ab aj (ab aj (ab aj af)))
 exact ak 1 sc__law_now.nd
abbrev gD:Stmt:=top 91
theorem sc_law:FnScope ["_law_script","_law_book_here","_law_state_here","_law_first","_law_now_here","_law_row_here","_law_event_here","_law_deeds","_law_deed_here","_law_little"] ["_law_script"] (defScope gD):=⟨rfl,rfl,rfl,by decide +kernel,rfl,by decide +kernel,by decide +kernel⟩
theorem tP {P:Program} {w:World} {K:PySem.W.Frag} {mg:Str->Option Value} {base:Heap} {k:Nat} (C__law_book:Cal P w K mg base k "_law_book" ["_law_number"] ca) (C__law_mixed:Cal P w K mg base k "_law_mixed" ["_law_script","_law_k"] bA) (C__law_row:Cal P w K mg base k "_law_row" ["_law_number","_law_most"] cx) (C__law_state:Cal P w K mg base k "_law_state" ["_law_book_here","_law_number"] bT) (C_after:Cal P w K mg base k "after" ["book","state","row"] ej) (C_gone:Cal P w K mg base k "gone" ["book","state","event"] cP) (C_is_state:Cal P w K mg base k "is_state" ["book","thing"] cE) (m_repr:mg "repr" = none) (C__law_of:Cal P w K mg base k "_law_of" ["_law_now_here"] (bW)) (C__law_now:CalN P w K mg base k "_law_now" ["_law_state_here"] bY) (C__law_happen:CalM P w K mg base k "_law_happen" ["_law_book_here","_law_now_here","_law_event_here"] 1 (aO)) {f:Addr} {fd:FuncData} (Fn:Fun K "law" "law" gD f fd):FnOk P w K mg base CX0 (k+1) f fd ["_law_script"] (spD K jD):=by
 refine aD Fn sc_law uq ?_ um
 intro cdv A outer s H E hr
 refine ar ?_ ?_
 ·refine aF ?_ ?_
  ·refine al C__law_book hr ?_
   refine ab ?_ af
   exact al C__law_mixed hr (ab (ac 0) (ab ae af))
  exact ak 1 sc_law.nd
 refine ar ?_ ?_
 ·refine aF ?_ ?_
  ·refine al C__law_state hr ?_
   refine ab (ac 1) ?_
   refine ab ?_ af
   exact al C__law_mixed hr (ab (ac 0) (ab ae af))
  exact ak 2 sc_law.nd
 refine ar ?_ ?_
 ·refine aF (ac 2) ?_
  exact ak 3 sc_law.nd
 refine rh 4 sc_law.nd C__law_now hr (ab (ac 2) af) ?_ oR
 refine aA ?_ ?_
 ·refine bq ?_
  refine aF ?_ ?_
  ·refine al C__law_row hr ?_
   refine ab ?_ (ab ae af)
   exact al C__law_mixed hr (ab (ac 0) (ab ae af))
  exact ak 5 sc_law.nd
 refine aA ?_ ?_
 ·refine nD PassesOwn.never rfl ?_ ?_ ?_
  ·exact oN (ac 5)
  ·exact ak 6 sc_law.nd
  refine aA ?_ ?_
  ·refine bq ?_
   refine aF ?_ ?_
   ·exact al C_gone hr (ab (ac 1) (ab (ac 2) (ab (ac 6) af)))
   exact ak 2 sc_law.nd
  refine aA ?_ ?_
  ·exact fz 4 C__law_happen hr (ab (ac 1) (ab (ac 4) (ab (ac 6) af))) pick1
  refine aN ?_
  refine bq ?_
  refine ci ?_ ?_ aS
  ·refine eF ?_
   refine ju ?_ ?_
   ·refine aH (rR hr) (ac 2) ?_
    exact al C__law_of hr (ab (ac 4) af)
   refine ju ?_ ?_
   ·refine aH (oM hr) ?_ ?_
    ·exact bh (iS hr) m_repr (ab (ac 2) af)
    refine bh (iS hr) m_repr ?_
    refine ab ?_ af
    exact al C__law_of hr (ab (ac 4) af)
   refine gJ ?_
   refine cN ?_
   refine bK ?_
   exact al C_is_state hr (ab (ac 1) (ab (ac 2) af))
  refine au ?_
  exact az cT
 refine aA ?_ ?_
 ·refine bq ?_
  refine ci ?_ ?_ aS
  ·refine aH (rR hr) ?_ (ac 2)
   exact al C_after hr (ab (ac 1) (ab (ac 3) (ab (ac 5) af)))
  refine au ?_
  exact az cT
 refine aA ?_ ?_
 ·refine bq ?_
  refine aF ?_ ?_
  ·refine av ?_
   refine ab aj ?_
   refine ab aj ?_
   refine ab aj ?_
   refine ab aj ?_
   refine ab aj ?_
   refine ab aj ?_
   refine ab aj ?_
   refine ab aj ?_
   exact ab aj (ab aj (ab aj (ab aj af)))
  exact ak 7 sc_law.nd
 refine rH 4 ?_
 refine rJ ?_
 refine ar ?_ ?_
 ·refine oD PassesOwn.never rfl ?_ ?_ ?_
  ·refine kJ ?_
   refine ai aG (ac 7) ?_
   exact av (ab aj af)
  ·exact ak 8 sc_law.nd
  refine ar ?_ ?_
  ·refine aF ?_ ?_
   ·refine av ?_
    refine ab (ag (ac 1) ae) ?_
    refine ab ae ?_
    refine ab ?_ af
    refine av ?_
    refine ab ?_ af
    refine av ?_
    refine ab aj ?_
    refine ab cT ?_
    refine ab ?_ af
    refine ai aG ?_ ?_
    ·refine av ?_
     refine ab ?_ af
     exact av (ab (ac 8) (ab ae af))
    refine ai sO ?_ ae
    refine av ?_
    refine ab ?_ af
    exact av (ab aj (ab ae af))
   exact ak 9 sc_law.nd
  refine ar ?_ ?_
  ·refine aF ?_ ?_
   ·refine ai aG ?_ ?_
    ·refine ai aG ?_ ?_
     ·exact av (ab ae af)
     refine gf (ac 3) ?_ ?_
     ·exact gA ae
     exact gA ae
    exact av (ab ae (ab aT (ab ae af)))
   exact ak 2 sc_law.nd
  refine rh 4 sc_law.nd C__law_now hr (ab (ac 2) af) ?_ oR
  refine aA ?_ ?_
  ·refine nD PassesOwn.never rfl ?_ ?_ ?_
   ·refine oN ?_
    refine av ?_
    refine ab ?_ ?_
    ·exact av (ab aj (ab aj af))
    refine ab ?_ af
    exact av (ab aj (ab aj af))
   ·exact ak 6 sc_law.nd
   refine aA ?_ ?_
   ·refine bq ?_
    refine aF ?_ ?_
    ·exact al C_gone hr (ab (ac 9) (ab (ac 2) (ab (ac 6) af)))
    exact ak 2 sc_law.nd
   refine aN ?_
   exact fz 4 C__law_happen hr (ab (ac 9) (ab (ac 4) (ab (ac 6) af))) pick1
  refine aN ?_
  refine bq ?_
  refine ci ?_ ?_ aS
  ·refine aH (oM hr) ?_ ?_
   ·exact bh (iS hr) m_repr (ab (ac 2) af)
   refine bh (iS hr) m_repr ?_
   refine ab ?_ af
   exact al C__law_of hr (ab (ac 4) af)
  refine au ?_
  exact az cT
 refine au ?_
 exact az cT
end HW
namespace HW
open PySem PySem.Spec PyProof.Rows L2
theorem reps_ints (K:PySem.W.Frag) (H:Hp):∀ ns:List Int,Reps K H (ns.map .int) (ns.map V.int)
 | []=>rfl
 | n::ns=>⟨.int n,_,rfl,rfl,reps_ints K H ns⟩
theorem all_mk {l:PySem.W.OpenLaw} {w:World} {K:PySem.W.Frag} {h:Heap} {mg:Str->Option Value} {fa:Addr}
  {f68:Addr} {od68 an68:Option Addr} {sl68:Array (Option Value)} {oc68 kV68 dc68 pm68 cd68 ct68:Value}
  {t0_ALARM:Tok}
  {qa_BUTTONS:Addr} {qn_BUTTONS:Nat} {qs_BUTTONS:Array (Option Value)} {t0_BUTTONS t1_BUTTONS t2_BUTTONS:Tok}
  {t0_CLOCK:Tok}
  {t0_COUNT:Tok}
  {t0_DAY:Tok}
  {t0_FULL_RING:Tok}
  {t0_HELD:Tok}
  {t0_IDLE:Tok}
  {t0_LAPS:Tok}
  {t0_LAST_SECOND:Tok}
  {t0_MODE:Tok}
  {t0_MOST_KEPT:Tok}
  {t0_MOST_LEFT:Tok}
  {t0_RING:Tok}
  {qa_PRESSES:Addr} {qn_PRESSES:Nat} {qs_PRESSES:Array (Option Value)} {t0_PRESSES t1_PRESSES t2_PRESSES t3_PRESSES t4_PRESSES t5_PRESSES:Tok}
  {qa_STEPS:Addr} {qn_STEPS:Nat} {tt0_STEPS tt1_STEPS tt2_STEPS tt3_STEPS tt4_STEPS tt5_STEPS tt6_STEPS tt7_STEPS tt8_STEPS tt9_STEPS tt10_STEPS tt11_STEPS tt12_STEPS:Tok}
  {f0 f1 f2 f3 f4 f5 f6 f7 f8 f9 f10 f11 f12 f13 f14 f15 f16 f17 f18 f19 f20 f21 f22 f23 f24 f25 f26 f27 f28 f29 f30 f31 f32 f33 f34 f35 f36 f37 f38 f39 f40 f41 f42 f43 f44 f45 f46 f47 f48 f49 f50 f51 f52 f53 f54 f55 f56 f57 f58 f59 f60 f61 f62 f63 f64 f65 f66 f67:Addr}
  (X:K.In h) (G:h.Ns mainGlobals mg) (hfa:mg "law" = some (.ref fa))
  (a0:Fn4 K "_law_drawn" ek f0)
  (a1:Fn4 K "_law_book" eR f1)
  (a2:Fn4 K "_law_cell_at" dw f2)
  (a3:Fn4 K "_law_mixed" el f3)
  (a4:Fn4 K "_law_event" eg f4)
  (a5:Fn4 K "_law_row" fM f5)
  (a6:Fn4 K "_law_state" eA f6)
  (a7:Fn4 K "is_holding" en f7)
  (a8:Fn4 K "is_short" fU f8)
  (a9:Fn4 K "put" qM f9)
  (a10:Fn4 K "alarm_hour_on" dk f10)
  (a11:Fn4 K "alarm_minute_on" cU f11)
  (a12:Fn4 K "alarm_turned" dD f12)
  (a13:Fn4 K "set_to" jy f13)
  (a14:Fn4 K "count_minute_on" cQ f14)
  (a15:Fn4 K "count_second_on" cS f15)
  (a16:Fn4 K "count_turned" dJ f16)
  (a17:Fn4 K "filled" js f17)
  (a18:Fn4 K "hour_on" ik f18)
  (a19:Fn4 K "lap_kept" fS f19)
  (a20:Fn4 K "laps_turned" dN f20)
  (a21:Fn4 K "minute_on" eT f21)
  (a22:Fn4 K "nothing" hW f22)
  (a23:Fn4 K "to_zero" gQ f23)
  (a24:Fn4 K "press_done" dY f24)
  (a25:Fn4 K "let_go" ji f25)
  (a26:Fn4 K "pushed" jL f26)
  (a27:Fn4 K "count_on" fZ f27)
  (a28:Fn4 K "held_on" gN f28)
  (a29:Fn4 K "ticks_to_back" dm f29)
  (a30:Fn4 K "idle_on" gK f30)
  (a31:Fn4 K "laps_on" gO f31)
  (a32:Fn4 K "alarm_tick" ed f32)
  (a33:Fn4 K "count_tick" eB f33)
  (a34:Fn4 K "last_ring" fr f34)
  (a35:Fn4 K "ring_on" gZ f35)
  (a36:Fn4 K "counted" hX f36)
  (a37:Fn4 K "goes_back" fq f37)
  (a38:Fn4 K "ticks_to_long" dn f38)
  (a39:Fn4 K "turn_tick" fj f39)
  (a40:Fn4 K "turned" jb f40)
  (a41:Fn4 K "behind_turn" dQ f41)
  (a42:Fn4 K "stretches" eU f42)
  (a43:Fn4 K "ticked" jp f43)
  (a44:Fn4 K "gone" nX f44)
  (a45:Fn4 K "after" lv f45)
  (a46:Fn4 K "is_truth" fR f46)
  (a47:Fn4 K "is_tuple_of" dO f47)
  (a48:Fn4 K "is_whole" f_ f48)
  (a49:Fn4 K "is_from" ij f49)
  (a50:Fn4 K "is_within" eN f50)
  (a51:Fn4 K "is_alarm" fW f51)
  (a52:Fn4 K "is_left_and_runs" cD f52)
  (a53:Fn4 K "is_count" fY f53)
  (a54:Fn4 K "is_held_for" dU f54)
  (a55:Fn4 K "is_one_of" eW f55)
  (a56:Fn4 K "is_held" gX f56)
  (a57:Fn4 K "is_idle" gP f57)
  (a58:Fn4 K "is_kept" gW f58)
  (a59:Fn4 K "is_laps" gT f59)
  (a60:Fn4 K "is_state" ga f60)
  (a61:Fn4 K "_law_of" h_ f61)
  (a62:Fn4 K "_law_up" ii f62)
  (a63:Fn4 K "_law_deed" fi f63)
  (a64:Fn4 K "_law_press" et f64)
  (a65:Fn4 K "_law_tick" eP f65)
  (a66:Fn4 K "_law_happen" dP f66)
  (a67:Fn4 K "_law_now" fL f67)
  (a68:PySem.W.nsIn K mainGlobals "law" = some (some (.ref f68))) (l68:K.lookup f68=some ⟨oc68,od68,.func (PySem.W.fnOf "law" "law" (defArgs gD) (defBody gD) (defScope gD) .none kV68 dc68 pm68 an68 cd68 ct68),sl68⟩) (c68:PySem.W.codeIn K cd68 "law" = true) (k68:PySem.W.keepIn K (.ref f68)=true)
  (z_all:PySem.W.nsIn K mainGlobals "all" = some none)
  (z_bool:PySem.W.nsIn K mainGlobals "bool" = some none)
  (z_dict:PySem.W.nsIn K mainGlobals "dict" = some none)
  (z_int:PySem.W.nsIn K mainGlobals "int" = some none)
  (z_isinstance:PySem.W.nsIn K mainGlobals "isinstance" = some none)
  (z_len:PySem.W.nsIn K mainGlobals "len" = some none)
  (z_max:PySem.W.nsIn K mainGlobals "max" = some none)
  (z_range:PySem.W.nsIn K mainGlobals "range" = some none)
  (z_repr:PySem.W.nsIn K mainGlobals "repr" = some none)
  (z_str:PySem.W.nsIn K mainGlobals "str" = some none)
  (z_tuple:PySem.W.nsIn K mainGlobals "tuple" = some none)
  (z_zip:PySem.W.nsIn K mainGlobals "zip" = some none)
  (q_ALARM:PySem.W.nsIn K mainGlobals "ALARM" = some (some (.int 2 t0_ALARM)))
  (q_BUTTONS:PySem.W.nsIn K mainGlobals "BUTTONS" = some (some (.ref qa_BUTTONS))) (r_BUTTONS:K.lookup qa_BUTTONS=some ⟨.type "tuple",none,.seq #[.str (Str.ofString "a") t0_BUTTONS,.str (Str.ofString "b") t1_BUTTONS,.str (Str.ofString "c") t2_BUTTONS] qn_BUTTONS,qs_BUTTONS⟩)
  (q_CLOCK:PySem.W.nsIn K mainGlobals "CLOCK" = some (some (.int 1 t0_CLOCK)))
  (q_COUNT:PySem.W.nsIn K mainGlobals "COUNT" = some (some (.int 4 t0_COUNT)))
  (q_DAY:PySem.W.nsIn K mainGlobals "DAY" = some (some (.int 86400 t0_DAY)))
  (q_FULL_RING:PySem.W.nsIn K mainGlobals "FULL_RING" = some (some (.int 10 t0_FULL_RING)))
  (q_HELD:PySem.W.nsIn K mainGlobals "HELD" = some (some (.int 6 t0_HELD)))
  (q_IDLE:PySem.W.nsIn K mainGlobals "IDLE" = some (some (.int 7 t0_IDLE)))
  (q_LAPS:PySem.W.nsIn K mainGlobals "LAPS" = some (some (.int 3 t0_LAPS)))
  (q_LAST_SECOND:PySem.W.nsIn K mainGlobals "LAST_SECOND" = some (some (.int 86399 t0_LAST_SECOND)))
  (q_MODE:PySem.W.nsIn K mainGlobals "MODE" = some (some (.int 0 t0_MODE)))
  (q_MOST_KEPT:PySem.W.nsIn K mainGlobals "MOST_KEPT" = some (some (.int 4 t0_MOST_KEPT)))
  (q_MOST_LEFT:PySem.W.nsIn K mainGlobals "MOST_LEFT" = some (some (.int 3599 t0_MOST_LEFT)))
  (q_RING:PySem.W.nsIn K mainGlobals "RING" = some (some (.int 5 t0_RING)))
  (q_PRESSES:PySem.W.nsIn K mainGlobals "PRESSES" = some (some (.ref qa_PRESSES)))
  (rs_PRESSES:K.lookup qa_PRESSES=some ⟨.type "tuple",none,.seq #[.str (Str.ofString "a") t0_PRESSES,.str (Str.ofString "b") t1_PRESSES,.str (Str.ofString "c") t2_PRESSES,.str (Str.ofString "A") t3_PRESSES,.str (Str.ofString "B") t4_PRESSES,.str (Str.ofString "C") t5_PRESSES] qn_PRESSES,qs_PRESSES⟩)
  (q_STEPS:PySem.W.nsIn K mainGlobals "STEPS" = some (some (.ref qa_STEPS)))
  (r_STEPS:K.lookup qa_STEPS=some ⟨.type "dict",none,.dict (entries w [(Str.ofString "none",tt0_STEPS,.ref f22),(Str.ofString "hour",tt1_STEPS,.ref f18),(Str.ofString "minute",tt2_STEPS,.ref f21),(Str.ofString "zero",tt3_STEPS,.ref f23),(Str.ofString "ahour",tt4_STEPS,.ref f10),(Str.ofString "aminute",tt5_STEPS,.ref f11),(Str.ofString "alarm",tt6_STEPS,.ref f12),(Str.ofString "run",tt7_STEPS,.ref f20),(Str.ofString "lap",tt8_STEPS,.ref f19),(Str.ofString "cminute",tt9_STEPS,.ref f14),(Str.ofString "csecond",tt10_STEPS,.ref f15),(Str.ofString "full",tt11_STEPS,.ref f17),(Str.ofString "count",tt12_STEPS,.ref f16)]).toArray qn_STEPS,#[]⟩) :
  ∃ fd:FuncData,(∀ (s:Shared) (v:Value),BindsTo s fd ⟨[v],[]⟩ [("_law_script",v)])/\∀ base:Heap,K.In base->base.Ns mainGlobals mg->FnOk l.prog w K mg base CX0 11 fa fd ["_law_script"] (spD K jD):=by
 have e:=hfa.symm.trans (PySem.W.mg_of X G a68)
 cases e
 obtain ⟨d0,F0,a0⟩:=fn4 a0
 have b0:=F0.binds (ps:=["_law_number","_law_k"]) fun _ _ _ _ _ _ us hl=>by obtain ⟨x0,x1,rfl⟩:=ln2 (us:=us) hl;rfl
 have g0:=PySem.W.mg_of X G a0
 obtain ⟨d1,F1,a1⟩:=fn4 a1
 have b1:=F1.binds (ps:=["_law_number"]) fun _ _ _ _ _ _ us hl=>by obtain ⟨x0,rfl⟩:=ln1 (us:=us) hl;rfl
 have g1:=PySem.W.mg_of X G a1
 obtain ⟨d2,F2,a2⟩:=fn4 a2
 have b2:=F2.binds (ps:=["_law_script","_law_k"]) fun _ _ _ _ _ _ us hl=>by obtain ⟨x0,x1,rfl⟩:=ln2 (us:=us) hl;rfl
 have g2:=PySem.W.mg_of X G a2
 obtain ⟨d3,F3,a3⟩:=fn4 a3
 have b3:=F3.binds (ps:=["_law_script","_law_k"]) fun _ _ _ _ _ _ us hl=>by obtain ⟨x0,x1,rfl⟩:=ln2 (us:=us) hl;rfl
 have g3:=PySem.W.mg_of X G a3
 obtain ⟨d4,F4,a4⟩:=fn4 a4
 have b4:=F4.binds (ps:=["_law_number"]) fun _ _ _ _ _ _ us hl=>by obtain ⟨x0,rfl⟩:=ln1 (us:=us) hl;rfl
 have g4:=PySem.W.mg_of X G a4
 obtain ⟨d5,F5,a5⟩:=fn4 a5
 have b5:=F5.binds (ps:=["_law_number","_law_most"]) fun _ _ _ _ _ _ us hl=>by obtain ⟨x0,x1,rfl⟩:=ln2 (us:=us) hl;rfl
 have g5:=PySem.W.mg_of X G a5
 obtain ⟨d6,F6,a6⟩:=fn4 a6
 have b6:=F6.binds (ps:=["_law_book_here","_law_number"]) fun _ _ _ _ _ _ us hl=>by obtain ⟨x0,x1,rfl⟩:=ln2 (us:=us) hl;rfl
 have g6:=PySem.W.mg_of X G a6
 obtain ⟨d7,F7,a7⟩:=fn4 a7
 have b7:=F7.binds (ps:=["state","button"]) fun _ _ _ _ _ _ us hl=>by obtain ⟨x0,x1,rfl⟩:=ln2 (us:=us) hl;rfl
 have g7:=PySem.W.mg_of X G a7
 obtain ⟨d8,F8,a8⟩:=fn4 a8
 have b8:=F8.binds (ps:=["state","button"]) fun _ _ _ _ _ _ us hl=>by obtain ⟨x0,x1,rfl⟩:=ln2 (us:=us) hl;rfl
 have g8:=PySem.W.mg_of X G a8
 obtain ⟨d9,F9,a9⟩:=fn4 a9
 have b9:=F9.binds (ps:=["state","place","part"]) fun _ _ _ _ _ _ us hl=>by obtain ⟨x0,x1,x2,rfl⟩:=ln3 (us:=us) hl;rfl
 have g9:=PySem.W.mg_of X G a9
 obtain ⟨d10,F10,a10⟩:=fn4 a10
 have b10:=F10.binds (ps:=["state"]) fun _ _ _ _ _ _ us hl=>by obtain ⟨x0,rfl⟩:=ln1 (us:=us) hl;rfl
 have g10:=PySem.W.mg_of X G a10
 obtain ⟨d11,F11,a11⟩:=fn4 a11
 have b11:=F11.binds (ps:=["state"]) fun _ _ _ _ _ _ us hl=>by obtain ⟨x0,rfl⟩:=ln1 (us:=us) hl;rfl
 have g11:=PySem.W.mg_of X G a11
 obtain ⟨d12,F12,a12⟩:=fn4 a12
 have b12:=F12.binds (ps:=["state"]) fun _ _ _ _ _ _ us hl=>by obtain ⟨x0,rfl⟩:=ln1 (us:=us) hl;rfl
 have g12:=PySem.W.mg_of X G a12
 obtain ⟨d13,F13,a13⟩:=fn4 a13
 have b13:=F13.binds (ps:=["state","minute","second"]) fun _ _ _ _ _ _ us hl=>by obtain ⟨x0,x1,x2,rfl⟩:=ln3 (us:=us) hl;rfl
 have g13:=PySem.W.mg_of X G a13
 obtain ⟨d14,F14,a14⟩:=fn4 a14
 have b14:=F14.binds (ps:=["state"]) fun _ _ _ _ _ _ us hl=>by obtain ⟨x0,rfl⟩:=ln1 (us:=us) hl;rfl
 have g14:=PySem.W.mg_of X G a14
 obtain ⟨d15,F15,a15⟩:=fn4 a15
 have b15:=F15.binds (ps:=["state"]) fun _ _ _ _ _ _ us hl=>by obtain ⟨x0,rfl⟩:=ln1 (us:=us) hl;rfl
 have g15:=PySem.W.mg_of X G a15
 obtain ⟨d16,F16,a16⟩:=fn4 a16
 have b16:=F16.binds (ps:=["state"]) fun _ _ _ _ _ _ us hl=>by obtain ⟨x0,rfl⟩:=ln1 (us:=us) hl;rfl
 have g16:=PySem.W.mg_of X G a16
 obtain ⟨d17,F17,a17⟩:=fn4 a17
 have b17:=F17.binds (ps:=["state"]) fun _ _ _ _ _ _ us hl=>by obtain ⟨x0,rfl⟩:=ln1 (us:=us) hl;rfl
 have g17:=PySem.W.mg_of X G a17
 obtain ⟨d18,F18,a18⟩:=fn4 a18
 have b18:=F18.binds (ps:=["state"]) fun _ _ _ _ _ _ us hl=>by obtain ⟨x0,rfl⟩:=ln1 (us:=us) hl;rfl
 have g18:=PySem.W.mg_of X G a18
 obtain ⟨d19,F19,a19⟩:=fn4 a19
 have b19:=F19.binds (ps:=["state"]) fun _ _ _ _ _ _ us hl=>by obtain ⟨x0,rfl⟩:=ln1 (us:=us) hl;rfl
 have g19:=PySem.W.mg_of X G a19
 obtain ⟨d20,F20,a20⟩:=fn4 a20
 have b20:=F20.binds (ps:=["state"]) fun _ _ _ _ _ _ us hl=>by obtain ⟨x0,rfl⟩:=ln1 (us:=us) hl;rfl
 have g20:=PySem.W.mg_of X G a20
 obtain ⟨d21,F21,a21⟩:=fn4 a21
 have b21:=F21.binds (ps:=["state"]) fun _ _ _ _ _ _ us hl=>by obtain ⟨x0,rfl⟩:=ln1 (us:=us) hl;rfl
 have g21:=PySem.W.mg_of X G a21
 obtain ⟨d22,F22,a22⟩:=fn4 a22
 have b22:=F22.binds (ps:=["state"]) fun _ _ _ _ _ _ us hl=>by obtain ⟨x0,rfl⟩:=ln1 (us:=us) hl;rfl
 have g22:=PySem.W.mg_of X G a22
 obtain ⟨d23,F23,a23⟩:=fn4 a23
 have b23:=F23.binds (ps:=["state"]) fun _ _ _ _ _ _ us hl=>by obtain ⟨x0,rfl⟩:=ln1 (us:=us) hl;rfl
 have g23:=PySem.W.mg_of X G a23
 obtain ⟨d24,F24,a24⟩:=fn4 a24
 have b24:=F24.binds (ps:=["book","state","press"]) fun _ _ _ _ _ _ us hl=>by obtain ⟨x0,x1,x2,rfl⟩:=ln3 (us:=us) hl;rfl
 have g24:=PySem.W.mg_of X G a24
 obtain ⟨d25,F25,a25⟩:=fn4 a25
 have b25:=F25.binds (ps:=["book","state","button"]) fun _ _ _ _ _ _ us hl=>by obtain ⟨x0,x1,x2,rfl⟩:=ln3 (us:=us) hl;rfl
 have g25:=PySem.W.mg_of X G a25
 obtain ⟨d26,F26,a26⟩:=fn4 a26
 have b26:=F26.binds (ps:=["state","button"]) fun _ _ _ _ _ _ us hl=>by obtain ⟨x0,x1,rfl⟩:=ln2 (us:=us) hl;rfl
 have g26:=PySem.W.mg_of X G a26
 obtain ⟨d27,F27,a27⟩:=fn4 a27
 have b27:=F27.binds (ps:=["count","many"]) fun _ _ _ _ _ _ us hl=>by obtain ⟨x0,x1,rfl⟩:=ln2 (us:=us) hl;rfl
 have g27:=PySem.W.mg_of X G a27
 obtain ⟨d28,F28,a28⟩:=fn4 a28
 have b28:=F28.binds (ps:=["held","many"]) fun _ _ _ _ _ _ us hl=>by obtain ⟨x0,x1,rfl⟩:=ln2 (us:=us) hl;rfl
 have g28:=PySem.W.mg_of X G a28
 obtain ⟨d29,F29,a29⟩:=fn4 a29
 have b29:=F29.binds (ps:=["book","state"]) fun _ _ _ _ _ _ us hl=>by obtain ⟨x0,x1,rfl⟩:=ln2 (us:=us) hl;rfl
 have g29:=PySem.W.mg_of X G a29
 obtain ⟨d30,F30,a30⟩:=fn4 a30
 have b30:=F30.binds (ps:=["book","state","many"]) fun _ _ _ _ _ _ us hl=>by obtain ⟨x0,x1,x2,rfl⟩:=ln3 (us:=us) hl;rfl
 have g30:=PySem.W.mg_of X G a30
 obtain ⟨d31,F31,a31⟩:=fn4 a31
 have b31:=F31.binds (ps:=["laps","many"]) fun _ _ _ _ _ _ us hl=>by obtain ⟨x0,x1,rfl⟩:=ln2 (us:=us) hl;rfl
 have g31:=PySem.W.mg_of X G a31
 obtain ⟨d32,F32,a32⟩:=fn4 a32
 have b32:=F32.binds (ps:=["state"]) fun _ _ _ _ _ _ us hl=>by obtain ⟨x0,rfl⟩:=ln1 (us:=us) hl;rfl
 have g32:=PySem.W.mg_of X G a32
 obtain ⟨d33,F33,a33⟩:=fn4 a33
 have b33:=F33.binds (ps:=["state"]) fun _ _ _ _ _ _ us hl=>by obtain ⟨x0,rfl⟩:=ln1 (us:=us) hl;rfl
 have g33:=PySem.W.mg_of X G a33
 obtain ⟨d34,F34,a34⟩:=fn4 a34
 have b34:=F34.binds (ps:=["state","many"]) fun _ _ _ _ _ _ us hl=>by obtain ⟨x0,x1,rfl⟩:=ln2 (us:=us) hl;rfl
 have g34:=PySem.W.mg_of X G a34
 obtain ⟨d35,F35,a35⟩:=fn4 a35
 have b35:=F35.binds (ps:=["state","many"]) fun _ _ _ _ _ _ us hl=>by obtain ⟨x0,x1,rfl⟩:=ln2 (us:=us) hl;rfl
 have g35:=PySem.W.mg_of X G a35
 obtain ⟨d36,F36,a36⟩:=fn4 a36
 have b36:=F36.binds (ps:=["book","state","many"]) fun _ _ _ _ _ _ us hl=>by obtain ⟨x0,x1,x2,rfl⟩:=ln3 (us:=us) hl;rfl
 have g36:=PySem.W.mg_of X G a36
 obtain ⟨d37,F37,a37⟩:=fn4 a37
 have b37:=F37.binds (ps:=["book","state"]) fun _ _ _ _ _ _ us hl=>by obtain ⟨x0,x1,rfl⟩:=ln2 (us:=us) hl;rfl
 have g37:=PySem.W.mg_of X G a37
 obtain ⟨d38,F38,a38⟩:=fn4 a38
 have b38:=F38.binds (ps:=["book","state"]) fun _ _ _ _ _ _ us hl=>by obtain ⟨x0,x1,rfl⟩:=ln2 (us:=us) hl;rfl
 have g38:=PySem.W.mg_of X G a38
 obtain ⟨d39,F39,a39⟩:=fn4 a39
 have b39:=F39.binds (ps:=["book","state"]) fun _ _ _ _ _ _ us hl=>by obtain ⟨x0,x1,rfl⟩:=ln2 (us:=us) hl;rfl
 have g39:=PySem.W.mg_of X G a39
 obtain ⟨d40,F40,a40⟩:=fn4 a40
 have b40:=F40.binds (ps:=["book","state"]) fun _ _ _ _ _ _ us hl=>by obtain ⟨x0,x1,rfl⟩:=ln2 (us:=us) hl;rfl
 have g40:=PySem.W.mg_of X G a40
 obtain ⟨d41,F41,a41⟩:=fn4 a41
 have b41:=F41.binds (ps:=["book","state"]) fun _ _ _ _ _ _ us hl=>by obtain ⟨x0,x1,rfl⟩:=ln2 (us:=us) hl;rfl
 have g41:=PySem.W.mg_of X G a41
 obtain ⟨d42,F42,a42⟩:=fn4 a42
 have b42:=F42.binds (ps:=["book","state","many"]) fun _ _ _ _ _ _ us hl=>by obtain ⟨x0,x1,x2,rfl⟩:=ln3 (us:=us) hl;rfl
 have g42:=PySem.W.mg_of X G a42
 obtain ⟨d43,F43,a43⟩:=fn4 a43
 have b43:=F43.binds (ps:=["book","state","many"]) fun _ _ _ _ _ _ us hl=>by obtain ⟨x0,x1,x2,rfl⟩:=ln3 (us:=us) hl;rfl
 have g43:=PySem.W.mg_of X G a43
 obtain ⟨d44,F44,a44⟩:=fn4 a44
 have b44:=F44.binds (ps:=["book","state","event"]) fun _ _ _ _ _ _ us hl=>by obtain ⟨x0,x1,x2,rfl⟩:=ln3 (us:=us) hl;rfl
 have g44:=PySem.W.mg_of X G a44
 obtain ⟨d45,F45,a45⟩:=fn4 a45
 have b45:=F45.binds (ps:=["book","state","row"]) fun _ _ _ _ _ _ us hl=>by obtain ⟨x0,x1,x2,rfl⟩:=ln3 (us:=us) hl;rfl
 have g45:=PySem.W.mg_of X G a45
 obtain ⟨d46,F46,a46⟩:=fn4 a46
 have b46:=F46.binds (ps:=["thing"]) fun _ _ _ _ _ _ us hl=>by obtain ⟨x0,rfl⟩:=ln1 (us:=us) hl;rfl
 have g46:=PySem.W.mg_of X G a46
 obtain ⟨d47,F47,a47⟩:=fn4 a47
 have b47:=F47.binds (ps:=["thing","many"]) fun _ _ _ _ _ _ us hl=>by obtain ⟨x0,x1,rfl⟩:=ln2 (us:=us) hl;rfl
 have g47:=PySem.W.mg_of X G a47
 obtain ⟨d48,F48,a48⟩:=fn4 a48
 have b48:=F48.binds (ps:=["thing"]) fun _ _ _ _ _ _ us hl=>by obtain ⟨x0,rfl⟩:=ln1 (us:=us) hl;rfl
 have g48:=PySem.W.mg_of X G a48
 obtain ⟨d49,F49,a49⟩:=fn4 a49
 have b49:=F49.binds (ps:=["thing","least"]) fun _ _ _ _ _ _ us hl=>by obtain ⟨x0,x1,rfl⟩:=ln2 (us:=us) hl;rfl
 have g49:=PySem.W.mg_of X G a49
 obtain ⟨d50,F50,a50⟩:=fn4 a50
 have b50:=F50.binds (ps:=["thing","least","most"]) fun _ _ _ _ _ _ us hl=>by obtain ⟨x0,x1,x2,rfl⟩:=ln3 (us:=us) hl;rfl
 have g50:=PySem.W.mg_of X G a50
 obtain ⟨d51,F51,a51⟩:=fn4 a51
 have b51:=F51.binds (ps:=["thing"]) fun _ _ _ _ _ _ us hl=>by obtain ⟨x0,rfl⟩:=ln1 (us:=us) hl;rfl
 have g51:=PySem.W.mg_of X G a51
 obtain ⟨d52,F52,a52⟩:=fn4 a52
 have b52:=F52.binds (ps:=["left","runs"]) fun _ _ _ _ _ _ us hl=>by obtain ⟨x0,x1,rfl⟩:=ln2 (us:=us) hl;rfl
 have g52:=PySem.W.mg_of X G a52
 obtain ⟨d53,F53,a53⟩:=fn4 a53
 have b53:=F53.binds (ps:=["thing"]) fun _ _ _ _ _ _ us hl=>by obtain ⟨x0,rfl⟩:=ln1 (us:=us) hl;rfl
 have g53:=PySem.W.mg_of X G a53
 obtain ⟨d54,F54,a54⟩:=fn4 a54
 have b54:=F54.binds (ps:=["ticks","hold"]) fun _ _ _ _ _ _ us hl=>by obtain ⟨x0,x1,rfl⟩:=ln2 (us:=us) hl;rfl
 have g54:=PySem.W.mg_of X G a54
 obtain ⟨d55,F55,a55⟩:=fn4 a55
 have b55:=F55.binds (ps:=["thing","words"]) fun _ _ _ _ _ _ us hl=>by obtain ⟨x0,x1,rfl⟩:=ln2 (us:=us) hl;rfl
 have g55:=PySem.W.mg_of X G a55
 obtain ⟨d56,F56,a56⟩:=fn4 a56
 have b56:=F56.binds (ps:=["thing","hold"]) fun _ _ _ _ _ _ us hl=>by obtain ⟨x0,x1,rfl⟩:=ln2 (us:=us) hl;rfl
 have g56:=PySem.W.mg_of X G a56
 obtain ⟨d57,F57,a57⟩:=fn4 a57
 have b57:=F57.binds (ps:=["thing","back"]) fun _ _ _ _ _ _ us hl=>by obtain ⟨x0,x1,rfl⟩:=ln2 (us:=us) hl;rfl
 have g57:=PySem.W.mg_of X G a57
 obtain ⟨d58,F58,a58⟩:=fn4 a58
 have b58:=F58.binds (ps:=["thing"]) fun _ _ _ _ _ _ us hl=>by obtain ⟨x0,rfl⟩:=ln1 (us:=us) hl;rfl
 have g58:=PySem.W.mg_of X G a58
 obtain ⟨d59,F59,a59⟩:=fn4 a59
 have b59:=F59.binds (ps:=["thing"]) fun _ _ _ _ _ _ us hl=>by obtain ⟨x0,rfl⟩:=ln1 (us:=us) hl;rfl
 have g59:=PySem.W.mg_of X G a59
 obtain ⟨d60,F60,a60⟩:=fn4 a60
 have b60:=F60.binds (ps:=["book","thing"]) fun _ _ _ _ _ _ us hl=>by obtain ⟨x0,x1,rfl⟩:=ln2 (us:=us) hl;rfl
 have g60:=PySem.W.mg_of X G a60
 obtain ⟨d61,F61,a61⟩:=fn4 a61
 have b61:=F61.binds (ps:=["_law_now_here"]) fun _ _ _ _ _ _ us hl=>by obtain ⟨x0,rfl⟩:=ln1 (us:=us) hl;rfl
 have g61:=PySem.W.mg_of X G a61
 obtain ⟨d62,F62,a62⟩:=fn4 a62
 have b62:=F62.binds (ps:=["_law_number","_law_last"]) fun _ _ _ _ _ _ us hl=>by obtain ⟨x0,x1,rfl⟩:=ln2 (us:=us) hl;rfl
 have g62:=PySem.W.mg_of X G a62
 obtain ⟨d63,F63,a63⟩:=fn4 a63
 have b63:=F63.binds (ps:=["_law_now_here","_law_deed_here"]) fun _ _ _ _ _ _ us hl=>by obtain ⟨x0,x1,rfl⟩:=ln2 (us:=us) hl;rfl
 have g63:=PySem.W.mg_of X G a63
 obtain ⟨d64,F64,a64⟩:=fn4 a64
 have b64:=F64.binds (ps:=["_law_book_here","_law_now_here","_law_press_here"]) fun _ _ _ _ _ _ us hl=>by obtain ⟨x0,x1,x2,rfl⟩:=ln3 (us:=us) hl;rfl
 have g64:=PySem.W.mg_of X G a64
 obtain ⟨d65,F65,a65⟩:=fn4 a65
 have b65:=F65.binds (ps:=["_law_book_here","_law_now_here"]) fun _ _ _ _ _ _ us hl=>by obtain ⟨x0,x1,rfl⟩:=ln2 (us:=us) hl;rfl
 have g65:=PySem.W.mg_of X G a65
 obtain ⟨d66,F66,a66⟩:=fn4 a66
 have b66:=F66.binds (ps:=["_law_book_here","_law_now_here","_law_event_here"]) fun _ _ _ _ _ _ us hl=>by obtain ⟨x0,x1,x2,rfl⟩:=ln3 (us:=us) hl;rfl
 have g66:=PySem.W.mg_of X G a66
 obtain ⟨d67,F67,a67⟩:=fn4 a67
 have b67:=F67.binds (ps:=["_law_state_here"]) fun _ _ _ _ _ _ us hl=>by obtain ⟨x0,rfl⟩:=ln1 (us:=us) hl;rfl
 have g67:=PySem.W.mg_of X G a67
 have F68:=qJ (st:=gD) l68 c68 k68
 have b68:=F68.binds (ps:=["_law_script"]) fun _ _ _ _ _ _ us hl=>by obtain ⟨x0,rfl⟩:=ln1 (us:=us) hl;rfl
 have g68:=PySem.W.mg_of X G a68
 have m_all:=PySem.W.mg_none_of X G z_all
 have m_bool:=PySem.W.mg_none_of X G z_bool
 have m_dict:=PySem.W.mg_none_of X G z_dict
 have m_int:=PySem.W.mg_none_of X G z_int
 have m_isinstance:=PySem.W.mg_none_of X G z_isinstance
 have m_len:=PySem.W.mg_none_of X G z_len
 have m_max:=PySem.W.mg_none_of X G z_max
 have m_range:=PySem.W.mg_none_of X G z_range
 have m_repr:=PySem.W.mg_none_of X G z_repr
 have m_str:=PySem.W.mg_none_of X G z_str
 have m_tuple:=PySem.W.mg_none_of X G z_tuple
 have m_zip:=PySem.W.mg_none_of X G z_zip
 have c_ALARM:Con K mg "ALARM" bB:=⟨_,.int 2,PySem.W.mg_of X G q_ALARM,⟨_,rfl⟩,fun H=>rfl⟩
 have c_BUTTONS:Con K mg "BUTTONS" fw:=⟨.ref qa_BUTTONS,.ref qa_BUTTONS,PySem.W.mg_of X G q_BUTTONS,rfl,fun H=>⟨qa_BUTTONS,[.str (Str.ofString "a"),.str (Str.ofString "b"),.str (Str.ofString "c")],rfl,.inr ⟨_,_,_,r_BUTTONS,rfl,rfl,rfl,(by show 3<=sizeLine;decide),(.cons ⟨_,rfl⟩ (.cons ⟨_,rfl⟩ (.cons ⟨_,rfl⟩ .nil)))⟩,⟨_,_,rfl,rfl,⟨_,_,rfl,rfl,⟨_,_,rfl,rfl,rfl⟩⟩⟩⟩⟩
 have c_CLOCK:Con K mg "CLOCK" br:=⟨_,.int 1,PySem.W.mg_of X G q_CLOCK,⟨_,rfl⟩,fun H=>rfl⟩
 have c_COUNT:Con K mg "COUNT" bc:=⟨_,.int 4,PySem.W.mg_of X G q_COUNT,⟨_,rfl⟩,fun H=>rfl⟩
 have c_DAY:Con K mg "DAY" gw:=⟨_,.int 86400,PySem.W.mg_of X G q_DAY,⟨_,rfl⟩,fun H=>rfl⟩
 have c_FULL_RING:Con K mg "FULL_RING" dj:=⟨_,.int 10,PySem.W.mg_of X G q_FULL_RING,⟨_,rfl⟩,fun H=>rfl⟩
 have c_HELD:Con K mg "HELD" bu:=⟨_,.int 6,PySem.W.mg_of X G q_HELD,⟨_,rfl⟩,fun H=>rfl⟩
 have c_IDLE:Con K mg "IDLE" c_:=⟨_,.int 7,PySem.W.mg_of X G q_IDLE,⟨_,rfl⟩,fun H=>rfl⟩
 have c_LAPS:Con K mg "LAPS" cu:=⟨_,.int 3,PySem.W.mg_of X G q_LAPS,⟨_,rfl⟩,fun H=>rfl⟩
 have c_LAST_SECOND:Con K mg "LAST_SECOND" dR:=⟨_,.int 86399,PySem.W.mg_of X G q_LAST_SECOND,⟨_,rfl⟩,fun H=>rfl⟩
 have c_MODE:Con K mg "MODE" cy:=⟨_,.int 0,PySem.W.mg_of X G q_MODE,⟨_,rfl⟩,fun H=>rfl⟩
 have c_MOST_KEPT:Con K mg "MOST_KEPT" di:=⟨_,.int 4,PySem.W.mg_of X G q_MOST_KEPT,⟨_,rfl⟩,fun H=>rfl⟩
 have c_MOST_LEFT:Con K mg "MOST_LEFT" eX:=⟨_,.int 3599,PySem.W.mg_of X G q_MOST_LEFT,⟨_,rfl⟩,fun H=>rfl⟩
 have c_RING:Con K mg "RING" eQ:=⟨_,.int 5,PySem.W.mg_of X G q_RING,⟨_,rfl⟩,fun H=>rfl⟩
 have s_PRESSES:ConS K mg "PRESSES" dt:=⟨qa_PRESSES,_,_,_,PySem.W.mg_of X G q_PRESSES,rs_PRESSES,(.cons ⟨_,rfl⟩ (.cons ⟨_,rfl⟩ (.cons ⟨_,rfl⟩ (.cons ⟨_,rfl⟩ (.cons ⟨_,rfl⟩ (.cons ⟨_,rfl⟩ .nil))))))⟩
 have D_STEPS:=PySem.W.mg_of X G q_STEPS
 refine ⟨PySem.W.fnOf "law" "law" (defArgs gD) (defBody gD) (defScope gD) .none kV68 dc68 pm68 an68 cd68 ct68,fun s v=>.of_eq rfl,fun base _ _=>?_⟩
 have C__law_drawn:Cal l.prog w K mg base 1 "_law_drawn" ["_law_number","_law_k"] aJ:=aE F0 g0 b0 (j2 (k:=0)  F0)
 have C__law_book:Cal l.prog w K mg base 2 "_law_book" ["_law_number"] ca:=aE F1 g1 b1 (kL (k:=1) C__law_drawn.m m_range F1)
 have C__law_cell_at:Cal l.prog w K mg base 1 "_law_cell_at" ["_law_script","_law_k"] bF:=aE F2 g2 b2 (iM (k:=0) m_len F2)
 have C__law_mixed:Cal l.prog w K mg base 2 "_law_mixed" ["_law_script","_law_k"] bA:=aE F3 g3 b3 (j4 (k:=1) C__law_cell_at.m F3)
 have C__law_event:Cal l.prog w K mg base 1 "_law_event" ["_law_number"] bC:=aE F4 g4 b4 (jT (k:=0)  F4)
 have C__law_row:Cal l.prog w K mg base 2 "_law_row" ["_law_number","_law_most"] cx:=aE F5 g5 b5 (mE (k:=1) C__law_drawn.m C__law_event.m m_range m_tuple F5)
 have C__law_state:Cal l.prog w K mg base 2 "_law_state" ["_law_book_here","_law_number"] bT:=aE F6 g6 b6 (jP (k:=1) C__law_drawn.m m_len m_max m_range m_tuple F6)
 have C_is_holding:Cal l.prog w K mg base 1 "is_holding" ["state","button"] bx:=aE F7 g7 b7 (jX (k:=0) c_HELD F7)
 have C_is_short:Cal l.prog w K mg base 2 "is_short" ["state","button"] cC:=aE F8 g8 b8 (mQ (k:=1) C_is_holding.m c_HELD F8)
 have C_put:Cal l.prog w K mg base 1 "put" ["state","place","part"] aM:=aE F9 g9 b9 (tm (k:=0)  F9)
 have C_alarm_hour_on:Cal l.prog w K mg base 2 "alarm_hour_on" ["state"] be:=aE F10 g10 b10 (ig (k:=1) C_put.m c_ALARM F10)
 have C_alarm_minute_on:Cal l.prog w K mg base 2 "alarm_minute_on" ["state"] aW:=aE F11 g11 b11 (fX (k:=1) C_put.m c_ALARM F11)
 have C_alarm_turned:Cal l.prog w K mg base 2 "alarm_turned" ["state"] bn:=aE F12 g12 b12 (iG (k:=1) C_put.m c_ALARM F12)
 have C_set_to:Cal l.prog w K mg base 2 "set_to" ["state","minute","second"] bV:=aE F13 g13 b13 (qy (k:=1) C_put.m c_COUNT F13)
 have C_count_minute_on:Cal l.prog w K mg base 3 "count_minute_on" ["state"] aV:=aE F14 g14 b14 (fP (k:=2) C_set_to.m c_COUNT F14)
 have C_count_second_on:Cal l.prog w K mg base 3 "count_second_on" ["state"] aU:=aE F15 g15 b15 (fN (k:=2) C_set_to.m c_COUNT F15)
 have C_count_turned:Cal l.prog w K mg base 2 "count_turned" ["state"] bG:=aE F16 g16 b16 (iK (k:=1) C_put.m c_COUNT F16)
 have C_filled:Cal l.prog w K mg base 3 "filled" ["state"] dg:=aE F17 g17 b17 (qk (k:=2) C_set_to.m c_COUNT F17)
 have C_hour_on:Cal l.prog w K mg base 2 "hour_on" ["state"] cJ:=aE F18 g18 b18 (nY (k:=1) C_put.m c_CLOCK F18)
 have C_lap_kept:Cal l.prog w K mg base 2 "lap_kept" ["state"] cB:=aE F19 g19 b19 (mt (k:=1) C_put.m m_len c_LAPS c_MOST_KEPT F19)
 have C_laps_turned:Cal l.prog w K mg base 2 "laps_turned" ["state"] bD:=aE F20 g20 b20 (jc (k:=1) C_put.m c_LAPS F20)
 have C_minute_on:Cal l.prog w K mg base 2 "minute_on" ["state"] bS:=aE F21 g21 b21 (lb (k:=1) C_put.m c_CLOCK F21)
 have C_nothing:Cal l.prog w K mg base 1 "nothing" ["state"] cL:=aE F22 g22 b22 (nE (k:=0)  F22)
 have C_to_zero:Cal l.prog w K mg base 2 "to_zero" ["state"] cI:=aE F23 g23 b23 (oh (k:=1) C_put.m c_CLOCK F23)
 have T_STEPS:TabOk l.prog w K mg base 3 "STEPS" tab_STEPS:=⟨qa_STEPS,_,D_STEPS,fun h X=>qS _ r_STEPS (show List.Nodup [Str.ofString "none",Str.ofString "hour",Str.ofString "minute",Str.ofString "zero",Str.ofString "ahour",Str.ofString "aminute",Str.ofString "alarm",Str.ofString "run",Str.ofString "lap",Str.ofString "cminute",Str.ofString "csecond",Str.ofString "full",Str.ofString "count"] from by decide +kernel) h X,(.cons (fnk_of C_nothing.m g22) (.cons (fnk_of C_hour_on.m g18) (.cons (fnk_of C_minute_on.m g21) (.cons (fnk_of C_to_zero.m g23) (.cons (fnk_of C_alarm_hour_on.m g10) (.cons (fnk_of C_alarm_minute_on.m g11) (.cons (fnk_of C_alarm_turned.m g12) (.cons (fnk_of C_laps_turned.m g20) (.cons (fnk_of C_lap_kept.m g19) (.cons (fnk_of C_count_minute_on.m g14) (.cons (fnk_of C_count_second_on.m g15) (.cons (fnk_of C_filled.m g17) (.cons (fnk_of C_count_turned.m g16) .nil)))))))))))))⟩
 have C_press_done:Cal l.prog w K mg base 4 "press_done" ["book","state","press"] bw:=aE F24 g24 b24 (jO (k:=3) C_alarm_hour_on.m C_alarm_minute_on.m C_alarm_turned.m C_count_minute_on.m C_count_second_on.m C_count_turned.m C_filled.m C_hour_on.m C_lap_kept.m C_laps_turned.m C_minute_on.m C_nothing.m C_put.m C_to_zero.m c_MODE s_PRESSES T_STEPS F24)
 have C_let_go:Cal l.prog w K mg base 5 "let_go" ["book","state","button"] dB:=aE F25 g25 b25 (pM (k:=4) C_is_holding.m C_is_short.m C_press_done.m C_put.m c_HELD c_IDLE F25)
 have C_pushed:Cal l.prog w K mg base 2 "pushed" ["state","button"] dH:=aE F26 g26 b26 (qw (k:=1) C_put.m c_HELD c_IDLE c_RING F26)
 have C_count_on:Cal l.prog w K mg base 1 "count_on" ["count","many"] cw:=aE F27 g27 b27 (me (k:=0) m_max F27)
 have C_held_on:Cal l.prog w K mg base 1 "held_on" ["held","many"] cW:=aE F28 g28 b28 (nw (k:=0)  F28)
 have C_ticks_to_back:Cal l.prog w K mg base 1 "ticks_to_back" ["book","state"] aY:=aE F29 g29 b29 (g_ (k:=0) m_max c_IDLE F29)
 have C_idle_on:Cal l.prog w K mg base 2 "idle_on" ["book","state","many"] cZ:=aE F30 g30 b30 (nF (k:=1) C_ticks_to_back.m c_HELD c_IDLE F30)
 have C_laps_on:Cal l.prog w K mg base 1 "laps_on" ["laps","many"] cY:=aE F31 g31 b31 (og (k:=0)  F31)
 have C_alarm_tick:Cal l.prog w K mg base 1 "alarm_tick" ["state"] bi:=aE F32 g32 b32 (jU (k:=0) c_ALARM c_CLOCK c_DAY F32)
 have C_count_tick:Cal l.prog w K mg base 1 "count_tick" ["state"] bz:=aE F33 g33 b33 (j6 (k:=0) c_COUNT F33)
 have C_last_ring:Cal l.prog w K mg base 2 "last_ring" ["state","many"] bZ:=aE F34 g34 b34 (kX (k:=1) C_alarm_tick.m C_count_tick.m m_max c_DAY F34)
 have C_ring_on:Cal l.prog w K mg base 3 "ring_on" ["state","many"] de:=aE F35 g35 b35 (nC (k:=2) C_last_ring.m m_max c_FULL_RING c_RING F35)
 have C_counted:Cal l.prog w K mg base 4 "counted" ["book","state","many"] cg:=aE F36 g36 b36 (np (k:=3) C_count_on.m C_held_on.m C_idle_on.m C_laps_on.m C_ring_on.m c_ALARM c_CLOCK c_COUNT c_DAY c_HELD c_LAPS c_MODE F36)
 have C_goes_back:Cal l.prog w K mg base 1 "goes_back" ["book","state"] cc:=aE F37 g37 b37 (ll (k:=0) c_MODE F37)
 have C_ticks_to_long:Cal l.prog w K mg base 1 "ticks_to_long" ["book","state"] bv:=aE F38 g38 b38 (hU (k:=0) m_max c_HELD F38)
 have C_turn_tick:Cal l.prog w K mg base 2 "turn_tick" ["book","state"] bP:=aE F39 g39 b39 (kz (k:=1) C_goes_back.m C_ticks_to_back.m C_ticks_to_long.m c_HELD F39)
 have C_turned:Cal l.prog w K mg base 5 "turned" ["book","state"] dG:=aE F40 g40 b40 (qu (k:=4) C_press_done.m C_put.m c_HELD c_MODE F40)
 have C_behind_turn:Cal l.prog w K mg base 6 "behind_turn" ["book","state"] bE:=aE F41 g41 b41 (jH (k:=5) C_counted.m C_turn_tick.m C_turned.m F41)
 have C_stretches:Cal l.prog w K mg base 7 "stretches" ["book","state","many"] b_:=aE F42 g42 b42 (lj (k:=6) C_behind_turn.m C_turn_tick.m F42)
 have C_ticked:Cal l.prog w K mg base 8 "ticked" ["book","state","many"] dA:=aE F43 g43 b43 (qm (k:=7) C_counted.m C_stretches.m F43)
 have C_gone:Cal l.prog w K mg base 9 "gone" ["book","state","event"] cP:=aE F44 g44 b44 (sN (k:=8) C_let_go.m C_pushed.m C_ticked.m F44)
 have C_after:Cal l.prog w K mg base 10 "after" ["book","state","row"] ej:=aE F45 g45 b45 (rC (k:=9) C_gone.m F45)
 have C_is_truth:Cal l.prog w K mg base 1 "is_truth" ["thing"] bH:=aE F46 g46 b46 (lO (k:=0) m_bool m_isinstance F46)
 have C_is_tuple_of:Cal l.prog w K mg base 1 "is_tuple_of" ["thing","many"] aL:=aE F47 g47 b47 (i_ (k:=0) m_isinstance m_len m_tuple F47)
 have C_is_whole:Cal l.prog w K mg base 1 "is_whole" ["thing"] cF:=aE F48 g48 b48 (mO (k:=0) m_bool m_int m_isinstance F48)
 have C_is_from:Cal l.prog w K mg base 2 "is_from" ["thing","least"] bp:=aE F49 g49 b49 (oa (k:=1) C_is_whole.m F49)
 have C_is_within:Cal l.prog w K mg base 3 "is_within" ["thing","least","most"] aI:=aE F50 g50 b50 (kC (k:=2) C_is_from.m F50)
 have C_is_alarm:Cal l.prog w K mg base 4 "is_alarm" ["thing"] cA:=aE F51 g51 b51 (mh (k:=3) C_is_truth.m C_is_tuple_of.m C_is_within.m F51)
 have C_is_left_and_runs:Cal l.prog w K mg base 4 "is_left_and_runs" ["left","runs"] aZ:=aE F52 g52 b52 (fH (k:=3) C_is_truth.m C_is_within.m c_MOST_LEFT F52)
 have C_is_count:Cal l.prog w K mg base 5 "is_count" ["thing"] cG:=aE F53 g53 b53 (ly (k:=4) C_is_left_and_runs.m C_is_tuple_of.m C_is_within.m F53)
 have C_is_held_for:Cal l.prog w K mg base 4 "is_held_for" ["ticks","hold"] bR:=aE F54 g54 b54 (jw (k:=3) C_is_within.m F54)
 have C_is_one_of:Cal l.prog w K mg base 1 "is_one_of" ["thing","words"] cb:=aE F55 g55 b55 (kH (k:=0) m_isinstance m_str F55)
 have C_is_held:Cal l.prog w K mg base 5 "is_held" ["thing","hold"] db:=aE F56 g56 b56 (nO (k:=4) C_is_held_for.m C_is_one_of.m C_is_tuple_of.m c_BUTTONS F56)
 have C_is_idle:Cal l.prog w K mg base 4 "is_idle" ["thing","back"] da:=aE F57 g57 b57 (ox (k:=3) C_is_within.m F57)
 have C_is_kept:Cal l.prog w K mg base 3 "is_kept" ["thing"] df:=aE F58 g58 b58 (oo (k:=2) C_is_from.m m_all m_isinstance m_len m_tuple c_MOST_KEPT F58)
 have C_is_laps:Cal l.prog w K mg base 4 "is_laps" ["thing"] cX:=aE F59 g59 b59 (om (k:=3) C_is_from.m C_is_kept.m C_is_truth.m C_is_tuple_of.m F59)
 have C_is_state:Cal l.prog w K mg base 6 "is_state" ["book","thing"] cE:=aE F60 g60 b60 (lx (k:=5) C_is_alarm.m C_is_count.m C_is_held.m C_is_idle.m C_is_laps.m C_is_tuple_of.m C_is_within.m m_len c_ALARM c_CLOCK c_COUNT c_FULL_RING c_HELD c_IDLE c_LAPS c_LAST_SECOND c_MODE c_RING F60)
 have C__law_of:Cal l.prog w K mg base 1 "_law_of" ["_law_now_here"] (bW):=aE F61 g61 b61 (nU (k:=0) m_tuple F61)
 have C__law_up:Cal l.prog w K mg base 1 "_law_up" ["_law_number","_law_last"] bL:=aE F62 g62 b62 (mU (k:=0)  F62)
 have C__law_deed:CalM l.prog w K mg base 2 "_law_deed" ["_law_now_here","_law_deed_here"] 0 (cK):=⟨_,_,kF (k:=1) C__law_up.m m_int F63,g63,F63.kp,b63⟩
 have C__law_press:CalM l.prog w K mg base 3 "_law_press" ["_law_book_here","_law_now_here","_law_press_here"] 1 (bj):=⟨_,_,jS (k:=2) C__law_deed.m F64,g64,F64.kp,b64⟩
 have C__law_tick:CalM l.prog w K mg base 4 "_law_tick" ["_law_book_here","_law_now_here"] 1 (bX):=⟨_,_,kP (k:=3) m_int m_max C__law_press.m F65,g65,F65.kp,b65⟩
 have C__law_happen:CalM l.prog w K mg base 5 "_law_happen" ["_law_book_here","_law_now_here","_law_event_here"] 1 (aO):=⟨_,_,jj (k:=4) m_int m_range C__law_press.m C__law_tick.m F66,g66,F66.kp,b66⟩
 have C__law_now:CalN l.prog w K mg base 1 "_law_now" ["_law_state_here"] bY:=⟨_,_,lA (k:=0) m_dict m_zip F67,g67,F67.kp,b67⟩
 exact tP C__law_book.m C__law_mixed.m C__law_row.m C__law_state.m C_after.m C_gone.m C_is_state.m m_repr C__law_of.m C__law_now.m C__law_happen.m F68
theorem walk {l:PySem.W.OpenLaw} {q:Program} {loose:List Str} {XP:(Str->Option Value)->Heap->Prop} {YP:World->Heap->Prop} {d:DefRec} {K:Params->PySem.W.Frag} (hn:l.most=some 63) (hdf:d.params.defaults=[])
    (hY:∀ (w:World) (h:Heap),YP w h->(K w.params).In h)
    (F:∀ (w:World) (mg:Str->Option Value) (fa:Addr) (h:Heap),(K w.params).In h->h.Ns mainGlobals mg->mg d.name=some (.ref fa) ->
      ∃ fd:FuncData,(∀ (s:Shared) (u:Value),BindsTo s fd ⟨[u],[]⟩ [("_law_script",u)])/\∀ base:Heap,(K w.params).In base->base.Ns mainGlobals mg->FnOk l.prog w (K w.params) mg base CX0 11 fa fd ["_law_script"] (spD (K w.params) jD)) :
    PySem.W.WalkO q loose XP YP l.row.toRowW d [] (fun f vs=>PySem.call f vs) :=
  L2.walk_of (n:=63) (k:=11) (x:="_law_script") (CX:=fun _=>CX0) (sp:=fun w=>spD (K w.params) jD) hn (by decide) hdf ⟨rfl,by decide,by decide,rfl⟩ hY F (fun w H a ns hl _ hS=>⟨[.fro (ns.map .int)],.bl true,Reps.one ⟨a,ns.map V.int,rfl,hS,reps_ints _ _ ns⟩,law_true ns hl,fun v H' _ hv=>hv⟩) fun _ _ _ _ _ z=>z
end HW
namespace PySem.W.Fast
theorem tw6737222919716436928:True:=⟨⟩
theorem tw10493487184934399201:True:=⟨⟩
theorem tw15549761253977838401:True:=⟨⟩
theorem tw10126490952251839425:True:=⟨⟩
theorem tw2034578835697013091:True:=⟨⟩
theorem tw5722803591364008647:True:=⟨⟩
theorem tw9738302660077720455:True:=⟨⟩
theorem tw14362962934206543818:True:=⟨⟩
theorem tw15587184938407743756:True:=⟨⟩
theorem tw14705012266540723532:True:=⟨⟩
theorem tw2641642527614058542:True:=⟨⟩
theorem tw5291965123728648114:True:=⟨⟩
theorem tw13761859704830089876:True:=⟨⟩
theorem tw17922437202469536981:True:=⟨⟩
theorem tw6034773757819113303:True:=⟨⟩
theorem tw12930315866071254297:True:=⟨⟩
theorem tw11473357343879081565:True:=⟨⟩
theorem tw1708317114932794173:True:=⟨⟩
theorem tw14261332277774698365:True:=⟨⟩
theorem tw7251717855918467486:True:=⟨⟩
noncomputable def tw9422123058992380611:=PySem.Challenge.pw_handwatch_k10_what_happens
theorem te9422123058992380611:PySem.Challenge.pw_handwatch_k10_what_happens=tw9422123058992380611:=rfl
end PySem.W.Fast
open PySem PySem.W PyProof.Rows
set_option maxRecDepth 100000 in
set_option maxHeartbeats 0 in
theorem PySem.Challenge.cw_handwatch_k10_what_happens_holds : PySem.Challenge.rw_handwatch_k10_what_happens.Holds := by
 w_on;o_law;k_head;(case hw=>w_witness2)
 k_fill
 refine HW.walk (l:=PySem.Challenge.rw_handwatch_k10_what_happens) rfl rfl (fun w h Y=>PySem.W.kIn_of Y) ?F
 case F =>
  intro w mg fa h KX G hmg
  refine' HW.all_mk KX G hmg ?_ ?_ ?_ ?_ ?_ ?_ ?_ ?_ ?_ ?_ ?_ ?_ ?_ ?_ ?_ ?_ ?_ ?_ ?_ ?_ ?_ ?_ ?_ ?_ ?_ ?_ ?_ ?_ ?_ ?_ ?_ ?_ ?_ ?_ ?_ ?_ ?_ ?_ ?_ ?_ ?_ ?_ ?_ ?_ ?_ ?_ ?_ ?_ ?_ ?_ ?_ ?_ ?_ ?_ ?_ ?_ ?_ ?_ ?_ ?_ ?_ ?_ ?_ ?_ ?_ ?_ ?_ ?_ ?_ ?_ ?_ ?_ ?_ ?_ ?_ ?_ ?_ ?_ ?_ ?_ ?_ ?_ ?_ ?_ ?_ ?_ ?_ ?_ ?_ ?_ ?_ ?_ ?_ ?_ ?_ ?_ ?_ ?_ ?_ ?_ ?_ ?_ ?_
  all_goals try first | k_is | (refine' HW.fn4_mk ?_ ?_ ?_ ?_<;>try k_is)
