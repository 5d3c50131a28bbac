import PyProof.Rows.All
import Wide.All
import OpenK.AllK
import Wide.FinOn
import Lean
import PyProof.EqAt
import PyProof.EqKinds
import PyProof.TupleCall
import PySem.Str
import PySem.Sem
import PyProof.ReprReads
import PyProof.Rows.RegStrFacts
import PyProof.StrBlockI
import KE.IntText
import KE.KLam
import PyProof.StrWalks
import PyProof.ReprRoads
import PyProof.NeData
import PyProof.WalkInts
import KE.KRevIter
import PyProof.StrBlock2
import KE.KIntText
import PyProof.Rows.Range3
import PyProof.StrLawsIn
import PyProof.FitsReplace
import PyProof.ReprLen
import PyProof.ZipIter
import PyProof.Draws
import PyProof.IsRules
import PySem.Builtin.Str.Common
import PySem.SetOps
import PyProof.SetKind
import PyProof.DictStraight
import KE.KDictSum
import PyProof.Rows.SetFrom
import PyProof.Rows.SortShell
import PyProof.ListRange
import PyProof.Rows.FactsT2
import PyProof.Rows.FactsT3
import PyProof.StrCalls
import PyProof.DictWalks
import PyProof.StrLawsRepr
import PyProof.CallFns
import PySem.Challenge.RW_handwatch_k74_whole_nothing_else_read
set_option Elab.async false
noncomputable section
set_option linter.all false
set_option maxRecDepth 100000
namespace L2
open PySem PySem.Spec PyProof.Rows
abbrev Key:=Sum Int Str
def keyIs:Key->Value->Bool
 | .inl k,v=>Value.isInt k v
 | .inr x,v=>Value.isStrOf x v
def keyH (w:World):Key->Int
 | .inl k=>hashInt k
 | .inr x=>hashStr w x
theorem keyIs_shape:∀ {k:Key} {v:Value},keyIs k v=true->(∃ i t,k=Sum.inl i/\v=Value.int i t)\/(∃ x t,k=Sum.inr x/\v=Value.str x t)
 | .inl i,v,h=>by
  obtain ⟨t,e⟩:=Value.isInt_shape (k:=i) (v:=v) h
  exact .inl ⟨i,t,rfl,e⟩
 | .inr x,v,h=>by
  obtain ⟨t,e⟩:=Value.isStrOf_shape (x:=x) (v:=v) h
  exact .inr ⟨x,t,rfl,e⟩
theorem key_ll (a b:Int):decide ((Sum.inl a:Key)=Sum.inl b)=(a==b):=by
 by_cases e:a=b
 ·subst e;simp
 ·have h:¬ (Sum.inl a:Key)=Sum.inl b:=fun q=>e (Sum.inl.inj q)
  rw [decide_eq_false h]
  exact (beq_eq_false_iff_ne.mpr e).symm
theorem key_rr (a b:Str):decide ((Sum.inr a:Key)=Sum.inr b)=decide (a=b):=by
 by_cases e:a=b
 ·subst e;simp
 ·have h:¬ (Sum.inr a:Key)=Sum.inr b:=fun q=>e (Sum.inr.inj q)
  rw [decide_eq_false h,decide_eq_false e]
theorem key_lr (a:Int) (b:Str):decide ((Sum.inl a:Key)=Sum.inr b)=false:=decide_eq_false (fun q=>nomatch q)
theorem key_rl (a:Str) (b:Int):decide ((Sum.inr a:Key)=Sum.inl b)=false:=decide_eq_false (fun q=>nomatch q)
def mixKind (prog:Program) (w:World):PySem.KeyKind prog w Key where
 is:=keyIs
 hash:=keyH w
 inj:=fun v a b ha hb=>by
  rcases keyIs_shape ha with ⟨i,t,rfl,rfl⟩ | ⟨x,t,rfl,rfl⟩
  ·rcases keyIs_shape hb with ⟨j,u,rfl,e⟩ | ⟨y,u,rfl,e⟩
   ·injection e with e1 _;rw [e1]
   ·exact nomatch e
  ·rcases keyIs_shape hb with ⟨j,u,rfl,e⟩ | ⟨y,u,rfl,e⟩
   ·exact nomatch e
   ·injection e with e1 _;rw [e1]
 byValue:=fun k v h=>by
  rcases keyIs_shape h with ⟨i,t,rfl,rfl⟩ | ⟨x,t,rfl,rfl⟩<;>rfl
 pyHash:=fun hv h=>by
  rcases keyIs_shape hv with ⟨i,t,rfl,rfl⟩ | ⟨x,t,rfl,rfl⟩
  ·exact wpAny_pyHash_int h
  ·exact wpAny_pyHash_str h
 eqBool:=fun hu hv h=>by
  rcases keyIs_shape hu with ⟨i,t,rfl,rfl⟩ | ⟨x,t,rfl,rfl⟩
  ·rcases keyIs_shape hv with ⟨j,u,rfl,rfl⟩ | ⟨y,u,rfl,rfl⟩
   ·rw [key_ll] at h;exact wpAny_eqBool_int h
   ·rw [key_lr] at h;exact SeqAt.EqAt.int_str i t y u _ _ _ _ h
  ·rcases keyIs_shape hv with ⟨j,u,rfl,rfl⟩ | ⟨y,u,rfl,rfl⟩
   ·rw [key_rl] at h;exact SeqAt.EqAt.str_int x t j u _ _ _ _ h
   ·rw [key_rr] at h;exact wpAny_eqBool_str h
 «strs»:=fun k x t v h=>by
  rcases keyIs_shape h with ⟨i,u,rfl,e⟩ | ⟨y,u,rfl,e⟩
  ·exact nomatch e
  ·injection e with e1 _
   subst e1
   cases v<;>rfl
end L2
namespace L2
open PySem PySem.Spec PyProof.Rows
inductive V where
 | non | bl (b:Bool) | int (i:Int) | str (x:Str) | byt (b:Array UInt8) | flt (b:UInt64) | ref (a:Addr) | ty (n:String)
 deriving DecidableEq
def RelV:V->Value->Prop
 | .non,u=>u=Value.none
 | .bl b,u=>u=Value.bool b
 | .int i,u=>∃ t,u=Value.int i t
 | .str x,u=>∃ t,u=Value.str x t
 | .byt b,u=>∃ t,u=Value.bytes b t
 | .flt b,u=>∃ t,u=Value.float b t
 | .ref a,u=>u=Value.ref a
 | .ty n,u=>u=Value.type n
abbrev Vals:List V->List Value->Prop:=Paired RelV
theorem Vals.length {xs:List V} {us:List Value} (r:Vals xs us):xs.length=us.length:=Paired.length r
theorem Vals.get:∀ {xs:List V} {us:List Value} {i:Nat} {x:V},Vals xs us->xs[i]?=some x->∃ u,us[i]?=some u/\RelV x u
 | _,_,_,_,.nil,e=>by simp at e
 | _,_,0,_,.cons r _,e=>by simp at e;subst e;exact ⟨_,rfl,r⟩
 | _,_,i+1,x,.cons _ t,e=>by
  obtain ⟨u,h1,h2⟩:=Vals.get (i:=i) (x:=x) t (by simpa using e)
  exact ⟨u,by simpa using h1,h2⟩
theorem Vals.set {x:V} {u:Value} (r:RelV x u):∀ {xs:List V} {us:List Value} (i:Nat),Vals xs us->Vals (xs.set i x) (us.set i u)
 | _,_,_,.nil=>.nil
 | _,_,0,.cons _ t=>.cons r t
 | _,_,i+1,.cons q t=>.cons q (Vals.set r i t)
theorem Vals.append:∀ {xs ys:List V} {us ws:List Value},Vals xs us->Vals ys ws->Vals (xs++ys) (us++ws)
 | _,_,_,_,.nil,s=>s
 | _,_,_,_,.cons r t,s=>.cons r (Vals.append t s)
theorem Vals.take:∀ {xs:List V} {us:List Value} (n:Nat),Vals xs us->Vals (xs.take n) (us.take n)
 | _,_,0,_=>.nil
 | _,_,_+1,.nil=>.nil
 | _,_,n+1,.cons r t=>.cons r (Vals.take n t)
theorem Vals.drop:∀ {xs:List V} {us:List Value} (n:Nat),Vals xs us->Vals (xs.drop n) (us.drop n)
 | _,_,0,r=>r
 | _,_,_+1,.nil=>.nil
 | _,_,n+1,.cons _ t=>Vals.drop n t
theorem Vals.none_of:∀ {xs:List V} {us:List Value} {i:Nat},Vals xs us->xs[i]?=none->us[i]?=none:=fun {xs us i} r e=>by
 have h1:=r.length
 have h2:xs.length<=i:=List.getElem?_eq_none_iff.mp e
 exact List.getElem?_eq_none_iff.mpr (by omega)
def RelO:Option V->Option Value->Prop
 | some v,some u=>RelV v u
 | none,none=>True
 | _,_=>False
def KV {κ:Type}:List (κ×V)->List (κ×Value)->Prop:=Paired fun (p:κ×V) (q:κ×Value)=>p.1=q.1/\RelV p.2 q.2
def kV:Key->V
 | .inl i=>.int i
 | .inr x=>.str x
inductive HO where
 | lst (xs:List V)
 | tup (xs:List V)
 | dK (kvs:List (Key×V)) | dT (kvs:List (List Key×V))
 | set (S:Int->Bool) (n:Nat)
 | ins (C dx:Addr) (fs:List (Str×V))
 | own (x:Addr)
 | xd (fs:List (Str×V))
 | met (f x:Addr)
 | rng (lo hi:Int)
 | frz (o:Obj) (u:HO)
 | tbl (q:Str) (c:Bool)
 | ext (φ:Heap->Prop)
abbrev Hp:=Addr->Option HO
def upd (H:Hp) (a:Addr) (o:HO):Hp:=fun b=>if b=a then some o else H b
theorem ar {H:Hp} {a:Addr} {o:HO}:upd H a o a=some o:=by unfold upd;rw [if_pos rfl]
theorem aq {H:Hp} {a b:Addr} {o:HO} (h:b≠a):upd H a o b=H b:=by unfold upd;rw [if_neg h]
theorem ne_of_none {H:Hp} {a b:Addr} {o:HO} (h:H a=some o) (h':H b=none):a≠b:=by
 intro e;subst e;rw [h] at h';cases h'
def IsTupN (h:Heap) (a:Addr) (its:Array Value):Prop:=∃ o,h.get? a=some o/\o.cls=.type "tuple" /\ (∃ n,o.data=.seq its n)/\o.dict=none
theorem IsTupN.is {h:Heap} {a:Addr} {its:Array Value} (x:IsTupN h a its):IsTup h a its:=by obtain ⟨o,e,c,d,_⟩:=x;exact ⟨o,e,c,d⟩
theorem IsTupN.lt {h:Heap} {a:Addr} {its:Array Value} (x:IsTupN h a its):a<h.objs.size:=x.is.lt
theorem IsTupN.new (h:Heap) (its:Array Value):IsTupN (h.push {cls:=.type "tuple",data:=.seq its}) h.objs.size its:=⟨_,Heap.get?_push_size _ rfl,rfl,⟨_,rfl⟩,rfl⟩
section
variable (P:Program) (w:World)
def ObjOk (H:Hp) (h:Heap) (a:Addr):HO->Prop
 | .lst xs=>xs.length<=sizeLine/\∃ (its:List Value) (n:Nat),Vals xs its/\h.get? a=some {cls:=.type "list",data:=.seq its.toArray n}
 | .tup xs=>xs.length<=sizeLine/\∃ its:List Value,Vals xs its/\IsTupN h a its.toArray
 | .dK kvs=>kvs.length<=sizeLine/\(a==sysModules)=false/\∃ vs,KV kvs vs/\h.DictOf (mixKind P w) a vs
 | .dT kvs=>kvs.length<=sizeLine/\(a==sysModules)=false/\∃ xs:List (List Key×Addr×Value),
   Paired (fun (p:List Key×V) (q:List Key×Addr×Value)=>p.1=q.1/\H q.2.1=some (.tup (p.1.map kV))/\RelV p.2 q.2.2) kvs xs /\
   ∃ o es ep,h.get? a=some o/\o.ExactDict/\o.data=.dict es ep/\es.toList=xs.map (entryOfKey (tupleKind (mixKind P w)))/\(xs.map (·.1)).Nodup
 | .set S n=>h.SetOf (intKind P w) a S n
 | .ins C dx fs=>H dx=some (.own a)/\fs.length<=1000/\dx≠a/\h.get? a=some (PySem.W.instObj C dx) /\
   ∃ mA,h.Ns1 dx mA/\(∀ f,RelO (fs.lookup f) (mA f))/\PySem.Within mA (fs.map (·.1))
 | .own _=>∃ o,h.get? a=some o
 | .xd fs=>∃ mA,h.Ns1 a mA/\∀ f,RelO (fs.lookup f) (mA f)
 | .rng lo hi=>∃ t u v,h.get? a=some {cls:=.type "range",data:=.fields #[.int lo t,.int hi u,.int 1 v]}
 | .frz o u=>h.get? a=some o/\ObjOk H h a u
 | .tbl q true=>h.CodeRec (.ref a) q
 | .tbl q false=>∃ ts:Array Value,h.get? a=some {cls:=.none,data:=.fields ts}/\TriplesOk ts.toList/\∀ (pos:Pos) (cv:Value),codeAmong pos ts.toList=some cv->∃ c,cv=.ref c/\H c=some (.tbl q true)
 | .met f x=>h.get? a=some (PySem.W.methodObj (.ref f) (.ref x))
 | .ext φ=>φ h/\(∃ o,h.get? a=some o)/\∀ h1 h2:Heap,φ h1->(∀ o,h1.get? a=some o->h2.get? a=some o)->φ h2
def HOk (H:Hp) (h:Heap):Prop:=∀ a o,H a=some o->ObjOk P w H h a o
end
section
variable {P:Program} {w:World} {H H':Hp} {h h':Heap} {a:Addr} {o:HO}
theorem ObjOk.lt (x:ObjOk P w H h a o):a<h.objs.size:=by
 cases o with
 | lst xs=>obtain ⟨_,_,_,_,e⟩:=x;exact Heap.lt_size e
 | tup xs=>obtain ⟨_,_,_,p⟩:=x;exact p.lt
 | dK kvs=>obtain ⟨_,_,_,_,o,_,_,e,_⟩:=x;exact Heap.lt_size e
 | dT kvs=>obtain ⟨_,_,_,_,o,_,_,e,_⟩:=x;exact Heap.lt_size e
 | set S n=>obtain ⟨o,_,_,_,e,_⟩:=x;exact Heap.lt_size e
 | ins C dx fs=>obtain ⟨_,_,_,e,_⟩:=x;exact Heap.lt_size e
 | own y=>obtain ⟨_,e⟩:=x;exact Heap.lt_size e
 | xd fs=>obtain ⟨_,⟨_,_,_,e,_⟩,_⟩:=x;exact Heap.lt_size e
 | rng lo hi=>obtain ⟨_,_,_,e⟩:=x;exact Heap.lt_size e
 | frz ob u=>obtain ⟨e,_⟩:=x;exact Heap.lt_size e
 | tbl q c =>
  cases c with
  | true=>obtain ⟨_,o,_,_,e,g,_⟩:=(show h.CodeRec (.ref a) q from x);cases e;exact Heap.lt_size g
  | false=>obtain ⟨_,e,_⟩:=x;exact Heap.lt_size e
 | met f y=>exact Heap.lt_size (show h.get? a=some _ from x)
 | ext φ=>obtain ⟨_,⟨_,e⟩,_⟩:=x;exact Heap.lt_size e
theorem Paired.mapP {α β:Type} {F G:α->β->Prop}:∀ {l₁:List α} {l₂:List β},Paired F l₁ l₂->(∀ a b,F a b->G a b)->Paired G l₁ l₂
 | _,_,.nil,_=>.nil
 | _,_,.cons r t,f=>.cons (f _ _ r) (Paired.mapP t f)
theorem ObjOk.stay (x:ObjOk P w H h a o) (k:∀ b u,(b=a\/H b=some (.own a))->h.get? b=some u->h'.get? b=some u)
  (ho:∀ b,H b=some (.own a)->H' b=some (.own a)) (ht:∀ b xs,H b=some (.tup xs)->H' b=some (.tup xs)) (hc:∀ b q c,H b=some (.tbl q c)->H' b=some (.tbl q c)):ObjOk P w H' h' a o:=by
 induction o with
 | lst xs=>obtain ⟨z,its,n,r,e⟩:=x;exact ⟨z,its,n,r,k _ _ (.inl rfl) e⟩
 | tup xs=>obtain ⟨z,its,r,ob,e,c⟩:=x;exact ⟨z,its,r,ob,k _ _ (.inl rfl) e,c⟩
 | dK kvs=>obtain ⟨z,y,vs,r,ob,es,ep,e,c⟩:=x;exact ⟨z,y,vs,r,ob,es,ep,k _ _ (.inl rfl) e,c⟩
 | dT kvs =>
  obtain ⟨z,y,xs,r,ob,es,ep,e,c⟩:=x
  exact ⟨z,y,xs,Paired.mapP r fun p q z=>⟨z.1,ht _ _ z.2.1,z.2.2⟩,ob,es,ep,k _ _ (.inl rfl) e,c⟩
 | set S n=>obtain ⟨ob,es,ep,t,e,c⟩:=x;exact ⟨ob,es,ep,t,k _ _ (.inl rfl) e,c⟩
 | ins C dx fs =>
  obtain ⟨d,z,ne,e,mA,⟨od,es,ep,e2,c⟩,r⟩:=x
  exact ⟨ho _ d,z,ne,k _ _ (.inl rfl) e,mA,⟨od,es,ep,k _ _ (.inr d) e2,c⟩,r⟩
 | own y=>obtain ⟨ob,e⟩:=x;exact ⟨ob,k _ _ (.inl rfl) e⟩
 | xd fs=>obtain ⟨mA,⟨od,es,ep,e,c⟩,r⟩:=x;exact ⟨mA,⟨od,es,ep,k _ _ (.inl rfl) e,c⟩,r⟩
 | rng lo hi=>obtain ⟨t,u,v,e⟩:=x;exact ⟨t,u,v,k _ _ (.inl rfl) e⟩
 | frz ob u ih=>obtain ⟨e,q⟩:=x;exact ⟨k _ _ (.inl rfl) e,ih q⟩
 | tbl q c =>
  cases c with
  | true =>
   obtain ⟨_,o,vs,t,e,g,r⟩:=(show h.CodeRec (.ref a) q from x)
   cases e
   exact ⟨a,o,vs,t,rfl,k _ _ (.inl rfl) g,r⟩
  | false =>
   obtain ⟨ts,e,t,r⟩:=x
   refine ⟨ts,k _ _ (.inl rfl) e,t,fun pos cv hcv=>?_⟩
   obtain ⟨c,e1,e2⟩:=r pos cv hcv
   exact ⟨c,e1,hc _ _ _ e2⟩
 | met f y =>
  have e:h.get? a=some (PySem.W.methodObj (.ref f) (.ref y)):=x
  show h'.get? a=some (PySem.W.methodObj (.ref f) (.ref y))
  exact k a _ (.inl rfl) e
 | ext φ=>obtain ⟨p,⟨o,e⟩,st⟩:=x;exact ⟨st _ _ p fun o q=>k _ _ (.inl rfl) q,⟨o,k _ _ (.inl rfl) e⟩,st⟩
theorem HOk.lt (x:HOk P w H h) (e:H a=some o):a<h.objs.size:=(x a o e).lt
theorem HOk.fresh (x:HOk P w H h) (e:h.objs.size<=a):H a=none:=by
 cases q:H a with
 | none=>rfl
 | some u=>exact absurd (Nat.lt_of_lt_of_le (x.lt q) e) (Nat.lt_irrefl _)
theorem HOk.kept (x:HOk P w H h) (k:∀ b u,h.get? b=some u->h'.get? b=some u):HOk P w H h':=fun a o e =>
 (x a o e).stay (fun b u _ q=>k b u q) (fun _ q=>q) (fun _ _ q=>q) fun _ _ _ q=>q
theorem HOk.laid (x:HOk P w H h) (k:∀ b u,h.get? b=some u->h'.get? b=some u) (hp:h.objs.size<=a) (new:ObjOk P w (upd H a o) h' a o):HOk P w (upd H a o) h':=fun b u e=>by
 have hn:=x.fresh hp
 by_cases hb:b=a
 ·subst hb;rw [ar] at e;cases e;exact new
 ·rw [aq hb] at e
  exact (x b u e).stay (fun c v _ q=>k c v q) (fun c q=>by rw [aq (ne_of_none q hn)];exact q) (fun c xs q=>by rw [aq (ne_of_none q hn)];exact q) fun c _ _ q=>by rw [aq (ne_of_none q hn)];exact q
end
def Rd (H:Hp) (a:Addr) (u:HO):Prop:=H a=some u\/∃ o,H a=some (.frz o u)
theorem Rd.of {H:Hp} {a:Addr} {u:HO} (h:H a=some u):Rd H a u:=.inl h
theorem Rd.ok {P:Program} {w:World} {H:Hp} {h:Heap} {a:Addr} {u:HO} (r:Rd H a u) (x:HOk P w H h):ObjOk P w H h a u:=by
 rcases r with r | ⟨o,r⟩
 ·exact x a u r
 ·obtain ⟨_,q⟩:=x a _ r
  exact q
def Mut:Option HO->Prop
 | some (.lst _)=>True
 | some (.dK _)=>True
 | some (.dT _)=>True
 | some (.set _ _)=>True
 | some (.ins _ _ _)=>True
 | some (.ext _)=>True
 | some (.frz _ (.own _))=>True
 | _=>False
section
variable {P:Program} {w:World} {H:Hp} {h h':Heap} {x e:Addr} {o':HO}
theorem HOk.write (ok:HOk P w H h) (mu:Mut (H x)) (he:e=x\/H e=some (.own x)) (k:∀ b u,b≠e->h.get? b=some u->h'.get? b=some u) (heo:∃ u,h'.get? e=some u)
  (new:ObjOk P w (upd H x o') h' x o'):HOk P w (upd H x o') h':=fun b u q=>by
 have nown:∀ c y,H c=some (.own y)->c≠x:=fun c y r z=>by subst z;rw [r] at mu;exact mu
 have ntup:∀ c xs,H c=some (.tup xs)->c≠x:=fun c xs r z=>by subst z;rw [r] at mu;exact mu
 by_cases hb:b=x
 ·subst hb;rw [ar] at q;cases q;exact new
 ·rw [aq hb] at q
  by_cases hbe:b=e
  ·have q':H b=some (.own x):=by
    rcases he with z | z
    ·exact absurd (hbe.trans z) hb
    ·rw [hbe];exact z
   rw [q] at q';cases q'
   obtain ⟨v,hv⟩:=heo
   exact ⟨v,by rw [hbe];exact hv⟩
  ·refine (ok b u q).stay (fun c v hc r=>k c v ?_ r) (fun c r=>by rw [aq (nown c b r)];exact r) (fun c xs r=>by rw [aq (ntup c xs r)];exact r) fun c q d r=>by rw [aq fun z=>by subst z;rw [r] at mu;exact mu];exact r
   rcases hc with rfl | hc
   ·exact hbe
   ·rintro rfl
    rcases he with z | z
    ·exact nown c b hc z
    ·rw [hc] at z;cases z;exact hb rfl
end
structure Un (fs ex:List Addr) (H H':Hp) (h h':Heap):Prop where
 keep:∀ b o,h.get? b=some o->H b=none->b∉fs->b∉ex->h'.get? b=some o
 slot:∀ b o,h.get? b=some o->H b=none->b∈fs->b∉ex->∃ sl,h'.get? b=some {o with slots:=sl}
 free:∀ b o,h.get? b=some o->H b=none->b∉ex->H' b=none
 there:∀ b o,h.get? b=some o->b∉ex->∃ o',h'.get? b=some o'
 tups:∀ b xs,H b=some (.tup xs)->H' b=some (.tup xs)
 frzs:∀ b o u,(∀ y,u≠.own y)->H b=some (.frz o u)->H' b=some (.frz o u)
 tbls:∀ b q c,H b=some (.tbl q c)->H' b=some (.tbl q c)
section
variable {fs fs' ex ex':List Addr} {H H1 H2:Hp} {h h1 h2 h':Heap} {a x e:Addr} {o:HO}
theorem Un.any (u:Un fs ex H H1 h h1) {b:Addr} {ob:Obj} (q:h.get? b=some ob) (n:H b=none) (hx:b∉ex):∃ sl,h1.get? b=some {ob with slots:=sl}:=by
 by_cases hb:b∈fs
 ·exact u.slot b ob q n hb hx
 ·exact ⟨ob.slots,u.keep b ob q n hb hx⟩
theorem Un.trans (a:Un fs ex H H1 h h1) (b:Un fs ex H1 H2 h1 h2):Un fs ex H H2 h h2 where
 keep:=fun c ob q n hc hx=>b.keep c ob (a.keep c ob q n hc hx) (a.free c ob q n hx) hc hx
 slot:=fun c ob q n hc hx=>by
  obtain ⟨sl,e1⟩:=a.slot c ob q n hc hx
  obtain ⟨sl',e2⟩:=b.slot c _ e1 (a.free c ob q n hx) hc hx
  exact ⟨sl',e2⟩
 free:=fun c ob q n hx=>by
  obtain ⟨o',e1⟩:=a.there c ob q hx
  exact b.free c o' e1 (a.free c ob q n hx) hx
 there:=fun c ob q hx=>by
  obtain ⟨o',e1⟩:=a.there c ob q hx
  exact b.there c o' e1 hx
 tups:=fun c xs q=>b.tups c xs (a.tups c xs q)
 frzs:=fun c ob xs ny q=>b.frzs c ob xs ny (a.frzs c ob xs ny q)
 tbls:=fun c ps d q=>b.tbls c ps d (a.tbls c ps d q)
theorem Un.kept (k:∀ b u,h.get? b=some u->h'.get? b=some u):Un fs ex H H h h' :=
 ⟨fun b ob q _ _ _=>k b ob q,fun b ob q _ _ _=>⟨ob.slots,k b ob q⟩,fun _ _ _ n _=>n,fun b ob q _=>⟨ob,k b ob q⟩,fun _ _ q=>q,fun _ _ _ _ q=>q,fun _ _ _ q=>q⟩
theorem Un.refl:Un fs ex H H h h:=Un.kept fun _ _ q=>q
theorem Un.laid (k:∀ b u,h.get? b=some u->h'.get? b=some u) (hp:h.objs.size<=a) (hn:H a=none):Un fs ex H (upd H a o) h h' where
 keep:=fun b u q _ _ _=>k b u q
 slot:=fun b u q _ _ _=>⟨u.slots,k b u q⟩
 free:=fun b u q n _=>by rw [aq (Nat.ne_of_lt (Nat.lt_of_lt_of_le (Heap.lt_size q) hp))];exact n
 there:=fun b u q _=>⟨u,k b u q⟩
 tups:=fun b xs q=>by rw [aq (ne_of_none q hn)];exact q
 frzs:=fun b u xs _ q=>by rw [aq (ne_of_none q hn)];exact q
 tbls:=fun b ps _ q=>by rw [aq (ne_of_none q hn)];exact q
theorem Un.write (mu:Mut (H x)) (he:e=x\/H e=some (.own x)) (k:∀ b u,b≠e->h.get? b=some u->h'.get? b=some u) (heo:∃ u,h'.get? e=some u):Un fs ex H (upd H x o) h h':=by
 have hx:∀ b,H b=none->b≠x:=fun b n z=>by subst z;rw [n] at mu;exact mu
 have hb:∀ b,H b=none->b≠e:=fun b n z=>by
  subst z
  rcases he with r | r
  ·exact hx b n r
  ·rw [n] at r;cases r
 have hm:∀ b u,H b=some u->¬ Mut (some u)->b≠x:=fun b u q nm z=>by subst z;rw [q] at mu;exact nm mu
 refine ⟨fun b u q n _ _=>k b u (hb b n) q,fun b u q n _ _=>⟨u.slots,k b u (hb b n) q⟩,fun b u q n _=>by rw [aq (hx b n)];exact n,fun b u q _=>?_,
  fun b xs q=>by rw [aq (hm b _ q fun z=>z)];exact q,fun b u xs ny q=>by rw [aq (hm b _ q (by intro z;cases xs<;>first | exact z | exact ny _ rfl))];exact q,fun b ps _ q=>by rw [aq (hm b _ q fun z=>z)];exact q⟩
 by_cases hbe:b=e
 ·subst hbe;exact heo
 ·exact ⟨u,k b u hbe q⟩
theorem Un.mono (u:Un fs ex H H1 h h1) (hs:∀ b∈fs,b∈fs') (hx:∀ b∈ex,b∈ex'):Un fs' ex' H H1 h h1 :=
 ⟨fun b ob q n hb he=>u.keep b ob q n (fun z=>hb (hs b z)) fun z=>he (hx b z),fun _ _ q n _ he=>u.any q n fun z=>he (hx _ z),fun b ob q n he=>u.free b ob q n fun z=>he (hx b z),fun b ob q he=>u.there b ob q fun z=>he (hx b z),u.tups,u.frzs,u.tbls⟩
end
def trk (h:Heap) (H:Hp):List Addr:=(List.range h.objs.size).filter fun a=>(H a).isSome
def hidT (h:Heap) (H:Hp):Heap:=PySem.W.hideAll h (trk h H)
theorem hidT_size (h:Heap) (H:Hp):(hidT h H).objs.size=h.objs.size:=PySem.W.hideAll_size _ _
theorem hidT_get {h:Heap} {H:Hp} {b:Addr} {o:Obj} (e:h.get? b=some o) (n:H b=none):(hidT h H).get? b=some o :=
 PySem.W.hideAll_get _ e fun hm=>by
  have q:(H b).isSome=true:=(List.mem_filter.mp hm).2
  rw [n] at q;simp at q
theorem of_hidT {h:Heap} {H:Hp} {b:Addr} {o:Obj} (e:(hidT h H).get? b=some o):h.get? b=some o/\H b=none:=by
 have e':h.get? b=some o:=PySem.W.of_hideAll (trk h H) e
 refine ⟨e',?_⟩
 cases q:H b with
 | none=>rfl
 | some x =>
  have hm:b∈trk h H:=List.mem_filter.mpr ⟨List.mem_range.mpr (Heap.lt_size e'),by simp [q]⟩
  have z:(hidT h H).get? b=none:=PySem.W.hideAll_none (trk h H) hm
  rw [z] at e;cases e
def allNews (g h:Heap) (L:Addr):List (Addr×Obj):=(List.range h.objs.size).filterMap fun a=>if a=L\/(g.get? a).isSome=true then none else (h.get? a).map fun o=>(a,o)
def rest (g h:Heap) (L d:Addr):List (Addr×Obj):=(allNews g h L).filter fun p=>decide (p.1≠d)
end L2
namespace L2
open PySem PySem.Spec PyProof.Rows
structure Mod (K:PySem.W.Frag) (mg:Str->Option Value) (base:Heap):Prop where
 kin:K.In base
 glob:base.Ns mainGlobals mg
 blt:∃ mb,base.Ns builtinsNs mb/\∀ x:Str,x ≠ "__name__" -> mb x=bootBuiltins x
 nolimit:base.NoLimit
structure Cx where
 prog:Program
 w:World
 K:PySem.W.Frag
 mg:Str->Option Value
 base:Heap
 A:Around
 N:List Str
 s₀:Shared
 H₀:Hp
 env:Env
 outer:List Env
 stack:List Env
 ex:List Addr
 fn:Str->Bool
 calm:Bool
 pn:List (Addr×Obj)
 xe:Value->Shared->Prop
def frs (l:List Env):List Addr:=l.filterMap (·.frame)
abbrev Cx.fs (X:Cx):List Addr:=frs X.outer
def Vis (sc:Scope) (x:Str):Prop:=sc.names.lookup x=some .local\/sc.names.lookup x=some .cell\/sc.names.lookup x=some .free
def Loc (sc:Scope) (x:Str):Prop:=sc.names.lookup x=some .local\/sc.names.lookup x=some .cell
def Look (env:Env) (h:Heap) (m:Str->Option Value) (x:Str) (u:Value):Prop :=
 (env.kindOf x=some .local/\m x=some u)\/((env.kindOf x=some .cell\/env.kindOf x=some .free)/\∃ c,env.cells.lookup x=some c/\h.IsCell c (some u))
structure Cx.Ok (X:Cx):Prop where
 mod:Mod X.K X.mg X.base
 kind:X.env.scope.kind=.function
 glob:X.env.globals=mainGlobals
 blt:X.env.builtins=builtinsNs
 above:X.s₀.heap.objs.size<=X.env.locals
 inj:∀ x y c,X.env.cells.lookup x=some c->X.env.cells.lookup y=some c->x=y
 has:∀ x,(X.env.kindOf x=some .cell\/X.env.kindOf x=some .free)->∃ c,X.env.cells.lookup x=some c
 cab:∀ x c,X.fn x=true->X.env.cells.lookup x=some c->X.s₀.heap.objs.size<=c
 hd:X.calm=true->X.A.handled=none
 frames:X.A.frames=some X.stack
 stk:X.stack=X.outer\/(X.stack=X.env::X.outer/\X.env.frame=some X.env.locals)
 exf:∀ b∈X.ex,b≠X.env.locals/\∀ x c,X.env.cells.lookup x=some c->c≠b
 bs:∀ b o,X.base.get? b=some o->X.s₀.heap.get? b=some o/\X.H₀ b=none
 bsz:X.base.objs.size<=X.s₀.heap.objs.size
 noex:∀ b o,X.base.get? b=some o->b∉X.ex
 exfs:∀ b∈X.ex,b∉X.fs
 funs:X.s₀.heap.FunFrames X.base X.outer
 frf:∀ b∈X.fs,X.H₀ b=none
structure Inv (X:Cx) (pins:List (Addr×Obj)) (σ:List (Option V)) (H:Hp) (s:Shared):Prop where
 ok:X.Ok
 os:s.os=X.s₀.os
 bare:AllBare s.gens
 base:Un X.fs X.ex X.H₀ H X.s₀.heap s.heap
 loc:∃ m,s.heap.Ns X.env.locals m/\∀ (i:Nat) (x:Str) (v:V),X.N[i]?=some x->σ[i]?=some (some v)->Vis X.env.scope x->∃ u,RelV v u/\Look X.env s.heap m x u
 cell:∀ x c,X.env.cells.lookup x=some c->∃ v,s.heap.IsCell c v
 free:H X.env.locals=none
 freeC:∀ x c,X.env.cells.lookup x=some c->H c=none
 pin:∀ p∈X.pn++pins,s.heap.get? p.1=some p.2/\H p.1=none/\p.1≠X.env.locals/\p.1∉X.fs/\∀ v,p.2.data≠.cell v
 hok:HOk X.prog X.w H s.heap
 len:σ.length=X.N.length
section
variable {X:Cx} {pins:List (Addr×Obj)} {σ:List (Option V)} {H H':Hp} {s:Shared} {h':Heap}
theorem Cx.Ok.nofr (ok:X.Ok) {b:Addr} {o:Obj} (e:X.base.get? b=some o):b∉X.fs:=fun hb=>by
 have:=(ok.funs.mem hb).1
 rw [e] at this;cases this
theorem Inv.bs (I:Inv X pins σ H s):∀ b o,X.base.get? b=some o->s.heap.get? b=some o/\H b=none:=fun b o e =>
 ⟨I.base.keep b o (I.ok.bs b o e).1 (I.ok.bs b o e).2 (I.ok.nofr e) (I.ok.noex b o e),I.base.free b o (I.ok.bs b o e).1 (I.ok.bs b o e).2 (I.ok.noex b o e)⟩
theorem Inv.bk (I:Inv X pins σ H s):∀ b o,X.base.get? b=some o->s.heap.get? b=some o:=fun b o e=>(I.bs b o e).1
theorem Inv.mod (I:Inv X pins σ H s):Mod X.K X.mg X.base:=I.ok.mod
theorem Inv.kIn (I:Inv X pins σ H s):X.K.In s.heap:=I.ok.mod.kin.keeps I.bk
theorem Inv.nolimit (I:Inv X pins σ H s):s.heap.NoLimit:=I.ok.mod.nolimit.keeps I.bk
theorem Inv.fr (I:Inv X pins σ H s):∃ m,Fr X.base X.env.locals s.heap m :=
 let ⟨m,hn,_⟩:=I.loc
 ⟨m,hn,I.bk,Nat.le_trans I.ok.bsz I.ok.above⟩
theorem Inv.lt (I:Inv X pins σ H s):X.env.locals<s.heap.objs.size:=let ⟨_,hn,_⟩:=I.loc;hn.lt
theorem Inv.sz (I:Inv X pins σ H s):X.s₀.heap.objs.size<=s.heap.objs.size:=Nat.le_trans I.ok.above (Nat.le_of_lt I.lt)
theorem Inv.nofs (I:Inv X pins σ H s) {a:Addr} (h:s.heap.objs.size<=a):a∉X.fs:=fun hb=>by
 obtain ⟨_,o,ho,_⟩:=I.ok.funs.mem hb
 exact absurd (Nat.lt_of_lt_of_le (Heap.lt_size ho) (Nat.le_trans I.sz h)) (Nat.lt_irrefl _)
theorem Inv.cne (I:Inv X pins σ H s):∀ x c,X.env.cells.lookup x=some c->c≠X.env.locals:=fun x c e z=>by
 obtain ⟨v,o,ho,hd⟩:=I.cell x c e
 obtain ⟨m,⟨o',es,ep,ho',hd',_⟩,_⟩:=I.loc
 rw [z,ho'] at ho;cases ho;rw [hd'] at hd;cases hd
theorem Inv.funs (I:Inv X pins σ H s):s.heap.FunFrames X.base X.outer:=by
 have all:∀ (l:List Env),(∀ b∈frs l,b∈X.fs)->X.s₀.heap.FunFrames X.base l->s.heap.FunFrames X.base l:=by
  intro l
  induction l with
  | nil=>intro _ _;trivial
  | cons env r ih =>
   intro hs hl
   obtain ⟨hk,⟨L,o,hf,hn,ho,hd⟩,hr⟩:=hl
   have hL:L∈X.fs:=hs L (by unfold frs;rw [List.filterMap_cons,hf];exact List.mem_cons_self)
   obtain ⟨sl,e⟩:=I.base.slot L o ho (I.ok.frf L hL) hL fun z=>I.ok.exfs L z hL
   exact ⟨hk,⟨L,_,hf,hn,e,hd⟩,ih (fun b hb=>hs b (by unfold frs;rw [List.filterMap_cons,hf];exact List.mem_cons_of_mem _ hb)) hr⟩
 exact all X.outer (fun _ hb=>hb) I.ok.funs
theorem Inv.stack (I:Inv X pins σ H s):s.heap.FunFrames X.base X.stack:=by
 rcases I.ok.stk with e | ⟨e,hf⟩
 ·rw [e];exact I.funs
 ·rw [e]
  obtain ⟨m,hn,_⟩:=I.loc
  refine .cons (by rw [I.ok.kind];decide) hf hn ?_ I.funs
  exact Heap.get?_none_of_le (Nat.le_trans I.ok.bsz I.ok.above)
theorem Inv.stkSub (I:Inv X pins σ H s):∀ b∈frs X.stack,b∈X.env.locals::X.fs:=fun b hb=>by
 rcases I.ok.stk with e | ⟨e,hf⟩
 ·rw [e] at hb;exact List.mem_cons_of_mem _ hb
 ·rw [e] at hb
  unfold frs at hb
  rw [List.filterMap_cons,hf] at hb
  exact hb
theorem Inv.stkFree (I:Inv X pins σ H s):∀ b∈frs X.stack,H b=none:=fun b hb=>by
 rcases List.mem_cons.mp (I.stkSub b hb) with e | hb
 ·rw [e];exact I.free
 ·obtain ⟨_,o,ho,_⟩:=I.ok.funs.mem hb
  exact I.base.free b o ho (I.ok.frf b hb) fun z=>I.ok.exfs b z hb
theorem Inv.step {g':Array GenState} {t':Nat} {d':Drawn} {ch:List Addr} (I:Inv X pins σ H s)
  (hch:∀ b∈ch,(b∈X.ex\/X.s₀.heap.objs.size<=b)/\b≠X.env.locals/\(∀ x c,X.env.cells.lookup x=some c->c≠b)/\∀ p∈X.pn++pins,p.1≠b)
  (keep:∀ b o,b≠X.env.locals->b∉X.fs->b∉ch->s.heap.get? b=some o->H b=none->h'.get? b=some o)
  (slot:∀ b o,b≠X.env.locals->b∈X.fs->b∉ch->s.heap.get? b=some o->H b=none->∃ sl,h'.get? b=some {o with slots:=sl}) (free:∀ b o,b∉ch->s.heap.get? b=some o->H b=none->H' b=none)
  (there:∀ b o,b∉ch->s.heap.get? b=some o->∃ o',h'.get? b=some o')
  (tups:∀ b xs,H b=some (.tup xs)->H' b=some (.tup xs)) (frzs:∀ b o u,(∀ y,u≠.own y)->H b=some (.frz o u)->H' b=some (.frz o u)) (tbls:∀ b q c,H b=some (.tbl q c)->H' b=some (.tbl q c))
  (ns:∀ m,s.heap.Ns X.env.locals m->h'.Ns X.env.locals m) (hok:HOk X.prog X.w H' h') (hg:AllBare g') :
  Inv X pins σ H' {s with heap:=h',gens:=g',drawn:=d',toks:=t' }:=by
 have neL:∀ b o,X.s₀.heap.get? b=some o->b≠X.env.locals:=fun b o e=>Nat.ne_of_lt (Nat.lt_of_lt_of_le (Heap.lt_size e) I.ok.above)
 have neC:∀ b o,X.s₀.heap.get? b=some o->b∉X.ex->b∉ch:=fun b o e hx hb=>by
  rcases (hch b hb).1 with z | z
  ·exact hx z
  ·exact absurd (Nat.lt_of_lt_of_le (Heap.lt_size e) z) (Nat.lt_irrefl _)
 have cellK:∀ x c,X.env.cells.lookup x=some c->∀ v,s.heap.IsCell c v->h'.IsCell c v:=fun x c e v ⟨o,ho,hd⟩=>by
  have nch:c∉ch:=fun z=>(hch c z).2.2.1 x c e rfl
  by_cases hc:c∈X.fs
  ·obtain ⟨sl,q⟩:=slot c o (I.cne x c e) hc nch ho (I.freeC x c e)
   exact ⟨_,q,hd⟩
  ·exact ⟨o,keep c o (I.cne x c e) hc nch ho (I.freeC x c e),hd⟩
 refine ⟨I.ok,I.os,hg,⟨fun b o e n hb hx=>?_,fun b o e n hb hx=>?_,fun b o e n hx=>?_,fun b o e hx=>?_,fun b xs e=>tups b xs (I.base.tups b xs e),fun b o xs ny e=>frzs b o xs ny (I.base.frzs b o xs ny e),fun b ps d e=>?_⟩,?_,fun x c e=>?_,?_,fun x c e=>?_,fun p hp=>?_,hok,I.len⟩
 ·exact keep b o (neL b o e) hb (neC b o e hx) (I.base.keep b o e n hb hx) (I.base.free b o e n hx)
 ·obtain ⟨sl,e1⟩:=I.base.slot b o e n hb hx
  obtain ⟨sl',e2⟩:=slot b _ (neL b o e) hb (neC b o e hx) e1 (I.base.free b o e n hx)
  exact ⟨sl',e2⟩
 ·obtain ⟨o',e1⟩:=I.base.there b o e hx
  exact free b o' (neC b o e hx) e1 (I.base.free b o e n hx)
 ·obtain ⟨o',e1⟩:=I.base.there b o e hx
  exact there b o' (neC b o e hx) e1
 ·exact tbls b ps d (I.base.tbls b ps d e)
 ·obtain ⟨m,hn,hl⟩:=I.loc
  refine ⟨m,ns m hn,fun i x v e1 e2 e3=>?_⟩
  obtain ⟨u,r,l⟩:=hl i x v e1 e2 e3
  refine ⟨u,r,?_⟩
  rcases l with l | ⟨k,c,e,z⟩
  ·exact .inl l
  ·exact .inr ⟨k,c,e,cellK x c e _ z⟩
 ·obtain ⟨v,z⟩:=I.cell x c e
  exact ⟨v,cellK x c e v z⟩
 ·obtain ⟨m,⟨o,_,_,ho,_⟩,_⟩:=I.loc
  exact free _ o (fun z=>(hch _ z).2.1 rfl) ho I.free
 ·obtain ⟨v,o,ho,hd⟩:=I.cell x c e
  exact free c o (fun z=>(hch c z).2.2.1 x c e rfl) ho (I.freeC x c e)
 ·obtain ⟨e,n,ne,nf,d⟩:=I.pin p hp
  have nch:p.1∉ch:=fun z=>(hch p.1 z).2.2.2 p hp rfl
  exact ⟨keep p.1 p.2 ne nf nch e n,free p.1 p.2 nch e n,ne,nf,d⟩
theorem Inv.un {t':Nat} (I:Inv X pins σ H s) (u:Un X.fs [] H H' s.heap h') (hok:HOk X.prog X.w H' h'):Inv X pins σ H' {s with heap:=h',toks:=t' }:=by
 obtain ⟨m,⟨o,es,ep,ho,r⟩,_⟩:=id I.loc
 obtain ⟨sl,hL⟩:=u.any ho I.free (by simp)
 exact I.step (g':=s.gens) (d':=s.drawn) (ch:=[]) (fun _ z=>nomatch z) (fun b o _ hb _ e n=>u.keep b o e n hb (by simp)) (fun b o _ hb _ e n=>u.slot b o e n hb (by simp)) (fun b o _ e n=>u.free b o e n (by simp)) (fun b o _ e=>u.there b o e (by simp)) u.tups u.frzs u.tbls (fun m' hm=>by
  obtain ⟨o',es',ep',ho',r'⟩:=hm
  rw [ho] at ho';cases ho'
  exact ⟨_,es',ep',hL,r'⟩) hok I.bare
theorem Inv.call {g':Array GenState} {t':Nat} {d':Drawn} {ch:List Addr} (I:Inv X pins σ H s) (u:Un (frs X.stack) ch H H' s.heap h') (hok:HOk X.prog X.w H' h') (hg:AllBare g')
  (hch:∀ b∈ch,(b∈X.ex\/X.s₀.heap.objs.size<=b)/\b≠X.env.locals/\(∀ x c,X.env.cells.lookup x=some c->c≠b)/\∀ p∈X.pn++pins,p.1≠b) :
  Inv X pins σ H' {s with heap:=h',gens:=g',drawn:=d',toks:=t' }:=by
 obtain ⟨m,⟨o,es,ep,ho,r⟩,_⟩:=id I.loc
 obtain ⟨sl,hL⟩:=u.any ho I.free fun z=>(hch _ z).2.1 rfl
 exact I.step (ch:=ch) hch (fun b o hL hb hc e n=>u.keep b o e n (fun z=>(List.mem_cons.mp (I.stkSub b z)).elim hL hb) hc) (fun b o _ _ hc e n=>u.any e n hc) (fun b o hc e n=>u.free b o e n hc) (fun b o hc e=>u.there b o e hc) u.tups u.frzs u.tbls (fun m' hm=>by
  obtain ⟨o',es',ep',ho',r'⟩:=hm
  rw [ho] at ho';cases ho'
  exact ⟨_,es',ep',hL,r'⟩) hok hg
theorem Inv.turned {t':Nat} {it:Addr} (I:Inv X pins σ H s) (k:∀ b o,b≠it->s.heap.get? b=some o->h'.get? b=some o) (hn:H it=none) (hL:it≠X.env.locals)
  (h1:it∈X.ex\/X.s₀.heap.objs.size<=it) (h2:∀ x c,X.env.cells.lookup x=some c->c≠it) (h3:∀ p∈X.pn++pins,p.1≠it):Inv X pins σ H {s with heap:=h',toks:=t' }:=by
 have nit:∀ b u,H b=some u->b≠it:=fun b u e z=>by rw [z,hn] at e;cases e
 refine I.step (g':=s.gens) (d':=s.drawn) (ch:=[it]) (fun b hb=>?_) (fun b o _ _ hc e _=>k b o (fun z=>hc (by simp [z])) e) (fun b o _ _ hc e _=>⟨o.slots,k b o (fun z=>hc (by simp [z])) e⟩) (fun _ _ _ _ n=>n)
  (fun b o hc e=>⟨o,k b o (fun z=>hc (by simp [z])) e⟩) (fun _ _ e=>e) (fun _ _ _ _ e=>e) (fun _ _ _ e=>e) (fun m hm=>?_) (fun b u e=>?_) I.bare
 ·have e:b=it:=by simpa using hb
  subst e
  exact ⟨h1,hL,h2,h3⟩
 ·obtain ⟨o,es,ep,ho,r⟩:=hm
  exact ⟨o,es,ep,k _ o (Ne.symm hL) ho,r⟩
 ·refine (I.hok b u e).stay (fun c v hc q=>k c v ?_ q) (fun _ q=>q) (fun _ _ q=>q) fun _ _ _ q=>q
  rcases hc with z | z
  ·rw [z];exact nit b u e
  ·exact nit c _ z
theorem Inv.tok (I:Inv X pins σ H s) (t:Nat):Inv X pins σ H {s with toks:=t}:=I.un (h':=s.heap) (t':=t) Un.refl I.hok
theorem Inv.kept {t':Nat} (I:Inv X pins σ H s) (k:∀ b u,s.heap.get? b=some u->h'.get? b=some u):Inv X pins σ H {s with heap:=h',toks:=t' }:=I.un (Un.kept k) (I.hok.kept k)
theorem Inv.laid {a:Addr} {o:HO} {t':Nat} (I:Inv X pins σ H s) (k:∀ b u,s.heap.get? b=some u->h'.get? b=some u) (hp:s.heap.objs.size<=a) (new:ObjOk X.prog X.w (upd H a o) h' a o) :
  Inv X pins σ (upd H a o) {s with heap:=h',toks:=t' }:=I.un (Un.laid k hp (I.hok.fresh hp)) (I.hok.laid k hp new)
theorem Inv.write {x e:Addr} {o:HO} {t':Nat} (I:Inv X pins σ H s) (mu:Mut (H x)) (he:e=x\/H e=some (.own x)) (k:∀ b u,b≠e->s.heap.get? b=some u->h'.get? b=some u) (heo:∃ u,h'.get? e=some u)
  (new:ObjOk X.prog X.w (upd H x o) h' x o):Inv X pins σ (upd H x o) {s with heap:=h',toks:=t' }:=I.un (Un.write mu he k heo) (I.hok.write mu he k heo new)
theorem Inv.pins_of {pins':List (Addr×Obj)} (I:Inv X pins σ H s) (h:∀ p∈pins',s.heap.get? p.1=some p.2/\H p.1=none/\p.1≠X.env.locals/\p.1∉X.fs/\∀ v,p.2.data≠.cell v):Inv X pins' σ H s :=
 ⟨I.ok,I.os,I.bare,I.base,I.loc,I.cell,I.free,I.freeC,fun p hp=>(List.mem_append.mp hp).elim (fun z=>I.pin p (List.mem_append_left _ z)) (h p),I.hok,I.len⟩
theorem nodup_ix {N:List Str} (hN:N.Nodup) {i j:Nat} {x:Str} (a:N[i]?=some x) (b:N[j]?=some x):i=j:=by
 obtain ⟨h1,e1⟩:=List.getElem?_eq_some_iff.mp a
 obtain ⟨h2,e2⟩:=List.getElem?_eq_some_iff.mp b
 exact (List.getElem_inj hN).mp (e1.trans e2.symm)
theorem store_ok2 {M:Model} {A:Around} {E:Value->Shared->Prop} {i:Nat} {x:Str} {v:V} {u:Value} {Q:Unit->Shared->Prop} (I:Inv X pins σ H s) (hN:X.N.Nodup) (hi:X.N[i]?=some x) (hx:Loc X.env.scope x) (r:RelV v u)
  (h:∀ s',Inv X pins (σ.set i (some v)) H s'->(∃ a,Heap.SameBut a s.heap s'.heap/\(a=X.env.locals\/X.env.cells.lookup x=some a))->Q () s') (hf:X.fn x=true\/X.env.scope.names.lookup x=some .local:=by first | exact .inl rfl | exact .inr rfl | assumption):wpAny M A (storeName X.env x u) Q E s:=by
 obtain ⟨m,hn,hl⟩:=id I.loc
 have hcls:(X.env.scope.kind==.class||(X.env.scope.kind==.module&&X.env.locals != X.env.globals))=false:=by rw [I.ok.kind];rfl
 have hiσ:i<σ.length:=by rw [I.len];exact (List.getElem?_eq_some_iff.mp hi).1
 have cne:=I.cne
 have tracked:∀ {a:Addr} {h':Heap},(∃ o,s.heap.get? a=some o/\H a=none)->Heap.SameBut a s.heap h'->HOk X.prog X.w H h':=fun {a h'} ha hs b ob e=>by
  obtain ⟨_,_,hfree⟩:=ha
  refine (I.hok b ob e).stay (fun c w' hc q=>(hs.2 c ?_).trans q) (fun _ q=>q) (fun _ _ q=>q) fun _ _ _ q=>q
  rintro rfl
  rcases hc with rfl | hc
  ·rw [hfree] at e;cases e
  ·rw [hfree] at hc;cases hc
 rcases hx with hk | hk
 ·refine wpAny_storeName_local hk hn (fun h' hn' hs=>?_) hcls
  obtain ⟨oL,_,_,hoL,_⟩:=id hn
  refine h _ ⟨I.ok,I.os,I.bare,⟨fun b o e n hb hx=>?_,fun b o e n hb hx=>?_,I.base.free,fun b o e hx=>?_,I.base.tups,I.base.frzs,I.base.tbls⟩,⟨_,hn',fun j y v' e1 e2 e3=>?_⟩,fun y c e=>?_,I.free,I.freeC,fun p hp=>?_,tracked ⟨oL,hoL,I.free⟩ hs,by simpa using I.len⟩ ⟨_,hs,.inl rfl⟩
  ·exact (hs.2 b (Nat.ne_of_lt (Nat.lt_of_lt_of_le (Heap.lt_size e) I.ok.above))).trans (I.base.keep b o e n hb hx)
  ·obtain ⟨sl,e1⟩:=I.base.slot b o e n hb hx
   exact ⟨sl,(hs.2 b (Nat.ne_of_lt (Nat.lt_of_lt_of_le (Heap.lt_size e) I.ok.above))).trans e1⟩
  ·obtain ⟨o',e1⟩:=I.base.there b o e hx
   exact ⟨o',(hs.2 b (Nat.ne_of_lt (Nat.lt_of_lt_of_le (Heap.lt_size e) I.ok.above))).trans e1⟩
  ·by_cases hj:j=i
   ·subst hj
    rw [hi] at e1;cases e1
    rw [List.getElem?_set_self hiσ] at e2
    cases e2
    exact ⟨u,r,.inl ⟨hk,by simp⟩⟩
   ·rw [List.getElem?_set_ne (Ne.symm hj)] at e2
    obtain ⟨u',r',q⟩:=hl j y v' e1 e2 e3
    refine ⟨u',r',?_⟩
    rcases q with ⟨k,e⟩ | ⟨k,c,e,z⟩
    ·refine .inl ⟨k,?_⟩
     have:y≠x:=fun e=>hj (nodup_ix hN e1 (e ▸ hi))
     simp [this,e]
    ·exact .inr ⟨k,c,e,z.sameBut hs (cne y c e)⟩
  ·obtain ⟨w',z⟩:=I.cell y c e
   exact ⟨w',z.sameBut hs (cne y c e)⟩
  ·obtain ⟨e,n,ne,nf,d⟩:=I.pin p hp
   exact ⟨(hs.2 p.1 ne).trans e,n,ne,nf,d⟩
 ·have hfn:X.fn x=true:=by
   rcases hf with z | z
   ·exact z
   ·rw [z] at hk;cases hk
  obtain ⟨c,hc⟩:=I.ok.has x (.inl hk)
  obtain ⟨w',z⟩:=I.cell x c hc
  refine wpAny_storeName_cell I.ok.kind hk hc z (fun h' hc' hs=>?_)
  obtain ⟨oc,hoc,hocd⟩:=id z
  refine h {s with heap:=h' } ⟨I.ok,I.os,I.bare,⟨fun b o e n hb hx=>?_,fun b o e n hb hx=>?_,I.base.free,fun b o e hx=>?_,I.base.tups,I.base.frzs,I.base.tbls⟩,⟨m,hn.sameBut hs (Ne.symm (cne x c hc)),fun j y v' e1 e2 e3=>?_⟩,fun y c' e=>?_,I.free,I.freeC,fun p hp=>?_,tracked ⟨oc,hoc,I.freeC x c hc⟩ hs,by simpa using I.len⟩ ⟨c,hs,.inr hc⟩
  ·exact (hs.2 b (Nat.ne_of_lt (Nat.lt_of_lt_of_le (Heap.lt_size e) (I.ok.cab x c hfn hc)))).trans (I.base.keep b o e n hb hx)
  ·obtain ⟨sl,e1⟩:=I.base.slot b o e n hb hx
   exact ⟨sl,(hs.2 b (Nat.ne_of_lt (Nat.lt_of_lt_of_le (Heap.lt_size e) (I.ok.cab x c hfn hc)))).trans e1⟩
  ·obtain ⟨o',e1⟩:=I.base.there b o e hx
   exact ⟨o',(hs.2 b (Nat.ne_of_lt (Nat.lt_of_lt_of_le (Heap.lt_size e) (I.ok.cab x c hfn hc)))).trans e1⟩
  ·by_cases hj:j=i
   ·subst hj
    rw [hi] at e1;cases e1
    rw [List.getElem?_set_self hiσ] at e2
    cases e2
    exact ⟨u,r,.inr ⟨.inl hk,c,hc,hc'⟩⟩
   ·rw [List.getElem?_set_ne (Ne.symm hj)] at e2
    obtain ⟨u',r',q⟩:=hl j y v' e1 e2 e3
    refine ⟨u',r',?_⟩
    rcases q with q | ⟨k,c',e,z'⟩
    ·exact .inl q
    ·refine .inr ⟨k,c',e,z'.sameBut hs ?_⟩
     rintro rfl
     exact hj (nodup_ix hN e1 (I.ok.inj _ _ _ e hc ▸ hi))
  ·by_cases hcc:c'=c
   ·subst hcc;exact ⟨_,hc'⟩
   ·obtain ⟨w2,z2⟩:=I.cell y c' e
    exact ⟨w2,z2.sameBut hs hcc⟩
  ·obtain ⟨e,n,ne,nf,d⟩:=I.pin p hp
   refine ⟨(hs.2 p.1 ?_).trans e,n,ne,nf,d⟩
   intro q
   rw [q,hoc] at e
   have q':oc=p.2:=Option.some.inj e
   exact d w' (by rw [<- q'];exact hocd)
theorem store_ok {M:Model} {A:Around} {E:Value->Shared->Prop} {i:Nat} {x:Str} {v:V} {u:Value} {Q:Unit->Shared->Prop} (I:Inv X pins σ H s) (hN:X.N.Nodup) (hi:X.N[i]?=some x) (hx:Loc X.env.scope x) (r:RelV v u)
  (h:∀ s',Inv X pins (σ.set i (some v)) H s'->Q () s') (hf:X.fn x=true\/X.env.scope.names.lookup x=some .local:=by first | exact .inl rfl | exact .inr rfl | assumption):wpAny M A (storeName X.env x u) Q E s :=
 store_ok2 I hN hi hx r (fun s' I' _=>h s' I') hf
theorem Inv.call' {s':Shared} {ch:List Addr} (I:Inv X pins σ H s) (ho:s'.os=s.os) (u:Un (frs X.stack) ch H H' s.heap s'.heap) (hok:HOk X.prog X.w H' s'.heap) (hg:AllBare s'.gens)
  (hch:∀ b∈ch,(b∈X.ex\/X.s₀.heap.objs.size<=b)/\b≠X.env.locals/\(∀ x c,X.env.cells.lookup x=some c->c≠b)/\∀ p∈X.pn++pins,p.1≠b):Inv X pins σ H' s':=by
 obtain ⟨h',g',d',t',o'⟩:=s'
 have e:o'=s.os:=ho
 subst e
 exact I.call (g':=g') (t':=t') (d':=d') u hok hg hch
end
abbrev XK:=Value->Option Addr->Hp->Prop
abbrev St:=List (Option V)
abbrev VK:=V->Hp->Prop
abbrev TE:=St->Hp->VK->Prop
abbrev TT:=St->Hp->(Bool->Hp->Prop)->Prop
abbrev TA:=St->Hp->(List V->Hp->Prop)->Prop
structure Ends where
 nx:St->Hp->Prop
 rt:VK
 bk:St->Hp->Prop:=fun _ _=>False
 ct:St->Hp->Prop:=fun _ _=>False
abbrev TS:=Ends->St->Hp->Prop
def EP (X:Cx) (pins:List (Addr×Obj)) (σ:St) (Q:VK) (u:Value) (s':Shared):Prop:=∃ v H',Inv X pins σ H' s'/\RelV v u/\Q v H'
def TP (X:Cx) (pins:List (Addr×Obj)) (σ:St) (Q:Bool->Hp->Prop) (b:Bool) (s':Shared):Prop:=∃ H',Inv X pins σ H' s'/\Q b H'
def AP (X:Cx) (pins:List (Addr×Obj)) (σ:St) (Q:List V->Hp->Prop) (us:List Value) (s':Shared):Prop:=∃ vs H',Inv X pins σ H' s'/\Vals vs us/\Q vs H'
def SP (X:Cx) (pins:List (Addr×Obj)) (D:Ends) (f:Flow) (s':Shared):Prop :=
 match f with
 | .next=>∃ σ' H',Inv X pins σ' H' s'/\D.nx σ' H'
 | .brk=>∃ σ' H',Inv X pins σ' H' s'/\D.bk σ' H'
 | .cont=>∃ σ' H',Inv X pins σ' H' s'/\D.ct σ' H'
 | .ret u=>∃ v σ' H',Inv X pins σ' H' s'/\RelV v u/\D.rt v H'
def PE (X:Cx) (e:Expr) (t:TE):Prop :=
 ∀ (pins:List (Addr×Obj)) (s:Shared) (σ:St) (H:Hp) (Q:VK),Inv X pins σ H s->t σ H Q->wpAny (model X.prog X.w) X.A (eval e X.env) (EP X pins σ Q) X.xe s
def PT (X:Cx) (e:Expr) (t:TT):Prop :=
 ∀ (pins:List (Addr×Obj)) (s:Shared) (σ:St) (H:Hp) (Q:Bool->Hp->Prop),Inv X pins σ H s->t σ H Q->wpAny (model X.prog X.w) X.A (isTrue e X.env (eval e X.env)) (TP X pins σ Q) X.xe s
def PW (X:Cx) (e:Expr) (t:TT):Prop :=
 ∀ (whole:Sem Value) (pins:List (Addr×Obj)) (s:Shared) (σ:St) (H:Hp) (Q:Bool->Hp->Prop),Inv X pins σ H s->t σ H Q->wpAny (model X.prog X.w) X.A (isTrue e X.env whole) (TP X pins σ Q) X.xe s
theorem PW.pt {X:Cx} {e:Expr} {t:TT} (h:PW X e t):PT X e t:=h _
def PA (X:Cx) (es:List Expr) (t:TA):Prop :=
 ∀ (pos:Pos) (pins:List (Addr×Obj)) (s:Shared) (σ:St) (H:Hp) (Q:List V->Hp->Prop),Inv X pins σ H s->t σ H Q->wpAny (model X.prog X.w) X.A (spliced (backTo pos (starEach es X.env))) (AP X pins σ Q) X.xe s
def PS (X:Cx) (st:Stmt) (t:TS):Prop :=
 ∀ (pins:List (Addr×Obj)) (s:Shared) (σ:St) (H:Hp) (D:Ends),Inv X pins σ H s->t D σ H->wpAny (model X.prog X.w) X.A (exec st X.env) (SP X pins D) X.xe s
def PSs (X:Cx) (st:List Stmt) (t:TS):Prop :=
 ∀ (pins:List (Addr×Obj)) (s:Shared) (σ:St) (H:Hp) (D:Ends),Inv X pins σ H s->t D σ H->wpAny (model X.prog X.w) X.A (execs st X.env) (SP X pins D) X.xe s
theorem thn {α:Type} {t:Sem α} {Q Q':α->Shared->Prop} {M:Model} {A:Around} {E:Value->Shared->Prop} {s:Shared} (h:wpAny M A t Q E s) (hQ:∀ a s,Q a s->Q' a s):wpAny M A t Q' E s:=wpAny_mono h hQ fun _ _ x=>x
end L2
namespace L2
open PySem PySem.Spec PyProof.Rows
section
variable {X:Cx}
theorem bin {a b:Expr} {ta tb:TE} (ha:PE X a ta) (hb:PE X b tb) {pins:List (Addr×Obj)} {s:Shared} {σ:St} {H:Hp} {R:V->V->Hp->Prop} (I:Inv X pins σ H s) (h:ta σ H fun x H1=>tb σ H1 fun y H2=>R x y H2)
  {α:Type} {Q:α->Shared->Prop} {f:Value->Value->Sem α}
  (hf:∀ v u s2 x y H2,Inv X pins σ H2 s2->RelV x v->RelV y u->R x y H2->wpAny (model X.prog X.w) X.A (f v u) Q X.xe s2) :
  wpAny (model X.prog X.w) X.A (eval a X.env) (fun v s₁=>wpAny (model X.prog X.w) X.A (eval b X.env) (fun u s₂=>wpAny (model X.prog X.w) X.A (f v u) Q X.xe s₂) X.xe s₁) X.xe s:=by
 refine thn (ha pins s σ H _ I h) fun v s1 ⟨x,H1,I1,r1,q1⟩=>?_
 refine thn (hb pins s1 σ H1 _ I1 q1) fun u s2 ⟨y,H2,I2,r2,q2⟩=>?_
 exact hf v u s2 x y H2 I2 r1 r2 q2
def tVar (i:Nat):TE:=fun σ H Q=>∃ v,σ[i]?=some (some v)/\Q v H
def tC (v:V):TE:=fun _ H Q=>Q v H
theorem iq {i:Nat} {x:Str} {pos:Pos} (hN:X.N[i]?=some x) (hv:Vis X.env.scope x) (hd:(x==("__debug__" : Str))=false:=by decide) (hcd:(x==("__classdict__" : Str))=false:=by decide):PE X (.Name x pos) (tVar i):=by
 intro pins s σ H Q I h
 obtain ⟨v,e,h⟩:=h
 obtain ⟨m,hn,hl⟩:=I.loc
 obtain ⟨u,r,l⟩:=hl i x v hN e hv
 have fin:EP X pins σ Q u s:=⟨v,H,I,r,h⟩
 rcases l with ⟨hk,hm⟩ | ⟨hk,c,hc,hcell⟩
 ·exact wpAny_Name (wpAny_loadName_local I.ok.kind hk hn hm fin) hd
 ·rcases hk with hk | hk
  ·exact wpAny_Name (wpAny_loadName_cell I.ok.kind hk hc hcell fin) hd
  ·exact wpAny_Name (wpAny_loadName_free I.ok.kind hk hc hcell fin hcd) hd
theorem pe_int {i j pos}:PE X (.Constant (.int i) j pos) (tC (.int i)):=fun _ _ _ H _ I h=>wpAny_Constant_int ⟨.int i,H,I.tok _,⟨_,rfl⟩,h⟩
theorem pe_bl {b j pos}:PE X (.Constant (.bool b) j pos) (tC (.bl b)):=fun _ _ _ H _ I h=>Constant_bool ⟨.bl b,H,I,rfl,h⟩
theorem pe_str {x j pos}:PE X (.Constant (.str x) j pos) (tC (.str x)):=fun _ _ _ H _ I h=>Calls.Constant_str ⟨.str x,H,I.tok _,⟨_,rfl⟩,h⟩
def Gl (X:Cx) (x:Str):Prop:=X.env.kindOf x=some .globalImplicit
theorem eh {E:Value->Shared->Prop} {pins:List (Addr×Obj)} {s:Shared} {σ:St} {H:Hp} {x:Str} {u:Value} {pos:Pos} {Q:Value->Shared->Prop} (I:Inv X pins σ H s) (hg:Gl X x) (hm:X.mg x=some u) (h:Q u s)
  (hd:(x==("__debug__" : Str))=false:=by decide):wpAny (model X.prog X.w) X.A (eval (.Name x pos) X.env) Q E s :=
 Calls.Name_function_global I.ok.kind hg (Calls.loadGlobal_global (by rw [I.ok.glob];exact I.mod.glob.keeps I.bk) hm h) hd
theorem dt {E:Value->Shared->Prop} {pins:List (Addr×Obj)} {s:Shared} {σ:St} {H:Hp} {x:Str} {u:Value} {pos:Pos} {Q:Value->Shared->Prop} (I:Inv X pins σ H s) (hg:Gl X x) (hm:X.mg x=none) (hv:bootBuiltins x=some u) (h:Q u s)
  (hn:x ≠ "__name__":=by decide) (hd:(x==("__debug__" : Str))=false:=by decide):wpAny (model X.prog X.w) X.A (eval (.Name x pos) X.env) Q E s:=by
 obtain ⟨mb,h1,h2⟩:=I.mod.blt
 exact Calls.Name_function_global I.ok.kind hg (Calls.loadGlobal_builtin (by rw [I.ok.glob];exact I.mod.glob.keeps I.bk) hm (by rw [I.ok.blt];exact h1.keeps I.bk) ((h2 x hn).trans hv) h) hd
theorem mM {x:Str} {v:V} {u:Value} {pos:Pos} (hg:Gl X x) (hm:X.mg x=some u) (r:RelV v u) (hd:(x==("__debug__" : Str))=false:=by decide):PE X (.Name x pos) (tC v) :=
 fun _ _ _ H _ I h=>eh I hg hm ⟨v,H,I,r,h⟩ hd
theorem ni {x:Str} {v:V} {u:Value} {pos:Pos} (hg:Gl X x) (hm:X.mg x=none) (hv:bootBuiltins x=some u) (r:RelV v u) (hn:x ≠ "__name__":=by decide) (hd:(x==("__debug__" : Str))=false:=by decide):PE X (.Name x pos) (tC v) :=
 fun _ _ _ H _ I h=>dt I hg hm hv ⟨v,H,I,r,h⟩ hn hd
variable {a b:Expr} {ta tb:TE} {pos:Pos}
variable {tA tB':TT} {rest:List Expr}
def tAnd (t u:TT):TT:=fun σ H Q=>t σ H fun c H1=>if c=true then u σ H1 Q else Q false H1
def tOr (t u:TT):TT:=fun σ H Q=>t σ H fun c H1=>if c=true then Q true H1 else u σ H1 Q
def tNot (t:TT):TT:=fun σ H Q=>t σ H fun c H1=>Q (!c) H1
theorem pw_and1 (ha:PT X a tA):PW X (.BoolOp .And [a] pos) tA:=by
 intro wh pins s σ H Q I h
 refine isTrue_and (thn (ha pins s σ H Q I h) fun c s1 e=>?_)
 cases c with
 | true=>exact isTrue_and_nil e
 | false=>exact e
theorem pw_or1 (ha:PT X a tA):PW X (.BoolOp .Or [a] pos) tA:=by
 intro wh pins s σ H Q I h
 refine isTrue_or (thn (ha pins s σ H Q I h) fun c s1 e=>?_)
 cases c with
 | false=>exact isTrue_or_nil e
 | true=>exact e
theorem pw_and (ha:PT X a tA) (hb:PW X (.BoolOp .And (b::rest) pos) tB'):PW X (.BoolOp .And (a::b::rest) pos) (tAnd tA tB'):=by
 intro wh pins s σ H Q I h
 refine isTrue_and (thn (ha pins s σ H _ I h) fun c s1 ⟨H1,I1,q1⟩=>?_)
 cases c with
 | true=>exact hb wh pins s1 σ H1 Q I1 q1
 | false=>exact ⟨H1,I1,q1⟩
theorem pw_or (ha:PT X a tA) (hb:PW X (.BoolOp .Or (b::rest) pos) tB'):PW X (.BoolOp .Or (a::b::rest) pos) (tOr tA tB'):=by
 intro wh pins s σ H Q I h
 refine isTrue_or (thn (ha pins s σ H _ I h) fun c s1 ⟨H1,I1,q1⟩=>?_)
 cases c with
 | true=>exact ⟨H1,I1,q1⟩
 | false=>exact hb wh pins s1 σ H1 Q I1 q1
theorem nz (ha:PT X a tA):PT X (.UnaryOp .Not a pos) (tNot tA):=by
 intro pins s σ H Q I h
 exact isTrue_not (ha pins s σ H (fun c H1=>Q (!c) H1) I h)
def tAndV (ta tb:TE):TE:=fun σ H Q=>ta σ H fun x H1=>∃ c,x=.bl c/\if c=true then tb σ H1 Q else Q (.bl false) H1
def tNotV (ta:TE):TE:=fun σ H Q=>ta σ H fun x H1=>∃ c,x=.bl c/\Q (.bl (!c)) H1
theorem og {op} {t:TE} (h:PE X a t):PE X (.BoolOp op [a] pos) t:=fun pins s σ H Q I hw=>BoolOp_one (h pins s σ H Q I hw)
theorem oi (ha:PE X a ta) (hb:PE X (.BoolOp .And (b::rest) pos) tb):PE X (.BoolOp .And (a::b::rest) pos) (tAndV ta tb):=by
 intro pins s σ H Q I h
 refine BoolOp_and (thn (ha pins s σ H _ I h) fun v s1 ⟨x,H1,I1,r1,q1⟩=>?_)
 obtain ⟨c,rfl,q1⟩:=q1
 cases r1
 refine wpAny_truthy_bool ?_
 cases c with
 | true=>exact hb pins s1 σ H1 Q I1 q1
 | false=>exact ⟨.bl false,H1,I1,rfl,q1⟩
theorem nL (ha:PE X a ta):PE X (.UnaryOp .Not a pos) (tNotV ta):=by
 intro pins s σ H Q I h
 refine UnaryOp_ (thn (ha pins s σ H _ I h) fun v s1 ⟨x,H1,I1,r1,q1⟩=>?_)
 obtain ⟨c,rfl,q1⟩:=q1
 cases r1
 exact not_of (wpAny_truthy_bool ⟨.bl (!c),H1,I1,rfl,q1⟩)
def tIf (t:TT) (ta tb:TE):TE:=fun σ H Q=>t σ H fun c H1=>if c=true then ta σ H1 Q else tb σ H1 Q
theorem lV {c:Expr} (hc:PT X c tA) (ha:PE X a ta) (hb:PE X b tb):PE X (.IfExp c a b pos) (tIf tA ta tb):=by
 intro pins s σ H Q I h
 refine wpAny_IfExp (thn (hc pins s σ H _ I h) fun d s1 ⟨H1,I1,q1⟩=>?_)
 cases d with
 | true=>exact ha pins s1 σ H1 Q I1 q1
 | false=>exact hb pins s1 σ H1 Q I1 q1
end
end L2
namespace L2
open PySem PySem.Spec PyProof.Rows
def SqL (K:PySem.W.Frag) (H:Hp) (a:Addr) (xs:List V):Prop :=
 Rd H a (.lst xs) \/
  ∃ (o:Obj) (its:Array Value) (n:Nat),K.lookup a=some o/\o.cls=.type "list" /\ o.dict=none/\o.data=.seq its n/\its.size<=sizeLine/\Vals xs its.toList
def SqT (K:PySem.W.Frag) (H:Hp) (a:Addr) (xs:List V):Prop :=
 Rd H a (.tup xs) \/
  ∃ (o:Obj) (its:Array Value) (n:Nat),K.lookup a=some o/\o.cls=.type "tuple" /\ o.dict=none/\o.data=.seq its n/\its.size<=sizeLine/\Vals xs its.toList
def absV:Value->Option V
 | .none=>some .non
 | .bool b=>some (.bl b)
 | .int i _=>some (.int i)
 | .str x _=>some (.str x)
 | .bytes b _=>some (.byt b)
 | .float b _=>some (.flt b)
 | .ref a=>some (.ref a)
 | .type n=>some (.ty n)
 | _=>none
theorem RelV.abs {x:V} {u:Value} (r:RelV x u):absV u=some x:=by
 cases x with
 | non=>cases r;rfl
 | bl _=>cases r;rfl
 | int _=>obtain ⟨t,rfl⟩:=r;rfl
 | str _=>obtain ⟨t,rfl⟩:=r;rfl
 | byt _=>obtain ⟨t,rfl⟩:=r;rfl
 | flt _=>obtain ⟨t,rfl⟩:=r;rfl
 | ref _=>cases r;rfl
 | ty _=>cases r;rfl
theorem RelV.inj {x y:V} {u:Value} (r:RelV x u) (q:RelV y u):x=y:=Option.some.inj (r.abs.symm.trans q.abs)
theorem Vals.inj:∀ {xs ys:List V} {us:List Value},Vals xs us->Vals ys us->xs=ys
 | _,_,_,.nil,.nil=>rfl
 | _,_,_,.cons r t,.cons r' t'=>by rw [r.inj r',Vals.inj t t']
section
variable {X:Cx} {pins:List (Addr×Obj)} {σ:St} {H:Hp} {s:Shared} {a:Addr} {xs ys:List V}
theorem SqL.of {K:PySem.W.Frag} (h:H a=some (.lst xs)):SqL K H a xs:=.inl (.inl h)
theorem SqT.of {K:PySem.W.Frag} (h:H a=some (.tup xs)):SqT K H a xs:=.inl (.inl h)
theorem Inv.list (I:Inv X pins σ H s) (h:SqL X.K H a xs):∃ its:List Value,Vals xs its/\PlainL s.heap a its.toArray/\xs.length<=sizeLine:=by
 rcases h with h | ⟨o,its,n,hk,hc,hd,hs,hz,r⟩
 ·obtain ⟨z,its,n,r,e⟩:=h.ok I.hok
  exact ⟨its,r,⟨_,n,e,rfl,rfl,rfl⟩,z⟩
 ·refine ⟨its.toList,r,⟨o,n,I.kIn a o hk,hc,hd,by simpa using hs⟩,?_⟩
  have e:=r.length
  simp only [Array.length_toList] at e
  omega
theorem Inv.tuple (I:Inv X pins σ H s) (h:SqT X.K H a xs):∃ its:List Value,Vals xs its/\IsTup s.heap a its.toArray/\xs.length<=sizeLine:=by
 rcases h with h | ⟨o,its,n,hk,hc,hd,hs,hz,r⟩
 ·obtain ⟨z,its,r,p⟩:=h.ok I.hok
  exact ⟨its,r,p.is,z⟩
 ·refine ⟨its.toList,r,⟨o,I.kIn a o hk,hc,n,by simpa using hs⟩,?_⟩
  have e:=r.length
  simp only [Array.length_toList] at e
  omega
theorem Inv.list_inj (I:Inv X pins σ H s) (h:SqL X.K H a xs) (h':SqL X.K H a ys):xs=ys:=by
 obtain ⟨its,r,⟨o,n,e,_,_,d⟩,_⟩:=I.list h
 obtain ⟨its',r',⟨o',n',e',_,_,d'⟩,_⟩:=I.list h'
 rw [e] at e';cases e'
 rw [d] at d'
 injection d' with d1 _
 have:its=its':=by simpa using congrArg Array.toList d1
 subst this
 exact r.inj r'
theorem Inv.tuple_inj (I:Inv X pins σ H s) (h:SqT X.K H a xs) (h':SqT X.K H a ys):xs=ys:=by
 obtain ⟨its,r,⟨o,e,_,n,d⟩,_⟩:=I.tuple h
 obtain ⟨its',r',⟨o',e',_,n',d'⟩,_⟩:=I.tuple h'
 rw [e] at e';cases e'
 rw [d] at d'
 injection d' with d1 _
 have:its=its':=by simpa using congrArg Array.toList d1
 subst this
 exact r.inj r'
end
abbrev Cx.wish (X:Cx) (E:Value->Shared->Prop):Cx:={X with xe:=E}
abbrev Cx.nox (X:Cx):Cx:=X.wish fun _ _=>False
theorem Cx.Ok.wish {X:Cx} (ok:X.Ok) (E:Value->Shared->Prop):(X.wish E).Ok :=
 ⟨ok.mod,ok.kind,ok.glob,ok.blt,ok.above,ok.inj,ok.has,ok.cab,ok.hd,ok.frames,ok.stk,ok.exf,ok.bs,ok.bsz,ok.noex,ok.exfs,ok.funs,ok.frf⟩
theorem Cx.Ok.unwish {X:Cx} {E:Value->Shared->Prop} (ok:(X.wish E).Ok):X.Ok :=
 ⟨ok.mod,ok.kind,ok.glob,ok.blt,ok.above,ok.inj,ok.has,ok.cab,ok.hd,ok.frames,ok.stk,ok.exf,ok.bs,ok.bsz,ok.noex,ok.exfs,ok.funs,ok.frf⟩
section
variable {X:Cx} {pins:List (Addr×Obj)} {σ:St} {H:Hp} {s:Shared} {E:Value->Shared->Prop}
theorem Inv.wish (I:Inv X pins σ H s) (E:Value->Shared->Prop):Inv (X.wish E) pins σ H s:=⟨I.ok.wish E,I.os,I.bare,I.base,I.loc,I.cell,I.free,I.freeC,I.pin,I.hok,I.len⟩
theorem Inv.unwish (I:Inv (X.wish E) pins σ H s):Inv X pins σ H s:=⟨I.ok.unwish,I.os,I.bare,I.base,I.loc,I.cell,I.free,I.freeC,I.pin,I.hok,I.len⟩
theorem SP.unwish {D:Ends} {f:Flow} {s':Shared} (h:SP (X.wish E) pins D f s'):SP X pins D f s':=by
 cases f with
 | next=>obtain ⟨σ',H',I,q⟩:=h;exact ⟨σ',H',I.unwish,q⟩
 | brk=>obtain ⟨σ',H',I,q⟩:=h;exact ⟨σ',H',I.unwish,q⟩
 | cont=>obtain ⟨σ',H',I,q⟩:=h;exact ⟨σ',H',I.unwish,q⟩
 | ret u=>obtain ⟨v,σ',H',I,r,q⟩:=h;exact ⟨v,σ',H',I.unwish,r,q⟩
theorem PE.nox {e:Expr} {t:TE} (h:PE X.nox e t):PE X e t:=fun pins s σ H Q I hw =>
 wpAny_mono (h pins s σ H Q (I.wish _) hw) (fun _ _ ⟨v,H',I',r,q⟩=>⟨v,H',I'.unwish,r,q⟩) fun _ _ z=>False.elim z
theorem PT.nox {e:Expr} {t:TT} (h:PT X.nox e t):PT X e t:=fun pins s σ H Q I hw =>
 wpAny_mono (h pins s σ H Q (I.wish _) hw) (fun _ _ ⟨H',I',q⟩=>⟨H',I'.unwish,q⟩) fun _ _ z=>False.elim z
theorem PSs.nox {st:List Stmt} {t:TS} (h:PSs X.nox st t):PSs X st t:=fun pins s σ H D I hw =>
 wpAny_mono (h pins s σ H D (I.wish _) hw) (fun _ _ q=>q.unwish) fun _ _ z=>False.elim z
end
section
variable {X:Cx} {st:Stmt} {rest:List Stmt} {t u:TS} {e:Expr} {te:TE} {pos:Pos}
def tNext:TS:=fun D σ H=>D.nx σ H
def tSeq (t u:TS):TS:=fun D σ H=>t {D with nx:=u D} σ H
theorem pss_nil:PSs X [] tNext:=fun _ _ σ H _ I h=>wpAny_execs_nil ⟨σ,H,I,h⟩
theorem fk (h1:PS X st t) (h2:PSs X rest u):PSs X (st::rest) (tSeq t u):=by
 intro pins s σ H D I h
 refine wpAny_execs_cons (thn (h1 pins s σ H {D with nx:=u D} I h) fun f s1 q=>?_)
 cases f with
 | next =>
  obtain ⟨σ',H',I',q⟩:=q
  exact h2 pins s1 σ' H' D I' q
 | ret v=>exact q
 | brk=>exact q
 | cont=>exact q
theorem fg (h1:PS X st t):PSs X [st] t:=by
 intro pins s σ H D I h
 refine wpAny_execs_cons (thn (h1 pins s σ H D I h) fun f s1 q=>?_)
 cases f with
 | next=>exact wpAny_execs_nil q
 | ret v=>exact q
 | brk=>exact q
 | cont=>exact q
theorem Inv.quiet {pins:List (Addr×Obj)} {σ:St} {H:Hp} {s:Shared} (I:Inv X pins σ H s):interactive X.env=false:=by simp [interactive,I.ok.kind]
def tRet (te:TE):TS:=fun D σ H=>te σ H D.rt
theorem md (he:PE X e te):PS X (.Return (some e) pos) (tRet te):=by
 intro pins s σ H D I h
 exact wpAny_Return_some (thn (he pins s σ H _ I h) fun v s1 ⟨x,H1,I1,r1,q1⟩=>⟨x,σ,H1,I1,r1,q1⟩)
def tIfS (c:TT) (t u:TS):TS:=fun D σ H=>c σ H fun b H1=>if b=true then t D σ H1 else u D σ H1
theorem nr {c:Expr} {a b:List Stmt} {tc:TT} (hc:PT X c tc) (ha:PSs X a t) (hb:PSs X b u):PS X (.If c a b pos) (tIfS tc t u):=by
 intro pins s σ H D I h
 refine wpAny_If (thn (hc pins s σ H _ I h) fun d s1 ⟨H1,I1,q1⟩=>?_)
 cases d with
 | true=>exact ha pins s1 σ H1 D I1 q1
 | false=>exact hb pins s1 σ H1 D I1 q1
end
abbrev TG:=V->St->Hp->(St->Hp->Prop)->Prop
abbrev TGs:=List V->St->Hp->(St->Hp->Prop)->Prop
def PG (X:Cx) (target:Expr) (t:TG):Prop :=
 ∀ (pins:List (Addr×Obj)) (s:Shared) (σ:St) (H:Hp) (v:V) (u:Value) (Q:St->Hp->Prop),Inv X pins σ H s->RelV v u->t v σ H Q ->
  wpAny (model X.prog X.w) X.A (assign target X.env u) (fun _ s'=>∃ σ' H',Inv X pins σ' H' s'/\Q σ' H') X.xe s
def PGs (X:Cx) (ts:List Expr) (t:TGs):Prop :=
 ∀ (pins:List (Addr×Obj)) (s:Shared) (σ:St) (H:Hp) (vs:List V) (us:List Value) (Q:St->Hp->Prop),Inv X pins σ H s->Vals vs us->t vs σ H Q ->
  wpAny (model X.prog X.w) X.A (assignInOrder ((assignEach ts X.env).map (·.2)) us) (fun _ s'=>∃ σ' H',Inv X pins σ' H' s'/\Q σ' H') X.xe s
section
variable {X:Cx} {pos:Pos}
def gName (i:Nat):TG:=fun v σ H Q=>Q (σ.set i (some v)) H
theorem m_ {i:Nat} {x:Str} (hN:X.N.Nodup) (hi:X.N[i]?=some x) (hx:Loc X.env.scope x) (hf:X.fn x=true\/X.env.scope.names.lookup x=some .local:=by first | exact .inl rfl | exact .inr rfl | assumption):PG X (.Name x pos) (gName i):=by
 intro pins s σ H v u Q I r h
 exact wpAny_assign_Name (store_ok I hN hi hx r (fun s' I'=>⟨_,H,I',h⟩) hf)
def tAsg (te:TE) (g:TG):TS:=fun D σ H=>te σ H fun x H1=>g x σ H1 D.nx
theorem kB {tg e:Expr} {te:TE} {g:TG} (he:PE X e te) (hg:PG X tg g) (hs:swapsWithSole [tg] e pos.line X.env=pure false:=by rfl) (hw:swappedStores [tg] e X.env=pure none:=by rfl)
  (h1:(assignEach [tg] X.env).map (·.2)=[assign tg X.env]:=by rfl):PS X (.Assign [tg] e pos) (tAsg te g):=by
 intro pins s σ H D I h
 refine wpAny_Assign_stores (thn (he pins s σ H _ I h) fun v s1 ⟨x,H1,I1,r1,q1⟩=>?_) hs hw
 rw [h1]
 exact thn (hg pins s1 σ H1 x v _ I1 r1 q1) fun _ s2 q=>q
theorem om {i:Nat} {x:Str} {e:Expr} {te:TE} {pos':Pos} (hN:X.N.Nodup) (hi:X.N[i]?=some x) (hx:Loc X.env.scope x) (he:PE X e te) (hs:swapsWith e (some (.Name x pos')) pos.line X.env=pure false:=by rfl) (hf:X.fn x=true\/X.env.scope.names.lookup x=some .local:=by first | exact .inl rfl | exact .inr rfl | assumption) :
  PS X (.Assign [.Name x pos'] e pos) (tAsg te (gName i)):=by
 intro pins s σ H D I h
 refine wpAny_Assign_Name (thn (he pins s σ H _ I h) fun v s1 ⟨y,H1,I1,r1,q1⟩=>?_) hs
 exact store_ok I1 hN hi hx r1 (fun s2 I2=>⟨_,H1,I2,q1⟩) hf
def tPar (i j:Nat) (ta:TA):TS:=fun D σ H=>ta σ H fun vs H1=>∃ v w,vs=[v,w]/\D.nx ((σ.set i (some v)).set j (some w)) H1
theorem nG {i j:Nat} {x y:Str} {a b:Expr} {ta:TA} {px py pt:Pos} {kt k2 pt2} (hc:X.calm=true) (hN:X.N.Nodup) (hi:X.N[i]?=some x) (hj:X.N[j]?=some y) (hij:i≠j)
  (hx:X.env.scope.names.lookup x=some .local) (hy:X.env.scope.names.lookup y=some .local) (ha:PA X [a,b] ta)
  (hw:swappedStores [.Tuple [.Name x px,.Name y py] kt pt] (.Tuple [a,b] k2 pt2) X.env=pure (some [x,y]))
  (hs:swapsWithSole [.Tuple [.Name x px,.Name y py] kt pt] (.Tuple [a,b] k2 pt2) pos.line X.env=pure false:=by rfl) :
  PS X (.Assign [.Tuple [.Name x px,.Name y py] kt pt] (.Tuple [a,b] k2 pt2) pos) (tPar i j ta):=by
 intro pins s σ H D I h
 rw [exec_Assign_arm]
 refine wpAny_bind (wpAny_standAt ?_)
 rw [hs]
 refine wpAny_bind (wpAny_pure ?_)
 rw [if_neg (by decide)]
 refine wpAny_bind (Tuple_ (thn (ha _ pins s σ H _ I h) fun us s1 ⟨vs,H1,I1,r1,q1⟩=>?_))
 obtain ⟨v,w,e1,q1⟩:=q1
 subst e1
 obtain ⟨u1,u2,rfl,rv,rw'⟩:∃ u1 u2,us=[u1,u2]/\RelV v u1/\RelV w u2:=by
  cases r1 with
  | cons p q =>
   cases q with
   | cons p' q' =>
    cases q'
    exact ⟨_,_,rfl,p,p'⟩
 refine wpAny_newObj_type ?_ (by show 2<=sizeLine;decide)
 have I2:Inv X pins σ H1 {s1 with heap:=s1.heap.push {cls:=.type "tuple",data:=.seq [u1,u2].toArray} }:=I1.kept (t':=s1.toks) fun b o e=>Heap.get?_push_of_some _ e
 rw [hw]
 refine wpAny_bind (wpAny_pure ?_)
 show wpAny (model X.prog X.w) X.A (do rule "assign.swapped-stores";let items <- unpackItems (.ref s1.heap.objs.size) 2 none;assignInOrder [fun v=>bindName X.env y v,fun v=>bindName X.env x v] items.reverse;pure Flow.next) _ _ _
 refine wpAny_bind (wpAny_rule (wpAny_bind (unpackItems_tuple (items:=#[u1,u2]) (I.ok.hd hc) (IsTup.new s1.heap _) fun h' hx'=>?_)))
 have I3:=I2.kept (h':=h') (t':=s1.toks) fun b o e=>hx' b o (Nat.ne_of_lt (Heap.lt_size e)) e
 show wpAny _ _ (assignInOrder [fun v=>bindName X.env y v,fun v=>bindName X.env x v] [u2,u1] >>= fun _=>pure Flow.next) _ _ _
 refine wpAny_bind (assignInOrder_cons (wpAny_bindName (store_ok I3 hN hj (.inl hy) rw' (fun s2 I4=>?_) (.inr hy))))
 refine assignInOrder_cons (wpAny_bindName (store_ok I4 hN hi (.inl hx) rv (fun s3 I5=>assignInOrder_nil (wpAny_pure ?_)) (.inr hx)))
 rw [List.set_comm _ _ (Ne.symm hij)] at I5
 exact ⟨_,H1,I5,q1⟩
end
section
variable {X:Cx} {pos:Pos}
def tWhile (c:TT) (tb:TS):TS:=fun D σ H=>∃ W:Nat->St->Hp->Prop,(∃ m,W m σ H)/\∀ m σ H,W m σ H ->
 c σ H fun b H1=>if b=true then ∃ N:St->Hp->Prop,(∀ σ' H',N σ' H'->∃ m',m'<m/\W m' σ' H')/\tb {D with nx:=N,ct:=N,bk:=D.nx} σ H1 else D.nx σ H1
theorem lP {c:Expr} {body:List Stmt} {tc:TT} {tb:TS} (hp:PassesOwn (model X.prog X.w) X.A X.env X.xe) (hc:PT X c tc) (hb:PSs X body tb):PS X (.While c body [] pos) (tWhile tc tb):=by
 intro pins s σ H D I h
 obtain ⟨W,⟨m0,w0⟩,turn⟩:=h
 refine wpAny_While (codeAny_whileLoop (fun n s'=>∃ σ' H',Inv X pins σ' H' s'/\W n σ' H') ?_ m0 ⟨σ,H,I,w0⟩)
 rintro n s1 ⟨σ1,H1,I1,w1⟩
 refine wpAny_passesOwn hp (thn (hc pins s1 σ1 H1 _ I1 (turn n σ1 H1 w1)) fun b s2 ⟨H2,I2,q2⟩=>?_)
 cases b with
 | true =>
  obtain ⟨N,hN,q2⟩:=q2
  rw [if_pos rfl]
  refine wpAny_passesOwn hp (thn (hb pins s2 σ1 H2 _ I2 q2) fun f s3 q3=>?_)
  cases f with
  | next =>
   obtain ⟨σ3,H3,I3,n3⟩:=q3
   obtain ⟨m',hm,w3⟩:=hN σ3 H3 n3
   exact ⟨m',hm,σ3,H3,I3,w3⟩
  | cont =>
   obtain ⟨σ3,H3,I3,n3⟩:=q3
   obtain ⟨m',hm,w3⟩:=hN σ3 H3 n3
   exact ⟨m',hm,σ3,H3,I3,w3⟩
  | brk=>exact q3
  | ret v=>exact q3
 | false =>
  rw [if_neg Bool.false_ne_true]
  exact wpAny_execs_nil ⟨σ1,H2,I2,q2⟩
end
structure It where
 go:Nat->Hp->Prop
 yld:Nat->Hp->V->Hp->Prop
 stop:Nat->Hp->Prop
def FpOk (X:Cx) (pins:List (Addr×Obj)) (H:Hp) (b:Addr):Prop :=
 H b=none/\b≠X.env.locals/\b∉X.fs/\(b∈X.ex\/X.s₀.heap.objs.size<=b)/\(∀ x c,X.env.cells.lookup x=some c->c≠b)/\∀ p∈X.pn++pins,p.1≠b
theorem Inv.fpOk {X:Cx} {pins:List (Addr×Obj)} {σ:St} {H H':Hp} {s:Shared} {b:Addr} (I:Inv X pins σ H s) (hb:s.heap.objs.size<=b) (hn:H' b=none):FpOk X pins H' b:=by
 refine ⟨hn,Nat.ne_of_gt (Nat.lt_of_lt_of_le I.lt hb),I.nofs hb,.inr (Nat.le_trans I.sz hb),fun x c e z=>?_,fun p hp z=>?_⟩
 ·obtain ⟨v,q⟩:=I.cell x c e
  exact absurd (Nat.lt_of_lt_of_le q.lt (by rw [z];exact hb)) (Nat.lt_irrefl _)
 ·exact absurd (Nat.lt_of_lt_of_le (Heap.lt_size (I.pin p hp).1) (by rw [z];exact hb)) (Nat.lt_irrefl _)
structure Turn (P:Program) (w:World) (K:PySem.W.Frag) (tg:Expr) (J:It) (fp:List Addr) (it:Addr) (tn:Nat->Heap->Prop):Prop where
 mem:it∈fp
 obj:∀ i h,tn i h->∀ b∈fp,∃ o,h.get? b=some o/\∀ v,o.data≠.cell v
 keep:∀ i h h',tn i h->(∀ b∈fp,∀ o,h.get? b=some o->h'.get? b=some o)->tn i h'
 item:∀ (X:Cx),X.prog=P->X.w=w->X.K=K->X.calm=true->∀ (i:Nat) (pins:List (Addr×Obj)) (s:Shared) (σ:St) (H:Hp) (E:Value->Shared->Prop),Inv X pins σ H s->(∀ b∈fp,FpOk X pins H b)->tn i s.heap->J.go i H ->
  wpAny (model P w) X.A (pyNext (.ref it)) (fun r s1=>∃ u,r=some u /\
   wpAny (model P w) X.A (letOwnedTupleGo tg (.ref it) u) (fun _ s2=>∃ x H',Inv X pins σ H' s2/\RelV x u/\J.yld i H x H'/\tn (i+1) s2.heap/\∀ b∈fp,H' b=none) E s1) E s
 done:∀ (X:Cx),X.prog=P->X.w=w->X.K=K->X.calm=true->∀ (i:Nat) (pins:List (Addr×Obj)) (s:Shared) (σ:St) (H:Hp) (E:Value->Shared->Prop),Inv X pins σ H s->(∀ b∈fp,FpOk X pins H b)->tn i s.heap->J.stop i H ->
  wpAny (model P w) X.A (pyNext (.ref it)) (fun r s1=>r=none/\Inv X pins σ H s1) E s
 self:∀ (A:Around) (i:Nat) (s:Shared) (Q:Value->Shared->Prop) (E:Value->Shared->Prop),tn i s.heap->Q (.ref it) s->wpAny (model P w) A (pyIter (.ref it)) Q E s
abbrev TI:=St->Hp->(It->Hp->Prop)->Prop
def PIE (X:Cx) (pins:List (Addr×Obj)) (σ:St) (tg:Expr) (R:It->Hp->Prop) (itv:Value) (s2:Shared):Prop :=
 ∃ (it:Addr) (fp:List Addr) (tn:Nat->Heap->Prop) (J:It) (H':Hp),itv=.ref it/\Inv X pins σ H' s2/\Turn X.prog X.w X.K tg J fp it tn/\tn 0 s2.heap/\(∀ b∈fp,FpOk X pins H' b)/\R J H'
def PI (X:Cx) (tg iter:Expr) (wi:TI):Prop :=
 ∀ (pins:List (Addr×Obj)) (s:Shared) (σ:St) (H:Hp) (R:It->Hp->Prop),Inv X pins σ H s->wi σ H R ->
  wpAny (model X.prog X.w) X.A (eval iter X.env) (fun v s1=>wpAny (model X.prog X.w) X.A (pyIter v) (PIE X pins σ tg R) X.xe s1) X.xe s
theorem go_of {M:Model} {A:Around} {E:Value->Shared->Prop} {s:Shared} {tg:Expr} {it:Addr} {u:Value} {o:Obj} {n:String} {vs:Array Value} {Q:Unit->Shared->Prop} (ho:s.heap.get? it=some o) (hc:o.cls=.type n) (hd:o.data=.fields vs)
    (hn:["enumerate","zip","dict_itemiterator","dict_reverseitemiterator","odict_iterator","itertools.zip_longest","itertools.pairwise"].contains n=false) (hQ:Q () s):wpAny M A (letOwnedTupleGo tg (.ref it) u) Q E s:=by
  unfold letOwnedTupleGo
  cases tg<;>first
    | exact wpAny_pure hQ
    | (cases u<;>first
        | exact wpAny_pure hQ
        | (refine wpAny_bind (wpAny_load ho ?_)
           rw [hc,hd]
           show wpAny M A (if (["enumerate","zip","dict_itemiterator","dict_reverseitemiterator","odict_iterator","itertools.zip_longest","itertools.pairwise"].contains n&&vs[0]?==some (rawInt _))=true then _ else _) Q E s
           rw [if_neg (by intro h;rw [hn,Bool.false_and] at h;cases h)]
           exact wpAny_pure hQ))
def Itl (K:PySem.W.Frag) (a:Addr):It :=
 ⟨fun i H=>∃ xs x,SqL K H a xs/\xs[i]?=some x,fun i H x H'=>H'=H/\∀ xs,SqL K H a xs->xs[i]?=some x,fun i H=>∃ xs,SqL K H a xs/\xs.length<=i⟩
def Itt (K:PySem.W.Frag) (a:Addr):It :=
 ⟨fun i H=>∃ xs x,SqT K H a xs/\xs[i]?=some x,fun i H x H'=>H'=H/\∀ xs,SqT K H a xs->xs[i]?=some x,fun i H=>∃ xs,SqT K H a xs/\xs.length<=i⟩
def Itr (lo:Int) (n:Nat):It:=⟨fun i _=>i<n,fun i H x H'=>H'=H/\x=.int (lo+i),fun i _=>n<=i⟩
theorem turn_list {P:Program} {w:World} {K:PySem.W.Frag} {tg:Expr} (a it:Addr):Turn P w K tg (Itl K a) [it] it (fun i h=>h.IsListIter it a i) where
 mem:=by simp
 obj:=fun i h st b hb=>by
  have e:b=it:=by simpa using hb
  subst e
  obtain ⟨o,e,c,d⟩:=st
  exact ⟨o,e,fun v z=>by rw [d] at z;cases z⟩
 keep:=fun i h h' st k=>st.at fun o e=>k it (by simp) o e
 item:=by
  intro X hP hw hK hc i pins s σ H E I hf st hg
  subst hP hw hK
  obtain ⟨xs,x,hq,hx⟩:=hg
  obtain ⟨its,rv,p,hz⟩:=I.list hq
  obtain ⟨u,hu,ru⟩:=rv.get hx
  obtain ⟨f0,f1,f2,f3,f4,f5⟩:=hf it (by simp)
  refine wpAny_pyNext_list_item st p.isList (x:=u) (by simpa using hu) fun h' st' sb=>?_
  have I1:Inv X pins σ H {s with heap:=h' }:=I.turned (t':=s.toks) (fun b o hb e=>(sb.2 b hb).trans e) f0 f1 f3 f4 f5
  obtain ⟨o,e,c,d⟩:=id st'
  exact ⟨u,rfl,go_of (s:={s with heap:=h' }) e c d (by decide) ⟨x,H,I1,ru,⟨rfl,fun ys hy=>by rw [I.list_inj hy hq];exact hx⟩,st',fun b hb=>(hf b hb).1⟩⟩
 done:=by
  intro X hP hw hK hc i pins s σ H E I hf st hg
  subst hP hw hK
  obtain ⟨xs,hq,hx⟩:=hg
  obtain ⟨its,rv,p,hz⟩:=I.list hq
  obtain ⟨f0,f1,f2,f3,f4,f5⟩:=hf it (by simp)
  have hl:=rv.length
  exact wpAny_pyNext_list_end (I.ok.hd hc) st p.isList (by simp;omega) fun h' eb=>⟨rfl,I.turned (t':=s.toks) (fun b o hb e=>eb b o hb e) f0 f1 f3 f4 f5⟩
 self:=fun _ _ _ _ _ st h=>wpAny_pyIter_listiter st h
theorem turn_tuple {P:Program} {w:World} {K:PySem.W.Frag} {tg:Expr} (a it:Addr):Turn P w K tg (Itt K a) [it] it (fun i h=>h.IsTupleIter it a i) where
 mem:=by simp
 obj:=fun i h st b hb=>by
  have e:b=it:=by simpa using hb
  subst e
  obtain ⟨o,e,c,d⟩:=st
  exact ⟨o,e,fun v z=>by rw [d] at z;cases z⟩
 keep:=fun i h h' st k=>st.at fun o e=>k it (by simp) o e
 item:=by
  intro X hP hw hK hc i pins s σ H E I hf st hg
  subst hP hw hK
  obtain ⟨xs,x,hq,hx⟩:=hg
  obtain ⟨its,rv,p,hz⟩:=I.tuple hq
  obtain ⟨u,hu,ru⟩:=rv.get hx
  obtain ⟨f0,f1,f2,f3,f4,f5⟩:=hf it (by simp)
  refine wpAny_pyNext_tuple_item st (show s.heap.IsTuple a its.toArray from p) (x:=u) (by simpa using hu) fun h' st' sb=>?_
  have I1:Inv X pins σ H {s with heap:=h' }:=I.turned (t':=s.toks) (fun b o hb e=>(sb.2 b hb).trans e) f0 f1 f3 f4 f5
  obtain ⟨o,e,c,d⟩:=id st'
  exact ⟨u,rfl,go_of (s:={s with heap:=h' }) e c d (by decide) ⟨x,H,I1,ru,⟨rfl,fun ys hy=>by rw [I.tuple_inj hy hq];exact hx⟩,st',fun b hb=>(hf b hb).1⟩⟩
 done:=by
  intro X hP hw hK hc i pins s σ H E I hf st hg
  subst hP hw hK
  obtain ⟨xs,hq,hx⟩:=hg
  obtain ⟨its,rv,p,hz⟩:=I.tuple hq
  obtain ⟨f0,f1,f2,f3,f4,f5⟩:=hf it (by simp)
  have hl:=rv.length
  exact wpAny_pyNext_tuple_end (I.ok.hd hc) st (show s.heap.IsTuple a its.toArray from p) (by simp;omega) fun h' eb=>⟨rfl,I.turned (t':=s.toks) (fun b o hb e=>eb b o hb e) f0 f1 f3 f4 f5⟩
 self:=fun _ _ _ _ _ st h=>wpAny_pyIter_tupleiter st h
theorem turn_range {P:Program} {w:World} {K:PySem.W.Frag} {tg:Expr} (it:Addr) (lo:Int) (n:Nat):Turn P w K tg (Itr lo n) [it] it (fun i h=>IsRangeIter h it (lo+(i:Nat)*1) ((n:Int) - (i:Nat)) 1) where
 mem:=by simp
 obj:=fun i h st b hb=>by
  have e:b=it:=by simpa using hb
  subst e
  exact ⟨_,st,fun v z=>by
   have z':Data.fields _=Data.cell v:=z
   cases z'⟩
 keep:=fun i h h' st k=>k it (by simp) _ st
 item:=by
  intro X hP hw hK hc i pins s σ H E I hf st hg
  subst hP hw hK
  obtain ⟨f0,f1,f2,f3,f4,f5⟩:=hf it (by simp)
  have W:=Walks.range (prog:=X.prog) (w:=X.w) (I.ok.hd hc) it lo 1 n
  refine W.item i s _ _ hg st fun v h' tk hv st' kk=>?_
  obtain ⟨t,rfl⟩:=hv
  have I1:Inv X pins σ H {s with heap:=h',toks:=tk}:=I.turned (fun b o hb e=>kk b o (by simpa using hb) e) f0 f1 f3 f4 f5
  refine ⟨_,rfl,go_of (s:={s with heap:=h',toks:=tk}) (n:="range_iterator") st' rfl rfl (by decide) ⟨.int (lo+i),H,I1,⟨t,?_⟩,⟨rfl,rfl⟩,st',fun b hb=>(hf b hb).1⟩⟩
  rw [Int.mul_one]
 done:=by
  intro X hP hw hK hc i pins s σ H E I hf st hg
  subst hP hw hK
  obtain ⟨f0,f1,f2,f3,f4,f5⟩:=hf it (by simp)
  exact wpAny_pyNext_range_end (I.ok.hd hc) st (by have:n<=i:=hg;omega) fun h' eb=>⟨rfl,I.turned (t':=s.toks) (fun b o hb e=>eb b o hb e) f0 f1 f3 f4 f5⟩
 self:=fun _ _ _ _ _ st h=>wpAny_pyIter_rangeiter st h
end L2
namespace L2
open PySem PySem.Spec PyProof.Rows
section
variable {X:Cx} {tg:Expr}
theorem range_it {pins:List (Addr×Obj)} {σ:St} {H:Hp} {s:Shared} {R:It->Hp->Prop} {E:Value->Shared->Prop} {lo hi:Int} {t u v:Tok} {tk:Nat} (I:Inv X pins σ H s) (h1 : -(2 ^ 62)<=lo) (h2:lo<2 ^ 62) (h3 : -(2 ^ 62)<=hi) (h4:hi<2 ^ 62)
  (q:R (Itr lo (hi - lo).toNat) H):wpAny (model X.prog X.w) X.A (pyIter (.ref s.heap.objs.size)) (PIE X pins σ tg R) E {s with heap:=s.heap.push {cls:=.type "range",data:=.fields #[.int lo t,.int hi u,.int 1 v]},toks:=tk}:=by
 refine wpAny_pyIter_range (IsRange.new ..) (small_one h1 h2 h3 h4) ?_
 have I1:Inv X pins σ H {s with heap:=s.heap.push {cls:=.type "range",data:=.fields #[.int lo t,.int hi u,.int 1 v]},toks:=tk}:=I.kept fun b o e=>Heap.get?_push_of_some _ e
 refine ⟨(s.heap.push {cls:=.type "range",data:=.fields #[.int lo t,.int hi u,.int 1 v]}).objs.size,[(s.heap.push {cls:=.type "range",data:=.fields #[.int lo t,.int hi u,.int 1 v]}).objs.size],_,_,H,rfl,
  I1.kept (t':=tk) fun b o e=>Heap.get?_push_of_some _ e,turn_range _ lo (hi - lo).toNat,?_,fun b hb=>?_,q⟩
 ·have e1:lo+((0:Nat):Int)*1=lo:=by simp
  have e2:(((hi - lo).toNat:Nat):Int) - ((0:Nat):Int)=Builtin.Range.rangeSize lo hi 1:=by rw [rangeSize_one];split<;>omega
  show IsRangeIter _ _ (lo+((0:Nat):Int)*1) ((((hi - lo).toNat:Nat):Int) - ((0:Nat):Int)) 1
  rw [e1,e2]
  exact Heap.get?_push_size _ rfl
 ·have e:b=(s.heap.push {cls:=.type "range",data:=.fields #[.int lo t,.int hi u,.int 1 v]}).objs.size:=by simpa using hb
  subst e
  exact I1.fpOk (Nat.le_refl _) (I1.hok.fresh (Nat.le_refl _))
def iRng1 (ta:TA):TI:=fun σ H R=>ta σ H fun vs H1=>∃ j:Int,vs=[.int j] /\ -(2 ^ 62)<=j/\j<2 ^ 62/\R (Itr 0 j.toNat) H1
def iRng2 (ta:TA):TI:=fun σ H R=>ta σ H fun vs H1=>∃ i j:Int,vs=[.int i,.int j]/\(-(2 ^ 62)<=i/\i<2 ^ 62 /\ -(2 ^ 62)<=j/\j<2 ^ 62)/\R (Itr i (j - i).toNat) H1
theorem lH {a:Expr} {ta:TA} {p pos:Pos} (hg:Gl X "range") (hm:X.mg "range" = none) (ha:PA X [a] ta) (hs:starEach [a] X.env=[(false,eval a X.env)]:=by rfl):PI X tg (.Call (.Name "range" p) [a] [] pos) (iRng1 ta):=by
 intro pins s σ H R I h
 refine Call_ (dt I hg hm boot_range (PyProof.Rows.callWith_type1 (thn (ha pos pins s σ H _ I h) fun us s1 ⟨vs,H1,I1,r1,q1⟩=>?_) hs rfl))
 obtain ⟨j,e,q1,q2,q⟩:=q1
 subst e
 cases r1 with
 | cons r rr =>
  cases rr
  obtain ⟨t,rfl⟩:=r
  exact call_range_1 (range_it I1 (by omega) (by omega) q1 q2 (by simpa using q))
theorem lE {a b:Expr} {ta:TA} {p pos:Pos} (hg:Gl X "range") (hm:X.mg "range" = none) (ha:PA X [a,b] ta) (hs:starEach [a,b] X.env=[(false,eval a X.env),(false,eval b X.env)]:=by rfl) (hs2:starEach [b] X.env=[(false,eval b X.env)]:=by rfl) :
  PI X tg (.Call (.Name "range" p) [a,b] [] pos) (iRng2 ta):=by
 intro pins s σ H R I h
 refine Call_ (dt I hg hm boot_range (PyProof.Rows.callWith_type1 (thn (ha pos pins s σ H _ I h) fun us s1 ⟨vs,H1,I1,r1,q1⟩=>?_) (by rw [hs,hs2]) (by rw [hs2];rfl)))
 obtain ⟨i,j,e,⟨q1,q2,q3,q4⟩,q⟩:=q1
 subst e
 cases r1 with
 | cons r rr =>
  cases rr with
  | cons r' rr =>
   cases rr
   obtain ⟨t,rfl⟩:=r
   obtain ⟨t',rfl⟩:=r'
   exact call_range_2 (range_it I1 q1 q2 q3 q4 q)
def tFor (wi:TI) (g:TG) (tb:TS):TS:=fun D σ H=>wi σ H fun J H1=>∃ W:Nat->Nat->St->Hp->Prop,(∃ m,W 0 m σ H1)/\∀ i m σ H,W i m σ H ->
 (J.stop i H/\D.nx σ H)\/(J.go i H/\∃ N:St->Hp->Prop,(∀ σ' H',N σ' H'->∃ m',m'<m/\W (i+1) m' σ' H')/\∀ x H',J.yld i H x H'->g x σ H' fun σ2 H2=>tb {D with nx:=N,ct:=N,bk:=D.nx} σ2 H2)
def pinsAt (fp:List Addr) (h:Heap):List (Addr×Obj):=fp.filterMap fun b=>(h.get? b).map fun o=>(b,o)
theorem bA {fp:List Addr} {h:Heap} {b:Addr} {o:Obj} (hb:b∈fp) (e:h.get? b=some o):(b,o)∈pinsAt fp h:=List.mem_filterMap.mpr ⟨b,hb,by rw [e];rfl⟩
theorem of_pinsAt {fp:List Addr} {h:Heap} {p:Addr×Obj} (hp:p∈pinsAt fp h):p.1∈fp/\h.get? p.1=some p.2:=by
 obtain ⟨b,hb,e⟩:=List.mem_filterMap.mp hp
 cases q:h.get? b with
 | none=>rw [q] at e;cases e
 | some o =>
  rw [q] at e
  have e':(b,o)=p:=Option.some.inj e
  subst e'
  exact ⟨hb,q⟩
theorem Inv.pinned {pins:List (Addr×Obj)} {σ:St} {H:Hp} {s:Shared} {fp:List Addr} (I:Inv X pins σ H s) (hf:∀ b∈fp,FpOk X pins H b) (ho:∀ b∈fp,∃ o,s.heap.get? b=some o/\∀ v,o.data≠.cell v):Inv X (pins++pinsAt fp s.heap) σ H s :=
 I.pins_of fun p hp=>(List.mem_append.mp hp).elim (fun z=>I.pin p (List.mem_append_right _ z)) fun z=>by
  obtain ⟨hb,e⟩:=of_pinsAt z
  obtain ⟨f0,f1,f2,_⟩:=hf p.1 hb
  obtain ⟨o,e',d⟩:=ho p.1 hb
  rw [e] at e';cases e'
  exact ⟨e,f0,f1,f2,d⟩
theorem Inv.unpinned {pins pl:List (Addr×Obj)} {σ:St} {H:Hp} {s:Shared} (I:Inv X (pins++pl) σ H s):Inv X pins σ H s:=I.pins_of fun p hp=>I.pin p (List.mem_append_right _ (List.mem_append_left _ hp))
theorem lQ {iter:Expr} {body:List Stmt} {wi:TI} {g:TG} {tb:TS} {pos:Pos} (hp:PassesOwn (model X.prog X.w) X.A X.env X.xe) (hc:X.calm=true) (hi:PI X tg iter wi) (hg:PG X tg g) (hb:PSs X body tb)
  (hs:∀ x,foldedSetIterable iter X.env x=pure x:=by intro _;rfl):PS X (.For tg iter body [] pos) (tFor wi g tb):=by
 intro pins s σ H D I h
 refine wpAny_For (thn (hi pins s σ H _ I h) fun v s1 h1=>thn h1 fun itv s2 h2=>?_) hs
 obtain ⟨it,fp,tn,J,H2,e,I2,T,st2,f2,W,⟨m0,w0⟩,turn⟩:=h2
 subst e
 have stat:∀ {H':Hp},(∀ b∈fp,H' b=none)->∀ b∈fp,FpOk X pins H' b:=fun hn b hb=>⟨hn b hb,(f2 b hb).2⟩
 refine codeAny_forLoop_any (fun n s'=>∃ i σ' H',Inv X pins σ' H' s'/\tn i s'.heap/\(∀ b∈fp,H' b=none)/\W i n σ' H') ?_ m0 ⟨0,σ,H2,I2,st2,fun b hb=>(f2 b hb).1,w0⟩
 rintro n s3 ⟨i,σ3,H3,I3,st3,fr3,w3⟩
 rcases turn i n σ3 H3 w3 with ⟨stop,qn⟩ | ⟨go,N,hN,step⟩
 ·refine wpAny_passesOwn hp (thn (T.done X rfl rfl rfl hc i pins s3 σ3 H3 X.xe I3 (stat fr3) st3 stop) fun r s4 ⟨hr,I4⟩=>?_)
  subst hr
  exact wpAny_execs_nil ⟨σ3,H3,I4,qn⟩
 ·refine wpAny_passesOwn hp (thn (T.item X rfl rfl rfl hc i pins s3 σ3 H3 X.xe I3 (stat fr3) st3 go) fun r s4 ⟨u,hr,h4⟩=>?_)
  subst hr
  refine wpAny_passesOwn hp (thn h4 fun _ s5 ⟨x,H5,I5,r5,y5,st5,fr5⟩=>?_)
  have I5':=I5.pinned (stat fr5) (T.obj _ _ st5)
  refine wpAny_passesOwn hp (thn (hg _ s5 σ3 H5 x u _ I5' r5 (step x H5 y5)) fun _ s6 ⟨σ6,H6,I6,q6⟩=>?_)
  refine wpAny_passesOwn hp (thn (hb _ s6 σ6 H6 _ I6 q6) fun f s7 q7=>?_)
  have again:∀ {σ7:St} {H7:Hp},Inv X (pins++pinsAt fp s5.heap) σ7 H7 s7->N σ7 H7->∃ m,m<n/\∃ i σ' H',Inv X pins σ' H' s7/\tn i s7.heap/\(∀ b∈fp,H' b=none)/\W i m σ' H':=fun {σ7 H7} I7 n7=>by
   obtain ⟨m',hm,w7⟩:=hN σ7 H7 n7
   refine ⟨m',hm,i+1,σ7,H7,I7.unpinned,T.keep _ _ _ st5 fun b hb o e=>(I7.pin (b,o) (List.mem_append_right _ (List.mem_append_right _ (bA hb e)))).1,fun b hb=>?_,w7⟩
   obtain ⟨o,e,d⟩:=T.obj _ _ st5 b hb
   exact (I7.pin (b,o) (List.mem_append_right _ (List.mem_append_right _ (bA hb e)))).2.1
  cases f with
  | next=>obtain ⟨σ7,H7,I7,n7⟩:=q7;exact again I7 n7
  | cont=>obtain ⟨σ7,H7,I7,n7⟩:=q7;exact again I7 n7
  | brk=>obtain ⟨σ7,H7,I7,q7⟩:=q7;exact ⟨σ7,H7,I7.unpinned,q7⟩
  | ret v=>obtain ⟨x7,σ7,H7,I7,r7,q7⟩:=q7;exact ⟨x7,σ7,H7,I7.unpinned,r7,q7⟩
end
end L2
namespace L2
open PySem PySem.Spec PyProof.Rows
abbrev R2:=V->V->Hp->VK->Prop
def OpR (X:Cx) (f:Value->Value->Sem Value) (r:R2):Prop :=
 ∀ (pins:List (Addr×Obj)) (s:Shared) (σ:St) (H:Hp) (x y:V) (v u:Value) (Q:VK),Inv X pins σ H s->RelV x v->RelV y u->r x y H Q ->
  wpAny (model X.prog X.w) X.A (f v u) (EP X pins σ Q) X.xe s
def UnR (X:Cx) (f:Value->Sem Value) (r:V->Hp->VK->Prop):Prop :=
 ∀ (pins:List (Addr×Obj)) (s:Shared) (σ:St) (H:Hp) (x:V) (v:Value) (Q:VK),Inv X pins σ H s->RelV x v->r x H Q ->
  wpAny (model X.prog X.w) X.A (f v) (EP X pins σ Q) X.xe s
def CallR (X:Cx) (f:Value) (r:List V->Hp->VK->Prop):Prop :=
 ∀ (pins:List (Addr×Obj)) (s:Shared) (σ:St) (H:Hp) (xs:List V) (us:List Value) (Q:VK),Inv X pins σ H s->Vals xs us->r xs H Q ->
  wpAny (model X.prog X.w) X.A (call f us) (EP X pins σ Q) X.xe s
def TruR (X:Cx) (r:V->Hp->(Bool->Hp->Prop)->Prop):Prop :=
 ∀ (pins:List (Addr×Obj)) (s:Shared) (σ:St) (H:Hp) (x:V) (v:Value) (Q:Bool->Hp->Prop),Inv X pins σ H s->RelV x v->r x H Q ->
  wpAny (model X.prog X.w) X.A (truthy v) (TP X pins σ Q) X.xe s
def tOp (r:R2) (ta tb:TE):TE:=fun σ H Q=>ta σ H fun x H1=>tb σ H1 fun y H2=>r x y H2 Q
def tUn (r:V->Hp->VK->Prop) (ta:TE):TE:=fun σ H Q=>ta σ H fun x H1=>r x H1 Q
def rI (C:Int->Int->Prop) (g:Int->Int->V):R2:=fun x y H Q=>∃ i j,x=.int i/\y=.int j/\C i j/\Q (g i j) H
def rI0 (g:Int->Int->V):R2:=fun x y H Q=>∃ i j,x=.int i/\y=.int j/\Q (g i j) H
def rU (g:Int->V):V->Hp->VK->Prop:=fun x H Q=>∃ i,x=.int i/\Q (g i) H
section
variable {X:Cx} {a b c:Expr} {ta tb tc:TE} {pos:Pos}
theorem binT (ha:PE X a ta) (hb:PE X b tb) {pins:List (Addr×Obj)} {s:Shared} {σ:St} {H:Hp} {R:V->V->Hp->Prop} (I:Inv X pins σ H s)
  (h:ta σ H fun x H1=>tb σ H1 fun y H2=>R x y H2) {Q:Value->Shared->Prop} {f:Value->Value->Sem Value}
  (hf:∀ v u s2 x y H2,Inv X pins σ H2 s2->RelV x v->RelV y u->R x y H2->wpAny (model X.prog X.w) X.A (f v u) Q X.xe s2) :
  wpAny (model X.prog X.w) X.A (eval a X.env) (fun v s₁=>wpAny (model X.prog X.w) X.A (eval b X.env) (fun u s₂=>wpAny (model X.prog X.w) X.A (f v u) Q X.xe s₂) X.xe s₁) X.xe s:=by
 refine thn (ha pins s σ H _ I h) fun v s1 ⟨x,H1,I1,r1,q1⟩=>?_
 refine thn (hb pins s1 σ H1 _ I1 q1) fun u s2 ⟨y,H2,I2,r2,q2⟩=>?_
 exact hf v u s2 x y H2 I2 r1 r2 q2
theorem oA {op:Operator} {r:R2} (ho:OpR X (binaryOp op) r) (ha:PE X a ta) (hb:PE X b tb):PE X (.BinOp a op b pos) (tOp r ta tb):=by
 intro pins s σ H Q I h
 exact wpAny_BinOp (binT ha hb I h fun v u s2 x y H2 I2 rx ry q=>ho pins s2 σ H2 x y v u Q I2 rx ry q)
theorem oG {op:UnaryOp} {r:V->Hp->VK->Prop} (ho:UnR X (unaryOp op) r) (ha:PE X a ta):PE X (.UnaryOp op a pos) (tUn r ta):=by
 intro pins s σ H Q I h
 exact UnaryOp_ (thn (ha pins s σ H _ I h) fun v s1 ⟨x,H1,I1,r1,q1⟩=>ho pins s1 σ H1 x v Q I1 r1 q1)
theorem opI {f:Value->Value->Sem Value} {C:Int->Int->Prop} {g:Int->Int->Int}
  (rule:∀ (i j:Int) (t u:Tok) (s:Shared) (Q:Value->Shared->Prop) (E:Value->Shared->Prop),C i j->Q (.int (g i j) s.toks) {s with toks:=s.toks+1}->wpAny (model X.prog X.w) X.A (f (.int i t) (.int j u)) Q E s) :
  OpR X f (rI C fun i j=>.int (g i j)):=by
 intro pins s σ H x y v u Q I rx ry h
 obtain ⟨i,j,rfl,rfl,hc,q⟩:=h
 obtain ⟨t,rfl⟩:=rx
 obtain ⟨t',rfl⟩:=ry
 exact rule i j t t' s _ _ hc ⟨.int (g i j),H,I.tok _,⟨_,rfl⟩,q⟩
theorem opI0 {f:Value->Value->Sem Value} {g:Int->Int->Int}
  (rule:∀ (i j:Int) (t u:Tok) (s:Shared) (Q:Value->Shared->Prop) (E:Value->Shared->Prop),Q (.int (g i j) s.toks) {s with toks:=s.toks+1}->wpAny (model X.prog X.w) X.A (f (.int i t) (.int j u)) Q E s) :
  OpR X f (rI0 fun i j=>.int (g i j)):=by
 intro pins s σ H x y v u Q I rx ry h
 obtain ⟨i,j,rfl,rfl,q⟩:=h
 obtain ⟨t,rfl⟩:=rx
 obtain ⟨t',rfl⟩:=ry
 exact rule i j t t' s _ _ ⟨.int (g i j),H,I.tok _,⟨_,rfl⟩,q⟩
theorem opB0 {f:Value->Value->Sem Value} {g:Int->Int->Bool}
  (rule:∀ (i j:Int) (t u:Tok) (s:Shared) (Q:Value->Shared->Prop) (E:Value->Shared->Prop),Q (.bool (g i j)) s->wpAny (model X.prog X.w) X.A (f (.int i t) (.int j u)) Q E s) :
  OpR X f (rI0 fun i j=>.bl (g i j)):=by
 intro pins s σ H x y v u Q I rx ry h
 obtain ⟨i,j,rfl,rfl,q⟩:=h
 obtain ⟨t,rfl⟩:=rx
 obtain ⟨t',rfl⟩:=ry
 exact rule i j t t' s _ _ ⟨.bl (g i j),H,I,rfl,q⟩
def CDiv (i j:Int):Prop:=0<j/\j<1073741824
def CMul (i j:Int):Prop:=(-(2 ^ 64)<i/\i<2 ^ 64)\/(-(2 ^ 64)<j/\j<2 ^ 64)
theorem CMul.ok {i j:Int} (h:CMul i j):IntMulOk i j:=by
 rcases h with ⟨h1,h2⟩ | ⟨h1,h2⟩
 ·exact .of_left (intBits_le_64 h1 h2)
 ·exact .of_right (intBits_le_64 h1 h2)
theorem op_add:OpR X (binaryOp .Add) (rI0 fun i j=>.int (i+j)):=opI0 fun _ _ _ _ _ _ _ q=>add_int q
theorem op_sub:OpR X (binaryOp .Sub) (rI0 fun i j=>.int (i - j)):=opI0 fun _ _ _ _ _ _ _ q=>sub_int q
theorem op_mul:OpR X (binaryOp .Mult) (rI CMul fun i j=>.int (i*j)):=opI fun _ _ _ _ _ _ _ hc q=>mul_int q hc.ok
theorem op_fdiv:OpR X (binaryOp .FloorDiv) (rI CDiv fun i j=>.int (i / j)):=opI fun i j _ _ _ _ _ hc q=>by
 have h1:(0:Int)<j:=hc.1
 have h2:j<1073741824:=hc.2
 exact floordiv_int (by omega) (by rw [Int.fdiv_eq_ediv_of_nonneg i (by omega)];exact q) (.inl (PyProof.noPylong_small (by omega)))
theorem op_mod:OpR X (binaryOp .Mod) (rI (fun _ j=>0<j) fun i j=>.int (i%j)):=opI fun i j _ _ _ _ _ hc q=>by
 have h1:(0:Int)<j:=hc
 exact mod_int' (by omega) (by rw [Int.fmod_eq_emod_of_nonneg i (by omega)];exact q)
theorem unI {f:Value->Sem Value} {g:Int->Int}
  (rule:∀ (i:Int) (t:Tok) (s:Shared) (Q:Value->Shared->Prop) (E:Value->Shared->Prop),Q (.int (g i) s.toks) {s with toks:=s.toks+1}->wpAny (model X.prog X.w) X.A (f (.int i t)) Q E s) :
  UnR X f (rU fun i=>.int (g i)):=by
 intro pins s σ H x v Q I rx h
 obtain ⟨i,rfl,q⟩:=h
 obtain ⟨t,rfl⟩:=rx
 exact rule i t s _ _ ⟨.int (g i),H,I.tok _,⟨_,rfl⟩,q⟩
theorem un_neg:UnR X (unaryOp .USub) (rU fun i=>.int (-i)):=unI fun _ _ _ _ _ q=>neg_int q
end
def scal:V->V->Bool
 | .non,.non=>true | .non,.int _=>true | .int _,.non=>true | .non,.bl _=>true | .bl _,.non=>true | .non,.str _=>true | .str _,.non=>true
 | .int _,.int _=>true | .bl _,.bl _=>true | .str _,.str _=>true | .byt _,.byt _=>true
 | .int _,.str _=>true | .str _,.int _=>true | .bl _,.str _=>true | .str _,.bl _=>true
 | _,_=>false
def rEq:R2:=fun x y H Q=>scal x y=true/\Q (.bl (decide (x=y))) H
def rNe:R2:=fun x y H Q=>scal x y=true/\Q (.bl (!decide (x=y))) H
theorem dec_int {i j:Int}:decide (V.int i=V.int j)=(i==j):=by
 rw [Bool.eq_iff_iff]
 simp
theorem dec_bl {i j:Bool}:decide (V.bl i=V.bl j)=(i==j):=by
 rw [Bool.eq_iff_iff]
 simp
theorem dec_str {i j:Str}:decide (V.str i=V.str j)=(i==j):=by
 rw [Bool.eq_iff_iff]
 simp
theorem dec_byt {i j:Array UInt8}:decide (V.byt i=V.byt j)=(i.toList==j.toList):=by
 rw [Bool.eq_iff_iff]
 cases i
 cases j
 simp
section
variable {X:Cx} {a b c:Expr} {ta tb tc:TE} {pos:Pos}
theorem fin_bl {pins:List (Addr×Obj)} {σ:St} {H:Hp} {s:Shared} {Q:VK} {k k':Bool} (I:Inv X pins σ H s) (q:Q (.bl k) H) (e:k=k'):EP X pins σ Q (.bool k') s:=by
 subst e
 exact ⟨.bl k,H,I,rfl,q⟩
theorem op_eq:OpR X (compareOp .Eq) rEq:=by
 intro pins s σ H x y v u Q I rx ry h
 obtain ⟨hs,q⟩:=h
 cases x with
 | non =>
  cases rx
  cases y with
  | non=>cases ry;exact PySem.EqNone.eq_none_none (fin_bl I q (by simp))
  | bl j=>cases ry;exact PySem.EqNone.eq_none_bool (fin_bl I q (by simp))
  | int j=>obtain ⟨t',rfl⟩:=ry;exact PySem.EqNone.eq_none_int (fin_bl I q (by simp))
  | str j=>obtain ⟨t',rfl⟩:=ry;exact PySem.EqNone.eq_none_str (fin_bl I q (by simp))
  | _=>exact absurd (show false=true from hs) Bool.false_ne_true
 | bl i =>
  cases rx
  cases y with
  | non=>cases ry;exact PySem.EqNone.eq_bool_none (fin_bl I q (by simp))
  | bl j=>cases ry;exact eq_bool (fin_bl I q dec_bl)
  | str j=>obtain ⟨t',rfl⟩:=ry;exact PySem.EqMixed.eq_bool_str (fin_bl I q (by simp))
  | _=>exact absurd (show false=true from hs) Bool.false_ne_true
 | int i =>
  obtain ⟨t,rfl⟩:=rx
  cases y with
  | non=>cases ry;exact PySem.EqNone.eq_int_none (fin_bl I q (by simp))
  | int j=>obtain ⟨t',rfl⟩:=ry;exact eq_int (fin_bl I q dec_int)
  | str j=>obtain ⟨t',rfl⟩:=ry;exact PySem.EqMixed.eq_int_str (fin_bl I q (by simp))
  | _=>exact absurd (show false=true from hs) Bool.false_ne_true
 | str i =>
  obtain ⟨t,rfl⟩:=rx
  cases y with
  | non=>cases ry;exact PySem.EqNone.eq_str_none (fin_bl I q (by simp))
  | bl j=>cases ry;exact PySem.EqMixed.eq_str_bool (fin_bl I q (by simp))
  | int j=>obtain ⟨t',rfl⟩:=ry;exact PySem.EqMixed.eq_str_int (fin_bl I q (by simp))
  | str j=>obtain ⟨t',rfl⟩:=ry;exact eq_str (fin_bl I q dec_str)
  | _=>exact absurd (show false=true from hs) Bool.false_ne_true
 | byt i =>
  obtain ⟨t,rfl⟩:=rx
  cases y with
  | byt j=>obtain ⟨t',rfl⟩:=ry;exact PySem.W.eq_bytes (fin_bl I q dec_byt)
  | _=>exact absurd (show false=true from hs) Bool.false_ne_true
 | _=>cases y<;>exact absurd (show false=true from hs) Bool.false_ne_true
theorem op_ne:OpR X (compareOp .NotEq) rNe:=by
 intro pins s σ H x y v u Q I rx ry h
 obtain ⟨hs,q⟩:=h
 cases x with
 | non =>
  cases rx
  cases y with
  | non=>cases ry;exact PySem.EqNone.ne_none_none (fin_bl I q (by simp))
  | bl j=>cases ry;exact PySem.EqNone.ne_none_bool (fin_bl I q (by simp))
  | int j=>obtain ⟨t',rfl⟩:=ry;exact PySem.EqNone.ne_none_int (fin_bl I q (by simp))
  | str j=>obtain ⟨t',rfl⟩:=ry;exact PySem.EqNone.ne_none_str (fin_bl I q (by simp))
  | _=>exact absurd (show false=true from hs) Bool.false_ne_true
 | bl i =>
  cases rx
  cases y with
  | non=>cases ry;exact PySem.EqNone.ne_bool_none (fin_bl I q (by simp))
  | bl j=>cases ry;exact ne_bool (fin_bl I q (congrArg not dec_bl))
  | str j=>obtain ⟨t',rfl⟩:=ry;exact PySem.EqMixed.ne_bool_str (fin_bl I q (by simp))
  | _=>exact absurd (show false=true from hs) Bool.false_ne_true
 | int i =>
  obtain ⟨t,rfl⟩:=rx
  cases y with
  | non=>cases ry;exact PySem.EqNone.ne_int_none (fin_bl I q (by simp))
  | int j=>obtain ⟨t',rfl⟩:=ry;exact ne_int (fin_bl I q (congrArg not dec_int))
  | str j=>obtain ⟨t',rfl⟩:=ry;exact PySem.EqMixed.ne_int_str (fin_bl I q (by simp))
  | _=>exact absurd (show false=true from hs) Bool.false_ne_true
 | str i =>
  obtain ⟨t,rfl⟩:=rx
  cases y with
  | non=>cases ry;exact PySem.EqNone.ne_str_none (fin_bl I q (by simp))
  | bl j=>cases ry;exact PySem.EqMixed.ne_str_bool (fin_bl I q (by simp))
  | int j=>obtain ⟨t',rfl⟩:=ry;exact PySem.EqMixed.ne_str_int (fin_bl I q (by simp))
  | str j=>obtain ⟨t',rfl⟩:=ry;exact ne_str (fin_bl I q (congrArg not dec_str))
  | _=>exact absurd (show false=true from hs) Bool.false_ne_true
 | byt i =>
  obtain ⟨t,rfl⟩:=rx
  cases y with
  | byt j=>obtain ⟨t',rfl⟩:=ry;exact PySem.W.ne_bytes (fin_bl I q (congrArg not dec_byt))
  | _=>exact absurd (show false=true from hs) Bool.false_ne_true
 | _=>cases y<;>exact absurd (show false=true from hs) Bool.false_ne_true
theorem op_lt:OpR X (compareOp .Lt) (rI0 fun i j=>.bl (decide (i<j))):=opB0 fun _ _ _ _ _ _ _ q=>lt_int q
theorem op_le:OpR X (compareOp .LtE) (rI0 fun i j=>.bl (decide (i<=j))):=opB0 fun _ _ _ _ _ _ _ q=>le_int q
theorem op_ge:OpR X (compareOp .GtE) (rI0 fun i j=>.bl (decide (j<=i))):=opB0 fun _ _ _ _ _ _ _ q=>ge_int q
theorem op_in_str:OpR X (compareOp .In) (fun x y H Q=>∃ i j,x=.str i/\y=.str j/\Q (.bl (!(Builtin.Str.occurrences j i 0 j.length 1).isEmpty)) H):=by
 intro pins s σ H x y v u Q I rx ry h
 obtain ⟨i,j,rfl,rfl,q⟩:=h
 obtain ⟨t,rfl⟩:=rx
 obtain ⟨t',rfl⟩:=ry
 exact in_str (fin_bl I q rfl)
theorem OpR.or {f:Value->Value->Sem Value} {r r':R2} (h:OpR X f r) (h':OpR X f r'):OpR X f (fun x y H Q=>r x y H Q\/r' x y H Q):=by
 intro pins s σ H x y v u Q I rx ry q
 rcases q with q | q
 ·exact h pins s σ H x y v u Q I rx ry q
 ·exact h' pins s σ H x y v u Q I rx ry q
theorem nomark (b:Expr) {op:CmpOp} (h:op≠.In:=by decide) (h2:op≠.NotIn:=by decide):behindInMarks op b=false:=by
 have e1:(op==CmpOp.In)=false:=by cases op<;>first | rfl | exact absurd rfl h
 have e2:(op==CmpOp.NotIn)=false:=by cases op<;>first | rfl | exact absurd rfl h2
 cases b<;>simp [behindInMarks,e1,e2]
theorem mV {op:CmpOp} {r:R2} (ho:OpR X (compareOp op) r) (ha:PE X a ta) (hb:PE X b tb) (hm:behindInMarks op b=false):PE X (.Compare a [op] [b] pos) (tOp r ta tb):=by
 intro pins s σ H Q I h
 exact wpAny_Compare1 (binT ha hb I h fun v u s2 x y H2 I2 rx ry q=>ho pins s2 σ H2 x y v u Q I2 rx ry q) hm
def tTest (t:TE):TT:=fun σ H Q=>t σ H fun x H'=>∃ k,x=.bl k/\Q k H'
theorem mI {op:CmpOp} {r:R2} (ho:OpR X (compareOp op) r) (ha:PE X a ta) (hb:PE X b tb) (hm:behindInMarks op b=false):PT X (.Compare a [op] [b] pos) (tTest (tOp r ta tb)):=by
 intro pins s σ H Q I h
 refine wpAny_isTrue_Compare1 (thn (ha pins s σ H _ I h) fun v s1 ⟨x,H1,I1,r1,q1⟩=>thn (hb pins s1 σ H1 _ I1 q1) fun u s2 ⟨y,H2,I2,r2,q2⟩ =>
  thn (ho pins s2 σ H2 x y v u _ I2 r1 r2 q2) fun c s3 ⟨z,H3,I3,r3,k,e,q3⟩=>?_) hm
 subst e
 cases r3
 exact wpAny_truthy_bool ⟨H3,I3,q3⟩
def tChain (r r':R2) (ta tb tc:TE):TE:=fun σ H Q=>ta σ H fun x H1=>tb σ H1 fun y H2=>r x y H2 fun z H3=>∃ k,z=.bl k /\
 (if k=true then tc σ H3 fun w' H4=>r' y w' H4 Q else Q (.bl false) H3)
theorem lX {op op':CmpOp} {r r':R2} (ho:OpR X (compareOp op) r) (ho':OpR X (compareOp op') r') (ha:PE X a ta) (hb:PE X b tb) (hc:PE X c tc)
  (hm:lastMarks [op,op'] [b,c]=false:=by with_unfolding_all rfl):PT X (.Compare a [op,op'] [b,c] pos) (tTest (tChain r r' ta tb tc)):=by
 intro pins s σ H Q I h
 refine isTrue_chain (thn (ha pins s σ H _ I h) fun v s1 ⟨x,H1,I1,r1,q1⟩=>test_link (thn (hb pins s1 σ H1 _ I1 q1) fun u s2 ⟨y,H2,I2,r2,q2⟩ =>
  thn (ho pins s2 σ H2 x y v u _ I2 r1 r2 q2) fun d s3 ⟨z,H3,I3,r3,k,e,q3⟩=>?_)) hm
 subst e
 cases r3
 refine wpAny_truthy_bool ?_
 cases k with
 | false =>
  obtain ⟨k',e',q'⟩:=q3
  cases e'
  exact ite_ff ⟨H3,I3,q'⟩
 | true =>
  refine ite_tt (test_last (thn (hc pins s3 σ H3 _ I3 q3) fun w' s4 ⟨z',H4,I4,r4,q4⟩=>thn (ho' pins s4 σ H4 y z' u w' _ I4 r2 r4 q4) fun d' s5 ⟨z2,H5,I5,r5,k2,e2,q5⟩=>?_))
  subst e2
  cases r5
  exact wpAny_truthy_bool ⟨H5,I5,q5⟩
def TruV (K:PySem.W.Frag) (x:V) (H:Hp) (k:Bool):Prop :=
 match x with
 | .non=>k=false
 | .bl b=>k=b
 | .int i=>k=(i != 0)
 | .str y=>y.length<=sizeLine/\k=((y.length:Int) != 0)
 | .byt y=>y.size<=sizeLine/\k=((y.size:Int) != 0)
 | .ref p=>(∃ xs,SqL K H p xs/\k=!xs.isEmpty)\/(∃ xs,SqT K H p xs/\k=!xs.isEmpty)\/∃ kvs,H p=some (.dK kvs)/\k=!kvs.isEmpty
 | _=>False
theorem isEmpty_kv {κ:Type} {kvs:List (κ×V)} {vs:List (κ×Value)} (r:KV kvs vs):(!vs.isEmpty)=!kvs.isEmpty:=by
 cases r<;>rfl
theorem isEmpty_of {xs:List V} {its:List Value} (r:Vals xs its):(!its.toArray.isEmpty)=!xs.isEmpty:=by
 cases r<;>simp
theorem line63:(sizeLine:Nat)<2 ^ 63:=by rw [sizeLine_eq];decide
theorem tru_ok:TruR X (fun x H Q=>∃ k,TruV X.K x H k/\Q k H):=by
 intro pins s σ H x v Q I rx h
 obtain ⟨k,e,q⟩:=h
 have hl:=line63
 have hs:sizeLine=16777216:=sizeLine_eq
 cases x with
 | non =>
  cases rx
  have e':k=false:=e
  subst e'
  exact truthy_none ⟨H,I,q⟩
 | bl b =>
  cases rx
  have e':k=b:=e
  subst e'
  exact wpAny_truthy_bool ⟨H,I,q⟩
 | int i =>
  obtain ⟨t,rfl⟩:=rx
  have e':k=(i != 0):=e
  subst e'
  exact PySem.P.truthy_int ⟨H,I,q⟩
 | str y =>
  obtain ⟨t,rfl⟩:=rx
  obtain ⟨hy,e'⟩:y.length<=sizeLine/\k=((y.length:Int) != 0):=e
  subst e'
  exact PySem.P.truthy_str (by omega) ⟨H,I.tok _,q⟩
 | byt y =>
  obtain ⟨t,rfl⟩:=rx
  obtain ⟨hy,e'⟩:y.size<=sizeLine/\k=((y.size:Int) != 0):=e
  subst e'
  exact PySem.W.truthy_bytes (by omega) ⟨H,I.tok _,q⟩
 | ref p =>
  cases rx
  have e':(∃ xs,SqL X.K H p xs/\k=!xs.isEmpty)\/(∃ xs,SqT X.K H p xs/\k=!xs.isEmpty)\/∃ kvs,H p=some (.dK kvs)/\k=!kvs.isEmpty:=e
  rcases e' with ⟨xs,hx,e'⟩ | ⟨xs,hx,e'⟩ | ⟨kvs,hx,e'⟩
  ·subst e'
   obtain ⟨its,r,pl,hz⟩:=I.list hx
   have hlen:=r.length
   exact wpAny_truthy_list pl.isList (by simp only [List.size_toArray];omega) ⟨H,I.tok _,by rw [isEmpty_of r];exact q⟩
  ·subst e'
   obtain ⟨its,r,pl,hz⟩:=I.tuple hx
   have hlen:=r.length
   exact truthy_tuple pl (by simp only [List.size_toArray];omega) ⟨H,I.tok _,by rw [isEmpty_of r];exact q⟩
  ·subst e'
   obtain ⟨hz,hS,vs,r,m⟩:kvs.length<=sizeLine/\(p==sysModules)=false/\∃ vs,KV kvs vs/\s.heap.DictOf (mixKind X.prog X.w) p vs:=I.hok p _ hx
   have hlen:kvs.length=vs.length:=Paired.length r
   exact wpAny_truthy_dict hS m (by omega) ⟨H,I.tok _,by rw [isEmpty_kv r];exact q⟩
 | _=>exact (show False from e).elim
theorem mC (ha:PE X a ta) (he:∀ whole,isTrue a X.env whole=(do let v <- whole;standAt a.pos;holding [v] (truthy v))) :
  PT X a (fun σ H Q=>ta σ H fun x H'=>∃ k,TruV X.K x H' k/\Q k H'):=by
 intro pins s σ H Q I h
 exact isTrue_plain (thn (ha pins s σ H _ I h) fun v s1 ⟨x,H1,I1,r1,q1⟩=>tru_ok pins s1 σ H1 x v Q I1 r1 q1) (he _)
theorem op_add_str:OpR X (binaryOp .Add) (fun x y H Q=>∃ i j,x=.str i/\y=.str j/\i.length+j.length<=sizeLine/\Q (.str (i++j)) H):=by
 intro pins s σ H x y v u Q I rx ry h
 obtain ⟨i,j,rfl,rfl,hz,q⟩:=h
 obtain ⟨t,rfl⟩:=rx
 obtain ⟨t',rfl⟩:=ry
 exact add_str (fun t' tk=>⟨.str (i++j),H,I.tok _,⟨_,rfl⟩,q⟩) hz
theorem vals1 {x:V} {us:List Value} (r:Vals [x] us):∃ u,us=[u]/\RelV x u:=by
 cases r with
 | cons r1 r2=>cases r2;exact ⟨_,rfl,r1⟩
theorem vals2 {x y:V} {us:List Value} (r:Vals [x,y] us):∃ u w',us=[u,w']/\RelV x u/\RelV y w':=by
 cases r with
 | cons r1 r2 =>
  cases r2 with
  | cons r3 r4=>cases r4;exact ⟨_,_,rfl,r1,r3⟩
theorem call_str_int:CallR X (.type "str") (fun xs H Q=>∃ i,xs=[.int i]/\i.natAbs.log2<1920/\Q (.str (toString i)) H):=by
 intro pins s σ H xs us Q I r h
 obtain ⟨i,rfl,hz,q⟩:=h
 obtain ⟨u,rfl,t,rfl⟩:=vals1 r
 exact PySem.P.str_of_int hz ⟨.str _,H,I.tok _,⟨_,rfl⟩,q⟩
end
end L2
namespace L2
open PySem PySem.Spec PyProof.Rows
structure ObjM (h:Heap) (x dx C:Addr) (mA:Str->Option Value):Prop where
 obj:h.get? x=some (PySem.W.instObj C dx)
 ns:h.Ns1 dx mA
 ne:dx≠x
theorem lookIn_ns {h:Heap} {dx:Addr} {mA:Str->Option Value} (n:h.Ns1 dx mA):∃ od,h.get? dx=some od/\∀ name,PySem.W.lookIn name od=some (mA name):=by
 obtain ⟨o,es,ep,ho,hd,hk,_,hm⟩:=n
 refine ⟨o,ho,fun name=>?_⟩
 have e:=hm name
 unfold nsFind findBy at e
 rw [<- Array.find?_toList] at e
 unfold PySem.W.lookIn
 rw [hd]
 dsimp only
 split
 ·rename_i y q
  rw [q] at e
  exact congrArg some e
 ·rename_i q
  rw [q] at e
  have a:es.toList.any (·.refKey)=false:=by
   rw [List.any_eq_false]
   intro y hy
   obtain ⟨z,t,hkey⟩:=hk y (Array.mem_toList_iff.mp hy)
   simp [DictEntry.refKey,hkey]
  have a':¬ es.toList.any (·.refKey)=true:=by rw [a];exact Bool.false_ne_true
  rw [if_neg a']
  exact congrArg some e
theorem ObjM.look {h:Heap} {x dx C:Addr} {mA:Str->Option Value} (I:ObjM h x dx C mA):∃ od,PySem.W.InstAt h x (PySem.W.instObj C dx) C (some od)/\∀ name,PySem.W.lookIn name od=some (mA name) :=
 let ⟨od,ho,hl⟩:=lookIn_ns I.ns
 ⟨od,⟨I.obj,rfl,rfl,ho⟩,hl⟩
section
variable {prog:Program} {w:World} {A:Around} {E:Value->Shared->Prop} {s:Shared} {K:PySem.W.Frag} {x dx C f:Addr} {mA:Str->Option Value} {name:Str} {v:Value}
end
theorem RelO.none_of {o:Option Value} (r:RelO none o):o=none:=by
 cases o with
 | none=>rfl
 | some u=>exact (show False from r).elim
section
variable {P:Program} {w:World} {H H':Hp} {h h':Heap} {a C dx:Addr} {fs fs':List (Str×V)}
end
structure Cls (K:PySem.W.Frag) (C:Addr):Prop where
 pg:PySem.W.plainGet K C Str.empty=true
 hd:PySem.W.hasDictIn K C=true
 po:PySem.W.plainOver K C=true
 sa:PySem.W.findIn K (.ref C) "__setattr__" = some (some (.builtin "object.__setattr__"))
theorem Cls.get {K:PySem.W.Frag} {C:Addr} (c:Cls K C) (f:Str):PySem.W.plainGet K C f=true:=c.pg
structure Con (K:PySem.W.Frag) (C:Addr) (f:Str) (v:V) (u:Value):Prop where
 at_:PySem.W.findIn K (.ref C) f=some (some u)
 rel:RelV v u
 get:PySem.W.specialIn K u "__get__" = some none
 cp:PySem.W.copiedNames.contains f=false
section
variable {X:Cx} {pins:List (Addr×Obj)} {σ:St} {H:Hp} {s:Shared} {a C dx:Addr} {fs:List (Str×V)} {f:Str} {v:V} {A:Around} {E:Value->Shared->Prop}
theorem Inv.made (I:Inv X pins σ H s):Inv X pins σ (upd (upd H s.heap.objs.size (.own (s.heap.objs.size+1))) (s.heap.objs.size+1) (.ins C s.heap.objs.size []))
  {s with heap:=(s.heap.push PySem.W.emptyDict).push (PySem.W.instObj C s.heap.objs.size)}:=by
 have e1:(s.heap.push PySem.W.emptyDict).get? s.heap.objs.size=some PySem.W.emptyDict:=Heap.get?_push_size s.heap rfl
 have e2:((s.heap.push PySem.W.emptyDict).push (PySem.W.instObj C s.heap.objs.size)).get? (s.heap.objs.size+1)=some (PySem.W.instObj C s.heap.objs.size):=by
  have:=Heap.get?_push_size (s.heap.push PySem.W.emptyDict) (o:=PySem.W.instObj C s.heap.objs.size) rfl
  rwa [Heap.size_push] at this
 have e3:(s.heap.push PySem.W.emptyDict).Ns s.heap.objs.size (fun _=>none):=⟨PySem.W.emptyDict,#[],_,e1,rfl,(fun e he=>absurd he (by simp)),fun _=>rfl⟩
 have I1:=I.laid (a:=s.heap.objs.size) (o:=.own (s.heap.objs.size+1)) (h':=s.heap.push PySem.W.emptyDict) (t':=s.toks) (fun b u q=>Heap.get?_push_of_some _ q) (Nat.le_refl _) ⟨_,e1⟩
 refine I1.laid (a:=s.heap.objs.size+1) (o:=.ins C s.heap.objs.size []) (t':=s.toks) (fun b u q=>Heap.get?_push_of_some _ q) (Nat.le_of_eq (Heap.size_push _ _)) ?_
 have ne:s.heap.objs.size≠s.heap.objs.size+1:=Nat.ne_of_lt (Nat.lt_succ_self _)
 refine ⟨by rw [aq ne,ar],Nat.zero_le _,ne,e2,fun _=>none,(Heap.Ns1.of_empty e3).at fun o q=>Heap.get?_push_of_some _ q,fun _=>True.intro,fun y hy=>absurd rfl hy⟩
end
section
variable {X:Cx} {o e value:Expr} {f:Str} {pos pos' tpos:Pos} {ta tv:TE}
end
section
variable {X:Cx} {pins:List (Addr×Obj)} {σ:St} {H:Hp} {s:Shared} {A:Around} {E:Value->Shared->Prop} {Q:Value->Shared->Prop} {c:Value} {b:Bool}
end
end L2
namespace L2
open PySem PySem.Spec PyProof.Rows
structure Room (k:Nat) (A:Around):Prop where
 hd:A.handled=none
 dp:A.depth+3*k+5<recursionLimit
 un:A.units+16*k+200<cLine
 gd:A.guards=some []
theorem Room.mono {j k:Nat} {A:Around} (r:Room k A) (h:j<=k):Room j A:=⟨r.hd,by have:=r.dp;omega,by have:=r.un;omega,r.gd⟩
theorem Room.deeper {k:Nat} {A:Around} (r:Room (k+1) A) (env:Env):Room k (A.deeper env) :=
 ⟨r.hd,by have:=r.dp;show A.depth+1+3*k+5<_;omega,by have:=r.un;show A.units+3+16*k+200<_;omega,r.gd⟩
theorem Room.in1 {k:Nat} {A:Around} (r:Room (k+1) A):Room k A.in1 :=
 ⟨r.hd,by have:=r.dp;show A.depth+3*k+5<_;omega,by have:=r.un;show A.units+1+16*k+200<_;omega,r.gd⟩
theorem make_depth {A:Around} {C:Addr} {us:List Value} {kw:List (Str×Value)}:(A.under (.builtin "type.__call__" ⟨.ref C::us,kw⟩)).depth=A.depth+1:=by
 first | rfl | simp [Around.under,Code.weight,Code.isCreation,Code.isGuard,Code.isCaller,Code.frames,Code.isFrame,guardIds]
theorem make_units {A:Around} {C:Addr} {us:List Value} {kw:List (Str×Value)}:(A.under (.builtin "type.__call__" ⟨.ref C::us,kw⟩)).units=A.units+1:=by
 first | rfl | simp [Around.under,Code.cUnits,Code.frames,Code.isFrame]
theorem Room.make {k:Nat} {A:Around} (r:Room (k+1) A) (C:Addr) (us:List Value) (kw:List (Str×Value)):Room k (A.under (.builtin "type.__call__" ⟨.ref C::us,kw⟩)) :=
 ⟨r.hd,by have:=r.dp;rw [make_depth];omega,by have:=r.un;rw [make_units];omega,by show pushGuards (Code.guards (.builtin "type.__call__" ⟨.ref C::us,kw⟩)) A.guards=_;rw [r.gd];first | rfl | simp [Code.guards,Code.isGuard,guardIds,pushGuards]⟩
theorem Room.depth {k:Nat} {A:Around} (r:Room k A):A.depth<recursionLimit:=by have:=r.dp;omega
theorem Room.units {k:Nat} {A:Around} (r:Room k A):A.units+64<cLine:=by have:=r.un;omega
def tNil:TA:=fun _ H Q=>Q [] H
def tCons (ta:TE) (tr:TA):TA:=fun σ H Q=>ta σ H fun x H1=>tr σ H1 fun xs H2=>Q (x::xs) H2
section
variable {X:Cx} {e:Expr} {es:List Expr} {te:TE} {t:TA} {pos:Pos}
theorem pa_nil:PA X [] tNil:=fun _ _ _ _ H Q I h=>Calls.spliced_nil ⟨[],H,I,.nil,h⟩
theorem eR (ha:PE X e te) (hr:PA X es t) (hs:starEach (e::es) X.env=(false,eval e X.env)::starEach es X.env:=by rfl):PA X (e::es) (tCons te t):=by
 intro pos pins s σ H Q I h
 rw [hs]
 show wpAny _ _ (spliced ((false,eval e X.env)::backTo pos (starEach es X.env))) _ _ s
 refine Calls.spliced_cons (thn (ha pins s σ H _ I h) fun u s1 ⟨x,H1,I1,r1,q1⟩=>?_)
 exact thn (hr pos pins s1 σ H1 _ I1 q1) fun us s2 ⟨xs,H2,I2,r2,q2⟩=>⟨x::xs,H2,I2,.cons r1 r2,q2⟩
def tTup (t:TA):TE:=fun σ H Q=>t σ H fun xs H1=>xs.length<=sizeLine/\∀ p,H1 p=none->Q (.ref p) (upd H1 p (.tup xs))
def tLst (t:TA):TE:=fun σ H Q=>t σ H fun xs H1=>xs.length<=sizeLine/\∀ p,H1 p=none->Q (.ref p) (upd H1 p (.lst xs))
theorem mm {x1} (h:PA X es t):PE X (.Tuple es x1 pos) (tTup t):=by
 intro pins s σ H Q I hq
 refine wpAny_Tuple_spliced (thn (h pos pins s σ H _ I hq) fun us s1 ⟨xs,H1,I1,r,z,q⟩=>⟨by rw [<- r.length];exact z,?_⟩)
 have hf:H1 s1.heap.objs.size=none:=I1.hok.fresh (Nat.le_refl _)
 refine ⟨.ref s1.heap.objs.size,upd H1 s1.heap.objs.size (.tup xs),I1.laid (t':=s1.toks) (fun b u e=>Heap.get?_push_of_some _ e) (Nat.le_refl _) ?_,rfl,q _ hf⟩
 exact ⟨z,us,r,⟨_,Heap.get?_push_size _ rfl,rfl,⟨_,rfl⟩,rfl⟩⟩
theorem mf (h:PA X es t):PE X (.List es pos) (tLst t):=by
 intro pins s σ H Q I hq
 refine wpAny_List_spliced (thn (h pos pins s σ H _ I hq) fun us s1 ⟨xs,H1,I1,r,z,q⟩=>⟨by rw [<- r.length];exact z,?_⟩)
 have hf:H1 s1.heap.objs.size=none:=I1.hok.fresh (Nat.le_refl _)
 refine ⟨.ref s1.heap.objs.size,upd H1 s1.heap.objs.size (.lst xs),I1.laid (t':=s1.toks) (fun b u e=>Heap.get?_push_of_some _ e) (Nat.le_refl _) ?_,rfl,q _ hf⟩
 exact ⟨z,us,0,r,Heap.get?_push_size _ rfl⟩
end
abbrev Sp:=List V->Hp->VK->XK->Prop
abbrev CXT:=List Env->Hp->Shared->XK->Value->Shared->Prop
structure Env0 (P:Program) (w:World) (K:PySem.W.Frag) (mg:Str->Option Value) (base:Heap) (A:Around) (outer:List Env) (s:Shared) (H:Hp):Prop where
 frames:A.frames=some outer
 mod:Mod K mg base
 bs:∀ b o,base.get? b=some o->s.heap.get? b=some o/\H b=none
 bsz:base.objs.size<=s.heap.objs.size
 funs:s.heap.FunFrames base outer
 frf:∀ b∈frs outer,H b=none
 hok:HOk P w H s.heap
 bare:AllBare s.gens
def CE (outer:List Env) (P:Program) (w:World) (H:Hp) (s:Shared) (Q:VK) (u:Value) (s':Shared):Prop :=
 ∃ v H',s'.os=s.os/\AllBare s'.gens/\Un (frs outer) [] H H' s.heap s'.heap/\HOk P w H' s'.heap/\RelV v u/\Q v H'
def CR (CX:CXT) (outer:List Env) (P:Program) (w:World) (H:Hp) (s:Shared) (Q:VK) (E:XK) (r:Result) (s':Shared):Prop :=
 match r with
 | .ok (.ret u)=>CE outer P w H s Q u s'
 | .ok _=>False
 | .error e=>CX outer H s E e s'
structure FnOk (P:Program) (w:World) (K:PySem.W.Frag) (mg:Str->Option Value) (base:Heap) (CX:CXT) (k:Nat) (f:Addr) (fd:FuncData) (ps:List Str) (sp:Sp):Prop where
 len:∀ vs H Q E,sp vs H Q E->vs.length=ps.length
 run:∀ (A:Around) (outer:List Env) (s:Shared) (H:Hp) (args:Args) (us:List Value) (vs:List V) (Q:VK) (E:XK),Room k A->Env0 P w K mg base A outer s H->BindsTo s fd args (ps.zip us)->Vals vs us->sp vs H Q E ->
  codeAny (model P w) A (.call (.ref f) args) (CR CX outer P w H s Q E) s
theorem FnOk.mono {P:Program} {w:World} {K:PySem.W.Frag} {mg:Str->Option Value} {base:Heap} {CX:CXT} {j k:Nat} {f:Addr} {fd:FuncData} {ps:List Str} {sp:Sp} (F:FnOk P w K mg base CX j f fd ps sp) (h:j<=k) :
  FnOk P w K mg base CX k f fd ps sp:=⟨F.len,fun A outer s H args us vs Q E hr=>F.run A outer s H args us vs Q E (hr.mono h)⟩
theorem FnOk.imp {P:Program} {w:World} {K:PySem.W.Frag} {mg:Str->Option Value} {base:Heap} {CX:CXT} {k:Nat} {f:Addr} {fd:FuncData} {ps:List Str} {sp sp':Sp} (F:FnOk P w K mg base CX k f fd ps sp)
  (h:∀ vs H Q E,sp' vs H Q E->sp vs H Q E):FnOk P w K mg base CX k f fd ps sp' :=
 ⟨fun vs H Q E q=>F.len vs H Q E (h _ _ _ _ q),fun A outer s H args us vs Q E hr he hb hv hs=>F.run A outer s H args us vs Q E hr he hb hv (h _ _ _ _ hs)⟩
theorem Env0.make {P:Program} {w:World} {K:PySem.W.Frag} {mg:Str->Option Value} {base:Heap} {A:Around} {outer:List Env} {s:Shared} {H:Hp} (e:Env0 P w K mg base A outer s H) (C:Addr) (us:List Value) (kw:List (Str×Value)) :
  Env0 P w K mg base (A.under (.builtin "type.__call__" ⟨.ref C::us,kw⟩)) outer s H:=⟨by first | exact e.frames | (simpa [Around.under,Code.envs,Code.isFrame,pushEnvs] using e.frames),e.mod,e.bs,e.bsz,e.funs,e.frf,e.hok,e.bare⟩
theorem Env0.in1 {P:Program} {w:World} {K:PySem.W.Frag} {mg:Str->Option Value} {base:Heap} {A:Around} {outer:List Env} {s:Shared} {H:Hp} (e:Env0 P w K mg base A outer s H) :
  Env0 P w K mg base A.in1 outer s H:=⟨e.frames,e.mod,e.bs,e.bsz,e.funs,e.frf,e.hok,e.bare⟩
section
variable {X:Cx} {pins:List (Addr×Obj)} {σ:St} {H:Hp} {s s':Shared}
theorem Inv.env0 (I:Inv X pins σ H s):Env0 X.prog X.w X.K X.mg X.base X.A X.stack s H :=
 ⟨I.ok.frames,I.ok.mod,I.bs,Nat.le_trans I.ok.bsz I.sz,I.stack,I.stkFree,I.hok,I.bare⟩
theorem Inv.after {Q:VK} {u:Value} (I:Inv X pins σ H s) (h:CE X.stack X.prog X.w H s Q u s'):EP X pins σ Q u s':=by
 obtain ⟨v,H',os,bare,un,hok,r,q⟩:=h
 obtain ⟨hh,g,d,t,os'⟩:=s'
 obtain rfl:os'=s.os:=os
 exact ⟨v,H',I.call (h':=hh) (g':=g) (d':=d) (t':=t) (ch:=[]) un hok bare (fun b z=>absurd z (by simp)),r,q⟩
end
def tCall (sp:Sp) (dvs:List V) (E:XK) (t:TA):TE:=fun σ H Q=>t σ H fun vs H1=>sp (vs++dvs) H1 Q E
def Binds (K:PySem.W.Frag) (fd:FuncData) (ps:List Str) (ds:List Value):Prop :=
 ∀ (s:Shared) (us:List Value),K.In s.heap->(us++ds).length=ps.length->BindsTo s fd ⟨us,[]⟩ (ps.zip (us++ds))
theorem Binds.all {K:PySem.W.Frag} {fd:FuncData} {ps:List Str} (h:∀ us:List Value,us.length=ps.length->bindArgs fd ⟨us,[]⟩=pure (ps.zip us)):Binds K fd ps []:=fun s us _ hl=>by
 rw [List.append_nil] at hl ⊢
 exact .of_eq (h us hl)
def Passes (CX:CXT) (X:Cx) (E:XK):Prop:=∀ (pins:List (Addr×Obj)) (σ:St) (H:Hp) (s:Shared) (e:Value) (s':Shared),Inv X pins σ H s->CX X.stack H s E e s'->X.xe e s'
section
variable {X:Cx} {CX:CXT} {k:Nat} {f C:Addr} {fd:FuncData} {ps:List Str} {sp:Sp} {dvs:List V} {ds:List Value} {E:XK} {x m:Str} {p pos apos:Pos} {e o:Expr} {es:List Expr} {ta:TE} {t:TA}
theorem run_fn {pins:List (Addr×Obj)} {σ:St} {H:Hp} {s:Shared} {Q:VK} {us:List Value} {vs:List V} (F:FnOk X.prog X.w X.K X.mg X.base CX k f fd ps sp) (hr:Room k X.A) (hb:Binds X.K fd ps ds) (hd:Vals dvs ds) (hx:Passes CX X E)
  (I:Inv X pins σ H s) (r:Vals vs us) (h:sp (vs++dvs) H Q E):wpAny (model X.prog X.w) X.A (call (.ref f) us) (EP X pins σ Q) X.xe s:=by
 have r2:Vals (vs++dvs) (us++ds):=r.append hd
 have hl:(us++ds).length=ps.length:=by rw [<- r2.length];exact F.len _ _ _ _ h
 refine wpAny_call (codeAny_mono (F.run X.A X.stack s H ⟨us,[]⟩ (us++ds) (vs++dvs) Q E hr I.env0 (hb s us I.kIn hl) r2 h) fun r s' hq=>?_)
 cases r with
 | error e=>exact hx pins σ H s e s' I hq
 | ok fl =>
  cases fl with
  | ret u=>exact I.after hq
  | next=>exact False.elim hq
  | brk=>exact False.elim hq
  | cont=>exact False.elim hq
theorem lb (F:FnOk X.prog X.w X.K X.mg X.base CX k f fd ps sp) (hr:Room k X.A) (hg:Gl X x) (hm:X.mg x=some (.ref f)) (hk:PySem.W.keepIn X.K (.ref f)=true) (hb:Binds X.K fd ps ds) (hd:Vals dvs ds) (hx:Passes CX X E)
  (ha:PA X (e::es) t) (hdb:(x==("__debug__" : Str))=false:=by decide) (he:starEach (e::es) X.env=(false,eval e X.env)::starEach es X.env:=by rfl) (hpl:(backTo pos (starEach es X.env)).any (·.1)=false:=by rfl) :
  PE X (.Call (.Name x p) (e::es) [] pos) (tCall sp dvs E t):=by
 intro pins s σ H Q I h
 refine wpAny_Call_Name_kw (eh I hg hm ?_ hdb)
 refine PySem.W.callWith_K (h₀:=X.base) I.ok.mod.kin hk (thn (ha pos pins s σ H _ I h) fun us s1 ⟨vs,H1,I1,r,q⟩=>⟨I1.kIn,?_⟩) he hpl
 exact run_fn F hr hb hd hx I1 r q
end
section
variable {X:Cx} {CX:CXT} {k:Nat} {f C:Addr} {fd:FuncData} {ps ks:List Str} {sp:Sp} {E:XK} {x m:Str} {p pos apos kpos:Pos} {e o:Expr} {es:List Expr} {kws:List Keyword} {te ta:TE} {t tk:TA} {nm:Option Str}
variable {g:List Value->List Value->List Value} {gV:List V->List V->List V}
end
structure FnScope (N P:List Str) (sc:Scope):Prop where
 kind:sc.kind=.function
 co:sc.isCoroutine=false
 gen:sc.isGenerator=false
 nd:N.Nodup
 pre:N.take P.length=P
 par:∀ x∈P,sc.names.lookup x=some .local\/sc.names.lookup x=some .cell
 nofree:∀ y∈sc.names,y.2≠.free
theorem bindL_out {kindOf:Str->Option NameKind} {x:Str}:∀ {binds:List (Str×Value)} {m:Str->Option Value},(∀ v,(x,v)∉binds)->bindL kindOf binds m x=m x
 | [],_,_=>rfl
 | (n,v)::r,m,h=>by
  unfold bindL
  rw [bindL_out fun w hw=>h w (List.mem_cons_of_mem _ hw)]
  split
  ·have:x≠n:=by rintro rfl;exact h v List.mem_cons_self
   simp [this]
  ·rfl
theorem bindC_out {kindOf:Str->Option NameKind} {x:Str}:∀ {binds:List (Str×Value)} {m:Str->Option Value},(∀ v,(x,v)∉binds)->bindC kindOf binds m x=m x
 | [],_,_=>rfl
 | (n,v)::r,m,h=>by
  unfold bindC
  rw [bindC_out fun w hw=>h w (List.mem_cons_of_mem _ hw)]
  split
  ·rfl
  ·have:x≠n:=by rintro rfl;exact h v List.mem_cons_self
   simp [this]
theorem bindL_get {kindOf:Str->Option NameKind} {x:Str} {v:Value}:∀ {P:List Str} {vs:List Value} {i:Nat} {m:Str->Option Value},P.Nodup->P[i]?=some x->vs[i]?=some v->kindOf x=some .local ->
  bindL kindOf (P.zip vs) m x=some v
 | [],_,_,_,_,h,_,_=>by simp at h
 | _::_,[],_,_,_,_,h,_=>by simp at h
 | p::P,w::vs,0,m,nd,h1,h2,hk=>by
  simp at h1 h2;subst h1;subst h2
  show bindL kindOf ((p,w)::P.zip vs) m p=_
  unfold bindL
  rw [bindL_out fun v hv=>(List.nodup_cons.mp nd).1 (List.of_mem_zip hv).1,if_pos hk]
  simp
 | p::P,w::vs,i+1,m,nd,h1,h2,hk=>by
  show bindL kindOf ((p,w)::P.zip vs) m x=_
  unfold bindL
  exact bindL_get (i:=i) (List.nodup_cons.mp nd).2 (by simpa using h1) (by simpa using h2) hk
theorem bindC_get {kindOf:Str->Option NameKind} {x:Str} {v:Value}:∀ {P:List Str} {vs:List Value} {i:Nat} {m:Str->Option Value},P.Nodup->P[i]?=some x->vs[i]?=some v->kindOf x≠some .local ->
  bindC kindOf (P.zip vs) m x=some v
 | [],_,_,_,_,h,_,_=>by simp at h
 | _::_,[],_,_,_,_,h,_=>by simp at h
 | p::P,w::vs,0,m,nd,h1,h2,hk=>by
  simp at h1 h2;subst h1;subst h2
  show bindC kindOf ((p,w)::P.zip vs) m p=_
  unfold bindC
  rw [bindC_out fun v hv=>(List.nodup_cons.mp nd).1 (List.of_mem_zip hv).1,if_neg hk]
  simp
 | p::P,w::vs,i+1,m,nd,h1,h2,hk=>by
  show bindC kindOf ((p,w)::P.zip vs) m x=_
  unfold bindC
  exact bindC_get (i:=i) (List.nodup_cons.mp nd).2 (by simpa using h1) (by simpa using h2) hk
def start (N:List Str) (vs:List V):St:=vs.map some++List.replicate (N.length - vs.length) none
def cxOf (CX:CXT) (P:Program) (w:World) (K:PySem.W.Frag) (mg:Str->Option Value) (base:Heap) (N:List Str) (qual:Str) (scope:Scope) (f:Addr) (cd:Value) (A:Around) (outer:List Env) (s:Shared) (H:Hp) (E:XK):Cx where
 prog:=P
 w:=w
 K:=K
 mg:=mg
 base:=base
 A:=A.deeper (envOfC qual scope s.heap.objs.size f cd)
 N:=N
 s₀:=s
 H₀:=H
 env:=envOfC qual scope s.heap.objs.size f cd
 outer:=outer
 stack:=envOfC qual scope s.heap.objs.size f cd::outer
 ex:=[]
 calm:=true
 fn:=fun _=>true
 pn:=[]
 xe:=fun e s'=>wpAny (model P w) (A.deeper (envOfC qual scope s.heap.objs.size f cd)) (leaving (envOfC qual scope s.heap.objs.size f cd) e) (fun _ s''=>CX outer H s E e s'') (fun e' s''=>CX outer H s E e' s'') s'
theorem cell_has {sc:Scope} {n:Nat} {x:Str} (h:sc.names.lookup x=some .cell):∃ c,(cellsFrom n sc.names []).lookup x=some c:=by
 have q:=PySem.W.cellsFrom_some sc.names n [] (.inl h)
 exact Option.isSome_iff_exists.mp q
theorem inv_start {CX:CXT} {P:Program} {w:World} {K:PySem.W.Frag} {mg:Str->Option Value} {base:Heap} {N ps:List Str} {qual:Str} {scope:Scope} {f:Addr} {cd:Value} {A:Around} {outer:List Env} {s s1:Shared} {H:Hp} {E:XK} {us:List Value} {vs:List V}
  (S:FnScope N ps scope) (hd:A.handled=none) (e0:Env0 P w K mg base A outer s H) (hl:vs.length=ps.length) (r:Vals vs us)
  (x:InCallC s s.heap.objs.size (bindL (envOfC qual scope s.heap.objs.size f cd).kindOf (ps.zip us) fun _=>none) (cellsFrom (s.heap.objs.size+1) scope.names []) (bindC (envOfC qual scope s.heap.objs.size f cd).kindOf (ps.zip us) fun _=>none) s1) :
  Inv (cxOf CX P w K mg base N qual scope f cd A outer s H E) [] (start N vs) H s1:=by
 have hpl:ps.length<=N.length:=by have:=congrArg List.length S.pre;rw [List.length_take] at this;omega
 obtain ⟨h1,tk,rfl,hk⟩:=x.done
 have noA:∀ b:Addr,b∉(cxOf CX P w K mg base N qual scope f cd A outer s H E).ex:=fun b z=>absurd (show b∈([]:List Addr) from z) (by simp)
 refine ⟨⟨e0.mod,S.kind,rfl,rfl,Nat.le_refl _,fun y z c h1 h2=>?_,fun y hy=>?_,fun y c _ h=>?_,fun _=>hd,Around.frames_deeper e0.frames,.inr ⟨rfl,rfl⟩,fun b z=>absurd z (noA b),e0.bs,e0.bsz,fun b _ _=>noA b,fun b z=>absurd z (noA b),e0.funs,e0.frf⟩,
  rfl,e0.bare,Un.kept hk,⟨_,x.toInCall.ns,fun i y v h1 h2 h3=>?_⟩,fun y c h=>⟨_,x.cell y c h⟩,e0.hok.fresh (Nat.le_refl _),fun y c h=>?_,fun p hp=>absurd (show p∈([]:List (Addr×Obj)) from hp) (by simp),e0.hok.kept hk,?_⟩
 ·exact name_of_addr x.apart (PySem.mem_of_lookup h1) (PySem.mem_of_lookup h2)
 ·have hy:scope.names.lookup y=some .cell\/scope.names.lookup y=some .free:=hy
  rcases hy with hy | hy
  ·exact cell_has hy
  ·exact absurd rfl (S.nofree _ (PySem.mem_of_lookup hy))
 ·exact Nat.le_of_lt (x.above y c (PySem.mem_of_lookup h))
 ·have hi:i<vs.length:=by
   unfold start at h2
   by_cases hi:i<vs.length
   ·exact hi
   ·rw [List.getElem?_append_right (by simpa using hi)] at h2
    rw [List.getElem?_replicate] at h2
    split at h2<;>cases h2
  have ha:vs[i]?=some v:=by
   unfold start at h2
   rw [List.getElem?_append_left (by simpa using hi),List.getElem?_map] at h2
   cases e:vs[i]? with
   | none=>rw [e] at h2;cases h2
   | some a=>rw [e] at h2;cases h2;rfl
  obtain ⟨u,hu,rv⟩:=r.get ha
  have hp:ps[i]?=some y:=by
   rw [<- S.pre,List.getElem?_take_of_lt (by omega)];exact h1
  have ndP:ps.Nodup:=by rw [<- S.pre];exact S.nd.sublist (List.take_sublist _ _)
  refine ⟨u,rv,?_⟩
  rcases S.par y (List.mem_of_getElem? hp) with k | k
  ·exact .inl ⟨k,bindL_get ndP hp hu k⟩
  ·obtain ⟨c,e⟩:=cell_has (n:=s.heap.objs.size+1) k
   refine .inr ⟨.inl k,c,e,?_⟩
   have q:=x.cell y c e
   rw [bindC_get ndP hp hu (by show scope.names.lookup y≠_;rw [k];decide)] at q
   exact q
 ·exact e0.hok.fresh (Nat.le_of_lt (x.above y c (PySem.mem_of_lookup h)))
 ·unfold start
  show _=N.length
  rw [List.length_append,List.length_map,List.length_replicate]
  omega
theorem mr {CX:CXT} {P:Program} {w:World} {K:PySem.W.Frag} {mg:Str->Option Value} {base:Heap} {k:Nat} {f:Addr} {name qual:Str} {params:Arguments} {body:List Stmt} {scope:Scope} {dV kV doc pm cdv ct oc:Value} {an od:Option Addr}
    {osl:Array (Option Value)} {N ps:List Str} {sp:Sp} (lk:K.lookup f=some ⟨oc,od,.func (PySem.W.fnOf name qual params body scope dV kV doc pm an cdv ct),osl⟩) (hcd:PySem.W.codeIn K cdv qual=true) (S:FnScope N ps scope)
    (len:∀ vs H Q E,sp vs H Q E->vs.length=ps.length)
    (hbody:∀ (A:Around) (outer:List Env) (s:Shared) (H:Hp) (vs:List V) (Q:VK) (E:XK),Room k (A.deeper (envOfC qual scope s.heap.objs.size f cdv))->sp vs H Q E ->
      ∃ t,PSs (cxOf CX P w K mg base N qual scope f cdv A outer s H E) body t/\t {nx:=fun _ H'=>Q .non H',rt:=Q} (start N vs) H) :
    FnOk P w K mg base CX (k+1) f (PySem.W.fnOf name qual params body scope dV kV doc pm an cdv ct) ps sp:=by
  refine ⟨len,fun A outer s H args us vs Q E hr e0 hb r hsp=>?_⟩
  have hl:=len _ _ _ _ hsp
  have KX:K.In s.heap:=e0.mod.kin.keeps fun b o e=>(e0.bs b o e).1
  have lim:s.heap.NoLimit:=e0.mod.nolimit.keeps fun b o e=>(e0.bs b o e).1
  have hkind:∀ y∈ps.zip us,scope.names.lookup y.1=some .local\/(scope.names.lookup y.1=some .cell/\((cellsFrom (s.heap.objs.size+1) scope.names []).lookup y.1).isSome=true):=fun ⟨n,v⟩ hy=>by
    rcases S.par n (List.of_mem_zip hy).1 with q | q
    · exact .inl q
    · exact .inr ⟨q,PySem.W.cellsFrom_some _ _ _ (.inl q)⟩
  refine codeAny_call_function hr.depth (KX _ _ lk) rfl S.co S.gen rfl (PySem.W.codeRec_of KX hcd) (hb _ _ _ _ ?_)
  refine wpAny_newFunctionEnv_cells S.kind hkind fun env he s1 x=>?_
  subst he
  refine ⟨lim.keeps x.toInCall.keep,codeAny_func ?_⟩
  obtain ⟨t,ht,hq⟩:=hbody A outer s H vs Q E (hr.deeper _) hsp
  have I:Inv (cxOf CX P w K mg base N qual scope f cdv A outer s H E) [] (start N vs) H s1:=inv_start S hr.hd e0 hl r x
  refine wpAny_mono (ht [] s1 (start N vs) H _ I hq) (fun fl s' hs=>?_) fun e s' hs=>hs
  have fin:∀ {σ':St} {H':Hp} {v:V} {u:Value},Inv (cxOf CX P w K mg base N qual scope f cdv A outer s H E) [] σ' H' s'->RelV v u->Q v H'->CE outer P w H s Q u s' :=
    fun {σ' H' v u} J rv q=>⟨v,H',J.os,J.bare,J.base,J.hok,rv,q⟩
  cases fl with
  | ret u =>
    obtain ⟨v,σ',H',J,rv,q⟩:=hs
    exact fin J rv q
  | next =>
    obtain ⟨σ',H',J,q⟩:=hs
    exact fin (v:=V.non) (u:=Value.none) J rfl q
  | brk =>
    obtain ⟨_,_,_,q⟩:=hs
    exact False.elim q
  | cont =>
    obtain ⟨_,_,_,q⟩:=hs
    exact False.elim q
end L2
namespace L2
open PySem PySem.Spec PyProof.Rows
section
variable {X:Cx} {x:Str} {p pos:Pos} {e:Expr} {es:List Expr} {t:TA} {id T:String} {r:List V->Hp->VK->Prop}
def tCB (r:List V->Hp->VK->Prop) (t:TA):TE:=fun σ H Q=>t σ H fun vs H1=>r vs H1 Q
theorem jg (hc:CallR X (.builtin id) r) (hg:Gl X x) (hm:X.mg x=none) (hv:bootBuiltins x=some (.builtin id)) (ha:PA X (e::es) t) (hn:x ≠ "__name__":=by decide) (hdb:(x==("__debug__" : Str))=false:=by decide)
  (he:starEach (e::es) X.env=(false,eval e X.env)::starEach es X.env:=by rfl) (hpl:(backTo pos (starEach es X.env)).any (·.1)=false:=by rfl):PE X (.Call (.Name x p) (e::es) [] pos) (tCB r t):=by
 intro pins s σ H Q I h
 refine wpAny_Call_Name_kw (dt I hg hm hv ?_ hn hdb)
 exact PyProof.Rows.callWith_builtin1 (thn (ha pos pins s σ H _ I h) fun us s1 ⟨vs,H1,I1,r1,q1⟩=>hc pins s1 σ H1 vs us Q I1 r1 q1) he hpl
theorem gU (hc:CallR X (.type T) r) (hg:Gl X x) (hm:X.mg x=none) (hv:bootBuiltins x=some (.type T)) (ha:PA X (e::es) t) (hn:x ≠ "__name__":=by decide) (hdb:(x==("__debug__" : Str))=false:=by decide)
  (he:starEach (e::es) X.env=(false,eval e X.env)::starEach es X.env:=by rfl) (hpl:(backTo pos (starEach es X.env)).any (·.1)=false:=by rfl):PE X (.Call (.Name x p) (e::es) [] pos) (tCB r t):=by
 intro pins s σ H Q I h
 refine wpAny_Call_Name_kw (dt I hg hm hv ?_ hn hdb)
 exact PyProof.Rows.callWith_type1 (thn (ha pos pins s σ H _ I h) fun us s1 ⟨vs,H1,I1,r1,q1⟩=>hc pins s1 σ H1 vs us Q I1 r1 q1) he hpl
end
end L2
namespace HT
open PySem PyProof.Rows
section
open PySem.SeqAt
open PySem.AutoSeq1 (wpAny_loadPart')
open PySem.MeetsSeq PySem.MeetsSeq2 PySem.MeetsSeq3
end
section
variable {prog:Program} {w:World} {A:Around} {E:Value->Shared->Prop} {s:Shared}
theorem cat_tup {t b:Addr} {vs ws:List Value} {Q:Value->Shared->Prop} (ht:IsTup s.heap t vs.toArray) (hb:IsTup s.heap b ws.toArray) (hv:vs ≠ [])
  (h1:ws=[]->Q (.ref t) s) (h2:ws ≠ []->Q (.ref s.heap.objs.size) {s with heap:=s.heap.push {cls:=.type "tuple",data:=.seq (vs++ws).toArray} })
  (hsz:vs.length+ws.length<=sizeLine):wpAny (model prog w) A (binaryOp .Add (.ref t) (.ref b)) Q E s:=by
 obtain ⟨⟨cls,dd,data,sl⟩,ho,hc,n,hd⟩:=id ht
 obtain ⟨⟨cls2,dd2,data2,sl2⟩,ho2,hc2,n2,hd2⟩:=id hb
 simp only at hc hd hc2 hd2
 subst hc hd hc2 hd2
 have e:vs.toArray++ws.toArray=(vs++ws).toArray:=by simp
 by_cases hw:ws=[]
 ·exact concat_meets ⟨_,ho,rfl⟩ ⟨_,ho2,rfl⟩ noFill_tuple_add seq_tuple_add PySem.F.slot_tuple_add PySem.F.entry_tuple_add (PySem.F.args_tuple_add_2 _ _)
   (tuple_addW1 t b vs.toArray ws.toArray n n2 dd dd2 sl sl2 (by simpa using hv) (by simp [hw])) ⟨ho,ho2,h1 hw⟩
 ·refine concat_meets ⟨_,ho,rfl⟩ ⟨_,ho2,rfl⟩ noFill_tuple_add seq_tuple_add PySem.F.slot_tuple_add PySem.F.entry_tuple_add (PySem.F.args_tuple_add_2 _ _)
   (tuple_addW2 t b vs.toArray ws.toArray n n2 dd dd2 sl sl2 (by simpa using hv) (by simpa using hw) (by rw [List.size_toArray,List.size_toArray];exact hsz)) ⟨ho,ho2,?_⟩
  rw [e]
  exact h2 hw
def sIx (n d:Nat):Option Int->Nat
 | none=>d
 | some v=>if v<0 then (v+(n:Int)).toNat else min v.toNat n
theorem sIx_le (n d:Nat) (hd:d<=n) (o:Option Int):sIx n d o<=n:=by
 cases o with
 | none=>exact hd
 | some v =>
  show (if v<0 then (v+(n:Int)).toNat else min v.toNat n)<=n
  by_cases hv:v<0
  ·rw [if_pos hv];omega
  ·rw [if_neg hv];exact Nat.min_le_right _ _
theorem clip_eq (v:Int) (n d:Nat):(if v<0 then max (v+(n:Int)) 0 else min v (n:Int))=((sIx n d (some v):Nat):Int):=by
 show (if v<0 then max (v+(n:Int)) 0 else min v (n:Int))=(((if v<0 then (v+(n:Int)).toNat else min v.toNat n):Nat):Int)
 by_cases hv:v<0
 ·simp only [if_pos hv];omega
 ·simp only [if_neg hv];omega
theorem adjust_gen (lo hi:Option Int) (n:Nat):Builtin.Slice.sliceAdjust lo hi 1 (n:Int)=(((sIx n 0 lo:Nat):Int),((sIx n n hi:Nat):Int)):=by
 have h1:¬ ((1:Int)<0):=by omega
 unfold Builtin.Slice.sliceAdjust
 simp only [h1,if_false]
 refine Prod.ext ?_ ?_
 ·cases lo with
  | none=>rfl
  | some v=>exact clip_eq v n 0
 ·cases hi with
  | none=>rfl
  | some v=>exact clip_eq v n n
theorem places_gen (i j:Nat):Builtin.Slice.slicePlaces (i:Int) (j:Int) 1=j - i:=by
 unfold Builtin.Slice.slicePlaces
 have h1:(1:Int) > 0:=by omega
 simp only [h1,if_true,Int.ediv_one]
 split<;>omega
theorem slicePart_ {v:Value} {o:Option Int} {Q:Option Int->Shared->Prop} (p:IsPart v o) (h:Q o s):wpAny (model prog w) A (Builtin.Slice.slicePartIndex v) Q E s:=by
 cases p with
 | none=>exact slicePart_none h
 | int i t=>exact slicePart_int h
theorem sliceApplied_gen {sl:Addr} {vl vu:Value} {lo hi:Option Int} {n:Nat} {Q:Int×Int×Nat->Shared->Prop} (hs:s.heap.IsSliceOf sl vl vu .none) (pl:IsPart vl lo) (pu:IsPart vu hi)
  (h:Q (((sIx n 0 lo:Nat):Int),1,sIx n n hi - sIx n 0 lo) s):wpAny (model prog w) A (Builtin.Slice.sliceApplied (.ref sl) (pure (n:Int))) Q E s:=by
 obtain ⟨os,hos,hcs,hds⟩:=id hs
 unfold Builtin.Slice.sliceApplied Builtin.Slice.sliceFields
 refine wpAny_bind (wpAny_bind (wpAny_field hos hds (x:=vl) rfl (wpAny_bind (wpAny_field hos hds (x:=vu) rfl (wpAny_bind (wpAny_field hos hds (x:=.none) rfl (wpAny_pure ?_)))))))
 refine wpAny_bind (slicePart_none ?_)
 show wpAny _ _ (if ((1:Int)==0)=true then _ else _) _ _ s
 rw [if_neg (by decide)]
 refine wpAny_bind (slicePart_ pl (wpAny_bind (slicePart_ pu (wpAny_bind (wpAny_pure ?_)))))
 show wpAny _ _ (match Builtin.Slice.sliceAdjust lo hi 1 (n:Int) with | (lo,hi)=>pure (lo,(1:Int),Builtin.Slice.slicePlaces lo hi 1)) _ _ s
 rw [adjust_gen lo hi n]
 show wpAny _ _ (pure (((sIx n 0 lo:Nat):Int),(1:Int),Builtin.Slice.slicePlaces ((sIx n 0 lo:Nat):Int) ((sIx n n hi:Nat):Int) 1)) _ _ s
 rw [places_gen]
 exact wpAny_pure h
theorem pick_gen (xs:Array Value) (i k:Nat):((List.range k).filterMap fun (m:Nat)=>xs[((i:Int)+(m:Int)*1).toNat]?).toArray=((xs.toList.drop i).take k).toArray:=by
 have e:(fun (m:Nat)=>xs[((i:Int)+(m:Int)*1).toNat]?)=fun m=>xs[i+m]?:=by
  funext m
  have:((i:Int)+(m:Int)*1).toNat=i+m:=by omega
  rw [this]
 rw [e]
 have:=pick_run xs i k
 rw [List.filterMap_map] at this
 have e2:((fun x=>xs[x]?) ∘ fun x=>i+x)=fun m=>xs[i+m]?:=rfl
 rw [e2] at this
 rw [this]
theorem getItem_tuple_cut {t sl:Addr} {items:Array Value} {vl vu:Value} {lo hi:Option Int} {Q:Value->Shared->Prop} (ht:IsTup s.heap t items) (hs:s.heap.IsSliceOf sl vl vu .none) (pl:IsPart vl lo) (pu:IsPart vu hi)
  (hw:¬ (sIx items.size 0 lo=0/\sIx items.size items.size hi=items.size))
  (h:Q (.ref s.heap.objs.size) {s with heap:=s.heap.push {cls:=.type "tuple",data:=.seq ((items.toList.drop (sIx items.size 0 lo)).take (sIx items.size items.size hi - sIx items.size 0 lo)).toArray} })
  (hsz:items.size<=sizeLine):wpAny (model prog w) A (getItem (.ref t) (.ref sl)) Q E s:=by
 have htake:sizeOk (.seq ((items.toList.drop (sIx items.size 0 lo)).take (sIx items.size items.size hi - sIx items.size 0 lo)).toArray):=by
  show ((items.toList.drop (sIx items.size 0 lo)).take (sIx items.size items.size hi - sIx items.size 0 lo)).toArray.size<=sizeLine
  rw [List.size_toArray,List.length_take,List.length_drop,Array.length_toList]
  omega
 have hj:sIx items.size items.size hi<=items.size:=sIx_le _ _ (Nat.le_refl _) hi
 obtain ⟨os,hos,hcs,hds⟩:=id hs
 have hTs:s.TypeIs (.ref sl) "slice":=⟨os,hos,hcs⟩
 unfold getItem
 try with_reducible refine wpAny_holding ?_
 first | refine wpAny_bind (wpAny_pure ?_) | skip
 refine wpAny_bind (wpAny_sequenceKey ht.typeIs (by decide) ?_)
 refine wpAny_bind (wpAny_callSpecial?_slot (name:=Str.ofString "__getitem__") ht.typeIs PyProof.Rows.slot_tuple_getitem
  (wpAny_call_entry PyProof.Rows.slot_tuple_getitem ht.typeIs entry_tuple_getitem ?_ (args_tuple_getitem _ _)))
 show wpAny _ _ (Builtin.Tuple.tupleItemsOf (.ref t) >>= _) _ _ s
 refine wpAny_bind (tupleItemsOf_ ht ?_)
 refine wpAny_bind (wpAny_typeOf hTs ?_)
 rw [if_pos (by decide)]
 refine wpAny_bind (sliceApplied_gen hs pl pu ?_)
 have hno:¬ ((((sIx items.size 0 lo:Nat):Int)==0&&(1:Int)==1&&(sIx items.size items.size hi - sIx items.size 0 lo)==items.size)=true):=by
  intro q
  rw [Bool.and_eq_true,Bool.and_eq_true] at q
  have q1:((sIx items.size 0 lo:Nat):Int)=0:=eq_of_beq q.1.1
  have q2:sIx items.size items.size hi - sIx items.size 0 lo=items.size:=eq_of_beq q.2
  exact hw ⟨by omega,by omega⟩
 show wpAny _ _ (if (((sIx items.size 0 lo:Nat):Int)==0&&(1:Int)==1&&(sIx items.size items.size hi - sIx items.size 0 lo)==items.size)=true then _ else _) _ _ s
 rw [if_neg hno,pick_gen]
 first
  | exact wpAny_bind (m:=Builtin.Tuple.tupleExact _) (wpAny_newObj_type (wpAny_pure ⟨_,rfl,wpAny_pure h⟩) htake)
  | exact wpAny_bind (m:=Builtin.Tuple.tupleExact _) (wpAny_newObj_type (wpAny_bind (wpAny_pure (wpAny_pure ⟨_,rfl,wpAny_pure h⟩))) htake)
  | exact wpAny_bind (wpAny_bind (m:=Builtin.Tuple.tupleExact _) (wpAny_newObj_type (wpAny_pure (wpAny_pure ⟨_,rfl,wpAny_pure h⟩)) htake))
  | exact wpAny_bind (wpAny_bind (m:=Builtin.Tuple.tupleExact _) (wpAny_newObj_type (wpAny_pure ⟨_,rfl,wpAny_pure h⟩) htake))
end
end HT
namespace L2
open PySem PySem.Spec PyProof.Rows
abbrev TO:=St->Hp->(Option Int->Hp->Prop)->Prop
def PO (X:Cx) (e:Option Expr) (t:TO):Prop :=
 ∀ (pins:List (Addr×Obj)) (s:Shared) (σ:St) (H:Hp) (Q:Option Int->Hp->Prop),Inv X pins σ H s->t σ H Q ->
  wpAny (model X.prog X.w) X.A (evalPart e X.env) (fun u s'=>∃ o H',Inv X pins σ H' s'/\IsPart u o/\Q o H') X.xe s
def tNoPart:TO:=fun _ H Q=>Q none H
def tPart (t:TE):TO:=fun σ H Q=>t σ H fun x H1=>∃ i,x=.int i/\Q (some i) H1
section
variable {X:Cx} {e:Expr} {te:TE} {lo hi:Option Expr} {tl th:TO} {pos p2:Pos}
theorem po_none:PO X none tNoPart:=by
 intro pins s σ H Q I h
 rw [evalPart_none]
 exact wpAny_pure ⟨none,H,I,.none,h⟩
theorem po_some (h:PE X e te):PO X (some e) (tPart te):=by
 intro pins s σ H Q I hw
 rw [evalPart_some]
 refine thn (h pins s σ H _ I hw) fun u s1 ⟨x,H1,I1,r1,q1⟩=>?_
 obtain ⟨i,rfl,q⟩:=q1
 obtain ⟨t,rfl⟩:=r1
 exact ⟨some i,H1,I1,.int i t,q⟩
def SlR (X:Cx) (r:V->Option Int->Option Int->Hp->VK->Prop):Prop :=
 ∀ (pins:List (Addr×Obj)) (s:Shared) (σ:St) (H:Hp) (x:V) (v vl vu:Value) (lo hi:Option Int) (sl:Addr) (Q:VK),Inv X pins σ H s->RelV x v->s.heap.IsSliceOf sl vl vu .none->IsPart vl lo->IsPart vu hi->r x lo hi H Q ->
  ∃ T id,typeLookup (.type T) "__getitem__" = pure (some (.builtin id))/\s.TypeIs v T/\wpAny (model X.prog X.w) X.A (getItem v (.ref sl)) (EP X pins σ Q) X.xe s
theorem SlR.or {r r':V->Option Int->Option Int->Hp->VK->Prop} (h:SlR X r) (h':SlR X r'):SlR X (fun x lo hi H Q=>r x lo hi H Q\/r' x lo hi H Q):=by
 intro pins s σ H x v vl vu lo hi sl Q I rx hs pl pu q
 rcases q with q | q
 ·exact h pins s σ H x v vl vu lo hi sl Q I rx hs pl pu q
 ·exact h' pins s σ H x v vl vu lo hi sl Q I rx hs pl pu q
def tSl (r:V->Option Int->Option Int->Hp->VK->Prop) (te:TE) (tl th:TO):TE:=fun σ H Q=>te σ H fun x H1=>tl σ H1 fun l H2=>th σ H2 fun u H3=>r x l u H3 Q
theorem jA {r:V->Option Int->Option Int->Hp->VK->Prop} (hr:SlR X r) (he:PE X e te) (hl:PO X lo tl) (hu:PO X hi th):PE X (.Subscript e (.Slice lo hi none p2) pos) (tSl r te tl th):=by
 intro pins s σ H Q I h
 refine Subscript_ (thn (he pins s σ H _ I h) fun v s1 ⟨x,H1,I1,r1,q1⟩=>?_)
 refine wpAny_Slice (thn (hl pins s1 σ H1 _ I1 q1) fun vl s2 ⟨l,H2,I2,pl,q2⟩=>thn (hu pins s2 σ H2 _ I2 q2) fun vu s3 ⟨u,H3,I3,pu,q3⟩=>?_)
 rw [evalPart_none]
 refine wpAny_pure ?_
 have I4:Inv X pins σ H3 {s3 with heap:=s3.heap.push {cls:=.type "slice",data:=.fields #[vl,vu,.none]} }:=I3.kept (t':=s3.toks) fun b ob q=>Heap.get?_push_of_some _ q
 obtain ⟨T,id,hT,ht,hg⟩:=hr pins {s3 with heap:=s3.heap.push {cls:=.type "slice",data:=.fields #[vl,vu,.none]} } σ H3 x v vl vu l u s3.heap.objs.size Q I4 r1 (Heap.IsSliceOf.new ..) pl pu q3
 show wpAny (model X.prog X.w) X.A (subscriptTail e (.Slice lo hi none p2) v (.ref s3.heap.objs.size)) (EP X pins σ Q) X.xe {s3 with heap:=s3.heap.push {cls:=.type "slice",data:=.fields #[vl,vu,.none]} }
 exact tail_any (ops:=[.ref s3.heap.objs.size,v]) ht hT hg (by with_unfolding_all rfl)
def cutV (xs:List V) (lo hi:Option Int):List V:=(xs.drop (HT.sIx xs.length 0 lo)).take (HT.sIx xs.length xs.length hi - HT.sIx xs.length 0 lo)
theorem cutV_length (xs:List V) (lo hi:Option Int):(cutV xs lo hi).length<=xs.length:=by
 unfold cutV
 rw [List.length_take,List.length_drop]
 omega
def rSlT (K:PySem.W.Frag):V->Option Int->Option Int->Hp->VK->Prop:=fun x lo hi H Q=>∃ a xs,x=.ref a/\SqT K H a xs /\
 ¬ (HT.sIx xs.length 0 lo=0/\HT.sIx xs.length xs.length hi=xs.length)/\∀ p,H p=none->Q (.ref p) (upd H p (.tup (cutV xs lo hi)))
theorem sl_tup:SlR X (rSlT X.K):=by
 intro pins s σ H x v vl vu lo hi sl Q I rx hs pl pu h
 obtain ⟨a,xs,rfl,hx,hw,q⟩:=h
 cases rx
 obtain ⟨its,r,ht,hz⟩:=I.tuple hx
 have hlen:its.toArray.size=xs.length:=by rw [List.size_toArray];exact r.length.symm
 refine ⟨"tuple",_,PyProof.Rows.slot_tuple_getitem.lookup,ht.typeIs,?_⟩
 refine HT.getItem_tuple_cut ht hs pl pu (by rw [hlen];exact hw) ?_ (by rw [hlen];exact hz)
 rw [hlen]
 refine ⟨.ref s.heap.objs.size,_,I.laid (t':=s.toks) (o:=.tup (cutV xs lo hi)) (fun b ob q=>Heap.get?_push_of_some _ q) (Nat.le_refl _) ?_,rfl,q _ (I.hok.fresh (Nat.le_refl _))⟩
 exact ⟨Nat.le_trans (cutV_length xs lo hi) hz,_,(r.drop (HT.sIx xs.length 0 lo)).take (HT.sIx xs.length xs.length hi - HT.sIx xs.length 0 lo),IsTupN.new _ _⟩
def rCatT (K:PySem.W.Frag):R2:=fun x y H Q=>∃ a b xs ys,x=.ref a/\y=.ref b/\SqT K H a xs/\SqT K H b ys/\xs ≠ []/\xs.length+ys.length<=sizeLine /\
 (ys=[]->Q (.ref a) H)/\(ys ≠ []->∀ p,H p=none->Q (.ref p) (upd H p (.tup (xs++ys))))
theorem Vals.nil_iff {xs:List V} {us:List Value} (r:Vals xs us):us=[]↔xs=[]:=by
 cases r with
 | nil=>simp
 | cons _ _=>simp
theorem op_catT:OpR X (binaryOp .Add) (rCatT X.K):=by
 intro pins s σ H x y v u Q I rx ry h
 obtain ⟨a,b,xs,ys,rfl,rfl,ha,hb,hx,hz,q1,q2⟩:=h
 cases rx
 cases ry
 obtain ⟨its,r1,p1,_⟩:=I.tuple ha
 obtain ⟨its2,r2,p2,_⟩:=I.tuple hb
 refine HT.cat_tup p1 p2 (fun z=>hx (r1.nil_iff.mp z)) (fun z=>⟨.ref a,H,I,rfl,q1 (r2.nil_iff.mp z)⟩) (fun z=>?_) (by rw [<- r1.length,<- r2.length];exact hz)
 refine ⟨.ref s.heap.objs.size,_,I.laid (t':=s.toks) (o:=.tup (xs++ys)) (fun b ob q=>Heap.get?_push_of_some _ q) (Nat.le_refl _) ?_,rfl,q2 (fun w=>z (r2.nil_iff.mpr w)) _ (I.hok.fresh (Nat.le_refl _))⟩
 exact ⟨by rw [List.length_append];exact hz,_,r1.append r2,IsTupN.new _ _⟩
end
end L2
namespace L2
open PySem PySem.Spec PyProof.Rows
def ixN (n:Nat) (i:Int):Option Nat:=if 0<=i then (if i<n then some i.toNat else none) else if -(n:Int)<=i then some (i+n).toNat else none
def atI {α:Type} (xs:List α) (i:Int):Option α:=(ixN xs.length i).bind fun j=>xs[j]?
theorem ixN_seq {n:Nat} {i:Int} {j:Nat} (h:ixN n i=some j):seqIndex? i n=some j/\j<n /\ -(n:Int)<=i/\i<n:=by
 unfold ixN at h
 by_cases h0:0<=i
 ·rw [if_pos h0] at h
  by_cases h1:i<n
  ·rw [if_pos h1] at h
   have e:i.toNat=j:=Option.some.inj h
   exact ⟨by rw [seqIndex_of h0 h1,e],by omega,by omega,h1⟩
  ·rw [if_neg h1] at h;cases h
 ·rw [if_neg h0] at h
  by_cases h1 : -(n:Int)<=i
  ·rw [if_pos h1] at h
   have e:(i+n).toNat=j:=Option.some.inj h
   exact ⟨by rw [seqIndex_neg (by omega) h1,e],by omega,h1,by omega⟩
  ·rw [if_neg h1] at h;cases h
theorem atI_get {α:Type} {xs:List α} {i:Int} {v:α} (h:atI xs i=some v):∃ j,seqIndex? i xs.length=some j/\xs[j]?=some v/\j<xs.length /\ -(xs.length:Int)<=i/\i<xs.length:=by
 unfold atI at h
 cases e:ixN xs.length i with
 | none=>rw [e] at h;cases h
 | some j =>
  rw [e] at h
  obtain ⟨h1,h2,h3,h4⟩:=ixN_seq e
  exact ⟨j,h1,h,h2,h3,h4⟩
def PlainIx (b:Expr):Prop:=∀ o i,subscripted b false o i=operate [o,i] (getItem o i)
def IxR (X:Cx) (r:R2):Prop :=
 ∀ (value slice:Expr) (pins:List (Addr×Obj)) (s:Shared) (σ:St) (H:Hp) (x y:V) (v u:Value) (Q:VK),Inv X pins σ H s->RelV x v->RelV y u->r x y H Q ->
  subscripted slice false v u=operate [v,u] (getItem v u)->wpAny (model X.prog X.w) X.A (subscriptTail value slice v u) (EP X pins σ Q) X.xe s
def MtR (X:Cx) (id:String) (r:V->List V->Hp->VK->Prop):Prop :=
 ∀ (pins:List (Addr×Obj)) (s:Shared) (σ:St) (H:Hp) (x:V) (xs:List V) (v:Value) (us:List Value) (Q:VK),Inv X pins σ H s->RelV x v->Vals xs us->r x xs H Q ->
  wpAny (model X.prog X.w) X.A (call (.builtin id) (v::us)) (EP X pins σ Q) X.xe s
section
variable {X:Cx} {a b:Expr} {ta tb:TE} {pos:Pos}
theorem IxR.or {r r':R2} (h:IxR X r) (h':IxR X r'):IxR X (fun x y H Q=>r x y H Q\/r' x y H Q):=by
 intro value slice pins s σ H x y v u Q I rx ry q hs
 rcases q with q | q
 ·exact h value slice pins s σ H x y v u Q I rx ry q hs
 ·exact h' value slice pins s σ H x y v u Q I rx ry q hs
theorem MtR.or {id:String} {r r':V->List V->Hp->VK->Prop} (h:MtR X id r) (h':MtR X id r'):MtR X id (fun x xs H Q=>r x xs H Q\/r' x xs H Q):=by
 intro pins s σ H x xs v us Q I rx rs q
 rcases q with q | q
 ·exact h pins s σ H x xs v us Q I rx rs q
 ·exact h' pins s σ H x xs v us Q I rx rs q
theorem oF {r:R2} (hr:IxR X r) (ha:PE X a ta) (hb:PE X b tb) (hs:PlainIx b):PE X (.Subscript a b pos) (tOp r ta tb):=by
 intro pins s σ H Q I h
 exact Subscript_ (binT ha hb I h fun v u s2 x y H2 I2 rx ry q=>hr a b pins s2 σ H2 x y v u Q I2 rx ry q (hs _ _))
def rIxL (K:PySem.W.Frag):R2:=fun x y H Q=>∃ p xs i v,x=.ref p/\y=.int i/\SqL K H p xs/\atI xs i=some v/\Q v H
def rIxT (K:PySem.W.Frag):R2:=fun x y H Q=>∃ p xs i v,x=.ref p/\y=.int i/\SqT K H p xs/\atI xs i=some v/\Q v H
def rIxS:R2:=fun x y H Q=>∃ z i c,x=.str z/\y=.int i/\z.length<=sizeLine/\atI z.cps.toList i=some c/\Q (.str ⟨#[c]⟩) H
theorem ix_list:IxR X (rIxL X.K):=by
 intro value slice pins s σ H x y v u Q I rx ry h hs
 obtain ⟨p,xs,i,z,rfl,rfl,hq,he,q⟩:=h
 cases rx
 obtain ⟨t,rfl⟩:=ry
 obtain ⟨its,r,pl,hz⟩:=I.list hq
 obtain ⟨j,h1,h2,h3,h4,h5⟩:=atI_get he
 obtain ⟨w,ew,rw'⟩:=r.get h2
 have hl:=r.length
 have hn:=line63
 have fin:EP X pins σ Q w s:=⟨z,H,I,rw',q⟩
 by_cases h0:0<=i
 ·have hj:i.toNat=j:=by
   rw [seqIndex_of h0 h5] at h1
   exact Option.some.inj h1
  exact item_listR pl.isList h0 (by omega) (by rw [hj];simpa using ew) fin hs
 ·have hj:(i+(its.toArray.size:Int)).toNat=j:=by
   rw [seqIndex_neg (by omega) h4] at h1
   rw [List.size_toArray,<- hl]
   exact Option.some.inj h1
  exact subscriptTail_builtinR (x:=w) pl.isList.typeIs slot_list_getitem.lookup
   (wpAny_getItem_list_neg (Q:=fun r s'=>r=w/\EP X pins σ Q r s') pl.isList (by omega) (by rw [List.size_toArray]<;>omega) (by omega) (by rw [hj];simpa using ew) ⟨rfl,fin⟩) hs
theorem ix_tup:IxR X (rIxT X.K):=by
 intro value slice pins s σ H x y v u Q I rx ry h hs
 obtain ⟨p,xs,i,z,rfl,rfl,hq,he,q⟩:=h
 cases rx
 obtain ⟨t,rfl⟩:=ry
 obtain ⟨its,r,pl,hz⟩:=I.tuple hq
 obtain ⟨j,h1,h2,h3,h4,h5⟩:=atI_get he
 obtain ⟨w,ew,rw'⟩:=r.get h2
 have hl:=r.length
 have hn:=line63
 have fin:EP X pins σ Q w s:=⟨z,H,I,rw',q⟩
 exact subscriptTail_builtinR (x:=w) pl.typeIs slot_tuple_getitem.lookup
  (getItem_tuple (j:=j) (Q:=fun r s'=>r=w/\EP X pins σ Q r s') pl (by omega) (by omega) (by rw [List.size_toArray,<- hl];exact h1) (by simpa using ew) ⟨rfl,fin⟩) hs
theorem ix_str:IxR X rIxS:=by
 intro value slice pins s σ H x y v u Q I rx ry h hs
 obtain ⟨z,i,c,rfl,rfl,hz,he,q⟩:=h
 obtain ⟨t,rfl⟩:=rx
 obtain ⟨t',rfl⟩:=ry
 obtain ⟨j,h1,h2,h3,h4,h5⟩:=atI_get he
 have hl:z.cps.toList.length=z.length:=by simp [Str.length]
 rw [hl] at h1 h4 h5
 have hn:=line63
 exact tail_any (typeIs_str s z t) slot_str_getitem.lookup (getItem_str (c:=c) (by
  have e1:decide (i < -(2 ^ 63:Int))=false:=decide_eq_false (by omega)
  have e2:decide (i ≥ 2 ^ 63)=false:=decide_eq_false (by omega)
  rw [e1,e2,Bool.or_false]) (by rw [h1];simpa using h2) ⟨.str ⟨#[c]⟩,H,I.tok _,⟨_,rfl⟩,q⟩) hs
theorem Inv.lst {pins:List (Addr×Obj)} {σ:St} {H:Hp} {s:Shared} {p:Addr} {xs:List V} (I:Inv X pins σ H s) (h:H p=some (.lst xs)) :
  ∃ (its:List Value) (n:Nat),Vals xs its/\s.heap.get? p=some {cls:=.type "list",data:=.seq its.toArray n}/\xs.length<=sizeLine:=by
 obtain ⟨z,its,n,r,e⟩:=I.hok p _ h
 exact ⟨its,n,r,e,z⟩
theorem slice_bounds (lo hi:Option Int) (n:Nat):(sliceBounds lo hi none n).1=((HT.sIx n 0 lo:Nat):Int)/\(sliceBounds lo hi none n).2.1=((HT.sIx n n hi:Nat):Int)/\(sliceBounds lo hi none n).2.2=1:=by
 refine ⟨?_,?_,rfl⟩
 ·cases lo with
  | none=>simp [sliceBounds,HT.sIx]
  | some i =>
   simp only [sliceBounds,HT.sIx,Option.getD_none,show (1:Int) > 0 by decide,if_true]
   by_cases h:i<0
   ·simp only [h,if_true]<;>omega
   ·simp only [h,if_false]<;>omega
 ·cases hi with
  | none=>simp [sliceBounds,HT.sIx]
  | some i =>
   simp only [sliceBounds,HT.sIx,Option.getD_none,show (1:Int) > 0 by decide,if_true]
   by_cases h:i<0
   ·simp only [h,if_true]<;>omega
   ·simp only [h,if_false]<;>omega
theorem slicePick_cut (its:List Value) (lo hi:Option Int):slicePick its.toArray lo hi none=((its.drop (HT.sIx its.length 0 lo)).take (HT.sIx its.length its.length hi - HT.sIx its.length 0 lo)).toArray:=by
 obtain ⟨h1,h2,h3⟩:=slice_bounds lo hi its.toArray.size
 unfold slicePick
 rw [h1,h2,h3]
 simp only [sliceRange_one,pick_run,List.size_toArray]<;>rfl
def rSlL (K:PySem.W.Frag):V->Option Int->Option Int->Hp->VK->Prop:=fun x lo hi H Q=>∃ a xs,x=.ref a/\SqL K H a xs/\∀ p,H p=none->Q (.ref p) (upd H p (.lst (cutV xs lo hi)))
theorem sl_list:SlR X (rSlL X.K):=by
 intro pins s σ H x v vl vu lo hi sl Q I rx hs pl pu h
 obtain ⟨a,xs,rfl,hx,q⟩:=h
 cases rx
 obtain ⟨its,r,ht,hz⟩:=I.list hx
 have hlen:=r.length
 refine ⟨"list",_,slot_list_getitem.lookup,ht.isList.typeIs,?_⟩
 refine wpAny_getItem_list_slice ht.isList hs pl pu .none (by simp) ?_ (by rw [List.size_toArray]<;>omega)
 rw [slicePick_cut,<- hlen]
 refine ⟨.ref s.heap.objs.size,_,I.laid (t':=s.toks) (o:=.lst (cutV xs lo hi)) (fun b ob q=>Heap.get?_push_of_some _ q) (Nat.le_refl _) ?_,rfl,q _ (I.hok.fresh (Nat.le_refl _))⟩
 exact ⟨Nat.le_trans (cutV_length xs lo hi) hz,_,0,(r.drop (HT.sIx xs.length 0 lo)).take (HT.sIx xs.length xs.length hi - HT.sIx xs.length 0 lo),Heap.get?_push_size _ rfl⟩
def flatV:V->Bool
 | .non=>true
 | .bl _=>true
 | .int _=>true
 | .str _=>true
 | _=>false
def eqV:V->V->Bool
 | .non,.non=>true
 | .bl a,.bl b=>a==b
 | .bl a,.int b=>(if a then 1 else 0)==b
 | .int a,.bl b=>a==(if b then 1 else 0)
 | .int a,.int b=>a==b
 | .str a,.str b=>a==b
 | _,_=>false
theorem eqAt_V {A:Around} {s:Shared} {y x:V} {u v:Value} (ry:RelV y u) (rx:RelV x v) (fy:flatV y=true) (fx:flatV x=true):SeqAt.EqAt A s u v (eqV y x):=by
 cases y with
 | non =>
  cases ry
  cases x with
  | non=>cases rx;exact SeqAt.EqAt.same _
  | bl b=>cases rx;exact SeqAt.EqAt.none_bool b
  | int b=>obtain ⟨t,rfl⟩:=rx;exact SeqAt.EqAt.none_int b t
  | str b=>obtain ⟨t,rfl⟩:=rx;exact SeqAt.EqAt.none_str b t
  | _=>exact absurd (show false=true from fx) Bool.false_ne_true
 | bl a =>
  cases ry
  cases x with
  | non=>cases rx;exact SeqAt.EqAt.bool_none a
  | bl b=>cases rx;exact SeqAt.EqAt.bool_bool a b
  | int b=>obtain ⟨t,rfl⟩:=rx;exact SeqAt.EqAt.bool_int a b t
  | str b=>obtain ⟨t,rfl⟩:=rx;exact SeqAt.EqAt.bool_str a b t
  | _=>exact absurd (show false=true from fx) Bool.false_ne_true
 | int a =>
  obtain ⟨t',rfl⟩:=ry
  cases x with
  | non=>cases rx;exact SeqAt.EqAt.int_none a t'
  | bl b=>cases rx;exact SeqAt.EqAt.int_bool a t' b
  | int b=>obtain ⟨t,rfl⟩:=rx;exact SeqAt.EqAt.int_int a t' b t
  | str b=>obtain ⟨t,rfl⟩:=rx;exact SeqAt.EqAt.int_str a t' b t
  | _=>exact absurd (show false=true from fx) Bool.false_ne_true
 | str a =>
  obtain ⟨t',rfl⟩:=ry
  cases x with
  | non=>cases rx;exact SeqAt.EqAt.str_none a t'
  | bl b=>cases rx;exact SeqAt.EqAt.str_bool a t' b
  | int b=>obtain ⟨t,rfl⟩:=rx;exact SeqAt.EqAt.str_int a t' b t
  | str b=>obtain ⟨t,rfl⟩:=rx;exact SeqAt.EqAt.str_str a t' b t
  | _=>exact absurd (show false=true from fx) Bool.false_ne_true
 | _=>exact absurd (show false=true from fy) Bool.false_ne_true
def eqU (x:V) (u:Value):Bool:=match u with
 | .none=>eqV .non x
 | .bool b=>eqV (.bl b) x
 | .int i _=>eqV (.int i) x
 | .str z _=>eqV (.str z) x
 | _=>false
theorem eqU_of {x y:V} {u:Value} (r:RelV y u) (f:flatV y=true):eqU x u=eqV y x:=by
 cases y with
 | non=>cases r;rfl
 | bl b=>cases r;rfl
 | int i=>obtain ⟨t,rfl⟩:=r;rfl
 | str z=>obtain ⟨t,rfl⟩:=r;rfl
 | _=>exact absurd (show false=true from f) Bool.false_ne_true
theorem any_eqU {x:V}:∀ {xs:List V} {us:List Value},Vals xs us->xs.all flatV=true->us.any (eqU x)=xs.any fun y=>eqV y x
 | _,_,.nil,_=>rfl
 | y::xs,u::us,.cons r t,f=>by
  rw [List.all_cons,Bool.and_eq_true] at f
  rw [List.any_cons,List.any_cons,eqU_of r f.1,any_eqU t f.2]
theorem cC {A:Around} {s:Shared} {x:V} {v:Value} (rx:RelV x v) (fx:flatV x=true):∀ {xs:List V} {us:List Value},Vals xs us->xs.all flatV=true->∀ u∈us,SeqAt.EqAt A s u v (eqU x u)
 | _,_,.nil,_=>fun u hu=>by cases hu
 | y::xs,u::us,.cons r t,f=>fun u' hu=>by
  rw [List.all_cons,Bool.and_eq_true] at f
  rcases List.mem_cons.mp hu with rfl | hu
  ·rw [eqU_of r f.1];exact eqAt_V r rx f.1 fx
  ·exact cC rx fx t f.2 u' hu
def inV (x:V) (xs:List V):Bool:=xs.any fun y=>eqV y x
def rIn (K:PySem.W.Frag) (neg:Bool):R2:=fun x y H Q=>∃ p xs,y=.ref p/\(SqL K H p xs\/SqT K H p xs)/\flatV x=true/\xs.all flatV=true/\Q (.bl (if neg then !inV x xs else inV x xs)) H
theorem op_in_seq:OpR X (compareOp .In) (rIn X.K false):=by
 intro pins s σ H x y v u Q I rx ry h
 obtain ⟨p,xs,rfl,hq,fx,fs,q⟩:=h
 cases ry
 rcases hq with hq | hq
 ·obtain ⟨its,r,pl,hz⟩:=I.list hq
  refine SeqAt.in_listAt (eqU x) pl.isList (fun w hw=>cC rx fx r fs w (by simpa using hw)) ⟨.bl _,H,I,rfl,?_⟩
  rw [show its.toArray.any (eqU x)=its.any (eqU x) by simp,any_eqU r fs]
  exact q
 ·obtain ⟨its,r,pl,hz⟩:=I.tuple hq
  refine SeqAt.in_tupleAt (eqU x) pl (fun w hw=>cC rx fx r fs w (by simpa using hw)) ⟨.bl _,H,I,rfl,?_⟩
  rw [show its.toArray.any (eqU x)=its.any (eqU x) by simp,any_eqU r fs]
  exact q
theorem op_notIn_seq:OpR X (compareOp .NotIn) (rIn X.K true):=by
 intro pins s σ H x y v u Q I rx ry h
 obtain ⟨p,xs,rfl,hq,fx,fs,q⟩:=h
 cases ry
 rcases hq with hq | hq
 ·obtain ⟨its,r,pl,hz⟩:=I.list hq
  refine SeqAt.notIn_listAt (eqU x) pl.isList (fun w hw=>cC rx fx r fs w (by simpa using hw)) ⟨.bl _,H,I,rfl,?_⟩
  rw [show its.toArray.any (eqU x)=its.any (eqU x) by simp,any_eqU r fs]
  exact q
 ·obtain ⟨its,r,pl,hz⟩:=I.tuple hq
  refine SeqAt.notIn_tupleAt (eqU x) pl (fun w hw=>cC rx fx r fs w (by simpa using hw)) ⟨.bl _,H,I,rfl,?_⟩
  rw [show its.toArray.any (eqU x)=its.any (eqU x) by simp,any_eqU r fs]
  exact q
theorem call_len_seq:CallR X (.builtin "len") (fun xs H Q=>∃ p ys,xs=[.ref p]/\(SqL X.K H p ys\/SqT X.K H p ys)/\Q (.int ys.length) H):=by
 intro pins s σ H xs us Q I r h
 obtain ⟨p,ys,rfl,hq,q⟩:=h
 obtain ⟨u,rfl,rx⟩:=vals1 r
 cases rx
 have hn:=line63
 rcases hq with hq | hq
 ·obtain ⟨its,r',pl,hz⟩:=I.list hq
  have hlen:=r'.length
  exact Calls.call_len_list pl.isList (by simp only [List.size_toArray]<;>omega) ⟨.int ys.length,H,I.tok _,⟨s.toks+1,by rw [List.size_toArray,hlen]⟩,q⟩
 ·obtain ⟨its,r',pl,hz⟩:=I.tuple hq
  have hlen:=r'.length
  exact len_tuple pl (by simp only [List.size_toArray]<;>omega) ⟨.int ys.length,H,I.tok _,⟨s.toks+1,by rw [List.size_toArray,hlen]⟩,q⟩
theorem call_len_str:CallR X (.builtin "len") (fun xs H Q=>∃ z,xs=[.str z]/\z.length<=sizeLine/\Q (.int z.length) H):=by
 intro pins s σ H xs us Q I r h
 obtain ⟨z,rfl,hz,q⟩:=h
 obtain ⟨u,rfl,t,rfl⟩:=vals1 r
 have hn:=line63
 exact len_str (by omega) ⟨.int z.length,H,I.tok _,⟨_,rfl⟩,q⟩
theorem CallR.or {f:Value} {r r':List V->Hp->VK->Prop} (h:CallR X f r) (h':CallR X f r'):CallR X f (fun xs H Q=>r xs H Q\/r' xs H Q):=by
 intro pins s σ H xs us Q I rs q
 rcases q with q | q
 ·exact h pins s σ H xs us Q I rs q
 ·exact h' pins s σ H xs us Q I rs q
theorem call_tuple_of:CallR X (.type "tuple") (fun xs H Q=>∃ p ys,xs=[.ref p]/\((SqL X.K H p ys/\∀ l,H l=none->Q (.ref l) (upd H l (.tup ys)))\/(SqT X.K H p ys/\Q (.ref p) H))):=by
 intro pins s σ H xs us Q I r h
 obtain ⟨p,ys,rfl,h⟩:=h
 obtain ⟨u,rfl,rx⟩:=vals1 r
 cases rx
 rcases h with ⟨hq,q⟩ | ⟨hq,q⟩
 ·obtain ⟨its,r',pl,hz⟩:=I.list hq
  have hlen:=r'.length
  refine call_tuple_list pl.isList (fun h' kp=>?_) (by simp only [List.size_toArray]<;>omega)
  have I1:Inv X pins σ H {s with heap:=h' }:=I.kept (t':=s.toks) kp
  have I2:Inv X pins σ (upd H h'.objs.size (.tup ys)) {s with heap:=h'.push {cls:=.type "tuple",data:=.seq its.toArray} } :=
   I1.laid (t':=s.toks) (fun b o e=>Heap.get?_push_of_some _ e) (Nat.le_refl _) (show ObjOk X.prog X.w _ _ _ (.tup ys) from ⟨hz,its,r',IsTupN.new _ _⟩)
  exact ⟨.ref h'.objs.size,_,I2,rfl,q _ (I1.hok.fresh (Nat.le_refl _))⟩
 ·obtain ⟨its,r',pl,hz⟩:=I.tuple hq
  exact call_tuple_same pl ⟨.ref p,H,I,rfl,q⟩
def tyV (K:PySem.W.Frag) (T:String) (x:V) (H:Hp):Prop:=match x with
 | .str _=>T = "str"
 | .int _=>T = "int"
 | .ref p=>(T = "list" /\ ∃ xs,SqL K H p xs)\/(T = "tuple" /\ ∃ o,K.lookup p=some o/\o.cls=.type "tuple" /\ o.dict=none) \/
   (T = "dict" /\ ((∃ kvs,H p=some (.dK kvs))\/∃ kvs,H p=some (.dT kvs)))\/(T = "set" /\ ∃ S n,H p=some (.set S n))
 | _=>False
theorem tyV_is {pins:List (Addr×Obj)} {σ:St} {H:Hp} {s:Shared} {T:String} {x:V} {v:Value} (I:Inv X pins σ H s) (r:RelV x v) (ty:tyV X.K T x H) :
  s.TypeIs v T/\∀ a,v=.ref a->∃ ob,s.heap.get? a=some ob/\ob.dict=none:=by
 cases x with
 | str z =>
  obtain ⟨t,rfl⟩:=r
  cases (show T = "str" from ty)
  exact ⟨typeIs_str s z t,fun _ e=>nomatch e⟩
 | int i =>
  obtain ⟨t,rfl⟩:=r
  cases (show T = "int" from ty)
  exact ⟨typeIs_int s i t,fun _ e=>nomatch e⟩
 | ref p =>
  cases r
  rcases ty with ⟨rfl,xs,hq⟩ | ⟨rfl,o,hk,hc,hd⟩ | ⟨rfl,hk⟩ | ⟨rfl,S,n,hk⟩
  ·obtain ⟨its,_,pl,_⟩:=I.list hq
   refine ⟨pl.isList.typeIs,fun a e=>?_⟩
   cases e
   obtain ⟨o,n,e,c,hd,_⟩:=pl
   exact ⟨o,e,hd⟩
  ·refine ⟨⟨o,I.kIn p o hk,hc⟩,fun a e=>?_⟩
   cases e
   exact ⟨o,I.kIn _ o hk,hd⟩
  ·have z:∃ o,s.heap.get? p=some o/\o.ExactDict:=by
    rcases hk with ⟨kvs,hk⟩ | ⟨kvs,hk⟩
    ·obtain ⟨_,_,_,_,o,_,_,e,ex,_⟩:=I.hok p _ hk
     exact ⟨o,e,ex⟩
    ·obtain ⟨_,_,_,_,o,_,_,e,ex,_⟩:=I.hok p _ hk
     exact ⟨o,e,ex⟩
   obtain ⟨o,e,ex⟩:=z
   refine ⟨⟨o,e,ex.1⟩,fun a e2=>?_⟩
   cases e2
   exact ⟨o,e,ex.2.1⟩
  ·obtain ⟨o,_,_,_,e,ex,_⟩:=I.hok p _ hk
   refine ⟨⟨o,e,ex.1⟩,fun a e2=>?_⟩
   cases e2
   exact ⟨o,e,ex.2.1⟩
 | _=>exact False.elim ty
def tBM (K:PySem.W.Frag) (T:String) (r:V->List V->Hp->VK->Prop) (to:TE) (t:TA):TE:=fun σ H Q=>to σ H fun x H1=>tyV K T x H1/\t σ H1 fun xs H2=>r x xs H2 Q
variable {o e:Expr} {es:List Expr} {to:TE} {t:TA} {name:Str} {apos cpos:Pos} {T id:String} {r:V->List V->Hp->VK->Prop}
theorem lW (pa:PlainAttrs T) (slot:Slot T name id) (hty:typeOf (.builtin id)=pure (.type "method_descriptor")) (hm:MtR X id r) (ho:PE X o to) (ha:PA X (e::es) t)
    (hbase:attributeBase o name X.env (eval o X.env)=eval o X.env:=by rfl)
    (hfew:((backTo cpos (starEach (e::es) X.env)).all (fun x=>!x.1)&&(backToKw cpos (keywordEach [] X.env)).all (fun x=>x.1.isSome)
      && decide ((e::es).length+([]:List Keyword).length+(if ([]:List Keyword).isEmpty then 0 else 1)<30))=true:=by rfl)
    (hline:(apos.endLine==cpos.line)=true:=by rfl) (hs:starEach (e::es) X.env=(false,eval e X.env)::starEach es X.env:=by rfl) (hplain:(backTo cpos (starEach es X.env)).any (·.1)=false:=by rfl) :
    PE X (.Call (.Attribute o name apos) (e::es) [] cpos) (tBM X.K T r to t):=by
  intro pins s σ H Q I h
  refine wpAny_Call_method_late hbase hfew hline rfl (thn (ho pins s σ H _ I h) fun v s1 ⟨x,H1,I1,r1,ty,q1⟩=>?_)
  obtain ⟨h1,h2⟩:=tyV_is I1 r1 ty
  refine ⟨T,id,pa,slot,hty,h1,h2,?_⟩
  have hA:=ha cpos pins s1 σ H1 _ I1 q1
  rw [hs] at hA ⊢
  refine Calls.callWith_builtin (by show (false||(backTo cpos (starEach es X.env)).any (·.1))=false;rw [hplain]<;>rfl) (Calls.evalArgs_plain ?_)
  exact thn hA fun us s2 ⟨vs,H2,I2,r2,q2⟩=>hm pins s2 σ H2 x vs v us Q I2 r1 r2 q2
/- xs.append(e),list.index on a module's tuple .. are MtR facts of 06m -/
end
end L2
namespace L2
open PySem PySem.Spec PyProof.Rows
def MtM (X:Cx) (id:String) (r:V->List V->Hp->VK->Prop):Prop :=
 ∀ (pins:List (Addr×Obj)) (s:Shared) (σ:St) (H:Hp) (x:V) (xs:List V) (v:Value) (us:List Value) (Q:VK),Inv X pins σ H s->RelV x v->Vals xs us->r x xs H Q ->
  wpAny (model X.prog X.w) X.A (call (.builtin id) (v::us)) (EP X pins σ Q) X.xe s
theorem Vals.one:∀ {x:V} {us:List Value},Vals [x] us->∃ u,us=[u]/\RelV x u
 | _,_,h=>by cases h with | cons r t=>cases t;exact ⟨_,rfl,r⟩
theorem Vals.two:∀ {x y:V} {us:List Value},Vals [x,y] us->∃ u v,us=[u,v]/\RelV x u/\RelV y v
 | _,_,_,h=>by cases h with | cons r t=>cases t with | cons q t=>cases t;exact ⟨_,_,rfl,r,q⟩
theorem Vals.zero:∀ {us:List Value},Vals [] us->us=[]
 | _,.nil=>rfl
theorem Vals.dropLast {xs:List V} {us:List Value} (h:Vals xs us):Vals xs.dropLast us.dropLast:=by
 induction h with
 | nil=>exact .nil
 | cons r t ih =>
  cases t with
  | nil=>exact .nil
  | cons q t'=>exact .cons r ih
theorem Vals.eraseIdx:∀ {xs:List V} {us:List Value} (i:Nat),Vals xs us->Vals (xs.eraseIdx i) (us.eraseIdx i)
 | _,_,_,.nil=>.nil
 | _,_,0,.cons _ t=>t
 | _,_,i+1,.cons r t=>.cons r (Vals.eraseIdx i t)
theorem Vals.reverse {xs:List V} {us:List Value} (h:Vals xs us):Vals xs.reverse us.reverse:=by
 induction h with
 | nil=>exact .nil
 | cons r t ih=>rw [List.reverse_cons,List.reverse_cons];exact Vals.append ih (.cons r .nil)
section
variable {X:Cx} {pins:List (Addr×Obj)} {σ:St} {H:Hp} {s:Shared} {l b:Addr} {xs ys zs:List V}
theorem Inv.lset {its its':List Value} {n:Nat} {f:Array Value->Array Value} {t':Nat} (I:Inv X pins σ H s) (hH:H l=some (.lst xs))
  (e:s.heap.get? l=some {cls:=.type "list",data:=.seq its.toArray n}) (hf:f its.toArray=its'.toArray) (hv:Vals ys its') (hz:ys.length<=sizeLine) :
  Inv X pins σ (upd H l (.lst ys)) {s with heap:=s.heap.update l (Obj.mapSeq f),toks:=t' }:=by
 have q:=PySem.IsL.update e f
 rw [hf] at q
 refine I.write (x:=l) (e:=l) (by rw [hH];exact trivial) (.inl rfl) (fun b' u hb hu=>(Heap.get?_update_other s.heap (Obj.mapSeq f) (Ne.symm hb)).trans hu) ⟨_,q⟩ ?_
 exact ⟨hz,its',_,hv,q⟩
theorem Inv.lnew {its:List Value} {t':Nat} (I:Inv X pins σ H s) (hv:Vals ys its) (hz:ys.length<=sizeLine) :
  Inv X pins σ (upd H s.heap.objs.size (.lst ys)) {s with heap:=s.heap.push {cls:=.type "list",data:=.seq its.toArray},toks:=t' } :=
 I.laid (fun _ _ q=>Heap.get?_push_of_some _ q) (Nat.le_refl _) ⟨hz,its,0,hv,Heap.get?_push_size _ rfl⟩
theorem Inv.fresh (I:Inv X pins σ H s):H s.heap.objs.size=none:=I.hok.fresh (Nat.le_refl _)
theorem Inv.lstM (I:Inv X pins σ H s) (hH:H l=some (.lst xs)):xs.length<=sizeLine/\∃ (its:List Value) (n:Nat),Vals xs its/\xs.length=its.length/\s.heap.get? l=some {cls:=.type "list",data:=.seq its.toArray n}:=by
 obtain ⟨z,its,n,r,e⟩:=I.hok l _ hH
 exact ⟨z,its,n,r,r.length,e⟩
theorem notLongL {n:Nat} (h:n<=sizeLine):Builtin.List.listTooLong n=false:=by
 unfold Builtin.List.listTooLong
 exact decide_eq_false (by omega)
end
section
variable {X:Cx}
def rAppend:V->List V->Hp->VK->Prop:=fun x vs H Q=>∃ l xs y,x=.ref l/\vs=[y]/\H l=some (.lst xs)/\xs.length<sizeLine/\Q .non (upd H l (.lst (xs++[y])))
theorem ln:MtM X "list.append" rAppend:=by
 intro pins s σ H x vs v us Q I rx rv h
 obtain ⟨l,xs,y,rfl,rfl,hH,hz,q⟩:=h
 cases rx
 obtain ⟨u,rfl,ru⟩:=rv.one
 obtain ⟨z,its,n,r,hl,e⟩:=I.lstM hH
 refine call_meets F.slot_list_append ⟨_,e,rfl⟩ F.entry_list_append (F.args_list_append_2 _ _) (PySem.list_append l its.toArray n u (by rw [List.size_toArray];omega)) ⟨e,?_⟩
 refine ⟨.non,_,I.lset (its':=its++[u]) hH e (by simp) (r.append (.cons ru .nil)) ?_,rfl,q⟩
 rw [List.length_append,List.length_singleton]
 omega
def rExtend:V->List V->Hp->VK->Prop:=fun x vs H Q=>∃ l b xs zs,x=.ref l/\vs=[.ref b]/\H l=some (.lst xs)/\H b=some (.lst zs)/\xs.length+zs.length<=sizeLine/\Q .non (upd H l (.lst (xs++zs)))
theorem lq:MtM X "list.extend" rExtend:=by
 intro pins s σ H x vs v us Q I rx rv h
 obtain ⟨l,b,xs,zs,rfl,rfl,hH,hB,hz,q⟩:=h
 cases rx
 obtain ⟨u,rfl,ru⟩:=rv.one
 cases ru
 obtain ⟨z,its,n,r,hl,e⟩:=I.lstM hH
 obtain ⟨z2,its2,n2,r2,hl2,e2⟩:=I.lstM hB
 have hsz:its.toArray.size+its2.toArray.size<=sizeLine:=by rw [List.size_toArray,List.size_toArray];omega
 have hlong:¬ (!its.toArray.isEmpty&&Builtin.List.listTooLong (its.toArray.size+its2.toArray.size))=true:=by
  rw [notLongL hsz,Bool.and_false]
  exact Bool.false_ne_true
 refine call_meets F.slot_list_extend ⟨_,e,rfl⟩ F.entry_list_extend (F.args_list_extend_2 _ _)
  (AutoSeq1.list_extend_list_list_0 l its.toArray n b its2.toArray n2 hlong (by rw [List.size_toArray];omega) (by omega)) ⟨e,e2,?_⟩
 refine ⟨.non,_,I.lset (its':=its++its2) hH e (by simp) (r.append r2) ?_,rfl,q⟩
 rw [List.length_append]
 omega
def rCat:R2:=fun x y H Q=>∃ l b xs zs,x=.ref l/\y=.ref b/\H l=some (.lst xs)/\H b=some (.lst zs)/\xs.length+zs.length<=sizeLine/\∀ p,H p=none->Q (.ref p) (upd H p (.lst (xs++zs)))
theorem op_cat:OpR X (binaryOp .Add) rCat:=by
 intro pins s σ H x y v u Q I rx ry h
 obtain ⟨l,b,xs,zs,rfl,rfl,hH,hB,hz,q⟩:=h
 cases rx
 cases ry
 obtain ⟨z,its,n,r,hl,e⟩:=I.lstM hH
 obtain ⟨z2,its2,n2,r2,hl2,e2⟩:=I.lstM hB
 refine PySem.P.add_list e e2 ?_ (by rw [List.size_toArray,List.size_toArray];omega)
 have ea:its.toArray++its2.toArray=(its++its2).toArray:=by simp
 rw [ea]
 exact ⟨.ref _,_,I.lnew (t':=s.toks) (r.append r2) (by rw [List.length_append];omega),rfl,q _ I.fresh⟩
end
section
variable {prog:Program} {w:World} {A:Around} {E:Value->Shared->Prop} {s:Shared}
set_option maxRecDepth 100000 in
end
section
variable {X:Cx}
end
end L2
namespace Att
open PySem PySem.W PySem.Calls PyProof.Rows
theorem fQ {P:Params} {h:Heap}:∀ (ns:List Int) (vs:List Value),WellAll P h vs (ns.map WData.int)->IntsAre vs ns:=by
 intro ns
 induction ns with
 | nil =>
  intro vs w
  rw [List.map_nil] at w
  cases w
  exact .nil
 | cons n ns ih =>
  intro vs w
  rw [List.map_cons] at w
  cases w with
  | cons a b =>
   cases a
   exact .cons _ _ (ih _ b)
theorem script_of {l:OpenLaw} {n:Nat} (hn:l.most=some n) {P:Params} {h:Heap} {args:List WData} {vals:List Value}
  (hpre:l.row.toRowW.claim.pre args=true) (hwl:WellAll P h vals args) :
  ∃ a vs ns,vals=[Value.ref a]/\args=[WData.list (ns.map WData.int)]/\h.get? a=some {cls:=.type "list",data:=.seq vs.toArray}/\IntsAre vs ns/\ns.length<=n:=by
 have hsh:WShape.hasAll [] args [.list .int]=true:=(pre_splitW hpre).1
 have hc:l.pre.holds [] {args:=args}=true:=(pre_splitW hpre).2
 obtain ⟨d,r,rfl,h1,h2⟩:=hasAllW_cons hsh
 obtain rfl:=hasAllW_nil h2
 obtain ⟨xs,rfl,h3⟩:=hasW_list h1
 obtain ⟨ns,rfl⟩:=items_int h3
 have hlen:ns.length<=n:=by
  unfold OpenLaw.pre at hc
  have h4:(WTm.not (.lt (.lit (.int (n:Int))) (.len (.arg 0)))).holds [] {args:=[.list (ns.map .int)]}=true:=by
   have h4:=(holds_andW hc).1
   rw [hn] at h4
   exact h4
  have h5:=condW_of h4 (w_not (w_lt w_lit (w_len_list (w_arg rfl))))
  rw [List.length_map] at h5
  refine Nat.le_of_not_lt fun q=>?_
  have q':(n:Int)<((ns.length:Nat):Int):=by omega
  first
   | (rw [decide_eq_true q'] at h5;exact absurd h5 (by decide))
   | (simp at h5;omega)
 cases hwl with
 | cons w1 w2 =>
  cases w2
  cases w1 with
  | list ho hall=>exact ⟨_,_,ns,rfl,rfl,ho,fQ ns _ hall,hlen⟩
theorem post_true (l:OpenLaw) (args:List WData):l.row.toRowW.claim.post args (.bool true) args=true :=
 postW_of (r:=l.row.toRowW) (X:=(true==true))
  (show WShape.has [] (.bool true) .bool=true by first | rfl | decide | simp [WShape.has,WShape.arms,WShape.armsAll])
  (show (WTm.eq .res (.lit (.bool true))).value [] {args:=args,res:=some (.bool true),after:=args}=some (.bool (true==true)) from w_eq_bool (w_res rfl) w_lit) rfl
theorem attach_call {l:OpenLaw} {n:Nat} {q:Program} {loose:List Str} {XP:(Str->Option Value)->Heap->Prop} {YP:World->Heap->Prop} {d:DefRec}
    (hn:l.most=some n) (hdf:d.params.defaults=[])
    (call:∀ (w:World) (s₀ s₁:Shared) (mg mb:Str->Option Value) (fa:Addr) (o:Obj) (pm cd doc:Value) (a:Addr) (vs:List Value) (ns:List Int),
      Ground q loose [] XP w s₀ mg mb s₁.heap->YP w s₁.heap ->
      s₁.heap.get? fa=some o->o.data=.func (docDef d.name d.params d.body d.scope pm cd doc)->s₁.heap.CodeRec cd d.name->mg d.name=some (.ref fa) ->
      s₁.heap.get? a=some {cls:=.type "list",data:=.seq vs.toArray}->IntsAre vs ns->ns.length<=n->s₁.gens=#[] ->
      codeAny (model l.prog w) callerA (.call (.ref fa) ⟨[.ref a],[]⟩) (fun r s'=>r=.ok (.ret (.bool true))/\OldK s₁.heap s'.heap/\s'.os=s₁.os/\AllBare s'.gens) s₁) :
    WalkO q loose XP YP l.row.toRowW d [] (fun f vs=>PySem.call f vs):=by
  intro w s₀ s₁ mg mb G Y fa o pm cd doc dV kV ho hd hcd hD hmg hg args vals as hpre hlay hrd hwl hlo
  obtain rfl:dV=.none:=Dflts.none hD hdf
  obtain rfl:kV=.none:=Dflts.noKw hD
  obtain ⟨a,vs,ns,rfl,rfl,hobj,hints,hlen⟩:=script_of hn hpre hwl
  refine enter_call (codeAny_mono (call w s₀ s₁ mg mb fa o pm cd doc a vs ns G Y ho (fd_plain hd) hcd hmg hobj hints hlen hg) fun r s' hq=>?_)
  obtain ⟨rfl,h2,h3,h4⟩:=hq
  exact ⟨.inl ⟨.bool true,.bool true,[],rfl,fun _=>rfl,.bool true,post_true l _,fun _=>⟨List.Pairwise.nil,fun _ hm=>(nomatch hm)⟩⟩,h2,h3,h4⟩
section
variable {prog:Program} {w:World} {A:Around} {E:Value->Shared->Prop} {s:Shared} {K:Frag}
def ledger (h:Heap) (L d:Addr):List (Addr×Obj):=(List.range h.objs.size).filterMap fun a=>if a=L\/a=d then none else (h.get? a).map fun o=>(a,o)
end
end Att
namespace L2
open PySem PySem.Spec PyProof.Rows
theorem cX:∀ {vs:List Value} {ns:List Int},IntsAre vs ns->Vals (ns.map V.int) vs
 | _,_,.nil=>.nil
 | _,_,.cons n t h=>.cons ⟨t,rfl⟩ (cX h)
def Only (H:Hp):Prop:=∀ b,H b=none\/∃ o xs,H b=some (.frz o (.lst xs))
theorem law_call {P:Program} {w:World} {K:PySem.W.Frag} {mg mb:Str->Option Value} {CX:CXT} {k:Nat} {fa a:Addr} {fd:FuncData} {x:Str} {sp:Sp} {s₁:Shared} {vs:List Value} {ns:List Int}
  (KX:K.In s₁.heap) (hns:s₁.heap.Ns mainGlobals mg) (hb:s₁.heap.Ns builtinsNs mb) (hbb:∀ x:Str,x ≠ "__name__" -> mb x=bootBuiltins x) (hlim:s₁.heap.NoLimit) (hg:s₁.gens=#[])
  (ha:s₁.heap.get? a=some {cls:=.type "list",data:=.seq vs.toArray}) (hi:IntsAre vs ns) (hl:ns.length<=sizeLine) (hr:Room k callerA)
  (F:∀ base:Heap,K.In base->base.Ns mainGlobals mg->FnOk P w K mg base CX k fa fd [x] sp) (hbind:∀ (s:Shared) (u:Value),BindsTo s fd ⟨[u],[]⟩ [(x,u)])
  (hsp:∀ H:Hp,Only H->SqL K H a (ns.map V.int)->sp [.ref a] H (fun v _=>v=.bl true) fun _ _ _=>False)
  (hCX:∀ H e s',CX [] H s₁ (fun _ _ _=>False) e s'->False) :
  codeAny (model P w) callerA (.call (.ref fa) ⟨[.ref a],[]⟩) (fun r s'=>r=.ok (.ret (.bool true))/\OldK s₁.heap s'.heap/\s'.os=s₁.os/\AllBare s'.gens) s₁:=by
 have rv:=cX hi
 have lenV:=hi.length
 have core:∀ H:Hp,Only H->SqL K H a (ns.map V.int)->HOk P w H s₁.heap->(∀ b,H b≠none->b=a)->(H a≠none->K.lookup a=none) ->
   codeAny (model P w) callerA (.call (.ref fa) ⟨[.ref a],[]⟩) (fun r s'=>r=.ok (.ret (.bool true))/\OldK s₁.heap s'.heap/\s'.os=s₁.os/\AllBare s'.gens) s₁:=by
  intro H hO hS hok hA hK
  have base_of:∀ {b:Addr} {o:Obj},s₁.heap.get? b=some o->H b=none->(hidT s₁.heap H).get? b=some o:=fun e n=>hidT_get e n
  have noA:∀ {b:Addr} {o:Obj} {es:Array DictEntry} {ep:Nat},s₁.heap.get? b=some o->o.data=.dict es ep->H b=none:=fun {b o es ep} e d=>by
   cases q:H b with
   | none=>rfl
   | some u =>
    have e':b=a:=hA b (by rw [q];simp)
    subst e'
    rw [ha] at e;cases e
    have d':Data.seq vs.toArray _=Data.dict es ep:=d
    cases d'
  have nsK:∀ {b:Addr} {m:Str->Option Value},s₁.heap.Ns b m->(hidT s₁.heap H).Ns b m:=fun {b m} ⟨o,es,ep,e,d,r⟩=>⟨o,es,ep,base_of e (noA e d),d,r⟩
  have hKb:K.In (hidT s₁.heap H):=fun b o e=>base_of (KX b o e) (by
   cases q:H b with
   | none=>rfl
   | some u =>
    have e':b=a:=hA b (by rw [q];simp)
    subst e'
    rw [hK (by rw [q];simp)] at e;cases e)
  have hM:Mod K mg (hidT s₁.heap H):=⟨hKb,nsK hns,⟨mb,nsK hb,hbb⟩,let ⟨mc,h1,h2⟩:=hlim;⟨mc,nsK h1,h2⟩⟩
  have e0:Env0 P w K mg (hidT s₁.heap H) callerA [] s₁ H:=⟨rfl,hM,fun b o e=>of_hidT e,Nat.le_of_eq (hidT_size _ _),trivial,fun b hb=>absurd (show b∈([]:List Addr) from hb) (by simp),hok,.of_eq hg⟩
  refine codeAny_mono ((F _ hKb (nsK hns)).run callerA [] s₁ H ⟨[.ref a],[]⟩ [.ref a] [.ref a] _ _ hr e0 (hbind s₁ (.ref a)) (.cons rfl .nil) (hsp H hO hS)) fun r s' h=>?_
  cases r with
  | error e=>exact (hCX H e s' h).elim
  | ok fl =>
   cases fl with
   | next=>exact False.elim h
   | brk=>exact False.elim h
   | cont=>exact False.elim h
   | ret u =>
    obtain ⟨v,H',os,bare,un,hok',r',q⟩:=h
    have q':v=.bl true:=q
    subst q'
    obtain rfl:u=Value.bool true:=r'
    refine ⟨rfl,OldK.of_keep fun b o e=>?_,os,bare⟩
    cases q:H b with
    | none=>exact un.keep b o e q (by intro z;exact absurd (show b∈([]:List Addr) from z) (by simp)) (by simp)
    | some u =>
     rcases hO b with z | ⟨ob,xs,z⟩
     ·rw [q] at z;cases z
     ·have z2:=un.frzs b ob _ (fun y q=>by cases q) z
      obtain ⟨e1,_⟩:=hok b _ z
      obtain ⟨e2,_⟩:=hok' b _ z2
      rw [e] at e1;cases e1
      exact e2
 cases hk:K.lookup a with
 | some o =>
  have e:=KX a o hk
  rw [ha] at e
  cases e
  refine core (fun _=>none) (fun _=>.inl rfl) (.inr ⟨_,vs.toArray,_,hk,rfl,rfl,rfl,by rw [List.size_toArray,lenV];exact hl,by simpa using rv⟩) (fun b u z=>by have z':(none:Option HO)=some u:=z;cases z') (fun b z=>absurd rfl z) fun z=>absurd rfl z
 | none =>
  refine core (fun b=>if b=a then some (.frz {cls:=.type "list",data:=.seq vs.toArray} (.lst (ns.map V.int))) else none) (fun b=>?_) (.inl (.inr ⟨{cls:=.type "list",data:=.seq vs.toArray},if_pos rfl⟩)) (fun b u z=>?_) (fun b z=>?_) fun _=>hk
  ·by_cases hb:b=a
   ·exact .inr ⟨_,_,if_pos hb⟩
   ·exact .inl (if_neg hb)
  ·by_cases hb:b=a
   ·have z':=(if_pos hb).symm.trans z
    cases z'
    subst hb
    exact ⟨ha,by rw [List.length_map];exact hl,vs,_,rv,ha⟩
   ·have z':=(if_neg hb).symm.trans z
    cases z'
  ·by_cases hb:b=a
   ·exact hb
   ·exact absurd (if_neg hb) z
end L2
namespace L2
open PySem PySem.Spec PyProof.Rows
abbrev KOf {K:PySem.W.Frag} {h:Heap} (_:K.In h):PySem.W.Frag:=K
theorem walk_of {l:PySem.W.OpenLaw} {n k:Nat} {q:Program} {loose:List Str} {XP:(Str->Option Value)->Heap->Prop} {YP:World->Heap->Prop} {d:DefRec} {K:Params->PySem.W.Frag} {CX:World->CXT} {sp:World->Sp} {x:Str}
    (hn:l.most=some n) (hn2:n<=sizeLine) (hdf:d.params.defaults=[]) (hr:Room k callerA)
    (hY:∀ (w:World) (h:Heap),YP w h->(K w.params).In h)
    (F:∀ (w:World) (mg:Str->Option Value) (fa:Addr) (h:Heap),(K w.params).In h->h.Ns mainGlobals mg->mg d.name=some (.ref fa) ->
      ∃ fd:FuncData,(∀ (s:Shared) (u:Value),BindsTo s fd ⟨[u],[]⟩ [(x,u)]) /\
        ∀ base:Heap,(K w.params).In base->base.Ns mainGlobals mg->FnOk l.prog w (K w.params) mg base (CX w) k fa fd [x] (sp w))
    (hsp:∀ (w:World) (H:Hp) (a:Addr) (ns:List Int),ns.length<=n->Only H->SqL (K w.params) H a (ns.map V.int)->sp w [.ref a] H (fun v _=>v=.bl true) fun _ _ _=>False)
    (hCX:∀ (w:World) (H:Hp) (s:Shared) (e:Value) (s':Shared),CX w [] H s (fun _ _ _=>False) e s'->False) :
    PySem.W.WalkO q loose XP YP l.row.toRowW d [] (fun f vs=>PySem.call f vs):=by
  refine Att.attach_call hn hdf fun w s₀ s₁ mg mb fa o pm cd doc a vs ns G Y ho hd hcd hmg hobj hints hlen hg=>?_
  have KX:=hY w _ Y
  obtain ⟨fd,hb,hF⟩:=F w mg fa _ KX G.T.g hmg
  exact law_call KX G.T.g G.T.b G.T.builtins G.T.nolimit hg hobj hints (Nat.le_trans hlen hn2) hr hF hb (fun H hO hS=>hsp w H a ns hlen hO hS) fun H e s'=>hCX w H s₁ e s'
end L2
/- THE LAST THEOREM (shape;LID,My.* are yours):
  My.Adr: a structure of the addresses that your layer names (classes,functions);My.Txt K t: a structure (Prop) of the equations over K;
  My.txt_mk:{K} {implicit addresses ..} (e1:nsIn K mainGlobals "law" = some (some (.ref f))) (e2:K.lookup f=some ⟨oc,od,.func (fnOf "law" "law" params body scope dV kV doc pm an cdv ct),sl⟩) (e3:codeIn K cdv "law" = true) ..:∃ t,My.Txt K t
set_option maxRecDepth 100000 in
set_option maxHeartbeats 0 in
theorem PySem.Challenge.cw_LID_holds : PySem.Challenge.rw_LID.Holds := by
 w_on;o_law;k_head;(case hw=>w_witness2)
 k_fill
 refine L2.walk_of (l:=PySem.Challenge.rw_LID) (n:=63) (k:=40) (x:="script") (CX:=fun w=>..) (sp:=fun _=>My.sp_law) rfl (by decide) rfl ⟨rfl,by decide,by decide⟩ (fun w h Y=>PySem.W.kIn_of Y) ?F ?S ?C
 case F =>
  intro w mg fa h KX G hmg
  have T:∃ t,My.Txt (L2.KOf KX) t:=by
   dsimp only [L2.KOf]                          -- K must stand as «<heap const> w.params» for k_is
   refine' My.txt_mk ?e1 ?e2 ?e3 ..
   (case e1=>PySem.W.k_is)                    -- in the order: a name->its address->its object->its parts
   (case e2=>PySem.W.k_is)
   ..
  obtain ⟨t,T⟩:=T
  have e0:=hmg.symm.trans (PySem.W.mg_of KX G T.law)
  cases e0                                       -- fa is the law's own address
  exact ⟨_,fun s u=>.of_eq rfl,fun base kb nb=>My.law_fn T kb nb⟩     -- if «.of_eq rfl» comes too early: refine' ⟨_,?b,fun base kb nb=>My.law_fn T kb nb⟩;exact fun s u=>.of_eq rfl
 case S=>exact fun w H a ns hl hO hS=>..
 case C=>exact ..
(the tactic k_is has no namespace: write k_is) -/
namespace L2
open PySem PySem.Spec PyProof.Rows
def defArgs (s:Stmt):Arguments:=match s with
 | .FunctionDef _ a _ _ _ _ _ _ _ _=>a
 | _=>{posonlyargs:=[],args:=[],vararg:=none,kwonlyargs:=[],kw_defaults:=[],kwarg:=none,defaults:=[]}
def defBody (s:Stmt):List Stmt:=match s with
 | .FunctionDef _ _ b _ _ _ _ _ _ _=>b
 | _=>[]
def defScope (s:Stmt):Scope:=match s with
 | .FunctionDef _ _ _ _ _ _ sc _ _ _=>sc
 | _=>{kind:=.function,names:=[],isGenerator:=false,isCoroutine:=false}
abbrev CX0:CXT:=fun _ _ _ _ _ _=>False
abbrev E0:XK:=fun _ _ _=>False
theorem pass0 {X:Cx}:Passes CX0 X E0:=fun _ _ _ _ _ _ _ h=>h.elim
structure Fun (K:PySem.W.Frag) (x qual:Str) (st:Stmt) (f:Addr) (fd:FuncData):Prop where
 ex:∃ (oc:Value) (od:Option Addr) (kV doc pm:Value) (an:Option Addr) (cdv ct:Value) (osl:Array (Option Value)),
  fd=PySem.W.fnOf x qual (defArgs st) (defBody st) (defScope st) .none kV doc pm an cdv ct/\K.lookup f=some ⟨oc,od,.func fd,osl⟩/\PySem.W.codeIn K cdv qual=true
 kp:PySem.W.keepIn K (.ref f)=true
section
variable {P:Program} {w:World} {K:PySem.W.Frag} {mg:Str->Option Value} {base:Heap}
theorem Fun.ok {x qual:Str} {st:Stmt} {f:Addr} {fd:FuncData} {N ps:List Str} {k:Nat} {sp:Sp} (F:Fun K x qual st f fd) (S:FnScope N ps (defScope st)) (len:∀ vs H Q E,sp vs H Q E->vs.length=ps.length)
    (hbody:∀ (cdv:Value) (A:Around) (outer:List Env) (s:Shared) (H:Hp) (vs:List V) (Q:VK) (E:XK),Room k (A.deeper (envOfC qual (defScope st) s.heap.objs.size f cdv))->sp vs H Q E ->
      ∃ t,PSs (cxOf CX0 P w K mg base N qual (defScope st) f cdv A outer s H E).nox (defBody st) t/\t {nx:=fun _ H'=>Q .non H',rt:=Q} (start N vs) H):FnOk P w K mg base CX0 (k+1) f fd ps sp:=by
  obtain ⟨oc,od,kV,doc,pm,an,cdv,ct,osl,rfl,lk,hcd⟩:=F.ex
  refine mr lk hcd S len fun A outer s H vs Q E hr hsp=>?_
  obtain ⟨t,h,q⟩:=hbody cdv A outer s H vs Q E hr hsp
  exact ⟨t,h.nox,q⟩
theorem Fun.binds {x qual:Str} {st:Stmt} {f:Addr} {fd:FuncData} {ps:List Str} (F:Fun K x qual st f fd)
  (h:∀ (kV doc pm:Value) (an:Option Addr) (cdv ct:Value) (us:List Value),us.length=ps.length->bindArgs (PySem.W.fnOf x qual (defArgs st) (defBody st) (defScope st) .none kV doc pm an cdv ct) ⟨us,[]⟩=pure (ps.zip us)):Binds K fd ps []:=by
 obtain ⟨oc,od,kV,doc,pm,an,cdv,ct,osl,rfl,lk,hcd⟩:=F.ex
 exact .all (h kV doc pm an cdv ct)
theorem nE {x qual:Str} {st:Stmt} {f:Addr} {oc:Value} {od an:Option Addr} {osl:Array (Option Value)} {kV doc pm cdv ct:Value} (l:K.lookup f=some ⟨oc,od,.func (PySem.W.fnOf x qual (defArgs st) (defBody st) (defScope st) .none kV doc pm an cdv ct),osl⟩)
  (c:PySem.W.codeIn K cdv qual=true) (k:PySem.W.keepIn K (.ref f)=true):Fun K x qual st f (PySem.W.fnOf x qual (defArgs st) (defBody st) (defScope st) .none kV doc pm an cdv ct):=⟨⟨oc,od,kV,doc,pm,an,cdv,ct,osl,rfl,l,c⟩,k⟩
end
theorem small1000 {n:Nat} (h:n<=1000):n<sizeLine:=Nat.lt_of_le_of_lt h (by decide)
section
variable {X:Cx}
theorem pv (i:Nat) {x:Str} {pos:Pos} (hN:X.N[i]?=some x:=by rfl) (hv:Vis X.env.scope x:=by first | exact Or.inl rfl | exact Or.inr (Or.inl rfl) | exact Or.inr (Or.inr rfl)) (hd:(x==("__debug__" : Str))=false:=by decide)
  (hcd:(x==("__classdict__" : Str))=false:=by decide):PE X (.Name x pos) (tVar i):=iq hN hv hd hcd
end
def Same (H H':Hp):Prop:=∀ b o,H b=some o->H' b=some o
theorem Same.refl (H:Hp):Same H H:=fun _ _ h=>h
theorem Same.trans {H H1 H2:Hp} (a:Same H H1) (b:Same H1 H2):Same H H2:=fun c o h=>b c o (a c o h)
theorem Same.free {H H':Hp} (e:Same H H') {l:Addr} (h:H' l=Option.none):H l=Option.none:=by
 cases q:H l with
 | none=>rfl
 | some o =>
  rw [e l o q] at h
  cases h
theorem Same.seq {K:PySem.W.Frag} {H H':Hp} {a:Addr} {xs:List V} (e:Same H H') (h:SqL K H a xs):SqL K H' a xs:=by
 rcases h with (h | ⟨o,h⟩) | h
 ·exact .inl (.inl (e _ _ h))
 ·exact .inl (.inr ⟨o,e _ _ h⟩)
 ·exact .inr h
end L2
namespace HW
open PySem
structure LamT where
 q:Str
 params:Arguments
 body:Expr
 scope:Scope
 N:List Str
 ps:List Str
 deriving Inhabited
inductive D where
 | non
 | bl (b:Bool)
 | int (i:Int)
 | str (x:Str)
 | tup (xs:List D)
 | lst (xs:List D)
 | fro (xs:List D)
 | obj (k a:Nat) (ks:List Str) (ds:List D)
 | dct (ks:List (Int ⊕ Str)) (ds:List D)
 | cl (t:LamT) (a:Nat) (ds:List D)
 deriving Inhabited
abbrev R:=List (Option D)
inductive Out where
 | nx (ρ:R)
 | rt (d:D)
 | bk (ρ:R)
 | ct (ρ:R)
@[simp] def dTru:D->Option Bool
 | .non=>some false
 | .bl b=>some b
 | .int i=>some (i != 0)
 | .str x=>if x.length<=sizeLine then some ((x.length:Int) != 0) else none
 | .tup xs=>some (!xs.isEmpty)
 | .lst xs=>some (!xs.isEmpty)
 | .fro xs=>some (!xs.isEmpty)
 | .obj ..=>none
 | .dct ..=>none
 | .cl ..=>none
def bI (b:Bool):Int:=if b then 1 else 0
@[simp] def nI:D->Option Int
 | .int i=>some i
 | _=>none
@[simp] def tI:D->Option (List D)
 | .tup xs=>some xs
 | _=>none
@[simp] def lI:D->Option (List D)
 | .lst xs=>some xs
 | _=>none
@[simp] def sI:D->Option Str
 | .str x=>some x
 | _=>none
@[simp] def bO:D->Option Bool
 | .bl b=>some b
 | _=>none
@[simp] def dAdd (x y:D):Option D:=match x with
 | .int i=>(nI y).map fun j=>.int (i+j)
 | .tup xs=>(tI y).bind fun ys=>if xs.length+ys.length<=sizeLine then some (.tup (xs++ys)) else none
 | .lst xs=>(lI y).bind fun ys=>if xs.length+ys.length<=sizeLine then some (.lst (xs++ys)) else none
 | .str x=>(sI y).bind fun y=>if x.length+y.length<=sizeLine then some (.str (x++y)) else none
 | _=>none
@[simp] def dSub (x y:D):Option D:=(nI x).bind fun i=>(nI y).map fun j=>.int (i - j)
def mulFits (i j:Int):Bool:=(decide (-(2 ^ 64)<i)&&decide (i<2 ^ 64))||(decide (-(2 ^ 64)<j)&&decide (j<2 ^ 64))
@[simp] def dMul (x y:D):Option D:=(nI x).bind fun i=>(nI y).bind fun j=>if mulFits i j then some (.int (i*j)) else none
@[simp] def dDiv (x y:D):Option D:=(nI x).bind fun i=>(nI y).bind fun j=>if 0<j/\j<1073741824 then some (.int (i / j)) else none
@[simp] def dMod (x y:D):Option D:=(nI x).bind fun i=>(nI y).bind fun j=>if 0<j then some (.int (i%j)) else none
@[simp] def dNeg (x:D):Option D:=(nI x).map fun i=>.int (-i)
@[simp] def cLt (x y:D):Option Bool:=(nI x).bind fun i=>(nI y).map fun j=>decide (i<j)
@[simp] def cLe (x y:D):Option Bool:=(nI x).bind fun i=>(nI y).map fun j=>decide (i<=j)
@[simp] def cGe (x y:D):Option Bool:=(nI x).bind fun i=>(nI y).map fun j=>decide (j<=i)
@[simp] def scalEq (x y:D):Option Bool:=match x with
 | .int i=>(nI y).map fun j=>i==j
 | .str a=>(sI y).map fun b=>a==b
 | .bl a=>(bO y).map fun b=>a==b
 | _=>none
@[simp] def cEq:D->D->Option Bool:=scalEq
@[simp] def cNe (x y:D):Option Bool:=(scalEq x y).map (!·)
@[simp] def nonD:D->Bool
 | .non=>true
 | _=>false
def flat:D->Bool
 | .non=>true
 | .bl _=>true
 | .int _=>true
 | .str _=>true
 | _=>false
def eqF:D->D->Bool
 | .non,.non=>true
 | .bl a,.bl b=>a==b
 | .bl a,.int b=>bI a==b
 | .int a,.bl b=>a==bI b
 | .int a,.int b=>a==b
 | .str a,.str b=>a==b
 | _,_=>false
@[simp] def itemsD:D->Option (List D)
 | .tup xs=>some xs
 | .lst xs=>some xs
 | .fro xs=>some xs
 | _=>none
@[simp] def cNotIn (x y:D):Option Bool:=(itemsD y).bind fun ys=>if flat x&&ys.all flat then some (!ys.any fun y=>eqF y x) else none
@[simp] def cIn (x y:D):Option Bool:=(itemsD y).bind fun ys=>if flat x&&ys.all flat then some (ys.any fun y=>eqF y x) else none
mutual
def eqD:D->D->Bool
 | .non,.non=>true
 | .bl a,.bl b=>a==b
 | .bl a,.int b=>bI a==b
 | .int a,.bl b=>a==bI b
 | .int a,.int b=>a==b
 | .str a,.str b=>a==b
 | .tup xs,.tup ys=>eqDs xs ys
 | .lst xs,.lst ys=>eqDs xs ys
 | .lst xs,.fro ys=>eqDs xs ys
 | .fro xs,.lst ys=>eqDs xs ys
 | .fro xs,.fro ys=>eqDs xs ys
 | _,_=>false
def eqDs:List D->List D->Bool
 | [],[]=>true
 | x::xs,y::ys=>eqD x y&&eqDs xs ys
 | _,_=>false
end
mutual
def depD:D->Nat
 | .tup xs=>depDs xs+1
 | .lst xs=>depDs xs+1
 | .fro xs=>depDs xs+1
 | _=>0
def depDs:List D->Nat
 | []=>0
 | x::xs=>max (depD x) (depDs xs)
end
mutual
def layD:D->Bool
 | .str x=>x.cps.all (·<0x110000)
 | .tup xs=>layDs xs
 | .lst xs=>layDs xs
 | .fro xs=>layDs xs
 | .obj ..=>false
 | .dct ..=>false
 | .cl ..=>false
 | _=>true
def layDs:List D->Bool
 | []=>true
 | x::xs=>layD x&&layDs xs
end
mutual
def nob:D->Bool
 | .tup xs=>nobs xs
 | .lst xs=>nobs xs
 | .fro xs=>nobs xs
 | .obj ..=>false
 | .dct ..=>false
 | .cl ..=>false
 | _=>true
def nobs:List D->Bool
 | []=>true
 | x::xs=>nob x&&nobs xs
end
mutual
theorem dv:∀ {d:D},layD d=true->nob d=true
 | .non,_=>rfl
 | .bl _,_=>rfl
 | .int _,_=>rfl
 | .str _,_=>rfl
 | .tup xs,h=>fe (xs:=xs) h
 | .lst xs,h=>fe (xs:=xs) h
 | .fro xs,h=>fe (xs:=xs) h
 | .obj ..,h=>by cases h
 | .dct ..,h=>by cases h
 | .cl ..,h=>by cases h
theorem fe:∀ {xs:List D},layDs xs=true->nobs xs=true
 | [],_=>rfl
 | x::xs,h=>by
  have h':(layD x&&layDs xs)=true:=h
  rw [Bool.and_eq_true] at h'
  show (nob x&&nobs xs)=true
  rw [dv h'.1,fe h'.2];rfl
end
def cEqD (x y:D):Option Bool:=if depD x<=100/\layD x=true/\layD y=true then some (eqD x y) else none
def cNeD (x y:D):Option Bool:=(cEqD x y).map (!·)
def ixD (n:Nat) (i:Int):Option Nat:=if 0<=i then (if i<n then some i.toNat else none) else if -(n:Int)<=i then some (i+n).toNat else none
def atD (xs:List D) (i:Int):Option D:=(ixD xs.length i).bind fun j=>xs[j]?
@[simp] def dIx:D->D->Option D
 | .tup xs,.int i=>atD xs i
 | .lst xs,.int i=>atD xs i
 | .fro xs,.int i=>atD xs i
 | .str x,.int i=>if x.length<=sizeLine then ((ixD x.length i).bind fun j=>x.cps.toList[j]?).map fun c=>.str ⟨#[c]⟩ else none
 | _,_=>none
def cutP (n d:Nat):Option Int->Nat
 | none=>d
 | some v=>if v<0 then (v+(n:Int)).toNat else min v.toNat n
def cutD (xs:List D) (lo hi:Option Int):List D:=(xs.drop (cutP xs.length 0 lo)).take (cutP xs.length xs.length hi - cutP xs.length 0 lo)
@[simp] def dSl:D->Option Int->Option Int->Option D
 | .tup xs,lo,hi=>some (.tup (cutD xs lo hi))
 | .lst xs,lo,hi=>some (.lst (cutD xs lo hi))
 | _,_,_=>none
@[simp] def asI:D->Option (Option Int)
 | .int i=>some (some i)
 | _=>none
@[simp] def tyOf:D->String
 | .non=>"NoneType"
 | .bl _=>"bool"
 | .int _=>"int"
 | .str _=>"str"
 | .tup _=>"tuple"
 | .lst _=>"list"
 | .fro _=>"list"
 | .obj ..=>"object"
 | .dct ..=>"dict"
 | .cl ..=>"function"
@[simp] def isOx:D->Bool
 | .obj ..=>true
 | _=>false
@[simp] def isI (d:D) (n:String):Bool:=decide (tyOf d=n)||(decide (tyOf d = "bool")&&decide (n = "int"))
@[simp] def fLen:List D->Option D
 | [d]=>(itemsD d).map fun xs=>.int xs.length
 | _=>none
@[simp] def fList:List D->Option D
 | [.tup xs]=>some (.lst xs)
 | [.lst xs]=>some (.lst xs)
 | _=>none
@[simp] def fTuple:List D->Option D
 | [.tup xs]=>some (.tup xs)
 | [.lst xs]=>some (.tup xs)
 | _=>none
@[simp] def fStr:List D->Option D
 | [.int i]=>if i.natAbs.log2<1920 then some (.str (toString i)) else none
 | _=>none
def bools:List D->Option (List Bool)
 | []=>some []
 | .bl b::r=>(bools r).map (b::·)
 | _=>none
@[simp] def fAll:List D->Option D
 | [.lst xs]=>(bools xs).map fun bs=>.bl (bs.all id)
 | _=>none
def forD (st:D->R->Option R) (body:R->Option Out):List D->R->Option Out
 | [],ρ=>some (.nx ρ)
 | d::ds,ρ=>(st d ρ).bind fun ρ1=>(body ρ1).bind fun o=>match o with
  | .nx ρ2=>forD st body ds ρ2
  | .ct ρ2=>forD st body ds ρ2
  | .bk ρ2=>some (.nx ρ2)
  | .rt r=>some (.rt r)
def compD (st:D->R->Option R) (c:R->Option Bool) (e:R->Option D):List D->R->Option (List D)
 | [],_=>some []
 | d::ds,ρ=>(st d ρ).bind fun ρ1=>(c ρ1).bind fun b=>(if b then (e ρ1).map some else some none).bind fun x =>
   (compD st c e ds ρ).map fun r=>match x with
    | some y=>y::r
    | none=>r
@[simp] def seqD (f g:R->Option Out):R->Option Out:=fun ρ=>(f ρ).bind fun o=>match o with
 | .nx ρ2=>g ρ2
 | o=>some o
@[simp] def vAt (i:Nat) (ρ:R):Option D:=ρ.getD i none
@[simp] def setAt (i:Nat) (d:D) (ρ:R):Option R:=if i<ρ.length then some (ρ.set i (some d)) else none
@[simp] def ifD (c:R->Option Bool) (f g:R->Option Out):R->Option Out:=fun ρ=>(c ρ).bind fun b=>if b then f ρ else g ρ
@[simp] def andV (f g:R->Option D):R->Option D:=fun ρ=>(f ρ).bind fun x=>match x with
 | .bl true=>g ρ
 | .bl false=>some (.bl false)
 | _=>none
@[simp] def notV (f:R->Option D):R->Option D:=fun ρ=>(f ρ).bind fun x=>match x with
 | .bl b=>some (.bl !b)
 | _=>none
@[simp] def andT (f g:R->Option Bool):R->Option Bool:=fun ρ=>(f ρ).bind fun b=>if b then g ρ else some false
@[simp] def orT (f g:R->Option Bool):R->Option Bool:=fun ρ=>(f ρ).bind fun b=>if b then some true else g ρ
@[simp] def notT (f:R->Option Bool):R->Option Bool:=fun ρ=>(f ρ).map (!·)
@[simp] def ifE (c:R->Option Bool) (f g:R->Option D):R->Option D:=fun ρ=>(c ρ).bind fun b=>if b then f ρ else g ρ
@[simp] def op2 (F:D->D->Option D) (f g:R->Option D):R->Option D:=fun ρ=>(f ρ).bind fun x=>(g ρ).bind fun y=>F x y
@[simp] def op1 (F:D->Option D) (f:R->Option D):R->Option D:=fun ρ=>(f ρ).bind F
@[simp] def cmp2 (F:D->D->Option Bool) (f g:R->Option D):R->Option Bool:=fun ρ=>(f ρ).bind fun x=>(g ρ).bind fun y=>F x y
@[simp] def cmp3 (F G:D->D->Option Bool) (f g h:R->Option D):R->Option Bool:=fun ρ=>(f ρ).bind fun x=>(g ρ).bind fun y=>(F x y).bind fun b=>if b then (h ρ).bind fun z=>G y z else some false
@[simp] def asV (f:R->Option Bool):R->Option D:=fun ρ=>(f ρ).map .bl
@[simp] def truT (f:R->Option D):R->Option Bool:=fun ρ=>(f ρ).bind dTru
@[simp] def isD (n:String) (f:R->Option D):R->Option D:=fun ρ=>(f ρ).bind fun d=>if isOx d then none else some (.bl (isI d n))
@[simp] def argN:R->Option (List D):=fun _=>some []
@[simp] def argC (f:R->Option D) (g:R->Option (List D)):R->Option (List D):=fun ρ=>(f ρ).bind fun d=>(g ρ).map fun ds=>d::ds
@[simp] def callD (F:List D->Option D) (g:R->Option (List D)):R->Option D:=fun ρ=>(g ρ).bind F
@[simp] def tupD (g:R->Option (List D)):R->Option D:=fun ρ=>(g ρ).map .tup
@[simp] def lstD (g:R->Option (List D)):R->Option D:=fun ρ=>(g ρ).map .lst
@[simp] def noP:R->Option (Option Int):=fun _=>some none
@[simp] def aP (f:R->Option D):R->Option (Option Int):=fun ρ=>(f ρ).bind asI
@[simp] def slD (f:R->Option D) (l h:R->Option (Option Int)):R->Option D:=fun ρ=>(f ρ).bind fun x=>(l ρ).bind fun a=>(h ρ).bind fun b=>dSl x a b
@[simp] def retD (f:R->Option D):R->Option Out:=fun ρ=>(f ρ).map .rt
@[simp] def asgD (f:R->Option D) (st:D->R->Option R):R->Option Out:=fun ρ=>(f ρ).bind fun d=>(st d ρ).map .nx
@[simp] def nextD:R->Option Out:=fun ρ=>some (.nx ρ)
@[simp] def loopD (it:R->Option (List D)) (st:D->R->Option R) (body:R->Option Out):R->Option Out:=fun ρ=>(it ρ).bind fun ds=>forD st body ds ρ
def chars (x:Str):List D:=x.cps.toList.map fun c=>.str ⟨#[c]⟩
@[simp] def inSeq (f:R->Option D):R->Option (List D):=fun ρ=>(f ρ).bind fun d=>match d with
 | .tup xs=>some xs
 | .lst xs=>some xs
 | .str x=>if x.cps.all (·<128) then some (chars x) else none
 | _=>none
def rngD (a b:Int):List D:=(List.range (b - a).toNat).map fun (k:Nat)=>D.int (a+(k:Int))
@[simp] def inRng1 (f:R->Option D):R->Option (List D):=fun ρ=>(f ρ).bind fun d=>match d with
 | .int j=>if -(2 ^ 62)<=j/\j<2 ^ 62 then some (rngD 0 j) else none
 | _=>none
def lcD (k:Nat) (it:R->Option (List D)) (st:D->R->Option R) (c:R->Option Bool) (e:R->Option D):R->Option D:=fun ρ =>
 (it ρ).bind fun ds=>if ds.length<=sizeLine then (compD st c e ds (List.replicate k none++ρ)).map .lst else none
@[simp] def yesT:R->Option Bool:=fun _=>some true
@[simp] def beg (n:Nat) (ds:List D):R:=ds.map some++List.replicate (n - ds.length) none
@[simp] def retOf:Option Out->Option D
 | some (.rt d)=>some d
 | some (.nx _)=>some .non
 | _=>none
@[simp] def parD (i j:Nat) (F:R->Option (List D)):R->Option Out:=fun ρ=>(F ρ).bind fun ds=>match ds with
 | [x,y]=>if i<ρ.length/\j<ρ.length then some (.nx ((ρ.set i (some x)).set j (some y))) else none
 | _=>none
@[simp] def oPure (u:R->Option Out):R->List D->Option (Out×List D):=fun ρ ds=>(u ρ).map fun o=>(o,ds)
@[simp] def oApp (i:Nat) (f:R->Option D):R->List D->Option (Out×List D):=fun ρ ds=>(f ρ).bind fun d=>if ρ.length=i/\ds.length<sizeLine then some (.nx ρ,ds++[d]) else none
@[simp] def oExt (i:Nat) (f:R->Option D):R->List D->Option (Out×List D):=fun ρ ds=>(f ρ).bind fun d=>match d with
 | .lst es=>if ρ.length=i/\ds.length+es.length<=sizeLine then some (.nx ρ,ds++es) else none
 | _=>none
def forO (st:D->R->Option R) (p:R->List D->Option (Out×List D)):List D->R->List D->Option (Out×List D)
 | [],ρ,ds=>some (.nx ρ,ds)
 | d::es,ρ,ds=>(st d ρ).bind fun ρ1=>(p ρ1 ds).bind fun r=>match r with
  | (.nx ρ2,ds2)=>forO st p es ρ2 ds2
  | (.ct ρ2,ds2)=>forO st p es ρ2 ds2
  | (.bk ρ2,ds2)=>some (.nx ρ2,ds2)
  | r=>some r
@[simp] def oLoop (it:R->Option (List D)) (st:D->R->Option R) (p:R->List D->Option (Out×List D)):R->List D->Option (Out×List D):=fun ρ ds=>(it ρ).bind fun es=>forO st p es ρ ds
@[simp] def ownD (i:Nat) (F:R->Option (List D)) (q:R->List D->Option Out):R->Option Out:=fun ρ=>(F ρ).bind fun ds=>if ρ.length=i+1 then q (ρ.take i) ds else none
@[simp] def obSeq (p:R->List D->Option (Out×List D)) (q:R->List D->Option Out):R->List D->Option Out:=fun ρ ds=>(p ρ ds).bind fun r=>match r with
 | (.nx ρ2,ds2)=>q ρ2 ds2
 | (.rt d,_)=>some (.rt d)
 | _=>none
@[simp] def obRel (w:R->Option Out):R->List D->Option Out:=fun ρ ds=>w (ρ++[some (.lst ds)])
def via (k n:Nat) (g:R->Option Out) (ds:List D):Option D:=if ds.length=k then retOf (g (beg n ds)) else none
theorem aB {k n:Nat} {g:R->Option Out} {ds:List D} {d:D} (h:via k n g ds=some d):ds.length=k:=by
 unfold via at h
 split at h
 ·assumption
 ·cases h
theorem bb {k n:Nat} {g:R->Option Out} {ds:List D} {d:D} (h:via k n g ds=some d):retOf (g (beg n ds))=some d:=by
 unfold via at h
 split at h
 ·exact h
 ·cases h
theorem mulFits_r {i j:Int} (h1 : -(2 ^ 64)<j) (h2:j<2 ^ 64):mulFits i j=true:=by unfold mulFits;rw [decide_eq_true h1,decide_eq_true h2];simp
theorem mulFits_l {i j:Int} (h1 : -(2 ^ 64)<i) (h2:i<2 ^ 64):mulFits i j=true:=by unfold mulFits;rw [decide_eq_true h1,decide_eq_true h2];simp
theorem forD_inv {st:D->R->Option R} {body:R->Option Out} (P:Nat->R->Prop):∀ (ds:List D) (k:Nat) (ρ0:R),P k ρ0->(∀ i d ρ,ds[i]?=some d->P (k+i) ρ->∃ ρ1 ρ2,st d ρ=some ρ1/\body ρ1=some (.nx ρ2)/\P (k+i+1) ρ2) ->
  ∃ ρ',forD st body ds ρ0=some (.nx ρ')/\P (k+ds.length) ρ'
 | [],k,ρ0,h0,_=>⟨ρ0,rfl,h0⟩
 | d::ds,k,ρ0,h0,hs=>by
  obtain ⟨ρ1,ρ2,h1,h2,h3⟩:=hs 0 d ρ0 rfl h0
  obtain ⟨ρ',h4,h5⟩:=forD_inv P ds (k+1) ρ2 h3 fun i d' ρ e p=>by
   have q:=hs (i+1) d' ρ (by simpa using e) (by rw [show k+(i+1)=k+1+i by omega];exact p)
   rw [show k+(i+1)+1=k+1+i+1 by omega] at q
   exact q
  refine ⟨ρ',?_,?_⟩
  ·simp [forD,h1,h2,h4]
  ·rw [show k+(d::ds).length=k+1+ds.length by simp;omega];exact h5
theorem iR {n:Int} {i:Nat} {d:D} (e:(rngD 0 n)[i]?=some d):d=.int i/\(i:Int)<n:=by
 unfold rngD at e
 rw [List.getElem?_map] at e
 cases q:(List.range (n - 0).toNat)[i]? with
 | none=>rw [q] at e;cases e
 | some k =>
  rw [q] at e
  obtain ⟨h1,h2⟩:=List.getElem?_eq_some_iff.mp q
  simp at h1 h2
  subst h2
  have e':D.int (0+(i:Int))=d:=Option.some.inj e
  rw [Int.zero_add] at e'
  exact ⟨e'.symm,by omega⟩
theorem fW (n:Int):(rngD 0 n).length=n.toNat:=by simp [rngD]
theorem atD_some {xs:List D} {i:Int} (h0:0<=i) (h1:i<xs.length):∃ x,x∈xs/\atD xs i=some x:=by
 have h2:i.toNat<xs.length:=by omega
 refine ⟨xs[i.toNat],List.getElem_mem h2,?_⟩
 unfold atD ixD
 rw [if_pos h0,if_pos h1]
 simp [h2]
inductive Fits:D->Prop
 | non:Fits .non
 | bl (b:Bool):Fits (.bl b)
 | int (i:Int):Fits (.int i)
 | str (x:Str):Fits (.str x)
 | tup {xs:List D}:xs.length<=1000->(∀ x∈xs,Fits x)->Fits (.tup xs)
end HW
namespace HW
open PySem
mutual
def toPy:D->PyData
 | .non=>.none
 | .bl b=>.bool b
 | .int i=>.int i
 | .str x=>.str x
 | .tup xs=>.tuple (toPys xs)
 | .lst xs=>.list (toPys xs)
 | .fro xs=>.list (toPys xs)
 | .obj ..=>.dict []
 | .dct ..=>.dict []
 | .cl ..=>.dict []
def toPys:List D->List PyData
 | []=>[]
 | d::ds=>toPy d::toPys ds
end
end HW
set_option maxHeartbeats 1000000
namespace HW
open PySem
inductive Deed | none | hour | minute | zero | ahour | aminute | alarm | run | lap | cminute | csecond | full | count
 deriving DecidableEq,Inhabited
inductive Btn | a | b | c
 deriving DecidableEq,Inhabited
inductive Face | time | alarm | laps | count
 deriving DecidableEq,Inhabited
def Deed.x:Deed->Str
 | .none=>Str.ofString "none" | .hour=>Str.ofString "hour" | .minute=>Str.ofString "minute" | .zero=>Str.ofString "zero" | .ahour=>Str.ofString "ahour" | .aminute=>Str.ofString "aminute" | .alarm=>Str.ofString "alarm"
 | .run=>Str.ofString "run" | .lap=>Str.ofString "lap" | .cminute=>Str.ofString "cminute" | .csecond=>Str.ofString "csecond" | .full=>Str.ofString "full" | .count=>Str.ofString "count"
def Btn.x:Btn->Str
 | .a=>Str.ofString "a" | .b=>Str.ofString "b" | .c=>Str.ofString "c"
def Btn.X:Btn->Str
 | .a=>Str.ofString "A" | .b=>Str.ofString "B" | .c=>Str.ofString "C"
def Btn.ix:Btn->Nat
 | .a=>0 | .b=>1 | .c=>2
def Face.x:Face->Str
 | .time=>Str.ofString "time" | .alarm=>Str.ofString "alarm" | .laps=>Str.ofString "laps" | .count=>Str.ofString "count"
structure Md where
 face:Face
 stays:Bool
 rows:List (Deed×Nat)
 deriving Inhabited
structure Bk where
 hold:Int
 back:Int
 modes:List Md
structure WS where
 mode:Nat
 clock:Int
 ah:Int
 am:Int
 aon:Bool
 lm:Int
 lr:Bool
 lk:List Int
 cm:Int
 cs:Int
 cl:Int
 cr:Bool
 ring:Int
 held:Option (Btn×Option Int)
 idle:Int
def rowD (r:Deed×Nat):D:=.tup [.str r.1.x,.int (r.2:Int)]
def Md.d (m:Md):D:=.tup [.str m.face.x,.bl m.stays,.tup (m.rows.map rowD)]
def Bk.d (b:Bk):D:=.tup [.int b.hold,.int b.back,.tup (b.modes.map Md.d)]
def optI:Option Int->D
 | .none=>.non
 | .some k=>.int k
def heldD:Option (Btn×Option Int)->D
 | .none=>.non
 | .some (x,k)=>.tup [.str x.x,optI k]
def WS.alarmD (s:WS):D:=.tup [.int s.ah,.int s.am,.bl s.aon]
def WS.lapsD (s:WS):D:=.tup [.int s.lm,.bl s.lr,.tup (s.lk.map .int)]
def WS.countD (s:WS):D:=.tup [.int s.cm,.int s.cs,.int s.cl,.bl s.cr]
def WS.d (s:WS):D:=.tup [.int (s.mode:Int),.int s.clock,s.alarmD,s.lapsD,s.countD,.int s.ring,heldD s.held,.int s.idle]
structure Md.Ok (n:Nat) (m:Md):Prop where
 six:m.rows.length=6
 nx:∀ r∈m.rows,r.2<n
structure Bk.Ok (b:Bk):Prop where
 hold1:1<=b.hold
 hold9:b.hold<=9
 back0:0<=b.back
 back60:b.back<=60
 some1:1<=b.modes.length
 some8:b.modes.length<=8
 all:∀ m∈b.modes,m.Ok b.modes.length
structure WS.Wk (b:Bk) (s:WS):Prop where
 bk:0<=b.back
 mode:s.mode<b.modes.length
 clock0:0<=s.clock
 clock1:s.clock<86400
 ah0:0<=s.ah
 ah1:s.ah<24
 am0:0<=s.am
 am1:s.am<60
 lm0:0<=s.lm
 lk:s.lk.length<=4
 cm0:0<=s.cm
 cm1:s.cm<60
 cs0:0<=s.cs
 cs1:s.cs<60
 cl0:0<=s.cl
 cl1:s.cl<3600
 cr:s.cr=true->0<s.cl
 ring0:0<=s.ring
 ring1:s.ring<=10
 idle0:0<=s.idle
 idle1:0<b.back->s.idle<b.back
 idle2:b.back=0->s.idle=0
structure WS.Ok (b:Bk) (s:WS):Prop extends WS.Wk b s where
 held:∀ x k,s.held=some (x,some k)->0<=k/\k<b.hold
def setTo (s:WS) (m c:Int):WS:=if s.cr then s else {s with cm:=m,cs:=c,cl:=60*m+c,cr:=false}
def deed:Deed->WS->WS
 | .none,s=>s
 | .hour,s=>{s with clock:=(s.clock+3600)%86400}
 | .minute,s=>{s with clock:=s.clock - s.clock%3600+(s.clock%3600+60)%3600}
 | .zero,s=>{s with clock:=s.clock - s.clock%60}
 | .ahour,s=>{s with ah:=(s.ah+1)%24}
 | .aminute,s=>{s with am:=(s.am+1)%60}
 | .alarm,s=>{s with aon:=!s.aon}
 | .run,s=>{s with lr:=!s.lr}
 | .lap,s=>if s.lr then (if 4<=s.lk.length then s else {s with lk:=s.lk++[s.lm]}) else {s with lm:=0,lk:=[]}
 | .cminute,s=>setTo s ((s.cm+1)%60) s.cs
 | .csecond,s=>setTo s s.cm ((s.cs+1)%60)
 | .full,s=>setTo s s.cm s.cs
 | .count,s=>{s with cr:=!s.cr&&decide (0<s.cl)}
def Bk.row (b:Bk) (m i:Nat):Deed×Nat:=(b.modes.getD m default).rows.getD i (.none,0)
def press (b:Bk) (s:WS) (i:Nat):WS:={deed (b.row s.mode i).1 s with mode:=(b.row s.mode i).2}
def mx (i j:Int):Int:=if j > i then j else i
def WS.sec (s:WS):Int:=3600*s.ah+60*s.am
def alarmTick (s:WS):Option Int:=if s.aon then some ((s.sec - s.clock - 1)%86400+1) else none
def countTick (s:WS):Option Int:=if s.cr then some s.cl else none
def lastRing (s:WS) (n:Int):Option Int :=
 match alarmTick s,countTick s with
 | some a,some c=>if a<=n then (if c<=n then some (mx (n - (n - a)%86400) c) else some (n - (n - a)%86400)) else (if c<=n then some c else none)
 | some a,none=>if a<=n then some (n - (n - a)%86400) else none
 | none,some c=>if c<=n then some c else none
 | none,none=>none
def ringOn (s:WS) (n:Int):Int :=
 match lastRing s n with
 | none=>mx 0 (s.ring - n)
 | some l=>mx 0 (10 - (n - l))
def heldOn (h:Option (Btn×Option Int)) (n:Int):Option (Btn×Option Int) :=
 match h with
 | some (x,some k)=>some (x,some (k+n))
 | h=>h
def toBack (b:Bk) (s:WS):Int:=mx 1 (b.back - s.idle)
def idleOn (b:Bk) (s:WS) (n:Int):Int :=
 if s.held.isSome\/b.back=0 then s.idle else if n<toBack b s then s.idle+n else (n - toBack b s)%b.back
def lapsOn (s:WS) (n:Int):Int:=if s.lr then s.lm+n else s.lm
def leftOn (s:WS) (n:Int):Int:=if s.cr then mx 0 (s.cl - n) else s.cl
def runsOn (s:WS) (n:Int):Bool:=s.cr&&decide (0<mx 0 (s.cl - n))
def counted (b:Bk) (s:WS) (n:Int):WS :=
 {s with clock:=(s.clock+n)%86400,lm:=lapsOn s n,cl:=leftOn s n,cr:=runsOn s n,ring:=ringOn s n,held:=heldOn s.held n,idle:=idleOn b s n}
def turned (b:Bk) (s:WS):WS :=
 match s.held with
 | none=>{s with mode:=0}
 | some (x,_)=>press b {s with held:=some (x,none)} (x.ix+3)
def behind (b:Bk) (s:WS) (t:Int):WS:=turned b (counted b s t)
inductive Ev | down (x:Btn) | up (x:Btn) | ticks (n:Int)
 deriving DecidableEq
def Ev.d:Ev->D
 | .down x=>.tup [.str (Str.ofString "down"),.str x.x]
 | .up x=>.tup [.str (Str.ofString "up"),.str x.x]
 | .ticks n=>.tup [.str (Str.ofString "ticks"),.int n]
theorem emodlt (a:Int) {b:Int} (h:0<b):a%b<b:=Int.emod_lt_of_pos a h
theorem emodnn (a:Int) {b:Int} (h:0<b):0<=a%b:=Int.emod_nonneg a (by omega)
theorem ow {b:Bk} (ok:b.Ok) {m i:Nat} (hm:m<b.modes.length) (hi:i<6):(b.row m i).2<b.modes.length:=by
 unfold Bk.row
 have e:b.modes.getD m default=b.modes[m]:=by simp [List.getD_eq_getElem?_getD,hm]
 rw [e]
 have o:=ok.all _ (List.getElem_mem hm)
 have hi':i<b.modes[m].rows.length:=by rw [o.six];exact hi
 have e2:b.modes[m].rows.getD i (.none,0)=b.modes[m].rows[i]:=by simp [List.getD_eq_getElem?_getD,hi']
 rw [e2]
 exact o.nx _ (List.getElem_mem hi')
theorem WS.Wk.set {b:Bk} {s:WS} (w:s.Wk b) {m c:Int} (m0:0<=m) (m1:m<60) (c0:0<=c) (c1:c<60):(setTo s m c).Wk b:=by
 unfold setTo
 split
 ·exact w
 ·exact {w with cm0:=m0,cm1:=m1,cs0:=c0,cs1:=c1,cl0:=(by show 0<=60*m+c;omega),cl1:=(by show 60*m+c<3600;omega),cr:=fun h=>by cases h}
theorem WS.Wk.dd {b:Bk} {s:WS} (w:s.Wk b) (d:Deed):(deed d s).Wk b:=by
 have c0:=w.clock0;have c1:=w.clock1
 cases d with
 | none=>exact w
 | hour=>exact {w with clock0:=emodnn _ (by decide),clock1:=emodlt _ (by decide)}
 | minute=>exact {w with clock0:=(by show 0<=s.clock - s.clock%3600+(s.clock%3600+60)%3600;omega),clock1:=(by show s.clock - s.clock%3600+(s.clock%3600+60)%3600<86400;omega)}
 | zero=>exact {w with clock0:=(by show 0<=s.clock - s.clock%60;omega),clock1:=(by show s.clock - s.clock%60<86400;omega)}
 | ahour=>exact {w with ah0:=emodnn _ (by decide),ah1:=emodlt _ (by decide)}
 | aminute=>exact {w with am0:=emodnn _ (by decide),am1:=emodlt _ (by decide)}
 | alarm=>exact {w with}
 | run=>exact {w with}
 | lap =>
  show (if s.lr then (if 4<=s.lk.length then s else {s with lk:=s.lk++[s.lm]}) else {s with lm:=0,lk:=[]}:WS).Wk b
  split
  ·split
   ·exact w
   ·exact {w with lk:=(by show (s.lk++[s.lm]).length<=4;simp;omega)}
  ·exact {w with lm0:=Int.le_refl 0,lk:=Nat.zero_le _}
 | cminute=>exact w.set (emodnn _ (by decide)) (emodlt _ (by decide)) w.cs0 w.cs1
 | csecond=>exact w.set w.cm0 w.cm1 (emodnn _ (by decide)) (emodlt _ (by decide))
 | full=>exact w.set w.cm0 w.cm1 w.cs0 w.cs1
 | count =>
  have hc:(!s.cr&&decide (0<s.cl))=true->0<s.cl:=fun h=>by simp at h;exact h.2
  exact {w with cr:=hc}
theorem WS.Wk.prs {b:Bk} {s:WS} (ok:b.Ok) (w:s.Wk b) {i:Nat} (hi:i<6):(press b s i).Wk b:=by
 have z:=w.dd (b.row s.mode i).1
 exact {z with mode:=ow ok w.mode hi}
def Ev.Ok:Ev->Prop
 | .ticks n=>1<=n
 | _=>True
abbrev Pr:=Btn×Bool
def Pr.x (p:Pr):Str:=if p.2 then p.1.X else p.1.x
def Pr.ix (p:Pr):Nat:=if p.2 then p.1.ix+3 else p.1.ix
def Pr.code (p:Pr):Nat:=(if p.2 then 65 else 97)+p.1.ix
end HW
namespace HW
open PySem
@[simp] def cInT (x y:D):Option Bool:=(sI x).bind fun a=>(sI y).map fun b=>!(Builtin.Str.occurrences b a 0 b.length 1).isEmpty
def strsD:List D->Option (List Str)
 | []=>some []
 | d::r=>(sI d).bind fun x=>(strsD r).map fun xs=>x::xs
def joinS (sep:Str) (xs:List Str):Option Str:=if xs.toArray.foldl (fun n x=>n+x.length+sep.length) 0<=sizeLine/\(Builtin.Str.glued sep xs).length<=sizeLine then some (Builtin.Str.glued sep xs) else none
@[simp] def fJoin:List D->Option D
 | [.str s,.lst ds]=>(strsD ds).bind fun xs=>(joinS s xs).map .str
 | _=>none
@[simp] def fJoinR:List D->Option D
 | [.str s,.lst ds]=>(strsD ds.reverse).bind fun xs=>(joinS s xs).map .str
 | _=>none
def splitS (x y:Str):List Str :=
 if (decide (x.length<y.length)||decide (Builtin.Str.strKind x<Builtin.Str.strKind y))=true\/(Builtin.Str.occurrences x y 0 x.length (x.length+1)).isEmpty=true then [x] else Builtin.Str.partsBetween x (Builtin.Str.occurrences x y 0 x.length (x.length+1)) y.length
@[simp] def fSplit:List D->Option D
 | [.str x,.str y]=>if y.length=1/\x.length<=sizeLine/\(splitS x y).length<=sizeLine then some (.lst ((splitS x y).map .str)) else none
 | _=>none
@[simp] def inRng2 (f g:R->Option D):R->Option (List D):=fun ρ=>(f ρ).bind fun x=>(g ρ).bind fun y=>(nI x).bind fun i=>(nI y).bind fun j =>
 if -(2 ^ 61)<=i/\i<2 ^ 61 /\ -(2 ^ 61)<=j/\j<2 ^ 61 then some (rngD i j) else none
@[simp] def dSlS:D->Option Int->Option Int->Option D
 | .str z,lo,hi=>if z.length<=sizeLine then some (.str (Txt.slice z lo hi)) else none
 | _,_,_=>none
@[simp] def slT (f:R->Option D) (l h:R->Option (Option Int)):R->Option D:=fun ρ=>(f ρ).bind fun x=>(l ρ).bind fun a=>(h ρ).bind fun b=>dSlS x a b
@[simp] def fIntS:List D->Option D
 | [.str x]=>if x.length<=640 then (PySem.intText? x).map .int else none
 | _=>none
def rng3N (a b c:Int):Nat:=if a<b then ((b - a - 1) / c+1).toNat else 0
def rng3D (a b c:Int):List D:=(List.range (rng3N a b c)).map fun (k:Nat)=>D.int (a+(k:Int)*c)
@[simp] def inRng3 (f g h:R->Option D):R->Option (List D):=fun ρ=>(f ρ).bind fun x=>(g ρ).bind fun y=>(h ρ).bind fun z=>(nI x).bind fun i=>(nI y).bind fun j=>(nI z).bind fun c =>
 if -(2 ^ 60)<=i/\i<2 ^ 60 /\ -(2 ^ 60)<=j/\j<2 ^ 60/\0<c/\c<1073741824 then some (rng3D i j c) else none
@[simp] def whl0 (c:R->Option Bool):R->Option Out:=fun ρ=>(c ρ).bind fun b=>if b then none else some (.nx ρ)
@[simp] def fLenS:List D->Option D
 | [.str x]=>if x.length<=sizeLine then some (.int x.length) else none
 | _=>none
end HW
namespace HW
open PySem PySem.Spec PyProof.Rows L2
structure CTab where
 c:Addr
 P:Addr
 q:Str
def TabH (ts:List CTab) (b:Addr):Option HO:=(ts.find? fun t=>t.P==b).map fun t=>.tbl t.q false
theorem tabH_is {ts:List CTab} {b:Addr} {u:HO} (h:TabH ts b=some u):∃ t∈ts,t.P=b/\u=.tbl t.q false:=by
 unfold TabH at h
 cases e:ts.find? fun t=>t.P==b with
 | none=>rw [e] at h;cases h
 | some t =>
  rw [e] at h
  cases h
  exact ⟨t,List.mem_of_find?_eq_some e,by simpa using List.find?_some e,rfl⟩
def OnlyT (ts:List CTab) (a:Addr) (H:Hp):Prop:=∀ b,(b≠a/\H b=TabH ts b)\/(b=a/\(H b=none\/∃ o xs,H b=some (.frz o (.lst xs))))
structure TabBase (mg:Str->Option Value) (ts:List CTab) (base:Heap):Prop where
 code:∀ t∈ts,PySem.W.CodeHd base t.c t.P
 bm:∃ bm o,mg "__builtins__" = some (.ref bm)/\bm≠builtinsNs/\bm≠mainGlobals/\base.get? bm=some o/\o.cls=.type "module" /\ o.dict=some builtinsNs/\o.data=.plain
theorem law_callT {P:Program} {w:World} {K:PySem.W.Frag} {mg mb:Str->Option Value} {CX:CXT} {k:Nat} {fa a:Addr} {fd:FuncData} {x:Str} {sp:Sp} {s₁:Shared} {vs:List Value} {ns:List Int} {ts:List CTab}
  (KX:K.In s₁.heap) (hns:s₁.heap.Ns mainGlobals mg) (hb:s₁.heap.Ns builtinsNs mb) (hbb:∀ x:Str,x ≠ "__name__" -> mb x=bootBuiltins x) (hlim:s₁.heap.NoLimit) (hg:s₁.gens=#[])
  (ha:s₁.heap.get? a=some {cls:=.type "list",data:=.seq vs.toArray}) (hi:IntsAre vs ns) (hl:ns.length<=sizeLine) (hr:Room k callerA)
  (hT:∀ t∈ts,PySem.W.CodeHd s₁.heap t.c t.P/\s₁.heap.get? t.P=some (PySem.W.tabObj #[])) (hK:∀ t∈ts,K.lookup t.P=none)
  (hbm:∃ bm o,mg "__builtins__" = some (.ref bm)/\bm≠builtinsNs/\bm≠mainGlobals/\s₁.heap.get? bm=some o/\o.cls=.type "module" /\ o.dict=some builtinsNs/\o.data=.plain)
  (F:∀ base:Heap,K.In base->base.Ns mainGlobals mg->TabBase mg ts base->FnOk P w K mg base CX k fa fd [x] sp) (hbind:∀ (s:Shared) (u:Value),BindsTo s fd ⟨[u],[]⟩ [(x,u)])
  (hsp:∀ H:Hp,OnlyT ts a H->(∀ t∈ts,t.P≠a)->SqL K H a (ns.map V.int)->sp [.ref a] H (fun v _=>v=.bl true) fun _ _ _=>False)
  (hCX:∀ H e s',CX [] H s₁ (fun _ _ _=>False) e s'->False) :
  codeAny (model P w) callerA (.call (.ref fa) ⟨[.ref a],[]⟩) (fun r s'=>r=.ok (.ret (.bool true))/\OldK s₁.heap s'.heap/\s'.os=s₁.os/\AllBare s'.gens) s₁:=by
 have rv:=cX hi
 have lenV:=hi.length
 have aP:∀ t∈ts,t.P≠a:=fun t ht z=>by
  have e:=(hT t ht).2
  rw [z,ha] at e;cases e
 have tabOk:∀ (H:Hp) {b:Addr} {u:HO},TabH ts b=some u->ObjOk P w H s₁.heap b u:=fun H {b u} h=>by
  obtain ⟨t,ht,rfl,rfl⟩:=tabH_is h
  exact ⟨#[],(hT t ht).2,trivial,fun pos cv hc=>by cases hc⟩
 have core:∀ H:Hp,OnlyT ts a H->SqL K H a (ns.map V.int)->HOk P w H s₁.heap->(H a≠none->K.lookup a=none) ->
   codeAny (model P w) callerA (.call (.ref fa) ⟨[.ref a],[]⟩) (fun r s'=>r=.ok (.ret (.bool true))/\OldK s₁.heap s'.heap/\s'.os=s₁.os/\AllBare s'.gens) s₁:=by
  intro H hO hS hok hKa
  have what:∀ {b:Addr} {u:HO},H b=some u->(b=a)\/∃ t∈ts,t.P=b/\u=.tbl t.q false:=fun {b u} e=>by
   rcases hO b with ⟨_,z⟩ | ⟨z,_⟩
   ·rw [e] at z;exact .inr (tabH_is z.symm)
   ·exact .inl z
  have base_of:∀ {b:Addr} {o:Obj},s₁.heap.get? b=some o->H b=none->(hidT s₁.heap H).get? b=some o:=fun e n=>hidT_get e n
  have free:∀ {b:Addr} {o:Obj},s₁.heap.get? b=some o->(∀ (its:Array Value) n,o.data≠.seq its n)->(o.cls≠.none)->H b=none:=fun {b o} e h1 h2=>by
   cases q:H b with
   | none=>rfl
   | some u =>
    rcases what q with z | ⟨t,ht,z,_⟩
    ·rw [z,ha] at e;cases e;exact absurd rfl (h1 _ _)
    ·rw [<- z,(hT t ht).2] at e;cases e;exact absurd rfl h2
  have noA:∀ {b:Addr} {o:Obj} {es:Array DictEntry} {ep:Nat},s₁.heap.get? b=some o->o.data=.dict es ep->H b=none:=fun {b o es ep} e d=>by
   cases q:H b with
   | none=>rfl
   | some u =>
    rcases what q with z | ⟨t,ht,z,_⟩
    ·rw [z,ha] at e;cases e;cases (show Data.seq vs.toArray _=Data.dict es ep from d)
    ·rw [<- z,(hT t ht).2] at e;cases e;cases d
  have nsK:∀ {b:Addr} {m:Str->Option Value},s₁.heap.Ns b m->(hidT s₁.heap H).Ns b m:=fun {b m} ⟨o,es,ep,e,d,r⟩=>⟨o,es,ep,base_of e (noA e d),d,r⟩
  have hKb:K.In (hidT s₁.heap H):=fun b o e=>base_of (KX b o e) (by
   cases q:H b with
   | none=>rfl
   | some u =>
    rcases what q with z | ⟨t,ht,z,_⟩
    ·subst z;rw [hKa (by rw [q];simp)] at e;cases e
    ·rw [<- z,hK t ht] at e;cases e)
  have hM:Mod K mg (hidT s₁.heap H):=⟨hKb,nsK hns,⟨mb,nsK hb,hbb⟩,let ⟨mc,h1,h2⟩:=hlim;⟨mc,nsK h1,h2⟩⟩
  have hTB:TabBase mg ts (hidT s₁.heap H):=by
   refine ⟨fun t ht=>?_,?_⟩
   ·obtain ⟨o,vs',file,tf,flags,tg,inF,text,tt,e,ec,ed,r⟩:=(hT t ht).1
    exact ⟨o,vs',file,tf,flags,tg,inF,text,tt,base_of e (free e (fun its n z=>by rw [ed] at z;cases z) (by rw [ec];simp)),ec,ed,r⟩
   ·obtain ⟨bm,o,b1,b2,b3,b4,b5,b6,b7⟩:=hbm
    exact ⟨bm,o,b1,b2,b3,base_of b4 (free b4 (fun its n z=>by rw [b7] at z;cases z) (by rw [b5];simp)),b5,b6,b7⟩
  have e0:Env0 P w K mg (hidT s₁.heap H) callerA [] s₁ H:=⟨rfl,hM,fun b o e=>of_hidT e,Nat.le_of_eq (hidT_size _ _),trivial,fun b hb=>absurd (show b∈([]:List Addr) from hb) (by simp),hok,.of_eq hg⟩
  refine codeAny_mono ((F _ hKb (nsK hns) hTB).run callerA [] s₁ H ⟨[.ref a],[]⟩ [.ref a] [.ref a] _ _ hr e0 (hbind s₁ (.ref a)) (.cons rfl .nil) (hsp H hO aP hS)) fun r s' h=>?_
  cases r with
  | error e=>exact (hCX H e s' h).elim
  | ok fl =>
   cases fl with
   | next=>exact False.elim h
   | brk=>exact False.elim h
   | cont=>exact False.elim h
   | ret u =>
    obtain ⟨v,H',os,bare,un,hok',r',q⟩:=h
    have q':v=.bl true:=q
    subst q'
    obtain rfl:u=Value.bool true:=r'
    have tab:∀ {b:Addr} {o:Obj},s₁.heap.get? b=some o->(s'.heap.get? b=some o)\/∃ t∈ts,t.P=b/\o=PySem.W.tabObj #[]/\∃ ps,s'.heap.get? b=some (PySem.W.tabObj ps):=fun {b o} e=>by
     cases qb:H b with
     | none=>exact .inl (un.keep b o e qb (by intro z;exact absurd (show b∈([]:List Addr) from z) (by simp)) (by simp))
     | some u =>
      rcases hO b with ⟨_,z⟩ | ⟨_,z⟩
      ·rw [qb] at z
       obtain ⟨t,ht,zP,rfl⟩:=tabH_is z.symm
       have z2:=un.tbls b _ _ qb
       obtain ⟨ps,g,_⟩:=(show ObjOk P w H' s'.heap b (.tbl t.q false) from hok' b _ z2)
       have e2:=(hT t ht).2
       rw [zP,e] at e2
       exact .inr ⟨t,ht,zP,Option.some.inj e2,ps,g⟩
      ·rcases z with z | ⟨ob,xs,z⟩
       ·rw [qb] at z;cases z
       ·have z2:=un.frzs b ob _ (fun y q=>by cases q) z
        obtain ⟨e1,_⟩:=hok b _ z
        obtain ⟨e2,_⟩:=hok' b _ z2
        rw [e] at e1;cases e1
        exact .inl e2
    refine ⟨rfl,⟨fun b o e=>?_,fun b o e=>?_⟩,os,bare⟩
    ·rcases tab e with z | ⟨t,ht,rfl,rfl,ps,g⟩
     ·exact .inl z
     ·exact .inr (.inl ⟨((hT t ht).1.tab (hT t ht).2).isCodeTable,rfl,#[],ps,rfl,by rw [Array.empty_append];exact g⟩)
    ·rcases tab e with z | ⟨t,ht,rfl,rfl,ps,g⟩
     ·exact ⟨_,z⟩
     ·exact ⟨_,g⟩
 cases hk:K.lookup a with
 | some o =>
  have e:=KX a o hk
  rw [ha] at e
  cases e
  have hn:TabH ts a=none:=by
   cases q:TabH ts a with
   | none=>rfl
   | some u=>obtain ⟨t,ht,z,_⟩:=tabH_is q;exact absurd z (aP t ht)
  refine core (TabH ts) (fun b=>?_) (.inr ⟨_,vs.toArray,_,hk,rfl,rfl,rfl,by rw [List.size_toArray,lenV];exact hl,by simpa using rv⟩) (fun b u z=>tabOk _ z) fun z=>absurd hn z
  by_cases hb:b=a
  ·exact .inr ⟨hb,.inl (by rw [hb];exact hn)⟩
  ·exact .inl ⟨hb,rfl⟩
 | none =>
  refine core (fun b=>if b=a then some (.frz {cls:=.type "list",data:=.seq vs.toArray} (.lst (ns.map V.int))) else TabH ts b) (fun b=>?_) (.inl (.inr ⟨{cls:=.type "list",data:=.seq vs.toArray},if_pos rfl⟩)) (fun b u z=>?_) fun _=>hk
  ·by_cases hb:b=a
   ·exact .inr ⟨hb,.inr ⟨_,_,if_pos hb⟩⟩
   ·exact .inl ⟨hb,if_neg hb⟩
  ·by_cases hb:b=a
   ·have z':=(if_pos hb).symm.trans z
    cases z'
    subst hb
    exact ⟨ha,by rw [List.length_map];exact hl,vs,_,rv,ha⟩
   ·exact tabOk _ ((if_neg hb).symm.trans z)
end HW
namespace HW
open PySem PySem.Spec PyProof.Rows L2
theorem triples_snoc {i j:Int} {t u:Tok} {c:Value}:∀ {l:List Value},TriplesOk l->TriplesOk (l++[.int i t,.int j u,c])
 | [],_=>trivial
 | .int _ _::.int _ _::_::rest,h=>triples_snoc (l:=rest) h
theorem among_snoc {pos:Pos} {i j:Int} {t u:Tok} {c cv:Value}:∀ {l:List Value},TriplesOk l->codeAmong pos (l++[.int i t,.int j u,c])=some cv->codeAmong pos l=some cv\/cv=c
 | [],_,h=>by
  have h':(if (i==pos.line&&j==pos.col)=true then some c else codeAmong pos [])=some cv:=h
  split at h'
  ·cases h';exact .inr rfl
  ·cases h'
 | .int a ta::.int b tb::d::rest,hl,h=>by
  have h':(if (a==pos.line&&b==pos.col)=true then some d else codeAmong pos (rest++[.int i t,.int j u,c]))=some cv:=h
  show (if (a==pos.line&&b==pos.col)=true then some d else codeAmong pos rest)=some cv\/_
  split at h'
  ·rename_i z;rw [if_pos z];exact .inl h'
  ·rename_i z;rw [if_neg z];exact among_snoc (l:=rest) hl h'
section
variable {X:Cx} {pins:List (Addr×Obj)} {σ:L2.St} {H:Hp} {s:Shared}
abbrev Clo (o:Obj):HO:=.frz o (.ext fun _=>True)
theorem make_clo {t:CTab} {ts:List CTab} {name:Str} {params:Arguments} {body:Expr} {scope:Scope} {clos:List (Str×Addr)} {pos:Pos} {line:Nat} (I:L2.Inv X pins σ H s) (TB:TabBase X.mg ts X.base) (ht:t∈ts) (hP:H t.P=some (.tbl t.q false)) (hcode:X.env.code=.ref t.c)
  (hcl:closureFor scope X.env=pure clos):wpAny (model X.prog X.w) X.A (makeFunction name t.q params (.expr body) scope X.env [] [] [] pos line)
   (fun v s'=>∃ f c' ctv pm H',v=.ref f/\L2.Inv X pins σ H' s'/\Same H H'/\H f=none/\H' f=some (Clo (PySem.W.kla_obj name t.q params body scope clos pm c' ctv))/\H' c'=some (.tbl t.q true)) X.xe s:=by
 obtain ⟨tv,eP,tr,ent⟩:=(show ObjOk X.prog X.w H s.heap t.P (.tbl t.q false) from I.hok _ _ hP)
 have hg:s.heap.Ns mainGlobals X.mg:=I.mod.glob.keeps I.bk
 have C:PySem.W.CodeHd s.heap t.c t.P:=(TB.code t ht).keeps I.bk
 have nbase:∀ {b:Addr} {o:Obj},X.base.get? b=some o->b≠t.P:=fun e z=>by
  have:=(I.bs _ _ e).2
  rw [z,hP] at this;cases this
 have hgP:mainGlobals≠t.P:=by
  obtain ⟨o,_,_,e,_⟩:=I.mod.glob
  exact nbase e
 have hb:s.heap.BuiltinsAt X.mg t.P:=by
  obtain ⟨bm,o,b1,b2,b3,b4,b5⟩:=TB.bm
  exact ⟨bm,o,b1,b2,b3,nbase b4,I.bk _ _ b4,b5⟩
 cases hc:codeAmong pos tv.toList with
 | none =>
  refine PySem.W.kla_makeFunction hcl I.ok.glob hg hcode C eP tr hc hgP hb fun c' ctv h' tk hx hge hlt hrec htb=>?_
  have hcs:∀ {b:Addr} {u:HO},H b=some u->b≠c'/\b≠h'.objs.size:=fun e=>by
   have q:=I.hok.lt e
   exact ⟨Nat.ne_of_lt (Nat.lt_of_lt_of_le q hge),Nat.ne_of_lt (Nat.lt_of_lt_of_le q (Nat.le_trans hge (Nat.le_of_lt hlt)))⟩
  have hF:H h'.objs.size=none:=I.hok.fresh (Nat.le_trans hge (Nat.le_of_lt hlt))
  have hCn:H c'=none:=I.hok.fresh hge
  refine ⟨h'.objs.size,c',ctv,_,upd (upd H c' (.tbl t.q true)) h'.objs.size (Clo (PySem.W.kla_obj name t.q params body scope clos ((X.mg "__name__").getD .none) c' ctv)),rfl,?_,fun b u e=>?_,hF,ar,?_⟩
  ·have kp:∀ b o,b≠t.P->s.heap.get? b=some o->(h'.push (PySem.W.kla_obj name t.q params body scope clos ((X.mg "__name__").getD .none) c' ctv)).get? b=some o:=fun b o nb e=>Heap.get?_push_of_some _ (hx b o nb e)
   have nP:∀ {b:Addr},H b=none->b≠t.P:=fun e z=>by rw [z,hP] at e;cases e
   have st:∀ {b:Addr} {u:HO},H b=some u->upd (upd H c' (.tbl t.q true)) h'.objs.size (Clo (PySem.W.kla_obj name t.q params body scope clos ((X.mg "__name__").getD .none) c' ctv)) b=some u:=fun e=>by rw [aq (hcs e).2,aq (hcs e).1];exact e
   refine I.un ⟨fun b o e n _ _=>kp b o (nP n) e,fun b o e n _ _=>⟨o.slots,kp b o (nP n) e⟩,fun b o e n _=>?_,fun b o e _=>?_,fun b xs e=>st e,fun b o u _ e=>st e,fun b q d e=>st e⟩ fun b u e=>?_
   ·have q:=Heap.lt_size e
    rw [aq (Nat.ne_of_lt (Nat.lt_of_lt_of_le q (Nat.le_trans hge (Nat.le_of_lt hlt)))),aq (Nat.ne_of_lt (Nat.lt_of_lt_of_le q hge))];exact n
   ·by_cases hb:b=t.P
    ·exact ⟨_,by rw [hb];exact Heap.get?_push_of_some _ htb⟩
    ·exact ⟨o,kp b o hb e⟩
   ·by_cases hbf:b=h'.objs.size
    ·subst hbf
     rw [ar] at e
     cases e
     exact ⟨Heap.get?_push_size _ rfl,trivial,⟨_,Heap.get?_push_size _ rfl⟩,fun _ _ _ _=>trivial⟩
    ·rw [aq hbf] at e
     by_cases hbc:b=c'
     ·subst hbc
      rw [ar] at e
      cases e
      exact hrec.push _
     ·rw [aq hbc] at e
      by_cases hbP:b=t.P
      ·subst hbP
       rw [hP] at e
       cases e
       refine ⟨_,Heap.get?_push_of_some _ htb,by rw [Array.toList_append];exact triples_snoc tr,fun pos' cv hcv=>?_⟩
       rw [Array.toList_append] at hcv
       rcases among_snoc tr hcv with z | z
       ·obtain ⟨c2,e1,e2⟩:=ent pos' cv z
        exact ⟨c2,e1,st e2⟩
       ·exact ⟨c',z,by rw [aq (Nat.ne_of_lt hlt),ar]⟩
      ·refine (I.hok b u e).stay (fun c v hcb r=>kp c v (fun z=>?_) r) (fun c r=>st r) (fun c xs r=>st r) fun c q d r=>st r
       rcases hcb with rfl | hcb
       ·exact hbP z
       ·rw [z,hP] at hcb;cases hcb
  ·rw [aq (hcs e).2,aq (hcs e).1];exact e
  ·rw [aq (Nat.ne_of_lt hlt),ar]
 | some cv =>
  obtain ⟨c',rfl,hcC⟩:=ent pos cv hc
  refine PySem.W.kla_makeFunctionHit hcl I.ok.glob hg hcode C eP tr hc hb fun ctv h' tk hk hsz=>?_
  have hcs:∀ {b:Addr} {u:HO},H b=some u->b≠h'.objs.size:=fun e=>by
   exact Nat.ne_of_lt (Nat.lt_of_lt_of_le (I.hok.lt e) hsz)
  have hF:H h'.objs.size=none:=I.hok.fresh hsz
  refine ⟨h'.objs.size,c',ctv,_,upd H h'.objs.size (Clo (PySem.W.kla_obj name t.q params body scope clos ((X.mg "__name__").getD .none) c' ctv)),rfl,?_,fun b u e=>?_,hF,ar,?_⟩
  ·have kp:∀ b o,s.heap.get? b=some o->(h'.push (PySem.W.kla_obj name t.q params body scope clos ((X.mg "__name__").getD .none) c' ctv)).get? b=some o:=fun b o e=>Heap.get?_push_of_some _ (hk b o e)
   have st:∀ {b:Addr} {u:HO},H b=some u->upd H h'.objs.size (Clo (PySem.W.kla_obj name t.q params body scope clos ((X.mg "__name__").getD .none) c' ctv)) b=some u:=fun e=>by rw [aq (hcs e)];exact e
   refine I.un ⟨fun b o e n _ _=>kp b o e,fun b o e n _ _=>⟨o.slots,kp b o e⟩,fun b o e n _=>?_,fun b o e _=>⟨o,kp b o e⟩,fun b xs e=>st e,fun b o u _ e=>st e,fun b q d e=>st e⟩ fun b u e=>?_
   ·rw [aq (Nat.ne_of_lt (Nat.lt_of_lt_of_le (Heap.lt_size e) hsz))];exact n
   ·by_cases hbf:b=h'.objs.size
    ·subst hbf
     rw [ar] at e
     cases e
     exact ⟨Heap.get?_push_size _ rfl,trivial,⟨_,Heap.get?_push_size _ rfl⟩,fun _ _ _ _=>trivial⟩
    ·rw [aq hbf] at e
     exact (I.hok b u e).stay (fun c v _ r=>kp c v r) (fun c r=>st r) (fun c xs r=>st r) fun c q d r=>st r
  ·rw [aq (hcs e)];exact e
  ·rw [aq (hcs hcC)];exact hcC
end
end HW
namespace HW
open PySem PySem.Spec PyProof.Rows L2
theorem lookup_nd {α:Type}:∀ {l:List (Str×α)} {x:Str} {u:α},(l.map (·.1)).Nodup->(x,u)∈l->l.lookup x=some u
 | (y,v)::l,x,u,nd,h=>by
  rw [List.map_cons,List.nodup_cons] at nd
  rw [List.lookup_cons]
  rcases List.mem_cons.mp h with e | h
  ·cases e;simp
  ·have hn:(x==y)=false:=beq_eq_false_iff_ne.mpr fun z=>nd.1 (List.mem_map.mpr ⟨(x,u),h,z⟩)
   rw [hn]
   exact lookup_nd nd.2 h
def isC (cl:List (Str×Addr)) (b:Addr):Bool:=cl.any fun p=>p.2==b
def dropC (cl:List (Str×Addr)) (H:Hp):Hp:=fun b=>if isC cl b then none else H b
def backC (cl:List (Str×Addr)) (H H2:Hp):Hp:=fun b=>if isC cl b then H b else H2 b
theorem isC_of {cl:List (Str×Addr)} {x:Str} {c:Addr} (h:cl.lookup x=some c):isC cl c=true:=List.any_eq_true.mpr ⟨(x,c),PySem.mem_of_lookup h,by simp⟩
structure CloScope (N ps:List Str) (sc:Scope) (cl:List (Str×Addr)):Prop where
 kind:sc.kind=.function
 co:sc.isCoroutine=false
 gen:sc.isGenerator=false
 nd:N.Nodup
 pre:N.take ps.length=ps
 par:∀ x∈ps,sc.names.lookup x=some .local
 nocell:∀ y∈sc.names,y.2≠.cell
 fre:∀ x∈N.drop ps.length,sc.names.lookup x=some .free
 has:∀ x,sc.names.lookup x=some .free->∃ c,cl.lookup x=some c
 ndc:(cl.map (·.1)).Nodup
 inj:∀ x y c,cl.lookup x=some c->cl.lookup y=some c->x=y
def CapsOk (H:Hp) (N ps:List Str) (cl:List (Str×Addr)) (caps:List V):Prop :=
 caps.length=N.length - ps.length/\(∀ b,isC cl b=true->∃ o u,H b=some (Clo o)/\o.data=.cell (some u))/\∀ (i:Nat) (x:Str) (v:V),(N.drop ps.length)[i]?=some x->caps[i]?=some v->∃ c o u,cl.lookup x=some c/\H c=some (Clo o)/\o.data=.cell (some u)/\RelV v u
theorem CapsOk.to {H H':Hp} {N ps:List Str} {cl:List (Str×Addr)} {caps:List V} (h:CapsOk H N ps cl caps) (s:∀ b o,H b=some (Clo o)->H' b=some (Clo o)):CapsOk H' N ps cl caps:=by
 obtain ⟨h1,h2,h3⟩:=h
 refine ⟨h1,fun b hb=>?_,fun i x v q1 q2=>?_⟩
 ·obtain ⟨o,u,e,d⟩:=h2 b hb
  exact ⟨o,u,s b o e,d⟩
 ·obtain ⟨c,o,u,e1,e2,r⟩:=h3 i x v q1 q2
  exact ⟨c,o,u,e1,s c o e2,r⟩
def cxLam (CX:CXT) (P:Program) (w:World) (K:PySem.W.Frag) (mg:Str->Option Value) (base:Heap) (N:List Str) (qual:Str) (scope:Scope) (cl:List (Str×Addr)) (f:Addr) (cd:Value) (A:Around) (outer:List Env) (s:Shared) (H:Hp) (E:XK):Cx where
 prog:=P
 w:=w
 K:=K
 mg:=mg
 base:=base
 A:=A.deeper (PySem.W.envX qual scope s.heap.objs.size f cd cl)
 N:=N
 s₀:=s
 H₀:=dropC cl H
 env:=PySem.W.envX qual scope s.heap.objs.size f cd cl
 outer:=outer
 stack:=PySem.W.envX qual scope s.heap.objs.size f cd cl::outer
 ex:=[]
 calm:=true
 fn:=fun _=>false
 pn:=[]
 xe:=fun e s'=>wpAny (model P w) (A.deeper (PySem.W.envX qual scope s.heap.objs.size f cd cl)) (leaving (PySem.W.envX qual scope s.heap.objs.size f cd cl) e) (fun _ s''=>CX outer H s E e s'') (fun e' s''=>CX outer H s E e' s'') s'
theorem clo_of {CX:CXT} {P:Program} {w:World} {K:PySem.W.Frag} {mg:Str->Option Value} {base:Heap} {k:Nat} {f c':Addr} {name qual:Str} {params:Arguments} {body:Expr} {scope:Scope} {cl:List (Str×Addr)} {pm ctv:Value} {N ps:List Str} {sp:Sp}
    (S:CloScope N ps scope cl) (len:∀ vs H Q E,sp vs H Q E->vs.length=ps.length)
    (pre:∀ vs H Q E,sp vs H Q E->H f=some (Clo (PySem.W.kla_obj name qual params body scope cl pm c' ctv))/\H c'=some (.tbl qual true))
    (hbody:∀ (A:Around) (outer:List Env) (s:Shared) (H:Hp) (vs:List V) (Q:VK) (E:XK),Room k (A.deeper (PySem.W.envX qual scope s.heap.objs.size f (.ref c') cl))->Env0 P w K mg base A outer s H->sp vs H Q E ->
      ∃ caps t,CapsOk H N ps cl caps/\PE (cxLam CX P w K mg base N qual scope cl f (.ref c') A outer s H E) body t/\t ((vs++caps).map some) (dropC cl H) fun v H2=>(∀ b u,H2 b=some u->backC cl H H2 b=some u)->Q v (backC cl H H2)) :
    FnOk P w K mg base CX (k+1) f (PySem.W.kla_fn name qual params body scope cl pm (.ref c') ctv) ps sp:=by
  refine ⟨len,fun A outer s H args us vs Q E hr e0 hb r hsp=>?_⟩
  have hl:=len _ _ _ _ hsp
  obtain ⟨hf,hc'⟩:=pre _ _ _ _ hsp
  obtain ⟨caps,t,⟨cl1,cl2,cl3⟩,ht,hq⟩:=hbody A outer s H vs Q E (hr.deeper _) e0 hsp
  have lim:s.heap.NoLimit:=e0.mod.nolimit.keeps fun b o e=>(e0.bs b o e).1
  have ndP:ps.Nodup:=by rw [<- S.pre];exact S.nd.sublist (List.take_sublist _ _)
  have hpl:ps.length<=N.length:=by have:=congrArg List.length S.pre;rw [List.length_take] at this;omega
  have hul:us.length=ps.length:=by rw [<- r.length];exact hl
  have dr:∀ {b:Addr} {u:HO},H b=some u->(∀ o,u≠Clo o)->isC cl b=false:=fun {b u} e n=>by
    cases q:isC cl b with
    | false=>rfl
    | true=>obtain ⟨o,v,z,_⟩:=cl2 b q;rw [e] at z;cases z;exact absurd rfl (n o)
  have dk:∀ {b:Addr} {u:HO},H b=some u->(∀ o,u≠Clo o)->dropC cl H b=some u:=fun {b u} e n=>by
    show (if isC cl b then none else H b)=_
    rw [dr e n];exact e
  have dn:∀ {b:Addr},H b=none->dropC cl H b=none:=fun {b} e=>by
    show (if isC cl b then none else H b)=_
    split
    · rfl
    · exact e
  refine PySem.W.kla_callFunE hr.depth (e0.hok f _ hf).1 rfl S.co S.gen rfl (show ObjOk P w H s.heap c' (.tbl qual true) from e0.hok c' _ hc') (hb _ _ _ _ ?_)
  refine wpAny_newFunctionEnv S.nocell (fun ⟨n,v⟩ hy=>S.par n (List.of_mem_zip hy).1) (fun h₁ hns hsb=>⟨lim.fresh _ hsb,?_⟩) S.kind
  show codeAny _ _ (.expr body (PySem.W.envX qual scope s.heap.objs.size f (.ref c') cl)) _ _
  have hk:∀ b o,s.heap.get? b=some o->h₁.get? b=some o:=fun b o e=>hsb.extBut b o (Nat.ne_of_lt (Heap.lt_size e)) (Heap.get?_push_of_some _ e)
  have noA:∀ b:Addr,b∉(cxLam CX P w K mg base N qual scope cl f (.ref c') A outer s H E).ex:=fun b z=>absurd (show b∈([]:List Addr) from z) (by simp)
  have hcell:∀ x c,cl.lookup x=some c->∃ u,h₁.IsCell c (some u):=fun x c e=>by
    obtain ⟨o,u,z,d⟩:=cl2 c (isC_of e)
    exact ⟨u,o,hk _ _ (e0.hok c _ z).1,d⟩
  have I:L2.Inv (cxLam CX P w K mg base N qual scope cl f (.ref c') A outer s H E) [] ((vs++caps).map some) (dropC cl H) {s with heap:=h₁,toks:=s.toks+(ps.zip us).length}:=by
    refine ⟨⟨e0.mod,S.kind,rfl,rfl,Nat.le_refl _,S.inj,fun y hy=>?_,fun y c z _=>(by cases z),fun _=>hr.hd,Around.frames_deeper e0.frames,.inr ⟨rfl,rfl⟩,fun b z=>absurd z (noA b),fun b o e=>⟨(e0.bs b o e).1,dn (e0.bs b o e).2⟩,e0.bsz,fun b _ _=>noA b,fun b z=>absurd z (noA b),e0.funs,fun b hb=>dn (e0.frf b hb)⟩,
      rfl,e0.bare,Un.kept hk,⟨_,hns,fun i y v h1 h2 h3=>?_⟩,fun y c h=>let ⟨u,z⟩:=hcell y c h;⟨_,z⟩,dn (e0.hok.fresh (Nat.le_refl _)),fun y c h=>?_,fun p hp=>absurd (show p∈([]:List (Addr×Obj)) from hp) (by simp),fun b u e=>?_,?_⟩
    · have hy:scope.names.lookup y=some .cell\/scope.names.lookup y=some .free:=hy
      rcases hy with hy | hy
      · exact absurd rfl (S.nocell _ (PySem.mem_of_lookup hy))
      · exact S.has y hy
    · rw [List.getElem?_map] at h2
      cases e:(vs++caps)[i]? with
      | none=>rw [e] at h2;cases h2
      | some z =>
        rw [e] at h2
        cases h2
        by_cases hi:i<vs.length
        · rw [List.getElem?_append_left hi] at e
          obtain ⟨u,hu,rv⟩:=r.get e
          have hp:ps[i]?=some y:=by rw [<- S.pre,List.getElem?_take_of_lt (by omega)];exact h1
          refine ⟨u,rv,.inl ⟨S.par y (List.mem_of_getElem? hp),?_⟩⟩
          show (ps.zip us).reverse.lookup y=some u
          refine lookup_nd ?_ ?_
          · rw [List.map_reverse,List.map_fst_zip (by omega),List.Nodup,List.pairwise_reverse];exact ndP.imp fun h=>Ne.symm h
          · rw [List.mem_reverse]
            exact List.mem_of_getElem? (i:=i) (List.getElem?_zip_eq_some.mpr ⟨hp,hu⟩)
        · rw [List.getElem?_append_right (by omega)] at e
          have hd:(N.drop ps.length)[i - vs.length]?=some y:=by rw [List.getElem?_drop,show ps.length+(i - vs.length)=i by omega];exact h1
          obtain ⟨c,o,u,h4,h5,h6,h7⟩:=cl3 _ y v hd e
          exact ⟨u,h7,.inr ⟨.inr (S.fre y (List.mem_of_getElem? hd)),c,h4,o,hk _ _ (e0.hok c _ h5).1,h6⟩⟩
    · show (if isC cl c then none else H c)=none
      rw [isC_of (show cl.lookup y=some c from h)];rfl
    · have e':(if isC cl b then none else H b)=some u:=e
      cases q:isC cl b with
      | true=>rw [q] at e';cases e'
      | false =>
        rw [q] at e'
        exact (e0.hok b u e').stay (fun c v _ g=>hk c v g) (fun c g=>dk g fun o z=>by cases z) (fun c xs g=>dk g fun o z=>by cases z) fun c a d g=>dk g fun o z=>by cases z
    · show ((vs++caps).map some).length=N.length
      rw [List.length_map,List.length_append,cl1,hl];omega
  refine PySem.W.kla_codeExpr (wpAny_mono (ht [] _ _ _ _ I hq) (fun u s' hs=>?_) fun e s' hs=>hs)
  obtain ⟨v,H2,J,rv,q⟩:=hs
  have cellKept:∀ {b:Addr},isC cl b=true->∃ o,H b=some (Clo o)/\s'.heap.get? b=some o:=fun {b} hb=>by
    obtain ⟨o,u',z,_⟩:=cl2 b hb
    have hfr:b∉frs outer:=fun m=>by rw [e0.frf b m] at z;cases z
    exact ⟨o,z,J.base.keep b o (e0.hok b _ z).1 (by show (if isC cl b then none else H b)=none;rw [hb];rfl) hfr (noA b)⟩
  have bk:∀ {b:Addr} {u:HO},H2 b=some u->backC cl H H2 b=some u:=fun {b u} e=>by
    show (if isC cl b then H b else H2 b)=_
    cases qq:isC cl b with
    | false=>exact e
    | true =>
      obtain ⟨p,hp,hpb⟩:=List.any_eq_true.mp qq
      have this:∃ x,cl.lookup x=some b:=⟨p.1,lookup_nd S.ndc (by rw [<- eq_of_beq hpb];exact hp)⟩
      obtain ⟨x,hx⟩:=this
      have:=J.freeC x b hx
      rw [this] at e;cases e
  have bc:∀ {b:Addr},isC cl b=true->backC cl H H2 b=H b:=fun {b} hb=>by show (if isC cl b then H b else H2 b)=_;rw [hb];rfl
  have bn:∀ {b:Addr},isC cl b=false->backC cl H H2 b=H2 b:=fun {b} hb=>by show (if isC cl b then H b else H2 b)=_;rw [hb];rfl
  refine ⟨v,backC cl H H2,J.os,J.bare,⟨fun b o e n hf' hx=>J.base.keep b o e (dn n) hf' (noA b),fun b o e n hf' hx=>J.base.slot b o e (dn n) hf' (noA b),fun b o e n hx=>?_,fun b o e hx=>J.base.there b o e (noA b),fun b xs e=>bk (J.base.tups b xs (dk e fun o z=>by cases z)),fun b o u ny e=>?_,fun b a d e=>bk (J.base.tbls b a d (dk e fun o z=>by cases z))⟩,fun b u e=>?_,rv,q fun b u e=>bk e⟩
  · cases hb:isC cl b with
    | true=>rw [bc hb];exact n
    | false=>rw [bn hb];exact J.base.free b o e (dn n) (noA b)
  · cases hb:isC cl b with
    | true=>rw [bc hb];exact e
    | false =>
      rw [bn hb]
      refine J.base.frzs b o u ny ?_
      show (if isC cl b then none else H b)=_
      rw [hb];exact e
  · cases hb:isC cl b with
    | true =>
      obtain ⟨o,z,g⟩:=cellKept hb
      rw [bc hb,z] at e
      cases e
      exact ⟨g,trivial,⟨_,g⟩,fun _ _ _ _=>trivial⟩
    | false =>
      rw [bn hb] at e
      exact (J.hok b u e).stay (fun c v _ g=>g) (fun c g=>bk g) (fun c xs g=>bk g) fun c a d g=>bk g
end HW
namespace HW
open PySem
open Sem (wp)
theorem fk_slot:Slot "function" "__getattribute__" "object.__getattribute__" :=
 .of (owner:="object") (n:="__getattribute__") (by rw [typeLookup_type,builtinLookup_eq_fast];kernel_rfl) (by decide +kernel) (by decide +kernel) (by decide +kernel)
  (by first | exact .inl (by decide +kernel) | exact .inr (by decide +kernel)) (by rw [isSubtype_type];kernel_rfl)
theorem fk_lk:typeLookup (.type "function") "__class__" = pure (some (.builtin "object.__class__")):=by rw [typeLookup_type,builtinLookup_eq_fast];kernel_rfl
theorem fk_own:isSubtype (.type "function") (.type (".".intercalate ("object.__class__".cutAt '.').dropLast))=pure true:=by
 rw [F.owner_object_class,isSubtype_type];kernel_rfl
section
variable {prog:Program} {w:World} {A:Around} {E:Value->Shared->Prop} {h:Heap} {g:Array GenState} {d:Drawn} {t:Nat} {os:OsState} {a:Addr} {o:Obj} {tk:Tok}
theorem fk_get {R:Result->Shared->Prop} (hx:h.get? a=some o) (hc:o.cls=.type "function") (hq:R (.ok (.ret (.type "function"))) ⟨h,g,d,t,os⟩) :
  codeAny (model prog w) A (.call (.builtin "getset_descriptor.__get__") ⟨[.builtin "object.__class__",.ref a,.type "function"],[]⟩) R ⟨h,g,d,t,os⟩:=by
 have hT:(⟨h,g,d,t,os⟩:Shared).TypeIs (.ref a) "function":=⟨_,hx,hc⟩
 have hT5:(⟨h,g,d,t,os⟩:Shared).TypeIs (.builtin "object.__class__") "getset_descriptor":=F.typeOf_object_class
 have f8:=fk_own
 refine codeAny_call_builtin F.slot_gs_get.plain F.entry_gs_get (F.slot_gs_get.check _ _ _ _ _ _ _ _ hT5 (F.args_gs_get _ _ _) ?_)
 repeat (any_goals (first | assumption | wp_step))
 refine ⟨Code.quiet_builtin _ (by decide +kernel),codeAny_builtin F.entry_object_class ?_⟩
 repeat (any_goals (first | assumption | wp_step))
theorem fk_ent {Q:Fin->Shared->Prop} (hx:h.get? a=some o) (hc:o.cls=.type "function") (hq:Q (.done (.ret (.type "function"))) ⟨h,g,d,t,os⟩) :
  wpAny (model prog w) A (Builtin.«object.__getattribute__» ⟨[.ref a,.str "__class__" tk],[]⟩) Q E ⟨h,g,d,t,os⟩:=by
 have hT:(⟨h,g,d,t,os⟩:Shared).TypeIs (.ref a) "function":=⟨_,hx,hc⟩
 have hT5:(⟨h,g,d,t,os⟩:Shared).TypeIs (.builtin "object.__class__") "getset_descriptor":=F.typeOf_object_class
 have f4:=fk_lk
 have f5:=F.typeOf_object_class
 have f6:=F.slot_gs_get.lookup
 have f7:=F.slot_gs_set.lookup
 repeat (any_goals (first | assumption | wp_step))
 refine fk_get hx hc ?_
 repeat (any_goals (first | assumption | wp_step))
theorem fk_call {R:Result->Shared->Prop} (hx:h.get? a=some o) (hc:o.cls=.type "function") (hq:R (.ok (.ret (.type "function"))) ⟨h,g,d,t,os⟩) :
  codeAny (model prog w) A (.call (.builtin "object.__getattribute__") ⟨[.ref a,.str "__class__" tk],[]⟩) R ⟨h,g,d,t,os⟩ :=
 codeAny_call_builtin fk_slot.plain F.entry_object_getattribute (fk_slot.check _ _ _ _ _ _ _ _ (show (⟨h,g,d,t,os⟩:Shared).TypeIs (.ref a) "function" from ⟨_,hx,hc⟩) (F.args_object_getattribute_2 _ _) (fk_ent hx hc hq))
theorem fk_by {Q:Value->Shared->Prop} (hx:h.get? a=some o) (hc:o.cls=.type "function") (hq:Q (.type "function") ⟨h,g,d,t,os⟩):wpAny (model prog w) A (getAttrBy (.ref a) (.str "__class__" tk) false) Q E ⟨h,g,d,t,os⟩:=by
 have hT:(⟨h,g,d,t,os⟩:Shared).TypeIs (.ref a) "function":=⟨_,hx,hc⟩
 have f2:=fk_slot.lookup
 have f3:=fk_slot.bind (.ref a)
 repeat (any_goals (first | assumption | wp_step))
 refine fk_call hx hc ?_
 repeat (any_goals (first | assumption | wp_step))
theorem fk_attr {Q:Option Value->Shared->Prop} (hx:h.get? a=some o) (hc:o.cls=.type "function") (hq:Q (some (.type "function")) ⟨h,g,d,t+1,os⟩):wpAny (model prog w) A (getAttr? (.ref a) "__class__") Q E ⟨h,g,d,t,os⟩:=by
 unfold getAttr? getAttrBy?
 repeat (any_goals (first | assumption | with_reducible apply fk_by hx hc | wp_step))
theorem kitx_fn {K:PySem.W.Frag} {a:Addr}:PySem.W.KitX K (.ref a) (.type "function") (PySem.W.KitAt a "function"):=PySem.W.kitx_of PySem.W.kitAt_ty (fun {_ _ _ _ _ s} p k=>by obtain ⟨h,g,d,t,os⟩:=s;obtain ⟨o,h1,h2⟩:=p;exact fk_attr h1 h2 k)
end
end HW
namespace HW
open PySem PySem.Spec PyProof.Rows L2
def Its (x:Str):It:=⟨fun i _=>i<x.cps.size,fun i H v H'=>H'=H/\∃ c,x.cps[i]?=some c/\v=.str ⟨#[c]⟩,fun i _=>x.cps.size<=i⟩
theorem turn_str {P:Program} {w:World} {K:PySem.W.Frag} {tg:Expr} (it:Addr) (x:Str) (t:Tok):Turn P w K tg (Its x) [it] it (fun i h=>h.IsStrIter it "str_ascii_iterator" x t i) where
 mem:=by simp
 obj:=fun i h st b hb=>by
  have e:b=it:=by simpa using hb
  subst e
  obtain ⟨o,e,c,d⟩:=st
  exact ⟨o,e,fun v z=>by rw [d] at z;cases z⟩
 keep:=fun i h h' st k=>by
  obtain ⟨o,e,r⟩:=st
  exact ⟨o,k it (by simp) o e,r⟩
 item:=by
  intro X hP hw hK hc i pins s σ H E I hf st hg
  subst hP hw hK
  have hg':i<x.cps.size:=hg
  obtain ⟨f0,f1,f2,f3,f4,f5⟩:=hf it (by simp)
  refine wpAny_pyNext_ascii_item st (c:=x.cps[i]) (by simp [hg']) fun h' st' sb=>?_
  have I1:L2.Inv X pins σ H {s with heap:=h',toks:=s.toks+1}:=I.turned (t':=s.toks+1) (fun b o hb e=>(sb.2 b hb).trans e) f0 f1 f3 f4 f5
  obtain ⟨o,e,c,d⟩:=id st'
  exact ⟨_,rfl,go_of (s:={s with heap:=h',toks:=s.toks+1}) e c d (by decide) ⟨.str ⟨#[x.cps[i]]⟩,H,I1,⟨_,rfl⟩,⟨rfl,_,by simp [hg'],rfl⟩,st',fun b hb=>(hf b hb).1⟩⟩
 done:=by
  intro X hP hw hK hc i pins s σ H E I hf st hg
  subst hP hw hK
  have hg':x.cps.size<=i:=hg
  obtain ⟨f0,f1,f2,f3,f4,f5⟩:=hf it (by simp)
  exact wpAny_pyNext_ascii_end (I.ok.hd hc) st (by simp;omega) fun h' eb=>⟨rfl,I.turned (t':=s.toks) (fun b o hb e=>eb b o hb e) f0 f1 f3 f4 f5⟩
 self:=fun _ _ _ _ _ st h=>wpAny_pyIter_striter_ascii st h
end HW
namespace HW
open PySem PySem.Spec PyProof.Rows L2
def ObH (H:Hp) (k a:Nat) (ks:List Str) (vs:List V):Prop:=match k with
 | 0=>vs.length<=sizeLine/\∃ (its:List Value) (n:Nat),Vals vs its/\H a=some (.frz {cls:=.type "list",data:=.seq its.toArray n} (.own 0))
 | 1=>ks.length=vs.length/\H a=some (.dK ((ks.map Sum.inr).zip vs))
 | C+2=>ks.length=vs.length/\∃ dx,H a=some (.ins C dx (ks.zip vs))
theorem ObH.to {H H':Hp} {k a:Nat} {ks:List Str} {vs:List V} (h:ObH H k a ks vs) (e:∀ u,H a=some u->(∀ φ,u≠.ext φ)->H' a=some u):ObH H' k a ks vs:=by
 match k,h with
 | 0,⟨z,its,n,r,q⟩=>exact ⟨z,its,n,r,e _ q fun φ z=>by cases z⟩
 | 1,⟨z,q⟩=>exact ⟨z,e _ q fun φ z=>by cases z⟩
 | C+2,⟨z,dx,q⟩=>exact ⟨z,dx,e _ q fun φ z=>by cases z⟩
mutual
def Rep (K:PySem.W.Frag) (H:Hp):D->V->Prop
 | .non,v=>v=.non
 | .bl b,v=>v=.bl b
 | .int i,v=>v=.int i
 | .str x,v=>v=.str x
 | .tup ds,v=>∃ a xs,v=.ref a/\SqT K H a xs/\Reps K H ds xs
 | .lst ds,v=>∃ a xs,v=.ref a/\H a=some (.lst xs)/\Reps K H ds xs
 | .fro ds,v=>∃ a xs,v=.ref a/\SqL K H a xs/\Reps K H ds xs
 | .obj k a ks ds,v=>v=.ref a
 | .cl t a ds,v=>v=.ref a/\∃ cl xs pm ctv c',H a=some (Clo (PySem.W.kla_obj "<lambda>" t.q t.params t.body t.scope cl pm c' ctv))/\H c'=some (.tbl t.q true)/\CloScope t.N t.ps t.scope cl/\CapsOk H t.N t.ps cl xs/\Reps K H ds xs
 | .dct ks ds,v=>∃ a xs,v=.ref a/\(ks.length=xs.length/\∃ o,H a=some (.frz o (.dK (ks.zip xs))))/\Reps K H ds xs
def Reps (K:PySem.W.Frag) (H:Hp):List D->List V->Prop
 | [],vs=>vs=[]
 | d::ds,vs=>∃ v r,vs=v::r/\Rep K H d v/\Reps K H ds r
end
theorem sameT {K:PySem.W.Frag} {H H':Hp} {a:Addr} {xs:List V} (e:Same H H') (h:SqT K H a xs):SqT K H' a xs:=by
 rcases h with (h | ⟨o,h⟩) | h
 ·exact .inl (.inl (e _ _ h))
 ·exact .inl (.inr ⟨o,e _ _ h⟩)
 ·exact .inr h
mutual
theorem Rep.mono {K:PySem.W.Frag} {H H':Hp} (s:Same H H'):∀ {d:D} {v:V},Rep K H d v->Rep K H' d v
 | .non,_,h=>h
 | .bl _,_,h=>h
 | .int _,_,h=>h
 | .str _,_,h=>h
 | .tup ds,_,h=>by
  obtain ⟨a,xs,e,q,r⟩:=h
  exact ⟨a,xs,e,sameT s q,Reps.mono s r⟩
 | .lst ds,_,h=>by
  obtain ⟨a,xs,e,q,r⟩:=h
  exact ⟨a,xs,e,s _ _ q,Reps.mono s r⟩
 | .fro ds,_,h=>by
  obtain ⟨a,xs,e,q,r⟩:=h
  exact ⟨a,xs,e,s.seq q,Reps.mono s r⟩
 | .obj ..,_,h=>h
 | .dct ks ds,_,h=>by
  obtain ⟨a,xs,e,q,r⟩:=h
  exact ⟨a,xs,e,⟨q.1,let ⟨o,z⟩:=q.2;⟨o,s _ _ z⟩⟩,Reps.mono s r⟩
 | .cl t a ds,_,h=>by
  obtain ⟨e,cl,xs,pm,ctv,c',h1,h2,h3,h4,r⟩:=h
  exact ⟨e,cl,xs,pm,ctv,c',s _ _ h1,s _ _ h2,h3,h4.to fun b o z=>s _ _ z,Reps.mono s r⟩
theorem Reps.mono {K:PySem.W.Frag} {H H':Hp} (s:Same H H'):∀ {ds:List D} {vs:List V},Reps K H ds vs->Reps K H' ds vs
 | [],_,h=>h
 | d::ds,_,h=>by
  obtain ⟨v,r,e,q,t⟩:=h
  exact ⟨v,r,e,Rep.mono s q,Reps.mono s t⟩
end
section
variable {K:PySem.W.Frag} {H:Hp}
theorem Reps.length:∀ {ds:List D} {vs:List V},Reps K H ds vs->ds.length=vs.length
 | [],_,h=>by cases (show _=[] from h);rfl
 | d::ds,_,h=>by
  obtain ⟨v,r,e,q,t⟩:=h
  subst e
  simp [Reps.length t]
theorem Reps.get:∀ {ds:List D} {vs:List V} {i:Nat} {d:D},Reps K H ds vs->ds[i]?=some d->∃ v,vs[i]?=some v/\Rep K H d v
 | [],_,_,_,_,e=>by simp at e
 | d::ds,_,0,_,h,e=>by
  obtain ⟨v,r,e',q,t⟩:=h
  subst e'
  simp at e
  subst e
  exact ⟨v,by simp,q⟩
 | d::ds,_,i+1,_,h,e=>by
  obtain ⟨v,r,e',q,t⟩:=h
  subst e'
  obtain ⟨u,h1,h2⟩:=Reps.get (i:=i) t (by simpa using e)
  exact ⟨u,by simpa using h1,h2⟩
theorem Reps.append:∀ {ds es:List D} {vs us:List V},Reps K H ds vs->Reps K H es us->Reps K H (ds++es) (vs++us)
 | [],_,_,_,h,t=>by cases (show _=[] from h);exact t
 | d::ds,_,_,_,h,t=>by
  obtain ⟨v,r,e',q,t'⟩:=h
  subst e'
  exact ⟨v,_,rfl,q,Reps.append t' t⟩
theorem Reps.drop:∀ (n:Nat) {ds:List D} {vs:List V},Reps K H ds vs->Reps K H (ds.drop n) (vs.drop n)
 | 0,_,_,h=>by simpa using h
 | n+1,[],_,h=>by cases (show _=[] from h);exact rfl
 | n+1,d::ds,_,h=>by
  obtain ⟨v,r,e',q,t'⟩:=h
  subst e'
  simpa using Reps.drop n t'
theorem Reps.take:∀ (n:Nat) {ds:List D} {vs:List V},Reps K H ds vs->Reps K H (ds.take n) (vs.take n)
 | 0,_,_,h=>by simp only [List.take_zero];exact rfl
 | n+1,[],_,h=>by cases (show _=[] from h);exact rfl
 | n+1,d::ds,_,h=>by
  obtain ⟨v,r,e',q,t'⟩:=h
  subst e'
  rw [List.take_succ_cons,List.take_succ_cons]
  exact ⟨v,_,rfl,q,Reps.take n t'⟩
theorem Reps.one {d:D} {v:V} (h:Rep K H d v):Reps K H [d] [v]:=⟨v,[],rfl,h,rfl⟩
theorem Reps.nil:Reps K H [] []:=rfl
theorem Reps.cons {d:D} {v:V} {ds:List D} {vs:List V} (h:Rep K H d v) (t:Reps K H ds vs):Reps K H (d::ds) (v::vs):=⟨v,vs,rfl,h,t⟩
theorem Reps.reverse:∀ {ds:List D} {vs:List V},Reps K H ds vs->Reps K H ds.reverse vs.reverse
 | [],_,h=>by cases (show _=[] from h);exact rfl
 | d::ds,_,h=>by
  obtain ⟨v,r,e',q,t'⟩:=h
  subst e'
  rw [List.reverse_cons,List.reverse_cons]
  exact Reps.append (Reps.reverse t') (Reps.one q)
def EnvR (K:PySem.W.Frag) (H:Hp) (ρ:R) (σ:L2.St):Prop:=ρ.length<=σ.length/\∀ (i:Nat) (d:D),ρ[i]?=some (some d)->∃ v,σ[i]?=some (some v)/\Rep K H d v
theorem EnvR.mono {H':Hp} {ρ:R} {σ:L2.St} (e:EnvR K H ρ σ) (s:Same H H'):EnvR K H' ρ σ:=⟨e.1,fun i d h=>let ⟨v,a,b⟩:=e.2 i d h;⟨v,a,b.mono s⟩⟩
theorem EnvR.at {ρ:R} {σ:L2.St} (e:EnvR K H ρ σ) {i:Nat} {d:D} (h:vAt i ρ=some d):∃ v,σ[i]?=some (some v)/\Rep K H d v:=by
 refine e.2 i d ?_
 unfold vAt at h
 rw [List.getD_eq_getElem?_getD] at h
 cases q:ρ[i]? with
 | none=>rw [q] at h;cases h
 | some o=>rw [q] at h;cases (show o=some d from h);rfl
theorem EnvR.set {ρ:R} {σ:L2.St} (e:EnvR K H ρ σ) {i:Nat} {d:D} {v:V} (r:Rep K H d v):EnvR K H (ρ.set i (some d)) (σ.set i (some v)):=by
 refine ⟨by simpa using e.1,fun j c h=>?_⟩
 by_cases hj:i=j
 ·subst hj
  by_cases hi:i<ρ.length
  ·rw [List.getElem?_set_self hi] at h
   cases h
   exact ⟨v,by rw [List.getElem?_set_self (Nat.lt_of_lt_of_le hi e.1)],r⟩
  ·rw [List.getElem?_eq_none (by simpa using hi)] at h
   cases h
 ·rw [List.getElem?_set_ne hj] at h ⊢
  exact e.2 j c h
theorem EnvR.front {ρ:R} {σ:L2.St} (e:EnvR K H ρ σ) (k:Nat) (τ:L2.St) (hk:τ.length=k):EnvR K H (List.replicate k none++ρ) (τ++σ):=by
 subst hk
 refine ⟨by simpa using e.1,fun i d h=>?_⟩
 by_cases hi:i<τ.length
 ·rw [List.getElem?_append_left (by simpa using hi),List.getElem?_replicate] at h
  split at h<;>cases h
 ·rw [List.getElem?_append_right (by simpa using hi),List.length_replicate] at h
  rw [List.getElem?_append_right (by simpa using hi)]
  exact e.2 _ d h
end
def EnvT (K:PySem.W.Frag) (H:Hp) (ρ:R) (τ:L2.St) (σ:L2.St):Prop:=EnvR K H ρ σ/\σ.drop ρ.length=τ
theorem EnvR.t {K:PySem.W.Frag} {H:Hp} {ρ:R} {σ:L2.St} (e:EnvR K H ρ σ):EnvT K H ρ (σ.drop ρ.length) σ:=⟨e,rfl⟩
theorem EnvT.mono {K:PySem.W.Frag} {H H':Hp} {ρ:R} {τ σ:L2.St} (e:EnvT K H ρ τ σ) (s:Same H H'):EnvT K H' ρ τ σ:=⟨e.1.mono s,e.2⟩
theorem EnvT.set {K:PySem.W.Frag} {H:Hp} {ρ:R} {τ σ:L2.St} (e:EnvT K H ρ τ σ) {i:Nat} {d:D} {v:V} (hi:i<ρ.length) (r:Rep K H d v):EnvT K H (ρ.set i (some d)) τ (σ.set i (some v)):=by
 refine ⟨e.1.set r,?_⟩
 rw [List.length_set,List.drop_set_of_lt hi]
 exact e.2
section
variable (K:PySem.W.Frag)
def tD (f:R->Option D):TE:=fun σ H Q=>∃ ρ d,EnvR K H ρ σ/\f ρ=some d/\∀ v H',Same H H'->Rep K H' d v->Q v H'
def tDT (f:R->Option Bool):TT:=fun σ H Q=>∃ ρ b,EnvR K H ρ σ/\f ρ=some b/\∀ H',Same H H'->Q b H'
def tDA (f:R->Option (List D)):TA:=fun σ H Q=>∃ ρ ds,EnvR K H ρ σ/\f ρ=some ds/\∀ vs H',Same H H'->Reps K H' ds vs->Q vs H'
def tDO (f:R->Option (Option Int)):TO:=fun σ H Q=>∃ ρ o,EnvR K H ρ σ/\f ρ=some o/\∀ H',Same H H'->Q o H'
def fin (E:Ends) (τ:L2.St) (o:Out) (H':Hp):Prop :=
 match o with
 | .nx ρ=>∀ σ,EnvT K H' ρ τ σ->E.nx σ H'
 | .rt d=>∀ v,Rep K H' d v->E.rt v H'
 | .bk ρ=>∀ σ,EnvT K H' ρ τ σ->E.bk σ H'
 | .ct ρ=>∀ σ,EnvT K H' ρ τ σ->E.ct σ H'
def tDS (f:R->Option Out):TS:=fun E σ H=>∃ ρ τ o,EnvT K H ρ τ σ/\f ρ=some o/\∀ H',Same H H'->fin K E τ o H'
def tDG (st:D->R->Option R):TG:=fun v σ H Q=>∃ ρ τ d ρ',EnvT K H ρ τ σ/\Rep K H d v/\st d ρ=some ρ'/\∀ σ' H',Same H H'->EnvT K H' ρ' τ σ'->Q σ' H'
def Kp (H H':Hp):Prop:=∀ b u,H b=some u->(∀ φ,u≠.ext φ)->H' b=some u
def Yields (J:It) (ds:List D) (H:Hp):Prop :=
 (∀ (i:Nat) (d:D) (H2:Hp),Kp H H2->ds[i]?=some d->J.go i H2/\∀ x H3,J.yld i H2 x H3->Same H2 H3/\Rep K H3 d x)/\∀ (i:Nat) (H2:Hp),Kp H H2->ds.length<=i->J.stop i H2
def tDI (f:R->Option (List D)):TI:=fun σ H W=>∃ ρ ds,EnvR K H ρ σ/\f ρ=some ds/\∀ J H',Same H H'->Yields K J ds H'->W J H'
def spD (F:List D->Option D):Sp:=fun vs H Q _=>∃ ds d,Reps K H ds vs/\F ds=some d/\∀ v H',Same H H'->Rep K H' d v->Q v H'
end
def SE (X:Cx) (e:Expr) (f:R->Option D):Prop:=PE X e (tD X.K f)
def ST (X:Cx) (e:Expr) (f:R->Option Bool):Prop:=PT X e (tDT X.K f)
def SW (X:Cx) (e:Expr) (f:R->Option Bool):Prop:=PW X e (tDT X.K f)
def noStar:Expr->Bool
 | .Starred _ _=>false
 | _=>true
theorem ay {e:Expr} (es:List Expr) (env:Env) (h:noStar e=true):starEach (e::es) env=(false,eval e env)::starEach es env:=by
 cases e<;>first | rfl | cases h
theorem bS {pos:Pos} {env:Env}:∀ {es:List Expr},es.all noStar=true->(backTo pos (starEach es env)).any (·.1)=false
 | [],_=>rfl
 | e::es,h=>by
  rw [List.all_cons,Bool.and_eq_true] at h
  rw [ay es env h.1]
  show (false||(backTo pos (starEach es env)).any (·.1))=false
  rw [bS h.2]
  rfl
def SA (X:Cx) (es:List Expr) (f:R->Option (List D)):Prop:=PA X es (tDA X.K f)/\(∀ ρ ds,f ρ=some ds->ds.length=es.length)/\es.all noStar=true
def SO (X:Cx) (e:Option Expr) (f:R->Option (Option Int)):Prop:=PO X e (tDO X.K f)
def S1 (X:Cx) (s:Stmt) (f:R->Option Out):Prop:=PS X s (tDS X.K f)
def SS (X:Cx) (s:List Stmt) (f:R->Option Out):Prop:=PSs X s (tDS X.K f)
def SG (X:Cx) (e:Expr) (st:D->R->Option R):Prop:=PG X e (tDG X.K st)
def SI (X:Cx) (tg iter:Expr) (f:R->Option (List D)):Prop:=PI X tg iter (tDI X.K f)
section
variable {X:Cx} {e a b c:Expr} {es:List Expr} {pos p:Pos}
theorem _root_.L2.PE.imp {t t':TE} (h:PE X e t) (hi:∀ σ H Q,t' σ H Q->t σ H Q):PE X e t':=fun pins s σ H Q I q=>h pins s σ H Q I (hi σ H Q q)
theorem _root_.L2.PT.imp {t t':TT} (h:PT X e t) (hi:∀ σ H Q,t' σ H Q->t σ H Q):PT X e t':=fun pins s σ H Q I q=>h pins s σ H Q I (hi σ H Q q)
theorem _root_.L2.PW.imp {t t':TT} (h:PW X e t) (hi:∀ σ H Q,t' σ H Q->t σ H Q):PW X e t':=fun wh pins s σ H Q I q=>h wh pins s σ H Q I (hi σ H Q q)
theorem _root_.L2.PA.imp {t t':TA} (h:PA X es t) (hi:∀ σ H Q,t' σ H Q->t σ H Q):PA X es t':=fun pos pins s σ H Q I q=>h pos pins s σ H Q I (hi σ H Q q)
theorem _root_.L2.PO.imp {e:Option Expr} {t t':TO} (h:PO X e t) (hi:∀ σ H Q,t' σ H Q->t σ H Q):PO X e t':=fun pins s σ H Q I q=>h pins s σ H Q I (hi σ H Q q)
theorem _root_.L2.PS.imp {s:Stmt} {t t':TS} (h:PS X s t) (hi:∀ E σ H,t' E σ H->t E σ H):PS X s t':=fun pins s σ H E I q=>h pins s σ H E I (hi E σ H q)
theorem _root_.L2.PSs.imp {s:List Stmt} {t t':TS} (h:PSs X s t) (hi:∀ E σ H,t' E σ H->t E σ H):PSs X s t':=fun pins s σ H E I q=>h pins s σ H E I (hi E σ H q)
theorem _root_.L2.PG.imp {t t':TG} (h:PG X e t) (hi:∀ v σ H Q,t' v σ H Q->t v σ H Q):PG X e t':=fun pins s σ H v u Q I r q=>h pins s σ H v u Q I r (hi v σ H Q q)
theorem _root_.L2.PGs.imp {t t':TGs} (h:PGs X es t) (hi:∀ v σ H Q,t' v σ H Q->t v σ H Q):PGs X es t':=fun pins s σ H v u Q I r q=>h pins s σ H v u Q I r (hi v σ H Q q)
theorem _root_.L2.PI.imp {tg:Expr} {t t':TI} (h:PI X tg e t) (hi:∀ σ H Q,t' σ H Q->t σ H Q):PI X tg e t':=fun pins s σ H W I q=>h pins s σ H W I (hi σ H W q)
theorem bindS {α β:Type} {o:Option α} {f:α->Option β} {y:β} (h:o.bind f=some y):∃ x,o=some x/\f x=some y:=by
 cases o with
 | none=>cases h
 | some x=>exact ⟨x,rfl,h⟩
theorem mapS {α β:Type} {o:Option α} {f:α->β} {y:β} (h:o.map f=some y):∃ x,o=some x/\f x=y:=by
 cases o with
 | none=>cases h
 | some x=>exact ⟨x,rfl,Option.some.inj h⟩
theorem ac (i:Nat) {x:Str} (hN:X.N[i]?=some x:=by rfl) (hv:Vis X.env.scope x:=by first | exact Or.inl rfl | exact Or.inr (Or.inl rfl) | exact Or.inr (Or.inr rfl)) (hd:(x==("__debug__" : Str))=false:=by decide)
  (hcd:(x==("__classdict__" : Str))=false:=by decide):SE X (.Name x pos) (vAt i):=(iq hN hv hd hcd).imp fun σ H Q ⟨ρ,d,er,e,q⟩=>by
 obtain ⟨v,h1,h2⟩:=er.at e
 exact ⟨v,h1,q v H (Same.refl H) h2⟩
theorem ae {i j}:SE X (.Constant (.int i) j pos) (fun _=>some (.int i)):=pe_int.imp fun σ H Q ⟨ρ,d,er,e,q⟩=>by
 cases e
 exact q _ H (Same.refl H) rfl
theorem dB {b j}:SE X (.Constant (.bool b) j pos) (fun _=>some (.bl b)):=pe_bl.imp fun σ H Q ⟨ρ,d,er,e,q⟩=>by
 cases e
 exact q _ H (Same.refl H) rfl
theorem ai {x j}:SE X (.Constant (.str x) j pos) (fun _=>some (.str x)):=pe_str.imp fun σ H Q ⟨ρ,d,er,e,q⟩=>by
 cases e
 exact q _ H (Same.refl H) rfl
def Con (K:PySem.W.Frag) (mg:Str->Option Value) (x:Str) (d:D):Prop:=∃ u v,mg x=some u/\RelV v u/\∀ H,Rep K H d v
theorem aQ {x:Str} {d:D} (h:Con X.K X.mg x d) (hg:Gl X x:=by rfl) (hd:(x==("__debug__" : Str))=false:=by decide):SE X (.Name x pos) (fun _=>some d):=by
 obtain ⟨u,v,hm,r,hr⟩:=h
 exact (mM hg hm r hd).imp fun σ H Q ⟨ρ,d',er,e,q⟩=>by
  cases e
  exact q v H (Same.refl H) (hr H)
def OpD (X:Cx) (f:Value->Value->Sem Value) (F:D->D->Option D):Prop :=
 OpR X f fun x y H Q=>∃ dx dy d,Rep X.K H dx x/\Rep X.K H dy y/\F dx dy=some d/\∀ v H',Same H H'->Rep X.K H' d v->Q v H'
def CmD (X:Cx) (op:CmpOp) (F:D->D->Option Bool):Prop :=
 OpR X (compareOp op) fun x y H Q=>∃ dx dy b,Rep X.K H dx x/\Rep X.K H dy y/\F dx dy=some b/\Q (.bl b) H
def UnD (X:Cx) (f:Value->Sem Value) (F:D->Option D):Prop :=
 UnR X f fun x H Q=>∃ dx d,Rep X.K H dx x/\F dx=some d/\∀ v H',Same H H'->Rep X.K H' d v->Q v H'
def CaD (X:Cx) (f:Value) (F:List D->Option D):Prop :=
 CallR X f fun xs H Q=>∃ ds d,Reps X.K H ds xs/\F ds=some d/\∀ v H',Same H H'->Rep X.K H' d v->Q v H'
theorem _root_.L2.OpR.imp {f:Value->Value->Sem Value} {r r':R2} (h:OpR X f r) (hi:∀ x y H Q,r' x y H Q->r x y H Q):OpR X f r':=fun pins s σ H x y v u Q I rx ry q=>h pins s σ H x y v u Q I rx ry (hi x y H Q q)
theorem _root_.L2.UnR.imp {f:Value->Sem Value} {r r':V->Hp->VK->Prop} (h:UnR X f r) (hi:∀ x H Q,r' x H Q->r x H Q):UnR X f r':=fun pins s σ H x v Q I rx q=>h pins s σ H x v Q I rx (hi x H Q q)
theorem _root_.L2.CallR.imp {f:Value} {r r':List V->Hp->VK->Prop} (h:CallR X f r) (hi:∀ x H Q,r' x H Q->r x H Q):CallR X f r':=fun pins s σ H xs us Q I rx q=>h pins s σ H xs us Q I rx (hi xs H Q q)
variable {f g h:R->Option D}
theorem two {σ:L2.St} {H:Hp} {Q:VK} {F:D->D->Option D} (q:tD X.K (op2 F f g) σ H Q) :
  tD X.K f σ H fun x H1=>tD X.K g σ H1 fun y H2=>∃ dx dy d,Rep X.K H2 dx x/\Rep X.K H2 dy y/\F dx dy=some d/\∀ v H',Same H2 H'->Rep X.K H' d v->Q v H':=by
 obtain ⟨ρ,d,er,e,q⟩:=q
 obtain ⟨x,e1,e⟩:=bindS e
 obtain ⟨y,e2,e⟩:=bindS e
 exact ⟨ρ,x,er,e1,fun v H1 s1 r1=>⟨ρ,y,er.mono s1,e2,fun u H2 s2 r2=>⟨x,y,d,r1.mono s2,r2,e,fun w H3 s3 r3=>q w H3 (s1.trans (s2.trans s3)) r3⟩⟩⟩
theorem af {op:Operator} {F:D->D->Option D} (ho:OpD X (binaryOp op) F) (ha:SE X a f) (hb:SE X b g):SE X (.BinOp a op b pos) (op2 F f g):=(oA ho ha hb).imp fun σ H Q q=>two q
theorem kX {op:UnaryOp} {F:D->Option D} (ho:UnD X (unaryOp op) F) (ha:SE X a f):SE X (.UnaryOp op a pos) (op1 F f):=(oG ho ha).imp fun σ H Q ⟨ρ,d,er,e,q⟩=>by
 obtain ⟨x,e1,e⟩:=bindS e
 exact ⟨ρ,x,er,e1,fun v H1 s1 r1=>⟨x,d,r1,e,fun w H2 s2 r2=>q w H2 (s1.trans s2) r2⟩⟩
theorem twoB {σ:L2.St} {H:Hp} {Q:Bool->Hp->Prop} {F:D->D->Option Bool} (q:tDT X.K (cmp2 F f g) σ H Q) :
  tD X.K f σ H fun x H1=>tD X.K g σ H1 fun y H2=>∃ dx dy b,Rep X.K H2 dx x/\Rep X.K H2 dy y/\F dx dy=some b/\Q b H2:=by
 obtain ⟨ρ,d,er,e,q⟩:=q
 obtain ⟨x,e1,e⟩:=bindS e
 obtain ⟨y,e2,e⟩:=bindS e
 exact ⟨ρ,x,er,e1,fun v H1 s1 r1=>⟨ρ,y,er.mono s1,e2,fun u H2 s2 r2=>⟨x,y,d,r1.mono s2,r2,e,q H2 (s1.trans s2)⟩⟩⟩
theorem asV_of {σ:L2.St} {H:Hp} {Q:VK} {f:R->Option Bool} (q:tD X.K (asV f) σ H Q):tDT X.K f σ H fun b H'=>Q (.bl b) H':=by
 obtain ⟨ρ,d,er,e,q⟩:=q
 obtain ⟨x,e1,e⟩:=mapS e
 subst e
 exact ⟨ρ,x,er,e1,fun H1 s1=>q _ H1 s1 rfl⟩
theorem cG {op:CmpOp} {F:D->D->Option Bool} (ho:CmD X op F) (ha:SE X a f) (hb:SE X b g) (hm:behindInMarks op b=false:=by first | exact nomark _ | with_unfolding_all rfl) :
  SE X (.Compare a [op] [b] pos) (asV (cmp2 F f g)):=(mV ho ha hb hm).imp fun σ H Q q=>twoB (asV_of q)
theorem aO {op:CmpOp} {F:D->D->Option Bool} (ho:CmD X op F) (ha:SE X a f) (hb:SE X b g) (hm:behindInMarks op b=false:=by first | exact nomark _ | with_unfolding_all rfl) :
  ST X (.Compare a [op] [b] pos) (cmp2 F f g):=(mI ho ha hb hm).imp fun σ H Q q=>by
 obtain ⟨ρ,d,er,e,q⟩:=q
 obtain ⟨x,e1,e⟩:=bindS e
 obtain ⟨y,e2,e⟩:=bindS e
 exact ⟨ρ,x,er,e1,fun v H1 s1 r1=>⟨ρ,y,er.mono s1,e2,fun u H2 s2 r2=>⟨x,y,d,r1.mono s2,r2,e,d,rfl,q H2 (s1.trans s2)⟩⟩⟩
theorem chain_of {σ:L2.St} {H:Hp} {Q:Bool->Hp->Prop} {F G:D->D->Option Bool} {Qv:VK} (hQ:∀ b H',Q b H'->Qv (.bl b) H') (q:tDT X.K (cmp3 F G f g h) σ H Q) :
  tChain (fun x y H Q=>∃ dx dy b,Rep X.K H dx x/\Rep X.K H dy y/\F dx dy=some b/\Q (.bl b) H) (fun x y H Q=>∃ dx dy b,Rep X.K H dx x/\Rep X.K H dy y/\G dx dy=some b/\Q (.bl b) H)
   (tD X.K f) (tD X.K g) (tD X.K h) σ H Qv:=by
 obtain ⟨ρ,d,er,e,q⟩:=q
 obtain ⟨x,e1,e⟩:=bindS e
 obtain ⟨y,e2,e⟩:=bindS e
 obtain ⟨k,e3,e⟩:=bindS e
 refine ⟨ρ,x,er,e1,fun v H1 s1 r1=>⟨ρ,y,er.mono s1,e2,fun u H2 s2 r2=>⟨x,y,k,r1.mono s2,r2,e3,k,rfl,?_⟩⟩⟩
 cases k with
 | false =>
  cases e
  rw [if_neg Bool.false_ne_true]
  exact hQ _ _ (q H2 (s1.trans s2))
 | true =>
  rw [if_pos rfl] at e ⊢
  obtain ⟨z,e4,e⟩:=bindS e
  exact ⟨ρ,z,er.mono (s1.trans s2),e4,fun w' H3 s3 r3=>⟨y,z,d,r2.mono s3,r3,e,hQ _ _ (q H3 (s1.trans (s2.trans s3)))⟩⟩
theorem jm {op op':CmpOp} {F G:D->D->Option Bool} (ho:CmD X op F) (ho':CmD X op' G) (ha:SE X a f) (hb:SE X b g) (hc:SE X c h) (hm:lastMarks [op,op'] [b,c]=false:=by with_unfolding_all rfl) :
  ST X (.Compare a [op,op'] [b,c] pos) (cmp3 F G f g h):=(lX ho ho' ha hb hc hm).imp fun σ H Q q=>chain_of (Qv:=fun x H'=>∃ k,x=.bl k/\Q k H') (fun b _ z=>⟨b,rfl,z⟩) q
theorem truV_of {H:Hp} {d:D} {v:V} {b:Bool} {K:PySem.W.Frag} (r:Rep K H d v) (e:dTru d=some b):TruV K v H b:=by
 cases d with
 | non=>cases (show v=_ from r);cases e;exact rfl
 | bl c=>cases (show v=_ from r);cases e;exact rfl
 | int i=>cases (show v=_ from r);cases e;exact rfl
 | str x =>
  cases (show v=_ from r)
  unfold dTru at e
  dsimp only at e
  split at e
  ·rename_i hx
   cases e
   exact ⟨hx,rfl⟩
  ·cases e
 | tup ds =>
  obtain ⟨a,xs,rfl,q,t⟩:=r
  cases e
  refine .inr (.inl ⟨xs,q,?_⟩)
  cases ds with
  | nil=>cases (show xs=[] from t);rfl
  | cons d ds=>obtain ⟨_,_,rfl,_⟩:=t;rfl
 | lst ds =>
  obtain ⟨a,xs,rfl,q,t⟩:=r
  cases e
  refine .inl ⟨xs,SqL.of q,?_⟩
  cases ds with
  | nil=>cases (show xs=[] from t);rfl
  | cons d ds=>obtain ⟨_,_,rfl,_⟩:=t;rfl
 | fro ds =>
  obtain ⟨a,xs,rfl,q,t⟩:=r
  cases e
  refine .inl ⟨xs,q,?_⟩
  cases ds with
  | nil=>cases (show xs=[] from t);rfl
  | cons d ds=>obtain ⟨_,_,rfl,_⟩:=t;rfl
 | obj k a ks ds=>cases e
 | dct ks ds=>cases e
 | cl t a ds=>cases e
theorem dX (ha:SE X a f) (he:∀ whole,isTrue a X.env whole=(do let v <- whole;standAt a.pos;holding [v] (truthy v)):=by intro _;rfl):ST X a (truT f):=(mC ha he).imp fun σ H Q ⟨ρ,b,er,e,q⟩=>by
 obtain ⟨x,e1,e⟩:=bindS e
 exact ⟨ρ,x,er,e1,fun v H1 s1 r1=>⟨b,truV_of r1 e,q H1 s1⟩⟩
variable {s t:R->Option Bool} {rest:List Expr}
theorem fO {e:Expr} (h:SW X e s):ST X e s:=PW.pt h
theorem fX (ha:ST X a s):SW X (.BoolOp .And [a] pos) s:=pw_and1 ha
theorem iY (ha:ST X a s):SW X (.BoolOp .Or [a] pos) s:=pw_or1 ha
theorem iy (ha:ST X a s) (hb:SW X (.BoolOp .And (b::rest) pos) t):SW X (.BoolOp .And (a::b::rest) pos) (andT s t):=(pw_and ha hb).imp fun σ H Q ⟨ρ,k,er,e,q⟩=>by
 obtain ⟨x,e1,e⟩:=bindS e
 refine ⟨ρ,x,er,e1,fun H1 s1=>?_⟩
 cases x with
 | false=>cases e;rw [if_neg Bool.false_ne_true];exact q H1 s1
 | true=>rw [if_pos rfl] at e ⊢;exact ⟨ρ,k,er.mono s1,e,fun H2 s2=>q H2 (s1.trans s2)⟩
theorem gS (ha:ST X a s) (hb:SW X (.BoolOp .Or (b::rest) pos) t):SW X (.BoolOp .Or (a::b::rest) pos) (orT s t):=(pw_or ha hb).imp fun σ H Q ⟨ρ,k,er,e,q⟩=>by
 obtain ⟨x,e1,e⟩:=bindS e
 refine ⟨ρ,x,er,e1,fun H1 s1=>?_⟩
 cases x with
 | true=>cases e;rw [if_pos rfl];exact q H1 s1
 | false=>rw [if_neg Bool.false_ne_true] at e ⊢;exact ⟨ρ,k,er.mono s1,e,fun H2 s2=>q H2 (s1.trans s2)⟩
theorem eK (ha:ST X a s):ST X (.UnaryOp .Not a pos) (notT s):=(nz ha).imp fun σ H Q ⟨ρ,k,er,e,q⟩=>by
 obtain ⟨x,e1,e⟩:=mapS e
 subst e
 exact ⟨ρ,x,er,e1,fun H1 s1=>q H1 s1⟩
theorem cB {op} (ha:SE X a f):SE X (.BoolOp op [a] pos) f:=og ha
theorem bH (ha:SE X a f) (hb:SE X (.BoolOp .And (b::rest) pos) g):SE X (.BoolOp .And (a::b::rest) pos) (andV f g):=(oi ha hb).imp fun σ H Q ⟨ρ,d,er,e,q⟩=>by
 obtain ⟨x,e1,e⟩:=bindS e
 refine ⟨ρ,x,er,e1,fun v H1 s1 r1=>?_⟩
 cases x with
 | bl c =>
  cases (show v=_ from r1)
  refine ⟨c,rfl,?_⟩
  cases c with
  | false=>cases e;rw [if_neg Bool.false_ne_true];exact q _ H1 s1 rfl
  | true=>rw [if_pos rfl];exact ⟨ρ,d,er.mono s1,e,fun v H2 s2 r2=>q v H2 (s1.trans s2) r2⟩
 | _=>cases e
theorem nQ (ha:SE X a f):SE X (.UnaryOp .Not a pos) (notV f):=(nL ha).imp fun σ H Q ⟨ρ,d,er,e,q⟩=>by
 obtain ⟨x,e1,e⟩:=bindS e
 refine ⟨ρ,x,er,e1,fun v H1 s1 r1=>?_⟩
 cases x with
 | bl c =>
  cases (show v=_ from r1)
  cases e
  exact ⟨c,rfl,q _ H1 s1 rfl⟩
 | _=>cases e
theorem oB (hc:ST X c s) (ha:SE X a f) (hb:SE X b g):SE X (.IfExp c a b pos) (ifE s f g):=(lV hc ha hb).imp fun σ H Q ⟨ρ,d,er,e,q⟩=>by
 obtain ⟨x,e1,e⟩:=bindS e
 refine ⟨ρ,x,er,e1,fun H1 s1=>?_⟩
 cases x with
 | true=>rw [if_pos rfl] at e ⊢;exact ⟨ρ,d,er.mono s1,e,fun v H2 s2 r2=>q v H2 (s1.trans s2) r2⟩
 | false=>rw [if_neg Bool.false_ne_true] at e ⊢;exact ⟨ρ,d,er.mono s1,e,fun v H2 s2 r2=>q v H2 (s1.trans s2) r2⟩
variable {F:R->Option (List D)}
theorem ad:SA X [] argN:=⟨pa_nil.imp fun σ H Q ⟨ρ,d,er,e,q⟩=>by cases e;exact q [] H (Same.refl H) rfl,fun ρ ds e=>by cases e;rfl,rfl⟩
theorem aa (ha:SE X e f) (hr:SA X es F) (hs:noStar e=true:=by rfl):SA X (e::es) (argC f F):=⟨(eR ha hr.1 (ay es X.env hs)).imp fun σ H Q ⟨ρ,ds,er,e,q⟩=>by
 obtain ⟨x,e1,e⟩:=bindS e
 obtain ⟨y,e2,e⟩:=mapS e
 subst e
 exact ⟨ρ,x,er,e1,fun v H1 s1 r1=>⟨ρ,y,er.mono s1,e2,fun vs H2 s2 r2=>q _ H2 (s1.trans s2) (Reps.cons (r1.mono s2) r2)⟩⟩,fun ρ ds e=>by
 obtain ⟨x,e1,e⟩:=bindS e
 obtain ⟨y,e2,e⟩:=mapS e
 subst e
 simp [hr.2.1 ρ y e2],by rw [List.all_cons,hs,hr.2.2];rfl⟩
theorem bt {H:Hp} {p:Addr} (h:H p=none) (o:HO):Same H (upd H p o):=fun b u q=>by rw [aq (ne_of_none q h)];exact q
theorem aU {k} (h:SA X es F) (hl:Nat.ble es.length 1000=true:=by rfl):SE X (.Tuple es k pos) (tupD F):=(mm h.1).imp fun σ H Q ⟨ρ,d,er,e,q⟩=>by
 obtain ⟨ds,e1,e⟩:=mapS e
 subst e
 refine ⟨ρ,ds,er,e1,fun vs H1 s1 r1=>⟨?_,fun p hp=>?_⟩⟩
 ·rw [<- r1.length,h.2.1 ρ ds e1];exact Nat.le_of_lt (small1000 (Nat.le_of_ble_eq_true hl))
 ·have s2:=bt hp (.tup vs)
  exact q _ _ (s1.trans s2) ⟨p,vs,rfl,SqT.of ar,r1.mono s2⟩
theorem mi (h:SA X es F) (hl:Nat.ble es.length 1000=true:=by rfl):SE X (.List es pos) (lstD F):=(mf h.1).imp fun σ H Q ⟨ρ,d,er,e,q⟩=>by
 obtain ⟨ds,e1,e⟩:=mapS e
 subst e
 refine ⟨ρ,ds,er,e1,fun vs H1 s1 r1=>⟨?_,fun p hp=>?_⟩⟩
 ·rw [<- r1.length,h.2.1 ρ ds e1];exact Nat.le_of_lt (small1000 (Nat.le_of_ble_eq_true hl))
 ·have s2:=bt hp (.lst vs)
  exact q _ _ (s1.trans s2) ⟨p,vs,rfl,ar,r1.mono s2⟩
structure Cal (P:Program) (w:World) (K:PySem.W.Frag) (mg:Str->Option Value) (base:Heap) (k:Nat) (x:Str) (ps:List Str) (F:List D->Option D):Prop where
 ex:∃ f fd,FnOk P w K mg base CX0 k f fd ps (spD K F)/\mg x=some (.ref f)/\PySem.W.keepIn K (.ref f)=true/\Binds K fd ps []
theorem Cal.mono {P:Program} {w:World} {K:PySem.W.Frag} {mg:Str->Option Value} {base:Heap} {j k:Nat} {x:Str} {ps:List Str} {F:List D->Option D} (h:Cal P w K mg base j x ps F) (hk:j<=k):Cal P w K mg base k x ps F:=by
 obtain ⟨f,fd,a,b⟩:=h.ex
 exact ⟨f,fd,a.mono hk,b⟩
theorem Cal.imp {P:Program} {w:World} {K:PySem.W.Frag} {mg:Str->Option Value} {base:Heap} {k:Nat} {x:Str} {ps:List Str} {F G:List D->Option D} (h:Cal P w K mg base k x ps F) (hi:∀ ds d,G ds=some d->F ds=some d):Cal P w K mg base k x ps G:=by
 obtain ⟨f,fd,a,b⟩:=h.ex
 exact ⟨f,fd,a.imp fun vs H Q E ⟨ds,d,r,e,q⟩=>⟨ds,d,r,hi ds d e,q⟩,b⟩
theorem al {k:Nat} {x:Str} {ps:List Str} {G:List D->Option D} (C:Cal X.prog X.w X.K X.mg X.base k x ps G) (hr:Room k X.A) (ha:SA X (e::es) F) (hg:Gl X x:=by rfl)
  (hdb:(x==("__debug__" : Str))=false:=by decide) :
  SE X (.Call (.Name x p) (e::es) [] pos) (callD G F):=by
 have hst:=ha.2.2
 rw [List.all_cons,Bool.and_eq_true] at hst
 have he:=ay es X.env hst.1
 have hpl:=bS (pos:=pos) (env:=X.env) hst.2
 obtain ⟨f,fd,a,m,kp,bd⟩:=C.ex
 refine (lb a hr hg m kp bd .nil pass0 ha.1 hdb he hpl).imp fun σ H Q ⟨ρ,d,er,e,q⟩=>?_
 obtain ⟨ds,e1,e⟩:=bindS e
 exact ⟨ρ,ds,er,e1,fun vs H1 s1 r1=>⟨ds,d,by rw [List.append_nil];exact r1,e,fun v H2 s2 r2=>q v H2 (s1.trans s2) r2⟩⟩
theorem az {x:Str} {id:String} {G:List D->Option D} (hc:CaD X (.builtin id) G) (hm:X.mg x=none) (ha:SA X (e::es) F) (hv:bootBuiltins x=some (.builtin id):=by kernel_rfl) (hg:Gl X x:=by rfl) (hn:x ≠ "__name__":=by decide) (hdb:(x==("__debug__" : Str))=false:=by decide):SE X (.Call (.Name x p) (e::es) [] pos) (callD G F) :=
 (jg hc hg hm hv ha.1 hn hdb (ay es X.env (List.all_eq_true.mp ha.2.2 e List.mem_cons_self)) (bS (List.all_eq_true.mpr fun x hx=>List.all_eq_true.mp ha.2.2 x (List.mem_cons_of_mem _ hx)))).imp fun σ H Q ⟨ρ,d,er,e,q⟩=>by
  obtain ⟨ds,e1,e⟩:=bindS e
  exact ⟨ρ,ds,er,e1,fun vs H1 s1 r1=>⟨ds,d,r1,e,fun v H2 s2 r2=>q v H2 (s1.trans s2) r2⟩⟩
theorem bu {x:Str} {T:String} {G:List D->Option D} (hc:CaD X (.type T) G) (hm:X.mg x=none) (ha:SA X (e::es) F) (hv:bootBuiltins x=some (.type T):=by kernel_rfl) (hg:Gl X x:=by rfl) (hn:x ≠ "__name__":=by decide) (hdb:(x==("__debug__" : Str))=false:=by decide):SE X (.Call (.Name x p) (e::es) [] pos) (callD G F) :=
 (gU hc hg hm hv ha.1 hn hdb (ay es X.env (List.all_eq_true.mp ha.2.2 e List.mem_cons_self)) (bS (List.all_eq_true.mpr fun x hx=>List.all_eq_true.mp ha.2.2 x (List.mem_cons_of_mem _ hx)))).imp fun σ H Q ⟨ρ,d,er,e,q⟩=>by
  obtain ⟨ds,e1,e⟩:=bindS e
  exact ⟨ρ,ds,er,e1,fun vs H1 s1 r1=>⟨ds,d,r1,e,fun v H2 s2 r2=>q v H2 (s1.trans s2) r2⟩⟩
def IxD (X:Cx) (F:D->D->Option D):Prop:=IxR X fun x y H Q=>∃ dx dy d,Rep X.K H dx x/\Rep X.K H dy y/\F dx dy=some d/\∀ v H',Same H H'->Rep X.K H' d v->Q v H'
theorem _root_.L2.IxR.imp {r r':R2} (h:IxR X r) (hi:∀ x y H Q,r' x y H Q->r x y H Q):IxR X r':=fun value slice pins s σ H x y v u Q I rx ry q hs=>h value slice pins s σ H x y v u Q I rx ry (hi x y H Q q) hs
theorem ixD_eq (n:Nat) (i:Int):ixD n i=ixN n i:=rfl
theorem atD_rep {K:PySem.W.Frag} {H:Hp} {ds:List D} {xs:List V} {i:Int} {d:D} (r:Reps K H ds xs) (e:atD ds i=some d):∃ v,atI xs i=some v/\Rep K H d v:=by
 obtain ⟨j,e1,e2⟩:=bindS e
 obtain ⟨v,h1,h2⟩:=r.get e2
 refine ⟨v,?_,h2⟩
 unfold atI
 rw [<- r.length,<- ixD_eq,e1]
 exact h1
theorem ix_d:IxD X dIx:=(ix_list.or (ix_tup.or ix_str)).imp fun x y H Q ⟨dx,dy,d,r1,r2,e,q⟩=>by
 cases dx with
 | tup ds =>
  cases dy with
  | int i =>
   obtain ⟨a,xs,e1,hq,t⟩:=r1
   cases (show y=_ from r2)
   obtain ⟨v,h1,h2⟩:=atD_rep t e
   exact .inr (.inl ⟨a,xs,i,v,e1,rfl,hq,h1,q v H (Same.refl H) h2⟩)
  | _=>cases e
 | lst ds =>
  cases dy with
  | int i =>
   obtain ⟨a,xs,e1,hq,t⟩:=r1
   cases (show y=_ from r2)
   obtain ⟨v,h1,h2⟩:=atD_rep t e
   exact .inl ⟨a,xs,i,v,e1,rfl,SqL.of hq,h1,q v H (Same.refl H) h2⟩
  | _=>cases e
 | fro ds =>
  cases dy with
  | int i =>
   obtain ⟨a,xs,e1,hq,t⟩:=r1
   cases (show y=_ from r2)
   obtain ⟨v,h1,h2⟩:=atD_rep t e
   exact .inl ⟨a,xs,i,v,e1,rfl,hq,h1,q v H (Same.refl H) h2⟩
  | _=>cases e
 | str z =>
  cases dy with
  | int i =>
   cases (show x=_ from r1)
   cases (show y=_ from r2)
   unfold dIx at e
   dsimp only at e
   split at e
   ·rename_i hz
    obtain ⟨c,e1,e2⟩:=mapS e
    subst e2
    exact .inr (.inr ⟨z,i,c,rfl,rfl,hz,(by rw [<- e1];rfl),q _ H (Same.refl H) rfl⟩)
   ·cases e
  | _=>cases e
 | _=>cases e
theorem av (ha:SE X a f) (hb:SE X b g) (hs:PlainIx b:=by intro _ _;rfl):SE X (.Subscript a b pos) (op2 dIx f g):=(oF ix_d ha hb hs).imp fun σ H Q q=>two q
variable {st:Stmt} {sts:List Stmt} {u w:R->Option Out}
theorem bi:SS X [] nextD:=pss_nil.imp fun E σ H ⟨ρ,τ,o,er,e,q⟩=>by
 cases e
 exact q H (Same.refl H) σ er
theorem seq_of {E:Ends} {σ:L2.St} {H:Hp} {K:PySem.W.Frag} (q:tDS K (seqD u w) E σ H):tDS K u {E with nx:=tDS K w E} σ H:=by
 obtain ⟨ρ,τ,o,er,e,q⟩:=q
 obtain ⟨o1,e1,e⟩:=bindS e
 refine ⟨ρ,τ,o1,er,e1,fun H1 s1=>?_⟩
 cases o1 with
 | nx ρ2=>exact fun σ2 er2=>⟨ρ2,τ,o,er2,e,fun H2 s2=>q H2 (s1.trans s2)⟩
 | rt d=>cases e;exact q H1 s1
 | bk ρ2=>cases e;exact q H1 s1
 | ct ρ2=>cases e;exact q H1 s1
theorem ao (h1:S1 X st u) (h2:SS X sts w):SS X (st::sts) (seqD u w):=(fk h1 h2).imp fun E σ H q=>seq_of q
theorem ak (h1:S1 X st u):SS X [st] u:=fg h1
theorem ax (ha:SE X a f):S1 X (.Return (some a) pos) (retD f):=(md ha).imp fun E σ H ⟨ρ,τ,o,er,e,q⟩=>by
 obtain ⟨x,e1,e⟩:=mapS e
 subst e
 exact ⟨ρ,x,er.1,e1,fun v H1 s1 r1=>q H1 s1 v r1⟩
theorem cT {B1 B2:List Stmt} (hc:ST X c s) (ha:SS X B1 u) (hb:SS X B2 w):S1 X (.If c B1 B2 pos) (ifD s u w):=(nr hc ha hb).imp fun E σ H ⟨ρ,τ,o,er,e,q⟩=>by
 obtain ⟨x,e1,e⟩:=bindS e
 refine ⟨ρ,x,er.1,e1,fun H1 s1=>?_⟩
 cases x with
 | true=>rw [if_pos rfl] at e ⊢;exact ⟨ρ,τ,o,er.mono s1,e,fun H2 s2=>q H2 (s1.trans s2)⟩
 | false=>rw [if_neg Bool.false_ne_true] at e ⊢;exact ⟨ρ,τ,o,er.mono s1,e,fun H2 s2=>q H2 (s1.trans s2)⟩
theorem ag (i:Nat) {x:Str} (hN:X.N.Nodup) (hi:X.N[i]?=some x:=by rfl) (hx:Loc X.env.scope x:=by first | exact Or.inl rfl | exact Or.inr rfl) (hf:X.fn x=true\/X.env.scope.names.lookup x=some .local:=by first | exact .inl rfl | exact .inr rfl) :
  SG X (.Name x pos) (setAt i):=(m_ hN hi hx hf).imp fun v σ H Q ⟨ρ,τ,d,ρ',er,r,e,q⟩=>by
 unfold setAt at e
 split at e
 ·rename_i hlt
  cases e
  exact q _ H (Same.refl H) (er.set hlt r)
 ·cases e
variable {stf:D->R->Option R} {stfs:List (D->R->Option R)}
theorem aR {tg:Expr} (ha:SE X a f) (hg:SG X tg stf) (hs:swapsWithSole [tg] a pos.line X.env=pure false:=by rfl) (hw:swappedStores [tg] a X.env=pure none:=by rfl) (h1:(assignEach [tg] X.env).map (·.2)=[assign tg X.env]:=by rfl) :
  S1 X (.Assign [tg] a pos) (asgD f stf):=(kB ha hg hs hw h1).imp fun E σ H ⟨ρ,τ,o,er,e,q⟩=>by
 obtain ⟨x,e1,e⟩:=bindS e
 obtain ⟨ρ',e2,e⟩:=mapS e
 subst e
 exact ⟨ρ,x,er.1,e1,fun v H1 s1 r1=>⟨ρ,τ,x,ρ',er.mono s1,r1,e2,fun σ2 H2 s2 er2=>q H2 (s1.trans s2) σ2 er2⟩⟩
theorem Kp.of {H H':Hp} (s:Same H H'):Kp H H':=fun b u e _=>s b u e
theorem Kp.refl (H:Hp):Kp H H:=fun _ _ e _=>e
theorem Kp.seq {K:PySem.W.Frag} {H H':Hp} {a:Addr} {xs:List V} (s:Kp H H') (h:SqL K H a xs):SqL K H' a xs:=by
 rcases h with (h | ⟨o,h⟩) | h
 ·exact .inl (.inl (s _ _ h fun φ z=>nomatch z))
 ·exact .inl (.inr ⟨o,s _ _ h fun φ z=>nomatch z⟩)
 ·exact .inr h
theorem Kp.tup {K:PySem.W.Frag} {H H':Hp} {a:Addr} {xs:List V} (s:Kp H H') (h:SqT K H a xs):SqT K H' a xs:=by
 rcases h with (h | ⟨o,h⟩) | h
 ·exact .inl (.inl (s _ _ h fun φ z=>nomatch z))
 ·exact .inl (.inr ⟨o,s _ _ h fun φ z=>nomatch z⟩)
 ·exact .inr h
mutual
theorem Rep.kp {K:PySem.W.Frag} {H H':Hp} (s:Kp H H'):∀ {d:D} {v:V},Rep K H d v->Rep K H' d v
 | .non,_,h=>h
 | .bl _,_,h=>h
 | .int _,_,h=>h
 | .str _,_,h=>h
 | .tup ds,_,h=>by
  obtain ⟨a,xs,e,q,r⟩:=h
  exact ⟨a,xs,e,s.tup q,Reps.kp s r⟩
 | .lst ds,_,h=>by
  obtain ⟨a,xs,e,q,r⟩:=h
  exact ⟨a,xs,e,s _ _ q (fun φ z=>by cases z),Reps.kp s r⟩
 | .fro ds,_,h=>by
  obtain ⟨a,xs,e,q,r⟩:=h
  exact ⟨a,xs,e,s.seq q,Reps.kp s r⟩
 | .obj ..,_,h=>h
 | .dct ks ds,_,h=>by
  obtain ⟨a,xs,e,q,r⟩:=h
  exact ⟨a,xs,e,⟨q.1,let ⟨o,z⟩:=q.2;⟨o,s _ _ z (fun φ z=>by cases z)⟩⟩,Reps.kp s r⟩
 | .cl t a ds,_,h=>by
  obtain ⟨e,cl,xs,pm,ctv,c',h1,h2,h3,h4,r⟩:=h
  exact ⟨e,cl,xs,pm,ctv,c',s _ _ h1 (fun φ z=>by cases z),s _ _ h2 (fun φ z=>by cases z),h3,h4.to fun b o z=>s _ _ z (fun φ z=>by cases z),Reps.kp s r⟩
theorem Reps.kp {K:PySem.W.Frag} {H H':Hp} (s:Kp H H'):∀ {ds:List D} {vs:List V},Reps K H ds vs->Reps K H' ds vs
 | [],_,h=>h
 | d::ds,_,h=>by
  obtain ⟨v,r,e,q,t⟩:=h
  exact ⟨v,r,e,Rep.kp s q,Reps.kp s t⟩
end
theorem EnvR.kp {K:PySem.W.Frag} {H H':Hp} {ρ:R} {σ:L2.St} (e:EnvR K H ρ σ) (s:Kp H H'):EnvR K H' ρ σ:=⟨e.1,fun i d h=>let ⟨v,a,b⟩:=e.2 i d h;⟨v,a,b.kp s⟩⟩
theorem EnvT.kp {K:PySem.W.Frag} {H H':Hp} {ρ:R} {τ σ:L2.St} (e:EnvT K H ρ τ σ) (s:Kp H H'):EnvT K H' ρ τ σ:=⟨e.1.kp s,e.2⟩
theorem jN {K:PySem.W.Frag} {H:Hp} {a:Addr} {ds:List D} {xs:List V} (hq:SqL K H a xs) (t:Reps K H ds xs):Yields K (Itl K a) ds H:=by
 refine ⟨fun i d H2 s2 e=>?_,fun i H2 s2 hl=>⟨xs,s2.seq hq,by rw [<- t.length];exact hl⟩⟩
 obtain ⟨v,h1,h2⟩:=t.get e
 refine ⟨⟨xs,v,s2.seq hq,h1⟩,fun x H3 ⟨e3,y⟩=>?_⟩
 subst e3
 have:=(y xs (s2.seq hq)).symm.trans h1
 cases this
 exact ⟨Same.refl _,h2.kp s2⟩
theorem kh {K:PySem.W.Frag} {H:Hp} {a:Addr} {ds:List D} {xs:List V} (hq:SqT K H a xs) (t:Reps K H ds xs):Yields K (Itt K a) ds H:=by
 refine ⟨fun i d H2 s2 e=>?_,fun i H2 s2 hl=>⟨xs,s2.tup hq,by rw [<- t.length];exact hl⟩⟩
 obtain ⟨v,h1,h2⟩:=t.get e
 refine ⟨⟨xs,v,s2.tup hq,h1⟩,fun x H3 ⟨e3,y⟩=>?_⟩
 subst e3
 have:=(y xs (s2.tup hq)).symm.trans h1
 cases this
 exact ⟨Same.refl _,h2.kp s2⟩
theorem rngD_get {a b:Int} {i:Nat} {d:D} (e:(rngD a b)[i]?=some d):i<(b - a).toNat/\d=.int (a+i):=by
 unfold rngD at e
 rw [List.getElem?_map] at e
 obtain ⟨k,e1,e⟩:=mapS e
 obtain ⟨h1,h2⟩:=List.getElem?_eq_some_iff.mp e1
 rw [List.length_range] at h1
 rw [List.getElem_range] at h2
 subst h2
 exact ⟨h1,e.symm⟩
theorem gr {K:PySem.W.Frag} {H:Hp} {a b:Int}:Yields K (Itr a (b - a).toNat) (rngD a b) H:=by
 refine ⟨fun i d H2 s2 e=>?_,fun i H2 s2 hl=>by
  have z:(rngD a b).length=(b - a).toNat:=by simp [rngD]
  rw [z] at hl
  exact hl⟩
 obtain ⟨h1,rfl⟩:=rngD_get e
 refine ⟨h1,fun x H3 ⟨e3,y⟩=>?_⟩
 subst e3
 exact ⟨Same.refl _,y⟩
def iSeq (K:PySem.W.Frag) (tl:TE):TI:=fun σ H W=>tl σ H fun x H1=>(∃ a,x=.ref a/\(((∃ xs,SqL K H1 a xs)/\W (Itl K a) H1)\/((∃ xs,SqT K H1 a xs)/\W (Itt K a) H1)))\/∃ z,x=.str z/\z.cps.all (·<128)=true/\W (Its z) H1
theorem kQ {K:PySem.W.Frag} {H:Hp} {x:Str}:Yields K (Its x) (chars x) H:=by
 have hl:(chars x).length=x.cps.size:=by simp [chars]
 refine ⟨fun i d H2 s2 e=>?_,fun i H2 s2 h=>by rw [hl] at h;exact h⟩
 have hi:i<x.cps.size:=by rw [<- hl];exact (List.getElem?_eq_some_iff.mp e).1
 refine ⟨hi,fun v H3 ⟨e3,c,h1,h2⟩=>?_⟩
 subst e3
 refine ⟨Same.refl _,?_⟩
 unfold chars at e
 rw [List.getElem?_map] at e
 obtain ⟨c',e1,e⟩:=mapS e
 have h1':x.cps.toList[i]?=some c:=by simpa using h1
 rw [h1'] at e1
 cases e1
 subst e
 exact h2
theorem nZ {tg l:Expr} {tl:TE} (hl:PE X l tl):PI X tg l (iSeq X.K tl):=by
 intro pins s σ H W I h
 refine thn (hl pins s σ H _ I h) fun v s1 ⟨x,H1,I1,r1,q1⟩=>?_
 rcases q1 with ⟨a,e,q1⟩ | ⟨z,e,hz,q⟩
 rotate_left
 ·subst e
  obtain ⟨t,rfl⟩:=r1
  refine wpAny_pyIter_ascii hz ?_
  refine ⟨s1.heap.objs.size,[s1.heap.objs.size],_,_,H1,rfl,I1.kept (t':=s1.toks) fun b o e=>Heap.get?_push_of_some _ e,turn_str _ z t,⟨_,Heap.get?_push_size _ rfl,rfl,rfl⟩,fun b hb=>?_,q⟩
  have e:b=s1.heap.objs.size:=by simpa using hb
  subst e
  exact I1.fpOk (Nat.le_refl _) (I1.hok.fresh (Nat.le_refl _))
 subst e
 cases r1
 rcases q1 with ⟨⟨xs,hq⟩,q⟩ | ⟨⟨xs,hq⟩,q⟩
 ·obtain ⟨its,rv,p,hz⟩:=I1.list hq
  refine wpAny_pyIter_list p.isList ?_
  refine ⟨s1.heap.objs.size,[s1.heap.objs.size],_,_,H1,rfl,I1.kept (t':=s1.toks) fun b o e=>Heap.get?_push_of_some _ e,turn_list a _,⟨_,Heap.get?_push_size _ rfl,rfl,rfl⟩,fun b hb=>?_,q⟩
  have e:b=s1.heap.objs.size:=by simpa using hb
  subst e
  exact I1.fpOk (Nat.le_refl _) (I1.hok.fresh (Nat.le_refl _))
 ·obtain ⟨its,rv,p,hz⟩:=I1.tuple hq
  refine wpAny_pyIter_tuple (show s1.heap.IsTuple a its.toArray from p) ?_
  refine ⟨s1.heap.objs.size,[s1.heap.objs.size],_,_,H1,rfl,I1.kept (t':=s1.toks) fun b o e=>Heap.get?_push_of_some _ e,turn_tuple a _,⟨_,Heap.get?_push_size _ rfl,rfl,rfl⟩,fun b hb=>?_,q⟩
  have e:b=s1.heap.objs.size:=by simpa using hb
  subst e
  exact I1.fpOk (Nat.le_refl _) (I1.hok.fresh (Nat.le_refl _))
theorem cR {tg:Expr} (ha:SE X a f):SI X tg a (inSeq f):=(nZ ha).imp fun σ H W ⟨ρ,ds,er,e,q⟩=>by
 obtain ⟨x,e1,e⟩:=bindS e
 refine ⟨ρ,x,er,e1,fun v H1 s1 r1=>?_⟩
 cases x with
 | tup xs =>
  cases e
  obtain ⟨a,vs,ev,hq,t⟩:=r1
  exact .inl ⟨a,ev,.inr ⟨⟨vs,hq⟩,q _ H1 s1 (kh hq t)⟩⟩
 | lst xs =>
  cases e
  obtain ⟨a,vs,ev,hq,t⟩:=r1
  exact .inl ⟨a,ev,.inl ⟨⟨vs,SqL.of hq⟩,q _ H1 s1 (jN (SqL.of hq) t)⟩⟩
 | str z =>
  dsimp only at e
  split at e
  ·rename_i hz
   cases e
   cases (show v=_ from r1)
   exact .inr ⟨z,rfl,hz,q _ H1 s1 kQ⟩
  ·cases e
 | _=>cases e
theorem da {tg:Expr} (hm:X.mg "range" = none) (ha:SE X a f) (hg:Gl X "range":=by rfl) (hs:noStar a=true:=by rfl):SI X tg (.Call (.Name "range" p) [a] [] pos) (inRng1 f) :=
 (lH hg hm (aa ha ad hs).1 (ay [] X.env hs)).imp fun σ H W ⟨ρ,ds,er,e,q⟩=>by
  obtain ⟨x,e1,e⟩:=bindS e
  cases x with
  | int j =>
   dsimp only at e
   split at e
   ·rename_i hj
    cases e
    refine ⟨ρ,[.int j],er,by show (f ρ).bind _=_;rw [e1];rfl,fun vs H1 s1 r1=>?_⟩
    obtain ⟨v,r,rfl,r2,r3⟩:=r1
    cases (show v=_ from r2)
    cases (show r=_ from r3)
    refine ⟨j,rfl,hj.1,hj.2,q _ H1 s1 ?_⟩
    have z:=gr (K:=X.K) (H:=H1) (a:=0) (b:=j)
    rw [Int.sub_zero] at z
    exact z
   ·cases e
  | _=>cases e
theorem gi {tg iter:Expr} {B:List Stmt} {it:R->Option (List D)} (hp:PassesOwn (model X.prog X.w) X.A X.env X.xe) (hc:X.calm=true) (hi:SI X tg iter it) (hg:SG X tg stf) (hb:SS X B u)
  (hs:∀ x,foldedSetIterable iter X.env x=pure x:=by intro _;rfl):S1 X (.For tg iter B [] pos) (loopD it stf u):=(lQ hp hc hi hg hb hs).imp fun E σ H ⟨ρ,τ,o,er,e,q⟩=>by
 obtain ⟨ds,e1,e⟩:=bindS e
 refine ⟨ρ,ds,er.1,e1,fun J H1 s1 y=>?_⟩
 refine ⟨fun i m σ' H'=>m=ds.length - i/\i<=ds.length/\Same H1 H'/\∃ ρ',EnvT X.K H' ρ' τ σ'/\forD stf u (ds.drop i) ρ'=some o,⟨ds.length,by simp,Nat.zero_le _,Same.refl _,ρ,er.mono s1,by simpa using e⟩,?_⟩
 rintro i m σ' H' ⟨rfl,hi,s2,ρ',er',e'⟩
 by_cases hlt:i<ds.length
 ·refine .inr ?_
  have hd:ds[i]?=some ds[i]:=by simp [hlt]
  obtain ⟨hgo,hy⟩:=y.1 i ds[i] H' (Kp.of s2) hd
  rw [List.drop_eq_getElem_cons hlt] at e'
  obtain ⟨ρ1,e2,e'⟩:=bindS e'
  obtain ⟨o1,e3,e'⟩:=bindS e'
  refine ⟨hgo,fun σ2 H2=>i+1<=ds.length/\Same H1 H2/\∃ ρ',EnvT X.K H2 ρ' τ σ2/\forD stf u (ds.drop (i+1)) ρ'=some o,fun σ2 H2 n2=>⟨ds.length - (i+1),by omega,rfl,n2.1,n2.2⟩,fun x H3 yx=>?_⟩
  obtain ⟨s3,rx⟩:=hy x H3 yx
  refine ⟨ρ',τ,ds[i],ρ1,er'.mono s3,rx,e2,fun σ4 H4 s4 er4=>⟨ρ1,τ,o1,er4,e3,fun H5 s5=>?_⟩⟩
  have s15:Same H1 H5:=s2.trans (s3.trans (s4.trans s5))
  cases o1 with
  | nx ρ2=>exact fun σ6 er6=>⟨hlt,s15,ρ2,er6,e'⟩
  | ct ρ2=>exact fun σ6 er6=>⟨hlt,s15,ρ2,er6,e'⟩
  | bk ρ2=>cases e';exact fun σ6 er6=>q H5 (s1.trans s15) σ6 er6
  | rt d=>cases e';exact q H5 (s1.trans s15)
 ·have e4:i=ds.length:=by omega
  subst e4
  rw [List.drop_length] at e'
  cases e'
  exact .inl ⟨y.2 _ H' (Kp.of s2) (Nat.le_refl _),q H' (s1.trans s2) σ' er'⟩
end
theorem beg_env {K:PySem.W.Frag} {H:Hp} {N:List Str} {ds:List D} {vs:List V} (r:Reps K H ds vs):EnvR K H (beg N.length ds) (L2.start N vs):=by
 unfold beg L2.start
 refine ⟨by simp [r.length],fun i d h=>?_⟩
 by_cases hi:i<ds.length
 ·rw [List.getElem?_append_left (by simpa using hi),List.getElem?_map] at h
  obtain ⟨d',e1,e⟩:=mapS h
  cases e
  obtain ⟨v,h1,h2⟩:=r.get e1
  exact ⟨v,by rw [List.getElem?_append_left (by rw [List.length_map,<- r.length];exact hi),List.getElem?_map,h1];rfl,h2⟩
 ·rw [List.getElem?_append_right (by simpa using hi),List.getElem?_replicate] at h
  split at h<;>cases h
theorem aK {P:Program} {w:World} {K:PySem.W.Frag} {mg:Str->Option Value} {base:Heap} {x qual:Str} {st:Stmt} {f:Addr} {fd:FuncData} {N ps:List Str} {k:Nat} {F:List D->Option D} {g:R->Option Out}
  (Fn:Fun K x qual st f fd) (S:FnScope N ps (defScope st)) (hlen:∀ ds d,F ds=some d->ds.length=ps.length)
  (hb:∀ (cdv:Value) (A:Around) (outer:List Env) (s:Shared) (H:Hp) (E:XK),Room k (A.deeper (envOfC qual (defScope st) s.heap.objs.size f cdv))->SS (cxOf CX0 P w K mg base N qual (defScope st) f cdv A outer s H E).nox (defBody st) g)
  (hF:∀ ds d,F ds=some d->retOf (g (beg N.length ds))=some d):FnOk P w K mg base CX0 (k+1) f fd ps (spD K F):=by
 refine Fn.ok S (fun vs H Q E h=>?_) (fun cdv A outer s H vs Q E hr h=>?_)
 ·obtain ⟨ds,d,r,e,_⟩:=h
  rw [<- r.length]
  exact hlen ds d e
 ·obtain ⟨ds,d,r,e,q⟩:=h
  refine ⟨_,hb cdv A outer s H E hr,?_⟩
  have z:=hF ds d e
  cases ho:g (beg N.length ds) with
  | none=>rw [ho] at z;cases z
  | some o =>
   rw [ho] at z
   refine ⟨beg N.length ds,_,o,(beg_env r).t,ho,fun H1 s1=>?_⟩
   cases o with
   | rt d'=>cases (show d'=d from Option.some.inj z);exact fun v rv=>q v H1 s1 rv
   | nx ρ=>cases (show D.non=d from Option.some.inj z);exact fun σ _=>q .non H1 s1 rfl
   | bk ρ=>cases z
   | ct ρ=>cases z
theorem aL {P:Program} {w:World} {K:PySem.W.Frag} {mg:Str->Option Value} {base:Heap} {x qual:Str} {st:Stmt} {f:Addr} {fd:FuncData} {ps:List Str} {k:Nat} {F:List D->Option D} (Fn:Fun K x qual st f fd) (hm:mg x=some (.ref f))
  (hb:Binds K fd ps []) (h:FnOk P w K mg base CX0 k f fd ps (spD K F)):Cal P w K mg base k x ps F:=⟨f,fd,h,hm,Fn.kp,hb⟩
end HW
namespace HW
open PySem PySem.Spec PyProof.Rows L2
section
variable {X:Cx}
theorem cat_tup0 {prog:Program} {w:World} {A:Around} {E:Value->Shared->Prop} {s:Shared} {t b:Addr} {ws:List Value} {Q:Value->Shared->Prop} (ht:IsTup s.heap t ([]:List Value).toArray) (hb:IsTup s.heap b ws.toArray)
  (h:Q (.ref b) s):wpAny (model prog w) A (binaryOp .Add (.ref t) (.ref b)) Q E s:=by
 obtain ⟨⟨cls,dd,data,sl⟩,ho,hc,n,hd⟩:=id ht
 obtain ⟨⟨cls2,dd2,data2,sl2⟩,ho2,hc2,n2,hd2⟩:=id hb
 simp only at hc hd hc2 hd2
 subst hc hd hc2 hd2
 exact concat_meets ⟨_,ho,rfl⟩ ⟨_,ho2,rfl⟩ noFill_tuple_add seq_tuple_add PySem.F.slot_tuple_add PySem.F.entry_tuple_add (PySem.F.args_tuple_add_2 _ _)
  (tuple_addW0 t b ([]:List Value).toArray ws.toArray n n2 dd dd2 sl sl2 (by simp)) ⟨ho,ho2,h⟩
theorem nI_of {K:PySem.W.Frag} {H:Hp} {d:D} {v:V} {i:Int} (e:nI d=some i) (r:Rep K H d v):v=.int i:=by
 cases d<;>cases e
 exact r
theorem tI_of {K:PySem.W.Frag} {H:Hp} {d:D} {v:V} {xs:List D} (e:tI d=some xs) (r:Rep K H d v):Rep K H (.tup xs) v:=by
 cases d<;>cases e
 exact r
theorem lI_of {K:PySem.W.Frag} {H:Hp} {d:D} {v:V} {xs:List D} (e:lI d=some xs) (r:Rep K H d v):Rep K H (.lst xs) v:=by
 cases d<;>cases e
 exact r
theorem sI_of {K:PySem.W.Frag} {H:Hp} {d:D} {v:V} {x:Str} (e:sI d=some x) (r:Rep K H d v):v=.str x:=by
 cases d<;>cases e
 exact r
theorem bO_of {K:PySem.W.Frag} {H:Hp} {d:D} {v:V} {x:Bool} (e:bO d=some x) (r:Rep K H d v):v=.bl x:=by
 cases d<;>cases e
 exact r
theorem iteS {α:Type} {p:Prop} [Decidable p] {x y:α} (h:(if p then some x else none)=some y):p/\x=y:=by
 split at h
 ·rename_i hp;exact ⟨hp,Option.some.inj h⟩
 ·cases h
theorem aj:OpD X (binaryOp .Add) dAdd:=by
 intro pins s σ H x y v u Q I rx ry h
 obtain ⟨dx,dy,d,r1,r2,e,q⟩:=h
 cases dx with
 | int i =>
  obtain ⟨j,e1,rfl⟩:=mapS e
  exact op_add pins s σ H x y v u Q I rx ry ⟨i,j,r1,nI_of e1 r2,q _ H (Same.refl H) rfl⟩
 | tup xs =>
  obtain ⟨ys,e1,e⟩:=bindS e
  obtain ⟨hz,rfl⟩:=iteS e
  obtain ⟨a,vs,rfl,hq,t⟩:=r1
  obtain ⟨b,us,rfl,hq2,t2⟩:=tI_of e1 r2
  cases vs with
  | nil =>
   cases rx
   cases ry
   obtain ⟨its,rr1,p1,_⟩:=I.tuple hq
   obtain ⟨its2,rr2,p2,_⟩:=I.tuple hq2
   cases rr1
   refine cat_tup0 p1 p2 ⟨.ref b,H,I,rfl,q _ H (Same.refl H) ⟨b,us,rfl,hq2,?_⟩⟩
   cases xs with
   | nil=>exact t2
   | cons x r=>obtain ⟨_,_,z,_⟩:=t;cases z
  | cons v0 vr =>
   refine op_catT pins s σ H _ _ v u Q I rx ry ⟨a,b,v0::vr,us,rfl,rfl,hq,hq2,by simp,by rw [<- t.length,<- t2.length];exact hz,fun z=>?_,fun z p hp=>?_⟩
   ·subst z
    refine q _ H (Same.refl H) ⟨a,v0::vr,rfl,hq,?_⟩
    have:ys=[]:=List.length_eq_zero_iff.mp t2.length
    subst this
    rw [List.append_nil]
    exact t
   ·have s2:=bt hp (.tup (v0::vr++us))
    exact q _ _ s2 ⟨p,_,rfl,SqT.of ar,(t.append t2).mono s2⟩
 | lst xs =>
  obtain ⟨ys,e1,e⟩:=bindS e
  obtain ⟨hz,rfl⟩:=iteS e
  obtain ⟨a,vs,rfl,hq,t⟩:=r1
  obtain ⟨b,us,rfl,hq2,t2⟩:=lI_of e1 r2
  refine op_cat pins s σ H _ _ v u Q I rx ry ⟨a,b,vs,us,rfl,rfl,hq,hq2,by rw [<- t.length,<- t2.length];exact hz,fun p hp=>?_⟩
  have s2:=bt hp (.lst (vs++us))
  exact q _ _ s2 ⟨p,_,rfl,ar,(t.append t2).mono s2⟩
 | str a =>
  obtain ⟨b,e1,e⟩:=bindS e
  obtain ⟨hz,rfl⟩:=iteS e
  exact op_add_str pins s σ H x y v u Q I rx ry ⟨a,b,r1,sI_of e1 r2,hz,q _ H (Same.refl H) rfl⟩
 | _=>cases e
theorem kN:OpD X (binaryOp .Sub) dSub:=by
 intro pins s σ H x y v u Q I rx ry h
 obtain ⟨dx,dy,d,r1,r2,e,q⟩:=h
 obtain ⟨i,e1,e⟩:=bindS e
 obtain ⟨j,e2,rfl⟩:=mapS e
 exact op_sub pins s σ H x y v u Q I rx ry ⟨i,j,nI_of e1 r1,nI_of e2 r2,q _ H (Same.refl H) rfl⟩
theorem cE:OpD X (binaryOp .Mult) dMul:=by
 intro pins s σ H x y v u Q I rx ry h
 obtain ⟨dx,dy,d,r1,r2,e,q⟩:=h
 obtain ⟨i,e1,e⟩:=bindS e
 obtain ⟨j,e2,e⟩:=bindS e
 obtain ⟨hz,rfl⟩:=iteS e
 refine op_mul pins s σ H x y v u Q I rx ry ⟨i,j,nI_of e1 r1,nI_of e2 r2,?_,q _ H (Same.refl H) rfl⟩
 unfold mulFits at hz
 rw [Bool.or_eq_true,Bool.and_eq_true,Bool.and_eq_true] at hz
 exact hz.imp (fun z=>⟨of_decide_eq_true z.1,of_decide_eq_true z.2⟩) fun z=>⟨of_decide_eq_true z.1,of_decide_eq_true z.2⟩
theorem bB:OpD X (binaryOp .FloorDiv) dDiv:=by
 intro pins s σ H x y v u Q I rx ry h
 obtain ⟨dx,dy,d,r1,r2,e,q⟩:=h
 obtain ⟨i,e1,e⟩:=bindS e
 obtain ⟨j,e2,e⟩:=bindS e
 obtain ⟨hz,rfl⟩:=iteS e
 exact op_fdiv pins s σ H x y v u Q I rx ry ⟨i,j,nI_of e1 r1,nI_of e2 r2,hz,q _ H (Same.refl H) rfl⟩
theorem aW:OpD X (binaryOp .Mod) dMod:=by
 intro pins s σ H x y v u Q I rx ry h
 obtain ⟨dx,dy,d,r1,r2,e,q⟩:=h
 obtain ⟨i,e1,e⟩:=bindS e
 obtain ⟨j,e2,e⟩:=bindS e
 obtain ⟨hz,rfl⟩:=iteS e
 exact op_mod pins s σ H x y v u Q I rx ry ⟨i,j,nI_of e1 r1,nI_of e2 r2,hz,q _ H (Same.refl H) rfl⟩
theorem iQ:UnD X (unaryOp .USub) dNeg:=by
 intro pins s σ H x v Q I rx h
 obtain ⟨dx,d,r1,e,q⟩:=h
 obtain ⟨i,e1,rfl⟩:=mapS e
 exact un_neg pins s σ H x v Q I rx ⟨i,nI_of e1 r1,q _ H (Same.refl H) rfl⟩
theorem cdI {op:CmpOp} {p:Int->Int->Bool} {F:D->D->Option Bool} (ho:OpR X (compareOp op) (rI0 fun i j=>.bl (p i j))) (hF:∀ x y,F x y=(nI x).bind fun i=>(nI y).map fun j=>p i j):CmD X op F:=by
 intro pins s σ H x y v u Q I rx ry h
 obtain ⟨dx,dy,b,r1,r2,e,q⟩:=h
 rw [hF] at e
 obtain ⟨i,e1,e⟩:=bindS e
 obtain ⟨j,e2,rfl⟩:=mapS e
 exact ho pins s σ H x y v u Q I rx ry ⟨i,j,nI_of e1 r1,nI_of e2 r2,q⟩
theorem ma:CmD X .Lt cLt:=cdI op_lt fun _ _=>rfl
theorem gZ:CmD X .LtE cLe:=cdI op_le fun _ _=>rfl
theorem oz:CmD X .GtE cGe:=cdI op_ge fun _ _=>rfl
theorem flat_rep {K:PySem.W.Frag} {H:Hp} {d:D} {v:V} (r:Rep K H d v) (f:flat d=true):flatV v=true:=by
 cases d<;>simp [flat] at f<;>(cases (show v=_ from r);rfl)
theorem eqF_rep {K:PySem.W.Frag} {H:Hp} {d e:D} {v u:V} (r:Rep K H d v) (r':Rep K H e u) (f:flat d=true) (f':flat e=true):eqV v u=eqF d e:=by
 cases d<;>simp [flat] at f<;>cases e<;>simp [flat] at f'<;>(cases (show v=_ from r);cases (show u=_ from r');rfl)
theorem flats_rep {K:PySem.W.Frag} {H:Hp}:∀ {ds:List D} {vs:List V},Reps K H ds vs->ds.all flat=true->vs.all flatV=true
 | [],_,h,_=>by cases (show _=[] from h);rfl
 | d::ds,_,h,f=>by
  obtain ⟨v,r,rfl,q,t⟩:=h
  rw [List.all_cons,Bool.and_eq_true] at f ⊢
  exact ⟨flat_rep q f.1,flats_rep t f.2⟩
theorem any_rep {K:PySem.W.Frag} {H:Hp} {x:D} {vx:V} (rx:Rep K H x vx) (fx:flat x=true):∀ {ds:List D} {vs:List V},Reps K H ds vs->ds.all flat=true->inV vx vs=ds.any fun y=>eqF y x
 | [],_,h,_=>by cases (show _=[] from h);rfl
 | d::ds,_,h,f=>by
  obtain ⟨v,r,rfl,q,t⟩:=h
  rw [List.all_cons,Bool.and_eq_true] at f
  have ih:=any_rep rx fx t f.2
  unfold inV at ih ⊢
  rw [List.any_cons,List.any_cons,eqF_rep q rx f.1 fx,ih]
theorem items_rep {K:PySem.W.Frag} {H:Hp} {d:D} {v:V} {ys:List D} (r:Rep K H d v) (e:itemsD d=some ys):∃ p xs,v=.ref p/\(SqL K H p xs\/SqT K H p xs)/\Reps K H ys xs:=by
 cases d with
 | tup ds=>cases e;obtain ⟨a,xs,rfl,q,t⟩:=r;exact ⟨a,xs,rfl,.inr q,t⟩
 | lst ds=>cases e;obtain ⟨a,xs,rfl,q,t⟩:=r;exact ⟨a,xs,rfl,.inl (SqL.of q),t⟩
 | fro ds=>cases e;obtain ⟨a,xs,rfl,q,t⟩:=r;exact ⟨a,xs,rfl,.inl q,t⟩
 | _=>cases e
theorem lS:CmD X .In cIn:=by
 intro pins s σ H x y v u Q I rx ry h
 obtain ⟨dx,dy,b,r1,r2,e,q⟩:=h
 obtain ⟨ys,e1,e⟩:=bindS e
 obtain ⟨p,xs,rfl,hq,t⟩:=items_rep r2 e1
 split at e
 ·rename_i hf
  rw [Bool.and_eq_true] at hf
  cases e
  refine op_in_seq pins s σ H x _ v u Q I rx ry ⟨p,xs,rfl,hq,flat_rep r1 hf.1,flats_rep t hf.2,?_⟩
  rw [any_rep r1 hf.1 t hf.2]
  exact q
 ·cases e
theorem l_:CmD X .NotIn cNotIn:=by
 intro pins s σ H x y v u Q I rx ry h
 obtain ⟨dx,dy,b,r1,r2,e,q⟩:=h
 obtain ⟨ys,e1,e⟩:=bindS e
 obtain ⟨p,xs,rfl,hq,t⟩:=items_rep r2 e1
 split at e
 ·rename_i hf
  rw [Bool.and_eq_true] at hf
  cases e
  refine op_notIn_seq pins s σ H x _ v u Q I rx ry ⟨p,xs,rfl,hq,flat_rep r1 hf.1,flats_rep t hf.2,?_⟩
  rw [any_rep r1 hf.1 t hf.2]
  exact q
 ·cases e
theorem bW:CaD X (.builtin "len") fLen:=call_len_seq.imp fun xs H Q ⟨ds,d,r,e,q⟩=>by
 match ds,e with
 | [x],e =>
  obtain ⟨ys,e1,e2⟩:=mapS e
  subst e2
  obtain ⟨v,r',rfl,r1,r2⟩:=r
  cases (show r'=[] from r2)
  obtain ⟨p,vs,rfl,hq,t⟩:=items_rep r1 e1
  exact ⟨p,vs,rfl,hq,q _ H (Same.refl H) (by show V.int _=V.int _;rw [t.length])⟩
theorem eZ:CaD X (.type "tuple") fTuple:=call_tuple_of.imp fun xs H Q ⟨ds,d,r,e,q⟩=>by
 match ds,e with
 | [.tup ys],e =>
  cases e
  obtain ⟨v,r',rfl,⟨a,vs,rfl,hq,t⟩,r2⟩:=r
  cases (show r'=[] from r2)
  exact ⟨a,vs,rfl,.inr ⟨hq,q _ H (Same.refl H) ⟨a,vs,rfl,hq,t⟩⟩⟩
 | [.lst ys],e =>
  cases e
  obtain ⟨v,r',rfl,⟨a,vs,rfl,hq,t⟩,r2⟩:=r
  cases (show r'=[] from r2)
  exact ⟨a,vs,rfl,.inl ⟨SqL.of hq,fun l hl=>q _ _ (bt hl _) ⟨l,vs,rfl,SqT.of ar,t.mono (bt hl _)⟩⟩⟩
theorem dP:CaD X (.type "str") fStr:=call_str_int.imp fun xs H Q ⟨ds,d,r,e,q⟩=>by
 match ds,e with
 | [.int i],e =>
  have e':(if i.natAbs.log2<1920 then some (D.str (toString i)) else none)=some d:=e
  split at e'
  ·rename_i hz
   cases e'
   obtain ⟨v,r',rfl,r1,r2⟩:=r
   cases (show r'=[] from r2)
   cases (show v=_ from r1)
   exact ⟨i,rfl,hz,q _ H (Same.refl H) rfl⟩
  ·cases e'
theorem bools_rep {K:PySem.W.Frag} {H:Hp}:∀ {ds:List D} {bs:List Bool} {vs:List V} {us:List Value},bools ds=some bs->Reps K H ds vs->Vals vs us->us=bs.map .bool
 | [],_,_,_,e,h,r=>by
  cases e
  cases (show _=[] from h)
  cases r
  rfl
 | d::ds,_,_,_,e,h,r=>by
  cases d with
  | bl b =>
   obtain ⟨bs',e1,e2⟩:=mapS e
   subst e2
   obtain ⟨v,vr,rfl,r1,r2⟩:=h
   cases (show v=_ from r1)
   cases r with
   | cons q t =>
    cases q
    rw [bools_rep e1 r2 t]
    rfl
  | _=>cases e
theorem ku (hc:X.calm=true):CaD X (.builtin "all") fAll:=by
 intro pins s σ H xs us Q I r h
 obtain ⟨ds,d,rs,e,q⟩:=h
 match ds,e with
 | [.lst ys],e =>
  obtain ⟨bs,e1,e2⟩:=mapS e
  subst e2
  obtain ⟨v,r',rfl,⟨a,vs,rfl,hq,t⟩,r2⟩:=rs
  cases (show r'=[] from r2)
  obtain ⟨u,rfl,ru⟩:=vals1 r
  cases ru
  obtain ⟨z,its,n,rv,hl,eo⟩:=I.lstM hq
  have hits:=bools_rep e1 t rv
  have hlist:s.heap.IsList a its.toArray:=⟨_,eo,rfl,n,rfl⟩
  have hlt:a<s.heap.objs.size:=Heap.lt_size eo
  refine call_all_walk (wpAny_pyIter_list hlist ?_)
  refine ⟨s.heap.objs.size,[s.heap.objs.size,a],[s.heap.objs.size],its.toArray.size,_,_,fun i=>(bs[i]?).getD true,rfl,Walks.list (A:=X.A.in1) (I.ok.hd hc) _ a (Nat.ne_of_lt hlt) its.toArray,
   ⟨⟨_,Heap.get?_push_size _ rfl,rfl,rfl⟩,hlist.push _⟩,fun i v s' Q' E' hP hQ=>?_,fun h' tk hk=>?_⟩
  ·have hv:its[i]?=some v:=by simpa using hP
   rw [hits,List.getElem?_map] at hv
   obtain ⟨b,eb,ev⟩:=mapS hv
   subst ev
   simp only [eb,Option.getD_some] at hQ
   exact wpAny_truthy_bool hQ
  ·have e3:((List.range its.toArray.size).all fun i=>(bs[i]?).getD true)=bs.all id:=by
    rw [List.size_toArray,hits,List.length_map]
    exact LSm.range_all bs
   rw [e3]
   refine ⟨.bl (bs.all id),H,I.kept (t':=tk) fun b o eb=>hk b o ?_ (Heap.get?_push_of_some _ eb),rfl,q _ H (Same.refl H) rfl⟩
   intro hm
   rw [List.mem_singleton.mp hm] at eb
   exact Nat.lt_irrefl _ (Heap.lt_size eb)
theorem isi_ok {pins:List (Addr×Obj)} {σ:L2.St} {H:Hp} {s:Shared} {Q:Value->Shared->Prop} {E:Value->Shared->Prop} {d:D} {x:V} {u:Value} {n:String} (I:L2.Inv X pins σ H s) (rx:RelV x u) (r:Rep X.K H d x) (ho:isOx d=false)
  (e:PySem.W.kitOne X.K (.type (tyOf d)) (.type n)=some (isI d n)) (h:∀ tk,Q (.bool (isI d n)) {s with toks:=tk}):wpAny (model X.prog X.w) X.A (call (.builtin "isinstance") [u,.type n]) Q E s:=by
 cases d with
 | non=>cases (show x=_ from r);cases rx;exact PySem.W.kia_one PySem.W.kitx_none I.kIn True.intro e (fun z=>nomatch z) h
 | bl y=>cases (show x=_ from r);cases rx;exact PySem.W.kia_one PySem.W.kitx_bool I.kIn True.intro e (fun z=>nomatch z) h
 | int i=>cases (show x=_ from r);obtain ⟨t,rfl⟩:=rx;exact PySem.W.kia_one PySem.W.kitx_int I.kIn True.intro e (fun z=>nomatch z) h
 | str y=>cases (show x=_ from r);obtain ⟨t,rfl⟩:=rx;exact PySem.W.kia_one PySem.W.kitx_str I.kIn True.intro e (fun z=>nomatch z) h
 | tup ds =>
  obtain ⟨a,vs,rfl,hq,t⟩:=r
  cases rx
  obtain ⟨its,_,⟨o,h1,h2,_⟩,_⟩:=I.tuple hq
  exact PySem.W.kia_one PySem.W.kitx_tuple I.kIn ⟨o,h1,h2⟩ e (fun z=>nomatch z) h
 | lst ds =>
  obtain ⟨a,vs,rfl,hq,t⟩:=r
  cases rx
  obtain ⟨_,_,n,_,_,h1⟩:=I.lstM hq
  exact PySem.W.kia_one PySem.W.kitx_list I.kIn ⟨_,h1,rfl⟩ e (fun z=>nomatch z) h
 | fro ds =>
  obtain ⟨a,vs,rfl,hq,t⟩:=r
  cases rx
  obtain ⟨its,_,⟨o,n,h1,h2,h3,h4⟩,_⟩:=I.list hq
  exact PySem.W.kia_one PySem.W.kitx_list I.kIn ⟨o,h1,h2⟩ e (fun z=>nomatch z) h
 | obj k a ks ds=>cases ho
 | cl t a ds =>
  obtain ⟨rfl,cl,xs,pm,ctv,c',h1,_⟩:=r
  cases rx
  exact PySem.W.kia_one kitx_fn I.kIn ⟨_,(I.hok a _ h1).1,rfl⟩ e (fun z=>nomatch z) h
 | dct ks ds =>
  obtain ⟨a,vs,rfl,⟨_,_,hq⟩,t⟩:=r
  cases rx
  obtain ⟨_,_,vs',_,p⟩:=(show ObjOk X.prog X.w H s.heap a (.dK (ks.zip vs)) from (I.hok a _ hq).2)
  obtain ⟨o,es,ep,h1,h2,_⟩:=p
  exact PySem.W.kia_one PySem.W.kitx_dict I.kIn ⟨o,h1,h2.1⟩ e (fun z=>nomatch z) h
def kitOk (K:PySem.W.Frag) (n:String):Prop:=∀ d:D,isOx d=false->PySem.W.kitOne K (.type (tyOf d)) (.type n)=some (isI d n)
theorem kit_int (K:PySem.W.Frag):kitOk K "int":=fun d h=>by cases d<;>first | rfl | cases h
theorem kit_bool (K:PySem.W.Frag):kitOk K "bool":=fun d h=>by cases d<;>first | rfl | cases h
theorem kit_str (K:PySem.W.Frag):kitOk K "str":=fun d h=>by cases d<;>first | rfl | cases h
theorem kit_tuple (K:PySem.W.Frag):kitOk K "tuple":=fun d h=>by cases d<;>first | rfl | cases h
theorem kit_list (K:PySem.W.Frag):kitOk K "list":=fun d h=>by cases d<;>first | rfl | cases h
theorem isi_call {n:String} (hk:kitOk X.K n):CallR X (.builtin "isinstance") (fun xs H Q=>∃ d x,xs=[x,.ty n]/\Rep X.K H d x/\isOx d=false/\Q (.bl (isI d n)) H):=by
 intro pins s σ H xs us Q I r h
 obtain ⟨d,x,rfl,rd,ho,q⟩:=h
 obtain ⟨u,w',rfl,ru,rw'⟩:=vals2 r
 cases rw'
 exact isi_ok I ru rd ho (hk d ho) fun tk=>⟨.bl (isI d n),H,I.tok tk,rfl,q⟩
theorem bX {n:String} {x:Str} {a:Expr} {f:R->Option D} {p p2 pos:Pos} (hm:X.mg "isinstance" = none) (hmT:X.mg x=none) (ha:SE X a f) (hk:kitOk X.K n:=by first | exact kit_int _ | exact kit_bool _ | exact kit_str _ | exact kit_tuple _ | exact kit_list _) (hv:bootBuiltins x=some (.type n):=by kernel_rfl)
  (hg:Gl X "isinstance":=by rfl) (hgT:Gl X x:=by rfl) (hn:x ≠ "__name__":=by decide) (hd:(x==("__debug__" : Str))=false:=by decide)
  (hst:noStar a=true:=by rfl) (hv2:bootBuiltins "isinstance" = some (.builtin "isinstance"):=by kernel_rfl) :
  SE X (.Call (.Name "isinstance" p) [a,.Name x p2] [] pos) (isD n f) :=
 (jg (isi_call hk) hg hm hv2 (eR ha (eR (ni (v:=.ty n) hgT hmT hv rfl hn hd) pa_nil) (ay [.Name x p2] X.env hst)) (by decide) (by decide) (ay [.Name x p2] X.env hst) rfl).imp fun σ H Q ⟨ρ,d,er,e,q⟩=>by
  obtain ⟨y,e1,e2⟩:=bindS e
  split at e2
  ·cases e2
  ·rename_i ho
   cases e2
   exact ⟨ρ,y,er,e1,fun v H1 s1 r1=>⟨y,v,rfl,r1,by simpa using ho,q _ H1 s1 rfl⟩⟩
theorem cq {k:Nat} (hr:Room k X.A):CmD X .Eq cEq:=by
 intro pins s σ H x y v u Q I rx ry h
 obtain ⟨dx,dy,b,r1,r2,e,q⟩:=h
 have sc:scal x y=true->decide (x=y)=b->wpAny (model X.prog X.w) X.A (compareOp .Eq v u) (EP X pins σ Q) X.xe s:=fun z1 z2=>op_eq pins s σ H x y v u Q I rx ry ⟨z1,by rw [z2];exact q⟩
 cases dx with
 | int i=>obtain ⟨j,e1,e⟩:=mapS e;cases (show x=_ from r1);cases nI_of e1 r2;exact sc rfl (dec_int.trans e)
 | str i=>obtain ⟨j,e1,e⟩:=mapS e;cases (show x=_ from r1);cases sI_of e1 r2;exact sc rfl (dec_str.trans e)
 | bl i=>obtain ⟨j,e1,e⟩:=mapS e;cases (show x=_ from r1);cases bO_of e1 r2;exact sc rfl (dec_bl.trans e)
 | _=>cases e
theorem e_ {k:Nat} (hr:Room k X.A):CmD X .NotEq cNe:=by
 intro pins s σ H x y v u Q I rx ry h
 obtain ⟨dx,dy,b,r1,r2,e0,q⟩:=h
 obtain ⟨c,e,rfl⟩:=mapS e0
 clear e0
 have sc:scal x y=true->decide (x=y)=c->wpAny (model X.prog X.w) X.A (compareOp .NotEq v u) (EP X pins σ Q) X.xe s:=fun z1 z2=>op_ne pins s σ H x y v u Q I rx ry ⟨z1,by rw [z2];exact q⟩
 cases dx with
 | int i=>obtain ⟨j,e1,e⟩:=mapS e;cases (show x=_ from r1);cases nI_of e1 r2;exact sc rfl (dec_int.trans e)
 | str i=>obtain ⟨j,e1,e⟩:=mapS e;cases (show x=_ from r1);cases sI_of e1 r2;exact sc rfl (dec_str.trans e)
 | bl i=>obtain ⟨j,e1,e⟩:=mapS e;cases (show x=_ from r1);cases bO_of e1 r2;exact sc rfl (dec_bl.trans e)
 | _=>cases e
variable {a:Expr} {f:R->Option D} {pos p2:Pos} {lo hi:Option Expr} {l h:R->Option (Option Int)}
theorem bU:SO X none noP:=po_none.imp fun σ H Q ⟨ρ,o,er,e,q⟩=>by
 cases e
 exact q H (Same.refl H)
theorem bf (ha:SE X a f):SO X (some a) (aP f):=(po_some ha).imp fun σ H Q ⟨ρ,o,er,e,q⟩=>by
 obtain ⟨x,e1,e2⟩:=bindS e
 refine ⟨ρ,x,er,e1,fun v H1 s1 r1=>?_⟩
 cases x with
 | int i=>cases e2;exact ⟨i,r1,q H1 s1⟩
 | _=>cases e2
theorem cutP_eq (n d:Nat) (o:Option Int):cutP n d o=HT.sIx n d o:=rfl
theorem getItem_whole {prog:Program} {w:World} {A:Around} {E:Value->Shared->Prop} {s:Shared} {t sl:Addr} {items:Array Value} {vl vu:Value} {lo hi:Option Int} {Q:Value->Shared->Prop} (ht:IsTup s.heap t items) (hs:s.heap.IsSliceOf sl vl vu .none) (pl:IsPart vl lo) (pu:IsPart vu hi)
  (hw:HT.sIx items.size 0 lo=0/\HT.sIx items.size items.size hi=items.size) (h:Q (.ref t) s):wpAny (model prog w) A (getItem (.ref t) (.ref sl)) Q E s:=by
 obtain ⟨os,hos,hcs,hds⟩:=id hs
 have hTs:s.TypeIs (.ref sl) "slice":=⟨os,hos,hcs⟩
 unfold getItem
 try with_reducible refine wpAny_holding ?_
 first | refine wpAny_bind (wpAny_pure ?_) | skip
 refine wpAny_bind (wpAny_sequenceKey ht.typeIs (by decide) ?_)
 refine wpAny_bind (wpAny_callSpecial?_slot (name:=Str.ofString "__getitem__") ht.typeIs PyProof.Rows.slot_tuple_getitem
  (wpAny_call_entry PyProof.Rows.slot_tuple_getitem ht.typeIs entry_tuple_getitem ?_ (args_tuple_getitem _ _)))
 show wpAny _ _ (Builtin.Tuple.tupleItemsOf (.ref t) >>= _) _ _ s
 refine wpAny_bind (tupleItemsOf_ ht ?_)
 refine wpAny_bind (wpAny_typeOf hTs ?_)
 rw [if_pos (by decide)]
 refine wpAny_bind (HT.sliceApplied_gen hs pl pu ?_)
 have hyes:((((HT.sIx items.size 0 lo:Nat):Int)==0&&(1:Int)==1&&(HT.sIx items.size items.size hi - HT.sIx items.size 0 lo)==items.size)=true):=by
  rw [hw.1,hw.2];simp
 show wpAny _ _ (if (((HT.sIx items.size 0 lo:Nat):Int)==0&&(1:Int)==1&&(HT.sIx items.size items.size hi - HT.sIx items.size 0 lo)==items.size)=true then _ else _) _ _ s
 rw [if_pos hyes]
 refine wpAny_bind (m:=Builtin.Tuple.tupleIsExact _) (wpAny_bind (wpAny_typeOf ht.typeIs (wpAny_pure ?_)))
 rw [if_pos (by decide)]
 exact wpAny_bind (wpAny_rule (wpAny_pure ⟨_,rfl,wpAny_pure h⟩))
theorem cutV_whole {xs:List V} {lo hi:Option Int} (h:HT.sIx xs.length 0 lo=0/\HT.sIx xs.length xs.length hi=xs.length):cutV xs lo hi=xs:=by
 unfold cutV
 rw [h.1,h.2,List.drop_zero,Nat.sub_zero,List.take_length]
def rSlA (K:PySem.W.Frag):V->Option Int->Option Int->Hp->VK->Prop:=fun x lo hi H Q=>∃ a xs,x=.ref a/\SqT K H a xs/\∀ p H',Same H H'->SqT K H' p (cutV xs lo hi)->Q (.ref p) H'
theorem sl_all:SlR X (rSlA X.K):=by
 intro pins s σ H x v vl vu lo hi sl Q I rx hs pl pu h
 obtain ⟨a,xs,rfl,hx,q⟩:=h
 by_cases hw:HT.sIx xs.length 0 lo=0/\HT.sIx xs.length xs.length hi=xs.length
 ·cases rx
  obtain ⟨its,r,ht,hz⟩:=I.tuple hx
  have hlen:its.toArray.size=xs.length:=by rw [List.size_toArray];exact r.length.symm
  refine ⟨"tuple",_,PyProof.Rows.slot_tuple_getitem.lookup,ht.typeIs,?_⟩
  exact getItem_whole ht hs pl pu (by rw [hlen];exact hw) ⟨.ref a,H,I,rfl,q a H (Same.refl H) (by rw [cutV_whole hw];exact hx)⟩
 ·exact sl_tup pins s σ H (.ref a) v vl vu lo hi sl Q I rx hs pl pu ⟨a,xs,rfl,hx,hw,fun p hp=>q p _ (bt hp _) (SqT.of ar)⟩
theorem k_ {K:PySem.W.Frag} {H:Hp} {ds:List D} {xs:List V} (t:Reps K H ds xs) (lo hi:Option Int):Reps K H (cutD ds lo hi) (cutV xs lo hi):=by
 unfold cutD cutV
 rw [t.length,cutP_eq,cutP_eq]
 exact (t.drop _).take _
theorem cF (ha:SE X a f) (hl:SO X lo l) (hh:SO X hi h):SE X (.Subscript a (.Slice lo hi none p2) pos) (slD f l h):=(jA (sl_all.or sl_list) ha hl hh).imp fun σ H Q ⟨ρ,d,er,e,q⟩=>by
 obtain ⟨x,e1,e⟩:=bindS e
 obtain ⟨o1,e2,e⟩:=bindS e
 obtain ⟨o2,e3,e⟩:=bindS e
 refine ⟨ρ,x,er,e1,fun v H1 s1 r1=>⟨ρ,o1,er.mono s1,e2,fun H2 s2=>⟨ρ,o2,er.mono (s1.trans s2),e3,fun H3 s3=>?_⟩⟩⟩
 cases x with
 | tup xs =>
  cases e
  obtain ⟨a,vs,rfl,hq,t⟩:=(r1.mono (s2.trans s3))
  exact .inl ⟨a,vs,rfl,hq,fun p H4 s4 sq=>q _ H4 (s1.trans (s2.trans (s3.trans s4))) ⟨p,_,rfl,sq,(k_ t o1 o2).mono s4⟩⟩
 | lst xs =>
  cases e
  obtain ⟨a,vs,rfl,hq,t⟩:=(r1.mono (s2.trans s3))
  refine .inr ⟨a,vs,rfl,SqL.of hq,fun p hp=>?_⟩
  have s4:=bt hp (.lst (cutV vs o1 o2))
  exact q _ _ (s1.trans (s2.trans (s3.trans s4))) ⟨p,_,rfl,ar,(k_ t o1 o2).mono s4⟩
 | _=>cases e
theorem jM:∀ {xs:List V} {us:List Value},Vals xs us->Vals xs.reverse us.reverse
 | _,_,.nil=>.nil
 | _,_,.cons r t=>by
  rw [List.reverse_cons,List.reverse_cons]
  exact (jM t).append (.cons r .nil)
end
end HW
set_option maxHeartbeats 2000000
namespace HW
open PySem PySem.Spec PyProof.Rows L2
def clOf (names:List (Str×NameKind)) (cells:List (Str×Addr)) (acc:List (Str×Addr)):List (Str×Addr) :=
 match names with
 | []=>acc
 | (n,k)::r=>clOf r cells (if k==.free then (match cells.lookup n with | some c=>(n,c)::acc | none=>acc) else acc)
theorem closure_go {env:Env}:∀ (names:List (Str×NameKind)) (acc:List (Str×Addr)),(∀ p∈names,p.2=.free->∃ c,env.cells.lookup p.1=some c) ->
    (forIn names acc fun x r=>(match x with
      | (name,kind)=>if (kind==NameKind.free)=true then do
          let c <- cellOf env name
          pure (ForInStep.yield ((name,c)::r))
        else pure (ForInStep.yield r):Sem (ForInStep (List (Str×Addr)))))=(pure (clOf names env.cells acc):Sem (List (Str×Addr)))
  | [],acc,_=>rfl
  | (n,k)::r,acc,h=>by
    rw [List.forIn_cons]
    cases hk:(k==NameKind.free) with
    | false =>
      have ih:=closure_go r acc fun p hp=>h p (List.mem_cons_of_mem _ hp)
      simp only [hk,clOf,Bool.false_eq_true,if_false]
      exact ih
    | true =>
      obtain ⟨c,hc⟩:=h (n,k) List.mem_cons_self (by simpa using hk)
      have ih:=closure_go r ((n,c)::acc) fun p hp=>h p (List.mem_cons_of_mem _ hp)
      have hcell:cellOf env n=pure c:=by unfold cellOf;rw [show env.cells.lookup n=some c from hc]
      simp only [hk,clOf,if_true,hcell,show env.cells.lookup n=some c from hc]
      exact ih
theorem closure_eq {scope:Scope} {env:Env} (h:∀ p∈scope.names,p.2=.free->∃ c,env.cells.lookup p.1=some c):closureFor scope env=pure (clOf scope.names env.cells []):=by
 unfold closureFor
 have:=closure_go scope.names [] h
 simp only [bind_pure]
 exact this
theorem lookup_ite {β:Type} {y n:Str} {c:β} {l:List (Str×β)}:List.lookup y ((n,c)::l)=if y=n then some c else List.lookup y l:=by
 rw [List.lookup_cons]
 by_cases h:y=n
 ·subst h;simp
 ·have:(y==n)=false:=by simpa using h
  rw [this,if_neg h]
theorem clOf_ok {cells:List (Str×Addr)}:∀ (names:List (Str×NameKind)) (acc:List (Str×Addr)),(∀ y c,acc.lookup y=some c->cells.lookup y=some c)->∀ y c,(clOf names cells acc).lookup y=some c->cells.lookup y=some c
 | [],acc,h=>h
 | (n,k)::r,acc,h=>by
  unfold clOf
  refine clOf_ok r _ ?_
  split
  ·cases hc:cells.lookup n with
   | none=>exact h
   | some c0 =>
    intro y c hy
    rw [lookup_ite] at hy
    split at hy
    ·rename_i e
     subst e
     cases hy
     exact hc
    ·exact h y c hy
  ·exact h
theorem clOf_keep {cells:List (Str×Addr)} {y:Str}:∀ (names:List (Str×NameKind)) (acc:List (Str×Addr)),(acc.lookup y).isSome=true->((clOf names cells acc).lookup y).isSome=true
 | [],acc,h=>h
 | (n,k)::r,acc,h=>by
  unfold clOf
  refine clOf_keep r _ ?_
  split
  ·cases hc:cells.lookup n with
   | none=>exact h
   | some c0 =>
    dsimp only
    rw [lookup_ite]
    split
    ·rfl
    ·exact h
  ·exact h
theorem clOf_has {cells:List (Str×Addr)} {y:Str} {c:Addr} (hc:cells.lookup y=some c):∀ (names:List (Str×NameKind)) (acc:List (Str×Addr)),(y,NameKind.free)∈names->((clOf names cells acc).lookup y).isSome=true
 | (n,k)::r,acc,h=>by
  unfold clOf
  rcases List.mem_cons.mp h with e | h
  ·cases e
   refine clOf_keep r _ ?_
   rw [if_pos (show (NameKind.free==NameKind.free)=true by decide),hc]
   dsimp only
   rw [lookup_ite,if_pos rfl]
   rfl
  ·exact clOf_has hc r _ h
theorem clOf_at {cells:List (Str×Addr)} {names:List (Str×NameKind)} {y:Str} {c:Addr} (hc:cells.lookup y=some c) (h:(y,NameKind.free)∈names):(clOf names cells []).lookup y=some c:=by
 obtain ⟨c',e⟩:=Option.isSome_iff_exists.mp (clOf_has hc names [] h)
 have:=clOf_ok names [] (fun y c h=>by cases h) y c' e
 rw [hc] at this
 cases this
 exact e
theorem relabel_at {env:Env} {y:Str}:∀ (names:List (Str×NameKind)),(names.map fun (n,k)=>if (k==NameKind.free&&env.scope.kind==.function&&env.kindOf n==some .cell) then (n,NameKind.cell) else (n,k)).lookup y =
  (names.lookup y).map fun k=>if (k==NameKind.free&&env.scope.kind==.function&&env.kindOf y==some .cell) then NameKind.cell else k
 | []=>rfl
 | (n,k)::r=>by
  have hd:∀ (c:Bool),(if c=true then (n,NameKind.cell) else (n,k))=(n,if c=true then NameKind.cell else k):=fun c=>by cases c<;>rfl
  rw [List.map_cons]
  show List.lookup y ((if (k==NameKind.free&&env.scope.kind==.function&&env.kindOf n==some .cell)=true then (n,NameKind.cell) else (n,k))::_)=_
  rw [hd,lookup_ite,lookup_ite]
  by_cases e:y=n
  ·subst e
   rw [if_pos rfl,if_pos rfl]
   rfl
  ·rw [if_neg e,if_neg e]
   exact relabel_at r
def compChk (sc outer:Scope) (T N:List Str):Bool :=
 sc.kind==.function&&(sc.names.all fun p=>p.2 != .cell&&(p.2 != .local||(sc.names.lookup p.1==some .local&&(T.contains p.1||p.1==(".0" : Str))))&&(p.2 != .free||outer.names.lookup p.1==some .cell||outer.names.lookup p.1==some .free)) &&
  (T.all fun t=>sc.names.lookup t==some .local)&&!N.contains (".0" : Str)
structure CompOk (sc outer:Scope) (T N:List Str):Prop where
 kind:sc.kind=.function
 nocell:∀ y∈sc.names,y.2≠.cell
 names:∀ y∈sc.names,y.2=.local->sc.names.lookup y.1=some .local
 loc:∀ y,sc.names.lookup y=some .local->y∈T\/y=(".0" : Str)
 free:∀ y∈sc.names,y.2=.free->outer.names.lookup y.1=some .cell\/outer.names.lookup y.1=some .free
 tg:∀ t∈T,sc.names.lookup t=some .local
 no0:(".0" : Str)∉N
theorem compOk_of {sc outer:Scope} {T N:List Str} (h:compChk sc outer T N=true):CompOk sc outer T N:=by
 unfold compChk at h
 rw [Bool.and_eq_true,Bool.and_eq_true,Bool.and_eq_true] at h
 obtain ⟨⟨⟨h1,h2⟩,h3⟩,h4⟩:=h
 rw [List.all_eq_true] at h2 h3
 have g:∀ y∈sc.names,y.2≠.cell/\(y.2=.local->sc.names.lookup y.1=some .local/\(y.1∈T\/y.1=(".0" : Str)))/\(y.2=.free->outer.names.lookup y.1=some .cell\/outer.names.lookup y.1=some .free):=fun y hy=>by
  have q:=h2 y hy
  rw [Bool.and_eq_true,Bool.and_eq_true] at q
  obtain ⟨⟨q1,q2⟩,q3⟩:=q
  refine ⟨by simpa using q1,fun hl=>?_,fun hf=>?_⟩
  ·rw [hl] at q2
   simpa using q2
  ·rw [hf] at q3
   simpa using q3
 refine ⟨by simpa using h1,fun y hy=>(g y hy).1,fun y hy hl=>((g y hy).2.1 hl).1,fun y hy=>?_,fun y hy hf=>(g y hy).2.2 hf,fun t ht=>by simpa using h3 t ht,by simpa using h4⟩
 exact ((g (y,.local) (PySem.mem_of_lookup hy)).2.1 rfl).2
def TbS (X:Cx) (H:Hp):Prop:=∀ b q c,X.H₀ b=some (.tbl q c)->H b=some (.tbl q c)
def cxC (X:Cx) (T:List Str) (scope:Scope) (C:Addr) (fp:List Addr) (s₃:Shared) (H₃:Hp):Cx where
 prog:=X.prog
 w:=X.w
 K:=X.K
 mg:=X.mg
 base:=X.base
 A:=X.A
 N:=T++X.N
 s₀:=s₃
 H₀:=H₃
 env:=compEnvC scope (clOf scope.names X.env.cells []) C X.env
 outer:=X.stack
 stack:=X.stack
 ex:=fp
 fn:=fun _=>false
 calm:=X.calm
 pn:=[]
 xe:=fun _ _=>False
section
variable {X:Cx} {pins:List (Addr×Obj)} {σ:L2.St} {H:Hp} {s:Shared} {T:List Str} {scope:Scope} {C:Addr} {fp:List Addr} {h₁:Heap} {t:Nat}
theorem inv_comp (I:L2.Inv X pins σ H s) (ck:CompOk scope X.env.scope T X.N) (hnd:(T++X.N).Nodup) (hf:∀ b∈fp,FpOk X pins H b) (hfo:∀ b∈fp,∃ o,s.heap.get? b=some o) (hC:s.heap.objs.size<=C)
  (hk:∀ b u,s.heap.get? b=some u->h₁.get? b=some u) (hns:h₁.Ns C (fun _=>none)) :
  L2.Inv (cxC X T scope C fp s H) [] (List.replicate T.length none++σ) H {s with heap:=h₁,toks:=t}:=by
 have hlt:∀ b∈fp,b<s.heap.objs.size:=fun b hb=>let ⟨o,e⟩:=hfo b hb;Heap.lt_size e
 have hcl:∀ y c,(clOf scope.names X.env.cells []).lookup y=some c->X.env.cells.lookup y=some c:=clOf_ok scope.names [] fun y c h=>by cases h
 have hfr:∀ y,(y,NameKind.free)∈scope.names->(X.env.kindOf y=some .cell\/X.env.kindOf y=some .free)/\∃ c,(clOf scope.names X.env.cells []).lookup y=some c/\X.env.cells.lookup y=some c:=fun y hy=>by
  have k:=ck.free _ hy rfl
  obtain ⟨c,hc⟩:=I.ok.has y k
  exact ⟨k,c,clOf_at hc hy,hc⟩
 have hkind:∀ y,(compEnvC scope (clOf scope.names X.env.cells []) C X.env).kindOf y=(scope.names.lookup y).map fun k=>if (k==NameKind.free&&X.env.scope.kind==.function&&X.env.kindOf y==some .cell) then NameKind.cell else k:=fun y=>relabel_at scope.names
 have hvis:∀ y,((compEnvC scope (clOf scope.names X.env.cells []) C X.env).kindOf y=some .cell\/(compEnvC scope (clOf scope.names X.env.cells []) C X.env).kindOf y=some .free)->(y,NameKind.free)∈scope.names:=fun y hy=>by
  rw [hkind] at hy
  cases hl:scope.names.lookup y with
  | none=>rw [hl] at hy;rcases hy with z | z<;>cases z
  | some k =>
   have hm:=PySem.mem_of_lookup hl
   rw [hl] at hy
   cases k with
   | free=>exact hm
   | cell=>exact absurd rfl (ck.nocell _ hm)
   | «local»=>rcases hy with z | z<;>cases z
   | globalExplicit=>rcases hy with z | z<;>cases z
   | globalImplicit=>rcases hy with z | z<;>cases z
 refine ⟨⟨I.ok.mod,ck.kind,I.ok.glob,I.ok.blt,hC,fun x y c h1 h2=>I.ok.inj x y c (hcl x c h1) (hcl y c h2),fun y hy=>?_,fun y c h=>absurd (show false=true from h) Bool.false_ne_true,I.ok.hd,I.ok.frames,.inl rfl,fun b hb=>⟨?_,fun x c h=>?_⟩,I.bs,
  Nat.le_trans I.ok.bsz I.sz,fun b o e hb=>?_,fun b hb hz=>?_,I.stack,I.stkFree⟩,rfl,I.bare,Un.kept hk,⟨_,hns,fun i x v h1 h2 h3=>?_⟩,fun y c h=>?_,I.hok.fresh hC,fun y c h=>I.freeC y c (hcl y c h),fun p hp=>absurd (show p∈([]:List (Addr×Obj)) from hp) (by simp),I.hok.kept hk,?_⟩
 ·obtain ⟨_,c,h1,_⟩:=hfr y (hvis y hy)
  exact ⟨c,h1⟩
 ·exact Nat.ne_of_lt (Nat.lt_of_lt_of_le (hlt b hb) hC)
 ·exact (hf b hb).2.2.2.2.1 x c (hcl x c h)
 ·rcases (hf b hb).2.2.2.1 with z | z
  ·exact I.ok.noex b o e z
  ·exact absurd (Nat.lt_of_lt_of_le (Heap.lt_size e) (Nat.le_trans I.ok.bsz z)) (Nat.lt_irrefl _)
 ·rcases List.mem_cons.mp (I.stkSub b hz) with z | z
  ·exact (hf b hb).2.1 z
  ·exact (hf b hb).2.2.1 z
 ·by_cases hi:i<T.length
  ·rw [List.getElem?_append_left (by simpa using hi),List.getElem?_replicate] at h2
   split at h2<;>cases h2
  ·rw [List.getElem?_append_right (by simpa using hi),List.length_replicate] at h2
   have h1':X.N[i - T.length]?=some x:=by
    have z:(T++X.N)[i]?=some x:=h1
    rw [List.getElem?_append_right (by omega)] at z
    exact z
   have hxN:x∈X.N:=List.mem_of_getElem? h1'
   have hxf:(x,NameKind.free)∈scope.names:=by
    rcases h3 with z | z | z
    ·have z':(compEnvC scope (clOf scope.names X.env.cells []) C X.env).kindOf x=some .local:=z
     rw [hkind] at z'
     cases hl:scope.names.lookup x with
     | none=>rw [hl] at z';cases z'
     | some k =>
      rw [hl] at z'
      have hkl:k=.local:=by
       cases k with
       | «local»=>rfl
       | free=>simp at z';split at z'<;>cases z'
       | cell=>cases z'
       | globalExplicit=>cases z'
       | globalImplicit=>cases z'
      subst hkl
      rcases ck.loc x hl with q | q
      ·exact absurd rfl ((List.nodup_append.mp hnd).2.2 x q x hxN)
      ·exact absurd (q ▸ hxN) ck.no0
    ·exact hvis x (.inl z)
    ·exact hvis x (.inr z)
   obtain ⟨hk2,c,hc1,hc2⟩:=hfr x hxf
   obtain ⟨m,hm,hl⟩:=I.loc
   obtain ⟨u,ru,lk⟩:=hl _ x v h1' h2 (hk2.elim (fun z=>.inr (.inl z)) fun z=>.inr (.inr z))
   refine ⟨u,ru,.inr ⟨?_,c,hc1,?_⟩⟩
   ·rcases h3 with z | z | z
    ·exfalso
     have z':(compEnvC scope (clOf scope.names X.env.cells []) C X.env).kindOf x=some .local:=z
     rw [hkind] at z'
     cases hl2:scope.names.lookup x with
     | none=>rw [hl2] at z';cases z'
     | some k =>
      rw [hl2] at z'
      have hkl:k=.local:=by
       cases k with
       | «local»=>rfl
       | free=>simp at z';split at z'<;>cases z'
       | cell=>cases z'
       | globalExplicit=>cases z'
       | globalImplicit=>cases z'
      subst hkl
      rcases ck.loc x hl2 with q | q
      ·exact absurd rfl ((List.nodup_append.mp hnd).2.2 x q x hxN)
      ·exact absurd (q ▸ hxN) ck.no0
    ·exact .inl z
    ·exact .inr z
   ·rcases lk with ⟨kl,_⟩ | ⟨_,c',hc',hcell⟩
    ·rcases hk2 with z | z
     ·rw [kl] at z;cases z
     ·rw [kl] at z;cases z
    ·rw [hc2] at hc'
     cases hc'
     obtain ⟨o,ho,hd⟩:=hcell
     exact ⟨o,hk _ _ ho,hd⟩
 ·obtain ⟨v,o,ho,hd⟩:=I.cell y c (hcl y c h)
  exact ⟨v,o,hk _ _ ho,hd⟩
 ·show (List.replicate T.length none++σ).length=(T++X.N).length
  rw [List.length_append,List.length_append,List.length_replicate,I.len]
end
theorem compLoop_any {prog:Program} {w:World} {A:Around} {R':Result->Shared->Prop} {s:Shared} {elt target iter:Expr} {ifs:List Expr} {scope:Scope} {pos:Pos} {it acc:Value} {env:Env} (I:Nat->Shared->Prop)
    (turn:∀ n s,I n s->wpAny (model prog w) A (pyNext it) (fun r s₁=>match r with
      | none=>R' (.ok .next) s₁
      | some v=>wpAny (model prog w) A (letOwnedTupleGo target it v) (fun _ s₁'=>wpAny (model prog w) A (assign target env v) (fun _ s₂ =>
          wpAny (model prog w) A (forIn ifs true fun c r=>if r=true then do let ok <- isTrue c env (eval c env);pure (ForInStep.yield ok) else pure (ForInStep.yield r)) (fun ok s₃ =>
            if ok=true then wpAny (model prog w) A (eval elt env) (fun x s₄ =>
              wpAny (model prog w) A (call (.builtin "list.append") [acc,x]) (fun _ s₅=>∃ m,m<n/\I m s₅) (fun _ _=>False) s₄) (fun _ _=>False) s₃
            else ∃ m,m<n/\I m s₃) (fun _ _=>False) s₂) (fun _ _=>False) s₁') (fun _ _=>False) s₁) (fun _ _=>False) s)
    (n:Nat) (h:I n s):codeAny (model prog w) A (.compLoop (.ListComp elt [⟨target,iter,ifs,0⟩] scope pos) 0 it acc env) R' s:=by
  refine codeAny_loop rfl I (fun n s hI=>?_) n h
  show wpAny _ A ((compTurn (.ListComp elt [⟨target,iter,ifs,0⟩] scope pos) 0 it acc env).onRaise (fun x=>do noteFrame x env;theTreesLotGoes x)) _ _ s
  refine wpAny_noted ?_
  rw [compTurn_list]
  have ff:∀ {E:Value->Shared->Prop} (a:Value) (s:Shared),False->E a s:=fun _ _ z=>z.elim
  refine wpAny_bind (wpAny_standAt (wpAny_bind (wpAny_mono (turn n s hI) (fun r s₁ h₁=>?_) ff)))
  cases r with
  | none=>exact wpAny_pure h₁
  | some v =>
    refine wpAny_bind (wpAny_mono h₁ (fun _ s₁' h₁'=>?_) ff)
    refine wpAny_bind (wpAny_mono h₁' (fun _ s₂ h₂=>wpAny_bind (wpAny_mono h₂ (fun ok s₃ h₃=>?_) ff)) ff)
    cases ok with
    | false=>exact wpAny_pure ⟨rfl,h₃⟩
    | true =>
      exact wpAny_bind (wpAny_bind (wpAny_mono h₃ (fun x s₄ h₄=>wpAny_bind (wpAny_mono h₄ (fun _ s₅ h₅=>wpAny_pure (wpAny_pure ⟨rfl,h₅⟩)) ff)) ff))
def SIf (X:Cx) (ifs:List Expr) (c:R->Option Bool):Prop :=
 ∀ (pins:List (Addr×Obj)) (s:Shared) (σ:L2.St) (H:Hp) (Q:Bool->Hp->Prop),L2.Inv X pins σ H s->tDT X.K c σ H Q ->
  wpAny (model X.prog X.w) X.A (forIn ifs true fun c r=>if r=true then do let ok <- isTrue c X.env (eval c X.env);pure (ForInStep.yield ok) else pure (ForInStep.yield r)) (TP X pins σ Q) X.xe s
theorem dN {X:Cx}:SIf X [] yesT:=fun pins s σ H Q I ⟨ρ,b,er,e,q⟩=>by
 cases e
 exact wpAny_tests_nil ⟨H,I,q H (Same.refl H)⟩
section
variable {X:Cx} {pins:List (Addr×Obj)} {σ:L2.St} {H:Hp} {s:Shared} {T:List Str} {scope:Scope}
def Front (k:Nat) (stf:D->R->Option R):Prop:=∀ (d:D) (τ ρ ρ1:R),τ.length=k->stf d (τ++ρ)=some ρ1->∃ τ',τ'.length=k/\ρ1=τ'++ρ
theorem front_set {k i:Nat} (h:i<k):Front k (setAt i):=fun d τ ρ ρ1 hl e=>by
 unfold setAt at e
 split at e
 ·cases e
  exact ⟨τ.set i (some d),by simp [hl],List.set_append_left _ _ (by omega)⟩
 ·cases e
theorem EnvR.forget {K:PySem.W.Frag} {H:Hp} {τ ρ:R} {σ:L2.St} (e:EnvR K H (τ++ρ) σ):EnvR K H (List.replicate τ.length none++ρ) σ:=by
 refine ⟨by have:=e.1;simpa using this,fun i d h=>?_⟩
 by_cases hi:i<τ.length
 ·rw [List.getElem?_append_left (by simpa using hi),List.getElem?_replicate] at h
  split at h<;>cases h
 ·rw [List.getElem?_append_right (by simpa using hi),List.length_replicate] at h
  exact e.2 i d (by rw [List.getElem?_append_right (by omega)];exact h)
theorem track {a:Addr} {o:HO} (I:L2.Inv X pins σ H s) (f:FpOk X pins H a) (new:ObjOk X.prog X.w (upd H a o) s.heap a o):L2.Inv X pins σ (upd H a o) s:=by
 obtain ⟨f0,f1,f2,f3,f4,f5⟩:=f
 have ne:∀ {b:Addr} {u:HO},H b=some u->b≠a:=fun e z=>by rw [z,f0] at e;cases e
 refine ⟨I.ok,I.os,I.bare,⟨I.base.keep,I.base.slot,fun b ob e n hx=>?_,I.base.there,fun b xs e=>?_,fun b ob u ny e=>?_,fun b ps d e=>?_⟩,I.loc,I.cell,?_,fun x c e=>?_,fun p hp=>?_,fun b u e=>?_,I.len⟩
 ·have hb:b≠a:=fun z=>by
   rcases f3 with q | q
   ·exact hx (z ▸ q)
   ·exact absurd (Nat.lt_of_lt_of_le (Heap.lt_size e) (z ▸ q)) (Nat.lt_irrefl _)
  rw [aq hb]
  exact I.base.free b ob e n hx
 ·have q:=I.base.tups b xs e
  rw [aq (ne q)]
  exact q
 ·have q:=I.base.frzs b ob u ny e
  rw [aq (ne q)]
  exact q
 ·have q:=I.base.tbls b ps d e
  rw [aq (ne q)]
  exact q
 ·rw [aq (Ne.symm f1)]
  exact I.free
 ·rw [aq (f4 x c e)]
  exact I.freeC x c e
 ·obtain ⟨q1,q2,q3⟩:=I.pin p hp
  exact ⟨q1,by rw [aq (f5 p hp)];exact q2,q3⟩
 ·by_cases hb:b=a
  ·subst hb
   rw [ar] at e
   cases e
   exact new
  ·rw [aq hb] at e
   refine (I.hok b u e).stay (fun _ _ _ q=>q) (fun c q=>?_) (fun c xs q=>?_) fun c _ _ q=>?_
   ·rw [aq (ne q)];exact q
   ·rw [aq (ne q)];exact q
   ·rw [aq (ne q)];exact q
theorem fp_of {C:Addr} {fp:List Addr} {s₃:Shared} {H₃ H':Hp} {b:Addr} {pl:List (Addr×Obj)} (hb:b∈fp\/s₃.heap.objs.size<=b) (hC:b≠C) (hfs:b∉frs X.stack) (hcells:∀ x c,(clOf scope.names X.env.cells []).lookup x=some c->c≠b) (hn:H' b=none) (hp:∀ p∈pl,p.1≠b) :
  FpOk (cxC X T scope C fp s₃ H₃) pl H' b:=⟨hn,hC,hfs,hb,hcells,fun p hp'=>hp p hp'⟩
theorem jb {elt iter tg:Expr} {ifs:List Expr} {pos:Pos} {it:Addr} {fp:List Addr} {tn:Nat->Heap->Prop} {J:It} {E:Value->Shared->Prop} {ρ:R} {ds out:List D} {stf:D->R->Option R} {cf:R->Option Bool} {ef:R->Option D}
  (I:L2.Inv X pins σ H s) (hc:X.calm=true) (Tn:Turn X.prog X.w X.K tg J fp it tn) (st:tn 0 s.heap) (hf:∀ b∈fp,FpOk X pins H b)
  (ck:CompOk scope X.env.scope T X.N) (hnd:(T++X.N).Nodup) (hst:Front T.length stf) (er:EnvR X.K H ρ σ) (y:Yields X.K J ds H) (hz:ds.length<=sizeLine) (hout:compD stf cf ef ds (List.replicate T.length none++ρ)=some out)
  (hg:∀ C s₃ H₃ fp,TbS X H₃->SG (cxC X T scope C fp s₃ H₃) tg stf) (hcnd:∀ C s₃ H₃ fp,TbS X H₃->SIf (cxC X T scope C fp s₃ H₃) ifs cf) (he:∀ C s₃ H₃ fp,TbS X H₃->SE (cxC X T scope C fp s₃ H₃) elt ef)
  {RR:Value->Addr->Result->Shared->Prop}
  (hRR:∀ (a C:Addr) (H':Hp) (s':Shared) (vs:List V),Same H H'->H' a=some (.lst vs)->Reps X.K H' out vs->L2.Inv X pins σ H' s'->FpOk X pins H' C->(∃ m,s'.heap.Ns C m)->RR (.ref a) C (.ok .next) s') :
  wpAny (model X.prog X.w) X.A (newList []) (fun acc s₃=>wpAny (model X.prog X.w) X.A (newFunctionEnv scope X.env.globals (clOf scope.names X.env.cells []) [] X.env.qual none .none (some X.env)) (fun cenv s₄ =>
   codeAny (model X.prog X.w) X.A (.compStart (.ListComp elt [⟨tg,iter,ifs,0⟩] scope pos) 0 (.ref it) acc {cenv with scope:=relabel scope X.env}) (RR acc cenv.locals) s₄) E s₃) E s:=by
 refine wpAny_newObj_type (wpAny_newFunctionEnv ck.nocell (by intro y hy;simp at hy) (fun h₁ hns₁ hsb₁=>?_) ck.kind)
 dsimp only at hns₁ hsb₁ ⊢
 generalize hH2:s.heap.push {cls:=.type "list",dict:=none,data:=.seq ([]:List Value).toArray}=H2 at hns₁ hsb₁ ⊢
 generalize ha:s.heap.objs.size=a at *
 generalize hCe:H2.objs.size=C at hns₁ hsb₁ ⊢
 have hC:C=a+1:=by rw [<- hCe,<- hH2,Heap.size_push,ha]
 have haC':a<C:=by rw [hC];exact Nat.lt_succ_self a
 have haC:a≠C:=Nat.ne_of_lt haC'
 have hle:s.heap.objs.size<=a:=Nat.le_of_eq ha
 have hCle:s.heap.objs.size<=C:=Nat.le_trans hle (Nat.le_of_lt haC')
 have hlta:∀ {b:Addr} {o:Obj},s.heap.get? b=some o->b<a:=fun e=>Nat.lt_of_lt_of_le (Heap.lt_size e) hle
 have old:∀ b o,s.heap.get? b=some o->h₁.get? b=some o:=fun b o e=>hsb₁.extBut b o (Nat.ne_of_lt (Nat.lt_trans (hlta e) haC')) (Heap.get?_push_of_some _ (hH2 ▸ Heap.get?_push_of_some _ e))
 have hacc:h₁.get? a=some {cls:=.type "list",data:=.seq ([]:List Value).toArray}:=hsb₁.extBut _ _ haC (Heap.get?_push_of_some _ (hH2 ▸ (ha ▸ Heap.get?_push_size _ rfl)))
 have hfo:∀ b∈fp,∃ o,s.heap.get? b=some o:=fun b hb=>let ⟨o,e,_⟩:=Tn.obj 0 _ st b hb;⟨o,e⟩
 have hlt:∀ b∈fp,b<a:=fun b hb=>let ⟨o,e⟩:=hfo b hb;hlta e
 have hns:h₁.Ns C (fun _=>none):=hns₁
 have I0:L2.Inv (cxC X T scope C fp s H) [] (List.replicate T.length none++σ) H {s with heap:=h₁,toks:=s.toks+([]:List (Str×Value)).length}:=inv_comp I ck hnd hf hfo hCle old hns
 have hcl:∀ y c,(clOf scope.names X.env.cells []).lookup y=some c->X.env.cells.lookup y=some c:=clOf_ok scope.names [] fun y c h=>by cases h
 have hfs:∀ b,a<=b->b∉frs X.stack:=fun b hb hz=>by
  rcases List.mem_cons.mp (I.stkSub b hz) with z | z
  ·exact absurd (Nat.lt_of_lt_of_le I.lt (Nat.le_trans hle (z ▸ hb))) (Nat.lt_irrefl _)
  ·exact I.nofs (Nat.le_trans hle hb) z
 have hcells:∀ b,a<=b->∀ x c,(clOf scope.names X.env.cells []).lookup x=some c->c≠b:=fun b hb x c h z=>by
  obtain ⟨v,q⟩:=I.cell x c (hcl x c h)
  exact absurd (Nat.lt_of_lt_of_le q.lt (Nat.le_trans hle (z ▸ hb))) (Nat.lt_irrefl _)
 have hfpok:∀ {H':Hp} {pl:List (Addr×Obj)},(∀ b∈fp,H' b=none)->(∀ p∈pl,p.1∉fp)->∀ b∈fp,FpOk (cxC X T scope C fp s H) pl H' b:=fun {H' pl} hn hp b hb =>
  fp_of (.inl hb) (Nat.ne_of_lt (Nat.lt_trans (hlt b hb) haC')) (I0.ok.exfs b hb) (fun x c h=>(I0.ok.exf b hb).2 x c h) (hn b hb) fun p hp' z=>hp p hp' (z ▸ hb)
 have hAok:∀ {H':Hp},H' a=none->∀ b ∈ [a],FpOk (cxC X T scope C fp s H) [] H' b:=fun {H'} hn b hb=>by
  cases List.mem_singleton.mp hb
  exact fp_of (.inr hle) haC (hfs a (Nat.le_refl _)) (hcells a (Nat.le_refl _)) hn fun p hp=>absurd hp (by simp)
 have hAfp:a∉fp:=fun z=>Nat.lt_irrefl _ (hlt a z)
 have loop:codeAny (model X.prog X.w) X.A (.compLoop (.ListComp elt [⟨tg,iter,ifs,0⟩] scope pos) 0 (.ref it) (.ref a) (compEnvC scope (clOf scope.names X.env.cells []) C X.env))
   (RR (.ref a) C) {s with heap:=h₁,toks:=s.toks+([]:List (Str×Value)).length}:=by
  refine compLoop_any (fun n s'=>∃ i σ' H' vs its k done rest,n=ds.length - i/\i<=ds.length/\L2.Inv (cxC X T scope C fp s H) [] σ' H' s'/\tn i s'.heap/\(∀ b∈fp,H' b=none)/\H' a=none/\Same H H' /\
   s'.heap.get? a=some {cls:=.type "list",data:=.seq (its:List Value).toArray k}/\Vals vs its/\Reps X.K H' done vs/\vs.length<=i/\EnvR X.K H' (List.replicate T.length none++ρ) σ' /\
   compD stf cf ef (ds.drop i) (List.replicate T.length none++ρ)=some rest/\out=done++rest) ?_ ds.length
   ⟨0,_,H,[],[],0,[],out,by omega,Nat.zero_le _,I0,Tn.keep _ _ _ st (fun b hb o e=>old b o e),fun b hb=>(hf b hb).1,I.hok.fresh hle,Same.refl H,hacc,.nil,rfl,Nat.zero_le _,er.front T.length (List.replicate T.length none) (by simp),by simpa using hout,rfl⟩
  rintro n s' ⟨i,σ',H',vs,its,k,done,rest,rfl,hi,I',st',hn',hna,sm,ho,hv,hrd,hvl,er',hrest,hsum⟩
  have Ip:=I'.pinned (fp:=[a]) (hAok hna) fun b hb=>by
   cases List.mem_singleton.mp hb
   exact ⟨_,ho,fun v z=>by cases z⟩
  generalize hP:([]:List (Addr×Obj))++pinsAt [a] s'.heap=P at Ip
  have hPm:(a,({cls:=.type "list",data:=.seq its.toArray k}:Obj))∈P:=by rw [<- hP];exact List.mem_append_right _ (bA (by simp) ho)
  have hPa:∀ p∈P,p.1∉fp:=fun p hp z=>by
   rw [<- hP] at hp
   obtain ⟨q,_⟩:=of_pinsAt hp
   rw [List.mem_singleton.mp q] at z
   exact hAfp z
  by_cases hlt':i<ds.length
  ·have hd:ds[i]?=some ds[i]:=by simp [hlt']
   obtain ⟨hgo,hy⟩:=y.1 i ds[i] H' (Kp.of sm) hd
   rw [List.drop_eq_getElem_cons hlt'] at hrest
   obtain ⟨ρ1,e1,hrest⟩:=bindS hrest
   obtain ⟨b,e2,hrest⟩:=bindS hrest
   obtain ⟨o,e3,hrest⟩:=bindS hrest
   obtain ⟨rest',e4,e5⟩:=mapS hrest
   obtain ⟨τ,hτ,hρ1⟩:=hst ds[i] (List.replicate T.length none) ρ ρ1 (by simp) e1
   refine thn (Tn.item (cxC X T scope C fp s H) rfl rfl rfl hc i P s' σ' H' (fun _ _=>False) Ip (hfpok hn' hPa) st' hgo) fun r s1 ⟨u,hr,h4⟩=>?_
   subst hr
   refine thn h4 fun _ s2 ⟨x,H2',I2,r2,y2,st2,fr2⟩=>?_
   obtain ⟨s12,rx⟩:=hy x H2' y2
   have I3:=I2.pinned (fp:=fp) (hfpok fr2 hPa) (Tn.obj _ _ st2)
   refine thn (hg C s H fp I.base.tbls _ s2 σ' H2' x u (fun σ3 H3=>Same H2' H3/\EnvR X.K H3 ρ1 σ3) I3 r2 ⟨_,_,ds[i],ρ1,(er'.mono s12).t,rx,e1,fun σ3 H3 s3 er3=>⟨s3,er3.1⟩⟩) fun _ s3 ⟨σ3,H3,I4,s23,er3⟩=>?_
   refine thn (hcnd C s H fp I.base.tbls _ s3 σ3 H3 (fun b' H4=>b'=b/\Same H3 H4) I4 ⟨ρ1,b,er3,e2,fun H4 s4=>⟨rfl,s4⟩⟩) fun b' s4 ⟨H4,I5,hb',s34⟩=>?_
   subst hb'
   have fin:∀ {H5:Hp} {s5:Shared},L2.Inv (cxC X T scope C fp s H) (P++pinsAt fp s2.heap) σ3 H5 s5->(∀ b∈fp,H5 b=none)/\H5 a=none/\s5.heap.get? a=some {cls:=.type "list",data:=.seq its.toArray k}/\(∀ b∈fp,∀ o,s2.heap.get? b=some o->s5.heap.get? b=some o):=fun {H5 s5} I6=>by
    refine ⟨fun b hb=>?_,(I6.pin _ (List.mem_append_right _ (List.mem_append_left _ hPm))).2.1,(I6.pin _ (List.mem_append_right _ (List.mem_append_left _ hPm))).1,fun b hb o e=>(I6.pin (b,o) (List.mem_append_right _ (List.mem_append_right _ (bA hb e)))).1⟩
    obtain ⟨o,e,_⟩:=Tn.obj _ _ st2 b hb
    exact (I6.pin (b,o) (List.mem_append_right _ (List.mem_append_right _ (bA hb e)))).2.1
   have unpin:∀ {H5:Hp} {s5:Shared},L2.Inv (cxC X T scope C fp s H) (P++pinsAt fp s2.heap) σ3 H5 s5->L2.Inv (cxC X T scope C fp s H) [] σ3 H5 s5:=fun I6=>I6.pins_of fun p hp=>absurd hp (by simp)
   have erb:∀ {H5:Hp},Same H3 H5->EnvR X.K H5 (List.replicate T.length none++ρ) σ3:=fun s5=>by
    have z:=er3.mono s5
    rw [hρ1] at z
    have z2:=z.forget
    rw [hτ] at z2
    exact z2
   cases b' with
   | false =>
    cases e3
    rw [if_neg Bool.false_ne_true]
    obtain ⟨q1,q2,q3,q4⟩:=fin I5
    have sm4:Same H H4:=sm.trans (s12.trans (s23.trans s34))
    have smr:Same H' H4:=s12.trans (s23.trans s34)
    exact ⟨ds.length - (i+1),by omega,i+1,σ3,H4,vs,its,k,done,rest',rfl,hlt',unpin I5,Tn.keep _ _ _ st2 q4,q1,q2,sm4,q3,hv,hrd.mono smr,Nat.le_succ_of_le hvl,erb s34,e4,by rw [hsum,<- e5]⟩
   | true =>
    rw [if_pos rfl] at e3 ⊢
    obtain ⟨yv,e6,e7⟩:=mapS e3
    subst e7
    refine thn (he C s H fp I.base.tbls _ s4 σ3 H4 (fun v H5=>Same H4 H5/\Rep X.K H5 yv v) I5 ⟨ρ1,yv,er3.mono s34,e6,fun v H5 s5 r5=>⟨s5,r5⟩⟩) fun xv s5 ⟨v,H5,I6,rv,s45,ry⟩=>?_
    obtain ⟨q1,q2,q3,q4⟩:=fin I6
    have hl:=hv.length
    refine call_meets F.slot_list_append ⟨_,q3,rfl⟩ F.entry_list_append (F.args_list_append_2 _ _) (PySem.list_append a its.toArray k xv (by rw [List.size_toArray];omega)) ⟨q3,?_⟩
    have q:=PySem.IsL.update q3 (fun xs=>xs.push xv)
    have sm5:Same H H5:=sm.trans (s12.trans (s23.trans (s34.trans s45)))
    have smr:Same H' H5:=s12.trans (s23.trans (s34.trans s45))
    have I7:L2.Inv (cxC X T scope C fp s H) [] σ3 H5 {s5 with heap:=s5.heap.update a (Obj.mapSeq fun xs=>xs.push xv),toks:=s5.toks} :=
     (unpin I6).turned (it:=a) (t':=s5.toks) (fun b ob hb hu=>(Heap.get?_update_other s5.heap _ (Ne.symm hb)).trans hu) q2 haC (.inr hle) (hcells a (Nat.le_refl _)) fun p hp=>absurd (show p∈([]:List (Addr×Obj)) from hp) (by simp)
    refine ⟨ds.length - (i+1),by omega,i+1,σ3,H5,vs++[v],its++[xv],(if (its.toArray.push xv).size==its.toArray.size then k else k+1),done++[yv],rest',rfl,hlt',I7,Tn.keep _ _ _ st2 fun b hb ob e=>?_,q1,q2,sm5,?_,hv.append (.cons rv .nil),(hrd.mono smr).append (Reps.one ry),by simp;omega,erb (s34.trans s45),e4,by rw [hsum,<- e5];simp⟩
    ·have hne:b≠a:=fun z=>hAfp (z ▸ hb)
     exact (Heap.get?_update_other s5.heap _ (Ne.symm hne)).trans (q4 b hb ob e)
    ·have z:its.toArray.push xv=(its++[xv]).toArray:=by simp
     rw [<- z]
     exact q
  ·have ei:i=ds.length:=by omega
   subst ei
   rw [List.drop_length] at hrest
   cases hrest
   rw [List.append_nil] at hsum
   subst hsum
   refine thn (Tn.done (cxC X T scope C fp s H) rfl rfl rfl hc ds.length P s' σ' H' (fun _ _=>False) Ip (hfpok hn' hPa) st' (y.2 _ H' (Kp.of sm) (Nat.le_refl _))) fun r s1 ⟨hr,I1⟩=>?_
   subst hr
   have ho1:=(I1.pin _ (List.mem_append_right _ hPm)).1
   have IX:L2.Inv X pins σ H' s1:=I.call' (ch:=fp) I1.os I1.base I1.hok I1.bare fun b hb=>⟨(hf b hb).2.2.2.1,(hf b hb).2.1,(hf b hb).2.2.2.2.1,(hf b hb).2.2.2.2.2⟩
   have fA:FpOk X pins H' a:=I.fpOk hle hna
   have s2:=bt hna (.lst vs)
   refine hRR a C (upd H' a (.lst vs)) s1 vs (sm.trans s2) ar (hrd.mono s2) (track IX fA ⟨Nat.le_trans hvl hz,its,k,hv,ho1⟩) (I.fpOk hCle ?_) (let ⟨m,q,_⟩:=I1.loc;⟨m,q⟩)
   rw [aq (Ne.symm haC)]
   exact I1.free
 exact codeAny_compStart_list loop (Tn.self _ _ _ _ _ (Tn.keep _ _ _ st fun b hb o e=>old b o e) loop)
variable {elt iter tg:Expr} {ifs:List Expr} {pos p2:Pos} {itf:R->Option (List D)} {stf:D->R->Option R} {cf:R->Option Bool} {ef:R->Option D}
theorem ez (I:L2.Inv X pins σ H s) (ck:CompOk scope X.env.scope T X.N):closureFor scope X.env=pure (clOf scope.names X.env.cells []):=closure_eq fun p hp hf=>I.ok.has p.1 (ck.free p hp hf)
theorem g_ (hc:X.calm=true) (hi:SI X tg iter itf) (hg:∀ C s₃ H₃ fp,TbS X H₃->SG (cxC X T scope C fp s₃ H₃) tg stf) (hcnd:∀ C s₃ H₃ fp,TbS X H₃->SIf (cxC X T scope C fp s₃ H₃) ifs cf) (he:∀ C s₃ H₃ fp,TbS X H₃->SE (cxC X T scope C fp s₃ H₃) elt ef)
  (hst:Front T.length stf) (hnd:(T++X.N).Nodup) (ck:compChk scope X.env.scope T X.N=true:=by rfl) (hs:∀ x,foldedSetIterable iter X.env x=pure x:=by intro _;rfl) :
  SE X (.ListComp elt [⟨tg,iter,ifs,0⟩] scope pos) (lcD T.length itf stf cf ef):=by
 intro pins s σ H Q I hw
 obtain ⟨ρ,d,er,e,q⟩:=hw
 obtain ⟨ds,e1,e⟩:=bindS e
 have ck':=compOk_of ck
 split at e
 ·rename_i hz
  obtain ⟨out,e2,e3⟩:=mapS e
  subst e3
  rw [eval_ListComp]
  refine wpAny_comprehension_free (use:=none) rfl hs (ez I ck') ck'.kind ck'.names ?_
  refine thn (hi pins s σ H (fun J H'=>Same H H'/\Yields X.K J ds H') I ⟨ρ,ds,er,e1,fun J H' s1 y=>⟨s1,y⟩⟩) fun v s1 h1=>thn h1 fun itv s2 h2=>?_
  obtain ⟨it,fp,tn,J,H',ei,I2,Tn,st,hf,s12,y⟩:=h2
  subst ei
  refine jb (RR:=fun acc C=>compPost (model X.prog X.w) X.A X.xe none (EP X pins σ Q) acc C) I2 hc Tn st hf ck' hnd hst (er.mono s12) y hz e2 hg hcnd he ?_
  intro a C H3 s' vs sm ha hr I3 fC hns
  obtain ⟨m,hm⟩:=hns
  refine ⟨m,hm,fun h' hsb=>⟨.ref a,H3,?_,rfl,q _ H3 (s12.trans sm) ⟨a,vs,rfl,ha,hr⟩⟩⟩
  obtain ⟨f0,f1,f2,f3,f4,f5⟩:=fC
  exact I3.turned (it:=C) (t':=s'.toks) (fun b o hb eb=>(hsb.2 b hb).trans eb) f0 f1 f3 f4 f5
 ·cases e
theorem kW {i:Nat} {x:Str} {py:Pos} {spos:Pos} (hc:X.calm=true) (hN:X.N.Nodup) (hi:SI X tg iter itf) (hg:∀ C s₃ H₃ fp,TbS X H₃->SG (cxC X T scope C fp s₃ H₃) tg stf) (hcnd:∀ C s₃ H₃ fp,TbS X H₃->SIf (cxC X T scope C fp s₃ H₃) ifs cf) (he:∀ C s₃ H₃ fp,TbS X H₃->SE (cxC X T scope C fp s₃ H₃) elt ef)
  (hst:Front T.length stf) (hnd:(T++X.N).Nodup) (hix:X.N[i]?=some x:=by rfl) (hx:Loc X.env.scope x:=by first | exact Or.inl rfl | exact Or.inr rfl) (hfn:X.fn x=true\/X.env.scope.names.lookup x=some .local:=by first | exact .inl rfl | exact .inr rfl)
  (ck:compChk scope X.env.scope T X.N=true:=by rfl) (hsw:swapsWith (.ListComp elt [⟨tg,iter,ifs,0⟩] scope pos) (some (.Name x py)) spos.line X.env=pure true:=by rfl) (hs:∀ x,foldedSetIterable iter X.env x=pure x:=by intro _;rfl) :
  S1 X (.Assign [.Name x py] (.ListComp elt [⟨tg,iter,ifs,0⟩] scope pos) spos) (asgD (lcD T.length itf stf cf ef) (setAt i)):=by
 intro pins s σ H E I hw
 obtain ⟨ρ,τ,o,er,e,q⟩:=hw
 obtain ⟨d,e0,e⟩:=bindS e
 obtain ⟨ρ',e9,e⟩:=mapS e
 subst e
 unfold setAt at e9
 split at e9
 case isFalse=>cases e9
 case isTrue hlt =>
 cases e9
 obtain ⟨ds,e1,e⟩:=bindS e0
 have ck':=compOk_of ck
 split at e
 ·rename_i hz
  obtain ⟨out,e2,e3⟩:=mapS e
  subst e3
  rw [exec_Assign_Name_used _ _ _ _ hsw]
  refine wpAny_bind (wpAny_standAt (wpAny_bind ?_))
  show wpAny _ X.A (do let _ <- comprehension (.ListComp elt [⟨tg,iter,ifs,0⟩] scope pos) scope X.env _ (newList []) false (eval iter X.env) (some (assign (.Name x py) X.env))) _ _ s
  refine wpAny_bind (wpAny_mono (wpAny_comprehension_free (use:=some (assign (.Name x py) X.env)) (Q:=fun _ s'=>SP X pins E .next s') rfl hs (ez I ck') ck'.kind ck'.names ?_) (fun _ s' hq=>wpAny_pure (wpAny_pure hq)) fun _ _ z=>z)
  refine thn (hi pins s σ H (fun J H'=>Same H H'/\Yields X.K J ds H') I ⟨ρ,ds,er.1,e1,fun J H' s1 y=>⟨s1,y⟩⟩) fun v s1 h1=>thn h1 fun itv s2 h2=>?_
  obtain ⟨it,fp,tn,J,H',ei,I2,Tn,st,hf,s12,y⟩:=h2
  subst ei
  refine jb (RR:=fun acc C=>compPost (model X.prog X.w) X.A X.xe (some (assign (.Name x py) X.env)) (fun _ s'=>SP X pins E .next s') acc C) I2 hc Tn st hf ck' hnd hst (er.1.mono s12) y hz e2 hg hcnd he ?_
  intro a C H3 s' vs sm ha hr I3 fC hns
  obtain ⟨m,hm⟩:=hns
  obtain ⟨f0,f1,f2,f3,f4,f5⟩:=fC
  show wpAny _ X.A (assign (.Name x py) X.env (.ref a)) _ _ _
  refine wpAny_assign_Name (store_ok2 (v:=.ref a) I3 hN hix hx rfl (fun s'' I4 ⟨b,hsb,hb⟩=>?_) hfn)
  have hCb:C≠b:=by
   rcases hb with z | z
   ·exact z ▸ f1
   ·exact Ne.symm (f4 x b z)
  refine ⟨m,hm.sameBut hsb hCb,fun h' hsb2=>⟨σ.set i (some (.ref a)),H3,I4.turned (it:=C) (t':=s''.toks) (fun b o hb eb=>(hsb2.2 b hb).trans eb) f0 f1 f3 f4 f5,q H3 (s12.trans sm) _ ?_⟩⟩
  exact (er.mono (s12.trans sm)).set hlt ⟨a,vs,rfl,ha,hr⟩
 ·cases e
end
end HW
set_option maxHeartbeats 1000000
namespace HW
open PySem PySem.Spec PyProof.Rows L2
section
variable {X:Cx}
mutual
theorem reads_of {pins:List (Addr×Obj)} {σ:L2.St} {H:Hp} {s:Shared} (I:L2.Inv X pins σ H s):∀ {d:D} {v:V} {u:Value},nob d=true->Rep X.K H d v->RelV v u->∃ as,Reads s.heap u (toPy d) as
 | .non,v,u,hn,h,r=>by
  cases (show v=_ from h)
  cases (show u=_ from r)
  exact ⟨_,.none⟩
 | .bl b,v,u,hn,h,r=>by
  cases (show v=_ from h)
  cases (show u=_ from r)
  exact ⟨_,.bool b⟩
 | .int i,v,u,hn,h,r=>by
  cases (show v=_ from h)
  obtain ⟨t,rfl⟩:=r
  exact ⟨_,.int i t⟩
 | .str x,v,u,hn,h,r=>by
  cases (show v=_ from h)
  obtain ⟨t,rfl⟩:=r
  exact ⟨_,.str x t⟩
 | .tup ds,v,u,hn,h,r=>by
  obtain ⟨a,xs,rfl,q,t⟩:=h
  cases (show u=_ from r)
  obtain ⟨its,rv,⟨o,e,c,n,dd⟩,_⟩:=I.tuple q
  obtain ⟨as,ra⟩:=reads_ofs I hn t rv
  exact ⟨_,.tuple e c dd (by simpa using ra)⟩
 | .lst ds,v,u,hn,h,r=>by
  obtain ⟨a,xs,rfl,q,t⟩:=h
  cases (show u=_ from r)
  obtain ⟨its,rv,⟨o,n,e,c,_,dd⟩,_⟩:=I.list (SqL.of q)
  obtain ⟨as,ra⟩:=reads_ofs I hn t rv
  exact ⟨_,.list e c dd (by simpa using ra)⟩
 | .fro ds,v,u,hn,h,r=>by
  obtain ⟨a,xs,rfl,q,t⟩:=h
  cases (show u=_ from r)
  obtain ⟨its,rv,⟨o,n,e,c,_,dd⟩,_⟩:=I.list q
  obtain ⟨as,ra⟩:=reads_ofs I hn t rv
  exact ⟨_,.list e c dd (by simpa using ra)⟩
 | .obj ..,v,u,hn,h,r=>by cases hn
 | .dct ..,v,u,hn,h,r=>by cases hn
 | .cl ..,v,u,hn,h,r=>by cases hn
theorem reads_ofs {pins:List (Addr×Obj)} {σ:L2.St} {H:Hp} {s:Shared} (I:L2.Inv X pins σ H s):∀ {ds:List D} {vs:List V} {us:List Value},nobs ds=true->Reps X.K H ds vs->Vals vs us->∃ as,ReadsAll s.heap us (toPys ds) as
 | [],vs,us,hn,h,r=>by
  cases (show vs=[] from h)
  cases r
  exact ⟨_,.nil⟩
 | d::ds,vs,us,hn,h,r=>by
  have hn':(nob d&&nobs ds)=true:=hn
  rw [Bool.and_eq_true] at hn'
  obtain ⟨v,vr,rfl,h1,h2⟩:=h
  cases r with
  | cons r1 r2 =>
   obtain ⟨as,q1⟩:=reads_of I hn'.1 h1 r1
   obtain ⟨bs,q2⟩:=reads_ofs I hn'.2 h2 r2
   exact ⟨_,.cons q1 q2⟩
end
end
def OwnO (a:Addr) (xs:List V):HO:=.ext fun h=>xs.length<=sizeLine/\∃ (its:List Value) (n:Nat),Vals xs its/\h.get? a=some {cls:=.type "list",data:=.seq its.toArray n}
section
variable {X:Cx} {pins:List (Addr×Obj)} {σ:L2.St} {H:Hp} {s:Shared} {a:Addr} {xs:List V}
theorem kY (I:L2.Inv X pins σ H s) (h:H a=some (OwnO a xs)):xs.length<=sizeLine/\∃ (its:List Value) (n:Nat),Vals xs its/\s.heap.get? a=some {cls:=.type "list",data:=.seq its.toArray n}:=(I.hok a _ h).1
theorem to_own (I:L2.Inv X pins σ H s) (h:H a=some (.lst xs)):L2.Inv X pins σ (upd H a (OwnO a xs)) s:=by
 obtain ⟨z,its,n,r,e⟩:=I.hok a _ h
 have:=I.write (t':=s.toks) (h':=s.heap) (o:=OwnO a xs) (x:=a) (e:=a) (by rw [h];trivial) (.inl rfl) (fun _ _ _ q=>q) ⟨_,e⟩ ⟨⟨z,its,n,r,e⟩,⟨_,e⟩,fun h1 h2 ⟨z,its,n,r,e⟩ k=>⟨z,its,n,r,k _ e⟩⟩
 exact this
theorem to_lst (I:L2.Inv X pins σ H s) (h:H a=some (OwnO a xs)):L2.Inv X pins σ (upd H a (.lst xs)) s:=by
 obtain ⟨z,its,n,r,e⟩:=kY I h
 have:=I.write (t':=s.toks) (h':=s.heap) (o:=.lst xs) (x:=a) (e:=a) (by rw [h];trivial) (.inl rfl) (fun _ _ _ q=>q) ⟨_,e⟩ ⟨z,its,n,r,e⟩
 exact this
def SmA (a:Addr) (H H':Hp):Prop:=∀ b u,b≠a->H b=some u->H' b=some u
theorem SmA.of {H H':Hp} (h:Same H H'):SmA a H H':=fun b u _ e=>h b u e
theorem SmA.trans {H H1 H2:Hp} (h:SmA a H H1) (h':SmA a H1 H2):SmA a H H2:=fun b u n e=>h' b u n (h b u n e)
theorem SmA.upd {o:HO}:SmA a H (upd H a o):=fun b u n e=>by rw [aq n];exact e
theorem SmA.kp {H H':Hp} (h:SmA a H H') (ho:H a=some (OwnO a xs)):Kp H H':=fun b u e n=>by
 by_cases hb:b=a
 ·subst hb
  rw [ho] at e
  cases e
  exact absurd rfl (n _)
 ·exact h b u hb e
end
section
variable (K:PySem.W.Frag)
def tOS (u:R->List D->Option (Out×List D)):TS:=fun E σ H=>∃ ρ τ a ds xs o ds',EnvT K H ρ (some (.ref a)::τ) σ/\H a=some (OwnO a xs)/\Reps K H ds xs/\u ρ ds=some (o,ds') /\
 ∀ H' xs',SmA a H H'->H' a=some (OwnO a xs')->Reps K H' ds' xs'->fin K E (some (.ref a)::τ) o H'
def tOB (u:R->List D->Option Out):TS:=fun E σ H=>∃ ρ τ a ds xs o,EnvT K H ρ (some (.ref a)::τ) σ/\H a=some (OwnO a xs)/\Reps K H ds xs/\u ρ ds=some o/\∀ H',SmA a H H'->fin K E τ o H'
end
def OS (X:Cx) (st:Stmt) (u:R->List D->Option (Out×List D)):Prop:=PS X st (tOS X.K u)
def OSS (X:Cx) (sts:List Stmt) (u:R->List D->Option (Out×List D)):Prop:=PSs X sts (tOS X.K u)
def OB (X:Cx) (sts:List Stmt) (u:R->List D->Option Out):Prop:=PSs X sts (tOB X.K u)
section
variable {X:Cx} {st:Stmt} {sts:List Stmt} {u:R->Option Out} {p q:R->List D->Option (Out×List D)} {pos:Pos}
theorem pure_of {E:Ends} {σ:L2.St} {H:Hp} {K:PySem.W.Frag} (h:tOS K (oPure u) E σ H):tDS K u E σ H:=by
 obtain ⟨ρ,τ,a,ds,xs,o,ds',er,ho,rp,e,q⟩:=h
 obtain ⟨o1,e1,e2⟩:=mapS e
 cases e2
 exact ⟨ρ,_,o,er,e1,fun H' s=>q H' xs (SmA.of s) (s _ _ ho) (rp.mono s)⟩
theorem kU (h:S1 X st u):OS X st (oPure u):=PS.imp h fun E σ H z=>pure_of z
theorem mT (h:OS X st p):OSS X [st] p:=fg h
theorem nN {tg iter:Expr} {B:List Stmt} {it:R->Option (List D)} {stf:D->R->Option R} (hp:PassesOwn (model X.prog X.w) X.A X.env X.xe) (hc:X.calm=true) (hi:SI X tg iter it) (hg:SG X tg stf) (hb:OSS X B p)
  (hs:∀ x,foldedSetIterable iter X.env x=pure x:=by intro _;rfl):OS X (.For tg iter B [] pos) (oLoop it stf p):=(lQ hp hc hi hg hb hs).imp fun E σ H ⟨ρ,τ,a,ls,xs,o,ls',er,ho,rp,e,q⟩=>by
 obtain ⟨ds,e1,e⟩:=bindS e
 refine ⟨ρ,ds,er.1,e1,fun J H1 s1 y=>?_⟩
 refine ⟨fun i m σ' H'=>m=ds.length - i/\i<=ds.length/\SmA a H1 H'/\∃ ρ' l xs',EnvT X.K H' ρ' (some (.ref a)::τ) σ'/\H' a=some (OwnO a xs')/\Reps X.K H' l xs'/\forO stf p (ds.drop i) ρ' l=some (o,ls'),
  ⟨ds.length,by simp,Nat.zero_le _,SmA.of (Same.refl _),ρ,ls,xs,er.mono s1,s1 _ _ ho,rp.mono s1,by simpa using e⟩,?_⟩
 rintro i m σ' H' ⟨rfl,hi,s2,ρ',l,xs',er',ho',rp',e'⟩
 have kp:Kp H1 H':=s2.kp (s1 _ _ ho)
 by_cases hlt:i<ds.length
 ·refine .inr ?_
  have hd:ds[i]?=some ds[i]:=by simp [hlt]
  obtain ⟨hgo,hy⟩:=y.1 i ds[i] H' kp hd
  rw [List.drop_eq_getElem_cons hlt] at e'
  obtain ⟨ρ1,e2,e'⟩:=bindS e'
  obtain ⟨⟨o1,l1⟩,e3,e'⟩:=bindS e'
  refine ⟨hgo,fun σ2 H2=>i+1<=ds.length/\SmA a H1 H2/\∃ ρ' l xs',EnvT X.K H2 ρ' (some (.ref a)::τ) σ2/\H2 a=some (OwnO a xs')/\Reps X.K H2 l xs'/\forO stf p (ds.drop (i+1)) ρ' l=some (o,ls'),
   fun σ2 H2 n2=>⟨ds.length - (i+1),by omega,rfl,n2.1,n2.2⟩,fun x H3 yx=>?_⟩
  obtain ⟨s3,rx⟩:=hy x H3 yx
  refine ⟨ρ',_,ds[i],ρ1,er'.mono s3,rx,e2,fun σ4 H4 s4 er4=>⟨ρ1,τ,a,l,xs',o1,l1,er4,s4 _ _ (s3 _ _ ho'),(rp'.mono s3).mono s4,e3,fun H5 xs5 k5 ho5 rp5=>?_⟩⟩
  have s15:SmA a H1 H5:=s2.trans ((SmA.of s3).trans ((SmA.of s4).trans k5))
  cases o1 with
  | nx ρ2=>exact fun σ6 er6=>⟨hlt,s15,ρ2,l1,xs5,er6,ho5,rp5,e'⟩
  | ct ρ2=>exact fun σ6 er6=>⟨hlt,s15,ρ2,l1,xs5,er6,ho5,rp5,e'⟩
  | bk ρ2=>cases e';exact fun σ6 er6=>q H5 xs5 ((SmA.of s1).trans s15) ho5 rp5 σ6 er6
  | rt d=>cases e';exact q H5 xs5 ((SmA.of s1).trans s15) ho5 rp5
 ·have e4:i=ds.length:=by omega
  subst e4
  rw [List.drop_length] at e'
  cases e'
  exact .inl ⟨y.2 _ H' kp (Nat.le_refl _),q H' xs' ((SmA.of s1).trans s2) ho' rp' σ' er'⟩
theorem mj {K:PySem.W.Frag} {H:Hp} {ρ:R} {v:V} {τ σ:L2.St} (er:EnvT K H ρ (some v::τ) σ):σ[ρ.length]?=some (some v):=by
 have:=er.2
 have h0:(σ.drop ρ.length)[0]?=some (some v):=by rw [this];rfl
 rw [List.getElem?_drop] at h0
 simpa using h0
theorem mq {x name:Str} {e:Expr} {px ap cp:Pos} {f:R->Option D} {id:String} {r:V->List V->Hp->VK->Prop} {g:List D->D->Option (List D)} {u:R->List D->Option (Out×List D)} (i:Nat) (slot:Slot "list" name id) (hty:typeOf (.builtin id)=pure (.type "method_descriptor")) (hm:MtM X id r)
  (hu:∀ ρ ds o ds',u ρ ds=some (o,ds')->ρ.length=i/\o=.nx ρ/\∃ d,f ρ=some d/\g ds d=some ds')
  (hr:∀ (H:Hp) (a:Addr) (xs:List V) (v:V) (ds ds':List D) (d:D) (Q:VK),H a=some (OwnO a xs)->Reps X.K H ds xs->Rep X.K H d v->g ds d=some ds'->(∀ xs',Reps X.K H ds' xs'->Q .non (upd (upd H a (.lst xs)) a (.lst xs')))->r (.ref a) [v] (upd H a (.lst xs)) Q)
  (he:SE X e f) (hN:X.N[i]?=some x:=by rfl) (hv:Vis X.env.scope x:=by first | exact Or.inl rfl | exact Or.inr (Or.inl rfl) | exact Or.inr (Or.inr rfl)) (hd:(x==("__debug__" : Str))=false:=by decide) (hcd:(x==("__classdict__" : Str))=false:=by decide)
  (hbase:attributeBase (.Name x px) name X.env (eval (.Name x px) X.env)=eval (.Name x px) X.env:=by rfl) (hst:noStar e=true:=by rfl)
  (hline:(ap.endLine==cp.line)=true:=by rfl) (hs:swapsWith (.Call (.Attribute (.Name x px) name ap) [e] [] cp) none pos.line X.env=pure false:=by rfl) :
  OS X (.Expr (.Call (.Attribute (.Name x px) name ap) [e] [] cp) pos) u:=by
 intro pins s σ H E I ⟨ρ,τ,a,ds,xs,o,ds',er,ho,rp,eu,qq⟩
 obtain ⟨hi,rfl,d,e1,e2⟩:=hu ρ ds o ds' eu
 have hσ:=mj er
 rw [hi] at hσ
 have hst1:=ay [] X.env hst
 refine wpAny_Expr_any (wpAny_Call_method_late hbase ?_ hline rfl (thn ((pv i (pos:=px) hN hv hd hcd) pins s σ H (fun v H1=>v=.ref a/\H1=H) I ⟨.ref a,hσ,rfl,rfl⟩) fun v s1 ⟨y,H1,I1,r1,ey,eH⟩=>?_)) I.quiet hs
 ·rw [hst1]
  rfl
 subst ey eH
 cases (show v=_ from r1)
 obtain ⟨z,its,n,rv,eo⟩:=kY I1 ho
 refine ⟨"list",id,PySem.F.plainAttrs_list,slot,hty,⟨_,eo,rfl⟩,fun b eb=>?_,?_⟩
 ·cases eb
  exact ⟨_,eo,rfl⟩
 have hA:=(aa he ad hst).1 cp pins s1 σ H1 (fun vs H2=>Same H1 H2/\Reps X.K H2 [d] vs) I1 ⟨ρ,[d],er.1,by show (f ρ).bind _=_;rw [e1];rfl,fun vs H2 s2 r2=>⟨s2,r2⟩⟩
 rw [hst1] at hA ⊢
 refine Calls.callWith_builtin rfl (Calls.evalArgs_plain ?_)
 refine thn hA fun us s2 ⟨vs,H2,I2,r2,s12,rd⟩=>?_
 obtain ⟨w,w',rfl,rw1,rw2⟩:=rd
 cases (show w'=[] from rw2)
 have ho2:=s12 _ _ ho
 have I3:=to_lst I2 ho2
 refine thn (hm pins s2 σ (upd H2 a (.lst xs)) (.ref a) [w] (.ref a) us (fun v H3=>∃ xs',Reps X.K H2 ds' xs'/\H3=upd (upd H2 a (.lst xs)) a (.lst xs')) I3 rfl r2 (hr H2 a xs w ds ds' d _ ho2 (rp.mono s12) rw1 e2 fun xs' rp'=>⟨xs',rp',rfl⟩)) fun v s3 ⟨v',H3,I4,_,xs',rp',e3⟩=>?_
 subst e3
 have I5:=to_own I4 ar
 generalize hH5:upd (upd (upd H2 a (.lst xs)) a (.lst xs')) a (OwnO a xs')=H5 at I5
 have k25:SmA a H2 H5:=by
  subst hH5
  exact SmA.upd.trans (SmA.upd.trans SmA.upd)
 have ho5:H5 a=some (OwnO a xs'):=by subst hH5;exact ar
 have k15:SmA a H1 H5:=(SmA.of s12).trans k25
 refine ⟨σ,H5,I5,qq H5 xs' k15 ho5 (rp'.kp (k25.kp ho2)) σ (er.kp (k15.kp ho))⟩
theorem kK {x:Str} {e:Expr} {px ap cp:Pos} {f:R->Option D} (i:Nat) (he:SE X e f) (hN:X.N[i]?=some x:=by rfl) (hv:Vis X.env.scope x:=by first | exact Or.inl rfl | exact Or.inr (Or.inl rfl) | exact Or.inr (Or.inr rfl)) (hd:(x==("__debug__" : Str))=false:=by decide) (hcd:(x==("__classdict__" : Str))=false:=by decide)
  (hbase:attributeBase (.Name x px) "append" X.env (eval (.Name x px) X.env)=eval (.Name x px) X.env:=by rfl) (hst:noStar e=true:=by rfl)
  (hline:(ap.endLine==cp.line)=true:=by rfl) (hs:swapsWith (.Call (.Attribute (.Name x px) "append" ap) [e] [] cp) none pos.line X.env=pure false:=by rfl) :
  OS X (.Expr (.Call (.Attribute (.Name x px) "append" ap) [e] [] cp) pos) (oApp i f):=by
 refine mq (g:=fun ds d=>if ds.length<sizeLine then some (ds++[d]) else none) (f:=f) i PySem.F.slot_list_append PySem.F.type_list_append ln ?_ ?_ he hN hv hd hcd hbase hst hline hs
 ·intro ρ ds o ds' h
  obtain ⟨d,e1,h⟩:=bindS h
  split at h
  ·rename_i hc
   cases h
   exact ⟨hc.1,rfl,d,e1,if_pos hc.2⟩
  ·cases h
 ·intro H a xs v ds ds' d Q ho rp rd e q
  split at e
  ·rename_i hc
   cases e
   exact ⟨a,xs,v,rfl,rfl,ar,by rw [<- rp.length];exact hc,q _ (rp.append (Reps.one rd))⟩
  ·cases e
theorem nF {x:Str} {e:Expr} {px ap cp:Pos} {f:R->Option D} (i:Nat) (he:SE X e f) (hN:X.N[i]?=some x:=by rfl) (hv:Vis X.env.scope x:=by first | exact Or.inl rfl | exact Or.inr (Or.inl rfl) | exact Or.inr (Or.inr rfl)) (hd:(x==("__debug__" : Str))=false:=by decide) (hcd:(x==("__classdict__" : Str))=false:=by decide)
  (hbase:attributeBase (.Name x px) "extend" X.env (eval (.Name x px) X.env)=eval (.Name x px) X.env:=by rfl) (hst:noStar e=true:=by rfl)
  (hline:(ap.endLine==cp.line)=true:=by rfl) (hs:swapsWith (.Call (.Attribute (.Name x px) "extend" ap) [e] [] cp) none pos.line X.env=pure false:=by rfl) :
  OS X (.Expr (.Call (.Attribute (.Name x px) "extend" ap) [e] [] cp) pos) (oExt i f):=by
 refine mq (g:=fun ds d=>match d with | .lst es=>if ds.length+es.length<=sizeLine then some (ds++es) else none | _=>none) (f:=f) i PySem.F.slot_list_extend PySem.F.type_list_extend lq ?_ ?_ he hN hv hd hcd hbase hst hline hs
 ·intro ρ ds o ds' h
  obtain ⟨d,e1,h⟩:=bindS h
  cases d with
  | lst es =>
   dsimp only at h
   split at h
   ·rename_i hc
    cases h
    exact ⟨hc.1,rfl,_,e1,if_pos hc.2⟩
   ·cases h
  | _=>cases h
 ·intro H a xs v ds ds' d Q ho rp rd e q
  cases d with
  | lst es =>
   dsimp only at e
   split at e
   ·rename_i hc
    cases e
    obtain ⟨b,zs,rfl,hb,rz⟩:=rd
    have hne:b≠a:=fun z=>by
     rw [z,ho] at hb
     cases hb
    exact ⟨a,b,xs,zs,rfl,rfl,ar,by rw [aq hne];exact hb,by rw [<- rp.length,<- rz.length];exact hc,q _ (rp.append rz)⟩
   ·cases e
  | _=>cases e
theorem ek {w:R->List D->Option Out} (h1:OS X st p) (h2:OB X sts w):OB X (st::sts) (obSeq p w):=(fk h1 h2).imp fun E σ H ⟨ρ,τ,a,ds,xs,o,er,ho,rp,e,qq⟩=>by
 obtain ⟨⟨o1,ds1⟩,e1,e⟩:=bindS e
 refine ⟨ρ,τ,a,ds,xs,o1,ds1,er,ho,rp,e1,fun H1 xs1 k1 ho1 rp1=>?_⟩
 cases o1 with
 | nx ρ2=>exact fun σ2 er2=>⟨ρ2,τ,a,ds1,xs1,o,er2,ho1,rp1,e,fun H2 k2=>qq H2 (k1.trans k2)⟩
 | rt d=>cases e;exact qq H1 k1
 | bk ρ2=>cases e
 | ct ρ2=>cases e
theorem kR (h:SS X sts u):OB X sts (obRel u):=by
 intro pins s σ H E I ⟨ρ,τ,a,ds,xs,o,er,ho,rp,e,qq⟩
 have I2:=to_lst I ho
 have k:SmA a H (upd H a (.lst xs)):=SmA.upd
 have hσ:=mj er
 have er2:=er.kp (k.kp ho)
 refine h pins s σ _ E I2 ⟨ρ++[some (D.lst ds)],τ,o,⟨⟨?_,fun i d hd=>?_⟩,?_⟩,(show u (ρ++[some (D.lst ds)])=some o from e),fun H' s'=>qq H' (k.trans (SmA.of s'))⟩
 ·have:=(List.getElem?_eq_some_iff.mp hσ).1
  rw [List.length_append,List.length_singleton]
  exact this
 ·by_cases hi:i<ρ.length
  ·rw [List.getElem?_append_left hi] at hd
   exact er2.1.2 i d hd
  ·by_cases hi2:i=ρ.length
   ·subst hi2
    rw [List.getElem?_append_right (Nat.le_refl _),Nat.sub_self] at hd
    cases hd
    exact ⟨_,hσ,a,xs,rfl,ar,rp.kp (k.kp ho)⟩
   ·rw [List.getElem?_eq_none (by simp;omega)] at hd
    cases hd
 ·rw [List.length_append,List.length_singleton,<- List.drop_drop,er.2]
  rfl
theorem kD {x:Str} {es:List Expr} {F:R->Option (List D)} {w:R->List D->Option Out} {px p1:Pos} (i:Nat) (hN:X.N.Nodup) (hF:SA X es F) (h2:OB X sts w) (hix:X.N[i]?=some x:=by rfl) (hx:Loc X.env.scope x:=by first | exact Or.inl rfl | exact Or.inr rfl)
  (hl:Nat.ble es.length 1000=true:=by rfl) (hs:swapsWith (.List es p1) (some (.Name x px)) pos.line X.env=pure false:=by rfl) (hf:X.fn x=true\/X.env.scope.names.lookup x=some .local:=by first | exact .inl rfl | exact .inr rfl) :
  SS X (.Assign [.Name x px] (.List es p1) pos::sts) (ownD i F w):=by
 intro pins s σ H E I ⟨ρ,τ,o,er,e,qq⟩
 obtain ⟨ds,e1,e⟩:=bindS e
 split at e
 case isFalse=>cases e
 case isTrue hlen =>
 refine wpAny_execs_cons (thn ((om (i:=i) hN hix hx (mf hF.1) hs hf) pins s σ H {E with nx:=fun σ' H'=>∃ a vs H1,σ'=σ.set i (some (.ref a))/\H'=upd H1 a (.lst vs)/\H1 a=none/\Same H H1/\Reps X.K H1 ds vs} I ?_) fun f s1 q=>?_)
 ·refine ⟨ρ,ds,er.1,e1,fun vs H1 s1 r1=>⟨?_,fun a ha=>⟨a,vs,H1,rfl,rfl,ha,s1,r1⟩⟩⟩
  rw [<- r1.length,hF.2.1 ρ ds e1]
  exact Nat.le_of_lt (small1000 (Nat.le_of_ble_eq_true hl))
 cases f with
 | next =>
  obtain ⟨σ',H',I',a,vs,H1,rfl,rfl,ha,s1',r1⟩:=q
  have I2:=to_own I' ar
  generalize hH2:upd (upd H1 a (.lst vs)) a (OwnO a vs)=H2 at I2
  have k12:SmA a H1 H2:=by
   subst hH2
   exact SmA.upd.trans SmA.upd
  have s12:Same H1 H2:=fun b u hb=>k12 b u (fun z=>by rw [z,ha] at hb;cases hb) hb
  have ho2:H2 a=some (OwnO a vs):=by subst hH2;exact ar
  have hσi:i<σ.length:=Nat.lt_of_lt_of_le (by omega) er.1.1
  refine h2 pins s1 _ H2 E I2 ⟨ρ.take i,τ,a,ds,vs,o,⟨⟨?_,fun j d hd=>?_⟩,?_⟩,ho2,r1.mono s12,e,fun H' k=>qq H' fun b u hb=>?_⟩
  ·simp
   omega
  ·have hj:j<i:=by
    have:=(List.getElem?_eq_some_iff.mp hd).1
    simp at this
    omega
   rw [List.getElem?_take_of_lt hj] at hd
   obtain ⟨v,h1,h2⟩:=er.1.2 j d hd
   exact ⟨v,by rw [List.getElem?_set_ne (by omega)];exact h1,(h2.mono s1').mono s12⟩
  ·have hd:σ.drop (i+1)=τ:=by rw [<- hlen];exact er.2
   rw [List.length_take,Nat.min_eq_left (by omega),List.drop_eq_getElem_cons (by simpa using hσi)]
   congr 1
   ·simp
   ·rw [List.drop_set_of_lt (by omega)]
    exact hd
  ·have hb2:=s12 _ _ (s1' _ _ hb)
   exact k b u (fun z=>by
    have q:=s1' _ _ hb
    rw [z,ha] at q
    cases q) hb2
 | brk=>exact q
 | cont=>exact q
 | ret v=>exact q
end
end HW
namespace HW
open PySem PySem.Spec PyProof.Rows L2
mutual
theorem kn:∀ d:D,layD d=true->(toPy d).canLay0=true
 | .non,_=>by simp [toPy,PyData.canLay0]
 | .bl _,_=>by simp [toPy,PyData.canLay0]
 | .int _,_=>by simp [toPy,PyData.canLay0]
 | .str _,h=>by rw [layD] at h;simpa [toPy,PyData.canLay0,PyData.strOk] using h
 | .tup ds,h=>by rw [toPy,PyData.canLay0];exact fV ds h
 | .lst ds,h=>by rw [toPy,PyData.canLay0];exact fV ds h
 | .fro ds,h=>by rw [toPy,PyData.canLay0];exact fV ds h
 | .obj ..,h=>by cases h
 | .dct ..,h=>by cases h
 | .cl ..,h=>by cases h
theorem fV:∀ ds:List D,layDs ds=true->PyData.canLayAll0 (toPys ds)=true
 | [],_=>by simp [toPys,PyData.canLayAll0]
 | d::ds,h=>by
  have h':(layD d&&layDs ds)=true:=h
  rw [Bool.and_eq_true] at h'
  rw [toPys,PyData.canLayAll0,kn d h'.1,fV ds h'.2];rfl
end
mutual
theorem lU:∀ d:D,nob d=true->(toPy d).depth=depD d
 | .non,_=>by simp [toPy,PyData.depth,depD]
 | .bl _,_=>by simp [toPy,PyData.depth,depD]
 | .int _,_=>by simp [toPy,PyData.depth,depD]
 | .str _,_=>by simp [toPy,PyData.depth,depD]
 | .tup ds,h=>by rw [toPy,PyData.depth,depD,fY ds h]
 | .lst ds,h=>by rw [toPy,PyData.depth,depD,fY ds h]
 | .fro ds,h=>by rw [toPy,PyData.depth,depD,fY ds h]
 | .obj ..,h=>by cases h
 | .dct ..,h=>by cases h
 | .cl ..,h=>by cases h
theorem fY:∀ ds:List D,nobs ds=true->PyData.depthAll (toPys ds)=depDs ds
 | [],_=>by simp [toPys,PyData.depthAll,depDs]
 | d::ds,h=>by
  have h':(nob d&&nobs ds)=true:=h
  rw [Bool.and_eq_true] at h'
  rw [toPys,PyData.depthAll,depDs,lU d h'.1,fY ds h'.2]
end
mutual
theorem eqv_of:∀ x y:D,nob x=true->nob y=true->PyData.eqv (toPy x) (toPy y)=eqD x y
 | .non,y,_,h=>by cases y<;>first | rfl | cases h
 | .bl a,y,_,h=>by cases y<;>first | rfl | cases h
 | .int a,y,_,h=>by cases y<;>first | rfl | cases h
 | .str a,y,_,h=>by cases y<;>first | rfl | cases h
 | .tup xs,y,g,h=>by
  cases y with
  | tup ys=>exact eqv_ofs xs ys g h
  | obj _ _ _ _=>cases h
  | dct _ _=>cases h
  | cl _ _ _=>cases h
  | _=>rfl
 | .lst xs,y,g,h=>by
  cases y with
  | lst ys=>exact eqv_ofs xs ys g h
  | fro ys=>exact eqv_ofs xs ys g h
  | obj _ _ _ _=>cases h
  | dct _ _=>cases h
  | cl _ _ _=>cases h
  | _=>rfl
 | .fro xs,y,g,h=>by
  cases y with
  | lst ys=>exact eqv_ofs xs ys g h
  | fro ys=>exact eqv_ofs xs ys g h
  | obj _ _ _ _=>cases h
  | dct _ _=>cases h
  | cl _ _ _=>cases h
  | _=>rfl
 | .obj ..,y,g,h=>by cases g
 | .dct ..,y,g,h=>by cases g
 | .cl ..,y,g,h=>by cases g
theorem eqv_ofs:∀ xs ys:List D,nobs xs=true->nobs ys=true->PyData.eqvAll (toPys xs) (toPys ys)=eqDs xs ys
 | [],[],_,_=>rfl
 | [],_::_,_,_=>rfl
 | _::_,[],_,_=>rfl
 | x::xs,y::ys,g,h=>by
  have g':(nob x&&nobs xs)=true:=g
  have h':(nob y&&nobs ys)=true:=h
  rw [Bool.and_eq_true] at g' h'
  show (PyData.eqv (toPy x) (toPy y)&&PyData.eqvAll (toPys xs) (toPys ys))=(eqD x y&&eqDs xs ys)
  rw [eqv_of x y g'.1 h'.1,eqv_ofs xs ys g'.2 h'.2]
end
section
variable {X:Cx}
theorem deep_room {k:Nat} (hr:Room k X.A) {dx dy:D} (h:depD dx<=100) (hn:nob dx=true):X.A.units+min (toPy dx).depth (toPy dy).depth<cLine:=by
 have h1:=hr.un
 have h2:min (toPy dx).depth (toPy dy).depth<=100:=by rw [lU dx hn];omega
 omega
theorem ov {k:Nat} (hr:Room k X.A):CmD X .NotEq cNeD:=by
 intro pins s σ H x y v u Q I rx ry h
 obtain ⟨dx,dy,b,r1,r2,e,q⟩:=h
 unfold cNeD cEqD at e
 split at e
 ·rename_i hd
  cases e
  obtain ⟨as,ra⟩:=reads_of I (dv hd.2.1) r1 rx
  obtain ⟨bs,rb⟩:=reads_of I (dv hd.2.2) r2 ry
  have z:=SeqAt.rcNeAt_reads ra rb (kn dx hd.2.1) (kn dy hd.2.2) (deep_room (dy:=dy) hr hd.1 (dv hd.2.1))
  rw [eqv_of _ _ (dv hd.2.1) (dv hd.2.2)] at z
  exact PySem.EqBoolInt.of_rcne z ⟨.bl (!eqD dx dy),H,I,rfl,q⟩
 ·cases e
end
end HW
namespace HW
open PySem PySem.Spec PyProof.Rows L2
section
variable {prog:Program} {w:World} {A:Around} {R':Result->Shared->Prop} {I:Addr} {fp wr:List Addr} {n:Nat} {P:Nat->Value->Prop} {St:Nat->Heap->Prop}
end
section
variable {prog:Program} {w:World} {A:Around} {E:Value->Shared->Prop} {s:Shared}
end
section
variable {X:Cx}
theorem ox {i j:Nat} {x y:Str} {a b:Expr} {F:R->Option (List D)} {px py pt:Pos} {kt k2 pt2} {pos:Pos} (hc:X.calm=true) (hN:X.N.Nodup) (ha:SA X [a,b] F) (hi:X.N[i]?=some x:=by rfl) (hj:X.N[j]?=some y:=by rfl) (hij:i≠j:=by decide)
  (hx:X.env.scope.names.lookup x=some .local:=by rfl) (hy:X.env.scope.names.lookup y=some .local:=by rfl)
  (hw:swappedStores [.Tuple [.Name x px,.Name y py] kt pt] (.Tuple [a,b] k2 pt2) X.env=pure (some [x,y]):=by rfl)
  (hs:swapsWithSole [.Tuple [.Name x px,.Name y py] kt pt] (.Tuple [a,b] k2 pt2) pos.line X.env=pure false:=by rfl) :
  S1 X (.Assign [.Tuple [.Name x px,.Name y py] kt pt] (.Tuple [a,b] k2 pt2) pos) (parD i j F):=(nG hc hN hi hj hij hx hy ha.1 hw hs).imp fun E σ H ⟨ρ,τ,o,er,e,q⟩=>by
 obtain ⟨ds,e1,e⟩:=bindS e
 match ds,e with
 | [d1,d2],e =>
  dsimp only at e
  split at e
  ·rename_i hc
   cases e
   refine ⟨ρ,[d1,d2],er.1,e1,fun vs H1 s1 r1=>?_⟩
   obtain ⟨v,r',rfl,h1,w',r'',rfl,h2,h3⟩:=r1
   cases (show r''=[] from h3)
   exact ⟨v,w',rfl,q H1 s1 _ (((er.mono s1).set hc.1 h1).set (by simpa using hc.2) h2)⟩
  ·cases e
end
end HW
namespace HW
open PySem PySem.Spec PyProof.Rows L2
section
open PySem.SeqAt
open AutoSeq1 (wpAny_loadPart')
open MeetsSeq MeetsSeq2 MeetsSeq3 SeqRoads2
end
section
variable {X:Cx}
end
section
variable {X:Cx}
end
end HW
namespace HW
open PySem PySem.Spec PyProof.Rows L2
section
variable {X:Cx} {i k:Nat} {fa:Addr} {e a:Expr} {es:List Expr} {pos p:Pos} {f:R->Option D} {F:R->Option (List D)} {G:List D->Option D}
def FnK (P:Program) (w:World) (K:PySem.W.Frag) (mg:Str->Option Value) (base:Heap) (k:Nat) (fa:Addr) (G:List D->Option D):Prop:=∃ fd ps,FnOk P w K mg base CX0 k fa fd ps (spD K G)/\PySem.W.keepIn K (.ref fa)=true/\Binds K fd ps []
inductive Tab (P:Program) (w:World) (K:PySem.W.Frag) (mg:Str->Option Value) (base:Heap) (k:Nat):List (Str×(List D->Option D))->List (Str×Value)->Prop
 | nil:Tab P w K mg base k [] []
 | cons {z:Str} {G:List D->Option D} {fa:Addr} {t:List (Str×(List D->Option D))} {vs:List (Str×Value)}:FnK P w K mg base k fa G->Tab P w K mg base k t vs->Tab P w K mg base k ((z,G)::t) ((z,.ref fa)::vs)
theorem Tab.get {P:Program} {w:World} {K:PySem.W.Frag} {mg:Str->Option Value} {base:Heap} {t:List (Str×(List D->Option D))} {vs:List (Str×Value)} (h:Tab P w K mg base k t vs) {z:Str} (e:t.lookup z=some G):∃ fa,valueAt vs z=some (.ref fa)/\FnK P w K mg base k fa G:=by
 induction h with
 | nil=>cases e
 | @cons y G' fa t vs h1 h2 ih =>
  unfold valueAt
  rw [List.find?_cons]
  by_cases hz:y=z
  ·subst hz
   rw [List.lookup_cons,beq_self_eq_true] at e
   cases e
   simp
   exact h1
  ·rw [List.lookup_cons,beq_eq_false_iff_ne.mpr (fun q=>hz q.symm)] at e
   obtain ⟨fb,q1,q2⟩:=ih e
   refine ⟨fb,?_,q2⟩
   unfold valueAt at q1
   simp [hz]
   simpa using q1
def entries (w:World):List (Str×Tok×Value)->List DictEntry
 | []=>[]
 | (z,t,v)::r=>{hash:=PyData.keyHash w.params z,key:=.str z t,val:=v}::entries w r
end
section
variable {X:Cx}
end
end HW
namespace HW
open PySem PySem.Spec PyProof.Rows L2
section
variable {X:Cx} {a:Expr} {f:R->Option D} {pos p2:Pos}
end
theorem nR {X:Cx}:CmD X .In cInT:=by
 intro pins s σ H x y v u Q I rx ry h
 obtain ⟨dx,dy,b,r1,r2,e,q⟩:=h
 obtain ⟨i,e1,e⟩:=bindS e
 obtain ⟨j,e2,rfl⟩:=mapS e
 exact op_in_str pins s σ H x y v u Q I rx ry ⟨i,j,sI_of e1 r1,sI_of e2 r2,q⟩
theorem ln1 {us:List Value} (h:us.length=1):∃ x0,us=[x0]:=by
 match us,h with
 | [x0],_=>exact ⟨x0,rfl⟩
theorem ln2 {us:List Value} (h:us.length=2):∃ x0 x1,us=[x0,x1]:=by
 match us,h with
 | [x0,x1],_=>exact ⟨x0,x1,rfl⟩
theorem ln3 {us:List Value} (h:us.length=3):∃ x0 x1 x2,us=[x0,x1,x2]:=by
 match us,h with
 | [x0,x1,x2],_=>exact ⟨x0,x1,x2,rfl⟩
end HW
namespace HW
open PySem PySem.Spec PyProof.Rows L2
section
variable {X:Cx}
def MtD (X:Cx) (id:String) (G:List D->Option D):Prop:=MtR X id fun x vs H Q=>∃ dx ds d,Rep X.K H dx x/\Reps X.K H ds vs/\G (dx::ds)=some d/\∀ v H',Same H H'->Rep X.K H' d v->Q v H'
theorem nq {a e:Expr} {es:List Expr} {f:R->Option D} {F:R->Option (List D)} {G:List D->Option D} {name:Str} {id:String} {ap cp:Pos} (slot:Slot "str" name id)
    (hty:typeOf (.builtin id)=pure (.type "method_descriptor")) (hm:MtD X id G) (hG:∀ x ds d,G (x::ds)=some d->∃ z,x=.str z) (ha:SE X a f) (hF:SA X (e::es) F)
    (hbase:attributeBase a name X.env (eval a X.env)=eval a X.env:=by rfl)
    (hfew:((backTo cp (starEach (e::es) X.env)).all (fun x=>!x.1)&&(backToKw cp (keywordEach [] X.env)).all (fun x=>x.1.isSome)
      && decide ((e::es).length+([]:List Keyword).length+(if ([]:List Keyword).isEmpty then 0 else 1)<30))=true:=by rfl)
    (hline:(ap.endLine==cp.line)=true:=by rfl) :
    SE X (.Call (.Attribute a name ap) (e::es) [] cp) (callD G (argC f F)):=by
  have hst:=hF.2.2
  rw [List.all_cons,Bool.and_eq_true] at hst
  refine (lW (T:="str") PySem.F.plainAttrs_str slot hty hm ha hF.1 hbase hfew hline (ay es X.env hst.1) (bS (pos:=cp) (env:=X.env) hst.2)).imp fun σ H Q ⟨ρ,d,er,e,q⟩=>?_
  obtain ⟨dd,e1,e⟩:=bindS e
  obtain ⟨x,e2,e1⟩:=bindS e1
  obtain ⟨ds,e3,e1⟩:=mapS e1
  subst e1
  obtain ⟨z,rfl⟩:=hG x ds d e
  exact ⟨ρ,_,er,e2,fun v H1 s1 r1=>⟨by cases (show v=_ from r1);exact rfl,ρ,ds,er.mono s1,e3,fun vs H2 s2 r2=>⟨.str z,ds,d,r1.mono s2,r2,e,fun u H3 s3 r3=>q u H3 (s1.trans (s2.trans s3)) r3⟩⟩⟩
theorem strs_vals:∀ {K:PySem.W.Frag} {H:Hp} {ds:List D} {vs:List V} {us:List Value} {xs:List Str},strsD ds=some xs->Reps K H ds vs->Vals vs us->∃ l:List (Str×Tok),us=strValues l/\l.map (·.1)=xs
 | _,_,[],vs,us,xs,e,r,h=>by
  cases e
  cases (show vs=[] from r)
  cases h
  exact ⟨[],rfl,rfl⟩
 | K,H,d::ds,vs,us,xs,e,r,h=>by
  obtain ⟨x,e1,e⟩:=bindS e
  obtain ⟨ys,e2,rfl⟩:=mapS e
  obtain ⟨v,vs',rfl,r1,r2⟩:=r
  have hv:=sI_of e1 r1
  subst hv
  cases h with
  | cons h1 h2 =>
   obtain ⟨t,rfl⟩:=h1
   obtain ⟨l,rfl,rfl⟩:=strs_vals e2 r2 h2
   exact ⟨(x,t)::l,rfl,rfl⟩
theorem join_post {sep:Str} {l:List (Str×Tok)} {pins:List (Addr×Obj)} {σ:L2.St} {H:Hp} {s:Shared} {Q:VK} (I:L2.Inv X pins σ H s) (hz:(Builtin.Str.glued sep (l.map (·.1))).length<=sizeLine)
  (q:Q (.str (Builtin.Str.glued sep (l.map (·.1)))) H):(joinMade sep l).post (EP X pins σ Q) s:=by
 have key:∀ t,EP X pins σ Q (.str (Builtin.Str.glued sep (l.map (·.1))) t) s:=fun t=>⟨.str _,H,I,⟨t,rfl⟩,q⟩
 match l,hz,key with
 | [],hz,key=>exact ⟨hz,.str _,H,I.tok _,⟨_,rfl⟩,q⟩
 | [p],hz,key=>exact key p.2
 | p1::p2::r,hz,key=>exact ⟨hz,.str _,H,I.tok _,⟨_,rfl⟩,q⟩
theorem nj:MtD X "str.join" fJoin:=by
 intro pins s σ H x vs v us Q I rx rv h
 obtain ⟨dx,ds,d,r1,r2,e,q⟩:=h
 match dx,ds,e with
 | .str sep,[.lst es],e =>
  obtain ⟨xs,e1,e⟩:=bindS e
  obtain ⟨w,e2,rfl⟩:=mapS e
  unfold joinS at e2
  split at e2
  ·rename_i hz
   cases e2
   cases (show x=_ from r1)
   obtain ⟨t,rfl⟩:=rx
   obtain ⟨u,r',rfl,h1,h2⟩:=r2
   cases (show r'=[] from h2)
   obtain ⟨a,ws,rfl,hq,t1⟩:=h1
   obtain ⟨u',rfl,hu⟩:=rv.one
   cases (show u'=_ from hu)
   obtain ⟨its,rr,ht,_⟩:=I.list (SqL.of hq)
   obtain ⟨l,rfl,rfl⟩:=strs_vals e1 t1 rr
   exact call_meets F.slot_str_join (typeIs_str s sep t) F.entry_str_join (F.args_str_join_2 _ _) (meets_str_join_list sep t a l (decide_eq_false (Nat.not_lt.mpr hz.1))) ⟨ht.isList,join_post I hz.2 (q _ H (Same.refl H) rfl)⟩
  ·cases e2
theorem join_str {x:D} {ds:List D} {d:D} (h:fJoin (x::ds)=some d):∃ z,x=.str z:=by
 cases x with
 | str z=>exact ⟨z,rfl⟩
 | _=>cases h
end
end HW
namespace HW
open PySem PySem.Spec PyProof.Rows L2
section
variable {prog:Program} {w:World} {A:Around} {E:Value->Shared->Prop} {s:Shared}
theorem lri_nolen:typeLookup (.type "list_reverseiterator") "__len__" = pure none:=by
 rw [typeLookup_type,builtinLookup_eq_fast];kernel_rfl -- list_reverseiterator
theorem lri_hint:typeLookup (.type "list_reverseiterator") "__length_hint__" = pure (some (.builtin "list_reverseiterator.__length_hint__")):=by
 rw [typeLookup_type,builtinLookup_eq_fast];kernel_rfl -- list_reverseiterator
abbrev RevAt (its:Array Value) (i:Nat) (v:Value):Prop:=its[its.size - 1 - i]?=some v
theorem collect_rev {Q:List Value->Shared->Prop} {j l:Addr} {its:Array Value} (hh:A.handled=none) (hne:l≠j) (hj:s.heap.IsRevIter j l ((its.size:Int) - 1)) (hl:s.heap.IsList l its) (hz:its.size<=sizeLine)
  (hQ:∀ s' acc,Moved [j] (fun a b=>b=a) s s'->ItemsOf (RevAt its) acc its.size->Q acc.toList s'):wpAny (model prog w) A (collect (.ref j)) Q E s:=by
 have W:=(Walks.listRev (prog:=prog) (w:=w) (A:=A.in1) hh j l hne its).toS
 have st0:(0<=its.size/\s.heap.IsRevIter j l ((its.size:Int) - 1 - ((0:Nat):Int))/\s.heap.IsList l its):=⟨Nat.zero_le _,by rw [show (its.size:Int) - 1 - ((0:Nat):Int)=(its.size:Int) - 1 by omega];exact hj,hl⟩
 have hjs:j<s.heap.objs.size:=let ⟨o,ho,_⟩:=hj;Heap.lt_size ho
 have hls:l<s.heap.objs.size:=let ⟨o,ho,_⟩:=hl;Heap.lt_size ho
 have hnf:s.heap.objs.size ∉ [j,l]:=fun hm=>by
  rcases List.mem_cons.mp hm with ej | hm'
  ·exact absurd hjs (by rw [ej];exact Nat.lt_irrefl _)
  ·exact absurd hls (by rw [List.mem_singleton.mp hm'];exact Nat.lt_irrefl _)
 unfold collect
 refine wpAny_bind (wpAny_runValue (codeAny_builtin PySem.F.entry_proto_collect ?_))
 rw [Around.under_plainId PySem.F.plain_proto_collect _];show wpAny _ A.in1 (newList [] >>= fun q=>again (.builtin "list.__iadd__" ⟨[q,.ref j],[]⟩)) _ _ s
 refine wpAny_bind (wpAny_newObj_type (wpAny_pure ⟨plainId_quiet PySem.F.plain_list_iadd _,codeAny_builtin PySem.F.entry_list_iadd ?_⟩));rw [Around.under_plainId PySem.F.plain_list_iadd _]
 have st1:=W.frame 0 s (s.heap.push {cls:=.type "list",data:=.seq ([]:List Value).toArray}) s.toks st0 (Nat.le_refl _) fun b _ o e=>Heap.get?_push_of_some _ e
 have new1:(s.heap.push {cls:=.type "list",data:=.seq ([]:List Value).toArray}).get? s.heap.objs.size=some {cls:=.type "list",data:=.seq ([]:List Value).toArray}:=Heap.get?_push_size _ rfl
 have ne1:Builtin.List.listSameRef (.ref s.heap.objs.size) (.ref j)=false:=by
  have:s.heap.objs.size≠j:=fun e=>hnf (by rw [e];exact List.mem_cons_self)
  simp [Builtin.List.listSameRef,this]
 have ty1:=(show _ from st1).2.1.typeIs (s:={s with heap:=s.heap.push {cls:=.type "list",data:=.seq ([]:List Value).toArray} })
 show wpAny _ A.in1 (Builtin.List.listExtendWith (.ref s.heap.objs.size) (.ref j) (.ref s.heap.objs.size)) _ _ _
 unfold Builtin.List.listExtendWith;refine wpAny_bind (wpAny_typeOf ty1 ?_)
 rw [if_neg (by rw [ne1];decide)]
 refine wpAny_bind (W.self 0 _ _ _ st1 (wpAny_bind (wpAny_holding ?_)));unfold Builtin.List.listLengthHint
 refine wpAny_bind (wpAny_specialOf ty1 lri_nolen ?_)
 show wpAny _ A.in1 (specialOf (Value.ref j) (Str.ofString "__length_hint__") >>= _) _ _ _
 refine wpAny_bind (wpAny_specialOf ty1 lri_hint ?_)
 generalize hid:("list_reverseiterator.__length_hint__" : String)=nm
 wp_delta
 rw [show splitId nm=some ("list_reverseiterator","__length_hint__") from by subst hid;decide +kernel]
 subst hid
 refine wpAny_bind (wpAny_isInstance (b:=true) ty1 (by rw [isSubtype_type];kernel_rfl) ?_)
 refine wpAny_pure ?_
 rw [if_neg (by decide)]
 refine wpAny_pure ⟨plainId_quiet PySem.F.plain_extend_loop _,codeAny_extend_loopS W hz _ hnf _ its.size 0 _ _ _ rfl (Nat.zero_le _) st1 new1 (ItemsOf.nil (RevAt its)) fun s' acc' c' hm hS' hacc=>?_⟩
 show wpAny _ A (load s.heap.objs.size >>= _) _ _ s';exact wpAny_bind (wpAny_load hS' (wpAny_pure (hQ s' acc' (Moved.drop_new (o:={cls:=.type "list",data:=.seq ([]:List Value).toArray}) (tk:=s.toks) hm (Nat.le_refl _)) hacc)))
theorem rev_items {lv:List (Str×Tok)} {acc:Array Value} (h:ItemsOf (RevAt (strValues lv).toArray) acc (strValues lv).toArray.size):acc.toList=strValues lv.reverse:=by
 have hn:(strValues lv).toArray.size=lv.length:=by simp [strValues]
 have hr:strValues lv.reverse=(strValues lv).reverse:=by simp [strValues]
 rw [hr]
 have hs:acc.size=lv.length:=h.1.trans hn
 have hl:(strValues lv).length=lv.length:=by simp [strValues]
 refine List.ext_getElem (by rw [List.length_reverse,Array.length_toList,hs,hl]) fun i h1 h2=>?_
 have h3:i<acc.size:=by simpa using h1
 have z:=h.2 i acc[i] (Array.getElem?_eq_getElem h3)
 unfold RevAt at z
 rw [hn] at z
 have hi:i<lv.length:=by omega
 have z2:(strValues lv)[lv.length - 1 - i]?=some acc[i]:=by simpa using z
 rw [List.getElem_reverse]
 have h4:lv.length - 1 - i<(strValues lv).length:=by omega
 rw [List.getElem?_eq_getElem h4] at z2
 have z3:=Option.some.inj z2
 rw [Array.getElem_toList]
 simp only [hl]
 exact z3.symm
theorem gives_tail (sep:Str) (l:List (Str×Tok)) (h:Builtin.Str.tooLong ((l.map (·.1)).toArray.foldl (·+·.length+sep.length) 0)=false):Gives (joinTail sep (strValues l)) (joinMade sep l):=by
 match l,h with
 | [],h=>exact gives_joinTail sep [] h
 | [a],h=>exact gives_joinTail sep [a] h
 | a::b::r,h=>exact gives_joinTail sep (a::b::r) h
theorem join_rev {Q:Value->Shared->Prop} {sep:Str} {t:Tok} {j l:Addr} {lv:List (Str×Tok)} (hh:A.handled=none) (hne:l≠j) (hj:s.heap.IsRevIter j l ((lv.length:Int) - 1)) (hl:s.heap.IsList l (strValues lv).toArray) (hz:lv.length<=sizeLine)
  (hg:Builtin.Str.tooLong ((lv.reverse.map (·.1)).toArray.foldl (·+·.length+sep.length) 0)=false) (hQ:∀ s',Moved [j] (fun a b=>b=a) s s'->(joinMade sep lv.reverse).post Q s') :
  wpAny (model prog w) A (call (.builtin "str.join") [.str sep t,.ref j]) Q E s:=by
 have hn:(strValues lv).toArray.size=lv.length:=by simp [strValues]
 refine wpAny_call (codeAny_call_builtin PySem.F.slot_str_join.plain PySem.F.entry_str_join (PySem.F.slot_str_join.check _ _ _ _ _ _ _ _ (typeIs_str _ _ _) (PySem.F.args_str_join_2 _ _) ?_))
 rw [join_tree_other]
 refine wpAny_bind (wpAny_typeOf hj.typeIs ?_)
 show wpAny _ A.in1 ((pyIter (.ref j)).tryCatch _ >>= fun it=>collect it >>= fun items=>joinTail sep items) _ _ s
 refine wpAny_bind (wpAny_tryCatch (wpAny_pyIter_revIter hj (wpAny_bind (collect_rev (A:=A.in1) hh hne (by rw [hn];exact hj) hl (by rw [hn];exact hz) fun s' acc hm hacc=>?_))))
 rw [rev_items hacc]
 exact gives_tail sep lv.reverse hg prog w A (wants Q E) s' (hQ s' hm)
end
section
variable {X:Cx}
theorem me {a e:Expr} {f g:R->Option D} {ap cp pr p2:Pos} (hc:X.calm=true) (hm:X.mg "reversed" = none) (ha:SE X a f) (he:SE X e g) (hg:Gl X "reversed":=by rfl) (hst:noStar e=true:=by rfl)
    (hbase:attributeBase a "join" X.env (eval a X.env)=eval a X.env:=by rfl)
    (hfew:((backTo cp (starEach [.Call (.Name "reversed" pr) [e] [] p2] X.env)).all (fun x=>!x.1)&&(backToKw cp (keywordEach [] X.env)).all (fun x=>x.1.isSome)
      && decide ([Expr.Call (.Name "reversed" pr) [e] [] p2].length+([]:List Keyword).length+(if ([]:List Keyword).isEmpty then 0 else 1)<30))=true:=by rfl)
    (hline:(ap.endLine==cp.line)=true:=by rfl) :
    SE X (.Call (.Attribute a "join" ap) [.Call (.Name "reversed" pr) [e] [] p2] [] cp) (callD fJoinR (argC f (argC g argN))):=by
  intro pins s σ H Q I hw
  obtain ⟨ρ,d,er,e0,q⟩:=hw
  obtain ⟨dd,e1,e0⟩:=bindS e0
  obtain ⟨x,e2,e1⟩:=bindS e1
  obtain ⟨ds,e3,e1⟩:=mapS e1
  subst e1
  obtain ⟨y,e4,e3⟩:=bindS e3
  cases e3
  match x,y,e0 with
  | .str sep,.lst es,e0 =>
    obtain ⟨xs,e5,e0⟩:=bindS e0
    obtain ⟨wd,e6,rfl⟩:=mapS e0
    unfold joinS at e6
    split at e6
    · rename_i hz
      cases e6
      have hst1:=ay [] X.env hst
      refine wpAny_Call_method_late hbase hfew hline rfl (thn (ha pins s σ H (fun v H1=>Same H H1/\Rep X.K H1 (.str sep) v) I ⟨ρ,_,er,e2,fun v H1 s1 r1=>⟨s1,r1⟩⟩) fun v s1 ⟨vx,H1,I1,r1,s01,rp⟩=>?_)
      cases (show vx=_ from rp)
      obtain ⟨t,rfl⟩:=r1
      obtain ⟨h1,h2⟩:=tyV_is (T:="str") (x:=.str sep) I1 ⟨t,rfl⟩ rfl
      refine ⟨"str","str.join",PySem.F.plainAttrs_str,PySem.F.slot_str_join,PySem.F.type_str_join,h1,h2,?_⟩
      refine Calls.callWith_builtin rfl (Calls.evalArgs_plain (Calls.spliced_cons ?_))
      refine wpAny_Call_Name_kw (dt I1 hg hm (u:=.type "reversed") (by kernel_rfl) ?_)
      refine callWith_type1 ?_ hst1 rfl
      rw [hst1]
      refine Calls.spliced_cons (thn (he pins s1 σ H1 (fun v H2=>Same H1 H2/\Rep X.K H2 (.lst es) v) I1 ⟨ρ,_,er.mono s01,e4,fun v H2 s2 r2=>⟨s2,r2⟩⟩) fun u s2 ⟨vu,H2,I2,ru,s12,rl⟩=>Calls.spliced_nil ?_)
      obtain ⟨b,vs,rfl,hq,ts⟩:=rl
      cases (show u=_ from ru)
      obtain ⟨its,rr,ht,hlen⟩:=I2.list (SqL.of hq)
      obtain ⟨lv,hu,hx⟩:=strs_vals e5 ts.reverse (jM rr)
      have hi:its=strValues lv.reverse:=by
        have z:=congrArg List.reverse hu
        rw [List.reverse_reverse] at z
        rw [z];simp [strValues]
      subst hi
      subst hx
      have hlb:b<s2.heap.objs.size:=let ⟨o,ho,_⟩:=ht.isList;Heap.lt_size ho
      have hn:(strValues lv.reverse).toArray.size=lv.reverse.length:=by simp [strValues]
      have hlv:lv.reverse.length<=sizeLine:=by rw [<- hn,List.size_toArray,<- rr.length];exact hlen
      refine call_reversed_list ht.isList (Calls.spliced_nil ?_)
      refine join_rev (I1.ok.hd hc) (lv:=lv.reverse) (Nat.ne_of_lt hlb) ⟨_,Heap.get?_push_size _ rfl,rfl,by rw [hn];rfl⟩ (ht.isList.at fun o ho=>Heap.get?_push_of_some _ ho) hlv ?_ fun s' hm=>?_
      · rw [List.reverse_reverse]
        exact decide_eq_false (Nat.not_lt.mpr hz.1)
      · rw [List.reverse_reverse]
        have I3:L2.Inv X pins σ H2 s':=by
          rw [hm.eq_with]
          exact I2.kept fun c o ho=>hm.heap c o (fun hc=>absurd (Heap.lt_size ho) (by rw [List.mem_singleton.mp hc];exact Nat.lt_irrefl _)) (Heap.get?_push_of_some _ ho)
        exact join_post I3 hz.2 (q _ H2 (s01.trans s12) rfl)
    · cases e6
theorem lY {c:Expr} {body:List Stmt} {f:R->Option Bool} {pos:Pos} (hp:PassesOwn (model X.prog X.w) X.A X.env X.xe) (hc:ST X c f):S1 X (.While c body [] pos) (whl0 f):=by
 have hb:PSs X body (fun _ _ _=>False):=fun pins s σ H D I h=>h.elim
 refine (lP hp hc hb).imp fun E σ H ⟨ρ,τ,o,er,e,q⟩=>?_
 obtain ⟨b,e1,e⟩:=bindS e
 cases b with
 | true=>cases e
 | false =>
  cases e
  refine ⟨fun m σ' H'=>σ'=σ/\H'=H,⟨0,rfl,rfl⟩,?_⟩
  rintro m _ _ ⟨rfl,rfl⟩
  exact ⟨ρ,false,er.1,e1,fun H1 s1=>(if_neg (show ¬ (false=true) from Bool.false_ne_true)).mpr (q H1 s1 _ (er.mono s1))⟩
theorem fT {a e:Expr} {es:List Expr} {f:R->Option D} {F:R->Option (List D)} {ap cp:Pos} (ha:SE X a f) (hF:SA X (e::es) F)
  (hbase:attributeBase a "join" X.env (eval a X.env)=eval a X.env:=by rfl)
  (hfew:((backTo cp (starEach (e::es) X.env)).all (fun x=>!x.1)&&(backToKw cp (keywordEach [] X.env)).all (fun x=>x.1.isSome)&&decide ((e::es).length+([]:List Keyword).length+(if ([]:List Keyword).isEmpty then 0 else 1)<30))=true:=by rfl)
  (hline:(ap.endLine==cp.line)=true:=by rfl):SE X (.Call (.Attribute a "join" ap) (e::es) [] cp) (callD fJoin (argC f F)) :=
 nq PySem.F.slot_str_join PySem.F.type_str_join nj (fun _ _ _ h=>join_str h) ha hF hbase hfew hline
end
end HW
namespace HW
open PySem PySem.Spec PyProof.Rows L2
section
variable {X:Cx}
theorem strs_from:∀ (xs:List Str) (k:Nat),Vals (xs.map V.str) (strsFrom k xs)
 | [],_=>.nil
 | x::r,k=>.cons ⟨k,rfl⟩ (strs_from r (k+1))
theorem strs_reps {K:PySem.W.Frag} {H:Hp}:∀ xs:List Str,Reps K H (xs.map D.str) (xs.map V.str)
 | []=>rfl
 | x::r=>Reps.cons rfl (strs_reps r)
theorem new_strs {pins:List (Addr×Obj)} {σ:L2.St} {H:Hp} {s:Shared} {Q:VK} {xs:List Str} {us:List Value} {tk:Nat} (I:L2.Inv X pins σ H s) (h:Vals (xs.map V.str) us) (hz:xs.length<=sizeLine)
  (q:∀ v H',Same H H'->Rep X.K H' (.lst (xs.map .str)) v->Q v H'):EP X pins σ Q (.ref s.heap.objs.size) {s with toks:=tk,heap:=s.heap.push {cls:=.type "list",data:=.seq us.toArray} }:=by
 have s2:=bt (I.hok.fresh (Nat.le_refl s.heap.objs.size)) (.lst (xs.map V.str))
 refine ⟨.ref s.heap.objs.size,_,I.laid (t':=tk) (o:=.lst (xs.map V.str)) (fun b ob q=>Heap.get?_push_of_some _ q) (Nat.le_refl _) ?_,rfl,q _ _ s2 ⟨_,_,rfl,ar,strs_reps xs⟩⟩
 exact ⟨by rw [List.length_map];exact hz,us,0,h,Heap.get?_push_size _ rfl⟩
theorem lT:MtD X "str.split" fSplit:=by
 intro pins s σ H x vs v us Q I rx rv h
 obtain ⟨dx,ds,d,r1,r2,e,q⟩:=h
 match dx,ds,e with
 | .str z,[.str y],e =>
  simp only [fSplit] at e
  split at e
  ·rename_i hz
   obtain ⟨hy,hx,hn⟩:=hz
   cases e
   cases (show x=_ from r1)
   obtain ⟨t,rfl⟩:=rx
   obtain ⟨u,r',rfl,k1,r2⟩:=r2
   cases (show r'=[] from r2)
   cases (show u=_ from k1)
   obtain ⟨u',rfl,t2,rfl⟩:=rv.one
   have hy0:(y.length==0)=false:=by rw [hy];rfl
   have one:Vals ([z].map V.str) [Value.str z t]:=.cons ⟨t,rfl⟩ .nil
   unfold splitS at hn q
   by_cases c1:(decide (z.length<y.length)||decide (Builtin.Str.strKind z<Builtin.Str.strKind y))=true
   ·rw [if_pos (.inl c1)] at q
    exact call_meets PySem.F.slot_str_split (typeIs_str s z t) PySem.F.entry_str_split (PySem.F.args_str_split_2 _ _) (meets_str_split_cannot_occur z y t t2 c1) (new_strs (xs:=[z]) (tk:=s.toks) I one (show 1<=sizeLine by decide) q)
   ·have c1':=Bool.eq_false_iff.mpr c1
    by_cases c2:(Builtin.Str.occurrences z y 0 z.length (z.length+1)).isEmpty=true
    ·rw [if_pos (.inr c2)] at q
     exact call_meets PySem.F.slot_str_split (typeIs_str s z t) PySem.F.entry_str_split (PySem.F.args_str_split_2 _ _) (meets_str_split_not_found z y t t2 c1' hy0 c2) (new_strs (xs:=[z]) (tk:=s.toks) I one (show 1<=sizeLine by decide) q)
    ·have c3:¬ ((decide (z.length<y.length)||decide (Builtin.Str.strKind z<Builtin.Str.strKind y))=true\/(Builtin.Str.occurrences z y 0 z.length (z.length+1)).isEmpty=true):=fun h=>h.elim c1 c2
     rw [if_neg c3] at q hn
     exact call_meets PySem.F.slot_str_split (typeIs_str s z t) PySem.F.entry_str_split (PySem.F.args_str_split_2 _ _) (meets_str_split_sep z y t t2 c1' hy0 (Bool.eq_false_iff.mpr c2) hx hn) (new_strs I (strs_from _ _) hn q)
  ·cases e
theorem split_str {x:D} {ds:List D} {d:D} (h:fSplit (x::ds)=some d):∃ z,x=.str z:=by
 cases x with
 | str z=>exact ⟨z,rfl⟩
 | _=>cases h
theorem dL {a e:Expr} {es:List Expr} {f:R->Option D} {F:R->Option (List D)} {ap cp:Pos} (ha:SE X a f) (hF:SA X (e::es) F)
  (hbase:attributeBase a "split" X.env (eval a X.env)=eval a X.env:=by rfl)
  (hfew:((backTo cp (starEach (e::es) X.env)).all (fun x=>!x.1)&&(backToKw cp (keywordEach [] X.env)).all (fun x=>x.1.isSome)&&decide ((e::es).length+([]:List Keyword).length+(if ([]:List Keyword).isEmpty then 0 else 1)<30))=true:=by rfl)
  (hline:(ap.endLine==cp.line)=true:=by rfl):SE X (.Call (.Attribute a "split" ap) (e::es) [] cp) (callD fSplit (argC f F)) :=
 nq PySem.F.slot_str_split PySem.F.type_str_split lT (fun _ _ _ h=>split_str h) ha hF hbase hfew hline
theorem mE {tg a b:Expr} {f g:R->Option D} {p pos:Pos} (hm:X.mg "range" = none) (ha:SE X a f) (hb:SE X b g) (hg:Gl X "range":=by rfl) (hs:noStar a=true:=by rfl) (hs2:noStar b=true:=by rfl):SI X tg (.Call (.Name "range" p) [a,b] [] pos) (inRng2 f g):=by
 have e2:=ay [] X.env hs2
 have e1:=ay [b] X.env hs
 refine (lE hg hm (aa ha (aa hb ad hs2) hs).1 (by rw [e1,e2];rfl) (by rw [e2];rfl)).imp fun σ H W ⟨ρ,ds,er,e,q⟩=>?_
 obtain ⟨x,e1,e⟩:=bindS e
 obtain ⟨y,e2,e⟩:=bindS e
 obtain ⟨i,e3,e⟩:=bindS e
 obtain ⟨j,e4,e⟩:=bindS e
 split at e
 ·rename_i hz
  cases e
  refine ⟨ρ,[x,y],er,by show (f ρ).bind _=_;rw [e1];show ((g ρ).bind _).map _=_;rw [e2];rfl,fun vs H1 s1 r1=>?_⟩
  obtain ⟨v,r,rfl,r2,r3⟩:=r1
  obtain ⟨u,r',rfl,r4,r5⟩:=r3
  cases (show r'=_ from r5)
  have hv:=nI_of e3 r2
  have hu:=nI_of e4 r4
  subst hv hu
  refine ⟨i,j,rfl,⟨by omega,by omega,by omega,by omega⟩,q _ H1 s1 gr⟩
 ·cases e
def rSlS:V->Option Int->Option Int->Hp->VK->Prop:=fun x lo hi H Q=>∃ z,x=.str z/\z.length<=sizeLine/\Q (.str (Txt.slice z lo hi)) H
theorem sl_txt:SlR X rSlS:=by
 intro pins s σ H x v vl vu lo hi sl Q I rx hs pl pu h
 obtain ⟨z,rfl,hz,q⟩:=h
 obtain ⟨t,rfl⟩:=rx
 refine ⟨"str",_,PySem.F.slot_str_getitem.lookup,typeIs_str _ _ _,?_⟩
 have key:∀ (l u:Option (Int×Tok)),s.heap.IsSlice sl l u none->l.map (·.1)=lo->u.map (·.1)=hi->wpAny (model X.prog X.w) X.A (getItem (.str z t) (.ref sl)) (EP X pins σ Q) X.xe s:=fun l u hs h1 h2=>by
  subst h1 h2
  exact wpAny_getItem_str_slice (st:=none) hs rfl (post_val_or_str ⟨Nat.le_trans (Txt.slice_le z _ _) hz,fun t' k=>⟨.str _,H,I.kept fun _ _ e=>e,⟨_,rfl⟩,q⟩⟩)
 cases pl with
 | none=>cases pu with
  | none=>exact key none none hs rfl rfl
  | int j tj=>exact key none (some (j,tj)) hs rfl rfl
 | int i ti=>cases pu with
  | none=>exact key (some (i,ti)) none hs rfl rfl
  | int j tj=>exact key (some (i,ti)) (some (j,tj)) hs rfl rfl
theorem bZ {a:Expr} {lo hi:Option Expr} {f:R->Option D} {l h:R->Option (Option Int)} {p2 pos:Pos} (ha:SE X a f) (hl:SO X lo l) (hh:SO X hi h):SE X (.Subscript a (.Slice lo hi none p2) pos) (slT f l h):=(jA sl_txt ha hl hh).imp fun σ H Q ⟨ρ,d,er,e,q⟩=>by
 obtain ⟨x,e1,e⟩:=bindS e
 obtain ⟨o1,e2,e⟩:=bindS e
 obtain ⟨o2,e3,e⟩:=bindS e
 refine ⟨ρ,x,er,e1,fun v H1 s1 r1=>⟨ρ,o1,er.mono s1,e2,fun H2 s2=>⟨ρ,o2,er.mono (s1.trans s2),e3,fun H3 s3=>?_⟩⟩⟩
 cases x with
 | str z =>
  simp only [dSlS] at e
  split at e
  ·rename_i hz
   cases e
   cases (show v=_ from r1)
   exact ⟨z,rfl,hz,q _ H3 (s1.trans (s2.trans s3)) rfl⟩
  ·cases e
 | _=>cases e
theorem lf:CaD X (.type "int") fIntS:=by
 intro pins s σ H xs us Q I rv h
 obtain ⟨ds,d,r,e,q⟩:=h
 match ds,e with
 | [.str x],e =>
  simp only [fIntS] at e
  split at e
  ·rename_i hz
   obtain ⟨n,e1,rfl⟩:=mapS e
   obtain ⟨v,r',rfl,r1,r2⟩:=r
   cases (show v=_ from r1)
   cases (show r'=[] from r2)
   obtain ⟨u,rfl,t,rfl⟩:=rv.one
   exact PySem.W.KIN.call_text e1 hz ⟨.int n,H,I.tok _,⟨_,rfl⟩,q _ H (Same.refl H) rfl⟩
  ·cases e
end
end HW
namespace HW
open PySem PySem.Spec PyProof.Rows L2
def It3 (lo c:Int) (n:Nat):It:=⟨fun i _=>i<n,fun i H x H'=>H'=H/\x=.int (lo+i*c),fun i _=>n<=i⟩
theorem turn_rng3 {P:Program} {w:World} {K:PySem.W.Frag} {tg:Expr} (it:Addr) (lo c:Int) (n:Nat):Turn P w K tg (It3 lo c n) [it] it (fun i h=>IsRangeIter h it (lo+(i:Nat)*c) ((n:Int) - (i:Nat)) c) where
 mem:=List.mem_singleton.mpr rfl
 obj:=fun i h st b hb=>by
  cases (List.mem_singleton.mp hb)
  refine ⟨_,st,fun v z=>?_⟩
  cases (show Data.fields _=Data.cell v from z)
 keep:=fun i h h' st k=>k it (List.mem_singleton.mpr rfl) _ st
 item:=by
  intro X hP hw hK hc i pins s σ H E I hf st hg
  subst hP hw hK
  obtain ⟨f0,f1,f2,f3,f4,f5⟩:=hf it (List.mem_singleton.mpr rfl)
  refine (Walks.range (prog:=X.prog) (w:=X.w) (I.ok.hd hc) it lo c n).item i s _ _ hg st fun v h' tk hv st' kk=>?_
  obtain ⟨t,rfl⟩:=hv
  have I1:L2.Inv X pins σ H {s with heap:=h',toks:=tk}:=I.turned (fun b o hb e=>kk b o (by simpa using hb) e) f0 f1 f3 f4 f5
  exact ⟨_,rfl,go_of (s:={s with heap:=h',toks:=tk}) (n:="range_iterator") st' rfl rfl (by decide) ⟨.int (lo+i*c),H,I1,⟨t,rfl⟩,⟨rfl,rfl⟩,st',fun b hb=>(hf b hb).1⟩⟩
 done:=by
  intro X hP hw hK hc i pins s σ H E I hf st hg
  subst hP hw hK
  obtain ⟨f0,f1,f2,f3,f4,f5⟩:=hf it (List.mem_singleton.mpr rfl)
  exact wpAny_pyNext_range_end (I.ok.hd hc) st (by have:n<=i:=hg;omega) fun h' eb=>⟨rfl,I.turned (t':=s.toks) (fun b o hb e=>eb b o hb e) f0 f1 f3 f4 f5⟩
 self:=fun _ _ _ _ _ st h=>wpAny_pyIter_rangeiter st h
theorem small3 {a b c:Int} (ha : -(2 ^ 60)<=a) (ha':a<2 ^ 60) (hb : -(2 ^ 60)<=b) (hb':b<2 ^ 60) (hc:0<c) (hc':c<1073741824):Builtin.Range.small a b c=true:=by
 have hd:0<=(b - a - 1) / c\/b - a - 1<0:=by
  by_cases h:b - a - 1<0
  ·exact .inr h
  ·exact .inl (Int.ediv_nonneg (by omega) (by omega))
 have hd2:a<b->(b - a - 1) / c<=b - a - 1:=fun h=>Int.ediv_le_self _ (by omega)
 unfold Builtin.Range.small Builtin.Range.rangeSize
 simp only [Builtin.Range.rangeFitsLong,Bool.and_eq_true,Bool.or_eq_true,decide_eq_true_eq,beq_iff_eq,gt_iff_lt,hc,if_true]
 split<;>omega
section
variable {X:Cx}
theorem rng3_size {a b c:Int} (hc:0<c):((rng3N a b c:Nat):Int)=Builtin.Range.rangeSize a b c:=by
 unfold rng3N Builtin.Range.rangeSize
 rw [if_pos (show c > 0 from hc)]
 split
 ·rename_i h
  have:0<=(b - a - 1) / c:=Int.ediv_nonneg (by omega) (by omega)
  omega
 ·rfl
def iRng3 (ta:TA):TI:=fun σ H R=>ta σ H fun vs H1=>∃ i j c:Int,vs=[.int i,.int j,.int c]/\(-(2 ^ 60)<=i/\i<2 ^ 60 /\ -(2 ^ 60)<=j/\j<2 ^ 60/\0<c/\c<1073741824)/\R (It3 i c (rng3N i j c)) H1
theorem lC {tg a b c:Expr} {ta:TA} {p pos:Pos} (hg:Gl X "range") (hm:X.mg "range" = none) (ha:PA X [a,b,c] ta) (hs:starEach [a,b,c] X.env=[(false,eval a X.env),(false,eval b X.env),(false,eval c X.env)]) (hs2:starEach [b,c] X.env=[(false,eval b X.env),(false,eval c X.env)]) :
  PI X tg (.Call (.Name "range" p) [a,b,c] [] pos) (iRng3 ta):=by
 intro pins s σ H R I h
 refine Call_ (dt I hg hm boot_range (PyProof.Rows.callWith_type1 (thn (ha pos pins s σ H _ I h) fun us s1 ⟨vs,H1,I1,r1,q1⟩=>?_) (by rw [hs,hs2]) (by rw [hs2];rfl)))
 obtain ⟨i,j,k,e,⟨q1,q2,q3,q4,q5,q6⟩,q⟩:=q1
 subst e
 cases r1 with
 | cons r rr =>
  cases rr with
  | cons r' rr =>
   cases rr with
   | cons r'' rr =>
    cases rr
    obtain ⟨t,rfl⟩:=r
    obtain ⟨t',rfl⟩:=r'
    obtain ⟨t'',rfl⟩:=r''
    refine call_range_3 (by omega) ?_ (.inl (PyProof.noPylong_small (by omega)))
    refine wpAny_pyIter_range (IsRange.new ..) (small3 q1 q2 q3 q4 q5 q6) ?_
    generalize hob:({cls:=.type "range",data:=.fields #[.int i t,.int j t',.int k t'']}:Obj)=ob
    have I2:L2.Inv X pins σ H1 {s1 with heap:=s1.heap.push ob,toks:=s1.toks}:=I1.kept fun b o e=>Heap.get?_push_of_some _ e
    refine ⟨(s1.heap.push ob).objs.size,[(s1.heap.push ob).objs.size],_,_,H1,rfl,I2.kept (t':=s1.toks) fun b o e=>Heap.get?_push_of_some _ e,turn_rng3 _ i k (rng3N i j k),?_,fun b hb=>?_,q⟩
    ·have e1:i+((0:Nat):Int)*k=i:=by simp
     have e2:((rng3N i j k:Nat):Int) - ((0:Nat):Int)=Builtin.Range.rangeSize i j k:=by rw [<- rng3_size q5];simp
     show IsRangeIter _ _ (i+((0:Nat):Int)*k) (((rng3N i j k:Nat):Int) - ((0:Nat):Int)) k
     rw [e1,e2]
     exact Heap.get?_push_size _ rfl
    ·cases (List.mem_singleton.mp hb)
     exact I2.fpOk (Nat.le_refl _) (I2.hok.fresh (Nat.le_refl _))
theorem jt {K:PySem.W.Frag} {H:Hp} {a b c:Int}:Yields K (It3 a c (rng3N a b c)) (rng3D a b c) H:=by
 have hl:(rng3D a b c).length=rng3N a b c:=by simp [rng3D]
 refine ⟨fun i d H2 s2 e=>?_,fun i H2 s2 h=>by rw [hl] at h;exact h⟩
 have hi:i<rng3N a b c:=by rw [<- hl];exact (List.getElem?_eq_some_iff.mp e).1
 refine ⟨hi,fun x H3 ⟨e3,y⟩=>?_⟩
 subst e3
 refine ⟨Same.refl _,?_⟩
 have hd:d=.int (a+(i:Int)*c):=by
  unfold rng3D at e
  rw [List.getElem?_map,List.getElem?_range hi] at e
  exact (Option.some.inj e).symm
 subst hd
 exact y
theorem mF {tg a b c:Expr} {f g h:R->Option D} {p pos:Pos} (hm:X.mg "range" = none) (ha:SE X a f) (hb:SE X b g) (hc:SE X c h) (hg:Gl X "range":=by rfl) (hs:noStar a=true:=by rfl) (hs2:noStar b=true:=by rfl) (hs3:noStar c=true:=by rfl) :
  SI X tg (.Call (.Name "range" p) [a,b,c] [] pos) (inRng3 f g h):=by
 have z3:=ay [] X.env hs3
 have z2:=ay [c] X.env hs2
 have z1:=ay [b,c] X.env hs
 refine (lC hg hm (aa ha (aa hb (aa hc ad hs3) hs2) hs).1 (by rw [z1,z2,z3];rfl) (by rw [z2,z3];rfl)).imp fun σ H W ⟨ρ,ds,er,e,q⟩=>?_
 obtain ⟨x,e1,e⟩:=bindS e
 obtain ⟨y,e2,e⟩:=bindS e
 obtain ⟨z,e3,e⟩:=bindS e
 obtain ⟨i,e4,e⟩:=bindS e
 obtain ⟨j,e5,e⟩:=bindS e
 obtain ⟨k,e6,e⟩:=bindS e
 split at e
 ·rename_i hz
  cases e
  refine ⟨ρ,[x,y,z],er,by show (f ρ).bind _=_;rw [e1];show ((g ρ).bind _).map _=_;rw [e2];show (((h ρ).bind _).map _).map _=_;rw [e3];rfl,fun vs H1 s1 r1=>?_⟩
  obtain ⟨v,r,rfl,r2,r3⟩:=r1
  obtain ⟨u,r',rfl,r4,r5⟩:=r3
  obtain ⟨w,r'',rfl,r6,r7⟩:=r5
  cases (show r''=_ from r7)
  have hv:=nI_of e4 r2
  have hu:=nI_of e5 r4
  have hw:=nI_of e6 r6
  subst hv hu hw
  exact ⟨i,j,k,rfl,hz,q _ H1 s1 jt⟩
 ·cases e
end
section
variable {X:Cx} {pins:List (Addr×Obj)} {σ:L2.St} {H:Hp} {s:Shared} {k:Nat} {y:Str}
def hid (X:Cx) (k:Nat) (y:Str):Cx:={X with N:=X.N.set k y}
end
end HW
namespace HW
open PySem
section
open Builtin Builtin.Str
theorem sub1 {x:Str} {c a:Nat}:subAt x ⟨#[c]⟩ a=(x.cps[a]?==some c):=by
 have e:(⟨#[c]⟩:Str).length=1:=rfl
 unfold subAt
 rw [e]
 show (x.cps.extract a (a+1)==#[c])=_
 by_cases h:a<x.cps.size
 ·have:x.cps.extract a (a+1)=#[x.cps[a]]:=by
   apply Array.ext'
   simp [h,List.drop_eq_getElem_cons]
  rw [this,Array.getElem?_eq_getElem h,Bool.eq_iff_iff,beq_iff_eq,beq_iff_eq]
  constructor
  ·intro q
   have q':=congrArg Array.toList q
   simp at q'
   rw [q']
  ·intro q
   rw [Option.some.inj q]
 ·have:x.cps.extract a (a+1)=#[]:=by
   apply Array.ext'
   simp
   omega
  rw [this,Array.getElem?_eq_none (by omega)]
  rfl
theorem occ_go (x:Str) (c:Nat):∀ (k a:Nat) (st:Array Nat×Nat),a+k=x.length+1->st.1.size<=a->st.2<=a ->
  (forIn (List.range' a k) st (StrLaws.occBody x ⟨#[c]⟩ x.length (x.length+1))).run.fst.toList=st.1.toList++(List.range' a k).filter fun i=>x.cps[i]?==some c
 | 0,a,st,_,_,_=>by simp
 | k+1,a,st,h,h1,h2=>by
  have e:(⟨#[c]⟩:Str).length=1:=rfl
  rw [List.range'_succ,List.forIn_cons]
  have hb:StrLaws.occBody x ⟨#[c]⟩ x.length (x.length+1) a st=(if (x.cps[a]?==some c)=true then pure (ForInStep.yield (st.1.push a,a+1)) else pure (ForInStep.yield st)):=by
   unfold StrLaws.occBody
   rw [sub1,e]
   by_cases hc:(x.cps[a]?==some c)=true
   ·have hc':x.cps[a]?=some c:=by simpa using hc
    have ha:a<x.cps.size:=(Array.getElem?_eq_some_iff.mp hc').1
    have ha':a<x.length:=ha
    rw [if_pos ⟨⟨⟨by omega,h2⟩,by omega⟩,hc⟩,if_pos hc]
   ·rw [if_neg (fun q=>hc q.2),if_neg hc]
  rw [hb]
  by_cases hc:(x.cps[a]?==some c)=true
  ·rw [if_pos hc]
   have ih:=occ_go x c k (a+1) (st.1.push a,a+1) (by omega) (by simp;omega) (Nat.le_refl _)
   rw [List.filter_cons_of_pos (p:=fun i=>x.cps[i]?==some c) hc]
   refine ih.trans ?_
   simp
  ·rw [if_neg hc]
   have ih:=occ_go x c k (a+1) st (by omega) (by omega) (by omega)
   rw [List.filter_cons_of_neg (p:=fun i=>x.cps[i]?==some c) hc]
   exact ih
def cutsL (c:Nat) (l:List Nat):List Nat:=(List.range l.length).filter fun i=>l[i]?==some c
theorem occ1 (x:Str) (c:Nat):occurrences x ⟨#[c]⟩ 0 x.length (x.length+1)=cutsL c x.cps.toList:=by
 rw [StrLaws.occ_eq,occ_go x c (x.length+1 - 0) 0 (#[],0) (by omega) (by simp) (Nat.le_refl _)]
 unfold cutsL
 show []++_=_
 rw [List.nil_append,show x.length+1 - 0=x.length+1 by omega,show x.cps.toList.length=x.length by simp;rfl,List.range_eq_range',List.range'_concat,List.filter_append]
 have e:x.cps[x.length]?=none:=Array.getElem?_eq_none (Nat.le_refl _)
 simp [e]
def partsL (l cs:List Nat):List (List Nat):=((0::cs.map (·+1)).zip (cs++[l.length])).map fun p=>(l.drop p.1).take (p.2 - p.1)
theorem parts1 (x:Str) (cs:List Nat):partsBetween x cs 1=(partsL x.cps.toList cs).map fun l=>(⟨l.toArray⟩:Str):=by
 unfold partsBetween partsL
 rw [List.map_map,show x.cps.toList.length=x.length by simp;rfl]
 apply List.map_congr_left
 rintro ⟨i,j⟩ _
 show (⟨x.cps.extract i j⟩:Str)=⟨_⟩
 congr 1
 apply Array.ext'
 simp
end
theorem cuts_none {c:Nat} {l:List Nat} (h:c∉l):cutsL c l=[]:=by
 unfold cutsL
 rw [List.filter_eq_nil_iff]
 intro i _ q
 exact h (List.mem_of_getElem? (by simpa using q))
theorem range_add' (a b:Nat):List.range (a+b)=List.range a++(List.range b).map (a+·):=List.range_add
theorem cuts_cons {c:Nat} {w r:List Nat} (h:c∉w):cutsL c (w++c::r)=w.length::(cutsL c r).map (·+(w.length+1)):=by
 unfold cutsL
 rw [show (w++c::r).length=w.length+(r.length+1) by simp,range_add',List.filter_append]
 have e1:(List.range w.length).filter (fun i=>(w++c::r)[i]?==some c)=[]:=by
  rw [List.filter_eq_nil_iff]
  intro i hi q
  have hi':i<w.length:=by simpa using hi
  rw [List.getElem?_append_left hi'] at q
  exact h (List.mem_of_getElem? (by simpa using q))
 rw [e1,List.nil_append,List.range_succ_eq_map,List.map_cons,List.filter_cons_of_pos (by simp),List.map_map,List.filter_map]
 congr 1
 have e2:((fun i=>(w++c::r)[i]?==some c) ∘ ((fun x=>w.length+x) ∘ Nat.succ))=fun i=>r[i]?==some c:=by
  funext i
  show ((w++c::r)[w.length+(i+1)]?==some c)=_
  rw [List.getElem?_append_right (by omega)]
  simp
 rw [e2]
 apply List.map_congr_left
 intro i _
 show w.length+(i+1)=i+(w.length+1)
 omega
theorem parts_cons {c:Nat} (w r cs:List Nat):partsL (w++c::r) (w.length::cs.map (·+(w.length+1)))=w::partsL r cs:=by
 unfold partsL
 have e:(w++c::r).length=r.length+(w.length+1):=by simp;omega
 rw [e]
 show (List.map _ ((0,w.length)::(((w.length::cs.map (·+(w.length+1))).map (·+1)).zip (cs.map (·+(w.length+1))++[r.length+(w.length+1)]))))=_
 rw [List.map_cons]
 congr 1
 ·simp
 ·have e1:(w.length::cs.map (·+(w.length+1))).map (·+1)=(0::cs.map (·+1)).map (·+(w.length+1)):=by
   simp
   intro a _
   omega
  have e2:cs.map (·+(w.length+1))++[r.length+(w.length+1)]=(cs++[r.length]).map (·+(w.length+1)):=by simp
  rw [e1,e2,List.zip_map,List.map_map]
  apply List.map_congr_left
  rintro ⟨i,j⟩ _
  show ((w++c::r).drop (i+(w.length+1))).take (j+(w.length+1) - (i+(w.length+1)))=(r.drop i).take (j - i)
  have:w++c::r=(w++[c])++r:=by simp
  rw [this,show i+(w.length+1)=(w++[c]).length+i by simp;omega,List.drop_append,show j+(w.length+1) - ((w++[c]).length+i)=j - i by simp;omega,List.drop_eq_nil_of_le (Nat.le_add_right _ _),List.nil_append,Nat.add_sub_cancel_left]
def joinL (c:Nat):List (List Nat)->List Nat
 | []=>[]
 | w::ws=>w++ws.flatMap (c::·)
theorem joinL_cons (c:Nat) (w v:List Nat) (ws:List (List Nat)):joinL c (w::v::ws)=w++c::joinL c (v::ws):=by simp [joinL]
theorem cuts_join {c:Nat}:∀ {ws:List (List Nat)},ws ≠ []->(∀ w∈ws,c∉w)->partsL (joinL c ws) (cutsL c (joinL c ws))=ws
 | [],h,_=>absurd rfl h
 | [w],_,h=>by
  have e:joinL c [w]=w:=by simp [joinL]
  rw [e,cuts_none (h w (by simp))]
  simp [partsL]
 | w::v::ws,_,h=>by
  have ih:=cuts_join (c:=c) (ws:=v::ws) (by simp) fun u hu=>h u (List.mem_cons_of_mem _ hu)
  rw [joinL_cons,cuts_cons (h w (by simp)),parts_cons,ih]
theorem glued_cps (g:Str):∀ (r:List Str) (acc:Array Nat),(r.foldl (fun acc p=>acc++g.cps++p.cps) acc).toList=acc.toList++r.flatMap fun p=>g.cps.toList++p.cps.toList
 | [],acc=>by simp
 | p::r,acc=>by
  rw [List.foldl_cons,glued_cps g r]
  simp
theorem glued_join (c:Nat) (ws:List Str):(Builtin.Str.glued ⟨#[c]⟩ ws).cps.toList=joinL c (ws.map fun w=>w.cps.toList):=by
 cases ws with
 | nil=>rfl
 | cons w r =>
  show (r.foldl (fun acc p=>acc++(⟨#[c]⟩:Str).cps++p.cps) w.cps).toList=_
  rw [glued_cps]
  simp [joinL,List.flatMap_map]
theorem parts_glued {c:Nat} {ws:List Str} (h0:ws ≠ []) (h:∀ w∈ws,c∉w.cps.toList) :
  Builtin.Str.partsBetween (Builtin.Str.glued ⟨#[c]⟩ ws) (Builtin.Str.occurrences (Builtin.Str.glued ⟨#[c]⟩ ws) ⟨#[c]⟩ 0 (Builtin.Str.glued ⟨#[c]⟩ ws).length ((Builtin.Str.glued ⟨#[c]⟩ ws).length+1)) 1=ws:=by
 rw [occ1,parts1,glued_join,cuts_join (by simpa using h0) (by
  intro w hw
  obtain ⟨v,hv,rfl⟩:=List.mem_map.mp hw
  exact h v hv),List.map_map]
 conv=>rhs;rw [<- List.map_id ws]
 apply List.map_congr_left
 intro w _
 rfl
end HW
namespace HW
open PySem
section
variable {prog:Program} {w:World} {A:Around} {E:Value->Shared->Prop} {g:_} {d:_} {os:_}
structure Nx (prog:Program) (w:World) (A:Around) (mk:Heap->Nat->Shared) (Good:Heap->Nat->Prop) (it:Addr) (st st':Heap->Prop) (P:Value->Prop):Prop where
 stay:∀ h h',st h->(∀ o,h.get? it=some o->h'.get? it=some o)->st h'
 stay':∀ h h',st' h->(∀ o,h.get? it=some o->h'.get? it=some o)->st' h'
 run:∀ h tk (Q:Value->Shared->Prop) (E:Value->Shared->Prop),Good h tk->st h->(∀ u h' tk',P u->st' h'->Heap.SameBut it h h'->Q u (mk h' tk')) ->
  wpAny (model prog w) A (Builtin.SmallTypes.nextOf (.ref it)) Q E (mk h tk)
structure Ne (prog:Program) (w:World) (A:Around) (mk:Heap->Nat->Shared) (Good:Heap->Nat->Prop) (it:Addr) (st:Heap->Prop):Prop where
 stay:∀ h h',st h->(∀ o,h.get? it=some o->h'.get? it=some o)->st h'
 run:∀ h tk (Q:Value->Shared->Prop) (E:Value->Shared->Prop),Good h tk->st h->(∀ h' e,Heap.ExtBut it h h'->(∃ o,h'.get? e=some o/\o.cls=.type "StopIteration")->E (.ref e) (mk h' tk)) ->
  wpAny (model prog w) A (Builtin.SmallTypes.nextOf (.ref it)) Q E (mk h tk)
def mkS (s:Shared) (h:Heap) (tk:Nat):Shared:={s with heap:=h,toks:=tk}
variable {Good:Heap->Nat->Prop} {s:Shared} {z TI TO i1 i2:Addr} {a b:Value} {st1 st1' st2 st2':Heap->Prop} {P1 P2:Value->Prop}
theorem fm {it l:Addr} {i:Nat} {items} {x:Value} {Q:Value->Shared->Prop} (hit:s.heap.IsTupleIter it l i) (hl:s.heap.IsTuple l items) (hx:items[i]?=some x)
  (hQ:∀ h',h'.IsTupleIter it l (i+1)->Heap.SameBut it s.heap h'->Q x {s with heap:=h' }):wpAny (model prog w) A (Builtin.SmallTypes.nextOf (.ref it)) Q E s:=by
 obtain ⟨o,ho,hc,hd⟩:=id hit
 obtain ⟨ol,hol,_,nl,hdl⟩:=hl
 unfold Builtin.SmallTypes.nextOf
 refine wpAny_bind (wpAny_callSpecial?_slot (name:=Str.ofString "__next__") hit.typeIs F.slot_tuple_iterator_next (wpAny_call_entry F.slot_tuple_iterator_next hit.typeIs F.entry_tuple_iterator_next ?_ (F.args_tuple_iterator_next_1 _)))
 show wpAny _ _ (field (.ref it) 0 >>= _) _ _ s;refine wpAny_bind (wpAny_field ho hd (x:=.ref l) rfl ?_)
 show wpAny _ _ (if (Value.ref l==Value.none)=true then _ else _) _ _ s;rw [if_neg (show ¬ ((Value.ref l==Value.none)=true) from Bool.false_ne_true)]
 show wpAny _ _ (field (.ref it) 1 >>= _) _ _ s;refine wpAny_bind (wpAny_field ho hd (x:=.int i 0) rfl ?_)
 show wpAny _ _ (seqItems? (.ref l) >>= _) _ _ s;refine wpAny_bind (wpAny_seqItems hol hdl ?_)
 simp only [Int.toNat_natCast,hx]
 refine wpAny_bind (wpAny_setField ho hd (by simp) (wpAny_pure ⟨x,rfl,wpAny_pure (hQ _ ⟨_,Heap.get?_update_self _ ho (Obj.isFreed_of_fields (Obj.data_mapFields hd _)),(Obj.cls_mapFields ..).trans hc,?_⟩ (Heap.SameBut.update ..))⟩))
 rw [Obj.data_mapFields hd];simp [rawInt]
theorem fu {it l:Addr} {i:Nat} {items} {Q:Value->Shared->Prop} (hh:A.handled=none) (hit:s.heap.IsTupleIter it l i) (hl:s.heap.IsTuple l items) (hx:items[i]?=none)
  (hE:∀ h' e,Heap.ExtBut it s.heap h'->(∃ o,h'.get? e=some o/\o.cls=.type "StopIteration")->E (.ref e) {s with heap:=h' }):wpAny (model prog w) A (Builtin.SmallTypes.nextOf (.ref it)) Q E s:=by
 obtain ⟨o,ho,hc,hd⟩:=id hit
 obtain ⟨ol,hol,_,nl,hdl⟩:=hl
 unfold Builtin.SmallTypes.nextOf
 refine wpAny_bind (wpAny_callSpecial?_slot (name:=Str.ofString "__next__") hit.typeIs F.slot_tuple_iterator_next (wpAny_call_entry F.slot_tuple_iterator_next hit.typeIs F.entry_tuple_iterator_next ?_ (F.args_tuple_iterator_next_1 _)))
 show wpAny _ _ (field (.ref it) 0 >>= _) _ _ s;refine wpAny_bind (wpAny_field ho hd (x:=.ref l) rfl ?_)
 show wpAny _ _ (if (Value.ref l==Value.none)=true then _ else _) _ _ s;rw [if_neg (show ¬ ((Value.ref l==Value.none)=true) from Bool.false_ne_true)]
 show wpAny _ _ (field (.ref it) 1 >>= _) _ _ s;refine wpAny_bind (wpAny_field ho hd (x:=.int i 0) rfl ?_)
 show wpAny _ _ (seqItems? (.ref l) >>= _) _ _ s;refine wpAny_bind (wpAny_seqItems hol hdl ?_)
 simp only [Int.toNat_natCast,hx]
 refine wpAny_bind (wpAny_rule (wpAny_bind (wpAny_setField ho hd (by simp) ?_)));show wpAny _ _ (newExc (.type "StopIteration") [] >>= _) _ _ _
 refine wpAny_bind ?_;simp only [newExc,newTuple]
 refine wpAny_bind (wpAny_newObj_type ?_ (by size_fits));refine wpAny_bind (m:=firstArgMember _ _) (wpAny_of_eq (a:=Value.none) (by first | rfl | (simp only [firstArgMember];rfl)) ?_)
 refine wpAny_newObj_type ?_ (by size_fits);simp only [raiseNew]
 refine wpAny_bind (wpAny_handled ?_);first | rw [show A.in1.handled=none from hh] | rw [hh]
 exact wpAny_bind (wpAny_pure (wpAny_throw (hE _ _ (((Heap.SameBut.update ..).extBut.push _).push _) ⟨_,Heap.get?_push_size _ rfl,rfl⟩)))
inductive Src where
 | lst (a:Addr)
 | tup (a:Addr)
 | txt (x:Str) (t:Tok)
def Src.val:Src->Value
 | .lst a=>.ref a
 | .tup a=>.ref a
 | .txt x t=>.str x t
def Src.obj:Src->Obj
 | .lst a=>{cls:=.type "list_iterator",data:=.fields #[.ref a,.int 0 0]}
 | .tup a=>{cls:=.type "tuple_iterator",data:=.fields #[.ref a,.int 0 0]}
 | .txt x t=>{cls:=.type "str_ascii_iterator",data:=.fields #[.str x t,.int 0 0]}
def Src.ok (h:Heap):Src->Prop
 | .lst a=>∃ xs,h.IsList a xs
 | .tup a=>∃ xs,h.IsTuple a xs
 | .txt x _=>x.cps.all (·<128)=true
def Src.at (it:Addr) (i:Nat) (h:Heap):Src->Prop
 | .lst a=>h.IsListIter it a i
 | .tup a=>h.IsTupleIter it a i
 | .txt x t=>h.IsStrIter it "str_ascii_iterator" x t i
theorem Src.iter {S:Src} {Q:Value->Shared->Prop} (h:S.ok s.heap) (hQ:Q (.ref s.heap.objs.size) {s with heap:=s.heap.push S.obj}):wpAny (model prog w) A (pyIter S.val) Q E s:=by
 cases S with
 | lst a=>obtain ⟨xs,h⟩:=h;exact wpAny_pyIter_list h hQ
 | tup a=>obtain ⟨xs,h⟩:=h;exact wpAny_pyIter_tuple h hQ
 | txt x t=>exact wpAny_pyIter_ascii h hQ
theorem Src.keep {S:Src} {it:Addr} {i:Nat} {h h':Heap} (q:S.at it i h) (k:∀ o,h.get? it=some o->h'.get? it=some o):S.at it i h':=by
 cases S with
 | lst a=>exact Heap.IsListIter.at q k
 | tup a=>obtain ⟨o,e,r⟩:=q;exact ⟨o,k o e,r⟩
 | txt x t=>obtain ⟨o,e,r⟩:=q;exact ⟨o,k o e,r⟩
theorem Src.start {S:Src} {it:Addr} {h:Heap} (q:h.get? it=some S.obj):S.at it 0 h:=by
 cases S<;>exact ⟨_,q,rfl,rfl⟩
theorem Src.nx {S:Src} {it:Addr} {i:Nat} {P:Value->Prop} (hx:∀ h tk,Good h tk->match S with
  | .lst a=>∃ xs x,h.IsList a xs/\xs[i]?=some x/\P x
  | .tup a=>∃ xs x,h.IsTuple a xs/\xs[i]?=some x/\P x
  | .txt x _=>∃ c,x.cps[i]?=some c/\∀ u,P (.str ⟨#[c]⟩ u)):Nx prog w A (mkS s) Good it (fun h=>S.at it i h) (fun h=>S.at it (i+1) h) P where
 stay:=fun _ _ q k=>Src.keep q k
 stay':=fun _ _ q k=>Src.keep q k
 run:=fun h tk Q E gg q hQ=>by
  have z:=hx h tk gg
  cases S with
  | lst a=>obtain ⟨xs,x,l,e,p⟩:=z;exact wpAny_nextOf_list_item (s:=mkS s h tk) q l e fun h' q' sb=>hQ x h' tk p q' sb
  | tup a=>obtain ⟨xs,x,l,e,p⟩:=z;exact fm (s:=mkS s h tk) q l e fun h' q' sb=>hQ x h' tk p q' sb
  | txt x t=>obtain ⟨c,e,p⟩:=z;exact wpAny_nextOf_ascii_item (s:=mkS s h tk) q e fun h' q' sb=>hQ _ h' (tk+1) (p _) q' sb
theorem Src.ne {S:Src} {it:Addr} {i:Nat} (hh:A.handled=none) (hx:∀ h tk,Good h tk->match S with
  | .lst a=>∃ xs,h.IsList a xs/\xs[i]?=none
  | .tup a=>∃ xs,h.IsTuple a xs/\xs[i]?=none
  | .txt x _=>x.cps[i]?=none):Ne prog w A (mkS s) Good it (fun h=>S.at it i h) where
 stay:=fun _ _ q k=>Src.keep q k
 run:=fun h tk Q E gg q hQ=>by
  have z:=hx h tk gg
  cases S with
  | lst a=>obtain ⟨xs,l,e⟩:=z;exact wpAny_nextOf_list_end (s:=mkS s h tk) hh q l e hQ
  | tup a=>obtain ⟨xs,l,e⟩:=z;exact fu (s:=mkS s h tk) hh q l e hQ
  | txt x t=>exact wpAny_nextOf_ascii_end (s:=mkS s h tk) hh q z hQ
end
section
variable {prog:Program} {w:World} {A:Around} {E:Value->Shared->Prop} {s:Shared}
end
end HW
namespace HW
open PySem PySem.Spec PyProof.Rows L2
def Src.go (K:PySem.W.Frag) (i:Nat) (H:Hp) (v:V):Src->Prop
 | .lst a=>∃ xs,SqL K H a xs/\xs[i]?=some v
 | .tup a=>∃ xs,SqT K H a xs/\xs[i]?=some v
 | .txt x _=>∃ c,x.cps[i]?=some c/\v=.str ⟨#[c]⟩
def Src.stop (K:PySem.W.Frag) (i:Nat) (H:Hp):Src->Prop
 | .lst a=>∃ xs,SqL K H a xs/\xs.length<=i
 | .tup a=>∃ xs,SqT K H a xs/\xs.length<=i
 | .txt x _=>x.cps.size<=i
section
variable {X:Cx} {pins:List (Addr×Obj)} {σ:L2.St} {H:Hp} {s:Shared} {S:Src} {i:Nat} {v:V}
end
section
variable {X:Cx}
theorem iv:CaD X (.builtin "len") fLenS:=call_len_str.imp fun xs H Q ⟨ds,d,r,e,q⟩=>by
 match ds,e with
 | [.str x],e =>
  simp only [fLenS] at e
  split at e
  ·rename_i hz
   cases e
   obtain ⟨v,r',rfl,r1,r2⟩:=r
   cases (show v=_ from r1)
   cases (show r'=[] from r2)
   exact ⟨x,rfl,hz,q _ H (Same.refl H) rfl⟩
  ·cases e
end
end HW
namespace L2
open PySem PySem.Spec PyProof.Rows
section
variable {κ:Type} [DecidableEq κ]
def valV (kvs:List (κ×V)) (k:κ):Option V:=(kvs.find? fun kv=>decide (kv.1=k)).map (·.2)
def putK (kvs:List (κ×V)) (k:κ) (v:V):List (κ×V) :=
 if (kvs.any fun kv=>decide (kv.1=k))=true then kvs.map (fun kv=>if kv.1=k then (kv.1,v) else kv) else kvs++[(k,v)]
def dropK (kvs:List (κ×V)) (k:κ):List (κ×V):=kvs.filter fun kv=>decide (kv.1≠k)
theorem valV_pos {p:κ×V} {r:List (κ×V)} {k:κ} (e:p.1=k):valV (p::r) k=some p.2:=by simp [valV,List.find?_cons,e]
theorem valV_neg {p:κ×V} {r:List (κ×V)} {k:κ} (e:¬ p.1=k):valV (p::r) k=valV r k:=by simp [valV,List.find?_cons,e]
theorem valV_any (k:κ):∀ kvs:List (κ×V),(kvs.any fun kv=>decide (kv.1=k))=(valV kvs k).isSome
 | []=>rfl
 | p::r=>by
  rw [List.any_cons]
  by_cases e:p.1=k
  ·simp only [valV_pos e,decide_eq_true e,Bool.true_or,Option.isSome_some]
  ·rw [valV_neg e,decide_eq_false e,Bool.false_or];exact valV_any k r
theorem RelO.isSome_eq {o:Option V} {u:Option Value} (r:RelO o u):o.isSome=u.isSome:=by
 cases o with
 | none=>cases u with
  | none=>rfl
  | some _=>exact (show False from r).elim
 | some _=>cases u with
  | none=>exact (show False from r).elim
  | some _=>rfl
theorem RelO.getD {o:Option V} {u:Option Value} {d:V} {d':Value} (r:RelO o u) (rd:RelV d d'):RelV (o.getD d) (u.getD d'):=by
 cases o with
 | none=>cases u with
  | none=>exact rd
  | some _=>exact (show False from r).elim
 | some _=>cases u with
  | none=>exact (show False from r).elim
  | some _=>exact r
theorem KV.val {kvs:List (κ×V)} {vs:List (κ×Value)} (r:KV kvs vs) (k:κ):RelO (valV kvs k) (valueAt vs k):=by
 unfold KV at r
 induction r with
 | nil=>exact True.intro
 | @cons p q ps qs h t ih =>
  obtain ⟨h1,h2⟩:=h
  by_cases e:p.1=k
  ·have e':q.1=k:=h1.symm.trans e
   have b:valueAt (q::qs) k=some q.2:=by simp [valueAt,List.find?_cons,e']
   rw [valV_pos e,b];exact h2
  ·have e':¬ q.1=k:=fun z=>e (h1.trans z)
   have b:valueAt (q::qs) k=valueAt qs k:=by simp [valueAt,List.find?_cons,e']
   rw [valV_neg e,b];exact ih
theorem KV.any {kvs:List (κ×V)} {vs:List (κ×Value)} (r:KV kvs vs) (k:κ):(kvs.any fun kv=>decide (kv.1=k))=vs.any fun kv=>decide (kv.1=k):=by
 unfold KV at r
 induction r with
 | nil=>rfl
 | cons h t ih=>rw [List.any_cons,List.any_cons,ih,h.1]
theorem KV.repl {kvs:List (κ×V)} {vs:List (κ×Value)} (r:KV kvs vs) (k:κ) {y:V} {u:Value} (ry:RelV y u) :
  KV (kvs.map fun kv=>if kv.1=k then (kv.1,y) else kv) (vs.map fun kv=>if kv.1=k then (kv.1,u) else kv):=by
 unfold KV at r ⊢
 induction r with
 | nil=>exact .nil
 | @cons p q ps qs h t ih =>
  rw [List.map_cons,List.map_cons]
  refine .cons ?_ ih
  obtain ⟨h1,h2⟩:=h
  by_cases e:p.1=k
  ·rw [if_pos e,if_pos (h1.symm.trans e)];exact ⟨h1,ry⟩
  ·rw [if_neg e,if_neg (fun z=>e (h1.trans z))];exact ⟨h1,h2⟩
theorem KV.put {kvs:List (κ×V)} {vs:List (κ×Value)} (r:KV kvs vs) (k:κ) {y:V} {u:Value} (ry:RelV y u):KV (putK kvs k y) (stored vs k u):=by
 unfold putK stored
 rw [r.any k]
 by_cases e:(vs.any fun kv=>decide (kv.1=k))=true
 ·rw [if_pos e,if_pos e];exact r.repl k ry
 ·rw [if_neg e,if_neg e];exact Paired.snoc r ⟨rfl,ry⟩
theorem KV.drop {kvs:List (κ×V)} {vs:List (κ×Value)} (r:KV kvs vs) (k:κ):KV (dropK kvs k) (without vs k):=by
 unfold KV at r ⊢
 unfold dropK without
 induction r with
 | nil=>exact .nil
 | @cons p q ps qs h t ih =>
  obtain ⟨h1,h2⟩:=h
  rw [List.filter_cons,List.filter_cons]
  by_cases e:p.1=k
  ·have a:¬ decide (p.1≠k)=true:=by simp [e]
   have b:¬ decide (q.1≠k)=true:=by simp [h1.symm.trans e]
   rw [if_neg a,if_neg b];exact ih
  ·have e':¬ q.1=k:=fun z=>e (h1.trans z)
   have a:decide (p.1≠k)=true:=by simp [e]
   have b:decide (q.1≠k)=true:=by simp [e']
   rw [if_pos a,if_pos b];exact .cons ⟨h1,h2⟩ ih
theorem KV.keys {kvs:List (κ×V)} {vs:List (κ×Value)} (r:KV kvs vs):kvs.map (·.1)=vs.map (·.1):=by
 unfold KV at r
 induction r with
 | nil=>rfl
 | cons h t ih=>rw [List.map_cons,List.map_cons,ih,h.1]
theorem KV.length {kvs:List (κ×V)} {vs:List (κ×Value)} (r:KV kvs vs):kvs.length=vs.length:=Paired.length r
end
abbrev KT (H:Hp):List (List Key×V)->List (List Key×Addr×Value)->Prop:=Paired fun p q=>p.1=q.1/\H q.2.1=some (.tup (p.1.map kV))/\RelV p.2 q.2.2
theorem KT.val {H:Hp} {kvs:List (List Key×V)} {xs:List (List Key×Addr×Value)} (r:KT H kvs xs) (k:List Key):RelO (valV kvs k) ((atKey xs k).map (·.2)):=by
 induction r with
 | nil=>exact True.intro
 | @cons p q ps qs h t ih =>
  obtain ⟨h1,_,h2⟩:=h
  by_cases e:p.1=k
  ·have e':q.1=k:=h1.symm.trans e
   have b:atKey (q::qs) k=some q.2:=by simp [atKey,List.find?_cons,e']
   rw [valV_pos e,b];exact h2
  ·have e':¬ q.1=k:=fun z=>e (h1.trans z)
   have b:atKey (q::qs) k=atKey qs k:=by simp [atKey,List.find?_cons,e']
   rw [valV_neg e,b];exact ih
theorem KT.repl {H:Hp} {kvs:List (List Key×V)} {xs:List (List Key×Addr×Value)} (r:KT H kvs xs) (k:List Key) {y:V} {u:Value} (ry:RelV y u) :
  KT H (kvs.map fun kv=>if kv.1=k then (kv.1,y) else kv) (xs.map (putAt k u)):=by
 induction r with
 | nil=>exact .nil
 | @cons p q ps qs h t ih =>
  rw [List.map_cons,List.map_cons]
  refine .cons ?_ ih
  obtain ⟨h1,h2,h3⟩:=h
  unfold putAt
  by_cases e:p.1=k
  ·rw [if_pos e,if_pos (h1.symm.trans e)];exact ⟨h1,h2,ry⟩
  ·rw [if_neg e,if_neg (fun z=>e (h1.trans z))];exact ⟨h1,h2,h3⟩
theorem KT.put {H:Hp} {kvs:List (List Key×V)} {xs:List (List Key×Addr×Value)} (r:KT H kvs xs) (k:List Key) {b:Addr} {y:V} {u:Value} (hb:H b=some (.tup (k.map kV))) (ry:RelV y u) :
  KT H (putK kvs k y) (storedH xs k b u):=by
 have e:(kvs.any fun kv=>decide (kv.1=k))=(atKey xs k).isSome:=by
  rw [valV_any,(r.val k).isSome_eq,Option.isSome_map]
 unfold putK storedH
 rw [e]
 by_cases q:(atKey xs k).isSome=true
 ·rw [if_pos q,if_pos q];exact r.repl k ry
 ·rw [if_neg q,if_neg q];exact Paired.snoc r ⟨rfl,hb,ry⟩
theorem KT.keeps {H H':Hp} {kvs:List (List Key×V)} {xs:List (List Key×Addr×Value)} (r:KT H kvs xs) (ht:∀ b ys,H b=some (.tup ys)->H' b=some (.tup ys)):KT H' kvs xs :=
 Paired.mapP r fun _ _ z=>⟨z.1,ht _ _ z.2.1,z.2.2⟩
section
variable {P:Program} {w:World} {H:Hp} {h:Heap} {a:Addr}
end
def DGet (H:Hp) (a:Addr) (y:V) (r:Option V):Prop :=
 (∃ kvs k,Rd H a (.dK kvs)/\y=kV k/\r=valV kvs k)\/∃ kvs k b,Rd H a (.dT kvs)/\y=.ref b/\H b=some (.tup (k.map kV))/\r=valV kvs k
def DPut (H:Hp) (a:Addr) (y v:V) (H':Hp):Prop :=
 (∃ kvs k,H a=some (.dK kvs)/\y=kV k/\kvs.length<sizeLine/\H'=upd H a (.dK (putK kvs k v))) \/
 ∃ kvs k b,H a=some (.dT kvs)/\y=.ref b/\H b=some (.tup (k.map kV))/\kvs.length<sizeLine/\H'=upd H a (.dT (putK kvs k v))
theorem DGet.k {H:Hp} {a:Addr} {kvs:List (Key×V)} {k:Key} (e:H a=some (.dK kvs)):DGet H a (kV k) (valV kvs k):=.inl ⟨kvs,k,.inl e,rfl,rfl⟩
theorem DGet.t {H:Hp} {a b:Addr} {kvs:List (List Key×V)} {k:List Key} (e:H a=some (.dT kvs)) (eb:H b=some (.tup (k.map kV))):DGet H a (.ref b) (valV kvs k):=.inr ⟨kvs,k,b,.inl e,rfl,eb,rfl⟩
theorem DPut.k {H:Hp} {a:Addr} {kvs:List (Key×V)} {k:Key} {v:V} (e:H a=some (.dK kvs)) (hl:kvs.length<sizeLine):DPut H a (kV k) v (upd H a (.dK (putK kvs k v))):=.inl ⟨kvs,k,e,rfl,hl,rfl⟩
theorem DPut.t {H:Hp} {a b:Addr} {kvs:List (List Key×V)} {k:List Key} {v:V} (e:H a=some (.dT kvs)) (eb:H b=some (.tup (k.map kV))) (hl:kvs.length<sizeLine) :
  DPut H a (.ref b) v (upd H a (.dT (putK kvs k v))):=.inr ⟨kvs,k,b,e,rfl,eb,hl,rfl⟩
section
variable {X:Cx} {pins:List (Addr×Obj)} {σ:St} {H:Hp} {s:Shared} {a:Addr} {y v:V} {u r:Value} {o:Option V} {A:Around} {E:Value->Shared->Prop}
end
section
variable {X:Cx} {pins:List (Addr×Obj)} {σ:St} {H:Hp} {s:Shared} {a:Addr} {kvs:List (Key×V)} {k:Key} {u:Value} {A:Around} {E:Value->Shared->Prop}
end
section
variable {X:Cx} {o i e value:Expr} {pos pos' tpos:Pos} {td ty tv:TE}
end
section
variable {X:Cx} {pos:Pos}
end
section
variable {X:Cx} {pins:List (Addr×Obj)} {σ:St} {H:Hp} {s:Shared} {a:Addr} {y d:V} {u r:Value} {o:Option V} {A:Around} {E:Value->Shared->Prop}
end
section
variable {X:Cx} {o e f:Expr} {apos cpos:Pos} {td ty tx:TE}
end
section
variable {X:Cx} {pins:List (Addr×Obj)} {σ:St} {H:Hp} {s:Shared} {a:Addr} {kvs:List (Key×V)} {A:Around} {E:Value->Shared->Prop}
end
section
variable {X:Cx} {pins:List (Addr×Obj)} {σ:St} {H:Hp} {s:Shared} {a:Addr} {y:V} {u:Value} {A:Around} {E:Value->Shared->Prop}
end
end L2
namespace HW
open PySem
def getK:List (Str×D)->Str->Option D
 | [],_=>none
 | p::r,x=>if p.1=x then some p.2 else getK r x
end HW
namespace HW
open PySem
@[simp] def cIsB (x y:D):Option Bool:=(bO x).bind fun a=>(bO y).map fun b=>a==b
end HW
namespace HW
open PySem PySem.Spec PyProof.Rows L2
def OwnK (P:Program) (w:World) (a:Addr) (kvs:List (Key×V)):HO:=.ext fun h=>kvs.length<=sizeLine/\(a==sysModules)=false/\∃ vs,KV kvs vs/\h.DictOf (mixKind P w) a vs
section
variable {X:Cx} {pins:List (Addr×Obj)} {σ:L2.St} {H:Hp} {s:Shared} {a:Addr} {kvs:List (Key×V)}
end
def RepK (K:PySem.W.Frag) (H:Hp):List (Str×D)->List (Key×V)->Prop
 | [],vs=>vs=[]
 | p::r,vs=>∃ v t,vs=(.inr p.1,v)::t/\Rep K H p.2 v/\RepK K H r t
section
variable {K:PySem.W.Frag} {H H':Hp}
theorem RepK.kp (s:Kp H H'):∀ {ds:List (Str×D)} {vs:List (Key×V)},RepK K H ds vs->RepK K H' ds vs
 | [],_,h=>h
 | p::r,_,h=>by
  obtain ⟨v,t,e,q,w⟩:=h
  exact ⟨v,t,e,q.kp s,RepK.kp s w⟩
theorem RepK.mono (s:Same H H') {ds:List (Str×D)} {vs:List (Key×V)} (h:RepK K H ds vs):RepK K H' ds vs:=h.kp (Kp.of s)
theorem RepK.snoc:∀ {ds:List (Str×D)} {vs:List (Key×V)} {x:Str} {d:D} {v:V},RepK K H ds vs->Rep K H d v->RepK K H (ds++[(x,d)]) (vs++[(.inr x,v)])
 | [],_,x,d,v,h,r=>by
  cases (show _=[] from h)
  exact ⟨v,[],rfl,r,rfl⟩
 | p::ds,_,x,d,v,h,r=>by
  obtain ⟨u,t,e,q,w⟩:=h
  subst e
  exact ⟨u,t++[(.inr x,v)],rfl,q,RepK.snoc w r⟩
theorem RepK.len:∀ {ds:List (Str×D)} {vs:List (Key×V)},RepK K H ds vs->ds.length=vs.length
 | [],_,h=>by cases (show _=[] from h);rfl
 | p::r,_,h=>by
  obtain ⟨v,t,e,q,w⟩:=h
  subst e
  simp [RepK.len w]
theorem RepK.at:∀ {ds:List (Str×D)} {vs:List (Key×V)} {x:Str},RepK K H ds vs->match getK ds x with
  | some d=>∃ v,valV vs (Sum.inr x:Key)=some v/\Rep K H d v
  | none=>valV vs (Sum.inr x:Key)=none
 | [],_,x,h=>by cases (show _=[] from h);rfl
 | p::r,_,x,h=>by
  obtain ⟨v,t,e,q,w⟩:=h
  subst e
  have ih:=RepK.at (x:=x) w
  unfold getK
  by_cases hx:p.1=x
  ·rw [if_pos hx]
   exact ⟨v,valV_pos (by rw [hx]),q⟩
  ·rw [if_neg hx]
   have n:valV (((Sum.inr p.1:Key),v)::t) (Sum.inr x)=valV t (Sum.inr x):=valV_neg fun z=>hx (Sum.inr.inj z)
   rw [n]
   exact ih
end
def tKE (P:Program) (w:World) (K:PySem.W.Frag) (g:R->List (Str×D)->Option D):TE:=fun σ H Q=>∃ ρ τ a ds xs d,EnvT K H ρ (some (.ref a)::τ) σ/\H a=some (OwnK P w a xs)/\RepK K H ds xs/\g ρ ds=some d/\∀ v H',Same H H'->Rep K H' d v->Q v H'
def KE (X:Cx) (e:Expr) (g:R->List (Str×D)->Option D):Prop:=PE X e (tKE X.prog X.w X.K g)
section
variable {X:Cx} {st:Stmt} {sts:List Stmt} {u:R->Option Out} {w:R->List (Str×D)->Option Out} {pos:Pos} {e:Expr} {es:List Expr} {f:R->Option D} {F:R->Option (List D)}
end
def Kd (H H':Hp):Prop:=∀ b u,H b=some u->(∀ kvs,u≠.dK kvs)->H' b=some u
mutual
theorem Rep.kd {K:PySem.W.Frag} {H H':Hp} (s:Kd H H'):∀ {d:D} {v:V},nob d=true->Rep K H d v->Rep K H' d v
 | .non,_,hn,h=>h
 | .bl _,_,hn,h=>h
 | .int _,_,hn,h=>h
 | .str _,_,hn,h=>h
 | .tup ds,_,hn,h=>by
  obtain ⟨a,xs,e,q,r⟩:=h
  refine ⟨a,xs,e,?_,Reps.kd s hn r⟩
  rcases q with (h | ⟨o,h⟩) | h
  ·exact .inl (.inl (s _ _ h fun φ z=>nomatch z))
  ·exact .inl (.inr ⟨o,s _ _ h fun φ z=>nomatch z⟩)
  ·exact .inr h
 | .lst ds,_,hn,h=>by
  obtain ⟨a,xs,e,q,r⟩:=h
  exact ⟨a,xs,e,s _ _ q (fun φ z=>by cases z),Reps.kd s hn r⟩
 | .fro ds,_,hn,h=>by
  obtain ⟨a,xs,e,q,r⟩:=h
  refine ⟨a,xs,e,?_,Reps.kd s hn r⟩
  rcases q with (h | ⟨o,h⟩) | h
  ·exact .inl (.inl (s _ _ h fun φ z=>nomatch z))
  ·exact .inl (.inr ⟨o,s _ _ h fun φ z=>nomatch z⟩)
  ·exact .inr h
 | .obj k a ks ds,_,hn,h=>by cases hn
 | .dct ks ds,_,hn,h=>by cases hn
 | .cl t a ds,_,hn,h=>by cases hn
theorem Reps.kd {K:PySem.W.Frag} {H H':Hp} (s:Kd H H'):∀ {ds:List D} {vs:List V},nobs ds=true->Reps K H ds vs->Reps K H' ds vs
 | [],_,_,h=>h
 | d::ds,_,hn,h=>by
  have hn':(nob d&&nobs ds)=true:=hn
  rw [Bool.and_eq_true] at hn'
  obtain ⟨v,r,e,q,t⟩:=h
  exact ⟨v,r,e,Rep.kd s hn'.1 q,Reps.kd s hn'.2 t⟩
end
section
variable {X:Cx} {sts:List Stmt} {w:R->List (Str×D)->Option Out} {pos:Pos} {f:R->Option D}
end
end HW
namespace HW
open PySem PySem.Spec PyProof.Rows L2
variable {X:Cx}
theorem bO_rep {K:PySem.W.Frag} {H:Hp} {d:D} {v:V} {u:Value} {a:Bool} (e:bO d=some a) (r:Rep K H d v) (ru:RelV v u):u=.bool a:=by
 cases d with
 | bl b =>
  cases e
  cases (show v=_ from r)
  exact ru
 | _=>cases e
theorem nO:CmD X .Is cIsB:=by
 intro pins s σ H x y v u Q I rx ry h
 obtain ⟨dx,dy,b,r1,r2,e,q⟩:=h
 obtain ⟨a,e1,e⟩:=bindS e
 obtain ⟨c,e2,e⟩:=mapS e
 subst e
 cases bO_rep e1 r1 rx
 cases bO_rep e2 r2 ry
 exact wpAny_is_plain (by cases a<;>cases c<;>rfl) (fin_bl I q (by cases a<;>cases c<;>rfl))
end HW
namespace HW
def intsOf:List D->Option (List Int)
 | []=>some []
 | .int i::r=>(intsOf r).map (i::·)
 | _::_=>none
end HW
namespace HW
end HW
namespace HW
end HW
namespace HW
open PySem
end HW
namespace HW
open PySem
end HW
namespace HW
open PySem
mutual
def nof:D->Bool
 | .tup xs=>nofs xs
 | .lst xs=>nofs xs
 | .fro _=>false
 | .obj ..=>false
 | .dct ..=>false
 | .cl ..=>false
 | _=>true
def nofs:List D->Bool
 | []=>true
 | x::xs=>nof x&&nofs xs
end
end HW
namespace HW
end HW
namespace HW
open PySem PySem.SetTable
theorem below_go (xs:Array Nat) (j:Nat) (H:∀ a b,a<b->b<xs.size->xs.getD a 0<xs.getD b 0):∀ fuel lo hi,hi - lo<=fuel->lo<=hi->hi<=xs.size ->
  (∀ i,i<lo->xs.getD i 0<j)->(∀ i,hi<=i->i<xs.size->j<=xs.getD i 0) ->
  below.go xs j fuel lo hi<=xs.size/\(∀ i,i<below.go xs j fuel lo hi->xs.getD i 0<j)/\(∀ i,below.go xs j fuel lo hi<=i->i<xs.size->j<=xs.getD i 0):=by
 intro fuel
 induction fuel with
 | zero =>
  intro lo hi h1 h2 h3 h4 h5
  have:lo=hi:=by omega
  subst this
  exact ⟨h3,h4,h5⟩
 | succ fuel ih =>
  intro lo hi h1 h2 h3 h4 h5
  unfold below.go
  by_cases hlt:lo<hi
  ·rw [if_pos hlt]
   have hm:(lo+hi) / 2<xs.size:=by omega
   have e:xs.getD ((lo+hi) / 2) j=xs.getD ((lo+hi) / 2) 0:=by simp [Array.getD,hm]
   show (if xs.getD ((lo+hi) / 2) j<j then _ else _:Nat)<=_/\_
   dsimp only
   rw [e]
   by_cases hc:xs.getD ((lo+hi) / 2) 0<j
   ·rw [if_pos hc]
    refine ih _ _ (by omega) (by omega) h3 (fun i hi'=>?_) h5
    by_cases he:i=(lo+hi) / 2
    ·subst he;exact hc
    ·exact Nat.lt_trans (H i _ (by omega) hm) hc
   ·rw [if_neg hc]
    refine ih _ _ (by omega) (by omega) (by omega) h4 (fun i hi' hs=>?_)
    by_cases he:i=(lo+hi) / 2
    ·subst he;omega
    ·have:=H _ i (by omega:(lo+hi) / 2<i) hs;omega
  ·rw [if_neg hlt]
   have:lo=hi:=by omega
   subst this
   exact ⟨h3,h4,h5⟩
def Ris (xs:Array Nat):Prop:=∀ a b,a<b->b<xs.size->xs.getD a 0<xs.getD b 0
theorem below_spec {xs:Array Nat} (H:Ris xs) (j:Nat):below xs j<=xs.size/\(∀ i,i<below xs j->xs.getD i 0<j)/\(∀ i,below xs j<=i->i<xs.size->j<=xs.getD i 0) :=
 below_go xs j H xs.size 0 xs.size (by omega) (by omega) (by omega) (fun i h=>by omega) (fun i h h'=>by omega)
theorem below_0 {xs:Array Nat} (H:Ris xs):below xs 0=0:=by
 obtain ⟨a,b,c⟩:=below_spec H 0
 rcases Nat.eq_zero_or_pos (below xs 0) with h | h
 ·exact h
 ·have:=b 0 h;omega
theorem below_s {xs:Array Nat} (H:Ris xs) {i:Nat} (hi:i<xs.size):below xs (xs.getD i 0+1)=i+1:=by
 obtain ⟨a,b,c⟩:=below_spec H (xs.getD i 0+1)
 generalize below xs (xs.getD i 0+1)=r at *
 rcases Nat.lt_or_ge i r with h | h
 ·rcases Nat.lt_or_ge (i+1) r with h' | h'
  ·have h1:=b (i+1) h'
   have h2:=H i (i+1) (by omega) (by omega)
   omega
  ·omega
 ·have:=c i h hi;omega
structure TI (t:SetTable) (n:Nat):Prop where
 mask:t.mask=7
 dum:t.dummies=#[]
 plain:t.plain=true
 ris:Ris t.place
 size:t.place.size=n
theorem TI.fits {t:SetTable} {n:Nat} (T:TI t n) (hn:n<=7):t.fits n=true:=by
 unfold SetTable.fits SetTable.fill
 rw [T.mask,T.dum,T.size]
 simp;omega
theorem TI.fresh (led:Bool):TI (.fresh 0 0 led) 0:=⟨rfl,rfl,rfl,fun a b h hb=>absurd hb (by simp [SetTable.fresh]),rfl⟩
theorem perm_erase {α:Type}:∀ (l:List α) (i:Nat) (x:α),l[i]?=some x->(x::l.eraseIdx i).Perm l
 | [],i,x,h=>by simp at h
 | a::l,0,x,h=>by simp at h;subst h;exact .refl _
 | a::l,i+1,x,h=>by
  simp only [List.getElem?_cons_succ] at h
  simp only [List.eraseIdx_cons_succ]
  exact (List.Perm.swap _ _ _).trans ((perm_erase l i x h).cons a)
theorem pick_go {α:Type} (next:Nat->Nat):∀ (fuel k:Nat) (left:List α) (out:Array α),left.length=fuel->(pickOrder.go next fuel k left out).toList.Perm (out.toList++left)
 | 0,k,left,out,h=>by
  have:left=[]:=List.eq_nil_of_length_eq_zero h
  subst this;rw [List.append_nil];exact .refl _
 | fuel+1,k,left,out,h=>by
  unfold pickOrder.go
  have hlt:next k%left.length<left.length:=Nat.mod_lt _ (by omega)
  rw [List.getElem?_eq_getElem hlt]
  dsimp only
  refine (pick_go next fuel (k+1) _ _ (by rw [List.length_eraseIdx_of_lt hlt];omega)).trans ?_
  rw [Array.toList_push,List.append_assoc]
  exact (perm_erase left _ _ (List.getElem?_eq_getElem hlt)).append_left _
theorem pick_perm {α:Type} (next:Nat->Nat) (xs:Array α):(pickOrder next xs).toList.Perm xs.toList:=by
 unfold pickOrder
 exact pick_go next xs.size 0 xs.toList #[] (by simp)
theorem pick_size {α:Type} (next:Nat->Nat) (xs:Array α):(pickOrder next xs).size=xs.size:=by
 rw [<- Array.length_toList,(pick_perm next xs).length_eq,Array.length_toList]
end HW
namespace HW
open PySem
def zOf:Value->Int
 | .int n _=>n
 | _=>0
def SetI (b:Bool) (h:Heap) (S:Addr) (ks:List Int):Prop :=
 ∃ o es ep t,h.get? S=some o/\o.ExactSet/\o.data=.set es ep t/\(∀ e∈es.toList,∃ k tk,e=(hashInt k,Value.int k tk))/\TI t es.size/\t.led=b/\(es.toList.map fun e=>zOf e.2).Perm ks
theorem SetI.at {b:Bool} {h h':Heap} {S:Addr} {ks:List Int} (x:SetI b h S ks) (e:∀ o,h.get? S=some o->h'.get? S=some o):SetI b h' S ks:=let ⟨o,es,ep,t,ho,r⟩:=x;⟨o,es,ep,t,e _ ho,r⟩
section
variable {prog:Program} {w:World} {A:Around} {E:Value->Shared->Prop} {s:Shared}
end
end HW
namespace HW
open PySem PySem.Spec PyProof.Rows
def IsSetIt (h:Heap) (it S:Addr) (slot i n ep:Nat):Prop:=∃ o,h.get? it=some o/\o.cls=.type "set_iterator" /\ o.data=.fields #[.int slot 0,.int i 0,.ref S,.int n 0,.int ep 0]
def IsSet (h:Heap) (S:Addr) (es:Array (Int×Value)) (ep:Nat) (t:SetTable):Prop:=∃ o,h.get? S=some o/\o.cls=.type "set" /\ o.data=.set es ep t
def slotAt (t:SetTable):Nat->Nat
 | 0=>0
 | i+1=>t.place.getD i 0+1
def byTxt (w:World):Bool:=w.params.followText "set-order"
structure SetOrd (w:World) (S:Addr) (es:Array (Int×Value)) (ep:Nat) (t:SetTable) (ord:Array (Int×Value)):Prop where
 fits:t.fits es.size=true
 size:ord.size=es.size
 txt:byTxt w=true->ord=pickOrder (w.params.setOrder S ep) es
 plc:byTxt w=false->ord=es/\t.led=true/\(!t.plain&&decide (es.size > 1))=false/\∀ i,i<=es.size->SetTable.below t.place (slotAt t i)=i
theorem IsSetIt.typeIs {s:Shared} {it S slot i n ep} (x:IsSetIt s.heap it S slot i n ep):s.TypeIs (.ref it) "set_iterator":=let ⟨o,ho,hc,_⟩:=x;⟨o,ho,hc⟩
theorem IsSet.typeIs {s:Shared} {S es ep t} (x:IsSet s.heap S es ep t):s.TypeIs (.ref S) "set":=let ⟨o,ho,hc,_⟩:=x;⟨o,ho,hc⟩
theorem IsSet.at {h h':Heap} {S es ep t} (x:IsSet h S es ep t) (e:∀ o,h.get? S=some o->h'.get? S=some o):IsSet h' S es ep t:=let ⟨o,ho,r⟩:=x;⟨o,e _ ho,r⟩
theorem IsSetIt.at {h h':Heap} {it S slot i n ep} (x:IsSetIt h it S slot i n ep) (e:∀ o,h.get? it=some o->h'.get? it=some o):IsSetIt h' it S slot i n ep:=let ⟨o,ho,r⟩:=x;⟨o,e _ ho,r⟩
theorem IsSet.lt {h:Heap} {S es ep t} (x:IsSet h S es ep t):S<h.objs.size:=let ⟨_,ho,_⟩:=x;Heap.lt_size ho
section
variable {prog:Program} {w:World} {A:Around} {E:Value->Shared->Prop} {s:Shared} {S:Addr} {es ord:Array (Int×Value)} {ep:Nat} {t:SetTable}
def nextOf (ord:Array (Int×Value)) (i nx:Nat):Option (Value×Nat):=(ord[i]?).map fun e=>(e.2,nx)
end
end HW
set_option maxHeartbeats 3200000
namespace HW
open PySem PySem.Spec PyProof.Rows
section
variable {prog:Program} {w:World} {A:Around} {R:Result->Shared->Prop} {I:Addr} {fp wr:List Addr} {G:Array GenState->Array GenState->Prop} {n:Nat} {P:Nat->Value->Prop} {St:Nat->Shared->Prop}
end
section
variable {prog:Program} {w:World} {A:Around} {E:Value->Shared->Prop} {s:Shared}
abbrev freshS (w:World):Obj:={cls:=.type "set",dict:=none,data:=.set #[] 0 (.fresh 0 0 (!byTxt w))}
theorem SetI.new {h:Heap} {w:World}:SetI (!byTxt w) (h.push (freshS w)) h.objs.size [] :=
 ⟨freshS w,#[],0,_,Heap.get?_push_size _ rfl,⟨rfl,rfl,rfl⟩,rfl,fun e he=>by simp at he,TI.fresh _,rfl,.refl _⟩
theorem SetI.ord {h:Heap} {S:Addr} {ks:List Int} (x:SetI (!byTxt w) h S ks) (hn:ks.length<=4) :
  ∃ es ep t ord,IsSet h S es ep t/\SetOrd w S es ep t ord/\(ord.toList.map fun e=>zOf e.2).Perm ks/\∀ e∈ord.toList,∃ k tk,e.2=Value.int k tk:=by
 obtain ⟨o,es,ep,t,ho,hex,hd,hel,hT,hled,hp⟩:=x
 have hlen:es.size=ks.length:=by rw [<- hp.length_eq,List.length_map,Array.length_toList]
 have hf:t.fits es.size=true:=hT.fits (by omega)
 have hel':∀ e∈es.toList,∃ k tk,e.2=Value.int k tk:=fun e he=>let ⟨k,tk,q⟩:=hel e he;⟨k,tk,by rw [q]⟩
 cases hb:byTxt w with
 | true =>
  have pp:=pick_perm (w.params.setOrder S ep) es
  exact ⟨es,ep,t,pickOrder (w.params.setOrder S ep) es,⟨o,ho,hex.1,hd⟩,⟨hf,pick_size _ _,fun _=>rfl,fun z=>by rw [hb] at z;cases z⟩,(pp.map _).trans hp,fun e he=>hel' e (pp.mem_iff.mp he)⟩
 | false =>
  refine ⟨es,ep,t,es,⟨o,ho,hex.1,hd⟩,⟨hf,rfl,(fun z=>by rw [hb] at z;cases z),fun _=>⟨rfl,by rw [hled,hb];rfl,by rw [hT.plain];rfl,fun i hi=>?_⟩⟩,hp,hel'⟩
  cases i with
  | zero=>exact below_0 hT.ris
  | succ i=>exact below_s hT.ris (by rw [hT.size];exact hi)
end
end HW
set_option maxHeartbeats 1000000
namespace HW
open PySem PySem.Spec PyProof.Rows L2
section
variable {X:Cx}
theorem cX {K:PySem.W.Frag} {H:Hp}:∀ {ds:List D} {ns:List Int} {xs:List V} {its:List Value},intsOf ds=some ns->Reps K H ds xs->Vals xs its->IntsAre its ns
 | [],ns,xs,its,e,r,v=>by
  cases e
  cases (show xs=[] from r)
  cases v
  exact .nil
 | .int i::ds,ns,xs,its,e,r,v=>by
  obtain ⟨ms,e1,e2⟩:=mapS (show (intsOf ds).map (i::·)=some ns from e)
  subst e2
  obtain ⟨x,xr,rfl,r1,r2⟩:=r
  cases (show x=_ from r1)
  cases v with
  | cons v1 v2 =>
   obtain ⟨t,rfl⟩:=v1
   exact .cons i t (cX e1 r2 v2)
 | .non::_,_,_,_,e,_,_=>by cases e
 | .bl _::_,_,_,_,e,_,_=>by cases e
 | .str _::_,_,_,_,e,_,_=>by cases e
 | .tup _::_,_,_,_,e,_,_=>by cases e
 | .lst _::_,_,_,_,e,_,_=>by cases e
 | .fro _::_,_,_,_,e,_,_=>by cases e
variable {sts:List Stmt}
end
end HW
namespace HW
open PySem PySem.Spec PyProof.Rows L2
section
variable {prog:Program} {w:World} {A:Around} {R':Result->Shared->Prop} {I:Addr} {fp wr:List Addr} {n:Nat} {P:Nat->Value->Prop} {St:Nat->Heap->Prop}
end
section
variable {prog:Program} {w:World} {A:Around} {E:Value->Shared->Prop} {s:Shared}
end
section
variable {X:Cx}
end
end HW
namespace HW
open PySem PySem.Spec PyProof.Rows L2
section
variable {prog:Program} {w:World} {A:Around} {E:Value->Shared->Prop} {s:Shared}
end
section
variable {X:Cx}
end
end HW
namespace HW
open PySem PySem.Spec PyProof.Rows L2
section
variable {X:Cx}
end
end HW
namespace HW
open PySem PySem.Spec PyProof.Rows L2
section
variable {X:Cx}
end
end HW
namespace HW
open PySem PySem.Spec PyProof.Rows L2
section
variable {X:Cx}
end
end HW
namespace HW
open PySem PySem.Spec PyProof.Rows L2
section
variable {X:Cx}
end
abbrev Fn4 (K:PySem.W.Frag) (n:Str) (st:Stmt) (f:Addr):Prop:=∃ (oc:Value) (od an:Option Addr) (sl:Array (Option Value)) (kV dc pm cd ct:Value),PySem.W.nsIn K mainGlobals n=some (some (.ref f)) /\
 K.lookup f=some ⟨oc,od,.func (PySem.W.fnOf n n (defArgs st) (defBody st) (defScope st) .none kV dc pm an cd ct),sl⟩/\PySem.W.codeIn K cd n=true/\PySem.W.keepIn K (.ref f)=true
theorem fn4 {K:PySem.W.Frag} {n:Str} {st:Stmt} {f:Addr} (h:Fn4 K n st f):∃ fd,Fun K n n st f fd/\PySem.W.nsIn K mainGlobals n=some (some (.ref f)):=by
 obtain ⟨oc,od,an,sl,kV,dc,pm,cd,ct,a,l,c,k⟩:=h
 exact ⟨_,nE l c k,a⟩
theorem fn4_mk {K:PySem.W.Frag} {n:Str} {st:Stmt} {f:Addr} {oc:Value} {od an:Option Addr} {sl:Array (Option Value)} {kV dc pm cd ct:Value} (a:PySem.W.nsIn K mainGlobals n=some (some (.ref f)))
  (l:K.lookup f=some ⟨oc,od,.func (PySem.W.fnOf n n (defArgs st) (defBody st) (defScope st) .none kV dc pm an cd ct),sl⟩) (c:PySem.W.codeIn K cd n=true) (k:PySem.W.keepIn K (.ref f)=true):Fn4 K n st f:=⟨oc,od,an,sl,kV,dc,pm,cd,ct,a,l,c,k⟩
theorem Cal.m {P:Program} {w:World} {K:PySem.W.Frag} {mg:Str->Option Value} {base:Heap} {j k:Nat} {x:Str} {ps:List Str} {F:List D->Option D} (h:Cal P w K mg base j x ps F) (hk:j<=k:=by decide):Cal P w K mg base k x ps F:=h.mono hk
end HW
namespace HW
open PySem PySem.Spec PyProof.Rows L2
section
variable {X:Cx} {pos p:Pos} {e:Expr} {es:List Expr} {k i:Nat} {f c':Addr} {G:List D->Option D} {F:R->Option (List D)} {name qual:Str} {params:Arguments} {body:Expr} {scope:Scope} {cl:List (Str×Addr)} {pm ctv:Value} {ps:List Str}
theorem keeps_C {M:Model} (h:Heap) (x:h.get? f=some (PySem.W.kla_obj name qual params body scope cl pm c' ctv)):∃ k,(k=Keeper.frame\/k=Keeper.machine\/k=Keeper.boundFrame)/\PySem.W.Looks M h (keeperOf (.ref f)) k :=
 ⟨.frame,.inl rfl,(PySem.W.Looks.ld (part:=none) x).andThen .now⟩
end
end HW
namespace HW
open PySem PySem.Spec PyProof.Rows L2
section
variable {X:Cx} {pins:List (Addr×Obj)} {σ:L2.St} {H:Hp} {s:Shared} {pos:Pos}
theorem oo {t:CTab} {ts:List CTab} {params:Arguments} {body:Expr} {scope:Scope} {clos:List (Str×Addr)} (TB:TabBase X.mg ts X.base) (ht:t∈ts) (hcode:X.env.code=.ref t.c) (hq:X.env.qual ++ "<lambda>" = t.q) (hcl:closureFor scope X.env=pure clos) (hdef:defaultsOf params X.env=([],[]):=by rfl) :
  PE X (.Lambda params body scope pos) fun σ H Q=>H t.P=some (.tbl t.q false)/\∀ f c' ctv pm H',Same H H'->H f=none->H' f=some (Clo (PySem.W.kla_obj "<lambda>" t.q params body scope clos pm c' ctv))->H' c'=some (.tbl t.q true)->Q (.ref f) H':=by
 intro pins s σ H Q I ⟨hP,q⟩
 refine PySem.W.kla_eval hdef ?_
 rw [hq]
 refine thn (make_clo I TB ht hP hcode hcl) fun v s' ⟨f,c',ctv,pm,H',ev,I',sm,hn,h1,h2⟩=>?_
 exact ⟨.ref f,H',I',ev,q f c' ctv pm H' sm hn h1 h2⟩
def trackC (cl:List (Str×Addr)) (h:Heap) (H:Hp):Hp:=fun b=>if isC cl b then (h.get? b).map Clo else H b
theorem trackC_y {cl:List (Str×Addr)} {h:Heap} {b:Addr} {o:Obj} (hb:isC cl b=true) (e:h.get? b=some o):trackC cl h H b=some (Clo o):=by
 show (if isC cl b then (h.get? b).map Clo else H b)=_
 rw [if_pos hb,e];rfl
theorem trackC_n {cl:List (Str×Addr)} {h:Heap} {b:Addr} (hb:isC cl b=false):trackC cl h H b=H b:=by
 show (if isC cl b then (h.get? b).map Clo else H b)=_
 rw [if_neg (by rw [hb];decide)]
theorem dropC_n {cl:List (Str×Addr)} {b:Addr} (hb:isC cl b=false):dropC cl H b=H b:=by
 show (if isC cl b then none else H b)=_
 rw [if_neg (by rw [hb];decide)]
theorem dropC_y {cl:List (Str×Addr)} {b:Addr} (hb:isC cl b=true):dropC cl H b=none:=by
 show (if isC cl b then none else H b)=_
 rw [if_pos hb]
theorem run_fnC {k:Nat} {f:Addr} {fd:FuncData} {ps:List Str} {sp:Sp} {cl:List (Str×Addr)} {us:List Value} {vs:List V} {Q:VK} (F:FnOk X.prog X.w X.K X.mg X.base CX0 k f fd ps sp) (hr:Room k X.A) (hb:Binds X.K fd ps []) (hfn:∀ x,X.fn x=true) (hcl:∀ b,isC cl b=true->∃ x,X.env.cells.lookup x=some b)
  (I:L2.Inv X pins σ H s) (r:Vals vs us) (h:sp vs (trackC cl s.heap H) (fun v H'=>Q v (dropC cl H')) E0):wpAny (model X.prog X.w) X.A (call (.ref f) us) (EP X pins σ Q) X.xe s:=by
 have cellO:∀ {b:Addr},isC cl b=true->∃ o v,s.heap.get? b=some o/\o.data=.cell v/\H b=none/\X.s₀.heap.objs.size<=b:=fun {b} hb=>by
  obtain ⟨x,hx⟩:=hcl b hb
  obtain ⟨v,o,e,d⟩:=I.cell x b hx
  exact ⟨o,v,e,d,I.freeC x b hx,I.ok.cab x b (hfn x) hx⟩
 have nC:∀ {b:Addr} {u:HO},H b=some u->isC cl b=false:=fun {b u} e=>by
  cases q:isC cl b with
  | false=>rfl
  | true=>obtain ⟨_,_,_,_,z,_⟩:=cellO q;rw [e] at z;cases z
 have tk:∀ {b:Addr} {u:HO},H b=some u->trackC cl s.heap H b=some u:=fun e=>by rw [trackC_n (nC e)];exact e
 have hok:HOk X.prog X.w (trackC cl s.heap H) s.heap:=fun b u e=>by
  cases q:isC cl b with
  | true =>
   obtain ⟨o,_,g,_⟩:=cellO q
   rw [trackC_y q g] at e
   cases e
   exact ⟨g,trivial,⟨_,g⟩,fun _ _ _ _=>trivial⟩
  | false =>
   rw [trackC_n q] at e
   exact (I.hok b u e).stay (fun _ _ _ g=>g) (fun c g=>tk g) (fun c xs g=>tk g) fun c a d g=>tk g
 have low:∀ {b:Addr},b<X.s₀.heap.objs.size->isC cl b=false:=fun {b} hb=>by
  cases q:isC cl b with
  | false=>rfl
  | true=>obtain ⟨_,_,_,_,_,z⟩:=cellO q;exact absurd (Nat.lt_of_lt_of_le hb z) (Nat.lt_irrefl _)
 have e0:Env0 X.prog X.w X.K X.mg X.base X.A X.stack s (trackC cl s.heap H):=by
  have z:=I.env0
  refine ⟨z.frames,z.mod,fun b o e=>⟨(z.bs b o e).1,?_⟩,z.bsz,z.funs,fun b hb=>?_,hok,z.bare⟩
  ·rw [trackC_n (low (Nat.lt_of_lt_of_le (Heap.lt_size e) I.ok.bsz))];exact (z.bs b o e).2
  ·have n:=z.frf b hb
   cases q:isC cl b with
   | false=>rw [trackC_n q];exact n
   | true =>
    obtain ⟨x,hx⟩:=hcl b q
    rcases List.mem_cons.mp (I.stkSub b hb) with m | m
    ·exact absurd m (I.cne x b hx)
    ·obtain ⟨_,o,ho,_⟩:=I.ok.funs.mem m
     rw [low (Heap.lt_size ho)] at q;cases q
 have hl:us.length=ps.length:=by rw [<- r.length];exact F.len _ _ _ _ h
 refine wpAny_call (codeAny_mono (F.run X.A X.stack s (trackC cl s.heap H) ⟨us,[]⟩ us vs _ E0 hr e0 (by have:=hb s us I.kIn (by simpa using hl);simpa using this) r h) fun rr s' hq=>?_)
 cases rr with
 | error e=>exact pass0 pins σ H s e s' I hq
 | ok fl =>
  cases fl with
  | next=>exact False.elim hq
  | brk=>exact False.elim hq
  | cont=>exact False.elim hq
  | ret u =>
   obtain ⟨v,H',os,bare,un,hok',rv,q⟩:=hq
   obtain ⟨hh,g,d,tt,os'⟩:=s'
   obtain rfl:os'=s.os:=os
   have ck:∀ {b:Addr},isC cl b=true->∃ o,s.heap.get? b=some o/\H' b=some (Clo o)/\hh.get? b=some o:=fun {b} hb=>by
    obtain ⟨o,_,e,_⟩:=cellO hb
    have z:=un.frzs b o _ (fun y w=>by cases w) (trackC_y hb e)
    exact ⟨o,e,z,(hok' b _ z).1⟩
   have bk:∀ {b:Addr} {u:HO},H' b=some u->(∀ o,u≠Clo o)->dropC cl H' b=some u:=fun {b u} e n=>by
    cases qq:isC cl b with
    | false=>rw [dropC_n qq];exact e
    | true=>obtain ⟨o,_,z,_⟩:=ck qq;rw [e] at z;cases z;exact absurd rfl (n o)
   refine ⟨v,dropC cl H',I.call (h':=hh) (g':=g) (d':=d) (t':=tt) (ch:=[]) ⟨fun b o e n hf hx=>?_,fun b o e n hf hx=>?_,fun b o e n hx=>?_,fun b o e hx=>un.there b o e hx,fun b xs e=>bk (un.tups b xs (tk e)) (fun o z=>by cases z),fun b o u ny e=>?_,fun b a d' e=>bk (un.tbls b a d' (tk e)) (fun o z=>by cases z)⟩ (fun b u e=>?_) bare (fun b z=>absurd z (by simp)),rv,q⟩
   ·cases qq:isC cl b with
    | true=>obtain ⟨o',e1,_,e2⟩:=ck qq;rw [e] at e1;cases e1;exact e2
    | false=>exact un.keep b o e (by rw [trackC_n qq];exact n) hf hx
   ·cases qq:isC cl b with
    | true=>obtain ⟨o',e1,_,e2⟩:=ck qq;rw [e] at e1;cases e1;exact ⟨o.slots,e2⟩
    | false=>exact un.slot b o e (by rw [trackC_n qq];exact n) hf hx
   ·cases qq:isC cl b with
    | true=>exact dropC_y qq
    | false=>rw [dropC_n qq];exact un.free b o e (by rw [trackC_n qq];exact n) hx
   ·rw [dropC_n (nC e)];exact un.frzs b o u ny (tk e)
   ·cases qq:isC cl b with
    | true=>rw [dropC_y qq] at e;cases e
    | false =>
     rw [dropC_n qq] at e
     exact (hok' b u e).stay (fun _ _ _ g=>g) (fun c g=>bk g fun o z=>by cases z) (fun c xs g=>bk g fun o z=>by cases z) fun c a d g=>bk g fun o z=>by cases z
end
end HW
namespace HW
open PySem PySem.Spec PyProof.Rows L2
theorem walk_ofT {l:PySem.W.OpenLaw} {n k:Nat} {q:Program} {loose:List Str} {XP:(Str->Option Value)->Heap->Prop} {YP:World->Heap->Prop} {d:DefRec} {K:Params->PySem.W.Frag} {CX:World->CXT} {sp:World->List CTab->Sp} {x:Str}
    (hn:l.most=some n) (hn2:n<=sizeLine) (hdf:d.params.defaults=[]) (hr:Room k callerA)
    (hY:∀ (w:World) (h:Heap),YP w h->(K w.params).In h)
    (F:∀ (w:World) (mg:Str->Option Value) (fa:Addr) (h:Heap),(K w.params).In h->h.Ns mainGlobals mg->mg d.name=some (.ref fa) ->
      ∃ (ts:List CTab) (fd:FuncData),(∀ t∈ts,(K w.params).lookup t.P=none/\∃ y d',(recsOf q).find? (fun e=>e.name==y)=some d'/\PySem.W.tabIn (K w.params) y=some (t.c,t.P))/\(∀ (s:Shared) (u:Value),BindsTo s fd ⟨[u],[]⟩ [(x,u)]) /\
        ∀ base:Heap,(K w.params).In base->base.Ns mainGlobals mg->TabBase mg ts base->FnOk l.prog w (K w.params) mg base (CX w) k fa fd [x] (sp w ts))
    (hsp:∀ (w:World) (ts:List CTab) (H:Hp) (a:Addr) (ns:List Int),ns.length<=n->OnlyT ts a H->(∀ t∈ts,t.P≠a)->SqL (K w.params) H a (ns.map V.int)->sp w ts [.ref a] H (fun v _=>v=.bl true) fun _ _ _=>False)
    (hCX:∀ (w:World) (H:Hp) (s:Shared) (e:Value) (s':Shared),CX w [] H s (fun _ _ _=>False) e s'->False) :
    PySem.W.WalkO q loose XP YP l.row.toRowW d [] (fun f vs=>PySem.call f vs):=by
  refine Att.attach_call hn hdf fun w s₀ s₁ mg mb fa o pm cd doc a vs ns G Y ho hd hcd hmg hobj hints hlen hg=>?_
  have KX:=hY w _ Y
  obtain ⟨ts,fd,hts,hb,hF⟩:=F w mg fa _ KX G.T.g hmg
  refine law_callT KX G.T.g G.T.b G.T.builtins G.T.nolimit hg hobj hints (Nat.le_trans hlen hn2) hr (fun t ht=>?_) (fun t ht=>(hts t ht).1) ?_ hF hb (fun H hO hP hS=>hsp w ts H a ns hlen hO hP hS) fun H e s'=>hCX w H s₁ e s'
  · obtain ⟨_,y,d',h1,h2⟩:=hts t ht
    exact PySem.W.tab_of G.T KX h1 h2
  · obtain ⟨bm,ob,b1,b2,b3,b4,b5,b6⟩:=G.T.bmain
    refine ⟨bm,ob,b1,b2,fun z=>?_,b3,b4,b5,b6⟩
    obtain ⟨o',es,ep,e,hd',_⟩:=G.T.g
    rw [z,e] at b3;cases b3;rw [hd'] at b6;cases b6
end HW
namespace HW
open PySem PySem.Spec PyProof.Rows L2
section
variable {X:Cx} {pins:List (Addr×Obj)} {σ:L2.St} {H Hp':Hp} {s:Shared} {pos:Pos}
structure TrackOf (X:Cx) (cl:List (Str×Addr)) (σ:L2.St) (H H':Hp):Prop where
 out:∀ b,isC cl b=false->H' b=H b
 cel:∀ b,isC cl b=true->H b=none/\∃ o v,H' b=some (Clo o)/\o.data=.cell v
 val:∀ (i:Nat) (x:Str) (c:Addr) (v:V),X.N[i]?=some x->σ[i]?=some (some v)->cl.lookup x=some c->∃ o u,H' c=some (Clo o)/\o.data=.cell (some u)/\RelV v u
structure OwnC (X:Cx) (cl:List (Str×Addr)):Prop where
 fn:∀ x,X.fn x=true
 ndc:(cl.map (·.1)).Nodup
 of:∀ x c,cl.lookup x=some c->X.env.cells.lookup x=some c/\X.env.scope.names.lookup x=some .cell
theorem OwnC.lk {cl:List (Str×Addr)} (o:OwnC X cl):∀ b,isC cl b=true->∃ x,X.env.cells.lookup x=some b:=fun b hb=>by
 obtain ⟨p,hp,e⟩:=List.any_eq_true.mp hb
 exact ⟨p.1,(o.of p.1 b (lookup_nd o.ndc (by rw [<- eq_of_beq e];exact hp))).1⟩
theorem track_of {cl:List (Str×Addr)} (o:OwnC X cl) (I:L2.Inv X pins σ H s):TrackOf X cl σ H (trackC cl s.heap H):=by
 refine ⟨fun b hb=>trackC_n hb,fun b hb=>?_,fun i x c v h1 h2 h3=>?_⟩
 ·obtain ⟨x,hx⟩:=o.lk b hb
  obtain ⟨v,ob,e,d⟩:=I.cell x b hx
  exact ⟨I.freeC x b hx,ob,v,trackC_y hb e,d⟩
 ·obtain ⟨hx,hk⟩:=o.of x c h3
  obtain ⟨m,_,hl⟩:=I.loc
  obtain ⟨u,rv,lk⟩:=hl i x v h1 h2 (.inr (.inl hk))
  rcases lk with ⟨z,_⟩ | ⟨_,c2,e2,ob,g,d⟩
  ·exact absurd (show some NameKind.cell=some NameKind.local from hk.symm.trans z) (by simp)
  ·rw [hx] at e2
   cases e2
   exact ⟨ob,u,trackC_y (isC_of h3) g,d,rv⟩
theorem mv {x:Str} {e:Expr} {es:List Expr} {k:Nat} {f:Addr} {fd:FuncData} {ps:List Str} {sp:Sp} {t:TA} {p:Pos} {cl:List (Str×Addr)} (F:FnOk X.prog X.w X.K X.mg X.base CX0 k f fd ps sp) (hr:Room k X.A) (hg:Gl X x) (hm:X.mg x=some (.ref f)) (hk:PySem.W.keepIn X.K (.ref f)=true) (hb:Binds X.K fd ps []) (o:OwnC X cl)
  (ha:PA X (e::es) t) (hdb:(x==("__debug__" : Str))=false:=by decide) (he:starEach (e::es) X.env=(false,eval e X.env)::starEach es X.env:=by rfl) (hpl:(backTo pos (starEach es X.env)).any (·.1)=false:=by rfl) :
  PE X (.Call (.Name x p) (e::es) [] pos) fun σ H Q=>t σ H fun vs H1=>∀ H2,TrackOf X cl σ H1 H2->sp vs H2 (fun v H'=>Q v (dropC cl H')) E0:=by
 intro pins s σ H Q I h
 refine wpAny_Call_Name_kw (eh I hg hm ?_ hdb)
 refine PySem.W.callWith_K (h₀:=X.base) I.ok.mod.kin hk (thn (ha pos pins s σ H _ I h) fun us s1 ⟨vs,H1,I1,r,q⟩=>⟨I1.kIn,?_⟩) he hpl
 exact run_fnC F hr hb o.fn o.lk I1 r (q _ (track_of o I1))
end
end HW
namespace HW
open PySem
end HW
namespace HW
open PySem
def nobC:D->Bool
 | .dct _ ds=>nobs ds
 | d=>nob d
theorem nobC_of {d:D} (h:nob d=true):nobC d=true:=by cases d<;>first | exact h | cases h
abbrev LMean:=LamT->Option (List D->Option D)
def capsC:List Nat->R->Option (List D)
 | [],_=>some []
 | j::js,ρ=>(vAt j ρ).bind fun d=>(capsC js ρ).map (d::·)
def callW (G:List D->Option D) (t:LamT) (F C:R->Option (List D)):R->Option D:=fun ρ=>(F ρ).bind fun as=>(C ρ).bind fun caps=>open Classical in
 if h:nobs caps=true/\∃ d,nobC d=true/\∀ a,G (as++[.cl t a caps])=some d then some h.2.choose else none
theorem callW_of {G:List D->Option D} {t:LamT} {F C:R->Option (List D)} {ρ:R} {as caps:List D} {d:D} (h1:F ρ=some as) (h2:C ρ=some caps) (h3:nobs caps=true) (h4:nobC d=true) (h5:∀ a,G (as++[.cl t a caps])=some d):callW G t F C ρ=some d:=by
 unfold callW
 rw [h1,Option.bind_some,h2,Option.bind_some,dif_pos ⟨h3,d,h4,h5⟩]
 have z:=(show ∃ d,nobC d=true/\∀ a,G (as++[.cl t a caps])=some d from ⟨d,h4,h5⟩).choose_spec.2 0
 rw [h5 0] at z
 exact congrArg some (Option.some.inj z).symm
theorem callW_is {G:List D->Option D} {t:LamT} {F C:R->Option (List D)} {ρ:R} {d:D} (h:callW G t F C ρ=some d):∃ as caps,F ρ=some as/\C ρ=some caps/\nobs caps=true/\nobC d=true/\∀ a,G (as++[.cl t a caps])=some d:=by
 unfold callW at h
 cases e:F ρ with
 | none=>rw [e] at h;cases h
 | some as =>
  rw [e,Option.bind_some] at h
  cases e2:C ρ with
  | none=>rw [e2] at h;cases h
  | some caps =>
   rw [e2,Option.bind_some] at h
   split at h
   ·rename_i q
    cases h
    exact ⟨as,caps,rfl,rfl,q.1,q.2.choose_spec⟩
   ·cases h
def sB (i:Nat):Stmt->Stmt
 | .For _ _ b _ _=>b.getD i (.Pass ⟨0,0,0,0⟩)
 | .If _ b _ _=>b.getD i (.Pass ⟨0,0,0,0⟩)
 | .FunctionDef _ _ b ..=>b.getD i (.Pass ⟨0,0,0,0⟩)
 | s=>s
def sV:Stmt->Expr
 | .Assign _ v ..=>v
 | .Return (some v) _=>v
 | .Expr v _=>v
 | _=>.Name "" ⟨0,0,0,0⟩
def eA (i:Nat):Expr->Expr
 | .Call _ a _ _=>a.getD i (.Name "" ⟨0,0,0,0⟩)
 | e=>e
def mkLam (q:Str) (N ps:List Str):Expr->LamT
 | .Lambda a b c _=>⟨q,a,b,c,N,ps⟩
 | _=>default
end HW
namespace HW
open PySem PySem.Spec PyProof.Rows L2
section
variable {K:PySem.W.Frag} {H H':Hp}
theorem SqT.clo {a:Addr} {xs:List V} (s:∀ b u,H b=some u->(∀ o,u≠Clo o)->H' b=some u) (h:SqT K H a xs):SqT K H' a xs:=by
 rcases h with (h | ⟨o,h⟩) | h
 ·exact .inl (.inl (s _ _ h fun o z=>by cases z))
 ·exact .inl (.inr ⟨o,s _ _ h fun o z=>by cases z⟩)
 ·exact .inr h
theorem SqL.clo {a:Addr} {xs:List V} (s:∀ b u,H b=some u->(∀ o,u≠Clo o)->H' b=some u) (h:SqL K H a xs):SqL K H' a xs:=by
 rcases h with (h | ⟨o,h⟩) | h
 ·exact .inl (.inl (s _ _ h fun o z=>by cases z))
 ·exact .inl (.inr ⟨o,s _ _ h fun o z=>by cases z⟩)
 ·exact .inr h
mutual
theorem Rep.clo (s:∀ b u,H b=some u->(∀ o,u≠Clo o)->H' b=some u):∀ {d:D} {v:V},nob d=true->Rep K H d v->Rep K H' d v
 | .non,_,_,h=>h
 | .bl _,_,_,h=>h
 | .int _,_,_,h=>h
 | .str _,_,_,h=>h
 | .tup ds,_,hn,h=>by
  obtain ⟨a,xs,e,q,r⟩:=h
  exact ⟨a,xs,e,SqT.clo s q,Reps.clo s hn r⟩
 | .lst ds,_,hn,h=>by
  obtain ⟨a,xs,e,q,r⟩:=h
  exact ⟨a,xs,e,s _ _ q (fun o z=>by cases z),Reps.clo s hn r⟩
 | .fro ds,_,hn,h=>by
  obtain ⟨a,xs,e,q,r⟩:=h
  exact ⟨a,xs,e,SqL.clo s q,Reps.clo s hn r⟩
 | .obj ..,_,hn,_=>by cases hn
 | .dct ..,_,hn,_=>by cases hn
 | .cl ..,_,hn,_=>by cases hn
theorem Reps.clo (s:∀ b u,H b=some u->(∀ o,u≠Clo o)->H' b=some u):∀ {ds:List D} {vs:List V},nobs ds=true->Reps K H ds vs->Reps K H' ds vs
 | [],_,_,h=>h
 | d::ds,_,hn,h=>by
  have hn':(nob d&&nobs ds)=true:=hn
  rw [Bool.and_eq_true] at hn'
  obtain ⟨v,r,e,q,t⟩:=h
  exact ⟨v,r,e,Rep.clo s hn'.1 q,Reps.clo s hn'.2 t⟩
end
theorem Rep.cloC (s:∀ b u,H b=some u->(∀ o,u≠Clo o)->H' b=some u) {d:D} {v:V} (hn:nobC d=true) (h:Rep K H d v):Rep K H' d v:=by
 match d,hn,h with
 | .dct ks ds,hn,h =>
  obtain ⟨a,xs,e,⟨hl,o,q⟩,r⟩:=h
  exact ⟨a,xs,e,⟨hl,o,s _ _ q (fun o' z=>by cases z)⟩,Reps.clo s hn r⟩
 | .non,hn,h=>exact Rep.clo s hn h
 | .bl _,hn,h=>exact Rep.clo s hn h
 | .int _,hn,h=>exact Rep.clo s hn h
 | .str _,hn,h=>exact Rep.clo s hn h
 | .tup _,hn,h=>exact Rep.clo s hn h
 | .lst _,hn,h=>exact Rep.clo s hn h
 | .fro _,hn,h=>exact Rep.clo s hn h
 | .obj ..,hn,h=>cases hn
 | .cl ..,hn,h=>cases hn
theorem drop_clo {cl:List (Str×Addr)} (hC:∀ b,isC cl b=true->∃ o,H b=some (Clo o)):∀ b u,H b=some u->(∀ o,u≠Clo o)->dropC cl H b=some u:=fun b u e n=>by
 cases q:isC cl b with
 | false=>rw [dropC_n q];exact e
 | true =>
  obtain ⟨o,z⟩:=hC b q
  rw [e] at z
  exact absurd (Option.some.inj z) (n o)
theorem lR:∀ {ds:List D} {vs:List V},Reps K H ds vs->EnvR K H (ds.map some) (vs.map some):=fun {ds vs} r=>by
 refine ⟨by rw [List.length_map,List.length_map,r.length];exact Nat.le_refl _,fun i d h=>?_⟩
 rw [List.getElem?_map] at h
 obtain ⟨d',e,q⟩:=mapS h
 cases q
 obtain ⟨v,h1,h2⟩:=r.get e
 exact ⟨v,by rw [List.getElem?_map,h1];rfl,h2⟩
end
def spL (K:PySem.W.Frag) (t:LamT) (G:List D->Option D) (f c':Addr) (cl:List (Str×Addr)) (pm ctv:Value):Sp:=fun vs H Q _=>∃ as ds caps d,H f=some (Clo (PySem.W.kla_obj "<lambda>" t.q t.params t.body t.scope cl pm c' ctv))/\H c'=some (.tbl t.q true)/\CapsOk H t.N t.ps cl caps /\
 as.length=t.ps.length/\Reps K H as vs/\Reps K H ds caps/\nobs as=true/\nobs ds=true/\G (as++ds)=some d/\nob d=true/\∀ v H',Same H H'->Rep K H' d v->Q v H'
structure LamOk (P:Program) (w:World) (K:PySem.W.Frag) (mg:Str->Option Value) (base:Heap) (k:Nat) (t:LamT) (G:List D->Option D):Prop where
 ok:∀ (f c':Addr) (cl:List (Str×Addr)) (pm ctv:Value),CloScope t.N t.ps t.scope cl->FnOk P w K mg base CX0 k f (PySem.W.kla_fn "<lambda>" t.q t.params t.body t.scope cl pm (.ref c') ctv) t.ps (spL K t G f c' cl pm ctv)
 bd:∀ (c':Addr) (cl:List (Str×Addr)) (pm ctv:Value),Binds K (PySem.W.kla_fn "<lambda>" t.q t.params t.body t.scope cl pm (.ref c') ctv) t.ps []
theorem LamOk.m {P:Program} {w:World} {K:PySem.W.Frag} {mg:Str->Option Value} {base:Heap} {k k':Nat} {t:LamT} {G:List D->Option D} (h:LamOk P w K mg base k t G) (hk:k<=k':=by decide):LamOk P w K mg base k' t G :=
 ⟨fun f c' cl pm ctv S=>(h.ok f c' cl pm ctv S).mono hk,h.bd⟩
section
variable {X:Cx} {pos p:Pos} {e:Expr} {es:List Expr} {k i:Nat} {F:R->Option (List D)}
end
end HW
namespace HW
open PySem PySem.Spec PyProof.Rows L2
theorem caps_get {K:PySem.W.Frag} {H:Hp} {ρ:R} {σ:L2.St} (er:EnvR K H ρ σ):∀ {js:List Nat} {cs:List D},capsC js ρ=some cs->∃ vs,Reps K H cs vs/\vs.length=js.length/\∀ (i j:Nat) (v:V),js[i]?=some j->vs[i]?=some v->σ[j]?=some (some v)
 | [],_,h=>by cases h;exact ⟨[],rfl,rfl,fun i j v h=>by cases h⟩
 | j::js,cs,h=>by
  obtain ⟨d,e1,h⟩:=bindS h
  obtain ⟨cs',e2,rfl⟩:=mapS h
  obtain ⟨v,hσ,rv⟩:=er.at e1
  obtain ⟨vs,r,hl,hg⟩:=caps_get er e2
  refine ⟨v::vs,⟨v,vs,rfl,rv,r⟩,by simp [hl],fun i j' v' h1 h2=>?_⟩
  cases i with
  | zero=>cases h1;cases h2;exact hσ
  | succ i=>exact hg i j' v' h1 h2
def tAL (K:PySem.W.Frag) (t:LamT) (cl:List (Str×Addr)) (Pt:Addr) (F:R->Option (List D)):TA:=fun σ H Q=>∃ ρ as,EnvR K H ρ σ/\F ρ=some as/\H Pt=some (.tbl t.q false) /\
 ∀ vs f c' ctv pm H',Same H H'->Reps K H' as vs->H f=none->H' f=some (Clo (PySem.W.kla_obj "<lambda>" t.q t.params t.body t.scope cl pm c' ctv))->H' c'=some (.tbl t.q true)->Q (vs++[.ref f]) H'
section
variable {X:Cx} {pos p:Pos} {e:Expr} {es:List Expr} {k:Nat} {F:R->Option (List D)} {t:LamT} {cl:List (Str×Addr)} {ct:CTab} {ts:List CTab}
theorem sal_last (TB:TabBase X.mg ts X.base) (ht:ct∈ts) (hcode:X.env.code=.ref ct.c) (hq:X.env.qual ++ "<lambda>" = ct.q) (htq:t.q=ct.q) (hcl:closureFor t.scope X.env=pure cl) (hdef:defaultsOf t.params X.env=([],[]):=by rfl):PA X [.Lambda t.params t.body t.scope pos] (tAL X.K t cl ct.P argN) :=
 (eR (oo (pos:=pos) TB ht hcode hq hcl hdef) pa_nil).imp fun σ H Q ⟨ρ,as,er,e,hP,q⟩=>by
  cases e
  rw [htq] at hP
  refine ⟨hP,fun f c' ctv pm H' sm hn h1 h2=>?_⟩
  rw [<- htq] at h1 h2
  exact q [] f c' ctv pm H' sm rfl hn h1 h2
theorem mz {x:Str} {G:List D->Option D} {ps:List Str} {js:List Nat} {Pt:Addr} (C:Cal X.prog X.w X.K X.mg X.base k x ps G) (hr:Room k X.A) (hT:X.H₀ Pt=some (.tbl t.q false)) (o:OwnC X cl) (S:CloScope t.N t.ps t.scope cl)
  (hjs:js.map (fun j=>X.N[j]?)=(t.N.drop t.ps.length).map some) (hcn:∀ y c,cl.lookup y=some c->y∈t.N.drop t.ps.length) (ha:PA X (e::es) (tAL X.K t cl Pt F)) (hst:(e::es).all noStar=true:=by rfl) (hg:Gl X x:=by rfl) (hdb:(x==("__debug__" : Str))=false:=by decide) :
  SE X (.Call (.Name x p) (e::es) [] pos) (callW G t F (capsC js)):=by
 rw [List.all_cons,Bool.and_eq_true] at hst
 have he:=ay es X.env hst.1
 have hpl:=bS (pos:=pos) (env:=X.env) hst.2
 obtain ⟨fa,fd,fok,hm,kp,bd⟩:=C.ex
 intro pins s σ H Q I ⟨ρ,d,er,e0,q⟩
 obtain ⟨as,cs,eF,eC,nc,nd,hG⟩:=callW_is e0
 refine mv fok hr hg hm kp bd o ha hdb he hpl pins s σ H Q I ⟨ρ,as,er,eF,I.base.tbls _ _ _ hT,fun vs f c' ctv pm H1 s1 r1 hn h1 h2 H2 tr=>?_⟩
 have s12:Same H1 H2:=fun b u hb=>by
  cases qc:isC cl b with
  | false=>rw [tr.out b qc];exact hb
  | true=>rw [(tr.cel b qc).1] at hb;cases hb
 obtain ⟨cvs,rc,hl,hg'⟩:=caps_get (er.mono s1) eC
 have hlen:js.length=t.N.length - t.ps.length:=by
  have:=congrArg List.length hjs
  rw [List.length_map,List.length_map,List.length_drop] at this
  exact this
 have at_i:∀ (i:Nat) (y:Str),(t.N.drop t.ps.length)[i]?=some y->∃ j,js[i]?=some j/\X.N[j]?=some y:=fun i y hy=>by
  have h:=congrArg (fun l=>l[i]?) hjs
  simp only [List.getElem?_map] at h
  rw [hy] at h
  cases hj:js[i]? with
  | none=>rw [hj] at h;cases h
  | some j=>rw [hj] at h;exact ⟨j,rfl,Option.some.inj h⟩
 have caps:CapsOk H2 t.N t.ps cl cvs:=by
  refine ⟨by rw [hl,hlen],fun b hb=>?_,fun i y v hy hv=>?_⟩
  ·obtain ⟨pr,hp,ep⟩:=List.any_eq_true.mp hb
   have hlk:cl.lookup pr.1=some b:=lookup_nd o.ndc (by rw [<- eq_of_beq ep];exact hp)
   obtain ⟨i,hi⟩:=List.getElem?_of_mem (hcn _ _ hlk)
   obtain ⟨j,hj,hN⟩:=at_i i _ hi
   have hil:i<cvs.length:=by rw [hl];exact (List.getElem?_eq_some_iff.mp hj).1
   obtain ⟨ob,u,z1,z2,_⟩:=tr.val j _ b cvs[i] hN (hg' i j _ hj (List.getElem?_eq_getElem hil)) hlk
   exact ⟨ob,u,z1,z2⟩
  ·obtain ⟨j,hj,hN⟩:=at_i i y hy
   obtain ⟨c,hc⟩:=S.has y (S.fre y (List.mem_of_getElem? hy))
   obtain ⟨ob,u,z1,z2,z3⟩:=tr.val j y c v hN (hg' i j v hj hv) hc
   exact ⟨c,ob,u,hc,z1,z2,z3⟩
 refine ⟨as++[.cl t f cs],d,?_,hG f,fun v H' s2 rv=>q v _ (fun b u hb=>?_) (Rep.cloC (drop_clo fun b hb=>?_) nd rv)⟩
 ·exact Reps.append (r1.mono s12) (Reps.one ⟨rfl,cl,cvs,pm,ctv,c',s12 _ _ h1,s12 _ _ h2,S,caps,rc.mono s12⟩)
 ·have hb1:=s1 b u hb
  cases qc:isC cl b with
  | true=>rw [(tr.cel b qc).1] at hb1;cases hb1
  | false=>rw [dropC_n qc];exact s2 b u (s12 b u hb1)
 ·obtain ⟨_,ob,_,z,_⟩:=tr.cel b hb
  exact ⟨ob,s2 _ _ z⟩
end
end HW
namespace HW
open PySem PySem.Spec PyProof.Rows L2
structure FunC (K:PySem.W.Frag) (x qual:Str) (st:Stmt) (f:Addr) (fd:FuncData) (c:Addr):Prop where
 ex:∃ (oc:Value) (od:Option Addr) (kV doc pm:Value) (an:Option Addr) (ct:Value) (osl:Array (Option Value)),
  fd=PySem.W.fnOf x qual (defArgs st) (defBody st) (defScope st) .none kV doc pm an (.ref c) ct/\K.lookup f=some ⟨oc,od,.func fd,osl⟩/\PySem.W.codeIn K (.ref c) qual=true
 kp:PySem.W.keepIn K (.ref f)=true
def spT (K:PySem.W.Frag) (F:List D->Option D) (t:CTab):Sp:=fun vs H Q E=>H t.P=some (.tbl t.q false)/\spD K F vs H Q E
theorem mP {P:Program} {w:World} {K:PySem.W.Frag} {mg:Str->Option Value} {base:Heap} {x qual:Str} {st:Stmt} {f:Addr} {fd:FuncData} {N ps:List Str} {k:Nat} {F:List D->Option D} {g:R->Option Out} {t:CTab}
  (Fn:FunC K x qual st f fd t.c) (S:FnScope N ps (defScope st)) (hlen:∀ ds d,F ds=some d->ds.length=ps.length)
  (hb:∀ (A:Around) (outer:List Env) (s:Shared) (H:Hp) (E:XK),Room k (A.deeper (envOfC qual (defScope st) s.heap.objs.size f (.ref t.c)))->H t.P=some (.tbl t.q false)->SS (cxOf CX0 P w K mg base N qual (defScope st) f (.ref t.c) A outer s H E).nox (defBody st) g)
  (hF:∀ ds d,F ds=some d->retOf (g (beg N.length ds))=some d):FnOk P w K mg base CX0 (k+1) f fd ps (spT K F t):=by
 obtain ⟨oc,od,kV,doc,pm,an,ct,osl,rfl,lk,hcd⟩:=Fn.ex
 refine mr lk hcd S (fun vs H Q E h=>?_) (fun A outer s H vs Q E hr h=>?_)
 ·obtain ⟨_,ds,d,r,e,_⟩:=h
  rw [<- r.length]
  exact hlen ds d e
 ·obtain ⟨hT,ds,d,r,e,q⟩:=h
  refine ⟨_,(hb A outer s H E hr hT).nox,?_⟩
  have z:=hF ds d e
  cases ho:g (beg N.length ds) with
  | none=>rw [ho] at z;cases z
  | some o =>
   rw [ho] at z
   refine ⟨beg N.length ds,_,o,(beg_env r).t,ho,fun H1 s1=>?_⟩
   cases o with
   | rt d'=>cases (show d'=d from Option.some.inj z);exact fun v rv=>q v H1 s1 rv
   | nx ρ=>cases (show D.non=d from Option.some.inj z);exact fun σ _=>q .non H1 s1 rfl
   | bk ρ=>cases z
   | ct ρ=>cases z
structure OneLam (X:Cx) (t:LamT) (cl:List (Str×Addr)) (ct:CTab) (js:List Nat):Prop where
 TB:TabBase X.mg [ct] X.base
 hT:X.H₀ ct.P=some (.tbl ct.q false)
 tq:t.q=ct.q
 code:X.env.code=.ref ct.c
 qual:X.env.qual ++ "<lambda>" = ct.q
 hcl:closureFor t.scope X.env=pure cl
 hdf:defaultsOf t.params X.env=([],[])
 own:OwnC X cl
 sc:CloScope t.N t.ps t.scope cl
 hjs:js.map (fun j=>X.N[j]?)=(t.N.drop t.ps.length).map some
 hcn:∀ y c,cl.lookup y=some c->y∈t.N.drop t.ps.length
section
variable {X:Cx} {pos p:Pos} {e:Expr} {es:List Expr} {k:Nat} {F:R->Option (List D)} {t:LamT} {cl:List (Str×Addr)} {ct:CTab} {js:List Nat}
theorem sal_of (o:OneLam X t cl ct js):PA X [.Lambda t.params t.body t.scope pos] (tAL X.K t cl ct.P argN) :=
 sal_last o.TB (List.mem_singleton.mpr rfl) o.code o.qual o.tq o.hcl o.hdf
theorem lB {x:Str} {G:List D->Option D} {ps:List Str} (C:Cal X.prog X.w X.K X.mg X.base k x ps G) (hr:Room k X.A) (o:OneLam X t cl ct js) (ha:PA X (e::es) (tAL X.K t cl ct.P F)) (hst:(e::es).all noStar=true:=by rfl) (hg:Gl X x:=by rfl) (hdb:(x==("__debug__" : Str))=false:=by decide) :
  SE X (.Call (.Name x p) (e::es) [] pos) (callW G t F (capsC js)):=mz C hr (by rw [o.tq];exact o.hT) o.own o.sc o.hjs o.hcn ha hst hg hdb
end
def LOk (P:Program) (w:World) (K:PySem.W.Frag) (mg:Str->Option Value) (base:Heap) (k:Nat) (L:LMean):Prop:=∀ t G,L t=some G->LamOk P w K mg base k t G
theorem LOk.mono {P:Program} {w:World} {K:PySem.W.Frag} {mg:Str->Option Value} {base:Heap} {k k':Nat} {L:LMean} (h:LOk P w K mg base k L) (hk:k<=k'):LOk P w K mg base k' L:=fun t G e=>(h t G e).m hk
theorem lam_bd {K:PySem.W.Frag} {t:LamT} (h:∀ (c':Addr) (cl:List (Str×Addr)) (pm ctv:Value) (us:List Value),us.length=t.ps.length->bindArgs (PySem.W.kla_fn "<lambda>" t.q t.params t.body t.scope cl pm (.ref c') ctv) ⟨us,[]⟩=pure (t.ps.zip us)) :
  ∀ (c':Addr) (cl:List (Str×Addr)) (pm ctv:Value),Binds K (PySem.W.kla_fn "<lambda>" t.q t.params t.body t.scope cl pm (.ref c') ctv) t.ps []:=fun c' cl pm ctv=>.all (h c' cl pm ctv)
theorem n_ {K:PySem.W.Frag} {x:Str} {f c P:Addr} {oc oc2:Value} {od od2:Option Addr} {osl sl2:Array (Option Value)} {fd:FuncData} {vs:Array Value} (a:PySem.W.nsIn K mainGlobals x=some (some (.ref f))) (l:K.lookup f=some ⟨oc,od,.func fd,osl⟩) (hc:fd.code=.ref c)
  (l2:K.lookup c=some ⟨oc2,od2,.fields vs,sl2⟩) (h:vs[11]?=some (.ref P)):PySem.W.tabIn K x=some (c,P):=by
 unfold PySem.W.tabIn
 simp only [a,l,hc,l2,h]
def spO (K:PySem.W.Frag) (F:List D->Option D) (ts:List CTab):Sp:=fun vs H Q E=>∀ t,ts=[t]->spT K F t vs H Q E
theorem spO_at {K:PySem.W.Frag} {F:List D->Option D} {H:Hp} {ts:List CTab} {a:Addr} {vs:List V} {Q:VK} {E:XK} (hO:OnlyT ts a H) (hP:∀ t∈ts,t.P≠a) (h:spD K F vs H Q E):spO K F ts vs H Q E:=fun t e=>by
 subst e
 refine ⟨?_,h⟩
 rcases hO t.P with ⟨_,z⟩ | ⟨z,_⟩
 ·rw [z];simp [TabH]
 ·exact absurd z (hP t (List.mem_singleton.mpr rfl))
theorem spO_of {P:Program} {w:World} {K:PySem.W.Frag} {mg:Str->Option Value} {base:Heap} {k:Nat} {f:Addr} {fd:FuncData} {ps:List Str} {F:List D->Option D} {t:CTab} (h:FnOk P w K mg base CX0 k f fd ps (spT K F t)):FnOk P w K mg base CX0 k f fd ps (spO K F [t]):=h.imp fun vs H Q E z=>z t rfl
end HW
namespace HW
open PySem
end HW
namespace HW
open PySem PySem.Spec PyProof.Rows L2
section
variable {X:Cx}
variable {o i:Expr} {f g:R->Option D} {pos apos cpos:Pos}
end
end HW
namespace HW
open PySem PySem.Spec PyProof.Rows L2
section
variable {X:Cx} {a:Expr} {f:R->Option D}
end
end HW
namespace HW
open PySem PySem.Spec PyProof.Rows L2
section
variable {X:Cx}
end
end HW
namespace HW
open PySem PySem.Spec PyProof.Rows L2
structure CalT (P:Program) (w:World) (K:PySem.W.Frag) (mg:Str->Option Value) (base:Heap) (k:Nat) (x:Str) (ps:List Str) (F:List D->Option D) (ct:CTab):Prop where
 ex:∃ f fd,FnOk P w K mg base CX0 k f fd ps (spT K F ct)/\mg x=some (.ref f)/\PySem.W.keepIn K (.ref f)=true/\Binds K fd ps []
theorem CalT.mono {P:Program} {w:World} {K:PySem.W.Frag} {mg:Str->Option Value} {base:Heap} {j k:Nat} {x:Str} {ps:List Str} {F:List D->Option D} {ct:CTab} (h:CalT P w K mg base j x ps F ct) (hk:j<=k):CalT P w K mg base k x ps F ct:=by
 obtain ⟨f,fd,a,b⟩:=h.ex
 exact ⟨f,fd,a.mono hk,b⟩
theorem CalT.m {P:Program} {w:World} {K:PySem.W.Frag} {mg:Str->Option Value} {base:Heap} {j k:Nat} {x:Str} {ps:List Str} {F:List D->Option D} {ct:CTab} (h:CalT P w K mg base j x ps F ct) (hk:j<=k:=by decide):CalT P w K mg base k x ps F ct:=h.mono hk
section
variable {X:Cx} {p pos:Pos} {e:Expr} {es:List Expr} {F:R->Option (List D)} {ct:CTab}
end
end HW
namespace HW
open PySem
abbrev KI:=List (Int×D)
abbrev WU:=R->Nat->KI->List D->Option (Out×KI×List D)
def getI:KI->Int->Option D
 | [],_=>none
 | (k,d)::kv,j=>if k=j then some d else getI kv j
end HW
namespace HW
open PySem PySem.Spec PyProof.Rows L2
section
variable {K:PySem.W.Frag} {H H':Hp}
def RepI (K:PySem.W.Frag) (H:Hp):KI->List (Key×V)->Prop
 | [],xs=>xs=[]
 | (k,d)::kv,xs=>∃ v r,xs=(Sum.inl k,v)::r/\Rep K H d v/\RepI K H kv r
theorem RepI.kp (s:Kp H H'):∀ {kv:KI} {xs:List (Key×V)},RepI K H kv xs->RepI K H' kv xs
 | [],_,h=>h
 | (k,d)::kv,_,h=>by
  obtain ⟨v,r,e,q,t⟩:=h
  exact ⟨v,r,e,q.kp s,RepI.kp s t⟩
theorem RepI.mono (s:Same H H') {kv:KI} {xs:List (Key×V)} (h:RepI K H kv xs):RepI K H' kv xs:=h.kp (Kp.of s)
theorem RepI.snoc:∀ {kv:KI} {xs:List (Key×V)} {k:Int} {d:D} {v:V},RepI K H kv xs->Rep K H d v->RepI K H (kv++[(k,d)]) (xs++[(Sum.inl k,v)])
 | [],_,k,d,v,h,r=>by cases (show _=[] from h);exact ⟨v,[],rfl,r,rfl⟩
 | (k',d')::kv,_,k,d,v,h,r=>by
  obtain ⟨v',r',rfl,q,t⟩:=h
  exact ⟨v',r'++[(Sum.inl k,v)],rfl,q,RepI.snoc t r⟩
theorem RepI.len:∀ {kv:KI} {xs:List (Key×V)},RepI K H kv xs->kv.length=xs.length
 | [],_,h=>by cases (show _=[] from h);rfl
 | (k,d)::kv,_,h=>by
  obtain ⟨v,r,rfl,q,t⟩:=h
  rw [List.length_cons,List.length_cons,RepI.len t]
theorem RepI.at:∀ {kv:KI} {xs:List (Key×V)} {j:Int},RepI K H kv xs->(getI kv j=none/\valV xs (Sum.inl j:Key)=none)\/∃ d v,getI kv j=some d/\valV xs (Sum.inl j:Key)=some v/\Rep K H d v
 | [],_,j,h=>by cases (show _=[] from h);exact .inl ⟨rfl,rfl⟩
 | (k,d)::kv,_,j,h=>by
  obtain ⟨v,r,rfl,q,t⟩:=h
  by_cases hk:k=j
  ·refine .inr ⟨d,v,if_pos hk,?_,q⟩
   show ((List.find? _ ((Sum.inl k,v)::r)).map _)=_
   rw [List.find?_cons_of_pos (by simpa using hk)]
   rfl
  ·have e1:getI ((k,d)::kv) j=getI kv j:=if_neg hk
   have e2:valV ((Sum.inl k,v)::r) (Sum.inl j:Key)=valV r (Sum.inl j:Key):=by
    show ((List.find? _ ((Sum.inl k,v)::r)).map _)=_
    rw [List.find?_cons_of_neg (by simpa using hk)]
    rfl
   rw [e1,e2]
   exact RepI.at t
def SmW (d a:Addr) (H H':Hp):Prop:=∀ b u,b≠d->b≠a->H b=some u->H' b=some u
theorem SmW.of {d a:Addr} (h:Same H H'):SmW d a H H':=fun b u _ _ e=>h b u e
theorem SmW.trans {d a:Addr} {H1 H2:Hp} (h:SmW d a H H1) (h':SmW d a H1 H2):SmW d a H H2:=fun b u n m e=>h' b u n m (h b u n m e)
theorem SmW.d {d a:Addr} (h:SmA d H H'):SmW d a H H':=fun b u n _ e=>h b u n e
theorem SmW.a {d a:Addr} (h:SmA a H H'):SmW d a H H':=fun b u _ m e=>h b u m e
def WSt (P:Program) (w:World) (K:PySem.W.Frag) (H:Hp) (d a:Addr) (kv:KI) (ds:List D):Prop:=d≠a/\(∃ xs,H d=some (OwnK P w d xs)/\RepI K H kv xs)/\∃ ys,H a=some (OwnO a ys)/\Reps K H ds ys
theorem WSt.mono {P:Program} {w:World} {d a:Addr} {kv:KI} {ds:List D} (h:WSt P w K H d a kv ds) (s:Same H H'):WSt P w K H' d a kv ds:=by
 obtain ⟨n,⟨xs,h1,h2⟩,ys,h3,h4⟩:=h
 exact ⟨n,⟨xs,s _ _ h1,h2.mono s⟩,ys,s _ _ h3,h4.mono s⟩
theorem WSt.kp {P:Program} {w:World} {d a:Addr} {kv:KI} {ds:List D} (h:WSt P w K H d a kv ds) (s:SmW d a H H'):Kp H H':=fun b u e n=>by
 obtain ⟨_,⟨xs,h1,_⟩,ys,h3,_⟩:=h
 by_cases hb:b=d
 ·subst hb;rw [h1] at e;cases e;exact absurd rfl (n _)
 ·by_cases hc:b=a
  ·subst hc;rw [h3] at e;cases e;exact absurd rfl (n _)
  ·exact s b u hb hc e
end
section
variable (P:Program) (w:World) (K:PySem.W.Frag)
end
section
variable {X:Cx} {st:Stmt} {sts:List Stmt} {u:R->Option Out} {p q:WU} {pos:Pos} {e:Expr} {f:R->Option D}
end
end HW
namespace HW
open PySem PySem.Spec PyProof.Rows L2
section
variable (P:Program) (w:World) (K:PySem.W.Frag)
end
section
variable {X:Cx} {st:Stmt} {sts:List Stmt} {u:TS} {p q:WU} {pos:Pos}
end
def spW (P:Program) (w:World) (K:PySem.W.Frag) (m:Nat) (g:List D->Nat->KI->Option (D×KI)):Sp:=fun vs H Q _=>∃ d ds rest kv xs r kv',vs=.ref d::rest/\rest.length+1=m/\Reps K H ds rest/\H d=some (OwnK P w d xs)/\RepI K H kv xs/\g (.obj 1 d [] []::ds) d kv=some (r,kv') /\
 ∀ H' xs' v,SmA d H H'->H' d=some (OwnK P w d xs')->RepI K H' kv' xs'->Rep K H' r v->Q v H'
structure CalW (P:Program) (w:World) (K:PySem.W.Frag) (mg:Str->Option Value) (base:Heap) (k:Nat) (x:Str) (ps:List Str) (g:List D->Nat->KI->Option (D×KI)):Prop where
 ex:∃ f fd,FnOk P w K mg base CX0 k f fd ps (spW P w K ps.length g)/\mg x=some (.ref f)/\PySem.W.keepIn K (.ref f)=true/\Binds K fd ps []
theorem CalW.m {P:Program} {w:World} {K:PySem.W.Frag} {mg:Str->Option Value} {base:Heap} {j k:Nat} {x:Str} {ps:List Str} {g:List D->Nat->KI->Option (D×KI)} (h:CalW P w K mg base j x ps g) (hk:j<=k:=by decide):CalW P w K mg base k x ps g:=by
 obtain ⟨f,fd,a,b⟩:=h.ex
 exact ⟨f,fd,a.mono hk,b⟩
end HW
namespace HW
open PySem PySem.Spec PyProof.Rows L2
section
variable {X:Cx} {pos p1 p2 p3 p4 p5 p6 p7 p8 p9 p10 p11 p12 p13 p14:Pos}
end
end HW
namespace HW
open PySem
end HW
namespace HW
open PySem PySem.Spec PyProof.Rows L2
section
variable {X:Cx} {p1 p2 p3 p4 p5 p6 p7 p8 p9 p10 p11 p12 p13 p14:Pos}
end
end HW
namespace HW
open PySem
abbrev XD:=R->Option (Except Nat D)
abbrev XO:=R->Option (Except Nat Out)
abbrev XL:=R->Option (Except Nat (List D))
def xOf (f:R->Option D):XD:=fun ρ=>(f ρ).map .ok
def xCall (F:List D->Option (Except Nat D)) (g:R->Option (List D)):XD:=fun ρ=>(g ρ).bind F
def xArgN:XL:=fun _=>some (.ok [])
def xArgC (f:XD) (g:XL):XL:=fun ρ=>(f ρ).bind fun r=>match r with
 | .error c=>some (.error c)
 | .ok d=>(g ρ).map fun r2=>match r2 with
  | .error c=>.error c
  | .ok ds=>.ok (d::ds)
def xFn (F:List D->Option D) (g:XL):XD:=fun ρ=>(g ρ).bind fun r=>match r with
 | .error c=>some (.error c)
 | .ok ds=>(F ds).map .ok
def xTup (g:XL):XD:=fun ρ=>(g ρ).map fun r=>match r with
 | .error c=>.error c
 | .ok ds=>.ok (.tup ds)
def compX (st:D->R->Option R) (e:XD):List D->R->Option (Except Nat (List D))
 | [],_=>some (.ok [])
 | d::ds,ρ=>(st d ρ).bind fun ρ1=>(e ρ1).bind fun r=>match r with
  | .error c=>some (.error c)
  | .ok y=>(compX st e ds ρ).map fun r2=>match r2 with
   | .error c=>.error c
   | .ok ys=>.ok (y::ys)
def lcX (k:Nat) (it:R->Option (List D)) (st:D->R->Option R) (e:XD):XD:=fun ρ =>
 (it ρ).bind fun ds=>if ds.length<=sizeLine then (compX st e ds (List.replicate k none++ρ)).map fun r=>match r with
  | .error c=>.error c
  | .ok ys=>.ok (.lst ys) else none
def xPure (u:R->Option Out):XO:=fun ρ=>(u ρ).map .ok
def xRet (f:XD):XO:=fun ρ=>(f ρ).map fun r=>match r with
 | .error c=>.error c
 | .ok d=>.ok (.rt d)
def xAsg (f:XD) (st:D->R->Option R):XO:=fun ρ=>(f ρ).bind fun r=>match r with
 | .error c=>some (.error c)
 | .ok d=>(st d ρ).map fun ρ'=>.ok (.nx ρ')
def xSeq (p q:XO):XO:=fun ρ=>(p ρ).bind fun r=>match r with
 | .ok (.nx ρ2)=>q ρ2
 | r=>some r
def xIf (c:R->Option Bool) (p q:XO):XO:=fun ρ=>(c ρ).bind fun b=>if b then p ρ else q ρ
def xRaise (k:Nat) (f:R->Option D):XO:=fun ρ=>(f ρ).map fun _=>.error k
def retX:Except Nat Out->Option (Except Nat D)
 | .error c=>some (.error c)
 | .ok (.rt d)=>some (.ok d)
 | .ok (.nx _)=>some (.ok .non)
 | _=>none
def viaX (k n:Nat) (g:XO) (ds:List D):Option (Except Nat D):=if ds.length=k then (g (beg n ds)).bind retX else none
theorem viaX_len {k n:Nat} {g:XO} {ds:List D} {d:Except Nat D} (h:viaX k n g ds=some d):ds.length=k:=by
 unfold viaX at h
 split at h
 ·assumption
 ·cases h
theorem viaX_g {k n:Nat} {g:XO} {ds:List D} {d:Except Nat D} (h:viaX k n g ds=some d):(g (beg n ds)).bind retX=some d:=by
 unfold viaX at h
 split at h
 ·exact h
 ·cases h
abbrev LMeanX:=LamT->Option (List D->Option (Except Nat D))
def callX (L:LMeanX) (i:Nat):XD:=fun ρ=>(vAt i ρ).bind fun c=>match c with
 | .cl t _ ds=>(L t).bind fun G=>if nobs ds=true/\t.ps=[] then (G ds).bind fun r=>match r with
  | .error c=>some (.error c)
  | .ok d=>if nob d then some (.ok d) else none
  else none
 | _=>none
def viaEX (n:Nat) (g:XD):List D->Option (Except Nat D):=fun xs=>if xs.length=n then g (xs.map some) else none
def fCntB:List D->Option D
 | [.lst es,.bl k]=>(bools es).bind fun bs=>if bs.length<=1000 then some (.int ((bs.countP (·==k):Nat):Int)) else none
 | _=>none
def fIdxB:List D->Option D
 | [.lst es,.bl k]=>(bools es).bind fun bs=>if k∈bs/\bs.length<=1000 then some (.int ((bs.idxOf k:Nat):Int)) else none
 | _=>none
def isCD (j a:Nat) (b:Bool):R->Option D:=fun ρ=>match vAt j ρ with
 | some (.obj 9 a' [] [])=>if a'=a then some (.bl b) else none
 | _=>none
def okX (G:List D->Option (Except Nat D)):List D->Option D:=fun ds=>(G ds).bind fun r=>match r with
 | .ok d=>some d
 | .error _=>none
def at0 (n j e:Nat):R:=(List.replicate n none).set j (some (.obj 9 e [] []))
def gErr (N j jf:Nat) (gs:Nat->Nat->R->Option Out) (c:Nat):Option Out:=open Classical in
 if h:c<2/\∃ d,∀ e:Nat,∃ ρ',gs c e (at0 N j e)=some (.nx ρ')/\vAt jf (ρ'.set j none)=some d then some (.rt (Classical.choose h.2)) else none
def gTry (N j jf:Nat) (fx:XD) (stf:D->R->Option R) (gs:Nat->Nat->R->Option Out):R->Option Out:=fun ρ=>(fx ρ).bind fun r=>match r with
 | .ok d=>(stf d ρ).bind fun ρ'=>(vAt jf ρ').map .rt
 | .error c=>gErr N j jf gs c
theorem tryErr {N j jf:Nat} {gs:Nat->Nat->R->Option Out} {c:Nat} {o:Out} (h:gErr N j jf gs c=some o):∃ d,o=.rt d/\c<2/\∀ e:Nat,∃ ρ',gs c e (at0 N j e)=some (.nx ρ')/\vAt jf (ρ'.set j none)=some d:=by
 unfold gErr at h
 split at h
 ·rename_i z
  cases h
  exact ⟨_,rfl,z.1,Classical.choose_spec z.2⟩
 ·cases h
theorem errS {N j jf:Nat} {gs:Nat->Nat->R->Option Out} {c:Nat} {d:D} (h2:c<2) (h:∀ e:Nat,∃ ρ',gs c e (at0 N j e)=some (.nx ρ')/\vAt jf (ρ'.set j none)=some d):gErr N j jf gs c=some (.rt d):=by
 have z:c<2/\∃ d,∀ e:Nat,∃ ρ',gs c e (at0 N j e)=some (.nx ρ')/\vAt jf (ρ'.set j none)=some d:=⟨h2,d,h⟩
 unfold gErr
 rw [dif_pos z]
 obtain ⟨ρ',a,b⟩:=h 0
 obtain ⟨ρ2,a2,b2⟩:=Classical.choose_spec z.2 0
 rw [a] at a2
 cases a2
 rw [b] at b2
 cases b2
 rfl
end HW
namespace HW
open PySem
def fReprS:List D->Option D
 | [.str x]=>if (PySem.reprText x).length<=sizeLine then some (.str (PySem.reprText x)) else none
 | _=>none
end HW
namespace HW
open PySem
end HW
namespace HW
open PySem PySem.Spec PyProof.Rows L2
structure Exc (B:Heap) (l:List Env) (e C:Addr) (h:Heap):Prop where
 st:B.StaysIn h
 ne:B.get? e=none
 fr:h.FunFrames B l
 tr:∃ a0 fl,h.TracedAtW B e (.ref C) a0 fl
section
variable {M:Model} {A:Around} {E:Value->Shared->Prop} {s:Shared} {B:Heap} {env env':Env} {outer:List Env} {L e C:Addr} {Q:Unit->Shared->Prop}
theorem note_eq (ev:Value) (h:env'.frame=env.frame):noteFrame ev env'=noteFrame ev env:=by
 unfold noteFrame PySem.frameOf
 rw [h]
theorem note_any (hfr:A.frames=some (env::outer)) (hf:env.frame=some L) (x:Exc B (env::outer) e C s.heap)
  (hQ:∀ h',Exc B (env::outer) e C h'->s.heap.UpToSlots h'->Q () {s with heap:=h' }):wpAny M A (noteFrame (.ref e) env) Q E s:=by
 obtain ⟨st,ne,fr,a0,fl,tr⟩:=x
 obtain ⟨oe,vs,T,oT,ts,he,⟨hc,h0⟩,hd,h1,hnT,hTe,hT,hdT,h3⟩:=id tr
 unfold noteFrame
 simp only [hf]
 refine wpAny_bind (wpAny_field he hd h1 ?_)
 rw [if_pos (show (Value.ref T != Value.none)=true by simp)]
 refine wpAny_bind (wpAny_field hT hdT h3 ?_)
 by_cases hq:(fl==rawInt L)=true
 ·rw [if_pos hq]
  exact wpAny_pure (hQ s.heap ⟨st,ne,fr,a0,fl,tr⟩ (Heap.UpToSlots.refl _))
 ·rw [if_neg hq]
  refine wpAny_bind (wpAny_setField hT hdT (Array.getElem?_eq_some_iff.mp h3).1 ?_)
  generalize hg:s.heap.update T (Obj.mapFields fun a=>a.setIfInBounds 3 Value.none)=g
  have oth:∀ b,b≠T->g.get? b=s.heap.get? b:=fun b hb=>by rw [<- hg];exact Heap.get?_update_other _ _ (Ne.symm hb)
  have nrec:∀ b o,s.heap.get? b=some o->(∀ ws,o.data≠.fields ws)->b≠T:=fun b o hb hn z=>by
   rw [z,hT] at hb
   cases hb
   exact hn ts hdT
  have stg:B.StaysIn g:=fun b o hb=>(oth b fun z=>by rw [z,hnT] at hb;cases hb).trans (st b o hb)
  have frg:g.FunFrames B (env::outer):=fr.of_keeps fun b o hb hn=>⟨o,(oth b (nrec b o hb hn)).trans hb,rfl⟩
  have heg:g.get? e=some oe:=(oth e (Ne.symm hTe)).trans he
  refine wpAny_entryW (s:={s with heap:=g}) hfr frg hf heg stg ne hd (Array.getElem?_eq_some_iff.mp h1).1 h0 fun h' ⟨k1,k2,k3,k4⟩=>?_
  refine hQ h' ⟨k1,ne,k2,a0,_,by rw [<- hc];exact k3⟩ fun b o hb hn=>k4 b o ((oth b (nrec b o hb hn)).trans hb) hn
theorem flight_any {fo:Option Addr} (x:Exc B outer e C s.heap) (hQ:∀ h',Exc B outer e C h'->s.heap.UpToSlots h'->Q () {s with heap:=h' }):wpAny M A (setFlight (.ref e) fo) Q E s:=by
 obtain ⟨st,ne,fr,a0,fl,tr⟩:=x
 obtain ⟨oe,vs,T,oT,ts,he,hc,hd,h1,hnT,hTe,hT,hdT,h3⟩:=tr
 have hsz:3<ts.size:=(Array.getElem?_eq_some_iff.mp h3).1
 unfold setFlight
 refine wpAny_bind (wpAny_field he hd h1 ?_)
 rw [if_pos (show (Value.ref T != Value.none)=true by simp)]
 refine wpAny_setField hT hdT hsz ?_
 generalize fo.elim Value.none (fun f=>rawInt f)=nf
 have oth:∀ b,b≠T->(s.heap.update T (Obj.mapFields fun a=>a.setIfInBounds 3 nf)).get? b=s.heap.get? b:=fun b hb=>Heap.get?_update_other _ _ (Ne.symm hb)
 have nrec:∀ b o,s.heap.get? b=some o->(∀ ws,o.data≠.fields ws)->b≠T:=fun b o hb hn z=>by
  rw [z,hT] at hb
  cases hb
  exact hn ts hdT
 refine hQ _ ⟨fun b o hb=>(oth b fun z=>by rw [z,hnT] at hb;cases hb).trans (st b o hb),ne,fr.of_keeps fun b o hb hn=>⟨o,(oth b (nrec b o hb hn)).trans hb,rfl⟩,a0,nf,
  oe,vs,T,_,_,(oth e (Ne.symm hTe)).trans he,hc,hd,h1,hnT,hTe,Heap.get?_update_self _ hT (Obj.isFreed_of_fields (Obj.data_mapFields hdT _)),Obj.data_mapFields hdT _,by simp [hsz]⟩ fun b o hb hn=>⟨o.slots,(oth b (nrec b o hb hn)).trans hb⟩
theorem Exc.low (x:Exc B (env::outer) e C s.heap):Exc B outer e C s.heap:=⟨x.st,x.ne,x.fr.2.2,x.tr⟩
theorem leave_any (hfr:A.frames=some (env::outer)) (hf:env.frame=some L) (x:Exc B (env::outer) e C s.heap)
  (hQ:∀ h',Exc B outer e C h'->s.heap.UpToSlots h'->Q () {s with heap:=h' }):wpAny M A (leaving env (.ref e)) Q E s:=by
 unfold leaving
 refine wpAny_bind (note_any hfr hf x fun h1 x1 u1=>flight_any (s:={s with heap:=h1}) x1 fun h2 x2 u2=>?_)
 exact hQ h2 (Exc.low (s:={s with heap:=h2}) x2) (u1.trans u2)
theorem pass_any {α:Type} {what:String} {Qa:α->Shared->Prop} (x:Exc B outer e C s.heap) (hQ:∀ h',Exc B outer e C h'->s.heap.UpToSlots h'->E (.ref e) {s with heap:=h' }):wpAny M A (PySem.passOn what (.ref e) env:Sem α) Qa E s:=by
 obtain ⟨st,ne,fr,a0,fl,tr⟩:=id x
 obtain ⟨oe,vs,T,oT,ts,he,hc,hd,h1,hnT,hTe,hT,hdT,h3⟩:=tr
 unfold PySem.passOn
 refine wpAny_bind (wpAny_field he hd h1 ?_)
 rw [if_neg (show ¬ ((Value.ref T==Value.none)=true) by simp)]
 have step:wpAny M A (setFlight (.ref e) env.frame >>= fun _=>(throw (.ref e):Sem α)) Qa E s:=wpAny_bind (flight_any x fun h' x' u'=>wpAny_throw (hQ h' x' u'))
 first
  | exact wpAny_bind (wpAny_pure step)
  | exact step
end
def CXe (P:Program) (w:World):CXT:=fun outer H s E ev s'=>∃ e C B H',ev=.ref e/\s'.os=s.os/\AllBare s'.gens/\Exc B outer e C s'.heap/\Un (frs outer) [] H H' s.heap s'.heap/\HOk P w H' s'.heap /\
 (∀ b o,s.heap.get? b=some o->b∉frs outer->∃ o',B.get? b=some o')/\(∀ b u,H' b=some u->∃ o',B.get? b=some o')/\Same H H'/\E (.ref C) none H'
structure XAt (X:Cx) (pins:List (Addr×Obj)) (σ:L2.St) (B:Heap) (e C:Addr) (H':Hp) (s':Shared):Prop where
 inv:L2.Inv X pins σ H' s'
 ent:∀ b o,X.s₀.heap.get? b=some o->b∉frs X.stack->b∉X.ex->∃ o',B.get? b=some o'
 hld:∀ b u,H' b=some u->∃ o',B.get? b=some o'
 loc:X.env.locals∉frs X.stack->∃ o',B.get? X.env.locals=some o'
 pin:∀ p∈X.pn++pins,∃ o',B.get? p.1=some o'
 exc:Exc B X.stack e C s'.heap
def XIn (X:Cx) (e C:Addr) (H':Hp) (s':Shared):Prop:=∃ pins σ B,XAt X pins σ B e C H' s'
def XW (X:Cx) (C:Addr) (H':Hp):Prop:=∀ e s',XIn X e C H' s'->X.xe (.ref e) s'
def EX (X:Cx):XK:=fun Cv _ H'=>∃ C,Cv=.ref C/\XW X C H'
section
variable {X:Cx} {pins:List (Addr×Obj)} {σ:L2.St} {H H':Hp} {s s':Shared} {e C:Addr}
theorem xat_of {E:XK} (I:L2.Inv X pins σ H s) (h:∃ B,s'.os=s.os/\AllBare s'.gens/\Exc B X.stack e C s'.heap/\Un (frs X.stack) [] H H' s.heap s'.heap/\HOk X.prog X.w H' s'.heap /\
  (∀ b o,s.heap.get? b=some o->b∉frs X.stack->∃ o',B.get? b=some o')/\(∀ b u,H' b=some u->∃ o',B.get? b=some o')):∃ B,XAt X pins σ B e C H' s':=by
 obtain ⟨B,os,bare,x,un,hok,c1,c2⟩:=h
 refine ⟨B,I.call' (ch:=[]) os un hok bare (fun b hb=>absurd hb (by simp)),fun b o hb hn hx=>?_,c2,fun hn=>?_,fun p hp=>?_,x⟩
 ·obtain ⟨o1,e1⟩:=I.base.there b o hb hx
  exact c1 b o1 e1 hn
 ·obtain ⟨m,hm,_⟩:=I.loc
  obtain ⟨o,_,_,ho,_⟩:=id hm
  exact c1 _ o ho hn
 ·obtain ⟨e1,e2,e3,e4,_⟩:=I.pin p hp
  refine c1 p.1 p.2 e1 fun hm=>?_
  rcases List.mem_cons.mp (I.stkSub p.1 hm) with z | z
  ·exact e3 z
  ·exact e4 z
theorem passE:Passes (CXe X.prog X.w) X (EX X):=fun pins σ H s ev s' I ⟨e,C,B,H',ee,os,bare,x,un,hok,c1,c2,sm,C',eC,w⟩=>by
 subst ee
 cases eC
 obtain ⟨B',xa⟩:=xat_of (E:=EX X) I ⟨B,os,bare,x,un,hok,c1,c2⟩
 exact w e s' ⟨pins,σ,B',xa⟩
theorem hok_stay {P:Program} {w:World} {B h h':Heap} (hok:HOk P w H' h) (st:B.StaysIn h) (st':B.StaysIn h') (c2:∀ b u,H' b=some u->∃ o',B.get? b=some o'):HOk P w H' h':=fun a o ha =>
 (hok a o ha).stay (fun b u hb e=>by
  have hH:∃ v,H' b=some v:=by
   rcases hb with z | z
   ·exact ⟨o,z ▸ ha⟩
   ·exact ⟨_,z⟩
  obtain ⟨v,hv⟩:=hH
  obtain ⟨o',e'⟩:=c2 b v hv
  have:=st b o' e'
  rw [e] at this
  cases this
  exact st' b u e') (fun _ z=>z) (fun _ _ z=>z) (fun _ _ _ z=>z)
theorem un_stay {fs ex:List Addr} {H0:Hp} {B h0 h h':Heap} (u:Un fs ex H0 H' h0 h) (st:B.StaysIn h) (st':B.StaysIn h') (up:∀ b∈fs,∀ o,h.get? b=some o->(∀ ws,o.data≠.fields ws)->∃ sl,h'.get? b=some {o with slots:=sl}) (nf:∀ b∈fs,∃ o,h.get? b=some o/\∀ ws,o.data≠.fields ws) (c:∀ b o,h0.get? b=some o->b∉fs->b∉ex->∃ o',B.get? b=some o'):Un fs ex H0 H' h0 h':=by
 refine ⟨fun b o hb n hf hx=>?_,fun b o hb n hf hx=>?_,u.free,fun b o hb hx=>?_,u.tups,u.frzs,u.tbls⟩
 ·obtain ⟨o',e'⟩:=c b o hb hf hx
  have e1:=u.keep b o hb n hf hx
  have e2:=st b o' e'
  rw [e1] at e2
  cases e2
  exact st' b o e'
 ·obtain ⟨sl,e1⟩:=u.slot b o hb n hf hx
  obtain ⟨o1,e2,nd⟩:=nf b hf
  rw [e1] at e2
  cases e2
  obtain ⟨sl2,e3⟩:=up b hf _ e1 nd
  exact ⟨sl2,e3⟩
 ·by_cases hf:b∈fs
  ·obtain ⟨o1,e2,nd⟩:=nf b hf
   obtain ⟨sl2,e3⟩:=up b hf _ e2 nd
   exact ⟨_,e3⟩
  ·obtain ⟨o',e'⟩:=c b o hb hf hx
   exact ⟨o',st' b o' e'⟩
end
section
variable {P:Program} {w:World} {K:PySem.W.Frag} {mg:Str->Option Value} {base:Heap} {N:List Str} {qual:Str} {scope:Scope} {f:Addr} {cd:Value} {A:Around} {outer:List Env} {s:Shared} {H H':Hp} {E:XK} {C:Addr}
theorem xw_def (hE:E (.ref C) none H') (hS:Same H H'):XW (cxOf (CXe P w) P w K mg base N qual scope f cd A outer s H E) C H':=fun e s' ⟨pins,σ,B,I',c1,c2,_,_,x⟩=>by
 show wpAny (model P w) (A.deeper (envOfC qual scope s.heap.objs.size f cd)) (leaving (envOfC qual scope s.heap.objs.size f cd) (.ref e)) (fun _ s''=>CXe P w outer H s E (.ref e) s'') (fun e' s''=>CXe P w outer H s E e' s'') s'
 refine leave_any I'.ok.frames rfl x fun h' x' up=>?_
 have hfn:∀ b o,s.heap.get? b=some o->b∉frs outer->b∉frs (envOfC qual scope s.heap.objs.size f cd::outer):=fun b o hb hn hm=>by
  have hm':b∈s.heap.objs.size::frs outer:=hm
  rcases List.mem_cons.mp hm' with z | z
  ·rw [z] at hb;exact Nat.lt_irrefl _ (Heap.lt_size hb)
  ·exact hn z
 have cov:∀ b o,s.heap.get? b=some o->b∉frs outer->∃ o',B.get? b=some o':=fun b o hb hn=>c1 b o hb (hfn b o hb hn) (by intro z;cases z)
 exact ⟨e,C,B,H',rfl,I'.os,I'.bare,x',un_stay I'.base x.st x'.st (fun b _ o=>up b o) (fun b hb=>by
   obtain ⟨_,o,ho,nd⟩:=x.fr.mem (List.mem_cons_of_mem _ hb:b∈s.heap.objs.size::frs outer)
   exact ⟨o,ho,nd⟩) (fun b o hb hf _=>cov b o hb hf),hok_stay I'.hok x.st x'.st c2,cov,c2,hS,hE⟩
end
section
variable {X:Cx} {pins:List (Addr×Obj)} {σ:L2.St} {H H':Hp} {s s':Shared} {e C:Addr} {B h':Heap}
theorem cell_nf (I:L2.Inv X pins σ H s) (hfn:∀ x,X.fn x=true):∀ x c,X.env.cells.lookup x=some c->c∉frs X.stack:=fun x c hc hm=>by
 rcases List.mem_cons.mp (I.stkSub c hm) with z | z
 ·obtain ⟨v,o,ho,hd⟩:=I.cell x c hc
  obtain ⟨m,⟨o',es,ep,ho',hd',_⟩,_⟩:=I.loc
  rw [z,ho'] at ho
  cases ho
  rw [hd'] at hd
  cases hd
 ·obtain ⟨_,o,ho,_⟩:=I.ok.funs.mem z
  exact absurd (Nat.lt_of_lt_of_le (Heap.lt_size ho) (I.ok.cab x c (hfn x) hc)) (Nat.lt_irrefl _)
theorem inv_stay (I:L2.Inv X pins σ H s) (st:B.StaysIn s.heap) (st':B.StaysIn h') (up:∀ b∈X.env.locals::X.fs,∀ o,s.heap.get? b=some o->(∀ ws,o.data≠.fields ws)->∃ sl,h'.get? b=some {o with slots:=sl})
  (ent:∀ b o,X.s₀.heap.get? b=some o->b∉X.fs->b∉X.ex->∃ o',B.get? b=some o') (hld:∀ b u,H b=some u->∃ o',B.get? b=some o') (pin:∀ p∈X.pn++pins,∃ o',B.get? p.1=some o')
  (cel:∀ x c,X.env.cells.lookup x=some c->∃ o',B.get? c=some o'):L2.Inv X pins σ H {s with heap:=h' }:=by
 have same:∀ b o,(∃ o',B.get? b=some o')->s.heap.get? b=some o->h'.get? b=some o:=fun b o ⟨o',e'⟩ hb=>by
  have:=st b o' e'
  rw [hb] at this
  cases this
  exact st' b o e'
 have nsL:∀ m,s.heap.Ns X.env.locals m->h'.Ns X.env.locals m:=fun m hm=>by
  obtain ⟨o,es,ep,ho,hd,r⟩:=hm
  obtain ⟨sl,hs⟩:=up _ List.mem_cons_self o ho fun ws q=>by rw [hd] at q;cases q
  exact ⟨_,es,ep,hs,hd,r⟩
 have cellK:∀ x c v,X.env.cells.lookup x=some c->s.heap.IsCell c v->h'.IsCell c v:=fun x c v hc ⟨o,ho,hd⟩=>⟨o,same c o (cel x c hc) ho,hd⟩
 obtain ⟨m,hm,hl⟩:=I.loc
 refine ⟨I.ok,I.os,I.bare,un_stay I.base st st' (fun b hb o=>up b (List.mem_cons_of_mem _ hb) o) (fun b hb=>?_) ent,⟨m,nsL m hm,fun i x v h1 h2 h3=>?_⟩,fun x c hc=>?_,I.free,I.freeC,fun p hp=>?_,hok_stay I.hok st st' hld,I.len⟩
 ·obtain ⟨_,o,ho,nd⟩:=I.ok.funs.mem hb
  have hn:=I.ok.frf b hb
  by_cases hx:b∈X.ex
  ·exact absurd hb (I.ok.exfs b hx)
  ·obtain ⟨sl,e1⟩:=I.base.any ho hn hx
   exact ⟨_,e1,nd⟩
 ·obtain ⟨u,r,lk⟩:=hl i x v h1 h2 h3
  refine ⟨u,r,?_⟩
  rcases lk with q | ⟨k,c,hc,z⟩
  ·exact .inl q
  ·exact .inr ⟨k,c,hc,cellK x c _ hc z⟩
 ·obtain ⟨v,z⟩:=I.cell x c hc
  exact ⟨v,cellK x c v hc z⟩
 ·obtain ⟨e1,e2,e3,e4,e5⟩:=I.pin p hp
  exact ⟨same _ _ (pin p hp) e1,e2,e3,e4,e5⟩
end
end HW
namespace HW
open PySem PySem.Spec PyProof.Rows L2
abbrev VE:List Value:=[.type "ValueError",.type "Exception",.type "BaseException",.type "object"]
def qnm:List Str:=["__init__","__getattribute__","__getattr__","__class__"]
def ClsX (K:PySem.W.Frag) (C:Addr) (bm:List Value) (newId:String):Prop :=
 ∃ N nm q bs hdct sn sub ab col dd k0 k1 k2 k3 k5 mN,(∀ n∈qnm,mN n=none)/\∀ h,K.In h->h.get? C=some (excClassObj nm q C N bs bm hdct sn sub ab col dd k0 k1 k2 k3 k5 newId)/\h.Ns N mN
structure Two (K:PySem.W.Frag) (C W:Addr) (newId nW:String):Prop where
 own:ClsX K C (.ref W::VE) newId
 base:ClsX K W VE nW
theorem Two.tail {K:PySem.W.Frag} {C W:Addr} {newId nW:String} (T:Two K C W newId nW) {h:Heap} (x:K.In h):OwnTail h VE (.ref W::VE):=by
 obtain ⟨N,nm,q,bs,hdct,sn,sub,ab,col,dd,k0,k1,k2,k3,k5,mN,hq,hh⟩:=T.base
 exact .own (hh h x).1 (hh h x).2 (hq _ (.head _)) .base
def XM (X:Cx) (C:Addr) (H':Hp):Prop:=∀ pins σ s e h' vs,L2.Inv X pins σ H' s->Heap.MadeExcOf s.heap h' e (.ref C) vs->X.xe (.ref e) {s with heap:=h' }
def XT (X:Cx) (C:Addr) (H':Hp):Prop:=XW X C H'/\XM X C H'
theorem objOk_there {P:Program} {w:World} {H:Hp} {h:Heap} {a:Addr} {o:HO} (x:ObjOk P w H h a o):∃ ob,h.get? a=some ob:=by
 cases o with
 | lst xs=>obtain ⟨_,_,_,_,e⟩:=x;exact ⟨_,e⟩
 | tup xs=>obtain ⟨_,_,_,p⟩:=x;obtain ⟨o,e,_⟩:=p;exact ⟨_,e⟩
 | dK kvs=>obtain ⟨_,_,_,_,o,_,_,e,_⟩:=x;exact ⟨_,e⟩
 | dT kvs=>obtain ⟨_,_,_,_,o,_,_,e,_⟩:=x;exact ⟨_,e⟩
 | set S n=>obtain ⟨o,_,_,_,e,_⟩:=x;exact ⟨_,e⟩
 | ins C dx fs=>obtain ⟨_,_,_,e,_⟩:=x;exact ⟨_,e⟩
 | own y=>obtain ⟨_,e⟩:=x;exact ⟨_,e⟩
 | xd fs=>obtain ⟨_,⟨_,_,_,e,_⟩,_⟩:=x;exact ⟨_,e⟩
 | rng lo hi=>obtain ⟨_,_,_,e⟩:=x;exact ⟨_,e⟩
 | frz ob u=>obtain ⟨e,_⟩:=x;exact ⟨_,e⟩
 | tbl q c =>
  cases c with
  | true=>obtain ⟨_,o,_,_,e,g,_⟩:=(show h.CodeRec (.ref a) q from x);cases e;exact ⟨_,g⟩
  | false=>obtain ⟨_,e,_⟩:=x;exact ⟨_,e⟩
 | met f y=>exact ⟨_,(show h.get? a=some _ from x)⟩
 | ext φ=>obtain ⟨_,⟨_,e⟩,_⟩:=x;exact ⟨_,e⟩
section
variable {P:Program} {w:World} {K:PySem.W.Frag} {mg:Str->Option Value} {base:Heap} {N:List Str} {qual:Str} {scope:Scope} {f:Addr} {cd:Value} {A:Around} {outer:List Env} {s:Shared} {H H':Hp} {E:XK} {C:Addr}
theorem xm_def (hE:E (.ref C) none H') (hS:Same H H'):XM (cxOf (CXe P w) P w K mg base N qual scope f cd A outer s H E) C H':=fun pins σ s1 e h1 vs I hm=>by
 show wpAny (model P w) (A.deeper (envOfC qual scope s.heap.objs.size f cd)) (leaving (envOfC qual scope s.heap.objs.size f cd) (.ref e)) (fun _ s''=>CXe P w outer H s E (.ref e) s'') (fun e' s''=>CXe P w outer H s E e' s'') {s1 with heap:=h1}
 generalize hl:frs (envOfC qual scope s.heap.objs.size f cd::outer)=l
 have hin:∀ env∈(envOfC qual scope s.heap.objs.size f cd::outer),∀ b,env.frame=some b->b∈l:=fun env he b hb=>by rw [<- hl];exact List.mem_filterMap.mpr ⟨env,he,hb⟩
 have stB:(PySem.W.hideAll s1.heap l).StaysIn s1.heap:=fun b o q=>PySem.W.of_hideAll _ q
 refine wpAny_leaves_madeW (s:={s1 with heap:=h1}) (base:=PySem.W.hideAll s1.heap l) (h:=s1.heap) I.ok.frames rfl stB (PySem.W.funFrames_hide I.stack hin) hm fun h' t fl _ _ up=>?_
 obtain ⟨f1,f2,f3,f4⟩:=fl
 have cov:∀ b o,s.heap.get? b=some o->b∉frs outer->∃ o',(PySem.W.hideAll s1.heap l).get? b=some o':=fun b o hb hn=>by
  obtain ⟨o1,e1⟩:=I.base.there b o hb (by intro z;cases z)
  refine ⟨o1,PySem.W.hideAll_get _ e1 fun z=>?_⟩
  rw [<- hl] at z
  have z':b∈s.heap.objs.size::frs outer:=z
  rcases List.mem_cons.mp z' with q | q
  ·rw [q] at hb;exact Nat.lt_irrefl _ (Heap.lt_size hb)
  ·exact hn q
 have c2:∀ b u,H' b=some u->∃ o',(PySem.W.hideAll s1.heap l).get? b=some o':=fun b u hb=>by
  obtain ⟨ob,e1⟩:=objOk_there (I.hok b u hb)
  refine ⟨ob,PySem.W.hideAll_get _ e1 fun z=>?_⟩
  rw [<- hl] at z
  rw [I.stkFree b z] at hb
  cases hb
 exact ⟨e,C,_,H',rfl,I.os,I.bare,⟨f1,f2,f3,_,_,f4.at⟩,un_stay I.base stB f1 (fun b _ o=>(Heap.UpToSlots.of_keeps hm.keeps).trans up b o) (fun b hb=>by
   obtain ⟨_,o,ho,nd⟩:=I.stack.mem (List.mem_cons_of_mem _ hb:b∈s.heap.objs.size::frs outer)
   exact ⟨o,ho,nd⟩) (fun b o hb hf _=>cov b o hb hf),hok_stay I.hok stB f1 c2,cov,c2,hS,hE⟩
theorem xt_def (hE:E (.ref C) none H') (hS:Same H H'):XT (cxOf (CXe P w) P w K mg base N qual scope f cd A outer s H E) C H':=⟨xw_def hE hS,xm_def hE hS⟩
end
section
variable (cl:Nat->Addr)
def tX (X:Cx) (f:XD):TE:=fun σ H Q=>∃ ρ r,EnvR X.K H ρ σ/\f ρ=some r/\match r with
 | .ok d=>∀ v H',Same H H'->Rep X.K H' d v->Q v H'
 | .error c=>∀ H',Same H H'->XW X (cl c) H'
def tXA (X:Cx) (f:XL):TA:=fun σ H Q=>∃ ρ r,EnvR X.K H ρ σ/\f ρ=some r/\match r with
 | .ok ds=>∀ vs H',Same H H'->Reps X.K H' ds vs->Q vs H'
 | .error c=>∀ H',Same H H'->XW X (cl c) H'
def tXS (X:Cx) (g:XO):TS:=fun E σ H=>∃ ρ τ r,EnvT X.K H ρ τ σ/\g ρ=some r/\match r with
 | .ok o=>∀ H',Same H H'->fin X.K E τ o H'
 | .error c=>∀ H',Same H H'->XT X (cl c) H'
def spX (K:PySem.W.Frag) (F:List D->Option (Except Nat D)):Sp:=fun vs H Q E=>∃ ds r,Reps K H ds vs/\F ds=some r/\match r with
 | .ok d=>∀ v H',Same H H'->Rep K H' d v->Q v H'
 | .error c=>∀ H',Same H H'->E (.ref (cl c)) none H'
def SX (X:Cx) (e:Expr) (f:XD):Prop:=PE X e (tX cl X f)
def SXA (X:Cx) (es:List Expr) (f:XL):Prop:=PA X es (tXA cl X f)/\(∀ ρ ds,f ρ=some (.ok ds)->ds.length=es.length)/\es.all noStar=true
def SX1 (X:Cx) (s:Stmt) (g:XO):Prop:=PS X s (tXS cl X g)
def SXS (X:Cx) (s:List Stmt) (g:XO):Prop:=PSs X s (tXS cl X g)
end
section
variable {X:Cx} {cl:Nat->Addr} {e:Expr} {es:List Expr} {st:Stmt} {sts:List Stmt} {pos p:Pos} {f:R->Option D} {fx:XD} {g:XO} {u:R->Option Out}
theorem xe_of (h:SE X e f):SX cl X e (xOf f):=PE.imp h fun σ H Q ⟨ρ,r,er,e1,q⟩=>by
 obtain ⟨d,e2,e3⟩:=mapS e1
 subst e3
 exact ⟨ρ,d,er,e2,q⟩
theorem xa_nil:SXA cl X [] xArgN:=⟨PA.imp ad.1 fun σ H Q ⟨ρ,r,er,e1,q⟩=>by cases e1;exact ⟨ρ,[],er,rfl,q⟩,fun ρ ds h=>by cases h;rfl,rfl⟩
theorem xa_cons {gx:XL} (h1:SX cl X e fx) (h2:SXA cl X es gx) (hst:noStar e=true:=by rfl):SXA cl X (e::es) (xArgC fx gx):=by
 refine ⟨(eR h1 h2.1 (ay es X.env hst)).imp fun σ H Q ⟨ρ,r,er,e1,q⟩=>?_,fun ρ ds h=>?_,by rw [List.all_cons,hst,h2.2.2];rfl⟩
 ·obtain ⟨r1,e2,e3⟩:=bindS e1
  refine ⟨ρ,r1,er,e2,?_⟩
  cases r1 with
  | error c =>
   cases e3
   exact q
  | ok d =>
   obtain ⟨r2,e4,e5⟩:=mapS e3
   refine fun v H1 s1 rv=>⟨ρ,r2,er.mono s1,e4,?_⟩
   cases r2 with
   | error c=>subst e5;exact fun H2 s2=>q H2 (s1.trans s2)
   | ok ds=>subst e5;exact fun vs H2 s2 rs=>q (v::vs) H2 (s1.trans s2) ⟨v,vs,rfl,rv.mono s2,rs⟩
 ·obtain ⟨r1,e2,e3⟩:=bindS h
  cases r1 with
  | error c=>cases e3
  | ok d =>
   obtain ⟨r2,e4,e5⟩:=mapS e3
   cases r2 with
   | error c=>cases e5
   | ok ds' =>
    cases e5
    rw [List.length_cons,List.length_cons,h2.2.1 ρ ds' e4]
theorem xe_tup {k} {gx:XL} (h:SXA cl X es gx) (hl:Nat.ble es.length 1000=true:=by rfl):SX cl X (.Tuple es k pos) (xTup gx):=by
 refine (mm h.1).imp fun σ H Q ⟨ρ,r,er,e1,q⟩=>?_
 obtain ⟨r1,e2,e3⟩:=mapS e1
 refine ⟨ρ,r1,er,e2,?_⟩
 cases r1 with
 | error c=>subst e3;exact q
 | ok ds =>
  subst e3
  refine fun vs H1 s1 rs=>⟨?_,fun a ha=>?_⟩
  ·rw [<- rs.length,h.2.1 ρ ds e2];exact Nat.le_of_lt (small1000 (Nat.le_of_ble_eq_true hl))
  ·have s2:=bt ha (.tup vs)
   exact q _ _ (s1.trans s2) ⟨a,vs,rfl,SqT.of ar,rs.mono s2⟩
theorem xe_fnT {x:Str} {T:String} {G:List D->Option D} {gx:XL} (hc:CaD X (.type T) G) (hm:X.mg x=none) (ha:SXA cl X (e::es) gx) (hv:bootBuiltins x=some (.type T):=by kernel_rfl) (hg:Gl X x:=by rfl) (hn:x ≠ "__name__":=by decide) (hdb:(x==("__debug__" : Str))=false:=by decide) :
  SX cl X (.Call (.Name x p) (e::es) [] pos) (xFn G gx):=by
 have hst:=ha.2.2
 rw [List.all_cons,Bool.and_eq_true] at hst
 refine PE.imp (gU hc hg hm hv ha.1 hn hdb (ay es X.env hst.1) (bS hst.2)) fun σ H Q ⟨ρ,r,er,e1,q⟩=>?_
 obtain ⟨r1,e2,e3⟩:=bindS e1
 refine ⟨ρ,r1,er,e2,?_⟩
 cases r1 with
 | error c=>cases e3;exact q
 | ok ds =>
  obtain ⟨d,e4,e5⟩:=mapS e3
  subst e5
  exact fun vs H1 s1 rs=>⟨ds,d,rs,e4,fun v H2 s2 rv=>q v H2 (s1.trans s2) rv⟩
structure CalX (P:Program) (w:World) (K:PySem.W.Frag) (mg:Str->Option Value) (base:Heap) (cl:Nat->Addr) (k:Nat) (x:Str) (ps:List Str) (F:List D->Option (Except Nat D)):Prop where
 ex:∃ f fd,FnOk P w K mg base (CXe P w) k f fd ps (spX cl K F)/\mg x=some (.ref f)/\PySem.W.keepIn K (.ref f)=true/\Binds K fd ps []
theorem CalX.mono {P:Program} {w:World} {K:PySem.W.Frag} {mg:Str->Option Value} {base:Heap} {j k:Nat} {x:Str} {ps:List Str} {F:List D->Option (Except Nat D)} (h:CalX P w K mg base cl j x ps F) (hk:j<=k):CalX P w K mg base cl k x ps F:=by
 obtain ⟨f,fd,a,b⟩:=h.ex
 exact ⟨f,fd,a.mono hk,b⟩
theorem CalX.m {P:Program} {w:World} {K:PySem.W.Frag} {mg:Str->Option Value} {base:Heap} {j k:Nat} {x:Str} {ps:List Str} {F:List D->Option (Except Nat D)} (h:CalX P w K mg base cl j x ps F) (hk:j<=k:=by decide):CalX P w K mg base cl k x ps F:=h.mono hk
theorem xe_call {k:Nat} {x:Str} {ps:List Str} {G:List D->Option (Except Nat D)} {F:R->Option (List D)} (C:CalX X.prog X.w X.K X.mg X.base cl k x ps G) (hr:Room k X.A) (ha:SA X (e::es) F) (hg:Gl X x:=by rfl) (hd:(x==("__debug__" : Str))=false:=by decide) :
  SX cl X (.Call (.Name x p) (e::es) [] pos) (xCall G F):=by
 obtain ⟨f,fd,a,m,kp,bd⟩:=C.ex
 have hst:=ha.2.2
 rw [List.all_cons,Bool.and_eq_true] at hst
 refine PE.imp (lb a hr hg m kp bd .nil passE ha.1 hd (ay es X.env hst.1) (bS hst.2)) fun σ H Q ⟨ρ,r,er,e1,q⟩=>?_
 obtain ⟨ds,e2,e3⟩:=bindS e1
 refine ⟨ρ,ds,er,e2,fun vs H1 s1 rs=>?_⟩
 show spX cl X.K G (vs++[]) H1 Q (EX X)
 rw [List.append_nil]
 refine ⟨ds,r,rs,e3,?_⟩
 cases r with
 | ok d=>exact fun v H2 s2 rv=>q v H2 (s1.trans s2) rv
 | error c=>exact fun H2 s2=>⟨_,rfl,q H2 (s1.trans s2)⟩
theorem sy_of (h:S1 X st u):SX1 cl X st (xPure u):=PS.imp h fun E σ H ⟨ρ,τ,r,er,e1,q⟩=>by
 obtain ⟨o,e2,e3⟩:=mapS e1
 subst e3
 exact ⟨ρ,τ,o,er,e2,q⟩
theorem sy_ofN (h:S1 X.nox st u):SX1 cl X st (xPure u):=sy_of fun pins s σ H D I hw=>wpAny_mono (h pins s σ H D ⟨⟨I.ok.mod,I.ok.kind,I.ok.glob,I.ok.blt,I.ok.above,I.ok.inj,I.ok.has,I.ok.cab,I.ok.hd,I.ok.frames,I.ok.stk,I.ok.exf,I.ok.bs,I.ok.bsz,I.ok.noex,I.ok.exfs,I.ok.funs,I.ok.frf⟩,I.os,I.bare,I.base,I.loc,I.cell,I.free,I.freeC,I.pin,I.hok,I.len⟩ hw) (fun fl s' hs=>by
  cases fl with
  | next=>obtain ⟨σ',H',J,q⟩:=hs;exact ⟨σ',H',⟨⟨J.ok.mod,J.ok.kind,J.ok.glob,J.ok.blt,J.ok.above,J.ok.inj,J.ok.has,J.ok.cab,J.ok.hd,J.ok.frames,J.ok.stk,J.ok.exf,J.ok.bs,J.ok.bsz,J.ok.noex,J.ok.exfs,J.ok.funs,J.ok.frf⟩,J.os,J.bare,J.base,J.loc,J.cell,J.free,J.freeC,J.pin,J.hok,J.len⟩,q⟩
  | brk=>obtain ⟨σ',H',J,q⟩:=hs;exact ⟨σ',H',⟨⟨J.ok.mod,J.ok.kind,J.ok.glob,J.ok.blt,J.ok.above,J.ok.inj,J.ok.has,J.ok.cab,J.ok.hd,J.ok.frames,J.ok.stk,J.ok.exf,J.ok.bs,J.ok.bsz,J.ok.noex,J.ok.exfs,J.ok.funs,J.ok.frf⟩,J.os,J.bare,J.base,J.loc,J.cell,J.free,J.freeC,J.pin,J.hok,J.len⟩,q⟩
  | cont=>obtain ⟨σ',H',J,q⟩:=hs;exact ⟨σ',H',⟨⟨J.ok.mod,J.ok.kind,J.ok.glob,J.ok.blt,J.ok.above,J.ok.inj,J.ok.has,J.ok.cab,J.ok.hd,J.ok.frames,J.ok.stk,J.ok.exf,J.ok.bs,J.ok.bsz,J.ok.noex,J.ok.exfs,J.ok.funs,J.ok.frf⟩,J.os,J.bare,J.base,J.loc,J.cell,J.free,J.freeC,J.pin,J.hok,J.len⟩,q⟩
  | ret u=>obtain ⟨v,σ',H',J,q⟩:=hs;exact ⟨v,σ',H',⟨⟨J.ok.mod,J.ok.kind,J.ok.glob,J.ok.blt,J.ok.above,J.ok.inj,J.ok.has,J.ok.cab,J.ok.hd,J.ok.frames,J.ok.stk,J.ok.exf,J.ok.bs,J.ok.bsz,J.ok.noex,J.ok.exfs,J.ok.funs,J.ok.frf⟩,J.os,J.bare,J.base,J.loc,J.cell,J.free,J.freeC,J.pin,J.hok,J.len⟩,q⟩) fun _ _ z=>z.elim
theorem sys_one (h:SX1 cl X st g):SXS cl X [st] g:=fg h
theorem sys_cons {q:XO} (h1:SX1 cl X st g) (h2:SXS cl X sts q):SXS cl X (st::sts) (xSeq g q):=(fk h1 h2).imp fun E σ H ⟨ρ,τ,r,er,e1,qq⟩=>by
 obtain ⟨r1,e2,e3⟩:=bindS e1
 refine ⟨ρ,τ,r1,er,e2,?_⟩
 cases r1 with
 | error c=>cases e3;exact qq
 | ok o =>
  cases o with
  | nx ρ2 =>
   refine fun H1 s1 σ2 er2=>⟨ρ2,τ,r,er2,e3,?_⟩
   cases r with
   | ok o=>exact fun H2 s2=>qq H2 (s1.trans s2)
   | error c=>exact fun H2 s2=>qq H2 (s1.trans s2)
  | rt d=>cases e3;exact qq
  | bk ρ2=>cases e3;exact qq
  | ct ρ2=>cases e3;exact qq
theorem sy_if {c:Expr} {cf:R->Option Bool} {B1 B2:List Stmt} {q:XO} (hc:ST X c cf) (ha:SXS cl X B1 g) (hb:SXS cl X B2 q):SX1 cl X (.If c B1 B2 pos) (xIf cf g q):=(nr hc ha hb).imp fun E σ H ⟨ρ,τ,r,er,e1,qq⟩=>by
 obtain ⟨b,e2,e3⟩:=bindS e1
 refine ⟨ρ,b,er.1,e2,fun H1 s1=>?_⟩
 cases b with
 | true =>
  rw [if_pos rfl] at e3 ⊢
  refine ⟨ρ,τ,r,er.mono s1,e3,?_⟩
  cases r with
  | ok o=>exact fun H2 s2=>qq H2 (s1.trans s2)
  | error c=>exact fun H2 s2=>qq H2 (s1.trans s2)
 | false =>
  rw [if_neg Bool.false_ne_true] at e3 ⊢
  refine ⟨ρ,τ,r,er.mono s1,e3,?_⟩
  cases r with
  | ok o=>exact fun H2 s2=>qq H2 (s1.trans s2)
  | error c=>exact fun H2 s2=>qq H2 (s1.trans s2)
theorem sys_nil:SXS cl X [] (xPure nextD):=pss_nil.imp fun E σ H ⟨ρ,τ,r,er,e1,qq⟩=>by
 cases e1
 exact qq H (Same.refl H) σ er
theorem sy_ret (ha:SX cl X e fx):SX1 cl X (.Return (some e) pos) (xRet fx):=(md ha).imp fun E σ H ⟨ρ,τ,r,er,e1,q⟩=>by
 obtain ⟨r1,e2,e3⟩:=mapS e1
 refine ⟨ρ,r1,er.1,e2,?_⟩
 cases r1 with
 | error c=>subst e3;exact fun H1 s1=>(q H1 s1).1
 | ok d=>subst e3;exact fun v H1 s1 rv=>q H1 s1 v rv
theorem sy_asg {tg:Expr} {stf:D->R->Option R} (ha:SX cl X e fx) (hg:SG X tg stf) (hs:swapsWithSole [tg] e pos.line X.env=pure false:=by rfl) (hw:swappedStores [tg] e X.env=pure none:=by rfl) (h1:(assignEach [tg] X.env).map (·.2)=[assign tg X.env]:=by rfl) :
  SX1 cl X (.Assign [tg] e pos) (xAsg fx stf):=(kB ha hg hs hw h1).imp fun E σ H ⟨ρ,τ,r,er,e1,q⟩=>by
 obtain ⟨r1,e2,e3⟩:=bindS e1
 refine ⟨ρ,r1,er.1,e2,?_⟩
 cases r1 with
 | error c=>cases e3;exact fun H1 s1=>(q H1 s1).1
 | ok d =>
  obtain ⟨ρ',e4,e5⟩:=mapS e3
  subst e5
  exact fun v H1 s1 rv=>⟨ρ,τ,d,ρ',er.mono s1,rv,e4,fun σ2 H2 s2 er2=>q H2 (s1.trans s2) σ2 er2⟩
theorem sy_raise {c:Nat} {x:Str} {W:Addr} {newId nW Bn inN:String} {bmN:List Value} {np cpos:Pos} (T:Two X.K (cl c) W newId nW) (Fn:ExcBaseFacts Bn newId inN bmN) (hBn:VE.contains (.type Bn)=true) (hc:X.calm=true) (hm:X.mg x=some (.ref (cl c))) (ha:SE X e f)
  (hg:Gl X x:=by rfl) (hd:(x==("__debug__" : Str))=false:=by decide) (hst:noStar e=true:=by rfl):SX1 cl X (.Raise (some (.Call (.Name x np) [e] [] cpos)) none pos) (xRaise c f):=by
 intro pins s σ H D I ⟨ρ,τ,r,er,e1,q⟩
 obtain ⟨d,e2,e3⟩:=mapS e1
 subst e3
 obtain ⟨N,nm,qq,bs,hdct,sn,sub,ab,col,dd,k0,k1,k2,k3,k5,mN,hq,hh⟩:=T.own
 have tl:=T.tail I.kIn
 have hst1:=ay [] X.env hst
 refine wpAny_Raise_call_subU (C:=cl c) (nm:=nm) (q:=qq) (N:=N) (bs:=bs) (bm:=.ref W::VE) (hdct:=hdct) (sn:=sn) (sub:=sub) (ab:=ab) (col:=col) (dd:=dd) (k0:=k0) (k1:=k1) (k2:=k2) (k3:=k3) (k5:=k5) (newId:=newId) (bmB:=VE)
  Fn hBn F.excBase_ValueError (mN:=mN) (tl.hasType F.excBase_ValueError.hasBase) (I.ok.hd hc) (by rw [hst1];rfl) (hq _ (.head _)) (eh I hg hm ⟨rfl,?_⟩ hd)
 have hA:=(aa ha ad hst).1 cpos pins s σ H (fun vs H2=>Same H H2/\Reps X.K H2 [d] vs) I ⟨ρ,[d],er.1,by show (f ρ).bind _=_;rw [e2];rfl,fun vs H2 s2 r2=>⟨s2,r2⟩⟩
 rw [hst1] at hA ⊢
 refine Calls.evalArgs_plain (thn hA fun us s2 ⟨vs,H2,I2,r2,s12,rd⟩=>?_)
 have x2:=I2.kIn
 refine ⟨rfl,?_,(hh _ x2).1,(hh _ x2).2,T.tail x2,fun h' e' hme=>(q H2 s12).2 pins σ s2 e' h' us I2 hme⟩
 ·show us.length<=sizeLine
  rw [<- r2.length,<- rd.length]
  exact Nat.le_trans (show 1<=1000 by decide) (by decide)
end
end HW
namespace HW
open PySem PySem.Spec PyProof.Rows L2
theorem compLoop_anyX {prog:Program} {w:World} {A:Around} {R':Result->Shared->Prop} {s:Shared} {elt target iter:Expr} {ifs:List Expr} {scope:Scope} {pos:Pos} {it acc:Value} {env:Env} (I:Nat->Shared->Prop)
    (turn:∀ n s,I n s->wpAny (model prog w) A (pyNext it) (fun r s₁=>match r with
      | none=>R' (.ok .next) s₁
      | some v=>wpAny (model prog w) A (letOwnedTupleGo target it v) (fun _ s₁'=>wpAny (model prog w) A (assign target env v) (fun _ s₂ =>
          wpAny (model prog w) A (forIn ifs true fun c r=>if r=true then do let ok <- isTrue c env (eval c env);pure (ForInStep.yield ok) else pure (ForInStep.yield r)) (fun ok s₃ =>
            if ok=true then wpAny (model prog w) A (eval elt env) (fun x s₄ =>
              wpAny (model prog w) A (call (.builtin "list.append") [acc,x]) (fun _ s₅=>∃ m,m<n/\I m s₅) (fun _ _=>False) s₄) (notedBy (model prog w) A env fun x s''=>R' (.error x) s'') s₃
            else ∃ m,m<n/\I m s₃) (fun _ _=>False) s₂) (fun _ _=>False) s₁') (fun _ _=>False) s₁) (fun _ _=>False) s)
    (n:Nat) (h:I n s):codeAny (model prog w) A (.compLoop (.ListComp elt [⟨target,iter,ifs,0⟩] scope pos) 0 it acc env) R' s:=by
  refine codeAny_loop rfl I (fun n s hI=>?_) n h
  show wpAny _ A ((compTurn (.ListComp elt [⟨target,iter,ifs,0⟩] scope pos) 0 it acc env).onRaise (fun x=>do noteFrame x env;theTreesLotGoes x)) _ _ s
  refine wpAny_noted ?_
  rw [compTurn_list]
  have ff:∀ {E:Value->Shared->Prop} (a:Value) (s:Shared),False->E a s:=fun _ _ z=>z.elim
  refine wpAny_bind (wpAny_standAt (wpAny_bind (wpAny_mono (turn n s hI) (fun r s₁ h₁=>?_) ff)))
  cases r with
  | none=>exact wpAny_pure h₁
  | some v =>
    refine wpAny_bind (wpAny_mono h₁ (fun _ s₁' h₁'=>?_) ff)
    refine wpAny_bind (wpAny_mono h₁' (fun _ s₂ h₂=>wpAny_bind (wpAny_mono h₂ (fun ok s₃ h₃=>?_) ff)) ff)
    cases ok with
    | false=>exact wpAny_pure ⟨rfl,h₃⟩
    | true =>
      exact wpAny_bind (wpAny_bind (wpAny_mono h₃ (fun x s₄ h₄=>wpAny_bind (wpAny_mono h₄ (fun _ s₅ h₅=>wpAny_pure (wpAny_pure ⟨rfl,h₅⟩)) ff)) fun _ _ z=>z))
def WC (X Xc:Cx):Value->Shared->Prop:=fun ev s'=>∃ e C' H',ev=.ref e/\XIn Xc e C' H' s'/\XW X C' H'
abbrev cxCx (X:Cx) (T:List Str) (scope:Scope) (C:Addr) (fp:List Addr) (s₃:Shared) (H₃:Hp):Cx:=(cxC X T scope C fp s₃ H₃).wish (WC X (cxC X T scope C fp s₃ H₃))
def addX (done:List D):Except Nat (List D)->Except Nat (List D)
 | .error c=>.error c
 | .ok ys=>.ok (done++ys)
theorem addX_nil (r:Except Nat (List D)):addX [] r=r:=by cases r<;>rfl
theorem addX_cons (done:List D) (y:D) (r:Except Nat (List D)):addX done (match r with | .error c=>.error c | .ok ys=>.ok (y::ys))=addX (done++[y]) r:=by
 cases r with
 | error c=>rfl
 | ok ys=>show Except.ok (done++y::ys)=Except.ok ((done++[y])++ys);rw [List.append_assoc];rfl
theorem xw_comp {X:Cx} {T:List Str} {scope:Scope} {C:Addr} {fp:List Addr} {s₃:Shared} {H₃ H':Hp} {C':Addr} (h:XW X C' H'):XW (cxCx X T scope C fp s₃ H₃) C' H':=fun e s' ⟨pins,σ,B,x⟩ =>
 ⟨e,C',H',rfl,⟨pins,σ,B,x.inv.unwish,x.ent,x.hld,x.loc,x.pin,x.exc⟩,h⟩
section
variable {X:Cx} {pins:List (Addr×Obj)} {σ:L2.St} {H:Hp} {s:Shared} {T:List Str} {scope:Scope} {cl:Nat->Addr}
theorem gR {elt iter tg:Expr} {pos:Pos} {it:Addr} {fp:List Addr} {tn:Nat->Heap->Prop} {J:It} {E:Value->Shared->Prop} {ρ:R} {ds:List D} {out:Except Nat (List D)} {stf:D->R->Option R} {ef:XD}
  (I:L2.Inv X pins σ H s) (hc:X.calm=true) (Tn:Turn X.prog X.w X.K tg J fp it tn) (st:tn 0 s.heap) (hf:∀ b∈fp,FpOk X pins H b)
  (ck:CompOk scope X.env.scope T X.N) (hnd:(T++X.N).Nodup) (hst:Front T.length stf) (er:EnvR X.K H ρ σ) (y:Yields X.K J ds H) (hz:ds.length<=sizeLine) (hout:compX stf ef ds (List.replicate T.length none++ρ)=some out) (hXW:∀ c,out=.error c->∀ H',Same H H'->XW X (cl c) H')
  (hg:∀ C s₃ H₃ fp,TbS X H₃->SG (cxC X T scope C fp s₃ H₃) tg stf) (he:∀ C s₃ H₃ fp,TbS X H₃->SX cl (cxCx X T scope C fp s₃ H₃) elt ef)
  {RR:Value->Addr->Result->Shared->Prop}
  (hRR:∀ (a C:Addr) (H':Hp) (s':Shared) (vs:List V) (ys:List D),out=.ok ys->Same H H'->H' a=some (.lst vs)->Reps X.K H' ys vs->L2.Inv X pins σ H' s'->FpOk X pins H' C->(∃ m,s'.heap.Ns C m)->RR (.ref a) C (.ok .next) s')
  (hRE:∀ (a C:Addr) (ev:Value) (s':Shared),s.heap.objs.size<=C->WC X (cxC X T scope C fp s H) ev s'->notedBy (model X.prog X.w) X.A (compEnvC scope (clOf scope.names X.env.cells []) C X.env) (fun x s''=>RR (.ref a) C (.error x) s'') ev s') :
  wpAny (model X.prog X.w) X.A (newList []) (fun acc s₃=>wpAny (model X.prog X.w) X.A (newFunctionEnv scope X.env.globals (clOf scope.names X.env.cells []) [] X.env.qual none .none (some X.env)) (fun cenv s₄ =>
   codeAny (model X.prog X.w) X.A (.compStart (.ListComp elt [⟨tg,iter,[],0⟩] scope pos) 0 (.ref it) acc {cenv with scope:=relabel scope X.env}) (RR acc cenv.locals) s₄) E s₃) E s:=by
 refine wpAny_newObj_type (wpAny_newFunctionEnv ck.nocell (by intro y hy;simp at hy) (fun h₁ hns₁ hsb₁=>?_) ck.kind)
 dsimp only at hns₁ hsb₁ ⊢
 generalize hH2:s.heap.push {cls:=.type "list",dict:=none,data:=.seq ([]:List Value).toArray}=H2 at hns₁ hsb₁ ⊢
 generalize ha:s.heap.objs.size=a at *
 generalize hCe:H2.objs.size=C at hns₁ hsb₁ ⊢
 have hC:C=a+1:=by rw [<- hCe,<- hH2,Heap.size_push,ha]
 have haC':a<C:=by rw [hC];exact Nat.lt_succ_self a
 have haC:a≠C:=Nat.ne_of_lt haC'
 have hle:s.heap.objs.size<=a:=Nat.le_of_eq ha
 have hCle:s.heap.objs.size<=C:=Nat.le_trans hle (Nat.le_of_lt haC')
 have hlta:∀ {b:Addr} {o:Obj},s.heap.get? b=some o->b<a:=fun e=>Nat.lt_of_lt_of_le (Heap.lt_size e) hle
 have old:∀ b o,s.heap.get? b=some o->h₁.get? b=some o:=fun b o e=>hsb₁.extBut b o (Nat.ne_of_lt (Nat.lt_trans (hlta e) haC')) (Heap.get?_push_of_some _ (hH2 ▸ Heap.get?_push_of_some _ e))
 have hacc:h₁.get? a=some {cls:=.type "list",data:=.seq ([]:List Value).toArray}:=hsb₁.extBut _ _ haC (Heap.get?_push_of_some _ (hH2 ▸ (ha ▸ Heap.get?_push_size _ rfl)))
 have hfo:∀ b∈fp,∃ o,s.heap.get? b=some o:=fun b hb=>let ⟨o,e,_⟩:=Tn.obj 0 _ st b hb;⟨o,e⟩
 have hlt:∀ b∈fp,b<a:=fun b hb=>let ⟨o,e⟩:=hfo b hb;hlta e
 have hns:h₁.Ns C (fun _=>none):=hns₁
 have I0:L2.Inv (cxC X T scope C fp s H) [] (List.replicate T.length none++σ) H {s with heap:=h₁,toks:=s.toks+([]:List (Str×Value)).length}:=inv_comp I ck hnd hf hfo hCle old hns
 have hcl:∀ y c,(clOf scope.names X.env.cells []).lookup y=some c->X.env.cells.lookup y=some c:=clOf_ok scope.names [] fun y c h=>by cases h
 have hfs:∀ b,a<=b->b∉frs X.stack:=fun b hb hz=>by
  rcases List.mem_cons.mp (I.stkSub b hz) with z | z
  ·exact absurd (Nat.lt_of_lt_of_le I.lt (Nat.le_trans hle (z ▸ hb))) (Nat.lt_irrefl _)
  ·exact I.nofs (Nat.le_trans hle hb) z
 have hcells:∀ b,a<=b->∀ x c,(clOf scope.names X.env.cells []).lookup x=some c->c≠b:=fun b hb x c h z=>by
  obtain ⟨v,q⟩:=I.cell x c (hcl x c h)
  exact absurd (Nat.lt_of_lt_of_le q.lt (Nat.le_trans hle (z ▸ hb))) (Nat.lt_irrefl _)
 have hfpok:∀ {H':Hp} {pl:List (Addr×Obj)},(∀ b∈fp,H' b=none)->(∀ p∈pl,p.1∉fp)->∀ b∈fp,FpOk (cxC X T scope C fp s H) pl H' b:=fun {H' pl} hn hp b hb =>
  fp_of (.inl hb) (Nat.ne_of_lt (Nat.lt_trans (hlt b hb) haC')) (I0.ok.exfs b hb) (fun x c h=>(I0.ok.exf b hb).2 x c h) (hn b hb) fun p hp' z=>hp p hp' (z ▸ hb)
 have hAok:∀ {H':Hp},H' a=none->∀ b ∈ [a],FpOk (cxC X T scope C fp s H) [] H' b:=fun {H'} hn b hb=>by
  cases List.mem_singleton.mp hb
  exact fp_of (.inr hle) haC (hfs a (Nat.le_refl _)) (hcells a (Nat.le_refl _)) hn fun p hp=>absurd hp (by simp)
 have hAfp:a∉fp:=fun z=>Nat.lt_irrefl _ (hlt a z)
 have loop:codeAny (model X.prog X.w) X.A (.compLoop (.ListComp elt [⟨tg,iter,[],0⟩] scope pos) 0 (.ref it) (.ref a) (compEnvC scope (clOf scope.names X.env.cells []) C X.env))
   (RR (.ref a) C) {s with heap:=h₁,toks:=s.toks+([]:List (Str×Value)).length}:=by
  refine compLoop_anyX (fun n s'=>∃ i σ' H' vs its k done rest,n=ds.length - i/\i<=ds.length/\L2.Inv (cxC X T scope C fp s H) [] σ' H' s'/\tn i s'.heap/\(∀ b∈fp,H' b=none)/\H' a=none/\Same H H' /\
   s'.heap.get? a=some {cls:=.type "list",data:=.seq (its:List Value).toArray k}/\Vals vs its/\Reps X.K H' done vs/\vs.length<=i/\EnvR X.K H' (List.replicate T.length none++ρ) σ' /\
   compX stf ef (ds.drop i) (List.replicate T.length none++ρ)=some rest/\out=addX done rest) ?_ ds.length
   ⟨0,_,H,[],[],0,[],out,by omega,Nat.zero_le _,I0,Tn.keep _ _ _ st (fun b hb o e=>old b o e),fun b hb=>(hf b hb).1,I.hok.fresh hle,Same.refl H,hacc,.nil,rfl,Nat.zero_le _,er.front T.length (List.replicate T.length none) (by simp),by simpa using hout,(addX_nil out).symm⟩
  rintro n s' ⟨i,σ',H',vs,its,k,done,rest,rfl,hi,I',st',hn',hna,sm,ho,hv,hrd,hvl,er',hrest,hsum⟩
  have Ip:=I'.pinned (fp:=[a]) (hAok hna) fun b hb=>by
   cases List.mem_singleton.mp hb
   exact ⟨_,ho,fun v z=>by cases z⟩
  generalize hP:([]:List (Addr×Obj))++pinsAt [a] s'.heap=P at Ip
  have hPm:(a,({cls:=.type "list",data:=.seq its.toArray k}:Obj))∈P:=by rw [<- hP];exact List.mem_append_right _ (bA (by simp) ho)
  have hPa:∀ p∈P,p.1∉fp:=fun p hp z=>by
   rw [<- hP] at hp
   obtain ⟨q,_⟩:=of_pinsAt hp
   rw [List.mem_singleton.mp q] at z
   exact hAfp z
  by_cases hlt':i<ds.length
  ·have hd:ds[i]?=some ds[i]:=by simp [hlt']
   obtain ⟨hgo,hy⟩:=y.1 i ds[i] H' (Kp.of sm) hd
   rw [List.drop_eq_getElem_cons hlt'] at hrest
   obtain ⟨ρ1,e1,hrest⟩:=bindS hrest
   obtain ⟨r1,e2,hrest⟩:=bindS hrest
   obtain ⟨τ,hτ,hρ1⟩:=hst ds[i] (List.replicate T.length none) ρ ρ1 (by simp) e1
   refine thn (Tn.item (cxC X T scope C fp s H) rfl rfl rfl hc i P s' σ' H' (fun _ _=>False) Ip (hfpok hn' hPa) st' hgo) fun r s1 ⟨u,hr,h4⟩=>?_
   subst hr
   refine thn h4 fun _ s2 ⟨x,H2',I2,r2,y2,st2,fr2⟩=>?_
   obtain ⟨s12,rx⟩:=hy x H2' y2
   have I3:=I2.pinned (fp:=fp) (hfpok fr2 hPa) (Tn.obj _ _ st2)
   refine thn (hg C s H fp I.base.tbls _ s2 σ' H2' x u (fun σ3 H3=>Same H2' H3/\EnvR X.K H3 ρ1 σ3) I3 r2 ⟨_,_,ds[i],ρ1,(er'.mono s12).t,rx,e1,fun σ3 H3 s3 er3=>⟨s3,er3.1⟩⟩) fun _ s3 ⟨σ3,H3,I4,s23,er3⟩=>?_
   refine thn (wpAny_tests_nil (Q:=fun b' s4=>b'=true/\s4=s3) ⟨rfl,rfl⟩) fun b' s4 ⟨hb',es4⟩=>?_
   subst hb' es4
   rw [if_pos rfl]
   have fin:∀ {H5:Hp} {s5:Shared},L2.Inv (cxC X T scope C fp s H) (P++pinsAt fp s2.heap) σ3 H5 s5->(∀ b∈fp,H5 b=none)/\H5 a=none/\s5.heap.get? a=some {cls:=.type "list",data:=.seq its.toArray k}/\(∀ b∈fp,∀ o,s2.heap.get? b=some o->s5.heap.get? b=some o):=fun {H5 s5} I6=>by
    refine ⟨fun b hb=>?_,(I6.pin _ (List.mem_append_right _ (List.mem_append_left _ hPm))).2.1,(I6.pin _ (List.mem_append_right _ (List.mem_append_left _ hPm))).1,fun b hb o e=>(I6.pin (b,o) (List.mem_append_right _ (List.mem_append_right _ (bA hb e)))).1⟩
    obtain ⟨o,e,_⟩:=Tn.obj _ _ st2 b hb
    exact (I6.pin (b,o) (List.mem_append_right _ (List.mem_append_right _ (bA hb e)))).2.1
   have unpin:∀ {H5:Hp} {s5:Shared},L2.Inv (cxC X T scope C fp s H) (P++pinsAt fp s2.heap) σ3 H5 s5->L2.Inv (cxC X T scope C fp s H) [] σ3 H5 s5:=fun I6=>I6.pins_of fun p hp=>absurd hp (by simp)
   have erb:∀ {H5:Hp},Same H3 H5->EnvR X.K H5 (List.replicate T.length none++ρ) σ3:=fun s5=>by
    have z:=er3.mono s5
    rw [hρ1] at z
    have z2:=z.forget
    rw [hτ] at z2
    exact z2
   have I4x:=I4.wish (WC X (cxC X T scope C fp s H))
   refine wpAny_mono (he C s H fp I.base.tbls _ s4 σ3 H3 (fun v H5=>∃ yv,r1=.ok yv/\Same H3 H5/\Rep X.K H5 yv v) I4x ⟨ρ1,r1,er3,e2,?_⟩) (fun xv s5 ⟨v,H5,I6x,rv,yv,er1,s35,ry⟩=>?_) fun ev s5 hw=>hRE a C ev s5 (Nat.le_of_lt haC') hw
   ·cases r1 with
    | ok yv=>exact fun v H5 s5 r5=>⟨yv,rfl,s5,r5⟩
    | error c =>
     cases hrest
     exact fun H5 s5=>xw_comp (hXW c hsum H5 (sm.trans (s12.trans (s23.trans s5))))
   ·subst er1
    obtain ⟨rest',e4,e5⟩:=mapS hrest
    have I6:=I6x.unwish
    obtain ⟨q1,q2,q3,q4⟩:=fin I6
    have hl:=hv.length
    refine call_meets F.slot_list_append ⟨_,q3,rfl⟩ F.entry_list_append (F.args_list_append_2 _ _) (PySem.list_append a its.toArray k xv (by rw [List.size_toArray];omega)) ⟨q3,?_⟩
    have q:=PySem.IsL.update q3 (fun xs=>xs.push xv)
    have sm5:Same H H5:=sm.trans (s12.trans (s23.trans s35))
    have smr:Same H' H5:=s12.trans (s23.trans s35)
    have I7:L2.Inv (cxC X T scope C fp s H) [] σ3 H5 {s5 with heap:=s5.heap.update a (Obj.mapSeq fun xs=>xs.push xv),toks:=s5.toks} :=
     (unpin I6).turned (it:=a) (t':=s5.toks) (fun b ob hb hu=>(Heap.get?_update_other s5.heap _ (Ne.symm hb)).trans hu) q2 haC (.inr hle) (hcells a (Nat.le_refl _)) fun p hp=>absurd (show p∈([]:List (Addr×Obj)) from hp) (by simp)
    refine ⟨ds.length - (i+1),by omega,i+1,σ3,H5,vs++[v],its++[xv],(if (its.toArray.push xv).size==its.toArray.size then k else k+1),done++[yv],rest',rfl,hlt',I7,Tn.keep _ _ _ st2 fun b hb ob e=>?_,q1,q2,sm5,?_,hv.append (.cons rv .nil),(hrd.mono smr).append (Reps.one ry),by simp;omega,erb s35,e4,by rw [hsum,<- e5];exact addX_cons done yv rest'⟩
    ·have hne:b≠a:=fun z=>hAfp (z ▸ hb)
     exact (Heap.get?_update_other s5.heap _ (Ne.symm hne)).trans (q4 b hb ob e)
    ·have z:its.toArray.push xv=(its++[xv]).toArray:=by simp
     rw [<- z]
     exact q
  ·have ei:i=ds.length:=by omega
   subst ei
   rw [List.drop_length] at hrest
   cases hrest
   have hsum':out=.ok done:=by rw [hsum];show Except.ok (done++[])=_;rw [List.append_nil]
   refine thn (Tn.done (cxC X T scope C fp s H) rfl rfl rfl hc ds.length P s' σ' H' (fun _ _=>False) Ip (hfpok hn' hPa) st' (y.2 _ H' (Kp.of sm) (Nat.le_refl _))) fun r s1 ⟨hr,I1⟩=>?_
   subst hr
   have ho1:=(I1.pin _ (List.mem_append_right _ hPm)).1
   have IX:L2.Inv X pins σ H' s1:=I.call' (ch:=fp) I1.os I1.base I1.hok I1.bare fun b hb=>⟨(hf b hb).2.2.2.1,(hf b hb).2.1,(hf b hb).2.2.2.2.1,(hf b hb).2.2.2.2.2⟩
   have fA:FpOk X pins H' a:=I.fpOk hle hna
   have s2:=bt hna (.lst vs)
   refine hRR a C (upd H' a (.lst vs)) s1 vs done hsum' (sm.trans s2) ar (hrd.mono s2) (track IX fA ⟨Nat.le_trans hvl hz,its,k,hv,ho1⟩) (I.fpOk hCle ?_) (let ⟨m,q,_⟩:=I1.loc;⟨m,q⟩)
   rw [aq (Ne.symm haC)]
   exact I1.free
 exact codeAny_compStart_list loop (Tn.self _ _ _ _ _ (Tn.keep _ _ _ st fun b hb o e=>old b o e) loop)
variable {elt iter tg:Expr} {pos p2:Pos} {itf:R->Option (List D)} {stf:D->R->Option R} {ef:XD}
theorem xe_lc (hc:X.calm=true) (hstk:X.stack=X.env::X.outer) (hfr:X.env.frame=some X.env.locals) (hfn:∀ x,X.fn x=true) (hex:X.ex=[]) (hi:SI X tg iter itf) (hg:∀ C s₃ H₃ fp,TbS X H₃->SG (cxC X T scope C fp s₃ H₃) tg stf) (he:∀ C s₃ H₃ fp,TbS X H₃->SX cl (cxCx X T scope C fp s₃ H₃) elt ef)
  (hst:Front T.length stf) (hnd:(T++X.N).Nodup) (ck:compChk scope X.env.scope T X.N=true:=by rfl) (hs:∀ x,foldedSetIterable iter X.env x=pure x:=by intro _;rfl) :
  SX cl X (.ListComp elt [⟨tg,iter,[],0⟩] scope pos) (lcX T.length itf stf ef):=by
 intro pins s σ H Q I hw
 obtain ⟨ρ,d,er,e,q⟩:=hw
 obtain ⟨ds,e1,e⟩:=bindS e
 have ck':=compOk_of ck
 split at e
 case isFalse=>cases e
 case isTrue hz =>
 obtain ⟨out,e2,e3⟩:=mapS e
 rw [eval_ListComp]
 refine wpAny_comprehension_free (use:=none) rfl hs (ez I ck') ck'.kind ck'.names ?_
 refine thn (hi pins s σ H (fun J H'=>Same H H'/\Yields X.K J ds H') I ⟨ρ,ds,er,e1,fun J H' s1 y=>⟨s1,y⟩⟩) fun v s1 h1=>thn h1 fun itv s2 h2=>?_
 obtain ⟨it,fp,tn,J,H',ei,I2,Tn,st,hf,s12,y⟩:=h2
 subst ei
 refine gR (cl:=cl) (RR:=fun acc C=>compPost (model X.prog X.w) X.A X.xe none (EP X pins σ Q) acc C) I2 hc Tn st hf ck' hnd hst (er.mono s12) y hz e2 (fun c ec H3 s3=>?_) hg he ?_ ?_
 ·subst ec
  subst e3
  exact q H3 (s12.trans s3)
 ·intro a C H3 s' vs ys eo sm ha hr I3 fC hns
  subst eo
  subst e3
  obtain ⟨m,hm⟩:=hns
  refine ⟨m,hm,fun h' hsb=>⟨.ref a,H3,?_,rfl,q _ H3 (s12.trans sm) ⟨a,vs,rfl,ha,hr⟩⟩⟩
  obtain ⟨f0,f1,f2,f3,f4,f5⟩:=fC
  exact I3.turned (it:=C) (t':=s'.toks) (fun b o hb eb=>(hsb.2 b hb).trans eb) f0 f1 f3 f4 f5
 ·rintro a C ev s' hC ⟨ee,C',H3,rfl,⟨pins',σ',B,xa⟩,hxw⟩
  have hfrm:∀ b∈frs X.stack,b<s2.heap.objs.size:=fun b hb=>by
   obtain ⟨_,o,ho,_⟩:=I2.stack.mem hb
   exact Heap.lt_size ho
  have hCf:C∉frs X.stack:=fun hm=>absurd (Nat.lt_of_lt_of_le (hfrm C hm) hC) (Nat.lt_irrefl _)
  obtain ⟨oC,eC⟩:∃ o,B.get? C=some o:=xa.loc hCf
  obtain ⟨m,hm,_⟩:=xa.inv.loc
  show wpAny (model X.prog X.w) X.A (noteFrame (.ref ee) (compEnvC scope (clOf scope.names X.env.cells []) C X.env)) _ _ s'
  rw [note_eq (env':=compEnvC scope (clOf scope.names X.env.cells []) C X.env) (env:=X.env) _ rfl]
  have xe1:Exc B (X.env::X.outer) ee C' s'.heap:=by rw [<- hstk];exact xa.exc
  refine note_any (by rw [<- hstk];exact I2.ok.frames) hfr xe1 fun h1 x1 up1=>?_
  have nsC:h1.Ns C m:=by
   obtain ⟨o,es,ep,ho,r⟩:=(show s'.heap.Ns C m from hm)
   have e4:=xa.exc.st C oC eC
   rw [ho] at e4
   obtain rfl:o=oC:=Option.some.inj e4
   exact ⟨o,es,ep,x1.st C o eC,r⟩
  refine ⟨m,nsC,fun h2 hsb cenv' hl'=>?_⟩
  have other:∀ b,b≠C->h2.get? b=h1.get? b:=fun b hb=>hsb.2 b hb
  have hB:∀ b o,(PySem.W.hideAll B [C]).get? b=some o->B.get? b=some o/\b≠C:=fun b o hb=>⟨PySem.W.of_hideAll _ hb,fun z=>by rw [PySem.W.hideAll_none [C] (by rw [z];exact List.mem_singleton.mpr rfl)] at hb;cases hb⟩
  have hB':∀ b,b≠C->(∃ o',B.get? b=some o')->∃ o',(PySem.W.hideAll B [C]).get? b=some o':=fun b hb ⟨o',e'⟩=>⟨o',PySem.W.hideAll_get _ e' fun z=>hb (List.mem_singleton.mp z)⟩
  have hnone:∀ b,B.get? b=none->(PySem.W.hideAll B [C]).get? b=none:=fun b hb=>by
   cases hq:(PySem.W.hideAll B [C]).get? b with
   | none=>rfl
   | some o=>rw [(hB b o hq).1] at hb;cases hb
  have neC:∀ b,B.get? b=none->b≠C:=fun b hb z=>by rw [z,eC] at hb;cases hb
  have x2:Exc (PySem.W.hideAll B [C]) (X.env::X.outer) ee C' h2:=by
   obtain ⟨q1,q2,q3,a0,fl,oe,ws,TT,oT,ts,r1,r2,r3,r4,r5,r6,r7,r8,r9⟩:=x1
   refine ⟨fun b o hb=>(other b (hB b o hb).2).trans (q1 b o (hB b o hb).1),hnone _ q2,?_,a0,fl,oe,ws,TT,oT,ts,(other _ (neC _ q2)).trans r1,r2,r3,r4,hnone _ r5,r6,(other _ (neC _ r5)).trans r7,r8,r9⟩
   have go:∀ l:List Env,h1.FunFrames B l->(∀ b∈frs l,b≠C)->h2.FunFrames (PySem.W.hideAll B [C]) l:=fun l=>by
    induction l with
    | nil=>intro _ _;trivial
    | cons env rest ih =>
     rintro ⟨k1,⟨L,o,k2,k3,k4,k5⟩,k6⟩ hn
     have hL:L∈frs (env::rest):=List.mem_filterMap.mpr ⟨env,List.mem_cons_self,k2⟩
     refine ⟨k1,⟨L,o,k2,hnone _ k3,(other L (hn L hL)).trans k4,k5⟩,ih k6 fun b hb=>hn b ?_⟩
     obtain ⟨env',h1',h2'⟩:=List.mem_filterMap.mp hb
     exact List.mem_filterMap.mpr ⟨env',List.mem_cons_of_mem _ h1',h2'⟩
   exact go _ q3 fun b hb z=>hCf (by rw [hstk,<- z];exact hb)
  refine pass_any (s:={s' with heap:=h2}) x2 fun h3 x3 up3=>?_
  have IX:L2.Inv X pins σ H3 s':=I2.call' (ch:=fp) xa.inv.os xa.inv.base xa.inv.hok xa.inv.bare fun b hb=>⟨(hf b hb).2.2.2.1,(hf b hb).2.1,(hf b hb).2.2.2.2.1,(hf b hb).2.2.2.2.2⟩
  have nfp:∀ b o,X.s₀.heap.get? b=some o->b∉fp:=fun b o hb hm=>by
   rcases (hf b hm).2.2.2.1 with z | z
   ·rw [hex] at z;cases z
   ·exact absurd (Nat.lt_of_lt_of_le (Heap.lt_size hb) z) (Nat.lt_irrefl _)
  have old:∀ b o,s2.heap.get? b=some o->b∉frs X.stack->b∉fp->∃ o',(PySem.W.hideAll B [C]).get? b=some o':=fun b o hb hn hx=>hB' b (fun z=>absurd (Nat.lt_of_lt_of_le (Heap.lt_size (z ▸ hb)) hC) (Nat.lt_irrefl _)) (xa.ent b o hb hn hx)
  have entX:∀ b o,X.s₀.heap.get? b=some o->b∉X.fs->b∉X.ex->∃ o',(PySem.W.hideAll B [C]).get? b=some o':=fun b o hb hn hx=>by
   obtain ⟨o1,e4⟩:=I2.base.there b o hb hx
   refine old b o1 e4 (fun hm=>?_) (nfp b o hb)
   rcases List.mem_cons.mp (I2.stkSub b hm) with z | z
   ·rw [z] at hb;exact absurd (Nat.lt_of_lt_of_le (Heap.lt_size hb) I2.ok.above) (Nat.lt_irrefl _)
   ·exact hn z
  have hldX:∀ b u,H3 b=some u->∃ o',(PySem.W.hideAll B [C]).get? b=some o':=fun b u hb=>hB' b (fun z=>by
   have:H3 C=none:=xa.inv.free
   rw [z,this] at hb;cases hb) (xa.hld b u hb)
  have pinX:∀ p∈X.pn++pins,∃ o',(PySem.W.hideAll B [C]).get? p.1=some o':=fun p hp=>by
   obtain ⟨k1,k2,k3,k4,_⟩:=I2.pin p hp
   refine old p.1 p.2 k1 (fun hm=>?_) fun hx=>(hf p.1 hx).2.2.2.2.2 p hp rfl
   rcases List.mem_cons.mp (I2.stkSub p.1 hm) with z | z
   ·exact k3 z
   ·exact k4 z
  have celX:∀ x c,X.env.cells.lookup x=some c->∃ o',(PySem.W.hideAll B [C]).get? c=some o':=fun x c hcc=>by
   obtain ⟨v,o,ho,_⟩:=I2.cell x c hcc
   exact old c o ho (cell_nf I2 hfn x c hcc) fun hx=>(hf c hx).2.2.2.2.1 x c hcc rfl
  have st0:(PySem.W.hideAll B [C]).StaysIn s'.heap:=fun b o hb=>xa.exc.st b o (hB b o hb).1
  have hlf:X.env.locals∈frs X.stack:=by rw [hstk];exact List.mem_filterMap.mpr ⟨X.env,List.mem_cons_self,hfr⟩
  have upX:∀ b∈X.env.locals::X.fs,∀ o,s'.heap.get? b=some o->(∀ ws,o.data≠.fields ws)->∃ sl,h3.get? b=some {o with slots:=sl}:=fun b hb o ho nd=>by
   have hbC:b≠C:=fun z=>by
    rcases List.mem_cons.mp hb with y | y
    ·exact hCf (z ▸ y ▸ hlf)
    ·refine hCf ?_
     rw [hstk,<- z]
     obtain ⟨env',h1',h2'⟩:=List.mem_filterMap.mp y
     exact List.mem_filterMap.mpr ⟨env',List.mem_cons_of_mem _ h1',h2'⟩
   obtain ⟨sl,k1⟩:=up1 b o ho nd
   obtain ⟨sl2,k2⟩:=up3 b _ ((other b hbC).trans k1) nd
   exact ⟨sl2,k2⟩
  exact hxw ee {s' with heap:=h3} ⟨pins,σ,PySem.W.hideAll B [C],inv_stay IX st0 x3.st upX entX hldX pinX celX,fun b o hb hn hx=>entX b o hb (fun hm=>hn (by
    rw [hstk]
    obtain ⟨env',h1',h2'⟩:=List.mem_filterMap.mp hm
    exact List.mem_filterMap.mpr ⟨env',List.mem_cons_of_mem _ h1',h2'⟩)) hx,hldX,fun hn=>absurd hlf hn,pinX,by rw [hstk];exact x3⟩
end
end HW
namespace HW
open PySem PySem.Spec PyProof.Rows L2
section
variable {P:Program} {w:World} {K:PySem.W.Frag} {mg:Str->Option Value} {base:Heap} {N ps:List Str} {qual:Str} {scope:Scope} {cl:List (Str×Addr)} {f:Addr} {cd:Value} {A:Around} {outer:List Env} {s:Shared} {H H2:Hp} {E:XK} {C:Addr} {caps:List V}
theorem xw_lam (S:CloScope N ps scope cl) (hcap:CapsOk H N ps cl caps) (hokS:HOk P w H s.heap) (frf:∀ b∈frs outer,H b=none) (hE:E (.ref C) none (backC cl H H2)) (hS:Same (dropC cl H) H2):XW (cxLam (CXe P w) P w K mg base N qual scope cl f cd A outer s H E) C H2:=fun e s' ⟨pins,σ,B,J,c1,c2,_,_,x⟩=>by
 obtain ⟨cl1,cl2,cl3⟩:=hcap
 show wpAny (model P w) (A.deeper (PySem.W.envX qual scope s.heap.objs.size f cd cl)) (leaving (PySem.W.envX qual scope s.heap.objs.size f cd cl) (.ref e)) (fun _ s''=>CXe P w outer H s E (.ref e) s'') (fun e' s''=>CXe P w outer H s E e' s'') s'
 refine leave_any J.ok.frames rfl x fun h' x' up=>?_
 have noA:∀ b:Addr,b∉(cxLam (CXe P w) P w K mg base N qual scope cl f cd A outer s H E).ex:=fun b z=>absurd (show b∈([]:List Addr) from z) (by simp)
 have dr:∀ {b:Addr} {u:HO},H b=some u->(∀ o,u≠Clo o)->isC cl b=false:=fun {b u} e n=>by
  cases q:isC cl b with
  | false=>rfl
  | true=>obtain ⟨o,v,z,_⟩:=cl2 b q;rw [e] at z;cases z;exact absurd rfl (n o)
 have dk:∀ {b:Addr} {u:HO},H b=some u->(∀ o,u≠Clo o)->dropC cl H b=some u:=fun {b u} e n=>by
  show (if isC cl b then none else H b)=_
  rw [dr e n];exact e
 have dn:∀ {b:Addr},H b=none->dropC cl H b=none:=fun {b} e=>by
  show (if isC cl b then none else H b)=_
  split
  ·rfl
  ·exact e
 have bk:∀ {b:Addr} {u:HO},H2 b=some u->backC cl H H2 b=some u:=fun {b u} e=>by
  show (if isC cl b then H b else H2 b)=_
  cases qq:isC cl b with
  | false=>exact e
  | true =>
   obtain ⟨p,hp,hpb⟩:=List.any_eq_true.mp qq
   have this:∃ x,cl.lookup x=some b:=⟨p.1,lookup_nd S.ndc (by rw [<- eq_of_beq hpb];exact hp)⟩
   obtain ⟨x,hx⟩:=this
   have:=J.freeC x b hx
   rw [this] at e;cases e
 have bc:∀ {b:Addr},isC cl b=true->backC cl H H2 b=H b:=fun {b} hb=>by show (if isC cl b then H b else H2 b)=_;rw [hb];rfl
 have bn:∀ {b:Addr},isC cl b=false->backC cl H H2 b=H2 b:=fun {b} hb=>by show (if isC cl b then H b else H2 b)=_;rw [hb];rfl
 have hfn:∀ b o,s.heap.get? b=some o->b∉frs outer->b∉frs (PySem.W.envX qual scope s.heap.objs.size f cd cl::outer):=fun b o hb hn hm=>by
  have hm':b∈s.heap.objs.size::frs outer:=hm
  rcases List.mem_cons.mp hm' with z | z
  ·rw [z] at hb;exact Nat.lt_irrefl _ (Heap.lt_size hb)
  ·exact hn z
 have cov:∀ b o,s.heap.get? b=some o->b∉frs outer->∃ o',B.get? b=some o':=fun b o hb hn=>c1 b o hb (hfn b o hb hn) (by intro z;cases z)
 have cellKept:∀ {b:Addr},isC cl b=true->∃ o,H b=some (Clo o)/\s'.heap.get? b=some o/\∃ o',B.get? b=some o':=fun {b} hb=>by
  obtain ⟨o,u',z,_⟩:=cl2 b hb
  have hfr:b∉frs outer:=fun m=>by rw [frf b m] at z;cases z
  exact ⟨o,z,J.base.keep b o (hokS b _ z).1 (by show (if isC cl b then none else H b)=none;rw [hb];rfl) hfr (noA b),cov b o (hokS b _ z).1 hfr⟩
 have un0:Un (frs outer) [] H (backC cl H H2) s.heap s'.heap:=by
  refine ⟨fun b o e n hf' hx=>J.base.keep b o e (dn n) hf' (noA b),fun b o e n hf' hx=>J.base.slot b o e (dn n) hf' (noA b),fun b o e n hx=>?_,fun b o e hx=>J.base.there b o e (noA b),fun b xs e=>bk (J.base.tups b xs (dk e fun o z=>by cases z)),fun b o u ny e=>?_,fun b a d e=>bk (J.base.tbls b a d (dk e fun o z=>by cases z))⟩
  ·cases hb:isC cl b with
   | true=>rw [bc hb];exact n
   | false=>rw [bn hb];exact J.base.free b o e (dn n) (noA b)
  ·cases hb:isC cl b with
   | true=>rw [bc hb];exact e
   | false =>
    rw [bn hb]
    refine J.base.frzs b o u ny ?_
    show (if isC cl b then none else H b)=_
    rw [hb];exact e
 have hok0:HOk P w (backC cl H H2) s'.heap:=fun b u e=>by
  cases hb:isC cl b with
  | true =>
   obtain ⟨o,z,g,_⟩:=cellKept hb
   rw [bc hb,z] at e
   cases e
   exact ⟨g,trivial,⟨_,g⟩,fun _ _ _ _=>trivial⟩
  | false =>
   rw [bn hb] at e
   exact (J.hok b u e).stay (fun c v _ g=>g) (fun c g=>bk g) (fun c xs g=>bk g) fun c a d g=>bk g
 have c2':∀ b u,backC cl H H2 b=some u->∃ o',B.get? b=some o':=fun b u e=>by
  cases hb:isC cl b with
  | true=>obtain ⟨o,_,_,q⟩:=cellKept hb;exact q
  | false=>rw [bn hb] at e;exact c2 b u e
 have sm:Same H (backC cl H H2):=fun b u e=>by
  cases hb:isC cl b with
  | true=>rw [bc hb];exact e
  | false=>rw [bn hb];exact hS b u (by show (if isC cl b then none else H b)=_;rw [hb];exact e)
 exact ⟨e,C,B,_,rfl,J.os,J.bare,x',un_stay un0 x.st x'.st (fun b _ o=>up b o) (fun b hb=>by
   obtain ⟨_,o,ho,nd⟩:=x.fr.mem (List.mem_cons_of_mem _ hb:b∈s.heap.objs.size::frs outer)
   exact ⟨o,ho,nd⟩) (fun b o hb hf _=>cov b o hb hf),hok_stay hok0 x.st x'.st c2',cov,c2',sm,hE⟩
end
def spLX (ca:Nat->Addr) (K:PySem.W.Frag) (t:LamT) (G:List D->Option (Except Nat D)) (f c':Addr) (cl:List (Str×Addr)) (pm ctv:Value):Sp:=fun vs H Q E=>∃ as ds caps r,H f=some (Clo (PySem.W.kla_obj "<lambda>" t.q t.params t.body t.scope cl pm c' ctv))/\H c'=some (.tbl t.q true)/\CapsOk H t.N t.ps cl caps /\
 as.length=t.ps.length/\Reps K H as vs/\Reps K H ds caps/\nobs as=true/\nobs ds=true/\G (as++ds)=some r/\match r with
 | .ok d=>nob d=true/\∀ v H',Same H H'->Rep K H' d v->Q v H'
 | .error c=>∀ H',Same H H'->E (.ref (ca c)) none H'
structure LamOkX (P:Program) (w:World) (K:PySem.W.Frag) (mg:Str->Option Value) (base:Heap) (ca:Nat->Addr) (k:Nat) (t:LamT) (G:List D->Option (Except Nat D)):Prop where
 ok:∀ (f c':Addr) (cl:List (Str×Addr)) (pm ctv:Value),CloScope t.N t.ps t.scope cl->FnOk P w K mg base (CXe P w) k f (PySem.W.kla_fn "<lambda>" t.q t.params t.body t.scope cl pm (.ref c') ctv) t.ps (spLX ca K t G f c' cl pm ctv)
 bd:∀ (c':Addr) (cl:List (Str×Addr)) (pm ctv:Value),Binds K (PySem.W.kla_fn "<lambda>" t.q t.params t.body t.scope cl pm (.ref c') ctv) t.ps []
theorem LamOkX.m {P:Program} {w:World} {K:PySem.W.Frag} {mg:Str->Option Value} {base:Heap} {ca:Nat->Addr} {k k':Nat} {t:LamT} {G:List D->Option (Except Nat D)} (h:LamOkX P w K mg base ca k t G) (hk:k<=k':=by decide):LamOkX P w K mg base ca k' t G :=
 ⟨fun f c' cl pm ctv S=>(h.ok f c' cl pm ctv S).mono hk,h.bd⟩
def LOkX (P:Program) (w:World) (K:PySem.W.Frag) (mg:Str->Option Value) (base:Heap) (ca:Nat->Addr) (k:Nat) (L:LMeanX):Prop:=∀ t G,L t=some G->LamOkX P w K mg base ca k t G
theorem LOkX.mono {P:Program} {w:World} {K:PySem.W.Frag} {mg:Str->Option Value} {base:Heap} {ca:Nat->Addr} {k k':Nat} {L:LMeanX} (h:LOkX P w K mg base ca k L) (hk:k<=k'):LOkX P w K mg base ca k' L:=fun t G e=>(h t G e).m hk
section
variable {X:Cx} {ca:Nat->Addr} {pos p:Pos} {k:Nat} {f c':Addr} {name qual:Str} {params:Arguments} {body:Expr} {scope:Scope} {cl:List (Str×Addr)} {pm ctv:Value} {ps:List Str}
theorem lM {i:Nat} {x:Str} {sp:Sp} (hF:FnOk X.prog X.w X.K X.mg X.base (CXe X.prog X.w) k f (PySem.W.kla_fn name qual params body scope cl pm (.ref c') ctv) ps sp) (bd:Binds X.K (PySem.W.kla_fn name qual params body scope cl pm (.ref c') ctv) ps []) (hr:Room k X.A)
  (hN:X.N[i]?=some x:=by rfl) (hv:Vis X.env.scope x:=by first | exact Or.inl rfl | exact Or.inr (Or.inl rfl) | exact Or.inr (Or.inr rfl)) (hd:(x==("__debug__" : Str))=false:=by decide) (hcd:(x==("__classdict__" : Str))=false:=by decide) :
  PE X (.Call (.Name x p) [] [] pos) fun σ H Q=>σ[i]?=some (some (.ref f))/\H f=some (Clo (PySem.W.kla_obj name qual params body scope cl pm c' ctv))/\sp [] H Q (EX X):=by
 intro pins s σ H Q I ⟨x1,hf,h⟩
 refine wpAny_Call_Name_kw (thn (iq (pos:=p) hN hv hd hcd pins s σ H (fun v H1=>v=.ref f/\H1=H) I ⟨.ref f,x1,rfl,rfl⟩) fun u s1 ⟨v,H1,I1,rv,ev,eH⟩=>?_)
 subst ev eH
 cases (show u=_ from rv)
 refine PySem.W.callWith_of (P:=fun h=>h.get? f=some (PySem.W.kla_obj name qual params body scope cl pm c' ctv)) rfl keeps_C (PyProof.Rows.evalArgs_empty ⟨(I1.hok f _ hf).1,?_⟩)
 exact run_fn (us:=[]) hF hr bd .nil passE I1 .nil (by rw [List.append_nil];exact h)
theorem xe_callL0 {x:Str} {L:LMeanX} (i:Nat) (LO:LOkX X.prog X.w X.K X.mg X.base ca k L) (hr:Room k X.A) (hN:X.N[i]?=some x:=by rfl) (hv:Vis X.env.scope x:=by first | exact Or.inl rfl | exact Or.inr (Or.inl rfl) | exact Or.inr (Or.inr rfl))
  (hd:(x==("__debug__" : Str))=false:=by decide) (hcd:(x==("__classdict__" : Str))=false:=by decide):SX ca X (.Call (.Name x p) [] [] pos) (callX L i):=by
 intro pins s σ H Q I ⟨ρ,r,er,e0,q⟩
 obtain ⟨c,hat,e1⟩:=bindS e0
 match c,hat,e1 with
 | .cl t a ds,hat,e1 =>
 obtain ⟨G,hG,e3⟩:=bindS e1
 split at e3
 case isFalse=>cases e3
 case isTrue hc =>
 obtain ⟨n2,hl⟩:=hc
 obtain ⟨r',hd',e4⟩:=bindS e3
 obtain ⟨v,hσ,rv⟩:=er.at hat
 obtain ⟨ev,cl,xs,pm,ctv,c',h1,h2,S,h3,rr⟩:=rv
 subst ev
 have lo:=LO t G hG
 refine lM (lo.ok a c' cl pm ctv S) (lo.bd c' cl pm ctv) hr hN hv hd hcd pins s σ H Q I ⟨hσ,h1,[],ds,xs,r',h1,h2,h3,by rw [hl];rfl,rfl,rr,rfl,n2,hd',?_⟩
 cases r' with
 | error c=>cases e4;exact fun H2 s2=>⟨_,rfl,q H2 s2⟩
 | ok d =>
  have e4':(if nob d then some (Except.ok d) else none)=some r:=e4
  split at e4'
  case isFalse=>cases e4'
  case isTrue nd =>
  cases e4'
  exact ⟨nd,q⟩
end
theorem lam_okX {P:Program} {w:World} {K:PySem.W.Frag} {mg:Str->Option Value} {base:Heap} {ca:Nat->Addr} {k:Nat} {t:LamT} {g:XD}
  (hb:∀ (cl:List (Str×Addr)) (f c':Addr) (A:Around) (outer:List Env) (s:Shared) (H:Hp) (E:XK),CloScope t.N t.ps t.scope cl->Room k (A.deeper (PySem.W.envX t.q t.scope s.heap.objs.size f (.ref c') cl))->SX ca (cxLam (CXe P w) P w K mg base t.N t.q t.scope cl f (.ref c') A outer s H E) t.body g)
  (bd:∀ (c':Addr) (cl:List (Str×Addr)) (pm ctv:Value),Binds K (PySem.W.kla_fn "<lambda>" t.q t.params t.body t.scope cl pm (.ref c') ctv) t.ps []):LamOkX P w K mg base ca (k+1) t (viaEX t.N.length g):=by
 refine ⟨fun f c' cl pm ctv S=>clo_of S (fun vs H Q E ⟨as,ds,caps,d,_,_,_,hl,r,_⟩=>by rw [<- r.length];exact hl) (fun vs H Q E ⟨as,ds,caps,d,h1,h2,_⟩=>⟨h1,h2⟩) (fun A outer s H vs Q E hr e0 h=>?_),bd⟩
 obtain ⟨as,ds,caps,r,h1,h2,h3,hl,r1,r2,n1,n2,e,q⟩:=h
 have hC:∀ b,isC cl b=true->∃ o,H b=some (Clo o):=fun b hb=>let ⟨o,_,z,_⟩:=h3.2.1 b hb;⟨o,z⟩
 have dc:=drop_clo hC
 unfold viaEX at e
 split at e
 case isFalse=>cases e
 case isTrue hlen =>
 refine ⟨caps,_,h3,hb cl f c' A outer s H E S hr,(as++ds).map some,r,?_,e,?_⟩
 ·exact lR (Reps.append (Reps.clo dc n1 r1) (Reps.clo dc n2 r2))
 ·cases r with
  | ok d =>
   refine fun v H2 s2 rv bk=>q.2 v _ (fun b u hu=>?_) (rv.mono fun b u hu=>bk b u hu)
   show (if isC cl b then H b else H2 b)=some u
   cases qc:isC cl b with
   | true=>exact hu
   | false=>exact s2 b u (by rw [dropC_n qc];exact hu)
  | error c =>
   refine fun H2 s2=>xw_lam S h3 e0.hok e0.frf (q _ fun b u hu=>?_) s2
   show (if isC cl b then H b else H2 b)=some u
   cases qc:isC cl b with
   | true=>exact hu
   | false=>exact s2 b u (by rw [dropC_n qc];exact hu)
end HW
namespace HW
open PySem
open Sem (wp)
section
variable {M:Model} {A:Around} {E:Value->Shared->Prop} {h:Heap} {g:Array GenState} {d:Drawn} {t:Nat} {os:OsState} {K:PySem.W.Frag} {C W:Addr} {newId nW:String}
theorem fx_look (T:Two K C W newId nW) (x:K.In h) {n:Str} {y:Option Value} {Q:Option Value->Shared->Prop} (hn:n∈qnm) (hy:typeLookup (.type "ValueError") n=pure y) (hq:Q y ⟨h,g,d,t,os⟩):wpAny M A (typeLookup (.ref C) n) Q E ⟨h,g,d,t,os⟩:=by
 obtain ⟨N,nm,q,bs,hdct,sn,sub,ab,col,dd,k0,k1,k2,k3,k5,mN,hqn,hh⟩:=T.own
 obtain ⟨N',nm',q',bs',hdct',sn',sub',ab',col',dd',j0,j1,j2,j3,j5,mN',hqn',hh'⟩:=T.base
 have hrest:lookupAlong VE n=pure y:=by rw [typeLookup_eq,F.excBase_ValueError.mroIs] at hy;exact hy
 rw [typeLookup_eq]
 refine wpAny_bind (wpAny_mroOf_exc (hh h x).1 ?_)
 rw [lookupAlong_cons]
 refine wpAny_bind (wpAny_classOwn_exc (hh h x).1 (hh h x).2 ?_)
 rw [hqn n hn]
 show wpAny M A (lookupAlong (.ref W::VE) n) Q E _
 rw [lookupAlong_cons]
 refine wpAny_bind (wpAny_classOwn_exc (hh' h x).1 (hh' h x).2 ?_)
 rw [hqn' n hn]
 show wpAny M A (lookupAlong VE n) Q E _
 rw [hrest]
 exact wpAny_pure hq
theorem fx_sub (T:Two K C W newId nW) (x:K.In h) {b:Value} {Q:Bool->Shared->Prop} (hq:Q ((Value.ref C::.ref W::VE).contains b) ⟨h,g,d,t,os⟩):wpAny M A (isSubtype (.ref C) b) Q E ⟨h,g,d,t,os⟩:=by
 obtain ⟨N,nm,q,bs,hdct,sn,sub,ab,col,dd,k0,k1,k2,k3,k5,mN,hqn,hh⟩:=T.own
 exact wpAny_isSubtype_exc (hh h x).1 hq
end
theorem fx_lkc:typeLookup (.type "ValueError") "__class__" = pure (some (.builtin "object.__class__")):=by rw [typeLookup_type,builtinLookup_eq_fast];kernel_rfl
section
variable {prog:Program} {w:World} {A:Around} {E:Value->Shared->Prop} {h:Heap} {g:Array GenState} {d:Drawn} {t:Nat} {os:OsState} {a:Addr} {o:Obj} {tk:Tok} {K:PySem.W.Frag} {C W:Addr} {newId nW:String}
theorem fx_get {R:Result->Shared->Prop} (T:Two K C W newId nW) (x:K.In h) (hx:h.get? a=some o) (hc:o.cls=.ref C) (hq:R (.ok (.ret (.ref C))) ⟨h,g,d,t,os⟩) :
  codeAny (model prog w) A (.call (.builtin "getset_descriptor.__get__") ⟨[.builtin "object.__class__",.ref a,.ref C],[]⟩) R ⟨h,g,d,t,os⟩:=by
 have hT5:(⟨h,g,d,t,os⟩:Shared).TypeIs (.builtin "object.__class__") "getset_descriptor":=F.typeOf_object_class
 have hcO:(Value.ref C::.ref W::VE).contains (.type (".".intercalate ("object.__class__".cutAt '.').dropLast))=true:=by rw [F.owner_object_class];rfl
 refine codeAny_call_builtin F.slot_gs_get.plain F.entry_gs_get (F.slot_gs_get.check _ _ _ _ _ _ _ _ hT5 (F.args_gs_get _ _ _) ?_)
 repeat (any_goals (first | assumption | (with_reducible refine wpAny_loadPart_at hx ?_;rw [hc]) | (with_reducible refine fx_sub T x ?_;rw [hcO]) | wp_step))
 refine ⟨Code.quiet_builtin _ (by decide +kernel),codeAny_builtin F.entry_object_class ?_⟩
 repeat (any_goals (first | assumption | (with_reducible refine wpAny_loadPart_at hx ?_;rw [hc]) | wp_step))
theorem fx_ent {Q:Fin->Shared->Prop} (T:Two K C W newId nW) (x:K.In h) (hx:h.get? a=some o) (hc:o.cls=.ref C) (hq:Q (.done (.ret (.ref C))) ⟨h,g,d,t,os⟩) :
  wpAny (model prog w) A (Builtin.«object.__getattribute__» ⟨[.ref a,.str "__class__" tk],[]⟩) Q E ⟨h,g,d,t,os⟩:=by
 have hT5:(⟨h,g,d,t,os⟩:Shared).TypeIs (.builtin "object.__class__") "getset_descriptor":=F.typeOf_object_class
 have f5:=F.typeOf_object_class
 have f6:=F.slot_gs_get.lookup
 have f7:=F.slot_gs_set.lookup
 have hm:("__class__" : Str)∈qnm:=.tail _ (.tail _ (.tail _ (.head _)))
 repeat (any_goals (first | assumption | (with_reducible refine wpAny_loadPart_at hx ?_;rw [hc]) | with_reducible refine fx_look T x hm fx_lkc ?_ | wp_step))
 refine fx_get T x hx hc ?_
 repeat (any_goals (first | assumption | wp_step))
theorem fx_check {M:Model} {nameV:Value} {Q:Unit->Shared->Prop} (T:Two K C W newId nW) (x:K.In h) (hx:h.get? a=some o) (hc:o.cls=.ref C) (hq:Q () ⟨h,g,d,t,os⟩):wpAny M A (checkBuiltinCall "BaseException.__getattribute__" ⟨[.ref a,nameV],[]⟩) Q E ⟨h,g,d,t,os⟩:=by
 have hk:builtinKind "BaseException.__getattribute__" = some .slot:=by decide +kernel
 have hs:splitId "BaseException.__getattribute__" = some ("BaseException","__getattribute__"):=by decide +kernel
 have hcB:(Value.ref C::.ref W::VE).contains (.type "BaseException")=true:=rfl
 have ha:=F.args_bexc_ga (.ref a) nameV
 simp only [checkBuiltinCall,hk,hs]
 refine wpAny_bind ?_
 ·unfold isInstance
  repeat (first | (with_reducible refine wpAny_loadPart_at hx ?_;rw [hc]) | (with_reducible refine fx_sub T x ?_;rw [hcB]) | wp_step)
  exact hq
theorem fx_call {R:Result->Shared->Prop} (T:Two K C W newId nW) (x:K.In h) (hx:h.get? a=some o) (hc:o.cls=.ref C) (hq:R (.ok (.ret (.ref C))) ⟨h,g,d,t,os⟩) :
  codeAny (model prog w) A (.call (.builtin "BaseException.__getattribute__") ⟨[.ref a,.str "__class__" tk],[]⟩) R ⟨h,g,d,t,os⟩ :=
 codeAny_call_builtin F.attrBase_ValueError.ga.plain F.entry_bexc_ga (fx_check T x hx hc (fx_ent T x hx hc hq))
theorem fx_by {Q:Value->Shared->Prop} (T:Two K C W newId nW) (x:K.In h) (hx:h.get? a=some o) (hc:o.cls=.ref C) (hq:Q (.ref C) ⟨h,g,d,t,os⟩):wpAny (model prog w) A (getAttrBy (.ref a) (.str "__class__" tk) false) Q E ⟨h,g,d,t,os⟩:=by
 have f3:=F.attrBase_ValueError.ga.bind (.ref a)
 have hx2:(Value.builtin "BaseException.__getattribute__" == Value.builtin "object.__getattribute__")=false:=by decide +kernel
 have hx1:(onTheHeap (Value.ref C)&&Value.builtin "BaseException.__getattribute__" == Value.builtin "object.__getattribute__")=false:=by rw [hx2];rfl
 have hm1:("__getattribute__" : Str)∈qnm:=.tail _ (.head _)
 have hm2:("__getattr__" : Str)∈qnm:=.tail _ (.tail _ (.head _))
 repeat (any_goals (first | assumption | (with_reducible refine wpAny_loadPart_at hx ?_;rw [hc]) | with_reducible refine fx_look T x hm1 F.attrBase_ValueError.ga.lookup ?_ | with_reducible refine fx_look T x hm2 F.attrBase_ValueError.noGetattr ?_ | wp_step))
 refine fx_call T x hx hc ?_
 repeat (any_goals (first | assumption | wp_step))
theorem fx_attr {Q:Option Value->Shared->Prop} (T:Two K C W newId nW) (x:K.In h) (hx:h.get? a=some o) (hc:o.cls=.ref C) (hq:Q (some (.ref C)) ⟨h,g,d,t+1,os⟩):wpAny (model prog w) A (getAttr? (.ref a) "__class__") Q E ⟨h,g,d,t,os⟩:=by
 unfold getAttr? getAttrBy?
 repeat (any_goals (first | assumption | with_reducible apply fx_by T x hx hc | wp_step))
end
theorem kitx_exc {K:PySem.W.Frag} {C W:Addr} {newId nW:String} {a:Addr} {o:Obj} (T:Two K C W newId nW) (hc:o.cls=.ref C):PySem.W.KitX K (.ref a) (.ref C) (fun h=>h.get? a=some o) where
 ty:=fun M h _ p=>hc ▸ (PySem.W.Looks.ld p).andThen .now
 it:=fun M h X _=>by
  obtain ⟨N,nm,q,bs,hdct,sn,sub,ab,col,dd,k0,k1,k2,k3,k5,mN,hqn,hh⟩:=T.own
  intro A' Q' E' s' k q
  unfold isType loadHead
  exact wpAny_bind (wpAny_loadPart (k _ _ (hh h X).1) (wpAny_pure q))
 ne:=fun h tp dd its n sl X htp=>by
  obtain ⟨N,nm,q,bs,hdct,sn,sub,ab,col,dd',k0,k1,k2,k3,k5,mN,hqn,hh⟩:=T.own
  refine Bool.eq_false_iff.mpr fun q=>?_
  have e:C=tp:=Value.ref.inj (beq_iff_eq.mp q)
  subst e
  rw [(hh h X).1] at htp
  have z:Value.type "type" = Value.type "tuple":=congrArg Obj.cls (Option.some.inj htp)
  exact absurd (Value.type.inj z) (by decide)
 ca:=fun {_ _ _ _ _ s} X p k=>by
  obtain ⟨h,g,d,t,os⟩:=s
  exact fx_attr T X p hc k
end HW
namespace HW
open PySem PySem.Spec PyProof.Rows L2
abbrev cxT (X:Cx) (pins:List (Addr×Obj)) (E:Value->Shared->Prop):Cx:={X with pn:=X.pn++pins,xe:=E}
abbrev cxM (X:Cx) (pins:List (Addr×Obj)) (e:Addr):Cx:={X with A:=X.A.mark (some (.ref e)),calm:=false,pn:=X.pn++pins,xe:=fun _ _=>False}
abbrev cxH (X:Cx) (pins:List (Addr×Obj)) (e:Addr) (oe:Obj):Cx:={X with A:=X.A.mark (some (.ref e)),calm:=false,pn:=(X.pn++pins)++[(e,oe)],xe:=fun _ _=>False}
section
variable {X:Cx} {pins pins':List (Addr×Obj)} {σ:L2.St} {H:Hp} {s:Shared} {E:Value->Shared->Prop} {e:Addr} {oe:Obj}
theorem inv_T (I:L2.Inv X pins σ H s):L2.Inv (cxT X pins E) [] σ H s :=
 ⟨⟨I.ok.mod,I.ok.kind,I.ok.glob,I.ok.blt,I.ok.above,I.ok.inj,I.ok.has,I.ok.cab,I.ok.hd,I.ok.frames,I.ok.stk,I.ok.exf,I.ok.bs,I.ok.bsz,I.ok.noex,I.ok.exfs,I.ok.funs,I.ok.frf⟩,I.os,I.bare,I.base,I.loc,I.cell,I.free,I.freeC,fun p hp=>I.pin p (by rw [List.append_nil] at hp;exact hp),I.hok,I.len⟩
theorem inv_unT (I:L2.Inv (cxT X pins E) pins' σ H s):L2.Inv X pins σ H s :=
 ⟨⟨I.ok.mod,I.ok.kind,I.ok.glob,I.ok.blt,I.ok.above,I.ok.inj,I.ok.has,I.ok.cab,I.ok.hd,I.ok.frames,I.ok.stk,I.ok.exf,I.ok.bs,I.ok.bsz,I.ok.noex,I.ok.exfs,I.ok.funs,I.ok.frf⟩,I.os,I.bare,I.base,I.loc,I.cell,I.free,I.freeC,fun p hp=>I.pin p (List.mem_append_left _ hp),I.hok,I.len⟩
theorem inv_M (I:L2.Inv X pins σ H s) (e:Addr):L2.Inv (cxM X pins e) [] σ H s :=
 ⟨⟨I.ok.mod,I.ok.kind,I.ok.glob,I.ok.blt,I.ok.above,I.ok.inj,I.ok.has,I.ok.cab,fun z=>(by cases z),I.ok.frames,I.ok.stk,I.ok.exf,I.ok.bs,I.ok.bsz,I.ok.noex,I.ok.exfs,I.ok.funs,I.ok.frf⟩,I.os,I.bare,I.base,I.loc,I.cell,I.free,I.freeC,fun p hp=>I.pin p (by rw [List.append_nil] at hp;exact hp),I.hok,I.len⟩
theorem inv_H (I:L2.Inv X pins σ H s) (he:s.heap.get? e=some oe) (hn:H e=none) (hl:e≠X.env.locals) (hf:e∉X.fs) (hd:∀ v,oe.data≠.cell v):L2.Inv (cxH X pins e oe) [] σ H s :=
 ⟨⟨I.ok.mod,I.ok.kind,I.ok.glob,I.ok.blt,I.ok.above,I.ok.inj,I.ok.has,I.ok.cab,fun z=>(by cases z),I.ok.frames,I.ok.stk,I.ok.exf,I.ok.bs,I.ok.bsz,I.ok.noex,I.ok.exfs,I.ok.funs,I.ok.frf⟩,I.os,I.bare,I.base,I.loc,I.cell,I.free,I.freeC,fun p hp=>by
  rw [List.append_nil] at hp
  rcases List.mem_append.mp hp with z | z
  ·exact I.pin p z
  ·rw [List.mem_singleton.mp z]
   exact ⟨he,hn,hl,hf,hd⟩,I.hok,I.len⟩
theorem inv_unH (I:L2.Inv (cxH X pins e oe) pins' σ H s) (hd:X.calm=true->X.A.handled=none):L2.Inv X pins σ H s :=
 ⟨⟨I.ok.mod,I.ok.kind,I.ok.glob,I.ok.blt,I.ok.above,I.ok.inj,I.ok.has,I.ok.cab,hd,I.ok.frames,I.ok.stk,I.ok.exf,I.ok.bs,I.ok.bsz,I.ok.noex,I.ok.exfs,I.ok.funs,I.ok.frf⟩,I.os,I.bare,I.base,I.loc,I.cell,I.free,I.freeC,fun p hp=>I.pin p (List.mem_append_left _ (List.mem_append_left _ hp)),I.hok,I.len⟩
theorem inv_gone {j t:Nat} {n:Str} {v:Option Value} {m:Str->Option Value} {h':Heap} (I:L2.Inv X pins σ H s) (hN:X.N.Nodup) (hj:X.N[j]?=some n)
  (hl:∀ (i:Nat) (x:Str) (w:V),X.N[i]?=some x->σ[i]?=some (some w)->Vis X.env.scope x->∃ u,RelV w u/\Look X.env s.heap m x u) (hn:h'.Ns X.env.locals (fun x=>if x=n then v else m x)) (hs:Heap.SameBut X.env.locals s.heap h'):L2.Inv X pins (σ.set j none) H {s with heap:=h',toks:=t}:=by
 have cne:∀ x c,X.env.cells.lookup x=some c->c≠X.env.locals:=fun x c hc z=>by
  obtain ⟨v,o,ho,hd⟩:=I.cell x c hc
  obtain ⟨m',⟨o',es,ep,ho',hd',_⟩,_⟩:=I.loc
  rw [z,ho'] at ho
  cases ho
  rw [hd'] at hd
  cases hd
 have cellK:∀ x c w,X.env.cells.lookup x=some c->s.heap.IsCell c w->h'.IsCell c w:=fun x c w hc ⟨o,ho,hd⟩=>⟨o,(hs.2 c (cne x c hc)).trans ho,hd⟩
 have ne0:∀ b o,X.s₀.heap.get? b=some o->b≠X.env.locals:=fun b o hb=>Nat.ne_of_lt (Nat.lt_of_lt_of_le (Heap.lt_size hb) I.ok.above)
 refine ⟨I.ok,I.os,I.bare,⟨fun b o e n hb hx=>(hs.2 b (ne0 b o e)).trans (I.base.keep b o e n hb hx),fun b o e n hb hx=>?_,I.base.free,fun b o e hx=>?_,I.base.tups,I.base.frzs,I.base.tbls⟩,⟨_,hn,fun i x w h1 h2 h3=>?_⟩,fun x c hc=>?_,I.free,I.freeC,fun p hp=>?_,fun b ob e=>?_,by rw [List.length_set];exact I.len⟩
 ·obtain ⟨sl,e1⟩:=I.base.slot b o e n hb hx
  exact ⟨sl,(hs.2 b (ne0 b o e)).trans e1⟩
 ·obtain ⟨o',e1⟩:=I.base.there b o e hx
  exact ⟨o',(hs.2 b (ne0 b o e)).trans e1⟩
 ·have hij:i≠j:=fun z=>by
   subst z
   have hlt:i<σ.length:=by rw [I.len];exact (List.getElem?_eq_some_iff.mp hj).1
   rw [List.getElem?_set_self hlt] at h2
   cases h2
  rw [List.getElem?_set_ne (Ne.symm hij)] at h2
  obtain ⟨u,r,lk⟩:=hl i x w h1 h2 h3
  have hxn:x≠n:=fun z=>hij (nodup_ix hN h1 (z ▸ hj))
  refine ⟨u,r,?_⟩
  rcases lk with ⟨k,q⟩ | ⟨k,c,hc,z⟩
  ·exact .inl ⟨k,(if_neg hxn).trans q⟩
  ·exact .inr ⟨k,c,hc,cellK x c _ hc z⟩
 ·obtain ⟨w,z⟩:=I.cell x c hc
  exact ⟨w,cellK x c w hc z⟩
 ·obtain ⟨e1,e2,e3,e4,e5⟩:=I.pin p hp
  exact ⟨(hs.2 p.1 e3).trans e1,e2,e3,e4,e5⟩
 ·refine (I.hok b ob e).stay (fun c w' hc q=>(hs.2 c ?_).trans q) (fun _ q=>q) (fun _ _ q=>q) fun _ _ _ q=>q
  rintro rfl
  rcases hc with z | hc
  ·rw [<- z,I.free] at e;cases e
  ·rw [I.free] at hc;cases hc
end
section
variable {M:Model} {A:Around} {E:Value->Shared->Prop} {h:Heap} {g:Array GenState} {d:Drawn} {t:Nat} {os:OsState} {K:PySem.W.Frag} {C W e:Addr} {newId nW:String} {oe:Obj}
theorem fx_match (T:Two K C W newId nW) (x:K.In h) {Q:Bool->Shared->Prop} (he:h.get? e=some oe) (hcls:oe.cls=.ref C) (hq:Q true ⟨h,g,d,t,os⟩):wpAny M A (excMatches (.ref e) (.ref W)) Q E ⟨h,g,d,t,os⟩:=by
 obtain ⟨N',nm',q',bs',hdct',sn',sub',ab',col',dd',j0,j1,j2,j3,j5,mN',hqn',hh'⟩:=T.base
 have hW:=(hh' h x).1
 have hcB:(Value.ref W::VE).contains (.type "BaseException")=true:=rfl
 have hcW:(Value.ref C::.ref W::VE).contains (.ref W)=true:=by simp
 have f:=tc_notTuple
 unfold excMatches
 repeat (first | (with_reducible refine wpAny_loadPart_at he ?_;rw [hcls]) | with_reducible refine wpAny_loadPart_at hW ?_ | (with_reducible refine wpAny_isSubtype_exc hW ?_;rw [hcB]) | (with_reducible refine fx_sub T x ?_;rw [hcW]) | wp_step)
 exact hq
end
section
variable {X:Cx} {ca:Nat->Addr} {W:Addr} {newId nW:String} {x n:Str} {np apos hpos pos:Pos} {tg e0:Expr} {b₀:Stmt} {suite:List Stmt} {fx:XD} {stf:D->R->Option R} {gs:Nat->Nat->R->Option Out}
def tTry (K:PySem.W.Frag) (N j:Nat) (fx:XD) (stf:D->R->Option R) (gs:Nat->Nat->R->Option Out):TS:=fun D σ H=>∃ ρ r,EnvR K H ρ σ/\fx ρ=some r/\match r with
 | .ok d=>∃ ρ',stf d ρ=some ρ'/\∀ σ' H',Same H H'->EnvR K H' ρ' σ'->D.nx σ' H'
 | .error c=>c<2/\∀ e:Nat,∃ ρ',gs c e (at0 N j e)=some (.nx ρ')/\∀ σ' H',Same H H'->EnvR K H' (ρ'.set j none) σ'->D.nx σ' H'
theorem nB (j:Nat) (T:∀ c,c<2->Two X.K (ca c) W newId nW) (hc:X.calm=true) (hcells:X.env.cells=[]) (hstk:X.stack=X.env::X.outer) (hfr:X.env.frame=some X.env.locals) (hex:X.ex=[]) (hN:X.N.Nodup) (hm:X.mg x=some (.ref W))
  (ha:∀ pins E,SX ca (cxT X pins E) e0 fx) (hg:∀ pins E,SG (cxT X pins E) tg stf)
  (hs:∀ pins e oe c,c<2->oe.cls=.ref (ca c)->SS (cxH X pins e oe) (b₀::suite) (gs c e))
  (hj:X.N[j]?=some n:=by rfl) (hloc:X.env.kindOf n=some .local:=by rfl) (hgl:Gl X x:=by rfl) (hd:(x==("__debug__" : Str))=false:=by decide)
  (s1:swapsWithSole [tg] e0 apos.line X.env=pure false:=by rfl) (s2:swappedStores [tg] e0 X.env=pure none:=by rfl) (s3:(assignEach [tg] X.env).map (·.2)=[assign tg X.env]:=by rfl) :
  PS X (.Try [.Assign [tg] e0 apos] [.ExceptHandler (some (.Name x np)) (some n) (b₀::suite) hpos] [] [] pos) (tTry X.K X.N.length j fx stf gs):=by
 intro pins s σ H D I ⟨ρ,r,er,e1,q⟩
 refine wpAny_Try_except ?_
 generalize hE:(fun (ev:Value) (s₁:Shared)=>wpAny (model X.prog X.w) X.A (noteFrame ev X.env) (fun _ s₂=>wpAny (model X.prog X.w) X.A (setFlight ev none) (fun _ s₃=>wpAny (model X.prog X.w) X.A (handleBy ev X.env [.ExceptHandler (some (.Name x np)) (some n) (b₀::suite) hpos]) (SP X pins D) X.xe s₃) X.xe s₂) X.xe s₁)=E'
 have body:=(fg (kB (pos:=apos) (ha pins E') (hg pins E') s1 s2 s3)) [] s σ H {nx:=fun σ' H'=>D.nx σ' H',rt:=fun _ _=>False} (inv_T I) ⟨ρ,r,er,e1,by
  cases r with
  | ok d =>
   obtain ⟨ρ',e2,k⟩:=q
   exact fun v H1 t1 rv=>⟨ρ,_,d,ρ',(er.mono t1).t,rv,e2,fun σ2 H2 t2 er2=>k σ2 H2 (t1.trans t2) er2.1⟩
  | error c =>
   obtain ⟨hc2,k⟩:=q
   rintro H1 t1 e s₁ ⟨pins',σ',B,xa⟩
   rw [<- hE]
   have xe1:Exc B (X.env::X.outer) e (ca c) s₁.heap:=by rw [<- hstk];exact xa.exc
   have IX:L2.Inv X pins σ' H1 s₁:=inv_unT xa.inv
   refine note_any (by rw [<- hstk];exact IX.ok.frames) hfr xe1 fun h1 x1 u1=>flight_any (s:={s₁ with heap:=h1}) x1 fun h2 x2 u2=>?_
   have hlf:X.env.locals∈frs X.stack:=by rw [hstk];exact List.mem_filterMap.mpr ⟨X.env,List.mem_cons_self,hfr⟩
   have fsub:∀ b∈X.fs,b∈frs X.stack:=fun b hb=>by
    rw [hstk]
    obtain ⟨env',z1,z2⟩:=List.mem_filterMap.mp hb
    exact List.mem_filterMap.mpr ⟨env',List.mem_cons_of_mem _ z1,z2⟩
   have stay:∀ h':Heap,Exc B (X.env::X.outer) e (ca c) h'->s₁.heap.UpToSlots h'->L2.Inv X pins σ' H1 {s₁ with heap:=h' }:=fun h' x' u' =>
    inv_stay IX xa.exc.st x'.st (fun b _ o ho nd=>u' b o ho nd) (fun b o hb hn hx=>xa.ent b o hb (fun hm=>by
     rcases List.mem_cons.mp (IX.stkSub b hm) with z | z
     ·rw [z] at hb;exact absurd (Nat.lt_of_lt_of_le (Heap.lt_size hb) IX.ok.above) (Nat.lt_irrefl _)
     ·exact hn z) hx) xa.hld (fun p hp=>xa.pin p (List.mem_append_left _ hp)) (fun y cc hcc=>by rw [hcells] at hcc;cases hcc)
   have I2:=stay h2 x2 (u1.trans u2)
   obtain ⟨a0,fl,oe,vs,TT,oT,ts,he,⟨hcls,h0⟩,hdt,r4,r5,r6,r7,r8,r9⟩:=id x2.tr
   refine wpAny_handleBy_cons (codeAny_handlers_test (eh (E:=_) (inv_M I2 e) hgl hm ?_ hd)) (by intro z;cases z)
   refine fx_match (T c hc2) I2.kIn he hcls ?_
   refine codeAny_handlers_suite_as ?_
   refine flight_any (s:={s₁ with heap:=h2}) x2 fun h3 x3 u3=>?_
   have I3:=stay h3 x3 ((u1.trans u2).trans u3)
   obtain ⟨a0',fl',oe',vs',TT',oT',ts',he',⟨hcls',h0'⟩,hdt',_⟩:=id x3.tr
   have hHe:H1 e=none:=by
    cases z:H1 e with
    | none=>rfl
    | some u=>obtain ⟨o',eo⟩:=xa.hld e u z;rw [x3.ne] at eo;cases eo
   have nfr:∀ b∈frs X.stack,e≠b:=fun b hb z=>by
    obtain ⟨_,o,ho,nd⟩:=x3.fr.mem (by rw [<- hstk];exact hb)
    rw [<- z,he'] at ho
    cases ho
    exact nd vs' hdt'
   have J:=inv_H I3 he' hHe (nfr _ hlf) (fun z=>nfr e (fsub e z) rfl) (fun v z=>by rw [hdt'] at z;cases z)
   have lv:Vis X.env.scope n:=.inl hloc
   refine store_ok (X:=cxH X pins e oe') (i:=j) (v:=.ref e) (u:=.ref e) J hN hj (.inl hloc) rfl (fun s4 J4=>?_) (.inr hloc)
   obtain ⟨ρ',eg,kk⟩:=k e
   have hlen:(at0 X.N.length j e).length=X.N.length:=by unfold at0;rw [List.length_set,List.length_replicate]
   have erH:EnvT X.K H1 (at0 X.N.length j e) [] (σ'.set j (some (.ref e))):=by
    refine ⟨⟨by rw [hlen,List.length_set,I3.len];exact Nat.le_refl _,fun i d hi=>?_⟩,?_⟩
    ·unfold at0 at hi
     by_cases hij:i=j
     ·subst hij
      have hlt:i<(List.replicate X.N.length (none:Option HW.D)).length:=by rw [List.length_replicate];exact (List.getElem?_eq_some_iff.mp hj).1
      rw [List.getElem?_set_self hlt] at hi
      cases hi
      exact ⟨.ref e,List.getElem?_set_self (by rw [I3.len];exact (List.getElem?_eq_some_iff.mp hj).1),rfl⟩
     ·rw [List.getElem?_set_ne (Ne.symm hij),List.getElem?_replicate] at hi
      split at hi<;>cases hi
    ·rw [hlen,<- I3.len]
     exact List.drop_eq_nil_of_le (by rw [List.length_set];exact Nat.le_refl _)
   refine wpAny_mono (hs pins e oe' c hc2 hcls' [] s4 _ H1 {nx:=fun σ5 H5=>Same H1 H5/\EnvR X.K H5 ρ' σ5,rt:=fun _ _=>False} J4 ⟨_,[],.nx ρ',erH,eg,fun H5 t5 σ5 er5=>⟨t5,er5.1⟩⟩) (fun fl5 s5 h5=>?_) fun _ _ z=>False.elim z
   cases fl5 with
   | next =>
    obtain ⟨σ5,H5,J5,t5,er5⟩:=h5
    have I5:=inv_unH J5 I.ok.hd
    obtain ⟨m,hns,hlk⟩:=I5.loc
    refine wpAny_nameGoes_keeps hloc hns (by rw [I5.ok.kind];rfl) fun h6 v6 hn6 sb6=>?_
    refine ⟨σ5.set j none,H5,inv_gone I5 hN hj hlk hn6 sb6,kk _ H5 (t1.trans t5) ⟨by rw [List.length_set,List.length_set];exact er5.1,fun i d hi=>?_⟩⟩
    by_cases hij:i=j
    ·subst hij
     have:i<ρ'.length:=by have:=(List.getElem?_eq_some_iff.mp hi).1;rwa [List.length_set] at this
     rw [List.getElem?_set_self this] at hi
     cases hi
    ·rw [List.getElem?_set_ne (Ne.symm hij)] at hi ⊢
     exact er5.2 i d hi
   | brk=>obtain ⟨_,_,_,z⟩:=h5;exact z.elim
   | cont=>obtain ⟨_,_,_,z⟩:=h5;exact z.elim
   | ret u=>obtain ⟨_,_,_,_,_,z⟩:=h5;exact z.elim⟩
 refine wpAny_mono body (fun fl s₁ h=>?_) (fun ev s₁ h=>h)
 cases fl with
 | next =>
  obtain ⟨σ',H',J,k⟩:=h
  exact wpAny_execs_nil ⟨σ',H',inv_unT J,k⟩
 | brk=>obtain ⟨_,_,_,z⟩:=h;exact z.elim
 | cont=>obtain ⟨_,_,_,z⟩:=h;exact z.elim
 | ret u=>obtain ⟨_,_,_,_,_,z⟩:=h;exact z.elim
end
end HW
namespace HW
open PySem PySem.Spec PyProof.Rows L2
section
variable {X:Cx}
theorem eqU_b (k b:Bool):eqU (.bl k) (.bool b)=(b==k):=by cases k<;>cases b<;>rfl
theorem bools_flat {K:PySem.W.Frag} {H:Hp}:∀ {ds:List D} {bs:List Bool} {vs:List V},bools ds=some bs->Reps K H ds vs->vs.all flatV=true
 | [],_,vs,_,h=>by cases (show vs=[] from h);rfl
 | d::ds,bs,_,e,h=>by
  obtain ⟨v,r,rfl,q,t⟩:=h
  cases d with
  | bl b =>
   obtain ⟨bs',e1,_⟩:=mapS e
   cases (show v=_ from q)
   rw [List.all_cons,bools_flat e1 t];rfl
  | _=>cases e
theorem mX:MtD X "list.count" fCntB:=by
 intro pins s σ H x vs v us Q I rx rv h
 obtain ⟨dx,ds,d,r1,r2,e,q⟩:=h
 match dx,ds,e with
 | .lst es,[.bl k],e =>
  obtain ⟨a,xs,rfl,ha,rr⟩:=r1
  cases (show v=_ from rx)
  obtain ⟨u,r',rfl,k1,r2⟩:=r2
  cases (show r'=[] from r2)
  cases (show u=_ from k1)
  obtain ⟨u',rfl,rfl⟩:=vals1 rv
  obtain ⟨bs,e1,e2⟩:=bindS (show (bools es).bind _=some d from e)
  split at e2
  case isFalse=>cases e2
  case isTrue hn =>
  cases e2
  obtain ⟨_,its,n,rv2,hl,eo⟩:=I.lstM ha
  have hits:=bools_rep e1 rr rv2
  have hEq:=fun (A:Around) (s:Shared)=>cC (A:=A) (s:=s) (x:=.bl k) (v:=.bool k) rfl rfl rv2 (bools_flat e1 rr)
  refine call_meets PySem.F.slot_list_count ⟨_,eo,rfl⟩ PySem.F.entry_list_count (PySem.F.args_list_count_2 _ _)
   (PySem.SeqAt.list_countAt a its.toArray n none _ (.bool k) (eqU (.bl k))) ⟨eo,fun y hy=>hEq _ _ y (by simpa using hy),?_⟩
  have hcnt:its.toArray.toList.countP (eqU (.bl k))=bs.countP (·==k):=by
   rw [List.toList_toArray,hits,List.countP_map]
   exact congrArg (fun p=>List.countP p bs) (funext fun b=>eqU_b k b)
  rw [hcnt]
  exact ⟨.int ((bs.countP (·==k):Nat):Int),H,I.tok _,⟨_,rfl⟩,q _ H (Same.refl H) rfl⟩
theorem mZ:MtD X "list.index" fIdxB:=by
 intro pins s σ H x vs v us Q I rx rv h
 obtain ⟨dx,ds,d,r1,r2,e,q⟩:=h
 match dx,ds,e with
 | .lst es,[.bl k],e =>
  obtain ⟨a,xs,rfl,ha,rr⟩:=r1
  cases (show v=_ from rx)
  obtain ⟨u,r',rfl,k1,r2⟩:=r2
  cases (show r'=[] from r2)
  cases (show u=_ from k1)
  obtain ⟨u',rfl,rfl⟩:=vals1 rv
  obtain ⟨bs,e1,e2⟩:=bindS (show (bools es).bind _=some d from e)
  split at e2
  case isFalse=>cases e2
  case isTrue hn =>
  cases e2
  obtain ⟨_,its,n,rv2,hl,eo⟩:=I.lstM ha
  have hits:=bools_rep e1 rr rv2
  have hEq:=fun (A:Around) (s:Shared)=>cC (A:=A) (s:=s) (x:=.bl k) (v:=.bool k) rfl rfl rv2 (bools_flat e1 rr)
  have hj:bs.idxOf k<bs.length:=List.idxOf_lt_length_iff.mpr hn.1
  have hat:∀ i (h1:i<its.length) (h2:i<bs.length),eqU (.bl k) its[i]=(bs[i]==k):=fun i h1 h2=>by
   have:its[i]=.bool bs[i]:=by simp [hits]
   rw [this];exact eqU_b k _
  have hlen:its.length=bs.length:=by rw [hits,List.length_map]
  refine call_meets PySem.F.slot_list_index ⟨_,eo,rfl⟩ PySem.F.entry_list_index (PySem.F.args_list_index_2 _ _)
   (PySem.SeqAt.list_indexAt a its.toArray n none _ (.bool k) (eqU (.bl k)) (bs.idxOf k) (by simpa [hlen] using hj) (by omega) ?_ ?_) ⟨eo,fun y hy=>hEq _ _ y (by simpa using hy),?_⟩
  ·show eqU (.bl k) its[bs.idxOf k]=true
   rw [hat _ (by omega) hj]
   simpa using List.getElem_idxOf hj
  ·intro j hjs hlt
   show eqU (.bl k) its[j]=false
   rw [hat j (by simpa using hjs) (by omega)]
   exact List.not_of_lt_findIdx (p:=(·==k)) hlt
  ·exact ⟨.int ((bs.idxOf k:Nat):Int),H,I.tok _,⟨_,rfl⟩,q _ H (Same.refl H) rfl⟩
theorem cntB_lst {G:List D->Option D} (hG:G=fCntB\/G=fIdxB) {x:D} {ds:List D} {d:D} (h:G (x::ds)=some d):∃ es,x=.lst es:=by
 rcases hG with rfl | rfl
 ·cases x with
  | lst z=>exact ⟨z,rfl⟩
  | _=>cases h
 ·cases x with
  | lst z=>exact ⟨z,rfl⟩
  | _=>cases h
theorem mG {a e:Expr} {es:List Expr} {f:R->Option D} {F:R->Option (List D)} {ap cp:Pos} (ha:SE X a f) (hF:SA X (e::es) F)
  (hbase:attributeBase a "count" X.env (eval a X.env)=eval a X.env:=by rfl)
  (hfew:((backTo cp (starEach (e::es) X.env)).all (fun x=>!x.1)&&(backToKw cp (keywordEach [] X.env)).all (fun x=>x.1.isSome)&&decide ((e::es).length+([]:List Keyword).length+(if ([]:List Keyword).isEmpty then 0 else 1)<30))=true:=by rfl)
  (hline:(ap.endLine==cp.line)=true:=by rfl):SE X (.Call (.Attribute a "count" ap) (e::es) [] cp) (callD fCntB (argC f F)):=by
 have hst:=hF.2.2
 rw [List.all_cons,Bool.and_eq_true] at hst
 refine (lW (T:="list") PySem.F.plainAttrs_list PySem.F.slot_list_count PySem.F.type_list_count mX ha hF.1 hbase hfew hline (ay es X.env hst.1) (bS (pos:=cp) (env:=X.env) hst.2)).imp fun σ H Q ⟨ρ,d,er,e,q⟩=>?_
 obtain ⟨dd,e1,e⟩:=bindS e
 obtain ⟨x,e2,e1⟩:=bindS e1
 obtain ⟨ds,e3,e1⟩:=mapS e1
 subst e1
 obtain ⟨es,rfl⟩:=cntB_lst (.inl rfl) e
 exact ⟨ρ,_,er,e2,fun v H1 s1 r1=>⟨by obtain ⟨a,xs,rfl,ha,rr⟩:=r1;exact .inl ⟨rfl,xs,.inl (.inl ha)⟩,ρ,ds,er.mono s1,e3,fun vs H2 s2 r2=>⟨.lst es,ds,d,r1.mono s2,r2,e,fun u H3 s3 r3=>q u H3 (s1.trans (s2.trans s3)) r3⟩⟩⟩
theorem mQ {a e:Expr} {es:List Expr} {f:R->Option D} {F:R->Option (List D)} {ap cp:Pos} (ha:SE X a f) (hF:SA X (e::es) F)
  (hbase:attributeBase a "index" X.env (eval a X.env)=eval a X.env:=by rfl)
  (hfew:((backTo cp (starEach (e::es) X.env)).all (fun x=>!x.1)&&(backToKw cp (keywordEach [] X.env)).all (fun x=>x.1.isSome)&&decide ((e::es).length+([]:List Keyword).length+(if ([]:List Keyword).isEmpty then 0 else 1)<30))=true:=by rfl)
  (hline:(ap.endLine==cp.line)=true:=by rfl):SE X (.Call (.Attribute a "index" ap) (e::es) [] cp) (callD fIdxB (argC f F)):=by
 have hst:=hF.2.2
 rw [List.all_cons,Bool.and_eq_true] at hst
 refine (lW (T:="list") PySem.F.plainAttrs_list PySem.F.slot_list_index PySem.F.type_list_index mZ ha hF.1 hbase hfew hline (ay es X.env hst.1) (bS (pos:=cp) (env:=X.env) hst.2)).imp fun σ H Q ⟨ρ,d,er,e,q⟩=>?_
 obtain ⟨dd,e1,e⟩:=bindS e
 obtain ⟨x,e2,e1⟩:=bindS e1
 obtain ⟨ds,e3,e1⟩:=mapS e1
 subst e1
 obtain ⟨es,rfl⟩:=cntB_lst (.inr rfl) e
 exact ⟨ρ,_,er,e2,fun v H1 s1 r1=>⟨by obtain ⟨a,xs,rfl,ha,rr⟩:=r1;exact .inl ⟨rfl,xs,.inl (.inl ha)⟩,ρ,ds,er.mono s1,e3,fun vs H2 s2 r2=>⟨.lst es,ds,d,r1.mono s2,r2,e,fun u H3 s3 r3=>q u H3 (s1.trans (s2.trans s3)) r3⟩⟩⟩
def NmV (X:Cx) (x:Str) (c:Value):Prop:=∀ pins σ H s (Q:Value->Shared->Prop) p,L2.Inv X pins σ H s->Q c s->wpAny (model X.prog X.w) X.A (eval (.Name x p) X.env) Q X.xe s
theorem nm_own {x:Str} {c:Value} (hm:X.mg x=some c) (hg:Gl X x:=by rfl) (hd:(x==("__debug__" : Str))=false:=by decide):NmV X x c:=fun pins σ H s Q p I h=>eh I hg hm h hd
theorem nm_blt {x:Str} {c:Value} (hm:X.mg x=none) (hv:bootBuiltins x=some c:=by kernel_rfl) (hg:Gl X x:=by rfl) (hn:x ≠ "__name__":=by decide) (hd:(x==("__debug__" : Str))=false:=by decide):NmV X x c:=fun pins σ H s Q p I h=>dt I hg hm hv h hn hd
theorem kj {C W e:Addr} {oe:Obj} {newId nW:String} {n x:Str} {cv:Value} {b:Bool} {p p1 p2 pos:Pos} (j:Nat) (T:Two X.K C W newId nW) (hp:(e,oe)∈X.pn) (hcl:oe.cls=.ref C) (hk:PySem.W.kitOne X.K (.ref C) cv=some b) (hx:NmV X x cv) (hm:X.mg "isinstance" = none)
  (hN:X.N[j]?=some n:=by rfl) (hv:Vis X.env.scope n:=by first | exact Or.inl rfl | exact Or.inr (Or.inl rfl) | exact Or.inr (Or.inr rfl)) (hg:Gl X "isinstance":=by rfl) (hd:(n==("__debug__" : Str))=false:=by decide) (hcd:(n==("__classdict__" : Str))=false:=by decide) :
  SE X (.Call (.Name "isinstance" p) [.Name n p1,.Name x p2] [] pos) (isCD j e b):=by
 intro pins s σ H Q I ⟨ρ,d,er,e1,q⟩
 have hb:d=.bl b/\vAt j ρ=some (.obj 9 e [] []):=by
  unfold isCD at e1
  split at e1
  ·rename_i a' hat
   split at e1
   ·rename_i ha
    cases e1
    exact ⟨rfl,by rw [hat,ha]⟩
   ·cases e1
  ·cases e1
 obtain ⟨rfl,hat⟩:=hb
 obtain ⟨v,hσ,rv⟩:=er.at hat
 cases (show v=_ from rv)
 have st1:=ay (e:=.Name n p1) [.Name x p2] X.env rfl
 refine wpAny_Call_Name_kw (dt I hg hm (show bootBuiltins "isinstance" = some (.builtin "isinstance") by kernel_rfl) ?_ (by decide) (by decide))
 refine PyProof.Rows.callWith_builtin1 ?_ st1 (bS (pos:=pos) (env:=X.env) (es:=[.Name x p2]) rfl)
 refine spliced_more (thn ((iq (pos:=p1) hN hv hd hcd) pins s σ H (fun v H1=>v=.ref e/\H1=H) I ⟨.ref e,hσ,rfl,rfl⟩) fun u s1 ⟨y,H1,I1,r1,ey,eH⟩=>?_) st1
 subst ey eH
 cases (show u=_ from r1)
 refine spliced_more (hx pins σ H1 s1 _ p2 I1 ?_) (ay (e:=.Name x p2) [] X.env rfl)
 refine spliced_none ?_
 refine PySem.W.kia_one (kitx_exc (a:=e) T hcl) I1.kIn (I1.pin _ (List.mem_append_left _ hp)).1 hk (fun z=>by cases z) fun tk=>?_
 exact ⟨.bl b,H1,I1.kept (t':=tk) fun b o eb=>eb,rfl,q _ H1 (Same.refl H1) rfl⟩
end
theorem cls_mk {K:PySem.W.Frag} {C N:Addr} {bm bs sub:List Value} {newId:String} {nm q:Str} {hdct ab:Bool} {sn:List Str} {col:Option Bool} {dd:Option Addr} {k0 k1 k2 k3 k5:Option Value}
  (l:K.lookup C=some (excClassObj nm q C N bs bm hdct sn sub ab col dd k0 k1 k2 k3 k5 newId)) (ex:PySem.W.excIn K C VE newId=true) (h0:PySem.W.nsIn K N "__init__" = some none) (h1:PySem.W.nsIn K N "__getattribute__" = some none) (h2:PySem.W.nsIn K N "__getattr__" = some none) (h3:PySem.W.nsIn K N "__class__" = some none):ClsX K C bm newId:=by
 have hok:PySem.W.nsOkIn K N=true:=by
  unfold PySem.W.excIn at ex
  rw [l] at ex
  simp only [Bool.and_eq_true] at ex
  exact ex.1.2
 have hN:∃ c d es n sl,K.lookup N=some ⟨c,d,.dict es n,sl⟩:=by
  unfold PySem.W.nsOkIn at hok
  split at hok
  ·rename_i c d es n sl ho
   exact ⟨_,_,_,_,_,ho⟩
  ·cases hok
 obtain ⟨c,d,es,ep,sl,hl⟩:=hN
 have nsH:∀ h,K.In h->h.Ns N (fun x=>nsFind es x):=fun h x=>by
  obtain ⟨o,es',ep',ho,hd,hs,hf⟩:=Heap.Ns.of_isNs (PySem.W.isNs_of_in x hok)
  have:=x _ _ hl
  rw [ho] at this
  cases this
  cases hd
  exact ⟨_,es,ep,ho,rfl,hs,fun _=>rfl⟩
 refine ⟨N,nm,q,bs,hdct,sn,sub,ab,col,dd,k0,k1,k2,k3,k5,fun x=>nsFind es x,fun n hn=>?_,fun h x=>⟨x _ _ l,nsH h x⟩⟩
 have none_of:∀ n,PySem.W.nsIn K N n=some none->nsFind es n=none:=fun n e=>by
  unfold PySem.W.nsIn at e
  rw [hl] at e
  dsimp only at e
  split at e
  ·cases e
  ·rename_i he
   unfold nsFind findBy
   rw [<- Array.find?_toList,he]
   rfl
 simp only [qnm,List.mem_cons,List.not_mem_nil,or_false] at hn
 rcases hn with rfl | rfl | rfl | rfl
 ·exact none_of _ h0
 ·exact none_of _ h1
 ·exact none_of _ h2
 ·exact none_of _ h3
theorem kit_same {K:PySem.W.Frag} {C:Addr}:PySem.W.kitOne K (.ref C) (.ref C)=some true:=by unfold PySem.W.kitOne;rw [if_pos (by simp)]
theorem kit_other {K:PySem.W.Frag} {C C':Addr} {cd:ClassData} (hne:(Value.ref C==Value.ref C')=false) (h1:PySem.W.clsIn K C'=some cd) (h2:PySem.W.typeIn K (.ref C')=some (.type "type")) {b:Bool} (h3:PySem.W.subIn K (.ref C) (.ref C')=some b):PySem.W.kitOne K (.ref C) (.ref C')=some b:=by
 unfold PySem.W.kitOne
 rw [if_neg (by rw [hne];decide)]
 unfold PySem.W.kitCls
 dsimp only
 rw [h1,h2,if_pos (by rfl)]
 exact h3
theorem kit_blt {K:PySem.W.Frag} {C:Addr} {T:String} {b:Bool} (hmt:PySem.W.kitMeta T=true) (h3:PySem.W.subIn K (.ref C) (.type T)=some b):PySem.W.kitOne K (.ref C) (.type T)=some b:=by
 unfold PySem.W.kitOne
 rw [if_neg (by intro z;cases beq_iff_eq.mp z)]
 unfold PySem.W.kitCls
 dsimp only
 rw [if_pos hmt]
 exact h3
end HW
namespace HW
open PySem PySem.Spec PyProof.Rows L2
abbrev NV:String:="ValueError.__new__"
structure ErrK (K:PySem.W.Frag) (mg:Str->Option Value) (ca:Nat->Addr) (W:Addr):Prop where
 two:∀ c,c<2->Two K (ca c) W NV NV
 k0:∀ c,c<2->PySem.W.kitOne K (.ref (ca c)) (.ref (ca 0))=some (c==0)
 k1:∀ c,c<2->PySem.W.kitOne K (.ref (ca c)) (.ref (ca 1))=some (c==1)
 kv:∀ c,c<2->PySem.W.kitOne K (.ref (ca c)) (.type "ValueError")=some true
 m0:mg "NoText" = some (.ref (ca 0))
 m1:mg "NoDeed" = some (.ref (ca 1))
 mw:mg "WatchError" = some (.ref W)
section
variable {X:Cx} {ca:Nat->Addr} {W:Addr} {e:Expr} {es:List Expr} {f:R->Option D} {F:R->Option (List D)} {p pos np cpos:Pos}
theorem sy_raise0 (EK:ErrK X.K X.mg ca W) (hc:X.calm=true) (ha:SE X e f) (hg:Gl X "NoText":=by rfl) (hst:noStar e=true:=by rfl):SX1 ca X (.Raise (some (.Call (.Name "NoText" np) [e] [] cpos)) none pos) (xRaise 0 f) :=
 sy_raise (EK.two 0 (by decide)) PySem.F.excBase_ValueError (by decide) hc EK.m0 ha hg (by decide) hst
end
theorem bR {P:Program} {w:World} {K:PySem.W.Frag} {mg:Str->Option Value} {base:Heap} {x qual:Str} {st:Stmt} {f:Addr} {fd:FuncData} {N ps:List Str} {k:Nat} {F:List D->Option (Except Nat D)} {g:XO} {ca:Nat->Addr}
  (Fn:Fun K x qual st f fd) (S:FnScope N ps (defScope st)) (hlen:∀ ds d,F ds=some d->ds.length=ps.length)
  (hb:∀ (cdv:Value) (A:Around) (outer:List Env) (s:Shared) (H:Hp) (E:XK),Room k (A.deeper (envOfC qual (defScope st) s.heap.objs.size f cdv))->SXS ca (cxOf (CXe P w) P w K mg base N qual (defScope st) f cdv A outer s H E) (defBody st) g)
  (hF:∀ ds d,F ds=some d->(g (beg N.length ds)).bind retX=some d):FnOk P w K mg base (CXe P w) (k+1) f fd ps (spX ca K F):=by
 obtain ⟨oc,od,kV,doc,pm,an,cdv,ct,osl,rfl,lk,hcd⟩:=Fn.ex
 refine mr lk hcd S (fun vs H Q E h=>?_) (fun A outer s H vs Q E hr h=>?_)
 ·obtain ⟨ds,d,r,e,_⟩:=h
  rw [<- r.length]
  exact hlen ds d e
 ·obtain ⟨ds,d,r,e,q⟩:=h
  refine ⟨_,hb _ A outer s H E hr,?_⟩
  have z:=hF ds d e
  obtain ⟨o,ho,z⟩:=bindS z
  refine ⟨beg N.length ds,_,o,(beg_env r).t,ho,?_⟩
  match o,z with
  | .error c,z =>
   cases z
   exact fun H1 s1=>xt_def (q H1 s1) s1
  | .ok (.rt d'),z =>
   cases z
   exact fun H1 s1 v rv=>q v H1 s1 rv
  | .ok (.nx ρ),z =>
   cases z
   exact fun H1 s1 σ _=>q .non H1 s1 rfl
  | .ok (.bk ρ),z=>cases z
  | .ok (.ct ρ),z=>cases z
section
variable {X:Cx} {ca:Nat->Addr} {W:Addr} {n y:Str} {np apos hpos pos rp yp:Pos} {tg e0:Expr} {b₀:Stmt} {suite:List Stmt} {fx:XD} {stf:D->R->Option R} {gs:Nat->Nat->R->Option Out}
theorem nM (j jf:Nat) (EK:ErrK X.K X.mg ca W) (hc:X.calm=true) (hcells:X.env.cells=[]) (hstk:X.stack=X.env::X.outer) (hfr:X.env.frame=some X.env.locals) (hex:X.ex=[]) (hN:X.N.Nodup)
  (ha:∀ pins E,SX ca (cxT X pins E) e0 fx) (hg:∀ pins E,SG (cxT X pins E) tg stf)
  (hs:∀ pins e oe c,c<2->oe.cls=.ref (ca c)->SS (cxH X pins e oe) (b₀::suite) (gs c e)) (hy:SE X (.Name y yp) (vAt jf))
  (hj:X.N[j]?=some n:=by rfl) (hloc:X.env.kindOf n=some .local:=by rfl) (hgl:Gl X "WatchError":=by rfl)
  (s1:swapsWithSole [tg] e0 apos.line X.env=pure false:=by rfl) (s2:swappedStores [tg] e0 X.env=pure none:=by rfl) (s3:(assignEach [tg] X.env).map (·.2)=[assign tg X.env]:=by rfl) :
  SS X [.Try [.Assign [tg] e0 apos] [.ExceptHandler (some (.Name "WatchError" np)) (some n) (b₀::suite) hpos] [] [] pos,.Return (some (.Name y yp)) rp] (gTry X.N.length j jf fx stf gs):=by
 refine PSs.imp (fk (nB j EK.two hc hcells hstk hfr hex hN EK.mw ha hg hs hj hloc hgl (by decide) s1 s2 s3) (fg (ax hy))) fun E σ H ⟨ρ,τ,o,er,e1,q⟩=>?_
 obtain ⟨r,e2,e3⟩:=bindS e1
 refine ⟨ρ,r,er.1,e2,?_⟩
 cases r with
 | ok d =>
  obtain ⟨ρ',e4,e5⟩:=bindS e3
  obtain ⟨v,e6,e7⟩:=mapS e5
  subst e7
  exact ⟨ρ',e4,fun σ' H' t er'=>⟨ρ',_,.rt v,er'.t,by show (vAt jf ρ').map _=_;rw [e6];rfl,fun H2 t2=>q H2 (t.trans t2)⟩⟩
 | error c =>
  have e3':=tryErr e3
  obtain ⟨d,rfl,h2,he⟩:=e3'
  refine ⟨h2,fun e=>?_⟩
  obtain ⟨ρ',eg,ev⟩:=he e
  exact ⟨ρ',eg,fun σ' H' t er'=>⟨ρ'.set j none,_,.rt d,er'.t,by show (vAt jf (ρ'.set j none)).map _=_;rw [ev];rfl,fun H2 t2=>q H2 (t.trans t2)⟩⟩
end
section
variable {X:Cx} {k1 k2 v1 v2:Str} {ke1 ke2 e1 e2 i:Expr} {g:R->Option D} {pd pos:Pos}
end
def caOf (a0 a1:Addr):Nat->Addr
 | 0=>a0
 | _=>a1
structure ErrP (K:PySem.W.Frag) (a0 a1 aw:Addr):Prop where
 c0:ClsX K a0 (.ref aw::VE) NV
 c1:ClsX K a1 (.ref aw::VE) NV
 cw:ClsX K aw VE NV
 k01:PySem.W.kitOne K (.ref a0) (.ref a1)=some false
 k10:PySem.W.kitOne K (.ref a1) (.ref a0)=some false
 kv0:PySem.W.kitOne K (.ref a0) (.type "ValueError")=some true
 kv1:PySem.W.kitOne K (.ref a1) (.type "ValueError")=some true
theorem err_mk {K:PySem.W.Frag} {h:Heap} {mg:Str->Option Value} {a0 a1 aw:Addr} (X:K.In h) (G:h.Ns mainGlobals mg) (n0:PySem.W.nsIn K mainGlobals "NoText" = some (some (.ref a0))) (n1:PySem.W.nsIn K mainGlobals "NoDeed" = some (some (.ref a1))) (nw:PySem.W.nsIn K mainGlobals "WatchError" = some (some (.ref aw))) (p:ErrP K a0 a1 aw):ErrK K mg (caOf a0 a1) aw:=by
 refine ⟨fun c hc=>?_,fun c hc=>?_,fun c hc=>?_,fun c hc=>?_,PySem.W.mg_of X G n0,PySem.W.mg_of X G n1,PySem.W.mg_of X G nw⟩
 all_goals (have:c=0\/c=1:=by omega)
 ·rcases this with rfl | rfl
  ·exact ⟨p.c0,p.cw⟩
  ·exact ⟨p.c1,p.cw⟩
 ·rcases this with rfl | rfl
  ·exact kit_same
  ·exact p.k10
 ·rcases this with rfl | rfl
  ·exact p.k01
  ·exact kit_same
 ·rcases this with rfl | rfl
  ·exact p.kv0
  ·exact p.kv1
theorem errp_mk {K:PySem.W.Frag} {a0 a1 aw:Addr} {cd0 cd1:ClassData} {N0:Addr} {bs0 sub0:List Value} {nm0 q0:Str} {hd0 ab0:Bool} {sn0:List Str} {col0:Option Bool} {dd0:Option Addr} {k00 k10 k20 k30 k50:Option Value} {N1:Addr} {bs1 sub1:List Value} {nm1 q1:Str} {hd1 ab1:Bool} {sn1:List Str} {col1:Option Bool} {dd1:Option Addr} {k01 k11 k21 k31 k51:Option Value} {Nw:Addr} {bsw subw:List Value} {nmw qw:Str} {hdw abw:Bool} {snw:List Str} {colw:Option Bool} {ddw:Option Addr} {k0w k1w k2w k3w k5w:Option Value} (l0:K.lookup a0=some (excClassObj nm0 q0 a0 N0 bs0 (.ref aw::VE) hd0 sn0 sub0 ab0 col0 dd0 k00 k10 k20 k30 k50 NV)) (x0:PySem.W.excIn K a0 VE NV=true) (i0:PySem.W.nsIn K N0 "__init__" = some none) (g0:PySem.W.nsIn K N0 "__getattribute__" = some none) (e0:PySem.W.nsIn K N0 "__getattr__" = some none) (rr0:PySem.W.nsIn K N0 "__class__" = some none) (l1:K.lookup a1=some (excClassObj nm1 q1 a1 N1 bs1 (.ref aw::VE) hd1 sn1 sub1 ab1 col1 dd1 k01 k11 k21 k31 k51 NV)) (x1:PySem.W.excIn K a1 VE NV=true) (i1:PySem.W.nsIn K N1 "__init__" = some none) (g1:PySem.W.nsIn K N1 "__getattribute__" = some none) (e1:PySem.W.nsIn K N1 "__getattr__" = some none) (rr1:PySem.W.nsIn K N1 "__class__" = some none) (lw:K.lookup aw=some (excClassObj nmw qw aw Nw bsw VE hdw snw subw abw colw ddw k0w k1w k2w k3w k5w NV)) (xw:PySem.W.excIn K aw VE NV=true) (iw:PySem.W.nsIn K Nw "__init__" = some none) (gw:PySem.W.nsIn K Nw "__getattribute__" = some none) (ew:PySem.W.nsIn K Nw "__getattr__" = some none) (rrw:PySem.W.nsIn K Nw "__class__" = some none)
  (ne:(Value.ref a0==Value.ref a1)=false) (en:(Value.ref a1==Value.ref a0)=false) (d0:PySem.W.clsIn K a0=some cd0) (d1:PySem.W.clsIn K a1=some cd1) (t0:PySem.W.typeIn K (.ref a0)=some (.type "type")) (t1:PySem.W.typeIn K (.ref a1)=some (.type "type"))
  (s01:PySem.W.subIn K (.ref a0) (.ref a1)=some false) (s10:PySem.W.subIn K (.ref a1) (.ref a0)=some false) (v0:PySem.W.subIn K (.ref a0) (.type "ValueError")=some true) (v1:PySem.W.subIn K (.ref a1) (.type "ValueError")=some true):ErrP K a0 a1 aw :=
 ⟨cls_mk l0 x0 i0 g0 e0 rr0,cls_mk l1 x1 i1 g1 e1 rr1,cls_mk lw xw iw gw ew rrw,kit_other ne d1 t1 s01,kit_other en d0 t0 s10,kit_blt (by kernel_rfl) v0,kit_blt (by kernel_rfl) v1⟩
theorem nv {X:Cx}:CmD X .Eq cEq:=by
 intro pins s σ H x y v u Q I rx ry h
 obtain ⟨dx,dy,b,r1,r2,e,q⟩:=h
 have sc:scal x y=true->decide (x=y)=b->wpAny (model X.prog X.w) X.A (compareOp .Eq v u) (EP X pins σ Q) X.xe s:=fun z1 z2=>op_eq pins s σ H x y v u Q I rx ry ⟨z1,by rw [z2];exact q⟩
 cases dx with
 | int i=>obtain ⟨j,e1,e⟩:=mapS e;cases (show x=_ from r1);cases nI_of e1 r2;exact sc rfl (dec_int.trans e)
 | str i=>obtain ⟨j,e1,e⟩:=mapS e;cases (show x=_ from r1);cases sI_of e1 r2;exact sc rfl (dec_str.trans e)
 | bl i=>obtain ⟨j,e1,e⟩:=mapS e;cases (show x=_ from r1);cases bO_of e1 r2;exact sc rfl (dec_bl.trans e)
 | _=>cases e
end HW
namespace HW
open PySem PySem.Spec PyProof.Rows L2
theorem cW {X:Cx}:CaD X (.builtin "repr") fReprS:=by
 intro pins s σ H xs us Q I rv h
 obtain ⟨ds,d,r,e,q⟩:=h
 match ds,e with
 | [.str x],e =>
  have e':(if (PySem.reprText x).length<=sizeLine then some (D.str (PySem.reprText x)) else none)=some d:=e
  split at e'
  case isFalse=>cases e'
  case isTrue hz =>
  cases e'
  obtain ⟨v,r',rfl,r1,r2⟩:=r
  cases (show v=_ from r1)
  cases (show r'=[] from r2)
  obtain ⟨u,rfl,t,rfl⟩:=rv.one
  exact PySem.P.repr_of_str ⟨.str (PySem.reprText x),H,I.tok _,⟨_,rfl⟩,q _ H (Same.refl H) rfl⟩ hz
end HW
namespace HW
open PySem PySem.Spec PyProof.Rows L2
theorem one_lam2 {X:Cx} {t:LamT} {ct:CTab} {x y:Str} {c d:Addr} {j l:Nat} (TB:TabBase X.mg [ct] X.base) (hT:X.H₀ ct.P=some (.tbl ct.q false)) (tq:t.q=ct.q) (code:X.env.code=.ref ct.c) (qual:X.env.qual ++ "<lambda>" = ct.q)
  (fn:∀ x,X.fn x=true) (hcl:closureFor t.scope X.env=pure [(x,c),(y,d)]) (hdf:defaultsOf t.params X.env=([],[])) (hcell:X.env.cells.lookup x=some c) (hk:X.env.scope.names.lookup x=some .cell) (hN:X.N[j]?=some x)
  (hcell2:X.env.cells.lookup y=some d) (hk2:X.env.scope.names.lookup y=some .cell) (hN2:X.N[l]?=some y) (hxy:x≠y) (hcd:c≠d)
  (kd:t.scope.kind=.function) (co:t.scope.isCoroutine=false) (gen:t.scope.isGenerator=false) (nd:t.N.Nodup) (hn:t.N=t.ps++[x,y]) (par:∀ y∈t.ps,t.scope.names.lookup y=some .local) (noc:∀ y∈t.scope.names,y.2≠.cell)
  (fre:t.scope.names.lookup x=some .free) (fre2:t.scope.names.lookup y=some .free) (only:∀ z∈t.scope.names,z.2=.free->z.1=x\/z.1=y):OneLam X t [(x,c),(y,d)] ct [j,l]:=by
 have hdr:t.N.drop t.ps.length=[x,y]:=by rw [hn,List.drop_left]
 have lk:∀ z c',List.lookup z [(x,c),(y,d)]=some c'->(z=x/\c'=c)\/(z=y/\c'=d):=fun z c' h=>by
  rw [List.lookup_cons] at h
  cases q:z==x with
  | true=>rw [q] at h;cases h;exact .inl ⟨eq_of_beq q,rfl⟩
  | false =>
   rw [q] at h
   have h':List.lookup z [(y,d)]=some c':=h
   rw [List.lookup_cons] at h'
   cases q2:z==y with
   | true=>rw [q2] at h';cases h';exact .inr ⟨eq_of_beq q2,rfl⟩
   | false=>rw [q2] at h';cases h'
 have lkx:List.lookup x [(x,c),(y,d)]=some c:=by rw [List.lookup_cons];simp
 have lky:List.lookup y [(x,c),(y,d)]=some d:=by
  rw [List.lookup_cons]
  have:(y==x)=false:=by simpa using Ne.symm hxy
  rw [this]
  show List.lookup y [(y,d)]=some d
  rw [List.lookup_cons];simp
 have ndc:([(x,c),(y,d)].map (·.1)).Nodup:=by simp [hxy]
 refine ⟨TB,hT,tq,code,qual,hcl,hdf,⟨fn,ndc,fun z c' h=>?_⟩,⟨kd,co,gen,nd,by rw [hn,List.take_left],par,noc,fun z hz=>?_,fun z hz=>?_,ndc,fun z w c' h1 h2=>?_⟩,by rw [hdr];simp [hN,hN2],fun z c' h=>?_⟩
 ·rcases lk z c' h with ⟨rfl,rfl⟩ | ⟨rfl,rfl⟩
  ·exact ⟨hcell,hk⟩
  ·exact ⟨hcell2,hk2⟩
 ·rw [hdr] at hz
  simp only [List.mem_cons,List.not_mem_nil,or_false] at hz
  rcases hz with rfl | rfl
  ·exact fre
  ·exact fre2
 ·rcases only _ (PySem.mem_of_lookup hz) rfl with h | h
  ·rw [show z=x from h];exact ⟨c,lkx⟩
  ·rw [show z=y from h];exact ⟨d,lky⟩
 ·rcases lk z c' h1 with ⟨a,b⟩ | ⟨a,b⟩<;>rcases lk w c' h2 with ⟨a',b'⟩ | ⟨a',b'⟩
  ·rw [a,a']
  ·exact absurd (b.symm.trans b') hcd
  ·exact absurd (b'.symm.trans b) hcd
  ·rw [a,a']
 ·rw [hdr]
  rcases lk z c' h with ⟨rfl,_⟩ | ⟨rfl,_⟩<;>simp
section
variable {X:Cx} {pins:List (Addr×Obj)} {σ:L2.St} {H:Hp} {s:Shared} {T:List Str} {scope:Scope} {cl:Nat->Addr}
variable {elt iter tg:Expr} {pos p2:Pos} {itf:R->Option (List D)} {stf:D->R->Option R} {ef:XD}
variable {i:Nat} {x:Str} {py spos:Pos}
theorem sy_asgLC (hc:X.calm=true) (hN:X.N.Nodup) (hstk:X.stack=X.env::X.outer) (hfr:X.env.frame=some X.env.locals) (hfn:∀ x,X.fn x=true) (hex:X.ex=[]) (hi:SI X tg iter itf) (hg:∀ C s₃ H₃ fp,TbS X H₃->SG (cxC X T scope C fp s₃ H₃) tg stf) (he:∀ C s₃ H₃ fp,TbS X H₃->SX cl (cxCx X T scope C fp s₃ H₃) elt ef)
  (hst:Front T.length stf) (hnd:(T++X.N).Nodup) (hix:X.N[i]?=some x:=by rfl) (hx:Loc X.env.scope x:=by first | exact Or.inl rfl | exact Or.inr rfl) (hfx:X.fn x=true\/X.env.scope.names.lookup x=some .local:=by first | exact .inl rfl | exact .inr rfl)
  (ck:compChk scope X.env.scope T X.N=true:=by rfl) (hsw:swapsWith (.ListComp elt [⟨tg,iter,[],0⟩] scope pos) (some (.Name x py)) spos.line X.env=pure true:=by rfl) (hs:∀ x,foldedSetIterable iter X.env x=pure x:=by intro _;rfl) :
  SX1 cl X (.Assign [.Name x py] (.ListComp elt [⟨tg,iter,[],0⟩] scope pos) spos) (xAsg (lcX T.length itf stf ef) (setAt i)):=by
 intro pins s σ H E I hw
 obtain ⟨ρ,τ,r,er,e,q⟩:=hw
 obtain ⟨r1,e0,e⟩:=bindS e
 obtain ⟨ds,e1,e0⟩:=bindS e0
 have ck':=compOk_of ck
 split at e0
 case isFalse=>cases e0
 case isTrue hz =>
 obtain ⟨out,e2,e3⟩:=mapS e0
 rw [exec_Assign_Name_used _ _ _ _ hsw]
 refine wpAny_bind (wpAny_standAt (wpAny_bind ?_))
 show wpAny _ X.A (do let _ <- comprehension (.ListComp elt [⟨tg,iter,[],0⟩] scope pos) scope X.env _ (newList []) false (eval iter X.env) (some (assign (.Name x py) X.env))) _ _ s
 refine wpAny_bind (wpAny_mono (wpAny_comprehension_free (use:=some (assign (.Name x py) X.env)) (Q:=fun _ s'=>SP X pins E .next s') rfl hs (ez I ck') ck'.kind ck'.names ?_) (fun _ s' hq=>wpAny_pure (wpAny_pure hq)) fun _ _ z=>z)
 refine thn (hi pins s σ H (fun J H'=>Same H H'/\Yields X.K J ds H') I ⟨ρ,ds,er.1,e1,fun J H' s1 y=>⟨s1,y⟩⟩) fun v s1 h1=>thn h1 fun itv s2 h2=>?_
 obtain ⟨it,fp,tn,J,H',ei,I2,Tn,st,hf,s12,y⟩:=h2
 subst ei
 refine gR (cl:=cl) (RR:=fun acc C=>compPost (model X.prog X.w) X.A X.xe (some (assign (.Name x py) X.env)) (fun _ s'=>SP X pins E .next s') acc C) I2 hc Tn st hf ck' hnd hst (er.1.mono s12) y hz e2 (fun c ec H3 s3=>?_) hg he ?_ ?_
 ·subst ec
  subst e3
  cases e
  exact (q H3 (s12.trans s3)).1
 ·intro a C H3 s' vs ys eo sm ha hr I3 fC hns
  subst eo
  subst e3
  obtain ⟨ρ',e9,e8⟩:=mapS e
  subst e8
  unfold setAt at e9
  split at e9
  case isFalse=>cases e9
  case isTrue hlt =>
  cases e9
  obtain ⟨m,hm⟩:=hns
  obtain ⟨f0,f1,f2,f3,f4,f5⟩:=fC
  show wpAny _ X.A (assign (.Name x py) X.env (.ref a)) _ _ _
  refine wpAny_assign_Name (store_ok2 (v:=.ref a) I3 hN hix hx rfl (fun s'' I4 ⟨b,hsb,hb⟩=>?_) hfx)
  have hCb:C≠b:=by
   rcases hb with z | z
   ·exact z ▸ f1
   ·exact Ne.symm (f4 x b z)
  refine ⟨m,hm.sameBut hsb hCb,fun h' hsb2=>⟨σ.set i (some (.ref a)),H3,I4.turned (it:=C) (t':=s''.toks) (fun b o hb eb=>(hsb2.2 b hb).trans eb) f0 f1 f3 f4 f5,q H3 (s12.trans sm) _ ?_⟩⟩
  exact (er.mono (s12.trans sm)).set hlt ⟨a,vs,rfl,ha,hr⟩
 ·rintro a C ev s' hC ⟨ee,C',H3,rfl,⟨pins',σ',B,xa⟩,hxw⟩
  have hfrm:∀ b∈frs X.stack,b<s2.heap.objs.size:=fun b hb=>by
   obtain ⟨_,o,ho,_⟩:=I2.stack.mem hb
   exact Heap.lt_size ho
  have hCf:C∉frs X.stack:=fun hm=>absurd (Nat.lt_of_lt_of_le (hfrm C hm) hC) (Nat.lt_irrefl _)
  obtain ⟨oC,eC⟩:∃ o,B.get? C=some o:=xa.loc hCf
  obtain ⟨m,hm,_⟩:=xa.inv.loc
  show wpAny (model X.prog X.w) X.A (noteFrame (.ref ee) (compEnvC scope (clOf scope.names X.env.cells []) C X.env)) _ _ s'
  rw [note_eq (env':=compEnvC scope (clOf scope.names X.env.cells []) C X.env) (env:=X.env) _ rfl]
  have xe1:Exc B (X.env::X.outer) ee C' s'.heap:=by rw [<- hstk];exact xa.exc
  refine note_any (by rw [<- hstk];exact I2.ok.frames) hfr xe1 fun h1 x1 up1=>?_
  have nsC:h1.Ns C m:=by
   obtain ⟨o,es,ep,ho,r⟩:=(show s'.heap.Ns C m from hm)
   have e4:=xa.exc.st C oC eC
   rw [ho] at e4
   obtain rfl:o=oC:=Option.some.inj e4
   exact ⟨o,es,ep,x1.st C o eC,r⟩
  refine ⟨m,nsC,fun h2 hsb cenv' hl'=>?_⟩
  have other:∀ b,b≠C->h2.get? b=h1.get? b:=fun b hb=>hsb.2 b hb
  have hB:∀ b o,(PySem.W.hideAll B [C]).get? b=some o->B.get? b=some o/\b≠C:=fun b o hb=>⟨PySem.W.of_hideAll _ hb,fun z=>by rw [PySem.W.hideAll_none [C] (by rw [z];exact List.mem_singleton.mpr rfl)] at hb;cases hb⟩
  have hB':∀ b,b≠C->(∃ o',B.get? b=some o')->∃ o',(PySem.W.hideAll B [C]).get? b=some o':=fun b hb ⟨o',e'⟩=>⟨o',PySem.W.hideAll_get _ e' fun z=>hb (List.mem_singleton.mp z)⟩
  have hnone:∀ b,B.get? b=none->(PySem.W.hideAll B [C]).get? b=none:=fun b hb=>by
   cases hq:(PySem.W.hideAll B [C]).get? b with
   | none=>rfl
   | some o=>rw [(hB b o hq).1] at hb;cases hb
  have neC:∀ b,B.get? b=none->b≠C:=fun b hb z=>by rw [z,eC] at hb;cases hb
  have x2:Exc (PySem.W.hideAll B [C]) (X.env::X.outer) ee C' h2:=by
   obtain ⟨q1,q2,q3,a0,fl,oe,ws,TT,oT,ts,r1,r2,r3,r4,r5,r6,r7,r8,r9⟩:=x1
   refine ⟨fun b o hb=>(other b (hB b o hb).2).trans (q1 b o (hB b o hb).1),hnone _ q2,?_,a0,fl,oe,ws,TT,oT,ts,(other _ (neC _ q2)).trans r1,r2,r3,r4,hnone _ r5,r6,(other _ (neC _ r5)).trans r7,r8,r9⟩
   have go:∀ l:List Env,h1.FunFrames B l->(∀ b∈frs l,b≠C)->h2.FunFrames (PySem.W.hideAll B [C]) l:=fun l=>by
    induction l with
    | nil=>intro _ _;trivial
    | cons env rest ih =>
     rintro ⟨k1,⟨L,o,k2,k3,k4,k5⟩,k6⟩ hn
     have hL:L∈frs (env::rest):=List.mem_filterMap.mpr ⟨env,List.mem_cons_self,k2⟩
     refine ⟨k1,⟨L,o,k2,hnone _ k3,(other L (hn L hL)).trans k4,k5⟩,ih k6 fun b hb=>hn b ?_⟩
     obtain ⟨env',h1',h2'⟩:=List.mem_filterMap.mp hb
     exact List.mem_filterMap.mpr ⟨env',List.mem_cons_of_mem _ h1',h2'⟩
   exact go _ q3 fun b hb z=>hCf (by rw [hstk,<- z];exact hb)
  refine pass_any (s:={s' with heap:=h2}) x2 fun h3 x3 up3=>?_
  have IX:L2.Inv X pins σ H3 s':=I2.call' (ch:=fp) xa.inv.os xa.inv.base xa.inv.hok xa.inv.bare fun b hb=>⟨(hf b hb).2.2.2.1,(hf b hb).2.1,(hf b hb).2.2.2.2.1,(hf b hb).2.2.2.2.2⟩
  have nfp:∀ b o,X.s₀.heap.get? b=some o->b∉fp:=fun b o hb hm=>by
   rcases (hf b hm).2.2.2.1 with z | z
   ·rw [hex] at z;cases z
   ·exact absurd (Nat.lt_of_lt_of_le (Heap.lt_size hb) z) (Nat.lt_irrefl _)
  have old:∀ b o,s2.heap.get? b=some o->b∉frs X.stack->b∉fp->∃ o',(PySem.W.hideAll B [C]).get? b=some o':=fun b o hb hn hx=>hB' b (fun z=>absurd (Nat.lt_of_lt_of_le (Heap.lt_size (z ▸ hb)) hC) (Nat.lt_irrefl _)) (xa.ent b o hb hn hx)
  have entX:∀ b o,X.s₀.heap.get? b=some o->b∉X.fs->b∉X.ex->∃ o',(PySem.W.hideAll B [C]).get? b=some o':=fun b o hb hn hx=>by
   obtain ⟨o1,e4⟩:=I2.base.there b o hb hx
   refine old b o1 e4 (fun hm=>?_) (nfp b o hb)
   rcases List.mem_cons.mp (I2.stkSub b hm) with z | z
   ·rw [z] at hb;exact absurd (Nat.lt_of_lt_of_le (Heap.lt_size hb) I2.ok.above) (Nat.lt_irrefl _)
   ·exact hn z
  have hldX:∀ b u,H3 b=some u->∃ o',(PySem.W.hideAll B [C]).get? b=some o':=fun b u hb=>hB' b (fun z=>by
   have:H3 C=none:=xa.inv.free
   rw [z,this] at hb;cases hb) (xa.hld b u hb)
  have pinX:∀ p∈X.pn++pins,∃ o',(PySem.W.hideAll B [C]).get? p.1=some o':=fun p hp=>by
   obtain ⟨k1,k2,k3,k4,_⟩:=I2.pin p hp
   refine old p.1 p.2 k1 (fun hm=>?_) fun hx=>(hf p.1 hx).2.2.2.2.2 p hp rfl
   rcases List.mem_cons.mp (I2.stkSub p.1 hm) with z | z
   ·exact k3 z
   ·exact k4 z
  have celX:∀ x c,X.env.cells.lookup x=some c->∃ o',(PySem.W.hideAll B [C]).get? c=some o':=fun x c hcc=>by
   obtain ⟨v,o,ho,_⟩:=I2.cell x c hcc
   exact old c o ho (cell_nf I2 hfn x c hcc) fun hx=>(hf c hx).2.2.2.2.1 x c hcc rfl
  have st0:(PySem.W.hideAll B [C]).StaysIn s'.heap:=fun b o hb=>xa.exc.st b o (hB b o hb).1
  have hlf:X.env.locals∈frs X.stack:=by rw [hstk];exact List.mem_filterMap.mpr ⟨X.env,List.mem_cons_self,hfr⟩
  have upX:∀ b∈X.env.locals::X.fs,∀ o,s'.heap.get? b=some o->(∀ ws,o.data≠.fields ws)->∃ sl,h3.get? b=some {o with slots:=sl}:=fun b hb o ho nd=>by
   have hbC:b≠C:=fun z=>by
    rcases List.mem_cons.mp hb with y | y
    ·exact hCf (z ▸ y ▸ hlf)
    ·refine hCf ?_
     rw [hstk,<- z]
     obtain ⟨env',h1',h2'⟩:=List.mem_filterMap.mp y
     exact List.mem_filterMap.mpr ⟨env',List.mem_cons_of_mem _ h1',h2'⟩
   obtain ⟨sl,k1⟩:=up1 b o ho nd
   obtain ⟨sl2,k2⟩:=up3 b _ ((other b hbC).trans k1) nd
   exact ⟨sl2,k2⟩
  exact hxw ee {s' with heap:=h3} ⟨pins,σ,PySem.W.hideAll B [C],inv_stay IX st0 x3.st upX entX hldX pinX celX,fun b o hb hn hx=>entX b o hb (fun hm=>hn (by
    rw [hstk]
    obtain ⟨env',h1',h2'⟩:=List.mem_filterMap.mp hm
    exact List.mem_filterMap.mpr ⟨env',List.mem_cons_of_mem _ h1',h2'⟩)) hx,hldX,fun hn=>absurd hlf hn,pinX,by rw [hstk];exact x3⟩
end
end HW
set_option maxRecDepth 10000
namespace HW
open PySem
noncomputable section
def top (i:Nat):Stmt:=PySem.Challenge.pw_handwatch_k74_whole_nothing_else_read.main.body.getD i (.Pass ⟨0,0,0,0⟩)
def T_1:LamT:=mkLam "law.<locals>.<lambda>" ["_law_text","_law_kind"] [] (eA 0 (sV (sB 1 (sB 4 (top 61)))))
def cz:D:=.tup [.str (Str.ofString "a"),.str (Str.ofString "b"),.str (Str.ofString "c")]
def aM:D:=.tup [.str (Str.ofString "a"),.str (Str.ofString "b"),.str (Str.ofString "c"),.str (Str.ofString "A"),.str (Str.ofString "B"),.str (Str.ofString "C")]
def dA:D:=.tup [.str (Str.ofString "time"),.str (Str.ofString "alarm"),.str (Str.ofString "laps"),.str (Str.ofString "count")]
def cu:D:=.tup [.str (Str.ofString "none"),.str (Str.ofString "hour"),.str (Str.ofString "minute"),.str (Str.ofString "zero"),.str (Str.ofString "ahour"),.str (Str.ofString "aminute"),.str (Str.ofString "alarm"),.str (Str.ofString "run"),.str (Str.ofString "lap"),.str (Str.ofString "cminute"),.str (Str.ofString "csecond"),.str (Str.ofString "full"),.str (Str.ofString "count")]
def ci:D:=.int 9
def cn:D:=.int 60
def aX:D:=.int 8
def aD:D:=.int 7
def cy:D:=.int 1000000000000000000
def aN:D:=.int 18
def et:D:=.str (Str.ofString "0123456789")
theorem loop_of {it:R->Option (List D)} {st:D->R->Option R} {body:R->Option Out} {ρ:R} {ds:List D} {o:Out} (h1:it ρ=some ds) (h2:forD st body ds ρ=some o):loopD it st body ρ=some o:=by simp [h1,h2]
theorem seqN {f g:R->Option Out} {ρ ρ2:R} (h:f ρ=some (.nx ρ2)):seqD f g ρ=g ρ2:=by simp [h]
theorem ifT {c:R->Option Bool} {f g:R->Option Out} {ρ:R} (h:c ρ=some true):ifD c f g ρ=f ρ:=by simp [h]
theorem ifF {c:R->Option Bool} {f g:R->Option Out} {ρ:R} (h:c ρ=some false):ifD c f g ρ=g ρ:=by simp [h]
theorem seqR {f g:R->Option Out} {ρ:R} {d:D} (h:f ρ=some (.rt d)):seqD f g ρ=some (.rt d):=by simp [h]
theorem asgS {f:R->Option D} {st:D->R->Option R} {ρ ρ':R} {d:D} (h:f ρ=some d) (h2:st d ρ=some ρ'):asgD f st ρ=some (.nx ρ'):=by simp [h,h2]
theorem callS {F:List D->Option D} {g:R->Option (List D)} {ρ:R} {ds:List D} {d:D} (h:g ρ=some ds) (h2:F ds=some d):callD F g ρ=some d:=by simp [h,h2]
theorem arS {f:R->Option D} {g:R->Option (List D)} {ρ:R} {d:D} {ds:List D} (h:f ρ=some d) (h2:g ρ=some ds):argC f g ρ=some (d::ds):=by simp [h,h2]
theorem opS {F:D->D->Option D} {f g:R->Option D} {ρ:R} {x y z:D} (h1:f ρ=some x) (h2:g ρ=some y) (h:F x y=some z):op2 F f g ρ=some z:=by simp only [op2,h1,h2,Option.bind_some,h]
theorem cmS {F:D->D->Option Bool} {f g:R->Option D} {ρ:R} {x y:D} {b:Bool} (h1:f ρ=some x) (h2:g ρ=some y) (h:F x y=some b):cmp2 F f g ρ=some b:=by simp only [cmp2,h1,h2,Option.bind_some,h]
theorem tupS {g:R->Option (List D)} {ρ:R} {ds:List D} (h:g ρ=some ds):tupD g ρ=some (.tup ds):=by simp [h]
theorem asS {c:R->Option Bool} {ρ:R} {b:Bool} (h:c ρ=some b):asV c ρ=some (.bl b):=by simp [h]
theorem slS {f:R->Option D} {l h:R->Option (Option Int)} {ρ:R} {x d:D} {a b:Option Int} (h1:f ρ=some x) (h2:l ρ=some a) (h3:h ρ=some b) (h4:dSl x a b=some d):slD f l h ρ=some d:=by simp only [slD,h1,h2,h3,Option.bind_some,h4]
theorem orF {c d:R->Option Bool} {ρ:R} (h1:c ρ=some false) (h2:d ρ=some false):orT c d ρ=some false:=by simp [h1,h2]
theorem anF {c d:R->Option Bool} {ρ:R} (h1:c ρ=some false):andT c d ρ=some false:=by simp [h1]
theorem anT {c d:R->Option Bool} {ρ:R} {b:Bool} (h1:c ρ=some true) (h2:d ρ=some b):andT c d ρ=some b:=by simp [h1,h2]
theorem anV {f g:R->Option D} {ρ:R} {d:D} (h1:f ρ=some (.bl true)) (h2:g ρ=some d):andV f g ρ=some d:=by simp [h1,h2]
theorem ntS {c:R->Option Bool} {ρ:R} {b:Bool} (h:c ρ=some b):notT c ρ=some (!b):=by simp [h]
theorem trS {f:R->Option D} {ρ:R} {b:Bool} (h:f ρ=some (.bl b)):truT f ρ=some b:=by simp [h]
theorem ieT {c:R->Option Bool} {f g:R->Option D} {ρ:R} {d:D} (h:c ρ=some true) (h2:f ρ=some d):ifE c f g ρ=some d:=by simp [h,h2]
theorem ieF {c:R->Option Bool} {f g:R->Option D} {ρ:R} {d:D} (h:c ρ=some false) (h2:g ρ=some d):ifE c f g ρ=some d:=by simp [h,h2]
theorem lstS {g:R->Option (List D)} {ρ:R} {ds:List D} (h:g ρ=some ds):lstD g ρ=some (.lst ds):=by simp [h]
theorem viaS {k n:Nat} {g:R->Option Out} {ds:List D} {d:D} (h:g (beg n ds)=some (.rt d)) (hl:ds.length=k:=by rfl):via k n g ds=some d:=by unfold via;rw [if_pos hl,h];rfl
theorem anVF {f g:R->Option D} {ρ:R} (h1:f ρ=some (.bl false)):andV f g ρ=some (.bl false):=by simp [h1]
theorem retS {f:R->Option D} {ρ:R} {d:D} (h:f ρ=some d):retD f ρ=some (.rt d):=by simp [h]
theorem eqI (i:Int):cEq (.int i) (.int i)=some true:=by simp
theorem modS {i j:Int} (h:0<j):dMod (.int i) (.int j)=some (.int (i%j)):=by simp [h]
theorem mdS {i j q:Int} (h:0<j) (e:i%j=q):dMod (.int i) (.int j)=some (.int q):=by rw [<- e];exact modS h
theorem dT {p:Prop} [Decidable p] (h:p):some (decide p)=some true:=by rw [decide_eq_true h]
mutual
theorem eqD_refl:∀ d:D,nob d=true->eqD d d=true
 | .non,_=>rfl
 | .bl b,_=>beq_self_eq_true b
 | .int i,_=>beq_self_eq_true i
 | .str x,_=>beq_self_eq_true x
 | .tup xs,h=>eqDs_refl xs h
 | .lst xs,h=>eqDs_refl xs h
 | .fro xs,h=>eqDs_refl xs h
 | .obj ..,h=>by cases h
 | .dct ..,h=>by cases h
 | .cl ..,h=>by cases h
theorem eqDs_refl:∀ ds:List D,nobs ds=true->eqDs ds ds=true
 | [],_=>rfl
 | d::ds,h=>by
  have h':(nob d&&nobs ds)=true:=h
  rw [Bool.and_eq_true] at h'
  show (eqD d d&&eqDs ds ds)=true
  rw [eqD_refl d h'.1,eqDs_refl ds h'.2];rfl
end
theorem cEqD_refl {d:D} (h:depD d<=100) (h2:layD d=true):cEqD d d=some true:=by unfold cEqD;rw [if_pos ⟨h,h2,h2⟩,eqD_refl _ (dv h2)]
theorem cNeD_refl {d:D} (h:depD d<=100) (h2:layD d=true):cNeD d d=some false:=by unfold cNeD;rw [cEqD_refl h h2];rfl
theorem w0 (s:WS):dIx s.d (.int 0)=some (.int (s.mode:Int)):=rfl
theorem w1 (s:WS):dIx s.d (.int 1)=some (.int s.clock):=rfl
theorem w2 (s:WS):dIx s.d (.int 2)=some s.alarmD:=rfl
theorem w3 (s:WS):dIx s.d (.int 3)=some s.lapsD:=rfl
theorem w4 (s:WS):dIx s.d (.int 4)=some s.countD:=rfl
theorem w7 (s:WS):dIx s.d (.int 7)=some (.int s.idle):=rfl
theorem b0 (b:Bk):dIx b.d (.int 0)=some (.int b.hold):=rfl
theorem b1 (b:Bk):dIx b.d (.int 1)=some (.int b.back):=rfl
theorem b2 (b:Bk):dIx b.d (.int 2)=some (.tup (b.modes.map Md.d)):=rfl
theorem m0 (m:Md):dIx m.d (.int 0)=some (.str m.face.x):=rfl
theorem m1 (m:Md):dIx m.d (.int 1)=some (.bl m.stays):=rfl
theorem m2 (m:Md):dIx m.d (.int 2)=some (.tup (m.rows.map rowD)):=rfl
theorem r0 (r:Deed×Nat):dIx (rowD r) (.int 0)=some (.str r.1.x):=rfl
theorem r1 (r:Deed×Nat):dIx (rowD r) (.int 1)=some (.int (r.2:Int)):=rfl
theorem h0 (x:Btn) (k:Option Int):dIx (heldD (some (x,k))) (.int 0)=some (.str x.x):=rfl
theorem h1 (x:Btn) (k:Option Int):dIx (heldD (some (x,k))) (.int 1)=some (optI k):=rfl
def whole:D->Bool
 | .int _=>true
 | _=>false
def within (d:D) (l m:Int):Bool:=match d with
 | .int i=>decide (l<=i)&&decide (i<=m)
 | _=>false
def oneOf (d:D) (ws:List D):Bool:=match d with
 | .str x=>ws.any fun y=>eqF y (.str x)
 | _=>false
def tupOf (d:D) (m:Int):Bool:=match d with
 | .tup xs=>(xs.length:Int)==m
 | _=>false
def deeds:List D:=[.str (Str.ofString "none"),.str (Str.ofString "hour"),.str (Str.ofString "minute"),.str (Str.ofString "zero"),.str (Str.ofString "ahour"),.str (Str.ofString "aminute"),.str (Str.ofString "alarm"),.str (Str.ofString "run"),.str (Str.ofString "lap"),.str (Str.ofString "cminute"),.str (Str.ofString "csecond"),.str (Str.ofString "full"),.str (Str.ofString "count")]
def faces:List D:=[.str (Str.ofString "time"),.str (Str.ofString "alarm"),.str (Str.ofString "laps"),.str (Str.ofString "count")]
def rowOk (d:D) (m:Int):Bool:=match d with
 | .tup [a,b]=>oneOf a deeds&&within b 0 (m - 1)
 | _=>false
def rowsOk (d:D) (m:Int):Bool:=match d with
 | .tup xs=>xs.length==6&&xs.all fun x=>rowOk x m
 | _=>false
def modeOk (d:D) (m:Int):Bool:=match d with
 | .tup [a,b,c]=>oneOf a faces&&(isI b "bool" && rowsOk c m)
 | _=>false
def modesOk (d:D):Bool:=match d with
 | .tup xs=>decide (1<=xs.length)&&(decide (xs.length<=8)&&xs.all fun x=>modeOk x xs.length)
 | _=>false
def bookOk (d:D):Bool:=match d with
 | .tup [a,b,c]=>within a 1 9&&(within b 0 60&&modesOk c)
 | _=>false
theorem within_int {d:D} {l h:Int} (e:within d l h=true):∃ i:Int,d=.int i/\l<=i/\i<=h:=by
 cases d with
 | int i=>simp [within] at e;exact ⟨i,rfl,e⟩
 | _=>cases e
theorem isI_bool {d:D} (e:isI d "bool" = true):∃ b,d=.bl b:=by
 cases d with
 | bl b=>exact ⟨b,rfl⟩
 | _=>simp at e
theorem oneOf_str {d:D} {ws:List D} (e:oneOf d ws=true):∃ x,d=.str x/\(ws.any fun y=>eqF y (.str x))=true:=by
 cases d with
 | str x=>exact ⟨x,rfl,e⟩
 | _=>cases e
theorem deed_of {d:D} (e:oneOf d deeds=true):∃ k:Deed,d=.str k.x:=by
 obtain ⟨x,rfl,h⟩:=oneOf_str e
 obtain ⟨y,hy,h⟩:=List.any_eq_true.mp h
 have q:∀ w:Str,eqF (.str w) (.str x)=true->w=x:=fun w z=>beq_iff_eq.mp z
 simp only [deeds,List.mem_cons,List.not_mem_nil,or_false] at hy
 rcases hy with rfl | rfl | rfl | rfl | rfl | rfl | rfl | rfl | rfl | rfl | rfl | rfl | rfl
 ·exact ⟨.none,congrArg D.str (q _ h).symm⟩
 ·exact ⟨.hour,congrArg D.str (q _ h).symm⟩
 ·exact ⟨.minute,congrArg D.str (q _ h).symm⟩
 ·exact ⟨.zero,congrArg D.str (q _ h).symm⟩
 ·exact ⟨.ahour,congrArg D.str (q _ h).symm⟩
 ·exact ⟨.aminute,congrArg D.str (q _ h).symm⟩
 ·exact ⟨.alarm,congrArg D.str (q _ h).symm⟩
 ·exact ⟨.run,congrArg D.str (q _ h).symm⟩
 ·exact ⟨.lap,congrArg D.str (q _ h).symm⟩
 ·exact ⟨.cminute,congrArg D.str (q _ h).symm⟩
 ·exact ⟨.csecond,congrArg D.str (q _ h).symm⟩
 ·exact ⟨.full,congrArg D.str (q _ h).symm⟩
 ·exact ⟨.count,congrArg D.str (q _ h).symm⟩
theorem face_of {d:D} (e:oneOf d faces=true):∃ k:Face,d=.str k.x:=by
 obtain ⟨x,rfl,h⟩:=oneOf_str e
 obtain ⟨y,hy,h⟩:=List.any_eq_true.mp h
 have q:∀ w:Str,eqF (.str w) (.str x)=true->w=x:=fun w z=>beq_iff_eq.mp z
 simp only [faces,List.mem_cons,List.not_mem_nil,or_false] at hy
 rcases hy with rfl | rfl | rfl | rfl
 ·exact ⟨.time,congrArg D.str (q _ h).symm⟩
 ·exact ⟨.alarm,congrArg D.str (q _ h).symm⟩
 ·exact ⟨.laps,congrArg D.str (q _ h).symm⟩
 ·exact ⟨.count,congrArg D.str (q _ h).symm⟩
theorem nH {d:D} {n:Nat} (e:rowOk d n=true):∃ r:Deed×Nat,d=rowD r/\r.2<n:=by
 unfold rowOk at e
 split at e
 ·rw [Bool.and_eq_true] at e
  obtain ⟨k,rfl⟩:=deed_of e.1
  obtain ⟨i,rfl,h0,h1⟩:=within_int e.2
  refine ⟨(k,i.toNat),?_,?_⟩
  ·simp [rowD,Int.toNat_of_nonneg h0]
  ·simp;omega
 ·cases e
theorem list_of {α:Type} {f:α->D} {P:α->Prop} {q:D->Bool} (h:∀ d,q d=true->∃ a,d=f a/\P a):∀ {ds:List D},ds.all q=true->∃ as:List α,ds=as.map f/\∀ a∈as,P a
 | [],_=>⟨[],rfl,fun _ h=>by cases h⟩
 | d::ds,e=>by
  rw [List.all_cons,Bool.and_eq_true] at e
  obtain ⟨a,rfl,ha⟩:=h d e.1
  obtain ⟨as,rfl,hs⟩:=list_of h e.2
  exact ⟨a::as,rfl,fun x hx=>by rcases List.mem_cons.mp hx with rfl | hx;exact ha;exact hs x hx⟩
theorem mO {d:D} {n:Nat} (e:modeOk d n=true):∃ m:Md,d=m.d/\m.Ok n:=by
 unfold modeOk at e
 split at e
 ·rename_i a b c
  rw [Bool.and_eq_true,Bool.and_eq_true] at e
  obtain ⟨f,rfl⟩:=face_of e.1
  obtain ⟨s,rfl⟩:=isI_bool e.2.1
  have e2:=e.2.2
  cases c with
  | tup xs =>
   unfold rowsOk at e2
   simp only [Bool.and_eq_true] at e2
   obtain ⟨rs,rfl,hr⟩:=list_of (f:=rowD) (P:=fun r=>r.2<n) (fun d h=>nH h) e2.2
   refine ⟨⟨f,s,rs⟩,rfl,?_,hr⟩
   have:=e2.1
   simpa using this
  | _=>cases e2
 ·cases e
theorem mW {d:D} (e:bookOk d=true):∃ b:Bk,d=b.d/\b.Ok:=by
 unfold bookOk at e
 split at e
 ·rename_i a b c
  rw [Bool.and_eq_true,Bool.and_eq_true] at e
  obtain ⟨i,rfl,i0,i1⟩:=within_int e.1
  obtain ⟨j,rfl,j0,j1⟩:=within_int e.2.1
  have e2:=e.2.2
  cases c with
  | tup xs =>
   unfold modesOk at e2
   simp only [Bool.and_eq_true] at e2
   obtain ⟨h1,h2,h3⟩:=e2
   obtain ⟨ms,hm,hok⟩:=list_of (f:=Md.d) (P:=fun m=>m.Ok xs.length) (fun d h=>mO h) h3
   have hl:xs.length=ms.length:=by rw [hm];simp
   refine ⟨⟨i,j,ms⟩,by rw [hm];rfl,i0,i1,j0,j1,?_,?_,?_⟩
   ·have:=of_decide_eq_true h1;show 1<=ms.length;omega
   ·have:=of_decide_eq_true h2;show ms.length<=8;omega
   ·rw [hl] at hok;exact hok
  | _=>cases e2
 ·cases e
theorem obT {p:R->List D->Option (Out×List D)} {q:R->List D->Option Out} {ρ ρ2:R} {ds ds2:List D} (h:p ρ ds=some (.nx ρ2,ds2)):obSeq p q ρ ds=q ρ2 ds2:=by simp [h]
def tx (i:Int):Str:=Str.ofString (toString i)
theorem small_log {n:Int} (h0:0<=n) (h1:n<1000000000000000000):n.natAbs.log2<1920:=by
 have h2:n.natAbs<2 ^ 60:=by omega
 by_cases hz:n.natAbs=0
 ·rw [hz];decide
 ·have:=(Nat.log2_lt hz).mpr h2;omega
theorem tx_len {n:Int} (h0:0<=n) (h1:n<1000000000000000000):(tx n).length<=1921:=PyProof.Rows.int_text_len_1921 (small_log h0 h1)
theorem f_str {n:Int} (h0:0<=n) (h1:n<1000000000000000000):fStr [.int n]=some (.str (tx n)):=if_pos (small_log h0 h1)
theorem addS {x y:Str} (h:x.length+y.length<=100000):dAdd (.str x) (.str y)=some (.str (x++y)):=by
 have z:100000<=sizeLine:=by decide
 show (if x.length+y.length<=sizeLine then _ else none)=_
 rw [if_pos (by omega)]
theorem app_len (x y:Str):(x++y).length=x.length+y.length:=by
 show (x.cps++y.cps).size=_
 simp;rfl
theorem lcS {k:Nat} {it:R->Option (List D)} {st:D->R->Option R} {c:R->Option Bool} {e:R->Option D} {ρ:R} {ds out:List D} (h1:it ρ=some ds) (hz:ds.length<=1000) (h2:compD st c e ds (List.replicate k none++ρ)=some out) :
  lcD k it st c e ρ=some (.lst out):=by
 have z:1000<=sizeLine:=by decide
 unfold lcD
 rw [h1]
 show (if ds.length<=sizeLine then _ else none)=_
 rw [if_pos (by omega),h2];rfl
theorem c_ {α:Type} {st:D->R->Option R} {e:R->Option D} {ρ:R} (f g:α->D):∀ {as:List α},(∀ a∈as,∃ ρ1,st (f a) ρ=some ρ1/\e ρ1=some (g a))->compD st yesT e (as.map f) ρ=some (as.map g)
 | [],_=>rfl
 | a::as,h=>by
  obtain ⟨ρ1,h1,h2⟩:=h a List.mem_cons_self
  have ih:=c_ (st:=st) (e:=e) (ρ:=ρ) f g (as:=as) fun x hx=>h x (List.mem_cons_of_mem _ hx)
  simp [compD,h1,h2,ih]
def blankS:Str:=Str.ofString " "
theorem blank_eq:blankS=⟨#[32]⟩:=by decide +kernel
def nlS:Str:=Str.ofString "\n"
theorem nl_eq:nlS=⟨#[10]⟩:=by decide +kernel
theorem mk_cps {x y:Str} (h:x.cps.toList=y.cps.toList):x=y:=by
 cases x;cases y
 exact congrArg Str.mk (Array.ext' h)
theorem cps_app (x y:Str):(x++y).cps.toList=x.cps.toList++y.cps.toList:=by
 show (x.cps++y.cps).toList=_
 simp
def flatR (rows:List Str):Str:=⟨(rows.flatMap fun r=>r.cps.toList++[10]).toArray⟩
theorem flat_cps (rows:List Str):(flatR rows).cps.toList=rows.flatMap fun r=>r.cps.toList++[10]:=by simp [flatR]
theorem flat_app (xs ys:List Str):flatR (xs++ys)=flatR xs++flatR ys:=mk_cps (by rw [cps_app,flat_cps,flat_cps,flat_cps,List.flatMap_append])
theorem flat_one (x:Str):flatR [x]=x++nlS:=mk_cps (by rw [cps_app,flat_cps,nl_eq];simp)
theorem flat_join:∀ (rows:List Str),Builtin.Str.glued (Str.ofString "") (rows.map (·++nlS))=flatR rows:=by
 intro rows
 apply mk_cps
 rw [flat_cps]
 have e0:(Str.ofString "").cps.toList=[]:=by decide +kernel
 cases rows with
 | nil=>rfl
 | cons r rs =>
  show ((rs.map (·++nlS)).foldl (fun acc p=>acc++(Str.ofString "").cps++p.cps) (r++nlS).cps).toList=_
  rw [glued_cps,cps_app,e0,List.flatMap_map,List.flatMap_cons,nl_eq]
  simp only [List.nil_append,cps_app]
theorem split_at {c:Nat} {sep:Str} (hs:sep=⟨#[c]⟩) {ws:List Str} (h0:ws ≠ []) (h:∀ w∈ws,c∉w.cps.toList) (hp:1<=(Builtin.Str.glued sep ws).length) (hk:Builtin.Str.strKind sep=1):splitS (Builtin.Str.glued sep ws) sep=ws:=by
 have key:=parts_glued h0 h
 rw [<- hs] at key
 have hl:sep.length=1:=by rw [hs];rfl
 unfold splitS
 split
 ·rename_i hc
  rcases hc with hc | hc
  ·exfalso
   rw [hl,hk] at hc
   have k:1<=Builtin.Str.strKind (Builtin.Str.glued sep ws):=by unfold Builtin.Str.strKind;split;omega;split<;>omega
   simp only [Bool.or_eq_true,decide_eq_true_eq] at hc
   omega
  ·rw [List.isEmpty_iff.mp hc] at key
   refine Eq.trans ?_ key
   show [_]=[Builtin.Str.strSub _ 0 _]
   congr 1
   unfold Builtin.Str.strSub
   have:∀ x:Str,x=⟨x.cps.extract 0 x.length⟩:=fun x=>by
    have e:x.cps.extract 0 x.cps.size=x.cps:=by simp
    show x=⟨x.cps.extract 0 x.cps.size⟩
    rw [e]
   exact this _
 ·rw [hl];exact key
theorem strsD_map:∀ ws:List Str,strsD (ws.map .str)=some ws
 | []=>rfl
 | w::ws=>by
  show ((some w).bind fun x=>(strsD (ws.map .str)).map fun xs=>x::xs)=_
  rw [strsD_map ws];rfl
theorem join_ok {sep:Str} (hs:sep.length=0) {ws:List Str} (h:ws.length<=100) (hw:∀ w∈ws,w.length<=100):fJoin [.str sep,.lst (ws.map .str)]=some (.str (Builtin.Str.glued sep ws)):=by
 have z:100000<=sizeLine:=by decide
 have f:∀ (ws:List Str) (acc:Nat),(∀ w∈ws,w.length<=100)->ws.foldl (fun n x=>n+x.length+sep.length) acc<=acc+ws.length*100:=by
  intro ws
  induction ws with
  | nil=>intro acc _;simp
  | cons w ws ih =>
   intro acc hw
   have a:=ih (acc+w.length+sep.length) fun x hx=>hw x (List.mem_cons_of_mem _ hx)
   have b:=hw w List.mem_cons_self
   rw [hs] at a
   rw [List.foldl_cons,hs,List.length_cons]
   omega
 have g:∀ ws:List Str,(∀ w∈ws,w.length<=100)->(ws.map (·.length)).sum<=ws.length*100:=by
  intro ws
  induction ws with
  | nil=>intro _;simp
  | cons w ws ih =>
   intro hw
   have a:=ih fun x hx=>hw x (List.mem_cons_of_mem _ hx)
   have b:=hw w List.mem_cons_self
   simp at a ⊢
   omega
 show ((strsD (ws.map .str)).bind fun xs=>(joinS sep xs).map D.str)=_
 rw [strsD_map]
 show (joinS sep ws).map D.str=_
 unfold joinS
 rw [if_pos]
 ·rfl
 ·constructor
  ·have:=f ws 0 hw
   rw [List.foldl_toArray]
   omega
  ·rw [PySem.size_glued,hs]
   have:=g ws hw
   omega
theorem tx_all:(List.range 61).all (fun n=>decide ((tx n).length<=2)&&(!(tx n).cps.toList.contains 32&&!(tx n).cps.toList.contains 10))=true:=by decide +kernel
theorem tx_of {n:Int} (h0:0<=n) (h1:n<=60):(tx n).length<=2/\32∉(tx n).cps.toList/\10∉(tx n).cps.toList:=by
 have:=List.all_eq_true.mp tx_all n.toNat (by simp;omega)
 rw [Int.toNat_of_nonneg h0] at this
 simp only [Bool.and_eq_true] at this
 exact ⟨of_decide_eq_true this.1,by simpa using this.2.1,by simpa using this.2.2⟩
theorem f_str60 {n:Int} (h0:0<=n) (h1:n<=60):fStr [.int n]=some (.str (tx n)):=f_str h0 (by omega)
theorem deed_all (k:Deed):k.x.length<=7/\32∉k.x.cps.toList/\10∉k.x.cps.toList:=by cases k<;>decide +kernel
theorem face_all (f:Face):f.x.length<=5/\32∉f.x.cps.toList/\10∉f.x.cps.toList:=by cases f<;>decide +kernel
def prs:List Str:=[Str.ofString "a",Str.ofString "b",Str.ofString "c",Str.ofString "A",Str.ofString "B",Str.ofString "C"]
theorem prs_all:∀ p∈prs,p.length=1/\32∉p.cps.toList/\10∉p.cps.toList:=by
 intro p hp
 simp only [prs,List.mem_cons,List.not_mem_nil,or_false] at hp
 rcases hp with rfl | rfl | rfl | rfl | rfl | rfl<;>decide +kernel
def hdT (b:Bk):Str:=Str.ofString "hold " ++ tx b.hold++Str.ofString " back " ++ tx b.back
def mhT (f:Face) (s:Bool):Str:=Str.ofString "mode " ++ f.x++(if s then Str.ofString " stays" else Str.ofString "")
def pwT (p:Str) (r:Deed×Nat):Str:=p++Str.ofString " " ++ r.1.x++Str.ofString " " ++ tx r.2
def mrT (m:Md):List Str:=mhT m.face m.stays::List.zipWith pwT prs m.rows
def btT (b:Bk):List Str:=hdT b::b.modes.flatMap mrT
def bookT (b:Bk):Str:=flatR (btT b)
theorem ie:(Str.ofString "hold ").length=5:=by decide +kernel
theorem kr:(Str.ofString " back ").length=6:=by decide +kernel
theorem ge:(Str.ofString "mode ").length=5:=by decide +kernel
theorem lh:(Str.ofString " stays").length=6:=by decide +kernel
theorem lZ:(Str.ofString "").length=0:=by decide +kernel
theorem fj:(Str.ofString " ").length=1:=by decide +kernel
theorem nA:(Str.ofString "\n").length=1:=by decide +kernel
theorem c_hold:10∉(Str.ofString "hold ").cps.toList:=by decide +kernel
theorem c_back:10∉(Str.ofString " back ").cps.toList:=by decide +kernel
theorem c_mode:10∉(Str.ofString "mode ").cps.toList:=by decide +kernel
theorem c_stays:10∉(Str.ofString " stays").cps.toList:=by decide +kernel
theorem c_nil:10∉(Str.ofString "").cps.toList:=by decide +kernel
theorem c_blank:10∉(Str.ofString " ").cps.toList:=by decide +kernel
theorem no_app {c:Nat} {x y:Str} (h1:c∉x.cps.toList) (h2:c∉y.cps.toList):c∉(x++y).cps.toList:=by rw [cps_app];simp only [List.mem_append,not_or];exact ⟨h1,h2⟩
theorem hd_row {b:Bk} (h:b.Ok):(hdT b).length<=20/\10∉(hdT b).cps.toList:=by
 have t1:=tx_of (n:=b.hold) (by have:=h.hold1;omega) (by have:=h.hold9;omega)
 have t2:=tx_of (n:=b.back) h.back0 h.back60
 refine ⟨?_,no_app (no_app (no_app c_hold t1.2.2) c_back) t2.2.2⟩
 unfold hdT
 rw [app_len,app_len,app_len,ie,kr]
 omega
theorem mh_row (f:Face) (s:Bool):(mhT f s).length<=20/\10∉(mhT f s).cps.toList:=by
 have t:=face_all f
 unfold mhT
 cases s
 ·refine ⟨?_,no_app (no_app c_mode t.2.2) c_nil⟩
  rw [app_len,app_len,ge,if_neg (by decide),lZ];omega
 ·refine ⟨?_,no_app (no_app c_mode t.2.2) c_stays⟩
  rw [app_len,app_len,ge,if_pos rfl,lh];omega
theorem pw_row {p:Str} (hp:p∈prs) {r:Deed×Nat} (hr:r.2<8):(pwT p r).length<=20/\10∉(pwT p r).cps.toList:=by
 have t1:=prs_all p hp
 have t2:=deed_all r.1
 have t3:=tx_of (n:=r.2) (by omega) (by omega)
 refine ⟨?_,no_app (no_app (no_app (no_app t1.2.2 c_blank) t2.2.2) c_blank) t3.2.2⟩
 unfold pwT
 rw [app_len,app_len,app_len,app_len,fj]
 omega
theorem six_of {α:Type} {l:List α} (h:l.length=6):∃ a b c d e f,l=[a,b,c,d,e,f]:=by
 match l,h with
 | [a,b,c,d,e,f],_=>exact ⟨a,b,c,d,e,f,rfl⟩
theorem mr_rows {m:Md} {n:Nat} (h:m.Ok n) (hn:n<=8):(mrT m).length=7/\∀ r∈mrT m,r.length<=20/\10∉r.cps.toList:=by
 obtain ⟨r0,r1,r2,r3,r4,r5,e⟩:=six_of h.six
 have nx:=h.nx
 unfold mrT
 rw [e] at nx ⊢
 refine ⟨rfl,fun r hr=>?_⟩
 rcases List.mem_cons.mp hr with rfl | hr
 ·exact mh_row _ _
 ·have q:∀ x ∈ [r0,r1,r2,r3,r4,r5],x.2<8:=fun x hx=>by have:=nx x hx;omega
  simp only [prs,List.zipWith,List.mem_cons,List.not_mem_nil,or_false] at hr
  rcases hr with rfl | rfl | rfl | rfl | rfl | rfl<;>exact pw_row (by simp [prs]) (q _ (by simp))
theorem flatMap_len {α:Type} {f:α->List Str}:∀ {l:List α},(∀ a∈l,(f a).length=7)->(l.flatMap f).length=7*l.length
 | [],_=>rfl
 | a::l,h=>by
  rw [List.flatMap_cons,List.length_append,flatMap_len fun x hx=>h x (List.mem_cons_of_mem _ hx),h a List.mem_cons_self,List.length_cons]
  omega
theorem bt_rows {b:Bk} (h:b.Ok):(btT b).length=1+7*b.modes.length/\∀ r∈btT b,r.length<=20/\10∉r.cps.toList:=by
 constructor
 ·show (b.modes.flatMap mrT).length+1=_
  rw [flatMap_len fun m hm=>(mr_rows (h.all m hm) h.some8).1]
  omega
 ·intro r hr
  rcases List.mem_cons.mp hr with rfl | hr
  ·exact hd_row h
  ·obtain ⟨m,hm,hr⟩:=List.mem_flatMap.mp hr
   exact (mr_rows (h.all m hm) h.some8).2 r hr
theorem flat_len:∀ {rows:List Str},(∀ r∈rows,r.length<=20)->(flatR rows).length<=21*rows.length
 | [],_=>by simp [flatR,Str.length]
 | r::rs,h=>by
  have ih:=flat_len (rows:=rs) fun x hx=>h x (List.mem_cons_of_mem _ hx)
  have a:=h r List.mem_cons_self
  rw [show r::rs=[r]++rs from rfl,flat_app,app_len,flat_one,app_len,show nlS.length=1 from nA,List.length_append,List.length_singleton]
  omega
theorem bookT_len {b:Bk} (h:b.Ok):(bookT b).length<=1300:=by
 have a:=flat_len fun r hr=>((bt_rows h).2 r hr).1
 have c:=h.some8
 rw [(bt_rows h).1] at a
 unfold bookT
 omega
theorem obS {p:R->List D->Option (Out×List D)} {q:R->List D->Option Out} {ρ ρ2:R} {ds ds2:List D} (h:p ρ ds=some (.nx ρ2,ds2)):obSeq p q ρ ds=q ρ2 ds2:=by simp [h]
theorem join1 {x:Str} (h:x.length<=100000):fJoinR [.str (Str.ofString ""),.lst [.str x]]=some (.str x):=by
 have z:100000<=sizeLine:=by decide
 have e:(Str.ofString "").length=0:=by decide +kernel
 show (joinS (Str.ofString "") [x]).map D.str=_
 unfold joinS
 rw [if_pos]
 ·rfl
 ·constructor
  ·show 0+x.length+(Str.ofString "").length<=sizeLine
   rw [e];omega
  ·show x.length<=sizeLine
   omega
def Ev.w:Ev->Str
 | .down x=>Str.ofString "+" ++ x.x
 | .up x=>Str.ofString "-" ++ x.x
 | .ticks n=>Str.ofString "." ++ tx n
def Ev.Sm:Ev->Prop
 | .ticks n=>1<=n/\n<=130
 | _=>True
theorem dot_len:(Str.ofString ".").length=1:=by decide +kernel
def fL:R->Option Out :=
 (retD (op2 dAdd (op2 dAdd (fun _=>some (.str (Str.ofString "mode "))) (vAt 0)) (ifE (truT (vAt 1)) (fun _=>some (.str (Str.ofString " stays"))) (fun _=>some (.str (Str.ofString ""))))))
def aV:List D->Option D:=via 2 2 fL
theorem kf:∀ ds d,aV ds=some d->retOf (fL (beg 2 ds))=some d:=fun _ _ h=>bb h
theorem j9:∀ ds d,aV ds=some d->ds.length=2:=fun _ _ h=>aB h
theorem fP (f:Face) (s:Bool):aV [.str f.x,.bl s]=some (.str (mhT f s)):=by
 have t:=face_all f
 have h1:(Str.ofString "mode ").length+f.x.length<=100000:=by rw [ge];omega
 cases s
 ·refine viaS (retS (opS (opS rfl rfl (addS h1)) (ieF (trS rfl) rfl) (addS ?_)))
  rw [app_len,ge,lZ];omega
 ·refine viaS (retS (opS (opS rfl rfl (addS h1)) (ieT (trS rfl) rfl) (addS ?_)))
  rw [app_len,ge,lh];omega
def eV:R->Option Out :=
 (retD (op2 dAdd (op2 dAdd (op2 dAdd (op2 dAdd (vAt 0) (fun _=>some (.str (Str.ofString " ")))) (op2 dIx (vAt 1) (fun _=>some (.int 0)))) (fun _=>some (.str (Str.ofString " ")))) (callD fStr (argC (op2 dIx (vAt 1) (fun _=>some (.int 1))) argN))))
def aY:List D->Option D:=via 2 2 eV
theorem io:∀ ds d,aY ds=some d->retOf (eV (beg 2 ds))=some d:=fun _ _ h=>bb h
theorem iO:∀ ds d,aY ds=some d->ds.length=2:=fun _ _ h=>aB h
theorem iU {p:Str} (hp:p∈prs) {r:Deed×Nat} (hr:r.2<8):aY [.str p,rowD r]=some (.str (pwT p r)):=by
 have t1:=prs_all p hp
 have t2:=deed_all r.1
 have t3:=tx_of (n:=r.2) (by omega) (by omega)
 refine viaS (retS (opS (opS (opS (opS rfl rfl (addS ?_)) (opS rfl rfl (r0 r)) (addS ?_)) rfl (addS ?_)) (callS (arS (opS rfl rfl (r1 r)) rfl) (f_str60 (n:=r.2) (by omega) (by omega))) (addS ?_)))
 ·rw [fj];omega
 ·rw [app_len,fj];omega
 ·rw [app_len,app_len,fj];omega
 ·rw [app_len,app_len,app_len,fj];omega
def fK:R->Option Out :=
  (seqD (asgD (lcD 1 (inRng1 (callD fLen (argC (fun _=>some aM) argN))) (setAt 0) yesT (callD aY (argC (op2 dIx (fun _=>some aM) (vAt 0)) (argC (op2 dIx (op2 dIx (vAt 1) (fun _=>some (.int 2))) (vAt 0)) argN)))) (setAt 1))
  (retD (op2 dAdd (lstD (argC (callD aV (argC (op2 dIx (vAt 0) (fun _=>some (.int 0))) (argC (op2 dIx (vAt 0) (fun _=>some (.int 1))) argN))) argN)) (vAt 1))))
def aT:List D->Option D:=via 1 2 fK
theorem jL:∀ ds d,aT ds=some d->retOf (fK (beg 2 ds))=some d:=fun _ _ h=>bb h
theorem jC:∀ ds d,aT ds=some d->ds.length=1:=fun _ _ h=>aB h
theorem compC {st:D->R->Option R} {e:R->Option D} {ρ ρ1:R} {d x:D} {ds xs:List D} (h1:st d ρ=some ρ1) (h2:e ρ1=some x) (h3:compD st yesT e ds ρ=some xs):compD st yesT e (d::ds) ρ=some (x::xs):=by simp [compD,h1,h2,h3]
theorem jV {m:Md} {n:Nat} (h:m.Ok n) (hn:n<=8):aT [m.d]=some (.lst ((mrT m).map .str)):=by
  obtain ⟨f,s,rows⟩:=m
  obtain ⟨r0,r1,r2,r3,r4,r5,e⟩:=six_of h.six
  have nx:=h.nx
  replace e:rows=[r0,r1,r2,r3,r4,r5]:=e
  subst e
  have q:∀ x ∈ [r0,r1,r2,r3,r4,r5],x.2<8:=fun x hx=>by have:=nx x hx;omega
  have z:7<=sizeLine:=by decide
  have el:∀ (k:Nat) (p:Str) (r:Deed×Nat),p∈prs->r.2<8->dIx aM (.int k)=some (.str p)->dIx (.tup ([r0,r1,r2,r3,r4,r5].map rowD)) (.int k)=some (rowD r) ->
      callD aY (argC (op2 dIx (fun _=>some aM) (vAt 0)) (argC (op2 dIx (op2 dIx (vAt 1) (fun _=>some (.int 2))) (vAt 0)) argN)) [some (.int k),some (Md.d ⟨f,s,[r0,r1,r2,r3,r4,r5]⟩),none]=some (.str (pwT p r)) :=
    fun k p r hp hr e1 e2=>callS (arS (opS rfl rfl e1) (arS (opS (opS rfl rfl (m2 _)) rfl e2) rfl)) (iU hp hr)
  have hc:lcD 1 (inRng1 (callD fLen (argC (fun _=>some aM) argN))) (setAt 0) yesT (callD aY (argC (op2 dIx (fun _=>some aM) (vAt 0)) (argC (op2 dIx (op2 dIx (vAt 1) (fun _=>some (.int 2))) (vAt 0)) argN))) [some (Md.d ⟨f,s,[r0,r1,r2,r3,r4,r5]⟩),none] =
      some (.lst ((List.zipWith pwT prs [r0,r1,r2,r3,r4,r5]).map .str)) :=
    lcS (ds:=[.int 0,.int 1,.int 2,.int 3,.int 4,.int 5]) rfl (by simp)
      (compC rfl (el 0 _ r0 (by simp [prs]) (q _ (by simp)) rfl rfl) (compC rfl (el 1 _ r1 (by simp [prs]) (q _ (by simp)) rfl rfl) (compC rfl (el 2 _ r2 (by simp [prs]) (q _ (by simp)) rfl rfl)
        (compC rfl (el 3 _ r3 (by simp [prs]) (q _ (by simp)) rfl rfl) (compC rfl (el 4 _ r4 (by simp [prs]) (q _ (by simp)) rfl rfl) (compC rfl (el 5 _ r5 (by simp [prs]) (q _ (by simp)) rfl rfl) rfl))))))
  refine viaS ((seqN (asgS hc rfl)).trans (retS (opS (lstS (arS (callS (arS (opS rfl rfl (m0 _)) (arS (opS rfl rfl (m1 _)) rfl)) (fP f s)) rfl)) rfl ?_)))
  show (if 1+6<=sizeLine then _ else none)=_
  rw [if_pos z];rfl
def cM:R->Option Out :=
  (ownD 2 (argC (op2 dAdd (op2 dAdd (op2 dAdd (fun _=>some (.str (Str.ofString "hold "))) (callD fStr (argC (op2 dIx (vAt 0) (fun _=>some (.int 0))) argN))) (fun _=>some (.str (Str.ofString " back ")))) (callD fStr (argC (op2 dIx (vAt 0) (fun _=>some (.int 1))) argN))) argN)
  (obSeq (oLoop (inSeq (op2 dIx (vAt 0) (fun _=>some (.int 2)))) (setAt 1)
  (oExt 2 (callD aT (argC (vAt 1) argN))))
  (obRel (retD (callD fJoin (argC (fun _=>some (.str (Str.ofString ""))) (argC (lcD 1 (inSeq (vAt 2)) (setAt 0) yesT (op2 dAdd (vAt 0) (fun _=>some (.str (Str.ofString "\n"))))) argN)))))))
def bg:List D->Option D:=via 1 3 cM
theorem jE:∀ ds d,bg ds=some d->retOf (cM (beg 3 ds))=some d:=fun _ _ h=>bb h
theorem jG:∀ ds d,bg ds=some d->ds.length=1:=fun _ _ h=>aB h
theorem forO_go {st:D->R->Option R} {p:R->List D->Option (Out×List D)} {d:D} {es ds ds2:List D} {ρ ρ1 ρ2:R} (h1:st d ρ=some ρ1) (h2:p ρ1 ds=some (.nx ρ2,ds2)):forO st p (d::es) ρ ds=forO st p es ρ2 ds2:=by simp [forO,h1,h2]
theorem rowsL_loop (B:D) (n:Nat) (hn:n<=8):∀ (ms:List Md) (o:Option D) (ds:List D),(∀ m∈ms,m.Ok n)->ds.length+7*ms.length<=1000 ->
  ∃ o',forO (setAt 1) (oExt 2 (callD aT (argC (vAt 1) argN))) (ms.map Md.d) [some B,o] ds=some (.nx [some B,o'],ds++(ms.flatMap mrT).map .str)
 | [],o,ds,_,_=>⟨o,by simp [forO]⟩
 | m::ms,o,ds,h,hl=>by
  have z:1000<=sizeLine:=by decide
  have ok:=h m List.mem_cons_self
  have l7:=(mr_rows ok hn).1
  rw [List.length_cons] at hl
  obtain ⟨o',e⟩:=rowsL_loop B n hn ms (some m.d) (ds++(mrT m).map .str) (fun x hx=>h x (List.mem_cons_of_mem _ hx)) (by rw [List.length_append,List.length_map,l7];omega)
  refine ⟨o',?_⟩
  have st:oExt 2 (callD aT (argC (vAt 1) argN)) [some B,some m.d] ds=some (.nx [some B,some m.d],ds++(mrT m).map .str):=by
   show (callD aT (argC (vAt 1) argN) [some B,some m.d]).bind _=_
   rw [callS rfl (jV ok hn)]
   show (if 2=2/\ds.length+((mrT m).map D.str).length<=sizeLine then _ else none)=_
   rw [if_pos ⟨rfl,by rw [List.length_map,l7];omega⟩]
  rw [List.map_cons,forO_go (ρ1:=[some B,some m.d]) rfl st,e,List.flatMap_cons,List.map_append,List.append_assoc]
theorem fG {b:Bk} (h:b.Ok):bg [b.d]=some (.str (bookT b)):=by
 have t1:=tx_of (n:=b.hold) (by have:=h.hold1;omega) (by have:=h.hold9;omega)
 have t2:=tx_of (n:=b.back) h.back0 h.back60
 have some8:=h.some8
 obtain ⟨o',e⟩:=rowsL_loop b.d _ some8 b.modes none [.str (hdT b)] h.all (by simp;omega)
 have hF:argC (op2 dAdd (op2 dAdd (op2 dAdd (fun _=>some (.str (Str.ofString "hold "))) (callD fStr (argC (op2 dIx (vAt 0) (fun _=>some (.int 0))) argN))) (fun _=>some (.str (Str.ofString " back ")))) (callD fStr (argC (op2 dIx (vAt 0) (fun _=>some (.int 1))) argN))) argN [some b.d,none,none]=some [.str (hdT b)]:=by
  refine arS (opS (opS (opS rfl (callS (arS (opS rfl rfl (b0 b)) rfl) (f_str60 (n:=b.hold) (by have:=h.hold1;omega) (by have:=h.hold9;omega))) (addS ?_)) rfl (addS ?_)) (callS (arS (opS rfl rfl (b1 b)) rfl) (f_str60 h.back0 h.back60)) (addS ?_)) rfl
  ·rw [ie];omega
  ·rw [app_len,ie,kr];omega
  ·rw [app_len,app_len,ie,kr];omega
 have hL:[D.str (hdT b)]++(b.modes.flatMap mrT).map .str=(btT b).map .str:=rfl
 rw [hL] at e
 have a1:oLoop (inSeq (op2 dIx (vAt 0) (fun _=>some (.int 2)))) (setAt 1) (oExt 2 (callD aT (argC (vAt 1) argN))) [some b.d,none] [.str (hdT b)]=some (.nx [some b.d,o'],(btT b).map .str):=by
  show (inSeq (op2 dIx (vAt 0) (fun _=>some (.int 2))) [some b.d,none]).bind _=_
  exact e
 have hc:compD (setAt 0) yesT (op2 dAdd (vAt 0) (fun _=>some (.str (Str.ofString "\n")))) ((btT b).map .str) (List.replicate 1 none++[some b.d,o',some (.lst ((btT b).map .str))])=some (((btT b).map (·++nlS)).map .str):=by
  rw [List.map_map]
  refine c_ _ _ fun r hr=>⟨_,rfl,opS rfl rfl (addS ?_)⟩
  have:=((bt_rows h).2 r hr).1
  rw [nA];omega
 have hj:fJoin [.str (Str.ofString ""),.lst (((btT b).map (·++nlS)).map .str)]=some (.str (bookT b)):=by
  rw [join_ok lZ (by rw [List.length_map,(bt_rows h).1];omega) (by
   intro w hw
   obtain ⟨r,hr,rfl⟩:=List.mem_map.mp hw
   have:=((bt_rows h).2 r hr).1
   rw [app_len,show nlS.length=1 from nA];omega),flat_join]
  rfl
 have hg:cM [some b.d,none,none]=some (.rt (.str (bookT b))):=by
  unfold cM
  show (argC _ _ [some b.d,none,none]).bind _=_
  rw [hF]
  show (obSeq _ _ [some b.d,none] [.str (hdT b)])=_
  rw [obT a1]
  exact retS (callS (arS rfl (arS (lcS rfl (by rw [List.length_map,(bt_rows h).1];omega) hc) rfl)) hj)
 exact viaS hg
def gN:R->Option Out :=
  (ownD 1 argN
  (obSeq (oPure (whl0 (cmp2 cGe (vAt 0) (fun _=>some cy))))
  (obSeq (oApp 1 (callD fStr (argC (vAt 0) argN)))
  (obRel (retD (callD fJoinR (argC (fun _=>some (.str (Str.ofString ""))) (argC (vAt 1) argN))))))))
def bY:List D->Option D:=via 1 2 gN
theorem lG:∀ ds d,bY ds=some d->retOf (gN (beg 2 ds))=some d:=fun _ _ h=>bb h
theorem lF:∀ ds d,bY ds=some d->ds.length=1:=fun _ _ h=>aB h
theorem gT {n:Int} (h0:0<=n) (h1:n<1000000000000000000):bY [.int n]=some (.str (tx n)):=by
 have hw:whl0 (cmp2 cGe (vAt 0) (fun _=>some cy)) [some (.int n)]=some (.nx [some (.int n)]):=by
  have:¬ (1000000000000000000:Int)<=n:=by omega
  simp [cy,this]
 have hs:=f_str h0 h1
 have hj:=join1 (x:=tx n) (Nat.le_trans (tx_len h0 h1) (by decide))
 have z:0<sizeLine:=by decide
 have a1:oPure (whl0 (cmp2 cGe (vAt 0) (fun _=>some cy))) [some (.int n)] []=some (.nx [some (.int n)],[]):=by
  show (whl0 _ _).map _=_
  rw [hw];rfl
 have a2:oApp 1 (callD fStr (argC (vAt 0) argN)) [some (.int n)] []=some (.nx [some (.int n)],[.str (tx n)]):=by
  show ((fStr [.int n]).bind _)=_
  rw [hs]
  show (if 1=1/\0<sizeLine then _ else none)=_
  rw [if_pos ⟨rfl,z⟩];rfl
 show retOf (obSeq (oPure (whl0 (cmp2 cGe (vAt 0) (fun _=>some cy)))) _ [some (.int n)] [])=_
 rw [obS a1,obS a2]
 show retOf ((fJoinR [.str (Str.ofString ""),.lst [.str (tx n)]]).map .rt)=_
 rw [hj];rfl
def fi:R->Option Out :=
  (seqD (ifD (cmp2 cEq (op2 dIx (vAt 0) (fun _=>some (.int 0))) (fun _=>some (.str (Str.ofString "down"))))
  (retD (op2 dAdd (fun _=>some (.str (Str.ofString "+"))) (op2 dIx (vAt 0) (fun _=>some (.int 1)))))
  nextD)
  (seqD (ifD (cmp2 cEq (op2 dIx (vAt 0) (fun _=>some (.int 0))) (fun _=>some (.str (Str.ofString "up"))))
  (retD (op2 dAdd (fun _=>some (.str (Str.ofString "-"))) (op2 dIx (vAt 0) (fun _=>some (.int 1)))))
  nextD)
  (retD (op2 dAdd (fun _=>some (.str (Str.ofString "."))) (callD bY (argC (op2 dIx (vAt 0) (fun _=>some (.int 1))) argN))))))
def aG:List D->Option D:=via 1 1 fi
theorem iI:∀ ds d,aG ds=some d->retOf (fi (beg 1 ds))=some d:=fun _ _ h=>bb h
theorem iV:∀ ds d,aG ds=some d->ds.length=1:=fun _ _ h=>aB h
theorem iM {e:Ev} (h:e.Sm):aG [e.d]=some (.str e.w):=by
 cases e with
 | down x=>cases x<;>exact viaS ((seqR ((ifT (cmS rfl rfl rfl)).trans (retS (opS rfl rfl (addS (by decide +kernel)))))))
 | up x=>cases x<;>exact viaS ((seqN ((ifF (cmS rfl rfl rfl)).trans rfl)).trans (seqR ((ifT (cmS rfl rfl rfl)).trans (retS (opS rfl rfl (addS (by decide +kernel)))))))
 | ticks n =>
  have h0:0<=n:=by have:=h.1;omega
  have h1:n<1000000000000000000:=by have:=h.2;omega
  have l:=tx_len h0 h1
  exact viaS ((seqN ((ifF (cmS rfl rfl rfl)).trans rfl)).trans ((seqN ((ifF (cmS rfl rfl rfl)).trans rfl)).trans (retS (opS rfl (callS rfl (gT h0 h1)) (addS (by rw [dot_len];omega))))))
def gv:R->Option Out :=
 (retD (callD fJoin (argC (fun _=>some (.str (Str.ofString " "))) (argC (lcD 1 (inSeq (vAt 0)) (setAt 0) yesT (callD aG (argC (vAt 0) argN))) argN))))
def a_:List D->Option D:=via 1 1 gv
theorem kM:∀ ds d,a_ ds=some d->retOf (gv (beg 1 ds))=some d:=fun _ _ h=>bb h
theorem ki:∀ ds d,a_ ds=some d->ds.length=1:=fun _ _ h=>aB h
def cH:R->Option Out :=
  (seqD (ifD (cmp2 cLt (vAt 1) (callD fLen (argC (vAt 0) argN)))
  (retD (op2 dIx (vAt 0) (vAt 1)))
  nextD)
  (retD (fun _=>some (.int 0))))
def aE:List D->Option D
 | [.fro xs,.int k]=>if 0<=k then (if k<xs.length then xs[k.toNat]? else some (.int 0)) else none
 | _=>none
theorem gy:∀ ds d,aE ds=some d->retOf (cH (beg 2 ds))=some d
 | [.fro xs,.int k],d,h=>by
  unfold aE at h
  dsimp only at h
  split at h
  ·rename_i h0
   split at h
   ·rename_i h1
    obtain ⟨hk,e⟩:=List.getElem?_eq_some_iff.mp h
    simp [cH,h1,atD,ixD,h0]
    exact e
   ·rename_i h1
    cases h
    simp [cH,h1]
  ·cases h
theorem gu:∀ ds d,aE ds=some d->ds.length=2:=fun ds d h=>by unfold aE at h;split at h<;>first | rfl | cases h
def db:R->Option Out :=
  (seqD (asgD (op2 dMod (op2 dMul (op2 dAdd (op2 dAdd (callD aE (argC (vAt 0) (argC (vAt 1) argN))) (op2 dMul (fun _=>some (.int 7919)) (vAt 1))) (fun _=>some (.int 1))) (fun _=>some (.int 48271))) (fun _=>some (.int 2147483647))) (setAt 2))
  (retD (op2 dMod (op2 dAdd (op2 dAdd (op2 dMul (vAt 2) (vAt 2)) (op2 dMul (fun _=>some (.int 7)) (vAt 2))) (vAt 1)) (fun _=>some (.int 2147483629)))))
def aS:List D->Option D:=via 2 3 db
theorem iC:∀ ds d,aS ds=some d->retOf (db (beg 3 ds))=some d:=fun _ _ h=>bb h
theorem cell_some (ns:List Int) (k:Int) (h0:0<=k):∃ c,aE [.fro (ns.map .int),.int k]=some (.int c):=by
 unfold aE
 dsimp only
 rw [if_pos h0]
 by_cases h1:k<((ns.map D.int).length:Int)
 ·rw [if_pos h1]
  have h2:k.toNat<ns.length:=by simp at h1;omega
  exact ⟨ns[k.toNat],by rw [List.getElem?_map,List.getElem?_eq_getElem h2];rfl⟩
 ·rw [if_neg h1]
  exact ⟨0,rfl⟩
theorem mixed_some (ns:List Int) (k:Int) (h0:0<=k):∃ m,aS [.fro (ns.map .int),.int k]=some (.int m)/\0<=m:=by
 obtain ⟨c,hc⟩:=cell_some ns k h0
 generalize hq:(c+7919*k+1)*48271%2147483647=q
 have q0:0<=q:=by rw [<- hq];exact Int.emod_nonneg _ (by decide)
 have q1:q<2147483647:=by rw [<- hq];exact Int.emod_lt_of_pos _ (by decide)
 have m1:mulFits 7919 k=true:=mulFits_l (by decide) (by decide)
 have m2:mulFits (c+7919*k+1) 48271=true:=mulFits_r (by decide) (by decide)
 have m3:mulFits q q=true:=mulFits_l (by omega) (by omega)
 have m4:mulFits 7 q=true:=mulFits_l (by decide) (by decide)
 refine ⟨(q*q+7*q+k)%2147483629,?_,Int.emod_nonneg _ (by decide)⟩
 simp [aS,via,db,hc,m1,m2,hq,m3,m4]
theorem hU:∀ ds d,aS ds=some d->ds.length=2:=fun _ _ h=>aB h
def di:R->Option Out :=
  (seqD (asgD (op2 dMod (op2 dMul (op2 dAdd (op2 dAdd (vAt 0) (op2 dMul (fun _=>some (.int 104729)) (vAt 1))) (fun _=>some (.int 17))) (fun _=>some (.int 69621))) (fun _=>some (.int 2147483647))) (setAt 2))
  (retD (op2 dMod (op2 dAdd (op2 dAdd (op2 dMul (vAt 2) (vAt 2)) (op2 dMul (fun _=>some (.int 3)) (vAt 2))) (vAt 1)) (fun _=>some (.int 2147483629)))))
def au:List D->Option D:=via 2 3 di
theorem ik:∀ ds d,au ds=some d->retOf (di (beg 3 ds))=some d:=fun _ _ h=>bb h
def drawnI (n k:Int):Int:=((n+104729*k+17)*69621%2147483647*((n+104729*k+17)*69621%2147483647)+3*((n+104729*k+17)*69621%2147483647)+k)%2147483629
theorem drawn_some (n k:Int):au [.int n,.int k]=some (.int (drawnI n k)):=by
 unfold drawnI
 generalize hq:(n+104729*k+17)*69621%2147483647=q
 have q0:0<=q:=by rw [<- hq];exact Int.emod_nonneg _ (by decide)
 have q1:q<2147483647:=by rw [<- hq];exact Int.emod_lt_of_pos _ (by decide)
 have m1:mulFits 104729 k=true:=mulFits_l (by decide) (by decide)
 have m2:mulFits (n+104729*k+17) 69621=true:=mulFits_r (by decide) (by decide)
 have m3:mulFits q q=true:=mulFits_l (by omega) (by omega)
 have m4:mulFits 3 q=true:=mulFits_l (by decide) (by decide)
 simp [au,via,di,m1,m2,hq,m3,m4]
theorem hV:∀ ds d,au ds=some d->ds.length=2:=fun _ _ h=>aB h
def dR:R->Option Out :=
  (seqD (asgD (op2 dAdd (fun _=>some (.int 1)) (op2 dMod (vAt 0) (fun _=>some (.int 8)))) (setAt 1))
  (seqD (asgD (tupD (argC (fun _=>some (.str (Str.ofString "none"))) (argC (fun _=>some (.str (Str.ofString "hour"))) (argC (fun _=>some (.str (Str.ofString "minute"))) (argC (fun _=>some (.str (Str.ofString "zero"))) (argC (fun _=>some (.str (Str.ofString "ahour"))) (argC (fun _=>some (.str (Str.ofString "aminute"))) (argC (fun _=>some (.str (Str.ofString "alarm"))) (argC (fun _=>some (.str (Str.ofString "run"))) (argC (fun _=>some (.str (Str.ofString "lap"))) (argC (fun _=>some (.str (Str.ofString "cminute"))) (argC (fun _=>some (.str (Str.ofString "csecond"))) (argC (fun _=>some (.str (Str.ofString "full"))) argN))))))))))))) (setAt 2))
  (seqD (asgD (tupD argN) (setAt 3))
  (seqD (loopD (inRng1 (vAt 1)) (setAt 4)
  (seqD (asgD (op2 dDiv (callD au (argC (vAt 0) (argC (vAt 4) argN))) (fun _=>some (.int 4))) (setAt 5))
  (seqD (asgD (tupD argN) (setAt 6))
  (seqD (loopD (inRng1 (fun _=>some (.int 6))) (setAt 7)
  (seqD (asgD (op2 dDiv (callD au (argC (vAt 5) (argC (op2 dAdd (fun _=>some (.int 10)) (vAt 7)) argN))) (fun _=>some (.int 4))) (setAt 8))
  (asgD (op2 dAdd (vAt 6) (tupD (argC (tupD (argC (op2 dIx (op2 dAdd (vAt 2) (tupD (argC (fun _=>some (.str (Str.ofString "count"))) argN))) (op2 dMod (vAt 8) (fun _=>some (.int 13)))) (argC (op2 dMod (op2 dDiv (vAt 8) (fun _=>some (.int 16))) (vAt 1)) argN))) argN))) (setAt 6))))
  (seqD (asgD (op2 dIx (tupD (argC (fun _=>some (.str (Str.ofString "time"))) (argC (fun _=>some (.str (Str.ofString "alarm"))) (argC (fun _=>some (.str (Str.ofString "laps"))) (argC (fun _=>some (.str (Str.ofString "count"))) argN))))) (op2 dMod (vAt 5) (fun _=>some (.int 4)))) (setAt 9))
  (asgD (op2 dAdd (vAt 3) (tupD (argC (tupD (argC (vAt 9) (argC (asV (cmp2 cEq (op2 dMod (op2 dDiv (vAt 5) (fun _=>some (.int 4))) (fun _=>some (.int 2))) (fun _=>some (.int 0)))) (argC (vAt 6) argN)))) argN))) (setAt 3)))))))
  (retD (tupD (argC (op2 dAdd (fun _=>some (.int 1)) (op2 dMod (op2 dDiv (vAt 0) (fun _=>some (.int 8))) (op2 dIx (tupD (argC (fun _=>some (.int 3)) (argC (fun _=>some (.int 9)) argN))) (op2 dMod (op2 dDiv (vAt 0) (fun _=>some (.int 128))) (fun _=>some (.int 2)))))) (argC (op2 dIx (tupD (argC (fun _=>some (.int 0)) (argC (fun _=>some (.int 7)) (argC (fun _=>some (.int 60)) (argC (fun _=>some (.int 1)) (argC (fun _=>some (.int 20)) argN)))))) (op2 dMod (op2 dDiv (vAt 0) (fun _=>some (.int 256))) (fun _=>some (.int 5)))) (argC (vAt 3) argN)))))))))
def bj:List D->Option D:=via 1 10 dR
theorem jz:∀ ds d,bj ds=some d->retOf (dR (beg 10 ds))=some d:=fun _ _ h=>bb h
def deeds12:List D:=[.str (Str.ofString "none"),.str (Str.ofString "hour"),.str (Str.ofString "minute"),.str (Str.ofString "zero"),.str (Str.ofString "ahour"),.str (Str.ofString "aminute"),.str (Str.ofString "alarm"),.str (Str.ofString "run"),.str (Str.ofString "lap"),.str (Str.ofString "cminute"),.str (Str.ofString "csecond"),.str (Str.ofString "full")]
theorem deeds_in:∀ x∈deeds,oneOf x deeds=true/\Fits x:=by
 intro x hx
 simp only [deeds,List.mem_cons,List.not_mem_nil,or_false] at hx
 rcases hx with h | h | h | h | h | h | h | h | h | h | h | h | h<;>subst h<;>exact ⟨by decide,.str _⟩
theorem faces_in:∀ x∈faces,oneOf x faces=true/\Fits x:=by
 intro x hx
 simp only [faces,List.mem_cons,List.not_mem_nil,or_false] at hx
 rcases hx with h | h | h | h<;>subst h<;>exact ⟨by decide,.str _⟩
def turnRow:R->Option Out:=(seqD (asgD (op2 dDiv (callD au (argC (vAt 5) (argC (op2 dAdd (fun _=>some (.int 10)) (vAt 7)) argN))) (fun _=>some (.int 4))) (setAt 8))
 (asgD (op2 dAdd (vAt 6) (tupD (argC (tupD (argC (op2 dIx (op2 dAdd (vAt 2) (tupD (argC (fun _=>some (.str (Str.ofString "count"))) argN))) (op2 dMod (vAt 8) (fun _=>some (.int 13)))) (argC (op2 dMod (op2 dDiv (vAt 8) (fun _=>some (.int 16))) (vAt 1)) argN))) argN))) (setAt 6)))
theorem sz {n:Nat} (h:n<=1000):n<=sizeLine:=Nat.le_trans h (by decide)
theorem my {N m:Int} {ms rs:List D} {a b f:Option D} {q j:Int} (hm:0<m) (hr:rs.length<=100) (hk:∀ x∈rs,rowOk x m=true/\Fits x) :
  ∃ o r,turnRow [some (.int N),some (.int m),some (.tup deeds12),some (.tup ms),a,some (.int q),some (.tup rs),some (.int j),b,f]=some (.nx [some (.int N),some (.int m),some (.tup deeds12),some (.tup ms),a,some (.int q),some (.tup (rs++[r])),some (.int j),o,f])/\rowOk r m=true/\Fits r:=by
 generalize hz:drawnI q (10+j) / 4=z
 obtain ⟨x,hx,hat⟩:=atD_some (xs:=deeds) (i:=z%13) (Int.emod_nonneg _ (by decide)) (Int.emod_lt_of_pos _ (by decide))
 have w0:0<=z / 16%m:=Int.emod_nonneg _ (by omega)
 have w1:z / 16%m<m:=Int.emod_lt_of_pos _ hm
 have hl:rs.length+1<=sizeLine:=sz (by omega)
 have hd:deeds12++[.str (Str.ofString "count")]=deeds:=rfl
 have hs:deeds12.length+1<=sizeLine:=by decide
 refine ⟨some (.int z),.tup [x,.int (z / 16%m)],?_,?_,?_⟩
 ·simp [turnRow,drawn_some,hz,hd,hat,hm,hl,hs]
 ·simp [rowOk,(deeds_in x hx).1,within,w0]
  omega
 ·exact .tup (by simp) (by
   intro y hy
   simp at hy
   rcases hy with h | h<;>subst h
   ·exact (deeds_in _ hx).2
   ·exact .int _)
def turnMode:R->Option Out:=(seqD (asgD (op2 dDiv (callD au (argC (vAt 0) (argC (vAt 4) argN))) (fun _=>some (.int 4))) (setAt 5))
  (seqD (asgD (tupD argN) (setAt 6))
  (seqD (loopD (inRng1 (fun _=>some (.int 6))) (setAt 7) turnRow)
  (seqD (asgD (op2 dIx (tupD (argC (fun _=>some (.str (Str.ofString "time"))) (argC (fun _=>some (.str (Str.ofString "alarm"))) (argC (fun _=>some (.str (Str.ofString "laps"))) (argC (fun _=>some (.str (Str.ofString "count"))) argN))))) (op2 dMod (vAt 5) (fun _=>some (.int 4)))) (setAt 9))
  (asgD (op2 dAdd (vAt 3) (tupD (argC (tupD (argC (vAt 9) (argC (asV (cmp2 cEq (op2 dMod (op2 dDiv (vAt 5) (fun _=>some (.int 4))) (fun _=>some (.int 2))) (fun _=>some (.int 0)))) (argC (vAt 6) argN)))) argN))) (setAt 3))))))
def Rows6 (N m q:Int) (ms:List D) (a f:Option D) (i:Nat) (ρ:R):Prop:=∃ rs o j,ρ=[some (.int N),some (.int m),some (.tup deeds12),some (.tup ms),a,some (.int q),some (.tup rs),j,o,f]/\rs.length=i/\∀ x∈rs,rowOk x m=true/\Fits x
theorem li {N m q:Int} {ms:List D} {a b c f:Option D} (hm:0<m) :
  ∃ rs o j,forD (setAt 7) turnRow (rngD 0 6) [some (.int N),some (.int m),some (.tup deeds12),some (.tup ms),a,some (.int q),some (.tup []),b,c,f]=some (.nx [some (.int N),some (.int m),some (.tup deeds12),some (.tup ms),a,some (.int q),some (.tup rs),j,o,f])/\rs.length=6/\∀ x∈rs,rowOk x m=true/\Fits x:=by
 obtain ⟨ρ',h1,rs,o,j,h2,h3,h4⟩:=forD_inv (st:=setAt 7) (body:=turnRow) (Rows6 N m q ms a f) (rngD 0 6) 0 [some (.int N),some (.int m),some (.tup deeds12),some (.tup ms),a,some (.int q),some (.tup []),b,c,f]
  ⟨[],c,b,rfl,rfl,fun x hx=>nomatch hx⟩ (fun i d ρ e p=>by
   obtain ⟨rs,o,j,rfl,hl,hk⟩:=p
   obtain ⟨rfl,hi⟩:=iR e
   obtain ⟨o',r,h1,h2,h3⟩:=my (N:=N) (ms:=ms) (a:=a) (b:=o) (f:=f) (q:=q) (j:=(i:Int)) hm (rs:=rs) (by omega) hk
   refine ⟨_,_,rfl,h1,rs++[r],o',_,rfl,by simp [hl],fun x hx=>?_⟩
   rcases List.mem_append.mp hx with hx | hx
   ·exact hk x hx
   ·cases List.mem_singleton.mp hx
    exact ⟨h2,h3⟩)
 subst h2
 refine ⟨rs,o,j,h1,?_,h4⟩
 rw [h3,fW]
 rfl
theorem lJ {N m:Int} {ms:List D} {k:Int} {a b c d e:Option D} (hm:0<m) (hms:ms.length<=100) :
  ∃ r o1 o2 o3 o4 o5,turnMode [some (.int N),some (.int m),some (.tup deeds12),some (.tup ms),some (.int k),a,b,c,d,e]=some (.nx [some (.int N),some (.int m),some (.tup deeds12),some (.tup (ms++[r])),some (.int k),o1,o2,o3,o4,o5])/\modeOk r m=true/\Fits r:=by
 generalize hq:drawnI N k / 4=q
 obtain ⟨rs,o,j,h1,h2,h3⟩:=li (N:=N) (m:=m) (q:=q) (ms:=ms) (a:=some (.int k)) (b:=c) (c:=d) (f:=e) hm
 obtain ⟨x,hx,hat⟩:=atD_some (xs:=faces) (i:=q%4) (Int.emod_nonneg _ (by decide)) (Int.emod_lt_of_pos _ (by decide))
 have hl:ms.length+1<=sizeLine:=sz (by omega)
 refine ⟨.tup [x,.bl (q / 4%2==0),.tup rs],some (.int q),some (.tup rs),j,o,some x,?_,?_,?_⟩
 rotate_left 1
 ·have ha:(rs.all fun y=>rowOk y m)=true:=List.all_eq_true.mpr fun y hy=>(h3 y hy).1
  simp [modeOk,(faces_in x hx).1,rowsOk,h2,ha]
 ·refine .tup (by simp) fun y hy=>?_
  simp at hy
  rcases hy with h | h | h<;>subst h
  ·exact (faces_in _ hx).2
  ·exact .bl _
  ·exact .tup (by omega) fun y hy=>(h3 y hy).2
 ·have hat':atD [.str (Str.ofString "time"),.str (Str.ofString "alarm"),.str (Str.ofString "laps"),.str (Str.ofString "count")] (q%4)=some x:=hat
  simp [turnMode,drawn_some,hq,h1,hat',hl]
def Modes (N m:Int) (i:Nat) (ρ:R):Prop:=∃ ms a b c d e f,ρ=[some (.int N),some (.int m),some (.tup deeds12),some (.tup ms),a,b,c,d,e,f]/\ms.length=i/\∀ x∈ms,modeOk x m=true/\Fits x
theorem lj (N:Int):∃ b,bj [.int N]=some b/\bookOk b=true/\Fits b:=by
  generalize hM:1+N%8=m
  have hm0:0<m:=by have:=Int.emod_nonneg N (show (8:Int)≠0 by decide);omega
  have hm8:m<=8:=by have:=Int.emod_lt_of_pos N (show (0:Int)<8 by decide);omega
  obtain ⟨ρ',h1,ms,a,b,c,d,e,f,h2,h3,h4⟩:=forD_inv (st:=setAt 4) (body:=turnMode) (Modes N m) (rngD 0 m) 0 [some (.int N),some (.int m),some (.tup deeds12),some (.tup []),none,none,none,none,none,none]
    ⟨[],none,none,none,none,none,none,rfl,rfl,fun x hx=>nomatch hx⟩ (fun i d ρ e p=>by
      obtain ⟨ms,a,b,c,d',e',f,rfl,hl,hk⟩:=p
      obtain ⟨rfl,hi⟩:=iR e
      obtain ⟨r,o1,o2,o3,o4,o5,h1,h2,h3⟩:=lJ (N:=N) (ms:=ms) (k:=(i:Int)) (a:=b) (b:=c) (c:=d') (d:=e') (e:=f) hm0 (by omega)
      refine ⟨_,_,rfl,h1,ms++[r],_,_,_,_,_,_,rfl,by simp [hl],fun x hx=>?_⟩
      rcases List.mem_append.mp hx with hx | hx
      · exact hk x hx
      · cases List.mem_singleton.mp hx
        exact ⟨h2,h3⟩)
  subst h2
  rw [fW] at h3
  have hlen:((ms.length:Nat):Int)=m:=by omega
  have hr : -4611686018427387904<=m/\m<4611686018427387904:=by omega
  obtain ⟨p,hp,hat⟩:=atD_some (xs:=[.int 3,.int 9]) (i:=N / 128%2) (Int.emod_nonneg _ (by decide)) (Int.emod_lt_of_pos _ (by decide))
  have hp':∃ v:Int,p=.int v/\0<v/\v<=9:=by
    simp at hp
    rcases hp with h | h<;>subst h
    · exact ⟨3,rfl,by decide,by decide⟩
    · exact ⟨9,rfl,by decide,by decide⟩
  obtain ⟨v,rfl,hv0,hv9⟩:=hp'
  obtain ⟨p2,hp2,hat2⟩:=atD_some (xs:=[.int 0,.int 7,.int 60,.int 1,.int 20]) (i:=N / 256%5) (Int.emod_nonneg _ (by decide)) (Int.emod_lt_of_pos _ (by decide))
  have hp2':∃ v:Int,p2=.int v/\0<=v/\v<=60:=by
    simp at hp2
    rcases hp2 with h | h | h | h | h<;>subst h
    · exact ⟨0,rfl,by decide,by decide⟩
    · exact ⟨7,rfl,by decide,by decide⟩
    · exact ⟨60,rfl,by decide,by decide⟩
    · exact ⟨1,rfl,by decide,by decide⟩
    · exact ⟨20,rfl,by decide,by decide⟩
  obtain ⟨v2,rfl,hv20,hv260⟩:=hp2'
  have w0:0<=N / 8%v:=Int.emod_nonneg _ (by omega)
  have w1:N / 8%v<v:=Int.emod_lt_of_pos _ hv0
  refine ⟨.tup [.int (1+N / 8%v),.int v2,.tup ms],?_,?_,?_⟩
  · have hg:dR=(seqD (asgD (op2 dAdd (fun _=>some (.int 1)) (op2 dMod (vAt 0) (fun _=>some (.int 8)))) (setAt 1))
      (seqD (asgD (tupD (argC (fun _=>some (.str (Str.ofString "none"))) (argC (fun _=>some (.str (Str.ofString "hour"))) (argC (fun _=>some (.str (Str.ofString "minute"))) (argC (fun _=>some (.str (Str.ofString "zero"))) (argC (fun _=>some (.str (Str.ofString "ahour"))) (argC (fun _=>some (.str (Str.ofString "aminute"))) (argC (fun _=>some (.str (Str.ofString "alarm"))) (argC (fun _=>some (.str (Str.ofString "run"))) (argC (fun _=>some (.str (Str.ofString "lap"))) (argC (fun _=>some (.str (Str.ofString "cminute"))) (argC (fun _=>some (.str (Str.ofString "csecond"))) (argC (fun _=>some (.str (Str.ofString "full"))) argN))))))))))))) (setAt 2))
      (seqD (asgD (tupD argN) (setAt 3))
      (seqD (loopD (inRng1 (vAt 1)) (setAt 4) turnMode)
      (retD (tupD (argC (op2 dAdd (fun _=>some (.int 1)) (op2 dMod (op2 dDiv (vAt 0) (fun _=>some (.int 8))) (op2 dIx (tupD (argC (fun _=>some (.int 3)) (argC (fun _=>some (.int 9)) argN))) (op2 dMod (op2 dDiv (vAt 0) (fun _=>some (.int 128))) (fun _=>some (.int 2)))))) (argC (op2 dIx (tupD (argC (fun _=>some (.int 0)) (argC (fun _=>some (.int 7)) (argC (fun _=>some (.int 60)) (argC (fun _=>some (.int 1)) (argC (fun _=>some (.int 20)) argN)))))) (op2 dMod (op2 dDiv (vAt 0) (fun _=>some (.int 256))) (fun _=>some (.int 5)))) (argC (vAt 3) argN))))))))):=rfl
    unfold deeds12 at h1
    simp [bj,via,hg,hM,hr,h1,hat,hat2,hv0]
  · have ha:(ms.all fun y=>modeOk y ms.length)=true:=List.all_eq_true.mpr fun y hy=>by rw [hlen];exact (h4 y hy).1
    have g1:1<=ms.length:=by omega
    have g8:ms.length<=8:=by omega
    simp [bookOk,within,modesOk,ha,g1,g8]
    omega
  · refine .tup (by simp) fun y hy=>?_
    simp at hy
    rcases hy with h | h | h<;>subst h
    · exact .int _
    · exact .int _
    · exact .tup (by omega) fun y hy=>(h4 y hy).2
theorem jI:∀ ds d,bj ds=some d->ds.length=1:=fun _ _ h=>aB h
def bQ:R->Option Out :=
  (seqD (asgD (op2 dIx (fun _=>some (.str (Str.ofString "abcaab"))) (op2 dMod (op2 dDiv (vAt 0) (fun _=>some (.int 8))) (fun _=>some (.int 6)))) (setAt 1))
  (seqD (asgD (op2 dMod (vAt 0) (fun _=>some (.int 8))) (setAt 2))
  (seqD (ifD (cmp2 cLt (vAt 2) (fun _=>some (.int 3)))
  (retD (tupD (argC (fun _=>some (.str (Str.ofString "down"))) (argC (vAt 1) argN))))
  nextD)
  (seqD (ifD (cmp2 cLt (vAt 2) (fun _=>some (.int 6)))
  (retD (tupD (argC (fun _=>some (.str (Str.ofString "up"))) (argC (vAt 1) argN))))
  nextD)
  (retD (tupD (argC (fun _=>some (.str (Str.ofString "ticks"))) (argC (op2 dAdd (fun _=>some (.int 1)) (op2 dMod (op2 dDiv (vAt 0) (fun _=>some (.int 64))) (op2 dIx (tupD (argC (fun _=>some (.int 4)) (argC (fun _=>some (.int 12)) (argC (fun _=>some (.int 130)) argN)))) (op2 dMod (op2 dDiv (vAt 0) (fun _=>some (.int 4096))) (fun _=>some (.int 3)))))) argN))))))))
def aF:List D->Option D:=via 1 3 bQ
theorem iG:∀ ds d,aF ds=some d->retOf (bQ (beg 3 ds))=some d:=fun _ _ h=>bb h
theorem iK:∀ ds d,aF ds=some d->ds.length=1:=fun _ _ h=>aB h
theorem btn6 {i:Int} (h0:0<=i) (h1:i<6):∃ x:Btn,dIx (.str (Str.ofString "abcaab")) (.int i)=some (.str x.x):=by
 have:i=0\/i=1\/i=2\/i=3\/i=4\/i=5:=by omega
 rcases this with rfl | rfl | rfl | rfl | rfl | rfl
 ·exact ⟨.a,rfl⟩
 ·exact ⟨.b,rfl⟩
 ·exact ⟨.c,rfl⟩
 ·exact ⟨.a,rfl⟩
 ·exact ⟨.a,rfl⟩
 ·exact ⟨.b,rfl⟩
theorem tick3 {i:Int} (h0:0<=i) (h1:i<3):∃ t:Int,dIx (.tup [.int 4,.int 12,.int 130]) (.int i)=some (.int t)/\0<t/\t<=130:=by
 have:i=0\/i=1\/i=2:=by omega
 rcases this with rfl | rfl | rfl
 ·exact ⟨4,rfl,by decide,by decide⟩
 ·exact ⟨12,rfl,by decide,by decide⟩
 ·exact ⟨130,rfl,by decide,by decide⟩
theorem event_some (n:Int):∃ e:Ev,aF [.int n]=some e.d/\e.Sm:=by
 obtain ⟨x,hx⟩:=btn6 (i:=n / 8%6) (by omega) (by omega)
 by_cases h1:n%8<3
 ·exact ⟨.down x,by simp [-dIx,aF,via,bQ,hx,h1,Ev.d],trivial⟩
 ·by_cases h2:n%8<6
  ·exact ⟨.up x,by simp [-dIx,aF,via,bQ,hx,h1,h2,Ev.d],trivial⟩
  ·obtain ⟨t,ht,t0,t1⟩:=tick3 (i:=n / 4096%3) (by omega) (by omega)
   have hm:=Int.emod_nonneg (n / 64) (show t≠0 by omega)
   have hm2:=Int.emod_lt_of_pos (n / 64) t0
   exact ⟨.ticks (1+n / 64%t),by simp [-dIx,aF,via,bQ,hx,h1,h2,Ev.d,ht,t0],⟨by omega,by omega⟩⟩
def dq:R->Option Out :=
 (retD (callD fTuple (argC (lcD 1 (inRng1 (op2 dMod (vAt 0) (op2 dAdd (vAt 1) (fun _=>some (.int 1))))) (setAt 0) yesT (callD aF (argC (op2 dDiv (callD au (argC (vAt 1) (argC (op2 dAdd (fun _=>some (.int 40)) (vAt 0)) argN))) (fun _=>some (.int 4))) argN))) argN)))
def bJ:List D->Option D:=via 2 2 dq
theorem kG:∀ ds d,bJ ds=some d->retOf (dq (beg 2 ds))=some d:=fun _ _ h=>bb h
theorem kO:∀ ds d,bJ ds=some d->ds.length=2:=fun _ _ h=>aB h
theorem mo (n m:Int) (hm:0<=m) (hm2:m<=100):∃ es:List Ev,bJ [.int n,.int m]=some (.tup (es.map Ev.d))/\(∀ e∈es,e.Sm)/\es.length<=m.toNat:=by
 have hk0:=Int.emod_nonneg n (show m+1≠0 by omega)
 have hk1:=Int.emod_lt_of_pos n (show 0<m+1 by omega)
 have hp:0<m+1:=by omega
 have key:∀ (ds:List D) (ρ:R),(∀ d∈ds,∃ i:Int,d=.int i)->∃ es:List Ev,compD (setAt 0) yesT (callD aF (argC (op2 dDiv (callD au (argC (vAt 1) (argC (op2 dAdd (fun _=>some (.int 40)) (vAt 0)) argN))) (fun _=>some (.int 4))) argN)) ds (none::some (.int n)::ρ)=some (es.map Ev.d)/\(∀ e∈es,e.Sm)/\es.length=ds.length:=by
  intro ds ρ
  induction ds with
  | nil=>intro _;exact ⟨[],rfl,(fun _ h=>by cases h),rfl⟩
  | cons d ds ih =>
   intro h
   obtain ⟨i,rfl⟩:=h d List.mem_cons_self
   obtain ⟨es,h1,h2,h3⟩:=ih fun x hx=>h x (List.mem_cons_of_mem _ hx)
   obtain ⟨e,e1,e2⟩:=event_some (drawnI n (40+i) / 4)
   refine ⟨e::es,?_,?_,by simp [h3]⟩
   ·simp [compD,drawn_some,e1] at h1 ⊢
    rw [h1]
   ·intro x hx
    rcases List.mem_cons.mp hx with rfl | hx
    ·exact e2
    ·exact h2 x hx
 obtain ⟨es,h1,h2,h3⟩:=key (rngD 0 (n%(m+1))) [some (.int m)] (fun d hd=>by
  obtain ⟨i,hi⟩:=List.mem_iff_getElem?.mp hd
  obtain ⟨rfl,_⟩:=iR hi
  exact ⟨_,rfl⟩)
 rw [fW] at h3
 have hz:(rngD 0 (n%(m+1))).length<=sizeLine:=by rw [fW];exact Nat.le_trans (show (n%(m+1)).toNat<=1000 by omega) (by decide)
 refine ⟨es,?_,h2,by rw [h3];omega⟩
 have hr : -(2 ^ 62:Int)<=n%(m+1)/\n%(m+1)<2 ^ 62:=by omega
 have hlc:lcD 1 (inRng1 (op2 dMod (vAt 0) (op2 dAdd (vAt 1) (fun _=>some (.int 1))))) (setAt 0) yesT (callD aF (argC (op2 dDiv (callD au (argC (vAt 1) (argC (op2 dAdd (fun _=>some (.int 40)) (vAt 0)) argN))) (fun _=>some (.int 4))) argN)) [some (.int n),some (.int m)]=some (.lst (es.map Ev.d)):=by
  have hi:inRng1 (op2 dMod (vAt 0) (op2 dAdd (vAt 1) (fun _=>some (.int 1)))) [some (.int n),some (.int m)]=some (rngD 0 (n%(m+1))):=by
   show (if 0<m+1 then some (D.int (n%(m+1))) else none).bind _=_
   rw [if_pos hp]
   show (if -(2 ^ 62:Int)<=n%(m+1)/\n%(m+1)<2 ^ 62 then some (rngD 0 (n%(m+1))) else none)=_
   rw [if_pos hr]
  unfold lcD
  rw [hi]
  show (if (rngD 0 (n%(m+1))).length<=sizeLine then _ else none)=_
  rw [if_pos hz]
  show (compD _ _ _ _ (none::some (.int n)::[some (.int m)])).map _=_
  rw [h1]
  rfl
 show (if (2:Nat)=2 then retOf (dq [some (.int n),some (.int m)]) else none)=_
 rw [if_pos rfl]
 unfold dq
 simp only [retD,callD,argC,argN,hlc]
 rfl
def cL:XO :=
  (xSeq (xPure (asgD (callD fSplit (argC (vAt 0) (argC (fun _=>some (.str (Str.ofString "\n"))) argN))) (setAt 1)))
  (xSeq (xIf (cmp2 cNe (op2 dIx (vAt 1) (op1 dNeg (fun _=>some (.int 1)))) (fun _=>some (.str (Str.ofString ""))))
  (xRaise 0 (op2 dAdd (fun _=>some (.str (Str.ofString "no row end stands behind "))) (callD fReprS (argC (op2 dIx (vAt 1) (op1 dNeg (fun _=>some (.int 1)))) argN))))
  (xPure nextD))
  (xPure (retD (slD (vAt 1) noP (aP (op1 dNeg (fun _=>some (.int 1)))))))))
def bD:List D->Option (Except Nat D):=viaX 1 2 cL
theorem jD:∀ ds d,bD ds=some d->(cL (beg 2 ds)).bind retX=some d:=fun _ _ h=>viaX_g h
theorem jZ:∀ ds d,bD ds=some d->ds.length=1:=fun _ _ h=>viaX_len h
def bv:XO :=
  (xSeq (xPure (asgD (op2 dDiv (op2 dSub (callD fLen (argC (vAt 0) argN)) (fun _=>some (.int 1))) (fun _=>some aD)) (setAt 1)))
  (xSeq (xIf (orT (notT (cmp3 cLe cLe (fun _=>some (.int 1)) (vAt 1) (fun _=>some aX))) (cmp2 cNe (callD fLen (argC (vAt 0) argN)) (op2 dAdd (fun _=>some (.int 1)) (op2 dMul (vAt 1) (fun _=>some aD)))))
  (xRaise 0 (op2 dAdd (fun _=>some (.str (Str.ofString "no book has just so many rows: "))) (callD fStr (argC (callD fLen (argC (vAt 0) argN)) argN))))
  (xPure nextD))
  (xPure (retD (vAt 1)))))
def aJ:List D->Option (Except Nat D):=viaX 1 2 bv
theorem eX:∀ ds d,aJ ds=some d->(bv (beg 2 ds)).bind retX=some d:=fun _ _ h=>viaX_g h
theorem eY:∀ ds d,aJ ds=some d->ds.length=1:=fun _ _ h=>viaX_len h
def cg:XO :=
  (xSeq (xPure (loopD (inRng2 (vAt 1) (op2 dAdd (vAt 2) (fun _=>some (.int 1)))) (setAt 3)
  (ifD (cmp2 cEq (vAt 0) (callD fStr (argC (vAt 3) argN)))
  (retD (vAt 3))
  nextD)))
  (xRaise 0 (op2 dAdd (op2 dAdd (op2 dAdd (op2 dAdd (op2 dAdd (fun _=>some (.str (Str.ofString "no number from "))) (callD fStr (argC (vAt 1) argN))) (fun _=>some (.str (Str.ofString " to ")))) (callD fStr (argC (vAt 2) argN))) (fun _=>some (.str (Str.ofString " is ")))) (callD fReprS (argC (vAt 0) argN)))))
def aI:List D->Option (Except Nat D):=viaX 3 4 cg
theorem gL:∀ ds d,aI ds=some d->(cg (beg 4 ds)).bind retX=some d:=fun _ _ h=>viaX_g h
theorem gH:∀ ds d,aI ds=some d->ds.length=3:=fun _ _ h=>viaX_len h
def cP:XO :=
  (xSeq (xPure (asgD (callD fSplit (argC (vAt 0) (argC (fun _=>some (.str (Str.ofString " "))) argN))) (setAt 1)))
  (xSeq (xIf (orT (cmp2 cNe (callD fLen (argC (vAt 1) argN)) (fun _=>some (.int 4))) (orT (cmp2 cNe (op2 dIx (vAt 1) (fun _=>some (.int 0))) (fun _=>some (.str (Str.ofString "hold")))) (cmp2 cNe (op2 dIx (vAt 1) (fun _=>some (.int 2))) (fun _=>some (.str (Str.ofString "back"))))))
  (xRaise 0 (op2 dAdd (fun _=>some (.str (Str.ofString "no book begins with "))) (callD fReprS (argC (vAt 0) argN))))
  (xPure nextD))
  (xRet (xTup (xArgC (xCall aI (argC (op2 dIx (vAt 1) (fun _=>some (.int 1))) (argC (fun _=>some (.int 1)) (argC (fun _=>some ci) argN)))) (xArgC (xCall aI (argC (op2 dIx (vAt 1) (fun _=>some (.int 3))) (argC (fun _=>some (.int 0)) (argC (fun _=>some cn) argN)))) xArgN))))))
def bo:List D->Option (Except Nat D):=viaX 1 2 cP
theorem jw:∀ ds d,bo ds=some d->(cP (beg 2 ds)).bind retX=some d:=fun _ _ h=>viaX_g h
theorem je:∀ ds d,bo ds=some d->ds.length=1:=fun _ _ h=>viaX_len h
def bF:XO :=
  (xSeq (xPure (loopD (inSeq (fun _=>some dA)) (setAt 1)
  (loopD (inSeq (tupD (argC (fun _=>some (.bl false)) (argC (fun _=>some (.bl true)) argN)))) (setAt 2)
  (ifD (cmp2 cEq (vAt 0) (callD aV (argC (vAt 1) (argC (vAt 2) argN))))
  (retD (tupD (argC (vAt 1) (argC (vAt 2) argN))))
  nextD))))
  (xRaise 0 (op2 dAdd (fun _=>some (.str (Str.ofString "no mode begins with "))) (callD fReprS (argC (vAt 0) argN)))))
def aH:List D->Option (Except Nat D):=viaX 1 3 bF
theorem fE:∀ ds d,aH ds=some d->(bF (beg 3 ds)).bind retX=some d:=fun _ _ h=>viaX_g h
theorem fz:∀ ds d,aH ds=some d->ds.length=1:=fun _ _ h=>viaX_len h
def cx:XO :=
  (xSeq (xPure (asgD (callD fSplit (argC (vAt 1) (argC (fun _=>some (.str (Str.ofString " "))) argN))) (setAt 3)))
  (xSeq (xIf (orT (cmp2 cNe (callD fLen (argC (vAt 3) argN)) (fun _=>some (.int 3))) (orT (cmp2 cNe (op2 dIx (vAt 3) (fun _=>some (.int 0))) (vAt 0)) (cmp2 cNotIn (op2 dIx (vAt 3) (fun _=>some (.int 1))) (fun _=>some cu))))
  (xRaise 0 (op2 dAdd (op2 dAdd (op2 dAdd (fun _=>some (.str (Str.ofString "the press "))) (vAt 0)) (fun _=>some (.str (Str.ofString " has no row ")))) (callD fReprS (argC (vAt 1) argN))))
  (xPure nextD))
  (xRet (xTup (xArgC (xOf (op2 dIx (vAt 3) (fun _=>some (.int 1)))) (xArgC (xCall aI (argC (op2 dIx (vAt 3) (fun _=>some (.int 2))) (argC (fun _=>some (.int 0)) (argC (op2 dSub (vAt 2) (fun _=>some (.int 1))) argN)))) xArgN))))))
def bh:List D->Option (Except Nat D):=viaX 3 4 cx
theorem ir:∀ ds d,bh ds=some d->(cx (beg 4 ds)).bind retX=some d:=fun _ _ h=>viaX_g h
theorem ic:∀ ds d,bh ds=some d->ds.length=3:=fun _ _ h=>viaX_len h
def cN:XO :=
  (xSeq (xAsg (xCall aH (argC (op2 dIx (vAt 0) (fun _=>some (.int 0))) argN)) (setAt 2))
  (xSeq (xAsg (lcX 1 (inRng1 (callD fLen (argC (fun _=>some aM) argN))) (setAt 0) (xCall bh (argC (op2 dIx (fun _=>some aM) (vAt 0)) (argC (op2 dIx (vAt 1) (op2 dAdd (vAt 0) (fun _=>some (.int 1)))) (argC (vAt 2) argN))))) (setAt 3))
  (xPure (retD (tupD (argC (op2 dIx (vAt 2) (fun _=>some (.int 0))) (argC (op2 dIx (vAt 2) (fun _=>some (.int 1))) (argC (callD fTuple (argC (vAt 3) argN)) argN))))))))
def bq:List D->Option (Except Nat D):=viaX 2 4 cN
theorem jX:∀ ds d,bq ds=some d->(cN (beg 4 ds)).bind retX=some d:=fun _ _ h=>viaX_g h
theorem ja:∀ ds d,bq ds=some d->ds.length=2:=fun _ _ h=>viaX_len h
def cK:XO :=
  (xSeq (xAsg (xCall bD (argC (vAt 0) argN)) (setAt 1))
  (xSeq (xAsg (xCall aJ (argC (vAt 1) argN)) (setAt 2))
  (xSeq (xAsg (xCall bo (argC (op2 dIx (vAt 1) (fun _=>some (.int 0))) argN)) (setAt 3))
  (xSeq (xPure (asgD (lcD 1 (inRng1 (vAt 2)) (setAt 0) yesT (op2 dAdd (fun _=>some (.int 1)) (op2 dMul (vAt 0) (fun _=>some aD)))) (setAt 4)))
  (xRet (xTup (xArgC (xOf (op2 dIx (vAt 3) (fun _=>some (.int 0)))) (xArgC (xOf (op2 dIx (vAt 3) (fun _=>some (.int 1)))) (xArgC (xFn fTuple (xArgC (lcX 1 (inSeq (vAt 4)) (setAt 0) (xCall bq (argC (slD (vAt 2) (aP (vAt 0)) (aP (op2 dAdd (vAt 0) (fun _=>some aD)))) (argC (vAt 3) argN)))) xArgN)) xArgN)))))))))
def br:List D->Option (Except Nat D):=viaX 1 5 cK
theorem kc:∀ ds d,br ds=some d->(cK (beg 5 ds)).bind retX=some d:=fun _ _ h=>viaX_g h
theorem j_:∀ ds d,br ds=some d->ds.length=1:=fun _ _ h=>viaX_len h
def gO:R->Option Out :=
 (retD (andV (asV (cmp2 cNe (vAt 0) (fun _=>some (.str (Str.ofString ""))))) (andV (asV (cmp2 cNe (op2 dIx (vAt 0) (fun _=>some (.int 0))) (fun _=>some (.str (Str.ofString "0"))))) (callD fAll (argC (lcD 1 (inSeq (vAt 0)) (setAt 0) yesT (asV (cmp2 cInT (vAt 0) (fun _=>some et)))) argN)))))
def b_:List D->Option D:=via 1 1 gO
theorem lx:∀ ds d,b_ ds=some d->retOf (gO (beg 1 ds))=some d:=fun _ _ h=>bb h
theorem lz:∀ ds d,b_ ds=some d->ds.length=1:=fun _ _ h=>aB h
def cI:R->Option Out :=
  (seqD (asgD (op2 dMod (callD fLenS (argC (vAt 0) argN)) (fun _=>some aN)) (setAt 1))
  (seqD (asgD (callD fIntS (argC (op2 dAdd (fun _=>some (.str (Str.ofString "0"))) (slT (vAt 0) noP (aP (vAt 1)))) argN)) (setAt 2))
  (seqD (loopD (inRng3 (vAt 1) (callD fLenS (argC (vAt 0) argN)) (fun _=>some aN)) (setAt 3)
  (asgD (op2 dAdd (op2 dMul (vAt 2) (fun _=>some cy)) (callD fIntS (argC (slT (vAt 0) (aP (vAt 3)) (aP (op2 dAdd (vAt 3) (fun _=>some aN)))) argN))) (setAt 2)))
  (retD (vAt 2)))))
def bE:List D->Option D:=via 1 4 cI
theorem jh:∀ ds d,bE ds=some d->retOf (cI (beg 4 ds))=some d:=fun _ _ h=>bb h
theorem ke:∀ ds d,bE ds=some d->ds.length=1:=fun _ _ h=>aB h
def dm:XO :=
  (xSeq (xPure (asgD (slT (vAt 0) noP (aP (fun _=>some (.int 1)))) (setAt 1)))
  (xSeq (xPure (asgD (slT (vAt 0) (aP (fun _=>some (.int 1))) noP) (setAt 2)))
  (xSeq (xPure (ifD (andT (cmp2 cEq (vAt 1) (fun _=>some (.str (Str.ofString "+")))) (cmp2 cIn (vAt 2) (fun _=>some cz)))
  (retD (tupD (argC (fun _=>some (.str (Str.ofString "down"))) (argC (vAt 2) argN))))
  nextD))
  (xSeq (xPure (ifD (andT (cmp2 cEq (vAt 1) (fun _=>some (.str (Str.ofString "-")))) (cmp2 cIn (vAt 2) (fun _=>some cz)))
  (retD (tupD (argC (fun _=>some (.str (Str.ofString "up"))) (argC (vAt 2) argN))))
  nextD))
  (xSeq (xPure (ifD (andT (cmp2 cEq (vAt 1) (fun _=>some (.str (Str.ofString ".")))) (truT (callD b_ (argC (vAt 2) argN))))
  (retD (tupD (argC (fun _=>some (.str (Str.ofString "ticks"))) (argC (callD bE (argC (vAt 2) argN)) argN))))
  nextD))
  (xRaise 0 (op2 dAdd (fun _=>some (.str (Str.ofString "a row holds no "))) (callD fReprS (argC (vAt 0) argN)))))))))
def aC:List D->Option (Except Nat D):=viaX 1 3 dm
theorem hJ:∀ ds d,aC ds=some d->(dm (beg 3 ds)).bind retX=some d:=fun _ _ h=>viaX_g h
theorem iz:∀ ds d,aC ds=some d->ds.length=1:=fun _ _ h=>viaX_len h
def gq:XO :=
  (xSeq (xPure (ifD (cmp2 cEq (vAt 0) (fun _=>some (.str (Str.ofString ""))))
  (retD (tupD argN))
  nextD))
  (xRet (xFn fTuple (xArgC (lcX 1 (inSeq (callD fSplit (argC (vAt 0) (argC (fun _=>some (.str (Str.ofString " "))) argN)))) (setAt 0) (xCall aC (argC (vAt 0) argN))) xArgN))))
def bL:List D->Option (Except Nat D):=viaX 1 1 gq
theorem kg:∀ ds d,bL ds=some d->(gq (beg 1 ds)).bind retX=some d:=fun _ _ h=>viaX_g h
theorem kS:∀ ds d,bL ds=some d->ds.length=1:=fun _ _ h=>viaX_len h
def cO:XO :=
  (xSeq (xIf (cmp2 cEq (vAt 0) (fun _=>some (.int 0)))
  (xRet (xCall br (argC (vAt 1) argN)))
  (xPure nextD))
  (xRet (xCall bL (argC (vAt 1) argN))))
def bC:List D->Option (Except Nat D):=viaX 2 2 cO
theorem jy:∀ ds d,bC ds=some d->(cO (beg 2 ds)).bind retX=some d:=fun _ _ h=>viaX_g h
theorem ji:∀ ds d,bC ds=some d->ds.length=2:=fun _ _ h=>viaX_len h
def gl_1:XD:=(xCall bC (argC (vAt 1) (argC (vAt 0) argN)))
def LLX:LMeanX:=fun t=>open Classical in if t=T_1 then some (viaEX 2 gl_1) else none
theorem L_1:LLX T_1=some (viaEX 2 gl_1):=if_pos rfl
def cJ:R->Option Out :=
  (gTry 4 2 1 (xTup (xArgC (xOf (fun _=>some (.str (Str.ofString "told")))) (xArgC (callX LLX 0) xArgN))) (setAt 1) (fun c ea=>(seqD (asgD (lstD (argC (isCD 2 ea (c==0)) (argC (isCD 2 ea (c==1)) argN))) (setAt 3))
  (seqD (asgD (tupD (argC (fun _=>some (.str (Str.ofString "refused"))) (argC (op1 dNeg (fun _=>some (.int 1))) argN))) (setAt 1))
  (ifD (andT (truT (isCD 2 ea true)) (cmp2 cEq (callD fCntB (argC (vAt 3) (argC (fun _=>some (.bl true)) argN))) (fun _=>some (.int 1))))
  (asgD (tupD (argC (fun _=>some (.str (Str.ofString "refused"))) (argC (callD fIdxB (argC (vAt 3) (argC (fun _=>some (.bl true)) argN))) argN))) (setAt 1))
  nextD)))))
def bp:List D->Option D:=via 1 4 cJ
theorem jO:∀ ds d,bp ds=some d->retOf (cJ (beg 4 ds))=some d:=fun _ _ h=>bb h
theorem jU:∀ ds d,bp ds=some d->ds.length=1:=fun _ _ h=>aB h
def dZ:R->Option Out :=
  (seqD (asgD (op2 dMod (vAt 1) (op2 dAdd (callD fLenS (argC (vAt 0) argN)) (fun _=>some (.int 1)))) (setAt 2))
  (seqD (asgD (op2 dIx (fun _=>some (.str (Str.ofString "0123456789abcABC +-.\n"))) (op2 dMod (op2 dDiv (vAt 1) (fun _=>some (.int 512))) (fun _=>some (.int 20)))) (setAt 3))
  (seqD (asgD (callD fSplit (argC (vAt 0) (argC (fun _=>some (.str (Str.ofString "\n"))) argN))) (setAt 4))
  (seqD (asgD (op2 dMod (op2 dDiv (vAt 1) (fun _=>some (.int 16384))) (callD fLen (argC (vAt 4) argN))) (setAt 5))
  (seqD (parD 6 7 (argC (slT (vAt 0) noP (aP (vAt 2))) (argC (slT (vAt 0) (aP (op2 dAdd (vAt 2) (fun _=>some (.int 1)))) noP) argN)))
  (ownD 9 (argC (op2 dAdd (op2 dAdd (vAt 6) (vAt 3)) (slT (vAt 0) (aP (vAt 2)) noP)) (argC (op2 dAdd (vAt 6) (vAt 7)) (argC (op2 dAdd (op2 dAdd (vAt 6) (vAt 3)) (vAt 7)) argN)))
  (obSeq (oPure (asgD (op2 dAdd (op2 dAdd (slD (vAt 4) noP (aP (vAt 5))) (slD (vAt 4) (aP (vAt 5)) (aP (op2 dAdd (vAt 5) (fun _=>some (.int 1)))))) (slD (vAt 4) (aP (vAt 5)) noP)) (setAt 8)))
  (obSeq (oApp 9 (callD fJoin (argC (fun _=>some (.str (Str.ofString "\n"))) (argC (vAt 8) argN))))
  (obSeq (oApp 9 (callD fJoin (argC (fun _=>some (.str (Str.ofString "\n"))) (argC (op2 dAdd (slD (vAt 4) noP (aP (vAt 5))) (slD (vAt 4) (aP (op2 dAdd (vAt 5) (fun _=>some (.int 1)))) noP)) argN))))
  (obRel (retD (op2 dIx (vAt 9) (op2 dMod (op2 dDiv (vAt 1) (fun _=>some (.int 1048576))) (fun _=>some (.int 5)))))))))))))))
def bz:List D->Option D:=via 2 10 dZ
theorem i_:∀ ds d,bz ds=some d->retOf (dZ (beg 10 ds))=some d:=fun _ _ h=>bb h
theorem jR:∀ ds d,bz ds=some d->ds.length=2:=fun _ _ h=>aB h
def gc:R->Option Out :=
 (retD (andV (isD "int" (vAt 0)) (notV (isD "bool" (vAt 0)))))
def bK:List D->Option D:=via 1 1 gc
theorem kA:∀ ds d,bK ds=some d->retOf (gc (beg 1 ds))=some d:=fun _ _ h=>bb h
theorem kP:∀ ds d,bK ds=some d->ds.length=1:=fun _ _ h=>aB h
def gP:R->Option Out :=
 (retD (andV (callD bK (argC (vAt 0) argN)) (asV (cmp2 cLe (vAt 1) (vAt 0)))))
def bV:List D->Option D:=via 2 2 gP
theorem lN:∀ ds d,bV ds=some d->retOf (gP (beg 2 ds))=some d:=fun _ _ h=>bb h
theorem lA:∀ ds d,bV ds=some d->ds.length=2:=fun _ _ h=>aB h
def fM:R->Option Out :=
 (retD (andV (callD bV (argC (vAt 0) (argC (vAt 1) argN))) (asV (cmp2 cLe (vAt 0) (vAt 2)))))
def aZ:List D->Option D:=via 3 3 fM
theorem jp:∀ ds d,aZ ds=some d->retOf (fM (beg 3 ds))=some d:=fun _ _ h=>bb h
theorem jS:∀ ds d,aZ ds=some d->ds.length=3:=fun _ _ h=>aB h
def eE:R->Option Out :=
 (retD (andV (isD "tuple" (vAt 0)) (asV (cmp2 cEq (callD fLen (argC (vAt 0) argN)) (vAt 1)))))
def aA:List D->Option D:=via 2 2 eE
theorem gC:∀ ds d,aA ds=some d->retOf (eE (beg 2 ds))=some d:=fun _ _ h=>bb h
theorem gG:∀ ds d,aA ds=some d->ds.length=2:=fun _ _ h=>aB h
def gm:R->Option Out :=
 (retD (isD "bool" (vAt 0)))
def bG:List D->Option D:=via 1 1 gm
theorem kC:∀ ds d,bG ds=some d->retOf (gm (beg 1 ds))=some d:=fun _ _ h=>bb h
theorem kI:∀ ds d,bG ds=some d->ds.length=1:=fun _ _ h=>aB h
def fJ:R->Option Out :=
 (retD (andV (isD "str" (vAt 0)) (asV (cmp2 cIn (vAt 0) (vAt 1)))))
def be:List D->Option D:=via 2 2 fJ
theorem jF:∀ ds d,be ds=some d->retOf (fJ (beg 2 ds))=some d:=fun _ _ h=>bb h
theorem j8:∀ ds d,be ds=some d->ds.length=2:=fun _ _ h=>aB h
def jP:R->Option Out :=
 (retD (andV (callD aA (argC (vAt 0) (argC (fun _=>some (.int 2)) argN))) (andV (callD be (argC (op2 dIx (vAt 0) (fun _=>some (.int 0))) (argC (fun _=>some cu) argN))) (callD aZ (argC (op2 dIx (vAt 0) (fun _=>some (.int 1))) (argC (fun _=>some (.int 0)) (argC (op2 dSub (vAt 1) (fun _=>some (.int 1))) argN)))))))
def cj:List D->Option D:=via 2 2 jP
theorem mh:∀ ds d,cj ds=some d->retOf (jP (beg 2 ds))=some d:=fun _ _ h=>bb h
theorem mB:∀ ds d,cj ds=some d->ds.length=2:=fun _ _ h=>aB h
def gn:R->Option Out :=
  (seqD (ifD (notT (truT (callD aA (argC (vAt 0) (argC (callD fLen (argC (fun _=>some aM) argN)) argN)))))
  (retD (fun _=>some (.bl false)))
  nextD)
  (retD (callD fAll (argC (lcD 1 (inSeq (vAt 0)) (setAt 0) yesT (callD cj (argC (vAt 0) (argC (vAt 2) argN)))) argN))))
def bM:List D->Option D:=via 2 2 gn
theorem kJ:∀ ds d,bM ds=some d->retOf (gn (beg 2 ds))=some d:=fun _ _ h=>bb h
theorem ko:∀ ds d,bM ds=some d->ds.length=2:=fun _ _ h=>aB h
def gQ:R->Option Out :=
  (seqD (ifD (notT (truT (callD aA (argC (vAt 0) (argC (fun _=>some (.int 3)) argN)))))
  (retD (fun _=>some (.bl false)))
  nextD)
  (retD (andV (callD be (argC (op2 dIx (vAt 0) (fun _=>some (.int 0))) (argC (fun _=>some dA) argN))) (andV (callD bG (argC (op2 dIx (vAt 0) (fun _=>some (.int 1))) argN)) (callD bM (argC (op2 dIx (vAt 0) (fun _=>some (.int 2))) (argC (vAt 1) argN)))))))
def bP:List D->Option D:=via 2 2 gQ
theorem lp:∀ ds d,bP ds=some d->retOf (gQ (beg 2 ds))=some d:=fun _ _ h=>bb h
theorem lL:∀ ds d,bP ds=some d->ds.length=2:=fun _ _ h=>aB h
def fI:R->Option Out :=
  (seqD (ifD (orT (notT (truT (isD "tuple" (vAt 0)))) (notT (cmp3 cLe cLe (fun _=>some (.int 1)) (callD fLen (argC (vAt 0) argN)) (fun _=>some aX))))
  (retD (fun _=>some (.bl false)))
  nextD)
  (retD (callD fAll (argC (lcD 1 (inSeq (vAt 0)) (setAt 0) yesT (callD bP (argC (vAt 0) (argC (callD fLen (argC (vAt 1) argN)) argN)))) argN))))
def bw:List D->Option D:=via 1 1 fI
theorem ka:∀ ds d,bw ds=some d->retOf (fI (beg 1 ds))=some d:=fun _ _ h=>bb h
theorem jQ:∀ ds d,bw ds=some d->ds.length=1:=fun _ _ h=>aB h
def gW:R->Option Out :=
  (seqD (ifD (notT (truT (callD aA (argC (vAt 0) (argC (fun _=>some (.int 3)) argN)))))
  (retD (fun _=>some (.bl false)))
  nextD)
  (retD (andV (callD aZ (argC (op2 dIx (vAt 0) (fun _=>some (.int 0))) (argC (fun _=>some (.int 1)) (argC (fun _=>some ci) argN)))) (andV (callD aZ (argC (op2 dIx (vAt 0) (fun _=>some (.int 1))) (argC (fun _=>some (.int 0)) (argC (fun _=>some cn) argN)))) (callD bw (argC (op2 dIx (vAt 0) (fun _=>some (.int 2))) argN))))))
def ce:List D->Option D:=via 1 1 gW
theorem ly:∀ ds d,ce ds=some d->retOf (gW (beg 1 ds))=some d:=fun _ _ h=>bb h
theorem lO:∀ ds d,ce ds=some d->ds.length=1:=fun _ _ h=>aB h
def fH:R->Option Out :=
  (seqD (ifD (cmp2 cEq (vAt 0) (fun _=>some (.int 0)))
  (retD (andV (asV (cmp2 cIsB (callD ce (argC (vAt 1) argN)) (fun _=>some (.bl true)))) (asV (cmp2 cEq (callD bg (argC (vAt 1) argN)) (vAt 2)))))
  nextD)
  (retD (andV (isD "tuple" (vAt 1)) (asV (cmp2 cEq (callD a_ (argC (vAt 1) argN)) (vAt 2))))))
def bx:List D->Option D:=via 3 3 fH
theorem jn:∀ ds d,bx ds=some d->retOf (fH (beg 3 ds))=some d:=fun _ _ h=>bb h
theorem ju:∀ ds d,bx ds=some d->ds.length=3:=fun _ _ h=>aB h
def gY:R->Option Out :=
 (asgD (callD bz (argC (vAt 3) (argC (op2 dDiv (callD au (argC (vAt 1) (argC (vAt 4) argN))) (fun _=>some (.int 4))) argN))) (setAt 3))
def fq:R->Option Out :=
 (asgD (callW bp T_1 argN (capsC [3,2])) (setAt 5))
def gX:R->Option Out :=
  (ifD (cmp2 cEq (op2 dIx (vAt 5) (fun _=>some (.int 0))) (fun _=>some (.str (Str.ofString "refused"))))
  (ifD (cmp2 cNeD (vAt 5) (tupD (argC (fun _=>some (.str (Str.ofString "refused"))) (argC (fun _=>some (.int 0)) argN))))
  (retD (fun _=>some (.bl false)))
  nextD)
  (ifD (notT (truT (callD bx (argC (vAt 2) (argC (op2 dIx (vAt 5) (fun _=>some (.int 1))) (argC (vAt 3) argN))))))
  (retD (fun _=>some (.bl false)))
  nextD))
def eU:R->Option Out:=(seqD gY (seqD fq gX))
def ia:R->Option Out :=
 (asgD (callD aS (argC (vAt 0) (argC (fun _=>some (.int 0)) argN))) (setAt 1))
def kZ:R->Option Out :=
 (asgD (op2 dMod (vAt 1) (fun _=>some (.int 2))) (setAt 2))
def le:R->Option Out :=
 (asgD (callD a_ (argC (callD bJ (argC (callD aS (argC (vAt 0) (argC (fun _=>some (.int 1)) argN))) (argC (fun _=>some (.int 8)) argN))) argN)) (setAt 3))
def lc:R->Option Out :=
  (ifD (cmp2 cEq (vAt 2) (fun _=>some (.int 0)))
  (asgD (callD bg (argC (callD bj (argC (callD aS (argC (vAt 0) (argC (fun _=>some (.int 2)) argN))) argN)) argN)) (setAt 3))
  nextD)
def la:R->Option Out :=
 (loopD (inRng1 (op2 dAdd (fun _=>some (.int 1)) (op2 dMod (op2 dDiv (vAt 1) (fun _=>some (.int 4))) (fun _=>some (.int 3))))) (setAt 4) eU)
def na:R->Option Out :=
 (retD (fun _=>some (.bl true)))
def nk:R->Option Out :=
 (seqD ia (seqD kZ (seqD le (seqD lc (seqD la na)))))
def gp:List D->Option D:=via 1 6 nk
theorem oD:∀ ds d,gp ds=some d->retOf (nk (beg 6 ds))=some d:=fun _ _ h=>bb h
theorem oE:∀ ds d,gp ds=some d->ds.length=1:=fun _ _ h=>aB h
theorem p62:(2 ^ 62:Int)=4611686018427387904:=by decide
theorem hd_glued (b:Bk):hdT b=Builtin.Str.glued blankS [Str.ofString "hold",tx b.hold,Str.ofString "back",tx b.back]:=by
 have e1:(Str.ofString "hold ").cps.toList=(Str.ofString "hold").cps.toList++[32]:=by decide +kernel
 have e2:(Str.ofString " back ").cps.toList=[32]++(Str.ofString "back").cps.toList++[32]:=by decide +kernel
 apply mk_cps
 show _=(List.foldl (fun acc p=>acc++blankS.cps++p.cps) (Str.ofString "hold").cps [tx b.hold,Str.ofString "back",tx b.back]).toList
 rw [glued_cps,blank_eq]
 unfold hdT
 rw [cps_app,cps_app,cps_app,e1,e2]
 simp
theorem mul7 (k:Int):dMul (.int k) aD=some (.int (k*7)):=by
 have h:mulFits k 7=true:=mulFits_r (by decide) (by decide)
 simp [aD,h]
theorem rng1S {f:R->Option D} {ρ:R} {n:Int} (h:f ρ=some (.int n)) (h0 : -(2 ^ 62)<=n) (h1:n<2 ^ 62):inRng1 f ρ=some (rngD 0 n):=by
 simp only [inRng1,h,Option.bind_some]
 rw [if_pos ⟨h0,h1⟩]
abbrev txS (l:List Nat):Str:=⟨l.toArray⟩
theorem txS_len (l:List Nat):(txS l).length=l.length:=by show l.toArray.size=_;simp
theorem txS_of (x:Str):x=txS x.cps.toList:=by cases x;simp [txS]
theorem pick_range (l:List Nat):∀ (m a:Nat),a+m<=l.length->(List.range' a m).filterMap (fun i=>l[i]?)=(l.drop a).take m
 | 0,a,_=>by simp
 | m+1,a,h=>by
  have e:l[a]?=some l[a]:=List.getElem?_eq_getElem (by omega)
  rw [List.range'_succ,List.filterMap_cons,e]
  show _::_=_
  rw [pick_range l m (a+1) (by omega),List.drop_eq_getElem_cons (by omega:a<l.length),List.take_succ_cons]
theorem ixs_take (n k:Nat):PySem.Builtin.Str.strSliceIndices none (some (k:Int)) 1 n=List.range' 0 (min k n):=by
 unfold PySem.Builtin.Str.strSliceIndices PySem.sliceRange
 have e1:¬ (k:Int)<0:=by omega
 simp only [show (1:Int) > 0 by decide,if_true,if_neg e1]
 have e3:(if (0:Int)<max 0 (min (k:Int) (n:Int)) then (max 0 (min (k:Int) (n:Int)) - 0+1 - 1) / 1 else 0).toNat=min k n:=by
  split
  ·rw [Int.ediv_one];omega
  ·omega
 rw [e3,<- List.range_eq_range']
 conv=>rhs;rw [<- List.map_id (List.range (min k n))]
 refine List.map_congr_left fun i _=>?_
 show (0+1*(i:Int)).toNat=i
 omega
theorem ixs_drop (n k:Nat):PySem.Builtin.Str.strSliceIndices (some (k:Int)) none 1 n=List.range' (min k n) (n - min k n):=by
 unfold PySem.Builtin.Str.strSliceIndices PySem.sliceRange
 have e1:¬ (k:Int)<0:=by omega
 simp only [show (1:Int) > 0 by decide,if_true,if_neg e1]
 have e2:max 0 (min (k:Int) (n:Int))=((min k n:Nat):Int):=by omega
 rw [e2]
 have e3:(if ((min k n:Nat):Int)<(n:Int) then ((n:Int) - ((min k n:Nat):Int)+1 - 1) / 1 else 0).toNat=n - min k n:=by
  split
  ·rw [Int.ediv_one];omega
  ·omega
 rw [e3,List.range'_eq_map_range]
 refine List.map_congr_left fun i _=>?_
 show (((min k n:Nat):Int)+1*(i:Int)).toNat=min k n+i
 omega
theorem sl_take (l:List Nat) (k:Nat):Txt.slice (txS l) none (some (k:Int))=txS (l.take k):=by
 unfold Txt.slice
 rw [txS_len,ixs_take,List.length_range']
 by_cases hk:l.length<=k
 ·rw [if_pos (by simp;omega),List.take_of_length_le hk]
 ·rw [if_neg (by simp;omega)]
  show Str.mk _=Str.mk _
  congr 2
  have:=pick_range l (min k l.length) 0 (by omega)
  simp only [txS,List.getElem?_toArray]
  rw [this,List.drop_zero,show min k l.length=k by omega]
theorem sl_drop (l:List Nat) (k:Nat):Txt.slice (txS l) (some (k:Int)) none=txS (l.drop k):=by
 unfold Txt.slice
 rw [txS_len,ixs_drop,List.length_range']
 by_cases hk:k=0\/l=[]
 ·have e:l.drop k=l:=by
   rcases hk with rfl | rfl
   ·rfl
   ·simp
  rw [if_pos,e]
  rcases hk with rfl | rfl<;>simp
 ·have:l.length≠0:=fun z=>hk (.inr (List.length_eq_zero_iff.mp z))
  rw [if_neg (by simp;omega)]
  show Str.mk _=Str.mk _
  congr 2
  have:=pick_range l (l.length - min k l.length) (min k l.length) (by omega)
  simp only [txS,List.getElem?_toArray]
  rw [this]
  by_cases hl:k<=l.length
  ·rw [show min k l.length=k by omega,List.take_of_length_le (by simp)]
  ·rw [show min k l.length=l.length by omega,List.drop_length,List.drop_eq_nil_of_le (by omega)];simp
theorem snoc_ind {P:List Nat->Prop} (h0:P []) (h1:∀ l c,P l->P (l++[c])) (l:List Nat):P l:=by
 have:∀ m:List Nat,P m.reverse:=by
  intro m
  induction m with
  | nil=>exact h0
  | cons c m ih=>rw [List.reverse_cons];exact h1 _ _ ih
 have:=this l.reverse
 rwa [List.reverse_reverse] at this
def vl (l:List Nat):Nat:=l.foldl (fun a c=>a*10+(c - 48)) 0
theorem vl_snoc (l:List Nat) (c:Nat):vl (l++[c])=vl l*10+(c - 48):=by simp [vl,List.foldl_append]
def isFig (c:Nat):Bool:=decide (48<=c)&&decide (c<=57)
theorem isFig_iff {c:Nat}:isFig c=true↔48<=c/\c<=57:=by simp [isFig]
theorem vl_lt:∀ {l:List Nat},(∀ c∈l,isFig c=true)->vl l<10 ^ l.length:=by
 intro l
 induction l using snoc_ind with
 | h0=>intro _;simp [vl]
 | h1 l c ih =>
  intro h
  have a:=ih fun x hx=>h x (List.mem_append_left _ hx)
  have b:=isFig_iff.mp (h c (by simp))
  rw [vl_snoc,List.length_append,Nat.pow_add]
  simp
  omega
theorem vl_pos {c:Nat} {l:List Nat} (h:∀ x∈c::l,isFig x=true) (h0:c≠48):0<vl (c::l):=by
 have hc:=isFig_iff.mp (h c List.mem_cons_self)
 have:∀ (l:List Nat) (a:Nat),0<a->0<l.foldl (fun a c=>a*10+(c - 48)) a:=by
  intro l
  induction l with
  | nil=>intro a h;exact h
  | cons c l ih=>intro a h;exact ih _ (Nat.lt_of_lt_of_le (show 0<a*10 by omega) (Nat.le_add_right _ _))
 show 0<l.foldl _ (0*10+(c - 48))
 exact this l _ (by omega)
theorem fig_char {d:Nat} (h:d<10):(Nat.digitChar d).toNat=d+48:=by
 have:d=0\/d=1\/d=2\/d=3\/d=4\/d=5\/d=6\/d=7\/d=8\/d=9:=by omega
 rcases this with rfl | rfl | rfl | rfl | rfl | rfl | rfl | rfl | rfl | rfl<;>rfl
theorem digs_vl:∀ {l:List Nat},l ≠ []->(∀ c∈l,isFig c=true)->l.head?≠some 48->(Nat.toDigits 10 (vl l)).map Char.toNat=l:=by
 intro l
 induction l using snoc_ind with
 | h0=>intro h;exact absurd rfl h
 | h1 l c ih =>
  intro _ h h0
  have hc:=isFig_iff.mp (h c (by simp))
  have hl:=fun x hx=>h x (List.mem_append_left [c] hx)
  rw [vl_snoc]
  cases l with
  | nil =>
   rw [show vl []*10+(c - 48)=c - 48 by simp [vl],Nat.toDigits_of_lt_base (by omega)]
   simp only [List.map_cons,List.map_nil,List.nil_append]
   rw [fig_char (by omega)]
   congr 1
   omega
  | cons a l =>
   have ha:a≠48:=by simpa using h0
   have ih':=ih (by simp) hl (by simpa using ha)
   rw [show vl (a::l)*10+(c - 48)=10*vl (a::l)+(c - 48) by omega,<- Nat.toDigits_append_toDigits (by decide) (vl_pos hl ha) (by omega),List.map_append,ih',Nat.toDigits_of_lt_base (by omega)]
   simp only [List.map_cons,List.map_nil]
   rw [fig_char (by omega)]
   congr 2
   omega
theorem tx_vl {l:List Nat} (h1:l ≠ []) (h2:∀ c∈l,isFig c=true) (h3:l.head?≠some 48):tx (vl l:Int)=txS l:=by
 have e:(toString ((vl l:Nat):Int)).toList=Nat.toDigits 10 (vl l):=by
  show (Nat.repr (vl l)).toList=_
  unfold Nat.repr
  simp
 have e2:tx (vl l:Int)=txS ((toString ((vl l:Nat):Int)).toList.map Char.toNat):=PySem.Str.ofString_eq_toList _
 rw [e2,e,digs_vl h1 h2 h3]
open PySem.NumText in
theorem int_vl {l:List Nat} (h1:l ≠ []) (h2:∀ c∈l,isFig c=true) (h3:l.length<=4300):PySem.intText? (txS l)=some (vl l:Int):=by
 have a128:(txS l).cps.all (·<128)=true:=by
  simp [txS]
  intro c hc
  have:=isFig_iff.mp (h2 c hc)
  omega
 have eT:numTextOf (txS l)=l:=by unfold numTextOf;rw [if_pos a128]
 have eS:numSeenOf (txS l)=l:=by
  show (numTextOf (txS l)).takeWhile _=l
  rw [eT]
  have:∀ m:List Nat,(∀ c∈m,isFig c=true)->m.takeWhile (fun x=>x != 0)=m:=by
   intro m
   induction m with
   | nil=>intro _;rfl
   | cons c m ih =>
    intro hm
    have hc:=isFig_iff.mp (hm c List.mem_cons_self)
    rw [List.takeWhile_cons,if_pos (by simp;omega),ih fun x hx=>hm x (List.mem_cons_of_mem _ hx)]
  exact this l h2
 have nb:∀ c∈l,blank c=false:=fun c hc=>by
  have:=isFig_iff.mp (h2 c hc)
  unfold blank
  simp
  omega
 have dw:∀ m:List Nat,(∀ c∈m,blank c=false)->m.dropWhile blank=m:=fun m hm=>by
  cases m with
  | nil=>rfl
  | cons c m=>rw [List.dropWhile_cons,hm c List.mem_cons_self];rfl
 have eN:sign l=(false,l):=by
  cases l with
  | nil=>exact absurd rfl h1
  | cons c m =>
   have:=isFig_iff.mp (h2 c List.mem_cons_self)
   unfold sign
   split
   ·rename_i e;cases e;omega
   ·rename_i e;cases e;omega
   ·rfl
 have eC:core l=l:=by
  unfold core
  rw [dw l nb,eN]
  show (l.reverse.dropWhile blank).reverse=l
  rw [dw _ fun c hc=>nb c (List.mem_reverse.mp hc),List.reverse_reverse]
 have eF:∀ (m:List Nat) (p:Array Nat) (b:Bool),(∀ c∈m,isFig c=true)->m.foldlM (NumText.step 10) (p,b)=some (p++(m.map (· - 48)).toArray,b||!m.isEmpty):=by
  intro m
  induction m with
  | nil=>intro p b _;simp
  | cons c m ih =>
   intro p b hm
   have hc:=isFig_iff.mp (hm c List.mem_cons_self)
   have es:NumText.step 10 (p,b) c=some (p.push (c - 48),true):=by
    unfold NumText.step
    rw [if_neg (by simp;omega)]
    have:digit? c=some (c - 48):=by unfold digit?;rw [if_pos (by simp;omega)]
    simp only [this]
    rw [if_pos (by omega)]
   rw [List.foldlM_cons,es]
   show List.foldlM (NumText.step 10) (p.push (c - 48),true) m=_
   rw [ih _ _ fun x hx=>hm x (List.mem_cons_of_mem _ hx)]
   simp
 have eD:digits? 10 l=some (l.map (· - 48)).toArray:=by
  unfold digits?
  rw [eF l #[] false h2]
  have:l.isEmpty=false:=by simpa using h1
  simp [this]
 have eW:worth false (l.map (· - 48)).toArray=(vl l:Int):=by
  unfold worth vl
  simp [List.foldl_map]
 unfold PySem.intText?
 rw [eS,eT,if_pos (by simp),eC,eD]
 show (if (l.map (· - 48)).toArray.size<=4300 then some (worth (sign (l.dropWhile blank)).1 _) else none)=_
 rw [if_pos (by simpa using h3),dw l nb,eN,eW]
theorem xsN {u:R->Option Out} {q:XO} {ρ ρ':R} (h:u ρ=some (.nx ρ')):xSeq (xPure u) q ρ=q ρ':=by
 show ((u ρ).map Except.ok).bind _=_
 rw [h];rfl
theorem xsR {u:R->Option Out} {q:XO} {ρ:R} {d:D} (h:u ρ=some (.rt d)):xSeq (xPure u) q ρ=some (.ok (.rt d)):=by
 show ((u ρ).map Except.ok).bind _=_
 rw [h];rfl
theorem xqN {p q:XO} {ρ ρ':R} (h:p ρ=some (.ok (.nx ρ'))):xSeq p q ρ=q ρ':=by simp [xSeq,h]
theorem xqE {p q:XO} {ρ:R} {c:Nat} (h:p ρ=some (.error c)):xSeq p q ρ=some (.error c):=by simp [xSeq,h]
theorem xiT {c:R->Option Bool} {p q:XO} {ρ:R} (h:c ρ=some true):xIf c p q ρ=p ρ:=by simp [xIf,h]
theorem xiF {c:R->Option Bool} {p q:XO} {ρ:R} (h:c ρ=some false):xIf c p q ρ=q ρ:=by simp [xIf,h]
theorem xaO' {f:XD} {st:D->R->Option R} {ρ ρ':R} {d:D} (h:f ρ=some (.ok d)) (h2:st d ρ=some ρ'):xAsg f st ρ=some (.ok (.nx ρ')):=by simp [xAsg,h,h2]
theorem xaE' {f:XD} {st:D->R->Option R} {ρ:R} {c:Nat} (h:f ρ=some (.error c)):xAsg f st ρ=some (.error c):=by simp [xAsg,h]
theorem xcS {F:List D->Option (Except Nat D)} {g:R->Option (List D)} {ρ:R} {ds:List D} {r:Except Nat D} (h:g ρ=some ds) (h2:F ds=some r):xCall F g ρ=some r:=by simp [xCall,h,h2]
theorem xRo {f:XD} {ρ:R} {d:D} (h:f ρ=some (.ok d)):xRet f ρ=some (.ok (.rt d)):=by simp [xRet,h]
theorem xRx {f:XD} {ρ:R} {c:Nat} (h:f ρ=some (.error c)):xRet f ρ=some (.error c):=by simp [xRet,h]
theorem xrS {k:Nat} {f:R->Option D} {ρ:R} {d:D} (h:f ρ=some d):xRaise k f ρ=some (.error k):=by simp [xRaise,h]
theorem viaX_of {k n:Nat} {g:XO} {ds:List D} {o:Except Nat Out} {r:Except Nat D} (h:g (beg n ds)=some o) (h2:retX o=some r) (hl:ds.length=k:=by rfl):viaX k n g ds=some r:=by
 unfold viaX
 rw [if_pos hl,h];exact h2
theorem xaE {f:XD} {g:XL} {ρ:R} {c:Nat} (h:f ρ=some (.error c)):xArgC f g ρ=some (.error c):=by simp [xArgC,h]
theorem xaO {f:XD} {g:XL} {ρ:R} {d:D} {ds:List D} (h:f ρ=some (.ok d)) (h2:g ρ=some (.ok ds)):xArgC f g ρ=some (.ok (d::ds)):=by simp [xArgC,h,h2]
theorem xaF {f:XD} {g:XL} {ρ:R} {d:D} {c:Nat} (h:f ρ=some (.ok d)) (h2:g ρ=some (.error c)):xArgC f g ρ=some (.error c):=by simp [xArgC,h,h2]
theorem xtO {g:XL} {ρ:R} {ds:List D} (h:g ρ=some (.ok ds)):xTup g ρ=some (.ok (.tup ds)):=by simp [xTup,h]
theorem xtE {g:XL} {ρ:R} {c:Nat} (h:g ρ=some (.error c)):xTup g ρ=some (.error c):=by simp [xTup,h]
theorem xOk {f:R->Option D} {ρ:R} {d:D} (h:f ρ=some d):xOf f ρ=some (.ok d):=by simp [xOf,h]
theorem orS {c d:R->Option Bool} {ρ:R} (h1:c ρ=some true):orT c d ρ=some true:=by simp [h1]
theorem orS2 {c d:R->Option Bool} {ρ:R} {b:Bool} (h1:c ρ=some false) (h2:d ρ=some b):orT c d ρ=some b:=by simp [h1,h2]
theorem truS {f:R->Option D} {ρ:R} {b:Bool} (h:f ρ=some (.bl b)):truT f ρ=some b:=by
 show (f ρ).bind _=_
 rw [h];rfl
theorem txS_eq (a b:List Nat):(txS a==txS b)=(a==b):=by
 rw [Bool.eq_iff_iff,beq_iff_eq,beq_iff_eq]
 constructor
 ·intro h
  have:=congrArg (fun x:Str=>x.cps.toList) h
  simpa [txS] using this
 ·intro h;rw [h]
theorem eqS (a b:List Nat):cEq (.str (txS a)) (.str (txS b))=some (a==b):=by
 show some (txS a==txS b)=_
 rw [txS_eq]
theorem neS (a b:List Nat):cNe (.str (txS a)) (.str (txS b))=some (a != b):=by
 show (some (txS a==txS b)).map _=_
 rw [txS_eq];rfl
abbrev sg (x:String):List Nat:=(Str.ofString x).cps.toList
theorem of_sg (x:String):Str.ofString x=txS (sg x):=txS_of _
abbrev tl (n:Nat):List Nat:=(tx (n:Int)).cps.toList
theorem of_tl (n:Nat):tx (n:Int)=txS (tl n):=txS_of _
structure Sm (s:List Nat):Prop where
 asc:∀ c∈s,c<128
 len:s.length<=60000
theorem repr_sm {s:List Nat} (h:Sm s):∃ x:Str,fReprS [.str (txS s)]=some (.str x)/\x.length<=600002:=by
 have b1:(PySem.reprText (txS s)).length<=10*(txS s).length+2:=PySem.StrLaws.reprText_len _ fun c hc=>by
  have:=h.asc c (by simpa [txS] using hc)
  exact Nat.lt_of_lt_of_le this (by decide)
 have b0:(txS s).length=s.length:=txS_len s
 have b2:=h.len
 have hz:=PySem.sizeLine_eq
 rw [b0] at b1
 exact ⟨PySem.reprText (txS s),if_pos (by omega),by omega⟩
theorem addZ {x y:Str} (h:x.length+y.length<=16000000):dAdd (.str x) (.str y)=some (.str (x++y)):=by
 have hz:=PySem.sizeLine_eq
 show (if x.length+y.length<=sizeLine then _ else none)=_
 rw [if_pos (by omega)]
theorem rng2_any {f g:R->Option D} {ρ:R} {i j:Int} {ds:List D} (h1:f ρ=some (.int i)) (h2:g ρ=some (.int j)) (a1 : -100000<=i) (a2:i<=100000) (a3 : -100000<=j) (a4:j<=100000) (h4:rngD i j=ds):inRng2 f g ρ=some ds:=by
 have e:(2 ^ 61:Int)=2305843009213693952:=by decide
 simp only [inRng2,h1,h2,Option.bind_some,nI]
 rw [e,if_pos ⟨by omega,by omega,by omega,by omega⟩,h4]
def toX:Option D->Except Nat D
 | some d=>.ok d
 | none=>.error 0
def rdN (w:List Nat) (lo hi:Nat):Option Nat:=((List.range (hi+1 - lo)).map (lo+·)).find? fun n=>w==tl n
theorem num_loop {w:List Nat} {a b:Option D}:∀ (js:List Nat) (o:Option D),(∀ j∈js,j<=60) ->
  ∃ o',forD (setAt 3) (ifD (cmp2 cEq (vAt 0) (callD fStr (argC (vAt 3) argN))) (retD (vAt 3)) nextD) (js.map fun n=>D.int (n:Nat)) [some (.str (txS w)),a,b,o]=match js.find? (fun n=>w==tl n) with
   | some n=>some (.rt (.int (n:Nat)))
   | none=>some (.nx [some (.str (txS w)),a,b,o'])
 | [],o,_=>⟨o,rfl⟩
 | j::js,o,h=>by
  have hj:=h j List.mem_cons_self
  obtain ⟨o',ih⟩:=num_loop (w:=w) (a:=a) (b:=b) js (some (.int (j:Nat))) fun x hx=>h x (List.mem_cons_of_mem _ hx)
  have q:cEq (.str (txS w)) (.str (tx (j:Int)))=some (w==tl j):=by rw [of_tl];exact eqS _ _
  have c1:cmp2 cEq (vAt 0) (callD fStr (argC (vAt 3) argN)) [some (.str (txS w)),a,b,some (.int (j:Nat))]=some (w==tl j):=cmS rfl (callS rfl (f_str60 (by omega) (by omega))) q
  refine ⟨o',?_⟩
  rw [List.find?_cons]
  cases hb:w==tl j with
  | true =>
   rw [hb] at c1
   have e:ifD (cmp2 cEq (vAt 0) (callD fStr (argC (vAt 3) argN))) (retD (vAt 3)) nextD [some (.str (txS w)),a,b,some (.int (j:Nat))]=some (.rt (.int (j:Nat))):=(ifT c1).trans rfl
   show (setAt 3 (D.int (j:Nat)) [some (.str (txS w)),a,b,o]).bind _=_
   show (ifD (cmp2 cEq (vAt 0) (callD fStr (argC (vAt 3) argN))) (retD (vAt 3)) nextD [some (.str (txS w)),a,b,some (.int (j:Nat))]).bind _=_
   rw [e];rfl
  | false =>
   rw [hb] at c1
   have e:ifD (cmp2 cEq (vAt 0) (callD fStr (argC (vAt 3) argN))) (retD (vAt 3)) nextD [some (.str (txS w)),a,b,some (.int (j:Nat))]=some (.nx [some (.str (txS w)),a,b,some (.int (j:Nat))]):=(ifF c1).trans rfl
   show (ifD (cmp2 cEq (vAt 0) (callD fStr (argC (vAt 3) argN))) (retD (vAt 3)) nextD [some (.str (txS w)),a,b,some (.int (j:Nat))]).bind _=_
   rw [e]
   exact ih
theorem cS {w:List Nat} (h:Sm w) {lo hi:Nat} (h1:lo<=60) (h2:hi<=60):aI [.str (txS w),.int lo,.int hi]=some (toX ((rdN w lo hi).map fun n=>.int (n:Nat))):=by
 have hr:inRng2 (vAt 1) (op2 dAdd (vAt 2) (fun _=>some (.int 1))) [some (.str (txS w)),some (.int lo),some (.int hi),none]=some (((List.range (hi+1 - lo)).map (lo+·)).map fun n=>D.int (n:Nat)):=by
  refine rng2_any (i:=lo) (j:=(hi:Int)+1) rfl rfl (by omega) (by omega) (by omega) (by omega) ?_
  unfold rngD
  rw [List.map_map,show ((hi:Int)+1 - (lo:Int)).toNat=hi+1 - lo by omega]
  rfl
 obtain ⟨o',hl⟩:=num_loop (w:=w) (a:=some (.int lo)) (b:=some (.int hi)) ((List.range (hi+1 - lo)).map (lo+·)) none (by
  intro j hj
  obtain ⟨k,hk,rfl⟩:=List.mem_map.mp hj
  have:=List.mem_range.mp hk
  omega)
 suffices H:∃ o,cg [some (.str (txS w)),some (.int lo),some (.int hi),none]=some o/\retX o=some (toX ((rdN w lo hi).map fun n=>.int (n:Nat))) by
  obtain ⟨o,e1,e2⟩:=H
  exact viaX_of e1 e2
 unfold cg rdN
 cases hf:((List.range (hi+1 - lo)).map (lo+·)).find? (fun n=>w==tl n) with
 | some n =>
  rw [hf] at hl
  exact ⟨_,xsR (loop_of hr hl),rfl⟩
 | none =>
  rw [hf] at hl
  obtain ⟨x,hx,hxl⟩:=repr_sm h
  have t1:=(tx_of (n:=(lo:Int)) (by omega) (by omega)).1
  have t2:=(tx_of (n:=(hi:Int)) (by omega) (by omega)).1
  have k1:(Str.ofString "no number from ").length=15:=by decide +kernel
  have k2:(Str.ofString " to ").length=4:=by decide +kernel
  have k3:(Str.ofString " is ").length=4:=by decide +kernel
  refine ⟨.error 0,(xsN (loop_of hr hl)).trans (xrS (opS (opS (opS (opS (opS rfl (callS rfl (f_str60 (by omega) (by omega))) (addZ ?_)) rfl (addZ ?_)) (callS rfl (f_str60 (by omega) (by omega))) (addZ ?_)) rfl (addZ ?_)) (callS rfl hx) (addZ ?_))),rfl⟩
  all_goals (try simp only [app_len])
  all_goals omega
def splC (k:Nat):List Nat->List (List Nat)
 | []=>[[]]
 | c::s=>if c=k then []::splC k s else match splC k s with
  | w::ws=>(c::w)::ws
  | []=>[[c]]
theorem splC_ne (k:Nat) (s:List Nat):splC k s ≠ []:=by
 cases s with
 | nil=>simp [splC]
 | cons c s =>
  unfold splC
  split
  ·simp
  ·split<;>simp
theorem splC_join (k:Nat) (s:List Nat):joinL k (splC k s)=s:=by
 induction s with
 | nil=>rfl
 | cons c s ih =>
  unfold splC
  cases hs:splC k s with
  | nil=>exact absurd hs (splC_ne k s)
  | cons w ws =>
   rw [hs] at ih
   split
   ·rename_i hc
    rw [hc,joinL_cons,ih];rfl
   ·show joinL k ((c::w)::ws)=_
    rw [<- ih];rfl
theorem splC_len (k:Nat) (s:List Nat):(splC k s).length<=s.length+1/\∀ w∈splC k s,w.length<=s.length:=by
 induction s with
 | nil=>simp [splC]
 | cons c s ih =>
  unfold splC
  cases hs:splC k s with
  | nil=>exact absurd hs (splC_ne k s)
  | cons w ws =>
   rw [hs] at ih
   split
   ·refine ⟨by have:=ih.1;simp at this ⊢;omega,fun v hv=>?_⟩
    rcases List.mem_cons.mp hv with rfl | hv
    ·simp
    ·have:=ih.2 v hv;simp;omega
   ·refine ⟨by have:=ih.1;simp at this ⊢;omega,fun v hv=>?_⟩
    rcases List.mem_cons.mp hv with rfl | hv
    ·have:=ih.2 w List.mem_cons_self;simp;omega
    ·have:=ih.2 v (List.mem_cons_of_mem _ hv);simp;omega
theorem splC_mem (k:Nat) (s:List Nat):∀ w∈splC k s,∀ c∈w,c∈s/\c≠k:=by
 induction s with
 | nil=>intro w hw;simp [splC] at hw;subst hw;intro c hc;cases hc
 | cons c s ih =>
  unfold splC
  cases hs:splC k s with
  | nil=>exact absurd hs (splC_ne k s)
  | cons w ws =>
   rw [hs] at ih
   split
   ·intro v hv x hx
    rcases List.mem_cons.mp hv with rfl | hv
    ·cases hx
    ·obtain ⟨a,b⟩:=ih v hv x hx
     exact ⟨List.mem_cons_of_mem _ a,b⟩
   ·rename_i hc
    intro v hv x hx
    rcases List.mem_cons.mp hv with rfl | hv
    ·rcases List.mem_cons.mp hx with rfl | hx
     ·exact ⟨List.mem_cons_self,hc⟩
     ·obtain ⟨a,b⟩:=ih w List.mem_cons_self x hx
      exact ⟨List.mem_cons_of_mem _ a,b⟩
    ·obtain ⟨a,b⟩:=ih v (List.mem_cons_of_mem _ hv) x hx
     exact ⟨List.mem_cons_of_mem _ a,b⟩
theorem Sm.word {k:Nat} {s:List Nat} (h:Sm s) {w:List Nat} (hw:w∈splC k s):Sm w:=⟨fun c hc=>h.asc c (splC_mem k s w hw c hc).1,Nat.le_trans ((splC_len k s).2 w hw) h.len⟩
theorem glueC (k:Nat) (ws:List (List Nat)):Builtin.Str.glued (txS [k]) (ws.map txS)=txS (joinL k ws):=by
 rw [txS_of (Builtin.Str.glued (txS [k]) (ws.map txS))]
 congr 1
 show (Builtin.Str.glued ⟨#[k]⟩ (ws.map txS)).cps.toList=_
 rw [glued_join,List.map_map]
 congr 1
 conv=>rhs;rw [<- List.map_id ws]
 exact List.map_congr_left fun w _=>by simp [txS]
theorem split_ofC {k:Nat} (hk:k<128) (s:List Nat):splitS (txS s) (txS [k])=(splC k s).map txS:=by
 have kk:Builtin.Str.strKind (txS [k])=1:=by
  have:(List.range 128).all (fun k=>Builtin.Str.strKind (txS [k])==1)=true:=by decide +kernel
  simpa using List.all_eq_true.mp this k (by simpa using hk)
 cases s with
 | nil =>
  unfold splitS
  rw [if_pos (.inl (by rw [Bool.or_eq_true];left;exact decide_eq_true (show 0<1 by decide)))];rfl
 | cons c s =>
  have e:=glueC k (splC k (c::s))
  rw [splC_join] at e
  rw [<- e]
  refine split_at (c:=k) rfl (by simpa using splC_ne k (c::s)) ?_ ?_ kk
  ·intro w hw
   obtain ⟨v,hv,rfl⟩:=List.mem_map.mp hw
   intro z
   exact (splC_mem k _ v hv k (by simpa [txS] using z)).2 rfl
  ·rw [e,txS_len];simp
theorem f_splitC {k:Nat} (hk:k<128) {s:List Nat} (h:s.length<=60000):fSplit [.str (txS s),.str (txS [k])]=some (.lst ((splC k s).map fun w=>D.str (txS w))):=by
 have hz:=PySem.sizeLine_eq
 have a:=(splC_len k s).1
 show (if (txS [k]).length=1/\(txS s).length<=sizeLine/\(splitS (txS s) (txS [k])).length<=sizeLine then some (D.lst ((splitS (txS s) (txS [k])).map .str)) else none)=_
 rw [split_ofC hk,List.length_map,txS_len,txS_len,if_pos ⟨rfl,by omega,by omega⟩,List.map_map]
 rfl
theorem of_sp:Str.ofString " " = txS [32]:=by decide +kernel
theorem of_nl:Str.ofString "\n" = txS [10]:=by decide +kernel
def rdHw:List (List Nat)->Option (Nat×Nat)
 | [a,h,b,k]=>if a=sg "hold" /\ b=sg "back" then (rdN h 1 9).bind fun x=>(rdN k 0 60).map fun y=>(x,y) else none
 | _=>none
theorem rdHw4 (a h b k:List Nat):rdHw [a,h,b,k]=if a=sg "hold" /\ b=sg "back" then (rdN h 1 9).bind fun x=>(rdN k 0 60).map fun y=>(x,y) else none:=rfl
def rdH (row:List Nat):Option (Nat×Nat):=rdHw (splC 32 row)
theorem lenL (ds:List D) (h:ds.length<=100000):fLen [.lst ds]=some (.int ds.length):=by
 simp
theorem neN (a b:Int):cNe (.int a) (.int b)=some (a != b):=rfl
theorem jJ {row:List Nat} (h:Sm row):bo [.str (txS row)]=some (toX ((rdH row).map fun p=>.tup [.int (p.1:Nat),.int (p.2:Nat)])):=by
 have hs:=f_splitC (k:=32) (by decide) h.len
 obtain ⟨x,hx,hxl⟩:=repr_sm h
 have k1:(Str.ofString "no book begins with ").length=20:=by decide +kernel
 have hrep:∀ ρ:R,vAt 0 ρ=some (.str (txS row))->xRaise 0 (op2 dAdd (fun _=>some (.str (Str.ofString "no book begins with "))) (callD fReprS (argC (vAt 0) argN))) ρ=some (.error 0):=fun ρ e=>xrS (opS rfl (callS (arS e rfl) hx) (addZ (by omega)))
 suffices H:∃ o,cP [some (.str (txS row)),none]=some o/\retX o=some (toX ((rdH row).map fun p=>.tup [.int (p.1:Nat),.int (p.2:Nat)])) by
  obtain ⟨o,e1,e2⟩:=H
  exact viaX_of e1 e2
 unfold cP rdH
 have s1:asgD (callD fSplit (argC (vAt 0) (argC (fun _=>some (.str (Str.ofString " "))) argN))) (setAt 1) [some (.str (txS row)),none]=some (.nx [some (.str (txS row)),some (.lst ((splC 32 row).map fun w=>D.str (txS w)))]):=asgS (callS (ds:=[.str (txS row),.str (Str.ofString " ")]) rfl (by rw [of_sp];exact hs)) rfl
 rw [xsN s1]
 have hw:∀ w∈splC 32 row,Sm w:=fun w hw=>h.word hw
 have hl:=lenL ((splC 32 row).map fun w=>D.str (txS w)) (by rw [List.length_map];have:=(splC_len 32 row).1;have:=h.len;omega)
 rw [List.length_map] at hl
 by_cases h4:(splC 32 row).length=4
 ·match hS:splC 32 row,h4 with
  | [a,hh,b,k],_ =>
   rw [hS] at hl hw
   have n0:cNe (.int (([a,hh,b,k]:List (List Nat)).length:Int)) (.int 4)=some false:=rfl
   have q0:cNe (.str (txS a)) (.str (Str.ofString "hold"))=some (a != sg "hold"):=by rw [of_sg];exact neS _ _
   have q2:cNe (.str (txS b)) (.str (Str.ofString "back"))=some (b != sg "back"):=by rw [of_sg];exact neS _ _
   by_cases ha:a=sg "hold"
   ·have ea:(a != sg "hold")=false:=by simp [ha]
    rw [ea] at q0
    by_cases hb:b=sg "back"
    ·have eb:(b != sg "back")=false:=by simp [hb]
     rw [eb] at q2
     have r1:=cS (w:=hh) (hw hh (by simp)) (lo:=1) (hi:=9) (by decide) (by decide)
     have r2:=cS (w:=k) (hw k (by simp)) (lo:=0) (hi:=60) (by decide) (by decide)
     rw [xqN (xiF (orS2 (cmS (callS rfl hl) rfl n0) (orS2 (cmS (opS rfl rfl rfl) rfl q0) (cmS (opS rfl rfl rfl) rfl q2)))),rdHw4,if_pos ⟨ha,hb⟩]
     cases e1:rdN hh 1 9 with
     | none =>
      rw [e1] at r1
      exact ⟨_,xRx (xtE (xaE (xcS (arS (opS rfl rfl rfl) rfl) r1))),rfl⟩
     | some x =>
      rw [e1] at r1
      cases e2:rdN k 0 60 with
      | none =>
       rw [e2] at r2
       exact ⟨_,xRx (xtE (xaF (xcS (arS (opS rfl rfl rfl) rfl) r1) (xaE (xcS (arS (opS rfl rfl rfl) rfl) r2)))),rfl⟩
      | some y =>
       rw [e2] at r2
       exact ⟨_,xRo (xtO (xaO (xcS (arS (opS rfl rfl rfl) rfl) r1) (xaO (xcS (arS (opS rfl rfl rfl) rfl) r2) rfl))),rfl⟩
    ·have eb:(b != sg "back")=true:=by simp [hb]
     rw [eb] at q2
     rw [xqE ((xiT (orS2 (cmS (callS rfl hl) rfl n0) (orS2 (cmS (opS rfl rfl rfl) rfl q0) (cmS (opS rfl rfl rfl) rfl q2)))).trans (hrep _ rfl)),rdHw4,if_neg fun z=>hb z.2]
     exact ⟨_,rfl,rfl⟩
   ·have ea:(a != sg "hold")=true:=by simp [ha]
    rw [ea] at q0
    rw [xqE ((xiT (orS2 (cmS (callS rfl hl) rfl n0) (orS (cmS (opS rfl rfl rfl) rfl q0)))).trans (hrep _ rfl)),rdHw4,if_neg fun z=>ha z.1]
    exact ⟨_,rfl,rfl⟩
 ·have n0:cNe (.int ((splC 32 row).length:Int)) (.int 4)=some true:=by rw [neN];simp;omega
  rw [xqE ((xiT (orS (cmS (callS rfl hl) rfl n0))).trans (hrep _ rfl))]
  refine ⟨_,rfl,?_⟩
  have:rdHw (splC 32 row)=none:=by
   unfold rdHw
   split
   ·rename_i e;rw [e] at h4;exact absurd rfl h4
   ·rfl
  rw [this];rfl
def combos (fs:List Face):List (Face×Bool):=fs.flatMap fun f=>[(f,false),(f,true)]
abbrev mhl (p:Face×Bool):List Nat:=(mhT p.1 p.2).cps.toList
def rdMh (row:List Nat):Option (Face×Bool):=(combos [.time,.alarm,.laps,.count]).find? fun p=>row==mhl p
abbrev mhB:R->Option Out:=ifD (cmp2 cEq (vAt 0) (callD aV (argC (vAt 1) (argC (vAt 2) argN)))) (retD (tupD (argC (vAt 1) (argC (vAt 2) argN)))) nextD
theorem mh_body (row:List Nat) (f:Face) (b:Bool):mhB [some (.str (txS row)),some (.str f.x),some (.bl b)]=if row==mhl (f,b) then some (.rt (.tup [.str f.x,.bl b])) else some (.nx [some (.str (txS row)),some (.str f.x),some (.bl b)]):=by
 have q:cEq (.str (txS row)) (.str (mhT f b))=some (row==mhl (f,b)):=by rw [txS_of (mhT f b)];exact eqS _ _
 have c:cmp2 cEq (vAt 0) (callD aV (argC (vAt 1) (argC (vAt 2) argN))) [some (.str (txS row)),some (.str f.x),some (.bl b)]=some (row==mhl (f,b)):=cmS rfl (callS rfl (fP f b)) q
 cases h:row==mhl (f,b) with
 | true=>rw [h] at c;exact (ifT c).trans rfl
 | false=>rw [h] at c;exact (ifF c).trans rfl
abbrev mhI:R->Option Out:=loopD (inSeq (tupD (argC (fun _=>some (.bl false)) (argC (fun _=>some (.bl true)) argN)))) (setAt 2) mhB
theorem mh_inner (row:List Nat) (f:Face) (o:Option D):mhI [some (.str (txS row)),some (.str f.x),o]=match [(f,false),(f,true)].find? (fun p=>row==mhl p) with
  | some p=>some (.rt (.tup [.str p.1.x,.bl p.2]))
  | none=>some (.nx [some (.str (txS row)),some (.str f.x),some (.bl true)]):=by
 have b1:=mh_body row f false
 have b2:=mh_body row f true
 have e:inSeq (tupD (argC (fun _=>some (.bl false)) (argC (fun _=>some (.bl true)) argN))) [some (.str (txS row)),some (.str f.x),o]=some [.bl false,.bl true]:=rfl
 show (inSeq _ _).bind _=_
 rw [e]
 show (mhB [some (.str (txS row)),some (.str f.x),some (.bl false)]).bind _=_
 rw [List.find?_cons]
 cases h1:row==mhl (f,false) with
 | true=>rw [h1] at b1;rw [b1];rfl
 | false =>
  rw [h1] at b1
  rw [b1]
  show (mhB [some (.str (txS row)),some (.str f.x),some (.bl true)]).bind _=_
  rw [List.find?_cons]
  cases h2:row==mhl (f,true) with
  | true=>rw [h2] at b2;rw [b2];rfl
  | false=>rw [h2] at b2;rw [b2];rfl
theorem mh_outer (row:List Nat):∀ (fs:List Face) (o1 o2:Option D),∃ o1' o2',forD (setAt 1) mhI (fs.map fun f=>D.str f.x) [some (.str (txS row)),o1,o2]=match (combos fs).find? (fun p=>row==mhl p) with
  | some p=>some (.rt (.tup [.str p.1.x,.bl p.2]))
  | none=>some (.nx [some (.str (txS row)),o1',o2'])
 | [],o1,o2=>⟨o1,o2,rfl⟩
 | f::fs,o1,o2=>by
  obtain ⟨a,b,ih⟩:=mh_outer row fs (some (.str f.x)) (some (.bl true))
  have hi:=mh_inner row f o2
  refine ⟨a,b,?_⟩
  have ec:combos (f::fs)=[(f,false),(f,true)]++combos fs:=rfl
  rw [ec,List.find?_append]
  show (mhI [some (.str (txS row)),some (.str f.x),o2]).bind _=_
  cases h:[(f,false),(f,true)].find? (fun p=>row==mhl p) with
  | some p=>rw [h] at hi;rw [hi];rfl
  | none=>rw [h] at hi;rw [hi];exact ih
theorem fB {row:List Nat} (h:Sm row):aH [.str (txS row)]=some (toX ((rdMh row).map fun p=>.tup [.str p.1.x,.bl p.2])):=by
 obtain ⟨a,b,hl⟩:=mh_outer row [.time,.alarm,.laps,.count] none none
 obtain ⟨x,hx,hxl⟩:=repr_sm h
 have k1:(Str.ofString "no mode begins with ").length=20:=by decide +kernel
 suffices H:∃ o,bF [some (.str (txS row)),none,none]=some o/\retX o=some (toX ((rdMh row).map fun p=>.tup [.str p.1.x,.bl p.2])) by
  obtain ⟨o,e1,e2⟩:=H
  exact viaX_of e1 e2
 have hf:inSeq (fun _=>some dA) [some (.str (txS row)),none,none]=some ([Face.time,.alarm,.laps,.count].map fun f=>D.str f.x):=rfl
 unfold bF rdMh
 cases hF:(combos [.time,.alarm,.laps,.count]).find? (fun p=>row==mhl p) with
 | some p =>
  rw [hF] at hl
  exact ⟨_,xsR (loop_of hf hl),rfl⟩
 | none =>
  rw [hF] at hl
  exact ⟨_,(xsN (loop_of hf hl)).trans (xrS (opS rfl (callS rfl hx) (addZ (by omega)))),rfl⟩
def deedsL:List Deed:=[.none,.hour,.minute,.zero,.ahour,.aminute,.alarm,.run,.lap,.cminute,.csecond,.full,.count]
abbrev dl (k:Deed):List Nat:=k.x.cps.toList
def rdD (d:List Nat):Option Deed:=deedsL.find? fun k=>d==dl k
theorem deed_not (d:List Nat):cNotIn (.str (txS d)) cu=some (!(rdD d).isSome):=by
 have e:cu=.tup (deedsL.map fun k=>D.str (txS (dl k))):=by
  show cu=.tup (deedsL.map fun k=>D.str (txS (dl k)))
  have:(deedsL.map fun k=>D.str (txS (dl k)))=deedsL.map fun k=>D.str k.x:=List.map_congr_left fun k _=>by rw [<- txS_of]
  rw [this];rfl
 have hall:∀ l:List Deed,((l.map fun k=>D.str (txS (dl k))).all flat)=true:=fun l=>by induction l with | nil=>rfl | cons a l ih=>rw [List.map_cons,List.all_cons,ih];rfl
 have hany:∀ l:List Deed,((l.map fun k=>D.str (txS (dl k))).any fun y=>eqF y (.str (txS d)))=(l.find? fun k=>d==dl k).isSome:=fun l=>by
  induction l with
  | nil=>rfl
  | cons a l ih =>
   rw [List.map_cons,List.any_cons,ih,List.find?_cons]
   have:eqF (.str (txS (dl a))) (.str (txS d))=(d==dl a):=by
    show (txS (dl a)==txS d)=_
    rw [txS_eq,Bool.eq_iff_iff,beq_iff_eq,beq_iff_eq]
    exact eq_comm
   rw [this]
   cases d==dl a<;>rfl
 rw [e]
 show (if flat (.str (txS d))&&(deedsL.map fun k=>D.str (txS (dl k))).all flat then some (!(deedsL.map fun k=>D.str (txS (dl k))).any fun y=>eqF y (.str (txS d))) else none)=_
 rw [hall,hany];rfl
theorem rdD_x {d:List Nat} {k:Deed} (h:rdD d=some k):k.x=txS d:=by
 have:=List.find?_some h
 rw [beq_iff_eq] at this
 rw [this,<- txS_of]
def rdPw (p:List Nat) (many:Nat):List (List Nat)->Option (Deed×Nat)
 | [a,d,n]=>if a=p then (rdD d).bind fun k=>(rdN n 0 (many - 1)).map fun m=>(k,m) else none
 | _=>none
theorem rdPw3 (p:List Nat) (many:Nat) (a d n:List Nat):rdPw p many [a,d,n]=if a=p then (rdD d).bind fun k=>(rdN n 0 (many - 1)).map fun m=>(k,m) else none:=rfl
def rdP (p row:List Nat) (many:Nat):Option (Deed×Nat):=rdPw p many (splC 32 row)
theorem ig {p row:List Nat} {many:Nat} (h:Sm row) (hp:p.length<=10) (h1:1<=many) (h8:many<=8):bh [.str (txS p),.str (txS row),.int many]=some (toX ((rdP p row many).map rowD)):=by
 have hs:=f_splitC (k:=32) (by decide) h.len
 obtain ⟨x,hx,hxl⟩:=repr_sm h
 have k1:(Str.ofString "the press ").length=10:=by decide +kernel
 have k2:(Str.ofString " has no row ").length=12:=by decide +kernel
 have kp:(txS p).length=p.length:=txS_len p
 have hrep:∀ ρ:R,vAt 0 ρ=some (.str (txS p))->vAt 1 ρ=some (.str (txS row))->xRaise 0 (op2 dAdd (op2 dAdd (op2 dAdd (fun _=>some (.str (Str.ofString "the press "))) (vAt 0)) (fun _=>some (.str (Str.ofString " has no row ")))) (callD fReprS (argC (vAt 1) argN))) ρ=some (.error 0):=fun ρ e0 e=>by
  refine xrS (opS (opS (opS rfl e0 (addZ ?_)) rfl (addZ ?_)) (callS (arS e rfl) hx) (addZ ?_))
  all_goals (try simp only [app_len])
  all_goals omega
 suffices H:∃ o,cx [some (.str (txS p)),some (.str (txS row)),some (.int many),none]=some o/\retX o=some (toX ((rdP p row many).map rowD)) by
  obtain ⟨o,e1,e2⟩:=H
  exact viaX_of e1 e2
 unfold cx rdP
 have s1:asgD (callD fSplit (argC (vAt 1) (argC (fun _=>some (.str (Str.ofString " "))) argN))) (setAt 3) [some (.str (txS p)),some (.str (txS row)),some (.int many),none]=some (.nx [some (.str (txS p)),some (.str (txS row)),some (.int many),some (.lst ((splC 32 row).map fun w=>D.str (txS w)))]):=asgS (callS (ds:=[.str (txS row),.str (Str.ofString " ")]) rfl (by rw [of_sp];exact hs)) rfl
 rw [xsN s1]
 have hw:∀ w∈splC 32 row,Sm w:=fun w hw=>h.word hw
 have hl:=lenL ((splC 32 row).map fun w=>D.str (txS w)) (by rw [List.length_map];have:=(splC_len 32 row).1;have:=h.len;omega)
 rw [List.length_map] at hl
 by_cases h3:(splC 32 row).length=3
 ·match hS:splC 32 row,h3 with
  | [a,d,n],_ =>
   rw [hS] at hl hw
   have n0:cNe (.int (([a,d,n]:List (List Nat)).length:Int)) (.int 3)=some false:=rfl
   have q0:cNe (.str (txS a)) (.str (txS p))=some (a != p):=neS _ _
   have q1:=deed_not d
   rw [rdPw3]
   by_cases ha:a=p
   ·have ea:(a != p)=false:=by simp [ha]
    rw [ea] at q0
    rw [if_pos ha]
    cases hd:rdD d with
    | none =>
     rw [hd] at q1
     rw [xqE ((xiT (orS2 (cmS (callS rfl hl) rfl n0) (orS2 (cmS (opS rfl rfl rfl) rfl q0) (cmS (opS rfl rfl rfl) rfl q1)))).trans (hrep _ rfl rfl))]
     exact ⟨_,rfl,rfl⟩
    | some k =>
     rw [hd] at q1
     have r2:=cS (w:=n) (hw n (by simp)) (lo:=0) (hi:=many - 1) (by decide) (by omega)
     have em:dSub (.int (many:Int)) (.int 1)=some (.int ((many - 1:Nat):Int)):=by
      have:((many - 1:Nat):Int)=(many:Int) - 1:=by omega
      rw [this];rfl
     rw [xqN (xiF (orS2 (cmS (callS rfl hl) rfl n0) (orS2 (cmS (opS rfl rfl rfl) rfl q0) (cmS (opS rfl rfl rfl) rfl q1))))]
     cases e2:rdN n 0 (many - 1) with
     | none =>
      rw [e2] at r2
      exact ⟨_,xRx (xtE (xaF (xOk (opS rfl rfl rfl)) (xaE (xcS (arS (opS rfl rfl rfl) (arS rfl (arS (opS rfl rfl em) rfl))) r2)))),rfl⟩
     | some m =>
      rw [e2] at r2
      refine ⟨_,xRo (xtO (xaO (xOk (opS rfl rfl rfl)) (xaO (xcS (arS (opS rfl rfl rfl) (arS rfl (arS (opS rfl rfl em) rfl))) r2) rfl))),?_⟩
      show some (Except.ok (D.tup [.str (txS d),.int (m:Nat)]))=some (Except.ok (D.tup [.str k.x,.int (m:Nat)]))
      rw [rdD_x hd]
   ·have ea:(a != p)=true:=by simp [ha]
    rw [ea] at q0
    rw [xqE ((xiT (orS2 (cmS (callS rfl hl) rfl n0) (orS (cmS (opS rfl rfl rfl) rfl q0)))).trans (hrep _ rfl rfl)),if_neg ha]
    exact ⟨_,rfl,rfl⟩
 ·have n0:cNe (.int ((splC 32 row).length:Int)) (.int 3)=some true:=by rw [neN];simp;omega
  rw [xqE ((xiT (orS (cmS (callS rfl hl) rfl n0))).trans (hrep _ rfl rfl))]
  refine ⟨_,rfl,?_⟩
  have:rdPw p many (splC 32 row)=none:=by
   unfold rdPw
   split
   ·rename_i e;rw [e] at h3;exact absurd rfl h3
   ·rfl
  rw [this];rfl
def mapT {α β:Type} (g:α->Option β):List α->Option (List β)
 | []=>some []
 | a::as=>(g a).bind fun b=>(mapT g as).map fun bs=>b::bs
theorem cxE {st:D->R->Option R} {e:XD} {d:D} {ds:List D} {ρ ρ1:R} {c:Nat} (h1:st d ρ=some ρ1) (h2:e ρ1=some (.error c)):compX st e (d::ds) ρ=some (.error c):=by simp [compX,h1,h2]
theorem cxO {st:D->R->Option R} {e:XD} {d y:D} {ds ys:List D} {ρ ρ1:R} (h1:st d ρ=some ρ1) (h2:e ρ1=some (.ok y)) (h3:compX st e ds ρ=some (.ok ys)):compX st e (d::ds) ρ=some (.ok (y::ys)):=by simp [compX,h1,h2,h3]
theorem cxF {st:D->R->Option R} {e:XD} {d y:D} {ds:List D} {ρ ρ1:R} {c:Nat} (h1:st d ρ=some ρ1) (h2:e ρ1=some (.ok y)) (h3:compX st e ds ρ=some (.error c)):compX st e (d::ds) ρ=some (.error c):=by simp [compX,h1,h2,h3]
def toXs:Option (List D)->Except Nat (List D)
 | some d=>.ok d
 | none=>.error 0
theorem gt {α β:Type} {st:D->R->Option R} {e:XD} {ρ:R} (f:α->D) (g:α->Option β) (k:β->D):∀ {as:List α},(∀ a∈as,∃ ρ1,st (f a) ρ=some ρ1/\e ρ1=some (toX ((g a).map k)))->compX st e (as.map f) ρ=some (toXs ((mapT g as).map fun bs=>bs.map k))
 | [],_=>rfl
 | a::as,h=>by
  obtain ⟨ρ1,h1,h2⟩:=h a List.mem_cons_self
  have ih:=gt (st:=st) (e:=e) (ρ:=ρ) f g k (as:=as) fun x hx=>h x (List.mem_cons_of_mem _ hx)
  rw [List.map_cons]
  unfold mapT
  cases hg:g a with
  | none=>rw [hg] at h2;exact cxE h1 h2
  | some b =>
   rw [hg] at h2
   cases hm:mapT g as with
   | none=>rw [hm] at ih;exact cxF h1 h2 ih
   | some bs=>rw [hm] at ih;exact cxO h1 h2 ih
theorem lcX_ok {k:Nat} {it:R->Option (List D)} {st:D->R->Option R} {e:XD} {ρ:R} {ds:List D} {r:Option (List D)} (h1:it ρ=some ds) (hz:ds.length<=100000) (h2:compX st e ds (List.replicate k none++ρ)=some (toXs r)):lcX k it st e ρ=some (toX (r.map .lst)):=by
 have z:=PySem.sizeLine_eq
 unfold lcX
 rw [h1,Option.bind_some,if_pos (by omega),h2]
 cases r<;>rfl
abbrev prl (i:Nat):List Nat:=(prs.getD i (Str.ofString "")).cps.toList
def rdM (rs:List (List Nat)) (many:Nat):Option Md:=(rdMh (rs.getD 0 [])).bind fun p=>(mapT (fun i=>rdP (prl i) (rs.getD (i+1) []) many) (List.range 6)).map fun rows=>⟨p.1,p.2,rows⟩
theorem pr_ix {i:Nat} (h:i<6):dIx aM (.int (i:Nat))=some (.str (txS (prl i)))/\(prl i).length<=10:=by
 have:i=0\/i=1\/i=2\/i=3\/i=4\/i=5:=by omega
 have e:∀ i,txS (prl i)=prs.getD i (Str.ofString ""):=fun i=>(txS_of _).symm
 rw [e]
 rcases this with rfl | rfl | rfl | rfl | rfl | rfl<;>exact ⟨rfl,by decide +kernel⟩
theorem lst_ix {rs:List (List Nat)} {i:Nat} (h:i<rs.length):dIx (.lst (rs.map fun w=>D.str (txS w))) (.int (i:Nat))=some (.str (txS (rs.getD i []))):=by
 show atD (rs.map fun w=>D.str (txS w)) (i:Int)=_
 have e:ixD (rs.map fun w=>D.str (txS w)).length (i:Int)=some i:=by
  unfold ixD
  rw [List.length_map]
  simp [h]
 unfold atD
 rw [e]
 simp [h]
theorem jc {rs:List (List Nat)} {many:Nat} (hs:∀ r∈rs,Sm r) (h7:rs.length=7) (h1:1<=many) (h8:many<=8):bq [.lst (rs.map fun w=>D.str (txS w)),.int many]=some (toX ((rdM rs many).map Md.d)):=by
 have hg:∀ i<7,Sm (rs.getD i []):=fun i hi=>by
  rw [List.getD_eq_getElem?_getD,List.getElem?_eq_getElem (by omega)]
  exact hs _ (List.getElem_mem (by omega))
 have hh:=fB (hg 0 (by decide))
 suffices H:∃ o,cN [some (.lst (rs.map fun w=>D.str (txS w))),some (.int many),none,none]=some o/\retX o=some (toX ((rdM rs many).map Md.d)) by
  obtain ⟨o,e1,e2⟩:=H
  exact viaX_of e1 e2
 unfold cN rdM
 have x1:xCall aH (argC (op2 dIx (vAt 0) (fun _=>some (.int 0))) argN) [some (.lst (rs.map fun w=>D.str (txS w))),some (.int many),none,none]=some (toX ((rdMh (rs.getD 0 [])).map fun p=>.tup [.str p.1.x,.bl p.2])) :=
  xcS (arS (opS rfl rfl (lst_ix (i:=0) (by omega))) rfl) hh
 cases hM:rdMh (rs.getD 0 []) with
 | none =>
  rw [hM] at x1
  exact ⟨_,xqE (xaE' x1),rfl⟩
 | some p =>
  rw [hM] at x1
  rw [xqN (xaO' (ρ':=[some (.lst (rs.map fun w=>D.str (txS w))),some (.int many),some (.tup [.str p.1.x,.bl p.2]),none]) x1 rfl)]
  have x2:=gt (st:=setAt 0) (e:=xCall bh (argC (op2 dIx (fun _=>some aM) (vAt 0)) (argC (op2 dIx (vAt 1) (op2 dAdd (vAt 0) (fun _=>some (.int 1)))) (argC (vAt 2) argN)))) (ρ:=List.replicate 1 none++[some (.lst (rs.map fun w=>D.str (txS w))),some (.int many),some (.tup [.str p.1.x,.bl p.2]),none]) (fun i:Nat=>D.int (i:Nat)) (fun i=>rdP (prl i) (rs.getD (i+1) []) many) rowD (as:=List.range 6) (by
   intro i hi
   have hi':=List.mem_range.mp hi
   obtain ⟨p1,p2⟩:=pr_ix hi'
   have l1:=lst_ix (rs:=rs) (i:=i+1) (by omega)
   exact ⟨_,rfl,xcS (arS (opS rfl rfl p1) (arS (opS rfl (opS rfl rfl rfl) l1) rfl)) (ig (hg (i+1) (by omega)) p2 h1 h8)⟩)
  have x3:=lcX_ok (it:=inRng1 (callD fLen (argC (fun _=>some aM) argN))) (ds:=(List.range 6).map fun i:Nat=>D.int (i:Nat)) rfl (by decide) x2
  cases hP:mapT (fun i=>rdP (prl i) (rs.getD (i+1) []) many) (List.range 6) with
  | none =>
   rw [hP] at x3
   exact ⟨_,xqE (xaE' x3),rfl⟩
  | some rows =>
   rw [hP] at x3
   rw [xqN (xaO' (ρ':=[some (.lst (rs.map fun w=>D.str (txS w))),some (.int many),some (.tup [.str p.1.x,.bl p.2]),some (.lst (rows.map rowD))]) x3 rfl)]
   exact ⟨.ok (.rt (.tup [.str p.1.x,.bl p.2,.tup (rows.map rowD)])),rfl,rfl⟩
def rdR (s:List Nat):Option (List (List Nat)):=if (splC 10 s).getLastD []=[] then some (splC 10 s).dropLast else none
theorem neg1_ix {ws:List (List Nat)} (h:ws ≠ []):dIx (.lst (ws.map fun w=>D.str (txS w))) (.int (-1))=some (.str (txS (ws.getLastD []))):=by
 have hl:0<ws.length:=List.length_pos_iff.mpr h
 show atD (ws.map fun w=>D.str (txS w)) (-1)=_
 unfold atD ixD
 rw [List.length_map,if_neg (by decide),if_pos (by omega),show (-1+(ws.length:Int)).toNat=ws.length - 1 by omega]
 simp [List.getElem?_eq_getElem (show ws.length - 1<ws.length by omega),List.getLastD_eq_getLast?,List.getLast?_eq_getElem?]
theorem mn (xs:List D):cutD xs none (some (-1))=xs.dropLast:=by
 have e1:cutP xs.length 0 none=0:=rfl
 have e2:cutP xs.length xs.length (some (-1))=xs.length - 1:=by
  show (if (-1:Int)<0 then ((-1:Int)+(xs.length:Int)).toNat else min (-1:Int).toNat xs.length)=_
  rw [if_pos (by decide)];omega
 unfold cutD
 rw [e1,e2,List.drop_zero,Nat.sub_zero,<- List.dropLast_eq_take]
theorem jT {s:List Nat} (h:Sm s):bD [.str (txS s)]=some (toX ((rdR s).map fun rs=>.lst (rs.map fun w=>D.str (txS w)))):=by
 have hs:=f_splitC (k:=10) (by decide) h.len
 have hn:=splC_ne 10 s
 have hx1:=neg1_ix hn
 have hlw:Sm ((splC 10 s).getLastD []):=h.word (k:=10) (by
  rw [List.getLastD_eq_getLast?,List.getLast?_eq_getLast hn]
  exact List.getLast_mem hn)
 obtain ⟨x,hx,hxl⟩:=repr_sm hlw
 have k1:(Str.ofString "no row end stands behind ").length=25:=by decide +kernel
 suffices H:∃ o,cL [some (.str (txS s)),none]=some o/\retX o=some (toX ((rdR s).map fun rs=>.lst (rs.map fun w=>D.str (txS w)))) by
  obtain ⟨o,e1,e2⟩:=H
  exact viaX_of e1 e2
 unfold cL rdR
 have s1:asgD (callD fSplit (argC (vAt 0) (argC (fun _=>some (.str (Str.ofString "\n"))) argN))) (setAt 1) [some (.str (txS s)),none]=some (.nx [some (.str (txS s)),some (.lst ((splC 10 s).map fun w=>D.str (txS w)))]):=asgS (callS (ds:=[.str (txS s),.str (Str.ofString "\n")]) rfl (by rw [of_nl];exact hs)) rfl
 rw [xsN s1]
 have e0:Str.ofString "" = txS []:=by decide +kernel
 have q:cNe (.str (txS ((splC 10 s).getLastD []))) (.str (Str.ofString ""))=some ((splC 10 s).getLastD [] != []):=by rw [e0];exact neS _ _
 have hv:op2 dIx (vAt 1) (op1 dNeg (fun _=>some (.int 1))) [some (.str (txS s)),some (.lst ((splC 10 s).map fun w=>D.str (txS w)))]=some (.str (txS ((splC 10 s).getLastD []))):=opS (y:=.int (-1)) rfl rfl hx1
 have hc:dSl (.lst ((splC 10 s).map fun w=>D.str (txS w))) none (some (-1))=some (.lst ((splC 10 s).dropLast.map fun w=>D.str (txS w))):=by
  show some (D.lst (cutD ((splC 10 s).map fun w=>D.str (txS w)) none (some (-1))))=_
  rw [mn,List.map_dropLast]
 generalize (splC 10 s).getLastD []=z at *
 have c1:cmp2 cNe (op2 dIx (vAt 1) (op1 dNeg (fun _=>some (.int 1)))) (fun _=>some (.str (Str.ofString ""))) [some (.str (txS s)),some (.lst ((splC 10 s).map fun w=>D.str (txS w)))]=some (z != []):=cmS hv rfl q
 by_cases hl:z=[]
 ·have eb:(z != [])=false:=by rw [hl];rfl
  rw [eb] at c1
  rw [xqN (ρ':=[some (.str (txS s)),some (.lst ((splC 10 s).map fun w=>D.str (txS w)))]) ((xiF c1).trans rfl),if_pos hl]
  refine ⟨.ok (.rt (.lst ((splC 10 s).dropLast.map fun w=>D.str (txS w)))),?_,rfl⟩
  show ((retD (slD (vAt 1) noP (aP (op1 dNeg (fun _=>some (.int 1))))) [some (.str (txS s)),some (.lst ((splC 10 s).map fun w=>D.str (txS w)))]).map Except.ok)=_
  rw [retS (slS rfl rfl rfl hc)];rfl
 ·have eb:(z != [])=true:=by simpa using hl
  rw [eb] at c1
  rw [xqE ((xiT c1).trans (xrS (opS (x:=.str (Str.ofString "no row end stands behind ")) rfl (callS (arS hv rfl) hx) (addZ (by omega))))),if_neg hl]
  exact ⟨_,rfl,rfl⟩
def rdC (n:Nat):Option Nat:=if 1<=(n - 1) / 7/\(n - 1) / 7<=8/\n=1+(n - 1) / 7*7 then some ((n - 1) / 7) else none
theorem fh {L:List D} (hL:L.length<=100000):aJ [.lst L]=some (toX ((rdC L.length).map fun m=>.int (m:Nat))):=by
 have hl:=lenL L hL
 have k1:(Str.ofString "no book has just so many rows: ").length=31:=by decide +kernel
 have t1:=tx_len (n:=(L.length:Int)) (by omega) (by omega)
 have hd:dDiv (.int ((L.length:Int) - 1)) aD=some (.int (((L.length:Int) - 1) / 7)):=rfl
 suffices H:∃ o,bv [some (.lst L),none]=some o/\retX o=some (toX ((rdC L.length).map fun m=>.int (m:Nat))) by
  obtain ⟨o,e1,e2⟩:=H
  exact viaX_of e1 e2
 unfold bv rdC
 rw [xsN (ρ':=[some (.lst L),some (.int (((L.length:Int) - 1) / 7))]) (asgS (opS (opS (callS rfl hl) rfl rfl) rfl hd) rfl)]
 have hc3:cmp3 cLe cLe (fun _=>some (.int 1)) (vAt 1) (fun _=>some aX) [some (.lst L),some (.int (((L.length:Int) - 1) / 7))]=some (decide (1<=((L.length:Int) - 1) / 7)&&decide (((L.length:Int) - 1) / 7<=8)):=by
  show (if decide ((1:Int)<=((L.length:Int) - 1) / 7)=true then some (decide (((L.length:Int) - 1) / 7<=8)) else some false)=_
  cases decide ((1:Int)<=((L.length:Int) - 1) / 7)<;>rfl
 have hne:cmp2 cNe (callD fLen (argC (vAt 0) argN)) (op2 dAdd (fun _=>some (.int 1)) (op2 dMul (vAt 1) (fun _=>some aD))) [some (.lst L),some (.int (((L.length:Int) - 1) / 7))]=some ((L.length:Int) != 1+((L.length:Int) - 1) / 7*7):=cmS (callS rfl hl) (opS rfl (opS rfl rfl (mul7 _)) rfl) rfl
 have hraise:xRaise 0 (op2 dAdd (fun _=>some (.str (Str.ofString "no book has just so many rows: "))) (callD fStr (argC (callD fLen (argC (vAt 0) argN)) argN))) [some (.lst L),some (.int (((L.length:Int) - 1) / 7))]=some (.error 0):=xrS (opS rfl (callS (arS (callS rfl hl) rfl) (f_str (by omega) (by omega))) (addZ (by omega)))
 by_cases h:1<=(L.length - 1) / 7/\(L.length - 1) / 7<=8/\L.length=1+(L.length - 1) / 7*7
 ·rw [if_pos h]
  have z1:((L.length:Int) - 1) / 7=(((L.length - 1) / 7:Nat):Int):=by omega
  have b1:(decide (1<=((L.length:Int) - 1) / 7)&&decide (((L.length:Int) - 1) / 7<=8))=true:=by simp;omega
  have b2:((L.length:Int) != 1+((L.length:Int) - 1) / 7*7)=false:=by simp;omega
  rw [b1] at hc3
  rw [b2] at hne
  rw [xqN (ρ':=[some (.lst L),some (.int (((L.length:Int) - 1) / 7))]) ((xiF (orS2 (ntS hc3) hne)).trans rfl)]
  exact ⟨.ok (.rt (.int (((L.length:Int) - 1) / 7))),rfl,by rw [z1];rfl⟩
 ·rw [if_neg h]
  have hor:orT (notT (cmp3 cLe cLe (fun _=>some (.int 1)) (vAt 1) (fun _=>some aX))) (cmp2 cNe (callD fLen (argC (vAt 0) argN)) (op2 dAdd (fun _=>some (.int 1)) (op2 dMul (vAt 1) (fun _=>some aD)))) [some (.lst L),some (.int (((L.length:Int) - 1) / 7))]=some true:=by
   cases hb:(decide (1<=((L.length:Int) - 1) / 7)&&decide (((L.length:Int) - 1) / 7<=8)) with
   | false=>rw [hb] at hc3;exact orS (ntS hc3)
   | true =>
    rw [hb] at hc3
    have b2:((L.length:Int) != 1+((L.length:Int) - 1) / 7*7)=true:=by
     simp at hb ⊢
     omega
    rw [b2] at hne
    exact orS2 (ntS hc3) hne
  rw [xqE ((xiT hor).trans hraise)]
  exact ⟨_,rfl,rfl⟩
def rdB (s:List Nat):Option Bk:=(rdR s).bind fun R=>(rdC R.length).bind fun m=>(rdH (R.getD 0 [])).bind fun h=>(mapT (fun i=>rdM ((R.drop (1+i*7)).take 7) m) (List.range m)).map fun ms=>⟨h.1,h.2,ms⟩
theorem sl7 (R:List (List Nat)) (i:Nat) (h:1+i*7+7<=R.length):dSl (.lst (R.map fun w=>D.str (txS w))) (some (1+(i:Int)*7)) (some (1+(i:Int)*7+7))=some (.lst (((R.drop (1+i*7)).take 7).map fun w=>D.str (txS w))):=by
 show some (D.lst (cutD (R.map fun w=>D.str (txS w)) (some (1+(i:Int)*7)) (some (1+(i:Int)*7+7))))=_
 have e1:cutP (R.map fun w=>D.str (txS w)).length 0 (some (1+(i:Int)*7))=1+i*7:=by
  show (if (1+(i:Int)*7)<0 then ((1+(i:Int)*7)+((R.map fun w=>D.str (txS w)).length:Int)).toNat else min (1+(i:Int)*7).toNat (R.map fun w=>D.str (txS w)).length)=_
  rw [if_neg (by omega),List.length_map];omega
 have e2:cutP (R.map fun w=>D.str (txS w)).length (R.map fun w=>D.str (txS w)).length (some (1+(i:Int)*7+7))=1+i*7+7:=by
  show (if (1+(i:Int)*7+7)<0 then ((1+(i:Int)*7+7)+((R.map fun w=>D.str (txS w)).length:Int)).toNat else min (1+(i:Int)*7+7).toNat (R.map fun w=>D.str (txS w)).length)=_
  rw [if_neg (by omega),List.length_map];omega
 unfold cutD
 rw [e1,e2,show 1+i*7+7 - (1+i*7)=7 by omega,<- List.map_drop,<- List.map_take]
theorem jW {s:List Nat} (h:Sm s):br [.str (txS s)]=some (toX ((rdB s).map Bk.d)):=by
 have r1:=jT h
 suffices H:∃ o,cK [some (.str (txS s)),none,none,none,none]=some o/\retX o=some (toX ((rdB s).map Bk.d)) by
  obtain ⟨o,e1,e2⟩:=H
  exact viaX_of e1 e2
 unfold cK rdB
 cases hR:rdR s with
 | none =>
  rw [hR] at r1
  exact ⟨_,xqE (xaE' (xcS rfl r1)),rfl⟩
 | some R =>
  rw [hR] at r1
  have hRs:(∀ r∈R,Sm r)/\R.length<=60000:=by
   unfold rdR at hR
   split at hR
   ·cases hR
    refine ⟨fun r hr=>h.word (k:=10) ((List.dropLast_sublist _).subset hr),?_⟩
    have:=(splC_len 10 s).1
    have:=h.len
    rw [List.length_dropLast];omega
   ·cases hR
  rw [xqN (xaO' (ρ':=[some (.str (txS s)),some (.lst (R.map fun w=>D.str (txS w))),none,none,none]) (xcS rfl r1) rfl)]
  have r2:=fh (L:=R.map fun w=>D.str (txS w)) (by rw [List.length_map];omega)
  rw [List.length_map] at r2
  show ∃ o,_/\retX o=some (toX (((rdC R.length).bind fun m=>(rdH (R.getD 0 [])).bind fun h=>(mapT (fun i=>rdM ((R.drop (1+i*7)).take 7) m) (List.range m)).map fun ms=>(⟨h.1,h.2,ms⟩:Bk)).map Bk.d))
  cases hC:rdC R.length with
  | none =>
   rw [hC] at r2
   exact ⟨_,xqE (xaE' (xcS rfl r2)),rfl⟩
  | some m =>
   rw [hC] at r2
   have hm:1<=m/\m<=8/\R.length=1+m*7:=by
    unfold rdC at hC
    split at hC
    ·cases hC;assumption
    ·cases hC
   rw [xqN (xaO' (ρ':=[some (.str (txS s)),some (.lst (R.map fun w=>D.str (txS w))),some (.int (m:Nat)),none,none]) (xcS rfl r2) rfl)]
   have hg0:Sm (R.getD 0 []):=by
    rw [List.getD_eq_getElem?_getD,List.getElem?_eq_getElem (by omega)]
    exact hRs.1 _ (List.getElem_mem (by omega))
   have r3:=jJ hg0
   have x3:xCall bo (argC (op2 dIx (vAt 1) (fun _=>some (.int 0))) argN) [some (.str (txS s)),some (.lst (R.map fun w=>D.str (txS w))),some (.int (m:Nat)),none,none]=some (toX ((rdH (R.getD 0 [])).map fun p=>.tup [.int (p.1:Nat),.int (p.2:Nat)])):=xcS (arS (opS rfl rfl (lst_ix (i:=0) (by omega))) rfl) r3
   show ∃ o,_/\retX o=some (toX (((rdH (R.getD 0 [])).bind fun h=>(mapT (fun i=>rdM ((R.drop (1+i*7)).take 7) m) (List.range m)).map fun ms=>(⟨h.1,h.2,ms⟩:Bk)).map Bk.d))
   cases hH:rdH (R.getD 0 []) with
   | none =>
    rw [hH] at x3
    exact ⟨_,xqE (xaE' x3),rfl⟩
   | some p =>
    rw [hH] at x3
    rw [xqN (xaO' (ρ':=[some (.str (txS s)),some (.lst (R.map fun w=>D.str (txS w))),some (.int (m:Nat)),some (.tup [.int (p.1:Nat),.int (p.2:Nat)]),none]) x3 rfl)]
    have c4:compD (setAt 0) yesT (op2 dAdd (fun _=>some (.int 1)) (op2 dMul (vAt 0) (fun _=>some aD))) ((List.range m).map fun i:Nat=>D.int (i:Nat)) (List.replicate 1 none++[some (.str (txS s)),some (.lst (R.map fun w=>D.str (txS w))),some (.int (m:Nat)),some (.tup [.int (p.1:Nat),.int (p.2:Nat)]),none])=some ((List.range m).map fun i:Nat=>D.int (1+(i:Int)*7)) :=
     c_ _ _ fun i _=>⟨_,rfl,opS rfl (opS rfl rfl (mul7 _)) rfl⟩
    have i4:inRng1 (vAt 2) [some (.str (txS s)),some (.lst (R.map fun w=>D.str (txS w))),some (.int (m:Nat)),some (.tup [.int (p.1:Nat),.int (p.2:Nat)]),none]=some ((List.range m).map fun i:Nat=>D.int (i:Nat)):=by
     rw [rng1S (n:=(m:Nat)) rfl (by have:=p62;omega) (by have:=p62;omega)]
     unfold rngD
     rw [show ((m:Int) - 0).toNat=m by omega]
     congr 1
     exact List.map_congr_left fun i _=>by rw [Int.zero_add]
    rw [xsN (ρ':=[some (.str (txS s)),some (.lst (R.map fun w=>D.str (txS w))),some (.int (m:Nat)),some (.tup [.int (p.1:Nat),.int (p.2:Nat)]),some (.lst ((List.range m).map fun i:Nat=>D.int (1+(i:Int)*7)))]) (asgS (lcS i4 (by simp;omega) c4) rfl)]
    have x5:=gt (st:=setAt 0) (e:=xCall bq (argC (slD (vAt 2) (aP (vAt 0)) (aP (op2 dAdd (vAt 0) (fun _=>some aD)))) (argC (vAt 3) argN))) (ρ:=List.replicate 1 none++[some (.str (txS s)),some (.lst (R.map fun w=>D.str (txS w))),some (.int (m:Nat)),some (.tup [.int (p.1:Nat),.int (p.2:Nat)]),some (.lst ((List.range m).map fun i:Nat=>D.int (1+(i:Int)*7)))]) (fun i:Nat=>D.int (1+(i:Int)*7)) (fun i=>rdM ((R.drop (1+i*7)).take 7) m) Md.d (as:=List.range m) (by
     intro i hi
     have hi':=List.mem_range.mp hi
     have hl:1+i*7+7<=R.length:=by omega
     refine ⟨_,rfl,xcS (arS (slS rfl rfl rfl (sl7 R i hl)) rfl) (jc (fun r hr=>hRs.1 r (List.mem_of_mem_drop (List.mem_of_mem_take hr))) ?_ hm.1 hm.2.1)⟩
     rw [List.length_take,List.length_drop];omega)
    have x6:=lcX_ok (k:=1) (it:=inSeq (vAt 4)) (ds:=(List.range m).map fun i:Nat=>D.int (1+(i:Int)*7)) rfl (by simp;omega) x5
    show ∃ o,_/\retX o=some (toX (((mapT (fun i=>rdM ((R.drop (1+i*7)).take 7) m) (List.range m)).map fun ms=>(⟨p.1,p.2,ms⟩:Bk)).map Bk.d))
    cases hM:mapT (fun i=>rdM ((R.drop (1+i*7)).take 7) m) (List.range m) with
    | none =>
     rw [hM] at x6
     refine ⟨_,xRx (xtE (xaF (xOk (opS rfl rfl rfl)) (xaF (xOk (opS rfl rfl rfl)) (xaE ?_)))),rfl⟩
     unfold xFn
     rw [xaE x6];rfl
    | some ms =>
     rw [hM] at x6
     refine ⟨.ok (.rt (.tup [.int (p.1:Nat),.int (p.2:Nat),.tup (ms.map Md.d)])),xRo (xtO (xaO (xOk (opS rfl rfl rfl)) (xaO (xOk (opS rfl rfl rfl)) (xaO ?_ rfl)))),rfl⟩
     unfold xFn
     rw [xaO x6 rfl];rfl
theorem rdN_is {w:List Nat} {lo hi n:Nat} (h:rdN w lo hi=some n):w=tl n/\lo<=n/\n<=hi:=by
 unfold rdN at h
 have a:=List.find?_some h
 have b:=List.mem_of_find?_eq_some h
 rw [beq_iff_eq] at a
 obtain ⟨k,hk,rfl⟩:=List.mem_map.mp b
 have:=List.mem_range.mp hk
 exact ⟨a,by omega,by omega⟩
theorem rdH_is {row:List Nat} {p:Nat×Nat} (h:rdH row=some p):1<=p.1/\p.1<=9/\p.2<=60/\∀ ms,txS row=hdT ⟨p.1,p.2,ms⟩:=by
 unfold rdH at h
 have hj:=splC_join 32 row
 unfold rdHw at h
 split at h
 ·rename_i a hh b k hs
  split at h
  ·rename_i hc
   cases h1:rdN hh 1 9 with
   | none=>rw [h1] at h;cases h
   | some x =>
    rw [h1] at h
    cases h2:rdN k 0 60 with
    | none=>rw [h2] at h;cases h
    | some y =>
     rw [h2] at h
     cases h
     obtain ⟨e1,l1,u1⟩:=rdN_is h1
     obtain ⟨e2,l2,u2⟩:=rdN_is h2
     refine ⟨l1,u1,u2,fun ms=>?_⟩
     rw [hd_glued,of_sg "hold",of_sg "back",of_tl x,of_tl y,<- hj,hs,<- glueC,hc.1,hc.2,e1,e2,blank_eq]
     rfl
  ·cases h
 ·cases h
theorem rdMh_is {row:List Nat} {p:Face×Bool} (h:rdMh row=some p):txS row=mhT p.1 p.2:=by
 have a:=List.find?_some h
 rw [beq_iff_eq] at a
 rw [a,<- txS_of]
theorem pw_glued (p:Str) (r:Deed×Nat):pwT p r=Builtin.Str.glued blankS [p,r.1.x,tx r.2]:=by
 apply mk_cps
 show _=(List.foldl (fun acc p=>acc++blankS.cps++p.cps) p.cps [r.1.x,tx r.2]).toList
 rw [glued_cps,blank_eq]
 have e:(Str.ofString " ").cps.toList=[32]:=by decide +kernel
 unfold pwT
 rw [cps_app,cps_app,cps_app,cps_app,e]
 simp
theorem rdP_is {p row:List Nat} {many:Nat} {r:Deed×Nat} (h1:1<=many) (h:rdP p row many=some r):txS row=pwT (txS p) r/\r.2<many:=by
 unfold rdP at h
 have hj:=splC_join 32 row
 unfold rdPw at h
 split at h
 ·rename_i a d n hs
  split at h
  ·rename_i ha
   cases e1:rdD d with
   | none=>rw [e1] at h;cases h
   | some k =>
    rw [e1] at h
    cases e2:rdN n 0 (many - 1) with
    | none=>rw [e2] at h;cases h
    | some m =>
     rw [e2] at h
     cases h
     obtain ⟨q1,_,u1⟩:=rdN_is e2
     refine ⟨?_,by show m<many;omega⟩
     show _=pwT (txS p) (k,m)
     rw [pw_glued]
     show _=Builtin.Str.glued blankS [txS p,k.x,tx (m:Nat)]
     rw [rdD_x e1,of_tl m,<- hj,hs,<- glueC,ha,q1,blank_eq]
     rfl
  ·cases h
 ·cases h
theorem mapT_is {α β:Type} {g:α->Option β}:∀ {as:List α} {bs:List β},mapT g as=some bs->bs.length=as.length/\∀ (i:Nat) (h1:i<as.length) (h2:i<bs.length),g as[i]=some bs[i]
 | [],bs,h=>by cases h;exact ⟨rfl,fun i h1=>by cases h1⟩
 | a::as,bs,h=>by
  unfold mapT at h
  cases hg:g a with
  | none=>rw [hg] at h;cases h
  | some b =>
   rw [hg] at h
   cases hm:mapT g as with
   | none=>rw [hm] at h;cases h
   | some cs =>
    rw [hm] at h
    cases h
    obtain ⟨l,q⟩:=mapT_is hm
    refine ⟨by simp [l],fun i h1 h2=>?_⟩
    cases i with
    | zero=>exact hg
    | succ i=>exact q i (by simpa using h1) (by simpa using h2)
theorem pr_get {i:Nat} (h:i<6):txS (prl i)=prs.getD i (Str.ofString ""):=(txS_of _).symm
theorem rdM_is {rs:List (List Nat)} {many:Nat} {m:Md} (h7:rs.length=7) (h1:1<=many) (h:rdM rs many=some m):rs.map txS=mrT m/\m.Ok many:=by
 unfold rdM at h
 cases hM:rdMh (rs.getD 0 []) with
 | none=>rw [hM] at h;cases h
 | some p =>
  rw [hM] at h
  cases hP:mapT (fun i=>rdP (prl i) (rs.getD (i+1) []) many) (List.range 6) with
  | none=>rw [hP] at h;cases h
  | some rows =>
   rw [hP] at h
   cases h
   obtain ⟨l,q⟩:=mapT_is hP
   rw [List.length_range] at l
   obtain ⟨a0,a1,a2,a3,a4,a5,rfl⟩:=six_of l
   have q':∀ i (hi:i<6),rdP (prl i) (rs.getD (i+1) []) many=some ([a0,a1,a2,a3,a4,a5][i]'hi):=fun i hi=>by
    have:=q i (by simpa using hi) hi
    rw [List.getElem_range] at this
    exact this
   match rs,h7 with
   | [r0,r1,r2,r3,r4,r5,r6],_ =>
    have z0:=rdP_is h1 (q' 0 (by decide))
    have z1:=rdP_is h1 (q' 1 (by decide))
    have z2:=rdP_is h1 (q' 2 (by decide))
    have z3:=rdP_is h1 (q' 3 (by decide))
    have z4:=rdP_is h1 (q' 4 (by decide))
    have z5:=rdP_is h1 (q' 5 (by decide))
    rw [pr_get (by decide)] at z0 z1 z2 z3 z4 z5
    have zh:=rdMh_is hM
    refine ⟨?_,rfl,fun r hr=>?_⟩
    ·show [txS r0,txS r1,txS r2,txS r3,txS r4,txS r5,txS r6]=mhT p.1 p.2::List.zipWith pwT prs [a0,a1,a2,a3,a4,a5]
     have e0:txS r0=mhT p.1 p.2:=zh
     have e1:txS r1=pwT (Str.ofString "a") a0:=z0.1
     have e2:txS r2=pwT (Str.ofString "b") a1:=z1.1
     have e3:txS r3=pwT (Str.ofString "c") a2:=z2.1
     have e4:txS r4=pwT (Str.ofString "A") a3:=z3.1
     have e5:txS r5=pwT (Str.ofString "B") a4:=z4.1
     have e6:txS r6=pwT (Str.ofString "C") a5:=z5.1
     rw [e0,e1,e2,e3,e4,e5,e6]
     rfl
    ·have hr':r ∈ [a0,a1,a2,a3,a4,a5]:=hr
     simp only [List.mem_cons,List.not_mem_nil,or_false] at hr'
     rcases hr' with rfl | rfl | rfl | rfl | rfl | rfl
     ·exact z0.2
     ·exact z1.2
     ·exact z2.2
     ·exact z3.2
     ·exact z4.2
     ·exact z5.2
theorem chunks {f:Md->List Str}:∀ {ms:List Md} {L:List Str},L.length=ms.length*7->(∀ (i:Nat) (h:i<ms.length),(L.drop (i*7)).take 7=f ms[i])->L=ms.flatMap f
 | [],L,h,_=>by rw [List.length_nil,Nat.zero_mul] at h;rw [List.length_eq_zero_iff.mp h];rfl
 | m::ms,L,h,hf=>by
  have h0:=hf 0 (by simp)
  rw [Nat.zero_mul,List.drop_zero] at h0
  have ih:=chunks (ms:=ms) (L:=L.drop 7) (f:=f) (by rw [List.length_drop,h,List.length_cons];omega) fun i hi=>by
   have:=hf (i+1) (by simpa using hi)
   rw [List.drop_drop,show 7+i*7=(i+1)*7 by omega]
   exact this
  rw [List.flatMap_cons,<- ih,show f m=L.take 7 from h0.symm,List.take_append_drop]
theorem flat_join10 (R:List (List Nat)):R.flatMap (fun r=>r++[10])=joinL 10 (R++[[]]):=by
 induction R with
 | nil=>rfl
 | cons r R ih =>
  rw [List.flatMap_cons,ih]
  cases R with
  | nil=>simp [joinL]
  | cons r2 R =>
   show r++[10]++joinL 10 (r2::(R++[[]]))=joinL 10 (r::r2::(R++[[]]))
   rw [joinL_cons];simp
theorem rdB_is {s:List Nat} {b:Bk} (h:rdB s=some b):b.Ok/\bookT b=txS s:=by
 unfold rdB at h
 cases hR:rdR s with
 | none=>rw [hR] at h;cases h
 | some R =>
  rw [hR] at h
  replace h:((rdC R.length).bind fun m=>(rdH (R.getD 0 [])).bind fun h=>(mapT (fun i=>rdM ((R.drop (1+i*7)).take 7) m) (List.range m)).map fun ms=>(⟨h.1,h.2,ms⟩:Bk))=some b:=h
  cases hC:rdC R.length with
  | none=>rw [hC] at h;cases h
  | some m =>
   rw [hC] at h
   replace h:((rdH (R.getD 0 [])).bind fun h=>(mapT (fun i=>rdM ((R.drop (1+i*7)).take 7) m) (List.range m)).map fun ms=>(⟨h.1,h.2,ms⟩:Bk))=some b:=h
   have hm:1<=m/\m<=8/\R.length=1+m*7:=by
    unfold rdC at hC
    split at hC
    ·cases hC;assumption
    ·cases hC
   cases hH:rdH (R.getD 0 []) with
   | none=>rw [hH] at h;cases h
   | some p =>
    rw [hH] at h
    replace h:((mapT (fun i=>rdM ((R.drop (1+i*7)).take 7) m) (List.range m)).map fun ms=>(⟨p.1,p.2,ms⟩:Bk))=some b:=h
    cases hM:mapT (fun i=>rdM ((R.drop (1+i*7)).take 7) m) (List.range m) with
    | none=>rw [hM] at h;cases h
    | some ms =>
     rw [hM] at h
     cases h
     obtain ⟨l,q⟩:=mapT_is hM
     rw [List.length_range] at l
     obtain ⟨p1,p2,p3,p4⟩:=rdH_is hH
     have q':∀ i (hi:i<ms.length),((R.drop (1+i*7)).take 7).map txS=mrT ms[i]/\ms[i].Ok m:=fun i hi=>by
      have:=q i (by rw [List.length_range];omega) hi
      rw [List.getElem_range] at this
      exact rdM_is (by rw [List.length_take,List.length_drop];omega) hm.1 this
     refine ⟨⟨by show (1:Int)<=(p.1:Nat);omega,by show ((p.1:Nat):Int)<=9;omega,by show (0:Int)<=(p.2:Nat);omega,by show ((p.2:Nat):Int)<=60;omega,by show 1<=ms.length;omega,by show ms.length<=8;omega,fun x hx=>?_⟩,?_⟩
     ·obtain ⟨i,hi,rfl⟩:=List.getElem_of_mem hx
      rw [show (⟨p.1,p.2,ms⟩:Bk).modes.length=m from l]
      exact (q' i hi).2
     ·have hb:btT ⟨p.1,p.2,ms⟩=R.map txS:=by
       obtain ⟨r,R',rfl⟩:∃ r R',R=r::R':=by
        cases R with
        | nil=>have:=hm.2.2;rw [List.length_nil] at this;omega
        | cons r R'=>exact ⟨r,R',rfl⟩
       have hl:(r::R').length=1+m*7:=hm.2.2
       have hc:R'.map txS=ms.flatMap mrT:=chunks (by rw [List.length_map];simp at hl;omega) fun i hi=>by
        have:=(q' i hi).1
        rw [show 1+i*7=i*7+1 by omega,List.drop_succ_cons,List.map_take,List.map_drop] at this
        exact this
       show hdT ⟨p.1,p.2,ms⟩::ms.flatMap mrT=txS r::R'.map txS
       rw [hc,<- p4 ms]
       rfl
      unfold bookT
      rw [hb]
      apply mk_cps
      rw [flat_cps,List.flatMap_map]
      have e1:(R.flatMap fun r=>(txS r).cps.toList++[10])=R.flatMap fun r=>r++[10]:=by simp [txS]
      have e2:splC 10 s=R++[[]]:=by
       unfold rdR at hR
       split at hR
       ·rename_i hl
        cases hR
        have hn:=splC_ne 10 s
        have:=List.dropLast_concat_getLast hn
        rw [List.getLastD_eq_getLast?,List.getLast?_eq_getLast hn] at hl
        have hl':(splC 10 s).getLast hn=[]:=hl
        rw [hl'] at this
        exact this.symm
       ·cases hR
      rw [e1,flat_join10,<- e2,splC_join]
theorem mK (n:Int):bK [.int n]=some (.bl true):=viaS (retS (anV rfl rfl))
theorem ou {n l:Int} (h:l<=n):bV [.int n,.int l]=some (.bl true):=viaS (retS (anV (callS rfl (mK n)) (asS (cmS rfl rfl (dT h)))))
theorem gj {n l m:Int} (h:l<=n) (h2:n<=m):aZ [.int n,.int l,.int m]=some (.bl true):=viaS (retS (anV (callS rfl (ou h)) (asS (cmS rfl rfl (dT h2)))))
theorem lenT (xs:List D):fLen [.tup xs]=some (.int xs.length):=by simp
theorem fU {xs:List D} {n:Int} (h:(xs.length:Int)=n):aA [.tup xs,.int n]=some (.bl true):=viaS (retS (anV rfl (asS (cmS (callS rfl (lenT xs)) rfl (by rw [h];exact eqI n)))))
theorem mJ (b:Bool):bG [.bl b]=some (.bl true):=viaS (retS rfl)
theorem nn {w:Str} {ws:D} (h:cIn (.str w) ws=some true):be [.str w,ws]=some (.bl true):=viaS (retS (anV rfl (asS (cmS rfl rfl h))))
theorem deed_is (k:Deed):cIn (.str k.x) cu=some true:=by cases k<;>decide +kernel
theorem face_is (f:Face):cIn (.str f.x) dA=some true:=by cases f<;>decide +kernel
theorem oH {r:Deed×Nat} {many:Nat} (h:r.2<many):cj [rowD r,.int many]=some (.bl true):=by
 have em:dSub (.int (many:Int)) (.int 1)=some (.int ((many:Int) - 1)):=rfl
 exact viaS (retS (anV (callS rfl (fU rfl)) (anV (callS (arS (opS rfl rfl rfl) rfl) (nn (deed_is r.1))) (callS (arS (opS rfl rfl rfl) (arS rfl (arS (opS rfl rfl em) rfl))) (gj (by omega) (by omega))))))
theorem all_true {α:Type} (as:List α):fAll [.lst (as.map fun _=>D.bl true)]=some (.bl true):=by
 have h:∀ as:List α,bools (as.map fun _=>D.bl true)=some (as.map fun _=>true):=fun as=>by
  induction as with
  | nil=>rfl
  | cons a as ih=>show (bools (as.map fun _=>D.bl true)).map _=_;rw [ih];rfl
 show (bools (as.map fun _=>D.bl true)).map _=_
 rw [h]
 show some (D.bl ((as.map fun _=>true).all id))=_
 congr 2
 induction as with
 | nil=>rfl
 | cons a as ih=>simpa using ih
theorem oh {rows:List (Deed×Nat)} {many:Nat} (h6:rows.length=6) (h:∀ r∈rows,r.2<many):bM [.tup (rows.map rowD),.int many]=some (.bl true):=by
 have hc:compD (setAt 0) yesT (callD cj (argC (vAt 0) (argC (vAt 2) argN))) (rows.map rowD) (List.replicate 1 none++[some (.tup (rows.map rowD)),some (.int many)])=some (rows.map fun _=>D.bl true):=c_ _ _ fun r hr=>⟨_,rfl,callS rfl (oH (h r hr))⟩
 have ht:=fU (xs:=rows.map rowD) (n:=6) (by rw [List.length_map,h6];rfl)
 exact viaS ((seqN ((ifF (ntS (b:=true) (truS (callS rfl ht)))).trans rfl)).trans (retS (callS (arS (lcS rfl (by rw [List.length_map];omega) hc) rfl) (all_true rows))))
theorem nY {m:Md} {many:Nat} (h:m.Ok many):bP [m.d,.int many]=some (.bl true) :=
 viaS ((seqN ((ifF (ntS (b:=true) (truS (callS rfl (fU (n:=3) rfl))))).trans rfl)).trans (retS (anV (callS (arS (opS rfl rfl rfl) rfl) (nn (face_is m.face))) (anV (callS (arS (opS rfl rfl rfl) rfl) (mJ m.stays)) (callS (arS (opS rfl rfl rfl) rfl) (oh h.six h.nx))))))
theorem mU {ms:List Md} (h1:1<=ms.length) (h8:ms.length<=8) (h:∀ m∈ms,m.Ok ms.length):bw [.tup (ms.map Md.d)]=some (.bl true):=by
 have hl:fLen [.tup (ms.map Md.d)]=some (.int ms.length):=by rw [lenT,List.length_map]
 have hc:compD (setAt 0) yesT (callD bP (argC (vAt 0) (argC (callD fLen (argC (vAt 1) argN)) argN))) (ms.map Md.d) (List.replicate 1 none++[some (.tup (ms.map Md.d))])=some (ms.map fun _=>D.bl true):=c_ _ _ fun m hm=>⟨_,rfl,callS (arS rfl (arS (callS rfl hl) rfl)) (nY (h m hm))⟩
 have h3:cmp3 cLe cLe (fun _=>some (.int 1)) (callD fLen (argC (vAt 0) argN)) (fun _=>some aX) [some (.tup (ms.map Md.d))]=some true:=by
  have e:callD fLen (argC (vAt 0) argN) [some (.tup (ms.map Md.d))]=some (.int ms.length):=callS rfl hl
  show ((some (D.int 1)).bind fun x=>(callD fLen (argC (vAt 0) argN) [some (.tup (ms.map Md.d))]).bind fun y=>(cLe x y).bind fun b=>if b then (some aX).bind fun z=>cLe y z else some false)=_
  rw [e]
  show (if decide ((1:Int)<=ms.length)=true then some (decide ((ms.length:Int)<=8)) else some false)=_
  rw [if_pos (by simp;omega)]
  congr 1
  simp;omega
 exact viaS ((seqN ((ifF (orF (ntS (b:=true) (truS rfl)) (ntS (b:=true) h3))).trans rfl)).trans (retS (callS (arS (lcS rfl (by rw [List.length_map];omega) hc) rfl) (all_true ms))))
theorem oq {b:Bk} (h:b.Ok):ce [b.d]=some (.bl true) :=
 viaS ((seqN ((ifF (ntS (b:=true) (truS (callS rfl (fU (n:=3) rfl))))).trans rfl)).trans (retS (anV (callS (arS (opS rfl rfl rfl) rfl) (gj h.hold1 h.hold9)) (anV (callS (arS (opS rfl rfl rfl) rfl) (gj h.back0 h.back60)) (callS (arS (opS rfl rfl rfl) rfl) (mU h.some1 h.some8 h.all))))))
theorem addM (a b:List Nat) (h:a.length+b.length<=1000000):dAdd (.str (txS a)) (.str (txS b))=some (.str (txS (a++b))):=by
 rw [addZ (by rw [txS_len,txS_len];omega)]
 congr 2
 show Str.mk _=Str.mk _
 simp
theorem gk {α:Type} {f:α->D} (h:∀ a,nob (f a)=true):∀ as:List α,nobs (as.map f)=true
 | []=>rfl
 | a::as=>by show (nob (f a)&&nobs (as.map f))=true;rw [h a,gk h as];rfl
theorem nV (m:Md):nob m.d=true:=by
 show (true&&(true&&(nobs (m.rows.map rowD)&&true)))=true
 rw [gk (fun r=>rfl)];rfl
theorem oj (b:Bk):nob b.d=true:=by
 show (true&&(true&&(nobs (b.modes.map Md.d)&&true)))=true
 rw [gk nV];rfl
theorem isC_at {e:Nat} {b:Bool} {ρ:R} (h:vAt 2 ρ=some (.obj 9 e [] [])):isCD 2 e b ρ=some (.bl b):=by
 unfold isCD
 rw [h]
 show (if e=e then some (D.bl b) else none)=_
 rw [if_pos rfl]
theorem stS {f:R->Option D} {l h:R->Option (Option Int)} {ρ:R} {x d:D} {a b:Option Int} (h1:f ρ=some x) (h2:l ρ=some a) (h3:h ρ=some b) (h4:dSlS x a b=some d):slT f l h ρ=some d:=by simp only [slT,h1,h2,h3,Option.bind_some,h4]
theorem cutT (l:List Nat) (k:Nat) (h:l.length<=60000):dSlS (.str (txS l)) none (some (k:Int))=some (.str (txS (l.take k))):=by
 have z:=PySem.sizeLine_eq
 show (if (txS l).length<=sizeLine then _ else none)=_
 rw [txS_len,if_pos (by omega),sl_take]
theorem cutF (l:List Nat) (k:Nat) (h:l.length<=60000):dSlS (.str (txS l)) (some (k:Int)) none=some (.str (txS (l.drop k))):=by
 have z:=PySem.sizeLine_eq
 show (if (txS l).length<=sizeLine then _ else none)=_
 rw [txS_len,if_pos (by omega),sl_drop]
theorem ixS (l:List Nat) (k c:Nat) (h:l.length<=1000) (e:l[k]?=some c):dIx (.str (txS l)) (.int (k:Int))=some (.str (txS [c])):=by
 have z:1000<=sizeLine:=by decide
 have hk:k<l.length:=(List.getElem?_eq_some_iff.mp e).1
 show (if (txS l).length<=sizeLine then ((ixD (txS l).length (k:Int)).bind fun j=>(txS l).cps.toList[j]?).map (fun c=>D.str ⟨#[c]⟩) else none)=_
 rw [txS_len,if_pos (by omega)]
 have e2:ixD l.length (k:Int)=some k:=by
  unfold ixD
  simp [hk]
 rw [e2]
 simp [txS,e]
structure Bd (n:Nat) (s:List Nat):Prop where
 asc:∀ c∈s,c<128
 len:s.length<=n
theorem Bd.sm {n:Nat} {s:List Nat} (h:Bd n s) (hn:n<=60000):Sm s:=⟨h.asc,by have:=h.len;omega⟩
theorem Bd.take {n k:Nat} {s:List Nat} (h:Bd n s):Bd n (s.take k):=⟨fun c hc=>h.asc c (List.mem_of_mem_take hc),by have:=h.len;rw [List.length_take];omega⟩
theorem Bd.edit {n k j:Nat} {s x:List Nat} (h:Bd n s) (hx:Bd 1 x) (hj:k<=j):Bd (n+1) (s.take k++x++s.drop j):=by
 refine ⟨fun c hc=>?_,?_⟩
 ·rcases List.mem_append.mp hc with hc | hc
  ·rcases List.mem_append.mp hc with hc | hc
   ·exact h.asc c (List.mem_of_mem_take hc)
   ·exact hx.asc c hc
  ·exact h.asc c (List.mem_of_mem_drop hc)
 ·have:=h.len;have:=hx.len
  rw [List.length_append,List.length_append,List.length_take,List.length_drop];omega
theorem joinL_bd {ws:List (List Nat)} (h:∀ w∈ws,∀ c∈w,c<128):∀ c∈joinL 10 ws,c<128:=by
 cases ws with
 | nil=>intro c hc;cases hc
 | cons w ws =>
  intro c hc
  rcases List.mem_append.mp (show c∈w++ws.flatMap (10::·) from hc) with hc | hc
  ·exact h w List.mem_cons_self c hc
  ·obtain ⟨v,hv,hc⟩:=List.mem_flatMap.mp hc
   rcases List.mem_cons.mp hc with rfl | hc
   ·decide
   ·exact h v (List.mem_cons_of_mem _ hv) c hc
theorem joinL_sz (ws:List (List Nat)):(joinL 10 ws).length+1<=(ws.map fun w=>w.length+1).sum+(if ws=[] then 1 else 0):=by
 cases ws with
 | nil=>simp [joinL]
 | cons w ws =>
  have e:∀ ws:List (List Nat),(ws.flatMap (10::·)).length=(ws.map fun w=>w.length+1).sum:=fun ws=>by
   induction ws with
   | nil=>rfl
   | cons v ws ih=>rw [List.flatMap_cons,List.length_append,ih,List.map_cons,List.sum_cons,List.length_cons]
  show (w++ws.flatMap (10::·)).length+1<=_
  rw [List.length_append,e,List.map_cons,List.sum_cons]
  simp;omega
theorem joinL_szE (ws:List (List Nat)) (h:ws ≠ []):(joinL 10 ws).length+1=(ws.map fun w=>w.length+1).sum:=by
 cases ws with
 | nil=>exact absurd rfl h
 | cons w ws =>
  have e:∀ ws:List (List Nat),(ws.flatMap (10::·)).length=(ws.map fun w=>w.length+1).sum:=fun ws=>by
   induction ws with
   | nil=>rfl
   | cons v ws ih=>rw [List.flatMap_cons,List.length_append,ih,List.map_cons,List.sum_cons,List.length_cons]
  show (w++ws.flatMap (10::·)).length+1=_
  rw [List.length_append,e,List.map_cons,List.sum_cons]
  omega
def cutL (ws:List (List Nat)) (lo hi:Option Int):List (List Nat):=(ws.drop (cutP ws.length 0 lo)).take (cutP ws.length ws.length hi - cutP ws.length 0 lo)
abbrev dd (w:List Nat):D:=.str (txS w)
theorem dSl_L (ws:List (List Nat)) (lo hi:Option Int):dSl (.lst (ws.map dd)) lo hi=some (.lst ((cutL ws lo hi).map dd)):=by
 show some (D.lst (cutD (ws.map dd) lo hi))=_
 unfold cutD cutL
 rw [List.length_map,<- List.map_drop,<- List.map_take]
abbrev szW (ws:List (List Nat)):Nat:=(ws.map fun w=>w.length+1).sum
theorem szW_app (a b:List (List Nat)):szW (a++b)=szW a+szW b:=by simp [szW]
theorem cutL_sz (ws:List (List Nat)) (lo hi:Option Int):szW (cutL ws lo hi)<=szW ws/\(cutL ws lo hi).length<=ws.length/\∀ w∈cutL ws lo hi,w∈ws:=by
 have h1:∀ (l:List (List Nat)) (k:Nat),szW (l.take k)<=szW l:=fun l k=>by
  have:=szW_app (l.take k) (l.drop k)
  rw [List.take_append_drop] at this;omega
 have h2:∀ (l:List (List Nat)) (k:Nat),szW (l.drop k)<=szW l:=fun l k=>by
  have:=szW_app (l.take k) (l.drop k)
  rw [List.take_append_drop] at this;omega
 unfold cutL
 refine ⟨Nat.le_trans (h1 _ _) (h2 _ _),?_,fun w hw=>List.mem_of_mem_drop (List.mem_of_mem_take hw)⟩
 rw [List.length_take,List.length_drop];omega
theorem addL {a b:List (List Nat)} (h:a.length+b.length<=1000000):dAdd (.lst (a.map dd)) (.lst (b.map dd))=some (.lst ((a++b).map dd)):=by
 have hz:=PySem.sizeLine_eq
 show (if (a.map dd).length+(b.map dd).length<=sizeLine then some (D.lst (a.map dd++b.map dd)) else none)=_
 rw [List.length_map,List.length_map,if_pos (by omega),List.map_append]
theorem ll (ws:List (List Nat)):ws.length<=szW ws:=by
 induction ws with
 | nil=>simp [szW]
 | cons w ws ih=>simp only [szW,List.map_cons,List.sum_cons,List.length_cons] at ih ⊢;omega
theorem joinN {vs:List (List Nat)} (h:szW vs<=1000000):fJoin [.str (Str.ofString "\n"),.lst (vs.map dd)]=some (.str (txS (joinL 10 vs))):=by
 have hz:=PySem.sizeLine_eq
 have hs:strsD (vs.map dd)=some (vs.map txS):=by
  have:=strsD_map (vs.map txS)
  rw [List.map_map] at this
  exact this
 have f:∀ (ws:List (List Nat)) (acc:Nat),(ws.map txS).foldl (fun n x=>n+x.length+(Str.ofString "\n").length) acc=acc+szW ws:=by
  intro ws
  induction ws with
  | nil=>intro acc;simp [szW]
  | cons w ws ih =>
   intro acc
   have e1:(Str.ofString "\n").length=1:=by decide +kernel
   have e2:(txS w).length=w.length:=txS_len w
   rw [List.map_cons,List.foldl_cons,ih,e1,e2]
   simp only [szW,List.map_cons,List.sum_cons]
   omega
 show (strsD (vs.map dd)).bind (fun xs=>(joinS (Str.ofString "\n") xs).map D.str)=_
 rw [hs]
 show (joinS (Str.ofString "\n") (vs.map txS)).map D.str=_
 have hg:Builtin.Str.glued (Str.ofString "\n") (vs.map txS)=txS (joinL 10 vs):=by rw [of_nl];exact glueC 10 vs
 have hl:=joinL_sz vs
 unfold joinS
 rw [hg,if_pos]
 ·rfl
 ·constructor
  ·rw [List.foldl_toArray,f];omega
  ·rw [txS_len]
   have:(if vs=[] then 1 else 0)<=1:=by split<;>omega
   have:(vs.map fun w=>w.length+1).sum=szW vs:=rfl
   omega
theorem Bd.mono {n m:Nat} {s:List Nat} (h:Bd n s) (hn:n<=m):Bd m s:=⟨h.asc,Nat.le_trans h.len hn⟩
theorem nm_le (n:Nat):n<=60->∀ c∈tl n,c<128:=fun h c hc=>by
 have:(List.range 61).all (fun n=>(tl n).all fun c=>decide (c<128))=true:=by decide +kernel
 have:=List.all_eq_true.mp this n (by simpa using by omega)
 exact of_decide_eq_true (List.all_eq_true.mp this c hc)
theorem nT (k:Deed):∀ c∈dl k,c<128:=by cases k<;>decide +kernel
theorem mh_asc (f:Face) (b:Bool):∀ c∈(mhT f b).cps.toList,c<128:=by cases f<;>cases b<;>decide +kernel
theorem pr_asc:∀ p∈prs,∀ c∈p.cps.toList,c<128:=by
 intro p hp
 simp only [prs,List.mem_cons,List.not_mem_nil,or_false] at hp
 rcases hp with rfl | rfl | rfl | rfl | rfl | rfl<;>decide +kernel
theorem joinA {k:Nat} (hk:k<128) {ws:List (List Nat)} (h:∀ w∈ws,∀ c∈w,c<128):∀ c∈joinL k ws,c<128:=by
 cases ws with
 | nil=>intro c hc;cases hc
 | cons w ws =>
  intro c hc
  rcases List.mem_append.mp (show c∈w++ws.flatMap (k::·) from hc) with hc | hc
  ·exact h w List.mem_cons_self c hc
  ·obtain ⟨v,hv,hc⟩:=List.mem_flatMap.mp hc
   rcases List.mem_cons.mp hc with rfl | hc
   ·exact hk
   ·exact h v (List.mem_cons_of_mem _ hv) c hc
theorem bt_asc {b:Bk} (h:b.Ok):∀ r∈btT b,∀ c∈r.cps.toList,c<128:=by
 obtain ⟨ho,ba,ms⟩:=b
 obtain ⟨x,rfl⟩:∃ x:Nat,ho=x:=⟨ho.toNat,by have:(1:Int)<=ho:=h.hold1;omega⟩
 obtain ⟨y,rfl⟩:∃ y:Nat,ba=y:=⟨ba.toNat,by have:(0:Int)<=ba:=h.back0;omega⟩
 have x9:(x:Int)<=9:=h.hold9
 have y6:(y:Int)<=60:=h.back60
 have m8:ms.length<=8:=h.some8
 intro r hr
 rcases List.mem_cons.mp (show r∈hdT ⟨x,y,ms⟩::ms.flatMap mrT from hr) with rfl | hr
 ·have e:(hdT ⟨x,y,ms⟩).cps.toList=joinL 32 [sg "hold",tl x,sg "back",tl y]:=by
   rw [hd_glued,blank_eq,glued_join];rfl
  rw [e]
  refine joinA (by decide) fun w hw=>?_
  simp only [List.mem_cons,List.not_mem_nil,or_false] at hw
  rcases hw with rfl | rfl | rfl | rfl
  ·decide +kernel
  ·exact nm_le x (by omega)
  ·decide +kernel
  ·exact nm_le y (by omega)
 ·obtain ⟨m,hm,hr⟩:=List.mem_flatMap.mp hr
  have ok:m.Ok ms.length:=h.all m hm
  rcases List.mem_cons.mp (show r∈mhT m.face m.stays::List.zipWith pwT prs m.rows from hr) with rfl | hr
  ·exact mh_asc _ _
  ·have:∃ p q,p∈prs/\q∈m.rows/\r=pwT p q:=by
    have go:∀ (ps:List Str) (qs:List (Deed×Nat)),r∈List.zipWith pwT ps qs->∃ p q,p∈ps/\q∈qs/\r=pwT p q:=by
     intro ps
     induction ps with
     | nil=>intro qs h;cases h
     | cons p ps ih =>
      intro qs h
      cases qs with
      | nil=>cases h
      | cons q qs =>
       rcases List.mem_cons.mp (show r∈pwT p q::List.zipWith pwT ps qs from h) with h | h
       ·exact ⟨p,q,List.mem_cons_self,List.mem_cons_self,h⟩
       ·obtain ⟨p',q',a,b,c⟩:=ih qs h
        exact ⟨p',q',List.mem_cons_of_mem _ a,List.mem_cons_of_mem _ b,c⟩
    exact go _ _ hr
   obtain ⟨p,q,hp,hq,rfl⟩:=this
   have e:(pwT p q).cps.toList=joinL 32 [p.cps.toList,dl q.1,tl q.2]:=by
    rw [pw_glued,blank_eq,glued_join];rfl
   rw [e]
   refine joinA (by decide) fun w hw=>?_
   simp only [List.mem_cons,List.not_mem_nil,or_false] at hw
   rcases hw with rfl | rfl | rfl
   ·exact pr_asc p hp
   ·exact nT q.1
   ·exact nm_le q.2 (by have:=ok.nx q hq;omega)
theorem mR {b:Bk} (h:b.Ok):Bd 1300 (bookT b).cps.toList:=by
 refine ⟨fun c hc=>?_,?_⟩
 ·unfold bookT at hc
  rw [flat_cps] at hc
  obtain ⟨r,hr,hc⟩:=List.mem_flatMap.mp hc
  rcases List.mem_append.mp hc with hc | hc
  ·exact bt_asc h r hr c hc
  ·rw [List.mem_singleton.mp hc];decide
 ·have:=bookT_len h
  have e:(bookT b).cps.toList.length=(bookT b).length:=by simp;rfl
  omega
theorem of_plus:Str.ofString "+" = txS [43]:=by decide +kernel
theorem of_minus:Str.ofString "-" = txS [45]:=by decide +kernel
theorem of_dot:Str.ofString "." = txS [46]:=by decide +kernel
theorem of_zero:Str.ofString "0" = txS [48]:=by decide +kernel
theorem of_none:Str.ofString "" = txS []:=by decide +kernel
theorem of_a:Str.ofString "a" = txS [97]:=by decide +kernel
theorem of_b:Str.ofString "b" = txS [98]:=by decide +kernel
theorem of_c:Str.ofString "c" = txS [99]:=by decide +kernel
def btnOf:List Nat->Option Btn
 | [97]=>some .a
 | [98]=>some .b
 | [99]=>some .c
 | _=>none
theorem btn_x {r:List Nat} {x:Btn} (h:btnOf r=some x):x.x=txS r:=by
 unfold btnOf at h
 split at h
 ·cases h;exact of_a
 ·cases h;exact of_b
 ·cases h;exact of_c
 ·cases h
theorem inB (r:List Nat):cIn (.str (txS r)) cz=some (btnOf r).isSome:=by
 have e:cIn (.str (txS r)) cz=some ([97]==r||([98]==r||([99]==r||false))):=by
  rw [<- txS_eq,<- txS_eq,<- txS_eq,<- of_a,<- of_b,<- of_c];rfl
 rw [e]
 congr 1
 by_cases h1:r=[97]
 ·subst h1;rfl
 by_cases h2:r=[98]
 ·subst h2;rfl
 by_cases h3:r=[99]
 ·subst h3;rfl
 have:btnOf r=none:=by
  unfold btnOf
  split
  ·exact absurd rfl h1
  ·exact absurd rfl h2
  ·exact absurd rfl h3
  ·rfl
 rw [this]
 simp [Ne.symm h1,Ne.symm h2,Ne.symm h3]
def isM (r:List Nat):Bool:=!r.isEmpty&&r.head? != some 48&&r.all isFig
def wordE:List Nat->Option Ev
 | 43::r=>(btnOf r).map .down
 | 45::r=>(btnOf r).map .up
 | 46::r=>if isM r then some (.ticks (vl r)) else none
 | _=>none
theorem fig_in:(List.range 128).all (fun c=>(!(Builtin.Str.occurrences (Str.ofString "0123456789") (txS [c]) 0 (Str.ofString "0123456789").length 1).isEmpty)==isFig c)=true:=by decide +kernel
theorem inF {c:Nat} (h:c<128):cInT (.str (txS [c])) (.str (Str.ofString "0123456789"))=some (isFig c):=by
 have:=List.all_eq_true.mp fig_in c (by simpa using h)
 rw [beq_iff_eq] at this
 show some (!(Builtin.Str.occurrences _ _ 0 _ 1).isEmpty)=_
 rw [this]
theorem seqC (l:List Nat) (h:∀ c∈l,c<128) {f:R->Option D} {ρ:R} (e:f ρ=some (.str (txS l))):inSeq f ρ=some (l.map fun c=>D.str (txS [c])):=by
 show (f ρ).bind _=_
 rw [e]
 show (if (txS l).cps.all (·<128) then some (chars (txS l)) else none)=_
 rw [if_pos (by simpa [txS] using h)]
 rfl
theorem bools_mp {α:Type} (f:α->Bool):∀ l:List α,bools (l.map fun a=>D.bl (f a))=some (l.map f)
 | []=>rfl
 | a::l=>by
  show (bools (l.map fun a=>D.bl (f a))).map _=_
  rw [bools_mp f l];rfl
theorem ixZ (l:List Nat) (k c:Nat) (h:l.length<=60000) (e:l[k]?=some c):dIx (.str (txS l)) (.int (k:Int))=some (.str (txS [c])):=by
 have z:=PySem.sizeLine_eq
 have hk:k<l.length:=(List.getElem?_eq_some_iff.mp e).1
 show (if (txS l).length<=sizeLine then ((ixD (txS l).length (k:Int)).bind fun j=>(txS l).cps.toList[j]?).map (fun c=>D.str ⟨#[c]⟩) else none)=_
 rw [txS_len,if_pos (by omega)]
 have e2:ixD l.length (k:Int)=some k:=by
  unfold ixD
  simp [hk]
 rw [e2]
 simp [txS,e]
theorem lcZ {k:Nat} {it:R->Option (List D)} {st:D->R->Option R} {c:R->Option Bool} {e:R->Option D} {ρ:R} {ds out:List D} (h1:it ρ=some ds) (hz:ds.length<=100000) (h2:compD st c e ds (List.replicate k none++ρ)=some out) :
  lcD k it st c e ρ=some (.lst out):=by
 have z:=PySem.sizeLine_eq
 unfold lcD
 rw [h1]
 show (if ds.length<=sizeLine then _ else none)=_
 rw [if_pos (by omega),h2];rfl
theorem lD {r:List Nat} (h:∀ c∈r,c<128) (hl:r.length<=60000):b_ [.str (txS r)]=some (.bl (isM r)):=by
 have hz:1000<=sizeLine:=by decide
 cases r with
 | nil=>exact viaS (retS (anVF (asS (cmS rfl rfl (by rw [of_none,neS];rfl)))))
 | cons c r =>
  refine viaS (retS (anV (asS (cmS (b:=true) rfl rfl (by rw [of_none,neS];rfl))) ?_))
  have hix:dIx (.str (txS (c::r))) (.int 0)=some (.str (txS [c])):=ixZ (c::r) 0 c (by omega) rfl
  have hne:cNe (.str (txS [c])) (.str (Str.ofString "0"))=some ([c] != [48]):=by rw [of_zero,neS]
  by_cases h0:c=48
  ·subst h0
   exact anVF (asS (cmS (opS rfl rfl hix) rfl hne))
  ·have hb:([c] != [48])=true:=by simpa using h0
   rw [hb] at hne
   refine anV (asS (cmS (opS rfl rfl hix) rfl hne)) ?_
   have hc:compD (setAt 0) yesT (asV (cmp2 cInT (vAt 0) (fun _=>some et))) ((c::r).map fun c=>D.str (txS [c])) (List.replicate 1 none++[some (.str (txS (c::r)))])=some ((c::r).map fun c=>D.bl (isFig c)) :=
    c_ _ _ fun x hx=>⟨_,rfl,asS (cmS rfl rfl (inF (h x hx)))⟩
   refine callS (arS (lcZ (seqC (c::r) h rfl) (by rw [List.length_map];omega) hc) rfl) ?_
   show (bools _).map _=_
   rw [bools_mp]
   show some (D.bl (((c::r).map isFig).all id))=_
   congr 2
   have:((c::r).head? != some 48)=true:=by simpa using h0
   unfold isM
   rw [this,List.all_map]
   rfl
theorem mD {n:Nat} (h:n<=17):(if -(2 ^ 60)<=(n:Int)/\(n:Int)<2 ^ 60 /\ -(2 ^ 60)<=(n:Int)/\(n:Int)<2 ^ 60/\(0:Int)<18/\(18:Int)<1073741824 then some (rng3D n n 18) else none)=some []:=by
 have e:(2 ^ 60:Int)=1152921504606846976:=by decide
 rw [e,if_pos ⟨by omega,by omega,by omega,by omega,by decide,by decide⟩]
 unfold rng3D rng3N
 rw [if_neg (by omega)];rfl
theorem vl_zero (r:List Nat):vl (48::r)=vl r:=rfl
theorem mS {f g h:R->Option D} {ρ:R} {i j c:Int} {ds:List D} (h1:f ρ=some (.int i)) (h2:g ρ=some (.int j)) (h3:h ρ=some (.int c)) (h4:(if -(2 ^ 60)<=i/\i<2 ^ 60 /\ -(2 ^ 60)<=j/\j<2 ^ 60/\0<c/\c<1073741824 then some (rng3D i j c) else none)=some ds):inRng3 f g h ρ=some ds:=by
 simp only [inRng3,h1,h2,h3,Option.bind_some,nI]
 exact h4
theorem rm1 {r:List Nat} (hl:r.length<=17):fLenS [.str (txS r)]=some (.int r.length):=by
 have hz:1000<=sizeLine:=by decide
 show (if (txS r).length<=sizeLine then some (D.int (txS r).length) else none)=_
 rw [txS_len,if_pos (by omega)]
theorem rm2 {n:Nat} (hl:n<=17):dMod (.int (n:Int)) aN=some (.int n):=by
 show (if (0:Int)<18 then some (D.int ((n:Int)%18)) else none)=_
 rw [if_pos (by decide)]
 congr 2
 omega
theorem rm3 {r:List Nat} (h:∀ c∈r,isFig c=true) (hl:r.length<=17):fIntS [.str (txS (48::r))]=some (.int (vl r)):=by
 show (if (txS (48::r)).length<=640 then (PySem.intText? (txS (48::r))).map D.int else none)=_
 rw [txS_len,if_pos (by simp;omega),int_vl (by simp) (fun c hc=>(List.mem_cons.mp hc).elim (fun e=>by rw [e];rfl) (h c)) (by simp;omega),vl_zero]
 rfl
theorem rm4 {r:List Nat} (hl:r.length<=17) (v:Int):inRng3 (vAt 1) (callD fLenS (argC (vAt 0) argN)) (fun _=>some aN) [some (.str (txS r)),some (.int r.length),some (.int v),none]=some []:=by
 have b2:callD fLenS (argC (vAt 0) argN) [some (.str (txS r)),some (.int r.length),some (.int v),none]=some (.int r.length):=callS rfl (rm1 hl)
 have b1:vAt 1 [some (D.str (txS r)),some (.int r.length),some (.int v),none]=some (.int r.length):=rfl
 exact mS b1 b2 rfl (mD hl)
theorem rm5 {r:List Nat} (h:∀ c∈r,isFig c=true) (hl:r.length<=17):asgD (callD fIntS (argC (op2 dAdd (fun _=>some (.str (Str.ofString "0"))) (slT (vAt 0) noP (aP (vAt 1)))) argN)) (setAt 2) [some (.str (txS r)),some (.int r.length),none,none]=some (.nx [some (.str (txS r)),some (.int r.length),some (.int (vl r)),none]):=by
 have q1:dSlS (.str (txS r)) none (some (r.length:Int))=some (.str (txS r)):=by rw [cutT r r.length (by omega),List.take_length]
 have q2:dAdd (.str (Str.ofString "0")) (.str (txS r))=some (.str (txS (48::r))):=by rw [of_zero,addM [48] r (by simp;omega)];rfl
 exact asgS (callS (arS (opS rfl (stS rfl rfl rfl q1) q2) rfl) (rm3 h hl)) rfl
theorem jB {r:List Nat} (h:∀ c∈r,isFig c=true) (h0:r ≠ []) (hl:r.length<=17):bE [.str (txS r)]=some (.int (vl r)):=by
 have s1:asgD (op2 dMod (callD fLenS (argC (vAt 0) argN)) (fun _=>some aN)) (setAt 1) [some (.str (txS r)),none,none,none]=some (.nx [some (.str (txS r)),some (.int r.length),none,none]):=asgS (opS (callS rfl (rm1 hl)) rfl (rm2 hl)) rfl
 show (if (1:Nat)=1 then retOf (cI [some (.str (txS r)),none,none,none]) else none)=_
 rw [if_pos rfl]
 unfold cI
 rw [seqN s1,seqN (rm5 h hl),seqN (loop_of (rm4 hl _) rfl)]
 rfl
theorem w43 (r:List Nat):wordE (43::r)=(btnOf r).map .down:=rfl
theorem w45 (r:List Nat):wordE (45::r)=(btnOf r).map .up:=rfl
theorem w46 (r:List Nat):wordE (46::r)=if isM r then some (.ticks (vl r)) else none:=rfl
def rdW (l:List Nat):Except Nat D:=match wordE l with
 | some e=>.ok e.d
 | none=>.error 0
theorem isM_of {r:List Nat} (h:isM r=true):r ≠ []/\r.head?≠some 48/\∀ c∈r,isFig c=true:=by
 unfold isM at h
 rw [Bool.and_eq_true,Bool.and_eq_true] at h
 refine ⟨?_,?_,fun c hc=>List.all_eq_true.mp h.2 c hc⟩
 ·intro z;rw [z] at h;exact absurd h.1.1 (by decide)
 ·simpa using h.1.2
theorem mk_app (a b:List Nat):txS a++txS b=txS (a++b):=by
 show Str.mk _=Str.mk _
 simp
theorem word_w {l:List Nat} {e:Ev} (h:wordE l=some e):e.w=txS l:=by
 unfold wordE at h
 split at h
 ·rename_i r
  cases hx:btnOf r with
  | none=>rw [hx] at h;cases h
  | some x =>
   rw [hx] at h;cases h
   show Str.ofString "+" ++ x.x=_
   rw [of_plus,btn_x hx,mk_app];rfl
 ·rename_i r
  cases hx:btnOf r with
  | none=>rw [hx] at h;cases h
  | some x =>
   rw [hx] at h;cases h
   show Str.ofString "-" ++ x.x=_
   rw [of_minus,btn_x hx,mk_app];rfl
 ·rename_i r
  split at h
  ·rename_i hM
   cases h
   obtain ⟨m1,m2,m3⟩:=isM_of hM
   show Str.ofString "." ++ tx (vl r:Int)=_
   rw [of_dot,tx_vl m1 m3 m2,mk_app];rfl
  ·cases h
 ·cases h
theorem oy {l:List Nat} {e:Ev} (h:wordE l=some e) (hf:∀ r,l=46::r->isM r=true->r.length<=17):aG [e.d]=some (.str (txS l)):=by
 have hw:=word_w h
 rw [<- hw]
 cases e with
 | down x=>cases x<;>exact viaS ((seqR ((ifT (cmS rfl rfl rfl)).trans (retS (opS rfl rfl (addS (by decide +kernel)))))))
 | up x=>cases x<;>exact viaS ((seqN ((ifF (cmS rfl rfl rfl)).trans rfl)).trans (seqR ((ifT (cmS rfl rfl rfl)).trans (retS (opS rfl rfl (addS (by decide +kernel)))))))
 | ticks n =>
  have hn:0<=n/\n<1000000000000000000:=by
   unfold wordE at h
   split at h
   ·rename_i r
    cases hx:btnOf r<;>(rw [hx] at h;cases h)
   ·rename_i r
    cases hx:btnOf r<;>(rw [hx] at h;cases h)
   ·rename_i r
    split at h
    ·rename_i hM
     cases h
     obtain ⟨m1,m2,m3⟩:=isM_of hM
     have a:=vl_lt m3
     have b:10 ^ r.length<=10 ^ 17:=Nat.pow_le_pow_right (by decide) (hf r rfl hM)
     have c:(10:Nat) ^ 17=100000000000000000:=by decide
     omega
    ·cases h
   ·cases h
  have l:=tx_len hn.1 hn.2
  exact viaS ((seqN ((ifF (cmS rfl rfl rfl)).trans rfl)).trans ((seqN ((ifF (cmS rfl rfl rfl)).trans rfl)).trans (retS (opS rfl (callS rfl (gT hn.1 hn.2)) (addS (by rw [dot_len];omega))))))
theorem iB {l:List Nat} (h:∀ c∈l,c<128) (hl:l.length<=60000) (hf:∀ r,l=46::r->isM r=true->r.length<=17):aC [.str (txS l)]=some (rdW l):=by
 have s1:asgD (slT (vAt 0) noP (aP (fun _=>some (.int 1)))) (setAt 1) [some (.str (txS l)),none,none]=some (.nx [some (.str (txS l)),some (.str (txS (l.take 1))),none]):=asgS (stS rfl rfl rfl (cutT l 1 (by omega))) rfl
 have s2:asgD (slT (vAt 0) (aP (fun _=>some (.int 1))) noP) (setAt 2) [some (.str (txS l)),some (.str (txS (l.take 1))),none]=some (.nx [some (.str (txS l)),some (.str (txS (l.take 1))),some (.str (txS (l.drop 1)))]):=asgS (stS rfl rfl rfl (cutF l 1 (by omega))) rfl
 have hrep:∀ ρ:R,vAt 0 ρ=some (.str (txS l))->xRaise 0 (op2 dAdd (fun _=>some (.str (Str.ofString "a row holds no "))) (callD fReprS (argC (vAt 0) argN))) ρ=some (.error 0):=fun ρ e=>by
  obtain ⟨x,hx,hxl⟩:=repr_sm (s:=l) ⟨h,hl⟩
  have b3:(Str.ofString "a row holds no ").length=15:=by decide +kernel
  exact xrS (opS rfl (callS (arS e rfl) hx) (addZ (by rw [b3];omega)))
 have hp:∀ c r,l=c::r->cEq (.str (txS (l.take 1))) (.str (Str.ofString "+"))=some (c==43)/\cEq (.str (txS (l.take 1))) (.str (Str.ofString "-"))=some (c==45)/\cEq (.str (txS (l.take 1))) (.str (Str.ofString "."))=some (c==46):=by
  rintro c r rfl
  rw [of_plus,of_minus,of_dot]
  have e:∀ k,([c] == [k])=(c==k):=fun k=>by simp
  exact ⟨by rw [<- e];exact eqS [c] [43],by rw [<- e];exact eqS [c] [45],by rw [<- e];exact eqS [c] [46]⟩
 suffices H:∃ o,dm [some (.str (txS l)),none,none]=some o/\retX o=some (rdW l) by
  obtain ⟨o,e1,e2⟩:=H
  exact viaX_of e1 e2
 show ∃ o,xSeq (xPure (asgD (slT (vAt 0) noP (aP (fun _=>some (.int 1)))) (setAt 1))) _ [some (.str (txS l)),none,none]=some o/\_
 rw [xsN s1,xsN s2]
 cases l with
 | nil =>
  rw [xsN ((ifF (anF (cmS rfl rfl (by rw [of_plus];exact eqS [] [43])))).trans rfl),xsN ((ifF (anF (cmS rfl rfl (by rw [of_minus];exact eqS [] [45])))).trans rfl),xsN ((ifF (anF (cmS rfl rfl (by rw [of_dot];exact eqS [] [46])))).trans rfl),hrep _ rfl]
  exact ⟨_,rfl,rfl⟩
 | cons c r =>
  obtain ⟨q1,q2,q3⟩:=hp c r rfl
  have hb:=inB r
  by_cases c1:c=43
  ·subst c1
   cases hx:btnOf r with
   | some x =>
    rw [hx] at hb
    rw [xsR ((ifT (anT (cmS rfl rfl q1) (cmS rfl rfl hb))).trans (retS rfl))]
    refine ⟨_,rfl,?_⟩
    unfold rdW
    rw [w43,hx]
    show some (Except.ok (D.tup [.str (Str.ofString "down"),.str (txS r)]))=some (Except.ok (D.tup [.str (Str.ofString "down"),.str x.x]))
    rw [btn_x hx]
   | none =>
    rw [hx] at hb
    rw [xsN ((ifF (anT (cmS rfl rfl q1) (cmS rfl rfl hb))).trans rfl),xsN ((ifF (anF (cmS rfl rfl q2))).trans rfl),xsN ((ifF (anF (cmS rfl rfl q3))).trans rfl),hrep _ rfl]
    refine ⟨_,rfl,?_⟩
    unfold rdW
    rw [w43,hx];rfl
  have e1:(c==43)=false:=by simpa using c1
  rw [e1] at q1
  rw [xsN ((ifF (anF (cmS rfl rfl q1))).trans rfl)]
  by_cases c2:c=45
  ·subst c2
   cases hx:btnOf r with
   | some x =>
    rw [hx] at hb
    rw [xsR ((ifT (anT (cmS rfl rfl q2) (cmS rfl rfl hb))).trans (retS rfl))]
    refine ⟨_,rfl,?_⟩
    unfold rdW
    rw [w45,hx]
    show some (Except.ok (D.tup [.str (Str.ofString "up"),.str (txS r)]))=some (Except.ok (D.tup [.str (Str.ofString "up"),.str x.x]))
    rw [btn_x hx]
   | none =>
    rw [hx] at hb
    rw [xsN ((ifF (anT (cmS rfl rfl q2) (cmS rfl rfl hb))).trans rfl),xsN ((ifF (anF (cmS rfl rfl q3))).trans rfl),hrep _ rfl]
    refine ⟨_,rfl,?_⟩
    unfold rdW
    rw [w45,hx];rfl
  have e2:(c==45)=false:=by simpa using c2
  rw [e2] at q2
  rw [xsN ((ifF (anF (cmS rfl rfl q2))).trans rfl)]
  by_cases c3:c=46
  ·subst c3
   have hm:=lD (r:=r) (fun x hx=>h x (List.mem_cons_of_mem _ hx)) (by simp at hl;omega)
   cases hM:isM r with
   | true =>
    rw [hM] at hm
    obtain ⟨m1,m2,m3⟩:=isM_of hM
    have hr:=jB m3 m1 (hf r rfl hM)
    rw [xsR ((ifT (anT (cmS rfl rfl q3) (truS (callS rfl hm)))).trans (retS (tupS (arS rfl (arS (callS rfl hr) rfl)))))]
    refine ⟨_,rfl,?_⟩
    unfold rdW
    rw [w46,hM];rfl
   | false =>
    rw [hM] at hm
    rw [xsN ((ifF (anT (cmS rfl rfl q3) (truS (callS rfl hm)))).trans rfl),hrep _ rfl]
    refine ⟨_,rfl,?_⟩
    unfold rdW
    rw [w46,hM];rfl
  have e3:(c==46)=false:=by simpa using c3
  rw [e3] at q3
  rw [xsN ((ifF (anF (cmS rfl rfl q3))).trans rfl),hrep _ rfl]
  refine ⟨_,rfl,?_⟩
  have:wordE (c::r)=none:=by
   unfold wordE
   split
   ·rename_i z;cases z;exact absurd rfl c1
   ·rename_i z;cases z;exact absurd rfl c2
   ·rename_i z;cases z;exact absurd rfl c3
   ·rfl
  unfold rdW
  rw [this];rfl
def wordsE:List (List Nat)->Option (List Ev)
 | []=>some []
 | w::ws=>(wordE w).bind fun e=>(wordsE ws).map fun es=>e::es
def rdT (s:List Nat):Except Nat D:=if s=[] then .ok (.tup []) else match wordsE (splC 32 s) with
 | some es=>.ok (.tup (es.map Ev.d))
 | none=>.error 0
theorem fZ {ρ:R}:∀ {ws:List (List Nat)},(∀ w∈ws,aC [.str (txS w)]=some (rdW w)) ->
  compX (setAt 0) (xCall aC (argC (vAt 0) argN)) (ws.map fun w=>D.str (txS w)) (none::ρ)=some (match wordsE ws with
   | some es=>.ok (es.map Ev.d)
   | none=>.error 0)
 | [],_=>rfl
 | w::ws,h=>by
  have h1:=h w List.mem_cons_self
  have ih:=fZ (ρ:=ρ) (ws:=ws) fun v hv=>h v (List.mem_cons_of_mem _ hv)
  have e1:xCall aC (argC (vAt 0) argN) (some (.str (txS w))::ρ)=some (rdW w):=h1
  unfold rdW at e1
  unfold wordsE
  cases hw:wordE w with
  | none=>rw [hw] at e1;exact cxE rfl e1
  | some e =>
   rw [hw] at e1
   cases hs:wordsE ws with
   | none=>rw [hs] at ih;exact cxF rfl e1 ih
   | some es=>rw [hs] at ih;exact cxO rfl e1 ih
structure Gw (s:List Nat):Prop where
 sm:Sm s
 fig:∀ w∈splC 32 s,∀ r,w=46::r->isM r=true->r.length<=17
theorem kH {s:List Nat} (g:Gw s):bL [.str (txS s)]=some (rdT s):=by
 have q:cEq (.str (txS s)) (.str (Str.ofString ""))=some (s == []):=by rw [of_none];exact eqS _ _
 by_cases h0:s=[]
 ·subst h0
  refine viaX_of (o:=.ok (.rt (.tup []))) ?_ rfl
  show xSeq (xPure _) _ [some (.str (txS []))]=_
  exact xsR ((ifT (cmS rfl rfl q)).trans rfl)
 ·have e0:(s == [])=false:=by simpa using h0
  rw [e0] at q
  have hw:=fZ (ρ:=[some (.str (txS s))]) (ws:=splC 32 s) fun w hw=>iB (g.sm.word hw).asc (g.sm.word hw).len (g.fig w hw)
  have hS:inSeq (callD fSplit (argC (vAt 0) (argC (fun _=>some (.str (Str.ofString " "))) argN))) [some (.str (txS s))]=some ((splC 32 s).map fun w=>D.str (txS w)):=by
   show (callD fSplit _ [some (.str (txS s))]).bind _=_
   rw [callS (ds:=[.str (txS s),.str (Str.ofString " ")]) rfl (show fSplit [.str (txS s),.str (Str.ofString " ")]=_ by rw [of_sp];exact f_splitC (by decide) g.sm.len)];rfl
  have hl:((splC 32 s).map fun w=>D.str (txS w)).length<=sizeLine:=by
   rw [List.length_map]
   have:=(splC_len 32 s).1;have:=g.sm.len;have:=PySem.sizeLine_eq;omega
  have hL:lcX 1 (inSeq (callD fSplit (argC (vAt 0) (argC (fun _=>some (.str (Str.ofString " "))) argN)))) (setAt 0) (xCall aC (argC (vAt 0) argN)) [some (.str (txS s))]=some (match wordsE (splC 32 s) with
   | some es=>.ok (.lst (es.map Ev.d))
   | none=>.error 0):=by
   unfold lcX
   rw [hS,Option.bind_some,if_pos hl]
   show (compX _ _ _ (none::[some (.str (txS s))])).map _=_
   rw [hw]
   cases wordsE (splC 32 s)<;>rfl
  have hX:xRet (xFn fTuple (xArgC (lcX 1 (inSeq (callD fSplit (argC (vAt 0) (argC (fun _=>some (.str (Str.ofString " "))) argN)))) (setAt 0) (xCall aC (argC (vAt 0) argN))) xArgN)) [some (.str (txS s))]=some (match rdT s with
   | .ok d=>.ok (.rt d)
   | .error c=>.error c):=by
   have a2:xFn fTuple (xArgC (lcX 1 (inSeq (callD fSplit (argC (vAt 0) (argC (fun _=>some (.str (Str.ofString " "))) argN)))) (setAt 0) (xCall aC (argC (vAt 0) argN))) xArgN) [some (.str (txS s))]=some (rdT s):=by
    unfold xFn rdT
    rw [if_neg h0]
    cases hs:wordsE (splC 32 s) with
    | none=>rw [hs] at hL;rw [xaE hL];rfl
    | some es=>rw [hs] at hL;rw [xaO hL rfl];rfl
   unfold xRet
   rw [a2]
   cases rdT s<;>rfl
  cases hr:rdT s with
  | ok d =>
   rw [hr] at hX
   refine viaX_of (o:=.ok (.rt d)) ?_ rfl
   show xSeq (xPure _) _ [some (.str (txS s))]=_
   exact (xsN ((ifF (cmS rfl rfl q)).trans rfl)).trans hX
  | error c =>
   rw [hr] at hX
   refine viaX_of (o:=.error c) ?_ rfl
   show xSeq (xPure _) _ [some (.str (txS s))]=_
   exact (xsN ((ifF (cmS rfl rfl q)).trans rfl)).trans hX
theorem nU (e:Ev):nob e.d=true:=by cases e<;>rfl
theorem ml (es:List Ev):nobs (es.map Ev.d)=true:=by
 induction es with
 | nil=>rfl
 | cons e es ih=>show (nob e.d&&nobs (es.map Ev.d))=true;rw [nU,ih];rfl
theorem mH {s:List Nat} {d:D} (h:rdT s=.ok d):nob d=true:=by
 unfold rdT at h
 split at h
 ·cases h;rfl
 ·split at h
  ·cases h;exact ml _
  ·cases h
theorem joinK {vs:List (List Nat)} (h:szW vs<=1000000):fJoin [.str (Str.ofString " "),.lst (vs.map dd)]=some (.str (txS (joinL 32 vs))):=by
 have hz:=PySem.sizeLine_eq
 have hs:strsD (vs.map dd)=some (vs.map txS):=by
  have:=strsD_map (vs.map txS)
  rw [List.map_map] at this
  exact this
 have f:∀ (ws:List (List Nat)) (acc:Nat),(ws.map txS).foldl (fun n x=>n+x.length+(Str.ofString " ").length) acc=acc+szW ws:=by
  intro ws
  induction ws with
  | nil=>intro acc;simp [szW]
  | cons w ws ih =>
   intro acc
   have e1:(Str.ofString " ").length=1:=by decide +kernel
   have e2:(txS w).length=w.length:=txS_len w
   rw [List.map_cons,List.foldl_cons,ih,e1,e2]
   simp only [szW,List.map_cons,List.sum_cons]
   omega
 have hl:∀ ws:List (List Nat),(joinL 32 ws).length<=szW ws:=fun ws=>by
  cases ws with
  | nil=>simp [joinL]
  | cons w ws =>
   have e:∀ ws:List (List Nat),(ws.flatMap (32::·)).length=szW ws:=fun ws=>by
    induction ws with
    | nil=>rfl
    | cons v ws ih =>
     rw [List.flatMap_cons,List.length_append,ih]
     simp only [szW,List.map_cons,List.sum_cons,List.length_cons]
   show (w++ws.flatMap (32::·)).length<=_
   rw [List.length_append,e]
   simp only [szW,List.map_cons,List.sum_cons]
   omega
 show (strsD (vs.map dd)).bind (fun xs=>(joinS (Str.ofString " ") xs).map D.str)=_
 rw [hs]
 show (joinS (Str.ofString " ") (vs.map txS)).map D.str=_
 have hg:Builtin.Str.glued (Str.ofString " ") (vs.map txS)=txS (joinL 32 vs):=by rw [of_sp];exact glueC 32 vs
 unfold joinS
 rw [hg,if_pos]
 ·rfl
 ·constructor
  ·rw [List.foldl_toArray,f];omega
  ·rw [txS_len]
   have:=hl vs
   omega
theorem gb {ρ:R}:∀ {ws:List (List Nat)} {es:List Ev},wordsE ws=some es->(∀ w∈ws,∀ r,w=46::r->isM r=true->r.length<=17)->compD (setAt 0) yesT (callD aG (argC (vAt 0) argN)) (es.map Ev.d) (none::ρ)=some (ws.map fun w=>D.str (txS w))
 | [],es,h,_=>by cases h;rfl
 | w::ws,es,h,hl=>by
  unfold wordsE at h
  cases hw:wordE w with
  | none=>rw [hw] at h;cases h
  | some e =>
   rw [hw] at h
   cases hs:wordsE ws with
   | none=>rw [hs] at h;cases h
   | some es' =>
    rw [hs] at h
    cases h
    have ih:=gb (ρ:=ρ) hs fun v hv=>hl v (List.mem_cons_of_mem _ hv)
    have e1:=oy hw (hl w List.mem_cons_self)
    have e2:callD aG (argC (vAt 0) argN) (some e.d::ρ)=some (.str (txS w)):=callS rfl e1
    rw [List.map_cons]
    simp [compD,e1,ih]
theorem words_len:∀ {ws:List (List Nat)} {es:List Ev},wordsE ws=some es->es.length=ws.length
 | [],es,h=>by cases h;rfl
 | w::ws,es,h=>by
  unfold wordsE at h
  cases hw:wordE w with
  | none=>rw [hw] at h;cases h
  | some e =>
   rw [hw] at h
   cases hs:wordsE ws with
   | none=>rw [hs] at h;cases h
   | some es'=>rw [hs] at h;cases h;rw [List.length_cons,List.length_cons,words_len hs]
theorem szW_spl (s:List Nat):szW (splC 32 s)=s.length+1:=by
 have hj:=splC_join 32 s
 have hne:=splC_ne 32 s
 have e:∀ ws:List (List Nat),(ws.flatMap (32::·)).length=szW ws:=fun ws=>by
  induction ws with
  | nil=>rfl
  | cons v ws ih =>
   rw [List.flatMap_cons,List.length_append,ih]
   simp only [szW,List.map_cons,List.sum_cons,List.length_cons]
 cases hw:splC 32 s with
 | nil=>exact absurd hw hne
 | cons w ws =>
  rw [hw] at hj
  have:(w++ws.flatMap (32::·)).length=s.length:=congrArg List.length hj
  rw [List.length_append,e] at this
  simp only [szW,List.map_cons,List.sum_cons] at this ⊢
  omega
theorem jl {s:List Nat} {es:List Ev} (g:Gw s) (h:wordsE (splC 32 s)=some es):a_ [.tup (es.map Ev.d)]=some (.str (txS s)):=by
 have hlen:=words_len h
 have a:=(splC_len 32 s).1
 have b:=g.sm.len
 have hc:compD (setAt 0) yesT (callD aG (argC (vAt 0) argN)) (es.map Ev.d) (List.replicate 1 none++[some (.tup (es.map Ev.d))])=some ((splC 32 s).map dd):=gb h g.fig
 have hj:=joinK (vs:=splC 32 s) (by rw [szW_spl];omega)
 rw [splC_join] at hj
 exact viaS (retS (callS (arS rfl (arS (lcZ rfl (by rw [List.length_map];omega) hc) rfl)) hj))
def dg (u:List Nat):Nat:=u.countP isFig
def ng (u:List Nat):Nat:=u.countP fun c=>!isFig c
theorem dg_app (a b:List Nat):dg (a++b)=dg a+dg b:=List.countP_append
theorem ng_app (a b:List Nat):ng (a++b)=ng a+ng b:=List.countP_append
theorem dg_le (u:List Nat):dg u<=u.length:=List.countP_le_length
theorem ng_le (u:List Nat):ng u<=u.length:=List.countP_le_length
def GF (f:Nat->Nat) (s:List Nat):Prop:=∀ p u q,s=p++(u++q)->dg u<=f (ng u)
def Mon (f:Nat->Nat):Prop:=∀ a b,a<=b->f a<=f b
def stepF (f:Nat->Nat):Nat->Nat:=fun t=>max (f (t+1)+1) (if t=0 then 0 else 2*f (t - 1))
theorem Mon.step {f:Nat->Nat} (h:Mon f):Mon (stepF f):=fun a b hab=>by
 unfold stepF
 have h1:=h (a+1) (b+1) (by omega)
 have h2:=h (a - 1) (b - 1) (by omega)
 by_cases ha:a=0
 ·rw [if_pos ha];omega
 ·rw [if_neg ha,if_neg (by omega)];omega
theorem GF.sub {f:Nat->Nat} {s t p q:List Nat} (h:GF f s) (e:s=p++(t++q)):GF f t:=fun p' u q' e'=>h (p++p') u (q'++q) (by rw [e,e'];simp)
theorem GF.up {f:Nat->Nat} {s:List Nat} (hm:Mon f) (h:GF f s):GF (stepF f) s:=fun p u q e=>by
 have:=h p u q e
 have:=hm (ng u) (ng u+1) (by omega)
 unfold stepF
 omega
theorem parts3 {A X B p u q:List Nat} (e:A++(X++B)=p++(u++q)):∃ P1 P2 P3,u=P1++(P2++P3)/\(∃ a c,A=a++(P1++c))/\(∃ a c,X=a++(P2++c))/\(∃ a c,B=a++(P3++c))/\(P1 ≠ []->P3 ≠ []->(∃ a,A=a++P1)/\P2=X/\∃ c,B=P3++c):=by
 have eu:u=((A++(X++B)).drop p.length).take u.length:=by rw [e];simp
 rw [List.drop_append,List.take_append,List.drop_append,List.take_append] at eu
 generalize p.length=i at eu
 generalize u.length=n at eu
 refine ⟨_,_,_,eu,⟨A.take i,(A.drop i).drop n,?_⟩,⟨X.take (i - A.length),(X.drop (i - A.length)).drop (n - (A.drop i).length),?_⟩,⟨B.take (i - A.length - X.length),(B.drop (i - A.length - X.length)).drop (n - (A.drop i).length - (X.drop (i - A.length)).length),?_⟩,fun h1 h3=>?_⟩
 ·rw [List.take_append_drop,List.take_append_drop]
 ·rw [List.take_append_drop,List.take_append_drop]
 ·rw [List.take_append_drop,List.take_append_drop]
 ·have hi:i<A.length:=by
   apply Nat.lt_of_not_le
   intro z
   rw [List.drop_eq_nil_of_le z] at h1
   simp at h1
  have hn:0<n - (A.drop i).length - (X.drop (i - A.length)).length:=by
   apply Nat.pos_of_ne_zero
   intro z
   rw [z] at h3
   simp at h3
  have ei:i - A.length=0:=by omega
  have t1:(A.drop i).take n=A.drop i:=List.take_of_length_le (by omega)
  have t2:(X.drop (i - A.length)).take (n - (A.drop i).length)=X:=by
   rw [ei,List.drop_zero] at hn ⊢
   exact List.take_of_length_le (by omega)
  refine ⟨⟨A.take i,by rw [t1,List.take_append_drop]⟩,t2,⟨(B.drop (i - A.length - X.length)).drop (n - (A.drop i).length - (X.drop (i - A.length)).length),?_⟩⟩
  have ej:i - A.length - X.length=0:=by omega
  rw [ej,List.drop_zero,List.take_append_drop]
theorem GF.edit {f:Nat->Nat} {A X Y B:List Nat} (hm:Mon f) (hX:X.length<=1) (hY:Y.length<=1) (h:GF f (A++(Y++B))):GF (stepF f) (A++(X++B)):=by
 intro p u q e
 obtain ⟨P1,P2,P3,eu,⟨a1,c1,e1⟩,⟨a2,c2,e2⟩,⟨a3,c3,e3⟩,hb⟩:=parts3 e
 have l2:P2.length<=1:=by
  have:=congrArg List.length e2
  rw [List.length_append,List.length_append] at this
  omega
 have d2:=dg_le P2
 have hA:GF f A:=h.sub (p:=[]) (t:=A) (q:=Y++B) rfl
 have hB:GF f B:=h.sub (p:=A++Y) (t:=B) (q:=[]) (by simp)
 have f1:=hA a1 P1 c1 e1
 have f3:=hB a3 P3 c3 e3
 have du:dg u=dg P1+(dg P2+dg P3):=by rw [eu,dg_app,dg_app]
 have nu:ng u=ng P1+(ng P2+ng P3):=by rw [eu,ng_app,ng_app]
 have m1:=hm (ng P1) (ng u+1) (by omega)
 have m3:=hm (ng P3) (ng u+1) (by omega)
 have goal:dg u<=f (ng u+1)+1:=by
  by_cases z1:P1=[]
  ·rw [z1] at du;simp [dg] at du ⊢ d2 f3;simp only [dg] at *;omega
  ·by_cases z3:P3=[]
   ·rw [z3] at du;simp [dg] at du ⊢ d2 f1;simp only [dg] at *;omega
   ·obtain ⟨⟨a,ea⟩,_,c,ec⟩:=hb z1 z3
    have f0:=h a (P1++(Y++P3)) c (by rw [ea,ec];simp)
    rw [dg_app,dg_app,ng_app,ng_app] at f0
    have:=ng_le Y
    have:=hm (ng P1+(ng Y+ng P3)) (ng u+1) (by omega)
    omega
 unfold stepF
 omega
theorem GF.two {f:Nat->Nat} {A B:List Nat} (hm:Mon f) (hA:GF f A) (hB:GF f B):GF (stepF f) (A++10::B):=by
 intro p u q e
 obtain ⟨P1,P2,P3,eu,⟨a1,c1,e1⟩,⟨a2,c2,e2⟩,⟨a3,c3,e3⟩,hb⟩:=parts3 (X:=[10]) e
 have l2:P2.length<=1:=by
  have:=congrArg List.length e2
  rw [List.length_append,List.length_append,List.length_singleton] at this
  omega
 have f1:=hA a1 P1 c1 e1
 have f3:=hB a3 P3 c3 e3
 have du:dg u=dg P1+(dg P2+dg P3):=by rw [eu,dg_app,dg_app]
 have nu:ng u=ng P1+(ng P2+ng P3):=by rw [eu,ng_app,ng_app]
 have hP2:P2=[]\/P2=[10]:=by
  match P2,l2 with
  | [],_=>exact .inl rfl
  | [x],_ =>
   have:x ∈ [10]:=by rw [e2];simp
   rw [List.mem_singleton.mp this];exact .inr rfl
 have m1:=hm (ng P1) (ng u+1) (by omega)
 have m3:=hm (ng P3) (ng u+1) (by omega)
 have e0:dg []=0:=rfl
 have e0':ng []=0:=rfl
 rcases hP2 with z2 | z2
 ·have goal:dg u<=f (ng u+1)+1:=by
   by_cases z1:P1=[]
   ·rw [z1,z2,e0] at du;omega
   ·by_cases z3:P3=[]
    ·rw [z3,z2,e0] at du;omega
    ·obtain ⟨_,h2,_⟩:=hb z1 z3
     rw [z2] at h2;cases h2
  unfold stepF
  omega
 ·have d10:dg [10]=0:=rfl
  have n10:ng [10]=1:=rfl
  rw [z2,d10] at du
  rw [z2,n10] at nu
  have k1:=hm (ng P1) (ng u - 1) (by omega)
  have k3:=hm (ng P3) (ng u - 1) (by omega)
  unfold stepF
  rw [if_neg (by omega)]
  omega
def r3:Nat->List Nat->Bool
 | _,[]=>true
 | r,c::s=>if isFig c then decide (r<3)&&r3 (r+1) s else r3 0 s
theorem r3_dg:∀ (u:List Nat) {r:Nat},r<=3->r3 r u=true->dg u+r<=3+3*ng u:=by
 intro u
 induction u with
 | nil=>intro r hr _;show 0+r<=3+3*0;omega
 | cons c u ih =>
  intro r hr h
  unfold r3 at h
  by_cases hc:isFig c=true
  ·rw [if_pos hc,Bool.and_eq_true] at h
   have hr:=of_decide_eq_true h.1
   have e1:dg (c::u)=dg u+1:=List.countP_cons_of_pos hc
   have e2:ng (c::u)=ng u:=List.countP_cons_of_neg (by simp [hc])
   have:=ih (r:=r+1) (by omega) h.2
   omega
  ·rw [if_neg hc] at h
   have e1:dg (c::u)=dg u:=List.countP_cons_of_neg hc
   have e2:ng (c::u)=ng u+1:=List.countP_cons_of_pos (by simpa using hc)
   have:=ih (r:=0) (by omega) h
   omega
theorem r3_drop:∀ (p:List Nat) {t:List Nat} {r:Nat},r<=3->r3 r (p++t)=true->∃ r',r'<=3/\r3 r' t=true:=by
 intro p
 induction p with
 | nil=>intro t r hr h;exact ⟨r,hr,h⟩
 | cons c p ih =>
  intro t r hr h
  have h':(if isFig c then decide (r<3)&&r3 (r+1) (p++t) else r3 0 (p++t))=true:=h
  by_cases hc:isFig c=true
  ·rw [if_pos hc,Bool.and_eq_true] at h'
   have:=of_decide_eq_true h'.1
   exact ih (by omega) h'.2
  ·rw [if_neg hc] at h'
   exact ih (by omega) h'
theorem r3_take:∀ (u:List Nat) {q:List Nat} {r:Nat},r3 r (u++q)=true->r3 r u=true:=by
 intro u
 induction u with
 | nil=>intro q r _;rfl
 | cons c u ih =>
  intro q r h
  have h':(if isFig c then decide (r<3)&&r3 (r+1) (u++q) else r3 0 (u++q))=true:=h
  show (if isFig c then decide (r<3)&&r3 (r+1) u else r3 0 u)=true
  by_cases hc:isFig c=true
  ·rw [if_pos hc,Bool.and_eq_true] at h' ⊢
   exact ⟨h'.1,ih h'.2⟩
  ·rw [if_neg hc] at h' ⊢
   exact ih h'
def f0:Nat->Nat:=fun t=>3+3*t
theorem f0_mon:Mon f0:=fun a b h=>by unfold f0;omega
theorem GF0 {s:List Nat} (h:r3 0 s=true):GF f0 s:=fun p u q e=>by
 rw [e] at h
 obtain ⟨r,hr,h2⟩:=r3_drop p (by omega) h
 have:=r3_dg u hr (r3_take u h2)
 unfold f0
 omega
theorem r3_join:∀ {ws:List (List Nat)},(∀ w∈ws,r3 0 w=true)->r3 0 (joinL 32 ws)=true:=by
 have app:∀ (w:List Nat) {t:List Nat} {r:Nat},r3 r w=true->r3 0 t=true->r3 r (w++32::t)=true:=by
  intro w
  induction w with
  | nil=>intro t r _ h;exact h
  | cons c w ih =>
   intro t r h ht
   have h':(if isFig c then decide (r<3)&&r3 (r+1) w else r3 0 w)=true:=h
   show (if isFig c then decide (r<3)&&r3 (r+1) (w++32::t) else r3 0 (w++32::t))=true
   by_cases hc:isFig c=true
   ·rw [if_pos hc,Bool.and_eq_true] at h' ⊢
    exact ⟨h'.1,ih h'.2 ht⟩
   ·rw [if_neg hc] at h' ⊢
    exact ih h' ht
 intro ws
 induction ws with
 | nil=>intro _;rfl
 | cons w ws ih =>
  intro h
  cases ws with
  | nil =>
   have e:joinL 32 [w]=w:=by simp [joinL]
   rw [e];exact h w List.mem_cons_self
  | cons v ws =>
   rw [joinL_cons]
   exact app w (h w List.mem_cons_self) (ih fun x hx=>h x (List.mem_cons_of_mem _ hx))
theorem splC_fac:∀ (s:List Nat),∀ w∈splC 32 s,∃ p q,s=p++(w++q):=by
 have key:∀ (ws:List (List Nat)),∀ w∈ws,∃ p q,joinL 32 ws=p++(w++q):=by
  intro ws
  induction ws with
  | nil=>intro w hw;cases hw
  | cons v ws ih =>
   intro w hw
   rcases List.mem_cons.mp hw with rfl | hw
   ·exact ⟨[],ws.flatMap (32::·),rfl⟩
   ·cases ws with
    | nil=>cases hw
    | cons v2 ws =>
     obtain ⟨p,q,e⟩:=ih w hw
     exact ⟨v++32::p,q,by rw [joinL_cons,e];simp⟩
 intro s w hw
 have:=key (splC 32 s) w hw
 rw [splC_join] at this
 exact this
theorem Gw_of {f:Nat->Nat} {s:List Nat} (h:Sm s) (g:GF f s) (hf:f 0<=17):Gw s:=by
 refine ⟨h,fun w hw r e hM=>?_⟩
 obtain ⟨p,q,es⟩:=splC_fac s w hw
 obtain ⟨_,_,m3⟩:=isM_of hM
 have:=g (p++[46]) r q (by rw [es,e];simp)
 have d1:dg r=r.length:=List.countP_eq_length.mpr m3
 have n1:ng r=0:=List.countP_eq_zero.mpr fun c hc=>by simp [m3 c hc]
 rw [d1,n1] at this
 omega
theorem joinL_app {a b:List (List Nat)} (ha:a ≠ []) (hb:b ≠ []):joinL 10 (a++b)=joinL 10 a++10::joinL 10 b:=by
 cases a with
 | nil=>exact absurd rfl ha
 | cons w a=>cases b with
  | nil=>exact absurd rfl hb
  | cons v b=>simp [joinL,List.flatMap_append]
theorem GF.pre {f:Nat->Nat} {ws:List (List Nat)} {r:Nat} (g:GF f (joinL 10 ws)):GF f (joinL 10 (ws.take r)):=by
 by_cases h1:ws.take r=[]
 ·rw [h1];exact fun p u q e=>by
   have:u=[]:=by
    have:=congrArg List.length e
    simp [joinL] at this
    exact List.length_eq_zero_iff.mp (by omega)
   rw [this];exact Nat.zero_le _
 ·by_cases h2:ws.drop r=[]
  ·have:=List.take_append_drop r ws
   rw [h2,List.append_nil] at this
   rw [this];exact g
  ·have e:=joinL_app h1 h2
   rw [List.take_append_drop] at e
   exact g.sub (p:=[]) (q:=10::joinL 10 (ws.drop r)) e
theorem GF.suf {f:Nat->Nat} {ws:List (List Nat)} {r:Nat} (g:GF f (joinL 10 ws)):GF f (joinL 10 (ws.drop r)):=by
 by_cases h2:ws.drop r=[]
 ·rw [h2];exact fun p u q e=>by
   have:u=[]:=by
    have:=congrArg List.length e
    simp [joinL] at this
    exact List.length_eq_zero_iff.mp (by omega)
   rw [this];exact Nat.zero_le _
 ·by_cases h1:ws.take r=[]
  ·have:=List.take_append_drop r ws
   rw [h1,List.nil_append] at this
   rw [this];exact g
  ·have e:=joinL_app h1 h2
   rw [List.take_append_drop] at e
   exact g.sub (p:=joinL 10 (ws.take r)++[10]) (q:=[]) (by rw [e];simp)
theorem mt (ws:List (List Nat)) {j:Nat} (h:j<=ws.length):cutL ws none (some (j:Int))=ws.take j:=by
 have e1:cutP ws.length 0 none=0:=rfl
 have e2:cutP ws.length ws.length (some (j:Int))=j:=by
  show (if ((j:Int))<0 then ((j:Int)+(ws.length:Int)).toNat else min (j:Int).toNat ws.length)=_
  rw [if_neg (by omega)];omega
 unfold cutL
 rw [e1,e2,List.drop_zero,Nat.sub_zero]
theorem jq (ws:List (List Nat)) {j:Nat} (h:j<=ws.length):cutL ws (some (j:Int)) none=ws.drop j:=by
 have e1:cutP ws.length ws.length none=ws.length:=rfl
 have e2:cutP ws.length 0 (some (j:Int))=j:=by
  show (if ((j:Int))<0 then ((j:Int)+(ws.length:Int)).toNat else min (j:Int).toNat ws.length)=_
  rw [if_neg (by omega)];omega
 unfold cutL
 rw [e1,e2,List.take_of_length_le (by rw [List.length_drop];omega)]
theorem mL (ws:List (List Nat)) {j:Nat} (h:j<ws.length):cutL ws (some (j:Int)) (some ((j:Int)+1))=(ws.drop j).take 1:=by
 have e1:cutP ws.length ws.length (some ((j:Int)+1))=j+1:=by
  show (if ((j:Int)+1)<0 then (((j:Int)+1)+(ws.length:Int)).toNat else min ((j:Int)+1).toNat ws.length)=_
  rw [if_neg (by omega)];omega
 have e2:cutP ws.length 0 (some (j:Int))=j:=by
  show (if ((j:Int))<0 then ((j:Int)+(ws.length:Int)).toNat else min (j:Int).toNat ws.length)=_
  rw [if_neg (by omega)];omega
 unfold cutL
 rw [e1,e2,show j+1 - j=1 by omega]
theorem obX {p:R->List D->Option (Out×List D)} {q:R->List D->Option Out} {ρ ρ2:R} {ds ds2:List D} (h:p ρ ds=some (.nx ρ2,ds2)):obSeq p q ρ ds=q ρ2 ds2:=by simp [h]
structure Bend (N:Nat) (s s':List Nat):Prop where
 bd:Bd (3*N+3) s'
 gf:∀ f,Mon f->GF f s->GF (stepF f) s'
theorem five_in {a b c d e:List Nat} {P:List Nat->Prop} (ha:P a) (hb:P b) (hc:P c) (hd:P d) (he:P e) {i:Int} (h0:0<=i) (h1:i<5):∃ x,P x/\dIx (.lst [dd a,dd b,dd c,dd d,dd e]) (.int i)=some (.str (txS x)):=by
 have:i=0\/i=1\/i=2\/i=3\/i=4:=by omega
 rcases this with rfl | rfl | rfl | rfl | rfl
 ·exact ⟨a,ha,rfl⟩
 ·exact ⟨b,hb,rfl⟩
 ·exact ⟨c,hc,rfl⟩
 ·exact ⟨d,hd,rfl⟩
 ·exact ⟨e,he,rfl⟩
theorem bent_some {s:List Nat} {N:Nat} (h:Bd N s) (hN:N<=19000) {n:Int} (h0:0<=n):∃ s',bz [.str (txS s),.int n]=some (.str (txS s'))/\Bend N s s':=by
 have hz:=PySem.sizeLine_eq
 have hlN:=h.len
 have hsp:=f_splitC (k:=10) (by decide) (s:=s) (by omega)
 have hne:=splC_ne 10 s
 have hszE:=joinL_szE (splC 10 s) hne
 rw [splC_join] at hszE
 have hjs:=splC_join 10 s
 have hwm:∀ w∈splC 10 s,∀ c∈w,c<128:=fun w hw c hc=>h.asc c (splC_mem 10 s w hw c hc).1
 generalize splC 10 s=ws at *
 have hszw:szW ws=s.length+1:=hszE.symm
 have hwl:0<ws.length:=List.length_pos_iff.mpr hne
 have hwl2:=ll ws
 have hlen:fLenS [.str (txS s)]=some (.int s.length):=by
  show (if (txS s).length<=sizeLine then some (D.int (txS s).length) else none)=_
  rw [txS_len,if_pos (by omega)]
 obtain ⟨k,hk⟩:∃ k:Nat,n%((s.length:Int)+1)=k:=⟨(n%((s.length:Int)+1)).toNat,by
  have:=Int.emod_nonneg n (show (s.length:Int)+1≠0 by omega)
  omega⟩
 have hm1:dMod (.int n) (.int ((s.length:Int)+1))=some (.int k):=mdS (by omega) hk
 have d512:dDiv (.int n) (.int 512)=some (.int (n / 512)):=by simp
 have d16:dDiv (.int n) (.int 16384)=some (.int (n / 16384)):=by simp
 have d10:dDiv (.int n) (.int 1048576)=some (.int (n / 1048576)):=by simp
 have hsl:fLen [.lst (ws.map dd)]=some (.int ws.length):=by rw [lenL _ (by rw [List.length_map];omega),List.length_map]
 obtain ⟨j,hj⟩:∃ j:Nat,n / 16384%(ws.length:Int)=j:=⟨(n / 16384%(ws.length:Int)).toNat,by
  have:=Int.emod_nonneg (n / 16384) (show (ws.length:Int)≠0 by omega)
  omega⟩
 have hjl:j<ws.length:=by
  have:=Int.emod_lt_of_pos (n / 16384) (show 0<(ws.length:Int) by omega)
  omega
 have hm2:dMod (.int (n / 16384)) (.int (ws.length:Int))=some (.int j):=mdS (by omega) hj
 obtain ⟨c,hc,hcx⟩:∃ c,c<128/\dIx (.str (Str.ofString "0123456789abcABC +-.\n")) (.int (n / 512%20))=some (.str (txS [c])):=by
  have e:Str.ofString "0123456789abcABC +-.\n" = txS [48,49,50,51,52,53,54,55,56,57,97,98,99,65,66,67,32,43,45,46,10]:=by decide +kernel
  rw [e]
  obtain ⟨i,hi⟩:∃ i:Nat,n / 512%20=i:=⟨(n / 512%20).toNat,by omega⟩
  have hi21:i<21:=by omega
  rw [hi]
  have hg:[48,49,50,51,52,53,54,55,56,57,97,98,99,65,66,67,32,43,45,46,10][i]?=some ([48,49,50,51,52,53,54,55,56,57,97,98,99,65,66,67,32,43,45,46,10][i]'hi21):=List.getElem?_eq_getElem hi21
  refine ⟨_,?_,ixS _ i _ (by decide) hg⟩
  have:∀ c ∈ [48,49,50,51,52,53,54,55,56,57,97,98,99,65,66,67,32,43,45,46,10],c<128:=by decide
  exact this _ (List.getElem_mem hi21)
 have b1:Bd 1 [c]:=⟨fun x hx=>by rw [List.mem_singleton.mp hx];exact hc,by simp⟩
 have b0:Bd 1 ([]:List Nat):=⟨fun x hx=>by (cases hx),by simp⟩
 have x1:dSlS (.str (txS s)) none (some (k:Int))=some (.str (txS (s.take k))):=cutT s k (by omega)
 have x2:dSlS (.str (txS s)) (some (k:Int)) none=some (.str (txS (s.drop k))):=cutF s k (by omega)
 have x3:dSlS (.str (txS s)) (some ((k:Int)+1)) none=some (.str (txS (s.drop (k+1)))):=cutF s (k+1) (by omega)
 have y1:dAdd (.str (txS (s.take k))) (.str (txS [c]))=some (.str (txS (s.take k++[c]))):=addM _ _ (by rw [List.length_take];simp;omega)
 have y2:dAdd (.str (txS (s.take k++[c]))) (.str (txS (s.drop k)))=some (.str (txS (s.take k++[c]++s.drop k))):=addM _ _ (by rw [List.length_append,List.length_take,List.length_drop];simp;omega)
 have y3:dAdd (.str (txS (s.take k))) (.str (txS (s.drop (k+1))))=some (.str (txS (s.take k++s.drop (k+1)))):=addM _ _ (by rw [List.length_take,List.length_drop];omega)
 have y4:dAdd (.str (txS (s.take k++[c]))) (.str (txS (s.drop (k+1))))=some (.str (txS (s.take k++[c]++s.drop (k+1)))):=addM _ _ (by rw [List.length_append,List.length_take,List.length_drop];simp;omega)
 have rows_ok:∀ vs:List (List Nat),(∀ w∈vs,w∈ws)->szW vs<=3*(N+1)->Bd (3*N+3) (joinL 10 vs):=fun vs h1 h2=>by
  refine ⟨joinL_bd fun w hw c hc=>hwm w (h1 w hw) c hc,?_⟩
  have:=joinL_sz vs
  have e1:(if vs=[] then 1 else 0)<=1:=by split<;>omega
  have e2:(vs.map fun w=>w.length+1).sum=szW vs:=rfl
  omega
 have sp:s=s.take k++([]++s.drop k):=by rw [List.nil_append,List.take_append_drop]
 have sp':s=s.take k++((s.drop k).take 1++s.drop (k+1)):=by
  have:=List.take_append_drop 1 (s.drop k)
  rw [List.drop_drop] at this
  rw [this,List.take_append_drop]
 have l1:((s.drop k).take 1).length<=1:=by rw [List.length_take];omega
 have B1:Bend N s (s.take k++[c]++s.drop k):=⟨(h.edit b1 (Nat.le_refl k)).mono (by omega),fun f hm g=>by rw [List.append_assoc];rw [sp] at g;exact GF.edit hm (by simp) (by simp) g⟩
 have B2:Bend N s (s.take k++s.drop (k+1)):=⟨by
  have:=(h.edit b0 (show k<=k+1 by omega)).mono (show N+1<=3*N+3 by omega)
  rw [List.append_nil] at this
  exact this,fun f hm g=>by rw [sp'] at g;exact GF.edit (X:=[]) hm (by simp) l1 g⟩
 have B3:Bend N s (s.take k++[c]++s.drop (k+1)):=⟨(h.edit b1 (show k<=k+1 by omega)).mono (by omega),fun f hm g=>by rw [List.append_assoc];rw [sp'] at g;exact GF.edit hm (by simp) l1 g⟩
 have c1:=mt ws (j:=j) (by omega)
 have c2:=jq ws (j:=j+1) (by omega)
 have c3:=mL ws hjl
 have c4:=jq ws (j:=j) (by omega)
 obtain ⟨z1,u1,w1⟩:=cutL_sz ws none (some (j:Int))
 obtain ⟨z2,u2,w2⟩:=cutL_sz ws (some ((j+1:Nat):Int)) none
 obtain ⟨z3,u3,w3⟩:=cutL_sz ws (some (j:Int)) (some ((j:Int)+1))
 obtain ⟨z4,u4,w4⟩:=cutL_sz ws (some (j:Int)) none
 rw [c1] at z1 u1 w1
 rw [c2] at z2 u2 w2
 rw [c3] at z3 u3 w3
 rw [c4] at z4 u4 w4
 have hd1:(ws.drop j).take 1 ≠ []:=by
  intro z
  have:=congrArg List.length z
  rw [List.length_take,List.length_drop,List.length_nil] at this
  omega
 have hd2:ws.drop j ≠ []:=by
  intro z
  have:=congrArg List.length z
  rw [List.length_drop,List.length_nil] at this
  omega
 have hpre:ws.take j++(ws.drop j).take 1=ws.take (j+1):=by rw [List.take_add]
 have B4:Bend N s (joinL 10 (ws.take j++(ws.drop j).take 1++ws.drop j)):=⟨rows_ok _ (fun w hw=>(List.mem_append.mp hw).elim (fun hw=>(List.mem_append.mp hw).elim (w1 w) (w3 w)) (w4 w)) (by rw [szW_app,szW_app];omega),fun f hm g=>by
  rw [joinL_app (by intro z;exact hd1 (List.append_eq_nil_iff.mp z).2) hd2,hpre]
  rw [<- hjs] at g
  exact GF.two hm g.pre g.suf⟩
 have B5:Bend N s (joinL 10 (ws.take j++ws.drop (j+1))):=⟨rows_ok _ (fun w hw=>(List.mem_append.mp hw).elim (w1 w) (w2 w)) (by rw [szW_app];omega),fun f hm g=>by
  rw [<- hjs] at g
  by_cases t1:ws.take j=[]
  ·rw [t1,List.nil_append];exact (GF.suf g).up hm
  ·by_cases t2:ws.drop (j+1)=[]
   ·rw [t2,List.append_nil];exact (GF.pre g).up hm
   ·rw [joinL_app t1 t2]
    exact GF.two hm g.pre g.suf⟩
 obtain ⟨s',P',hx⟩:=five_in B1 B2 B3 B4 B5 (i:=n / 1048576%5) (Int.emod_nonneg _ (by decide)) (Int.emod_lt_of_pos _ (by decide))
 refine ⟨s',?_,P'⟩
 have s1:asgD (op2 dMod (vAt 1) (op2 dAdd (callD fLenS (argC (vAt 0) argN)) (fun _=>some (.int 1)))) (setAt 2) [some (.str (txS s)),some (.int n),none,none,none,none,none,none,none,none]=some (.nx [some (.str (txS s)),some (.int n),some (.int k),none,none,none,none,none,none,none]):=asgS (opS rfl (opS (callS rfl hlen) rfl rfl) hm1) rfl
 have s2:asgD (op2 dIx (fun _=>some (.str (Str.ofString "0123456789abcABC +-.\n"))) (op2 dMod (op2 dDiv (vAt 1) (fun _=>some (.int 512))) (fun _=>some (.int 20)))) (setAt 3) [some (.str (txS s)),some (.int n),some (.int k),none,none,none,none,none,none,none]=some (.nx [some (.str (txS s)),some (.int n),some (.int k),some (.str (txS [c])),none,none,none,none,none,none]):=asgS (opS rfl (opS (opS rfl rfl d512) rfl (modS (by decide))) hcx) rfl
 have s3:asgD (callD fSplit (argC (vAt 0) (argC (fun _=>some (.str (Str.ofString "\n"))) argN))) (setAt 4) [some (.str (txS s)),some (.int n),some (.int k),some (.str (txS [c])),none,none,none,none,none,none]=some (.nx [some (.str (txS s)),some (.int n),some (.int k),some (.str (txS [c])),some (.lst (ws.map dd)),none,none,none,none,none]):=asgS (callS (ds:=[.str (txS s),.str (Str.ofString "\n")]) rfl (by rw [of_nl];exact hsp)) rfl
 have s4:asgD (op2 dMod (op2 dDiv (vAt 1) (fun _=>some (.int 16384))) (callD fLen (argC (vAt 4) argN))) (setAt 5) [some (.str (txS s)),some (.int n),some (.int k),some (.str (txS [c])),some (.lst (ws.map dd)),none,none,none,none,none]=some (.nx [some (.str (txS s)),some (.int n),some (.int k),some (.str (txS [c])),some (.lst (ws.map dd)),some (.int j),none,none,none,none]):=asgS (opS (opS rfl rfl d16) (callS rfl hsl) hm2) rfl
 have s5:parD 6 7 (argC (slT (vAt 0) noP (aP (vAt 2))) (argC (slT (vAt 0) (aP (op2 dAdd (vAt 2) (fun _=>some (.int 1)))) noP) argN)) [some (.str (txS s)),some (.int n),some (.int k),some (.str (txS [c])),some (.lst (ws.map dd)),some (.int j),none,none,none,none]=some (.nx [some (.str (txS s)),some (.int n),some (.int k),some (.str (txS [c])),some (.lst (ws.map dd)),some (.int j),some (.str (txS (s.take k))),some (.str (txS (s.drop (k+1)))),none,none]):=by
  show (argC _ _ _).bind _=_
  rw [arS (stS rfl rfl rfl x1) (arS (stS rfl rfl rfl x3) rfl)]
  rfl
 have hF:argC (op2 dAdd (op2 dAdd (vAt 6) (vAt 3)) (slT (vAt 0) (aP (vAt 2)) noP)) (argC (op2 dAdd (vAt 6) (vAt 7)) (argC (op2 dAdd (op2 dAdd (vAt 6) (vAt 3)) (vAt 7)) argN)) [some (.str (txS s)),some (.int n),some (.int k),some (.str (txS [c])),some (.lst (ws.map dd)),some (.int j),some (.str (txS (s.take k))),some (.str (txS (s.drop (k+1)))),none,none]=some [dd (s.take k++[c]++s.drop k),dd (s.take k++s.drop (k+1)),dd (s.take k++[c]++s.drop (k+1))] :=
  arS (opS (opS rfl rfl y1) (stS rfl rfl rfl x2) y2) (arS (opS rfl rfl y3) (arS (opS (opS rfl rfl y1) rfl y4) rfl))
 have q1:=dSl_L ws none (some (j:Int))
 have q2:dSl (.lst (ws.map dd)) (some ((j:Int)+1)) none=some (.lst ((cutL ws (some ((j+1:Nat):Int)) none).map dd)):=dSl_L ws (some ((j:Int)+1)) none
 have q3:=dSl_L ws (some (j:Int)) (some ((j:Int)+1))
 have q4:=dSl_L ws (some (j:Int)) none
 rw [c1] at q1
 rw [c2] at q2
 rw [c3] at q3
 rw [c4] at q4
 have t8:oPure (asgD (op2 dAdd (op2 dAdd (slD (vAt 4) noP (aP (vAt 5))) (slD (vAt 4) (aP (vAt 5)) (aP (op2 dAdd (vAt 5) (fun _=>some (.int 1)))))) (slD (vAt 4) (aP (vAt 5)) noP)) (setAt 8)) [some (.str (txS s)),some (.int n),some (.int k),some (.str (txS [c])),some (.lst (ws.map dd)),some (.int j),some (.str (txS (s.take k))),some (.str (txS (s.drop (k+1)))),none] [dd (s.take k++[c]++s.drop k),dd (s.take k++s.drop (k+1)),dd (s.take k++[c]++s.drop (k+1))]=some (.nx [some (.str (txS s)),some (.int n),some (.int k),some (.str (txS [c])),some (.lst (ws.map dd)),some (.int j),some (.str (txS (s.take k))),some (.str (txS (s.drop (k+1)))),some (.lst ((ws.take j++(ws.drop j).take 1++ws.drop j).map dd))],[dd (s.take k++[c]++s.drop k),dd (s.take k++s.drop (k+1)),dd (s.take k++[c]++s.drop (k+1))]):=by
  show (asgD _ _ _).map _=_
  rw [asgS (opS (opS (slS rfl rfl rfl q1) (slS rfl rfl rfl q3) (addL (by omega))) (slS rfl rfl rfl q4) (addL (by rw [List.length_append];omega))) rfl]
  rfl
 have j4:=joinN (vs:=ws.take j++(ws.drop j).take 1++ws.drop j) (by rw [szW_app,szW_app];omega)
 have j5:=joinN (vs:=ws.take j++ws.drop (j+1)) (by rw [szW_app];omega)
 refine viaS ?_
 unfold dZ
 refine (seqN s1).trans ((seqN s2).trans ((seqN s3).trans ((seqN s4).trans ((seqN s5).trans ?_))))
 show (argC _ _ _).bind _=_
 rw [hF]
 show obSeq _ _ [some (.str (txS s)),some (.int n),some (.int k),some (.str (txS [c])),some (.lst (ws.map dd)),some (.int j),some (.str (txS (s.take k))),some (.str (txS (s.drop (k+1)))),none] [dd (s.take k++[c]++s.drop k),dd (s.take k++s.drop (k+1)),dd (s.take k++[c]++s.drop (k+1))]=_
 rw [obX t8]
 have oa:∀ {g:R->Option D} {ρ:R} {ds:List D} {d:D},g ρ=some d->ρ.length=9->ds.length<=1000->oApp 9 g ρ ds=some (.nx ρ,ds++[d]):=fun {g ρ ds d} e1 e2 e3=>by
  show (g ρ).bind _=_
  rw [e1]
  show (if ρ.length=9/\ds.length<sizeLine then _ else none)=_
  rw [if_pos ⟨e2,by omega⟩]
 rw [obX (oa (callS (arS rfl (arS rfl rfl)) j4) rfl (by simp)),obX (oa (callS (arS rfl (arS (opS (slS rfl rfl rfl q1) (slS rfl rfl rfl q2) (addL (by omega))) rfl)) j5) rfl (by simp))]
 exact retS (opS rfl (opS (opS rfl rfl d10) rfl (modS (by decide))) hx)
def rdK (kind:Nat) (s:List Nat):Except Nat D:=if kind=0 then toX ((rdB s).map Bk.d) else rdT s
theorem rdT_err {s:List Nat} {c:Nat} (h:rdT s=.error c):c=0:=by
 unfold rdT at h
 split at h
 ·cases h
 ·split at h<;>cases h
  rfl
theorem rdK_err {kind:Nat} {s:List Nat} {c:Nat} (h:rdK kind s=.error c):c=0:=by
 unfold rdK at h
 split at h
 ·cases hb:rdB s with
  | none=>rw [hb] at h;cases h;rfl
  | some b=>rw [hb] at h;cases h
 ·exact rdT_err h
theorem lg {kind:Nat} {s:List Nat} {d:D} (h:rdK kind s=.ok d):nob d=true:=by
 unfold rdK at h
 split at h
 ·cases hb:rdB s with
  | none=>rw [hb] at h;cases h
  | some b=>rw [hb] at h;cases h;exact oj b
 ·exact mH h
theorem nD {kind:Nat} {s:List Nat} (h:Sm s) (g:kind≠0->Gw s):bC [.int kind,.str (txS s)]=some (rdK kind s):=by
 suffices H:∃ o,cO [some (.int kind),some (.str (txS s))]=some o/\retX o=some (rdK kind s) by
  obtain ⟨o,e1,e2⟩:=H
  exact viaX_of e1 e2
 have hq:cEq (.int (kind:Int)) (.int 0)=some ((kind:Int)==0):=rfl
 unfold cO rdK
 by_cases h0:kind=0
 ·subst h0
  have hb:=jW h
  rw [if_pos rfl]
  cases hr:rdB s with
  | none =>
   rw [hr] at hb
   exact ⟨_,xqE ((xiT (cmS rfl rfl rfl)).trans (xRx (xcS rfl hb))),rfl⟩
  | some b =>
   rw [hr] at hb
   refine ⟨.ok (.rt b.d),?_,rfl⟩
   have:xIf (cmp2 cEq (vAt 0) (fun _=>some (.int 0))) (xRet (xCall br (argC (vAt 1) argN))) (xPure nextD) [some (.int (0:Nat)),some (.str (txS s))]=some (.ok (.rt b.d)):=(xiT (cmS rfl rfl rfl)).trans (xRo (xcS rfl hb))
   unfold xSeq
   rw [this];rfl
 ·have hf:((kind:Int)==0)=false:=by simpa using h0
  rw [hf] at hq
  have hr:=kH (g h0)
  rw [if_neg h0,xqN (ρ':=[some (.int kind),some (.str (txS s))]) ((xiF (cmS rfl rfl hq)).trans rfl)]
  cases ht:rdT s with
  | ok d=>rw [ht] at hr;exact ⟨_,xRo (xcS rfl hr),rfl⟩
  | error c=>rw [ht] at hr;exact ⟨_,xRx (xcS rfl hr),rfl⟩
def gotK (kind:Nat) (s:List Nat):D:=match rdK kind s with
 | .ok d=>.tup [.str (Str.ofString "told"),d]
 | .error _=>.tup [.str (Str.ofString "refused"),.int 0]
theorem nh (kind:Nat) (s:List Nat):nobC (gotK kind s)=true:=by
 refine nobC_of ?_
 unfold gotK
 cases h:rdK kind s with
 | ok d=>show (true&&(nob d&&true))=true;rw [lg h];rfl
 | error c=>rfl
theorem told_of {c:D} {kind:Nat} {s:List Nat} (hc:callX LLX 0 [some c,none,none,none]=some (rdK kind s)):bp [c]=some (gotK kind s):=by
 show (if (1:Nat)=1 then retOf (cJ [some c,none,none,none]) else none)=_
 rw [if_pos rfl]
 unfold cJ gTry gotK
 cases hd:rdK kind s with
 | ok b =>
  rw [hd] at hc
  rw [xtO (xaO rfl (xaO hc rfl))];rfl
 | error c =>
  cases rdK_err hd
  rw [hd] at hc
  rw [xtE (xaF rfl (xaE hc))]
  simp only [Option.bind_some]
  rw [errS (d:=.tup [.str (Str.ofString "refused"),.int 0]) (by decide)]
  ·rfl
  ·intro e
   have v0:at0 4 2 e=[none,none,some (.obj 9 e [] []),none]:=rfl
   refine ⟨[none,some (.tup [.str (Str.ofString "refused"),.int 0]),some (.obj 9 e [] []),some (.lst [.bl true,.bl false])],?_,rfl⟩
   rw [v0]
   have t1:asgD (lstD (argC (isCD 2 e (0==0)) (argC (isCD 2 e (0==1)) argN))) (setAt 3) [none,none,some (.obj 9 e [] []),none]=some (.nx [none,none,some (.obj 9 e [] []),some (.lst [.bl true,.bl false])]):=by
    have:lstD (argC (isCD 2 e (0==0)) (argC (isCD 2 e (0==1)) argN)) [none,none,some (.obj 9 e [] []),none]=some (.lst [.bl true,.bl false]):=by
     show (argC _ _ _).map _=_
     rw [arS (isC_at rfl) (arS (isC_at rfl) rfl)];rfl
    exact asgS this rfl
   have t2:asgD (tupD (argC (fun _=>some (.str (Str.ofString "refused"))) (argC (op1 dNeg (fun _=>some (.int 1))) argN))) (setAt 1) [none,none,some (.obj 9 e [] []),some (.lst [.bl true,.bl false])]=some (.nx [none,some (.tup [.str (Str.ofString "refused"),.int (-1)]),some (.obj 9 e [] []),some (.lst [.bl true,.bl false])]):=rfl
   rw [seqN t1,seqN t2]
   refine (ifT (anT (truS (isC_at rfl)) (cmS (callS rfl rfl) rfl rfl))).trans ?_
   exact asgS (tupS (arS rfl (arS (callS rfl rfl) rfl))) rfl
theorem nX {kind:Nat} {s:List Nat} (h:Sm s) (g:kind≠0->Gw s) (a:Nat):bp [.cl T_1 a [.str (txS s),.int kind]]=some (gotK kind s):=by
 refine told_of ?_
 have hg:gl_1 [some (.str (txS s)),some (.int kind)]=some (rdK kind s):=xcS rfl (nD h g)
 have hv:viaEX 2 gl_1 [.str (txS s),.int kind]=some (rdK kind s):=hg
 have hn:nobs [D.str (txS s),D.int (kind:Nat)]=true/\T_1.ps=[]:=⟨rfl,rfl⟩
 simp only [callX,vAt,List.getD_cons_zero,Option.bind_some,L_1,hn,and_self,if_true,hv]
 cases hd:rdK kind s with
 | error c=>rfl
 | ok d =>
  show (if nob d=true then some (Except.ok d) else none)=_
  rw [if_pos (lg hd)]
theorem str_eq (x:Str):cEq (.str x) (.str x)=some true:=by simp
theorem ot {kind:Nat} {s:List Nat} {d:D} (g:kind≠0->Gw s) (hd:rdK kind s=.ok d):bx [.int kind,d,.str (txS s)]=some (.bl true):=by
 have hq:cEq (.int (kind:Int)) (.int 0)=some ((kind:Int)==0):=rfl
 unfold rdK at hd
 by_cases h0:kind=0
 ·subst h0
  rw [if_pos rfl] at hd
  cases hb:rdB s with
  | none=>rw [hb] at hd;cases hd
  | some b =>
   rw [hb] at hd
   cases hd
   obtain ⟨ok,e⟩:=rdB_is hb
   have ht:=fG ok
   rw [e] at ht
   exact viaS (seqR ((ifT (cmS rfl rfl rfl)).trans (retS (anV (asS (cmS (callS rfl (oq ok)) rfl rfl)) (asS (cmS (callS rfl ht) rfl (str_eq _)))))))
 ·have hf:((kind:Int)==0)=false:=by simpa using h0
  rw [hf] at hq
  rw [if_neg h0] at hd
  have hT:∃ xs,d=.tup xs/\a_ [d]=some (.str (txS s)):=by
   unfold rdT at hd
   split at hd
   ·rename_i hs
    cases hd
    subst hs
    refine ⟨[],rfl,?_⟩
    have hj:=joinK (vs:=[]) (by simp [szW])
    exact viaS (retS (callS (arS rfl (arS (lcZ (ds:=[]) rfl (by decide) rfl) rfl)) hj))
   ·split at hd
    ·rename_i es hes
     cases hd
     exact ⟨_,rfl,jl (g h0) hes⟩
    ·cases hd
  obtain ⟨xs,rfl,ht⟩:=hT
  exact viaS ((seqN ((ifF (cmS rfl rfl hq)).trans rfl)).trans (retS (anV rfl (asS (cmS (callS rfl ht) rfl (str_eq _))))))
theorem turn74 {kind:Nat} {s:List Nat} {a0 a1 a4 a5:Option D} (h:Sm s) (g:kind≠0->Gw s):seqD fq gX [a0,a1,some (.int kind),some (.str (txS s)),a4,a5]=some (.nx [a0,a1,some (.int kind),some (.str (txS s)),a4,some (gotK kind s)]):=by
 have s1:fq [a0,a1,some (.int kind),some (.str (txS s)),a4,a5]=some (.nx [a0,a1,some (.int kind),some (.str (txS s)),a4,some (gotK kind s)]):=asgS (callW_of (as:=[]) (caps:=[.str (txS s),.int kind]) rfl rfl rfl (nh kind s) fun a=>nX h g a) rfl
 rw [seqN s1]
 unfold gotK
 cases hd:rdK kind s with
 | ok d =>
  exact ((ifF (cmS (opS rfl rfl rfl) rfl rfl)).trans ((ifF (ntS (b:=true) (truS (callS (arS rfl (arS (opS rfl rfl rfl) rfl)) (ot g hd))))).trans rfl))
 | error c =>
  exact ((ifT (cmS (opS rfl rfl rfl) rfl rfl)).trans ((ifF (cmS rfl rfl (cNeD_refl (d:=.tup [.str (Str.ofString "refused"),.int 0]) (by decide) (by decide +kernel)))).trans rfl))
def fN:Nat->Nat->Nat
 | 0=>f0
 | n+1=>stepF (fN n)
theorem fN_mon:∀ n,Mon (fN n)
 | 0=>f0_mon
 | n+1=>(fN_mon n).step
theorem fN_le {n:Nat} (h:n<=3):fN n 0<=17:=by
 have:n=0\/n=1\/n=2\/n=3:=by omega
 rcases this with rfl | rfl | rfl | rfl<;>decide
def bN:Nat->Nat
 | 0=>1300
 | n+1=>3*bN n+3
theorem bN_le {n:Nat} (h:n<=3):bN n<=60000:=by
 have:n=0\/n=1\/n=2\/n=3:=by omega
 rcases this with rfl | rfl | rfl | rfl<;>decide
theorem bN_lt {n:Nat} (h:n<3):bN n<=19000:=by
 have:n=0\/n=1\/n=2:=by omega
 rcases this with rfl | rfl | rfl<;>decide
abbrev wl (e:Ev):List Nat:=e.w.cps.toList
def ckw (e:Ev):Bool:=r3 0 (wl e)&&(decide ((wl e).length<=8)&&(wl e).all fun c=>decide (c<128)&&c != 32)
theorem ckw_t:(List.range 131).all (fun n=>n==0||ckw (.ticks n))=true:=by decide +kernel
theorem ckw_of {e:Ev} (h:e.Sm):ckw e=true:=by
 cases e with
 | down x=>cases x<;>decide +kernel
 | up x=>cases x<;>decide +kernel
 | ticks n =>
  obtain ⟨m,rfl⟩:∃ m:Nat,n=m:=⟨n.toNat,by have:=h.1;omega⟩
  have:=List.all_eq_true.mp ckw_t m (by have:=h.2;simp;omega)
  simp only [Bool.or_eq_true,beq_iff_eq] at this
  rcases this with h' | h'
  ·have:=h.1;omega
  ·exact h'
theorem ev_word {e:Ev} (h:e.Sm):r3 0 (wl e)=true/\(wl e).length<=8/\∀ c∈wl e,c<128/\c≠32:=by
 have c:=ckw_of h
 unfold ckw at c
 rw [Bool.and_eq_true,Bool.and_eq_true] at c
 refine ⟨c.1,of_decide_eq_true c.2.1,fun x hx=>?_⟩
 have:=List.all_eq_true.mp c.2.2 x hx
 rw [Bool.and_eq_true] at this
 exact ⟨of_decide_eq_true this.1,by simpa using this.2⟩
def rowL (es:List Ev):List Nat:=joinL 32 (es.map wl)
theorem joinL_mem:∀ {ws:List (List Nat)} {c:Nat},c∈joinL 32 ws->c=32\/∃ w∈ws,c∈w
 | [],_,h=>by cases h
 | [w],c,h=>.inr ⟨w,by simp,by simpa [joinL] using h⟩
 | w::v::ws,c,h=>by
  rw [joinL_cons] at h
  rcases List.mem_append.mp h with h | h
  ·exact .inr ⟨w,by simp,h⟩
  ·rcases List.mem_cons.mp h with h | h
   ·exact .inl h
   ·rcases joinL_mem h with h | ⟨u,hu,hc⟩
    ·exact .inl h
    ·exact .inr ⟨u,List.mem_cons_of_mem _ hu,hc⟩
theorem joinL_len:∀ {ws:List (List Nat)},(∀ w∈ws,w.length<=8)->(joinL 32 ws).length<=ws.length*9
 | [],_=>Nat.zero_le _
 | [w],h=>by have:=h w (by simp);simp [joinL];omega
 | w::v::ws,h=>by
  have a:=joinL_len (ws:=v::ws) fun u hu=>h u (List.mem_cons_of_mem _ hu)
  have b:=h w (by simp)
  rw [joinL_cons,List.length_append,List.length_cons]
  rw [List.length_cons] at a ⊢
  rw [List.length_cons]
  omega
theorem mY {es:List Ev} (h:∀ e∈es,e.Sm):∀ c∈rowL es,c<128:=fun c hc=>by
 rcases joinL_mem hc with rfl | ⟨w,hw,hc⟩
 ·decide
 ·obtain ⟨e,he,rfl⟩:=List.mem_map.mp hw
  exact ((ev_word (h e he)).2.2 c hc).1
theorem nJ {es:List Ev} (h:∀ e∈es,e.Sm) (hl:es.length<=8):Bd 1300 (rowL es):=by
 refine ⟨mY h,?_⟩
 have:=joinL_len (ws:=es.map wl) fun w hw=>by
  obtain ⟨e,he,rfl⟩:=List.mem_map.mp hw
  exact (ev_word (h e he)).2.1
 rw [List.length_map] at this
 unfold rowL
 omega
theorem nK {es:List Ev} (h:∀ e∈es,e.Sm):GF f0 (rowL es):=GF0 (r3_join fun w hw=>by
 obtain ⟨e,he,rfl⟩:=List.mem_map.mp hw
 exact (ev_word (h e he)).1)
theorem jr {es:List Ev} (h:∀ e∈es,e.Sm) (hl:es.length<=8):a_ [.tup (es.map Ev.d)]=some (.str (txS (rowL es))):=by
 have hc:compD (setAt 0) yesT (callD aG (argC (vAt 0) argN)) (es.map Ev.d) (List.replicate 1 none++[some (.tup (es.map Ev.d))])=some ((es.map wl).map dd):=by
  rw [List.map_map]
  exact c_ _ _ fun e he=>⟨_,rfl,by
   have:=iM (h e he)
   rw [txS_of e.w] at this
   exact callS rfl this⟩
 have hs:szW (es.map wl)<=1000:=by
  have:∀ l:List Ev,(∀ e∈l,e.Sm)->szW (l.map wl)<=l.length*9:=fun l=>by
   induction l with
   | nil=>intro _;simp [szW]
   | cons e l ih =>
    intro h
    have a:=ih fun x hx=>h x (List.mem_cons_of_mem _ hx)
    have b:=(ev_word (h e List.mem_cons_self)).2.1
    simp only [szW,List.map_cons,List.sum_cons,List.length_cons] at a ⊢
    omega
  have:=this es h
  omega
 exact viaS (retS (callS (arS rfl (arS (lcZ rfl (by rw [List.length_map];omega) hc) rfl)) (joinK (by omega))))
theorem drawn_nn (n k:Int):0<=drawnI n k:=by unfold drawnI;exact Int.emod_nonneg _ (by decide)
theorem bend_loop {a0:Option D} {n:Int} {kind:Nat}:∀ (ks:List Nat) (m:Nat) (s:List Nat) (o4 o5:Option D),m+ks.length<=3->Bd (bN m) s->(kind≠0->GF (fN m) s) ->
  ∃ s' o4' o5',forD (setAt 4) eU (ks.map fun k=>D.int (k:Nat)) [a0,some (.int n),some (.int kind),some (.str (txS s)),o4,o5]=some (.nx [a0,some (.int n),some (.int kind),some (.str (txS s')),o4',o5'])
 | [],m,s,o4,o5,_,_,_=>⟨s,o4,o5,rfl⟩
 | k::ks,m,s,o4,o5,hm,hb,hg=>by
  rw [List.length_cons] at hm
  obtain ⟨s1,hc,bd,gf⟩:=bent_some hb (bN_lt (by omega)) (n:=drawnI n (k:Nat) / 4) (Int.ediv_nonneg (drawn_nn _ _) (by decide))
  have d4:dDiv (.int (drawnI n (k:Nat))) (.int 4)=some (.int (drawnI n (k:Nat) / 4)):=by simp
  have q1:gY [a0,some (.int n),some (.int kind),some (.str (txS s)),some (.int (k:Nat)),o5]=some (.nx [a0,some (.int n),some (.int kind),some (.str (txS s1)),some (.int (k:Nat)),o5]):=asgS (callS (arS rfl (arS (opS (callS rfl (drawn_some n (k:Nat))) rfl d4) rfl)) hc) rfl
  have bd':Bd (bN (m+1)) s1:=bd
  have gf':kind≠0->GF (fN (m+1)) s1:=fun h=>gf _ (fN_mon m) (hg h)
  have sm:Sm s1:=bd'.sm (bN_le (by omega))
  have t5:eU [a0,some (.int n),some (.int kind),some (.str (txS s)),some (.int (k:Nat)),o5]=some (.nx [a0,some (.int n),some (.int kind),some (.str (txS s1)),some (.int (k:Nat)),some (gotK kind s1)]):=by
   unfold eU
   rw [seqN q1]
   exact turn74 sm fun h=>Gw_of sm (gf' h) (fN_le (by omega))
  obtain ⟨s',o4',o5',e⟩:=bend_loop (a0:=a0) (n:=n) (kind:=kind) ks (m+1) s1 (some (.int (k:Nat))) (some (gotK kind s1)) (by omega) bd' gf'
  refine ⟨s',o4',o5',?_⟩
  show (eU [a0,some (.int n),some (.int kind),some (.str (txS s)),some (.int (k:Nat)),o5]).bind _=_
  rw [t5]
  exact e
theorem law_true (ns:List Int) (_:ns.length<=63):gp [.fro (ns.map .int)]=some (.bl true):=by
 obtain ⟨n,hn,n0⟩:=mixed_some ns 0 (by decide)
 obtain ⟨m1,hm1,_⟩:=mixed_some ns 1 (by decide)
 obtain ⟨m2,hm2,_⟩:=mixed_some ns 2 (by decide)
 obtain ⟨B,hB,okB,_⟩:=lj m2
 obtain ⟨b,rfl,ok⟩:=mW okB
 obtain ⟨es,hr,oks,hl⟩:=mo m1 8 (by decide) (by decide)
 have hl8:es.length<=8:=hl
 generalize hS:D.fro (ns.map .int)=Sc at *
 obtain ⟨kind,hk⟩:∃ k:Nat,n%2=k:=⟨(n%2).toNat,by omega⟩
 have s1:ia [some Sc,none,none,none,none,none]=some (.nx [some Sc,some (.int n),none,none,none,none]):=asgS (callS rfl hn) rfl
 have s2:kZ [some Sc,some (.int n),none,none,none,none]=some (.nx [some Sc,some (.int n),some (.int kind),none,none,none]):=asgS (opS rfl rfl (mdS (by decide) hk)) rfl
 have s3:le [some Sc,some (.int n),some (.int kind),none,none,none]=some (.nx [some Sc,some (.int n),some (.int kind),some (.str (txS (rowL es))),none,none]):=asgS (callS (arS (callS (arS (callS rfl hm1) rfl) hr) rfl) (jr oks hl8)) rfl
 have hbt:=fG ok
 rw [txS_of (bookT b)] at hbt
 obtain ⟨s,s4,b4,g4⟩:∃ s,lc [some Sc,some (.int n),some (.int kind),some (.str (txS (rowL es))),none,none]=some (.nx [some Sc,some (.int n),some (.int kind),some (.str (txS s)),none,none])/\Bd 1300 s/\(kind≠0->GF f0 s):=by
  have hq:cEq (.int (kind:Int)) (.int 0)=some ((kind:Int)==0):=rfl
  by_cases h0:kind=0
  ·have hf:((kind:Int)==0)=true:=by simpa using h0
   rw [hf] at hq
   exact ⟨_,(ifT (cmS rfl rfl hq)).trans (asgS (callS (arS (callS (arS (callS rfl hm2) rfl) hB) rfl) hbt) rfl),mR ok,fun h=>absurd h0 h⟩
  ·have hf:((kind:Int)==0)=false:=by simpa using h0
   rw [hf] at hq
   exact ⟨_,(ifF (cmS rfl rfl hq)).trans rfl,nJ oks hl8,fun _=>nK oks⟩
 obtain ⟨q,hq⟩:∃ q:Nat,n / 4%3=q:=⟨(n / 4%3).toNat,by omega⟩
 have hq3:q<3:=by omega
 have d4:dDiv (.int n) (.int 4)=some (.int (n / 4)):=by simp
 have e1:dAdd (.int 1) (.int (q:Int))=some (.int ((1+q:Nat):Int)):=by
  have:((1+q:Nat):Int)=1+(q:Int):=by omega
  rw [this];rfl
 have i5:inRng1 (op2 dAdd (fun _=>some (.int 1)) (op2 dMod (op2 dDiv (vAt 1) (fun _=>some (.int 4))) (fun _=>some (.int 3)))) [some Sc,some (.int n),some (.int kind),some (.str (txS s)),none,none]=some ((List.range (1+q)).map fun k=>D.int (k:Nat)):=by
  rw [rng1S (n:=((1+q:Nat):Int)) (opS rfl (opS (opS rfl rfl d4) rfl (mdS (by decide) hq)) e1) (by have:=p62;omega) (by have:=p62;omega)]
  unfold rngD
  rw [show (((1+q:Nat):Int) - 0).toNat=1+q by omega]
  congr 1
  exact List.map_congr_left fun i _=>by rw [Int.zero_add]
 obtain ⟨s',o4,o5,e5⟩:=bend_loop (a0:=some Sc) (n:=n) (kind:=kind) (List.range (1+q)) 0 s none none (by rw [List.length_range];omega) b4 g4
 have s5:la [some Sc,some (.int n),some (.int kind),some (.str (txS s)),none,none]=_:=loop_of i5 e5
 show (if (1:Nat)=1 then retOf (seqD ia _ [some Sc,none,none,none,none,none]) else none)=_
 rw [if_pos rfl,seqN s1,seqN s2,seqN s3,seqN s4,seqN s5]
 rfl
end
end HW
set_option maxRecDepth 100000
namespace HW
open PySem PySem.Spec PyProof.Rows L2
abbrev dW:Stmt:=top 28
theorem iE:FnScope ["face","stays"] ["face","stays"] (defScope dW):=⟨rfl,rfl,rfl,by decide +kernel,rfl,by decide +kernel,by decide +kernel⟩
theorem iJ {P:Program} {w:World} {K:PySem.W.Frag} {mg:Str->Option Value} {base:Heap} {k:Nat} {f:Addr} {fd:FuncData} (Fn:Fun K "mode_head" "mode_head" dW f fd):FnOk P w K mg base CX0 (k+1) f fd ["face","stays"] (spD K aV):=by
 refine aK Fn iE j9 ?_ kf
 intro cdv A outer s H E hr
 refine ak ?_
 refine ax ?_
 refine af aj ?_ ?_
 ·exact af aj ai (ac 0)
 refine oB ?_ ai ai
 exact dX (ac 1)
abbrev cZ:Stmt:=top 29
theorem gD:FnScope ["press","row"] ["press","row"] (defScope cZ):=⟨rfl,rfl,rfl,by decide +kernel,rfl,by decide +kernel,by decide +kernel⟩
theorem gJ {P:Program} {w:World} {K:PySem.W.Frag} {mg:Str->Option Value} {base:Heap} {k:Nat} (m_str:mg "str" = none) {f:Addr} {fd:FuncData} (Fn:Fun K "press_text" "press_text" cZ f fd):FnOk P w K mg base CX0 (k+1) f fd ["press","row"] (spD K aY):=by
 refine aK Fn gD iO ?_ io
 intro cdv A outer s H E hr
 refine ak ?_
 refine ax ?_
 refine af aj ?_ ?_
 ·refine af aj ?_ ai
  refine af aj ?_ (av (ac 1) ae)
  exact af aj (ac 0) ai
 exact bu dP m_str (aa (av (ac 1) ae) ad)
abbrev dF:Stmt:=top 27
theorem sc_mode_rows:FnScope ["mode","presses"] ["mode"] (defScope dF):=⟨rfl,rfl,rfl,by decide +kernel,rfl,by decide +kernel,by decide +kernel⟩
theorem h_ {P:Program} {w:World} {K:PySem.W.Frag} {mg:Str->Option Value} {base:Heap} {k:Nat} (C_mode_head:Cal P w K mg base k "mode_head" ["face","stays"] aV) (C_press_text:Cal P w K mg base k "press_text" ["press","row"] aY) (m_len:mg "len" = none) (m_range:mg "range" = none) (c_PRESSES:Con K mg "PRESSES" aM) {f:Addr} {fd:FuncData} (Fn:Fun K "mode_rows" "mode_rows" dF f fd):FnOk P w K mg base CX0 (k+1) f fd ["mode"] (spD K aT):=by
 refine aK Fn sc_mode_rows jC ?_ jL
 intro cdv A outer s H E hr
 refine ao ?_ ?_
 ·refine kW (T:=["number"]) rfl (i:=1) sc_mode_rows.nd ?_ ?_ ?_ ?_ (front_set (by decide)) (show List.Nodup ((["number"]:List Str)++(["mode" ,"presses"]:List Str)) from by decide +kernel)
  ·refine da m_range ?_
   exact az bW m_len (aa (aQ c_PRESSES) ad)
  ·intro C s₃ H₃ fp hTC
   exact ag 0 (show List.Nodup (["number" ,"mode" ,"presses"]:List Str) from by decide +kernel)
  ·intro C s₃ H₃ fp hTC
   exact dN
  intro C s₃ H₃ fp hTC
  refine al C_press_text hr ?_
  exact aa (av (aQ c_PRESSES) (ac 0)) (aa (av (av (ac 1) ae) (ac 0)) ad)
 refine ak ?_
 refine ax ?_
 refine af aj ?_ (ac 1)
 refine mi ?_
 refine aa ?_ ad
 refine al C_mode_head hr ?_
 exact aa (av (ac 0) ae) (aa (av (ac 0) ae) ad)
abbrev dD:Stmt:=top 26
theorem sc_book_text:FnScope ["book","mode","rows"] ["book"] (defScope dD):=⟨rfl,rfl,rfl,by decide +kernel,rfl,by decide +kernel,by decide +kernel⟩
theorem ij {P:Program} {w:World} {K:PySem.W.Frag} {mg:Str->Option Value} {base:Heap} {k:Nat} (C_mode_rows:Cal P w K mg base k "mode_rows" ["mode"] aT) (m_str:mg "str" = none) {f:Addr} {fd:FuncData} (Fn:Fun K "book_text" "book_text" dD f fd):FnOk P w K mg base CX0 (k+1) f fd ["book"] (spD K bg):=by
 refine aK Fn sc_book_text jG ?_ jE
 intro cdv A outer s H E hr
 refine kD 2 sc_book_text.nd ?_ ?_
 ·refine aa ?_ ad
  refine af aj ?_ ?_
  ·refine af aj ?_ ai
   refine af aj ai ?_
   exact bu dP m_str (aa (av (ac 0) ae) ad)
  exact bu dP m_str (aa (av (ac 0) ae) ad)
 refine ek ?_ ?_
 ·refine nN PassesOwn.never rfl ?_ ?_ ?_
  ·exact cR (av (ac 0) ae)
  ·exact ag 1 sc_book_text.nd
  refine mT ?_
  refine nF 2 ?_
  exact al C_mode_rows hr (aa (ac 1) ad)
 refine kR ?_
 refine ak ?_
 refine ax ?_
 refine fT ai ?_
 refine aa ?_ ad
 refine g_ (T:=["row"]) rfl ?_ ?_ ?_ ?_ (front_set (by decide)) (show List.Nodup ((["row"]:List Str)++(["book" ,"mode" ,"rows"]:List Str)) from by decide +kernel)
 ·exact cR (ac 2)
 ·intro C s₃ H₃ fp hTC
  exact ag 0 (show List.Nodup (["row" ,"book" ,"mode" ,"rows"]:List Str) from by decide +kernel)
 ·intro C s₃ H₃ fp hTC
  exact dN
 intro C s₃ H₃ fp hTC
 exact af aj (ac 0) ai
abbrev fw:Stmt:=top 41
theorem sc_figures:FnScope ["number","texts"] ["number"] (defScope fw):=⟨rfl,rfl,rfl,by decide +kernel,rfl,by decide +kernel,by decide +kernel⟩
theorem km {P:Program} {w:World} {K:PySem.W.Frag} {mg:Str->Option Value} {base:Heap} {k:Nat} (m_reversed:mg "reversed" = none) (m_str:mg "str" = none) (c_BLOCK:Con K mg "BLOCK" cy) {f:Addr} {fd:FuncData} (Fn:Fun K "figures" "figures" fw f fd):FnOk P w K mg base CX0 (k+1) f fd ["number"] (spD K bY):=by
 refine aK Fn sc_figures lF ?_ lG
 intro cdv A outer s H E hr
 refine kD 1 sc_figures.nd ad ?_
 refine ek ?_ ?_
 ·refine kU ?_
  refine lY PassesOwn.never ?_
  exact aO oz (ac 0) (aQ c_BLOCK)
 refine ek ?_ ?_
 ·refine kK 1 ?_
  exact bu dP m_str (aa (ac 0) ad)
 refine kR ?_
 refine ak ?_
 refine ax ?_
 exact me rfl m_reversed ai (ac 1)
abbrev dz:Stmt:=top 45
theorem gI:FnScope ["event"] ["event"] (defScope dz):=⟨rfl,rfl,rfl,by decide +kernel,rfl,by decide +kernel,by decide +kernel⟩
theorem gK {P:Program} {w:World} {K:PySem.W.Frag} {mg:Str->Option Value} {base:Heap} {k:Nat} (C_figures:Cal P w K mg base k "figures" ["number"] bY) {f:Addr} {fd:FuncData} (Fn:Fun K "event_text" "event_text" dz f fd):FnOk P w K mg base CX0 (k+1) f fd ["event"] (spD K aG):=by
 refine aK Fn gI iV ?_ iI
 intro cdv A outer s H E hr
 refine ao ?_ ?_
 ·refine cT ?_ ?_ bi
  ·exact aO (cq hr) (av (ac 0) ae) ai
  refine ak ?_
  refine ax ?_
  exact af aj ai (av (ac 0) ae)
 refine ao ?_ ?_
 ·refine cT ?_ ?_ bi
  ·exact aO (cq hr) (av (ac 0) ae) ai
  refine ak ?_
  refine ax ?_
  exact af aj ai (av (ac 0) ae)
 refine ak ?_
 refine ax ?_
 refine af aj ai ?_
 exact al C_figures hr (aa (av (ac 0) ae) ad)
abbrev eJ:Stmt:=top 44
theorem j6:FnScope ["row"] ["row"] (defScope eJ):=⟨rfl,rfl,rfl,by decide +kernel,rfl,by decide +kernel,by decide +kernel⟩
theorem jH {P:Program} {w:World} {K:PySem.W.Frag} {mg:Str->Option Value} {base:Heap} {k:Nat} (C_event_text:Cal P w K mg base k "event_text" ["event"] aG) {f:Addr} {fd:FuncData} (Fn:Fun K "row_text" "row_text" eJ f fd):FnOk P w K mg base CX0 (k+1) f fd ["row"] (spD K a_):=by
 refine aK Fn j6 ki ?_ kM
 intro cdv A outer s H E hr
 refine ak ?_
 refine ax ?_
 refine fT ai ?_
 refine aa ?_ ad
 refine g_ (T:=["event"]) rfl ?_ ?_ ?_ ?_ (front_set (by decide)) (show List.Nodup ((["event"]:List Str)++(["row"]:List Str)) from by decide +kernel)
 ·exact cR (ac 0)
 ·intro C s₃ H₃ fp hTC
  exact ag 0 (show List.Nodup (["event" ,"row"]:List Str) from by decide +kernel)
 ·intro C s₃ H₃ fp hTC
  exact dN
 intro C s₃ H₃ fp hTC
 exact al C_event_text hr (aa (ac 0) ad)
abbrev cD:Stmt:=top 51
theorem fR:FnScope ["_law_script","_law_k"] ["_law_script","_law_k"] (defScope cD):=⟨rfl,rfl,rfl,by decide +kernel,rfl,by decide +kernel,by decide +kernel⟩
theorem fS {P:Program} {w:World} {K:PySem.W.Frag} {mg:Str->Option Value} {base:Heap} {k:Nat} (m_len:mg "len" = none) {f:Addr} {fd:FuncData} (Fn:Fun K "_law_cell_at" "_law_cell_at" cD f fd):FnOk P w K mg base CX0 (k+1) f fd ["_law_script","_law_k"] (spD K aE):=by
 refine aK Fn fR gu ?_ gy
 intro cdv A outer s H E hr
 refine ao ?_ ?_
 ·refine cT ?_ ?_ bi
  ·refine aO ma (ac 1) ?_
   exact az bW m_len (aa (ac 0) ad)
  refine ak ?_
  exact ax (av (ac 0) (ac 1))
 refine ak ?_
 exact ax ae
abbrev de:Stmt:=top 52
theorem sc__law_mixed:FnScope ["_law_script","_law_k","_law_drawn_here"] ["_law_script","_law_k"] (defScope de):=⟨rfl,rfl,rfl,by decide +kernel,rfl,by decide +kernel,by decide +kernel⟩
theorem gB {P:Program} {w:World} {K:PySem.W.Frag} {mg:Str->Option Value} {base:Heap} {k:Nat} (C__law_cell_at:Cal P w K mg base k "_law_cell_at" ["_law_script","_law_k"] aE) {f:Addr} {fd:FuncData} (Fn:Fun K "_law_mixed" "_law_mixed" de f fd):FnOk P w K mg base CX0 (k+1) f fd ["_law_script","_law_k"] (spD K aS):=by
 refine aK Fn sc__law_mixed hU ?_ iC
 intro cdv A outer s H E hr
 refine ao ?_ ?_
 ·refine aR ?_ ?_
  ·refine af aW ?_ ae
   refine af cE ?_ ae
   refine af aj ?_ ae
   refine af aj ?_ ?_
   ·exact al C__law_cell_at hr (aa (ac 0) (aa (ac 1) ad))
   exact af cE ae (ac 1)
  exact ag 2 sc__law_mixed.nd
 refine ak ?_
 refine ax ?_
 refine af aW ?_ ae
 refine af aj ?_ (ac 1)
 refine af aj ?_ ?_
 ·exact af cE (ac 2) (ac 2)
 exact af cE ae (ac 2)
abbrev dh:Stmt:=top 53
theorem sc__law_drawn:FnScope ["_law_number","_law_k","_law_drawn_here"] ["_law_number","_law_k"] (defScope dh):=⟨rfl,rfl,rfl,by decide +kernel,rfl,by decide +kernel,by decide +kernel⟩
theorem gE {P:Program} {w:World} {K:PySem.W.Frag} {mg:Str->Option Value} {base:Heap} {k:Nat} {f:Addr} {fd:FuncData} (Fn:Fun K "_law_drawn" "_law_drawn" dh f fd):FnOk P w K mg base CX0 (k+1) f fd ["_law_number","_law_k"] (spD K au):=by
 refine aK Fn sc__law_drawn hV ?_ ik
 intro cdv A outer s H E hr
 refine ao ?_ ?_
 ·refine aR ?_ ?_
  ·refine af aW ?_ ae
   refine af cE ?_ ae
   refine af aj ?_ ae
   refine af aj (ac 0) ?_
   exact af cE ae (ac 1)
  exact ag 2 sc__law_drawn.nd
 refine ak ?_
 refine ax ?_
 refine af aW ?_ ae
 refine af aj ?_ (ac 1)
 refine af aj ?_ ?_
 ·exact af cE (ac 2) (ac 2)
 exact af cE ae (ac 2)
abbrev dM:Stmt:=top 54
theorem sc__law_book:FnScope ["_law_number","_law_many","_law_deeds","_law_modes","_law_k","_law_drawn_here","_law_rows","_law_j","_law_one","_law_face"] ["_law_number"] (defScope dM):=⟨rfl,rfl,rfl,by decide +kernel,rfl,by decide +kernel,by decide +kernel⟩
theorem ib {P:Program} {w:World} {K:PySem.W.Frag} {mg:Str->Option Value} {base:Heap} {k:Nat} (C__law_drawn:Cal P w K mg base k "_law_drawn" ["_law_number","_law_k"] au) (m_range:mg "range" = none) {f:Addr} {fd:FuncData} (Fn:Fun K "_law_book" "_law_book" dM f fd):FnOk P w K mg base CX0 (k+1) f fd ["_law_number"] (spD K bj):=by
 refine aK Fn sc__law_book jI ?_ jz
 intro cdv A outer s H E hr
 refine ao ?_ ?_
 ·refine aR ?_ ?_
  ·refine af aj ae ?_
   exact af aW (ac 0) ae
  exact ag 1 sc__law_book.nd
 refine ao ?_ ?_
 ·refine aR ?_ ?_
  ·refine aU ?_
   refine aa ai ?_
   refine aa ai ?_
   refine aa ai ?_
   refine aa ai ?_
   refine aa ai ?_
   refine aa ai ?_
   refine aa ai ?_
   refine aa ai ?_
   exact aa ai (aa ai (aa ai (aa ai ad)))
  exact ag 2 sc__law_book.nd
 refine ao ?_ ?_
 ·refine aR ?_ ?_
  ·exact aU ad
  exact ag 3 sc__law_book.nd
 refine ao ?_ ?_
 ·refine gi PassesOwn.never rfl ?_ ?_ ?_
  ·exact da m_range (ac 1)
  ·exact ag 4 sc__law_book.nd
  refine ao ?_ ?_
  ·refine aR ?_ ?_
   ·refine af bB ?_ ae
    exact al C__law_drawn hr (aa (ac 0) (aa (ac 4) ad))
   exact ag 5 sc__law_book.nd
  refine ao ?_ ?_
  ·refine aR ?_ ?_
   ·exact aU ad
   exact ag 6 sc__law_book.nd
  refine ao ?_ ?_
  ·refine gi PassesOwn.never rfl ?_ ?_ ?_
   ·exact da m_range ae
   ·exact ag 7 sc__law_book.nd
   refine ao ?_ ?_
   ·refine aR ?_ ?_
    ·refine af bB ?_ ae
     refine al C__law_drawn hr ?_
     refine aa (ac 5) ?_
     refine aa ?_ ad
     exact af aj ae (ac 7)
    exact ag 8 sc__law_book.nd
   refine ak ?_
   refine aR ?_ ?_
   ·refine af aj (ac 6) ?_
    refine aU ?_
    refine aa ?_ ad
    refine aU ?_
    refine aa ?_ ?_
    ·refine av ?_ ?_
     ·refine af aj (ac 2) ?_
      exact aU (aa ai ad)
     exact af aW (ac 8) ae
    refine aa ?_ ad
    refine af aW ?_ (ac 1)
    exact af bB (ac 8) ae
   exact ag 6 sc__law_book.nd
  refine ao ?_ ?_
  ·refine aR ?_ ?_
   ·refine av ?_ ?_
    ·refine aU ?_
     exact aa ai (aa ai (aa ai (aa ai ad)))
    exact af aW (ac 5) ae
   exact ag 9 sc__law_book.nd
  refine ak ?_
  refine aR ?_ ?_
  ·refine af aj (ac 3) ?_
   refine aU ?_
   refine aa ?_ ad
   refine aU ?_
   refine aa (ac 9) ?_
   refine aa ?_ (aa (ac 6) ad)
   refine cG (cq hr) ?_ ae
   refine af aW ?_ ae
   exact af bB (ac 5) ae
  exact ag 3 sc__law_book.nd
 refine ak ?_
 refine ax ?_
 refine aU ?_
 refine aa ?_ ?_
 ·refine af aj ae ?_
  refine af aW ?_ ?_
  ·exact af bB (ac 0) ae
  refine av ?_ ?_
  ·exact aU (aa ae (aa ae ad))
  refine af aW ?_ ae
  exact af bB (ac 0) ae
 refine aa ?_ (aa (ac 3) ad)
 refine av ?_ ?_
 ·refine aU ?_
  refine aa ae ?_
  exact aa ae (aa ae (aa ae (aa ae ad)))
 refine af aW ?_ ae
 exact af bB (ac 0) ae
abbrev cY:Stmt:=top 55
theorem sc__law_event:FnScope ["_law_number","_law_button","_law_kind"] ["_law_number"] (defScope cY):=⟨rfl,rfl,rfl,by decide +kernel,rfl,by decide +kernel,by decide +kernel⟩
theorem gA {P:Program} {w:World} {K:PySem.W.Frag} {mg:Str->Option Value} {base:Heap} {k:Nat} {f:Addr} {fd:FuncData} (Fn:Fun K "_law_event" "_law_event" cY f fd):FnOk P w K mg base CX0 (k+1) f fd ["_law_number"] (spD K aF):=by
 refine aK Fn sc__law_event iK ?_ iG
 intro cdv A outer s H E hr
 refine ao ?_ ?_
 ·refine aR ?_ ?_
  ·refine av ai ?_
   refine af aW ?_ ae
   exact af bB (ac 0) ae
  exact ag 1 sc__law_event.nd
 refine ao ?_ ?_
 ·refine aR ?_ ?_
  ·exact af aW (ac 0) ae
  exact ag 2 sc__law_event.nd
 refine ao ?_ ?_
 ·refine cT ?_ ?_ bi
  ·exact aO ma (ac 2) ae
  refine ak ?_
  refine ax ?_
  exact aU (aa ai (aa (ac 1) ad))
 refine ao ?_ ?_
 ·refine cT ?_ ?_ bi
  ·exact aO ma (ac 2) ae
  refine ak ?_
  refine ax ?_
  exact aU (aa ai (aa (ac 1) ad))
 refine ak ?_
 refine ax ?_
 refine aU ?_
 refine aa ai ?_
 refine aa ?_ ad
 refine af aj ae ?_
 refine af aW ?_ ?_
 ·exact af bB (ac 0) ae
 refine av ?_ ?_
 ·exact aU (aa ae (aa ae (aa ae ad)))
 refine af aW ?_ ae
 exact af bB (ac 0) ae
abbrev eI:Stmt:=top 56
theorem jv:FnScope ["_law_number","_law_most"] ["_law_number","_law_most"] (defScope eI):=⟨rfl,rfl,rfl,by decide +kernel,rfl,by decide +kernel,by decide +kernel⟩
theorem jd {P:Program} {w:World} {K:PySem.W.Frag} {mg:Str->Option Value} {base:Heap} {k:Nat} (C__law_drawn:Cal P w K mg base k "_law_drawn" ["_law_number","_law_k"] au) (C__law_event:Cal P w K mg base k "_law_event" ["_law_number"] aF) (m_range:mg "range" = none) (m_tuple:mg "tuple" = none) {f:Addr} {fd:FuncData} (Fn:Fun K "_law_row" "_law_row" eI f fd):FnOk P w K mg base CX0 (k+1) f fd ["_law_number","_law_most"] (spD K bJ):=by
 refine aK Fn jv kO ?_ kG
 intro cdv A outer s H E hr
 refine ak ?_
 refine ax ?_
 refine bu eZ m_tuple ?_
 refine aa ?_ ad
 refine g_ (T:=["_law_k"]) rfl ?_ ?_ ?_ ?_ (front_set (by decide)) (show List.Nodup ((["_law_k"]:List Str)++(["_law_number" ,"_law_most"]:List Str)) from by decide +kernel)
 ·refine da m_range ?_
  refine af aW (ac 0) ?_
  exact af aj (ac 1) ae
 ·intro C s₃ H₃ fp hTC
  exact ag 0 (show List.Nodup (["_law_k" ,"_law_number" ,"_law_most"]:List Str) from by decide +kernel)
 ·intro C s₃ H₃ fp hTC
  exact dN
 intro C s₃ H₃ fp hTC
 refine al C__law_event hr ?_
 refine aa ?_ ad
 refine af bB ?_ ae
 refine al C__law_drawn hr ?_
 refine aa (ac 1) ?_
 refine aa ?_ ad
 exact af aj ae (ac 0)
abbrev dO:Stmt:=top 31
theorem sc_read_rows:FnScope ["text","rows"] ["text"] (defScope dO):=⟨rfl,rfl,rfl,by decide +kernel,rfl,by decide +kernel,by decide +kernel⟩
theorem iX {P:Program} {w:World} {K:PySem.W.Frag} {mg:Str->Option Value} {base:Heap} {k:Nat} {ca:Nat->Addr} (m_repr:mg "repr" = none) {W:Addr} (EK:ErrK K mg ca W) {f:Addr} {fd:FuncData} (Fn:Fun K "read_rows" "read_rows" dO f fd):FnOk P w K mg base (CXe P w) (k+1) f fd ["text"] (spX ca K bD):=by
  refine bR Fn sc_read_rows jZ ?_ jD
  intro cdv A outer s H E hr
  exact (sys_cons (sy_ofN (aR (dL (ac 0) (aa ai ad)) (ag 1 sc_read_rows.nd)))
  (sys_cons (sy_if (aO (e_ hr) (av (ac 1) (kX iQ ae)) ai)
  (sys_one (sy_raise0 EK rfl (af aj ai (az cW m_repr (aa (av (ac 1) (kX iQ ae)) ad)))))
  sys_nil)
  (sys_one (sy_ofN (ax (cF (ac 1) bU (bf (kX iQ ae))))))))
abbrev bT:Stmt:=top 32
theorem sc_read_many_modes:FnScope ["rows","many"] ["rows"] (defScope bT):=⟨rfl,rfl,rfl,by decide +kernel,rfl,by decide +kernel,by decide +kernel⟩
theorem eO {P:Program} {w:World} {K:PySem.W.Frag} {mg:Str->Option Value} {base:Heap} {k:Nat} {ca:Nat->Addr} (m_len:mg "len" = none) (m_str:mg "str" = none) (c_MODE_ROWS:Con K mg "MODE_ROWS" aD) (c_MOST_MODES:Con K mg "MOST_MODES" aX) {W:Addr} (EK:ErrK K mg ca W) {f:Addr} {fd:FuncData} (Fn:Fun K "read_many_modes" "read_many_modes" bT f fd):FnOk P w K mg base (CXe P w) (k+1) f fd ["rows"] (spX ca K aJ):=by
  refine bR Fn sc_read_many_modes eY ?_ eX
  intro cdv A outer s H E hr
  exact (sys_cons (sy_ofN (aR (af bB (af kN (az bW m_len (aa (ac 0) ad)) ae) (aQ c_MODE_ROWS)) (ag 1 sc_read_many_modes.nd)))
  (sys_cons (sy_if (fO (gS (eK (jm gZ gZ ae (ac 1) (aQ c_MOST_MODES))) (iY (aO (e_ hr) (az bW m_len (aa (ac 0) ad)) (af aj ae (af cE (ac 1) (aQ c_MODE_ROWS)))))))
  (sys_one (sy_raise0 EK rfl (af aj ai (bu dP m_str (aa (az bW m_len (aa (ac 0) ad)) ad)))))
  sys_nil)
  (sys_one (sy_ofN (ax (ac 1))))))
abbrev cU:Stmt:=top 37
theorem sc_read_number:FnScope ["word","least","most","number"] ["word","least","most"] (defScope cU):=⟨rfl,rfl,rfl,by decide +kernel,rfl,by decide +kernel,by decide +kernel⟩
theorem gl {P:Program} {w:World} {K:PySem.W.Frag} {mg:Str->Option Value} {base:Heap} {k:Nat} {ca:Nat->Addr} (m_range:mg "range" = none) (m_repr:mg "repr" = none) (m_str:mg "str" = none) {W:Addr} (EK:ErrK K mg ca W) {f:Addr} {fd:FuncData} (Fn:Fun K "read_number" "read_number" cU f fd):FnOk P w K mg base (CXe P w) (k+1) f fd ["word","least","most"] (spX ca K aI):=by
  refine bR Fn sc_read_number gH ?_ gL
  intro cdv A outer s H E hr
  exact (sys_cons (sy_ofN (gi PassesOwn.never rfl (mE m_range (ac 1) (af aj (ac 2) ae)) (ag 3 sc_read_number.nd)
  (ak (cT (aO (cq hr) (ac 0) (bu dP m_str (aa (ac 3) ad)))
  (ak (ax (ac 3)))
  bi))))
  (sys_one (sy_raise0 EK rfl (af aj (af aj (af aj (af aj (af aj ai (bu dP m_str (aa (ac 1) ad))) ai) (bu dP m_str (aa (ac 2) ad))) ai) (az cW m_repr (aa (ac 0) ad))))))
abbrev dU:Stmt:=top 33
theorem sc_read_head:FnScope ["row","words"] ["row"] (defScope dU):=⟨rfl,rfl,rfl,by decide +kernel,rfl,by decide +kernel,by decide +kernel⟩
theorem ii {P:Program} {w:World} {K:PySem.W.Frag} {mg:Str->Option Value} {base:Heap} {k:Nat} {ca:Nat->Addr} (C_read_number:CalX P w K mg base ca k "read_number" ["word","least","most"] aI) (m_len:mg "len" = none) (m_repr:mg "repr" = none) (c_MOST_BACK:Con K mg "MOST_BACK" cn) (c_MOST_HOLD:Con K mg "MOST_HOLD" ci) {W:Addr} (EK:ErrK K mg ca W) {f:Addr} {fd:FuncData} (Fn:Fun K "read_head" "read_head" dU f fd):FnOk P w K mg base (CXe P w) (k+1) f fd ["row"] (spX ca K bo):=by
  refine bR Fn sc_read_head je ?_ jw
  intro cdv A outer s H E hr
  exact (sys_cons (sy_ofN (aR (dL (ac 0) (aa ai ad)) (ag 1 sc_read_head.nd)))
  (sys_cons (sy_if (fO (gS (aO (e_ hr) (az bW m_len (aa (ac 1) ad)) ae) (gS (aO (e_ hr) (av (ac 1) ae) ai) (iY (aO (e_ hr) (av (ac 1) ae) ai)))))
  (sys_one (sy_raise0 EK rfl (af aj ai (az cW m_repr (aa (ac 0) ad)))))
  sys_nil)
  (sys_one (sy_ret (xe_tup (xa_cons (xe_call C_read_number hr (aa (av (ac 1) ae) (aa ae (aa (aQ c_MOST_HOLD) ad)))) (xa_cons (xe_call C_read_number hr (aa (av (ac 1) ae) (aa ae (aa (aQ c_MOST_BACK) ad)))) xa_nil)))))))
abbrev cb:Stmt:=top 35
theorem sc_read_mode_head:FnScope ["row","face","stays"] ["row"] (defScope cb):=⟨rfl,rfl,rfl,by decide +kernel,rfl,by decide +kernel,by decide +kernel⟩
theorem fc {P:Program} {w:World} {K:PySem.W.Frag} {mg:Str->Option Value} {base:Heap} {k:Nat} {ca:Nat->Addr} (C_mode_head:Cal P w K mg base k "mode_head" ["face","stays"] aV) (m_repr:mg "repr" = none) (c_FACES:Con K mg "FACES" dA) {W:Addr} (EK:ErrK K mg ca W) {f:Addr} {fd:FuncData} (Fn:Fun K "read_mode_head" "read_mode_head" cb f fd):FnOk P w K mg base (CXe P w) (k+1) f fd ["row"] (spX ca K aH):=by
  refine bR Fn sc_read_mode_head fz ?_ fE
  intro cdv A outer s H E hr
  exact (sys_cons (sy_ofN (gi PassesOwn.never rfl (cR (aQ c_FACES)) (ag 1 sc_read_mode_head.nd)
  (ak (gi PassesOwn.never rfl (cR (aU (aa dB (aa dB ad)))) (ag 2 sc_read_mode_head.nd)
  (ak (cT (aO (cq hr) (ac 0) (al C_mode_head hr (aa (ac 1) (aa (ac 2) ad))))
  (ak (ax (aU (aa (ac 1) (aa (ac 2) ad)))))
  bi))))))
  (sys_one (sy_raise0 EK rfl (af aj ai (az cW m_repr (aa (ac 0) ad))))))
abbrev dj:Stmt:=top 36
theorem sc_read_press:FnScope ["press","row","many","words"] ["press","row","many"] (defScope dj):=⟨rfl,rfl,rfl,by decide +kernel,rfl,by decide +kernel,by decide +kernel⟩
theorem gF {P:Program} {w:World} {K:PySem.W.Frag} {mg:Str->Option Value} {base:Heap} {k:Nat} {ca:Nat->Addr} (C_read_number:CalX P w K mg base ca k "read_number" ["word","least","most"] aI) (m_len:mg "len" = none) (m_repr:mg "repr" = none) (c_DEEDS:Con K mg "DEEDS" cu) {W:Addr} (EK:ErrK K mg ca W) {f:Addr} {fd:FuncData} (Fn:Fun K "read_press" "read_press" dj f fd):FnOk P w K mg base (CXe P w) (k+1) f fd ["press","row","many"] (spX ca K bh):=by
  refine bR Fn sc_read_press ic ?_ ir
  intro cdv A outer s H E hr
  exact (sys_cons (sy_ofN (aR (dL (ac 1) (aa ai ad)) (ag 3 sc_read_press.nd)))
  (sys_cons (sy_if (fO (gS (aO (e_ hr) (az bW m_len (aa (ac 3) ad)) ae) (gS (aO (e_ hr) (av (ac 3) ae) (ac 0)) (iY (aO l_ (av (ac 3) ae) (aQ c_DEEDS))))))
  (sys_one (sy_raise0 EK rfl (af aj (af aj (af aj ai (ac 0)) ai) (az cW m_repr (aa (ac 1) ad)))))
  sys_nil)
  (sys_one (sy_ret (xe_tup (xa_cons (xe_of (av (ac 3) ae)) (xa_cons (xe_call C_read_number hr (aa (av (ac 3) ae) (aa ae (aa (af kN (ac 2) ae) ad)))) xa_nil)))))))
abbrev dG:Stmt:=top 34
theorem sc_read_mode:FnScope ["rows","many","head","presses"] ["rows","many"] (defScope dG):=⟨rfl,rfl,rfl,by decide +kernel,rfl,by decide +kernel,by decide +kernel⟩
theorem iu {P:Program} {w:World} {K:PySem.W.Frag} {mg:Str->Option Value} {base:Heap} {k:Nat} {ca:Nat->Addr} (C_read_mode_head:CalX P w K mg base ca k "read_mode_head" ["row"] aH) (C_read_press:CalX P w K mg base ca k "read_press" ["press","row","many"] bh) (m_len:mg "len" = none) (m_range:mg "range" = none) (m_tuple:mg "tuple" = none) (c_PRESSES:Con K mg "PRESSES" aM) {f:Addr} {fd:FuncData} (Fn:Fun K "read_mode" "read_mode" dG f fd):FnOk P w K mg base (CXe P w) (k+1) f fd ["rows","many"] (spX ca K bq):=by
  refine bR Fn sc_read_mode ja ?_ jX
  intro cdv A outer s H E hr
  exact (sys_cons (sy_asg (xe_call C_read_mode_head hr (aa (av (ac 0) ae) ad)) (ag 2 sc_read_mode.nd))
  (sys_cons (sy_asgLC (i:=3) (T:=["number"]) rfl sc_read_mode.nd rfl rfl (fun _=>rfl) rfl (da m_range (az bW m_len (aa (aQ c_PRESSES) ad))) (fun C s₃ H₃ fp hTC=>(ag 0 (show List.Nodup (["number","rows","many","head","presses"]:List Str) from by decide +kernel))) (fun C s₃ H₃ fp hTC=>(xe_call C_read_press hr (aa (av (aQ c_PRESSES) (ac 0)) (aa (av (ac 1) (af aj (ac 0) ae)) (aa (ac 2) ad))))) (front_set (by decide)) (show List.Nodup ((["number"]:List Str)++(["rows","many","head","presses"]:List Str)) from by decide +kernel))
  (sys_one (sy_ofN (ax (aU (aa (av (ac 2) ae) (aa (av (ac 2) ae) (aa (bu eZ m_tuple (aa (ac 3) ad)) ad)))))))))
abbrev dH:Stmt:=top 30
theorem sc_read_book:FnScope ["text","rows","many","head","starts"] ["text"] (defScope dH):=⟨rfl,rfl,rfl,by decide +kernel,rfl,by decide +kernel,by decide +kernel⟩
theorem im {P:Program} {w:World} {K:PySem.W.Frag} {mg:Str->Option Value} {base:Heap} {k:Nat} {ca:Nat->Addr} (C_read_head:CalX P w K mg base ca k "read_head" ["row"] bo) (C_read_many_modes:CalX P w K mg base ca k "read_many_modes" ["rows"] aJ) (C_read_mode:CalX P w K mg base ca k "read_mode" ["rows","many"] bq) (C_read_rows:CalX P w K mg base ca k "read_rows" ["text"] bD) (m_range:mg "range" = none) (m_tuple:mg "tuple" = none) (c_MODE_ROWS:Con K mg "MODE_ROWS" aD) {f:Addr} {fd:FuncData} (Fn:Fun K "read_book" "read_book" dH f fd):FnOk P w K mg base (CXe P w) (k+1) f fd ["text"] (spX ca K br):=by
  refine bR Fn sc_read_book j_ ?_ kc
  intro cdv A outer s H E hr
  exact (sys_cons (sy_asg (xe_call C_read_rows hr (aa (ac 0) ad)) (ag 1 sc_read_book.nd))
  (sys_cons (sy_asg (xe_call C_read_many_modes hr (aa (ac 1) ad)) (ag 2 sc_read_book.nd))
  (sys_cons (sy_asg (xe_call C_read_head hr (aa (av (ac 1) ae) ad)) (ag 3 sc_read_book.nd))
  (sys_cons (sy_ofN (kW (T:=["number"]) rfl (i:=4) sc_read_book.nd (da m_range (ac 2)) (fun C s₃ H₃ fp hTC=>(ag 0 (show List.Nodup (["number","text","rows","many","head","starts"]:List Str) from by decide +kernel))) (fun C s₃ H₃ fp hTC=>dN) (fun C s₃ H₃ fp hTC=>(af aj ae (af cE (ac 0) (aQ c_MODE_ROWS)))) (front_set (by decide)) (show List.Nodup ((["number"]:List Str)++(["text","rows","many","head","starts"]:List Str)) from by decide +kernel)))
  (sys_one (sy_ret (xe_tup (xa_cons (xe_of (av (ac 3) ae)) (xa_cons (xe_of (av (ac 3) ae)) (xa_cons (xe_fnT eZ m_tuple (xa_cons (xe_lc (T:=["start"]) rfl rfl rfl (fun _=>rfl) rfl (cR (ac 4)) (fun C s₃ H₃ fp hTC=>(ag 0 (show List.Nodup (["start","text","rows","many","head","starts"]:List Str) from by decide +kernel))) (fun C s₃ H₃ fp hTC=>(xe_call C_read_mode hr (aa (cF (ac 2) (bf (ac 0)) (bf (af aj (ac 0) (aQ c_MODE_ROWS)))) (aa (ac 3) ad)))) (front_set (by decide)) (show List.Nodup ((["start"]:List Str)++(["text","rows","many","head","starts"]:List Str)) from by decide +kernel)) xa_nil)) xa_nil))))))))))
abbrev fD:Stmt:=top 48
theorem kT:FnScope ["text"] ["text"] (defScope fD):=⟨rfl,rfl,rfl,by decide +kernel,rfl,by decide +kernel,by decide +kernel⟩
theorem ky {P:Program} {w:World} {K:PySem.W.Frag} {mg:Str->Option Value} {base:Heap} {k:Nat} (m_all:mg "all" = none) (c_FIGURES:Con K mg "FIGURES" et) {f:Addr} {fd:FuncData} (Fn:Fun K "is_many" "is_many" fD f fd):FnOk P w K mg base CX0 (k+1) f fd ["text"] (spD K b_):=by
 refine aK Fn kT lz ?_ lx
 intro cdv A outer s H E hr
 refine ak ?_
 refine ax ?_
 refine bH ?_ ?_
 ·exact cG (e_ hr) (ac 0) ai
 refine bH ?_ ?_
 ·exact cG (e_ hr) (av (ac 0) ae) ai
 refine cB ?_
 refine az (ku rfl) m_all ?_
 refine aa ?_ ad
 refine g_ (T:=["sign"]) rfl ?_ ?_ ?_ ?_ (front_set (by decide)) (show List.Nodup ((["sign"]:List Str)++(["text"]:List Str)) from by decide +kernel)
 ·exact cR (ac 0)
 ·intro C s₃ H₃ fp hTC
  exact ag 0 (show List.Nodup (["sign" ,"text"]:List Str) from by decide +kernel)
 ·intro C s₃ H₃ fp hTC
  exact dN
 intro C s₃ H₃ fp hTC
 exact cG nR (ac 0) (aQ c_FIGURES)
abbrev dS:Stmt:=top 49
theorem sc_read_many:FnScope ["text","start","number","place"] ["text"] (defScope dS):=⟨rfl,rfl,rfl,by decide +kernel,rfl,by decide +kernel,by decide +kernel⟩
theorem il {P:Program} {w:World} {K:PySem.W.Frag} {mg:Str->Option Value} {base:Heap} {k:Nat} (m_int:mg "int" = none) (m_len:mg "len" = none) (m_range:mg "range" = none) (c_BLOCK:Con K mg "BLOCK" cy) (c_BLOCK_FIGURES:Con K mg "BLOCK_FIGURES" aN) {f:Addr} {fd:FuncData} (Fn:Fun K "read_many" "read_many" dS f fd):FnOk P w K mg base CX0 (k+1) f fd ["text"] (spD K bE):=by
 refine aK Fn sc_read_many ke ?_ jh
 intro cdv A outer s H E hr
 refine ao ?_ ?_
 ·refine aR ?_ ?_
  ·refine af aW ?_ (aQ c_BLOCK_FIGURES)
   exact az iv m_len (aa (ac 0) ad)
  exact ag 1 sc_read_many.nd
 refine ao ?_ ?_
 ·refine aR ?_ ?_
  ·refine bu lf m_int ?_
   refine aa ?_ ad
   refine af aj ai ?_
   refine bZ (ac 0) bU ?_
   exact bf (ac 1)
  exact ag 2 sc_read_many.nd
 refine ao ?_ ?_
 ·refine gi PassesOwn.never rfl ?_ ?_ ?_
  ·refine mF m_range (ac 1) ?_ (aQ c_BLOCK_FIGURES)
   exact az iv m_len (aa (ac 0) ad)
  ·exact ag 3 sc_read_many.nd
  refine ak ?_
  refine aR ?_ ?_
  ·refine af aj ?_ ?_
   ·exact af cE (ac 2) (aQ c_BLOCK)
   refine bu lf m_int ?_
   refine aa ?_ ad
   refine bZ (ac 0) ?_ ?_
   ·exact bf (ac 3)
   refine bf ?_
   exact af aj (ac 3) (aQ c_BLOCK_FIGURES)
  exact ag 2 sc_read_many.nd
 refine ak ?_
 exact ax (ac 2)
abbrev df:Stmt:=top 47
theorem sc_read_event:FnScope ["word","sign","rest"] ["word"] (defScope df):=⟨rfl,rfl,rfl,by decide +kernel,rfl,by decide +kernel,by decide +kernel⟩
theorem gM {P:Program} {w:World} {K:PySem.W.Frag} {mg:Str->Option Value} {base:Heap} {k:Nat} {ca:Nat->Addr} (C_is_many:Cal P w K mg base k "is_many" ["text"] b_) (C_read_many:Cal P w K mg base k "read_many" ["text"] bE) (m_repr:mg "repr" = none) (c_BUTTONS:Con K mg "BUTTONS" cz) {W:Addr} (EK:ErrK K mg ca W) {f:Addr} {fd:FuncData} (Fn:Fun K "read_event" "read_event" df f fd):FnOk P w K mg base (CXe P w) (k+1) f fd ["word"] (spX ca K aC):=by
  refine bR Fn sc_read_event iz ?_ hJ
  intro cdv A outer s H E hr
  exact (sys_cons (sy_ofN (aR (bZ (ac 0) bU (bf ae)) (ag 1 sc_read_event.nd)))
  (sys_cons (sy_ofN (aR (bZ (ac 0) (bf ae) bU) (ag 2 sc_read_event.nd)))
  (sys_cons (sy_ofN (cT (fO (iy (aO (cq hr) (ac 1) ai) (fX (aO lS (ac 2) (aQ c_BUTTONS)))))
  (ak (ax (aU (aa ai (aa (ac 2) ad)))))
  bi))
  (sys_cons (sy_ofN (cT (fO (iy (aO (cq hr) (ac 1) ai) (fX (aO lS (ac 2) (aQ c_BUTTONS)))))
  (ak (ax (aU (aa ai (aa (ac 2) ad)))))
  bi))
  (sys_cons (sy_ofN (cT (fO (iy (aO (cq hr) (ac 1) ai) (fX (dX (al C_is_many hr (aa (ac 2) ad))))))
  (ak (ax (aU (aa ai (aa (al C_read_many hr (aa (ac 2) ad)) ad)))))
  bi))
  (sys_one (sy_raise0 EK rfl (af aj ai (az cW m_repr (aa (ac 0) ad))))))))))
abbrev eQ:Stmt:=top 46
theorem j7:FnScope ["text"] ["text"] (defScope eQ):=⟨rfl,rfl,rfl,by decide +kernel,rfl,by decide +kernel,by decide +kernel⟩
theorem jx {P:Program} {w:World} {K:PySem.W.Frag} {mg:Str->Option Value} {base:Heap} {k:Nat} {ca:Nat->Addr} (C_read_event:CalX P w K mg base ca k "read_event" ["word"] aC) (m_tuple:mg "tuple" = none) {f:Addr} {fd:FuncData} (Fn:Fun K "read_row" "read_row" eQ f fd):FnOk P w K mg base (CXe P w) (k+1) f fd ["text"] (spX ca K bL):=by
 refine bR Fn j7 kS ?_ kg
 intro cdv A outer s H E hr
 exact (sys_cons (sy_ofN (cT (aO (cq hr) (ac 0) ai)
 (ak (ax (aU ad)))
 bi))
 (sys_one (sy_ret (xe_fnT eZ m_tuple (xa_cons (xe_lc (T:=["word"]) rfl rfl rfl (fun _=>rfl) rfl (cR (dL (ac 0) (aa ai ad))) (fun C s₃ H₃ fp hTC=>(ag 0 (show List.Nodup (["word","text"]:List Str) from by decide +kernel))) (fun C s₃ H₃ fp hTC=>(xe_call C_read_event hr (aa (ac 0) ad))) (front_set (by decide)) (show List.Nodup ((["word"]:List Str)++(["text"]:List Str)) from by decide +kernel)) xa_nil)))))
abbrev dE:Stmt:=top 59
theorem iS:FnScope ["_law_kind","_law_text"] ["_law_kind","_law_text"] (defScope dE):=⟨rfl,rfl,rfl,by decide +kernel,rfl,by decide +kernel,by decide +kernel⟩
theorem iP {P:Program} {w:World} {K:PySem.W.Frag} {mg:Str->Option Value} {base:Heap} {k:Nat} {ca:Nat->Addr} (C_read_book:CalX P w K mg base ca k "read_book" ["text"] br) (C_read_row:CalX P w K mg base ca k "read_row" ["text"] bL) {f:Addr} {fd:FuncData} (Fn:Fun K "_law_read" "_law_read" dE f fd):FnOk P w K mg base (CXe P w) (k+1) f fd ["_law_kind","_law_text"] (spX ca K bC):=by
 refine bR Fn iS ji ?_ jy
 intro cdv A outer s H E hr
 exact (sys_cons (sy_if (aO (cq hr) (ac 0) ae)
 (sys_one (sy_ret (xe_call C_read_book hr (aa (ac 1) ad))))
 sys_nil)
 (sys_one (sy_ret (xe_call C_read_row hr (aa (ac 1) ad)))))
theorem lam_1 {P:Program} {w:World} {K:PySem.W.Frag} {mg:Str->Option Value} {base:Heap} {k:Nat} {ca:Nat->Addr} (C__law_read:CalX P w K mg base ca k "_law_read" ["_law_kind","_law_text"] bC):LamOkX P w K mg base ca (k+1) T_1 (viaEX 2 gl_1):=by
 refine lam_okX (t:=T_1) (g:=gl_1) (fun cl f cd A outer s H E S hr=>?_) (lam_bd fun _ _ _ _ us hl=>by cases us with | nil=>rfl | cons a b=>cases hl)
 exact (xe_call C__law_read hr (aa (ac 1) (aa (ac 0) ad)))
abbrev dJ:Stmt:=top 57
theorem sc__law_told:FnScope ["_law_deed","_law_found","e","_law_kinds"] ["_law_deed"] (defScope dJ):=⟨rfl,rfl,rfl,by decide +kernel,rfl,by decide +kernel,by decide +kernel⟩
theorem iT {P:Program} {w:World} {K:PySem.W.Frag} {mg:Str->Option Value} {base:Heap} {k:Nat} {ca:Nat->Addr} (m_ValueError:mg "ValueError" = none) (m_isinstance:mg "isinstance" = none) (LO:LOkX P w K mg base ca k LLX) {W:Addr} (EK:ErrK K mg ca W) {f:Addr} {fd:FuncData} (Fn:Fun K "_law_told" "_law_told" dJ f fd):FnOk P w K mg base CX0 (k+1) f fd ["_law_deed"] (spD K bp):=by
 refine aK Fn sc__law_told jU ?_ jO
 intro cdv A outer s H E hr
 refine nM 2 1 EK rfl rfl rfl rfl rfl sc__law_told.nd (fun pins E=>(xe_tup (xa_cons (xe_of ai) (xa_cons (xe_callL0 0 LO hr) xa_nil)))) ?_ ?_ (ac 1)
 ·intro pins E
  exact ag 1 sc__law_told.nd
 intro pins ea oe c hc2 hcl
 refine ao ?_ ?_
 ·refine aR ?_ ?_
  ·refine mi ?_
   refine aa ?_ ?_
   ·exact kj 2 (EK.two c hc2) (List.mem_append_right _ (List.mem_singleton.mpr rfl)) hcl (EK.k0 c hc2) (nm_own EK.m0) m_isinstance
   refine aa ?_ ad
   exact kj 2 (EK.two c hc2) (List.mem_append_right _ (List.mem_singleton.mpr rfl)) hcl (EK.k1 c hc2) (nm_own EK.m1) m_isinstance
  exact ag 3 sc__law_told.nd
 refine ao ?_ ?_
 ·refine aR ?_ ?_
  ·refine aU ?_
   refine aa ai ?_
   refine aa ?_ ad
   exact kX iQ ae
  exact ag 1 sc__law_told.nd
 refine ak ?_
 refine cT ?_ ?_ bi
 ·refine fO ?_
  refine iy ?_ ?_
  ·refine dX ?_
   exact kj 2 (EK.two c hc2) (List.mem_append_right _ (List.mem_singleton.mpr rfl)) hcl (EK.kv c hc2) (nm_blt m_ValueError) m_isinstance
  refine fX ?_
  refine aO nv ?_ ae
  exact mG (ac 3) (aa dB ad)
 refine ak ?_
 refine aR ?_ ?_
 ·refine aU ?_
  refine aa ai ?_
  refine aa ?_ ad
  exact mQ (ac 3) (aa dB ad)
 exact ag 1 sc__law_told.nd
abbrev dQ:Stmt:=top 58
theorem sc__law_bent:FnScope ["_law_text","_law_number","_law_at","_law_sign","_law_rows","_law_row_here","_law_ahead","_law_behind","_law_twice","_law_some"] ["_law_text","_law_number"] (defScope dQ):=⟨rfl,rfl,rfl,by decide +kernel,rfl,by decide +kernel,by decide +kernel⟩
theorem iA {P:Program} {w:World} {K:PySem.W.Frag} {mg:Str->Option Value} {base:Heap} {k:Nat} (m_len:mg "len" = none) {f:Addr} {fd:FuncData} (Fn:Fun K "_law_bent" "_law_bent" dQ f fd):FnOk P w K mg base CX0 (k+1) f fd ["_law_text","_law_number"] (spD K bz):=by
 refine aK Fn sc__law_bent jR ?_ i_
 intro cdv A outer s H E hr
 refine ao ?_ ?_
 ·refine aR ?_ ?_
  ·refine af aW (ac 1) ?_
   refine af aj ?_ ae
   exact az iv m_len (aa (ac 0) ad)
  exact ag 2 sc__law_bent.nd
 refine ao ?_ ?_
 ·refine aR ?_ ?_
  ·refine av ai ?_
   refine af aW ?_ ae
   exact af bB (ac 1) ae
  exact ag 3 sc__law_bent.nd
 refine ao ?_ ?_
 ·refine aR ?_ ?_
  ·exact dL (ac 0) (aa ai ad)
  exact ag 4 sc__law_bent.nd
 refine ao ?_ ?_
 ·refine aR ?_ ?_
  ·refine af aW ?_ ?_
   ·exact af bB (ac 1) ae
   exact az bW m_len (aa (ac 4) ad)
  exact ag 5 sc__law_bent.nd
 refine ao ?_ ?_
 ·refine ox (i:=6) (j:=7) rfl sc__law_bent.nd ?_
  refine aa ?_ ?_
  ·refine bZ (ac 0) bU ?_
   exact bf (ac 2)
  refine aa ?_ ad
  refine bZ (ac 0) ?_ bU
  refine bf ?_
  exact af aj (ac 2) ae
 refine kD 9 sc__law_bent.nd ?_ ?_
 ·refine aa ?_ ?_
  ·refine af aj ?_ ?_
   ·exact af aj (ac 6) (ac 3)
   refine bZ (ac 0) ?_ bU
   exact bf (ac 2)
  refine aa ?_ ?_
  ·exact af aj (ac 6) (ac 7)
  refine aa ?_ ad
  refine af aj ?_ (ac 7)
  exact af aj (ac 6) (ac 3)
 refine ek ?_ ?_
 ·refine kU ?_
  refine aR ?_ ?_
  ·refine af aj ?_ ?_
   ·refine af aj ?_ ?_
    ·refine cF (ac 4) bU ?_
     exact bf (ac 5)
    refine cF (ac 4) ?_ ?_
    ·exact bf (ac 5)
    refine bf ?_
    exact af aj (ac 5) ae
   refine cF (ac 4) ?_ bU
   exact bf (ac 5)
  exact ag 8 sc__law_bent.nd
 refine ek ?_ ?_
 ·refine kK 9 ?_
  exact fT ai (aa (ac 8) ad)
 refine ek ?_ ?_
 ·refine kK 9 ?_
  refine fT ai ?_
  refine aa ?_ ad
  refine af aj ?_ ?_
  ·refine cF (ac 4) bU ?_
   exact bf (ac 5)
  refine cF (ac 4) ?_ bU
  refine bf ?_
  exact af aj (ac 5) ae
 refine kR ?_
 refine ak ?_
 refine ax ?_
 refine av (ac 9) ?_
 refine af aW ?_ ae
 exact af bB (ac 1) ae
abbrev eG:Stmt:=top 2
theorem jK:FnScope ["thing"] ["thing"] (defScope eG):=⟨rfl,rfl,rfl,by decide +kernel,rfl,by decide +kernel,by decide +kernel⟩
theorem jo {P:Program} {w:World} {K:PySem.W.Frag} {mg:Str->Option Value} {base:Heap} {k:Nat} (m_bool:mg "bool" = none) (m_int:mg "int" = none) (m_isinstance:mg "isinstance" = none) {f:Addr} {fd:FuncData} (Fn:Fun K "is_whole" "is_whole" eG f fd):FnOk P w K mg base CX0 (k+1) f fd ["thing"] (spD K bK):=by
 refine aK Fn jK kP ?_ kA
 intro cdv A outer s H E hr
 refine ak ?_
 refine ax ?_
 refine bH ?_ ?_
 ·exact bX m_isinstance m_int (ac 0)
 refine cB ?_
 refine nQ ?_
 exact bX m_isinstance m_bool (ac 0)
abbrev fv:Stmt:=top 3
theorem kq:FnScope ["thing","least"] ["thing","least"] (defScope fv):=⟨rfl,rfl,rfl,by decide +kernel,rfl,by decide +kernel,by decide +kernel⟩
theorem kL {P:Program} {w:World} {K:PySem.W.Frag} {mg:Str->Option Value} {base:Heap} {k:Nat} (C_is_whole:Cal P w K mg base k "is_whole" ["thing"] bK) {f:Addr} {fd:FuncData} (Fn:Fun K "is_from" "is_from" fv f fd):FnOk P w K mg base CX0 (k+1) f fd ["thing","least"] (spD K bV):=by
 refine aK Fn kq lA ?_ lN
 intro cdv A outer s H E hr
 refine ak ?_
 refine ax ?_
 refine bH ?_ ?_
 ·exact al C_is_whole hr (aa (ac 0) ad)
 refine cB ?_
 exact cG gZ (ac 1) (ac 0)
abbrev dI:Stmt:=top 4
theorem iL:FnScope ["thing","least","most"] ["thing","least","most"] (defScope dI):=⟨rfl,rfl,rfl,by decide +kernel,rfl,by decide +kernel,by decide +kernel⟩
theorem iW {P:Program} {w:World} {K:PySem.W.Frag} {mg:Str->Option Value} {base:Heap} {k:Nat} (C_is_from:Cal P w K mg base k "is_from" ["thing","least"] bV) {f:Addr} {fd:FuncData} (Fn:Fun K "is_within" "is_within" dI f fd):FnOk P w K mg base CX0 (k+1) f fd ["thing","least","most"] (spD K aZ):=by
 refine aK Fn iL jS ?_ jp
 intro cdv A outer s H E hr
 refine ak ?_
 refine ax ?_
 refine bH ?_ ?_
 ·exact al C_is_from hr (aa (ac 0) (aa (ac 1) ad))
 refine cB ?_
 exact cG gZ (ac 0) (ac 2)
abbrev cQ:Stmt:=top 6
theorem gh:FnScope ["thing","many"] ["thing","many"] (defScope cQ):=⟨rfl,rfl,rfl,by decide +kernel,rfl,by decide +kernel,by decide +kernel⟩
theorem f_ {P:Program} {w:World} {K:PySem.W.Frag} {mg:Str->Option Value} {base:Heap} {k:Nat} (m_isinstance:mg "isinstance" = none) (m_len:mg "len" = none) (m_tuple:mg "tuple" = none) {f:Addr} {fd:FuncData} (Fn:Fun K "is_tuple_of" "is_tuple_of" cQ f fd):FnOk P w K mg base CX0 (k+1) f fd ["thing","many"] (spD K aA):=by
 refine aK Fn gh gG ?_ gC
 intro cdv A outer s H E hr
 refine ak ?_
 refine ax ?_
 refine bH ?_ ?_
 ·exact bX m_isinstance m_tuple (ac 0)
 refine cB ?_
 refine cG (cq hr) ?_ (ac 1)
 exact az bW m_len (aa (ac 0) ad)
abbrev eL:Stmt:=top 1
theorem jY:FnScope ["thing"] ["thing"] (defScope eL):=⟨rfl,rfl,rfl,by decide +kernel,rfl,by decide +kernel,by decide +kernel⟩
theorem iZ {P:Program} {w:World} {K:PySem.W.Frag} {mg:Str->Option Value} {base:Heap} {k:Nat} (m_bool:mg "bool" = none) (m_isinstance:mg "isinstance" = none) {f:Addr} {fd:FuncData} (Fn:Fun K "is_truth" "is_truth" eL f fd):FnOk P w K mg base CX0 (k+1) f fd ["thing"] (spD K bG):=by
 refine aK Fn jY kI ?_ kC
 intro cdv A outer s H E hr
 refine ak ?_
 refine ax ?_
 exact bX m_isinstance m_bool (ac 0)
abbrev dY:Stmt:=top 5
theorem iH:FnScope ["thing","words"] ["thing","words"] (defScope dY):=⟨rfl,rfl,rfl,by decide +kernel,rfl,by decide +kernel,by decide +kernel⟩
theorem hZ {P:Program} {w:World} {K:PySem.W.Frag} {mg:Str->Option Value} {base:Heap} {k:Nat} (m_isinstance:mg "isinstance" = none) (m_str:mg "str" = none) {f:Addr} {fd:FuncData} (Fn:Fun K "is_one_of" "is_one_of" dY f fd):FnOk P w K mg base CX0 (k+1) f fd ["thing","words"] (spD K be):=by
 refine aK Fn iH j8 ?_ jF
 intro cdv A outer s H E hr
 refine ak ?_
 refine ax ?_
 refine bH ?_ ?_
 ·exact bX m_isinstance m_str (ac 0)
 refine cB ?_
 exact cG lS (ac 0) (ac 1)
abbrev gz:Stmt:=top 19
theorem lu:FnScope ["thing","many"] ["thing","many"] (defScope gz):=⟨rfl,rfl,rfl,by decide +kernel,rfl,by decide +kernel,by decide +kernel⟩
theorem lK {P:Program} {w:World} {K:PySem.W.Frag} {mg:Str->Option Value} {base:Heap} {k:Nat} (C_is_one_of:Cal P w K mg base k "is_one_of" ["thing","words"] be) (C_is_tuple_of:Cal P w K mg base k "is_tuple_of" ["thing","many"] aA) (C_is_within:Cal P w K mg base k "is_within" ["thing","least","most"] aZ) (c_DEEDS:Con K mg "DEEDS" cu) {f:Addr} {fd:FuncData} (Fn:Fun K "is_row" "is_row" gz f fd):FnOk P w K mg base CX0 (k+1) f fd ["thing","many"] (spD K cj):=by
 refine aK Fn lu mB ?_ mh
 intro cdv A outer s H E hr
 refine ak ?_
 refine ax ?_
 refine bH ?_ ?_
 ·exact al C_is_tuple_of hr (aa (ac 0) (aa ae ad))
 refine bH ?_ ?_
 ·exact al C_is_one_of hr (aa (av (ac 0) ae) (aa (aQ c_DEEDS) ad))
 refine cB ?_
 refine al C_is_within hr ?_
 refine aa (av (ac 0) ae) ?_
 refine aa ae ?_
 refine aa ?_ ad
 exact af kN (ac 1) ae
abbrev eM:Stmt:=top 18
theorem jj:FnScope ["thing","many"] ["thing","many"] (defScope eM):=⟨rfl,rfl,rfl,by decide +kernel,rfl,by decide +kernel,by decide +kernel⟩
theorem jk {P:Program} {w:World} {K:PySem.W.Frag} {mg:Str->Option Value} {base:Heap} {k:Nat} (C_is_row:Cal P w K mg base k "is_row" ["thing","many"] cj) (C_is_tuple_of:Cal P w K mg base k "is_tuple_of" ["thing","many"] aA) (m_all:mg "all" = none) (m_len:mg "len" = none) (c_PRESSES:Con K mg "PRESSES" aM) {f:Addr} {fd:FuncData} (Fn:Fun K "are_rows" "are_rows" eM f fd):FnOk P w K mg base CX0 (k+1) f fd ["thing","many"] (spD K bM):=by
 refine aK Fn jj ko ?_ kJ
 intro cdv A outer s H E hr
 refine ao ?_ ?_
 ·refine cT ?_ ?_ bi
  ·refine eK ?_
   refine dX ?_
   refine al C_is_tuple_of hr ?_
   refine aa (ac 0) ?_
   refine aa ?_ ad
   exact az bW m_len (aa (aQ c_PRESSES) ad)
  refine ak ?_
  exact ax dB
 refine ak ?_
 refine ax ?_
 refine az (ku rfl) m_all ?_
 refine aa ?_ ad
 refine g_ (T:=["part"]) rfl ?_ ?_ ?_ ?_ (front_set (by decide)) (show List.Nodup ((["part"]:List Str)++(["thing" ,"many"]:List Str)) from by decide +kernel)
 ·exact cR (ac 0)
 ·intro C s₃ H₃ fp hTC
  exact ag 0 (show List.Nodup (["part" ,"thing" ,"many"]:List Str) from by decide +kernel)
 ·intro C s₃ H₃ fp hTC
  exact dN
 intro C s₃ H₃ fp hTC
 exact al C_is_row hr (aa (ac 0) (aa (ac 2) ad))
abbrev ft:Stmt:=top 17
theorem kE:FnScope ["thing","many"] ["thing","many"] (defScope ft):=⟨rfl,rfl,rfl,by decide +kernel,rfl,by decide +kernel,by decide +kernel⟩
theorem kx {P:Program} {w:World} {K:PySem.W.Frag} {mg:Str->Option Value} {base:Heap} {k:Nat} (C_are_rows:Cal P w K mg base k "are_rows" ["thing","many"] bM) (C_is_one_of:Cal P w K mg base k "is_one_of" ["thing","words"] be) (C_is_truth:Cal P w K mg base k "is_truth" ["thing"] bG) (C_is_tuple_of:Cal P w K mg base k "is_tuple_of" ["thing","many"] aA) (c_FACES:Con K mg "FACES" dA) {f:Addr} {fd:FuncData} (Fn:Fun K "is_mode" "is_mode" ft f fd):FnOk P w K mg base CX0 (k+1) f fd ["thing","many"] (spD K bP):=by
 refine aK Fn kE lL ?_ lp
 intro cdv A outer s H E hr
 refine ao ?_ ?_
 ·refine cT ?_ ?_ bi
  ·refine eK ?_
   refine dX ?_
   exact al C_is_tuple_of hr (aa (ac 0) (aa ae ad))
  refine ak ?_
  exact ax dB
 refine ak ?_
 refine ax ?_
 refine bH ?_ ?_
 ·exact al C_is_one_of hr (aa (av (ac 0) ae) (aa (aQ c_FACES) ad))
 refine bH ?_ ?_
 ·exact al C_is_truth hr (aa (av (ac 0) ae) ad)
 refine cB ?_
 exact al C_are_rows hr (aa (av (ac 0) ae) (aa (ac 1) ad))
abbrev d_:Stmt:=top 16
theorem iD:FnScope ["thing"] ["thing"] (defScope d_):=⟨rfl,rfl,rfl,by decide +kernel,rfl,by decide +kernel,by decide +kernel⟩
theorem iF {P:Program} {w:World} {K:PySem.W.Frag} {mg:Str->Option Value} {base:Heap} {k:Nat} (C_is_mode:Cal P w K mg base k "is_mode" ["thing","many"] bP) (m_all:mg "all" = none) (m_isinstance:mg "isinstance" = none) (m_len:mg "len" = none) (m_tuple:mg "tuple" = none) (c_MOST_MODES:Con K mg "MOST_MODES" aX) {f:Addr} {fd:FuncData} (Fn:Fun K "are_modes" "are_modes" d_ f fd):FnOk P w K mg base CX0 (k+1) f fd ["thing"] (spD K bw):=by
 refine aK Fn iD jQ ?_ ka
 intro cdv A outer s H E hr
 refine ao ?_ ?_
 ·refine cT ?_ ?_ bi
  ·refine fO ?_
   refine gS ?_ ?_
   ·refine eK ?_
    refine dX ?_
    exact bX m_isinstance m_tuple (ac 0)
   refine iY ?_
   refine eK ?_
   refine jm gZ gZ ae ?_ (aQ c_MOST_MODES)
   exact az bW m_len (aa (ac 0) ad)
  refine ak ?_
  exact ax dB
 refine ak ?_
 refine ax ?_
 refine az (ku rfl) m_all ?_
 refine aa ?_ ad
 refine g_ (T:=["part"]) rfl ?_ ?_ ?_ ?_ (front_set (by decide)) (show List.Nodup ((["part"]:List Str)++(["thing"]:List Str)) from by decide +kernel)
 ·exact cR (ac 0)
 ·intro C s₃ H₃ fp hTC
  exact ag 0 (show List.Nodup (["part" ,"thing"]:List Str) from by decide +kernel)
 ·intro C s₃ H₃ fp hTC
  exact dN
 intro C s₃ H₃ fp hTC
 refine al C_is_mode hr ?_
 refine aa (ac 0) ?_
 refine aa ?_ ad
 exact az bW m_len (aa (ac 1) ad)
abbrev fF:Stmt:=top 15
theorem kz:FnScope ["thing"] ["thing"] (defScope fF):=⟨rfl,rfl,rfl,by decide +kernel,rfl,by decide +kernel,by decide +kernel⟩
theorem kF {P:Program} {w:World} {K:PySem.W.Frag} {mg:Str->Option Value} {base:Heap} {k:Nat} (C_are_modes:Cal P w K mg base k "are_modes" ["thing"] bw) (C_is_tuple_of:Cal P w K mg base k "is_tuple_of" ["thing","many"] aA) (C_is_within:Cal P w K mg base k "is_within" ["thing","least","most"] aZ) (c_MOST_BACK:Con K mg "MOST_BACK" cn) (c_MOST_HOLD:Con K mg "MOST_HOLD" ci) {f:Addr} {fd:FuncData} (Fn:Fun K "is_book" "is_book" fF f fd):FnOk P w K mg base CX0 (k+1) f fd ["thing"] (spD K ce):=by
 refine aK Fn kz lO ?_ ly
 intro cdv A outer s H E hr
 refine ao ?_ ?_
 ·refine cT ?_ ?_ bi
  ·refine eK ?_
   refine dX ?_
   exact al C_is_tuple_of hr (aa (ac 0) (aa ae ad))
  refine ak ?_
  exact ax dB
 refine ak ?_
 refine ax ?_
 refine bH ?_ ?_
 ·refine al C_is_within hr ?_
  exact aa (av (ac 0) ae) (aa ae (aa (aQ c_MOST_HOLD) ad))
 refine bH ?_ ?_
 ·refine al C_is_within hr ?_
  exact aa (av (ac 0) ae) (aa ae (aa (aQ c_MOST_BACK) ad))
 refine cB ?_
 exact al C_are_modes hr (aa (av (ac 0) ae) ad)
abbrev dC:Stmt:=top 60
theorem ip:FnScope ["_law_kind","_law_thing","_law_text"] ["_law_kind","_law_thing","_law_text"] (defScope dC):=⟨rfl,rfl,rfl,by decide +kernel,rfl,by decide +kernel,by decide +kernel⟩
theorem iN {P:Program} {w:World} {K:PySem.W.Frag} {mg:Str->Option Value} {base:Heap} {k:Nat} (C_book_text:Cal P w K mg base k "book_text" ["book"] bg) (C_is_book:Cal P w K mg base k "is_book" ["thing"] ce) (C_row_text:Cal P w K mg base k "row_text" ["row"] a_) (m_isinstance:mg "isinstance" = none) (m_tuple:mg "tuple" = none) {f:Addr} {fd:FuncData} (Fn:Fun K "_law_good" "_law_good" dC f fd):FnOk P w K mg base CX0 (k+1) f fd ["_law_kind","_law_thing","_law_text"] (spD K bx):=by
 refine aK Fn ip ju ?_ jn
 intro cdv A outer s H E hr
 refine ao ?_ ?_
 ·refine cT ?_ ?_ bi
  ·exact aO (cq hr) (ac 0) ae
  refine ak ?_
  refine ax ?_
  refine bH ?_ ?_
  ·refine cG nO ?_ dB
   exact al C_is_book hr (aa (ac 1) ad)
  refine cB ?_
  refine cG (cq hr) ?_ (ac 2)
  exact al C_book_text hr (aa (ac 1) ad)
 refine ak ?_
 refine ax ?_
 refine bH ?_ ?_
 ·exact bX m_isinstance m_tuple (ac 1)
 refine cB ?_
 refine cG (cq hr) ?_ (ac 2)
 exact al C_row_text hr (aa (ac 1) ad)
abbrev cV:Stmt:=top 61
theorem sc_law:FnScope ["_law_script","_law_number","_law_kind","_law_text","_law_k","_law_found"] ["_law_script"] (defScope cV):=⟨rfl,rfl,rfl,by decide +kernel,rfl,by decide +kernel,by decide +kernel⟩
theorem nS {P:Program} {w:World} {K:PySem.W.Frag} {mg:Str->Option Value} {base:Heap} {k:Nat} {ct:CTab} (C__law_bent:Cal P w K mg base k "_law_bent" ["_law_text","_law_number"] bz) (C__law_book:Cal P w K mg base k "_law_book" ["_law_number"] bj) (C__law_drawn:Cal P w K mg base k "_law_drawn" ["_law_number","_law_k"] au) (C__law_good:Cal P w K mg base k "_law_good" ["_law_kind","_law_thing","_law_text"] bx) (C__law_mixed:Cal P w K mg base k "_law_mixed" ["_law_script","_law_k"] aS) (C__law_row:Cal P w K mg base k "_law_row" ["_law_number","_law_most"] bJ) (C__law_told:Cal P w K mg base k "_law_told" ["_law_deed"] bp) (C_book_text:Cal P w K mg base k "book_text" ["book"] bg) (C_row_text:Cal P w K mg base k "row_text" ["row"] a_) (m_range:mg "range" = none) (hq:ct.q=("law.<locals>.<lambda>" : Str)) (TB:TabBase mg [ct] base) {f:Addr} {fd:FuncData} (Fn:FunC K "law" "law" cV f fd ct.c):FnOk P w K mg base CX0 (k+1) f fd ["_law_script"] (spT K gp ct):=by
 refine mP Fn sc_law oE ?_ oD
 intro A outer s H E hr hT
 have Lm1:=one_lam2 (X:=(cxOf CX0 P w K mg base ["_law_script","_law_number","_law_kind","_law_text","_law_k","_law_found"] "law" (defScope cV) f (.ref ct.c) A outer s H E).nox) (t:=T_1) (ct:=ct) (x:="_law_text") (y:="_law_kind") (c:=s.heap.objs.size+2) (d:=s.heap.objs.size+1) (j:=3) (l:=2) TB hT hq.symm rfl hq.symm (fun _=>rfl) rfl rfl rfl rfl rfl rfl rfl rfl (by decide) (fun h=>absurd (Nat.add_left_cancel h) (by decide)) rfl rfl rfl (by decide) rfl (by decide +kernel) (by decide +kernel) rfl rfl (by decide +kernel)
 refine ao ?_ ?_
 ·refine aR ?_ ?_
  ·exact al C__law_mixed hr (aa (ac 0) (aa ae ad))
  exact ag 1 sc_law.nd
 refine ao ?_ ?_
 ·refine aR ?_ ?_
  ·exact af aW (ac 1) ae
  exact ag 2 sc_law.nd
 refine ao ?_ ?_
 ·refine aR ?_ ?_
  ·refine al C_row_text hr ?_
   refine aa ?_ ad
   refine al C__law_row hr ?_
   refine aa ?_ (aa ae ad)
   exact al C__law_mixed hr (aa (ac 0) (aa ae ad))
  exact ag 3 sc_law.nd
 refine ao ?_ ?_
 ·refine cT ?_ ?_ bi
  ·exact aO (cq hr) (ac 2) ae
  refine ak ?_
  refine aR ?_ ?_
  ·refine al C_book_text hr ?_
   refine aa ?_ ad
   refine al C__law_book hr ?_
   refine aa ?_ ad
   exact al C__law_mixed hr (aa (ac 0) (aa ae ad))
  exact ag 3 sc_law.nd
 refine ao ?_ ?_
 ·refine gi PassesOwn.never rfl ?_ ?_ ?_
  ·refine da m_range ?_
   refine af aj ae ?_
   refine af aW ?_ ae
   exact af bB (ac 1) ae
  ·exact ag 4 sc_law.nd
  refine ao ?_ ?_
  ·refine aR ?_ ?_
   ·refine al C__law_bent hr ?_
    refine aa (ac 3) ?_
    refine aa ?_ ad
    refine af bB ?_ ae
    exact al C__law_drawn hr (aa (ac 1) (aa (ac 4) ad))
   exact ag 3 sc_law.nd
  refine ao ?_ ?_
  ·refine aR ?_ ?_
   ·exact lB C__law_told hr Lm1 (sal_of Lm1)
   exact ag 5 sc_law.nd
  refine ak ?_
  refine cT ?_ ?_ ?_
  ·exact aO (cq hr) (av (ac 5) ae) ai
  ·refine ak ?_
   refine cT ?_ ?_ bi
   ·refine aO (ov hr) (ac 5) ?_
    exact aU (aa ai (aa ae ad))
   refine ak ?_
   exact ax dB
  refine ak ?_
  refine cT ?_ ?_ bi
  ·refine eK ?_
   refine dX ?_
   refine al C__law_good hr ?_
   exact aa (ac 2) (aa (av (ac 5) ae) (aa (ac 3) ad))
  refine ak ?_
  exact ax dB
 refine ak ?_
 exact ax dB
end HW
namespace HW
open PySem PySem.Spec PyProof.Rows L2
theorem reps_ints (K:PySem.W.Frag) (H:Hp):∀ ns:List Int,Reps K H (ns.map .int) (ns.map V.int)
 | []=>rfl
 | n::ns=>⟨.int n,_,rfl,rfl,reps_ints K H ns⟩
theorem all_mk {l:PySem.W.OpenLaw} {w:World} {K:PySem.W.Frag} {h:Heap} {mg:Str->Option Value} {fa:Addr}
  {eA eB eW:Addr}
  {q:Program} {cA pA:Addr} {oc2:Value} {od2:Option Addr} {vs2:Array Value} {sl2:Array (Option Value)} {f40:Addr} {od40 an40:Option Addr} {sl40:Array (Option Value)} {oc40 kV40 dc40 pm40 ct40:Value}
  {t0_BLOCK:Tok}
  {t0_BLOCK_FIGURES:Tok}
  {qa_BUTTONS:Addr} {qn_BUTTONS:Nat} {qs_BUTTONS:Array (Option Value)} {t0_BUTTONS t1_BUTTONS t2_BUTTONS:Tok}
  {qa_DEEDS:Addr} {qn_DEEDS:Nat} {qs_DEEDS:Array (Option Value)} {t0_DEEDS t1_DEEDS t2_DEEDS t3_DEEDS t4_DEEDS t5_DEEDS t6_DEEDS t7_DEEDS t8_DEEDS t9_DEEDS t10_DEEDS t11_DEEDS t12_DEEDS:Tok}
  {qa_FACES:Addr} {qn_FACES:Nat} {qs_FACES:Array (Option Value)} {t0_FACES t1_FACES t2_FACES t3_FACES:Tok}
  {t0_FIGURES:Tok}
  {t0_MODE_ROWS:Tok}
  {t0_MOST_BACK:Tok}
  {t0_MOST_HOLD:Tok}
  {t0_MOST_MODES:Tok}
  {qa_PRESSES:Addr} {qn_PRESSES:Nat} {qs_PRESSES:Array (Option Value)} {t0_PRESSES t1_PRESSES t2_PRESSES t3_PRESSES t4_PRESSES t5_PRESSES:Tok}
  {f0 f1 f2 f3 f4 f5 f6 f7 f8 f9 f10 f11 f12 f13 f14 f15 f16 f17 f18 f19 f20 f21 f22 f23 f24 f25 f26 f27 f28 f29 f30 f31 f32 f33 f34 f35 f36 f37 f38 f39:Addr}
  (X:K.In h) (G:h.Ns mainGlobals mg) (hfa:mg "law" = some (.ref fa))
  (n0:PySem.W.nsIn K mainGlobals "NoText" = some (some (.ref eA))) (n1:PySem.W.nsIn K mainGlobals "NoDeed" = some (some (.ref eB))) (nw:PySem.W.nsIn K mainGlobals "WatchError" = some (some (.ref eW))) (ep:ErrP K eA eB eW)
  (a0:Fn4 K "mode_head" dW f0)
  (a1:Fn4 K "press_text" cZ f1)
  (a2:Fn4 K "mode_rows" dF f2)
  (a3:Fn4 K "book_text" dD f3)
  (a4:Fn4 K "figures" fw f4)
  (a5:Fn4 K "event_text" dz f5)
  (a6:Fn4 K "row_text" eJ f6)
  (a7:Fn4 K "_law_cell_at" cD f7)
  (a8:Fn4 K "_law_mixed" de f8)
  (a9:Fn4 K "_law_drawn" dh f9)
  (a10:Fn4 K "_law_book" dM f10)
  (a11:Fn4 K "_law_event" cY f11)
  (a12:Fn4 K "_law_row" eI f12)
  (a13:Fn4 K "read_rows" dO f13)
  (a14:Fn4 K "read_many_modes" bT f14)
  (a15:Fn4 K "read_number" cU f15)
  (a16:Fn4 K "read_head" dU f16)
  (a17:Fn4 K "read_mode_head" cb f17)
  (a18:Fn4 K "read_press" dj f18)
  (a19:Fn4 K "read_mode" dG f19)
  (a20:Fn4 K "read_book" dH f20)
  (a21:Fn4 K "is_many" fD f21)
  (a22:Fn4 K "read_many" dS f22)
  (a23:Fn4 K "read_event" df f23)
  (a24:Fn4 K "read_row" eQ f24)
  (a25:Fn4 K "_law_read" dE f25)
  (a26:Fn4 K "_law_told" dJ f26)
  (a27:Fn4 K "_law_bent" dQ f27)
  (a28:Fn4 K "is_whole" eG f28)
  (a29:Fn4 K "is_from" fv f29)
  (a30:Fn4 K "is_within" dI f30)
  (a31:Fn4 K "is_tuple_of" cQ f31)
  (a32:Fn4 K "is_truth" eL f32)
  (a33:Fn4 K "is_one_of" dY f33)
  (a34:Fn4 K "is_row" gz f34)
  (a35:Fn4 K "are_rows" eM f35)
  (a36:Fn4 K "is_mode" ft f36)
  (a37:Fn4 K "are_modes" d_ f37)
  (a38:Fn4 K "is_book" fF f38)
  (a39:Fn4 K "_law_good" dC f39)
  (a40:PySem.W.nsIn K mainGlobals "law" = some (some (.ref f40))) (l40:K.lookup f40=some ⟨oc40,od40,.func (PySem.W.fnOf "law" "law" (defArgs cV) (defBody cV) (defScope cV) .none kV40 dc40 pm40 an40 (.ref cA) ct40),sl40⟩) (c40:PySem.W.codeIn K (.ref cA) "law" = true) (k40:PySem.W.keepIn K (.ref f40)=true) (l2:K.lookup cA=some ⟨oc2,od2,.fields vs2,sl2⟩) (h11:vs2[11]?=some (.ref pA)) (nt:K.lookup pA=none) (hrec:∃ d,(recsOf q).find? (fun e=>e.name==("law" : Str))=some d)
  (z_ValueError:PySem.W.nsIn K mainGlobals "ValueError" = some none)
  (z_all:PySem.W.nsIn K mainGlobals "all" = some none)
  (z_bool:PySem.W.nsIn K mainGlobals "bool" = some none)
  (z_int:PySem.W.nsIn K mainGlobals "int" = some none)
  (z_isinstance:PySem.W.nsIn K mainGlobals "isinstance" = some none)
  (z_len:PySem.W.nsIn K mainGlobals "len" = some none)
  (z_range:PySem.W.nsIn K mainGlobals "range" = some none)
  (z_repr:PySem.W.nsIn K mainGlobals "repr" = some none)
  (z_reversed:PySem.W.nsIn K mainGlobals "reversed" = some none)
  (z_str:PySem.W.nsIn K mainGlobals "str" = some none)
  (z_tuple:PySem.W.nsIn K mainGlobals "tuple" = some none)
  (q_BLOCK:PySem.W.nsIn K mainGlobals "BLOCK" = some (some (.int 1000000000000000000 t0_BLOCK)))
  (q_BLOCK_FIGURES:PySem.W.nsIn K mainGlobals "BLOCK_FIGURES" = some (some (.int 18 t0_BLOCK_FIGURES)))
  (q_BUTTONS:PySem.W.nsIn K mainGlobals "BUTTONS" = some (some (.ref qa_BUTTONS))) (r_BUTTONS:K.lookup qa_BUTTONS=some ⟨.type "tuple",none,.seq #[.str (Str.ofString "a") t0_BUTTONS,.str (Str.ofString "b") t1_BUTTONS,.str (Str.ofString "c") t2_BUTTONS] qn_BUTTONS,qs_BUTTONS⟩)
  (q_DEEDS:PySem.W.nsIn K mainGlobals "DEEDS" = some (some (.ref qa_DEEDS))) (r_DEEDS:K.lookup qa_DEEDS=some ⟨.type "tuple",none,.seq #[.str (Str.ofString "none") t0_DEEDS,.str (Str.ofString "hour") t1_DEEDS,.str (Str.ofString "minute") t2_DEEDS,.str (Str.ofString "zero") t3_DEEDS,.str (Str.ofString "ahour") t4_DEEDS,.str (Str.ofString "aminute") t5_DEEDS,.str (Str.ofString "alarm") t6_DEEDS,.str (Str.ofString "run") t7_DEEDS,.str (Str.ofString "lap") t8_DEEDS,.str (Str.ofString "cminute") t9_DEEDS,.str (Str.ofString "csecond") t10_DEEDS,.str (Str.ofString "full") t11_DEEDS,.str (Str.ofString "count") t12_DEEDS] qn_DEEDS,qs_DEEDS⟩)
  (q_FACES:PySem.W.nsIn K mainGlobals "FACES" = some (some (.ref qa_FACES))) (r_FACES:K.lookup qa_FACES=some ⟨.type "tuple",none,.seq #[.str (Str.ofString "time") t0_FACES,.str (Str.ofString "alarm") t1_FACES,.str (Str.ofString "laps") t2_FACES,.str (Str.ofString "count") t3_FACES] qn_FACES,qs_FACES⟩)
  (q_FIGURES:PySem.W.nsIn K mainGlobals "FIGURES" = some (some (.str (Str.ofString "0123456789") t0_FIGURES)))
  (q_MODE_ROWS:PySem.W.nsIn K mainGlobals "MODE_ROWS" = some (some (.int 7 t0_MODE_ROWS)))
  (q_MOST_BACK:PySem.W.nsIn K mainGlobals "MOST_BACK" = some (some (.int 60 t0_MOST_BACK)))
  (q_MOST_HOLD:PySem.W.nsIn K mainGlobals "MOST_HOLD" = some (some (.int 9 t0_MOST_HOLD)))
  (q_MOST_MODES:PySem.W.nsIn K mainGlobals "MOST_MODES" = some (some (.int 8 t0_MOST_MODES)))
  (q_PRESSES:PySem.W.nsIn K mainGlobals "PRESSES" = some (some (.ref qa_PRESSES))) (r_PRESSES:K.lookup qa_PRESSES=some ⟨.type "tuple",none,.seq #[.str (Str.ofString "a") t0_PRESSES,.str (Str.ofString "b") t1_PRESSES,.str (Str.ofString "c") t2_PRESSES,.str (Str.ofString "A") t3_PRESSES,.str (Str.ofString "B") t4_PRESSES,.str (Str.ofString "C") t5_PRESSES] qn_PRESSES,qs_PRESSES⟩) :
  ∃ (ts:List CTab) (fd:FuncData),(∀ t∈ts,K.lookup t.P=none/\∃ y d,(recsOf q).find? (fun e=>e.name==y)=some d/\PySem.W.tabIn K y=some (t.c,t.P))/\(∀ (s:Shared) (v:Value),BindsTo s fd ⟨[v],[]⟩ [("_law_script",v)])/\∀ base:Heap,K.In base->base.Ns mainGlobals mg->TabBase mg ts base->FnOk l.prog w K mg base CX0 10 fa fd ["_law_script"] (spO K gp ts):=by
 have e:=hfa.symm.trans (PySem.W.mg_of X G a40)
 cases e
 have EK:=err_mk X G n0 n1 nw ep
 obtain ⟨d0,F0,a0⟩:=fn4 a0
 have b0:=F0.binds (ps:=["face","stays"]) fun _ _ _ _ _ _ us hl=>by obtain ⟨x0,x1,rfl⟩:=ln2 (us:=us) hl;rfl
 have g0:=PySem.W.mg_of X G a0
 obtain ⟨d1,F1,a1⟩:=fn4 a1
 have b1:=F1.binds (ps:=["press","row"]) fun _ _ _ _ _ _ us hl=>by obtain ⟨x0,x1,rfl⟩:=ln2 (us:=us) hl;rfl
 have g1:=PySem.W.mg_of X G a1
 obtain ⟨d2,F2,a2⟩:=fn4 a2
 have b2:=F2.binds (ps:=["mode"]) fun _ _ _ _ _ _ us hl=>by obtain ⟨x0,rfl⟩:=ln1 (us:=us) hl;rfl
 have g2:=PySem.W.mg_of X G a2
 obtain ⟨d3,F3,a3⟩:=fn4 a3
 have b3:=F3.binds (ps:=["book"]) fun _ _ _ _ _ _ us hl=>by obtain ⟨x0,rfl⟩:=ln1 (us:=us) hl;rfl
 have g3:=PySem.W.mg_of X G a3
 obtain ⟨d4,F4,a4⟩:=fn4 a4
 have b4:=F4.binds (ps:=["number"]) fun _ _ _ _ _ _ us hl=>by obtain ⟨x0,rfl⟩:=ln1 (us:=us) hl;rfl
 have g4:=PySem.W.mg_of X G a4
 obtain ⟨d5,F5,a5⟩:=fn4 a5
 have b5:=F5.binds (ps:=["event"]) fun _ _ _ _ _ _ us hl=>by obtain ⟨x0,rfl⟩:=ln1 (us:=us) hl;rfl
 have g5:=PySem.W.mg_of X G a5
 obtain ⟨d6,F6,a6⟩:=fn4 a6
 have b6:=F6.binds (ps:=["row"]) fun _ _ _ _ _ _ us hl=>by obtain ⟨x0,rfl⟩:=ln1 (us:=us) hl;rfl
 have g6:=PySem.W.mg_of X G a6
 obtain ⟨d7,F7,a7⟩:=fn4 a7
 have b7:=F7.binds (ps:=["_law_script","_law_k"]) fun _ _ _ _ _ _ us hl=>by obtain ⟨x0,x1,rfl⟩:=ln2 (us:=us) hl;rfl
 have g7:=PySem.W.mg_of X G a7
 obtain ⟨d8,F8,a8⟩:=fn4 a8
 have b8:=F8.binds (ps:=["_law_script","_law_k"]) fun _ _ _ _ _ _ us hl=>by obtain ⟨x0,x1,rfl⟩:=ln2 (us:=us) hl;rfl
 have g8:=PySem.W.mg_of X G a8
 obtain ⟨d9,F9,a9⟩:=fn4 a9
 have b9:=F9.binds (ps:=["_law_number","_law_k"]) fun _ _ _ _ _ _ us hl=>by obtain ⟨x0,x1,rfl⟩:=ln2 (us:=us) hl;rfl
 have g9:=PySem.W.mg_of X G a9
 obtain ⟨d10,F10,a10⟩:=fn4 a10
 have b10:=F10.binds (ps:=["_law_number"]) fun _ _ _ _ _ _ us hl=>by obtain ⟨x0,rfl⟩:=ln1 (us:=us) hl;rfl
 have g10:=PySem.W.mg_of X G a10
 obtain ⟨d11,F11,a11⟩:=fn4 a11
 have b11:=F11.binds (ps:=["_law_number"]) fun _ _ _ _ _ _ us hl=>by obtain ⟨x0,rfl⟩:=ln1 (us:=us) hl;rfl
 have g11:=PySem.W.mg_of X G a11
 obtain ⟨d12,F12,a12⟩:=fn4 a12
 have b12:=F12.binds (ps:=["_law_number","_law_most"]) fun _ _ _ _ _ _ us hl=>by obtain ⟨x0,x1,rfl⟩:=ln2 (us:=us) hl;rfl
 have g12:=PySem.W.mg_of X G a12
 obtain ⟨d13,F13,a13⟩:=fn4 a13
 have b13:=F13.binds (ps:=["text"]) fun _ _ _ _ _ _ us hl=>by obtain ⟨x0,rfl⟩:=ln1 (us:=us) hl;rfl
 have g13:=PySem.W.mg_of X G a13
 obtain ⟨d14,F14,a14⟩:=fn4 a14
 have b14:=F14.binds (ps:=["rows"]) fun _ _ _ _ _ _ us hl=>by obtain ⟨x0,rfl⟩:=ln1 (us:=us) hl;rfl
 have g14:=PySem.W.mg_of X G a14
 obtain ⟨d15,F15,a15⟩:=fn4 a15
 have b15:=F15.binds (ps:=["word","least","most"]) fun _ _ _ _ _ _ us hl=>by obtain ⟨x0,x1,x2,rfl⟩:=ln3 (us:=us) hl;rfl
 have g15:=PySem.W.mg_of X G a15
 obtain ⟨d16,F16,a16⟩:=fn4 a16
 have b16:=F16.binds (ps:=["row"]) fun _ _ _ _ _ _ us hl=>by obtain ⟨x0,rfl⟩:=ln1 (us:=us) hl;rfl
 have g16:=PySem.W.mg_of X G a16
 obtain ⟨d17,F17,a17⟩:=fn4 a17
 have b17:=F17.binds (ps:=["row"]) fun _ _ _ _ _ _ us hl=>by obtain ⟨x0,rfl⟩:=ln1 (us:=us) hl;rfl
 have g17:=PySem.W.mg_of X G a17
 obtain ⟨d18,F18,a18⟩:=fn4 a18
 have b18:=F18.binds (ps:=["press","row","many"]) fun _ _ _ _ _ _ us hl=>by obtain ⟨x0,x1,x2,rfl⟩:=ln3 (us:=us) hl;rfl
 have g18:=PySem.W.mg_of X G a18
 obtain ⟨d19,F19,a19⟩:=fn4 a19
 have b19:=F19.binds (ps:=["rows","many"]) fun _ _ _ _ _ _ us hl=>by obtain ⟨x0,x1,rfl⟩:=ln2 (us:=us) hl;rfl
 have g19:=PySem.W.mg_of X G a19
 obtain ⟨d20,F20,a20⟩:=fn4 a20
 have b20:=F20.binds (ps:=["text"]) fun _ _ _ _ _ _ us hl=>by obtain ⟨x0,rfl⟩:=ln1 (us:=us) hl;rfl
 have g20:=PySem.W.mg_of X G a20
 obtain ⟨d21,F21,a21⟩:=fn4 a21
 have b21:=F21.binds (ps:=["text"]) fun _ _ _ _ _ _ us hl=>by obtain ⟨x0,rfl⟩:=ln1 (us:=us) hl;rfl
 have g21:=PySem.W.mg_of X G a21
 obtain ⟨d22,F22,a22⟩:=fn4 a22
 have b22:=F22.binds (ps:=["text"]) fun _ _ _ _ _ _ us hl=>by obtain ⟨x0,rfl⟩:=ln1 (us:=us) hl;rfl
 have g22:=PySem.W.mg_of X G a22
 obtain ⟨d23,F23,a23⟩:=fn4 a23
 have b23:=F23.binds (ps:=["word"]) fun _ _ _ _ _ _ us hl=>by obtain ⟨x0,rfl⟩:=ln1 (us:=us) hl;rfl
 have g23:=PySem.W.mg_of X G a23
 obtain ⟨d24,F24,a24⟩:=fn4 a24
 have b24:=F24.binds (ps:=["text"]) fun _ _ _ _ _ _ us hl=>by obtain ⟨x0,rfl⟩:=ln1 (us:=us) hl;rfl
 have g24:=PySem.W.mg_of X G a24
 obtain ⟨d25,F25,a25⟩:=fn4 a25
 have b25:=F25.binds (ps:=["_law_kind","_law_text"]) fun _ _ _ _ _ _ us hl=>by obtain ⟨x0,x1,rfl⟩:=ln2 (us:=us) hl;rfl
 have g25:=PySem.W.mg_of X G a25
 obtain ⟨d26,F26,a26⟩:=fn4 a26
 have b26:=F26.binds (ps:=["_law_deed"]) fun _ _ _ _ _ _ us hl=>by obtain ⟨x0,rfl⟩:=ln1 (us:=us) hl;rfl
 have g26:=PySem.W.mg_of X G a26
 obtain ⟨d27,F27,a27⟩:=fn4 a27
 have b27:=F27.binds (ps:=["_law_text","_law_number"]) fun _ _ _ _ _ _ us hl=>by obtain ⟨x0,x1,rfl⟩:=ln2 (us:=us) hl;rfl
 have g27:=PySem.W.mg_of X G a27
 obtain ⟨d28,F28,a28⟩:=fn4 a28
 have b28:=F28.binds (ps:=["thing"]) fun _ _ _ _ _ _ us hl=>by obtain ⟨x0,rfl⟩:=ln1 (us:=us) hl;rfl
 have g28:=PySem.W.mg_of X G a28
 obtain ⟨d29,F29,a29⟩:=fn4 a29
 have b29:=F29.binds (ps:=["thing","least"]) fun _ _ _ _ _ _ us hl=>by obtain ⟨x0,x1,rfl⟩:=ln2 (us:=us) hl;rfl
 have g29:=PySem.W.mg_of X G a29
 obtain ⟨d30,F30,a30⟩:=fn4 a30
 have b30:=F30.binds (ps:=["thing","least","most"]) fun _ _ _ _ _ _ us hl=>by obtain ⟨x0,x1,x2,rfl⟩:=ln3 (us:=us) hl;rfl
 have g30:=PySem.W.mg_of X G a30
 obtain ⟨d31,F31,a31⟩:=fn4 a31
 have b31:=F31.binds (ps:=["thing","many"]) fun _ _ _ _ _ _ us hl=>by obtain ⟨x0,x1,rfl⟩:=ln2 (us:=us) hl;rfl
 have g31:=PySem.W.mg_of X G a31
 obtain ⟨d32,F32,a32⟩:=fn4 a32
 have b32:=F32.binds (ps:=["thing"]) fun _ _ _ _ _ _ us hl=>by obtain ⟨x0,rfl⟩:=ln1 (us:=us) hl;rfl
 have g32:=PySem.W.mg_of X G a32
 obtain ⟨d33,F33,a33⟩:=fn4 a33
 have b33:=F33.binds (ps:=["thing","words"]) fun _ _ _ _ _ _ us hl=>by obtain ⟨x0,x1,rfl⟩:=ln2 (us:=us) hl;rfl
 have g33:=PySem.W.mg_of X G a33
 obtain ⟨d34,F34,a34⟩:=fn4 a34
 have b34:=F34.binds (ps:=["thing","many"]) fun _ _ _ _ _ _ us hl=>by obtain ⟨x0,x1,rfl⟩:=ln2 (us:=us) hl;rfl
 have g34:=PySem.W.mg_of X G a34
 obtain ⟨d35,F35,a35⟩:=fn4 a35
 have b35:=F35.binds (ps:=["thing","many"]) fun _ _ _ _ _ _ us hl=>by obtain ⟨x0,x1,rfl⟩:=ln2 (us:=us) hl;rfl
 have g35:=PySem.W.mg_of X G a35
 obtain ⟨d36,F36,a36⟩:=fn4 a36
 have b36:=F36.binds (ps:=["thing","many"]) fun _ _ _ _ _ _ us hl=>by obtain ⟨x0,x1,rfl⟩:=ln2 (us:=us) hl;rfl
 have g36:=PySem.W.mg_of X G a36
 obtain ⟨d37,F37,a37⟩:=fn4 a37
 have b37:=F37.binds (ps:=["thing"]) fun _ _ _ _ _ _ us hl=>by obtain ⟨x0,rfl⟩:=ln1 (us:=us) hl;rfl
 have g37:=PySem.W.mg_of X G a37
 obtain ⟨d38,F38,a38⟩:=fn4 a38
 have b38:=F38.binds (ps:=["thing"]) fun _ _ _ _ _ _ us hl=>by obtain ⟨x0,rfl⟩:=ln1 (us:=us) hl;rfl
 have g38:=PySem.W.mg_of X G a38
 obtain ⟨d39,F39,a39⟩:=fn4 a39
 have b39:=F39.binds (ps:=["_law_kind","_law_thing","_law_text"]) fun _ _ _ _ _ _ us hl=>by obtain ⟨x0,x1,x2,rfl⟩:=ln3 (us:=us) hl;rfl
 have g39:=PySem.W.mg_of X G a39
 have F40:FunC K "law" "law" cV _ _ cA:=⟨⟨_,_,_,_,_,_,_,_,rfl,l40,c40⟩,k40⟩
 have g40:=PySem.W.mg_of X G a40
 have tb:=n_ a40 l40 rfl l2 h11
 have b40:=Binds.all (K:=K) (fd:=PySem.W.fnOf "law" "law" (defArgs cV) (defBody cV) (defScope cV) .none kV40 dc40 pm40 an40 (.ref cA) ct40) (ps:=["_law_script"]) fun us hl=>by obtain ⟨x0,rfl⟩:=ln1 (us:=us) hl;rfl
 have m_ValueError:=PySem.W.mg_none_of X G z_ValueError
 have m_all:=PySem.W.mg_none_of X G z_all
 have m_bool:=PySem.W.mg_none_of X G z_bool
 have m_int:=PySem.W.mg_none_of X G z_int
 have m_isinstance:=PySem.W.mg_none_of X G z_isinstance
 have m_len:=PySem.W.mg_none_of X G z_len
 have m_range:=PySem.W.mg_none_of X G z_range
 have m_repr:=PySem.W.mg_none_of X G z_repr
 have m_reversed:=PySem.W.mg_none_of X G z_reversed
 have m_str:=PySem.W.mg_none_of X G z_str
 have m_tuple:=PySem.W.mg_none_of X G z_tuple
 have c_BLOCK:Con K mg "BLOCK" cy:=⟨_,.int 1000000000000000000,PySem.W.mg_of X G q_BLOCK,⟨_,rfl⟩,fun H=>rfl⟩
 have c_BLOCK_FIGURES:Con K mg "BLOCK_FIGURES" aN:=⟨_,.int 18,PySem.W.mg_of X G q_BLOCK_FIGURES,⟨_,rfl⟩,fun H=>rfl⟩
 have c_BUTTONS:Con K mg "BUTTONS" cz:=⟨.ref qa_BUTTONS,.ref qa_BUTTONS,PySem.W.mg_of X G q_BUTTONS,rfl,fun H=>⟨qa_BUTTONS,[.str (Str.ofString "a"),.str (Str.ofString "b"),.str (Str.ofString "c")],rfl,.inr ⟨_,_,_,r_BUTTONS,rfl,rfl,rfl,(by show 3<=sizeLine;decide),(.cons ⟨_,rfl⟩ (.cons ⟨_,rfl⟩ (.cons ⟨_,rfl⟩ .nil)))⟩,⟨_,_,rfl,rfl,⟨_,_,rfl,rfl,⟨_,_,rfl,rfl,rfl⟩⟩⟩⟩⟩
 have c_DEEDS:Con K mg "DEEDS" cu:=⟨.ref qa_DEEDS,.ref qa_DEEDS,PySem.W.mg_of X G q_DEEDS,rfl,fun H=>⟨qa_DEEDS,[.str (Str.ofString "none"),.str (Str.ofString "hour"),.str (Str.ofString "minute"),.str (Str.ofString "zero"),.str (Str.ofString "ahour"),.str (Str.ofString "aminute"),.str (Str.ofString "alarm"),.str (Str.ofString "run"),.str (Str.ofString "lap"),.str (Str.ofString "cminute"),.str (Str.ofString "csecond"),.str (Str.ofString "full"),.str (Str.ofString "count")],rfl,.inr ⟨_,_,_,r_DEEDS,rfl,rfl,rfl,(by show 13<=sizeLine;decide),(.cons ⟨_,rfl⟩ (.cons ⟨_,rfl⟩ (.cons ⟨_,rfl⟩ (.cons ⟨_,rfl⟩ (.cons ⟨_,rfl⟩ (.cons ⟨_,rfl⟩ (.cons ⟨_,rfl⟩ (.cons ⟨_,rfl⟩ (.cons ⟨_,rfl⟩ (.cons ⟨_,rfl⟩ (.cons ⟨_,rfl⟩ (.cons ⟨_,rfl⟩ (.cons ⟨_,rfl⟩ .nil)))))))))))))⟩,⟨_,_,rfl,rfl,⟨_,_,rfl,rfl,⟨_,_,rfl,rfl,⟨_,_,rfl,rfl,⟨_,_,rfl,rfl,⟨_,_,rfl,rfl,⟨_,_,rfl,rfl,⟨_,_,rfl,rfl,⟨_,_,rfl,rfl,⟨_,_,rfl,rfl,⟨_,_,rfl,rfl,⟨_,_,rfl,rfl,⟨_,_,rfl,rfl,rfl⟩⟩⟩⟩⟩⟩⟩⟩⟩⟩⟩⟩⟩⟩⟩
 have c_FACES:Con K mg "FACES" dA:=⟨.ref qa_FACES,.ref qa_FACES,PySem.W.mg_of X G q_FACES,rfl,fun H=>⟨qa_FACES,[.str (Str.ofString "time"),.str (Str.ofString "alarm"),.str (Str.ofString "laps"),.str (Str.ofString "count")],rfl,.inr ⟨_,_,_,r_FACES,rfl,rfl,rfl,(by show 4<=sizeLine;decide),(.cons ⟨_,rfl⟩ (.cons ⟨_,rfl⟩ (.cons ⟨_,rfl⟩ (.cons ⟨_,rfl⟩ .nil))))⟩,⟨_,_,rfl,rfl,⟨_,_,rfl,rfl,⟨_,_,rfl,rfl,⟨_,_,rfl,rfl,rfl⟩⟩⟩⟩⟩⟩
 have c_FIGURES:Con K mg "FIGURES" et:=⟨_,.str (Str.ofString "0123456789"),PySem.W.mg_of X G q_FIGURES,⟨_,rfl⟩,fun H=>rfl⟩
 have c_MODE_ROWS:Con K mg "MODE_ROWS" aD:=⟨_,.int 7,PySem.W.mg_of X G q_MODE_ROWS,⟨_,rfl⟩,fun H=>rfl⟩
 have c_MOST_BACK:Con K mg "MOST_BACK" cn:=⟨_,.int 60,PySem.W.mg_of X G q_MOST_BACK,⟨_,rfl⟩,fun H=>rfl⟩
 have c_MOST_HOLD:Con K mg "MOST_HOLD" ci:=⟨_,.int 9,PySem.W.mg_of X G q_MOST_HOLD,⟨_,rfl⟩,fun H=>rfl⟩
 have c_MOST_MODES:Con K mg "MOST_MODES" aX:=⟨_,.int 8,PySem.W.mg_of X G q_MOST_MODES,⟨_,rfl⟩,fun H=>rfl⟩
 have c_PRESSES:Con K mg "PRESSES" aM:=⟨.ref qa_PRESSES,.ref qa_PRESSES,PySem.W.mg_of X G q_PRESSES,rfl,fun H=>⟨qa_PRESSES,[.str (Str.ofString "a"),.str (Str.ofString "b"),.str (Str.ofString "c"),.str (Str.ofString "A"),.str (Str.ofString "B"),.str (Str.ofString "C")],rfl,.inr ⟨_,_,_,r_PRESSES,rfl,rfl,rfl,(by show 6<=sizeLine;decide),(.cons ⟨_,rfl⟩ (.cons ⟨_,rfl⟩ (.cons ⟨_,rfl⟩ (.cons ⟨_,rfl⟩ (.cons ⟨_,rfl⟩ (.cons ⟨_,rfl⟩ .nil))))))⟩,⟨_,_,rfl,rfl,⟨_,_,rfl,rfl,⟨_,_,rfl,rfl,⟨_,_,rfl,rfl,⟨_,_,rfl,rfl,⟨_,_,rfl,rfl,rfl⟩⟩⟩⟩⟩⟩⟩⟩
 obtain ⟨dr,hdr⟩:=hrec
 refine ⟨[⟨cA,pA,"law.<locals>.<lambda>"⟩],PySem.W.fnOf "law" "law" (defArgs cV) (defBody cV) (defScope cV) .none kV40 dc40 pm40 an40 (.ref cA) ct40,fun t ht=>by rw [List.mem_singleton.mp ht];exact ⟨nt,"law",dr,hdr,tb⟩,fun s v=>.of_eq rfl,fun base _ _ TB=>?_⟩
 have C_mode_head:Cal l.prog w K mg base 1 "mode_head" ["face","stays"] aV:=aL F0 g0 b0 (iJ (k:=0)  F0)
 have C_press_text:Cal l.prog w K mg base 1 "press_text" ["press","row"] aY:=aL F1 g1 b1 (gJ (k:=0) m_str F1)
 have C_mode_rows:Cal l.prog w K mg base 2 "mode_rows" ["mode"] aT:=aL F2 g2 b2 (h_ (k:=1) C_mode_head.m C_press_text.m m_len m_range c_PRESSES F2)
 have C_book_text:Cal l.prog w K mg base 3 "book_text" ["book"] bg:=aL F3 g3 b3 (ij (k:=2) C_mode_rows.m m_str F3)
 have C_figures:Cal l.prog w K mg base 1 "figures" ["number"] bY:=aL F4 g4 b4 (km (k:=0) m_reversed m_str c_BLOCK F4)
 have C_event_text:Cal l.prog w K mg base 2 "event_text" ["event"] aG:=aL F5 g5 b5 (gK (k:=1) C_figures.m F5)
 have C_row_text:Cal l.prog w K mg base 3 "row_text" ["row"] a_:=aL F6 g6 b6 (jH (k:=2) C_event_text.m F6)
 have C__law_cell_at:Cal l.prog w K mg base 1 "_law_cell_at" ["_law_script","_law_k"] aE:=aL F7 g7 b7 (fS (k:=0) m_len F7)
 have C__law_mixed:Cal l.prog w K mg base 2 "_law_mixed" ["_law_script","_law_k"] aS:=aL F8 g8 b8 (gB (k:=1) C__law_cell_at.m F8)
 have C__law_drawn:Cal l.prog w K mg base 1 "_law_drawn" ["_law_number","_law_k"] au:=aL F9 g9 b9 (gE (k:=0)  F9)
 have C__law_book:Cal l.prog w K mg base 2 "_law_book" ["_law_number"] bj:=aL F10 g10 b10 (ib (k:=1) C__law_drawn.m m_range F10)
 have C__law_event:Cal l.prog w K mg base 1 "_law_event" ["_law_number"] aF:=aL F11 g11 b11 (gA (k:=0)  F11)
 have C__law_row:Cal l.prog w K mg base 2 "_law_row" ["_law_number","_law_most"] bJ:=aL F12 g12 b12 (jd (k:=1) C__law_drawn.m C__law_event.m m_range m_tuple F12)
 have C_read_rows:CalX l.prog w K mg base (caOf eA eB) 1 "read_rows" ["text"] bD:=⟨_,_,iX (k:=0) m_repr EK F13,g13,F13.kp,b13⟩
 have C_read_many_modes:CalX l.prog w K mg base (caOf eA eB) 1 "read_many_modes" ["rows"] aJ:=⟨_,_,eO (k:=0) m_len m_str c_MODE_ROWS c_MOST_MODES EK F14,g14,F14.kp,b14⟩
 have C_read_number:CalX l.prog w K mg base (caOf eA eB) 1 "read_number" ["word","least","most"] aI:=⟨_,_,gl (k:=0) m_range m_repr m_str EK F15,g15,F15.kp,b15⟩
 have C_read_head:CalX l.prog w K mg base (caOf eA eB) 2 "read_head" ["row"] bo:=⟨_,_,ii (k:=1) C_read_number.m m_len m_repr c_MOST_BACK c_MOST_HOLD EK F16,g16,F16.kp,b16⟩
 have C_read_mode_head:CalX l.prog w K mg base (caOf eA eB) 2 "read_mode_head" ["row"] aH:=⟨_,_,fc (k:=1) C_mode_head.m m_repr c_FACES EK F17,g17,F17.kp,b17⟩
 have C_read_press:CalX l.prog w K mg base (caOf eA eB) 2 "read_press" ["press","row","many"] bh:=⟨_,_,gF (k:=1) C_read_number.m m_len m_repr c_DEEDS EK F18,g18,F18.kp,b18⟩
 have C_read_mode:CalX l.prog w K mg base (caOf eA eB) 3 "read_mode" ["rows","many"] bq:=⟨_,_,iu (k:=2) C_read_mode_head.m C_read_press.m m_len m_range m_tuple c_PRESSES F19,g19,F19.kp,b19⟩
 have C_read_book:CalX l.prog w K mg base (caOf eA eB) 4 "read_book" ["text"] br:=⟨_,_,im (k:=3) C_read_head.m C_read_many_modes.m C_read_mode.m C_read_rows.m m_range m_tuple c_MODE_ROWS F20,g20,F20.kp,b20⟩
 have C_is_many:Cal l.prog w K mg base 1 "is_many" ["text"] b_:=aL F21 g21 b21 (ky (k:=0) m_all c_FIGURES F21)
 have C_read_many:Cal l.prog w K mg base 1 "read_many" ["text"] bE:=aL F22 g22 b22 (il (k:=0) m_int m_len m_range c_BLOCK c_BLOCK_FIGURES F22)
 have C_read_event:CalX l.prog w K mg base (caOf eA eB) 2 "read_event" ["word"] aC:=⟨_,_,gM (k:=1) C_is_many.m C_read_many.m m_repr c_BUTTONS EK F23,g23,F23.kp,b23⟩
 have C_read_row:CalX l.prog w K mg base (caOf eA eB) 3 "read_row" ["text"] bL:=⟨_,_,jx (k:=2) C_read_event.m m_tuple F24,g24,F24.kp,b24⟩
 have C__law_read:CalX l.prog w K mg base (caOf eA eB) 5 "_law_read" ["_law_kind","_law_text"] bC:=⟨_,_,iP (k:=4) C_read_book.m C_read_row.m F25,g25,F25.kp,b25⟩
 have LO:LOkX l.prog w K mg base (caOf eA eB) 6 LLX:=fun t G e=>by
  unfold LLX at e
  split at e
  ·rename_i z
   subst z
   cases e
   exact lam_1 (k:=5) C__law_read.m
  ·cases e
 have C__law_told:Cal l.prog w K mg base 7 "_law_told" ["_law_deed"] bp:=aL F26 g26 b26 (iT (k:=6) m_ValueError m_isinstance (LO.mono (by decide)) EK F26)
 have C__law_bent:Cal l.prog w K mg base 1 "_law_bent" ["_law_text","_law_number"] bz:=aL F27 g27 b27 (iA (k:=0) m_len F27)
 have C_is_whole:Cal l.prog w K mg base 1 "is_whole" ["thing"] bK:=aL F28 g28 b28 (jo (k:=0) m_bool m_int m_isinstance F28)
 have C_is_from:Cal l.prog w K mg base 2 "is_from" ["thing","least"] bV:=aL F29 g29 b29 (kL (k:=1) C_is_whole.m F29)
 have C_is_within:Cal l.prog w K mg base 3 "is_within" ["thing","least","most"] aZ:=aL F30 g30 b30 (iW (k:=2) C_is_from.m F30)
 have C_is_tuple_of:Cal l.prog w K mg base 1 "is_tuple_of" ["thing","many"] aA:=aL F31 g31 b31 (f_ (k:=0) m_isinstance m_len m_tuple F31)
 have C_is_truth:Cal l.prog w K mg base 1 "is_truth" ["thing"] bG:=aL F32 g32 b32 (iZ (k:=0) m_bool m_isinstance F32)
 have C_is_one_of:Cal l.prog w K mg base 1 "is_one_of" ["thing","words"] be:=aL F33 g33 b33 (hZ (k:=0) m_isinstance m_str F33)
 have C_is_row:Cal l.prog w K mg base 4 "is_row" ["thing","many"] cj:=aL F34 g34 b34 (lK (k:=3) C_is_one_of.m C_is_tuple_of.m C_is_within.m c_DEEDS F34)
 have C_are_rows:Cal l.prog w K mg base 5 "are_rows" ["thing","many"] bM:=aL F35 g35 b35 (jk (k:=4) C_is_row.m C_is_tuple_of.m m_all m_len c_PRESSES F35)
 have C_is_mode:Cal l.prog w K mg base 6 "is_mode" ["thing","many"] bP:=aL F36 g36 b36 (kx (k:=5) C_are_rows.m C_is_one_of.m C_is_truth.m C_is_tuple_of.m c_FACES F36)
 have C_are_modes:Cal l.prog w K mg base 7 "are_modes" ["thing"] bw:=aL F37 g37 b37 (iF (k:=6) C_is_mode.m m_all m_isinstance m_len m_tuple c_MOST_MODES F37)
 have C_is_book:Cal l.prog w K mg base 8 "is_book" ["thing"] ce:=aL F38 g38 b38 (kF (k:=7) C_are_modes.m C_is_tuple_of.m C_is_within.m c_MOST_BACK c_MOST_HOLD F38)
 have C__law_good:Cal l.prog w K mg base 9 "_law_good" ["_law_kind","_law_thing","_law_text"] bx:=aL F39 g39 b39 (iN (k:=8) C_book_text.m C_is_book.m C_row_text.m m_isinstance m_tuple F39)
 exact spO_of (nS C__law_bent.m C__law_book.m C__law_drawn.m C__law_good.m C__law_mixed.m C__law_row.m C__law_told.m C_book_text.m C_row_text.m m_range rfl TB F40)
theorem walk {l:PySem.W.OpenLaw} {q:Program} {loose:List Str} {XP:(Str->Option Value)->Heap->Prop} {YP:World->Heap->Prop} {d:DefRec} {K:Params->PySem.W.Frag} (hn:l.most=some 63) (hdf:d.params.defaults=[])
    (hY:∀ (w:World) (h:Heap),YP w h->(K w.params).In h)
    (F:∀ (w:World) (mg:Str->Option Value) (fa:Addr) (h:Heap),(K w.params).In h->h.Ns mainGlobals mg->mg d.name=some (.ref fa) ->
      ∃ (ts:List CTab) (fd:FuncData),(∀ t∈ts,(K w.params).lookup t.P=none/\∃ y d',(recsOf q).find? (fun e=>e.name==y)=some d'/\PySem.W.tabIn (K w.params) y=some (t.c,t.P))/\(∀ (s:Shared) (u:Value),BindsTo s fd ⟨[u],[]⟩ [("_law_script",u)])/\∀ base:Heap,(K w.params).In base->base.Ns mainGlobals mg->TabBase mg ts base->FnOk l.prog w (K w.params) mg base CX0 10 fa fd ["_law_script"] (spO (K w.params) gp ts)) :
    PySem.W.WalkO q loose XP YP l.row.toRowW d [] (fun f vs=>PySem.call f vs) :=
  walk_ofT (n:=63) (k:=10) (x:="_law_script") (CX:=fun _=>CX0) (sp:=fun w ts=>spO (K w.params) gp ts) hn (by decide) hdf ⟨rfl,by decide,by decide,rfl⟩ hY F (fun w ts H a ns hl hO hP hS=>spO_at hO hP ⟨[.fro (ns.map .int)],.bl true,Reps.one ⟨a,ns.map V.int,rfl,hS,reps_ints _ _ ns⟩,law_true ns hl,fun v H' _ hv=>hv⟩) fun _ _ _ _ _ z=>z
end HW
namespace PySem.W.Fast
theorem tw3576263542293547232:True:=⟨⟩
theorem tw9726634842594953792:True:=⟨⟩
theorem tw482154818608754657:True:=⟨⟩
theorem tw5845166624006181346:True:=⟨⟩
theorem tw15617794914903466626:True:=⟨⟩
theorem tw2819589205676944739:True:=⟨⟩
theorem tw10211866196756385961:True:=⟨⟩
theorem tw8406053238756046413:True:=⟨⟩
theorem tw4433378520298369390:True:=⟨⟩
theorem tw2167851610135944046:True:=⟨⟩
theorem tw9497815366606193587:True:=⟨⟩
theorem tw13636076884581282840:True:=⟨⟩
theorem tw16205320389840679160:True:=⟨⟩
theorem tw5518845356452193689:True:=⟨⟩
theorem tw15347600866746533978:True:=⟨⟩
theorem tw14974362539252102490:True:=⟨⟩
theorem tw15969315508869251293:True:=⟨⟩
theorem tw5762672741561149950:True:=⟨⟩
noncomputable def tw14362753332397350725:=PySem.Challenge.pw_handwatch_k74_whole_nothing_else_read
theorem te14362753332397350725:PySem.Challenge.pw_handwatch_k74_whole_nothing_else_read=tw14362753332397350725:=rfl
end PySem.W.Fast
open PySem PySem.W PyProof.Rows
set_option maxRecDepth 100000 in
set_option maxHeartbeats 0 in
theorem PySem.Challenge.cw_handwatch_k74_whole_nothing_else_read_holds : PySem.Challenge.rw_handwatch_k74_whole_nothing_else_read.Holds := by
 w_on;o_law;k_head;(case hw=>w_witness2)
 k_fill
 refine HW.walk (l:=PySem.Challenge.rw_handwatch_k74_whole_nothing_else_read) rfl rfl (fun w h Y=>PySem.W.km_in_of Y) ?F
 case F =>
  intro w mg fa h KX G hmg
  refine' HW.all_mk KX G hmg ?_ ?_ ?_ ?_ ?_ ?_ ?_ ?_ ?_ ?_ ?_ ?_ ?_ ?_ ?_ ?_ ?_ ?_ ?_ ?_ ?_ ?_ ?_ ?_ ?_ ?_ ?_ ?_ ?_ ?_ ?_ ?_ ?_ ?_ ?_ ?_ ?_ ?_ ?_ ?_ ?_ ?_ ?_ ?_ ?_ ?_ ?_ ?_ ?_ ?_ ?_ ?_ ?_ ?_ ?_ ?_ ?_ ?_ ?_ ?_ ?_ ?_ ?_ ?_ ?_ ?_ ?_ ?_ ?_ ?_ ?_ ?_ ?_ ?_ ?_ ?_ ?_ ?_
  all_goals try first | k_is | (refine' HW.fn4_mk ?_ ?_ ?_ ?_<;>try k_is) | (refine' HW.errp_mk ?_ ?_ ?_ ?_ ?_ ?_ ?_ ?_ ?_ ?_ ?_ ?_ ?_ ?_ ?_ ?_ ?_ ?_ ?_ ?_ ?_ ?_ ?_ ?_ ?_ ?_ ?_ ?_<;>try first | k_is | k_exc | rfl | kernel_rfl) | rfl | kernel_rfl | exact ⟨_,rfl⟩
