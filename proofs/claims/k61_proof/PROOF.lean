import PyProof.Rows.All
import Wide.All
import OpenK.AllK
import Wide.FinOn
import Lean
import PyProof.EqAt
import PyProof.EqKinds
import PyProof.TupleCall
import PySem.Str
import PySem.Sem
import PyProof.ReprReads
import PyProof.Rows.RegStrFacts
import PyProof.StrBlockI
import KE.IntText
import KE.KLam
import PyProof.StrWalks
import PyProof.ReprRoads
import PyProof.NeData
import PyProof.WalkInts
import KE.KRevIter
import PyProof.StrBlock2
import KE.KIntText
import PyProof.Rows.Range3
import PyProof.StrLawsIn
import PyProof.FitsReplace
import PyProof.ReprLen
import PyProof.ZipIter
import PyProof.Draws
import PyProof.IsRules
import PySem.Builtin.Str.Common
import PySem.SetOps
import PyProof.SetKind
import PyProof.DictStraight
import KE.KDictSum
import PyProof.Rows.SetFrom
import PyProof.Rows.SortShell
import PyProof.ListRange
import PyProof.Rows.FactsT2
import PyProof.Rows.FactsT3
import PyProof.StrCalls
import PyProof.SumWalk
import PyProof.AttrMissHeap
import KE.KDictOf
import PySem.Challenge.RW_handwatch_k61_whole_rows_done_anew
set_option Elab.async false
noncomputable section
set_option linter.all false
set_option maxRecDepth 100000
namespace L2
open PySem PySem.Spec PyProof.Rows
abbrev Key:=Sum Int Str
def keyIs:Key->Value->Bool
 | .inl k,v=>Value.isInt k v
 | .inr x,v=>Value.isStrOf x v
def keyH (w:World):Key->Int
 | .inl k=>hashInt k
 | .inr x=>hashStr w x
theorem keyIs_shape:∀ {k:Key} {v:Value},keyIs k v=true->(∃ i t,k=Sum.inl i/\v=Value.int i t)\/(∃ x t,k=Sum.inr x/\v=Value.str x t)
 | .inl i,v,h=>by
  obtain ⟨t,e⟩:=Value.isInt_shape (k:=i) (v:=v) h
  exact .inl ⟨i,t,rfl,e⟩
 | .inr x,v,h=>by
  obtain ⟨t,e⟩:=Value.isStrOf_shape (x:=x) (v:=v) h
  exact .inr ⟨x,t,rfl,e⟩
theorem key_ll (a b:Int):decide ((Sum.inl a:Key)=Sum.inl b)=(a==b):=by
 by_cases e:a=b
 ·subst e;simp
 ·have h:¬ (Sum.inl a:Key)=Sum.inl b:=fun q=>e (Sum.inl.inj q)
  rw [decide_eq_false h]
  exact (beq_eq_false_iff_ne.mpr e).symm
theorem key_rr (a b:Str):decide ((Sum.inr a:Key)=Sum.inr b)=decide (a=b):=by
 by_cases e:a=b
 ·subst e;simp
 ·have h:¬ (Sum.inr a:Key)=Sum.inr b:=fun q=>e (Sum.inr.inj q)
  rw [decide_eq_false h,decide_eq_false e]
theorem key_lr (a:Int) (b:Str):decide ((Sum.inl a:Key)=Sum.inr b)=false:=decide_eq_false (fun q=>nomatch q)
theorem key_rl (a:Str) (b:Int):decide ((Sum.inr a:Key)=Sum.inl b)=false:=decide_eq_false (fun q=>nomatch q)
def mixKind (prog:Program) (w:World):PySem.KeyKind prog w Key where
 is:=keyIs
 hash:=keyH w
 inj:=fun v a b ha hb=>by
  rcases keyIs_shape ha with ⟨i,t,rfl,rfl⟩ | ⟨x,t,rfl,rfl⟩
  ·rcases keyIs_shape hb with ⟨j,u,rfl,e⟩ | ⟨y,u,rfl,e⟩
   ·injection e with e1 _;rw [e1]
   ·exact nomatch e
  ·rcases keyIs_shape hb with ⟨j,u,rfl,e⟩ | ⟨y,u,rfl,e⟩
   ·exact nomatch e
   ·injection e with e1 _;rw [e1]
 byValue:=fun k v h=>by
  rcases keyIs_shape h with ⟨i,t,rfl,rfl⟩ | ⟨x,t,rfl,rfl⟩<;>rfl
 pyHash:=fun hv h=>by
  rcases keyIs_shape hv with ⟨i,t,rfl,rfl⟩ | ⟨x,t,rfl,rfl⟩
  ·exact wpAny_pyHash_int h
  ·exact wpAny_pyHash_str h
 eqBool:=fun hu hv h=>by
  rcases keyIs_shape hu with ⟨i,t,rfl,rfl⟩ | ⟨x,t,rfl,rfl⟩
  ·rcases keyIs_shape hv with ⟨j,u,rfl,rfl⟩ | ⟨y,u,rfl,rfl⟩
   ·rw [key_ll] at h;exact wpAny_eqBool_int h
   ·rw [key_lr] at h;exact SeqAt.EqAt.int_str i t y u _ _ _ _ h
  ·rcases keyIs_shape hv with ⟨j,u,rfl,rfl⟩ | ⟨y,u,rfl,rfl⟩
   ·rw [key_rl] at h;exact SeqAt.EqAt.str_int x t j u _ _ _ _ h
   ·rw [key_rr] at h;exact wpAny_eqBool_str h
 «strs»:=fun k x t v h=>by
  rcases keyIs_shape h with ⟨i,u,rfl,e⟩ | ⟨y,u,rfl,e⟩
  ·exact nomatch e
  ·injection e with e1 _
   subst e1
   cases v<;>rfl
end L2
namespace L2
open PySem PySem.Spec PyProof.Rows
inductive V where
 | non | bl (b:Bool) | int (i:Int) | str (x:Str) | byt (b:Array UInt8) | flt (b:UInt64) | ref (a:Addr) | ty (n:String)
 deriving DecidableEq
def RelV:V->Value->Prop
 | .non,u=>u=Value.none
 | .bl b,u=>u=Value.bool b
 | .int i,u=>∃ t,u=Value.int i t
 | .str x,u=>∃ t,u=Value.str x t
 | .byt b,u=>∃ t,u=Value.bytes b t
 | .flt b,u=>∃ t,u=Value.float b t
 | .ref a,u=>u=Value.ref a
 | .ty n,u=>u=Value.type n
abbrev Vals:List V->List Value->Prop:=Paired RelV
theorem Vals.length {xs:List V} {us:List Value} (r:Vals xs us):xs.length=us.length:=Paired.length r
theorem Vals.get:∀ {xs:List V} {us:List Value} {i:Nat} {x:V},Vals xs us->xs[i]?=some x->∃ u,us[i]?=some u/\RelV x u
 | _,_,_,_,.nil,e=>by simp at e
 | _,_,0,_,.cons r _,e=>by simp at e;subst e;exact ⟨_,rfl,r⟩
 | _,_,i+1,x,.cons _ t,e=>by
  obtain ⟨u,h1,h2⟩:=Vals.get (i:=i) (x:=x) t (by simpa using e)
  exact ⟨u,by simpa using h1,h2⟩
theorem Vals.set {x:V} {u:Value} (r:RelV x u):∀ {xs:List V} {us:List Value} (i:Nat),Vals xs us->Vals (xs.set i x) (us.set i u)
 | _,_,_,.nil=>.nil
 | _,_,0,.cons _ t=>.cons r t
 | _,_,i+1,.cons q t=>.cons q (Vals.set r i t)
theorem Vals.append:∀ {xs ys:List V} {us ws:List Value},Vals xs us->Vals ys ws->Vals (xs++ys) (us++ws)
 | _,_,_,_,.nil,s=>s
 | _,_,_,_,.cons r t,s=>.cons r (Vals.append t s)
theorem Vals.take:∀ {xs:List V} {us:List Value} (n:Nat),Vals xs us->Vals (xs.take n) (us.take n)
 | _,_,0,_=>.nil
 | _,_,_+1,.nil=>.nil
 | _,_,n+1,.cons r t=>.cons r (Vals.take n t)
theorem Vals.drop:∀ {xs:List V} {us:List Value} (n:Nat),Vals xs us->Vals (xs.drop n) (us.drop n)
 | _,_,0,r=>r
 | _,_,_+1,.nil=>.nil
 | _,_,n+1,.cons _ t=>Vals.drop n t
theorem Vals.none_of:∀ {xs:List V} {us:List Value} {i:Nat},Vals xs us->xs[i]?=none->us[i]?=none:=fun {xs us i} r e=>by
 have h1:=r.length
 have h2:xs.length<=i:=List.getElem?_eq_none_iff.mp e
 exact List.getElem?_eq_none_iff.mpr (by omega)
def RelO:Option V->Option Value->Prop
 | some v,some u=>RelV v u
 | none,none=>True
 | _,_=>False
def KV {κ:Type}:List (κ×V)->List (κ×Value)->Prop:=Paired fun (p:κ×V) (q:κ×Value)=>p.1=q.1/\RelV p.2 q.2
def kV:Key->V
 | .inl i=>.int i
 | .inr x=>.str x
inductive HO where
 | lst (xs:List V)
 | tup (xs:List V)
 | dK (kvs:List (Key×V)) | dT (kvs:List (List Key×V))
 | set (S:Int->Bool) (n:Nat)
 | ins (C dx:Addr) (fs:List (Str×V))
 | own (x:Addr)
 | xd (fs:List (Str×V))
 | met (f x:Addr)
 | rng (lo hi:Int)
 | frz (o:Obj) (u:HO)
 | tbl (q:Str) (c:Bool)
 | ext (φ:Heap->Prop)
abbrev Hp:=Addr->Option HO
def upd (H:Hp) (a:Addr) (o:HO):Hp:=fun b=>if b=a then some o else H b
theorem ax {H:Hp} {a:Addr} {o:HO}:upd H a o a=some o:=by unfold upd;rw [if_pos rfl]
theorem ar {H:Hp} {a b:Addr} {o:HO} (h:b≠a):upd H a o b=H b:=by unfold upd;rw [if_neg h]
theorem ne_of_none {H:Hp} {a b:Addr} {o:HO} (h:H a=some o) (h':H b=none):a≠b:=by
 intro e;subst e;rw [h] at h';cases h'
def IsTupN (h:Heap) (a:Addr) (its:Array Value):Prop:=∃ o,h.get? a=some o/\o.cls=.type "tuple" /\ (∃ n,o.data=.seq its n)/\o.dict=none
theorem IsTupN.is {h:Heap} {a:Addr} {its:Array Value} (x:IsTupN h a its):IsTup h a its:=by obtain ⟨o,e,c,d,_⟩:=x;exact ⟨o,e,c,d⟩
theorem IsTupN.lt {h:Heap} {a:Addr} {its:Array Value} (x:IsTupN h a its):a<h.objs.size:=x.is.lt
theorem IsTupN.new (h:Heap) (its:Array Value):IsTupN (h.push {cls:=.type "tuple",data:=.seq its}) h.objs.size its:=⟨_,Heap.get?_push_size _ rfl,rfl,⟨_,rfl⟩,rfl⟩
section
variable (P:Program) (w:World)
def ObjOk (H:Hp) (h:Heap) (a:Addr):HO->Prop
 | .lst xs=>xs.length<=sizeLine/\∃ (its:List Value) (n:Nat),Vals xs its/\h.get? a=some {cls:=.type "list",data:=.seq its.toArray n}
 | .tup xs=>xs.length<=sizeLine/\∃ its:List Value,Vals xs its/\IsTupN h a its.toArray
 | .dK kvs=>kvs.length<=sizeLine/\(a==sysModules)=false/\∃ vs,KV kvs vs/\h.DictOf (mixKind P w) a vs
 | .dT kvs=>kvs.length<=sizeLine/\(a==sysModules)=false/\∃ xs:List (List Key×Addr×Value),
   Paired (fun (p:List Key×V) (q:List Key×Addr×Value)=>p.1=q.1/\H q.2.1=some (.tup (p.1.map kV))/\RelV p.2 q.2.2) kvs xs /\
   ∃ o es ep,h.get? a=some o/\o.ExactDict/\o.data=.dict es ep/\es.toList=xs.map (entryOfKey (tupleKind (mixKind P w)))/\(xs.map (·.1)).Nodup
 | .set S n=>h.SetOf (intKind P w) a S n
 | .ins C dx fs=>H dx=some (.own a)/\fs.length<=1000/\dx≠a/\h.get? a=some (PySem.W.instObj C dx) /\
   ∃ mA,h.Ns1 dx mA/\(∀ f,RelO (fs.lookup f) (mA f))/\PySem.Within mA (fs.map (·.1))
 | .own _=>∃ o,h.get? a=some o
 | .xd fs=>∃ mA,h.Ns1 a mA/\∀ f,RelO (fs.lookup f) (mA f)
 | .rng lo hi=>∃ t u v,h.get? a=some {cls:=.type "range",data:=.fields #[.int lo t,.int hi u,.int 1 v]}
 | .frz o u=>h.get? a=some o/\ObjOk H h a u
 | .tbl q true=>h.CodeRec (.ref a) q
 | .tbl q false=>∃ ts:Array Value,h.get? a=some {cls:=.none,data:=.fields ts}/\TriplesOk ts.toList/\∀ (pos:Pos) (cv:Value),codeAmong pos ts.toList=some cv->∃ c,cv=.ref c/\H c=some (.tbl q true)
 | .met f x=>h.get? a=some (PySem.W.methodObj (.ref f) (.ref x))
 | .ext φ=>φ h/\(∃ o,h.get? a=some o)/\∀ h1 h2:Heap,φ h1->(∀ o,h1.get? a=some o->h2.get? a=some o)->φ h2
def HOk (H:Hp) (h:Heap):Prop:=∀ a o,H a=some o->ObjOk P w H h a o
end
section
variable {P:Program} {w:World} {H H':Hp} {h h':Heap} {a:Addr} {o:HO}
theorem ObjOk.lt (x:ObjOk P w H h a o):a<h.objs.size:=by
 cases o with
 | lst xs=>obtain ⟨_,_,_,_,e⟩:=x;exact Heap.lt_size e
 | tup xs=>obtain ⟨_,_,_,p⟩:=x;exact p.lt
 | dK kvs=>obtain ⟨_,_,_,_,o,_,_,e,_⟩:=x;exact Heap.lt_size e
 | dT kvs=>obtain ⟨_,_,_,_,o,_,_,e,_⟩:=x;exact Heap.lt_size e
 | set S n=>obtain ⟨o,_,_,_,e,_⟩:=x;exact Heap.lt_size e
 | ins C dx fs=>obtain ⟨_,_,_,e,_⟩:=x;exact Heap.lt_size e
 | own y=>obtain ⟨_,e⟩:=x;exact Heap.lt_size e
 | xd fs=>obtain ⟨_,⟨_,_,_,e,_⟩,_⟩:=x;exact Heap.lt_size e
 | rng lo hi=>obtain ⟨_,_,_,e⟩:=x;exact Heap.lt_size e
 | frz ob u=>obtain ⟨e,_⟩:=x;exact Heap.lt_size e
 | tbl q c =>
  cases c with
  | true=>obtain ⟨_,o,_,_,e,g,_⟩:=(show h.CodeRec (.ref a) q from x);cases e;exact Heap.lt_size g
  | false=>obtain ⟨_,e,_⟩:=x;exact Heap.lt_size e
 | met f y=>exact Heap.lt_size (show h.get? a=some _ from x)
 | ext φ=>obtain ⟨_,⟨_,e⟩,_⟩:=x;exact Heap.lt_size e
theorem Paired.mapP {α β:Type} {F G:α->β->Prop}:∀ {l₁:List α} {l₂:List β},Paired F l₁ l₂->(∀ a b,F a b->G a b)->Paired G l₁ l₂
 | _,_,.nil,_=>.nil
 | _,_,.cons r t,f=>.cons (f _ _ r) (Paired.mapP t f)
theorem ObjOk.stay (x:ObjOk P w H h a o) (k:∀ b u,(b=a\/H b=some (.own a))->h.get? b=some u->h'.get? b=some u)
  (ho:∀ b,H b=some (.own a)->H' b=some (.own a)) (ht:∀ b xs,H b=some (.tup xs)->H' b=some (.tup xs)) (hc:∀ b q c,H b=some (.tbl q c)->H' b=some (.tbl q c)):ObjOk P w H' h' a o:=by
 induction o with
 | lst xs=>obtain ⟨z,its,n,r,e⟩:=x;exact ⟨z,its,n,r,k _ _ (.inl rfl) e⟩
 | tup xs=>obtain ⟨z,its,r,ob,e,c⟩:=x;exact ⟨z,its,r,ob,k _ _ (.inl rfl) e,c⟩
 | dK kvs=>obtain ⟨z,y,vs,r,ob,es,ep,e,c⟩:=x;exact ⟨z,y,vs,r,ob,es,ep,k _ _ (.inl rfl) e,c⟩
 | dT kvs =>
  obtain ⟨z,y,xs,r,ob,es,ep,e,c⟩:=x
  exact ⟨z,y,xs,Paired.mapP r fun p q z=>⟨z.1,ht _ _ z.2.1,z.2.2⟩,ob,es,ep,k _ _ (.inl rfl) e,c⟩
 | set S n=>obtain ⟨ob,es,ep,t,e,c⟩:=x;exact ⟨ob,es,ep,t,k _ _ (.inl rfl) e,c⟩
 | ins C dx fs =>
  obtain ⟨d,z,ne,e,mA,⟨od,es,ep,e2,c⟩,r⟩:=x
  exact ⟨ho _ d,z,ne,k _ _ (.inl rfl) e,mA,⟨od,es,ep,k _ _ (.inr d) e2,c⟩,r⟩
 | own y=>obtain ⟨ob,e⟩:=x;exact ⟨ob,k _ _ (.inl rfl) e⟩
 | xd fs=>obtain ⟨mA,⟨od,es,ep,e,c⟩,r⟩:=x;exact ⟨mA,⟨od,es,ep,k _ _ (.inl rfl) e,c⟩,r⟩
 | rng lo hi=>obtain ⟨t,u,v,e⟩:=x;exact ⟨t,u,v,k _ _ (.inl rfl) e⟩
 | frz ob u ih=>obtain ⟨e,q⟩:=x;exact ⟨k _ _ (.inl rfl) e,ih q⟩
 | tbl q c =>
  cases c with
  | true =>
   obtain ⟨_,o,vs,t,e,g,r⟩:=(show h.CodeRec (.ref a) q from x)
   cases e
   exact ⟨a,o,vs,t,rfl,k _ _ (.inl rfl) g,r⟩
  | false =>
   obtain ⟨ts,e,t,r⟩:=x
   refine ⟨ts,k _ _ (.inl rfl) e,t,fun pos cv hcv=>?_⟩
   obtain ⟨c,e1,e2⟩:=r pos cv hcv
   exact ⟨c,e1,hc _ _ _ e2⟩
 | met f y =>
  have e:h.get? a=some (PySem.W.methodObj (.ref f) (.ref y)):=x
  show h'.get? a=some (PySem.W.methodObj (.ref f) (.ref y))
  exact k a _ (.inl rfl) e
 | ext φ=>obtain ⟨p,⟨o,e⟩,st⟩:=x;exact ⟨st _ _ p fun o q=>k _ _ (.inl rfl) q,⟨o,k _ _ (.inl rfl) e⟩,st⟩
theorem HOk.lt (x:HOk P w H h) (e:H a=some o):a<h.objs.size:=(x a o e).lt
theorem HOk.fresh (x:HOk P w H h) (e:h.objs.size<=a):H a=none:=by
 cases q:H a with
 | none=>rfl
 | some u=>exact absurd (Nat.lt_of_lt_of_le (x.lt q) e) (Nat.lt_irrefl _)
theorem HOk.kept (x:HOk P w H h) (k:∀ b u,h.get? b=some u->h'.get? b=some u):HOk P w H h':=fun a o e =>
 (x a o e).stay (fun b u _ q=>k b u q) (fun _ q=>q) (fun _ _ q=>q) fun _ _ _ q=>q
theorem HOk.laid (x:HOk P w H h) (k:∀ b u,h.get? b=some u->h'.get? b=some u) (hp:h.objs.size<=a) (new:ObjOk P w (upd H a o) h' a o):HOk P w (upd H a o) h':=fun b u e=>by
 have hn:=x.fresh hp
 by_cases hb:b=a
 ·subst hb;rw [ax] at e;cases e;exact new
 ·rw [ar hb] at e
  exact (x b u e).stay (fun c v _ q=>k c v q) (fun c q=>by rw [ar (ne_of_none q hn)];exact q) (fun c xs q=>by rw [ar (ne_of_none q hn)];exact q) fun c _ _ q=>by rw [ar (ne_of_none q hn)];exact q
end
def Rd (H:Hp) (a:Addr) (u:HO):Prop:=H a=some u\/∃ o,H a=some (.frz o u)
theorem Rd.of {H:Hp} {a:Addr} {u:HO} (h:H a=some u):Rd H a u:=.inl h
theorem Rd.ok {P:Program} {w:World} {H:Hp} {h:Heap} {a:Addr} {u:HO} (r:Rd H a u) (x:HOk P w H h):ObjOk P w H h a u:=by
 rcases r with r | ⟨o,r⟩
 ·exact x a u r
 ·obtain ⟨_,q⟩:=x a _ r
  exact q
def Mut:Option HO->Prop
 | some (.lst _)=>True
 | some (.dK _)=>True
 | some (.dT _)=>True
 | some (.set _ _)=>True
 | some (.ins _ _ _)=>True
 | some (.ext _)=>True
 | some (.frz _ (.own _))=>True
 | _=>False
section
variable {P:Program} {w:World} {H:Hp} {h h':Heap} {x e:Addr} {o':HO}
theorem HOk.write (ok:HOk P w H h) (mu:Mut (H x)) (he:e=x\/H e=some (.own x)) (k:∀ b u,b≠e->h.get? b=some u->h'.get? b=some u) (heo:∃ u,h'.get? e=some u)
  (new:ObjOk P w (upd H x o') h' x o'):HOk P w (upd H x o') h':=fun b u q=>by
 have nown:∀ c y,H c=some (.own y)->c≠x:=fun c y r z=>by subst z;rw [r] at mu;exact mu
 have ntup:∀ c xs,H c=some (.tup xs)->c≠x:=fun c xs r z=>by subst z;rw [r] at mu;exact mu
 by_cases hb:b=x
 ·subst hb;rw [ax] at q;cases q;exact new
 ·rw [ar hb] at q
  by_cases hbe:b=e
  ·have q':H b=some (.own x):=by
    rcases he with z | z
    ·exact absurd (hbe.trans z) hb
    ·rw [hbe];exact z
   rw [q] at q';cases q'
   obtain ⟨v,hv⟩:=heo
   exact ⟨v,by rw [hbe];exact hv⟩
  ·refine (ok b u q).stay (fun c v hc r=>k c v ?_ r) (fun c r=>by rw [ar (nown c b r)];exact r) (fun c xs r=>by rw [ar (ntup c xs r)];exact r) fun c q d r=>by rw [ar fun z=>by subst z;rw [r] at mu;exact mu];exact r
   rcases hc with rfl | hc
   ·exact hbe
   ·rintro rfl
    rcases he with z | z
    ·exact nown c b hc z
    ·rw [hc] at z;cases z;exact hb rfl
end
structure Un (fs ex:List Addr) (H H':Hp) (h h':Heap):Prop where
 keep:∀ b o,h.get? b=some o->H b=none->b∉fs->b∉ex->h'.get? b=some o
 slot:∀ b o,h.get? b=some o->H b=none->b∈fs->b∉ex->∃ sl,h'.get? b=some {o with slots:=sl}
 free:∀ b o,h.get? b=some o->H b=none->b∉ex->H' b=none
 there:∀ b o,h.get? b=some o->b∉ex->∃ o',h'.get? b=some o'
 tups:∀ b xs,H b=some (.tup xs)->H' b=some (.tup xs)
 frzs:∀ b o u,(∀ y,u≠.own y)->H b=some (.frz o u)->H' b=some (.frz o u)
 tbls:∀ b q c,H b=some (.tbl q c)->H' b=some (.tbl q c)
section
variable {fs fs' ex ex':List Addr} {H H1 H2:Hp} {h h1 h2 h':Heap} {a x e:Addr} {o:HO}
theorem Un.any (u:Un fs ex H H1 h h1) {b:Addr} {ob:Obj} (q:h.get? b=some ob) (n:H b=none) (hx:b∉ex):∃ sl,h1.get? b=some {ob with slots:=sl}:=by
 by_cases hb:b∈fs
 ·exact u.slot b ob q n hb hx
 ·exact ⟨ob.slots,u.keep b ob q n hb hx⟩
theorem Un.trans (a:Un fs ex H H1 h h1) (b:Un fs ex H1 H2 h1 h2):Un fs ex H H2 h h2 where
 keep:=fun c ob q n hc hx=>b.keep c ob (a.keep c ob q n hc hx) (a.free c ob q n hx) hc hx
 slot:=fun c ob q n hc hx=>by
  obtain ⟨sl,e1⟩:=a.slot c ob q n hc hx
  obtain ⟨sl',e2⟩:=b.slot c _ e1 (a.free c ob q n hx) hc hx
  exact ⟨sl',e2⟩
 free:=fun c ob q n hx=>by
  obtain ⟨o',e1⟩:=a.there c ob q hx
  exact b.free c o' e1 (a.free c ob q n hx) hx
 there:=fun c ob q hx=>by
  obtain ⟨o',e1⟩:=a.there c ob q hx
  exact b.there c o' e1 hx
 tups:=fun c xs q=>b.tups c xs (a.tups c xs q)
 frzs:=fun c ob xs ny q=>b.frzs c ob xs ny (a.frzs c ob xs ny q)
 tbls:=fun c ps d q=>b.tbls c ps d (a.tbls c ps d q)
theorem Un.kept (k:∀ b u,h.get? b=some u->h'.get? b=some u):Un fs ex H H h h' :=
 ⟨fun b ob q _ _ _=>k b ob q,fun b ob q _ _ _=>⟨ob.slots,k b ob q⟩,fun _ _ _ n _=>n,fun b ob q _=>⟨ob,k b ob q⟩,fun _ _ q=>q,fun _ _ _ _ q=>q,fun _ _ _ q=>q⟩
theorem Un.refl:Un fs ex H H h h:=Un.kept fun _ _ q=>q
theorem Un.laid (k:∀ b u,h.get? b=some u->h'.get? b=some u) (hp:h.objs.size<=a) (hn:H a=none):Un fs ex H (upd H a o) h h' where
 keep:=fun b u q _ _ _=>k b u q
 slot:=fun b u q _ _ _=>⟨u.slots,k b u q⟩
 free:=fun b u q n _=>by rw [ar (Nat.ne_of_lt (Nat.lt_of_lt_of_le (Heap.lt_size q) hp))];exact n
 there:=fun b u q _=>⟨u,k b u q⟩
 tups:=fun b xs q=>by rw [ar (ne_of_none q hn)];exact q
 frzs:=fun b u xs _ q=>by rw [ar (ne_of_none q hn)];exact q
 tbls:=fun b ps _ q=>by rw [ar (ne_of_none q hn)];exact q
theorem Un.write (mu:Mut (H x)) (he:e=x\/H e=some (.own x)) (k:∀ b u,b≠e->h.get? b=some u->h'.get? b=some u) (heo:∃ u,h'.get? e=some u):Un fs ex H (upd H x o) h h':=by
 have hx:∀ b,H b=none->b≠x:=fun b n z=>by subst z;rw [n] at mu;exact mu
 have hb:∀ b,H b=none->b≠e:=fun b n z=>by
  subst z
  rcases he with r | r
  ·exact hx b n r
  ·rw [n] at r;cases r
 have hm:∀ b u,H b=some u->¬ Mut (some u)->b≠x:=fun b u q nm z=>by subst z;rw [q] at mu;exact nm mu
 refine ⟨fun b u q n _ _=>k b u (hb b n) q,fun b u q n _ _=>⟨u.slots,k b u (hb b n) q⟩,fun b u q n _=>by rw [ar (hx b n)];exact n,fun b u q _=>?_,
  fun b xs q=>by rw [ar (hm b _ q fun z=>z)];exact q,fun b u xs ny q=>by rw [ar (hm b _ q (by intro z;cases xs<;>first | exact z | exact ny _ rfl))];exact q,fun b ps _ q=>by rw [ar (hm b _ q fun z=>z)];exact q⟩
 by_cases hbe:b=e
 ·subst hbe;exact heo
 ·exact ⟨u,k b u hbe q⟩
theorem Un.mono (u:Un fs ex H H1 h h1) (hs:∀ b∈fs,b∈fs') (hx:∀ b∈ex,b∈ex'):Un fs' ex' H H1 h h1 :=
 ⟨fun b ob q n hb he=>u.keep b ob q n (fun z=>hb (hs b z)) fun z=>he (hx b z),fun _ _ q n _ he=>u.any q n fun z=>he (hx _ z),fun b ob q n he=>u.free b ob q n fun z=>he (hx b z),fun b ob q he=>u.there b ob q fun z=>he (hx b z),u.tups,u.frzs,u.tbls⟩
end
def trk (h:Heap) (H:Hp):List Addr:=(List.range h.objs.size).filter fun a=>(H a).isSome
def hidT (h:Heap) (H:Hp):Heap:=PySem.W.hideAll h (trk h H)
theorem hidT_size (h:Heap) (H:Hp):(hidT h H).objs.size=h.objs.size:=PySem.W.hideAll_size _ _
theorem hidT_get {h:Heap} {H:Hp} {b:Addr} {o:Obj} (e:h.get? b=some o) (n:H b=none):(hidT h H).get? b=some o :=
 PySem.W.hideAll_get _ e fun hm=>by
  have q:(H b).isSome=true:=(List.mem_filter.mp hm).2
  rw [n] at q;simp at q
theorem of_hidT {h:Heap} {H:Hp} {b:Addr} {o:Obj} (e:(hidT h H).get? b=some o):h.get? b=some o/\H b=none:=by
 have e':h.get? b=some o:=PySem.W.of_hideAll (trk h H) e
 refine ⟨e',?_⟩
 cases q:H b with
 | none=>rfl
 | some x =>
  have hm:b∈trk h H:=List.mem_filter.mpr ⟨List.mem_range.mpr (Heap.lt_size e'),by simp [q]⟩
  have z:(hidT h H).get? b=none:=PySem.W.hideAll_none (trk h H) hm
  rw [z] at e;cases e
def allNews (g h:Heap) (L:Addr):List (Addr×Obj):=(List.range h.objs.size).filterMap fun a=>if a=L\/(g.get? a).isSome=true then none else (h.get? a).map fun o=>(a,o)
def rest (g h:Heap) (L d:Addr):List (Addr×Obj):=(allNews g h L).filter fun p=>decide (p.1≠d)
end L2
namespace L2
open PySem PySem.Spec PyProof.Rows
structure Mod (K:PySem.W.Frag) (mg:Str->Option Value) (base:Heap):Prop where
 kin:K.In base
 glob:base.Ns mainGlobals mg
 blt:∃ mb,base.Ns builtinsNs mb/\∀ x:Str,x ≠ "__name__" -> mb x=bootBuiltins x
 nolimit:base.NoLimit
structure Cx where
 prog:Program
 w:World
 K:PySem.W.Frag
 mg:Str->Option Value
 base:Heap
 A:Around
 N:List Str
 s₀:Shared
 H₀:Hp
 env:Env
 outer:List Env
 stack:List Env
 ex:List Addr
 fn:Str->Bool
 calm:Bool
 pn:List (Addr×Obj)
 xe:Value->Shared->Prop
def frs (l:List Env):List Addr:=l.filterMap (·.frame)
abbrev Cx.fs (X:Cx):List Addr:=frs X.outer
def Vis (sc:Scope) (x:Str):Prop:=sc.names.lookup x=some .local\/sc.names.lookup x=some .cell\/sc.names.lookup x=some .free
def Loc (sc:Scope) (x:Str):Prop:=sc.names.lookup x=some .local\/sc.names.lookup x=some .cell
def Look (env:Env) (h:Heap) (m:Str->Option Value) (x:Str) (u:Value):Prop :=
 (env.kindOf x=some .local/\m x=some u)\/((env.kindOf x=some .cell\/env.kindOf x=some .free)/\∃ c,env.cells.lookup x=some c/\h.IsCell c (some u))
structure Cx.Ok (X:Cx):Prop where
 mod:Mod X.K X.mg X.base
 kind:X.env.scope.kind=.function
 glob:X.env.globals=mainGlobals
 blt:X.env.builtins=builtinsNs
 above:X.s₀.heap.objs.size<=X.env.locals
 inj:∀ x y c,X.env.cells.lookup x=some c->X.env.cells.lookup y=some c->x=y
 has:∀ x,(X.env.kindOf x=some .cell\/X.env.kindOf x=some .free)->∃ c,X.env.cells.lookup x=some c
 cab:∀ x c,X.fn x=true->X.env.cells.lookup x=some c->X.s₀.heap.objs.size<=c
 hd:X.calm=true->X.A.handled=none
 frames:X.A.frames=some X.stack
 stk:X.stack=X.outer\/(X.stack=X.env::X.outer/\X.env.frame=some X.env.locals)
 exf:∀ b∈X.ex,b≠X.env.locals/\∀ x c,X.env.cells.lookup x=some c->c≠b
 bs:∀ b o,X.base.get? b=some o->X.s₀.heap.get? b=some o/\X.H₀ b=none
 bsz:X.base.objs.size<=X.s₀.heap.objs.size
 noex:∀ b o,X.base.get? b=some o->b∉X.ex
 exfs:∀ b∈X.ex,b∉X.fs
 funs:X.s₀.heap.FunFrames X.base X.outer
 frf:∀ b∈X.fs,X.H₀ b=none
structure Inv (X:Cx) (pins:List (Addr×Obj)) (σ:List (Option V)) (H:Hp) (s:Shared):Prop where
 ok:X.Ok
 os:s.os=X.s₀.os
 bare:AllBare s.gens
 base:Un X.fs X.ex X.H₀ H X.s₀.heap s.heap
 loc:∃ m,s.heap.Ns X.env.locals m/\∀ (i:Nat) (x:Str) (v:V),X.N[i]?=some x->σ[i]?=some (some v)->Vis X.env.scope x->∃ u,RelV v u/\Look X.env s.heap m x u
 cell:∀ x c,X.env.cells.lookup x=some c->∃ v,s.heap.IsCell c v
 free:H X.env.locals=none
 freeC:∀ x c,X.env.cells.lookup x=some c->H c=none
 pin:∀ p∈X.pn++pins,s.heap.get? p.1=some p.2/\H p.1=none/\p.1≠X.env.locals/\p.1∉X.fs/\∀ v,p.2.data≠.cell v
 hok:HOk X.prog X.w H s.heap
 len:σ.length=X.N.length
section
variable {X:Cx} {pins:List (Addr×Obj)} {σ:List (Option V)} {H H':Hp} {s:Shared} {h':Heap}
theorem Cx.Ok.nofr (ok:X.Ok) {b:Addr} {o:Obj} (e:X.base.get? b=some o):b∉X.fs:=fun hb=>by
 have:=(ok.funs.mem hb).1
 rw [e] at this;cases this
theorem Inv.bs (I:Inv X pins σ H s):∀ b o,X.base.get? b=some o->s.heap.get? b=some o/\H b=none:=fun b o e =>
 ⟨I.base.keep b o (I.ok.bs b o e).1 (I.ok.bs b o e).2 (I.ok.nofr e) (I.ok.noex b o e),I.base.free b o (I.ok.bs b o e).1 (I.ok.bs b o e).2 (I.ok.noex b o e)⟩
theorem Inv.bk (I:Inv X pins σ H s):∀ b o,X.base.get? b=some o->s.heap.get? b=some o:=fun b o e=>(I.bs b o e).1
theorem Inv.mod (I:Inv X pins σ H s):Mod X.K X.mg X.base:=I.ok.mod
theorem Inv.kIn (I:Inv X pins σ H s):X.K.In s.heap:=I.ok.mod.kin.keeps I.bk
theorem Inv.nolimit (I:Inv X pins σ H s):s.heap.NoLimit:=I.ok.mod.nolimit.keeps I.bk
theorem Inv.lt (I:Inv X pins σ H s):X.env.locals<s.heap.objs.size:=let ⟨_,hn,_⟩:=I.loc;hn.lt
theorem Inv.sz (I:Inv X pins σ H s):X.s₀.heap.objs.size<=s.heap.objs.size:=Nat.le_trans I.ok.above (Nat.le_of_lt I.lt)
theorem Inv.nofs (I:Inv X pins σ H s) {a:Addr} (h:s.heap.objs.size<=a):a∉X.fs:=fun hb=>by
 obtain ⟨_,o,ho,_⟩:=I.ok.funs.mem hb
 exact absurd (Nat.lt_of_lt_of_le (Heap.lt_size ho) (Nat.le_trans I.sz h)) (Nat.lt_irrefl _)
theorem Inv.cne (I:Inv X pins σ H s):∀ x c,X.env.cells.lookup x=some c->c≠X.env.locals:=fun x c e z=>by
 obtain ⟨v,o,ho,hd⟩:=I.cell x c e
 obtain ⟨m,⟨o',es,ep,ho',hd',_⟩,_⟩:=I.loc
 rw [z,ho'] at ho;cases ho;rw [hd'] at hd;cases hd
theorem Inv.funs (I:Inv X pins σ H s):s.heap.FunFrames X.base X.outer:=by
 have all:∀ (l:List Env),(∀ b∈frs l,b∈X.fs)->X.s₀.heap.FunFrames X.base l->s.heap.FunFrames X.base l:=by
  intro l
  induction l with
  | nil=>intro _ _;trivial
  | cons env r ih =>
   intro hs hl
   obtain ⟨hk,⟨L,o,hf,hn,ho,hd⟩,hr⟩:=hl
   have hL:L∈X.fs:=hs L (by unfold frs;rw [List.filterMap_cons,hf];exact List.mem_cons_self)
   obtain ⟨sl,e⟩:=I.base.slot L o ho (I.ok.frf L hL) hL fun z=>I.ok.exfs L z hL
   exact ⟨hk,⟨L,_,hf,hn,e,hd⟩,ih (fun b hb=>hs b (by unfold frs;rw [List.filterMap_cons,hf];exact List.mem_cons_of_mem _ hb)) hr⟩
 exact all X.outer (fun _ hb=>hb) I.ok.funs
theorem Inv.stack (I:Inv X pins σ H s):s.heap.FunFrames X.base X.stack:=by
 rcases I.ok.stk with e | ⟨e,hf⟩
 ·rw [e];exact I.funs
 ·rw [e]
  obtain ⟨m,hn,_⟩:=I.loc
  refine .cons (by rw [I.ok.kind];decide) hf hn ?_ I.funs
  exact Heap.get?_none_of_le (Nat.le_trans I.ok.bsz I.ok.above)
theorem Inv.stkSub (I:Inv X pins σ H s):∀ b∈frs X.stack,b∈X.env.locals::X.fs:=fun b hb=>by
 rcases I.ok.stk with e | ⟨e,hf⟩
 ·rw [e] at hb;exact List.mem_cons_of_mem _ hb
 ·rw [e] at hb
  unfold frs at hb
  rw [List.filterMap_cons,hf] at hb
  exact hb
theorem Inv.stkFree (I:Inv X pins σ H s):∀ b∈frs X.stack,H b=none:=fun b hb=>by
 rcases List.mem_cons.mp (I.stkSub b hb) with e | hb
 ·rw [e];exact I.free
 ·obtain ⟨_,o,ho,_⟩:=I.ok.funs.mem hb
  exact I.base.free b o ho (I.ok.frf b hb) fun z=>I.ok.exfs b z hb
theorem Inv.step {g':Array GenState} {t':Nat} {d':Drawn} {ch:List Addr} (I:Inv X pins σ H s)
  (hch:∀ b∈ch,(b∈X.ex\/X.s₀.heap.objs.size<=b)/\b≠X.env.locals/\(∀ x c,X.env.cells.lookup x=some c->c≠b)/\∀ p∈X.pn++pins,p.1≠b)
  (keep:∀ b o,b≠X.env.locals->b∉X.fs->b∉ch->s.heap.get? b=some o->H b=none->h'.get? b=some o)
  (slot:∀ b o,b≠X.env.locals->b∈X.fs->b∉ch->s.heap.get? b=some o->H b=none->∃ sl,h'.get? b=some {o with slots:=sl}) (free:∀ b o,b∉ch->s.heap.get? b=some o->H b=none->H' b=none)
  (there:∀ b o,b∉ch->s.heap.get? b=some o->∃ o',h'.get? b=some o')
  (tups:∀ b xs,H b=some (.tup xs)->H' b=some (.tup xs)) (frzs:∀ b o u,(∀ y,u≠.own y)->H b=some (.frz o u)->H' b=some (.frz o u)) (tbls:∀ b q c,H b=some (.tbl q c)->H' b=some (.tbl q c))
  (ns:∀ m,s.heap.Ns X.env.locals m->h'.Ns X.env.locals m) (hok:HOk X.prog X.w H' h') (hg:AllBare g') :
  Inv X pins σ H' {s with heap:=h',gens:=g',drawn:=d',toks:=t' }:=by
 have neL:∀ b o,X.s₀.heap.get? b=some o->b≠X.env.locals:=fun b o e=>Nat.ne_of_lt (Nat.lt_of_lt_of_le (Heap.lt_size e) I.ok.above)
 have neC:∀ b o,X.s₀.heap.get? b=some o->b∉X.ex->b∉ch:=fun b o e hx hb=>by
  rcases (hch b hb).1 with z | z
  ·exact hx z
  ·exact absurd (Nat.lt_of_lt_of_le (Heap.lt_size e) z) (Nat.lt_irrefl _)
 have cellK:∀ x c,X.env.cells.lookup x=some c->∀ v,s.heap.IsCell c v->h'.IsCell c v:=fun x c e v ⟨o,ho,hd⟩=>by
  have nch:c∉ch:=fun z=>(hch c z).2.2.1 x c e rfl
  by_cases hc:c∈X.fs
  ·obtain ⟨sl,q⟩:=slot c o (I.cne x c e) hc nch ho (I.freeC x c e)
   exact ⟨_,q,hd⟩
  ·exact ⟨o,keep c o (I.cne x c e) hc nch ho (I.freeC x c e),hd⟩
 refine ⟨I.ok,I.os,hg,⟨fun b o e n hb hx=>?_,fun b o e n hb hx=>?_,fun b o e n hx=>?_,fun b o e hx=>?_,fun b xs e=>tups b xs (I.base.tups b xs e),fun b o xs ny e=>frzs b o xs ny (I.base.frzs b o xs ny e),fun b ps d e=>?_⟩,?_,fun x c e=>?_,?_,fun x c e=>?_,fun p hp=>?_,hok,I.len⟩
 ·exact keep b o (neL b o e) hb (neC b o e hx) (I.base.keep b o e n hb hx) (I.base.free b o e n hx)
 ·obtain ⟨sl,e1⟩:=I.base.slot b o e n hb hx
  obtain ⟨sl',e2⟩:=slot b _ (neL b o e) hb (neC b o e hx) e1 (I.base.free b o e n hx)
  exact ⟨sl',e2⟩
 ·obtain ⟨o',e1⟩:=I.base.there b o e hx
  exact free b o' (neC b o e hx) e1 (I.base.free b o e n hx)
 ·obtain ⟨o',e1⟩:=I.base.there b o e hx
  exact there b o' (neC b o e hx) e1
 ·exact tbls b ps d (I.base.tbls b ps d e)
 ·obtain ⟨m,hn,hl⟩:=I.loc
  refine ⟨m,ns m hn,fun i x v e1 e2 e3=>?_⟩
  obtain ⟨u,r,l⟩:=hl i x v e1 e2 e3
  refine ⟨u,r,?_⟩
  rcases l with l | ⟨k,c,e,z⟩
  ·exact .inl l
  ·exact .inr ⟨k,c,e,cellK x c e _ z⟩
 ·obtain ⟨v,z⟩:=I.cell x c e
  exact ⟨v,cellK x c e v z⟩
 ·obtain ⟨m,⟨o,_,_,ho,_⟩,_⟩:=I.loc
  exact free _ o (fun z=>(hch _ z).2.1 rfl) ho I.free
 ·obtain ⟨v,o,ho,hd⟩:=I.cell x c e
  exact free c o (fun z=>(hch c z).2.2.1 x c e rfl) ho (I.freeC x c e)
 ·obtain ⟨e,n,ne,nf,d⟩:=I.pin p hp
  have nch:p.1∉ch:=fun z=>(hch p.1 z).2.2.2 p hp rfl
  exact ⟨keep p.1 p.2 ne nf nch e n,free p.1 p.2 nch e n,ne,nf,d⟩
theorem Inv.un {t':Nat} (I:Inv X pins σ H s) (u:Un X.fs [] H H' s.heap h') (hok:HOk X.prog X.w H' h'):Inv X pins σ H' {s with heap:=h',toks:=t' }:=by
 obtain ⟨m,⟨o,es,ep,ho,r⟩,_⟩:=id I.loc
 obtain ⟨sl,hL⟩:=u.any ho I.free (by simp)
 exact I.step (g':=s.gens) (d':=s.drawn) (ch:=[]) (fun _ z=>nomatch z) (fun b o _ hb _ e n=>u.keep b o e n hb (by simp)) (fun b o _ hb _ e n=>u.slot b o e n hb (by simp)) (fun b o _ e n=>u.free b o e n (by simp)) (fun b o _ e=>u.there b o e (by simp)) u.tups u.frzs u.tbls (fun m' hm=>by
  obtain ⟨o',es',ep',ho',r'⟩:=hm
  rw [ho] at ho';cases ho'
  exact ⟨_,es',ep',hL,r'⟩) hok I.bare
theorem Inv.call {g':Array GenState} {t':Nat} {d':Drawn} {ch:List Addr} (I:Inv X pins σ H s) (u:Un (frs X.stack) ch H H' s.heap h') (hok:HOk X.prog X.w H' h') (hg:AllBare g')
  (hch:∀ b∈ch,(b∈X.ex\/X.s₀.heap.objs.size<=b)/\b≠X.env.locals/\(∀ x c,X.env.cells.lookup x=some c->c≠b)/\∀ p∈X.pn++pins,p.1≠b) :
  Inv X pins σ H' {s with heap:=h',gens:=g',drawn:=d',toks:=t' }:=by
 obtain ⟨m,⟨o,es,ep,ho,r⟩,_⟩:=id I.loc
 obtain ⟨sl,hL⟩:=u.any ho I.free fun z=>(hch _ z).2.1 rfl
 exact I.step (ch:=ch) hch (fun b o hL hb hc e n=>u.keep b o e n (fun z=>(List.mem_cons.mp (I.stkSub b z)).elim hL hb) hc) (fun b o _ _ hc e n=>u.any e n hc) (fun b o hc e n=>u.free b o e n hc) (fun b o hc e=>u.there b o e hc) u.tups u.frzs u.tbls (fun m' hm=>by
  obtain ⟨o',es',ep',ho',r'⟩:=hm
  rw [ho] at ho';cases ho'
  exact ⟨_,es',ep',hL,r'⟩) hok hg
theorem Inv.turned {t':Nat} {it:Addr} (I:Inv X pins σ H s) (k:∀ b o,b≠it->s.heap.get? b=some o->h'.get? b=some o) (hn:H it=none) (hL:it≠X.env.locals)
  (h1:it∈X.ex\/X.s₀.heap.objs.size<=it) (h2:∀ x c,X.env.cells.lookup x=some c->c≠it) (h3:∀ p∈X.pn++pins,p.1≠it):Inv X pins σ H {s with heap:=h',toks:=t' }:=by
 have nit:∀ b u,H b=some u->b≠it:=fun b u e z=>by rw [z,hn] at e;cases e
 refine I.step (g':=s.gens) (d':=s.drawn) (ch:=[it]) (fun b hb=>?_) (fun b o _ _ hc e _=>k b o (fun z=>hc (by simp [z])) e) (fun b o _ _ hc e _=>⟨o.slots,k b o (fun z=>hc (by simp [z])) e⟩) (fun _ _ _ _ n=>n)
  (fun b o hc e=>⟨o,k b o (fun z=>hc (by simp [z])) e⟩) (fun _ _ e=>e) (fun _ _ _ _ e=>e) (fun _ _ _ e=>e) (fun m hm=>?_) (fun b u e=>?_) I.bare
 ·have e:b=it:=by simpa using hb
  subst e
  exact ⟨h1,hL,h2,h3⟩
 ·obtain ⟨o,es,ep,ho,r⟩:=hm
  exact ⟨o,es,ep,k _ o (Ne.symm hL) ho,r⟩
 ·refine (I.hok b u e).stay (fun c v hc q=>k c v ?_ q) (fun _ q=>q) (fun _ _ q=>q) fun _ _ _ q=>q
  rcases hc with z | z
  ·rw [z];exact nit b u e
  ·exact nit c _ z
theorem Inv.tok (I:Inv X pins σ H s) (t:Nat):Inv X pins σ H {s with toks:=t}:=I.un (h':=s.heap) (t':=t) Un.refl I.hok
theorem Inv.kept {t':Nat} (I:Inv X pins σ H s) (k:∀ b u,s.heap.get? b=some u->h'.get? b=some u):Inv X pins σ H {s with heap:=h',toks:=t' }:=I.un (Un.kept k) (I.hok.kept k)
theorem Inv.laid {a:Addr} {o:HO} {t':Nat} (I:Inv X pins σ H s) (k:∀ b u,s.heap.get? b=some u->h'.get? b=some u) (hp:s.heap.objs.size<=a) (new:ObjOk X.prog X.w (upd H a o) h' a o) :
  Inv X pins σ (upd H a o) {s with heap:=h',toks:=t' }:=I.un (Un.laid k hp (I.hok.fresh hp)) (I.hok.laid k hp new)
theorem Inv.write {x e:Addr} {o:HO} {t':Nat} (I:Inv X pins σ H s) (mu:Mut (H x)) (he:e=x\/H e=some (.own x)) (k:∀ b u,b≠e->s.heap.get? b=some u->h'.get? b=some u) (heo:∃ u,h'.get? e=some u)
  (new:ObjOk X.prog X.w (upd H x o) h' x o):Inv X pins σ (upd H x o) {s with heap:=h',toks:=t' }:=I.un (Un.write mu he k heo) (I.hok.write mu he k heo new)
theorem Inv.pins_of {pins':List (Addr×Obj)} (I:Inv X pins σ H s) (h:∀ p∈pins',s.heap.get? p.1=some p.2/\H p.1=none/\p.1≠X.env.locals/\p.1∉X.fs/\∀ v,p.2.data≠.cell v):Inv X pins' σ H s :=
 ⟨I.ok,I.os,I.bare,I.base,I.loc,I.cell,I.free,I.freeC,fun p hp=>(List.mem_append.mp hp).elim (fun z=>I.pin p (List.mem_append_left _ z)) (h p),I.hok,I.len⟩
theorem nodup_ix {N:List Str} (hN:N.Nodup) {i j:Nat} {x:Str} (a:N[i]?=some x) (b:N[j]?=some x):i=j:=by
 obtain ⟨h1,e1⟩:=List.getElem?_eq_some_iff.mp a
 obtain ⟨h2,e2⟩:=List.getElem?_eq_some_iff.mp b
 exact (List.getElem_inj hN).mp (e1.trans e2.symm)
theorem store_ok2 {M:Model} {A:Around} {E:Value->Shared->Prop} {i:Nat} {x:Str} {v:V} {u:Value} {Q:Unit->Shared->Prop} (I:Inv X pins σ H s) (hN:X.N.Nodup) (hi:X.N[i]?=some x) (hx:Loc X.env.scope x) (r:RelV v u)
  (h:∀ s',Inv X pins (σ.set i (some v)) H s'->(∃ a,Heap.SameBut a s.heap s'.heap/\(a=X.env.locals\/X.env.cells.lookup x=some a))->Q () s') (hf:X.fn x=true\/X.env.scope.names.lookup x=some .local:=by first | exact .inl rfl | exact .inr rfl | assumption):wpAny M A (storeName X.env x u) Q E s:=by
 obtain ⟨m,hn,hl⟩:=id I.loc
 have hcls:(X.env.scope.kind==.class||(X.env.scope.kind==.module&&X.env.locals != X.env.globals))=false:=by rw [I.ok.kind];rfl
 have hiσ:i<σ.length:=by rw [I.len];exact (List.getElem?_eq_some_iff.mp hi).1
 have cne:=I.cne
 have tracked:∀ {a:Addr} {h':Heap},(∃ o,s.heap.get? a=some o/\H a=none)->Heap.SameBut a s.heap h'->HOk X.prog X.w H h':=fun {a h'} ha hs b ob e=>by
  obtain ⟨_,_,hfree⟩:=ha
  refine (I.hok b ob e).stay (fun c w' hc q=>(hs.2 c ?_).trans q) (fun _ q=>q) (fun _ _ q=>q) fun _ _ _ q=>q
  rintro rfl
  rcases hc with rfl | hc
  ·rw [hfree] at e;cases e
  ·rw [hfree] at hc;cases hc
 rcases hx with hk | hk
 ·refine wpAny_storeName_local hk hn (fun h' hn' hs=>?_) hcls
  obtain ⟨oL,_,_,hoL,_⟩:=id hn
  refine h _ ⟨I.ok,I.os,I.bare,⟨fun b o e n hb hx=>?_,fun b o e n hb hx=>?_,I.base.free,fun b o e hx=>?_,I.base.tups,I.base.frzs,I.base.tbls⟩,⟨_,hn',fun j y v' e1 e2 e3=>?_⟩,fun y c e=>?_,I.free,I.freeC,fun p hp=>?_,tracked ⟨oL,hoL,I.free⟩ hs,by simpa using I.len⟩ ⟨_,hs,.inl rfl⟩
  ·exact (hs.2 b (Nat.ne_of_lt (Nat.lt_of_lt_of_le (Heap.lt_size e) I.ok.above))).trans (I.base.keep b o e n hb hx)
  ·obtain ⟨sl,e1⟩:=I.base.slot b o e n hb hx
   exact ⟨sl,(hs.2 b (Nat.ne_of_lt (Nat.lt_of_lt_of_le (Heap.lt_size e) I.ok.above))).trans e1⟩
  ·obtain ⟨o',e1⟩:=I.base.there b o e hx
   exact ⟨o',(hs.2 b (Nat.ne_of_lt (Nat.lt_of_lt_of_le (Heap.lt_size e) I.ok.above))).trans e1⟩
  ·by_cases hj:j=i
   ·subst hj
    rw [hi] at e1;cases e1
    rw [List.getElem?_set_self hiσ] at e2
    cases e2
    exact ⟨u,r,.inl ⟨hk,by simp⟩⟩
   ·rw [List.getElem?_set_ne (Ne.symm hj)] at e2
    obtain ⟨u',r',q⟩:=hl j y v' e1 e2 e3
    refine ⟨u',r',?_⟩
    rcases q with ⟨k,e⟩ | ⟨k,c,e,z⟩
    ·refine .inl ⟨k,?_⟩
     have:y≠x:=fun e=>hj (nodup_ix hN e1 (e ▸ hi))
     simp [this,e]
    ·exact .inr ⟨k,c,e,z.sameBut hs (cne y c e)⟩
  ·obtain ⟨w',z⟩:=I.cell y c e
   exact ⟨w',z.sameBut hs (cne y c e)⟩
  ·obtain ⟨e,n,ne,nf,d⟩:=I.pin p hp
   exact ⟨(hs.2 p.1 ne).trans e,n,ne,nf,d⟩
 ·have hfn:X.fn x=true:=by
   rcases hf with z | z
   ·exact z
   ·rw [z] at hk;cases hk
  obtain ⟨c,hc⟩:=I.ok.has x (.inl hk)
  obtain ⟨w',z⟩:=I.cell x c hc
  refine wpAny_storeName_cell I.ok.kind hk hc z (fun h' hc' hs=>?_)
  obtain ⟨oc,hoc,hocd⟩:=id z
  refine h {s with heap:=h' } ⟨I.ok,I.os,I.bare,⟨fun b o e n hb hx=>?_,fun b o e n hb hx=>?_,I.base.free,fun b o e hx=>?_,I.base.tups,I.base.frzs,I.base.tbls⟩,⟨m,hn.sameBut hs (Ne.symm (cne x c hc)),fun j y v' e1 e2 e3=>?_⟩,fun y c' e=>?_,I.free,I.freeC,fun p hp=>?_,tracked ⟨oc,hoc,I.freeC x c hc⟩ hs,by simpa using I.len⟩ ⟨c,hs,.inr hc⟩
  ·exact (hs.2 b (Nat.ne_of_lt (Nat.lt_of_lt_of_le (Heap.lt_size e) (I.ok.cab x c hfn hc)))).trans (I.base.keep b o e n hb hx)
  ·obtain ⟨sl,e1⟩:=I.base.slot b o e n hb hx
   exact ⟨sl,(hs.2 b (Nat.ne_of_lt (Nat.lt_of_lt_of_le (Heap.lt_size e) (I.ok.cab x c hfn hc)))).trans e1⟩
  ·obtain ⟨o',e1⟩:=I.base.there b o e hx
   exact ⟨o',(hs.2 b (Nat.ne_of_lt (Nat.lt_of_lt_of_le (Heap.lt_size e) (I.ok.cab x c hfn hc)))).trans e1⟩
  ·by_cases hj:j=i
   ·subst hj
    rw [hi] at e1;cases e1
    rw [List.getElem?_set_self hiσ] at e2
    cases e2
    exact ⟨u,r,.inr ⟨.inl hk,c,hc,hc'⟩⟩
   ·rw [List.getElem?_set_ne (Ne.symm hj)] at e2
    obtain ⟨u',r',q⟩:=hl j y v' e1 e2 e3
    refine ⟨u',r',?_⟩
    rcases q with q | ⟨k,c',e,z'⟩
    ·exact .inl q
    ·refine .inr ⟨k,c',e,z'.sameBut hs ?_⟩
     rintro rfl
     exact hj (nodup_ix hN e1 (I.ok.inj _ _ _ e hc ▸ hi))
  ·by_cases hcc:c'=c
   ·subst hcc;exact ⟨_,hc'⟩
   ·obtain ⟨w2,z2⟩:=I.cell y c' e
    exact ⟨w2,z2.sameBut hs hcc⟩
  ·obtain ⟨e,n,ne,nf,d⟩:=I.pin p hp
   refine ⟨(hs.2 p.1 ?_).trans e,n,ne,nf,d⟩
   intro q
   rw [q,hoc] at e
   have q':oc=p.2:=Option.some.inj e
   exact d w' (by rw [<- q'];exact hocd)
theorem store_ok {M:Model} {A:Around} {E:Value->Shared->Prop} {i:Nat} {x:Str} {v:V} {u:Value} {Q:Unit->Shared->Prop} (I:Inv X pins σ H s) (hN:X.N.Nodup) (hi:X.N[i]?=some x) (hx:Loc X.env.scope x) (r:RelV v u)
  (h:∀ s',Inv X pins (σ.set i (some v)) H s'->Q () s') (hf:X.fn x=true\/X.env.scope.names.lookup x=some .local:=by first | exact .inl rfl | exact .inr rfl | assumption):wpAny M A (storeName X.env x u) Q E s :=
 store_ok2 I hN hi hx r (fun s' I' _=>h s' I') hf
theorem Inv.call' {s':Shared} {ch:List Addr} (I:Inv X pins σ H s) (ho:s'.os=s.os) (u:Un (frs X.stack) ch H H' s.heap s'.heap) (hok:HOk X.prog X.w H' s'.heap) (hg:AllBare s'.gens)
  (hch:∀ b∈ch,(b∈X.ex\/X.s₀.heap.objs.size<=b)/\b≠X.env.locals/\(∀ x c,X.env.cells.lookup x=some c->c≠b)/\∀ p∈X.pn++pins,p.1≠b):Inv X pins σ H' s':=by
 obtain ⟨h',g',d',t',o'⟩:=s'
 have e:o'=s.os:=ho
 subst e
 exact I.call (g':=g') (t':=t') (d':=d') u hok hg hch
end
abbrev XK:=Value->Option Addr->Hp->Prop
abbrev St:=List (Option V)
abbrev VK:=V->Hp->Prop
abbrev TE:=St->Hp->VK->Prop
abbrev TT:=St->Hp->(Bool->Hp->Prop)->Prop
abbrev TA:=St->Hp->(List V->Hp->Prop)->Prop
structure Ends where
 nx:St->Hp->Prop
 rt:VK
 bk:St->Hp->Prop:=fun _ _=>False
 ct:St->Hp->Prop:=fun _ _=>False
abbrev TS:=Ends->St->Hp->Prop
def EP (X:Cx) (pins:List (Addr×Obj)) (σ:St) (Q:VK) (u:Value) (s':Shared):Prop:=∃ v H',Inv X pins σ H' s'/\RelV v u/\Q v H'
def TP (X:Cx) (pins:List (Addr×Obj)) (σ:St) (Q:Bool->Hp->Prop) (b:Bool) (s':Shared):Prop:=∃ H',Inv X pins σ H' s'/\Q b H'
def AP (X:Cx) (pins:List (Addr×Obj)) (σ:St) (Q:List V->Hp->Prop) (us:List Value) (s':Shared):Prop:=∃ vs H',Inv X pins σ H' s'/\Vals vs us/\Q vs H'
def SP (X:Cx) (pins:List (Addr×Obj)) (D:Ends) (f:Flow) (s':Shared):Prop :=
 match f with
 | .next=>∃ σ' H',Inv X pins σ' H' s'/\D.nx σ' H'
 | .brk=>∃ σ' H',Inv X pins σ' H' s'/\D.bk σ' H'
 | .cont=>∃ σ' H',Inv X pins σ' H' s'/\D.ct σ' H'
 | .ret u=>∃ v σ' H',Inv X pins σ' H' s'/\RelV v u/\D.rt v H'
def PE (X:Cx) (e:Expr) (t:TE):Prop :=
 ∀ (pins:List (Addr×Obj)) (s:Shared) (σ:St) (H:Hp) (Q:VK),Inv X pins σ H s->t σ H Q->wpAny (model X.prog X.w) X.A (eval e X.env) (EP X pins σ Q) X.xe s
def PT (X:Cx) (e:Expr) (t:TT):Prop :=
 ∀ (pins:List (Addr×Obj)) (s:Shared) (σ:St) (H:Hp) (Q:Bool->Hp->Prop),Inv X pins σ H s->t σ H Q->wpAny (model X.prog X.w) X.A (isTrue e X.env (eval e X.env)) (TP X pins σ Q) X.xe s
def PW (X:Cx) (e:Expr) (t:TT):Prop :=
 ∀ (whole:Sem Value) (pins:List (Addr×Obj)) (s:Shared) (σ:St) (H:Hp) (Q:Bool->Hp->Prop),Inv X pins σ H s->t σ H Q->wpAny (model X.prog X.w) X.A (isTrue e X.env whole) (TP X pins σ Q) X.xe s
theorem PW.pt {X:Cx} {e:Expr} {t:TT} (h:PW X e t):PT X e t:=h _
def PA (X:Cx) (es:List Expr) (t:TA):Prop :=
 ∀ (pos:Pos) (pins:List (Addr×Obj)) (s:Shared) (σ:St) (H:Hp) (Q:List V->Hp->Prop),Inv X pins σ H s->t σ H Q->wpAny (model X.prog X.w) X.A (spliced (backTo pos (starEach es X.env))) (AP X pins σ Q) X.xe s
def PS (X:Cx) (st:Stmt) (t:TS):Prop :=
 ∀ (pins:List (Addr×Obj)) (s:Shared) (σ:St) (H:Hp) (D:Ends),Inv X pins σ H s->t D σ H->wpAny (model X.prog X.w) X.A (exec st X.env) (SP X pins D) X.xe s
def PSs (X:Cx) (st:List Stmt) (t:TS):Prop :=
 ∀ (pins:List (Addr×Obj)) (s:Shared) (σ:St) (H:Hp) (D:Ends),Inv X pins σ H s->t D σ H->wpAny (model X.prog X.w) X.A (execs st X.env) (SP X pins D) X.xe s
theorem thn {α:Type} {t:Sem α} {Q Q':α->Shared->Prop} {M:Model} {A:Around} {E:Value->Shared->Prop} {s:Shared} (h:wpAny M A t Q E s) (hQ:∀ a s,Q a s->Q' a s):wpAny M A t Q' E s:=wpAny_mono h hQ fun _ _ x=>x
end L2
namespace L2
open PySem PySem.Spec PyProof.Rows
section
variable {X:Cx}
theorem bin {a b:Expr} {ta tb:TE} (ha:PE X a ta) (hb:PE X b tb) {pins:List (Addr×Obj)} {s:Shared} {σ:St} {H:Hp} {R:V->V->Hp->Prop} (I:Inv X pins σ H s) (h:ta σ H fun x H1=>tb σ H1 fun y H2=>R x y H2)
  {α:Type} {Q:α->Shared->Prop} {f:Value->Value->Sem α}
  (hf:∀ v u s2 x y H2,Inv X pins σ H2 s2->RelV x v->RelV y u->R x y H2->wpAny (model X.prog X.w) X.A (f v u) Q X.xe s2) :
  wpAny (model X.prog X.w) X.A (eval a X.env) (fun v s₁=>wpAny (model X.prog X.w) X.A (eval b X.env) (fun u s₂=>wpAny (model X.prog X.w) X.A (f v u) Q X.xe s₂) X.xe s₁) X.xe s:=by
 refine thn (ha pins s σ H _ I h) fun v s1 ⟨x,H1,I1,r1,q1⟩=>?_
 refine thn (hb pins s1 σ H1 _ I1 q1) fun u s2 ⟨y,H2,I2,r2,q2⟩=>?_
 exact hf v u s2 x y H2 I2 r1 r2 q2
def tVar (i:Nat):TE:=fun σ H Q=>∃ v,σ[i]?=some (some v)/\Q v H
def tC (v:V):TE:=fun _ H Q=>Q v H
theorem pJ {i:Nat} {x:Str} {pos:Pos} (hN:X.N[i]?=some x) (hv:Vis X.env.scope x) (hd:(x==("__debug__" : Str))=false:=by decide) (hcd:(x==("__classdict__" : Str))=false:=by decide):PE X (.Name x pos) (tVar i):=by
 intro pins s σ H Q I h
 obtain ⟨v,e,h⟩:=h
 obtain ⟨m,hn,hl⟩:=I.loc
 obtain ⟨u,r,l⟩:=hl i x v hN e hv
 have fin:EP X pins σ Q u s:=⟨v,H,I,r,h⟩
 rcases l with ⟨hk,hm⟩ | ⟨hk,c,hc,hcell⟩
 ·exact wpAny_Name (wpAny_loadName_local I.ok.kind hk hn hm fin) hd
 ·rcases hk with hk | hk
  ·exact wpAny_Name (wpAny_loadName_cell I.ok.kind hk hc hcell fin) hd
  ·exact wpAny_Name (wpAny_loadName_free I.ok.kind hk hc hcell fin hcd) hd
theorem pe_int {i j pos}:PE X (.Constant (.int i) j pos) (tC (.int i)):=fun _ _ _ H _ I h=>wpAny_Constant_int ⟨.int i,H,I.tok _,⟨_,rfl⟩,h⟩
theorem pe_bl {b j pos}:PE X (.Constant (.bool b) j pos) (tC (.bl b)):=fun _ _ _ H _ I h=>Constant_bool ⟨.bl b,H,I,rfl,h⟩
theorem pe_non {j pos}:PE X (.Constant .none j pos) (tC .non):=fun _ _ _ H _ I h=>Constant_none ⟨.non,H,I,rfl,h⟩
theorem pe_str {x j pos}:PE X (.Constant (.str x) j pos) (tC (.str x)):=fun _ _ _ H _ I h=>Calls.Constant_str ⟨.str x,H,I.tok _,⟨_,rfl⟩,h⟩
def Gl (X:Cx) (x:Str):Prop:=X.env.kindOf x=some .globalImplicit
theorem ll {E:Value->Shared->Prop} {pins:List (Addr×Obj)} {s:Shared} {σ:St} {H:Hp} {x:Str} {u:Value} {pos:Pos} {Q:Value->Shared->Prop} (I:Inv X pins σ H s) (hg:Gl X x) (hm:X.mg x=some u) (h:Q u s)
  (hd:(x==("__debug__" : Str))=false:=by decide):wpAny (model X.prog X.w) X.A (eval (.Name x pos) X.env) Q E s :=
 Calls.Name_function_global I.ok.kind hg (Calls.loadGlobal_global (by rw [I.ok.glob];exact I.mod.glob.keeps I.bk) hm h) hd
theorem eZ {E:Value->Shared->Prop} {pins:List (Addr×Obj)} {s:Shared} {σ:St} {H:Hp} {x:Str} {u:Value} {pos:Pos} {Q:Value->Shared->Prop} (I:Inv X pins σ H s) (hg:Gl X x) (hm:X.mg x=none) (hv:bootBuiltins x=some u) (h:Q u s)
  (hn:x ≠ "__name__":=by decide) (hd:(x==("__debug__" : Str))=false:=by decide):wpAny (model X.prog X.w) X.A (eval (.Name x pos) X.env) Q E s:=by
 obtain ⟨mb,h1,h2⟩:=I.mod.blt
 exact Calls.Name_function_global I.ok.kind hg (Calls.loadGlobal_builtin (by rw [I.ok.glob];exact I.mod.glob.keeps I.bk) hm (by rw [I.ok.blt];exact h1.keeps I.bk) ((h2 x hn).trans hv) h) hd
theorem lq {x:Str} {v:V} {u:Value} {pos:Pos} (hg:Gl X x) (hm:X.mg x=some u) (r:RelV v u) (hd:(x==("__debug__" : Str))=false:=by decide):PE X (.Name x pos) (tC v) :=
 fun _ _ _ H _ I h=>ll I hg hm ⟨v,H,I,r,h⟩ hd
variable {a b:Expr} {ta tb:TE} {pos:Pos}
variable {tA tB':TT} {rest:List Expr}
def tAnd (t u:TT):TT:=fun σ H Q=>t σ H fun c H1=>if c=true then u σ H1 Q else Q false H1
def tOr (t u:TT):TT:=fun σ H Q=>t σ H fun c H1=>if c=true then Q true H1 else u σ H1 Q
def tNot (t:TT):TT:=fun σ H Q=>t σ H fun c H1=>Q (!c) H1
theorem pw_and1 (ha:PT X a tA):PW X (.BoolOp .And [a] pos) tA:=by
 intro wh pins s σ H Q I h
 refine isTrue_and (thn (ha pins s σ H Q I h) fun c s1 e=>?_)
 cases c with
 | true=>exact isTrue_and_nil e
 | false=>exact e
theorem pw_or1 (ha:PT X a tA):PW X (.BoolOp .Or [a] pos) tA:=by
 intro wh pins s σ H Q I h
 refine isTrue_or (thn (ha pins s σ H Q I h) fun c s1 e=>?_)
 cases c with
 | false=>exact isTrue_or_nil e
 | true=>exact e
theorem pw_and (ha:PT X a tA) (hb:PW X (.BoolOp .And (b::rest) pos) tB'):PW X (.BoolOp .And (a::b::rest) pos) (tAnd tA tB'):=by
 intro wh pins s σ H Q I h
 refine isTrue_and (thn (ha pins s σ H _ I h) fun c s1 ⟨H1,I1,q1⟩=>?_)
 cases c with
 | true=>exact hb wh pins s1 σ H1 Q I1 q1
 | false=>exact ⟨H1,I1,q1⟩
theorem pw_or (ha:PT X a tA) (hb:PW X (.BoolOp .Or (b::rest) pos) tB'):PW X (.BoolOp .Or (a::b::rest) pos) (tOr tA tB'):=by
 intro wh pins s σ H Q I h
 refine isTrue_or (thn (ha pins s σ H _ I h) fun c s1 ⟨H1,I1,q1⟩=>?_)
 cases c with
 | true=>exact ⟨H1,I1,q1⟩
 | false=>exact hb wh pins s1 σ H1 Q I1 q1
theorem uQ (ha:PT X a tA):PT X (.UnaryOp .Not a pos) (tNot tA):=by
 intro pins s σ H Q I h
 exact isTrue_not (ha pins s σ H (fun c H1=>Q (!c) H1) I h)
def tAndV (ta tb:TE):TE:=fun σ H Q=>ta σ H fun x H1=>∃ c,x=.bl c/\if c=true then tb σ H1 Q else Q (.bl false) H1
def tNotV (ta:TE):TE:=fun σ H Q=>ta σ H fun x H1=>∃ c,x=.bl c/\Q (.bl (!c)) H1
theorem ux {op} {t:TE} (h:PE X a t):PE X (.BoolOp op [a] pos) t:=fun pins s σ H Q I hw=>BoolOp_one (h pins s σ H Q I hw)
theorem uY (ha:PE X a ta) (hb:PE X (.BoolOp .And (b::rest) pos) tb):PE X (.BoolOp .And (a::b::rest) pos) (tAndV ta tb):=by
 intro pins s σ H Q I h
 refine BoolOp_and (thn (ha pins s σ H _ I h) fun v s1 ⟨x,H1,I1,r1,q1⟩=>?_)
 obtain ⟨c,rfl,q1⟩:=q1
 cases r1
 refine wpAny_truthy_bool ?_
 cases c with
 | true=>exact hb pins s1 σ H1 Q I1 q1
 | false=>exact ⟨.bl false,H1,I1,rfl,q1⟩
theorem uR (ha:PE X a ta):PE X (.UnaryOp .Not a pos) (tNotV ta):=by
 intro pins s σ H Q I h
 refine UnaryOp_ (thn (ha pins s σ H _ I h) fun v s1 ⟨x,H1,I1,r1,q1⟩=>?_)
 obtain ⟨c,rfl,q1⟩:=q1
 cases r1
 exact not_of (wpAny_truthy_bool ⟨.bl (!c),H1,I1,rfl,q1⟩)
def tIf (t:TT) (ta tb:TE):TE:=fun σ H Q=>t σ H fun c H1=>if c=true then ta σ H1 Q else tb σ H1 Q
theorem tt {c:Expr} (hc:PT X c tA) (ha:PE X a ta) (hb:PE X b tb):PE X (.IfExp c a b pos) (tIf tA ta tb):=by
 intro pins s σ H Q I h
 refine wpAny_IfExp (thn (hc pins s σ H _ I h) fun d s1 ⟨H1,I1,q1⟩=>?_)
 cases d with
 | true=>exact ha pins s1 σ H1 Q I1 q1
 | false=>exact hb pins s1 σ H1 Q I1 q1
end
end L2
namespace L2
open PySem PySem.Spec PyProof.Rows
def SqL (K:PySem.W.Frag) (H:Hp) (a:Addr) (xs:List V):Prop :=
 Rd H a (.lst xs) \/
  ∃ (o:Obj) (its:Array Value) (n:Nat),K.lookup a=some o/\o.cls=.type "list" /\ o.dict=none/\o.data=.seq its n/\its.size<=sizeLine/\Vals xs its.toList
def SqT (K:PySem.W.Frag) (H:Hp) (a:Addr) (xs:List V):Prop :=
 Rd H a (.tup xs) \/
  ∃ (o:Obj) (its:Array Value) (n:Nat),K.lookup a=some o/\o.cls=.type "tuple" /\ o.dict=none/\o.data=.seq its n/\its.size<=sizeLine/\Vals xs its.toList
def absV:Value->Option V
 | .none=>some .non
 | .bool b=>some (.bl b)
 | .int i _=>some (.int i)
 | .str x _=>some (.str x)
 | .bytes b _=>some (.byt b)
 | .float b _=>some (.flt b)
 | .ref a=>some (.ref a)
 | .type n=>some (.ty n)
 | _=>none
theorem RelV.abs {x:V} {u:Value} (r:RelV x u):absV u=some x:=by
 cases x with
 | non=>cases r;rfl
 | bl _=>cases r;rfl
 | int _=>obtain ⟨t,rfl⟩:=r;rfl
 | str _=>obtain ⟨t,rfl⟩:=r;rfl
 | byt _=>obtain ⟨t,rfl⟩:=r;rfl
 | flt _=>obtain ⟨t,rfl⟩:=r;rfl
 | ref _=>cases r;rfl
 | ty _=>cases r;rfl
theorem RelV.inj {x y:V} {u:Value} (r:RelV x u) (q:RelV y u):x=y:=Option.some.inj (r.abs.symm.trans q.abs)
theorem Vals.inj:∀ {xs ys:List V} {us:List Value},Vals xs us->Vals ys us->xs=ys
 | _,_,_,.nil,.nil=>rfl
 | _,_,_,.cons r t,.cons r' t'=>by rw [r.inj r',Vals.inj t t']
section
variable {X:Cx} {pins:List (Addr×Obj)} {σ:St} {H:Hp} {s:Shared} {a:Addr} {xs ys:List V}
theorem SqL.of {K:PySem.W.Frag} (h:H a=some (.lst xs)):SqL K H a xs:=.inl (.inl h)
theorem SqT.of {K:PySem.W.Frag} (h:H a=some (.tup xs)):SqT K H a xs:=.inl (.inl h)
theorem Inv.list (I:Inv X pins σ H s) (h:SqL X.K H a xs):∃ its:List Value,Vals xs its/\PlainL s.heap a its.toArray/\xs.length<=sizeLine:=by
 rcases h with h | ⟨o,its,n,hk,hc,hd,hs,hz,r⟩
 ·obtain ⟨z,its,n,r,e⟩:=h.ok I.hok
  exact ⟨its,r,⟨_,n,e,rfl,rfl,rfl⟩,z⟩
 ·refine ⟨its.toList,r,⟨o,n,I.kIn a o hk,hc,hd,by simpa using hs⟩,?_⟩
  have e:=r.length
  simp only [Array.length_toList] at e
  omega
theorem Inv.tuple (I:Inv X pins σ H s) (h:SqT X.K H a xs):∃ its:List Value,Vals xs its/\IsTup s.heap a its.toArray/\xs.length<=sizeLine:=by
 rcases h with h | ⟨o,its,n,hk,hc,hd,hs,hz,r⟩
 ·obtain ⟨z,its,r,p⟩:=h.ok I.hok
  exact ⟨its,r,p.is,z⟩
 ·refine ⟨its.toList,r,⟨o,I.kIn a o hk,hc,n,by simpa using hs⟩,?_⟩
  have e:=r.length
  simp only [Array.length_toList] at e
  omega
theorem Inv.list_inj (I:Inv X pins σ H s) (h:SqL X.K H a xs) (h':SqL X.K H a ys):xs=ys:=by
 obtain ⟨its,r,⟨o,n,e,_,_,d⟩,_⟩:=I.list h
 obtain ⟨its',r',⟨o',n',e',_,_,d'⟩,_⟩:=I.list h'
 rw [e] at e';cases e'
 rw [d] at d'
 injection d' with d1 _
 have:its=its':=by simpa using congrArg Array.toList d1
 subst this
 exact r.inj r'
theorem Inv.tuple_inj (I:Inv X pins σ H s) (h:SqT X.K H a xs) (h':SqT X.K H a ys):xs=ys:=by
 obtain ⟨its,r,⟨o,e,_,n,d⟩,_⟩:=I.tuple h
 obtain ⟨its',r',⟨o',e',_,n',d'⟩,_⟩:=I.tuple h'
 rw [e] at e';cases e'
 rw [d] at d'
 injection d' with d1 _
 have:its=its':=by simpa using congrArg Array.toList d1
 subst this
 exact r.inj r'
end
abbrev Cx.wish (X:Cx) (E:Value->Shared->Prop):Cx:={X with xe:=E}
abbrev Cx.nox (X:Cx):Cx:=X.wish fun _ _=>False
theorem Cx.Ok.wish {X:Cx} (ok:X.Ok) (E:Value->Shared->Prop):(X.wish E).Ok :=
 ⟨ok.mod,ok.kind,ok.glob,ok.blt,ok.above,ok.inj,ok.has,ok.cab,ok.hd,ok.frames,ok.stk,ok.exf,ok.bs,ok.bsz,ok.noex,ok.exfs,ok.funs,ok.frf⟩
theorem Cx.Ok.unwish {X:Cx} {E:Value->Shared->Prop} (ok:(X.wish E).Ok):X.Ok :=
 ⟨ok.mod,ok.kind,ok.glob,ok.blt,ok.above,ok.inj,ok.has,ok.cab,ok.hd,ok.frames,ok.stk,ok.exf,ok.bs,ok.bsz,ok.noex,ok.exfs,ok.funs,ok.frf⟩
section
variable {X:Cx} {pins:List (Addr×Obj)} {σ:St} {H:Hp} {s:Shared} {E:Value->Shared->Prop}
theorem Inv.wish (I:Inv X pins σ H s) (E:Value->Shared->Prop):Inv (X.wish E) pins σ H s:=⟨I.ok.wish E,I.os,I.bare,I.base,I.loc,I.cell,I.free,I.freeC,I.pin,I.hok,I.len⟩
theorem Inv.unwish (I:Inv (X.wish E) pins σ H s):Inv X pins σ H s:=⟨I.ok.unwish,I.os,I.bare,I.base,I.loc,I.cell,I.free,I.freeC,I.pin,I.hok,I.len⟩
theorem SP.unwish {D:Ends} {f:Flow} {s':Shared} (h:SP (X.wish E) pins D f s'):SP X pins D f s':=by
 cases f with
 | next=>obtain ⟨σ',H',I,q⟩:=h;exact ⟨σ',H',I.unwish,q⟩
 | brk=>obtain ⟨σ',H',I,q⟩:=h;exact ⟨σ',H',I.unwish,q⟩
 | cont=>obtain ⟨σ',H',I,q⟩:=h;exact ⟨σ',H',I.unwish,q⟩
 | ret u=>obtain ⟨v,σ',H',I,r,q⟩:=h;exact ⟨v,σ',H',I.unwish,r,q⟩
theorem PE.nox {e:Expr} {t:TE} (h:PE X.nox e t):PE X e t:=fun pins s σ H Q I hw =>
 wpAny_mono (h pins s σ H Q (I.wish _) hw) (fun _ _ ⟨v,H',I',r,q⟩=>⟨v,H',I'.unwish,r,q⟩) fun _ _ z=>False.elim z
theorem PT.nox {e:Expr} {t:TT} (h:PT X.nox e t):PT X e t:=fun pins s σ H Q I hw =>
 wpAny_mono (h pins s σ H Q (I.wish _) hw) (fun _ _ ⟨H',I',q⟩=>⟨H',I'.unwish,q⟩) fun _ _ z=>False.elim z
theorem PSs.nox {st:List Stmt} {t:TS} (h:PSs X.nox st t):PSs X st t:=fun pins s σ H D I hw =>
 wpAny_mono (h pins s σ H D (I.wish _) hw) (fun _ _ q=>q.unwish) fun _ _ z=>False.elim z
end
section
variable {X:Cx} {st:Stmt} {rest:List Stmt} {t u:TS} {e:Expr} {te:TE} {pos:Pos}
def tNext:TS:=fun D σ H=>D.nx σ H
def tSeq (t u:TS):TS:=fun D σ H=>t {D with nx:=u D} σ H
theorem pss_nil:PSs X [] tNext:=fun _ _ σ H _ I h=>wpAny_execs_nil ⟨σ,H,I,h⟩
theorem fg (h1:PS X st t) (h2:PSs X rest u):PSs X (st::rest) (tSeq t u):=by
 intro pins s σ H D I h
 refine wpAny_execs_cons (thn (h1 pins s σ H {D with nx:=u D} I h) fun f s1 q=>?_)
 cases f with
 | next =>
  obtain ⟨σ',H',I',q⟩:=q
  exact h2 pins s1 σ' H' D I' q
 | ret v=>exact q
 | brk=>exact q
 | cont=>exact q
theorem gs (h1:PS X st t):PSs X [st] t:=by
 intro pins s σ H D I h
 refine wpAny_execs_cons (thn (h1 pins s σ H D I h) fun f s1 q=>?_)
 cases f with
 | next=>exact wpAny_execs_nil q
 | ret v=>exact q
 | brk=>exact q
 | cont=>exact q
theorem Inv.quiet {pins:List (Addr×Obj)} {σ:St} {H:Hp} {s:Shared} (I:Inv X pins σ H s):interactive X.env=false:=by simp [interactive,I.ok.kind]
def tDrop (te:TE):TS:=fun D σ H=>te σ H fun _ H1=>D.nx σ H1
theorem jo (he:PE X e te) (hs:swapsWith e none pos.line X.env=pure false:=by rfl):PS X (.Expr e pos) (tDrop te):=by
 intro pins s σ H D I h
 exact wpAny_Expr_any (thn (he pins s σ H _ I h) fun v s1 ⟨x,H1,I1,r1,q1⟩=>⟨σ,H1,I1,q1⟩) I.quiet hs
def tRet (te:TE):TS:=fun D σ H=>te σ H D.rt
theorem tu (he:PE X e te):PS X (.Return (some e) pos) (tRet te):=by
 intro pins s σ H D I h
 exact wpAny_Return_some (thn (he pins s σ H _ I h) fun v s1 ⟨x,H1,I1,r1,q1⟩=>⟨x,σ,H1,I1,r1,q1⟩)
def tIfS (c:TT) (t u:TS):TS:=fun D σ H=>c σ H fun b H1=>if b=true then t D σ H1 else u D σ H1
theorem s_ {c:Expr} {a b:List Stmt} {tc:TT} (hc:PT X c tc) (ha:PSs X a t) (hb:PSs X b u):PS X (.If c a b pos) (tIfS tc t u):=by
 intro pins s σ H D I h
 refine wpAny_If (thn (hc pins s σ H _ I h) fun d s1 ⟨H1,I1,q1⟩=>?_)
 cases d with
 | true=>exact ha pins s1 σ H1 D I1 q1
 | false=>exact hb pins s1 σ H1 D I1 q1
end
abbrev TG:=V->St->Hp->(St->Hp->Prop)->Prop
abbrev TGs:=List V->St->Hp->(St->Hp->Prop)->Prop
def PG (X:Cx) (target:Expr) (t:TG):Prop :=
 ∀ (pins:List (Addr×Obj)) (s:Shared) (σ:St) (H:Hp) (v:V) (u:Value) (Q:St->Hp->Prop),Inv X pins σ H s->RelV v u->t v σ H Q ->
  wpAny (model X.prog X.w) X.A (assign target X.env u) (fun _ s'=>∃ σ' H',Inv X pins σ' H' s'/\Q σ' H') X.xe s
def PGs (X:Cx) (ts:List Expr) (t:TGs):Prop :=
 ∀ (pins:List (Addr×Obj)) (s:Shared) (σ:St) (H:Hp) (vs:List V) (us:List Value) (Q:St->Hp->Prop),Inv X pins σ H s->Vals vs us->t vs σ H Q ->
  wpAny (model X.prog X.w) X.A (assignInOrder ((assignEach ts X.env).map (·.2)) us) (fun _ s'=>∃ σ' H',Inv X pins σ' H' s'/\Q σ' H') X.xe s
section
variable {X:Cx} {pos:Pos}
def gName (i:Nat):TG:=fun v σ H Q=>Q (σ.set i (some v)) H
theorem tT {i:Nat} {x:Str} (hN:X.N.Nodup) (hi:X.N[i]?=some x) (hx:Loc X.env.scope x) (hf:X.fn x=true\/X.env.scope.names.lookup x=some .local:=by first | exact .inl rfl | exact .inr rfl | assumption):PG X (.Name x pos) (gName i):=by
 intro pins s σ H v u Q I r h
 exact wpAny_assign_Name (store_ok I hN hi hx r (fun s' I'=>⟨_,H,I',h⟩) hf)
def gNil:TGs:=fun vs σ H Q=>vs=[]/\Q σ H
def gCons (t:TG) (u:TGs):TGs:=fun vs σ H Q=>∃ v r,vs=v::r/\t v σ H fun σ' H'=>u r σ' H' Q
theorem pgs_nil:PGs X [] gNil:=by
 intro pins s σ H vs us Q I r h
 obtain ⟨e,h⟩:=h
 subst e
 cases r
 exact assignInOrder_nil ⟨σ,H,I,h⟩
theorem pgs_cons {e:Expr} {es:List Expr} {t:TG} {u:TGs} (h1:PG X e t) (h2:PGs X es u)
  (hs:(assignEach (e::es) X.env).map (·.2)=assign e X.env::(assignEach es X.env).map (·.2):=by rfl):PGs X (e::es) (gCons t u):=by
 intro pins s σ H vs us Q I r h
 obtain ⟨v,vr,e1,h⟩:=h
 subst e1
 cases r with
 | cons r rr =>
  rw [hs]
  refine assignInOrder_cons (thn (h1 pins s σ H _ _ _ I r h) fun _ s1 ⟨σ1,H1,I1,q1⟩=>?_)
  exact h2 pins s1 σ1 H1 _ _ Q I1 rr q1
def gTup (K:PySem.W.Frag) (n:Nat) (t:TGs):TG:=fun v σ H Q=>∃ a xs,v=.ref a/\SqT K H a xs/\xs.length=n/\t xs σ H Q
theorem u_ {es:List Expr} {k:Nat} {t:TGs} {n:Nat} (hc:X.calm=true) (h:PGs X es t)
  (hn:(assignEach es X.env).length=n:=by rfl) (hst:(assignEach es X.env).findIdx? (·.1)=none:=by rfl):PG X (.Tuple es k pos) (gTup X.K n t):=by
 intro pins s σ H v u Q I r hw
 obtain ⟨a,xs,e1,hq,hl,hw⟩:=hw
 subst e1
 cases r
 obtain ⟨its,rv,ht,hz⟩:=I.tuple hq
 refine assign_Tuple_tuple (I.ok.hd hc) ht (by simp [hn,<- hl,rv.length]) hst fun h' hx=>?_
 have I1:Inv X pins σ H {s with heap:=h' }:=I.kept (t':=s.toks) fun b o e=>hx b o (Nat.ne_of_lt (Heap.lt_size e)) e
 exact h pins _ σ H xs _ Q I1 (by simpa using rv) hw
def tAsg (te:TE) (g:TG):TS:=fun D σ H=>te σ H fun x H1=>g x σ H1 D.nx
theorem uM {tg e:Expr} {te:TE} {g:TG} (he:PE X e te) (hg:PG X tg g) (hs:swapsWithSole [tg] e pos.line X.env=pure false:=by rfl) (hw:swappedStores [tg] e X.env=pure none:=by rfl)
  (h1:(assignEach [tg] X.env).map (·.2)=[assign tg X.env]:=by rfl):PS X (.Assign [tg] e pos) (tAsg te g):=by
 intro pins s σ H D I h
 refine wpAny_Assign_stores (thn (he pins s σ H _ I h) fun v s1 ⟨x,H1,I1,r1,q1⟩=>?_) hs hw
 rw [h1]
 exact thn (hg pins s1 σ H1 x v _ I1 r1 q1) fun _ s2 q=>q
theorem lX {i:Nat} {x:Str} {e:Expr} {te:TE} {pos':Pos} (hN:X.N.Nodup) (hi:X.N[i]?=some x) (hx:Loc X.env.scope x) (he:PE X e te) (hs:swapsWith e (some (.Name x pos')) pos.line X.env=pure false:=by rfl) (hf:X.fn x=true\/X.env.scope.names.lookup x=some .local:=by first | exact .inl rfl | exact .inr rfl | assumption) :
  PS X (.Assign [.Name x pos'] e pos) (tAsg te (gName i)):=by
 intro pins s σ H D I h
 refine wpAny_Assign_Name (thn (he pins s σ H _ I h) fun v s1 ⟨y,H1,I1,r1,q1⟩=>?_) hs
 exact store_ok I1 hN hi hx r1 (fun s2 I2=>⟨_,H1,I2,q1⟩) hf
end
section
variable {X:Cx} {pos:Pos}
def tWhile (c:TT) (tb:TS):TS:=fun D σ H=>∃ W:Nat->St->Hp->Prop,(∃ m,W m σ H)/\∀ m σ H,W m σ H ->
 c σ H fun b H1=>if b=true then ∃ N:St->Hp->Prop,(∀ σ' H',N σ' H'->∃ m',m'<m/\W m' σ' H')/\tb {D with nx:=N,ct:=N,bk:=D.nx} σ H1 else D.nx σ H1
theorem sv {c:Expr} {body:List Stmt} {tc:TT} {tb:TS} (hp:PassesOwn (model X.prog X.w) X.A X.env X.xe) (hc:PT X c tc) (hb:PSs X body tb):PS X (.While c body [] pos) (tWhile tc tb):=by
 intro pins s σ H D I h
 obtain ⟨W,⟨m0,w0⟩,turn⟩:=h
 refine wpAny_While (codeAny_whileLoop (fun n s'=>∃ σ' H',Inv X pins σ' H' s'/\W n σ' H') ?_ m0 ⟨σ,H,I,w0⟩)
 rintro n s1 ⟨σ1,H1,I1,w1⟩
 refine wpAny_passesOwn hp (thn (hc pins s1 σ1 H1 _ I1 (turn n σ1 H1 w1)) fun b s2 ⟨H2,I2,q2⟩=>?_)
 cases b with
 | true =>
  obtain ⟨N,hN,q2⟩:=q2
  rw [if_pos rfl]
  refine wpAny_passesOwn hp (thn (hb pins s2 σ1 H2 _ I2 q2) fun f s3 q3=>?_)
  cases f with
  | next =>
   obtain ⟨σ3,H3,I3,n3⟩:=q3
   obtain ⟨m',hm,w3⟩:=hN σ3 H3 n3
   exact ⟨m',hm,σ3,H3,I3,w3⟩
  | cont =>
   obtain ⟨σ3,H3,I3,n3⟩:=q3
   obtain ⟨m',hm,w3⟩:=hN σ3 H3 n3
   exact ⟨m',hm,σ3,H3,I3,w3⟩
  | brk=>exact q3
  | ret v=>exact q3
 | false =>
  rw [if_neg Bool.false_ne_true]
  exact wpAny_execs_nil ⟨σ1,H2,I2,q2⟩
end
structure It where
 go:Nat->Hp->Prop
 yld:Nat->Hp->V->Hp->Prop
 stop:Nat->Hp->Prop
def FpOk (X:Cx) (pins:List (Addr×Obj)) (H:Hp) (b:Addr):Prop :=
 H b=none/\b≠X.env.locals/\b∉X.fs/\(b∈X.ex\/X.s₀.heap.objs.size<=b)/\(∀ x c,X.env.cells.lookup x=some c->c≠b)/\∀ p∈X.pn++pins,p.1≠b
theorem Inv.fpOk {X:Cx} {pins:List (Addr×Obj)} {σ:St} {H H':Hp} {s:Shared} {b:Addr} (I:Inv X pins σ H s) (hb:s.heap.objs.size<=b) (hn:H' b=none):FpOk X pins H' b:=by
 refine ⟨hn,Nat.ne_of_gt (Nat.lt_of_lt_of_le I.lt hb),I.nofs hb,.inr (Nat.le_trans I.sz hb),fun x c e z=>?_,fun p hp z=>?_⟩
 ·obtain ⟨v,q⟩:=I.cell x c e
  exact absurd (Nat.lt_of_lt_of_le q.lt (by rw [z];exact hb)) (Nat.lt_irrefl _)
 ·exact absurd (Nat.lt_of_lt_of_le (Heap.lt_size (I.pin p hp).1) (by rw [z];exact hb)) (Nat.lt_irrefl _)
structure Turn (P:Program) (w:World) (K:PySem.W.Frag) (tg:Expr) (J:It) (fp:List Addr) (it:Addr) (tn:Nat->Heap->Prop):Prop where
 mem:it∈fp
 obj:∀ i h,tn i h->∀ b∈fp,∃ o,h.get? b=some o/\∀ v,o.data≠.cell v
 keep:∀ i h h',tn i h->(∀ b∈fp,∀ o,h.get? b=some o->h'.get? b=some o)->tn i h'
 item:∀ (X:Cx),X.prog=P->X.w=w->X.K=K->X.calm=true->∀ (i:Nat) (pins:List (Addr×Obj)) (s:Shared) (σ:St) (H:Hp) (E:Value->Shared->Prop),Inv X pins σ H s->(∀ b∈fp,FpOk X pins H b)->tn i s.heap->J.go i H ->
  wpAny (model P w) X.A (pyNext (.ref it)) (fun r s1=>∃ u,r=some u /\
   wpAny (model P w) X.A (letOwnedTupleGo tg (.ref it) u) (fun _ s2=>∃ x H',Inv X pins σ H' s2/\RelV x u/\J.yld i H x H'/\tn (i+1) s2.heap/\∀ b∈fp,H' b=none) E s1) E s
 done:∀ (X:Cx),X.prog=P->X.w=w->X.K=K->X.calm=true->∀ (i:Nat) (pins:List (Addr×Obj)) (s:Shared) (σ:St) (H:Hp) (E:Value->Shared->Prop),Inv X pins σ H s->(∀ b∈fp,FpOk X pins H b)->tn i s.heap->J.stop i H ->
  wpAny (model P w) X.A (pyNext (.ref it)) (fun r s1=>r=none/\Inv X pins σ H s1) E s
 self:∀ (A:Around) (i:Nat) (s:Shared) (Q:Value->Shared->Prop) (E:Value->Shared->Prop),tn i s.heap->Q (.ref it) s->wpAny (model P w) A (pyIter (.ref it)) Q E s
abbrev TI:=St->Hp->(It->Hp->Prop)->Prop
def PIE (X:Cx) (pins:List (Addr×Obj)) (σ:St) (tg:Expr) (R:It->Hp->Prop) (itv:Value) (s2:Shared):Prop :=
 ∃ (it:Addr) (fp:List Addr) (tn:Nat->Heap->Prop) (J:It) (H':Hp),itv=.ref it/\Inv X pins σ H' s2/\Turn X.prog X.w X.K tg J fp it tn/\tn 0 s2.heap/\(∀ b∈fp,FpOk X pins H' b)/\R J H'
def PI (X:Cx) (tg iter:Expr) (wi:TI):Prop :=
 ∀ (pins:List (Addr×Obj)) (s:Shared) (σ:St) (H:Hp) (R:It->Hp->Prop),Inv X pins σ H s->wi σ H R ->
  wpAny (model X.prog X.w) X.A (eval iter X.env) (fun v s1=>wpAny (model X.prog X.w) X.A (pyIter v) (PIE X pins σ tg R) X.xe s1) X.xe s
theorem go_of {M:Model} {A:Around} {E:Value->Shared->Prop} {s:Shared} {tg:Expr} {it:Addr} {u:Value} {o:Obj} {n:String} {vs:Array Value} {Q:Unit->Shared->Prop} (ho:s.heap.get? it=some o) (hc:o.cls=.type n) (hd:o.data=.fields vs)
    (hn:["enumerate","zip","dict_itemiterator","dict_reverseitemiterator","odict_iterator","itertools.zip_longest","itertools.pairwise"].contains n=false) (hQ:Q () s):wpAny M A (letOwnedTupleGo tg (.ref it) u) Q E s:=by
  unfold letOwnedTupleGo
  cases tg<;>first
    | exact wpAny_pure hQ
    | (cases u<;>first
        | exact wpAny_pure hQ
        | (refine wpAny_bind (wpAny_load ho ?_)
           rw [hc,hd]
           show wpAny M A (if (["enumerate","zip","dict_itemiterator","dict_reverseitemiterator","odict_iterator","itertools.zip_longest","itertools.pairwise"].contains n&&vs[0]?==some (rawInt _))=true then _ else _) Q E s
           rw [if_neg (by intro h;rw [hn,Bool.false_and] at h;cases h)]
           exact wpAny_pure hQ))
def Itl (K:PySem.W.Frag) (a:Addr):It :=
 ⟨fun i H=>∃ xs x,SqL K H a xs/\xs[i]?=some x,fun i H x H'=>H'=H/\∀ xs,SqL K H a xs->xs[i]?=some x,fun i H=>∃ xs,SqL K H a xs/\xs.length<=i⟩
def Itt (K:PySem.W.Frag) (a:Addr):It :=
 ⟨fun i H=>∃ xs x,SqT K H a xs/\xs[i]?=some x,fun i H x H'=>H'=H/\∀ xs,SqT K H a xs->xs[i]?=some x,fun i H=>∃ xs,SqT K H a xs/\xs.length<=i⟩
def Itr (lo:Int) (n:Nat):It:=⟨fun i _=>i<n,fun i H x H'=>H'=H/\x=.int (lo+i),fun i _=>n<=i⟩
theorem turn_list {P:Program} {w:World} {K:PySem.W.Frag} {tg:Expr} (a it:Addr):Turn P w K tg (Itl K a) [it] it (fun i h=>h.IsListIter it a i) where
 mem:=by simp
 obj:=fun i h st b hb=>by
  have e:b=it:=by simpa using hb
  subst e
  obtain ⟨o,e,c,d⟩:=st
  exact ⟨o,e,fun v z=>by rw [d] at z;cases z⟩
 keep:=fun i h h' st k=>st.at fun o e=>k it (by simp) o e
 item:=by
  intro X hP hw hK hc i pins s σ H E I hf st hg
  subst hP hw hK
  obtain ⟨xs,x,hq,hx⟩:=hg
  obtain ⟨its,rv,p,hz⟩:=I.list hq
  obtain ⟨u,hu,ru⟩:=rv.get hx
  obtain ⟨f0,f1,f2,f3,f4,f5⟩:=hf it (by simp)
  refine wpAny_pyNext_list_item st p.isList (x:=u) (by simpa using hu) fun h' st' sb=>?_
  have I1:Inv X pins σ H {s with heap:=h' }:=I.turned (t':=s.toks) (fun b o hb e=>(sb.2 b hb).trans e) f0 f1 f3 f4 f5
  obtain ⟨o,e,c,d⟩:=id st'
  exact ⟨u,rfl,go_of (s:={s with heap:=h' }) e c d (by decide) ⟨x,H,I1,ru,⟨rfl,fun ys hy=>by rw [I.list_inj hy hq];exact hx⟩,st',fun b hb=>(hf b hb).1⟩⟩
 done:=by
  intro X hP hw hK hc i pins s σ H E I hf st hg
  subst hP hw hK
  obtain ⟨xs,hq,hx⟩:=hg
  obtain ⟨its,rv,p,hz⟩:=I.list hq
  obtain ⟨f0,f1,f2,f3,f4,f5⟩:=hf it (by simp)
  have hl:=rv.length
  exact wpAny_pyNext_list_end (I.ok.hd hc) st p.isList (by simp;omega) fun h' eb=>⟨rfl,I.turned (t':=s.toks) (fun b o hb e=>eb b o hb e) f0 f1 f3 f4 f5⟩
 self:=fun _ _ _ _ _ st h=>wpAny_pyIter_listiter st h
theorem turn_tuple {P:Program} {w:World} {K:PySem.W.Frag} {tg:Expr} (a it:Addr):Turn P w K tg (Itt K a) [it] it (fun i h=>h.IsTupleIter it a i) where
 mem:=by simp
 obj:=fun i h st b hb=>by
  have e:b=it:=by simpa using hb
  subst e
  obtain ⟨o,e,c,d⟩:=st
  exact ⟨o,e,fun v z=>by rw [d] at z;cases z⟩
 keep:=fun i h h' st k=>st.at fun o e=>k it (by simp) o e
 item:=by
  intro X hP hw hK hc i pins s σ H E I hf st hg
  subst hP hw hK
  obtain ⟨xs,x,hq,hx⟩:=hg
  obtain ⟨its,rv,p,hz⟩:=I.tuple hq
  obtain ⟨u,hu,ru⟩:=rv.get hx
  obtain ⟨f0,f1,f2,f3,f4,f5⟩:=hf it (by simp)
  refine wpAny_pyNext_tuple_item st (show s.heap.IsTuple a its.toArray from p) (x:=u) (by simpa using hu) fun h' st' sb=>?_
  have I1:Inv X pins σ H {s with heap:=h' }:=I.turned (t':=s.toks) (fun b o hb e=>(sb.2 b hb).trans e) f0 f1 f3 f4 f5
  obtain ⟨o,e,c,d⟩:=id st'
  exact ⟨u,rfl,go_of (s:={s with heap:=h' }) e c d (by decide) ⟨x,H,I1,ru,⟨rfl,fun ys hy=>by rw [I.tuple_inj hy hq];exact hx⟩,st',fun b hb=>(hf b hb).1⟩⟩
 done:=by
  intro X hP hw hK hc i pins s σ H E I hf st hg
  subst hP hw hK
  obtain ⟨xs,hq,hx⟩:=hg
  obtain ⟨its,rv,p,hz⟩:=I.tuple hq
  obtain ⟨f0,f1,f2,f3,f4,f5⟩:=hf it (by simp)
  have hl:=rv.length
  exact wpAny_pyNext_tuple_end (I.ok.hd hc) st (show s.heap.IsTuple a its.toArray from p) (by simp;omega) fun h' eb=>⟨rfl,I.turned (t':=s.toks) (fun b o hb e=>eb b o hb e) f0 f1 f3 f4 f5⟩
 self:=fun _ _ _ _ _ st h=>wpAny_pyIter_tupleiter st h
theorem turn_range {P:Program} {w:World} {K:PySem.W.Frag} {tg:Expr} (it:Addr) (lo:Int) (n:Nat):Turn P w K tg (Itr lo n) [it] it (fun i h=>IsRangeIter h it (lo+(i:Nat)*1) ((n:Int) - (i:Nat)) 1) where
 mem:=by simp
 obj:=fun i h st b hb=>by
  have e:b=it:=by simpa using hb
  subst e
  exact ⟨_,st,fun v z=>by
   have z':Data.fields _=Data.cell v:=z
   cases z'⟩
 keep:=fun i h h' st k=>k it (by simp) _ st
 item:=by
  intro X hP hw hK hc i pins s σ H E I hf st hg
  subst hP hw hK
  obtain ⟨f0,f1,f2,f3,f4,f5⟩:=hf it (by simp)
  have W:=Walks.range (prog:=X.prog) (w:=X.w) (I.ok.hd hc) it lo 1 n
  refine W.item i s _ _ hg st fun v h' tk hv st' kk=>?_
  obtain ⟨t,rfl⟩:=hv
  have I1:Inv X pins σ H {s with heap:=h',toks:=tk}:=I.turned (fun b o hb e=>kk b o (by simpa using hb) e) f0 f1 f3 f4 f5
  refine ⟨_,rfl,go_of (s:={s with heap:=h',toks:=tk}) (n:="range_iterator") st' rfl rfl (by decide) ⟨.int (lo+i),H,I1,⟨t,?_⟩,⟨rfl,rfl⟩,st',fun b hb=>(hf b hb).1⟩⟩
  rw [Int.mul_one]
 done:=by
  intro X hP hw hK hc i pins s σ H E I hf st hg
  subst hP hw hK
  obtain ⟨f0,f1,f2,f3,f4,f5⟩:=hf it (by simp)
  exact wpAny_pyNext_range_end (I.ok.hd hc) st (by have:n<=i:=hg;omega) fun h' eb=>⟨rfl,I.turned (t':=s.toks) (fun b o hb e=>eb b o hb e) f0 f1 f3 f4 f5⟩
 self:=fun _ _ _ _ _ st h=>wpAny_pyIter_rangeiter st h
end L2
namespace L2
open PySem PySem.Spec PyProof.Rows
section
variable {X:Cx} {tg:Expr}
theorem range_it {pins:List (Addr×Obj)} {σ:St} {H:Hp} {s:Shared} {R:It->Hp->Prop} {E:Value->Shared->Prop} {lo hi:Int} {t u v:Tok} {tk:Nat} (I:Inv X pins σ H s) (h1 : -(2 ^ 62)<=lo) (h2:lo<2 ^ 62) (h3 : -(2 ^ 62)<=hi) (h4:hi<2 ^ 62)
  (q:R (Itr lo (hi - lo).toNat) H):wpAny (model X.prog X.w) X.A (pyIter (.ref s.heap.objs.size)) (PIE X pins σ tg R) E {s with heap:=s.heap.push {cls:=.type "range",data:=.fields #[.int lo t,.int hi u,.int 1 v]},toks:=tk}:=by
 refine wpAny_pyIter_range (IsRange.new ..) (small_one h1 h2 h3 h4) ?_
 have I1:Inv X pins σ H {s with heap:=s.heap.push {cls:=.type "range",data:=.fields #[.int lo t,.int hi u,.int 1 v]},toks:=tk}:=I.kept fun b o e=>Heap.get?_push_of_some _ e
 refine ⟨(s.heap.push {cls:=.type "range",data:=.fields #[.int lo t,.int hi u,.int 1 v]}).objs.size,[(s.heap.push {cls:=.type "range",data:=.fields #[.int lo t,.int hi u,.int 1 v]}).objs.size],_,_,H,rfl,
  I1.kept (t':=tk) fun b o e=>Heap.get?_push_of_some _ e,turn_range _ lo (hi - lo).toNat,?_,fun b hb=>?_,q⟩
 ·have e1:lo+((0:Nat):Int)*1=lo:=by simp
  have e2:(((hi - lo).toNat:Nat):Int) - ((0:Nat):Int)=Builtin.Range.rangeSize lo hi 1:=by rw [rangeSize_one];split<;>omega
  show IsRangeIter _ _ (lo+((0:Nat):Int)*1) ((((hi - lo).toNat:Nat):Int) - ((0:Nat):Int)) 1
  rw [e1,e2]
  exact Heap.get?_push_size _ rfl
 ·have e:b=(s.heap.push {cls:=.type "range",data:=.fields #[.int lo t,.int hi u,.int 1 v]}).objs.size:=by simpa using hb
  subst e
  exact I1.fpOk (Nat.le_refl _) (I1.hok.fresh (Nat.le_refl _))
def iRng1 (ta:TA):TI:=fun σ H R=>ta σ H fun vs H1=>∃ j:Int,vs=[.int j] /\ -(2 ^ 62)<=j/\j<2 ^ 62/\R (Itr 0 j.toNat) H1
theorem qT {a:Expr} {ta:TA} {p pos:Pos} (hg:Gl X "range") (hm:X.mg "range" = none) (ha:PA X [a] ta) (hs:starEach [a] X.env=[(false,eval a X.env)]:=by rfl):PI X tg (.Call (.Name "range" p) [a] [] pos) (iRng1 ta):=by
 intro pins s σ H R I h
 refine Call_ (eZ I hg hm boot_range (PyProof.Rows.callWith_type1 (thn (ha pos pins s σ H _ I h) fun us s1 ⟨vs,H1,I1,r1,q1⟩=>?_) hs rfl))
 obtain ⟨j,e,q1,q2,q⟩:=q1
 subst e
 cases r1 with
 | cons r rr =>
  cases rr
  obtain ⟨t,rfl⟩:=r
  exact call_range_1 (range_it I1 (by omega) (by omega) q1 q2 (by simpa using q))
def tFor (wi:TI) (g:TG) (tb:TS):TS:=fun D σ H=>wi σ H fun J H1=>∃ W:Nat->Nat->St->Hp->Prop,(∃ m,W 0 m σ H1)/\∀ i m σ H,W i m σ H ->
 (J.stop i H/\D.nx σ H)\/(J.go i H/\∃ N:St->Hp->Prop,(∀ σ' H',N σ' H'->∃ m',m'<m/\W (i+1) m' σ' H')/\∀ x H',J.yld i H x H'->g x σ H' fun σ2 H2=>tb {D with nx:=N,ct:=N,bk:=D.nx} σ2 H2)
def pinsAt (fp:List Addr) (h:Heap):List (Addr×Obj):=fp.filterMap fun b=>(h.get? b).map fun o=>(b,o)
theorem dD {fp:List Addr} {h:Heap} {b:Addr} {o:Obj} (hb:b∈fp) (e:h.get? b=some o):(b,o)∈pinsAt fp h:=List.mem_filterMap.mpr ⟨b,hb,by rw [e];rfl⟩
theorem of_pinsAt {fp:List Addr} {h:Heap} {p:Addr×Obj} (hp:p∈pinsAt fp h):p.1∈fp/\h.get? p.1=some p.2:=by
 obtain ⟨b,hb,e⟩:=List.mem_filterMap.mp hp
 cases q:h.get? b with
 | none=>rw [q] at e;cases e
 | some o =>
  rw [q] at e
  have e':(b,o)=p:=Option.some.inj e
  subst e'
  exact ⟨hb,q⟩
theorem Inv.pinned {pins:List (Addr×Obj)} {σ:St} {H:Hp} {s:Shared} {fp:List Addr} (I:Inv X pins σ H s) (hf:∀ b∈fp,FpOk X pins H b) (ho:∀ b∈fp,∃ o,s.heap.get? b=some o/\∀ v,o.data≠.cell v):Inv X (pins++pinsAt fp s.heap) σ H s :=
 I.pins_of fun p hp=>(List.mem_append.mp hp).elim (fun z=>I.pin p (List.mem_append_right _ z)) fun z=>by
  obtain ⟨hb,e⟩:=of_pinsAt z
  obtain ⟨f0,f1,f2,_⟩:=hf p.1 hb
  obtain ⟨o,e',d⟩:=ho p.1 hb
  rw [e] at e';cases e'
  exact ⟨e,f0,f1,f2,d⟩
theorem Inv.unpinned {pins pl:List (Addr×Obj)} {σ:St} {H:Hp} {s:Shared} (I:Inv X (pins++pl) σ H s):Inv X pins σ H s:=I.pins_of fun p hp=>I.pin p (List.mem_append_right _ (List.mem_append_left _ hp))
theorem oZ {iter:Expr} {body:List Stmt} {wi:TI} {g:TG} {tb:TS} {pos:Pos} (hp:PassesOwn (model X.prog X.w) X.A X.env X.xe) (hc:X.calm=true) (hi:PI X tg iter wi) (hg:PG X tg g) (hb:PSs X body tb)
  (hs:∀ x,foldedSetIterable iter X.env x=pure x:=by intro _;rfl):PS X (.For tg iter body [] pos) (tFor wi g tb):=by
 intro pins s σ H D I h
 refine wpAny_For (thn (hi pins s σ H _ I h) fun v s1 h1=>thn h1 fun itv s2 h2=>?_) hs
 obtain ⟨it,fp,tn,J,H2,e,I2,T,st2,f2,W,⟨m0,w0⟩,turn⟩:=h2
 subst e
 have stat:∀ {H':Hp},(∀ b∈fp,H' b=none)->∀ b∈fp,FpOk X pins H' b:=fun hn b hb=>⟨hn b hb,(f2 b hb).2⟩
 refine codeAny_forLoop_any (fun n s'=>∃ i σ' H',Inv X pins σ' H' s'/\tn i s'.heap/\(∀ b∈fp,H' b=none)/\W i n σ' H') ?_ m0 ⟨0,σ,H2,I2,st2,fun b hb=>(f2 b hb).1,w0⟩
 rintro n s3 ⟨i,σ3,H3,I3,st3,fr3,w3⟩
 rcases turn i n σ3 H3 w3 with ⟨stop,qn⟩ | ⟨go,N,hN,step⟩
 ·refine wpAny_passesOwn hp (thn (T.done X rfl rfl rfl hc i pins s3 σ3 H3 X.xe I3 (stat fr3) st3 stop) fun r s4 ⟨hr,I4⟩=>?_)
  subst hr
  exact wpAny_execs_nil ⟨σ3,H3,I4,qn⟩
 ·refine wpAny_passesOwn hp (thn (T.item X rfl rfl rfl hc i pins s3 σ3 H3 X.xe I3 (stat fr3) st3 go) fun r s4 ⟨u,hr,h4⟩=>?_)
  subst hr
  refine wpAny_passesOwn hp (thn h4 fun _ s5 ⟨x,H5,I5,r5,y5,st5,fr5⟩=>?_)
  have I5':=I5.pinned (stat fr5) (T.obj _ _ st5)
  refine wpAny_passesOwn hp (thn (hg _ s5 σ3 H5 x u _ I5' r5 (step x H5 y5)) fun _ s6 ⟨σ6,H6,I6,q6⟩=>?_)
  refine wpAny_passesOwn hp (thn (hb _ s6 σ6 H6 _ I6 q6) fun f s7 q7=>?_)
  have again:∀ {σ7:St} {H7:Hp},Inv X (pins++pinsAt fp s5.heap) σ7 H7 s7->N σ7 H7->∃ m,m<n/\∃ i σ' H',Inv X pins σ' H' s7/\tn i s7.heap/\(∀ b∈fp,H' b=none)/\W i m σ' H':=fun {σ7 H7} I7 n7=>by
   obtain ⟨m',hm,w7⟩:=hN σ7 H7 n7
   refine ⟨m',hm,i+1,σ7,H7,I7.unpinned,T.keep _ _ _ st5 fun b hb o e=>(I7.pin (b,o) (List.mem_append_right _ (List.mem_append_right _ (dD hb e)))).1,fun b hb=>?_,w7⟩
   obtain ⟨o,e,d⟩:=T.obj _ _ st5 b hb
   exact (I7.pin (b,o) (List.mem_append_right _ (List.mem_append_right _ (dD hb e)))).2.1
  cases f with
  | next=>obtain ⟨σ7,H7,I7,n7⟩:=q7;exact again I7 n7
  | cont=>obtain ⟨σ7,H7,I7,n7⟩:=q7;exact again I7 n7
  | brk=>obtain ⟨σ7,H7,I7,q7⟩:=q7;exact ⟨σ7,H7,I7.unpinned,q7⟩
  | ret v=>obtain ⟨x7,σ7,H7,I7,r7,q7⟩:=q7;exact ⟨x7,σ7,H7,I7.unpinned,r7,q7⟩
end
end L2
namespace L2
open PySem PySem.Spec PyProof.Rows
abbrev R2:=V->V->Hp->VK->Prop
def OpR (X:Cx) (f:Value->Value->Sem Value) (r:R2):Prop :=
 ∀ (pins:List (Addr×Obj)) (s:Shared) (σ:St) (H:Hp) (x y:V) (v u:Value) (Q:VK),Inv X pins σ H s->RelV x v->RelV y u->r x y H Q ->
  wpAny (model X.prog X.w) X.A (f v u) (EP X pins σ Q) X.xe s
def UnR (X:Cx) (f:Value->Sem Value) (r:V->Hp->VK->Prop):Prop :=
 ∀ (pins:List (Addr×Obj)) (s:Shared) (σ:St) (H:Hp) (x:V) (v:Value) (Q:VK),Inv X pins σ H s->RelV x v->r x H Q ->
  wpAny (model X.prog X.w) X.A (f v) (EP X pins σ Q) X.xe s
def CallR (X:Cx) (f:Value) (r:List V->Hp->VK->Prop):Prop :=
 ∀ (pins:List (Addr×Obj)) (s:Shared) (σ:St) (H:Hp) (xs:List V) (us:List Value) (Q:VK),Inv X pins σ H s->Vals xs us->r xs H Q ->
  wpAny (model X.prog X.w) X.A (call f us) (EP X pins σ Q) X.xe s
def TruR (X:Cx) (r:V->Hp->(Bool->Hp->Prop)->Prop):Prop :=
 ∀ (pins:List (Addr×Obj)) (s:Shared) (σ:St) (H:Hp) (x:V) (v:Value) (Q:Bool->Hp->Prop),Inv X pins σ H s->RelV x v->r x H Q ->
  wpAny (model X.prog X.w) X.A (truthy v) (TP X pins σ Q) X.xe s
def tOp (r:R2) (ta tb:TE):TE:=fun σ H Q=>ta σ H fun x H1=>tb σ H1 fun y H2=>r x y H2 Q
def tUn (r:V->Hp->VK->Prop) (ta:TE):TE:=fun σ H Q=>ta σ H fun x H1=>r x H1 Q
def rI (C:Int->Int->Prop) (g:Int->Int->V):R2:=fun x y H Q=>∃ i j,x=.int i/\y=.int j/\C i j/\Q (g i j) H
def rI0 (g:Int->Int->V):R2:=fun x y H Q=>∃ i j,x=.int i/\y=.int j/\Q (g i j) H
def rU (g:Int->V):V->Hp->VK->Prop:=fun x H Q=>∃ i,x=.int i/\Q (g i) H
section
variable {X:Cx} {a b c:Expr} {ta tb tc:TE} {pos:Pos}
theorem binT (ha:PE X a ta) (hb:PE X b tb) {pins:List (Addr×Obj)} {s:Shared} {σ:St} {H:Hp} {R:V->V->Hp->Prop} (I:Inv X pins σ H s)
  (h:ta σ H fun x H1=>tb σ H1 fun y H2=>R x y H2) {Q:Value->Shared->Prop} {f:Value->Value->Sem Value}
  (hf:∀ v u s2 x y H2,Inv X pins σ H2 s2->RelV x v->RelV y u->R x y H2->wpAny (model X.prog X.w) X.A (f v u) Q X.xe s2) :
  wpAny (model X.prog X.w) X.A (eval a X.env) (fun v s₁=>wpAny (model X.prog X.w) X.A (eval b X.env) (fun u s₂=>wpAny (model X.prog X.w) X.A (f v u) Q X.xe s₂) X.xe s₁) X.xe s:=by
 refine thn (ha pins s σ H _ I h) fun v s1 ⟨x,H1,I1,r1,q1⟩=>?_
 refine thn (hb pins s1 σ H1 _ I1 q1) fun u s2 ⟨y,H2,I2,r2,q2⟩=>?_
 exact hf v u s2 x y H2 I2 r1 r2 q2
theorem vc {op:Operator} {r:R2} (ho:OpR X (binaryOp op) r) (ha:PE X a ta) (hb:PE X b tb):PE X (.BinOp a op b pos) (tOp r ta tb):=by
 intro pins s σ H Q I h
 exact wpAny_BinOp (binT ha hb I h fun v u s2 x y H2 I2 rx ry q=>ho pins s2 σ H2 x y v u Q I2 rx ry q)
theorem vd {op:UnaryOp} {r:V->Hp->VK->Prop} (ho:UnR X (unaryOp op) r) (ha:PE X a ta):PE X (.UnaryOp op a pos) (tUn r ta):=by
 intro pins s σ H Q I h
 exact UnaryOp_ (thn (ha pins s σ H _ I h) fun v s1 ⟨x,H1,I1,r1,q1⟩=>ho pins s1 σ H1 x v Q I1 r1 q1)
theorem opI {f:Value->Value->Sem Value} {C:Int->Int->Prop} {g:Int->Int->Int}
  (rule:∀ (i j:Int) (t u:Tok) (s:Shared) (Q:Value->Shared->Prop) (E:Value->Shared->Prop),C i j->Q (.int (g i j) s.toks) {s with toks:=s.toks+1}->wpAny (model X.prog X.w) X.A (f (.int i t) (.int j u)) Q E s) :
  OpR X f (rI C fun i j=>.int (g i j)):=by
 intro pins s σ H x y v u Q I rx ry h
 obtain ⟨i,j,rfl,rfl,hc,q⟩:=h
 obtain ⟨t,rfl⟩:=rx
 obtain ⟨t',rfl⟩:=ry
 exact rule i j t t' s _ _ hc ⟨.int (g i j),H,I.tok _,⟨_,rfl⟩,q⟩
theorem opI0 {f:Value->Value->Sem Value} {g:Int->Int->Int}
  (rule:∀ (i j:Int) (t u:Tok) (s:Shared) (Q:Value->Shared->Prop) (E:Value->Shared->Prop),Q (.int (g i j) s.toks) {s with toks:=s.toks+1}->wpAny (model X.prog X.w) X.A (f (.int i t) (.int j u)) Q E s) :
  OpR X f (rI0 fun i j=>.int (g i j)):=by
 intro pins s σ H x y v u Q I rx ry h
 obtain ⟨i,j,rfl,rfl,q⟩:=h
 obtain ⟨t,rfl⟩:=rx
 obtain ⟨t',rfl⟩:=ry
 exact rule i j t t' s _ _ ⟨.int (g i j),H,I.tok _,⟨_,rfl⟩,q⟩
theorem opB0 {f:Value->Value->Sem Value} {g:Int->Int->Bool}
  (rule:∀ (i j:Int) (t u:Tok) (s:Shared) (Q:Value->Shared->Prop) (E:Value->Shared->Prop),Q (.bool (g i j)) s->wpAny (model X.prog X.w) X.A (f (.int i t) (.int j u)) Q E s) :
  OpR X f (rI0 fun i j=>.bl (g i j)):=by
 intro pins s σ H x y v u Q I rx ry h
 obtain ⟨i,j,rfl,rfl,q⟩:=h
 obtain ⟨t,rfl⟩:=rx
 obtain ⟨t',rfl⟩:=ry
 exact rule i j t t' s _ _ ⟨.bl (g i j),H,I,rfl,q⟩
def CDiv (i j:Int):Prop:=0<j/\j<1073741824
def CMul (i j:Int):Prop:=(-(2 ^ 64)<i/\i<2 ^ 64)\/(-(2 ^ 64)<j/\j<2 ^ 64)
theorem CMul.ok {i j:Int} (h:CMul i j):IntMulOk i j:=by
 rcases h with ⟨h1,h2⟩ | ⟨h1,h2⟩
 ·exact .of_left (intBits_le_64 h1 h2)
 ·exact .of_right (intBits_le_64 h1 h2)
theorem op_add:OpR X (binaryOp .Add) (rI0 fun i j=>.int (i+j)):=opI0 fun _ _ _ _ _ _ _ q=>add_int q
theorem op_sub:OpR X (binaryOp .Sub) (rI0 fun i j=>.int (i - j)):=opI0 fun _ _ _ _ _ _ _ q=>sub_int q
theorem op_mul:OpR X (binaryOp .Mult) (rI CMul fun i j=>.int (i*j)):=opI fun _ _ _ _ _ _ _ hc q=>mul_int q hc.ok
theorem op_fdiv:OpR X (binaryOp .FloorDiv) (rI CDiv fun i j=>.int (i / j)):=opI fun i j _ _ _ _ _ hc q=>by
 have h1:(0:Int)<j:=hc.1
 have h2:j<1073741824:=hc.2
 exact floordiv_int (by omega) (by rw [Int.fdiv_eq_ediv_of_nonneg i (by omega)];exact q) (.inl (PyProof.noPylong_small (by omega)))
theorem op_mod:OpR X (binaryOp .Mod) (rI (fun _ j=>0<j) fun i j=>.int (i%j)):=opI fun i j _ _ _ _ _ hc q=>by
 have h1:(0:Int)<j:=hc
 exact mod_int' (by omega) (by rw [Int.fmod_eq_emod_of_nonneg i (by omega)];exact q)
theorem unI {f:Value->Sem Value} {g:Int->Int}
  (rule:∀ (i:Int) (t:Tok) (s:Shared) (Q:Value->Shared->Prop) (E:Value->Shared->Prop),Q (.int (g i) s.toks) {s with toks:=s.toks+1}->wpAny (model X.prog X.w) X.A (f (.int i t)) Q E s) :
  UnR X f (rU fun i=>.int (g i)):=by
 intro pins s σ H x v Q I rx h
 obtain ⟨i,rfl,q⟩:=h
 obtain ⟨t,rfl⟩:=rx
 exact rule i t s _ _ ⟨.int (g i),H,I.tok _,⟨_,rfl⟩,q⟩
theorem un_neg:UnR X (unaryOp .USub) (rU fun i=>.int (-i)):=unI fun _ _ _ _ _ q=>neg_int q
end
def scal:V->V->Bool
 | .non,.non=>true | .non,.int _=>true | .int _,.non=>true | .non,.bl _=>true | .bl _,.non=>true | .non,.str _=>true | .str _,.non=>true
 | .int _,.int _=>true | .bl _,.bl _=>true | .str _,.str _=>true | .byt _,.byt _=>true
 | .int _,.str _=>true | .str _,.int _=>true | .bl _,.str _=>true | .str _,.bl _=>true
 | _,_=>false
def rEq:R2:=fun x y H Q=>scal x y=true/\Q (.bl (decide (x=y))) H
def rNe:R2:=fun x y H Q=>scal x y=true/\Q (.bl (!decide (x=y))) H
theorem dec_int {i j:Int}:decide (V.int i=V.int j)=(i==j):=by
 rw [Bool.eq_iff_iff]
 simp
theorem dec_bl {i j:Bool}:decide (V.bl i=V.bl j)=(i==j):=by
 rw [Bool.eq_iff_iff]
 simp
theorem dec_str {i j:Str}:decide (V.str i=V.str j)=(i==j):=by
 rw [Bool.eq_iff_iff]
 simp
theorem dec_byt {i j:Array UInt8}:decide (V.byt i=V.byt j)=(i.toList==j.toList):=by
 rw [Bool.eq_iff_iff]
 cases i
 cases j
 simp
section
variable {X:Cx} {a b c:Expr} {ta tb tc:TE} {pos:Pos}
theorem fin_bl {pins:List (Addr×Obj)} {σ:St} {H:Hp} {s:Shared} {Q:VK} {k k':Bool} (I:Inv X pins σ H s) (q:Q (.bl k) H) (e:k=k'):EP X pins σ Q (.bool k') s:=by
 subst e
 exact ⟨.bl k,H,I,rfl,q⟩
theorem op_eq:OpR X (compareOp .Eq) rEq:=by
 intro pins s σ H x y v u Q I rx ry h
 obtain ⟨hs,q⟩:=h
 cases x with
 | non =>
  cases rx
  cases y with
  | non=>cases ry;exact PySem.EqNone.eq_none_none (fin_bl I q (by simp))
  | bl j=>cases ry;exact PySem.EqNone.eq_none_bool (fin_bl I q (by simp))
  | int j=>obtain ⟨t',rfl⟩:=ry;exact PySem.EqNone.eq_none_int (fin_bl I q (by simp))
  | str j=>obtain ⟨t',rfl⟩:=ry;exact PySem.EqNone.eq_none_str (fin_bl I q (by simp))
  | _=>exact absurd (show false=true from hs) Bool.false_ne_true
 | bl i =>
  cases rx
  cases y with
  | non=>cases ry;exact PySem.EqNone.eq_bool_none (fin_bl I q (by simp))
  | bl j=>cases ry;exact eq_bool (fin_bl I q dec_bl)
  | str j=>obtain ⟨t',rfl⟩:=ry;exact PySem.EqMixed.eq_bool_str (fin_bl I q (by simp))
  | _=>exact absurd (show false=true from hs) Bool.false_ne_true
 | int i =>
  obtain ⟨t,rfl⟩:=rx
  cases y with
  | non=>cases ry;exact PySem.EqNone.eq_int_none (fin_bl I q (by simp))
  | int j=>obtain ⟨t',rfl⟩:=ry;exact eq_int (fin_bl I q dec_int)
  | str j=>obtain ⟨t',rfl⟩:=ry;exact PySem.EqMixed.eq_int_str (fin_bl I q (by simp))
  | _=>exact absurd (show false=true from hs) Bool.false_ne_true
 | str i =>
  obtain ⟨t,rfl⟩:=rx
  cases y with
  | non=>cases ry;exact PySem.EqNone.eq_str_none (fin_bl I q (by simp))
  | bl j=>cases ry;exact PySem.EqMixed.eq_str_bool (fin_bl I q (by simp))
  | int j=>obtain ⟨t',rfl⟩:=ry;exact PySem.EqMixed.eq_str_int (fin_bl I q (by simp))
  | str j=>obtain ⟨t',rfl⟩:=ry;exact eq_str (fin_bl I q dec_str)
  | _=>exact absurd (show false=true from hs) Bool.false_ne_true
 | byt i =>
  obtain ⟨t,rfl⟩:=rx
  cases y with
  | byt j=>obtain ⟨t',rfl⟩:=ry;exact PySem.W.eq_bytes (fin_bl I q dec_byt)
  | _=>exact absurd (show false=true from hs) Bool.false_ne_true
 | _=>cases y<;>exact absurd (show false=true from hs) Bool.false_ne_true
theorem op_ne:OpR X (compareOp .NotEq) rNe:=by
 intro pins s σ H x y v u Q I rx ry h
 obtain ⟨hs,q⟩:=h
 cases x with
 | non =>
  cases rx
  cases y with
  | non=>cases ry;exact PySem.EqNone.ne_none_none (fin_bl I q (by simp))
  | bl j=>cases ry;exact PySem.EqNone.ne_none_bool (fin_bl I q (by simp))
  | int j=>obtain ⟨t',rfl⟩:=ry;exact PySem.EqNone.ne_none_int (fin_bl I q (by simp))
  | str j=>obtain ⟨t',rfl⟩:=ry;exact PySem.EqNone.ne_none_str (fin_bl I q (by simp))
  | _=>exact absurd (show false=true from hs) Bool.false_ne_true
 | bl i =>
  cases rx
  cases y with
  | non=>cases ry;exact PySem.EqNone.ne_bool_none (fin_bl I q (by simp))
  | bl j=>cases ry;exact ne_bool (fin_bl I q (congrArg not dec_bl))
  | str j=>obtain ⟨t',rfl⟩:=ry;exact PySem.EqMixed.ne_bool_str (fin_bl I q (by simp))
  | _=>exact absurd (show false=true from hs) Bool.false_ne_true
 | int i =>
  obtain ⟨t,rfl⟩:=rx
  cases y with
  | non=>cases ry;exact PySem.EqNone.ne_int_none (fin_bl I q (by simp))
  | int j=>obtain ⟨t',rfl⟩:=ry;exact ne_int (fin_bl I q (congrArg not dec_int))
  | str j=>obtain ⟨t',rfl⟩:=ry;exact PySem.EqMixed.ne_int_str (fin_bl I q (by simp))
  | _=>exact absurd (show false=true from hs) Bool.false_ne_true
 | str i =>
  obtain ⟨t,rfl⟩:=rx
  cases y with
  | non=>cases ry;exact PySem.EqNone.ne_str_none (fin_bl I q (by simp))
  | bl j=>cases ry;exact PySem.EqMixed.ne_str_bool (fin_bl I q (by simp))
  | int j=>obtain ⟨t',rfl⟩:=ry;exact PySem.EqMixed.ne_str_int (fin_bl I q (by simp))
  | str j=>obtain ⟨t',rfl⟩:=ry;exact ne_str (fin_bl I q (congrArg not dec_str))
  | _=>exact absurd (show false=true from hs) Bool.false_ne_true
 | byt i =>
  obtain ⟨t,rfl⟩:=rx
  cases y with
  | byt j=>obtain ⟨t',rfl⟩:=ry;exact PySem.W.ne_bytes (fin_bl I q (congrArg not dec_byt))
  | _=>exact absurd (show false=true from hs) Bool.false_ne_true
 | _=>cases y<;>exact absurd (show false=true from hs) Bool.false_ne_true
theorem op_lt:OpR X (compareOp .Lt) (rI0 fun i j=>.bl (decide (i<j))):=opB0 fun _ _ _ _ _ _ _ q=>lt_int q
theorem op_le:OpR X (compareOp .LtE) (rI0 fun i j=>.bl (decide (i<=j))):=opB0 fun _ _ _ _ _ _ _ q=>le_int q
theorem op_gt:OpR X (compareOp .Gt) (rI0 fun i j=>.bl (decide (j<i))):=opB0 fun _ _ _ _ _ _ _ q=>gt_int q
theorem op_ge:OpR X (compareOp .GtE) (rI0 fun i j=>.bl (decide (j<=i))):=opB0 fun _ _ _ _ _ _ _ q=>ge_int q
theorem op_in_str:OpR X (compareOp .In) (fun x y H Q=>∃ i j,x=.str i/\y=.str j/\Q (.bl (!(Builtin.Str.occurrences j i 0 j.length 1).isEmpty)) H):=by
 intro pins s σ H x y v u Q I rx ry h
 obtain ⟨i,j,rfl,rfl,q⟩:=h
 obtain ⟨t,rfl⟩:=rx
 obtain ⟨t',rfl⟩:=ry
 exact in_str (fin_bl I q rfl)
theorem op_isN:OpR X (compareOp .Is) (fun x y H Q=>y=.non/\Q (.bl (decide (x=.non))) H):=by
 intro pins s σ H x y v u Q I rx ry h
 obtain ⟨rfl,q⟩:=h
 cases ry
 refine is_none_gen (fin_bl I q ?_)
 cases x<;>first
  | (cases rx;rfl)
  | (obtain ⟨t,rfl⟩:=rx;rfl)
theorem op_notN:OpR X (compareOp .IsNot) (fun x y H Q=>y=.non/\Q (.bl (!decide (x=.non))) H):=by
 intro pins s σ H x y v u Q I rx ry h
 obtain ⟨rfl,q⟩:=h
 cases ry
 refine isnot_none_gen (fin_bl I q ?_)
 cases x<;>first
  | (cases rx;rfl)
  | (obtain ⟨t,rfl⟩:=rx;rfl)
theorem OpR.or {f:Value->Value->Sem Value} {r r':R2} (h:OpR X f r) (h':OpR X f r'):OpR X f (fun x y H Q=>r x y H Q\/r' x y H Q):=by
 intro pins s σ H x y v u Q I rx ry q
 rcases q with q | q
 ·exact h pins s σ H x y v u Q I rx ry q
 ·exact h' pins s σ H x y v u Q I rx ry q
theorem nomark (b:Expr) {op:CmpOp} (h:op≠.In:=by decide) (h2:op≠.NotIn:=by decide):behindInMarks op b=false:=by
 have e1:(op==CmpOp.In)=false:=by cases op<;>first | rfl | exact absurd rfl h
 have e2:(op==CmpOp.NotIn)=false:=by cases op<;>first | rfl | exact absurd rfl h2
 cases b<;>simp [behindInMarks,e1,e2]
theorem uc {op:CmpOp} {r:R2} (ho:OpR X (compareOp op) r) (ha:PE X a ta) (hb:PE X b tb) (hm:behindInMarks op b=false):PE X (.Compare a [op] [b] pos) (tOp r ta tb):=by
 intro pins s σ H Q I h
 exact wpAny_Compare1 (binT ha hb I h fun v u s2 x y H2 I2 rx ry q=>ho pins s2 σ H2 x y v u Q I2 rx ry q) hm
def tTest (t:TE):TT:=fun σ H Q=>t σ H fun x H'=>∃ k,x=.bl k/\Q k H'
theorem tV {op:CmpOp} {r:R2} (ho:OpR X (compareOp op) r) (ha:PE X a ta) (hb:PE X b tb) (hm:behindInMarks op b=false):PT X (.Compare a [op] [b] pos) (tTest (tOp r ta tb)):=by
 intro pins s σ H Q I h
 refine wpAny_isTrue_Compare1 (thn (ha pins s σ H _ I h) fun v s1 ⟨x,H1,I1,r1,q1⟩=>thn (hb pins s1 σ H1 _ I1 q1) fun u s2 ⟨y,H2,I2,r2,q2⟩ =>
  thn (ho pins s2 σ H2 x y v u _ I2 r1 r2 q2) fun c s3 ⟨z,H3,I3,r3,k,e,q3⟩=>?_) hm
 subst e
 cases r3
 exact wpAny_truthy_bool ⟨H3,I3,q3⟩
def TruV (K:PySem.W.Frag) (x:V) (H:Hp) (k:Bool):Prop :=
 match x with
 | .non=>k=false
 | .bl b=>k=b
 | .int i=>k=(i != 0)
 | .str y=>y.length<=sizeLine/\k=((y.length:Int) != 0)
 | .byt y=>y.size<=sizeLine/\k=((y.size:Int) != 0)
 | .ref p=>(∃ xs,SqL K H p xs/\k=!xs.isEmpty)\/(∃ xs,SqT K H p xs/\k=!xs.isEmpty)\/∃ kvs,H p=some (.dK kvs)/\k=!kvs.isEmpty
 | _=>False
theorem isEmpty_kv {κ:Type} {kvs:List (κ×V)} {vs:List (κ×Value)} (r:KV kvs vs):(!vs.isEmpty)=!kvs.isEmpty:=by
 cases r<;>rfl
theorem isEmpty_of {xs:List V} {its:List Value} (r:Vals xs its):(!its.toArray.isEmpty)=!xs.isEmpty:=by
 cases r<;>simp
theorem line63:(sizeLine:Nat)<2 ^ 63:=by rw [sizeLine_eq];decide
theorem tru_ok:TruR X (fun x H Q=>∃ k,TruV X.K x H k/\Q k H):=by
 intro pins s σ H x v Q I rx h
 obtain ⟨k,e,q⟩:=h
 have hl:=line63
 have hs:sizeLine=16777216:=sizeLine_eq
 cases x with
 | non =>
  cases rx
  have e':k=false:=e
  subst e'
  exact truthy_none ⟨H,I,q⟩
 | bl b =>
  cases rx
  have e':k=b:=e
  subst e'
  exact wpAny_truthy_bool ⟨H,I,q⟩
 | int i =>
  obtain ⟨t,rfl⟩:=rx
  have e':k=(i != 0):=e
  subst e'
  exact PySem.P.truthy_int ⟨H,I,q⟩
 | str y =>
  obtain ⟨t,rfl⟩:=rx
  obtain ⟨hy,e'⟩:y.length<=sizeLine/\k=((y.length:Int) != 0):=e
  subst e'
  exact PySem.P.truthy_str (by omega) ⟨H,I.tok _,q⟩
 | byt y =>
  obtain ⟨t,rfl⟩:=rx
  obtain ⟨hy,e'⟩:y.size<=sizeLine/\k=((y.size:Int) != 0):=e
  subst e'
  exact PySem.W.truthy_bytes (by omega) ⟨H,I.tok _,q⟩
 | ref p =>
  cases rx
  have e':(∃ xs,SqL X.K H p xs/\k=!xs.isEmpty)\/(∃ xs,SqT X.K H p xs/\k=!xs.isEmpty)\/∃ kvs,H p=some (.dK kvs)/\k=!kvs.isEmpty:=e
  rcases e' with ⟨xs,hx,e'⟩ | ⟨xs,hx,e'⟩ | ⟨kvs,hx,e'⟩
  ·subst e'
   obtain ⟨its,r,pl,hz⟩:=I.list hx
   have hlen:=r.length
   exact wpAny_truthy_list pl.isList (by simp only [List.size_toArray];omega) ⟨H,I.tok _,by rw [isEmpty_of r];exact q⟩
  ·subst e'
   obtain ⟨its,r,pl,hz⟩:=I.tuple hx
   have hlen:=r.length
   exact truthy_tuple pl (by simp only [List.size_toArray];omega) ⟨H,I.tok _,by rw [isEmpty_of r];exact q⟩
  ·subst e'
   obtain ⟨hz,hS,vs,r,m⟩:kvs.length<=sizeLine/\(p==sysModules)=false/\∃ vs,KV kvs vs/\s.heap.DictOf (mixKind X.prog X.w) p vs:=I.hok p _ hx
   have hlen:kvs.length=vs.length:=Paired.length r
   exact wpAny_truthy_dict hS m (by omega) ⟨H,I.tok _,by rw [isEmpty_kv r];exact q⟩
 | _=>exact (show False from e).elim
theorem sg (ha:PE X a ta) (he:∀ whole,isTrue a X.env whole=(do let v <- whole;standAt a.pos;holding [v] (truthy v))) :
  PT X a (fun σ H Q=>ta σ H fun x H'=>∃ k,TruV X.K x H' k/\Q k H'):=by
 intro pins s σ H Q I h
 exact isTrue_plain (thn (ha pins s σ H _ I h) fun v s1 ⟨x,H1,I1,r1,q1⟩=>tru_ok pins s1 σ H1 x v Q I1 r1 q1) (he _)
theorem op_add_str:OpR X (binaryOp .Add) (fun x y H Q=>∃ i j,x=.str i/\y=.str j/\i.length+j.length<=sizeLine/\Q (.str (i++j)) H):=by
 intro pins s σ H x y v u Q I rx ry h
 obtain ⟨i,j,rfl,rfl,hz,q⟩:=h
 obtain ⟨t,rfl⟩:=rx
 obtain ⟨t',rfl⟩:=ry
 exact add_str (fun t' tk=>⟨.str (i++j),H,I.tok _,⟨_,rfl⟩,q⟩) hz
theorem vals1 {x:V} {us:List Value} (r:Vals [x] us):∃ u,us=[u]/\RelV x u:=by
 cases r with
 | cons r1 r2=>cases r2;exact ⟨_,rfl,r1⟩
theorem vals2 {x y:V} {us:List Value} (r:Vals [x,y] us):∃ u w',us=[u,w']/\RelV x u/\RelV y w':=by
 cases r with
 | cons r1 r2 =>
  cases r2 with
  | cons r3 r4=>cases r4;exact ⟨_,_,rfl,r1,r3⟩
theorem qY (hc:X.calm=true):CallR X (.builtin "max") (fun xs H Q=>∃ i j,xs=[.int i,.int j]/\Q (.int (if j > i then j else i)) H):=by
 intro pins s σ H xs us Q I r h
 obtain ⟨i,j,rfl,q⟩:=h
 obtain ⟨u,w',rfl,⟨t,rfl⟩,⟨t',rfl⟩⟩:=vals2 r
 refine max_two_ints (I.ok.hd hc) fun h' tk k=>⟨_,H,I.kept k,?_,q⟩
 by_cases hj:j > i
 ·rw [if_pos hj,if_pos hj];exact ⟨_,rfl⟩
 ·rw [if_neg hj,if_neg hj];exact ⟨_,rfl⟩
theorem call_str_int:CallR X (.type "str") (fun xs H Q=>∃ i,xs=[.int i]/\i.natAbs.log2<1920/\Q (.str (toString i)) H):=by
 intro pins s σ H xs us Q I r h
 obtain ⟨i,rfl,hz,q⟩:=h
 obtain ⟨u,rfl,t,rfl⟩:=vals1 r
 exact PySem.P.str_of_int hz ⟨.str _,H,I.tok _,⟨_,rfl⟩,q⟩
end
end L2
namespace L2
open PySem PySem.Spec PyProof.Rows
structure ObjM (h:Heap) (x dx C:Addr) (mA:Str->Option Value):Prop where
 obj:h.get? x=some (PySem.W.instObj C dx)
 ns:h.Ns1 dx mA
 ne:dx≠x
theorem lookIn_ns {h:Heap} {dx:Addr} {mA:Str->Option Value} (n:h.Ns1 dx mA):∃ od,h.get? dx=some od/\∀ name,PySem.W.lookIn name od=some (mA name):=by
 obtain ⟨o,es,ep,ho,hd,hk,_,hm⟩:=n
 refine ⟨o,ho,fun name=>?_⟩
 have e:=hm name
 unfold nsFind findBy at e
 rw [<- Array.find?_toList] at e
 unfold PySem.W.lookIn
 rw [hd]
 dsimp only
 split
 ·rename_i y q
  rw [q] at e
  exact congrArg some e
 ·rename_i q
  rw [q] at e
  have a:es.toList.any (·.refKey)=false:=by
   rw [List.any_eq_false]
   intro y hy
   obtain ⟨z,t,hkey⟩:=hk y (Array.mem_toList_iff.mp hy)
   simp [DictEntry.refKey,hkey]
  have a':¬ es.toList.any (·.refKey)=true:=by rw [a];exact Bool.false_ne_true
  rw [if_neg a']
  exact congrArg some e
theorem ObjM.look {h:Heap} {x dx C:Addr} {mA:Str->Option Value} (I:ObjM h x dx C mA):∃ od,PySem.W.InstAt h x (PySem.W.instObj C dx) C (some od)/\∀ name,PySem.W.lookIn name od=some (mA name) :=
 let ⟨od,ho,hl⟩:=lookIn_ns I.ns
 ⟨od,⟨I.obj,rfl,rfl,ho⟩,hl⟩
section
variable {prog:Program} {w:World} {A:Around} {E:Value->Shared->Prop} {s:Shared} {K:PySem.W.Frag} {x dx C f:Addr} {mA:Str->Option Value} {name:Str} {v:Value}
theorem tN {expr:Bool} {Q:Value->Shared->Prop} (X:K.In s.heap) (I:ObjM s.heap x dx C mA) (hg:PySem.W.plainGet K C name=true) (hh:PySem.W.hasDictIn K C=true)
  (ha:PySem.W.findIn K (.ref C) name=some none) (hv:mA name=some v) (hv':PySem.W.handedIn v=true) (h:Q v {s with toks:=s.toks+1}) :
  wpAny (model prog w) A (getAttr (.ref x) name expr) Q E s:=by
 obtain ⟨od,J,hl⟩:=I.look
 exact PySem.W.get_value X J (PySem.W.plainGet_of hg).1 (PySem.W.findObj_own hh ha rfl (by rw [hl,hv])) hv' h
theorem sG {pl:Sem Bool} {Q:Value×List Value->Shared->Prop} (X:K.In s.heap) (I:ObjM s.heap x dx C mA) (hg:PySem.W.plainGet K C name=true)
  (hf:PySem.W.findIn K (.ref C) name=some (some (.ref f))) (ht:PySem.W.isFn K (.ref f)=true) (hv:mA name=none) (h:Q (.ref f,[.ref x]) s) :
  wpAny (model prog w) A (getMethod (.ref x) name pl) Q E s:=by
 obtain ⟨od,J,hl⟩:=I.look
 exact PySem.W.method_fn X J (PySem.W.plainGet_of hg).1 (PySem.W.plainGet_of hg).2 hf (beq_iff_eq.mp ht) (by show (PySem.W.lookIn name od).map (·.isSome)=some false;rw [hl,hv];rfl) h
theorem set_map {ns:List Str} {Q:Unit->Shared->Prop} (X:K.In s.heap) (I:ObjM s.heap x dx C mA)
  (hs:PySem.W.findIn K (.ref C) "__setattr__" = some (some (.builtin "object.__setattr__"))) (hp:PySem.W.plainOver K C=true) (ht:PySem.W.takerIn K C name=some none) (hh:PySem.W.hasDictIn K C=true)
  (hw:PySem.Within mA ns) (hsz:ns.length<=sizeLine)
  (h:∀ h',ObjM h' x dx C (fun y=>if y=name then some v else mA y)->Heap.SameBut dx s.heap h'->Q () {s with heap:=h',toks:=s.toks+2}) :
  wpAny (model prog w) A (setAttr (.ref x) name v) Q E s:=by
 obtain ⟨od,J,hl⟩:=I.look
 refine PySem.W.set_plain X J hs (PySem.W.osa_open (s:={s with toks:=s.toks+1}) (r:=none) X J hp ht fun b=>?_)
 obtain ⟨cd,hc,hd'⟩:=PySem.W.any_some hh
 have hx:s.heap.get? x=some ⟨.ref C,some dx,.plain,#[]⟩:=I.obj
 refine wpAny_bind (wpAny_pure (wpAny_bind (wpAny_bind (wpAny_loadPart hx (wpAny_bind (PySem.W.Looks.here (s:={s with toks:=s.toks+1}) (PySem.W.looks_clsIn X hc) ?_))))))
 rw [hd']
 refine wpAny_pure (a:=some dx) (wpAny_bind (wpAny_pure (wpAny_bind ?_)))
 refine wpAny_nsSet1 (s:={s with toks:=s.toks+1}) I.ns fun h' hn2 hs2=>?_
 obtain ⟨oD,esD,epD,hoD,hdD,hcD⟩:=hn2.count (PySem.Within.cons name v hw)
 refine wpAny_bind (wpAny_lookBehind hoD (by rw [hdD];exact pastItsLine_dict (Nat.le_trans hcD (by rw [List.length_cons];omega))) ?_)
 exact wpAny_pure (h _ ⟨(hs2.2 _ (Ne.symm I.ne)).trans I.obj,hn2,I.ne⟩ hs2)
theorem make_map {R:Result->Shared->Prop} {vs:List Value} {kw:List (Str×Value)} (X:K.In s.heap) (hm:PySem.W.makesIn K C=true)
    (hi:PySem.W.findIn K (.ref C) "__init__" = some (some (.ref f))) (hf:PySem.W.typeIn K (.ref f)=some (.type "function"))
    (h:codeAny (model prog w) (A.under (.builtin "type.__call__" ⟨.ref C::vs,kw⟩)) (.call (.ref f) ⟨.ref (s.heap.objs.size+1)::vs,kw⟩) (PySem.W.InitBack (s.heap.objs.size+1) R)
      {s with heap:=(s.heap.push PySem.W.emptyDict).push (PySem.W.instObj C s.heap.objs.size)}) :
    codeAny (model prog w) A (.call (.ref C) ⟨vs,kw⟩) R s:=by
  obtain ⟨hh,g,d,t,os⟩:=s
  exact PySem.W.make_core (PySem.W.makes_of X hm) (PySem.W.looks_findIn X hi) (fun self=>PySem.W.bind_fn X self hf) (.inl rfl) h
end
def putF (f:Str) (v:V):List (Str×V)->List (Str×V)
 | []=>[(f,v)]
 | (g,x)::r=>if g=f then (g,v)::r else (g,x)::putF f v r
theorem lookup_putF (f g:Str) (v:V):∀ fs:List (Str×V),(putF f v fs).lookup g=if g=f then some v else fs.lookup g
 | []=>by
  show List.lookup g [(f,v)]=_
  by_cases h:g=f
  ·have hb:(g==f)=true:=beq_iff_eq.mpr h
   simp only [List.lookup,hb,if_pos h]
  ·have hb:(g==f)=false:=beq_eq_false_iff_ne.mpr h
   simp only [List.lookup,hb,if_neg h]
 | (k,x)::r=>by
  have ih:=lookup_putF f g v r
  rw [show putF f v ((k,x)::r)=(if k=f then (k,v)::r else (k,x)::putF f v r) from rfl]
  by_cases hk:k=f
  ·rw [if_pos hk]
   by_cases h:g=k
   ·have hb:(g==k)=true:=beq_iff_eq.mpr h
    simp only [List.lookup,hb,if_pos (h.trans hk)]
   ·have hb:(g==k)=false:=beq_eq_false_iff_ne.mpr h
    simp only [List.lookup,hb,if_neg (fun e:g=f=>h (e.trans hk.symm))]
  ·rw [if_neg hk]
   by_cases h:g=k
   ·have hb:(g==k)=true:=beq_iff_eq.mpr h
    simp only [List.lookup,hb,if_neg (fun e:g=f=>hk (h.symm.trans e))]
   ·have hb:(g==k)=false:=beq_eq_false_iff_ne.mpr h
    simp only [List.lookup,hb]
    exact ih
theorem keys_putF (f:Str) (v:V):∀ fs:List (Str×V),f∈(putF f v fs).map (·.1)/\∀ g,g∈fs.map (·.1)->g∈(putF f v fs).map (·.1)
 | []=>⟨by simp [putF],fun g h=>by simp at h⟩
 | (k,x)::r=>by
  obtain ⟨i1,i2⟩:=keys_putF f v r
  rw [show putF f v ((k,x)::r)=(if k=f then (k,v)::r else (k,x)::putF f v r) from rfl]
  by_cases hk:k=f
  ·rw [if_pos hk]
   subst hk
   exact ⟨by simp,fun g h=>by simpa using h⟩
  ·rw [if_neg hk]
   refine ⟨?_,fun g h=>?_⟩
   ·rw [List.map_cons]
    exact List.mem_cons_of_mem _ i1
   ·rw [List.map_cons] at h ⊢
    rcases List.mem_cons.mp h with e | e
    ·exact List.mem_cons.mpr (.inl e)
    ·exact List.mem_cons_of_mem _ (i2 g e)
theorem length_putF (f:Str) (v:V):∀ fs:List (Str×V),(putF f v fs).length<=fs.length+1
 | []=>by simp [putF]
 | (k,x)::r=>by
  have ih:=length_putF f v r
  rw [show putF f v ((k,x)::r)=(if k=f then (k,v)::r else (k,x)::putF f v r) from rfl]
  by_cases hk:k=f
  ·rw [if_pos hk,List.length_cons,List.length_cons];omega
  ·rw [if_neg hk,List.length_cons,List.length_cons];omega
theorem RelO.some_of {v:V} {o:Option Value} (r:RelO (some v) o):∃ u,o=some u/\RelV v u:=by
 cases o with
 | none=>exact (show False from r).elim
 | some u=>exact ⟨u,rfl,r⟩
theorem RelO.none_of {o:Option Value} (r:RelO none o):o=none:=by
 cases o with
 | none=>rfl
 | some u=>exact (show False from r).elim
theorem handed_of {v:V} {u:Value} (r:RelV v u):PySem.W.handedIn u=true:=by
 cases v with
 | non=>cases (show u=Value.none from r);rfl
 | bl b=>cases (show u=Value.bool b from r);rfl
 | int i=>obtain ⟨t,e⟩:=(show ∃ t,u=Value.int i t from r);cases e;rfl
 | str x=>obtain ⟨t,e⟩:=(show ∃ t,u=Value.str x t from r);cases e;rfl
 | byt b=>obtain ⟨t,e⟩:=(show ∃ t,u=Value.bytes b t from r);cases e;rfl
 | flt b=>obtain ⟨t,e⟩:=(show ∃ t,u=Value.float b t from r);cases e;rfl
 | ref a=>cases (show u=Value.ref a from r);rfl
 | ty n=>cases (show u=Value.type n from r);rfl
section
variable {P:Program} {w:World} {H H':Hp} {h h':Heap} {a C dx:Addr} {fs fs':List (Str×V)}
theorem ins_get (hok:HOk P w H h) (e:H a=some (.ins C dx fs)):∃ mA,ObjM h a dx C mA/\(∀ f,RelO (fs.lookup f) (mA f))/\PySem.Within mA (fs.map (·.1))/\fs.length<=1000/\H dx=some (.own a):=by
 obtain ⟨d,z,ne,ob,mA,n,r,q⟩:=(show ObjOk P w H h a (.ins C dx fs) from hok a _ e)
 exact ⟨mA,⟨ob,n,ne⟩,r,q,z,d⟩
end
structure Cls (K:PySem.W.Frag) (C:Addr):Prop where
 pg:PySem.W.plainGet K C Str.empty=true
 hd:PySem.W.hasDictIn K C=true
 po:PySem.W.plainOver K C=true
 sa:PySem.W.findIn K (.ref C) "__setattr__" = some (some (.builtin "object.__setattr__"))
theorem Cls.get {K:PySem.W.Frag} {C:Addr} (c:Cls K C) (f:Str):PySem.W.plainGet K C f=true:=c.pg
def NoAttr (K:PySem.W.Frag) (C:Addr) (f:Str):Prop:=PySem.W.findIn K (.ref C) f=some none
theorem NoAttr.taker {K:PySem.W.Frag} {C:Addr} {f:Str} (n:NoAttr K C f):PySem.W.takerIn K C f=some none:=by
 unfold PySem.W.takerIn
 rw [show PySem.W.findIn K (.ref C) f=some none from n]
 rfl
structure Con (K:PySem.W.Frag) (C:Addr) (f:Str) (v:V) (u:Value):Prop where
 at_:PySem.W.findIn K (.ref C) f=some (some u)
 rel:RelV v u
 get:PySem.W.specialIn K u "__get__" = some none
 cp:PySem.W.copiedNames.contains f=false
structure Meth (K:PySem.W.Frag) (C:Addr) (m:Str) (f:Addr):Prop where
 at_:PySem.W.findIn K (.ref C) m=some (some (.ref f))
 fn:PySem.W.isFn K (.ref f)=true
 kp:PySem.W.keepIn K (.ref f)=true
section
variable {X:Cx} {pins:List (Addr×Obj)} {σ:St} {H:Hp} {s:Shared} {a C dx:Addr} {fs:List (Str×V)} {f:Str} {v:V} {A:Around} {E:Value->Shared->Prop}
theorem getattr_ok {b:Bool} {Q:Value->Shared->Prop} (I:Inv X pins σ H s) (e:H a=some (.ins C dx fs)) (c:Cls X.K C) (n:NoAttr X.K C f) (l:fs.lookup f=some v)
  (h:∀ u s',Inv X pins σ H s'->RelV v u->Q u s'):wpAny (model X.prog X.w) A (getAttr (.ref a) f b) Q E s:=by
 obtain ⟨mA,O,r,_,_,_⟩:=ins_get I.hok e
 obtain ⟨u,hu,ru⟩:=RelO.some_of (v:=v) (o:=mA f) (by rw [<- l];exact r f)
 exact tN I.kIn O (c.get f) c.hd n hu (handed_of ru) (h u _ (I.tok _) ru)
theorem getmeth_ok {m:Str} {g:Addr} {pl:Sem Bool} {Q:Value×List Value->Shared->Prop} (I:Inv X pins σ H s) (e:H a=some (.ins C dx fs)) (c:Cls X.K C) (k:Meth X.K C m g) (l:fs.lookup m=none)
  (h:Q (.ref g,[.ref a]) s):wpAny (model X.prog X.w) A (getMethod (.ref a) m pl) Q E s:=by
 obtain ⟨mA,O,r,_,_,_⟩:=ins_get I.hok e
 have hn:mA m=none:=RelO.none_of (by rw [<- l];exact r m)
 exact sG I.kIn O (c.get m) k.at_ k.fn hn h
theorem setattr_ok {y:V} {u:Value} {Q:Unit->Shared->Prop} (I:Inv X pins σ H s) (e:H a=some (.ins C dx fs)) (c:Cls X.K C) (n:NoAttr X.K C f) (hl:fs.length<1000) (ry:RelV y u)
  (h:∀ s',Inv X pins σ (upd H a (.ins C dx (putF f y fs))) s'->Q () s'):wpAny (model X.prog X.w) A (setAttr (.ref a) f u) Q E s:=by
 obtain ⟨mA,O,r,wi,_,ho⟩:=ins_get I.hok e
 have hz:(fs.map (·.1)).length<=sizeLine:=by rw [List.length_map,sizeLine_eq];omega
 refine set_map I.kIn O c.sa c.po n.taker c.hd wi hz fun h' O' sb=>h _ ?_
 have hd:∃ o,h'.get? dx=some o:=let ⟨o,_,_,e',_⟩:=O'.ns;⟨o,e'⟩
 refine I.write (x:=a) (e:=dx) (by rw [e];exact True.intro) (.inr ho) (fun b q hb z=>(sb.2 b hb).trans z) hd ?_
 refine ⟨by rw [ar O.ne];exact ho,?_,O.ne,O'.obj,_,O'.ns,fun g=>?_,fun g hg=>?_⟩
 ·have:=length_putF f y fs;omega
 ·show RelO ((putF f y fs).lookup g) (if g=f then some u else mA g)
  rw [lookup_putF]
  by_cases q:g=f
  ·rw [if_pos q,if_pos q];exact ry
  ·rw [if_neg q,if_neg q];exact r g
 ·by_cases q:g=f
  ·rw [q];exact (keys_putF f y fs).1
  ·refine (keys_putF f y fs).2 g (wi g fun z=>hg ?_)
   show (if g=f then some u else mA g)=none
   rw [if_neg q];exact z
theorem Inv.made (I:Inv X pins σ H s):Inv X pins σ (upd (upd H s.heap.objs.size (.own (s.heap.objs.size+1))) (s.heap.objs.size+1) (.ins C s.heap.objs.size []))
  {s with heap:=(s.heap.push PySem.W.emptyDict).push (PySem.W.instObj C s.heap.objs.size)}:=by
 have e1:(s.heap.push PySem.W.emptyDict).get? s.heap.objs.size=some PySem.W.emptyDict:=Heap.get?_push_size s.heap rfl
 have e2:((s.heap.push PySem.W.emptyDict).push (PySem.W.instObj C s.heap.objs.size)).get? (s.heap.objs.size+1)=some (PySem.W.instObj C s.heap.objs.size):=by
  have:=Heap.get?_push_size (s.heap.push PySem.W.emptyDict) (o:=PySem.W.instObj C s.heap.objs.size) rfl
  rwa [Heap.size_push] at this
 have e3:(s.heap.push PySem.W.emptyDict).Ns s.heap.objs.size (fun _=>none):=⟨PySem.W.emptyDict,#[],_,e1,rfl,(fun e he=>absurd he (by simp)),fun _=>rfl⟩
 have I1:=I.laid (a:=s.heap.objs.size) (o:=.own (s.heap.objs.size+1)) (h':=s.heap.push PySem.W.emptyDict) (t':=s.toks) (fun b u q=>Heap.get?_push_of_some _ q) (Nat.le_refl _) ⟨_,e1⟩
 refine I1.laid (a:=s.heap.objs.size+1) (o:=.ins C s.heap.objs.size []) (t':=s.toks) (fun b u q=>Heap.get?_push_of_some _ q) (Nat.le_of_eq (Heap.size_push _ _)) ?_
 have ne:s.heap.objs.size≠s.heap.objs.size+1:=Nat.ne_of_lt (Nat.lt_succ_self _)
 refine ⟨by rw [ar ne,ax],Nat.zero_le _,ne,e2,fun _=>none,(Heap.Ns1.of_empty e3).at fun o q=>Heap.get?_push_of_some _ q,fun _=>True.intro,fun y hy=>absurd rfl hy⟩
theorem attr_of {prog:Program} {w:World} {env:Env} {e:Expr} {f:Str} {pos:Pos} {s:Shared} {Q:Value->Shared->Prop} (hb:attributeBase e f env (eval e env)=eval e env)
  (h:wpAny (model prog w) A (eval e env) (fun o s₁=>wpAny (model prog w) A (getAttr o f true) Q E s₁) E s):wpAny (model prog w) A (eval (.Attribute e f pos) env) Q E s :=
 Attribute_any_ h (by rw [arm_eval_Attribute,hb])
end
def tFld (K:PySem.W.Frag) (ta:TE) (f:Str):TE:=fun σ H Q=>ta σ H fun x H1=>∃ a C dx fs v,x=.ref a/\H1 a=some (.ins C dx fs)/\Cls K C/\NoAttr K C f/\fs.lookup f=some v/\Q v H1
def sFld (K:PySem.W.Frag) (ta tv:TE) (f:Str):TS:=fun D σ H=>tv σ H fun y H1=>ta σ H1 fun x H2=>∃ a C dx fs,x=.ref a/\H2 a=some (.ins C dx fs)/\Cls K C/\NoAttr K C f/\fs.length<1000 /\
 D.nx σ (upd H2 a (.ins C dx (putF f y fs)))
section
variable {X:Cx} {o e value:Expr} {f:Str} {pos pos' tpos:Pos} {ta tv:TE}
theorem qc (he:PE X e ta) (hb:attributeBase e f X.env (eval e X.env)=eval e X.env):PE X (.Attribute e f pos) (tFld X.K ta f):=by
 intro pins s σ H Q I h
 refine attr_of hb (thn (he pins s σ H _ I h) fun u s1 ⟨x,H1,I1,rx,a,C,dx,fs,v,ex,ea,c,n,l,q⟩=>?_)
 subst ex
 obtain rfl:u=Value.ref a:=rx
 exact getattr_ok I1 ea c n l fun u' s2 I2 ru=>⟨v,H1,I2,ru,q⟩
theorem sy (ha:PE X o ta) (hv:PE X value tv) (hs:swapsWith value (some (.Attribute o f pos')) pos.line X.env=pure false):PS X (.Assign [.Attribute o f pos'] value pos) (sFld X.K ta tv f):=by
 intro pins s σ H D I h
 refine plainObj_wpAny_Assign_Attribute (thn (hv pins s σ H _ I h) fun u s1 ⟨y,H1,I1,ry,q⟩=>thn (ha pins s1 σ H1 _ I1 q) fun ov s2 ⟨x,H2,I2,rx,a,C,dx,fs,ex,ea,c,n,l,q2⟩=>?_) hs
 subst ex
 obtain rfl:ov=Value.ref a:=rx
 exact setattr_ok I2 ea c n l ry fun s3 I3=>⟨σ,_,I3,q2⟩
theorem methcall_of {pl:Sem Bool} {m:Str} {apos:Pos} {args:List Expr} {pins:List (Addr×Obj)} {s:Shared} {σ:St} {H:Hp} {Q:Value->Shared->Prop} {te:TE} (he:PE X e te) (I:Inv X pins σ H s)
    (h:te σ H fun x H1=>∃ a C dx fs g,x=.ref a/\H1 a=some (.ins C dx fs)/\Cls X.K C/\Meth X.K C m g/\fs.lookup m=none /\
      ∀ s1,Inv X pins σ H1 s1->wpAny (model X.prog X.w) X.A (callWith pos (.ref g) [.ref a] (backTo pos (starEach args X.env)) (backToKw pos (keywordEach [] X.env))) Q X.xe s1)
    (ht:eval (.Call (.Attribute e m apos) args [] pos) X.env=(do
      let ov <- eval e X.env
      standAt apos.atName
      let (f,first) <- holding [ov] (getMethod ov m pl)
      callWith pos f first (backTo pos (starEach args X.env)) (backToKw pos (keywordEach [] X.env)))) :
    wpAny (model X.prog X.w) X.A (eval (.Call (.Attribute e m apos) args [] pos) X.env) Q X.xe s:=by
  refine PySem.W.methodCall_KW (pl:=pl) (thn (he pins s σ H _ I h) fun u s1 ⟨x,H1,I1,rx,a,C,dx,fs,g,ex,ea,c,k,l,q⟩=>?_) ht
  subst ex
  obtain rfl:u=Value.ref a:=rx
  exact getmeth_ok I1 ea c k l (q s1 I1)
end
section
variable {X:Cx} {pins:List (Addr×Obj)} {σ:St} {H:Hp} {s:Shared} {A:Around} {E:Value->Shared->Prop} {Q:Value->Shared->Prop} {c:Value} {b:Bool}
end
end L2
namespace L2
open PySem PySem.Spec PyProof.Rows
structure Room (k:Nat) (A:Around):Prop where
 hd:A.handled=none
 dp:A.depth+3*k+5<recursionLimit
 un:A.units+16*k+200<cLine
 gd:A.guards=some []
theorem Room.mono {j k:Nat} {A:Around} (r:Room k A) (h:j<=k):Room j A:=⟨r.hd,by have:=r.dp;omega,by have:=r.un;omega,r.gd⟩
theorem Room.deeper {k:Nat} {A:Around} (r:Room (k+1) A) (env:Env):Room k (A.deeper env) :=
 ⟨r.hd,by have:=r.dp;show A.depth+1+3*k+5<_;omega,by have:=r.un;show A.units+3+16*k+200<_;omega,r.gd⟩
theorem Room.in1 {k:Nat} {A:Around} (r:Room (k+1) A):Room k A.in1 :=
 ⟨r.hd,by have:=r.dp;show A.depth+3*k+5<_;omega,by have:=r.un;show A.units+1+16*k+200<_;omega,r.gd⟩
theorem make_depth {A:Around} {C:Addr} {us:List Value} {kw:List (Str×Value)}:(A.under (.builtin "type.__call__" ⟨.ref C::us,kw⟩)).depth=A.depth+1:=by
 first | rfl | simp [Around.under,Code.weight,Code.isCreation,Code.isGuard,Code.isCaller,Code.frames,Code.isFrame,guardIds]
theorem make_units {A:Around} {C:Addr} {us:List Value} {kw:List (Str×Value)}:(A.under (.builtin "type.__call__" ⟨.ref C::us,kw⟩)).units=A.units+1:=by
 first | rfl | simp [Around.under,Code.cUnits,Code.frames,Code.isFrame]
theorem Room.make {k:Nat} {A:Around} (r:Room (k+1) A) (C:Addr) (us:List Value) (kw:List (Str×Value)):Room k (A.under (.builtin "type.__call__" ⟨.ref C::us,kw⟩)) :=
 ⟨r.hd,by have:=r.dp;rw [make_depth];omega,by have:=r.un;rw [make_units];omega,by show pushGuards (Code.guards (.builtin "type.__call__" ⟨.ref C::us,kw⟩)) A.guards=_;rw [r.gd];first | rfl | simp [Code.guards,Code.isGuard,guardIds,pushGuards]⟩
theorem Room.depth {k:Nat} {A:Around} (r:Room k A):A.depth<recursionLimit:=by have:=r.dp;omega
theorem Room.units {k:Nat} {A:Around} (r:Room k A):A.units+64<cLine:=by have:=r.un;omega
def tNil:TA:=fun _ H Q=>Q [] H
def tCons (ta:TE) (tr:TA):TA:=fun σ H Q=>ta σ H fun x H1=>tr σ H1 fun xs H2=>Q (x::xs) H2
section
variable {X:Cx} {e:Expr} {es:List Expr} {te:TE} {t:TA} {pos:Pos}
theorem pa_nil:PA X [] tNil:=fun _ _ _ _ H Q I h=>Calls.spliced_nil ⟨[],H,I,.nil,h⟩
theorem lz (ha:PE X e te) (hr:PA X es t) (hs:starEach (e::es) X.env=(false,eval e X.env)::starEach es X.env:=by rfl):PA X (e::es) (tCons te t):=by
 intro pos pins s σ H Q I h
 rw [hs]
 show wpAny _ _ (spliced ((false,eval e X.env)::backTo pos (starEach es X.env))) _ _ s
 refine Calls.spliced_cons (thn (ha pins s σ H _ I h) fun u s1 ⟨x,H1,I1,r1,q1⟩=>?_)
 exact thn (hr pos pins s1 σ H1 _ I1 q1) fun us s2 ⟨xs,H2,I2,r2,q2⟩=>⟨x::xs,H2,I2,.cons r1 r2,q2⟩
def tTup (t:TA):TE:=fun σ H Q=>t σ H fun xs H1=>xs.length<=sizeLine/\∀ p,H1 p=none->Q (.ref p) (upd H1 p (.tup xs))
def tLst (t:TA):TE:=fun σ H Q=>t σ H fun xs H1=>xs.length<=sizeLine/\∀ p,H1 p=none->Q (.ref p) (upd H1 p (.lst xs))
theorem rO {x1} (h:PA X es t):PE X (.Tuple es x1 pos) (tTup t):=by
 intro pins s σ H Q I hq
 refine wpAny_Tuple_spliced (thn (h pos pins s σ H _ I hq) fun us s1 ⟨xs,H1,I1,r,z,q⟩=>⟨by rw [<- r.length];exact z,?_⟩)
 have hf:H1 s1.heap.objs.size=none:=I1.hok.fresh (Nat.le_refl _)
 refine ⟨.ref s1.heap.objs.size,upd H1 s1.heap.objs.size (.tup xs),I1.laid (t':=s1.toks) (fun b u e=>Heap.get?_push_of_some _ e) (Nat.le_refl _) ?_,rfl,q _ hf⟩
 exact ⟨z,us,r,⟨_,Heap.get?_push_size _ rfl,rfl,⟨_,rfl⟩,rfl⟩⟩
theorem o_ (h:PA X es t):PE X (.List es pos) (tLst t):=by
 intro pins s σ H Q I hq
 refine wpAny_List_spliced (thn (h pos pins s σ H _ I hq) fun us s1 ⟨xs,H1,I1,r,z,q⟩=>⟨by rw [<- r.length];exact z,?_⟩)
 have hf:H1 s1.heap.objs.size=none:=I1.hok.fresh (Nat.le_refl _)
 refine ⟨.ref s1.heap.objs.size,upd H1 s1.heap.objs.size (.lst xs),I1.laid (t':=s1.toks) (fun b u e=>Heap.get?_push_of_some _ e) (Nat.le_refl _) ?_,rfl,q _ hf⟩
 exact ⟨z,us,0,r,Heap.get?_push_size _ rfl⟩
end
abbrev Sp:=List V->Hp->VK->XK->Prop
abbrev CXT:=List Env->Hp->Shared->XK->Value->Shared->Prop
structure Env0 (P:Program) (w:World) (K:PySem.W.Frag) (mg:Str->Option Value) (base:Heap) (A:Around) (outer:List Env) (s:Shared) (H:Hp):Prop where
 frames:A.frames=some outer
 mod:Mod K mg base
 bs:∀ b o,base.get? b=some o->s.heap.get? b=some o/\H b=none
 bsz:base.objs.size<=s.heap.objs.size
 funs:s.heap.FunFrames base outer
 frf:∀ b∈frs outer,H b=none
 hok:HOk P w H s.heap
 bare:AllBare s.gens
def CE (outer:List Env) (P:Program) (w:World) (H:Hp) (s:Shared) (Q:VK) (u:Value) (s':Shared):Prop :=
 ∃ v H',s'.os=s.os/\AllBare s'.gens/\Un (frs outer) [] H H' s.heap s'.heap/\HOk P w H' s'.heap/\RelV v u/\Q v H'
def CR (CX:CXT) (outer:List Env) (P:Program) (w:World) (H:Hp) (s:Shared) (Q:VK) (E:XK) (r:Result) (s':Shared):Prop :=
 match r with
 | .ok (.ret u)=>CE outer P w H s Q u s'
 | .ok _=>False
 | .error e=>CX outer H s E e s'
structure FnOk (P:Program) (w:World) (K:PySem.W.Frag) (mg:Str->Option Value) (base:Heap) (CX:CXT) (k:Nat) (f:Addr) (fd:FuncData) (ps:List Str) (sp:Sp):Prop where
 len:∀ vs H Q E,sp vs H Q E->vs.length=ps.length
 run:∀ (A:Around) (outer:List Env) (s:Shared) (H:Hp) (args:Args) (us:List Value) (vs:List V) (Q:VK) (E:XK),Room k A->Env0 P w K mg base A outer s H->BindsTo s fd args (ps.zip us)->Vals vs us->sp vs H Q E ->
  codeAny (model P w) A (.call (.ref f) args) (CR CX outer P w H s Q E) s
theorem FnOk.mono {P:Program} {w:World} {K:PySem.W.Frag} {mg:Str->Option Value} {base:Heap} {CX:CXT} {j k:Nat} {f:Addr} {fd:FuncData} {ps:List Str} {sp:Sp} (F:FnOk P w K mg base CX j f fd ps sp) (h:j<=k) :
  FnOk P w K mg base CX k f fd ps sp:=⟨F.len,fun A outer s H args us vs Q E hr=>F.run A outer s H args us vs Q E (hr.mono h)⟩
theorem FnOk.imp {P:Program} {w:World} {K:PySem.W.Frag} {mg:Str->Option Value} {base:Heap} {CX:CXT} {k:Nat} {f:Addr} {fd:FuncData} {ps:List Str} {sp sp':Sp} (F:FnOk P w K mg base CX k f fd ps sp)
  (h:∀ vs H Q E,sp' vs H Q E->sp vs H Q E):FnOk P w K mg base CX k f fd ps sp' :=
 ⟨fun vs H Q E q=>F.len vs H Q E (h _ _ _ _ q),fun A outer s H args us vs Q E hr he hb hv hs=>F.run A outer s H args us vs Q E hr he hb hv (h _ _ _ _ hs)⟩
theorem Env0.make {P:Program} {w:World} {K:PySem.W.Frag} {mg:Str->Option Value} {base:Heap} {A:Around} {outer:List Env} {s:Shared} {H:Hp} (e:Env0 P w K mg base A outer s H) (C:Addr) (us:List Value) (kw:List (Str×Value)) :
  Env0 P w K mg base (A.under (.builtin "type.__call__" ⟨.ref C::us,kw⟩)) outer s H:=⟨by first | exact e.frames | (simpa [Around.under,Code.envs,Code.isFrame,pushEnvs] using e.frames),e.mod,e.bs,e.bsz,e.funs,e.frf,e.hok,e.bare⟩
theorem Env0.in1 {P:Program} {w:World} {K:PySem.W.Frag} {mg:Str->Option Value} {base:Heap} {A:Around} {outer:List Env} {s:Shared} {H:Hp} (e:Env0 P w K mg base A outer s H) :
  Env0 P w K mg base A.in1 outer s H:=⟨e.frames,e.mod,e.bs,e.bsz,e.funs,e.frf,e.hok,e.bare⟩
section
variable {X:Cx} {pins:List (Addr×Obj)} {σ:St} {H:Hp} {s s':Shared}
theorem Inv.env0 (I:Inv X pins σ H s):Env0 X.prog X.w X.K X.mg X.base X.A X.stack s H :=
 ⟨I.ok.frames,I.ok.mod,I.bs,Nat.le_trans I.ok.bsz I.sz,I.stack,I.stkFree,I.hok,I.bare⟩
theorem Inv.after {Q:VK} {u:Value} (I:Inv X pins σ H s) (h:CE X.stack X.prog X.w H s Q u s'):EP X pins σ Q u s':=by
 obtain ⟨v,H',os,bare,un,hok,r,q⟩:=h
 obtain ⟨hh,g,d,t,os'⟩:=s'
 obtain rfl:os'=s.os:=os
 exact ⟨v,H',I.call (h':=hh) (g':=g) (d':=d) (t':=t) (ch:=[]) un hok bare (fun b z=>absurd z (by simp)),r,q⟩
end
def tCall (sp:Sp) (dvs:List V) (E:XK) (t:TA):TE:=fun σ H Q=>t σ H fun vs H1=>sp (vs++dvs) H1 Q E
def tMeth (C:Addr) (m:Str) (sp:Sp) (dvs:List V) (E:XK) (ta:TE) (t:TA):TE:=fun σ H Q=>ta σ H fun x H1=>∃ a dx fs,x=.ref a/\H1 a=some (.ins C dx fs)/\fs.lookup m=none /\
 t σ H1 fun vs H2=>sp (x::(vs++dvs)) H2 Q E
def tMake (C:Addr) (sp:Sp) (dvs:List V) (E:XK) (t:TA):TE:=fun σ H Q=>t σ H fun vs H1=>∀ x dx,H1 x=none->H1 dx=none->dx≠x ->
 sp (.ref x::(vs++dvs)) (upd (upd H1 dx (.own x)) x (.ins C dx [])) (fun v H2=>v=.non/\Q (.ref x) H2) E
def Binds (K:PySem.W.Frag) (fd:FuncData) (ps:List Str) (ds:List Value):Prop :=
 ∀ (s:Shared) (us:List Value),K.In s.heap->(us++ds).length=ps.length->BindsTo s fd ⟨us,[]⟩ (ps.zip (us++ds))
theorem Binds.all {K:PySem.W.Frag} {fd:FuncData} {ps:List Str} (h:∀ us:List Value,us.length=ps.length->bindArgs fd ⟨us,[]⟩=pure (ps.zip us)):Binds K fd ps []:=fun s us _ hl=>by
 rw [List.append_nil] at hl ⊢
 exact .of_eq (h us hl)
def Passes (CX:CXT) (X:Cx) (E:XK):Prop:=∀ (pins:List (Addr×Obj)) (σ:St) (H:Hp) (s:Shared) (e:Value) (s':Shared),Inv X pins σ H s->CX X.stack H s E e s'->X.xe e s'
section
variable {X:Cx} {CX:CXT} {k:Nat} {f C:Addr} {fd:FuncData} {ps:List Str} {sp:Sp} {dvs:List V} {ds:List Value} {E:XK} {x m:Str} {p pos apos:Pos} {e o:Expr} {es:List Expr} {ta:TE} {t:TA}
theorem run_fn {pins:List (Addr×Obj)} {σ:St} {H:Hp} {s:Shared} {Q:VK} {us:List Value} {vs:List V} (F:FnOk X.prog X.w X.K X.mg X.base CX k f fd ps sp) (hr:Room k X.A) (hb:Binds X.K fd ps ds) (hd:Vals dvs ds) (hx:Passes CX X E)
  (I:Inv X pins σ H s) (r:Vals vs us) (h:sp (vs++dvs) H Q E):wpAny (model X.prog X.w) X.A (call (.ref f) us) (EP X pins σ Q) X.xe s:=by
 have r2:Vals (vs++dvs) (us++ds):=r.append hd
 have hl:(us++ds).length=ps.length:=by rw [<- r2.length];exact F.len _ _ _ _ h
 refine wpAny_call (codeAny_mono (F.run X.A X.stack s H ⟨us,[]⟩ (us++ds) (vs++dvs) Q E hr I.env0 (hb s us I.kIn hl) r2 h) fun r s' hq=>?_)
 cases r with
 | error e=>exact hx pins σ H s e s' I hq
 | ok fl =>
  cases fl with
  | ret u=>exact I.after hq
  | next=>exact False.elim hq
  | brk=>exact False.elim hq
  | cont=>exact False.elim hq
theorem jg (F:FnOk X.prog X.w X.K X.mg X.base CX k f fd ps sp) (hr:Room k X.A) (hg:Gl X x) (hm:X.mg x=some (.ref f)) (hk:PySem.W.keepIn X.K (.ref f)=true) (hb:Binds X.K fd ps ds) (hd:Vals dvs ds) (hx:Passes CX X E)
  (ha:PA X (e::es) t) (hdb:(x==("__debug__" : Str))=false:=by decide) (he:starEach (e::es) X.env=(false,eval e X.env)::starEach es X.env:=by rfl) (hpl:(backTo pos (starEach es X.env)).any (·.1)=false:=by rfl) :
  PE X (.Call (.Name x p) (e::es) [] pos) (tCall sp dvs E t):=by
 intro pins s σ H Q I h
 refine wpAny_Call_Name_kw (ll I hg hm ?_ hdb)
 refine PySem.W.callWith_K (h₀:=X.base) I.ok.mod.kin hk (thn (ha pos pins s σ H _ I h) fun us s1 ⟨vs,H1,I1,r,q⟩=>⟨I1.kIn,?_⟩) he hpl
 exact run_fn F hr hb hd hx I1 r q
theorem qt {pl:Sem Bool} (he:PE X o ta) (c:Cls X.K C) (hm:Meth X.K C m f) (F:FnOk X.prog X.w X.K X.mg X.base CX k f fd ps sp) (hr:Room k X.A) (hb:Binds X.K fd ps ds) (hd:Vals dvs ds) (hx:Passes CX X E) (ha:PA X (e::es) t)
    (hst:starEach (e::es) X.env=(false,eval e X.env)::starEach es X.env:=by rfl) (hpl:(backTo pos (starEach es X.env)).any (·.1)=false:=by rfl)
    (ht:eval (.Call (.Attribute o m apos) (e::es) [] pos) X.env=(do
      let ov <- eval o X.env
      standAt apos.atName
      let (f,first) <- holding [ov] (getMethod ov m pl)
      callWith pos f first (backTo pos (starEach (e::es) X.env)) (backToKw pos (keywordEach [] X.env))):=by rfl) :
    PE X (.Call (.Attribute o m apos) (e::es) [] pos) (tMeth C m sp dvs E ta t):=by
  intro pins s σ H Q I h
  refine PySem.W.methodCall_KW (pl:=pl) (thn (he pins s σ H _ I h) fun u s1 ⟨x,H1,I1,rx,a,dx,fs,ex,ea,l,q⟩=>?_) ht
  subst ex
  obtain rfl:u=Value.ref a:=rx
  refine getmeth_ok I1 ea c hm l ?_
  refine PySem.W.callWith_K (first:=[.ref a]) (h₀:=X.base) I.ok.mod.kin hm.kp (thn (ha pos pins s1 σ H1 _ I1 q) fun us s2 ⟨vs,H2,I2,r,q2⟩=>⟨I2.kIn,?_⟩) hst hpl
  exact run_fn (us:=.ref a::us) (vs:=.ref a::vs) F hr hb hd hx I2 (.cons rfl r) q2
theorem nU {pl:Sem Bool} (he:PE X o ta) (c:Cls X.K C) (hm:Meth X.K C m f) (F:FnOk X.prog X.w X.K X.mg X.base CX k f fd ps sp) (hr:Room k X.A) (hb:Binds X.K fd ps ds) (hd:Vals dvs ds) (hx:Passes CX X E)
    (ht:eval (.Call (.Attribute o m apos) [] [] pos) X.env=(do
      let ov <- eval o X.env
      standAt apos.atName
      let (f,first) <- holding [ov] (getMethod ov m pl)
      callWith pos f first (backTo pos (starEach [] X.env)) (backToKw pos (keywordEach [] X.env))):=by rfl) :
    PE X (.Call (.Attribute o m apos) [] [] pos) (tMeth C m sp dvs E ta tNil):=by
  intro pins s σ H Q I h
  refine PySem.W.methodCall_KW (pl:=pl) (thn (he pins s σ H _ I h) fun u s1 ⟨x,H1,I1,rx,a,dx,fs,ex,ea,l,q⟩=>?_) ht
  subst ex
  obtain rfl:u=Value.ref a:=rx
  refine getmeth_ok I1 ea c hm l ?_
  exact PySem.W.callWith_K0 (first:=[.ref a]) I1.kIn hm.kp (run_fn (us:=[.ref a]) (vs:=[.ref a]) F hr hb hd hx I1 (.cons rfl .nil) q)
structure Mk (K:PySem.W.Frag) (C f:Addr):Prop where
 makes:PySem.W.makesIn K C=true
 init:PySem.W.findIn K (.ref C) "__init__" = some (some (.ref f))
 fn:PySem.W.isFn K (.ref f)=true
 kp:PySem.W.keepIn K (.ref C)=true
theorem run_make {pins:List (Addr×Obj)} {σ:St} {H:Hp} {s:Shared} {Q:VK} {us:List Value} {vs:List V} (M:Mk X.K C f) (F:FnOk X.prog X.w X.K X.mg X.base CX k f fd ps sp) (hr:Room (k+1) X.A) (hb:Binds X.K fd ps ds) (hd:Vals dvs ds)
  (hx:Passes CX X E) (I:Inv X pins σ H s) (r:Vals vs us)
  (h:∀ x dx,H x=none->H dx=none->dx≠x->sp (.ref x::(vs++dvs)) (upd (upd H dx (.own x)) x (.ins C dx [])) (fun v H2=>v=.non/\Q (.ref x) H2) E) :
  wpAny (model X.prog X.w) X.A (call (.ref C) us) (EP X pins σ Q) X.xe s:=by
 have hq:=h (s.heap.objs.size+1) s.heap.objs.size (I.hok.fresh (Nat.le_succ _)) (I.hok.fresh (Nat.le_refl _)) (Nat.ne_of_lt (Nat.lt_succ_self _))
 have I2:=Inv.made (C:=C) I
 have r2:Vals (V.ref (s.heap.objs.size+1)::(vs++dvs)) (Value.ref (s.heap.objs.size+1)::(us++ds)):=.cons rfl (r.append hd)
 have hl:(Value.ref (s.heap.objs.size+1)::us++ds).length=ps.length:=by
  have e:=r2.length
  rw [F.len _ _ _ _ hq] at e
  exact e.symm
 refine wpAny_call (make_map (f:=f) I.kIn M.makes M.init (beq_iff_eq.mp M.fn) (codeAny_mono (F.run _ X.stack _ _ ⟨Value.ref (s.heap.objs.size+1)::us,[]⟩ (Value.ref (s.heap.objs.size+1)::(us++ds)) _ _ E (hr.make C us [])
  (I2.env0.make C us []) (hb _ (Value.ref (s.heap.objs.size+1)::us) I2.kIn hl) r2 hq) fun r s' hq'=>?_))
 cases r with
 | error e=>exact hx pins σ _ _ e s' I2 hq'
 | ok fl =>
  cases fl with
  | ret u =>
   obtain ⟨v,H',I3,rv,ev,q3⟩:=I2.after hq'
   subst ev
   exact ⟨rv,⟨V.ref (s.heap.objs.size+1),H',I3,rfl,q3⟩⟩
  | next=>exact False.elim hq'
  | brk=>exact False.elim hq'
  | cont=>exact False.elim hq'
theorem mQ (M:Mk X.K C f) (F:FnOk X.prog X.w X.K X.mg X.base CX k f fd ps sp) (hr:Room (k+1) X.A) (hg:Gl X x) (hm:X.mg x=some (.ref C)) (hb:Binds X.K fd ps ds) (hd:Vals dvs ds) (hx:Passes CX X E)
  (ha:PA X (e::es) t) (hdb:(x==("__debug__" : Str))=false:=by decide) (he:starEach (e::es) X.env=(false,eval e X.env)::starEach es X.env:=by rfl) (hpl:(backTo pos (starEach es X.env)).any (·.1)=false:=by rfl) :
  PE X (.Call (.Name x p) (e::es) [] pos) (tMake C sp dvs E t):=by
 intro pins s σ H Q I h
 refine wpAny_Call_Name_kw (ll I hg hm ?_ hdb)
 refine PySem.W.callWith_K (h₀:=X.base) I.ok.mod.kin M.kp (thn (ha pos pins s σ H _ I h) fun us s1 ⟨vs,H1,I1,r,q⟩=>⟨I1.kIn,?_⟩) he hpl
 exact run_make M F hr hb hd hx I1 r q
end
section
variable {X:Cx} {CX:CXT} {k:Nat} {f C:Addr} {fd:FuncData} {ps ks:List Str} {sp:Sp} {E:XK} {x m:Str} {p pos apos kpos:Pos} {e o:Expr} {es:List Expr} {kws:List Keyword} {te ta:TE} {t tk:TA} {nm:Option Str}
variable {g:List Value->List Value->List Value} {gV:List V->List V->List V}
end
structure FnScope (N P:List Str) (sc:Scope):Prop where
 kind:sc.kind=.function
 co:sc.isCoroutine=false
 gen:sc.isGenerator=false
 nd:N.Nodup
 pre:N.take P.length=P
 par:∀ x∈P,sc.names.lookup x=some .local\/sc.names.lookup x=some .cell
 nofree:∀ y∈sc.names,y.2≠.free
theorem bindL_out {kindOf:Str->Option NameKind} {x:Str}:∀ {binds:List (Str×Value)} {m:Str->Option Value},(∀ v,(x,v)∉binds)->bindL kindOf binds m x=m x
 | [],_,_=>rfl
 | (n,v)::r,m,h=>by
  unfold bindL
  rw [bindL_out fun w hw=>h w (List.mem_cons_of_mem _ hw)]
  split
  ·have:x≠n:=by rintro rfl;exact h v List.mem_cons_self
   simp [this]
  ·rfl
theorem bindC_out {kindOf:Str->Option NameKind} {x:Str}:∀ {binds:List (Str×Value)} {m:Str->Option Value},(∀ v,(x,v)∉binds)->bindC kindOf binds m x=m x
 | [],_,_=>rfl
 | (n,v)::r,m,h=>by
  unfold bindC
  rw [bindC_out fun w hw=>h w (List.mem_cons_of_mem _ hw)]
  split
  ·rfl
  ·have:x≠n:=by rintro rfl;exact h v List.mem_cons_self
   simp [this]
theorem bindL_get {kindOf:Str->Option NameKind} {x:Str} {v:Value}:∀ {P:List Str} {vs:List Value} {i:Nat} {m:Str->Option Value},P.Nodup->P[i]?=some x->vs[i]?=some v->kindOf x=some .local ->
  bindL kindOf (P.zip vs) m x=some v
 | [],_,_,_,_,h,_,_=>by simp at h
 | _::_,[],_,_,_,_,h,_=>by simp at h
 | p::P,w::vs,0,m,nd,h1,h2,hk=>by
  simp at h1 h2;subst h1;subst h2
  show bindL kindOf ((p,w)::P.zip vs) m p=_
  unfold bindL
  rw [bindL_out fun v hv=>(List.nodup_cons.mp nd).1 (List.of_mem_zip hv).1,if_pos hk]
  simp
 | p::P,w::vs,i+1,m,nd,h1,h2,hk=>by
  show bindL kindOf ((p,w)::P.zip vs) m x=_
  unfold bindL
  exact bindL_get (i:=i) (List.nodup_cons.mp nd).2 (by simpa using h1) (by simpa using h2) hk
theorem bindC_get {kindOf:Str->Option NameKind} {x:Str} {v:Value}:∀ {P:List Str} {vs:List Value} {i:Nat} {m:Str->Option Value},P.Nodup->P[i]?=some x->vs[i]?=some v->kindOf x≠some .local ->
  bindC kindOf (P.zip vs) m x=some v
 | [],_,_,_,_,h,_,_=>by simp at h
 | _::_,[],_,_,_,_,h,_=>by simp at h
 | p::P,w::vs,0,m,nd,h1,h2,hk=>by
  simp at h1 h2;subst h1;subst h2
  show bindC kindOf ((p,w)::P.zip vs) m p=_
  unfold bindC
  rw [bindC_out fun v hv=>(List.nodup_cons.mp nd).1 (List.of_mem_zip hv).1,if_neg hk]
  simp
 | p::P,w::vs,i+1,m,nd,h1,h2,hk=>by
  show bindC kindOf ((p,w)::P.zip vs) m x=_
  unfold bindC
  exact bindC_get (i:=i) (List.nodup_cons.mp nd).2 (by simpa using h1) (by simpa using h2) hk
def start (N:List Str) (vs:List V):St:=vs.map some++List.replicate (N.length - vs.length) none
def cxOf (CX:CXT) (P:Program) (w:World) (K:PySem.W.Frag) (mg:Str->Option Value) (base:Heap) (N:List Str) (qual:Str) (scope:Scope) (f:Addr) (cd:Value) (A:Around) (outer:List Env) (s:Shared) (H:Hp) (E:XK):Cx where
 prog:=P
 w:=w
 K:=K
 mg:=mg
 base:=base
 A:=A.deeper (envOfC qual scope s.heap.objs.size f cd)
 N:=N
 s₀:=s
 H₀:=H
 env:=envOfC qual scope s.heap.objs.size f cd
 outer:=outer
 stack:=envOfC qual scope s.heap.objs.size f cd::outer
 ex:=[]
 calm:=true
 fn:=fun _=>true
 pn:=[]
 xe:=fun e s'=>wpAny (model P w) (A.deeper (envOfC qual scope s.heap.objs.size f cd)) (leaving (envOfC qual scope s.heap.objs.size f cd) e) (fun _ s''=>CX outer H s E e s'') (fun e' s''=>CX outer H s E e' s'') s'
theorem cell_has {sc:Scope} {n:Nat} {x:Str} (h:sc.names.lookup x=some .cell):∃ c,(cellsFrom n sc.names []).lookup x=some c:=by
 have q:=PySem.W.cellsFrom_some sc.names n [] (.inl h)
 exact Option.isSome_iff_exists.mp q
theorem inv_start {CX:CXT} {P:Program} {w:World} {K:PySem.W.Frag} {mg:Str->Option Value} {base:Heap} {N ps:List Str} {qual:Str} {scope:Scope} {f:Addr} {cd:Value} {A:Around} {outer:List Env} {s s1:Shared} {H:Hp} {E:XK} {us:List Value} {vs:List V}
  (S:FnScope N ps scope) (hd:A.handled=none) (e0:Env0 P w K mg base A outer s H) (hl:vs.length=ps.length) (r:Vals vs us)
  (x:InCallC s s.heap.objs.size (bindL (envOfC qual scope s.heap.objs.size f cd).kindOf (ps.zip us) fun _=>none) (cellsFrom (s.heap.objs.size+1) scope.names []) (bindC (envOfC qual scope s.heap.objs.size f cd).kindOf (ps.zip us) fun _=>none) s1) :
  Inv (cxOf CX P w K mg base N qual scope f cd A outer s H E) [] (start N vs) H s1:=by
 have hpl:ps.length<=N.length:=by have:=congrArg List.length S.pre;rw [List.length_take] at this;omega
 obtain ⟨h1,tk,rfl,hk⟩:=x.done
 have noA:∀ b:Addr,b∉(cxOf CX P w K mg base N qual scope f cd A outer s H E).ex:=fun b z=>absurd (show b∈([]:List Addr) from z) (by simp)
 refine ⟨⟨e0.mod,S.kind,rfl,rfl,Nat.le_refl _,fun y z c h1 h2=>?_,fun y hy=>?_,fun y c _ h=>?_,fun _=>hd,Around.frames_deeper e0.frames,.inr ⟨rfl,rfl⟩,fun b z=>absurd z (noA b),e0.bs,e0.bsz,fun b _ _=>noA b,fun b z=>absurd z (noA b),e0.funs,e0.frf⟩,
  rfl,e0.bare,Un.kept hk,⟨_,x.toInCall.ns,fun i y v h1 h2 h3=>?_⟩,fun y c h=>⟨_,x.cell y c h⟩,e0.hok.fresh (Nat.le_refl _),fun y c h=>?_,fun p hp=>absurd (show p∈([]:List (Addr×Obj)) from hp) (by simp),e0.hok.kept hk,?_⟩
 ·exact name_of_addr x.apart (PySem.mem_of_lookup h1) (PySem.mem_of_lookup h2)
 ·have hy:scope.names.lookup y=some .cell\/scope.names.lookup y=some .free:=hy
  rcases hy with hy | hy
  ·exact cell_has hy
  ·exact absurd rfl (S.nofree _ (PySem.mem_of_lookup hy))
 ·exact Nat.le_of_lt (x.above y c (PySem.mem_of_lookup h))
 ·have hi:i<vs.length:=by
   unfold start at h2
   by_cases hi:i<vs.length
   ·exact hi
   ·rw [List.getElem?_append_right (by simpa using hi)] at h2
    rw [List.getElem?_replicate] at h2
    split at h2<;>cases h2
  have ha:vs[i]?=some v:=by
   unfold start at h2
   rw [List.getElem?_append_left (by simpa using hi),List.getElem?_map] at h2
   cases e:vs[i]? with
   | none=>rw [e] at h2;cases h2
   | some a=>rw [e] at h2;cases h2;rfl
  obtain ⟨u,hu,rv⟩:=r.get ha
  have hp:ps[i]?=some y:=by
   rw [<- S.pre,List.getElem?_take_of_lt (by omega)];exact h1
  have ndP:ps.Nodup:=by rw [<- S.pre];exact S.nd.sublist (List.take_sublist _ _)
  refine ⟨u,rv,?_⟩
  rcases S.par y (List.mem_of_getElem? hp) with k | k
  ·exact .inl ⟨k,bindL_get ndP hp hu k⟩
  ·obtain ⟨c,e⟩:=cell_has (n:=s.heap.objs.size+1) k
   refine .inr ⟨.inl k,c,e,?_⟩
   have q:=x.cell y c e
   rw [bindC_get ndP hp hu (by show scope.names.lookup y≠_;rw [k];decide)] at q
   exact q
 ·exact e0.hok.fresh (Nat.le_of_lt (x.above y c (PySem.mem_of_lookup h)))
 ·unfold start
  show _=N.length
  rw [List.length_append,List.length_map,List.length_replicate]
  omega
theorem vo {CX:CXT} {P:Program} {w:World} {K:PySem.W.Frag} {mg:Str->Option Value} {base:Heap} {k:Nat} {f:Addr} {name qual:Str} {params:Arguments} {body:List Stmt} {scope:Scope} {dV kV doc pm cdv ct oc:Value} {an od:Option Addr}
    {osl:Array (Option Value)} {N ps:List Str} {sp:Sp} (lk:K.lookup f=some ⟨oc,od,.func (PySem.W.fnOf name qual params body scope dV kV doc pm an cdv ct),osl⟩) (hcd:PySem.W.codeIn K cdv qual=true) (S:FnScope N ps scope)
    (len:∀ vs H Q E,sp vs H Q E->vs.length=ps.length)
    (hbody:∀ (A:Around) (outer:List Env) (s:Shared) (H:Hp) (vs:List V) (Q:VK) (E:XK),Room k (A.deeper (envOfC qual scope s.heap.objs.size f cdv))->sp vs H Q E ->
      ∃ t,PSs (cxOf CX P w K mg base N qual scope f cdv A outer s H E) body t/\t {nx:=fun _ H'=>Q .non H',rt:=Q} (start N vs) H) :
    FnOk P w K mg base CX (k+1) f (PySem.W.fnOf name qual params body scope dV kV doc pm an cdv ct) ps sp:=by
  refine ⟨len,fun A outer s H args us vs Q E hr e0 hb r hsp=>?_⟩
  have hl:=len _ _ _ _ hsp
  have KX:K.In s.heap:=e0.mod.kin.keeps fun b o e=>(e0.bs b o e).1
  have lim:s.heap.NoLimit:=e0.mod.nolimit.keeps fun b o e=>(e0.bs b o e).1
  have hkind:∀ y∈ps.zip us,scope.names.lookup y.1=some .local\/(scope.names.lookup y.1=some .cell/\((cellsFrom (s.heap.objs.size+1) scope.names []).lookup y.1).isSome=true):=fun ⟨n,v⟩ hy=>by
    rcases S.par n (List.of_mem_zip hy).1 with q | q
    · exact .inl q
    · exact .inr ⟨q,PySem.W.cellsFrom_some _ _ _ (.inl q)⟩
  refine codeAny_call_function hr.depth (KX _ _ lk) rfl S.co S.gen rfl (PySem.W.codeRec_of KX hcd) (hb _ _ _ _ ?_)
  refine wpAny_newFunctionEnv_cells S.kind hkind fun env he s1 x=>?_
  subst he
  refine ⟨lim.keeps x.toInCall.keep,codeAny_func ?_⟩
  obtain ⟨t,ht,hq⟩:=hbody A outer s H vs Q E (hr.deeper _) hsp
  have I:Inv (cxOf CX P w K mg base N qual scope f cdv A outer s H E) [] (start N vs) H s1:=inv_start S hr.hd e0 hl r x
  refine wpAny_mono (ht [] s1 (start N vs) H _ I hq) (fun fl s' hs=>?_) fun e s' hs=>hs
  have fin:∀ {σ':St} {H':Hp} {v:V} {u:Value},Inv (cxOf CX P w K mg base N qual scope f cdv A outer s H E) [] σ' H' s'->RelV v u->Q v H'->CE outer P w H s Q u s' :=
    fun {σ' H' v u} J rv q=>⟨v,H',J.os,J.bare,J.base,J.hok,rv,q⟩
  cases fl with
  | ret u =>
    obtain ⟨v,σ',H',J,rv,q⟩:=hs
    exact fin J rv q
  | next =>
    obtain ⟨σ',H',J,q⟩:=hs
    exact fin (v:=V.non) (u:=Value.none) J rfl q
  | brk =>
    obtain ⟨_,_,_,q⟩:=hs
    exact False.elim q
  | cont =>
    obtain ⟨_,_,_,q⟩:=hs
    exact False.elim q
end L2
namespace L2
open PySem PySem.Spec PyProof.Rows
section
variable {X:Cx} {x:Str} {p pos:Pos} {e:Expr} {es:List Expr} {t:TA} {id T:String} {r:List V->Hp->VK->Prop}
def tCB (r:List V->Hp->VK->Prop) (t:TA):TE:=fun σ H Q=>t σ H fun vs H1=>r vs H1 Q
theorem sk (hc:CallR X (.builtin id) r) (hg:Gl X x) (hm:X.mg x=none) (hv:bootBuiltins x=some (.builtin id)) (ha:PA X (e::es) t) (hn:x ≠ "__name__":=by decide) (hdb:(x==("__debug__" : Str))=false:=by decide)
  (he:starEach (e::es) X.env=(false,eval e X.env)::starEach es X.env:=by rfl) (hpl:(backTo pos (starEach es X.env)).any (·.1)=false:=by rfl):PE X (.Call (.Name x p) (e::es) [] pos) (tCB r t):=by
 intro pins s σ H Q I h
 refine wpAny_Call_Name_kw (eZ I hg hm hv ?_ hn hdb)
 exact PyProof.Rows.callWith_builtin1 (thn (ha pos pins s σ H _ I h) fun us s1 ⟨vs,H1,I1,r1,q1⟩=>hc pins s1 σ H1 vs us Q I1 r1 q1) he hpl
theorem qS (hc:CallR X (.type T) r) (hg:Gl X x) (hm:X.mg x=none) (hv:bootBuiltins x=some (.type T)) (ha:PA X (e::es) t) (hn:x ≠ "__name__":=by decide) (hdb:(x==("__debug__" : Str))=false:=by decide)
  (he:starEach (e::es) X.env=(false,eval e X.env)::starEach es X.env:=by rfl) (hpl:(backTo pos (starEach es X.env)).any (·.1)=false:=by rfl):PE X (.Call (.Name x p) (e::es) [] pos) (tCB r t):=by
 intro pins s σ H Q I h
 refine wpAny_Call_Name_kw (eZ I hg hm hv ?_ hn hdb)
 exact PyProof.Rows.callWith_type1 (thn (ha pos pins s σ H _ I h) fun us s1 ⟨vs,H1,I1,r1,q1⟩=>hc pins s1 σ H1 vs us Q I1 r1 q1) he hpl
end
end L2
namespace HT
open PySem PyProof.Rows
section
open PySem.SeqAt
open PySem.AutoSeq1 (wpAny_loadPart')
open PySem.MeetsSeq PySem.MeetsSeq2 PySem.MeetsSeq3
end
section
variable {prog:Program} {w:World} {A:Around} {E:Value->Shared->Prop} {s:Shared}
theorem cat_tup {t b:Addr} {vs ws:List Value} {Q:Value->Shared->Prop} (ht:IsTup s.heap t vs.toArray) (hb:IsTup s.heap b ws.toArray) (hv:vs ≠ [])
  (h1:ws=[]->Q (.ref t) s) (h2:ws ≠ []->Q (.ref s.heap.objs.size) {s with heap:=s.heap.push {cls:=.type "tuple",data:=.seq (vs++ws).toArray} })
  (hsz:vs.length+ws.length<=sizeLine):wpAny (model prog w) A (binaryOp .Add (.ref t) (.ref b)) Q E s:=by
 obtain ⟨⟨cls,dd,data,sl⟩,ho,hc,n,hd⟩:=id ht
 obtain ⟨⟨cls2,dd2,data2,sl2⟩,ho2,hc2,n2,hd2⟩:=id hb
 simp only at hc hd hc2 hd2
 subst hc hd hc2 hd2
 have e:vs.toArray++ws.toArray=(vs++ws).toArray:=by simp
 by_cases hw:ws=[]
 ·exact concat_meets ⟨_,ho,rfl⟩ ⟨_,ho2,rfl⟩ noFill_tuple_add seq_tuple_add PySem.F.slot_tuple_add PySem.F.entry_tuple_add (PySem.F.args_tuple_add_2 _ _)
   (tuple_addW1 t b vs.toArray ws.toArray n n2 dd dd2 sl sl2 (by simpa using hv) (by simp [hw])) ⟨ho,ho2,h1 hw⟩
 ·refine concat_meets ⟨_,ho,rfl⟩ ⟨_,ho2,rfl⟩ noFill_tuple_add seq_tuple_add PySem.F.slot_tuple_add PySem.F.entry_tuple_add (PySem.F.args_tuple_add_2 _ _)
   (tuple_addW2 t b vs.toArray ws.toArray n n2 dd dd2 sl sl2 (by simpa using hv) (by simpa using hw) (by rw [List.size_toArray,List.size_toArray];exact hsz)) ⟨ho,ho2,?_⟩
  rw [e]
  exact h2 hw
def sIx (n d:Nat):Option Int->Nat
 | none=>d
 | some v=>if v<0 then (v+(n:Int)).toNat else min v.toNat n
theorem sIx_le (n d:Nat) (hd:d<=n) (o:Option Int):sIx n d o<=n:=by
 cases o with
 | none=>exact hd
 | some v =>
  show (if v<0 then (v+(n:Int)).toNat else min v.toNat n)<=n
  by_cases hv:v<0
  ·rw [if_pos hv];omega
  ·rw [if_neg hv];exact Nat.min_le_right _ _
theorem clip_eq (v:Int) (n d:Nat):(if v<0 then max (v+(n:Int)) 0 else min v (n:Int))=((sIx n d (some v):Nat):Int):=by
 show (if v<0 then max (v+(n:Int)) 0 else min v (n:Int))=(((if v<0 then (v+(n:Int)).toNat else min v.toNat n):Nat):Int)
 by_cases hv:v<0
 ·simp only [if_pos hv];omega
 ·simp only [if_neg hv];omega
theorem adjust_gen (lo hi:Option Int) (n:Nat):Builtin.Slice.sliceAdjust lo hi 1 (n:Int)=(((sIx n 0 lo:Nat):Int),((sIx n n hi:Nat):Int)):=by
 have h1:¬ ((1:Int)<0):=by omega
 unfold Builtin.Slice.sliceAdjust
 simp only [h1,if_false]
 refine Prod.ext ?_ ?_
 ·cases lo with
  | none=>rfl
  | some v=>exact clip_eq v n 0
 ·cases hi with
  | none=>rfl
  | some v=>exact clip_eq v n n
theorem places_gen (i j:Nat):Builtin.Slice.slicePlaces (i:Int) (j:Int) 1=j - i:=by
 unfold Builtin.Slice.slicePlaces
 have h1:(1:Int) > 0:=by omega
 simp only [h1,if_true,Int.ediv_one]
 split<;>omega
theorem slicePart_ {v:Value} {o:Option Int} {Q:Option Int->Shared->Prop} (p:IsPart v o) (h:Q o s):wpAny (model prog w) A (Builtin.Slice.slicePartIndex v) Q E s:=by
 cases p with
 | none=>exact slicePart_none h
 | int i t=>exact slicePart_int h
theorem sliceApplied_gen {sl:Addr} {vl vu:Value} {lo hi:Option Int} {n:Nat} {Q:Int×Int×Nat->Shared->Prop} (hs:s.heap.IsSliceOf sl vl vu .none) (pl:IsPart vl lo) (pu:IsPart vu hi)
  (h:Q (((sIx n 0 lo:Nat):Int),1,sIx n n hi - sIx n 0 lo) s):wpAny (model prog w) A (Builtin.Slice.sliceApplied (.ref sl) (pure (n:Int))) Q E s:=by
 obtain ⟨os,hos,hcs,hds⟩:=id hs
 unfold Builtin.Slice.sliceApplied Builtin.Slice.sliceFields
 refine wpAny_bind (wpAny_bind (wpAny_field hos hds (x:=vl) rfl (wpAny_bind (wpAny_field hos hds (x:=vu) rfl (wpAny_bind (wpAny_field hos hds (x:=.none) rfl (wpAny_pure ?_)))))))
 refine wpAny_bind (slicePart_none ?_)
 show wpAny _ _ (if ((1:Int)==0)=true then _ else _) _ _ s
 rw [if_neg (by decide)]
 refine wpAny_bind (slicePart_ pl (wpAny_bind (slicePart_ pu (wpAny_bind (wpAny_pure ?_)))))
 show wpAny _ _ (match Builtin.Slice.sliceAdjust lo hi 1 (n:Int) with | (lo,hi)=>pure (lo,(1:Int),Builtin.Slice.slicePlaces lo hi 1)) _ _ s
 rw [adjust_gen lo hi n]
 show wpAny _ _ (pure (((sIx n 0 lo:Nat):Int),(1:Int),Builtin.Slice.slicePlaces ((sIx n 0 lo:Nat):Int) ((sIx n n hi:Nat):Int) 1)) _ _ s
 rw [places_gen]
 exact wpAny_pure h
theorem pick_gen (xs:Array Value) (i k:Nat):((List.range k).filterMap fun (m:Nat)=>xs[((i:Int)+(m:Int)*1).toNat]?).toArray=((xs.toList.drop i).take k).toArray:=by
 have e:(fun (m:Nat)=>xs[((i:Int)+(m:Int)*1).toNat]?)=fun m=>xs[i+m]?:=by
  funext m
  have:((i:Int)+(m:Int)*1).toNat=i+m:=by omega
  rw [this]
 rw [e]
 have:=pick_run xs i k
 rw [List.filterMap_map] at this
 have e2:((fun x=>xs[x]?) ∘ fun x=>i+x)=fun m=>xs[i+m]?:=rfl
 rw [e2] at this
 rw [this]
theorem getItem_tuple_cut {t sl:Addr} {items:Array Value} {vl vu:Value} {lo hi:Option Int} {Q:Value->Shared->Prop} (ht:IsTup s.heap t items) (hs:s.heap.IsSliceOf sl vl vu .none) (pl:IsPart vl lo) (pu:IsPart vu hi)
  (hw:¬ (sIx items.size 0 lo=0/\sIx items.size items.size hi=items.size))
  (h:Q (.ref s.heap.objs.size) {s with heap:=s.heap.push {cls:=.type "tuple",data:=.seq ((items.toList.drop (sIx items.size 0 lo)).take (sIx items.size items.size hi - sIx items.size 0 lo)).toArray} })
  (hsz:items.size<=sizeLine):wpAny (model prog w) A (getItem (.ref t) (.ref sl)) Q E s:=by
 have htake:sizeOk (.seq ((items.toList.drop (sIx items.size 0 lo)).take (sIx items.size items.size hi - sIx items.size 0 lo)).toArray):=by
  show ((items.toList.drop (sIx items.size 0 lo)).take (sIx items.size items.size hi - sIx items.size 0 lo)).toArray.size<=sizeLine
  rw [List.size_toArray,List.length_take,List.length_drop,Array.length_toList]
  omega
 have hj:sIx items.size items.size hi<=items.size:=sIx_le _ _ (Nat.le_refl _) hi
 obtain ⟨os,hos,hcs,hds⟩:=id hs
 have hTs:s.TypeIs (.ref sl) "slice":=⟨os,hos,hcs⟩
 unfold getItem
 try with_reducible refine wpAny_holding ?_
 first | refine wpAny_bind (wpAny_pure ?_) | skip
 refine wpAny_bind (wpAny_sequenceKey ht.typeIs (by decide) ?_)
 refine wpAny_bind (wpAny_callSpecial?_slot (name:=Str.ofString "__getitem__") ht.typeIs PyProof.Rows.slot_tuple_getitem
  (wpAny_call_entry PyProof.Rows.slot_tuple_getitem ht.typeIs entry_tuple_getitem ?_ (args_tuple_getitem _ _)))
 show wpAny _ _ (Builtin.Tuple.tupleItemsOf (.ref t) >>= _) _ _ s
 refine wpAny_bind (tupleItemsOf_ ht ?_)
 refine wpAny_bind (wpAny_typeOf hTs ?_)
 rw [if_pos (by decide)]
 refine wpAny_bind (sliceApplied_gen hs pl pu ?_)
 have hno:¬ ((((sIx items.size 0 lo:Nat):Int)==0&&(1:Int)==1&&(sIx items.size items.size hi - sIx items.size 0 lo)==items.size)=true):=by
  intro q
  rw [Bool.and_eq_true,Bool.and_eq_true] at q
  have q1:((sIx items.size 0 lo:Nat):Int)=0:=eq_of_beq q.1.1
  have q2:sIx items.size items.size hi - sIx items.size 0 lo=items.size:=eq_of_beq q.2
  exact hw ⟨by omega,by omega⟩
 show wpAny _ _ (if (((sIx items.size 0 lo:Nat):Int)==0&&(1:Int)==1&&(sIx items.size items.size hi - sIx items.size 0 lo)==items.size)=true then _ else _) _ _ s
 rw [if_neg hno,pick_gen]
 first
  | exact wpAny_bind (m:=Builtin.Tuple.tupleExact _) (wpAny_newObj_type (wpAny_pure ⟨_,rfl,wpAny_pure h⟩) htake)
  | exact wpAny_bind (m:=Builtin.Tuple.tupleExact _) (wpAny_newObj_type (wpAny_bind (wpAny_pure (wpAny_pure ⟨_,rfl,wpAny_pure h⟩))) htake)
  | exact wpAny_bind (wpAny_bind (m:=Builtin.Tuple.tupleExact _) (wpAny_newObj_type (wpAny_pure (wpAny_pure ⟨_,rfl,wpAny_pure h⟩)) htake))
  | exact wpAny_bind (wpAny_bind (m:=Builtin.Tuple.tupleExact _) (wpAny_newObj_type (wpAny_pure ⟨_,rfl,wpAny_pure h⟩) htake))
end
end HT
namespace L2
open PySem PySem.Spec PyProof.Rows
abbrev TO:=St->Hp->(Option Int->Hp->Prop)->Prop
def PO (X:Cx) (e:Option Expr) (t:TO):Prop :=
 ∀ (pins:List (Addr×Obj)) (s:Shared) (σ:St) (H:Hp) (Q:Option Int->Hp->Prop),Inv X pins σ H s->t σ H Q ->
  wpAny (model X.prog X.w) X.A (evalPart e X.env) (fun u s'=>∃ o H',Inv X pins σ H' s'/\IsPart u o/\Q o H') X.xe s
def tNoPart:TO:=fun _ H Q=>Q none H
def tPart (t:TE):TO:=fun σ H Q=>t σ H fun x H1=>∃ i,x=.int i/\Q (some i) H1
section
variable {X:Cx} {e:Expr} {te:TE} {lo hi:Option Expr} {tl th:TO} {pos p2:Pos}
theorem po_none:PO X none tNoPart:=by
 intro pins s σ H Q I h
 rw [evalPart_none]
 exact wpAny_pure ⟨none,H,I,.none,h⟩
theorem po_some (h:PE X e te):PO X (some e) (tPart te):=by
 intro pins s σ H Q I hw
 rw [evalPart_some]
 refine thn (h pins s σ H _ I hw) fun u s1 ⟨x,H1,I1,r1,q1⟩=>?_
 obtain ⟨i,rfl,q⟩:=q1
 obtain ⟨t,rfl⟩:=r1
 exact ⟨some i,H1,I1,.int i t,q⟩
def SlR (X:Cx) (r:V->Option Int->Option Int->Hp->VK->Prop):Prop :=
 ∀ (pins:List (Addr×Obj)) (s:Shared) (σ:St) (H:Hp) (x:V) (v vl vu:Value) (lo hi:Option Int) (sl:Addr) (Q:VK),Inv X pins σ H s->RelV x v->s.heap.IsSliceOf sl vl vu .none->IsPart vl lo->IsPart vu hi->r x lo hi H Q ->
  ∃ T id,typeLookup (.type T) "__getitem__" = pure (some (.builtin id))/\s.TypeIs v T/\wpAny (model X.prog X.w) X.A (getItem v (.ref sl)) (EP X pins σ Q) X.xe s
theorem SlR.or {r r':V->Option Int->Option Int->Hp->VK->Prop} (h:SlR X r) (h':SlR X r'):SlR X (fun x lo hi H Q=>r x lo hi H Q\/r' x lo hi H Q):=by
 intro pins s σ H x v vl vu lo hi sl Q I rx hs pl pu q
 rcases q with q | q
 ·exact h pins s σ H x v vl vu lo hi sl Q I rx hs pl pu q
 ·exact h' pins s σ H x v vl vu lo hi sl Q I rx hs pl pu q
def tSl (r:V->Option Int->Option Int->Hp->VK->Prop) (te:TE) (tl th:TO):TE:=fun σ H Q=>te σ H fun x H1=>tl σ H1 fun l H2=>th σ H2 fun u H3=>r x l u H3 Q
theorem oC {r:V->Option Int->Option Int->Hp->VK->Prop} (hr:SlR X r) (he:PE X e te) (hl:PO X lo tl) (hu:PO X hi th):PE X (.Subscript e (.Slice lo hi none p2) pos) (tSl r te tl th):=by
 intro pins s σ H Q I h
 refine Subscript_ (thn (he pins s σ H _ I h) fun v s1 ⟨x,H1,I1,r1,q1⟩=>?_)
 refine wpAny_Slice (thn (hl pins s1 σ H1 _ I1 q1) fun vl s2 ⟨l,H2,I2,pl,q2⟩=>thn (hu pins s2 σ H2 _ I2 q2) fun vu s3 ⟨u,H3,I3,pu,q3⟩=>?_)
 rw [evalPart_none]
 refine wpAny_pure ?_
 have I4:Inv X pins σ H3 {s3 with heap:=s3.heap.push {cls:=.type "slice",data:=.fields #[vl,vu,.none]} }:=I3.kept (t':=s3.toks) fun b ob q=>Heap.get?_push_of_some _ q
 obtain ⟨T,id,hT,ht,hg⟩:=hr pins {s3 with heap:=s3.heap.push {cls:=.type "slice",data:=.fields #[vl,vu,.none]} } σ H3 x v vl vu l u s3.heap.objs.size Q I4 r1 (Heap.IsSliceOf.new ..) pl pu q3
 show wpAny (model X.prog X.w) X.A (subscriptTail e (.Slice lo hi none p2) v (.ref s3.heap.objs.size)) (EP X pins σ Q) X.xe {s3 with heap:=s3.heap.push {cls:=.type "slice",data:=.fields #[vl,vu,.none]} }
 exact tail_any (ops:=[.ref s3.heap.objs.size,v]) ht hT hg (by with_unfolding_all rfl)
def cutV (xs:List V) (lo hi:Option Int):List V:=(xs.drop (HT.sIx xs.length 0 lo)).take (HT.sIx xs.length xs.length hi - HT.sIx xs.length 0 lo)
theorem cutV_length (xs:List V) (lo hi:Option Int):(cutV xs lo hi).length<=xs.length:=by
 unfold cutV
 rw [List.length_take,List.length_drop]
 omega
def rSlT (K:PySem.W.Frag):V->Option Int->Option Int->Hp->VK->Prop:=fun x lo hi H Q=>∃ a xs,x=.ref a/\SqT K H a xs /\
 ¬ (HT.sIx xs.length 0 lo=0/\HT.sIx xs.length xs.length hi=xs.length)/\∀ p,H p=none->Q (.ref p) (upd H p (.tup (cutV xs lo hi)))
theorem sl_tup:SlR X (rSlT X.K):=by
 intro pins s σ H x v vl vu lo hi sl Q I rx hs pl pu h
 obtain ⟨a,xs,rfl,hx,hw,q⟩:=h
 cases rx
 obtain ⟨its,r,ht,hz⟩:=I.tuple hx
 have hlen:its.toArray.size=xs.length:=by rw [List.size_toArray];exact r.length.symm
 refine ⟨"tuple",_,PyProof.Rows.slot_tuple_getitem.lookup,ht.typeIs,?_⟩
 refine HT.getItem_tuple_cut ht hs pl pu (by rw [hlen];exact hw) ?_ (by rw [hlen];exact hz)
 rw [hlen]
 refine ⟨.ref s.heap.objs.size,_,I.laid (t':=s.toks) (o:=.tup (cutV xs lo hi)) (fun b ob q=>Heap.get?_push_of_some _ q) (Nat.le_refl _) ?_,rfl,q _ (I.hok.fresh (Nat.le_refl _))⟩
 exact ⟨Nat.le_trans (cutV_length xs lo hi) hz,_,(r.drop (HT.sIx xs.length 0 lo)).take (HT.sIx xs.length xs.length hi - HT.sIx xs.length 0 lo),IsTupN.new _ _⟩
def rCatT (K:PySem.W.Frag):R2:=fun x y H Q=>∃ a b xs ys,x=.ref a/\y=.ref b/\SqT K H a xs/\SqT K H b ys/\xs ≠ []/\xs.length+ys.length<=sizeLine /\
 (ys=[]->Q (.ref a) H)/\(ys ≠ []->∀ p,H p=none->Q (.ref p) (upd H p (.tup (xs++ys))))
theorem Vals.nil_iff {xs:List V} {us:List Value} (r:Vals xs us):us=[]↔xs=[]:=by
 cases r with
 | nil=>simp
 | cons _ _=>simp
theorem op_catT:OpR X (binaryOp .Add) (rCatT X.K):=by
 intro pins s σ H x y v u Q I rx ry h
 obtain ⟨a,b,xs,ys,rfl,rfl,ha,hb,hx,hz,q1,q2⟩:=h
 cases rx
 cases ry
 obtain ⟨its,r1,p1,_⟩:=I.tuple ha
 obtain ⟨its2,r2,p2,_⟩:=I.tuple hb
 refine HT.cat_tup p1 p2 (fun z=>hx (r1.nil_iff.mp z)) (fun z=>⟨.ref a,H,I,rfl,q1 (r2.nil_iff.mp z)⟩) (fun z=>?_) (by rw [<- r1.length,<- r2.length];exact hz)
 refine ⟨.ref s.heap.objs.size,_,I.laid (t':=s.toks) (o:=.tup (xs++ys)) (fun b ob q=>Heap.get?_push_of_some _ q) (Nat.le_refl _) ?_,rfl,q2 (fun w=>z (r2.nil_iff.mpr w)) _ (I.hok.fresh (Nat.le_refl _))⟩
 exact ⟨by rw [List.length_append];exact hz,_,r1.append r2,IsTupN.new _ _⟩
end
end L2
namespace L2
open PySem PySem.Spec PyProof.Rows
def ixN (n:Nat) (i:Int):Option Nat:=if 0<=i then (if i<n then some i.toNat else none) else if -(n:Int)<=i then some (i+n).toNat else none
def atI {α:Type} (xs:List α) (i:Int):Option α:=(ixN xs.length i).bind fun j=>xs[j]?
theorem ixN_seq {n:Nat} {i:Int} {j:Nat} (h:ixN n i=some j):seqIndex? i n=some j/\j<n /\ -(n:Int)<=i/\i<n:=by
 unfold ixN at h
 by_cases h0:0<=i
 ·rw [if_pos h0] at h
  by_cases h1:i<n
  ·rw [if_pos h1] at h
   have e:i.toNat=j:=Option.some.inj h
   exact ⟨by rw [seqIndex_of h0 h1,e],by omega,by omega,h1⟩
  ·rw [if_neg h1] at h;cases h
 ·rw [if_neg h0] at h
  by_cases h1 : -(n:Int)<=i
  ·rw [if_pos h1] at h
   have e:(i+n).toNat=j:=Option.some.inj h
   exact ⟨by rw [seqIndex_neg (by omega) h1,e],by omega,h1,by omega⟩
  ·rw [if_neg h1] at h;cases h
theorem atI_get {α:Type} {xs:List α} {i:Int} {v:α} (h:atI xs i=some v):∃ j,seqIndex? i xs.length=some j/\xs[j]?=some v/\j<xs.length /\ -(xs.length:Int)<=i/\i<xs.length:=by
 unfold atI at h
 cases e:ixN xs.length i with
 | none=>rw [e] at h;cases h
 | some j =>
  rw [e] at h
  obtain ⟨h1,h2,h3,h4⟩:=ixN_seq e
  exact ⟨j,h1,h,h2,h3,h4⟩
def PlainIx (b:Expr):Prop:=∀ o i,subscripted b false o i=operate [o,i] (getItem o i)
def IxR (X:Cx) (r:R2):Prop :=
 ∀ (value slice:Expr) (pins:List (Addr×Obj)) (s:Shared) (σ:St) (H:Hp) (x y:V) (v u:Value) (Q:VK),Inv X pins σ H s->RelV x v->RelV y u->r x y H Q ->
  subscripted slice false v u=operate [v,u] (getItem v u)->wpAny (model X.prog X.w) X.A (subscriptTail value slice v u) (EP X pins σ Q) X.xe s
def MtR (X:Cx) (id:String) (r:V->List V->Hp->VK->Prop):Prop :=
 ∀ (pins:List (Addr×Obj)) (s:Shared) (σ:St) (H:Hp) (x:V) (xs:List V) (v:Value) (us:List Value) (Q:VK),Inv X pins σ H s->RelV x v->Vals xs us->r x xs H Q ->
  wpAny (model X.prog X.w) X.A (call (.builtin id) (v::us)) (EP X pins σ Q) X.xe s
section
variable {X:Cx} {a b:Expr} {ta tb:TE} {pos:Pos}
theorem IxR.or {r r':R2} (h:IxR X r) (h':IxR X r'):IxR X (fun x y H Q=>r x y H Q\/r' x y H Q):=by
 intro value slice pins s σ H x y v u Q I rx ry q hs
 rcases q with q | q
 ·exact h value slice pins s σ H x y v u Q I rx ry q hs
 ·exact h' value slice pins s σ H x y v u Q I rx ry q hs
theorem MtR.or {id:String} {r r':V->List V->Hp->VK->Prop} (h:MtR X id r) (h':MtR X id r'):MtR X id (fun x xs H Q=>r x xs H Q\/r' x xs H Q):=by
 intro pins s σ H x xs v us Q I rx rs q
 rcases q with q | q
 ·exact h pins s σ H x xs v us Q I rx rs q
 ·exact h' pins s σ H x xs v us Q I rx rs q
theorem uf {r:R2} (hr:IxR X r) (ha:PE X a ta) (hb:PE X b tb) (hs:PlainIx b):PE X (.Subscript a b pos) (tOp r ta tb):=by
 intro pins s σ H Q I h
 exact Subscript_ (binT ha hb I h fun v u s2 x y H2 I2 rx ry q=>hr a b pins s2 σ H2 x y v u Q I2 rx ry q (hs _ _))
def rIxL (K:PySem.W.Frag):R2:=fun x y H Q=>∃ p xs i v,x=.ref p/\y=.int i/\SqL K H p xs/\atI xs i=some v/\Q v H
def rIxT (K:PySem.W.Frag):R2:=fun x y H Q=>∃ p xs i v,x=.ref p/\y=.int i/\SqT K H p xs/\atI xs i=some v/\Q v H
def rIxS:R2:=fun x y H Q=>∃ z i c,x=.str z/\y=.int i/\z.length<=sizeLine/\atI z.cps.toList i=some c/\Q (.str ⟨#[c]⟩) H
theorem ix_list:IxR X (rIxL X.K):=by
 intro value slice pins s σ H x y v u Q I rx ry h hs
 obtain ⟨p,xs,i,z,rfl,rfl,hq,he,q⟩:=h
 cases rx
 obtain ⟨t,rfl⟩:=ry
 obtain ⟨its,r,pl,hz⟩:=I.list hq
 obtain ⟨j,h1,h2,h3,h4,h5⟩:=atI_get he
 obtain ⟨w,ew,rw'⟩:=r.get h2
 have hl:=r.length
 have hn:=line63
 have fin:EP X pins σ Q w s:=⟨z,H,I,rw',q⟩
 by_cases h0:0<=i
 ·have hj:i.toNat=j:=by
   rw [seqIndex_of h0 h5] at h1
   exact Option.some.inj h1
  exact item_listR pl.isList h0 (by omega) (by rw [hj];simpa using ew) fin hs
 ·have hj:(i+(its.toArray.size:Int)).toNat=j:=by
   rw [seqIndex_neg (by omega) h4] at h1
   rw [List.size_toArray,<- hl]
   exact Option.some.inj h1
  exact subscriptTail_builtinR (x:=w) pl.isList.typeIs slot_list_getitem.lookup
   (wpAny_getItem_list_neg (Q:=fun r s'=>r=w/\EP X pins σ Q r s') pl.isList (by omega) (by rw [List.size_toArray]<;>omega) (by omega) (by rw [hj];simpa using ew) ⟨rfl,fin⟩) hs
theorem ix_tup:IxR X (rIxT X.K):=by
 intro value slice pins s σ H x y v u Q I rx ry h hs
 obtain ⟨p,xs,i,z,rfl,rfl,hq,he,q⟩:=h
 cases rx
 obtain ⟨t,rfl⟩:=ry
 obtain ⟨its,r,pl,hz⟩:=I.tuple hq
 obtain ⟨j,h1,h2,h3,h4,h5⟩:=atI_get he
 obtain ⟨w,ew,rw'⟩:=r.get h2
 have hl:=r.length
 have hn:=line63
 have fin:EP X pins σ Q w s:=⟨z,H,I,rw',q⟩
 exact subscriptTail_builtinR (x:=w) pl.typeIs slot_tuple_getitem.lookup
  (getItem_tuple (j:=j) (Q:=fun r s'=>r=w/\EP X pins σ Q r s') pl (by omega) (by omega) (by rw [List.size_toArray,<- hl];exact h1) (by simpa using ew) ⟨rfl,fin⟩) hs
theorem ix_str:IxR X rIxS:=by
 intro value slice pins s σ H x y v u Q I rx ry h hs
 obtain ⟨z,i,c,rfl,rfl,hz,he,q⟩:=h
 obtain ⟨t,rfl⟩:=rx
 obtain ⟨t',rfl⟩:=ry
 obtain ⟨j,h1,h2,h3,h4,h5⟩:=atI_get he
 have hl:z.cps.toList.length=z.length:=by simp [Str.length]
 rw [hl] at h1 h4 h5
 have hn:=line63
 exact tail_any (typeIs_str s z t) slot_str_getitem.lookup (getItem_str (c:=c) (by
  have e1:decide (i < -(2 ^ 63:Int))=false:=decide_eq_false (by omega)
  have e2:decide (i ≥ 2 ^ 63)=false:=decide_eq_false (by omega)
  rw [e1,e2,Bool.or_false]) (by rw [h1];simpa using h2) ⟨.str ⟨#[c]⟩,H,I.tok _,⟨_,rfl⟩,q⟩) hs
theorem Inv.lst {pins:List (Addr×Obj)} {σ:St} {H:Hp} {s:Shared} {p:Addr} {xs:List V} (I:Inv X pins σ H s) (h:H p=some (.lst xs)) :
  ∃ (its:List Value) (n:Nat),Vals xs its/\s.heap.get? p=some {cls:=.type "list",data:=.seq its.toArray n}/\xs.length<=sizeLine:=by
 obtain ⟨z,its,n,r,e⟩:=I.hok p _ h
 exact ⟨its,n,r,e,z⟩
theorem slice_bounds (lo hi:Option Int) (n:Nat):(sliceBounds lo hi none n).1=((HT.sIx n 0 lo:Nat):Int)/\(sliceBounds lo hi none n).2.1=((HT.sIx n n hi:Nat):Int)/\(sliceBounds lo hi none n).2.2=1:=by
 refine ⟨?_,?_,rfl⟩
 ·cases lo with
  | none=>simp [sliceBounds,HT.sIx]
  | some i =>
   simp only [sliceBounds,HT.sIx,Option.getD_none,show (1:Int) > 0 by decide,if_true]
   by_cases h:i<0
   ·simp only [h,if_true]<;>omega
   ·simp only [h,if_false]<;>omega
 ·cases hi with
  | none=>simp [sliceBounds,HT.sIx]
  | some i =>
   simp only [sliceBounds,HT.sIx,Option.getD_none,show (1:Int) > 0 by decide,if_true]
   by_cases h:i<0
   ·simp only [h,if_true]<;>omega
   ·simp only [h,if_false]<;>omega
theorem slicePick_cut (its:List Value) (lo hi:Option Int):slicePick its.toArray lo hi none=((its.drop (HT.sIx its.length 0 lo)).take (HT.sIx its.length its.length hi - HT.sIx its.length 0 lo)).toArray:=by
 obtain ⟨h1,h2,h3⟩:=slice_bounds lo hi its.toArray.size
 unfold slicePick
 rw [h1,h2,h3]
 simp only [sliceRange_one,pick_run,List.size_toArray]<;>rfl
def rSlL (K:PySem.W.Frag):V->Option Int->Option Int->Hp->VK->Prop:=fun x lo hi H Q=>∃ a xs,x=.ref a/\SqL K H a xs/\∀ p,H p=none->Q (.ref p) (upd H p (.lst (cutV xs lo hi)))
theorem sl_list:SlR X (rSlL X.K):=by
 intro pins s σ H x v vl vu lo hi sl Q I rx hs pl pu h
 obtain ⟨a,xs,rfl,hx,q⟩:=h
 cases rx
 obtain ⟨its,r,ht,hz⟩:=I.list hx
 have hlen:=r.length
 refine ⟨"list",_,slot_list_getitem.lookup,ht.isList.typeIs,?_⟩
 refine wpAny_getItem_list_slice ht.isList hs pl pu .none (by simp) ?_ (by rw [List.size_toArray]<;>omega)
 rw [slicePick_cut,<- hlen]
 refine ⟨.ref s.heap.objs.size,_,I.laid (t':=s.toks) (o:=.lst (cutV xs lo hi)) (fun b ob q=>Heap.get?_push_of_some _ q) (Nat.le_refl _) ?_,rfl,q _ (I.hok.fresh (Nat.le_refl _))⟩
 exact ⟨Nat.le_trans (cutV_length xs lo hi) hz,_,0,(r.drop (HT.sIx xs.length 0 lo)).take (HT.sIx xs.length xs.length hi - HT.sIx xs.length 0 lo),Heap.get?_push_size _ rfl⟩
def flatV:V->Bool
 | .non=>true
 | .bl _=>true
 | .int _=>true
 | .str _=>true
 | _=>false
def eqV:V->V->Bool
 | .non,.non=>true
 | .bl a,.bl b=>a==b
 | .bl a,.int b=>(if a then 1 else 0)==b
 | .int a,.bl b=>a==(if b then 1 else 0)
 | .int a,.int b=>a==b
 | .str a,.str b=>a==b
 | _,_=>false
theorem eqAt_V {A:Around} {s:Shared} {y x:V} {u v:Value} (ry:RelV y u) (rx:RelV x v) (fy:flatV y=true) (fx:flatV x=true):SeqAt.EqAt A s u v (eqV y x):=by
 cases y with
 | non =>
  cases ry
  cases x with
  | non=>cases rx;exact SeqAt.EqAt.same _
  | bl b=>cases rx;exact SeqAt.EqAt.none_bool b
  | int b=>obtain ⟨t,rfl⟩:=rx;exact SeqAt.EqAt.none_int b t
  | str b=>obtain ⟨t,rfl⟩:=rx;exact SeqAt.EqAt.none_str b t
  | _=>exact absurd (show false=true from fx) Bool.false_ne_true
 | bl a =>
  cases ry
  cases x with
  | non=>cases rx;exact SeqAt.EqAt.bool_none a
  | bl b=>cases rx;exact SeqAt.EqAt.bool_bool a b
  | int b=>obtain ⟨t,rfl⟩:=rx;exact SeqAt.EqAt.bool_int a b t
  | str b=>obtain ⟨t,rfl⟩:=rx;exact SeqAt.EqAt.bool_str a b t
  | _=>exact absurd (show false=true from fx) Bool.false_ne_true
 | int a =>
  obtain ⟨t',rfl⟩:=ry
  cases x with
  | non=>cases rx;exact SeqAt.EqAt.int_none a t'
  | bl b=>cases rx;exact SeqAt.EqAt.int_bool a t' b
  | int b=>obtain ⟨t,rfl⟩:=rx;exact SeqAt.EqAt.int_int a t' b t
  | str b=>obtain ⟨t,rfl⟩:=rx;exact SeqAt.EqAt.int_str a t' b t
  | _=>exact absurd (show false=true from fx) Bool.false_ne_true
 | str a =>
  obtain ⟨t',rfl⟩:=ry
  cases x with
  | non=>cases rx;exact SeqAt.EqAt.str_none a t'
  | bl b=>cases rx;exact SeqAt.EqAt.str_bool a t' b
  | int b=>obtain ⟨t,rfl⟩:=rx;exact SeqAt.EqAt.str_int a t' b t
  | str b=>obtain ⟨t,rfl⟩:=rx;exact SeqAt.EqAt.str_str a t' b t
  | _=>exact absurd (show false=true from fx) Bool.false_ne_true
 | _=>exact absurd (show false=true from fy) Bool.false_ne_true
def eqU (x:V) (u:Value):Bool:=match u with
 | .none=>eqV .non x
 | .bool b=>eqV (.bl b) x
 | .int i _=>eqV (.int i) x
 | .str z _=>eqV (.str z) x
 | _=>false
theorem eqU_of {x y:V} {u:Value} (r:RelV y u) (f:flatV y=true):eqU x u=eqV y x:=by
 cases y with
 | non=>cases r;rfl
 | bl b=>cases r;rfl
 | int i=>obtain ⟨t,rfl⟩:=r;rfl
 | str z=>obtain ⟨t,rfl⟩:=r;rfl
 | _=>exact absurd (show false=true from f) Bool.false_ne_true
theorem any_eqU {x:V}:∀ {xs:List V} {us:List Value},Vals xs us->xs.all flatV=true->us.any (eqU x)=xs.any fun y=>eqV y x
 | _,_,.nil,_=>rfl
 | y::xs,u::us,.cons r t,f=>by
  rw [List.all_cons,Bool.and_eq_true] at f
  rw [List.any_cons,List.any_cons,eqU_of r f.1,any_eqU t f.2]
theorem j2 {A:Around} {s:Shared} {x:V} {v:Value} (rx:RelV x v) (fx:flatV x=true):∀ {xs:List V} {us:List Value},Vals xs us->xs.all flatV=true->∀ u∈us,SeqAt.EqAt A s u v (eqU x u)
 | _,_,.nil,_=>fun u hu=>by cases hu
 | y::xs,u::us,.cons r t,f=>fun u' hu=>by
  rw [List.all_cons,Bool.and_eq_true] at f
  rcases List.mem_cons.mp hu with rfl | hu
  ·rw [eqU_of r f.1];exact eqAt_V r rx f.1 fx
  ·exact j2 rx fx t f.2 u' hu
def inV (x:V) (xs:List V):Bool:=xs.any fun y=>eqV y x
def rIn (K:PySem.W.Frag) (neg:Bool):R2:=fun x y H Q=>∃ p xs,y=.ref p/\(SqL K H p xs\/SqT K H p xs)/\flatV x=true/\xs.all flatV=true/\Q (.bl (if neg then !inV x xs else inV x xs)) H
theorem op_in_seq:OpR X (compareOp .In) (rIn X.K false):=by
 intro pins s σ H x y v u Q I rx ry h
 obtain ⟨p,xs,rfl,hq,fx,fs,q⟩:=h
 cases ry
 rcases hq with hq | hq
 ·obtain ⟨its,r,pl,hz⟩:=I.list hq
  refine SeqAt.in_listAt (eqU x) pl.isList (fun w hw=>j2 rx fx r fs w (by simpa using hw)) ⟨.bl _,H,I,rfl,?_⟩
  rw [show its.toArray.any (eqU x)=its.any (eqU x) by simp,any_eqU r fs]
  exact q
 ·obtain ⟨its,r,pl,hz⟩:=I.tuple hq
  refine SeqAt.in_tupleAt (eqU x) pl (fun w hw=>j2 rx fx r fs w (by simpa using hw)) ⟨.bl _,H,I,rfl,?_⟩
  rw [show its.toArray.any (eqU x)=its.any (eqU x) by simp,any_eqU r fs]
  exact q
theorem call_len_seq:CallR X (.builtin "len") (fun xs H Q=>∃ p ys,xs=[.ref p]/\(SqL X.K H p ys\/SqT X.K H p ys)/\Q (.int ys.length) H):=by
 intro pins s σ H xs us Q I r h
 obtain ⟨p,ys,rfl,hq,q⟩:=h
 obtain ⟨u,rfl,rx⟩:=vals1 r
 cases rx
 have hn:=line63
 rcases hq with hq | hq
 ·obtain ⟨its,r',pl,hz⟩:=I.list hq
  have hlen:=r'.length
  exact Calls.call_len_list pl.isList (by simp only [List.size_toArray]<;>omega) ⟨.int ys.length,H,I.tok _,⟨s.toks+1,by rw [List.size_toArray,hlen]⟩,q⟩
 ·obtain ⟨its,r',pl,hz⟩:=I.tuple hq
  have hlen:=r'.length
  exact len_tuple pl (by simp only [List.size_toArray]<;>omega) ⟨.int ys.length,H,I.tok _,⟨s.toks+1,by rw [List.size_toArray,hlen]⟩,q⟩
theorem call_len_str:CallR X (.builtin "len") (fun xs H Q=>∃ z,xs=[.str z]/\z.length<=sizeLine/\Q (.int z.length) H):=by
 intro pins s σ H xs us Q I r h
 obtain ⟨z,rfl,hz,q⟩:=h
 obtain ⟨u,rfl,t,rfl⟩:=vals1 r
 have hn:=line63
 exact len_str (by omega) ⟨.int z.length,H,I.tok _,⟨_,rfl⟩,q⟩
theorem CallR.or {f:Value} {r r':List V->Hp->VK->Prop} (h:CallR X f r) (h':CallR X f r'):CallR X f (fun xs H Q=>r xs H Q\/r' xs H Q):=by
 intro pins s σ H xs us Q I rs q
 rcases q with q | q
 ·exact h pins s σ H xs us Q I rs q
 ·exact h' pins s σ H xs us Q I rs q
theorem call_tuple_of:CallR X (.type "tuple") (fun xs H Q=>∃ p ys,xs=[.ref p]/\((SqL X.K H p ys/\∀ l,H l=none->Q (.ref l) (upd H l (.tup ys)))\/(SqT X.K H p ys/\Q (.ref p) H))):=by
 intro pins s σ H xs us Q I r h
 obtain ⟨p,ys,rfl,h⟩:=h
 obtain ⟨u,rfl,rx⟩:=vals1 r
 cases rx
 rcases h with ⟨hq,q⟩ | ⟨hq,q⟩
 ·obtain ⟨its,r',pl,hz⟩:=I.list hq
  have hlen:=r'.length
  refine call_tuple_list pl.isList (fun h' kp=>?_) (by simp only [List.size_toArray]<;>omega)
  have I1:Inv X pins σ H {s with heap:=h' }:=I.kept (t':=s.toks) kp
  have I2:Inv X pins σ (upd H h'.objs.size (.tup ys)) {s with heap:=h'.push {cls:=.type "tuple",data:=.seq its.toArray} } :=
   I1.laid (t':=s.toks) (fun b o e=>Heap.get?_push_of_some _ e) (Nat.le_refl _) (show ObjOk X.prog X.w _ _ _ (.tup ys) from ⟨hz,its,r',IsTupN.new _ _⟩)
  exact ⟨.ref h'.objs.size,_,I2,rfl,q _ (I1.hok.fresh (Nat.le_refl _))⟩
 ·obtain ⟨its,r',pl,hz⟩:=I.tuple hq
  exact call_tuple_same pl ⟨.ref p,H,I,rfl,q⟩
def tyV (K:PySem.W.Frag) (T:String) (x:V) (H:Hp):Prop:=match x with
 | .str _=>T = "str"
 | .int _=>T = "int"
 | .ref p=>(T = "list" /\ ∃ xs,SqL K H p xs)\/(T = "tuple" /\ ∃ o,K.lookup p=some o/\o.cls=.type "tuple" /\ o.dict=none) \/
   (T = "dict" /\ ((∃ kvs,H p=some (.dK kvs))\/∃ kvs,H p=some (.dT kvs)))\/(T = "set" /\ ∃ S n,H p=some (.set S n))
 | _=>False
theorem tyV_is {pins:List (Addr×Obj)} {σ:St} {H:Hp} {s:Shared} {T:String} {x:V} {v:Value} (I:Inv X pins σ H s) (r:RelV x v) (ty:tyV X.K T x H) :
  s.TypeIs v T/\∀ a,v=.ref a->∃ ob,s.heap.get? a=some ob/\ob.dict=none:=by
 cases x with
 | str z =>
  obtain ⟨t,rfl⟩:=r
  cases (show T = "str" from ty)
  exact ⟨typeIs_str s z t,fun _ e=>nomatch e⟩
 | int i =>
  obtain ⟨t,rfl⟩:=r
  cases (show T = "int" from ty)
  exact ⟨typeIs_int s i t,fun _ e=>nomatch e⟩
 | ref p =>
  cases r
  rcases ty with ⟨rfl,xs,hq⟩ | ⟨rfl,o,hk,hc,hd⟩ | ⟨rfl,hk⟩ | ⟨rfl,S,n,hk⟩
  ·obtain ⟨its,_,pl,_⟩:=I.list hq
   refine ⟨pl.isList.typeIs,fun a e=>?_⟩
   cases e
   obtain ⟨o,n,e,c,hd,_⟩:=pl
   exact ⟨o,e,hd⟩
  ·refine ⟨⟨o,I.kIn p o hk,hc⟩,fun a e=>?_⟩
   cases e
   exact ⟨o,I.kIn _ o hk,hd⟩
  ·have z:∃ o,s.heap.get? p=some o/\o.ExactDict:=by
    rcases hk with ⟨kvs,hk⟩ | ⟨kvs,hk⟩
    ·obtain ⟨_,_,_,_,o,_,_,e,ex,_⟩:=I.hok p _ hk
     exact ⟨o,e,ex⟩
    ·obtain ⟨_,_,_,_,o,_,_,e,ex,_⟩:=I.hok p _ hk
     exact ⟨o,e,ex⟩
   obtain ⟨o,e,ex⟩:=z
   refine ⟨⟨o,e,ex.1⟩,fun a e2=>?_⟩
   cases e2
   exact ⟨o,e,ex.2.1⟩
  ·obtain ⟨o,_,_,_,e,ex,_⟩:=I.hok p _ hk
   refine ⟨⟨o,e,ex.1⟩,fun a e2=>?_⟩
   cases e2
   exact ⟨o,e,ex.2.1⟩
 | _=>exact False.elim ty
def tBM0 (K:PySem.W.Frag) (T:String) (r:V->List V->Hp->VK->Prop) (to:TE):TE:=fun σ H Q=>to σ H fun x H1=>tyV K T x H1/\r x [] H1 Q
def tBM (K:PySem.W.Frag) (T:String) (r:V->List V->Hp->VK->Prop) (to:TE) (t:TA):TE:=fun σ H Q=>to σ H fun x H1=>tyV K T x H1/\t σ H1 fun xs H2=>r x xs H2 Q
variable {o e:Expr} {es:List Expr} {to:TE} {t:TA} {name:Str} {apos cpos:Pos} {T id:String} {r:V->List V->Hp->VK->Prop}
theorem ur (pa:PlainAttrs T) (slot:Slot T name id) (hty:typeOf (.builtin id)=pure (.type "method_descriptor")) (hm:MtR X id r) (ho:PE X o to)
  (hbase:attributeBase o name X.env (eval o X.env)=eval o X.env:=by rfl) (hline:(apos.endLine==cpos.line)=true:=by rfl):PE X (.Call (.Attribute o name apos) [] [] cpos) (tBM0 X.K T r to):=by
 intro pins s σ H Q I h
 refine wpAny_Call_method0_late hbase hline (thn (ho pins s σ H _ I h) fun v s1 ⟨x,H1,I1,r1,ty,q1⟩=>?_)
 obtain ⟨h1,h2⟩:=tyV_is I1 r1 ty
 exact ⟨T,id,pa,slot,hty,h1,h2,Calls.callWith_builtin rfl (PySem.evalArgs_none (hm pins s1 σ H1 x [] v [] Q I1 r1 .nil q1))⟩
theorem ui (pa:PlainAttrs T) (slot:Slot T name id) (hty:typeOf (.builtin id)=pure (.type "method_descriptor")) (hm:MtR X id r) (ho:PE X o to) (ha:PA X (e::es) t)
    (hbase:attributeBase o name X.env (eval o X.env)=eval o X.env:=by rfl)
    (hfew:((backTo cpos (starEach (e::es) X.env)).all (fun x=>!x.1)&&(backToKw cpos (keywordEach [] X.env)).all (fun x=>x.1.isSome)
      && decide ((e::es).length+([]:List Keyword).length+(if ([]:List Keyword).isEmpty then 0 else 1)<30))=true:=by rfl)
    (hline:(apos.endLine==cpos.line)=true:=by rfl) (hs:starEach (e::es) X.env=(false,eval e X.env)::starEach es X.env:=by rfl) (hplain:(backTo cpos (starEach es X.env)).any (·.1)=false:=by rfl) :
    PE X (.Call (.Attribute o name apos) (e::es) [] cpos) (tBM X.K T r to t):=by
  intro pins s σ H Q I h
  refine wpAny_Call_method_late hbase hfew hline rfl (thn (ho pins s σ H _ I h) fun v s1 ⟨x,H1,I1,r1,ty,q1⟩=>?_)
  obtain ⟨h1,h2⟩:=tyV_is I1 r1 ty
  refine ⟨T,id,pa,slot,hty,h1,h2,?_⟩
  have hA:=ha cpos pins s1 σ H1 _ I1 q1
  rw [hs] at hA ⊢
  refine Calls.callWith_builtin (by show (false||(backTo cpos (starEach es X.env)).any (·.1))=false;rw [hplain]<;>rfl) (Calls.evalArgs_plain ?_)
  exact thn hA fun us s2 ⟨vs,H2,I2,r2,q2⟩=>hm pins s2 σ H2 x vs v us Q I2 r1 r2 q2
/- xs.append(e),list.index on a module's tuple .. are MtR facts of 06m -/
end
end L2
namespace L2
open PySem PySem.Spec PyProof.Rows
def MtM (X:Cx) (id:String) (r:V->List V->Hp->VK->Prop):Prop :=
 ∀ (pins:List (Addr×Obj)) (s:Shared) (σ:St) (H:Hp) (x:V) (xs:List V) (v:Value) (us:List Value) (Q:VK),Inv X pins σ H s->RelV x v->Vals xs us->r x xs H Q ->
  wpAny (model X.prog X.w) X.A (call (.builtin id) (v::us)) (EP X pins σ Q) X.xe s
theorem Vals.one:∀ {x:V} {us:List Value},Vals [x] us->∃ u,us=[u]/\RelV x u
 | _,_,h=>by cases h with | cons r t=>cases t;exact ⟨_,rfl,r⟩
theorem Vals.two:∀ {x y:V} {us:List Value},Vals [x,y] us->∃ u v,us=[u,v]/\RelV x u/\RelV y v
 | _,_,_,h=>by cases h with | cons r t=>cases t with | cons q t=>cases t;exact ⟨_,_,rfl,r,q⟩
theorem Vals.zero:∀ {us:List Value},Vals [] us->us=[]
 | _,.nil=>rfl
theorem Vals.dropLast {xs:List V} {us:List Value} (h:Vals xs us):Vals xs.dropLast us.dropLast:=by
 induction h with
 | nil=>exact .nil
 | cons r t ih =>
  cases t with
  | nil=>exact .nil
  | cons q t'=>exact .cons r ih
theorem Vals.eraseIdx:∀ {xs:List V} {us:List Value} (i:Nat),Vals xs us->Vals (xs.eraseIdx i) (us.eraseIdx i)
 | _,_,_,.nil=>.nil
 | _,_,0,.cons _ t=>t
 | _,_,i+1,.cons r t=>.cons r (Vals.eraseIdx i t)
theorem Vals.reverse {xs:List V} {us:List Value} (h:Vals xs us):Vals xs.reverse us.reverse:=by
 induction h with
 | nil=>exact .nil
 | cons r t ih=>rw [List.reverse_cons,List.reverse_cons];exact Vals.append ih (.cons r .nil)
theorem erase_last {α:Type} (l:List α):l.eraseIdx (l.length - 1)=l.dropLast:=by
 induction l with
 | nil=>rfl
 | cons a r ih =>
  cases r with
  | nil=>rfl
  | cons b r =>
   have e:(a::b::r).length - 1=((b::r).length - 1)+1:=by
    have h1:(a::b::r).length=r.length+2:=rfl
    have h2:(b::r).length=r.length+1:=rfl
    omega
   rw [e,List.eraseIdx_cons_succ,ih]
   all_goals rfl
section
variable {X:Cx} {pins:List (Addr×Obj)} {σ:St} {H:Hp} {s:Shared} {l b:Addr} {xs ys zs:List V}
theorem Inv.lset {its its':List Value} {n:Nat} {f:Array Value->Array Value} {t':Nat} (I:Inv X pins σ H s) (hH:H l=some (.lst xs))
  (e:s.heap.get? l=some {cls:=.type "list",data:=.seq its.toArray n}) (hf:f its.toArray=its'.toArray) (hv:Vals ys its') (hz:ys.length<=sizeLine) :
  Inv X pins σ (upd H l (.lst ys)) {s with heap:=s.heap.update l (Obj.mapSeq f),toks:=t' }:=by
 have q:=PySem.IsL.update e f
 rw [hf] at q
 refine I.write (x:=l) (e:=l) (by rw [hH];exact trivial) (.inl rfl) (fun b' u hb hu=>(Heap.get?_update_other s.heap (Obj.mapSeq f) (Ne.symm hb)).trans hu) ⟨_,q⟩ ?_
 exact ⟨hz,its',_,hv,q⟩
theorem Inv.lnew {its:List Value} {t':Nat} (I:Inv X pins σ H s) (hv:Vals ys its) (hz:ys.length<=sizeLine) :
  Inv X pins σ (upd H s.heap.objs.size (.lst ys)) {s with heap:=s.heap.push {cls:=.type "list",data:=.seq its.toArray},toks:=t' } :=
 I.laid (fun _ _ q=>Heap.get?_push_of_some _ q) (Nat.le_refl _) ⟨hz,its,0,hv,Heap.get?_push_size _ rfl⟩
theorem Inv.fresh (I:Inv X pins σ H s):H s.heap.objs.size=none:=I.hok.fresh (Nat.le_refl _)
theorem Inv.lstM (I:Inv X pins σ H s) (hH:H l=some (.lst xs)):xs.length<=sizeLine/\∃ (its:List Value) (n:Nat),Vals xs its/\xs.length=its.length/\s.heap.get? l=some {cls:=.type "list",data:=.seq its.toArray n}:=by
 obtain ⟨z,its,n,r,e⟩:=I.hok l _ hH
 exact ⟨z,its,n,r,r.length,e⟩
theorem notLongL {n:Nat} (h:n<=sizeLine):Builtin.List.listTooLong n=false:=by
 unfold Builtin.List.listTooLong
 exact decide_eq_false (by omega)
end
section
variable {X:Cx}
def rAppend:V->List V->Hp->VK->Prop:=fun x vs H Q=>∃ l xs y,x=.ref l/\vs=[y]/\H l=some (.lst xs)/\xs.length<sizeLine/\Q .non (upd H l (.lst (xs++[y])))
theorem lf:MtM X "list.append" rAppend:=by
 intro pins s σ H x vs v us Q I rx rv h
 obtain ⟨l,xs,y,rfl,rfl,hH,hz,q⟩:=h
 cases rx
 obtain ⟨u,rfl,ru⟩:=rv.one
 obtain ⟨z,its,n,r,hl,e⟩:=I.lstM hH
 refine call_meets F.slot_list_append ⟨_,e,rfl⟩ F.entry_list_append (F.args_list_append_2 _ _) (PySem.list_append l its.toArray n u (by rw [List.size_toArray];omega)) ⟨e,?_⟩
 refine ⟨.non,_,I.lset (its':=its++[u]) hH e (by simp) (r.append (.cons ru .nil)) ?_,rfl,q⟩
 rw [List.length_append,List.length_singleton]
 omega
def rExtend:V->List V->Hp->VK->Prop:=fun x vs H Q=>∃ l b xs zs,x=.ref l/\vs=[.ref b]/\H l=some (.lst xs)/\H b=some (.lst zs)/\xs.length+zs.length<=sizeLine/\Q .non (upd H l (.lst (xs++zs)))
theorem va:MtM X "list.extend" rExtend:=by
 intro pins s σ H x vs v us Q I rx rv h
 obtain ⟨l,b,xs,zs,rfl,rfl,hH,hB,hz,q⟩:=h
 cases rx
 obtain ⟨u,rfl,ru⟩:=rv.one
 cases ru
 obtain ⟨z,its,n,r,hl,e⟩:=I.lstM hH
 obtain ⟨z2,its2,n2,r2,hl2,e2⟩:=I.lstM hB
 have hsz:its.toArray.size+its2.toArray.size<=sizeLine:=by rw [List.size_toArray,List.size_toArray];omega
 have hlong:¬ (!its.toArray.isEmpty&&Builtin.List.listTooLong (its.toArray.size+its2.toArray.size))=true:=by
  rw [notLongL hsz,Bool.and_false]
  exact Bool.false_ne_true
 refine call_meets F.slot_list_extend ⟨_,e,rfl⟩ F.entry_list_extend (F.args_list_extend_2 _ _)
  (AutoSeq1.list_extend_list_list_0 l its.toArray n b its2.toArray n2 hlong (by rw [List.size_toArray];omega) (by omega)) ⟨e,e2,?_⟩
 refine ⟨.non,_,I.lset (its':=its++its2) hH e (by simp) (r.append r2) ?_,rfl,q⟩
 rw [List.length_append]
 omega
def rPop:V->List V->Hp->VK->Prop:=fun x vs H Q=>∃ l xs y,x=.ref l/\vs=[]/\H l=some (.lst xs)/\xs[xs.length - 1]?=some y/\Q y (upd H l (.lst xs.dropLast))
theorem uD:MtM X "list.pop" rPop:=by
 intro pins s σ H x vs v us Q I rx rv h
 obtain ⟨l,xs,y,rfl,rfl,hH,hy,q⟩:=h
 cases rx
 have hus:=rv.zero
 subst hus
 obtain ⟨z,its,n,r,hl,e⟩:=I.lstM hH
 obtain ⟨u,hu,ru⟩:=r.get hy
 have hy':its.toArray[its.toArray.size - 1]?=some u:=by
  show its.toArray[its.length - 1]?=some u
  rw [<- Array.getElem?_toList,<- hl]
  exact hu
 refine call_meets F.slot_list_pop ⟨_,e,rfl⟩ F.entry_list_pop (F.args_list_pop_1 _) (MeetsSeq.list_pop_last l its.toArray n u hy' (by rw [List.size_toArray];omega)) ⟨e,?_⟩
 refine ⟨y,_,I.lset (its':=its.dropLast) hH e ?_ r.dropLast ?_,ru,q⟩
 ·show its.toArray.eraseIdxIfInBounds (its.toArray.size - 1)=its.dropLast.toArray
  rw [List.size_toArray,List.eraseIdxIfInBounds_toArray,erase_last]
 ·rw [List.length_dropLast]
  omega
def rCat:R2:=fun x y H Q=>∃ l b xs zs,x=.ref l/\y=.ref b/\H l=some (.lst xs)/\H b=some (.lst zs)/\xs.length+zs.length<=sizeLine/\∀ p,H p=none->Q (.ref p) (upd H p (.lst (xs++zs)))
theorem op_cat:OpR X (binaryOp .Add) rCat:=by
 intro pins s σ H x y v u Q I rx ry h
 obtain ⟨l,b,xs,zs,rfl,rfl,hH,hB,hz,q⟩:=h
 cases rx
 cases ry
 obtain ⟨z,its,n,r,hl,e⟩:=I.lstM hH
 obtain ⟨z2,its2,n2,r2,hl2,e2⟩:=I.lstM hB
 refine PySem.P.add_list e e2 ?_ (by rw [List.size_toArray,List.size_toArray];omega)
 have ea:its.toArray++its2.toArray=(its++its2).toArray:=by simp
 rw [ea]
 exact ⟨.ref _,_,I.lnew (t':=s.toks) (r.append r2) (by rw [List.length_append];omega),rfl,q _ I.fresh⟩
end
section
variable {prog:Program} {w:World} {A:Around} {E:Value->Shared->Prop} {s:Shared}
set_option maxRecDepth 100000 in
end
section
variable {X:Cx}
end
end L2
namespace Att
open PySem PySem.W PySem.Calls PyProof.Rows
theorem iW {P:Params} {h:Heap}:∀ (ns:List Int) (vs:List Value),WellAll P h vs (ns.map WData.int)->IntsAre vs ns:=by
 intro ns
 induction ns with
 | nil =>
  intro vs w
  rw [List.map_nil] at w
  cases w
  exact .nil
 | cons n ns ih =>
  intro vs w
  rw [List.map_cons] at w
  cases w with
  | cons a b =>
   cases a
   exact .cons _ _ (ih _ b)
theorem script_of {l:OpenLaw} {n:Nat} (hn:l.most=some n) {P:Params} {h:Heap} {args:List WData} {vals:List Value}
  (hpre:l.row.toRowW.claim.pre args=true) (hwl:WellAll P h vals args) :
  ∃ a vs ns,vals=[Value.ref a]/\args=[WData.list (ns.map WData.int)]/\h.get? a=some {cls:=.type "list",data:=.seq vs.toArray}/\IntsAre vs ns/\ns.length<=n:=by
 have hsh:WShape.hasAll [] args [.list .int]=true:=(pre_splitW hpre).1
 have hc:l.pre.holds [] {args:=args}=true:=(pre_splitW hpre).2
 obtain ⟨d,r,rfl,h1,h2⟩:=hasAllW_cons hsh
 obtain rfl:=hasAllW_nil h2
 obtain ⟨xs,rfl,h3⟩:=hasW_list h1
 obtain ⟨ns,rfl⟩:=items_int h3
 have hlen:ns.length<=n:=by
  unfold OpenLaw.pre at hc
  have h4:(WTm.not (.lt (.lit (.int (n:Int))) (.len (.arg 0)))).holds [] {args:=[.list (ns.map .int)]}=true:=by
   have h4:=(holds_andW hc).1
   rw [hn] at h4
   exact h4
  have h5:=condW_of h4 (w_not (w_lt w_lit (w_len_list (w_arg rfl))))
  rw [List.length_map] at h5
  refine Nat.le_of_not_lt fun q=>?_
  have q':(n:Int)<((ns.length:Nat):Int):=by omega
  first
   | (rw [decide_eq_true q'] at h5;exact absurd h5 (by decide))
   | (simp at h5;omega)
 cases hwl with
 | cons w1 w2 =>
  cases w2
  cases w1 with
  | list ho hall=>exact ⟨_,_,ns,rfl,rfl,ho,iW ns _ hall,hlen⟩
theorem post_true (l:OpenLaw) (args:List WData):l.row.toRowW.claim.post args (.bool true) args=true :=
 postW_of (r:=l.row.toRowW) (X:=(true==true))
  (show WShape.has [] (.bool true) .bool=true by first | rfl | decide | simp [WShape.has,WShape.arms,WShape.armsAll])
  (show (WTm.eq .res (.lit (.bool true))).value [] {args:=args,res:=some (.bool true),after:=args}=some (.bool (true==true)) from w_eq_bool (w_res rfl) w_lit) rfl
theorem attach_call {l:OpenLaw} {n:Nat} {q:Program} {loose:List Str} {XP:(Str->Option Value)->Heap->Prop} {YP:World->Heap->Prop} {d:DefRec}
    (hn:l.most=some n) (hdf:d.params.defaults=[])
    (call:∀ (w:World) (s₀ s₁:Shared) (mg mb:Str->Option Value) (fa:Addr) (o:Obj) (pm cd doc:Value) (a:Addr) (vs:List Value) (ns:List Int),
      Ground q loose [] XP w s₀ mg mb s₁.heap->YP w s₁.heap ->
      s₁.heap.get? fa=some o->o.data=.func (docDef d.name d.params d.body d.scope pm cd doc)->s₁.heap.CodeRec cd d.name->mg d.name=some (.ref fa) ->
      s₁.heap.get? a=some {cls:=.type "list",data:=.seq vs.toArray}->IntsAre vs ns->ns.length<=n->s₁.gens=#[] ->
      codeAny (model l.prog w) callerA (.call (.ref fa) ⟨[.ref a],[]⟩) (fun r s'=>r=.ok (.ret (.bool true))/\OldK s₁.heap s'.heap/\s'.os=s₁.os/\AllBare s'.gens) s₁) :
    WalkO q loose XP YP l.row.toRowW d [] (fun f vs=>PySem.call f vs):=by
  intro w s₀ s₁ mg mb G Y fa o pm cd doc dV kV ho hd hcd hD hmg hg args vals as hpre hlay hrd hwl hlo
  obtain rfl:dV=.none:=Dflts.none hD hdf
  obtain rfl:kV=.none:=Dflts.noKw hD
  obtain ⟨a,vs,ns,rfl,rfl,hobj,hints,hlen⟩:=script_of hn hpre hwl
  refine enter_call (codeAny_mono (call w s₀ s₁ mg mb fa o pm cd doc a vs ns G Y ho (fd_plain hd) hcd hmg hobj hints hlen hg) fun r s' hq=>?_)
  obtain ⟨rfl,h2,h3,h4⟩:=hq
  exact ⟨.inl ⟨.bool true,.bool true,[],rfl,fun _=>rfl,.bool true,post_true l _,fun _=>⟨List.Pairwise.nil,fun _ hm=>(nomatch hm)⟩⟩,h2,h3,h4⟩
section
variable {prog:Program} {w:World} {A:Around} {E:Value->Shared->Prop} {s:Shared} {K:Frag}
def ledger (h:Heap) (L d:Addr):List (Addr×Obj):=(List.range h.objs.size).filterMap fun a=>if a=L\/a=d then none else (h.get? a).map fun o=>(a,o)
end
end Att
namespace L2
open PySem PySem.Spec PyProof.Rows
theorem dY:∀ {vs:List Value} {ns:List Int},IntsAre vs ns->Vals (ns.map V.int) vs
 | _,_,.nil=>.nil
 | _,_,.cons n t h=>.cons ⟨t,rfl⟩ (dY h)
def Only (H:Hp):Prop:=∀ b,H b=none\/∃ o xs,H b=some (.frz o (.lst xs))
theorem law_call {P:Program} {w:World} {K:PySem.W.Frag} {mg mb:Str->Option Value} {CX:CXT} {k:Nat} {fa a:Addr} {fd:FuncData} {x:Str} {sp:Sp} {s₁:Shared} {vs:List Value} {ns:List Int}
  (KX:K.In s₁.heap) (hns:s₁.heap.Ns mainGlobals mg) (hb:s₁.heap.Ns builtinsNs mb) (hbb:∀ x:Str,x ≠ "__name__" -> mb x=bootBuiltins x) (hlim:s₁.heap.NoLimit) (hg:s₁.gens=#[])
  (ha:s₁.heap.get? a=some {cls:=.type "list",data:=.seq vs.toArray}) (hi:IntsAre vs ns) (hl:ns.length<=sizeLine) (hr:Room k callerA)
  (F:∀ base:Heap,K.In base->base.Ns mainGlobals mg->FnOk P w K mg base CX k fa fd [x] sp) (hbind:∀ (s:Shared) (u:Value),BindsTo s fd ⟨[u],[]⟩ [(x,u)])
  (hsp:∀ H:Hp,Only H->SqL K H a (ns.map V.int)->sp [.ref a] H (fun v _=>v=.bl true) fun _ _ _=>False)
  (hCX:∀ H e s',CX [] H s₁ (fun _ _ _=>False) e s'->False) :
  codeAny (model P w) callerA (.call (.ref fa) ⟨[.ref a],[]⟩) (fun r s'=>r=.ok (.ret (.bool true))/\OldK s₁.heap s'.heap/\s'.os=s₁.os/\AllBare s'.gens) s₁:=by
 have rv:=dY hi
 have lenV:=hi.length
 have core:∀ H:Hp,Only H->SqL K H a (ns.map V.int)->HOk P w H s₁.heap->(∀ b,H b≠none->b=a)->(H a≠none->K.lookup a=none) ->
   codeAny (model P w) callerA (.call (.ref fa) ⟨[.ref a],[]⟩) (fun r s'=>r=.ok (.ret (.bool true))/\OldK s₁.heap s'.heap/\s'.os=s₁.os/\AllBare s'.gens) s₁:=by
  intro H hO hS hok hA hK
  have base_of:∀ {b:Addr} {o:Obj},s₁.heap.get? b=some o->H b=none->(hidT s₁.heap H).get? b=some o:=fun e n=>hidT_get e n
  have noA:∀ {b:Addr} {o:Obj} {es:Array DictEntry} {ep:Nat},s₁.heap.get? b=some o->o.data=.dict es ep->H b=none:=fun {b o es ep} e d=>by
   cases q:H b with
   | none=>rfl
   | some u =>
    have e':b=a:=hA b (by rw [q];simp)
    subst e'
    rw [ha] at e;cases e
    have d':Data.seq vs.toArray _=Data.dict es ep:=d
    cases d'
  have nsK:∀ {b:Addr} {m:Str->Option Value},s₁.heap.Ns b m->(hidT s₁.heap H).Ns b m:=fun {b m} ⟨o,es,ep,e,d,r⟩=>⟨o,es,ep,base_of e (noA e d),d,r⟩
  have hKb:K.In (hidT s₁.heap H):=fun b o e=>base_of (KX b o e) (by
   cases q:H b with
   | none=>rfl
   | some u =>
    have e':b=a:=hA b (by rw [q];simp)
    subst e'
    rw [hK (by rw [q];simp)] at e;cases e)
  have hM:Mod K mg (hidT s₁.heap H):=⟨hKb,nsK hns,⟨mb,nsK hb,hbb⟩,let ⟨mc,h1,h2⟩:=hlim;⟨mc,nsK h1,h2⟩⟩
  have e0:Env0 P w K mg (hidT s₁.heap H) callerA [] s₁ H:=⟨rfl,hM,fun b o e=>of_hidT e,Nat.le_of_eq (hidT_size _ _),trivial,fun b hb=>absurd (show b∈([]:List Addr) from hb) (by simp),hok,.of_eq hg⟩
  refine codeAny_mono ((F _ hKb (nsK hns)).run callerA [] s₁ H ⟨[.ref a],[]⟩ [.ref a] [.ref a] _ _ hr e0 (hbind s₁ (.ref a)) (.cons rfl .nil) (hsp H hO hS)) fun r s' h=>?_
  cases r with
  | error e=>exact (hCX H e s' h).elim
  | ok fl =>
   cases fl with
   | next=>exact False.elim h
   | brk=>exact False.elim h
   | cont=>exact False.elim h
   | ret u =>
    obtain ⟨v,H',os,bare,un,hok',r',q⟩:=h
    have q':v=.bl true:=q
    subst q'
    obtain rfl:u=Value.bool true:=r'
    refine ⟨rfl,OldK.of_keep fun b o e=>?_,os,bare⟩
    cases q:H b with
    | none=>exact un.keep b o e q (by intro z;exact absurd (show b∈([]:List Addr) from z) (by simp)) (by simp)
    | some u =>
     rcases hO b with z | ⟨ob,xs,z⟩
     ·rw [q] at z;cases z
     ·have z2:=un.frzs b ob _ (fun y q=>by cases q) z
      obtain ⟨e1,_⟩:=hok b _ z
      obtain ⟨e2,_⟩:=hok' b _ z2
      rw [e] at e1;cases e1
      exact e2
 cases hk:K.lookup a with
 | some o =>
  have e:=KX a o hk
  rw [ha] at e
  cases e
  refine core (fun _=>none) (fun _=>.inl rfl) (.inr ⟨_,vs.toArray,_,hk,rfl,rfl,rfl,by rw [List.size_toArray,lenV];exact hl,by simpa using rv⟩) (fun b u z=>by have z':(none:Option HO)=some u:=z;cases z') (fun b z=>absurd rfl z) fun z=>absurd rfl z
 | none =>
  refine core (fun b=>if b=a then some (.frz {cls:=.type "list",data:=.seq vs.toArray} (.lst (ns.map V.int))) else none) (fun b=>?_) (.inl (.inr ⟨{cls:=.type "list",data:=.seq vs.toArray},if_pos rfl⟩)) (fun b u z=>?_) (fun b z=>?_) fun _=>hk
  ·by_cases hb:b=a
   ·exact .inr ⟨_,_,if_pos hb⟩
   ·exact .inl (if_neg hb)
  ·by_cases hb:b=a
   ·have z':=(if_pos hb).symm.trans z
    cases z'
    subst hb
    exact ⟨ha,by rw [List.length_map];exact hl,vs,_,rv,ha⟩
   ·have z':=(if_neg hb).symm.trans z
    cases z'
  ·by_cases hb:b=a
   ·exact hb
   ·exact absurd (if_neg hb) z
end L2
namespace L2
open PySem PySem.Spec PyProof.Rows
abbrev KOf {K:PySem.W.Frag} {h:Heap} (_:K.In h):PySem.W.Frag:=K
theorem walk_of {l:PySem.W.OpenLaw} {n k:Nat} {q:Program} {loose:List Str} {XP:(Str->Option Value)->Heap->Prop} {YP:World->Heap->Prop} {d:DefRec} {K:Params->PySem.W.Frag} {CX:World->CXT} {sp:World->Sp} {x:Str}
    (hn:l.most=some n) (hn2:n<=sizeLine) (hdf:d.params.defaults=[]) (hr:Room k callerA)
    (hY:∀ (w:World) (h:Heap),YP w h->(K w.params).In h)
    (F:∀ (w:World) (mg:Str->Option Value) (fa:Addr) (h:Heap),(K w.params).In h->h.Ns mainGlobals mg->mg d.name=some (.ref fa) ->
      ∃ fd:FuncData,(∀ (s:Shared) (u:Value),BindsTo s fd ⟨[u],[]⟩ [(x,u)]) /\
        ∀ base:Heap,(K w.params).In base->base.Ns mainGlobals mg->FnOk l.prog w (K w.params) mg base (CX w) k fa fd [x] (sp w))
    (hsp:∀ (w:World) (H:Hp) (a:Addr) (ns:List Int),ns.length<=n->Only H->SqL (K w.params) H a (ns.map V.int)->sp w [.ref a] H (fun v _=>v=.bl true) fun _ _ _=>False)
    (hCX:∀ (w:World) (H:Hp) (s:Shared) (e:Value) (s':Shared),CX w [] H s (fun _ _ _=>False) e s'->False) :
    PySem.W.WalkO q loose XP YP l.row.toRowW d [] (fun f vs=>PySem.call f vs):=by
  refine Att.attach_call hn hdf fun w s₀ s₁ mg mb fa o pm cd doc a vs ns G Y ho hd hcd hmg hobj hints hlen hg=>?_
  have KX:=hY w _ Y
  obtain ⟨fd,hb,hF⟩:=F w mg fa _ KX G.T.g hmg
  exact law_call KX G.T.g G.T.b G.T.builtins G.T.nolimit hg hobj hints (Nat.le_trans hlen hn2) hr hF hb (fun H hO hS=>hsp w H a ns hlen hO hS) fun H e s'=>hCX w H s₁ e s'
end L2
/- THE LAST THEOREM (shape;LID,My.* are yours):
  My.Adr: a structure of the addresses that your layer names (classes,functions);My.Txt K t: a structure (Prop) of the equations over K;
  My.txt_mk:{K} {implicit addresses ..} (e1:nsIn K mainGlobals "law" = some (some (.ref f))) (e2:K.lookup f=some ⟨oc,od,.func (fnOf "law" "law" params body scope dV kV doc pm an cdv ct),sl⟩) (e3:codeIn K cdv "law" = true) ..:∃ t,My.Txt K t
set_option maxRecDepth 100000 in
set_option maxHeartbeats 0 in
theorem PySem.Challenge.cw_LID_holds : PySem.Challenge.rw_LID.Holds := by
 w_on;o_law;k_head;(case hw=>w_witness2)
 k_fill
 refine L2.walk_of (l:=PySem.Challenge.rw_LID) (n:=63) (k:=40) (x:="script") (CX:=fun w=>..) (sp:=fun _=>My.sp_law) rfl (by decide) rfl ⟨rfl,by decide,by decide⟩ (fun w h Y=>PySem.W.kIn_of Y) ?F ?S ?C
 case F =>
  intro w mg fa h KX G hmg
  have T:∃ t,My.Txt (L2.KOf KX) t:=by
   dsimp only [L2.KOf]                          -- K must stand as «<heap const> w.params» for k_is
   refine' My.txt_mk ?e1 ?e2 ?e3 ..
   (case e1=>PySem.W.k_is)                    -- in the order: a name->its address->its object->its parts
   (case e2=>PySem.W.k_is)
   ..
  obtain ⟨t,T⟩:=T
  have e0:=hmg.symm.trans (PySem.W.mg_of KX G T.law)
  cases e0                                       -- fa is the law's own address
  exact ⟨_,fun s u=>.of_eq rfl,fun base kb nb=>My.law_fn T kb nb⟩     -- if «.of_eq rfl» comes too early: refine' ⟨_,?b,fun base kb nb=>My.law_fn T kb nb⟩;exact fun s u=>.of_eq rfl
 case S=>exact fun w H a ns hl hO hS=>..
 case C=>exact ..
(the tactic k_is has no namespace: write k_is) -/
namespace L2
open PySem PySem.Spec PyProof.Rows
def inClass (s:Stmt) (j:Nat):Stmt:=match s with
 | .ClassDef _ _ _ body _ _ _ _ _ _ _=>body.getD j (.Pass ⟨0,0,0,0⟩)
 | _=>.Pass ⟨0,0,0,0⟩
def defArgs (s:Stmt):Arguments:=match s with
 | .FunctionDef _ a _ _ _ _ _ _ _ _=>a
 | _=>{posonlyargs:=[],args:=[],vararg:=none,kwonlyargs:=[],kw_defaults:=[],kwarg:=none,defaults:=[]}
def defBody (s:Stmt):List Stmt:=match s with
 | .FunctionDef _ _ b _ _ _ _ _ _ _=>b
 | _=>[]
def defScope (s:Stmt):Scope:=match s with
 | .FunctionDef _ _ _ _ _ _ sc _ _ _=>sc
 | _=>{kind:=.function,names:=[],isGenerator:=false,isCoroutine:=false}
abbrev CX0:CXT:=fun _ _ _ _ _ _=>False
abbrev E0:XK:=fun _ _ _=>False
theorem pass0 {X:Cx}:Passes CX0 X E0:=fun _ _ _ _ _ _ _ h=>h.elim
structure Fun (K:PySem.W.Frag) (x qual:Str) (st:Stmt) (f:Addr) (fd:FuncData):Prop where
 ex:∃ (oc:Value) (od:Option Addr) (kV doc pm:Value) (an:Option Addr) (cdv ct:Value) (osl:Array (Option Value)),
  fd=PySem.W.fnOf x qual (defArgs st) (defBody st) (defScope st) .none kV doc pm an cdv ct/\K.lookup f=some ⟨oc,od,.func fd,osl⟩/\PySem.W.codeIn K cdv qual=true
 kp:PySem.W.keepIn K (.ref f)=true
section
variable {P:Program} {w:World} {K:PySem.W.Frag} {mg:Str->Option Value} {base:Heap}
theorem Fun.ok {x qual:Str} {st:Stmt} {f:Addr} {fd:FuncData} {N ps:List Str} {k:Nat} {sp:Sp} (F:Fun K x qual st f fd) (S:FnScope N ps (defScope st)) (len:∀ vs H Q E,sp vs H Q E->vs.length=ps.length)
    (hbody:∀ (cdv:Value) (A:Around) (outer:List Env) (s:Shared) (H:Hp) (vs:List V) (Q:VK) (E:XK),Room k (A.deeper (envOfC qual (defScope st) s.heap.objs.size f cdv))->sp vs H Q E ->
      ∃ t,PSs (cxOf CX0 P w K mg base N qual (defScope st) f cdv A outer s H E).nox (defBody st) t/\t {nx:=fun _ H'=>Q .non H',rt:=Q} (start N vs) H):FnOk P w K mg base CX0 (k+1) f fd ps sp:=by
  obtain ⟨oc,od,kV,doc,pm,an,cdv,ct,osl,rfl,lk,hcd⟩:=F.ex
  refine vo lk hcd S len fun A outer s H vs Q E hr hsp=>?_
  obtain ⟨t,h,q⟩:=hbody cdv A outer s H vs Q E hr hsp
  exact ⟨t,h.nox,q⟩
theorem Fun.binds {x qual:Str} {st:Stmt} {f:Addr} {fd:FuncData} {ps:List Str} (F:Fun K x qual st f fd)
  (h:∀ (kV doc pm:Value) (an:Option Addr) (cdv ct:Value) (us:List Value),us.length=ps.length->bindArgs (PySem.W.fnOf x qual (defArgs st) (defBody st) (defScope st) .none kV doc pm an cdv ct) ⟨us,[]⟩=pure (ps.zip us)):Binds K fd ps []:=by
 obtain ⟨oc,od,kV,doc,pm,an,cdv,ct,osl,rfl,lk,hcd⟩:=F.ex
 exact .all (h kV doc pm an cdv ct)
theorem oV {x qual:Str} {st:Stmt} {f:Addr} {oc:Value} {od an:Option Addr} {osl:Array (Option Value)} {kV doc pm cdv ct:Value} (l:K.lookup f=some ⟨oc,od,.func (PySem.W.fnOf x qual (defArgs st) (defBody st) (defScope st) .none kV doc pm an cdv ct),osl⟩)
  (c:PySem.W.codeIn K cdv qual=true) (k:PySem.W.keepIn K (.ref f)=true):Fun K x qual st f (PySem.W.fnOf x qual (defArgs st) (defBody st) (defScope st) .none kV doc pm an cdv ct):=⟨⟨oc,od,kV,doc,pm,an,cdv,ct,osl,rfl,l,c⟩,k⟩
end
theorem small1000 {n:Nat} (h:n<=1000):n<sizeLine:=Nat.lt_of_le_of_lt h (by decide)
section
variable {X:Cx}
theorem pv (i:Nat) {x:Str} {pos:Pos} (hN:X.N[i]?=some x:=by rfl) (hv:Vis X.env.scope x:=by first | exact Or.inl rfl | exact Or.inr (Or.inl rfl) | exact Or.inr (Or.inr rfl)) (hd:(x==("__debug__" : Str))=false:=by decide)
  (hcd:(x==("__classdict__" : Str))=false:=by decide):PE X (.Name x pos) (tVar i):=pJ hN hv hd hcd
end
def Same (H H':Hp):Prop:=∀ b o,H b=some o->H' b=some o
theorem Same.refl (H:Hp):Same H H:=fun _ _ h=>h
theorem Same.trans {H H1 H2:Hp} (a:Same H H1) (b:Same H1 H2):Same H H2:=fun c o h=>b c o (a c o h)
theorem Same.free {H H':Hp} (e:Same H H') {l:Addr} (h:H' l=Option.none):H l=Option.none:=by
 cases q:H l with
 | none=>rfl
 | some o =>
  rw [e l o q] at h
  cases h
theorem Same.seq {K:PySem.W.Frag} {H H':Hp} {a:Addr} {xs:List V} (e:Same H H') (h:SqL K H a xs):SqL K H' a xs:=by
 rcases h with (h | ⟨o,h⟩) | h
 ·exact .inl (.inl (e _ _ h))
 ·exact .inl (.inr ⟨o,e _ _ h⟩)
 ·exact .inr h
end L2
namespace HW
open PySem
inductive D where
 | non
 | bl (b:Bool)
 | int (i:Int)
 | str (x:Str)
 | tup (xs:List D)
 | lst (xs:List D)
 | fro (xs:List D)
 | obj (k a:Nat) (ks:List Str) (ds:List D)
 deriving Inhabited
abbrev R:=List (Option D)
inductive Out where
 | nx (ρ:R)
 | rt (d:D)
 | bk (ρ:R)
 | ct (ρ:R)
@[simp] def dTru:D->Option Bool
 | .non=>some false
 | .bl b=>some b
 | .int i=>some (i != 0)
 | .str x=>if x.length<=sizeLine then some ((x.length:Int) != 0) else none
 | .tup xs=>some (!xs.isEmpty)
 | .lst xs=>some (!xs.isEmpty)
 | .fro xs=>some (!xs.isEmpty)
 | .obj ..=>none
def bI (b:Bool):Int:=if b then 1 else 0
@[simp] def nI:D->Option Int
 | .int i=>some i
 | _=>none
@[simp] def tI:D->Option (List D)
 | .tup xs=>some xs
 | _=>none
@[simp] def lI:D->Option (List D)
 | .lst xs=>some xs
 | _=>none
@[simp] def sI:D->Option Str
 | .str x=>some x
 | _=>none
@[simp] def bO:D->Option Bool
 | .bl b=>some b
 | _=>none
@[simp] def dAdd (x y:D):Option D:=match x with
 | .int i=>(nI y).map fun j=>.int (i+j)
 | .tup xs=>(tI y).bind fun ys=>if xs.length+ys.length<=sizeLine then some (.tup (xs++ys)) else none
 | .lst xs=>(lI y).bind fun ys=>if xs.length+ys.length<=sizeLine then some (.lst (xs++ys)) else none
 | .str x=>(sI y).bind fun y=>if x.length+y.length<=sizeLine then some (.str (x++y)) else none
 | _=>none
@[simp] def dSub (x y:D):Option D:=(nI x).bind fun i=>(nI y).map fun j=>.int (i - j)
def mulFits (i j:Int):Bool:=(decide (-(2 ^ 64)<i)&&decide (i<2 ^ 64))||(decide (-(2 ^ 64)<j)&&decide (j<2 ^ 64))
@[simp] def dMul (x y:D):Option D:=(nI x).bind fun i=>(nI y).bind fun j=>if mulFits i j then some (.int (i*j)) else none
@[simp] def dDiv (x y:D):Option D:=(nI x).bind fun i=>(nI y).bind fun j=>if 0<j/\j<1073741824 then some (.int (i / j)) else none
@[simp] def dMod (x y:D):Option D:=(nI x).bind fun i=>(nI y).bind fun j=>if 0<j then some (.int (i%j)) else none
@[simp] def dNeg (x:D):Option D:=(nI x).map fun i=>.int (-i)
@[simp] def cLt (x y:D):Option Bool:=(nI x).bind fun i=>(nI y).map fun j=>decide (i<j)
@[simp] def cLe (x y:D):Option Bool:=(nI x).bind fun i=>(nI y).map fun j=>decide (i<=j)
@[simp] def cGt (x y:D):Option Bool:=(nI x).bind fun i=>(nI y).map fun j=>decide (j<i)
@[simp] def cGe (x y:D):Option Bool:=(nI x).bind fun i=>(nI y).map fun j=>decide (j<=i)
@[simp] def scalEq (x y:D):Option Bool:=match x with
 | .int i=>(nI y).map fun j=>i==j
 | .str a=>(sI y).map fun b=>a==b
 | .bl a=>(bO y).map fun b=>a==b
 | _=>none
@[simp] def cEq:D->D->Option Bool:=scalEq
@[simp] def cNe (x y:D):Option Bool:=(scalEq x y).map (!·)
@[simp] def nonD:D->Bool
 | .non=>true
 | _=>false
@[simp] def cIsN (x y:D):Option Bool:=if nonD y then some (nonD x) else none
@[simp] def cNotN (x y:D):Option Bool:=(cIsN x y).map (!·)
def flat:D->Bool
 | .non=>true
 | .bl _=>true
 | .int _=>true
 | .str _=>true
 | _=>false
def eqF:D->D->Bool
 | .non,.non=>true
 | .bl a,.bl b=>a==b
 | .bl a,.int b=>bI a==b
 | .int a,.bl b=>a==bI b
 | .int a,.int b=>a==b
 | .str a,.str b=>a==b
 | _,_=>false
@[simp] def itemsD:D->Option (List D)
 | .tup xs=>some xs
 | .lst xs=>some xs
 | .fro xs=>some xs
 | _=>none
@[simp] def cIn (x y:D):Option Bool:=(itemsD y).bind fun ys=>if flat x&&ys.all flat then some (ys.any fun y=>eqF y x) else none
mutual
def eqD:D->D->Bool
 | .non,.non=>true
 | .bl a,.bl b=>a==b
 | .bl a,.int b=>bI a==b
 | .int a,.bl b=>a==bI b
 | .int a,.int b=>a==b
 | .str a,.str b=>a==b
 | .tup xs,.tup ys=>eqDs xs ys
 | .lst xs,.lst ys=>eqDs xs ys
 | .lst xs,.fro ys=>eqDs xs ys
 | .fro xs,.lst ys=>eqDs xs ys
 | .fro xs,.fro ys=>eqDs xs ys
 | _,_=>false
def eqDs:List D->List D->Bool
 | [],[]=>true
 | x::xs,y::ys=>eqD x y&&eqDs xs ys
 | _,_=>false
end
mutual
def depD:D->Nat
 | .tup xs=>depDs xs+1
 | .lst xs=>depDs xs+1
 | .fro xs=>depDs xs+1
 | _=>0
def depDs:List D->Nat
 | []=>0
 | x::xs=>max (depD x) (depDs xs)
end
mutual
def layD:D->Bool
 | .str x=>x.cps.all (·<0x110000)
 | .tup xs=>layDs xs
 | .lst xs=>layDs xs
 | .fro xs=>layDs xs
 | .obj ..=>false
 | _=>true
def layDs:List D->Bool
 | []=>true
 | x::xs=>layD x&&layDs xs
end
mutual
def nob:D->Bool
 | .tup xs=>nobs xs
 | .lst xs=>nobs xs
 | .fro xs=>nobs xs
 | .obj ..=>false
 | _=>true
def nobs:List D->Bool
 | []=>true
 | x::xs=>nob x&&nobs xs
end
mutual
theorem bS:∀ {d:D},layD d=true->nob d=true
 | .non,_=>rfl
 | .bl _,_=>rfl
 | .int _,_=>rfl
 | .str _,_=>rfl
 | .tup xs,h=>gG (xs:=xs) h
 | .lst xs,h=>gG (xs:=xs) h
 | .fro xs,h=>gG (xs:=xs) h
 | .obj ..,h=>by cases h
theorem gG:∀ {xs:List D},layDs xs=true->nobs xs=true
 | [],_=>rfl
 | x::xs,h=>by
  have h':(layD x&&layDs xs)=true:=h
  rw [Bool.and_eq_true] at h'
  show (nob x&&nobs xs)=true
  rw [bS h'.1,gG h'.2];rfl
end
def cEqD (x y:D):Option Bool:=if depD x<=100/\layD x=true/\layD y=true then some (eqD x y) else none
def cNeD (x y:D):Option Bool:=(cEqD x y).map (!·)
def ixD (n:Nat) (i:Int):Option Nat:=if 0<=i then (if i<n then some i.toNat else none) else if -(n:Int)<=i then some (i+n).toNat else none
def atD (xs:List D) (i:Int):Option D:=(ixD xs.length i).bind fun j=>xs[j]?
@[simp] def dIx:D->D->Option D
 | .tup xs,.int i=>atD xs i
 | .lst xs,.int i=>atD xs i
 | .fro xs,.int i=>atD xs i
 | .str x,.int i=>if x.length<=sizeLine then ((ixD x.length i).bind fun j=>x.cps.toList[j]?).map fun c=>.str ⟨#[c]⟩ else none
 | _,_=>none
def cutP (n d:Nat):Option Int->Nat
 | none=>d
 | some v=>if v<0 then (v+(n:Int)).toNat else min v.toNat n
def cutD (xs:List D) (lo hi:Option Int):List D:=(xs.drop (cutP xs.length 0 lo)).take (cutP xs.length xs.length hi - cutP xs.length 0 lo)
@[simp] def dSl:D->Option Int->Option Int->Option D
 | .tup xs,lo,hi=>some (.tup (cutD xs lo hi))
 | .lst xs,lo,hi=>some (.lst (cutD xs lo hi))
 | _,_,_=>none
@[simp] def asI:D->Option (Option Int)
 | .int i=>some (some i)
 | _=>none
@[simp] def tyOf:D->String
 | .non=>"NoneType"
 | .bl _=>"bool"
 | .int _=>"int"
 | .str _=>"str"
 | .tup _=>"tuple"
 | .lst _=>"list"
 | .fro _=>"list"
 | .obj ..=>"object"
@[simp] def isOb:D->Bool
 | .obj ..=>true
 | _=>false
@[simp] def isI (d:D) (n:String):Bool:=decide (tyOf d=n)||(decide (tyOf d = "bool")&&decide (n = "int"))
@[simp] def fLen:List D->Option D
 | [d]=>(itemsD d).map fun xs=>.int xs.length
 | _=>none
@[simp] def fList:List D->Option D
 | [.tup xs]=>some (.lst xs)
 | [.lst xs]=>some (.lst xs)
 | _=>none
@[simp] def fTuple:List D->Option D
 | [.tup xs]=>some (.tup xs)
 | [.lst xs]=>some (.tup xs)
 | _=>none
@[simp] def fStr:List D->Option D
 | [.int i]=>if i.natAbs.log2<1920 then some (.str (toString i)) else none
 | _=>none
@[simp] def fMax:List D->Option D
 | [.int i,.int j]=>some (.int (if j > i then j else i))
 | _=>none
@[simp] def fMaxD:List D->Option D
 | [.lst []]=>some .non
 | [.lst [.int a]]=>some (.int a)
 | [.lst [.int a,.int b]]=>some (.int (if b > a then b else a))
 | _=>none
def upTab (x:Str):Option Str:=if x=Str.ofString "a" then some (Str.ofString "A") else if x=Str.ofString "b" then some (Str.ofString "B") else if x=Str.ofString "c" then some (Str.ofString "C") else none
def dUp:D->Option D
 | .str x=>(upTab x).map .str
 | _=>none
def dIdx (ws:List Str):D->Option D
 | .str x=>(ws.findIdx? (·==x)).map fun (j:Nat)=>.int (j:Int)
 | _=>none
def bools:List D->Option (List Bool)
 | []=>some []
 | .bl b::r=>(bools r).map (b::·)
 | _=>none
@[simp] def fAll:List D->Option D
 | [.lst xs]=>(bools xs).map fun bs=>.bl (bs.all id)
 | _=>none
def forD (st:D->R->Option R) (body:R->Option Out):List D->R->Option Out
 | [],ρ=>some (.nx ρ)
 | d::ds,ρ=>(st d ρ).bind fun ρ1=>(body ρ1).bind fun o=>match o with
  | .nx ρ2=>forD st body ds ρ2
  | .ct ρ2=>forD st body ds ρ2
  | .bk ρ2=>some (.nx ρ2)
  | .rt r=>some (.rt r)
def compD (st:D->R->Option R) (c:R->Option Bool) (e:R->Option D):List D->R->Option (List D)
 | [],_=>some []
 | d::ds,ρ=>(st d ρ).bind fun ρ1=>(c ρ1).bind fun b=>(if b then (e ρ1).map some else some none).bind fun x =>
   (compD st c e ds ρ).map fun r=>match x with
    | some y=>y::r
    | none=>r
@[simp] def seqD (f g:R->Option Out):R->Option Out:=fun ρ=>(f ρ).bind fun o=>match o with
 | .nx ρ2=>g ρ2
 | o=>some o
@[simp] def vAt (i:Nat) (ρ:R):Option D:=ρ.getD i none
@[simp] def setAt (i:Nat) (d:D) (ρ:R):Option R:=if i<ρ.length then some (ρ.set i (some d)) else none
@[simp] def ifD (c:R->Option Bool) (f g:R->Option Out):R->Option Out:=fun ρ=>(c ρ).bind fun b=>if b then f ρ else g ρ
@[simp] def andV (f g:R->Option D):R->Option D:=fun ρ=>(f ρ).bind fun x=>match x with
 | .bl true=>g ρ
 | .bl false=>some (.bl false)
 | _=>none
@[simp] def notV (f:R->Option D):R->Option D:=fun ρ=>(f ρ).bind fun x=>match x with
 | .bl b=>some (.bl !b)
 | _=>none
@[simp] def andT (f g:R->Option Bool):R->Option Bool:=fun ρ=>(f ρ).bind fun b=>if b then g ρ else some false
@[simp] def orT (f g:R->Option Bool):R->Option Bool:=fun ρ=>(f ρ).bind fun b=>if b then some true else g ρ
@[simp] def notT (f:R->Option Bool):R->Option Bool:=fun ρ=>(f ρ).map (!·)
@[simp] def ifE (c:R->Option Bool) (f g:R->Option D):R->Option D:=fun ρ=>(c ρ).bind fun b=>if b then f ρ else g ρ
@[simp] def op2 (F:D->D->Option D) (f g:R->Option D):R->Option D:=fun ρ=>(f ρ).bind fun x=>(g ρ).bind fun y=>F x y
@[simp] def op1 (F:D->Option D) (f:R->Option D):R->Option D:=fun ρ=>(f ρ).bind F
@[simp] def cmp2 (F:D->D->Option Bool) (f g:R->Option D):R->Option Bool:=fun ρ=>(f ρ).bind fun x=>(g ρ).bind fun y=>F x y
@[simp] def asV (f:R->Option Bool):R->Option D:=fun ρ=>(f ρ).map .bl
@[simp] def truT (f:R->Option D):R->Option Bool:=fun ρ=>(f ρ).bind dTru
@[simp] def argN:R->Option (List D):=fun _=>some []
@[simp] def argC (f:R->Option D) (g:R->Option (List D)):R->Option (List D):=fun ρ=>(f ρ).bind fun d=>(g ρ).map fun ds=>d::ds
@[simp] def callD (F:List D->Option D) (g:R->Option (List D)):R->Option D:=fun ρ=>(g ρ).bind F
@[simp] def tupD (g:R->Option (List D)):R->Option D:=fun ρ=>(g ρ).map .tup
@[simp] def lstD (g:R->Option (List D)):R->Option D:=fun ρ=>(g ρ).map .lst
@[simp] def noP:R->Option (Option Int):=fun _=>some none
@[simp] def aP (f:R->Option D):R->Option (Option Int):=fun ρ=>(f ρ).bind asI
@[simp] def slD (f:R->Option D) (l h:R->Option (Option Int)):R->Option D:=fun ρ=>(f ρ).bind fun x=>(l ρ).bind fun a=>(h ρ).bind fun b=>dSl x a b
@[simp] def retD (f:R->Option D):R->Option Out:=fun ρ=>(f ρ).map .rt
@[simp] def asgD (f:R->Option D) (st:D->R->Option R):R->Option Out:=fun ρ=>(f ρ).bind fun d=>(st d ρ).map .nx
@[simp] def nextD:R->Option Out:=fun ρ=>some (.nx ρ)
@[simp] def loopD (it:R->Option (List D)) (st:D->R->Option R) (body:R->Option Out):R->Option Out:=fun ρ=>(it ρ).bind fun ds=>forD st body ds ρ
def chars (x:Str):List D:=x.cps.toList.map fun c=>.str ⟨#[c]⟩
@[simp] def inSeq (f:R->Option D):R->Option (List D):=fun ρ=>(f ρ).bind fun d=>match d with
 | .tup xs=>some xs
 | .lst xs=>some xs
 | .str x=>if x.cps.all (·<128) then some (chars x) else none
 | _=>none
def rngD (a b:Int):List D:=(List.range (b - a).toNat).map fun (k:Nat)=>D.int (a+(k:Int))
@[simp] def inRng1 (f:R->Option D):R->Option (List D):=fun ρ=>(f ρ).bind fun d=>match d with
 | .int j=>if -(2 ^ 62)<=j/\j<2 ^ 62 then some (rngD 0 j) else none
 | _=>none
def lcD (k:Nat) (it:R->Option (List D)) (st:D->R->Option R) (c:R->Option Bool) (e:R->Option D):R->Option D:=fun ρ =>
 (it ρ).bind fun ds=>if ds.length<=sizeLine then (compD st c e ds (List.replicate k none++ρ)).map .lst else none
@[simp] def yesT:R->Option Bool:=fun _=>some true
@[simp] def beg (n:Nat) (ds:List D):R:=ds.map some++List.replicate (n - ds.length) none
@[simp] def retOf:Option Out->Option D
 | some (.rt d)=>some d
 | some (.nx _)=>some .non
 | _=>none
@[simp] def manyD:List (D->R->Option R)->List D->R->Option R
 | [],[],ρ=>some ρ
 | f::fs,d::ds,ρ=>(f d ρ).bind fun ρ1=>manyD fs ds ρ1
 | _,_,_=>none
@[simp] def unpD (fs:List (D->R->Option R)):D->R->Option R
 | .tup ds,ρ=>manyD fs ds ρ
 | _,_=>none
@[simp] def oPure (u:R->Option Out):R->List D->Option (Out×List D):=fun ρ ds=>(u ρ).map fun o=>(o,ds)
@[simp] def oApp (i:Nat) (f:R->Option D):R->List D->Option (Out×List D):=fun ρ ds=>(f ρ).bind fun d=>if ρ.length=i/\ds.length<sizeLine then some (.nx ρ,ds++[d]) else none
@[simp] def oNext:R->List D->Option (Out×List D):=fun ρ ds=>some (.nx ρ,ds)
@[simp] def oSeq (p q:R->List D->Option (Out×List D)):R->List D->Option (Out×List D):=fun ρ ds=>(p ρ ds).bind fun r=>match r with
 | (.nx ρ2,ds2)=>q ρ2 ds2
 | r=>some r
@[simp] def oIf (c:R->Option Bool) (p q:R->List D->Option (Out×List D)):R->List D->Option (Out×List D):=fun ρ ds=>(c ρ).bind fun b=>if b then p ρ ds else q ρ ds
def forO (st:D->R->Option R) (p:R->List D->Option (Out×List D)):List D->R->List D->Option (Out×List D)
 | [],ρ,ds=>some (.nx ρ,ds)
 | d::es,ρ,ds=>(st d ρ).bind fun ρ1=>(p ρ1 ds).bind fun r=>match r with
  | (.nx ρ2,ds2)=>forO st p es ρ2 ds2
  | (.ct ρ2,ds2)=>forO st p es ρ2 ds2
  | (.bk ρ2,ds2)=>some (.nx ρ2,ds2)
  | r=>some r
@[simp] def oLoop (it:R->Option (List D)) (st:D->R->Option R) (p:R->List D->Option (Out×List D)):R->List D->Option (Out×List D):=fun ρ ds=>(it ρ).bind fun es=>forO st p es ρ ds
@[simp] def ownD (i:Nat) (F:R->Option (List D)) (q:R->List D->Option Out):R->Option Out:=fun ρ=>(F ρ).bind fun ds=>if ρ.length=i+1 then q (ρ.take i) ds else none
@[simp] def obSeq (p:R->List D->Option (Out×List D)) (q:R->List D->Option Out):R->List D->Option Out:=fun ρ ds=>(p ρ ds).bind fun r=>match r with
 | (.nx ρ2,ds2)=>q ρ2 ds2
 | (.rt d,_)=>some (.rt d)
 | _=>none
@[simp] def obRel (w:R->Option Out):R->List D->Option Out:=fun ρ ds=>w (ρ++[some (.lst ds)])
def fnD (i:Nat) (tab:List (Str×(List D->Option D))) (f:R->Option D) (g:(List D->Option D)->R->Option Out):R->Option Out:=fun ρ=>(f ρ).bind fun d=>match d with
 | .str z=>(tab.lookup z).bind fun F=>if i<ρ.length then g F (ρ.set i none) else none
 | _=>none
def via (k n:Nat) (g:R->Option Out) (ds:List D):Option D:=if ds.length=k then retOf (g (beg n ds)) else none
theorem ao {k n:Nat} {g:R->Option Out} {ds:List D} {d:D} (h:via k n g ds=some d):ds.length=k:=by
 unfold via at h
 split at h
 ·assumption
 ·cases h
theorem aB {k n:Nat} {g:R->Option Out} {ds:List D} {d:D} (h:via k n g ds=some d):retOf (g (beg n ds))=some d:=by
 unfold via at h
 split at h
 ·exact h
 ·cases h
theorem mulFits_r {i j:Int} (h1 : -(2 ^ 64)<j) (h2:j<2 ^ 64):mulFits i j=true:=by unfold mulFits;rw [decide_eq_true h1,decide_eq_true h2];simp
theorem mulFits_l {i j:Int} (h1 : -(2 ^ 64)<i) (h2:i<2 ^ 64):mulFits i j=true:=by unfold mulFits;rw [decide_eq_true h1,decide_eq_true h2];simp
theorem forD_inv {st:D->R->Option R} {body:R->Option Out} (P:Nat->R->Prop):∀ (ds:List D) (k:Nat) (ρ0:R),P k ρ0->(∀ i d ρ,ds[i]?=some d->P (k+i) ρ->∃ ρ1 ρ2,st d ρ=some ρ1/\body ρ1=some (.nx ρ2)/\P (k+i+1) ρ2) ->
  ∃ ρ',forD st body ds ρ0=some (.nx ρ')/\P (k+ds.length) ρ'
 | [],k,ρ0,h0,_=>⟨ρ0,rfl,h0⟩
 | d::ds,k,ρ0,h0,hs=>by
  obtain ⟨ρ1,ρ2,h1,h2,h3⟩:=hs 0 d ρ0 rfl h0
  obtain ⟨ρ',h4,h5⟩:=forD_inv P ds (k+1) ρ2 h3 fun i d' ρ e p=>by
   have q:=hs (i+1) d' ρ (by simpa using e) (by rw [show k+(i+1)=k+1+i by omega];exact p)
   rw [show k+(i+1)+1=k+1+i+1 by omega] at q
   exact q
  refine ⟨ρ',?_,?_⟩
  ·simp [forD,h1,h2,h4]
  ·rw [show k+(d::ds).length=k+1+ds.length by simp;omega];exact h5
theorem mq {n:Int} {i:Nat} {d:D} (e:(rngD 0 n)[i]?=some d):d=.int i/\(i:Int)<n:=by
 unfold rngD at e
 rw [List.getElem?_map] at e
 cases q:(List.range (n - 0).toNat)[i]? with
 | none=>rw [q] at e;cases e
 | some k =>
  rw [q] at e
  obtain ⟨h1,h2⟩:=List.getElem?_eq_some_iff.mp q
  simp at h1 h2
  subst h2
  have e':D.int (0+(i:Int))=d:=Option.some.inj e
  rw [Int.zero_add] at e'
  exact ⟨e'.symm,by omega⟩
theorem jm (n:Int):(rngD 0 n).length=n.toNat:=by simp [rngD]
theorem atD_some {xs:List D} {i:Int} (h0:0<=i) (h1:i<xs.length):∃ x,x∈xs/\atD xs i=some x:=by
 have h2:i.toNat<xs.length:=by omega
 refine ⟨xs[i.toNat],List.getElem_mem h2,?_⟩
 unfold atD ixD
 rw [if_pos h0,if_pos h1]
 simp [h2]
inductive Fits:D->Prop
 | non:Fits .non
 | bl (b:Bool):Fits (.bl b)
 | int (i:Int):Fits (.int i)
 | str (x:Str):Fits (.str x)
 | tup {xs:List D}:xs.length<=1000->(∀ x∈xs,Fits x)->Fits (.tup xs)
end HW
namespace HW
open PySem
mutual
def toPy:D->PyData
 | .non=>.none
 | .bl b=>.bool b
 | .int i=>.int i
 | .str x=>.str x
 | .tup xs=>.tuple (toPys xs)
 | .lst xs=>.list (toPys xs)
 | .fro xs=>.list (toPys xs)
 | .obj ..=>.dict []
def toPys:List D->List PyData
 | []=>[]
 | d::ds=>toPy d::toPys ds
end
end HW
set_option maxHeartbeats 1000000
namespace HW
open PySem
inductive Deed | none | hour | minute | zero | ahour | aminute | alarm | run | lap | cminute | csecond | full | count
 deriving DecidableEq,Inhabited
inductive Btn | a | b | c
 deriving DecidableEq,Inhabited
inductive Face | time | alarm | laps | count
 deriving DecidableEq,Inhabited
def Deed.x:Deed->Str
 | .none=>Str.ofString "none" | .hour=>Str.ofString "hour" | .minute=>Str.ofString "minute" | .zero=>Str.ofString "zero" | .ahour=>Str.ofString "ahour" | .aminute=>Str.ofString "aminute" | .alarm=>Str.ofString "alarm"
 | .run=>Str.ofString "run" | .lap=>Str.ofString "lap" | .cminute=>Str.ofString "cminute" | .csecond=>Str.ofString "csecond" | .full=>Str.ofString "full" | .count=>Str.ofString "count"
def Btn.x:Btn->Str
 | .a=>Str.ofString "a" | .b=>Str.ofString "b" | .c=>Str.ofString "c"
def Btn.X:Btn->Str
 | .a=>Str.ofString "A" | .b=>Str.ofString "B" | .c=>Str.ofString "C"
def Btn.ix:Btn->Nat
 | .a=>0 | .b=>1 | .c=>2
def Face.x:Face->Str
 | .time=>Str.ofString "time" | .alarm=>Str.ofString "alarm" | .laps=>Str.ofString "laps" | .count=>Str.ofString "count"
structure Md where
 face:Face
 stays:Bool
 rows:List (Deed×Nat)
 deriving Inhabited
structure Bk where
 hold:Int
 back:Int
 modes:List Md
structure WS where
 mode:Nat
 clock:Int
 ah:Int
 am:Int
 aon:Bool
 lm:Int
 lr:Bool
 lk:List Int
 cm:Int
 cs:Int
 cl:Int
 cr:Bool
 ring:Int
 held:Option (Btn×Option Int)
 idle:Int
def rowD (r:Deed×Nat):D:=.tup [.str r.1.x,.int (r.2:Int)]
def Md.d (m:Md):D:=.tup [.str m.face.x,.bl m.stays,.tup (m.rows.map rowD)]
def Bk.d (b:Bk):D:=.tup [.int b.hold,.int b.back,.tup (b.modes.map Md.d)]
def optI:Option Int->D
 | .none=>.non
 | .some k=>.int k
def heldD:Option (Btn×Option Int)->D
 | .none=>.non
 | .some (x,k)=>.tup [.str x.x,optI k]
def WS.alarmD (s:WS):D:=.tup [.int s.ah,.int s.am,.bl s.aon]
def WS.lapsD (s:WS):D:=.tup [.int s.lm,.bl s.lr,.tup (s.lk.map .int)]
def WS.countD (s:WS):D:=.tup [.int s.cm,.int s.cs,.int s.cl,.bl s.cr]
def WS.d (s:WS):D:=.tup [.int (s.mode:Int),.int s.clock,s.alarmD,s.lapsD,s.countD,.int s.ring,heldD s.held,.int s.idle]
structure Md.Ok (n:Nat) (m:Md):Prop where
 six:m.rows.length=6
 nx:∀ r∈m.rows,r.2<n
structure Bk.Ok (b:Bk):Prop where
 hold1:1<=b.hold
 hold9:b.hold<=9
 back0:0<=b.back
 back60:b.back<=60
 some1:1<=b.modes.length
 some8:b.modes.length<=8
 all:∀ m∈b.modes,m.Ok b.modes.length
structure WS.Wk (b:Bk) (s:WS):Prop where
 bk:0<=b.back
 mode:s.mode<b.modes.length
 clock0:0<=s.clock
 clock1:s.clock<86400
 ah0:0<=s.ah
 ah1:s.ah<24
 am0:0<=s.am
 am1:s.am<60
 lm0:0<=s.lm
 lk:s.lk.length<=4
 cm0:0<=s.cm
 cm1:s.cm<60
 cs0:0<=s.cs
 cs1:s.cs<60
 cl0:0<=s.cl
 cl1:s.cl<3600
 cr:s.cr=true->0<s.cl
 ring0:0<=s.ring
 ring1:s.ring<=10
 idle0:0<=s.idle
 idle1:0<b.back->s.idle<b.back
 idle2:b.back=0->s.idle=0
structure WS.Ok (b:Bk) (s:WS):Prop extends WS.Wk b s where
 held:∀ x k,s.held=some (x,some k)->0<=k/\k<b.hold
def setTo (s:WS) (m c:Int):WS:=if s.cr then s else {s with cm:=m,cs:=c,cl:=60*m+c,cr:=false}
def deed:Deed->WS->WS
 | .none,s=>s
 | .hour,s=>{s with clock:=(s.clock+3600)%86400}
 | .minute,s=>{s with clock:=s.clock - s.clock%3600+(s.clock%3600+60)%3600}
 | .zero,s=>{s with clock:=s.clock - s.clock%60}
 | .ahour,s=>{s with ah:=(s.ah+1)%24}
 | .aminute,s=>{s with am:=(s.am+1)%60}
 | .alarm,s=>{s with aon:=!s.aon}
 | .run,s=>{s with lr:=!s.lr}
 | .lap,s=>if s.lr then (if 4<=s.lk.length then s else {s with lk:=s.lk++[s.lm]}) else {s with lm:=0,lk:=[]}
 | .cminute,s=>setTo s ((s.cm+1)%60) s.cs
 | .csecond,s=>setTo s s.cm ((s.cs+1)%60)
 | .full,s=>setTo s s.cm s.cs
 | .count,s=>{s with cr:=!s.cr&&decide (0<s.cl)}
def Bk.row (b:Bk) (m i:Nat):Deed×Nat:=(b.modes.getD m default).rows.getD i (.none,0)
def press (b:Bk) (s:WS) (i:Nat):WS:={deed (b.row s.mode i).1 s with mode:=(b.row s.mode i).2}
def mx (i j:Int):Int:=if j > i then j else i
def WS.sec (s:WS):Int:=3600*s.ah+60*s.am
def alarmTick (s:WS):Option Int:=if s.aon then some ((s.sec - s.clock - 1)%86400+1) else none
def countTick (s:WS):Option Int:=if s.cr then some s.cl else none
def lastRing (s:WS) (n:Int):Option Int :=
 match alarmTick s,countTick s with
 | some a,some c=>if a<=n then (if c<=n then some (mx (n - (n - a)%86400) c) else some (n - (n - a)%86400)) else (if c<=n then some c else none)
 | some a,none=>if a<=n then some (n - (n - a)%86400) else none
 | none,some c=>if c<=n then some c else none
 | none,none=>none
def ringOn (s:WS) (n:Int):Int :=
 match lastRing s n with
 | none=>mx 0 (s.ring - n)
 | some l=>mx 0 (10 - (n - l))
def heldOn (h:Option (Btn×Option Int)) (n:Int):Option (Btn×Option Int) :=
 match h with
 | some (x,some k)=>some (x,some (k+n))
 | h=>h
def toBack (b:Bk) (s:WS):Int:=mx 1 (b.back - s.idle)
def idleOn (b:Bk) (s:WS) (n:Int):Int :=
 if s.held.isSome\/b.back=0 then s.idle else if n<toBack b s then s.idle+n else (n - toBack b s)%b.back
def lapsOn (s:WS) (n:Int):Int:=if s.lr then s.lm+n else s.lm
def leftOn (s:WS) (n:Int):Int:=if s.cr then mx 0 (s.cl - n) else s.cl
def runsOn (s:WS) (n:Int):Bool:=s.cr&&decide (0<mx 0 (s.cl - n))
def counted (b:Bk) (s:WS) (n:Int):WS :=
 {s with clock:=(s.clock+n)%86400,lm:=lapsOn s n,cl:=leftOn s n,cr:=runsOn s n,ring:=ringOn s n,held:=heldOn s.held n,idle:=idleOn b s n}
def goesBack (b:Bk) (s:WS):Bool:=decide (0<b.back)&&(!decide (s.mode=0)&&!(b.modes.getD s.mode default).stays)
def turnTick (b:Bk) (s:WS):Option Int :=
 match s.held with
 | none=>if goesBack b s then some (toBack b s) else none
 | some (_,none)=>none
 | some (_,some k)=>some (mx 1 (b.hold - k))
def turned (b:Bk) (s:WS):WS :=
 match s.held with
 | none=>{s with mode:=0}
 | some (x,_)=>press b {s with held:=some (x,none)} (x.ix+3)
def behind (b:Bk) (s:WS) (t:Int):WS:=turned b (counted b s t)
def ticked (b:Bk) (s:WS) (n:Int):WS :=
 match turnTick b s with
 | none=>counted b s n
 | some t=>if n<t then counted b s n else counted b (behind b s t) (n - t)
def pushed (s:WS) (x:Btn):WS:=if s.held.isSome then s else {s with ring:=0,held:=some (x,if 0<s.ring then none else some 0),idle:=0}
def letGo (b:Bk) (s:WS) (x:Btn):WS :=
 match s.held with
 | some (y,k)=>if y=x then { (if k.isSome then press b s x.ix else s) with held:=none,idle:=0} else s
 | none=>s
inductive Ev | down (x:Btn) | up (x:Btn) | ticks (n:Int)
 deriving DecidableEq
def Ev.d:Ev->D
 | .down x=>.tup [.str (Str.ofString "down"),.str x.x]
 | .up x=>.tup [.str (Str.ofString "up"),.str x.x]
 | .ticks n=>.tup [.str (Str.ofString "ticks"),.int n]
def gone (b:Bk) (s:WS):Ev->WS
 | .down x=>pushed s x
 | .up x=>letGo b s x
 | .ticks n=>ticked b s n
theorem mxl (i j:Int):i<=mx i j:=by unfold mx;split<;>omega
def ringN (aon:Bool) (a:Int) (cr:Bool) (c r n:Int):Int :=
 if aon=true/\a<=n then (if cr=true/\c<=n then mx 0 (10 - (n - mx (n - (n - a)%86400) c)) else mx 0 (10 - (n - a)%86400)) else if cr=true/\c<=n then mx 0 (10 - (n - c)) else mx 0 (r - n)
theorem ringOn_eq (s:WS) (n:Int):ringOn s n=ringN s.aon ((s.sec - s.clock - 1)%86400+1) s.cr s.cl s.ring n:=by
 unfold ringOn lastRing alarmTick countTick ringN
 generalize (s.sec - s.clock - 1)%86400+1=a
 have e:∀ x:Int,n - (n - x)=x:=fun x=>by omega
 cases s.aon<;>cases s.cr<;>by_cases h1:a<=n<;>by_cases h2:s.cl<=n<;>simp [h1,h2,e]
theorem toBack_eq {b:Bk} {s:WS} (h:s.idle<b.back):toBack b s=b.back - s.idle:=by unfold toBack mx;split<;>omega
theorem mod_sub_self (x b:Int):(x - b)%b=x%b:=Int.sub_emod_right x b
theorem idleOn_eq {b:Bk} {s:WS} {n:Int} (w:s.Wk b) (hn:0<=n):idleOn b s n=if s.held.isSome=true\/b.back=0 then s.idle else (s.idle+n)%b.back:=by
 unfold idleOn
 have h0:=w.idle0
 by_cases h:s.held.isSome=true\/b.back=0
 ·rw [if_pos h,if_pos h]
 ·have hb:0<b.back:=by
   have:¬ b.back=0:=fun z=>h (.inr z)
   have:=w.bk
   omega
  have h1:=w.idle1 hb
  rw [if_neg h,if_neg h,toBack_eq h1]
  by_cases h2:n<b.back - s.idle
  ·rw [if_pos h2,Int.emod_eq_of_lt (by omega) (by omega)]
  ·rw [if_neg h2,show n - (b.back - s.idle)=s.idle+n - b.back by omega,mod_sub_self]
theorem emodlt (a:Int) {b:Int} (h:0<b):a%b<b:=Int.emod_lt_of_pos a h
theorem emodnn (a:Int) {b:Int} (h:0<b):0<=a%b:=Int.emod_nonneg a (by omega)
theorem ringN_b (aon:Bool) (a:Int) (cr:Bool) (c r n:Int) (hr:r<=10) (hn:0<=n) (hc:cr=true->0<c) (ha:1<=a):0<=ringN aon a cr c r n/\ringN aon a cr c r n<=10:=by
 unfold ringN
 split
 ·split
  ·unfold mx;split<;>(try split)<;>omega
  ·unfold mx;split<;>omega
 ·split
  ·unfold mx;split<;>omega
  ·unfold mx;split<;>omega
theorem WS.Wk.cnt {b:Bk} {s:WS} {n:Int} (w:s.Wk b) (hn:0<=n):(counted b s n).Wk b:=by
 have hr:=ringN_b s.aon ((s.sec - s.clock - 1)%86400+1) s.cr s.cl s.ring n w.ring1 hn w.cr (by omega)
 rw [<- ringOn_eq] at hr
 have hl0:=w.lm0
 have hi:=idleOn_eq w hn
 have hcl0:=w.cl0
 have hcl1:=w.cl1
 exact {
  bk:=w.bk,mode:=w.mode,clock0:=emodnn _ (by decide),clock1:=emodlt _ (by decide),ah0:=w.ah0,ah1:=w.ah1,am0:=w.am0,am1:=w.am1
  lm0:=by show 0<=lapsOn s n;unfold lapsOn;split<;>omega
  lk:=w.lk,cm0:=w.cm0,cm1:=w.cm1,cs0:=w.cs0,cs1:=w.cs1
  cl0:=by show 0<=leftOn s n;unfold leftOn mx;split<;>(try split)<;>omega
  cl1:=by show leftOn s n<3600;unfold leftOn mx;split<;>(try split)<;>omega
  cr:=by
   show runsOn s n=true->0<leftOn s n
   intro h
   unfold runsOn at h
   unfold leftOn
   cases hc:s.cr
   ·rw [hc] at h;cases h
   ·rw [hc] at h;simp at h;simp;exact h
  ring0:=hr.1,ring1:=hr.2
  idle0:=by
   show 0<=idleOn b s n
   rw [hi]
   split
   ·exact w.idle0
   ·rename_i h
    have:¬ b.back=0:=fun z=>h (.inr z)
    exact Int.emod_nonneg _ this
  idle1:=fun hb=>by
   show idleOn b s n<b.back
   rw [hi]
   split
   ·exact w.idle1 hb
   ·exact emodlt _ hb
  idle2:=fun hb=>by
   show idleOn b s n=0
   rw [hi,if_pos (.inr hb)]
   exact w.idle2 hb}
theorem uP {b:Bk} (ok:b.Ok) {m i:Nat} (hm:m<b.modes.length) (hi:i<6):(b.row m i).2<b.modes.length:=by
 unfold Bk.row
 have e:b.modes.getD m default=b.modes[m]:=by simp [List.getD_eq_getElem?_getD,hm]
 rw [e]
 have o:=ok.all _ (List.getElem_mem hm)
 have hi':i<b.modes[m].rows.length:=by rw [o.six];exact hi
 have e2:b.modes[m].rows.getD i (.none,0)=b.modes[m].rows[i]:=by simp [List.getD_eq_getElem?_getD,hi']
 rw [e2]
 exact o.nx _ (List.getElem_mem hi')
theorem deed_held (d:Deed) (s:WS):(deed d s).held=s.held:=by
 cases d<;>simp [deed,setTo]<;>(repeat' split)<;>rfl
theorem WS.Wk.set {b:Bk} {s:WS} (w:s.Wk b) {m c:Int} (m0:0<=m) (m1:m<60) (c0:0<=c) (c1:c<60):(setTo s m c).Wk b:=by
 unfold setTo
 split
 ·exact w
 ·exact {w with cm0:=m0,cm1:=m1,cs0:=c0,cs1:=c1,cl0:=(by show 0<=60*m+c;omega),cl1:=(by show 60*m+c<3600;omega),cr:=fun h=>by cases h}
theorem WS.Wk.dd {b:Bk} {s:WS} (w:s.Wk b) (d:Deed):(deed d s).Wk b:=by
 have c0:=w.clock0;have c1:=w.clock1
 cases d with
 | none=>exact w
 | hour=>exact {w with clock0:=emodnn _ (by decide),clock1:=emodlt _ (by decide)}
 | minute=>exact {w with clock0:=(by show 0<=s.clock - s.clock%3600+(s.clock%3600+60)%3600;omega),clock1:=(by show s.clock - s.clock%3600+(s.clock%3600+60)%3600<86400;omega)}
 | zero=>exact {w with clock0:=(by show 0<=s.clock - s.clock%60;omega),clock1:=(by show s.clock - s.clock%60<86400;omega)}
 | ahour=>exact {w with ah0:=emodnn _ (by decide),ah1:=emodlt _ (by decide)}
 | aminute=>exact {w with am0:=emodnn _ (by decide),am1:=emodlt _ (by decide)}
 | alarm=>exact {w with}
 | run=>exact {w with}
 | lap =>
  show (if s.lr then (if 4<=s.lk.length then s else {s with lk:=s.lk++[s.lm]}) else {s with lm:=0,lk:=[]}:WS).Wk b
  split
  ·split
   ·exact w
   ·exact {w with lk:=(by show (s.lk++[s.lm]).length<=4;simp;omega)}
  ·exact {w with lm0:=Int.le_refl 0,lk:=Nat.zero_le _}
 | cminute=>exact w.set (emodnn _ (by decide)) (emodlt _ (by decide)) w.cs0 w.cs1
 | csecond=>exact w.set w.cm0 w.cm1 (emodnn _ (by decide)) (emodlt _ (by decide))
 | full=>exact w.set w.cm0 w.cm1 w.cs0 w.cs1
 | count =>
  have hc:(!s.cr&&decide (0<s.cl))=true->0<s.cl:=fun h=>by simp at h;exact h.2
  exact {w with cr:=hc}
theorem WS.Wk.prs {b:Bk} {s:WS} (ok:b.Ok) (w:s.Wk b) {i:Nat} (hi:i<6):(press b s i).Wk b:=by
 have z:=w.dd (b.row s.mode i).1
 exact {z with mode:=uP ok w.mode hi}
theorem press_held (b:Bk) (s:WS) (i:Nat):(press b s i).held=s.held:=deed_held _ _
theorem Btn.ix3 (x:Btn):x.ix+3<6:=by cases x<;>decide
theorem Btn.ix6 (x:Btn):x.ix<6:=by cases x<;>decide
theorem WS.Wk.trn {b:Bk} {s:WS} (ok:b.Ok) (w:s.Wk b):(turned b s).Wk b:=by
 unfold turned
 split
 ·exact {w with mode:=ok.some1}
 ·rename_i x k e
  exact WS.Wk.prs (s:={s with held:=some (x,none)}) ok {w with} x.ix3
theorem turned_turn {b:Bk} {s:WS}:turnTick b (turned b s)=none:=by
 unfold turned
 split
 ·rename_i e
  unfold turnTick
  simp [e,goesBack]
 ·rename_i x k e
  unfold turnTick
  rw [press_held]
theorem turn_pos {b:Bk} {s:WS} {t:Int} (h:turnTick b s=some t):1<=t:=by
 unfold turnTick at h
 split at h
 ·split at h
  ·cases h;exact mxl _ _
  ·cases h
 ·cases h
 ·cases h;exact mxl _ _
theorem WS.Ok.cnt {b:Bk} {s:WS} {n:Int} (w:s.Ok b) (hn:0<=n) (h:∀ t,turnTick b s=some t->n<t):(counted b s n).Ok b:=by
 refine {w.toWk.cnt hn with held:=fun x k e=>?_}
 have e':heldOn s.held n=some (x,some k):=e
 rcases hs:s.held with _ | ⟨y,_ | j⟩
 ·rw [hs] at e';cases e'
 ·rw [hs] at e';cases e'
 ·rw [hs] at e'
  simp [heldOn] at e'
  obtain ⟨rfl,rfl⟩:=e'
  have hj:=w.held y j hs
  have ht:=h (mx 1 (b.hold - j)) (by unfold turnTick;rw [hs])
  unfold mx at ht
  split at ht<;>omega
theorem turned_ok {b:Bk} {s:WS} (ok:b.Ok) (w:s.Wk b):(turned b s).Ok b:=by
 refine {w.trn ok with held:=fun x k e=>?_}
 unfold turned at e
 split at e
 ·rename_i e2
  simp at e
  rw [e2] at e;cases e
 ·rw [press_held] at e;cases e
theorem tick_ok {b:Bk} {s:WS} {n:Int} (ok:b.Ok) (w:s.Ok b) (hn:0<=n):(ticked b s n).Ok b:=by
 unfold ticked
 split
 ·rename_i e
  exact w.cnt hn fun t ht=>by rw [e] at ht;cases ht
 ·rename_i t e
  have ht:=turn_pos e
  split
  ·rename_i h
   exact w.cnt hn fun t' ht'=>by rw [e] at ht';cases ht';exact h
  ·rename_i h
   exact (turned_ok ok (w.toWk.cnt (by omega))).cnt (by omega) fun t' ht'=>by rw [turned_turn] at ht';cases ht'
theorem push_ok {b:Bk} {s:WS} (ok:b.Ok) (w:s.Ok b) (x:Btn):(pushed s x).Ok b:=by
 unfold pushed
 split
 ·exact w
 ·have hh:=ok.hold1
  refine {w with ring0:=Int.le_refl 0,ring1:=(by show (0:Int)<=10;decide),idle0:=Int.le_refl 0,idle1:=fun h=>h,idle2:=fun _=>rfl,held:=fun y k e=>?_}
  simp at e
  obtain ⟨_,h2,h3⟩:=e
  subst h3
  omega
theorem let_ok {b:Bk} {s:WS} (ok:b.Ok) (w:s.Ok b) (x:Btn):(letGo b s x).Ok b:=by
 unfold letGo
 split
 ·split
  ·have z:(if (by assumption:Option Int).isSome then press b s x.ix else s).Wk b:=by
    split
    ·exact w.toWk.prs ok x.ix6
    ·exact w.toWk
   exact {z with idle0:=Int.le_refl 0,idle1:=fun h=>h,idle2:=fun _=>rfl,held:=fun y k e=>by cases e}
  ·exact w
 ·exact w
def Ev.Ok:Ev->Prop
 | .ticks n=>1<=n
 | _=>True
theorem gone_ok {b:Bk} {s:WS} (ok:b.Ok) (w:s.Ok b) (e:Ev) (h:e.Ok):(gone b s e).Ok b:=by
 cases e with
 | down x=>exact push_ok ok w x
 | up x=>exact let_ok ok w x
 | ticks n=>exact tick_ok ok w (by have:1<=n:=h;omega)
def begun0:WS:=⟨0,0,0,0,false,0,false,[],0,0,0,false,0,none,0⟩
theorem begun_ok {b:Bk} (ok:b.Ok):begun0.Ok b where
 bk:=ok.back0
 mode:=ok.some1
 clock0:=by decide
 clock1:=by decide
 ah0:=by decide
 ah1:=by decide
 am0:=by decide
 am1:=by decide
 lm0:=by decide
 lk:=by decide
 cm0:=by decide
 cm1:=by decide
 cs0:=by decide
 cs1:=by decide
 cl0:=by decide
 cl1:=by decide
 cr:=by decide
 ring0:=by decide
 ring1:=by decide
 idle0:=by decide
 idle1:=fun h=>h
 idle2:=fun _=>rfl
 held:=fun x k e=>by cases e
def afterE (b:Bk) (s:WS) (es:List Ev):WS:=es.foldl (gone b) s
theorem after_ok {b:Bk} (ok:b.Ok):∀ {es:List Ev} {s:WS},s.Ok b->(∀ e∈es,e.Ok)->(afterE b s es).Ok b
 | [],_,w,_=>w
 | e::es,s,w,h=>after_ok (es:=es) ok (gone_ok ok w e (h e List.mem_cons_self)) fun x hx=>h x (List.mem_cons_of_mem _ hx)
theorem after_app (b:Bk) (s:WS) (es fs:List Ev):afterE b s (es++fs)=afterE b (afterE b s es) fs:=List.foldl_append
abbrev Pr:=Btn×Bool
def Pr.x (p:Pr):Str:=if p.2 then p.1.X else p.1.x
def Pr.ix (p:Pr):Nat:=if p.2 then p.1.ix+3 else p.1.ix
def Pr.evs (b:Bk) (p:Pr):List Ev:=if p.2 then [.down p.1,.ticks b.hold,.up p.1] else [.down p.1,.up p.1]
def Pr.code (p:Pr):Nat:=(if p.2 then 65 else 97)+p.1.ix
end HW
namespace HW
open PySem
@[simp] def cInT (x y:D):Option Bool:=(sI x).bind fun a=>(sI y).map fun b=>!(Builtin.Str.occurrences b a 0 b.length 1).isEmpty
def strsD:List D->Option (List Str)
 | []=>some []
 | d::r=>(sI d).bind fun x=>(strsD r).map fun xs=>x::xs
def joinS (sep:Str) (xs:List Str):Option Str:=if xs.toArray.foldl (fun n x=>n+x.length+sep.length) 0<=sizeLine/\(Builtin.Str.glued sep xs).length<=sizeLine then some (Builtin.Str.glued sep xs) else none
@[simp] def fJoin:List D->Option D
 | [.str s,.lst ds]=>(strsD ds).bind fun xs=>(joinS s xs).map .str
 | _=>none
@[simp] def fJoinR:List D->Option D
 | [.str s,.lst ds]=>(strsD ds.reverse).bind fun xs=>(joinS s xs).map .str
 | _=>none
def rjS (x:Str) (n c:Nat):Str:=if n<=x.length then x else Builtin.Str.padded x (n - x.length) 0 c
@[simp] def fRj:List D->Option D
 | [.str x,.int i,.str f]=>if 0<=i/\i<=1000/\f.length=1 then some (.str (rjS x i.toNat (f.cps.getD 0 0))) else none
 | _=>none
def splitS (x y:Str):List Str :=
 if (decide (x.length<y.length)||decide (Builtin.Str.strKind x<Builtin.Str.strKind y))=true\/(Builtin.Str.occurrences x y 0 x.length (x.length+1)).isEmpty=true then [x] else Builtin.Str.partsBetween x (Builtin.Str.occurrences x y 0 x.length (x.length+1)) y.length
@[simp] def fSplit:List D->Option D
 | [.str x,.str y]=>if y.length=1/\x.length<=sizeLine/\(splitS x y).length<=sizeLine then some (.lst ((splitS x y).map .str)) else none
 | _=>none
@[simp] def dSlS:D->Option Int->Option Int->Option D
 | .str z,lo,hi=>if z.length<=sizeLine then some (.str (Txt.slice z lo hi)) else none
 | _,_,_=>none
@[simp] def slT (f:R->Option D) (l h:R->Option (Option Int)):R->Option D:=fun ρ=>(f ρ).bind fun x=>(l ρ).bind fun a=>(h ρ).bind fun b=>dSlS x a b
@[simp] def fIntS:List D->Option D
 | [.str x]=>if x.length<=640 then (PySem.intText? x).map .int else none
 | _=>none
def rng3N (a b c:Int):Nat:=if a<b then ((b - a - 1) / c+1).toNat else 0
def rng3D (a b c:Int):List D:=(List.range (rng3N a b c)).map fun (k:Nat)=>D.int (a+(k:Int)*c)
@[simp] def inRng3 (f g h:R->Option D):R->Option (List D):=fun ρ=>(f ρ).bind fun x=>(g ρ).bind fun y=>(h ρ).bind fun z=>(nI x).bind fun i=>(nI y).bind fun j=>(nI z).bind fun c =>
 if -(2 ^ 60)<=i/\i<2 ^ 60 /\ -(2 ^ 60)<=j/\j<2 ^ 60/\0<c/\c<1073741824 then some (rng3D i j c) else none
@[simp] def whl0 (c:R->Option Bool):R->Option Out:=fun ρ=>(c ρ).bind fun b=>if b then none else some (.nx ρ)
@[simp] def fLenS:List D->Option D
 | [.str x]=>if x.length<=sizeLine then some (.int x.length) else none
 | _=>none
end HW
namespace HW
open PySem PySem.Spec PyProof.Rows L2
end HW
namespace HW
open PySem PySem.Spec PyProof.Rows L2
section
variable {X:Cx} {pins:List (Addr×Obj)} {σ:L2.St} {H:Hp} {s:Shared}
end
end HW
namespace HW
open PySem PySem.Spec PyProof.Rows L2
theorem lookup_nd {α:Type}:∀ {l:List (Str×α)} {x:Str} {u:α},(l.map (·.1)).Nodup->(x,u)∈l->l.lookup x=some u
 | (y,v)::l,x,u,nd,h=>by
  rw [List.map_cons,List.nodup_cons] at nd
  rw [List.lookup_cons]
  rcases List.mem_cons.mp h with e | h
  ·cases e;simp
  ·have hn:(x==y)=false:=beq_eq_false_iff_ne.mpr fun z=>nd.1 (List.mem_map.mpr ⟨(x,u),h,z⟩)
   rw [hn]
   exact lookup_nd nd.2 h
def isC (cl:List (Str×Addr)) (b:Addr):Bool:=cl.any fun p=>p.2==b
end HW
namespace HW
open PySem PySem.Spec PyProof.Rows L2
def Its (x:Str):It:=⟨fun i _=>i<x.cps.size,fun i H v H'=>H'=H/\∃ c,x.cps[i]?=some c/\v=.str ⟨#[c]⟩,fun i _=>x.cps.size<=i⟩
theorem turn_str {P:Program} {w:World} {K:PySem.W.Frag} {tg:Expr} (it:Addr) (x:Str) (t:Tok):Turn P w K tg (Its x) [it] it (fun i h=>h.IsStrIter it "str_ascii_iterator" x t i) where
 mem:=by simp
 obj:=fun i h st b hb=>by
  have e:b=it:=by simpa using hb
  subst e
  obtain ⟨o,e,c,d⟩:=st
  exact ⟨o,e,fun v z=>by rw [d] at z;cases z⟩
 keep:=fun i h h' st k=>by
  obtain ⟨o,e,r⟩:=st
  exact ⟨o,k it (by simp) o e,r⟩
 item:=by
  intro X hP hw hK hc i pins s σ H E I hf st hg
  subst hP hw hK
  have hg':i<x.cps.size:=hg
  obtain ⟨f0,f1,f2,f3,f4,f5⟩:=hf it (by simp)
  refine wpAny_pyNext_ascii_item st (c:=x.cps[i]) (by simp [hg']) fun h' st' sb=>?_
  have I1:L2.Inv X pins σ H {s with heap:=h',toks:=s.toks+1}:=I.turned (t':=s.toks+1) (fun b o hb e=>(sb.2 b hb).trans e) f0 f1 f3 f4 f5
  obtain ⟨o,e,c,d⟩:=id st'
  exact ⟨_,rfl,go_of (s:={s with heap:=h',toks:=s.toks+1}) e c d (by decide) ⟨.str ⟨#[x.cps[i]]⟩,H,I1,⟨_,rfl⟩,⟨rfl,_,by simp [hg'],rfl⟩,st',fun b hb=>(hf b hb).1⟩⟩
 done:=by
  intro X hP hw hK hc i pins s σ H E I hf st hg
  subst hP hw hK
  have hg':x.cps.size<=i:=hg
  obtain ⟨f0,f1,f2,f3,f4,f5⟩:=hf it (by simp)
  exact wpAny_pyNext_ascii_end (I.ok.hd hc) st (by simp;omega) fun h' eb=>⟨rfl,I.turned (t':=s.toks) (fun b o hb e=>eb b o hb e) f0 f1 f3 f4 f5⟩
 self:=fun _ _ _ _ _ st h=>wpAny_pyIter_striter_ascii st h
end HW
namespace HW
open PySem PySem.Spec PyProof.Rows L2
def ObH (H:Hp) (k a:Nat) (ks:List Str) (vs:List V):Prop:=match k with
 | 0=>vs.length<=sizeLine/\∃ (its:List Value) (n:Nat),Vals vs its/\H a=some (.frz {cls:=.type "list",data:=.seq its.toArray n} (.own 0))
 | 1=>ks.length=vs.length/\H a=some (.dK ((ks.map Sum.inr).zip vs))
 | C+2=>ks.length=vs.length/\∃ dx,H a=some (.ins C dx (ks.zip vs))
theorem ObH.to {H H':Hp} {k a:Nat} {ks:List Str} {vs:List V} (h:ObH H k a ks vs) (e:∀ u,H a=some u->(∀ φ,u≠.ext φ)->H' a=some u):ObH H' k a ks vs:=by
 match k,h with
 | 0,⟨z,its,n,r,q⟩=>exact ⟨z,its,n,r,e _ q fun φ z=>by cases z⟩
 | 1,⟨z,q⟩=>exact ⟨z,e _ q fun φ z=>by cases z⟩
 | C+2,⟨z,dx,q⟩=>exact ⟨z,dx,e _ q fun φ z=>by cases z⟩
mutual
def Rep (K:PySem.W.Frag) (H:Hp):D->V->Prop
 | .non,v=>v=.non
 | .bl b,v=>v=.bl b
 | .int i,v=>v=.int i
 | .str x,v=>v=.str x
 | .tup ds,v=>∃ a xs,v=.ref a/\SqT K H a xs/\Reps K H ds xs
 | .lst ds,v=>∃ a xs,v=.ref a/\H a=some (.lst xs)/\Reps K H ds xs
 | .fro ds,v=>∃ a xs,v=.ref a/\SqL K H a xs/\Reps K H ds xs
 | .obj k a ks ds,v=>∃ xs,v=.ref a/\ObH H k a ks xs/\Reps K H ds xs
def Reps (K:PySem.W.Frag) (H:Hp):List D->List V->Prop
 | [],vs=>vs=[]
 | d::ds,vs=>∃ v r,vs=v::r/\Rep K H d v/\Reps K H ds r
end
theorem sameT {K:PySem.W.Frag} {H H':Hp} {a:Addr} {xs:List V} (e:Same H H') (h:SqT K H a xs):SqT K H' a xs:=by
 rcases h with (h | ⟨o,h⟩) | h
 ·exact .inl (.inl (e _ _ h))
 ·exact .inl (.inr ⟨o,e _ _ h⟩)
 ·exact .inr h
mutual
theorem Rep.mono {K:PySem.W.Frag} {H H':Hp} (s:Same H H'):∀ {d:D} {v:V},Rep K H d v->Rep K H' d v
 | .non,_,h=>h
 | .bl _,_,h=>h
 | .int _,_,h=>h
 | .str _,_,h=>h
 | .tup ds,_,h=>by
  obtain ⟨a,xs,e,q,r⟩:=h
  exact ⟨a,xs,e,sameT s q,Reps.mono s r⟩
 | .lst ds,_,h=>by
  obtain ⟨a,xs,e,q,r⟩:=h
  exact ⟨a,xs,e,s _ _ q,Reps.mono s r⟩
 | .fro ds,_,h=>by
  obtain ⟨a,xs,e,q,r⟩:=h
  exact ⟨a,xs,e,s.seq q,Reps.mono s r⟩
 | .obj k a ks ds,_,h=>by
  obtain ⟨xs,e,q,r⟩:=h
  exact ⟨xs,e,q.to fun u z _=>s _ u z,Reps.mono s r⟩
theorem Reps.mono {K:PySem.W.Frag} {H H':Hp} (s:Same H H'):∀ {ds:List D} {vs:List V},Reps K H ds vs->Reps K H' ds vs
 | [],_,h=>h
 | d::ds,_,h=>by
  obtain ⟨v,r,e,q,t⟩:=h
  exact ⟨v,r,e,Rep.mono s q,Reps.mono s t⟩
end
section
variable {K:PySem.W.Frag} {H:Hp}
theorem Reps.length:∀ {ds:List D} {vs:List V},Reps K H ds vs->ds.length=vs.length
 | [],_,h=>by cases (show _=[] from h);rfl
 | d::ds,_,h=>by
  obtain ⟨v,r,e,q,t⟩:=h
  subst e
  simp [Reps.length t]
theorem Reps.get:∀ {ds:List D} {vs:List V} {i:Nat} {d:D},Reps K H ds vs->ds[i]?=some d->∃ v,vs[i]?=some v/\Rep K H d v
 | [],_,_,_,_,e=>by simp at e
 | d::ds,_,0,_,h,e=>by
  obtain ⟨v,r,e',q,t⟩:=h
  subst e'
  simp at e
  subst e
  exact ⟨v,by simp,q⟩
 | d::ds,_,i+1,_,h,e=>by
  obtain ⟨v,r,e',q,t⟩:=h
  subst e'
  obtain ⟨u,h1,h2⟩:=Reps.get (i:=i) t (by simpa using e)
  exact ⟨u,by simpa using h1,h2⟩
theorem Reps.append:∀ {ds es:List D} {vs us:List V},Reps K H ds vs->Reps K H es us->Reps K H (ds++es) (vs++us)
 | [],_,_,_,h,t=>by cases (show _=[] from h);exact t
 | d::ds,_,_,_,h,t=>by
  obtain ⟨v,r,e',q,t'⟩:=h
  subst e'
  exact ⟨v,_,rfl,q,Reps.append t' t⟩
theorem Reps.drop:∀ (n:Nat) {ds:List D} {vs:List V},Reps K H ds vs->Reps K H (ds.drop n) (vs.drop n)
 | 0,_,_,h=>by simpa using h
 | n+1,[],_,h=>by cases (show _=[] from h);exact rfl
 | n+1,d::ds,_,h=>by
  obtain ⟨v,r,e',q,t'⟩:=h
  subst e'
  simpa using Reps.drop n t'
theorem Reps.take:∀ (n:Nat) {ds:List D} {vs:List V},Reps K H ds vs->Reps K H (ds.take n) (vs.take n)
 | 0,_,_,h=>by simp only [List.take_zero];exact rfl
 | n+1,[],_,h=>by cases (show _=[] from h);exact rfl
 | n+1,d::ds,_,h=>by
  obtain ⟨v,r,e',q,t'⟩:=h
  subst e'
  rw [List.take_succ_cons,List.take_succ_cons]
  exact ⟨v,_,rfl,q,Reps.take n t'⟩
theorem Reps.one {d:D} {v:V} (h:Rep K H d v):Reps K H [d] [v]:=⟨v,[],rfl,h,rfl⟩
theorem Reps.nil:Reps K H [] []:=rfl
theorem Reps.cons {d:D} {v:V} {ds:List D} {vs:List V} (h:Rep K H d v) (t:Reps K H ds vs):Reps K H (d::ds) (v::vs):=⟨v,vs,rfl,h,t⟩
theorem Reps.reverse:∀ {ds:List D} {vs:List V},Reps K H ds vs->Reps K H ds.reverse vs.reverse
 | [],_,h=>by cases (show _=[] from h);exact rfl
 | d::ds,_,h=>by
  obtain ⟨v,r,e',q,t'⟩:=h
  subst e'
  rw [List.reverse_cons,List.reverse_cons]
  exact Reps.append (Reps.reverse t') (Reps.one q)
def EnvR (K:PySem.W.Frag) (H:Hp) (ρ:R) (σ:L2.St):Prop:=ρ.length<=σ.length/\∀ (i:Nat) (d:D),ρ[i]?=some (some d)->∃ v,σ[i]?=some (some v)/\Rep K H d v
theorem EnvR.mono {H':Hp} {ρ:R} {σ:L2.St} (e:EnvR K H ρ σ) (s:Same H H'):EnvR K H' ρ σ:=⟨e.1,fun i d h=>let ⟨v,a,b⟩:=e.2 i d h;⟨v,a,b.mono s⟩⟩
theorem EnvR.at {ρ:R} {σ:L2.St} (e:EnvR K H ρ σ) {i:Nat} {d:D} (h:vAt i ρ=some d):∃ v,σ[i]?=some (some v)/\Rep K H d v:=by
 refine e.2 i d ?_
 unfold vAt at h
 rw [List.getD_eq_getElem?_getD] at h
 cases q:ρ[i]? with
 | none=>rw [q] at h;cases h
 | some o=>rw [q] at h;cases (show o=some d from h);rfl
theorem EnvR.set {ρ:R} {σ:L2.St} (e:EnvR K H ρ σ) {i:Nat} {d:D} {v:V} (r:Rep K H d v):EnvR K H (ρ.set i (some d)) (σ.set i (some v)):=by
 refine ⟨by simpa using e.1,fun j c h=>?_⟩
 by_cases hj:i=j
 ·subst hj
  by_cases hi:i<ρ.length
  ·rw [List.getElem?_set_self hi] at h
   cases h
   exact ⟨v,by rw [List.getElem?_set_self (Nat.lt_of_lt_of_le hi e.1)],r⟩
  ·rw [List.getElem?_eq_none (by simpa using hi)] at h
   cases h
 ·rw [List.getElem?_set_ne hj] at h ⊢
  exact e.2 j c h
theorem EnvR.front {ρ:R} {σ:L2.St} (e:EnvR K H ρ σ) (k:Nat) (τ:L2.St) (hk:τ.length=k):EnvR K H (List.replicate k none++ρ) (τ++σ):=by
 subst hk
 refine ⟨by simpa using e.1,fun i d h=>?_⟩
 by_cases hi:i<τ.length
 ·rw [List.getElem?_append_left (by simpa using hi),List.getElem?_replicate] at h
  split at h<;>cases h
 ·rw [List.getElem?_append_right (by simpa using hi),List.length_replicate] at h
  rw [List.getElem?_append_right (by simpa using hi)]
  exact e.2 _ d h
end
def EnvT (K:PySem.W.Frag) (H:Hp) (ρ:R) (τ:L2.St) (σ:L2.St):Prop:=EnvR K H ρ σ/\σ.drop ρ.length=τ
theorem EnvR.t {K:PySem.W.Frag} {H:Hp} {ρ:R} {σ:L2.St} (e:EnvR K H ρ σ):EnvT K H ρ (σ.drop ρ.length) σ:=⟨e,rfl⟩
theorem EnvT.mono {K:PySem.W.Frag} {H H':Hp} {ρ:R} {τ σ:L2.St} (e:EnvT K H ρ τ σ) (s:Same H H'):EnvT K H' ρ τ σ:=⟨e.1.mono s,e.2⟩
theorem EnvT.set {K:PySem.W.Frag} {H:Hp} {ρ:R} {τ σ:L2.St} (e:EnvT K H ρ τ σ) {i:Nat} {d:D} {v:V} (hi:i<ρ.length) (r:Rep K H d v):EnvT K H (ρ.set i (some d)) τ (σ.set i (some v)):=by
 refine ⟨e.1.set r,?_⟩
 rw [List.length_set,List.drop_set_of_lt hi]
 exact e.2
section
variable (K:PySem.W.Frag)
def tD (f:R->Option D):TE:=fun σ H Q=>∃ ρ d,EnvR K H ρ σ/\f ρ=some d/\∀ v H',Same H H'->Rep K H' d v->Q v H'
def tDT (f:R->Option Bool):TT:=fun σ H Q=>∃ ρ b,EnvR K H ρ σ/\f ρ=some b/\∀ H',Same H H'->Q b H'
def tDA (f:R->Option (List D)):TA:=fun σ H Q=>∃ ρ ds,EnvR K H ρ σ/\f ρ=some ds/\∀ vs H',Same H H'->Reps K H' ds vs->Q vs H'
def tDO (f:R->Option (Option Int)):TO:=fun σ H Q=>∃ ρ o,EnvR K H ρ σ/\f ρ=some o/\∀ H',Same H H'->Q o H'
def fin (E:Ends) (τ:L2.St) (o:Out) (H':Hp):Prop :=
 match o with
 | .nx ρ=>∀ σ,EnvT K H' ρ τ σ->E.nx σ H'
 | .rt d=>∀ v,Rep K H' d v->E.rt v H'
 | .bk ρ=>∀ σ,EnvT K H' ρ τ σ->E.bk σ H'
 | .ct ρ=>∀ σ,EnvT K H' ρ τ σ->E.ct σ H'
def tDS (f:R->Option Out):TS:=fun E σ H=>∃ ρ τ o,EnvT K H ρ τ σ/\f ρ=some o/\∀ H',Same H H'->fin K E τ o H'
def tDG (st:D->R->Option R):TG:=fun v σ H Q=>∃ ρ τ d ρ',EnvT K H ρ τ σ/\Rep K H d v/\st d ρ=some ρ'/\∀ σ' H',Same H H'->EnvT K H' ρ' τ σ'->Q σ' H'
def tDGs (sts:List (D->R->Option R)):TGs:=fun vs σ H Q=>∃ ρ τ ds ρ',EnvT K H ρ τ σ/\Reps K H ds vs/\manyD sts ds ρ=some ρ'/\∀ σ' H',Same H H'->EnvT K H' ρ' τ σ'->Q σ' H'
def Kp (H H':Hp):Prop:=∀ b u,H b=some u->(∀ φ,u≠.ext φ)->H' b=some u
def Yields (J:It) (ds:List D) (H:Hp):Prop :=
 (∀ (i:Nat) (d:D) (H2:Hp),Kp H H2->ds[i]?=some d->J.go i H2/\∀ x H3,J.yld i H2 x H3->Same H2 H3/\Rep K H3 d x)/\∀ (i:Nat) (H2:Hp),Kp H H2->ds.length<=i->J.stop i H2
def tDI (f:R->Option (List D)):TI:=fun σ H W=>∃ ρ ds,EnvR K H ρ σ/\f ρ=some ds/\∀ J H',Same H H'->Yields K J ds H'->W J H'
def spD (F:List D->Option D):Sp:=fun vs H Q _=>∃ ds d,Reps K H ds vs/\F ds=some d/\∀ v H',Same H H'->Rep K H' d v->Q v H'
end
def SE (X:Cx) (e:Expr) (f:R->Option D):Prop:=PE X e (tD X.K f)
def ST (X:Cx) (e:Expr) (f:R->Option Bool):Prop:=PT X e (tDT X.K f)
def SW (X:Cx) (e:Expr) (f:R->Option Bool):Prop:=PW X e (tDT X.K f)
def noStar:Expr->Bool
 | .Starred _ _=>false
 | _=>true
theorem aH {e:Expr} (es:List Expr) (env:Env) (h:noStar e=true):starEach (e::es) env=(false,eval e env)::starEach es env:=by
 cases e<;>first | rfl | cases h
theorem cc {pos:Pos} {env:Env}:∀ {es:List Expr},es.all noStar=true->(backTo pos (starEach es env)).any (·.1)=false
 | [],_=>rfl
 | e::es,h=>by
  rw [List.all_cons,Bool.and_eq_true] at h
  rw [aH es env h.1]
  show (false||(backTo pos (starEach es env)).any (·.1))=false
  rw [cc h.2]
  rfl
def SA (X:Cx) (es:List Expr) (f:R->Option (List D)):Prop:=PA X es (tDA X.K f)/\(∀ ρ ds,f ρ=some ds->ds.length=es.length)/\es.all noStar=true
def SO (X:Cx) (e:Option Expr) (f:R->Option (Option Int)):Prop:=PO X e (tDO X.K f)
def S1 (X:Cx) (s:Stmt) (f:R->Option Out):Prop:=PS X s (tDS X.K f)
def SS (X:Cx) (s:List Stmt) (f:R->Option Out):Prop:=PSs X s (tDS X.K f)
def SG (X:Cx) (e:Expr) (st:D->R->Option R):Prop:=PG X e (tDG X.K st)
def SGs (X:Cx) (es:List Expr) (sts:List (D->R->Option R)):Prop:=PGs X es (tDGs X.K sts)
def SI (X:Cx) (tg iter:Expr) (f:R->Option (List D)):Prop:=PI X tg iter (tDI X.K f)
section
variable {X:Cx} {e a b c:Expr} {es:List Expr} {pos p:Pos}
theorem _root_.L2.PE.imp {t t':TE} (h:PE X e t) (hi:∀ σ H Q,t' σ H Q->t σ H Q):PE X e t':=fun pins s σ H Q I q=>h pins s σ H Q I (hi σ H Q q)
theorem _root_.L2.PT.imp {t t':TT} (h:PT X e t) (hi:∀ σ H Q,t' σ H Q->t σ H Q):PT X e t':=fun pins s σ H Q I q=>h pins s σ H Q I (hi σ H Q q)
theorem _root_.L2.PW.imp {t t':TT} (h:PW X e t) (hi:∀ σ H Q,t' σ H Q->t σ H Q):PW X e t':=fun wh pins s σ H Q I q=>h wh pins s σ H Q I (hi σ H Q q)
theorem _root_.L2.PA.imp {t t':TA} (h:PA X es t) (hi:∀ σ H Q,t' σ H Q->t σ H Q):PA X es t':=fun pos pins s σ H Q I q=>h pos pins s σ H Q I (hi σ H Q q)
theorem _root_.L2.PO.imp {e:Option Expr} {t t':TO} (h:PO X e t) (hi:∀ σ H Q,t' σ H Q->t σ H Q):PO X e t':=fun pins s σ H Q I q=>h pins s σ H Q I (hi σ H Q q)
theorem _root_.L2.PS.imp {s:Stmt} {t t':TS} (h:PS X s t) (hi:∀ E σ H,t' E σ H->t E σ H):PS X s t':=fun pins s σ H E I q=>h pins s σ H E I (hi E σ H q)
theorem _root_.L2.PSs.imp {s:List Stmt} {t t':TS} (h:PSs X s t) (hi:∀ E σ H,t' E σ H->t E σ H):PSs X s t':=fun pins s σ H E I q=>h pins s σ H E I (hi E σ H q)
theorem _root_.L2.PG.imp {t t':TG} (h:PG X e t) (hi:∀ v σ H Q,t' v σ H Q->t v σ H Q):PG X e t':=fun pins s σ H v u Q I r q=>h pins s σ H v u Q I r (hi v σ H Q q)
theorem _root_.L2.PGs.imp {t t':TGs} (h:PGs X es t) (hi:∀ v σ H Q,t' v σ H Q->t v σ H Q):PGs X es t':=fun pins s σ H v u Q I r q=>h pins s σ H v u Q I r (hi v σ H Q q)
theorem _root_.L2.PI.imp {tg:Expr} {t t':TI} (h:PI X tg e t) (hi:∀ σ H Q,t' σ H Q->t σ H Q):PI X tg e t':=fun pins s σ H W I q=>h pins s σ H W I (hi σ H W q)
theorem bindS {α β:Type} {o:Option α} {f:α->Option β} {y:β} (h:o.bind f=some y):∃ x,o=some x/\f x=some y:=by
 cases o with
 | none=>cases h
 | some x=>exact ⟨x,rfl,h⟩
theorem mapS {α β:Type} {o:Option α} {f:α->β} {y:β} (h:o.map f=some y):∃ x,o=some x/\f x=y:=by
 cases o with
 | none=>cases h
 | some x=>exact ⟨x,rfl,Option.some.inj h⟩
theorem ac (i:Nat) {x:Str} (hN:X.N[i]?=some x:=by rfl) (hv:Vis X.env.scope x:=by first | exact Or.inl rfl | exact Or.inr (Or.inl rfl) | exact Or.inr (Or.inr rfl)) (hd:(x==("__debug__" : Str))=false:=by decide)
  (hcd:(x==("__classdict__" : Str))=false:=by decide):SE X (.Name x pos) (vAt i):=(pJ hN hv hd hcd).imp fun σ H Q ⟨ρ,d,er,e,q⟩=>by
 obtain ⟨v,h1,h2⟩:=er.at e
 exact ⟨v,h1,q v H (Same.refl H) h2⟩
theorem ad {i j}:SE X (.Constant (.int i) j pos) (fun _=>some (.int i)):=pe_int.imp fun σ H Q ⟨ρ,d,er,e,q⟩=>by
 cases e
 exact q _ H (Same.refl H) rfl
theorem fv {b j}:SE X (.Constant (.bool b) j pos) (fun _=>some (.bl b)):=pe_bl.imp fun σ H Q ⟨ρ,d,er,e,q⟩=>by
 cases e
 exact q _ H (Same.refl H) rfl
theorem bw {j}:SE X (.Constant .none j pos) (fun _=>some .non):=pe_non.imp fun σ H Q ⟨ρ,d,er,e,q⟩=>by
 cases e
 exact q _ H (Same.refl H) rfl
theorem ay {x j}:SE X (.Constant (.str x) j pos) (fun _=>some (.str x)):=pe_str.imp fun σ H Q ⟨ρ,d,er,e,q⟩=>by
 cases e
 exact q _ H (Same.refl H) rfl
def Con (K:PySem.W.Frag) (mg:Str->Option Value) (x:Str) (d:D):Prop:=∃ u v,mg x=some u/\RelV v u/\∀ H,Rep K H d v
theorem aq {x:Str} {d:D} (h:Con X.K X.mg x d) (hg:Gl X x:=by rfl) (hd:(x==("__debug__" : Str))=false:=by decide):SE X (.Name x pos) (fun _=>some d):=by
 obtain ⟨u,v,hm,r,hr⟩:=h
 exact (lq hg hm r hd).imp fun σ H Q ⟨ρ,d',er,e,q⟩=>by
  cases e
  exact q v H (Same.refl H) (hr H)
def OpD (X:Cx) (f:Value->Value->Sem Value) (F:D->D->Option D):Prop :=
 OpR X f fun x y H Q=>∃ dx dy d,Rep X.K H dx x/\Rep X.K H dy y/\F dx dy=some d/\∀ v H',Same H H'->Rep X.K H' d v->Q v H'
def CmD (X:Cx) (op:CmpOp) (F:D->D->Option Bool):Prop :=
 OpR X (compareOp op) fun x y H Q=>∃ dx dy b,Rep X.K H dx x/\Rep X.K H dy y/\F dx dy=some b/\Q (.bl b) H
def UnD (X:Cx) (f:Value->Sem Value) (F:D->Option D):Prop :=
 UnR X f fun x H Q=>∃ dx d,Rep X.K H dx x/\F dx=some d/\∀ v H',Same H H'->Rep X.K H' d v->Q v H'
def CaD (X:Cx) (f:Value) (F:List D->Option D):Prop :=
 CallR X f fun xs H Q=>∃ ds d,Reps X.K H ds xs/\F ds=some d/\∀ v H',Same H H'->Rep X.K H' d v->Q v H'
theorem _root_.L2.OpR.imp {f:Value->Value->Sem Value} {r r':R2} (h:OpR X f r) (hi:∀ x y H Q,r' x y H Q->r x y H Q):OpR X f r':=fun pins s σ H x y v u Q I rx ry q=>h pins s σ H x y v u Q I rx ry (hi x y H Q q)
theorem _root_.L2.UnR.imp {f:Value->Sem Value} {r r':V->Hp->VK->Prop} (h:UnR X f r) (hi:∀ x H Q,r' x H Q->r x H Q):UnR X f r':=fun pins s σ H x v Q I rx q=>h pins s σ H x v Q I rx (hi x H Q q)
theorem _root_.L2.CallR.imp {f:Value} {r r':List V->Hp->VK->Prop} (h:CallR X f r) (hi:∀ x H Q,r' x H Q->r x H Q):CallR X f r':=fun pins s σ H xs us Q I rx q=>h pins s σ H xs us Q I rx (hi xs H Q q)
variable {f g h:R->Option D}
theorem two {σ:L2.St} {H:Hp} {Q:VK} {F:D->D->Option D} (q:tD X.K (op2 F f g) σ H Q) :
  tD X.K f σ H fun x H1=>tD X.K g σ H1 fun y H2=>∃ dx dy d,Rep X.K H2 dx x/\Rep X.K H2 dy y/\F dx dy=some d/\∀ v H',Same H2 H'->Rep X.K H' d v->Q v H':=by
 obtain ⟨ρ,d,er,e,q⟩:=q
 obtain ⟨x,e1,e⟩:=bindS e
 obtain ⟨y,e2,e⟩:=bindS e
 exact ⟨ρ,x,er,e1,fun v H1 s1 r1=>⟨ρ,y,er.mono s1,e2,fun u H2 s2 r2=>⟨x,y,d,r1.mono s2,r2,e,fun w H3 s3 r3=>q w H3 (s1.trans (s2.trans s3)) r3⟩⟩⟩
theorem ak {op:Operator} {F:D->D->Option D} (ho:OpD X (binaryOp op) F) (ha:SE X a f) (hb:SE X b g):SE X (.BinOp a op b pos) (op2 F f g):=(vc ho ha hb).imp fun σ H Q q=>two q
theorem uj {op:UnaryOp} {F:D->Option D} (ho:UnD X (unaryOp op) F) (ha:SE X a f):SE X (.UnaryOp op a pos) (op1 F f):=(vd ho ha).imp fun σ H Q ⟨ρ,d,er,e,q⟩=>by
 obtain ⟨x,e1,e⟩:=bindS e
 exact ⟨ρ,x,er,e1,fun v H1 s1 r1=>⟨x,d,r1,e,fun w H2 s2 r2=>q w H2 (s1.trans s2) r2⟩⟩
theorem twoB {σ:L2.St} {H:Hp} {Q:Bool->Hp->Prop} {F:D->D->Option Bool} (q:tDT X.K (cmp2 F f g) σ H Q) :
  tD X.K f σ H fun x H1=>tD X.K g σ H1 fun y H2=>∃ dx dy b,Rep X.K H2 dx x/\Rep X.K H2 dy y/\F dx dy=some b/\Q b H2:=by
 obtain ⟨ρ,d,er,e,q⟩:=q
 obtain ⟨x,e1,e⟩:=bindS e
 obtain ⟨y,e2,e⟩:=bindS e
 exact ⟨ρ,x,er,e1,fun v H1 s1 r1=>⟨ρ,y,er.mono s1,e2,fun u H2 s2 r2=>⟨x,y,d,r1.mono s2,r2,e,q H2 (s1.trans s2)⟩⟩⟩
theorem asV_of {σ:L2.St} {H:Hp} {Q:VK} {f:R->Option Bool} (q:tD X.K (asV f) σ H Q):tDT X.K f σ H fun b H'=>Q (.bl b) H':=by
 obtain ⟨ρ,d,er,e,q⟩:=q
 obtain ⟨x,e1,e⟩:=mapS e
 subst e
 exact ⟨ρ,x,er,e1,fun H1 s1=>q _ H1 s1 rfl⟩
theorem cK {op:CmpOp} {F:D->D->Option Bool} (ho:CmD X op F) (ha:SE X a f) (hb:SE X b g) (hm:behindInMarks op b=false:=by first | exact nomark _ | with_unfolding_all rfl) :
  SE X (.Compare a [op] [b] pos) (asV (cmp2 F f g)):=(uc ho ha hb hm).imp fun σ H Q q=>twoB (asV_of q)
theorem aE {op:CmpOp} {F:D->D->Option Bool} (ho:CmD X op F) (ha:SE X a f) (hb:SE X b g) (hm:behindInMarks op b=false:=by first | exact nomark _ | with_unfolding_all rfl) :
  ST X (.Compare a [op] [b] pos) (cmp2 F f g):=(tV ho ha hb hm).imp fun σ H Q q=>by
 obtain ⟨ρ,d,er,e,q⟩:=q
 obtain ⟨x,e1,e⟩:=bindS e
 obtain ⟨y,e2,e⟩:=bindS e
 exact ⟨ρ,x,er,e1,fun v H1 s1 r1=>⟨ρ,y,er.mono s1,e2,fun u H2 s2 r2=>⟨x,y,d,r1.mono s2,r2,e,d,rfl,q H2 (s1.trans s2)⟩⟩⟩
theorem truV_of {H:Hp} {d:D} {v:V} {b:Bool} {K:PySem.W.Frag} (r:Rep K H d v) (e:dTru d=some b):TruV K v H b:=by
 cases d with
 | non=>cases (show v=_ from r);cases e;exact rfl
 | bl c=>cases (show v=_ from r);cases e;exact rfl
 | int i=>cases (show v=_ from r);cases e;exact rfl
 | str x =>
  cases (show v=_ from r)
  unfold dTru at e
  dsimp only at e
  split at e
  ·rename_i hx
   cases e
   exact ⟨hx,rfl⟩
  ·cases e
 | tup ds =>
  obtain ⟨a,xs,rfl,q,t⟩:=r
  cases e
  refine .inr (.inl ⟨xs,q,?_⟩)
  cases ds with
  | nil=>cases (show xs=[] from t);rfl
  | cons d ds=>obtain ⟨_,_,rfl,_⟩:=t;rfl
 | lst ds =>
  obtain ⟨a,xs,rfl,q,t⟩:=r
  cases e
  refine .inl ⟨xs,SqL.of q,?_⟩
  cases ds with
  | nil=>cases (show xs=[] from t);rfl
  | cons d ds=>obtain ⟨_,_,rfl,_⟩:=t;rfl
 | fro ds =>
  obtain ⟨a,xs,rfl,q,t⟩:=r
  cases e
  refine .inl ⟨xs,q,?_⟩
  cases ds with
  | nil=>cases (show xs=[] from t);rfl
  | cons d ds=>obtain ⟨_,_,rfl,_⟩:=t;rfl
 | obj k a ks ds=>cases e
theorem dB (ha:SE X a f) (he:∀ whole,isTrue a X.env whole=(do let v <- whole;standAt a.pos;holding [v] (truthy v)):=by intro _;rfl):ST X a (truT f):=(sg ha he).imp fun σ H Q ⟨ρ,b,er,e,q⟩=>by
 obtain ⟨x,e1,e⟩:=bindS e
 exact ⟨ρ,x,er,e1,fun v H1 s1 r1=>⟨b,truV_of r1 e,q H1 s1⟩⟩
variable {s t:R->Option Bool} {rest:List Expr}
theorem fw {e:Expr} (h:SW X e s):ST X e s:=PW.pt h
theorem gy (ha:ST X a s):SW X (.BoolOp .And [a] pos) s:=pw_and1 ha
theorem ir (ha:ST X a s):SW X (.BoolOp .Or [a] pos) s:=pw_or1 ha
theorem jL (ha:ST X a s) (hb:SW X (.BoolOp .And (b::rest) pos) t):SW X (.BoolOp .And (a::b::rest) pos) (andT s t):=(pw_and ha hb).imp fun σ H Q ⟨ρ,k,er,e,q⟩=>by
 obtain ⟨x,e1,e⟩:=bindS e
 refine ⟨ρ,x,er,e1,fun H1 s1=>?_⟩
 cases x with
 | false=>cases e;rw [if_neg Bool.false_ne_true];exact q H1 s1
 | true=>rw [if_pos rfl] at e ⊢;exact ⟨ρ,k,er.mono s1,e,fun H2 s2=>q H2 (s1.trans s2)⟩
theorem jF (ha:ST X a s) (hb:SW X (.BoolOp .Or (b::rest) pos) t):SW X (.BoolOp .Or (a::b::rest) pos) (orT s t):=(pw_or ha hb).imp fun σ H Q ⟨ρ,k,er,e,q⟩=>by
 obtain ⟨x,e1,e⟩:=bindS e
 refine ⟨ρ,x,er,e1,fun H1 s1=>?_⟩
 cases x with
 | true=>cases e;rw [if_pos rfl];exact q H1 s1
 | false=>rw [if_neg Bool.false_ne_true] at e ⊢;exact ⟨ρ,k,er.mono s1,e,fun H2 s2=>q H2 (s1.trans s2)⟩
theorem mU (ha:ST X a s):ST X (.UnaryOp .Not a pos) (notT s):=(uQ ha).imp fun σ H Q ⟨ρ,k,er,e,q⟩=>by
 obtain ⟨x,e1,e⟩:=mapS e
 subst e
 exact ⟨ρ,x,er,e1,fun H1 s1=>q H1 s1⟩
theorem iw {op} (ha:SE X a f):SE X (.BoolOp op [a] pos) f:=ux ha
theorem fh (ha:SE X a f) (hb:SE X (.BoolOp .And (b::rest) pos) g):SE X (.BoolOp .And (a::b::rest) pos) (andV f g):=(uY ha hb).imp fun σ H Q ⟨ρ,d,er,e,q⟩=>by
 obtain ⟨x,e1,e⟩:=bindS e
 refine ⟨ρ,x,er,e1,fun v H1 s1 r1=>?_⟩
 cases x with
 | bl c =>
  cases (show v=_ from r1)
  refine ⟨c,rfl,?_⟩
  cases c with
  | false=>cases e;rw [if_neg Bool.false_ne_true];exact q _ H1 s1 rfl
  | true=>rw [if_pos rfl];exact ⟨ρ,d,er.mono s1,e,fun v H2 s2 r2=>q v H2 (s1.trans s2) r2⟩
 | _=>cases e
theorem lT (ha:SE X a f):SE X (.UnaryOp .Not a pos) (notV f):=(uR ha).imp fun σ H Q ⟨ρ,d,er,e,q⟩=>by
 obtain ⟨x,e1,e⟩:=bindS e
 refine ⟨ρ,x,er,e1,fun v H1 s1 r1=>?_⟩
 cases x with
 | bl c =>
  cases (show v=_ from r1)
  cases e
  exact ⟨c,rfl,q _ H1 s1 rfl⟩
 | _=>cases e
theorem ft (hc:ST X c s) (ha:SE X a f) (hb:SE X b g):SE X (.IfExp c a b pos) (ifE s f g):=(tt hc ha hb).imp fun σ H Q ⟨ρ,d,er,e,q⟩=>by
 obtain ⟨x,e1,e⟩:=bindS e
 refine ⟨ρ,x,er,e1,fun H1 s1=>?_⟩
 cases x with
 | true=>rw [if_pos rfl] at e ⊢;exact ⟨ρ,d,er.mono s1,e,fun v H2 s2 r2=>q v H2 (s1.trans s2) r2⟩
 | false=>rw [if_neg Bool.false_ne_true] at e ⊢;exact ⟨ρ,d,er.mono s1,e,fun v H2 s2 r2=>q v H2 (s1.trans s2) r2⟩
variable {F:R->Option (List D)}
theorem ae:SA X [] argN:=⟨pa_nil.imp fun σ H Q ⟨ρ,d,er,e,q⟩=>by cases e;exact q [] H (Same.refl H) rfl,fun ρ ds e=>by cases e;rfl,rfl⟩
theorem ab (ha:SE X e f) (hr:SA X es F) (hs:noStar e=true:=by rfl):SA X (e::es) (argC f F):=⟨(lz ha hr.1 (aH es X.env hs)).imp fun σ H Q ⟨ρ,ds,er,e,q⟩=>by
 obtain ⟨x,e1,e⟩:=bindS e
 obtain ⟨y,e2,e⟩:=mapS e
 subst e
 exact ⟨ρ,x,er,e1,fun v H1 s1 r1=>⟨ρ,y,er.mono s1,e2,fun vs H2 s2 r2=>q _ H2 (s1.trans s2) (Reps.cons (r1.mono s2) r2)⟩⟩,fun ρ ds e=>by
 obtain ⟨x,e1,e⟩:=bindS e
 obtain ⟨y,e2,e⟩:=mapS e
 subst e
 simp [hr.2.1 ρ y e2],by rw [List.all_cons,hs,hr.2.2];rfl⟩
theorem aZ {H:Hp} {p:Addr} (h:H p=none) (o:HO):Same H (upd H p o):=fun b u q=>by rw [ar (ne_of_none q h)];exact q
theorem az {k} (h:SA X es F) (hl:Nat.ble es.length 1000=true:=by rfl):SE X (.Tuple es k pos) (tupD F):=(rO h.1).imp fun σ H Q ⟨ρ,d,er,e,q⟩=>by
 obtain ⟨ds,e1,e⟩:=mapS e
 subst e
 refine ⟨ρ,ds,er,e1,fun vs H1 s1 r1=>⟨?_,fun p hp=>?_⟩⟩
 ·rw [<- r1.length,h.2.1 ρ ds e1];exact Nat.le_of_lt (small1000 (Nat.le_of_ble_eq_true hl))
 ·have s2:=aZ hp (.tup vs)
  exact q _ _ (s1.trans s2) ⟨p,vs,rfl,SqT.of ax,r1.mono s2⟩
theorem sE (h:SA X es F) (hl:Nat.ble es.length 1000=true:=by rfl):SE X (.List es pos) (lstD F):=(o_ h.1).imp fun σ H Q ⟨ρ,d,er,e,q⟩=>by
 obtain ⟨ds,e1,e⟩:=mapS e
 subst e
 refine ⟨ρ,ds,er,e1,fun vs H1 s1 r1=>⟨?_,fun p hp=>?_⟩⟩
 ·rw [<- r1.length,h.2.1 ρ ds e1];exact Nat.le_of_lt (small1000 (Nat.le_of_ble_eq_true hl))
 ·have s2:=aZ hp (.lst vs)
  exact q _ _ (s1.trans s2) ⟨p,vs,rfl,ax,r1.mono s2⟩
structure Cal (P:Program) (w:World) (K:PySem.W.Frag) (mg:Str->Option Value) (base:Heap) (k:Nat) (x:Str) (ps:List Str) (F:List D->Option D):Prop where
 ex:∃ f fd,FnOk P w K mg base CX0 k f fd ps (spD K F)/\mg x=some (.ref f)/\PySem.W.keepIn K (.ref f)=true/\Binds K fd ps []
theorem Cal.mono {P:Program} {w:World} {K:PySem.W.Frag} {mg:Str->Option Value} {base:Heap} {j k:Nat} {x:Str} {ps:List Str} {F:List D->Option D} (h:Cal P w K mg base j x ps F) (hk:j<=k):Cal P w K mg base k x ps F:=by
 obtain ⟨f,fd,a,b⟩:=h.ex
 exact ⟨f,fd,a.mono hk,b⟩
theorem Cal.imp {P:Program} {w:World} {K:PySem.W.Frag} {mg:Str->Option Value} {base:Heap} {k:Nat} {x:Str} {ps:List Str} {F G:List D->Option D} (h:Cal P w K mg base k x ps F) (hi:∀ ds d,G ds=some d->F ds=some d):Cal P w K mg base k x ps G:=by
 obtain ⟨f,fd,a,b⟩:=h.ex
 exact ⟨f,fd,a.imp fun vs H Q E ⟨ds,d,r,e,q⟩=>⟨ds,d,r,hi ds d e,q⟩,b⟩
theorem af {k:Nat} {x:Str} {ps:List Str} {G:List D->Option D} (C:Cal X.prog X.w X.K X.mg X.base k x ps G) (hr:Room k X.A) (ha:SA X (e::es) F) (hg:Gl X x:=by rfl)
  (hdb:(x==("__debug__" : Str))=false:=by decide) :
  SE X (.Call (.Name x p) (e::es) [] pos) (callD G F):=by
 have hst:=ha.2.2
 rw [List.all_cons,Bool.and_eq_true] at hst
 have he:=aH es X.env hst.1
 have hpl:=cc (pos:=pos) (env:=X.env) hst.2
 obtain ⟨f,fd,a,m,kp,bd⟩:=C.ex
 refine (jg a hr hg m kp bd .nil pass0 ha.1 hdb he hpl).imp fun σ H Q ⟨ρ,d,er,e,q⟩=>?_
 obtain ⟨ds,e1,e⟩:=bindS e
 exact ⟨ρ,ds,er,e1,fun vs H1 s1 r1=>⟨ds,d,by rw [List.append_nil];exact r1,e,fun v H2 s2 r2=>q v H2 (s1.trans s2) r2⟩⟩
theorem bG {x:Str} {id:String} {G:List D->Option D} (hc:CaD X (.builtin id) G) (hm:X.mg x=none) (ha:SA X (e::es) F) (hv:bootBuiltins x=some (.builtin id):=by kernel_rfl) (hg:Gl X x:=by rfl) (hn:x ≠ "__name__":=by decide) (hdb:(x==("__debug__" : Str))=false:=by decide):SE X (.Call (.Name x p) (e::es) [] pos) (callD G F) :=
 (sk hc hg hm hv ha.1 hn hdb (aH es X.env (List.all_eq_true.mp ha.2.2 e List.mem_cons_self)) (cc (List.all_eq_true.mpr fun x hx=>List.all_eq_true.mp ha.2.2 x (List.mem_cons_of_mem _ hx)))).imp fun σ H Q ⟨ρ,d,er,e,q⟩=>by
  obtain ⟨ds,e1,e⟩:=bindS e
  exact ⟨ρ,ds,er,e1,fun vs H1 s1 r1=>⟨ds,d,r1,e,fun v H2 s2 r2=>q v H2 (s1.trans s2) r2⟩⟩
theorem cY {x:Str} {T:String} {G:List D->Option D} (hc:CaD X (.type T) G) (hm:X.mg x=none) (ha:SA X (e::es) F) (hv:bootBuiltins x=some (.type T):=by kernel_rfl) (hg:Gl X x:=by rfl) (hn:x ≠ "__name__":=by decide) (hdb:(x==("__debug__" : Str))=false:=by decide):SE X (.Call (.Name x p) (e::es) [] pos) (callD G F) :=
 (qS hc hg hm hv ha.1 hn hdb (aH es X.env (List.all_eq_true.mp ha.2.2 e List.mem_cons_self)) (cc (List.all_eq_true.mpr fun x hx=>List.all_eq_true.mp ha.2.2 x (List.mem_cons_of_mem _ hx)))).imp fun σ H Q ⟨ρ,d,er,e,q⟩=>by
  obtain ⟨ds,e1,e⟩:=bindS e
  exact ⟨ρ,ds,er,e1,fun vs H1 s1 r1=>⟨ds,d,r1,e,fun v H2 s2 r2=>q v H2 (s1.trans s2) r2⟩⟩
def IxD (X:Cx) (F:D->D->Option D):Prop:=IxR X fun x y H Q=>∃ dx dy d,Rep X.K H dx x/\Rep X.K H dy y/\F dx dy=some d/\∀ v H',Same H H'->Rep X.K H' d v->Q v H'
theorem _root_.L2.IxR.imp {r r':R2} (h:IxR X r) (hi:∀ x y H Q,r' x y H Q->r x y H Q):IxR X r':=fun value slice pins s σ H x y v u Q I rx ry q hs=>h value slice pins s σ H x y v u Q I rx ry (hi x y H Q q) hs
theorem ixD_eq (n:Nat) (i:Int):ixD n i=ixN n i:=rfl
theorem atD_rep {K:PySem.W.Frag} {H:Hp} {ds:List D} {xs:List V} {i:Int} {d:D} (r:Reps K H ds xs) (e:atD ds i=some d):∃ v,atI xs i=some v/\Rep K H d v:=by
 obtain ⟨j,e1,e2⟩:=bindS e
 obtain ⟨v,h1,h2⟩:=r.get e2
 refine ⟨v,?_,h2⟩
 unfold atI
 rw [<- r.length,<- ixD_eq,e1]
 exact h1
theorem ix_d:IxD X dIx:=(ix_list.or (ix_tup.or ix_str)).imp fun x y H Q ⟨dx,dy,d,r1,r2,e,q⟩=>by
 cases dx with
 | tup ds =>
  cases dy with
  | int i =>
   obtain ⟨a,xs,e1,hq,t⟩:=r1
   cases (show y=_ from r2)
   obtain ⟨v,h1,h2⟩:=atD_rep t e
   exact .inr (.inl ⟨a,xs,i,v,e1,rfl,hq,h1,q v H (Same.refl H) h2⟩)
  | _=>cases e
 | lst ds =>
  cases dy with
  | int i =>
   obtain ⟨a,xs,e1,hq,t⟩:=r1
   cases (show y=_ from r2)
   obtain ⟨v,h1,h2⟩:=atD_rep t e
   exact .inl ⟨a,xs,i,v,e1,rfl,SqL.of hq,h1,q v H (Same.refl H) h2⟩
  | _=>cases e
 | fro ds =>
  cases dy with
  | int i =>
   obtain ⟨a,xs,e1,hq,t⟩:=r1
   cases (show y=_ from r2)
   obtain ⟨v,h1,h2⟩:=atD_rep t e
   exact .inl ⟨a,xs,i,v,e1,rfl,hq,h1,q v H (Same.refl H) h2⟩
  | _=>cases e
 | str z =>
  cases dy with
  | int i =>
   cases (show x=_ from r1)
   cases (show y=_ from r2)
   unfold dIx at e
   dsimp only at e
   split at e
   ·rename_i hz
    obtain ⟨c,e1,e2⟩:=mapS e
    subst e2
    exact .inr (.inr ⟨z,i,c,rfl,rfl,hz,(by rw [<- e1];rfl),q _ H (Same.refl H) rfl⟩)
   ·cases e
  | _=>cases e
 | _=>cases e
theorem ag (ha:SE X a f) (hb:SE X b g) (hs:PlainIx b:=by intro _ _;rfl):SE X (.Subscript a b pos) (op2 dIx f g):=(uf ix_d ha hb hs).imp fun σ H Q q=>two q
variable {st:Stmt} {sts:List Stmt} {u w:R->Option Out}
theorem aT:SS X [] nextD:=pss_nil.imp fun E σ H ⟨ρ,τ,o,er,e,q⟩=>by
 cases e
 exact q H (Same.refl H) σ er
theorem seq_of {E:Ends} {σ:L2.St} {H:Hp} {K:PySem.W.Frag} (q:tDS K (seqD u w) E σ H):tDS K u {E with nx:=tDS K w E} σ H:=by
 obtain ⟨ρ,τ,o,er,e,q⟩:=q
 obtain ⟨o1,e1,e⟩:=bindS e
 refine ⟨ρ,τ,o1,er,e1,fun H1 s1=>?_⟩
 cases o1 with
 | nx ρ2=>exact fun σ2 er2=>⟨ρ2,τ,o,er2,e,fun H2 s2=>q H2 (s1.trans s2)⟩
 | rt d=>cases e;exact q H1 s1
 | bk ρ2=>cases e;exact q H1 s1
 | ct ρ2=>cases e;exact q H1 s1
theorem ai (h1:S1 X st u) (h2:SS X sts w):SS X (st::sts) (seqD u w):=(fg h1 h2).imp fun E σ H q=>seq_of q
theorem al (h1:S1 X st u):SS X [st] u:=gs h1
theorem au (ha:SE X a f):S1 X (.Return (some a) pos) (retD f):=(tu ha).imp fun E σ H ⟨ρ,τ,o,er,e,q⟩=>by
 obtain ⟨x,e1,e⟩:=mapS e
 subst e
 exact ⟨ρ,x,er.1,e1,fun v H1 s1 r1=>q H1 s1 v r1⟩
theorem cH {B1 B2:List Stmt} (hc:ST X c s) (ha:SS X B1 u) (hb:SS X B2 w):S1 X (.If c B1 B2 pos) (ifD s u w):=(s_ hc ha hb).imp fun E σ H ⟨ρ,τ,o,er,e,q⟩=>by
 obtain ⟨x,e1,e⟩:=bindS e
 refine ⟨ρ,x,er.1,e1,fun H1 s1=>?_⟩
 cases x with
 | true=>rw [if_pos rfl] at e ⊢;exact ⟨ρ,τ,o,er.mono s1,e,fun H2 s2=>q H2 (s1.trans s2)⟩
 | false=>rw [if_neg Bool.false_ne_true] at e ⊢;exact ⟨ρ,τ,o,er.mono s1,e,fun H2 s2=>q H2 (s1.trans s2)⟩
theorem aj (i:Nat) {x:Str} (hN:X.N.Nodup) (hi:X.N[i]?=some x:=by rfl) (hx:Loc X.env.scope x:=by first | exact Or.inl rfl | exact Or.inr rfl) (hf:X.fn x=true\/X.env.scope.names.lookup x=some .local:=by first | exact .inl rfl | exact .inr rfl) :
  SG X (.Name x pos) (setAt i):=(tT hN hi hx hf).imp fun v σ H Q ⟨ρ,τ,d,ρ',er,r,e,q⟩=>by
 unfold setAt at e
 split at e
 ·rename_i hlt
  cases e
  exact q _ H (Same.refl H) (er.set hlt r)
 ·cases e
variable {stf:D->R->Option R} {stfs:List (D->R->Option R)}
theorem ua:SGs X [] []:=pgs_nil.imp fun v σ H Q ⟨ρ,τ,ds,ρ',er,r,e,q⟩=>by
 cases ds with
 | nil=>cases e;exact ⟨r,q σ H (Same.refl H) er⟩
 | cons d ds=>cases e
theorem ot (h1:SG X e stf) (h2:SGs X es stfs) (hs:(assignEach (e::es) X.env).map (·.2)=assign e X.env::(assignEach es X.env).map (·.2):=by rfl):SGs X (e::es) (stf::stfs) :=
 (pgs_cons h1 h2 hs).imp fun v σ H Q ⟨ρ,τ,ds,ρ',er,r,e,q⟩=>by
  cases ds with
  | nil=>cases e
  | cons d ds =>
   obtain ⟨v1,vr,rfl,r1,rr⟩:=r
   obtain ⟨ρ1,e1,e⟩:=bindS e
   exact ⟨v1,vr,rfl,ρ,τ,d,ρ1,er,r1,e1,fun σ1 H1 s1 er1=>⟨ρ1,τ,ds,ρ',er1,rr.mono s1,e,fun σ2 H2 s2 er2=>q σ2 H2 (s1.trans s2) er2⟩⟩
theorem manyD_len:∀ {fs:List (D->R->Option R)} {ds:List D} {ρ ρ':R},manyD fs ds ρ=some ρ'->ds.length=fs.length
 | [],[],_,_,_=>rfl
 | [],_::_,_,_,e=>by cases e
 | _::_,[],_,_,e=>by cases e
 | f::fs,d::ds,_,_,e=>by
  obtain ⟨_,_,e⟩:=bindS e
  simp [manyD_len e]
theorem uW {k} (hc:X.calm=true) (h:SGs X es stfs) (hn:(assignEach es X.env).length=stfs.length:=by rfl) (hst:(assignEach es X.env).findIdx? (·.1)=none:=by rfl):SG X (.Tuple es k pos) (unpD stfs) :=
 (u_ hc h hn hst).imp fun v σ H Q ⟨ρ,τ,d,ρ',er,r,e,q⟩=>by
  cases d with
  | tup ds =>
   obtain ⟨a,xs,e1,hq,t⟩:=r
   exact ⟨a,xs,e1,hq,by rw [<- t.length];exact manyD_len e,ρ,τ,ds,ρ',er,t,e,q⟩
  | _=>cases e
theorem aD {tg:Expr} (ha:SE X a f) (hg:SG X tg stf) (hs:swapsWithSole [tg] a pos.line X.env=pure false:=by rfl) (hw:swappedStores [tg] a X.env=pure none:=by rfl) (h1:(assignEach [tg] X.env).map (·.2)=[assign tg X.env]:=by rfl) :
  S1 X (.Assign [tg] a pos) (asgD f stf):=(uM ha hg hs hw h1).imp fun E σ H ⟨ρ,τ,o,er,e,q⟩=>by
 obtain ⟨x,e1,e⟩:=bindS e
 obtain ⟨ρ',e2,e⟩:=mapS e
 subst e
 exact ⟨ρ,x,er.1,e1,fun v H1 s1 r1=>⟨ρ,τ,x,ρ',er.mono s1,r1,e2,fun σ2 H2 s2 er2=>q H2 (s1.trans s2) σ2 er2⟩⟩
theorem Kp.of {H H':Hp} (s:Same H H'):Kp H H':=fun b u e _=>s b u e
theorem Kp.refl (H:Hp):Kp H H:=fun _ _ e _=>e
theorem Kp.seq {K:PySem.W.Frag} {H H':Hp} {a:Addr} {xs:List V} (s:Kp H H') (h:SqL K H a xs):SqL K H' a xs:=by
 rcases h with (h | ⟨o,h⟩) | h
 ·exact .inl (.inl (s _ _ h fun φ z=>nomatch z))
 ·exact .inl (.inr ⟨o,s _ _ h fun φ z=>nomatch z⟩)
 ·exact .inr h
theorem Kp.tup {K:PySem.W.Frag} {H H':Hp} {a:Addr} {xs:List V} (s:Kp H H') (h:SqT K H a xs):SqT K H' a xs:=by
 rcases h with (h | ⟨o,h⟩) | h
 ·exact .inl (.inl (s _ _ h fun φ z=>nomatch z))
 ·exact .inl (.inr ⟨o,s _ _ h fun φ z=>nomatch z⟩)
 ·exact .inr h
mutual
theorem Rep.kp {K:PySem.W.Frag} {H H':Hp} (s:Kp H H'):∀ {d:D} {v:V},Rep K H d v->Rep K H' d v
 | .non,_,h=>h
 | .bl _,_,h=>h
 | .int _,_,h=>h
 | .str _,_,h=>h
 | .tup ds,_,h=>by
  obtain ⟨a,xs,e,q,r⟩:=h
  exact ⟨a,xs,e,s.tup q,Reps.kp s r⟩
 | .lst ds,_,h=>by
  obtain ⟨a,xs,e,q,r⟩:=h
  exact ⟨a,xs,e,s _ _ q (fun φ z=>by cases z),Reps.kp s r⟩
 | .fro ds,_,h=>by
  obtain ⟨a,xs,e,q,r⟩:=h
  exact ⟨a,xs,e,s.seq q,Reps.kp s r⟩
 | .obj k a ks ds,_,h=>by
  obtain ⟨xs,e,q,r⟩:=h
  exact ⟨xs,e,q.to fun u z n=>s _ u z n,Reps.kp s r⟩
theorem Reps.kp {K:PySem.W.Frag} {H H':Hp} (s:Kp H H'):∀ {ds:List D} {vs:List V},Reps K H ds vs->Reps K H' ds vs
 | [],_,h=>h
 | d::ds,_,h=>by
  obtain ⟨v,r,e,q,t⟩:=h
  exact ⟨v,r,e,Rep.kp s q,Reps.kp s t⟩
end
theorem EnvR.kp {K:PySem.W.Frag} {H H':Hp} {ρ:R} {σ:L2.St} (e:EnvR K H ρ σ) (s:Kp H H'):EnvR K H' ρ σ:=⟨e.1,fun i d h=>let ⟨v,a,b⟩:=e.2 i d h;⟨v,a,b.kp s⟩⟩
theorem EnvT.kp {K:PySem.W.Frag} {H H':Hp} {ρ:R} {τ σ:L2.St} (e:EnvT K H ρ τ σ) (s:Kp H H'):EnvT K H' ρ τ σ:=⟨e.1.kp s,e.2⟩
theorem iF {K:PySem.W.Frag} {H:Hp} {a:Addr} {ds:List D} {xs:List V} (hq:SqL K H a xs) (t:Reps K H ds xs):Yields K (Itl K a) ds H:=by
 refine ⟨fun i d H2 s2 e=>?_,fun i H2 s2 hl=>⟨xs,s2.seq hq,by rw [<- t.length];exact hl⟩⟩
 obtain ⟨v,h1,h2⟩:=t.get e
 refine ⟨⟨xs,v,s2.seq hq,h1⟩,fun x H3 ⟨e3,y⟩=>?_⟩
 subst e3
 have:=(y xs (s2.seq hq)).symm.trans h1
 cases this
 exact ⟨Same.refl _,h2.kp s2⟩
theorem pL {K:PySem.W.Frag} {H:Hp} {a:Addr} {ds:List D} {xs:List V} (hq:SqT K H a xs) (t:Reps K H ds xs):Yields K (Itt K a) ds H:=by
 refine ⟨fun i d H2 s2 e=>?_,fun i H2 s2 hl=>⟨xs,s2.tup hq,by rw [<- t.length];exact hl⟩⟩
 obtain ⟨v,h1,h2⟩:=t.get e
 refine ⟨⟨xs,v,s2.tup hq,h1⟩,fun x H3 ⟨e3,y⟩=>?_⟩
 subst e3
 have:=(y xs (s2.tup hq)).symm.trans h1
 cases this
 exact ⟨Same.refl _,h2.kp s2⟩
theorem rngD_get {a b:Int} {i:Nat} {d:D} (e:(rngD a b)[i]?=some d):i<(b - a).toNat/\d=.int (a+i):=by
 unfold rngD at e
 rw [List.getElem?_map] at e
 obtain ⟨k,e1,e⟩:=mapS e
 obtain ⟨h1,h2⟩:=List.getElem?_eq_some_iff.mp e1
 rw [List.length_range] at h1
 rw [List.getElem_range] at h2
 subst h2
 exact ⟨h1,e.symm⟩
theorem pA {K:PySem.W.Frag} {H:Hp} {a b:Int}:Yields K (Itr a (b - a).toNat) (rngD a b) H:=by
 refine ⟨fun i d H2 s2 e=>?_,fun i H2 s2 hl=>by
  have z:(rngD a b).length=(b - a).toNat:=by simp [rngD]
  rw [z] at hl
  exact hl⟩
 obtain ⟨h1,rfl⟩:=rngD_get e
 refine ⟨h1,fun x H3 ⟨e3,y⟩=>?_⟩
 subst e3
 exact ⟨Same.refl _,y⟩
def iSeq (K:PySem.W.Frag) (tl:TE):TI:=fun σ H W=>tl σ H fun x H1=>(∃ a,x=.ref a/\(((∃ xs,SqL K H1 a xs)/\W (Itl K a) H1)\/((∃ xs,SqT K H1 a xs)/\W (Itt K a) H1)))\/∃ z,x=.str z/\z.cps.all (·<128)=true/\W (Its z) H1
theorem j3 {K:PySem.W.Frag} {H:Hp} {x:Str}:Yields K (Its x) (chars x) H:=by
 have hl:(chars x).length=x.cps.size:=by simp [chars]
 refine ⟨fun i d H2 s2 e=>?_,fun i H2 s2 h=>by rw [hl] at h;exact h⟩
 have hi:i<x.cps.size:=by rw [<- hl];exact (List.getElem?_eq_some_iff.mp e).1
 refine ⟨hi,fun v H3 ⟨e3,c,h1,h2⟩=>?_⟩
 subst e3
 refine ⟨Same.refl _,?_⟩
 unfold chars at e
 rw [List.getElem?_map] at e
 obtain ⟨c',e1,e⟩:=mapS e
 have h1':x.cps.toList[i]?=some c:=by simpa using h1
 rw [h1'] at e1
 cases e1
 subst e
 exact h2
theorem qa {tg l:Expr} {tl:TE} (hl:PE X l tl):PI X tg l (iSeq X.K tl):=by
 intro pins s σ H W I h
 refine thn (hl pins s σ H _ I h) fun v s1 ⟨x,H1,I1,r1,q1⟩=>?_
 rcases q1 with ⟨a,e,q1⟩ | ⟨z,e,hz,q⟩
 rotate_left
 ·subst e
  obtain ⟨t,rfl⟩:=r1
  refine wpAny_pyIter_ascii hz ?_
  refine ⟨s1.heap.objs.size,[s1.heap.objs.size],_,_,H1,rfl,I1.kept (t':=s1.toks) fun b o e=>Heap.get?_push_of_some _ e,turn_str _ z t,⟨_,Heap.get?_push_size _ rfl,rfl,rfl⟩,fun b hb=>?_,q⟩
  have e:b=s1.heap.objs.size:=by simpa using hb
  subst e
  exact I1.fpOk (Nat.le_refl _) (I1.hok.fresh (Nat.le_refl _))
 subst e
 cases r1
 rcases q1 with ⟨⟨xs,hq⟩,q⟩ | ⟨⟨xs,hq⟩,q⟩
 ·obtain ⟨its,rv,p,hz⟩:=I1.list hq
  refine wpAny_pyIter_list p.isList ?_
  refine ⟨s1.heap.objs.size,[s1.heap.objs.size],_,_,H1,rfl,I1.kept (t':=s1.toks) fun b o e=>Heap.get?_push_of_some _ e,turn_list a _,⟨_,Heap.get?_push_size _ rfl,rfl,rfl⟩,fun b hb=>?_,q⟩
  have e:b=s1.heap.objs.size:=by simpa using hb
  subst e
  exact I1.fpOk (Nat.le_refl _) (I1.hok.fresh (Nat.le_refl _))
 ·obtain ⟨its,rv,p,hz⟩:=I1.tuple hq
  refine wpAny_pyIter_tuple (show s1.heap.IsTuple a its.toArray from p) ?_
  refine ⟨s1.heap.objs.size,[s1.heap.objs.size],_,_,H1,rfl,I1.kept (t':=s1.toks) fun b o e=>Heap.get?_push_of_some _ e,turn_tuple a _,⟨_,Heap.get?_push_size _ rfl,rfl,rfl⟩,fun b hb=>?_,q⟩
  have e:b=s1.heap.objs.size:=by simpa using hb
  subst e
  exact I1.fpOk (Nat.le_refl _) (I1.hok.fresh (Nat.le_refl _))
theorem jr {tg:Expr} (ha:SE X a f):SI X tg a (inSeq f):=(qa ha).imp fun σ H W ⟨ρ,ds,er,e,q⟩=>by
 obtain ⟨x,e1,e⟩:=bindS e
 refine ⟨ρ,x,er,e1,fun v H1 s1 r1=>?_⟩
 cases x with
 | tup xs =>
  cases e
  obtain ⟨a,vs,ev,hq,t⟩:=r1
  exact .inl ⟨a,ev,.inr ⟨⟨vs,hq⟩,q _ H1 s1 (pL hq t)⟩⟩
 | lst xs =>
  cases e
  obtain ⟨a,vs,ev,hq,t⟩:=r1
  exact .inl ⟨a,ev,.inl ⟨⟨vs,SqL.of hq⟩,q _ H1 s1 (iF (SqL.of hq) t)⟩⟩
 | str z =>
  dsimp only at e
  split at e
  ·rename_i hz
   cases e
   cases (show v=_ from r1)
   exact .inr ⟨z,rfl,hz,q _ H1 s1 j3⟩
  ·cases e
 | _=>cases e
theorem mE {tg:Expr} (hm:X.mg "range" = none) (ha:SE X a f) (hg:Gl X "range":=by rfl) (hs:noStar a=true:=by rfl):SI X tg (.Call (.Name "range" p) [a] [] pos) (inRng1 f) :=
 (qT hg hm (ab ha ae hs).1 (aH [] X.env hs)).imp fun σ H W ⟨ρ,ds,er,e,q⟩=>by
  obtain ⟨x,e1,e⟩:=bindS e
  cases x with
  | int j =>
   dsimp only at e
   split at e
   ·rename_i hj
    cases e
    refine ⟨ρ,[.int j],er,by show (f ρ).bind _=_;rw [e1];rfl,fun vs H1 s1 r1=>?_⟩
    obtain ⟨v,r,rfl,r2,r3⟩:=r1
    cases (show v=_ from r2)
    cases (show r=_ from r3)
    refine ⟨j,rfl,hj.1,hj.2,q _ H1 s1 ?_⟩
    have z:=pA (K:=X.K) (H:=H1) (a:=0) (b:=j)
    rw [Int.sub_zero] at z
    exact z
   ·cases e
  | _=>cases e
theorem sL {tg iter:Expr} {B:List Stmt} {it:R->Option (List D)} (hp:PassesOwn (model X.prog X.w) X.A X.env X.xe) (hc:X.calm=true) (hi:SI X tg iter it) (hg:SG X tg stf) (hb:SS X B u)
  (hs:∀ x,foldedSetIterable iter X.env x=pure x:=by intro _;rfl):S1 X (.For tg iter B [] pos) (loopD it stf u):=(oZ hp hc hi hg hb hs).imp fun E σ H ⟨ρ,τ,o,er,e,q⟩=>by
 obtain ⟨ds,e1,e⟩:=bindS e
 refine ⟨ρ,ds,er.1,e1,fun J H1 s1 y=>?_⟩
 refine ⟨fun i m σ' H'=>m=ds.length - i/\i<=ds.length/\Same H1 H'/\∃ ρ',EnvT X.K H' ρ' τ σ'/\forD stf u (ds.drop i) ρ'=some o,⟨ds.length,by simp,Nat.zero_le _,Same.refl _,ρ,er.mono s1,by simpa using e⟩,?_⟩
 rintro i m σ' H' ⟨rfl,hi,s2,ρ',er',e'⟩
 by_cases hlt:i<ds.length
 ·refine .inr ?_
  have hd:ds[i]?=some ds[i]:=by simp [hlt]
  obtain ⟨hgo,hy⟩:=y.1 i ds[i] H' (Kp.of s2) hd
  rw [List.drop_eq_getElem_cons hlt] at e'
  obtain ⟨ρ1,e2,e'⟩:=bindS e'
  obtain ⟨o1,e3,e'⟩:=bindS e'
  refine ⟨hgo,fun σ2 H2=>i+1<=ds.length/\Same H1 H2/\∃ ρ',EnvT X.K H2 ρ' τ σ2/\forD stf u (ds.drop (i+1)) ρ'=some o,fun σ2 H2 n2=>⟨ds.length - (i+1),by omega,rfl,n2.1,n2.2⟩,fun x H3 yx=>?_⟩
  obtain ⟨s3,rx⟩:=hy x H3 yx
  refine ⟨ρ',τ,ds[i],ρ1,er'.mono s3,rx,e2,fun σ4 H4 s4 er4=>⟨ρ1,τ,o1,er4,e3,fun H5 s5=>?_⟩⟩
  have s15:Same H1 H5:=s2.trans (s3.trans (s4.trans s5))
  cases o1 with
  | nx ρ2=>exact fun σ6 er6=>⟨hlt,s15,ρ2,er6,e'⟩
  | ct ρ2=>exact fun σ6 er6=>⟨hlt,s15,ρ2,er6,e'⟩
  | bk ρ2=>cases e';exact fun σ6 er6=>q H5 (s1.trans s15) σ6 er6
  | rt d=>cases e';exact q H5 (s1.trans s15)
 ·have e4:i=ds.length:=by omega
  subst e4
  rw [List.drop_length] at e'
  cases e'
  exact .inl ⟨y.2 _ H' (Kp.of s2) (Nat.le_refl _),q H' (s1.trans s2) σ' er'⟩
end
theorem beg_env {K:PySem.W.Frag} {H:Hp} {N:List Str} {ds:List D} {vs:List V} (r:Reps K H ds vs):EnvR K H (beg N.length ds) (L2.start N vs):=by
 unfold beg L2.start
 refine ⟨by simp [r.length],fun i d h=>?_⟩
 by_cases hi:i<ds.length
 ·rw [List.getElem?_append_left (by simpa using hi),List.getElem?_map] at h
  obtain ⟨d',e1,e⟩:=mapS h
  cases e
  obtain ⟨v,h1,h2⟩:=r.get e1
  exact ⟨v,by rw [List.getElem?_append_left (by rw [List.length_map,<- r.length];exact hi),List.getElem?_map,h1];rfl,h2⟩
 ·rw [List.getElem?_append_right (by simpa using hi),List.getElem?_replicate] at h
  split at h<;>cases h
theorem av {P:Program} {w:World} {K:PySem.W.Frag} {mg:Str->Option Value} {base:Heap} {x qual:Str} {st:Stmt} {f:Addr} {fd:FuncData} {N ps:List Str} {k:Nat} {F:List D->Option D} {g:R->Option Out}
  (Fn:Fun K x qual st f fd) (S:FnScope N ps (defScope st)) (hlen:∀ ds d,F ds=some d->ds.length=ps.length)
  (hb:∀ (cdv:Value) (A:Around) (outer:List Env) (s:Shared) (H:Hp) (E:XK),Room k (A.deeper (envOfC qual (defScope st) s.heap.objs.size f cdv))->SS (cxOf CX0 P w K mg base N qual (defScope st) f cdv A outer s H E).nox (defBody st) g)
  (hF:∀ ds d,F ds=some d->retOf (g (beg N.length ds))=some d):FnOk P w K mg base CX0 (k+1) f fd ps (spD K F):=by
 refine Fn.ok S (fun vs H Q E h=>?_) (fun cdv A outer s H vs Q E hr h=>?_)
 ·obtain ⟨ds,d,r,e,_⟩:=h
  rw [<- r.length]
  exact hlen ds d e
 ·obtain ⟨ds,d,r,e,q⟩:=h
  refine ⟨_,hb cdv A outer s H E hr,?_⟩
  have z:=hF ds d e
  cases ho:g (beg N.length ds) with
  | none=>rw [ho] at z;cases z
  | some o =>
   rw [ho] at z
   refine ⟨beg N.length ds,_,o,(beg_env r).t,ho,fun H1 s1=>?_⟩
   cases o with
   | rt d'=>cases (show d'=d from Option.some.inj z);exact fun v rv=>q v H1 s1 rv
   | nx ρ=>cases (show D.non=d from Option.some.inj z);exact fun σ _=>q .non H1 s1 rfl
   | bk ρ=>cases z
   | ct ρ=>cases z
theorem aw {P:Program} {w:World} {K:PySem.W.Frag} {mg:Str->Option Value} {base:Heap} {x qual:Str} {st:Stmt} {f:Addr} {fd:FuncData} {ps:List Str} {k:Nat} {F:List D->Option D} (Fn:Fun K x qual st f fd) (hm:mg x=some (.ref f))
  (hb:Binds K fd ps []) (h:FnOk P w K mg base CX0 k f fd ps (spD K F)):Cal P w K mg base k x ps F:=⟨f,fd,h,hm,Fn.kp,hb⟩
end HW
namespace HW
open PySem PySem.Spec PyProof.Rows L2
section
variable {X:Cx}
theorem cat_tup0 {prog:Program} {w:World} {A:Around} {E:Value->Shared->Prop} {s:Shared} {t b:Addr} {ws:List Value} {Q:Value->Shared->Prop} (ht:IsTup s.heap t ([]:List Value).toArray) (hb:IsTup s.heap b ws.toArray)
  (h:Q (.ref b) s):wpAny (model prog w) A (binaryOp .Add (.ref t) (.ref b)) Q E s:=by
 obtain ⟨⟨cls,dd,data,sl⟩,ho,hc,n,hd⟩:=id ht
 obtain ⟨⟨cls2,dd2,data2,sl2⟩,ho2,hc2,n2,hd2⟩:=id hb
 simp only at hc hd hc2 hd2
 subst hc hd hc2 hd2
 exact concat_meets ⟨_,ho,rfl⟩ ⟨_,ho2,rfl⟩ noFill_tuple_add seq_tuple_add PySem.F.slot_tuple_add PySem.F.entry_tuple_add (PySem.F.args_tuple_add_2 _ _)
  (tuple_addW0 t b ([]:List Value).toArray ws.toArray n n2 dd dd2 sl sl2 (by simp)) ⟨ho,ho2,h⟩
theorem nI_of {K:PySem.W.Frag} {H:Hp} {d:D} {v:V} {i:Int} (e:nI d=some i) (r:Rep K H d v):v=.int i:=by
 cases d<;>cases e
 exact r
theorem tI_of {K:PySem.W.Frag} {H:Hp} {d:D} {v:V} {xs:List D} (e:tI d=some xs) (r:Rep K H d v):Rep K H (.tup xs) v:=by
 cases d<;>cases e
 exact r
theorem lI_of {K:PySem.W.Frag} {H:Hp} {d:D} {v:V} {xs:List D} (e:lI d=some xs) (r:Rep K H d v):Rep K H (.lst xs) v:=by
 cases d<;>cases e
 exact r
theorem sI_of {K:PySem.W.Frag} {H:Hp} {d:D} {v:V} {x:Str} (e:sI d=some x) (r:Rep K H d v):v=.str x:=by
 cases d<;>cases e
 exact r
theorem bO_of {K:PySem.W.Frag} {H:Hp} {d:D} {v:V} {x:Bool} (e:bO d=some x) (r:Rep K H d v):v=.bl x:=by
 cases d<;>cases e
 exact r
theorem iteS {α:Type} {p:Prop} [Decidable p] {x y:α} (h:(if p then some x else none)=some y):p/\x=y:=by
 split at h
 ·rename_i hp;exact ⟨hp,Option.some.inj h⟩
 ·cases h
theorem aA:OpD X (binaryOp .Add) dAdd:=by
 intro pins s σ H x y v u Q I rx ry h
 obtain ⟨dx,dy,d,r1,r2,e,q⟩:=h
 cases dx with
 | int i =>
  obtain ⟨j,e1,rfl⟩:=mapS e
  exact op_add pins s σ H x y v u Q I rx ry ⟨i,j,r1,nI_of e1 r2,q _ H (Same.refl H) rfl⟩
 | tup xs =>
  obtain ⟨ys,e1,e⟩:=bindS e
  obtain ⟨hz,rfl⟩:=iteS e
  obtain ⟨a,vs,rfl,hq,t⟩:=r1
  obtain ⟨b,us,rfl,hq2,t2⟩:=tI_of e1 r2
  cases vs with
  | nil =>
   cases rx
   cases ry
   obtain ⟨its,rr1,p1,_⟩:=I.tuple hq
   obtain ⟨its2,rr2,p2,_⟩:=I.tuple hq2
   cases rr1
   refine cat_tup0 p1 p2 ⟨.ref b,H,I,rfl,q _ H (Same.refl H) ⟨b,us,rfl,hq2,?_⟩⟩
   cases xs with
   | nil=>exact t2
   | cons x r=>obtain ⟨_,_,z,_⟩:=t;cases z
  | cons v0 vr =>
   refine op_catT pins s σ H _ _ v u Q I rx ry ⟨a,b,v0::vr,us,rfl,rfl,hq,hq2,by simp,by rw [<- t.length,<- t2.length];exact hz,fun z=>?_,fun z p hp=>?_⟩
   ·subst z
    refine q _ H (Same.refl H) ⟨a,v0::vr,rfl,hq,?_⟩
    have:ys=[]:=List.length_eq_zero_iff.mp t2.length
    subst this
    rw [List.append_nil]
    exact t
   ·have s2:=aZ hp (.tup (v0::vr++us))
    exact q _ _ s2 ⟨p,_,rfl,SqT.of ax,(t.append t2).mono s2⟩
 | lst xs =>
  obtain ⟨ys,e1,e⟩:=bindS e
  obtain ⟨hz,rfl⟩:=iteS e
  obtain ⟨a,vs,rfl,hq,t⟩:=r1
  obtain ⟨b,us,rfl,hq2,t2⟩:=lI_of e1 r2
  refine op_cat pins s σ H _ _ v u Q I rx ry ⟨a,b,vs,us,rfl,rfl,hq,hq2,by rw [<- t.length,<- t2.length];exact hz,fun p hp=>?_⟩
  have s2:=aZ hp (.lst (vs++us))
  exact q _ _ s2 ⟨p,_,rfl,ax,(t.append t2).mono s2⟩
 | str a =>
  obtain ⟨b,e1,e⟩:=bindS e
  obtain ⟨hz,rfl⟩:=iteS e
  exact op_add_str pins s σ H x y v u Q I rx ry ⟨a,b,r1,sI_of e1 r2,hz,q _ H (Same.refl H) rfl⟩
 | _=>cases e
theorem cw:OpD X (binaryOp .Sub) dSub:=by
 intro pins s σ H x y v u Q I rx ry h
 obtain ⟨dx,dy,d,r1,r2,e,q⟩:=h
 obtain ⟨i,e1,e⟩:=bindS e
 obtain ⟨j,e2,rfl⟩:=mapS e
 exact op_sub pins s σ H x y v u Q I rx ry ⟨i,j,nI_of e1 r1,nI_of e2 r2,q _ H (Same.refl H) rfl⟩
theorem c_:OpD X (binaryOp .Mult) dMul:=by
 intro pins s σ H x y v u Q I rx ry h
 obtain ⟨dx,dy,d,r1,r2,e,q⟩:=h
 obtain ⟨i,e1,e⟩:=bindS e
 obtain ⟨j,e2,e⟩:=bindS e
 obtain ⟨hz,rfl⟩:=iteS e
 refine op_mul pins s σ H x y v u Q I rx ry ⟨i,j,nI_of e1 r1,nI_of e2 r2,?_,q _ H (Same.refl H) rfl⟩
 unfold mulFits at hz
 rw [Bool.or_eq_true,Bool.and_eq_true,Bool.and_eq_true] at hz
 exact hz.imp (fun z=>⟨of_decide_eq_true z.1,of_decide_eq_true z.2⟩) fun z=>⟨of_decide_eq_true z.1,of_decide_eq_true z.2⟩
theorem bY:OpD X (binaryOp .FloorDiv) dDiv:=by
 intro pins s σ H x y v u Q I rx ry h
 obtain ⟨dx,dy,d,r1,r2,e,q⟩:=h
 obtain ⟨i,e1,e⟩:=bindS e
 obtain ⟨j,e2,e⟩:=bindS e
 obtain ⟨hz,rfl⟩:=iteS e
 exact op_fdiv pins s σ H x y v u Q I rx ry ⟨i,j,nI_of e1 r1,nI_of e2 r2,hz,q _ H (Same.refl H) rfl⟩
theorem aJ:OpD X (binaryOp .Mod) dMod:=by
 intro pins s σ H x y v u Q I rx ry h
 obtain ⟨dx,dy,d,r1,r2,e,q⟩:=h
 obtain ⟨i,e1,e⟩:=bindS e
 obtain ⟨j,e2,e⟩:=bindS e
 obtain ⟨hz,rfl⟩:=iteS e
 exact op_mod pins s σ H x y v u Q I rx ry ⟨i,j,nI_of e1 r1,nI_of e2 r2,hz,q _ H (Same.refl H) rfl⟩
theorem rY:UnD X (unaryOp .USub) dNeg:=by
 intro pins s σ H x v Q I rx h
 obtain ⟨dx,d,r1,e,q⟩:=h
 obtain ⟨i,e1,rfl⟩:=mapS e
 exact un_neg pins s σ H x v Q I rx ⟨i,nI_of e1 r1,q _ H (Same.refl H) rfl⟩
theorem cdI {op:CmpOp} {p:Int->Int->Bool} {F:D->D->Option Bool} (ho:OpR X (compareOp op) (rI0 fun i j=>.bl (p i j))) (hF:∀ x y,F x y=(nI x).bind fun i=>(nI y).map fun j=>p i j):CmD X op F:=by
 intro pins s σ H x y v u Q I rx ry h
 obtain ⟨dx,dy,b,r1,r2,e,q⟩:=h
 rw [hF] at e
 obtain ⟨i,e1,e⟩:=bindS e
 obtain ⟨j,e2,rfl⟩:=mapS e
 exact ho pins s σ H x y v u Q I rx ry ⟨i,j,nI_of e1 r1,nI_of e2 r2,q⟩
theorem qr:CmD X .Lt cLt:=cdI op_lt fun _ _=>rfl
theorem uq:CmD X .LtE cLe:=cdI op_le fun _ _=>rfl
theorem gC:CmD X .Gt cGt:=cdI op_gt fun _ _=>rfl
theorem uk:CmD X .GtE cGe:=cdI op_ge fun _ _=>rfl
theorem flat_rep {K:PySem.W.Frag} {H:Hp} {d:D} {v:V} (r:Rep K H d v) (f:flat d=true):flatV v=true:=by
 cases d<;>simp [flat] at f<;>(cases (show v=_ from r);rfl)
theorem eqF_rep {K:PySem.W.Frag} {H:Hp} {d e:D} {v u:V} (r:Rep K H d v) (r':Rep K H e u) (f:flat d=true) (f':flat e=true):eqV v u=eqF d e:=by
 cases d<;>simp [flat] at f<;>cases e<;>simp [flat] at f'<;>(cases (show v=_ from r);cases (show u=_ from r');rfl)
theorem flats_rep {K:PySem.W.Frag} {H:Hp}:∀ {ds:List D} {vs:List V},Reps K H ds vs->ds.all flat=true->vs.all flatV=true
 | [],_,h,_=>by cases (show _=[] from h);rfl
 | d::ds,_,h,f=>by
  obtain ⟨v,r,rfl,q,t⟩:=h
  rw [List.all_cons,Bool.and_eq_true] at f ⊢
  exact ⟨flat_rep q f.1,flats_rep t f.2⟩
theorem any_rep {K:PySem.W.Frag} {H:Hp} {x:D} {vx:V} (rx:Rep K H x vx) (fx:flat x=true):∀ {ds:List D} {vs:List V},Reps K H ds vs->ds.all flat=true->inV vx vs=ds.any fun y=>eqF y x
 | [],_,h,_=>by cases (show _=[] from h);rfl
 | d::ds,_,h,f=>by
  obtain ⟨v,r,rfl,q,t⟩:=h
  rw [List.all_cons,Bool.and_eq_true] at f
  have ih:=any_rep rx fx t f.2
  unfold inV at ih ⊢
  rw [List.any_cons,List.any_cons,eqF_rep q rx f.1 fx,ih]
theorem items_rep {K:PySem.W.Frag} {H:Hp} {d:D} {v:V} {ys:List D} (r:Rep K H d v) (e:itemsD d=some ys):∃ p xs,v=.ref p/\(SqL K H p xs\/SqT K H p xs)/\Reps K H ys xs:=by
 cases d with
 | tup ds=>cases e;obtain ⟨a,xs,rfl,q,t⟩:=r;exact ⟨a,xs,rfl,.inr q,t⟩
 | lst ds=>cases e;obtain ⟨a,xs,rfl,q,t⟩:=r;exact ⟨a,xs,rfl,.inl (SqL.of q),t⟩
 | fro ds=>cases e;obtain ⟨a,xs,rfl,q,t⟩:=r;exact ⟨a,xs,rfl,.inl q,t⟩
 | _=>cases e
theorem uo:CmD X .In cIn:=by
 intro pins s σ H x y v u Q I rx ry h
 obtain ⟨dx,dy,b,r1,r2,e,q⟩:=h
 obtain ⟨ys,e1,e⟩:=bindS e
 obtain ⟨p,xs,rfl,hq,t⟩:=items_rep r2 e1
 split at e
 ·rename_i hf
  rw [Bool.and_eq_true] at hf
  cases e
  refine op_in_seq pins s σ H x _ v u Q I rx ry ⟨p,xs,rfl,hq,flat_rep r1 hf.1,flats_rep t hf.2,?_⟩
  rw [any_rep r1 hf.1 t hf.2]
  exact q
 ·cases e
theorem nonD_rep {K:PySem.W.Frag} {H:Hp} {d:D} {v:V} (r:Rep K H d v):nonD d=decide (v=.non):=by
 cases d with
 | tup c=>obtain ⟨_,_,rfl,_⟩:=r;rfl
 | lst c=>obtain ⟨_,_,rfl,_⟩:=r;rfl
 | fro c=>obtain ⟨_,_,rfl,_⟩:=r;rfl
 | obj k a ks ds=>obtain ⟨_,rfl,_⟩:=r;rfl
 | _=>cases (show v=_ from r);rfl
theorem nonD_eq {K:PySem.W.Frag} {H:Hp} {d:D} {v:V} (r:Rep K H d v) (h:nonD d=true):v=.non:=by
 rw [nonD_rep r] at h
 exact of_decide_eq_true h
theorem gH:CmD X .Is cIsN:=by
 intro pins s σ H x y v u Q I rx ry h
 obtain ⟨dx,dy,b,r1,r2,e,q⟩:=h
 obtain ⟨h1,rfl⟩:=iteS e
 exact op_isN pins s σ H x y v u Q I rx ry ⟨nonD_eq r2 h1,by rw [<- nonD_rep r1];exact q⟩
theorem d_:CmD X .IsNot cNotN:=by
 intro pins s σ H x y v u Q I rx ry h
 obtain ⟨dx,dy,b,r1,r2,e,q⟩:=h
 obtain ⟨k,e2,rfl⟩:=mapS e
 obtain ⟨h1,rfl⟩:=iteS e2
 exact op_notN pins s σ H x y v u Q I rx ry ⟨nonD_eq r2 h1,by rw [<- nonD_rep r1];exact q⟩
theorem jS:CaD X (.builtin "len") fLen:=call_len_seq.imp fun xs H Q ⟨ds,d,r,e,q⟩=>by
 match ds,e with
 | [x],e =>
  obtain ⟨ys,e1,e2⟩:=mapS e
  subst e2
  obtain ⟨v,r',rfl,r1,r2⟩:=r
  cases (show r'=[] from r2)
  obtain ⟨p,vs,rfl,hq,t⟩:=items_rep r1 e1
  exact ⟨p,vs,rfl,hq,q _ H (Same.refl H) (by show V.int _=V.int _;rw [t.length])⟩
theorem gw:CaD X (.type "tuple") fTuple:=call_tuple_of.imp fun xs H Q ⟨ds,d,r,e,q⟩=>by
 match ds,e with
 | [.tup ys],e =>
  cases e
  obtain ⟨v,r',rfl,⟨a,vs,rfl,hq,t⟩,r2⟩:=r
  cases (show r'=[] from r2)
  exact ⟨a,vs,rfl,.inr ⟨hq,q _ H (Same.refl H) ⟨a,vs,rfl,hq,t⟩⟩⟩
 | [.lst ys],e =>
  cases e
  obtain ⟨v,r',rfl,⟨a,vs,rfl,hq,t⟩,r2⟩:=r
  cases (show r'=[] from r2)
  exact ⟨a,vs,rfl,.inl ⟨SqL.of hq,fun l hl=>q _ _ (aZ hl _) ⟨l,vs,rfl,SqT.of ax,t.mono (aZ hl _)⟩⟩⟩
theorem sX:CaD X (.type "str") fStr:=call_str_int.imp fun xs H Q ⟨ds,d,r,e,q⟩=>by
 match ds,e with
 | [.int i],e =>
  have e':(if i.natAbs.log2<1920 then some (D.str (toString i)) else none)=some d:=e
  split at e'
  ·rename_i hz
   cases e'
   obtain ⟨v,r',rfl,r1,r2⟩:=r
   cases (show r'=[] from r2)
   cases (show v=_ from r1)
   exact ⟨i,rfl,hz,q _ H (Same.refl H) rfl⟩
  ·cases e'
theorem bools_rep {K:PySem.W.Frag} {H:Hp}:∀ {ds:List D} {bs:List Bool} {vs:List V} {us:List Value},bools ds=some bs->Reps K H ds vs->Vals vs us->us=bs.map .bool
 | [],_,_,_,e,h,r=>by
  cases e
  cases (show _=[] from h)
  cases r
  rfl
 | d::ds,_,_,_,e,h,r=>by
  cases d with
  | bl b =>
   obtain ⟨bs',e1,e2⟩:=mapS e
   subst e2
   obtain ⟨v,vr,rfl,r1,r2⟩:=h
   cases (show v=_ from r1)
   cases r with
   | cons q t =>
    cases q
    rw [bools_rep e1 r2 t]
    rfl
  | _=>cases e
theorem uU (hc:X.calm=true):CaD X (.builtin "all") fAll:=by
 intro pins s σ H xs us Q I r h
 obtain ⟨ds,d,rs,e,q⟩:=h
 match ds,e with
 | [.lst ys],e =>
  obtain ⟨bs,e1,e2⟩:=mapS e
  subst e2
  obtain ⟨v,r',rfl,⟨a,vs,rfl,hq,t⟩,r2⟩:=rs
  cases (show r'=[] from r2)
  obtain ⟨u,rfl,ru⟩:=vals1 r
  cases ru
  obtain ⟨z,its,n,rv,hl,eo⟩:=I.lstM hq
  have hits:=bools_rep e1 t rv
  have hlist:s.heap.IsList a its.toArray:=⟨_,eo,rfl,n,rfl⟩
  have hlt:a<s.heap.objs.size:=Heap.lt_size eo
  refine call_all_walk (wpAny_pyIter_list hlist ?_)
  refine ⟨s.heap.objs.size,[s.heap.objs.size,a],[s.heap.objs.size],its.toArray.size,_,_,fun i=>(bs[i]?).getD true,rfl,Walks.list (A:=X.A.in1) (I.ok.hd hc) _ a (Nat.ne_of_lt hlt) its.toArray,
   ⟨⟨_,Heap.get?_push_size _ rfl,rfl,rfl⟩,hlist.push _⟩,fun i v s' Q' E' hP hQ=>?_,fun h' tk hk=>?_⟩
  ·have hv:its[i]?=some v:=by simpa using hP
   rw [hits,List.getElem?_map] at hv
   obtain ⟨b,eb,ev⟩:=mapS hv
   subst ev
   simp only [eb,Option.getD_some] at hQ
   exact wpAny_truthy_bool hQ
  ·have e3:((List.range its.toArray.size).all fun i=>(bs[i]?).getD true)=bs.all id:=by
    rw [List.size_toArray,hits,List.length_map]
    exact LSm.range_all bs
   rw [e3]
   refine ⟨.bl (bs.all id),H,I.kept (t':=tk) fun b o eb=>hk b o ?_ (Heap.get?_push_of_some _ eb),rfl,q _ H (Same.refl H) rfl⟩
   intro hm
   rw [List.mem_singleton.mp hm] at eb
   exact Nat.lt_irrefl _ (Heap.lt_size eb)
theorem dg {k:Nat} (hr:Room k X.A):CmD X .Eq cEq:=by
 intro pins s σ H x y v u Q I rx ry h
 obtain ⟨dx,dy,b,r1,r2,e,q⟩:=h
 have sc:scal x y=true->decide (x=y)=b->wpAny (model X.prog X.w) X.A (compareOp .Eq v u) (EP X pins σ Q) X.xe s:=fun z1 z2=>op_eq pins s σ H x y v u Q I rx ry ⟨z1,by rw [z2];exact q⟩
 cases dx with
 | int i=>obtain ⟨j,e1,e⟩:=mapS e;cases (show x=_ from r1);cases nI_of e1 r2;exact sc rfl (dec_int.trans e)
 | str i=>obtain ⟨j,e1,e⟩:=mapS e;cases (show x=_ from r1);cases sI_of e1 r2;exact sc rfl (dec_str.trans e)
 | bl i=>obtain ⟨j,e1,e⟩:=mapS e;cases (show x=_ from r1);cases bO_of e1 r2;exact sc rfl (dec_bl.trans e)
 | _=>cases e
theorem rQ {k:Nat} (hr:Room k X.A):CmD X .NotEq cNe:=by
 intro pins s σ H x y v u Q I rx ry h
 obtain ⟨dx,dy,b,r1,r2,e0,q⟩:=h
 obtain ⟨c,e,rfl⟩:=mapS e0
 clear e0
 have sc:scal x y=true->decide (x=y)=c->wpAny (model X.prog X.w) X.A (compareOp .NotEq v u) (EP X pins σ Q) X.xe s:=fun z1 z2=>op_ne pins s σ H x y v u Q I rx ry ⟨z1,by rw [z2];exact q⟩
 cases dx with
 | int i=>obtain ⟨j,e1,e⟩:=mapS e;cases (show x=_ from r1);cases nI_of e1 r2;exact sc rfl (dec_int.trans e)
 | str i=>obtain ⟨j,e1,e⟩:=mapS e;cases (show x=_ from r1);cases sI_of e1 r2;exact sc rfl (dec_str.trans e)
 | bl i=>obtain ⟨j,e1,e⟩:=mapS e;cases (show x=_ from r1);cases bO_of e1 r2;exact sc rfl (dec_bl.trans e)
 | _=>cases e
variable {a:Expr} {f:R->Option D} {pos p2:Pos} {lo hi:Option Expr} {l h:R->Option (Option Int)}
theorem ee:SO X none noP:=po_none.imp fun σ H Q ⟨ρ,o,er,e,q⟩=>by
 cases e
 exact q H (Same.refl H)
theorem dj (ha:SE X a f):SO X (some a) (aP f):=(po_some ha).imp fun σ H Q ⟨ρ,o,er,e,q⟩=>by
 obtain ⟨x,e1,e2⟩:=bindS e
 refine ⟨ρ,x,er,e1,fun v H1 s1 r1=>?_⟩
 cases x with
 | int i=>cases e2;exact ⟨i,r1,q H1 s1⟩
 | _=>cases e2
theorem cutP_eq (n d:Nat) (o:Option Int):cutP n d o=HT.sIx n d o:=rfl
theorem getItem_whole {prog:Program} {w:World} {A:Around} {E:Value->Shared->Prop} {s:Shared} {t sl:Addr} {items:Array Value} {vl vu:Value} {lo hi:Option Int} {Q:Value->Shared->Prop} (ht:IsTup s.heap t items) (hs:s.heap.IsSliceOf sl vl vu .none) (pl:IsPart vl lo) (pu:IsPart vu hi)
  (hw:HT.sIx items.size 0 lo=0/\HT.sIx items.size items.size hi=items.size) (h:Q (.ref t) s):wpAny (model prog w) A (getItem (.ref t) (.ref sl)) Q E s:=by
 obtain ⟨os,hos,hcs,hds⟩:=id hs
 have hTs:s.TypeIs (.ref sl) "slice":=⟨os,hos,hcs⟩
 unfold getItem
 try with_reducible refine wpAny_holding ?_
 first | refine wpAny_bind (wpAny_pure ?_) | skip
 refine wpAny_bind (wpAny_sequenceKey ht.typeIs (by decide) ?_)
 refine wpAny_bind (wpAny_callSpecial?_slot (name:=Str.ofString "__getitem__") ht.typeIs PyProof.Rows.slot_tuple_getitem
  (wpAny_call_entry PyProof.Rows.slot_tuple_getitem ht.typeIs entry_tuple_getitem ?_ (args_tuple_getitem _ _)))
 show wpAny _ _ (Builtin.Tuple.tupleItemsOf (.ref t) >>= _) _ _ s
 refine wpAny_bind (tupleItemsOf_ ht ?_)
 refine wpAny_bind (wpAny_typeOf hTs ?_)
 rw [if_pos (by decide)]
 refine wpAny_bind (HT.sliceApplied_gen hs pl pu ?_)
 have hyes:((((HT.sIx items.size 0 lo:Nat):Int)==0&&(1:Int)==1&&(HT.sIx items.size items.size hi - HT.sIx items.size 0 lo)==items.size)=true):=by
  rw [hw.1,hw.2];simp
 show wpAny _ _ (if (((HT.sIx items.size 0 lo:Nat):Int)==0&&(1:Int)==1&&(HT.sIx items.size items.size hi - HT.sIx items.size 0 lo)==items.size)=true then _ else _) _ _ s
 rw [if_pos hyes]
 refine wpAny_bind (m:=Builtin.Tuple.tupleIsExact _) (wpAny_bind (wpAny_typeOf ht.typeIs (wpAny_pure ?_)))
 rw [if_pos (by decide)]
 exact wpAny_bind (wpAny_rule (wpAny_pure ⟨_,rfl,wpAny_pure h⟩))
theorem cutV_whole {xs:List V} {lo hi:Option Int} (h:HT.sIx xs.length 0 lo=0/\HT.sIx xs.length xs.length hi=xs.length):cutV xs lo hi=xs:=by
 unfold cutV
 rw [h.1,h.2,List.drop_zero,Nat.sub_zero,List.take_length]
def rSlA (K:PySem.W.Frag):V->Option Int->Option Int->Hp->VK->Prop:=fun x lo hi H Q=>∃ a xs,x=.ref a/\SqT K H a xs/\∀ p H',Same H H'->SqT K H' p (cutV xs lo hi)->Q (.ref p) H'
theorem sl_all:SlR X (rSlA X.K):=by
 intro pins s σ H x v vl vu lo hi sl Q I rx hs pl pu h
 obtain ⟨a,xs,rfl,hx,q⟩:=h
 by_cases hw:HT.sIx xs.length 0 lo=0/\HT.sIx xs.length xs.length hi=xs.length
 ·cases rx
  obtain ⟨its,r,ht,hz⟩:=I.tuple hx
  have hlen:its.toArray.size=xs.length:=by rw [List.size_toArray];exact r.length.symm
  refine ⟨"tuple",_,PyProof.Rows.slot_tuple_getitem.lookup,ht.typeIs,?_⟩
  exact getItem_whole ht hs pl pu (by rw [hlen];exact hw) ⟨.ref a,H,I,rfl,q a H (Same.refl H) (by rw [cutV_whole hw];exact hx)⟩
 ·exact sl_tup pins s σ H (.ref a) v vl vu lo hi sl Q I rx hs pl pu ⟨a,xs,rfl,hx,hw,fun p hp=>q p _ (aZ hp _) (SqT.of ax)⟩
theorem qv {K:PySem.W.Frag} {H:Hp} {ds:List D} {xs:List V} (t:Reps K H ds xs) (lo hi:Option Int):Reps K H (cutD ds lo hi) (cutV xs lo hi):=by
 unfold cutD cutV
 rw [t.length,cutP_eq,cutP_eq]
 exact (t.drop _).take _
theorem gn (ha:SE X a f) (hl:SO X lo l) (hh:SO X hi h):SE X (.Subscript a (.Slice lo hi none p2) pos) (slD f l h):=(oC (sl_all.or sl_list) ha hl hh).imp fun σ H Q ⟨ρ,d,er,e,q⟩=>by
 obtain ⟨x,e1,e⟩:=bindS e
 obtain ⟨o1,e2,e⟩:=bindS e
 obtain ⟨o2,e3,e⟩:=bindS e
 refine ⟨ρ,x,er,e1,fun v H1 s1 r1=>⟨ρ,o1,er.mono s1,e2,fun H2 s2=>⟨ρ,o2,er.mono (s1.trans s2),e3,fun H3 s3=>?_⟩⟩⟩
 cases x with
 | tup xs =>
  cases e
  obtain ⟨a,vs,rfl,hq,t⟩:=(r1.mono (s2.trans s3))
  exact .inl ⟨a,vs,rfl,hq,fun p H4 s4 sq=>q _ H4 (s1.trans (s2.trans (s3.trans s4))) ⟨p,_,rfl,sq,(qv t o1 o2).mono s4⟩⟩
 | lst xs =>
  cases e
  obtain ⟨a,vs,rfl,hq,t⟩:=(r1.mono (s2.trans s3))
  refine .inr ⟨a,vs,rfl,SqL.of hq,fun p hp=>?_⟩
  have s4:=aZ hp (.lst (cutV vs o1 o2))
  exact q _ _ (s1.trans (s2.trans (s3.trans s4))) ⟨p,_,rfl,ax,(qv t o1 o2).mono s4⟩
 | _=>cases e
theorem np:∀ {xs:List V} {us:List Value},Vals xs us->Vals xs.reverse us.reverse
 | _,_,.nil=>.nil
 | _,_,.cons r t=>by
  rw [List.reverse_cons,List.reverse_cons]
  exact (np t).append (.cons r .nil)
end
end HW
set_option maxHeartbeats 2000000
namespace HW
open PySem PySem.Spec PyProof.Rows L2
def clOf (names:List (Str×NameKind)) (cells:List (Str×Addr)) (acc:List (Str×Addr)):List (Str×Addr) :=
 match names with
 | []=>acc
 | (n,k)::r=>clOf r cells (if k==.free then (match cells.lookup n with | some c=>(n,c)::acc | none=>acc) else acc)
theorem closure_go {env:Env}:∀ (names:List (Str×NameKind)) (acc:List (Str×Addr)),(∀ p∈names,p.2=.free->∃ c,env.cells.lookup p.1=some c) ->
    (forIn names acc fun x r=>(match x with
      | (name,kind)=>if (kind==NameKind.free)=true then do
          let c <- cellOf env name
          pure (ForInStep.yield ((name,c)::r))
        else pure (ForInStep.yield r):Sem (ForInStep (List (Str×Addr)))))=(pure (clOf names env.cells acc):Sem (List (Str×Addr)))
  | [],acc,_=>rfl
  | (n,k)::r,acc,h=>by
    rw [List.forIn_cons]
    cases hk:(k==NameKind.free) with
    | false =>
      have ih:=closure_go r acc fun p hp=>h p (List.mem_cons_of_mem _ hp)
      simp only [hk,clOf,Bool.false_eq_true,if_false]
      exact ih
    | true =>
      obtain ⟨c,hc⟩:=h (n,k) List.mem_cons_self (by simpa using hk)
      have ih:=closure_go r ((n,c)::acc) fun p hp=>h p (List.mem_cons_of_mem _ hp)
      have hcell:cellOf env n=pure c:=by unfold cellOf;rw [show env.cells.lookup n=some c from hc]
      simp only [hk,clOf,if_true,hcell,show env.cells.lookup n=some c from hc]
      exact ih
theorem closure_eq {scope:Scope} {env:Env} (h:∀ p∈scope.names,p.2=.free->∃ c,env.cells.lookup p.1=some c):closureFor scope env=pure (clOf scope.names env.cells []):=by
 unfold closureFor
 have:=closure_go scope.names [] h
 simp only [bind_pure]
 exact this
theorem lookup_ite {β:Type} {y n:Str} {c:β} {l:List (Str×β)}:List.lookup y ((n,c)::l)=if y=n then some c else List.lookup y l:=by
 rw [List.lookup_cons]
 by_cases h:y=n
 ·subst h;simp
 ·have:(y==n)=false:=by simpa using h
  rw [this,if_neg h]
theorem clOf_ok {cells:List (Str×Addr)}:∀ (names:List (Str×NameKind)) (acc:List (Str×Addr)),(∀ y c,acc.lookup y=some c->cells.lookup y=some c)->∀ y c,(clOf names cells acc).lookup y=some c->cells.lookup y=some c
 | [],acc,h=>h
 | (n,k)::r,acc,h=>by
  unfold clOf
  refine clOf_ok r _ ?_
  split
  ·cases hc:cells.lookup n with
   | none=>exact h
   | some c0 =>
    intro y c hy
    rw [lookup_ite] at hy
    split at hy
    ·rename_i e
     subst e
     cases hy
     exact hc
    ·exact h y c hy
  ·exact h
theorem clOf_keep {cells:List (Str×Addr)} {y:Str}:∀ (names:List (Str×NameKind)) (acc:List (Str×Addr)),(acc.lookup y).isSome=true->((clOf names cells acc).lookup y).isSome=true
 | [],acc,h=>h
 | (n,k)::r,acc,h=>by
  unfold clOf
  refine clOf_keep r _ ?_
  split
  ·cases hc:cells.lookup n with
   | none=>exact h
   | some c0 =>
    dsimp only
    rw [lookup_ite]
    split
    ·rfl
    ·exact h
  ·exact h
theorem clOf_has {cells:List (Str×Addr)} {y:Str} {c:Addr} (hc:cells.lookup y=some c):∀ (names:List (Str×NameKind)) (acc:List (Str×Addr)),(y,NameKind.free)∈names->((clOf names cells acc).lookup y).isSome=true
 | (n,k)::r,acc,h=>by
  unfold clOf
  rcases List.mem_cons.mp h with e | h
  ·cases e
   refine clOf_keep r _ ?_
   rw [if_pos (show (NameKind.free==NameKind.free)=true by decide),hc]
   dsimp only
   rw [lookup_ite,if_pos rfl]
   rfl
  ·exact clOf_has hc r _ h
theorem clOf_at {cells:List (Str×Addr)} {names:List (Str×NameKind)} {y:Str} {c:Addr} (hc:cells.lookup y=some c) (h:(y,NameKind.free)∈names):(clOf names cells []).lookup y=some c:=by
 obtain ⟨c',e⟩:=Option.isSome_iff_exists.mp (clOf_has hc names [] h)
 have:=clOf_ok names [] (fun y c h=>by cases h) y c' e
 rw [hc] at this
 cases this
 exact e
theorem relabel_at {env:Env} {y:Str}:∀ (names:List (Str×NameKind)),(names.map fun (n,k)=>if (k==NameKind.free&&env.scope.kind==.function&&env.kindOf n==some .cell) then (n,NameKind.cell) else (n,k)).lookup y =
  (names.lookup y).map fun k=>if (k==NameKind.free&&env.scope.kind==.function&&env.kindOf y==some .cell) then NameKind.cell else k
 | []=>rfl
 | (n,k)::r=>by
  have hd:∀ (c:Bool),(if c=true then (n,NameKind.cell) else (n,k))=(n,if c=true then NameKind.cell else k):=fun c=>by cases c<;>rfl
  rw [List.map_cons]
  show List.lookup y ((if (k==NameKind.free&&env.scope.kind==.function&&env.kindOf n==some .cell)=true then (n,NameKind.cell) else (n,k))::_)=_
  rw [hd,lookup_ite,lookup_ite]
  by_cases e:y=n
  ·subst e
   rw [if_pos rfl,if_pos rfl]
   rfl
  ·rw [if_neg e,if_neg e]
   exact relabel_at r
def compChk (sc outer:Scope) (T N:List Str):Bool :=
 sc.kind==.function&&(sc.names.all fun p=>p.2 != .cell&&(p.2 != .local||(sc.names.lookup p.1==some .local&&(T.contains p.1||p.1==(".0" : Str))))&&(p.2 != .free||outer.names.lookup p.1==some .cell||outer.names.lookup p.1==some .free)) &&
  (T.all fun t=>sc.names.lookup t==some .local)&&!N.contains (".0" : Str)
structure CompOk (sc outer:Scope) (T N:List Str):Prop where
 kind:sc.kind=.function
 nocell:∀ y∈sc.names,y.2≠.cell
 names:∀ y∈sc.names,y.2=.local->sc.names.lookup y.1=some .local
 loc:∀ y,sc.names.lookup y=some .local->y∈T\/y=(".0" : Str)
 free:∀ y∈sc.names,y.2=.free->outer.names.lookup y.1=some .cell\/outer.names.lookup y.1=some .free
 tg:∀ t∈T,sc.names.lookup t=some .local
 no0:(".0" : Str)∉N
theorem compOk_of {sc outer:Scope} {T N:List Str} (h:compChk sc outer T N=true):CompOk sc outer T N:=by
 unfold compChk at h
 rw [Bool.and_eq_true,Bool.and_eq_true,Bool.and_eq_true] at h
 obtain ⟨⟨⟨h1,h2⟩,h3⟩,h4⟩:=h
 rw [List.all_eq_true] at h2 h3
 have g:∀ y∈sc.names,y.2≠.cell/\(y.2=.local->sc.names.lookup y.1=some .local/\(y.1∈T\/y.1=(".0" : Str)))/\(y.2=.free->outer.names.lookup y.1=some .cell\/outer.names.lookup y.1=some .free):=fun y hy=>by
  have q:=h2 y hy
  rw [Bool.and_eq_true,Bool.and_eq_true] at q
  obtain ⟨⟨q1,q2⟩,q3⟩:=q
  refine ⟨by simpa using q1,fun hl=>?_,fun hf=>?_⟩
  ·rw [hl] at q2
   simpa using q2
  ·rw [hf] at q3
   simpa using q3
 refine ⟨by simpa using h1,fun y hy=>(g y hy).1,fun y hy hl=>((g y hy).2.1 hl).1,fun y hy=>?_,fun y hy hf=>(g y hy).2.2 hf,fun t ht=>by simpa using h3 t ht,by simpa using h4⟩
 exact ((g (y,.local) (PySem.mem_of_lookup hy)).2.1 rfl).2
def cxC (X:Cx) (T:List Str) (scope:Scope) (C:Addr) (fp:List Addr) (s₃:Shared) (H₃:Hp):Cx where
 prog:=X.prog
 w:=X.w
 K:=X.K
 mg:=X.mg
 base:=X.base
 A:=X.A
 N:=T++X.N
 s₀:=s₃
 H₀:=H₃
 env:=compEnvC scope (clOf scope.names X.env.cells []) C X.env
 outer:=X.stack
 stack:=X.stack
 ex:=fp
 fn:=fun _=>false
 calm:=X.calm
 pn:=[]
 xe:=fun _ _=>False
section
variable {X:Cx} {pins:List (Addr×Obj)} {σ:L2.St} {H:Hp} {s:Shared} {T:List Str} {scope:Scope} {C:Addr} {fp:List Addr} {h₁:Heap} {t:Nat}
theorem inv_comp (I:L2.Inv X pins σ H s) (ck:CompOk scope X.env.scope T X.N) (hnd:(T++X.N).Nodup) (hf:∀ b∈fp,FpOk X pins H b) (hfo:∀ b∈fp,∃ o,s.heap.get? b=some o) (hC:s.heap.objs.size<=C)
  (hk:∀ b u,s.heap.get? b=some u->h₁.get? b=some u) (hns:h₁.Ns C (fun _=>none)) :
  L2.Inv (cxC X T scope C fp s H) [] (List.replicate T.length none++σ) H {s with heap:=h₁,toks:=t}:=by
 have hlt:∀ b∈fp,b<s.heap.objs.size:=fun b hb=>let ⟨o,e⟩:=hfo b hb;Heap.lt_size e
 have hcl:∀ y c,(clOf scope.names X.env.cells []).lookup y=some c->X.env.cells.lookup y=some c:=clOf_ok scope.names [] fun y c h=>by cases h
 have hfr:∀ y,(y,NameKind.free)∈scope.names->(X.env.kindOf y=some .cell\/X.env.kindOf y=some .free)/\∃ c,(clOf scope.names X.env.cells []).lookup y=some c/\X.env.cells.lookup y=some c:=fun y hy=>by
  have k:=ck.free _ hy rfl
  obtain ⟨c,hc⟩:=I.ok.has y k
  exact ⟨k,c,clOf_at hc hy,hc⟩
 have hkind:∀ y,(compEnvC scope (clOf scope.names X.env.cells []) C X.env).kindOf y=(scope.names.lookup y).map fun k=>if (k==NameKind.free&&X.env.scope.kind==.function&&X.env.kindOf y==some .cell) then NameKind.cell else k:=fun y=>relabel_at scope.names
 have hvis:∀ y,((compEnvC scope (clOf scope.names X.env.cells []) C X.env).kindOf y=some .cell\/(compEnvC scope (clOf scope.names X.env.cells []) C X.env).kindOf y=some .free)->(y,NameKind.free)∈scope.names:=fun y hy=>by
  rw [hkind] at hy
  cases hl:scope.names.lookup y with
  | none=>rw [hl] at hy;rcases hy with z | z<;>cases z
  | some k =>
   have hm:=PySem.mem_of_lookup hl
   rw [hl] at hy
   cases k with
   | free=>exact hm
   | cell=>exact absurd rfl (ck.nocell _ hm)
   | «local»=>rcases hy with z | z<;>cases z
   | globalExplicit=>rcases hy with z | z<;>cases z
   | globalImplicit=>rcases hy with z | z<;>cases z
 refine ⟨⟨I.ok.mod,ck.kind,I.ok.glob,I.ok.blt,hC,fun x y c h1 h2=>I.ok.inj x y c (hcl x c h1) (hcl y c h2),fun y hy=>?_,fun y c h=>absurd (show false=true from h) Bool.false_ne_true,I.ok.hd,I.ok.frames,.inl rfl,fun b hb=>⟨?_,fun x c h=>?_⟩,I.bs,
  Nat.le_trans I.ok.bsz I.sz,fun b o e hb=>?_,fun b hb hz=>?_,I.stack,I.stkFree⟩,rfl,I.bare,Un.kept hk,⟨_,hns,fun i x v h1 h2 h3=>?_⟩,fun y c h=>?_,I.hok.fresh hC,fun y c h=>I.freeC y c (hcl y c h),fun p hp=>absurd (show p∈([]:List (Addr×Obj)) from hp) (by simp),I.hok.kept hk,?_⟩
 ·obtain ⟨_,c,h1,_⟩:=hfr y (hvis y hy)
  exact ⟨c,h1⟩
 ·exact Nat.ne_of_lt (Nat.lt_of_lt_of_le (hlt b hb) hC)
 ·exact (hf b hb).2.2.2.2.1 x c (hcl x c h)
 ·rcases (hf b hb).2.2.2.1 with z | z
  ·exact I.ok.noex b o e z
  ·exact absurd (Nat.lt_of_lt_of_le (Heap.lt_size e) (Nat.le_trans I.ok.bsz z)) (Nat.lt_irrefl _)
 ·rcases List.mem_cons.mp (I.stkSub b hz) with z | z
  ·exact (hf b hb).2.1 z
  ·exact (hf b hb).2.2.1 z
 ·by_cases hi:i<T.length
  ·rw [List.getElem?_append_left (by simpa using hi),List.getElem?_replicate] at h2
   split at h2<;>cases h2
  ·rw [List.getElem?_append_right (by simpa using hi),List.length_replicate] at h2
   have h1':X.N[i - T.length]?=some x:=by
    have z:(T++X.N)[i]?=some x:=h1
    rw [List.getElem?_append_right (by omega)] at z
    exact z
   have hxN:x∈X.N:=List.mem_of_getElem? h1'
   have hxf:(x,NameKind.free)∈scope.names:=by
    rcases h3 with z | z | z
    ·have z':(compEnvC scope (clOf scope.names X.env.cells []) C X.env).kindOf x=some .local:=z
     rw [hkind] at z'
     cases hl:scope.names.lookup x with
     | none=>rw [hl] at z';cases z'
     | some k =>
      rw [hl] at z'
      have hkl:k=.local:=by
       cases k with
       | «local»=>rfl
       | free=>simp at z';split at z'<;>cases z'
       | cell=>cases z'
       | globalExplicit=>cases z'
       | globalImplicit=>cases z'
      subst hkl
      rcases ck.loc x hl with q | q
      ·exact absurd rfl ((List.nodup_append.mp hnd).2.2 x q x hxN)
      ·exact absurd (q ▸ hxN) ck.no0
    ·exact hvis x (.inl z)
    ·exact hvis x (.inr z)
   obtain ⟨hk2,c,hc1,hc2⟩:=hfr x hxf
   obtain ⟨m,hm,hl⟩:=I.loc
   obtain ⟨u,ru,lk⟩:=hl _ x v h1' h2 (hk2.elim (fun z=>.inr (.inl z)) fun z=>.inr (.inr z))
   refine ⟨u,ru,.inr ⟨?_,c,hc1,?_⟩⟩
   ·rcases h3 with z | z | z
    ·exfalso
     have z':(compEnvC scope (clOf scope.names X.env.cells []) C X.env).kindOf x=some .local:=z
     rw [hkind] at z'
     cases hl2:scope.names.lookup x with
     | none=>rw [hl2] at z';cases z'
     | some k =>
      rw [hl2] at z'
      have hkl:k=.local:=by
       cases k with
       | «local»=>rfl
       | free=>simp at z';split at z'<;>cases z'
       | cell=>cases z'
       | globalExplicit=>cases z'
       | globalImplicit=>cases z'
      subst hkl
      rcases ck.loc x hl2 with q | q
      ·exact absurd rfl ((List.nodup_append.mp hnd).2.2 x q x hxN)
      ·exact absurd (q ▸ hxN) ck.no0
    ·exact .inl z
    ·exact .inr z
   ·rcases lk with ⟨kl,_⟩ | ⟨_,c',hc',hcell⟩
    ·rcases hk2 with z | z
     ·rw [kl] at z;cases z
     ·rw [kl] at z;cases z
    ·rw [hc2] at hc'
     cases hc'
     obtain ⟨o,ho,hd⟩:=hcell
     exact ⟨o,hk _ _ ho,hd⟩
 ·obtain ⟨v,o,ho,hd⟩:=I.cell y c (hcl y c h)
  exact ⟨v,o,hk _ _ ho,hd⟩
 ·show (List.replicate T.length none++σ).length=(T++X.N).length
  rw [List.length_append,List.length_append,List.length_replicate,I.len]
end
theorem compLoop_any {prog:Program} {w:World} {A:Around} {R':Result->Shared->Prop} {s:Shared} {elt target iter:Expr} {ifs:List Expr} {scope:Scope} {pos:Pos} {it acc:Value} {env:Env} (I:Nat->Shared->Prop)
    (turn:∀ n s,I n s->wpAny (model prog w) A (pyNext it) (fun r s₁=>match r with
      | none=>R' (.ok .next) s₁
      | some v=>wpAny (model prog w) A (letOwnedTupleGo target it v) (fun _ s₁'=>wpAny (model prog w) A (assign target env v) (fun _ s₂ =>
          wpAny (model prog w) A (forIn ifs true fun c r=>if r=true then do let ok <- isTrue c env (eval c env);pure (ForInStep.yield ok) else pure (ForInStep.yield r)) (fun ok s₃ =>
            if ok=true then wpAny (model prog w) A (eval elt env) (fun x s₄ =>
              wpAny (model prog w) A (call (.builtin "list.append") [acc,x]) (fun _ s₅=>∃ m,m<n/\I m s₅) (fun _ _=>False) s₄) (fun _ _=>False) s₃
            else ∃ m,m<n/\I m s₃) (fun _ _=>False) s₂) (fun _ _=>False) s₁') (fun _ _=>False) s₁) (fun _ _=>False) s)
    (n:Nat) (h:I n s):codeAny (model prog w) A (.compLoop (.ListComp elt [⟨target,iter,ifs,0⟩] scope pos) 0 it acc env) R' s:=by
  refine codeAny_loop rfl I (fun n s hI=>?_) n h
  show wpAny _ A ((compTurn (.ListComp elt [⟨target,iter,ifs,0⟩] scope pos) 0 it acc env).onRaise (fun x=>do noteFrame x env;theTreesLotGoes x)) _ _ s
  refine wpAny_noted ?_
  rw [compTurn_list]
  have ff:∀ {E:Value->Shared->Prop} (a:Value) (s:Shared),False->E a s:=fun _ _ z=>z.elim
  refine wpAny_bind (wpAny_standAt (wpAny_bind (wpAny_mono (turn n s hI) (fun r s₁ h₁=>?_) ff)))
  cases r with
  | none=>exact wpAny_pure h₁
  | some v =>
    refine wpAny_bind (wpAny_mono h₁ (fun _ s₁' h₁'=>?_) ff)
    refine wpAny_bind (wpAny_mono h₁' (fun _ s₂ h₂=>wpAny_bind (wpAny_mono h₂ (fun ok s₃ h₃=>?_) ff)) ff)
    cases ok with
    | false=>exact wpAny_pure ⟨rfl,h₃⟩
    | true =>
      exact wpAny_bind (wpAny_bind (wpAny_mono h₃ (fun x s₄ h₄=>wpAny_bind (wpAny_mono h₄ (fun _ s₅ h₅=>wpAny_pure (wpAny_pure ⟨rfl,h₅⟩)) ff)) ff))
def SIf (X:Cx) (ifs:List Expr) (c:R->Option Bool):Prop :=
 ∀ (pins:List (Addr×Obj)) (s:Shared) (σ:L2.St) (H:Hp) (Q:Bool->Hp->Prop),L2.Inv X pins σ H s->tDT X.K c σ H Q ->
  wpAny (model X.prog X.w) X.A (forIn ifs true fun c r=>if r=true then do let ok <- isTrue c X.env (eval c X.env);pure (ForInStep.yield ok) else pure (ForInStep.yield r)) (TP X pins σ Q) X.xe s
theorem iv {X:Cx}:SIf X [] yesT:=fun pins s σ H Q I ⟨ρ,b,er,e,q⟩=>by
 cases e
 exact wpAny_tests_nil ⟨H,I,q H (Same.refl H)⟩
section
variable {X:Cx} {pins:List (Addr×Obj)} {σ:L2.St} {H:Hp} {s:Shared} {T:List Str} {scope:Scope}
def Front (k:Nat) (stf:D->R->Option R):Prop:=∀ (d:D) (τ ρ ρ1:R),τ.length=k->stf d (τ++ρ)=some ρ1->∃ τ',τ'.length=k/\ρ1=τ'++ρ
theorem front_set {k i:Nat} (h:i<k):Front k (setAt i):=fun d τ ρ ρ1 hl e=>by
 unfold setAt at e
 split at e
 ·cases e
  exact ⟨τ.set i (some d),by simp [hl],List.set_append_left _ _ (by omega)⟩
 ·cases e
theorem EnvR.forget {K:PySem.W.Frag} {H:Hp} {τ ρ:R} {σ:L2.St} (e:EnvR K H (τ++ρ) σ):EnvR K H (List.replicate τ.length none++ρ) σ:=by
 refine ⟨by have:=e.1;simpa using this,fun i d h=>?_⟩
 by_cases hi:i<τ.length
 ·rw [List.getElem?_append_left (by simpa using hi),List.getElem?_replicate] at h
  split at h<;>cases h
 ·rw [List.getElem?_append_right (by simpa using hi),List.length_replicate] at h
  exact e.2 i d (by rw [List.getElem?_append_right (by omega)];exact h)
theorem track {a:Addr} {o:HO} (I:L2.Inv X pins σ H s) (f:FpOk X pins H a) (new:ObjOk X.prog X.w (upd H a o) s.heap a o):L2.Inv X pins σ (upd H a o) s:=by
 obtain ⟨f0,f1,f2,f3,f4,f5⟩:=f
 have ne:∀ {b:Addr} {u:HO},H b=some u->b≠a:=fun e z=>by rw [z,f0] at e;cases e
 refine ⟨I.ok,I.os,I.bare,⟨I.base.keep,I.base.slot,fun b ob e n hx=>?_,I.base.there,fun b xs e=>?_,fun b ob u ny e=>?_,fun b ps d e=>?_⟩,I.loc,I.cell,?_,fun x c e=>?_,fun p hp=>?_,fun b u e=>?_,I.len⟩
 ·have hb:b≠a:=fun z=>by
   rcases f3 with q | q
   ·exact hx (z ▸ q)
   ·exact absurd (Nat.lt_of_lt_of_le (Heap.lt_size e) (z ▸ q)) (Nat.lt_irrefl _)
  rw [ar hb]
  exact I.base.free b ob e n hx
 ·have q:=I.base.tups b xs e
  rw [ar (ne q)]
  exact q
 ·have q:=I.base.frzs b ob u ny e
  rw [ar (ne q)]
  exact q
 ·have q:=I.base.tbls b ps d e
  rw [ar (ne q)]
  exact q
 ·rw [ar (Ne.symm f1)]
  exact I.free
 ·rw [ar (f4 x c e)]
  exact I.freeC x c e
 ·obtain ⟨q1,q2,q3⟩:=I.pin p hp
  exact ⟨q1,by rw [ar (f5 p hp)];exact q2,q3⟩
 ·by_cases hb:b=a
  ·subst hb
   rw [ax] at e
   cases e
   exact new
  ·rw [ar hb] at e
   refine (I.hok b u e).stay (fun _ _ _ q=>q) (fun c q=>?_) (fun c xs q=>?_) fun c _ _ q=>?_
   ·rw [ar (ne q)];exact q
   ·rw [ar (ne q)];exact q
   ·rw [ar (ne q)];exact q
theorem fp_of {C:Addr} {fp:List Addr} {s₃:Shared} {H₃ H':Hp} {b:Addr} {pl:List (Addr×Obj)} (hb:b∈fp\/s₃.heap.objs.size<=b) (hC:b≠C) (hfs:b∉frs X.stack) (hcells:∀ x c,(clOf scope.names X.env.cells []).lookup x=some c->c≠b) (hn:H' b=none) (hp:∀ p∈pl,p.1≠b) :
  FpOk (cxC X T scope C fp s₃ H₃) pl H' b:=⟨hn,hC,hfs,hb,hcells,fun p hp'=>hp p hp'⟩
theorem sQ {elt iter tg:Expr} {ifs:List Expr} {pos:Pos} {it:Addr} {fp:List Addr} {tn:Nat->Heap->Prop} {J:It} {E:Value->Shared->Prop} {ρ:R} {ds out:List D} {stf:D->R->Option R} {cf:R->Option Bool} {ef:R->Option D}
  (I:L2.Inv X pins σ H s) (hc:X.calm=true) (Tn:Turn X.prog X.w X.K tg J fp it tn) (st:tn 0 s.heap) (hf:∀ b∈fp,FpOk X pins H b)
  (ck:CompOk scope X.env.scope T X.N) (hnd:(T++X.N).Nodup) (hst:Front T.length stf) (er:EnvR X.K H ρ σ) (y:Yields X.K J ds H) (hz:ds.length<=sizeLine) (hout:compD stf cf ef ds (List.replicate T.length none++ρ)=some out)
  (hg:∀ C s₃ H₃ fp,SG (cxC X T scope C fp s₃ H₃) tg stf) (hcnd:∀ C s₃ H₃ fp,SIf (cxC X T scope C fp s₃ H₃) ifs cf) (he:∀ C s₃ H₃ fp,SE (cxC X T scope C fp s₃ H₃) elt ef)
  {RR:Value->Addr->Result->Shared->Prop}
  (hRR:∀ (a C:Addr) (H':Hp) (s':Shared) (vs:List V),Same H H'->H' a=some (.lst vs)->Reps X.K H' out vs->L2.Inv X pins σ H' s'->FpOk X pins H' C->(∃ m,s'.heap.Ns C m)->RR (.ref a) C (.ok .next) s') :
  wpAny (model X.prog X.w) X.A (newList []) (fun acc s₃=>wpAny (model X.prog X.w) X.A (newFunctionEnv scope X.env.globals (clOf scope.names X.env.cells []) [] X.env.qual none .none (some X.env)) (fun cenv s₄ =>
   codeAny (model X.prog X.w) X.A (.compStart (.ListComp elt [⟨tg,iter,ifs,0⟩] scope pos) 0 (.ref it) acc {cenv with scope:=relabel scope X.env}) (RR acc cenv.locals) s₄) E s₃) E s:=by
 refine wpAny_newObj_type (wpAny_newFunctionEnv ck.nocell (by intro y hy;simp at hy) (fun h₁ hns₁ hsb₁=>?_) ck.kind)
 dsimp only at hns₁ hsb₁ ⊢
 generalize hH2:s.heap.push {cls:=.type "list",dict:=none,data:=.seq ([]:List Value).toArray}=H2 at hns₁ hsb₁ ⊢
 generalize ha:s.heap.objs.size=a at *
 generalize hCe:H2.objs.size=C at hns₁ hsb₁ ⊢
 have hC:C=a+1:=by rw [<- hCe,<- hH2,Heap.size_push,ha]
 have haC':a<C:=by rw [hC];exact Nat.lt_succ_self a
 have haC:a≠C:=Nat.ne_of_lt haC'
 have hle:s.heap.objs.size<=a:=Nat.le_of_eq ha
 have hCle:s.heap.objs.size<=C:=Nat.le_trans hle (Nat.le_of_lt haC')
 have hlta:∀ {b:Addr} {o:Obj},s.heap.get? b=some o->b<a:=fun e=>Nat.lt_of_lt_of_le (Heap.lt_size e) hle
 have old:∀ b o,s.heap.get? b=some o->h₁.get? b=some o:=fun b o e=>hsb₁.extBut b o (Nat.ne_of_lt (Nat.lt_trans (hlta e) haC')) (Heap.get?_push_of_some _ (hH2 ▸ Heap.get?_push_of_some _ e))
 have hacc:h₁.get? a=some {cls:=.type "list",data:=.seq ([]:List Value).toArray}:=hsb₁.extBut _ _ haC (Heap.get?_push_of_some _ (hH2 ▸ (ha ▸ Heap.get?_push_size _ rfl)))
 have hfo:∀ b∈fp,∃ o,s.heap.get? b=some o:=fun b hb=>let ⟨o,e,_⟩:=Tn.obj 0 _ st b hb;⟨o,e⟩
 have hlt:∀ b∈fp,b<a:=fun b hb=>let ⟨o,e⟩:=hfo b hb;hlta e
 have hns:h₁.Ns C (fun _=>none):=hns₁
 have I0:L2.Inv (cxC X T scope C fp s H) [] (List.replicate T.length none++σ) H {s with heap:=h₁,toks:=s.toks+([]:List (Str×Value)).length}:=inv_comp I ck hnd hf hfo hCle old hns
 have hcl:∀ y c,(clOf scope.names X.env.cells []).lookup y=some c->X.env.cells.lookup y=some c:=clOf_ok scope.names [] fun y c h=>by cases h
 have hfs:∀ b,a<=b->b∉frs X.stack:=fun b hb hz=>by
  rcases List.mem_cons.mp (I.stkSub b hz) with z | z
  ·exact absurd (Nat.lt_of_lt_of_le I.lt (Nat.le_trans hle (z ▸ hb))) (Nat.lt_irrefl _)
  ·exact I.nofs (Nat.le_trans hle hb) z
 have hcells:∀ b,a<=b->∀ x c,(clOf scope.names X.env.cells []).lookup x=some c->c≠b:=fun b hb x c h z=>by
  obtain ⟨v,q⟩:=I.cell x c (hcl x c h)
  exact absurd (Nat.lt_of_lt_of_le q.lt (Nat.le_trans hle (z ▸ hb))) (Nat.lt_irrefl _)
 have hfpok:∀ {H':Hp} {pl:List (Addr×Obj)},(∀ b∈fp,H' b=none)->(∀ p∈pl,p.1∉fp)->∀ b∈fp,FpOk (cxC X T scope C fp s H) pl H' b:=fun {H' pl} hn hp b hb =>
  fp_of (.inl hb) (Nat.ne_of_lt (Nat.lt_trans (hlt b hb) haC')) (I0.ok.exfs b hb) (fun x c h=>(I0.ok.exf b hb).2 x c h) (hn b hb) fun p hp' z=>hp p hp' (z ▸ hb)
 have hAok:∀ {H':Hp},H' a=none->∀ b ∈ [a],FpOk (cxC X T scope C fp s H) [] H' b:=fun {H'} hn b hb=>by
  cases List.mem_singleton.mp hb
  exact fp_of (.inr hle) haC (hfs a (Nat.le_refl _)) (hcells a (Nat.le_refl _)) hn fun p hp=>absurd hp (by simp)
 have hAfp:a∉fp:=fun z=>Nat.lt_irrefl _ (hlt a z)
 have loop:codeAny (model X.prog X.w) X.A (.compLoop (.ListComp elt [⟨tg,iter,ifs,0⟩] scope pos) 0 (.ref it) (.ref a) (compEnvC scope (clOf scope.names X.env.cells []) C X.env))
   (RR (.ref a) C) {s with heap:=h₁,toks:=s.toks+([]:List (Str×Value)).length}:=by
  refine compLoop_any (fun n s'=>∃ i σ' H' vs its k done rest,n=ds.length - i/\i<=ds.length/\L2.Inv (cxC X T scope C fp s H) [] σ' H' s'/\tn i s'.heap/\(∀ b∈fp,H' b=none)/\H' a=none/\Same H H' /\
   s'.heap.get? a=some {cls:=.type "list",data:=.seq (its:List Value).toArray k}/\Vals vs its/\Reps X.K H' done vs/\vs.length<=i/\EnvR X.K H' (List.replicate T.length none++ρ) σ' /\
   compD stf cf ef (ds.drop i) (List.replicate T.length none++ρ)=some rest/\out=done++rest) ?_ ds.length
   ⟨0,_,H,[],[],0,[],out,by omega,Nat.zero_le _,I0,Tn.keep _ _ _ st (fun b hb o e=>old b o e),fun b hb=>(hf b hb).1,I.hok.fresh hle,Same.refl H,hacc,.nil,rfl,Nat.zero_le _,er.front T.length (List.replicate T.length none) (by simp),by simpa using hout,rfl⟩
  rintro n s' ⟨i,σ',H',vs,its,k,done,rest,rfl,hi,I',st',hn',hna,sm,ho,hv,hrd,hvl,er',hrest,hsum⟩
  have Ip:=I'.pinned (fp:=[a]) (hAok hna) fun b hb=>by
   cases List.mem_singleton.mp hb
   exact ⟨_,ho,fun v z=>by cases z⟩
  generalize hP:([]:List (Addr×Obj))++pinsAt [a] s'.heap=P at Ip
  have hPm:(a,({cls:=.type "list",data:=.seq its.toArray k}:Obj))∈P:=by rw [<- hP];exact List.mem_append_right _ (dD (by simp) ho)
  have hPa:∀ p∈P,p.1∉fp:=fun p hp z=>by
   rw [<- hP] at hp
   obtain ⟨q,_⟩:=of_pinsAt hp
   rw [List.mem_singleton.mp q] at z
   exact hAfp z
  by_cases hlt':i<ds.length
  ·have hd:ds[i]?=some ds[i]:=by simp [hlt']
   obtain ⟨hgo,hy⟩:=y.1 i ds[i] H' (Kp.of sm) hd
   rw [List.drop_eq_getElem_cons hlt'] at hrest
   obtain ⟨ρ1,e1,hrest⟩:=bindS hrest
   obtain ⟨b,e2,hrest⟩:=bindS hrest
   obtain ⟨o,e3,hrest⟩:=bindS hrest
   obtain ⟨rest',e4,e5⟩:=mapS hrest
   obtain ⟨τ,hτ,hρ1⟩:=hst ds[i] (List.replicate T.length none) ρ ρ1 (by simp) e1
   refine thn (Tn.item (cxC X T scope C fp s H) rfl rfl rfl hc i P s' σ' H' (fun _ _=>False) Ip (hfpok hn' hPa) st' hgo) fun r s1 ⟨u,hr,h4⟩=>?_
   subst hr
   refine thn h4 fun _ s2 ⟨x,H2',I2,r2,y2,st2,fr2⟩=>?_
   obtain ⟨s12,rx⟩:=hy x H2' y2
   have I3:=I2.pinned (fp:=fp) (hfpok fr2 hPa) (Tn.obj _ _ st2)
   refine thn (hg C s H fp _ s2 σ' H2' x u (fun σ3 H3=>Same H2' H3/\EnvR X.K H3 ρ1 σ3) I3 r2 ⟨_,_,ds[i],ρ1,(er'.mono s12).t,rx,e1,fun σ3 H3 s3 er3=>⟨s3,er3.1⟩⟩) fun _ s3 ⟨σ3,H3,I4,s23,er3⟩=>?_
   refine thn (hcnd C s H fp _ s3 σ3 H3 (fun b' H4=>b'=b/\Same H3 H4) I4 ⟨ρ1,b,er3,e2,fun H4 s4=>⟨rfl,s4⟩⟩) fun b' s4 ⟨H4,I5,hb',s34⟩=>?_
   subst hb'
   have fin:∀ {H5:Hp} {s5:Shared},L2.Inv (cxC X T scope C fp s H) (P++pinsAt fp s2.heap) σ3 H5 s5->(∀ b∈fp,H5 b=none)/\H5 a=none/\s5.heap.get? a=some {cls:=.type "list",data:=.seq its.toArray k}/\(∀ b∈fp,∀ o,s2.heap.get? b=some o->s5.heap.get? b=some o):=fun {H5 s5} I6=>by
    refine ⟨fun b hb=>?_,(I6.pin _ (List.mem_append_right _ (List.mem_append_left _ hPm))).2.1,(I6.pin _ (List.mem_append_right _ (List.mem_append_left _ hPm))).1,fun b hb o e=>(I6.pin (b,o) (List.mem_append_right _ (List.mem_append_right _ (dD hb e)))).1⟩
    obtain ⟨o,e,_⟩:=Tn.obj _ _ st2 b hb
    exact (I6.pin (b,o) (List.mem_append_right _ (List.mem_append_right _ (dD hb e)))).2.1
   have unpin:∀ {H5:Hp} {s5:Shared},L2.Inv (cxC X T scope C fp s H) (P++pinsAt fp s2.heap) σ3 H5 s5->L2.Inv (cxC X T scope C fp s H) [] σ3 H5 s5:=fun I6=>I6.pins_of fun p hp=>absurd hp (by simp)
   have erb:∀ {H5:Hp},Same H3 H5->EnvR X.K H5 (List.replicate T.length none++ρ) σ3:=fun s5=>by
    have z:=er3.mono s5
    rw [hρ1] at z
    have z2:=z.forget
    rw [hτ] at z2
    exact z2
   cases b' with
   | false =>
    cases e3
    rw [if_neg Bool.false_ne_true]
    obtain ⟨q1,q2,q3,q4⟩:=fin I5
    have sm4:Same H H4:=sm.trans (s12.trans (s23.trans s34))
    have smr:Same H' H4:=s12.trans (s23.trans s34)
    exact ⟨ds.length - (i+1),by omega,i+1,σ3,H4,vs,its,k,done,rest',rfl,hlt',unpin I5,Tn.keep _ _ _ st2 q4,q1,q2,sm4,q3,hv,hrd.mono smr,Nat.le_succ_of_le hvl,erb s34,e4,by rw [hsum,<- e5]⟩
   | true =>
    rw [if_pos rfl] at e3 ⊢
    obtain ⟨yv,e6,e7⟩:=mapS e3
    subst e7
    refine thn (he C s H fp _ s4 σ3 H4 (fun v H5=>Same H4 H5/\Rep X.K H5 yv v) I5 ⟨ρ1,yv,er3.mono s34,e6,fun v H5 s5 r5=>⟨s5,r5⟩⟩) fun xv s5 ⟨v,H5,I6,rv,s45,ry⟩=>?_
    obtain ⟨q1,q2,q3,q4⟩:=fin I6
    have hl:=hv.length
    refine call_meets F.slot_list_append ⟨_,q3,rfl⟩ F.entry_list_append (F.args_list_append_2 _ _) (PySem.list_append a its.toArray k xv (by rw [List.size_toArray];omega)) ⟨q3,?_⟩
    have q:=PySem.IsL.update q3 (fun xs=>xs.push xv)
    have sm5:Same H H5:=sm.trans (s12.trans (s23.trans (s34.trans s45)))
    have smr:Same H' H5:=s12.trans (s23.trans (s34.trans s45))
    have I7:L2.Inv (cxC X T scope C fp s H) [] σ3 H5 {s5 with heap:=s5.heap.update a (Obj.mapSeq fun xs=>xs.push xv),toks:=s5.toks} :=
     (unpin I6).turned (it:=a) (t':=s5.toks) (fun b ob hb hu=>(Heap.get?_update_other s5.heap _ (Ne.symm hb)).trans hu) q2 haC (.inr hle) (hcells a (Nat.le_refl _)) fun p hp=>absurd (show p∈([]:List (Addr×Obj)) from hp) (by simp)
    refine ⟨ds.length - (i+1),by omega,i+1,σ3,H5,vs++[v],its++[xv],(if (its.toArray.push xv).size==its.toArray.size then k else k+1),done++[yv],rest',rfl,hlt',I7,Tn.keep _ _ _ st2 fun b hb ob e=>?_,q1,q2,sm5,?_,hv.append (.cons rv .nil),(hrd.mono smr).append (Reps.one ry),by simp;omega,erb (s34.trans s45),e4,by rw [hsum,<- e5];simp⟩
    ·have hne:b≠a:=fun z=>hAfp (z ▸ hb)
     exact (Heap.get?_update_other s5.heap _ (Ne.symm hne)).trans (q4 b hb ob e)
    ·have z:its.toArray.push xv=(its++[xv]).toArray:=by simp
     rw [<- z]
     exact q
  ·have ei:i=ds.length:=by omega
   subst ei
   rw [List.drop_length] at hrest
   cases hrest
   rw [List.append_nil] at hsum
   subst hsum
   refine thn (Tn.done (cxC X T scope C fp s H) rfl rfl rfl hc ds.length P s' σ' H' (fun _ _=>False) Ip (hfpok hn' hPa) st' (y.2 _ H' (Kp.of sm) (Nat.le_refl _))) fun r s1 ⟨hr,I1⟩=>?_
   subst hr
   have ho1:=(I1.pin _ (List.mem_append_right _ hPm)).1
   have IX:L2.Inv X pins σ H' s1:=I.call' (ch:=fp) I1.os I1.base I1.hok I1.bare fun b hb=>⟨(hf b hb).2.2.2.1,(hf b hb).2.1,(hf b hb).2.2.2.2.1,(hf b hb).2.2.2.2.2⟩
   have fA:FpOk X pins H' a:=I.fpOk hle hna
   have s2:=aZ hna (.lst vs)
   refine hRR a C (upd H' a (.lst vs)) s1 vs (sm.trans s2) ax (hrd.mono s2) (track IX fA ⟨Nat.le_trans hvl hz,its,k,hv,ho1⟩) (I.fpOk hCle ?_) (let ⟨m,q,_⟩:=I1.loc;⟨m,q⟩)
   rw [ar (Ne.symm haC)]
   exact I1.free
 exact codeAny_compStart_list loop (Tn.self _ _ _ _ _ (Tn.keep _ _ _ st fun b hb o e=>old b o e) loop)
variable {elt iter tg:Expr} {ifs:List Expr} {pos p2:Pos} {itf:R->Option (List D)} {stf:D->R->Option R} {cf:R->Option Bool} {ef:R->Option D}
theorem rm (I:L2.Inv X pins σ H s) (ck:CompOk scope X.env.scope T X.N):closureFor scope X.env=pure (clOf scope.names X.env.cells []):=closure_eq fun p hp hf=>I.ok.has p.1 (ck.free p hp hf)
theorem lg (hc:X.calm=true) (hi:SI X tg iter itf) (hg:∀ C s₃ H₃ fp,SG (cxC X T scope C fp s₃ H₃) tg stf) (hcnd:∀ C s₃ H₃ fp,SIf (cxC X T scope C fp s₃ H₃) ifs cf) (he:∀ C s₃ H₃ fp,SE (cxC X T scope C fp s₃ H₃) elt ef)
  (hst:Front T.length stf) (hnd:(T++X.N).Nodup) (ck:compChk scope X.env.scope T X.N=true:=by rfl) (hs:∀ x,foldedSetIterable iter X.env x=pure x:=by intro _;rfl) :
  SE X (.ListComp elt [⟨tg,iter,ifs,0⟩] scope pos) (lcD T.length itf stf cf ef):=by
 intro pins s σ H Q I hw
 obtain ⟨ρ,d,er,e,q⟩:=hw
 obtain ⟨ds,e1,e⟩:=bindS e
 have ck':=compOk_of ck
 split at e
 ·rename_i hz
  obtain ⟨out,e2,e3⟩:=mapS e
  subst e3
  rw [eval_ListComp]
  refine wpAny_comprehension_free (use:=none) rfl hs (rm I ck') ck'.kind ck'.names ?_
  refine thn (hi pins s σ H (fun J H'=>Same H H'/\Yields X.K J ds H') I ⟨ρ,ds,er,e1,fun J H' s1 y=>⟨s1,y⟩⟩) fun v s1 h1=>thn h1 fun itv s2 h2=>?_
  obtain ⟨it,fp,tn,J,H',ei,I2,Tn,st,hf,s12,y⟩:=h2
  subst ei
  refine sQ (RR:=fun acc C=>compPost (model X.prog X.w) X.A X.xe none (EP X pins σ Q) acc C) I2 hc Tn st hf ck' hnd hst (er.mono s12) y hz e2 hg hcnd he ?_
  intro a C H3 s' vs sm ha hr I3 fC hns
  obtain ⟨m,hm⟩:=hns
  refine ⟨m,hm,fun h' hsb=>⟨.ref a,H3,?_,rfl,q _ H3 (s12.trans sm) ⟨a,vs,rfl,ha,hr⟩⟩⟩
  obtain ⟨f0,f1,f2,f3,f4,f5⟩:=fC
  exact I3.turned (it:=C) (t':=s'.toks) (fun b o hb eb=>(hsb.2 b hb).trans eb) f0 f1 f3 f4 f5
 ·cases e
end
end HW
set_option maxHeartbeats 1000000
namespace HW
open PySem PySem.Spec PyProof.Rows L2
section
variable {X:Cx}
theorem ints2 {K:PySem.W.Frag} {H:Hp} {i j:Int} {xs:List V} (r:Reps K H [.int i,.int j] xs):xs=[.int i,.int j]:=by
 obtain ⟨v,r',rfl,r1,w,r'',rfl,r2,r3⟩:=r
 cases (show v=_ from r1)
 cases (show w=_ from r2)
 cases (show r''=[] from r3)
 rfl
theorem jz (hc:X.calm=true):CaD X (.builtin "max") fMax:=(qY hc).imp fun xs H Q ⟨ds,d,r,e,q⟩=>by
 match ds,e with
 | [.int i,.int j],e =>
  cases e
  exact ⟨i,j,ints2 r,q _ H (Same.refl H) rfl⟩
mutual
theorem reads_of {pins:List (Addr×Obj)} {σ:L2.St} {H:Hp} {s:Shared} (I:L2.Inv X pins σ H s):∀ {d:D} {v:V} {u:Value},nob d=true->Rep X.K H d v->RelV v u->∃ as,Reads s.heap u (toPy d) as
 | .non,v,u,hn,h,r=>by
  cases (show v=_ from h)
  cases (show u=_ from r)
  exact ⟨_,.none⟩
 | .bl b,v,u,hn,h,r=>by
  cases (show v=_ from h)
  cases (show u=_ from r)
  exact ⟨_,.bool b⟩
 | .int i,v,u,hn,h,r=>by
  cases (show v=_ from h)
  obtain ⟨t,rfl⟩:=r
  exact ⟨_,.int i t⟩
 | .str x,v,u,hn,h,r=>by
  cases (show v=_ from h)
  obtain ⟨t,rfl⟩:=r
  exact ⟨_,.str x t⟩
 | .tup ds,v,u,hn,h,r=>by
  obtain ⟨a,xs,rfl,q,t⟩:=h
  cases (show u=_ from r)
  obtain ⟨its,rv,⟨o,e,c,n,dd⟩,_⟩:=I.tuple q
  obtain ⟨as,ra⟩:=reads_ofs I hn t rv
  exact ⟨_,.tuple e c dd (by simpa using ra)⟩
 | .lst ds,v,u,hn,h,r=>by
  obtain ⟨a,xs,rfl,q,t⟩:=h
  cases (show u=_ from r)
  obtain ⟨its,rv,⟨o,n,e,c,_,dd⟩,_⟩:=I.list (SqL.of q)
  obtain ⟨as,ra⟩:=reads_ofs I hn t rv
  exact ⟨_,.list e c dd (by simpa using ra)⟩
 | .fro ds,v,u,hn,h,r=>by
  obtain ⟨a,xs,rfl,q,t⟩:=h
  cases (show u=_ from r)
  obtain ⟨its,rv,⟨o,n,e,c,_,dd⟩,_⟩:=I.list q
  obtain ⟨as,ra⟩:=reads_ofs I hn t rv
  exact ⟨_,.list e c dd (by simpa using ra)⟩
 | .obj ..,v,u,hn,h,r=>by cases hn
theorem reads_ofs {pins:List (Addr×Obj)} {σ:L2.St} {H:Hp} {s:Shared} (I:L2.Inv X pins σ H s):∀ {ds:List D} {vs:List V} {us:List Value},nobs ds=true->Reps X.K H ds vs->Vals vs us->∃ as,ReadsAll s.heap us (toPys ds) as
 | [],vs,us,hn,h,r=>by
  cases (show vs=[] from h)
  cases r
  exact ⟨_,.nil⟩
 | d::ds,vs,us,hn,h,r=>by
  have hn':(nob d&&nobs ds)=true:=hn
  rw [Bool.and_eq_true] at hn'
  obtain ⟨v,vr,rfl,h1,h2⟩:=h
  cases r with
  | cons r1 r2 =>
   obtain ⟨as,q1⟩:=reads_of I hn'.1 h1 r1
   obtain ⟨bs,q2⟩:=reads_ofs I hn'.2 h2 r2
   exact ⟨_,.cons q1 q2⟩
end
end
def OwnO (a:Addr) (xs:List V):HO:=.ext fun h=>xs.length<=sizeLine/\∃ (its:List Value) (n:Nat),Vals xs its/\h.get? a=some {cls:=.type "list",data:=.seq its.toArray n}
section
variable {X:Cx} {pins:List (Addr×Obj)} {σ:L2.St} {H:Hp} {s:Shared} {a:Addr} {xs:List V}
theorem ql (I:L2.Inv X pins σ H s) (h:H a=some (OwnO a xs)):xs.length<=sizeLine/\∃ (its:List Value) (n:Nat),Vals xs its/\s.heap.get? a=some {cls:=.type "list",data:=.seq its.toArray n}:=(I.hok a _ h).1
theorem to_own (I:L2.Inv X pins σ H s) (h:H a=some (.lst xs)):L2.Inv X pins σ (upd H a (OwnO a xs)) s:=by
 obtain ⟨z,its,n,r,e⟩:=I.hok a _ h
 have:=I.write (t':=s.toks) (h':=s.heap) (o:=OwnO a xs) (x:=a) (e:=a) (by rw [h];trivial) (.inl rfl) (fun _ _ _ q=>q) ⟨_,e⟩ ⟨⟨z,its,n,r,e⟩,⟨_,e⟩,fun h1 h2 ⟨z,its,n,r,e⟩ k=>⟨z,its,n,r,k _ e⟩⟩
 exact this
theorem to_lst (I:L2.Inv X pins σ H s) (h:H a=some (OwnO a xs)):L2.Inv X pins σ (upd H a (.lst xs)) s:=by
 obtain ⟨z,its,n,r,e⟩:=ql I h
 have:=I.write (t':=s.toks) (h':=s.heap) (o:=.lst xs) (x:=a) (e:=a) (by rw [h];trivial) (.inl rfl) (fun _ _ _ q=>q) ⟨_,e⟩ ⟨z,its,n,r,e⟩
 exact this
def SmA (a:Addr) (H H':Hp):Prop:=∀ b u,b≠a->H b=some u->H' b=some u
theorem SmA.of {H H':Hp} (h:Same H H'):SmA a H H':=fun b u _ e=>h b u e
theorem SmA.trans {H H1 H2:Hp} (h:SmA a H H1) (h':SmA a H1 H2):SmA a H H2:=fun b u n e=>h' b u n (h b u n e)
theorem SmA.upd {o:HO}:SmA a H (upd H a o):=fun b u n e=>by rw [ar n];exact e
theorem SmA.kp {H H':Hp} (h:SmA a H H') (ho:H a=some (OwnO a xs)):Kp H H':=fun b u e n=>by
 by_cases hb:b=a
 ·subst hb
  rw [ho] at e
  cases e
  exact absurd rfl (n _)
 ·exact h b u hb e
end
section
variable (K:PySem.W.Frag)
def tOS (u:R->List D->Option (Out×List D)):TS:=fun E σ H=>∃ ρ τ a ds xs o ds',EnvT K H ρ (some (.ref a)::τ) σ/\H a=some (OwnO a xs)/\Reps K H ds xs/\u ρ ds=some (o,ds') /\
 ∀ H' xs',SmA a H H'->H' a=some (OwnO a xs')->Reps K H' ds' xs'->fin K E (some (.ref a)::τ) o H'
def tOB (u:R->List D->Option Out):TS:=fun E σ H=>∃ ρ τ a ds xs o,EnvT K H ρ (some (.ref a)::τ) σ/\H a=some (OwnO a xs)/\Reps K H ds xs/\u ρ ds=some o/\∀ H',SmA a H H'->fin K E τ o H'
end
def OS (X:Cx) (st:Stmt) (u:R->List D->Option (Out×List D)):Prop:=PS X st (tOS X.K u)
def OSS (X:Cx) (sts:List Stmt) (u:R->List D->Option (Out×List D)):Prop:=PSs X sts (tOS X.K u)
def OB (X:Cx) (sts:List Stmt) (u:R->List D->Option Out):Prop:=PSs X sts (tOB X.K u)
section
variable {X:Cx} {st:Stmt} {sts:List Stmt} {u:R->Option Out} {p q:R->List D->Option (Out×List D)} {pos:Pos}
theorem pure_of {E:Ends} {σ:L2.St} {H:Hp} {K:PySem.W.Frag} (h:tOS K (oPure u) E σ H):tDS K u E σ H:=by
 obtain ⟨ρ,τ,a,ds,xs,o,ds',er,ho,rp,e,q⟩:=h
 obtain ⟨o1,e1,e2⟩:=mapS e
 cases e2
 exact ⟨ρ,_,o,er,e1,fun H' s=>q H' xs (SmA.of s) (s _ _ ho) (rp.mono s)⟩
theorem qD (h:S1 X st u):OS X st (oPure u):=PS.imp h fun E σ H z=>pure_of z
theorem qg:OSS X [] oNext:=pss_nil.imp fun E σ H ⟨ρ,τ,a,ds,xs,o,ds',er,ho,rp,e,q⟩=>by
 cases e
 exact q H xs (SmA.of (Same.refl H)) ho rp σ er
theorem se (h1:OS X st p) (h2:OSS X sts q):OSS X (st::sts) (oSeq p q):=(fg h1 h2).imp fun E σ H ⟨ρ,τ,a,ds,xs,o,ds',er,ho,rp,e,qq⟩=>by
 obtain ⟨⟨o1,ds1⟩,e1,e⟩:=bindS e
 refine ⟨ρ,τ,a,ds,xs,o1,ds1,er,ho,rp,e1,fun H1 xs1 k1 ho1 rp1=>?_⟩
 cases o1 with
 | nx ρ2=>exact fun σ2 er2=>⟨ρ2,τ,a,ds1,xs1,o,ds',er2,ho1,rp1,e,fun H2 xs2 k2 ho2 rp2=>qq H2 xs2 (k1.trans k2) ho2 rp2⟩
 | rt d=>cases e;exact qq H1 xs1 k1 ho1 rp1
 | bk ρ2=>cases e;exact qq H1 xs1 k1 ho1 rp1
 | ct ρ2=>cases e;exact qq H1 xs1 k1 ho1 rp1
theorem mX (h:OS X st p):OSS X [st] p:=gs h
theorem uh {c:Expr} {s:R->Option Bool} {B1 B2:List Stmt} (hc:ST X c s) (ha:OSS X B1 p) (hb:OSS X B2 q):OS X (.If c B1 B2 pos) (oIf s p q):=(s_ hc ha hb).imp fun E σ H ⟨ρ,τ,a,ds,xs,o,ds',er,ho,rp,e,qq⟩=>by
 obtain ⟨x,e1,e⟩:=bindS e
 refine ⟨ρ,x,er.1,e1,fun H1 s1=>?_⟩
 cases x with
 | true=>rw [if_pos rfl] at e ⊢;exact ⟨ρ,τ,a,ds,xs,o,ds',er.mono s1,s1 _ _ ho,rp.mono s1,e,fun H2 xs2 k2=>qq H2 xs2 ((SmA.of s1).trans k2)⟩
 | false=>rw [if_neg Bool.false_ne_true] at e ⊢;exact ⟨ρ,τ,a,ds,xs,o,ds',er.mono s1,s1 _ _ ho,rp.mono s1,e,fun H2 xs2 k2=>qq H2 xs2 ((SmA.of s1).trans k2)⟩
theorem uT {tg iter:Expr} {B:List Stmt} {it:R->Option (List D)} {stf:D->R->Option R} (hp:PassesOwn (model X.prog X.w) X.A X.env X.xe) (hc:X.calm=true) (hi:SI X tg iter it) (hg:SG X tg stf) (hb:OSS X B p)
  (hs:∀ x,foldedSetIterable iter X.env x=pure x:=by intro _;rfl):OS X (.For tg iter B [] pos) (oLoop it stf p):=(oZ hp hc hi hg hb hs).imp fun E σ H ⟨ρ,τ,a,ls,xs,o,ls',er,ho,rp,e,q⟩=>by
 obtain ⟨ds,e1,e⟩:=bindS e
 refine ⟨ρ,ds,er.1,e1,fun J H1 s1 y=>?_⟩
 refine ⟨fun i m σ' H'=>m=ds.length - i/\i<=ds.length/\SmA a H1 H'/\∃ ρ' l xs',EnvT X.K H' ρ' (some (.ref a)::τ) σ'/\H' a=some (OwnO a xs')/\Reps X.K H' l xs'/\forO stf p (ds.drop i) ρ' l=some (o,ls'),
  ⟨ds.length,by simp,Nat.zero_le _,SmA.of (Same.refl _),ρ,ls,xs,er.mono s1,s1 _ _ ho,rp.mono s1,by simpa using e⟩,?_⟩
 rintro i m σ' H' ⟨rfl,hi,s2,ρ',l,xs',er',ho',rp',e'⟩
 have kp:Kp H1 H':=s2.kp (s1 _ _ ho)
 by_cases hlt:i<ds.length
 ·refine .inr ?_
  have hd:ds[i]?=some ds[i]:=by simp [hlt]
  obtain ⟨hgo,hy⟩:=y.1 i ds[i] H' kp hd
  rw [List.drop_eq_getElem_cons hlt] at e'
  obtain ⟨ρ1,e2,e'⟩:=bindS e'
  obtain ⟨⟨o1,l1⟩,e3,e'⟩:=bindS e'
  refine ⟨hgo,fun σ2 H2=>i+1<=ds.length/\SmA a H1 H2/\∃ ρ' l xs',EnvT X.K H2 ρ' (some (.ref a)::τ) σ2/\H2 a=some (OwnO a xs')/\Reps X.K H2 l xs'/\forO stf p (ds.drop (i+1)) ρ' l=some (o,ls'),
   fun σ2 H2 n2=>⟨ds.length - (i+1),by omega,rfl,n2.1,n2.2⟩,fun x H3 yx=>?_⟩
  obtain ⟨s3,rx⟩:=hy x H3 yx
  refine ⟨ρ',_,ds[i],ρ1,er'.mono s3,rx,e2,fun σ4 H4 s4 er4=>⟨ρ1,τ,a,l,xs',o1,l1,er4,s4 _ _ (s3 _ _ ho'),(rp'.mono s3).mono s4,e3,fun H5 xs5 k5 ho5 rp5=>?_⟩⟩
  have s15:SmA a H1 H5:=s2.trans ((SmA.of s3).trans ((SmA.of s4).trans k5))
  cases o1 with
  | nx ρ2=>exact fun σ6 er6=>⟨hlt,s15,ρ2,l1,xs5,er6,ho5,rp5,e'⟩
  | ct ρ2=>exact fun σ6 er6=>⟨hlt,s15,ρ2,l1,xs5,er6,ho5,rp5,e'⟩
  | bk ρ2=>cases e';exact fun σ6 er6=>q H5 xs5 ((SmA.of s1).trans s15) ho5 rp5 σ6 er6
  | rt d=>cases e';exact q H5 xs5 ((SmA.of s1).trans s15) ho5 rp5
 ·have e4:i=ds.length:=by omega
  subst e4
  rw [List.drop_length] at e'
  cases e'
  exact .inl ⟨y.2 _ H' kp (Nat.le_refl _),q H' xs' ((SmA.of s1).trans s2) ho' rp' σ' er'⟩
theorem sF {K:PySem.W.Frag} {H:Hp} {ρ:R} {v:V} {τ σ:L2.St} (er:EnvT K H ρ (some v::τ) σ):σ[ρ.length]?=some (some v):=by
 have:=er.2
 have h0:(σ.drop ρ.length)[0]?=some (some v):=by rw [this];rfl
 rw [List.getElem?_drop] at h0
 simpa using h0
theorem uA {x name:Str} {e:Expr} {px ap cp:Pos} {f:R->Option D} {id:String} {r:V->List V->Hp->VK->Prop} {g:List D->D->Option (List D)} {u:R->List D->Option (Out×List D)} (i:Nat) (slot:Slot "list" name id) (hty:typeOf (.builtin id)=pure (.type "method_descriptor")) (hm:MtM X id r)
  (hu:∀ ρ ds o ds',u ρ ds=some (o,ds')->ρ.length=i/\o=.nx ρ/\∃ d,f ρ=some d/\g ds d=some ds')
  (hr:∀ (H:Hp) (a:Addr) (xs:List V) (v:V) (ds ds':List D) (d:D) (Q:VK),H a=some (OwnO a xs)->Reps X.K H ds xs->Rep X.K H d v->g ds d=some ds'->(∀ xs',Reps X.K H ds' xs'->Q .non (upd (upd H a (.lst xs)) a (.lst xs')))->r (.ref a) [v] (upd H a (.lst xs)) Q)
  (he:SE X e f) (hN:X.N[i]?=some x:=by rfl) (hv:Vis X.env.scope x:=by first | exact Or.inl rfl | exact Or.inr (Or.inl rfl) | exact Or.inr (Or.inr rfl)) (hd:(x==("__debug__" : Str))=false:=by decide) (hcd:(x==("__classdict__" : Str))=false:=by decide)
  (hbase:attributeBase (.Name x px) name X.env (eval (.Name x px) X.env)=eval (.Name x px) X.env:=by rfl) (hst:noStar e=true:=by rfl)
  (hline:(ap.endLine==cp.line)=true:=by rfl) (hs:swapsWith (.Call (.Attribute (.Name x px) name ap) [e] [] cp) none pos.line X.env=pure false:=by rfl) :
  OS X (.Expr (.Call (.Attribute (.Name x px) name ap) [e] [] cp) pos) u:=by
 intro pins s σ H E I ⟨ρ,τ,a,ds,xs,o,ds',er,ho,rp,eu,qq⟩
 obtain ⟨hi,rfl,d,e1,e2⟩:=hu ρ ds o ds' eu
 have hσ:=sF er
 rw [hi] at hσ
 have hst1:=aH [] X.env hst
 refine wpAny_Expr_any (wpAny_Call_method_late hbase ?_ hline rfl (thn ((pv i (pos:=px) hN hv hd hcd) pins s σ H (fun v H1=>v=.ref a/\H1=H) I ⟨.ref a,hσ,rfl,rfl⟩) fun v s1 ⟨y,H1,I1,r1,ey,eH⟩=>?_)) I.quiet hs
 ·rw [hst1]
  rfl
 subst ey eH
 cases (show v=_ from r1)
 obtain ⟨z,its,n,rv,eo⟩:=ql I1 ho
 refine ⟨"list",id,PySem.F.plainAttrs_list,slot,hty,⟨_,eo,rfl⟩,fun b eb=>?_,?_⟩
 ·cases eb
  exact ⟨_,eo,rfl⟩
 have hA:=(ab he ae hst).1 cp pins s1 σ H1 (fun vs H2=>Same H1 H2/\Reps X.K H2 [d] vs) I1 ⟨ρ,[d],er.1,by show (f ρ).bind _=_;rw [e1];rfl,fun vs H2 s2 r2=>⟨s2,r2⟩⟩
 rw [hst1] at hA ⊢
 refine Calls.callWith_builtin rfl (Calls.evalArgs_plain ?_)
 refine thn hA fun us s2 ⟨vs,H2,I2,r2,s12,rd⟩=>?_
 obtain ⟨w,w',rfl,rw1,rw2⟩:=rd
 cases (show w'=[] from rw2)
 have ho2:=s12 _ _ ho
 have I3:=to_lst I2 ho2
 refine thn (hm pins s2 σ (upd H2 a (.lst xs)) (.ref a) [w] (.ref a) us (fun v H3=>∃ xs',Reps X.K H2 ds' xs'/\H3=upd (upd H2 a (.lst xs)) a (.lst xs')) I3 rfl r2 (hr H2 a xs w ds ds' d _ ho2 (rp.mono s12) rw1 e2 fun xs' rp'=>⟨xs',rp',rfl⟩)) fun v s3 ⟨v',H3,I4,_,xs',rp',e3⟩=>?_
 subst e3
 have I5:=to_own I4 ax
 generalize hH5:upd (upd (upd H2 a (.lst xs)) a (.lst xs')) a (OwnO a xs')=H5 at I5
 have k25:SmA a H2 H5:=by
  subst hH5
  exact SmA.upd.trans (SmA.upd.trans SmA.upd)
 have ho5:H5 a=some (OwnO a xs'):=by subst hH5;exact ax
 have k15:SmA a H1 H5:=(SmA.of s12).trans k25
 refine ⟨σ,H5,I5,qq H5 xs' k15 ho5 (rp'.kp (k25.kp ho2)) σ (er.kp (k15.kp ho))⟩
theorem mr {x:Str} {e:Expr} {px ap cp:Pos} {f:R->Option D} (i:Nat) (he:SE X e f) (hN:X.N[i]?=some x:=by rfl) (hv:Vis X.env.scope x:=by first | exact Or.inl rfl | exact Or.inr (Or.inl rfl) | exact Or.inr (Or.inr rfl)) (hd:(x==("__debug__" : Str))=false:=by decide) (hcd:(x==("__classdict__" : Str))=false:=by decide)
  (hbase:attributeBase (.Name x px) "append" X.env (eval (.Name x px) X.env)=eval (.Name x px) X.env:=by rfl) (hst:noStar e=true:=by rfl)
  (hline:(ap.endLine==cp.line)=true:=by rfl) (hs:swapsWith (.Call (.Attribute (.Name x px) "append" ap) [e] [] cp) none pos.line X.env=pure false:=by rfl) :
  OS X (.Expr (.Call (.Attribute (.Name x px) "append" ap) [e] [] cp) pos) (oApp i f):=by
 refine uA (g:=fun ds d=>if ds.length<sizeLine then some (ds++[d]) else none) (f:=f) i PySem.F.slot_list_append PySem.F.type_list_append lf ?_ ?_ he hN hv hd hcd hbase hst hline hs
 ·intro ρ ds o ds' h
  obtain ⟨d,e1,h⟩:=bindS h
  split at h
  ·rename_i hc
   cases h
   exact ⟨hc.1,rfl,d,e1,if_pos hc.2⟩
  ·cases h
 ·intro H a xs v ds ds' d Q ho rp rd e q
  split at e
  ·rename_i hc
   cases e
   exact ⟨a,xs,v,rfl,rfl,ax,by rw [<- rp.length];exact hc,q _ (rp.append (Reps.one rd))⟩
  ·cases e
theorem gD {w:R->List D->Option Out} (h1:OS X st p) (h2:OB X sts w):OB X (st::sts) (obSeq p w):=(fg h1 h2).imp fun E σ H ⟨ρ,τ,a,ds,xs,o,er,ho,rp,e,qq⟩=>by
 obtain ⟨⟨o1,ds1⟩,e1,e⟩:=bindS e
 refine ⟨ρ,τ,a,ds,xs,o1,ds1,er,ho,rp,e1,fun H1 xs1 k1 ho1 rp1=>?_⟩
 cases o1 with
 | nx ρ2=>exact fun σ2 er2=>⟨ρ2,τ,a,ds1,xs1,o,er2,ho1,rp1,e,fun H2 k2=>qq H2 (k1.trans k2)⟩
 | rt d=>cases e;exact qq H1 k1
 | bk ρ2=>cases e
 | ct ρ2=>cases e
theorem pW (h:SS X sts u):OB X sts (obRel u):=by
 intro pins s σ H E I ⟨ρ,τ,a,ds,xs,o,er,ho,rp,e,qq⟩
 have I2:=to_lst I ho
 have k:SmA a H (upd H a (.lst xs)):=SmA.upd
 have hσ:=sF er
 have er2:=er.kp (k.kp ho)
 refine h pins s σ _ E I2 ⟨ρ++[some (D.lst ds)],τ,o,⟨⟨?_,fun i d hd=>?_⟩,?_⟩,(show u (ρ++[some (D.lst ds)])=some o from e),fun H' s'=>qq H' (k.trans (SmA.of s'))⟩
 ·have:=(List.getElem?_eq_some_iff.mp hσ).1
  rw [List.length_append,List.length_singleton]
  exact this
 ·by_cases hi:i<ρ.length
  ·rw [List.getElem?_append_left hi] at hd
   exact er2.1.2 i d hd
  ·by_cases hi2:i=ρ.length
   ·subst hi2
    rw [List.getElem?_append_right (Nat.le_refl _),Nat.sub_self] at hd
    cases hd
    exact ⟨_,hσ,a,xs,rfl,ax,rp.kp (k.kp ho)⟩
   ·rw [List.getElem?_eq_none (by simp;omega)] at hd
    cases hd
 ·rw [List.length_append,List.length_singleton,<- List.drop_drop,er.2]
  rfl
theorem pR {x:Str} {es:List Expr} {F:R->Option (List D)} {w:R->List D->Option Out} {px p1:Pos} (i:Nat) (hN:X.N.Nodup) (hF:SA X es F) (h2:OB X sts w) (hix:X.N[i]?=some x:=by rfl) (hx:Loc X.env.scope x:=by first | exact Or.inl rfl | exact Or.inr rfl)
  (hl:Nat.ble es.length 1000=true:=by rfl) (hs:swapsWith (.List es p1) (some (.Name x px)) pos.line X.env=pure false:=by rfl) (hf:X.fn x=true\/X.env.scope.names.lookup x=some .local:=by first | exact .inl rfl | exact .inr rfl) :
  SS X (.Assign [.Name x px] (.List es p1) pos::sts) (ownD i F w):=by
 intro pins s σ H E I ⟨ρ,τ,o,er,e,qq⟩
 obtain ⟨ds,e1,e⟩:=bindS e
 split at e
 case isFalse=>cases e
 case isTrue hlen =>
 refine wpAny_execs_cons (thn ((lX (i:=i) hN hix hx (o_ hF.1) hs hf) pins s σ H {E with nx:=fun σ' H'=>∃ a vs H1,σ'=σ.set i (some (.ref a))/\H'=upd H1 a (.lst vs)/\H1 a=none/\Same H H1/\Reps X.K H1 ds vs} I ?_) fun f s1 q=>?_)
 ·refine ⟨ρ,ds,er.1,e1,fun vs H1 s1 r1=>⟨?_,fun a ha=>⟨a,vs,H1,rfl,rfl,ha,s1,r1⟩⟩⟩
  rw [<- r1.length,hF.2.1 ρ ds e1]
  exact Nat.le_of_lt (small1000 (Nat.le_of_ble_eq_true hl))
 cases f with
 | next =>
  obtain ⟨σ',H',I',a,vs,H1,rfl,rfl,ha,s1',r1⟩:=q
  have I2:=to_own I' ax
  generalize hH2:upd (upd H1 a (.lst vs)) a (OwnO a vs)=H2 at I2
  have k12:SmA a H1 H2:=by
   subst hH2
   exact SmA.upd.trans SmA.upd
  have s12:Same H1 H2:=fun b u hb=>k12 b u (fun z=>by rw [z,ha] at hb;cases hb) hb
  have ho2:H2 a=some (OwnO a vs):=by subst hH2;exact ax
  have hσi:i<σ.length:=Nat.lt_of_lt_of_le (by omega) er.1.1
  refine h2 pins s1 _ H2 E I2 ⟨ρ.take i,τ,a,ds,vs,o,⟨⟨?_,fun j d hd=>?_⟩,?_⟩,ho2,r1.mono s12,e,fun H' k=>qq H' fun b u hb=>?_⟩
  ·simp
   omega
  ·have hj:j<i:=by
    have:=(List.getElem?_eq_some_iff.mp hd).1
    simp at this
    omega
   rw [List.getElem?_take_of_lt hj] at hd
   obtain ⟨v,h1,h2⟩:=er.1.2 j d hd
   exact ⟨v,by rw [List.getElem?_set_ne (by omega)];exact h1,(h2.mono s1').mono s12⟩
  ·have hd:σ.drop (i+1)=τ:=by rw [<- hlen];exact er.2
   rw [List.length_take,Nat.min_eq_left (by omega),List.drop_eq_getElem_cons (by simpa using hσi)]
   congr 1
   ·simp
   ·rw [List.drop_set_of_lt (by omega)]
    exact hd
  ·have hb2:=s12 _ _ (s1' _ _ hb)
   exact k b u (fun z=>by
    have q:=s1' _ _ hb
    rw [z,ha] at q
    cases q) hb2
 | brk=>exact q
 | cont=>exact q
 | ret v=>exact q
end
end HW
namespace HW
open PySem PySem.Spec PyProof.Rows L2
mutual
theorem jK:∀ d:D,layD d=true->(toPy d).canLay0=true
 | .non,_=>by simp [toPy,PyData.canLay0]
 | .bl _,_=>by simp [toPy,PyData.canLay0]
 | .int _,_=>by simp [toPy,PyData.canLay0]
 | .str _,h=>by rw [layD] at h;simpa [toPy,PyData.canLay0,PyData.strOk] using h
 | .tup ds,h=>by rw [toPy,PyData.canLay0];exact jk ds h
 | .lst ds,h=>by rw [toPy,PyData.canLay0];exact jk ds h
 | .fro ds,h=>by rw [toPy,PyData.canLay0];exact jk ds h
 | .obj ..,h=>by cases h
theorem jk:∀ ds:List D,layDs ds=true->PyData.canLayAll0 (toPys ds)=true
 | [],_=>by simp [toPys,PyData.canLayAll0]
 | d::ds,h=>by
  have h':(layD d&&layDs ds)=true:=h
  rw [Bool.and_eq_true] at h'
  rw [toPys,PyData.canLayAll0,jK d h'.1,jk ds h'.2];rfl
end
mutual
theorem sT:∀ d:D,nob d=true->(toPy d).depth=depD d
 | .non,_=>by simp [toPy,PyData.depth,depD]
 | .bl _,_=>by simp [toPy,PyData.depth,depD]
 | .int _,_=>by simp [toPy,PyData.depth,depD]
 | .str _,_=>by simp [toPy,PyData.depth,depD]
 | .tup ds,h=>by rw [toPy,PyData.depth,depD,jn ds h]
 | .lst ds,h=>by rw [toPy,PyData.depth,depD,jn ds h]
 | .fro ds,h=>by rw [toPy,PyData.depth,depD,jn ds h]
 | .obj ..,h=>by cases h
theorem jn:∀ ds:List D,nobs ds=true->PyData.depthAll (toPys ds)=depDs ds
 | [],_=>by simp [toPys,PyData.depthAll,depDs]
 | d::ds,h=>by
  have h':(nob d&&nobs ds)=true:=h
  rw [Bool.and_eq_true] at h'
  rw [toPys,PyData.depthAll,depDs,sT d h'.1,jn ds h'.2]
end
mutual
theorem eqv_of:∀ x y:D,nob x=true->nob y=true->PyData.eqv (toPy x) (toPy y)=eqD x y
 | .non,y,_,h=>by cases y<;>first | rfl | cases h
 | .bl a,y,_,h=>by cases y<;>first | rfl | cases h
 | .int a,y,_,h=>by cases y<;>first | rfl | cases h
 | .str a,y,_,h=>by cases y<;>first | rfl | cases h
 | .tup xs,y,g,h=>by
  cases y with
  | tup ys=>exact eqv_ofs xs ys g h
  | obj _ _ _ _=>cases h
  | _=>rfl
 | .lst xs,y,g,h=>by
  cases y with
  | lst ys=>exact eqv_ofs xs ys g h
  | fro ys=>exact eqv_ofs xs ys g h
  | obj _ _ _ _=>cases h
  | _=>rfl
 | .fro xs,y,g,h=>by
  cases y with
  | lst ys=>exact eqv_ofs xs ys g h
  | fro ys=>exact eqv_ofs xs ys g h
  | obj _ _ _ _=>cases h
  | _=>rfl
 | .obj ..,y,g,h=>by cases g
theorem eqv_ofs:∀ xs ys:List D,nobs xs=true->nobs ys=true->PyData.eqvAll (toPys xs) (toPys ys)=eqDs xs ys
 | [],[],_,_=>rfl
 | [],_::_,_,_=>rfl
 | _::_,[],_,_=>rfl
 | x::xs,y::ys,g,h=>by
  have g':(nob x&&nobs xs)=true:=g
  have h':(nob y&&nobs ys)=true:=h
  rw [Bool.and_eq_true] at g' h'
  show (PyData.eqv (toPy x) (toPy y)&&PyData.eqvAll (toPys xs) (toPys ys))=(eqD x y&&eqDs xs ys)
  rw [eqv_of x y g'.1 h'.1,eqv_ofs xs ys g'.2 h'.2]
end
section
variable {X:Cx}
theorem deep_room {k:Nat} (hr:Room k X.A) {dx dy:D} (h:depD dx<=100) (hn:nob dx=true):X.A.units+min (toPy dx).depth (toPy dy).depth<cLine:=by
 have h1:=hr.un
 have h2:min (toPy dx).depth (toPy dy).depth<=100:=by rw [sT dx hn];omega
 omega
theorem pQ {k:Nat} (hr:Room k X.A):CmD X .Eq cEqD:=by
 intro pins s σ H x y v u Q I rx ry h
 obtain ⟨dx,dy,b,r1,r2,e,q⟩:=h
 unfold cEqD at e
 split at e
 ·rename_i hd
  cases e
  obtain ⟨as,ra⟩:=reads_of I (bS hd.2.1) r1 rx
  obtain ⟨bs,rb⟩:=reads_of I (bS hd.2.2) r2 ry
  have z:=SeqAt.rcAt_reads ra rb (jK dx hd.2.1) (jK dy hd.2.2) (deep_room (dy:=dy) hr hd.1 (bS hd.2.1))
  rw [eqv_of _ _ (bS hd.2.1) (bS hd.2.2)] at z
  exact z _ _ _ _ ⟨.bl (eqD dx dy),H,I,rfl,q⟩
 ·cases e
theorem mM {k:Nat} (hr:Room k X.A):CmD X .NotEq cNeD:=by
 intro pins s σ H x y v u Q I rx ry h
 obtain ⟨dx,dy,b,r1,r2,e,q⟩:=h
 unfold cNeD cEqD at e
 split at e
 ·rename_i hd
  cases e
  obtain ⟨as,ra⟩:=reads_of I (bS hd.2.1) r1 rx
  obtain ⟨bs,rb⟩:=reads_of I (bS hd.2.2) r2 ry
  have z:=SeqAt.rcNeAt_reads ra rb (jK dx hd.2.1) (jK dy hd.2.2) (deep_room (dy:=dy) hr hd.1 (bS hd.2.1))
  rw [eqv_of _ _ (bS hd.2.1) (bS hd.2.2)] at z
  exact PySem.EqBoolInt.of_rcne z ⟨.bl (!eqD dx dy),H,I,rfl,q⟩
 ·cases e
theorem vj {sts:List Stmt}:SS X sts (fun _=>none):=fun pins s σ H E I ⟨ρ,τ,o,er,e,q⟩=>by cases e
theorem tZ {st:Stmt}:S1 X st (fun _=>none):=fun pins s σ H E I ⟨ρ,τ,o,er,e,q⟩=>by cases e
end
end HW
namespace HW
open PySem PySem.Spec PyProof.Rows L2
section
variable {prog:Program} {w:World} {A:Around} {R':Result->Shared->Prop} {I:Addr} {fp wr:List Addr} {n:Nat} {P:Nat->Value->Prop} {St:Nat->Heap->Prop}
abbrev kwD:List (Str×Value):=[(Str.ofString "default",Value.none)]
abbrev boxD (S:Addr) (vs:Array Value) (c:Nat) (h:Heap):Prop:=h.get? S=some {cls:=.type "list",dict:=none,data:=.seq vs c,slots:=#[]}
theorem loop_name:(toString "max" ++ toString ".loop" : String) = "max.loop":=by decide
theorem mx_rest (W:Walks prog w A.in1 I fp wr n P St) (bt:Nat->Nat->Bool) (hcmp:CmpOf prog w A.in1 .Gt P bt) (S:Addr) (hSf:S∉fp):∀ (k j:Nat) (s:Shared) (vb:Value) (c:Nat),n - (j+1)=k->j+1<=n->St (j+1) s.heap->P (argBest bt j) vb->boxD S #[vb,vb] c s.heap ->
  (∀ v h' tk,P (argBest bt (n - 1)) v->(∀ b o,b∉wr->b≠S->s.heap.get? b=some o->h'.get? b=some o)->R' (.ok (.ret v)) {s with heap:=h',toks:=tk})->codeAny (model prog w) A (.builtin "max.loop" ⟨[.ref I,.none,.ref S],kwD⟩) R' s:=by
 have hSw:S∉wr:=fun z=>hSf (W.sub _ z)
 intro k
 induction k with
 | zero =>
  intro j s vb c hk hj hst hPb hS hR
  have hin:j+1=n:=by omega
  refine codeAny_builtin F.entry_max_loop ?_;rw [Around.under_plainId F.plain_max_loop _];show wpAny _ A.in1 (seqItems? (.ref S) >>= _) _ _ s
  refine wpAny_bind (wpAny_seqItems hS rfl ?_);show wpAny _ A.in1 (tryCatch (pyNext (.ref I)) _ >>= _) _ _ s
  refine wpAny_bind (wpAny_tryCatch (W.done s _ _ (hin ▸ hst) fun h1 t1 k1=>?_));have hS1:=k1 S _ hSw hS
  show wpAny _ A.in1 (updateSeq S (fun _=>#[]) >>= _) _ _ _;refine wpAny_bind (wpAny_updateSeq hS1 rfl (wpAny_bind (wpAny_letGo (wpAny_pure ?_))))
  exact hR vb _ t1 (by rw [<- hin];exact hPb) fun b o hbw hbS e=>(Heap.get?_update_other _ _ (Ne.symm hbS)).trans (k1 b o hbw e)
 | succ k ih =>
  intro j s vb c hk hj hst hPb hS hR
  have hlt:j+1<n:=by omega
  refine codeAny_builtin F.entry_max_loop ?_;rw [Around.under_plainId F.plain_max_loop _];show wpAny _ A.in1 (seqItems? (.ref S) >>= _) _ _ s
  refine wpAny_bind (wpAny_seqItems hS rfl ?_);show wpAny _ A.in1 (tryCatch (pyNext (.ref I)) _ >>= _) _ _ s
  refine wpAny_bind (wpAny_tryCatch (W.item (j+1) s _ _ hlt hst fun v h1 t1 hP st1 k1=>?_));have hS1:=k1 S _ hSw hS
  show wpAny _ A.in1 (tryCatch (holding [v,v] (richCompare .Gt v vb >>= _)) _ >>= _) _ _ _;refine wpAny_bind (wpAny_tryCatch (wpAny_holding (wpAny_bind (hcmp (j+1) (argBest bt j) v vb _ _ _ hP hPb ?_))))
  refine wpAny_bind (wpAny_holding (wpAny_truthy_bool ?_));refine wpAny_bind (wpAny_letGo (wpAny_pure ?_))
  cases hb:bt (j+1) (argBest bt j) with
  | true =>
   simp only [if_true];refine wpAny_bind (wpAny_updateSeq hS1 rfl (wpAny_bind (wpAny_letGo ?_)));rw [loop_name]
   refine wpAny_pure ⟨plainId_quiet F.plain_max_loop _,ih (j+1) _ v _ (by omega) hlt (W.frame _ _ _ st1 fun b hbf o e=>?_) (by simp only [argBest,hb,if_true];exact hP) (Heap.get?_update_self _ hS1 rfl) fun v' h2 t2 hP' k2=>?_⟩
   ·refine (Heap.get?_update_other _ _ fun z:S=b=>hSf ?_).trans e;rw [z];exact hbf
   ·refine hR v' h2 t2 hP' fun b o hbw hbS e=>k2 b o hbw hbS ?_;exact (Heap.get?_update_other _ _ (Ne.symm hbS)).trans (k1 b o hbw e)
  | false =>
   simp only [Bool.false_eq_true,if_false];refine wpAny_bind (wpAny_letGo ?_);rw [loop_name]
   refine wpAny_pure ⟨plainId_quiet F.plain_max_loop _,ih (j+1) _ vb c (by omega) hlt st1 (by simp only [argBest,hb,Bool.false_eq_true,if_false];exact hPb) hS1 fun v' h2 t2 hP' k2=>?_⟩
   refine hR v' h2 t2 hP' fun b o hbw hbS e=>k2 b o hbw hbS ?_;exact k1 b o hbw e
theorem mx_first (W:Walks prog w A.in1 I fp wr n P St) (bt:Nat->Nat->Bool) (hcmp:CmpOf prog w A.in1 .Gt P bt) (S:Addr) (hSf:S∉fp) {s:Shared} {c:Nat} (hst:St 0 s.heap) (hS:boxD S #[] c s.heap)
  (h0:n=0->∀ h' tk,(∀ b o,b∉wr->b≠S->s.heap.get? b=some o->h'.get? b=some o)->R' (.ok (.ret .none)) {s with heap:=h',toks:=tk})
  (hR:0<n->∀ v h' tk,P (argBest bt (n - 1)) v->(∀ b o,b∉wr->b≠S->s.heap.get? b=some o->h'.get? b=some o)->R' (.ok (.ret v)) {s with heap:=h',toks:=tk}):codeAny (model prog w) A (.builtin "max.loop" ⟨[.ref I,.none,.ref S],kwD⟩) R' s:=by
 have hSw:S∉wr:=fun z=>hSf (W.sub _ z)
 refine codeAny_builtin F.entry_max_loop ?_;rw [Around.under_plainId F.plain_max_loop _];show wpAny _ A.in1 (seqItems? (.ref S) >>= _) _ _ s
 refine wpAny_bind (wpAny_seqItems hS rfl ?_);show wpAny _ A.in1 (tryCatch (pyNext (.ref I)) _ >>= _) _ _ s
 by_cases hn:0<n
 ·refine wpAny_bind (wpAny_tryCatch (W.item 0 s _ _ hn hst fun v h1 t1 hP st1 k1=>?_));have hS1:=k1 S _ hSw hS
  show wpAny _ A.in1 (updateSeq S (fun _=>#[v,v]) >>= _) _ _ _;refine wpAny_bind (wpAny_updateSeq hS1 rfl ?_);rw [loop_name]
  refine wpAny_pure ⟨plainId_quiet F.plain_max_loop _,mx_rest W bt hcmp S hSf _ 0 _ v _ rfl hn (W.frame _ _ _ st1 fun b hbf o e=>?_) hP (Heap.get?_update_self _ hS1 rfl) fun v' h2 t2 hP' k2=>?_⟩
  ·refine (Heap.get?_update_other _ _ fun z:S=b=>hSf ?_).trans e;rw [z];exact hbf
  ·refine hR hn v' h2 t2 hP' fun b o hbw hbS e=>k2 b o hbw hbS ?_;exact (Heap.get?_update_other _ _ (Ne.symm hbS)).trans (k1 b o hbw e)
 ·have hz:n=0:=by omega
  refine wpAny_bind (wpAny_tryCatch (W.done s _ _ (hz ▸ hst) fun h1 t1 k1=>?_))
  refine wpAny_bind (wpAny_rule (wpAny_pure ?_))
  exact h0 hz h1 t1 fun b o hbw hbS e=>k1 b o hbw e
end
section
variable {prog:Program} {w:World} {A:Around} {E:Value->Shared->Prop} {s:Shared}
theorem maxD_args (a:Value):argsOk "max" ⟨[a],kwD⟩:=by unfold argsOk;kernel_rfl
theorem ie {l:Addr} {its:List Value} {val:Nat->Int} {Q:Value->Shared->Prop} (hh:A.handled=none) (hl:s.heap.IsList l its.toArray) (hv:∀ (i:Nat) v,its.toArray[i]?=some v->∃ t,v=.int (val i) t)
  (h0:its=[]->∀ h' tk,(∀ b o,s.heap.get? b=some o->h'.get? b=some o)->Q .none {s with heap:=h',toks:=tk})
  (h1:its ≠ []->∀ v h' tk,its.toArray[argBest (fun i j=>decide (val i > val j)) (its.length - 1)]?=some v->(∀ b o,s.heap.get? b=some o->h'.get? b=some o)->Q v {s with heap:=h',toks:=tk}) :
  wpAny (model prog w) A (call (.builtin "max") [.ref l] kwD) Q E s:=by
 refine wpAny_call (codeAny_call_builtin F.plain_max F.entry_max ?_)
 simp only [checkBuiltinCall,F.kind_max]
 have main:wpAny (model prog w) A.in1 (Builtin.«max» ⟨[.ref l],kwD⟩) (fun fin s'=>match fin with
   | .done f=>(match (Except.ok f:Result) with
    | .ok (.ret v)=>Q v s'
    | .ok _=>False
    | .error e=>E e s')
   | .again c'=>c'.quiet=true/\codeAny (model prog w) A c' (fun r s'=>match r with
    | .ok (.ret v)=>Q v s'
    | .ok _=>False
    | .error e=>E e s') s') E s:=by
  show wpAny _ A.in1 (Builtin.Builtins.bindParams "max" ["key","default"] 0 ⟨[],kwD⟩ >>= _) _ _ s
  refine wpAny_bind (wpAny_of_eq (show Builtin.Builtins.bindParams "max" ["key","default"] 0 ⟨[],kwD⟩=pure [none,some .none] from rfl) ?_)
  refine wpAny_bind (wpAny_pure (wpAny_bind (wpAny_pyIter_list hl ?_)))
  refine wpAny_bind (wpAny_newObj_type ?_)
  rw [loop_name]
  have hlt:l<s.heap.objs.size:=by
   obtain ⟨o,e,_⟩:=hl
   exact Heap.lt_size e
  generalize hI:s.heap.objs.size=J at hlt
  generalize h1e:s.heap.push {cls:=Value.type "list_iterator",data:=Data.fields #[Value.ref l,Value.int 0 0]}=H1
  have hJ:H1.objs.size=J+1:=by rw [<- h1e,Heap.size_push,hI]
  have k1:∀ b o,s.heap.get? b=some o->H1.get? b=some o:=fun b o e=>by rw [<- h1e];exact Heap.get?_push_of_some _ e
  have st1:H1.IsListIter J l 0/\H1.IsList l its.toArray:=⟨by rw [<- h1e,<- hI];exact ⟨_,Heap.get?_push_size _ rfl,rfl,rfl⟩,hl.at fun o e=>k1 _ _ e⟩
  have hne:l≠J:=Nat.ne_of_lt hlt
  have hSf:H1.objs.size ∉ [J,l]:=by
   rw [hJ]
   intro z
   rcases List.mem_cons.mp z with z | z
   ·exact absurd z (Nat.ne_of_gt (Nat.lt_succ_self J))
   ·rw [<- List.mem_singleton.mp z] at hlt
    exact absurd hlt (Nat.not_lt.mpr (Nat.le_succ J))
  have W:=Walks.list (prog:=prog) (w:=w) (A:=A.in1) hh J l hne its.toArray
  have old:∀ {h':Heap},(∀ b o,b ∉ [J]->b≠H1.objs.size->(H1.push {cls:=Value.type "list",data:=Data.seq ([]:List Value).toArray}).get? b=some o->h'.get? b=some o)->∀ b o,s.heap.get? b=some o->h'.get? b=some o:=fun kk b o e=>by
   have hb:b<J:=by rw [<- hI];exact Heap.lt_size e
   refine kk b o (fun z=>absurd (List.mem_singleton.mp z) (Nat.ne_of_lt hb)) ?_ (Heap.get?_push_of_some _ (k1 b o e))
   rw [hJ]
   exact Nat.ne_of_lt (Nat.lt_succ_of_lt hb)
  refine wpAny_pure ⟨plainId_quiet F.plain_max_loop _,mx_first W _ (CmpOf.ints_gt val hv) H1.objs.size hSf (W.frame _ _ _ st1 fun b _ o e=>Heap.get?_push_of_some _ e) (Heap.get?_push_size _ rfl) (fun hz h' tk kk=>?_) fun hn v h' tk hP kk=>?_⟩
  ·exact h0 (by simpa using hz) h' tk (old kk)
  ·refine h1 (fun z=>by subst z;simp at hn) v h' tk ?_ (old kk)
   simpa using hP
 cases hsig:Manifest.signature? "max" with
 | none=>exact wpAny_pure main
 | some sig =>
  have ha:=maxD_args (.ref l)
  simp only [argsOk,hsig] at ha
  have h2:Bind.checkArgs "max" sig ⟨[.ref l],kwD⟩=pure ():=ha
  show wpAny _ A.in1 (Bind.checkArgs "max" sig ⟨[.ref l],kwD⟩) _ _ s
  rw [h2]
  exact wpAny_pure main
end
section
variable {X:Cx}
theorem tE {e:Expr} {f:R->Option D} {p kp p2 pos:Pos} {j:Nat} (hc:X.calm=true) (hm:X.mg "max" = none) (he:SE X e f) (hg:Gl X "max":=by rfl) (hst:noStar e=true:=by rfl) :
  SE X (.Call (.Name "max" p) [e] [⟨some "default",.Constant .none j p2,kp⟩] pos) (callD fMaxD (argC f argN)):=by
 intro pins s σ H Q I ⟨ρ,d,er,eq,q⟩
 obtain ⟨ds,e1,e2⟩:=bindS eq
 have hst1:=aH [] X.env hst
 refine wpAny_Call_Name_kw (eZ I hg hm boot_max ?_ (by decide) (by decide))
 refine callWith_kw (thn ((ab he ae hst).1 pos pins s σ H (fun vs H2=>Same H H2/\Reps X.K H2 ds vs) I ⟨ρ,ds,er,e1,fun vs H2 s2 r2=>⟨s2,r2⟩⟩) fun us s1 ⟨vs,H1,I1,r1,s01,rp⟩=>?_) (by rw [hst1];rfl) (by rw [hst1];rfl) rfl rfl
 refine kws_cons (Constant_none (kws_nil ?_))
 have hh:=I1.ok.hd hc
 match ds,e2 with
 | [.lst []],e2 =>
  cases e2
  obtain ⟨v,r',rfl,⟨a,xs,rfl,ha,rx⟩,rr⟩:=rp
  cases (show r'=[] from rr)
  cases (show xs=[] from rx)
  obtain ⟨u,rfl,ru⟩:=r1.one
  cases (show u=_ from ru)
  obtain ⟨_,its,n,rv,hl,eo⟩:=I1.lstM ha
  cases rv
  exact ie (val:=fun _=>0) hh ⟨_,eo,rfl,n,rfl⟩ (fun i v hv=>by simp at hv) (fun _ h' tk k=>⟨.non,H1,I1.kept k,rfl,q _ H1 s01 rfl⟩) fun z=>absurd rfl z
 | [.lst [.int a1]],e2 =>
  cases e2
  obtain ⟨v,r',rfl,⟨a,xs,rfl,ha,rx⟩,rr⟩:=rp
  cases (show r'=[] from rr)
  obtain ⟨x1,x2,rfl,rx1,rx2⟩:=rx
  cases (show x1=_ from rx1)
  cases (show x2=[] from rx2)
  obtain ⟨u,rfl,ru⟩:=r1.one
  cases (show u=_ from ru)
  obtain ⟨_,its,n,rv,hl,eo⟩:=I1.lstM ha
  obtain ⟨w1,rfl,t1,rfl⟩:=rv.one
  refine ie (val:=fun _=>a1) hh ⟨_,eo,rfl,n,rfl⟩ (fun i v hv=>?_) (fun z=>by cases z) fun _ v h' tk hv k=>?_
  ·have z:=(Array.getElem?_eq_some_iff.mp hv).1
   have z0:i=0:=by simpa using z
   subst z0
   exact ⟨t1,(Option.some.inj hv).symm⟩
  ·have hv':Value.int a1 t1=v:=Option.some.inj hv
   subst hv'
   exact ⟨.int a1,H1,I1.kept k,⟨t1,rfl⟩,q _ H1 s01 rfl⟩
 | [.lst [.int a1,.int a2]],e2 =>
  cases e2
  obtain ⟨v,r',rfl,⟨a,xs,rfl,ha,rx⟩,rr⟩:=rp
  cases (show r'=[] from rr)
  have hx:=ints2 rx
  subst hx
  obtain ⟨u,rfl,ru⟩:=r1.one
  cases (show u=_ from ru)
  obtain ⟨_,its,n,rv,hl,eo⟩:=I1.lstM ha
  obtain ⟨w1,w2,rfl,⟨t1,rfl⟩,⟨t2,rfl⟩⟩:=vals2 rv
  refine ie (val:=fun i=>if i=0 then a1 else a2) hh ⟨_,eo,rfl,n,rfl⟩ (fun i v hv=>?_) (fun z=>by cases z) fun _ v h' tk hv k=>?_
  ·have z:=(Array.getElem?_eq_some_iff.mp hv).1
   have z0:i=0\/i=1:=by
    have:i<2:=by simpa using z
    omega
   rcases z0 with rfl | rfl
   ·exact ⟨t1,(Option.some.inj hv).symm⟩
   ·exact ⟨t2,(Option.some.inj hv).symm⟩
  ·by_cases hgt:a2 > a1
   ·have hb:argBest (fun i j=>decide ((if i=0 then a1 else a2) > (if j=0 then a1 else a2))) ([Value.int a1 t1,Value.int a2 t2].length - 1)=1:=by simp [argBest,hgt]
    rw [hb] at hv
    have hv':Value.int a2 t2=v:=Option.some.inj hv
    subst hv'
    exact ⟨.int a2,H1,I1.kept k,⟨t2,rfl⟩,q _ H1 s01 (by show V.int a2=V.int _;rw [if_pos hgt])⟩
   ·have hb:argBest (fun i j=>decide ((if i=0 then a1 else a2) > (if j=0 then a1 else a2))) ([Value.int a1 t1,Value.int a2 t2].length - 1)=0:=by simp [argBest,hgt]
    rw [hb] at hv
    have hv':Value.int a1 t1=v:=Option.some.inj hv
    subst hv'
    exact ⟨.int a1,H1,I1.kept k,⟨t1,rfl⟩,q _ H1 s01 (by show V.int a1=V.int _;rw [if_neg hgt])⟩
end
end HW
namespace HW
open PySem PySem.Spec PyProof.Rows L2
section
open PySem.SeqAt
open AutoSeq1 (wpAny_loadPart')
open MeetsSeq MeetsSeq2 MeetsSeq3 SeqRoads2
theorem tuple_indexAt (l:Addr) (items:Array Value) (n:Nat) (dd:Option Addr) (sl:Array (Option Value)) (x:Value) (j:Nat) (hj:j<items.size) :
  Meets (Builtin.«tuple.index» ⟨[.ref l,x],[]⟩) (fun A R s=>s.heap.get? l=some {cls:=.type "tuple",dict:=dd,data:=.seq items n,slots:=sl}/\(∀ i (h:i<items.size),i<=j->EqAt A.in1 s items[i] x (decide (i=j)))/\R (.ok (.ret (.int (j:Int) s.toks))) {s with toks:=s.toks+1}) :=
 .of_wp fun prog w A R s h=>by
  obtain ⟨hp,g,d,tk,os⟩:=s
  obtain ⟨hl,he,h⟩:=h
  unfold Builtin.«tuple.index»
  simp only [Std.Legacy.Range.forIn_eq_forIn_range']
  wp_walk using wpAny_loadPart' hl,wpAny_forIn_list _ (fun rest b s'=>s'=⟨hp,g,d,tk,os⟩/\b=(none,())/\∃ k,k<=j/\rest=List.range' k (items.size - k)) _
  case turn =>
   rintro i rest b s' ⟨rfl,rfl,k,hk,e⟩
   have hs:items.size - k=(items.size - (k+1))+1:=by omega
   rw [hs,List.range'_succ] at e
   cases e
   have hlt:i<items.size:=by omega
   have hi:items[i]?=some items[i]:=by simp [hlt]
   rw [hi]
   refine wpAny_bind (he i hlt hk prog w _ _ ?_)
   by_cases hij:i=j
   ·subst hij
    rw [decide_eq_true rfl]
    wp_walk
    exact ⟨_,rfl,h⟩
   ·rw [decide_eq_false hij]
    wp_walk
    exact ⟨rfl,rfl,i+1,by omega,rfl⟩
  case fin =>
   rintro b s' ⟨rfl,rfl,k,hk,e⟩
   have hs:items.size - k=(items.size - (k+1))+1:=by omega
   rw [hs,List.range'_succ] at e
   cases e
  case h =>
   refine ⟨rfl,rfl,0,Nat.zero_le _,?_⟩
   simp
end
def ConS (K:PySem.W.Frag) (mg:Str->Option Value) (x:Str) (ws:List Str):Prop:=∃ a its n sl,mg x=some (.ref a)/\K.lookup a=some ⟨.type "tuple",none,.seq its n,sl⟩/\Vals (ws.map V.str) its.toList
section
variable {X:Cx}
def rIdx (K:PySem.W.Frag):V->List V->Hp->VK->Prop:=fun x vs H Q=>∃ (p:Addr) (its:Array Value) (n:Nat) (sl:Array (Option Value)) (ws:List Str) (z:Str) (j:Nat),x=.ref p/\vs=[.str z]/\K.lookup p=some ⟨.type "tuple",none,.seq its n,sl⟩/\Vals (ws.map V.str) its.toList/\ws.findIdx? (·==z)=some j/\Q (.int (j:Nat)) H
theorem uE:MtR X "tuple.index" (rIdx X.K):=by
 intro pins s σ H x vs v us Q I rx rv h
 obtain ⟨p,its,n,sl,ws,z,j,rfl,rfl,hk,hv,hj,q⟩:=h
 cases (show v=_ from rx)
 obtain ⟨u,rfl,t,rfl⟩:=rv.one
 have e:=I.kIn p _ hk
 obtain ⟨h1,h2,h3⟩:=List.findIdx?_eq_some_iff_getElem.mp hj
 have hlen:ws.length=its.size:=by have:=hv.length;simpa using this
 refine call_meets F.slot_tuple_index ⟨_,e,rfl⟩ F.entry_tuple_index (F.args_tuple_index_2 _ _) (tuple_indexAt p its n none sl (.str z t) j (by omega)) ⟨e,fun i hi hle=>?_,?_⟩
 ·have hw:i<ws.length:=by omega
  obtain ⟨u,hu,ru⟩:=hv.get (i:=i) (x:=.str ws[i]) (by simp [hw])
  obtain ⟨t2,rfl⟩:=ru
  have he:its[i]=Value.str ws[i] t2:=by
   have:its[i]?=some (Value.str ws[i] t2):=by simpa using hu
   rw [Array.getElem?_eq_getElem hi] at this
   exact Option.some.inj this
  rw [he]
  have hb:(ws[i]==z)=decide (i=j):=by
   by_cases hij:i=j
   ·subst hij
    rw [decide_eq_true rfl]
    exact h2
   ·rw [decide_eq_false hij]
    exact Bool.eq_false_iff.mpr (h3 i (by omega))
  rw [<- hb]
  exact SeqAt.EqAt.str_str _ _ _ _
 ·exact ⟨.int (j:Nat),H,I.tok _,⟨_,rfl⟩,q⟩
theorem uJ {x:Str} {ws:List Str} {e:Expr} {f:R->Option D} {px ap cp:Pos} (hc:ConS X.K X.mg x ws) (he:SE X e f) (hg:Gl X x:=by rfl) (hd:(x==("__debug__" : Str))=false:=by decide)
  (hbase:attributeBase (.Name x px) "index" X.env (eval (.Name x px) X.env)=eval (.Name x px) X.env:=by rfl) (hst:noStar e=true:=by rfl) (hline:(ap.endLine==cp.line)=true:=by rfl) :
  SE X (.Call (.Attribute (.Name x px) "index" ap) [e] [] cp) (op1 (dIdx ws) f):=by
 obtain ⟨a,its,n,sl,hm,hk,hv⟩:=hc
 have hs:=aH [] X.env hst
 refine (ui (T:="tuple") PySem.F.plainAttrs_tuple PySem.F.slot_tuple_index PySem.F.type_tuple_index uE (lq (v:=.ref a) hg hm rfl hd) (ab he ae hst).1 hbase (by rw [hs];rfl) hline hs rfl).imp fun σ H Q ⟨ρ,d,er,e,q⟩=>?_
 obtain ⟨y,e1,e⟩:=bindS e
 cases y with
 | str z =>
  obtain ⟨j,e2,e3⟩:=mapS e
  subst e3
  refine ⟨.inr (.inl ⟨rfl,_,hk,rfl,rfl⟩),ρ,[.str z],er,by show (f ρ).bind _=_;rw [e1];rfl,fun vs H2 s2 r2=>?_⟩
  obtain ⟨v,r',rfl,h1,h2⟩:=r2
  cases (show v=_ from h1)
  cases (show r'=[] from h2)
  exact ⟨a,its,n,sl,ws,z,j,rfl,rfl,hk,hv,e2,q _ H2 s2 rfl⟩
 | _=>cases e
end
section
variable {X:Cx}
def rUp:V->List V->Hp->VK->Prop:=fun x vs H Q=>∃ z w,x=.str z/\vs=[]/\upTab z=some w/\Q (.str w) H
theorem up_fact {z w:Str} (h:upTab z=some w):Builtin.Str.tooLong (placed z fun _ c=>Unicode.upperOf c).size=false/\(⟨placed z fun _ c=>Unicode.upperOf c⟩:Str)=w:=by
 unfold upTab at h
 split at h
 ·rename_i e;cases h;subst e;exact ⟨by decide +kernel,by decide +kernel⟩
 ·split at h
  ·rename_i e;cases h;subst e;exact ⟨by decide +kernel,by decide +kernel⟩
  ·split at h
   ·rename_i e;cases h;subst e;exact ⟨by decide +kernel,by decide +kernel⟩
   ·cases h
theorem vp:MtR X "str.upper" rUp:=by
 intro pins s σ H x vs v us Q I rx rv h
 obtain ⟨z,w,rfl,rfl,hz,q⟩:=h
 obtain ⟨t,rfl⟩:=rx
 cases rv
 obtain ⟨f1,f2⟩:=up_fact hz
 exact call_gives F.slot_str_upper (typeIs_str s z t) F.entry_str_upper (F.args_str_upper_1 _) (gives_str_upper z t f1) ⟨Nat.le_of_not_lt (of_decide_eq_false f1),.str w,H,I.tok _,⟨_,by rw [f2]⟩,q⟩
theorem vk {a:Expr} {f:R->Option D} {ap cp:Pos} (ha:SE X a f) (hbase:attributeBase a "upper" X.env (eval a X.env)=eval a X.env:=by rfl) (hline:(ap.endLine==cp.line)=true:=by rfl) :
  SE X (.Call (.Attribute a "upper" ap) [] [] cp) (op1 dUp f):=(ur (T:="str") PySem.F.plainAttrs_str PySem.F.slot_str_upper PySem.F.type_str_upper vp ha hbase hline).imp fun σ H Q ⟨ρ,d,er,e,q⟩=>by
 obtain ⟨x,e1,e⟩:=bindS e
 cases x with
 | str z =>
  obtain ⟨w,e2,e3⟩:=mapS e
  subst e3
  exact ⟨ρ,_,er,e1,fun v H1 s1 r1=>by cases (show v=_ from r1);exact ⟨rfl,z,w,rfl,rfl,e2,q _ H1 s1 rfl⟩⟩
 | _=>cases e
end
end HW
namespace HW
open PySem PySem.Spec PyProof.Rows L2
section
variable {X:Cx} {i k:Nat} {fa:Addr} {e a:Expr} {es:List Expr} {pos p:Pos} {f:R->Option D} {F:R->Option (List D)} {G:List D->Option D}
def ExS (i:Nat) (fa:Addr) (σ:L2.St):Prop:=σ[i]?=some (some (.ref fa))
def SEx (X:Cx) (i:Nat) (fa:Addr) (e:Expr) (f:R->Option D):Prop:=PE X e (fun σ H Q=>ExS i fa σ/\tD X.K f σ H Q)
def SAx (X:Cx) (i:Nat) (fa:Addr) (es:List Expr) (F:R->Option (List D)):Prop:=PA X es (fun σ H Q=>ExS i fa σ/\tDA X.K F σ H Q)/\(∀ ρ ds,F ρ=some ds->ds.length=es.length)/\es.all noStar=true
def SSx (X:Cx) (i:Nat) (fa:Addr) (st:Stmt) (g:R->Option Out):Prop:=PS X st (fun E σ H=>ExS i fa σ/\tDS X.K g E σ H)
def FnK (P:Program) (w:World) (K:PySem.W.Frag) (mg:Str->Option Value) (base:Heap) (k:Nat) (fa:Addr) (G:List D->Option D):Prop:=∃ fd ps,FnOk P w K mg base CX0 k fa fd ps (spD K G)/\PySem.W.keepIn K (.ref fa)=true/\Binds K fd ps []
theorem fnk_of {P:Program} {w:World} {K:PySem.W.Frag} {mg:Str->Option Value} {base:Heap} {x:Str} {ps:List Str} (C:Cal P w K mg base k x ps G) (h:mg x=some (.ref fa)):FnK P w K mg base k fa G:=by
 obtain ⟨f,fd,a,m,kp,bd⟩:=C.ex
 rw [h] at m
 cases m
 exact ⟨fd,ps,a,kp,bd⟩
theorem sex_of (h:SE X e f):SEx X i fa e f:=h.imp fun _ _ _ q=>q.2
theorem sax_of (h:SA X es F):SAx X i fa es F:=⟨h.1.imp fun _ _ _ q=>q.2,h.2⟩
theorem sax_cons (ha:SEx X i fa e f) (hr:SAx X i fa es F) (hs:noStar e=true:=by rfl):SAx X i fa (e::es) (argC f F):=⟨(lz ha hr.1 (aH es X.env hs)).imp fun σ H Q ⟨x,ρ,ds,er,e,q⟩=>by
 obtain ⟨d,e1,e⟩:=bindS e
 obtain ⟨y,e2,e⟩:=mapS e
 subst e
 exact ⟨x,ρ,d,er,e1,fun v H1 s1 r1=>⟨x,ρ,y,er.mono s1,e2,fun vs H2 s2 r2=>q _ H2 (s1.trans s2) (Reps.cons (r1.mono s2) r2)⟩⟩,fun ρ ds e=>by
 obtain ⟨d,e1,e⟩:=bindS e
 obtain ⟨y,e2,e⟩:=mapS e
 subst e
 simp [hr.2.1 ρ y e2],by rw [List.all_cons,hs,hr.2.2];rfl⟩
theorem sex_call {x:Str} {ps:List Str} (C:Cal X.prog X.w X.K X.mg X.base k x ps G) (hr:Room k X.A) (ha:SAx X i fa (e::es) F) (hg:Gl X x:=by rfl)
  (hdb:(x==("__debug__" : Str))=false:=by decide):SEx X i fa (.Call (.Name x p) (e::es) [] pos) (callD G F):=by
 have hst:=ha.2.2
 rw [List.all_cons,Bool.and_eq_true] at hst
 have he:=aH es X.env hst.1
 have hpl:=cc (pos:=pos) (env:=X.env) hst.2
 obtain ⟨f,fd,a,m,kp,bd⟩:=C.ex
 refine (jg a hr hg m kp bd .nil pass0 ha.1 hdb he hpl).imp fun σ H Q ⟨x,ρ,d,er,e,q⟩=>?_
 obtain ⟨ds,e1,e⟩:=bindS e
 exact ⟨x,ρ,ds,er,e1,fun vs H1 s1 r1=>⟨ds,d,by rw [List.append_nil];exact r1,e,fun v H2 s2 r2=>q v H2 (s1.trans s2) r2⟩⟩
theorem sex_tup {k} (h:SAx X i fa es F) (hl:Nat.ble es.length 1000=true:=by rfl):SEx X i fa (.Tuple es k pos) (tupD F):=(rO h.1).imp fun σ H Q ⟨x,ρ,d,er,e,q⟩=>by
 obtain ⟨ds,e1,e⟩:=mapS e
 subst e
 refine ⟨x,ρ,ds,er,e1,fun vs H1 s1 r1=>⟨?_,fun p hp=>?_⟩⟩
 ·rw [<- r1.length,h.2.1 ρ ds e1];exact Nat.le_of_lt (small1000 (Nat.le_of_ble_eq_true hl))
 ·have s2:=aZ hp (.tup vs)
  exact q _ _ (s1.trans s2) ⟨p,vs,rfl,SqT.of ax,r1.mono s2⟩
theorem sex_callL {x:Str} (hF:FnK X.prog X.w X.K X.mg X.base k fa G) (hr:Room k X.A) (ha:SA X (e::es) F) (hN:X.N[i]?=some x:=by rfl) (hv:Vis X.env.scope x:=by first | exact Or.inl rfl | exact Or.inr (Or.inl rfl) | exact Or.inr (Or.inr rfl))
  (hd:(x==("__debug__" : Str))=false:=by decide) (hcd:(x==("__classdict__" : Str))=false:=by decide):SEx X i fa (.Call (.Name x p) (e::es) [] pos) (callD G F):=by
 have hst:=ha.2.2
 rw [List.all_cons,Bool.and_eq_true] at hst
 have he:=aH es X.env hst.1
 have hpl:=cc (pos:=pos) (env:=X.env) hst.2
 obtain ⟨fd,ps,a,kp,bd⟩:=hF
 intro pins s σ H Q I h
 obtain ⟨x1,ρ,d,er,e,q⟩:=h
 obtain ⟨ds,e1,e⟩:=bindS e
 refine wpAny_Call_Name_kw (thn (pJ (pos:=p) hN hv hd hcd pins s σ H (fun v H1=>v=.ref fa/\H1=H) I ⟨.ref fa,x1,rfl,rfl⟩) fun u s1 ⟨v,H1,I1,rv,ev,eH⟩=>?_)
 subst ev eH
 cases (show u=_ from rv)
 refine PySem.W.callWith_K (h₀:=X.base) I1.ok.mod.kin kp (thn (ha.1 pos pins s1 σ H1 (fun vs H2=>Same H1 H2/\Reps X.K H2 ds vs) I1 ⟨ρ,ds,er,e1,fun vs H2 s2 r2=>⟨s2,r2⟩⟩) fun us s2 ⟨vs,H2,I2,r,s12,rp⟩=>⟨I2.kIn,?_⟩) he hpl
 exact run_fn a hr bd .nil pass0 I2 r ⟨ds,d,by rw [List.append_nil];exact rp,e,fun v H3 s3 r3=>q v H3 (s12.trans s3) r3⟩
theorem sx_ret (ha:SEx X i fa a f):SSx X i fa (.Return (some a) pos) (retD f):=(tu ha).imp fun E σ H ⟨x,ρ,τ,o,er,e,q⟩=>by
 obtain ⟨d,e1,e⟩:=mapS e
 subst e
 exact ⟨x,ρ,d,er.1,e1,fun v H1 s1 r1=>q H1 s1 v r1⟩
inductive Tab (P:Program) (w:World) (K:PySem.W.Frag) (mg:Str->Option Value) (base:Heap) (k:Nat):List (Str×(List D->Option D))->List (Str×Value)->Prop
 | nil:Tab P w K mg base k [] []
 | cons {z:Str} {G:List D->Option D} {fa:Addr} {t:List (Str×(List D->Option D))} {vs:List (Str×Value)}:FnK P w K mg base k fa G->Tab P w K mg base k t vs->Tab P w K mg base k ((z,G)::t) ((z,.ref fa)::vs)
theorem Tab.get {P:Program} {w:World} {K:PySem.W.Frag} {mg:Str->Option Value} {base:Heap} {t:List (Str×(List D->Option D))} {vs:List (Str×Value)} (h:Tab P w K mg base k t vs) {z:Str} (e:t.lookup z=some G):∃ fa,valueAt vs z=some (.ref fa)/\FnK P w K mg base k fa G:=by
 induction h with
 | nil=>cases e
 | @cons y G' fa t vs h1 h2 ih =>
  unfold valueAt
  rw [List.find?_cons]
  by_cases hz:y=z
  ·subst hz
   rw [List.lookup_cons,beq_self_eq_true] at e
   cases e
   simp
   exact h1
  ·rw [List.lookup_cons,beq_eq_false_iff_ne.mpr (fun q=>hz q.symm)] at e
   obtain ⟨fb,q1,q2⟩:=ih e
   refine ⟨fb,?_,q2⟩
   unfold valueAt at q1
   simp [hz]
   simpa using q1
def TabOk (P:Program) (w:World) (K:PySem.W.Frag) (mg:Str->Option Value) (base:Heap) (k:Nat) (T:Str) (t:List (Str×(List D->Option D))):Prop:=∃ a vs,mg T=some (.ref a)/\(∀ h:Heap,K.In h->h.DictOf (strKind P w) a vs)/\Tab P w K mg base k t vs
def entries (w:World):List (Str×Tok×Value)->List DictEntry
 | []=>[]
 | (z,t,v)::r=>{hash:=PyData.keyHash w.params z,key:=.str z t,val:=v}::entries w r
theorem oJ {P:Program} {w:World} {K:PySem.W.Frag} {a:Addr} {n:Nat} (l:List (Str×Tok×Value)) (hk:K.lookup a=some ⟨.type "dict",none,.dict (entries w l).toArray n,#[]⟩) (hn:(l.map (·.1)).Nodup) (h:Heap) (X:K.In h) :
  h.DictOf (strKind P w) a (l.map fun p=>(p.1,p.2.2)):=by
 refine ⟨_,_,_,X _ _ hk,⟨rfl,rfl,rfl⟩,rfl,?_,?_,?_⟩
 ·intro e he
  have he':e∈entries w l:=by simpa using he
  clear he hk hn
  induction l with
  | nil=>cases he'
  | cons p l ih =>
   obtain ⟨z,t,v⟩:=p
   rcases List.mem_cons.mp he' with rfl | h2
   ·exact ⟨z,strKind_is P w z t,rfl⟩
   ·exact ih h2
 ·show Pairs _ (entries w l) _
  clear hk hn
  induction l with
  | nil=>exact .nil
  | cons p l ih =>
   obtain ⟨z,t,v⟩:=p
   exact .cons (strKind_is P w z t) rfl ih
 ·rw [List.map_map]
  exact hn
theorem EnvR.hide {K:PySem.W.Frag} {H:Hp} {ρ:R} {σ:L2.St} (e:EnvR K H ρ σ) (i:Nat) (v:Option V):EnvR K H (ρ.set i none) (σ.set i v):=by
 refine ⟨by simpa using e.1,fun j c h=>?_⟩
 by_cases hj:i=j
 ·subst hj
  by_cases hi:i<ρ.length
  ·rw [List.getElem?_set_self hi] at h
   cases h
  ·rw [List.getElem?_eq_none (by simpa using hi)] at h
   cases h
 ·rw [List.getElem?_set_ne hj] at h ⊢
  exact e.2 j c h
theorem ul {T x:Str} {pt px ps:Pos} {st:Stmt} {t:List (Str×(List D->Option D))} {g:(List D->Option D)->R->Option Out} (i:Nat) (hN:X.N.Nodup) (hT:TabOk X.prog X.w X.K X.mg X.base k T t) (he:SE X e f) (hb:∀ fa G,FnK X.prog X.w X.K X.mg X.base k fa G->SSx X i fa st (g G))
  (hg:Gl X T:=by rfl) (hi:X.N[i]?=some x:=by rfl) (hx:Loc X.env.scope x:=by first | exact Or.inl rfl | exact Or.inr rfl) (hs:PlainIx e:=by intro _ _;rfl)
  (hw:swapsWith (.Subscript (.Name T pt) e ps) (some (.Name x px)) pos.line X.env=pure false:=by rfl) (hf:X.fn x=true\/X.env.scope.names.lookup x=some .local:=by first | exact .inl rfl | exact .inr rfl) (hdb:(T==("__debug__" : Str))=false:=by decide) :
  SS X [.Assign [.Name x px] (.Subscript (.Name T pt) e ps) pos,st] (fnD i t f g):=by
 obtain ⟨a,vs,hm,hd,ht⟩:=hT
 have hix:IxR X (fun x y H Q=>∃ z fa,x=.ref a/\y=.str z/\valueAt vs z=some (.ref fa)/\Q (.ref fa) H):=by
  intro value slice pins s σ H x y v u Q I rx ry h hs
  obtain ⟨z,fa,rfl,rfl,hv,q⟩:=h
  cases rx
  obtain ⟨tk,rfl⟩:=ry
  have hdd:=hd s.heap I.kIn
  exact tail_any hdd.mapOf.typeIs PySem.F.slot_dict_getitem.lookup (wpAny_getItem_of (strKind_is X.prog X.w z tk) hdd.mapOf hv ⟨.ref fa,H,I.tok _,rfl,q⟩) hs
 have hsub:=uf (pos:=ps) hix (lq (pos:=pt) (v:=.ref a) hg hm rfl hdb) he hs
 intro pins s σ H E I h
 obtain ⟨ρ,τ,o,er,ef,q⟩:=h
 obtain ⟨d,e1,ef⟩:=bindS ef
 cases d with
 | str z =>
  obtain ⟨G,e2,e3⟩:=bindS ef
  obtain ⟨fa,hv,hF⟩:=ht.get e2
  have hl:i<σ.length:=by
   rw [I.len]
   exact (List.getElem?_eq_some_iff.mp hi).1
  split at e3
  case isFalse=>cases e3
  case isTrue hlt =>
  refine fg (lX hN hi hx hsub hw hf) (gs (hb fa G hF)) pins s σ H E I ?_
  refine ⟨ρ,_,er.1,e1,fun v H1 s1 r1=>⟨z,fa,rfl,r1,hv,?_⟩⟩
  refine ⟨List.getElem?_set_self hl,ρ.set i none,τ,o,⟨(er.1.mono s1).hide i _,?_⟩,e3,fun H2 s2=>q H2 (s1.trans s2)⟩
  rw [List.length_set,List.drop_set_of_lt hlt]
  exact er.2
 | _=>cases ef
end
section
variable {X:Cx}
end
end HW
namespace HW
open PySem PySem.Spec PyProof.Rows L2
section
variable {X:Cx} {a:Expr} {f:R->Option D} {pos p2:Pos}
end
theorem uF {X:Cx}:CmD X .In cInT:=by
 intro pins s σ H x y v u Q I rx ry h
 obtain ⟨dx,dy,b,r1,r2,e,q⟩:=h
 obtain ⟨i,e1,e⟩:=bindS e
 obtain ⟨j,e2,rfl⟩:=mapS e
 exact op_in_str pins s σ H x y v u Q I rx ry ⟨i,j,sI_of e1 r1,sI_of e2 r2,q⟩
theorem ln1 {us:List Value} (h:us.length=1):∃ x0,us=[x0]:=by
 match us,h with
 | [x0],_=>exact ⟨x0,rfl⟩
theorem ln2 {us:List Value} (h:us.length=2):∃ x0 x1,us=[x0,x1]:=by
 match us,h with
 | [x0,x1],_=>exact ⟨x0,x1,rfl⟩
theorem ln3 {us:List Value} (h:us.length=3):∃ x0 x1 x2,us=[x0,x1,x2]:=by
 match us,h with
 | [x0,x1,x2],_=>exact ⟨x0,x1,x2,rfl⟩
end HW
namespace HW
open PySem PySem.Spec PyProof.Rows L2
section
variable {X:Cx}
def MtD (X:Cx) (id:String) (G:List D->Option D):Prop:=MtR X id fun x vs H Q=>∃ dx ds d,Rep X.K H dx x/\Reps X.K H ds vs/\G (dx::ds)=some d/\∀ v H',Same H H'->Rep X.K H' d v->Q v H'
theorem rX {a e:Expr} {es:List Expr} {f:R->Option D} {F:R->Option (List D)} {G:List D->Option D} {name:Str} {id:String} {ap cp:Pos} (slot:Slot "str" name id)
    (hty:typeOf (.builtin id)=pure (.type "method_descriptor")) (hm:MtD X id G) (hG:∀ x ds d,G (x::ds)=some d->∃ z,x=.str z) (ha:SE X a f) (hF:SA X (e::es) F)
    (hbase:attributeBase a name X.env (eval a X.env)=eval a X.env:=by rfl)
    (hfew:((backTo cp (starEach (e::es) X.env)).all (fun x=>!x.1)&&(backToKw cp (keywordEach [] X.env)).all (fun x=>x.1.isSome)
      && decide ((e::es).length+([]:List Keyword).length+(if ([]:List Keyword).isEmpty then 0 else 1)<30))=true:=by rfl)
    (hline:(ap.endLine==cp.line)=true:=by rfl) :
    SE X (.Call (.Attribute a name ap) (e::es) [] cp) (callD G (argC f F)):=by
  have hst:=hF.2.2
  rw [List.all_cons,Bool.and_eq_true] at hst
  refine (ui (T:="str") PySem.F.plainAttrs_str slot hty hm ha hF.1 hbase hfew hline (aH es X.env hst.1) (cc (pos:=cp) (env:=X.env) hst.2)).imp fun σ H Q ⟨ρ,d,er,e,q⟩=>?_
  obtain ⟨dd,e1,e⟩:=bindS e
  obtain ⟨x,e2,e1⟩:=bindS e1
  obtain ⟨ds,e3,e1⟩:=mapS e1
  subst e1
  obtain ⟨z,rfl⟩:=hG x ds d e
  exact ⟨ρ,_,er,e2,fun v H1 s1 r1=>⟨by cases (show v=_ from r1);exact rfl,ρ,ds,er.mono s1,e3,fun vs H2 s2 r2=>⟨.str z,ds,d,r1.mono s2,r2,e,fun u H3 s3 r3=>q u H3 (s1.trans (s2.trans s3)) r3⟩⟩⟩
theorem strs_vals:∀ {K:PySem.W.Frag} {H:Hp} {ds:List D} {vs:List V} {us:List Value} {xs:List Str},strsD ds=some xs->Reps K H ds vs->Vals vs us->∃ l:List (Str×Tok),us=strValues l/\l.map (·.1)=xs
 | _,_,[],vs,us,xs,e,r,h=>by
  cases e
  cases (show vs=[] from r)
  cases h
  exact ⟨[],rfl,rfl⟩
 | K,H,d::ds,vs,us,xs,e,r,h=>by
  obtain ⟨x,e1,e⟩:=bindS e
  obtain ⟨ys,e2,rfl⟩:=mapS e
  obtain ⟨v,vs',rfl,r1,r2⟩:=r
  have hv:=sI_of e1 r1
  subst hv
  cases h with
  | cons h1 h2 =>
   obtain ⟨t,rfl⟩:=h1
   obtain ⟨l,rfl,rfl⟩:=strs_vals e2 r2 h2
   exact ⟨(x,t)::l,rfl,rfl⟩
theorem join_post {sep:Str} {l:List (Str×Tok)} {pins:List (Addr×Obj)} {σ:L2.St} {H:Hp} {s:Shared} {Q:VK} (I:L2.Inv X pins σ H s) (hz:(Builtin.Str.glued sep (l.map (·.1))).length<=sizeLine)
  (q:Q (.str (Builtin.Str.glued sep (l.map (·.1)))) H):(joinMade sep l).post (EP X pins σ Q) s:=by
 have key:∀ t,EP X pins σ Q (.str (Builtin.Str.glued sep (l.map (·.1))) t) s:=fun t=>⟨.str _,H,I,⟨t,rfl⟩,q⟩
 match l,hz,key with
 | [],hz,key=>exact ⟨hz,.str _,H,I.tok _,⟨_,rfl⟩,q⟩
 | [p],hz,key=>exact key p.2
 | p1::p2::r,hz,key=>exact ⟨hz,.str _,H,I.tok _,⟨_,rfl⟩,q⟩
theorem tK:MtD X "str.join" fJoin:=by
 intro pins s σ H x vs v us Q I rx rv h
 obtain ⟨dx,ds,d,r1,r2,e,q⟩:=h
 match dx,ds,e with
 | .str sep,[.lst es],e =>
  obtain ⟨xs,e1,e⟩:=bindS e
  obtain ⟨w,e2,rfl⟩:=mapS e
  unfold joinS at e2
  split at e2
  ·rename_i hz
   cases e2
   cases (show x=_ from r1)
   obtain ⟨t,rfl⟩:=rx
   obtain ⟨u,r',rfl,h1,h2⟩:=r2
   cases (show r'=[] from h2)
   obtain ⟨a,ws,rfl,hq,t1⟩:=h1
   obtain ⟨u',rfl,hu⟩:=rv.one
   cases (show u'=_ from hu)
   obtain ⟨its,rr,ht,_⟩:=I.list (SqL.of hq)
   obtain ⟨l,rfl,rfl⟩:=strs_vals e1 t1 rr
   exact call_meets F.slot_str_join (typeIs_str s sep t) F.entry_str_join (F.args_str_join_2 _ _) (meets_str_join_list sep t a l (decide_eq_false (Nat.not_lt.mpr hz.1))) ⟨ht.isList,join_post I hz.2 (q _ H (Same.refl H) rfl)⟩
  ·cases e2
theorem gives_rj (x:Str) (i:Int) (c:Nat) (t u u2:Tok) (h0:0<=i) (h1:i<=1000) :
  Gives (Builtin.«str.rjust» ⟨[.str x t,.int i u,.str ⟨#[c]⟩ u2],[]⟩) (if i<=x.length then .val (.str x t) else .str (Builtin.Str.padded x (i.toNat - x.length) 0 c)):=by
 have ei:Builtin.Str.asSsize (toString "str." ++ toString "rjust") (.int i u)=pure i:=asSsize_int _ _ _ (by rw [decide_eq_false (by omega),decide_eq_false (by omega)];rfl)
 have ez:Builtin.Str.tooLong i.toNat=false:=decide_eq_false (by
  have z:1000<=sizeLine:=by decide
  omega)
 have eb:Builtin.«str.rjust» ⟨[.str x t,.int i u,.str ⟨#[c]⟩ u2],[]⟩=(Builtin.Str.asSsize (toString "str." ++ toString "rjust") (.int i u) >>= fun n =>
   if n<=(x.length:Int) then (do rule (toString "str." ++ toString "rjust" ++ toString ".long-enough");ret (.str x t))
   else if Builtin.Str.tooLong n.toNat=true then unsupported (toString "str." ++ toString "rjust" ++ toString ":memory") else retStr (Builtin.Str.padded x (n.toNat - x.length) 0 c)):=rfl
 rw [eb,ei]
 show Gives (if i<=(x.length:Int) then _ else if Builtin.Str.tooLong i.toNat=true then _ else _) _
 rw [ez]
 split
 ·exact Gives.rule (Gives.of_eq rfl)
 ·exact Gives.of_eq rfl
theorem join_str {x:D} {ds:List D} {d:D} (h:fJoin (x::ds)=some d):∃ z,x=.str z:=by
 cases x with
 | str z=>exact ⟨z,rfl⟩
 | _=>cases h
end
end HW
namespace HW
open PySem PySem.Spec PyProof.Rows L2
section
variable {prog:Program} {w:World} {A:Around} {E:Value->Shared->Prop} {s:Shared}
theorem lri_nolen:typeLookup (.type "list_reverseiterator") "__len__" = pure none:=by
 rw [typeLookup_type,builtinLookup_eq_fast];kernel_rfl -- list_reverseiterator
theorem lri_hint:typeLookup (.type "list_reverseiterator") "__length_hint__" = pure (some (.builtin "list_reverseiterator.__length_hint__")):=by
 rw [typeLookup_type,builtinLookup_eq_fast];kernel_rfl -- list_reverseiterator
abbrev RevAt (its:Array Value) (i:Nat) (v:Value):Prop:=its[its.size - 1 - i]?=some v
theorem collect_rev {Q:List Value->Shared->Prop} {j l:Addr} {its:Array Value} (hh:A.handled=none) (hne:l≠j) (hj:s.heap.IsRevIter j l ((its.size:Int) - 1)) (hl:s.heap.IsList l its) (hz:its.size<=sizeLine)
  (hQ:∀ s' acc,Moved [j] (fun a b=>b=a) s s'->ItemsOf (RevAt its) acc its.size->Q acc.toList s'):wpAny (model prog w) A (collect (.ref j)) Q E s:=by
 have W:=(Walks.listRev (prog:=prog) (w:=w) (A:=A.in1) hh j l hne its).toS
 have st0:(0<=its.size/\s.heap.IsRevIter j l ((its.size:Int) - 1 - ((0:Nat):Int))/\s.heap.IsList l its):=⟨Nat.zero_le _,by rw [show (its.size:Int) - 1 - ((0:Nat):Int)=(its.size:Int) - 1 by omega];exact hj,hl⟩
 have hjs:j<s.heap.objs.size:=let ⟨o,ho,_⟩:=hj;Heap.lt_size ho
 have hls:l<s.heap.objs.size:=let ⟨o,ho,_⟩:=hl;Heap.lt_size ho
 have hnf:s.heap.objs.size ∉ [j,l]:=fun hm=>by
  rcases List.mem_cons.mp hm with ej | hm'
  ·exact absurd hjs (by rw [ej];exact Nat.lt_irrefl _)
  ·exact absurd hls (by rw [List.mem_singleton.mp hm'];exact Nat.lt_irrefl _)
 unfold collect
 refine wpAny_bind (wpAny_runValue (codeAny_builtin PySem.F.entry_proto_collect ?_))
 rw [Around.under_plainId PySem.F.plain_proto_collect _];show wpAny _ A.in1 (newList [] >>= fun q=>again (.builtin "list.__iadd__" ⟨[q,.ref j],[]⟩)) _ _ s
 refine wpAny_bind (wpAny_newObj_type (wpAny_pure ⟨plainId_quiet PySem.F.plain_list_iadd _,codeAny_builtin PySem.F.entry_list_iadd ?_⟩));rw [Around.under_plainId PySem.F.plain_list_iadd _]
 have st1:=W.frame 0 s (s.heap.push {cls:=.type "list",data:=.seq ([]:List Value).toArray}) s.toks st0 (Nat.le_refl _) fun b _ o e=>Heap.get?_push_of_some _ e
 have new1:(s.heap.push {cls:=.type "list",data:=.seq ([]:List Value).toArray}).get? s.heap.objs.size=some {cls:=.type "list",data:=.seq ([]:List Value).toArray}:=Heap.get?_push_size _ rfl
 have ne1:Builtin.List.listSameRef (.ref s.heap.objs.size) (.ref j)=false:=by
  have:s.heap.objs.size≠j:=fun e=>hnf (by rw [e];exact List.mem_cons_self)
  simp [Builtin.List.listSameRef,this]
 have ty1:=(show _ from st1).2.1.typeIs (s:={s with heap:=s.heap.push {cls:=.type "list",data:=.seq ([]:List Value).toArray} })
 show wpAny _ A.in1 (Builtin.List.listExtendWith (.ref s.heap.objs.size) (.ref j) (.ref s.heap.objs.size)) _ _ _
 unfold Builtin.List.listExtendWith;refine wpAny_bind (wpAny_typeOf ty1 ?_)
 rw [if_neg (by rw [ne1];decide)]
 refine wpAny_bind (W.self 0 _ _ _ st1 (wpAny_bind (wpAny_holding ?_)));unfold Builtin.List.listLengthHint
 refine wpAny_bind (wpAny_specialOf ty1 lri_nolen ?_)
 show wpAny _ A.in1 (specialOf (Value.ref j) (Str.ofString "__length_hint__") >>= _) _ _ _
 refine wpAny_bind (wpAny_specialOf ty1 lri_hint ?_)
 generalize hid:("list_reverseiterator.__length_hint__" : String)=nm
 wp_delta
 rw [show splitId nm=some ("list_reverseiterator","__length_hint__") from by subst hid;decide +kernel]
 subst hid
 refine wpAny_bind (wpAny_isInstance (b:=true) ty1 (by rw [isSubtype_type];kernel_rfl) ?_)
 refine wpAny_pure ?_
 rw [if_neg (by decide)]
 refine wpAny_pure ⟨plainId_quiet PySem.F.plain_extend_loop _,codeAny_extend_loopS W hz _ hnf _ its.size 0 _ _ _ rfl (Nat.zero_le _) st1 new1 (ItemsOf.nil (RevAt its)) fun s' acc' c' hm hS' hacc=>?_⟩
 show wpAny _ A (load s.heap.objs.size >>= _) _ _ s';exact wpAny_bind (wpAny_load hS' (wpAny_pure (hQ s' acc' (Moved.drop_new (o:={cls:=.type "list",data:=.seq ([]:List Value).toArray}) (tk:=s.toks) hm (Nat.le_refl _)) hacc)))
theorem rev_items {lv:List (Str×Tok)} {acc:Array Value} (h:ItemsOf (RevAt (strValues lv).toArray) acc (strValues lv).toArray.size):acc.toList=strValues lv.reverse:=by
 have hn:(strValues lv).toArray.size=lv.length:=by simp [strValues]
 have hr:strValues lv.reverse=(strValues lv).reverse:=by simp [strValues]
 rw [hr]
 have hs:acc.size=lv.length:=h.1.trans hn
 have hl:(strValues lv).length=lv.length:=by simp [strValues]
 refine List.ext_getElem (by rw [List.length_reverse,Array.length_toList,hs,hl]) fun i h1 h2=>?_
 have h3:i<acc.size:=by simpa using h1
 have z:=h.2 i acc[i] (Array.getElem?_eq_getElem h3)
 unfold RevAt at z
 rw [hn] at z
 have hi:i<lv.length:=by omega
 have z2:(strValues lv)[lv.length - 1 - i]?=some acc[i]:=by simpa using z
 rw [List.getElem_reverse]
 have h4:lv.length - 1 - i<(strValues lv).length:=by omega
 rw [List.getElem?_eq_getElem h4] at z2
 have z3:=Option.some.inj z2
 rw [Array.getElem_toList]
 simp only [hl]
 exact z3.symm
theorem gives_tail (sep:Str) (l:List (Str×Tok)) (h:Builtin.Str.tooLong ((l.map (·.1)).toArray.foldl (·+·.length+sep.length) 0)=false):Gives (joinTail sep (strValues l)) (joinMade sep l):=by
 match l,h with
 | [],h=>exact gives_joinTail sep [] h
 | [a],h=>exact gives_joinTail sep [a] h
 | a::b::r,h=>exact gives_joinTail sep (a::b::r) h
theorem join_rev {Q:Value->Shared->Prop} {sep:Str} {t:Tok} {j l:Addr} {lv:List (Str×Tok)} (hh:A.handled=none) (hne:l≠j) (hj:s.heap.IsRevIter j l ((lv.length:Int) - 1)) (hl:s.heap.IsList l (strValues lv).toArray) (hz:lv.length<=sizeLine)
  (hg:Builtin.Str.tooLong ((lv.reverse.map (·.1)).toArray.foldl (·+·.length+sep.length) 0)=false) (hQ:∀ s',Moved [j] (fun a b=>b=a) s s'->(joinMade sep lv.reverse).post Q s') :
  wpAny (model prog w) A (call (.builtin "str.join") [.str sep t,.ref j]) Q E s:=by
 have hn:(strValues lv).toArray.size=lv.length:=by simp [strValues]
 refine wpAny_call (codeAny_call_builtin PySem.F.slot_str_join.plain PySem.F.entry_str_join (PySem.F.slot_str_join.check _ _ _ _ _ _ _ _ (typeIs_str _ _ _) (PySem.F.args_str_join_2 _ _) ?_))
 rw [join_tree_other]
 refine wpAny_bind (wpAny_typeOf hj.typeIs ?_)
 show wpAny _ A.in1 ((pyIter (.ref j)).tryCatch _ >>= fun it=>collect it >>= fun items=>joinTail sep items) _ _ s
 refine wpAny_bind (wpAny_tryCatch (wpAny_pyIter_revIter hj (wpAny_bind (collect_rev (A:=A.in1) hh hne (by rw [hn];exact hj) hl (by rw [hn];exact hz) fun s' acc hm hacc=>?_))))
 rw [rev_items hacc]
 exact gives_tail sep lv.reverse hg prog w A (wants Q E) s' (hQ s' hm)
end
section
variable {X:Cx}
theorem rN {a e:Expr} {f g:R->Option D} {ap cp pr p2:Pos} (hc:X.calm=true) (hm:X.mg "reversed" = none) (ha:SE X a f) (he:SE X e g) (hg:Gl X "reversed":=by rfl) (hst:noStar e=true:=by rfl)
    (hbase:attributeBase a "join" X.env (eval a X.env)=eval a X.env:=by rfl)
    (hfew:((backTo cp (starEach [.Call (.Name "reversed" pr) [e] [] p2] X.env)).all (fun x=>!x.1)&&(backToKw cp (keywordEach [] X.env)).all (fun x=>x.1.isSome)
      && decide ([Expr.Call (.Name "reversed" pr) [e] [] p2].length+([]:List Keyword).length+(if ([]:List Keyword).isEmpty then 0 else 1)<30))=true:=by rfl)
    (hline:(ap.endLine==cp.line)=true:=by rfl) :
    SE X (.Call (.Attribute a "join" ap) [.Call (.Name "reversed" pr) [e] [] p2] [] cp) (callD fJoinR (argC f (argC g argN))):=by
  intro pins s σ H Q I hw
  obtain ⟨ρ,d,er,e0,q⟩:=hw
  obtain ⟨dd,e1,e0⟩:=bindS e0
  obtain ⟨x,e2,e1⟩:=bindS e1
  obtain ⟨ds,e3,e1⟩:=mapS e1
  subst e1
  obtain ⟨y,e4,e3⟩:=bindS e3
  cases e3
  match x,y,e0 with
  | .str sep,.lst es,e0 =>
    obtain ⟨xs,e5,e0⟩:=bindS e0
    obtain ⟨wd,e6,rfl⟩:=mapS e0
    unfold joinS at e6
    split at e6
    · rename_i hz
      cases e6
      have hst1:=aH [] X.env hst
      refine wpAny_Call_method_late hbase hfew hline rfl (thn (ha pins s σ H (fun v H1=>Same H H1/\Rep X.K H1 (.str sep) v) I ⟨ρ,_,er,e2,fun v H1 s1 r1=>⟨s1,r1⟩⟩) fun v s1 ⟨vx,H1,I1,r1,s01,rp⟩=>?_)
      cases (show vx=_ from rp)
      obtain ⟨t,rfl⟩:=r1
      obtain ⟨h1,h2⟩:=tyV_is (T:="str") (x:=.str sep) I1 ⟨t,rfl⟩ rfl
      refine ⟨"str","str.join",PySem.F.plainAttrs_str,PySem.F.slot_str_join,PySem.F.type_str_join,h1,h2,?_⟩
      refine Calls.callWith_builtin rfl (Calls.evalArgs_plain (Calls.spliced_cons ?_))
      refine wpAny_Call_Name_kw (eZ I1 hg hm (u:=.type "reversed") (by kernel_rfl) ?_)
      refine callWith_type1 ?_ hst1 rfl
      rw [hst1]
      refine Calls.spliced_cons (thn (he pins s1 σ H1 (fun v H2=>Same H1 H2/\Rep X.K H2 (.lst es) v) I1 ⟨ρ,_,er.mono s01,e4,fun v H2 s2 r2=>⟨s2,r2⟩⟩) fun u s2 ⟨vu,H2,I2,ru,s12,rl⟩=>Calls.spliced_nil ?_)
      obtain ⟨b,vs,rfl,hq,ts⟩:=rl
      cases (show u=_ from ru)
      obtain ⟨its,rr,ht,hlen⟩:=I2.list (SqL.of hq)
      obtain ⟨lv,hu,hx⟩:=strs_vals e5 ts.reverse (np rr)
      have hi:its=strValues lv.reverse:=by
        have z:=congrArg List.reverse hu
        rw [List.reverse_reverse] at z
        rw [z];simp [strValues]
      subst hi
      subst hx
      have hlb:b<s2.heap.objs.size:=let ⟨o,ho,_⟩:=ht.isList;Heap.lt_size ho
      have hn:(strValues lv.reverse).toArray.size=lv.reverse.length:=by simp [strValues]
      have hlv:lv.reverse.length<=sizeLine:=by rw [<- hn,List.size_toArray,<- rr.length];exact hlen
      refine call_reversed_list ht.isList (Calls.spliced_nil ?_)
      refine join_rev (I1.ok.hd hc) (lv:=lv.reverse) (Nat.ne_of_lt hlb) ⟨_,Heap.get?_push_size _ rfl,rfl,by rw [hn];rfl⟩ (ht.isList.at fun o ho=>Heap.get?_push_of_some _ ho) hlv ?_ fun s' hm=>?_
      · rw [List.reverse_reverse]
        exact decide_eq_false (Nat.not_lt.mpr hz.1)
      · rw [List.reverse_reverse]
        have I3:L2.Inv X pins σ H2 s':=by
          rw [hm.eq_with]
          exact I2.kept fun c o ho=>hm.heap c o (fun hc=>absurd (Heap.lt_size ho) (by rw [List.mem_singleton.mp hc];exact Nat.lt_irrefl _)) (Heap.get?_push_of_some _ ho)
        exact join_post I3 hz.2 (q _ H2 (s01.trans s12) rfl)
    · cases e6
theorem tq {c:Expr} {body:List Stmt} {f:R->Option Bool} {pos:Pos} (hp:PassesOwn (model X.prog X.w) X.A X.env X.xe) (hc:ST X c f):S1 X (.While c body [] pos) (whl0 f):=by
 have hb:PSs X body (fun _ _ _=>False):=fun pins s σ H D I h=>h.elim
 refine (sv hp hc hb).imp fun E σ H ⟨ρ,τ,o,er,e,q⟩=>?_
 obtain ⟨b,e1,e⟩:=bindS e
 cases b with
 | true=>cases e
 | false =>
  cases e
  refine ⟨fun m σ' H'=>σ'=σ/\H'=H,⟨0,rfl,rfl⟩,?_⟩
  rintro m _ _ ⟨rfl,rfl⟩
  exact ⟨ρ,false,er.1,e1,fun H1 s1=>(if_neg (show ¬ (false=true) from Bool.false_ne_true)).mpr (q H1 s1 _ (er.mono s1))⟩
theorem vf:MtD X "str.rjust" fRj:=by
 intro pins s σ H x vs v us Q I rx rv h
 obtain ⟨dx,ds,d,r1,r2,e,q⟩:=h
 match dx,ds,e with
 | .str z,[.int i,.str g],e =>
  replace e:(if 0<=i/\i<=1000/\g.length=1 then some (D.str (rjS z i.toNat (g.cps.getD 0 0))) else none)=some d:=e
  split at e
  ·rename_i hz
   obtain ⟨h0,h1,hg⟩:=hz
   cases e
   cases (show x=_ from r1)
   obtain ⟨t,rfl⟩:=rx
   obtain ⟨u,r',rfl,k1,r2⟩:=r2
   obtain ⟨u2,r3,rfl,k2,r2⟩:=r2
   cases (show r3=[] from r2)
   cases (show u=_ from k1)
   cases (show u2=_ from k2)
   obtain ⟨w1,w2,rfl,⟨t1,rfl⟩,⟨t2,rfl⟩⟩:=rv.two
   obtain ⟨c,hc⟩:∃ c,g=⟨#[c]⟩:=by
    obtain ⟨⟨l⟩⟩:=g
    match l,hg with
    | [c],_=>exact ⟨c,rfl⟩
   subst hc
   have hi:(i.toNat:Int)=i:=by omega
   refine call_gives PySem.F.slot_str_rjust (typeIs_str s z t) PySem.F.entry_str_rjust (PySem.F.args_str_rjust_3 _ _ _) (gives_rj z i c t t1 t2 h0 h1) ?_
   have q':=q (.str (rjS z i.toNat c)) H (Same.refl H) rfl
   unfold rjS at q'
   by_cases hl:i.toNat<=z.length
   ·rw [if_pos hl] at q'
    rw [if_pos (by omega)]
    exact ⟨.str z,H,I,⟨t,rfl⟩,q'⟩
   ·rw [if_neg hl] at q'
    rw [if_neg (by omega)]
    refine ⟨?_,.str _,H,I.tok _,⟨_,rfl⟩,q'⟩
    have z1:1000<=sizeLine:=by decide
    have z2:(Builtin.Str.padded z (i.toNat - z.length) 0 c).length=i.toNat:=by
     show (Array.replicate _ _++z.cps++Array.replicate _ _).size=_
     simp
     have:z.cps.size=z.length:=rfl
     omega
    rw [z2]
    omega
  ·cases e
theorem rj_str {x:D} {ds:List D} {d:D} (h:fRj (x::ds)=some d):∃ z,x=.str z:=by
 cases x with
 | str z=>exact ⟨z,rfl⟩
 | _=>cases h
theorem tS {a e:Expr} {es:List Expr} {f:R->Option D} {F:R->Option (List D)} {ap cp:Pos} (ha:SE X a f) (hF:SA X (e::es) F)
  (hbase:attributeBase a "join" X.env (eval a X.env)=eval a X.env:=by rfl)
  (hfew:((backTo cp (starEach (e::es) X.env)).all (fun x=>!x.1)&&(backToKw cp (keywordEach [] X.env)).all (fun x=>x.1.isSome)&&decide ((e::es).length+([]:List Keyword).length+(if ([]:List Keyword).isEmpty then 0 else 1)<30))=true:=by rfl)
  (hline:(ap.endLine==cp.line)=true:=by rfl):SE X (.Call (.Attribute a "join" ap) (e::es) [] cp) (callD fJoin (argC f F)) :=
 rX PySem.F.slot_str_join PySem.F.type_str_join tK (fun _ _ _ h=>join_str h) ha hF hbase hfew hline
theorem vq {a e:Expr} {es:List Expr} {f:R->Option D} {F:R->Option (List D)} {ap cp:Pos} (ha:SE X a f) (hF:SA X (e::es) F)
  (hbase:attributeBase a "rjust" X.env (eval a X.env)=eval a X.env:=by rfl)
  (hfew:((backTo cp (starEach (e::es) X.env)).all (fun x=>!x.1)&&(backToKw cp (keywordEach [] X.env)).all (fun x=>x.1.isSome)&&decide ((e::es).length+([]:List Keyword).length+(if ([]:List Keyword).isEmpty then 0 else 1)<30))=true:=by rfl)
  (hline:(ap.endLine==cp.line)=true:=by rfl):SE X (.Call (.Attribute a "rjust" ap) (e::es) [] cp) (callD fRj (argC f F)) :=
 rX PySem.F.slot_str_rjust PySem.F.type_str_rjust vf (fun _ _ _ h=>rj_str h) ha hF hbase hfew hline
end
end HW
namespace HW
open PySem PySem.Spec PyProof.Rows L2
section
variable {X:Cx}
theorem strs_from:∀ (xs:List Str) (k:Nat),Vals (xs.map V.str) (strsFrom k xs)
 | [],_=>.nil
 | x::r,k=>.cons ⟨k,rfl⟩ (strs_from r (k+1))
theorem strs_reps {K:PySem.W.Frag} {H:Hp}:∀ xs:List Str,Reps K H (xs.map D.str) (xs.map V.str)
 | []=>rfl
 | x::r=>Reps.cons rfl (strs_reps r)
theorem new_strs {pins:List (Addr×Obj)} {σ:L2.St} {H:Hp} {s:Shared} {Q:VK} {xs:List Str} {us:List Value} {tk:Nat} (I:L2.Inv X pins σ H s) (h:Vals (xs.map V.str) us) (hz:xs.length<=sizeLine)
  (q:∀ v H',Same H H'->Rep X.K H' (.lst (xs.map .str)) v->Q v H'):EP X pins σ Q (.ref s.heap.objs.size) {s with toks:=tk,heap:=s.heap.push {cls:=.type "list",data:=.seq us.toArray} }:=by
 have s2:=aZ (I.hok.fresh (Nat.le_refl s.heap.objs.size)) (.lst (xs.map V.str))
 refine ⟨.ref s.heap.objs.size,_,I.laid (t':=tk) (o:=.lst (xs.map V.str)) (fun b ob q=>Heap.get?_push_of_some _ q) (Nat.le_refl _) ?_,rfl,q _ _ s2 ⟨_,_,rfl,ax,strs_reps xs⟩⟩
 exact ⟨by rw [List.length_map];exact hz,us,0,h,Heap.get?_push_size _ rfl⟩
theorem sB:MtD X "str.split" fSplit:=by
 intro pins s σ H x vs v us Q I rx rv h
 obtain ⟨dx,ds,d,r1,r2,e,q⟩:=h
 match dx,ds,e with
 | .str z,[.str y],e =>
  simp only [fSplit] at e
  split at e
  ·rename_i hz
   obtain ⟨hy,hx,hn⟩:=hz
   cases e
   cases (show x=_ from r1)
   obtain ⟨t,rfl⟩:=rx
   obtain ⟨u,r',rfl,k1,r2⟩:=r2
   cases (show r'=[] from r2)
   cases (show u=_ from k1)
   obtain ⟨u',rfl,t2,rfl⟩:=rv.one
   have hy0:(y.length==0)=false:=by rw [hy];rfl
   have one:Vals ([z].map V.str) [Value.str z t]:=.cons ⟨t,rfl⟩ .nil
   unfold splitS at hn q
   by_cases c1:(decide (z.length<y.length)||decide (Builtin.Str.strKind z<Builtin.Str.strKind y))=true
   ·rw [if_pos (.inl c1)] at q
    exact call_meets PySem.F.slot_str_split (typeIs_str s z t) PySem.F.entry_str_split (PySem.F.args_str_split_2 _ _) (meets_str_split_cannot_occur z y t t2 c1) (new_strs (xs:=[z]) (tk:=s.toks) I one (show 1<=sizeLine by decide) q)
   ·have c1':=Bool.eq_false_iff.mpr c1
    by_cases c2:(Builtin.Str.occurrences z y 0 z.length (z.length+1)).isEmpty=true
    ·rw [if_pos (.inr c2)] at q
     exact call_meets PySem.F.slot_str_split (typeIs_str s z t) PySem.F.entry_str_split (PySem.F.args_str_split_2 _ _) (meets_str_split_not_found z y t t2 c1' hy0 c2) (new_strs (xs:=[z]) (tk:=s.toks) I one (show 1<=sizeLine by decide) q)
    ·have c3:¬ ((decide (z.length<y.length)||decide (Builtin.Str.strKind z<Builtin.Str.strKind y))=true\/(Builtin.Str.occurrences z y 0 z.length (z.length+1)).isEmpty=true):=fun h=>h.elim c1 c2
     rw [if_neg c3] at q hn
     exact call_meets PySem.F.slot_str_split (typeIs_str s z t) PySem.F.entry_str_split (PySem.F.args_str_split_2 _ _) (meets_str_split_sep z y t t2 c1' hy0 (Bool.eq_false_iff.mpr c2) hx hn) (new_strs I (strs_from _ _) hn q)
  ·cases e
theorem split_str {x:D} {ds:List D} {d:D} (h:fSplit (x::ds)=some d):∃ z,x=.str z:=by
 cases x with
 | str z=>exact ⟨z,rfl⟩
 | _=>cases h
theorem sV {a e:Expr} {es:List Expr} {f:R->Option D} {F:R->Option (List D)} {ap cp:Pos} (ha:SE X a f) (hF:SA X (e::es) F)
  (hbase:attributeBase a "split" X.env (eval a X.env)=eval a X.env:=by rfl)
  (hfew:((backTo cp (starEach (e::es) X.env)).all (fun x=>!x.1)&&(backToKw cp (keywordEach [] X.env)).all (fun x=>x.1.isSome)&&decide ((e::es).length+([]:List Keyword).length+(if ([]:List Keyword).isEmpty then 0 else 1)<30))=true:=by rfl)
  (hline:(ap.endLine==cp.line)=true:=by rfl):SE X (.Call (.Attribute a "split" ap) (e::es) [] cp) (callD fSplit (argC f F)) :=
 rX PySem.F.slot_str_split PySem.F.type_str_split sB (fun _ _ _ h=>split_str h) ha hF hbase hfew hline
def rSlS:V->Option Int->Option Int->Hp->VK->Prop:=fun x lo hi H Q=>∃ z,x=.str z/\z.length<=sizeLine/\Q (.str (Txt.slice z lo hi)) H
theorem sl_txt:SlR X rSlS:=by
 intro pins s σ H x v vl vu lo hi sl Q I rx hs pl pu h
 obtain ⟨z,rfl,hz,q⟩:=h
 obtain ⟨t,rfl⟩:=rx
 refine ⟨"str",_,PySem.F.slot_str_getitem.lookup,typeIs_str _ _ _,?_⟩
 have key:∀ (l u:Option (Int×Tok)),s.heap.IsSlice sl l u none->l.map (·.1)=lo->u.map (·.1)=hi->wpAny (model X.prog X.w) X.A (getItem (.str z t) (.ref sl)) (EP X pins σ Q) X.xe s:=fun l u hs h1 h2=>by
  subst h1 h2
  exact wpAny_getItem_str_slice (st:=none) hs rfl (post_val_or_str ⟨Nat.le_trans (Txt.slice_le z _ _) hz,fun t' k=>⟨.str _,H,I.kept fun _ _ e=>e,⟨_,rfl⟩,q⟩⟩)
 cases pl with
 | none=>cases pu with
  | none=>exact key none none hs rfl rfl
  | int j tj=>exact key none (some (j,tj)) hs rfl rfl
 | int i ti=>cases pu with
  | none=>exact key (some (i,ti)) none hs rfl rfl
  | int j tj=>exact key (some (i,ti)) (some (j,tj)) hs rfl rfl
theorem fF {a:Expr} {lo hi:Option Expr} {f:R->Option D} {l h:R->Option (Option Int)} {p2 pos:Pos} (ha:SE X a f) (hl:SO X lo l) (hh:SO X hi h):SE X (.Subscript a (.Slice lo hi none p2) pos) (slT f l h):=(oC sl_txt ha hl hh).imp fun σ H Q ⟨ρ,d,er,e,q⟩=>by
 obtain ⟨x,e1,e⟩:=bindS e
 obtain ⟨o1,e2,e⟩:=bindS e
 obtain ⟨o2,e3,e⟩:=bindS e
 refine ⟨ρ,x,er,e1,fun v H1 s1 r1=>⟨ρ,o1,er.mono s1,e2,fun H2 s2=>⟨ρ,o2,er.mono (s1.trans s2),e3,fun H3 s3=>?_⟩⟩⟩
 cases x with
 | str z =>
  simp only [dSlS] at e
  split at e
  ·rename_i hz
   cases e
   cases (show v=_ from r1)
   exact ⟨z,rfl,hz,q _ H3 (s1.trans (s2.trans s3)) rfl⟩
  ·cases e
 | _=>cases e
theorem qB:CaD X (.type "int") fIntS:=by
 intro pins s σ H xs us Q I rv h
 obtain ⟨ds,d,r,e,q⟩:=h
 match ds,e with
 | [.str x],e =>
  simp only [fIntS] at e
  split at e
  ·rename_i hz
   obtain ⟨n,e1,rfl⟩:=mapS e
   obtain ⟨v,r',rfl,r1,r2⟩:=r
   cases (show v=_ from r1)
   cases (show r'=[] from r2)
   obtain ⟨u,rfl,t,rfl⟩:=rv.one
   exact PySem.W.KIN.call_text e1 hz ⟨.int n,H,I.tok _,⟨_,rfl⟩,q _ H (Same.refl H) rfl⟩
  ·cases e
end
end HW
namespace HW
open PySem PySem.Spec PyProof.Rows L2
def It3 (lo c:Int) (n:Nat):It:=⟨fun i _=>i<n,fun i H x H'=>H'=H/\x=.int (lo+i*c),fun i _=>n<=i⟩
theorem turn_rng3 {P:Program} {w:World} {K:PySem.W.Frag} {tg:Expr} (it:Addr) (lo c:Int) (n:Nat):Turn P w K tg (It3 lo c n) [it] it (fun i h=>IsRangeIter h it (lo+(i:Nat)*c) ((n:Int) - (i:Nat)) c) where
 mem:=List.mem_singleton.mpr rfl
 obj:=fun i h st b hb=>by
  cases (List.mem_singleton.mp hb)
  refine ⟨_,st,fun v z=>?_⟩
  cases (show Data.fields _=Data.cell v from z)
 keep:=fun i h h' st k=>k it (List.mem_singleton.mpr rfl) _ st
 item:=by
  intro X hP hw hK hc i pins s σ H E I hf st hg
  subst hP hw hK
  obtain ⟨f0,f1,f2,f3,f4,f5⟩:=hf it (List.mem_singleton.mpr rfl)
  refine (Walks.range (prog:=X.prog) (w:=X.w) (I.ok.hd hc) it lo c n).item i s _ _ hg st fun v h' tk hv st' kk=>?_
  obtain ⟨t,rfl⟩:=hv
  have I1:L2.Inv X pins σ H {s with heap:=h',toks:=tk}:=I.turned (fun b o hb e=>kk b o (by simpa using hb) e) f0 f1 f3 f4 f5
  exact ⟨_,rfl,go_of (s:={s with heap:=h',toks:=tk}) (n:="range_iterator") st' rfl rfl (by decide) ⟨.int (lo+i*c),H,I1,⟨t,rfl⟩,⟨rfl,rfl⟩,st',fun b hb=>(hf b hb).1⟩⟩
 done:=by
  intro X hP hw hK hc i pins s σ H E I hf st hg
  subst hP hw hK
  obtain ⟨f0,f1,f2,f3,f4,f5⟩:=hf it (List.mem_singleton.mpr rfl)
  exact wpAny_pyNext_range_end (I.ok.hd hc) st (by have:n<=i:=hg;omega) fun h' eb=>⟨rfl,I.turned (t':=s.toks) (fun b o hb e=>eb b o hb e) f0 f1 f3 f4 f5⟩
 self:=fun _ _ _ _ _ st h=>wpAny_pyIter_rangeiter st h
theorem small3 {a b c:Int} (ha : -(2 ^ 60)<=a) (ha':a<2 ^ 60) (hb : -(2 ^ 60)<=b) (hb':b<2 ^ 60) (hc:0<c) (hc':c<1073741824):Builtin.Range.small a b c=true:=by
 have hd:0<=(b - a - 1) / c\/b - a - 1<0:=by
  by_cases h:b - a - 1<0
  ·exact .inr h
  ·exact .inl (Int.ediv_nonneg (by omega) (by omega))
 have hd2:a<b->(b - a - 1) / c<=b - a - 1:=fun h=>Int.ediv_le_self _ (by omega)
 unfold Builtin.Range.small Builtin.Range.rangeSize
 simp only [Builtin.Range.rangeFitsLong,Bool.and_eq_true,Bool.or_eq_true,decide_eq_true_eq,beq_iff_eq,gt_iff_lt,hc,if_true]
 split<;>omega
section
variable {X:Cx}
theorem rng3_size {a b c:Int} (hc:0<c):((rng3N a b c:Nat):Int)=Builtin.Range.rangeSize a b c:=by
 unfold rng3N Builtin.Range.rangeSize
 rw [if_pos (show c > 0 from hc)]
 split
 ·rename_i h
  have:0<=(b - a - 1) / c:=Int.ediv_nonneg (by omega) (by omega)
  omega
 ·rfl
def iRng3 (ta:TA):TI:=fun σ H R=>ta σ H fun vs H1=>∃ i j c:Int,vs=[.int i,.int j,.int c]/\(-(2 ^ 60)<=i/\i<2 ^ 60 /\ -(2 ^ 60)<=j/\j<2 ^ 60/\0<c/\c<1073741824)/\R (It3 i c (rng3N i j c)) H1
theorem rD {tg a b c:Expr} {ta:TA} {p pos:Pos} (hg:Gl X "range") (hm:X.mg "range" = none) (ha:PA X [a,b,c] ta) (hs:starEach [a,b,c] X.env=[(false,eval a X.env),(false,eval b X.env),(false,eval c X.env)]) (hs2:starEach [b,c] X.env=[(false,eval b X.env),(false,eval c X.env)]) :
  PI X tg (.Call (.Name "range" p) [a,b,c] [] pos) (iRng3 ta):=by
 intro pins s σ H R I h
 refine Call_ (eZ I hg hm boot_range (PyProof.Rows.callWith_type1 (thn (ha pos pins s σ H _ I h) fun us s1 ⟨vs,H1,I1,r1,q1⟩=>?_) (by rw [hs,hs2]) (by rw [hs2];rfl)))
 obtain ⟨i,j,k,e,⟨q1,q2,q3,q4,q5,q6⟩,q⟩:=q1
 subst e
 cases r1 with
 | cons r rr =>
  cases rr with
  | cons r' rr =>
   cases rr with
   | cons r'' rr =>
    cases rr
    obtain ⟨t,rfl⟩:=r
    obtain ⟨t',rfl⟩:=r'
    obtain ⟨t'',rfl⟩:=r''
    refine call_range_3 (by omega) ?_ (.inl (PyProof.noPylong_small (by omega)))
    refine wpAny_pyIter_range (IsRange.new ..) (small3 q1 q2 q3 q4 q5 q6) ?_
    generalize hob:({cls:=.type "range",data:=.fields #[.int i t,.int j t',.int k t'']}:Obj)=ob
    have I2:L2.Inv X pins σ H1 {s1 with heap:=s1.heap.push ob,toks:=s1.toks}:=I1.kept fun b o e=>Heap.get?_push_of_some _ e
    refine ⟨(s1.heap.push ob).objs.size,[(s1.heap.push ob).objs.size],_,_,H1,rfl,I2.kept (t':=s1.toks) fun b o e=>Heap.get?_push_of_some _ e,turn_rng3 _ i k (rng3N i j k),?_,fun b hb=>?_,q⟩
    ·have e1:i+((0:Nat):Int)*k=i:=by simp
     have e2:((rng3N i j k:Nat):Int) - ((0:Nat):Int)=Builtin.Range.rangeSize i j k:=by rw [<- rng3_size q5];simp
     show IsRangeIter _ _ (i+((0:Nat):Int)*k) (((rng3N i j k:Nat):Int) - ((0:Nat):Int)) k
     rw [e1,e2]
     exact Heap.get?_push_size _ rfl
    ·cases (List.mem_singleton.mp hb)
     exact I2.fpOk (Nat.le_refl _) (I2.hok.fresh (Nat.le_refl _))
theorem ni {K:PySem.W.Frag} {H:Hp} {a b c:Int}:Yields K (It3 a c (rng3N a b c)) (rng3D a b c) H:=by
 have hl:(rng3D a b c).length=rng3N a b c:=by simp [rng3D]
 refine ⟨fun i d H2 s2 e=>?_,fun i H2 s2 h=>by rw [hl] at h;exact h⟩
 have hi:i<rng3N a b c:=by rw [<- hl];exact (List.getElem?_eq_some_iff.mp e).1
 refine ⟨hi,fun x H3 ⟨e3,y⟩=>?_⟩
 subst e3
 refine ⟨Same.refl _,?_⟩
 have hd:d=.int (a+(i:Int)*c):=by
  unfold rng3D at e
  rw [List.getElem?_map,List.getElem?_range hi] at e
  exact (Option.some.inj e).symm
 subst hd
 exact y
theorem tG {tg a b c:Expr} {f g h:R->Option D} {p pos:Pos} (hm:X.mg "range" = none) (ha:SE X a f) (hb:SE X b g) (hc:SE X c h) (hg:Gl X "range":=by rfl) (hs:noStar a=true:=by rfl) (hs2:noStar b=true:=by rfl) (hs3:noStar c=true:=by rfl) :
  SI X tg (.Call (.Name "range" p) [a,b,c] [] pos) (inRng3 f g h):=by
 have z3:=aH [] X.env hs3
 have z2:=aH [c] X.env hs2
 have z1:=aH [b,c] X.env hs
 refine (rD hg hm (ab ha (ab hb (ab hc ae hs3) hs2) hs).1 (by rw [z1,z2,z3];rfl) (by rw [z2,z3];rfl)).imp fun σ H W ⟨ρ,ds,er,e,q⟩=>?_
 obtain ⟨x,e1,e⟩:=bindS e
 obtain ⟨y,e2,e⟩:=bindS e
 obtain ⟨z,e3,e⟩:=bindS e
 obtain ⟨i,e4,e⟩:=bindS e
 obtain ⟨j,e5,e⟩:=bindS e
 obtain ⟨k,e6,e⟩:=bindS e
 split at e
 ·rename_i hz
  cases e
  refine ⟨ρ,[x,y,z],er,by show (f ρ).bind _=_;rw [e1];show ((g ρ).bind _).map _=_;rw [e2];show (((h ρ).bind _).map _).map _=_;rw [e3];rfl,fun vs H1 s1 r1=>?_⟩
  obtain ⟨v,r,rfl,r2,r3⟩:=r1
  obtain ⟨u,r',rfl,r4,r5⟩:=r3
  obtain ⟨w,r'',rfl,r6,r7⟩:=r5
  cases (show r''=_ from r7)
  have hv:=nI_of e4 r2
  have hu:=nI_of e5 r4
  have hw:=nI_of e6 r6
  subst hv hu hw
  exact ⟨i,j,k,rfl,hz,q _ H1 s1 ni⟩
 ·cases e
end
section
variable {X:Cx} {pins:List (Addr×Obj)} {σ:L2.St} {H:Hp} {s:Shared} {k:Nat} {y:Str}
def hid (X:Cx) (k:Nat) (y:Str):Cx:={X with N:=X.N.set k y}
end
end HW
namespace HW
open PySem
section
open Builtin Builtin.Str
theorem sub1 {x:Str} {c a:Nat}:subAt x ⟨#[c]⟩ a=(x.cps[a]?==some c):=by
 have e:(⟨#[c]⟩:Str).length=1:=rfl
 unfold subAt
 rw [e]
 show (x.cps.extract a (a+1)==#[c])=_
 by_cases h:a<x.cps.size
 ·have:x.cps.extract a (a+1)=#[x.cps[a]]:=by
   apply Array.ext'
   simp [h,List.drop_eq_getElem_cons]
  rw [this,Array.getElem?_eq_getElem h,Bool.eq_iff_iff,beq_iff_eq,beq_iff_eq]
  constructor
  ·intro q
   have q':=congrArg Array.toList q
   simp at q'
   rw [q']
  ·intro q
   rw [Option.some.inj q]
 ·have:x.cps.extract a (a+1)=#[]:=by
   apply Array.ext'
   simp
   omega
  rw [this,Array.getElem?_eq_none (by omega)]
  rfl
theorem occ_go (x:Str) (c:Nat):∀ (k a:Nat) (st:Array Nat×Nat),a+k=x.length+1->st.1.size<=a->st.2<=a ->
  (forIn (List.range' a k) st (StrLaws.occBody x ⟨#[c]⟩ x.length (x.length+1))).run.fst.toList=st.1.toList++(List.range' a k).filter fun i=>x.cps[i]?==some c
 | 0,a,st,_,_,_=>by simp
 | k+1,a,st,h,h1,h2=>by
  have e:(⟨#[c]⟩:Str).length=1:=rfl
  rw [List.range'_succ,List.forIn_cons]
  have hb:StrLaws.occBody x ⟨#[c]⟩ x.length (x.length+1) a st=(if (x.cps[a]?==some c)=true then pure (ForInStep.yield (st.1.push a,a+1)) else pure (ForInStep.yield st)):=by
   unfold StrLaws.occBody
   rw [sub1,e]
   by_cases hc:(x.cps[a]?==some c)=true
   ·have hc':x.cps[a]?=some c:=by simpa using hc
    have ha:a<x.cps.size:=(Array.getElem?_eq_some_iff.mp hc').1
    have ha':a<x.length:=ha
    rw [if_pos ⟨⟨⟨by omega,h2⟩,by omega⟩,hc⟩,if_pos hc]
   ·rw [if_neg (fun q=>hc q.2),if_neg hc]
  rw [hb]
  by_cases hc:(x.cps[a]?==some c)=true
  ·rw [if_pos hc]
   have ih:=occ_go x c k (a+1) (st.1.push a,a+1) (by omega) (by simp;omega) (Nat.le_refl _)
   rw [List.filter_cons_of_pos (p:=fun i=>x.cps[i]?==some c) hc]
   refine ih.trans ?_
   simp
  ·rw [if_neg hc]
   have ih:=occ_go x c k (a+1) st (by omega) (by omega) (by omega)
   rw [List.filter_cons_of_neg (p:=fun i=>x.cps[i]?==some c) hc]
   exact ih
def cutsL (c:Nat) (l:List Nat):List Nat:=(List.range l.length).filter fun i=>l[i]?==some c
theorem occ1 (x:Str) (c:Nat):occurrences x ⟨#[c]⟩ 0 x.length (x.length+1)=cutsL c x.cps.toList:=by
 rw [StrLaws.occ_eq,occ_go x c (x.length+1 - 0) 0 (#[],0) (by omega) (by simp) (Nat.le_refl _)]
 unfold cutsL
 show []++_=_
 rw [List.nil_append,show x.length+1 - 0=x.length+1 by omega,show x.cps.toList.length=x.length by simp;rfl,List.range_eq_range',List.range'_concat,List.filter_append]
 have e:x.cps[x.length]?=none:=Array.getElem?_eq_none (Nat.le_refl _)
 simp [e]
def partsL (l cs:List Nat):List (List Nat):=((0::cs.map (·+1)).zip (cs++[l.length])).map fun p=>(l.drop p.1).take (p.2 - p.1)
theorem parts1 (x:Str) (cs:List Nat):partsBetween x cs 1=(partsL x.cps.toList cs).map fun l=>(⟨l.toArray⟩:Str):=by
 unfold partsBetween partsL
 rw [List.map_map,show x.cps.toList.length=x.length by simp;rfl]
 apply List.map_congr_left
 rintro ⟨i,j⟩ _
 show (⟨x.cps.extract i j⟩:Str)=⟨_⟩
 congr 1
 apply Array.ext'
 simp
end
theorem cuts_none {c:Nat} {l:List Nat} (h:c∉l):cutsL c l=[]:=by
 unfold cutsL
 rw [List.filter_eq_nil_iff]
 intro i _ q
 exact h (List.mem_of_getElem? (by simpa using q))
theorem range_add' (a b:Nat):List.range (a+b)=List.range a++(List.range b).map (a+·):=List.range_add
theorem cuts_cons {c:Nat} {w r:List Nat} (h:c∉w):cutsL c (w++c::r)=w.length::(cutsL c r).map (·+(w.length+1)):=by
 unfold cutsL
 rw [show (w++c::r).length=w.length+(r.length+1) by simp,range_add',List.filter_append]
 have e1:(List.range w.length).filter (fun i=>(w++c::r)[i]?==some c)=[]:=by
  rw [List.filter_eq_nil_iff]
  intro i hi q
  have hi':i<w.length:=by simpa using hi
  rw [List.getElem?_append_left hi'] at q
  exact h (List.mem_of_getElem? (by simpa using q))
 rw [e1,List.nil_append,List.range_succ_eq_map,List.map_cons,List.filter_cons_of_pos (by simp),List.map_map,List.filter_map]
 congr 1
 have e2:((fun i=>(w++c::r)[i]?==some c) ∘ ((fun x=>w.length+x) ∘ Nat.succ))=fun i=>r[i]?==some c:=by
  funext i
  show ((w++c::r)[w.length+(i+1)]?==some c)=_
  rw [List.getElem?_append_right (by omega)]
  simp
 rw [e2]
 apply List.map_congr_left
 intro i _
 show w.length+(i+1)=i+(w.length+1)
 omega
theorem parts_cons {c:Nat} (w r cs:List Nat):partsL (w++c::r) (w.length::cs.map (·+(w.length+1)))=w::partsL r cs:=by
 unfold partsL
 have e:(w++c::r).length=r.length+(w.length+1):=by simp;omega
 rw [e]
 show (List.map _ ((0,w.length)::(((w.length::cs.map (·+(w.length+1))).map (·+1)).zip (cs.map (·+(w.length+1))++[r.length+(w.length+1)]))))=_
 rw [List.map_cons]
 congr 1
 ·simp
 ·have e1:(w.length::cs.map (·+(w.length+1))).map (·+1)=(0::cs.map (·+1)).map (·+(w.length+1)):=by
   simp
   intro a _
   omega
  have e2:cs.map (·+(w.length+1))++[r.length+(w.length+1)]=(cs++[r.length]).map (·+(w.length+1)):=by simp
  rw [e1,e2,List.zip_map,List.map_map]
  apply List.map_congr_left
  rintro ⟨i,j⟩ _
  show ((w++c::r).drop (i+(w.length+1))).take (j+(w.length+1) - (i+(w.length+1)))=(r.drop i).take (j - i)
  have:w++c::r=(w++[c])++r:=by simp
  rw [this,show i+(w.length+1)=(w++[c]).length+i by simp;omega,List.drop_append,show j+(w.length+1) - ((w++[c]).length+i)=j - i by simp;omega,List.drop_eq_nil_of_le (Nat.le_add_right _ _),List.nil_append,Nat.add_sub_cancel_left]
def joinL (c:Nat):List (List Nat)->List Nat
 | []=>[]
 | w::ws=>w++ws.flatMap (c::·)
theorem joinL_cons (c:Nat) (w v:List Nat) (ws:List (List Nat)):joinL c (w::v::ws)=w++c::joinL c (v::ws):=by simp [joinL]
theorem cuts_join {c:Nat}:∀ {ws:List (List Nat)},ws ≠ []->(∀ w∈ws,c∉w)->partsL (joinL c ws) (cutsL c (joinL c ws))=ws
 | [],h,_=>absurd rfl h
 | [w],_,h=>by
  have e:joinL c [w]=w:=by simp [joinL]
  rw [e,cuts_none (h w (by simp))]
  simp [partsL]
 | w::v::ws,_,h=>by
  have ih:=cuts_join (c:=c) (ws:=v::ws) (by simp) fun u hu=>h u (List.mem_cons_of_mem _ hu)
  rw [joinL_cons,cuts_cons (h w (by simp)),parts_cons,ih]
theorem glued_cps (g:Str):∀ (r:List Str) (acc:Array Nat),(r.foldl (fun acc p=>acc++g.cps++p.cps) acc).toList=acc.toList++r.flatMap fun p=>g.cps.toList++p.cps.toList
 | [],acc=>by simp
 | p::r,acc=>by
  rw [List.foldl_cons,glued_cps g r]
  simp
theorem glued_join (c:Nat) (ws:List Str):(Builtin.Str.glued ⟨#[c]⟩ ws).cps.toList=joinL c (ws.map fun w=>w.cps.toList):=by
 cases ws with
 | nil=>rfl
 | cons w r =>
  show (r.foldl (fun acc p=>acc++(⟨#[c]⟩:Str).cps++p.cps) w.cps).toList=_
  rw [glued_cps]
  simp [joinL,List.flatMap_map]
theorem parts_glued {c:Nat} {ws:List Str} (h0:ws ≠ []) (h:∀ w∈ws,c∉w.cps.toList) :
  Builtin.Str.partsBetween (Builtin.Str.glued ⟨#[c]⟩ ws) (Builtin.Str.occurrences (Builtin.Str.glued ⟨#[c]⟩ ws) ⟨#[c]⟩ 0 (Builtin.Str.glued ⟨#[c]⟩ ws).length ((Builtin.Str.glued ⟨#[c]⟩ ws).length+1)) 1=ws:=by
 rw [occ1,parts1,glued_join,cuts_join (by simpa using h0) (by
  intro w hw
  obtain ⟨v,hv,rfl⟩:=List.mem_map.mp hw
  exact h v hv),List.map_map]
 conv=>rhs;rw [<- List.map_id ws]
 apply List.map_congr_left
 intro w _
 rfl
end HW
namespace HW
open PySem
section
variable {prog:Program} {w:World} {A:Around} {E:Value->Shared->Prop} {g:_} {d:_} {os:_}
structure Nx (prog:Program) (w:World) (A:Around) (mk:Heap->Nat->Shared) (Good:Heap->Nat->Prop) (it:Addr) (st st':Heap->Prop) (P:Value->Prop):Prop where
 stay:∀ h h',st h->(∀ o,h.get? it=some o->h'.get? it=some o)->st h'
 stay':∀ h h',st' h->(∀ o,h.get? it=some o->h'.get? it=some o)->st' h'
 run:∀ h tk (Q:Value->Shared->Prop) (E:Value->Shared->Prop),Good h tk->st h->(∀ u h' tk',P u->st' h'->Heap.SameBut it h h'->Q u (mk h' tk')) ->
  wpAny (model prog w) A (Builtin.SmallTypes.nextOf (.ref it)) Q E (mk h tk)
structure Ne (prog:Program) (w:World) (A:Around) (mk:Heap->Nat->Shared) (Good:Heap->Nat->Prop) (it:Addr) (st:Heap->Prop):Prop where
 stay:∀ h h',st h->(∀ o,h.get? it=some o->h'.get? it=some o)->st h'
 run:∀ h tk (Q:Value->Shared->Prop) (E:Value->Shared->Prop),Good h tk->st h->(∀ h' e,Heap.ExtBut it h h'->(∃ o,h'.get? e=some o/\o.cls=.type "StopIteration")->E (.ref e) (mk h' tk)) ->
  wpAny (model prog w) A (Builtin.SmallTypes.nextOf (.ref it)) Q E (mk h tk)
def mkS (s:Shared) (h:Heap) (tk:Nat):Shared:={s with heap:=h,toks:=tk}
variable {Good:Heap->Nat->Prop} {s:Shared} {z TI TO i1 i2:Addr} {a b:Value} {st1 st1' st2 st2':Heap->Prop} {P1 P2:Value->Prop}
theorem dJ {it l:Addr} {i:Nat} {items} {x:Value} {Q:Value->Shared->Prop} (hit:s.heap.IsTupleIter it l i) (hl:s.heap.IsTuple l items) (hx:items[i]?=some x)
  (hQ:∀ h',h'.IsTupleIter it l (i+1)->Heap.SameBut it s.heap h'->Q x {s with heap:=h' }):wpAny (model prog w) A (Builtin.SmallTypes.nextOf (.ref it)) Q E s:=by
 obtain ⟨o,ho,hc,hd⟩:=id hit
 obtain ⟨ol,hol,_,nl,hdl⟩:=hl
 unfold Builtin.SmallTypes.nextOf
 refine wpAny_bind (wpAny_callSpecial?_slot (name:=Str.ofString "__next__") hit.typeIs F.slot_tuple_iterator_next (wpAny_call_entry F.slot_tuple_iterator_next hit.typeIs F.entry_tuple_iterator_next ?_ (F.args_tuple_iterator_next_1 _)))
 show wpAny _ _ (field (.ref it) 0 >>= _) _ _ s;refine wpAny_bind (wpAny_field ho hd (x:=.ref l) rfl ?_)
 show wpAny _ _ (if (Value.ref l==Value.none)=true then _ else _) _ _ s;rw [if_neg (show ¬ ((Value.ref l==Value.none)=true) from Bool.false_ne_true)]
 show wpAny _ _ (field (.ref it) 1 >>= _) _ _ s;refine wpAny_bind (wpAny_field ho hd (x:=.int i 0) rfl ?_)
 show wpAny _ _ (seqItems? (.ref l) >>= _) _ _ s;refine wpAny_bind (wpAny_seqItems hol hdl ?_)
 simp only [Int.toNat_natCast,hx]
 refine wpAny_bind (wpAny_setField ho hd (by simp) (wpAny_pure ⟨x,rfl,wpAny_pure (hQ _ ⟨_,Heap.get?_update_self _ ho (Obj.isFreed_of_fields (Obj.data_mapFields hd _)),(Obj.cls_mapFields ..).trans hc,?_⟩ (Heap.SameBut.update ..))⟩))
 rw [Obj.data_mapFields hd];simp [rawInt]
theorem cS {it l:Addr} {i:Nat} {items} {Q:Value->Shared->Prop} (hh:A.handled=none) (hit:s.heap.IsTupleIter it l i) (hl:s.heap.IsTuple l items) (hx:items[i]?=none)
  (hE:∀ h' e,Heap.ExtBut it s.heap h'->(∃ o,h'.get? e=some o/\o.cls=.type "StopIteration")->E (.ref e) {s with heap:=h' }):wpAny (model prog w) A (Builtin.SmallTypes.nextOf (.ref it)) Q E s:=by
 obtain ⟨o,ho,hc,hd⟩:=id hit
 obtain ⟨ol,hol,_,nl,hdl⟩:=hl
 unfold Builtin.SmallTypes.nextOf
 refine wpAny_bind (wpAny_callSpecial?_slot (name:=Str.ofString "__next__") hit.typeIs F.slot_tuple_iterator_next (wpAny_call_entry F.slot_tuple_iterator_next hit.typeIs F.entry_tuple_iterator_next ?_ (F.args_tuple_iterator_next_1 _)))
 show wpAny _ _ (field (.ref it) 0 >>= _) _ _ s;refine wpAny_bind (wpAny_field ho hd (x:=.ref l) rfl ?_)
 show wpAny _ _ (if (Value.ref l==Value.none)=true then _ else _) _ _ s;rw [if_neg (show ¬ ((Value.ref l==Value.none)=true) from Bool.false_ne_true)]
 show wpAny _ _ (field (.ref it) 1 >>= _) _ _ s;refine wpAny_bind (wpAny_field ho hd (x:=.int i 0) rfl ?_)
 show wpAny _ _ (seqItems? (.ref l) >>= _) _ _ s;refine wpAny_bind (wpAny_seqItems hol hdl ?_)
 simp only [Int.toNat_natCast,hx]
 refine wpAny_bind (wpAny_rule (wpAny_bind (wpAny_setField ho hd (by simp) ?_)));show wpAny _ _ (newExc (.type "StopIteration") [] >>= _) _ _ _
 refine wpAny_bind ?_;simp only [newExc,newTuple]
 refine wpAny_bind (wpAny_newObj_type ?_ (by size_fits));refine wpAny_bind (m:=firstArgMember _ _) (wpAny_of_eq (a:=Value.none) (by first | rfl | (simp only [firstArgMember];rfl)) ?_)
 refine wpAny_newObj_type ?_ (by size_fits);simp only [raiseNew]
 refine wpAny_bind (wpAny_handled ?_);first | rw [show A.in1.handled=none from hh] | rw [hh]
 exact wpAny_bind (wpAny_pure (wpAny_throw (hE _ _ (((Heap.SameBut.update ..).extBut.push _).push _) ⟨_,Heap.get?_push_size _ rfl,rfl⟩)))
inductive Src where
 | lst (a:Addr)
 | tup (a:Addr)
 | txt (x:Str) (t:Tok)
def Src.val:Src->Value
 | .lst a=>.ref a
 | .tup a=>.ref a
 | .txt x t=>.str x t
def Src.obj:Src->Obj
 | .lst a=>{cls:=.type "list_iterator",data:=.fields #[.ref a,.int 0 0]}
 | .tup a=>{cls:=.type "tuple_iterator",data:=.fields #[.ref a,.int 0 0]}
 | .txt x t=>{cls:=.type "str_ascii_iterator",data:=.fields #[.str x t,.int 0 0]}
def Src.ok (h:Heap):Src->Prop
 | .lst a=>∃ xs,h.IsList a xs
 | .tup a=>∃ xs,h.IsTuple a xs
 | .txt x _=>x.cps.all (·<128)=true
def Src.at (it:Addr) (i:Nat) (h:Heap):Src->Prop
 | .lst a=>h.IsListIter it a i
 | .tup a=>h.IsTupleIter it a i
 | .txt x t=>h.IsStrIter it "str_ascii_iterator" x t i
theorem Src.iter {S:Src} {Q:Value->Shared->Prop} (h:S.ok s.heap) (hQ:Q (.ref s.heap.objs.size) {s with heap:=s.heap.push S.obj}):wpAny (model prog w) A (pyIter S.val) Q E s:=by
 cases S with
 | lst a=>obtain ⟨xs,h⟩:=h;exact wpAny_pyIter_list h hQ
 | tup a=>obtain ⟨xs,h⟩:=h;exact wpAny_pyIter_tuple h hQ
 | txt x t=>exact wpAny_pyIter_ascii h hQ
theorem Src.keep {S:Src} {it:Addr} {i:Nat} {h h':Heap} (q:S.at it i h) (k:∀ o,h.get? it=some o->h'.get? it=some o):S.at it i h':=by
 cases S with
 | lst a=>exact Heap.IsListIter.at q k
 | tup a=>obtain ⟨o,e,r⟩:=q;exact ⟨o,k o e,r⟩
 | txt x t=>obtain ⟨o,e,r⟩:=q;exact ⟨o,k o e,r⟩
theorem Src.start {S:Src} {it:Addr} {h:Heap} (q:h.get? it=some S.obj):S.at it 0 h:=by
 cases S<;>exact ⟨_,q,rfl,rfl⟩
theorem Src.nx {S:Src} {it:Addr} {i:Nat} {P:Value->Prop} (hx:∀ h tk,Good h tk->match S with
  | .lst a=>∃ xs x,h.IsList a xs/\xs[i]?=some x/\P x
  | .tup a=>∃ xs x,h.IsTuple a xs/\xs[i]?=some x/\P x
  | .txt x _=>∃ c,x.cps[i]?=some c/\∀ u,P (.str ⟨#[c]⟩ u)):Nx prog w A (mkS s) Good it (fun h=>S.at it i h) (fun h=>S.at it (i+1) h) P where
 stay:=fun _ _ q k=>Src.keep q k
 stay':=fun _ _ q k=>Src.keep q k
 run:=fun h tk Q E gg q hQ=>by
  have z:=hx h tk gg
  cases S with
  | lst a=>obtain ⟨xs,x,l,e,p⟩:=z;exact wpAny_nextOf_list_item (s:=mkS s h tk) q l e fun h' q' sb=>hQ x h' tk p q' sb
  | tup a=>obtain ⟨xs,x,l,e,p⟩:=z;exact dJ (s:=mkS s h tk) q l e fun h' q' sb=>hQ x h' tk p q' sb
  | txt x t=>obtain ⟨c,e,p⟩:=z;exact wpAny_nextOf_ascii_item (s:=mkS s h tk) q e fun h' q' sb=>hQ _ h' (tk+1) (p _) q' sb
theorem Src.ne {S:Src} {it:Addr} {i:Nat} (hh:A.handled=none) (hx:∀ h tk,Good h tk->match S with
  | .lst a=>∃ xs,h.IsList a xs/\xs[i]?=none
  | .tup a=>∃ xs,h.IsTuple a xs/\xs[i]?=none
  | .txt x _=>x.cps[i]?=none):Ne prog w A (mkS s) Good it (fun h=>S.at it i h) where
 stay:=fun _ _ q k=>Src.keep q k
 run:=fun h tk Q E gg q hQ=>by
  have z:=hx h tk gg
  cases S with
  | lst a=>obtain ⟨xs,l,e⟩:=z;exact wpAny_nextOf_list_end (s:=mkS s h tk) hh q l e hQ
  | tup a=>obtain ⟨xs,l,e⟩:=z;exact cS (s:=mkS s h tk) hh q l e hQ
  | txt x t=>exact wpAny_nextOf_ascii_end (s:=mkS s h tk) hh q z hQ
end
section
variable {prog:Program} {w:World} {A:Around} {E:Value->Shared->Prop} {s:Shared}
end
end HW
namespace HW
open PySem PySem.Spec PyProof.Rows L2
def Src.go (K:PySem.W.Frag) (i:Nat) (H:Hp) (v:V):Src->Prop
 | .lst a=>∃ xs,SqL K H a xs/\xs[i]?=some v
 | .tup a=>∃ xs,SqT K H a xs/\xs[i]?=some v
 | .txt x _=>∃ c,x.cps[i]?=some c/\v=.str ⟨#[c]⟩
def Src.stop (K:PySem.W.Frag) (i:Nat) (H:Hp):Src->Prop
 | .lst a=>∃ xs,SqL K H a xs/\xs.length<=i
 | .tup a=>∃ xs,SqT K H a xs/\xs.length<=i
 | .txt x _=>x.cps.size<=i
section
variable {X:Cx} {pins:List (Addr×Obj)} {σ:L2.St} {H:Hp} {s:Shared} {S:Src} {i:Nat} {v:V}
end
section
variable {X:Cx}
theorem qj:CaD X (.builtin "len") fLenS:=call_len_str.imp fun xs H Q ⟨ds,d,r,e,q⟩=>by
 match ds,e with
 | [.str x],e =>
  simp only [fLenS] at e
  split at e
  ·rename_i hz
   cases e
   obtain ⟨v,r',rfl,r1,r2⟩:=r
   cases (show v=_ from r1)
   cases (show r'=[] from r2)
   exact ⟨x,rfl,hz,q _ H (Same.refl H) rfl⟩
  ·cases e
end
end HW
namespace L2
open PySem PySem.Spec PyProof.Rows
section
variable {κ:Type} [DecidableEq κ]
def valV (kvs:List (κ×V)) (k:κ):Option V:=(kvs.find? fun kv=>decide (kv.1=k)).map (·.2)
def putK (kvs:List (κ×V)) (k:κ) (v:V):List (κ×V) :=
 if (kvs.any fun kv=>decide (kv.1=k))=true then kvs.map (fun kv=>if kv.1=k then (kv.1,v) else kv) else kvs++[(k,v)]
def dropK (kvs:List (κ×V)) (k:κ):List (κ×V):=kvs.filter fun kv=>decide (kv.1≠k)
theorem valV_pos {p:κ×V} {r:List (κ×V)} {k:κ} (e:p.1=k):valV (p::r) k=some p.2:=by simp [valV,List.find?_cons,e]
theorem valV_neg {p:κ×V} {r:List (κ×V)} {k:κ} (e:¬ p.1=k):valV (p::r) k=valV r k:=by simp [valV,List.find?_cons,e]
theorem valV_any (k:κ):∀ kvs:List (κ×V),(kvs.any fun kv=>decide (kv.1=k))=(valV kvs k).isSome
 | []=>rfl
 | p::r=>by
  rw [List.any_cons]
  by_cases e:p.1=k
  ·simp only [valV_pos e,decide_eq_true e,Bool.true_or,Option.isSome_some]
  ·rw [valV_neg e,decide_eq_false e,Bool.false_or];exact valV_any k r
theorem RelO.isSome_eq {o:Option V} {u:Option Value} (r:RelO o u):o.isSome=u.isSome:=by
 cases o with
 | none=>cases u with
  | none=>rfl
  | some _=>exact (show False from r).elim
 | some _=>cases u with
  | none=>exact (show False from r).elim
  | some _=>rfl
theorem RelO.getD {o:Option V} {u:Option Value} {d:V} {d':Value} (r:RelO o u) (rd:RelV d d'):RelV (o.getD d) (u.getD d'):=by
 cases o with
 | none=>cases u with
  | none=>exact rd
  | some _=>exact (show False from r).elim
 | some _=>cases u with
  | none=>exact (show False from r).elim
  | some _=>exact r
theorem KV.val {kvs:List (κ×V)} {vs:List (κ×Value)} (r:KV kvs vs) (k:κ):RelO (valV kvs k) (valueAt vs k):=by
 unfold KV at r
 induction r with
 | nil=>exact True.intro
 | @cons p q ps qs h t ih =>
  obtain ⟨h1,h2⟩:=h
  by_cases e:p.1=k
  ·have e':q.1=k:=h1.symm.trans e
   have b:valueAt (q::qs) k=some q.2:=by simp [valueAt,List.find?_cons,e']
   rw [valV_pos e,b];exact h2
  ·have e':¬ q.1=k:=fun z=>e (h1.trans z)
   have b:valueAt (q::qs) k=valueAt qs k:=by simp [valueAt,List.find?_cons,e']
   rw [valV_neg e,b];exact ih
theorem KV.any {kvs:List (κ×V)} {vs:List (κ×Value)} (r:KV kvs vs) (k:κ):(kvs.any fun kv=>decide (kv.1=k))=vs.any fun kv=>decide (kv.1=k):=by
 unfold KV at r
 induction r with
 | nil=>rfl
 | cons h t ih=>rw [List.any_cons,List.any_cons,ih,h.1]
theorem KV.repl {kvs:List (κ×V)} {vs:List (κ×Value)} (r:KV kvs vs) (k:κ) {y:V} {u:Value} (ry:RelV y u) :
  KV (kvs.map fun kv=>if kv.1=k then (kv.1,y) else kv) (vs.map fun kv=>if kv.1=k then (kv.1,u) else kv):=by
 unfold KV at r ⊢
 induction r with
 | nil=>exact .nil
 | @cons p q ps qs h t ih =>
  rw [List.map_cons,List.map_cons]
  refine .cons ?_ ih
  obtain ⟨h1,h2⟩:=h
  by_cases e:p.1=k
  ·rw [if_pos e,if_pos (h1.symm.trans e)];exact ⟨h1,ry⟩
  ·rw [if_neg e,if_neg (fun z=>e (h1.trans z))];exact ⟨h1,h2⟩
theorem KV.put {kvs:List (κ×V)} {vs:List (κ×Value)} (r:KV kvs vs) (k:κ) {y:V} {u:Value} (ry:RelV y u):KV (putK kvs k y) (stored vs k u):=by
 unfold putK stored
 rw [r.any k]
 by_cases e:(vs.any fun kv=>decide (kv.1=k))=true
 ·rw [if_pos e,if_pos e];exact r.repl k ry
 ·rw [if_neg e,if_neg e];exact Paired.snoc r ⟨rfl,ry⟩
theorem KV.drop {kvs:List (κ×V)} {vs:List (κ×Value)} (r:KV kvs vs) (k:κ):KV (dropK kvs k) (without vs k):=by
 unfold KV at r ⊢
 unfold dropK without
 induction r with
 | nil=>exact .nil
 | @cons p q ps qs h t ih =>
  obtain ⟨h1,h2⟩:=h
  rw [List.filter_cons,List.filter_cons]
  by_cases e:p.1=k
  ·have a:¬ decide (p.1≠k)=true:=by simp [e]
   have b:¬ decide (q.1≠k)=true:=by simp [h1.symm.trans e]
   rw [if_neg a,if_neg b];exact ih
  ·have e':¬ q.1=k:=fun z=>e (h1.trans z)
   have a:decide (p.1≠k)=true:=by simp [e]
   have b:decide (q.1≠k)=true:=by simp [e']
   rw [if_pos a,if_pos b];exact .cons ⟨h1,h2⟩ ih
theorem KV.keys {kvs:List (κ×V)} {vs:List (κ×Value)} (r:KV kvs vs):kvs.map (·.1)=vs.map (·.1):=by
 unfold KV at r
 induction r with
 | nil=>rfl
 | cons h t ih=>rw [List.map_cons,List.map_cons,ih,h.1]
theorem KV.length {kvs:List (κ×V)} {vs:List (κ×Value)} (r:KV kvs vs):kvs.length=vs.length:=Paired.length r
end
abbrev KT (H:Hp):List (List Key×V)->List (List Key×Addr×Value)->Prop:=Paired fun p q=>p.1=q.1/\H q.2.1=some (.tup (p.1.map kV))/\RelV p.2 q.2.2
theorem KT.val {H:Hp} {kvs:List (List Key×V)} {xs:List (List Key×Addr×Value)} (r:KT H kvs xs) (k:List Key):RelO (valV kvs k) ((atKey xs k).map (·.2)):=by
 induction r with
 | nil=>exact True.intro
 | @cons p q ps qs h t ih =>
  obtain ⟨h1,_,h2⟩:=h
  by_cases e:p.1=k
  ·have e':q.1=k:=h1.symm.trans e
   have b:atKey (q::qs) k=some q.2:=by simp [atKey,List.find?_cons,e']
   rw [valV_pos e,b];exact h2
  ·have e':¬ q.1=k:=fun z=>e (h1.trans z)
   have b:atKey (q::qs) k=atKey qs k:=by simp [atKey,List.find?_cons,e']
   rw [valV_neg e,b];exact ih
theorem KT.repl {H:Hp} {kvs:List (List Key×V)} {xs:List (List Key×Addr×Value)} (r:KT H kvs xs) (k:List Key) {y:V} {u:Value} (ry:RelV y u) :
  KT H (kvs.map fun kv=>if kv.1=k then (kv.1,y) else kv) (xs.map (putAt k u)):=by
 induction r with
 | nil=>exact .nil
 | @cons p q ps qs h t ih =>
  rw [List.map_cons,List.map_cons]
  refine .cons ?_ ih
  obtain ⟨h1,h2,h3⟩:=h
  unfold putAt
  by_cases e:p.1=k
  ·rw [if_pos e,if_pos (h1.symm.trans e)];exact ⟨h1,h2,ry⟩
  ·rw [if_neg e,if_neg (fun z=>e (h1.trans z))];exact ⟨h1,h2,h3⟩
theorem KT.put {H:Hp} {kvs:List (List Key×V)} {xs:List (List Key×Addr×Value)} (r:KT H kvs xs) (k:List Key) {b:Addr} {y:V} {u:Value} (hb:H b=some (.tup (k.map kV))) (ry:RelV y u) :
  KT H (putK kvs k y) (storedH xs k b u):=by
 have e:(kvs.any fun kv=>decide (kv.1=k))=(atKey xs k).isSome:=by
  rw [valV_any,(r.val k).isSome_eq,Option.isSome_map]
 unfold putK storedH
 rw [e]
 by_cases q:(atKey xs k).isSome=true
 ·rw [if_pos q,if_pos q];exact r.repl k ry
 ·rw [if_neg q,if_neg q];exact Paired.snoc r ⟨rfl,hb,ry⟩
theorem KT.keeps {H H':Hp} {kvs:List (List Key×V)} {xs:List (List Key×Addr×Value)} (r:KT H kvs xs) (ht:∀ b ys,H b=some (.tup ys)->H' b=some (.tup ys)):KT H' kvs xs :=
 Paired.mapP r fun _ _ z=>⟨z.1,ht _ _ z.2.1,z.2.2⟩
section
variable {P:Program} {w:World} {H:Hp} {h:Heap} {a:Addr}
end
def DGet (H:Hp) (a:Addr) (y:V) (r:Option V):Prop :=
 (∃ kvs k,Rd H a (.dK kvs)/\y=kV k/\r=valV kvs k)\/∃ kvs k b,Rd H a (.dT kvs)/\y=.ref b/\H b=some (.tup (k.map kV))/\r=valV kvs k
def DPut (H:Hp) (a:Addr) (y v:V) (H':Hp):Prop :=
 (∃ kvs k,H a=some (.dK kvs)/\y=kV k/\kvs.length<sizeLine/\H'=upd H a (.dK (putK kvs k v))) \/
 ∃ kvs k b,H a=some (.dT kvs)/\y=.ref b/\H b=some (.tup (k.map kV))/\kvs.length<sizeLine/\H'=upd H a (.dT (putK kvs k v))
theorem DGet.k {H:Hp} {a:Addr} {kvs:List (Key×V)} {k:Key} (e:H a=some (.dK kvs)):DGet H a (kV k) (valV kvs k):=.inl ⟨kvs,k,.inl e,rfl,rfl⟩
theorem DGet.t {H:Hp} {a b:Addr} {kvs:List (List Key×V)} {k:List Key} (e:H a=some (.dT kvs)) (eb:H b=some (.tup (k.map kV))):DGet H a (.ref b) (valV kvs k):=.inr ⟨kvs,k,b,.inl e,rfl,eb,rfl⟩
theorem DPut.k {H:Hp} {a:Addr} {kvs:List (Key×V)} {k:Key} {v:V} (e:H a=some (.dK kvs)) (hl:kvs.length<sizeLine):DPut H a (kV k) v (upd H a (.dK (putK kvs k v))):=.inl ⟨kvs,k,e,rfl,hl,rfl⟩
theorem DPut.t {H:Hp} {a b:Addr} {kvs:List (List Key×V)} {k:List Key} {v:V} (e:H a=some (.dT kvs)) (eb:H b=some (.tup (k.map kV))) (hl:kvs.length<sizeLine) :
  DPut H a (.ref b) v (upd H a (.dT (putK kvs k v))):=.inr ⟨kvs,k,b,e,rfl,eb,hl,rfl⟩
section
variable {X:Cx} {pins:List (Addr×Obj)} {σ:St} {H:Hp} {s:Shared} {a:Addr} {y v:V} {u r:Value} {o:Option V} {A:Around} {E:Value->Shared->Prop}
end
section
variable {X:Cx} {pins:List (Addr×Obj)} {σ:St} {H:Hp} {s:Shared} {a:Addr} {kvs:List (Key×V)} {k:Key} {u:Value} {A:Around} {E:Value->Shared->Prop}
end
section
variable {X:Cx} {o i e value:Expr} {pos pos' tpos:Pos} {td ty tv:TE}
end
section
variable {X:Cx} {pos:Pos}
end
section
variable {X:Cx} {pins:List (Addr×Obj)} {σ:St} {H:Hp} {s:Shared} {a:Addr} {y d:V} {u r:Value} {o:Option V} {A:Around} {E:Value->Shared->Prop}
end
section
variable {X:Cx} {o e f:Expr} {apos cpos:Pos} {td ty tx:TE}
end
section
variable {X:Cx} {pins:List (Addr×Obj)} {σ:St} {H:Hp} {s:Shared} {a:Addr} {kvs:List (Key×V)} {A:Around} {E:Value->Shared->Prop}
end
section
variable {X:Cx} {pins:List (Addr×Obj)} {σ:St} {H:Hp} {s:Shared} {a:Addr} {y:V} {u:Value} {A:Around} {E:Value->Shared->Prop}
end
end L2
namespace HW
open PySem
def getK:List (Str×D)->Str->Option D
 | [],_=>none
 | p::r,x=>if p.1=x then some p.2 else getK r x
end HW
namespace HW
open PySem
end HW
namespace HW
open PySem PySem.Spec PyProof.Rows L2
def OwnK (P:Program) (w:World) (a:Addr) (kvs:List (Key×V)):HO:=.ext fun h=>kvs.length<=sizeLine/\(a==sysModules)=false/\∃ vs,KV kvs vs/\h.DictOf (mixKind P w) a vs
section
variable {X:Cx} {pins:List (Addr×Obj)} {σ:L2.St} {H:Hp} {s:Shared} {a:Addr} {kvs:List (Key×V)}
end
def RepK (K:PySem.W.Frag) (H:Hp):List (Str×D)->List (Key×V)->Prop
 | [],vs=>vs=[]
 | p::r,vs=>∃ v t,vs=(.inr p.1,v)::t/\Rep K H p.2 v/\RepK K H r t
section
variable {K:PySem.W.Frag} {H H':Hp}
theorem RepK.kp (s:Kp H H'):∀ {ds:List (Str×D)} {vs:List (Key×V)},RepK K H ds vs->RepK K H' ds vs
 | [],_,h=>h
 | p::r,_,h=>by
  obtain ⟨v,t,e,q,w⟩:=h
  exact ⟨v,t,e,q.kp s,RepK.kp s w⟩
theorem RepK.mono (s:Same H H') {ds:List (Str×D)} {vs:List (Key×V)} (h:RepK K H ds vs):RepK K H' ds vs:=h.kp (Kp.of s)
theorem RepK.snoc:∀ {ds:List (Str×D)} {vs:List (Key×V)} {x:Str} {d:D} {v:V},RepK K H ds vs->Rep K H d v->RepK K H (ds++[(x,d)]) (vs++[(.inr x,v)])
 | [],_,x,d,v,h,r=>by
  cases (show _=[] from h)
  exact ⟨v,[],rfl,r,rfl⟩
 | p::ds,_,x,d,v,h,r=>by
  obtain ⟨u,t,e,q,w⟩:=h
  subst e
  exact ⟨u,t++[(.inr x,v)],rfl,q,RepK.snoc w r⟩
theorem RepK.len:∀ {ds:List (Str×D)} {vs:List (Key×V)},RepK K H ds vs->ds.length=vs.length
 | [],_,h=>by cases (show _=[] from h);rfl
 | p::r,_,h=>by
  obtain ⟨v,t,e,q,w⟩:=h
  subst e
  simp [RepK.len w]
theorem RepK.at:∀ {ds:List (Str×D)} {vs:List (Key×V)} {x:Str},RepK K H ds vs->match getK ds x with
  | some d=>∃ v,valV vs (Sum.inr x:Key)=some v/\Rep K H d v
  | none=>valV vs (Sum.inr x:Key)=none
 | [],_,x,h=>by cases (show _=[] from h);rfl
 | p::r,_,x,h=>by
  obtain ⟨v,t,e,q,w⟩:=h
  subst e
  have ih:=RepK.at (x:=x) w
  unfold getK
  by_cases hx:p.1=x
  ·rw [if_pos hx]
   exact ⟨v,valV_pos (by rw [hx]),q⟩
  ·rw [if_neg hx]
   have n:valV (((Sum.inr p.1:Key),v)::t) (Sum.inr x)=valV t (Sum.inr x):=valV_neg fun z=>hx (Sum.inr.inj z)
   rw [n]
   exact ih
end
def tKE (P:Program) (w:World) (K:PySem.W.Frag) (g:R->List (Str×D)->Option D):TE:=fun σ H Q=>∃ ρ τ a ds xs d,EnvT K H ρ (some (.ref a)::τ) σ/\H a=some (OwnK P w a xs)/\RepK K H ds xs/\g ρ ds=some d/\∀ v H',Same H H'->Rep K H' d v->Q v H'
def KE (X:Cx) (e:Expr) (g:R->List (Str×D)->Option D):Prop:=PE X e (tKE X.prog X.w X.K g)
section
variable {X:Cx} {st:Stmt} {sts:List Stmt} {u:R->Option Out} {w:R->List (Str×D)->Option Out} {pos:Pos} {e:Expr} {es:List Expr} {f:R->Option D} {F:R->Option (List D)}
end
section
variable {X:Cx} {sts:List Stmt} {w:R->List (Str×D)->Option Out} {pos:Pos} {f:R->Option D}
end
end HW
namespace HW
open PySem PySem.Spec PyProof.Rows L2
variable {X:Cx}
end HW
namespace HW
def intsOf:List D->Option (List Int)
 | []=>some []
 | .int i::r=>(intsOf r).map (i::·)
 | _::_=>none
end HW
namespace HW
def enumD (xs:List D):List D:=xs.zipIdx.map fun p=>.tup [.int (p.2:Int),p.1]
def inEnum (f:R->Option D):R->Option (List D):=fun ρ=>(f ρ).bind fun d=>match d with
 | .tup xs=>some (enumD xs)
 | _=>none
theorem enumD_get {xs:List D} {i:Nat} {d:D} (e:(enumD xs)[i]?=some d):∃ x,xs[i]?=some x/\d=.tup [.int (i:Int),x]:=by
 unfold enumD at e
 rw [List.getElem?_map,List.getElem?_zipIdx] at e
 cases h:xs[i]? with
 | none=>rw [h] at e;cases e
 | some x=>rw [h] at e;simp at e;exact ⟨x,rfl,e.symm⟩
theorem enumD_length (xs:List D):(enumD xs).length=xs.length:=by simp [enumD]
end HW
namespace HW
end HW
namespace HW
open PySem
end HW
namespace HW
open PySem
inductive MO where
 | nx (ρ:R)
 | rt (d:D) (ρ:R)
abbrev MU:=List Nat->R->Option MO
def mPure (u:R->Option Out):MU:=fun _ ρ=>(u ρ).bind fun o=>match o with
 | .nx ρ2=>some (.nx ρ2)
 | .rt d=>some (.rt d ρ)
 | _=>none
def mNext:MU:=fun _ ρ=>some (.nx ρ)
def mSeq (u w:MU):MU:=fun S ρ=>(u S ρ).bind fun o=>match o with
 | .nx ρ2=>w S ρ2
 | o=>some o
def mIf (c:R->Option Bool) (u w:MU):MU:=fun S ρ=>(c ρ).bind fun b=>if b then u S ρ else w S ρ
def forM (st:D->R->Option R) (u:MU) (S:List Nat):List D->R->Option MO
 | [],ρ=>some (.nx ρ)
 | d::ds,ρ=>(st d ρ).bind fun ρ1=>(u S ρ1).bind fun o=>match o with
  | .nx ρ2=>forM st u S ds ρ2
  | o=>some o
def mFor (it:R->Option (List D)) (st:D->R->Option R) (u:MU):MU:=fun S ρ=>(it ρ).bind fun ds=>if nobs ds then forM st u S ds ρ else none
def nobO:Option D->Bool
 | some d=>nob d
 | none=>true
def nobBut (i:Nat) (ρ:R):Bool:=(ρ.set i none).all nobO
def adr1:D->List Nat
 | .obj _ a _ _=>[a]
 | _=>[]
def adr:D->List Nat
 | .obj _ a _ es=>a::es.flatMap adr1
 | _=>[]
def inS (S:List Nat) (as:List Nat):Bool:=as.all fun a=>S.contains a
def mExpr (c:List Nat->R->Option (D×R)):MU:=fun S ρ=>(c S ρ).map fun r=>.nx r.2
def keyD:List Str->List D->Str->Option D
 | k::ks,d::ds,x=>if k=x then some d else keyD ks ds x
 | _,_,_=>none
def putD:List Str->List D->Str->D->List Str×List D
 | k::ks,d::ds,x,e=>if k=x then (k::ks,e::ds) else (k::(putD ks ds x e).1,d::(putD ks ds x e).2)
 | ks,ds,x,e=>(ks++[x],ds++[e])
def fldD (C:Nat) (x:Str):D->Option D
 | .obj k _ ks ds=>if k=C+2 then keyD ks ds x else none
 | _=>none
def okN:D->Bool
 | .obj 0 _ _ es=>nobs es
 | d=>nob d
def mFld (i C:Nat) (x:Str) (f:R->Option D):MU:=fun S ρ=>(f ρ).bind fun d=>match vAt i ρ with
 | some (.obj k a ks ds)=>if k=C+2/\nob d=true/\nobBut i ρ=true/\inS S (a::ds.flatMap adr1)=true/\ks.length<100/\ds.all okN=true/\(keyD ks ds x).all nob=true then some (.nx (ρ.set i (some (.obj k a (putD ks ds x d).1 (putD ks ds x d).2)))) else none
 | _=>none
def mApp (i C:Nat) (x:Str) (f:R->Option D):MU:=fun S ρ=>(f ρ).bind fun d=>match vAt i ρ with
 | some (.obj k a ks ds)=>match keyD ks ds x with
  | some (.obj 0 l ls es)=>if k=C+2/\nob d=true/\nobBut i ρ=true/\inS S (a::ds.flatMap adr1)=true/\es.length<1000/\nobs es=true/\nobs (putD ks ds x .non).2=true/\S.contains l=true then some (.nx (ρ.set i (some (.obj k a (putD ks ds x (.obj 0 l ls (es++[d]))).1 (putD ks ds x (.obj 0 l ls (es++[d]))).2)))) else none
  | _=>none
 | _=>none
def endM (j:Nat) (ob d:D) (ρ:R):Option (D×D):=(vAt j ρ).bind fun ob'=>if isOb ob'=true/\adr ob'=adr ob then some (d,ob') else none
def viaM (n N j:Nat) (g:MU):List D->Option (D×D):=fun ds=>if ds.length=n then (ds[j]?).bind fun ob=>if isOb ob=true then (g (adr ob) (beg N ds)).bind fun o=>match o with
 | .nx ρ=>endM j ob .non ρ
 | .rt d ρ=>endM j ob d ρ
 else none else none
def adr0:D->Nat
 | .obj _ a _ _=>a
 | _=>0
def mMet (i:Nat) (C:Nat) (m:Str) (G:List D->Option (D×D)) (F:R->Option (List D)) (S:List Nat) (ρ:R):Option (D×R):=(vAt i ρ).bind fun ob=>(F ρ).bind fun ds=>(G (ob::ds)).bind fun r =>
 match ob with
 | .obj k _ ks _=>if k=C+2/\ks.contains m=false/\nobBut i ρ=true/\inS S (adr ob)=true then some (r.1,ρ.set i (some r.2)) else none
 | _=>none
def metD (C:Nat) (m:Str) (G:List D->Option D) (f:R->Option D) (F:R->Option (List D)):R->Option D:=fun ρ=>(f ρ).bind fun ob=>(F ρ).bind fun ds=>match ob with
 | .obj k _ ks _=>if k=C+2/\ks.contains m=false then G (ob::ds) else none
 | _=>none
def mkOb (N C:Nat) (f:Str) (g:MU) (ds:List D) (a l:Nat):Option D:=(g [a] (beg N (.obj (C+2) a [] []::ds))).bind fun o=>match o with
 | .nx ρ=>match vAt 0 ρ with
  | some (.obj k b ks es)=>if k=C+2/\b=a/\nobs es=true/\ks.length<100 then some (.obj k b (putD ks es f (.obj 0 l [] [])).1 (putD ks es f (.obj 0 l [] [])).2) else none
  | _=>none
 | _=>none
def newM (i:Nat) (mk:List D->Nat->Nat->Option D) (F:R->Option (List D)) (w:MU):R->Option Out:=fun ρ=>(F ρ).bind fun ds=>open Classical in
 if h:i<ρ.length/\∃ r,∀ a l,a≠l->∃ ob ρ',mk ds a l=some ob/\w [a,l] (ρ.set i (some ob))=some (.rt r ρ') then some (.rt h.2.choose) else none
theorem newM_of {i:Nat} {mk:List D->Nat->Nat->Option D} {F:R->Option (List D)} {w:MU} {ρ:R} {ds:List D} {r:D} (h1:F ρ=some ds) (hi:i<ρ.length) (h2:∀ a l,a≠l->∃ ob ρ',mk ds a l=some ob/\w [a,l] (ρ.set i (some ob))=some (.rt r ρ')):newM i mk F w ρ=some (.rt r):=by
 unfold newM
 rw [h1,Option.bind_some,dif_pos ⟨hi,r,h2⟩]
 have z:=(show ∃ r,∀ a l,a≠l->∃ ob ρ',mk ds a l=some ob/\w [a,l] (ρ.set i (some ob))=some (.rt r ρ') from ⟨r,h2⟩).choose_spec 0 1 (by decide)
 obtain ⟨ob,ρ',e1,e2⟩:=z
 obtain ⟨ob2,ρ2,e3,e4⟩:=h2 0 1 (by decide)
 rw [e1] at e3
 cases e3
 rw [e2] at e4
 exact congrArg (fun x=>some (Out.rt x)) (MO.rt.inj (Option.some.inj e4)).1
theorem newM_is {i:Nat} {mk:List D->Nat->Nat->Option D} {F:R->Option (List D)} {w:MU} {ρ:R} {o:Out} (h:newM i mk F w ρ=some o):∃ ds r,F ρ=some ds/\i<ρ.length/\o=.rt r/\∀ a l,a≠l->∃ ob ρ',mk ds a l=some ob/\w [a,l] (ρ.set i (some ob))=some (.rt r ρ'):=by
 cases e:F ρ with
 | none=>unfold newM at h;rw [e] at h;cases h
 | some ds =>
  unfold newM at h
  rw [e,Option.bind_some] at h
  split at h
  ·rename_i q
   cases h
   exact ⟨ds,_,rfl,q.1,rfl,q.2.choose_spec⟩
  ·cases h
def fSum:List D->Option D
 | [.lst es]=>(intsOf es).bind fun ns=>if ns.length<=1000/\ns.all (fun n=>decide (0<=n/\n<1099511627776))=true then some (.int ns.sum) else none
 | _=>none
end HW
namespace HW
open PySem
def sepO (A:List Nat):Option D->Bool
 | some (.obj _ a _ es)=>(a::es.flatMap adr1).all (fun x=>!A.contains x)&&es.all okN
 | some d=>nob d
 | none=>true
def sepBut (i:Nat) (A:List Nat) (ρ:R):Bool:=(ρ.set i none).all (sepO A)
def mCal2 (i:Nat) (G:List D->Option (D×D)) (F:R->Option (List D)) (S:List Nat) (ρ:R):Option (D×R):=(vAt i ρ).bind fun ob=>(F ρ).bind fun ds=>(G ds).bind fun r =>
 if isOb ob=true/\sepBut i (adr ob) ρ=true/\inS S (adr ob)=true then some (r.1,ρ.set i (some r.2)) else none
def mMet2 (i:Nat) (C:Nat) (m:Str) (G:List D->Option (D×D)) (F:R->Option (List D)) (S:List Nat) (ρ:R):Option (D×R):=(vAt i ρ).bind fun ob=>(F ρ).bind fun ds=>(G (ob::ds)).bind fun r =>
 match ob with
 | .obj k a ks es=>if k=C+2/\ks.contains m=false/\sepBut i (a::es.flatMap adr1) ρ=true/\inS S (a::es.flatMap adr1)=true then some (r.1,ρ.set i (some r.2)) else none
 | _=>none
def New2 (i j:Nat) (mk:List D->Nat->Nat->Option D) (ds ds':List D) (w:MU) (ρ:R) (r:D):Prop:=∀ a l a' l',[a,l,a',l'].Nodup->∃ ob ob' ρ',mk ds a l=some ob/\mk ds' a' l'=some ob'/\w [a,l,a',l'] ((ρ.set i (some ob)).set j (some ob'))=some (.rt r ρ')
theorem New2.uniq {i j:Nat} {mk:List D->Nat->Nat->Option D} {ds ds':List D} {w:MU} {ρ:R} {r r':D} (h:New2 i j mk ds ds' w ρ r) (h':New2 i j mk ds ds' w ρ r'):r=r':=by
 obtain ⟨ob,ob',ρ1,e1,e2,e3⟩:=h 0 1 2 3 (by decide)
 obtain ⟨pb,pb',ρ2,f1,f2,f3⟩:=h' 0 1 2 3 (by decide)
 rw [e1] at f1;cases f1
 rw [e2] at f2;cases f2
 rw [e3] at f3
 exact (MO.rt.inj (Option.some.inj f3)).1
def mPop (j i C:Nat) (x:Str):MU:=fun S ρ=>match vAt i ρ with
 | some (.obj k a ks ds)=>match keyD ks ds x with
  | some (.obj 0 l ls es)=>match es.getLast? with
   | some d=>if k=C+2/\i≠j/\j<ρ.length/\nobBut i ρ=true/\inS S (a::ds.flatMap adr1)=true/\nobs es=true/\nobs (putD ks ds x .non).2=true/\S.contains l=true then some (.nx ((ρ.set i (some (.obj k a (putD ks ds x (.obj 0 l ls es.dropLast)).1 (putD ks ds x (.obj 0 l ls es.dropLast)).2))).set j (some d))) else none
   | none=>none
  | _=>none
 | _=>none
mutual
def nof:D->Bool
 | .tup xs=>nofs xs
 | .lst xs=>nofs xs
 | .fro _=>false
 | .obj ..=>false
 | _=>true
def nofs:List D->Bool
 | []=>true
 | x::xs=>nof x&&nofs xs
end
def thawD (i C:Nat) (x:Str) (F:R->Option D):R->Option D:=fun ρ=>match vAt i ρ with
 | some (.obj k a ks ds)=>match keyD ks ds x with
  | some (.obj 0 l ls es)=>if k=C+2/\nobBut i ρ=true/\nobs es=true/\nobs (putD ks ds x .non).2=true then (F (ρ.set i (some (.obj k a (putD ks ds x (.fro es)).1 (putD ks ds x (.fro es)).2)))).bind fun d=>if nof d then some d else none else none
  | _=>none
 | _=>none
def inFro (f:R->Option D):R->Option (List D):=fun ρ=>(f ρ).bind fun x=>match x with
 | .fro es=>some es
 | _=>none
end HW
namespace HW
open PySem
def NewS (i:Nat) (mk:List D->Nat->Nat->Option D) (ds:List D) (w:MU) (S:List Nat) (ρ:R) (r:D):Prop:=∀ a l,a≠l->a∉S->l∉S->∃ ob ρ',mk ds a l=some ob/\w (a::l::S) (ρ.set i (some ob))=some (.rt r ρ')
theorem fresh2 (S:List Nat):∃ a l:Nat,a≠l/\a∉S/\l∉S:=by
 have h:∀ S:List Nat,∃ n,∀ x∈S,x<n:=fun S=>by
  induction S with
  | nil=>exact ⟨0,fun _ h=>by cases h⟩
  | cons y S ih =>
   obtain ⟨n,hn⟩:=ih
   refine ⟨n+y+1,fun x hx=>?_⟩
   rcases List.mem_cons.mp hx with rfl | hx
   ·omega
   ·have:=hn x hx;omega
 obtain ⟨n,hn⟩:=h S
 exact ⟨n,n+1,by omega,fun z=>by have:=hn _ z;omega,fun z=>by have:=hn _ z;omega⟩
theorem NewS.uniq {i:Nat} {mk:List D->Nat->Nat->Option D} {ds:List D} {w:MU} {S:List Nat} {ρ:R} {r r':D} (h:NewS i mk ds w S ρ r) (h':NewS i mk ds w S ρ r'):r=r':=by
 obtain ⟨a,l,h1,h2,h3⟩:=fresh2 S
 obtain ⟨ob,ρ1,e1,e2⟩:=h a l h1 h2 h3
 obtain ⟨pb,ρ2,f1,f2⟩:=h' a l h1 h2 h3
 rw [e1] at f1;cases f1
 rw [e2] at f2
 exact (MO.rt.inj (Option.some.inj f2)).1
def mMk (i:Nat) (mk:List D->Nat->Nat->Option D) (F:R->Option (List D)) (w:MU):MU:=fun S ρ=>(F ρ).bind fun ds=>open Classical in
 if h:i<ρ.length/\∃ r,NewS i mk ds w S ρ r then some (.rt h.2.choose []) else none
theorem mMk_of {i:Nat} {mk:List D->Nat->Nat->Option D} {F:R->Option (List D)} {w:MU} {S:List Nat} {ρ:R} {ds:List D} {r:D} (h1:F ρ=some ds) (hi:i<ρ.length) (h2:NewS i mk ds w S ρ r):mMk i mk F w S ρ=some (.rt r []):=by
 unfold mMk
 have q:i<ρ.length/\∃ r,NewS i mk ds w S ρ r:=⟨hi,r,h2⟩
 rw [h1,Option.bind_some,dif_pos q]
 exact congrArg (fun x=>some (MO.rt x [])) (NewS.uniq q.2.choose_spec h2)
theorem mMk_is {i:Nat} {mk:List D->Nat->Nat->Option D} {F:R->Option (List D)} {w:MU} {S:List Nat} {ρ:R} {o:MO} (h:mMk i mk F w S ρ=some o):∃ ds r,F ρ=some ds/\i<ρ.length/\o=.rt r []/\NewS i mk ds w S ρ r:=by
 unfold mMk at h
 cases e:F ρ with
 | none=>rw [e] at h;cases h
 | some ds =>
  rw [e,Option.bind_some] at h
  split at h
  ·rename_i q
   cases h
   exact ⟨ds,_,rfl,q.1,rfl,q.2.choose_spec⟩
  ·cases h
def New1 (mk:List D->Nat->Nat->Option D) (G:List D->Option D) (ds:List D) (r:D):Prop:=∀ a l,a≠l->∃ ob,mk ds a l=some ob/\G [ob]=some r
def callN (mk:List D->Nat->Nat->Option D) (G:List D->Option D) (F:R->Option (List D)):R->Option D:=fun ρ=>(F ρ).bind fun ds=>open Classical in
 if h:∃ r,New1 mk G ds r then some h.choose else none
theorem callN_of {mk:List D->Nat->Nat->Option D} {G:List D->Option D} {F:R->Option (List D)} {ρ:R} {ds:List D} {r:D} (h1:F ρ=some ds) (h2:New1 mk G ds r):callN mk G F ρ=some r:=by
 unfold callN
 have q:∃ r,New1 mk G ds r:=⟨r,h2⟩
 rw [h1,Option.bind_some,dif_pos q]
 obtain ⟨ob,e1,e2⟩:=q.choose_spec 0 1 (by decide)
 obtain ⟨pb,f1,f2⟩:=h2 0 1 (by decide)
 rw [e1] at f1;cases f1
 exact e2.symm.trans f2
theorem callN_is {mk:List D->Nat->Nat->Option D} {G:List D->Option D} {F:R->Option (List D)} {ρ:R} {d:D} (h:callN mk G F ρ=some d):∃ ds,F ρ=some ds/\New1 mk G ds d:=by
 unfold callN at h
 cases e:F ρ with
 | none=>rw [e] at h;cases h
 | some ds =>
  rw [e,Option.bind_some] at h
  split at h
  ·rename_i q
   cases h
   exact ⟨ds,rfl,q.choose_spec⟩
  ·cases h
end HW
namespace HW
open PySem PySem.SetTable
theorem below_go (xs:Array Nat) (j:Nat) (H:∀ a b,a<b->b<xs.size->xs.getD a 0<xs.getD b 0):∀ fuel lo hi,hi - lo<=fuel->lo<=hi->hi<=xs.size ->
  (∀ i,i<lo->xs.getD i 0<j)->(∀ i,hi<=i->i<xs.size->j<=xs.getD i 0) ->
  below.go xs j fuel lo hi<=xs.size/\(∀ i,i<below.go xs j fuel lo hi->xs.getD i 0<j)/\(∀ i,below.go xs j fuel lo hi<=i->i<xs.size->j<=xs.getD i 0):=by
 intro fuel
 induction fuel with
 | zero =>
  intro lo hi h1 h2 h3 h4 h5
  have:lo=hi:=by omega
  subst this
  exact ⟨h3,h4,h5⟩
 | succ fuel ih =>
  intro lo hi h1 h2 h3 h4 h5
  unfold below.go
  by_cases hlt:lo<hi
  ·rw [if_pos hlt]
   have hm:(lo+hi) / 2<xs.size:=by omega
   have e:xs.getD ((lo+hi) / 2) j=xs.getD ((lo+hi) / 2) 0:=by simp [Array.getD,hm]
   show (if xs.getD ((lo+hi) / 2) j<j then _ else _:Nat)<=_/\_
   dsimp only
   rw [e]
   by_cases hc:xs.getD ((lo+hi) / 2) 0<j
   ·rw [if_pos hc]
    refine ih _ _ (by omega) (by omega) h3 (fun i hi'=>?_) h5
    by_cases he:i=(lo+hi) / 2
    ·subst he;exact hc
    ·exact Nat.lt_trans (H i _ (by omega) hm) hc
   ·rw [if_neg hc]
    refine ih _ _ (by omega) (by omega) (by omega) h4 (fun i hi' hs=>?_)
    by_cases he:i=(lo+hi) / 2
    ·subst he;omega
    ·have:=H _ i (by omega:(lo+hi) / 2<i) hs;omega
  ·rw [if_neg hlt]
   have:lo=hi:=by omega
   subst this
   exact ⟨h3,h4,h5⟩
def Ris (xs:Array Nat):Prop:=∀ a b,a<b->b<xs.size->xs.getD a 0<xs.getD b 0
theorem below_spec {xs:Array Nat} (H:Ris xs) (j:Nat):below xs j<=xs.size/\(∀ i,i<below xs j->xs.getD i 0<j)/\(∀ i,below xs j<=i->i<xs.size->j<=xs.getD i 0) :=
 below_go xs j H xs.size 0 xs.size (by omega) (by omega) (by omega) (fun i h=>by omega) (fun i h h'=>by omega)
theorem below_0 {xs:Array Nat} (H:Ris xs):below xs 0=0:=by
 obtain ⟨a,b,c⟩:=below_spec H 0
 rcases Nat.eq_zero_or_pos (below xs 0) with h | h
 ·exact h
 ·have:=b 0 h;omega
theorem below_s {xs:Array Nat} (H:Ris xs) {i:Nat} (hi:i<xs.size):below xs (xs.getD i 0+1)=i+1:=by
 obtain ⟨a,b,c⟩:=below_spec H (xs.getD i 0+1)
 generalize below xs (xs.getD i 0+1)=r at *
 rcases Nat.lt_or_ge i r with h | h
 ·rcases Nat.lt_or_ge (i+1) r with h' | h'
  ·have h1:=b (i+1) h'
   have h2:=H i (i+1) (by omega) (by omega)
   omega
  ·omega
 ·have:=c i h hi;omega
structure TI (t:SetTable) (n:Nat):Prop where
 mask:t.mask=7
 dum:t.dummies=#[]
 plain:t.plain=true
 ris:Ris t.place
 size:t.place.size=n
theorem TI.fits {t:SetTable} {n:Nat} (T:TI t n) (hn:n<=7):t.fits n=true:=by
 unfold SetTable.fits SetTable.fill
 rw [T.mask,T.dum,T.size]
 simp;omega
theorem TI.fresh (led:Bool):TI (.fresh 0 0 led) 0:=⟨rfl,rfl,rfl,fun a b h hb=>absurd hb (by simp [SetTable.fresh]),rfl⟩
theorem perm_erase {α:Type}:∀ (l:List α) (i:Nat) (x:α),l[i]?=some x->(x::l.eraseIdx i).Perm l
 | [],i,x,h=>by simp at h
 | a::l,0,x,h=>by simp at h;subst h;exact .refl _
 | a::l,i+1,x,h=>by
  simp only [List.getElem?_cons_succ] at h
  simp only [List.eraseIdx_cons_succ]
  exact (List.Perm.swap _ _ _).trans ((perm_erase l i x h).cons a)
theorem pick_go {α:Type} (next:Nat->Nat):∀ (fuel k:Nat) (left:List α) (out:Array α),left.length=fuel->(pickOrder.go next fuel k left out).toList.Perm (out.toList++left)
 | 0,k,left,out,h=>by
  have:left=[]:=List.eq_nil_of_length_eq_zero h
  subst this;rw [List.append_nil];exact .refl _
 | fuel+1,k,left,out,h=>by
  unfold pickOrder.go
  have hlt:next k%left.length<left.length:=Nat.mod_lt _ (by omega)
  rw [List.getElem?_eq_getElem hlt]
  dsimp only
  refine (pick_go next fuel (k+1) _ _ (by rw [List.length_eraseIdx_of_lt hlt];omega)).trans ?_
  rw [Array.toList_push,List.append_assoc]
  exact (perm_erase left _ _ (List.getElem?_eq_getElem hlt)).append_left _
theorem pick_perm {α:Type} (next:Nat->Nat) (xs:Array α):(pickOrder next xs).toList.Perm xs.toList:=by
 unfold pickOrder
 exact pick_go next xs.size 0 xs.toList #[] (by simp)
theorem pick_size {α:Type} (next:Nat->Nat) (xs:Array α):(pickOrder next xs).size=xs.size:=by
 rw [<- Array.length_toList,(pick_perm next xs).length_eq,Array.length_toList]
end HW
namespace HW
open PySem
def zOf:Value->Int
 | .int n _=>n
 | _=>0
def SetI (b:Bool) (h:Heap) (S:Addr) (ks:List Int):Prop :=
 ∃ o es ep t,h.get? S=some o/\o.ExactSet/\o.data=.set es ep t/\(∀ e∈es.toList,∃ k tk,e=(hashInt k,Value.int k tk))/\TI t es.size/\t.led=b/\(es.toList.map fun e=>zOf e.2).Perm ks
theorem SetI.at {b:Bool} {h h':Heap} {S:Addr} {ks:List Int} (x:SetI b h S ks) (e:∀ o,h.get? S=some o->h'.get? S=some o):SetI b h' S ks:=let ⟨o,es,ep,t,ho,r⟩:=x;⟨o,es,ep,t,e _ ho,r⟩
section
variable {prog:Program} {w:World} {A:Around} {E:Value->Shared->Prop} {s:Shared}
end
end HW
namespace HW
open PySem PySem.Spec PyProof.Rows
def IsSetIt (h:Heap) (it S:Addr) (slot i n ep:Nat):Prop:=∃ o,h.get? it=some o/\o.cls=.type "set_iterator" /\ o.data=.fields #[.int slot 0,.int i 0,.ref S,.int n 0,.int ep 0]
def IsSet (h:Heap) (S:Addr) (es:Array (Int×Value)) (ep:Nat) (t:SetTable):Prop:=∃ o,h.get? S=some o/\o.cls=.type "set" /\ o.data=.set es ep t
def slotAt (t:SetTable):Nat->Nat
 | 0=>0
 | i+1=>t.place.getD i 0+1
def byTxt (w:World):Bool:=w.params.followText "set-order"
structure SetOrd (w:World) (S:Addr) (es:Array (Int×Value)) (ep:Nat) (t:SetTable) (ord:Array (Int×Value)):Prop where
 fits:t.fits es.size=true
 size:ord.size=es.size
 txt:byTxt w=true->ord=pickOrder (w.params.setOrder S ep) es
 plc:byTxt w=false->ord=es/\t.led=true/\(!t.plain&&decide (es.size > 1))=false/\∀ i,i<=es.size->SetTable.below t.place (slotAt t i)=i
theorem IsSetIt.typeIs {s:Shared} {it S slot i n ep} (x:IsSetIt s.heap it S slot i n ep):s.TypeIs (.ref it) "set_iterator":=let ⟨o,ho,hc,_⟩:=x;⟨o,ho,hc⟩
theorem IsSet.typeIs {s:Shared} {S es ep t} (x:IsSet s.heap S es ep t):s.TypeIs (.ref S) "set":=let ⟨o,ho,hc,_⟩:=x;⟨o,ho,hc⟩
theorem IsSet.at {h h':Heap} {S es ep t} (x:IsSet h S es ep t) (e:∀ o,h.get? S=some o->h'.get? S=some o):IsSet h' S es ep t:=let ⟨o,ho,r⟩:=x;⟨o,e _ ho,r⟩
theorem IsSetIt.at {h h':Heap} {it S slot i n ep} (x:IsSetIt h it S slot i n ep) (e:∀ o,h.get? it=some o->h'.get? it=some o):IsSetIt h' it S slot i n ep:=let ⟨o,ho,r⟩:=x;⟨o,e _ ho,r⟩
theorem IsSet.lt {h:Heap} {S es ep t} (x:IsSet h S es ep t):S<h.objs.size:=let ⟨_,ho,_⟩:=x;Heap.lt_size ho
section
variable {prog:Program} {w:World} {A:Around} {E:Value->Shared->Prop} {s:Shared} {S:Addr} {es ord:Array (Int×Value)} {ep:Nat} {t:SetTable}
def nextOf (ord:Array (Int×Value)) (i nx:Nat):Option (Value×Nat):=(ord[i]?).map fun e=>(e.2,nx)
end
end HW
set_option maxHeartbeats 3200000
namespace HW
open PySem PySem.Spec PyProof.Rows
section
variable {prog:Program} {w:World} {A:Around} {R:Result->Shared->Prop} {I:Addr} {fp wr:List Addr} {G:Array GenState->Array GenState->Prop} {n:Nat} {P:Nat->Value->Prop} {St:Nat->Shared->Prop}
end
section
variable {prog:Program} {w:World} {A:Around} {E:Value->Shared->Prop} {s:Shared}
abbrev freshS (w:World):Obj:={cls:=.type "set",dict:=none,data:=.set #[] 0 (.fresh 0 0 (!byTxt w))}
theorem SetI.new {h:Heap} {w:World}:SetI (!byTxt w) (h.push (freshS w)) h.objs.size [] :=
 ⟨freshS w,#[],0,_,Heap.get?_push_size _ rfl,⟨rfl,rfl,rfl⟩,rfl,fun e he=>by simp at he,TI.fresh _,rfl,.refl _⟩
theorem SetI.ord {h:Heap} {S:Addr} {ks:List Int} (x:SetI (!byTxt w) h S ks) (hn:ks.length<=4) :
  ∃ es ep t ord,IsSet h S es ep t/\SetOrd w S es ep t ord/\(ord.toList.map fun e=>zOf e.2).Perm ks/\∀ e∈ord.toList,∃ k tk,e.2=Value.int k tk:=by
 obtain ⟨o,es,ep,t,ho,hex,hd,hel,hT,hled,hp⟩:=x
 have hlen:es.size=ks.length:=by rw [<- hp.length_eq,List.length_map,Array.length_toList]
 have hf:t.fits es.size=true:=hT.fits (by omega)
 have hel':∀ e∈es.toList,∃ k tk,e.2=Value.int k tk:=fun e he=>let ⟨k,tk,q⟩:=hel e he;⟨k,tk,by rw [q]⟩
 cases hb:byTxt w with
 | true =>
  have pp:=pick_perm (w.params.setOrder S ep) es
  exact ⟨es,ep,t,pickOrder (w.params.setOrder S ep) es,⟨o,ho,hex.1,hd⟩,⟨hf,pick_size _ _,fun _=>rfl,fun z=>by rw [hb] at z;cases z⟩,(pp.map _).trans hp,fun e he=>hel' e (pp.mem_iff.mp he)⟩
 | false =>
  refine ⟨es,ep,t,es,⟨o,ho,hex.1,hd⟩,⟨hf,rfl,(fun z=>by rw [hb] at z;cases z),fun _=>⟨rfl,by rw [hled,hb];rfl,by rw [hT.plain];rfl,fun i hi=>?_⟩⟩,hp,hel'⟩
  cases i with
  | zero=>exact below_0 hT.ris
  | succ i=>exact below_s hT.ris (by rw [hT.size];exact hi)
end
end HW
set_option maxHeartbeats 1000000
namespace HW
open PySem PySem.Spec PyProof.Rows L2
section
variable {X:Cx}
theorem dY {K:PySem.W.Frag} {H:Hp}:∀ {ds:List D} {ns:List Int} {xs:List V} {its:List Value},intsOf ds=some ns->Reps K H ds xs->Vals xs its->IntsAre its ns
 | [],ns,xs,its,e,r,v=>by
  cases e
  cases (show xs=[] from r)
  cases v
  exact .nil
 | .int i::ds,ns,xs,its,e,r,v=>by
  obtain ⟨ms,e1,e2⟩:=mapS (show (intsOf ds).map (i::·)=some ns from e)
  subst e2
  obtain ⟨x,xr,rfl,r1,r2⟩:=r
  cases (show x=_ from r1)
  cases v with
  | cons v1 v2 =>
   obtain ⟨t,rfl⟩:=v1
   exact .cons i t (dY e1 r2 v2)
 | .non::_,_,_,_,e,_,_=>by cases e
 | .bl _::_,_,_,_,e,_,_=>by cases e
 | .str _::_,_,_,_,e,_,_=>by cases e
 | .tup _::_,_,_,_,e,_,_=>by cases e
 | .lst _::_,_,_,_,e,_,_=>by cases e
 | .fro _::_,_,_,_,e,_,_=>by cases e
variable {sts:List Stmt}
end
end HW
namespace HW
open PySem PySem.Spec PyProof.Rows L2
section
variable {prog:Program} {w:World} {A:Around} {R':Result->Shared->Prop} {I:Addr} {fp wr:List Addr} {n:Nat} {P:Nat->Value->Prop} {St:Nat->Heap->Prop}
end
section
variable {prog:Program} {w:World} {A:Around} {E:Value->Shared->Prop} {s:Shared}
end
section
variable {X:Cx}
end
end HW
namespace HW
open PySem PySem.Spec PyProof.Rows L2
section
variable {prog:Program} {w:World} {A:Around} {E:Value->Shared->Prop} {s:Shared}
theorem draws_tuple (hh:A.handled=none) (it a:Addr) (hne:a≠it) (items:Array Value):Draws prog w A it [it,a] items.size (fun i v=>items[i]?=some v) (fun i h=>h.IsTupleIter it a i/\h.IsTuple a items) where
 live:=fun _ _ st=>let ⟨o,e,_⟩:=st.1;⟨o,e⟩
 frame:=fun _ _ _ st k=>⟨let ⟨o,e,r⟩:=st.1;⟨o,k it (by simp) o e,r⟩,let ⟨o,e,r⟩:=st.2;⟨o,k a (by simp) o e,r⟩⟩
 item:=fun i s Q E hi st hQ=>dJ st.1 st.2 (x:=items[i]) (by simp [hi]) fun h' q sb=>hQ items[i] h' s.toks (by simp [hi]) ⟨q,let ⟨o,e,r⟩:=st.2;⟨o,(sb.2 a hne).trans e,r⟩⟩ sb
 done:=fun s Q E st hE=>cS hh st.1 st.2 (by simp) hE
theorem enum_end {e it a:Addr} {i:Int} {k:Nat} {old:Value} {items:Array Value} {Q:Option Value->Shared->Prop} (hh:A.handled=none) (he:IsEnum s.heap e it i old) (hit:s.heap.IsTupleIter it a k) (hl:s.heap.IsTuple a items) (hx:items[k]?=none)
  (hQ:∀ h',Heap.ExtBut it s.heap h'->Q none {s with heap:=h' }):wpAny (model prog w) A (pyNext (.ref e)) Q E s:=by
 have hT:s.TypeIs (.ref e) "enumerate":=⟨_,he,rfl⟩
 unfold pyNext;refine wpAny_bind (wpAny_attempt (wpAny_callSpecial?_slot (name:=Str.ofString "__next__") hT PySem.F.slot_enumerate_next (wpAny_call_entry PySem.F.slot_enumerate_next hT PySem.F.entry_enumerate_next ?_ (PySem.F.args_enumerate_next_1 _))))
 show wpAny _ _ (field (.ref e) 2 >>= _) _ _ _;refine wpAny_bind (wpAny_field he rfl (x:=.ref it) rfl (wpAny_bind (cS (A:=A.in1) hh hit hl hx fun h' x k' ⟨o,ho,hc⟩=>?_)))
 exact wpAny_bind (wpAny_isInstance (T:="StopIteration") (b:=true) ⟨o,ho,hc⟩ isSubtype_stop (wpAny_pure (hQ _ k')))
def enO (h:Heap):Obj:={cls:=.type "enumerate",data:=.fields #[.none,.bool false,.ref h.objs.size,rawInt 0,.none,.none]}
theorem enum_new (a:Addr):Meets (Builtin.«enumerate.__new__» ⟨[.type "enumerate",.ref a],[]⟩) (fun _ R s=>(Src.tup a).ok s.heap/\R (.ok (.ret (.ref (s.heap.push (Src.tup a).obj).objs.size))) {s with heap:=(s.heap.push (Src.tup a).obj).push (enO s.heap)}) :=
 .of_wp fun prog w A R s h=>by
  obtain ⟨hp,g,d,tk,os⟩:=s;obtain ⟨⟨xs,q1⟩,h⟩:=h;have hsub:=sub_enumerate
  have r1:Heap.IsTuple (Shared.heap ⟨hp,g,d,tk,os⟩) a xs:=q1
  wp_walk using wpAny_pyIter_tuple r1
  refine wpAny_stack_any fun st=>wpAny_pure ?_
  split
  ·rename_i c _ _ _ _ _
   cases (c==Value.type "enumerate")<;>(wp_walk using wpAny_pyIter_tuple r1;exact ⟨_,rfl,h⟩)
  ·wp_walk using wpAny_pyIter_tuple r1;exact ⟨_,rfl,h⟩
theorem qN {a:Addr} {xs:Array Value} {Q:Value->Shared->Prop} (hT:s.heap.IsTuple a xs)
  (h:∀ h',IsEnum h' (s.heap.objs.size+1) s.heap.objs.size 0 .none->h'.IsTupleIter s.heap.objs.size a 0->(∀ b o,s.heap.get? b=some o->h'.get? b=some o)->Q (.ref (s.heap.objs.size+1)) {s with heap:=h' }) :
  wpAny (model prog w) A (call (.type "enumerate") [.ref a]) Q E s:=by
 refine callType_new PySem.F.called_enumerate (by decide) (PySem.F.typeCall_enumerate_1 _) (PySem.F.newCall_enumerate_1 _) (fun obj=>PySem.F.args_object_init_2 obj _) PySem.F.entry_enumerate_new (enum_new a) ⟨⟨xs,hT⟩,?_⟩
 have hz:(s.heap.push (Src.tup a).obj).objs.size=s.heap.objs.size+1:=Heap.size_push ..
 have he:((s.heap.push (Src.tup a).obj).push (enO s.heap)).get? (s.heap.push (Src.tup a).obj).objs.size=some (enO s.heap):=Heap.get?_push_size _ rfl
 rw [hz] at he
 show _/\_
 rw [hz]
 exact ⟨⟨_,he,rfl⟩,h _ he ⟨_,Heap.get?_push_of_some _ (Heap.get?_push_size _ rfl),rfl,rfl⟩ fun b o y=>Heap.get?_push_of_some _ (Heap.get?_push_of_some _ y)⟩
end
def Ite (K:PySem.W.Frag) (a:Addr):It:=⟨fun i H=>∃ xs v,SqT K H a xs/\xs[i]?=some v,
 fun i H x H'=>∃ b v,x=.ref b/\H b=none/\H'=upd H b (.tup [.int (i:Int),v])/\∀ xs,SqT K H a xs->xs[i]?=some v,fun i H=>∃ xs,SqT K H a xs/\xs.length<=i⟩
theorem turn_enum {P:Program} {w:World} {K:PySem.W.Frag} {es:List Expr} {x1:_} {tp:Pos} {e it a:Addr} (hne:e≠it) :
  Turn P w K (.Tuple es x1 tp) (Ite K a) [e,it] e (fun i h=>(∃ old,IsEnum h e it (i:Int) old)/\h.IsTupleIter it a i) where
 mem:=List.mem_cons_self
 obj:=fun i h ⟨⟨old,q1⟩,q2⟩ b hb=>by
  rcases List.mem_cons.mp hb with rfl | hb
  ·exact ⟨_,q1,fun v z=>nomatch (show Data.fields _=Data.cell v from z)⟩
  ·cases (List.mem_singleton.mp hb)
   obtain ⟨o,q,c,d⟩:=q2
   exact ⟨o,q,fun v z=>by rw [d] at z;cases z⟩
 keep:=fun i h h' ⟨⟨old,q1⟩,q2⟩ k=>⟨⟨old,k _ (by simp) _ q1⟩,let ⟨o,q,r⟩:=q2;⟨o,k _ (by simp) o q,r⟩⟩
 item:=by
  rintro X rfl rfl rfl hc i pins s σ H E I hf ⟨⟨old,he⟩,hit⟩ ⟨xs,v,hq,hx⟩
  obtain ⟨its,rv,p,hz⟩:=I.tuple hq
  obtain ⟨u,hu,ru⟩:=rv.get hx
  obtain ⟨f0,f1,f2,f3,f4,f5⟩:=hf e (by simp)
  obtain ⟨g0,g1,g2,g3,g4,g5⟩:=hf it (by simp)
  have hai:a≠it:=fun z=>by
   obtain ⟨o,q,c,_⟩:=hit
   obtain ⟨o',q',c',_⟩:=p
   rw [z,q] at q'
   cases q'
   rw [c] at c'
   simp at c'
  have hea:e ∉ [it,a]:=fun z=>by
   rcases List.mem_cons.mp z with z | z
   ·exact hne z
   ·obtain ⟨o',q',c',_⟩:=p
    rw [<- List.mem_singleton.mp z,he] at q'
    cases q'
    simp at c'
  have hi:i<its.toArray.size:=by
   rw [List.size_toArray]
   exact (List.getElem?_eq_some_iff.mp hu).1
  refine wpAny_pyNext_enum_itemD (draws_tuple (prog:=X.prog) (w:=X.w) (A:=X.A.in1) (I.ok.hd hc) it a hai its.toArray) he ⟨hit,p⟩ hi hne hea fun x h' tk hP ho hst hT hsz hk=>?_
  refine ⟨_,rfl,wpAny_letOwnedTupleGo_enum (s:={s with heap:=h',toks:=tk+1}) ho fun h9 z9 s9=>?_⟩
  have hxu:x=u:=by
   have h1:its[i]?=some x:=by simpa using hP
   rw [hu] at h1
   exact (Option.some.inj h1).symm
  subst hxu
  obtain ⟨oi,hoi,ci,di⟩:=id hst.1
  obtain ⟨o0,ho0,_⟩:=id hit
  have lt:∀ {c o},s.heap.get? c=some o->c≠s.heap.objs.size:=fun q=>Nat.ne_of_lt (Heap.lt_size q)
  have hn:H s.heap.objs.size=none:=I.hok.fresh (Nat.le_refl _)
  generalize hh1:s.heap.update it (fun _=>oi)=h1
  have k1:∀ b o,b≠it->s.heap.get? b=some o->h1.get? b=some o:=fun b o n q=>by rw [<- hh1];exact (Heap.get?_update_other _ _ (Ne.symm n)).trans q
  have k1':∀ b o,b≠it->h1.get? b=some o->s.heap.get? b=some o:=fun b o n q=>by rw [<- hh1,Heap.get?_update_other _ _ (Ne.symm n)] at q;exact q
  have hz1:h1.objs.size=s.heap.objs.size:=by rw [<- hh1,Heap.size_update]
  have J1:L2.Inv X pins σ H {s with heap:=h1,toks:=tk+1}:=I.turned (t':=tk+1) k1 g0 g1 g3 g4 g5
  have J2:L2.Inv X pins σ (upd H h1.objs.size (.tup [.int (i:Int),v])) {s with heap:=h1.push {cls:=.type "tuple",data:=.seq #[.int i tk,x]},toks:=tk+1} :=
   J1.laid (t':=tk+1) (fun b u q=>Heap.get?_push_of_some _ q) (Nat.le_refl _) ⟨show 2<=sizeLine by decide,[.int i tk,x],.cons ⟨tk,rfl⟩ (.cons ru .nil),⟨_,Heap.get?_push_size _ rfl,rfl,⟨_,rfl⟩,rfl⟩⟩
  have k2:∀ b o,b≠e->(h1.push {cls:=.type "tuple",data:=.seq #[.int i tk,x]}).get? b=some o->h'.get? b=some o:=fun b o n q=>by
   by_cases hb:b=h1.objs.size
   ·rw [hb,Heap.get?_push_size _ rfl] at q
    cases q
    rw [hb,hz1]
    exact hT
   ·rw [Heap.get?_push_ne _ _ _ hb] at q
    by_cases hbi:b=it
    ·rw [hbi] at q ⊢
     rw [<- hh1,Heap.get?_update_self (fun _=>oi) ho0 (Obj.isFreed_of_fields di)] at q
     cases q
     exact hoi
    ·exact hk b o n hbi (k1' b o hbi q)
  rw [hz1] at J2
  have J3:L2.Inv X pins σ (upd H s.heap.objs.size (.tup [.int (i:Int),v])) {s with heap:=h',toks:=tk+1}:=J2.turned (t':=tk+1) k2 (by rw [ar (lt he)];exact f0) f1 f3 f4 f5
  have J4:L2.Inv X pins σ (upd H s.heap.objs.size (.tup [.int (i:Int),v])) {s with heap:=h9,toks:=tk+1}:=J3.turned (t':=tk+1) (fun b o n q=>s9.extBut b o n q) (by rw [ar (lt he)];exact f0) f1 f3 f4 f5
  refine ⟨.ref s.heap.objs.size,_,J4,rfl,⟨_,v,rfl,hn,rfl,fun ys hy=>by rw [I.tuple_inj hy hq];exact hx⟩,⟨⟨x,by simpa using z9⟩,⟨oi,s9.extBut _ _ (Ne.symm hne) hoi,ci,di⟩⟩,fun b hb=>?_⟩
  have lv:∃ o,s.heap.get? b=some o:=by
   rcases List.mem_cons.mp hb with rfl | hb
   ·exact ⟨_,he⟩
   ·cases (List.mem_singleton.mp hb)
    exact ⟨_,ho0⟩
  obtain ⟨o,q⟩:=lv
  rw [ar (lt q)]
  exact (hf b hb).1
 done:=by
  rintro X rfl rfl rfl hc i pins s σ H E I hf ⟨⟨old,he⟩,hit⟩ ⟨xs,hq,hx⟩
  obtain ⟨its,rv,p,hz⟩:=I.tuple hq
  obtain ⟨g0,g1,g2,g3,g4,g5⟩:=hf it (by simp)
  have hl:=rv.length
  exact enum_end (I.ok.hd hc) he hit p (by simp;omega) fun h' k=>⟨rfl,I.turned (t':=s.toks) k g0 g1 g3 g4 g5⟩
 self:=fun _ _ _ _ _ ⟨⟨_,q⟩,_⟩ h=>wpAny_pyIter_enum q h
section
variable {X:Cx}
end
end HW
namespace HW
open PySem PySem.Spec PyProof.Rows L2
section
variable {X:Cx}
end
end HW
namespace HW
open PySem PySem.Spec PyProof.Rows L2
section
variable {X:Cx}
end
abbrev Fn4 (K:PySem.W.Frag) (n:Str) (st:Stmt) (f:Addr):Prop:=∃ (oc:Value) (od an:Option Addr) (sl:Array (Option Value)) (kV dc pm cd ct:Value),PySem.W.nsIn K mainGlobals n=some (some (.ref f)) /\
 K.lookup f=some ⟨oc,od,.func (PySem.W.fnOf n n (defArgs st) (defBody st) (defScope st) .none kV dc pm an cd ct),sl⟩/\PySem.W.codeIn K cd n=true/\PySem.W.keepIn K (.ref f)=true
theorem fn4 {K:PySem.W.Frag} {n:Str} {st:Stmt} {f:Addr} (h:Fn4 K n st f):∃ fd,Fun K n n st f fd/\PySem.W.nsIn K mainGlobals n=some (some (.ref f)):=by
 obtain ⟨oc,od,an,sl,kV,dc,pm,cd,ct,a,l,c,k⟩:=h
 exact ⟨_,oV l c k,a⟩
theorem fn4_mk {K:PySem.W.Frag} {n:Str} {st:Stmt} {f:Addr} {oc:Value} {od an:Option Addr} {sl:Array (Option Value)} {kV dc pm cd ct:Value} (a:PySem.W.nsIn K mainGlobals n=some (some (.ref f)))
  (l:K.lookup f=some ⟨oc,od,.func (PySem.W.fnOf n n (defArgs st) (defBody st) (defScope st) .none kV dc pm an cd ct),sl⟩) (c:PySem.W.codeIn K cd n=true) (k:PySem.W.keepIn K (.ref f)=true):Fn4 K n st f:=⟨oc,od,an,sl,kV,dc,pm,cd,ct,a,l,c,k⟩
theorem Cal.m {P:Program} {w:World} {K:PySem.W.Frag} {mg:Str->Option Value} {base:Heap} {j k:Nat} {x:Str} {ps:List Str} {F:List D->Option D} (h:Cal P w K mg base j x ps F) (hk:j<=k:=by decide):Cal P w K mg base k x ps F:=h.mono hk
end HW
namespace HW
open PySem PySem.Spec PyProof.Rows L2
section
variable {X:Cx} {pos p:Pos} {e:Expr} {es:List Expr} {k i:Nat} {f c':Addr} {G:List D->Option D} {F:R->Option (List D)} {name qual:Str} {params:Arguments} {body:Expr} {scope:Scope} {cl:List (Str×Addr)} {pm ctv:Value} {ps:List Str}
end
end HW
namespace HW
open PySem PySem.Spec PyProof.Rows L2
section
variable {X:Cx} {pins:List (Addr×Obj)} {σ:L2.St} {H:Hp} {s:Shared} {pos:Pos}
end
end HW
namespace HW
open PySem PySem.Spec PyProof.Rows L2
end HW
namespace HW
open PySem PySem.Spec PyProof.Rows L2
section
variable {X:Cx} {pins:List (Addr×Obj)} {σ:L2.St} {H Hp':Hp} {s:Shared} {pos:Pos}
structure OwnC (X:Cx) (cl:List (Str×Addr)):Prop where
 fn:∀ x,X.fn x=true
 ndc:(cl.map (·.1)).Nodup
 of:∀ x c,cl.lookup x=some c->X.env.cells.lookup x=some c/\X.env.scope.names.lookup x=some .cell
theorem OwnC.lk {cl:List (Str×Addr)} (o:OwnC X cl):∀ b,isC cl b=true->∃ x,X.env.cells.lookup x=some b:=fun b hb=>by
 obtain ⟨p,hp,e⟩:=List.any_eq_true.mp hb
 exact ⟨p.1,(o.of p.1 b (lookup_nd o.ndc (by rw [<- eq_of_beq e];exact hp))).1⟩
end
end HW
namespace HW
open PySem PySem.Spec PyProof.Rows L2
def MutK:Option HO->Prop
 | some (.ins _ _ _)=>True
 | some (.dK _)=>True
 | some (.frz _ (.own _))=>True
 | _=>False
def KqS (S:List Nat) (H H':Hp):Prop:=∀ b u,b∉S->H b=some u->H' b=some u
def MutS (S:List Nat) (H:Hp):Prop:=∀ b∈S,MutK (H b)
section
variable {S T:List Nat} {H H' H1 H2:Hp} {K:PySem.W.Frag}
theorem KqS.of (h:Same H H'):KqS S H H':=fun b u _ e=>h b u e
theorem KqS.refl:KqS S H H:=fun _ _ _ e=>e
theorem KqS.trans (h:KqS S H H1) (k:KqS S H1 H2):KqS S H H2:=fun b u n e=>k b u n (h b u n e)
theorem KqS.mono (h:KqS S H H') (hs:∀ b∈S,b∈T):KqS T H H':=fun b u n e=>h b u (fun z=>n (hs b z)) e
theorem MutS.same (m:MutS S H) (s:Same H H'):MutS S H':=fun b hb=>by
 have h:=m b hb
 cases e:H b with
 | none=>rw [e] at h;exact h.elim
 | some u=>rw [s b u e];rw [e] at h;exact h
theorem MutS.nin {a:Nat} {u:HO} (m:MutS S H) (e:H a=some u) (n:¬ MutK (some u)):a∉S:=fun z=>n (by have:=m a z;rw [e] at this;exact this)
theorem KqS.tup {a:Addr} {xs:List V} (m:MutS S H) (s:KqS S H H') (h:SqT K H a xs):SqT K H' a xs:=by
 rcases h with (h | ⟨o,h⟩) | h
 ·exact .inl (.inl (s _ _ (m.nin h fun z=>z) h))
 ·exact .inl (.inr ⟨o,s _ _ (m.nin h fun z=>z) h⟩)
 ·exact .inr h
theorem KqS.seq {a:Addr} {xs:List V} (m:MutS S H) (s:KqS S H H') (h:SqL K H a xs):SqL K H' a xs:=by
 rcases h with (h | ⟨o,h⟩) | h
 ·exact .inl (.inl (s _ _ (m.nin h fun z=>z) h))
 ·exact .inl (.inr ⟨o,s _ _ (m.nin h fun z=>z) h⟩)
 ·exact .inr h
end
mutual
theorem Rep.kq {S:List Nat} {K:PySem.W.Frag} {H H':Hp} (m:MutS S H) (s:KqS S H H'):∀ {d:D} {v:V},nob d=true->Rep K H d v->Rep K H' d v
 | .non,_,_,h=>h
 | .bl _,_,_,h=>h
 | .int _,_,_,h=>h
 | .str _,_,_,h=>h
 | .tup ds,_,hn,h=>by
  obtain ⟨a,xs,e,q,r⟩:=h
  exact ⟨a,xs,e,s.tup m q,Reps.kq m s hn r⟩
 | .lst ds,_,hn,h=>by
  obtain ⟨a,xs,e,q,r⟩:=h
  exact ⟨a,xs,e,s _ _ (m.nin q fun z=>z) q,Reps.kq m s hn r⟩
 | .fro ds,_,hn,h=>by
  obtain ⟨a,xs,e,q,r⟩:=h
  exact ⟨a,xs,e,s.seq m q,Reps.kq m s hn r⟩
 | .obj ..,_,hn,_=>by cases hn
theorem Reps.kq {S:List Nat} {K:PySem.W.Frag} {H H':Hp} (m:MutS S H) (s:KqS S H H'):∀ {ds:List D} {vs:List V},nobs ds=true->Reps K H ds vs->Reps K H' ds vs
 | [],_,_,h=>h
 | d::ds,_,hn,h=>by
  have hn':(nob d&&nobs ds)=true:=hn
  rw [Bool.and_eq_true] at hn'
  obtain ⟨v,r,e,q,t⟩:=h
  exact ⟨v,r,e,Rep.kq m s hn'.1 q,Reps.kq m s hn'.2 t⟩
end
section
variable {S T:List Nat} {H H' H1 H2:Hp} {K:PySem.W.Frag}
theorem ObH.mut {k a:Nat} {ks:List Str} {vs:List V} (h:ObH H k a ks vs):MutK (H a):=by
 match k,h with
 | 0,⟨_,_,_,_,e⟩=>rw [e];trivial
 | 1,⟨_,e⟩=>rw [e];trivial
 | C+2,⟨_,_,e⟩=>rw [e];trivial
theorem Reps.mem:∀ {ds:List D} {vs:List V} {d:D},Reps K H ds vs->d∈ds->∃ v,Rep K H d v
 | [],_,_,_,h=>by cases h
 | e::ds,vs,d,h,hd=>by
  obtain ⟨v,r,_,q,t⟩:=h
  rcases List.mem_cons.mp hd with rfl | hd
  ·exact ⟨v,q⟩
  ·exact Reps.mem t hd
theorem mutS_of {ob:D} {v:V} (r:Rep K H ob v):MutS (adr ob) H:=fun b hb=>by
 cases ob with
 | obj k a ks es =>
  obtain ⟨xs,_,q,t⟩:=r
  rcases List.mem_cons.mp hb with rfl | hb
  ·exact q.mut
  ·obtain ⟨e,he,hb⟩:=List.mem_flatMap.mp hb
   cases e with
   | obj k' a' ks' es' =>
    obtain ⟨v',xs',_,q',_⟩:=Reps.mem t he
    rw [show b=a' from List.mem_singleton.mp hb]
    exact q'.mut
   | _=>cases hb
 | _=>cases hb
theorem inS_of {as:List Nat} (h:inS S as=true):∀ b∈as,b∈S:=fun b hb=>by
 have:=List.all_eq_true.mp h b hb
 simpa using this
theorem pk {ob:D} {v:V} (h:isOb ob=true) (r:Rep K H ob v):v=.ref (adr0 ob):=by
 cases ob with
 | obj k a ks es=>obtain ⟨xs,e,_⟩:=r;exact e
 | _=>cases h
theorem sM {ρ:R} {σ:L2.St} {i:Nat} {ob':D} {v:V} (er:EnvR K H ρ σ) (m:MutS S H) (s:KqS S H H') (hn:nobBut i ρ=true) (hv:σ[i]?=some (some v)) (r:Rep K H' ob' v):EnvR K H' (ρ.set i (some ob')) σ:=by
 refine ⟨by rw [List.length_set];exact er.1,fun j d h=>?_⟩
 by_cases hj:j=i
 ·subst hj
  have hl:j<ρ.length:=by have:=(List.getElem?_eq_some_iff.mp h).1;simpa using this
  rw [List.getElem?_set_self hl] at h
  cases h
  exact ⟨v,hv,r⟩
 ·rw [List.getElem?_set_ne (Ne.symm hj)] at h
  obtain ⟨u,h1,h2⟩:=er.2 j d h
  have hd:nobO (some d)=true:=List.all_eq_true.mp hn _ (List.mem_of_getElem? (i:=j) (by rw [List.getElem?_set_ne (Ne.symm hj)];exact h))
  exact ⟨u,h1,Rep.kq m s hd h2⟩
theorem jj {ρ:R} {σ τ:L2.St} {i:Nat} {ob':D} {v:V} (er:EnvT K H ρ τ σ) (m:MutS S H) (s:KqS S H H') (hn:nobBut i ρ=true) (hv:σ[i]?=some (some v)) (r:Rep K H' ob' v):EnvT K H' (ρ.set i (some ob')) τ σ :=
 ⟨sM er.1 m s hn hv r,by rw [List.length_set];exact er.2⟩
def ObR (K:PySem.W.Frag) (H:Hp) (ρ:R):Prop:=∀ (j:Nat) (d:D),ρ[j]?=some (some d)->isOb d=true->Rep K H d (.ref (adr0 d))
theorem ObR.of {ρ:R} {σ:L2.St} (e:EnvR K H ρ σ):ObR K H ρ:=fun j d h ho=>by
 obtain ⟨v,_,r⟩:=e.2 j d h
 rw [<- pk ho r];exact r
variable (K)
def finM (E:Ends) (τ:L2.St) (o:MO) (H':Hp):Prop :=
 match o with
 | .nx ρ=>∀ σ,EnvT K H' ρ τ σ->E.nx σ H'
 | .rt d ρ=>∀ v,Rep K H' d v->ObR K H' ρ->E.rt v H'
def tMS (S:List Nat) (u:MU):TS:=fun E σ H=>∃ ρ τ o,EnvT K H ρ τ σ/\MutS S H/\u S ρ=some o/\∀ H',KqS S H H'->MutS S H'->finM K E τ o H'
def YieldsM (S:List Nat) (J:It) (ds:List D) (H:Hp):Prop :=
 (∀ (i:Nat) (d:D) (H2:Hp),KqS S H H2->ds[i]?=some d->J.go i H2/\∀ x H3,J.yld i H2 x H3->Same H2 H3/\Rep K H3 d x)/\∀ (i:Nat) (H2:Hp),KqS S H H2->ds.length<=i->J.stop i H2
def tMI (S:List Nat) (f:R->Option (List D)):L2.TI:=fun σ H W=>∃ ρ ds,EnvR K H ρ σ/\MutS S H/\f ρ=some ds/\nobs ds=true/\∀ J H',Same H H'->YieldsM K S J ds H'->W J H'
def spM (j:Nat) (G:List D->Option (D×D)):Sp:=fun vs H Q _=>∃ ds ob d o',Reps K H ds vs/\ds[j]?=some ob/\isOb ob=true/\G ds=some (d,o')/\∀ v H',KqS (adr ob) H H'->MutS (adr ob) H'->Rep K H' d v->Rep K H' o' (.ref (adr0 ob))->Q v H'
end
def MS (X:Cx) (st:Stmt) (u:MU):Prop:=∀ S,PS X st (tMS X.K S u)
def MSS (X:Cx) (sts:List Stmt) (u:MU):Prop:=∀ S,PSs X sts (tMS X.K S u)
def SIM (X:Cx) (tg iter:Expr) (f:R->Option (List D)):Prop:=∀ S,PI X tg iter (tMI X.K S f)
section
variable {X:Cx} {st:Stmt} {sts:List Stmt} {u w:MU} {pos:Pos}
theorem pureM_of {E:Ends} {σ:L2.St} {H:Hp} {K:PySem.W.Frag} {S:List Nat} {p:R->Option Out} (q:tMS K S (mPure p) E σ H):tDS K p E σ H:=by
 obtain ⟨ρ,τ,o,er,m,e,q⟩:=q
 obtain ⟨o1,e1,e⟩:=bindS e
 refine ⟨ρ,τ,o1,er,e1,fun H' s=>?_⟩
 cases o1 with
 | nx ρ2=>cases e;exact q H' (KqS.of s) (m.same s)
 | rt d=>cases e;exact fun v rv=>q H' (KqS.of s) (m.same s) v rv (ObR.of (er.mono s).1)
 | bk ρ2=>cases e
 | ct ρ2=>cases e
theorem dI {p:R->Option Out} (h:S1 X st p):MS X st (mPure p):=fun S=>PS.imp h fun E σ H z=>pureM_of z
theorem tM:MSS X [] mNext:=fun S=>pss_nil.imp fun E σ H ⟨ρ,τ,o,er,m,e,q⟩=>by
 cases e
 exact q H KqS.refl m σ er
theorem seqM_of {E:Ends} {σ:L2.St} {H:Hp} {K:PySem.W.Frag} {S:List Nat} (q:tMS K S (mSeq u w) E σ H):tMS K S u {E with nx:=tMS K S w E} σ H:=by
 obtain ⟨ρ,τ,o,er,m,e,q⟩:=q
 obtain ⟨o1,e1,e⟩:=bindS e
 refine ⟨ρ,τ,o1,er,m,e1,fun H1 k1 m1=>?_⟩
 cases o1 with
 | nx ρ2=>exact fun σ2 er2=>⟨ρ2,τ,o,er2,m1,e,fun H2 k2 m2=>q H2 (k1.trans k2) m2⟩
 | rt d ρ2=>cases e;exact q H1 k1 m1
theorem a_ (h1:MS X st u) (h2:MSS X sts w):MSS X (st::sts) (mSeq u w):=fun S=>(fg (h1 S) (h2 S)).imp fun E σ H q=>seqM_of q
theorem bA (h1:MS X st u):MSS X [st] u:=fun S=>gs (h1 S)
theorem sN {c:Expr} {s:R->Option Bool} {B1 B2:List Stmt} (hc:ST X c s) (ha:MSS X B1 u) (hb:MSS X B2 w):MS X (.If c B1 B2 pos) (mIf s u w):=fun S=>(s_ hc (ha S) (hb S)).imp fun E σ H ⟨ρ,τ,o,er,m,e,q⟩=>by
 obtain ⟨x,e1,e⟩:=bindS e
 refine ⟨ρ,x,er.1,e1,fun H1 s1=>?_⟩
 cases x with
 | true=>rw [if_pos rfl] at e ⊢;exact ⟨ρ,τ,o,er.mono s1,m.same s1,e,fun H2 k2 m2=>q H2 ((KqS.of s1).trans k2) m2⟩
 | false=>rw [if_neg Bool.false_ne_true] at e ⊢;exact ⟨ρ,τ,o,er.mono s1,m.same s1,e,fun H2 k2 m2=>q H2 ((KqS.of s1).trans k2) m2⟩
theorem nH {K:PySem.W.Frag} {S:List Nat} {H:Hp} {a:Addr} {ds:List D} {xs:List V} (m:MutS S H) (hn:nobs ds=true) (hq:SqT K H a xs) (t:Reps K H ds xs):YieldsM K S (Itt K a) ds H:=by
 refine ⟨fun i d H2 s2 e=>?_,fun i H2 s2 hl=>⟨xs,s2.tup m hq,by rw [<- t.length];exact hl⟩⟩
 obtain ⟨v,h1,h2⟩:=(Reps.kq m s2 hn t).get e
 refine ⟨⟨xs,v,s2.tup m hq,h1⟩,fun x H3 ⟨e3,y⟩=>?_⟩
 subst e3
 have:=(y xs (s2.tup m hq)).symm.trans h1
 cases this
 exact ⟨Same.refl _,h2⟩
theorem lO {K:PySem.W.Frag} {S:List Nat} {H:Hp} {a:Addr} {ds:List D} {xs:List V} (m:MutS S H) (hn:nobs ds=true) (hq:SqL K H a xs) (t:Reps K H ds xs):YieldsM K S (Itl K a) ds H:=by
 refine ⟨fun i d H2 s2 e=>?_,fun i H2 s2 hl=>⟨xs,s2.seq m hq,by rw [<- t.length];exact hl⟩⟩
 obtain ⟨v,h1,h2⟩:=(Reps.kq m s2 hn t).get e
 refine ⟨⟨xs,v,s2.seq m hq,h1⟩,fun x H3 ⟨e3,y⟩=>?_⟩
 subst e3
 have:=(y xs (s2.seq m hq)).symm.trans h1
 cases this
 exact ⟨Same.refl _,h2⟩
theorem nq {K:PySem.W.Frag} {S:List Nat} {H:Hp} {x:Str}:YieldsM K S (Its x) (chars x) H:=by
 have y:∀ H,Yields K (Its x) (chars x) H:=fun H=>j3
 exact ⟨fun i d H2 _ e=>(y H2).1 i d H2 (Kp.refl H2) e,fun i H2 _ hl=>(y H2).2 i H2 (Kp.refl H2) hl⟩
theorem jh {tg a:Expr} {f:R->Option D} (ha:SE X a f):SIM X tg a (inSeq f):=fun S=>(qa ha).imp fun σ H W ⟨ρ,ds,er,m,e,hn,q⟩=>by
 obtain ⟨x,e1,e⟩:=bindS e
 refine ⟨ρ,x,er,e1,fun v H1 s1 r1=>?_⟩
 have m1:=m.same s1
 cases x with
 | tup xs =>
  cases e
  obtain ⟨a,vs,ev,hq,t⟩:=r1
  exact .inl ⟨a,ev,.inr ⟨⟨vs,hq⟩,q _ H1 s1 (nH m1 hn hq t)⟩⟩
 | lst xs =>
  cases e
  obtain ⟨a,vs,ev,hq,t⟩:=r1
  exact .inl ⟨a,ev,.inl ⟨⟨vs,SqL.of hq⟩,q _ H1 s1 (lO m1 hn (SqL.of hq) t)⟩⟩
 | str z =>
  dsimp only at e
  split at e
  ·rename_i hz
   cases e
   cases (show v=_ from r1)
   exact .inr ⟨z,rfl,hz,q _ H1 s1 nq⟩
  ·cases e
 | _=>cases e
theorem ju {tg iter:Expr} {B:List Stmt} {it:R->Option (List D)} {stf:D->R->Option R} (hp:PassesOwn (model X.prog X.w) X.A X.env X.xe) (hc:X.calm=true) (hi:SIM X tg iter it) (hg:SG X tg stf) (hb:MSS X B u)
  (hs:∀ x,foldedSetIterable iter X.env x=pure x:=by intro _;rfl):MS X (.For tg iter B [] pos) (mFor it stf u):=fun S=>(oZ hp hc (hi S) hg (hb S) hs).imp fun E σ H ⟨ρ,τ,o,er,m,e,q⟩=>by
 obtain ⟨ds,e1,e⟩:=bindS e
 split at e
 case isFalse=>cases e
 case isTrue hn =>
 refine ⟨ρ,ds,er.1,m,e1,hn,fun J H1 s1 y=>?_⟩
 refine ⟨fun i n σ' H'=>n=ds.length - i/\i<=ds.length/\KqS S H1 H'/\MutS S H'/\∃ ρ',EnvT X.K H' ρ' τ σ'/\forM stf u S (ds.drop i) ρ'=some o,⟨ds.length,by simp,Nat.zero_le _,KqS.refl,m.same s1,ρ,er.mono s1,by simpa using e⟩,?_⟩
 rintro i n σ' H' ⟨rfl,hi,s2,m2,ρ',er',e'⟩
 by_cases hlt:i<ds.length
 ·refine .inr ?_
  have hd:ds[i]?=some ds[i]:=by simp [hlt]
  obtain ⟨hgo,hy⟩:=y.1 i ds[i] H' s2 hd
  rw [List.drop_eq_getElem_cons hlt] at e'
  obtain ⟨ρ1,e2,e'⟩:=bindS e'
  obtain ⟨o1,e3,e'⟩:=bindS e'
  refine ⟨hgo,fun σ2 H2=>i+1<=ds.length/\KqS S H1 H2/\MutS S H2/\∃ ρ',EnvT X.K H2 ρ' τ σ2/\forM stf u S (ds.drop (i+1)) ρ'=some o,fun σ2 H2 n2=>⟨ds.length - (i+1),by omega,rfl,n2.1,n2.2⟩,fun x H3 yx=>?_⟩
  obtain ⟨s3,rx⟩:=hy x H3 yx
  refine ⟨ρ',τ,ds[i],ρ1,er'.mono s3,rx,e2,fun σ4 H4 s4 er4=>⟨ρ1,τ,o1,er4,(m2.same s3).same s4,e3,fun H5 s5 m5=>?_⟩⟩
  have s15:KqS S H1 H5:=s2.trans ((KqS.of s3).trans ((KqS.of s4).trans s5))
  cases o1 with
  | nx ρ2=>exact fun σ6 er6=>⟨hlt,s15,m5,ρ2,er6,e'⟩
  | rt d ρ2=>cases e';exact q H5 ((KqS.of s1).trans s15) m5
 ·have e4:i=ds.length:=by omega
  subst e4
  rw [List.drop_length] at e'
  cases e'
  exact .inl ⟨y.2 _ H' s2 (Nat.le_refl _),q H' ((KqS.of s1).trans s2) m2 σ' er'⟩
end
end HW
namespace HW
open PySem PySem.Spec PyProof.Rows L2
section
variable {K:PySem.W.Frag} {H H':Hp}
theorem keyD_at {x:Str} {d:D}:∀ {ks:List Str} {ds:List D} {vs:List V},keyD ks ds x=some d->Reps K H ds vs->ks.length=vs.length->∃ v,(ks.zip vs).lookup x=some v/\Rep K H d v
 | [],_,_,e,_,_=>by cases e
 | k::ks,[],_,e,_,_=>by cases e
 | k::ks,c::ds,vs,e,r,hl=>by
  obtain ⟨v,vr,rfl,r1,r2⟩:=r
  have e':(if k=x then some c else keyD ks ds x)=some d:=e
  show ∃ u,List.lookup x ((k,v)::ks.zip vr)=some u/\Rep K H d u
  by_cases h:k=x
  ·subst h
   rw [if_pos rfl] at e'
   cases e'
   exact ⟨v,by simp,r1⟩
  ·rw [if_neg h] at e'
   obtain ⟨u,h1,h2⟩:=keyD_at e' r2 (by simpa using hl)
   refine ⟨u,?_,h2⟩
   rw [List.lookup_cons]
   have hb:(x==k)=false:=beq_eq_false_iff_ne.mpr (Ne.symm h)
   rw [hb];exact h1
theorem key_none {x:Str}:∀ {ks:List Str} {vs:List V},ks.contains x=false->(ks.zip vs).lookup x=none
 | [],_,_=>rfl
 | k::ks,[],_=>rfl
 | k::ks,v::vs,h=>by
  have h':(x==k||ks.contains x)=false:=by simpa [List.contains_cons] using h
  rw [Bool.or_eq_false_iff] at h'
  show List.lookup x ((k,v)::ks.zip vs)=none
  rw [List.lookup_cons,h'.1]
  exact key_none h'.2
theorem putD_at {x:Str} {e:D} {y:V}:∀ {ks:List Str} {ds:List D} {vs:List V},ks.length=vs.length->ds.length=vs.length->∃ vs',putF x y (ks.zip vs)=(putD ks ds x e).1.zip vs'/\(putD ks ds x e).1.length=vs'.length/\(Reps K H' ds vs->Rep K H' e y->Reps K H' (putD ks ds x e).2 vs')
 | [],[],[],_,_=>⟨[y],rfl,rfl,fun _ r=>⟨y,[],rfl,r,rfl⟩⟩
 | k::ks,d::ds,v::vs,h1,h2=>by
  obtain ⟨vs',a,b,c⟩:=putD_at (x:=x) (e:=e) (y:=y) (ks:=ks) (ds:=ds) (vs:=vs) (by simpa using h1) (by simpa using h2)
  by_cases h:k=x
  ·refine ⟨y::vs,?_,?_,fun r re=>?_⟩
   ·show (if k=x then (k,y)::ks.zip vs else _)=(putD (k::ks) (d::ds) x e).1.zip _
    rw [if_pos h,putD,if_pos h];rfl
   ·rw [putD,if_pos h];simpa using h1
   ·rw [putD,if_pos h]
    obtain ⟨u,r',q,r1,r2⟩:=r
    cases q
    exact ⟨y,vs,rfl,re,r2⟩
  ·refine ⟨v::vs',?_,?_,fun r re=>?_⟩
   ·show (if k=x then _ else (k,v)::putF x y (ks.zip vs))=(putD (k::ks) (d::ds) x e).1.zip _
    rw [if_neg h,putD,if_neg h,a];rfl
   ·rw [putD,if_neg h];simpa using b
   ·rw [putD,if_neg h]
    obtain ⟨u,r',q,r1,r2⟩:=r
    cases q
    exact ⟨_,vs',rfl,r1,c r2 re⟩
 | [],_::_,[],_,h=>by cases h
 | [],_,_::_,h,_=>by cases h
 | _::_,_,[],h,_=>by cases h
 | _::_,[],_::_,_,h=>by cases h
theorem ud {a C dx:Nat} {fs:List (Str×V)} {o:HO} (ha:H a=some (.ins C dx fs)):∀ {d:D} {v:V},okN d=true->Rep K H d v->Rep K (upd H a o) d v:=by
 have m:MutS [a] H:=fun b hb=>by rw [List.mem_singleton.mp hb,ha];trivial
 have s:KqS [a] H (upd H a o):=fun b u n e=>by rw [ar fun z=>n (by rw [z];exact List.mem_singleton.mpr rfl)];exact e
 intro d v h r
 match d,h,r with
 | .obj 0 l ls es,h,⟨xs,e,⟨z,its,n,rv,q⟩,t⟩ =>
  have hla:l≠a:=fun z=>by rw [z,ha] at q;cases q
  exact ⟨xs,e,⟨z,its,n,rv,by rw [ar hla];exact q⟩,Reps.kq m s h t⟩
 | .obj (k+1) l ls es,h,_=>cases (show nob (.obj (k+1) l ls es)=true from h)
 | .non,_,r=>exact r
 | .bl _,_,r=>exact r
 | .int _,_,r=>exact r
 | .str _,_,r=>exact r
 | .tup ds,h,r=>exact Rep.kq m s (d:=.tup ds) h r
 | .lst ds,h,r=>exact Rep.kq m s (d:=.lst ds) h r
 | .fro ds,h,r=>exact Rep.kq m s (d:=.fro ds) h r
theorem oF {a C dx:Nat} {fs:List (Str×V)} {o:HO} (ha:H a=some (.ins C dx fs)):∀ {ds:List D} {vs:List V},ds.all okN=true->Reps K H ds vs->Reps K (upd H a o) ds vs
 | [],_,_,r=>r
 | d::ds,_,h,r=>by
  rw [List.all_cons,Bool.and_eq_true] at h
  obtain ⟨v,vr,e,r1,r2⟩:=r
  exact ⟨v,vr,e,ud ha h.1 r1,oF ha h.2 r2⟩
theorem oa {d:D} (h:nob d=true):adr1 d=[]:=by cases d<;>first | rfl | cases h
end
section
variable {X:Cx} {pos:Pos}
theorem cR {a:Expr} {f:Str} {C:Nat} {g:R->Option D} (c:Cls X.K C) (n:NoAttr X.K C f) (ha:SE X a g) (hb:attributeBase a f X.env (eval a X.env)=eval a X.env:=by rfl):SE X (.Attribute a f pos) (op1 (fldD C f) g):=(qc ha hb).imp fun σ H Q ⟨ρ,d,er,e,q⟩=>by
 obtain ⟨x,e1,e⟩:=bindS e
 refine ⟨ρ,x,er,e1,fun v H1 s1 r1=>?_⟩
 cases x with
 | obj k a ks ds =>
  have e':(if k=C+2 then keyD ks ds f else none)=some d:=e
  split at e'
  ·rename_i hk
   subst hk
   obtain ⟨xs,ev,⟨hl,dx,hH⟩,t⟩:=r1
   obtain ⟨u,h1,h2⟩:=keyD_at e' t hl
   exact ⟨a,C,dx,_,u,ev,hH,c,n,h1,q u H1 s1 h2⟩
  ·cases e'
 | _=>cases e
theorem fU {x f:Str} {value:Expr} {g:R->Option D} {C:Nat} {px pos':Pos} (i:Nat) (c:Cls X.K C) (n:NoAttr X.K C f) (he:SE X value g) (hN:X.N[i]?=some x:=by rfl) (hv:Vis X.env.scope x:=by first | exact Or.inl rfl | exact Or.inr (Or.inl rfl) | exact Or.inr (Or.inr rfl))
  (hd:(x==("__debug__" : Str))=false:=by decide) (hcd:(x==("__classdict__" : Str))=false:=by decide) (hs:swapsWith value (some (.Attribute (.Name x px) f pos')) pos.line X.env=pure false:=by rfl):MS X (.Assign [.Attribute (.Name x px) f pos'] value pos) (mFld i C f g):=fun S =>
 (sy (pv i hN hv hd hcd) he hs).imp fun E σ H ⟨ρ,τ,o,er,m,e,q⟩=>by
  obtain ⟨d,e1,e⟩:=bindS e
  refine ⟨ρ,d,er.1,e1,fun y H1 s1 ry=>?_⟩
  split at e
  case h_2=>cases e
  case h_1 k a ks ds hat =>
  split at e
  case isFalse=>cases e
  case isTrue hc =>
  obtain ⟨rfl,h1,h2,h3,h4,h5,h6⟩:=hc
  cases e
  obtain ⟨v,hσ,rv⟩:=(er.mono s1).1.at hat
  obtain ⟨xs,ev,⟨hl,dx,hH⟩,t⟩:=rv
  subst ev
  have hdl:ds.length=xs.length:=t.length
  refine ⟨.ref a,hσ,a,C,dx,_,rfl,hH,c,n,?_,?_⟩
  ·rw [List.length_zip];omega
  have ma:MutS [a] H1:=fun b hb=>by rw [List.mem_singleton.mp hb,hH];trivial
  generalize ho:HO.ins C dx (putF f y (ks.zip xs))=o'
  have kq:KqS [a] H1 (upd H1 a o'):=fun b u nb eb=>by rw [ar fun z=>nb (by rw [z];exact List.mem_singleton.mpr rfl)];exact eb
  obtain ⟨vs',p1,p2,p3⟩:=putD_at (K:=X.K) (H':=upd H1 a o') (x:=f) (e:=d) (y:=y) (ks:=ks) (ds:=ds) (vs:=xs) hl hdl
  have rob:Rep X.K (upd H1 a o') (.obj (C+2) a (putD ks ds f d).1 (putD ks ds f d).2) (.ref a):=by
   refine ⟨vs',rfl,⟨p2,dx,?_⟩,p3 (oF hH h5 t) (Rep.kq ma kq h1 ry)⟩
   rw [ax,<- ho,p1]
  have hin:=inS_of h3
  have haS:a∈S:=hin a (List.mem_cons_self ..)
  have kqS:KqS S H1 (upd H1 a o'):=kq.mono fun b hb=>by rw [List.mem_singleton.mp hb];exact haS
  have m1:=m.same s1
  have mS:MutS S (upd H1 a o'):=fun b hb=>by
   by_cases hba:b=a
   ·rw [hba,ax,<- ho];trivial
   ·rw [ar hba];exact m1 b hb
  exact q _ ((KqS.of s1).trans kqS) mS σ (jj (er.mono s1) m1 kqS h2 hσ rob)
section
variable {pins:List (Addr×Obj)} {σ:L2.St} {H:Hp} {s:Shared} {a:Addr} {xs:List V} {its:List Value} {n:Nat}
theorem frz_lst (I:L2.Inv X pins σ H s) (h:H a=some (.frz {cls:=.type "list",data:=.seq its.toArray n} (.own 0))) (r:Vals xs its) (z:xs.length<=sizeLine):L2.Inv X pins σ (upd H a (.lst xs)) s:=by
 have e:=(I.hok a _ h).1
 have:=I.write (t':=s.toks) (h':=s.heap) (o:=.lst xs) (x:=a) (e:=a) (by rw [h];trivial) (.inl rfl) (fun _ _ _ q=>q) ⟨_,e⟩ ⟨z,its,n,r,e⟩
 exact this
theorem lst_frz (I:L2.Inv X pins σ H s) (h:H a=some (.lst xs)):∃ (its:List Value) (n:Nat),Vals xs its/\xs.length<=sizeLine/\L2.Inv X pins σ (upd H a (.frz {cls:=.type "list",data:=.seq its.toArray n} (.own 0))) s:=by
 obtain ⟨z,its,n,r,e⟩:=I.hok a _ h
 have:=I.write (t':=s.toks) (h':=s.heap) (o:=.frz {cls:=.type "list",data:=.seq its.toArray n} (.own 0)) (x:=a) (e:=a) (by rw [h];trivial) (.inl rfl) (fun _ _ _ q=>q) ⟨_,e⟩ ⟨e,⟨_,e⟩⟩
 exact ⟨its,n,r,z,this⟩
end
end
end HW
namespace HW
open PySem PySem.Spec PyProof.Rows L2
section
variable {K:PySem.W.Frag} {H H':Hp}
theorem Reps.kqf (kq:∀ {d:D} {v:V},nob d=true->Rep K H d v->Rep K H' d v):∀ {ds:List D} {vs:List V},nobs ds=true->Reps K H ds vs->Reps K H' ds vs
 | [],_,_,r=>r
 | d::ds,_,h,r=>by
  have h':(nob d&&nobs ds)=true:=h
  rw [Bool.and_eq_true] at h'
  obtain ⟨v,vr,e,r1,r2⟩:=r
  exact ⟨v,vr,e,kq h'.1 r1,Reps.kqf kq h'.2 r2⟩
theorem gz {x:Str} {e e':D} {y:V}:∀ {ks:List Str} {ds:List D} {vs:List V},keyD ks ds x=some e->(ks.zip vs).lookup x=some y->Reps K H ds vs->ks.length=vs.length->nobs (putD ks ds x .non).2=true ->
  (∀ {d:D} {v:V},nob d=true->Rep K H d v->Rep K H' d v)->Rep K H' e' y->(putD ks ds x e').1=ks/\Reps K H' (putD ks ds x e').2 vs
 | [],_,_,h,_,_,_,_,_,_=>by cases h
 | k::ks,[],_,h,_,_,_,_,_,_=>by cases h
 | k::ks,c::ds,vs,h,hl,r,hn,hb,kq,re=>by
  obtain ⟨v,vr,rfl,r1,r2⟩:=r
  have h':(if k=x then some c else keyD ks ds x)=some e:=h
  have hl':List.lookup x ((k,v)::ks.zip vr)=some y:=hl
  by_cases hx:k=x
  ·subst hx
   rw [putD,if_pos rfl] at hb ⊢
   have hb':(nob D.non&&nobs ds)=true:=hb
   rw [Bool.and_eq_true] at hb'
   have:v=y:=by simpa using hl'
   subst this
   exact ⟨rfl,v,vr,rfl,re,Reps.kqf kq hb'.2 r2⟩
  ·rw [if_neg hx] at h'
   rw [putD,if_neg hx] at hb ⊢
   have hb':(nob c&&nobs (putD ks ds x .non).2)=true:=hb
   rw [Bool.and_eq_true] at hb'
   have hxk:(x==k)=false:=beq_eq_false_iff_ne.mpr (Ne.symm hx)
   rw [List.lookup_cons,hxk] at hl'
   obtain ⟨g1,g2⟩:=gz h' hl' r2 (by simpa using hn) hb'.2 kq re
   exact ⟨by show k::(putD ks ds x e').1=_;rw [g1],v,vr,rfl,kq hb'.1 r1,g2⟩
end
theorem vAt_get {i:Nat} {ρ:R} {d:D} (h:vAt i ρ=some d):ρ[i]?=some (some d):=by
 have h:ρ.getD i none=some d:=h
 rw [List.getD_eq_getElem?_getD] at h
 cases e:ρ[i]? with
 | none=>rw [e] at h;cases h
 | some o=>rw [e] at h;cases o with | none=>cases h | some c=>cases h;rfl
theorem adr0_of {a b:D} (h1:isOb a=true) (h2:isOb b=true) (h:adr a=adr b):adr0 a=adr0 b:=by
 cases a with
 | obj k x ks ds =>
  cases b with
  | obj k' y ks' ds'=>exact (List.cons.inj h).1
  | _=>cases h2
 | _=>cases h1
section
variable {X:Cx} {pos:Pos}
theorem uX {x f:Str} {value:Expr} {g:R->Option D} {C:Nat} {px pf ap cp:Pos} (i:Nat) (c:Cls X.K C) (n:NoAttr X.K C f) (he:SE X value g) (hN:X.N[i]?=some x:=by rfl) (hv:Vis X.env.scope x:=by first | exact Or.inl rfl | exact Or.inr (Or.inl rfl) | exact Or.inr (Or.inr rfl))
  (hd:(x==("__debug__" : Str))=false:=by decide) (hcd:(x==("__classdict__" : Str))=false:=by decide) (hb1:attributeBase (.Name x px) f X.env (eval (.Name x px) X.env)=eval (.Name x px) X.env:=by rfl)
  (hbase:attributeBase (.Attribute (.Name x px) f pf) "append" X.env (eval (.Attribute (.Name x px) f pf) X.env)=eval (.Attribute (.Name x px) f pf) X.env:=by rfl) (hst:noStar value=true:=by rfl)
  (hline:(ap.endLine==cp.line)=true:=by rfl) (hs:swapsWith (.Call (.Attribute (.Attribute (.Name x px) f pf) "append" ap) [value] [] cp) none pos.line X.env=pure false:=by rfl) :
  MS X (.Expr (.Call (.Attribute (.Attribute (.Name x px) f pf) "append" ap) [value] [] cp) pos) (mApp i C f g):=by
 intro S pins s σ H E I ⟨ρ,τ,o,er,m,e,q⟩
 obtain ⟨d,e1,e⟩:=bindS e
 split at e
 case h_2=>cases e
 case h_1 k a ks ds hat =>
 split at e
 case h_2=>cases e
 case h_1 l ls es hkey =>
 split at e
 case isFalse=>cases e
 case isTrue hc =>
 obtain ⟨rfl,h1,h2,h3,h4,h5,h6,h7⟩:=hc
 cases e
 have hst1:=aH [] X.env hst
 obtain ⟨v,hσ,rv⟩:=er.1.at hat
 obtain ⟨xs,ev,⟨hl,dx,hH⟩,t⟩:=rv
 subst ev
 obtain ⟨y,hlk,ry⟩:=keyD_at hkey t hl
 obtain ⟨ys,ey,⟨hz,its,nn,rv,hL⟩,ty⟩:=ry
 subst ey
 refine wpAny_Expr_any (wpAny_Call_method_late hbase ?_ hline rfl (thn ((qc (pv i (pos:=px) hN hv hd hcd) hb1) pins s σ H (fun v H1=>v=.ref l/\H1=H) I ⟨.ref a,hσ,a,C,dx,_,.ref l,rfl,hH,c,n,hlk,rfl,rfl⟩) fun v s1 ⟨y,H1,I1,r1,ey,eH⟩=>?_)) I.quiet hs
 ·rw [hst1]
  rfl
 subst ey eH
 cases (show v=_ from r1)
 have eo:=(I1.hok l _ hL).1
 refine ⟨"list","list.append",PySem.F.plainAttrs_list,PySem.F.slot_list_append,PySem.F.type_list_append,⟨_,eo,rfl⟩,fun b eb=>?_,?_⟩
 ·cases eb
  exact ⟨_,eo,rfl⟩
 have hA:=(ab he ae hst).1 cp pins s1 σ H1 (fun vs H2=>Same H1 H2/\Reps X.K H2 [d] vs) I1 ⟨ρ,[d],er.1,by show (g ρ).bind _=_;rw [e1];rfl,fun vs H2 s2 r2=>⟨s2,r2⟩⟩
 rw [hst1] at hA ⊢
 refine Calls.callWith_builtin rfl (Calls.evalArgs_plain ?_)
 refine thn hA fun us s2 ⟨vs,H2,I2,r2,s12,rd⟩=>?_
 obtain ⟨w,w',rfl,rw1,rw2⟩:=rd
 cases (show w'=[] from rw2)
 have hL2:=s12 _ _ hL
 have hH2:=s12 _ _ hH
 have I3:=frz_lst I2 hL2 rv hz
 have hys:es.length=ys.length:=ty.length
 refine thn (lf pins s2 σ (upd H2 l (.lst ys)) (.ref l) [w] (.ref l) us (fun v H3=>H3=upd (upd H2 l (.lst ys)) l (.lst (ys++[w]))) I3 rfl r2 ⟨l,ys,w,rfl,rfl,ax,by rw [<- hys,sizeLine_eq];omega,rfl⟩) fun v s3 ⟨v',H3,I4,_,e3⟩=>?_
 subst e3
 obtain ⟨its',n',rv',hz',I5⟩:=lst_frz I4 ax
 generalize hH5:upd (upd (upd H2 l (.lst ys)) l (.lst (ys++[w]))) l (.frz {cls:=.type "list",data:=.seq its'.toArray n' } (.own 0))=H5 at I5
 have k25:KqS [l] H2 H5:=fun b u nb eb=>by
  have hbl:b≠l:=fun z=>nb (by rw [z];exact List.mem_singleton.mpr rfl)
  subst hH5
  rw [ar hbl,ar hbl,ar hbl];exact eb
 have hL5:H5 l=some (.frz {cls:=.type "list",data:=.seq its'.toArray n' } (.own 0)):=by subst hH5;exact ax
 have ml:MutS [l] H2:=fun b hb=>by rw [List.mem_singleton.mp hb,hL2];trivial
 have hla:a≠l:=fun z=>by rw [z,hL2] at hH2;cases hH2
 have hH5a:H5 a=some (.ins C dx (ks.zip xs)):=k25 a _ (fun z=>hla (List.mem_singleton.mp z)) hH2
 have kq:∀ {d:D} {v:V},nob d=true->Rep X.K H2 d v->Rep X.K H5 d v:=fun hn r=>Rep.kq ml k25 hn r
 have rl:Rep X.K H5 (.obj 0 l ls (es++[d])) (.ref l):=by
  refine ⟨ys++[w],rfl,⟨hz',its',n',rv',hL5⟩,?_⟩
  exact Reps.append (Reps.kq ml k25 h5 (ty.mono s12)) (Reps.one (kq h1 rw1))
 obtain ⟨g1,g2⟩:=gz hkey hlk (t.mono s12) hl h6 kq rl
 have rob:Rep X.K H5 (.obj (C+2) a (putD ks ds f (.obj 0 l ls (es++[d]))).1 (putD ks ds f (.obj 0 l ls (es++[d]))).2) (.ref a):=by
  rw [g1]
  exact ⟨xs,rfl,⟨hl,dx,hH5a⟩,g2⟩
 have hlS:l∈S:=by simpa using h7
 have kqS:KqS S H2 H5:=k25.mono fun b hb=>by rw [List.mem_singleton.mp hb];exact hlS
 have m2:=m.same s12
 have mS:MutS S H5:=fun b hb=>by
  by_cases hbl:b=l
  ·rw [hbl,hL5];trivial
  ·have hm:=m2 b hb
   cases hb2:H2 b with
   | none=>rw [hb2] at hm;exact hm.elim
   | some u=>rw [k25 b u (fun z=>hbl (List.mem_singleton.mp z)) hb2];rw [hb2] at hm;exact hm
 exact ⟨σ,H5,I5,q H5 ((KqS.of s12).trans kqS) mS σ (jj (er.mono s12) m2 kqS h2 hσ rob)⟩
structure CalM (P:Program) (w:World) (K:PySem.W.Frag) (mg:Str->Option Value) (base:Heap) (k:Nat) (x:Str) (ps:List Str) (j:Nat) (G:List D->Option (D×D)):Prop where
 ex:∃ f fd,FnOk P w K mg base CX0 k f fd ps (spM K j G)/\mg x=some (.ref f)/\PySem.W.keepIn K (.ref f)=true/\Binds K fd ps []
structure MetM (P:Program) (w:World) (K:PySem.W.Frag) (mg:Str->Option Value) (base:Heap) (k C:Nat) (m:Str) (ps:List Str) (G:List D->Option (D×D)):Prop where
 ex:∃ f fd,FnOk P w K mg base CX0 k f fd ps (spM K 0 G)/\Meth K C m f/\Binds K fd ps []
structure MetP (P:Program) (w:World) (K:PySem.W.Frag) (mg:Str->Option Value) (base:Heap) (k C:Nat) (m:Str) (ps:List Str) (G:List D->Option D):Prop where
 ex:∃ f fd,FnOk P w K mg base CX0 k f fd ps (spD K G)/\Meth K C m f/\Binds K fd ps []
theorem CalM.m {P:Program} {w:World} {K:PySem.W.Frag} {mg:Str->Option Value} {base:Heap} {k k':Nat} {x:Str} {ps:List Str} {j:Nat} {G:List D->Option (D×D)} (h:CalM P w K mg base k x ps j G) (hk:k<=k':=by decide):CalM P w K mg base k' x ps j G:=by
 obtain ⟨f,fd,a,b⟩:=h.ex
 exact ⟨f,fd,a.mono hk,b⟩
theorem MetM.m {P:Program} {w:World} {K:PySem.W.Frag} {mg:Str->Option Value} {base:Heap} {k k' C:Nat} {x:Str} {ps:List Str} {G:List D->Option (D×D)} (h:MetM P w K mg base k C x ps G) (hk:k<=k':=by decide):MetM P w K mg base k' C x ps G:=by
 obtain ⟨f,fd,a,b⟩:=h.ex
 exact ⟨f,fd,a.mono hk,b⟩
theorem MetP.m {P:Program} {w:World} {K:PySem.W.Frag} {mg:Str->Option Value} {base:Heap} {k k' C:Nat} {x:Str} {ps:List Str} {G:List D->Option D} (h:MetP P w K mg base k C x ps G) (hk:k<=k':=by decide):MetP P w K mg base k' C x ps G:=by
 obtain ⟨f,fd,a,b⟩:=h.ex
 exact ⟨f,fd,a.mono hk,b⟩
theorem fE {P:Program} {w:World} {K:PySem.W.Frag} {mg:Str->Option Value} {base:Heap} {x qual:Str} {st:Stmt} {f:Addr} {fd:FuncData} {N ps:List Str} {k j:Nat} {g:MU}
  (Fn:Fun K x qual st f fd) (Sc:FnScope N ps (defScope st))
  (hb:∀ (cdv:Value) (A:Around) (outer:List Env) (s:Shared) (H:Hp) (E:XK),Room k (A.deeper (envOfC qual (defScope st) s.heap.objs.size f cdv))->MSS (cxOf CX0 P w K mg base N qual (defScope st) f cdv A outer s H E).nox (defBody st) g) :
  FnOk P w K mg base CX0 (k+1) f fd ps (spM K j (viaM ps.length N.length j g)):=by
 refine Fn.ok Sc (fun vs H Q E h=>?_) (fun cdv A outer s H vs Q E hr h=>?_)
 ·obtain ⟨ds,ob,d,o',r,hj,ho,e,_⟩:=h
  rw [<- r.length]
  unfold viaM at e
  split at e
  ·assumption
  ·cases e
 ·obtain ⟨ds,ob,d,o',r,hj,ho,e,q⟩:=h
  unfold viaM at e
  split at e
  case isFalse=>cases e
  case isTrue hlen =>
  rw [hj,Option.bind_some,if_pos ho] at e
  obtain ⟨mo,e1,e⟩:=bindS e
  obtain ⟨v,hv,rv⟩:=r.get hj
  have ms:=mutS_of rv
  refine ⟨_,hb cdv A outer s H E hr (adr ob),beg N.length ds,_,mo,(beg_env r).t,ms,e1,fun H1 k1 m1=>?_⟩
  cases mo with
  | rt d' ρ =>
   intro v rv ob1
   obtain ⟨ob',e2,e⟩:=bindS e
   split at e
   ·rename_i hc
    obtain ⟨rfl,rfl⟩:d'=d/\ob'=o':=by simpa using e
    have hat:ρ[j]?=some (some ob'):=vAt_get e2
    have rr:=ob1 j ob' hat hc.1
    have ha:adr0 ob'=adr0 ob:=adr0_of hc.1 ho hc.2
    rw [ha] at rr
    exact q v H1 k1 m1 rv rr
   ·cases e
  | nx ρ =>
   intro σ' er'
   obtain ⟨ob',e2,e⟩:=bindS e
   split at e
   ·rename_i hc
    obtain ⟨rfl,rfl⟩:D.non=d/\ob'=o':=by simpa using e
    have hat:ρ[j]?=some (some ob'):=vAt_get e2
    have rr:=(ObR.of er'.1) j ob' hat hc.1
    have ha:adr0 ob'=adr0 ob:=adr0_of hc.1 ho hc.2
    rw [ha] at rr
    exact q .non H1 k1 m1 rfl rr
   ·cases e
end
end HW
namespace HW
open PySem PySem.Spec PyProof.Rows L2
section
variable {X:Cx} {pos:Pos}
theorem after_call {K:PySem.W.Frag} {S:List Nat} {H H1 H2:Hp} {ρ:R} {σ τ:L2.St} {i:Nat} {ob o':D} (er:EnvT K H ρ τ σ) (m:MutS S H) (hat:vAt i ρ=some ob) (ho:isOb ob=true) (hn:nobBut i ρ=true) (hin:inS S (adr ob)=true) (s1:Same H H1) (kq:KqS (adr ob) H1 H2) (m2:MutS (adr ob) H2)
  (r:Rep K H2 o' (.ref (adr0 ob))):KqS S H H2/\MutS S H2/\EnvT K H2 (ρ.set i (some o')) τ σ:=by
 have sub:=inS_of hin
 have kS:KqS S H1 H2:=kq.mono sub
 have m1:=m.same s1
 have mS:MutS S H2:=fun b hb=>by
  by_cases hba:b∈adr ob
  ·exact m2 b hba
  ·have hm:=m1 b hb
   cases e:H1 b with
   | none=>rw [e] at hm;exact hm.elim
   | some u=>rw [kq b u hba e];rw [e] at hm;exact hm
 obtain ⟨v,hσ,rv⟩:=(er.mono s1).1.at hat
 rw [pk ho rv] at hσ
 exact ⟨(KqS.of s1).trans kS,mS,jj (er.mono s1) m1 kS hn hσ r⟩
variable {x:Str} {e:Expr} {es:List Expr} {F:R->Option (List D)} {G:List D->Option (D×D)} {k j:Nat} {ps:List Str} {p:Pos}
theorem pick0 {i:Nat} {F:R->Option (List D)}:∀ ρ ds ob,argC (vAt i) F ρ=some ds->vAt i ρ=some ob->ds[0]?=some ob:=fun ρ ds ob h1 h2=>by
 obtain ⟨d,e1,e2⟩:=bindS h1
 obtain ⟨r,_,rfl⟩:=mapS e2
 rw [h2] at e1;cases e1;rfl
theorem met_core {F:R->Option (List D)} {G:List D->Option (D×D)} {S:List Nat} {i C:Nat} {mn:Str} {ρ ρ':R} {σ τ:L2.St} {H:Hp} {d:D} {Q:VK} (er:EnvT X.K H ρ τ σ) (m:MutS S H) (e:mMet i C mn G F S ρ=some (d,ρ'))
  (q:∀ v H',KqS S H H'->MutS S H'->Rep X.K H' d v->EnvT X.K H' ρ' τ σ->Q v H'):tMeth C mn (spM X.K 0 G) [] E0 (tVar i) (tDA X.K F) σ H Q:=by
 obtain ⟨ob,hat,z1⟩:=bindS e
 obtain ⟨ds,e1,z2⟩:=bindS z1
 obtain ⟨r,e2,z3⟩:=bindS z2
 clear e z1 z2
 match ob,z3 with
 | .obj kk a ks es',z3 =>
  have z4:(if kk=C+2/\ks.contains mn=false/\nobBut i ρ=true/\inS S (adr (.obj kk a ks es'))=true then some (r.1,ρ.set i (some r.2)) else none)=some (d,ρ'):=z3
  split at z4
  case isFalse=>cases z4
  case isTrue hc =>
  obtain ⟨rfl,hk,hn,hin⟩:=hc
  obtain ⟨rfl,rfl⟩:r.1=d/\ρ.set i (some r.2)=ρ':=by simpa using z4
  obtain ⟨v,hσ,rv⟩:=er.1.at hat
  have rv':=rv
  obtain ⟨xs,ev,⟨hl,dx,hH⟩,t⟩:=rv
  subst ev
  refine ⟨.ref a,hσ,a,dx,_,rfl,hH,key_none hk,ρ,ds,er.1,e1,fun vs H1 s1 r1=>?_⟩
  show spM X.K 0 G (.ref a::(vs++[])) H1 Q E0
  rw [List.append_nil]
  refine ⟨.obj (C+2) a ks es'::ds,_,r.1,r.2,⟨_,vs,rfl,rv'.mono s1,r1⟩,rfl,rfl,e2,fun v H2 kq m2 rd ro=>?_⟩
  obtain ⟨aa,b,c⟩:=after_call er m hat rfl hn hin s1 kq m2 ro
  exact q v H2 aa b rd c
variable {C:Nat} {mn:Str} {apos:Pos}
theorem hU (i:Nat) (c:Cls X.K C) (M:MetM X.prog X.w X.K X.mg X.base k C mn ps G) (hr:Room k X.A) (ha:SA X (e::es) F) {px pos':Pos} (hN:X.N[i]?=some x:=by rfl) (hv:Vis X.env.scope x:=by first | exact Or.inl rfl | exact Or.inr (Or.inl rfl) | exact Or.inr (Or.inr rfl))
    (hd:(x==("__debug__" : Str))=false:=by decide) (hcd:(x==("__classdict__" : Str))=false:=by decide) {pl:Sem Bool}
    (ht:eval (.Call (.Attribute (.Name x px) mn apos) (e::es) [] pos) X.env=(do
      let ov <- eval (.Name x px) X.env
      standAt apos.atName
      let (f,first) <- holding [ov] (getMethod ov mn pl)
      callWith pos f first (backTo pos (starEach (e::es) X.env)) (backToKw pos (keywordEach [] X.env))):=by rfl)
    (hs:swapsWith (.Call (.Attribute (.Name x px) mn apos) (e::es) [] pos) none pos'.line X.env=pure false:=by rfl):MS X (.Expr (.Call (.Attribute (.Name x px) mn apos) (e::es) [] pos) pos') (mExpr (mMet i C mn G F)):=by
  have hst:=ha.2.2
  rw [List.all_cons,Bool.and_eq_true] at hst
  have he:=aH es X.env hst.1
  have hpl:=cc (pos:=pos) (env:=X.env) hst.2
  obtain ⟨f,fd,a,hm,bd⟩:=M.ex
  refine fun S=>(jo (qt (pv i hN hv hd hcd) c hm a hr bd .nil pass0 ha.1 he hpl ht) hs).imp fun E σ H ⟨ρ,τ,o,er,m,e,q⟩=>?_
  obtain ⟨r,e1,rfl⟩:=mapS e
  exact met_core er m e1 fun v H' kq mS _ er'=>q H' kq mS σ er'
theorem ec {a:Expr} {f:R->Option D} {G:List D->Option D} (c:Cls X.K C) (M:MetP X.prog X.w X.K X.mg X.base k C mn ps G) (hr:Room k X.A) (ha:SE X a f) {pl:Sem Bool}
    (ht:eval (.Call (.Attribute a mn apos) [] [] pos) X.env=(do
      let ov <- eval a X.env
      standAt apos.atName
      let (f,first) <- holding [ov] (getMethod ov mn pl)
      callWith pos f first (backTo pos (starEach [] X.env)) (backToKw pos (keywordEach [] X.env))):=by rfl):SE X (.Call (.Attribute a mn apos) [] [] pos) (metD C mn G f argN):=by
  obtain ⟨fa,fd,F,hm,bd⟩:=M.ex
  refine (nU ha c hm F hr bd .nil pass0 ht).imp fun σ H Q ⟨ρ,d,er,e,q⟩=>?_
  obtain ⟨ob,e1,z1⟩:=bindS e
  obtain ⟨ds,e2,z2⟩:=bindS z1
  cases e2
  refine ⟨ρ,ob,er,e1,fun v H1 s1 r1=>?_⟩
  clear e z1
  match ob,z2,r1 with
  | .obj kk a ks es',z2,r1 =>
    have e:(if kk=C+2/\ks.contains mn=false then G [.obj kk a ks es'] else none)=some d:=z2
    split at e
    case isFalse=>cases e
    case isTrue hc =>
    obtain ⟨rfl,hk⟩:=hc
    have r1':=r1
    obtain ⟨xs,ev,⟨hl,dx,hH⟩,t⟩:=r1
    subst ev
    exact ⟨a,dx,_,rfl,hH,key_none hk,⟨[.obj (C+2) a ks es'],d,⟨_,[],rfl,r1',rfl⟩,e,fun u H2 s2 r2=>q u H2 (s1.trans s2) r2⟩⟩
end
end HW
namespace HW
open PySem PySem.Spec PyProof.Rows L2
theorem mkOb_is {N C:Nat} {f:Str} {g:MU} {ds:List D} {a l:Nat} {ob:D} (h:mkOb N C f g ds a l=some ob):∃ ρ ks es,g [a] (beg N (.obj (C+2) a [] []::ds))=some (.nx ρ)/\vAt 0 ρ=some (.obj (C+2) a ks es)/\nobs es=true/\ks.length<100/\ob=.obj (C+2) a (putD ks es f (.obj 0 l [] [])).1 (putD ks es f (.obj 0 l [] [])).2:=by
 obtain ⟨mo,e1,e⟩:=bindS h
 match mo,e1,e with
 | .rt d ρ,e1,e=>cases e
 | .nx ρ,e1,e =>
  have e':(match vAt 0 ρ with | some (.obj k b ks es)=>if k=C+2/\b=a/\nobs es=true/\ks.length<100 then some (D.obj k b (putD ks es f (.obj 0 l [] [])).1 (putD ks es f (.obj 0 l [] [])).2) else none | _=>none)=some ob:=e
  cases hat:vAt 0 ρ with
  | none=>rw [hat] at e';cases e'
  | some obx =>
   rw [hat] at e'
   cases obx with
   | obj kk b ks es =>
    dsimp only at e'
    split at e'
    case isFalse=>cases e'
    case isTrue hc =>
    obtain ⟨rfl,rfl,hn,hk⟩:=hc
    cases e'
    exact ⟨ρ,ks,es,e1,hat,hn,hk,rfl⟩
   | _=>cases e'
theorem mkOb_some {N C:Nat} {f:Str} {g:MU} {ds:List D} {a l:Nat} {ob:D} (h:mkOb N C f g ds a l=some ob) (l':Nat):(mkOb N C f g ds a l').isSome=true:=by
 obtain ⟨ρ,ks,es,e1,hat,hn,hk,_⟩:=mkOb_is h
 have:mkOb N C f g ds a l'=some (.obj (C+2) a (putD ks es f (.obj 0 l' [] [])).1 (putD ks es f (.obj 0 l' [] [])).2):=by
  show (g [a] (beg N (.obj (C+2) a [] []::ds))).bind _=_
  rw [e1,Option.bind_some]
  show (match vAt 0 ρ with | some (.obj k b ks es)=>if k=C+2/\b=a/\nobs es=true/\ks.length<100 then some (D.obj k b (putD ks es f (.obj 0 l' [] [])).1 (putD ks es f (.obj 0 l' [] [])).2) else none | _=>none)=_
  rw [hat]
  exact if_pos ⟨rfl,rfl,hn,hk⟩
 rw [this];rfl
theorem ld {es:List D} (h:nobs es=true):es.flatMap adr1=[]:=by
 induction es with
 | nil=>rfl
 | cons d es ih =>
  have h':(nob d&&nobs es)=true:=h
  rw [Bool.and_eq_true] at h'
  show adr1 d++es.flatMap adr1=[]
  rw [oa h'.1,ih h'.2];rfl
theorem nc {x:Str} {l:Nat}:∀ {ks:List Str} {ds:List D},nobs ds=true->(putD ks ds x (.obj 0 l [] [])).2.flatMap adr1=[l]
 | [],ds,h=>by
  have:(putD [] ds x (.obj 0 l [] [])).2=ds++[.obj 0 l [] []]:=by cases ds<;>rfl
  rw [this,List.flatMap_append,ld h];rfl
 | k::ks,[],h=>rfl
 | k::ks,c::ds,h=>by
  have h':(nob c&&nobs ds)=true:=h
  rw [Bool.and_eq_true] at h'
  by_cases hx:k=x
  ·rw [putD,if_pos hx]
   show [l]++ds.flatMap adr1=[l]
   rw [ld h'.2];rfl
  ·rw [putD,if_neg hx]
   show adr1 c++(putD ks ds x (.obj 0 l [] [])).2.flatMap adr1=[l]
   rw [oa h'.1,nc h'.2];rfl
theorem mkOb_adr {N C:Nat} {f:Str} {g:MU} {ds:List D} {a l:Nat} {ob:D} (h:mkOb N C f g ds a l=some ob):adr ob=[a,l]:=by
 obtain ⟨ρ,ks,es,_,_,hn,_,rfl⟩:=mkOb_is h
 show a::_=_
 rw [nc hn]
section
variable {X:Cx} {pos:Pos} {C:Nat} {f:Str}
def tIB (K:PySem.W.Frag) (C i:Nat) (f:Str) (g:MU):TS:=fun E σ H=>∃ ρ τ a ρ' ks es,EnvT K H ρ τ σ/\MutS [a] H/\g [a] ρ=some (.nx ρ')/\vAt i ρ'=some (.obj (C+2) a ks es)/\nobs es=true/\ks.length<100 /\
 ∀ σ' l H',H l=none->KqS [a] H H'->Rep K H' (.obj (C+2) a (putD ks es f (.obj 0 l [] [])).1 (putD ks es f (.obj 0 l [] [])).2) (.ref a)->E.nx σ' H'
def IB (X:Cx) (C i:Nat) (f:Str) (sts:List Stmt) (g:MU):Prop:=PSs X sts (tIB X.K C i f g)
theorem ib_last {x:Str} {px pos' p1:Pos} (i:Nat) (c:Cls X.K C) (n:NoAttr X.K C f) (hN:X.N[i]?=some x:=by rfl) (hv:Vis X.env.scope x:=by first | exact Or.inl rfl | exact Or.inr (Or.inl rfl) | exact Or.inr (Or.inr rfl))
  (hd:(x==("__debug__" : Str))=false:=by decide) (hcd:(x==("__classdict__" : Str))=false:=by decide) (hs:swapsWith (.List [] p1) (some (.Attribute (.Name x px) f pos')) pos.line X.env=pure false:=by rfl):IB X C i f [.Assign [.Attribute (.Name x px) f pos'] (.List [] p1) pos] mNext:=by
 refine gs (t:=tIB X.K C i f mNext) ?_
 intro pins s σ H E I ⟨ρ,τ,a,ρ',ks,es,er,m,e,hat,hn,hk,q⟩
 cases e
 obtain ⟨v,hσ,rv⟩:=er.1.at hat
 obtain ⟨xs,ev,⟨hl,dx,hH⟩,t⟩:=rv
 subst ev
 have hdl:es.length=xs.length:=t.length
 refine thn ((sy (pv i hN hv hd hcd) (o_ (pos:=p1) pa_nil) hs) pins s σ H {E with nx:=fun σ' H'=>∃ l,H l=none/\H'=upd (upd H l (.lst [])) a (.ins C dx (putF f (.ref l) (ks.zip xs)))} I ?_) fun fl s1 z=>?_
 ·refine ⟨Nat.zero_le _,fun l hl0=>⟨.ref a,hσ,a,C,dx,ks.zip xs,rfl,?_,c,n,?_,l,hl0,rfl⟩⟩
  ·rw [ar (ne_of_none hH hl0)];exact hH
  ·rw [List.length_zip];omega
 cases fl with
 | next =>
  obtain ⟨σ',H',I',l,hl0,rfl⟩:=z
  have hal:a≠l:=ne_of_none hH hl0
  have hLl:(upd (upd H l (.lst [])) a (.ins C dx (putF f (.ref l) (ks.zip xs)))) l=some (.lst []):=by rw [ar (Ne.symm hal),ax]
  obtain ⟨its,nn,rv',hz',I5⟩:=lst_frz I' hLl
  generalize hH5:upd (upd (upd H l (.lst [])) a (.ins C dx (putF f (.ref l) (ks.zip xs)))) l (.frz {cls:=.type "list",data:=.seq its.toArray nn} (.own 0))=H5 at I5
  have kq:KqS [a] H H5:=fun b u nb eb=>by
   have hba:b≠a:=fun z=>nb (by rw [z];exact List.mem_singleton.mpr rfl)
   have hbl:b≠l:=ne_of_none eb hl0
   subst hH5
   rw [ar hbl,ar hba,ar hbl];exact eb
  have h5l:H5 l=some (.frz {cls:=.type "list",data:=.seq its.toArray nn} (.own 0)):=by subst hH5;exact ax
  have h5a:H5 a=some (.ins C dx (putF f (.ref l) (ks.zip xs))):=by subst hH5;rw [ar hal,ax]
  obtain ⟨vs',p1',p2,p3⟩:=putD_at (K:=X.K) (H':=H5) (x:=f) (e:=.obj 0 l [] []) (y:=.ref l) (ks:=ks) (ds:=es) (vs:=xs) hl hdl
  refine ⟨σ',H5,I5,q σ' l H5 hl0 kq ⟨vs',rfl,⟨p2,dx,?_⟩,p3 (Reps.kq m kq hn t) ⟨[],rfl,⟨hz',its,nn,rv',h5l⟩,rfl⟩⟩⟩
  rw [h5a,p1']
 | brk=>exact z
 | cont=>exact z
 | ret v=>exact z
theorem ib_cons {st:Stmt} {sts:List Stmt} {u g:MU} {i:Nat} (h1:MS X st u) (h2:IB X C i f sts g):IB X C i f (st::sts) (mSeq u g):=by
 intro pins s σ H E I ⟨ρ,τ,a,ρ',ks,es,er,m,e,hat,hn,hk,q⟩
 obtain ⟨o1,e1,e⟩:=bindS e
 cases o1 with
 | rt d ρ2=>cases e
 | nx ρ2 =>
  refine wpAny_execs_cons (thn (h1 [a] pins s σ H {E with nx:=tIB X.K C i f g E} I ⟨ρ,τ,.nx ρ2,er,m,e1,fun H1 k1 m1 σ2 er2=>⟨ρ2,τ,a,ρ',ks,es,er2,m1,e,hat,hn,hk,fun σ' l H' hl kq r=>q σ' l H' ?_ (k1.trans kq) r⟩⟩) fun fl s1 z=>?_)
  ·cases hb:H l with
   | none=>rfl
   | some b =>
    by_cases hla:l=a
    ·have:=m1 a (List.mem_singleton.mpr rfl)
     rw [<- hla,hl] at this
     exact this.elim
    ·rw [k1 l b (fun z=>hla (List.mem_singleton.mp z)) hb] at hl
     cases hl
  cases fl with
  | next =>
   obtain ⟨σ',H',I',z⟩:=z
   exact h2 pins s1 σ' H' E I' z
  | brk=>exact z
  | cont=>exact z
  | ret v=>exact z
def spI (K:PySem.W.Frag) (n N C:Nat) (f:Str) (g:MU):Sp:=fun vs H Q _=>∃ a ds,ds.length+1=n/\Reps K H (.obj (C+2) a [] []::ds) vs/\(∀ l,(mkOb N C f g ds a l).isSome=true)/\∀ l ob H',H l=none->mkOb N C f g ds a l=some ob->KqS [a] H H'->Rep K H' ob (.ref a)->Q .non H'
theorem init_ok {P:Program} {w:World} {K:PySem.W.Frag} {mg:Str->Option Value} {base:Heap} {x qual:Str} {st:Stmt} {fa:Addr} {fd:FuncData} {N ps:List Str} {k:Nat} {g:MU}
  (Fn:Fun K x qual st fa fd) (Sc:FnScope N ps (defScope st)) 
  (hb:∀ (cdv:Value) (A:Around) (outer:List Env) (s:Shared) (H:Hp) (E:XK),Room k (A.deeper (envOfC qual (defScope st) s.heap.objs.size fa cdv))->IB (cxOf CX0 P w K mg base N qual (defScope st) fa cdv A outer s H E).nox C 0 f (defBody st) g) :
  FnOk P w K mg base CX0 (k+1) fa fd ps (spI K ps.length N.length C f g):=by
 refine Fn.ok Sc (fun vs H Q E ⟨a,ds,hn,r,_⟩=>by rw [<- hn,<- r.length];rfl) (fun cdv A outer s H vs Q E hr h=>?_)
 obtain ⟨a,ds,_,r,hs,q⟩:=h
 have h0:=hs 0
 obtain ⟨ob0,e0⟩:=Option.isSome_iff_exists.mp h0
 obtain ⟨mo,e1,e⟩:=bindS (show (g [a] (beg N.length (.obj (C+2) a [] []::ds))).bind _=some ob0 from e0)
 match mo,e1,e with
 | .nx ρ',e1,e =>
  have e':(match vAt 0 ρ' with | some (.obj k b ks es)=>if k=C+2/\b=a/\nobs es=true/\ks.length<100 then some (D.obj k b (putD ks es f (.obj 0 0 [] [])).1 (putD ks es f (.obj 0 0 [] [])).2) else none | _=>none)=some ob0:=e
  cases hat:vAt 0 ρ' with
  | none=>rw [hat] at e';cases e'
  | some obx =>
   rw [hat] at e'
   cases obx with
   | obj kk b ks es =>
    dsimp only at e'
    split at e'
    case isFalse=>cases e'
    case isTrue hc =>
    obtain ⟨rfl,rfl,hn,hk⟩:=hc
    obtain ⟨v,vr,ev,r1,r2⟩:=r
    have r':Reps K H (.obj (C+2) b [] []::ds) vs:=⟨v,vr,ev,r1,r2⟩
    have ms:MutS [b] H:=fun c hcb=>by
     have:=mutS_of r1 c
     exact this (by simpa [adr] using hcb)
    refine ⟨_,hb cdv A outer s H E hr,beg N.length (.obj (C+2) b [] []::ds),_,b,ρ',ks,es,(beg_env r').t,ms,e1,hat,hn,hk,fun σ' l H' hl kq rr=>?_⟩
    refine q l _ H' hl ?_ kq rr
    show (g [b] (beg N.length (.obj (C+2) b [] []::ds))).bind _=_
    rw [e1,Option.bind_some]
    show (match vAt 0 ρ' with | some (.obj k b2 ks es)=>if k=C+2/\b2=b/\nobs es=true/\ks.length<100 then some (D.obj k b2 (putD ks es f (.obj 0 l [] [])).1 (putD ks es f (.obj 0 l [] [])).2) else none | _=>none)=_
    rw [hat]
    exact if_pos ⟨rfl,rfl,hn,hk⟩
   | _=>cases e'
 | .rt d ρ',e1,e=>cases e
theorem tF {x cn:Str} {e:Expr} {es:List Expr} {sts:List Stmt} {F:R->Option (List D)} {g w:MU} {fi:Addr} {fd:FuncData} {ps:List Str} {k NI:Nat} {px p p1:Pos} (i:Nat) (hN:X.N.Nodup) (M:Mk X.K C fi) (Fn:FnOk X.prog X.w X.K X.mg X.base CX0 k fi fd ps (spI X.K ps.length NI C f g)) (bd:Binds X.K fd ps [])
  (hr:Room (k+1) X.A) (hm:X.mg cn=some (.ref C)) (ha:SA X (e::es) F) (h2:MSS X sts w) (hn:(e::es).length+1=ps.length:=by rfl) (hg:Gl X cn:=by rfl) (hdb:(cn==("__debug__" : Str))=false:=by decide) (hix:X.N[i]?=some x:=by rfl) (hx:Loc X.env.scope x:=by first | exact Or.inl rfl | exact Or.inr rfl)
  (hs:swapsWith (.Call (.Name cn p) (e::es) [] p1) (some (.Name x px)) pos.line X.env=pure false:=by rfl) (hf:X.fn x=true\/X.env.scope.names.lookup x=some .local:=by first | exact .inl rfl | exact .inr rfl) :
  SS X (.Assign [.Name x px] (.Call (.Name cn p) (e::es) [] p1) pos::sts) (newM i (mkOb NI C f g) F w):=by
 have hst:=ha.2.2
 rw [List.all_cons,Bool.and_eq_true] at hst
 have he:=aH es X.env hst.1
 have hpl:=cc (pos:=p1) (env:=X.env) hst.2
 intro pins s σ H E I ⟨ρ,τ,o,er,eo,qq⟩
 obtain ⟨ds,r,e1,hi,rfl,hw⟩:=newM_is eo
 refine wpAny_execs_cons (thn ((lX (i:=i) hN hix hx (mQ M Fn hr hg hm bd .nil pass0 ha.1 hdb he hpl) hs hf) pins s σ H {E with nx:=fun σ' H'=>∃ a l ob,H a=none/\H l=none/\a≠l/\σ'=σ.set i (some (.ref a))/\mkOb NI C f g ds a l=some ob/\Same H H'/\Rep X.K H' ob (.ref a)/\MutS [a,l] H' } I ?_) fun fl s1 z=>?_)
 ·refine ⟨ρ,ds,er.1,e1,fun vs H1 s1 r1 a dx ha0 hdx hne=>?_⟩
  rw [List.append_nil]
  have sn:Same H1 (upd (upd H1 dx (.own a)) a (.ins C dx [])):=(aZ hdx _).trans (aZ (by rw [ar (Ne.symm hne)];exact ha0) _)
  have hHa:H a=none:=by
   cases hb:H a with
   | none=>rfl
   | some u=>rw [s1 a u hb] at ha0;cases ha0
  refine ⟨a,ds,by rw [ha.2.1 ρ ds e1];exact hn,⟨.ref a,vs,rfl,⟨[],rfl,⟨rfl,dx,ax⟩,rfl⟩,r1.mono sn⟩,fun l=>?_,fun l ob H' hl hmk kq ro=>⟨rfl,a,l,ob,hHa,?_,?_,rfl,hmk,?_,ro,?_⟩⟩
  ·obtain ⟨ob,ρ',h1,_⟩:=hw a (a+1) (by omega)
   exact mkOb_some h1 l
  ·cases hb:H l with
   | none=>rfl
   | some u=>rw [sn l u (s1 l u hb)] at hl;cases hl
  ·intro z;rw [<- z,ax] at hl;cases hl
  ·intro b u hb
   have hba:b≠a:=fun z=>by rw [z,hHa] at hb;cases hb
   exact kq b u (fun z=>hba (List.mem_singleton.mp z)) (sn b u (s1 b u hb))
  ·have:=mutS_of ro
   rw [mkOb_adr hmk] at this
   exact this
 cases fl with
 | next =>
  obtain ⟨σ',H',I',a,l,ob,hHa,hHl,hal,rfl,hmk,sm,ro,ms⟩:=z
  obtain ⟨ob',ρ',h1,h3⟩:=hw a l hal
  rw [hmk] at h1
  cases h1
  refine h2 [a,l] pins s1 _ H' E I' ⟨ρ.set i (some ob),τ,_,(er.mono sm).set hi ro,ms,h3,fun H2 kq m2=>?_⟩
  intro v rv _
  refine qq H2 (fun b u hb=>?_) v rv
  refine kq b u (fun z=>?_) (sm b u hb)
  rcases List.mem_cons.mp z with rfl | z
  ·rw [hHa] at hb;cases hb
  ·rw [List.mem_singleton.mp z,hHl] at hb;cases hb
 | brk=>exact z
 | cont=>exact z
 | ret v=>exact z
end
end HW
namespace HW
open PySem PySem.Spec PyProof.Rows L2
theorem preSum_take (ns:List Int):∀ j,j<=ns.length->preSum (fun i=>ns.getD i 0) j=(ns.take j).sum
 | 0,_=>rfl
 | j+1,h=>by
  show preSum (fun i=>ns.getD i 0) j+ns.getD j 0=_
  have hj:j<ns.length:=h
  have e:ns.take (j+1)=ns.take j++[ns[j]]:=by rw [List.take_succ_eq_append_getElem hj]
  rw [preSum_take ns j (by omega),e,List.sum_append,List.getD_eq_getElem?_getD]
  simp [hj]
theorem sum_nn:∀ ns:List Int,ns.all (fun n=>decide (0<=n/\n<1099511627776))=true->0<=ns.sum/\ns.sum<=1099511627776*(ns.length:Int)
 | [],_=>⟨by decide,by decide⟩
 | n::ns,h=>by
  rw [List.all_cons,Bool.and_eq_true] at h
  obtain ⟨a,b⟩:=sum_nn ns h.2
  have:=of_decide_eq_true h.1
  rw [List.sum_cons,List.length_cons]
  constructor<;>omega
section
variable {X:Cx}
theorem uO {e:Expr} {f:R->Option D} {p pos:Pos} (hc:X.calm=true) (hm:X.mg "sum" = none) (he:SE X e f) (hg:Gl X "sum":=by rfl) (hst:noStar e=true:=by rfl) :
  SE X (.Call (.Name "sum" p) [e] [] pos) (callD fSum (argC f argN)):=by
 intro pins s σ H Q I ⟨ρ,d,er,eq,q⟩
 obtain ⟨ds,e1,e2⟩:=bindS eq
 have hst1:=aH [] X.env hst
 have PAA:=(ab he ae hst).1 pos pins s σ H (fun vs H2=>Same H H2/\Reps X.K H2 ds vs) I ⟨ρ,ds,er,e1,fun vs H2 s2 r2=>⟨s2,r2⟩⟩
 refine Call_ (eZ I hg hm boot_sum ?_)
 rw [hst1] at PAA ⊢
 refine Calls.callWith_builtin rfl (Calls.evalArgs_plain ?_)
 refine thn PAA fun us s1 ⟨vs,H1,I1,r1,s01,rp⟩=>?_
 match ds,e2 with
 | [.lst es],e2 =>
  obtain ⟨ns,e3,e4⟩:=bindS (show (intsOf es).bind _=some d from e2)
  split at e4
  case isFalse=>cases e4
  case isTrue hn =>
  cases e4
  obtain ⟨v,r',rfl,⟨a,xs,rfl,ha,rx⟩,rr⟩:=rp
  cases (show r'=[] from rr)
  obtain ⟨u,rfl,ru⟩:=r1.one
  cases (show u=_ from ru)
  obtain ⟨_,its,n,rv,hl,eo⟩:=I1.lstM ha
  have hI:=dY e3 rx rv
  have hlen:its.length=ns.length:=IntsAre.length hI
  have hh:=I1.ok.hd hc
  have hL:s1.heap.IsList a its.toArray:=⟨_,eo,rfl,n,rfl⟩
  have hlt:a<s1.heap.objs.size:=Heap.lt_size eo
  refine call_sum_walk (wpAny_pyIter_list hL ?_)
  generalize hIe:s1.heap.objs.size=J at hlt
  have hne:a≠J:=Nat.ne_of_lt hlt
  refine ⟨J,[J,a],[J],its.toArray.size,_,_,fun i=>ns.getD i 0,rfl,Walks.list (prog:=X.prog) (w:=X.w) (A:=X.A.in1) (show X.A.in1.handled=none from hh) J a hne its.toArray,?_,fun b hb=>?_,fun i v hv=>?_,fun j hj=>?_,fun h' tk t' k=>?_⟩
  ·refine ⟨by rw [<- hIe];exact ⟨_,Heap.get?_push_size _ rfl,rfl,rfl⟩,hL.at fun o e=>Heap.get?_push_of_some _ e⟩
  ·rw [Heap.size_push,hIe]
   rcases List.mem_cons.mp hb with rfl | hb
   ·exact Nat.lt_succ_self _
   ·rw [List.mem_singleton.mp hb];exact Nat.lt_succ_of_lt hlt
  ·exact IntsAre.int_at hI i v (by simpa using hv)
  ·have hj':j<ns.length:=by rw [List.size_toArray,hlen] at hj;exact hj
   have hall:=hn.2
   have b1:ns.getD j 0∈ns:=by rw [List.getD_eq_getElem?_getD];simp [hj']
   have b2:=of_decide_eq_true (List.all_eq_true.mp hall _ b1)
   have b3:=sum_nn (ns.take (j+1)) (List.all_eq_true.mpr fun x hx=>List.all_eq_true.mp hall x (List.mem_of_mem_take hx))
   rw [preSum_take ns (j+1) (by omega)]
   have b4:(ns.take (j+1)).length<=1000:=by rw [List.length_take];omega
   refine ⟨⟨by show -(2 ^ 63)<=ns.getD j 0;omega,by show ns.getD j 0<2 ^ 63;omega⟩,by omega,by omega⟩
  ·have hs:preSum (fun i=>ns.getD i 0) its.toArray.size=ns.sum:=by
    rw [List.size_toArray,hlen,preSum_take ns _ (Nat.le_refl _),List.take_length]
   rw [hs]
   refine ⟨.int ns.sum,H1,I1.kept fun b o eb=>k b o (fun z=>?_) (Heap.get?_push_of_some _ eb),⟨_,rfl⟩,q _ H1 s01 rfl⟩
   rw [List.mem_singleton.mp z,<- hIe] at eb
   exact absurd (Heap.lt_size eb) (Nat.lt_irrefl _)
end
end HW
namespace HW
open PySem PySem.Spec PyProof.Rows L2
def Fn5 (K:PySem.W.Frag) (C:Addr) (m q:Str) (st:Stmt) (f:Addr):Prop:=∃ (oc:Value) (od an:Option Addr) (sl:Array (Option Value)) (kV dc pm cd ct:Value),PySem.W.findIn K (.ref C) m=some (some (.ref f))/\PySem.W.isFn K (.ref f)=true /\
 K.lookup f=some ⟨oc,od,.func (PySem.W.fnOf m q (defArgs st) (defBody st) (defScope st) .none kV dc pm an cd ct),sl⟩/\PySem.W.codeIn K cd q=true/\PySem.W.keepIn K (.ref f)=true
theorem fn5 {K:PySem.W.Frag} {C:Addr} {m q:Str} {st:Stmt} {f:Addr} (h:Fn5 K C m q st f):∃ fd,Fun K m q st f fd/\Meth K C m f:=by
 obtain ⟨oc,od,an,sl,kV,dc,pm,cd,ct,a,i,l,c,k⟩:=h
 exact ⟨_,oV l c k,a,i,k⟩
theorem fn5_mk {K:PySem.W.Frag} {C:Addr} {m q:Str} {st:Stmt} {f:Addr} {oc:Value} {od an:Option Addr} {sl:Array (Option Value)} {kV dc pm cd ct:Value} (a:PySem.W.findIn K (.ref C) m=some (some (.ref f))) (i:PySem.W.isFn K (.ref f)=true)
  (l:K.lookup f=some ⟨oc,od,.func (PySem.W.fnOf m q (defArgs st) (defBody st) (defScope st) .none kV dc pm an cd ct),sl⟩) (c:PySem.W.codeIn K cd q=true) (k:PySem.W.keepIn K (.ref f)=true):Fn5 K C m q st f:=⟨oc,od,an,sl,kV,dc,pm,cd,ct,a,i,l,c,k⟩
theorem sp_imp {K:PySem.W.Frag} {F G:List D->Option D} (h:∀ ds d,F ds=some d->G ds=some d):∀ vs H Q E,spD K F vs H Q E->spD K G vs H Q E:=fun _ _ _ _ ⟨ds,d,r,e,q⟩=>⟨ds,d,r,h ds d e,q⟩
end HW
namespace HW
open PySem PySem.Spec PyProof.Rows L2
section
variable {K:PySem.W.Frag} {H H' H1 H2:Hp} {A S:List Nat}
theorem uN (m:MutS A H) (s:KqS A H H'):∀ {d:D} {v:V},okN d=true->(∀ b∈adr1 d,b∉A)->Rep K H d v->Rep K H' d v:=by
 intro d v h hA r
 match d,h,hA,r with
 | .obj 0 l ls es,h,hA,⟨xs,e,⟨z,its,n,rv,q⟩,t⟩=>exact ⟨xs,e,⟨z,its,n,rv,s _ _ (hA l (List.mem_singleton.mpr rfl)) q⟩,Reps.kq m s h t⟩
 | .obj (k+1) l ls es,h,_,_=>cases (show nob (.obj (k+1) l ls es)=true from h)
 | .non,_,_,r=>exact r
 | .bl _,_,_,r=>exact r
 | .int _,_,_,r=>exact r
 | .str _,_,_,r=>exact r
 | .tup ds,h,_,r=>exact Rep.kq m s (d:=.tup ds) h r
 | .lst ds,h,_,r=>exact Rep.kq m s (d:=.lst ds) h r
 | .fro ds,h,_,r=>exact Rep.kq m s (d:=.fro ds) h r
theorem qx (m:MutS A H) (s:KqS A H H'):∀ {ds:List D} {vs:List V},ds.all okN=true->(∀ b∈ds.flatMap adr1,b∉A)->Reps K H ds vs->Reps K H' ds vs
 | [],_,_,_,r=>r
 | d::ds,_,h,hA,r=>by
  rw [List.all_cons,Bool.and_eq_true] at h
  rw [List.flatMap_cons] at hA
  obtain ⟨v,vr,e,r1,r2⟩:=r
  exact ⟨v,vr,e,uN m s h.1 (fun b hb=>hA b (List.mem_append_left _ hb)) r1,qx m s h.2 (fun b hb=>hA b (List.mem_append_right _ hb)) r2⟩
theorem Rep.sep (m:MutS A H) (s:KqS A H H'):∀ {d:D} {v:V},sepO A (some d)=true->Rep K H d v->Rep K H' d v:=by
 intro d v h r
 cases d with
 | obj k a ks es =>
  have h':((a::es.flatMap adr1).all (fun x=>!A.contains x)&&es.all okN)=true:=h
  rw [Bool.and_eq_true] at h'
  have hA:∀ b∈a::es.flatMap adr1,b∉A:=fun b hb z=>by
   have:=List.all_eq_true.mp h'.1 b hb
   simp at this
   exact this z
  obtain ⟨xs,e,q,t⟩:=r
  exact ⟨xs,e,q.to fun u e' _=>s a u (hA a (.head _)) e',qx m s h'.2 (fun b hb=>hA b (.tail _ hb)) t⟩
 | _=>exact Rep.kq m s h r
theorem tB {ρ:R} {σ:L2.St} {i:Nat} {ob':D} {v:V} (er:EnvR K H ρ σ) (m:MutS A H) (s:KqS A H H') (hn:sepBut i A ρ=true) (hv:σ[i]?=some (some v)) (r:Rep K H' ob' v):EnvR K H' (ρ.set i (some ob')) σ:=by
 refine ⟨by rw [List.length_set];exact er.1,fun j d h=>?_⟩
 by_cases hj:j=i
 ·subst hj
  have hl:j<ρ.length:=by have:=(List.getElem?_eq_some_iff.mp h).1;simpa using this
  rw [List.getElem?_set_self hl] at h
  cases h
  exact ⟨v,hv,r⟩
 ·rw [List.getElem?_set_ne (Ne.symm hj)] at h
  obtain ⟨u,h1,h2⟩:=er.2 j d h
  have hd:sepO A (some d)=true:=List.all_eq_true.mp hn _ (List.mem_of_getElem? (i:=j) (by rw [List.getElem?_set_ne (Ne.symm hj)];exact h))
  exact ⟨u,h1,Rep.sep m s hd h2⟩
theorem after_sep {ρ:R} {σ τ:L2.St} {i:Nat} {ob o':D} (er:EnvT K H ρ τ σ) (m:MutS S H) (hat:vAt i ρ=some ob) (ho:isOb ob=true) (hn:sepBut i (adr ob) ρ=true) (hin:inS S (adr ob)=true) (s1:Same H H1) (kq:KqS (adr ob) H1 H2) (m2:MutS (adr ob) H2)
  (r:Rep K H2 o' (.ref (adr0 ob))):KqS S H H2/\MutS S H2/\EnvT K H2 (ρ.set i (some o')) τ σ:=by
 have sub:=inS_of hin
 have m1:=m.same s1
 have mS:MutS S H2:=fun b hb=>by
  by_cases hba:b∈adr ob
  ·exact m2 b hba
  ·have hm:=m1 b hb
   cases e:H1 b with
   | none=>rw [e] at hm;exact hm.elim
   | some u=>rw [kq b u hba e];rw [e] at hm;exact hm
 obtain ⟨v,hσ,rv⟩:=(er.mono s1).1.at hat
 have mo:=mutS_of rv
 rw [pk ho rv] at hσ
 exact ⟨(KqS.of s1).trans (kq.mono sub),mS,tB (er.mono s1).1 mo kq hn hσ r,by rw [List.length_set];exact er.2⟩
end
section
variable {X:Cx} {pos:Pos}
theorem sr {F:R->Option (List D)} {G:List D->Option (D×D)} {S:List Nat} {i j:Nat} {ρ ρ':R} {σ τ:L2.St} {H:Hp} {d:D} {Q:VK} (hF:∀ ρ ds ob,F ρ=some ds->vAt i ρ=some ob->ds[j]?=some ob) (er:EnvT X.K H ρ τ σ) (m:MutS S H) (e:mCal2 i G F S ρ=some (d,ρ'))
  (q:∀ v H',KqS S H H'->MutS S H'->Rep X.K H' d v->EnvT X.K H' ρ' τ σ->Q v H'):tCall (spM X.K j G) [] E0 (tDA X.K F) σ H Q:=by
 obtain ⟨ob,hat,e⟩:=bindS e
 obtain ⟨ds,e1,e⟩:=bindS e
 obtain ⟨r,e2,e⟩:=bindS e
 split at e
 case isFalse=>cases e
 case isTrue hc =>
 obtain ⟨ho,hn,hin⟩:=hc
 obtain ⟨rfl,rfl⟩:r.1=d/\ρ.set i (some r.2)=ρ':=by simpa using e
 refine ⟨ρ,ds,er.1,e1,fun vs H1 s1 r1=>?_⟩
 show spM X.K j G (vs++[]) H1 Q E0
 rw [List.append_nil]
 refine ⟨ds,ob,r.1,r.2,r1,hF ρ ds ob e1 hat,ho,e2,fun v H2 kq m2 rd ro=>?_⟩
 obtain ⟨a,b,c⟩:=after_sep er m hat ho hn hin s1 kq m2 ro
 exact q v H2 a b rd c
variable {x:Str} {e:Expr} {es:List Expr} {F:R->Option (List D)} {G:List D->Option (D×D)} {k j:Nat} {ps:List Str} {p:Pos}
theorem gE (i:Nat) (C:CalM X.prog X.w X.K X.mg X.base k x ps j G) (hr:Room k X.A) (ha:SA X (e::es) F) (hF:∀ ρ ds ob,F ρ=some ds->vAt i ρ=some ob->ds[j]?=some ob) {pos':Pos} (hg:Gl X x:=by rfl) (hdb:(x==("__debug__" : Str))=false:=by decide)
  (hs:swapsWith (.Call (.Name x p) (e::es) [] pos) none pos'.line X.env=pure false:=by rfl):MS X (.Expr (.Call (.Name x p) (e::es) [] pos) pos') (mExpr (mCal2 i G F)):=by
 have hst:=ha.2.2
 rw [List.all_cons,Bool.and_eq_true] at hst
 have he:=aH es X.env hst.1
 have hpl:=cc (pos:=pos) (env:=X.env) hst.2
 obtain ⟨f,fd,a,m,kp,bd⟩:=C.ex
 refine fun S=>(jo (jg a hr hg m kp bd .nil pass0 ha.1 hdb he hpl) hs).imp fun E σ H ⟨ρ,τ,o,er,m,e,q⟩=>?_
 obtain ⟨r,e1,rfl⟩:=mapS e
 exact sr hF er m e1 fun v H' kq mS _ er'=>q H' kq mS σ er'
theorem met_of {F:R->Option (List D)} {G:List D->Option (D×D)} {S:List Nat} {i C:Nat} {mn:Str} {ρ ρ':R} {σ τ:L2.St} {H:Hp} {d:D} (er:EnvT X.K H ρ τ σ) (m:MutS S H) (e:mMet2 i C mn G F S ρ=some (d,ρ')) :
  ∃ a dx fs ds,σ[i]?=some (some (.ref a))/\H a=some (.ins C dx fs)/\fs.lookup mn=none/\F ρ=some ds/\∀ (vs:List V) (H1:Hp) (Q:VK),Same H H1->Reps X.K H1 ds vs->(∀ v H',KqS S H H'->MutS S H'->Rep X.K H' d v->EnvT X.K H' ρ' τ σ->Q v H')->spM X.K 0 G (.ref a::vs) H1 Q E0:=by
 obtain ⟨ob,hat,z1⟩:=bindS e
 obtain ⟨ds,e1,z2⟩:=bindS z1
 obtain ⟨r,e2,z3⟩:=bindS z2
 clear e z1 z2
 match ob,hat,e2,z3 with
 | .obj kk a ks es',hat,e2,z3 =>
  have z4:(if kk=C+2/\ks.contains mn=false/\sepBut i (a::es'.flatMap adr1) ρ=true/\inS S (a::es'.flatMap adr1)=true then some (r.1,ρ.set i (some r.2)) else none)=some (d,ρ'):=z3
  split at z4
  case isFalse=>cases z4
  case isTrue hc =>
  obtain ⟨rfl,hk,hn,hin⟩:=hc
  obtain ⟨rfl,rfl⟩:r.1=d/\ρ.set i (some r.2)=ρ':=by simpa using z4
  obtain ⟨v,hσ,rv⟩:=er.1.at hat
  have rv':=rv
  obtain ⟨xs,ev,⟨hl,dx,hH⟩,t⟩:=rv
  subst ev
  refine ⟨a,dx,_,ds,hσ,hH,key_none hk,e1,fun vs H1 Q s1 r1 q=>?_⟩
  refine ⟨.obj (C+2) a ks es'::ds,_,r.1,r.2,⟨_,vs,rfl,rv'.mono s1,r1⟩,rfl,rfl,e2,fun v H2 kq m2 rd ro=>?_⟩
  obtain ⟨aa,b,c⟩:=after_sep er m hat rfl hn hin s1 kq m2 ro
  exact q v H2 aa b rd c
variable {C:Nat} {mn:Str} {apos:Pos}
theorem vt (i:Nat) (c:Cls X.K C) (M:MetM X.prog X.w X.K X.mg X.base k C mn ps G) (hr:Room k X.A) (ha:SA X (e::es) F) {px pos':Pos} (hN:X.N[i]?=some x:=by rfl) (hv:Vis X.env.scope x:=by first | exact Or.inl rfl | exact Or.inr (Or.inl rfl) | exact Or.inr (Or.inr rfl))
    (hd:(x==("__debug__" : Str))=false:=by decide) (hcd:(x==("__classdict__" : Str))=false:=by decide) {pl:Sem Bool}
    (ht:eval (.Call (.Attribute (.Name x px) mn apos) (e::es) [] pos) X.env=(do
      let ov <- eval (.Name x px) X.env
      standAt apos.atName
      let (f,first) <- holding [ov] (getMethod ov mn pl)
      callWith pos f first (backTo pos (starEach (e::es) X.env)) (backToKw pos (keywordEach [] X.env))):=by rfl)
    (hs:swapsWith (.Call (.Attribute (.Name x px) mn apos) (e::es) [] pos) none pos'.line X.env=pure false:=by rfl):MS X (.Expr (.Call (.Attribute (.Name x px) mn apos) (e::es) [] pos) pos') (mExpr (mMet2 i C mn G F)):=by
  have hst:=ha.2.2
  rw [List.all_cons,Bool.and_eq_true] at hst
  have he:=aH es X.env hst.1
  have hpl:=cc (pos:=pos) (env:=X.env) hst.2
  obtain ⟨f,fd,a,hm,bd⟩:=M.ex
  refine fun S=>(jo (qt (pv i hN hv hd hcd) c hm a hr bd .nil pass0 ha.1 he hpl ht) hs).imp fun E σ H ⟨ρ,τ,o,er,m,e,q⟩=>?_
  obtain ⟨r,e1,rfl⟩:=mapS e
  obtain ⟨a',dx,fs,ds,hσ,hH,hk,e2,run⟩:=met_of er m e1
  exact ⟨.ref a',hσ,a',dx,_,rfl,hH,hk,ρ,ds,er.1,e2,fun vs H1 s1 r1=>by
    show spM X.K 0 G (.ref a'::(vs++[])) H1 _ E0
    rw [List.append_nil]
    exact run vs H1 _ s1 r1 fun v H' kq mS _ er'=>q H' kq mS σ er'⟩
theorem nt (i:Nat) (c:Cls X.K C) (M:MetM X.prog X.w X.K X.mg X.base k C mn ps G) (hr:Room k X.A) {px pos':Pos} (hN:X.N[i]?=some x:=by rfl) (hv:Vis X.env.scope x:=by first | exact Or.inl rfl | exact Or.inr (Or.inl rfl) | exact Or.inr (Or.inr rfl))
    (hd:(x==("__debug__" : Str))=false:=by decide) (hcd:(x==("__classdict__" : Str))=false:=by decide) {pl:Sem Bool}
    (ht:eval (.Call (.Attribute (.Name x px) mn apos) [] [] pos) X.env=(do
      let ov <- eval (.Name x px) X.env
      standAt apos.atName
      let (f,first) <- holding [ov] (getMethod ov mn pl)
      callWith pos f first (backTo pos (starEach [] X.env)) (backToKw pos (keywordEach [] X.env))):=by rfl)
    (hs:swapsWith (.Call (.Attribute (.Name x px) mn apos) [] [] pos) none pos'.line X.env=pure false:=by rfl):MS X (.Expr (.Call (.Attribute (.Name x px) mn apos) [] [] pos) pos') (mExpr (mMet2 i C mn G argN)):=by
  obtain ⟨f,fd,a,hm,bd⟩:=M.ex
  refine fun S=>(jo (nU (pv i hN hv hd hcd) c hm a hr bd .nil pass0 ht) hs).imp fun E σ H ⟨ρ,τ,o,er,m,e,q⟩=>?_
  obtain ⟨r,e1,rfl⟩:=mapS e
  obtain ⟨a',dx,fs,ds,hσ,hH,hk,e2,run⟩:=met_of er m e1
  cases e2
  exact ⟨.ref a',hσ,a',dx,_,rfl,hH,hk,run [] H _ (Same.refl _) rfl fun v H' kq mS _ er'=>q H' kq mS σ er'⟩
theorem sx {st:Stmt}:MS X st (fun _ _=>none):=fun S _ _ _ _ _ _ ⟨_,_,_,_,_,e,_⟩=>by cases e
theorem make_of {C:Nat} {f:Str} {g:MU} {F:R->Option (List D)} {ps:List Str} {NI:Nat} {ρ:R} {σ:L2.St} {H:Hp} {ds:List D} {Q:VK} (hn:ds.length+1=ps.length) (er:EnvR X.K H ρ σ) (e1:F ρ=some ds) (hw:∀ a l,a≠l->∃ ob,mkOb NI C f g ds a l=some ob)
  (q:∀ a l ob H',H a=none->H l=none->a≠l->mkOb NI C f g ds a l=some ob->Same H H'->Rep X.K H' ob (.ref a)->MutS [a,l] H'->Q (.ref a) H'):tMake C (spI X.K ps.length NI C f g) [] E0 (tDA X.K F) σ H Q:=by
 refine ⟨ρ,ds,er,e1,fun vs H1 s1 r1 a dx ha0 hdx hne=>?_⟩
 rw [List.append_nil]
 have sn:Same H1 (upd (upd H1 dx (.own a)) a (.ins C dx [])):=(aZ hdx _).trans (aZ (by rw [ar (Ne.symm hne)];exact ha0) _)
 have hHa:H a=none:=by
  cases hb:H a with
  | none=>rfl
  | some u=>rw [s1 a u hb] at ha0;cases ha0
 refine ⟨a,ds,hn,⟨.ref a,vs,rfl,⟨[],rfl,⟨rfl,dx,ax⟩,rfl⟩,r1.mono sn⟩,fun l=>?_,fun l ob H' hl hmk kq ro=>⟨rfl,q a l ob H' hHa ?_ ?_ hmk ?_ ro ?_⟩⟩
 ·obtain ⟨ob,h1⟩:=hw a (a+1) (by omega)
  exact mkOb_some h1 l
 ·cases hb:H l with
  | none=>rfl
  | some u=>rw [sn l u (s1 l u hb)] at hl;cases hl
 ·intro z;rw [<- z,ax] at hl;cases hl
 ·intro b u hb
  have hba:b≠a:=fun z=>by rw [z,hHa] at hb;cases hb
  exact kq b u (fun z=>hba (List.mem_singleton.mp z)) (sn b u (s1 b u hb))
 ·have:=mutS_of ro
  rw [mkOb_adr hmk] at this
  exact this
end
end HW
namespace HW
open PySem PySem.Spec PyProof.Rows L2
section
variable {X:Cx} {pins pins0:List (Addr×Obj)} {σ σ0:L2.St} {H H0:Hp} {s s0:Shared} {l:Addr} {its:List Value} {n:Nat} {xs:List V}
theorem thaw (I:L2.Inv X pins σ H s) (h:H l=some (.frz {cls:=.type "list",data:=.seq its.toArray n} (.own 0))) (r:Vals xs its) (z:xs.length<=sizeLine):L2.Inv X pins σ (upd H l (.frz {cls:=.type "list",data:=.seq its.toArray n} (.lst xs))) s:=by
 have e:=(I.hok l _ h).1
 exact I.write (t':=s.toks) (h':=s.heap) (o:=.frz {cls:=.type "list",data:=.seq its.toArray n} (.lst xs)) (x:=l) (e:=l) (by rw [h];trivial) (.inl rfl) (fun _ _ _ q=>q) ⟨_,e⟩ ⟨e,z,its,n,r,e⟩
theorem unthaw {o:Obj} (I0:L2.Inv X pins0 σ0 H0 s0) (h0:H0 l=some (.frz o (.own 0))) (I:L2.Inv X pins σ H s) (h:H l=some (.frz o (.lst xs))):L2.Inv X pins σ (upd H l (.frz o (.own 0))) s:=by
 have e:=(I.hok l _ h).1
 have ne:∀ {b:Addr},H b=none->b≠l:=fun {b} hb z=>by rw [z,h] at hb;cases hb
 refine ⟨I.ok,I.os,I.bare,⟨I.base.keep,I.base.slot,fun b ob q nn hx=>?_,I.base.there,fun b ys q=>?_,fun b ob u ny q=>?_,fun b ps d q=>?_⟩,I.loc,I.cell,?_,fun y c hc=>?_,fun p hp=>?_,fun b u q=>?_,I.len⟩
 ·have z:=I.base.free b ob q nn hx
  rw [ar (ne z)];exact z
 ·have z:=I.base.tups b ys q
  rw [ar fun w=>by rw [w,h] at z;cases z];exact z
 ·have z:=I.base.frzs b ob u ny q
  rw [ar fun w=>?_]
  ·exact z
  ·have z0:=I0.base.frzs b ob u ny q
   rw [w,h0] at z0
   cases z0
   exact ny 0 rfl
 ·have z:=I.base.tbls b ps d q
  rw [ar fun w=>by rw [w,h] at z;cases z];exact z
 ·rw [ar (ne I.free)];exact I.free
 ·rw [ar (ne (I.freeC y c hc))];exact I.freeC y c hc
 ·obtain ⟨p1,p2,p3⟩:=I.pin p hp
  exact ⟨p1,by rw [ar (ne p2)];exact p2,p3⟩
 ·by_cases hb:b=l
  ·subst hb
   rw [ax] at q
   cases q
   exact ⟨e,_,e⟩
  ·rw [ar hb] at q
   refine (I.hok b u q).stay (fun c v _ r=>r) (fun c r=>?_) (fun c ys r=>?_) fun c _ _ r=>?_
   ·rw [ar fun w=>by rw [w,h] at r;cases r];exact r
   ·rw [ar fun w=>by rw [w,h] at r;cases r];exact r
   ·rw [ar fun w=>by rw [w,h] at r;cases r];exact r
end
section
variable {K:PySem.W.Frag} {H:Hp} {l:Addr} {o:Obj} {ys:List V} {u:HO}
mutual
theorem Rep.nof (h:H l=some (.frz o (.lst ys))):∀ {d:D} {v:V},nof d=true->Rep K H d v->Rep K (upd H l u) d v
 | .non,_,_,r=>r
 | .bl _,_,_,r=>r
 | .int _,_,_,r=>r
 | .str _,_,_,r=>r
 | .tup ds,_,hn,r=>by
  obtain ⟨a,xs,e,q,t⟩:=r
  refine ⟨a,xs,e,?_,Reps.nof h hn t⟩
  rcases q with (q | ⟨o',q⟩) | q
  ·exact .inl (.inl (by rw [ar fun w=>by rw [w,h] at q;cases q];exact q))
  ·exact .inl (.inr ⟨o',by rw [ar fun w=>by rw [w,h] at q;cases q];exact q⟩)
  ·exact .inr q
 | .lst ds,_,hn,r=>by
  obtain ⟨a,xs,e,q,t⟩:=r
  exact ⟨a,xs,e,by rw [ar fun w=>by rw [w,h] at q;cases q];exact q,Reps.nof h hn t⟩
 | .fro _,_,hn,_=>by cases hn
 | .obj ..,_,hn,_=>by cases hn
theorem Reps.nof (h:H l=some (.frz o (.lst ys))):∀ {ds:List D} {vs:List V},nofs ds=true->Reps K H ds vs->Reps K (upd H l u) ds vs
 | [],_,_,r=>r
 | d::ds,_,hn,r=>by
  have hn':(HW.nof d&&nofs ds)=true:=hn
  rw [Bool.and_eq_true] at hn'
  obtain ⟨v,vr,e,r1,r2⟩:=r
  exact ⟨v,vr,e,Rep.nof h hn'.1 r1,Reps.nof h hn'.2 r2⟩
end
theorem Reps.dropLast:∀ {ds:List D} {vs:List V},Reps K H ds vs->Reps K H ds.dropLast vs.dropLast
 | [],_,r=>by cases (show _=[] from r);rfl
 | [d],_,r=>by
  obtain ⟨v,vr,rfl,_,r2⟩:=r
  cases (show vr=[] from r2);rfl
 | d::d'::ds,_,r=>by
  obtain ⟨v,vr,rfl,r1,r2⟩:=r
  obtain ⟨v',vr',e,r3,r4⟩:=r2
  subst e
  exact ⟨v,_,rfl,r1,Reps.dropLast (ds:=d'::ds) (vs:=v'::vr') ⟨v',vr',rfl,r3,r4⟩⟩
theorem lb:∀ {ds:List D},nobs ds=true->nobs ds.dropLast=true
 | [],h=>h
 | [d],_=>rfl
 | d::d'::ds,h=>by
  have h':(nob d&&nobs (d'::ds))=true:=h
  rw [Bool.and_eq_true] at h'
  show (nob d&&nobs (d'::ds).dropLast)=true
  rw [h'.1,lb h'.2];rfl
theorem oA {d:D}:∀ {ds:List D},nobs ds=true->d∈ds->nob d=true
 | e::ds,h,hd=>by
  have h':(nob e&&nobs ds)=true:=h
  rw [Bool.and_eq_true] at h'
  rcases List.mem_cons.mp hd with rfl | hd
  ·exact h'.1
  ·exact oA h'.2 hd
end
section
variable {X:Cx} {pos:Pos}
theorem uv {tg a:Expr} {f:R->Option D} (ha:SE X a f):SI X tg a (inFro f):=(qa ha).imp fun σ H W ⟨ρ,ds,er,e,q⟩=>by
 obtain ⟨x,e1,e⟩:=bindS e
 refine ⟨ρ,x,er,e1,fun v H1 s1 r1=>?_⟩
 cases x with
 | fro xs =>
  cases e
  obtain ⟨a,vs,ev,hq,t⟩:=r1
  exact .inl ⟨a,ev,.inl ⟨⟨vs,hq⟩,q _ H1 s1 (iF hq t)⟩⟩
 | _=>cases e
theorem qi {e:Expr} {F:R->Option D} {x:Str} (i C:Nat) (h:SE X e F):SE X e (thawD i C x F):=by
 intro pins s σ H Q I ⟨ρ,d,er,e0,q⟩
 unfold thawD at e0
 split at e0
 case h_2=>cases e0
 case h_1 k a ks ds hat =>
 split at e0
 case h_2=>cases e0
 case h_1 l ls es hkey =>
 split at e0
 case isFalse=>cases e0
 case isTrue hc =>
 obtain ⟨rfl,h2,h5,h6⟩:=hc
 obtain ⟨d',eF,e0⟩:=bindS e0
 split at e0
 case isFalse=>cases e0
 case isTrue hnf =>
 cases e0
 obtain ⟨v,hσ,rv⟩:=er.at hat
 obtain ⟨xs,ev,⟨hl,dx,hH⟩,t⟩:=rv
 subst ev
 obtain ⟨y,hlk,ry⟩:=keyD_at hkey t hl
 obtain ⟨ys,ey,⟨hz,its,nn,rv,hL⟩,ty⟩:=ry
 subst ey
 have I1:=thaw I hL rv hz
 have k01:KqS [l] H (upd H l (.frz {cls:=.type "list",data:=.seq its.toArray nn} (.lst ys))):=fun b u nb eb=>by rw [ar fun z=>nb (by rw [z];exact List.mem_singleton.mpr rfl)];exact eb
 have ml:MutS [l] H:=fun b hb=>by rw [List.mem_singleton.mp hb,hL];trivial
 have hla:a≠l:=fun z=>by rw [z,hL] at hH;cases hH
 have kq:∀ {d:D} {v:V},nob d=true->Rep X.K H d v->Rep X.K (upd H l (.frz {cls:=.type "list",data:=.seq its.toArray nn} (.lst ys))) d v:=fun hn r=>Rep.kq ml k01 hn r
 have rf:Rep X.K (upd H l (.frz {cls:=.type "list",data:=.seq its.toArray nn} (.lst ys))) (.fro es) (.ref l):=⟨l,ys,rfl,.inl (.inr ⟨_,ax⟩),Reps.kq ml k01 h5 ty⟩
 obtain ⟨g1,g2⟩:=gz hkey hlk t hl h6 kq rf
 have rob:Rep X.K (upd H l (.frz {cls:=.type "list",data:=.seq its.toArray nn} (.lst ys))) (.obj (C+2) a (putD ks ds x (.fro es)).1 (putD ks ds x (.fro es)).2) (.ref a):=by
  rw [g1]
  exact ⟨xs,rfl,⟨hl,dx,by rw [ar hla];exact hH⟩,g2⟩
 refine thn (h pins s σ _ (fun v H2=>Same (upd H l (.frz {cls:=.type "list",data:=.seq its.toArray nn} (.lst ys))) H2/\Rep X.K H2 d v) I1 ⟨_,d,sM er ml k01 h2 hσ rob,eF,fun v H' s1 r1=>⟨s1,r1⟩⟩) fun u s1 ⟨v,H2,I2,ru,s12,rd⟩=>?_
 have hL2:=s12 _ _ ax
 refine ⟨v,_,unthaw I hL I2 hL2,ru,q v _ (fun b w hb=>?_) (Rep.nof hL2 hnf rd)⟩
 by_cases hbl:b=l
 ·subst hbl
  rw [hL] at hb
  cases hb
  exact ax
 ·rw [ar hbl]
  exact s12 b w (by rw [ar hbl];exact hb)
theorem uu {x y f:Str} {C:Nat} {px py pf ap cp:Pos} (j i:Nat) (hNd:X.N.Nodup) (c:Cls X.K C) (n:NoAttr X.K C f) (hN:X.N[i]?=some x:=by rfl) (hv:Vis X.env.scope x:=by first | exact Or.inl rfl | exact Or.inr (Or.inl rfl) | exact Or.inr (Or.inr rfl)) (hj:X.N[j]?=some y:=by rfl) (hy:Loc X.env.scope y:=by first | exact Or.inl rfl | exact Or.inr rfl)
  (hd:(x==("__debug__" : Str))=false:=by decide) (hcd:(x==("__classdict__" : Str))=false:=by decide) (hb1:attributeBase (.Name x px) f X.env (eval (.Name x px) X.env)=eval (.Name x px) X.env:=by rfl)
  (hbase:attributeBase (.Attribute (.Name x px) f pf) "pop" X.env (eval (.Attribute (.Name x px) f pf) X.env)=eval (.Attribute (.Name x px) f pf) X.env:=by rfl)
  (hline:(ap.endLine==cp.line)=true:=by rfl) (hs:swapsWith (.Call (.Attribute (.Attribute (.Name x px) f pf) "pop" ap) [] [] cp) (some (.Name y py)) pos.line X.env=pure false:=by rfl) (hf:X.fn y=true\/X.env.scope.names.lookup y=some .local:=by first | exact .inl rfl | exact .inr rfl) :
  MS X (.Assign [.Name y py] (.Call (.Attribute (.Attribute (.Name x px) f pf) "pop" ap) [] [] cp) pos) (mPop j i C f):=by
 intro S pins s σ H E I ⟨ρ,τ,o,er,m,e,q⟩
 unfold mPop at e
 split at e
 case h_2=>cases e
 case h_1 k a ks ds hat =>
 split at e
 case h_2=>cases e
 case h_1 l ls es hkey =>
 split at e
 case h_2=>cases e
 case h_1 d hlast =>
 split at e
 case isFalse=>cases e
 case isTrue hc =>
 obtain ⟨rfl,hij,hjl,h2,h3,h5,h6,h7⟩:=hc
 cases e
 obtain ⟨v,hσ,rv⟩:=er.1.at hat
 obtain ⟨xs,ev,⟨hl,dx,hH⟩,t⟩:=rv
 subst ev
 obtain ⟨y0,hlk,ry⟩:=keyD_at hkey t hl
 obtain ⟨ys,ey,⟨hz,its,nn,rv,hL⟩,ty⟩:=ry
 subst ey
 have hlen:es.length=ys.length:=ty.length
 rw [List.getLast?_eq_getElem?] at hlast
 obtain ⟨w,hw,rw1⟩:=ty.get hlast
 rw [hlen] at hw
 refine wpAny_Assign_Name (thn (Q:=EP X pins σ fun v H5=>v=w/\KqS S H H5/\MutS S H5/\Rep X.K H5 d w/\EnvT X.K H5 (ρ.set i (some (.obj (C+2) a (putD ks ds f (.obj 0 l ls es.dropLast)).1 (putD ks ds f (.obj 0 l ls es.dropLast)).2))) τ σ) ?_ fun v s1 ⟨y',H5,I5,r5,ey,kq,mS,rd,er5⟩=>?_) hs
 ·refine wpAny_Call_method_late hbase rfl hline rfl (thn ((qc (pv i (pos:=px) hN hv hd hcd) hb1) pins s σ H (fun v H1=>v=.ref l/\H1=H) I ⟨.ref a,hσ,a,C,dx,_,.ref l,rfl,hH,c,n,hlk,rfl,rfl⟩) fun v s1 ⟨y',H1,I1,r1,ey,eH⟩=>?_)
  subst ey eH
  cases (show v=_ from r1)
  have eo:=(I1.hok l _ hL).1
  refine ⟨"list","list.pop",PySem.F.plainAttrs_list,PySem.F.slot_list_pop,PySem.F.type_list_pop,⟨_,eo,rfl⟩,fun b eb=>?_,?_⟩
  ·cases eb
   exact ⟨_,eo,rfl⟩
  refine Calls.callWith_builtin rfl (evalArgs_nil3 ?_)
  have I3:=frz_lst I1 hL rv hz
  refine thn (uD pins s1 σ (upd H1 l (.lst ys)) (.ref l) [] (.ref l) [] (fun v H3=>v=w/\H3=upd (upd H1 l (.lst ys)) l (.lst ys.dropLast)) I3 rfl .nil ⟨l,ys,w,rfl,rfl,ax,hw,rfl,rfl⟩) fun v s3 ⟨v',H3,I4,r4,e4,e3⟩=>?_
  subst e3 e4
  obtain ⟨its',n',rv',hz',I5⟩:=lst_frz I4 ax
  generalize hH5:upd (upd (upd H1 l (.lst ys)) l (.lst ys.dropLast)) l (.frz {cls:=.type "list",data:=.seq its'.toArray n' } (.own 0))=H5 at I5
  have k25:KqS [l] H1 H5:=fun b u nb eb=>by
   have hbl:b≠l:=fun z=>nb (by rw [z];exact List.mem_singleton.mpr rfl)
   subst hH5
   rw [ar hbl,ar hbl,ar hbl];exact eb
  have hL5:H5 l=some (.frz {cls:=.type "list",data:=.seq its'.toArray n' } (.own 0)):=by subst hH5;exact ax
  have ml:MutS [l] H1:=fun b hb=>by rw [List.mem_singleton.mp hb,hL];trivial
  have hla:a≠l:=fun z=>by rw [z,hL] at hH;cases hH
  have hH5a:H5 a=some (.ins C dx (ks.zip xs)):=k25 a _ (fun z=>hla (List.mem_singleton.mp z)) hH
  have kq:∀ {d:D} {v:V},nob d=true->Rep X.K H1 d v->Rep X.K H5 d v:=fun hn r=>Rep.kq ml k25 hn r
  have rl:Rep X.K H5 (.obj 0 l ls es.dropLast) (.ref l):=⟨ys.dropLast,rfl,⟨hz',its',n',rv',hL5⟩,Reps.kq ml k25 (lb h5) ty.dropLast⟩
  obtain ⟨g1,g2⟩:=gz hkey hlk t hl h6 kq rl
  have rob:Rep X.K H5 (.obj (C+2) a (putD ks ds f (.obj 0 l ls es.dropLast)).1 (putD ks ds f (.obj 0 l ls es.dropLast)).2) (.ref a):=by
   rw [g1]
   exact ⟨xs,rfl,⟨hl,dx,hH5a⟩,g2⟩
  have hlS:l∈S:=by simpa using h7
  have kqS:KqS S H1 H5:=k25.mono fun b hb=>by rw [List.mem_singleton.mp hb];exact hlS
  have mS:MutS S H5:=fun b hb=>by
   by_cases hbl:b=l
   ·rw [hbl,hL5];trivial
   ·have hm:=m b hb
    cases hb2:H1 b with
    | none=>rw [hb2] at hm;exact hm.elim
    | some u=>rw [k25 b u (fun z=>hbl (List.mem_singleton.mp z)) hb2];rw [hb2] at hm;exact hm
  exact ⟨_,H5,I5,r4,rfl,kqS,mS,kq (oA h5 (List.mem_of_getElem? hlast)) rw1,jj er m kqS h2 hσ rob⟩
 ·subst ey
  refine store_ok I5 hNd hj hy r5 (fun s2 I6=>⟨_,H5,I6,q H5 kq mS _ (er5.set (by simpa using hjl) rd)⟩) hf
end
end HW
namespace HW
open PySem
end HW
namespace HW
open PySem
end HW
namespace HW
open PySem
section
variable {prog:Program} {w:World} {A:Around} {E:Value->Shared->Prop}
variable {Good:Heap->Nat->Prop} {s:Shared} {z TI TO i1 i2 p:Addr} {b:Bool} {op:Obj} {st1 st1' st2 st2':Heap->Prop} {P1 P2:Value->Prop}
end
end HW
namespace HW
open PySem PySem.Spec PyProof.Rows L2
section
variable {X:Cx} {pins:List (Addr×Obj)} {σ:L2.St} {s:Shared} {A:Around} {E:Value->Shared->Prop} {H:Hp} {d T:Addr} {kvs:List (Key×V)} {k:Str} {v:V} {u1 u2:Value}
end
section
variable {X:Cx} {pins:List (Addr×Obj)} {σ:L2.St} {s:Shared} {A:Around} {E:Value->Shared->Prop} {H0:Hp} {S T:Src} {z TI TO i1 i2 p d:Addr} {ks:List Str} {vs pq:List V} {R:Result->Shared->Prop} {res:Value}
end
section
variable {X:Cx}
end
end HW
namespace HW
open PySem PySem.Spec PyProof.Rows L2
section
variable {K:PySem.W.Frag} {H H':Hp}
end
section
variable {X:Cx} {pos:Pos}
theorem EnvT.hid {K:PySem.W.Frag} {H:Hp} {ρ:R} {τ σ:L2.St} {j:Nat} {v:V} (e:EnvT K H ρ τ σ) (hj:ρ[j]?=some none):EnvT K H ρ τ (σ.set j (some v)):=by
 have hl:j<ρ.length:=(List.getElem?_eq_some_iff.mp hj).1
 refine ⟨⟨by simpa using e.1.1,fun i d h=>?_⟩,by rw [List.drop_set_of_lt hl];exact e.2⟩
 have hij:j≠i:=fun z=>by rw [z,h] at hj;cases hj
 rw [List.getElem?_set_ne hij]
 exact e.1.2 i d h
end
end HW
namespace HW
open PySem PySem.Spec PyProof.Rows L2
section
variable {X:Cx} {pos:Pos}
def spN (K:PySem.W.Frag) (mk:List D->Nat->Nat->Option D):Sp:=fun vs H Q _=>∃ ds,Reps K H ds vs/\(∃ ob,mk ds 0 1=some ob)/\∀ a l ob H',H a=none->H l=none->a≠l->mk ds a l=some ob->Same H H'->Rep K H' ob (.ref a)->Q (.ref a) H'
structure CalN (P:Program) (w:World) (K:PySem.W.Frag) (mg:Str->Option Value) (base:Heap) (k:Nat) (x:Str) (ps:List Str) (mk:List D->Nat->Nat->Option D):Prop where
 ex:∃ f fd,FnOk P w K mg base CX0 k f fd ps (spN K mk)/\mg x=some (.ref f)/\PySem.W.keepIn K (.ref f)=true/\Binds K fd ps []
theorem CalN.m {P:Program} {w:World} {K:PySem.W.Frag} {mg:Str->Option Value} {base:Heap} {k k':Nat} {x:Str} {ps:List Str} {mk:List D->Nat->Nat->Option D} (h:CalN P w K mg base k x ps mk) (hk:k<=k':=by decide):CalN P w K mg base k' x ps mk:=by
 obtain ⟨f,fd,a,b⟩:=h.ex
 exact ⟨f,fd,a.mono hk,b⟩
end
end HW
namespace HW
open PySem PySem.Spec PyProof.Rows L2
section
variable {X:Cx} {pos:Pos} {C:Nat} {f:Str}
theorem make_ofS {g:MU} {F:R->Option (List D)} {ps:List Str} {NI:Nat} {ρ:R} {σ:L2.St} {H:Hp} {ds:List D} {Q:VK} (hn:ds.length+1=ps.length) (er:EnvR X.K H ρ σ) (e1:F ρ=some ds) (hw:∀ a,H a=none->∃ l ob,mkOb NI C f g ds a l=some ob)
  (q:∀ a l ob H',H a=none->H l=none->a≠l->mkOb NI C f g ds a l=some ob->Same H H'->Rep X.K H' ob (.ref a)->MutS [a,l] H'->Q (.ref a) H'):tMake C (spI X.K ps.length NI C f g) [] E0 (tDA X.K F) σ H Q:=by
 refine ⟨ρ,ds,er,e1,fun vs H1 s1 r1 a dx ha0 hdx hne=>?_⟩
 rw [List.append_nil]
 have sn:Same H1 (upd (upd H1 dx (.own a)) a (.ins C dx [])):=(aZ hdx _).trans (aZ (by rw [ar (Ne.symm hne)];exact ha0) _)
 have hHa:H a=none:=by
  cases hb:H a with
  | none=>rfl
  | some u=>rw [s1 a u hb] at ha0;cases ha0
 refine ⟨a,ds,hn,⟨.ref a,vs,rfl,⟨[],rfl,⟨rfl,dx,ax⟩,rfl⟩,r1.mono sn⟩,fun l=>?_,fun l ob H' hl hmk kq ro=>⟨rfl,q a l ob H' hHa ?_ ?_ hmk ?_ ro ?_⟩⟩
 ·obtain ⟨_,ob,h1⟩:=hw a hHa
  exact mkOb_some h1 l
 ·cases hb:H l with
  | none=>rfl
  | some u=>rw [sn l u (s1 l u hb)] at hl;cases hl
 ·intro z;rw [<- z,ax] at hl;cases hl
 ·intro b u hb
  have hba:b≠a:=fun z=>by rw [z,hHa] at hb;cases hb
  exact kq b u (fun z=>hba (List.mem_singleton.mp z)) (sn b u (s1 b u hb))
 ·have:=mutS_of ro
  rw [mkOb_adr hmk] at this
  exact this
theorem oq {x cn:Str} {e:Expr} {es:List Expr} {sts:List Stmt} {F:R->Option (List D)} {g w:MU} {fi:Addr} {fd:FuncData} {ps:List Str} {k NI:Nat} {px p p1:Pos} (i:Nat) (hN:X.N.Nodup) (M:Mk X.K C fi) (Fn:FnOk X.prog X.w X.K X.mg X.base CX0 k fi fd ps (spI X.K ps.length NI C f g)) (bd:Binds X.K fd ps [])
  (hr:Room (k+1) X.A) (hm:X.mg cn=some (.ref C)) (ha:SA X (e::es) F) (h2:MSS X sts w) (hn:(e::es).length+1=ps.length:=by rfl) (hg:Gl X cn:=by rfl) (hdb:(cn==("__debug__" : Str))=false:=by decide) (hix:X.N[i]?=some x:=by rfl) (hx:Loc X.env.scope x:=by first | exact Or.inl rfl | exact Or.inr rfl)
  (hs:swapsWith (.Call (.Name cn p) (e::es) [] p1) (some (.Name x px)) pos.line X.env=pure false:=by rfl) (hf:X.fn x=true\/X.env.scope.names.lookup x=some .local:=by first | exact .inl rfl | exact .inr rfl) :
  MSS X (.Assign [.Name x px] (.Call (.Name cn p) (e::es) [] p1) pos::sts) (mMk i (mkOb NI C f g) F w):=by
 have hst:=ha.2.2
 rw [List.all_cons,Bool.and_eq_true] at hst
 have he:=aH es X.env hst.1
 have hpl:=cc (pos:=p1) (env:=X.env) hst.2
 intro S pins s σ H E I ⟨ρ,τ,o,er,mS,eo,qq⟩
 obtain ⟨ds,r,e1,hi,rfl,hw⟩:=mMk_is eo
 have nin:∀ {c:Nat},H c=none->c∉S:=fun {c} hc hz=>by
  have:=mS c hz
  rw [hc] at this;exact this
 have mk1:∀ a,H a=none->∃ l ob,mkOb NI C f g ds a l=some ob:=fun a h=>by
  obtain ⟨b,l,_,h2,h3⟩:=fresh2 (a::S)
  obtain ⟨ob,_,h1,_⟩:=hw a l (fun z=>h3 (by rw [z];exact .head _)) (nin h) (fun z=>h3 (.tail _ z))
  exact ⟨l,ob,h1⟩
 refine wpAny_execs_cons (thn ((lX (i:=i) hN hix hx (mQ M Fn hr hg hm bd .nil pass0 ha.1 hdb he hpl) hs hf) pins s σ H {E with nx:=fun σ' H'=>∃ a l ob,H a=none/\H l=none/\a≠l/\σ'=σ.set i (some (.ref a))/\mkOb NI C f g ds a l=some ob/\Same H H'/\Rep X.K H' ob (.ref a)/\MutS [a,l] H' } I ?_) fun fl s1 z=>?_)
 ·exact make_ofS (by rw [ha.2.1 ρ ds e1];exact hn) er.1 e1 mk1 fun a l ob H1 ha0 hl0 hal hmk sm ro ms=>⟨a,l,ob,ha0,hl0,hal,rfl,hmk,sm,ro,ms⟩
 cases fl with
 | next =>
  obtain ⟨σ',H',I',a,l,ob,hHa,hHl,hal,rfl,hmk,sm,ro,ms⟩:=z
  obtain ⟨ob',ρ',h1,h3⟩:=hw a l hal (nin hHa) (nin hHl)
  rw [hmk] at h1
  cases h1
  have mS':MutS (a::l::S) H':=fun b hb=>by
   rcases List.mem_cons.mp hb with rfl | hb
   ·exact ms _ (.head _)
   ·rcases List.mem_cons.mp hb with rfl | hb
    ·exact ms _ (.tail _ (.head _))
    ·exact mS.same sm b hb
  refine h2 (a::l::S) pins s1 _ H' E I' ⟨ρ.set i (some ob),τ,_,(er.mono sm).set hi ro,mS',h3,fun H2 kq m2=>?_⟩
  intro v rv _
  refine qq H2 (fun b u hn hb=>?_) (fun b hb=>m2 b (.tail _ (.tail _ hb))) v rv (fun j d hj=>by cases hj)
  refine kq b u (fun z=>?_) (sm b u hb)
  rcases List.mem_cons.mp z with rfl | z
  ·rw [hHa] at hb;cases hb
  ·rcases List.mem_cons.mp z with rfl | z
   ·rw [hHl] at hb;cases hb
   ·exact hn z
 | brk=>exact z
 | cont=>exact z
 | ret v=>exact z
theorem sh {x cn:Str} {e:Expr} {es:List Expr} {F:R->Option (List D)} {G:List D->Option D} {g:MU} {fi:Addr} {fd:FuncData} {ps psf:List Str} {k k2 NI:Nat} {p p1 p2 p3:Pos} (Cf:Cal X.prog X.w X.K X.mg X.base k2 x psf G) (hr2:Room k2 X.A) (M:Mk X.K C fi) (Fn:FnOk X.prog X.w X.K X.mg X.base CX0 k fi fd ps (spI X.K ps.length NI C f g)) (bd:Binds X.K fd ps [])
  (hr:Room (k+1) X.A) (hm:X.mg cn=some (.ref C)) (ha:SA X (e::es) F) (hn:(e::es).length+1=ps.length:=by rfl) (hg:Gl X cn:=by rfl) (hdb:(cn==("__debug__" : Str))=false:=by decide) (hgx:Gl X x:=by rfl) (hdx:(x==("__debug__" : Str))=false:=by decide) :
  SE X (.Call (.Name x p2) [.Call (.Name cn p) (e::es) [] p1] [] p3) (callN (mkOb NI C f g) G F):=by
 have hst:=ha.2.2
 rw [List.all_cons,Bool.and_eq_true] at hst
 have he:=aH es X.env hst.1
 have hpl:=cc (pos:=p1) (env:=X.env) hst.2
 obtain ⟨fa,fdx,a0,m0,kp,bd0⟩:=Cf.ex
 refine (jg a0 hr2 hgx m0 kp bd0 .nil pass0 (lz (mQ M Fn hr hg hm bd .nil pass0 ha.1 hdb he hpl) pa_nil) hdx).imp fun σ H Q ⟨ρ,d,er,eq,q⟩=>?_
 obtain ⟨ds,e1,hw⟩:=callN_is eq
 unfold tCall tCons
 refine make_of (by rw [ha.2.1 ρ ds e1];exact hn) er e1 (fun a l h=>let ⟨ob,h1,_⟩:=hw a l h;⟨ob,h1⟩) fun a l ob H1 ha0 hl0 hal hmk sm ro ms=>?_
 obtain ⟨ob',h1,h3⟩:=hw a l hal
 rw [hmk] at h1
 cases h1
 exact ⟨[ob],d,by rw [List.append_nil];exact ⟨.ref a,[],rfl,ro,rfl⟩,h3,fun v H2 s2 r2=>q v H2 (sm.trans s2) r2⟩
theorem qX {ds:List D} (h:nobs (enumD ds)=true):nobs ds=true:=by
 have key:∀ (ds:List D) (n:Nat),nobs ((ds.zipIdx n).map fun p=>.tup [.int (p.2:Int),p.1])=true->nobs ds=true:=fun ds=>by
  induction ds with
  | nil=>intro _ _;rfl
  | cons d ds ih =>
   intro n h
   rw [List.zipIdx_cons,List.map_cons] at h
   have h':((true&&(nob d&&true))&&nobs ((ds.zipIdx (n+1)).map fun p=>.tup [.int (p.2:Int),p.1]))=true:=h
   rw [Bool.and_eq_true] at h'
   show (nob d&&nobs ds)=true
   rw [ih _ h'.2]
   simpa using h'.1
 exact key ds 0 h
theorem lC {K:PySem.W.Frag} {S:List Nat} {H:Hp} {a:Addr} {ds:List D} {xs:List V} (m:MutS S H) (hn:nobs ds=true) (hq:SqT K H a xs) (t:Reps K H ds xs):YieldsM K S (Ite K a) (enumD ds) H:=by
 refine ⟨fun i d H2 k e=>?_,fun i H2 k hl=>⟨xs,k.tup m hq,by rw [<- t.length];rw [enumD_length] at hl;exact hl⟩⟩
 obtain ⟨x,ex,rfl⟩:=enumD_get e
 obtain ⟨v,h1,h2⟩:=(Reps.kq m k hn t).get ex
 refine ⟨⟨xs,v,k.tup m hq,h1⟩,?_⟩
 rintro p H3 ⟨b,v',rfl,hb,rfl,w1⟩
 have hv:v'=v:=by
  have:=w1 xs (k.tup m hq)
  rw [h1] at this
  exact (Option.some.inj this).symm
 subst hv
 have s3:=aZ hb (.tup [.int (i:Int),v'])
 exact ⟨s3,b,[.int (i:Int),v'],rfl,SqT.of ax,_,[v'],rfl,rfl,v',[],rfl,h2.mono s3,rfl⟩
theorem su {es:List Expr} {x1:_} {tp:Pos} {a:Expr} {f:R->Option D} {p pos:Pos} (hm:X.mg "enumerate" = none) (ha:SE X a f) (hg:Gl X "enumerate":=by rfl) (hs:noStar a=true:=by rfl) :
  SIM X (.Tuple es x1 tp) (.Call (.Name "enumerate" p) [a] [] pos) (inEnum f):=by
 have z1:=aH [] X.env hs
 intro S pins s σ H W I ⟨ρ,ds,er,mS,e,hno,q⟩
 obtain ⟨x,e1,e⟩:=bindS e
 match x,e with
 | .tup xs,e =>
  cases e
  have PAA:=(ab ha ae hs).1
  refine Call_ (eZ I hg hm (u:=.type "enumerate") (by kernel_rfl) (PyProof.Rows.callWith_type1 (thn (PAA pos pins s σ H (fun vs H1=>Same H H1/\Reps X.K H1 [.tup xs] vs) I
   ⟨ρ,[.tup xs],er,by show (f ρ).bind _=_;rw [e1];rfl,fun vs H1 s1 r1=>⟨s1,r1⟩⟩) fun us s1 ⟨vs,H1,I1,r1,s01,rp⟩=>?_) (by rw [z1]) rfl))
  obtain ⟨v,r',rfl,⟨b,ys,rfl,hq,t⟩,rr⟩:=rp
  cases (show r'=[] from rr)
  obtain ⟨u,rfl,ru⟩:=r1.one
  cases (show u=_ from ru)
  obtain ⟨its,rv,p,hz⟩:=I1.tuple hq
  refine qN p fun h' he hit kept=>?_
  refine wpAny_pyIter_enum (s:={s1 with heap:=h' }) he ?_
  have l1:s1.heap.objs.size<=s1.heap.objs.size+1:=Nat.le_succ _
  have hne:(show Addr from s1.heap.objs.size+1)≠(show Addr from s1.heap.objs.size):=Nat.succ_ne_self _
  refine ⟨s1.heap.objs.size+1,[s1.heap.objs.size+1,s1.heap.objs.size],_,_,H1,rfl,I1.kept (t':=s1.toks) kept,turn_enum hne,⟨⟨_,he⟩,hit⟩,fun c hc=>?_,q _ H1 s01 (lC (mS.same s01) (qX hno) hq t)⟩
  rcases List.mem_cons.mp hc with rfl | hc
  ·exact I1.fpOk l1 (I1.hok.fresh l1)
  ·cases (List.mem_singleton.mp hc)
   exact I1.fpOk (Nat.le_refl _) (I1.hok.fresh (Nat.le_refl _))
end
end HW
set_option maxRecDepth 10000
namespace HW
open PySem
def fG:D:=.tup [.str (Str.ofString "a"),.str (Str.ofString "b"),.str (Str.ofString "c")]
def cq:D:=.int 0
def bj:D:=.int 1
def bo:D:=.int 2
def cy:D:=.int 3
def aV:D:=.int 4
def eh:D:=.int 5
def bz:D:=.int 6
def dq:D:=.int 7
def fo:D:=.int 4
def eV:D:=.int 10
def eQ:D:=.int 86400
def dk:D:=.int 1000000000000000000
def bQ:D:=.int 18
def gX:D:=.str (Str.ofString "0123456789")
def dl:List Str:=[Str.ofString "a",Str.ofString "b",Str.ofString "c",Str.ofString "A",Str.ofString "B",Str.ofString "C"]
theorem loop_of {it:R->Option (List D)} {st:D->R->Option R} {body:R->Option Out} {ρ:R} {ds:List D} {o:Out} (h1:it ρ=some ds) (h2:forD st body ds ρ=some o):loopD it st body ρ=some o:=by simp [h1,h2]
theorem seqN {f g:R->Option Out} {ρ ρ2:R} (h:f ρ=some (.nx ρ2)):seqD f g ρ=g ρ2:=by simp [h]
theorem ifT {c:R->Option Bool} {f g:R->Option Out} {ρ:R} (h:c ρ=some true):ifD c f g ρ=f ρ:=by simp [h]
theorem ifF {c:R->Option Bool} {f g:R->Option Out} {ρ:R} (h:c ρ=some false):ifD c f g ρ=g ρ:=by simp [h]
theorem seqR {f g:R->Option Out} {ρ:R} {d:D} (h:f ρ=some (.rt d)):seqD f g ρ=some (.rt d):=by simp [h]
theorem asgS {f:R->Option D} {st:D->R->Option R} {ρ ρ':R} {d:D} (h:f ρ=some d) (h2:st d ρ=some ρ'):asgD f st ρ=some (.nx ρ'):=by simp [h,h2]
theorem callS {F:List D->Option D} {g:R->Option (List D)} {ρ:R} {ds:List D} {d:D} (h:g ρ=some ds) (h2:F ds=some d):callD F g ρ=some d:=by simp [h,h2]
theorem arS {f:R->Option D} {g:R->Option (List D)} {ρ:R} {d:D} {ds:List D} (h:f ρ=some d) (h2:g ρ=some ds):argC f g ρ=some (d::ds):=by simp [h,h2]
theorem opS {F:D->D->Option D} {f g:R->Option D} {ρ:R} {x y z:D} (h1:f ρ=some x) (h2:g ρ=some y) (h:F x y=some z):op2 F f g ρ=some z:=by simp only [op2,h1,h2,Option.bind_some,h]
theorem cmS {F:D->D->Option Bool} {f g:R->Option D} {ρ:R} {x y:D} {b:Bool} (h1:f ρ=some x) (h2:g ρ=some y) (h:F x y=some b):cmp2 F f g ρ=some b:=by simp only [cmp2,h1,h2,Option.bind_some,h]
theorem tupS {g:R->Option (List D)} {ρ:R} {ds:List D} (h:g ρ=some ds):tupD g ρ=some (.tup ds):=by simp [h]
theorem asS {c:R->Option Bool} {ρ:R} {b:Bool} (h:c ρ=some b):asV c ρ=some (.bl b):=by simp [h]
theorem slS {f:R->Option D} {l h:R->Option (Option Int)} {ρ:R} {x d:D} {a b:Option Int} (h1:f ρ=some x) (h2:l ρ=some a) (h3:h ρ=some b) (h4:dSl x a b=some d):slD f l h ρ=some d:=by simp only [slD,h1,h2,h3,Option.bind_some,h4]
theorem orF {c d:R->Option Bool} {ρ:R} (h1:c ρ=some false) (h2:d ρ=some false):orT c d ρ=some false:=by simp [h1,h2]
theorem anV {f g:R->Option D} {ρ:R} {d:D} (h1:f ρ=some (.bl true)) (h2:g ρ=some d):andV f g ρ=some d:=by simp [h1,h2]
theorem ntS {c:R->Option Bool} {ρ:R} {b:Bool} (h:c ρ=some b):notT c ρ=some (!b):=by simp [h]
theorem trS {f:R->Option D} {ρ:R} {b:Bool} (h:f ρ=some (.bl b)):truT f ρ=some b:=by simp [h]
theorem ieT {c:R->Option Bool} {f g:R->Option D} {ρ:R} {d:D} (h:c ρ=some true) (h2:f ρ=some d):ifE c f g ρ=some d:=by simp [h,h2]
theorem ieF {c:R->Option Bool} {f g:R->Option D} {ρ:R} {d:D} (h:c ρ=some false) (h2:g ρ=some d):ifE c f g ρ=some d:=by simp [h,h2]
theorem orL {c d:R->Option Bool} {ρ:R} (h1:c ρ=some true):orT c d ρ=some true:=by simp [h1]
theorem orR {c d:R->Option Bool} {ρ:R} {b:Bool} (h1:c ρ=some false) (h2:d ρ=some b):orT c d ρ=some b:=by simp [h1,h2]
theorem lstS {g:R->Option (List D)} {ρ:R} {ds:List D} (h:g ρ=some ds):lstD g ρ=some (.lst ds):=by simp [h]
theorem o1S {F:D->Option D} {f:R->Option D} {ρ:R} {x z:D} (h1:f ρ=some x) (h:F x=some z):op1 F f ρ=some z:=by simp only [op1,h1,Option.bind_some,h]
theorem viaS {k n:Nat} {g:R->Option Out} {ds:List D} {d:D} (h:g (beg n ds)=some (.rt d)) (hl:ds.length=k:=by rfl):via k n g ds=some d:=by unfold via;rw [if_pos hl,h];rfl
theorem anVF {f g:R->Option D} {ρ:R} (h1:f ρ=some (.bl false)):andV f g ρ=some (.bl false):=by simp [h1]
theorem retS {f:R->Option D} {ρ:R} {d:D} (h:f ρ=some d):retD f ρ=some (.rt d):=by simp [h]
theorem modS {i j:Int} (h:0<j):dMod (.int i) (.int j)=some (.int (i%j)):=by simp [h]
theorem mulS {i j:Int} (h:mulFits i j=true):dMul (.int i) (.int j)=some (.int (i*j)):=by
 show (if mulFits i j=true then _ else none)=_
 rw [if_pos h]
theorem mdS {i j q:Int} (h:0<j) (e:i%j=q):dMod (.int i) (.int j)=some (.int q):=by rw [<- e];exact modS h
theorem bqT {i:Int} (h:i=0):some (i==0)=some true:=by rw [h];rfl
theorem bqF {i:Int} (h:¬ i=0):some (i==0)=some false:=by rw [beq_eq_false_iff_ne.mpr h]
theorem dT {p:Prop} [Decidable p] (h:p):some (decide p)=some true:=by rw [decide_eq_true h]
theorem dF {p:Prop} [Decidable p] (h:¬ p):some (decide p)=some false:=by rw [decide_eq_false h]
mutual
theorem eqD_refl:∀ d:D,nob d=true->eqD d d=true
 | .non,_=>rfl
 | .bl b,_=>beq_self_eq_true b
 | .int i,_=>beq_self_eq_true i
 | .str x,_=>beq_self_eq_true x
 | .tup xs,h=>eqDs_refl xs h
 | .lst xs,h=>eqDs_refl xs h
 | .fro xs,h=>eqDs_refl xs h
 | .obj ..,h=>by cases h
theorem eqDs_refl:∀ ds:List D,nobs ds=true->eqDs ds ds=true
 | [],_=>rfl
 | d::ds,h=>by
  have h':(nob d&&nobs ds)=true:=h
  rw [Bool.and_eq_true] at h'
  show (eqD d d&&eqDs ds ds)=true
  rw [eqD_refl d h'.1,eqDs_refl ds h'.2];rfl
end
theorem cEqD_refl {d:D} (h:depD d<=100) (h2:layD d=true):cEqD d d=some true:=by unfold cEqD;rw [if_pos ⟨h,h2,h2⟩,eqD_refl _ (bS h2)]
theorem cNeD_refl {d:D} (h:depD d<=100) (h2:layD d=true):cNeD d d=some false:=by unfold cNeD;rw [cEqD_refl h h2];rfl
theorem depDs_ints (l:List Int):depDs (l.map D.int)=0:=by induction l with | nil=>rfl | cons a l ih=>simp [depDs,depD,ih]
theorem layDs_ints (l:List Int):layDs (l.map D.int)=true:=by induction l with | nil=>rfl | cons a l ih=>simp [layDs,layD,ih]
theorem ji (x:Btn):layD (.str x.x)=true:=by rw [layD];cases x<;>decide +kernel
theorem nZ (h:Option (Btn×Option Int)):depD (heldD h)<=1:=by rcases h with _ | ⟨x,_ | k⟩<;>simp [heldD,optI,depD,depDs]
theorem sj (h:Option (Btn×Option Int)):layD (heldD h)=true:=by
 rcases h with _ | ⟨x,_ | k⟩
 ·rfl
 ·simp [heldD,optI,layD,layDs];have:=ji x;simp [layD] at this;exact this
 ·simp [heldD,optI,layD,layDs];have:=ji x;simp [layD] at this;exact this
theorem uw (s:WS):depD s.d<=100:=by
 have h:=nZ s.held
 simp [WS.d,WS.alarmD,WS.lapsD,WS.countD,depD,depDs,depDs_ints]
 omega
theorem lP (s:WS):layD s.d=true:=by
 have h:=sj s.held
 simp [WS.d,WS.alarmD,WS.lapsD,WS.countD,layD,layDs,layDs_ints,h]
theorem ws_eq (s:WS):cEqD s.d s.d=some true:=cEqD_refl (uw s) (lP s)
theorem sl8:8<=sizeLine:=by decide
theorem w0 (s:WS):dIx s.d (.int 0)=some (.int (s.mode:Int)):=rfl
theorem w1 (s:WS):dIx s.d (.int 1)=some (.int s.clock):=rfl
theorem w2 (s:WS):dIx s.d (.int 2)=some s.alarmD:=rfl
theorem w3 (s:WS):dIx s.d (.int 3)=some s.lapsD:=rfl
theorem w4 (s:WS):dIx s.d (.int 4)=some s.countD:=rfl
theorem w5 (s:WS):dIx s.d (.int 5)=some (.int s.ring):=rfl
theorem w6 (s:WS):dIx s.d (.int 6)=some (heldD s.held):=rfl
theorem w7 (s:WS):dIx s.d (.int 7)=some (.int s.idle):=rfl
theorem wa0 (s:WS):dIx s.alarmD (.int 0)=some (.int s.ah):=rfl
theorem wa1 (s:WS):dIx s.alarmD (.int 1)=some (.int s.am):=rfl
theorem wa2 (s:WS):dIx s.alarmD (.int 2)=some (.bl s.aon):=rfl
theorem wl0 (s:WS):dIx s.lapsD (.int 0)=some (.int s.lm):=rfl
theorem wl1 (s:WS):dIx s.lapsD (.int 1)=some (.bl s.lr):=rfl
theorem wl2 (s:WS):dIx s.lapsD (.int 2)=some (.tup (s.lk.map .int)):=rfl
theorem wc0 (s:WS):dIx s.countD (.int 0)=some (.int s.cm):=rfl
theorem wc1 (s:WS):dIx s.countD (.int 1)=some (.int s.cs):=rfl
theorem wc2 (s:WS):dIx s.countD (.int 2)=some (.int s.cl):=rfl
theorem wc3 (s:WS):dIx s.countD (.int 3)=some (.bl s.cr):=rfl
theorem b0 (b:Bk):dIx b.d (.int 0)=some (.int b.hold):=rfl
theorem b1 (b:Bk):dIx b.d (.int 1)=some (.int b.back):=rfl
theorem b2 (b:Bk):dIx b.d (.int 2)=some (.tup (b.modes.map Md.d)):=rfl
theorem m0 (m:Md):dIx m.d (.int 0)=some (.str m.face.x):=rfl
theorem m1 (m:Md):dIx m.d (.int 1)=some (.bl m.stays):=rfl
theorem m2 (m:Md):dIx m.d (.int 2)=some (.tup (m.rows.map rowD)):=rfl
theorem r0 (r:Deed×Nat):dIx (rowD r) (.int 0)=some (.str r.1.x):=rfl
theorem r1 (r:Deed×Nat):dIx (rowD r) (.int 1)=some (.int (r.2:Int)):=rfl
theorem h0 (x:Btn) (k:Option Int):dIx (heldD (some (x,k))) (.int 0)=some (.str x.x):=rfl
theorem h1 (x:Btn) (k:Option Int):dIx (heldD (some (x,k))) (.int 1)=some (optI k):=rfl
theorem atD_nat {xs:List D} {i:Nat} (h:i<xs.length):atD xs (i:Int)=some xs[i]:=by
 unfold atD ixD
 rw [if_pos (by omega),if_pos (by omega)]
 simp [h]
theorem lV (b:Bk) {m:Nat} (h:m<b.modes.length):dIx (.tup (b.modes.map Md.d)) (.int (m:Int))=some (b.modes.getD m default).d:=by
 show atD _ _=_
 rw [atD_nat (by simpa using h)]
 simp [List.getD_eq_getElem?_getD,h]
theorem uS (m:Md) {i:Nat} (h:i<m.rows.length):dIx (.tup (m.rows.map rowD)) (.int (i:Int))=some (rowD (m.rows.getD i (.none,0))):=by
 show atD _ _=_
 rw [atD_nat (by simpa using h)]
 simp [List.getD_eq_getElem?_getD,h]
theorem sC (b:Bk) {m:Nat} (h:m<b.modes.length):b.modes.getD m default∈b.modes:=by
 have e:b.modes.getD m default=b.modes[m]:=by simp [List.getD_eq_getElem?_getD,h]
 rw [e];exact List.getElem_mem h
theorem mulL {i j:Int} (h1 : -(2 ^ 64)<i) (h2:i<2 ^ 64):dMul (.int i) (.int j)=some (.int (i*j)):=by simp [mulFits_l h1 h2]
theorem mul3600 (j:Int):dMul (.int 3600) (.int j)=some (.int (3600*j)):=mulL (by decide) (by decide)
theorem mul60 (j:Int):dMul (.int 60) (.int j)=some (.int (60*j)):=mulL (by decide) (by decide)
theorem not_non (k:Option Int):cNotN (optI k) .non=some k.isSome:=by cases k<;>rfl
theorem fmx (i j:Int):fMax [.int i,.int j]=some (.int (mx i j)):=rfl
def whole:D->Bool
 | .int _=>true
 | _=>false
def within (d:D) (l m:Int):Bool:=match d with
 | .int i=>decide (l<=i)&&decide (i<=m)
 | _=>false
def oneOf (d:D) (ws:List D):Bool:=match d with
 | .str x=>ws.any fun y=>eqF y (.str x)
 | _=>false
def tupOf (d:D) (m:Int):Bool:=match d with
 | .tup xs=>(xs.length:Int)==m
 | _=>false
def deeds:List D:=[.str (Str.ofString "none"),.str (Str.ofString "hour"),.str (Str.ofString "minute"),.str (Str.ofString "zero"),.str (Str.ofString "ahour"),.str (Str.ofString "aminute"),.str (Str.ofString "alarm"),.str (Str.ofString "run"),.str (Str.ofString "lap"),.str (Str.ofString "cminute"),.str (Str.ofString "csecond"),.str (Str.ofString "full"),.str (Str.ofString "count")]
def faces:List D:=[.str (Str.ofString "time"),.str (Str.ofString "alarm"),.str (Str.ofString "laps"),.str (Str.ofString "count")]
def rowOk (d:D) (m:Int):Bool:=match d with
 | .tup [a,b]=>oneOf a deeds&&within b 0 (m - 1)
 | _=>false
def rowsOk (d:D) (m:Int):Bool:=match d with
 | .tup xs=>xs.length==6&&xs.all fun x=>rowOk x m
 | _=>false
def modeOk (d:D) (m:Int):Bool:=match d with
 | .tup [a,b,c]=>oneOf a faces&&(isI b "bool" && rowsOk c m)
 | _=>false
def modesOk (d:D):Bool:=match d with
 | .tup xs=>decide (1<=xs.length)&&(decide (xs.length<=8)&&xs.all fun x=>modeOk x xs.length)
 | _=>false
def bookOk (d:D):Bool:=match d with
 | .tup [a,b,c]=>within a 1 9&&(within b 0 60&&modesOk c)
 | _=>false
theorem within_int {d:D} {l h:Int} (e:within d l h=true):∃ i:Int,d=.int i/\l<=i/\i<=h:=by
 cases d with
 | int i=>simp [within] at e;exact ⟨i,rfl,e⟩
 | _=>cases e
theorem isI_bool {d:D} (e:isI d "bool" = true):∃ b,d=.bl b:=by
 cases d with
 | bl b=>exact ⟨b,rfl⟩
 | _=>simp at e
theorem oneOf_str {d:D} {ws:List D} (e:oneOf d ws=true):∃ x,d=.str x/\(ws.any fun y=>eqF y (.str x))=true:=by
 cases d with
 | str x=>exact ⟨x,rfl,e⟩
 | _=>cases e
theorem deed_of {d:D} (e:oneOf d deeds=true):∃ k:Deed,d=.str k.x:=by
 obtain ⟨x,rfl,h⟩:=oneOf_str e
 obtain ⟨y,hy,h⟩:=List.any_eq_true.mp h
 have q:∀ w:Str,eqF (.str w) (.str x)=true->w=x:=fun w z=>beq_iff_eq.mp z
 simp only [deeds,List.mem_cons,List.not_mem_nil,or_false] at hy
 rcases hy with rfl | rfl | rfl | rfl | rfl | rfl | rfl | rfl | rfl | rfl | rfl | rfl | rfl
 ·exact ⟨.none,congrArg D.str (q _ h).symm⟩
 ·exact ⟨.hour,congrArg D.str (q _ h).symm⟩
 ·exact ⟨.minute,congrArg D.str (q _ h).symm⟩
 ·exact ⟨.zero,congrArg D.str (q _ h).symm⟩
 ·exact ⟨.ahour,congrArg D.str (q _ h).symm⟩
 ·exact ⟨.aminute,congrArg D.str (q _ h).symm⟩
 ·exact ⟨.alarm,congrArg D.str (q _ h).symm⟩
 ·exact ⟨.run,congrArg D.str (q _ h).symm⟩
 ·exact ⟨.lap,congrArg D.str (q _ h).symm⟩
 ·exact ⟨.cminute,congrArg D.str (q _ h).symm⟩
 ·exact ⟨.csecond,congrArg D.str (q _ h).symm⟩
 ·exact ⟨.full,congrArg D.str (q _ h).symm⟩
 ·exact ⟨.count,congrArg D.str (q _ h).symm⟩
theorem face_of {d:D} (e:oneOf d faces=true):∃ k:Face,d=.str k.x:=by
 obtain ⟨x,rfl,h⟩:=oneOf_str e
 obtain ⟨y,hy,h⟩:=List.any_eq_true.mp h
 have q:∀ w:Str,eqF (.str w) (.str x)=true->w=x:=fun w z=>beq_iff_eq.mp z
 simp only [faces,List.mem_cons,List.not_mem_nil,or_false] at hy
 rcases hy with rfl | rfl | rfl | rfl
 ·exact ⟨.time,congrArg D.str (q _ h).symm⟩
 ·exact ⟨.alarm,congrArg D.str (q _ h).symm⟩
 ·exact ⟨.laps,congrArg D.str (q _ h).symm⟩
 ·exact ⟨.count,congrArg D.str (q _ h).symm⟩
theorem uV {d:D} {n:Nat} (e:rowOk d n=true):∃ r:Deed×Nat,d=rowD r/\r.2<n:=by
 unfold rowOk at e
 split at e
 ·rw [Bool.and_eq_true] at e
  obtain ⟨k,rfl⟩:=deed_of e.1
  obtain ⟨i,rfl,h0,h1⟩:=within_int e.2
  refine ⟨(k,i.toNat),?_,?_⟩
  ·simp [rowD,Int.toNat_of_nonneg h0]
  ·simp;omega
 ·cases e
theorem list_of {α:Type} {f:α->D} {P:α->Prop} {q:D->Bool} (h:∀ d,q d=true->∃ a,d=f a/\P a):∀ {ds:List D},ds.all q=true->∃ as:List α,ds=as.map f/\∀ a∈as,P a
 | [],_=>⟨[],rfl,fun _ h=>by cases h⟩
 | d::ds,e=>by
  rw [List.all_cons,Bool.and_eq_true] at e
  obtain ⟨a,rfl,ha⟩:=h d e.1
  obtain ⟨as,rfl,hs⟩:=list_of h e.2
  exact ⟨a::as,rfl,fun x hx=>by rcases List.mem_cons.mp hx with rfl | hx;exact ha;exact hs x hx⟩
theorem tX {d:D} {n:Nat} (e:modeOk d n=true):∃ m:Md,d=m.d/\m.Ok n:=by
 unfold modeOk at e
 split at e
 ·rename_i a b c
  rw [Bool.and_eq_true,Bool.and_eq_true] at e
  obtain ⟨f,rfl⟩:=face_of e.1
  obtain ⟨s,rfl⟩:=isI_bool e.2.1
  have e2:=e.2.2
  cases c with
  | tup xs =>
   unfold rowsOk at e2
   simp only [Bool.and_eq_true] at e2
   obtain ⟨rs,rfl,hr⟩:=list_of (f:=rowD) (P:=fun r=>r.2<n) (fun d h=>uV h) e2.2
   refine ⟨⟨f,s,rs⟩,rfl,?_,hr⟩
   have:=e2.1
   simpa using this
  | _=>cases e2
 ·cases e
theorem tP {d:D} (e:bookOk d=true):∃ b:Bk,d=b.d/\b.Ok:=by
 unfold bookOk at e
 split at e
 ·rename_i a b c
  rw [Bool.and_eq_true,Bool.and_eq_true] at e
  obtain ⟨i,rfl,i0,i1⟩:=within_int e.1
  obtain ⟨j,rfl,j0,j1⟩:=within_int e.2.1
  have e2:=e.2.2
  cases c with
  | tup xs =>
   unfold modesOk at e2
   simp only [Bool.and_eq_true] at e2
   obtain ⟨h1,h2,h3⟩:=e2
   obtain ⟨ms,hm,hok⟩:=list_of (f:=Md.d) (P:=fun m=>m.Ok xs.length) (fun d h=>tX h) h3
   have hl:xs.length=ms.length:=by rw [hm];simp
   refine ⟨⟨i,j,ms⟩,by rw [hm];rfl,i0,i1,j0,j1,?_,?_,?_⟩
   ·have:=of_decide_eq_true h1;show 1<=ms.length;omega
   ·have:=of_decide_eq_true h2;show ms.length<=8;omega
   ·rw [hl] at hok;exact hok
  | _=>cases e2
 ·cases e
def gp:R->Option Out :=
  (seqD (asgD (op2 dMod (op2 dMul (op2 dAdd (op2 dAdd (vAt 0) (op2 dMul (fun _=>some (.int 104729)) (vAt 1))) (fun _=>some (.int 17))) (fun _=>some (.int 69621))) (fun _=>some (.int 2147483647))) (setAt 2))
  (retD (op2 dMod (op2 dAdd (op2 dAdd (op2 dMul (vAt 2) (vAt 2)) (op2 dMul (fun _=>some (.int 3)) (vAt 2))) (vAt 1)) (fun _=>some (.int 2147483629)))))
def aG:List D->Option D:=via 2 3 gp
theorem lw:∀ ds d,aG ds=some d->retOf (gp (beg 3 ds))=some d:=fun _ _ h=>aB h
def drawnI (n k:Int):Int:=((n+104729*k+17)*69621%2147483647*((n+104729*k+17)*69621%2147483647)+3*((n+104729*k+17)*69621%2147483647)+k)%2147483629
theorem drawn_some (n k:Int):aG [.int n,.int k]=some (.int (drawnI n k)):=by
 unfold drawnI
 generalize hq:(n+104729*k+17)*69621%2147483647=q
 have q0:0<=q:=by rw [<- hq];exact Int.emod_nonneg _ (by decide)
 have q1:q<2147483647:=by rw [<- hq];exact Int.emod_lt_of_pos _ (by decide)
 have m1:mulFits 104729 k=true:=mulFits_l (by decide) (by decide)
 have m2:mulFits (n+104729*k+17) 69621=true:=mulFits_r (by decide) (by decide)
 have m3:mulFits q q=true:=mulFits_l (by omega) (by omega)
 have m4:mulFits 3 q=true:=mulFits_l (by decide) (by decide)
 exact viaS ((seqN (asgS (opS (opS (opS (opS rfl (opS rfl rfl (mulS m1)) rfl) rfl rfl) rfl (mulS m2)) rfl (mdS (by decide) hq)) rfl)).trans (retS (opS (opS (opS (opS rfl rfl (mulS m3)) (opS rfl rfl (mulS m4)) rfl) rfl rfl) rfl (modS (by decide)))))
theorem mR:∀ ds d,aG ds=some d->ds.length=2:=fun _ _ h=>ao h
def iJ:R->Option Out :=
  (seqD (asgD (op2 dAdd (fun _=>some (.int 1)) (op2 dMod (vAt 0) (fun _=>some (.int 8)))) (setAt 1))
  (seqD (asgD (tupD (argC (fun _=>some (.str (Str.ofString "none"))) (argC (fun _=>some (.str (Str.ofString "hour"))) (argC (fun _=>some (.str (Str.ofString "minute"))) (argC (fun _=>some (.str (Str.ofString "zero"))) (argC (fun _=>some (.str (Str.ofString "ahour"))) (argC (fun _=>some (.str (Str.ofString "aminute"))) (argC (fun _=>some (.str (Str.ofString "alarm"))) (argC (fun _=>some (.str (Str.ofString "run"))) (argC (fun _=>some (.str (Str.ofString "lap"))) (argC (fun _=>some (.str (Str.ofString "cminute"))) (argC (fun _=>some (.str (Str.ofString "csecond"))) (argC (fun _=>some (.str (Str.ofString "full"))) argN))))))))))))) (setAt 2))
  (seqD (asgD (tupD argN) (setAt 3))
  (seqD (loopD (inRng1 (vAt 1)) (setAt 4)
  (seqD (asgD (op2 dDiv (callD aG (argC (vAt 0) (argC (vAt 4) argN))) (fun _=>some (.int 4))) (setAt 5))
  (seqD (asgD (tupD argN) (setAt 6))
  (seqD (loopD (inRng1 (fun _=>some (.int 6))) (setAt 7)
  (seqD (asgD (op2 dDiv (callD aG (argC (vAt 5) (argC (op2 dAdd (fun _=>some (.int 10)) (vAt 7)) argN))) (fun _=>some (.int 4))) (setAt 8))
  (asgD (op2 dAdd (vAt 6) (tupD (argC (tupD (argC (op2 dIx (op2 dAdd (vAt 2) (tupD (argC (fun _=>some (.str (Str.ofString "count"))) argN))) (op2 dMod (vAt 8) (fun _=>some (.int 13)))) (argC (op2 dMod (op2 dDiv (vAt 8) (fun _=>some (.int 16))) (vAt 1)) argN))) argN))) (setAt 6))))
  (seqD (asgD (op2 dIx (tupD (argC (fun _=>some (.str (Str.ofString "time"))) (argC (fun _=>some (.str (Str.ofString "alarm"))) (argC (fun _=>some (.str (Str.ofString "laps"))) (argC (fun _=>some (.str (Str.ofString "count"))) argN))))) (op2 dMod (vAt 5) (fun _=>some (.int 4)))) (setAt 9))
  (asgD (op2 dAdd (vAt 3) (tupD (argC (tupD (argC (vAt 9) (argC (asV (cmp2 cEq (op2 dMod (op2 dDiv (vAt 5) (fun _=>some (.int 4))) (fun _=>some (.int 2))) (fun _=>some (.int 0)))) (argC (vAt 6) argN)))) argN))) (setAt 3)))))))
  (retD (tupD (argC (op2 dAdd (fun _=>some (.int 1)) (op2 dMod (op2 dDiv (vAt 0) (fun _=>some (.int 8))) (op2 dIx (tupD (argC (fun _=>some (.int 3)) (argC (fun _=>some (.int 9)) argN))) (op2 dMod (op2 dDiv (vAt 0) (fun _=>some (.int 128))) (fun _=>some (.int 2)))))) (argC (op2 dIx (tupD (argC (fun _=>some (.int 0)) (argC (fun _=>some (.int 7)) (argC (fun _=>some (.int 60)) (argC (fun _=>some (.int 1)) (argC (fun _=>some (.int 20)) argN)))))) (op2 dMod (op2 dDiv (vAt 0) (fun _=>some (.int 256))) (fun _=>some (.int 5)))) (argC (vAt 3) argN)))))))))
def bW:List D->Option D:=via 1 10 iJ
theorem nC:∀ ds d,bW ds=some d->retOf (iJ (beg 10 ds))=some d:=fun _ _ h=>aB h
def deeds12:List D:=[.str (Str.ofString "none"),.str (Str.ofString "hour"),.str (Str.ofString "minute"),.str (Str.ofString "zero"),.str (Str.ofString "ahour"),.str (Str.ofString "aminute"),.str (Str.ofString "alarm"),.str (Str.ofString "run"),.str (Str.ofString "lap"),.str (Str.ofString "cminute"),.str (Str.ofString "csecond"),.str (Str.ofString "full")]
theorem deeds_in:∀ x∈deeds,oneOf x deeds=true/\Fits x:=by
 intro x hx
 simp only [deeds,List.mem_cons,List.not_mem_nil,or_false] at hx
 rcases hx with h | h | h | h | h | h | h | h | h | h | h | h | h<;>subst h<;>exact ⟨by decide,.str _⟩
theorem faces_in:∀ x∈faces,oneOf x faces=true/\Fits x:=by
 intro x hx
 simp only [faces,List.mem_cons,List.not_mem_nil,or_false] at hx
 rcases hx with h | h | h | h<;>subst h<;>exact ⟨by decide,.str _⟩
def turnRow:R->Option Out:=(seqD (asgD (op2 dDiv (callD aG (argC (vAt 5) (argC (op2 dAdd (fun _=>some (.int 10)) (vAt 7)) argN))) (fun _=>some (.int 4))) (setAt 8))
 (asgD (op2 dAdd (vAt 6) (tupD (argC (tupD (argC (op2 dIx (op2 dAdd (vAt 2) (tupD (argC (fun _=>some (.str (Str.ofString "count"))) argN))) (op2 dMod (vAt 8) (fun _=>some (.int 13)))) (argC (op2 dMod (op2 dDiv (vAt 8) (fun _=>some (.int 16))) (vAt 1)) argN))) argN))) (setAt 6)))
theorem sz {n:Nat} (h:n<=1000):n<=sizeLine:=Nat.le_trans h (by decide)
theorem sw {N m:Int} {ms rs:List D} {a b f:Option D} {q j:Int} (hm:0<m) (hr:rs.length<=100) (hk:∀ x∈rs,rowOk x m=true/\Fits x) :
  ∃ o r,turnRow [some (.int N),some (.int m),some (.tup deeds12),some (.tup ms),a,some (.int q),some (.tup rs),some (.int j),b,f]=some (.nx [some (.int N),some (.int m),some (.tup deeds12),some (.tup ms),a,some (.int q),some (.tup (rs++[r])),some (.int j),o,f])/\rowOk r m=true/\Fits r:=by
 generalize hz:drawnI q (10+j) / 4=z
 obtain ⟨x,hx,hat⟩:=atD_some (xs:=deeds) (i:=z%13) (Int.emod_nonneg _ (by decide)) (Int.emod_lt_of_pos _ (by decide))
 have w0:0<=z / 16%m:=Int.emod_nonneg _ (by omega)
 have w1:z / 16%m<m:=Int.emod_lt_of_pos _ hm
 have hl:rs.length+1<=sizeLine:=sz (by omega)
 have hd:deeds12++[.str (Str.ofString "count")]=deeds:=rfl
 have hs:deeds12.length+1<=sizeLine:=by decide
 refine ⟨some (.int z),.tup [x,.int (z / 16%m)],?_,?_,?_⟩
 ·have ha:dAdd (.tup deeds12) (.tup [.str (Str.ofString "count")])=some (.tup deeds):=by
   show (if deeds12.length+1<=sizeLine then some (D.tup (deeds12++[.str (Str.ofString "count")])) else none)=_
   rw [if_pos hs,hd]
  have hb:dAdd (.tup rs) (.tup [.tup [x,.int (z / 16%m)]])=some (.tup (rs++[.tup [x,.int (z / 16%m)]])):=by
   show (if rs.length+1<=sizeLine then _ else none)=_
   rw [if_pos hl]
  have hv:dDiv (.int (drawnI q (10+j))) (.int 4)=some (.int z):=by rw [<- hz];rfl
  exact (seqN (asgS (opS (callS (arS rfl (arS (opS rfl rfl rfl) rfl)) (drawn_some _ _)) rfl hv) rfl)).trans (asgS (opS rfl (tupS (arS (tupS (arS (opS (opS rfl rfl ha) (opS rfl rfl (modS (by decide))) hat) (arS (opS (opS rfl rfl rfl) rfl (modS hm)) rfl))) rfl)) hb) rfl)
 ·simp [rowOk,(deeds_in x hx).1,within,w0]
  omega
 ·exact .tup (by simp) (by
   intro y hy
   simp at hy
   rcases hy with h | h<;>subst h
   ·exact (deeds_in _ hx).2
   ·exact .int _)
def turnMode:R->Option Out:=(seqD (asgD (op2 dDiv (callD aG (argC (vAt 0) (argC (vAt 4) argN))) (fun _=>some (.int 4))) (setAt 5))
  (seqD (asgD (tupD argN) (setAt 6))
  (seqD (loopD (inRng1 (fun _=>some (.int 6))) (setAt 7) turnRow)
  (seqD (asgD (op2 dIx (tupD (argC (fun _=>some (.str (Str.ofString "time"))) (argC (fun _=>some (.str (Str.ofString "alarm"))) (argC (fun _=>some (.str (Str.ofString "laps"))) (argC (fun _=>some (.str (Str.ofString "count"))) argN))))) (op2 dMod (vAt 5) (fun _=>some (.int 4)))) (setAt 9))
  (asgD (op2 dAdd (vAt 3) (tupD (argC (tupD (argC (vAt 9) (argC (asV (cmp2 cEq (op2 dMod (op2 dDiv (vAt 5) (fun _=>some (.int 4))) (fun _=>some (.int 2))) (fun _=>some (.int 0)))) (argC (vAt 6) argN)))) argN))) (setAt 3))))))
def Rows6 (N m q:Int) (ms:List D) (a f:Option D) (i:Nat) (ρ:R):Prop:=∃ rs o j,ρ=[some (.int N),some (.int m),some (.tup deeds12),some (.tup ms),a,some (.int q),some (.tup rs),j,o,f]/\rs.length=i/\∀ x∈rs,rowOk x m=true/\Fits x
theorem rC {N m q:Int} {ms:List D} {a b c f:Option D} (hm:0<m) :
  ∃ rs o j,forD (setAt 7) turnRow (rngD 0 6) [some (.int N),some (.int m),some (.tup deeds12),some (.tup ms),a,some (.int q),some (.tup []),b,c,f]=some (.nx [some (.int N),some (.int m),some (.tup deeds12),some (.tup ms),a,some (.int q),some (.tup rs),j,o,f])/\rs.length=6/\∀ x∈rs,rowOk x m=true/\Fits x:=by
 obtain ⟨ρ',h1,rs,o,j,h2,h3,h4⟩:=forD_inv (st:=setAt 7) (body:=turnRow) (Rows6 N m q ms a f) (rngD 0 6) 0 [some (.int N),some (.int m),some (.tup deeds12),some (.tup ms),a,some (.int q),some (.tup []),b,c,f]
  ⟨[],c,b,rfl,rfl,fun x hx=>nomatch hx⟩ (fun i d ρ e p=>by
   obtain ⟨rs,o,j,rfl,hl,hk⟩:=p
   obtain ⟨rfl,hi⟩:=mq e
   obtain ⟨o',r,h1,h2,h3⟩:=sw (N:=N) (ms:=ms) (a:=a) (b:=o) (f:=f) (q:=q) (j:=(i:Int)) hm (rs:=rs) (by omega) hk
   refine ⟨_,_,rfl,h1,rs++[r],o',_,rfl,by simp [hl],fun x hx=>?_⟩
   rcases List.mem_append.mp hx with hx | hx
   ·exact hk x hx
   ·cases List.mem_singleton.mp hx
    exact ⟨h2,h3⟩)
 subst h2
 refine ⟨rs,o,j,h1,?_,h4⟩
 rw [h3,jm]
 rfl
theorem qR {N m:Int} {ms:List D} {k:Int} {a b c d e:Option D} (hm:0<m) (hms:ms.length<=100) :
  ∃ r o1 o2 o3 o4 o5,turnMode [some (.int N),some (.int m),some (.tup deeds12),some (.tup ms),some (.int k),a,b,c,d,e]=some (.nx [some (.int N),some (.int m),some (.tup deeds12),some (.tup (ms++[r])),some (.int k),o1,o2,o3,o4,o5])/\modeOk r m=true/\Fits r:=by
 generalize hq:drawnI N k / 4=q
 obtain ⟨rs,o,j,h1,h2,h3⟩:=rC (N:=N) (m:=m) (q:=q) (ms:=ms) (a:=some (.int k)) (b:=c) (c:=d) (f:=e) hm
 obtain ⟨x,hx,hat⟩:=atD_some (xs:=faces) (i:=q%4) (Int.emod_nonneg _ (by decide)) (Int.emod_lt_of_pos _ (by decide))
 have hl:ms.length+1<=sizeLine:=sz (by omega)
 refine ⟨.tup [x,.bl (q / 4%2==0),.tup rs],some (.int q),some (.tup rs),j,o,some x,?_,?_,?_⟩
 rotate_left 1
 ·have ha:(rs.all fun y=>rowOk y m)=true:=List.all_eq_true.mpr fun y hy=>(h3 y hy).1
  simp [modeOk,(faces_in x hx).1,rowsOk,h2,ha]
 ·refine .tup (by simp) fun y hy=>?_
  simp at hy
  rcases hy with h | h | h<;>subst h
  ·exact (faces_in _ hx).2
  ·exact .bl _
  ·exact .tup (by omega) fun y hy=>(h3 y hy).2
 ·have hat':atD [.str (Str.ofString "time"),.str (Str.ofString "alarm"),.str (Str.ofString "laps"),.str (Str.ofString "count")] (q%4)=some x:=hat
  have hb:dAdd (.tup ms) (.tup [.tup [x,.bl (q / 4%2==0),.tup rs]])=some (.tup (ms++[.tup [x,.bl (q / 4%2==0),.tup rs]])):=by
   show (if ms.length+1<=sizeLine then _ else none)=_
   rw [if_pos hl]
  have hv:dDiv (.int (drawnI N k)) (.int 4)=some (.int q):=by rw [<- hq];rfl
  exact (seqN (asgS (opS (callS (arS rfl rfl) (drawn_some _ _)) rfl hv) rfl)).trans ((seqN (asgS (tupS rfl) rfl)).trans ((seqN (loop_of (ds:=rngD 0 6) rfl h1)).trans ((seqN (asgS (opS rfl (opS rfl rfl (modS (by decide))) hat') rfl)).trans
   (asgS (opS rfl (tupS (arS (tupS (arS rfl (arS (asS (cmS (opS (opS rfl rfl rfl) rfl (modS (by decide))) rfl rfl)) rfl))) rfl)) hb) rfl))))
def Modes (N m:Int) (i:Nat) (ρ:R):Prop:=∃ ms a b c d e f,ρ=[some (.int N),some (.int m),some (.tup deeds12),some (.tup ms),a,b,c,d,e,f]/\ms.length=i/\∀ x∈ms,modeOk x m=true/\Fits x
theorem q_ (N:Int):∃ b,bW [.int N]=some b/\bookOk b=true/\Fits b:=by
 generalize hM:1+N%8=m
 have hm0:0<m:=by have:=Int.emod_nonneg N (show (8:Int)≠0 by decide);omega
 have hm8:m<=8:=by have:=Int.emod_lt_of_pos N (show (0:Int)<8 by decide);omega
 obtain ⟨ρ',h1,ms,a,b,c,d,e,f,h2,h3,h4⟩:=forD_inv (st:=setAt 4) (body:=turnMode) (Modes N m) (rngD 0 m) 0 [some (.int N),some (.int m),some (.tup deeds12),some (.tup []),none,none,none,none,none,none]
  ⟨[],none,none,none,none,none,none,rfl,rfl,fun x hx=>nomatch hx⟩ (fun i d ρ e p=>by
   obtain ⟨ms,a,b,c,d',e',f,rfl,hl,hk⟩:=p
   obtain ⟨rfl,hi⟩:=mq e
   obtain ⟨r,o1,o2,o3,o4,o5,h1,h2,h3⟩:=qR (N:=N) (ms:=ms) (k:=(i:Int)) (a:=b) (b:=c) (c:=d') (d:=e') (e:=f) hm0 (by omega)
   refine ⟨_,_,rfl,h1,ms++[r],_,_,_,_,_,_,rfl,by simp [hl],fun x hx=>?_⟩
   rcases List.mem_append.mp hx with hx | hx
   ·exact hk x hx
   ·cases List.mem_singleton.mp hx
    exact ⟨h2,h3⟩)
 subst h2
 rw [jm] at h3
 have hlen:((ms.length:Nat):Int)=m:=by omega
 have hr : -4611686018427387904<=m/\m<4611686018427387904:=by omega
 obtain ⟨p,hp,hat⟩:=atD_some (xs:=[.int 3,.int 9]) (i:=N / 128%2) (Int.emod_nonneg _ (by decide)) (Int.emod_lt_of_pos _ (by decide))
 have hp':∃ v:Int,p=.int v/\0<v/\v<=9:=by
  simp at hp
  rcases hp with h | h<;>subst h
  ·exact ⟨3,rfl,by decide,by decide⟩
  ·exact ⟨9,rfl,by decide,by decide⟩
 obtain ⟨v,rfl,hv0,hv9⟩:=hp'
 obtain ⟨p2,hp2,hat2⟩:=atD_some (xs:=[.int 0,.int 7,.int 60,.int 1,.int 20]) (i:=N / 256%5) (Int.emod_nonneg _ (by decide)) (Int.emod_lt_of_pos _ (by decide))
 have hp2':∃ v:Int,p2=.int v/\0<=v/\v<=60:=by
  simp at hp2
  rcases hp2 with h | h | h | h | h<;>subst h
  ·exact ⟨0,rfl,by decide,by decide⟩
  ·exact ⟨7,rfl,by decide,by decide⟩
  ·exact ⟨60,rfl,by decide,by decide⟩
  ·exact ⟨1,rfl,by decide,by decide⟩
  ·exact ⟨20,rfl,by decide,by decide⟩
 obtain ⟨v2,rfl,hv20,hv260⟩:=hp2'
 have w0:0<=N / 8%v:=Int.emod_nonneg _ (by omega)
 have w1:N / 8%v<v:=Int.emod_lt_of_pos _ hv0
 refine ⟨.tup [.int (1+N / 8%v),.int v2,.tup ms],?_,?_,?_⟩
 ·have hi:inRng1 (vAt 1) [some (.int N),some (.int m),some (.tup deeds12),some (.tup []),none,none,none,none,none,none]=some (rngD 0 m):=by
   show (if -4611686018427387904<=m/\m<4611686018427387904 then some (rngD 0 m) else none)=_
   rw [if_pos hr]
  have h0:dAdd (.int 1) (.int (N%8))=some (.int m):=by rw [<- hM];rfl
  exact viaS ((seqN (asgS (opS rfl (opS rfl rfl (modS (by decide))) h0) rfl)).trans ((seqN (asgS rfl rfl)).trans ((seqN (asgS (tupS rfl) rfl)).trans ((seqN (loop_of hi h1)).trans (retS (tupS (arS (opS rfl (opS (opS rfl rfl rfl) (opS rfl (opS (opS rfl rfl rfl) rfl (modS (by decide))) hat) (modS hv0)) rfl) (arS (opS rfl (opS (opS rfl rfl rfl) rfl (modS (by decide))) hat2) rfl))))))))
 ·have ha:(ms.all fun y=>modeOk y ms.length)=true:=List.all_eq_true.mpr fun y hy=>by rw [hlen];exact (h4 y hy).1
  have g1:1<=ms.length:=by omega
  have g8:ms.length<=8:=by omega
  simp [bookOk,within,modesOk,ha,g1,g8]
  omega
 ·refine .tup (by simp) fun y hy=>?_
  simp at hy
  rcases hy with h | h | h<;>subst h
  ·exact .int _
  ·exact .int _
  ·exact .tup (by omega) fun y hy=>(h4 y hy).2
theorem oB:∀ ds d,bW ds=some d->ds.length=1:=fun _ _ h=>ao h
def eX:R->Option Out :=
  (seqD (ifD (cmp2 cLt (vAt 1) (callD fLen (argC (vAt 0) argN)))
  (retD (op2 dIx (vAt 0) (vAt 1)))
  nextD)
  (retD (fun _=>some (.int 0))))
def bx:List D->Option D:=via 2 2 eX
theorem j7:∀ ds d,bx ds=some d->retOf (eX (beg 2 ds))=some d:=fun _ _ h=>aB h
theorem j9:∀ ds d,bx ds=some d->ds.length=2:=fun _ _ h=>ao h
theorem cell_some (ns:List Int) (k:Int) (h0:0<=k):∃ c,bx [.fro (ns.map .int),.int k]=some (.int c):=by
 obtain ⟨n,rfl⟩:=Int.eq_ofNat_of_zero_le h0
 by_cases h1:(n:Int)<((ns.map D.int).length:Int)
 ·have h2:n<(ns.map D.int).length:=Int.ofNat_lt.mp h1
  have h3:n<ns.length:=by rw [List.length_map] at h2;exact h2
  refine ⟨ns[n],viaS (seqR ((ifT (cmS rfl (callS (F:=fLen) rfl rfl) (dT h1))).trans (retS (opS rfl rfl ?_))))⟩
  exact (atD_nat h2).trans (by rw [List.getElem_map])
 ·exact ⟨0,viaS ((seqN (ifF (cmS rfl (callS (F:=fLen) rfl rfl) (dF h1)))).trans (retS rfl))⟩
def gQ:R->Option Out :=
  (seqD (asgD (op2 dMod (op2 dMul (op2 dAdd (op2 dAdd (callD bx (argC (vAt 0) (argC (vAt 1) argN))) (op2 dMul (fun _=>some (.int 7919)) (vAt 1))) (fun _=>some (.int 1))) (fun _=>some (.int 48271))) (fun _=>some (.int 2147483647))) (setAt 2))
  (retD (op2 dMod (op2 dAdd (op2 dAdd (op2 dMul (vAt 2) (vAt 2)) (op2 dMul (fun _=>some (.int 7)) (vAt 2))) (vAt 1)) (fun _=>some (.int 2147483629)))))
def aM:List D->Option D:=via 2 3 gQ
theorem mf:∀ ds d,aM ds=some d->retOf (gQ (beg 3 ds))=some d:=fun _ _ h=>aB h
theorem mixed_some (ns:List Int) (k:Int) (h0:0<=k):∃ m,aM [.fro (ns.map .int),.int k]=some (.int m)/\0<=m:=by
 obtain ⟨c,hc⟩:=cell_some ns k h0
 generalize hq:(c+7919*k+1)*48271%2147483647=q
 have q0:0<=q:=by rw [<- hq];exact Int.emod_nonneg _ (by decide)
 have q1:q<2147483647:=by rw [<- hq];exact Int.emod_lt_of_pos _ (by decide)
 have m1:mulFits 7919 k=true:=mulFits_l (by decide) (by decide)
 have m2:mulFits (c+7919*k+1) 48271=true:=mulFits_r (by decide) (by decide)
 have m3:mulFits q q=true:=mulFits_l (by omega) (by omega)
 have m4:mulFits 7 q=true:=mulFits_l (by decide) (by decide)
 refine ⟨(q*q+7*q+k)%2147483629,?_,Int.emod_nonneg _ (by decide)⟩
 exact viaS ((seqN (asgS (opS (opS (opS (opS (callS rfl hc) (opS rfl rfl (mulS m1)) rfl) rfl rfl) rfl (mulS m2)) rfl (mdS (by decide) hq)) rfl)).trans (retS (opS (opS (opS (opS rfl rfl (mulS m3)) (opS rfl rfl (mulS m4)) rfl) rfl rfl) rfl (modS (by decide)))))
theorem lQ:∀ ds d,aM ds=some d->ds.length=2:=fun _ _ h=>ao h
def gh:R->Option Out :=
  (seqD (ifD (cmp2 cEq (op2 dMod (vAt 1) (fun _=>some (.int 2))) (fun _=>some (.int 0)))
  (retD (vAt 0))
  nextD)
  (seqD (asgD (op2 dMod (op2 dDiv (vAt 1) (fun _=>some (.int 2))) (callD fLen (argC (op2 dIx (vAt 0) (fun _=>some (.int 2))) argN))) (setAt 2))
  (seqD (asgD (tupD (argC (tupD (argC (fun _=>some (.str (Str.ofString "csecond"))) (argC (fun _=>some (.int 0)) argN))) (argC (tupD (argC (fun _=>some (.str (Str.ofString "count"))) (argC (vAt 2) argN))) (argC (tupD (argC (fun _=>some (.str (Str.ofString "aminute"))) (argC (fun _=>some (.int 0)) argN))) (argC (tupD (argC (fun _=>some (.str (Str.ofString "alarm"))) (argC (fun _=>some (.int 0)) argN))) (argC (tupD (argC (fun _=>some (.str (Str.ofString "full"))) (argC (fun _=>some (.int 0)) argN))) (argC (tupD (argC (fun _=>some (.str (Str.ofString "none"))) (argC (vAt 2) argN))) argN))))))) (setAt 3))
  (retD (tupD (argC (op2 dIx (vAt 0) (fun _=>some (.int 0))) (argC (op2 dIx (vAt 0) (fun _=>some (.int 1))) (argC (op2 dAdd (tupD (argC (tupD (argC (fun _=>some (.str (Str.ofString "count"))) (argC (fun _=>some (.bl true)) (argC (vAt 3) argN)))) argN)) (slD (op2 dIx (vAt 0) (fun _=>some (.int 2))) (aP (fun _=>some (.int 1))) noP)) argN))))))))
def bK:List D->Option D:=via 2 4 gh
theorem lM:∀ ds d,bK ds=some d->retOf (gh (beg 4 ds))=some d:=fun _ _ h=>aB h
theorem mm:∀ ds d,bK ds=some d->ds.length=2:=fun _ _ h=>ao h
def readyB (b:Bk) (n:Int):Bk:=if n%2=0 then b else ⟨b.hold,b.back,⟨.count,true,[(.csecond,0),(.count,(n / 2%(b.modes.length:Int)).toNat),(.aminute,0),(.alarm,0),(.full,0),(.none,(n / 2%(b.modes.length:Int)).toNat)]⟩::b.modes.tail⟩
theorem ready_ok {b:Bk} (ok:b.Ok) (n:Int):(readyB b n).Ok:=by
 unfold readyB
 split
 ·exact ok
 ·have h1:=ok.some1
  have h0:(0:Int)<(b.modes.length:Int):=by omega
  have m0:=Int.emod_nonneg (n / 2) (show (b.modes.length:Int)≠0 by omega)
  have m1:=Int.emod_lt_of_pos (n / 2) h0
  have hl:b.modes.tail.length+1=b.modes.length:=by rw [List.length_tail];omega
  generalize hg:n / 2%(b.modes.length:Int)=g at *
  refine ⟨ok.hold1,ok.hold9,ok.back0,ok.back60,Nat.succ_le_succ (Nat.zero_le _),by show b.modes.tail.length+1<=8;rw [hl];exact ok.some8,fun m hm=>?_⟩
  show m.Ok (b.modes.tail.length+1)
  rw [hl]
  rcases List.mem_cons.mp hm with rfl | hm
  ·refine ⟨rfl,fun r hr=>?_⟩
   simp only [List.mem_cons,List.not_mem_nil,or_false] at hr
   rcases hr with rfl | rfl | rfl | rfl | rfl | rfl<;>show _<b.modes.length<;>omega
  ·exact ok.all m (List.mem_of_mem_tail hm)
theorem cutDr (xs ys:List D):cutD (xs++ys) (some (xs.length:Int)) none=ys:=by
 unfold cutD cutP
 dsimp only
 rw [if_neg (by omega)]
 simp
theorem sl_tail (m:D) (ms:List D):dSl (.tup (m::ms)) (some 1) none=some (.tup ms):=by
 show some (D.tup (cutD (m::ms) (some 1) none))=_
 rw [show cutD (m::ms) (some 1) none=ms from cutDr [m] ms]
theorem ub {b:Bk} (ok:b.Ok) (n:Int):bK [b.d,.int n]=some (readyB b n).d:=by
 have h1:=ok.some1
 have h0:(b.modes.length:Int)≠0:=by omega
 have m0:=Int.emod_nonneg (n / 2) h0
 have z:1000<=sizeLine:=by decide
 unfold readyB
 by_cases h:n%2=0
 ·rw [if_pos h]
  exact viaS (seqR ((ifT (cmS (opS rfl rfl (modS (by decide))) rfl (by show some (n%2==0)=some true;rw [h];rfl))).trans (retS rfl)))
 ·rw [if_neg h]
  have hlen:fLen [.tup (b.modes.map Md.d)]=some (.int (b.modes.length:Int)):=by show some (D.int ((b.modes.map Md.d).length:Int))=_;rw [List.length_map]
  have hms:b.modes.map Md.d=(b.modes.map Md.d).head!::b.modes.tail.map Md.d:=by
   cases hb:b.modes with
   | nil=>rw [hb] at h1;exact absurd h1 (by decide)
   | cons m ms=>rfl
  have hsl:dSl (.tup (b.modes.map Md.d)) (some 1) none=some (.tup (b.modes.tail.map Md.d)):=by rw [hms,sl_tail]
  have e8:=ok.some8
  have htl:b.modes.tail.length<=8:=by rw [List.length_tail];omega
  have had:∀ x:D,dAdd (.tup [x]) (.tup (b.modes.tail.map Md.d))=some (.tup (x::b.modes.tail.map Md.d)):=fun x=>by
   show (if [x].length+(b.modes.tail.map Md.d).length<=sizeLine then _ else none)=_
   rw [if_pos (by rw [List.length_map];show 1+_<=_;omega)];rfl
  have hg:((n / 2%(b.modes.length:Int)).toNat:Int)=n / 2%(b.modes.length:Int):=Int.toNat_of_nonneg m0
  generalize hgg:n / 2%(b.modes.length:Int)=g at *
  have s1:asgD (op2 dMod (op2 dDiv (vAt 1) (fun _=>some (.int 2))) (callD fLen (argC (op2 dIx (vAt 0) (fun _=>some (.int 2))) argN))) (setAt 2) [some b.d,some (.int n),none,none]=some (.nx [some b.d,some (.int n),some (.int g),none]):=by
   rw [<- hgg]
   exact asgS (opS (opS rfl rfl rfl) (callS (arS (opS rfl rfl rfl) rfl) hlen) (modS (by omega))) rfl
  refine viaS ((seqN (ifF (cmS (opS rfl rfl (modS (by decide))) rfl (by show some (n%2==0)=some false;rw [beq_eq_false_iff_ne.mpr h])))).trans ((seqN s1).trans ((seqN (asgS (d:=.tup [.tup [.str (Str.ofString "csecond"),.int 0],.tup [.str (Str.ofString "count"),.int g],.tup [.str (Str.ofString "aminute"),.int 0],.tup [.str (Str.ofString "alarm"),.int 0],.tup [.str (Str.ofString "full"),.int 0],.tup [.str (Str.ofString "none"),.int g]]) rfl rfl)).trans ?_)))
  refine (retS (tupS (arS (opS rfl rfl rfl) (arS (opS rfl rfl rfl) (arS (opS (x:=.tup [.tup [.str (Str.ofString "count"),.bl true,.tup [.tup [.str (Str.ofString "csecond"),.int 0],.tup [.str (Str.ofString "count"),.int g],.tup [.str (Str.ofString "aminute"),.int 0],.tup [.str (Str.ofString "alarm"),.int 0],.tup [.str (Str.ofString "full"),.int 0],.tup [.str (Str.ofString "none"),.int g]]]]) rfl (slS (opS rfl rfl rfl) rfl rfl hsl) (had _)) rfl))))).trans ?_
  rw [<- hg];rfl
def gv:R->Option Out :=
  (seqD (asgD (op2 dIx (fun _=>some (.str (Str.ofString "abcaab"))) (op2 dMod (op2 dDiv (vAt 0) (fun _=>some (.int 8))) (fun _=>some (.int 6)))) (setAt 1))
  (seqD (asgD (op2 dMod (vAt 0) (fun _=>some (.int 8))) (setAt 2))
  (seqD (ifD (cmp2 cLt (vAt 2) (fun _=>some (.int 3)))
  (retD (tupD (argC (fun _=>some (.str (Str.ofString "down"))) (argC (vAt 1) argN))))
  nextD)
  (seqD (ifD (cmp2 cLt (vAt 2) (fun _=>some (.int 6)))
  (retD (tupD (argC (fun _=>some (.str (Str.ofString "up"))) (argC (vAt 1) argN))))
  nextD)
  (retD (tupD (argC (fun _=>some (.str (Str.ofString "ticks"))) (argC (op2 dAdd (fun _=>some (.int 1)) (op2 dMod (op2 dDiv (vAt 0) (fun _=>some (.int 64))) (op2 dIx (tupD (argC (fun _=>some (.int 4)) (argC (fun _=>some (.int 12)) (argC (fun _=>some (.int 130)) argN)))) (op2 dMod (op2 dDiv (vAt 0) (fun _=>some (.int 4096))) (fun _=>some (.int 3)))))) argN))))))))
def bq:List D->Option D:=via 1 3 gv
theorem lB:∀ ds d,bq ds=some d->retOf (gv (beg 3 ds))=some d:=fun _ _ h=>aB h
theorem lG:∀ ds d,bq ds=some d->ds.length=1:=fun _ _ h=>ao h
def evMost:Ev->Prop
 | .ticks n=>n<=130
 | _=>True
def Ev.Lt (e:Ev):Prop:=e.Ok/\evMost e
theorem btn6 {i:Int} (h0:0<=i) (h1:i<6):∃ x:Btn,dIx (.str (Str.ofString "abcaab")) (.int i)=some (.str x.x):=by
 have:i=0\/i=1\/i=2\/i=3\/i=4\/i=5:=by omega
 rcases this with rfl | rfl | rfl | rfl | rfl | rfl
 ·exact ⟨.a,rfl⟩
 ·exact ⟨.b,rfl⟩
 ·exact ⟨.c,rfl⟩
 ·exact ⟨.a,rfl⟩
 ·exact ⟨.a,rfl⟩
 ·exact ⟨.b,rfl⟩
theorem tick3 {i:Int} (h0:0<=i) (h1:i<3):∃ t:Int,dIx (.tup [.int 4,.int 12,.int 130]) (.int i)=some (.int t)/\0<t/\t<=130:=by
 have:i=0\/i=1\/i=2:=by omega
 rcases this with rfl | rfl | rfl
 ·exact ⟨4,rfl,by decide,by decide⟩
 ·exact ⟨12,rfl,by decide,by decide⟩
 ·exact ⟨130,rfl,by decide,by decide⟩
theorem event_some (n:Int):∃ e:Ev,bq [.int n]=some e.d/\e.Lt:=by
 obtain ⟨x,hx⟩:=btn6 (i:=n / 8%6) (by omega) (by omega)
 by_cases h1:n%8<3
 ·exact ⟨.down x,viaS ((seqN (asgS (opS rfl (opS (opS rfl rfl rfl) rfl (modS (by decide))) hx) rfl)).trans ((seqN (asgS (opS rfl rfl (modS (by decide))) rfl)).trans (seqR ((ifT (cmS rfl rfl (dT h1))).trans (retS rfl))))),trivial,trivial⟩
 ·by_cases h2:n%8<6
  ·exact ⟨.up x,viaS ((seqN (asgS (opS rfl (opS (opS rfl rfl rfl) rfl (modS (by decide))) hx) rfl)).trans ((seqN (asgS (opS rfl rfl (modS (by decide))) rfl)).trans ((seqN (ifF (cmS rfl rfl (dF h1)))).trans (seqR ((ifT (cmS rfl rfl (dT h2))).trans (retS rfl)))))),trivial,trivial⟩
  ·obtain ⟨t,ht,t0,t1⟩:=tick3 (i:=n / 4096%3) (by omega) (by omega)
   have hm:=Int.emod_nonneg (n / 64) (show t≠0 by omega)
   have hm2:=Int.emod_lt_of_pos (n / 64) t0
   exact ⟨.ticks (1+n / 64%t),viaS ((seqN (asgS (opS rfl (opS (opS rfl rfl rfl) rfl (modS (by decide))) hx) rfl)).trans ((seqN (asgS (opS rfl rfl (modS (by decide))) rfl)).trans ((seqN (ifF (cmS rfl rfl (dF h1)))).trans ((seqN (ifF (cmS rfl rfl (dF h2)))).trans (retS (tupS (arS rfl (arS (opS rfl (opS (opS rfl rfl rfl) (opS rfl (opS (opS rfl rfl rfl) rfl (modS (by decide))) ht) (modS t0)) rfl) rfl)))))))),by show 1<=_;omega,by show _<=130;omega⟩
def eB:R->Option Out :=
 (retD (callD fTuple (argC (lcD 1 (inRng1 (op2 dMod (vAt 0) (op2 dAdd (vAt 1) (fun _=>some (.int 1))))) (setAt 0) yesT (callD bq (argC (op2 dDiv (callD aG (argC (vAt 1) (argC (op2 dAdd (fun _=>some (.int 40)) (vAt 0)) argN))) (fun _=>some (.int 4))) argN))) argN)))
def bU:List D->Option D:=via 2 2 eB
theorem qd:∀ ds d,bU ds=some d->retOf (eB (beg 2 ds))=some d:=fun _ _ h=>aB h
theorem pE:∀ ds d,bU ds=some d->ds.length=2:=fun _ _ h=>ao h
theorem nw (n m:Int) (hm:0<=m) (hm2:m<=100):∃ es:List Ev,bU [.int n,.int m]=some (.tup (es.map Ev.d))/\(∀ e∈es,e.Lt)/\es.length<=m.toNat:=by
 have hk0:=Int.emod_nonneg n (show m+1≠0 by omega)
 have hk1:=Int.emod_lt_of_pos n (show 0<m+1 by omega)
 have hp:0<m+1:=by omega
 have key:∀ (ds:List D) (ρ:R),(∀ d∈ds,∃ i:Int,d=.int i)->∃ es:List Ev,compD (setAt 0) yesT (callD bq (argC (op2 dDiv (callD aG (argC (vAt 1) (argC (op2 dAdd (fun _=>some (.int 40)) (vAt 0)) argN))) (fun _=>some (.int 4))) argN)) ds (none::some (.int n)::ρ)=some (es.map Ev.d)/\(∀ e∈es,e.Lt)/\es.length=ds.length:=by
  intro ds ρ
  induction ds with
  | nil=>intro _;exact ⟨[],rfl,(fun _ h=>by cases h),rfl⟩
  | cons d ds ih =>
   intro h
   obtain ⟨i,rfl⟩:=h d List.mem_cons_self
   obtain ⟨es,h1,h2,h3⟩:=ih fun x hx=>h x (List.mem_cons_of_mem _ hx)
   obtain ⟨e,e1,e2⟩:=event_some (drawnI n (40+i) / 4)
   refine ⟨e::es,?_,?_,by simp [h3]⟩
   ·simp [compD,drawn_some,e1] at h1 ⊢
    rw [h1]
   ·intro x hx
    rcases List.mem_cons.mp hx with rfl | hx
    ·exact e2
    ·exact h2 x hx
 obtain ⟨es,h1,h2,h3⟩:=key (rngD 0 (n%(m+1))) [some (.int m)] (fun d hd=>by
  obtain ⟨i,hi⟩:=List.mem_iff_getElem?.mp hd
  obtain ⟨rfl,_⟩:=mq hi
  exact ⟨_,rfl⟩)
 rw [jm] at h3
 have hz:(rngD 0 (n%(m+1))).length<=sizeLine:=by rw [jm];exact Nat.le_trans (show (n%(m+1)).toNat<=1000 by omega) (by decide)
 refine ⟨es,?_,h2,by rw [h3];omega⟩
 have hr : -(2 ^ 62:Int)<=n%(m+1)/\n%(m+1)<2 ^ 62:=by omega
 have hlc:lcD 1 (inRng1 (op2 dMod (vAt 0) (op2 dAdd (vAt 1) (fun _=>some (.int 1))))) (setAt 0) yesT (callD bq (argC (op2 dDiv (callD aG (argC (vAt 1) (argC (op2 dAdd (fun _=>some (.int 40)) (vAt 0)) argN))) (fun _=>some (.int 4))) argN)) [some (.int n),some (.int m)]=some (.lst (es.map Ev.d)):=by
  have hi:inRng1 (op2 dMod (vAt 0) (op2 dAdd (vAt 1) (fun _=>some (.int 1)))) [some (.int n),some (.int m)]=some (rngD 0 (n%(m+1))):=by
   show (if 0<m+1 then some (D.int (n%(m+1))) else none).bind _=_
   rw [if_pos hp]
   show (if -(2 ^ 62:Int)<=n%(m+1)/\n%(m+1)<2 ^ 62 then some (rngD 0 (n%(m+1))) else none)=_
   rw [if_pos hr]
  unfold lcD
  rw [hi]
  show (if (rngD 0 (n%(m+1))).length<=sizeLine then _ else none)=_
  rw [if_pos hz]
  show (compD _ _ _ _ (none::some (.int n)::[some (.int m)])).map _=_
  rw [h1]
  rfl
 show (if (2:Nat)=2 then retOf (eB [some (.int n),some (.int m)]) else none)=_
 rw [if_pos rfl]
 unfold eB
 simp only [retD,callD,argC,argN,hlc]
 rfl
def qm:R->Option Out :=
  (seqD (asgD (tupD (argC (fun _=>some (.int 0)) (argC (fun _=>some (.int 0)) (argC (fun _=>some (.bl false)) argN)))) (setAt 1))
  (seqD (asgD (tupD (argC (fun _=>some (.int 0)) (argC (fun _=>some (.bl false)) (argC (tupD argN) argN)))) (setAt 2))
  (seqD (asgD (tupD (argC (fun _=>some (.int 0)) (argC (fun _=>some (.int 0)) (argC (fun _=>some (.int 0)) (argC (fun _=>some (.bl false)) argN))))) (setAt 3))
  (retD (tupD (argC (fun _=>some (.int 0)) (argC (fun _=>some (.int 0)) (argC (vAt 1) (argC (vAt 2) (argC (vAt 3) (argC (fun _=>some (.int 0)) (argC (fun _=>some .non) (argC (fun _=>some (.int 0)) argN)))))))))))))
def ce:List D->Option D:=via 1 4 qm
theorem tW:∀ ds d,ce ds=some d->retOf (qm (beg 4 ds))=some d:=fun _ _ h=>aB h
theorem tO:∀ ds d,ce ds=some d->ds.length=1:=fun _ _ h=>ao h
theorem mO (b:D):ce [b]=some begun0.d:=viaS ((seqN (asgS rfl rfl)).trans ((seqN (asgS rfl rfl)).trans ((seqN (asgS rfl rfl)).trans (retS rfl))))
def la:R->Option Out :=
 (retD (andV (asV (cmp2 cNe (vAt 0) (fun _=>some (.str (Str.ofString ""))))) (andV (asV (cmp2 cNe (op2 dIx (vAt 0) (fun _=>some (.int 0))) (fun _=>some (.str (Str.ofString "0"))))) (callD fAll (argC (lcD 1 (inSeq (vAt 0)) (setAt 0) yesT (asV (cmp2 cInT (vAt 0) (fun _=>some gX)))) argN)))))
def dm:List D->Option D:=via 1 1 la
theorem rh:∀ ds d,dm ds=some d->retOf (la (beg 1 ds))=some d:=fun _ _ h=>aB h
theorem rc:∀ ds d,dm ds=some d->ds.length=1:=fun _ _ h=>ao h
def iS:R->Option Out :=
  (seqD (asgD (op2 dMod (callD fLenS (argC (vAt 0) argN)) (fun _=>some bQ)) (setAt 1))
  (seqD (asgD (callD fIntS (argC (op2 dAdd (fun _=>some (.str (Str.ofString "0"))) (slT (vAt 0) noP (aP (vAt 1)))) argN)) (setAt 2))
  (seqD (loopD (inRng3 (vAt 1) (callD fLenS (argC (vAt 0) argN)) (fun _=>some bQ)) (setAt 3)
  (asgD (op2 dAdd (op2 dMul (vAt 2) (fun _=>some dk)) (callD fIntS (argC (slT (vAt 0) (aP (vAt 3)) (aP (op2 dAdd (vAt 3) (fun _=>some bQ)))) argN))) (setAt 2)))
  (retD (vAt 2)))))
def cD:List D->Option D:=via 1 4 iS
theorem nT:∀ ds d,cD ds=some d->retOf (iS (beg 4 ds))=some d:=fun _ _ h=>aB h
theorem ng:∀ ds d,cD ds=some d->ds.length=1:=fun _ _ h=>ao h
def gB:R->Option Out :=
  (seqD (asgD (slT (vAt 0) noP (aP (fun _=>some (.int 1)))) (setAt 1))
  (seqD (asgD (slT (vAt 0) (aP (fun _=>some (.int 1))) noP) (setAt 2))
  (seqD (ifD (andT (cmp2 cEq (vAt 1) (fun _=>some (.str (Str.ofString "+")))) (cmp2 cIn (vAt 2) (fun _=>some fG)))
  (retD (tupD (argC (fun _=>some (.str (Str.ofString "down"))) (argC (vAt 2) argN))))
  nextD)
  (seqD (ifD (andT (cmp2 cEq (vAt 1) (fun _=>some (.str (Str.ofString "-")))) (cmp2 cIn (vAt 2) (fun _=>some fG)))
  (retD (tupD (argC (fun _=>some (.str (Str.ofString "up"))) (argC (vAt 2) argN))))
  nextD)
  (seqD (ifD (andT (cmp2 cEq (vAt 1) (fun _=>some (.str (Str.ofString ".")))) (truT (callD dm (argC (vAt 2) argN))))
  (retD (tupD (argC (fun _=>some (.str (Str.ofString "ticks"))) (argC (callD cD (argC (vAt 2) argN)) argN))))
  nextD)
  (fun _=>none))))))
def bg:List D->Option D:=via 1 3 gB
theorem lj:∀ ds d,bg ds=some d->retOf (gB (beg 3 ds))=some d:=fun _ _ h=>aB h
theorem mC:∀ ds d,bg ds=some d->ds.length=1:=fun _ _ h=>ao h
def jX:R->Option Out :=
  (seqD (ifD (cmp2 cEq (vAt 0) (fun _=>some (.str (Str.ofString ""))))
  (retD (tupD argN))
  nextD)
  (retD (callD fTuple (argC (lcD 1 (inSeq (callD fSplit (argC (vAt 0) (argC (fun _=>some (.str (Str.ofString " "))) argN)))) (setAt 0) yesT (callD bg (argC (vAt 0) argN))) argN))))
def bZ:List D->Option D:=via 1 1 jX
theorem pc:∀ ds d,bZ ds=some d->retOf (jX (beg 1 ds))=some d:=fun _ _ h=>aB h
theorem pY:∀ ds d,bZ ds=some d->ds.length=1:=fun _ _ h=>ao h
def kZ:R->Option Out :=
  (ownD 1 argN
  (obSeq (oPure (whl0 (cmp2 cGe (vAt 0) (fun _=>some dk))))
  (obSeq (oApp 1 (callD fStr (argC (vAt 0) argN)))
  (obRel (retD (callD fJoinR (argC (fun _=>some (.str (Str.ofString ""))) (argC (vAt 1) argN))))))))
def bF:List D->Option D:=via 1 2 kZ
theorem rM:∀ ds d,bF ds=some d->retOf (kZ (beg 2 ds))=some d:=fun _ _ h=>aB h
theorem rK:∀ ds d,bF ds=some d->ds.length=1:=fun _ _ h=>ao h
theorem obS0 {p:R->List D->Option (Out×List D)} {q:R->List D->Option Out} {ρ ρ2:R} {ds ds2:List D} (h:p ρ ds=some (.nx ρ2,ds2)):obSeq p q ρ ds=q ρ2 ds2:=by simp [obSeq,h]
def tx (i:Int):Str:=Str.ofString (toString i)
theorem small_log {n:Int} (h0:0<=n) (h1:n<1000000000000000000):n.natAbs.log2<1920:=by
 have h2:n.natAbs<2 ^ 60:=by omega
 by_cases hz:n.natAbs=0
 ·rw [hz];decide
 ·have:=(Nat.log2_lt hz).mpr h2;omega
theorem tx_len {n:Int} (h0:0<=n) (h1:n<1000000000000000000):(tx n).length<=1921:=PyProof.Rows.int_text_len_1921 (small_log h0 h1)
theorem f_str {n:Int} (h0:0<=n) (h1:n<1000000000000000000):fStr [.int n]=some (.str (tx n)):=if_pos (small_log h0 h1)
theorem join1 {x:Str} (h:x.length<=100000):fJoinR [.str (Str.ofString ""),.lst [.str x]]=some (.str x):=by
 have z:100000<=sizeLine:=by decide
 have e:(Str.ofString "").length=0:=by decide +kernel
 show (joinS (Str.ofString "") [x]).map D.str=_
 unfold joinS
 rw [if_pos]
 ·rfl
 ·constructor
  ·show 0+x.length+(Str.ofString "").length<=sizeLine
   rw [e];omega
  ·show x.length<=sizeLine
   omega
theorem g_ {n:Int} (h0:0<=n) (h1:n<1000000000000000000):bF [.int n]=some (.str (tx n)):=by
 have hw:whl0 (cmp2 cGe (vAt 0) (fun _=>some dk)) [some (.int n)]=some (.nx [some (.int n)]):=by
  have:¬ (1000000000000000000:Int)<=n:=by omega
  simp [dk,this]
 have hs:=f_str h0 h1
 have hj:=join1 (x:=tx n) (Nat.le_trans (tx_len h0 h1) (by decide))
 have z:0<sizeLine:=by decide
 have a1:oPure (whl0 (cmp2 cGe (vAt 0) (fun _=>some dk))) [some (.int n)] []=some (.nx [some (.int n)],[]):=by
  show (whl0 _ _).map _=_
  rw [hw];rfl
 have a2:oApp 1 (callD fStr (argC (vAt 0) argN)) [some (.int n)] []=some (.nx [some (.int n)],[.str (tx n)]):=by
  show ((fStr [.int n]).bind _)=_
  rw [hs]
  show (if 1=1/\0<sizeLine then _ else none)=_
  rw [if_pos ⟨rfl,z⟩];rfl
 show retOf (obSeq (oPure (whl0 (cmp2 cGe (vAt 0) (fun _=>some dk)))) _ [some (.int n)] [])=_
 rw [obS0 a1,obS0 a2]
 show retOf ((fJoinR [.str (Str.ofString ""),.lst [.str (tx n)]]).map .rt)=_
 rw [hj];rfl
def gb:R->Option Out :=
  (seqD (ifD (cmp2 cEq (op2 dIx (vAt 0) (fun _=>some (.int 0))) (fun _=>some (.str (Str.ofString "down"))))
  (retD (op2 dAdd (fun _=>some (.str (Str.ofString "+"))) (op2 dIx (vAt 0) (fun _=>some (.int 1)))))
  nextD)
  (seqD (ifD (cmp2 cEq (op2 dIx (vAt 0) (fun _=>some (.int 0))) (fun _=>some (.str (Str.ofString "up"))))
  (retD (op2 dAdd (fun _=>some (.str (Str.ofString "-"))) (op2 dIx (vAt 0) (fun _=>some (.int 1)))))
  nextD)
  (retD (op2 dAdd (fun _=>some (.str (Str.ofString "."))) (callD bF (argC (op2 dIx (vAt 0) (fun _=>some (.int 1))) argN))))))
def bD:List D->Option D:=via 1 1 gb
theorem lD:∀ ds d,bD ds=some d->retOf (gb (beg 1 ds))=some d:=fun _ _ h=>aB h
theorem lY:∀ ds d,bD ds=some d->ds.length=1:=fun _ _ h=>ao h
def jD:R->Option Out :=
 (retD (callD fJoin (argC (fun _=>some (.str (Str.ofString " "))) (argC (lcD 1 (inSeq (vAt 0)) (setAt 0) yesT (callD bD (argC (vAt 0) argN))) argN))))
def bT:List D->Option D:=via 1 1 jD
theorem oT:∀ ds d,bT ds=some d->retOf (jD (beg 1 ds))=some d:=fun _ _ h=>aB h
theorem pU:∀ ds d,bT ds=some d->ds.length=1:=fun _ _ h=>ao h
def gN:R->Option Out :=
 (retD (andV (asV (cmp2 cNotN (op2 dIx (vAt 0) (fun _=>some bz)) (fun _=>some .non))) (asV (cmp2 cEq (op2 dIx (op2 dIx (vAt 0) (fun _=>some bz)) (fun _=>some (.int 0))) (vAt 1)))))
def bp:List D->Option D:=via 2 2 gN
theorem mw:∀ ds d,bp ds=some d->retOf (gN (beg 2 ds))=some d:=fun _ _ h=>aB h
theorem mD:∀ ds d,bp ds=some d->ds.length=2:=fun _ _ h=>ao h
theorem btn_eq (x y:Btn):cEq (.str x.x) (.str y.x)=some (decide (x=y)):=by cases x<;>cases y<;>rfl
theorem gt (s:WS) (x:Btn):bp [s.d,.str x.x]=some (.bl (match s.held with | some (y,_)=>decide (y=x) | none=>false)):=by
 have e6:=w6 s
 rcases hs:s.held with _ | ⟨y,k⟩<;>rw [hs] at e6
 ·exact viaS (retS (anVF (asS (cmS (opS rfl rfl e6) rfl rfl))))
 ·exact viaS (retS (anV (asS (cmS (opS rfl rfl e6) rfl rfl)) (asS (cmS (opS (opS rfl rfl e6) rfl (h0 y k)) rfl (btn_eq y x)))))
def jY:R->Option Out :=
 (retD (andV (callD bp (argC (vAt 0) (argC (vAt 1) argN))) (asV (cmp2 cNotN (op2 dIx (op2 dIx (vAt 0) (fun _=>some bz)) (fun _=>some (.int 1))) (fun _=>some .non)))))
def cz:List D->Option D:=via 2 2 jY
theorem p_:∀ ds d,cz ds=some d->retOf (jY (beg 2 ds))=some d:=fun _ _ h=>aB h
theorem pT:∀ ds d,cz ds=some d->ds.length=2:=fun _ _ h=>ao h
theorem pN (s:WS) (x:Btn):cz [s.d,.str x.x]=some (.bl (match s.held with | some (y,k)=>decide (y=x)&&k.isSome | none=>false)):=by
 have e:=gt s x
 have e6:=w6 s
 rcases hs:s.held with _ | ⟨y,k⟩<;>rw [hs] at e e6
 ·exact viaS (retS (anVF (callS rfl e)))
 ·by_cases hy:y=x
  ·simp only [hy,decide_true,Bool.true_and] at e ⊢
   exact viaS (retS (anV (callS rfl e) (asS (cmS (opS (opS rfl rfl e6) rfl (h1 y k)) rfl (not_non k)))))
  ·simp only [hy,decide_false,Bool.false_and] at e ⊢
   exact viaS (retS (anVF (callS rfl e)))
def um:R->Option Out :=
 (retD (op2 dAdd (op2 dAdd (slD (vAt 0) noP (aP (vAt 1))) (tupD (argC (vAt 2) argN))) (slD (vAt 0) (aP (op2 dAdd (vAt 1) (fun _=>some (.int 1)))) noP)))
def aF:List D->Option D:=via 3 3 um
theorem vh:∀ ds d,aF ds=some d->retOf (um (beg 3 ds))=some d:=fun _ _ h=>aB h
theorem vi:∀ ds d,aF ds=some d->ds.length=3:=fun _ _ h=>ao h
section
variable (a b c d e f g i x:D)
theorem addU {xs ys:List D} (h:xs.length+ys.length<=8):dAdd (.tup xs) (.tup ys)=some (.tup (xs++ys)):=by
 show (if xs.length+ys.length<=sizeLine then _ else none)=_
 rw [if_pos (Nat.le_trans h sl8)]
theorem put0:aF [.tup [a,b,c,d,e,f,g,i],.int 0,x]=some (.tup [x,b,c,d,e,f,g,i]):=viaS (retS (opS (opS (slS rfl rfl rfl rfl) (tupS (arS rfl rfl)) (addU (show 1<=8 by decide))) (slS rfl rfl rfl rfl) (addU (show 8<=8 by decide))))
theorem put1:aF [.tup [a,b,c,d,e,f,g,i],.int 1,x]=some (.tup [a,x,c,d,e,f,g,i]):=viaS (retS (opS (opS (slS rfl rfl rfl rfl) (tupS (arS rfl rfl)) (addU (show 2<=8 by decide))) (slS rfl rfl rfl rfl) (addU (show 8<=8 by decide))))
theorem put2:aF [.tup [a,b,c,d,e,f,g,i],.int 2,x]=some (.tup [a,b,x,d,e,f,g,i]):=viaS (retS (opS (opS (slS rfl rfl rfl rfl) (tupS (arS rfl rfl)) (addU (show 3<=8 by decide))) (slS rfl rfl rfl rfl) (addU (show 8<=8 by decide))))
theorem put3:aF [.tup [a,b,c,d,e,f,g,i],.int 3,x]=some (.tup [a,b,c,x,e,f,g,i]):=viaS (retS (opS (opS (slS rfl rfl rfl rfl) (tupS (arS rfl rfl)) (addU (show 4<=8 by decide))) (slS rfl rfl rfl rfl) (addU (show 8<=8 by decide))))
theorem put4:aF [.tup [a,b,c,d,e,f,g,i],.int 4,x]=some (.tup [a,b,c,d,x,f,g,i]):=viaS (retS (opS (opS (slS rfl rfl rfl rfl) (tupS (arS rfl rfl)) (addU (show 5<=8 by decide))) (slS rfl rfl rfl rfl) (addU (show 8<=8 by decide))))
theorem put5:aF [.tup [a,b,c,d,e,f,g,i],.int 5,x]=some (.tup [a,b,c,d,e,x,g,i]):=viaS (retS (opS (opS (slS rfl rfl rfl rfl) (tupS (arS rfl rfl)) (addU (show 6<=8 by decide))) (slS rfl rfl rfl rfl) (addU (show 8<=8 by decide))))
theorem put6:aF [.tup [a,b,c,d,e,f,g,i],.int 6,x]=some (.tup [a,b,c,d,e,f,x,i]):=viaS (retS (opS (opS (slS rfl rfl rfl rfl) (tupS (arS rfl rfl)) (addU (show 7<=8 by decide))) (slS rfl rfl rfl rfl) (addU (show 8<=8 by decide))))
theorem put7:aF [.tup [a,b,c,d,e,f,g,i],.int 7,x]=some (.tup [a,b,c,d,e,f,g,x]):=viaS (retS (opS (opS (slS rfl rfl rfl rfl) (tupS (arS rfl rfl)) (addU (show 8<=8 by decide))) (slS rfl rfl rfl rfl) (addU (show 8<=8 by decide))))
end
theorem pu0 (s:WS) (m:Nat):aF [s.d,.int 0,.int (m:Int)]=some {s with mode:=m}.d:=put0 ..
theorem pu1 (s:WS) (c:Int):aF [s.d,.int 1,.int c]=some {s with clock:=c}.d:=put1 ..
theorem pu2 (s:WS) (h m:Int) (o:Bool):aF [s.d,.int 2,.tup [.int h,.int m,.bl o]]=some {s with ah:=h,am:=m,aon:=o}.d:=put2 ..
theorem pu3 (s:WS) (m:Int) (r:Bool) (k:List Int):aF [s.d,.int 3,.tup [.int m,.bl r,.tup (k.map .int)]]=some {s with lm:=m,lr:=r,lk:=k}.d:=put3 ..
theorem pu4 (s:WS) (m c l:Int) (r:Bool):aF [s.d,.int 4,.tup [.int m,.int c,.int l,.bl r]]=some {s with cm:=m,cs:=c,cl:=l,cr:=r}.d:=put4 ..
theorem pu5 (s:WS) (r:Int):aF [s.d,.int 5,.int r]=some {s with ring:=r}.d:=put5 ..
theorem pu6n (s:WS):aF [s.d,.int 6,.non]=some {s with held:=none}.d:=put6 ..
theorem pu6s (s:WS) (x:Btn) (k:Option Int):aF [s.d,.int 6,.tup [.str x.x,optI k]]=some {s with held:=some (x,k)}.d:=put6 ..
theorem pu6z (s:WS) (x:Btn):aF [s.d,.int 6,.tup [.str x.x,.non]]=some {s with held:=some (x,none)}.d:=put6 ..
theorem pu7 (s:WS) (i:Int):aF [s.d,.int 7,.int i]=some {s with idle:=i}.d:=put7 ..
def da:R->Option Out :=
  (seqD (asgD (op2 dIx (vAt 0) (fun _=>some bo)) (setAt 1))
  (retD (callD aF (argC (vAt 0) (argC (fun _=>some bo) (argC (tupD (argC (op2 dMod (op2 dAdd (op2 dIx (vAt 1) (fun _=>some (.int 0))) (fun _=>some (.int 1))) (fun _=>some (.int 24))) (argC (op2 dIx (vAt 1) (fun _=>some (.int 1))) (argC (op2 dIx (vAt 1) (fun _=>some (.int 2))) argN)))) argN))))))
def aX:List D->Option D:=via 1 2 da
theorem jf:∀ ds d,aX ds=some d->retOf (da (beg 2 ds))=some d:=fun _ _ h=>aB h
theorem jd:∀ ds d,aX ds=some d->ds.length=1:=fun _ _ h=>ao h
theorem iU (s:WS):aX [s.d]=some (deed .ahour s).d:=by simp [-dIx,aX,via,da,bo,w2,wa0,wa1,wa2,pu2,deed]
def cO:R->Option Out :=
  (seqD (asgD (op2 dIx (vAt 0) (fun _=>some bo)) (setAt 1))
  (retD (callD aF (argC (vAt 0) (argC (fun _=>some bo) (argC (tupD (argC (op2 dIx (vAt 1) (fun _=>some (.int 0))) (argC (op2 dMod (op2 dAdd (op2 dIx (vAt 1) (fun _=>some (.int 1))) (fun _=>some (.int 1))) (fun _=>some (.int 60))) (argC (op2 dIx (vAt 1) (fun _=>some (.int 2))) argN)))) argN))))))
def aN:List D->Option D:=via 1 2 cO
theorem gF:∀ ds d,aN ds=some d->retOf (cO (beg 2 ds))=some d:=fun _ _ h=>aB h
theorem gK:∀ ds d,aN ds=some d->ds.length=1:=fun _ _ h=>ao h
theorem gu (s:WS):aN [s.d]=some (deed .aminute s).d:=by simp [-dIx,aN,via,cO,bo,w2,wa0,wa1,wa2,pu2,deed]
def dw:R->Option Out :=
  (seqD (asgD (op2 dIx (vAt 0) (fun _=>some bo)) (setAt 1))
  (retD (callD aF (argC (vAt 0) (argC (fun _=>some bo) (argC (tupD (argC (op2 dIx (vAt 1) (fun _=>some (.int 0))) (argC (op2 dIx (vAt 1) (fun _=>some (.int 1))) (argC (notV (op2 dIx (vAt 1) (fun _=>some (.int 2)))) argN)))) argN))))))
def bh:List D->Option D:=via 1 2 dw
theorem jI:∀ ds d,bh ds=some d->retOf (dw (beg 2 ds))=some d:=fun _ _ h=>aB h
theorem js:∀ ds d,bh ds=some d->ds.length=1:=fun _ _ h=>ao h
theorem jM (s:WS):bh [s.d]=some (deed .alarm s).d:=by simp [-dIx,bh,via,dw,bo,w2,wa0,wa1,wa2,pu2,deed]
def jB:R->Option Out :=
  (seqD (ifD (truT (op2 dIx (op2 dIx (vAt 0) (fun _=>some aV)) (fun _=>some (.int 3))))
  (retD (vAt 0))
  nextD)
  (retD (callD aF (argC (vAt 0) (argC (fun _=>some aV) (argC (tupD (argC (vAt 1) (argC (vAt 2) (argC (op2 dAdd (op2 dMul (fun _=>some (.int 60)) (vAt 1)) (vAt 2)) (argC (fun _=>some (.bl false)) argN))))) argN))))))
def bP:List D->Option D:=via 3 3 jB
theorem so:∀ ds d,bP ds=some d->retOf (jB (beg 3 ds))=some d:=fun _ _ h=>aB h
theorem sU:∀ ds d,bP ds=some d->ds.length=3:=fun _ _ h=>ao h
theorem j8 (s:WS) (m c:Int):bP [s.d,.int m,.int c]=some (setTo s m c).d:=by
 cases hr:s.cr<;>simp [-dIx,-dMul,bP,via,jB,aV,w4,wc3,hr,setTo,mul60,pu4]
def cG:R->Option Out :=
  (seqD (asgD (op2 dIx (vAt 0) (fun _=>some aV)) (setAt 1))
  (retD (callD bP (argC (vAt 0) (argC (op2 dMod (op2 dAdd (op2 dIx (vAt 1) (fun _=>some (.int 0))) (fun _=>some (.int 1))) (fun _=>some (.int 60))) (argC (op2 dIx (vAt 1) (fun _=>some (.int 1))) argN))))))
def aQ:List D->Option D:=via 1 2 cG
theorem ga:∀ ds d,aQ ds=some d->retOf (cG (beg 2 ds))=some d:=fun _ _ h=>aB h
theorem gS:∀ ds d,aQ ds=some d->ds.length=1:=fun _ _ h=>ao h
theorem gJ (s:WS):aQ [s.d]=some (deed .cminute s).d:=by simp [-dIx,aQ,via,cG,aV,w4,wc0,wc1,j8,deed]
def cM:R->Option Out :=
  (seqD (asgD (op2 dIx (vAt 0) (fun _=>some aV)) (setAt 1))
  (retD (callD bP (argC (vAt 0) (argC (op2 dIx (vAt 1) (fun _=>some (.int 0))) (argC (op2 dMod (op2 dAdd (op2 dIx (vAt 1) (fun _=>some (.int 1))) (fun _=>some (.int 1))) (fun _=>some (.int 60))) argN))))))
def aO:List D->Option D:=via 1 2 cM
theorem gl:∀ ds d,aO ds=some d->retOf (cM (beg 2 ds))=some d:=fun _ _ h=>aB h
theorem gO:∀ ds d,aO ds=some d->ds.length=1:=fun _ _ h=>ao h
theorem gI (s:WS):aO [s.d]=some (deed .csecond s).d:=by simp [-dIx,aO,via,cM,aV,w4,wc0,wc1,j8,deed]
def e_:R->Option Out :=
  (seqD (asgD (op2 dIx (vAt 0) (fun _=>some aV)) (setAt 1))
  (seqD (asgD (andV (notV (op2 dIx (vAt 1) (fun _=>some (.int 3)))) (asV (cmp2 cGt (op2 dIx (vAt 1) (fun _=>some (.int 2))) (fun _=>some (.int 0))))) (setAt 2))
  (retD (callD aF (argC (vAt 0) (argC (fun _=>some aV) (argC (tupD (argC (op2 dIx (vAt 1) (fun _=>some (.int 0))) (argC (op2 dIx (vAt 1) (fun _=>some (.int 1))) (argC (op2 dIx (vAt 1) (fun _=>some (.int 2))) (argC (vAt 2) argN))))) argN)))))))
def bv:List D->Option D:=via 1 3 e_
theorem jp:∀ ds d,bv ds=some d->retOf (e_ (beg 3 ds))=some d:=fun _ _ h=>aB h
theorem j6:∀ ds d,bv ds=some d->ds.length=1:=fun _ _ h=>ao h
theorem jt (s:WS):bv [s.d]=some (deed .count s).d:=by
 have q:∀ r:Bool,andV (notV (op2 dIx (vAt 1) (fun _=>some (.int 3)))) (asV (cmp2 cGt (op2 dIx (vAt 1) (fun _=>some (.int 2))) (fun _=>some (.int 0)))) [some s.d,some (.tup [.int s.cm,.int s.cs,.int s.cl,.bl r]),none]=some (.bl (!r&&decide (0<s.cl))):=by
  intro r
  cases r
  ·exact anV rfl (asS (cmS (opS rfl rfl rfl) rfl rfl))
  ·exact anVF rfl
 exact viaS ((seqN (asgS (opS rfl rfl (w4 s)) rfl)).trans ((seqN (asgS (q s.cr) rfl)).trans (retS (callS (arS rfl (arS rfl (arS (tupS (arS (opS rfl rfl (wc0 s)) (arS (opS rfl rfl (wc1 s)) (arS (opS rfl rfl (wc2 s)) rfl)))) rfl))) (pu4 s s.cm s.cs s.cl _)))))
def jC:R->Option Out :=
  (seqD (asgD (op2 dIx (vAt 0) (fun _=>some aV)) (setAt 1))
  (retD (callD bP (argC (vAt 0) (argC (op2 dIx (vAt 1) (fun _=>some (.int 0))) (argC (op2 dIx (vAt 1) (fun _=>some (.int 1))) argN))))))
def cZ:List D->Option D:=via 1 2 jC
theorem sA:∀ ds d,cZ ds=some d->retOf (jC (beg 2 ds))=some d:=fun _ _ h=>aB h
theorem rR:∀ ds d,cZ ds=some d->ds.length=1:=fun _ _ h=>ao h
theorem rW (s:WS):cZ [s.d]=some (deed .full s).d:=by simp [-dIx,cZ,via,jC,aV,w4,wc0,wc1,j8,deed]
def hV:R->Option Out :=
 (retD (callD aF (argC (vAt 0) (argC (fun _=>some bj) (argC (op2 dMod (op2 dAdd (op2 dIx (vAt 0) (fun _=>some bj)) (fun _=>some (.int 3600))) (fun _=>some (.int 86400))) argN)))))
def cC:List D->Option D:=via 1 1 hV
theorem qF:∀ ds d,cC ds=some d->retOf (hV (beg 1 ds))=some d:=fun _ _ h=>aB h
theorem rF:∀ ds d,cC ds=some d->ds.length=1:=fun _ _ h=>ao h
theorem qW (s:WS):cC [s.d]=some (deed .hour s).d:=by simp [-dIx,cC,via,hV,bj,w1,pu1,deed]
def jZ:R->Option Out :=
  (seqD (asgD (op2 dIx (vAt 0) (fun _=>some cy)) (setAt 1))
  (seqD (ifD (notT (truT (op2 dIx (vAt 1) (fun _=>some (.int 1)))))
  (retD (callD aF (argC (vAt 0) (argC (fun _=>some cy) (argC (tupD (argC (fun _=>some (.int 0)) (argC (fun _=>some (.bl false)) (argC (tupD argN) argN)))) argN)))))
  nextD)
  (seqD (ifD (cmp2 cGe (callD fLen (argC (op2 dIx (vAt 1) (fun _=>some (.int 2))) argN)) (fun _=>some fo))
  (retD (vAt 0))
  nextD)
  (retD (callD aF (argC (vAt 0) (argC (fun _=>some cy) (argC (tupD (argC (op2 dIx (vAt 1) (fun _=>some (.int 0))) (argC (fun _=>some (.bl true)) (argC (op2 dAdd (op2 dIx (vAt 1) (fun _=>some (.int 2))) (tupD (argC (op2 dIx (vAt 1) (fun _=>some (.int 0))) argN))) argN)))) argN))))))))
def cx:List D->Option D:=via 1 2 jZ
theorem pG:∀ ds d,cx ds=some d->retOf (jZ (beg 2 ds))=some d:=fun _ _ h=>aB h
theorem pi:∀ ds d,cx ds=some d->ds.length=1:=fun _ _ h=>ao h
theorem pZ (s:WS) (h:s.lk.length<=4):cx [s.d]=some (deed .lap s).d:=by
 have t:truT (op2 dIx (vAt 1) (fun _=>some (.int 1))) [some s.d,some s.lapsD]=some s.lr:=trS (opS rfl rfl (wl1 s))
 have hl:fLen [.tup (s.lk.map .int)]=some (.int s.lk.length):=by show some (D.int ((s.lk.map D.int).length:Int))=_;rw [List.length_map]
 have hlen:callD fLen (argC (op2 dIx (vAt 1) (fun _=>some (.int 2))) argN) [some s.d,some s.lapsD]=some (.int s.lk.length):=callS (arS (opS rfl rfl (wl2 s)) rfl) hl
 have a1:asgD (op2 dIx (vAt 0) (fun _=>some cy)) (setAt 1) [some s.d,none]=some (.nx [some s.d,some s.lapsD]):=asgS (opS rfl rfl (w3 s)) rfl
 cases hr:s.lr with
 | false =>
  have e:deed .lap s={s with lm:=0,lr:=false,lk:=[]}:=by
   show (if s.lr then _ else {s with lm:=0,lk:=[]})=_
   rw [if_neg (by rw [hr];decide),<- hr]
  rw [hr] at t
  rw [e]
  exact viaS ((seqN a1).trans (seqR ((ifT (ntS (b:=false) t)).trans (retS (callS (arS rfl (arS rfl (arS (tupS (arS rfl (arS rfl (arS (tupS rfl) rfl)))) rfl))) (pu3 s 0 false []))))))
 | true =>
  rw [hr] at t
  have n1:ifD (notT (truT (op2 dIx (vAt 1) (fun _=>some (.int 1))))) (retD (callD aF (argC (vAt 0) (argC (fun _=>some cy) (argC (tupD (argC (fun _=>some (.int 0)) (argC (fun _=>some (.bl false)) (argC (tupD argN) argN)))) argN))))) nextD [some s.d,some s.lapsD]=some (.nx [some s.d,some s.lapsD]):=(ifF (ntS (b:=true) t)).trans rfl
  by_cases h4:4<=s.lk.length
  ·have e:deed .lap s=s:=by
    show (if s.lr then (if 4<=s.lk.length then s else _) else _)=_
    rw [if_pos hr,if_pos h4]
   rw [e]
   exact viaS ((seqN a1).trans ((seqN n1).trans (seqR ((ifT (cmS hlen rfl (dT (Int.ofNat_le.mpr h4)))).trans (retS rfl)))))
  ·have e:deed .lap s={s with lm:=s.lm,lr:=true,lk:=s.lk++[s.lm]}:=by
    show (if s.lr then (if 4<=s.lk.length then s else {s with lk:=s.lk++[s.lm]}) else _)=_
    rw [if_pos hr,if_neg h4,<- hr]
   have ha:dAdd (.tup (s.lk.map .int)) (.tup [.int s.lm])=some (.tup ((s.lk++[s.lm]).map .int)):=by
    rw [List.map_append]
    exact addU (by rw [List.length_map];show s.lk.length+1<=8;omega)
   rw [e]
   exact viaS ((seqN a1).trans ((seqN n1).trans ((seqN ((ifF (cmS hlen rfl (dF fun q=>h4 (Int.ofNat_le.mp q)))).trans rfl)).trans (retS (callS (arS rfl (arS rfl (arS (tupS (arS (opS rfl rfl (wl0 s)) (arS rfl (arS (opS (opS rfl rfl (wl2 s)) (tupS (arS (opS rfl rfl (wl0 s)) rfl)) ha) rfl)))) rfl))) (pu3 s s.lm true (s.lk++[s.lm])))))))
def dX:R->Option Out :=
  (seqD (asgD (op2 dIx (vAt 0) (fun _=>some cy)) (setAt 1))
  (retD (callD aF (argC (vAt 0) (argC (fun _=>some cy) (argC (tupD (argC (op2 dIx (vAt 1) (fun _=>some (.int 0))) (argC (notV (op2 dIx (vAt 1) (fun _=>some (.int 1)))) (argC (op2 dIx (vAt 1) (fun _=>some (.int 2))) argN)))) argN))))))
def bu:List D->Option D:=via 1 2 dX
theorem kJ:∀ ds d,bu ds=some d->retOf (dX (beg 2 ds))=some d:=fun _ _ h=>aB h
theorem kF:∀ ds d,bu ds=some d->ds.length=1:=fun _ _ h=>ao h
theorem ko (s:WS):bu [s.d]=some (deed .run s).d:=by simp [-dIx,bu,via,dX,cy,w3,wl0,wl1,wl2,pu3,deed]
def fq:R->Option Out :=
  (seqD (asgD (op2 dIx (vAt 0) (fun _=>some bj)) (setAt 1))
  (seqD (asgD (op2 dMod (op2 dAdd (op2 dMod (vAt 1) (fun _=>some (.int 3600))) (fun _=>some (.int 60))) (fun _=>some (.int 3600))) (setAt 2))
  (retD (callD aF (argC (vAt 0) (argC (fun _=>some bj) (argC (op2 dAdd (op2 dSub (vAt 1) (op2 dMod (vAt 1) (fun _=>some (.int 3600)))) (vAt 2)) argN)))))))
def bH:List D->Option D:=via 1 3 fq
theorem mZ:∀ ds d,bH ds=some d->retOf (fq (beg 3 ds))=some d:=fun _ _ h=>aB h
theorem oj:∀ ds d,bH ds=some d->ds.length=1:=fun _ _ h=>ao h
theorem nW (s:WS):bH [s.d]=some (deed .minute s).d:=by simp [-dIx,bH,via,fq,bj,w1,pu1,deed]
def ic:R->Option Out :=
 (retD (vAt 0))
def cE:List D->Option D:=via 1 1 ic
theorem rg:∀ ds d,cE ds=some d->retOf (ic (beg 1 ds))=some d:=fun _ _ h=>aB h
theorem qE:∀ ds d,cE ds=some d->ds.length=1:=fun _ _ h=>ao h
theorem qV (s:WS):cE [s.d]=some (deed .none s).d:=by simp [cE,via,ic,deed]
def iy:R->Option Out :=
 (retD (callD aF (argC (vAt 0) (argC (fun _=>some bj) (argC (op2 dSub (op2 dIx (vAt 0) (fun _=>some bj)) (op2 dMod (op2 dIx (vAt 0) (fun _=>some bj)) (fun _=>some (.int 60)))) argN)))))
def cB:List D->Option D:=via 1 1 iy
theorem qH:∀ ds d,cB ds=some d->retOf (iy (beg 1 ds))=some d:=fun _ _ h=>aB h
theorem qM:∀ ds d,cB ds=some d->ds.length=1:=fun _ _ h=>ao h
theorem rG (s:WS):cB [s.d]=some (deed .zero s).d:=by simp [-dIx,cB,via,iy,bj,w1,pu1,deed]
def tab_STEPS:List (Str×(List D->Option D)):=[(Str.ofString "none",cE),(Str.ofString "hour",cC),(Str.ofString "minute",bH),(Str.ofString "zero",cB),(Str.ofString "ahour",aX),(Str.ofString "aminute",aN),(Str.ofString "alarm",bh),(Str.ofString "run",bu),(Str.ofString "lap",cx),(Str.ofString "cminute",aQ),(Str.ofString "csecond",aO),(Str.ofString "full",cZ),(Str.ofString "count",bv)]
def gj:R->Option Out :=
  (seqD (asgD (op2 dIx (op2 dIx (op2 dIx (vAt 0) (fun _=>some (.int 2))) (op2 dIx (vAt 1) (fun _=>some cq))) (fun _=>some (.int 2))) (setAt 3))
  (seqD (asgD (op2 dIx (vAt 3) (op1 (dIdx dl) (vAt 2))) (setAt 4))
  (fnD 5 tab_STEPS (op2 dIx (vAt 4) (fun _=>some (.int 0))) (fun G_=>(retD (callD aF (argC (callD G_ (argC (vAt 1) argN)) (argC (fun _=>some cq) (argC (op2 dIx (vAt 4) (fun _=>some (.int 1))) argN)))))))))
def bn:List D->Option D:=via 3 6 gj
theorem lZ:∀ ds d,bn ds=some d->retOf (gj (beg 6 ds))=some d:=fun _ _ h=>aB h
theorem li:∀ ds d,bn ds=some d->ds.length=3:=fun _ _ h=>ao h
theorem tU (d:Deed) (s:WS) (h:s.lk.length<=4):∃ F,tab_STEPS.lookup d.x=some F/\F [s.d]=some (deed d s).d:=by
 cases d
 ·exact ⟨_,rfl,qV s⟩
 ·exact ⟨_,rfl,qW s⟩
 ·exact ⟨_,rfl,nW s⟩
 ·exact ⟨_,rfl,rG s⟩
 ·exact ⟨_,rfl,iU s⟩
 ·exact ⟨_,rfl,gu s⟩
 ·exact ⟨_,rfl,jM s⟩
 ·exact ⟨_,rfl,ko s⟩
 ·exact ⟨_,rfl,pZ s h⟩
 ·exact ⟨_,rfl,gJ s⟩
 ·exact ⟨_,rfl,gI s⟩
 ·exact ⟨_,rfl,rW s⟩
 ·exact ⟨_,rfl,jt s⟩
theorem idx_x (x:Btn):dIdx dl (.str x.x)=some (.int (x.ix:Int)):=by cases x<;>rfl
theorem idx_X (x:Btn):dIdx dl (.str x.X)=some (.int ((x.ix+3:Nat):Int)):=by cases x<;>rfl
theorem fnS {i:Nat} {tab:List (Str×(List D->Option D))} {f:R->Option D} {g:(List D->Option D)->R->Option Out} {ρ:R} {z:Str} {F:List D->Option D} {o:Option Out} (h1:f ρ=some (.str z)) (h2:tab.lookup z=some F) (hi:i<ρ.length) (h3:g F (ρ.set i none)=o):fnD i tab f g ρ=o:=by
 unfold fnD
 rw [h1]
 show (tab.lookup z).bind _=_
 rw [h2]
 show (if i<ρ.length then g F (ρ.set i none) else none)=_
 rw [if_pos hi,h3]
theorem gc {b:Bk} {s:WS} (ok:b.Ok) (w:s.Wk b) {p:Str} {i:Nat} (hi:i<6) (hp:dIdx dl (.str p)=some (.int (i:Int))):bn [b.d,s.d,.str p]=some (press b s i).d:=by
 have hm:=lV b w.mode
 have h6:=(ok.all _ (sC b w.mode)).six
 have hr:=uS (b.modes.getD s.mode default) (i:=i) (by rw [h6];exact hi)
 obtain ⟨F,hF,hs⟩:=tU (b.row s.mode i).1 s w.lk
 unfold Bk.row at hF hs
 unfold press Bk.row
 generalize (b.modes.getD s.mode default)=md at *
 generalize (md.rows.getD i (Deed.none,0))=rw_ at *
 exact viaS ((seqN (asgS (opS (opS (opS rfl rfl (b2 b)) (opS rfl rfl (w0 s)) hm) rfl (m2 md)) rfl)).trans ((seqN (asgS (opS rfl (o1S rfl hp) hr) rfl)).trans
  (fnS (opS rfl rfl (r0 rw_)) hF (by simp) (retS (callS (arS (callS rfl hs) (arS rfl (arS (opS rfl rfl (r1 rw_)) rfl))) (pu0 _ _))))))
def nv:R->Option Out :=
  (seqD (ifD (notT (truT (callD bp (argC (vAt 1) (argC (vAt 2) argN)))))
  (retD (vAt 1))
  nextD)
  (seqD (ifD (truT (callD cz (argC (vAt 1) (argC (vAt 2) argN))))
  (asgD (callD bn (argC (vAt 0) (argC (vAt 1) (argC (vAt 2) argN)))) (setAt 1))
  nextD)
  (retD (callD aF (argC (callD aF (argC (vAt 1) (argC (fun _=>some bz) (argC (fun _=>some .non) argN)))) (argC (fun _=>some dq) (argC (fun _=>some (.int 0)) argN)))))))
def du:List D->Option D:=via 3 3 nv
theorem sK:∀ ds d,du ds=some d->retOf (nv (beg 3 ds))=some d:=fun _ _ h=>aB h
theorem rZ:∀ ds d,du ds=some d->ds.length=3:=fun _ _ h=>ao h
theorem r_ {b:Bk} {s:WS} (ok:b.Ok) (w:s.Wk b) (x:Btn):du [b.d,s.d,.str x.x]=some (letGo b s x).d:=by
 have e1:=gt s x
 have e2:=pN s x
 have e3:=gc ok w x.ix6 (idx_x x)
 unfold letGo
 rcases hs:s.held with _ | ⟨y,k⟩<;>rw [hs] at e1 e2
 ·exact viaS (seqR ((ifT (ntS (trS (callS rfl e1)))).trans (retS rfl)))
 ·by_cases hy:y=x
  ·subst hy
   simp only [decide_true,Bool.true_and] at e1 e2
   dsimp only
   rw [if_pos rfl]
   cases k with
   | none=>exact viaS ((seqN (ifF (ntS (trS (callS rfl e1))))).trans ((seqN (ifF (trS (callS rfl e2)))).trans (retS (callS (arS (callS rfl (pu6n s)) rfl) (pu7 _ 0)))))
   | some j=>exact viaS ((seqN (ifF (ntS (trS (callS rfl e1))))).trans ((seqN ((ifT (trS (callS rfl e2))).trans (asgS (callS rfl e3) rfl))).trans (retS (callS (arS (callS rfl (pu6n _)) rfl) (pu7 _ 0)))))
  ·dsimp only at e1 ⊢
   rw [decide_eq_false hy] at e1
   rw [if_neg hy]
   exact viaS (seqR ((ifT (ntS (trS (callS rfl e1)))).trans (retS rfl)))
def nh:R->Option Out :=
  (seqD (ifD (cmp2 cNotN (op2 dIx (vAt 0) (fun _=>some bz)) (fun _=>some .non))
  (retD (vAt 0))
  nextD)
  (seqD (asgD (ifE (cmp2 cGt (op2 dIx (vAt 0) (fun _=>some eh)) (fun _=>some (.int 0))) (fun _=>some .non) (fun _=>some (.int 0))) (setAt 2))
  (retD (callD aF (argC (callD aF (argC (callD aF (argC (vAt 0) (argC (fun _=>some eh) (argC (fun _=>some (.int 0)) argN)))) (argC (fun _=>some bz) (argC (tupD (argC (vAt 1) (argC (vAt 2) argN))) argN)))) (argC (fun _=>some dq) (argC (fun _=>some (.int 0)) argN)))))))
def dv:List D->Option D:=via 2 3 nh
theorem sZ:∀ ds d,dv ds=some d->retOf (nh (beg 3 ds))=some d:=fun _ _ h=>aB h
theorem tm:∀ ds d,dv ds=some d->ds.length=2:=fun _ _ h=>ao h
theorem sP (s:WS) (x:Btn):dv [s.d,.str x.x]=some (pushed s x).d:=by
 have e6:=w6 s
 have e5:=w5 s
 unfold pushed
 cases hh:s.held with
 | some v =>
  rw [hh] at e6
  exact viaS (seqR ((ifT (cmS (opS rfl rfl e6) rfl rfl)).trans (retS rfl)))
 | none =>
  rw [hh] at e6
  by_cases hr:0<s.ring
  ·have z:=pu6s {s with ring:=0} x none
   simp only [Option.isSome_none,Bool.false_eq_true,if_false,if_pos hr]
   exact viaS ((seqN (ifF (cmS (opS rfl rfl e6) rfl rfl))).trans ((seqN (asgS (ieT (cmS (opS rfl rfl e5) rfl (dT hr)) rfl) rfl)).trans (retS (callS (arS (callS (arS (callS rfl (pu5 s 0)) rfl) z) rfl) (pu7 _ 0)))))
  ·have z:=pu6s {s with ring:=0} x (some 0)
   simp only [Option.isSome_none,Bool.false_eq_true,if_false,if_neg hr]
   exact viaS ((seqN (ifF (cmS (opS rfl rfl e6) rfl rfl))).trans ((seqN (asgS (ieF (cmS (opS rfl rfl e5) rfl (dF hr)) rfl) rfl)).trans (retS (callS (arS (callS (arS (callS rfl (pu5 s 0)) rfl) z) rfl) (pu7 _ 0)))))
def jx:R->Option Out :=
  (seqD (ifD (notT (truT (op2 dIx (vAt 0) (fun _=>some (.int 3)))))
  (retD (vAt 0))
  nextD)
  (seqD (asgD (callD fMax (argC (fun _=>some (.int 0)) (argC (op2 dSub (op2 dIx (vAt 0) (fun _=>some (.int 2))) (vAt 1)) argN))) (setAt 2))
  (retD (tupD (argC (op2 dIx (vAt 0) (fun _=>some (.int 0))) (argC (op2 dIx (vAt 0) (fun _=>some (.int 1))) (argC (vAt 2) (argC (asV (cmp2 cGt (vAt 2) (fun _=>some (.int 0)))) argN))))))))
def cA:List D->Option D:=via 2 3 jx
theorem pP:∀ ds d,cA ds=some d->retOf (jx (beg 3 ds))=some d:=fun _ _ h=>aB h
theorem pX:∀ ds d,cA ds=some d->ds.length=2:=fun _ _ h=>ao h
theorem oO (s:WS) (n:Int):cA [s.countD,.int n]=some (.tup [.int s.cm,.int s.cs,.int (leftOn s n),.bl (runsOn s n)]):=by
 have e1:leftOn s n=if s.cr then mx 0 (s.cl - n) else s.cl:=rfl
 have e2:runsOn s n=(s.cr&&decide (0<mx 0 (s.cl - n))):=rfl
 rw [e1,e2]
 have t:truT (op2 dIx (vAt 0) (fun _=>some (.int 3))) [some s.countD,some (.int n),none]=some s.cr:=trS (opS rfl rfl (wc3 s))
 cases hr:s.cr with
 | false =>
  rw [hr] at t
  have q:s.countD=.tup [.int s.cm,.int s.cs,.int s.cl,.bl false]:=by rw [<- hr];rfl
  exact (viaS (seqR ((ifT (ntS (b:=false) t)).trans (retS rfl)))).trans (congrArg some q)
 | true =>
  rw [hr] at t
  exact viaS ((seqN ((ifF (ntS (b:=true) t)).trans rfl)).trans ((seqN (asgS (callS (arS rfl (arS (opS (opS rfl rfl (wc2 s)) rfl rfl) rfl)) (fmx _ _)) rfl)).trans (retS (tupS (arS (opS rfl rfl (wc0 s)) (arS (opS rfl rfl (wc1 s)) (arS rfl (arS (asS (cmS rfl rfl rfl)) rfl))))))))
def le:R->Option Out :=
  (seqD (ifD (orT (cmp2 cIsN (vAt 0) (fun _=>some .non)) (cmp2 cIsN (op2 dIx (vAt 0) (fun _=>some (.int 1))) (fun _=>some .non)))
  (retD (vAt 0))
  nextD)
  (retD (tupD (argC (op2 dIx (vAt 0) (fun _=>some (.int 0))) (argC (op2 dAdd (op2 dIx (vAt 0) (fun _=>some (.int 1))) (vAt 1)) argN)))))
def cT:List D->Option D:=via 2 2 le
theorem rz:∀ ds d,cT ds=some d->retOf (le (beg 2 ds))=some d:=fun _ _ h=>aB h
theorem qO:∀ ds d,cT ds=some d->ds.length=2:=fun _ _ h=>ao h
theorem rB (h:Option (Btn×Option Int)) (n:Int):cT [heldD h,.int n]=some (heldD (heldOn h n)):=by
 rcases h with _ | ⟨x,_ | k⟩
 ·exact viaS (seqR ((ifT (orL (cmS rfl rfl rfl))).trans (retS rfl)))
 ·exact viaS (seqR ((ifT (orR (cmS rfl rfl rfl) (cmS (opS rfl rfl rfl) rfl rfl))).trans (retS rfl)))
 ·exact viaS ((seqN ((ifF (orR (cmS rfl rfl rfl) (cmS (opS rfl rfl rfl) rfl rfl))).trans rfl)).trans (retS (tupS (arS (opS rfl rfl rfl) (arS (opS (opS rfl rfl rfl) rfl rfl) rfl)))))
def eS:R->Option Out :=
 (retD (callD fMax (argC (fun _=>some (.int 1)) (argC (op2 dSub (op2 dIx (vAt 0) (fun _=>some (.int 1))) (op2 dIx (vAt 1) (fun _=>some dq))) argN))))
def aS:List D->Option D:=via 2 2 eS
theorem iY:∀ ds d,aS ds=some d->retOf (eS (beg 2 ds))=some d:=fun _ _ h=>aB h
theorem iT:∀ ds d,aS ds=some d->ds.length=2:=fun _ _ h=>ao h
theorem eR (b:Bk) (s:WS):aS [b.d,s.d]=some (.int (toBack b s)):=viaS (retS (callS (arS rfl (arS (opS (opS rfl rfl (b1 b)) (opS rfl rfl (w7 s)) rfl) rfl)) (fmx _ _)))
def lh:R->Option Out :=
  (seqD (ifD (orT (cmp2 cNotN (op2 dIx (vAt 1) (fun _=>some bz)) (fun _=>some .non)) (cmp2 cEq (op2 dIx (vAt 0) (fun _=>some (.int 1))) (fun _=>some (.int 0))))
  (retD (op2 dIx (vAt 1) (fun _=>some dq)))
  nextD)
  (seqD (asgD (callD aS (argC (vAt 0) (argC (vAt 1) argN))) (setAt 3))
  (retD (ifE (cmp2 cLt (vAt 2) (vAt 3)) (op2 dAdd (op2 dIx (vAt 1) (fun _=>some dq)) (vAt 2)) (op2 dMod (op2 dSub (vAt 2) (vAt 3)) (op2 dIx (vAt 0) (fun _=>some (.int 1))))))))
def cV:List D->Option D:=via 3 4 lh
theorem rA:∀ ds d,cV ds=some d->retOf (lh (beg 4 ds))=some d:=fun _ _ h=>aB h
theorem qQ:∀ ds d,cV ds=some d->ds.length=3:=fun _ _ h=>ao h
theorem qZ {b:Bk} {s:WS} (n:Int) (hb:0<=b.back):cV [b.d,s.d,.int n]=some (.int (idleOn b s n)):=by
 have e:=eR b s
 have e6:=w6 s
 have e7:=w7 s
 unfold idleOn
 cases hh:s.held with
 | some v =>
  rw [hh] at e6
  rw [if_pos (.inl rfl)]
  exact viaS (seqR ((ifT (orL (cmS (opS rfl rfl e6) rfl rfl))).trans (retS (opS rfl rfl e7))))
 | none =>
  rw [hh] at e6
  by_cases h0:b.back=0
  ·rw [if_pos (.inr h0)]
   exact viaS (seqR ((ifT (orR (cmS (opS rfl rfl e6) rfl rfl) (cmS (opS rfl rfl (b1 b)) rfl (bqT h0)))).trans (retS (opS rfl rfl e7))))
  ·have hp:0<b.back:=by omega
   have q1:ifD (orT (cmp2 cNotN (op2 dIx (vAt 1) (fun _=>some bz)) (fun _=>some .non)) (cmp2 cEq (op2 dIx (vAt 0) (fun _=>some (.int 1))) (fun _=>some (.int 0)))) (retD (op2 dIx (vAt 1) (fun _=>some dq))) nextD [some b.d,some s.d,some (.int n),none]=some (.nx [some b.d,some s.d,some (.int n),none]) :=
    ifF (orR (cmS (opS rfl rfl e6) rfl rfl) (cmS (opS rfl rfl (b1 b)) rfl (bqF h0)))
   rw [if_neg (by rintro (z | z);cases z;exact h0 z)]
   by_cases h1:n<toBack b s
   ·rw [if_pos h1]
    exact viaS ((seqN q1).trans ((seqN (asgS (callS rfl e) rfl)).trans (retS (ieT (cmS (x:=.int n) (y:=.int (toBack b s)) rfl rfl (dT h1)) (opS (opS rfl rfl e7) rfl rfl)))))
   ·rw [if_neg h1]
    exact viaS ((seqN q1).trans ((seqN (asgS (callS rfl e) rfl)).trans (retS (ieF (cmS (x:=.int n) (y:=.int (toBack b s)) rfl rfl (dF h1)) (opS rfl (opS rfl rfl (b1 b)) (modS hp))))))
def kX:R->Option Out :=
 (retD (ifE (truT (op2 dIx (vAt 0) (fun _=>some (.int 1)))) (tupD (argC (op2 dAdd (op2 dIx (vAt 0) (fun _=>some (.int 0))) (vAt 1)) (argC (fun _=>some (.bl true)) (argC (op2 dIx (vAt 0) (fun _=>some (.int 2))) argN)))) (vAt 0)))
def cW:List D->Option D:=via 2 2 kX
theorem qI:∀ ds d,cW ds=some d->retOf (kX (beg 2 ds))=some d:=fun _ _ h=>aB h
theorem ri:∀ ds d,cW ds=some d->ds.length=2:=fun _ _ h=>ao h
theorem qJ (s:WS) (n:Int):cW [s.lapsD,.int n]=some (.tup [.int (lapsOn s n),.bl s.lr,.tup (s.lk.map .int)]):=by
 have e:lapsOn s n=if s.lr then s.lm+n else s.lm:=rfl
 rw [e]
 have t:truT (op2 dIx (vAt 0) (fun _=>some (.int 1))) [some s.lapsD,some (.int n)]=some s.lr:=trS (opS rfl rfl (wl1 s))
 cases hr:s.lr with
 | false =>
  rw [hr] at t
  have q:s.lapsD=.tup [.int s.lm,.bl false,.tup (s.lk.map .int)]:=by rw [<- hr];rfl
  exact (viaS (retS (ieF t rfl))).trans (congrArg some q)
 | true =>
  rw [hr] at t
  exact viaS (retS (ieT t (tupS (arS (opS (opS rfl rfl (wl0 s)) rfl rfl) (arS rfl (arS (opS rfl rfl (wl2 s)) rfl))))))
def gk:R->Option Out :=
  (seqD (asgD (op2 dIx (vAt 0) (fun _=>some bo)) (setAt 1))
  (seqD (ifD (notT (truT (op2 dIx (vAt 1) (fun _=>some (.int 2)))))
  (retD (fun _=>some .non))
  nextD)
  (seqD (asgD (op2 dAdd (op2 dMul (fun _=>some (.int 3600)) (op2 dIx (vAt 1) (fun _=>some (.int 0)))) (op2 dMul (fun _=>some (.int 60)) (op2 dIx (vAt 1) (fun _=>some (.int 1))))) (setAt 2))
  (retD (op2 dAdd (op2 dMod (op2 dSub (op2 dSub (vAt 2) (op2 dIx (vAt 0) (fun _=>some bj))) (fun _=>some (.int 1))) (fun _=>some eQ)) (fun _=>some (.int 1)))))))
def aR:List D->Option D:=via 1 3 gk
theorem mj:∀ ds d,aR ds=some d->retOf (gk (beg 3 ds))=some d:=fun _ _ h=>aB h
theorem mt:∀ ds d,aR ds=some d->ds.length=1:=fun _ _ h=>ao h
theorem gT (s:WS):aR [s.d]=some (optI (alarmTick s)):=by
 have e2:=wa2 s
 unfold alarmTick
 cases ha:s.aon<;>rw [ha] at e2
 ·exact viaS ((seqN (asgS (opS rfl rfl (w2 s)) rfl)).trans (seqR ((ifT (ntS (b:=false) (trS (opS rfl rfl e2)))).trans (retS rfl))))
 ·exact viaS ((seqN (asgS (opS rfl rfl (w2 s)) rfl)).trans ((seqN (ifF (ntS (b:=true) (trS (opS rfl rfl e2))))).trans ((seqN (asgS (opS (opS rfl (opS rfl rfl (wa0 s)) (mul3600 _)) (opS rfl (opS rfl rfl (wa1 s)) (mul60 _)) rfl) rfl)).trans (retS (opS (opS (opS (opS rfl (opS rfl rfl (w1 s)) rfl) rfl rfl) rfl (modS (by decide))) rfl rfl)))))
def gx:R->Option Out :=
  (seqD (asgD (op2 dIx (vAt 0) (fun _=>some aV)) (setAt 1))
  (retD (ifE (truT (op2 dIx (vAt 1) (fun _=>some (.int 3)))) (op2 dIx (vAt 1) (fun _=>some (.int 2))) (fun _=>some .non))))
def aU:List D->Option D:=via 1 2 gx
theorem ly:∀ ds d,aU ds=some d->retOf (gx (beg 2 ds))=some d:=fun _ _ h=>aB h
theorem mB:∀ ds d,aU ds=some d->ds.length=1:=fun _ _ h=>ao h
theorem gm (s:WS):aU [s.d]=some (optI (countTick s)):=by
 have e3:=wc3 s
 unfold countTick
 cases ha:s.cr<;>rw [ha] at e3
 ·exact viaS ((seqN (asgS (opS rfl rfl (w4 s)) rfl)).trans (retS (ieF (trS (opS rfl rfl e3)) rfl)))
 ·exact viaS ((seqN (asgS (opS rfl rfl (w4 s)) rfl)).trans (retS (ieT (trS (opS rfl rfl e3)) (opS rfl rfl (wc2 s)))))
def iP:R->Option Out :=
  (seqD (asgD (callD aR (argC (vAt 0) argN)) (setAt 2))
  (seqD (asgD (callD aU (argC (vAt 0) argN)) (setAt 3))
  (ownD 4 argN
  (obSeq (oIf (andT (cmp2 cNotN (vAt 2) (fun _=>some .non)) (cmp2 cLe (vAt 2) (vAt 1)))
  (oApp 4 (op2 dSub (vAt 1) (op2 dMod (op2 dSub (vAt 1) (vAt 2)) (fun _=>some eQ))))
  oNext)
  (obSeq (oIf (andT (cmp2 cNotN (vAt 3) (fun _=>some .non)) (cmp2 cLe (vAt 3) (vAt 1)))
  (oApp 4 (vAt 3))
  oNext)
  (obRel (retD (callD fMaxD (argC (vAt 4) argN)))))))))
def b_:List D->Option D:=via 2 5 iP
theorem nj:∀ ds d,b_ ds=some d->retOf (iP (beg 5 ds))=some d:=fun _ _ h=>aB h
theorem oe:∀ ds d,b_ ds=some d->ds.length=2:=fun _ _ h=>ao h
def lrA (n:Int) (o:Option Int):List D:=match o with
 | some a=>if a<=n then [.int (n - (n - a)%86400)] else []
 | none=>[]
def lrC (n:Int) (o:Option Int):List D:=match o with
 | some c=>if c<=n then [.int c] else []
 | none=>[]
theorem lr_max (s:WS) (n:Int):fMaxD [.lst (lrA n (alarmTick s)++lrC n (countTick s))]=some (optI (lastRing s n)):=by
 unfold lastRing
 cases alarmTick s<;>cases countTick s
 ·rfl
 ·rename_i c;by_cases h:c<=n<;>simp [lrA,lrC,h,optI]
 ·rename_i a;by_cases h:a<=n<;>simp [lrA,lrC,h,optI]
 ·rename_i a c;by_cases h:a<=n<;>by_cases h':c<=n<;>simp [lrA,lrC,h,h',optI,mx]
theorem obS {p:R->List D->Option (Out×List D)} {q:R->List D->Option Out} {ρ ρ2:R} {ds ds2:List D} (h:p ρ ds=some (.nx ρ2,ds2)):obSeq p q ρ ds=q ρ2 ds2:=by simp [h]
theorem oIfT {c:R->Option Bool} {p q:R->List D->Option (Out×List D)} {ρ:R} {ds:List D} (h:c ρ=some true):oIf c p q ρ ds=p ρ ds:=by simp [h]
theorem oIfF {c:R->Option Bool} {p q:R->List D->Option (Out×List D)} {ρ:R} {ds:List D} (h:c ρ=some false):oIf c p q ρ ds=q ρ ds:=by simp [h]
theorem oM (s:WS) (n:Int):b_ [s.d,.int n]=some (optI (lastRing s n)):=by
 have e1:=gT s
 have e2:=gm s
 rw [<- lr_max]
 generalize alarmTick s=a at *
 generalize countTick s=c at *
 have z0:0<sizeLine:=by decide
 have z1:1<sizeLine:=by decide
 have q1:asgD (callD aR (argC (vAt 0) argN)) (setAt 2) [some s.d,some (.int n),none,none,none]=some (.nx [some s.d,some (.int n),some (optI a),none,none]):=by
  show (aR [s.d]).bind _=_
  rw [e1];rfl
 have q2:asgD (callD aU (argC (vAt 0) argN)) (setAt 3) [some s.d,some (.int n),some (optI a),none,none]=some (.nx [some s.d,some (.int n),some (optI a),some (optI c),none]):=by
  show (aU [s.d]).bind _=_
  rw [e2];rfl
 have q3:oIf (andT (cmp2 cNotN (vAt 2) (fun _=>some .non)) (cmp2 cLe (vAt 2) (vAt 1))) (oApp 4 (op2 dSub (vAt 1) (op2 dMod (op2 dSub (vAt 1) (vAt 2)) (fun _=>some eQ)))) oNext [some s.d,some (.int n),some (optI a),some (optI c)] []=some (.nx [some s.d,some (.int n),some (optI a),some (optI c)],lrA n a):=by
  cases a with
  | none=>rfl
  | some a =>
   show _=some (Out.nx _,if a<=n then _ else _)
   by_cases h:a<=n
   ·rw [oIfT (dT h),if_pos h]
    show (if 4=4/\0<sizeLine then _ else none)=_
    rw [if_pos ⟨rfl,z0⟩];rfl
   ·rw [oIfF (dF h),if_neg h];rfl
 have hl:(lrA n a).length<=1:=by
  unfold lrA
  split
  ·split<;>simp
  ·simp
 have hl2:(lrA n a).length<sizeLine:=Nat.lt_of_le_of_lt hl z1
 have q4:oIf (andT (cmp2 cNotN (vAt 3) (fun _=>some .non)) (cmp2 cLe (vAt 3) (vAt 1))) (oApp 4 (vAt 3)) oNext [some s.d,some (.int n),some (optI a),some (optI c)] (lrA n a)=some (.nx [some s.d,some (.int n),some (optI a),some (optI c)],lrA n a++lrC n c):=by
  cases c with
  | none=>show some _=_;rw [show lrC n none=[] from rfl,List.append_nil]
  | some c =>
   show _=some (Out.nx _,lrA n a++if c<=n then _ else _)
   by_cases h:c<=n
   ·rw [oIfT (dT h),if_pos h]
    show (if 4=4/\(lrA n a).length<sizeLine then _ else none)=_
    rw [if_pos ⟨rfl,hl2⟩];rfl
   ·rw [oIfF (dF h),if_neg h,List.append_nil];rfl
 show retOf (seqD (asgD (callD aR (argC (vAt 0) argN)) (setAt 2)) _ [some s.d,some (.int n),none,none,none])=_
 rw [seqN q1,seqN q2]
 show retOf (obSeq (oIf (andT (cmp2 cNotN (vAt 2) (fun _=>some .non)) (cmp2 cLe (vAt 2) (vAt 1))) (oApp 4 (op2 dSub (vAt 1) (op2 dMod (op2 dSub (vAt 1) (vAt 2)) (fun _=>some eQ)))) oNext) _ [some s.d,some (.int n),some (optI a),some (optI c)] [])=_
 rw [obS q3,obS q4]
 show retOf ((fMaxD [.lst (lrA n a++lrC n c)]).map .rt)=_
 cases fMaxD [.lst (lrA n a++lrC n c)]<;>rfl
def k_:R->Option Out :=
  (seqD (asgD (callD b_ (argC (vAt 0) (argC (vAt 1) argN))) (setAt 2))
  (seqD (ifD (cmp2 cIsN (vAt 2) (fun _=>some .non))
  (retD (callD fMax (argC (fun _=>some (.int 0)) (argC (op2 dSub (op2 dIx (vAt 0) (fun _=>some eh)) (vAt 1)) argN))))
  nextD)
  (retD (callD fMax (argC (fun _=>some (.int 0)) (argC (op2 dSub (fun _=>some eV) (op2 dSub (vAt 1) (vAt 2))) argN))))))
def cQ:List D->Option D:=via 2 3 k_
theorem rq:∀ ds d,cQ ds=some d->retOf (k_ (beg 3 ds))=some d:=fun _ _ h=>aB h
theorem rn:∀ ds d,cQ ds=some d->ds.length=2:=fun _ _ h=>ao h
theorem qU (s:WS) (n:Int):cQ [s.d,.int n]=some (.int (ringOn s n)):=by
 have e:=oM s n
 unfold ringOn
 cases h:lastRing s n with
 | none =>
  rw [h] at e
  exact viaS ((seqN (asgS (callS rfl e) rfl)).trans (seqR ((ifT (cmS rfl rfl rfl)).trans (retS (callS (arS rfl (arS (opS (opS rfl rfl (w5 s)) rfl rfl) rfl)) (fmx _ _))))))
 | some l =>
  rw [h] at e
  exact viaS ((seqN (asgS (callS rfl e) rfl)).trans ((seqN ((ifF (cmS rfl rfl rfl)).trans rfl)).trans (retS (callS (arS rfl (arS (opS rfl (opS rfl rfl rfl) rfl) rfl)) (fmx _ _)))))
def kY:R->Option Out :=
 (retD (tupD (argC (op2 dIx (vAt 1) (fun _=>some cq)) (argC (op2 dMod (op2 dAdd (op2 dIx (vAt 1) (fun _=>some bj)) (vAt 2)) (fun _=>some eQ)) (argC (op2 dIx (vAt 1) (fun _=>some bo)) (argC (callD cW (argC (op2 dIx (vAt 1) (fun _=>some cy)) (argC (vAt 2) argN))) (argC (callD cA (argC (op2 dIx (vAt 1) (fun _=>some aV)) (argC (vAt 2) argN))) (argC (callD cQ (argC (vAt 1) (argC (vAt 2) argN))) (argC (callD cT (argC (op2 dIx (vAt 1) (fun _=>some bz)) (argC (vAt 2) argN))) (argC (callD cV (argC (vAt 0) (argC (vAt 1) (argC (vAt 2) argN)))) argN))))))))))
def cj:List D->Option D:=via 3 3 kY
theorem rH:∀ ds d,cj ds=some d->retOf (kY (beg 3 ds))=some d:=fun _ _ h=>aB h
theorem rE:∀ ds d,cj ds=some d->ds.length=3:=fun _ _ h=>ao h
theorem iB {b:Bk} {s:WS} (n:Int) (hb:0<=b.back):cj [b.d,s.d,.int n]=some (counted b s n).d :=
 viaS (retS (tupS (arS (opS rfl rfl (w0 s)) (arS (opS (opS (opS rfl rfl (w1 s)) rfl rfl) rfl rfl) (arS (opS rfl rfl (w2 s)) (arS (callS (arS (opS rfl rfl (w3 s)) rfl) (qJ s n)) (arS (callS (arS (opS rfl rfl (w4 s)) rfl) (oO s n)) (arS (callS rfl (qU s n)) (arS (callS (arS (opS rfl rfl (w6 s)) rfl) (rB s.held n)) (arS (callS rfl (qZ n hb)) rfl))))))))))
def iN:R->Option Out :=
 (retD (andV (asV (cmp2 cGt (op2 dIx (vAt 0) (fun _=>some (.int 1))) (fun _=>some (.int 0)))) (andV (asV (cmp2 cNe (op2 dIx (vAt 1) (fun _=>some cq)) (fun _=>some (.int 0)))) (notV (op2 dIx (op2 dIx (op2 dIx (vAt 0) (fun _=>some (.int 2))) (op2 dIx (vAt 1) (fun _=>some cq))) (fun _=>some (.int 1)))))))
def cb:List D->Option D:=via 2 2 iN
theorem nQ:∀ ds d,cb ds=some d->retOf (iN (beg 2 ds))=some d:=fun _ _ h=>aB h
theorem oI:∀ ds d,cb ds=some d->ds.length=2:=fun _ _ h=>ao h
theorem nY {b:Bk} {s:WS} (w:s.Wk b):cb [b.d,s.d]=some (.bl (goesBack b s)):=by
 have hm:=lV b w.mode
 unfold goesBack
 have c1:asV (cmp2 cGt (op2 dIx (vAt 0) (fun _=>some (.int 1))) (fun _=>some (.int 0))) [some b.d,some s.d]=some (.bl (decide (0<b.back))):=asS (cmS (opS rfl rfl (b1 b)) rfl rfl)
 have e2:cNe (.int (s.mode:Int)) (.int 0)=some (!decide (s.mode=0)):=by
  show some (!((s.mode:Int)==0))=_
  cases s.mode<;>rfl
 have c2:asV (cmp2 cNe (op2 dIx (vAt 1) (fun _=>some cq)) (fun _=>some (.int 0))) [some b.d,some s.d]=some (.bl (!decide (s.mode=0))):=asS (cmS (opS rfl rfl (w0 s)) rfl e2)
 generalize b.modes.getD s.mode default=md at *
 have c3:notV (op2 dIx (op2 dIx (op2 dIx (vAt 0) (fun _=>some (.int 2))) (op2 dIx (vAt 1) (fun _=>some cq))) (fun _=>some (.int 1))) [some b.d,some s.d]=some (.bl !md.stays):=by
  show (op2 dIx _ _ _).bind _=_
  rw [opS (opS (opS rfl rfl (b2 b)) (opS rfl rfl (w0 s)) hm) rfl (m1 md)];rfl
 generalize decide (0<b.back)=p at *
 generalize (!decide (s.mode=0))=q at *
 cases p
 ·exact viaS (retS (anVF c1))
 ·cases q
  ·exact viaS (retS (anV c1 (anVF c2)))
  ·exact viaS (retS (anV c1 (anV c2 c3)))
def eT:R->Option Out :=
 (retD (callD fMax (argC (fun _=>some (.int 1)) (argC (op2 dSub (op2 dIx (vAt 0) (fun _=>some (.int 0))) (op2 dIx (op2 dIx (vAt 1) (fun _=>some bz)) (fun _=>some (.int 1)))) argN))))
def bm:List D->Option D:=via 2 2 eT
theorem je:∀ ds d,bm ds=some d->retOf (eT (beg 2 ds))=some d:=fun _ _ h=>aB h
theorem ja:∀ ds d,bm ds=some d->ds.length=2:=fun _ _ h=>ao h
theorem iZ {b:Bk} {s:WS} {x:Btn} {k:Int} (h:s.held=some (x,some k)):bm [b.d,s.d]=some (.int (mx 1 (b.hold - k))):=by
 have e6:=w6 s
 rw [h] at e6
 exact viaS (retS (callS (arS rfl (arS (opS (opS rfl rfl (b0 b)) (opS (opS rfl rfl e6) rfl (h1 x (some k))) rfl) rfl)) (fmx _ _)))
def iE:R->Option Out :=
  (seqD (asgD (op2 dIx (vAt 1) (fun _=>some bz)) (setAt 2))
  (seqD (ifD (cmp2 cIsN (vAt 2) (fun _=>some .non))
  (retD (ifE (truT (callD cb (argC (vAt 0) (argC (vAt 1) argN)))) (callD aS (argC (vAt 0) (argC (vAt 1) argN))) (fun _=>some .non)))
  nextD)
  (retD (ifE (cmp2 cIsN (op2 dIx (vAt 2) (fun _=>some (.int 1))) (fun _=>some .non)) (fun _=>some .non) (callD bm (argC (vAt 0) (argC (vAt 1) argN)))))))
def bE:List D->Option D:=via 2 3 iE
theorem oG:∀ ds d,bE ds=some d->retOf (iE (beg 3 ds))=some d:=fun _ _ h=>aB h
theorem m_:∀ ds d,bE ds=some d->ds.length=2:=fun _ _ h=>ao h
theorem iL {b:Bk} {s:WS} (w:s.Wk b):bE [b.d,s.d]=some (optI (turnTick b s)):=by
 have e1:=nY w
 have e2:=eR b s
 have e6:=w6 s
 unfold turnTick
 rcases hs:s.held with _ | ⟨x,_ | k⟩<;>rw [hs] at e6
 ·cases hg:goesBack b s<;>rw [hg] at e1
  ·exact viaS ((seqN (asgS (opS rfl rfl e6) rfl)).trans (seqR ((ifT rfl).trans (retS (ieF (trS (callS rfl e1)) rfl)))))
  ·exact viaS ((seqN (asgS (opS rfl rfl e6) rfl)).trans (seqR ((ifT rfl).trans (retS (ieT (trS (callS rfl e1)) (callS rfl e2))))))
 ·exact viaS ((seqN (asgS (opS rfl rfl e6) rfl)).trans ((seqN (ifF rfl)).trans (retS (ieT rfl rfl))))
 ·have e3:=iZ (b:=b) hs
  exact viaS ((seqN (asgS (opS rfl rfl e6) rfl)).trans ((seqN (ifF rfl)).trans (retS (ieF rfl (callS rfl e3)))))
def oy:R->Option Out :=
  (seqD (asgD (op2 dIx (vAt 1) (fun _=>some bz)) (setAt 2))
  (seqD (ifD (cmp2 cIsN (vAt 2) (fun _=>some .non))
  (retD (callD aF (argC (vAt 1) (argC (fun _=>some cq) (argC (fun _=>some (.int 0)) argN)))))
  nextD)
  (retD (callD bn (argC (vAt 0) (argC (callD aF (argC (vAt 1) (argC (fun _=>some bz) (argC (tupD (argC (op2 dIx (vAt 2) (fun _=>some (.int 0))) (argC (fun _=>some .non) argN))) argN)))) (argC (op1 dUp (op2 dIx (vAt 2) (fun _=>some (.int 0)))) argN)))))))
def dG:List D->Option D:=via 2 3 oy
theorem sY:∀ ds d,dG ds=some d->retOf (oy (beg 3 ds))=some d:=fun _ _ h=>aB h
theorem rT:∀ ds d,dG ds=some d->ds.length=2:=fun _ _ h=>ao h
theorem up_x (x:Btn):dUp (.str x.x)=some (.str x.X):=by cases x<;>rfl
theorem turned_none {b:Bk} {s:WS} (h:s.held=none):turned b s={s with mode:=0}:=by
 unfold turned
 split
 ·rfl
 ·rename_i e;rw [h] at e;cases e
theorem turned_some {b:Bk} {s:WS} {x:Btn} {k:Option Int} (h:s.held=some (x,k)):turned b s=press b {s with held:=some (x,none)} (x.ix+3):=by
 unfold turned
 split
 ·rename_i e;rw [h] at e;cases e
 ·rename_i e;rw [h] at e;cases e;rfl
theorem sR {b:Bk} {s:WS} (ok:b.Ok) (w:s.Wk b):dG [b.d,s.d]=some (turned b s).d:=by
 have e6:=w6 s
 rcases hs:s.held with _ | ⟨x,k⟩<;>rw [hs] at e6
 ·rw [turned_none hs]
  exact viaS ((seqN (asgS (opS rfl rfl e6) rfl)).trans (seqR ((ifT rfl).trans (retS (callS rfl (pu0 s 0))))))
 ·have e:=gc (s:={s with held:=some (x,none)}) ok {w with} x.ix3 (idx_X x)
  rw [turned_some hs]
  exact viaS ((seqN (asgS (opS rfl rfl e6) rfl)).trans ((seqN (ifF rfl)).trans (retS (callS (arS rfl (arS (callS (arS rfl (arS rfl (arS (tupS (arS (opS rfl rfl (h0 x k)) rfl)) rfl))) (pu6z s x)) (arS (o1S (opS rfl rfl (h0 x k)) (up_x x)) rfl))) e))))
def dN:R->Option Out :=
 (retD (callD dG (argC (vAt 0) (argC (callD cj (argC (vAt 0) (argC (vAt 1) (argC (callD bE (argC (vAt 0) (argC (vAt 1) argN))) argN)))) argN))))
def br:List D->Option D:=via 2 2 dN
theorem kz:∀ ds d,br ds=some d->retOf (dN (beg 2 ds))=some d:=fun _ _ h=>aB h
theorem ke:∀ ds d,br ds=some d->ds.length=2:=fun _ _ h=>ao h
theorem tw {b:Bk} {s:WS} {t:Int} (ok:b.Ok) (w:s.Wk b) (h:turnTick b s=some t):br [b.d,s.d]=some (behind b s t).d:=by
 have e1:=iL w
 rw [h] at e1
 have ht:=turn_pos h
 have e2:=iB (s:=s) t ok.back0
 have e3:=sR ok (w.cnt (n:=t) (by omega))
 simp only [optI] at e1
 simp [br,via,dN,e1,e2,e3,behind]
def iR:R->Option Out :=
  (seqD (asgD (callD bE (argC (vAt 0) (argC (vAt 1) argN))) (setAt 3))
  (seqD (ifD (orT (cmp2 cIsN (vAt 3) (fun _=>some .non)) (cmp2 cGt (vAt 3) (vAt 2)))
  (retD (lstD (argC (tupD (argC (fun _=>some (.int 0)) (argC (vAt 1) (argC (vAt 2) argN)))) argN)))
  nextD)
  (retD (lstD (argC (tupD (argC (fun _=>some (.int 0)) (argC (vAt 1) (argC (vAt 3) argN)))) (argC (tupD (argC (vAt 3) (argC (callD br (argC (vAt 0) (argC (vAt 1) argN))) (argC (op2 dSub (vAt 2) (vAt 3)) argN)))) argN))))))
def aY:List D->Option D:=via 3 4 iR
theorem oz:∀ ds d,aY ds=some d->retOf (iR (beg 4 ds))=some d:=fun _ _ h=>aB h
theorem oo:∀ ds d,aY ds=some d->ds.length=3:=fun _ _ h=>ao h
def stretchesD (b:Bk) (s:WS) (n:Int):List D:=match turnTick b s with
 | none=>[.tup [.int 0,s.d,.int n]]
 | some t=>if n<t then [.tup [.int 0,s.d,.int n]] else [.tup [.int 0,s.d,.int t],.tup [.int t,(behind b s t).d,.int (n - t)]]
theorem iD {b:Bk} {s:WS} (n:Int) (ok:b.Ok) (w:s.Wk b):aY [b.d,s.d,.int n]=some (.lst (stretchesD b s n)):=by
 have e1:=iL w
 unfold stretchesD
 cases h:turnTick b s with
 | none =>
  rw [h] at e1
  exact viaS ((seqN (asgS (callS rfl e1) rfl)).trans (seqR ((ifT (orL rfl)).trans (retS rfl))))
 | some t =>
  have e2:=tw ok w h
  rw [h] at e1
  dsimp only
  by_cases hn:n<t
  ·rw [if_pos hn]
   exact viaS ((seqN (asgS (callS rfl e1) rfl)).trans (seqR ((ifT (orR rfl (cmS rfl rfl (dT hn)))).trans (retS rfl))))
  ·rw [if_neg hn]
   exact viaS ((seqN (asgS (callS rfl e1) rfl)).trans ((seqN (ifF (orR rfl (cmS rfl rfl (dF hn))))).trans (retS (lstS (arS rfl (arS (tupS (arS rfl (arS (callS rfl e2) rfl))) rfl))))))
def n_:R->Option Out :=
  (seqD (asgD (op2 dIx (callD aY (argC (vAt 0) (argC (vAt 1) (argC (vAt 2) argN)))) (op1 dNeg (fun _=>some (.int 1)))) (setAt 3))
  (retD (callD cj (argC (vAt 0) (argC (op2 dIx (vAt 3) (fun _=>some (.int 1))) (argC (op2 dIx (vAt 3) (fun _=>some (.int 2))) argN))))))
def dz:List D->Option D:=via 3 4 n_
theorem sS:∀ ds d,dz ds=some d->retOf (n_ (beg 4 ds))=some d:=fun _ _ h=>aB h
theorem sJ:∀ ds d,dz ds=some d->ds.length=3:=fun _ _ h=>ao h
theorem tz {b:Bk} {s:WS} (n:Int) (ok:b.Ok) (w:s.Wk b):dz [b.d,s.d,.int n]=some (ticked b s n).d:=by
 have e1:=iD n ok w
 unfold stretchesD at e1
 unfold ticked
 have e2:=iB (s:=s) n ok.back0
 cases h:turnTick b s with
 | none =>
  rw [h] at e1
  exact viaS ((seqN (asgS (opS (callS rfl e1) rfl rfl) rfl)).trans (retS (callS rfl e2)))
 | some t =>
  rw [h] at e1
  dsimp only at e1 ⊢
  have e3:=iB (s:=behind b s t) (n - t) ok.back0
  by_cases hn:n<t
  ·rw [if_pos hn] at e1 ⊢
   exact viaS ((seqN (asgS (opS (callS rfl e1) rfl rfl) rfl)).trans (retS (callS rfl e2)))
  ·rw [if_neg hn] at e1 ⊢
   exact viaS ((seqN (asgS (opS (callS rfl e1) rfl rfl) rfl)).trans (retS (callS rfl e3)))
def rV:R->Option Out :=
  (seqD (ifD (cmp2 cEq (op2 dIx (vAt 2) (fun _=>some (.int 0))) (fun _=>some (.str (Str.ofString "down"))))
  (retD (callD dv (argC (vAt 1) (argC (op2 dIx (vAt 2) (fun _=>some (.int 1))) argN))))
  nextD)
  (seqD (ifD (cmp2 cEq (op2 dIx (vAt 2) (fun _=>some (.int 0))) (fun _=>some (.str (Str.ofString "up"))))
  (retD (callD du (argC (vAt 0) (argC (vAt 1) (argC (op2 dIx (vAt 2) (fun _=>some (.int 1))) argN)))))
  nextD)
  (retD (callD dz (argC (vAt 0) (argC (vAt 1) (argC (op2 dIx (vAt 2) (fun _=>some (.int 1))) argN)))))))
def dU:List D->Option D:=via 3 3 rV
theorem uK:∀ ds d,dU ds=some d->retOf (rV (beg 3 ds))=some d:=fun _ _ h=>aB h
theorem uZ:∀ ds d,dU ds=some d->ds.length=3:=fun _ _ h=>ao h
theorem ev_eq1:cEq (.str (Str.ofString "down")) (.str (Str.ofString "down"))=some true:=rfl
theorem ev_eq2:cEq (.str (Str.ofString "up")) (.str (Str.ofString "down"))=some false:=rfl
theorem ev_eq3:cEq (.str (Str.ofString "ticks")) (.str (Str.ofString "down"))=some false:=rfl
theorem ev_eq4:cEq (.str (Str.ofString "up")) (.str (Str.ofString "up"))=some true:=rfl
theorem ev_eq5:cEq (.str (Str.ofString "ticks")) (.str (Str.ofString "up"))=some false:=rfl
theorem sD {b:Bk} {s:WS} (ok:b.Ok) (w:s.Wk b) (e:Ev):dU [b.d,s.d,e.d]=some (gone b s e).d:=by
 cases e with
 | down x=>exact viaS (seqR ((ifT (cmS rfl rfl ev_eq1)).trans (retS (callS rfl (sP s x)))))
 | up x=>exact viaS ((seqN (ifF (cmS rfl rfl ev_eq2))).trans (seqR ((ifT (cmS rfl rfl ev_eq4)).trans (retS (callS rfl (r_ ok w x))))))
 | ticks n=>exact viaS ((seqN (ifF (cmS rfl rfl ev_eq3))).trans ((seqN (ifF (cmS rfl rfl ev_eq5))).trans (retS (callS rfl (tz n ok w)))))
def fK:R->Option Out :=
 (retD (callD fRj (argC (callD bF (argC (vAt 0) argN)) (argC (fun _=>some (.int 2)) (argC (fun _=>some (.str (Str.ofString "0"))) argN)))))
def aK:List D->Option D:=via 1 1 fK
theorem kf:∀ ds d,aK ds=some d->retOf (fK (beg 1 ds))=some d:=fun _ _ h=>aB h
theorem kO:∀ ds d,aK ds=some d->ds.length=1:=fun _ _ h=>ao h
def tx2 (n:Int):Str:=rjS (tx n) 2 48
theorem tx2_len {n:Int} (h0:0<=n) (h1:n<1000000000000000000):(tx2 n).length<=1921:=by
 unfold tx2 rjS
 have:=tx_len h0 h1
 split
 ·exact this
 ·show (Array.replicate _ _++(tx n).cps++Array.replicate _ _).size<=_
  have e:(tx n).cps.size=(tx n).length:=rfl
  simp
  omega
theorem cX {n:Int} (h0:0<=n) (h1:n<1000000000000000000):aK [.int n]=some (.str (tx2 n)):=by
 have hf:fRj [.str (tx n),.int 2,.str (Str.ofString "0")]=some (.str (tx2 n)):=by
  have e:(Str.ofString "0").length=1:=by decide +kernel
  have e2:(Str.ofString "0").cps.getD 0 0=48:=by decide +kernel
  show (if (0:Int)<=2/\(2:Int)<=1000/\(Str.ofString "0").length=1 then some (D.str (rjS (tx n) (2:Int).toNat ((Str.ofString "0").cps.getD 0 0))) else none)=_
  rw [if_pos ⟨by decide,by decide,e⟩,e2];rfl
 exact viaS (retS (callS (arS (callS rfl (g_ h0 h1)) rfl) hf))
def iH:R->Option Out :=
 (retD (op2 dAdd (op2 dAdd (callD aK (argC (vAt 0) argN)) (fun _=>some (.str (Str.ofString ":")))) (callD aK (argC (vAt 1) argN))))
def bB:List D->Option D:=via 2 2 iH
theorem nR:∀ ds d,bB ds=some d->retOf (iH (beg 2 ds))=some d:=fun _ _ h=>aB h
theorem ox:∀ ds d,bB ds=some d->ds.length=2:=fun _ _ h=>ao h
theorem addS {x y:Str} (h:x.length+y.length<=100000):dAdd (.str x) (.str y)=some (.str (x++y)):=by
 have z:100000<=sizeLine:=by decide
 show (if x.length+y.length<=sizeLine then _ else none)=_
 rw [if_pos (by omega)]
theorem app_len (x y:Str):(x++y).length=x.length+y.length:=by
 show (x.cps++y.cps).size=_
 simp;rfl
def colon:Str:=Str.ofString ":"
theorem colon_len:colon.length=1:=by decide +kernel
def hourT (h m:Int):Str:=tx2 h++colon++tx2 m
theorem hourT_len {h m:Int} (a0:0<=h) (a1:h<1000000000000000000) (b0:0<=m) (b1:m<1000000000000000000):(hourT h m).length<=3843:=by
 unfold hourT
 rw [app_len,app_len,colon_len]
 have:=tx2_len a0 a1
 have:=tx2_len b0 b1
 omega
theorem iG {h m:Int} (a0:0<=h) (a1:h<1000000000000000000) (b0:0<=m) (b1:m<1000000000000000000):bB [.int h,.int m]=some (.str (hourT h m)):=by
 have l1:=tx2_len a0 a1
 have l2:=tx2_len b0 b1
 refine viaS (retS (opS (opS (callS rfl (cX a0 a1)) rfl (addS ?_)) (callS rfl (cX b0 b1)) (addS ?_)))
 ·rw [show (Str.ofString ":").length=1 from colon_len];omega
 ·rw [app_len,show (Str.ofString ":").length=1 from colon_len];omega
def ge:R->Option Out :=
  (seqD (asgD (op2 dIx (vAt 0) (fun _=>some bo)) (setAt 1))
  (retD (op2 dAdd (callD bB (argC (op2 dIx (vAt 1) (fun _=>some (.int 0))) (argC (op2 dIx (vAt 1) (fun _=>some (.int 1))) argN))) (ifE (truT (op2 dIx (vAt 1) (fun _=>some (.int 2)))) (fun _=>some (.str (Str.ofString " on"))) (fun _=>some (.str (Str.ofString "")))))))
def bM:List D->Option D:=via 1 2 ge
theorem mT:∀ ds d,bM ds=some d->retOf (ge (beg 2 ds))=some d:=fun _ _ h=>aB h
theorem lK:∀ ds d,bM ds=some d->ds.length=1:=fun _ _ h=>ao h
def onS:Str:=Str.ofString " on"
theorem onS_len:onS.length=3:=by decide +kernel
theorem nilS_len:(Str.ofString "").length=0:=by decide +kernel
def alarmT (s:WS):Str:=hourT s.ah s.am++(if s.aon then onS else Str.ofString "")
theorem mi {b:Bk} {s:WS} (w:s.Wk b):bM [s.d]=some (.str (alarmT s)):=by
 have a0:=w.ah0
 have a1:s.ah<1000000000000000000:=by have:=w.ah1;omega
 have b0:=w.am0
 have b1:s.am<1000000000000000000:=by have:=w.am1;omega
 have l:=hourT_len a0 a1 b0 b1
 have hon:∀ (o:Bool) (ρ:R),(truT (op2 dIx (vAt 1) (fun _=>some (.int 2)))) ρ=some o->(ifE (truT (op2 dIx (vAt 1) (fun _=>some (.int 2)))) (fun _=>some (.str (Str.ofString " on"))) (fun _=>some (.str (Str.ofString "")))) ρ=some (.str (if o then onS else Str.ofString "")):=fun o ρ h=>by
  cases o
  ·exact ieF h rfl
  ·exact ieT h rfl
 refine viaS ((seqN (asgS (opS rfl rfl (w2 s)) rfl)).trans (retS (opS (callS (arS (opS rfl rfl (wa0 s)) (arS (opS rfl rfl (wa1 s)) rfl)) (iG a0 a1 b0 b1)) (hon s.aon _ (trS (opS rfl rfl (wa2 s)))) (addS ?_))))
 cases s.aon
 ·show (hourT s.ah s.am).length+(Str.ofString "").length<=_
  rw [nilS_len];omega
 ·show (hourT s.ah s.am).length+onS.length<=_
  rw [onS_len];omega
def fM:R->Option Out :=
 (retD (op2 dAdd (op2 dAdd (callD bF (argC (op2 dDiv (vAt 0) (fun _=>some (.int 60))) argN)) (fun _=>some (.str (Str.ofString ":")))) (callD aK (argC (op2 dMod (vAt 0) (fun _=>some (.int 60))) argN))))
def bc:List D->Option D:=via 1 1 fM
theorem kU:∀ ds d,bc ds=some d->retOf (fM (beg 1 ds))=some d:=fun _ _ h=>aB h
theorem kj:∀ ds d,bc ds=some d->ds.length=1:=fun _ _ h=>ao h
def minT (s:Int):Str:=tx (s / 60)++colon++tx2 (s%60)
theorem fL {s:Int} (a0:0<=s) (a1:s<1000000000000000000):bc [.int s]=some (.str (minT s))/\(minT s).length<=3843:=by
 have c0:0<=s / 60:=by omega
 have c1:s / 60<1000000000000000000:=by omega
 have d0:0<=s%60:=by omega
 have d1:s%60<1000000000000000000:=by omega
 have l1:=tx_len c0 c1
 have l2:=tx2_len d0 d1
 constructor
 ·refine viaS (retS (opS (opS (callS (arS (opS rfl rfl rfl) rfl) (g_ c0 c1)) rfl (addS ?_)) (callS (arS (opS rfl rfl (modS (by decide))) rfl) (cX d0 d1)) (addS ?_)))
  ·rw [show (Str.ofString ":").length=1 from colon_len];omega
  ·rw [app_len,show (Str.ofString ":").length=1 from colon_len];omega
 ·unfold minT
  rw [app_len,app_len,colon_len];omega
def gi:R->Option Out :=
 (retD (callD bc (argC (op2 dIx (op2 dIx (vAt 0) (fun _=>some aV)) (fun _=>some (.int 2))) argN)))
def bL:List D->Option D:=via 1 1 gi
theorem lu:∀ ds d,bL ds=some d->retOf (gi (beg 1 ds))=some d:=fun _ _ h=>aB h
theorem mz:∀ ds d,bL ds=some d->ds.length=1:=fun _ _ h=>ao h
theorem lA {b:Bk} {s:WS} (w:s.Wk b):bL [s.d]=some (.str (minT s.cl)):=by
 have a0:=w.cl0
 have a1:s.cl<1000000000000000000:=by have:=w.cl1;omega
 exact viaS (retS (callS (arS (opS (opS rfl rfl (w4 s)) rfl (wc2 s)) rfl) (fL a0 a1).1))
def iO:R->Option Out :=
  (seqD (asgD (op2 dIx (vAt 0) (fun _=>some cy)) (setAt 1))
  (seqD (asgD (callD fLen (argC (op2 dIx (vAt 1) (fun _=>some (.int 2))) argN)) (setAt 2))
  (retD (op2 dAdd (callD bc (argC (op2 dIx (vAt 1) (fun _=>some (.int 0))) argN)) (ifE (cmp2 cGt (vAt 2) (fun _=>some (.int 0))) (op2 dAdd (fun _=>some (.str (Str.ofString " +"))) (callD fStr (argC (vAt 2) argN))) (fun _=>some (.str (Str.ofString ""))))))))
def bV:List D->Option D:=via 1 3 iO
theorem oH:∀ ds d,bV ds=some d->retOf (iO (beg 3 ds))=some d:=fun _ _ h=>aB h
theorem nu:∀ ds d,bV ds=some d->ds.length=1:=fun _ _ h=>ao h
def plusS:Str:=Str.ofString " +"
theorem plusS_len:plusS.length=2:=by decide +kernel
def moreT (n:Nat):Str:=if 0<n then plusS++tx n else Str.ofString ""
def lapsT (s:WS):Str:=minT s.lm++moreT s.lk.length
theorem ou {b:Bk} {s:WS} (w:s.Wk b) (hl:s.lm<1000000000000000000):bV [s.d]=some (.str (lapsT s)):=by
 have a0:=w.lm0
 obtain ⟨e,l⟩:=fL a0 hl
 have hk:=w.lk
 have k0:(0:Int)<=(s.lk.length:Int):=by omega
 have k1:(s.lk.length:Int)<1000000000000000000:=by omega
 have l2:=tx_len k0 k1
 have hlen:callD fLen (argC (op2 dIx (vAt 1) (fun _=>some (.int 2))) argN) [some s.d,some s.lapsD,none]=some (.int (s.lk.length:Int)):=callS (arS (opS rfl rfl (wl2 s)) rfl) (by simp)
 have hm:(ifE (cmp2 cGt (vAt 2) (fun _=>some (.int 0))) (op2 dAdd (fun _=>some (.str (Str.ofString " +"))) (callD fStr (argC (vAt 2) argN))) (fun _=>some (.str (Str.ofString "")))) [some s.d,some s.lapsD,some (.int (s.lk.length:Int))]=some (.str (moreT s.lk.length)):=by
  unfold moreT
  by_cases h:0<s.lk.length
  ·rw [if_pos h]
   exact ieT (cmS rfl rfl (dT (by omega))) (opS rfl (callS rfl (f_str k0 k1)) (addS (by rw [show (Str.ofString " +").length=2 from plusS_len];omega)))
  ·rw [if_neg h]
   exact ieF (cmS rfl rfl (dF (by omega))) rfl
 refine viaS ((seqN (asgS (opS rfl rfl (w3 s)) rfl)).trans ((seqN (asgS hlen rfl)).trans (retS (opS (callS (arS (opS rfl rfl (wl0 s)) rfl) e) hm (addS ?_)))))
 unfold moreT
 split
 ·rw [app_len,plusS_len];omega
 ·rw [nilS_len];omega
def iI:R->Option Out :=
  (seqD (asgD (op2 dIx (vAt 0) (fun _=>some bj)) (setAt 1))
  (retD (op2 dAdd (op2 dAdd (callD bB (argC (op2 dDiv (vAt 1) (fun _=>some (.int 3600))) (argC (op2 dMod (op2 dDiv (vAt 1) (fun _=>some (.int 60))) (fun _=>some (.int 60))) argN))) (fun _=>some (.str (Str.ofString ":")))) (callD aK (argC (op2 dMod (vAt 1) (fun _=>some (.int 60))) argN)))))
def bX:List D->Option D:=via 1 2 iI
theorem nA:∀ ds d,bX ds=some d->retOf (iI (beg 2 ds))=some d:=fun _ _ h=>aB h
theorem oh:∀ ds d,bX ds=some d->ds.length=1:=fun _ _ h=>ao h
def timeT (s:WS):Str:=hourT (s.clock / 3600) (s.clock / 60%60)++colon++tx2 (s.clock%60)
theorem nL {b:Bk} {s:WS} (w:s.Wk b):bX [s.d]=some (.str (timeT s)):=by
 have c0:=w.clock0
 have c1:=w.clock1
 have l1:=hourT_len (h:=s.clock / 3600) (m:=s.clock / 60%60) (by omega) (by omega) (by omega) (by omega)
 have l2:=tx2_len (n:=s.clock%60) (by omega) (by omega)
 refine viaS ((seqN (asgS (opS rfl rfl (w1 s)) rfl)).trans (retS (opS (opS (callS (arS (opS rfl rfl rfl) (arS (opS (opS rfl rfl rfl) rfl (modS (by decide))) rfl)) (iG (h:=s.clock / 3600) (m:=s.clock / 60%60) (by omega) (by omega) (by omega) (by omega))) rfl (addS ?_)) (callS (arS (opS rfl rfl (modS (by decide))) rfl) (cX (n:=s.clock%60) (by omega) (by omega))) (addS ?_))))
 ·rw [show (Str.ofString ":").length=1 from colon_len];omega
 ·rw [app_len,show (Str.ofString ":").length=1 from colon_len];omega
def tab_FACE_TEXTS:List (Str×(List D->Option D)):=[(Str.ofString "time",bX),(Str.ofString "alarm",bM),(Str.ofString "laps",bV),(Str.ofString "count",bL)]
def qz:R->Option Out :=
  (seqD (asgD (op2 dIx (op2 dIx (op2 dIx (vAt 0) (fun _=>some (.int 2))) (op2 dIx (vAt 1) (fun _=>some cq))) (fun _=>some (.int 0))) (setAt 2))
  (fnD 3 tab_FACE_TEXTS (vAt 2) (fun G_=>(retD (tupD (argC (vAt 2) (argC (callD G_ (argC (vAt 1) argN)) (argC (asV (cmp2 cGt (op2 dIx (vAt 1) (fun _=>some eh)) (fun _=>some (.int 0)))) argN))))))))
def cN:List D->Option D:=via 2 4 qz
theorem ue:∀ ds d,cN ds=some d->retOf (qz (beg 4 ds))=some d:=fun _ _ h=>aB h
theorem tH:∀ ds d,cN ds=some d->ds.length=2:=fun _ _ h=>ao h
def faceT (f:Face) (s:WS):Str:=match f with
 | .time=>timeT s
 | .alarm=>alarmT s
 | .laps=>lapsT s
 | .count=>minT s.cl
theorem face_of_text {b:Bk} {s:WS} (w:s.Wk b) (hl:s.lm<1000000000000000000) (f:Face):∃ F,tab_FACE_TEXTS.lookup f.x=some F/\F [s.d]=some (.str (faceT f s)):=by
 cases f
 ·exact ⟨_,rfl,nL w⟩
 ·exact ⟨_,rfl,mi w⟩
 ·exact ⟨_,rfl,ou w hl⟩
 ·exact ⟨_,rfl,lA w⟩
theorem qh {b:Bk} {s:WS} (w:s.Wk b) (hl:s.lm<1000000000000000000):cN [b.d,s.d]=some (.tup [.str (b.modes.getD s.mode default).face.x,.str (faceT (b.modes.getD s.mode default).face s),.bl (decide (0<s.ring))]):=by
 have hm:=lV b w.mode
 generalize b.modes.getD s.mode default=md at *
 obtain ⟨F,h1,h2⟩:=face_of_text w hl md.face
 have q1:asgD (op2 dIx (op2 dIx (op2 dIx (vAt 0) (fun _=>some (.int 2))) (op2 dIx (vAt 1) (fun _=>some cq))) (fun _=>some (.int 0))) (setAt 2) [some b.d,some s.d,none,none]=some (.nx [some b.d,some s.d,some (.str md.face.x),none]) :=
  asgS (opS (opS (opS rfl rfl (b2 b)) (opS rfl rfl (w0 s)) hm) rfl (m0 md)) rfl
 refine viaS ((seqN q1).trans ?_)
 simp [-dIx,fnD,h1,h2,eh,w5]
def oq_seen_o1_1:R->List D->Option (Out×List D) :=
 (oPure (asgD (callD dU (argC (vAt 0) (argC (vAt 2) (argC (vAt 3) argN)))) (setAt 2)))
def oq_seen_o1_2:R->List D->Option (Out×List D) :=
 (oApp 4 (callD cN (argC (vAt 0) (argC (vAt 2) argN))))
def ot_seen_o1:R->List D->Option (Out×List D):=(oSeq oq_seen_o1_1 oq_seen_o1_2)
def si:R->Option Out :=
 (asgD (callD ce (argC (vAt 0) argN)) (setAt 2))
def o_seen_1:R->List D->Option (Out×List D) :=
 (oLoop (inSeq (vAt 1)) (setAt 3) ot_seen_o1)
def og:R->Option Out :=
 (retD (callD fTuple (argC (vAt 4) argN)))
def rS:R->Option Out :=
 (seqD si (ownD 4 argN (obSeq o_seen_1 (obRel og))))
def fO:List D->Option D:=via 2 5 rS
theorem uC:∀ ds d,fO ds=some d->retOf (rS (beg 5 ds))=some d:=fun _ _ h=>aB h
theorem uH:∀ ds d,fO ds=some d->ds.length=2:=fun _ _ h=>ao h
def sightD (b:Bk) (s:WS):D:=.tup [.str (b.modes.getD s.mode default).face.x,.str (faceT (b.modes.getD s.mode default).face s),.bl (decide (0<s.ring))]
def sights (b:Bk):WS->List Ev->List D
 | _,[]=>[]
 | s,e::es=>sightD b (gone b s e)::sights b (gone b s e) es
def evT:Ev->Int
 | .ticks n=>n
 | _=>0
def sumT:List Ev->Int
 | []=>0
 | e::es=>evT e+sumT es
theorem deed_lm (d:Deed) {s:WS} (h:0<=s.lm):(deed d s).lm<=s.lm:=by
 cases d<;>simp [deed,setTo]<;>(repeat' split)<;>first | exact Int.le_refl _ | exact h
theorem laps_lm (s:WS) {n:Int} (h:0<=n):lapsOn s n<=s.lm+n:=by unfold lapsOn;split<;>omega
theorem turned_lm {b:Bk} {s:WS} (h:0<=s.lm):(turned b s).lm<=s.lm:=by
 unfold turned
 split
 ·exact Int.le_refl _
 ·exact deed_lm _ h
theorem gone_lm {b:Bk} {s:WS} (w:s.Wk b) (e:Ev) (he:e.Ok):(gone b s e).lm<=s.lm+evT e:=by
 have h:=w.lm0
 cases e with
 | down x=>show (pushed s x).lm<=s.lm+0;unfold pushed;split<;>simp
 | up x =>
  show (letGo b s x).lm<=s.lm+0
  rw [Int.add_zero]
  unfold letGo
  split
  ·split
   ·split
    ·exact deed_lm _ h
    ·exact Int.le_refl _
   ·exact Int.le_refl _
  ·exact Int.le_refl _
 | ticks n =>
  have hn:1<=n:=he
  show (ticked b s n).lm<=s.lm+n
  unfold ticked
  split
  ·exact laps_lm s (by omega)
  ·rename_i t ht
   have tp:=turn_pos ht
   split
   ·exact laps_lm s (by omega)
   ·have a1:=laps_lm (behind b s t) (n:=n - t) (by omega)
    have a2:(behind b s t).lm<=(counted b s t).lm:=turned_lm (w.cnt (n:=t) (by omega)).lm0
    have a3:(counted b s t).lm<=s.lm+t:=laps_lm s (by omega)
    show lapsOn (behind b s t) (n - t)<=_
    omega
theorem forO_s {st:D->R->Option R} {p:R->List D->Option (Out×List D)} {d:D} {es ds ds2:List D} {ρ ρ1 ρ2:R} (h1:st d ρ=some ρ1) (h2:p ρ1 ds=some (.nx ρ2,ds2)):forO st p (d::es) ρ ds=forO st p es ρ2 ds2:=by simp [forO,h1,h2]
theorem seen_turn {b:Bk} {s:WS} (ok:b.Ok) (w:s.Wk b) {o1:Option D} (e:Ev) (w2:(gone b s e).Wk b) (hl:(gone b s e).lm<1000000000000000000) (ds:List D) (hd:ds.length<=1000) :
  ot_seen_o1 [some b.d,o1,some s.d,some e.d] ds=some (.nx [some b.d,o1,some (gone b s e).d,some e.d],ds++[sightD b (gone b s e)]):=by
 have z:1001<=sizeLine:=by decide
 have q1:oq_seen_o1_1 [some b.d,o1,some s.d,some e.d] ds=some (.nx [some b.d,o1,some (gone b s e).d,some e.d],ds):=by
  show (asgD _ _ _).map _=_
  rw [asgS (callS rfl (sD ok w e)) rfl];rfl
 have q2:oq_seen_o1_2 [some b.d,o1,some (gone b s e).d,some e.d] ds=some (.nx [some b.d,o1,some (gone b s e).d,some e.d],ds++[sightD b (gone b s e)]):=by
  show (callD cN _ _).bind _=_
  rw [callS rfl (qh w2 hl),Option.bind_some]
  exact if_pos ⟨rfl,by omega⟩
 show oSeq _ _ _ ds=_
 unfold oSeq
 rw [q1,Option.bind_some]
 exact q2
theorem sumT_nn:∀ es:List Ev,(∀ e∈es,e.Ok)->0<=sumT es
 | [],_=>Int.le_refl _
 | e::es,h=>by
  have ih:=sumT_nn es fun x hx=>h x (.tail _ hx)
  have he:=h e (.head _)
  have:0<=evT e:=by
   cases e with
   | ticks n=>have:1<=n:=he;show 0<=n;omega
   | _=>exact Int.le_refl _
  show 0<=evT e+sumT es
  omega
theorem seen_loop {b:Bk} (ok:b.Ok) (o1:Option D):∀ (es:List Ev) (s:WS) (o:Option D) (ds:List D),s.Ok b->(∀ e∈es,e.Ok)->s.lm+sumT es<1000000000000000000->ds.length+es.length<=1000 ->
  ∃ s' o',forO (setAt 3) ot_seen_o1 (es.map Ev.d) [some b.d,o1,some s.d,o] ds=some (.nx [some b.d,o1,s',o'],ds++sights b s es)
 | [],s,o,ds,_,_,_,_=>⟨some s.d,o,by show some (Out.nx _,ds)=some (Out.nx _,ds++[]);rw [List.append_nil]⟩
 | e::es,s,o,ds,w,h,hm,hl=>by
  have he:=h e (.head _)
  have w2:=gone_ok ok w e he
  have hg:=gone_lm w.toWk e he
  have hm':s.lm+(evT e+sumT es)<1000000000000000000:=hm
  have hr:∀ x∈es,x.Ok:=fun x hx=>h x (.tail _ hx)
  have hs:=sumT_nn es hr
  rw [List.length_cons] at hl
  obtain ⟨s',o',ih⟩:=seen_loop ok o1 es (gone b s e) (some e.d) (ds++[sightD b (gone b s e)]) w2 hr (by omega) (by simp;omega)
  refine ⟨s',o',?_⟩
  rw [List.map_cons,forO_s rfl (seen_turn ok w.toWk e w2.toWk (by omega) ds (by omega)),ih,List.append_assoc];rfl
theorem uz {b:Bk} (ok:b.Ok) (es:List Ev) (h:∀ e∈es,e.Ok) (hm:sumT es<1000000000000000000) (hl:es.length<=100):fO [b.d,.tup (es.map Ev.d)]=some (.tup (sights b begun0 es)):=by
 obtain ⟨s',o',e⟩:=seen_loop ok (some (.tup (es.map Ev.d))) es begun0 none [] (begun_ok ok) h (by show 0+sumT es<_;omega) (by simp;omega)
 refine viaS ((seqN (asgS (callS rfl (mO _)) rfl)).trans ?_)
 show obSeq o_seen_1 (obRel og) [some b.d,some (.tup (es.map Ev.d)),some begun0.d,none] []=_
 have q:o_seen_1 [some b.d,some (.tup (es.map Ev.d)),some begun0.d,none] []=some (.nx [some b.d,some (.tup (es.map Ev.d)),s',o'],sights b begun0 es):=e
 rw [obS q]
 rfl
theorem dh {x y:Str} (h1:layD (.str x)=true) (h2:layD (.str y)=true):layD (.str (x++y))=true:=by
 rw [layD] at *
 show (x.cps++y.cps).all _=true
 rw [Array.all_append,h1,h2];rfl
theorem ofString_lay (s:String):(Str.ofString s).cps.all (·<0x110000)=true:=by
 rw [PySem.Str.ofString_eq_toList]
 simp only [List.all_toArray,List.all_eq_true,List.mem_map]
 rintro x ⟨c,_,rfl⟩
 apply decide_eq_true
 show c.val.toNat<0x110000
 have v:c.val.toNat<0xd800\/(0xdfff<c.val.toNat/\c.val.toNat<0x110000):=c.valid
 omega
theorem pV (n:Int):layD (.str (tx n))=true:=by
 rw [layD]
 exact ofString_lay _
theorem jl (n:Int):layD (.str (tx2 n))=true:=by
 have h:=pV n
 rw [layD] at *
 unfold tx2 rjS
 split
 ·exact h
 ·show (Array.replicate _ 48++(tx n).cps++Array.replicate _ 48).all _=true
  have r:∀ k,(Array.replicate k 48).all (fun x=>decide (x<0x110000))=true:=by
   intro k
   rw [Array.all_eq_true]
   intro i hi
   simp
  rw [Array.all_append,Array.all_append,h,r,r];rfl
theorem h_:layD (.str colon)=true:=by rw [layD];decide +kernel
theorem qA:layD (.str (Str.ofString ""))=true:=by rw [layD];decide +kernel
theorem uB:layD (.str onS)=true:=by rw [layD];decide +kernel
theorem rP:layD (.str plusS)=true:=by rw [layD];decide +kernel
theorem nO (h m:Int):layD (.str (hourT h m))=true:=dh (dh (jl _) h_) (jl _)
theorem qk (s:Int):layD (.str (minT s))=true:=dh (dh (pV _) h_) (jl _)
theorem rk (f:Face) (s:WS):layD (.str (faceT f s))=true:=by
 cases f with
 | time=>exact dh (dh (nO _ _) h_) (jl _)
 | alarm=>exact dh (nO _ _) (by split;exact uB;exact qA)
 | laps=>exact dh (qk _) (by unfold moreT;split;exact dh rP (pV _);exact qA)
 | count=>exact qk _
theorem sO (f:Face):layD (.str f.x)=true:=by rw [layD];cases f<;>decide +kernel
theorem iq (b:Bk) (s:WS):layD (sightD b s)=true:=by
 unfold sightD
 rw [layD,layDs,layDs,layDs,layDs,sO,rk];rfl
def gf (C:Nat):R->Option Out :=
 (retD (op1 (fldD C (Str.ofString "rung")) (vAt 0)))
def bJ (C:Nat):List D->Option D:=via 1 1 (gf C)
theorem lJ (C:Nat):∀ ds d,bJ C ds=some d->retOf (gf C (beg 1 ds))=some d:=fun _ _ h=>aB h
theorem lS (C:Nat):∀ ds d,bJ C ds=some d->ds.length=1:=fun _ _ h=>ao h
def iK (C:Nat):R->Option Out :=
 (retD (callD fTuple (argC (thawD 0 C (Str.ofString "past") (lcD 1 (inFro (op1 (fldD C (Str.ofString "past")) (vAt 0))) (setAt 0) yesT (op2 dIx (vAt 0) (fun _=>some (.int 0))))) argN)))
def bi (C:Nat):List D->Option D:=via 1 1 (iK C)
theorem nS (C:Nat):∀ ds d,bi C ds=some d->retOf (iK C (beg 1 ds))=some d:=fun _ _ h=>aB h
theorem nK (C:Nat):∀ ds d,bi C ds=some d->ds.length=1:=fun _ _ h=>ao h
def fH (C:Nat):R->Option Out :=
 (retD (callD cN (argC (op1 (fldD C (Str.ofString "book")) (vAt 0)) (argC (op1 (fldD C (Str.ofString "present")) (vAt 0)) argN))))
def bb (C:Nat):List D->Option D:=via 1 1 (fH C)
theorem kK (C:Nat):∀ ds d,bb C ds=some d->retOf (fH C (beg 1 ds))=some d:=fun _ _ h=>aB h
theorem kW (C:Nat):∀ ds d,bb C ds=some d->ds.length=1:=fun _ _ h=>ao h
def fJ (C:Nat):R->Option Out :=
 (retD (op1 (fldD C (Str.ofString "present")) (vAt 0)))
def be (C:Nat):List D->Option D:=via 1 1 (fJ C)
theorem kL (C:Nat):∀ ds d,be C ds=some d->retOf (fJ C (beg 1 ds))=some d:=fun _ _ h=>aB h
theorem km (C:Nat):∀ ds d,be C ds=some d->ds.length=1:=fun _ _ h=>ao h
def gR (C:Nat):R->Option Out :=
 (retD (tupD (argC (metD C (Str.ofString "state") (be C) (vAt 0) argN) (argC (metD C (Str.ofString "shown") (bb C) (vAt 0) argN) (argC (metD C (Str.ofString "rang") (bJ C) (vAt 0) argN) (argC (metD C (Str.ofString "row") (bi C) (vAt 0) argN) argN))))))
def aI (C:Nat):List D->Option D:=via 1 1 (gR C)
theorem mV (C:Nat):∀ ds d,aI C ds=some d->retOf (gR C (beg 1 ds))=some d:=fun _ _ h=>aB h
theorem lx (C:Nat):∀ ds d,aI C ds=some d->ds.length=1:=fun _ _ h=>ao h
def gq:R->Option Out :=
  (seqD (asgD (callD aR (argC (vAt 0) argN)) (setAt 2))
  (seqD (asgD (callD aU (argC (vAt 0) argN)) (setAt 3))
  (seqD (asgD (ifE (orT (cmp2 cIsN (vAt 2) (fun _=>some .non)) (cmp2 cGt (vAt 2) (vAt 1))) (fun _=>some (.int 0)) (op2 dAdd (op2 dDiv (op2 dSub (vAt 1) (vAt 2)) (fun _=>some eQ)) (fun _=>some (.int 1)))) (setAt 4))
  (seqD (asgD (ifE (orT (cmp2 cIsN (vAt 3) (fun _=>some .non)) (orT (cmp2 cGt (vAt 3) (vAt 1)) (cmp2 cEqD (vAt 3) (vAt 2)))) (fun _=>some (.int 0)) (fun _=>some (.int 1))) (setAt 5))
  (retD (op2 dAdd (vAt 4) (vAt 5)))))))
def bf:List D->Option D:=via 2 6 gq
theorem mv:∀ ds d,bf ds=some d->retOf (gq (beg 6 ds))=some d:=fun _ _ h=>aB h
theorem mG:∀ ds d,bf ds=some d->ds.length=2:=fun _ _ h=>ao h
def rcA (n:Int) (o:Option Int):Int:=match o with
 | some a=>if n<a then 0 else (n - a) / 86400+1
 | none=>0
def rcC (n:Int) (o p:Option Int):Int:=match p with
 | some c=>if n<c then 0 else if o=some c then 0 else 1
 | none=>0
theorem orT_l {c d:R->Option Bool} {ρ:R} (h1:c ρ=some true):orT c d ρ=some true:=by simp [h1]
theorem orT_r {c d:R->Option Bool} {ρ:R} {b:Bool} (h1:c ρ=some false) (h2:d ρ=some b):orT c d ρ=some b:=by simp [h1,h2]
theorem sH (c:Int) (o:Option Int):cEqD (.int c) (optI o)=some (decide (o=some c)):=by
 cases o with
 | none=>rfl
 | some a =>
  show some (c==a)=_
  by_cases h:a=c
  ·subst h;simp
  ·have h1:¬ c=a:=fun z=>h z.symm
   have h2:¬ (some a=some c):=fun z=>h (Option.some.inj z)
   rw [decide_eq_false h2,beq_eq_false_iff_ne.mpr h1]
theorem ofA (n:Int) (a:Option Int) (r:R) (x:Option D):(ifE (orT (cmp2 cIsN (vAt 2) (fun _=>some .non)) (cmp2 cGt (vAt 2) (vAt 1))) (fun _=>some (.int 0)) (op2 dAdd (op2 dDiv (op2 dSub (vAt 1) (vAt 2)) (fun _=>some eQ)) (fun _=>some (.int 1)))) (x::some (.int n)::some (optI a)::r)=some (.int (rcA n a)):=by
 cases a with
 | none=>exact ieT (orT_l (cmS rfl rfl rfl)) rfl
 | some a =>
  show _=some (D.int (if n<a then 0 else (n - a) / 86400+1))
  by_cases h:n<a
  ·rw [if_pos h]
   exact ieT (orT_r (cmS rfl rfl rfl) (cmS rfl rfl (dT h))) rfl
  ·rw [if_neg h]
   exact ieF (orF (cmS rfl rfl rfl) (cmS rfl rfl (dF h))) (opS (opS (opS rfl rfl rfl) rfl rfl) rfl rfl)
theorem ofC (n:Int) (a c:Option Int) (r:R) (x:Option D):(ifE (orT (cmp2 cIsN (vAt 3) (fun _=>some .non)) (orT (cmp2 cGt (vAt 3) (vAt 1)) (cmp2 cEqD (vAt 3) (vAt 2)))) (fun _=>some (.int 0)) (fun _=>some (.int 1))) (x::some (.int n)::some (optI a)::some (optI c)::r)=some (.int (rcC n a c)):=by
 cases c with
 | none=>exact ieT (orT_l (cmS rfl rfl rfl)) rfl
 | some c =>
  show _=some (D.int (if n<c then 0 else if a=some c then 0 else 1))
  by_cases h:n<c
  ·rw [if_pos h]
   exact ieT (orT_r (cmS rfl rfl rfl) (orT_l (cmS rfl rfl (dT h)))) rfl
  ·rw [if_neg h]
   by_cases h2:a=some c
   ·rw [if_pos h2]
    exact ieT (orT_r (cmS rfl rfl rfl) (orT_r (cmS rfl rfl (dF h)) (cmS rfl rfl ((sH c a).trans (by rw [decide_eq_true h2]))))) rfl
   ·rw [if_neg h2]
    exact ieF (orF (cmS rfl rfl rfl) (orF (cmS rfl rfl (dF h)) (cmS rfl rfl ((sH c a).trans (by rw [decide_eq_false h2]))))) rfl
theorem kD (s:WS) (n:Int):bf [s.d,.int n]=some (.int (rcA n (alarmTick s)+rcC n (alarmTick s) (countTick s))) :=
 viaS ((seqN (asgS (callS rfl (gT s)) rfl)).trans ((seqN (asgS (callS rfl (gm s)) rfl)).trans ((seqN (asgS (ofA n _ _ _) rfl)).trans ((seqN (asgS (ofC n _ _ _ _) rfl)).trans (retS (opS rfl rfl rfl))))))
def rcS (s:WS) (n:Int):Int:=rcA n (alarmTick s)+rcC n (alarmTick s) (countTick s)
theorem rcS_in {b:Bk} {s:WS} {n:Int} (w:s.Wk b) (h0:0<=n) (hn:n<259200):0<=rcS s n/\rcS s n<=50:=by
 have ha:∀ a,alarmTick s=some a->1<=a/\a<=86400:=fun a h=>by
  unfold alarmTick at h
  split at h
  ·cases h;omega
  ·cases h
 have q1:0<=rcA n (alarmTick s)/\rcA n (alarmTick s)<=10:=by
  cases haa:alarmTick s with
  | none=>exact ⟨Int.le_refl _,by show (0:Int)<=10;decide⟩
  | some a =>
   have ⟨h1,h2⟩:=ha a haa
   show 0<=(if n<a then (0:Int) else (n - a) / 86400+1)/\(if n<a then (0:Int) else (n - a) / 86400+1)<=10
   split<;>omega
 have q2:0<=rcC n (alarmTick s) (countTick s)/\rcC n (alarmTick s) (countTick s)<=1:=by
  cases countTick s with
  | none=>exact ⟨Int.le_refl _,by show (0:Int)<=1;decide⟩
  | some c =>
   show 0<=(if n<c then (0:Int) else if alarmTick s=some c then 0 else 1)/\(if n<c then (0:Int) else if alarmTick s=some c then 0 else 1)<=1
   split
   ·omega
   ·split<;>omega
 unfold rcS
 omega
def dZ:R->Option Out :=
 (retD (callD fSum (argC (lcD 1 (inSeq (callD aY (argC (vAt 0) (argC (vAt 1) (argC (vAt 2) argN))))) (setAt 0) yesT (callD bf (argC (op2 dIx (vAt 0) (fun _=>some (.int 1))) (argC (op2 dIx (vAt 0) (fun _=>some (.int 2))) argN)))) argN)))
def ba:List D->Option D:=via 3 3 dZ
theorem hW:∀ ds d,ba ds=some d->retOf (dZ (beg 3 ds))=some d:=fun _ _ h=>aB h
theorem ik:∀ ds d,ba ds=some d->ds.length=3:=fun _ _ h=>ao h
theorem fSum1 {i:Int} (h0:0<=i) (h1:i<=100):fSum [.lst [.int i]]=some (.int i):=by
 show (if 1<=1000/\[i].all _=true then some (D.int [i].sum) else none)=_
 rw [if_pos ⟨by decide,by simp;omega⟩]
 simp
theorem fSum2 {i j:Int} (h0:0<=i) (h1:i<=100) (h2:0<=j) (h3:j<=100):fSum [.lst [.int i,.int j]]=some (.int (i+j)):=by
 show (if 2<=1000/\[i,j].all _=true then some (D.int [i,j].sum) else none)=_
 rw [if_pos ⟨by decide,by simp;omega⟩]
 simp
theorem compC {st:D->R->Option R} {e:R->Option D} {ρ ρ1:R} {d x:D} {ds xs:List D} (h1:st d ρ=some ρ1) (h2:e ρ1=some x) (h3:compD st yesT e ds ρ=some xs):compD st yesT e (d::ds) ρ=some (x::xs):=by simp [compD,h1,h2,h3]
def hmr (b:Bk) (s:WS) (n:Int):Int:=match turnTick b s with
 | none=>rcS s n
 | some t=>if n<t then rcS s n else rcS s t+rcS (behind b s t) (n - t)
theorem ve {b:Bk} {s:WS} {n:Int} (ok:b.Ok) (w:s.Wk b) (h0:0<=n) (hn:n<259200):ba [b.d,s.d,.int n]=some (.int (hmr b s n)):=by
 have e1:=iD n ok w
 have z:2<=sizeLine:=by decide
 have q:inSeq (callD aY (argC (vAt 0) (argC (vAt 1) (argC (vAt 2) argN)))) [some b.d,some s.d,some (.int n)]=some (stretchesD b s n):=by
  show (callD aY _ _).bind _=_
  rw [callS rfl e1];rfl
 have one:∀ (k:Int) (s':WS) (m:Int),callD bf (argC (op2 dIx (vAt 0) (fun _=>some (.int 1))) (argC (op2 dIx (vAt 0) (fun _=>some (.int 2))) argN)) [some (.tup [.int k,s'.d,.int m]),some b.d,some s.d,some (.int n)]=some (.int (rcS s' m)):=fun k s' m =>
  callS (arS (opS rfl rfl rfl) (arS (opS rfl rfl rfl) rfl)) (kD s' m)
 have lc:∀ (l:List D),(stretchesD b s n).length<=2->compD (setAt 0) yesT (callD bf (argC (op2 dIx (vAt 0) (fun _=>some (.int 1))) (argC (op2 dIx (vAt 0) (fun _=>some (.int 2))) argN))) (stretchesD b s n) [none,some b.d,some s.d,some (.int n)]=some l ->
   lcD 1 (inSeq (callD aY (argC (vAt 0) (argC (vAt 1) (argC (vAt 2) argN))))) (setAt 0) yesT (callD bf (argC (op2 dIx (vAt 0) (fun _=>some (.int 1))) (argC (op2 dIx (vAt 0) (fun _=>some (.int 2))) argN))) [some b.d,some s.d,some (.int n)]=some (.lst l):=fun l hl hc=>by
  unfold lcD
  rw [q,Option.bind_some,if_pos (by omega)]
  exact congrArg (Option.map D.lst) hc
 have bs:=rcS_in w h0 hn
 unfold stretchesD at lc
 unfold hmr
 cases ht:turnTick b s with
 | none =>
  rw [ht] at lc
  exact viaS (retS (callS (arS (lc _ (by show 1<=2;decide) (compC rfl (one _ _ _) rfl)) rfl) (fSum1 bs.1 (by omega))))
 | some t =>
  rw [ht] at lc
  dsimp only at lc ⊢
  have hp:=turn_pos ht
  by_cases h:n<t
  ·rw [if_pos h] at lc ⊢
   exact viaS (retS (callS (arS (lc _ (by show 1<=2;decide) (compC rfl (one _ _ _) rfl)) rfl) (fSum1 bs.1 (by omega))))
  ·rw [if_neg h] at lc ⊢
   have wb:(behind b s t).Wk b:=(w.cnt (n:=t) (by omega)).trn ok
   have b1:=rcS_in (n:=t) w (by omega) (by omega)
   have b2:=rcS_in (n:=n - t) wb (by omega) (by omega)
   exact viaS (retS (callS (arS (lc _ (by show 2<=2;decide) (compC rfl (one _ _ _) (compC rfl (one _ _ _) rfl))) rfl) (fSum2 b1.1 (by omega) b2.1 (by omega))))
def jJ:R->Option Out :=
 (retD (ifE (cmp2 cEq (op2 dIx (vAt 2) (fun _=>some (.int 0))) (fun _=>some (.str (Str.ofString "ticks")))) (callD ba (argC (vAt 0) (argC (vAt 1) (argC (op2 dIx (vAt 2) (fun _=>some (.int 1))) argN)))) (fun _=>some (.int 0))))
def ca:List D->Option D:=via 3 3 jJ
theorem pj:∀ ds d,ca ds=some d->retOf (jJ (beg 3 ds))=some d:=fun _ _ h=>aB h
theorem pI:∀ ds d,ca ds=some d->ds.length=3:=fun _ _ h=>ao h
def rcE (b:Bk) (s:WS):Ev->Int
 | .ticks n=>hmr b s n
 | _=>0
def evFit0:Ev->Prop
 | .ticks n=>1<=n/\n<259200
 | _=>True
theorem oU {b:Bk} {s:WS} (ok:b.Ok) (w:s.Wk b) (e:Ev) (h:evFit0 e):ca [b.d,s.d,e.d]=some (.int (rcE b s e)):=by
 cases e with
 | ticks n=>exact viaS (retS (ieT (cmS (opS rfl rfl rfl) rfl rfl) (callS (arS rfl (arS rfl (arS (opS rfl rfl rfl) rfl))) (ve ok w (by have:=h.1;omega) h.2))))
 | down x=>exact viaS (retS (ieF (cmS (opS rfl rfl rfl) rfl rfl) rfl))
 | up x=>exact viaS (retS (ieF (cmS (opS rfl rfl rfl) rfl rfl) rfl))
def dt (C:Nat):MU :=
  (mSeq (mPure (asgD (callD dU (argC (op1 (fldD C (Str.ofString "book")) (vAt 0)) (argC (op1 (fldD C (Str.ofString "present")) (vAt 0)) (argC (vAt 1) argN)))) (setAt 2)))
  (mSeq (mPure (asgD (op2 dAdd (op1 (fldD C (Str.ofString "rung")) (vAt 0)) (callD ca (argC (op1 (fldD C (Str.ofString "book")) (vAt 0)) (argC (op1 (fldD C (Str.ofString "present")) (vAt 0)) (argC (vAt 1) argN))))) (setAt 3)))
  (mSeq (mApp 0 C (Str.ofString "past") (tupD (argC (vAt 1) (argC (op1 (fldD C (Str.ofString "present")) (vAt 0)) (argC (op1 (fldD C (Str.ofString "rung")) (vAt 0)) argN)))))
  (mSeq (mFld 0 C (Str.ofString "present") (vAt 2))
  (mFld 0 C (Str.ofString "rung") (vAt 3))))))
def aW (C:Nat):List D->Option (D×D):=viaM 2 4 0 (dt C)
def Wo (C a l:Nat) (b:Bk) (s:WS) (r:Int) (p:List D):D:=.obj (C+2) a [Str.ofString "book",Str.ofString "present",Str.ofString "rung",Str.ofString "past"] [b.d,s.d,.int r,.obj 0 l [] p]
theorem bC {α:Type} {f:α->D} (h:∀ x,nob (f x)=true):∀ l:List α,nobs (l.map f)=true
 | []=>rfl
 | x::l=>by show (nob (f x)&&nobs (l.map f))=true;rw [h x,bC h l];rfl
theorem tQ (r:Deed×Nat):nob (rowD r)=true:=rfl
theorem uG (m:Md):nob m.d=true:=by
 show (true&&(true&&(nobs (m.rows.map rowD)&&true)))=true
 rw [bC tQ];rfl
theorem fc (b:Bk):nob b.d=true:=by
 show (true&&(true&&(nobs (b.modes.map Md.d)&&true)))=true
 rw [bC uG];rfl
theorem dA (s:WS):nob s.d=true:=bS (lP s)
theorem bR (e:Ev):nob e.d=true:=by cases e<;>rfl
def stepD (s:WS) (e:Ev) (r:Int):D:=.tup [e.d,s.d,.int r]
theorem gU (s:WS) (e:Ev) (r:Int):nob (stepD s e r)=true:=by
 show (nob e.d&&(nob s.d&&(true&&true)))=true
 rw [bR,dA];rfl
section
variable {C a l:Nat} {b:Bk} {s s':WS} {r:Int} {p:List D} {ρ:R} {f:R->Option D}
theorem wBook:fldD C (Str.ofString "book") (Wo C a l b s r p)=some b.d:=by show (if C+2=C+2 then _ else none)=_;rw [if_pos rfl];rfl
theorem wPres:fldD C (Str.ofString "present") (Wo C a l b s r p)=some s.d:=by show (if C+2=C+2 then _ else none)=_;rw [if_pos rfl];rfl
theorem wRung:fldD C (Str.ofString "rung") (Wo C a l b s r p)=some (.int r):=by show (if C+2=C+2 then _ else none)=_;rw [if_pos rfl];rfl
theorem wS:inS [a,l] (a::[b.d,s.d,.int r,.obj 0 l [] p].flatMap adr1)=true:=by
 show inS [a,l] [a,l]=true
 simp [inS]
theorem wOk (hn:nobs p=true):[b.d,s.d,.int r,.obj 0 l [] p].all okN=true:=by
 show (nob b.d&&(nob s.d&&(true&&(nobs p&&true))))=true
 rw [fc,dA,hn];rfl
theorem sPres (hn:nobs p=true) (hb:nobBut 0 (some (Wo C a l b s r p)::ρ)=true) (hf:f (some (Wo C a l b s r p)::ρ)=some s'.d):mFld 0 C (Str.ofString "present") f [a,l] (some (Wo C a l b s r p)::ρ)=some (.nx (some (Wo C a l b s' r p)::ρ)):=by
 show (f _).bind _=_
 rw [hf,Option.bind_some]
 exact if_pos ⟨rfl,dA _,hb,wS,by decide,wOk hn,dA s⟩
theorem sRung {r':Int} (hn:nobs p=true) (hb:nobBut 0 (some (Wo C a l b s r p)::ρ)=true) (hf:f (some (Wo C a l b s r p)::ρ)=some (.int r')):mFld 0 C (Str.ofString "rung") f [a,l] (some (Wo C a l b s r p)::ρ)=some (.nx (some (Wo C a l b s r' p)::ρ)):=by
 show (f _).bind _=_
 rw [hf,Option.bind_some]
 exact if_pos ⟨rfl,rfl,hb,wS,by decide,wOk hn,rfl⟩
theorem sPast {d:D} (hn:nobs p=true) (hp:p.length<1000) (hd:nob d=true) (hb:nobBut 0 (some (Wo C a l b s r p)::ρ)=true) (hf:f (some (Wo C a l b s r p)::ρ)=some d):mApp 0 C (Str.ofString "past") f [a,l] (some (Wo C a l b s r p)::ρ)=some (.nx (some (Wo C a l b s r (p++[d]))::ρ)):=by
 show (f _).bind _=_
 rw [hf,Option.bind_some]
 exact if_pos ⟨rfl,hd,hb,wS,hp,hn,by show (nob b.d&&(nob s.d&&(true&&(true&&true))))=true;rw [fc,dA];rfl,by simp⟩
end
theorem hap33 {C a l:Nat} {b:Bk} {s:WS} {r:Int} {p:List D} (ok:b.Ok) (w:s.Wk b) (e:Ev) (h:evFit0 e) (hp:p.length<1000) (hn:nobs p=true) :
  aW C [Wo C a l b s r p,e.d]=some (.non,Wo C a l b (gone b s e) (r+rcE b s e) (p++[stepD s e r])):=by
 have s1:mPure (asgD (callD dU (argC (op1 (fldD C (Str.ofString "book")) (vAt 0)) (argC (op1 (fldD C (Str.ofString "present")) (vAt 0)) (argC (vAt 1) argN)))) (setAt 2)) [a,l] [some (Wo C a l b s r p),some e.d,none,none]=some (.nx [some (Wo C a l b s r p),some e.d,some (gone b s e).d,none]):=by
  show (asgD _ _ _).bind _=_
  rw [asgS (callS (arS (o1S rfl wBook) (arS (o1S rfl wPres) (arS rfl rfl))) (sD ok w e)) rfl];rfl
 have s2:mPure (asgD (op2 dAdd (op1 (fldD C (Str.ofString "rung")) (vAt 0)) (callD ca (argC (op1 (fldD C (Str.ofString "book")) (vAt 0)) (argC (op1 (fldD C (Str.ofString "present")) (vAt 0)) (argC (vAt 1) argN))))) (setAt 3)) [a,l] [some (Wo C a l b s r p),some e.d,some (gone b s e).d,none]=some (.nx [some (Wo C a l b s r p),some e.d,some (gone b s e).d,some (.int (r+rcE b s e))]):=by
  show (asgD _ _ _).bind _=_
  rw [asgS (opS (o1S rfl wRung) (callS (arS (o1S rfl wBook) (arS (o1S rfl wPres) (arS rfl rfl))) (oU ok w e h)) rfl) rfl];rfl
 have nb:∀ x y:Option D,nobO x=true->nobO y=true->∀ ob:D,nobBut 0 [some ob,some e.d,x,y]=true:=fun x y hx hy ob=>by
  show (true&&(nob e.d&&(nobO x&&(nobO y&&true))))=true
  rw [bR,hx,hy];rfl
 have s3:=sPast (C:=C) (a:=a) (l:=l) (b:=b) (s:=s) (r:=r) (p:=p) (ρ:=[some e.d,some (gone b s e).d,some (.int (r+rcE b s e))]) (f:=tupD (argC (vAt 1) (argC (op1 (fldD C (Str.ofString "present")) (vAt 0)) (argC (op1 (fldD C (Str.ofString "rung")) (vAt 0)) argN)))) (d:=stepD s e r) hn hp (gU s e r) (nb (some (gone b s e).d) (some (.int (r+rcE b s e))) (dA _) rfl _) (tupS (arS rfl (arS (o1S rfl wPres) (arS (o1S rfl wRung) rfl))))
 have hn':nobs (p++[stepD s e r])=true:=by
  have:∀ q:List D,nobs q=true->nobs (q++[stepD s e r])=true:=fun q=>by
   induction q with
   | nil=>intro _;show (nob _&&true)=true;rw [gU];rfl
   | cons x q ih =>
    intro h
    have h':(nob x&&nobs q)=true:=h
    rw [Bool.and_eq_true] at h'
    show (nob x&&nobs (q++_))=true
    rw [h'.1,ih h'.2];rfl
  exact this p hn
 have s4:=sPres (C:=C) (a:=a) (l:=l) (b:=b) (s:=s) (s':=gone b s e) (r:=r) (p:=p++[stepD s e r]) (ρ:=[some e.d,some (gone b s e).d,some (.int (r+rcE b s e))]) (f:=vAt 2) hn' (nb (some (gone b s e).d) (some (.int (r+rcE b s e))) (dA _) rfl _) rfl
 have s5:=sRung (C:=C) (a:=a) (l:=l) (b:=b) (s:=gone b s e) (r:=r) (r':=r+rcE b s e) (p:=p++[stepD s e r]) (ρ:=[some e.d,some (gone b s e).d,some (.int (r+rcE b s e))]) (f:=vAt 3) hn' (nb (some (gone b s e).d) (some (.int (r+rcE b s e))) (dA _) rfl _) rfl
 have g:dt C [a,l] [some (Wo C a l b s r p),some e.d,none,none]=some (.nx [some (Wo C a l b (gone b s e) (r+rcE b s e) (p++[stepD s e r])),some e.d,some (gone b s e).d,some (.int (r+rcE b s e))]):=by
  show (mPure _ [a,l] _).bind _=_
  rw [s1,Option.bind_some]
  show (mPure _ [a,l] _).bind _=_
  rw [s2,Option.bind_some]
  show (mApp _ _ _ _ [a,l] _).bind _=_
  rw [s3,Option.bind_some]
  show (mFld _ _ _ _ [a,l] _).bind _=_
  rw [s4,Option.bind_some]
  exact s5
 show (dt C [a,l] [some (Wo C a l b s r p),some e.d,none,none]).bind _=_
 rw [g,Option.bind_some]
 exact if_pos ⟨rfl,rfl⟩
theorem met33 {C a l:Nat} {b:Bk} {s:WS} {r:Int} {p:List D} {mn:Str} {G:List D->Option (D×D)} {F:R->Option (List D)} {ρ:R} {ds:List D} {d ob':D} (h1:F (some (Wo C a l b s r p)::ρ)=some ds) (h2:G (Wo C a l b s r p::ds)=some (d,ob')) (h3:[Str.ofString "book",Str.ofString "present",Str.ofString "rung",Str.ofString "past"].contains mn=false) (h4:nobBut 0 (some (Wo C a l b s r p)::ρ)=true) :
  mMet 0 C mn G F [a,l] (some (Wo C a l b s r p)::ρ)=some (d,some ob'::ρ):=by
 show (F _).bind _=_
 rw [h1,Option.bind_some,h2,Option.bind_some]
 exact if_pos ⟨rfl,h3,h4,wS⟩
def eM (C:Nat):MU :=
 (mExpr (mMet 0 C (Str.ofString "happen") (aW C) (argC (tupD (argC (fun _=>some (.str (Str.ofString "down"))) (argC (vAt 1) argN))) argN)))
def cL (C:Nat):List D->Option (D×D):=viaM 2 2 0 (eM C)
theorem down33 {C a l:Nat} {b:Bk} {s:WS} {r:Int} {p:List D} (ok:b.Ok) (w:s.Wk b) (x:Btn) (hp:p.length<1000) (hn:nobs p=true) :
  cL C [Wo C a l b s r p,.str x.x]=some (.non,Wo C a l b (gone b s (.down x)) (r+rcE b s (.down x)) (p++[stepD s (.down x) r])):=by
 have g:eM C [a,l] [some (Wo C a l b s r p),some (.str x.x)]=some (.nx [some (Wo C a l b (gone b s (.down x)) (r+rcE b s (.down x)) (p++[stepD s (.down x) r])),some (.str x.x)]):=by
  show (mMet _ _ _ _ _ [a,l] _).map _=_
  rw [met33 (ds:=[(Ev.down x).d]) rfl (hap33 ok w (.down x) trivial hp hn) (by decide +kernel) rfl];rfl
 show (eM C [a,l] [some (Wo C a l b s r p),some (.str x.x)]).bind _=_
 rw [g,Option.bind_some]
 exact if_pos ⟨rfl,rfl⟩
def dR (C:Nat):MU :=
 (mExpr (mMet 0 C (Str.ofString "happen") (aW C) (argC (tupD (argC (fun _=>some (.str (Str.ofString "ticks"))) (argC (vAt 1) argN))) argN)))
def cu (C:Nat):List D->Option (D×D):=viaM 2 2 0 (dR C)
theorem ticks33 {C a l:Nat} {b:Bk} {s:WS} {r:Int} {p:List D} (ok:b.Ok) (w:s.Wk b) {n:Int} (h:1<=n/\n<259200) (hp:p.length<1000) (hn:nobs p=true) :
  cu C [Wo C a l b s r p,.int n]=some (.non,Wo C a l b (gone b s (.ticks n)) (r+rcE b s (.ticks n)) (p++[stepD s (.ticks n) r])):=by
 have g:dR C [a,l] [some (Wo C a l b s r p),some (.int n)]=some (.nx [some (Wo C a l b (gone b s (.ticks n)) (r+rcE b s (.ticks n)) (p++[stepD s (.ticks n) r])),some (.int n)]):=by
  show (mMet _ _ _ _ _ [a,l] _).map _=_
  rw [met33 (ds:=[(Ev.ticks n).d]) rfl (hap33 ok w (.ticks n) h hp hn) (by decide +kernel) rfl];rfl
 show (dR C [a,l] [some (Wo C a l b s r p),some (.int n)]).bind _=_
 rw [g,Option.bind_some]
 exact if_pos ⟨rfl,rfl⟩
def fY (C:Nat):MU :=
 (mExpr (mMet 0 C (Str.ofString "happen") (aW C) (argC (tupD (argC (fun _=>some (.str (Str.ofString "up"))) (argC (vAt 1) argN))) argN)))
def dH (C:Nat):List D->Option (D×D):=viaM 2 2 0 (fY C)
theorem up33 {C a l:Nat} {b:Bk} {s:WS} {r:Int} {p:List D} (ok:b.Ok) (w:s.Wk b) (x:Btn) (hp:p.length<1000) (hn:nobs p=true) :
  dH C [Wo C a l b s r p,.str x.x]=some (.non,Wo C a l b (gone b s (.up x)) (r+rcE b s (.up x)) (p++[stepD s (.up x) r])):=by
 have g:fY C [a,l] [some (Wo C a l b s r p),some (.str x.x)]=some (.nx [some (Wo C a l b (gone b s (.up x)) (r+rcE b s (.up x)) (p++[stepD s (.up x) r])),some (.str x.x)]):=by
  show (mMet _ _ _ _ _ [a,l] _).map _=_
  rw [met33 (ds:=[(Ev.up x).d]) rfl (hap33 ok w (.up x) trivial hp hn) (by decide +kernel) rfl];rfl
 show (fY C [a,l] [some (Wo C a l b s r p),some (.str x.x)]).bind _=_
 rw [g,Option.bind_some]
 exact if_pos ⟨rfl,rfl⟩
def ig (C:Nat):MU :=
  (mIf (cmp2 cEq (op2 dIx (vAt 1) (fun _=>some (.int 0))) (fun _=>some (.str (Str.ofString "down"))))
  (mExpr (mMet 0 C (Str.ofString "down") (cL C) (argC (op2 dIx (vAt 1) (fun _=>some (.int 1))) argN)))
  (mIf (cmp2 cEq (op2 dIx (vAt 1) (fun _=>some (.int 0))) (fun _=>some (.str (Str.ofString "up"))))
  (mExpr (mMet 0 C (Str.ofString "up") (dH C) (argC (op2 dIx (vAt 1) (fun _=>some (.int 1))) argN)))
  (mExpr (mMet 0 C (Str.ofString "ticks") (cu C) (argC (op2 dIx (vAt 1) (fun _=>some (.int 1))) argN)))))
def cg (C:Nat):List D->Option (D×D):=viaM 2 2 0 (ig C)
theorem mIT {c:R->Option Bool} {u w:MU} {S:List Nat} {ρ:R} (h:c ρ=some true):mIf c u w S ρ=u S ρ:=by show (c ρ).bind _=_;rw [h];rfl
theorem mIF {c:R->Option Bool} {u w:MU} {S:List Nat} {ρ:R} (h:c ρ=some false):mIf c u w S ρ=w S ρ:=by show (c ρ).bind _=_;rw [h];rfl
theorem mEx {c:List Nat->R->Option (D×R)} {S:List Nat} {ρ ρ':R} {d:D} (h:c S ρ=some (d,ρ')):mExpr c S ρ=some (.nx ρ'):=by show (c S ρ).map _=_;rw [h];rfl
theorem do33 {C a l:Nat} {b:Bk} {s:WS} {r:Int} {p:List D} (ok:b.Ok) (w:s.Wk b) (e:Ev) (h:evFit0 e) (hp:p.length<1000) (hn:nobs p=true) :
  cg C [Wo C a l b s r p,e.d]=some (.non,Wo C a l b (gone b s e) (r+rcE b s e) (p++[stepD s e r])):=by
 have nb:nobBut 0 [some (Wo C a l b s r p),some e.d]=true:=by show (true&&(nob e.d&&true))=true;rw [bR];rfl
 have g:ig C [a,l] [some (Wo C a l b s r p),some e.d]=some (.nx [some (Wo C a l b (gone b s e) (r+rcE b s e) (p++[stepD s e r])),some e.d]):=by
  cases e with
  | down x=>exact (mIT (cmS (opS rfl rfl rfl) rfl rfl)).trans (mEx (met33 (ds:=[.str x.x]) (arS (opS rfl rfl rfl) rfl) (down33 ok w x hp hn) (by decide +kernel) nb))
  | up x=>exact (mIF (cmS (opS rfl rfl rfl) rfl rfl)).trans ((mIT (cmS (opS rfl rfl rfl) rfl rfl)).trans (mEx (met33 (ds:=[.str x.x]) (arS (opS rfl rfl rfl) rfl) (up33 ok w x hp hn) (by decide +kernel) nb)))
  | ticks n=>exact (mIF (cmS (opS rfl rfl rfl) rfl rfl)).trans ((mIF (cmS (opS rfl rfl rfl) rfl rfl)).trans (mEx (met33 (ds:=[.int n]) (arS (opS rfl rfl rfl) rfl) (ticks33 ok w h hp hn) (by decide +kernel) nb)))
 show (ig C [a,l] [some (Wo C a l b s r p),some e.d]).bind _=_
 rw [g,Option.bind_some]
 exact if_pos ⟨rfl,rfl⟩
def eg (C:Nat):MU :=
  (mSeq (mIf (cmp2 cEq (thawD 0 C (Str.ofString "past") (callD fLen (argC (op1 (fldD C (Str.ofString "past")) (vAt 0)) argN))) (fun _=>some (.int 0)))
  (fun _ _=>none)
  mNext)
  (mSeq (mPop 1 0 C (Str.ofString "past"))
  (mSeq (mFld 0 C (Str.ofString "present") (op2 dIx (vAt 1) (fun _=>some (.int 1))))
  (mFld 0 C (Str.ofString "rung") (op2 dIx (vAt 1) (fun _=>some (.int 2)))))))
def bN (C:Nat):List D->Option (D×D):=viaM 1 2 0 (eg C)
def aL (C:Nat):MU :=
  (mSeq (mFld 0 C (Str.ofString "book") (vAt 1))
  (mSeq (mFld 0 C (Str.ofString "present") (callD ce (argC (vAt 1) argN)))
  (mSeq (mFld 0 C (Str.ofString "rung") (fun _=>some (.int 0)))
  mNext)))
theorem mk33 (C a l:Nat) (b:Bk):mkOb 2 C (Str.ofString "past") (aL C) [b.d] a l=some (Wo C a l b begun0 0 []):=by
 have n1:=fc b
 have n2:=dA begun0
 have hS:inS [a] [a]=true:=by simp [inS]
 have s1:mFld 0 C (Str.ofString "book") (vAt 1) [a] [some (.obj (C+2) a [] []),some b.d]=some (.nx [some (.obj (C+2) a [Str.ofString "book"] [b.d]),some b.d]):=if_pos ⟨rfl,n1,by show (true&&(nob b.d&&true))=true;rw [n1];rfl,hS,by decide,rfl,rfl⟩
 have s2:mFld 0 C (Str.ofString "present") (callD ce (argC (vAt 1) argN)) [a] [some (.obj (C+2) a [Str.ofString "book"] [b.d]),some b.d]=some (.nx [some (.obj (C+2) a [Str.ofString "book",Str.ofString "present"] [b.d,begun0.d]),some b.d]):=by
  show (callD ce _ _).bind _=_
  rw [callS rfl (mO _),Option.bind_some]
  exact if_pos ⟨rfl,n2,by show (true&&(nob b.d&&true))=true;rw [n1];rfl,hS,by decide,by show (okN b.d&&true)=true;rw [show okN b.d=nob b.d from rfl,n1];rfl,rfl⟩
 have s3:mFld 0 C (Str.ofString "rung") (fun _=>some (.int 0)) [a] [some (.obj (C+2) a [Str.ofString "book",Str.ofString "present"] [b.d,begun0.d]),some b.d]=some (.nx [some (.obj (C+2) a [Str.ofString "book",Str.ofString "present",Str.ofString "rung"] [b.d,begun0.d,.int 0]),some b.d]) :=
  if_pos ⟨rfl,rfl,by show (true&&(nob b.d&&true))=true;rw [n1];rfl,hS,by decide,by show (okN b.d&&(okN begun0.d&&true))=true;rw [show okN b.d=nob b.d from rfl,n1];rfl,rfl⟩
 have g:aL C [a] [some (.obj (C+2) a [] []),some b.d]=some (.nx [some (.obj (C+2) a [Str.ofString "book",Str.ofString "present",Str.ofString "rung"] [b.d,begun0.d,.int 0]),some b.d]):=by
  show (mFld 0 C (Str.ofString "book") (vAt 1) [a] _).bind _=_
  rw [s1,Option.bind_some]
  show (mFld 0 C (Str.ofString "present") _ [a] _).bind _=_
  rw [s2,Option.bind_some]
  show (mFld 0 C (Str.ofString "rung") _ [a] _).bind _=_
  rw [s3];rfl
 show (aL C [a] [some (.obj (C+2) a [] []),some b.d]).bind _=_
 rw [g,Option.bind_some]
 exact if_pos ⟨rfl,rfl,by show (nob b.d&&(nob begun0.d&&(true&&true)))=true;rw [n1,n2];rfl,by show 3<100;decide⟩
def qf:R->Option Out :=
 (asgD (callD bK (argC (callD bW (argC (callD aM (argC (vAt 0) (argC (fun _=>some (.int 0)) argN))) argN)) (argC (op2 dDiv (callD aG (argC (callD aM (argC (vAt 0) (argC (fun _=>some (.int 0)) argN))) (argC (fun _=>some (.int 77)) argN))) (fun _=>some (.int 4))) argN))) (setAt 1))
def qw:R->Option Out :=
 (asgD (callD bU (argC (callD aM (argC (vAt 0) (argC (fun _=>some (.int 1)) argN))) (argC (fun _=>some (.int 16)) argN))) (setAt 2))
def mq_law_5_i3_1 (C:Nat):MU :=
 (mExpr (mCal2 4 (cg C) (argC (vAt 4) (argC (vAt 9) argN))))
def iM (C:Nat):MU:=(mq_law_5_i3_1 C)
def mq_law_5_i4_1 (C:Nat):MU :=
 (mExpr (mMet2 4 C (Str.ofString "undo") (bN C) argN))
def iQ (C:Nat):MU:=(mq_law_5_i4_1 C)
def mq_law_5_1 (C:Nat):MU :=
 (mPure (asgD (callD bU (argC (callD aM (argC (vAt 0) (argC (op2 dAdd (fun _=>some (.int 2)) (vAt 5)) argN))) (argC (fun _=>some (.int 2)) argN))) (setAt 7)))
def mq_law_5_2 (C:Nat):MU :=
 (mPure (asgD (callD (aI C) (argC (vAt 4) argN)) (setAt 8)))
def mq_law_5_3 (C:Nat):MU :=
 (mFor (inSeq (vAt 7)) (setAt 9) (iM C))
def mq_law_5_4 (C:Nat):MU :=
 (mFor (inSeq (vAt 7)) (setAt 9) (iQ C))
def mq_law_5_5 (C:Nat):MU :=
  (mPure (ifD (cmp2 cNeD (callD (aI C) (argC (vAt 4) argN)) (vAt 8))
  (retD (fun _=>some (.bl false)))
  nextD))
def mq_law_5_6 (C:Nat):MU :=
 (mExpr (mCal2 4 (cg C) (argC (vAt 4) (argC (vAt 6) argN))))
def mq_law_5_7 (C:Nat):MU :=
 (mExpr (mCal2 3 (cg C) (argC (vAt 3) (argC (vAt 6) argN))))
def mq_law_5_8 (C:Nat):MU :=
  (mPure (ifD (orT (cmp2 cNeD (callD (aI C) (argC (vAt 4) argN)) (callD (aI C) (argC (vAt 3) argN))) (cmp2 cNeD (metD C (Str.ofString "shown") (bb C) (vAt 4) argN) (op2 dIx (callD fO (argC (vAt 1) (argC (slD (vAt 2) noP (aP (op2 dAdd (vAt 5) (fun _=>some (.int 1))))) argN))) (op1 dNeg (fun _=>some (.int 1))))))
  (retD (fun _=>some (.bl false)))
  nextD))
def jR (C:Nat):MU:=(mSeq (mq_law_5_1 C) (mSeq (mq_law_5_2 C) (mSeq (mq_law_5_3 C) (mSeq (mq_law_5_4 C) (mSeq (mq_law_5_5 C) (mSeq (mq_law_5_6 C) (mSeq (mq_law_5_7 C) (mq_law_5_8 C))))))))
def mq_law_7_1 (C:Nat):MU :=
 (mExpr (mCal2 10 (cg C) (argC (vAt 10) (argC (vAt 6) argN))))
def nP (C:Nat):MU:=(mq_law_7_1 C)
def mq_law_9_1 (C:Nat):MU :=
 (mExpr (mMet2 4 C (Str.ofString "undo") (bN C) argN))
def nk (C:Nat):MU:=(mq_law_9_1 C)
def qo (C:Nat):MU :=
 (mFor (inEnum (vAt 2)) (unpD [(setAt 5),(setAt 6)]) (jR C))
def qC (C:Nat):MU :=
 (mFor (inSeq (callD bZ (argC (callD bT (argC (metD C (Str.ofString "row") (bi C) (vAt 4) argN) argN)) argN))) (setAt 6) (nP C))
def qu (C:Nat):MU :=
  (mPure (ifD (cmp2 cNeD (callD (aI C) (argC (vAt 10) argN)) (callD (aI C) (argC (vAt 4) argN)))
  (retD (fun _=>some (.bl false)))
  nextD))
def qp (C:Nat):MU :=
 (mFor (inSeq (vAt 2)) (setAt 6) (nk C))
def nV (C:Nat):MU :=
 (mPure (retD (andV (asV (cmp2 cEqD (callD (aI C) (argC (vAt 4) argN)) (callN (mkOb 2 C (Str.ofString "past") (aL C)) (aI C) (argC (vAt 1) argN)))) (asV (cmp2 cEqD (metD C (Str.ofString "state") (be C) (vAt 4) argN) (callD ce (argC (vAt 1) argN)))))))
def mr_law_7 (C:Nat):MU:=(mSeq (qC C) (mSeq (qu C) (mSeq (qp C) (nV C))))
def mr_law_5 (C:Nat):MU:=(mSeq (qo C) (mMk 10 (mkOb 2 C (Str.ofString "past") (aL C)) (argC (vAt 1) argN) (mr_law_7 C)))
def ug (C:Nat):R->Option Out :=
 (seqD qf (seqD qw (newM 3 (mkOb 2 C (Str.ofString "past") (aL C)) (argC (vAt 1) argN) (mMk 4 (mkOb 2 C (Str.ofString "past") (aL C)) (argC (vAt 1) argN) (mr_law_5 C)))))
def nr (C:Nat):List D->Option D:=via 1 11 (ug C)
theorem vg (C:Nat):∀ ds d,nr C ds=some d->retOf (ug C (beg 11 ds))=some d:=fun _ _ h=>aB h
theorem vm (C:Nat):∀ ds d,nr C ds=some d->ds.length=1:=fun _ _ h=>ao h
def Ev.w:Ev->Str
 | .down x=>Str.ofString "+" ++ x.x
 | .up x=>Str.ofString "-" ++ x.x
 | .ticks n=>Str.ofString "." ++ tx n
def Ev.Sm:Ev->Prop
 | .ticks n=>1<=n/\n<=130
 | _=>True
theorem dot_len:(Str.ofString ".").length=1:=by decide +kernel
theorem mH {e:Ev} (h:e.Sm):bD [e.d]=some (.str e.w):=by
 cases e with
 | down x=>cases x<;>exact viaS ((seqR ((ifT (cmS rfl rfl rfl)).trans (retS (opS rfl rfl (addS (by decide +kernel)))))))
 | up x=>cases x<;>exact viaS ((seqN ((ifF (cmS rfl rfl rfl)).trans rfl)).trans (seqR ((ifT (cmS rfl rfl rfl)).trans (retS (opS rfl rfl (addS (by decide +kernel)))))))
 | ticks n =>
  have h0:0<=n:=by have:=h.1;omega
  have h1:n<1000000000000000000:=by have:=h.2;omega
  have l:=tx_len h0 h1
  exact viaS ((seqN ((ifF (cmS rfl rfl rfl)).trans rfl)).trans ((seqN ((ifF (cmS rfl rfl rfl)).trans rfl)).trans (retS (opS rfl (callS rfl (g_ h0 h1)) (addS (by rw [dot_len];omega))))))
def ckEv (n:Nat):Bool:=(match bg [.str (Ev.ticks n).w] with
 | some (.tup [.str a,.int k])=>a==Str.ofString "ticks" && k==(n:Int)
 | _=>false)&&((!(Ev.ticks n).w.cps.toList.contains 32)&&decide ((Ev.ticks n).w.length<=10))
theorem ck_all:(List.range 131).all (fun n=>n==0||ckEv n)=true:=by decide +kernel
theorem ck_of {n:Int} (h:1<=n/\n<=130):ckEv n.toNat=true:=by
 have:=List.all_eq_true.mp ck_all n.toNat (by simp;omega)
 simp only [Bool.or_eq_true,beq_iff_eq] at this
 rcases this with h' | h'
 ·omega
 ·exact h'
def ckB (a:Bool) (x:Btn):Bool:=(match bg [.str ((if a then Ev.down x else Ev.up x)).w] with
 | some (.tup [.str z,.str y])=>z==(if a then Str.ofString "down" else Str.ofString "up")&&y==x.x
 | _=>false)&&((!(if a then Ev.down x else Ev.up x).w.cps.toList.contains 32)&&decide ((if a then Ev.down x else Ev.up x).w.length<=10))
theorem ck_btn (a:Bool) (x:Btn):ckB a x=true:=by cases a<;>cases x<;>decide +kernel
theorem mF {e:Ev} (h:e.Sm):bg [.str e.w]=some e.d:=by
 cases e with
 | down x =>
  have c:=ck_btn true x
  unfold ckB at c
  rw [Bool.and_eq_true] at c
  have c1:=c.1
  simp only [if_true] at c1
  split at c1
  ·rename_i z y hk
   rw [Bool.and_eq_true,beq_iff_eq,beq_iff_eq] at c1
   rw [hk,c1.1,c1.2];rfl
  ·cases c1
 | up x =>
  have c:=ck_btn false x
  unfold ckB at c
  rw [Bool.and_eq_true] at c
  have c1:=c.1
  simp only [Bool.false_eq_true,if_false] at c1
  split at c1
  ·rename_i z y hk
   rw [Bool.and_eq_true,beq_iff_eq,beq_iff_eq] at c1
   rw [hk,c1.1,c1.2];rfl
  ·cases c1
 | ticks n =>
  have c:=ck_of h
  obtain ⟨m,rfl⟩:∃ m:Nat,n=m:=⟨n.toNat,by have:=h.1;omega⟩
  rw [Int.toNat_natCast] at c
  unfold ckEv at c
  rw [Bool.and_eq_true] at c
  have c1:=c.1
  split at c1
  ·rename_i a j hk
   rw [Bool.and_eq_true,beq_iff_eq,beq_iff_eq] at c1
   rw [hk,c1.1,c1.2];rfl
  ·cases c1
theorem vn (e:Ev):1<=e.w.length:=by
 cases e with
 | down x=>show 1<=(Str.ofString "+" ++ x.x).length;rw [app_len,show (Str.ofString "+").length=1 by decide +kernel];omega
 | up x=>show 1<=(Str.ofString "-" ++ x.x).length;rw [app_len,show (Str.ofString "-").length=1 by decide +kernel];omega
 | ticks n=>show 1<=(Str.ofString "." ++ tx n).length;rw [app_len,dot_len];omega
theorem lE {e:Ev} (h:e.Sm):32∉e.w.cps.toList/\e.w.length<=10:=by
 have key:(!e.w.cps.toList.contains 32&&decide (e.w.length<=10))=true:=by
  cases e with
  | down x=>have c:=ck_btn true x;unfold ckB at c;rw [Bool.and_eq_true] at c;exact c.2
  | up x=>have c:=ck_btn false x;unfold ckB at c;rw [Bool.and_eq_true] at c;exact c.2
  | ticks n =>
   have c:=ck_of h
   obtain ⟨m,rfl⟩:∃ m:Nat,n=m:=⟨n.toNat,by have:=h.1;omega⟩
   rw [Int.toNat_natCast] at c
   unfold ckEv at c
   rw [Bool.and_eq_true] at c
   exact c.2
 rw [Bool.and_eq_true] at key
 exact ⟨by simpa using key.1,of_decide_eq_true key.2⟩
def blankS:Str:=Str.ofString " "
theorem blank_eq:blankS=⟨#[32]⟩:=by decide +kernel
theorem blank_len:blankS.length=1:=by decide +kernel
theorem blank_kind:Builtin.Str.strKind blankS=1:=by decide +kernel
def rowT (es:List Ev):Str:=Builtin.Str.glued blankS (es.map Ev.w)
theorem lcR {k:Nat} {it:R->Option (List D)} {st:D->R->Option R} {c:R->Option Bool} {e:R->Option D} {ρ:R} {ds out:List D} (h1:it ρ=some ds) (hz:ds.length<=1000) (h2:compD st c e ds (List.replicate k none++ρ)=some out) :
  lcD k it st c e ρ=some (.lst out):=by
 have z:1000<=sizeLine:=by decide
 unfold lcD
 rw [h1]
 show (if ds.length<=sizeLine then _ else none)=_
 rw [if_pos (by omega),h2];rfl
theorem me {α:Type} {st:D->R->Option R} {e:R->Option D} {ρ:R} (f g:α->D):∀ {as:List α},(∀ a∈as,∃ ρ1,st (f a) ρ=some ρ1/\e ρ1=some (g a))->compD st yesT e (as.map f) ρ=some (as.map g)
 | [],_=>rfl
 | a::as,h=>by
  obtain ⟨ρ1,h1,h2⟩:=h a List.mem_cons_self
  have ih:=me (st:=st) (e:=e) (ρ:=ρ) f g (as:=as) fun x hx=>h x (List.mem_cons_of_mem _ hx)
  simp [compD,h1,h2,ih]
theorem rowT_len {es:List Ev} (h:∀ e∈es,e.Sm) (hl:es.length<=20):(rowT es).length<=300:=by
 unfold rowT
 rw [PySem.size_glued,blank_len]
 have:∀ es:List Ev,(∀ e∈es,e.Sm)->((es.map Ev.w).map (·.length)).sum<=es.length*10:=by
  intro es
  induction es with
  | nil=>intro _;simp
  | cons e es ih =>
   intro h
   have a:=ih fun x hx=>h x (List.mem_cons_of_mem _ hx)
   have b:=(lE (h e List.mem_cons_self)).2
   simp at a ⊢
   omega
 have:=this es h
 simp only [List.length_map] at *
 omega
theorem rowT_pos {es:List Ev} (h0:es ≠ []):1<=(rowT es).length:=by
 cases es with
 | nil=>exact absurd rfl h0
 | cons e es =>
  unfold rowT
  rw [PySem.size_glued]
  have:=vn e
  simp
  omega
theorem split_glued {ws:List Str} (h0:ws ≠ []) (h:∀ w∈ws,32∉w.cps.toList) (hp:1<=(Builtin.Str.glued blankS ws).length):splitS (Builtin.Str.glued blankS ws) blankS=ws:=by
 have key:=parts_glued h0 h
 rw [<- blank_eq] at key
 unfold splitS
 split
 ·rename_i hc
  rcases hc with hc | hc
  ·exfalso
   rw [blank_len,blank_kind] at hc
   have k:1<=Builtin.Str.strKind (Builtin.Str.glued blankS ws):=by unfold Builtin.Str.strKind;split;omega;split<;>omega
   simp only [Bool.or_eq_true,decide_eq_true_eq] at hc
   omega
  ·rw [List.isEmpty_iff.mp hc] at key
   refine Eq.trans ?_ key
   show [_]=[Builtin.Str.strSub _ 0 _]
   congr 1
   unfold Builtin.Str.strSub
   have:∀ x:Str,x=⟨x.cps.extract 0 x.length⟩:=fun x=>by
    have e:x.cps.extract 0 x.cps.size=x.cps:=by simp
    show x=⟨x.cps.extract 0 x.cps.size⟩
    rw [e]
   exact this _
 ·rw [blank_len];exact key
theorem split_row {es:List Ev} (h0:es ≠ []) (h:∀ e∈es,e.Sm):splitS (rowT es) blankS=es.map Ev.w:=split_glued (by simpa using h0) (by
 intro w hw
 obtain ⟨e,he,rfl⟩:=List.mem_map.mp hw
 exact (lE (h e he)).1) (rowT_pos h0)
theorem f_split {x:Str} {ws:List Str} (e:splitS x blankS=ws) (h:x.length<=1000) (h2:ws.length<=1000):fSplit [.str x,.str (Str.ofString " ")]=some (.lst (ws.map .str)):=by
 have z:1000<=sizeLine:=by decide
 show (if blankS.length=1/\x.length<=sizeLine/\(splitS x blankS).length<=sizeLine then some (D.lst ((splitS x blankS).map .str)) else none)=_
 rw [e,if_pos ⟨blank_len,by omega,by omega⟩]
theorem ne_empty {x:Str} (h:1<=x.length):(x==Str.ofString "")=false:=by
 rw [beq_eq_false_iff_ne]
 intro e
 rw [e] at h
 have:(Str.ofString "").length=0:=by decide +kernel
 omega
theorem pM {es:List Ev} (h:∀ e∈es,e.Sm) (hl:es.length<=20):bZ [.str (rowT es)]=some (.tup (es.map Ev.d)):=by
 cases es with
 | nil=>rfl
 | cons e0 es0 =>
  have h0:e0::es0 ≠ []:=by simp
  generalize e0::es0=es at *
  have hp:=rowT_pos h0
  have hlen:=rowT_len h hl
  have hs:=f_split (split_row h0 h) (by omega) (by simp;omega)
  have hi:inSeq (callD fSplit (argC (vAt 0) (argC (fun _=>some (.str (Str.ofString " "))) argN))) [some (.str (rowT es))]=some ((es.map Ev.w).map .str):=by
   show ((fSplit [.str (rowT es),.str (Str.ofString " ")]).bind _)=_
   rw [hs];rfl
  have hc:compD (setAt 0) yesT (callD bg (argC (vAt 0) argN)) ((es.map Ev.w).map .str) (List.replicate 1 none++[some (.str (rowT es))])=some (es.map Ev.d):=by
   rw [List.map_map]
   exact me _ _ fun e he=>⟨_,rfl,callS rfl (mF (h e he))⟩
  refine viaS ((seqN ((ifF (cmS rfl rfl (congrArg some (ne_empty hp)))).trans rfl)).trans (retS (callS (arS (lcR hi (by simp;omega) hc) rfl) rfl)))
theorem strsD_map:∀ ws:List Str,strsD (ws.map .str)=some ws
 | []=>rfl
 | w::ws=>by
  show ((some w).bind fun x=>(strsD (ws.map .str)).map fun xs=>x::xs)=_
  rw [strsD_map ws];rfl
theorem join_ok {ws:List Str} (h:ws.length<=30) (hw:∀ w∈ws,w.length<=1000):fJoin [.str (Str.ofString " "),.lst (ws.map .str)]=some (.str (Builtin.Str.glued blankS ws)):=by
 have z:100000<=sizeLine:=by decide
 have f:∀ (ws:List Str) (acc:Nat),(∀ w∈ws,w.length<=1000)->ws.foldl (fun n x=>n+x.length+blankS.length) acc<=acc+ws.length*1001:=by
  intro ws
  induction ws with
  | nil=>intro acc _;simp
  | cons w ws ih =>
   intro acc hw
   have a:=ih (acc+w.length+blankS.length) fun x hx=>hw x (List.mem_cons_of_mem _ hx)
   have b:=hw w List.mem_cons_self
   rw [blank_len] at a
   rw [List.foldl_cons,blank_len,List.length_cons]
   omega
 have g:∀ ws:List Str,(∀ w∈ws,w.length<=1000)->(ws.map (·.length)).sum<=ws.length*1000:=by
  intro ws
  induction ws with
  | nil=>intro _;simp
  | cons w ws ih =>
   intro hw
   have a:=ih fun x hx=>hw x (List.mem_cons_of_mem _ hx)
   have b:=hw w List.mem_cons_self
   simp at a ⊢
   omega
 show ((strsD (ws.map .str)).bind fun xs=>(joinS blankS xs).map D.str)=_
 rw [strsD_map]
 show (joinS blankS ws).map D.str=_
 unfold joinS
 rw [if_pos]
 ·rfl
 ·constructor
  ·have:=f ws 0 hw
   rw [List.foldl_toArray]
   omega
  ·rw [PySem.size_glued,blank_len]
   have:=g ws hw
   omega
theorem pO {es:List Ev} (h:∀ e∈es,e.Sm) (hl:es.length<=20):bT [.tup (es.map Ev.d)]=some (.str (rowT es)):=by
 have hc:compD (setAt 0) yesT (callD bD (argC (vAt 0) argN)) (es.map Ev.d) (List.replicate 1 none++[some (.tup (es.map Ev.d))])=some ((es.map Ev.w).map .str):=by
  rw [List.map_map]
  exact me _ _ fun e he=>⟨_,rfl,callS rfl (mH (h e he))⟩
 exact viaS (retS (callS (arS rfl (arS (lcR rfl (by simp;omega) hc) rfl)) (join_ok (by simp;omega) (by
  intro w hw
  obtain ⟨e,he,rfl⟩:=List.mem_map.mp hw
  have:=(lE (h e he)).2
  omega))))
abbrev Stp:=Ev×WS×Int
def stp (x:Stp):D:=stepD x.2.1 x.1 x.2.2
def rowL (P:List Stp):List D:=P.map fun x=>x.1.d
def Wp (C a l:Nat) (b:Bk) (s:WS) (r:Int) (P:List Stp):D:=Wo C a l b s r (P.map stp)
theorem nobP (P:List Stp):nobs (P.map stp)=true:=bC (fun x=>gU _ _ _) P
theorem snocP (P:List Stp) (x:Stp):P.map stp++[stepD x.2.1 x.1 x.2.2]=(P++[x]).map stp:=by rw [List.map_append];rfl
section
variable {C a l:Nat} {b:Bk} {s:WS} {r:Int} {P:List Stp} {ρ:R} {F:R->Option D} {d:D}
theorem thawW (hb:nobBut 0 (some (Wp C a l b s r P)::ρ)=true) (hF:F (some (.obj (C+2) a [Str.ofString "book",Str.ofString "present",Str.ofString "rung",Str.ofString "past"] [b.d,s.d,.int r,.fro (P.map stp)])::ρ)=some d) (hd:nof d=true):thawD 0 C (Str.ofString "past") F (some (Wp C a l b s r P)::ρ)=some d:=by
 show (if _ then _ else none)=_
 rw [if_pos ⟨rfl,hb,nobP P,by show (nob b.d&&(nob s.d&&(true&&(true&&true))))=true;rw [fc,dA];rfl⟩]
 show (F (some (.obj (C+2) a [Str.ofString "book",Str.ofString "present",Str.ofString "rung",Str.ofString "past"] [b.d,s.d,.int r,.fro (P.map stp)])::ρ)).bind _=_
 rw [hF,Option.bind_some,if_pos hd]
theorem wPast {q:List D}:fldD C (Str.ofString "past") (.obj (C+2) a [Str.ofString "book",Str.ofString "present",Str.ofString "rung",Str.ofString "past"] [b.d,s.d,.int r,.fro q])=some (.fro q):=by show (if C+2=C+2 then _ else none)=_;rw [if_pos rfl];rfl
end
theorem nof_ev (e:Ev):nof e.d=true:=by cases e<;>rfl
theorem nof_row:∀ P:List Stp,nofs (rowL P)=true
 | []=>rfl
 | x::P=>by show (nof x.1.d&&nofs (rowL P))=true;rw [nof_ev,nof_row P];rfl
theorem nB (ρ:R):∀ P:List Stp,compD (setAt 0) yesT (op2 dIx (vAt 0) (fun _=>some (.int 0))) (P.map stp) (none::ρ)=some (rowL P)
 | []=>rfl
 | x::P=>compC rfl (opS rfl rfl rfl) (nB ρ P)
section
variable {C a l:Nat} {b:Bk} {s:WS} {r:Int} {P:List Stp}
theorem row65 (hP:P.length<=1000):bi C [Wp C a l b s r P]=some (.tup (rowL P)):=by
 have z:1000<=sizeLine:=by decide
 have hl:lcD 1 (inFro (op1 (fldD C (Str.ofString "past")) (vAt 0))) (setAt 0) yesT (op2 dIx (vAt 0) (fun _=>some (.int 0))) [some (.obj (C+2) a [Str.ofString "book",Str.ofString "present",Str.ofString "rung",Str.ofString "past"] [b.d,s.d,.int r,.fro (P.map stp)])]=some (.lst (rowL P)):=by
  have q:inFro (op1 (fldD C (Str.ofString "past")) (vAt 0)) [some (.obj (C+2) a [Str.ofString "book",Str.ofString "present",Str.ofString "rung",Str.ofString "past"] [b.d,s.d,.int r,.fro (P.map stp)])]=some (P.map stp):=by
   show (op1 _ _ _).bind _=_
   rw [o1S rfl wPast];rfl
  unfold lcD
  rw [q,Option.bind_some,if_pos (by rw [List.length_map];omega)]
  exact congrArg (Option.map D.lst) (nB _ P)
 exact viaS (retS (callS (arS (thawW (ρ:=[]) rfl hl (nof_row P)) rfl) rfl))
theorem shown65 (w:s.Wk b) (hl:s.lm<1000000000000000000):bb C [Wp C a l b s r P]=some (sightD b s):=viaS (retS (callS (arS (o1S rfl wBook) (arS (o1S rfl wPres) rfl)) (qh w hl)))
theorem rang65:bJ C [Wp C a l b s r P]=some (.int r):=viaS (retS (o1S rfl wRung))
theorem state65:be C [Wp C a l b s r P]=some s.d:=viaS (retS (o1S rfl wPres))
def askD (b:Bk) (s:WS) (r:Int) (P:List Stp):D:=.tup [s.d,sightD b s,.int r,.tup (rowL P)]
theorem metW {m:Str} {G:List D->Option D} {ρ:R} {i:Nat} {d:D} (hm:[Str.ofString "book",Str.ofString "present",Str.ofString "rung",Str.ofString "past"].contains m=false) (h:vAt i ρ=some (Wp C a l b s r P)) (hG:G [Wp C a l b s r P]=some d):metD C m G (vAt i) argN ρ=some d:=by
 show (vAt i ρ).bind _=_
 rw [h,Option.bind_some]
 show (if C+2=C+2/\_ then G [Wp C a l b s r P] else none)=_
 rw [if_pos ⟨rfl,hm⟩,hG]
theorem ask65 (w:s.Wk b) (hl:s.lm<1000000000000000000) (hP:P.length<=1000):aI C [Wp C a l b s r P]=some (askD b s r P) :=
 viaS (retS (tupS (arS (metW (by decide +kernel) rfl state65) (arS (metW (by decide +kernel) rfl (shown65 w hl)) (arS (metW (by decide +kernel) rfl rang65) (arS (metW (by decide +kernel) rfl (row65 hP)) rfl))))))
theorem undo65 (x:Stp):bN C [Wp C a l b s r (P++[x])]=some (.non,Wp C a l b x.2.1 x.2.2 P):=by
 have hn:=nobP (P++[x])
 have ln:thawD 0 C (Str.ofString "past") (callD fLen (argC (op1 (fldD C (Str.ofString "past")) (vAt 0)) argN)) [some (Wp C a l b s r (P++[x])),none]=some (.int (((P++[x]).map stp).length:Int)):=thawW (ρ:=[none]) rfl (callS (arS (o1S rfl wPast) rfl) rfl) rfl
 have s1:mIf (cmp2 cEq (thawD 0 C (Str.ofString "past") (callD fLen (argC (op1 (fldD C (Str.ofString "past")) (vAt 0)) argN))) (fun _=>some (.int 0))) (fun _ _=>none) mNext [a,l] [some (Wp C a l b s r (P++[x])),none]=some (.nx [some (Wp C a l b s r (P++[x])),none]):=by
  show (cmp2 cEq _ _ _).bind _=_
  rw [cmS (b:=false) ln rfl (by show some ((((P++[x]).map stp).length:Int)==0)=some false;rw [beq_eq_false_iff_ne.mpr (by simp;omega)])];rfl
 have s2:mPop 1 0 C (Str.ofString "past") [a,l] [some (Wp C a l b s r (P++[x])),none]=some (.nx [some (Wp C a l b s r P),some (stp x)]):=by
  have e1:((P++[x]).map stp).getLast?=some (stp x):=by simp
  have e2:((P++[x]).map stp).dropLast=P.map stp:=by simp
  show (match ((P++[x]).map stp).getLast? with | some d=>(if _ then _ else none) | none=>none)=_
  rw [e1]
  show (if _ then some (MO.nx [some (Wo C a l b s r ((P++[x]).map stp).dropLast),some (stp x)]) else none)=_
  rw [if_pos ⟨rfl,by decide,by show 1<2;decide,rfl,wS,hn,by show (nob b.d&&(nob s.d&&(true&&(true&&true))))=true;rw [fc,dA];rfl,by simp⟩,e2];rfl
 have nb:∀ ob:D,nobBut 0 [some ob,some (stp x)]=true:=fun ob=>by
  show (true&&(nob (stp x)&&true))=true
  rw [show nob (stp x)=true from gU _ _ _];rfl
 have s3:=sPres (C:=C) (a:=a) (l:=l) (b:=b) (s:=s) (s':=x.2.1) (r:=r) (p:=P.map stp) (ρ:=[some (stp x)]) (f:=op2 dIx (vAt 1) (fun _=>some (.int 1))) (nobP P) (nb _) (opS rfl rfl rfl)
 have s4:=sRung (C:=C) (a:=a) (l:=l) (b:=b) (s:=x.2.1) (r:=r) (r':=x.2.2) (p:=P.map stp) (ρ:=[some (stp x)]) (f:=op2 dIx (vAt 1) (fun _=>some (.int 2))) (nobP P) (nb _) (opS rfl rfl rfl)
 have g:eg C [a,l] [some (Wp C a l b s r (P++[x])),none]=some (.nx [some (Wp C a l b x.2.1 x.2.2 P),some (stp x)]):=by
  show (mIf _ _ _ [a,l] _).bind _=_
  rw [s1,Option.bind_some]
  show (mPop _ _ _ _ [a,l] _).bind _=_
  rw [s2,Option.bind_some]
  show (mFld _ _ _ _ [a,l] _).bind _=_
  rw [show mFld 0 C (Str.ofString "present") (op2 dIx (vAt 1) (fun _=>some (.int 1))) [a,l] [some (Wp C a l b s r P),some (stp x)]=_ from s3,Option.bind_some]
  exact s4
 show (eg C [a,l] [some (Wp C a l b s r (P++[x])),none]).bind _=_
 rw [g,Option.bind_some]
 exact if_pos ⟨rfl,rfl⟩
end
theorem forM_inv {st:D->R->Option R} {u:MU} {S:List Nat} (I:Nat->R->Prop):∀ (ds:List D) (k:Nat) (ρ0:R),I k ρ0->(∀ i d ρ,ds[i]?=some d->I (k+i) ρ->∃ ρ1 ρ2,st d ρ=some ρ1/\u S ρ1=some (.nx ρ2)/\I (k+i+1) ρ2) ->
  ∃ ρ',forM st u S ds ρ0=some (.nx ρ')/\I (k+ds.length) ρ'
 | [],k,ρ0,h0,_=>⟨ρ0,rfl,h0⟩
 | d::ds,k,ρ0,h0,hs=>by
  obtain ⟨ρ1,ρ2,e1,e2,h2⟩:=hs 0 d ρ0 rfl h0
  obtain ⟨ρ',e,h⟩:=forM_inv I ds (k+1) ρ2 h2 fun i d' ρ hd hI=>by
   have:=hs (i+1) d' ρ hd (by rw [show k+(i+1)=k+1+i by omega];exact hI)
   rw [show k+(i+1)+1=k+1+i+1 by omega] at this
   exact this
  refine ⟨ρ',?_,by rw [List.length_cons,show k+(ds.length+1)=k+1+ds.length by omega];exact h⟩
  show (st d ρ0).bind _=_
  rw [e1,Option.bind_some]
  show (u S ρ1).bind _=_
  rw [e2,Option.bind_some]
  exact e
theorem sep_nob {A:List Nat} {o:Option D} (h:nobO o=true):sepO A o=true:=by
 cases o with
 | none=>rfl
 | some d=>cases d<;>first | exact h | cases h
theorem sep_Wp {A:List Nat} {C a l:Nat} {b:Bk} {s:WS} {r:Int} {P:List Stp} (h1:a∉A) (h2:l∉A):sepO A (some (Wp C a l b s r P))=true:=by
 show ([a,l].all (fun x=>!A.contains x) && [b.d,s.d,.int r,.obj 0 l [] (P.map stp)].all okN)=true
 rw [wOk (nobP P),Bool.and_true]
 simp [h1,h2]
theorem t_ (s:WS):depD s.d<=5:=by
 have h:=nZ s.held
 simp [WS.d,WS.alarmD,WS.lapsD,WS.countD,depD,depDs,depDs_ints]
 omega
theorem uy (e:Ev):layD e.d=true:=by
 cases e with
 | ticks n=>show (layD (.str (Str.ofString "ticks"))&&(true&&true))=true;rw [show layD (.str (Str.ofString "ticks"))=true by rw [layD];decide +kernel];rfl
 | down x=>show (layD (.str (Str.ofString "down"))&&(layD (.str x.x)&&true))=true;rw [ji,show layD (.str (Str.ofString "down"))=true by rw [layD];decide +kernel];rfl
 | up x=>show (layD (.str (Str.ofString "up"))&&(layD (.str x.x)&&true))=true;rw [ji,show layD (.str (Str.ofString "up"))=true by rw [layD];decide +kernel];rfl
theorem lH:∀ P:List Stp,layDs (rowL P)=true
 | []=>rfl
 | x::P=>by show (layD x.1.d&&layDs (rowL P))=true;rw [uy,lH P];rfl
theorem qy:∀ P:List Stp,depDs (rowL P)<=1
 | []=>Nat.zero_le _
 | x::P=>by
  show max (depD x.1.d) (depDs (rowL P))<=1
  have h1:depD x.1.d<=1:=by cases x.1<;>exact Nat.le_refl 1
  have h2:=qy P
  omega
theorem ask_eq (b:Bk) (s:WS) (r:Int) (P:List Stp):cEqD (askD b s r P) (askD b s r P)=some true :=
 cEqD_refl (by show max (depD s.d) (max (depD (sightD b s)) (max 0 (max (depDs (rowL P)+1) 0)))+1<=100;have:=t_ s;have h2:depD (sightD b s)=1:=rfl;have:=qy P;omega) (by show (layD s.d&&(layD (sightD b s)&&(true&&(layDs (rowL P)&&true))))=true;rw [lP,iq,lH];rfl)
theorem tR (b:Bk) (s:WS) (r:Int) (P:List Stp):nob (askD b s r P)=true:=bS (by show (layD s.d&&(layD (sightD b s)&&(true&&(layDs (rowL P)&&true))))=true;rw [lP,iq,lH];rfl)
def rgE (b:Bk):WS->List Ev->Int
 | _,[]=>0
 | s,e::es=>rcE b s e+rgE b (gone b s e) es
def psE (b:Bk):WS->Int->List Ev->List Stp
 | _,_,[]=>[]
 | s,r,e::es=>(e,s,r)::psE b (gone b s e) (r+rcE b s e) es
def We (C a l:Nat) (b:Bk) (es:List Ev):D:=Wp C a l b (afterE b begun0 es) (rgE b begun0 es) (psE b begun0 0 es)
def askE (b:Bk) (es:List Ev):D:=askD b (afterE b begun0 es) (rgE b begun0 es) (psE b begun0 0 es)
theorem after_snoc (b:Bk) (s:WS) (es:List Ev) (e:Ev):afterE b s (es++[e])=gone b (afterE b s es) e:=after_app b s es [e]
theorem rgE_snoc (b:Bk) (e:Ev):∀ (es:List Ev) (s:WS),rgE b s (es++[e])=rgE b s es+rcE b (afterE b s es) e
 | [],s=>by show rcE b s e+0=0+rcE b s e;omega
 | x::es,s=>by
  show rcE b s x+rgE b (gone b s x) (es++[e])=rcE b s x+rgE b (gone b s x) es+rcE b (afterE b (gone b s x) es) e
  rw [rgE_snoc b e es];omega
theorem psE_snoc (b:Bk) (e:Ev):∀ (es:List Ev) (s:WS) (r:Int),psE b s r (es++[e])=psE b s r es++[(e,afterE b s es,r+rgE b s es)]
 | [],s,r=>by show [(e,s,r)]=[(e,s,r+0)];rw [Int.add_zero]
 | x::es,s,r=>by
  show (x,s,r)::psE b (gone b s x) (r+rcE b s x) (es++[e])=(x,s,r)::(psE b (gone b s x) (r+rcE b s x) es++[(e,afterE b (gone b s x) es,r+(rcE b s x+rgE b (gone b s x) es))])
  rw [psE_snoc b e es,Int.add_assoc]
theorem psE_row (b:Bk):∀ (es:List Ev) (s:WS) (r:Int),rowL (psE b s r es)=es.map Ev.d
 | [],_,_=>rfl
 | e::es,s,r=>congrArg (e.d::·) (psE_row b es _ _)
theorem psE_len (b:Bk) (es:List Ev) (s:WS) (r:Int):(psE b s r es).length=es.length:=by
 have:=congrArg List.length (psE_row b es s r)
 rw [List.length_map,show (rowL (psE b s r es)).length=(psE b s r es).length from List.length_map ..] at this
 exact this
theorem lt_T {e:Ev} (h:e.Lt):evT e<=130:=by
 cases e with
 | ticks n=>exact h.2
 | _=>show (0:Int)<=130;decide
theorem fit61 {e:Ev} (h:e.Lt):evFit0 e:=by
 cases e with
 | ticks n=>exact ⟨h.1,by have:n<=130:=h.2;omega⟩
 | _=>trivial
theorem sm61 {e:Ev} (h:e.Lt):e.Sm:=by
 cases e with
 | ticks n=>exact ⟨h.1,h.2⟩
 | _=>trivial
theorem after_lm {b:Bk} (ok:b.Ok):∀ (es:List Ev) (s:WS),s.Ok b->(∀ e∈es,e.Lt)->(afterE b s es).lm<=s.lm+130*es.length
 | [],s,_,_=>by show s.lm<=s.lm+130*0;omega
 | e::es,s,w,h=>by
  have he:=h e (.head _)
  have ih:=after_lm ok es (gone b s e) (gone_ok ok w e he.1) fun x hx=>h x (.tail _ hx)
  have:=gone_lm w.toWk e he.1
  have:=lt_T he
  rw [List.length_cons]
  show (afterE b (gone b s e) es).lm<=_
  omega
theorem sum_lt:∀ es:List Ev,(∀ e∈es,e.Lt)->sumT es<=130*es.length
 | [],_=>Int.le_refl _
 | e::es,h=>by
  have ih:=sum_lt es fun x hx=>h x (.tail _ hx)
  have:=lt_T (h e (.head _))
  show evT e+sumT es<=_
  rw [List.length_cons];omega
def Few (es:List Ev):Prop:=(∀ e∈es,e.Lt)/\es.length<=100
theorem Few.cat {es fs:List Ev} (h1:∀ e∈es,e.Lt) (h2:∀ e∈fs,e.Lt) (h:es.length+fs.length<=100):Few (es++fs) :=
 ⟨fun e he=>(List.mem_append.mp he).elim (h1 e) (h2 e),by rw [List.length_append];exact h⟩
section
variable {C a l:Nat} {b:Bk} {es:List Ev}
theorem sd (ok:b.Ok) (h:Few es):(afterE b begun0 es).Ok b:=after_ok ok (begun_ok ok) fun e he=>(h.1 e he).1
theorem lm_af (ok:b.Ok) (h:Few es):(afterE b begun0 es).lm<1000000000000000000:=by
 have h1:=after_lm ok es begun0 (begun_ok ok) h.1
 have h2:=h.2
 have h3:begun0.lm=0:=rfl
 omega
theorem doE (ok:b.Ok) (h:Few es) {e:Ev} (he:e.Lt):cg C [We C a l b es,e.d]=some (.non,We C a l b (es++[e])):=by
 have q:=do33 (C:=C) (a:=a) (l:=l) (r:=rgE b begun0 es) (p:=(psE b begun0 0 es).map stp) ok (sd ok h).toWk e (fit61 he) (by rw [List.length_map,psE_len];have:=h.2;omega) (nobP _)
 unfold We
 rw [psE_snoc,rgE_snoc,after_snoc,Int.zero_add]
 unfold Wp
 rw [<- snocP]
 exact q
theorem undoE {e:Ev}:bN C [We C a l b (es++[e])]=some (.non,We C a l b es):=by
 have q:=undo65 (C:=C) (a:=a) (l:=l) (b:=b) (s:=afterE b begun0 (es++[e])) (r:=rgE b begun0 (es++[e])) (P:=psE b begun0 0 es) (e,afterE b begun0 es,0+rgE b begun0 es)
 rw [<- psE_snoc] at q
 have z:(0:Int)+rgE b begun0 es=rgE b begun0 es:=Int.zero_add _
 rw [z] at q
 exact q
theorem askW (ok:b.Ok) (h:Few es):aI C [We C a l b es]=some (askE b es):=ask65 (sd ok h).toWk (lm_af ok h) (by rw [psE_len];have:=h.2;omega)
theorem rowW (h:Few es):bi C [We C a l b es]=some (.tup (es.map Ev.d)):=by
 have q:=row65 (C:=C) (a:=a) (l:=l) (b:=b) (s:=afterE b begun0 es) (r:=rgE b begun0 es) (P:=psE b begun0 0 es) (by rw [psE_len];have:=h.2;omega)
 rw [psE_row] at q
 exact q
theorem sep_We {A:List Nat} (h1:a∉A) (h2:l∉A):sepO A (some (We C a l b es))=true:=sep_Wp h1 h2
end
theorem ask_ne (b:Bk) (es:List Ev):cNeD (askE b es) (askE b es)=some false:=by
 have h:=ask_eq b (afterE b begun0 es) (rgE b begun0 es) (psE b begun0 0 es)
 show (cEqD _ _).map _=_
 rw [show cEqD (askE b es) (askE b es)=some true from h];rfl
theorem tf (b:Bk) (es:List Ev):nob (askE b es)=true:=tR _ _ _ _
abbrev E61 (Sc:D) (b:Bk) (rw:D) (w3 w4 o5 o6 o7 o8 o9 o10:Option D):R:=[some Sc,some b.d,some rw,w3,w4,o5,o6,o7,o8,o9,o10]
section
variable {C:Nat} {S A:List Nat} {Sc rw:D} {b:Bk} {w3 w4 o5 o6 o7 o8 o9 o10:Option D}
theorem sepR {i:Nat} {ρ:R} (h:∀ x∈ρ.set i none,sepO A x=true):sepBut i A ρ=true:=List.all_eq_true.mpr h
theorem sep3 (hS:nob Sc=true) (hr:nob rw=true) (h4:sepO A w4=true) (h:[o5,o6,o7,o8,o9].all nobO=true) (h10:sepO A o10=true):sepBut 3 A (E61 Sc b rw w3 w4 o5 o6 o7 o8 o9 o10)=true:=by
 refine sepR fun x hx=>?_
 have hx':x=some Sc\/x=some b.d\/x=some rw\/x=none\/x=w4\/x ∈ [o5,o6,o7,o8,o9]\/x=o10:=by simpa [E61,or_assoc] using hx
 rcases hx' with rfl | rfl | rfl | rfl | rfl | hx | rfl
 ·exact sep_nob hS
 ·exact sep_nob (o:=some b.d) (fc b)
 ·exact sep_nob hr
 ·rfl
 ·exact h4
 ·exact sep_nob (List.all_eq_true.mp h x hx)
 ·exact h10
theorem sep4 (hS:nob Sc=true) (hr:nob rw=true) (h3:sepO A w3=true) (h:[o5,o6,o7,o8,o9].all nobO=true) (h10:sepO A o10=true):sepBut 4 A (E61 Sc b rw w3 w4 o5 o6 o7 o8 o9 o10)=true:=by
 refine sepR fun x hx=>?_
 have hx':x=some Sc\/x=some b.d\/x=some rw\/x=w3\/x=none\/x ∈ [o5,o6,o7,o8,o9]\/x=o10:=by simpa [E61,or_assoc] using hx
 rcases hx' with rfl | rfl | rfl | rfl | rfl | hx | rfl
 ·exact sep_nob hS
 ·exact sep_nob (o:=some b.d) (fc b)
 ·exact sep_nob hr
 ·exact h3
 ·rfl
 ·exact sep_nob (List.all_eq_true.mp h x hx)
 ·exact h10
theorem sep10 (hS:nob Sc=true) (hr:nob rw=true) (h3:sepO A w3=true) (h4:sepO A w4=true) (h:[o5,o6,o7,o8,o9].all nobO=true):sepBut 10 A (E61 Sc b rw w3 w4 o5 o6 o7 o8 o9 o10)=true:=by
 refine sepR fun x hx=>?_
 have hx':x=some Sc\/x=some b.d\/x=some rw\/x=w3\/x=w4\/x ∈ [o5,o6,o7,o8,o9]\/x=none:=by simpa [E61,or_assoc] using hx
 rcases hx' with rfl | rfl | rfl | rfl | rfl | hx | rfl
 ·exact sep_nob hS
 ·exact sep_nob (o:=some b.d) (fc b)
 ·exact sep_nob hr
 ·exact h3
 ·exact h4
 ·exact sep_nob (List.all_eq_true.mp h x hx)
 ·rfl
end
theorem calE {i a l C:Nat} {b:Bk} {es:List Ev} {G:List D->Option (D×D)} {F:R->Option (List D)} {S:List Nat} {ρ:R} {d ob':D} {ds:List D} (h1:vAt i ρ=some (We C a l b es)) (h2:F ρ=some ds) (h3:G ds=some (d,ob')) (h5:sepBut i [a,l] ρ=true) (h6:inS S [a,l]=true):mExpr (mCal2 i G F) S ρ=some (.nx (ρ.set i (some ob'))):=by
 have q:mCal2 i G F S ρ=some (d,ρ.set i (some ob')):=by
  unfold mCal2
  rw [h1,Option.bind_some,h2,Option.bind_some,h3,Option.bind_some]
  exact if_pos ⟨rfl,h5,h6⟩
 show (mCal2 _ _ _ _ _).map _=_
 rw [q];rfl
theorem metE {i a l C:Nat} {b:Bk} {es:List Ev} {m:Str} {G:List D->Option (D×D)} {F:R->Option (List D)} {S:List Nat} {ρ:R} {d ob':D} {ds:List D} (h1:vAt i ρ=some (We C a l b es)) (h2:F ρ=some ds) (h3:G (We C a l b es::ds)=some (d,ob')) (hm:[Str.ofString "book",Str.ofString "present",Str.ofString "rung",Str.ofString "past"].contains m=false) (h5:sepBut i [a,l] ρ=true) (h6:inS S [a,l]=true):mExpr (mMet2 i C m G F) S ρ=some (.nx (ρ.set i (some ob'))):=by
 have q:mMet2 i C m G F S ρ=some (d,ρ.set i (some ob')):=by
  unfold mMet2
  rw [h1,Option.bind_some,h2,Option.bind_some,h3,Option.bind_some]
  exact if_pos ⟨rfl,hm,h5,h6⟩
 show (mMet2 _ _ _ _ _ _ _).map _=_
 rw [q];rfl
theorem mN {u w:MU} {S:List Nat} {ρ ρ':R} (h:u S ρ=some (.nx ρ')):mSeq u w S ρ=w S ρ':=by show (u S ρ).bind _=_;rw [h];rfl
theorem mP {p:R->Option Out} {S:List Nat} {ρ ρ':R} (h:p ρ=some (.nx ρ')):mPure p S ρ=some (.nx ρ'):=by show (p ρ).bind _=_;rw [h];rfl
theorem mPr {p:R->Option Out} {S:List Nat} {ρ:R} {d:D} (h:p ρ=some (.rt d)):mPure p S ρ=some (.rt d ρ):=by show (p ρ).bind _=_;rw [h];rfl
theorem mForS {it:R->Option (List D)} {stp:D->R->Option R} {u:MU} {S:List Nat} {ρ:R} {ds:List D} (h1:it ρ=some ds) (h2:nobs ds=true):mFor it stp u S ρ=forM stp u S ds ρ:=by
 unfold mFor
 rw [h1,Option.bind_some,if_pos h2]
theorem forM_go {stp:D->R->Option R} {u:MU} {S:List Nat} {d:D} {ds:List D} {ρ ρ1 ρ2:R} (h1:stp d ρ=some ρ1) (h2:u S ρ1=some (.nx ρ2)):forM stp u S (d::ds) ρ=forM stp u S ds ρ2:=by
 show (stp d ρ).bind _=_
 rw [h1,Option.bind_some]
 show (u S ρ1).bind _=_
 rw [h2];rfl
section
variable {C a l:Nat} {b:Bk} {j:Nat} {u:MU} {S:List Nat} {T:Option D->Option D->R}
theorem loopDo (hset:∀ W x d,setAt j d (T W x)=some (T W (some d))) (ht:∀ (es:List Ev) (e:Ev),Few es->e.Lt->u S (T (some (We C a l b es)) (some e.d))=some (.nx (T (some (We C a l b (es++[e]))) (some e.d)))) :
  ∀ (xs es:List Ev) (x:Option D),(∀ e∈xs,e.Lt)->(∀ e∈es,e.Lt)->es.length+xs.length<=100->nobO x=true->∃ x',nobO x'=true/\forM (setAt j) u S (xs.map Ev.d) (T (some (We C a l b es)) x)=some (.nx (T (some (We C a l b (es++xs))) x'))
 | [],es,x,_,_,_,hx=>⟨x,hx,by rw [List.append_nil];rfl⟩
 | e::xs,es,x,h1,h2,hl,_=>by
  rw [List.length_cons] at hl
  have he:=h1 e (.head _)
  obtain ⟨x',hx',ih⟩:=loopDo hset ht xs (es++[e]) (some e.d) (fun y hy=>h1 y (.tail _ hy)) (Few.cat h2 (fun y hy=>by rw [List.mem_singleton.mp hy];exact he) (by show es.length+1<=100;omega)).1 (by rw [List.length_append];show es.length+1+_<=100;omega) (bR e)
  refine ⟨x',hx',(forM_go (hset _ _ _) (ht es e ⟨h2,by omega⟩ he)).trans (ih.trans ?_)⟩
  rw [List.append_assoc];rfl
theorem loopUn (hset:∀ W x d,setAt j d (T W x)=some (T W (some d))) (ht:∀ (es:List Ev) (e:Ev) (d:D),nob d=true->u S (T (some (We C a l b (es++[e]))) (some d))=some (.nx (T (some (We C a l b es)) (some d)))) (es:List Ev) :
  ∀ (ds:List D) (xs:List Ev) (x:Option D),ds.length=xs.length->nobs ds=true->nobO x=true->∃ x',nobO x'=true/\forM (setAt j) u S ds (T (some (We C a l b (es++xs))) x)=some (.nx (T (some (We C a l b es)) x'))
 | [],xs,x,hl,_,hx=>⟨x,hx,by rw [List.length_eq_zero_iff.mp hl.symm,List.append_nil];rfl⟩
 | d::ds,xs,x,hl,hn,_=>by
  have hn':(nob d&&nobs ds)=true:=hn
  rw [Bool.and_eq_true] at hn'
  rcases List.eq_nil_or_concat xs with rfl | ⟨ys,y,rfl⟩
  ·cases hl
  ·rw [List.concat_eq_append] at hl ⊢
   obtain ⟨x',hx',ih⟩:=loopUn hset ht es ds ys (some d) (by rw [List.length_append,List.length_cons] at hl;simp at hl;omega) hn'.2 hn'.1
   refine ⟨x',hx',?_⟩
   rw [<- List.append_assoc]
   exact (forM_go (hset _ _ _) (ht (es++ys) y d hn'.1)).trans ih
end
theorem sights_snoc (b:Bk) (e:Ev):∀ (es:List Ev) (s:WS),sights b s (es++[e])=sights b s es++[sightD b (afterE b s (es++[e]))]
 | [],_=>rfl
 | x::es,s=>congrArg (sightD b (gone b s x)::·) (sights_snoc b e es (gone b s x))
theorem ix_last (xs:List D) (x:D):dIx (.tup (xs++[x])) (.int (-1))=some x:=by
 show atD (xs++[x]) (-1)=_
 unfold atD ixD
 rw [if_neg (by decide),if_pos (by simp;omega),Option.bind_some,show (-1+((xs++[x]).length:Int)).toNat=xs.length by simp;omega]
 simp
theorem sl_front {xs:List D} {k:Nat} (h:k<=xs.length):dSl (.tup xs) none (some (k:Int))=some (.tup (xs.take k)):=by
 show some (D.tup (cutD xs none (some (k:Int))))=_
 unfold cutD cutP
 dsimp only
 rw [if_neg (by omega),Int.toNat_natCast,Nat.min_eq_left h];rfl
theorem sight_ne (b:Bk) (s:WS):cNeD (sightD b s) (sightD b s)=some false:=cNeD_refl (by show 1<=100;decide) (iq b s)
section
variable {C a l a' l':Nat} {S:List Nat} {Sc:D} {b:Bk}
theorem turn61 {evs:List Ev} {k:Nat} {e:Ev} {o7 o8 o9:Option D} (ok:b.Ok) (hS:nob Sc=true) (hmix:∀ i:Int,0<=i->∃ m,aM [Sc,.int i]=some (.int m)/\0<=m) (hev:∀ x∈evs,x.Lt) (hl:evs.length<=16) (hk:evs[k]?=some e) (i3:inS S [a,l]=true) (i4:inS S [a',l']=true) (n1:a ∉ [a',l']) (n2:l ∉ [a',l']) (n3:a' ∉ [a,l]) (n4:l' ∉ [a,l]) (h7:nobO o7=true) (h8:nobO o8=true) (h9:nobO o9=true) :
  ∃ p7 p8 p9,[p7,p8,p9].all nobO=true/\jR C S (E61 Sc b (.tup (evs.map Ev.d)) (some (We C a l b (evs.take k))) (some (We C a' l' b (evs.take k))) (some (.int k)) (some e.d) o7 o8 o9 none)=some (.nx (E61 Sc b (.tup (evs.map Ev.d)) (some (We C a l b (evs.take (k+1)))) (some (We C a' l' b (evs.take (k+1)))) (some (.int k)) (some e.d) p7 p8 p9 none)):=by
 obtain ⟨hkl,hke⟩:=List.getElem?_eq_some_iff.mp hk
 have htk:evs.take (k+1)=evs.take k++[e]:=by rw [List.take_add_one,hk];rfl
 have he:e.Lt:=hev e (by rw [<- hke];exact List.getElem_mem hkl)
 have hr:nob (.tup (evs.map Ev.d))=true:=bC bR evs
 have htl:∀ x∈evs.take k,x.Lt:=fun x hx=>hev x (List.mem_of_mem_take hx)
 have hlk:(evs.take k).length=k:=by rw [List.length_take];omega
 have hseen:evs.take k++[e]=evs.take (k+1):=htk.symm
 rw [htk]
 generalize hes:evs.take k=es at *
 generalize hrw:D.tup (evs.map Ev.d)=rw_ at *
 have fe:Few es:=⟨htl,by omega⟩
 have fe2:Few (es++[e]):=Few.cat htl (fun y hy=>by rw [List.mem_singleton.mp hy];exact he) (by show es.length+1<=100;omega)
 obtain ⟨m,em,_⟩:=hmix (2+k) (by omega)
 obtain ⟨xs,er,hxs,hxl⟩:=nw m 2 (by decide) (by decide)
 have hxl2:xs.length<=2:=hxl
 have s1:mq_law_5_1 C S (E61 Sc b rw_ (some (We C a l b es)) (some (We C a' l' b es)) (some (.int k)) (some e.d) o7 o8 o9 none)=some (.nx (E61 Sc b rw_ (some (We C a l b es)) (some (We C a' l' b es)) (some (.int k)) (some e.d) (some (.tup (xs.map Ev.d))) o8 o9 none)):=mP (asgS (callS (arS (callS (arS rfl (arS (opS rfl rfl rfl) rfl)) em) (arS rfl rfl)) er) rfl)
 have hx7:nob (.tup (xs.map Ev.d))=true:=bC bR xs
 generalize hx:D.tup (xs.map Ev.d)=X at *
 have s2:mq_law_5_2 C S (E61 Sc b rw_ (some (We C a l b es)) (some (We C a' l' b es)) (some (.int k)) (some e.d) (some X) o8 o9 none)=some (.nx (E61 Sc b rw_ (some (We C a l b es)) (some (We C a' l' b es)) (some (.int k)) (some e.d) (some X) (some (askE b es)) o9 none)):=mP (asgS (callS rfl (askW ok fe)) rfl)
 have ha8:=tf b es
 generalize hA:askE b es=A at *
 have hnob:∀ x:Option D,nobO x=true->[some (.int (k:Int)),some e.d,some X,some A,x].all nobO=true:=fun x hx=>by
  show (true&&(nob e.d&&(nob X&&(nob A&&(nobO x&&true)))))=true
  rw [bR,hx7,ha8,hx];rfl
 obtain ⟨x3,g3,l3⟩:=loopDo (C:=C) (a:=a') (l:=l') (b:=b) (j:=9) (u:=iM C) (S:=S) (T:=fun W x=>E61 Sc b rw_ (some (We C a l b es)) W (some (.int k)) (some e.d) (some X) (some A) x none) (fun _ _ _=>rfl) (fun fs f hf hfl=>calE (d:=.non) (es:=fs) rfl rfl (doE ok hf hfl) (sep4 hS hr (sep_We n1 n2) (hnob _ (bR f)) rfl) i4) xs es o9 hxs htl (by omega) h9
 have s3:mq_law_5_3 C S (E61 Sc b rw_ (some (We C a l b es)) (some (We C a' l' b es)) (some (.int k)) (some e.d) (some X) (some A) o9 none)=some (.nx (E61 Sc b rw_ (some (We C a l b es)) (some (We C a' l' b (es++xs))) (some (.int k)) (some e.d) (some X) (some A) x3 none)):=(mForS (by rw [<- hx];rfl) (bC bR xs)).trans l3
 obtain ⟨x4,g4,l4⟩:=loopUn (C:=C) (a:=a') (l:=l') (b:=b) (j:=9) (u:=iQ C) (S:=S) (T:=fun W x=>E61 Sc b rw_ (some (We C a l b es)) W (some (.int k)) (some e.d) (some X) (some A) x none) (fun _ _ _=>rfl) (fun fs f d hd=>metE (d:=.non) (es:=fs++[f]) rfl rfl undoE (by decide +kernel) (sep4 hS hr (sep_We n1 n2) (hnob (some d) hd) rfl) i4) es (xs.map Ev.d) xs x3 (List.length_map ..) (bC bR xs) g3
 have s4:mq_law_5_4 C S (E61 Sc b rw_ (some (We C a l b es)) (some (We C a' l' b (es++xs))) (some (.int k)) (some e.d) (some X) (some A) x3 none)=some (.nx (E61 Sc b rw_ (some (We C a l b es)) (some (We C a' l' b es)) (some (.int k)) (some e.d) (some X) (some A) x4 none)):=(mForS (by rw [<- hx];rfl) (bC bR xs)).trans l4
 have s5:mq_law_5_5 C S (E61 Sc b rw_ (some (We C a l b es)) (some (We C a' l' b es)) (some (.int k)) (some e.d) (some X) (some A) x4 none)=some (.nx (E61 Sc b rw_ (some (We C a l b es)) (some (We C a' l' b es)) (some (.int k)) (some e.d) (some X) (some A) x4 none)):=mP ((ifF (cmS (callS rfl ((askW ok fe).trans (congrArg some hA))) rfl (by rw [<- hA];exact ask_ne b es))).trans rfl)
 have s6:mq_law_5_6 C S (E61 Sc b rw_ (some (We C a l b es)) (some (We C a' l' b es)) (some (.int k)) (some e.d) (some X) (some A) x4 none)=some (.nx (E61 Sc b rw_ (some (We C a l b es)) (some (We C a' l' b (es++[e]))) (some (.int k)) (some e.d) (some X) (some A) x4 none)):=calE (d:=.non) (es:=es) rfl rfl (doE ok fe he) (sep4 hS hr (sep_We n1 n2) (hnob x4 g4) rfl) i4
 have s7:mq_law_5_7 C S (E61 Sc b rw_ (some (We C a l b es)) (some (We C a' l' b (es++[e]))) (some (.int k)) (some e.d) (some X) (some A) x4 none)=some (.nx (E61 Sc b rw_ (some (We C a l b (es++[e]))) (some (We C a' l' b (es++[e]))) (some (.int k)) (some e.d) (some X) (some A) x4 none)):=calE (d:=.non) (es:=es) rfl rfl (doE ok fe he) (sep3 hS hr (sep_We n3 n4) (hnob x4 g4) rfl) i3
 have hsl:slD (vAt 2) noP (aP (op2 dAdd (vAt 5) (fun _=>some (.int 1)))) (E61 Sc b rw_ (some (We C a l b (es++[e]))) (some (We C a' l' b (es++[e]))) (some (.int k)) (some e.d) (some X) (some A) x4 none)=some (.tup ((es++[e]).map Ev.d)):=by
  rw [hseen,List.map_take,<- hrw]
  exact slS rfl rfl (b:=some ((k+1:Nat):Int)) rfl (sl_front (by rw [List.length_map];omega))
 have hse:=uz ok (es++[e]) (fun x hx=>(fe2.1 x hx).1) (by have:=sum_lt (es++[e]) fe2.1;have:=fe2.2;omega) fe2.2
 rw [sights_snoc] at hse
 have s8:mq_law_5_8 C S (E61 Sc b rw_ (some (We C a l b (es++[e]))) (some (We C a' l' b (es++[e]))) (some (.int k)) (some e.d) (some X) (some A) x4 none)=some (.nx (E61 Sc b rw_ (some (We C a l b (es++[e]))) (some (We C a' l' b (es++[e]))) (some (.int k)) (some e.d) (some X) (some A) x4 none)) :=
  mP ((ifF (orF (cmS (callS rfl (askW ok fe2)) (callS rfl (askW ok fe2)) (ask_ne b _)) (cmS (metW (m:=Str.ofString "shown") (by decide +kernel) rfl (shown65 (sd ok fe2).toWk (lm_af ok fe2))) (opS (callS (arS rfl (arS hsl rfl)) hse) (o1S (F:=dNeg) (x:=.int 1) (z:=.int (-1)) rfl rfl) (ix_last _ _)) (sight_ne b _)))).trans rfl)
 refine ⟨some X,some A,x4,by show (nob X&&(nob A&&(nobO x4&&true)))=true;rw [hx7,ha8,g4];rfl,?_⟩
 exact (mN s1).trans ((mN s2).trans ((mN s3).trans ((mN s4).trans ((mN s5).trans ((mN s6).trans ((mN s7).trans s8))))))
end
theorem enum_len (xs:List D):(enumD xs).length=xs.length:=enumD_length xs
theorem oX (es:List Ev):nobs (enumD (es.map Ev.d))=true:=by
 have key:∀ (es:List Ev) (n:Nat),nobs (((es.map Ev.d).zipIdx n).map fun p=>.tup [.int (p.2:Int),p.1])=true:=fun es=>by
  induction es with
  | nil=>intro _;rfl
  | cons e es ih =>
   intro n
   show ((true&&(nob e.d&&true))&&nobs (((es.map Ev.d).zipIdx (n+1)).map _))=true
   rw [bR,ih];rfl
 exact key es 0
section
variable {C a l a' l':Nat} {S:List Nat} {Sc:D} {b:Bk}
theorem loop61 {evs:List Ev} (ok:b.Ok) (hS:nob Sc=true) (hmix:∀ i:Int,0<=i->∃ m,aM [Sc,.int i]=some (.int m)/\0<=m) (hev:∀ x∈evs,x.Lt) (hl:evs.length<=16) (i3:inS S [a,l]=true) (i4:inS S [a',l']=true) (n1:a ∉ [a',l']) (n2:l ∉ [a',l']) (n3:a' ∉ [a,l]) (n4:l' ∉ [a,l]) :
  ∃ p5 p6 p7 p8 p9,[p5,p6,p7,p8,p9].all nobO=true/\qo C S (E61 Sc b (.tup (evs.map Ev.d)) (some (We C a l b [])) (some (We C a' l' b [])) none none none none none none)=some (.nx (E61 Sc b (.tup (evs.map Ev.d)) (some (We C a l b evs)) (some (We C a' l' b evs)) p5 p6 p7 p8 p9 none)):=by
 obtain ⟨ρ',e,p5,p6,p7,p8,p9,rfl,hp⟩:=forM_inv (st:=unpD [(setAt 5),(setAt 6)]) (u:=jR C) (S:=S) (fun k ρ=>∃ p5 p6 p7 p8 p9,ρ=E61 Sc b (.tup (evs.map Ev.d)) (some (We C a l b (evs.take k))) (some (We C a' l' b (evs.take k))) p5 p6 p7 p8 p9 none/\[p5,p6,p7,p8,p9].all nobO=true)
  (enumD (evs.map Ev.d)) 0 (E61 Sc b (.tup (evs.map Ev.d)) (some (We C a l b [])) (some (We C a' l' b [])) none none none none none none) ⟨none,none,none,none,none,rfl,rfl⟩ (by
   rintro i d ρ hd ⟨p5,p6,p7,p8,p9,rfl,hp⟩
   rw [Nat.zero_add]
   obtain ⟨x,hx,rfl⟩:=enumD_get hd
   rw [List.getElem?_map] at hx
   obtain ⟨e,he,rfl⟩:=Option.map_eq_some_iff.mp hx
   have hp':(nobO p5&&(nobO p6&&(nobO p7&&(nobO p8&&(nobO p9&&true)))))=true:=hp
   simp only [Bool.and_eq_true] at hp'
   obtain ⟨q7,q8,q9,hq,t⟩:=turn61 (C:=C) (o7:=p7) (o8:=p8) (o9:=p9) ok hS hmix hev hl he i3 i4 n1 n2 n3 n4 hp'.2.2.1 hp'.2.2.2.1 hp'.2.2.2.2.1
   refine ⟨_,_,rfl,t,some (.int i),some e.d,q7,q8,q9,rfl,?_⟩
   show (true&&(nob e.d && [q7,q8,q9].all nobO))=true
   rw [bR,hq];rfl)
 rw [enum_len,List.length_map,Nat.zero_add,List.take_length] at e
 exact ⟨p5,p6,p7,p8,p9,hp,(mForS rfl (oX evs)).trans e⟩
theorem tail61 {a'' l'':Nat} {evs:List Ev} {p5 p6 p7 p8 p9:Option D} (ok:b.Ok) (hS:nob Sc=true) (hev:∀ x∈evs,x.Lt) (hl:evs.length<=16) (i4:inS S [a',l']=true) (i10:inS S [a'',l'']=true) (n1:a ∉ [a',l']) (n2:l ∉ [a',l']) (m1:a ∉ [a'',l'']) (m2:l ∉ [a'',l'']) (m3:a' ∉ [a'',l'']) (m4:l' ∉ [a'',l'']) (k1:a'' ∉ [a',l']) (k2:l'' ∉ [a',l']) (hp:[p5,p6,p7,p8,p9].all nobO=true) :
  ∃ ρ',mr_law_7 C S (E61 Sc b (.tup (evs.map Ev.d)) (some (We C a l b evs)) (some (We C a' l' b evs)) p5 p6 p7 p8 p9 (some (We C a'' l'' b [])))=some (.rt (.bl true) ρ'):=by
 have fe:Few evs:=⟨hev,by omega⟩
 have f0:Few []:=⟨fun _ h=>(by cases h),(by decide)⟩
 have hsm:∀ e∈evs,e.Sm:=fun e he=>sm61 (hev e he)
 have hr:nob (.tup (evs.map Ev.d))=true:=bC bR evs
 have hp':(nobO p5&&(nobO p6&&(nobO p7&&(nobO p8&&(nobO p9&&true)))))=true:=hp
 simp only [Bool.and_eq_true] at hp'
 have hN:∀ x:Option D,nobO x=true->[p5,x,p7,p8,p9].all nobO=true:=fun x hx=>by
  show (nobO p5&&(nobO x&&(nobO p7&&(nobO p8&&(nobO p9&&true)))))=true
  rw [hp'.1,hx,hp'.2.2.1,hp'.2.2.2.1,hp'.2.2.2.2.1];rfl
 have h7:inSeq (callD bZ (argC (callD bT (argC (metD C (Str.ofString "row") (bi C) (vAt 4) argN) argN)) argN)) (E61 Sc b (.tup (evs.map Ev.d)) (some (We C a l b evs)) (some (We C a' l' b evs)) p5 p6 p7 p8 p9 (some (We C a'' l'' b [])))=some (evs.map Ev.d):=by
  show (callD _ _ _).bind _=_
  rw [callS (arS (callS (arS (metW (m:=Str.ofString "row") (by decide +kernel) rfl (rowW fe)) rfl) (pO hsm (by omega))) rfl) (pM hsm (by omega))];rfl
 generalize hrw:D.tup (evs.map Ev.d)=rw_ at *
 obtain ⟨x7,g7,l7⟩:=loopDo (C:=C) (a:=a'') (l:=l'') (b:=b) (j:=6) (u:=nP C) (S:=S) (T:=fun W x=>E61 Sc b rw_ (some (We C a l b evs)) (some (We C a' l' b evs)) p5 x p7 p8 p9 W) (fun _ _ _=>rfl) (fun fs f hf hfl=>calE (d:=.non) (es:=fs) rfl rfl (doE ok hf hfl) (sep10 hS hr (sep_We m1 m2) (sep_We m3 m4) (hN _ (bR f))) i10) evs [] p6 hev (fun _ h=>(by cases h)) (by show 0+_<=100;omega) hp'.2.1
 have s7:qC C S (E61 Sc b rw_ (some (We C a l b evs)) (some (We C a' l' b evs)) p5 p6 p7 p8 p9 (some (We C a'' l'' b [])))=some (.nx (E61 Sc b rw_ (some (We C a l b evs)) (some (We C a' l' b evs)) p5 x7 p7 p8 p9 (some (We C a'' l'' b evs)))):=(mForS h7 (bC bR evs)).trans l7
 have s8:qu C S (E61 Sc b rw_ (some (We C a l b evs)) (some (We C a' l' b evs)) p5 x7 p7 p8 p9 (some (We C a'' l'' b evs)))=some (.nx (E61 Sc b rw_ (some (We C a l b evs)) (some (We C a' l' b evs)) p5 x7 p7 p8 p9 (some (We C a'' l'' b evs)))):=mP ((ifF (cmS (callS rfl (askW ok fe)) (callS rfl (askW ok fe)) (ask_ne b _))).trans rfl)
 obtain ⟨x9,g9,l9⟩:=loopUn (C:=C) (a:=a') (l:=l') (b:=b) (j:=6) (u:=nk C) (S:=S) (T:=fun W x=>E61 Sc b rw_ (some (We C a l b evs)) W p5 x p7 p8 p9 (some (We C a'' l'' b evs))) (fun _ _ _=>rfl) (fun fs f d hd=>metE (d:=.non) (es:=fs++[f]) rfl rfl undoE (by decide +kernel) (sep4 hS hr (sep_We n1 n2) (hN (some d) hd) (sep_We k1 k2)) i4) [] (evs.map Ev.d) evs x7 (List.length_map ..) (bC bR evs) g7
 have s9:qp C S (E61 Sc b rw_ (some (We C a l b evs)) (some (We C a' l' b evs)) p5 x7 p7 p8 p9 (some (We C a'' l'' b evs)))=some (.nx (E61 Sc b rw_ (some (We C a l b evs)) (some (We C a' l' b [])) p5 x9 p7 p8 p9 (some (We C a'' l'' b evs)))):=(mForS (by rw [<- hrw];rfl) (bC bR evs)).trans l9
 have s10:nV C S (E61 Sc b rw_ (some (We C a l b evs)) (some (We C a' l' b [])) p5 x9 p7 p8 p9 (some (We C a'' l'' b evs)))=some (.rt (.bl true) (E61 Sc b rw_ (some (We C a l b evs)) (some (We C a' l' b [])) p5 x9 p7 p8 p9 (some (We C a'' l'' b evs)))) :=
  mPr (retS (anV (asS (cmS (callS rfl (askW ok f0)) (callN_of (ds:=[b.d]) (r:=askE b []) rfl fun a l _=>⟨We C a l b [],mk33 C a l b,askW ok f0⟩) (ask_eq _ _ _ _))) (asS (cmS (metW (m:=Str.ofString "state") (by decide +kernel) rfl state65) (callS rfl (mO _)) (ws_eq _)))))
 exact ⟨_,(mN s7).trans ((mN s8).trans ((mN s9).trans s10))⟩
end
theorem law_any (C:Nat) (ns:List Int):nr C [.fro (ns.map .int)]=some (.bl true):=by
 obtain ⟨n0,e0,_⟩:=mixed_some ns 0 (by decide)
 obtain ⟨n1,e1,_⟩:=mixed_some ns 1 (by decide)
 have hmix:∀ i:Int,0<=i->∃ m,aM [.fro (ns.map .int),.int i]=some (.int m)/\0<=m:=mixed_some ns
 obtain ⟨bd,eb,hb,_⟩:=q_ n0
 obtain ⟨b0,rfl,ok0⟩:=tP hb
 obtain ⟨evs,er,hev,hl⟩:=nw n1 16 (by decide) (by decide)
 have hl16:evs.length<=16:=hl
 have hS:nob (.fro (ns.map D.int))=true:=bC (fun _=>rfl) ns
 generalize hSc:D.fro (ns.map .int)=Sc at *
 have ok:=ready_ok ok0 (drawnI n0 77 / 4)
 have ey:=ub ok0 (drawnI n0 77 / 4)
 generalize readyB b0 (drawnI n0 77 / 4)=b at *
 have s1:qf (beg 11 [Sc])=some (.nx (beg 11 [Sc,b.d])):=asgS (callS (arS (callS (arS (callS rfl e0) rfl) eb) (arS (opS (callS (arS (callS rfl e0) (arS rfl rfl)) (drawn_some n0 77)) rfl rfl) rfl)) ey) rfl
 have s2:qw (beg 11 [Sc,b.d])=some (.nx (beg 11 [Sc,b.d,.tup (evs.map Ev.d)])):=asgS (callS (arS (callS rfl e1) (arS rfl rfl)) er) rfl
 refine viaS ((seqN s1).trans ((seqN s2).trans ?_))
 refine newM_of (ds:=[b.d]) (r:=.bl true) rfl (by show 3<11;decide) fun a l hal=>⟨We C a l b [],[],mk33 C a l b,?_⟩
 refine mMk_of (ds:=[b.d]) (r:=.bl true) rfl (by show 4<11;decide) fun a' l' hal' ha' hl'=>⟨We C a' l' b [],[],mk33 C a' l' b,?_⟩
 have nn:∀ {x y u v:Nat},x ∉ [u,v]->y ∉ [u,v]->u ∉ [x,y]/\v ∉ [x,y]:=fun {x y u v} h1 h2=>by
  simp only [List.mem_cons,List.not_mem_nil,or_false,not_or] at *
  omega
 obtain ⟨q1,q2⟩:=nn ha' hl'
 obtain ⟨p5,p6,p7,p8,p9,hp,h5⟩:=loop61 (C:=C) (S:=[a',l',a,l]) (a:=a) (l:=l) (a':=a') (l':=l') (Sc:=Sc) (b:=b) (evs:=evs) ok hS hmix hev hl16 (by simp [inS]) (by simp [inS]) q1 q2 ha' hl'
 refine (mN h5).trans ?_
 refine mMk_of (ds:=[b.d]) (r:=.bl true) rfl (by show 10<11;decide) fun a'' l'' _ ha'' hl''=>?_
 have r1:a'' ∉ [a',l']/\l'' ∉ [a',l']/\a'' ∉ [a,l]/\l'' ∉ [a,l]:=by
  simp only [List.mem_cons,List.not_mem_nil,or_false,not_or] at *
  omega
 obtain ⟨m3,m4⟩:=nn r1.1 r1.2.1
 obtain ⟨m1,m2⟩:=nn r1.2.2.1 r1.2.2.2
 obtain ⟨ρ',h⟩:=tail61 (C:=C) (S:=[a'',l'',a',l',a,l]) (a:=a) (l:=l) (a':=a') (l':=l') (a'':=a'') (l'':=l'') (Sc:=Sc) (b:=b) (evs:=evs) ok hS hev hl16 (by simp [inS]) (by simp [inS]) q1 q2 m1 m2 m3 m4 r1.1 r1.2.1 hp
 exact ⟨We C a'' l'' b [],ρ',mk33 C a'' l'' b,h⟩
end HW
set_option maxRecDepth 100000
namespace HW
open PySem PySem.Spec PyProof.Rows L2
def top (i:Nat):Stmt:=PySem.Challenge.pw_handwatch_k61_whole_rows_done_anew.main.body.getD i (.Pass ⟨0,0,0,0⟩)
abbrev en:Stmt:=top 92
theorem sc__law_drawn:FnScope ["_law_number","_law_k","_law_drawn_here"] ["_law_number","_law_k"] (defScope en):=⟨rfl,rfl,rfl,by decide +kernel,rfl,by decide +kernel,by decide +kernel⟩
theorem ku {P:Program} {w:World} {K:PySem.W.Frag} {mg:Str->Option Value} {base:Heap} {k:Nat} {f:Addr} {fd:FuncData} (Fn:Fun K "_law_drawn" "_law_drawn" en f fd):FnOk P w K mg base CX0 (k+1) f fd ["_law_number","_law_k"] (spD K aG):=by
 refine av Fn sc__law_drawn mR ?_ lw
 intro cdv A outer s H E hr
 refine ai ?_ ?_
 ·refine aD ?_ ?_
  ·refine ak aJ ?_ ad
   refine ak c_ ?_ ad
   refine ak aA ?_ ad
   refine ak aA (ac 0) ?_
   exact ak c_ ad (ac 1)
  exact aj 2 sc__law_drawn.nd
 refine al ?_
 refine au ?_
 refine ak aJ ?_ ad
 refine ak aA ?_ (ac 1)
 refine ak aA ?_ ?_
 ·exact ak c_ (ac 2) (ac 2)
 exact ak c_ ad (ac 2)
abbrev eW:Stmt:=top 93
theorem sc__law_book:FnScope ["_law_number","_law_many","_law_deeds","_law_modes","_law_k","_law_drawn_here","_law_rows","_law_j","_law_one","_law_face"] ["_law_number"] (defScope eW):=⟨rfl,rfl,rfl,by decide +kernel,rfl,by decide +kernel,by decide +kernel⟩
theorem mW {P:Program} {w:World} {K:PySem.W.Frag} {mg:Str->Option Value} {base:Heap} {k:Nat} (C__law_drawn:Cal P w K mg base k "_law_drawn" ["_law_number","_law_k"] aG) (m_range:mg "range" = none) {f:Addr} {fd:FuncData} (Fn:Fun K "_law_book" "_law_book" eW f fd):FnOk P w K mg base CX0 (k+1) f fd ["_law_number"] (spD K bW):=by
 refine av Fn sc__law_book oB ?_ nC
 intro cdv A outer s H E hr
 refine ai ?_ ?_
 ·refine aD ?_ ?_
  ·refine ak aA ad ?_
   exact ak aJ (ac 0) ad
  exact aj 1 sc__law_book.nd
 refine ai ?_ ?_
 ·refine aD ?_ ?_
  ·refine az ?_
   refine ab ay ?_
   refine ab ay ?_
   refine ab ay ?_
   refine ab ay ?_
   refine ab ay ?_
   refine ab ay ?_
   refine ab ay ?_
   refine ab ay ?_
   exact ab ay (ab ay (ab ay (ab ay ae)))
  exact aj 2 sc__law_book.nd
 refine ai ?_ ?_
 ·refine aD ?_ ?_
  ·exact az ae
  exact aj 3 sc__law_book.nd
 refine ai ?_ ?_
 ·refine sL PassesOwn.never rfl ?_ ?_ ?_
  ·exact mE m_range (ac 1)
  ·exact aj 4 sc__law_book.nd
  refine ai ?_ ?_
  ·refine aD ?_ ?_
   ·refine ak bY ?_ ad
    exact af C__law_drawn hr (ab (ac 0) (ab (ac 4) ae))
   exact aj 5 sc__law_book.nd
  refine ai ?_ ?_
  ·refine aD ?_ ?_
   ·exact az ae
   exact aj 6 sc__law_book.nd
  refine ai ?_ ?_
  ·refine sL PassesOwn.never rfl ?_ ?_ ?_
   ·exact mE m_range ad
   ·exact aj 7 sc__law_book.nd
   refine ai ?_ ?_
   ·refine aD ?_ ?_
    ·refine ak bY ?_ ad
     refine af C__law_drawn hr ?_
     refine ab (ac 5) ?_
     refine ab ?_ ae
     exact ak aA ad (ac 7)
    exact aj 8 sc__law_book.nd
   refine al ?_
   refine aD ?_ ?_
   ·refine ak aA (ac 6) ?_
    refine az ?_
    refine ab ?_ ae
    refine az ?_
    refine ab ?_ ?_
    ·refine ag ?_ ?_
     ·refine ak aA (ac 2) ?_
      exact az (ab ay ae)
     exact ak aJ (ac 8) ad
    refine ab ?_ ae
    refine ak aJ ?_ (ac 1)
    exact ak bY (ac 8) ad
   exact aj 6 sc__law_book.nd
  refine ai ?_ ?_
  ·refine aD ?_ ?_
   ·refine ag ?_ ?_
    ·refine az ?_
     exact ab ay (ab ay (ab ay (ab ay ae)))
    exact ak aJ (ac 5) ad
   exact aj 9 sc__law_book.nd
  refine al ?_
  refine aD ?_ ?_
  ·refine ak aA (ac 3) ?_
   refine az ?_
   refine ab ?_ ae
   refine az ?_
   refine ab (ac 9) ?_
   refine ab ?_ (ab (ac 6) ae)
   refine cK (dg hr) ?_ ad
   refine ak aJ ?_ ad
   exact ak bY (ac 5) ad
  exact aj 3 sc__law_book.nd
 refine al ?_
 refine au ?_
 refine az ?_
 refine ab ?_ ?_
 ·refine ak aA ad ?_
  refine ak aJ ?_ ?_
  ·exact ak bY (ac 0) ad
  refine ag ?_ ?_
  ·exact az (ab ad (ab ad ae))
  refine ak aJ ?_ ad
  exact ak bY (ac 0) ad
 refine ab ?_ (ab (ac 3) ae)
 refine ag ?_ ?_
 ·refine az ?_
  refine ab ad ?_
  exact ab ad (ab ad (ab ad (ab ad ae)))
 refine ak aJ ?_ ad
 exact ak bY (ac 0) ad
abbrev dn:Stmt:=top 90
theorem iV:FnScope ["_law_script","_law_k"] ["_law_script","_law_k"] (defScope dn):=⟨rfl,rfl,rfl,by decide +kernel,rfl,by decide +kernel,by decide +kernel⟩
theorem jc {P:Program} {w:World} {K:PySem.W.Frag} {mg:Str->Option Value} {base:Heap} {k:Nat} (m_len:mg "len" = none) {f:Addr} {fd:FuncData} (Fn:Fun K "_law_cell_at" "_law_cell_at" dn f fd):FnOk P w K mg base CX0 (k+1) f fd ["_law_script","_law_k"] (spD K bx):=by
 refine av Fn iV j9 ?_ j7
 intro cdv A outer s H E hr
 refine ai ?_ ?_
 ·refine cH ?_ ?_ aT
  ·refine aE qr (ac 1) ?_
   exact bG jS m_len (ab (ac 0) ae)
  refine al ?_
  exact au (ag (ac 0) (ac 1))
 refine al ?_
 exact au ad
abbrev et:Stmt:=top 91
theorem sc__law_mixed:FnScope ["_law_script","_law_k","_law_drawn_here"] ["_law_script","_law_k"] (defScope et):=⟨rfl,rfl,rfl,by decide +kernel,rfl,by decide +kernel,by decide +kernel⟩
theorem kG {P:Program} {w:World} {K:PySem.W.Frag} {mg:Str->Option Value} {base:Heap} {k:Nat} (C__law_cell_at:Cal P w K mg base k "_law_cell_at" ["_law_script","_law_k"] bx) {f:Addr} {fd:FuncData} (Fn:Fun K "_law_mixed" "_law_mixed" et f fd):FnOk P w K mg base CX0 (k+1) f fd ["_law_script","_law_k"] (spD K aM):=by
 refine av Fn sc__law_mixed lQ ?_ mf
 intro cdv A outer s H E hr
 refine ai ?_ ?_
 ·refine aD ?_ ?_
  ·refine ak aJ ?_ ad
   refine ak c_ ?_ ad
   refine ak aA ?_ ad
   refine ak aA ?_ ?_
   ·exact af C__law_cell_at hr (ab (ac 0) (ab (ac 1) ae))
   exact ak c_ ad (ac 1)
  exact aj 2 sc__law_mixed.nd
 refine al ?_
 refine au ?_
 refine ak aJ ?_ ad
 refine ak aA ?_ (ac 1)
 refine ak aA ?_ ?_
 ·exact ak c_ (ac 2) (ac 2)
 exact ak c_ ad (ac 2)
abbrev eE:Stmt:=top 98
theorem sc__law_ready:FnScope ["_law_book_here","_law_number","_law_last","_law_rows"] ["_law_book_here","_law_number"] (defScope eE):=⟨rfl,rfl,rfl,by decide +kernel,rfl,by decide +kernel,by decide +kernel⟩
theorem kB {P:Program} {w:World} {K:PySem.W.Frag} {mg:Str->Option Value} {base:Heap} {k:Nat} (m_len:mg "len" = none) {f:Addr} {fd:FuncData} (Fn:Fun K "_law_ready" "_law_ready" eE f fd):FnOk P w K mg base CX0 (k+1) f fd ["_law_book_here","_law_number"] (spD K bK):=by
 refine av Fn sc__law_ready mm ?_ lM
 intro cdv A outer s H E hr
 refine ai ?_ ?_
 ·refine cH ?_ ?_ aT
  ·refine aE (dg hr) ?_ ad
   exact ak aJ (ac 1) ad
  refine al ?_
  exact au (ac 0)
 refine ai ?_ ?_
 ·refine aD ?_ ?_
  ·refine ak aJ ?_ ?_
   ·exact ak bY (ac 1) ad
   exact bG jS m_len (ab (ag (ac 0) ad) ae)
  exact aj 2 sc__law_ready.nd
 refine ai ?_ ?_
 ·refine aD ?_ ?_
  ·refine az ?_
   refine ab ?_ ?_
   ·exact az (ab ay (ab ad ae))
   refine ab ?_ ?_
   ·exact az (ab ay (ab (ac 2) ae))
   refine ab ?_ ?_
   ·exact az (ab ay (ab ad ae))
   refine ab ?_ ?_
   ·exact az (ab ay (ab ad ae))
   refine ab ?_ ?_
   ·exact az (ab ay (ab ad ae))
   refine ab ?_ ae
   exact az (ab ay (ab (ac 2) ae))
  exact aj 3 sc__law_ready.nd
 refine al ?_
 refine au ?_
 refine az ?_
 refine ab (ag (ac 0) ad) ?_
 refine ab (ag (ac 0) ad) ?_
 refine ab ?_ ae
 refine ak aA ?_ ?_
 ·refine az ?_
  refine ab ?_ ae
  exact az (ab ay (ab fv (ab (ac 3) ae)))
 refine gn (ag (ac 0) ad) ?_ ee
 exact dj ad
abbrev eI:Stmt:=top 94
theorem sc__law_event:FnScope ["_law_number","_law_button","_law_kind"] ["_law_number"] (defScope eI):=⟨rfl,rfl,rfl,by decide +kernel,rfl,by decide +kernel,by decide +kernel⟩
theorem kd {P:Program} {w:World} {K:PySem.W.Frag} {mg:Str->Option Value} {base:Heap} {k:Nat} {f:Addr} {fd:FuncData} (Fn:Fun K "_law_event" "_law_event" eI f fd):FnOk P w K mg base CX0 (k+1) f fd ["_law_number"] (spD K bq):=by
 refine av Fn sc__law_event lG ?_ lB
 intro cdv A outer s H E hr
 refine ai ?_ ?_
 ·refine aD ?_ ?_
  ·refine ag ay ?_
   refine ak aJ ?_ ad
   exact ak bY (ac 0) ad
  exact aj 1 sc__law_event.nd
 refine ai ?_ ?_
 ·refine aD ?_ ?_
  ·exact ak aJ (ac 0) ad
  exact aj 2 sc__law_event.nd
 refine ai ?_ ?_
 ·refine cH ?_ ?_ aT
  ·exact aE qr (ac 2) ad
  refine al ?_
  refine au ?_
  exact az (ab ay (ab (ac 1) ae))
 refine ai ?_ ?_
 ·refine cH ?_ ?_ aT
  ·exact aE qr (ac 2) ad
  refine al ?_
  refine au ?_
  exact az (ab ay (ab (ac 1) ae))
 refine al ?_
 refine au ?_
 refine az ?_
 refine ab ay ?_
 refine ab ?_ ae
 refine ak aA ad ?_
 refine ak aJ ?_ ?_
 ·exact ak bY (ac 0) ad
 refine ag ?_ ?_
 ·exact az (ab ad (ab ad (ab ad ae)))
 refine ak aJ ?_ ad
 exact ak bY (ac 0) ad
abbrev fX:Stmt:=top 95
theorem nM:FnScope ["_law_number","_law_most"] ["_law_number","_law_most"] (defScope fX):=⟨rfl,rfl,rfl,by decide +kernel,rfl,by decide +kernel,by decide +kernel⟩
theorem ow {P:Program} {w:World} {K:PySem.W.Frag} {mg:Str->Option Value} {base:Heap} {k:Nat} (C__law_drawn:Cal P w K mg base k "_law_drawn" ["_law_number","_law_k"] aG) (C__law_event:Cal P w K mg base k "_law_event" ["_law_number"] bq) (m_range:mg "range" = none) (m_tuple:mg "tuple" = none) {f:Addr} {fd:FuncData} (Fn:Fun K "_law_row" "_law_row" fX f fd):FnOk P w K mg base CX0 (k+1) f fd ["_law_number","_law_most"] (spD K bU):=by
 refine av Fn nM pE ?_ qd
 intro cdv A outer s H E hr
 refine al ?_
 refine au ?_
 refine cY gw m_tuple ?_
 refine ab ?_ ae
 refine lg (T:=["_law_k"]) rfl ?_ ?_ ?_ ?_ (front_set (by decide)) (show List.Nodup ((["_law_k"]:List Str)++(["_law_number" ,"_law_most"]:List Str)) from by decide +kernel)
 ·refine mE m_range ?_
  refine ak aJ (ac 0) ?_
  exact ak aA (ac 1) ad
 ·intro C s₃ H₃ fp
  exact aj 0 (show List.Nodup (["_law_k" ,"_law_number" ,"_law_most"]:List Str) from by decide +kernel)
 ·intro C s₃ H₃ fp
  exact iv
 intro C s₃ H₃ fp
 refine af C__law_event hr ?_
 refine ab ?_ ae
 refine ak bY ?_ ad
 refine af C__law_drawn hr ?_
 refine ab (ac 1) ?_
 refine ab ?_ ae
 exact ak aA ad (ac 0)
abbrev mL:Stmt:=top 17
theorem sc_begun:FnScope ["book","alarm","laps","count"] ["book"] (defScope mL):=⟨rfl,rfl,rfl,by decide +kernel,rfl,by decide +kernel,by decide +kernel⟩
theorem sf {P:Program} {w:World} {K:PySem.W.Frag} {mg:Str->Option Value} {base:Heap} {k:Nat} {f:Addr} {fd:FuncData} (Fn:Fun K "begun" "begun" mL f fd):FnOk P w K mg base CX0 (k+1) f fd ["book"] (spD K ce):=by
 refine av Fn sc_begun tO ?_ tW
 intro cdv A outer s H E hr
 refine ai ?_ ?_
 ·refine aD ?_ ?_
  ·exact az (ab ad (ab ad (ab fv ae)))
  exact aj 1 sc_begun.nd
 refine ai ?_ ?_
 ·refine aD ?_ ?_
  ·refine az ?_
   refine ab ad ?_
   refine ab fv ?_
   refine ab ?_ ae
   exact az ae
  exact aj 2 sc_begun.nd
 refine ai ?_ ?_
 ·refine aD ?_ ?_
  ·refine az ?_
   exact ab ad (ab ad (ab ad (ab fv ae)))
  exact aj 3 sc_begun.nd
 refine al ?_
 refine au ?_
 refine az ?_
 refine ab ad ?_
 refine ab ad ?_
 refine ab (ac 1) ?_
 refine ab (ac 2) ?_
 exact ab (ac 3) (ab ad (ab bw (ab ad ae)))
abbrev iC:Stmt:=top 87
theorem pd:FnScope ["text"] ["text"] (defScope iC):=⟨rfl,rfl,rfl,by decide +kernel,rfl,by decide +kernel,by decide +kernel⟩
theorem pw {P:Program} {w:World} {K:PySem.W.Frag} {mg:Str->Option Value} {base:Heap} {k:Nat} (m_all:mg "all" = none) (c_FIGURES:Con K mg "FIGURES" gX) {f:Addr} {fd:FuncData} (Fn:Fun K "is_many" "is_many" iC f fd):FnOk P w K mg base CX0 (k+1) f fd ["text"] (spD K dm):=by
 refine av Fn pd rc ?_ rh
 intro cdv A outer s H E hr
 refine al ?_
 refine au ?_
 refine fh ?_ ?_
 ·exact cK (rQ hr) (ac 0) ay
 refine fh ?_ ?_
 ·exact cK (rQ hr) (ag (ac 0) ad) ay
 refine iw ?_
 refine bG (uU rfl) m_all ?_
 refine ab ?_ ae
 refine lg (T:=["sign"]) rfl ?_ ?_ ?_ ?_ (front_set (by decide)) (show List.Nodup ((["sign"]:List Str)++(["text"]:List Str)) from by decide +kernel)
 ·exact jr (ac 0)
 ·intro C s₃ H₃ fp
  exact aj 0 (show List.Nodup (["sign" ,"text"]:List Str) from by decide +kernel)
 ·intro C s₃ H₃ fp
  exact iv
 intro C s₃ H₃ fp
 exact cK uF (ac 0) (aq c_FIGURES)
abbrev fk:Stmt:=top 88
theorem sc_read_many:FnScope ["text","start","number","place"] ["text"] (defScope fk):=⟨rfl,rfl,rfl,by decide +kernel,rfl,by decide +kernel,by decide +kernel⟩
theorem lW {P:Program} {w:World} {K:PySem.W.Frag} {mg:Str->Option Value} {base:Heap} {k:Nat} (m_int:mg "int" = none) (m_len:mg "len" = none) (m_range:mg "range" = none) (c_BLOCK:Con K mg "BLOCK" dk) (c_BLOCK_FIGURES:Con K mg "BLOCK_FIGURES" bQ) {f:Addr} {fd:FuncData} (Fn:Fun K "read_many" "read_many" fk f fd):FnOk P w K mg base CX0 (k+1) f fd ["text"] (spD K cD):=by
 refine av Fn sc_read_many ng ?_ nT
 intro cdv A outer s H E hr
 refine ai ?_ ?_
 ·refine aD ?_ ?_
  ·refine ak aJ ?_ (aq c_BLOCK_FIGURES)
   exact bG qj m_len (ab (ac 0) ae)
  exact aj 1 sc_read_many.nd
 refine ai ?_ ?_
 ·refine aD ?_ ?_
  ·refine cY qB m_int ?_
   refine ab ?_ ae
   refine ak aA ay ?_
   refine fF (ac 0) ee ?_
   exact dj (ac 1)
  exact aj 2 sc_read_many.nd
 refine ai ?_ ?_
 ·refine sL PassesOwn.never rfl ?_ ?_ ?_
  ·refine tG m_range (ac 1) ?_ (aq c_BLOCK_FIGURES)
   exact bG qj m_len (ab (ac 0) ae)
  ·exact aj 3 sc_read_many.nd
  refine al ?_
  refine aD ?_ ?_
  ·refine ak aA ?_ ?_
   ·exact ak c_ (ac 2) (aq c_BLOCK)
   refine cY qB m_int ?_
   refine ab ?_ ae
   refine fF (ac 0) ?_ ?_
   ·exact dj (ac 3)
   refine dj ?_
   exact ak aA (ac 3) (aq c_BLOCK_FIGURES)
  exact aj 2 sc_read_many.nd
 refine al ?_
 exact au (ac 2)
abbrev eG:Stmt:=top 86
theorem sc_read_event:FnScope ["word","sign","rest"] ["word"] (defScope eG):=⟨rfl,rfl,rfl,by decide +kernel,rfl,by decide +kernel,by decide +kernel⟩
theorem kt {P:Program} {w:World} {K:PySem.W.Frag} {mg:Str->Option Value} {base:Heap} {k:Nat} (C_is_many:Cal P w K mg base k "is_many" ["text"] dm) (C_read_many:Cal P w K mg base k "read_many" ["text"] cD) (c_BUTTONS:Con K mg "BUTTONS" fG) {f:Addr} {fd:FuncData} (Fn:Fun K "read_event" "read_event" eG f fd):FnOk P w K mg base CX0 (k+1) f fd ["word"] (spD K bg):=by
 refine av Fn sc_read_event mC ?_ lj
 intro cdv A outer s H E hr
 refine ai ?_ ?_
 ·refine aD ?_ ?_
  ·refine fF (ac 0) ee ?_
   exact dj ad
  exact aj 1 sc_read_event.nd
 refine ai ?_ ?_
 ·refine aD ?_ ?_
  ·refine fF (ac 0) ?_ ee
   exact dj ad
  exact aj 2 sc_read_event.nd
 refine ai ?_ ?_
 ·refine cH ?_ ?_ aT
  ·refine fw ?_
   refine jL ?_ ?_
   ·exact aE (dg hr) (ac 1) ay
   refine gy ?_
   exact aE uo (ac 2) (aq c_BUTTONS)
  refine al ?_
  refine au ?_
  exact az (ab ay (ab (ac 2) ae))
 refine ai ?_ ?_
 ·refine cH ?_ ?_ aT
  ·refine fw ?_
   refine jL ?_ ?_
   ·exact aE (dg hr) (ac 1) ay
   refine gy ?_
   exact aE uo (ac 2) (aq c_BUTTONS)
  refine al ?_
  refine au ?_
  exact az (ab ay (ab (ac 2) ae))
 refine ai ?_ ?_
 ·refine cH ?_ ?_ aT
  ·refine fw ?_
   refine jL ?_ ?_
   ·exact aE (dg hr) (ac 1) ay
   refine gy ?_
   refine dB ?_
   exact af C_is_many hr (ab (ac 2) ae)
  refine al ?_
  refine au ?_
  refine az ?_
  refine ab ay ?_
  refine ab ?_ ae
  exact af C_read_many hr (ab (ac 2) ae)
 exact al tZ
abbrev fN:Stmt:=top 85
theorem nJ:FnScope ["text"] ["text"] (defScope fN):=⟨rfl,rfl,rfl,by decide +kernel,rfl,by decide +kernel,by decide +kernel⟩
theorem na {P:Program} {w:World} {K:PySem.W.Frag} {mg:Str->Option Value} {base:Heap} {k:Nat} (C_read_event:Cal P w K mg base k "read_event" ["word"] bg) (m_tuple:mg "tuple" = none) {f:Addr} {fd:FuncData} (Fn:Fun K "read_row" "read_row" fN f fd):FnOk P w K mg base CX0 (k+1) f fd ["text"] (spD K bZ):=by
 refine av Fn nJ pY ?_ pc
 intro cdv A outer s H E hr
 refine ai ?_ ?_
 ·refine cH ?_ ?_ aT
  ·exact aE (dg hr) (ac 0) ay
  refine al ?_
  refine au ?_
  exact az ae
 refine al ?_
 refine au ?_
 refine cY gw m_tuple ?_
 refine ab ?_ ae
 refine lg (T:=["word"]) rfl ?_ ?_ ?_ ?_ (front_set (by decide)) (show List.Nodup ((["word"]:List Str)++(["text"]:List Str)) from by decide +kernel)
 ·refine jr ?_
  exact sV (ac 0) (ab ay ae)
 ·intro C s₃ H₃ fp
  exact aj 0 (show List.Nodup (["word" ,"text"]:List Str) from by decide +kernel)
 ·intro C s₃ H₃ fp
  exact iv
 intro C s₃ H₃ fp
 exact af C_read_event hr (ab (ac 0) ae)
abbrev iA:Stmt:=top 66
theorem sc_figures:FnScope ["number","texts"] ["number"] (defScope iA):=⟨rfl,rfl,rfl,by decide +kernel,rfl,by decide +kernel,by decide +kernel⟩
theorem qb {P:Program} {w:World} {K:PySem.W.Frag} {mg:Str->Option Value} {base:Heap} {k:Nat} (m_reversed:mg "reversed" = none) (m_str:mg "str" = none) (c_BLOCK:Con K mg "BLOCK" dk) {f:Addr} {fd:FuncData} (Fn:Fun K "figures" "figures" iA f fd):FnOk P w K mg base CX0 (k+1) f fd ["number"] (spD K bF):=by
 refine av Fn sc_figures rK ?_ rM
 intro cdv A outer s H E hr
 refine pR 1 sc_figures.nd ae ?_
 refine gD ?_ ?_
 ·refine qD ?_
  refine tq PassesOwn.never ?_
  exact aE uk (ac 0) (aq c_BLOCK)
 refine gD ?_ ?_
 ·refine mr 1 ?_
  exact cY sX m_str (ab (ac 0) ae)
 refine pW ?_
 refine al ?_
 refine au ?_
 exact rN rfl m_reversed ay (ac 1)
abbrev el:Stmt:=top 84
theorem kN:FnScope ["event"] ["event"] (defScope el):=⟨rfl,rfl,rfl,by decide +kernel,rfl,by decide +kernel,by decide +kernel⟩
theorem kn {P:Program} {w:World} {K:PySem.W.Frag} {mg:Str->Option Value} {base:Heap} {k:Nat} (C_figures:Cal P w K mg base k "figures" ["number"] bF) {f:Addr} {fd:FuncData} (Fn:Fun K "event_text" "event_text" el f fd):FnOk P w K mg base CX0 (k+1) f fd ["event"] (spD K bD):=by
 refine av Fn kN lY ?_ lD
 intro cdv A outer s H E hr
 refine ai ?_ ?_
 ·refine cH ?_ ?_ aT
  ·exact aE (dg hr) (ag (ac 0) ad) ay
  refine al ?_
  refine au ?_
  exact ak aA ay (ag (ac 0) ad)
 refine ai ?_ ?_
 ·refine cH ?_ ?_ aT
  ·exact aE (dg hr) (ag (ac 0) ad) ay
  refine al ?_
  refine au ?_
  exact ak aA ay (ag (ac 0) ad)
 refine al ?_
 refine au ?_
 refine ak aA ay ?_
 exact af C_figures hr (ab (ag (ac 0) ad) ae)
abbrev fQ:Stmt:=top 83
theorem nD:FnScope ["row"] ["row"] (defScope fQ):=⟨rfl,rfl,rfl,by decide +kernel,rfl,by decide +kernel,by decide +kernel⟩
theorem nF {P:Program} {w:World} {K:PySem.W.Frag} {mg:Str->Option Value} {base:Heap} {k:Nat} (C_event_text:Cal P w K mg base k "event_text" ["event"] bD) {f:Addr} {fd:FuncData} (Fn:Fun K "row_text" "row_text" fQ f fd):FnOk P w K mg base CX0 (k+1) f fd ["row"] (spD K bT):=by
 refine av Fn nD pU ?_ oT
 intro cdv A outer s H E hr
 refine al ?_
 refine au ?_
 refine tS ay ?_
 refine ab ?_ ae
 refine lg (T:=["event"]) rfl ?_ ?_ ?_ ?_ (front_set (by decide)) (show List.Nodup ((["event"]:List Str)++(["row"]:List Str)) from by decide +kernel)
 ·exact jr (ac 0)
 ·intro C s₃ H₃ fp
  exact aj 0 (show List.Nodup (["event" ,"row"]:List Str) from by decide +kernel)
 ·intro C s₃ H₃ fp
  exact iv
 intro C s₃ H₃ fp
 exact af C_event_text hr (ab (ac 0) ae)
abbrev eL:Stmt:=top 62
theorem ky:FnScope ["state","button"] ["state","button"] (defScope eL):=⟨rfl,rfl,rfl,by decide +kernel,rfl,by decide +kernel,by decide +kernel⟩
theorem kH {P:Program} {w:World} {K:PySem.W.Frag} {mg:Str->Option Value} {base:Heap} {k:Nat} (c_HELD:Con K mg "HELD" bz) {f:Addr} {fd:FuncData} (Fn:Fun K "is_holding" "is_holding" eL f fd):FnOk P w K mg base CX0 (k+1) f fd ["state","button"] (spD K bp):=by
 refine av Fn ky mD ?_ mw
 intro cdv A outer s H E hr
 refine al ?_
 refine au ?_
 refine fh ?_ ?_
 ·exact cK d_ (ag (ac 0) (aq c_HELD)) bw
 refine iw ?_
 exact cK (dg hr) (ag (ag (ac 0) (aq c_HELD)) ad) (ac 1)
abbrev fT:Stmt:=top 63
theorem nz:FnScope ["state","button"] ["state","button"] (defScope fT):=⟨rfl,rfl,rfl,by decide +kernel,rfl,by decide +kernel,by decide +kernel⟩
theorem om {P:Program} {w:World} {K:PySem.W.Frag} {mg:Str->Option Value} {base:Heap} {k:Nat} (C_is_holding:Cal P w K mg base k "is_holding" ["state","button"] bp) (c_HELD:Con K mg "HELD" bz) {f:Addr} {fd:FuncData} (Fn:Fun K "is_short" "is_short" fT f fd):FnOk P w K mg base CX0 (k+1) f fd ["state","button"] (spD K cz):=by
 refine av Fn nz pT ?_ p_
 intro cdv A outer s H E hr
 refine al ?_
 refine au ?_
 refine fh ?_ ?_
 ·exact af C_is_holding hr (ab (ac 0) (ab (ac 1) ae))
 refine iw ?_
 exact cK d_ (ag (ag (ac 0) (aq c_HELD)) ad) bw
abbrev ss:Stmt:=top 18
theorem uL:FnScope ["state","place","part"] ["state","place","part"] (defScope ss):=⟨rfl,rfl,rfl,by decide +kernel,rfl,by decide +kernel,by decide +kernel⟩
theorem ut {P:Program} {w:World} {K:PySem.W.Frag} {mg:Str->Option Value} {base:Heap} {k:Nat} {f:Addr} {fd:FuncData} (Fn:Fun K "put" "put" ss f fd):FnOk P w K mg base CX0 (k+1) f fd ["state","place","part"] (spD K aF):=by
 refine av Fn uL vi ?_ vh
 intro cdv A outer s H E hr
 refine al ?_
 refine au ?_
 refine ak aA ?_ ?_
 ·refine ak aA ?_ ?_
  ·refine gn (ac 0) ee ?_
   exact dj (ac 1)
  exact az (ab (ac 2) ae)
 refine gn (ac 0) ?_ ee
 refine dj ?_
 exact ak aA (ac 1) ad
abbrev db:Stmt:=top 24
theorem sc_alarm_hour_on:FnScope ["state","alarm"] ["state"] (defScope db):=⟨rfl,rfl,rfl,by decide +kernel,rfl,by decide +kernel,by decide +kernel⟩
theorem ib {P:Program} {w:World} {K:PySem.W.Frag} {mg:Str->Option Value} {base:Heap} {k:Nat} (C_put:Cal P w K mg base k "put" ["state","place","part"] aF) (c_ALARM:Con K mg "ALARM" bo) {f:Addr} {fd:FuncData} (Fn:Fun K "alarm_hour_on" "alarm_hour_on" db f fd):FnOk P w K mg base CX0 (k+1) f fd ["state"] (spD K aX):=by
 refine av Fn sc_alarm_hour_on jd ?_ jf
 intro cdv A outer s H E hr
 refine ai ?_ ?_
 ·refine aD (ag (ac 0) (aq c_ALARM)) ?_
  exact aj 1 sc_alarm_hour_on.nd
 refine al ?_
 refine au ?_
 refine af C_put hr ?_
 refine ab (ac 0) ?_
 refine ab (aq c_ALARM) ?_
 refine ab ?_ ae
 refine az ?_
 refine ab ?_ ?_
 ·refine ak aJ ?_ ad
  exact ak aA (ag (ac 1) ad) ad
 exact ab (ag (ac 1) ad) (ab (ag (ac 1) ad) ae)
abbrev cI:Stmt:=top 25
theorem sc_alarm_minute_on:FnScope ["state","alarm"] ["state"] (defScope cI):=⟨rfl,rfl,rfl,by decide +kernel,rfl,by decide +kernel,by decide +kernel⟩
theorem fV {P:Program} {w:World} {K:PySem.W.Frag} {mg:Str->Option Value} {base:Heap} {k:Nat} (C_put:Cal P w K mg base k "put" ["state","place","part"] aF) (c_ALARM:Con K mg "ALARM" bo) {f:Addr} {fd:FuncData} (Fn:Fun K "alarm_minute_on" "alarm_minute_on" cI f fd):FnOk P w K mg base CX0 (k+1) f fd ["state"] (spD K aN):=by
 refine av Fn sc_alarm_minute_on gK ?_ gF
 intro cdv A outer s H E hr
 refine ai ?_ ?_
 ·refine aD (ag (ac 0) (aq c_ALARM)) ?_
  exact aj 1 sc_alarm_minute_on.nd
 refine al ?_
 refine au ?_
 refine af C_put hr ?_
 refine ab (ac 0) ?_
 refine ab (aq c_ALARM) ?_
 refine ab ?_ ae
 refine az ?_
 refine ab (ag (ac 1) ad) ?_
 refine ab ?_ (ab (ag (ac 1) ad) ae)
 refine ak aJ ?_ ad
 exact ak aA (ag (ac 1) ad) ad
abbrev dE:Stmt:=top 26
theorem sc_alarm_turned:FnScope ["state","alarm"] ["state"] (defScope dE):=⟨rfl,rfl,rfl,by decide +kernel,rfl,by decide +kernel,by decide +kernel⟩
theorem i_ {P:Program} {w:World} {K:PySem.W.Frag} {mg:Str->Option Value} {base:Heap} {k:Nat} (C_put:Cal P w K mg base k "put" ["state","place","part"] aF) (c_ALARM:Con K mg "ALARM" bo) {f:Addr} {fd:FuncData} (Fn:Fun K "alarm_turned" "alarm_turned" dE f fd):FnOk P w K mg base CX0 (k+1) f fd ["state"] (spD K bh):=by
 refine av Fn sc_alarm_turned js ?_ jI
 intro cdv A outer s H E hr
 refine ai ?_ ?_
 ·refine aD (ag (ac 0) (aq c_ALARM)) ?_
  exact aj 1 sc_alarm_turned.nd
 refine al ?_
 refine au ?_
 refine af C_put hr ?_
 refine ab (ac 0) ?_
 refine ab (aq c_ALARM) ?_
 refine ab ?_ ae
 refine az ?_
 refine ab (ag (ac 1) ad) ?_
 refine ab (ag (ac 1) ad) ?_
 refine ab ?_ ae
 exact lT (ag (ac 1) ad)
abbrev jU:Stmt:=top 29
theorem qL:FnScope ["state","minute","second"] ["state","minute","second"] (defScope jU):=⟨rfl,rfl,rfl,by decide +kernel,rfl,by decide +kernel,by decide +kernel⟩
theorem rj {P:Program} {w:World} {K:PySem.W.Frag} {mg:Str->Option Value} {base:Heap} {k:Nat} (C_put:Cal P w K mg base k "put" ["state","place","part"] aF) (c_COUNT:Con K mg "COUNT" aV) {f:Addr} {fd:FuncData} (Fn:Fun K "set_to" "set_to" jU f fd):FnOk P w K mg base CX0 (k+1) f fd ["state","minute","second"] (spD K bP):=by
 refine av Fn qL sU ?_ so
 intro cdv A outer s H E hr
 refine ai ?_ ?_
 ·refine cH ?_ ?_ aT
  ·exact dB (ag (ag (ac 0) (aq c_COUNT)) ad)
  refine al ?_
  exact au (ac 0)
 refine al ?_
 refine au ?_
 refine af C_put hr ?_
 refine ab (ac 0) ?_
 refine ab (aq c_COUNT) ?_
 refine ab ?_ ae
 refine az ?_
 refine ab (ac 1) ?_
 refine ab (ac 2) ?_
 refine ab ?_ (ab fv ae)
 refine ak aA ?_ (ac 2)
 exact ak c_ ad (ac 1)
abbrev cF:Stmt:=top 30
theorem sc_count_minute_on:FnScope ["state","count"] ["state"] (defScope cF):=⟨rfl,rfl,rfl,by decide +kernel,rfl,by decide +kernel,by decide +kernel⟩
theorem f_ {P:Program} {w:World} {K:PySem.W.Frag} {mg:Str->Option Value} {base:Heap} {k:Nat} (C_set_to:Cal P w K mg base k "set_to" ["state","minute","second"] bP) (c_COUNT:Con K mg "COUNT" aV) {f:Addr} {fd:FuncData} (Fn:Fun K "count_minute_on" "count_minute_on" cF f fd):FnOk P w K mg base CX0 (k+1) f fd ["state"] (spD K aQ):=by
 refine av Fn sc_count_minute_on gS ?_ ga
 intro cdv A outer s H E hr
 refine ai ?_ ?_
 ·refine aD (ag (ac 0) (aq c_COUNT)) ?_
  exact aj 1 sc_count_minute_on.nd
 refine al ?_
 refine au ?_
 refine af C_set_to hr ?_
 refine ab (ac 0) ?_
 refine ab ?_ (ab (ag (ac 1) ad) ae)
 refine ak aJ ?_ ad
 exact ak aA (ag (ac 1) ad) ad
abbrev cJ:Stmt:=top 31
theorem sc_count_second_on:FnScope ["state","count"] ["state"] (defScope cJ):=⟨rfl,rfl,rfl,by decide +kernel,rfl,by decide +kernel,by decide +kernel⟩
theorem fZ {P:Program} {w:World} {K:PySem.W.Frag} {mg:Str->Option Value} {base:Heap} {k:Nat} (C_set_to:Cal P w K mg base k "set_to" ["state","minute","second"] bP) (c_COUNT:Con K mg "COUNT" aV) {f:Addr} {fd:FuncData} (Fn:Fun K "count_second_on" "count_second_on" cJ f fd):FnOk P w K mg base CX0 (k+1) f fd ["state"] (spD K aO):=by
 refine av Fn sc_count_second_on gO ?_ gl
 intro cdv A outer s H E hr
 refine ai ?_ ?_
 ·refine aD (ag (ac 0) (aq c_COUNT)) ?_
  exact aj 1 sc_count_second_on.nd
 refine al ?_
 refine au ?_
 refine af C_set_to hr ?_
 refine ab (ac 0) ?_
 refine ab (ag (ac 1) ad) ?_
 refine ab ?_ ae
 refine ak aJ ?_ ad
 exact ak aA (ag (ac 1) ad) ad
abbrev dC:Stmt:=top 33
theorem sc_count_turned:FnScope ["state","count","runs"] ["state"] (defScope dC):=⟨rfl,rfl,rfl,by decide +kernel,rfl,by decide +kernel,by decide +kernel⟩
theorem iX {P:Program} {w:World} {K:PySem.W.Frag} {mg:Str->Option Value} {base:Heap} {k:Nat} (C_put:Cal P w K mg base k "put" ["state","place","part"] aF) (c_COUNT:Con K mg "COUNT" aV) {f:Addr} {fd:FuncData} (Fn:Fun K "count_turned" "count_turned" dC f fd):FnOk P w K mg base CX0 (k+1) f fd ["state"] (spD K bv):=by
 refine av Fn sc_count_turned j6 ?_ jp
 intro cdv A outer s H E hr
 refine ai ?_ ?_
 ·refine aD (ag (ac 0) (aq c_COUNT)) ?_
  exact aj 1 sc_count_turned.nd
 refine ai ?_ ?_
 ·refine aD ?_ ?_
  ·refine fh ?_ ?_
   ·exact lT (ag (ac 1) ad)
   refine iw ?_
   exact cK gC (ag (ac 1) ad) ad
  exact aj 2 sc_count_turned.nd
 refine al ?_
 refine au ?_
 refine af C_put hr ?_
 refine ab (ac 0) ?_
 refine ab (aq c_COUNT) ?_
 refine ab ?_ ae
 refine az ?_
 refine ab (ag (ac 1) ad) ?_
 exact ab (ag (ac 1) ad) (ab (ag (ac 1) ad) (ab (ac 2) ae))
abbrev jQ:Stmt:=top 32
theorem sc_filled:FnScope ["state","count"] ["state"] (defScope jQ):=⟨rfl,rfl,rfl,by decide +kernel,rfl,by decide +kernel,by decide +kernel⟩
theorem rL {P:Program} {w:World} {K:PySem.W.Frag} {mg:Str->Option Value} {base:Heap} {k:Nat} (C_set_to:Cal P w K mg base k "set_to" ["state","minute","second"] bP) (c_COUNT:Con K mg "COUNT" aV) {f:Addr} {fd:FuncData} (Fn:Fun K "filled" "filled" jQ f fd):FnOk P w K mg base CX0 (k+1) f fd ["state"] (spD K cZ):=by
 refine av Fn sc_filled rR ?_ sA
 intro cdv A outer s H E hr
 refine ai ?_ ?_
 ·refine aD (ag (ac 0) (aq c_COUNT)) ?_
  exact aj 1 sc_filled.nd
 refine al ?_
 refine au ?_
 refine af C_set_to hr ?_
 refine ab (ac 0) ?_
 exact ab (ag (ac 1) ad) (ab (ag (ac 1) ad) ae)
abbrev hZ:Stmt:=top 21
theorem oW:FnScope ["state"] ["state"] (defScope hZ):=⟨rfl,rfl,rfl,by decide +kernel,rfl,by decide +kernel,by decide +kernel⟩
theorem pH {P:Program} {w:World} {K:PySem.W.Frag} {mg:Str->Option Value} {base:Heap} {k:Nat} (C_put:Cal P w K mg base k "put" ["state","place","part"] aF) (c_CLOCK:Con K mg "CLOCK" bj) {f:Addr} {fd:FuncData} (Fn:Fun K "hour_on" "hour_on" hZ f fd):FnOk P w K mg base CX0 (k+1) f fd ["state"] (spD K cC):=by
 refine av Fn oW rF ?_ qF
 intro cdv A outer s H E hr
 refine al ?_
 refine au ?_
 refine af C_put hr ?_
 refine ab (ac 0) ?_
 refine ab (aq c_CLOCK) ?_
 refine ab ?_ ae
 refine ak aJ ?_ ad
 exact ak aA (ag (ac 0) (aq c_CLOCK)) ad
abbrev fR:Stmt:=top 28
theorem sc_lap_kept:FnScope ["state","laps"] ["state"] (defScope fR):=⟨rfl,rfl,rfl,by decide +kernel,rfl,by decide +kernel,by decide +kernel⟩
theorem nG {P:Program} {w:World} {K:PySem.W.Frag} {mg:Str->Option Value} {base:Heap} {k:Nat} (C_put:Cal P w K mg base k "put" ["state","place","part"] aF) (m_len:mg "len" = none) (c_LAPS:Con K mg "LAPS" cy) (c_MOST_KEPT:Con K mg "MOST_KEPT" fo) {f:Addr} {fd:FuncData} (Fn:Fun K "lap_kept" "lap_kept" fR f fd):FnOk P w K mg base CX0 (k+1) f fd ["state"] (spD K cx):=by
 refine av Fn sc_lap_kept pi ?_ pG
 intro cdv A outer s H E hr
 refine ai ?_ ?_
 ·refine aD (ag (ac 0) (aq c_LAPS)) ?_
  exact aj 1 sc_lap_kept.nd
 refine ai ?_ ?_
 ·refine cH ?_ ?_ aT
  ·refine mU ?_
   exact dB (ag (ac 1) ad)
  refine al ?_
  refine au ?_
  refine af C_put hr ?_
  refine ab (ac 0) ?_
  refine ab (aq c_LAPS) ?_
  refine ab ?_ ae
  refine az ?_
  refine ab ad ?_
  refine ab fv ?_
  refine ab ?_ ae
  exact az ae
 refine ai ?_ ?_
 ·refine cH ?_ ?_ aT
  ·refine aE uk ?_ (aq c_MOST_KEPT)
   exact bG jS m_len (ab (ag (ac 1) ad) ae)
  refine al ?_
  exact au (ac 0)
 refine al ?_
 refine au ?_
 refine af C_put hr ?_
 refine ab (ac 0) ?_
 refine ab (aq c_LAPS) ?_
 refine ab ?_ ae
 refine az ?_
 refine ab (ag (ac 1) ad) ?_
 refine ab fv ?_
 refine ab ?_ ae
 refine ak aA (ag (ac 1) ad) ?_
 exact az (ab (ag (ac 1) ad) ae)
abbrev dM:Stmt:=top 27
theorem sc_laps_turned:FnScope ["state","laps"] ["state"] (defScope dM):=⟨rfl,rfl,rfl,by decide +kernel,rfl,by decide +kernel,by decide +kernel⟩
theorem jT {P:Program} {w:World} {K:PySem.W.Frag} {mg:Str->Option Value} {base:Heap} {k:Nat} (C_put:Cal P w K mg base k "put" ["state","place","part"] aF) (c_LAPS:Con K mg "LAPS" cy) {f:Addr} {fd:FuncData} (Fn:Fun K "laps_turned" "laps_turned" dM f fd):FnOk P w K mg base CX0 (k+1) f fd ["state"] (spD K bu):=by
 refine av Fn sc_laps_turned kF ?_ kJ
 intro cdv A outer s H E hr
 refine ai ?_ ?_
 ·refine aD (ag (ac 0) (aq c_LAPS)) ?_
  exact aj 1 sc_laps_turned.nd
 refine al ?_
 refine au ?_
 refine af C_put hr ?_
 refine ab (ac 0) ?_
 refine ab (aq c_LAPS) ?_
 refine ab ?_ ae
 refine az ?_
 refine ab (ag (ac 1) ad) ?_
 refine ab ?_ (ab (ag (ac 1) ad) ae)
 exact lT (ag (ac 1) ad)
abbrev fu:Stmt:=top 22
theorem sc_minute_on:FnScope ["state","clock","within"] ["state"] (defScope fu):=⟨rfl,rfl,rfl,by decide +kernel,rfl,by decide +kernel,by decide +kernel⟩
theorem lU {P:Program} {w:World} {K:PySem.W.Frag} {mg:Str->Option Value} {base:Heap} {k:Nat} (C_put:Cal P w K mg base k "put" ["state","place","part"] aF) (c_CLOCK:Con K mg "CLOCK" bj) {f:Addr} {fd:FuncData} (Fn:Fun K "minute_on" "minute_on" fu f fd):FnOk P w K mg base CX0 (k+1) f fd ["state"] (spD K bH):=by
 refine av Fn sc_minute_on oj ?_ mZ
 intro cdv A outer s H E hr
 refine ai ?_ ?_
 ·refine aD (ag (ac 0) (aq c_CLOCK)) ?_
  exact aj 1 sc_minute_on.nd
 refine ai ?_ ?_
 ·refine aD ?_ ?_
  ·refine ak aJ ?_ ad
   refine ak aA ?_ ad
   exact ak aJ (ac 1) ad
  exact aj 2 sc_minute_on.nd
 refine al ?_
 refine au ?_
 refine af C_put hr ?_
 refine ab (ac 0) ?_
 refine ab (aq c_CLOCK) ?_
 refine ab ?_ ae
 refine ak aA ?_ (ac 2)
 refine ak cw (ac 1) ?_
 exact ak aJ (ac 1) ad
abbrev ij:Stmt:=top 20
theorem oP:FnScope ["state"] ["state"] (defScope ij):=⟨rfl,rfl,rfl,by decide +kernel,rfl,by decide +kernel,by decide +kernel⟩
theorem qe {P:Program} {w:World} {K:PySem.W.Frag} {mg:Str->Option Value} {base:Heap} {k:Nat} {f:Addr} {fd:FuncData} (Fn:Fun K "nothing" "nothing" ij f fd):FnOk P w K mg base CX0 (k+1) f fd ["state"] (spD K cE):=by
 refine av Fn oP qE ?_ rg
 intro cdv A outer s H E hr
 refine al ?_
 exact au (ac 0)
abbrev hX:Stmt:=top 23
theorem oN:FnScope ["state"] ["state"] (defScope hX):=⟨rfl,rfl,rfl,by decide +kernel,rfl,by decide +kernel,by decide +kernel⟩
theorem oR {P:Program} {w:World} {K:PySem.W.Frag} {mg:Str->Option Value} {base:Heap} {k:Nat} (C_put:Cal P w K mg base k "put" ["state","place","part"] aF) (c_CLOCK:Con K mg "CLOCK" bj) {f:Addr} {fd:FuncData} (Fn:Fun K "to_zero" "to_zero" hX f fd):FnOk P w K mg base CX0 (k+1) f fd ["state"] (spD K cB):=by
 refine av Fn oN qM ?_ qH
 intro cdv A outer s H E hr
 refine al ?_
 refine au ?_
 refine af C_put hr ?_
 refine ab (ac 0) ?_
 refine ab (aq c_CLOCK) ?_
 refine ab ?_ ae
 refine ak cw (ag (ac 0) (aq c_CLOCK)) ?_
 exact ak aJ (ag (ac 0) (aq c_CLOCK)) ad
abbrev eD:Stmt:=top 35
theorem sc_press_done:FnScope ["book","state","press","rows","row","step"] ["book","state","press"] (defScope eD):=⟨rfl,rfl,rfl,by decide +kernel,rfl,by decide +kernel,by decide +kernel⟩
theorem kC {P:Program} {w:World} {K:PySem.W.Frag} {mg:Str->Option Value} {base:Heap} {k:Nat} (C_alarm_hour_on:Cal P w K mg base k "alarm_hour_on" ["state"] aX) (C_alarm_minute_on:Cal P w K mg base k "alarm_minute_on" ["state"] aN) (C_alarm_turned:Cal P w K mg base k "alarm_turned" ["state"] bh) (C_count_minute_on:Cal P w K mg base k "count_minute_on" ["state"] aQ) (C_count_second_on:Cal P w K mg base k "count_second_on" ["state"] aO) (C_count_turned:Cal P w K mg base k "count_turned" ["state"] bv) (C_filled:Cal P w K mg base k "filled" ["state"] cZ) (C_hour_on:Cal P w K mg base k "hour_on" ["state"] cC) (C_lap_kept:Cal P w K mg base k "lap_kept" ["state"] cx) (C_laps_turned:Cal P w K mg base k "laps_turned" ["state"] bu) (C_minute_on:Cal P w K mg base k "minute_on" ["state"] bH) (C_nothing:Cal P w K mg base k "nothing" ["state"] cE) (C_put:Cal P w K mg base k "put" ["state","place","part"] aF) (C_to_zero:Cal P w K mg base k "to_zero" ["state"] cB) (c_MODE:Con K mg "MODE" cq) (s_PRESSES:ConS K mg "PRESSES" dl) (T_STEPS:TabOk P w K mg base k "STEPS" tab_STEPS) {f:Addr} {fd:FuncData} (Fn:Fun K "press_done" "press_done" eD f fd):FnOk P w K mg base CX0 (k+1) f fd ["book","state","press"] (spD K bn):=by
 refine av Fn sc_press_done li ?_ lZ
 intro cdv A outer s H E hr
 refine ai ?_ ?_
 ·refine aD ?_ ?_
  ·exact ag (ag (ag (ac 0) ad) (ag (ac 1) (aq c_MODE))) ad
  exact aj 3 sc_press_done.nd
 refine ai ?_ ?_
 ·refine aD ?_ ?_
  ·refine ag (ac 3) ?_
   exact uJ s_PRESSES (ac 2)
  exact aj 4 sc_press_done.nd
 refine ul 5 sc_press_done.nd T_STEPS (ag (ac 4) ad) ?_
 intro fa G_ hF
 refine sx_ret ?_
 refine sex_call C_put hr ?_
 refine sax_cons ?_ ?_
 ·exact sex_callL hF hr (ab (ac 1) ae)
 exact sax_of (ab (aq c_MODE) (ab (ag (ac 4) ad) ae))
abbrev jV:Stmt:=top 61
theorem sc_let_go:FnScope ["book","state","button"] ["book","state","button"] (defScope jV):=⟨rfl,rfl,rfl,by decide +kernel,rfl,by decide +kernel,by decide +kernel⟩
theorem qK {P:Program} {w:World} {K:PySem.W.Frag} {mg:Str->Option Value} {base:Heap} {k:Nat} (C_is_holding:Cal P w K mg base k "is_holding" ["state","button"] bp) (C_is_short:Cal P w K mg base k "is_short" ["state","button"] cz) (C_press_done:Cal P w K mg base k "press_done" ["book","state","press"] bn) (C_put:Cal P w K mg base k "put" ["state","place","part"] aF) (c_HELD:Con K mg "HELD" bz) (c_IDLE:Con K mg "IDLE" dq) {f:Addr} {fd:FuncData} (Fn:Fun K "let_go" "let_go" jV f fd):FnOk P w K mg base CX0 (k+1) f fd ["book","state","button"] (spD K du):=by
 refine av Fn sc_let_go rZ ?_ sK
 intro cdv A outer s H E hr
 refine ai ?_ ?_
 ·refine cH ?_ ?_ aT
  ·refine mU ?_
   refine dB ?_
   exact af C_is_holding hr (ab (ac 1) (ab (ac 2) ae))
  refine al ?_
  exact au (ac 1)
 refine ai ?_ ?_
 ·refine cH ?_ ?_ aT
  ·refine dB ?_
   exact af C_is_short hr (ab (ac 1) (ab (ac 2) ae))
  refine al ?_
  refine aD ?_ ?_
  ·exact af C_press_done hr (ab (ac 0) (ab (ac 1) (ab (ac 2) ae)))
  exact aj 1 sc_let_go.nd
 refine al ?_
 refine au ?_
 refine af C_put hr ?_
 refine ab ?_ (ab (aq c_IDLE) (ab ad ae))
 exact af C_put hr (ab (ac 1) (ab (aq c_HELD) (ab bw ae)))
abbrev jP:Stmt:=top 60
theorem sc_pushed:FnScope ["state","button","ticks"] ["state","button"] (defScope jP):=⟨rfl,rfl,rfl,by decide +kernel,rfl,by decide +kernel,by decide +kernel⟩
theorem qG {P:Program} {w:World} {K:PySem.W.Frag} {mg:Str->Option Value} {base:Heap} {k:Nat} (C_put:Cal P w K mg base k "put" ["state","place","part"] aF) (c_HELD:Con K mg "HELD" bz) (c_IDLE:Con K mg "IDLE" dq) (c_RING:Con K mg "RING" eh) {f:Addr} {fd:FuncData} (Fn:Fun K "pushed" "pushed" jP f fd):FnOk P w K mg base CX0 (k+1) f fd ["state","button"] (spD K dv):=by
 refine av Fn sc_pushed tm ?_ sZ
 intro cdv A outer s H E hr
 refine ai ?_ ?_
 ·refine cH ?_ ?_ aT
  ·exact aE d_ (ag (ac 0) (aq c_HELD)) bw
  refine al ?_
  exact au (ac 0)
 refine ai ?_ ?_
 ·refine aD ?_ ?_
  ·refine ft ?_ bw ad
   exact aE gC (ag (ac 0) (aq c_RING)) ad
  exact aj 2 sc_pushed.nd
 refine al ?_
 refine au ?_
 refine af C_put hr ?_
 refine ab ?_ (ab (aq c_IDLE) (ab ad ae))
 refine af C_put hr ?_
 refine ab ?_ ?_
 ·exact af C_put hr (ab (ac 0) (ab (aq c_RING) (ab ad ae)))
 refine ab (aq c_HELD) ?_
 refine ab ?_ ae
 exact az (ab (ac 1) (ab (ac 2) ae))
abbrev fS:Stmt:=top 43
theorem sc_count_on:FnScope ["count","many","left"] ["count","many"] (defScope fS):=⟨rfl,rfl,rfl,by decide +kernel,rfl,by decide +kernel,by decide +kernel⟩
theorem nX {P:Program} {w:World} {K:PySem.W.Frag} {mg:Str->Option Value} {base:Heap} {k:Nat} (m_max:mg "max" = none) {f:Addr} {fd:FuncData} (Fn:Fun K "count_on" "count_on" fS f fd):FnOk P w K mg base CX0 (k+1) f fd ["count","many"] (spD K cA):=by
 refine av Fn sc_count_on pX ?_ pP
 intro cdv A outer s H E hr
 refine ai ?_ ?_
 ·refine cH ?_ ?_ aT
  ·refine mU ?_
   exact dB (ag (ac 0) ad)
  refine al ?_
  exact au (ac 0)
 refine ai ?_ ?_
 ·refine aD ?_ ?_
  ·refine bG (jz rfl) m_max ?_
   refine ab ad ?_
   refine ab ?_ ae
   exact ak cw (ag (ac 0) ad) (ac 1)
  exact aj 2 sc_count_on.nd
 refine al ?_
 refine au ?_
 refine az ?_
 refine ab (ag (ac 0) ad) ?_
 refine ab (ag (ac 0) ad) ?_
 refine ab (ac 2) ?_
 refine ab ?_ ae
 exact cK gC (ac 2) ad
abbrev ia:Stmt:=top 45
theorem pK:FnScope ["held","many"] ["held","many"] (defScope ia):=⟨rfl,rfl,rfl,by decide +kernel,rfl,by decide +kernel,by decide +kernel⟩
theorem oQ {P:Program} {w:World} {K:PySem.W.Frag} {mg:Str->Option Value} {base:Heap} {k:Nat} {f:Addr} {fd:FuncData} (Fn:Fun K "held_on" "held_on" ia f fd):FnOk P w K mg base CX0 (k+1) f fd ["held","many"] (spD K cT):=by
 refine av Fn pK qO ?_ rz
 intro cdv A outer s H E hr
 refine ai ?_ ?_
 ·refine cH ?_ ?_ aT
  ·refine fw ?_
   refine jF ?_ ?_
   ·exact aE gH (ac 0) bw
   refine ir ?_
   exact aE gH (ag (ac 0) ad) bw
  refine al ?_
  exact au (ac 0)
 refine al ?_
 refine au ?_
 refine az ?_
 refine ab (ag (ac 0) ad) ?_
 refine ab ?_ ae
 exact ak aA (ag (ac 0) ad) (ac 1)
abbrev de:Stmt:=top 46
theorem il:FnScope ["book","state"] ["book","state"] (defScope de):=⟨rfl,rfl,rfl,by decide +kernel,rfl,by decide +kernel,by decide +kernel⟩
theorem gW {P:Program} {w:World} {K:PySem.W.Frag} {mg:Str->Option Value} {base:Heap} {k:Nat} (m_max:mg "max" = none) (c_IDLE:Con K mg "IDLE" dq) {f:Addr} {fd:FuncData} (Fn:Fun K "ticks_to_back" "ticks_to_back" de f fd):FnOk P w K mg base CX0 (k+1) f fd ["book","state"] (spD K aS):=by
 refine av Fn il iT ?_ iY
 intro cdv A outer s H E hr
 refine al ?_
 refine au ?_
 refine bG (jz rfl) m_max ?_
 refine ab ad ?_
 refine ab ?_ ae
 exact ak cw (ag (ac 0) ad) (ag (ac 1) (aq c_IDLE))
abbrev iz:Stmt:=top 47
theorem sc_idle_on:FnScope ["book","state","many","ticks"] ["book","state","many"] (defScope iz):=⟨rfl,rfl,rfl,by decide +kernel,rfl,by decide +kernel,by decide +kernel⟩
theorem oY {P:Program} {w:World} {K:PySem.W.Frag} {mg:Str->Option Value} {base:Heap} {k:Nat} (C_ticks_to_back:Cal P w K mg base k "ticks_to_back" ["book","state"] aS) (c_HELD:Con K mg "HELD" bz) (c_IDLE:Con K mg "IDLE" dq) {f:Addr} {fd:FuncData} (Fn:Fun K "idle_on" "idle_on" iz f fd):FnOk P w K mg base CX0 (k+1) f fd ["book","state","many"] (spD K cV):=by
 refine av Fn sc_idle_on qQ ?_ rA
 intro cdv A outer s H E hr
 refine ai ?_ ?_
 ·refine cH ?_ ?_ aT
  ·refine fw ?_
   refine jF ?_ ?_
   ·exact aE d_ (ag (ac 1) (aq c_HELD)) bw
   refine ir ?_
   exact aE (dg hr) (ag (ac 0) ad) ad
  refine al ?_
  exact au (ag (ac 1) (aq c_IDLE))
 refine ai ?_ ?_
 ·refine aD ?_ ?_
  ·exact af C_ticks_to_back hr (ab (ac 0) (ab (ac 1) ae))
  exact aj 3 sc_idle_on.nd
 refine al ?_
 refine au ?_
 refine ft ?_ ?_ ?_
 ·exact aE qr (ac 2) (ac 3)
 ·exact ak aA (ag (ac 1) (aq c_IDLE)) (ac 2)
 refine ak aJ ?_ (ag (ac 0) ad)
 exact ak cw (ac 2) (ac 3)
abbrev iu:Stmt:=top 42
theorem pB:FnScope ["laps","many"] ["laps","many"] (defScope iu):=⟨rfl,rfl,rfl,by decide +kernel,rfl,by decide +kernel,by decide +kernel⟩
theorem pF {P:Program} {w:World} {K:PySem.W.Frag} {mg:Str->Option Value} {base:Heap} {k:Nat} {f:Addr} {fd:FuncData} (Fn:Fun K "laps_on" "laps_on" iu f fd):FnOk P w K mg base CX0 (k+1) f fd ["laps","many"] (spD K cW):=by
 refine av Fn pB ri ?_ qI
 intro cdv A outer s H E hr
 refine al ?_
 refine au ?_
 refine ft ?_ ?_ (ac 0)
 ·exact dB (ag (ac 0) ad)
 refine az ?_
 refine ab ?_ (ab fv (ab (ag (ac 0) ad) ae))
 exact ak aA (ag (ac 0) ad) (ac 1)
abbrev eJ:Stmt:=top 38
theorem sc_alarm_tick:FnScope ["state","alarm","second"] ["state"] (defScope eJ):=⟨rfl,rfl,rfl,by decide +kernel,rfl,by decide +kernel,by decide +kernel⟩
theorem kQ {P:Program} {w:World} {K:PySem.W.Frag} {mg:Str->Option Value} {base:Heap} {k:Nat} (c_ALARM:Con K mg "ALARM" bo) (c_CLOCK:Con K mg "CLOCK" bj) (c_DAY:Con K mg "DAY" eQ) {f:Addr} {fd:FuncData} (Fn:Fun K "alarm_tick" "alarm_tick" eJ f fd):FnOk P w K mg base CX0 (k+1) f fd ["state"] (spD K aR):=by
 refine av Fn sc_alarm_tick mt ?_ mj
 intro cdv A outer s H E hr
 refine ai ?_ ?_
 ·refine aD (ag (ac 0) (aq c_ALARM)) ?_
  exact aj 1 sc_alarm_tick.nd
 refine ai ?_ ?_
 ·refine cH ?_ ?_ aT
  ·refine mU ?_
   exact dB (ag (ac 1) ad)
  refine al ?_
  exact au bw
 refine ai ?_ ?_
 ·refine aD ?_ ?_
  ·refine ak aA ?_ ?_
   ·exact ak c_ ad (ag (ac 1) ad)
   exact ak c_ ad (ag (ac 1) ad)
  exact aj 2 sc_alarm_tick.nd
 refine al ?_
 refine au ?_
 refine ak aA ?_ ad
 refine ak aJ ?_ (aq c_DAY)
 refine ak cw ?_ ad
 exact ak cw (ac 2) (ag (ac 0) (aq c_CLOCK))
abbrev eO:Stmt:=top 39
theorem sc_count_tick:FnScope ["state","count"] ["state"] (defScope eO):=⟨rfl,rfl,rfl,by decide +kernel,rfl,by decide +kernel,by decide +kernel⟩
theorem kx {P:Program} {w:World} {K:PySem.W.Frag} {mg:Str->Option Value} {base:Heap} {k:Nat} (c_COUNT:Con K mg "COUNT" aV) {f:Addr} {fd:FuncData} (Fn:Fun K "count_tick" "count_tick" eO f fd):FnOk P w K mg base CX0 (k+1) f fd ["state"] (spD K aU):=by
 refine av Fn sc_count_tick mB ?_ ly
 intro cdv A outer s H E hr
 refine ai ?_ ?_
 ·refine aD (ag (ac 0) (aq c_COUNT)) ?_
  exact aj 1 sc_count_tick.nd
 refine al ?_
 refine au ?_
 refine ft ?_ (ag (ac 1) ad) bw
 exact dB (ag (ac 1) ad)
abbrev fj:Stmt:=top 40
theorem sc_last_ring:FnScope ["state","many","alarm","count","ticks"] ["state","many"] (defScope fj):=⟨rfl,rfl,rfl,by decide +kernel,rfl,by decide +kernel,by decide +kernel⟩
theorem mK {P:Program} {w:World} {K:PySem.W.Frag} {mg:Str->Option Value} {base:Heap} {k:Nat} (C_alarm_tick:Cal P w K mg base k "alarm_tick" ["state"] aR) (C_count_tick:Cal P w K mg base k "count_tick" ["state"] aU) (m_max:mg "max" = none) (c_DAY:Con K mg "DAY" eQ) {f:Addr} {fd:FuncData} (Fn:Fun K "last_ring" "last_ring" fj f fd):FnOk P w K mg base CX0 (k+1) f fd ["state","many"] (spD K b_):=by
 refine av Fn sc_last_ring oe ?_ nj
 intro cdv A outer s H E hr
 refine ai ?_ ?_
 ·refine aD ?_ ?_
  ·exact af C_alarm_tick hr (ab (ac 0) ae)
  exact aj 2 sc_last_ring.nd
 refine ai ?_ ?_
 ·refine aD ?_ ?_
  ·exact af C_count_tick hr (ab (ac 0) ae)
  exact aj 3 sc_last_ring.nd
 refine pR 4 sc_last_ring.nd ae ?_
 refine gD ?_ ?_
 ·refine uh ?_ ?_ qg
  ·refine fw ?_
   refine jL ?_ ?_
   ·exact aE d_ (ac 2) bw
   refine gy ?_
   exact aE uq (ac 2) (ac 1)
  refine mX ?_
  refine mr 4 ?_
  refine ak cw (ac 1) ?_
  refine ak aJ ?_ (aq c_DAY)
  exact ak cw (ac 1) (ac 2)
 refine gD ?_ ?_
 ·refine uh ?_ ?_ qg
  ·refine fw ?_
   refine jL ?_ ?_
   ·exact aE d_ (ac 3) bw
   refine gy ?_
   exact aE uq (ac 3) (ac 1)
  refine mX ?_
  exact mr 4 (ac 3)
 refine pW ?_
 refine al ?_
 refine au ?_
 exact tE rfl m_max (ac 4)
abbrev ip:Stmt:=top 44
theorem sc_ring_on:FnScope ["state","many","last"] ["state","many"] (defScope ip):=⟨rfl,rfl,rfl,by decide +kernel,rfl,by decide +kernel,by decide +kernel⟩
theorem pC {P:Program} {w:World} {K:PySem.W.Frag} {mg:Str->Option Value} {base:Heap} {k:Nat} (C_last_ring:Cal P w K mg base k "last_ring" ["state","many"] b_) (m_max:mg "max" = none) (c_FULL_RING:Con K mg "FULL_RING" eV) (c_RING:Con K mg "RING" eh) {f:Addr} {fd:FuncData} (Fn:Fun K "ring_on" "ring_on" ip f fd):FnOk P w K mg base CX0 (k+1) f fd ["state","many"] (spD K cQ):=by
 refine av Fn sc_ring_on rn ?_ rq
 intro cdv A outer s H E hr
 refine ai ?_ ?_
 ·refine aD ?_ ?_
  ·exact af C_last_ring hr (ab (ac 0) (ab (ac 1) ae))
  exact aj 2 sc_ring_on.nd
 refine ai ?_ ?_
 ·refine cH ?_ ?_ aT
  ·exact aE gH (ac 2) bw
  refine al ?_
  refine au ?_
  refine bG (jz rfl) m_max ?_
  refine ab ad ?_
  refine ab ?_ ae
  exact ak cw (ag (ac 0) (aq c_RING)) (ac 1)
 refine al ?_
 refine au ?_
 refine bG (jz rfl) m_max ?_
 refine ab ad ?_
 refine ab ?_ ae
 refine ak cw (aq c_FULL_RING) ?_
 exact ak cw (ac 1) (ac 2)
abbrev gZ:Stmt:=top 48
theorem oS:FnScope ["book","state","many"] ["book","state","many"] (defScope gZ):=⟨rfl,rfl,rfl,by decide +kernel,rfl,by decide +kernel,by decide +kernel⟩
theorem pS {P:Program} {w:World} {K:PySem.W.Frag} {mg:Str->Option Value} {base:Heap} {k:Nat} (C_count_on:Cal P w K mg base k "count_on" ["count","many"] cA) (C_held_on:Cal P w K mg base k "held_on" ["held","many"] cT) (C_idle_on:Cal P w K mg base k "idle_on" ["book","state","many"] cV) (C_laps_on:Cal P w K mg base k "laps_on" ["laps","many"] cW) (C_ring_on:Cal P w K mg base k "ring_on" ["state","many"] cQ) (c_ALARM:Con K mg "ALARM" bo) (c_CLOCK:Con K mg "CLOCK" bj) (c_COUNT:Con K mg "COUNT" aV) (c_DAY:Con K mg "DAY" eQ) (c_HELD:Con K mg "HELD" bz) (c_LAPS:Con K mg "LAPS" cy) (c_MODE:Con K mg "MODE" cq) {f:Addr} {fd:FuncData} (Fn:Fun K "counted" "counted" gZ f fd):FnOk P w K mg base CX0 (k+1) f fd ["book","state","many"] (spD K cj):=by
 refine av Fn oS rE ?_ rH
 intro cdv A outer s H E hr
 refine al ?_
 refine au ?_
 refine az ?_
 refine ab (ag (ac 1) (aq c_MODE)) ?_
 refine ab ?_ ?_
 ·refine ak aJ ?_ (aq c_DAY)
  exact ak aA (ag (ac 1) (aq c_CLOCK)) (ac 2)
 refine ab (ag (ac 1) (aq c_ALARM)) ?_
 refine ab ?_ ?_
 ·refine af C_laps_on hr ?_
  exact ab (ag (ac 1) (aq c_LAPS)) (ab (ac 2) ae)
 refine ab ?_ ?_
 ·refine af C_count_on hr ?_
  exact ab (ag (ac 1) (aq c_COUNT)) (ab (ac 2) ae)
 refine ab ?_ ?_
 ·exact af C_ring_on hr (ab (ac 1) (ab (ac 2) ae))
 refine ab ?_ ?_
 ·refine af C_held_on hr ?_
  exact ab (ag (ac 1) (aq c_HELD)) (ab (ac 2) ae)
 refine ab ?_ ae
 exact af C_idle_on hr (ab (ac 0) (ab (ac 1) (ab (ac 2) ae)))
abbrev fD:Stmt:=top 49
theorem mJ:FnScope ["book","state"] ["book","state"] (defScope fD):=⟨rfl,rfl,rfl,by decide +kernel,rfl,by decide +kernel,by decide +kernel⟩
theorem lN {P:Program} {w:World} {K:PySem.W.Frag} {mg:Str->Option Value} {base:Heap} {k:Nat} (c_MODE:Con K mg "MODE" cq) {f:Addr} {fd:FuncData} (Fn:Fun K "goes_back" "goes_back" fD f fd):FnOk P w K mg base CX0 (k+1) f fd ["book","state"] (spD K cb):=by
 refine av Fn mJ oI ?_ nQ
 intro cdv A outer s H E hr
 refine al ?_
 refine au ?_
 refine fh ?_ ?_
 ·exact cK gC (ag (ac 0) ad) ad
 refine fh ?_ ?_
 ·exact cK (rQ hr) (ag (ac 1) (aq c_MODE)) ad
 refine iw ?_
 refine lT ?_
 exact ag (ag (ag (ac 0) ad) (ag (ac 1) (aq c_MODE))) ad
abbrev df:Stmt:=top 50
theorem io:FnScope ["book","state"] ["book","state"] (defScope df):=⟨rfl,rfl,rfl,by decide +kernel,rfl,by decide +kernel,by decide +kernel⟩
theorem ii {P:Program} {w:World} {K:PySem.W.Frag} {mg:Str->Option Value} {base:Heap} {k:Nat} (m_max:mg "max" = none) (c_HELD:Con K mg "HELD" bz) {f:Addr} {fd:FuncData} (Fn:Fun K "ticks_to_long" "ticks_to_long" df f fd):FnOk P w K mg base CX0 (k+1) f fd ["book","state"] (spD K bm):=by
 refine av Fn io ja ?_ je
 intro cdv A outer s H E hr
 refine al ?_
 refine au ?_
 refine bG (jz rfl) m_max ?_
 refine ab ad ?_
 refine ab ?_ ae
 exact ak cw (ag (ac 0) ad) (ag (ag (ac 1) (aq c_HELD)) ad)
abbrev eY:Stmt:=top 51
theorem sc_turn_tick:FnScope ["book","state","held"] ["book","state"] (defScope eY):=⟨rfl,rfl,rfl,by decide +kernel,rfl,by decide +kernel,by decide +kernel⟩
theorem mh {P:Program} {w:World} {K:PySem.W.Frag} {mg:Str->Option Value} {base:Heap} {k:Nat} (C_goes_back:Cal P w K mg base k "goes_back" ["book","state"] cb) (C_ticks_to_back:Cal P w K mg base k "ticks_to_back" ["book","state"] aS) (C_ticks_to_long:Cal P w K mg base k "ticks_to_long" ["book","state"] bm) (c_HELD:Con K mg "HELD" bz) {f:Addr} {fd:FuncData} (Fn:Fun K "turn_tick" "turn_tick" eY f fd):FnOk P w K mg base CX0 (k+1) f fd ["book","state"] (spD K bE):=by
 refine av Fn sc_turn_tick m_ ?_ oG
 intro cdv A outer s H E hr
 refine ai ?_ ?_
 ·refine aD (ag (ac 1) (aq c_HELD)) ?_
  exact aj 2 sc_turn_tick.nd
 refine ai ?_ ?_
 ·refine cH ?_ ?_ aT
  ·exact aE gH (ac 2) bw
  refine al ?_
  refine au ?_
  refine ft ?_ ?_ bw
  ·refine dB ?_
   exact af C_goes_back hr (ab (ac 0) (ab (ac 1) ae))
  exact af C_ticks_to_back hr (ab (ac 0) (ab (ac 1) ae))
 refine al ?_
 refine au ?_
 refine ft ?_ bw ?_
 ·exact aE gH (ag (ac 2) ad) bw
 exact af C_ticks_to_long hr (ab (ac 0) (ab (ac 1) ae))
abbrev jA:Stmt:=top 52
theorem sc_turned:FnScope ["book","state","held"] ["book","state"] (defScope jA):=⟨rfl,rfl,rfl,by decide +kernel,rfl,by decide +kernel,by decide +kernel⟩
theorem qP {P:Program} {w:World} {K:PySem.W.Frag} {mg:Str->Option Value} {base:Heap} {k:Nat} (C_press_done:Cal P w K mg base k "press_done" ["book","state","press"] bn) (C_put:Cal P w K mg base k "put" ["state","place","part"] aF) (c_HELD:Con K mg "HELD" bz) (c_MODE:Con K mg "MODE" cq) {f:Addr} {fd:FuncData} (Fn:Fun K "turned" "turned" jA f fd):FnOk P w K mg base CX0 (k+1) f fd ["book","state"] (spD K dG):=by
 refine av Fn sc_turned rT ?_ sY
 intro cdv A outer s H E hr
 refine ai ?_ ?_
 ·refine aD (ag (ac 1) (aq c_HELD)) ?_
  exact aj 2 sc_turned.nd
 refine ai ?_ ?_
 ·refine cH ?_ ?_ aT
  ·exact aE gH (ac 2) bw
  refine al ?_
  refine au ?_
  exact af C_put hr (ab (ac 1) (ab (aq c_MODE) (ab ad ae)))
 refine al ?_
 refine au ?_
 refine af C_press_done hr ?_
 refine ab (ac 0) ?_
 refine ab ?_ ?_
 ·refine af C_put hr ?_
  refine ab (ac 1) ?_
  refine ab (aq c_HELD) ?_
  refine ab ?_ ae
  exact az (ab (ag (ac 2) ad) (ab bw ae))
 refine ab ?_ ae
 exact vk (ag (ac 2) ad)
abbrev dW:Stmt:=top 53
theorem jE:FnScope ["book","state"] ["book","state"] (defScope dW):=⟨rfl,rfl,rfl,by decide +kernel,rfl,by decide +kernel,by decide +kernel⟩
theorem jy {P:Program} {w:World} {K:PySem.W.Frag} {mg:Str->Option Value} {base:Heap} {k:Nat} (C_counted:Cal P w K mg base k "counted" ["book","state","many"] cj) (C_turn_tick:Cal P w K mg base k "turn_tick" ["book","state"] bE) (C_turned:Cal P w K mg base k "turned" ["book","state"] dG) {f:Addr} {fd:FuncData} (Fn:Fun K "behind_turn" "behind_turn" dW f fd):FnOk P w K mg base CX0 (k+1) f fd ["book","state"] (spD K br):=by
 refine av Fn jE ke ?_ kz
 intro cdv A outer s H E hr
 refine al ?_
 refine au ?_
 refine af C_turned hr ?_
 refine ab (ac 0) ?_
 refine ab ?_ ae
 refine af C_counted hr ?_
 refine ab (ac 0) ?_
 refine ab (ac 1) ?_
 refine ab ?_ ae
 exact af C_turn_tick hr (ab (ac 0) (ab (ac 1) ae))
abbrev fr:Stmt:=top 54
theorem sc_stretches:FnScope ["book","state","many","turn"] ["book","state","many"] (defScope fr):=⟨rfl,rfl,rfl,by decide +kernel,rfl,by decide +kernel,by decide +kernel⟩
theorem lF {P:Program} {w:World} {K:PySem.W.Frag} {mg:Str->Option Value} {base:Heap} {k:Nat} (C_behind_turn:Cal P w K mg base k "behind_turn" ["book","state"] br) (C_turn_tick:Cal P w K mg base k "turn_tick" ["book","state"] bE) {f:Addr} {fd:FuncData} (Fn:Fun K "stretches" "stretches" fr f fd):FnOk P w K mg base CX0 (k+1) f fd ["book","state","many"] (spD K aY):=by
 refine av Fn sc_stretches oo ?_ oz
 intro cdv A outer s H E hr
 refine ai ?_ ?_
 ·refine aD ?_ ?_
  ·exact af C_turn_tick hr (ab (ac 0) (ab (ac 1) ae))
  exact aj 3 sc_stretches.nd
 refine ai ?_ ?_
 ·refine cH ?_ ?_ aT
  ·refine fw ?_
   refine jF ?_ ?_
   ·exact aE gH (ac 3) bw
   refine ir ?_
   exact aE gC (ac 3) (ac 2)
  refine al ?_
  refine au ?_
  refine sE ?_
  refine ab ?_ ae
  exact az (ab ad (ab (ac 1) (ab (ac 2) ae)))
 refine al ?_
 refine au ?_
 refine sE ?_
 refine ab ?_ ?_
 ·exact az (ab ad (ab (ac 1) (ab (ac 3) ae)))
 refine ab ?_ ae
 refine az ?_
 refine ab (ac 3) ?_
 refine ab ?_ ?_
 ·exact af C_behind_turn hr (ab (ac 0) (ab (ac 1) ae))
 refine ab ?_ ae
 exact ak cw (ac 2) (ac 3)
abbrev jq:Stmt:=top 55
theorem sc_ticked:FnScope ["book","state","many","last"] ["book","state","many"] (defScope jq):=⟨rfl,rfl,rfl,by decide +kernel,rfl,by decide +kernel,by decide +kernel⟩
theorem rJ {P:Program} {w:World} {K:PySem.W.Frag} {mg:Str->Option Value} {base:Heap} {k:Nat} (C_counted:Cal P w K mg base k "counted" ["book","state","many"] cj) (C_stretches:Cal P w K mg base k "stretches" ["book","state","many"] aY) {f:Addr} {fd:FuncData} (Fn:Fun K "ticked" "ticked" jq f fd):FnOk P w K mg base CX0 (k+1) f fd ["book","state","many"] (spD K dz):=by
 refine av Fn sc_ticked sJ ?_ sS
 intro cdv A outer s H E hr
 refine ai ?_ ?_
 ·refine aD ?_ ?_
  ·refine ag ?_ ?_
   ·exact af C_stretches hr (ab (ac 0) (ab (ac 1) (ab (ac 2) ae)))
   exact uj rY ad
  exact aj 3 sc_ticked.nd
 refine al ?_
 refine au ?_
 refine af C_counted hr ?_
 refine ab (ac 0) ?_
 exact ab (ag (ac 3) ad) (ab (ag (ac 3) ad) ae)
abbrev pz:Stmt:=top 59
theorem tJ:FnScope ["book","state","event"] ["book","state","event"] (defScope pz):=⟨rfl,rfl,rfl,by decide +kernel,rfl,by decide +kernel,by decide +kernel⟩
theorem tL {P:Program} {w:World} {K:PySem.W.Frag} {mg:Str->Option Value} {base:Heap} {k:Nat} (C_let_go:Cal P w K mg base k "let_go" ["book","state","button"] du) (C_pushed:Cal P w K mg base k "pushed" ["state","button"] dv) (C_ticked:Cal P w K mg base k "ticked" ["book","state","many"] dz) {f:Addr} {fd:FuncData} (Fn:Fun K "gone" "gone" pz f fd):FnOk P w K mg base CX0 (k+1) f fd ["book","state","event"] (spD K dU):=by
 refine av Fn tJ uZ ?_ uK
 intro cdv A outer s H E hr
 refine ai ?_ ?_
 ·refine cH ?_ ?_ aT
  ·exact aE (dg hr) (ag (ac 2) ad) ay
  refine al ?_
  refine au ?_
  exact af C_pushed hr (ab (ac 1) (ab (ag (ac 2) ad) ae))
 refine ai ?_ ?_
 ·refine cH ?_ ?_ aT
  ·exact aE (dg hr) (ag (ac 2) ad) ay
  refine al ?_
  refine au ?_
  refine af C_let_go hr ?_
  exact ab (ac 0) (ab (ac 1) (ab (ag (ac 2) ad) ae))
 refine al ?_
 refine au ?_
 refine af C_ticked hr ?_
 exact ab (ac 0) (ab (ac 1) (ab (ag (ac 2) ad) ae))
abbrev dS:Stmt:=top 67
theorem j5:FnScope ["number"] ["number"] (defScope dS):=⟨rfl,rfl,rfl,by decide +kernel,rfl,by decide +kernel,by decide +kernel⟩
theorem jO {P:Program} {w:World} {K:PySem.W.Frag} {mg:Str->Option Value} {base:Heap} {k:Nat} (C_figures:Cal P w K mg base k "figures" ["number"] bF) {f:Addr} {fd:FuncData} (Fn:Fun K "two_figures" "two_figures" dS f fd):FnOk P w K mg base CX0 (k+1) f fd ["number"] (spD K aK):=by
 refine av Fn j5 kO ?_ kf
 intro cdv A outer s H E hr
 refine al ?_
 refine au ?_
 refine vq ?_ (ab ad (ab ay ae))
 exact af C_figures hr (ab (ac 0) ae)
abbrev eU:Stmt:=top 68
theorem lR:FnScope ["hour","minute"] ["hour","minute"] (defScope eU):=⟨rfl,rfl,rfl,by decide +kernel,rfl,by decide +kernel,by decide +kernel⟩
theorem lp {P:Program} {w:World} {K:PySem.W.Frag} {mg:Str->Option Value} {base:Heap} {k:Nat} (C_two_figures:Cal P w K mg base k "two_figures" ["number"] aK) {f:Addr} {fd:FuncData} (Fn:Fun K "hour_text" "hour_text" eU f fd):FnOk P w K mg base CX0 (k+1) f fd ["hour","minute"] (spD K bB):=by
 refine av Fn lR ox ?_ nR
 intro cdv A outer s H E hr
 refine al ?_
 refine au ?_
 refine ak aA ?_ ?_
 ·refine ak aA ?_ ay
  exact af C_two_figures hr (ab (ac 0) ae)
 exact af C_two_figures hr (ab (ac 1) ae)
abbrev eC:Stmt:=top 71
theorem sc_alarm_text:FnScope ["state","alarm"] ["state"] (defScope eC):=⟨rfl,rfl,rfl,by decide +kernel,rfl,by decide +kernel,by decide +kernel⟩
theorem kg {P:Program} {w:World} {K:PySem.W.Frag} {mg:Str->Option Value} {base:Heap} {k:Nat} (C_hour_text:Cal P w K mg base k "hour_text" ["hour","minute"] bB) (c_ALARM:Con K mg "ALARM" bo) {f:Addr} {fd:FuncData} (Fn:Fun K "alarm_text" "alarm_text" eC f fd):FnOk P w K mg base CX0 (k+1) f fd ["state"] (spD K bM):=by
 refine av Fn sc_alarm_text lK ?_ mT
 intro cdv A outer s H E hr
 refine ai ?_ ?_
 ·refine aD (ag (ac 0) (aq c_ALARM)) ?_
  exact aj 1 sc_alarm_text.nd
 refine al ?_
 refine au ?_
 refine ak aA ?_ ?_
 ·refine af C_hour_text hr ?_
  exact ab (ag (ac 1) ad) (ab (ag (ac 1) ad) ae)
 refine ft ?_ ay ay
 exact dB (ag (ac 1) ad)
abbrev dL:Stmt:=top 69
theorem jH:FnScope ["seconds"] ["seconds"] (defScope dL):=⟨rfl,rfl,rfl,by decide +kernel,rfl,by decide +kernel,by decide +kernel⟩
theorem jG {P:Program} {w:World} {K:PySem.W.Frag} {mg:Str->Option Value} {base:Heap} {k:Nat} (C_figures:Cal P w K mg base k "figures" ["number"] bF) (C_two_figures:Cal P w K mg base k "two_figures" ["number"] aK) {f:Addr} {fd:FuncData} (Fn:Fun K "minute_text" "minute_text" dL f fd):FnOk P w K mg base CX0 (k+1) f fd ["seconds"] (spD K bc):=by
 refine av Fn jH kj ?_ kU
 intro cdv A outer s H E hr
 refine al ?_
 refine au ?_
 refine ak aA ?_ ?_
 ·refine ak aA ?_ ay
  refine af C_figures hr ?_
  refine ab ?_ ae
  exact ak bY (ac 0) ad
 refine af C_two_figures hr ?_
 refine ab ?_ ae
 exact ak aJ (ac 0) ad
abbrev eP:Stmt:=top 73
theorem kE:FnScope ["state"] ["state"] (defScope eP):=⟨rfl,rfl,rfl,by decide +kernel,rfl,by decide +kernel,by decide +kernel⟩
theorem ki {P:Program} {w:World} {K:PySem.W.Frag} {mg:Str->Option Value} {base:Heap} {k:Nat} (C_minute_text:Cal P w K mg base k "minute_text" ["seconds"] bc) (c_COUNT:Con K mg "COUNT" aV) {f:Addr} {fd:FuncData} (Fn:Fun K "count_text" "count_text" eP f fd):FnOk P w K mg base CX0 (k+1) f fd ["state"] (spD K bL):=by
 refine av Fn kE mz ?_ lu
 intro cdv A outer s H E hr
 refine al ?_
 refine au ?_
 exact af C_minute_text hr (ab (ag (ag (ac 0) (aq c_COUNT)) ad) ae)
abbrev fm:Stmt:=top 72
theorem sc_laps_text:FnScope ["state","laps","kept"] ["state"] (defScope fm):=⟨rfl,rfl,rfl,by decide +kernel,rfl,by decide +kernel,by decide +kernel⟩
theorem mI {P:Program} {w:World} {K:PySem.W.Frag} {mg:Str->Option Value} {base:Heap} {k:Nat} (C_minute_text:Cal P w K mg base k "minute_text" ["seconds"] bc) (m_len:mg "len" = none) (m_str:mg "str" = none) (c_LAPS:Con K mg "LAPS" cy) {f:Addr} {fd:FuncData} (Fn:Fun K "laps_text" "laps_text" fm f fd):FnOk P w K mg base CX0 (k+1) f fd ["state"] (spD K bV):=by
 refine av Fn sc_laps_text nu ?_ oH
 intro cdv A outer s H E hr
 refine ai ?_ ?_
 ·refine aD (ag (ac 0) (aq c_LAPS)) ?_
  exact aj 1 sc_laps_text.nd
 refine ai ?_ ?_
 ·refine aD ?_ ?_
  ·exact bG jS m_len (ab (ag (ac 1) ad) ae)
  exact aj 2 sc_laps_text.nd
 refine al ?_
 refine au ?_
 refine ak aA ?_ ?_
 ·exact af C_minute_text hr (ab (ag (ac 1) ad) ae)
 refine ft ?_ ?_ ay
 ·exact aE gC (ac 2) ad
 refine ak aA ay ?_
 exact cY sX m_str (ab (ac 2) ae)
abbrev fz:Stmt:=top 70
theorem sc_time_text:FnScope ["state","clock"] ["state"] (defScope fz):=⟨rfl,rfl,rfl,by decide +kernel,rfl,by decide +kernel,by decide +kernel⟩
theorem l_ {P:Program} {w:World} {K:PySem.W.Frag} {mg:Str->Option Value} {base:Heap} {k:Nat} (C_hour_text:Cal P w K mg base k "hour_text" ["hour","minute"] bB) (C_two_figures:Cal P w K mg base k "two_figures" ["number"] aK) (c_CLOCK:Con K mg "CLOCK" bj) {f:Addr} {fd:FuncData} (Fn:Fun K "time_text" "time_text" fz f fd):FnOk P w K mg base CX0 (k+1) f fd ["state"] (spD K bX):=by
 refine av Fn sc_time_text oh ?_ nA
 intro cdv A outer s H E hr
 refine ai ?_ ?_
 ·refine aD (ag (ac 0) (aq c_CLOCK)) ?_
  exact aj 1 sc_time_text.nd
 refine al ?_
 refine au ?_
 refine ak aA ?_ ?_
 ·refine ak aA ?_ ay
  refine af C_hour_text hr ?_
  refine ab ?_ ?_
  ·exact ak bY (ac 1) ad
  refine ab ?_ ae
  refine ak aJ ?_ ad
  exact ak bY (ac 1) ad
 refine af C_two_figures hr ?_
 refine ab ?_ ae
 exact ak aJ (ac 1) ad
abbrev mY:Stmt:=top 64
theorem sc_shown:FnScope ["book","state","face","face_text"] ["book","state"] (defScope mY):=⟨rfl,rfl,rfl,by decide +kernel,rfl,by decide +kernel,by decide +kernel⟩
theorem sW {P:Program} {w:World} {K:PySem.W.Frag} {mg:Str->Option Value} {base:Heap} {k:Nat} (C_alarm_text:Cal P w K mg base k "alarm_text" ["state"] bM) (C_count_text:Cal P w K mg base k "count_text" ["state"] bL) (C_laps_text:Cal P w K mg base k "laps_text" ["state"] bV) (C_time_text:Cal P w K mg base k "time_text" ["state"] bX) (c_MODE:Con K mg "MODE" cq) (c_RING:Con K mg "RING" eh) (T_FACE_TEXTS:TabOk P w K mg base k "FACE_TEXTS" tab_FACE_TEXTS) {f:Addr} {fd:FuncData} (Fn:Fun K "shown" "shown" mY f fd):FnOk P w K mg base CX0 (k+1) f fd ["book","state"] (spD K cN):=by
 refine av Fn sc_shown tH ?_ ue
 intro cdv A outer s H E hr
 refine ai ?_ ?_
 ·refine aD ?_ ?_
  ·exact ag (ag (ag (ac 0) ad) (ag (ac 1) (aq c_MODE))) ad
  exact aj 2 sc_shown.nd
 refine ul 3 sc_shown.nd T_FACE_TEXTS (ac 2) ?_
 intro fa G_ hF
 refine sx_ret ?_
 refine sex_tup ?_
 refine sax_cons ?_ ?_
 ·exact sex_of (ac 2)
 refine sax_cons ?_ ?_
 ·exact sex_callL hF hr (ab (ac 1) ae)
 refine sax_of ?_
 refine ab ?_ ae
 exact cK gC (ag (ac 1) (aq c_RING)) ad
abbrev pD:Stmt:=top 82
theorem sc_seen:FnScope ["book","row","state","event","sights"] ["book","row"] (defScope pD):=⟨rfl,rfl,rfl,by decide +kernel,rfl,by decide +kernel,by decide +kernel⟩
theorem tY {P:Program} {w:World} {K:PySem.W.Frag} {mg:Str->Option Value} {base:Heap} {k:Nat} (C_begun:Cal P w K mg base k "begun" ["book"] ce) (C_gone:Cal P w K mg base k "gone" ["book","state","event"] dU) (m_tuple:mg "tuple" = none) (C_shown_going:Cal P w K mg base k "shown_going" ["book","state"] cN) {f:Addr} {fd:FuncData} (Fn:Fun K "seen" "seen" pD f fd):FnOk P w K mg base CX0 (k+1) f fd ["book","row"] (spD K fO):=by
 refine av Fn sc_seen uH ?_ uC
 intro cdv A outer s H E hr
 refine ai ?_ ?_
 ·refine aD ?_ ?_
  ·exact af C_begun hr (ab (ac 0) ae)
  exact aj 2 sc_seen.nd
 refine pR 4 sc_seen.nd ae ?_
 refine gD ?_ ?_
 ·refine uT PassesOwn.never rfl ?_ ?_ ?_
  ·exact jr (ac 1)
  ·exact aj 3 sc_seen.nd
  refine se ?_ ?_
  ·refine qD ?_
   refine aD ?_ ?_
   ·exact af C_gone hr (ab (ac 0) (ab (ac 2) (ab (ac 3) ae)))
   exact aj 2 sc_seen.nd
  refine mX ?_
  refine mr 4 ?_
  exact af C_shown_going hr (ab (ac 0) (ab (ac 2) ae))
 refine pW ?_
 refine al ?_
 refine au ?_
 exact cY gw m_tuple (ab (ac 4) ae)
abbrev eN:Stmt:=inClass (top 78) 7
theorem kP:FnScope ["self"] ["self"] (defScope eN):=⟨rfl,rfl,rfl,by decide +kernel,rfl,by decide +kernel,by decide +kernel⟩
theorem kM {P:Program} {w:World} {K:PySem.W.Frag} {mg:Str->Option Value} {base:Heap} {k:Nat} {C:Nat} (cl:Cls K C) (n_rung:NoAttr K C "rung") {f:Addr} {fd:FuncData} (Fn:Fun K "rang" "Watch.rang" eN f fd):FnOk P w K mg base CX0 (k+1) f fd ["self"] (spD K (bJ C)):=by
 refine av Fn kP (lS C) ?_ (lJ C)
 intro cdv A outer s H E hr
 refine al ?_
 refine au ?_
 exact cR cl n_rung (ac 0)
abbrev fB:Stmt:=inClass (top 78) 9
theorem my:FnScope ["self"] ["self"] (defScope fB):=⟨rfl,rfl,rfl,by decide +kernel,rfl,by decide +kernel,by decide +kernel⟩
theorem lL {P:Program} {w:World} {K:PySem.W.Frag} {mg:Str->Option Value} {base:Heap} {k:Nat} (m_tuple:mg "tuple" = none) {C:Nat} (cl:Cls K C) (n_past:NoAttr K C "past") {f:Addr} {fd:FuncData} (Fn:Fun K "row" "Watch.row" fB f fd):FnOk P w K mg base CX0 (k+1) f fd ["self"] (spD K (bi C)):=by
 refine av Fn my (nK C) ?_ (nS C)
 intro cdv A outer s H E hr
 refine al ?_
 refine au ?_
 refine cY gw m_tuple ?_
 refine ab ?_ ae
 refine qi 0 C ?_
 refine lg (T:=["step"]) rfl ?_ ?_ ?_ (fun C s₃ H₃ fp=>(ag (ac 0) ad)) (front_set (by decide)) (show List.Nodup ((["step"]:List Str)++(["self"]:List Str)) from by decide +kernel)
 ·refine uv ?_
  exact cR cl n_past (ac 0)
 ·intro C s₃ H₃ fp
  exact aj 0 (show List.Nodup (["step" ,"self"]:List Str) from by decide +kernel)
 intro C s₃ H₃ fp
 exact iv
abbrev dQ:Stmt:=inClass (top 78) 5
theorem j_:FnScope ["self"] ["self"] (defScope dQ):=⟨rfl,rfl,rfl,by decide +kernel,rfl,by decide +kernel,by decide +kernel⟩
theorem jN {P:Program} {w:World} {K:PySem.W.Frag} {mg:Str->Option Value} {base:Heap} {k:Nat} {C:Nat} (C_shown_going:Cal P w K mg base k "shown_going" ["book","state"] cN) (cl:Cls K C) (n_book:NoAttr K C "book") (n_present:NoAttr K C "present") {f:Addr} {fd:FuncData} (Fn:Fun K "shown" "Watch.shown" dQ f fd):FnOk P w K mg base CX0 (k+1) f fd ["self"] (spD K (bb C)):=by
 refine av Fn j_ (kW C) ?_ (kK C)
 intro cdv A outer s H E hr
 refine al ?_
 refine au ?_
 refine af C_shown_going hr ?_
 refine ab ?_ ?_
 ·exact cR cl n_book (ac 0)
 refine ab ?_ ae
 exact cR cl n_present (ac 0)
abbrev dP:Stmt:=inClass (top 78) 6
theorem jw:FnScope ["self"] ["self"] (defScope dP):=⟨rfl,rfl,rfl,by decide +kernel,rfl,by decide +kernel,by decide +kernel⟩
theorem jv {P:Program} {w:World} {K:PySem.W.Frag} {mg:Str->Option Value} {base:Heap} {k:Nat} {C:Nat} (cl:Cls K C) (n_present:NoAttr K C "present") {f:Addr} {fd:FuncData} (Fn:Fun K "state" "Watch.state" dP f fd):FnOk P w K mg base CX0 (k+1) f fd ["self"] (spD K (be C)):=by
 refine av Fn jw (km C) ?_ (kL C)
 intro cdv A outer s H E hr
 refine al ?_
 refine au ?_
 exact cR cl n_present (ac 0)
abbrev eK:Stmt:=top 97
theorem kT:FnScope ["_law_watch"] ["_law_watch"] (defScope eK):=⟨rfl,rfl,rfl,by decide +kernel,rfl,by decide +kernel,by decide +kernel⟩
theorem ka {P:Program} {w:World} {K:PySem.W.Frag} {mg:Str->Option Value} {base:Heap} {k:Nat} {C:Nat} (cl:Cls K C) (P_rang:MetP P w K mg base k C "rang" ["self"] (bJ C)) (P_row:MetP P w K mg base k C "row" ["self"] (bi C)) (P_shown:MetP P w K mg base k C "shown" ["self"] (bb C)) (P_state:MetP P w K mg base k C "state" ["self"] (be C)) {f:Addr} {fd:FuncData} (Fn:Fun K "_law_asked" "_law_asked" eK f fd):FnOk P w K mg base CX0 (k+1) f fd ["_law_watch"] (spD K (aI C)):=by
 refine av Fn kT (lx C) ?_ (mV C)
 intro cdv A outer s H E hr
 refine al ?_
 refine au ?_
 refine az ?_
 refine ab ?_ ?_
 ·exact ec cl P_state hr (ac 0)
 refine ab ?_ ?_
 ·exact ec cl P_shown hr (ac 0)
 refine ab ?_ ?_
 ·exact ec cl P_rang hr (ac 0)
 refine ab ?_ ae
 exact ec cl P_row hr (ac 0)
abbrev ed:Stmt:=top 41
theorem sc_ring_count:FnScope ["state","many","alarm","count","of_alarm","of_count"] ["state","many"] (defScope ed):=⟨rfl,rfl,rfl,by decide +kernel,rfl,by decide +kernel,by decide +kernel⟩
theorem kr {P:Program} {w:World} {K:PySem.W.Frag} {mg:Str->Option Value} {base:Heap} {k:Nat} (C_alarm_tick:Cal P w K mg base k "alarm_tick" ["state"] aR) (C_count_tick:Cal P w K mg base k "count_tick" ["state"] aU) (c_DAY:Con K mg "DAY" eQ) {f:Addr} {fd:FuncData} (Fn:Fun K "ring_count" "ring_count" ed f fd):FnOk P w K mg base CX0 (k+1) f fd ["state","many"] (spD K bf):=by
 refine av Fn sc_ring_count mG ?_ mv
 intro cdv A outer s H E hr
 refine ai ?_ ?_
 ·refine aD ?_ ?_
  ·exact af C_alarm_tick hr (ab (ac 0) ae)
  exact aj 2 sc_ring_count.nd
 refine ai ?_ ?_
 ·refine aD ?_ ?_
  ·exact af C_count_tick hr (ab (ac 0) ae)
  exact aj 3 sc_ring_count.nd
 refine ai ?_ ?_
 ·refine aD ?_ ?_
  ·refine ft ?_ ad ?_
   ·refine fw ?_
    refine jF ?_ ?_
    ·exact aE gH (ac 2) bw
    refine ir ?_
    exact aE gC (ac 2) (ac 1)
   refine ak aA ?_ ad
   refine ak bY ?_ (aq c_DAY)
   exact ak cw (ac 1) (ac 2)
  exact aj 4 sc_ring_count.nd
 refine ai ?_ ?_
 ·refine aD ?_ ?_
  ·refine ft ?_ ad ad
   refine fw ?_
   refine jF ?_ ?_
   ·exact aE gH (ac 3) bw
   refine jF ?_ ?_
   ·exact aE gC (ac 3) (ac 1)
   refine ir ?_
   exact aE (pQ hr) (ac 3) (ac 2)
  exact aj 5 sc_ring_count.nd
 refine al ?_
 refine au ?_
 exact ak aA (ac 4) (ac 5)
abbrev cP:Stmt:=top 76
theorem gL:FnScope ["book","state","many"] ["book","state","many"] (defScope cP):=⟨rfl,rfl,rfl,by decide +kernel,rfl,by decide +kernel,by decide +kernel⟩
theorem gr {P:Program} {w:World} {K:PySem.W.Frag} {mg:Str->Option Value} {base:Heap} {k:Nat} (C_ring_count:Cal P w K mg base k "ring_count" ["state","many"] bf) (C_stretches:Cal P w K mg base k "stretches" ["book","state","many"] aY) (m_sum:mg "sum" = none) {f:Addr} {fd:FuncData} (Fn:Fun K "how_many_rings" "how_many_rings" cP f fd):FnOk P w K mg base CX0 (k+1) f fd ["book","state","many"] (spD K ba):=by
 refine av Fn gL ik ?_ hW
 intro cdv A outer s H E hr
 refine al ?_
 refine au ?_
 refine uO rfl m_sum ?_
 refine lg (T:=["stretch"]) rfl ?_ ?_ ?_ ?_ (front_set (by decide)) (show List.Nodup ((["stretch"]:List Str)++(["book" ,"state" ,"many"]:List Str)) from by decide +kernel)
 ·refine jr ?_
  exact af C_stretches hr (ab (ac 0) (ab (ac 1) (ab (ac 2) ae)))
 ·intro C s₃ H₃ fp
  exact aj 0 (show List.Nodup (["stretch" ,"book" ,"state" ,"many"]:List Str) from by decide +kernel)
 ·intro C s₃ H₃ fp
  exact iv
 intro C s₃ H₃ fp
 refine af C_ring_count hr ?_
 exact ab (ag (ac 0) ad) (ab (ag (ac 0) ad) ae)
abbrev fP:Stmt:=top 79
theorem oK:FnScope ["book","state","event"] ["book","state","event"] (defScope fP):=⟨rfl,rfl,rfl,by decide +kernel,rfl,by decide +kernel,by decide +kernel⟩
theorem nE {P:Program} {w:World} {K:PySem.W.Frag} {mg:Str->Option Value} {base:Heap} {k:Nat} (C_how_many_rings:Cal P w K mg base k "how_many_rings" ["book","state","many"] ba) {f:Addr} {fd:FuncData} (Fn:Fun K "rings_by" "rings_by" fP f fd):FnOk P w K mg base CX0 (k+1) f fd ["book","state","event"] (spD K ca):=by
 refine av Fn oK pI ?_ pj
 intro cdv A outer s H E hr
 refine al ?_
 refine au ?_
 refine ft ?_ ?_ ad
 ·exact aE (dg hr) (ag (ac 2) ad) ay
 refine af C_how_many_rings hr ?_
 exact ab (ac 0) (ab (ac 1) (ab (ag (ac 2) ad) ae))
abbrev dr:Stmt:=inClass (top 78) 4
theorem sc_Watch_happen:FnScope ["self","event","behind","rung"] ["self","event"] (defScope dr):=⟨rfl,rfl,rfl,by decide +kernel,rfl,by decide +kernel,by decide +kernel⟩
theorem jb {P:Program} {w:World} {K:PySem.W.Frag} {mg:Str->Option Value} {base:Heap} {k:Nat} (C_gone:Cal P w K mg base k "gone" ["book","state","event"] dU) (C_rings_by:Cal P w K mg base k "rings_by" ["book","state","event"] ca) {C:Nat} (cl:Cls K C) (n_book:NoAttr K C "book") (n_past:NoAttr K C "past") (n_present:NoAttr K C "present") (n_rung:NoAttr K C "rung") {f:Addr} {fd:FuncData} (Fn:Fun K "happen" "Watch.happen" dr f fd):FnOk P w K mg base CX0 (k+1) f fd ["self","event"] (spM K 0 (aW C)):=by
 refine fE (j:=0) Fn sc_Watch_happen ?_
 intro cdv A outer s H E hr
 refine a_ ?_ ?_
 ·refine dI ?_
  refine aD ?_ ?_
  ·refine af C_gone hr ?_
   refine ab ?_ ?_
   ·exact cR cl n_book (ac 0)
   refine ab ?_ (ab (ac 1) ae)
   exact cR cl n_present (ac 0)
  exact aj 2 sc_Watch_happen.nd
 refine a_ ?_ ?_
 ·refine dI ?_
  refine aD ?_ ?_
  ·refine ak aA ?_ ?_
   ·exact cR cl n_rung (ac 0)
   refine af C_rings_by hr ?_
   refine ab ?_ ?_
   ·exact cR cl n_book (ac 0)
   refine ab ?_ (ab (ac 1) ae)
   exact cR cl n_present (ac 0)
  exact aj 3 sc_Watch_happen.nd
 refine a_ ?_ ?_
 ·refine uX 0 cl n_past ?_
  refine az ?_
  refine ab (ac 1) ?_
  refine ab ?_ ?_
  ·exact cR cl n_present (ac 0)
  refine ab ?_ ae
  exact cR cl n_rung (ac 0)
 refine a_ ?_ ?_
 ·exact fU 0 cl n_present (ac 2)
 refine bA ?_
 exact fU 0 cl n_rung (ac 3)
abbrev ek:Stmt:=inClass (top 78) 1
theorem kh:FnScope ["self","button"] ["self","button"] (defScope ek):=⟨rfl,rfl,rfl,by decide +kernel,rfl,by decide +kernel,by decide +kernel⟩
theorem kA {P:Program} {w:World} {K:PySem.W.Frag} {mg:Str->Option Value} {base:Heap} {k:Nat} {C:Nat} (cl:Cls K C) (M_happen:MetM P w K mg base k C "happen" ["self","event"] (aW C)) {f:Addr} {fd:FuncData} (Fn:Fun K "down" "Watch.down" ek f fd):FnOk P w K mg base CX0 (k+1) f fd ["self","button"] (spM K 0 (cL C)):=by
 refine fE (j:=0) Fn kh ?_
 intro cdv A outer s H E hr
 refine bA ?_
 refine hU 0 cl M_happen hr ?_
 refine ab ?_ ae
 exact az (ab ay (ab (ac 1) ae))
abbrev dO:Stmt:=inClass (top 78) 3
theorem jW:FnScope ["self","many"] ["self","many"] (defScope dO):=⟨rfl,rfl,rfl,by decide +kernel,rfl,by decide +kernel,by decide +kernel⟩
theorem j4 {P:Program} {w:World} {K:PySem.W.Frag} {mg:Str->Option Value} {base:Heap} {k:Nat} {C:Nat} (cl:Cls K C) (M_happen:MetM P w K mg base k C "happen" ["self","event"] (aW C)) {f:Addr} {fd:FuncData} (Fn:Fun K "ticks" "Watch.ticks" dO f fd):FnOk P w K mg base CX0 (k+1) f fd ["self","many"] (spM K 0 (cu C)):=by
 refine fE (j:=0) Fn jW ?_
 intro cdv A outer s H E hr
 refine bA ?_
 refine hU 0 cl M_happen hr ?_
 refine ab ?_ ae
 exact az (ab ay (ab (ac 1) ae))
abbrev fW:Stmt:=inClass (top 78) 2
theorem oE:FnScope ["self","button"] ["self","button"] (defScope fW):=⟨rfl,rfl,rfl,by decide +kernel,rfl,by decide +kernel,by decide +kernel⟩
theorem nN {P:Program} {w:World} {K:PySem.W.Frag} {mg:Str->Option Value} {base:Heap} {k:Nat} {C:Nat} (cl:Cls K C) (M_happen:MetM P w K mg base k C "happen" ["self","event"] (aW C)) {f:Addr} {fd:FuncData} (Fn:Fun K "up" "Watch.up" fW f fd):FnOk P w K mg base CX0 (k+1) f fd ["self","button"] (spM K 0 (dH C)):=by
 refine fE (j:=0) Fn oE ?_
 intro cdv A outer s H E hr
 refine bA ?_
 refine hU 0 cl M_happen hr ?_
 refine ab ?_ ae
 exact az (ab ay (ab (ac 1) ae))
abbrev im:Stmt:=top 96
theorem pe:FnScope ["_law_watch","_law_event_here"] ["_law_watch","_law_event_here"] (defScope im):=⟨rfl,rfl,rfl,by decide +kernel,rfl,by decide +kernel,by decide +kernel⟩
theorem ph {P:Program} {w:World} {K:PySem.W.Frag} {mg:Str->Option Value} {base:Heap} {k:Nat} {C:Nat} (cl:Cls K C) (M_down:MetM P w K mg base k C "down" ["self","button"] (cL C)) (M_ticks:MetM P w K mg base k C "ticks" ["self","many"] (cu C)) (M_up:MetM P w K mg base k C "up" ["self","button"] (dH C)) {f:Addr} {fd:FuncData} (Fn:Fun K "_law_do" "_law_do" im f fd):FnOk P w K mg base CX0 (k+1) f fd ["_law_watch","_law_event_here"] (spM K 0 (cg C)):=by
 refine fE (j:=0) Fn pe ?_
 intro cdv A outer s H E hr
 refine bA ?_
 refine sN ?_ ?_ ?_
 ·exact aE (dg hr) (ag (ac 1) ad) ay
 ·refine bA ?_
  exact hU 0 cl M_down hr (ab (ag (ac 1) ad) ae)
 refine bA ?_
 refine sN ?_ ?_ ?_
 ·exact aE (dg hr) (ag (ac 1) ad) ay
 ·refine bA ?_
  exact hU 0 cl M_up hr (ab (ag (ac 1) ad) ae)
 refine bA ?_
 exact hU 0 cl M_ticks hr (ab (ag (ac 1) ad) ae)
abbrev eA:Stmt:=inClass (top 78) 8
theorem sc_Watch_undo:FnScope ["self","last"] ["self"] (defScope eA):=⟨rfl,rfl,rfl,by decide +kernel,rfl,by decide +kernel,by decide +kernel⟩
theorem kR {P:Program} {w:World} {K:PySem.W.Frag} {mg:Str->Option Value} {base:Heap} {k:Nat} (m_len:mg "len" = none) {C:Nat} (cl:Cls K C) (n_past:NoAttr K C "past") (n_present:NoAttr K C "present") (n_rung:NoAttr K C "rung") {f:Addr} {fd:FuncData} (Fn:Fun K "undo" "Watch.undo" eA f fd):FnOk P w K mg base CX0 (k+1) f fd ["self"] (spM K 0 (bN C)):=by
 refine fE (j:=0) Fn sc_Watch_undo ?_
 intro cdv A outer s H E hr
 refine a_ ?_ ?_
 ·refine sN ?_ ?_ tM
  ·refine aE (dg hr) ?_ ad
   refine qi 0 C ?_
   refine bG jS m_len ?_
   refine ab ?_ ae
   exact cR cl n_past (ac 0)
  exact bA sx
 refine a_ ?_ ?_
 ·exact uu 1 0 sc_Watch_undo.nd cl n_past
 refine a_ ?_ ?_
 ·exact fU 0 cl n_present (ag (ac 1) ad)
 refine bA ?_
 exact fU 0 cl n_rung (ag (ac 1) ad)
abbrev cU:Stmt:=inClass (top 78) 0
theorem gP:FnScope ["self","book"] ["self","book"] (defScope cU):=⟨rfl,rfl,rfl,by decide +kernel,rfl,by decide +kernel,by decide +kernel⟩
theorem gA {P:Program} {w:World} {K:PySem.W.Frag} {mg:Str->Option Value} {base:Heap} {k:Nat} (C_begun:Cal P w K mg base k "begun" ["book"] ce) {C:Nat} (cl:Cls K C) (n_book:NoAttr K C "book") (n_past:NoAttr K C "past") (n_present:NoAttr K C "present") (n_rung:NoAttr K C "rung") {f:Addr} {fd:FuncData} (Fn:Fun K "__init__" "Watch.__init__" cU f fd):FnOk P w K mg base CX0 (k+1) f fd ["self","book"] (spI K 2 2 C "past" (aL C)):=by
 refine init_ok Fn gP ?_
 intro cdv A outer s H E hr
 refine ib_cons ?_ ?_
 ·exact fU 0 cl n_book (ac 1)
 refine ib_cons ?_ ?_
 ·refine fU 0 cl n_present ?_
  exact af C_begun hr (ab (ac 1) ae)
 refine ib_cons ?_ ?_
 ·exact fU 0 cl n_rung ad
 exact ib_last 0 cl n_past
abbrev gM:Stmt:=top 99
theorem sc_law:FnScope ["_law_script","_law_book_here","_law_row_here","_law_plain","_law_watch","_law_k","_law_event_here","_law_extra","_law_before","_law_one","_law_third"] ["_law_script"] (defScope gM):=⟨rfl,rfl,rfl,by decide +kernel,rfl,by decide +kernel,by decide +kernel⟩
theorem uI {P:Program} {w:World} {K:PySem.W.Frag} {mg:Str->Option Value} {base:Heap} {k:Nat} (C__law_book:Cal P w K mg base k "_law_book" ["_law_number"] bW) (C__law_drawn:Cal P w K mg base k "_law_drawn" ["_law_number","_law_k"] aG) (C__law_mixed:Cal P w K mg base k "_law_mixed" ["_law_script","_law_k"] aM) (C__law_ready:Cal P w K mg base k "_law_ready" ["_law_book_here","_law_number"] bK) (C__law_row:Cal P w K mg base k "_law_row" ["_law_number","_law_most"] bU) (C_begun:Cal P w K mg base k "begun" ["book"] ce) (C_read_row:Cal P w K mg base k "read_row" ["text"] bZ) (C_row_text:Cal P w K mg base k "row_text" ["row"] bT) (C_seen:Cal P w K mg base k "seen" ["book","row"] fO) (m_enumerate:mg "enumerate" = none) {C:Nat} (C__law_asked:Cal P w K mg base k "_law_asked" ["_law_watch"] (aI C)) (cl:Cls K C) (M_undo:MetM P w K mg base k C "undo" ["self"] (bN C)) (P_row:MetP P w K mg base k C "row" ["self"] (bi C)) (P_shown:MetP P w K mg base k C "shown" ["self"] (bb C)) (P_state:MetP P w K mg base k C "state" ["self"] (be C)) (C__law_do:CalM P w K mg base k "_law_do" ["_law_watch","_law_event_here"] 0 (cg C)) {fI:Addr} {fdI:FuncData} {kI:Nat} (MK:Mk K C fI) (FI:FnOk P w K mg base CX0 kI fI fdI ["self","book"] (spI K 2 2 C "past" (aL C))) (BI:Binds K fdI ["self","book"] []) (mgW:mg "Watch" = some (.ref C)) (hkI:kI+1<=k) {f:Addr} {fd:FuncData} (Fn:Fun K "law" "law" gM f fd):FnOk P w K mg base CX0 (k+1) f fd ["_law_script"] (spD K (nr C)):=by
 refine av Fn sc_law (vm C) ?_ (vg C)
 intro cdv A outer s H E hr
 have hrI:=hr.mono hkI
 refine ai ?_ ?_
 ·refine aD ?_ ?_
  ·refine af C__law_ready hr ?_
   refine ab ?_ ?_
   ·refine af C__law_book hr ?_
    refine ab ?_ ae
    exact af C__law_mixed hr (ab (ac 0) (ab ad ae))
   refine ab ?_ ae
   refine ak bY ?_ ad
   refine af C__law_drawn hr ?_
   refine ab ?_ (ab ad ae)
   exact af C__law_mixed hr (ab (ac 0) (ab ad ae))
  exact aj 1 sc_law.nd
 refine ai ?_ ?_
 ·refine aD ?_ ?_
  ·refine af C__law_row hr ?_
   refine ab ?_ (ab ad ae)
   exact af C__law_mixed hr (ab (ac 0) (ab ad ae))
  exact aj 2 sc_law.nd
 refine tF 3 sc_law.nd MK FI BI hrI mgW (ab (ac 1) ae) ?_
 refine oq 4 sc_law.nd MK FI BI hrI mgW (ab (ac 1) ae) ?_
 refine a_ ?_ ?_
 ·refine ju PassesOwn.never rfl ?_ ?_ ?_
  ·exact su m_enumerate (ac 2)
  ·refine uW rfl ?_
   refine ot ?_ ?_
   ·exact aj 5 sc_law.nd
   refine ot ?_ ua
   exact aj 6 sc_law.nd
  refine a_ ?_ ?_
  ·refine dI ?_
   refine aD ?_ ?_
   ·refine af C__law_row hr ?_
    refine ab ?_ (ab ad ae)
    refine af C__law_mixed hr ?_
    refine ab (ac 0) ?_
    refine ab ?_ ae
    exact ak aA ad (ac 5)
   exact aj 7 sc_law.nd
  refine a_ ?_ ?_
  ·refine dI ?_
   refine aD ?_ ?_
   ·exact af C__law_asked hr (ab (ac 4) ae)
   exact aj 8 sc_law.nd
  refine a_ ?_ ?_
  ·refine ju PassesOwn.never rfl ?_ ?_ ?_
   ·exact jh (ac 7)
   ·exact aj 9 sc_law.nd
   refine bA ?_
   exact gE 4 C__law_do hr (ab (ac 4) (ab (ac 9) ae)) pick0
  refine a_ ?_ ?_
  ·refine ju PassesOwn.never rfl ?_ ?_ ?_
   ·exact jh (ac 7)
   ·exact aj 9 sc_law.nd
   refine bA ?_
   exact nt 4 cl M_undo hr
  refine a_ ?_ ?_
  ·refine dI ?_
   refine cH ?_ ?_ aT
   ·refine aE (mM hr) ?_ (ac 8)
    exact af C__law_asked hr (ab (ac 4) ae)
   refine al ?_
   exact au fv
  refine a_ ?_ ?_
  ·exact gE 4 C__law_do hr (ab (ac 4) (ab (ac 6) ae)) pick0
  refine a_ ?_ ?_
  ·exact gE 3 C__law_do hr (ab (ac 3) (ab (ac 6) ae)) pick0
  refine bA ?_
  refine dI ?_
  refine cH ?_ ?_ aT
  ·refine fw ?_
   refine jF ?_ ?_
   ·refine aE (mM hr) ?_ ?_
    ·exact af C__law_asked hr (ab (ac 4) ae)
    exact af C__law_asked hr (ab (ac 3) ae)
   refine ir ?_
   refine aE (mM hr) ?_ ?_
   ·exact ec cl P_shown hr (ac 4)
   refine ag ?_ ?_
   ·refine af C_seen hr ?_
    refine ab (ac 1) ?_
    refine ab ?_ ae
    refine gn (ac 2) ee ?_
    refine dj ?_
    exact ak aA (ac 5) ad
   exact uj rY ad
  refine al ?_
  exact au fv
 refine oq 10 sc_law.nd MK FI BI hrI mgW (ab (ac 1) ae) ?_
 refine a_ ?_ ?_
 ·refine ju PassesOwn.never rfl ?_ ?_ ?_
  ·refine jh ?_
   refine af C_read_row hr ?_
   refine ab ?_ ae
   refine af C_row_text hr ?_
   refine ab ?_ ae
   exact ec cl P_row hr (ac 4)
  ·exact aj 6 sc_law.nd
  refine bA ?_
  exact gE 10 C__law_do hr (ab (ac 10) (ab (ac 6) ae)) pick0
 refine a_ ?_ ?_
 ·refine dI ?_
  refine cH ?_ ?_ aT
  ·refine aE (mM hr) ?_ ?_
   ·exact af C__law_asked hr (ab (ac 10) ae)
   exact af C__law_asked hr (ab (ac 4) ae)
  refine al ?_
  exact au fv
 refine a_ ?_ ?_
 ·refine ju PassesOwn.never rfl ?_ ?_ ?_
  ·exact jh (ac 2)
  ·exact aj 6 sc_law.nd
  refine bA ?_
  exact nt 4 cl M_undo hr
 refine bA ?_
 refine dI ?_
 refine au ?_
 refine fh ?_ ?_
 ·refine cK (pQ hr) ?_ ?_
  ·exact af C__law_asked hr (ab (ac 4) ae)
  exact sh C__law_asked hr MK FI BI hrI mgW (ab (ac 1) ae)
 refine iw ?_
 refine cK (pQ hr) ?_ ?_
 ·exact ec cl P_state hr (ac 4)
 exact af C_begun hr (ab (ac 1) ae)
end HW
namespace HW
open PySem PySem.Spec PyProof.Rows L2
theorem reps_ints (K:PySem.W.Frag) (H:Hp):∀ ns:List Int,Reps K H (ns.map .int) (ns.map V.int)
 | []=>rfl
 | n::ns=>⟨.int n,_,rfl,rfl,reps_ints K H ns⟩
def gY:List D->Option D:=fun ds=>open Classical in if ∃ ns:List Int,ds=[.fro (ns.map .int)] then some (.bl true) else none
theorem true_law (C:Nat):∀ ds d,gY ds=some d->nr C ds=some d:=fun ds d h=>by
 unfold gY at h
 split at h
 ·rename_i z
  obtain ⟨ns,rfl⟩:=z
  rw [law_any C ns];exact h
 ·cases h
theorem law_true (ns:List Int) (_:ns.length<=63):gY [.fro (ns.map .int)]=some (.bl true):=if_pos ⟨ns,rfl⟩
theorem all_mk {l:PySem.W.OpenLaw} {w:World} {K:PySem.W.Frag} {h:Heap} {mg:Str->Option Value} {fa:Addr}
  {C:Addr}
  {f77:Addr} {od77 an77:Option Addr} {sl77:Array (Option Value)} {oc77 kV77 dc77 pm77 cd77 ct77:Value}
  {t0_ALARM:Tok}
  {t0_BLOCK:Tok}
  {t0_BLOCK_FIGURES:Tok}
  {qa_BUTTONS:Addr} {qn_BUTTONS:Nat} {qs_BUTTONS:Array (Option Value)} {t0_BUTTONS t1_BUTTONS t2_BUTTONS:Tok}
  {t0_CLOCK:Tok}
  {t0_COUNT:Tok}
  {t0_DAY:Tok}
  {t0_FIGURES:Tok}
  {t0_FULL_RING:Tok}
  {t0_HELD:Tok}
  {t0_IDLE:Tok}
  {t0_LAPS:Tok}
  {t0_MODE:Tok}
  {t0_MOST_KEPT:Tok}
  {t0_RING:Tok}
  {qa_PRESSES:Addr} {qn_PRESSES:Nat} {qs_PRESSES:Array (Option Value)} {t0_PRESSES t1_PRESSES t2_PRESSES t3_PRESSES t4_PRESSES t5_PRESSES:Tok}
  {qa_FACE_TEXTS:Addr} {qn_FACE_TEXTS:Nat} {tt0_FACE_TEXTS tt1_FACE_TEXTS tt2_FACE_TEXTS tt3_FACE_TEXTS:Tok}
  {qa_STEPS:Addr} {qn_STEPS:Nat} {tt0_STEPS tt1_STEPS tt2_STEPS tt3_STEPS tt4_STEPS tt5_STEPS tt6_STEPS tt7_STEPS tt8_STEPS tt9_STEPS tt10_STEPS tt11_STEPS tt12_STEPS:Tok}
  {f0 f1 f2 f3 f4 f5 f6 f7 f8 f9 f10 f11 f12 f13 f14 f15 f16 f17 f18 f19 f20 f21 f22 f23 f24 f25 f26 f27 f28 f29 f30 f31 f32 f33 f34 f35 f36 f37 f38 f39 f40 f41 f42 f43 f44 f45 f46 f47 f48 f49 f50 f51 f52 f53 f54 f55 f56 f57 f58 f59 f60 f61 f62 f63 f64 f65 f66 f67 f68 f69 f70 f71 f72 f73 f74 f75 f76:Addr}
  (X:K.In h) (G:h.Ns mainGlobals mg) (hfa:mg "law" = some (.ref fa))
  (aC:PySem.W.nsIn K mainGlobals "Watch" = some (some (.ref C))) (pg:PySem.W.plainGet K C Str.empty=true) (hd:PySem.W.hasDictIn K C=true) (po:PySem.W.plainOver K C=true) (sa:PySem.W.findIn K (.ref C) "__setattr__" = some (some (.builtin "object.__setattr__"))) (mkC:PySem.W.makesIn K C=true) (kc:PySem.W.keepIn K (.ref C)=true)
  (n_book:PySem.W.findIn K (.ref C) "book" = some none)
  (n_past:PySem.W.findIn K (.ref C) "past" = some none)
  (n_present:PySem.W.findIn K (.ref C) "present" = some none)
  (n_rung:PySem.W.findIn K (.ref C) "rung" = some none)
  (a0:Fn4 K "_law_drawn" en f0)
  (a1:Fn4 K "_law_book" eW f1)
  (a2:Fn4 K "_law_cell_at" dn f2)
  (a3:Fn4 K "_law_mixed" et f3)
  (a4:Fn4 K "_law_ready" eE f4)
  (a5:Fn4 K "_law_event" eI f5)
  (a6:Fn4 K "_law_row" fX f6)
  (a7:Fn4 K "begun" mL f7)
  (a8:Fn4 K "is_many" iC f8)
  (a9:Fn4 K "read_many" fk f9)
  (a10:Fn4 K "read_event" eG f10)
  (a11:Fn4 K "read_row" fN f11)
  (a12:Fn4 K "figures" iA f12)
  (a13:Fn4 K "event_text" el f13)
  (a14:Fn4 K "row_text" fQ f14)
  (a15:Fn4 K "is_holding" eL f15)
  (a16:Fn4 K "is_short" fT f16)
  (a17:Fn4 K "put" ss f17)
  (a18:Fn4 K "alarm_hour_on" db f18)
  (a19:Fn4 K "alarm_minute_on" cI f19)
  (a20:Fn4 K "alarm_turned" dE f20)
  (a21:Fn4 K "set_to" jU f21)
  (a22:Fn4 K "count_minute_on" cF f22)
  (a23:Fn4 K "count_second_on" cJ f23)
  (a24:Fn4 K "count_turned" dC f24)
  (a25:Fn4 K "filled" jQ f25)
  (a26:Fn4 K "hour_on" hZ f26)
  (a27:Fn4 K "lap_kept" fR f27)
  (a28:Fn4 K "laps_turned" dM f28)
  (a29:Fn4 K "minute_on" fu f29)
  (a30:Fn4 K "nothing" ij f30)
  (a31:Fn4 K "to_zero" hX f31)
  (a32:Fn4 K "press_done" eD f32)
  (a33:Fn4 K "let_go" jV f33)
  (a34:Fn4 K "pushed" jP f34)
  (a35:Fn4 K "count_on" fS f35)
  (a36:Fn4 K "held_on" ia f36)
  (a37:Fn4 K "ticks_to_back" de f37)
  (a38:Fn4 K "idle_on" iz f38)
  (a39:Fn4 K "laps_on" iu f39)
  (a40:Fn4 K "alarm_tick" eJ f40)
  (a41:Fn4 K "count_tick" eO f41)
  (a42:Fn4 K "last_ring" fj f42)
  (a43:Fn4 K "ring_on" ip f43)
  (a44:Fn4 K "counted" gZ f44)
  (a45:Fn4 K "goes_back" fD f45)
  (a46:Fn4 K "ticks_to_long" df f46)
  (a47:Fn4 K "turn_tick" eY f47)
  (a48:Fn4 K "turned" jA f48)
  (a49:Fn4 K "behind_turn" dW f49)
  (a50:Fn4 K "stretches" fr f50)
  (a51:Fn4 K "ticked" jq f51)
  (a52:Fn4 K "gone" pz f52)
  (a53:Fn4 K "two_figures" dS f53)
  (a54:Fn4 K "hour_text" eU f54)
  (a55:Fn4 K "alarm_text" eC f55)
  (a56:Fn4 K "minute_text" dL f56)
  (a57:Fn4 K "count_text" eP f57)
  (a58:Fn4 K "laps_text" fm f58)
  (a59:Fn4 K "time_text" fz f59)
  (a60:Fn4 K "shown" mY f60)
  (a61:Fn4 K "seen" pD f61)
  (a62:Fn5 K C "rang" "Watch.rang" eN f62)
  (a63:Fn5 K C "row" "Watch.row" fB f63)
  (a64:Fn5 K C "shown" "Watch.shown" dQ f64)
  (a65:Fn5 K C "state" "Watch.state" dP f65)
  (a66:Fn4 K "_law_asked" eK f66)
  (a67:Fn4 K "ring_count" ed f67)
  (a68:Fn4 K "how_many_rings" cP f68)
  (a69:Fn4 K "rings_by" fP f69)
  (a70:Fn5 K C "happen" "Watch.happen" dr f70)
  (a71:Fn5 K C "down" "Watch.down" ek f71)
  (a72:Fn5 K C "ticks" "Watch.ticks" dO f72)
  (a73:Fn5 K C "up" "Watch.up" fW f73)
  (a74:Fn4 K "_law_do" im f74)
  (a75:Fn5 K C "undo" "Watch.undo" eA f75)
  (a76:Fn5 K C "__init__" "Watch.__init__" cU f76)
  (a77:PySem.W.nsIn K mainGlobals "law" = some (some (.ref f77))) (l77:K.lookup f77=some ⟨oc77,od77,.func (PySem.W.fnOf "law" "law" (defArgs gM) (defBody gM) (defScope gM) .none kV77 dc77 pm77 an77 cd77 ct77),sl77⟩) (c77:PySem.W.codeIn K cd77 "law" = true) (k77:PySem.W.keepIn K (.ref f77)=true)
  (al_shown_going:PySem.W.nsIn K mainGlobals "shown_going" = some (some (.ref f60)))
  (z_all:PySem.W.nsIn K mainGlobals "all" = some none)
  (z_enumerate:PySem.W.nsIn K mainGlobals "enumerate" = some none)
  (z_int:PySem.W.nsIn K mainGlobals "int" = some none)
  (z_len:PySem.W.nsIn K mainGlobals "len" = some none)
  (z_max:PySem.W.nsIn K mainGlobals "max" = some none)
  (z_range:PySem.W.nsIn K mainGlobals "range" = some none)
  (z_reversed:PySem.W.nsIn K mainGlobals "reversed" = some none)
  (z_str:PySem.W.nsIn K mainGlobals "str" = some none)
  (z_sum:PySem.W.nsIn K mainGlobals "sum" = some none)
  (z_tuple:PySem.W.nsIn K mainGlobals "tuple" = some none)
  (q_ALARM:PySem.W.nsIn K mainGlobals "ALARM" = some (some (.int 2 t0_ALARM)))
  (q_BLOCK:PySem.W.nsIn K mainGlobals "BLOCK" = some (some (.int 1000000000000000000 t0_BLOCK)))
  (q_BLOCK_FIGURES:PySem.W.nsIn K mainGlobals "BLOCK_FIGURES" = some (some (.int 18 t0_BLOCK_FIGURES)))
  (q_BUTTONS:PySem.W.nsIn K mainGlobals "BUTTONS" = some (some (.ref qa_BUTTONS))) (r_BUTTONS:K.lookup qa_BUTTONS=some ⟨.type "tuple",none,.seq #[.str (Str.ofString "a") t0_BUTTONS,.str (Str.ofString "b") t1_BUTTONS,.str (Str.ofString "c") t2_BUTTONS] qn_BUTTONS,qs_BUTTONS⟩)
  (q_CLOCK:PySem.W.nsIn K mainGlobals "CLOCK" = some (some (.int 1 t0_CLOCK)))
  (q_COUNT:PySem.W.nsIn K mainGlobals "COUNT" = some (some (.int 4 t0_COUNT)))
  (q_DAY:PySem.W.nsIn K mainGlobals "DAY" = some (some (.int 86400 t0_DAY)))
  (q_FIGURES:PySem.W.nsIn K mainGlobals "FIGURES" = some (some (.str (Str.ofString "0123456789") t0_FIGURES)))
  (q_FULL_RING:PySem.W.nsIn K mainGlobals "FULL_RING" = some (some (.int 10 t0_FULL_RING)))
  (q_HELD:PySem.W.nsIn K mainGlobals "HELD" = some (some (.int 6 t0_HELD)))
  (q_IDLE:PySem.W.nsIn K mainGlobals "IDLE" = some (some (.int 7 t0_IDLE)))
  (q_LAPS:PySem.W.nsIn K mainGlobals "LAPS" = some (some (.int 3 t0_LAPS)))
  (q_MODE:PySem.W.nsIn K mainGlobals "MODE" = some (some (.int 0 t0_MODE)))
  (q_MOST_KEPT:PySem.W.nsIn K mainGlobals "MOST_KEPT" = some (some (.int 4 t0_MOST_KEPT)))
  (q_RING:PySem.W.nsIn K mainGlobals "RING" = some (some (.int 5 t0_RING)))
  (q_PRESSES:PySem.W.nsIn K mainGlobals "PRESSES" = some (some (.ref qa_PRESSES)))
  (rs_PRESSES:K.lookup qa_PRESSES=some ⟨.type "tuple",none,.seq #[.str (Str.ofString "a") t0_PRESSES,.str (Str.ofString "b") t1_PRESSES,.str (Str.ofString "c") t2_PRESSES,.str (Str.ofString "A") t3_PRESSES,.str (Str.ofString "B") t4_PRESSES,.str (Str.ofString "C") t5_PRESSES] qn_PRESSES,qs_PRESSES⟩)
  (q_FACE_TEXTS:PySem.W.nsIn K mainGlobals "FACE_TEXTS" = some (some (.ref qa_FACE_TEXTS)))
  (r_FACE_TEXTS:K.lookup qa_FACE_TEXTS=some ⟨.type "dict",none,.dict (entries w [(Str.ofString "time",tt0_FACE_TEXTS,.ref f59),(Str.ofString "alarm",tt1_FACE_TEXTS,.ref f55),(Str.ofString "laps",tt2_FACE_TEXTS,.ref f58),(Str.ofString "count",tt3_FACE_TEXTS,.ref f57)]).toArray qn_FACE_TEXTS,#[]⟩)
  (q_STEPS:PySem.W.nsIn K mainGlobals "STEPS" = some (some (.ref qa_STEPS)))
  (r_STEPS:K.lookup qa_STEPS=some ⟨.type "dict",none,.dict (entries w [(Str.ofString "none",tt0_STEPS,.ref f30),(Str.ofString "hour",tt1_STEPS,.ref f26),(Str.ofString "minute",tt2_STEPS,.ref f29),(Str.ofString "zero",tt3_STEPS,.ref f31),(Str.ofString "ahour",tt4_STEPS,.ref f18),(Str.ofString "aminute",tt5_STEPS,.ref f19),(Str.ofString "alarm",tt6_STEPS,.ref f20),(Str.ofString "run",tt7_STEPS,.ref f28),(Str.ofString "lap",tt8_STEPS,.ref f27),(Str.ofString "cminute",tt9_STEPS,.ref f22),(Str.ofString "csecond",tt10_STEPS,.ref f23),(Str.ofString "full",tt11_STEPS,.ref f25),(Str.ofString "count",tt12_STEPS,.ref f24)]).toArray qn_STEPS,#[]⟩) :
  ∃ fd:FuncData,(∀ (s:Shared) (v:Value),BindsTo s fd ⟨[v],[]⟩ [("_law_script",v)])/\∀ base:Heap,K.In base->base.Ns mainGlobals mg->FnOk l.prog w K mg base CX0 13 fa fd ["_law_script"] (spD K gY):=by
 have e:=hfa.symm.trans (PySem.W.mg_of X G a77)
 cases e
 have cl:Cls K C:=⟨pg,hd,po,sa⟩
 have mgW:=PySem.W.mg_of X G aC
 obtain ⟨d0,F0,a0⟩:=fn4 a0
 have b0:=F0.binds (ps:=["_law_number","_law_k"]) fun _ _ _ _ _ _ us hl=>by obtain ⟨x0,x1,rfl⟩:=ln2 (us:=us) hl;rfl
 have g0:=PySem.W.mg_of X G a0
 obtain ⟨d1,F1,a1⟩:=fn4 a1
 have b1:=F1.binds (ps:=["_law_number"]) fun _ _ _ _ _ _ us hl=>by obtain ⟨x0,rfl⟩:=ln1 (us:=us) hl;rfl
 have g1:=PySem.W.mg_of X G a1
 obtain ⟨d2,F2,a2⟩:=fn4 a2
 have b2:=F2.binds (ps:=["_law_script","_law_k"]) fun _ _ _ _ _ _ us hl=>by obtain ⟨x0,x1,rfl⟩:=ln2 (us:=us) hl;rfl
 have g2:=PySem.W.mg_of X G a2
 obtain ⟨d3,F3,a3⟩:=fn4 a3
 have b3:=F3.binds (ps:=["_law_script","_law_k"]) fun _ _ _ _ _ _ us hl=>by obtain ⟨x0,x1,rfl⟩:=ln2 (us:=us) hl;rfl
 have g3:=PySem.W.mg_of X G a3
 obtain ⟨d4,F4,a4⟩:=fn4 a4
 have b4:=F4.binds (ps:=["_law_book_here","_law_number"]) fun _ _ _ _ _ _ us hl=>by obtain ⟨x0,x1,rfl⟩:=ln2 (us:=us) hl;rfl
 have g4:=PySem.W.mg_of X G a4
 obtain ⟨d5,F5,a5⟩:=fn4 a5
 have b5:=F5.binds (ps:=["_law_number"]) fun _ _ _ _ _ _ us hl=>by obtain ⟨x0,rfl⟩:=ln1 (us:=us) hl;rfl
 have g5:=PySem.W.mg_of X G a5
 obtain ⟨d6,F6,a6⟩:=fn4 a6
 have b6:=F6.binds (ps:=["_law_number","_law_most"]) fun _ _ _ _ _ _ us hl=>by obtain ⟨x0,x1,rfl⟩:=ln2 (us:=us) hl;rfl
 have g6:=PySem.W.mg_of X G a6
 obtain ⟨d7,F7,a7⟩:=fn4 a7
 have b7:=F7.binds (ps:=["book"]) fun _ _ _ _ _ _ us hl=>by obtain ⟨x0,rfl⟩:=ln1 (us:=us) hl;rfl
 have g7:=PySem.W.mg_of X G a7
 obtain ⟨d8,F8,a8⟩:=fn4 a8
 have b8:=F8.binds (ps:=["text"]) fun _ _ _ _ _ _ us hl=>by obtain ⟨x0,rfl⟩:=ln1 (us:=us) hl;rfl
 have g8:=PySem.W.mg_of X G a8
 obtain ⟨d9,F9,a9⟩:=fn4 a9
 have b9:=F9.binds (ps:=["text"]) fun _ _ _ _ _ _ us hl=>by obtain ⟨x0,rfl⟩:=ln1 (us:=us) hl;rfl
 have g9:=PySem.W.mg_of X G a9
 obtain ⟨d10,F10,a10⟩:=fn4 a10
 have b10:=F10.binds (ps:=["word"]) fun _ _ _ _ _ _ us hl=>by obtain ⟨x0,rfl⟩:=ln1 (us:=us) hl;rfl
 have g10:=PySem.W.mg_of X G a10
 obtain ⟨d11,F11,a11⟩:=fn4 a11
 have b11:=F11.binds (ps:=["text"]) fun _ _ _ _ _ _ us hl=>by obtain ⟨x0,rfl⟩:=ln1 (us:=us) hl;rfl
 have g11:=PySem.W.mg_of X G a11
 obtain ⟨d12,F12,a12⟩:=fn4 a12
 have b12:=F12.binds (ps:=["number"]) fun _ _ _ _ _ _ us hl=>by obtain ⟨x0,rfl⟩:=ln1 (us:=us) hl;rfl
 have g12:=PySem.W.mg_of X G a12
 obtain ⟨d13,F13,a13⟩:=fn4 a13
 have b13:=F13.binds (ps:=["event"]) fun _ _ _ _ _ _ us hl=>by obtain ⟨x0,rfl⟩:=ln1 (us:=us) hl;rfl
 have g13:=PySem.W.mg_of X G a13
 obtain ⟨d14,F14,a14⟩:=fn4 a14
 have b14:=F14.binds (ps:=["row"]) fun _ _ _ _ _ _ us hl=>by obtain ⟨x0,rfl⟩:=ln1 (us:=us) hl;rfl
 have g14:=PySem.W.mg_of X G a14
 obtain ⟨d15,F15,a15⟩:=fn4 a15
 have b15:=F15.binds (ps:=["state","button"]) fun _ _ _ _ _ _ us hl=>by obtain ⟨x0,x1,rfl⟩:=ln2 (us:=us) hl;rfl
 have g15:=PySem.W.mg_of X G a15
 obtain ⟨d16,F16,a16⟩:=fn4 a16
 have b16:=F16.binds (ps:=["state","button"]) fun _ _ _ _ _ _ us hl=>by obtain ⟨x0,x1,rfl⟩:=ln2 (us:=us) hl;rfl
 have g16:=PySem.W.mg_of X G a16
 obtain ⟨d17,F17,a17⟩:=fn4 a17
 have b17:=F17.binds (ps:=["state","place","part"]) fun _ _ _ _ _ _ us hl=>by obtain ⟨x0,x1,x2,rfl⟩:=ln3 (us:=us) hl;rfl
 have g17:=PySem.W.mg_of X G a17
 obtain ⟨d18,F18,a18⟩:=fn4 a18
 have b18:=F18.binds (ps:=["state"]) fun _ _ _ _ _ _ us hl=>by obtain ⟨x0,rfl⟩:=ln1 (us:=us) hl;rfl
 have g18:=PySem.W.mg_of X G a18
 obtain ⟨d19,F19,a19⟩:=fn4 a19
 have b19:=F19.binds (ps:=["state"]) fun _ _ _ _ _ _ us hl=>by obtain ⟨x0,rfl⟩:=ln1 (us:=us) hl;rfl
 have g19:=PySem.W.mg_of X G a19
 obtain ⟨d20,F20,a20⟩:=fn4 a20
 have b20:=F20.binds (ps:=["state"]) fun _ _ _ _ _ _ us hl=>by obtain ⟨x0,rfl⟩:=ln1 (us:=us) hl;rfl
 have g20:=PySem.W.mg_of X G a20
 obtain ⟨d21,F21,a21⟩:=fn4 a21
 have b21:=F21.binds (ps:=["state","minute","second"]) fun _ _ _ _ _ _ us hl=>by obtain ⟨x0,x1,x2,rfl⟩:=ln3 (us:=us) hl;rfl
 have g21:=PySem.W.mg_of X G a21
 obtain ⟨d22,F22,a22⟩:=fn4 a22
 have b22:=F22.binds (ps:=["state"]) fun _ _ _ _ _ _ us hl=>by obtain ⟨x0,rfl⟩:=ln1 (us:=us) hl;rfl
 have g22:=PySem.W.mg_of X G a22
 obtain ⟨d23,F23,a23⟩:=fn4 a23
 have b23:=F23.binds (ps:=["state"]) fun _ _ _ _ _ _ us hl=>by obtain ⟨x0,rfl⟩:=ln1 (us:=us) hl;rfl
 have g23:=PySem.W.mg_of X G a23
 obtain ⟨d24,F24,a24⟩:=fn4 a24
 have b24:=F24.binds (ps:=["state"]) fun _ _ _ _ _ _ us hl=>by obtain ⟨x0,rfl⟩:=ln1 (us:=us) hl;rfl
 have g24:=PySem.W.mg_of X G a24
 obtain ⟨d25,F25,a25⟩:=fn4 a25
 have b25:=F25.binds (ps:=["state"]) fun _ _ _ _ _ _ us hl=>by obtain ⟨x0,rfl⟩:=ln1 (us:=us) hl;rfl
 have g25:=PySem.W.mg_of X G a25
 obtain ⟨d26,F26,a26⟩:=fn4 a26
 have b26:=F26.binds (ps:=["state"]) fun _ _ _ _ _ _ us hl=>by obtain ⟨x0,rfl⟩:=ln1 (us:=us) hl;rfl
 have g26:=PySem.W.mg_of X G a26
 obtain ⟨d27,F27,a27⟩:=fn4 a27
 have b27:=F27.binds (ps:=["state"]) fun _ _ _ _ _ _ us hl=>by obtain ⟨x0,rfl⟩:=ln1 (us:=us) hl;rfl
 have g27:=PySem.W.mg_of X G a27
 obtain ⟨d28,F28,a28⟩:=fn4 a28
 have b28:=F28.binds (ps:=["state"]) fun _ _ _ _ _ _ us hl=>by obtain ⟨x0,rfl⟩:=ln1 (us:=us) hl;rfl
 have g28:=PySem.W.mg_of X G a28
 obtain ⟨d29,F29,a29⟩:=fn4 a29
 have b29:=F29.binds (ps:=["state"]) fun _ _ _ _ _ _ us hl=>by obtain ⟨x0,rfl⟩:=ln1 (us:=us) hl;rfl
 have g29:=PySem.W.mg_of X G a29
 obtain ⟨d30,F30,a30⟩:=fn4 a30
 have b30:=F30.binds (ps:=["state"]) fun _ _ _ _ _ _ us hl=>by obtain ⟨x0,rfl⟩:=ln1 (us:=us) hl;rfl
 have g30:=PySem.W.mg_of X G a30
 obtain ⟨d31,F31,a31⟩:=fn4 a31
 have b31:=F31.binds (ps:=["state"]) fun _ _ _ _ _ _ us hl=>by obtain ⟨x0,rfl⟩:=ln1 (us:=us) hl;rfl
 have g31:=PySem.W.mg_of X G a31
 obtain ⟨d32,F32,a32⟩:=fn4 a32
 have b32:=F32.binds (ps:=["book","state","press"]) fun _ _ _ _ _ _ us hl=>by obtain ⟨x0,x1,x2,rfl⟩:=ln3 (us:=us) hl;rfl
 have g32:=PySem.W.mg_of X G a32
 obtain ⟨d33,F33,a33⟩:=fn4 a33
 have b33:=F33.binds (ps:=["book","state","button"]) fun _ _ _ _ _ _ us hl=>by obtain ⟨x0,x1,x2,rfl⟩:=ln3 (us:=us) hl;rfl
 have g33:=PySem.W.mg_of X G a33
 obtain ⟨d34,F34,a34⟩:=fn4 a34
 have b34:=F34.binds (ps:=["state","button"]) fun _ _ _ _ _ _ us hl=>by obtain ⟨x0,x1,rfl⟩:=ln2 (us:=us) hl;rfl
 have g34:=PySem.W.mg_of X G a34
 obtain ⟨d35,F35,a35⟩:=fn4 a35
 have b35:=F35.binds (ps:=["count","many"]) fun _ _ _ _ _ _ us hl=>by obtain ⟨x0,x1,rfl⟩:=ln2 (us:=us) hl;rfl
 have g35:=PySem.W.mg_of X G a35
 obtain ⟨d36,F36,a36⟩:=fn4 a36
 have b36:=F36.binds (ps:=["held","many"]) fun _ _ _ _ _ _ us hl=>by obtain ⟨x0,x1,rfl⟩:=ln2 (us:=us) hl;rfl
 have g36:=PySem.W.mg_of X G a36
 obtain ⟨d37,F37,a37⟩:=fn4 a37
 have b37:=F37.binds (ps:=["book","state"]) fun _ _ _ _ _ _ us hl=>by obtain ⟨x0,x1,rfl⟩:=ln2 (us:=us) hl;rfl
 have g37:=PySem.W.mg_of X G a37
 obtain ⟨d38,F38,a38⟩:=fn4 a38
 have b38:=F38.binds (ps:=["book","state","many"]) fun _ _ _ _ _ _ us hl=>by obtain ⟨x0,x1,x2,rfl⟩:=ln3 (us:=us) hl;rfl
 have g38:=PySem.W.mg_of X G a38
 obtain ⟨d39,F39,a39⟩:=fn4 a39
 have b39:=F39.binds (ps:=["laps","many"]) fun _ _ _ _ _ _ us hl=>by obtain ⟨x0,x1,rfl⟩:=ln2 (us:=us) hl;rfl
 have g39:=PySem.W.mg_of X G a39
 obtain ⟨d40,F40,a40⟩:=fn4 a40
 have b40:=F40.binds (ps:=["state"]) fun _ _ _ _ _ _ us hl=>by obtain ⟨x0,rfl⟩:=ln1 (us:=us) hl;rfl
 have g40:=PySem.W.mg_of X G a40
 obtain ⟨d41,F41,a41⟩:=fn4 a41
 have b41:=F41.binds (ps:=["state"]) fun _ _ _ _ _ _ us hl=>by obtain ⟨x0,rfl⟩:=ln1 (us:=us) hl;rfl
 have g41:=PySem.W.mg_of X G a41
 obtain ⟨d42,F42,a42⟩:=fn4 a42
 have b42:=F42.binds (ps:=["state","many"]) fun _ _ _ _ _ _ us hl=>by obtain ⟨x0,x1,rfl⟩:=ln2 (us:=us) hl;rfl
 have g42:=PySem.W.mg_of X G a42
 obtain ⟨d43,F43,a43⟩:=fn4 a43
 have b43:=F43.binds (ps:=["state","many"]) fun _ _ _ _ _ _ us hl=>by obtain ⟨x0,x1,rfl⟩:=ln2 (us:=us) hl;rfl
 have g43:=PySem.W.mg_of X G a43
 obtain ⟨d44,F44,a44⟩:=fn4 a44
 have b44:=F44.binds (ps:=["book","state","many"]) fun _ _ _ _ _ _ us hl=>by obtain ⟨x0,x1,x2,rfl⟩:=ln3 (us:=us) hl;rfl
 have g44:=PySem.W.mg_of X G a44
 obtain ⟨d45,F45,a45⟩:=fn4 a45
 have b45:=F45.binds (ps:=["book","state"]) fun _ _ _ _ _ _ us hl=>by obtain ⟨x0,x1,rfl⟩:=ln2 (us:=us) hl;rfl
 have g45:=PySem.W.mg_of X G a45
 obtain ⟨d46,F46,a46⟩:=fn4 a46
 have b46:=F46.binds (ps:=["book","state"]) fun _ _ _ _ _ _ us hl=>by obtain ⟨x0,x1,rfl⟩:=ln2 (us:=us) hl;rfl
 have g46:=PySem.W.mg_of X G a46
 obtain ⟨d47,F47,a47⟩:=fn4 a47
 have b47:=F47.binds (ps:=["book","state"]) fun _ _ _ _ _ _ us hl=>by obtain ⟨x0,x1,rfl⟩:=ln2 (us:=us) hl;rfl
 have g47:=PySem.W.mg_of X G a47
 obtain ⟨d48,F48,a48⟩:=fn4 a48
 have b48:=F48.binds (ps:=["book","state"]) fun _ _ _ _ _ _ us hl=>by obtain ⟨x0,x1,rfl⟩:=ln2 (us:=us) hl;rfl
 have g48:=PySem.W.mg_of X G a48
 obtain ⟨d49,F49,a49⟩:=fn4 a49
 have b49:=F49.binds (ps:=["book","state"]) fun _ _ _ _ _ _ us hl=>by obtain ⟨x0,x1,rfl⟩:=ln2 (us:=us) hl;rfl
 have g49:=PySem.W.mg_of X G a49
 obtain ⟨d50,F50,a50⟩:=fn4 a50
 have b50:=F50.binds (ps:=["book","state","many"]) fun _ _ _ _ _ _ us hl=>by obtain ⟨x0,x1,x2,rfl⟩:=ln3 (us:=us) hl;rfl
 have g50:=PySem.W.mg_of X G a50
 obtain ⟨d51,F51,a51⟩:=fn4 a51
 have b51:=F51.binds (ps:=["book","state","many"]) fun _ _ _ _ _ _ us hl=>by obtain ⟨x0,x1,x2,rfl⟩:=ln3 (us:=us) hl;rfl
 have g51:=PySem.W.mg_of X G a51
 obtain ⟨d52,F52,a52⟩:=fn4 a52
 have b52:=F52.binds (ps:=["book","state","event"]) fun _ _ _ _ _ _ us hl=>by obtain ⟨x0,x1,x2,rfl⟩:=ln3 (us:=us) hl;rfl
 have g52:=PySem.W.mg_of X G a52
 obtain ⟨d53,F53,a53⟩:=fn4 a53
 have b53:=F53.binds (ps:=["number"]) fun _ _ _ _ _ _ us hl=>by obtain ⟨x0,rfl⟩:=ln1 (us:=us) hl;rfl
 have g53:=PySem.W.mg_of X G a53
 obtain ⟨d54,F54,a54⟩:=fn4 a54
 have b54:=F54.binds (ps:=["hour","minute"]) fun _ _ _ _ _ _ us hl=>by obtain ⟨x0,x1,rfl⟩:=ln2 (us:=us) hl;rfl
 have g54:=PySem.W.mg_of X G a54
 obtain ⟨d55,F55,a55⟩:=fn4 a55
 have b55:=F55.binds (ps:=["state"]) fun _ _ _ _ _ _ us hl=>by obtain ⟨x0,rfl⟩:=ln1 (us:=us) hl;rfl
 have g55:=PySem.W.mg_of X G a55
 obtain ⟨d56,F56,a56⟩:=fn4 a56
 have b56:=F56.binds (ps:=["seconds"]) fun _ _ _ _ _ _ us hl=>by obtain ⟨x0,rfl⟩:=ln1 (us:=us) hl;rfl
 have g56:=PySem.W.mg_of X G a56
 obtain ⟨d57,F57,a57⟩:=fn4 a57
 have b57:=F57.binds (ps:=["state"]) fun _ _ _ _ _ _ us hl=>by obtain ⟨x0,rfl⟩:=ln1 (us:=us) hl;rfl
 have g57:=PySem.W.mg_of X G a57
 obtain ⟨d58,F58,a58⟩:=fn4 a58
 have b58:=F58.binds (ps:=["state"]) fun _ _ _ _ _ _ us hl=>by obtain ⟨x0,rfl⟩:=ln1 (us:=us) hl;rfl
 have g58:=PySem.W.mg_of X G a58
 obtain ⟨d59,F59,a59⟩:=fn4 a59
 have b59:=F59.binds (ps:=["state"]) fun _ _ _ _ _ _ us hl=>by obtain ⟨x0,rfl⟩:=ln1 (us:=us) hl;rfl
 have g59:=PySem.W.mg_of X G a59
 obtain ⟨d60,F60,a60⟩:=fn4 a60
 have b60:=F60.binds (ps:=["book","state"]) fun _ _ _ _ _ _ us hl=>by obtain ⟨x0,x1,rfl⟩:=ln2 (us:=us) hl;rfl
 have g60:=PySem.W.mg_of X G a60
 obtain ⟨d61,F61,a61⟩:=fn4 a61
 have b61:=F61.binds (ps:=["book","row"]) fun _ _ _ _ _ _ us hl=>by obtain ⟨x0,x1,rfl⟩:=ln2 (us:=us) hl;rfl
 have g61:=PySem.W.mg_of X G a61
 obtain ⟨d62,F62,M62⟩:=fn5 a62
 have b62:=F62.binds (ps:=["self"]) fun _ _ _ _ _ _ us hl=>by obtain ⟨x0,rfl⟩:=ln1 (us:=us) hl;rfl
 obtain ⟨d63,F63,M63⟩:=fn5 a63
 have b63:=F63.binds (ps:=["self"]) fun _ _ _ _ _ _ us hl=>by obtain ⟨x0,rfl⟩:=ln1 (us:=us) hl;rfl
 obtain ⟨d64,F64,M64⟩:=fn5 a64
 have b64:=F64.binds (ps:=["self"]) fun _ _ _ _ _ _ us hl=>by obtain ⟨x0,rfl⟩:=ln1 (us:=us) hl;rfl
 obtain ⟨d65,F65,M65⟩:=fn5 a65
 have b65:=F65.binds (ps:=["self"]) fun _ _ _ _ _ _ us hl=>by obtain ⟨x0,rfl⟩:=ln1 (us:=us) hl;rfl
 obtain ⟨d66,F66,a66⟩:=fn4 a66
 have b66:=F66.binds (ps:=["_law_watch"]) fun _ _ _ _ _ _ us hl=>by obtain ⟨x0,rfl⟩:=ln1 (us:=us) hl;rfl
 have g66:=PySem.W.mg_of X G a66
 obtain ⟨d67,F67,a67⟩:=fn4 a67
 have b67:=F67.binds (ps:=["state","many"]) fun _ _ _ _ _ _ us hl=>by obtain ⟨x0,x1,rfl⟩:=ln2 (us:=us) hl;rfl
 have g67:=PySem.W.mg_of X G a67
 obtain ⟨d68,F68,a68⟩:=fn4 a68
 have b68:=F68.binds (ps:=["book","state","many"]) fun _ _ _ _ _ _ us hl=>by obtain ⟨x0,x1,x2,rfl⟩:=ln3 (us:=us) hl;rfl
 have g68:=PySem.W.mg_of X G a68
 obtain ⟨d69,F69,a69⟩:=fn4 a69
 have b69:=F69.binds (ps:=["book","state","event"]) fun _ _ _ _ _ _ us hl=>by obtain ⟨x0,x1,x2,rfl⟩:=ln3 (us:=us) hl;rfl
 have g69:=PySem.W.mg_of X G a69
 obtain ⟨d70,F70,M70⟩:=fn5 a70
 have b70:=F70.binds (ps:=["self","event"]) fun _ _ _ _ _ _ us hl=>by obtain ⟨x0,x1,rfl⟩:=ln2 (us:=us) hl;rfl
 obtain ⟨d71,F71,M71⟩:=fn5 a71
 have b71:=F71.binds (ps:=["self","button"]) fun _ _ _ _ _ _ us hl=>by obtain ⟨x0,x1,rfl⟩:=ln2 (us:=us) hl;rfl
 obtain ⟨d72,F72,M72⟩:=fn5 a72
 have b72:=F72.binds (ps:=["self","many"]) fun _ _ _ _ _ _ us hl=>by obtain ⟨x0,x1,rfl⟩:=ln2 (us:=us) hl;rfl
 obtain ⟨d73,F73,M73⟩:=fn5 a73
 have b73:=F73.binds (ps:=["self","button"]) fun _ _ _ _ _ _ us hl=>by obtain ⟨x0,x1,rfl⟩:=ln2 (us:=us) hl;rfl
 obtain ⟨d74,F74,a74⟩:=fn4 a74
 have b74:=F74.binds (ps:=["_law_watch","_law_event_here"]) fun _ _ _ _ _ _ us hl=>by obtain ⟨x0,x1,rfl⟩:=ln2 (us:=us) hl;rfl
 have g74:=PySem.W.mg_of X G a74
 obtain ⟨d75,F75,M75⟩:=fn5 a75
 have b75:=F75.binds (ps:=["self"]) fun _ _ _ _ _ _ us hl=>by obtain ⟨x0,rfl⟩:=ln1 (us:=us) hl;rfl
 obtain ⟨d76,F76,M76⟩:=fn5 a76
 have b76:=F76.binds (ps:=["self","book"]) fun _ _ _ _ _ _ us hl=>by obtain ⟨x0,x1,rfl⟩:=ln2 (us:=us) hl;rfl
 have F77:=oV (st:=gM) l77 c77 k77
 have b77:=F77.binds (ps:=["_law_script"]) fun _ _ _ _ _ _ us hl=>by obtain ⟨x0,rfl⟩:=ln1 (us:=us) hl;rfl
 have g77:=PySem.W.mg_of X G a77
 have ga_shown_going:=PySem.W.mg_of X G al_shown_going
 have m_all:=PySem.W.mg_none_of X G z_all
 have m_enumerate:=PySem.W.mg_none_of X G z_enumerate
 have m_int:=PySem.W.mg_none_of X G z_int
 have m_len:=PySem.W.mg_none_of X G z_len
 have m_max:=PySem.W.mg_none_of X G z_max
 have m_range:=PySem.W.mg_none_of X G z_range
 have m_reversed:=PySem.W.mg_none_of X G z_reversed
 have m_str:=PySem.W.mg_none_of X G z_str
 have m_sum:=PySem.W.mg_none_of X G z_sum
 have m_tuple:=PySem.W.mg_none_of X G z_tuple
 have c_ALARM:Con K mg "ALARM" bo:=⟨_,.int 2,PySem.W.mg_of X G q_ALARM,⟨_,rfl⟩,fun H=>rfl⟩
 have c_BLOCK:Con K mg "BLOCK" dk:=⟨_,.int 1000000000000000000,PySem.W.mg_of X G q_BLOCK,⟨_,rfl⟩,fun H=>rfl⟩
 have c_BLOCK_FIGURES:Con K mg "BLOCK_FIGURES" bQ:=⟨_,.int 18,PySem.W.mg_of X G q_BLOCK_FIGURES,⟨_,rfl⟩,fun H=>rfl⟩
 have c_BUTTONS:Con K mg "BUTTONS" fG:=⟨.ref qa_BUTTONS,.ref qa_BUTTONS,PySem.W.mg_of X G q_BUTTONS,rfl,fun H=>⟨qa_BUTTONS,[.str (Str.ofString "a"),.str (Str.ofString "b"),.str (Str.ofString "c")],rfl,.inr ⟨_,_,_,r_BUTTONS,rfl,rfl,rfl,(by show 3<=sizeLine;decide),(.cons ⟨_,rfl⟩ (.cons ⟨_,rfl⟩ (.cons ⟨_,rfl⟩ .nil)))⟩,⟨_,_,rfl,rfl,⟨_,_,rfl,rfl,⟨_,_,rfl,rfl,rfl⟩⟩⟩⟩⟩
 have c_CLOCK:Con K mg "CLOCK" bj:=⟨_,.int 1,PySem.W.mg_of X G q_CLOCK,⟨_,rfl⟩,fun H=>rfl⟩
 have c_COUNT:Con K mg "COUNT" aV:=⟨_,.int 4,PySem.W.mg_of X G q_COUNT,⟨_,rfl⟩,fun H=>rfl⟩
 have c_DAY:Con K mg "DAY" eQ:=⟨_,.int 86400,PySem.W.mg_of X G q_DAY,⟨_,rfl⟩,fun H=>rfl⟩
 have c_FIGURES:Con K mg "FIGURES" gX:=⟨_,.str (Str.ofString "0123456789"),PySem.W.mg_of X G q_FIGURES,⟨_,rfl⟩,fun H=>rfl⟩
 have c_FULL_RING:Con K mg "FULL_RING" eV:=⟨_,.int 10,PySem.W.mg_of X G q_FULL_RING,⟨_,rfl⟩,fun H=>rfl⟩
 have c_HELD:Con K mg "HELD" bz:=⟨_,.int 6,PySem.W.mg_of X G q_HELD,⟨_,rfl⟩,fun H=>rfl⟩
 have c_IDLE:Con K mg "IDLE" dq:=⟨_,.int 7,PySem.W.mg_of X G q_IDLE,⟨_,rfl⟩,fun H=>rfl⟩
 have c_LAPS:Con K mg "LAPS" cy:=⟨_,.int 3,PySem.W.mg_of X G q_LAPS,⟨_,rfl⟩,fun H=>rfl⟩
 have c_MODE:Con K mg "MODE" cq:=⟨_,.int 0,PySem.W.mg_of X G q_MODE,⟨_,rfl⟩,fun H=>rfl⟩
 have c_MOST_KEPT:Con K mg "MOST_KEPT" fo:=⟨_,.int 4,PySem.W.mg_of X G q_MOST_KEPT,⟨_,rfl⟩,fun H=>rfl⟩
 have c_RING:Con K mg "RING" eh:=⟨_,.int 5,PySem.W.mg_of X G q_RING,⟨_,rfl⟩,fun H=>rfl⟩
 have s_PRESSES:ConS K mg "PRESSES" dl:=⟨qa_PRESSES,_,_,_,PySem.W.mg_of X G q_PRESSES,rs_PRESSES,(.cons ⟨_,rfl⟩ (.cons ⟨_,rfl⟩ (.cons ⟨_,rfl⟩ (.cons ⟨_,rfl⟩ (.cons ⟨_,rfl⟩ (.cons ⟨_,rfl⟩ .nil))))))⟩
 have D_FACE_TEXTS:=PySem.W.mg_of X G q_FACE_TEXTS
 have D_STEPS:=PySem.W.mg_of X G q_STEPS
 refine ⟨PySem.W.fnOf "law" "law" (defArgs gM) (defBody gM) (defScope gM) .none kV77 dc77 pm77 an77 cd77 ct77,fun s v=>.of_eq rfl,fun base _ _=>?_⟩
 have C__law_drawn:Cal l.prog w K mg base 1 "_law_drawn" ["_law_number","_law_k"] aG:=aw F0 g0 b0 (ku (k:=0)  F0)
 have C__law_book:Cal l.prog w K mg base 2 "_law_book" ["_law_number"] bW:=aw F1 g1 b1 (mW (k:=1) C__law_drawn.m m_range F1)
 have C__law_cell_at:Cal l.prog w K mg base 1 "_law_cell_at" ["_law_script","_law_k"] bx:=aw F2 g2 b2 (jc (k:=0) m_len F2)
 have C__law_mixed:Cal l.prog w K mg base 2 "_law_mixed" ["_law_script","_law_k"] aM:=aw F3 g3 b3 (kG (k:=1) C__law_cell_at.m F3)
 have C__law_ready:Cal l.prog w K mg base 1 "_law_ready" ["_law_book_here","_law_number"] bK:=aw F4 g4 b4 (kB (k:=0) m_len F4)
 have C__law_event:Cal l.prog w K mg base 1 "_law_event" ["_law_number"] bq:=aw F5 g5 b5 (kd (k:=0)  F5)
 have C__law_row:Cal l.prog w K mg base 2 "_law_row" ["_law_number","_law_most"] bU:=aw F6 g6 b6 (ow (k:=1) C__law_drawn.m C__law_event.m m_range m_tuple F6)
 have C_begun:Cal l.prog w K mg base 1 "begun" ["book"] ce:=aw F7 g7 b7 (sf (k:=0)  F7)
 have C_is_many:Cal l.prog w K mg base 1 "is_many" ["text"] dm:=aw F8 g8 b8 (pw (k:=0) m_all c_FIGURES F8)
 have C_read_many:Cal l.prog w K mg base 1 "read_many" ["text"] cD:=aw F9 g9 b9 (lW (k:=0) m_int m_len m_range c_BLOCK c_BLOCK_FIGURES F9)
 have C_read_event:Cal l.prog w K mg base 2 "read_event" ["word"] bg:=aw F10 g10 b10 (kt (k:=1) C_is_many.m C_read_many.m c_BUTTONS F10)
 have C_read_row:Cal l.prog w K mg base 3 "read_row" ["text"] bZ:=aw F11 g11 b11 (na (k:=2) C_read_event.m m_tuple F11)
 have C_figures:Cal l.prog w K mg base 1 "figures" ["number"] bF:=aw F12 g12 b12 (qb (k:=0) m_reversed m_str c_BLOCK F12)
 have C_event_text:Cal l.prog w K mg base 2 "event_text" ["event"] bD:=aw F13 g13 b13 (kn (k:=1) C_figures.m F13)
 have C_row_text:Cal l.prog w K mg base 3 "row_text" ["row"] bT:=aw F14 g14 b14 (nF (k:=2) C_event_text.m F14)
 have C_is_holding:Cal l.prog w K mg base 1 "is_holding" ["state","button"] bp:=aw F15 g15 b15 (kH (k:=0) c_HELD F15)
 have C_is_short:Cal l.prog w K mg base 2 "is_short" ["state","button"] cz:=aw F16 g16 b16 (om (k:=1) C_is_holding.m c_HELD F16)
 have C_put:Cal l.prog w K mg base 1 "put" ["state","place","part"] aF:=aw F17 g17 b17 (ut (k:=0)  F17)
 have C_alarm_hour_on:Cal l.prog w K mg base 2 "alarm_hour_on" ["state"] aX:=aw F18 g18 b18 (ib (k:=1) C_put.m c_ALARM F18)
 have C_alarm_minute_on:Cal l.prog w K mg base 2 "alarm_minute_on" ["state"] aN:=aw F19 g19 b19 (fV (k:=1) C_put.m c_ALARM F19)
 have C_alarm_turned:Cal l.prog w K mg base 2 "alarm_turned" ["state"] bh:=aw F20 g20 b20 (i_ (k:=1) C_put.m c_ALARM F20)
 have C_set_to:Cal l.prog w K mg base 2 "set_to" ["state","minute","second"] bP:=aw F21 g21 b21 (rj (k:=1) C_put.m c_COUNT F21)
 have C_count_minute_on:Cal l.prog w K mg base 3 "count_minute_on" ["state"] aQ:=aw F22 g22 b22 (f_ (k:=2) C_set_to.m c_COUNT F22)
 have C_count_second_on:Cal l.prog w K mg base 3 "count_second_on" ["state"] aO:=aw F23 g23 b23 (fZ (k:=2) C_set_to.m c_COUNT F23)
 have C_count_turned:Cal l.prog w K mg base 2 "count_turned" ["state"] bv:=aw F24 g24 b24 (iX (k:=1) C_put.m c_COUNT F24)
 have C_filled:Cal l.prog w K mg base 3 "filled" ["state"] cZ:=aw F25 g25 b25 (rL (k:=2) C_set_to.m c_COUNT F25)
 have C_hour_on:Cal l.prog w K mg base 2 "hour_on" ["state"] cC:=aw F26 g26 b26 (pH (k:=1) C_put.m c_CLOCK F26)
 have C_lap_kept:Cal l.prog w K mg base 2 "lap_kept" ["state"] cx:=aw F27 g27 b27 (nG (k:=1) C_put.m m_len c_LAPS c_MOST_KEPT F27)
 have C_laps_turned:Cal l.prog w K mg base 2 "laps_turned" ["state"] bu:=aw F28 g28 b28 (jT (k:=1) C_put.m c_LAPS F28)
 have C_minute_on:Cal l.prog w K mg base 2 "minute_on" ["state"] bH:=aw F29 g29 b29 (lU (k:=1) C_put.m c_CLOCK F29)
 have C_nothing:Cal l.prog w K mg base 1 "nothing" ["state"] cE:=aw F30 g30 b30 (qe (k:=0)  F30)
 have C_to_zero:Cal l.prog w K mg base 2 "to_zero" ["state"] cB:=aw F31 g31 b31 (oR (k:=1) C_put.m c_CLOCK F31)
 have T_STEPS:TabOk l.prog w K mg base 3 "STEPS" tab_STEPS:=⟨qa_STEPS,_,D_STEPS,fun h X=>oJ _ r_STEPS (show List.Nodup [Str.ofString "none",Str.ofString "hour",Str.ofString "minute",Str.ofString "zero",Str.ofString "ahour",Str.ofString "aminute",Str.ofString "alarm",Str.ofString "run",Str.ofString "lap",Str.ofString "cminute",Str.ofString "csecond",Str.ofString "full",Str.ofString "count"] from by decide +kernel) h X,(.cons (fnk_of C_nothing.m g30) (.cons (fnk_of C_hour_on.m g26) (.cons (fnk_of C_minute_on.m g29) (.cons (fnk_of C_to_zero.m g31) (.cons (fnk_of C_alarm_hour_on.m g18) (.cons (fnk_of C_alarm_minute_on.m g19) (.cons (fnk_of C_alarm_turned.m g20) (.cons (fnk_of C_laps_turned.m g28) (.cons (fnk_of C_lap_kept.m g27) (.cons (fnk_of C_count_minute_on.m g22) (.cons (fnk_of C_count_second_on.m g23) (.cons (fnk_of C_filled.m g25) (.cons (fnk_of C_count_turned.m g24) .nil)))))))))))))⟩
 have C_press_done:Cal l.prog w K mg base 4 "press_done" ["book","state","press"] bn:=aw F32 g32 b32 (kC (k:=3) C_alarm_hour_on.m C_alarm_minute_on.m C_alarm_turned.m C_count_minute_on.m C_count_second_on.m C_count_turned.m C_filled.m C_hour_on.m C_lap_kept.m C_laps_turned.m C_minute_on.m C_nothing.m C_put.m C_to_zero.m c_MODE s_PRESSES T_STEPS F32)
 have C_let_go:Cal l.prog w K mg base 5 "let_go" ["book","state","button"] du:=aw F33 g33 b33 (qK (k:=4) C_is_holding.m C_is_short.m C_press_done.m C_put.m c_HELD c_IDLE F33)
 have C_pushed:Cal l.prog w K mg base 2 "pushed" ["state","button"] dv:=aw F34 g34 b34 (qG (k:=1) C_put.m c_HELD c_IDLE c_RING F34)
 have C_count_on:Cal l.prog w K mg base 1 "count_on" ["count","many"] cA:=aw F35 g35 b35 (nX (k:=0) m_max F35)
 have C_held_on:Cal l.prog w K mg base 1 "held_on" ["held","many"] cT:=aw F36 g36 b36 (oQ (k:=0)  F36)
 have C_ticks_to_back:Cal l.prog w K mg base 1 "ticks_to_back" ["book","state"] aS:=aw F37 g37 b37 (gW (k:=0) m_max c_IDLE F37)
 have C_idle_on:Cal l.prog w K mg base 2 "idle_on" ["book","state","many"] cV:=aw F38 g38 b38 (oY (k:=1) C_ticks_to_back.m c_HELD c_IDLE F38)
 have C_laps_on:Cal l.prog w K mg base 1 "laps_on" ["laps","many"] cW:=aw F39 g39 b39 (pF (k:=0)  F39)
 have C_alarm_tick:Cal l.prog w K mg base 1 "alarm_tick" ["state"] aR:=aw F40 g40 b40 (kQ (k:=0) c_ALARM c_CLOCK c_DAY F40)
 have C_count_tick:Cal l.prog w K mg base 1 "count_tick" ["state"] aU:=aw F41 g41 b41 (kx (k:=0) c_COUNT F41)
 have C_last_ring:Cal l.prog w K mg base 2 "last_ring" ["state","many"] b_:=aw F42 g42 b42 (mK (k:=1) C_alarm_tick.m C_count_tick.m m_max c_DAY F42)
 have C_ring_on:Cal l.prog w K mg base 3 "ring_on" ["state","many"] cQ:=aw F43 g43 b43 (pC (k:=2) C_last_ring.m m_max c_FULL_RING c_RING F43)
 have C_counted:Cal l.prog w K mg base 4 "counted" ["book","state","many"] cj:=aw F44 g44 b44 (pS (k:=3) C_count_on.m C_held_on.m C_idle_on.m C_laps_on.m C_ring_on.m c_ALARM c_CLOCK c_COUNT c_DAY c_HELD c_LAPS c_MODE F44)
 have C_goes_back:Cal l.prog w K mg base 1 "goes_back" ["book","state"] cb:=aw F45 g45 b45 (lN (k:=0) c_MODE F45)
 have C_ticks_to_long:Cal l.prog w K mg base 1 "ticks_to_long" ["book","state"] bm:=aw F46 g46 b46 (ii (k:=0) m_max c_HELD F46)
 have C_turn_tick:Cal l.prog w K mg base 2 "turn_tick" ["book","state"] bE:=aw F47 g47 b47 (mh (k:=1) C_goes_back.m C_ticks_to_back.m C_ticks_to_long.m c_HELD F47)
 have C_turned:Cal l.prog w K mg base 5 "turned" ["book","state"] dG:=aw F48 g48 b48 (qP (k:=4) C_press_done.m C_put.m c_HELD c_MODE F48)
 have C_behind_turn:Cal l.prog w K mg base 6 "behind_turn" ["book","state"] br:=aw F49 g49 b49 (jy (k:=5) C_counted.m C_turn_tick.m C_turned.m F49)
 have C_stretches:Cal l.prog w K mg base 7 "stretches" ["book","state","many"] aY:=aw F50 g50 b50 (lF (k:=6) C_behind_turn.m C_turn_tick.m F50)
 have C_ticked:Cal l.prog w K mg base 8 "ticked" ["book","state","many"] dz:=aw F51 g51 b51 (rJ (k:=7) C_counted.m C_stretches.m F51)
 have C_gone:Cal l.prog w K mg base 9 "gone" ["book","state","event"] dU:=aw F52 g52 b52 (tL (k:=8) C_let_go.m C_pushed.m C_ticked.m F52)
 have C_two_figures:Cal l.prog w K mg base 2 "two_figures" ["number"] aK:=aw F53 g53 b53 (jO (k:=1) C_figures.m F53)
 have C_hour_text:Cal l.prog w K mg base 3 "hour_text" ["hour","minute"] bB:=aw F54 g54 b54 (lp (k:=2) C_two_figures.m F54)
 have C_alarm_text:Cal l.prog w K mg base 4 "alarm_text" ["state"] bM:=aw F55 g55 b55 (kg (k:=3) C_hour_text.m c_ALARM F55)
 have C_minute_text:Cal l.prog w K mg base 3 "minute_text" ["seconds"] bc:=aw F56 g56 b56 (jG (k:=2) C_figures.m C_two_figures.m F56)
 have C_count_text:Cal l.prog w K mg base 4 "count_text" ["state"] bL:=aw F57 g57 b57 (ki (k:=3) C_minute_text.m c_COUNT F57)
 have C_laps_text:Cal l.prog w K mg base 4 "laps_text" ["state"] bV:=aw F58 g58 b58 (mI (k:=3) C_minute_text.m m_len m_str c_LAPS F58)
 have C_time_text:Cal l.prog w K mg base 4 "time_text" ["state"] bX:=aw F59 g59 b59 (l_ (k:=3) C_hour_text.m C_two_figures.m c_CLOCK F59)
 have T_FACE_TEXTS:TabOk l.prog w K mg base 4 "FACE_TEXTS" tab_FACE_TEXTS:=⟨qa_FACE_TEXTS,_,D_FACE_TEXTS,fun h X=>oJ _ r_FACE_TEXTS (show List.Nodup [Str.ofString "time",Str.ofString "alarm",Str.ofString "laps",Str.ofString "count"] from by decide +kernel) h X,(.cons (fnk_of C_time_text.m g59) (.cons (fnk_of C_alarm_text.m g55) (.cons (fnk_of C_laps_text.m g58) (.cons (fnk_of C_count_text.m g57) .nil))))⟩
 have K_shown:=sW (P:=l.prog) (w:=w) (base:=base) (k:=4) C_alarm_text.m C_count_text.m C_laps_text.m C_time_text.m c_MODE c_RING T_FACE_TEXTS F60
 have C_shown:Cal l.prog w K mg base 5 "shown" ["book","state"] cN:=aw F60 g60 b60 K_shown
 have C_shown_going:Cal l.prog w K mg base 5 "shown_going" ["book","state"] cN:=⟨_,_,K_shown,ga_shown_going,F60.kp,b60⟩
 have C_seen:Cal l.prog w K mg base 10 "seen" ["book","row"] fO:=aw F61 g61 b61 (tY (k:=9) C_begun.m C_gone.m m_tuple C_shown_going.m F61)
 have P_rang:MetP l.prog w K mg base 1 C "rang" ["self"] (bJ C):=⟨_,_,kM (k:=0) cl n_rung F62,M62,b62⟩
 have P_row:MetP l.prog w K mg base 1 C "row" ["self"] (bi C):=⟨_,_,lL (k:=0) m_tuple cl n_past F63,M63,b63⟩
 have P_shown:MetP l.prog w K mg base 6 C "shown" ["self"] (bb C):=⟨_,_,jN (k:=5) C_shown_going.m cl n_book n_present F64,M64,b64⟩
 have P_state:MetP l.prog w K mg base 1 C "state" ["self"] (be C):=⟨_,_,jv (k:=0) cl n_present F65,M65,b65⟩
 have C__law_asked:Cal l.prog w K mg base 7 "_law_asked" ["_law_watch"] (aI C):=aw F66 g66 b66 (ka (k:=6) cl P_rang.m P_row.m P_shown.m P_state.m F66)
 have C_ring_count:Cal l.prog w K mg base 2 "ring_count" ["state","many"] bf:=aw F67 g67 b67 (kr (k:=1) C_alarm_tick.m C_count_tick.m c_DAY F67)
 have C_how_many_rings:Cal l.prog w K mg base 8 "how_many_rings" ["book","state","many"] ba:=aw F68 g68 b68 (gr (k:=7) C_ring_count.m C_stretches.m m_sum F68)
 have C_rings_by:Cal l.prog w K mg base 9 "rings_by" ["book","state","event"] ca:=aw F69 g69 b69 (nE (k:=8) C_how_many_rings.m F69)
 have M_happen:MetM l.prog w K mg base 10 C "happen" ["self","event"] (aW C):=⟨_,_,jb (k:=9) C_gone.m C_rings_by.m cl n_book n_past n_present n_rung F70,M70,b70⟩
 have M_down:MetM l.prog w K mg base 11 C "down" ["self","button"] (cL C):=⟨_,_,kA (k:=10) cl M_happen.m F71,M71,b71⟩
 have M_ticks:MetM l.prog w K mg base 11 C "ticks" ["self","many"] (cu C):=⟨_,_,j4 (k:=10) cl M_happen.m F72,M72,b72⟩
 have M_up:MetM l.prog w K mg base 11 C "up" ["self","button"] (dH C):=⟨_,_,nN (k:=10) cl M_happen.m F73,M73,b73⟩
 have C__law_do:CalM l.prog w K mg base 12 "_law_do" ["_law_watch","_law_event_here"] 0 (cg C):=⟨_,_,ph (k:=11) cl M_down.m M_ticks.m M_up.m F74,g74,F74.kp,b74⟩
 have M_undo:MetM l.prog w K mg base 1 C "undo" ["self"] (bN C):=⟨_,_,kR (k:=0) m_len cl n_past n_present n_rung F75,M75,b75⟩
 have FI:=gA (P:=l.prog) (w:=w) (base:=base) (k:=1) C_begun.m cl n_book n_past n_present n_rung F76
 exact (uI C__law_book.m C__law_drawn.m C__law_mixed.m C__law_ready.m C__law_row.m C_begun.m C_read_row.m C_row_text.m C_seen.m m_enumerate C__law_asked.m cl M_undo.m P_row.m P_shown.m P_state.m C__law_do.m ⟨mkC,M76.at_,M76.fn,kc⟩ FI b76 mgW (by decide) F77).imp (sp_imp (true_law C))
theorem walk {l:PySem.W.OpenLaw} {q:Program} {loose:List Str} {XP:(Str->Option Value)->Heap->Prop} {YP:World->Heap->Prop} {d:DefRec} {K:Params->PySem.W.Frag} (hn:l.most=some 63) (hdf:d.params.defaults=[])
    (hY:∀ (w:World) (h:Heap),YP w h->(K w.params).In h)
    (F:∀ (w:World) (mg:Str->Option Value) (fa:Addr) (h:Heap),(K w.params).In h->h.Ns mainGlobals mg->mg d.name=some (.ref fa) ->
      ∃ fd:FuncData,(∀ (s:Shared) (u:Value),BindsTo s fd ⟨[u],[]⟩ [("_law_script",u)])/\∀ base:Heap,(K w.params).In base->base.Ns mainGlobals mg->FnOk l.prog w (K w.params) mg base CX0 13 fa fd ["_law_script"] (spD (K w.params) gY)) :
    PySem.W.WalkO q loose XP YP l.row.toRowW d [] (fun f vs=>PySem.call f vs) :=
  L2.walk_of (n:=63) (k:=13) (x:="_law_script") (CX:=fun _=>CX0) (sp:=fun w=>spD (K w.params) gY) hn (by decide) hdf ⟨rfl,by decide,by decide,rfl⟩ hY F (fun w H a ns hl _ hS=>⟨[.fro (ns.map .int)],.bl true,Reps.one ⟨a,ns.map V.int,rfl,hS,reps_ints _ _ ns⟩,law_true ns hl,fun v H' _ hv=>hv⟩) fun _ _ _ _ _ z=>z
end HW
namespace PySem.W.Fast
theorem tw15235735447253302432:True:=⟨⟩
theorem tw5340654721333096704:True:=⟨⟩
theorem tw7150707010346386816:True:=⟨⟩
theorem tw5531986691717956128:True:=⟨⟩
theorem tw3499836987418247173:True:=⟨⟩
theorem tw9238509963753243911:True:=⟨⟩
theorem tw14350338162845132327:True:=⟨⟩
theorem tw4500519359801974471:True:=⟨⟩
theorem tw15420430875575307111:True:=⟨⟩
theorem tw734644138832263181:True:=⟨⟩
theorem tw11940697446404250253:True:=⟨⟩
theorem tw242403076053692045:True:=⟨⟩
theorem tw14015650179745243438:True:=⟨⟩
theorem tw2730709525819929519:True:=⟨⟩
theorem tw18430027519336196304:True:=⟨⟩
theorem tw14906738787211573362:True:=⟨⟩
theorem tw14620861434804224979:True:=⟨⟩
theorem tw16771412725713579124:True:=⟨⟩
theorem tw11869465723491785752:True:=⟨⟩
theorem tw5656024689787712184:True:=⟨⟩
theorem tw17311217976652732666:True:=⟨⟩
theorem tw17182856719470148602:True:=⟨⟩
theorem tw760390121827352604:True:=⟨⟩
theorem tw17067239637788464220:True:=⟨⟩
theorem tw2544333894602337052:True:=⟨⟩
theorem tw7157919480204230301:True:=⟨⟩
theorem tw10187614412083273437:True:=⟨⟩
theorem tw1683969739511849502:True:=⟨⟩
noncomputable def tw15807469902301119838:=PySem.Challenge.pw_handwatch_k61_whole_rows_done_anew
theorem te15807469902301119838:PySem.Challenge.pw_handwatch_k61_whole_rows_done_anew=tw15807469902301119838:=rfl
end PySem.W.Fast
open PySem PySem.W PyProof.Rows
set_option maxRecDepth 100000 in
set_option maxHeartbeats 0 in
theorem PySem.Challenge.cw_handwatch_k61_whole_rows_done_anew_holds : PySem.Challenge.rw_handwatch_k61_whole_rows_done_anew.Holds := by
 w_on;o_law;k_head;(case hw=>w_witness2)
 k_fill
 refine HW.walk (l:=PySem.Challenge.rw_handwatch_k61_whole_rows_done_anew) rfl rfl (fun w h Y=>PySem.W.kIn_of Y) ?F
 case F =>
  intro w mg fa h KX G hmg
  refine' HW.all_mk KX G hmg ?_ ?_ ?_ ?_ ?_ ?_ ?_ ?_ ?_ ?_ ?_ ?_ ?_ ?_ ?_ ?_ ?_ ?_ ?_ ?_ ?_ ?_ ?_ ?_ ?_ ?_ ?_ ?_ ?_ ?_ ?_ ?_ ?_ ?_ ?_ ?_ ?_ ?_ ?_ ?_ ?_ ?_ ?_ ?_ ?_ ?_ ?_ ?_ ?_ ?_ ?_ ?_ ?_ ?_ ?_ ?_ ?_ ?_ ?_ ?_ ?_ ?_ ?_ ?_ ?_ ?_ ?_ ?_ ?_ ?_ ?_ ?_ ?_ ?_ ?_ ?_ ?_ ?_ ?_ ?_ ?_ ?_ ?_ ?_ ?_ ?_ ?_ ?_ ?_ ?_ ?_ ?_ ?_ ?_ ?_ ?_ ?_ ?_ ?_ ?_ ?_ ?_ ?_ ?_ ?_ ?_ ?_ ?_ ?_ ?_ ?_ ?_ ?_ ?_ ?_ ?_ ?_ ?_ ?_ ?_ ?_ ?_ ?_ ?_ ?_
  all_goals try first | k_is | (refine' HW.fn4_mk ?_ ?_ ?_ ?_<;>try k_is) | (refine' HW.fn5_mk ?_ ?_ ?_ ?_ ?_<;>try k_is)
